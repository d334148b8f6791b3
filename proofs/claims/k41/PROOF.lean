import PyProof.Rows.All
import Wide.All
import KE.KNestM
import KE.KUnpack
import KE.KEqDeep
import KE.KPassesOwn
import KE.RegKIsAll
import KE.RegKTryMore
import OpenK.KOwn
import KE.KItem
import KE.KNest
import KE.KLam
import KE.KSortKey
import KE.KSortTup
import KE.KRevIter
import Wide.FinOn
import Lean
import PyProof.EqAt
import PyProof.EqKinds
import PyProof.TupleCall
import KE.KNest
import KE.KNestM
import KE.KLam
import KE.KSortKey
import KE.KSortTup
import PySem.Challenge.RW_factorforge_k41_roots
set_option Elab.async false
set_option linter.all false
set_option maxRecDepth 100000
set_option maxHeartbeats 4000000
local macro_rules | `(tactic| omega) => `(tactic| lia)
noncomputable section
abbrev Li:=List Int
abbrev Fg:=PySem.W.Frag
abbrev Mg:=PySem.Str->Option PySem.Value
abbrev Lv:=List PySem.Value
abbrev Ls:=List PySem.Str
def aa:=@List.length_map
def ac:=@List.getElem?_eq_getElem
def ae:=@List.mem_cons_of_mem
def af:=@List.mem_cons_self
def ag:=@if_neg
def ah:=@if_pos
def ai:=@List.length_append
def aj:=@List.getElem?_eq_some_iff
def ao:=@List.length_range
def aq:=@Nat.le_refl
def aw:=@List.size_toArray
def ay:=@PySem.Heap.get?_push_of_some
def az:=@List.getElem?_map
def aA:=@PySem.Heap.lt_size
def aB:=@PySem.wpAny_bind
def aC:=@List.mem_cons
def aD:=@Nat.lt_of_lt_of_le
def aE:=@Int.toNat_natCast
def aG:=@List.length_replicate
def aH:=@List.mem_append_right
def aI:=@Option.some.inj
def aJ:=@Nat.le_trans
def aK:=@decide_eq_true
def aM:=@List.length_take
def aN:=@decide_eq_false
def aO:=@PySem.PassesOwn.never
def aP:=@Int.dvd_mul_of_dvd_right
def aQ:=@Int.dvd_zero
def aR:=@List.length_cons
def aS:=@List.getElem?_append_left
def aT:=@Int.sub_zero
def aU:=@List.mem_filter
def aV:=@Nat.lt_of_le_of_lt
def aW:=@Int.mul_zero
def aX:=@List.mem_map
def aY:=@Int.emod_lt_of_pos
def aZ:=@List.filterMap_cons
def a7:=@List.mem_range
def a8:=@Int.emod_nonneg
def a9:=@List.length_drop
def bc:=@Bool.false_ne_true
def be:=@Nat.ne_of_lt
def bh:=@List.append_nil
def bi:=@PySem.Heap.get?_push_size
def bj:=@Int.dvd_mul_of_dvd_left
def bn:=@Int.toNat_of_nonneg
def bp:=@Int.emod_eq_of_lt
def bq:=@Nat.zero_le
def br:=@List.getElem?_append_right
def bu:=@List.getElem_range
def bv:=@List.mem_singleton
def bw:=@Int.dvd_neg
def bx:=@Nat.pow_lt_pow_right
def bA:=@List.getElem_map
def bB:=@List.length_set
def bC:=@Int.mul_le_mul_of_nonneg_left
def bD:=@Int.dvd_add
def bE:=@List.map_map
def bF:=@List.getElem?_replicate
def bG:=@List.getElem?_eq_none
def bH:=@Int.add_zero
def bI:=@PySem.wpAny_pure
def bJ:=@List.getElem_mem
def bK:=@List.map_append
def bM:=@List.map_cons
def bN:=@PySem.Heap.get?_update_other
def bO:=@Int.mul_assoc
def bQ:=@List.mem_of_getElem?
def bR:=@Int.mul_one
def bT:=@List.flatten_cons
def bU:=@of_decide_eq_true
def bV:=@Int.zero_mul
def bW:=@Int.emod_eq_zero_of_dvd
def bX:=@Nat.le_of_lt
def bY:=@List.pairwise_cons
def bZ:=@List.length_singleton
def b7:=@List.map_congr_left
def b8:=@Int.mul_nonpos_of_nonneg_of_nonpos
def b9:=@List.mem_append_left
def ce:=@List.mem_iff_getElem
def cf:=@List.take_of_length_le
def cj:=@List.length_mapIdx
def ck:=@Ne.symm
def cq:=@PyProof.Rows.callWith_type1
def cr:=@PySem.W.kia_one
def cu:=@Int.mul_comm
def cw:=@List.getElem?_range
def cC:=@Int.one_mul
def cD:=@List.getElem?_mapIdx
def cE:=@Classical.byContradiction
def cF:=@List.ext_getElem
def cG:=@Int.mul_sub
def cH:=@Int.sub_self
def cI:=@List.mem_filterMap
def cJ:=@PySem.wpAny_Call_Name_kw
def cL:=@List.filter_cons_of_pos
def cM:=@List.filter_cons_of_neg
def cN:=@List.length_nil
def cO:=@Nat.pow_le_pow_right
def cQ:=@List.drop_eq_nil_of_le
def cS:=@List.getElem_replicate
def cT:=@List.pairwise_map
def cU:=@List.flatMap_cons
def cV:=@List.mem_append
def cX:=@List.nodup_cons
def cY:=@List.length_filter_le
def cZ:=@Option.isSome_iff_exists
def c5:=@Nat.lt_succ_self
def c6:=@Nat.lt_of_not_le
def c7:=@Nat.lt_irrefl
def c8:=@Nat.mul_comm
def c9:=@Int.zero_add
def da:=@List.append_assoc
def de:=@List.getElem?_set
def df:=@Array.length_toList
def dh:=@List.of_mem_zip
def di:=@PySem.mem_of_lookup
def dj:=@List.replicate_succ
def dk:=@Nat.min_eq_left
def dm:=@Nat.not_lt_zero
def dq:=@Array.getElem?_eq_some_iff
def dt:=@List.take_length
def du:=@PySem.Heap.get?_update_self
def dw:=@PySem.Obj.data_mapFields
def dz:=@List.zip_cons_cons
def dA:=@PySem.W.mg_of
def dB:=@Int.mul_ediv_add_emod
def dC:=@PySem.sizeLine_eq
def dD:=@List.pairwise_iff_getElem
def dE:=@PySem.wpAny_passesOwn
def dF:=@List.getElem?_take_of_lt
def dG:=@List.length_zip
def dH:=@PySem.wpAny_holding
def dI:=@Bool.decide_eq_true
def dJ:=@Nat.pow_pos
def dM:=@List.length_eq_zero_iff
def dN:=@Nat.le_of_not_lt
def dO:=@List.all_eq_true
def dP:=@PyProof.Rows.subscriptTail_builtinR
def dQ:=@PySem.W.callWith_K
def dR:=@List.dropLast_concat_getLast
def dS:=@List.getElem?_drop
def dU:=@Int.sub_add_cancel
def dW:=@Option.map_some
def dX:=@Nat.ne_of_gt
def dY:=@List.map_nil
def dZ:=@PySem.Obj.isFreed_of_fields
def d6:=@Int.natAbs_dvd_natAbs
def d7:=@PySem.wpAny_truthy_bool
def d8:=@List.ext_getElem?
def d9:=@List.Pairwise.map
def eu:=@List.getD_eq_getElem?_getD
def eC:=@PySem.Calls.Name_function_global
def eE:=@Bool.and_eq_true_iff
def eG:=@List.getElem?_set_ne
def eH:=@PySem.wpAny_loadName_local
def eI:=@Int.emod_eq_emod_iff_emod_sub_eq_zero
def eJ:=@List.mem_of_find?_eq_some
def eK:=@List.mapIdx_eq_zipIdx_map
def eM:=@List.drop_eq_getElem_cons
def eO:=@Nat.min_eq_right
def eQ:=@Option.getD_some
def eR:=@List.length_pos_iff
def eS:=@Int.add_mul
def eU:=@PySem.Heap.SameBut.update
def eV:=@Int.dvd_sub
def eW:=@List.length_zipWith
def eX:=@List.flatten_append
def eY:=@List.flatMap_append
def eZ:=@PySem.wpAny_mono
def fe:=@Nat.pow_succ
def fg:=@PyProof.Rows.callWith_kw
def fh:=@PySem.wpAny_execs_nil
def fj:=@PySem.F.plainAttrs_list
def fk:=@Int.neg_one_mul
def fq:=@Int.natCast_mul
def ft:=@Int.natCast_dvd_natCast
def fv:=@Int.le_of_dvd
def fw:=@List.getElem?_set_self
def fy:=@Option.map_eq_some_iff
def fA:=@List.filter_congr
def fE:=@Int.mul_emod
def fG:=@Nat.le_of_ble_eq_true
def fH:=@Classical.choose_spec
def fI:=@List.not_mem_nil
def fJ:=@List.flatMap_nil
def fM:=@PySem.W.looks_findIn
def fO:=@List.length_dropLast
def fP:=@PySem.wpAny_newFunctionEnv
def fQ:=@Int.emod_emod_of_dvd
def fR:=@List.map_eq_cons_iff
def fS:=@Nat.mul_le_mul_right
def fU:=@PySem.wpAny_call
def fV:=@Bool.eq_iff_iff
def fW:=@PySem.W.plainGet_of
def fX:=@List.filter_nil
def fY:=@Int.le_refl
def fZ:=@Int.sub_mul
def f6:=@Int.mul_add
def f7:=@Int.dvd_sub_self_of_emod_eq
def f8:=@Int.fdiv_eq_ediv_of_nonneg
def f9:=@PySem.F.excBase_ValueError
def gf:=@Array.perm_iff_toList_perm
def gq:=@Int.add_mul_emod_self_left
def gr:=@PySem.wpAny_Constant_int
def gu:=@PySem.codeAny_mono
def gv:=@Nat.succ_mul
def gw:=@Int.dvd_refl
def gz:=@Nat.sub_zero
def gA:=@List.filter_append
def gB:=@Nat.lt_or_gt_of_ne
def gC:=@Nat.mul_div_cancel
def gD:=@Nat.succ_pos
def gE:=@List.append_of_mem
def gF:=@List.getElem?_eq_none_iff
def gG:=@Nat.mul_le_mul
def gH:=@List.getElem_append_right
def gJ:=@List.getElem_append_left
def gK:=@Int.mul_left_comm
def gL:=@Classical.not_imp
def gM:=@List.nodup_append
def gN:=@List.Pairwise.imp_of_mem
def gO:=@List.length_filterMap_le
def gP:=@Nat.mul_assoc
def gR:=@List.take_nil
def gS:=@PySem.F.attr_ValueError
def gT:=@PyProof.Rows.listUpdate_at
def gU:=@List.getLast_eq_getElem
def gV:=@Int.dvd_of_emod_eq_zero
def gW:=@List.pairwise_singleton
def gX:=@Nat.dvd_div_iff_mul_dvd
def gY:=@Classical.axiomOfChoice
def gZ:=@PySem.wpAny_eqBool_int
def g5:=@PySem.W.any_some
def g6:=@Bool.and_eq_true
def g7:=@List.getElem_zip
def g8:=@List.nodup_range
def g9:=@Int.gcd_one_left
def hJ:=@List.map_zipWith
def hO:=@List.perm_middle
def hU:=@PySem.W.cellsFrom_some
def hV:=@List.pairwise_lt_range
def hW:=@PySem.W.methodCall_KW
def hZ:=@PySem.seqIndex_neg
def ia:=@Nat.add_comm
def ib:=@List.find?_some
def ie:=@Bool.beq_eq_decide_eq
def ig:=@Int.add_comm
def ii:=@PySem.F.slot_list_pop
def ij:=@PySem.F.type_list_pop
def ik:=@Nat.zero_add
def im:=@List.getElem?_toArray
def io:=@List.filter_map
def iq:=@PySem.W.ke_canLayAll0
def iu:=@List.range_succ
def iw:=@Int.pow_succ
def iz:=@PySem.wpAny_Name
def iA:=@List.getElem?_zipIdx
def iB:=@PySem.W.kla_callFunE
def iC:=@PySem.W.kla_codeExpr
def iD:=@Classical.not_forall
def iE:=@List.getElem_zipWith
def iF:=@List.pairwise_append
def iG:=@Int.natAbs_mul
def iH:=@List.drop_zero
def iI:=@Int.mul_nonneg
def iJ:=@List.take_zero
def iK:=@Nat.le_succ
def iM:=@PySem.seqIndex_of
def iN:=@PySem.W.codeHd_of_K
def iO:=@List.reverse_append
def iQ:=@Int.mul_neg
def iR:=@Array.toList_append
def iT:=@Int.neg_mul
def iU:=@Int.pow_one
def iV:=@Nat.mul_le_mul_left
def iW:=@Nat.pow_le_pow_left
def iX:=@List.filter_eq_self
def iY:=@List.map_drop
def iZ:=@List.map_take
def i5:=@Int.zero_emod
def i6:=@PySem.call_meets
def i7:=@decide_not
def i8:=@beq_iff_eq
def i9:=@dif_pos
def ja:=@Nat.le_of_eq
def jb:=@Int.emod_def
def jc:=@Int.le_of_lt
def jd:=@Nat.mul_succ
def je:=@Nat.zero_div
def jf:=@Int.pow_zero
def jg:=@Nat.min_self
def jh:=@Nat.log2_lt
def ji:=@Nat.pow_add
def jj:=@if_false
def jk:=@Eq.trans
theorem tJ:True:=True.intro
theorem gQ {A:Type _}{l:List A}{i:Nat}{a:A}:l.getD i a=l[i]?.getD a:=eu ..
theorem lP {A:Type _}{l:List A}(h:l≠[]):0<l.length:=eR.mpr h
section
open PySem PySem.W PyProof.Rows
namespace lE
def top (i:Nat):Stmt:=PySem.Challenge.pw_factorforge_k41_roots.main.body.getD i (.Pass ⟨0,0,0,0⟩)
end lE
def lE.view:PySem.Program:={ PySem.Challenge.rw_factorforge_k41_roots.row.toRowW.prog with main:={ PySem.Challenge.rw_factorforge_k41_roots.row.toRowW.prog.main with body:=[lE.top 0,lE.top 2,lE.top 3,lE.top 4,lE.top 5,lE.top 7,lE.top 8,lE.top 9,lE.top 10,lE.top 11,lE.top 12,lE.top 13,lE.top 14,lE.top 15,lE.top 17,lE.top 18,lE.top 19,lE.top 21,lE.top 22,lE.top 23,lE.top 24,lE.top 26,lE.top 27,lE.top 29,lE.top 30,lE.top 31,lE.top 32,lE.top 33,lE.top 34,lE.top 35,lE.top 36,lE.top 37,lE.top 38,lE.top 40,lE.top 41,lE.top 42,lE.top 43,lE.top 44,lE.top 45,lE.top 46,lE.top 48,lE.top 49,lE.top 50,lE.top 51,lE.top 52,lE.top 53,lE.top 55,lE.top 56,lE.top 57,lE.top 58,lE.top 59,lE.top 60,lE.top 61,lE.top 62,lE.top 63,lE.top 64,lE.top 65,lE.top 66] } }
def X.trT (tb:String->Option Builtin)(p:Program)(w:World)(n₀:Nat)(ann:Option Value):Nat->SharedT->Thread->Option SharedT
 |0,_,_=>none
 |n+1,s,t=>match through t with
  |true=>some s
  |false=>match stepOk n₀ ann t with
   |false=>none
   |true=>match stepT (denote tb) p w s t with
    |some (s',t')=>X.trT tb p w n₀ ann n s' t'
    |none=>none
theorem X.Rr {tb:String->Option Builtin}{p:Program}{w:World}{n₀:Nat}{ann:Option Value}:∀{n:Nat} {s s':SharedT} {t:Thread},X.trT tb p w n₀ ann n s t=some s' -> topRun tb p w n₀ ann n s.abs t=some s'.abs
 |0,_,_,_,h=>by cases h
 |n+1,s,s',t,h=>by
  unfold X.trT at h;unfold topRun;cases ht:through t with
  |true=>rw[ht]at h;cases h;rfl
  |false=>
   rw[ht]at h;cases hk:stepOk n₀ ann t with
   |false=>rw[hk]at h;cases h
   |true=>
    rw[hk]at h;cases hs:stepT (denote tb) p w s t with
    |none=>rw[hs]at h;cases h
    |some r=>obtain⟨s₂,t₂⟩:=r;rw[hs]at h;rw[stepT_spec hs];exact X.Rr h
def X.toT (s:Shared):SharedT:=⟨(s.heap.objs.toList.foldl (λ(x:BT×Nat) o=>(x.1.ins x.2 o,x.2+1)) (BT.nil,0)).1,s.heap.objs.size,s.heap.life,s.gens,s.drawn,s.toks,s.os⟩
def X.RT (tb:String->Option Builtin)(p:Program)(w:World)(N:Nat):Option (Shared×SharedT):=(fencedOpening tb p w N).bind λs0=>(X.trT tb p w s0.heap.objs.size (s0.heap.nsMap mainGlobals "__annotations__") N (X.toT s0) (topStub p)).map λs1=>(s0,s1)
def X.chk (p:Program)(s0 s1:Shared):Bool:=(s0.heap.isNs mainGlobals && s0.gens.size == 0) && (staticsOk (importedModules p.main.body) s0.heap s1.heap && namesBound p s1.heap && gensDone s1 && laidKept s0.heap s1.heap)
theorem X.Ew {p:Program}{w:World}{N:Nat}{A:Type}{f:Shared->A}{a:A}(h0:(fencedOpening treeTable p w N).map (λs=>(X.toT s).tree.list s.heap.objs.size)=(fencedOpening treeTable p w N).map (λs=>s.heap.objs.toList))
  (h1:(X.RT treeTable p w N).map (λx=>(X.chk p x.1 x.2.abs,f x.2.abs))=some (true,a)):(openEnds treeTable p w N).map f=some a:=by
 unfold X.RT at h1;unfold openEnds;cases e:fencedOpening treeTable p w N with
 |none=>rw[e]at h1;cases h1
 |some s0=>
  rw[e]at h0 h1;have hl:(X.toT s0).tree.list s0.heap.objs.size=s0.heap.objs.toList:=aI h0;have ha:(X.toT s0).abs=s0:=by obtain⟨⟨objs,life⟩,gens,drawn,toks,os⟩:=s0;show(⟨⟨((X.toT ⟨⟨objs,life⟩,gens,drawn,toks,os⟩).tree.list objs.size).toArray,life⟩,gens,drawn,toks,os⟩:Shared)=_;rw[hl]
  have h1:((X.trT treeTable p w s0.heap.objs.size (s0.heap.nsMap mainGlobals "__annotations__") N (X.toT s0) (topStub p)).map λs1=>(s0,s1)).map (λx=>(X.chk p x.1 x.2.abs,f x.2.abs))=some (true,a):=h1;cases e1:X.trT treeTable p w s0.heap.objs.size (s0.heap.nsMap mainGlobals "__annotations__") N (X.toT s0) (topStub p) with
  |none=>rw[e1]at h1;cases h1
  |some s1=>
   rw[e1]at h1;have h1:=aI h1;have c:=congrArg Prod.fst h1;have d:=congrArg Prod.snd h1;have c:X.chk p s0 s1.abs=true:=c;have d:f s1.abs=a:=d;have r:=X.Rr e1;rw[ha]at r;obtain⟨c1,c2⟩:=eE.mp c;show(topFrom treeTable p w N s0).map f=some a;unfold topFrom;rw[c1,r];show(match staticsOk (importedModules p.main.body) s0.heap s1.abs.heap && namesBound p s1.abs.heap && gensDone s1.abs && laidKept s0.heap s1.abs.heap with|true=>some s1.abs|false=>none).map f=some a
   rw[c2];exact congrArg some d
theorem X.both {S A B:Type}{o:Option S}{c:S->Bool}{f:S->A}{y:S->B}{g:A}{a:B}(h1:o.map (λx=>(c x,f x))=some (true,g))(h2:o.map y=some a):o.map (λx=>(c x,(f x,y x)))=some (true,(g,a)):=by
 cases o with
 |none=>cases h2
 |some s=>have e1:=aI h1;have e2:=aI h2;have e3:c s=true:=congrArg Prod.fst e1;have e4:f s=g:=congrArg Prod.snd e1;show some (c s,(f s,y s))=_;rw[e3,e4,e2]
abbrev lE.Uo (s:Shared):=openSeen lE.view [] (importedModules PySem.Challenge.rw_factorforge_k41_roots.row.toRowW.prog.main.body) (λs=>xlAt lE.view [] s && recOk (RowW.records PySem.Challenge.rw_factorforge_k41_roots.row.toRowW) s) true s
theorem lE.h0:∀w,(fencedOpening treeTable PySem.Challenge.rw_factorforge_k41_roots.row.toRowW.prog w 20000).map (λs=>(X.toT s).tree.list s.heap.objs.size)=(fencedOpening treeTable PySem.Challenge.rw_factorforge_k41_roots.row.toRowW.prog w 20000).map (λs=>s.heap.objs.toList):=by intro w;kernel_rfl
theorem lE.h1:∀w,(X.RT treeTable PySem.Challenge.rw_factorforge_k41_roots.row.toRowW.prog w 20000).map (λx=>(X.chk PySem.Challenge.rw_factorforge_k41_roots.row.toRowW.prog x.1 x.2.abs,lE.Uo x.2.abs))=some (true,openGood lE.view []):=by intro w;kernel_rfl
theorem lE.fin {A:Type}{y:Shared->A}{a:A}(w:World)(h:(X.RT treeTable PySem.Challenge.rw_factorforge_k41_roots.row.toRowW.prog w 20000).map (λx=>y x.2.abs)=some a):(openEnds treeTable PySem.Challenge.rw_factorforge_k41_roots.row.toRowW.prog w 20000).map (λs=>(lE.Uo s,y s))=some (openGood lE.view [],a):=
 X.Ew (f:=λs=>(lE.Uo s,y s)) (lE.h0 w) (X.both (lE.h1 w) h)
end
namespace L2
open PySem PySem.Spec PyProof.Rows
abbrev Key:=Sum Int Str
def keyIs:Key->Value->Bool
 | .inl k,v=>Value.isInt k v
 | .inr x,v=>Value.isStrOf x v
def keyH (w:World):Key->Int
 | .inl k=>hashInt k
 | .inr x=>hashStr w x
theorem keyIs_shape:∀{k:Key} {v:Value},keyIs k v=true->(∃i t,k=Sum.inl i/\v=Value.int i t)\/(∃x t,k=Sum.inr x/\v=Value.str x t)
 | .inl i,v,h=>by obtain⟨t,e⟩:=Value.isInt_shape (k:=i) (v:=v) h;exact .inl ⟨i,t,rfl,e⟩
 | .inr x,v,h=>by obtain⟨t,e⟩:=Value.isStrOf_shape (x:=x) (v:=v) h;exact .inr ⟨x,t,rfl,e⟩
theorem key_ll (a b:Int):decide ((Sum.inl a:Key)=Sum.inl b)=(a == b):=by
 by_cases e:a=b
 ·subst e;simp
 ·have h:¬(Sum.inl a:Key)=Sum.inl b:=λq=>e (Sum.inl.inj q);rw[aN h];exact(beq_eq_false_iff_ne.mpr e).symm
theorem key_rr (a b:Str):decide ((Sum.inr a:Key)=Sum.inr b)=decide (a=b):=by
 by_cases e:a=b
 ·subst e;simp
 ·have h:¬(Sum.inr a:Key)=Sum.inr b:=λq=>e (Sum.inr.inj q);rw[aN h,aN e]
theorem key_lr (a:Int)(b:Str):decide ((Sum.inl a:Key)=Sum.inr b)=false:=aN (λq=>nomatch q)
theorem key_rl (a:Str)(b:Int):decide ((Sum.inr a:Key)=Sum.inl b)=false:=aN (λq=>nomatch q)
def mixKind (prog:Program)(w:World):PySem.KeyKind prog w Key where
 is:=keyIs
 hash:=keyH w
 inj:=λv a b ha hb=>by
  rcases keyIs_shape ha with⟨i,t,rfl,rfl⟩|⟨x,t,rfl,rfl⟩
  ·rcases keyIs_shape hb with⟨j,u,rfl,e⟩|⟨y,u,rfl,e⟩
   ·injection e with e1 _;rw[e1]
   ·exact nomatch e
  ·rcases keyIs_shape hb with⟨j,u,rfl,e⟩|⟨y,u,rfl,e⟩
   ·exact nomatch e
   ·injection e with e1 _;rw[e1]
 byValue:=λk v h=>by rcases keyIs_shape h with⟨i,t,rfl,rfl⟩|⟨x,t,rfl,rfl⟩<;>rfl
 pyHash:=λhv h=>by
  rcases keyIs_shape hv with⟨i,t,rfl,rfl⟩|⟨x,t,rfl,rfl⟩
  ·exact wpAny_pyHash_int h
  ·exact wpAny_pyHash_str h
 eqBool:=λhu hv h=>by
  rcases keyIs_shape hu with⟨i,t,rfl,rfl⟩|⟨x,t,rfl,rfl⟩
  ·rcases keyIs_shape hv with⟨j,u,rfl,rfl⟩|⟨y,u,rfl,rfl⟩
   ·rw[key_ll]at h;exact gZ h
   ·rw[key_lr]at h;exact SeqAt.EqAt.int_str i t y u _ _ _ _ h
  ·rcases keyIs_shape hv with⟨j,u,rfl,rfl⟩|⟨y,u,rfl,rfl⟩
   ·rw[key_rl]at h;exact SeqAt.EqAt.str_int x t j u _ _ _ _ h
   ·rw[key_rr]at h;exact wpAny_eqBool_str h
 «strs»:=λk x t v h=>by
  rcases keyIs_shape h with⟨i,u,rfl,e⟩|⟨y,u,rfl,e⟩
  ·exact nomatch e
  ·injection e with e1 _;subst e1;cases v<;>rfl
inductive V where
 |non|bl (b:Bool)|int (i:Int)|str (x:Str)|byt (b:Array UInt8)|flt (b:UInt64)|ref (a:Addr)|ty (n:String)
 deriving DecidableEq
def RelV:V->Value->Prop
 | .non,u=>u=Value.none
 | .bl b,u=>u=Value.bool b
 | .int i,u=>∃t,u=Value.int i t
 | .str x,u=>∃t,u=Value.str x t
 | .byt b,u=>∃t,u=Value.bytes b t
 | .flt b,u=>∃t,u=Value.float b t
 | .ref a,u=>u=Value.ref a
 | .ty n,u=>u=Value.type n
abbrev Vals:List V->List Value->Prop:=Paired RelV
theorem Vals.length (r:Vals xs us):xs.length=us.length:=Paired.length r
theorem Vals.get:∀{xs:List V} {us:Lv} {i:Nat} {x:V},Vals xs us->xs[i]?=some x->∃u,us[i]?=some u/\RelV x u
 |_,_,_,_,.nil,e=>by simp at e
 |_,_,0,_,.cons r _,e=>by simp at e;subst e;exact⟨_,rfl,r⟩
 |_,_,i+1,x,.cons _ t,e=>by obtain⟨u,h1,h2⟩:=Vals.get (i:=i) (x:=x) t (by simpa using e);exact⟨u,by simpa using h1,h2⟩
theorem Vals.set (r:RelV x u):∀{xs:List V} {us:Lv} (i:Nat),Vals xs us->Vals (xs.set i x) (us.set i u)
 |_,_,_,.nil=>.nil
 |_,_,0,.cons _ t=>.cons r t
 |_,_,i+1,.cons q t=>.cons q (Vals.set r i t)
theorem Vals.append:∀{xs ys:List V} {us ws:Lv},Vals xs us->Vals ys ws->Vals (xs++ys) (us++ws)
 |_,_,_,_,.nil,s=>s
 |_,_,_,_,.cons r t,s=>.cons r (Vals.append t s)
theorem Vals.take:∀{xs:List V} {us:Lv} (n:Nat),Vals xs us->Vals (xs.take n) (us.take n)
 |_,_,0,_=>.nil
 |_,_,_+1,.nil=>.nil
 |_,_,n+1,.cons r t=>.cons r (Vals.take n t)
theorem Vals.drop:∀{xs:List V} {us:Lv} (n:Nat),Vals xs us->Vals (xs.drop n) (us.drop n)
 |_,_,0,r=>r
 |_,_,_+1,.nil=>.nil
 |_,_,n+1,.cons _ t=>Vals.drop n t
theorem Vals.none_of:∀{xs:List V} {us:Lv} {i:Nat},Vals xs us->xs[i]?=none->us[i]?=none:=λ{xs us i} r e=>by have h1:=r.length;have h2:xs.length<=i:=gF.mp e;exact gF.mpr (by lia)
def RelO:Option V->Option Value->Prop
 |some v,some u=>RelV v u
 |none,none=>True
 |_,_=>False
def KV {κ:Type}:List (κ×V)->List (κ×Value)->Prop:=Paired λ(p:κ×V) (q:κ×Value)=>p.1=q.1/\RelV p.2 q.2
def kV:Key->V
 | .inl i=>.int i
 | .inr x=>.str x
structure yK where
 q:Str
 ps:Array Value
instance:HAppend yK (Array Value) yK:=⟨λt m=>⟨t.q,t.ps++m⟩⟩
@[simp] theorem yK.append_nil (t:yK):t++(#[]:Array Value)=t:=by obtain⟨q,ps⟩:=t;show yK.mk q (ps ++ #[])=⟨q,ps⟩;rw[Array.append_empty]
theorem yK.append_assoc (t:yK)(a b:Array Value):t++a++b=t++(a++b):=by obtain⟨q,ps⟩:=t;show yK.mk q (ps++a++b)=⟨q,ps++(a++b)⟩;rw[Array.append_assoc]
def Ao (o:Obj)(q:Str):Prop:=∃vs t,o.data=.fields vs/\vs[1]?=some (.str q t)
inductive HO where
 |lst (xs:List V)
 |tup (xs:List V)
 |dK (kvs:List (Key×V))|dT (kvs:List (List Key×V))
 |set (S:Int->Bool) (n:Nat)
 |ins (C dx:Addr) (fs:List (Str×V))
 |own (x:Addr)
 |xd (fs:List (Str×V))
 |met (f x:Addr)
 |rng (lo hi:Int)
 |frz (o:Obj) (u:HO)
 |tbl (ps:yK)
 |ext (φ:Heap->Prop)
abbrev Hp:=Addr->Option HO
def upd (H:Hp)(a:Addr)(o:HO):Hp:=λb=>if b=a then some o else H b
theorem upd_same:upd H a o a=some o:=by unfold upd;rw[ah rfl]
theorem upd_ne (h:b≠a):upd H a o b=H b:=by unfold upd;rw[ag h]
theorem upd_upd:upd (upd H a o) a u=upd H a u:=by funext b;unfold upd;split<;>rfl
theorem ne_of_none {H:Hp}{a b:Addr}{o:HO}(h:H a=some o)(h':H b=none):a≠b:=by intro e;subst e;rw[h]at h';cases h'
section
variable (P:Program)(w:World)
def ObjOk (H:Hp)(h:Heap)(a:Addr):HO->Prop
 | .lst xs=>xs.length<=sizeLine/\∃(its:List Value) (n:Nat),Vals xs its/\h.get? a=some { cls:=.type "list",data:=.seq its.toArray n }
 | .tup xs=>xs.length<=sizeLine/\∃its:List Value,Vals xs its/\IsTup h a its.toArray
 | .dK kvs=>kvs.length<=sizeLine/\(a == sysModules)=false/\∃vs,KV kvs vs/\h.DictOf (mixKind P w) a vs
 | .dT kvs=>kvs.length<=sizeLine/\(a == sysModules)=false/\∃xs:List (List Key×Addr×Value),
   Paired (λ(p:List Key×V) (q:List Key×Addr×Value)=>p.1=q.1/\H q.2.1=some (.tup (p.1.map kV))/\RelV p.2 q.2.2) kvs xs /\
   ∃o es ep,h.get? a=some o/\o.ExactDict/\o.data=.dict es ep/\es.toList=xs.map (entryOfKey (tupleKind (mixKind P w)))/\(xs.map (·.1)).Nodup
 | .set S n=>h.SetOf (intKind P w) a S n
 | .ins C dx fs=>H dx=some (.own a)/\fs.length<=1000/\dx≠a/\h.get? a=some (W.instObj C dx) /\
   ∃mA,h.Ns1 dx mA/\(∀f,RelO (fs.lookup f) (mA f))/\PySem.Within mA (fs.map (·.1))
 | .own _=>∃o,h.get? a=some o
 | .xd fs=>∃mA,h.Ns1 a mA/\∀f,RelO (fs.lookup f) (mA f)
 | .rng lo hi=>∃t u v,h.get? a=some { cls:=.type "range",data:=.fields #[.int lo t,.int hi u,.int 1 v] }
 | .frz o u=>h.get? a=some o/\ObjOk H h a u
 | .tbl ps=>h.get? a=some { cls:=.none,data:=.fields ps.ps }/\TriplesOk ps.ps.toList/\∀p cv,codeAmong p ps.ps.toList=some cv->∃c oc u,cv=Value.ref c/\H c=some (.frz oc u)/\Ao oc ps.q
 | .met f x=>h.get? a=some (W.methodObj (.ref f) (.ref x))
 | .ext φ=>φ h/\(∃o,h.get? a=some o)/\∀h1 h2:Heap,φ h1->(∀o,h1.get? a=some o->h2.get? a=some o)->φ h2
def HOk (H:Hp)(h:Heap):Prop:=∀a o,H a=some o->ObjOk P w H h a o
end
section
variable {P:Program}{w:World}{H H':Hp}{h h':Heap}{a:Addr}{o:HO}
theorem ObjOk.lt (x:ObjOk P w H h a o):a<h.objs.size:=by
 cases o with
 |lst xs=>obtain⟨_,_,_,_,e⟩:=x;exact aA e
 |tup xs=>obtain⟨_,_,_,p⟩:=x;exact p.lt
 |dK kvs=>obtain⟨_,_,_,_,o,_,_,e,_⟩:=x;exact aA e
 |dT kvs=>obtain⟨_,_,_,_,o,_,_,e,_⟩:=x;exact aA e
 |set S n=>obtain⟨o,_,_,_,e,_⟩:=x;exact aA e
 |ins C dx fs=>obtain⟨_,_,_,e,_⟩:=x;exact aA e
 |own y=>obtain⟨_,e⟩:=x;exact aA e
 |xd fs=>obtain⟨_,⟨_,_,_,e,_⟩,_⟩:=x;exact aA e
 |rng lo hi=>obtain⟨_,_,_,e⟩:=x;exact aA e
 |frz ob u=>obtain⟨e,_⟩:=x;exact aA e
 |tbl ps=>exact aA x.1
 |met f y=>exact aA (show h.get? a=some _ from x)
 |ext φ=>obtain⟨_,⟨_,e⟩,_⟩:=x;exact aA e
theorem Paired.mapP:∀{l₁:List α} {l₂:List β},Paired F l₁ l₂->(∀a b,F a b->G a b)->Paired G l₁ l₂
 |_,_,.nil,_=>.nil
 |_,_,.cons r t,f=>.cons (f _ _ r) (Paired.mapP t f)
theorem ObjOk.stay (x:ObjOk P w H h a o)(k:∀b u,(b=a\/H b=some (.own a))->h.get? b=some u->h'.get? b=some u)
  (ho:∀b,H b=some (.own a)->H' b=some (.own a)) (ht:∀b xs,H b=some (.tup xs)->H' b=some (.tup xs)) (hz:∀b o u,H b=some (.frz o u)->H' b=some (.frz o u):=by intro _ _ _ q;exact q):ObjOk P w H' h' a o:=by
 induction o with
 |lst xs=>obtain⟨z,its,n,r,e⟩:=x;exact⟨z,its,n,r,k _ _ (.inl rfl) e⟩
 |tup xs=>obtain⟨z,its,r,ob,e,c⟩:=x;exact⟨z,its,r,ob,k _ _ (.inl rfl) e,c⟩
 |dK kvs=>obtain⟨z,y,vs,r,ob,es,ep,e,c⟩:=x;exact⟨z,y,vs,r,ob,es,ep,k _ _ (.inl rfl) e,c⟩
 |dT kvs=>obtain⟨z,y,xs,r,ob,es,ep,e,c⟩:=x;exact⟨z,y,xs,Paired.mapP r λp q z=>⟨z.1,ht _ _ z.2.1,z.2.2⟩,ob,es,ep,k _ _ (.inl rfl) e,c⟩
 |set S n=>obtain⟨ob,es,ep,t,e,c⟩:=x;exact⟨ob,es,ep,t,k _ _ (.inl rfl) e,c⟩
 |ins C dx fs=>obtain⟨d,z,ne,e,mA,⟨od,es,ep,e2,c⟩,r⟩:=x;exact⟨ho _ d,z,ne,k _ _ (.inl rfl) e,mA,⟨od,es,ep,k _ _ (.inr d) e2,c⟩,r⟩
 |own y=>obtain⟨ob,e⟩:=x;exact⟨ob,k _ _ (.inl rfl) e⟩
 |xd fs=>obtain⟨mA,⟨od,es,ep,e,c⟩,r⟩:=x;exact⟨mA,⟨od,es,ep,k _ _ (.inl rfl) e,c⟩,r⟩
 |rng lo hi=>obtain⟨t,u,v,e⟩:=x;exact⟨t,u,v,k _ _ (.inl rfl) e⟩
 |frz ob u ih=>obtain⟨e,q⟩:=x;exact⟨k _ _ (.inl rfl) e,ih q⟩
 |tbl ps=>obtain⟨e,t,g⟩:=x;exact⟨k a _ (.inl rfl) e,t,λp cv hc=>let ⟨c,oc,u,y,z,q⟩:=g p cv hc;⟨c,oc,u,y,hz _ _ _ z,q⟩⟩
 |met f y=>have e:h.get? a=some (W.methodObj (.ref f) (.ref y)):=x;show h'.get? a=some (W.methodObj (.ref f) (.ref y));exact k a _ (.inl rfl) e
 |ext φ=>obtain⟨p,⟨o,e⟩,st⟩:=x;exact⟨st _ _ p λo q=>k _ _ (.inl rfl) q,⟨o,k _ _ (.inl rfl) e⟩,st⟩
theorem HOk.lt (x:HOk P w H h)(e:H a=some o):a<h.objs.size:=(x a o e).lt
theorem HOk.fresh (x:HOk P w H h)(e:h.objs.size<=a):H a=none:=by
 cases q:H a with
 |none=>rfl
 |some u=>exact absurd (aD (x.lt q) e) (c7 _)
theorem HOk.kept (x:HOk P w H h)(k:∀b u,h.get? b=some u->h'.get? b=some u):HOk P w H h':=λa o e=>
 (x a o e).stay (λb u _ q=>k b u q) (λ_ q=>q) λ_ _ q=>q
theorem HOk.laid (x:HOk P w H h)(k:∀b u,h.get? b=some u->h'.get? b=some u)(hp:h.objs.size<=a)(new:ObjOk P w (upd H a o) h' a o):HOk P w (upd H a o) h':=λb u e=>by
 have hn:=x.fresh hp;by_cases hb:b=a
 ·subst hb;rw[upd_same]at e;cases e;exact new
 ·rw[upd_ne hb]at e;exact(x b u e).stay (λc v _ q=>k c v q) (λc q=>by rw[upd_ne (ne_of_none q hn)];exact q) (λc xs q=>by rw[upd_ne (ne_of_none q hn)];exact q) λc _ _ q=>by rw[upd_ne (ne_of_none q hn)];exact q
end
def Rd (H:Hp)(a:Addr)(u:HO):Prop:=H a=some u\/∃o,H a=some (.frz o u)
theorem Rd.ok (r:Rd H a u)(x:HOk P w H h):ObjOk P w H h a u:=by
 rcases r with r|⟨o,r⟩
 ·exact x a u r
 ·obtain⟨_,q⟩:=x a _ r;exact q
def Mut:Option HO->Prop
 |some (.lst _)=>True
 |some (.dK _)=>True
 |some (.dT _)=>True
 |some (.set _ _)=>True
 |some (.ins _ _ _)=>True
 |some (.ext _)=>True
 |_=>False
section
variable {P:Program}{w:World}{H:Hp}{h h':Heap}{x e:Addr}{o':HO}
theorem HOk.write (ok:HOk P w H h)(mu:Mut (H x))(he:e=x\/H e=some (.own x))(k:∀b u,b≠e->h.get? b=some u->h'.get? b=some u)(heo:∃u,h'.get? e=some u)
  (new:ObjOk P w (upd H x o') h' x o'):HOk P w (upd H x o') h':=λb u q=>by
 have nown:∀c y,H c=some (.own y)->c≠x:=λc y r z=>by subst z;rw[r]at mu;exact mu
 have ntup:∀c xs,H c=some (.tup xs)->c≠x:=λc xs r z=>by subst z;rw[r]at mu;exact mu
 have nfrz:∀c o u,H c=some (.frz o u)->c≠x:=λc o u r z=>by subst z;rw[r]at mu;exact mu
 by_cases hb:b=x
 ·subst hb;rw[upd_same]at q;cases q;exact new
 ·rw[upd_ne hb]at q;by_cases hbe:b=e
  ·have q':H b=some (.own x):=by
    rcases he with z|z
    ·exact absurd (hbe.trans z) hb
    ·rw[hbe];exact z
   rw[q]at q';cases q';obtain⟨v,hv⟩:=heo;exact⟨v,by rw[hbe];exact hv⟩
  ·refine(ok b u q).stay (λc v hc r=>k c v ?_ r) (λc r=>by rw[upd_ne (nown c b r)];exact r) (λc xs r=>by rw[upd_ne (ntup c xs r)];exact r) λc o u r=>by rw[upd_ne (nfrz c o u r)];exact r
   rcases hc with rfl|hc
   ·exact hbe
   ·rintro rfl;rcases he with z|z
    ·exact nown c b hc z
    ·rw[hc]at z;cases z;exact hb rfl
end
structure Un (fs ex:List Addr)(H H':Hp)(h h':Heap):Prop where
 keep:∀b o,h.get? b=some o->H b=none->b∉fs->b∉ex->h'.get? b=some o
 slot:∀b o,h.get? b=some o->H b=none->b∈fs->b∉ex->∃sl,h'.get? b=some { o with slots:=sl }
 free:∀b o,h.get? b=some o->H b=none->b∉ex->H' b=none
 there:∀b o,h.get? b=some o->b∉ex->∃o',h'.get? b=some o'
 tups:∀b xs,H b=some (.tup xs)->H' b=some (.tup xs)
 frzs:∀b o u,H b=some (.frz o u)->H' b=some (.frz o u)
 tbls:∀b ps,H b=some (.tbl ps)->∃more:Array Value,H' b=some (.tbl (ps++more))
section
variable {fs fs' ex ex':List Addr}{H H1 H2:Hp}{h h1 h2 h':Heap}{a x e:Addr}{o:HO}
theorem Un.any (u:Un fs ex H H1 h h1)(q:h.get? b=some ob)(n:H b=none)(hx:b∉ex):∃sl,h1.get? b=some { ob with slots:=sl }:=by
 by_cases hb:b∈fs
 ·exact u.slot b ob q n hb hx
 ·exact⟨ob.slots,u.keep b ob q n hb hx⟩
theorem Un.kept (k:∀b u,h.get? b=some u->h'.get? b=some u):Un fs ex H H h h':=
 ⟨λb ob q _ _ _=>k b ob q,λb ob q _ _ _=>⟨ob.slots,k b ob q⟩,λ_ _ _ n _=>n,λb ob q _=>⟨ob,k b ob q⟩,λ_ _ q=>q,λ_ _ _ q=>q,λ_ ps q=>⟨#[],by rw[q];simp⟩⟩
theorem Un.refl:Un fs ex H H h h:=Un.kept λ_ _ q=>q
theorem Un.laid (k:∀b u,h.get? b=some u->h'.get? b=some u)(hp:h.objs.size<=a)(hn:H a=none):Un fs ex H (upd H a o) h h' where
 keep:=λb u q _ _ _=>k b u q
 slot:=λb u q _ _ _=>⟨u.slots,k b u q⟩
 free:=λb u q n _=>by rw[upd_ne (be (aD (aA q) hp))];exact n
 there:=λb u q _=>⟨u,k b u q⟩
 tups:=λb xs q=>by rw[upd_ne (ne_of_none q hn)];exact q
 frzs:=λb u xs q=>by rw[upd_ne (ne_of_none q hn)];exact q
 tbls:=λb ps q=>⟨#[],by rw[upd_ne (ne_of_none q hn),q];simp⟩
theorem Un.write (mu:Mut (H x))(he:e=x\/H e=some (.own x))(k:∀b u,b≠e->h.get? b=some u->h'.get? b=some u)(heo:∃u,h'.get? e=some u):Un fs ex H (upd H x o) h h':=by
 have hx:∀b,H b=none->b≠x:=λb n z=>by subst z;rw[n]at mu;exact mu
 have hb:∀b,H b=none->b≠e:=λb n z=>by
  subst z;rcases he with r|r
  ·exact hx b n r
  ·rw[n]at r;cases r
 have hm:∀b u,H b=some u->¬Mut (some u)->b≠x:=λb u q nm z=>by subst z;rw[q]at mu;exact nm mu
 refine⟨λb u q n _ _=>k b u (hb b n) q,λb u q n _ _=>⟨u.slots,k b u (hb b n) q⟩,λb u q n _=>by rw[upd_ne (hx b n)];exact n,λb u q _=>?_,
  λb xs q=>by rw[upd_ne (hm b _ q λz=>z)];exact q,λb u xs q=>by rw[upd_ne (hm b _ q λz=>z)];exact q,λb ps q=>⟨#[],by rw[upd_ne (hm b _ q λz=>z),q];simp⟩⟩
 by_cases hbe:b=e
 ·subst hbe;exact heo
 ·exact⟨u,k b u hbe q⟩
end
def trk (h:Heap)(H:Hp):List Addr:=(List.range h.objs.size).filter λa=>(H a).isSome
def hidT (h:Heap)(H:Hp):Heap:=W.hideAll h (trk h H)
theorem hidT_size (h:Heap)(H:Hp):(hidT h H).objs.size=h.objs.size:=W.hideAll_size _ _
theorem hidT_get (e:h.get? b=some o)(n:H b=none):(hidT h H).get? b=some o:=
 W.hideAll_get _ e λhm=>by have q:(H b).isSome=true:=(aU.mp hm).2;rw[n]at q;simp at q
theorem of_hidT (e:(hidT h H).get? b=some o):h.get? b=some o/\H b=none:=by
 have e':h.get? b=some o:=W.of_hideAll (trk h H) e;refine⟨e',?_⟩;cases q:H b with
 |none=>rfl
 |some x=>have hm:b∈trk h H:=aU.mpr ⟨a7.mpr (aA e'),by simp[q]⟩;have z:(hidT h H).get? b=none:=W.hideAll_none (trk h H) hm;rw[z]at e;cases e
def allNews (g h:Heap)(L:Addr):List (Addr×Obj):=(List.range h.objs.size).filterMap λa=>if a=L\/(g.get? a).isSome=true then none else(h.get? a).map λo=>(a,o)
theorem mem_allNews (h1:a≠L)(h2:g.get? a=none)(h3:h.get? a=some o):(a,o)∈allNews g h L:=
 cI.mpr ⟨a,a7.mpr (aA h3),by simp[h1,h2,h3]⟩
theorem of_mem_allNews (hp:p∈allNews g h L):p.1≠L/\g.get? p.1=none/\h.get? p.1=some p.2:=by
 obtain⟨b,_,e⟩:=cI.mp hp;split at e
 ·cases e
 ·rename_i hn;cases q:h.get? b with
  |none=>rw[q]at e;simp at e
  |some u=>
   rw[q]at e;simp only[dW,Option.some.injEq]at e;subst e;refine⟨λz=>hn (.inl z),?_,q⟩;show g.get? b=none;cases r:g.get? b with
   |none=>rfl
   |some v=>exact(hn (.inr (by simp[r]))).elim
def rest (g h:Heap)(L d:Addr):List (Addr×Obj):=(allNews g h L).filter λp=>decide (p.1≠d)
theorem news_all:News g L h (allNews g h L):=λp hp=>let ⟨a,b,c⟩:=of_mem_allNews hp;⟨c,a,b⟩
def aaw (mg:Mg)(h:Heap):Prop:=∃bm ob,mg "__builtins__"=some (.ref bm)/\bm≠builtinsNs/\h.get? bm=some ob/\ob.cls=.type "module"/\ob.dict=some builtinsNs/\ob.data=.plain
structure Mod (K:Fg)(mg:Mg)(base:Heap):Prop where
 kin:K.In base
 glob:base.Ns mainGlobals mg
 blt:∃mb,base.Ns builtinsNs mb/\∀x:Str,x≠"__name__"->mb x=bootBuiltins x
 nolimit:base.NoLimit
 bm:aaw mg base
structure Cx where
 prog:Program
 w:World
 K:Fg
 mg:Str->Option Value
 base:Heap
 A:Around
 N:List Str
 s₀:Shared
 H₀:Hp
 env:Env
 outer:List Env
 stack:List Env
 ex:List Addr
 fn:Str->Bool
 calm:Bool
 pn:List (Addr×Obj)
 xe:Value->Shared->Prop
def frs (l:List Env):List Addr:=l.filterMap (·.frame)
abbrev Cx.fs (X:Cx):List Addr:=frs X.outer
def Vis (sc:Scope)(x:Str):Prop:=sc.names.lookup x=some .local\/sc.names.lookup x=some .cell\/sc.names.lookup x=some .free
def Loc (sc:Scope)(x:Str):Prop:=sc.names.lookup x=some .local\/sc.names.lookup x=some .cell
def Look (env:Env)(h:Heap)(m:Mg)(x:Str)(u:Value):Prop:=
 (env.kindOf x=some .local/\m x=some u)\/((env.kindOf x=some .cell\/env.kindOf x=some .free)/\∃c,env.cells.lookup x=some c/\h.IsCell c (some u))
def VN:Stmt->Bool
 | .Return (some (.Call _ _ [⟨_,.Lambda _ _ _ _,_⟩] _)) _=>true
 | .Return (some (.Tuple [_,.Call _ _ [⟨_,.Lambda _ _ _ _,_⟩] _] _ _)) _=>true
 |_=>false
def Xl:FuncBody->Bool
 | .stmts ss=>ss.any VN
 |_=>false
def n8 (K:Fg):List (Addr×Addr×Str):=K.filterMap λx=>match x.2.data with
 | .func fd=>if Xl fd.body=true then(match fd.code with
   | .ref c=>(match K.lookup c with
    |some ⟨_,_,.fields vs,_⟩=>(match (vs[11]?:Option Value) with
     |some (.ref P)=>if W.codeHdIn K c P=true then some (c,P,fd.qualname++".<locals>."++"<lambda>") else none
     |_=>none)
    |_=>none)
   |_=>none) else none
 |_=>none
structure Frf (K:Fg)(H:Hp)(fs:List Addr):Prop where
 f:∀b∈fs,H b=none
 t:∀x∈n8 K,∃ps,H x.2.1=some (.tbl ⟨x.2.2,ps⟩)
structure Cx.Ok (X:Cx):Prop where
 mod:Mod X.K X.mg X.base
 kind:X.env.scope.kind=.function
 glob:X.env.globals=mainGlobals
 blt:X.env.builtins=builtinsNs
 above:X.s₀.heap.objs.size<=X.env.locals
 inj:∀x y c,X.env.cells.lookup x=some c->X.env.cells.lookup y=some c->x=y
 has:∀x,(X.env.kindOf x=some .cell\/X.env.kindOf x=some .free)->∃c,X.env.cells.lookup x=some c
 cab:∀x c,X.fn x=true->X.env.cells.lookup x=some c->X.s₀.heap.objs.size<=c
 hd:X.calm=true->X.A.handled=none
 frames:X.A.frames=some X.stack
 stk:X.stack=X.outer\/(X.stack=X.env::X.outer/\X.env.frame=some X.env.locals)
 exf:∀b∈X.ex,b≠X.env.locals/\∀x c,X.env.cells.lookup x=some c->c≠b
 bs:∀b o,X.base.get? b=some o->X.s₀.heap.get? b=some o/\X.H₀ b=none
 bsz:X.base.objs.size<=X.s₀.heap.objs.size
 noex:∀b o,X.base.get? b=some o->b∉X.ex
 exfs:∀b∈X.ex,b∉X.fs
 funs:X.s₀.heap.FunFrames X.base X.outer
 frf:Frf X.K X.H₀ X.fs
structure Inv (X:Cx)(pins:List (Addr×Obj))(σ:List (Option V))(H:Hp)(s:Shared):Prop where
 ok:X.Ok
 os:s.os=X.s₀.os
 bare:AllBare s.gens
 base:Un X.fs X.ex X.H₀ H X.s₀.heap s.heap
 loc:∃m,s.heap.Ns X.env.locals m/\∀(i:Nat) (x:Str) (v:V),X.N[i]?=some x->σ[i]?=some (some v)->Vis X.env.scope x->∃u,RelV v u/\Look X.env s.heap m x u
 cell:∀x c,X.env.cells.lookup x=some c->∃v,s.heap.IsCell c v
 free:H X.env.locals=none
 freeC:∀x c,X.env.cells.lookup x=some c->H c=none
 pin:∀p∈X.pn++pins,s.heap.get? p.1=some p.2/\H p.1=none/\p.1≠X.env.locals/\p.1∉X.fs/\∀v,p.2.data ≠ .cell v
 hok:HOk X.prog X.w H s.heap
 len:σ.length=X.N.length
section
variable {X:Cx}{pins:List (Addr×Obj)}{σ:List (Option V)}{H H':Hp}{s:Shared}{h':Heap}
theorem Cx.Ok.nofr (ok:X.Ok)(e:X.base.get? b=some o):b∉X.fs:=λhb=>by have:=(ok.funs.mem hb).1;rw[e]at this;cases this
theorem Inv.bs (I:Inv X pins σ H s):∀b o,X.base.get? b=some o->s.heap.get? b=some o/\H b=none:=λb o e=>
 ⟨I.base.keep b o (I.ok.bs b o e).1 (I.ok.bs b o e).2 (I.ok.nofr e) (I.ok.noex b o e),I.base.free b o (I.ok.bs b o e).1 (I.ok.bs b o e).2 (I.ok.noex b o e)⟩
theorem Inv.bk (I:Inv X pins σ H s):∀b o,X.base.get? b=some o->s.heap.get? b=some o:=λb o e=>(I.bs b o e).1
theorem Inv.mod (I:Inv X pins σ H s):Mod X.K X.mg X.base:=I.ok.mod
theorem Inv.kIn (I:Inv X pins σ H s):X.K.In s.heap:=I.ok.mod.kin.keeps I.bk
theorem Inv.fr (I:Inv X pins σ H s):∃m,Fr X.base X.env.locals s.heap m:=
 let ⟨m,hn,_⟩:=I.loc
 ⟨m,hn,I.bk,aJ I.ok.bsz I.ok.above⟩
theorem Inv.lt (I:Inv X pins σ H s):X.env.locals<s.heap.objs.size:=let ⟨_,hn,_⟩:=I.loc;hn.lt
theorem Inv.sz (I:Inv X pins σ H s):X.s₀.heap.objs.size<=s.heap.objs.size:=aJ I.ok.above (bX I.lt)
theorem Inv.nofs (I:Inv X pins σ H s){a:Addr}(h:s.heap.objs.size<=a):a∉X.fs:=λhb=>by obtain⟨_,o,ho,_⟩:=I.ok.funs.mem hb;exact absurd (aD (aA ho) (aJ I.sz h)) (c7 _)
theorem Inv.cne (I:Inv X pins σ H s):∀x c,X.env.cells.lookup x=some c->c≠X.env.locals:=λx c e z=>by obtain⟨v,o,ho,hd⟩:=I.cell x c e;obtain⟨m,⟨o',es,ep,ho',hd',_⟩,_⟩:=I.loc;rw[z,ho']at ho;cases ho;rw[hd']at hd;cases hd
theorem Inv.funs (I:Inv X pins σ H s):s.heap.FunFrames X.base X.outer:=by
 have all:∀(l:List Env),(∀b∈frs l,b∈X.fs)->X.s₀.heap.FunFrames X.base l->s.heap.FunFrames X.base l:=by
  intro l
  induction l with
  |nil=>intro _ _;trivial
  |cons env r ih=>intro hs hl;obtain⟨hk,⟨L,o,hf,hn,ho,hd⟩,hr⟩:=hl;have hL:L∈X.fs:=hs L (by unfold frs;rw[aZ,hf];exact af);obtain⟨sl,e⟩:=I.base.slot L o ho (I.ok.frf.f L hL) hL λz=>I.ok.exfs L z hL;exact⟨hk,⟨L,_,hf,hn,e,hd⟩,ih (λb hb=>hs b (by unfold frs;rw[aZ,hf];exact ae _ hb)) hr⟩
 exact all X.outer (λ_ hb=>hb) I.ok.funs
theorem Inv.stack (I:Inv X pins σ H s):s.heap.FunFrames X.base X.stack:=by
 rcases I.ok.stk with e|⟨e,hf⟩
 ·rw[e];exact I.funs
 ·rw[e];obtain⟨m,hn,_⟩:=I.loc;refine .cons (by rw[I.ok.kind];decide) hf hn ?_ I.funs;exact Heap.get?_none_of_le (aJ I.ok.bsz I.ok.above)
theorem Inv.stkSub (I:Inv X pins σ H s):∀b∈frs X.stack,b∈X.env.locals::X.fs:=λb hb=>by
 rcases I.ok.stk with e|⟨e,hf⟩
 ·rw[e]at hb;exact ae _ hb
 ·rw[e]at hb;unfold frs at hb;rw[aZ,hf]at hb;exact hb
theorem Inv.stkFree (I:Inv X pins σ H s):∀b∈frs X.stack,H b=none:=λb hb=>by
 rcases aC.mp (I.stkSub b hb) with e|hb
 ·rw[e];exact I.free
 ·obtain⟨_,o,ho,_⟩:=I.ok.funs.mem hb;exact I.base.free b o ho (I.ok.frf.f b hb) λz=>I.ok.exfs b z hb
theorem Inv.step {g':Array GenState}{t':Nat}{d':Drawn}{ch:List Addr}(I:Inv X pins σ H s)
  (hch:∀b∈ch,(b∈X.ex\/X.s₀.heap.objs.size<=b)/\b≠X.env.locals/\(∀x c,X.env.cells.lookup x=some c->c≠b)/\∀p∈X.pn++pins,p.1≠b)
  (keep:∀b o,b≠X.env.locals->b∉X.fs->b∉ch->s.heap.get? b=some o->H b=none->h'.get? b=some o)
  (slot:∀b o,b≠X.env.locals->b∈X.fs->b∉ch->s.heap.get? b=some o->H b=none->∃sl,h'.get? b=some { o with slots:=sl }) (free:∀b o,b∉ch->s.heap.get? b=some o->H b=none->H' b=none)
  (there:∀b o,b∉ch->s.heap.get? b=some o->∃o',h'.get? b=some o')
  (tups:∀b xs,H b=some (.tup xs)->H' b=some (.tup xs)) (frzs:∀b o u,H b=some (.frz o u)->H' b=some (.frz o u)) (tbls:∀b ps,H b=some (.tbl ps)->∃more:Array Value,H' b=some (.tbl (ps++more)))
  (ns:∀m,s.heap.Ns X.env.locals m->h'.Ns X.env.locals m) (hok:HOk X.prog X.w H' h') (hg:AllBare g') :
  Inv X pins σ H' { s with heap:=h',gens:=g',drawn:=d',toks:=t' }:=by
 have neL:∀b o,X.s₀.heap.get? b=some o->b≠X.env.locals:=λb o e=>be (aD (aA e) I.ok.above);have neC:∀b o,X.s₀.heap.get? b=some o->b∉X.ex->b∉ch:=λb o e hx hb=>by
  rcases (hch b hb).1 with z|z
  ·exact hx z
  ·exact absurd (aD (aA e) z) (c7 _)
 have cellK:∀x c,X.env.cells.lookup x=some c->∀v,s.heap.IsCell c v->h'.IsCell c v:=λx c e v ⟨o,ho,hd⟩=>by
  have nch:c∉ch:=λz=>(hch c z).2.2.1 x c e rfl;by_cases hc:c∈X.fs
  ·obtain⟨sl,q⟩:=slot c o (I.cne x c e) hc nch ho (I.freeC x c e);exact⟨_,q,hd⟩
  ·exact⟨o,keep c o (I.cne x c e) hc nch ho (I.freeC x c e),hd⟩
 refine⟨I.ok,I.os,hg,⟨λb o e n hb hx=>?_,λb o e n hb hx=>?_,λb o e n hx=>?_,λb o e hx=>?_,λb xs e=>tups b xs (I.base.tups b xs e),λb o xs e=>frzs b o xs (I.base.frzs b o xs e),λb ps e=>?_⟩,?_,λx c e=>?_,?_,λx c e=>?_,λp hp=>?_,hok,I.len⟩
 ·exact keep b o (neL b o e) hb (neC b o e hx) (I.base.keep b o e n hb hx) (I.base.free b o e n hx)
 ·obtain⟨sl,e1⟩:=I.base.slot b o e n hb hx;obtain⟨sl',e2⟩:=slot b _ (neL b o e) hb (neC b o e hx) e1 (I.base.free b o e n hx);exact⟨sl',e2⟩
 ·obtain⟨o',e1⟩:=I.base.there b o e hx;exact free b o' (neC b o e hx) e1 (I.base.free b o e n hx)
 ·obtain⟨o',e1⟩:=I.base.there b o e hx;exact there b o' (neC b o e hx) e1
 ·obtain⟨m1,e1⟩:=I.base.tbls b ps e;obtain⟨m2,e2⟩:=tbls b _ e1;exact⟨m1++m2,by rw[e2,yK.append_assoc]⟩
 ·obtain⟨m,hn,hl⟩:=I.loc;refine⟨m,ns m hn,λi x v e1 e2 e3=>?_⟩;obtain⟨u,r,l⟩:=hl i x v e1 e2 e3;refine⟨u,r,?_⟩;rcases l with l|⟨k,c,e,z⟩
  ·exact .inl l
  ·exact .inr ⟨k,c,e,cellK x c e _ z⟩
 ·obtain⟨v,z⟩:=I.cell x c e;exact⟨v,cellK x c e v z⟩
 ·obtain⟨m,⟨o,_,_,ho,_⟩,_⟩:=I.loc;exact free _ o (λz=>(hch _ z).2.1 rfl) ho I.free
 ·obtain⟨v,o,ho,hd⟩:=I.cell x c e;exact free c o (λz=>(hch c z).2.2.1 x c e rfl) ho (I.freeC x c e)
 ·obtain⟨e,n,ne,nf,d⟩:=I.pin p hp;have nch:p.1∉ch:=λz=>(hch p.1 z).2.2.2 p hp rfl;exact⟨keep p.1 p.2 ne nf nch e n,free p.1 p.2 nch e n,ne,nf,d⟩
theorem Inv.un {t':Nat}(I:Inv X pins σ H s)(u:Un X.fs [] H H' s.heap h')(hok:HOk X.prog X.w H' h'):Inv X pins σ H' { s with heap:=h',toks:=t' }:=by
 obtain⟨m,⟨o,es,ep,ho,r⟩,_⟩:=id I.loc;obtain⟨sl,hL⟩:=u.any ho I.free (by simp);exact I.step (g':=s.gens) (d':=s.drawn) (ch:=[]) (λ_ z=>nomatch z) (λb o _ hb _ e n=>u.keep b o e n hb (by simp)) (λb o _ hb _ e n=>u.slot b o e n hb (by simp)) (λb o _ e n=>u.free b o e n (by simp)) (λb o _ e=>u.there b o e (by simp)) u.tups u.frzs u.tbls (λm' hm=>by
  obtain⟨o',es',ep',ho',r'⟩:=hm;rw[ho]at ho';cases ho';exact⟨_,es',ep',hL,r'⟩) hok I.bare
theorem Inv.call {g':Array GenState}{t':Nat}{d':Drawn}{ch:List Addr}(I:Inv X pins σ H s)(u:Un (frs X.stack) ch H H' s.heap h')(hok:HOk X.prog X.w H' h')(hg:AllBare g')
  (hch:∀b∈ch,(b∈X.ex\/X.s₀.heap.objs.size<=b)/\b≠X.env.locals/\(∀x c,X.env.cells.lookup x=some c->c≠b)/\∀p∈X.pn++pins,p.1≠b) :
  Inv X pins σ H' { s with heap:=h',gens:=g',drawn:=d',toks:=t' }:=by
 obtain⟨m,⟨o,es,ep,ho,r⟩,_⟩:=id I.loc;obtain⟨sl,hL⟩:=u.any ho I.free λz=>(hch _ z).2.1 rfl;exact I.step (ch:=ch) hch (λb o hL hb hc e n=>u.keep b o e n (λz=>(aC.mp (I.stkSub b z)).elim hL hb) hc) (λb o _ _ hc e n=>u.any e n hc) (λb o hc e n=>u.free b o e n hc) (λb o hc e=>u.there b o e hc) u.tups u.frzs u.tbls (λm' hm=>by
  obtain⟨o',es',ep',ho',r'⟩:=hm;rw[ho]at ho';cases ho';exact⟨_,es',ep',hL,r'⟩) hok hg
theorem Inv.turned {t':Nat}{it:Addr}(I:Inv X pins σ H s)(k:∀b o,b≠it->s.heap.get? b=some o->h'.get? b=some o)(hn:H it=none)(hL:it≠X.env.locals)
  (h1:it∈X.ex\/X.s₀.heap.objs.size<=it) (h2:∀x c,X.env.cells.lookup x=some c->c≠it) (h3:∀p∈X.pn++pins,p.1≠it):Inv X pins σ H { s with heap:=h',toks:=t' }:=by
 have nit:∀b u,H b=some u->b≠it:=λb u e z=>by rw[z,hn]at e;cases e
 refine I.step (g':=s.gens) (d':=s.drawn) (ch:=[it]) (λb hb=>?_) (λb o _ _ hc e _=>k b o (λz=>hc (by simp[z])) e) (λb o _ _ hc e _=>⟨o.slots,k b o (λz=>hc (by simp[z])) e⟩) (λ_ _ _ _ n=>n)
  (λb o hc e=>⟨o,k b o (λz=>hc (by simp[z])) e⟩) (λ_ _ e=>e) (λ_ _ _ e=>e) (λb ps e=>⟨#[],by rw[e];simp⟩) (λm hm=>?_) (λb u e=>?_) I.bare
 ·have e:b=it:=by simpa using hb
  subst e;exact⟨h1,hL,h2,h3⟩
 ·obtain⟨o,es,ep,ho,r⟩:=hm;exact⟨o,es,ep,k _ o (ck hL) ho,r⟩
 ·refine(I.hok b u e).stay (λc v hc q=>k c v ?_ q) (λ_ q=>q) λ_ _ q=>q;rcases hc with z|z
  ·rw[z];exact nit b u e
  ·exact nit c _ z
theorem Inv.tok (I:Inv X pins σ H s)(t:Nat):Inv X pins σ H { s with toks:=t }:=I.un (h':=s.heap) (t':=t) Un.refl I.hok
theorem Inv.kept (I:Inv X pins σ H s)(k:∀b u,s.heap.get? b=some u->h'.get? b=some u):Inv X pins σ H { s with heap:=h',toks:=t' }:=I.un (Un.kept k) (I.hok.kept k)
theorem Inv.laid {a:Addr}{o:HO}{t':Nat}(I:Inv X pins σ H s)(k:∀b u,s.heap.get? b=some u->h'.get? b=some u)(hp:s.heap.objs.size<=a)(new:ObjOk X.prog X.w (upd H a o) h' a o) :
  Inv X pins σ (upd H a o) { s with heap:=h',toks:=t' }:=I.un (Un.laid k hp (I.hok.fresh hp)) (I.hok.laid k hp new)
theorem Inv.write (I:Inv X pins σ H s)(mu:Mut (H x))(he:e=x\/H e=some (.own x))(k:∀b u,b≠e->s.heap.get? b=some u->h'.get? b=some u)(heo:∃u,h'.get? e=some u)
  (new:ObjOk X.prog X.w (upd H x o) h' x o):Inv X pins σ (upd H x o) { s with heap:=h',toks:=t' }:=I.un (Un.write mu he k heo) (I.hok.write mu he k heo new)
theorem Inv.weak (I:Inv X pins σ H s)(hl:σ'.length=σ.length)(w:∀(i:Nat) v,σ'[i]?=some (some v)->σ[i]?=some (some v)):Inv X pins σ' H s:=
 ⟨I.ok,I.os,I.bare,I.base,let ⟨m,hn,hl'⟩:=I.loc;⟨m,hn,λi x v e1 e2 e3=>hl' i x v e1 (w i v e2) e3⟩,I.cell,I.free,I.freeC,I.pin,I.hok,hl.trans I.len⟩
theorem Inv.pins_of (I:Inv X pins σ H s)(h:∀p∈pins',s.heap.get? p.1=some p.2/\H p.1=none/\p.1≠X.env.locals/\p.1∉X.fs/\∀v,p.2.data ≠ .cell v):Inv X pins' σ H s:=
 ⟨I.ok,I.os,I.bare,I.base,I.loc,I.cell,I.free,I.freeC,λp hp=>(cV.mp hp).elim (λz=>I.pin p (b9 _ z)) (h p),I.hok,I.len⟩
theorem nodup_ix {N:Ls}(hN:N.Nodup){i j:Nat}{x:Str}(a:N[i]?=some x)(b:N[j]?=some x):i=j:=by obtain⟨h1,e1⟩:=aj.mp a;obtain⟨h2,e2⟩:=aj.mp b;exact(List.getElem_inj hN).mp (e1.trans e2.symm)
theorem store_ok2 {M:Model}{A:Around}{E:Value->Shared->Prop}{i:Nat}{x:Str}{v:V}{u:Value}{Q:Unit->Shared->Prop}(I:Inv X pins σ H s)(hN:X.N.Nodup)(hi:X.N[i]?=some x)(hx:Loc X.env.scope x)(r:RelV v u)
  (h:∀s',Inv X pins (σ.set i (some v)) H s' -> (∃a,Heap.SameBut a s.heap s'.heap/\(a=X.env.locals\/X.env.cells.lookup x=some a))->Q () s') (hf:X.fn x=true\/X.env.scope.names.lookup x=some .local:=by first|exact .inl rfl|exact .inr rfl|assumption):wpAny M A (storeName X.env x u) Q E s:=by
 obtain⟨m,hn,hl⟩:=id I.loc;have hcls:(X.env.scope.kind == .class || (X.env.scope.kind == .module && X.env.locals != X.env.globals))=false:=by rw[I.ok.kind];rfl
 have hiσ:i<σ.length:=by rw[I.len];exact(aj.mp hi).1
 have cne:=I.cne;have tracked:∀{a:Addr} {h':Heap},(∃o,s.heap.get? a=some o/\H a=none)->Heap.SameBut a s.heap h' -> HOk X.prog X.w H h':=λ{a h'} ha hs b ob e=>by
  obtain⟨_,_,hfree⟩:=ha;refine(I.hok b ob e).stay (λc w' hc q=>(hs.2 c ?_).trans q) (λ_ q=>q) λ_ _ q=>q;rintro rfl;rcases hc with rfl|hc
  ·rw[hfree]at e;cases e
  ·rw[hfree]at hc;cases hc
 rcases hx with hk|hk
 ·refine wpAny_storeName_local hk hn (λh' hn' hs=>?_) hcls;obtain⟨oL,_,_,hoL,_⟩:=id hn;refine h _ ⟨I.ok,I.os,I.bare,⟨λb o e n hb hx=>?_,λb o e n hb hx=>?_,I.base.free,λb o e hx=>?_,I.base.tups,I.base.frzs,I.base.tbls⟩,⟨_,hn',λj y v' e1 e2 e3=>?_⟩,λy c e=>?_,I.free,I.freeC,λp hp=>?_,tracked ⟨oL,hoL,I.free⟩ hs,by simpa using I.len⟩ ⟨_,hs,.inl rfl⟩
  ·exact(hs.2 b (be (aD (aA e) I.ok.above))).trans (I.base.keep b o e n hb hx)
  ·obtain⟨sl,e1⟩:=I.base.slot b o e n hb hx;exact⟨sl,(hs.2 b (be (aD (aA e) I.ok.above))).trans e1⟩
  ·obtain⟨o',e1⟩:=I.base.there b o e hx;exact⟨o',(hs.2 b (be (aD (aA e) I.ok.above))).trans e1⟩
  ·by_cases hj:j=i
   ·subst hj;rw[hi]at e1;cases e1;rw[fw hiσ]at e2;cases e2;exact⟨u,r,.inl ⟨hk,by simp⟩⟩
   ·rw[eG (ck hj)]at e2;obtain⟨u',r',q⟩:=hl j y v' e1 e2 e3;refine⟨u',r',?_⟩;rcases q with⟨k,e⟩|⟨k,c,e,z⟩
    ·refine .inl ⟨k,?_⟩;have:y≠x:=λe=>hj (nodup_ix hN e1 (e ▸ hi));simp[this,e]
    ·exact .inr ⟨k,c,e,z.sameBut hs (cne y c e)⟩
  ·obtain⟨w',z⟩:=I.cell y c e;exact⟨w',z.sameBut hs (cne y c e)⟩
  ·obtain⟨e,n,ne,nf,d⟩:=I.pin p hp;exact⟨(hs.2 p.1 ne).trans e,n,ne,nf,d⟩
 ·have hfn:X.fn x=true:=by
   rcases hf with z|z
   ·exact z
   ·rw[z]at hk;cases hk
  obtain⟨c,hc⟩:=I.ok.has x (.inl hk);obtain⟨w',z⟩:=I.cell x c hc;refine wpAny_storeName_cell I.ok.kind hk hc z (λh' hc' hs=>?_);obtain⟨oc,hoc,hocd⟩:=id z;refine h { s with heap:=h' } ⟨I.ok,I.os,I.bare,⟨λb o e n hb hx=>?_,λb o e n hb hx=>?_,I.base.free,λb o e hx=>?_,I.base.tups,I.base.frzs,I.base.tbls⟩,⟨m,hn.sameBut hs (ck (cne x c hc)),λj y v' e1 e2 e3=>?_⟩,λy c' e=>?_,I.free,I.freeC,λp hp=>?_,tracked ⟨oc,hoc,I.freeC x c hc⟩ hs,by simpa using I.len⟩ ⟨c,hs,.inr hc⟩
  ·exact(hs.2 b (be (aD (aA e) (I.ok.cab x c hfn hc)))).trans (I.base.keep b o e n hb hx)
  ·obtain⟨sl,e1⟩:=I.base.slot b o e n hb hx;exact⟨sl,(hs.2 b (be (aD (aA e) (I.ok.cab x c hfn hc)))).trans e1⟩
  ·obtain⟨o',e1⟩:=I.base.there b o e hx;exact⟨o',(hs.2 b (be (aD (aA e) (I.ok.cab x c hfn hc)))).trans e1⟩
  ·by_cases hj:j=i
   ·subst hj;rw[hi]at e1;cases e1;rw[fw hiσ]at e2;cases e2;exact⟨u,r,.inr ⟨.inl hk,c,hc,hc'⟩⟩
   ·rw[eG (ck hj)]at e2;obtain⟨u',r',q⟩:=hl j y v' e1 e2 e3;refine⟨u',r',?_⟩;rcases q with q|⟨k,c',e,z'⟩
    ·exact .inl q
    ·refine .inr ⟨k,c',e,z'.sameBut hs ?_⟩;rintro rfl;exact hj (nodup_ix hN e1 (I.ok.inj _ _ _ e hc ▸ hi))
  ·by_cases hcc:c'=c
   ·subst hcc;exact⟨_,hc'⟩
   ·obtain⟨w2,z2⟩:=I.cell y c' e;exact⟨w2,z2.sameBut hs hcc⟩
  ·obtain⟨e,n,ne,nf,d⟩:=I.pin p hp;refine⟨(hs.2 p.1 ?_).trans e,n,ne,nf,d⟩;intro q;rw[q,hoc]at e;have q':oc=p.2:=aI e;exact d w' (by rw[<- q'];exact hocd)
theorem store_ok (I:Inv X pins σ H s)(hN:X.N.Nodup)(hi:X.N[i]?=some x)(hx:Loc X.env.scope x)(r:RelV v u)
  (h:∀s',Inv X pins (σ.set i (some v)) H s' -> Q () s') (hf:X.fn x=true\/X.env.scope.names.lookup x=some .local:=by first|exact .inl rfl|exact .inr rfl|assumption):wpAny M A (storeName X.env x u) Q E s:=
 store_ok2 I hN hi hx r (λs' I' _=>h s' I') hf
theorem Inv.call' (I:Inv X pins σ H s)(ho:s'.os=s.os)(u:Un (frs X.stack) ch H H' s.heap s'.heap)(hok:HOk X.prog X.w H' s'.heap)(hg:AllBare s'.gens)
  (hch:∀b∈ch,(b∈X.ex\/X.s₀.heap.objs.size<=b)/\b≠X.env.locals/\(∀x c,X.env.cells.lookup x=some c->c≠b)/\∀p∈X.pn++pins,p.1≠b):Inv X pins σ H' s':=by
 obtain⟨h',g',d',t',o'⟩:=s';have e:o'=s.os:=ho;subst e;exact I.call (g':=g') (t':=t') (d':=d') u hok hg hch
end
abbrev XK:=Value->Option Addr->Hp->Prop
abbrev St:=List (Option V)
abbrev VK:=V->Hp->Prop
abbrev TE:=St->Hp->VK->Prop
abbrev TT:=St->Hp->(Bool->Hp->Prop)->Prop
abbrev TA:=St->Hp->(List V->Hp->Prop)->Prop
structure Ends where
 nx:St->Hp->Prop
 rt:VK
 bk:St->Hp->Prop:=λ_ _=>False
 ct:St->Hp->Prop:=λ_ _=>False
abbrev TS:=Ends->St->Hp->Prop
def EP (X:Cx)(pins:List (Addr×Obj))(σ:St)(Q:VK)(u:Value)(s':Shared):Prop:=∃v H',Inv X pins σ H' s'/\RelV v u/\Q v H'
def TP (X:Cx)(pins:List (Addr×Obj))(σ:St)(Q:Bool->Hp->Prop)(b:Bool)(s':Shared):Prop:=∃H',Inv X pins σ H' s'/\Q b H'
def AP (X:Cx)(pins:List (Addr×Obj))(σ:St)(Q:List V->Hp->Prop)(us:List Value)(s':Shared):Prop:=∃vs H',Inv X pins σ H' s'/\Vals vs us/\Q vs H'
def SP (X:Cx)(pins:List (Addr×Obj))(D:Ends)(f:Flow)(s':Shared):Prop:=
 match f with
 | .next=>∃σ' H',Inv X pins σ' H' s'/\D.nx σ' H'
 | .brk=>∃σ' H',Inv X pins σ' H' s'/\D.bk σ' H'
 | .cont=>∃σ' H',Inv X pins σ' H' s'/\D.ct σ' H'
 | .ret u=>∃v σ' H',Inv X pins σ' H' s'/\RelV v u/\D.rt v H'
def PE (X:Cx)(e:Expr)(t:TE):Prop:=
 ∀(pins:List (Addr×Obj)) (s:Shared) (σ:St) (H:Hp) (Q:VK),Inv X pins σ H s->t σ H Q->wpAny (model X.prog X.w) X.A (eval e X.env) (EP X pins σ Q) X.xe s
def PT (X:Cx)(e:Expr)(t:TT):Prop:=
 ∀(pins:List (Addr×Obj)) (s:Shared) (σ:St) (H:Hp) (Q:Bool->Hp->Prop),Inv X pins σ H s->t σ H Q->wpAny (model X.prog X.w) X.A (isTrue e X.env (eval e X.env)) (TP X pins σ Q) X.xe s
def PW (X:Cx)(e:Expr)(t:TT):Prop:=
 ∀(whole:Sem Value) (pins:List (Addr×Obj)) (s:Shared) (σ:St) (H:Hp) (Q:Bool->Hp->Prop),Inv X pins σ H s->t σ H Q->wpAny (model X.prog X.w) X.A (isTrue e X.env whole) (TP X pins σ Q) X.xe s
theorem PW.pt (h:PW X e t):PT X e t:=h _
def PA (X:Cx)(es:List Expr)(t:TA):Prop:=
 ∀(pos:Pos) (pins:List (Addr×Obj)) (s:Shared) (σ:St) (H:Hp) (Q:List V->Hp->Prop),Inv X pins σ H s->t σ H Q->wpAny (model X.prog X.w) X.A (spliced (backTo pos (starEach es X.env))) (AP X pins σ Q) X.xe s
def PS (X:Cx)(st:Stmt)(t:TS):Prop:=
 ∀(pins:List (Addr×Obj)) (s:Shared) (σ:St) (H:Hp) (D:Ends),Inv X pins σ H s->t D σ H->wpAny (model X.prog X.w) X.A (exec st X.env) (SP X pins D) X.xe s
def PSs (X:Cx)(st:List Stmt)(t:TS):Prop:=
 ∀(pins:List (Addr×Obj)) (s:Shared) (σ:St) (H:Hp) (D:Ends),Inv X pins σ H s->t D σ H->wpAny (model X.prog X.w) X.A (execs st X.env) (SP X pins D) X.xe s
theorem thn {α:Type}{t:Sem α}{Q Q':α->Shared->Prop}{M:Model}{A:Around}{E:Value->Shared->Prop}{s:Shared}(h:wpAny M A t Q E s)(hQ:∀a s,Q a s->Q' a s):wpAny M A t Q' E s:=eZ h hQ λ_ _ x=>x
section
variable {X:Cx}
def tVar (i:Nat):TE:=λσ H Q=>∃v,σ[i]?=some (some v)/\Q v H
def tC (v:V):TE:=λ_ H Q=>Q v H
theorem pe_var (hN:X.N[i]?=some x)(hv:Vis X.env.scope x)(hd:(x == ("__debug__":Str))=false:=by decide)(hcd:(x == ("__classdict__":Str))=false:=by decide):PE X (.Name x pos) (tVar i):=by
 intro pins s σ H Q I h;obtain⟨v,e,h⟩:=h;obtain⟨m,hn,hl⟩:=I.loc;obtain⟨u,r,l⟩:=hl i x v hN e hv;have fin:EP X pins σ Q u s:=⟨v,H,I,r,h⟩;rcases l with⟨hk,hm⟩|⟨hk,c,hc,hcell⟩
 ·exact iz (eH I.ok.kind hk hn hm fin) hd
 ·rcases hk with hk|hk
  ·exact iz (wpAny_loadName_cell I.ok.kind hk hc hcell fin) hd
  ·exact iz (wpAny_loadName_free I.ok.kind hk hc hcell fin hcd) hd
theorem pe_int:PE X (.Constant (.int i) j pos) (tC (.int i)):=λ_ _ _ H _ I h=>gr ⟨.int i,H,I.tok _,⟨_,rfl⟩,h⟩
theorem pe_bl:PE X (.Constant (.bool b) j pos) (tC (.bl b)):=λ_ _ _ H _ I h=>Constant_bool ⟨.bl b,H,I,rfl,h⟩
theorem pe_non:PE X (.Constant .none j pos) (tC .non):=λ_ _ _ H _ I h=>Constant_none ⟨.non,H,I,rfl,h⟩
theorem pe_str:PE X (.Constant (.str x) j pos) (tC (.str x)):=λ_ _ _ H _ I h=>Calls.Constant_str ⟨.str x,H,I.tok _,⟨_,rfl⟩,h⟩
def Gl (X:Cx)(x:Str):Prop:=X.env.kindOf x=some .globalImplicit
theorem ld_glob (I:Inv X pins σ H s)(hg:Gl X x)(hm:X.mg x=some u)(h:Q u s)
  (hd:(x == ("__debug__":Str))=false:=by decide):wpAny (model X.prog X.w) X.A (eval (.Name x pos) X.env) Q E s:=
 eC I.ok.kind hg (Calls.loadGlobal_global (by rw[I.ok.glob];exact I.mod.glob.keeps I.bk) hm h) hd
theorem ld_blt (I:Inv X pins σ H s)(hg:Gl X x)(hm:X.mg x=none)(hv:bootBuiltins x=some u)(h:Q u s)
  (hn:x≠"__name__":=by decide) (hd:(x == ("__debug__":Str))=false:=by decide):wpAny (model X.prog X.w) X.A (eval (.Name x pos) X.env) Q E s:=by
 obtain⟨mb,h1,h2⟩:=I.mod.blt;exact eC I.ok.kind hg (Calls.loadGlobal_builtin (by rw[I.ok.glob];exact I.mod.glob.keeps I.bk) hm (by rw[I.ok.blt];exact h1.keeps I.bk) ((h2 x hn).trans hv) h) hd
theorem pe_glob (hg:Gl X x)(hm:X.mg x=some u)(r:RelV v u)(hd:(x == ("__debug__":Str))=false:=by decide):PE X (.Name x pos) (tC v):=
 λ_ _ _ H _ I h=>ld_glob I hg hm ⟨v,H,I,r,h⟩ hd
theorem pe_bltn (hg:Gl X x)(hm:X.mg x=none)(hv:bootBuiltins x=some u)(r:RelV v u)(hn:x≠"__name__":=by decide)(hd:(x == ("__debug__":Str))=false:=by decide):PE X (.Name x pos) (tC v):=
 λ_ _ _ H _ I h=>ld_blt I hg hm hv ⟨v,H,I,r,h⟩ hn hd
variable {a b:Expr}{ta tb:TE}{pos:Pos}
def tB (t:TE):TT:=λσ H Q=>t σ H λx H1=>∃c,x=.bl c/\Q c H1
theorem pt_val (h:PE X e t)(he:∀whole,isTrue e X.env whole=(do let v <- whole;standAt e.pos;holding [v] (truthy v)):=by intro _;rfl):PT X e (tB t):=by intro pins s σ H Q I hw;refine isTrue_plain (thn (h pins s σ H _ I hw) λv s1 ⟨x,H1,I1,r1,q1⟩=>?_) (he _);obtain⟨d,rfl,q⟩:=q1;cases r1;exact d7 ⟨H1,I1,q⟩
variable {tA tB':TT}{rest:List Expr}
def tAnd (t u:TT):TT:=λσ H Q=>t σ H λc H1=>if c=true then u σ H1 Q else Q false H1
def tOr (t u:TT):TT:=λσ H Q=>t σ H λc H1=>if c=true then Q true H1 else u σ H1 Q
def tNot (t:TT):TT:=λσ H Q=>t σ H λc H1=>Q (!c) H1
theorem pw_and1 (ha:PT X a tA):PW X (.BoolOp .And [a] pos) tA:=by
 intro wh pins s σ H Q I h;refine isTrue_and (thn (ha pins s σ H Q I h) λc s1 e=>?_);cases c with
 |true=>exact isTrue_and_nil e
 |false=>exact e
theorem pw_or1 (ha:PT X a tA):PW X (.BoolOp .Or [a] pos) tA:=by
 intro wh pins s σ H Q I h;refine isTrue_or (thn (ha pins s σ H Q I h) λc s1 e=>?_);cases c with
 |false=>exact isTrue_or_nil e
 |true=>exact e
theorem pw_and (ha:PT X a tA)(hb:PW X (.BoolOp .And (b::rest) pos) tB'):PW X (.BoolOp .And (a::b::rest) pos) (tAnd tA tB'):=by
 intro wh pins s σ H Q I h;refine isTrue_and (thn (ha pins s σ H _ I h) λc s1 ⟨H1,I1,q1⟩=>?_);cases c with
 |true=>exact hb wh pins s1 σ H1 Q I1 q1
 |false=>exact⟨H1,I1,q1⟩
theorem pw_or (ha:PT X a tA)(hb:PW X (.BoolOp .Or (b::rest) pos) tB'):PW X (.BoolOp .Or (a::b::rest) pos) (tOr tA tB'):=by
 intro wh pins s σ H Q I h;refine isTrue_or (thn (ha pins s σ H _ I h) λc s1 ⟨H1,I1,q1⟩=>?_);cases c with
 |true=>exact⟨H1,I1,q1⟩
 |false=>exact hb wh pins s1 σ H1 Q I1 q1
theorem pt_not (ha:PT X a tA):PT X (.UnaryOp .Not a pos) (tNot tA):=by intro pins s σ H Q I h;exact isTrue_not (ha pins s σ H (λc H1=>Q (!c) H1) I h)
def tAndV (ta tb:TE):TE:=λσ H Q=>ta σ H λx H1=>∃c,x=.bl c/\if c=true then tb σ H1 Q else Q (.bl false) H1
def tNotV (ta:TE):TE:=λσ H Q=>ta σ H λx H1=>∃c,x=.bl c/\Q (.bl (!c)) H1
theorem pe_one (h:PE X a t):PE X (.BoolOp op [a] pos) t:=λpins s σ H Q I hw=>BoolOp_one (h pins s σ H Q I hw)
theorem pe_and (ha:PE X a ta)(hb:PE X (.BoolOp .And (b::rest) pos) tb):PE X (.BoolOp .And (a::b::rest) pos) (tAndV ta tb):=by
 intro pins s σ H Q I h;refine BoolOp_and (thn (ha pins s σ H _ I h) λv s1 ⟨x,H1,I1,r1,q1⟩=>?_);obtain⟨c,rfl,q1⟩:=q1;cases r1;refine d7 ?_;cases c with
 |true=>exact hb pins s1 σ H1 Q I1 q1
 |false=>exact⟨.bl false,H1,I1,rfl,q1⟩
theorem pe_not (ha:PE X a ta):PE X (.UnaryOp .Not a pos) (tNotV ta):=by intro pins s σ H Q I h;refine UnaryOp_ (thn (ha pins s σ H _ I h) λv s1 ⟨x,H1,I1,r1,q1⟩=>?_);obtain⟨c,rfl,q1⟩:=q1;cases r1;exact not_of (d7 ⟨.bl (!c),H1,I1,rfl,q1⟩)
def tIf (t:TT)(ta tb:TE):TE:=λσ H Q=>t σ H λc H1=>if c=true then ta σ H1 Q else tb σ H1 Q
theorem pe_ifExp (hc:PT X c tA)(ha:PE X a ta)(hb:PE X b tb):PE X (.IfExp c a b pos) (tIf tA ta tb):=by
 intro pins s σ H Q I h;refine wpAny_IfExp (thn (hc pins s σ H _ I h) λd s1 ⟨H1,I1,q1⟩=>?_);cases d with
 |true=>exact ha pins s1 σ H1 Q I1 q1
 |false=>exact hb pins s1 σ H1 Q I1 q1
end
def SqL (K:Fg)(H:Hp)(a:Addr)(xs:List V):Prop:=
 Rd H a (.lst xs) \/
  ∃(o:Obj) (its:Array Value) (n:Nat),K.lookup a=some o/\o.cls=.type "list"/\o.dict=none/\o.data=.seq its n/\its.size<=sizeLine/\Vals xs its.toList
def SqT (K:Fg)(H:Hp)(a:Addr)(xs:List V):Prop:=
 Rd H a (.tup xs) \/
  ∃(o:Obj) (its:Array Value) (n:Nat),K.lookup a=some o/\o.cls=.type "tuple"/\o.data=.seq its n/\its.size<=sizeLine/\Vals xs its.toList
def absV:Value->Option V
 | .none=>some .non
 | .bool b=>some (.bl b)
 | .int i _=>some (.int i)
 | .str x _=>some (.str x)
 | .bytes b _=>some (.byt b)
 | .float b _=>some (.flt b)
 | .ref a=>some (.ref a)
 | .type n=>some (.ty n)
 |_=>none
theorem RelV.abs (r:RelV x u):absV u=some x:=by
 cases x with
 |non=>cases r;rfl
 |bl _=>cases r;rfl
 |int _=>obtain⟨t,rfl⟩:=r;rfl
 |str _=>obtain⟨t,rfl⟩:=r;rfl
 |byt _=>obtain⟨t,rfl⟩:=r;rfl
 |flt _=>obtain⟨t,rfl⟩:=r;rfl
 |ref _=>cases r;rfl
 |ty _=>cases r;rfl
theorem RelV.inj (r:RelV x u)(q:RelV y u):x=y:=aI (r.abs.symm.trans q.abs)
theorem Vals.inj:∀{xs ys:List V} {us:Lv},Vals xs us->Vals ys us->xs=ys
 |_,_,_,.nil,.nil=>rfl
 |_,_,_,.cons r t,.cons r' t'=>by rw[r.inj r',Vals.inj t t']
section
variable {X:Cx}{pins:List (Addr×Obj)}{σ:St}{H:Hp}{s:Shared}{a:Addr}{xs ys:List V}
theorem SqL.of {K:Fg}(h:H a=some (.lst xs)):SqL K H a xs:=.inl (.inl h)
theorem SqT.of {K:Fg}(h:H a=some (.tup xs)):SqT K H a xs:=.inl (.inl h)
theorem Inv.list (I:Inv X pins σ H s)(h:SqL X.K H a xs):∃its:List Value,Vals xs its/\PlainL s.heap a its.toArray/\xs.length<=sizeLine:=by
 rcases h with h|⟨o,its,n,hk,hc,hd,hs,hz,r⟩
 ·obtain⟨z,its,n,r,e⟩:=h.ok I.hok;exact⟨its,r,⟨_,n,e,rfl,rfl,rfl⟩,z⟩
 ·refine⟨its.toList,r,⟨o,n,I.kIn a o hk,hc,hd,by simpa using hs⟩,?_⟩;have e:=r.length;simp only[df]at e;lia
theorem Inv.tuple (I:Inv X pins σ H s)(h:SqT X.K H a xs):∃its:List Value,Vals xs its/\IsTup s.heap a its.toArray/\xs.length<=sizeLine:=by
 rcases h with h|⟨o,its,n,hk,hc,hs,hz,r⟩
 ·obtain⟨z,its,r,p⟩:=h.ok I.hok;exact⟨its,r,p,z⟩
 ·refine⟨its.toList,r,⟨o,I.kIn a o hk,hc,n,by simpa using hs⟩,?_⟩;have e:=r.length;simp only[df]at e;lia
theorem Inv.list_inj (I:Inv X pins σ H s)(h:SqL X.K H a xs)(h':SqL X.K H a ys):xs=ys:=by
 obtain⟨its,r,⟨o,n,e,_,_,d⟩,_⟩:=I.list h;obtain⟨its',r',⟨o',n',e',_,_,d'⟩,_⟩:=I.list h';rw[e]at e';cases e';rw[d]at d';injection d' with d1 _;have:its=its':=by simpa using congrArg Array.toList d1
 subst this;exact r.inj r'
end
abbrev Cx.wish (X:Cx)(E:Value->Shared->Prop):Cx:={ X with xe:=E }
abbrev Cx.nox (X:Cx):Cx:=X.wish λ_ _=>False
theorem Cx.Ok.wish {X:Cx}(ok:X.Ok)(E:Value->Shared->Prop):(X.wish E).Ok:=
 ⟨ok.mod,ok.kind,ok.glob,ok.blt,ok.above,ok.inj,ok.has,ok.cab,ok.hd,ok.frames,ok.stk,ok.exf,ok.bs,ok.bsz,ok.noex,ok.exfs,ok.funs,ok.frf⟩
theorem Cx.Ok.unwish {X:Cx}{E:Value->Shared->Prop}(ok:(X.wish E).Ok):X.Ok:=
 ⟨ok.mod,ok.kind,ok.glob,ok.blt,ok.above,ok.inj,ok.has,ok.cab,ok.hd,ok.frames,ok.stk,ok.exf,ok.bs,ok.bsz,ok.noex,ok.exfs,ok.funs,ok.frf⟩
section
variable {X:Cx}{pins:List (Addr×Obj)}{σ:St}{H:Hp}{s:Shared}{E:Value->Shared->Prop}
theorem Inv.wish (I:Inv X pins σ H s)(E:Value->Shared->Prop):Inv (X.wish E) pins σ H s:=⟨I.ok.wish E,I.os,I.bare,I.base,I.loc,I.cell,I.free,I.freeC,I.pin,I.hok,I.len⟩
theorem Inv.unwish (I:Inv (X.wish E) pins σ H s):Inv X pins σ H s:=⟨I.ok.unwish,I.os,I.bare,I.base,I.loc,I.cell,I.free,I.freeC,I.pin,I.hok,I.len⟩
theorem SP.unwish (h:SP (X.wish E) pins D f s'):SP X pins D f s':=by
 cases f with
 |next=>obtain⟨σ',H',I,q⟩:=h;exact⟨σ',H',I.unwish,q⟩
 |brk=>obtain⟨σ',H',I,q⟩:=h;exact⟨σ',H',I.unwish,q⟩
 |cont=>obtain⟨σ',H',I,q⟩:=h;exact⟨σ',H',I.unwish,q⟩
 |ret u=>obtain⟨v,σ',H',I,r,q⟩:=h;exact⟨v,σ',H',I.unwish,r,q⟩
theorem PSs.nox {st:List Stmt}{t:TS}(h:PSs X.nox st t):PSs X st t:=λpins s σ H D I hw=>
 eZ (h pins s σ H D (I.wish _) hw) (λ_ _ q=>q.unwish) λ_ _ z=>False.elim z
end
section
variable {X:Cx}{st:Stmt}{rest:List Stmt}{t u:TS}{e:Expr}{te:TE}{pos:Pos}
def tNext:TS:=λD σ H=>D.nx σ H
def tSeq (t u:TS):TS:=λD σ H=>t { D with nx:=u D } σ H
theorem pss_nil:PSs X [] tNext:=λ_ _ σ H _ I h=>fh ⟨σ,H,I,h⟩
theorem pss_cons (h1:PS X st t)(h2:PSs X rest u):PSs X (st::rest) (tSeq t u):=by
 intro pins s σ H D I h;refine wpAny_execs_cons (thn (h1 pins s σ H { D with nx:=u D } I h) λf s1 q=>?_);cases f with
 |next=>obtain⟨σ',H',I',q⟩:=q;exact h2 pins s1 σ' H' D I' q
 |ret v=>exact q
 |brk=>exact q
 |cont=>exact q
theorem pss_one (h1:PS X st t):PSs X [st] t:=by
 intro pins s σ H D I h;refine wpAny_execs_cons (thn (h1 pins s σ H D I h) λf s1 q=>?_);cases f with
 |next=>exact fh q
 |ret v=>exact q
 |brk=>exact q
 |cont=>exact q
theorem Inv.quiet (I:Inv X pins σ H s):interactive X.env=false:=by simp[interactive,I.ok.kind]
def tDrop (te:TE):TS:=λD σ H=>te σ H λ_ H1=>D.nx σ H1
theorem ps_expr (he:PE X e te)(hs:swapsWith e none pos.line X.env=pure false:=by rfl):PS X (.Expr e pos) (tDrop te):=by intro pins s σ H D I h;exact wpAny_Expr_any (thn (he pins s σ H _ I h) λv s1 ⟨x,H1,I1,r1,q1⟩=>⟨σ,H1,I1,q1⟩) I.quiet hs
def tRet (te:TE):TS:=λD σ H=>te σ H D.rt
theorem ps_ret (he:PE X e te):PS X (.Return (some e) pos) (tRet te):=by intro pins s σ H D I h;exact wpAny_Return_some (thn (he pins s σ H _ I h) λv s1 ⟨x,H1,I1,r1,q1⟩=>⟨x,σ,H1,I1,r1,q1⟩)
def tIfS (c:TT)(t u:TS):TS:=λD σ H=>c σ H λb H1=>if b=true then t D σ H1 else u D σ H1
theorem ps_if (hc:PT X c tc)(ha:PSs X a t)(hb:PSs X b u):PS X (.If c a b pos) (tIfS tc t u):=by
 intro pins s σ H D I h;refine wpAny_If (thn (hc pins s σ H _ I h) λd s1 ⟨H1,I1,q1⟩=>?_);cases d with
 |true=>exact ha pins s1 σ H1 D I1 q1
 |false=>exact hb pins s1 σ H1 D I1 q1
def tNever:TS:=λ_ _ _=>False
theorem ps_never:PS X st tNever:=λ_ _ _ _ _ _ h=>h.elim
end
abbrev TG:=V->St->Hp->(St->Hp->Prop)->Prop
abbrev TGs:=List V->St->Hp->(St->Hp->Prop)->Prop
def PG (X:Cx)(target:Expr)(t:TG):Prop:=
 ∀(pins:List (Addr×Obj)) (s:Shared) (σ:St) (H:Hp) (v:V) (u:Value) (Q:St->Hp->Prop),Inv X pins σ H s->RelV v u->t v σ H Q ->
  wpAny (model X.prog X.w) X.A (assign target X.env u) (λ_ s'=>∃σ' H',Inv X pins σ' H' s'/\Q σ' H') X.xe s
def PGs (X:Cx)(ts:List Expr)(t:TGs):Prop:=
 ∀(pins:List (Addr×Obj)) (s:Shared) (σ:St) (H:Hp) (vs:List V) (us:List Value) (Q:St->Hp->Prop),Inv X pins σ H s->Vals vs us->t vs σ H Q ->
  wpAny (model X.prog X.w) X.A (assignInOrder ((assignEach ts X.env).map (·.2)) us) (λ_ s'=>∃σ' H',Inv X pins σ' H' s'/\Q σ' H') X.xe s
abbrev TSet:=V->V->V->Hp->(Hp->Prop)->Prop
def PSet (X:Cx)(t:TSet):Prop:=
 ∀(pins:List (Addr×Obj)) (s:Shared) (σ:St) (H:Hp) (o i v:V) (ov iv u:Value) (Q:Hp->Prop),Inv X pins σ H s->RelV o ov->RelV i iv->RelV v u->t o i v H Q ->
  wpAny (model X.prog X.w) X.A (setItem ov iv u) (λ_ s'=>∃H',Inv X pins σ H' s'/\Q H') X.xe s
abbrev TIp:=V->V->Hp->VK->Prop
def PIp (X:Cx)(op:Operator)(t:TIp):Prop:=
 ∀(pins:List (Addr×Obj)) (s:Shared) (σ:St) (H:Hp) (x y:V) (v u:Value) (Q:VK),Inv X pins σ H s->RelV x v->RelV y u->t x y H Q ->
  wpAny (model X.prog X.w) X.A (inplaceOp op v u) (EP X pins σ Q) X.xe s
section
variable {X:Cx}{pos:Pos}
def gName (i:Nat):TG:=λv σ H Q=>Q (σ.set i (some v)) H
theorem pg_name (hN:X.N.Nodup)(hi:X.N[i]?=some x)(hx:Loc X.env.scope x)(hf:X.fn x=true\/X.env.scope.names.lookup x=some .local:=by first|exact .inl rfl|exact .inr rfl|assumption):PG X (.Name x pos) (gName i):=by intro pins s σ H v u Q I r h;exact wpAny_assign_Name (store_ok I hN hi hx r (λs' I'=>⟨_,H,I',h⟩) hf)
def gNil:TGs:=λvs σ H Q=>vs=[]/\Q σ H
def gCons (t:TG)(u:TGs):TGs:=λvs σ H Q=>∃v r,vs=v::r/\t v σ H λσ' H'=>u r σ' H' Q
theorem pgs_nil:PGs X [] gNil:=by intro pins s σ H vs us Q I r h;obtain⟨e,h⟩:=h;subst e;cases r;exact assignInOrder_nil ⟨σ,H,I,h⟩
theorem pgs_cons (h1:PG X e t)(h2:PGs X es u)
  (hs:(assignEach (e::es) X.env).map (·.2)=assign e X.env::(assignEach es X.env).map (·.2):=by rfl):PGs X (e::es) (gCons t u):=by
 intro pins s σ H vs us Q I r h;obtain⟨v,vr,e1,h⟩:=h;subst e1;cases r with
 |cons r rr=>rw[hs];refine assignInOrder_cons (thn (h1 pins s σ H _ _ _ I r h) λ_ s1 ⟨σ1,H1,I1,q1⟩=>?_);exact h2 pins s1 σ1 H1 _ _ Q I1 rr q1
def gTup (K:Fg)(n:Nat)(t:TGs):TG:=λv σ H Q=>∃a xs,v=.ref a/\SqT K H a xs/\xs.length=n/\t xs σ H Q
theorem pg_tup (hc:X.calm=true)(h:PGs X es t)
  (hn:(assignEach es X.env).length=n:=by rfl) (hst:(assignEach es X.env).findIdx? (·.1)=none:=by rfl):PG X (.Tuple es k pos) (gTup X.K n t):=by
 intro pins s σ H v u Q I r hw;obtain⟨a,xs,e1,hq,hl,hw⟩:=hw;subst e1;cases r;obtain⟨its,rv,ht,hz⟩:=I.tuple hq;refine assign_Tuple_tuple (I.ok.hd hc) ht (by simp[hn,<- hl,rv.length]) hst λh' hx=>?_;have I1:Inv X pins σ H { s with heap:=h' }:=I.kept (t':=s.toks) λb o e=>hx b o (be (aA e)) e;exact h pins _ σ H xs _ Q I1 (by simpa using rv) hw
def gSub (to ti:TE)(t:TSet):TG:=λv σ H Q=>to σ H λo H1=>ti σ H1 λi H2=>t o i v H2 λH3=>Q σ H3
theorem pg_sub (ho:PE X o to)(hi:PE X i ti)(hs:PSet X t)
  (ha:∀v,assign (.Subscript o i pos) X.env v=(do
   let ov <- holding [v] (eval o X.env)
   let iv <- holding [v,ov] (eval i X.env)
   standAt pos
   holding [v,ov,iv] (setItem ov iv v)
   release [v,ov,iv] []):=by intro _;rfl):PG X (.Subscript o i pos) (gSub to ti t):=by
 intro pins s σ H v u Q I r h;rw[ha];refine aB (dH (thn (ho pins s σ H _ I h) λov s1 ⟨x,H1,I1,r1,q1⟩=>?_));refine aB (dH (thn (hi pins s1 σ H1 _ I1 q1) λiv s2 ⟨y,H2,I2,r2,q2⟩=>?_));refine aB (wpAny_standAt (aB (dH (thn (hs pins s2 σ H2 x y v ov iv u _ I2 r1 r2 r q2) λ_ s3 ⟨H3,I3,q3⟩=>?_))));exact wpAny_release ⟨σ,H3,I3,q3⟩
def tAsg (te:TE)(g:TG):TS:=λD σ H=>te σ H λx H1=>g x σ H1 D.nx
theorem ps_asg (he:PE X e te)(hg:PG X tg g)(hs:swapsWithSole [tg] e pos.line X.env=pure false:=by rfl)(hw:swappedStores [tg] e X.env=pure none:=by rfl)
  (h1:(assignEach [tg] X.env).map (·.2)=[assign tg X.env]:=by rfl):PS X (.Assign [tg] e pos) (tAsg te g):=by
 intro pins s σ H D I h;refine wpAny_Assign_stores (thn (he pins s σ H _ I h) λv s1 ⟨x,H1,I1,r1,q1⟩=>?_) hs hw;rw[h1];exact thn (hg pins s1 σ H1 x v _ I1 r1 q1) λ_ s2 q=>q
theorem ps_set (hN:X.N.Nodup)(hi:X.N[i]?=some x)(hx:Loc X.env.scope x)(he:PE X e te)(hs:swapsWith e (some (.Name x pos')) pos.line X.env=pure false:=by rfl)(hf:X.fn x=true\/X.env.scope.names.lookup x=some .local:=by first|exact .inl rfl|exact .inr rfl|assumption) :
  PS X (.Assign [.Name x pos'] e pos) (tAsg te (gName i)):=by
 intro pins s σ H D I h;refine wpAny_Assign_Name (thn (he pins s σ H _ I h) λv s1 ⟨y,H1,I1,r1,q1⟩=>?_) hs;exact store_ok I1 hN hi hx r1 (λs2 I2=>⟨_,H1,I2,q1⟩) hf
def tAug (i:Nat)(te:TE)(ti:TIp):TS:=λD σ H=>∃x,σ[i]?=some (some x)/\te σ H λy H1=>ti x y H1 λz H2=>D.nx (σ.set i (some z)) H2
theorem ps_aug (hN:X.N.Nodup)(hi:X.N[i]?=some x)(hx:Loc X.env.scope x)(he:PE X e te)(ho:PIp X op ti)(hf:X.fn x=true\/X.env.scope.names.lookup x=some .local:=by first|exact .inl rfl|exact .inr rfl|assumption) :
  PS X (.AugAssign (.Name x pos') op e pos) (tAug i te ti):=by
 intro pins s σ H D I h;obtain⟨v,e1,h⟩:=h;obtain⟨m,hn,hl⟩:=I.loc;have vis:Vis X.env.scope x:=by rcases hx with k|k;exact .inl k;exact .inr (.inl k)
 obtain⟨u,r,l⟩:=hl i x v hi e1 vis;refine wpAny_AugAssign_Name ?_;have go:wpAny (model X.prog X.w) X.A (eval e X.env) (λw s₂=>wpAny (model X.prog X.w) X.A (inplaceOp op u w) (λr s₃=>wpAny (model X.prog X.w) X.A (storeName X.env x r) (λ_=>SP X pins D .next) X.xe s₃) X.xe s₂) X.xe s:=by refine thn (he pins s σ H _ I h) λw s1 ⟨y,H1,I1,r1,q1⟩=>?_;refine thn (ho pins s1 σ H1 v y u w _ I1 r r1 q1) λz s2 ⟨zv,H2,I2,r2,q2⟩=>?_;exact store_ok I2 hN hi hx r2 (λs3 I3=>⟨_,H2,I3,q2⟩) hf
 rcases l with⟨hk,hm⟩|⟨hk,c,hc,hcell⟩
 ·exact eH I.ok.kind hk hn hm go
 ·rcases hk with hk|hk
  ·exact wpAny_loadName_cell I.ok.kind hk hc hcell go
  ·rcases hx with k|k
   ·have:X.env.scope.names.lookup x=some .free:=hk;rw[k]at this;cases this
   ·have:X.env.scope.names.lookup x=some .free:=hk;rw[k]at this;cases this
def tAugS (to ti te:TE)(tget:V->V->Hp->VK->Prop)(tip:TIp)(tset:TSet):TS:=λD σ H=>to σ H λo H1=>ti σ H1 λi H2=>tget o i H2 λx H3=>te σ H3 λy H4=>tip x y H4 λz H5=>tset o i z H5 λH6=>D.nx σ H6
def PGet (X:Cx)(t:V->V->Hp->VK->Prop):Prop:=
 ∀(pins:List (Addr×Obj)) (s:Shared) (σ:St) (H:Hp) (o i:V) (ov iv:Value) (Q:VK),Inv X pins σ H s->RelV o ov->RelV i iv->t o i H Q ->
  wpAny (model X.prog X.w) X.A (getItem ov iv) (EP X pins σ Q) X.xe s
theorem ps_augS (ho:PE X o to)(hi:PE X i ti)(hg:PGet X tget)(he:PE X e te)(hp:PIp X op tip)(hs:PSet X tset)
  (ha:∀ov iv new,augStore i ov iv new=(do holding [new,ov,iv] (setItem ov iv new);release [new,ov,iv] [];pure .next):=by intros;rfl):PS X (.AugAssign (.Subscript o i tpos) op e pos) (tAugS to ti te tget tip tset):=by
 intro pins s σ H D I h;refine wpAny_AugAssign_SubscriptAny (thn (ho pins s σ H _ I h) λov s1 ⟨x1,H1,I1,r1,q1⟩=>?_) ha;refine thn (hi pins s1 σ H1 _ I1 q1) λiv s2 ⟨x2,H2,I2,r2,q2⟩=>?_;refine thn (hg pins s2 σ H2 x1 x2 ov iv _ I2 r1 r2 q2) λold s3 ⟨x3,H3,I3,r3,q3⟩=>?_;refine thn (he pins s3 σ H3 _ I3 q3) λv s4 ⟨x4,H4,I4,r4,q4⟩=>?_;refine thn (hp pins s4 σ H4 x3 x4 old v _ I4 r3 r4 q4) λnew s5 ⟨x5,H5,I5,r5,q5⟩=>?_;exact thn (hs pins s5 σ H5 x1 x2 x5 ov iv new _ I5 r1 r2 r5 q5) λ_ s6 ⟨H6,I6,q6⟩=>⟨σ,H6,I6,q6⟩
end
section
variable {X:Cx}{pos:Pos}
def tWhile (c:TT)(tb:TS):TS:=λD σ H=>∃W:Nat->St->Hp->Prop,(∃m,W m σ H)/\∀m σ H,W m σ H ->
 c σ H λb H1=>if b=true then ∃N:St->Hp->Prop,(∀σ' H',N σ' H' -> ∃m',m'<m/\W m' σ' H')/\tb { D with nx:=N,ct:=N,bk:=D.nx } σ H1 else D.nx σ H1
theorem ps_while (hp:PassesOwn (model X.prog X.w) X.A X.env X.xe)(hc:PT X c tc)(hb:PSs X body tb):PS X (.While c body [] pos) (tWhile tc tb):=by
 intro pins s σ H D I h;obtain⟨W,⟨m0,w0⟩,turn⟩:=h;refine wpAny_While (codeAny_whileLoop (λn s'=>∃σ' H',Inv X pins σ' H' s'/\W n σ' H') ?_ m0 ⟨σ,H,I,w0⟩);rintro n s1 ⟨σ1,H1,I1,w1⟩;refine dE hp (thn (hc pins s1 σ1 H1 _ I1 (turn n σ1 H1 w1)) λb s2 ⟨H2,I2,q2⟩=>?_);cases b with
 |true=>
  obtain⟨N,hN,q2⟩:=q2;rw[ah rfl];refine dE hp (thn (hb pins s2 σ1 H2 _ I2 q2) λf s3 q3=>?_);cases f with
  |next=>obtain⟨σ3,H3,I3,n3⟩:=q3;obtain⟨m',hm,w3⟩:=hN σ3 H3 n3;exact⟨m',hm,σ3,H3,I3,w3⟩
  |cont=>obtain⟨σ3,H3,I3,n3⟩:=q3;obtain⟨m',hm,w3⟩:=hN σ3 H3 n3;exact⟨m',hm,σ3,H3,I3,w3⟩
  |brk=>exact q3
  |ret v=>exact q3
 |false=>rw[ag bc];exact fh ⟨σ1,H2,I2,q2⟩
end
structure It where
 go:Nat->Hp->Prop
 yld:Nat->Hp->V->Hp->Prop
 stop:Nat->Hp->Prop
def FpOk (X:Cx)(pins:List (Addr×Obj))(H:Hp)(b:Addr):Prop:=
 H b=none/\b≠X.env.locals/\b∉X.fs/\(b∈X.ex\/X.s₀.heap.objs.size<=b)/\(∀x c,X.env.cells.lookup x=some c->c≠b)/\∀p∈X.pn++pins,p.1≠b
theorem Inv.fpOk {X:Cx}{pins:List (Addr×Obj)}{σ:St}{H H':Hp}{s:Shared}{b:Addr}(I:Inv X pins σ H s)(hb:s.heap.objs.size<=b)(hn:H' b=none):FpOk X pins H' b:=by
 refine⟨hn,dX (aD I.lt hb),I.nofs hb,.inr (aJ I.sz hb),λx c e z=>?_,λp hp z=>?_⟩
 ·obtain⟨v,q⟩:=I.cell x c e;exact absurd (aD q.lt (by rw[z];exact hb)) (c7 _)
 ·exact absurd (aD (aA (I.pin p hp).1) (by rw[z];exact hb)) (c7 _)
structure Turn (P:Program)(w:World)(K:Fg)(tg:Expr)(J:It)(fp:List Addr)(it:Addr)(tn:Nat->Heap->Prop):Prop where
 mem:it∈fp
 obj:∀i h,tn i h->∀b∈fp,∃o,h.get? b=some o/\∀v,o.data ≠ .cell v
 keep:∀i h h',tn i h->(∀b∈fp,∀o,h.get? b=some o->h'.get? b=some o)->tn i h'
 item:∀(X:Cx),X.prog=P->X.w=w->X.K=K->X.calm=true->∀(i:Nat) (pins:List (Addr×Obj)) (s:Shared) (σ:St) (H:Hp) (E:Value->Shared->Prop),Inv X pins σ H s->(∀b∈fp,FpOk X pins H b)->tn i s.heap->J.go i H ->
  wpAny (model P w) X.A (pyNext (.ref it)) (λr s1=>∃u,r=some u /\
   wpAny (model P w) X.A (letOwnedTupleGo tg (.ref it) u) (λ_ s2=>∃x H',Inv X pins σ H' s2/\RelV x u/\J.yld i H x H'/\tn (i+1) s2.heap/\∀b∈fp,H' b=none) E s1) E s
 done:∀(X:Cx),X.prog=P->X.w=w->X.K=K->X.calm=true->∀(i:Nat) (pins:List (Addr×Obj)) (s:Shared) (σ:St) (H:Hp) (E:Value->Shared->Prop),Inv X pins σ H s->(∀b∈fp,FpOk X pins H b)->tn i s.heap->J.stop i H ->
  wpAny (model P w) X.A (pyNext (.ref it)) (λr s1=>r=none/\Inv X pins σ H s1) E s
 self:∀(A:Around) (i:Nat) (s:Shared) (Q:Value->Shared->Prop) (E:Value->Shared->Prop),tn i s.heap->Q (.ref it) s->wpAny (model P w) A (pyIter (.ref it)) Q E s
abbrev TI:=St->Hp->(It->Hp->Prop)->Prop
def PIE (X:Cx)(pins:List (Addr×Obj))(σ:St)(tg:Expr)(R:It->Hp->Prop)(itv:Value)(s2:Shared):Prop:=
 ∃(it:Addr) (fp:List Addr) (tn:Nat->Heap->Prop) (J:It) (H':Hp),itv=.ref it/\Inv X pins σ H' s2/\Turn X.prog X.w X.K tg J fp it tn/\tn 0 s2.heap/\(∀b∈fp,FpOk X pins H' b)/\R J H'
def PI (X:Cx)(tg iter:Expr)(wi:TI):Prop:=
 ∀(pins:List (Addr×Obj)) (s:Shared) (σ:St) (H:Hp) (R:It->Hp->Prop),Inv X pins σ H s->wi σ H R ->
  wpAny (model X.prog X.w) X.A (eval iter X.env) (λv s1=>wpAny (model X.prog X.w) X.A (pyIter v) (PIE X pins σ tg R) X.xe s1) X.xe s
theorem go_of (ho:s.heap.get? it=some o)(hc:o.cls=.type n)(hd:o.data=.fields vs)
    (hn:["enumerate","zip","dict_itemiterator","dict_reverseitemiterator","odict_iterator","itertools.zip_longest","itertools.pairwise"].contains n=false) (hQ:Q () s):wpAny M A (letOwnedTupleGo tg (.ref it) u) Q E s:=by
  unfold letOwnedTupleGo;cases tg<;>first
    |exact bI hQ
    | (cases u <;> first
        |exact bI hQ
        | (refine aB (wpAny_load ho ?_)
           rw[hc,hd];show wpAny M A (if (["enumerate","zip","dict_itemiterator","dict_reverseitemiterator","odict_iterator","itertools.zip_longest","itertools.pairwise"].contains n && vs[0]? == some (rawInt _))=true then _ else _) Q E s;rw[ag (by intro h;rw[hn,Bool.false_and]at h;cases h)];exact bI hQ))
def Itl (K:Fg)(a:Addr):It:=
 ⟨λi H=>∃xs x,SqL K H a xs/\xs[i]?=some x,λi H x H'=>H'=H/\∀xs,SqL K H a xs->xs[i]?=some x,λi H=>∃xs,SqL K H a xs/\xs.length<=i⟩
def Itr (lo:Int)(n:Nat):It:=⟨λi _=>i<n,λi H x H'=>H'=H/\x=.int (lo+i),λi _=>n<=i⟩
theorem turn_list {P:Program}{w:World}{K:Fg}{tg:Expr}(a it:Addr):Turn P w K tg (Itl K a) [it] it (λi h=>h.IsListIter it a i) where
 mem:=by simp
 obj:=λi h st b hb=>by
  have e:b=it:=by simpa using hb
  subst e;obtain⟨o,e,c,d⟩:=st;exact⟨o,e,λv z=>by rw[d]at z;cases z⟩
 keep:=λi h h' st k=>st.at λo e=>k it (by simp) o e
 item:=by intro X hP hw hK hc i pins s σ H E I hf st hg;subst hP hw hK;obtain⟨xs,x,hq,hx⟩:=hg;obtain⟨its,rv,p,hz⟩:=I.list hq;obtain⟨u,hu,ru⟩:=rv.get hx;obtain⟨f0,f1,f2,f3,f4,f5⟩:=hf it (by simp);refine wpAny_pyNext_list_item st p.isList (x:=u) (by simpa using hu) λh' st' sb=>?_;have I1:Inv X pins σ H { s with heap:=h' }:=I.turned (t':=s.toks) (λb o hb e=>(sb.2 b hb).trans e) f0 f1 f3 f4 f5;obtain⟨o,e,c,d⟩:=id st';exact⟨u,rfl,go_of (s:={ s with heap:=h' }) e c d (by decide) ⟨x,H,I1,ru,⟨rfl,λys hy=>by rw[I.list_inj hy hq];exact hx⟩,st',λb hb=>(hf b hb).1⟩⟩
 done:=by intro X hP hw hK hc i pins s σ H E I hf st hg;subst hP hw hK;obtain⟨xs,hq,hx⟩:=hg;obtain⟨its,rv,p,hz⟩:=I.list hq;obtain⟨f0,f1,f2,f3,f4,f5⟩:=hf it (by simp);have hl:=rv.length;exact wpAny_pyNext_list_end (I.ok.hd hc) st p.isList (by simp;lia) λh' eb=>⟨rfl,I.turned (t':=s.toks) (λb o hb e=>eb b o hb e) f0 f1 f3 f4 f5⟩
 self:=λ_ _ _ _ _ st h=>wpAny_pyIter_listiter st h
theorem turn_range {P:Program}{w:World}{K:Fg}{tg:Expr}(it:Addr)(lo:Int)(n:Nat):Turn P w K tg (Itr lo n) [it] it (λi h=>IsRangeIter h it (lo+(i:Nat)*1) ((n:Int)-(i:Nat)) 1) where
 mem:=by simp
 obj:=λi h st b hb=>by
  have e:b=it:=by simpa using hb
  subst e;exact⟨_,st,λv z=>by
   have z':Data.fields _=Data.cell v:=z;cases z'⟩
 keep:=λi h h' st k=>k it (by simp) _ st
 item:=by intro X hP hw hK hc i pins s σ H E I hf st hg;subst hP hw hK;obtain⟨f0,f1,f2,f3,f4,f5⟩:=hf it (by simp);have W:=Walks.range (prog:=X.prog) (w:=X.w) (I.ok.hd hc) it lo 1 n;refine W.item i s _ _ hg st λv h' tk hv st' kk=>?_;obtain⟨t,rfl⟩:=hv;have I1:Inv X pins σ H { s with heap:=h',toks:=tk }:=I.turned (λb o hb e=>kk b o (by simpa using hb) e) f0 f1 f3 f4 f5;refine⟨_,rfl,go_of (s:={ s with heap:=h',toks:=tk }) (n:="range_iterator") st' rfl rfl (by decide) ⟨.int (lo+i),H,I1,⟨t,?_⟩,⟨rfl,rfl⟩,st',λb hb=>(hf b hb).1⟩⟩;rw[bR]
 done:=by intro X hP hw hK hc i pins s σ H E I hf st hg;subst hP hw hK;obtain⟨f0,f1,f2,f3,f4,f5⟩:=hf it (by simp);exact wpAny_pyNext_range_end (I.ok.hd hc) st (by have:n<=i:=hg;lia) λh' eb=>⟨rfl,I.turned (t':=s.toks) (λb o hb e=>eb b o hb e) f0 f1 f3 f4 f5⟩
 self:=λ_ _ _ _ _ st h=>wpAny_pyIter_rangeiter st h
section
variable {X:Cx}{tg:Expr}
def iList (K:Fg)(tl:TE):TI:=λσ H R=>tl σ H λx H1=>∃a,x=.ref a/\(∃xs,SqL K H1 a xs)/\R (Itl K a) H1
theorem pi_list {l:Expr}{tl:TE}(hl:PE X l tl):PI X tg l (iList X.K tl):=by
 intro pins s σ H R I h;refine thn (hl pins s σ H _ I h) λv s1 ⟨x,H1,I1,r1,q1⟩=>?_;obtain⟨a,e,⟨xs,hq⟩,q⟩:=q1;subst e;cases r1;obtain⟨its,rv,p,hz⟩:=I1.list hq;refine wpAny_pyIter_list p.isList ?_;refine⟨s1.heap.objs.size,[s1.heap.objs.size],_,_,H1,rfl,I1.kept (t':=s1.toks) λb o e=>ay _ e,turn_list a _,⟨_,bi _ rfl,rfl,rfl⟩,λb hb=>?_,q⟩;have e:b=s1.heap.objs.size:=by simpa using hb
 subst e;exact I1.fpOk (aq _) (I1.hok.fresh (aq _))
theorem range_it {pins:List (Addr×Obj)}{σ:St}{H:Hp}{s:Shared}{R:It->Hp->Prop}{E:Value->Shared->Prop}{lo hi:Int}{t u v:Tok}{tk:Nat}(I:Inv X pins σ H s)(h1:-(2^62)<=lo)(h2:lo<2^62)(h3:-(2^62)<=hi)(h4:hi<2^62)
  (q:R (Itr lo (hi-lo).toNat) H):wpAny (model X.prog X.w) X.A (pyIter (.ref s.heap.objs.size)) (PIE X pins σ tg R) E { s with heap:=s.heap.push { cls:=.type "range",data:=.fields #[.int lo t,.int hi u,.int 1 v] },toks:=tk }:=by
 refine wpAny_pyIter_range (IsRange.new ..) (small_one h1 h2 h3 h4) ?_;have I1:Inv X pins σ H { s with heap:=s.heap.push { cls:=.type "range",data:=.fields #[.int lo t,.int hi u,.int 1 v] },toks:=tk }:=I.kept λb o e=>ay _ e;refine⟨(s.heap.push { cls:=.type "range",data:=.fields #[.int lo t,.int hi u,.int 1 v] }).objs.size,[(s.heap.push { cls:=.type "range",data:=.fields #[.int lo t,.int hi u,.int 1 v] }).objs.size],_,_,H,rfl,
  I1.kept (t':=tk) λb o e=>ay _ e,turn_range _ lo (hi-lo).toNat,?_,λb hb=>?_,q⟩
 ·have e1:lo+((0:Nat):Int)*1=lo:=by simp
  have e2:(((hi-lo).toNat:Nat):Int)-((0:Nat):Int)=Builtin.Range.rangeSize lo hi 1:=by rw[rangeSize_one];split<;>lia
  show IsRangeIter _ _ (lo+((0:Nat):Int)*1) ((((hi-lo).toNat:Nat):Int)-((0:Nat):Int)) 1;rw[e1,e2];exact bi _ rfl
 ·have e:b=(s.heap.push { cls:=.type "range",data:=.fields #[.int lo t,.int hi u,.int 1 v] }).objs.size:=by simpa using hb
  subst e;exact I1.fpOk (aq _) (I1.hok.fresh (aq _))
def iRng1 (ta:TA):TI:=λσ H R=>ta σ H λvs H1=>∃j:Int,vs=[.int j] /\ -(2^62)<=j/\j<2^62/\R (Itr 0 j.toNat) H1
def iRng2 (ta:TA):TI:=λσ H R=>ta σ H λvs H1=>∃i j:Int,vs=[.int i,.int j]/\(-(2^62)<=i/\i<2^62 /\ -(2^62)<=j/\j<2^62)/\R (Itr i (j-i).toNat) H1
theorem pi_range1 {a:Expr}{ta:TA}{p pos:Pos}(hg:Gl X "range")(hm:X.mg "range"=none)(ha:PA X [a] ta)(hs:starEach [a] X.env=[(false,eval a X.env)]:=by rfl):PI X tg (.Call (.Name "range" p) [a] [] pos) (iRng1 ta):=by
 intro pins s σ H R I h;refine Call_ (ld_blt I hg hm boot_range (cq (thn (ha pos pins s σ H _ I h) λus s1 ⟨vs,H1,I1,r1,q1⟩=>?_) hs rfl));obtain⟨j,e,q1,q2,q⟩:=q1;subst e;cases r1 with
 |cons r rr=>cases rr;obtain⟨t,rfl⟩:=r;exact call_range_1 (range_it I1 (by lia) (by lia) q1 q2 (by simpa using q))
theorem pi_range2 (hg:Gl X "range")(hm:X.mg "range"=none)(ha:PA X [a,b] ta)(hs:starEach [a,b] X.env=[(false,eval a X.env),(false,eval b X.env)]:=by rfl)(hs2:starEach [b] X.env=[(false,eval b X.env)]:=by rfl) :
  PI X tg (.Call (.Name "range" p) [a,b] [] pos) (iRng2 ta):=by
 intro pins s σ H R I h;refine Call_ (ld_blt I hg hm boot_range (cq (thn (ha pos pins s σ H _ I h) λus s1 ⟨vs,H1,I1,r1,q1⟩=>?_) (by rw[hs,hs2]) (by rw[hs2];rfl)));obtain⟨i,j,e,⟨q1,q2,q3,q4⟩,q⟩:=q1;subst e;cases r1 with
 |cons r rr=>
  cases rr with
  |cons r' rr=>cases rr;obtain⟨t,rfl⟩:=r;obtain⟨t',rfl⟩:=r';exact call_range_2 (range_it I1 q1 q2 q3 q4 q)
def tFor (wi:TI)(g:TG)(tb:TS):TS:=λD σ H=>wi σ H λJ H1=>∃W:Nat->Nat->St->Hp->Prop,(∃m,W 0 m σ H1)/\∀i m σ H,W i m σ H ->
 (J.stop i H/\D.nx σ H)\/(J.go i H/\∃N:St->Hp->Prop,(∀σ' H',N σ' H' -> ∃m',m'<m/\W (i+1) m' σ' H')/\∀x H',J.yld i H x H' -> g x σ H' λσ2 H2=>tb { D with nx:=N,ct:=N,bk:=D.nx } σ2 H2)
def pinsAt (fp:List Addr)(h:Heap):List (Addr×Obj):=fp.filterMap λb=>(h.get? b).map λo=>(b,o)
theorem mem_pinsAt (hb:b∈fp)(e:h.get? b=some o):(b,o)∈pinsAt fp h:=cI.mpr ⟨b,hb,by rw[e];rfl⟩
theorem of_pinsAt (hp:p∈pinsAt fp h):p.1∈fp/\h.get? p.1=some p.2:=by
 obtain⟨b,hb,e⟩:=cI.mp hp;cases q:h.get? b with
 |none=>rw[q]at e;cases e
 |some o=>rw[q]at e;have e':(b,o)=p:=aI e;subst e';exact⟨hb,q⟩
theorem Inv.pinned (I:Inv X pins σ H s)(hf:∀b∈fp,FpOk X pins H b)(ho:∀b∈fp,∃o,s.heap.get? b=some o/\∀v,o.data ≠ .cell v):Inv X (pins++pinsAt fp s.heap) σ H s:=
 I.pins_of λp hp=>(cV.mp hp).elim (λz=>I.pin p (aH _ z)) λz=>by obtain⟨hb,e⟩:=of_pinsAt z;obtain⟨f0,f1,f2,_⟩:=hf p.1 hb;obtain⟨o,e',d⟩:=ho p.1 hb;rw[e]at e';cases e';exact⟨e,f0,f1,f2,d⟩
theorem Inv.unpinned (I:Inv X (pins++pl) σ H s):Inv X pins σ H s:=I.pins_of λp hp=>I.pin p (aH _ (b9 _ hp))
theorem ps_for (hp:PassesOwn (model X.prog X.w) X.A X.env X.xe)(hc:X.calm=true)(hi:PI X tg iter wi)(hg:PG X tg g)(hb:PSs X body tb)
  (hs:∀x,foldedSetIterable iter X.env x=pure x:=by intro _;rfl):PS X (.For tg iter body [] pos) (tFor wi g tb):=by
 intro pins s σ H D I h;refine wpAny_For (thn (hi pins s σ H _ I h) λv s1 h1=>thn h1 λitv s2 h2=>?_) hs;obtain⟨it,fp,tn,J,H2,e,I2,T,st2,f2,W,⟨m0,w0⟩,turn⟩:=h2;subst e;have stat:∀{H':Hp},(∀b∈fp,H' b=none)->∀b∈fp,FpOk X pins H' b:=λhn b hb=>⟨hn b hb,(f2 b hb).2⟩;refine codeAny_forLoop_any (λn s'=>∃i σ' H',Inv X pins σ' H' s'/\tn i s'.heap/\(∀b∈fp,H' b=none)/\W i n σ' H') ?_ m0 ⟨0,σ,H2,I2,st2,λb hb=>(f2 b hb).1,w0⟩;rintro n s3 ⟨i,σ3,H3,I3,st3,fr3,w3⟩;rcases turn i n σ3 H3 w3 with⟨stop,qn⟩|⟨go,N,hN,step⟩
 ·refine dE hp (thn (T.done X rfl rfl rfl hc i pins s3 σ3 H3 X.xe I3 (stat fr3) st3 stop) λr s4 ⟨hr,I4⟩=>?_);subst hr;exact fh ⟨σ3,H3,I4,qn⟩
 ·refine dE hp (thn (T.item X rfl rfl rfl hc i pins s3 σ3 H3 X.xe I3 (stat fr3) st3 go) λr s4 ⟨u,hr,h4⟩=>?_);subst hr;refine dE hp (thn h4 λ_ s5 ⟨x,H5,I5,r5,y5,st5,fr5⟩=>?_);have I5':=I5.pinned (stat fr5) (T.obj _ _ st5);refine dE hp (thn (hg _ s5 σ3 H5 x u _ I5' r5 (step x H5 y5)) λ_ s6 ⟨σ6,H6,I6,q6⟩=>?_);refine dE hp (thn (hb _ s6 σ6 H6 _ I6 q6) λf s7 q7=>?_);have again:∀{σ7:St} {H7:Hp},Inv X (pins++pinsAt fp s5.heap) σ7 H7 s7->N σ7 H7->∃m,m<n/\∃i σ' H',Inv X pins σ' H' s7/\tn i s7.heap/\(∀b∈fp,H' b=none)/\W i m σ' H':=λ{σ7 H7} I7 n7=>by obtain⟨m',hm,w7⟩:=hN σ7 H7 n7;refine⟨m',hm,i+1,σ7,H7,I7.unpinned,T.keep _ _ _ st5 λb hb o e=>(I7.pin (b,o) (aH _ (aH _ (mem_pinsAt hb e)))).1,λb hb=>?_,w7⟩;obtain⟨o,e,d⟩:=T.obj _ _ st5 b hb;exact(I7.pin (b,o) (aH _ (aH _ (mem_pinsAt hb e)))).2.1
  cases f with
  |next=>obtain⟨σ7,H7,I7,n7⟩:=q7;exact again I7 n7
  |cont=>obtain⟨σ7,H7,I7,n7⟩:=q7;exact again I7 n7
  |brk=>obtain⟨σ7,H7,I7,q7⟩:=q7;exact⟨σ7,H7,I7.unpinned,q7⟩
  |ret v=>obtain⟨x7,σ7,H7,I7,r7,q7⟩:=q7;exact⟨x7,σ7,H7,I7.unpinned,r7,q7⟩
end
theorem for_list {K:Fg}{a:Addr}{xs:List V}{g:TG}{tb:TS}{D:Ends}{σ:St}{H:Hp}(Pv:Nat->St->Hp->Prop)(h0:Pv 0 σ H)(hl:∀i σ H,i<=xs.length->Pv i σ H->SqL K H a xs)
  (hs:∀i x σ H,xs[i]?=some x->Pv i σ H->g x σ H λσ2 H2=>tb { D with nx:=Pv (i+1),ct:=Pv (i+1),bk:=D.nx } σ2 H2) (hd:∀σ H,Pv xs.length σ H->D.nx σ H) :
  ∃W:Nat->Nat->St->Hp->Prop,(∃m,W 0 m σ H)/\∀i m σ H,W i m σ H ->
   ((Itl K a).stop i H/\D.nx σ H)\/((Itl K a).go i H/\∃N:St->Hp->Prop,(∀σ' H',N σ' H' -> ∃m',m'<m/\W (i+1) m' σ' H')/\∀x H',(Itl K a).yld i H x H' -> g x σ H' λσ2 H2=>tb { D with nx:=N,ct:=N,bk:=D.nx } σ2 H2):=by
 refine⟨λi m σ H=>m=xs.length-i/\i<=xs.length/\Pv i σ H,⟨xs.length,by simp,bq _,h0⟩,?_⟩;rintro i m σ H ⟨rfl,hi,p⟩;have q:=hl i σ H hi p;by_cases hlt:i<xs.length
 ·refine .inr ⟨⟨xs,xs[i],q,by simp[hlt]⟩,Pv (i+1),λσ' H' p'=>⟨xs.length-(i+1),by lia,rfl,hlt,p'⟩,λx H' y=>?_⟩;obtain⟨e,y⟩:=y;subst e;exact hs i x σ _ (y xs q) p
 ·have e:i=xs.length:=by lia
  subst e;exact .inl ⟨⟨xs,q,aq _⟩,hd σ H p⟩
theorem for_range {lo:Int}{n:Nat}{g:TG}{tb:TS}{D:Ends}{σ:St}{H:Hp}(Pv:Nat->St->Hp->Prop)(h0:Pv 0 σ H)
  (hs:∀i σ H,i<n->Pv i σ H->g (.int (lo+i)) σ H λσ2 H2=>tb { D with nx:=Pv (i+1),ct:=Pv (i+1),bk:=D.nx } σ2 H2) (hd:∀σ H,Pv n σ H->D.nx σ H) :
  ∃W:Nat->Nat->St->Hp->Prop,(∃m,W 0 m σ H)/\∀i m σ H,W i m σ H ->
   ((Itr lo n).stop i H/\D.nx σ H)\/((Itr lo n).go i H/\∃N:St->Hp->Prop,(∀σ' H',N σ' H' -> ∃m',m'<m/\W (i+1) m' σ' H')/\∀x H',(Itr lo n).yld i H x H' -> g x σ H' λσ2 H2=>tb { D with nx:=N,ct:=N,bk:=D.nx } σ2 H2):=by
 refine⟨λi m σ H=>m=n-i/\i<=n/\Pv i σ H,⟨n,by simp,bq _,h0⟩,?_⟩;rintro i m σ H ⟨rfl,hi,p⟩;by_cases hlt:i<n
 ·refine .inr ⟨hlt,Pv (i+1),λσ' H' p'=>⟨n-(i+1),by lia,rfl,hlt,p'⟩,λx H' y=>?_⟩;obtain⟨e,y⟩:=y;subst e y;exact hs i σ _ hlt p
 ·have e:i=n:=by lia
  subst e;exact .inl ⟨aq _,hd σ H p⟩
theorem while_by (Pv:St->Hp->Prop)(μ:St->Hp->Nat)(h0:Pv σ H)
  (hs:∀σ H,Pv σ H->c σ H λb H1=>if b=true then tb { D with nx:=λσ' H'=>Pv σ' H'/\μ σ' H'<μ σ H,ct:=λσ' H'=>Pv σ' H'/\μ σ' H'<μ σ H,bk:=D.nx } σ H1 else D.nx σ H1)
  (mono:∀σ H Q Q',(∀b H1,Q b H1->Q' b H1)->c σ H Q->c σ H Q'):tWhile c tb D σ H:=by
 refine⟨λm σ H=>m=μ σ H/\Pv σ H,⟨_,rfl,h0⟩,?_⟩;rintro m σ H ⟨rfl,p⟩;refine mono σ H _ _ (λb H1 q=>?_) (hs σ H p);cases b with
 |true=>exact⟨_,λσ' H' ⟨p',l⟩=>⟨_,l,rfl,p'⟩,q⟩
 |false=>exact q
abbrev R2:=V->V->Hp->VK->Prop
def OpR (X:Cx)(f:Value->Value->Sem Value)(r:R2):Prop:=
 ∀(pins:List (Addr×Obj)) (s:Shared) (σ:St) (H:Hp) (x y:V) (v u:Value) (Q:VK),Inv X pins σ H s->RelV x v->RelV y u->r x y H Q ->
  wpAny (model X.prog X.w) X.A (f v u) (EP X pins σ Q) X.xe s
def UnR (X:Cx)(f:Value->Sem Value)(r:V->Hp->VK->Prop):Prop:=
 ∀(pins:List (Addr×Obj)) (s:Shared) (σ:St) (H:Hp) (x:V) (v:Value) (Q:VK),Inv X pins σ H s->RelV x v->r x H Q ->
  wpAny (model X.prog X.w) X.A (f v) (EP X pins σ Q) X.xe s
def CallR (X:Cx)(f:Value)(r:List V->Hp->VK->Prop):Prop:=
 ∀(pins:List (Addr×Obj)) (s:Shared) (σ:St) (H:Hp) (xs:List V) (us:List Value) (Q:VK),Inv X pins σ H s->Vals xs us->r xs H Q ->
  wpAny (model X.prog X.w) X.A (call f us) (EP X pins σ Q) X.xe s
def TruR (X:Cx)(r:V->Hp->(Bool->Hp->Prop)->Prop):Prop:=
 ∀(pins:List (Addr×Obj)) (s:Shared) (σ:St) (H:Hp) (x:V) (v:Value) (Q:Bool->Hp->Prop),Inv X pins σ H s->RelV x v->r x H Q ->
  wpAny (model X.prog X.w) X.A (truthy v) (TP X pins σ Q) X.xe s
def tOp (r:R2)(ta tb:TE):TE:=λσ H Q=>ta σ H λx H1=>tb σ H1 λy H2=>r x y H2 Q
def tUn (r:V->Hp->VK->Prop)(ta:TE):TE:=λσ H Q=>ta σ H λx H1=>r x H1 Q
def rI (C:Int->Int->Prop)(g:Int->Int->V):R2:=λx y H Q=>∃i j,x=.int i/\y=.int j/\C i j/\Q (g i j) H
def rI0 (g:Int->Int->V):R2:=λx y H Q=>∃i j,x=.int i/\y=.int j/\Q (g i j) H
def rU (g:Int->V):V->Hp->VK->Prop:=λx H Q=>∃i,x=.int i/\Q (g i) H
section
variable {X:Cx}{a b c:Expr}{ta tb tc:TE}{pos:Pos}
theorem binT (ha:PE X a ta)(hb:PE X b tb){pins:List (Addr×Obj)}{R:V->V->Hp->Prop}(I:Inv X pins σ H s)
  (h:ta σ H λx H1=>tb σ H1 λy H2=>R x y H2) {Q:Value->Shared->Prop} {f:Value->Value->Sem Value}
  (hf:∀v u s2 x y H2,Inv X pins σ H2 s2->RelV x v->RelV y u->R x y H2->wpAny (model X.prog X.w) X.A (f v u) Q X.xe s2) :
  wpAny (model X.prog X.w) X.A (eval a X.env) (λv s₁=>wpAny (model X.prog X.w) X.A (eval b X.env) (λu s₂=>wpAny (model X.prog X.w) X.A (f v u) Q X.xe s₂) X.xe s₁) X.xe s:=by
 refine thn (ha pins s σ H _ I h) λv s1 ⟨x,H1,I1,r1,q1⟩=>?_;refine thn (hb pins s1 σ H1 _ I1 q1) λu s2 ⟨y,H2,I2,r2,q2⟩=>?_;exact hf v u s2 x y H2 I2 r1 r2 q2
theorem pe_op {op:Operator}{r:R2}(ho:OpR X (binaryOp op) r)(ha:PE X a ta)(hb:PE X b tb):PE X (.BinOp a op b pos) (tOp r ta tb):=by intro pins s σ H Q I h;exact wpAny_BinOp (binT ha hb I h λv u s2 x y H2 I2 rx ry q=>ho pins s2 σ H2 x y v u Q I2 rx ry q)
theorem pe_un (ho:UnR X (unaryOp op) r)(ha:PE X a ta):PE X (.UnaryOp op a pos) (tUn r ta):=by intro pins s σ H Q I h;exact UnaryOp_ (thn (ha pins s σ H _ I h) λv s1 ⟨x,H1,I1,r1,q1⟩=>ho pins s1 σ H1 x v Q I1 r1 q1)
theorem opI {f:Value->Value->Sem Value}{C:Int->Int->Prop}{g:Int->Int->Int}
  (rule:∀(i j:Int) (t u:Tok) (s:Shared) (Q:Value->Shared->Prop) (E:Value->Shared->Prop),C i j->Q (.int (g i j) s.toks) { s with toks:=s.toks+1 }->wpAny (model X.prog X.w) X.A (f (.int i t) (.int j u)) Q E s) :
  OpR X f (rI C λi j=>.int (g i j)):=by
 intro pins s σ H x y v u Q I rx ry h;obtain⟨i,j,rfl,rfl,hc,q⟩:=h;obtain⟨t,rfl⟩:=rx;obtain⟨t',rfl⟩:=ry;exact rule i j t t' s _ _ hc ⟨.int (g i j),H,I.tok _,⟨_,rfl⟩,q⟩
theorem opI0 {f:Value->Value->Sem Value}{g:Int->Int->Int}
  (rule:∀(i j:Int) (t u:Tok) (s:Shared) (Q:Value->Shared->Prop) (E:Value->Shared->Prop),Q (.int (g i j) s.toks) { s with toks:=s.toks+1 }->wpAny (model X.prog X.w) X.A (f (.int i t) (.int j u)) Q E s) :
  OpR X f (rI0 λi j=>.int (g i j)):=by
 intro pins s σ H x y v u Q I rx ry h;obtain⟨i,j,rfl,rfl,q⟩:=h;obtain⟨t,rfl⟩:=rx;obtain⟨t',rfl⟩:=ry;exact rule i j t t' s _ _ ⟨.int (g i j),H,I.tok _,⟨_,rfl⟩,q⟩
theorem opB0 {f:Value->Value->Sem Value}{g:Int->Int->Bool}
  (rule:∀(i j:Int) (t u:Tok) (s:Shared) (Q:Value->Shared->Prop) (E:Value->Shared->Prop),Q (.bool (g i j)) s->wpAny (model X.prog X.w) X.A (f (.int i t) (.int j u)) Q E s) :
  OpR X f (rI0 λi j=>.bl (g i j)):=by
 intro pins s σ H x y v u Q I rx ry h;obtain⟨i,j,rfl,rfl,q⟩:=h;obtain⟨t,rfl⟩:=rx;obtain⟨t',rfl⟩:=ry;exact rule i j t t' s _ _ ⟨.bl (g i j),H,I,rfl,q⟩
def CDiv (i j:Int):Prop:=0<j/\j<1073741824
def CPow (i j:Int):Prop:=0<=j/\j<=1000000/\i.natAbs<2^64
def CMul (i j:Int):Prop:=(-(2^64)<i/\i<2^64)\/(-(2^64)<j/\j<2^64)
theorem op_add:OpR X (binaryOp .Add) (rI0 λi j=>.int (i+j)):=opI0 λ_ _ _ _ _ _ _ q=>add_int q
theorem op_sub:OpR X (binaryOp .Sub) (rI0 λi j=>.int (i-j)):=opI0 λ_ _ _ _ _ _ _ q=>sub_int q
theorem op_mod:OpR X (binaryOp .Mod) (rI (λ_ j=>0<j) λi j=>.int (i % j)):=opI λi j _ _ _ _ _ hc q=>by have h1:(0:Int)<j:=hc;exact mod_int' (by lia) (by rw[Int.fmod_eq_emod_of_nonneg i (by lia)];exact q)
theorem op_pow:OpR X (binaryOp .Pow) (rI CPow λi j=>.int (i^j.toNat)):=opI λ_ _ _ _ _ _ _ hc q=>pow_int_small hc.1 hc.2.1 hc.2.2 q
theorem iop_add:OpR X (inplaceOp .Add) (rI0 λi j=>.int (i+j)):=opI0 λ_ _ _ _ _ _ _ q=>iadd_int q
theorem iop_fdiv:OpR X (inplaceOp .FloorDiv) (rI CDiv λi j=>.int (i / j)):=opI λi j _ _ _ _ _ hc q=>by have h1:(0:Int)<j:=hc.1;have h2:j<1073741824:=hc.2;exact ifloordiv_int (by lia) (by rw[f8 i (by lia)];exact q) (.inl (PyProof.noPylong_small (by lia)))
theorem unI {f:Value->Sem Value}{g:Int->Int}
  (rule:∀(i:Int) (t:Tok) (s:Shared) (Q:Value->Shared->Prop) (E:Value->Shared->Prop),Q (.int (g i) s.toks) { s with toks:=s.toks+1 }->wpAny (model X.prog X.w) X.A (f (.int i t)) Q E s) :
  UnR X f (rU λi=>.int (g i)):=by
 intro pins s σ H x v Q I rx h;obtain⟨i,rfl,q⟩:=h;obtain⟨t,rfl⟩:=rx;exact rule i t s _ _ ⟨.int (g i),H,I.tok _,⟨_,rfl⟩,q⟩
theorem un_neg:UnR X (unaryOp .USub) (rU λi=>.int (-i)):=unI λ_ _ _ _ _ q=>neg_int q
end
def scal:V->V->Bool
 | .non,.non=>true | .non,.int _=>true | .int _,.non=>true | .non,.bl _=>true | .bl _,.non=>true | .non,.str _=>true | .str _,.non=>true
 | .int _,.int _=>true | .bl _,.bl _=>true | .str _,.str _=>true | .byt _,.byt _=>true
 | .int _,.str _=>true | .str _,.int _=>true | .bl _,.str _=>true | .str _,.bl _=>true
 |_,_=>false
def rEq:R2:=λx y H Q=>scal x y=true/\Q (.bl (decide (x=y))) H
def rNe:R2:=λx y H Q=>scal x y=true/\Q (.bl (!decide (x=y))) H
theorem dec_int:decide (V.int i=V.int j)=(i == j):=by rw[fV];simp
theorem dec_bl:decide (V.bl i=V.bl j)=(i == j):=by rw[fV];simp
theorem dec_str:decide (V.str i=V.str j)=(i == j):=by rw[fV];simp
theorem dec_byt:decide (V.byt i=V.byt j)=(i.toList == j.toList):=by rw[fV];cases i;cases j;simp
section
variable {X:Cx}{a b c:Expr}{ta tb tc:TE}{pos:Pos}
theorem fin_bl (I:Inv X pins σ H s)(q:Q (.bl k) H)(e:k=k'):EP X pins σ Q (.bool k') s:=by subst e;exact⟨.bl k,H,I,rfl,q⟩
theorem op_eq:OpR X (compareOp .Eq) rEq:=by
 intro pins s σ H x y v u Q I rx ry h;obtain⟨hs,q⟩:=h;cases x with
 |non=>
  cases rx;cases y with
  |non=>cases ry;exact PySem.EqNone.eq_none_none (fin_bl I q (by simp))
  |bl j=>cases ry;exact PySem.EqNone.eq_none_bool (fin_bl I q (by simp))
  |int j=>obtain⟨t',rfl⟩:=ry;exact PySem.EqNone.eq_none_int (fin_bl I q (by simp))
  |str j=>obtain⟨t',rfl⟩:=ry;exact PySem.EqNone.eq_none_str (fin_bl I q (by simp))
  |_=>exact absurd (show false=true from hs) bc
 |bl i=>
  cases rx;cases y with
  |non=>cases ry;exact PySem.EqNone.eq_bool_none (fin_bl I q (by simp))
  |bl j=>cases ry;exact eq_bool (fin_bl I q dec_bl)
  |str j=>obtain⟨t',rfl⟩:=ry;exact PySem.EqMixed.eq_bool_str (fin_bl I q (by simp))
  |_=>exact absurd (show false=true from hs) bc
 |int i=>
  obtain⟨t,rfl⟩:=rx;cases y with
  |non=>cases ry;exact PySem.EqNone.eq_int_none (fin_bl I q (by simp))
  |int j=>obtain⟨t',rfl⟩:=ry;exact eq_int (fin_bl I q dec_int)
  |str j=>obtain⟨t',rfl⟩:=ry;exact PySem.EqMixed.eq_int_str (fin_bl I q (by simp))
  |_=>exact absurd (show false=true from hs) bc
 |str i=>
  obtain⟨t,rfl⟩:=rx;cases y with
  |non=>cases ry;exact PySem.EqNone.eq_str_none (fin_bl I q (by simp))
  |bl j=>cases ry;exact PySem.EqMixed.eq_str_bool (fin_bl I q (by simp))
  |int j=>obtain⟨t',rfl⟩:=ry;exact PySem.EqMixed.eq_str_int (fin_bl I q (by simp))
  |str j=>obtain⟨t',rfl⟩:=ry;exact eq_str (fin_bl I q dec_str)
  |_=>exact absurd (show false=true from hs) bc
 |byt i=>
  obtain⟨t,rfl⟩:=rx;cases y with
  |byt j=>obtain⟨t',rfl⟩:=ry;exact W.eq_bytes (fin_bl I q dec_byt)
  |_=>exact absurd (show false=true from hs) bc
 |_=>cases y<;>exact absurd (show false=true from hs) bc
theorem op_ne:OpR X (compareOp .NotEq) rNe:=by
 intro pins s σ H x y v u Q I rx ry h;obtain⟨hs,q⟩:=h;cases x with
 |non=>
  cases rx;cases y with
  |non=>cases ry;exact PySem.EqNone.ne_none_none (fin_bl I q (by simp))
  |bl j=>cases ry;exact PySem.EqNone.ne_none_bool (fin_bl I q (by simp))
  |int j=>obtain⟨t',rfl⟩:=ry;exact PySem.EqNone.ne_none_int (fin_bl I q (by simp))
  |str j=>obtain⟨t',rfl⟩:=ry;exact PySem.EqNone.ne_none_str (fin_bl I q (by simp))
  |_=>exact absurd (show false=true from hs) bc
 |bl i=>
  cases rx;cases y with
  |non=>cases ry;exact PySem.EqNone.ne_bool_none (fin_bl I q (by simp))
  |bl j=>cases ry;exact ne_bool (fin_bl I q (congrArg not dec_bl))
  |str j=>obtain⟨t',rfl⟩:=ry;exact PySem.EqMixed.ne_bool_str (fin_bl I q (by simp))
  |_=>exact absurd (show false=true from hs) bc
 |int i=>
  obtain⟨t,rfl⟩:=rx;cases y with
  |non=>cases ry;exact PySem.EqNone.ne_int_none (fin_bl I q (by simp))
  |int j=>obtain⟨t',rfl⟩:=ry;exact ne_int (fin_bl I q (congrArg not dec_int))
  |str j=>obtain⟨t',rfl⟩:=ry;exact PySem.EqMixed.ne_int_str (fin_bl I q (by simp))
  |_=>exact absurd (show false=true from hs) bc
 |str i=>
  obtain⟨t,rfl⟩:=rx;cases y with
  |non=>cases ry;exact PySem.EqNone.ne_str_none (fin_bl I q (by simp))
  |bl j=>cases ry;exact PySem.EqMixed.ne_str_bool (fin_bl I q (by simp))
  |int j=>obtain⟨t',rfl⟩:=ry;exact PySem.EqMixed.ne_str_int (fin_bl I q (by simp))
  |str j=>obtain⟨t',rfl⟩:=ry;exact ne_str (fin_bl I q (congrArg not dec_str))
  |_=>exact absurd (show false=true from hs) bc
 |byt i=>
  obtain⟨t,rfl⟩:=rx;cases y with
  |byt j=>obtain⟨t',rfl⟩:=ry;exact W.ne_bytes (fin_bl I q (congrArg not dec_byt))
  |_=>exact absurd (show false=true from hs) bc
 |_=>cases y<;>exact absurd (show false=true from hs) bc
theorem op_lt:OpR X (compareOp .Lt) (rI0 λi j=>.bl (decide (i<j))):=opB0 λ_ _ _ _ _ _ _ q=>lt_int q
theorem op_le:OpR X (compareOp .LtE) (rI0 λi j=>.bl (decide (i<=j))):=opB0 λ_ _ _ _ _ _ _ q=>le_int q
theorem op_gt:OpR X (compareOp .Gt) (rI0 λi j=>.bl (decide (j<i))):=opB0 λ_ _ _ _ _ _ _ q=>gt_int q
theorem op_ge:OpR X (compareOp .GtE) (rI0 λi j=>.bl (decide (j<=i))):=opB0 λ_ _ _ _ _ _ _ q=>ge_int q
theorem op_notN:OpR X (compareOp .IsNot) (λx y H Q=>y=.non/\Q (.bl (!decide (x=.non))) H):=by
 intro pins s σ H x y v u Q I rx ry h;obtain⟨rfl,q⟩:=h;cases ry;refine isnot_none_gen (fin_bl I q ?_);cases x<;>first
  |(cases rx;rfl)
  |(obtain⟨t,rfl⟩:=rx;rfl)
theorem nomark (b:Expr)(h:op ≠ .In:=by decide)(h2:op ≠ .NotIn:=by decide):behindInMarks op b=false:=by
 have e1:(op == CmpOp.In)=false:=by cases op<;>first|rfl|exact absurd rfl h
 have e2:(op == CmpOp.NotIn)=false:=by cases op<;>first|rfl|exact absurd rfl h2
 cases b<;>simp[behindInMarks,e1,e2]
theorem pe_cmpR {op:CmpOp}{r:R2}(ho:OpR X (compareOp op) r)(ha:PE X a ta)(hb:PE X b tb)(hm:behindInMarks op b=false):PE X (.Compare a [op] [b] pos) (tOp r ta tb):=by intro pins s σ H Q I h;exact wpAny_Compare1 (binT ha hb I h λv u s2 x y H2 I2 rx ry q=>ho pins s2 σ H2 x y v u Q I2 rx ry q) hm
def tTest (t:TE):TT:=λσ H Q=>t σ H λx H'=>∃k,x=.bl k/\Q k H'
theorem pt_cmpR (ho:OpR X (compareOp op) r)(ha:PE X a ta)(hb:PE X b tb)(hm:behindInMarks op b=false):PT X (.Compare a [op] [b] pos) (tTest (tOp r ta tb)):=by
 intro pins s σ H Q I h;refine wpAny_isTrue_Compare1 (thn (ha pins s σ H _ I h) λv s1 ⟨x,H1,I1,r1,q1⟩=>thn (hb pins s1 σ H1 _ I1 q1) λu s2 ⟨y,H2,I2,r2,q2⟩=>
  thn (ho pins s2 σ H2 x y v u _ I2 r1 r2 q2) λc s3 ⟨z,H3,I3,r3,k,e,q3⟩=>?_) hm
 subst e;cases r3;exact d7 ⟨H3,I3,q3⟩
def TruV (K:Fg)(x:V)(H:Hp)(k:Bool):Prop:=
 match x with
 | .non=>k=false
 | .bl b=>k=b
 | .int i=>k=(i != 0)
 | .str y=>y.length<=sizeLine/\k=((y.length:Int) != 0)
 | .byt y=>y.size<=sizeLine/\k=((y.size:Int) != 0)
 | .ref p=>(∃xs,SqL K H p xs/\k = !xs.isEmpty)\/(∃xs,SqT K H p xs/\k = !xs.isEmpty)\/∃kvs,H p=some (.dK kvs)/\k = !kvs.isEmpty
 |_=>False
theorem isEmpty_kv {κ:Type}{kvs:List (κ×V)}{vs:List (κ×Value)}(r:KV kvs vs):(!vs.isEmpty) = !kvs.isEmpty:=by cases r<;>rfl
theorem isEmpty_of (r:Vals xs its):(!its.toArray.isEmpty) = !xs.isEmpty:=by cases r<;>simp
theorem line63:(sizeLine:Nat)<2^63:=by rw[dC];decide
theorem tru_ok:TruR X (λx H Q=>∃k,TruV X.K x H k/\Q k H):=by
 intro pins s σ H x v Q I rx h;obtain⟨k,e,q⟩:=h;have hl:=line63;have hs:sizeLine=16777216:=dC;cases x with
 |non=>cases rx;have e':k=false:=e;subst e';exact truthy_none ⟨H,I,q⟩
 |bl b=>cases rx;have e':k=b:=e;subst e';exact d7 ⟨H,I,q⟩
 |int i=>obtain⟨t,rfl⟩:=rx;have e':k=(i != 0):=e;subst e';exact PySem.P.truthy_int ⟨H,I,q⟩
 |str y=>obtain⟨t,rfl⟩:=rx;obtain⟨hy,e'⟩:y.length<=sizeLine/\k=((y.length:Int) != 0):=e;subst e';exact PySem.P.truthy_str (by lia) ⟨H,I.tok _,q⟩
 |byt y=>obtain⟨t,rfl⟩:=rx;obtain⟨hy,e'⟩:y.size<=sizeLine/\k=((y.size:Int) != 0):=e;subst e';exact W.truthy_bytes (by lia) ⟨H,I.tok _,q⟩
 |ref p=>
  cases rx;have e':(∃xs,SqL X.K H p xs/\k = !xs.isEmpty)\/(∃xs,SqT X.K H p xs/\k = !xs.isEmpty)\/∃kvs,H p=some (.dK kvs)/\k = !kvs.isEmpty:=e;rcases e' with⟨xs,hx,e'⟩|⟨xs,hx,e'⟩|⟨kvs,hx,e'⟩
  ·subst e';obtain⟨its,r,pl,hz⟩:=I.list hx;have hlen:=r.length;exact wpAny_truthy_list pl.isList (by simp only[aw];lia) ⟨H,I.tok _,by rw[isEmpty_of r];exact q⟩
  ·subst e';obtain⟨its,r,pl,hz⟩:=I.tuple hx;have hlen:=r.length;exact truthy_tuple pl (by simp only[aw];lia) ⟨H,I.tok _,by rw[isEmpty_of r];exact q⟩
  ·subst e';obtain⟨hz,hS,vs,r,m⟩:kvs.length<=sizeLine/\(p == sysModules)=false/\∃vs,KV kvs vs/\s.heap.DictOf (mixKind X.prog X.w) p vs:=I.hok p _ hx;have hlen:kvs.length=vs.length:=Paired.length r;exact wpAny_truthy_dict hS m (by lia) ⟨H,I.tok _,by rw[isEmpty_kv r];exact q⟩
 |_=>exact(show False from e).elim
theorem pt_truth (ha:PE X a ta)(he:∀whole,isTrue a X.env whole=(do let v <- whole;standAt a.pos;holding [v] (truthy v))) :
  PT X a (λσ H Q=>ta σ H λx H'=>∃k,TruV X.K x H' k/\Q k H'):=by
 intro pins s σ H Q I h;exact isTrue_plain (thn (ha pins s σ H _ I h) λv s1 ⟨x,H1,I1,r1,q1⟩=>tru_ok pins s1 σ H1 x v Q I1 r1 q1) (he _)
theorem vals1 (r:Vals [x] us):∃u,us=[u]/\RelV x u:=by
 cases r with
 |cons r1 r2=>cases r2;exact⟨_,rfl,r1⟩
theorem vals2 (r:Vals [x,y] us):∃u w',us=[u,w']/\RelV x u/\RelV y w':=by
 cases r with
 |cons r1 r2=>
  cases r2 with
  |cons r3 r4=>cases r4;exact⟨_,_,rfl,r1,r3⟩
end
structure ObjM (h:Heap)(x dx C:Addr)(mA:Mg):Prop where
 obj:h.get? x=some (W.instObj C dx)
 ns:h.Ns1 dx mA
 ne:dx≠x
theorem lookIn_ns {h:Heap}{dx:Addr}{mA:Mg}(n:h.Ns1 dx mA):∃od,h.get? dx=some od/\∀name,W.lookIn name od=some (mA name):=by
 obtain⟨o,es,ep,ho,hd,hk,_,hm⟩:=n;refine⟨o,ho,λname=>?_⟩;have e:=hm name;unfold nsFind findBy at e;rw[<- Array.find?_toList]at e;unfold W.lookIn;rw[hd];dsimp only;split
 ·rename_i y q;rw[q]at e;exact congrArg some e
 ·rename_i q;rw[q]at e;have a:es.toList.any (·.refKey)=false:=by rw[List.any_eq_false];intro y hy;obtain⟨z,t,hkey⟩:=hk y (Array.mem_toList_iff.mp hy);simp[DictEntry.refKey,hkey]
  have a':¬es.toList.any (·.refKey)=true:=by rw[a];exact bc
  rw[ag a'];exact congrArg some e
theorem ObjM.look (I:ObjM h x dx C mA):∃od,W.InstAt h x (W.instObj C dx) C (some od)/\∀name,W.lookIn name od=some (mA name):=
 let ⟨od,ho,hl⟩:=lookIn_ns I.ns
 ⟨od,⟨I.obj,rfl,rfl,ho⟩,hl⟩
section
variable {prog:Program}{w:World}{A:Around}{E:Value->Shared->Prop}{s:Shared}{K:Fg}{x dx C f:Addr}{mA:Mg}{name:Str}{v:Value}
theorem get_map (X:K.In s.heap)(I:ObjM s.heap x dx C mA)(hg:W.plainGet K C name=true)(hh:W.hasDictIn K C=true)
  (ha:W.findIn K (.ref C) name=some none) (hv:mA name=some v) (hv':W.handedIn v=true) (h:Q v { s with toks:=s.toks+1 }) :
  wpAny (model prog w) A (getAttr (.ref x) name expr) Q E s:=by
 obtain⟨od,J,hl⟩:=I.look;exact W.get_value X J (fW hg).1 (W.findObj_own hh ha rfl (by rw[hl,hv])) hv' h
theorem get_meth (X:K.In s.heap)(I:ObjM s.heap x dx C mA)(hg:W.plainGet K C name=true)
  (hf:W.findIn K (.ref C) name=some (some (.ref f))) (ht:W.isFn K (.ref f)=true) (hv:mA name=none) (h:Q (.ref f,[.ref x]) s) :
  wpAny (model prog w) A (getMethod (.ref x) name pl) Q E s:=by
 obtain⟨od,J,hl⟩:=I.look;exact W.method_fn X J (fW hg).1 (fW hg).2 hf (beq_iff_eq.mp ht) (by show(W.lookIn name od).map (·.isSome)=some false;rw[hl,hv];rfl) h
theorem set_map (X:K.In s.heap)(I:ObjM s.heap x dx C mA)
  (hs:W.findIn K (.ref C) "__setattr__"=some (some (.builtin "object.__setattr__"))) (hp:W.plainOver K C=true) (ht:W.takerIn K C name=some none) (hh:W.hasDictIn K C=true)
  (hw:PySem.Within mA ns) (hsz:ns.length<=sizeLine)
  (h:∀h',ObjM h' x dx C (λy=>if y=name then some v else mA y)->Heap.SameBut dx s.heap h' -> Q () { s with heap:=h',toks:=s.toks+2 }) :
  wpAny (model prog w) A (setAttr (.ref x) name v) Q E s:=by
 obtain⟨od,J,hl⟩:=I.look;refine W.set_plain X J hs (W.osa_open (s:={ s with toks:=s.toks+1 }) (r:=none) X J hp ht λb=>?_);obtain⟨cd,hc,hd'⟩:=g5 hh;have hx:s.heap.get? x=some ⟨.ref C,some dx,.plain,#[]⟩:=I.obj;refine aB (bI (aB (aB (wpAny_loadPart hx (aB (W.Looks.here (s:={ s with toks:=s.toks+1 }) (W.looks_clsIn X hc) ?_))))));rw[hd'];refine bI (a:=some dx) (aB (bI (aB ?_)));refine wpAny_nsSet1 (s:={ s with toks:=s.toks+1 }) I.ns λh' hn2 hs2=>?_;obtain⟨oD,esD,epD,hoD,hdD,hcD⟩:=hn2.count (PySem.Within.cons name v hw);refine aB (wpAny_lookBehind hoD (by rw[hdD];exact pastItsLine_dict (aJ hcD (by rw[aR];lia))) ?_);exact bI (h _ ⟨(hs2.2 _ (ck I.ne)).trans I.obj,hn2,I.ne⟩ hs2)
theorem make_map (X:K.In s.heap)(hm:W.makesIn K C=true)
  (hi:W.findIn K (.ref C) "__init__"=some (some (.ref f))) (hf:W.typeIn K (.ref f)=some (.type "function"))
  (h:codeAny (model prog w) (A.under (.builtin "type.__call__" ⟨.ref C::vs,kw⟩)) (.call (.ref f) ⟨.ref (s.heap.objs.size+1)::vs,kw⟩) (W.InitBack (s.heap.objs.size+1) R)
   { s with heap:=(s.heap.push W.emptyDict).push (W.instObj C s.heap.objs.size) }) :
  codeAny (model prog w) A (.call (.ref C) ⟨vs,kw⟩) R s:=by
 obtain⟨hh,g,d,t,os⟩:=s;exact W.make_core (W.makes_of X hm) (fM X hi) (λself=>W.bind_fn X self hf) (.inl rfl) h
end
def putF (f:Str)(v:V):List (Str×V)->List (Str×V)
 |[]=>[(f,v)]
 |(g,x)::r=>if g=f then(g,v)::r else(g,x)::putF f v r
theorem lookup_putF (f g:Str)(v:V):∀fs:List (Str×V),(putF f v fs).lookup g=if g=f then some v else fs.lookup g
 |[]=>by
  show List.lookup g [(f,v)]=_;by_cases h:g=f
  ·have hb:(g == f)=true:=beq_iff_eq.mpr h;simp only[List.lookup,hb,ah h]
  ·have hb:(g == f)=false:=beq_eq_false_iff_ne.mpr h;simp only[List.lookup,hb,ag h]
 |(k,x)::r=>by
  have ih:=lookup_putF f g v r;rw[show putF f v ((k,x)::r)=(if k=f then(k,v)::r else(k,x)::putF f v r) from rfl];by_cases hk:k=f
  ·rw[ah hk];by_cases h:g=k
   ·have hb:(g == k)=true:=beq_iff_eq.mpr h;simp only[List.lookup,hb,ah (h.trans hk)]
   ·have hb:(g == k)=false:=beq_eq_false_iff_ne.mpr h;simp only[List.lookup,hb,ag (λe:g=f=>h (e.trans hk.symm))]
  ·rw[ag hk];by_cases h:g=k
   ·have hb:(g == k)=true:=beq_iff_eq.mpr h;simp only[List.lookup,hb,ag (λe:g=f=>hk (h.symm.trans e))]
   ·have hb:(g == k)=false:=beq_eq_false_iff_ne.mpr h;simp only[List.lookup,hb];exact ih
theorem keys_putF (f:Str)(v:V):∀fs:List (Str×V),f∈(putF f v fs).map (·.1)/\∀g,g∈fs.map (·.1)->g∈(putF f v fs).map (·.1)
 |[]=>⟨by simp[putF],λg h=>by simp at h⟩
 |(k,x)::r=>by
  obtain⟨i1,i2⟩:=keys_putF f v r;rw[show putF f v ((k,x)::r)=(if k=f then(k,v)::r else(k,x)::putF f v r) from rfl];by_cases hk:k=f
  ·rw[ah hk];subst hk;exact⟨by simp,λg h=>by simpa using h⟩
  ·rw[ag hk];refine⟨?_,λg h=>?_⟩
   ·rw[bM];exact ae _ i1
   ·rw[bM]at h ⊢;rcases aC.mp h with e|e
    ·exact aC.mpr (.inl e)
    ·exact ae _ (i2 g e)
theorem length_putF (f:Str)(v:V):∀fs:List (Str×V),(putF f v fs).length<=fs.length+1
 |[]=>by simp[putF]
 |(k,x)::r=>by
  have ih:=length_putF f v r;rw[show putF f v ((k,x)::r)=(if k=f then(k,v)::r else(k,x)::putF f v r) from rfl];by_cases hk:k=f
  ·rw[ah hk,aR,aR];lia
  ·rw[ag hk,aR,aR];lia
theorem RelO.some_of (r:RelO (some v) o):∃u,o=some u/\RelV v u:=by
 cases o with
 |none=>exact(show False from r).elim
 |some u=>exact⟨u,rfl,r⟩
theorem RelO.none_of (r:RelO none o):o=none:=by
 cases o with
 |none=>rfl
 |some u=>exact(show False from r).elim
theorem handed_of (r:RelV v u):W.handedIn u=true:=by
 cases v with
 |non=>cases (show u=Value.none from r);rfl
 |bl b=>cases (show u=Value.bool b from r);rfl
 |int i=>obtain⟨t,e⟩:=(show ∃t,u=Value.int i t from r);cases e;rfl
 |str x=>obtain⟨t,e⟩:=(show ∃t,u=Value.str x t from r);cases e;rfl
 |byt b=>obtain⟨t,e⟩:=(show ∃t,u=Value.bytes b t from r);cases e;rfl
 |flt b=>obtain⟨t,e⟩:=(show ∃t,u=Value.float b t from r);cases e;rfl
 |ref a=>cases (show u=Value.ref a from r);rfl
 |ty n=>cases (show u=Value.type n from r);rfl
section
variable {P:Program}{w:World}{H H':Hp}{h h':Heap}{a C dx:Addr}{fs fs':List (Str×V)}
theorem ins_get (hok:HOk P w H h)(e:H a=some (.ins C dx fs)):∃mA,ObjM h a dx C mA/\(∀f,RelO (fs.lookup f) (mA f))/\PySem.Within mA (fs.map (·.1))/\fs.length<=1000/\H dx=some (.own a):=by obtain⟨d,z,ne,ob,mA,n,r,q⟩:=(show ObjOk P w H h a (.ins C dx fs) from hok a _ e);exact⟨mA,⟨ob,n,ne⟩,r,q,z,d⟩
end
structure Cls (K:Fg)(C:Addr):Prop where
 pg:W.plainGet K C Str.empty=true
 hd:W.hasDictIn K C=true
 po:W.plainOver K C=true
 sa:W.findIn K (.ref C) "__setattr__"=some (some (.builtin "object.__setattr__"))
theorem Cls.get {K:Fg}{C:Addr}(c:Cls K C)(f:Str):W.plainGet K C f=true:=c.pg
def NoAttr (K:Fg)(C:Addr)(f:Str):Prop:=W.findIn K (.ref C) f=some none
theorem NoAttr.taker {K:Fg}{C:Addr}{f:Str}(n:NoAttr K C f):W.takerIn K C f=some none:=by unfold W.takerIn;rw[show W.findIn K (.ref C) f=some none from n];rfl
structure Meth (K:Fg)(C:Addr)(m:Str)(f:Addr):Prop where
 at_:W.findIn K (.ref C) m=some (some (.ref f))
 fn:W.isFn K (.ref f)=true
 kp:W.keepIn K (.ref f)=true
section
variable {X:Cx}{pins:List (Addr×Obj)}{σ:St}{H:Hp}{s:Shared}{a C dx:Addr}{fs:List (Str×V)}{f:Str}{v:V}{A:Around}{E:Value->Shared->Prop}
theorem getattr_ok (I:Inv X pins σ H s)(e:H a=some (.ins C dx fs))(c:Cls X.K C)(n:NoAttr X.K C f)(l:fs.lookup f=some v)
  (h:∀u s',Inv X pins σ H s' -> RelV v u->Q u s'):wpAny (model X.prog X.w) A (getAttr (.ref a) f b) Q E s:=by
 obtain⟨mA,O,r,_,_,_⟩:=ins_get I.hok e;obtain⟨u,hu,ru⟩:=RelO.some_of (v:=v) (o:=mA f) (by rw[<- l];exact r f);exact get_map I.kIn O (c.get f) c.hd n hu (handed_of ru) (h u _ (I.tok _) ru)
theorem getmeth_ok (I:Inv X pins σ H s)(e:H a=some (.ins C dx fs))(c:Cls X.K C)(k:Meth X.K C m g)(l:fs.lookup m=none)
  (h:Q (.ref g,[.ref a]) s):wpAny (model X.prog X.w) A (getMethod (.ref a) m pl) Q E s:=by
 obtain⟨mA,O,r,_,_,_⟩:=ins_get I.hok e;have hn:mA m=none:=RelO.none_of (by rw[<- l];exact r m);exact get_meth I.kIn O (c.get m) k.at_ k.fn hn h
theorem setattr_ok (I:Inv X pins σ H s)(e:H a=some (.ins C dx fs))(c:Cls X.K C)(n:NoAttr X.K C f)(hl:fs.length<1000)(ry:RelV y u)
  (h:∀s',Inv X pins σ (upd H a (.ins C dx (putF f y fs))) s' -> Q () s'):wpAny (model X.prog X.w) A (setAttr (.ref a) f u) Q E s:=by
 obtain⟨mA,O,r,wi,_,ho⟩:=ins_get I.hok e;have hz:(fs.map (·.1)).length<=sizeLine:=by rw[aa,dC];lia
 refine set_map I.kIn O c.sa c.po n.taker c.hd wi hz λh' O' sb=>h _ ?_;have hd:∃o,h'.get? dx=some o:=let ⟨o,_,_,e',_⟩:=O'.ns;⟨o,e'⟩
 refine I.write (x:=a) (e:=dx) (by rw[e];exact tJ) (.inr ho) (λb q hb z=>(sb.2 b hb).trans z) hd ?_;refine⟨by rw[upd_ne O.ne];exact ho,?_,O.ne,O'.obj,_,O'.ns,λg=>?_,λg hg=>?_⟩
 ·have:=length_putF f y fs;lia
 ·show RelO ((putF f y fs).lookup g) (if g=f then some u else mA g);rw[lookup_putF];by_cases q:g=f
  ·rw[ah q,ah q];exact ry
  ·rw[ag q,ag q];exact r g
 ·by_cases q:g=f
  ·rw[q];exact(keys_putF f y fs).1
  ·refine(keys_putF f y fs).2 g (wi g λz=>hg ?_);show(if g=f then some u else mA g)=none;rw[ag q];exact z
theorem Inv.made (I:Inv X pins σ H s):Inv X pins σ (upd (upd H s.heap.objs.size (.own (s.heap.objs.size+1))) (s.heap.objs.size+1) (.ins C s.heap.objs.size []))
  { s with heap:=(s.heap.push W.emptyDict).push (W.instObj C s.heap.objs.size) }:=by
 have e1:(s.heap.push W.emptyDict).get? s.heap.objs.size=some W.emptyDict:=bi s.heap rfl;have e2:((s.heap.push W.emptyDict).push (W.instObj C s.heap.objs.size)).get? (s.heap.objs.size+1)=some (W.instObj C s.heap.objs.size):=by
  have:=bi (s.heap.push W.emptyDict) (o:=W.instObj C s.heap.objs.size) rfl
  rwa [Heap.size_push]at this
 have e3:(s.heap.push W.emptyDict).Ns s.heap.objs.size (λ_=>none):=⟨W.emptyDict,#[],_,e1,rfl,(λe he=>absurd he (by simp)),λ_=>rfl⟩;have I1:=I.laid (a:=s.heap.objs.size) (o:=.own (s.heap.objs.size+1)) (h':=s.heap.push W.emptyDict) (t':=s.toks) (λb u q=>ay _ q) (aq _) ⟨_,e1⟩;refine I1.laid (a:=s.heap.objs.size+1) (o:=.ins C s.heap.objs.size []) (t':=s.toks) (λb u q=>ay _ q) (ja (Heap.size_push _ _)) ?_;have ne:s.heap.objs.size≠s.heap.objs.size+1:=be (c5 _);refine⟨by rw[upd_ne ne,upd_same],bq _,ne,e2,λ_=>none,(Heap.Ns1.of_empty e3).at λo q=>ay _ q,λ_=>tJ,λy hy=>absurd rfl hy⟩
theorem attr_of (hb:attributeBase e f env (eval e env)=eval e env)
  (h:wpAny (model prog w) A (eval e env) (λo s₁=>wpAny (model prog w) A (getAttr o f true) Q E s₁) E s):wpAny (model prog w) A (eval (.Attribute e f pos) env) Q E s:=
 Attribute_any_ h (by rw[arm_eval_Attribute,hb])
end
def tFld (K:Fg)(ta:TE)(f:Str):TE:=λσ H Q=>ta σ H λx H1=>∃a C dx fs v,x=.ref a/\H1 a=some (.ins C dx fs)/\Cls K C/\NoAttr K C f/\fs.lookup f=some v/\Q v H1
def sFld (K:Fg)(ta tv:TE)(f:Str):TS:=λD σ H=>tv σ H λy H1=>ta σ H1 λx H2=>∃a C dx fs,x=.ref a/\H2 a=some (.ins C dx fs)/\Cls K C/\NoAttr K C f/\fs.length<1000 /\
 D.nx σ (upd H2 a (.ins C dx (putF f y fs)))
section
variable {X:Cx}{o e value:Expr}{f:Str}{pos pos' tpos:Pos}{ta tv:TE}
theorem pe_fld (he:PE X e ta)(hb:attributeBase e f X.env (eval e X.env)=eval e X.env):PE X (.Attribute e f pos) (tFld X.K ta f):=by intro pins s σ H Q I h;refine attr_of hb (thn (he pins s σ H _ I h) λu s1 ⟨x,H1,I1,rx,a,C,dx,fs,v,ex,ea,c,n,l,q⟩=>?_);subst ex;obtain rfl:u=Value.ref a:=rx;exact getattr_ok I1 ea c n l λu' s2 I2 ru=>⟨v,H1,I2,ru,q⟩
theorem ps_fld (ha:PE X o ta)(hv:PE X value tv)(hs:swapsWith value (some (.Attribute o f pos')) pos.line X.env=pure false):PS X (.Assign [.Attribute o f pos'] value pos) (sFld X.K ta tv f):=by intro pins s σ H D I h;refine plainObj_wpAny_Assign_Attribute (thn (hv pins s σ H _ I h) λu s1 ⟨y,H1,I1,ry,q⟩=>thn (ha pins s1 σ H1 _ I1 q) λov s2 ⟨x,H2,I2,rx,a,C,dx,fs,ex,ea,c,n,l,q2⟩=>?_) hs;subst ex;obtain rfl:ov=Value.ref a:=rx;exact setattr_ok I2 ea c n l ry λs3 I3=>⟨σ,_,I3,q2⟩
end
section
variable {X:Cx}{pins:List (Addr×Obj)}{σ:St}{H:Hp}{s:Shared}{A:Around}{E:Value->Shared->Prop}{Q:Value->Shared->Prop}{c:Value}{b:Bool}
inductive TyOf (K:Fg)(H:Hp):V->Value->Prop where
 |non:TyOf K H .non (.type "NoneType")
 |bl (x:Bool):TyOf K H (.bl x) (.type "bool")
 |int (i:Int):TyOf K H (.int i) (.type "int")
 |str (x:Str):TyOf K H (.str x) (.type "str")
 |flt (x:UInt64):TyOf K H (.flt x) (.type "float")
 |lst {a:Addr} {xs:List V} (e:H a=some (.lst xs)):TyOf K H (.ref a) (.type "list")
 |frz {a:Addr} {o:Obj} {xs:List V} (e:H a=some (.frz o (.lst xs))):TyOf K H (.ref a) (.type "list")
 |tup {a:Addr} {xs:List V} (e:H a=some (.tup xs)):TyOf K H (.ref a) (.type "tuple")
 |dK {a:Addr} {kvs:List (Key×V)} (e:H a=some (.dK kvs)):TyOf K H (.ref a) (.type "dict")
 |dT {a:Addr} {kvs:List (List Key×V)} (e:H a=some (.dT kvs)):TyOf K H (.ref a) (.type "dict")
 |ins {a C dx:Addr} {fs:List (Str×V)} (e:H a=some (.ins C dx fs)) (cl:Cls K C) (ha:W.findIn K (.ref C) "__class__"=some (some (.builtin "object.__class__")))
   (hn:W.specialIn K (.builtin "object.__class__") "__get__"=some (some (.builtin "getset_descriptor.__get__"))) (htk:W.takesIn K (.builtin "object.__class__")=some true)
   (hm:W.mroIn K C (.type "object")=some true):TyOf K H (.ref a) (.ref C)
theorem isinst_ok (I:Inv X pins σ H s)(rx:RelV x u)(ty:TyOf X.K H x t)(e:W.kitOne X.K t c=some b)(h:∀tk,Q (.bool b) { s with toks:=tk }) :
  wpAny (model X.prog X.w) A (call (.builtin "isinstance") [u,c]) Q E s:=by
 cases ty with
 |non=>cases (show u=Value.none from rx);exact cr W.kitx_none I.kIn tJ e (λz=>nomatch z) h
 |bl y=>cases (show u=Value.bool y from rx);exact cr W.kitx_bool I.kIn tJ e (λz=>nomatch z) h
 |int i=>obtain⟨t,q⟩:=(show ∃t,u=Value.int i t from rx);cases q;exact cr W.kitx_int I.kIn tJ e (λz=>nomatch z) h
 |str y=>obtain⟨t,q⟩:=(show ∃t,u=Value.str y t from rx);cases q;exact cr W.kitx_str I.kIn tJ e (λz=>nomatch z) h
 |flt y=>obtain⟨t,q⟩:=(show ∃t,u=Value.float y t from rx);cases q;exact cr W.kitx_float I.kIn tJ e (λz=>nomatch z) h
 |@lst a xs ea=>cases (show u=Value.ref a from rx);obtain⟨_,_,n,_,h1⟩:=(show ObjOk X.prog X.w H s.heap a (.lst xs) from I.hok a _ ea);exact cr W.kitx_list I.kIn ⟨_,h1,rfl⟩ e (λz=>nomatch z) h
 |@frz a ob xs ea=>cases (show u=Value.ref a from rx);obtain⟨_,_,_,n,_,h1⟩:=(show ObjOk X.prog X.w H s.heap a (.frz ob (.lst xs)) from I.hok a _ ea);exact cr W.kitx_list I.kIn ⟨_,h1,rfl⟩ e (λz=>nomatch z) h
 |@tup a xs ea=>cases (show u=Value.ref a from rx);obtain⟨_,_,_,p⟩:=(show ObjOk X.prog X.w H s.heap a (.tup xs) from I.hok a _ ea);obtain⟨o,h1,h2,_⟩:=p;exact cr W.kitx_tuple I.kIn ⟨o,h1,h2⟩ e (λz=>nomatch z) h
 |@dK a kvs ea=>cases (show u=Value.ref a from rx);obtain⟨_,_,vs,_,p⟩:=(show ObjOk X.prog X.w H s.heap a (.dK kvs) from I.hok a _ ea);obtain⟨o,es,ep,h1,h2,_⟩:=p;exact cr W.kitx_dict I.kIn ⟨o,h1,h2.1⟩ e (λz=>nomatch z) h
 |@dT a kvs ea=>cases (show u=Value.ref a from rx);obtain⟨_,_,xs,_,o,es,ep,h1,h2,_⟩:=(show ObjOk X.prog X.w H s.heap a (.dT kvs) from I.hok a _ ea);exact cr W.kitx_dict I.kIn ⟨o,h1,h2.1⟩ e (λz=>nomatch z) h
 |@ins a C dx fs ea cl ha hn htk hm=>cases (show u=Value.ref a from rx);obtain⟨mA,O,_⟩:=ins_get I.hok ea;obtain⟨od,J,_⟩:=O.look;exact cr (W.kitx_own (cl.get _) cl.hd ha hn htk hm) I.kIn J e (λz=>nomatch z) h
end
structure Room (k:Nat)(A:Around):Prop where
 hd:A.handled=none
 dp:A.depth+3*k+5<recursionLimit
 un:A.units+16*k+200<cLine
theorem Room.mono (r:Room k A)(h:j<=k):Room j A:=⟨r.hd,by have:=r.dp;lia,by have:=r.un;lia⟩
theorem Room.deeper (r:Room (k+1) A)(env:Env):Room k (A.deeper env):=
 ⟨r.hd,by have:=r.dp;show A.depth+1+3*k+5<_;lia,by have:=r.un;show A.units+3+16*k+200<_;lia⟩
theorem Room.in1 (r:Room (k+1) A):Room k A.in1:=
 ⟨r.hd,by have:=r.dp;show A.depth+3*k+5<_;lia,by have:=r.un;show A.units+1+16*k+200<_;lia⟩
theorem make_depth {A:Around}{C:Addr}{us:Lv}{kw:List (Str×Value)}:(A.under (.builtin "type.__call__" ⟨.ref C::us,kw⟩)).depth=A.depth+1:=by
 first|rfl|simp[Around.under,Code.weight,Code.isCreation,Code.isGuard,Code.isCaller,Code.frames,Code.isFrame,guardIds]
theorem make_units {A:Around}{C:Addr}{us:Lv}{kw:List (Str×Value)}:(A.under (.builtin "type.__call__" ⟨.ref C::us,kw⟩)).units=A.units+1:=by
 first|rfl|simp[Around.under,Code.cUnits,Code.frames,Code.isFrame]
theorem Room.make (r:Room (k+1) A)(C:Addr)(us:Lv)(kw:List (Str×Value)):Room k (A.under (.builtin "type.__call__" ⟨.ref C::us,kw⟩)):=
 ⟨r.hd,by have:=r.dp;rw[make_depth];lia,by have:=r.un;rw[make_units];lia⟩
theorem Room.depth (r:Room k A):A.depth<recursionLimit:=by have:=r.dp;lia
theorem Room.units (r:Room k A):A.units+64<cLine:=by have:=r.un;lia
def tNil:TA:=λ_ H Q=>Q [] H
def tCons (ta:TE)(tr:TA):TA:=λσ H Q=>ta σ H λx H1=>tr σ H1 λxs H2=>Q (x::xs) H2
section
variable {X:Cx}{e:Expr}{es:List Expr}{te:TE}{t:TA}{pos:Pos}
theorem pa_nil:PA X [] tNil:=λ_ _ _ _ H Q I h=>Calls.spliced_nil ⟨[],H,I,.nil,h⟩
theorem pa_cons (ha:PE X e te)(hr:PA X es t)(hs:starEach (e::es) X.env=(false,eval e X.env)::starEach es X.env:=by rfl):PA X (e::es) (tCons te t):=by intro pos pins s σ H Q I h;rw[hs];show wpAny _ _ (spliced ((false,eval e X.env)::backTo pos (starEach es X.env))) _ _ s;refine Calls.spliced_cons (thn (ha pins s σ H _ I h) λu s1 ⟨x,H1,I1,r1,q1⟩=>?_);exact thn (hr pos pins s1 σ H1 _ I1 q1) λus s2 ⟨xs,H2,I2,r2,q2⟩=>⟨x::xs,H2,I2,.cons r1 r2,q2⟩
def tTup (t:TA):TE:=λσ H Q=>t σ H λxs H1=>xs.length<=sizeLine/\∀p,H1 p=none->Q (.ref p) (upd H1 p (.tup xs))
def tLst (t:TA):TE:=λσ H Q=>t σ H λxs H1=>xs.length<=sizeLine/\∀p,H1 p=none->Q (.ref p) (upd H1 p (.lst xs))
theorem pe_tup (h:PA X es t):PE X (.Tuple es x1 pos) (tTup t):=by intro pins s σ H Q I hq;refine wpAny_Tuple_spliced (thn (h pos pins s σ H _ I hq) λus s1 ⟨xs,H1,I1,r,z,q⟩=>⟨by rw[<- r.length];exact z,?_⟩);have hf:H1 s1.heap.objs.size=none:=I1.hok.fresh (aq _);refine⟨.ref s1.heap.objs.size,upd H1 s1.heap.objs.size (.tup xs),I1.laid (t':=s1.toks) (λb u e=>ay _ e) (aq _) ?_,rfl,q _ hf⟩;exact⟨z,us,r,⟨_,bi _ rfl,rfl,_,rfl⟩⟩
theorem pe_lst (h:PA X es t):PE X (.List es pos) (tLst t):=by intro pins s σ H Q I hq;refine wpAny_List_spliced (thn (h pos pins s σ H _ I hq) λus s1 ⟨xs,H1,I1,r,z,q⟩=>⟨by rw[<- r.length];exact z,?_⟩);have hf:H1 s1.heap.objs.size=none:=I1.hok.fresh (aq _);refine⟨.ref s1.heap.objs.size,upd H1 s1.heap.objs.size (.lst xs),I1.laid (t':=s1.toks) (λb u e=>ay _ e) (aq _) ?_,rfl,q _ hf⟩;exact⟨z,us,0,r,bi _ rfl⟩
end
abbrev Sp:=List V->Hp->VK->XK->Prop
abbrev CXT:=List Env->Hp->Shared->XK->Value->Shared->Prop
structure Env0 (P:Program)(w:World)(K:Fg)(mg:Mg)(base:Heap)(A:Around)(outer:List Env)(s:Shared)(H:Hp):Prop where
 frames:A.frames=some outer
 mod:Mod K mg base
 bs:∀b o,base.get? b=some o->s.heap.get? b=some o/\H b=none
 bsz:base.objs.size<=s.heap.objs.size
 funs:s.heap.FunFrames base outer
 frf:Frf K H (frs outer)
 hok:HOk P w H s.heap
 bare:AllBare s.gens
def CE (outer:List Env)(P:Program)(w:World)(H:Hp)(s:Shared)(Q:VK)(u:Value)(s':Shared):Prop:=
 ∃v H',s'.os=s.os/\AllBare s'.gens/\Un (frs outer) [] H H' s.heap s'.heap/\HOk P w H' s'.heap/\RelV v u/\Q v H'
def CR (CX:CXT)(outer:List Env)(P:Program)(w:World)(H:Hp)(s:Shared)(Q:VK)(E:XK)(r:Result)(s':Shared):Prop:=
 match r with
 | .ok (.ret u)=>CE outer P w H s Q u s'
 | .ok _=>False
 | .error e=>CX outer H s E e s'
structure FnOk (P:Program)(w:World)(K:Fg)(mg:Mg)(base:Heap)(CX:CXT)(k:Nat)(f:Addr)(fd:FuncData)(ps:List Str)(sp:Sp):Prop where
 len:∀vs H Q E,sp vs H Q E->vs.length=ps.length
 run:∀(A:Around) (outer:List Env) (s:Shared) (H:Hp) (args:Args) (us:List Value) (vs:List V) (Q:VK) (E:XK),Room k A->Env0 P w K mg base A outer s H->BindsTo s fd args (ps.zip us)->Vals vs us->sp vs H Q E ->
  codeAny (model P w) A (.call (.ref f) args) (CR CX outer P w H s Q E) s
theorem FnOk.mono {P:Program}{w:World}{K:Fg}{mg:Mg}{base:Heap}{CX:CXT}{j k:Nat}{f:Addr}{fd:FuncData}{ps:Ls}{sp:Sp}(F:FnOk P w K mg base CX j f fd ps sp)(h:j<=k) :
  FnOk P w K mg base CX k f fd ps sp:=⟨F.len,λA outer s H args us vs Q E hr=>F.run A outer s H args us vs Q E (hr.mono h)⟩
theorem FnOk.imp {P:Program}{w:World}{K:Fg}{mg:Mg}{base:Heap}{CX:CXT}{k:Nat}{f:Addr}{fd:FuncData}{ps:Ls}{sp sp':Sp}(F:FnOk P w K mg base CX k f fd ps sp)
  (h:∀vs H Q E,sp' vs H Q E->sp vs H Q E):FnOk P w K mg base CX k f fd ps sp':=
 ⟨λvs H Q E q=>F.len vs H Q E (h _ _ _ _ q),λA outer s H args us vs Q E hr he hb hv hs=>F.run A outer s H args us vs Q E hr he hb hv (h _ _ _ _ hs)⟩
theorem Env0.make {P:Program}{w:World}{K:Fg}{mg:Mg}{base:Heap}{A:Around}{outer:List Env}{s:Shared}{H:Hp}(e:Env0 P w K mg base A outer s H)(C:Addr)(us:Lv)(kw:List (Str×Value)) :
  Env0 P w K mg base (A.under (.builtin "type.__call__" ⟨.ref C::us,kw⟩)) outer s H:=⟨by first|exact e.frames|(simpa [Around.under,Code.envs,Code.isFrame,pushEnvs] using e.frames),e.mod,e.bs,e.bsz,e.funs,e.frf,e.hok,e.bare⟩
theorem Env0.in1 {P:Program}{w:World}{K:Fg}{mg:Mg}{base:Heap}{A:Around}{outer:List Env}{s:Shared}{H:Hp}(e:Env0 P w K mg base A outer s H) :
  Env0 P w K mg base A.in1 outer s H:=⟨e.frames,e.mod,e.bs,e.bsz,e.funs,e.frf,e.hok,e.bare⟩
section
variable {X:Cx}{pins:List (Addr×Obj)}{σ:St}{H:Hp}{s s':Shared}
theorem Inv.env0 (I:Inv X pins σ H s):Env0 X.prog X.w X.K X.mg X.base X.A X.stack s H:=
 ⟨I.ok.frames,I.ok.mod,I.bs,aJ I.ok.bsz I.sz,I.stack,⟨I.stkFree,λx h=>let ⟨ps,e⟩:=I.ok.frf.t x h;let ⟨more,e'⟩:=I.base.tbls x.2.1 _ e;⟨ps++more,e'⟩⟩,I.hok,I.bare⟩
theorem Inv.after (I:Inv X pins σ H s)(h:CE X.stack X.prog X.w H s Q u s'):EP X pins σ Q u s':=by obtain⟨v,H',os,bare,un,hok,r,q⟩:=h;obtain⟨hh,g,d,t,os'⟩:=s';obtain rfl:os'=s.os:=os;exact⟨v,H',I.call (h':=hh) (g':=g) (d':=d) (t':=t) (ch:=[]) un hok bare (λb z=>absurd z (by simp)),r,q⟩
end
def tCall (sp:Sp)(dvs:List V)(E:XK)(t:TA):TE:=λσ H Q=>t σ H λvs H1=>sp (vs++dvs) H1 Q E
def tMeth (C:Addr)(m:Str)(sp:Sp)(dvs:List V)(E:XK)(ta:TE)(t:TA):TE:=λσ H Q=>ta σ H λx H1=>∃a dx fs,x=.ref a/\H1 a=some (.ins C dx fs)/\fs.lookup m=none /\
 t σ H1 λvs H2=>sp (x::(vs++dvs)) H2 Q E
def tMake (C:Addr)(sp:Sp)(dvs:List V)(E:XK)(t:TA):TE:=λσ H Q=>t σ H λvs H1=>∀x dx,H1 x=none->H1 dx=none->dx≠x ->
 sp (.ref x::(vs++dvs)) (upd (upd H1 dx (.own x)) x (.ins C dx [])) (λv H2=>v=.non/\Q (.ref x) H2) E
def Binds (K:Fg)(fd:FuncData)(ps:List Str)(ds:List Value):Prop:=
 ∀(s:Shared) (us:List Value),K.In s.heap->(us++ds).length=ps.length->BindsTo s fd ⟨us,[]⟩ (ps.zip (us++ds))
theorem Binds.all {K:Fg}{fd:FuncData}{ps:Ls}(h:∀us:List Value,us.length=ps.length->bindArgs fd ⟨us,[]⟩=pure (ps.zip us)):Binds K fd ps []:=λs us _ hl=>by rw[bh]at hl ⊢;exact .of_eq (h us hl)
def Passes (CX:CXT)(X:Cx)(E:XK):Prop:=∀(pins:List (Addr×Obj)) (σ:St) (H:Hp) (s:Shared) (e:Value) (s':Shared),Inv X pins σ H s->CX X.stack H s E e s' -> X.xe e s'
section
variable {X:Cx}{CX:CXT}{k:Nat}{f C:Addr}{fd:FuncData}{ps:List Str}{sp:Sp}{dvs:List V}{ds:List Value}{E:XK}{x m:Str}{p pos apos:Pos}{e o:Expr}{es:List Expr}{ta:TE}{t:TA}
theorem run_fn (F:FnOk X.prog X.w X.K X.mg X.base CX k f fd ps sp)(hr:Room k X.A)(hb:Binds X.K fd ps ds)(hd:Vals dvs ds)(hx:Passes CX X E)
  (I:Inv X pins σ H s) (r:Vals vs us) (h:sp (vs++dvs) H Q E):wpAny (model X.prog X.w) X.A (call (.ref f) us) (EP X pins σ Q) X.xe s:=by
 have r2:Vals (vs++dvs) (us++ds):=r.append hd;have hl:(us++ds).length=ps.length:=by rw[<- r2.length];exact F.len _ _ _ _ h
 refine fU (gu (F.run X.A X.stack s H ⟨us,[]⟩ (us++ds) (vs++dvs) Q E hr I.env0 (hb s us I.kIn hl) r2 h) λr s' hq=>?_);cases r with
 |error e=>exact hx pins σ H s e s' I hq
 |ok fl=>
  cases fl with
  |ret u=>exact I.after hq
  |next=>exact False.elim hq
  |brk=>exact False.elim hq
  |cont=>exact False.elim hq
theorem pe_call (F:FnOk X.prog X.w X.K X.mg X.base CX k f fd ps sp)(hr:Room k X.A)(hg:Gl X x)(hm:X.mg x=some (.ref f))(hk:W.keepIn X.K (.ref f)=true)(hb:Binds X.K fd ps ds)(hd:Vals dvs ds)(hx:Passes CX X E)
  (ha:PA X (e::es) t) (hdb:(x == ("__debug__":Str))=false:=by decide) (he:starEach (e::es) X.env=(false,eval e X.env)::starEach es X.env:=by rfl) (hpl:(backTo pos (starEach es X.env)).any (·.1)=false:=by rfl) :
  PE X (.Call (.Name x p) (e::es) [] pos) (tCall sp dvs E t):=by
 intro pins s σ H Q I h;refine cJ (ld_glob I hg hm ?_ hdb);refine dQ (h₀:=X.base) I.ok.mod.kin hk (thn (ha pos pins s σ H _ I h) λus s1 ⟨vs,H1,I1,r,q⟩=>⟨I1.kIn,?_⟩) he hpl;exact run_fn F hr hb hd hx I1 r q
theorem pe_meth (he:PE X o ta)(c:Cls X.K C)(hm:Meth X.K C m f)(F:FnOk X.prog X.w X.K X.mg X.base CX k f fd ps sp)(hr:Room k X.A)(hb:Binds X.K fd ps ds)(hd:Vals dvs ds)(hx:Passes CX X E)(ha:PA X (e::es) t)
  (hst:starEach (e::es) X.env=(false,eval e X.env)::starEach es X.env:=by rfl) (hpl:(backTo pos (starEach es X.env)).any (·.1)=false:=by rfl)
  (ht:eval (.Call (.Attribute o m apos) (e::es) [] pos) X.env=(do
   let ov <- eval o X.env
   standAt apos.atName
   let (f,first) <- holding [ov] (getMethod ov m pl)
   callWith pos f first (backTo pos (starEach (e::es) X.env)) (backToKw pos (keywordEach [] X.env))):=by rfl) :
  PE X (.Call (.Attribute o m apos) (e::es) [] pos) (tMeth C m sp dvs E ta t):=by
 intro pins s σ H Q I h;refine hW (pl:=pl) (thn (he pins s σ H _ I h) λu s1 ⟨x,H1,I1,rx,a,dx,fs,ex,ea,l,q⟩=>?_) ht;subst ex;obtain rfl:u=Value.ref a:=rx;refine getmeth_ok I1 ea c hm l ?_;refine dQ (first:=[.ref a]) (h₀:=X.base) I.ok.mod.kin hm.kp (thn (ha pos pins s1 σ H1 _ I1 q) λus s2 ⟨vs,H2,I2,r,q2⟩=>⟨I2.kIn,?_⟩) hst hpl
 exact run_fn (us:=.ref a::us) (vs:=.ref a::vs) F hr hb hd hx I2 (.cons rfl r) q2
structure Mk (K:Fg)(C f:Addr):Prop where
 makes:W.makesIn K C=true
 init:W.findIn K (.ref C) "__init__"=some (some (.ref f))
 fn:W.isFn K (.ref f)=true
 kp:W.keepIn K (.ref C)=true
theorem run_make (M:Mk X.K C f)(F:FnOk X.prog X.w X.K X.mg X.base CX k f fd ps sp)(hr:Room (k+1) X.A)(hb:Binds X.K fd ps ds)(hd:Vals dvs ds)
  (hx:Passes CX X E) (I:Inv X pins σ H s) (r:Vals vs us)
  (h:∀x dx,H x=none->H dx=none->dx≠x->sp (.ref x::(vs++dvs)) (upd (upd H dx (.own x)) x (.ins C dx [])) (λv H2=>v=.non/\Q (.ref x) H2) E) :
  wpAny (model X.prog X.w) X.A (call (.ref C) us) (EP X pins σ Q) X.xe s:=by
 have hq:=h (s.heap.objs.size+1) s.heap.objs.size (I.hok.fresh (iK _)) (I.hok.fresh (aq _)) (be (c5 _));have I2:=Inv.made (C:=C) I;have r2:Vals (V.ref (s.heap.objs.size+1)::(vs++dvs)) (Value.ref (s.heap.objs.size+1)::(us++ds)):=.cons rfl (r.append hd);have hl:(Value.ref (s.heap.objs.size+1)::us++ds).length=ps.length:=by have e:=r2.length;rw[F.len _ _ _ _ hq]at e;exact e.symm
 refine fU (make_map (f:=f) I.kIn M.makes M.init (beq_iff_eq.mp M.fn) (gu (F.run _ X.stack _ _ ⟨Value.ref (s.heap.objs.size+1)::us,[]⟩ (Value.ref (s.heap.objs.size+1)::(us++ds)) _ _ E (hr.make C us [])
  (I2.env0.make C us []) (hb _ (Value.ref (s.heap.objs.size+1)::us) I2.kIn hl) r2 hq) λr s' hq'=>?_))
 cases r with
 |error e=>exact hx pins σ _ _ e s' I2 hq'
 |ok fl=>
  cases fl with
  |ret u=>obtain⟨v,H',I3,rv,ev,q3⟩:=I2.after hq';subst ev;exact⟨rv,⟨V.ref (s.heap.objs.size+1),H',I3,rfl,q3⟩⟩
  |next=>exact False.elim hq'
  |brk=>exact False.elim hq'
  |cont=>exact False.elim hq'
theorem pe_make (M:Mk X.K C f)(F:FnOk X.prog X.w X.K X.mg X.base CX k f fd ps sp)(hr:Room (k+1) X.A)(hg:Gl X x)(hm:X.mg x=some (.ref C))(hb:Binds X.K fd ps ds)(hd:Vals dvs ds)(hx:Passes CX X E)
  (ha:PA X (e::es) t) (hdb:(x == ("__debug__":Str))=false:=by decide) (he:starEach (e::es) X.env=(false,eval e X.env)::starEach es X.env:=by rfl) (hpl:(backTo pos (starEach es X.env)).any (·.1)=false:=by rfl) :
  PE X (.Call (.Name x p) (e::es) [] pos) (tMake C sp dvs E t):=by
 intro pins s σ H Q I h;refine cJ (ld_glob I hg hm ?_ hdb);refine dQ (h₀:=X.base) I.ok.mod.kin M.kp (thn (ha pos pins s σ H _ I h) λus s1 ⟨vs,H1,I1,r,q⟩=>⟨I1.kIn,?_⟩) he hpl;exact run_make M F hr hb hd hx I1 r q
end
structure FnScope (N P:List Str)(sc:Scope):Prop where
 kind:sc.kind=.function
 co:sc.isCoroutine=false
 gen:sc.isGenerator=false
 nd:N.Nodup
 pre:N.take P.length=P
 par:∀x∈P,sc.names.lookup x=some .local\/sc.names.lookup x=some .cell
 nofree:∀y∈sc.names,y.2 ≠ .free
theorem bindL_out {kindOf:Str->Option NameKind}:∀{binds:List (Str×Value)} {m:Mg},(∀v,(x,v)∉binds)->bindL kindOf binds m x=m x
 |[],_,_=>rfl
 |(n,v)::r,m,h=>by
  unfold bindL;rw[bindL_out λw hw=>h w (ae _ hw)];split
  ·have:x≠n:=by rintro rfl;exact h v af
   simp[this]
  ·rfl
theorem bindC_out {kindOf:Str->Option NameKind}:∀{binds:List (Str×Value)} {m:Mg},(∀v,(x,v)∉binds)->bindC kindOf binds m x=m x
 |[],_,_=>rfl
 |(n,v)::r,m,h=>by
  unfold bindC;rw[bindC_out λw hw=>h w (ae _ hw)];split
  ·rfl
  ·have:x≠n:=by rintro rfl;exact h v af
   simp[this]
theorem bindL_get {kindOf:Str->Option NameKind}:∀{P:Ls} {vs:Lv} {i:Nat} {m:Mg},P.Nodup->P[i]?=some x->vs[i]?=some v->kindOf x=some .local ->
  bindL kindOf (P.zip vs) m x=some v
 |[],_,_,_,_,h,_,_=>by simp at h
 |_::_,[],_,_,_,_,h,_=>by simp at h
 |p::P,w::vs,0,m,nd,h1,h2,hk=>by simp at h1 h2;subst h1;subst h2;show bindL kindOf ((p,w)::P.zip vs) m p=_;unfold bindL;rw[bindL_out λv hv=>(cX.mp nd).1 (dh hv).1,ah hk];simp
 |p::P,w::vs,i+1,m,nd,h1,h2,hk=>by show bindL kindOf ((p,w)::P.zip vs) m x=_;unfold bindL;exact bindL_get (i:=i) (cX.mp nd).2 (by simpa using h1) (by simpa using h2) hk
theorem bindC_get {kindOf:Str->Option NameKind}:∀{P:Ls} {vs:Lv} {i:Nat} {m:Mg},P.Nodup->P[i]?=some x->vs[i]?=some v->kindOf x≠some .local ->
  bindC kindOf (P.zip vs) m x=some v
 |[],_,_,_,_,h,_,_=>by simp at h
 |_::_,[],_,_,_,_,h,_=>by simp at h
 |p::P,w::vs,0,m,nd,h1,h2,hk=>by simp at h1 h2;subst h1;subst h2;show bindC kindOf ((p,w)::P.zip vs) m p=_;unfold bindC;rw[bindC_out λv hv=>(cX.mp nd).1 (dh hv).1,ag hk];simp
 |p::P,w::vs,i+1,m,nd,h1,h2,hk=>by show bindC kindOf ((p,w)::P.zip vs) m x=_;unfold bindC;exact bindC_get (i:=i) (cX.mp nd).2 (by simpa using h1) (by simpa using h2) hk
def start (N:List Str)(vs:List V):St:=vs.map some++List.replicate (N.length-vs.length) none
def cxOf (CX:CXT)(P:Program)(w:World)(K:Fg)(mg:Mg)(base:Heap)(N:List Str)(qual:Str)(scope:Scope)(f:Addr)(cd:Value)(A:Around)(outer:List Env)(s:Shared)(H:Hp)(E:XK):Cx where
 prog:=P
 w:=w
 K:=K
 mg:=mg
 base:=base
 A:=A.deeper (envOfC qual scope s.heap.objs.size f cd)
 N:=N
 s₀:=s
 H₀:=H
 env:=envOfC qual scope s.heap.objs.size f cd
 outer:=outer
 stack:=envOfC qual scope s.heap.objs.size f cd::outer
 ex:=[]
 calm:=true
 fn:=λ_=>true
 pn:=[]
 xe:=λe s'=>wpAny (model P w) (A.deeper (envOfC qual scope s.heap.objs.size f cd)) (leaving (envOfC qual scope s.heap.objs.size f cd) e) (λ_ s''=>CX outer H s E e s'') (λe' s''=>CX outer H s E e' s'') s'
theorem cell_has {sc:Scope}{n:Nat}{x:Str}(h:sc.names.lookup x=some .cell):∃c,(cellsFrom n sc.names []).lookup x=some c:=by have q:=hU sc.names n [] (.inl h);exact cZ.mp q
theorem inv_start {CX:CXT}{P:Program}{w:World}{K:Fg}{mg:Mg}{base:Heap}{N ps:Ls}{qual:Str}{scope:Scope}{f:Addr}{cd:Value}{A:Around}{outer:List Env}{s s1:Shared}{H:Hp}{E:XK}{us:Lv}{vs:List V}
  (S:FnScope N ps scope) (hd:A.handled=none) (e0:Env0 P w K mg base A outer s H) (hl:vs.length=ps.length) (r:Vals vs us)
  (x:InCallC s s.heap.objs.size (bindL (envOfC qual scope s.heap.objs.size f cd).kindOf (ps.zip us) λ_=>none) (cellsFrom (s.heap.objs.size+1) scope.names []) (bindC (envOfC qual scope s.heap.objs.size f cd).kindOf (ps.zip us) λ_=>none) s1) :
  Inv (cxOf CX P w K mg base N qual scope f cd A outer s H E) [] (start N vs) H s1:=by
 have hpl:ps.length<=N.length:=by have:=congrArg List.length S.pre;rw[aM]at this;lia
 obtain⟨h1,tk,rfl,hk⟩:=x.done;have noA:∀b:Addr,b∉(cxOf CX P w K mg base N qual scope f cd A outer s H E).ex:=λb z=>absurd (show b∈([]:List Addr) from z) (by simp);refine⟨⟨e0.mod,S.kind,rfl,rfl,aq _,λy z c h1 h2=>?_,λy hy=>?_,λy c _ h=>?_,λ_=>hd,Around.frames_deeper e0.frames,.inr ⟨rfl,rfl⟩,λb z=>absurd z (noA b),e0.bs,e0.bsz,λb _ _=>noA b,λb z=>absurd z (noA b),e0.funs,e0.frf⟩,
  rfl,e0.bare,Un.kept hk,⟨_,x.toInCall.ns,λi y v h1 h2 h3=>?_⟩,λy c h=>⟨_,x.cell y c h⟩,e0.hok.fresh (aq _),λy c h=>?_,λp hp=>absurd (show p∈([]:List (Addr×Obj)) from hp) (by simp),e0.hok.kept hk,?_⟩
 ·exact name_of_addr x.apart (di h1) (di h2)
 ·have hy:scope.names.lookup y=some .cell\/scope.names.lookup y=some .free:=hy;rcases hy with hy|hy
  ·exact cell_has hy
  ·exact absurd rfl (S.nofree _ (di hy))
 ·exact bX (x.above y c (di h))
 ·have hi:i<vs.length:=by
   unfold start at h2;by_cases hi:i<vs.length
   ·exact hi
   ·rw[br (by simpa using hi)]at h2;rw[bF]at h2;split at h2<;>cases h2
  have ha:vs[i]?=some v:=by
   unfold start at h2;rw[aS (by simpa using hi),az]at h2;cases e:vs[i]? with
   |none=>rw[e]at h2;cases h2
   |some a=>rw[e]at h2;cases h2;rfl
  obtain⟨u,hu,rv⟩:=r.get ha;have hp:ps[i]?=some y:=by rw[<- S.pre,dF (by lia)];exact h1
  have ndP:ps.Nodup:=by rw[<- S.pre];exact S.nd.sublist (List.take_sublist _ _)
  refine⟨u,rv,?_⟩;rcases S.par y (bQ hp) with k|k
  ·exact .inl ⟨k,bindL_get ndP hp hu k⟩
  ·obtain⟨c,e⟩:=cell_has (n:=s.heap.objs.size+1) k;refine .inr ⟨.inl k,c,e,?_⟩;have q:=x.cell y c e;rw[bindC_get ndP hp hu (by show scope.names.lookup y≠_;rw[k];decide)]at q;exact q
 ·exact e0.hok.fresh (bX (x.above y c (di h)))
 ·unfold start;show _=N.length;rw[ai,aa,aG];lia
theorem fn_of {CX:CXT}{P:Program}{w:World}{K:Fg}{mg:Mg}{base:Heap}{k:Nat}{f:Addr}{name qual:Str}{params:Arguments}{body:List Stmt}{scope:Scope}{dV kV doc pm cdv ct oc:Value}{an od:Option Addr}
  {osl:Array (Option Value)} {N ps:List Str} {sp:Sp} (lk:K.lookup f=some ⟨oc,od,.func (W.fnOf name qual params body scope dV kV doc pm an cdv ct),osl⟩) (hcd:W.codeIn K cdv qual=true) (S:FnScope N ps scope)
  (len:∀vs H Q E,sp vs H Q E->vs.length=ps.length)
  (hbody:∀(A:Around) (outer:List Env) (s:Shared) (H:Hp) (vs:List V) (Q:VK) (E:XK),Room k (A.deeper (envOfC qual scope s.heap.objs.size f cdv))->sp vs H Q E ->
   ∃t,PSs (cxOf CX P w K mg base N qual scope f cdv A outer s H E) body t/\t { nx:=λ_ H'=>Q .non H',rt:=Q } (start N vs) H) :
  FnOk P w K mg base CX (k+1) f (W.fnOf name qual params body scope dV kV doc pm an cdv ct) ps sp:=by
 refine⟨len,λA outer s H args us vs Q E hr e0 hb r hsp=>?_⟩;have hl:=len _ _ _ _ hsp;have KX:K.In s.heap:=e0.mod.kin.keeps λb o e=>(e0.bs b o e).1;have lim:s.heap.NoLimit:=e0.mod.nolimit.keeps λb o e=>(e0.bs b o e).1;have hkind:∀y∈ps.zip us,scope.names.lookup y.1=some .local\/(scope.names.lookup y.1=some .cell/\((cellsFrom (s.heap.objs.size+1) scope.names []).lookup y.1).isSome=true):=λ⟨n,v⟩ hy=>by
  rcases S.par n (dh hy).1 with q|q
  ·exact .inl q
  ·exact .inr ⟨q,hU _ _ _ (.inl q)⟩
 refine codeAny_call_function hr.depth (KX _ _ lk) rfl S.co S.gen rfl (W.codeRec_of KX hcd) (hb _ _ _ _ ?_);refine wpAny_newFunctionEnv_cells S.kind hkind λenv he s1 x=>?_;subst he;refine⟨lim.keeps x.toInCall.keep,codeAny_func ?_⟩;obtain⟨t,ht,hq⟩:=hbody A outer s H vs Q E (hr.deeper _) hsp;have I:Inv (cxOf CX P w K mg base N qual scope f cdv A outer s H E) [] (start N vs) H s1:=inv_start S hr.hd e0 hl r x;refine eZ (ht [] s1 (start N vs) H _ I hq) (λfl s' hs=>?_) λe s' hs=>hs;have fin:∀{σ':St} {H':Hp} {v:V} {u:Value},Inv (cxOf CX P w K mg base N qual scope f cdv A outer s H E) [] σ' H' s' -> RelV v u->Q v H' -> CE outer P w H s Q u s':=
  λ{σ' H' v u} J rv q=>⟨v,H',J.os,J.bare,J.base,J.hok,rv,q⟩
 cases fl with
 |ret u=>obtain⟨v,σ',H',J,rv,q⟩:=hs;exact fin J rv q
 |next=>obtain⟨σ',H',J,q⟩:=hs;exact fin (v:=V.non) (u:=Value.none) J rfl q
 |brk=>obtain⟨_,_,_,q⟩:=hs;exact False.elim q
 |cont=>obtain⟨_,_,_,q⟩:=hs;exact False.elim q
section
variable {X:Cx}{x:Str}{p pos:Pos}{e:Expr}{es:List Expr}{t:TA}{id T:String}{r:List V->Hp->VK->Prop}
def tCB (r:List V->Hp->VK->Prop)(t:TA):TE:=λσ H Q=>t σ H λvs H1=>r vs H1 Q
theorem pe_callB (hc:CallR X (.builtin id) r)(hg:Gl X x)(hm:X.mg x=none)(hv:bootBuiltins x=some (.builtin id))(ha:PA X (e::es) t)(hn:x≠"__name__":=by decide)(hdb:(x == ("__debug__":Str))=false:=by decide)
  (he:starEach (e::es) X.env=(false,eval e X.env)::starEach es X.env:=by rfl) (hpl:(backTo pos (starEach es X.env)).any (·.1)=false:=by rfl):PE X (.Call (.Name x p) (e::es) [] pos) (tCB r t):=by
 intro pins s σ H Q I h;refine cJ (ld_blt I hg hm hv ?_ hn hdb);exact PyProof.Rows.callWith_builtin1 (thn (ha pos pins s σ H _ I h) λus s1 ⟨vs,H1,I1,r1,q1⟩=>hc pins s1 σ H1 vs us Q I1 r1 q1) he hpl
theorem pe_callTy (hc:CallR X (.type T) r)(hg:Gl X x)(hm:X.mg x=none)(hv:bootBuiltins x=some (.type T))(ha:PA X (e::es) t)(hn:x≠"__name__":=by decide)(hdb:(x == ("__debug__":Str))=false:=by decide)
  (he:starEach (e::es) X.env=(false,eval e X.env)::starEach es X.env:=by rfl) (hpl:(backTo pos (starEach es X.env)).any (·.1)=false:=by rfl):PE X (.Call (.Name x p) (e::es) [] pos) (tCB r t):=by
 intro pins s σ H Q I h;refine cJ (ld_blt I hg hm hv ?_ hn hdb);exact cq (thn (ha pos pins s σ H _ I h) λus s1 ⟨vs,H1,I1,r1,q1⟩=>hc pins s1 σ H1 vs us Q I1 r1 q1) he hpl
end
end L2
namespace HT
open PySem PyProof.Rows
section
variable {prog:Program}{w:World}{A:Around}{E:Value->Shared->Prop}{s:Shared}
def sIx (n d:Nat):Option Int->Nat
 |none=>d
 |some v=>if v<0 then(v+(n:Int)).toNat else min v.toNat n
theorem sIx_none (n d:Nat):sIx n d none=d:=rfl
theorem sIx_nat (n d k:Nat):sIx n d (some (k:Int))=min k n:=by show(if (k:Int)<0 then((k:Int)+(n:Int)).toNat else min (k:Int).toNat n)=min k n;rw[ag (by lia),aE]
end
end HT
namespace L2
open PySem PySem.Spec PyProof.Rows
abbrev TO:=St->Hp->(Option Int->Hp->Prop)->Prop
def PO (X:Cx)(e:Option Expr)(t:TO):Prop:=
 ∀(pins:List (Addr×Obj)) (s:Shared) (σ:St) (H:Hp) (Q:Option Int->Hp->Prop),Inv X pins σ H s->t σ H Q ->
  wpAny (model X.prog X.w) X.A (evalPart e X.env) (λu s'=>∃o H',Inv X pins σ H' s'/\IsPart u o/\Q o H') X.xe s
def tNoPart:TO:=λ_ H Q=>Q none H
def tPart (t:TE):TO:=λσ H Q=>t σ H λx H1=>∃i,x=.int i/\Q (some i) H1
section
variable {X:Cx}{e:Expr}{te:TE}{lo hi:Option Expr}{tl th:TO}{pos p2:Pos}
theorem po_none:PO X none tNoPart:=by intro pins s σ H Q I h;rw[evalPart_none];exact bI ⟨none,H,I,.none,h⟩
theorem po_some (h:PE X e te):PO X (some e) (tPart te):=by intro pins s σ H Q I hw;rw[evalPart_some];refine thn (h pins s σ H _ I hw) λu s1 ⟨x,H1,I1,r1,q1⟩=>?_;obtain⟨i,rfl,q⟩:=q1;obtain⟨t,rfl⟩:=r1;exact⟨some i,H1,I1,.int i t,q⟩
def SlR (X:Cx)(r:V->Option Int->Option Int->Hp->VK->Prop):Prop:=
 ∀(pins:List (Addr×Obj)) (s:Shared) (σ:St) (H:Hp) (x:V) (v vl vu:Value) (lo hi:Option Int) (sl:Addr) (Q:VK),Inv X pins σ H s->RelV x v->s.heap.IsSliceOf sl vl vu .none->IsPart vl lo->IsPart vu hi->r x lo hi H Q ->
  ∃T id,typeLookup (.type T) "__getitem__"=pure (some (.builtin id))/\s.TypeIs v T/\wpAny (model X.prog X.w) X.A (getItem v (.ref sl)) (EP X pins σ Q) X.xe s
def tSl (r:V->Option Int->Option Int->Hp->VK->Prop)(te:TE)(tl th:TO):TE:=λσ H Q=>te σ H λx H1=>tl σ H1 λl H2=>th σ H2 λu H3=>r x l u H3 Q
theorem pe_slice (hr:SlR X r)(he:PE X e te)(hl:PO X lo tl)(hu:PO X hi th):PE X (.Subscript e (.Slice lo hi none p2) pos) (tSl r te tl th):=by intro pins s σ H Q I h;refine Subscript_ (thn (he pins s σ H _ I h) λv s1 ⟨x,H1,I1,r1,q1⟩=>?_);refine wpAny_Slice (thn (hl pins s1 σ H1 _ I1 q1) λvl s2 ⟨l,H2,I2,pl,q2⟩=>thn (hu pins s2 σ H2 _ I2 q2) λvu s3 ⟨u,H3,I3,pu,q3⟩=>?_);rw[evalPart_none];refine bI ?_;have I4:Inv X pins σ H3 { s3 with heap:=s3.heap.push { cls:=.type "slice",data:=.fields #[vl,vu,.none] } }:=I3.kept (t':=s3.toks) λb ob q=>ay _ q;obtain⟨T,id,hT,ht,hg⟩:=hr pins { s3 with heap:=s3.heap.push { cls:=.type "slice",data:=.fields #[vl,vu,.none] } } σ H3 x v vl vu l u s3.heap.objs.size Q I4 r1 (Heap.IsSliceOf.new ..) pl pu q3;show wpAny (model X.prog X.w) X.A (subscriptTail e (.Slice lo hi none p2) v (.ref s3.heap.objs.size)) (EP X pins σ Q) X.xe { s3 with heap:=s3.heap.push { cls:=.type "slice",data:=.fields #[vl,vu,.none] } };exact tail_any (ops:=[.ref s3.heap.objs.size,v]) ht hT hg (by with_unfolding_all rfl)
def cutV (xs:List V)(lo hi:Option Int):List V:=(xs.drop (HT.sIx xs.length 0 lo)).take (HT.sIx xs.length xs.length hi-HT.sIx xs.length 0 lo)
theorem cutV_length (xs:List V)(lo hi:Option Int):(cutV xs lo hi).length<=xs.length:=by unfold cutV;rw[aM,a9];lia
end
def ixN (n:Nat)(i:Int):Option Nat:=if 0<=i then(if i<n then some i.toNat else none) else if -(n:Int)<=i then some (i+n).toNat else none
def atI {α:Type}(xs:List α)(i:Int):Option α:=(ixN xs.length i).bind λj=>xs[j]?
theorem ixN_seq (h:ixN n i=some j):seqIndex? i n=some j/\j<n /\ -(n:Int)<=i/\i<n:=by
 unfold ixN at h;by_cases h0:0<=i
 ·rw[ah h0]at h;by_cases h1:i<n
  ·rw[ah h1]at h;have e:i.toNat=j:=aI h;exact⟨by rw[iM h0 h1,e],by lia,by lia,h1⟩
  ·rw[ag h1]at h;cases h
 ·rw[ag h0]at h;by_cases h1:-(n:Int)<=i
  ·rw[ah h1]at h;have e:(i+n).toNat=j:=aI h;exact⟨by rw[hZ (by lia) h1,e],by lia,h1,by lia⟩
  ·rw[ag h1]at h;cases h
theorem atI_get {α:Type}{xs:List α}{i:Int}{v:α}(h:atI xs i=some v):∃j,seqIndex? i xs.length=some j/\xs[j]?=some v/\j<xs.length /\ -(xs.length:Int)<=i/\i<xs.length:=by
 unfold atI at h;cases e:ixN xs.length i with
 |none=>rw[e]at h;cases h
 |some j=>rw[e]at h;obtain⟨h1,h2,h3,h4⟩:=ixN_seq e;exact⟨j,h1,h,h2,h3,h4⟩
theorem atI_nat {α:Type}{xs:List α}{j:Nat}{v:α}(h:xs[j]?=some v):atI xs (j:Int)=some v:=by
 have hj:j<xs.length:=(aj.mp h).1;have e:ixN xs.length (j:Int)=some j:=by unfold ixN;rw[ah (by lia),ah (by lia)];simp
 unfold atI;rw[e];exact h
def PlainIx (b:Expr):Prop:=∀o i,subscripted b false o i=operate [o,i] (getItem o i)
def IxR (X:Cx)(r:R2):Prop:=
 ∀(value slice:Expr) (pins:List (Addr×Obj)) (s:Shared) (σ:St) (H:Hp) (x y:V) (v u:Value) (Q:VK),Inv X pins σ H s->RelV x v->RelV y u->r x y H Q ->
  subscripted slice false v u=operate [v,u] (getItem v u)->wpAny (model X.prog X.w) X.A (subscriptTail value slice v u) (EP X pins σ Q) X.xe s
def MtR (X:Cx)(id:String)(r:V->List V->Hp->VK->Prop):Prop:=
 ∀(pins:List (Addr×Obj)) (s:Shared) (σ:St) (H:Hp) (x:V) (xs:List V) (v:Value) (us:List Value) (Q:VK),Inv X pins σ H s->RelV x v->Vals xs us->r x xs H Q ->
  wpAny (model X.prog X.w) X.A (call (.builtin id) (v::us)) (EP X pins σ Q) X.xe s
section
variable {X:Cx}{a b:Expr}{ta tb:TE}{pos:Pos}
theorem IxR.or (h:IxR X r)(h':IxR X r'):IxR X (λx y H Q=>r x y H Q\/r' x y H Q):=by
 intro value slice pins s σ H x y v u Q I rx ry q hs;rcases q with q|q
 ·exact h value slice pins s σ H x y v u Q I rx ry q hs
 ·exact h' value slice pins s σ H x y v u Q I rx ry q hs
theorem pe_ix (hr:IxR X r)(ha:PE X a ta)(hb:PE X b tb)(hs:PlainIx b):PE X (.Subscript a b pos) (tOp r ta tb):=by intro pins s σ H Q I h;exact Subscript_ (binT ha hb I h λv u s2 x y H2 I2 rx ry q=>hr a b pins s2 σ H2 x y v u Q I2 rx ry q (hs _ _))
def rIxL (K:Fg):R2:=λx y H Q=>∃p xs i v,x=.ref p/\y=.int i/\SqL K H p xs/\atI xs i=some v/\Q v H
def rIxT (K:Fg):R2:=λx y H Q=>∃p xs i v,x=.ref p/\y=.int i/\SqT K H p xs/\atI xs i=some v/\Q v H
def rIxS:R2:=λx y H Q=>∃z i c,x=.str z/\y=.int i/\z.length<=sizeLine/\atI z.cps.toList i=some c/\Q (.str ⟨#[c]⟩) H
theorem ix_list:IxR X (rIxL X.K):=by
 intro value slice pins s σ H x y v u Q I rx ry h hs;obtain⟨p,xs,i,z,rfl,rfl,hq,he,q⟩:=h;cases rx;obtain⟨t,rfl⟩:=ry;obtain⟨its,r,pl,hz⟩:=I.list hq;obtain⟨j,h1,h2,h3,h4,h5⟩:=atI_get he;obtain⟨w,ew,rw'⟩:=r.get h2;have hl:=r.length;have hn:=line63;have fin:EP X pins σ Q w s:=⟨z,H,I,rw',q⟩;by_cases h0:0<=i
 ·have hj:i.toNat=j:=by rw[iM h0 h5]at h1;exact aI h1
  exact item_listR pl.isList h0 (by lia) (by rw[hj];simpa using ew) fin hs
 ·have hj:(i+(its.toArray.size:Int)).toNat=j:=by rw[hZ (by lia) h4]at h1;rw[aw,<- hl];exact aI h1
  exact dP (x:=w) pl.isList.typeIs slot_list_getitem.lookup
   (wpAny_getItem_list_neg (Q:=λr s'=>r=w/\EP X pins σ Q r s') pl.isList (by lia) (by rw[aw]<;>lia) (by lia) (by rw[hj];simpa using ew) ⟨rfl,fin⟩) hs
theorem ix_tup:IxR X (rIxT X.K):=by
 intro value slice pins s σ H x y v u Q I rx ry h hs;obtain⟨p,xs,i,z,rfl,rfl,hq,he,q⟩:=h;cases rx;obtain⟨t,rfl⟩:=ry;obtain⟨its,r,pl,hz⟩:=I.tuple hq;obtain⟨j,h1,h2,h3,h4,h5⟩:=atI_get he;obtain⟨w,ew,rw'⟩:=r.get h2;have hl:=r.length;have hn:=line63;have fin:EP X pins σ Q w s:=⟨z,H,I,rw',q⟩;exact dP (x:=w) pl.typeIs slot_tuple_getitem.lookup
  (getItem_tuple (j:=j) (Q:=λr s'=>r=w/\EP X pins σ Q r s') pl (by lia) (by lia) (by rw[aw,<- hl];exact h1) (by simpa using ew) ⟨rfl,fin⟩) hs
theorem ix_str:IxR X rIxS:=by
 intro value slice pins s σ H x y v u Q I rx ry h hs;obtain⟨z,i,c,rfl,rfl,hz,he,q⟩:=h;obtain⟨t,rfl⟩:=rx;obtain⟨t',rfl⟩:=ry;obtain⟨j,h1,h2,h3,h4,h5⟩:=atI_get he;have hl:z.cps.toList.length=z.length:=by simp[Str.length]
 rw[hl]at h1 h4 h5;have hn:=line63;exact tail_any (typeIs_str s z t) slot_str_getitem.lookup (getItem_str (c:=c) (by
  have e1:decide (i < -(2^63:Int))=false:=aN (by lia);have e2:decide (i ≥ 2^63)=false:=aN (by lia);rw[e1,e2,Bool.or_false]) (by rw[h1];simpa using h2) ⟨.str ⟨#[c]⟩,H,I.tok _,⟨_,rfl⟩,q⟩) hs
def rIx (K:Fg):R2:=λx y H Q=>rIxL K x y H Q\/rIxT K x y H Q\/rIxS x y H Q
theorem ix_seq:IxR X (rIx X.K):=ix_list.or (ix_tup.or ix_str)
theorem mapSeq_set (its:Lv)(n j:Nat)(u:Value):Obj.mapSeq (·.setIfInBounds j u) { cls:=.type "list",data:=.seq its.toArray n }={ cls:=.type "list",data:=.seq (its.set j u).toArray n }:=by simp[Obj.mapSeq]
theorem Inv.lst (I:Inv X pins σ H s)(h:H p=some (.lst xs)) :
  ∃(its:List Value) (n:Nat),Vals xs its/\s.heap.get? p=some { cls:=.type "list",data:=.seq its.toArray n }/\xs.length<=sizeLine:=by
 obtain⟨z,its,n,r,e⟩:=I.hok p _ h;exact⟨its,n,r,e,z⟩
theorem Inv.lstUpd {pins:List (Addr×Obj)}{σ:St}{H:Hp}{s:Shared}{p:Addr}{xs ys:List V}{its its':Lv}{n n':Nat}{f:Obj->Obj}(I:Inv X pins σ H s)(h:H p=some (.lst xs))
  (ho:s.heap.get? p=some { cls:=.type "list",data:=.seq its.toArray n }) (hf:f { cls:=.type "list",data:=.seq its.toArray n }={ cls:=.type "list",data:=.seq its'.toArray n' }) (r:Vals ys its') (hz:ys.length<=sizeLine) (t:Nat) :
  Inv X pins σ (upd H p (.lst ys)) { s with heap:=s.heap.update p f,toks:=t }:=by
 have e:(s.heap.update p f).get? p=some { cls:=.type "list",data:=.seq its'.toArray n' }:=by rw[du f ho (by rw[hf]<;>rfl),hf]
 refine I.write (x:=p) (e:=p) (by rw[h];trivial) (.inl rfl) (λb u hb q=>(bN _ _ (ck hb)).trans q) ⟨_,e⟩ ?_;exact⟨hz,its',n',r,e⟩
def rSetL:V->V->V->Hp->(Hp->Prop)->Prop:=λo i v H Q=>∃p xs k j,o=.ref p/\i=.int k/\H p=some (.lst xs)/\ixN xs.length k=some j/\Q (upd H p (.lst (xs.set j v)))
theorem set_list:PSet X rSetL:=by
 intro pins s σ H o i v ov iv u Q I ro ri rv h;obtain⟨p,xs,k,j,rfl,rfl,hp,hj,q⟩:=h;cases ro;obtain⟨t,rfl⟩:=ri;obtain⟨its,n,r,ho,hz⟩:=I.lst hp;obtain⟨h1,h2,h3,h4⟩:=ixN_seq hj;have hl:=r.length;have hn:=line63;have I':Inv X pins σ (upd H p (.lst (xs.set j v))) { s with heap:=s.heap.update p (Obj.mapSeq (·.setIfInBounds j u)) } :=
  I.lstUpd hp ho (mapSeq_set its n j u) (r.set rv j) (by rw[bB];exact hz) s.toks
 by_cases h0:0<=k
 ·have hk:k.toNat=j:=by rw[iM h0 h4]at h1;exact aI h1
  exact W.ki_setAt ho h0 (by lia) (by rw[aw,<- hl];exact h4) (by rw[hk];exact⟨_,I',q⟩)
 ·have hk:(k+(its.toArray.size:Int)).toNat=j:=by rw[hZ (by lia) h3]at h1;rw[aw,<- hl];exact aI h1
  exact W.ki_setBack ho (by lia) (by rw[aw,<- hl];exact h3) (by lia) (by rw[hk];exact⟨_,I',q⟩)
theorem slice_bounds (lo hi:Option Int)(n:Nat):(sliceBounds lo hi none n).1=((HT.sIx n 0 lo:Nat):Int)/\(sliceBounds lo hi none n).2.1=((HT.sIx n n hi:Nat):Int)/\(sliceBounds lo hi none n).2.2=1:=by
 refine⟨?_,?_,rfl⟩
 ·cases lo with
  |none=>simp[sliceBounds,HT.sIx]
  |some i=>
   simp only[sliceBounds,HT.sIx,Option.getD_none,show(1:Int) > 0 by decide,if_true];by_cases h:i<0
   ·simp only[h,if_true]<;>lia
   ·simp only[h,jj]<;>lia
 ·cases hi with
  |none=>simp[sliceBounds,HT.sIx]
  |some i=>
   simp only[sliceBounds,HT.sIx,Option.getD_none,show(1:Int) > 0 by decide,if_true];by_cases h:i<0
   ·simp only[h,if_true]<;>lia
   ·simp only[h,jj]<;>lia
theorem slicePick_cut (its:Lv)(lo hi:Option Int):slicePick its.toArray lo hi none=((its.drop (HT.sIx its.length 0 lo)).take (HT.sIx its.length its.length hi-HT.sIx its.length 0 lo)).toArray:=by obtain⟨h1,h2,h3⟩:=slice_bounds lo hi its.toArray.size;unfold slicePick;rw[h1,h2,h3];simp only[sliceRange_one,pick_run,aw]<;>rfl
def rSlL (K:Fg):V->Option Int->Option Int->Hp->VK->Prop:=λx lo hi H Q=>∃a xs,x=.ref a/\SqL K H a xs/\∀p,H p=none->Q (.ref p) (upd H p (.lst (cutV xs lo hi)))
theorem sl_list:SlR X (rSlL X.K):=by intro pins s σ H x v vl vu lo hi sl Q I rx hs pl pu h;obtain⟨a,xs,rfl,hx,q⟩:=h;cases rx;obtain⟨its,r,ht,hz⟩:=I.list hx;have hlen:=r.length;refine⟨"list",_,slot_list_getitem.lookup,ht.isList.typeIs,?_⟩;refine wpAny_getItem_list_slice ht.isList hs pl pu .none (by simp) ?_ (by rw[aw]<;>lia);rw[slicePick_cut,<- hlen];refine⟨.ref s.heap.objs.size,_,I.laid (t':=s.toks) (o:=.lst (cutV xs lo hi)) (λb ob q=>ay _ q) (aq _) ?_,rfl,q _ (I.hok.fresh (aq _))⟩;exact⟨aJ (cutV_length xs lo hi) hz,_,0,(r.drop (HT.sIx xs.length 0 lo)).take (HT.sIx xs.length xs.length hi-HT.sIx xs.length 0 lo),bi _ rfl⟩
theorem call_len_seq:CallR X (.builtin "len") (λxs H Q=>∃p ys,xs=[.ref p]/\(SqL X.K H p ys\/SqT X.K H p ys)/\Q (.int ys.length) H):=by
 intro pins s σ H xs us Q I r h;obtain⟨p,ys,rfl,hq,q⟩:=h;obtain⟨u,rfl,rx⟩:=vals1 r;cases rx;have hn:=line63;rcases hq with hq|hq
 ·obtain⟨its,r',pl,hz⟩:=I.list hq;have hlen:=r'.length;exact Calls.call_len_list pl.isList (by simp only[aw]<;>lia) ⟨.int ys.length,H,I.tok _,⟨s.toks+1,by rw[aw,hlen]⟩,q⟩
 ·obtain⟨its,r',pl,hz⟩:=I.tuple hq;have hlen:=r'.length;exact len_tuple pl (by simp only[aw]<;>lia) ⟨.int ys.length,H,I.tok _,⟨s.toks+1,by rw[aw,hlen]⟩,q⟩
theorem call_list_of:CallR X (.type "list") (λxs H Q=>∃p ys,xs=[.ref p]/\(SqL X.K H p ys\/SqT X.K H p ys)/\∀l,H l=none->Q (.ref l) (upd H l (.lst ys))):=by
 intro pins s σ H xs us Q I r h;obtain⟨p,ys,rfl,hq,q⟩:=h;obtain⟨u,rfl,rx⟩:=vals1 r;cases rx;have fin:∀(its:List Value),Vals ys its->ys.length<=sizeLine->∀(h':Heap) (c':Nat),(∀b o',s.heap.get? b=some o' -> h'.get? b=some o') ->
   h'.get? s.heap.objs.size=some { cls:=.type "list",dict:=none,data:=.seq its.toArray c',slots:=#[] }->EP X pins σ Q (.ref s.heap.objs.size) { s with heap:=h' }:=λits r' hz h' c' kp e=>
  ⟨.ref s.heap.objs.size,_,I.laid (t':=s.toks) kp (aq _) (show ObjOk X.prog X.w _ h' _ (.lst ys) from⟨hz,its,c',r',e⟩),rfl,q _ (I.hok.fresh (aq _))⟩
 rcases hq with hq|hq
 ·obtain⟨its,r',pl,hz⟩:=I.list hq;have hlen:=r'.length;obtain⟨o,ho,hc,n,hd⟩:=pl.isList;exact call_list_seq p (.inl rfl) ho hc hd (λh' c' kp e=>fin its r' hz h' c' kp e) (by simp only[aw]<;>lia)
 ·obtain⟨its,r',pl,hz⟩:=I.tuple hq;have hlen:=r'.length;obtain⟨o,ho,hc,n,hd⟩:=pl;exact call_list_seq p (.inr rfl) ho hc hd (λh' c' kp e=>fin its r' hz h' c' kp e) (by simp only[aw]<;>lia)
def tyV (K:Fg)(T:String)(x:V)(H:Hp):Prop:=match x with
 | .str _=>T="str"
 | .int _=>T="int"
 | .ref p=>(T="list"/\∃xs,SqL K H p xs)\/(T="tuple"/\∃o,K.lookup p=some o/\o.cls=.type "tuple"/\o.dict=none) \/
   (T="dict"/\((∃kvs,H p=some (.dK kvs))\/∃kvs,H p=some (.dT kvs)))\/(T="set"/\∃S n,H p=some (.set S n))
 |_=>False
theorem tyV_is (I:Inv X pins σ H s)(r:RelV x v)(ty:tyV X.K T x H) :
  s.TypeIs v T/\∀a,v=.ref a->∃ob,s.heap.get? a=some ob/\ob.dict=none:=by
 cases x with
 |str z=>obtain⟨t,rfl⟩:=r;cases (show T="str" from ty);exact⟨typeIs_str s z t,λ_ e=>nomatch e⟩
 |int i=>obtain⟨t,rfl⟩:=r;cases (show T="int" from ty);exact⟨typeIs_int s i t,λ_ e=>nomatch e⟩
 |ref p=>
  cases r;rcases ty with⟨rfl,xs,hq⟩|⟨rfl,o,hk,hc,hd⟩|⟨rfl,hk⟩|⟨rfl,S,n,hk⟩
  ·obtain⟨its,_,pl,_⟩:=I.list hq;refine⟨pl.isList.typeIs,λa e=>?_⟩;cases e;obtain⟨o,n,e,c,hd,_⟩:=pl;exact⟨o,e,hd⟩
  ·refine⟨⟨o,I.kIn p o hk,hc⟩,λa e=>?_⟩;cases e;exact⟨o,I.kIn _ o hk,hd⟩
  ·have z:∃o,s.heap.get? p=some o/\o.ExactDict:=by
    rcases hk with⟨kvs,hk⟩|⟨kvs,hk⟩
    ·obtain⟨_,_,_,_,o,_,_,e,ex,_⟩:=I.hok p _ hk;exact⟨o,e,ex⟩
    ·obtain⟨_,_,_,_,o,_,_,e,ex,_⟩:=I.hok p _ hk;exact⟨o,e,ex⟩
   obtain⟨o,e,ex⟩:=z;refine⟨⟨o,e,ex.1⟩,λa e2=>?_⟩;cases e2;exact⟨o,e,ex.2.1⟩
  ·obtain⟨o,_,_,_,e,ex,_⟩:=I.hok p _ hk;refine⟨⟨o,e,ex.1⟩,λa e2=>?_⟩;cases e2;exact⟨o,e,ex.2.1⟩
 |_=>exact False.elim ty
def tBM0 (K:Fg)(T:String)(r:V->List V->Hp->VK->Prop)(to:TE):TE:=λσ H Q=>to σ H λx H1=>tyV K T x H1/\r x [] H1 Q
def tBM (K:Fg)(T:String)(r:V->List V->Hp->VK->Prop)(to:TE)(t:TA):TE:=λσ H Q=>to σ H λx H1=>tyV K T x H1/\t σ H1 λxs H2=>r x xs H2 Q
variable {o e:Expr}{es:List Expr}{to:TE}{t:TA}{name:Str}{apos cpos:Pos}{T id:String}{r:V->List V->Hp->VK->Prop}
theorem pe_bm0 (pa:PlainAttrs T)(slot:Slot T name id)(hty:typeOf (.builtin id)=pure (.type "method_descriptor"))(hm:MtR X id r)(ho:PE X o to)
  (hbase:attributeBase o name X.env (eval o X.env)=eval o X.env:=by rfl) (hline:(apos.endLine == cpos.line)=true:=by rfl):PE X (.Call (.Attribute o name apos) [] [] cpos) (tBM0 X.K T r to):=by
 intro pins s σ H Q I h;refine wpAny_Call_method0_late hbase hline (thn (ho pins s σ H _ I h) λv s1 ⟨x,H1,I1,r1,ty,q1⟩=>?_);obtain⟨h1,h2⟩:=tyV_is I1 r1 ty;exact⟨T,id,pa,slot,hty,h1,h2,Calls.callWith_builtin rfl (PySem.evalArgs_none (hm pins s1 σ H1 x [] v [] Q I1 r1 .nil q1))⟩
theorem pe_bm (pa:PlainAttrs T)(slot:Slot T name id)(hty:typeOf (.builtin id)=pure (.type "method_descriptor"))(hm:MtR X id r)(ho:PE X o to)(ha:PA X (e::es) t)
  (hbase:attributeBase o name X.env (eval o X.env)=eval o X.env:=by rfl)
  (hfew:((backTo cpos (starEach (e::es) X.env)).all (λx=>!x.1) && (backToKw cpos (keywordEach [] X.env)).all (λx=>x.1.isSome)
   && decide ((e::es).length+([]:List Keyword).length+(if ([]:List Keyword).isEmpty then 0 else 1)<30))=true:=by rfl)
  (hline:(apos.endLine == cpos.line)=true:=by rfl) (hs:starEach (e::es) X.env=(false,eval e X.env)::starEach es X.env:=by rfl) (hplain:(backTo cpos (starEach es X.env)).any (·.1)=false:=by rfl) :
  PE X (.Call (.Attribute o name apos) (e::es) [] cpos) (tBM X.K T r to t):=by
 intro pins s σ H Q I h;refine wpAny_Call_method_late hbase hfew hline rfl (thn (ho pins s σ H _ I h) λv s1 ⟨x,H1,I1,r1,ty,q1⟩=>?_);obtain⟨h1,h2⟩:=tyV_is I1 r1 ty;refine⟨T,id,pa,slot,hty,h1,h2,?_⟩;have hA:=ha cpos pins s1 σ H1 _ I1 q1;rw[hs]at hA ⊢;refine Calls.callWith_builtin (by show(false || (backTo cpos (starEach es X.env)).any (·.1))=false;rw[hplain]<;>rfl) (Calls.evalArgs_plain ?_);exact thn hA λus s2 ⟨vs,H2,I2,r2,q2⟩=>hm pins s2 σ H2 x vs v us Q I2 r1 r2 q2
end
def MtM (X:Cx)(id:String)(r:V->List V->Hp->VK->Prop):Prop:=
 ∀(pins:List (Addr×Obj)) (s:Shared) (σ:St) (H:Hp) (x:V) (xs:List V) (v:Value) (us:List Value) (Q:VK),Inv X pins σ H s->RelV x v->Vals xs us->r x xs H Q ->
  wpAny (model X.prog X.w) X.A (call (.builtin id) (v::us)) (EP X pins σ Q) X.xe s
theorem Vals.one:∀{x:V} {us:Lv},Vals [x] us->∃u,us=[u]/\RelV x u
 |_,_,.cons r .nil=>⟨_,rfl,r⟩
theorem Vals.zero:∀{us:Lv},Vals [] us->us=[]
 |_,.nil=>rfl
theorem Vals.dropLast (h:Vals xs us):Vals xs.dropLast us.dropLast:=by
 induction h with
 |nil=>exact .nil
 |cons r t ih=>
  cases t with
  |nil=>exact .nil
  |cons q t'=>exact .cons r ih
theorem Vals.rep (h:Vals xs us):∀k:Nat,Vals (List.replicate k xs).flatten (List.replicate k us).flatten
 |0=>.nil
 |k+1=>by rw[dj,dj,bT,bT];exact Vals.append h (Vals.rep h k)
theorem erase_last {α:Type}(l:List α):l.eraseIdx (l.length-1)=l.dropLast:=by
 induction l with
 |nil=>rfl
 |cons a r ih=>
  cases r with
  |nil=>rfl
  |cons b r=>
   have e:(a::b::r).length-1=((b::r).length-1)+1:=by have h1:(a::b::r).length=r.length+2:=rfl;have h2:(b::r).length=r.length+1:=rfl;lia
   rw[e,List.eraseIdx_cons_succ,ih]
   all_goals rfl
theorem foldl_rep (its:Lv):∀(k:Nat) (acc:Lv),
  List.foldl (λx1 x2=>x1++x2) acc.toArray (List.replicate k its.toArray)=(acc++(List.replicate k its).flatten).toArray
 |0,acc=>by simp
 |k+1,acc=>by
  have e:acc.toArray++its.toArray=(acc++its).toArray:=by simp
  have e2:(acc++its)++(List.replicate k its).flatten=acc++(List.replicate (k+1) its).flatten:=by rw[dj,bT,da]
  rw[<- e2,<- foldl_rep its k (acc++its),<- e,dj,List.foldl_cons]
section
variable {X:Cx}{pins:List (Addr×Obj)}{σ:St}{H:Hp}{s:Shared}{l b:Addr}{xs ys zs:List V}
theorem Inv.lset {its its':Lv}{n:Nat}{f:Array Value->Array Value}{t':Nat}(I:Inv X pins σ H s)(hH:H l=some (.lst xs))
  (e:s.heap.get? l=some { cls:=.type "list",data:=.seq its.toArray n }) (hf:f its.toArray=its'.toArray) (hv:Vals ys its') (hz:ys.length<=sizeLine) :
  Inv X pins σ (upd H l (.lst ys)) { s with heap:=s.heap.update l (Obj.mapSeq f),toks:=t' }:=by
 have q:=PySem.IsL.update e f;rw[hf]at q;refine I.write (x:=l) (e:=l) (by rw[hH];exact trivial) (.inl rfl) (λb' u hb hu=>(bN s.heap (Obj.mapSeq f) (ck hb)).trans hu) ⟨_,q⟩ ?_;exact⟨hz,its',_,hv,q⟩
theorem Inv.lnew (I:Inv X pins σ H s)(hv:Vals ys its)(hz:ys.length<=sizeLine) :
  Inv X pins σ (upd H s.heap.objs.size (.lst ys)) { s with heap:=s.heap.push { cls:=.type "list",data:=.seq its.toArray },toks:=t' } :=
 I.laid (λ_ _ q=>ay _ q) (aq _) ⟨hz,its,0,hv,bi _ rfl⟩
theorem Inv.fresh (I:Inv X pins σ H s):H s.heap.objs.size=none:=I.hok.fresh (aq _)
theorem Inv.lstM (I:Inv X pins σ H s)(hH:H l=some (.lst xs)):xs.length<=sizeLine/\∃(its:Lv) (n:Nat),Vals xs its/\xs.length=its.length/\s.heap.get? l=some { cls:=.type "list",data:=.seq its.toArray n }:=by obtain⟨z,its,n,r,e⟩:=I.hok l _ hH;exact⟨z,its,n,r,r.length,e⟩
theorem notLongL (h:n<=sizeLine):Builtin.List.listTooLong n=false:=by unfold Builtin.List.listTooLong;exact aN (by lia)
end
section
variable {X:Cx}
def rAppend:V->List V->Hp->VK->Prop:=λx vs H Q=>∃l xs y,x=.ref l/\vs=[y]/\H l=some (.lst xs)/\xs.length<sizeLine/\Q .non (upd H l (.lst (xs++[y])))
theorem mt_append:MtM X "list.append" rAppend:=by intro pins s σ H x vs v us Q I rx rv h;obtain⟨l,xs,y,rfl,rfl,hH,hz,q⟩:=h;cases rx;obtain⟨u,rfl,ru⟩:=rv.one;obtain⟨z,its,n,r,hl,e⟩:=I.lstM hH;refine i6 F.slot_list_append ⟨_,e,rfl⟩ F.entry_list_append (F.args_list_append_2 _ _) (PySem.list_append l its.toArray n u (by rw[aw];lia)) ⟨e,?_⟩;refine⟨.non,_,I.lset (its':=its++[u]) hH e (by simp) (r.append (.cons ru .nil)) ?_,rfl,q⟩;rw[ai,bZ];lia
def rPop:V->List V->Hp->VK->Prop:=λx vs H Q=>∃l xs y,x=.ref l/\vs=[]/\H l=some (.lst xs)/\xs[xs.length-1]?=some y/\Q y (upd H l (.lst xs.dropLast))
theorem mt_pop:MtM X "list.pop" rPop:=by
 intro pins s σ H x vs v us Q I rx rv h;obtain⟨l,xs,y,rfl,rfl,hH,hy,q⟩:=h;cases rx;have hus:=rv.zero;subst hus;obtain⟨z,its,n,r,hl,e⟩:=I.lstM hH;obtain⟨u,hu,ru⟩:=r.get hy;have hy':its.toArray[its.toArray.size-1]?=some u:=by show its.toArray[its.length-1]?=some u;rw[<- Array.getElem?_toList,<- hl];exact hu
 refine i6 F.slot_list_pop ⟨_,e,rfl⟩ F.entry_list_pop (F.args_list_pop_1 _) (MeetsSeq.list_pop_last l its.toArray n u hy' (by rw[aw];lia)) ⟨e,?_⟩;refine⟨y,_,I.lset (its':=its.dropLast) hH e ?_ r.dropLast ?_,ru,q⟩
 ·show its.toArray.eraseIdxIfInBounds (its.toArray.size-1)=its.dropLast.toArray;rw[aw,List.eraseIdxIfInBounds_toArray,erase_last]
 ·rw[fO];lia
def rRep:R2:=λx y H Q=>∃l k xs,x=.ref l/\y=.int k/\H l=some (.lst xs) /\ -(2^63)<=k/\k<2^63/\xs.length*k.toNat<=sizeLine /\
 ∀p,H p=none->Q (.ref p) (upd H p (.lst (List.replicate k.toNat xs).flatten))
theorem len_rep {α:Type}(xs:List α)(k:Nat):(List.replicate k xs).flatten.length=k*xs.length:=by
 induction k with
 |zero=>simp
 |succ k ih=>rw[dj,bT,ai,ih,gv,ia]
theorem op_rep:OpR X (binaryOp .Mult) rRep:=by
 intro pins s σ H x y v u Q I rx ry h;obtain⟨l,k,xs,rfl,rfl,hH,h1,h2,hz,q⟩:=h;cases rx;obtain⟨t,rfl⟩:=ry;obtain⟨z,its,n,r,hl,e⟩:=I.lstM hH;have hlen:its.toArray.size*k.toNat<=sizeLine:=by rw[aw,<- hl];exact hz
 have hcap:¬its.toArray.size*k.toNat > (2^63-1) / 8:=by
  have:(sizeLine:Nat)<=(2^63-1) / 8:=by decide
  lia
 have hfit:¬(!Builtin.List.listFitsIndex k)=true:=by rw[fitsIndex_both h1 h2];exact bc
 have hlong:¬Builtin.List.listTooLong (its.toArray.size*k.toNat)=true:=by rw[notLongL hlen];exact bc
 have hnew:List.foldl (λx1 x2=>x1++x2) #[] (List.replicate (if its.toArray.isEmpty=true then 0 else k.toNat) its.toArray)=(List.replicate k.toNat its).flatten.toArray:=by
  have f0:∀m:Nat,List.foldl (λx1 x2=>x1++x2) #[] (List.replicate m its.toArray)=(List.replicate m its).flatten.toArray:=λm=>by have:=foldl_rep its m [];rw[List.nil_append]at this;exact this
  rw[f0];cases its with
  |nil=>simp
  |cons a r'=>rw[ag (by simp)]
 refine wpAny_binaryOp_repeat_ref (T:="list") (U:="int") (by decide) ⟨_,e,rfl⟩ (λs'=>typeIs_int s' k t) noFill_list_mul F.fills_int_mul F.slot_int_rmul repeat_list F.slot_int_index.lookup
  (i6 F.slot_int_rmul (typeIs_int s k t) F.entry_int_rmul (F.args_int_rmul_2 _ _) (int___rmul___int_list k t l its.toArray n)
   ⟨e,rfl,⟨_,e,rfl⟩,i6 F.slot_list_mul ⟨_,e,rfl⟩ F.entry_list_mul (F.args_list_mul_2 _ _) (AutoListH.list___mul___list_int_3 l its.toArray n k t hfit hcap hlong) ⟨e,?_⟩⟩)
 rw[hnew];exact⟨.ref _,_,I.lnew (t':=s.toks) (r.rep k.toNat) (by rw[len_rep,c8];exact hz),rfl,q _ I.fresh⟩
end
end L2
namespace Att
open PySem PySem.W PySem.Calls PyProof.Rows
theorem ints_of_wellAll:∀(ns:Li) (vs:Lv),WellAll P h vs (ns.map WData.int)->IntsAre vs ns:=by
 intro ns
 induction ns with
 |nil=>intro vs w;rw[dY]at w;cases w;exact .nil
 |cons n ns ih=>
  intro vs w;rw[bM]at w;cases w with
  |cons a b=>cases a;exact .cons _ _ (ih _ b)
theorem script_of {l:OpenLaw}{n:Nat}(hn:l.most=some n){P:Params}{args:List WData}
  (hpre:l.row.toRowW.claim.pre args=true) (hwl:WellAll P h vals args) :
  ∃a vs ns,vals=[Value.ref a]/\args=[WData.list (ns.map WData.int)]/\h.get? a=some { cls:=.type "list",data:=.seq vs.toArray }/\IntsAre vs ns/\ns.length<=n:=by
 have hsh:WShape.hasAll [] args [.list .int]=true:=(pre_splitW hpre).1;have hc:l.pre.holds [] { args:=args }=true:=(pre_splitW hpre).2;obtain⟨d,r,rfl,h1,h2⟩:=hasAllW_cons hsh;obtain rfl:=hasAllW_nil h2;obtain⟨xs,rfl,h3⟩:=hasW_list h1;obtain⟨ns,rfl⟩:=items_int h3;have hlen:ns.length<=n:=by
  unfold OpenLaw.pre at hc;have h4:(WTm.not (.lt (.lit (.int (n:Int))) (.len (.arg 0)))).holds [] { args:=[.list (ns.map .int)] }=true:=by have h4:=(holds_andW hc).1;rw[hn]at h4;exact h4
  have h5:=condW_of h4 (w_not (w_lt w_lit (w_len_list (w_arg rfl))));rw[aa]at h5;refine dN λq=>?_;have q':(n:Int)<((ns.length:Nat):Int):=by lia
  first
   |(rw[aK q']at h5;exact absurd h5 (by decide))
   |(simp at h5;lia)
 cases hwl with
 |cons w1 w2=>
  cases w2;cases w1 with
  |list ho hall=>exact⟨_,_,ns,rfl,rfl,ho,ints_of_wellAll ns _ hall,hlen⟩
theorem post_true (l:OpenLaw)(args:List WData):l.row.toRowW.claim.post args (.bool true) args=true:=
 postW_of (r:=l.row.toRowW) (X:=(true == true))
  (show WShape.has [] (.bool true) .bool=true by first|rfl|decide|simp[WShape.has,WShape.arms,WShape.armsAll])
  (show(WTm.eq .res (.lit (.bool true))).value [] { args:=args,res:=some (.bool true),after:=args }=some (.bool (true == true)) from w_eq_bool (w_res rfl) w_lit) rfl
section
variable {prog:Program}{w:World}{A:Around}{E:Value->Shared->Prop}{s:Shared}{K:Frag}
def ledger (h:Heap)(L d:Addr):List (Addr×Obj):=(List.range h.objs.size).filterMap λa=>if a=L\/a=d then none else(h.get? a).map λo=>(a,o)
end
end Att
namespace L2
open PySem PySem.Spec PyProof.Rows
theorem vals_ints:∀{vs:Lv} {ns:Li},IntsAre vs ns->Vals (ns.map V.int) vs
 |_,_,.nil=>.nil
 |_,_,.cons n t h=>.cons ⟨t,rfl⟩ (vals_ints h)
def qN (K:Fg):Hp:=λb=>match (n8 K).find? λx=>x.2.1 == b with
 |some x=>some (.tbl ⟨x.2.2,#[]⟩)
 |none=>none
theorem rO {K:Fg}{b:Addr}{o:HO}(h:qN K b=some o):∃x∈n8 K,x.2.1=b/\o=.tbl ⟨x.2.2,#[]⟩:=by
 unfold qN at h;split at h
 ·rename_i x e;exact⟨x,eJ e,by simpa using ib e,(aI h).symm⟩
 ·cases h
structure Ju (K:Fg)(h:Heap):Prop where
 e:∀x∈n8 K,h.get? x.2.1=some (W.tabObj #[])
 n:∀x∈n8 K,K.lookup x.2.1=none
 u:∀x∈n8 K,∀y∈n8 K,x.2.1=y.2.1->x.2.2=y.2.2
theorem Dj {K:Fg}{x:Addr×Addr×Str}(h:x∈n8 K):W.codeHdIn K x.1 x.2.1=true:=by
 obtain⟨y,_,e⟩:=cI.mp h
 repeat' split at e
 all_goals first
  |(cases e;assumption)
  |cases e
theorem Hv {K:Fg}{h:Heap}(L:Ju K h){x:Addr×Addr×Str}(hx:x∈n8 K):qN K x.2.1=some (.tbl ⟨x.2.2,#[]⟩):=by
 unfold qN;split
 ·rename_i y e;have e1:y.2.1=x.2.1:=by simpa using ib e
  rw[L.u y (eJ e) x hx e1]
 ·rename_i e;have:=List.find?_eq_none.mp e x hx;simp at this
theorem law_call {P:Program}{w:World}{K:Fg}{mg mb:Mg}{CX:CXT}{k:Nat}{fa a:Addr}{fd:FuncData}{x:Str}{sp:Sp}{s₁:Shared}{vs:Lv}{ns:Li}
  (KX:K.In s₁.heap) (hns:s₁.heap.Ns mainGlobals mg) (hb:s₁.heap.Ns builtinsNs mb) (hbb:∀x:Str,x≠"__name__"->mb x=bootBuiltins x) (hlim:s₁.heap.NoLimit) (hg:s₁.gens = #[])
  (ha:s₁.heap.get? a=some { cls:=.type "list",data:=.seq vs.toArray }) (hi:IntsAre vs ns) (hl:ns.length<=sizeLine) (hr:Room k callerA) (LO:Ju K s₁.heap) (BM:aaw mg s₁.heap)
  (F:∀base:Heap,K.In base->base.Ns mainGlobals mg->FnOk P w K mg base CX k fa fd [x] sp) (hbind:∀(s:Shared) (u:Value),BindsTo s fd ⟨[u],[]⟩ [(x,u)])
  (hsp:∀H:Hp,SqL K H a (ns.map V.int)->sp [.ref a] H (λv _=>v=.bl true) λ_ _ _=>False)
  (hCX:∀H e s',CX [] H s₁ (λ_ _ _=>False) e s' -> False) :
  codeAny (model P w) callerA (.call (.ref fa) ⟨[.ref a],[]⟩) (λr s'=>r=.ok (.ret (.bool true))/\OldK s₁.heap s'.heap/\s'.os=s₁.os/\AllBare s'.gens) s₁:=by
 have rv:=vals_ints hi;have lenV:=hi.length;have nat:∀{b:Addr} {o:HO},qN K b=some o->b≠a:=λ{b o} h z=>by obtain⟨x,hx,e,_⟩:=rO h;have:=LO.e x hx;rw[e,z,ha]at this;cases this
 have core:∀H:Hp,(∀b,b≠a->H b=qN K b)->SqL K H a (ns.map V.int)->HOk P w H s₁.heap->(H a≠none->K.lookup a=none/\∃o xs,H a=some (.frz o (.lst xs))) ->
   codeAny (model P w) callerA (.call (.ref fa) ⟨[.ref a],[]⟩) (λr s'=>r=.ok (.ret (.bool true))/\OldK s₁.heap s'.heap/\s'.os=s₁.os/\AllBare s'.gens) s₁:=by
  intro H hT hS hok hK;have base_of:∀{b:Addr} {o:Obj},s₁.heap.get? b=some o->H b=none->(hidT s₁.heap H).get? b=some o:=λe n=>hidT_get e n;have noA:∀{b:Addr} {o:Obj} {es:Array DictEntry} {ep:Nat},s₁.heap.get? b=some o->o.data=.dict es ep->H b=none:=λ{b o es ep} e d=>by
   by_cases hba:b=a
   ·subst hba;rw[ha]at e;cases e;have d':Data.seq vs.toArray _=Data.dict es ep:=d;cases d'
   ·rw[hT b hba];cases q:qN K b with
    |none=>rfl
    |some u=>obtain⟨x,hx,e1,_⟩:=rO q;have:=LO.e x hx;rw[e1,e]at this;cases this;cases d
  have noB:∀{b:Addr} {o:Obj},s₁.heap.get? b=some o->o.cls=.type "module"->H b=none:=λ{b o} e d=>by
   by_cases hba:b=a
   ·subst hba;rw[ha]at e;cases e;injection d with z;exact absurd z (by decide)
   ·rw[hT b hba];cases q:qN K b with
    |none=>rfl
    |some u=>obtain⟨x,hx,e1,_⟩:=rO q;have:=LO.e x hx;rw[e1,e]at this;cases this;cases d
  have nsK:∀{b:Addr} {m:Mg},s₁.heap.Ns b m->(hidT s₁.heap H).Ns b m:=λ{b m} ⟨o,es,ep,e,d,r⟩=>⟨o,es,ep,base_of e (noA e d),d,r⟩;have hKb:K.In (hidT s₁.heap H):=λb o e=>base_of (KX b o e) (by
   by_cases hba:b=a
   ·subst hba;cases q:H b with
    |none=>rfl
    |some u=>rw[(hK (by rw[q];simp)).1]at e;cases e
   ·rw[hT b hba];cases q:qN K b with
    |none=>rfl
    |some u=>
     obtain⟨x,hx,e1,_⟩:=rO q;have:=LO.n x hx;rw[e1,e]at this;cases this)
  have hM:Mod K mg (hidT s₁.heap H):=⟨hKb,nsK hns,⟨mb,nsK hb,hbb⟩,let ⟨mc,h1,h2⟩:=hlim;⟨mc,nsK h1,h2⟩,let ⟨bm,ob,b1,b2,b3,b4,b5⟩:=BM;⟨bm,ob,b1,b2,base_of b3 (noB b3 b4),b4,b5⟩⟩
  have e0:Env0 P w K mg (hidT s₁.heap H) callerA [] s₁ H:=⟨rfl,hM,λb o e=>of_hidT e,ja (hidT_size _ _),trivial,⟨λb hb=>absurd (show b∈([]:List Addr) from hb) (by simp),λx hx=>⟨#[],by rw[hT _ (nat (Hv LO hx))];exact Hv LO hx⟩⟩,hok,.of_eq hg⟩;refine gu ((F _ hKb (nsK hns)).run callerA [] s₁ H ⟨[.ref a],[]⟩ [.ref a] [.ref a] _ _ hr e0 (hbind s₁ (.ref a)) (.cons rfl .nil) (hsp H hS)) λr s' h=>?_;cases r with
  |error e=>exact(hCX H e s' h).elim
  |ok fl=>
   cases fl with
   |next=>exact False.elim h
   |brk=>exact False.elim h
   |cont=>exact False.elim h
   |ret u=>
    obtain⟨v,H',os,bare,un,hok',r',q⟩:=h;have q':v=.bl true:=q;subst q';obtain rfl:u=Value.bool true:=r';have all:∀b o,s₁.heap.get? b=some o->s'.heap.get? b=some o\/∃x∈n8 K,x.2.1=b/\o=W.tabObj #[]/\∃more,s'.heap.get? b=some (W.tabObj (#[]++more)):=λb o e=>by
     by_cases hba:b=a
     ·subst hba;cases q:H b with
      |none=>exact .inl (un.keep b o e q (by intro z;exact absurd (show b∈([]:List Addr) from z) (by simp)) (by simp))
      |some u=>obtain⟨_,ob,xs,z⟩:=hK (by rw[q];simp);have z2:=un.frzs b ob _ z;obtain⟨e1,_⟩:=hok b _ z;obtain⟨e2,_⟩:=hok' b _ z2;rw[e]at e1;cases e1;exact .inl e2
     ·cases q:qN K b with
      |none=>exact .inl (un.keep b o e (by rw[hT b hba];exact q) (by intro z;exact absurd (show b∈([]:List Addr) from z) (by simp)) (by simp))
      |some u=>obtain⟨x,hx,e1,rfl⟩:=rO q;obtain⟨more,e2⟩:=un.tbls b _ (by rw[hT b hba];exact q);obtain⟨e3,_⟩:=hok' b _ e2;have e4:=LO.e x hx;rw[e1,e]at e4;exact .inr ⟨x,hx,e1,aI e4,more,e3⟩
    refine⟨rfl,⟨λb o e=>?_,λb o e=>?_⟩,os,bare⟩
    ·rcases all b o e with z|⟨x,hx,e1,rfl,more,e2⟩
     ·exact .inl z
     ·have C:W.CodeHd s₁.heap x.1 x.2.1:=iN KX (Dj hx);exact .inr (.inl ⟨e1 ▸ (C.tab (LO.e x hx)).isCodeTable,rfl,#[],more,rfl,e2⟩)
    ·rcases all b o e with z|⟨x,hx,e1,rfl,more,e2⟩
     ·exact⟨_,z⟩
     ·exact⟨_,e2⟩
 have tabOk:∀(H:Hp) b u,qN K b=some u->ObjOk P w H s₁.heap b u:=λH b u q=>by obtain⟨x,hx,e1,rfl⟩:=rO q;have e4:=LO.e x hx;rw[e1]at e4;exact⟨e4,trivial,λp cv hc=>by cases hc⟩
 cases hk:K.lookup a with
 |some o=>
  have e:=KX a o hk;rw[ha]at e;cases e;refine core (qN K) (λ_ _=>rfl) (.inr ⟨_,vs.toArray,_,hk,rfl,rfl,rfl,by rw[aw,lenV];exact hl,by simpa using rv⟩) (λb u z=>tabOk _ b u z) λz=>?_;cases q:qN K a with
  |none=>exact absurd q z
  |some u=>exact absurd rfl (nat q)
 |none=>
  refine core (λb=>if b=a then some (.frz { cls:=.type "list",data:=.seq vs.toArray } (.lst (ns.map V.int))) else qN K b) (λb hb=>ag hb) (.inl (.inr ⟨{ cls:=.type "list",data:=.seq vs.toArray },ah rfl⟩)) (λb u z=>?_) λ_=>⟨hk,_,_,ah rfl⟩;by_cases hb:b=a
  ·have z':=(ah hb).symm.trans z;cases z';subst hb;exact⟨ha,by rw[aa];exact hl,vs,_,rv,ha⟩
  ·exact tabOk _ b u ((ag hb).symm.trans z)
abbrev KOf {K:Fg}{h:Heap}(_:K.In h):Fg:=K
def inClass (s:Stmt)(j:Nat):Stmt:=match s with
 | .ClassDef _ _ _ body _ _ _ _ _ _ _=>body.getD j (.Pass ⟨0,0,0,0⟩)
 |_=>.Pass ⟨0,0,0,0⟩
def defArgs (s:Stmt):Arguments:=match s with
 | .FunctionDef _ a _ _ _ _ _ _ _ _=>a
 |_=>{ posonlyargs:=[],args:=[],vararg:=none,kwonlyargs:=[],kw_defaults:=[],kwarg:=none,defaults:=[] }
def defBody (s:Stmt):List Stmt:=match s with
 | .FunctionDef _ _ b _ _ _ _ _ _ _=>b
 |_=>[]
def defScope (s:Stmt):Scope:=match s with
 | .FunctionDef _ _ _ _ _ _ sc _ _ _=>sc
 |_=>{ kind:=.function,names:=[],isGenerator:=false,isCoroutine:=false }
abbrev CX0:CXT:=λ_ _ _ _ _ _=>False
abbrev E0:XK:=λ_ _ _=>False
theorem pass0:Passes CX0 X E0:=λ_ _ _ _ _ _ _ h=>h.elim
structure Fun (K:Fg)(x qual:Str)(st:Stmt)(f:Addr)(fd:FuncData):Prop where
 ex:∃(oc:Value) (od:Option Addr) (kV doc pm:Value) (an:Option Addr) (cdv ct:Value) (osl:Array (Option Value)),
  fd=W.fnOf x qual (defArgs st) (defBody st) (defScope st) .none kV doc pm an cdv ct/\K.lookup f=some ⟨oc,od,.func fd,osl⟩/\W.codeIn K cdv qual=true
 kp:W.keepIn K (.ref f)=true
section
variable {P:Program}{w:World}{K:Fg}{mg:Mg}{base:Heap}
theorem Fun.ok {x qual:Str}{st:Stmt}{f:Addr}{fd:FuncData}{N ps:Ls}{k:Nat}{sp:Sp}(F:Fun K x qual st f fd)(S:FnScope N ps (defScope st))(len:∀vs H Q E,sp vs H Q E->vs.length=ps.length)
  (hbody:∀(cdv:Value) (A:Around) (outer:List Env) (s:Shared) (H:Hp) (vs:List V) (Q:VK) (E:XK),Room k (A.deeper (envOfC qual (defScope st) s.heap.objs.size f cdv))->sp vs H Q E ->
   ∃t,PSs (cxOf CX0 P w K mg base N qual (defScope st) f cdv A outer s H E).nox (defBody st) t/\t { nx:=λ_ H'=>Q .non H',rt:=Q } (start N vs) H):FnOk P w K mg base CX0 (k+1) f fd ps sp:=by
 obtain⟨oc,od,kV,doc,pm,an,cdv,ct,osl,rfl,lk,hcd⟩:=F.ex;refine fn_of lk hcd S len λA outer s H vs Q E hr hsp=>?_;obtain⟨t,h,q⟩:=hbody cdv A outer s H vs Q E hr hsp;exact⟨t,h.nox,q⟩
theorem Fun.binds {x qual:Str}{st:Stmt}{f:Addr}{fd:FuncData}{ps:Ls}(F:Fun K x qual st f fd)
  (h:∀(kV doc pm:Value) (an:Option Addr) (cdv ct:Value) (us:List Value),us.length=ps.length->bindArgs (W.fnOf x qual (defArgs st) (defBody st) (defScope st) .none kV doc pm an cdv ct) ⟨us,[]⟩=pure (ps.zip us)):Binds K fd ps []:=by
 obtain⟨oc,od,kV,doc,pm,an,cdv,ct,osl,rfl,lk,hcd⟩:=F.ex;exact .all (h kV doc pm an cdv ct)
theorem fun_mk {x qual:Str}{st:Stmt}{f:Addr}{oc:Value}{od an:Option Addr}{osl:Array (Option Value)}{kV doc pm cdv ct:Value}(l:K.lookup f=some ⟨oc,od,.func (W.fnOf x qual (defArgs st) (defBody st) (defScope st) .none kV doc pm an cdv ct),osl⟩)
  (c:W.codeIn K cdv qual=true) (k:W.keepIn K (.ref f)=true):Fun K x qual st f (W.fnOf x qual (defArgs st) (defBody st) (defScope st) .none kV doc pm an cdv ct):=⟨⟨oc,od,kV,doc,pm,an,cdv,ct,osl,rfl,l,c⟩,k⟩
end
theorem small1000 (h:n<=1000):n<sizeLine:=aV h (by decide)
section
variable {X:Cx}
theorem pv (i:Nat)(hN:X.N[i]?=some x:=by rfl)(hv:Vis X.env.scope x:=by first|exact Or.inl rfl|exact Or.inr (Or.inl rfl)|exact Or.inr (Or.inr rfl))(hd:(x == ("__debug__":Str))=false:=by decide)
  (hcd:(x == ("__classdict__":Str))=false:=by decide):PE X (.Name x pos) (tVar i):=pe_var hN hv hd hcd
end
theorem iteF {A B:Prop}(h:B):if false=true then A else B:=by rw[ag bc];exact h
theorem iteT {A B:Prop}(h:A):if true=true then A else B:=by rw[ah rfl];exact h
def Nx (x:Option HO):HO->Prop
 | .tbl t=>∃ps,x=some (.tbl ⟨t.q,ps⟩)
 |o=>x=some o
def Same (H H':Hp):Prop:=∀b o,H b=some o->Nx (H' b) o
theorem Nx.of (h:x=some o):Nx x o:=by cases o<;>first|exact h|exact⟨_,h⟩
theorem Nx.some (h:Nx x o):∃u,x=some u:=by cases o<;>first|exact⟨_,h⟩|(obtain⟨ps,h⟩:=h;exact⟨_,h⟩)
theorem sy (h:∀b o,H b=some o->H' b=some o):Same H H':=λb o e=>.of (h b o e)
theorem Same.refl (H:Hp):Same H H:=sy λ_ _ h=>h
theorem Same.trans (a:Same H H1)(b:Same H1 H2):Same H H2:=λc o h=>by have q:=a c o h;cases o<;>first|exact b c _ q|(obtain⟨ps,q⟩:=q;have z:=b c _ q;exact z)
theorem Same.free (e:Same H H')(h:H' l=Option.none):H l=Option.none:=by
 cases q:H l with
 |none=>rfl
 |some o=>obtain⟨u,z⟩:=(e l o q).some;rw[z]at h;cases h
theorem Same.seq {K:Fg}{H H':Hp}{a:Addr}{xs:List V}(e:Same H H')(h:SqL K H a xs):SqL K H' a xs:=by
 rcases h with (h|⟨o,h⟩)|h
 ·exact .inl (.inl (e _ _ h))
 ·exact .inl (.inr ⟨o,e _ _ h⟩)
 ·exact .inr h
def gI (σ:St)(i:Nat):Int:=match σ[i]? with
 |some (some (.int n))=>n
 |_=>0
def hI (σ:St)(i:Nat):Prop:=σ[i]?=some (some (.int (gI σ i)))
def tN (C:St->Hp->Prop)(g:St->Int):TE:=λσ H Q=>C σ H/\Q (.int (g σ)) H
def tP (C:St->Hp->Prop)(p:St->Prop)[∀σ,Decidable (p σ)]:TT:=λσ H Q=>C σ H/\Q (decide (p σ)) H
def tV (C:St->Hp->Prop)(p:St->Prop)[∀σ,Decidable (p σ)]:TE:=λσ H Q=>C σ H/\Q (.bl (decide (p σ))) H
def tNs (C:St->Hp->Prop)(g:St->List Int):TA:=λσ H Q=>C σ H/\Q ((g σ).map V.int) H
section
variable {X:Cx}{a b:Expr}{pos:Pos}{Ca Cb:St->Hp->Prop}{ga gb:St->Int}
theorem mW (i:Nat)(hN:X.N[i]?=some x:=by rfl)(hv:Vis X.env.scope x:=by first|exact Or.inl rfl|exact Or.inr (Or.inl rfl)|exact Or.inr (Or.inr rfl))
  (hd:(x == ("__debug__":Str))=false:=by decide) (hcd:(x == ("__classdict__":Str))=false:=by decide):PE X (.Name x pos) (tN (λσ _=>hI σ i) (λσ=>gI σ i)):=
 λpins s σ H Q I h=>pe_var hN hv hd hcd pins s σ H Q I ⟨_,h.1,h.2⟩
theorem vM:PE X (.Constant (.int i) j pos) (tN (λ_ _=>True) (λ_=>i)):=λpins s σ H Q I h=>pe_int pins s σ H Q I h.2
theorem WR (hg:Gl X x)(hm:∃tk,X.mg x=some (.int i tk))(hd:(x == ("__debug__":Str))=false:=by decide):PE X (.Name x pos) (tN (λ_ _=>True) (λ_=>i)):=
 λpins s σ H Q I h=>let ⟨_,hm⟩:=hm;pe_glob hg hm (v:=.int i) ⟨_,rfl⟩ hd pins s σ H Q I h.2
theorem X8 {op:Operator}{C:Int->Int->Prop}{g:Int->Int->Int}(ho:OpR X (binaryOp op) (rI C λi j=>.int (g i j)))(ha:PE X a (tN Ca ga))(hb:PE X b (tN Cb gb)) :
  PE X (.BinOp a op b pos) (tN (λσ H=>Ca σ H/\Cb σ H/\C (ga σ) (gb σ)) (λσ=>g (ga σ) (gb σ))):=
 λpins s σ H Q I h=>pe_op ho ha hb pins s σ H Q I ⟨h.1.1,h.1.2.1,_,_,rfl,rfl,h.1.2.2,h.2⟩
theorem Zt {op:Operator}{g:Int->Int->Int}(ho:OpR X (binaryOp op) (rI0 λi j=>.int (g i j)))(ha:PE X a (tN Ca ga))(hb:PE X b (tN Cb gb)) :
  PE X (.BinOp a op b pos) (tN (λσ H=>Ca σ H/\Cb σ H) (λσ=>g (ga σ) (gb σ))):=
 λpins s σ H Q I h=>pe_op ho ha hb pins s σ H Q I ⟨h.1.1,h.1.2,_,_,rfl,rfl,h.2⟩
theorem GZ:OpR X (binaryOp .Mult) (rI IntMulOk λi j=>.int (i*j)):=opI λ_ _ _ _ _ _ _ hc q=>mul_int q hc
theorem T5:OpR X (inplaceOp .Mult) (rI IntMulOk λi j=>.int (i*j)):=opI λ_ _ _ _ _ _ _ hc q=>imul_int q hc
def Ui (_ j:Int):Prop:=0<j/\j.natAbs.log2<9000
theorem SX:OpR X (binaryOp .FloorDiv) (rI Ui λi j=>.int (i / j)):=opI λi j _ _ _ _ _ hc q=>by have h1:(0:Int)<j:=hc.1;exact floordiv_int (by lia) (by rw[f8 i (by lia)];exact q) (.inl (PyProof.noPylong_of_log2 hc.2))
theorem Ym (ha:PE X a (tN Ca ga))(hb:PE X b (tN Cb gb)):PE X (.BinOp a .Mult b pos) (tN (λσ H=>Ca σ H/\Cb σ H/\IntMulOk (ga σ) (gb σ)) (λσ=>ga σ*gb σ)):=X8 GZ ha hb
theorem YM (ha:PE X a (tN Ca ga))(hb:PE X b (tN Cb gb)):PE X (.BinOp a .Mod b pos) (tN (λσ H=>Ca σ H/\Cb σ H/\0<gb σ) (λσ=>ga σ % gb σ)):=X8 op_mod ha hb
theorem Zz (ha:PE X a (tN Ca ga)):PE X (.UnaryOp .USub a pos) (tN Ca (λσ=>-ga σ)):=
 λpins s σ H Q I h=>pe_un un_neg ha pins s σ H Q I ⟨h.1,_,rfl,h.2⟩
theorem zm {op:CmpOp}{p:Int->Int->Prop}[∀i j,Decidable (p i j)](ho:OpR X (compareOp op) (rI0 λi j=>.bl (decide (p i j))))(hm:behindInMarks op b=false)(ha:PE X a (tN Ca ga))(hb:PE X b (tN Cb gb)) :
  PT X (.Compare a [op] [b] pos) (tP (λσ H=>Ca σ H/\Cb σ H) (λσ=>p (ga σ) (gb σ))):=
 λpins s σ H Q I h=>pt_cmpR ho ha hb hm pins s σ H Q I ⟨h.1.1,h.1.2,_,_,rfl,rfl,_,rfl,h.2⟩
theorem JT:OpR X (compareOp .Eq) (rI0 λi j=>.bl (decide (i=j))):=λpins s σ H x y v u Q I rx ry h=>by obtain⟨i,j,rfl,rfl,q⟩:=h;refine op_eq pins s σ H _ _ v u Q I rx ry ⟨rfl,?_⟩;rw[dec_int,ie];exact q
theorem Zi:OpR X (compareOp .NotEq) (rI0 λi j=>.bl (decide (¬i=j))):=λpins s σ H x y v u Q I rx ry h=>by obtain⟨i,j,rfl,rfl,q⟩:=h;have q:Q (.bl (decide (¬i=j))) H:=q;rw[i7]at q;refine op_ne pins s σ H _ _ v u Q I rx ry ⟨rfl,?_⟩;rw[dec_int,ie];exact q
theorem QL (ha:PE X a (tN Ca ga))(hb:PE X b (tN Cb gb)):PT X (.Compare a [.Lt] [b] pos) (tP (λσ H=>Ca σ H/\Cb σ H) (λσ=>ga σ<gb σ)):=zm op_lt (nomark _) ha hb
theorem Zn (ha:PE X a (tN Ca ga))(hb:PE X b (tN Cb gb)):PT X (.Compare a [.LtE] [b] pos) (tP (λσ H=>Ca σ H/\Cb σ H) (λσ=>ga σ<=gb σ)):=zm op_le (nomark _) ha hb
theorem Ze (ha:PE X a (tN Ca ga))(hb:PE X b (tN Cb gb)):PT X (.Compare a [.Gt] [b] pos) (tP (λσ H=>Ca σ H/\Cb σ H) (λσ=>gb σ<ga σ)):=zm (p:=λi j=>j<i) op_gt (nomark _) ha hb
theorem YG (ha:PE X a (tN Ca ga))(hb:PE X b (tN Cb gb)):PT X (.Compare a [.Eq] [b] pos) (tP (λσ H=>Ca σ H/\Cb σ H) (λσ=>ga σ=gb σ)):=zm JT (nomark _) ha hb
variable {pa pb:St->Prop}[∀σ,Decidable (pa σ)][∀σ,Decidable (pb σ)]{rest:List Expr}
theorem VP (ha:PT X a (tP Ca pa)):PT X (.UnaryOp .Not a pos) (tP Ca (λσ=>¬pa σ)):=
 λpins s σ H Q I h=>pt_not ha pins s σ H Q I ⟨h.1,by have q:=h.2;rw[i7]at q;exact q⟩
theorem pw_or1P (ha:PT X a (tP Ca pa)):PW X (.BoolOp .Or [a] pos) (tP Ca pa):=pw_or1 ha
theorem pw_orP (ha:PT X a (tP Ca pa))(hb:PW X (.BoolOp .Or (b::rest) pos) (tP Cb pb)):PW X (.BoolOp .Or (a::b::rest) pos) (tP (λσ H=>Ca σ H/\(¬pa σ->Cb σ H)) (λσ=>pa σ\/pb σ)):=
 λwh pins s σ H Q I h=>pw_or ha hb wh pins s σ H Q I ⟨h.1.1,by
  have q:=h.2;by_cases c:pa σ
  ·rw[aK (Or.inl c:pa σ\/pb σ)]at q;rw[aK c];refine iteT ?_;exact q
  ·rw[aN c];refine iteF ?_;refine⟨h.1.2 c,?_⟩;have e:decide (pa σ\/pb σ)=decide (pb σ):=by simp[c]
   rw[e]at q;exact q⟩
theorem abJ (h:PE X e (tV Ca pa))(he:∀whole,isTrue e X.env whole=(do let v <- whole;standAt e.pos;holding [v] (truthy v)):=by intro _;rfl):PT X e (tP Ca pa):=
 λpins s σ H Q I q=>pt_val h he pins s σ H Q I ⟨q.1,_,rfl,q.2⟩
def abR (C:St->Hp->Prop)(p:St->Prop)(t u:TS):TS:=λD σ H=>C σ H/\(p σ->t D σ H)/\(¬p σ->u D σ H)
theorem Ey (hc:PT X c (tP Ca pa))(hx:PSs X x t)(hy:PSs X y u):PS X (.If c x y pos) (abR Ca pa t u):=
 λpins s σ H D I h=>ps_if hc hx hy pins s σ H D I ⟨h.1,by
  by_cases c:pa σ
  ·rw[aK c];refine iteT ?_;exact h.2.1 c
  ·rw[aN c];refine iteF ?_;exact h.2.2 c⟩
def aaY (i:Nat)(C:St->Hp->Prop)(g:St->Int):TS:=λD σ H=>C σ H/\∀n,n=g σ->D.nx (σ.set i (some (.int n))) H
theorem Wo (hN:X.N.Nodup)(hi:X.N[i]?=some x)(hx:Loc X.env.scope x)(he:PE X e (tN Ca ga))(hs:swapsWith e (some (.Name x pos')) pos.line X.env=pure false:=by rfl)
  (hf:X.fn x=true\/X.env.scope.names.lookup x=some .local:=by first|exact .inl rfl|exact .inr rfl|assumption):PS X (.Assign [.Name x pos'] e pos) (aaY i Ca ga):=
 λpins s σ H D I h=>ps_set hN hi hx he hs hf pins s σ H D I ⟨h.1,h.2 _ rfl⟩
def abe (i:Nat)(C:St->Hp->Prop)(g:St->Int)(P:Int->Int->Prop)(f:Int->Int->Int):TS:=λD σ H=>hI σ i/\C σ H/\P (gI σ i) (g σ)/\∀n,n=f (gI σ i) (g σ)->D.nx (σ.set i (some (.int n))) H
theorem Xk (hN:X.N.Nodup)(hi:X.N[i]?=some x)(hx:Loc X.env.scope x)(he:PE X e (tN Ca ga))(ho:OpR X (inplaceOp op) (rI P λi j=>.int (f i j)))
  (hf:X.fn x=true\/X.env.scope.names.lookup x=some .local:=by first|exact .inl rfl|exact .inr rfl|assumption):PS X (.AugAssign (.Name x pos') op e pos) (abe i Ca ga P f):=
 λpins s σ H D I h=>ps_aug hN hi hx he ho hf pins s σ H D I ⟨_,h.1,h.2.1,_,_,rfl,rfl,h.2.2.1,h.2.2.2 _ rfl⟩
theorem tU:OpR X (inplaceOp .Add) (rI (λ_ _=>True) λi j=>.int (i+j)):=λpins s σ H x y v u Q I rx ry h=>by obtain⟨i,j,e1,e2,_,q⟩:=h;exact iop_add pins s σ H x y v u Q I rx ry ⟨i,j,e1,e2,q⟩
def XF (C:St->Hp->Prop)(p:St->Prop)(tb:TS):TS:=λD σ H=>∃(W:St->Hp->Prop) (μ:St->Hp->Nat),W σ H /\
 ∀σ H,W σ H->C σ H/\(p σ->tb { D with nx:=λσ' H'=>W σ' H'/\μ σ' H'<μ σ H,ct:=λσ' H'=>W σ' H'/\μ σ' H'<μ σ H,bk:=D.nx } σ H)/\(¬p σ->D.nx σ H)
theorem PP (hp:PassesOwn (model X.prog X.w) X.A X.env X.xe)(hc:PT X c (tP Ca pa))(hb:PSs X body tb):PS X (.While c body [] pos) (XF Ca pa tb):=
 λpins s σ H D I h=>ps_while hp hc hb pins s σ H D I (by
  obtain⟨W,μ,w0,st⟩:=h;refine while_by W μ w0 (λσ H w=>?_) (λσ H Q Q' m q=>⟨q.1,m _ _ q.2⟩);obtain⟨c1,c2,c3⟩:=st σ H w;refine⟨c1,?_⟩;by_cases c:pa σ
  ·rw[aK c];refine iteT ?_;exact c2 c
  ·rw[aN c];refine iteF ?_;exact c3 c)
end
section
variable {X:Cx}{b:Expr}{es:List Expr}{pos p1:Pos}{Cb C:St->Hp->Prop}{gb:St->Int}
theorem zj {ns:Li}{i:Int}(h0:0<=i)(h1:i<(ns.length:Int)):atI (ns.map V.int) i=some (V.int (ns.getD i.toNat 0)):=by
 have e:i=((i.toNat:Nat):Int):=by lia
 have l:i.toNat<ns.length:=by lia
 have q:atI (ns.map V.int) ((i.toNat:Nat):Int)=some (V.int (ns.getD i.toNat 0)):=atI_nat (by rw[az,ac l,gQ,ac l];rfl);rw[<- e]at q;exact q
def aaL (K:Fg)(j:Nat)(C:St->Hp->Prop)(g:St->Int):TE:=λσ H Q=>C σ H/\∃(a:Addr) (ns:List Int) (n:Int),σ[j]?=some (some (.ref a))/\SqL K H a (ns.map V.int)/\atI (ns.map V.int) (g σ)=some (.int n)/\Q (.int n) H
theorem Xz (j:Nat)(hb:PE X b (tN C gb))(hs:PlainIx b)(hN:X.N[j]?=some x:=by rfl)(hv:Vis X.env.scope x:=by first|exact Or.inl rfl|exact Or.inr (Or.inl rfl)|exact Or.inr (Or.inr rfl))
  (hd:(x == ("__debug__":Str))=false:=by decide) (hcd:(x == ("__classdict__":Str))=false:=by decide):PE X (.Subscript (.Name x px) b pos) (aaL X.K j C gb):=by
 intro pins s σ H Q I h;obtain⟨c,a,ns,n,e1,e2,e3,q⟩:=h;exact pe_ix ix_list (pe_var hN hv hd hcd) hb hs pins s σ H Q I ⟨_,e1,c,a,_,_,_,rfl,rfl,e2,e3,q⟩
theorem Vv (j:Nat)(a:Addr)(ns:Li){x:Str}{px:Pos}(hb:PE X b (tN C gb))(hs:PlainIx b)(hN:X.N[j]?=some x:=by rfl)(hv:Vis X.env.scope x:=by first|exact Or.inl rfl|exact Or.inr (Or.inl rfl)|exact Or.inr (Or.inr rfl))
  (hd:(x == ("__debug__":Str))=false:=by decide) (hcd:(x == ("__classdict__":Str))=false:=by decide) :
  PE X (.Subscript (.Name x px) b pos) (tN (λσ H=>C σ H/\σ[j]?=some (some (.ref a))/\SqL X.K H a (ns.map V.int) /\ -(ns.length:Int)<=gb σ/\gb σ<(ns.length:Int)) (λσ=>ns.getD (if 0<=gb σ then gb σ else gb σ+ns.length).toNat 0)):=by
 intro pins s σ H Q I h;obtain⟨⟨c,e1,e2,b1,b2⟩,q⟩:=h;refine pe_ix ix_list (pe_var hN hv hd hcd) hb hs pins s σ H Q I ⟨_,e1,c,a,_,_,_,rfl,rfl,e2,?_,q⟩;show atI (ns.map V.int) (gb σ)=some (V.int (ns.getD (if 0<=gb σ then gb σ else gb σ+ns.length).toNat 0));by_cases c0:0<=gb σ
 ·rw[ah c0];exact zj c0 b2
 ·rw[ag c0];have q2:=zj (ns:=ns) (i:=gb σ+ns.length) (by lia) (by lia);unfold atI ixN at q2 ⊢;rw[aa]at q2 ⊢;rw[ah (show 0<=gb σ+(ns.length:Int) by lia),ah (show gb σ+(ns.length:Int)<(ns.length:Int) by lia)]at q2;rw[ag c0,ah b1];exact q2
theorem Z6 (j:Nat)(a:Addr)(xs:List V)(hm:X.mg "len"=none)(hN:X.N[j]?=some x:=by rfl)(hg:Gl X "len":=by rfl)(hv:Vis X.env.scope x:=by first|exact Or.inl rfl|exact Or.inr (Or.inl rfl)|exact Or.inr (Or.inr rfl))
  (hd:(x == ("__debug__":Str))=false:=by decide) (hcd:(x == ("__classdict__":Str))=false:=by decide) (he:starEach [.Name x px] X.env=[(false,eval (.Name x px) X.env)]:=by rfl) :
  PE X (.Call (.Name "len" p) [.Name x px] [] pos) (tN (λσ H=>σ[j]?=some (some (.ref a))/\SqL X.K H a xs) (λ_=>(xs.length:Int))):=by
 intro pins s σ H Q I h;exact pe_callB call_len_seq hg hm PySem.boot_len (pa_cons (pe_var hN hv hd hcd) pa_nil he) (by decide) (by decide) he rfl pins s σ H Q I ⟨_,h.1.1,a,_,rfl,.inl h.1.2,h.2⟩
end
section
variable {X:Cx}{e:Expr}{es:List Expr}{pos p:Pos}{Ca Cb:St->Hp->Prop}{ga:St->Int}{gs:St->List Int}
theorem Xw:PA X [] (tNs (λ_ _=>True) (λ_=>[])):=λpos pins s σ H Q I h=>pa_nil pos pins s σ H Q I h.2
theorem Ua (ha:PE X e (tN Ca ga))(hr:PA X es (tNs Cb gs))(hs:starEach (e::es) X.env=(false,eval e X.env)::starEach es X.env:=by rfl):PA X (e::es) (tNs (λσ H=>Ca σ H/\Cb σ H) (λσ=>ga σ::gs σ)):=
 λpos pins s σ H Q I h=>pa_cons ha hr hs pos pins s σ H Q I ⟨h.1.1,h.1.2,h.2⟩
end
def spB (n:Nat)(pre:List Int->Prop)(F:List Int->Bool):Sp:=λvs H Q _=>∃ns:List Int,ns.length=n/\vs=ns.map V.int/\pre ns/\Q (.bl (F ns)) H
structure Ok (P:Program)(w:World)(K:Fg)(mg:Mg)(base:Heap)(k:Nat)(x:Str)(ps:List Str)(sp:Sp):Prop where
 ex:∃f fd,FnOk P w K mg base CX0 k f fd ps sp/\Binds K fd ps []/\W.keepIn K (.ref f)=true/\mg x=some (.ref f)
theorem Ok.imp {P:Program}{w:World}{K:Fg}{mg:Mg}{base:Heap}{k:Nat}{x:Str}{ps:Ls}{sp sp':Sp}(o:Ok P w K mg base k x ps sp)(h:∀vs H Q E,sp' vs H Q E->sp vs H Q E):Ok P w K mg base k x ps sp':=by obtain⟨f,fd,a,b⟩:=o.ex;exact⟨f,fd,a.imp h,b⟩
section
variable {X:Cx}{e:Expr}{es:List Expr}{pos p:Pos}{j k:Nat}{x:Str}{ps:List Str}{sp:Sp}{t:TA}
theorem ud (o:Ok X.prog X.w X.K X.mg X.base j x ps sp)(hr:Room k X.A)(ha:PA X (e::es) t)(hj:j<=k:=by decide)(hg:Gl X x:=by rfl)(hdb:(x == ("__debug__":Str))=false:=by decide)
  (he:starEach (e::es) X.env=(false,eval e X.env)::starEach es X.env:=by rfl) (hpl:(backTo pos (starEach es X.env)).any (·.1)=false:=by rfl):PE X (.Call (.Name x p) (e::es) [] pos) (tCall sp [] E0 t):=by
 obtain⟨f,fd,F,b,kp,m⟩:=o.ex;exact pe_call (F.mono hj) hr hg m kp b .nil pass0 ha hdb he hpl
variable {C:St->Hp->Prop}{g:St->List Int}{n:Nat}{pre:List Int->Prop}
theorem VM (o:Ok X.prog X.w X.K X.mg X.base j x ps (spB n pre F))(hr:Room k X.A)(ha:PA X (e::es) (tNs C g))(hn:∀σ,(g σ).length=n:=by intro _;rfl)(hj:j<=k:=by decide)(hg:Gl X x:=by rfl)
  (hdb:(x == ("__debug__":Str))=false:=by decide) (he:starEach (e::es) X.env=(false,eval e X.env)::starEach es X.env:=by rfl) (hpl:(backTo pos (starEach es X.env)).any (·.1)=false:=by rfl) :
  PE X (.Call (.Name x p) (e::es) [] pos) (tV (λσ H=>C σ H/\pre (g σ)) (λσ=>F (g σ)=true)):=
 λpins s σ H Q I h=>ud o hr ha hj hg hdb he hpl pins s σ H Q I ⟨h.1.1,g σ,hn σ,by rw[bh],h.1.2,by have q:=h.2;rw[dI]at q;exact q⟩
end
structure nY (K:Fg)(mg:Mg)(x:Str)(st:Stmt)(ps:List Str):Prop where
 ex:∃f fd,Fun K x x st f fd/\Binds K fd ps []/\mg x=some (.ref f)
section
variable {P:Program}{w:World}{K:Fg}{mg:Mg}{base:Heap}
theorem nY.ok {x:Str}{st:Stmt}{N ps:Ls}{k:Nat}{sp:Sp}(d:nY K mg x st ps)(S:FnScope N ps (defScope st))(len:∀vs H Q E,sp vs H Q E->vs.length=ps.length)
  (hbody:∀(f:Addr) (cdv:Value) (A:Around) (outer:List Env) (s:Shared) (H:Hp) (vs:List V) (Q:VK) (E:XK),Room k (A.deeper (envOfC x (defScope st) s.heap.objs.size f cdv))->sp vs H Q E ->
   ∃t,PSs (cxOf CX0 P w K mg base N x (defScope st) f cdv A outer s H E).nox (defBody st) t/\t { nx:=λ_ H'=>Q .non H',rt:=Q } (start N vs) H):Ok P w K mg base (k+1) x ps sp:=by
 obtain⟨f,fd,F,b,m⟩:=d.ex;exact⟨f,fd,F.ok S len λcdv A outer s H vs Q E hr h=>hbody f cdv A outer s H vs Q E hr h,b,F.kp,m⟩
theorem nY.mk' {x:Str}{st:Stmt}{ps:Ls}{f:Addr}{fd:FuncData}(F:Fun K x x st f fd)(b:Binds K fd ps [])(m:mg x=some (.ref f)):nY K mg x st ps:=⟨f,fd,F,b,m⟩
end
theorem Y0:bootBuiltins "int"=some (.type "int"):=by decide +kernel
theorem Xn:bootBuiltins "bool"=some (.type "bool"):=by decide +kernel
theorem Ej:bootBuiltins "list"=some (.type "list"):=by decide +kernel
theorem JB:bootBuiltins "tuple"=some (.type "tuple"):=by decide +kernel
theorem BV:bootBuiltins "ValueError"=some (.type "ValueError"):=by decide +kernel
theorem Tw:bootBuiltins "len"=some (.builtin "len"):=by decide +kernel
theorem vd:bootBuiltins "isinstance"=some (.builtin "isinstance"):=by decide +kernel
def U7:V->Option Value
 | .ty n=>some (.type n)
 | .ref a=>some (.ref a)
 |_=>none
theorem Jv (h:U7 c=some cv)(r:RelV c u):u=cv:=by
 cases c with
 |ty n=>cases h;exact r
 |ref a=>cases h;exact r
 |non=>cases h
 |bl _=>cases h
 |int _=>cases h
 |str _=>cases h
 |byt _=>cases h
 |flt _=>cases h
section
variable {X:Cx}
theorem yx:CallR X (.builtin "isinstance") (λxs H Q=>∃x c t cv b,xs=[x,c]/\U7 c=some cv/\TyOf X.K H x t/\W.kitOne X.K t cv=some b/\Q (.bl b) H):=by intro pins s σ H xs us Q I r h;obtain⟨x,c,t,cv,b,rfl,hc,ty,e,q⟩:=h;obtain⟨u,w',rfl,r1,r2⟩:=vals2 r;obtain rfl:=Jv hc r2;exact isinst_ok I r1 ty e λtk=>⟨.bl b,H,I.tok tk,rfl,q⟩
end
theorem Z0 {ns:Li}(h:ns.length=1):∃a,ns=[a]:=match ns,h with | [a],_=>⟨a,rfl⟩
theorem aas {ns:Li}(h:ns.length=2):∃a b,ns=[a,b]:=match ns,h with | [a,b],_=>⟨a,b,rfl⟩
theorem same_new (h:H p=none)(o:HO):Same H (upd H p o):=sy λb u q=>by rw[upd_ne (ne_of_none q h)];exact q
theorem bits_le (h:k.natAbs<2^n):Builtin.Int.intBits k<=n:=by
  unfold Builtin.Int.intBits;split
  . exact bq _
  . have hk:k.natAbs≠0:=by
      rename_i c;intro z;apply c
      first | exact z | (have:k=0:=by omega
                         simp[this])|lia
    have:=(jh hk).mpr h;lia
theorem pU (ha:a.natAbs<2^n)(hb:b.natAbs<2^m)(hn:n<=1048576:=by decide)(hm:m<=1048576:=by decide):IntMulOk a b:=
 .of_bits (aJ (bits_le ha) (aJ hn (by decide))) (aJ (bits_le hb) (aJ hm (by decide)))
theorem uG (h:-(2^64)<b/\b<2^64):IntMulOk a b:=.of_right (intBits_le_64 h.1 h.2)
theorem wR (h:-(2^64)<a/\a<2^64):IntMulOk a b:=.of_left (intBits_le_64 h.1 h.2)
abbrev V7:Value->Shared->Prop:=λ_ _=>False
def CG (cs:List Expr)(ev:Env):Sem Bool:=forIn cs true λc r=>if r=true then do let ok <- isTrue c ev (eval c ev);pure (ForInStep.yield ok) else pure (ForInStep.yield r)
section
variable {P:Program}{w:World}{A:Around}{R:Result->Shared->Prop}{s:Shared}
theorem Qt (I:Nat->Shared->Prop)
  (turn:∀n s,I n s->wpAny (model P w) A (pyNext it) (λr s1=>(r=none/\R (.ok .next) s1)\/∃v,r=some v /\
   wpAny (model P w) A (letOwnedTupleGo tg it v) (λ_ s2=>wpAny (model P w) A (assign tg ev v) (λ_ s3=>wpAny (model P w) A (CG cs ev) (λok s4=>
    if ok=true then wpAny (model P w) A (eval el ev) (λx s5=>wpAny (model P w) A (call (.builtin "list.append") [acc,x]) (λ_ s6=>∃m,m<n/\I m s6) V7 s5) V7 s4
    else ∃m,m<n/\I m s4) V7 s3) V7 s2) V7 s1) V7 s)
  (n:Nat) (h:I n s):codeAny (model P w) A (.compLoop (.ListComp el [⟨tg,src,cs,0⟩] sc at') 0 it acc ev) R s:=by
 refine codeAny_loop rfl I (λn s hI=>?_) n h;refine wpAny_noted (wpAny_noRaise ?_);rw[compTurn_list];refine aB (wpAny_standAt (aB (thn (turn n s hI) λr s1 h1=>?_)));rcases h1 with⟨rfl,h1⟩|⟨v,rfl,h1⟩
 ·exact bI h1
 ·refine aB (thn h1 λ_ s2 h2=>aB (thn h2 λ_ s3 h3=>aB (thn h3 λok s4 h4=>?_)));cases ok with
  |false=>exact bI ⟨rfl,h4⟩
  |true=>exact aB (aB (thn h4 λx s5 h5=>aB (thn h5 λ_ s6 h6=>bI (bI ⟨rfl,h6⟩))))
end
def rJ (X:Cx)(sc:Scope)(cl:List (Str×Addr)):List Str->List (Option Nat)->Prop
 |[],[]=>True
 |_::xs,none::cs=>rJ X sc cl xs cs
 |x::xs,some i::cs=>(X.N[i]?=some x/\Vis X.env.scope x/\X.env.kindOf x≠some .local/\((relabel sc X.env).names.lookup x=some .cell\/(relabel sc X.env).names.lookup x=some .free)/\∃c,cl.lookup x=some c/\X.env.cells.lookup x=some c)/\rJ X sc cl xs cs
 |_,_=>False
def Kv (ev:Env):List (Str×Addr)->Prop
 |[]=>True
 |(x,c)::r=>ev.cells.lookup x=some c/\Kv ev r
theorem Kv.look:∀{cl:List (Str×Addr)},Kv ev cl->∀{x:Str} {c:Addr},cl.lookup x=some c->ev.cells.lookup x=some c
 |[],_,x,c,h=>by simp at h
 |(y,d)::r,q,x,c,h=>by
  rw[List.lookup_cons]at h;cases e:x == y with
  |true=>
   rw[e]at h;have e':x=y:=by simpa using e
   subst e';cases h;exact q.1
  |false=>rw[e]at h;exact Kv.look q.2 h
def pK (cap:List (Option Nat))(σ:St):St:=cap.map λo=>match o with
 |some i=>(σ[i]?).join
 |none=>none
def jK (X:Cx)(N':List Str)(sc:Scope)(cl:List (Str×Addr))(s:Shared)(H:Hp)(fp:List Addr):Cx:=
 { X with N:=N',s₀:=s,H₀:=H,env:=compEnvC sc cl s.heap.objs.size X.env,outer:=X.stack,ex:=fp,fn:=λ_=>false,pn:=[],xe:=V7 }
section
variable {X:Cx}{pins:List (Addr×Obj)}{σ:St}{H:Hp}{s:Shared}{N':List Str}{sc:Scope}{cl:List (Str×Addr)}{cap:List (Option Nat)}{fp:List Addr}
theorem rJ.length {X:Cx}{sc:Scope}{cl:List (Str×Addr)}:∀{N':Ls} {cap:List (Option Nat)},rJ X sc cl N' cap->cap.length=N'.length
 |[],[],_=>rfl
 |_::xs,none::cs,h=>by have:=rJ.length (X:=X) (sc:=sc) (cl:=cl) (N':=xs) (cap:=cs) h;simp[this]
 |_::xs,some i::cs,h=>by have:=rJ.length (X:=X) (sc:=sc) (cl:=cl) (N':=xs) (cap:=cs) h.2;simp[this]
 |[],_::_,h=>h.elim
 |_::_,[],h=>h.elim
theorem rJ.at:∀{N':Ls} {cap:List (Option Nat)} {j:Nat},rJ X sc cl N' cap->N'[j]?=some x->cap[j]?=some (some i) ->
  X.N[i]?=some x/\Vis X.env.scope x/\X.env.kindOf x≠some .local/\((relabel sc X.env).names.lookup x=some .cell\/(relabel sc X.env).names.lookup x=some .free)/\∃c,cl.lookup x=some c/\X.env.cells.lookup x=some c
 |[],[],j,_,h,_=>by simp at h
 |_::xs,none::cs,0,_,_,h=>by simp at h
 |_::xs,none::cs,j+1,q,h1,h2=>rJ.at (N':=xs) (cap:=cs) (j:=j) q (by simpa using h1) (by simpa using h2)
 |y::xs,some k::cs,0,q,h1,h2=>by
  have e1:y=x:=by simpa using h1
  have e2:k=i:=by simpa using h2
  subst e1 e2;exact q.1
 |_::xs,some _::cs,j+1,q,h1,h2=>rJ.at (N':=xs) (cap:=cs) (j:=j) q.2 (by simpa using h1) (by simpa using h2)
 |[],_::_,_,h,_,_=>h.elim
 |_::_,[],_,h,_,_=>h.elim
theorem Inv.block (I:Inv X pins σ H s)(hk:sc.kind=.function)(hcap:rJ X sc cl N' cap)(sub:Kv X.env cl)
  (has:∀x,((relabel sc X.env).names.lookup x=some .cell\/(relabel sc X.env).names.lookup x=some .free)->∃c,cl.lookup x=some c)
  (hf:∀b∈fp,FpOk X pins H b) (hfo:∀b∈fp,∃o,s.heap.get? b=some o) (hns:h'.Ns s.heap.objs.size m) (hsb:Heap.SameBut s.heap.objs.size (s.heap.push o) h') :
  Inv (jK X N' sc cl s H fp) [] (pK cap σ) H { s with heap:=h',toks:=tk }:=by
 have keep:∀b u,s.heap.get? b=some u->h'.get? b=some u:=λb u e=>
  (hsb.2 b (be (aA e))).trans (ay _ e)
 refine⟨⟨I.ok.mod,hk,I.ok.glob,I.ok.blt,aq _,λx y c h1 h2=>I.ok.inj x y c (sub.look h1) (sub.look h2),has,(λx c h _=>nomatch h),I.ok.hd,I.ok.frames,.inl rfl,
  λb hb=>⟨?_,λx c e=>(hf b hb).2.2.2.2.1 x c (sub.look e)⟩,I.bs,aJ I.ok.bsz I.sz,λb u e hb=>?_,λb hb hb'=>?_,I.stack,I.env0.frf⟩,
  rfl,I.bare,Un.kept keep,⟨m,hns,λj x v h1 h2 h3=>?_⟩,λx c e=>?_,I.hok.fresh (aq _),λx c e=>I.freeC x c (sub.look e),λp hp=>absurd (show p∈([]:List (Addr×Obj)) from hp) (by simp),I.hok.kept keep,?_⟩
 ·obtain⟨u,e⟩:=hfo b hb;exact be (aA e)
 ·rcases (hf b hb).2.2.2.1 with z|z
  ·exact I.ok.noex b u e z
  ·exact absurd (aD (aA e) (aJ I.ok.bsz z)) (c7 _)
 ·rcases aC.mp (I.stkSub b hb') with z|z
  ·exact(hf b hb).2.1 z
  ·exact(hf b hb).2.2.1 z
 ·obtain⟨m0,hn0,hl0⟩:=I.loc;have h2':((cap.map λo=>match o with|some i=>(σ[i]?).join|none=>none):St)[j]?=some (some v):=h2
  rw[az]at h2';cases e:cap[j]? with
  |none=>rw[e]at h2';cases h2'
  |some oi=>
   rw[e]at h2';cases oi with
   |none=>cases h2'
   |some i=>
    have h4:(σ[i]?).join=some v:=aI h2';have h5:σ[i]?=some (some v):=by
     cases z:σ[i]? with
     |none=>rw[z]at h4;cases h4
     |some y=>rw[z]at h4;cases h4;rfl
    obtain⟨a1,a2,a3,a4,c,a5,a6⟩:=hcap.at h1 e;obtain⟨u,r,l⟩:=hl0 i x v a1 h5 a2;refine⟨u,r,.inr ⟨a4,c,a5,?_⟩⟩;rcases l with⟨k,_⟩|⟨_,c',e',ic⟩
    ·exact absurd k a3
    ·rw[a6]at e';cases e';obtain⟨oc,h7,h8⟩:=ic;exact⟨oc,keep _ _ h7,h8⟩
 ·obtain⟨v,oc,h7,h8⟩:=I.cell x c (sub.look e);exact⟨v,oc,keep _ _ h7,h8⟩
 ·unfold pK;rw[aa];exact hcap.length
theorem Inv.V1 (I:Inv X pins σ H s)(hf:∀b∈fp,FpOk X pins H b)(J:Inv (jK X N' sc cl s H fp) pins' σ' H' s'):Inv X pins σ H' s':=
 I.call' (ch:=fp) J.os J.base J.hok J.bare λb hb=>⟨(hf b hb).2.2.2.1,(hf b hb).2.1,(hf b hb).2.2.2.2.1,(hf b hb).2.2.2.2.2⟩
end
def Cw:St->St->Prop
 |[],[]=>True
 |none::a,_::b=>Cw a b
 |some v::a,y::b=>y=some v/\Cw a b
 |_,_=>False
theorem Cw.at:∀{a b:St},Cw a b->∀(i:Nat) (v:V),a[i]?=some (some v)->b[i]?=some (some v)
 |[],[],_,i,v,h=>by simp at h
 |none::a,_::b,q,0,v,h=>by simp at h
 |none::a,_::b,q,i+1,v,h=>by have:=Cw.at (a:=a) (b:=b) q i v (by simpa using h);simpa using this
 |some u::a,y::b,q,0,v,h=>by
  have e:u=v:=by simpa using h
  rw[q.1,e];rfl
 |some u::a,y::b,q,i+1,v,h=>by have:=Cw.at (a:=a) (b:=b) q.2 i v (by simpa using h);simpa using this
 |[],_::_,q,_,_,_=>q.elim
 |none::_,[],q,_,_,_=>q.elim
 |some _::_,[],q,_,_,_=>q.elim
def PTs (X:Cx)(cs:List Expr)(t:TT):Prop:=
 ∀(pins:List (Addr×Obj)) (s:Shared) (σ:St) (H:Hp) (Q:Bool->Hp->Prop),Inv X pins σ H s->t σ H Q->wpAny (model X.prog X.w) X.A (CG cs X.env) (TP X pins σ Q) X.xe s
theorem p8:PTs X [] (λ_ H Q=>Q true H):=λ_ _ _ H _ I h=>wpAny_tests_nil ⟨H,I,h⟩
theorem Oo (h:PT X c t):PTs X [c] t:=λpins s σ H Q I q=>wpAny_tests_one (h pins s σ H Q I q)
def lcW (D:Addr)(J:It)(σ:St)(g:TG)(tt:TT)(te:TE)(Q:VK)(W:Nat->Nat->List V->Hp->Prop):Prop:=
 ∀i m ys H,W i m ys H->H D=some (.lst ys)/\ys.length<sizeLine /\
  ((J.stop i H/\Q (.ref D) H)\/(J.go i H/\∀x H',J.yld i H x H' -> g x σ H' λσ2 H2=>Cw σ σ2/\tt σ2 H2 λok H3=>
   if ok=true then te σ2 H3 λy H4=>H4 D=some (.lst ys)/\∃m',m'<m/\W (i+1) m' (ys++[y]) (upd H4 D (.lst (ys++[y])))
   else ∃m',m'<m/\W (i+1) m' ys H3))
def Ut (cap:List (Option Nat))(wi:TI)(g:TG)(tt:TT)(te:TE):TE:=λσ H Q=>wi σ H λJ H1=>∀D,H1 D=none->∃W:Nat->Nat->List V->Hp->Prop,(∃m,W 0 m [] (upd H1 D (.lst [])))/\lcW D J (pK cap σ) g tt te Q W
section
variable {X:Cx}{pins:List (Addr×Obj)}{σ:St}{H:Hp}{s:Shared}{N':List Str}{sc:Scope}{cl:List (Str×Addr)}{cap:List (Option Nat)}{fp:List Addr}
 {el tg src:Expr} {cs:List Expr} {at':Pos} {g:TG} {tt:TT} {te:TE} {J:It} {it:Addr} {tn:Nat->Heap->Prop} {Q:VK}
structure vC (X:Cx)(N':List Str)(sc:Scope)(cl:List (Str×Addr))(cap:List (Option Nat)):Prop where
 kind:sc.kind=.function
 clos:closureFor sc X.env=pure cl
 nocell:∀y∈sc.names,y.2 ≠ .cell
 names:∀y∈sc.names,y.2=.local->sc.names.lookup y.1=some .local
 cap:rJ X sc cl N' cap
 sub:Kv X.env cl
 has:∀x,((relabel sc X.env).names.lookup x=some .cell\/(relabel sc X.env).names.lookup x=some .free)->∃c,cl.lookup x=some c
theorem oO (kind:sc.kind=.function)(clos:closureFor sc X.env=pure cl)(h1:(sc.names.all λy=>y.2 != .cell)=true)(h2:(sc.names.all λy=>y.2 != .local || sc.names.lookup y.1 == some .local)=true)
  (hcap:rJ X sc cl N' cap) (sub:Kv X.env cl) (h3:((relabel sc X.env).names.all λy=>(y.2 != .cell && y.2 != .free) || (cl.lookup y.1).isSome)=true):vC X N' sc cl cap:=by
 refine⟨kind,clos,λy hy e=>?_,λy hy e=>?_,hcap,sub,λx hx=>?_⟩
 ·have q:=dO.mp h1 y hy;rw[e]at q;exact absurd q (by decide)
 ·have q:=dO.mp h2 y hy;rw[e]at q;simpa using q
 ·have key:∀k,(k=NameKind.cell\/k=NameKind.free)->(relabel sc X.env).names.lookup x=some k->∃c,cl.lookup x=some c:=λk hk e=>by
   have q:=dO.mp h3 _ (di e);rcases hk with rfl|rfl
   ·exact cZ.mp (by simpa using q)
   ·exact cZ.mp (by simpa using q)
  rcases hx with e|e
  ·exact key _ (.inl rfl) e
  ·exact key _ (.inr rfl) e
theorem Dd (L:vC X N' sc cl cap)(hc:X.calm=true)(I:Inv X pins σ H s)(T:Turn X.prog X.w X.K tg J fp it tn)(st:tn 0 s.heap)(hf:∀b∈fp,FpOk X pins H b)
  (hg:∀s H fp,PG (jK X N' sc cl s H fp) tg g) (ht:∀s H fp,PTs (jK X N' sc cl s H fp) cs tt) (he:∀s H fp,PE (jK X N' sc cl s H fp) el te)
  (rd:∀D,H D=none->∃W:Nat->Nat->List V->Hp->Prop,(∃m,W 0 m [] (upd H D (.lst [])))/\lcW D J (pK cap σ) g tt te Q W)
  {Ex:Value->Shared->Prop} {RR:Value->Addr->Result->Shared->Prop} (hR:∀D C m H' s',Inv X pins σ H' s' -> s'.heap.Ns C m->FpOk X pins H' C->Q (.ref D) H' -> RR (.ref D) C (.ok .next) s') :
  wpAny (model X.prog X.w) X.A (newList []) (λacc s3=>wpAny (model X.prog X.w) X.A (newFunctionEnv sc X.env.globals cl [] X.env.qual none .none (some X.env)) (λcv s4=>
   codeAny (model X.prog X.w) X.A (.compStart (.ListComp el [⟨tg,src,cs,0⟩] sc at') 0 (.ref it) acc { cv with scope:=relabel sc X.env }) (RR acc cv.locals) s4) Ex s3) Ex s:=by
 obtain⟨W,⟨m0,w0⟩,step⟩:=rd _ I.fresh;refine wpAny_newObj_type (fP L.nocell (by intro y hy;simp at hy) (λh1 hns hsb=>?_) L.kind);have I3:Inv X pins σ (upd H s.heap.objs.size (.lst [])) { s with heap:=s.heap.push { cls:=.type "list",dict:=none,data:=.seq ([]:List Value).toArray } }:=I.lnew (its:=[]) (t':=s.toks) .nil (by show 0<=sizeLine;decide);have hfo:∀b∈fp,∃o,s.heap.get? b=some o:=λb hb=>let ⟨o,e,_⟩:=T.obj 0 s.heap st b hb;⟨o,e⟩
 have hf3:∀b∈fp,FpOk X pins (upd H s.heap.objs.size (.lst [])) b:=λb hb=>by obtain⟨o,e⟩:=hfo b hb;exact⟨by rw[upd_ne (be (aA e))];exact(hf b hb).1,(hf b hb).2⟩
 dsimp only at hns hsb ⊢;generalize hs3:({ s with heap:=s.heap.push { cls:=.type "list",dict:=none,data:=.seq ([]:List Value).toArray } }:Shared)=s3 at I3 hns hsb ⊢;have hh3:s3.heap=s.heap.push { cls:=.type "list",dict:=none,data:=.seq ([]:List Value).toArray }:=by rw[<- hs3]
 have hns:h1.Ns s3.heap.objs.size (λx=>List.lookup x ([]:List (Str×Value)).reverse):=by rw[hh3];exact hns
 have hsb:Heap.SameBut s3.heap.objs.size (s3.heap.push { cls:=.type (if (some X.env).isSome=true then "dict" else "frame"),data:=.dict #[] }) h1:=by rw[hh3];exact hsb
 have hk3:∀b o,s.heap.get? b=some o->s3.heap.get? b=some o:=λb o e=>by rw[hh3];exact ay _ e
 have J0:=I3.block (N':=N') (cap:=cap) (fp:=fp) (tk:=s3.toks+([]:List (Str×Value)).length) L.kind L.cap L.sub L.has hf3 (λb hb=>let ⟨o,e⟩:=hfo b hb;⟨o,hk3 b o e⟩) hns hsb
 have st1:tn 0 h1:=T.keep 0 s.heap h1 st λb hb o e=>(hsb.2 b (be (aA (hk3 b o e)))).trans (ay _ (hk3 b o e));have fpx:∀{H':Hp},(∀b∈fp,H' b=none)->∀b∈fp,FpOk (jK X N' sc cl s3 (upd H s.heap.objs.size (.lst [])) fp) [] H' b:=λhn b hb=>by
  obtain⟨o,e⟩:=hfo b hb;refine⟨hn b hb,be (aA (hk3 b o e)),λhb'=>?_,.inl hb,λx c q=>(hf b hb).2.2.2.2.1 x c (L.sub.look q),λp hp=>absurd (show p∈([]:List (Addr×Obj)) from hp) (by simp)⟩;rcases aC.mp (I.stkSub b hb') with z|z
  ·exact(hf b hb).2.1 z
  ·exact(hf b hb).2.2.1 z
 have loop:∀s4:Shared,s4={ s3 with heap:=h1,toks:=s3.toks+([]:List (Str×Value)).length } ->
   codeAny (model X.prog X.w) X.A (.compLoop (.ListComp el [⟨tg,src,cs,0⟩] sc at') 0 (.ref it) (.ref s.heap.objs.size) (compEnvC sc cl s3.heap.objs.size X.env)) (RR (.ref s.heap.objs.size) s3.heap.objs.size) s4:=by
  rintro s4 rfl;refine Qt (λn s'=>∃i ys H',Inv (jK X N' sc cl s3 (upd H s.heap.objs.size (.lst [])) fp) [] (pK cap σ) H' s'/\tn i s'.heap/\(∀b∈fp,H' b=none)/\W i n ys H') ?_ m0 ⟨0,[],_,J0,st1,λb hb=>(hf3 b hb).1,w0⟩;rintro n s' ⟨i,ys,H',Ji,sti,fri,wi⟩;obtain⟨hD,hlen,hgo⟩:=step i n ys H' wi;rcases hgo with⟨hstop,hq⟩|⟨hgo,hbody⟩
  ·refine thn (T.done (jK X N' sc cl s3 (upd H s.heap.objs.size (.lst [])) fp) rfl rfl rfl hc i [] s' _ H' V7 Ji (fpx fri) sti hstop) λr s1 ⟨hr,J1⟩=>.inl ⟨hr,?_⟩;obtain⟨m1,hm1,_⟩:=J1.loc;exact hR _ _ m1 H' s1 (I3.V1 hf3 J1) hm1 (I3.fpOk (aq _) J1.free) hq
  ·refine thn (T.item (jK X N' sc cl s3 (upd H s.heap.objs.size (.lst [])) fp) rfl rfl rfl hc i [] s' _ H' V7 Ji (fpx fri) sti hgo) λr s1 ⟨u,hr,h4⟩=>.inr ⟨u,hr,thn h4 λ_ s5 ⟨x,H5,J5,r5,y5,st5,fr5⟩=>?_⟩;have J5':=J5.pinned (fpx fr5) (T.obj _ _ st5);refine thn (hg _ _ _ _ s5 _ H5 x u _ J5' r5 (hbody x H5 y5)) λ_ s6 ⟨σ6,H6,J6,ext,q6⟩=>?_;have endT:∀{ys':List V} {H7:Hp} {s7:Shared} {m':Nat},Inv (jK X N' sc cl s3 (upd H s.heap.objs.size (.lst [])) fp) ([]++pinsAt fp s5.heap) σ6 H7 s7->m'<n->W (i+1) m' ys' H7 ->
     ∃m,m<n/\∃i ys H',Inv (jK X N' sc cl s3 (upd H s.heap.objs.size (.lst [])) fp) [] (pK cap σ) H' s7/\tn i s7.heap/\(∀b∈fp,H' b=none)/\W i m ys H':=λ{ys' H7 s7 m'} J7 hm w7=>by
    refine⟨m',hm,i+1,ys',H7,(J7.unpinned).weak ?_ λj v z=>ext.at j v z,T.keep _ _ _ st5 λb hb o e=>(J7.pin (b,o) (aH _ (aH _ (mem_pinsAt hb e)))).1,λb hb=>?_,w7⟩
    ·rw[J7.len,Ji.len]
    ·obtain⟨o,e,_⟩:=T.obj _ _ st5 b hb;exact(J7.pin (b,o) (aH _ (aH _ (mem_pinsAt hb e)))).2.1
   refine thn (ht _ _ _ _ s6 _ H6 _ J6 q6) λok s7 ⟨H7,J7,q7⟩=>?_;cases ok with
   |false=>obtain⟨m',hm,w7⟩:=q7;exact endT J7 hm w7
   |true=>refine thn (he _ _ _ _ s7 _ H7 _ J7 q7) λy s8 ⟨yv,H8,J8,r8,hD8,m',hm,w8⟩=>?_;exact thn (mt_append _ s8 _ H8 (.ref s.heap.objs.size) [yv] (.ref s.heap.objs.size) [y] (λv H9=>H9=upd H8 s.heap.objs.size (.lst (ys++[yv]))) J8 rfl (.cons r8 .nil) ⟨_,ys,yv,rfl,rfl,hD8,hlen,rfl⟩) λ_ s9 ⟨_,H9,J9,_,e9⟩=>by subst e9;exact endT J9 hm w8
 subst hs3;exact codeAny_compStart_list (loop _ rfl) (T.self _ 0 _ _ _ st1 (loop _ rfl))
theorem yF (L:vC X N' sc cl cap)(hc:X.calm=true)(hi:PI X tg src wi)(hg:∀s H fp,PG (jK X N' sc cl s H fp) tg g)(ht:∀s H fp,PTs (jK X N' sc cl s H fp) cs tt)(he:∀s H fp,PE (jK X N' sc cl s H fp) el te)
  (hs:∀x,foldedSetIterable src X.env x=pure x:=by intro _;rfl):PE X (.ListComp el [⟨tg,src,cs,0⟩] sc at') (Ut cap wi g tt te):=by
 intro pins s σ H Q I h;rw[eval_ListComp];refine wpAny_comprehension_free (use:=none) rfl hs L.clos L.kind L.names (thn (hi pins s σ H _ I h) λv s1 h1=>thn h1 λitv s2 h2=>?_);obtain⟨it,fp,tn,J,H2,rfl,I2,T,st2,f2,rd⟩:=h2;refine Dd L hc I2 T st2 f2 hg ht he rd (RR:=λacc C=>compPost (model X.prog X.w) X.A X.xe none (EP X pins σ Q) acc C) λD C m H' s' J' hn fC q=>?_;refine⟨m,hn,λh' sb=>⟨.ref D,H',J'.turned (t':=s'.toks) (λb o hb e=>(sb.2 b hb).trans e) fC.1 fC.2.1 fC.2.2.2.1 fC.2.2.2.2.1 fC.2.2.2.2.2,rfl,q⟩⟩
theorem Rx (hN:X.N.Nodup)(hi':X.N[i]?=some x)(hx:X.env.scope.names.lookup x=some .local)(L:vC X N' sc cl cap)(hc:X.calm=true)(hi:PI X tg src wi)(hg:∀s H fp,PG (jK X N' sc cl s H fp) tg g)
  (ht:∀s H fp,PTs (jK X N' sc cl s H fp) cs tt) (he:∀s H fp,PE (jK X N' sc cl s H fp) el te) (hsw:swapsWith (.ListComp el [⟨tg,src,cs,0⟩] sc at') (some (.Name x px)) spos.line X.env=pure true)
  (hs:∀x,foldedSetIterable src X.env x=pure x:=by intro _;rfl):PS X (.Assign [.Name x px] (.ListComp el [⟨tg,src,cs,0⟩] sc at') spos) (tAsg (Ut cap wi g tt te) (gName i)):=by
 intro pins s σ H D I h;rw[exec_Assign_Name_used _ _ _ _ hsw];refine aB (wpAny_standAt (aB ?_));refine aB (thn (wpAny_comprehension_free (use:=some (assign (.Name x px) X.env)) (Q:=λ_ s'=>SP X pins D .next s') rfl hs L.clos L.kind L.names (thn (hi pins s σ H _ I h) λv s1 h1=>thn h1 λitv s2 h2=>?_)) λ_ s' q=>bI (bI q));obtain⟨it,fp,tn,J,H2,rfl,I2,T,st2,f2,rd⟩:=h2;refine Dd L hc I2 T st2 f2 hg ht he rd (RR:=λacc C=>compPost (model X.prog X.w) X.A X.xe (some (assign (.Name x px) X.env)) (λ_ s'=>SP X pins D .next s') acc C) λD' C m H' s' J' hn fC q=>?_;obtain⟨oC,es,ep,hoC,hdC,hr⟩:=hn;have Jp:Inv X (pins++[(C,oC)]) σ H' s':=J'.pins_of λp hp=>by
  rcases cV.mp hp with z|z
  ·exact J'.pin p (aH _ z)
  ·have e:p=(C,oC):=by simpa using z
   subst e;exact⟨hoC,fC.1,fC.2.1,fC.2.2.1,λv z=>by rw[hdC]at z;cases z⟩
 refine thn (pg_name (i:=i) hN hi' (.inl hx) (.inr hx) _ s' σ H' (.ref D') (.ref D') (λσ' H''=>D.nx σ' H'') Jp rfl q) λ_ s'' ⟨σ',H'',J2,q2⟩=>?_;obtain⟨p1,p2,p3,p4,p5⟩:=J2.pin (C,oC) (aH _ (aH _ (by simp)));refine⟨m,⟨oC,es,ep,p1,hdC,hr⟩,λh' sb=>⟨σ',H'',(J2.pins_of (pins':=pins) λp hp=>J2.pin p (aH _ (b9 _ hp))).turned (t':=s''.toks) (λb o hb e=>(sb.2 b hb).trans e) p2 fC.2.1 fC.2.2.2.1 fC.2.2.2.2.1 fC.2.2.2.2.2,q2⟩⟩
end
theorem ObjOk.get (x:ObjOk P w H h a o):∃ob,h.get? a=some ob:=by
 cases o with
 |lst xs=>obtain⟨_,_,_,_,e⟩:=x;exact⟨_,e⟩
 |tup xs=>obtain⟨_,_,_,ob,e,_⟩:=x;exact⟨ob,e⟩
 |dK kvs=>obtain⟨_,_,_,_,o,_,_,e,_⟩:=x;exact⟨o,e⟩
 |dT kvs=>obtain⟨_,_,_,_,o,_,_,e,_⟩:=x;exact⟨o,e⟩
 |set S n=>obtain⟨o,_,_,_,e,_⟩:=x;exact⟨o,e⟩
 |ins C dx fs=>obtain⟨_,_,_,e,_⟩:=x;exact⟨_,e⟩
 |own y=>exact x
 |xd fs=>obtain⟨_,⟨o,_,_,e,_⟩,_⟩:=x;exact⟨o,e⟩
 |rng lo hi=>obtain⟨_,_,_,e⟩:=x;exact⟨_,e⟩
 |frz ob u=>obtain⟨e,_⟩:=x;exact⟨ob,e⟩
 |tbl ps=>exact⟨_,x.1⟩
 |met f y=>exact⟨_,(show h.get? a=some _ from x)⟩
 |ext φ=>obtain⟨_,e,_⟩:=x;exact e
structure Lft (fr as:List Addr)(h h2:Heap)(a:Addr)(cls:Value):Prop where
 keep:∀b o,h.get? b=some o->b∉as->h2.get? b=some o
 slot:∀b o,b∈fr->h.get? b=some o->∃sl,h2.get? b=some { o with slots:=sl }
 ex:∃oe vs T oT ts,h2.get? a=some oe/\oe.cls=cls/\oe.dict=none/\oe.data=.fields vs/\vs[1]?=some (.ref T)/\h.get? T=none/\T≠a/\h2.get? T=some oT/\oT.data=.fields ts/\ts[3]?=some .none
theorem Bf (f:Array Value->Array Value)(o:Obj):(Obj.mapFields f o).dict=o.dict:=by unfold Obj.mapFields;split<;>rfl
section
variable {M:Model}{A:Around}{E:Value->Shared->Prop}{s:Shared}{base:Heap}{env:Env}{outer:List Env}{L a:Addr}{oe:Obj}{vs:Array Value}{as:List Addr}{Q:Unit->Shared->Prop}
theorem De (hfr:A.frames=some (env::outer))(hl:s.heap.FunFrames base (env::outer))(hf:env.frame=some L)(he:s.heap.get? a=some oe)(hdn:oe.dict=none)(hd:oe.data=.fields vs)(hsz:1<vs.size)
  (haa:a∈as) (hfs:∀b∈frs (env::outer),b∈as) (h:∀h',Lft (frs (env::outer)) as s.heap h' a oe.cls->Q () { s with heap:=h' }) :
  wpAny M A (do let x <- frameOf env;let pl <- entryPlaceOf L hadNext;let b <- EntryCells.newEntry head x .none (rawInt L) .none pl;setField (.ref a) 1 b) (λ_ s'=>wpAny M A (setFlight (.ref a) none) Q E s') E s:=by
 have hna:a∉frs (env::outer):=λz=>by obtain⟨_,o,e,d⟩:=hl.mem z;rw[he]at e;cases e;exact d vs hd
 refine aB (wpAny_frameOf_fun hfr hl hf λh1 so=>aB (wpAny_entryPlaceOf λpl hpl=>?_));unfold EntryCells.newEntry newFields;refine aB (wpAny_newObj_type ?_ (hpl.sizeOk5 _ _ _ _ _));have e1:h1.get? a=some oe:=(so.2.1 a hna).trans he;have nT:h1.objs.size≠a:=dX (aA e1);generalize hts:([head,Value.ref L,Value.none,rawInt L,Value.none]++(if pl.isEmpty then List.replicate 6 Value.none else pl)).toArray=ts;have lt3:3<ts.size:=by rw[<- hts];simp
 have e2:=ay (h:=h1) { cls:=.type "traceback",dict:=none,data:=.fields ts } e1;have t2:=bi h1 (o:={ cls:=.type "traceback",dict:=none,data:=.fields ts }) rfl;refine wpAny_setField e2 hd hsz ?_;have d3:=dw hd (·.setIfInBounds 1 (Value.ref h1.objs.size));have e3:=du (Obj.mapFields (·.setIfInBounds 1 (Value.ref h1.objs.size))) e2 (dZ d3);have t3:=(bN (h1.push { cls:=.type "traceback",dict:=none,data:=.fields ts }) (Obj.mapFields (·.setIfInBounds 1 (Value.ref h1.objs.size))) (ck nT)).trans t2;refine wpAny_setFlight_none (vs:=vs.setIfInBounds 1 (.ref h1.objs.size)) e3 d3 (by simp[hsz]) t3 rfl lt3 (h _ ⟨λb o q nb=>?_,λb o q eb=>?_,?_⟩)
 ·have q1:h1.get? b=some o:=(so.2.1 b λz=>nb (hfs b z)).trans q;have ba:b≠a:=λz=>nb (z ▸ haa);rw[bN _ _ (dX (aA q1)),bN _ _ (ck ba)];exact ay _ q1
 ·obtain⟨sl,q1⟩:=so.2.2 b o eb;have ba:b≠a:=λz=>hna (z ▸ q);refine⟨sl,?_⟩;rw[bN _ _ (dX (aA q1)),bN _ _ (ck ba)];exact ay _ q1
 ·refine⟨_,_,h1.objs.size,_,_,(bN _ _ nT).trans e3,Obj.cls_mapFields _ _,?_,d3,by simp[hsz],?_,nT,du _ t3 (dZ (dw rfl _)),dw rfl _,by simp[lt3]⟩
  ·rw[Bf];exact hdn
  ·cases q:s.heap.get? h1.objs.size with
   |none=>rfl
   |some o=>obtain⟨sl,q1⟩:=so.2.2 _ o q;exact absurd (aA q1) (c7 _)
theorem Ln (hfr:A.frames=some (env::outer))(hl:s.heap.FunFrames base (env::outer))(hf:env.frame=some L)(he:s.heap.get? a=some oe)(hdn:oe.dict=none)(hd:oe.data=.fields vs)(h1:vs[1]?=some .none)
  (haa:a∈as) (hfs:∀b∈frs (env::outer),b∈as) (h:∀h',Lft (frs (env::outer)) as s.heap h' a oe.cls->Q () { s with heap:=h' }) :
  wpAny M A (noteFrame (.ref a) env) (λ_ s'=>wpAny M A (setFlight (.ref a) none) Q E s') E s:=by
 unfold noteFrame;simp only[hf];refine aB (wpAny_field he hd h1 ?_);rw[ag (by decide)];exact De hfr hl hf he hdn hd (dq.mp h1).1 haa hfs h
theorem Du (hfr:A.frames=some (env::outer))(hl:s.heap.FunFrames base (env::outer))(hf:env.frame=some L)(he:s.heap.get? a=some oe)(hdn:oe.dict=none)(hd:oe.data=.fields vs)(h1:vs[1]?=some (.ref T))
  (hTa:T≠a) (hT:s.heap.get? T=some oT) (hdT:oT.data=.fields ts) (h3:ts[3]?=some .none)
  (haa:a∈as) (hTT:T∈as) (hfs:∀b∈frs (env::outer),b∈as) (h:∀h',Lft (frs (env::outer)) as s.heap h' a oe.cls->Q () { s with heap:=h' }) :
  wpAny M A (noteFrame (.ref a) env) (λ_ s'=>wpAny M A (setFlight (.ref a) none) Q E s') E s:=by
 unfold noteFrame;simp only[hf];refine aB (wpAny_field he hd h1 ?_);rw[ah (show(Value.ref T != Value.none)=true from by simp)];refine aB (wpAny_field hT hdT h3 ?_);rw[ag (show ¬((Value.none == rawInt L)=true) from by simp[rawInt])];refine aB (wpAny_setField hT hdT (dq.mp h3).1 ?_);have nT:T∉frs (env::outer):=λz=>by obtain⟨_,o,e,d⟩:=hl.mem z;rw[hT]at e;cases e;exact d ts hdT
 have oth:∀b,b≠T->(s.heap.update T (Obj.mapFields (·.setIfInBounds 3 Value.none))).get? b=s.heap.get? b:=λb hb=>bN _ _ (ck hb);have selfT:=du (Obj.mapFields (·.setIfInBounds 3 Value.none)) hT (dZ (dw hdT _));refine De hfr (hl.of_keeps λb o hb hnf=>⟨o,(oth b (λz=>by rw[z,hT]at hb;cases hb;exact hnf ts hdT)).trans hb,rfl⟩) hf ((oth a (ck hTa)).trans he) hdn hd (dq.mp h1).1 haa hfs λh' q=>h h' ⟨λb o e nb=>?_,λb o z e=>?_,?_⟩
 ·exact q.keep b o ((oth b λz=>nb (z ▸ hTT)).trans e) nb
 ·exact q.slot b o z ((oth b λy=>nT (y ▸ z)).trans e)
 ·obtain⟨oe',vs',T',oT',ts',x1,x2,x3,x4,x5,x6,x7⟩:=q.ex;refine⟨oe',vs',T',oT',ts',x1,x2,x3,x4,x5,?_,x7⟩;rw[<- oth T' (λz=>by rw[z,selfT]at x6;cases x6)];exact x6
end
structure Fly (h0:Heap)(H:Hp)(h:Heap)(a:Addr)(cls:Value):Prop where
 ex:∃oe vs T oT ts,h.get? a=some oe/\oe.cls=cls/\oe.dict=none/\oe.data=.fields vs/\vs[1]?=some (.ref T)/\T≠a/\h.get? T=some oT/\oT.data=.fields ts/\ts[3]?=some .none/\H T=none/\h0.get? T=none
 un:H a=none
 new:h0.get? a=none
def G9 (P:Program)(w:World):CXT:=λouter H s E e s'=>∃a cls H',e=.ref a/\s'.os=s.os/\AllBare s'.gens/\Un (frs outer) [] H H' s.heap s'.heap/\HOk P w H' s'.heap/\Fly s.heap H' s'.heap a cls/\E cls none H'
section
variable {X:Cx}{pins:List (Addr×Obj)}{σ:St}{H1 H':Hp}{s1 s':Shared}{a:Addr}{cls:Value}{E:XK}
theorem sV {base h h':Heap}:∀{l:List Env},h.FunFrames base l->(∀b∈frs l,∀o,h.get? b=some o->∃sl,h'.get? b=some { o with slots:=sl })->h'.FunFrames base l
 |[],_,_=>tJ
 |ev::r,hl,k=>by
  obtain⟨hk,⟨L,o,hf,hn,ho,hd⟩,hr⟩:=hl;have e:frs (ev::r)=L::frs r:=by unfold frs;rw[aZ,hf]
  obtain⟨sl,q⟩:=k L (by rw[e];exact af) o ho;exact⟨hk,⟨L,_,hf,hn,q,hd⟩,sV hr λb hb=>k b (by rw[e];exact ae _ hb)⟩
theorem Inv.Lp (I:Inv X pins σ H1 s1)(u:Un (frs X.stack) [] H1 H' s1.heap s'.heap):s'.heap.FunFrames X.base X.stack:=
 sV I.stack λb hb o e=>u.slot b o e (I.stkFree b hb) hb (by simp)
theorem CQ (I:Inv X pins σ H1 s1)(hst:X.stack=X.env::X.outer)(hfr:X.env.frame=some X.env.locals)(hex:X.ex=[])(ho:s'.os=s1.os)(hb:AllBare s'.gens)
  (u:Un (frs X.stack) [] H1 H' s1.heap s'.heap) (hok:HOk X.prog X.w H' s'.heap) (has:∀b∈as,b∈frs X.stack\/(H' b=none/\s1.heap.get? b=none)) (hfs:∀b∈frs X.stack,b∈as) (haa:a∈as) (hna:H' a=none/\s1.heap.get? a=none)
  (L:Lft (frs X.stack) as s'.heap h2 a cls) (hE:E cls none H'):G9 X.prog X.w X.outer X.H₀ X.s₀ E (.ref a) { s' with heap:=h2 }:=by
 have hfs':frs X.stack=X.env.locals::frs X.outer:=by rw[hst];unfold frs;rw[aZ,hfr]
 have noex:∀b:Addr,b∉X.ex:=λb=>by rw[hex];simp
 have FF:=I.Lp u;have keep2:=L.keep;have slot2:=L.slot;have below:∀b o,X.s₀.heap.get? b=some o->b≠X.env.locals:=λb o e=>be (aD (aA e) I.ok.above);have out:∀b o,s1.heap.get? b=some o->b∈as->b∈frs X.stack:=λb o e z=>by
  rcases has b z with q|⟨_,q⟩
  ·exact q
  ·rw[e]at q;cases q
 have here:∀b o,X.s₀.heap.get? b=some o->∃o',s1.heap.get? b=some o':=λb o e=>I.base.there b o e (noex b);obtain⟨oe,vs,T,oT,ts,he,hcls,hdi,hd,h1,hnT,hTe,hT,hdT,h3⟩:=L.ex;have hT0:T∈as\/s'.heap.get? T=none:=.inr hnT;have freeAs:∀b∈as,H' b=none:=λb z=>by
  rcases has b z with q|⟨q,_⟩
  ·obtain⟨_,o,e,_⟩:=I.stack.mem q;exact u.free b o e (I.stkFree b q) (by simp)
  ·exact q
 refine⟨a,cls,H',rfl,ho.trans I.os,hb,⟨λb o e n hbf _=>?_,λb o e n hbf _=>?_,λb o e n _=>?_,λb o e _=>?_,λb xs e=>u.tups b xs (I.base.tups b xs e),λb o v e=>u.frzs b o v (I.base.frzs b o v e),λb ps e=>?_⟩,λb o e=>?_,⟨⟨oe,vs,T,oT,ts,he,hcls,hdi,hd,h1,hTe,hT,hdT,h3,?_,?_⟩,hna.1,?_⟩,hE⟩
 ·have e1:=I.base.keep b o e n hbf (noex b);have n1:=I.base.free b o e n (noex b);have b1:b∉frs X.stack:=λz=>by rw[hfs']at z;exact(aC.mp z).elim (below b o e) hbf
  exact keep2 b o (u.keep b o e1 n1 b1 (by simp)) λz=>b1 (out b o e1 z)
 ·obtain⟨sl1,e1⟩:=I.base.slot b o e n hbf (noex b);have n1:=I.base.free b o e n (noex b);have b1:b∈frs X.stack:=by rw[hfs'];exact ae _ hbf
  obtain⟨sl2,e2⟩:=u.slot b _ e1 n1 b1 (by simp);obtain⟨sl3,e3⟩:=slot2 b _ b1 e2;exact⟨sl3,e3⟩
 ·obtain⟨o1,e1⟩:=here b o e;exact u.free b o1 e1 (I.base.free b o e n (noex b)) (by simp)
 ·obtain⟨o1,e1⟩:=here b o e;obtain⟨o2,e2⟩:=u.there b o1 e1 (by simp);by_cases z:b∈as
  ·obtain⟨sl,e3⟩:=slot2 b o2 (out b o1 e1 z) e2;exact⟨_,e3⟩
  ·exact⟨o2,keep2 b o2 e2 z⟩
 ·obtain⟨m1,e1⟩:=I.base.tbls b ps e;obtain⟨m2,e2⟩:=u.tbls b _ e1;exact⟨m1++m2,by rw[e2,yK.append_assoc]⟩
 ·refine(hok b o e).stay (λc v hc q=>keep2 c v q λz=>?_) (λ_ q=>q) λ_ _ q=>q;have:=freeAs c z;rcases hc with rfl|hc
  ·rw[this]at e;cases e
  ·rw[this]at hc;cases hc
 ·rcases hT0 with z|z
  ·exact freeAs T z
  ·cases q:H' T with
   |none=>rfl
   |some v=>obtain⟨ob,e⟩:=(hok T v q).get;rw[z]at e;cases e
 ·cases q:X.s₀.heap.get? T with
  |none=>rfl
  |some o=>
   obtain⟨o1,e1⟩:=here T o q;obtain⟨o2,e2⟩:=u.there T o1 e1 (by simp);rcases hT0 with z|z
   ·obtain⟨sl,e3⟩:=slot2 T o2 (out T o1 e1 z) e2;obtain⟨_,o4,e4,d4⟩:=FF.mem (out T o1 e1 z);rw[e2]at e4;cases e4;rw[hT]at e3;cases e3;exact absurd hdT (d4 ts)
   ·rw[z]at e2;cases e2
 ·cases q:X.s₀.heap.get? a with
  |none=>rfl
  |some o=>obtain⟨o1,e1⟩:=here a o q;rw[hna.2]at e1;cases e1
theorem leave_new (I:Inv X pins σ H1 s1)(hst:X.stack=X.env::X.outer)(hfr:X.env.frame=some X.env.locals)(hex:X.ex=[])(ho:s'.os=s1.os)(hb:AllBare s'.gens)
  (u:Un (frs X.stack) [] H1 H' s1.heap s'.heap) (hok:HOk X.prog X.w H' s'.heap) (hna:H' a=none/\s1.heap.get? a=none) (he:s'.heap.get? a=some oe) (hc:oe.cls=cls) (hdi:oe.dict=none) (hd:oe.data=.fields vs) (h1:vs[1]?=some .none) (hE:E cls none H')
  (hQ:∀s2,G9 X.prog X.w X.outer X.H₀ X.s₀ E (.ref a) s2->Q () s2):wpAny M X.A (leaving X.env (.ref a)) Q E' s':=by
 subst hc;have hA:X.A.frames=some (X.env::X.outer):=by rw[<- hst];exact I.ok.frames
 have FF:=I.Lp u;refine aB (Ln (as:=a::frs X.stack) hA (by rw[<- hst];exact FF) hfr he hdi hd h1 af (λb z=>ae _ (by rw[hst];exact z)) λh2 L=>hQ _ ?_);rw[<- hst]at L;exact CQ I hst hfr hex ho hb u hok (λb z=>(aC.mp z).elim (λq=>.inr (by rw[q];exact hna)) .inl) (λb z=>ae _ z) af hna L hE
theorem S5 (I:Inv X pins σ H1 s1)(hst:X.stack=X.env::X.outer)(hfr:X.env.frame=some X.env.locals)(hex:X.ex=[])(ho:s'.os=s1.os)(hb:AllBare s'.gens)
  (u:Un (frs X.stack) [] H1 H' s1.heap s'.heap) (hok:HOk X.prog X.w H' s'.heap) (F:Fly s1.heap H' s'.heap a cls) (hE:E cls none H')
  (hQ:∀s2,G9 X.prog X.w X.outer X.H₀ X.s₀ E (.ref a) s2->Q () s2):wpAny M X.A (leaving X.env (.ref a)) Q E' s':=by
 obtain⟨oe,vs,T,oT,ts,he,hcls,hdi,hd,h1,hTe,hT,hdT,h3,hHT,hsT⟩:=F.ex;subst hcls;have hA:X.A.frames=some (X.env::X.outer):=by rw[<- hst];exact I.ok.frames
 have FF:=I.Lp u;refine aB (Du (as:=a::T::frs X.stack) hA (by rw[<- hst];exact FF) hfr he hdi hd h1 hTe hT hdT h3 af (ae _ af) (λb z=>ae _ (ae _ (by rw[hst];exact z))) λh2 L=>hQ _ ?_);rw[<- hst]at L;refine CQ I hst hfr hex ho hb u hok (λb z=>?_) (λb z=>ae _ (ae _ z)) af ⟨F.un,F.new⟩ L hE;rcases aC.mp z with q|z
 ·exact .inr (by rw[q];exact⟨F.un,F.new⟩)
 ·rcases aC.mp z with q|z
  ·exact .inr (by rw[q];exact⟨hHT,hsT⟩)
  ·exact .inl z
end
theorem Yb {P:Program}{w:World}{K:Fg}{mg:Mg}{base:Heap}{N:Ls}{qual:Str}{scope:Scope}{f:Addr}{cd:Value}{A:Around}{outer:List Env}{s:Shared}{H:Hp}{E:XK} :
  Passes (G9 P w) (cxOf (G9 P w) P w K mg base N qual scope f cd A outer s H E) E:=λpins σ H1 s1 e s' I h=>by
 obtain⟨a,cls,H',rfl,ho,hb,u,hok,F,hE⟩:=h;exact S5 I rfl rfl rfl ho hb u hok F hE (M:=model P w) (E':=λe' s2=>G9 P w outer H s E e' s2) λs2 q=>q
abbrev bmV:List Value:=[.type "ValueError",.type "Exception",.type "BaseException",.type "object"]
abbrev JM (K:Fg)(C:Addr):Prop:=W.excIn K C bmV "ValueError.__new__"=true
theorem JM.facts {K:Fg}{h:Heap}{C:Addr}(X:K.In h)(q:JM K C):∃nm qn N bs bm hd sn sub ab col dd k0 k1 k2 k3 k5 mN,
  h.get? C=some (excClassObj nm qn C N bs bm hd sn sub ab col dd k0 k1 k2 k3 k5 "ValueError.__new__")/\h.Ns N mN/\mN "__init__"=none/\OwnTail h bmV bm:=by
 unfold JM W.excIn at q;split at q
 ·rename_i dd' cd' sl' hlk;split at q
  ·rename_i C2 bm2 j0 j1 j2 j3 n2 j5 em es;simp only[g6,i8,Bool.not_eq_true']at q;obtain⟨⟨⟨⟨⟨e1,e2⟩,e3⟩,e4⟩,e5⟩,e6⟩:=q;subst e1 e2;obtain⟨nm,bs,mr,ns,qn,hd,sn,sub,ab,col,del⟩:=cd';dsimp only at em e3 e5 e6;subst em e3;have e7:sl' = #[j0,j1,j2,j3,some (.builtin "ValueError.__new__"),j5]:=by obtain⟨l⟩:=sl';simp only at es;rw[es]
   subst e7;exact⟨nm,qn,ns,bs,bm2,hd,sn,sub,ab,col,dd',j0,j1,j2,j3,j5,_,X _ _ hlk,.of_isNs (W.isNs_of_in X e5),W.nsMap_none_of_in X e5 e6,W.tail_of_in X e4⟩
  ·cases q
 ·cases q
def R7 (X:Cx)(E:XK):Prop:=∀(pins:List (Addr×Obj)) (σ:St) (H:Hp) (s:Shared) (a:Addr) (cls:Value) (vs:List Value) (h':Heap),Inv X pins σ H s->Heap.MadeExcOf s.heap h' a cls vs->E cls none H->X.xe (.ref a) { s with heap:=h' }
theorem Inv.untracked (I:Inv X pins σ H s)(h:s.heap.get? a=none):H a=none:=by
 cases q:H a with
 |none=>rfl
 |some o=>obtain⟨ob,e⟩:=(I.hok a o q).get;rw[h]at e;cases e
theorem aa6 {P:Program}{w:World}{K:Fg}{mg:Mg}{base:Heap}{N:Ls}{qual:Str}{scope:Scope}{f:Addr}{cd:Value}{A:Around}{outer:List Env}{s:Shared}{H:Hp}{E:XK} :
  R7 (cxOf (G9 P w) P w K mg base N qual scope f cd A outer s H E) E:=λpins σ H1 s1 a cls vs h' I hm hE=>by
 obtain⟨t,e,_⟩:=hm.there;exact leave_new (s':={ s1 with heap:=h' }) I rfl rfl rfl rfl I.bare (Un.kept hm.keeps) (I.hok.kept hm.keeps) ⟨I.untracked hm.new,hm.new⟩ e rfl rfl rfl rfl hE (M:=model P w) (E':=λe' s2=>G9 P w outer H s E e' s2) λs2 q=>q
def Za (C:Addr)(E:XK)(t:TA):TS:=λ_ σ H=>t σ H λ_ H1=>E (.ref C) none H1
theorem R6 {X:Cx}{E:XK}{x:Str}{np cpos pos:Pos}{e:Expr}{es:List Expr}{C:Addr}{t:TA}(hn:R7 X E)(hc:X.calm=true)(q:JM X.K C)(hg:Gl X x)(hm:X.mg x=some (.ref C))(ha:PA X (e::es) t)(hz:(e::es).length<=1000:=by decide)
  (hdb:(x == ("__debug__":Str))=false:=by decide) (he:starEach (e::es) X.env=(false,eval e X.env)::starEach es X.env:=by rfl) (hpl:(backTo cpos (starEach (e::es) X.env)).any (·.1)=false:=by rfl)
  (hl:∀σ H Q,t σ H Q->t σ H λvs H1=>vs.length=(e::es).length/\Q vs H1):PS X (.Raise (some (.Call (.Name x np) (e::es) [] cpos)) none pos) (Za C E t):=by
 intro pins s σ H D I h;obtain⟨nm,qn,N,bs,bm,hd,sn,sub,ab,col,dd,k0,k1,k2,k3,k5,mN,hC,hns,hni,tl⟩:=q.facts I.ok.mod.kin;have hbase:bm.contains (.type "BaseException")=true:=tl.hasType (by decide +kernel);refine wpAny_Raise_call_subU (nm:=nm) (q:=qn) (C:=C) (N:=N) (bs:=bs) (bm:=bm) (hdct:=hd) (sn:=sn) (sub:=sub) (ab:=ab) (col:=col) (dd:=dd) (k0:=k0) (k1:=k1) (k2:=k2) (k3:=k3) (k5:=k5) (mN:=mN)
  f9 (by decide +kernel) f9 hbase (I.ok.hd hc) hpl hni (ld_glob I hg hm ⟨rfl,?_⟩ hdb)
 have ev:wpAny (model X.prog X.w) X.A (spliced (backTo cpos (starEach (e::es) X.env))) (AP X pins σ λvs H1=>vs.length=(e::es).length/\E (.ref C) none H1) X.xe s:=ha cpos pins s σ H _ I (hl σ H _ h);rw[he]at ev ⊢;refine Calls.evalArgs_plain (thn ev λus s1 ⟨vs,H1,I1,r,l1,q1⟩=>⟨rfl,?_,?_⟩)
 ·rw[<- r.length,l1];exact bX (small1000 hz)
 ·exact⟨I1.bk _ _ hC,hns.keeps I1.bk,tl.keeps I1.bk,λh' a hm'=>hn pins σ H1 s1 a (.ref C) _ h' I1 hm' q1⟩
structure Mt (K:Fg)(C:Addr)(m:Str)(f:Addr):Prop where
 ga:W.specialIn K (.ref C) "__getattribute__"=some (some (.builtin "type.__getattribute__"))
 rd:W.readsIn K C (.type "type")=true
 fc:W.findCls K (.ref C) (.type "type") m=some (.val (.ref f))
 kp:W.keepIn K (.ref f)=true
section
variable {X:Cx}{CX:CXT}{k:Nat}{f C:Addr}{fd:FuncData}{ps:List Str}{sp:Sp}{dvs:List V}{ds:List Value}{E:XK}{x m:Str}{p pos apos:Pos}{e o:Expr}{es:List Expr}{ta:TE}{t:TA}
theorem V0 (hg:Gl X x)(hm:X.mg x=some (.ref C))(c:Mt X.K C m f)(F:FnOk X.prog X.w X.K X.mg X.base CX k f fd ps sp)(hr:Room k X.A)(hb:Binds X.K fd ps ds)(hd:Vals dvs ds)(hx:Passes CX X E)(ha:PA X (e::es) t)
  (hdb:(x == ("__debug__":Str))=false:=by decide) (hst:starEach (e::es) X.env=(false,eval e X.env)::starEach es X.env:=by rfl) (hpl:(backTo pos (starEach es X.env)).any (·.1)=false:=by rfl)
  (ht:eval (.Call (.Attribute (.Name x p) m apos) (e::es) [] pos) X.env=(do
   let ov <- eval (.Name x p) X.env
   standAt apos.atName
   let (f,first) <- holding [ov] (getMethod ov m pl)
   callWith pos f first (backTo pos (starEach (e::es) X.env)) (backToKw pos (keywordEach [] X.env))):=by rfl):PE X (.Call (.Attribute (.Name x p) m apos) (e::es) [] pos) (tCall sp dvs E t):=by
 intro pins s σ H Q I h;refine hW (pl:=pl) (ld_glob I hg hm ?_ hdb) ht;refine W.method_cls I.kIn c.ga (W.cls_value I.kIn c.rd c.fc rfl ?_);have I':=I.tok (s.toks+1);refine dQ (first:=[]) (h₀:=X.base) I.ok.mod.kin c.kp (thn (ha pos pins _ σ H _ I' h) λus s1 ⟨vs,H1,I1,r,q⟩=>⟨I1.kIn,?_⟩) hst hpl
 exact run_fn F hr hb hd hx I1 r q
end
structure OkM (P:Program)(w:World)(K:Fg)(mg:Mg)(base:Heap)(CX:CXT)(k:Nat)(C:Addr)(m:Str)(ps:List Str)(sp:Sp):Prop where
 ex:∃f fd,FnOk P w K mg base CX k f fd ps sp/\Binds K fd ps []/\Meth K C m f/\Cls K C
def ab5 (KA:Hp->Addr->Int->Prop)(a:Addr)(z:Int)(n:Nat)(pre:Int->List Int->Prop)(F:Int->List Int->Int):Sp:=λvs H Q _=>∃ns:List Int,ns.length=n/\vs=.ref a::ns.map V.int/\KA H a z/\pre z ns/\Q (.int (F z ns)) H
structure KM (P:Program)(w:World)(K:Fg)(mg:Mg)(base:Heap)(k:Nat)(KA:Hp->Addr->Int->Prop)(m:Str)(n:Nat)(pre:Int->List Int->Prop)(F:Int->List Int->Int):Prop where
 ex:∀H a z,KA H a z->∃C dx fs ps,H a=some (.ins C dx fs)/\fs.lookup m=none/\OkM P w K mg base CX0 k C m ps (ab5 KA a z n pre F)
structure OkC (P:Program)(w:World)(K:Fg)(mg:Mg)(base:Heap)(CX:CXT)(k:Nat)(x:Str)(C:Addr)(m:Str)(ps:List Str)(sp:Sp):Prop where
 ex:∃f fd,FnOk P w K mg base CX k f fd ps sp/\Binds K fd ps []/\Mt K C m f/\mg x=some (.ref C)
structure OkI (P:Program)(w:World)(K:Fg)(mg:Mg)(base:Heap)(CX:CXT)(k:Nat)(x:Str)(C:Addr)(ps:List Str)(sp:Sp):Prop where
 ex:∃f fd,FnOk P w K mg base CX k f fd ps sp/\Binds K fd ps []/\Mk K C f/\mg x=some (.ref C)
section
variable {X:Cx}{CX:CXT}{j k:Nat}{C:Addr}{ps:List Str}{sp:Sp}{E:XK}{x m:Str}{p pos apos:Pos}{e:Expr}{es:List Expr}{t:TA}
theorem XC (o:OkC X.prog X.w X.K X.mg X.base CX j x C m ps sp)(hr:Room k X.A)(hx:Passes CX X E)(ha:PA X (e::es) t)(hj:j<=k:=by decide)(hg:Gl X x:=by rfl)
  (hdb:(x == ("__debug__":Str))=false:=by decide) (hst:starEach (e::es) X.env=(false,eval e X.env)::starEach es X.env:=by rfl) (hpl:(backTo pos (starEach es X.env)).any (·.1)=false:=by rfl)
  (ht:eval (.Call (.Attribute (.Name x p) m apos) (e::es) [] pos) X.env=(do
   let ov <- eval (.Name x p) X.env
   standAt apos.atName
   let (f,first) <- holding [ov] (getMethod ov m pl)
   callWith pos f first (backTo pos (starEach (e::es) X.env)) (backToKw pos (keywordEach [] X.env))):=by rfl):PE X (.Call (.Attribute (.Name x p) m apos) (e::es) [] pos) (tCall sp [] E t):=by
 obtain⟨f,fd,F,b,c,mm⟩:=o.ex;exact V0 hg mm c (F.mono hj) hr b .nil hx ha hdb hst hpl ht
theorem Uj (o:OkI X.prog X.w X.K X.mg X.base CX j x C ps sp)(hr:Room k X.A)(hx:Passes CX X E)(ha:PA X (e::es) t)(hj:j+1<=k:=by decide)(hg:Gl X x:=by rfl)(hdb:(x == ("__debug__":Str))=false:=by decide)
  (he:starEach (e::es) X.env=(false,eval e X.env)::starEach es X.env:=by rfl) (hpl:(backTo pos (starEach es X.env)).any (·.1)=false:=by rfl):PE X (.Call (.Name x p) (e::es) [] pos) (tMake C sp [] E t):=by
 obtain⟨f,fd,F,b,c,mm⟩:=o.ex;exact pe_make c F (hr.mono hj) hg mm b .nil hx ha hdb he hpl
end
def spS (K:Fg)(n:Nat)(pre:List Int->List Int->Prop)(F:List Int->List Int->Int):Sp:=λvs H Q _=>∃(a:Addr) (xs is:List Int),is.length=n/\vs=.ref a::is.map V.int/\SqL K H a (xs.map V.int)/\pre xs is/\Q (.int (F xs is)) H
def BK:List Str:=["plain","plus","less","times","over"]
def KAt (cW cR cP:Addr)(H:Hp)(a:Addr)(z:Int):Prop:=∃C dx fs,H a=some (.ins C dx fs)/\((C=cW/\z=0)\/((C=cR\/C=cP)/\0<z))/\fs.lookup ("size":Str)=some (.int z)/\∀m∈BK,fs.lookup m=none
def pl (z n:Int):Int:=if z=0 then n else n % z
theorem kZ (h:0<z):pl z n=n % z:=by unfold pl;rw[ag (by lia)]
section
variable {X:Cx}{pins:List (Addr×Obj)}{σ:St}{H:Hp}{s:Shared}{h':Heap}
theorem Inv.uC {ch:List Addr}{t':Nat}(I:Inv X pins σ H s)(hf:∀b∈ch,FpOk X pins H b)(k:∀b o,b∉ch->s.heap.get? b=some o->h'.get? b=some o):Inv X pins σ H { s with heap:=h',toks:=t' }:=by
 have nit:∀b u,H b=some u->b∉ch:=λb u e z=>by rw[(hf b z).1]at e;cases e
 refine I.step (g':=s.gens) (d':=s.drawn) (ch:=ch) (λb hb=>⟨(hf b hb).2.2.2.1,(hf b hb).2.1,(hf b hb).2.2.2.2.1,(hf b hb).2.2.2.2.2⟩) (λb o _ _ hc e _=>k b o hc e) (λb o _ _ hc e _=>⟨o.slots,k b o hc e⟩) (λ_ _ _ _ n=>n)
  (λb o hc e=>⟨o,k b o hc e⟩) (λ_ _ e=>e) (λ_ _ _ e=>e) (λb ps e=>⟨#[],by rw[e];simp⟩) (λm hm=>?_) (λb u e=>?_) I.bare
 ·obtain⟨o,es,ep,ho,r⟩:=hm;exact⟨o,es,ep,k _ o (λz=>(hf _ z).2.1 rfl) ho,r⟩
 ·refine(I.hok b u e).stay (λc v hc q=>k c v ?_ q) (λ_ q=>q) λ_ _ q=>q;rcases hc with z|z
  ·rw[z];exact nit b u e
  ·exact nit c _ z
theorem Inv.track (I:Inv X pins σ H s)(f:FpOk X pins H T)(new:ObjOk X.prog X.w (upd H T o) s.heap T o):Inv X pins σ (upd H T o) s:=by
 obtain⟨f0,f1,f2,f3,f4,f5⟩:=f;have ne:∀{b:Addr} {u:HO},H b=some u->b≠T:=λe=>ne_of_none e f0;refine⟨I.ok,I.os,I.bare,⟨I.base.keep,I.base.slot,λb ob e n x=>?_,I.base.there,λb xs e=>?_,λb ob u e=>?_,λb ps e=>?_⟩,I.loc,I.cell,by rw[upd_ne (ck f1)];exact I.free,λx c e=>?_,λp hp=>?_,λb u e=>?_,I.len⟩
 ·have hb:b≠T:=λz=>by
   subst z;rcases f3 with z|z
   ·exact x z
   ·exact absurd (aD (aA e) z) (c7 _)
  rw[upd_ne hb];exact I.base.free b ob e n x
 ·have q:=I.base.tups b xs e;rw[upd_ne (ne q)];exact q
 ·have q:=I.base.frzs b ob u e;rw[upd_ne (ne q)];exact q
 ·obtain⟨m,q⟩:=I.base.tbls b ps e;exact⟨m,by rw[upd_ne (ne q)];exact q⟩
 ·rw[upd_ne (f4 x c e)];exact I.freeC x c e
 ·obtain⟨a1,a2,a3⟩:=I.pin p hp;exact⟨a1,by rw[upd_ne (f5 p hp)];exact a2,a3⟩
 ·by_cases c:b=T
  ·subst c;rw[upd_same]at e;cases e;exact new
  ·rw[upd_ne c]at e;exact(I.hok b u e).stay (λ_ _ _ q=>q) (λd q=>by rw[upd_ne (ne q)];exact q) (λd xs q=>by rw[upd_ne (ne q)];exact q) λd _ _ q=>by rw[upd_ne (ne q)];exact q
end
def Ite (K:Fg)(a:Addr):It:=
 ⟨λi H=>∃xs x,SqL K H a xs/\xs[i]?=some x,λi H v H'=>∃T y,v=.ref T/\H T=none/\H'=upd H T (.tup [.int i,y])/\∀xs,SqL K H a xs->xs[i]?=some y,λi H=>∃xs,SqL K H a xs/\xs.length<=i⟩
theorem Qi {P:Program}{w:World}{K:Fg}{els:List Expr}{kk:Nat}{tp:Pos}(a e it:Addr)(hne:e≠it):Turn P w K (.Tuple els kk tp) (Ite K a) [e,it] e (λi h=>(∃old,IsEnum h e it i old)/\h.IsListIter it a i) where
 mem:=by simp
 obj:=λi h st b hb=>by
  obtain⟨⟨old,he⟩,o,ho,_,hd⟩:=st;rcases aC.mp hb with rfl|hb
  ·exact⟨_,he,λv z=>by cases z⟩
  ·have q:b=it:=by simpa using hb
   subst q;exact⟨o,ho,λv z=>by rw[hd]at z;cases z⟩
 keep:=λi h h' st k=>by obtain⟨⟨old,he⟩,hit⟩:=st;exact⟨⟨old,k e (by simp) _ he⟩,hit.at λo q=>k it (by simp) o q⟩
 item:=by
  intro X hP hw hK hc i pins s σ H E I hf st hg;subst hP hw hK;obtain⟨xs,x,hq,hx⟩:=hg;obtain⟨⟨old,he⟩,hit⟩:=st;obtain⟨its,rv,p,hz⟩:=I.list hq;obtain⟨u,hu,ru⟩:=rv.get hx;refine wpAny_pyNext_enum_item he hit p.isList (x:=u) (by simpa using hu) hne λh1 ho hit1 hT hsz hk=>⟨_,rfl,?_⟩;refine wpAny_letOwnedTupleGo_enum ho λh2 he2 hs2=>?_;have Te:s.heap.objs.size≠e:=dX (aA he);have keep2:∀b o,b∉[e,it]->s.heap.get? b=some o->h2.get? b=some o:=λb o hb q=>by have b1:b≠e:=λz=>hb (by simp[z]);have b2:b≠it:=λz=>hb (by simp[z]);exact(hs2.2 b b1).trans (hk b o b1 b2 q)
  have I1:Inv X pins σ H { s with heap:=h2,toks:=s.toks+1 }:=I.uC hf keep2;have fT:FpOk X pins H s.heap.objs.size:=I.fpOk (aq _) (I.hok.fresh (aq _));have I2:=I1.track (o:=.tup [.int i,x]) fT ⟨by show 2<=sizeLine;decide,[.int i s.toks,u],.cons ⟨_,rfl⟩ (.cons ru .nil),⟨_,(hs2.2 _ Te).trans hT,rfl,_,rfl⟩⟩;refine⟨.ref s.heap.objs.size,_,I2,rfl,⟨_,x,rfl,fT.1,rfl,λys hy=>by rw[I.list_inj hy hq];exact hx⟩,⟨⟨_,by exact_mod_cast he2⟩,?_⟩,λb hb=>?_⟩
  ·obtain⟨o,q,r⟩:=hit1;exact⟨o,(hs2.2 it (ck hne)).trans q,r⟩
  ·rw[upd_ne]
   ·exact(hf b hb).1
   ·rcases aC.mp hb with rfl|hb
    ·exact ck Te
    ·have q:b=it:=by simpa using hb
     subst q;obtain⟨o,q,_⟩:=hit;exact be (aA q)
 done:=by intro X hP hw hK hc i pins s σ H E I hf st hg;subst hP hw hK;obtain⟨xs,hq,hx⟩:=hg;obtain⟨⟨old,he⟩,hit⟩:=st;obtain⟨its,rv,p,hz⟩:=I.list hq;have hl:=rv.length;exact wpAny_pyNext_enum_end (I.ok.hd hc) he hit p.isList (by simp;lia) λh1 eb=>⟨rfl,I.uC hf λb o hb q=>eb b o (λz=>hb (by simp[z])) q⟩
 self:=λA i s Q E st h=>by obtain⟨⟨old,he⟩,_⟩:=st;exact wpAny_pyIter_enum he h
theorem Gs:bootBuiltins "enumerate"=some (.type "enumerate"):=by decide +kernel
theorem Ig:bootBuiltins "reversed"=some (.type "reversed"):=by decide +kernel
def Vd (K:Fg)(ta:TA):TI:=λσ H R=>ta σ H λvs H1=>∃a,vs=[.ref a]/\(∃xs,SqL K H1 a xs)/\R (Ite K a) H1
theorem G3 {X:Cx}{els:List Expr}{kk:Nat}{tp:Pos}{l:Expr}{ta:TA}{p pos:Pos}(hg:Gl X "enumerate")(hm:X.mg "enumerate"=none)(ha:PA X [l] ta)(hs:starEach [l] X.env=[(false,eval l X.env)]:=by rfl) :
  PI X (.Tuple els kk tp) (.Call (.Name "enumerate" p) [l] [] pos) (Vd X.K ta):=by
 intro pins s σ H R I h;refine Call_ (ld_blt I hg hm Gs (cq (thn (ha pos pins s σ H _ I h) λus s1 ⟨vs,H1,I1,r1,q1⟩=>?_) hs rfl));obtain⟨a,rfl,⟨xs,hq⟩,q⟩:=q1;obtain⟨u,rfl,ru⟩:=vals1 r1;cases ru;obtain⟨its,rv,p',hz⟩:=I1.list hq;refine call_enumerate_list p'.isList λh1 he hit hsz hk=>?_;refine wpAny_pyIter_enum he ?_;have I2:Inv X pins σ H1 { s1 with heap:=h1 }:=I1.kept (t':=s1.toks) hk;refine⟨_,[s1.heap.objs.size+1,s1.heap.objs.size],_,_,H1,rfl,I2,Qi a (s1.heap.objs.size+1) s1.heap.objs.size (Nat.succ_ne_self _),⟨⟨_,he⟩,hit⟩,λb hb=>?_,q⟩;rcases aC.mp hb with rfl|hb
 ·exact I1.fpOk (iK _) (I1.hok.fresh (iK _))
 ·have e:b=s1.heap.objs.size:=by simpa using hb
  subst e;exact I1.fpOk (aq _) (I1.hok.fresh (aq _))
def Itv (K:Fg)(a:Addr)(n:Nat):It:=
 ⟨λi H=>i<n/\∃xs x,SqL K H a xs/\xs.length=n/\xs[n-1-i]?=some x,λi H v H'=>H'=H/\∀xs,SqL K H a xs->xs[n-1-i]?=some v,λi _=>i=n⟩
theorem Tc {P:Program}{w:World}{K:Fg}{tg:Expr}(a it:Addr)(n:Nat):Turn P w K tg (Itv K a n) [it] it (λi h=>h.IsRevIter it a ((n:Int)-1-i)) where
 mem:=by simp
 obj:=λi h st b hb=>by
  have e:b=it:=by simpa using hb
  subst e;obtain⟨o,ho,_,hd⟩:=st;exact⟨o,ho,λv z=>by rw[hd]at z;cases z⟩
 keep:=λi h h' st k=>st.at λo e=>k it (by simp) o e
 item:=by
  intro X hP hw hK hc i pins s σ H E I hf st hg;subst hP hw hK;obtain⟨hin,xs,x,hq,hn,hx⟩:=hg;obtain⟨its,rv,p,hz⟩:=I.list hq;obtain⟨u,hu,ru⟩:=rv.get hx;have e1:((n:Int)-1-(i:Nat))=((n-1-i:Nat):Int):=by lia
  have st':s.heap.IsRevIter it a ((n-1-i:Nat):Int):=by rw[<- e1];exact st
  refine wpAny_pyNext_rev_item st' p.isList (x:=u) (by simpa using hu) λh1 st1 sb=>?_;have I1:Inv X pins σ H { s with heap:=h1 }:=I.uC (t':=s.toks) hf λb o hb e=>(sb.2 b (λz=>hb (by simp[z]))).trans e;obtain⟨o,e,c,d⟩:=id st1;refine⟨u,rfl,go_of (s:={ s with heap:=h1 }) e c d (by decide) ⟨x,H,I1,ru,⟨rfl,λys hy=>by rw[I.list_inj hy hq];exact hx⟩,?_,λb hb=>(hf b hb).1⟩⟩;have e2:((n-1-i:Nat):Int)-1=(n:Int)-1-((i+1:Nat):Int):=by lia
  rw[e2]at st1;exact st1
 done:=by
  intro X hP hw hK hc i pins s σ H E I hf st hg;subst hP hw hK;subst hg;have e1:((i:Nat):Int)-1-(i:Nat) = -1:=by lia
  rw[e1]at st;exact wpAny_pyNext_rev_end (I.ok.hd hc) st λh1 eb=>⟨rfl,I.uC (t':=s.toks) hf λb o hb e=>eb b o (λz=>hb (by simp[z])) e⟩
 self:=λ_ _ _ _ _ st h=>wpAny_pyIter_revIter st h
def abM (K:Fg)(ta:TA):TI:=λσ H R=>ta σ H λvs H1=>∃a xs,vs=[.ref a]/\SqL K H1 a xs/\R (Itv K a xs.length) H1
theorem ZP (hg:Gl X "reversed")(hm:X.mg "reversed"=none)(ha:PA X [l] ta)(hs:starEach [l] X.env=[(false,eval l X.env)]:=by rfl) :
  PI X tg (.Call (.Name "reversed" p) [l] [] pos) (abM X.K ta):=by
 intro pins s σ H R I h;refine Call_ (ld_blt I hg hm Ig (cq (thn (ha pos pins s σ H _ I h) λus s1 ⟨vs,H1,I1,r1,q1⟩=>?_) hs rfl));obtain⟨a,xs,rfl,hq,q⟩:=q1;obtain⟨u,rfl,ru⟩:=vals1 r1;cases ru;obtain⟨its,rv,p',hz⟩:=I1.list hq;have hl:=rv.length;have st0:(s1.heap.push (revObj a ((its.toArray.size:Int)-1))).IsRevIter s1.heap.objs.size a ((its.toArray.size:Int)-1):=⟨_,bi _ rfl,rfl,rfl⟩;refine call_reversed_list p'.isList (wpAny_pyIter_revIter st0 ?_);have I2:Inv X pins σ H1 { s1 with heap:=s1.heap.push (revObj a ((its.toArray.size:Int)-1)) }:=I1.kept (t':=s1.toks) λb o e=>ay _ e;refine⟨_,[s1.heap.objs.size],_,_,H1,rfl,I2,Tc a _ xs.length,?_,λb hb=>?_,q⟩
 ·have e:((xs.length:Int)-1-((0:Nat):Int))=(its.toArray.size:Int)-1:=by rw[aw];lia
  rw[e];exact st0
 ·have e:b=s1.heap.objs.size:=by simpa using hb
  subst e;exact I1.fpOk (aq _) (I1.hok.fresh (aq _))
theorem Q0 {K:Fg}{a:Addr}{xs:List V}{g:TG}{tb:TS}{D:Ends}{σ:St}{H:Hp}(Pv:Nat->St->Hp->Prop)(h0:Pv 0 σ H)(hl:∀i σ H,i<=xs.length->Pv i σ H->SqL K H a xs)
  (hs:∀i x σ H T,xs[i]?=some x->Pv i σ H->H T=none->g (.ref T) σ (upd H T (.tup [.int i,x])) λσ2 H2=>tb { D with nx:=Pv (i+1),ct:=Pv (i+1),bk:=D.nx } σ2 H2) (hd:∀σ H,Pv xs.length σ H->D.nx σ H) :
  ∃W:Nat->Nat->St->Hp->Prop,(∃m,W 0 m σ H)/\∀i m σ H,W i m σ H ->
   ((Ite K a).stop i H/\D.nx σ H)\/((Ite K a).go i H/\∃N:St->Hp->Prop,(∀σ' H',N σ' H' -> ∃m',m'<m/\W (i+1) m' σ' H')/\∀x H',(Ite K a).yld i H x H' -> g x σ H' λσ2 H2=>tb { D with nx:=N,ct:=N,bk:=D.nx } σ2 H2):=by
 refine⟨λi m σ H=>m=xs.length-i/\i<=xs.length/\Pv i σ H,⟨xs.length,by simp,bq _,h0⟩,?_⟩;rintro i m σ H ⟨rfl,hi,p⟩;have q:=hl i σ H hi p;by_cases hlt:i<xs.length
 ·refine .inr ⟨⟨xs,xs[i],q,by simp[hlt]⟩,Pv (i+1),λσ' H' p'=>⟨xs.length-(i+1),by lia,rfl,hlt,p'⟩,λx H' y=>?_⟩;obtain⟨T,z,rfl,hT,rfl,hz⟩:=y;exact hs i z σ H T (hz xs q) p hT
 ·have e:i=xs.length:=by lia
  subst e;exact .inl ⟨⟨xs,q,aq _⟩,hd σ H p⟩
theorem Vm {K:Fg}{a:Addr}{xs:List V}{g:TG}{tb:TS}{D:Ends}{σ:St}{H:Hp}(Pv:Nat->St->Hp->Prop)(h0:Pv 0 σ H)(hl:∀i σ H,i<=xs.length->Pv i σ H->SqL K H a xs)
  (hs:∀i x σ H,i<xs.length->xs[xs.length-1-i]?=some x->Pv i σ H->g x σ H λσ2 H2=>tb { D with nx:=Pv (i+1),ct:=Pv (i+1),bk:=D.nx } σ2 H2) (hd:∀σ H,Pv xs.length σ H->D.nx σ H) :
  ∃W:Nat->Nat->St->Hp->Prop,(∃m,W 0 m σ H)/\∀i m σ H,W i m σ H ->
   ((Itv K a xs.length).stop i H/\D.nx σ H)\/((Itv K a xs.length).go i H/\∃N:St->Hp->Prop,(∀σ' H',N σ' H' -> ∃m',m'<m/\W (i+1) m' σ' H')/\∀x H',(Itv K a xs.length).yld i H x H' -> g x σ H' λσ2 H2=>tb { D with nx:=N,ct:=N,bk:=D.nx } σ2 H2):=by
 refine⟨λi m σ H=>m=xs.length-i/\i<=xs.length/\Pv i σ H,⟨xs.length,by simp,bq _,h0⟩,?_⟩;rintro i m σ H ⟨rfl,hi,p⟩;have q:=hl i σ H hi p;by_cases hlt:i<xs.length
 ·refine .inr ⟨⟨hlt,xs,xs[xs.length-1-i],q,rfl,by rw[ac (by lia)]⟩,Pv (i+1),λσ' H' p'=>⟨xs.length-(i+1),by lia,rfl,hlt,p'⟩,λx H' y=>?_⟩;obtain⟨rfl,hz⟩:=y;exact hs i x σ _ hlt (hz xs q) p
 ·have e:i=xs.length:=by lia
  subst e;exact .inl ⟨rfl,hd σ H p⟩
theorem int_at {ns:Li}{i:Nat}{x:V}(h:(ns.map V.int)[i]?=some x):∃n,x=.int n/\ns[i]?=some n:=by
 rw[az]at h;cases e:ns[i]? with
 |none=>rw[e]at h;cases h
 |some n=>rw[e]at h;exact⟨n,(aI h).symm,rfl⟩
theorem RM {ns:Li}{i:Nat}{n:Int}(h:ns[i]?=some n):n∈ns:=bQ h
theorem Rt {α:Type}{ns:List α}{i:Nat}{n:α}(h:ns[i]?=some n):i<ns.length:=(aj.mp h).1
theorem pF {α:Type}{ns:List α}{i:Nat}{n:α}(h:ns[i]?=some n):ns.take (i+1)=ns.take i++[n]:=by rw[List.take_add_one,h];rfl
abbrev uB:TT:=λ_ H Q=>Q true H
end L2
namespace FM
open L2
def jL (n:Int):Prop:=2<=n/\n<=9973/\∀d:Int,2<=d->d*d<=n->¬n % d=0
open Classical in
def isP (n:Int):Bool:=decide (jL n)
open Classical in
theorem JN (h:jL n):isP n=true:=by unfold isP;exact aK h
open Classical in
theorem CZ (h:¬jL n):isP n=false:=by unfold isP;exact aN h
open Classical in
def JF (n d:Int):Prop:=∀e:Int,2<=e->e<d->¬n % e=0
theorem JF.next (h:JF n d)(hd:¬n % d=0):JF n (d+1):=λe h1 h2=>by
 by_cases c:e=d
 ·rw[c];exact hd
 ·exact h e h1 (by lia)
theorem aa5 {d:Int}(h:2<=d):d<=d*d:=by have:=bC (show(1:Int)<=d by lia) (show(0:Int)<=d by lia);lia
theorem uI {d e:Int}(h0:0<=d)(h:d<=e):d*d<=e*e:=Int.mul_le_mul h h h0 (by lia)
theorem jL.out {n d:Int}(h:JF n d)(h2:2<=d)(lo:2<=n)(hi:n<=9973)(hd:¬d*d<=n):jL n:=⟨lo,hi,λe h1 he=>by
 by_cases c:e<d
 ·exact h e h1 c
 ·have:=uI (d:=d) (e:=e) (by lia) (by lia);lia⟩
theorem ZD:jL 2:=⟨by lia,by lia,λd h1 h2=>by have:=uI (d:=2) (e:=d) (by lia) h1;lia⟩
def F_P:List Int->Bool:=λns=>match ns with
 |[n]=>isP n
 |_=>false
def yes:List Int->Prop:=λ_=>True
theorem uq (z n:Int):pl z (pl z n)=pl z n:=by
 unfold pl;by_cases h:z=0
 ·rw[ah h,ah h]
 ·rw[ag h,ag h,fQ _ (gw z)]
theorem zP (z a b:Int):pl z (pl z a+b)=pl z (a+b):=by
 unfold pl;by_cases h:z=0
 ·rw[ah h,ah h,ah h]
 ·rw[ag h,ag h,ag h,Int.emod_add_emod]
theorem zY (z a b:Int):pl z (pl z a*b)=pl z (a*b):=by
 unfold pl;by_cases h:z=0
 ·rw[ah h,ah h,ah h]
 ·rw[ag h,ag h,ag h,fE,fQ _ (gw z),<- fE]
theorem zp (z a b:Int):pl z (a*pl z b)=pl z (a*b):=by rw[cu,zY,cu]
theorem Mi (z a b:Int):pl z (a+pl z b)=pl z (a+b):=by rw[ig,zP,ig]
theorem Aj (h:0<z):0<=pl z n/\pl z n<z:=by rw[kZ h];exact⟨a8 _ (by lia),aY _ h⟩
def j7 (xs:List Int):List Int:=(xs.reverse.dropWhile (· == 0)).reverse
theorem vG (xs:Li):j7 (xs++[0])=j7 xs:=by unfold j7;rw[iO];simp
theorem Av (xs:Li)(h:x≠0):j7 (xs++[x])=xs++[x]:=by unfold j7;rw[iO];simp[h]
theorem Dz (xs:Li):(j7 xs).length<=xs.length:=by unfold j7;have:=(List.dropWhile_sublist (· == 0) (l:=xs.reverse)).length_le;simpa using this
def ev:List Int->Int->Int
 |[],_=>0
 |n::r,x=>n+x*ev r x
theorem Vc (hx:x.natAbs<=X)(hX:1<=X):∀xs:List Int,(∀n∈xs,n.natAbs<=M)->(ev xs x).natAbs<=xs.length*M*X^xs.length
 |[],_=>by simp[ev]
 |n::r,h=>by
  have ih:=Vc hx hX r λm hm=>h m (ae _ hm);have hn:=h n af;show(n+x*ev r x).natAbs<=(r.length+1)*M*X^(r.length+1);have h1:(n+x*ev r x).natAbs<=n.natAbs+(x*ev r x).natAbs:=Int.natAbs_add_le _ _;have h2:(x*ev r x).natAbs<=X*(r.length*M*X^r.length):=by rw[iG];exact gG hx ih
  have h3:M<=M*X^(r.length+1):=Nat.le_mul_of_pos_right _ (dJ (by lia));have h4:X*(r.length*M*X^r.length)=r.length*M*X^(r.length+1):=by rw[fe,c8 X,gP]
  have h5:(r.length+1)*M*X^(r.length+1)=r.length*M*X^(r.length+1)+M*X^(r.length+1):=by rw[Nat.add_mul,Nat.one_mul,Nat.add_mul]
  lia
theorem horner (z x n e:Int):pl z (pl z e*pl z x+n)=pl z (n+x*e):=by rw[<- zP z (pl z e*pl z x) n,zY,zp,zP,cu e x,ig]
end FM
namespace L3
open PySem PySem.Spec PyProof.Rows L2
inductive PV where
 |int (n:Int)|bl (b:Bool)|non|str (s:Str)|ints (ns:List Int)|scr (ns:List Int)|lst (xs:List PV)|tup (xs:List PV)|ob (k:Nat) (z:Int)|ty (n:String)|cls (a:Addr)
structure Gx where
 ob:Nat->Hp->Addr->Int->Prop
 mono:∀k H H' a z,Same H H' -> ob k H a z->ob k H' a z
mutual
def At (K:Fg)(G:Gx)(H:Hp):PV->V->Prop
 | .int n,v=>v=.int n
 | .bl b,v=>v=.bl b
 | .non,v=>v=.non
 | .str s,v=>v=.str s
 | .ints ns,v=>∃a,v=.ref a/\Rd H a (.lst (ns.map V.int))
 | .scr ns,v=>∃a,v=.ref a/\SqL K H a (ns.map V.int)
 | .lst xs,v=>∃a vs,v=.ref a/\Rd H a (.lst vs)/\lY K G H xs vs
 | .tup xs,v=>∃a vs,v=.ref a/\H a=some (.tup vs)/\lY K G H xs vs
 | .ob k z,v=>∃a,v=.ref a/\G.ob k H a z
 | .ty n,v=>v=.ty n
 | .cls a,v=>v=.ref a
def lY (K:Fg)(G:Gx)(H:Hp):List PV->List V->Prop
 |[],vs=>vs=[]
 |p::ps,vs=>∃v r,vs=v::r/\At K G H p v/\lY K G H ps r
end
theorem jC (e:Same H H')(h:Rd H a (.lst xs)):Rd H' a (.lst xs):=by
 rcases h with h|⟨o,h⟩
 ·exact .inl (e _ _ h)
 ·exact .inr ⟨o,e _ _ h⟩
theorem QJ {K:Fg}{H H':Hp}{a:Addr}{xs:List V}(e:Same H H')(h:SqT K H a xs):SqT K H' a xs:=by
 rcases h with (h|⟨o,h⟩)|h
 ·exact .inl (.inl (e _ _ h))
 ·exact .inl (.inr ⟨o,e _ _ h⟩)
 ·exact .inr h
mutual
theorem At.mono {K:Fg}{G:Gx}{H H':Hp}(s:Same H H'):∀(p:PV) (v:V),At K G H p v->At K G H' p v
 | .int _,_,h=>h
 | .bl _,_,h=>h
 | .non,_,h=>h
 | .str _,_,h=>h
 | .ints _,_,h=>by obtain⟨a,e,q⟩:=h;exact⟨a,e,jC s q⟩
 | .scr _,_,h=>by obtain⟨a,e,q⟩:=h;exact⟨a,e,s.seq q⟩
 | .lst xs,_,h=>by obtain⟨a,vs,e,q,r⟩:=h;exact⟨a,vs,e,jC s q,lY.mono s xs vs r⟩
 | .tup xs,_,h=>by obtain⟨a,vs,e,q,r⟩:=h;exact⟨a,vs,e,s _ _ q,lY.mono s xs vs r⟩
 | .ob _ _,_,h=>by obtain⟨a,e,q⟩:=h;exact⟨a,e,G.mono _ _ _ _ _ s q⟩
 | .ty _,_,h=>h
 | .cls _,_,h=>h
theorem lY.mono {K:Fg}{G:Gx}{H H':Hp}(s:Same H H'):∀(ps:List PV) (vs:List V),lY K G H ps vs->lY K G H' ps vs
 |[],_,h=>h
 |p::ps,_,h=>by obtain⟨v,r,e,q,t⟩:=h;exact⟨v,r,e,At.mono s p v q,lY.mono s ps r t⟩
end
theorem lY.length {K:Fg}{G:Gx}{H:Hp}:∀{ps:List PV} {vs:List V},lY K G H ps vs->ps.length=vs.length
 |[],_,h=>by cases h;rfl
 |p::ps,_,h=>by obtain⟨v,r,rfl,_,t⟩:=h;rw[aR,aR,lY.length t]
theorem lY.get {K:Fg}{G:Gx}{H:Hp}:∀{ps:List PV} {vs:List V} {i:Nat} {v:V},lY K G H ps vs->vs[i]?=some v->∃p,ps[i]?=some p/\At K G H p v
 |[],_,i,v,h,e=>by cases h;simp at e
 |p::ps,_,0,v,h,e=>by obtain⟨w,r,rfl,q,t⟩:=h;simp at e;subst e;exact⟨p,rfl,q⟩
 |p::ps,_,i+1,v,h,e=>by obtain⟨w,r,rfl,q,t⟩:=h;obtain⟨p',e',q'⟩:=lY.get (i:=i) (v:=v) t (by simpa using e);exact⟨p',by simpa using e',q'⟩
theorem lY.at {K:Fg}{G:Gx}{H:Hp}:∀{ps:List PV} {vs:List V} {i:Nat} {p:PV},lY K G H ps vs->ps[i]?=some p->∃v,vs[i]?=some v/\At K G H p v
 |[],_,i,v,h,e=>by simp at e
 |p::ps,_,0,v,h,e=>by obtain⟨w,r,rfl,q,t⟩:=h;simp at e;subst e;exact⟨w,rfl,q⟩
 |p::ps,_,i+1,v,h,e=>by obtain⟨w,r,rfl,q,t⟩:=h;obtain⟨v',e',q'⟩:=lY.at (i:=i) (p:=v) t (by simpa using e);exact⟨v',by simpa using e',q'⟩
theorem lY.snoc {K:Fg}{G:Gx}{H:Hp}{p:PV}{v:V}:∀{ps:List PV} {vs:List V},lY K G H ps vs->At K G H p v->lY K G H (ps++[p]) (vs++[v])
 |[],_,h,q=>by cases h;exact⟨v,[],rfl,q,rfl⟩
 |p'::ps,_,h,q=>by obtain⟨w,r,rfl,q',t⟩:=h;exact⟨w,_,rfl,q',lY.snoc t q⟩
def mn (H:Hp)(O:Addr->Bool):Hp:=λb=>if O b=true then none else H b
theorem rW (h:mn H O b=some o):O b=false/\H b=some o:=by
 unfold mn at h;by_cases c:O b=true
 ·rw[ah c]at h;cases h
 ·rw[ag c]at h;exact⟨by simpa using c,h⟩
theorem qI (h:O b=false):mn H O b=H b:=by unfold mn;rw[ag (by rw[h];decide)]
theorem jT:Same (mn H O) H:=sy λ_ _ h=>(rW h).2
theorem lL (s:Same H H'):Same (mn H O) (mn H' O):=λb o h=>by obtain⟨c,e⟩:=rW h;rw[qI c];exact s b o e
theorem wg (k:∀a,O a=true->O' a=true):Same (mn H O') (mn H O):=sy λb o h=>by
 obtain⟨c,e⟩:=rW h;have:O b=false:=by
  cases z:O b with
  |false=>rfl
  |true=>rw[k b z]at c;cases c
 rw[qI this];exact e
def hide (a:Addr)(O:Addr->Bool):Addr->Bool:=λb=>b == a || O b
theorem hide_ne (h:b≠a):hide a O b=O b:=by unfold hide;simp[h]
theorem hide_self:hide a O a=true:=by unfold hide;simp
theorem qQ:∀b,O b=true->hide a O b=true:=λb h=>by unfold hide;simp[h]
theorem mY (s:Same H H')(ha:H a=none):Same (mn H O) (mn H' (hide a O)):=λb o h=>by obtain⟨c,e⟩:=rW h;rw[qI (by rw[hide_ne (ne_of_none e ha)];exact c)];exact s b o e
theorem Em (h:O a=true):mn (upd H a o) O=mn H O:=by
 funext b;unfold mn;by_cases c:O b=true
 ·rw[ah c,ah c]
 ·rw[ag c,ag c,upd_ne (λz=>c (by rw[z];exact h))]
inductive Sl where
 |un|fr (p:PV)|ow (p:PV)|o2 (xs ys:List Int)
abbrev En:=List Sl
structure Bs where
 H0:Hp
 Oc:Addr->Bool
def CJ (K:Fg)(G:Gx)(H:Hp):PV->List V->Prop
 | .ints ns,vs=>vs=ns.map V.int
 | .lst xs,vs=>lY K G H xs vs
 |_,_=>False
theorem CJ.mono {K:Fg}{G:Gx}{H H':Hp}(s:Same H H'){p:PV}{vs:List V}(h:CJ K G H p vs):CJ K G H' p vs:=by cases p<;>first|exact h|exact lY.mono s _ _ h
structure abI (B:Bs)(σ:L2.St)(H:Hp)(Z:En)(O:Addr->Bool)(i:Nat)(xs ys:List Int)(D a b:Addr):Prop where
 at_:σ[i]?=some (some (.ref D))
 oD:O D=true
 oa:O a=true
 ob:O b=true
 nD:B.H0 D=none
 na:B.H0 a=none
 nb:B.H0 b=none
 hD:H D=some (.lst [.ref a,.ref b])
 ha:H a=some (.lst (xs.map V.int))
 hb:H b=some (.lst (ys.map V.int))
 ab:a≠b
 un:∀(j:Nat) q c,Z[j]?=some (.ow q)->σ[j]?=some (some (.ref c))->c≠D/\c≠a/\c≠b
 one:∀(j:Nat) xs' ys',Z[j]?=some (.o2 xs' ys')->j=i
structure Rep (K:Fg)(G:Gx)(B:Bs)(σ:L2.St)(H:Hp)(Z:En)(O:Addr->Bool):Prop where
 same:Same B.H0 H
 cd:∀a,B.Oc a=true->B.H0 a≠none
 hid:∀a,B.Oc a=true->O a=true
 dom:∀a,O a=true->H a≠none
 vis:∀a,O a=true->B.Oc a=true\/B.H0 a=none
 fr:∀(i:Nat) p,Z[i]?=some (.fr p)->∃v,σ[i]?=some (some v)/\At K G (mn H O) p v
 ow:∀(i:Nat) p,Z[i]?=some (.ow p)->∃a vs,σ[i]?=some (some (.ref a))/\O a=true/\B.H0 a=none/\H a=some (.lst vs)/\CJ K G (mn H O) p vs
 inj:∀(i j:Nat) p q a,Z[i]?=some (.ow p)->Z[j]?=some (.ow q)->σ[i]?=some (some (.ref a))->σ[j]?=some (some (.ref a))->i=j
 len:σ.length=Z.length
 o2:∀(i:Nat) xs ys,Z[i]?=some (.o2 xs ys)->∃D a b,abI B σ H Z O i xs ys D a b
section
variable {K:Fg}{G:Gx}{B:Bs}{σ:L2.St}{H H':Hp}{Z:En}{O:Addr->Bool}{i:Nat}
theorem Rep.grow (R:Rep K G B σ H Z O)(s:Same H H'):Rep K G B σ H' Z O:=by
 refine⟨R.same.trans s,R.cd,R.hid,λa h z=>R.dom a h (s.free z),R.vis,λi p e=>?_,λi p e=>?_,R.inj,R.len,λi xs ys e=>let ⟨D,a,b,q⟩:=R.o2 i xs ys e;⟨D,a,b,q.at_,q.oD,q.oa,q.ob,q.nD,q.na,q.nb,s _ _ q.hD,s _ _ q.ha,s _ _ q.hb,q.ab,q.un,q.one⟩⟩
 ·obtain⟨v,e1,e2⟩:=R.fr i p e;exact⟨v,e1,At.mono (lL s) _ _ e2⟩
 ·obtain⟨a,vs,e1,e2,e3,e4,e5⟩:=R.ow i p e;exact⟨a,vs,e1,e2,e3,s _ _ e4,e5.mono (lL s)⟩
theorem jW {α:Type}{l:List α}{i j:Nat}{x y:α}(h:(l.set i x)[j]?=some y):(i=j/\y=x/\i<l.length)\/(i≠j/\l[j]?=some y):=by
 rw[de]at h;by_cases c:i=j
 ·rw[ah c]at h;by_cases c2:i<l.length
  ·rw[ah c2]at h;exact .inl ⟨c,(aI h).symm,c2⟩
  ·rw[ag c2]at h;cases h
 ·rw[ag c]at h;exact .inr ⟨c,h⟩
theorem oW {α:Type}{l:List α}{i j:Nat}{x:α}(h:i≠j):(l.set i x)[j]?=l[j]?:=by rw[de,ag h]
theorem yc {α:Type}{l:List α}{i:Nat}{x:α}(h:i<l.length):(l.set i x)[i]?=some x:=by rw[de,ah rfl,ah h]
theorem Rep.set (R:Rep K G B σ H Z O){p:PV}{v:V}(h:At K G (mn H O) p v):Rep K G B (σ.set i (some v)) H (Z.set i (.fr p)) O:=by
 refine⟨R.same,R.cd,R.hid,R.dom,R.vis,λj q e=>?_,λj q e=>?_,λj k q r a e1 e2 e3 e4=>?_,by rw[bB,bB];exact R.len,λj xs ys e=>?_⟩
 ·rcases jW e with⟨rfl,e,l⟩|⟨n,e⟩
  ·cases e;exact⟨v,yc (by rw[R.len];exact l),h⟩
  ·rw[oW n];exact R.fr j q e
 ·rcases jW e with⟨rfl,e,l⟩|⟨n,e⟩
  ·cases e
  ·rw[oW n];exact R.ow j q e
 ·rcases jW e1 with⟨rfl,e,l⟩|⟨n,e⟩
  ·cases e
  ·rcases jW e2 with⟨rfl,e',l'⟩|⟨n',e'⟩
   ·cases e'
   ·rw[oW n]at e3;rw[oW n']at e4;exact R.inj j k q r a e e' e3 e4
 ·rcases jW e with⟨rfl,e,l⟩|⟨n,e⟩
  ·cases e
  ·obtain⟨D,a,b,q⟩:=R.o2 j xs ys e;refine⟨D,a,b,by rw[oW n];exact q.at_,q.oD,q.oa,q.ob,q.nD,q.na,q.nb,q.hD,q.ha,q.hb,q.ab,λk r c e1 e2=>?_,λk xs' ys' e1=>?_⟩
   ·rcases jW e1 with⟨_,e',_⟩|⟨n',e'⟩
    ·cases e'
    ·rw[oW n']at e2;exact q.un k r c e' e2
   ·rcases jW e1 with⟨_,e',_⟩|⟨n',e'⟩
    ·cases e'
    ·exact q.one k xs' ys' e'
theorem Rep.new (R:Rep K G B σ H Z O){p:PV}{a:Addr}{vs:List V}(s:Same H H')(ha:H a=none)(he:H' a=some (.lst vs))(h:CJ K G (mn H' (hide a O)) p vs):Rep K G B (σ.set i (some (.ref a))) H' (Z.set i (.ow p)) (hide a O):=by
 refine⟨R.same.trans s,R.cd,λb z=>qQ b (R.hid b z),λb z y=>?_,λb z=>?_,λj q e=>?_,λj q e=>?_,λj k q r b e1 e2 e3 e4=>?_,by rw[bB,bB];exact R.len,λj xs ys e=>?_⟩
 ·by_cases c:b=a
  ·subst c;rw[he]at y;cases y
  ·rw[hide_ne c]at z;exact R.dom b z (s.free y)
 ·by_cases c:b=a
  ·subst c;exact .inr (R.same.free ha)
  ·rw[hide_ne c]at z;exact R.vis b z
 ·rcases jW e with⟨rfl,e,l⟩|⟨n,e⟩
  ·cases e
  ·obtain⟨v,e1,e2⟩:=R.fr j q e;exact⟨v,by rw[oW n];exact e1,At.mono (mY s ha) _ _ e2⟩
 ·rcases jW e with⟨rfl,e,l⟩|⟨n,e⟩
  ·cases e;exact⟨a,vs,yc (by rw[R.len];exact l),hide_self,R.same.free ha,he,h⟩
  ·obtain⟨b,us,e1,e2,e3,e4,e5⟩:=R.ow j q e;exact⟨b,us,by rw[oW n];exact e1,qQ b e2,e3,s _ _ e4,e5.mono (mY s ha)⟩
 ·have old:∀(m:Nat) q,Z[m]?=some (.ow q)->σ[m]?=some (some (.ref a))->False:=λm q e z=>by obtain⟨b,us,e1,_,_,e4,_⟩:=R.ow m q e;rw[z]at e1;cases e1;rw[ha]at e4;cases e4
  rcases jW e1 with⟨rfl,e,l⟩|⟨n,e⟩
  ·rcases jW e2 with⟨rfl,e',l'⟩|⟨n',e'⟩
   ·rfl
   ·rw[yc (by rw[R.len];exact l)]at e3;cases e3;rw[oW n']at e4;exact(old k r e' e4).elim
  ·rcases jW e2 with⟨rfl,e',l'⟩|⟨n',e'⟩
   ·rw[yc (by rw[R.len];exact l')]at e4;cases e4;rw[oW n]at e3;exact(old j q e e3).elim
   ·rw[oW n]at e3;rw[oW n']at e4;exact R.inj j k q r b e e' e3 e4
 ·rcases jW e with⟨rfl,e,l⟩|⟨n,e⟩
  ·cases e
  ·obtain⟨D,a1,b1,q⟩:=R.o2 j xs ys e;refine⟨D,a1,b1,by rw[oW n];exact q.at_,qQ _ q.oD,qQ _ q.oa,qQ _ q.ob,q.nD,q.na,q.nb,s _ _ q.hD,s _ _ q.ha,s _ _ q.hb,q.ab,λk r c e1 e2=>?_,λk xs' ys' e1=>?_⟩
   ·rcases jW e1 with⟨rfl,e',l'⟩|⟨n',e'⟩
    ·rw[yc (by rw[R.len];exact l')]at e2;cases e2;exact⟨ck (ne_of_none q.hD ha),ck (ne_of_none q.ha ha),ck (ne_of_none q.hb ha)⟩
    ·rw[oW n']at e2;exact q.un k r c e' e2
   ·rcases jW e1 with⟨_,e',_⟩|⟨n',e'⟩
    ·cases e'
    ·exact q.one k xs' ys' e'
theorem Rep.change (R:Rep K G B σ H Z O){p p':PV}{a:Addr}{vs:List V}(e:Z[i]?=some (.ow p))(ea:σ[i]?=some (some (.ref a)))(h:CJ K G (mn H O) p' vs):Rep K G B σ (upd H a (.lst vs)) (Z.set i (.ow p')) O:=by
 obtain⟨a',us,e1,e2,e3,e4,e5⟩:=R.ow i p e;rw[ea]at e1;cases e1;have hl:i<Z.length:=(aj.mp e).1;refine⟨λb o z=>?_,R.cd,R.hid,λb z y=>?_,R.vis,λj q ej=>?_,λj q ej=>?_,λj k q r b j1 j2 j3 j4=>?_,by rw[bB];exact R.len,λj xs ys ej=>?_⟩
 ·rw[upd_ne (ne_of_none z e3)];exact R.same b o z
 ·by_cases c:b=a
  ·subst c;rw[upd_same]at y;cases y
  ·rw[upd_ne c]at y;exact R.dom b z y
 ·rw[Em e2];rcases jW ej with⟨_,e',_⟩|⟨_,e'⟩
  ·cases e'
  ·exact R.fr j q e'
 ·rw[Em e2];rcases jW ej with⟨rfl,e',_⟩|⟨n,e'⟩
  ·cases e';exact⟨a,vs,ea,e2,e3,upd_same,h⟩
  ·obtain⟨b,ws,f1,f2,f3,f4,f5⟩:=R.ow j q e';refine⟨b,ws,f1,f2,f3,?_,f5⟩;rw[upd_ne]
   ·exact f4
   ·intro z;subst z;exact n (R.inj i j p q b e e' ea f1)
 ·have back:∀(m:Nat) q,(Z.set i (.ow p'))[m]?=some (.ow q)->∃q',Z[m]?=some (.ow q'):=λm q z=>by
   rcases jW z with⟨rfl,_,_⟩|⟨_,z⟩
   ·exact⟨p,e⟩
   ·exact⟨q,z⟩
  obtain⟨q',y1⟩:=back j q j1;obtain⟨r',y2⟩:=back k r j2;exact R.inj j k q' r' b y1 y2 j3 j4
 ·rcases jW ej with⟨rfl,e',_⟩|⟨n,e'⟩
  ·cases e'
  ·obtain⟨D,a1,b1,q⟩:=R.o2 j xs ys e';obtain⟨u1,u2,u3⟩:=q.un i p a e ea;refine⟨D,a1,b1,q.at_,q.oD,q.oa,q.ob,q.nD,q.na,q.nb,by rw[upd_ne (ck u1)];exact q.hD,by rw[upd_ne (ck u2)];exact q.ha,by rw[upd_ne (ck u3)];exact q.hb,q.ab,λk r c e1 e2=>?_,λk xs' ys' e1=>?_⟩
   ·rcases jW e1 with⟨rfl,_,_⟩|⟨_,e1⟩
    ·exact q.un i p c e e2
    ·exact q.un k r c e1 e2
   ·rcases jW e1 with⟨_,e',_⟩|⟨n',e'⟩
    ·cases e'
    ·exact q.one k xs' ys' e'
def wu (a:Addr)(O:Addr->Bool):Addr->Bool:=λb=>if b=a then false else O b
theorem uD (h:b≠a):wu a O b=O b:=by unfold wu;rw[ag h]
theorem Dt:wu a O a=false:=by unfold wu;rw[ah rfl]
theorem El:∀b,wu a O b=true->O b=true:=λb h=>by
 by_cases c:b=a
 ·subst c;rw[Dt]at h;cases h
 ·rw[uD c]at h;exact h
def frz (Z:En)(i:Nat):En:=match Z[i]? with
 |some (.ow p)=>Z.set i (.fr p)
 |_=>Z
theorem Rep.freeze (R:Rep K G B σ H Z O)(i:Nat):∃O',Rep K G B σ H (frz Z i) O':=by
 unfold frz;split
 ·rename_i p e;obtain⟨a,vs,e1,e2,e3,e4,e5⟩:=R.ow i p e;have sub:Same (mn H O) (mn H (wu a O)):=wg El;have sees:Rd (mn H (wu a O)) a (.lst vs):=.inl (by rw[qI Dt];exact e4);have hp:At K G (mn H (wu a O)) p (.ref a):=by
   cases p<;>first
    |exact False.elim e5
    |(have e5:=e5.mono sub;exact⟨a,vs,rfl,sees,e5⟩)
    |(have e5':vs=_:=e5;subst e5';exact⟨a,rfl,sees⟩)
  refine⟨wu a O,R.same,R.cd,λb z=>?_,λb z=>R.dom b (El b z),λb z=>R.vis b (El b z),λj q ej=>?_,λj q ej=>?_,λj k q r b j1 j2 j3 j4=>?_,by rw[bB];exact R.len,λj xs ys ej=>?_⟩
  ·rw[uD]
   ·exact R.hid b z
   ·intro y;subst y;exact R.cd b z e3
  ·rcases jW ej with⟨rfl,e',_⟩|⟨n,e'⟩
   ·cases e';exact⟨.ref a,e1,hp⟩
   ·obtain⟨v,f1,f2⟩:=R.fr j q e';exact⟨v,f1,At.mono sub _ _ f2⟩
  ·rcases jW ej with⟨rfl,e',_⟩|⟨n,e'⟩
   ·cases e'
   ·obtain⟨b,ws,f1,f2,f3,f4,f5⟩:=R.ow j q e';refine⟨b,ws,f1,?_,f3,f4,f5.mono sub⟩;rw[uD]
    ·exact f2
    ·intro z;subst z;exact n (R.inj i j p q b e e' e1 f1)
  ·rcases jW j1 with⟨_,e',_⟩|⟨_,y1⟩
   ·cases e'
   ·rcases jW j2 with⟨_,e',_⟩|⟨_,y2⟩
    ·cases e'
    ·exact R.inj j k q r b y1 y2 j3 j4
  ·rcases jW ej with⟨rfl,e',_⟩|⟨n,e'⟩
   ·cases e'
   ·obtain⟨D,a1,b1,q⟩:=R.o2 j xs ys e';obtain⟨u1,u2,u3⟩:=q.un i p a e e1;refine⟨D,a1,b1,q.at_,by rw[uD (ck u1)];exact q.oD,by rw[uD (ck u2)];exact q.oa,by rw[uD (ck u3)];exact q.ob,q.nD,q.na,q.nb,q.hD,q.ha,q.hb,q.ab,λk r c e1 e2=>?_,λk xs' ys' e1=>?_⟩
    ·rcases jW e1 with⟨_,e',_⟩|⟨_,e1⟩
     ·cases e'
     ·exact q.un k r c e1 e2
    ·rcases jW e1 with⟨_,e',_⟩|⟨n',e'⟩
     ·cases e'
     ·exact q.one k xs' ys' e'
 ·exact⟨O,R⟩
def Bs.at (B:Bs)(H:Hp)(O:Addr->Bool):Bs:=⟨λb=>if (O b && (B.H0 b).isNone)=true then none else H b,B.Oc⟩
theorem Bs.at_of (h:O b=false\/B.H0 b≠none):(B.at H O).H0 b=H b:=by
 show(if (O b && (B.H0 b).isNone)=true then none else H b)=H b;rw[ag];rcases h with h|h
 ·rw[h];simp
 ·cases e:B.H0 b with
  |none=>exact absurd e h
  |some o=>simp
theorem Rep.rebase (R:Rep K G B σ H Z O):Rep K G (B.at H O) σ H Z O:=by
 refine⟨λb o z=>?_,λa z=>?_,R.hid,R.dom,λa z=>?_,R.fr,λi p e=>?_,R.inj,R.len,λi xs ys e=>?_⟩
 ·have z:(if (O b && (B.H0 b).isNone)=true then none else H b)=some o:=z;by_cases c:(O b && (B.H0 b).isNone)=true
  ·rw[ah c]at z;cases z
  ·rw[ag c]at z;exact .of z
 ·rw[Bs.at_of (.inr (R.cd a z))];exact R.dom a (R.hid a z)
 ·rcases R.vis a z with y|y
  ·exact .inl y
  ·refine .inr ?_;show(if (O a && (B.H0 a).isNone)=true then none else H a)=none;rw[ah (by rw[z,y];rfl)]
 ·obtain⟨a,vs,e1,e2,e3,e4,e5⟩:=R.ow i p e;refine⟨a,vs,e1,e2,?_,e4,e5⟩;show(if (O a && (B.H0 a).isNone)=true then none else H a)=none;rw[ah (by rw[e2,e3];rfl)]
 ·obtain⟨D,a,b,q⟩:=R.o2 i xs ys e;have z:∀c,O c=true->B.H0 c=none->(B.at H O).H0 c=none:=λc h1 h2=>by show(if (O c && (B.H0 c).isNone)=true then none else H c)=none;rw[ah (by rw[h1,h2];rfl)]
  exact⟨D,a,b,q.at_,q.oD,q.oa,q.ob,z D q.oD q.nD,z a q.oa q.na,z b q.ob q.nb,q.hD,q.ha,q.hb,q.ab,q.un,q.one⟩
theorem Rep.nZ (R:Rep K G B σ H Z O):Same B.H0 (B.at H O).H0:=λb o z=>by rw[Bs.at_of (.inr (by rw[z];exact λy=>by cases y))];exact R.same b o z
theorem Rep.vQ (B:Bs)(H:Hp)(O:Addr->Bool):Same (mn H O) (B.at H O).H0:=sy λb o z=>by obtain⟨c,e⟩:=rW z;rw[Bs.at_of (.inl c)];exact e
theorem Rep.KQ (R:Rep K G B σ H Z O)(R':Rep K G (B.at H O) σ' H' Z' O'):Rep K G B σ' H' Z' O':=by
 refine⟨R.nZ.trans R'.same,R.cd,R'.hid,R'.dom,λa z=>(R'.vis a z).imp id λy=>R.nZ.free y,R'.fr,λi p e=>?_,R'.inj,R'.len,λi xs ys e=>?_⟩
 ·obtain⟨a,vs,e1,e2,e3,e4,e5⟩:=R'.ow i p e;exact⟨a,vs,e1,e2,R.nZ.free e3,e4,e5⟩
 ·obtain⟨D,a,b,q⟩:=R'.o2 i xs ys e;exact⟨D,a,b,q.at_,q.oD,q.oa,q.ob,R.nZ.free q.nD,R.nZ.free q.na,R.nZ.free q.nb,q.hD,q.ha,q.hb,q.ab,q.un,q.one⟩
theorem Rep.seen (R:Rep K G B σ H Z O)(R':Rep K G (B.at H O) σ' H' Z' O'):Same (mn H O) (mn H' O'):=λb o z=>by
 obtain⟨c,e⟩:=rW z;have z0:(B.at H O).H0 b=some o:=by rw[Bs.at_of (.inl c)];exact e
 rw[qI]
 ·exact R'.same b o z0
 ·cases y:O' b with
  |false=>rfl
  |true=>
   rcases R'.vis b y with y|y
   ·rw[R.hid b y]at c;cases c
   ·rw[z0]at y;cases y
end
def yl (Z:En)(i:Nat):Int:=match Z[i]? with
 |some (.fr (.int n))=>n
 |_=>0
def isI (Z:En)(i:Nat):Prop:=Z[i]?=some (.fr (.int (yl Z i)))
def getL (Z:En)(i:Nat):List Int:=match Z[i]? with
 |some (.fr (.ints ns))=>ns
 |some (.ow (.ints ns))=>ns
 |some (.fr (.scr ns))=>ns
 |_=>[]
def isL (Z:En)(i:Nat):Prop:=Z[i]?=some (.fr (.ints (getL Z i)))
def ZL (Z:En)(i:Nat):Prop:=Z[i]?=some (.ow (.ints (getL Z i)))
def Ks (Z:En)(i:Nat):Prop:=isL Z i\/ZL Z i\/Z[i]?=some (.fr (.scr (getL Z i)))
def PJ (Z:En)(i:Nat):PV:=match Z[i]? with
 |some (.fr p)=>p
 |some (.ow p)=>p
 |_=>.non
def isF (Z:En)(i:Nat):Prop:=Z[i]?=some (.fr (PJ Z i))
def ab1 (Z:En)(i:Nat):Str:=match Z[i]? with
 |some (.fr (.str s))=>s
 |_=>Str.empty
def isS (Z:En)(i:Nat):Prop:=Z[i]?=some (.fr (.str (ab1 Z i)))
section
variable {K:Fg}{G:Gx}{B:Bs}{σ:L2.St}{H H':Hp}{Z:En}{O:Addr->Bool}{i:Nat}
theorem Rep.Rk (R:Rep K G B σ H Z O)(h:Ks Z i):∃a,σ[i]?=some (some (.ref a))/\SqL K H a ((getL Z i).map V.int):=by
 rcases h with h|h|h
 ·obtain⟨v,e1,a,e2,e3⟩:=R.fr i _ h;subst e2;exact⟨a,e1,.inl (jC jT e3)⟩
 ·obtain⟨a,vs,e1,e2,e3,e4,e5⟩:=R.ow i _ h;subst e5;exact⟨a,e1,.inl (.inl e4)⟩
 ·obtain⟨v,e1,a,e2,e3⟩:=R.fr i _ h;subst e2;exact⟨a,e1,jT.seq e3⟩
end
def tX (K:Fg)(G:Gx)(C:En->Prop)(g:En->PV):TE:=λσ H Q=>∃B Z O,Rep K G B σ H Z O/\C Z/\∀v H',Same H H' -> At K G (mn H' O) (g Z) v->Q v H'
def Gp (K:Fg)(G:Gx)(C:En->Prop)(g:En->List Int):TE:=λσ H Q=>∃B Z O,Rep K G B σ H Z O/\C Z/\∀a H',Same H H' -> H a=none->H' a=some (.lst ((g Z).map V.int))->Q (.ref a) H'
def yU (K:Fg)(G:Gx)(C:En->Prop)(g:En->List PV):TE:=λσ H Q=>∃B Z O,Rep K G B σ H Z O/\C Z/\∀a vs H',Same H H' -> H a=none->H' a=some (.lst vs)->lY K G (mn H' (hide a O)) (g Z) vs->Q (.ref a) H'
def Ir (K:Fg)(G:Gx)(C:En->Prop)(g:En->List PV):TA:=λσ H Q=>∃B Z O,Rep K G B σ H Z O/\C Z/\∀vs H',Same H H' -> lY K G (mn H' O) (g Z) vs->Q vs H'
def vg (K:Fg)(G:Gx)(C:En->Prop)(p:En->Prop)[∀Z,Decidable (p Z)]:TT:=λσ H Q=>∃B Z O,Rep K G B σ H Z O/\C Z/\∀H',Same H H' -> Q (decide (p Z)) H'
abbrev mV (K:Fg)(G:Gx)(C:En->Prop)(g:En->Int):TE:=tX K G C λZ=>.int (g Z)
abbrev K8 (K:Fg)(G:Gx)(C:En->Prop)(g:En->List Int):TE:=tX K G C λZ=>.ints (g Z)
abbrev TF (K:Fg)(G:Gx)(C:En->Prop)(p:En->Prop)[∀Z,Decidable (p Z)]:TE:=tX K G C λZ=>.bl (decide (p Z))
abbrev tXS (K:Fg)(G:Gx)(C:En->Prop)(g:En->Str):TE:=tX K G C λZ=>.str (g Z)
section
variable {X:Cx}{G:Gx}{a b:Expr}{pos:Pos}{Ca Cb:En->Prop}{ga gb:En->Int}{i:Nat}{x:Str}{e:Expr}{t:TE}{C:En->Prop}{g:En->PV}{gl hl:En->List Int}
theorem uQ (h:PE X e t)(k:∀B σ H Z O Q,Rep X.K G B σ H Z O->C Z->(∀v H',Same H H' -> At X.K G (mn H' O) (g Z) v->Q v H')->t σ H Q):PE X e (tX X.K G C g):=
 λpins s σ H Q I ⟨B,Z,O,R,c,q⟩=>h pins s σ H Q I (k B σ H Z O Q R c q)
theorem JS (h:PE X e t)(k:∀B σ H Z O Q,Rep X.K G B σ H Z O->C Z->(∀a H',Same H H' -> H a=none->H' a=some (.lst ((gl Z).map V.int))->Q (.ref a) H')->t σ H Q):PE X e (Gp X.K G C gl):=
 λpins s σ H Q I ⟨B,Z,O,R,c,q⟩=>h pins s σ H Q I (k B σ H Z O Q R c q)
theorem j9 (h:PE X e (Gp X.K G C gl)):PE X e (K8 X.K G C gl):=uQ h λB σ H Z O Q R c q=>⟨B,Z,O,R,c,λa H' s n e=>q _ H' s ⟨a,rfl,.inl (by
 rw[qI]
 ·exact e
 ·cases z:O a with
  |false=>rfl
  |true=>exact absurd n (R.dom a z))⟩⟩
theorem uK (h:PE X e (yU X.K G C gp)):PE X e (tX X.K G C λZ=>.lst (gp Z)):=uQ h λB σ H Z O Q R c q=>⟨B,Z,O,R,c,λa vs H' s n e al=>q _ H' s ⟨a,vs,rfl,.inl (by
 rw[qI]
 ·exact e
 ·cases z:O a with
  |false=>rfl
  |true=>exact absurd n (R.dom a z)),lY.mono (wg qQ) _ _ al⟩⟩
theorem jo:PE X (.Constant (.int n) j pos) (mV X.K G (λ_=>True) λ_=>n):=uQ pe_int λ_ _ H _ _ _ _ _ q=>q _ H (Same.refl H) rfl
theorem yw:PE X (.Constant (.bool n) j pos) (tX X.K G (λ_=>True) λ_=>.bl n):=uQ pe_bl λ_ _ H _ _ _ _ _ q=>q _ H (Same.refl H) rfl
theorem Uw:PE X (.Constant .none j pos) (tX X.K G (λ_=>True) λ_=>.non):=uQ pe_non λ_ _ H _ _ _ _ _ q=>q _ H (Same.refl H) rfl
theorem Ti:PE X (.Constant (.str n) j pos) (tXS X.K G (λ_=>True) λ_=>n):=uQ pe_str λ_ _ H _ _ _ _ _ q=>q _ H (Same.refl H) rfl
theorem sO (hg:Gl X x)(hm:X.mg x=none)(hv:bootBuiltins x=some (.type u))(hn:x≠"__name__":=by decide)(hd:(x == ("__debug__":Str))=false:=by decide):PE X (.Name x pos) (tX X.K G (λ_=>True) λ_=>.ty u):=
 uQ (pe_bltn (v:=.ty u) hg hm hv rfl hn hd) λ_ _ H _ _ _ _ _ q=>q _ H (Same.refl H) rfl
theorem V5 (hg:Gl X x)(hm:X.mg x=some (.ref c))(hd:(x == ("__debug__":Str))=false:=by decide):PE X (.Name x pos) (tX X.K G (λ_=>True) λ_=>.cls c):=
 uQ (pe_glob (v:=.ref c) hg hm rfl hd) λ_ _ H _ _ _ _ _ q=>q _ H (Same.refl H) rfl
theorem xv (i:Nat)(hN:X.N[i]?=some x:=by rfl)(hv:Vis X.env.scope x:=by first|exact Or.inl rfl|exact Or.inr (Or.inl rfl)|exact Or.inr (Or.inr rfl))
  (hd:(x == ("__debug__":Str))=false:=by decide) (hcd:(x == ("__classdict__":Str))=false:=by decide):PE X (.Name x pos) (tX X.K G (λZ=>isF Z i) λZ=>PJ Z i):=
 uQ (pe_var hN hv hd hcd) λ_ _ H _ _ _ R c q=>let ⟨v,e,h⟩:=R.fr i _ c;⟨v,e,q v H (Same.refl H) h⟩
theorem xn (i:Nat)(hN:X.N[i]?=some x:=by rfl)(hv:Vis X.env.scope x:=by first|exact Or.inl rfl|exact Or.inr (Or.inl rfl)|exact Or.inr (Or.inr rfl))
  (hd:(x == ("__debug__":Str))=false:=by decide) (hcd:(x == ("__classdict__":Str))=false:=by decide):PE X (.Name x pos) (mV X.K G (λZ=>isI Z i) λZ=>yl Z i):=
 uQ (pe_var hN hv hd hcd) λ_ _ H _ _ _ R c q=>let ⟨v,e,h⟩:=R.fr i _ c;⟨v,e,q v H (Same.refl H) h⟩
theorem xl (i:Nat)(hN:X.N[i]?=some x:=by rfl)(hv:Vis X.env.scope x:=by first|exact Or.inl rfl|exact Or.inr (Or.inl rfl)|exact Or.inr (Or.inr rfl))
  (hd:(x == ("__debug__":Str))=false:=by decide) (hcd:(x == ("__classdict__":Str))=false:=by decide):PE X (.Name x pos) (K8 X.K G (λZ=>isL Z i) λZ=>getL Z i):=
 uQ (pe_var hN hv hd hcd) λ_ _ H _ _ _ R c q=>let ⟨v,e,h⟩:=R.fr i _ c;⟨v,e,q v H (Same.refl H) h⟩
theorem xr (i:Nat)(hN:X.N[i]?=some x:=by rfl)(hv:Vis X.env.scope x:=by first|exact Or.inl rfl|exact Or.inr (Or.inl rfl)|exact Or.inr (Or.inr rfl))
  (hd:(x == ("__debug__":Str))=false:=by decide) (hcd:(x == ("__classdict__":Str))=false:=by decide):PE X (.Name x pos) (tX X.K G (λZ=>Z[i]?=some (.fr (.scr (getL Z i)))) λZ=>.scr (getL Z i)):=
 uQ (pe_var hN hv hd hcd) λ_ _ H _ _ _ R c q=>let ⟨v,e,h⟩:=R.fr i _ c;⟨v,e,q v H (Same.refl H) h⟩
theorem two {r:R2}{ga gb:En->PV}{σ:L2.St}{B:Bs}{O:Addr->Bool}(R:Rep X.K G B σ H Z O)(ca:Ca Z)(cb:Cb Z)(q:∀v u H1 H2,Same H H1->Same H1 H2->At X.K G (mn H2 O) (ga Z) v->At X.K G (mn H2 O) (gb Z) u->r v u H2 Q) :
  tOp r (tX X.K G Ca ga) (tX X.K G Cb gb) σ H Q:=
 ⟨B,Z,O,R,ca,λv H1 s1 a1=>⟨B,Z,O,R.grow s1,cb,λu H2 s2 a2=>q v u H1 H2 s1 s2 (At.mono (lL s2) _ _ a1) a2⟩⟩
theorem Nj {op:Operator}{C:Int->Int->Prop}{g:Int->Int->Int}(ho:OpR X (binaryOp op) (rI C λi j=>.int (g i j)))(ha:PE X a (mV X.K G Ca ga))(hb:PE X b (mV X.K G Cb gb)) :
  PE X (.BinOp a op b pos) (mV X.K G (λZ=>Ca Z/\Cb Z/\C (ga Z) (gb Z)) λZ=>g (ga Z) (gb Z)):=
 uQ (pe_op ho ha hb) λ_ _ _ _ _ _ R c q=>two R c.1 c.2.1 λ_ _ _ H2 s1 s2 a1 a2=>⟨_,_,a1,a2,c.2.2,q _ H2 (s1.trans s2) rfl⟩
theorem QS {op:Operator}{g:Int->Int->Int}(ho:OpR X (binaryOp op) (rI0 λi j=>.int (g i j)))(ha:PE X a (mV X.K G Ca ga))(hb:PE X b (mV X.K G Cb gb)) :
  PE X (.BinOp a op b pos) (mV X.K G (λZ=>Ca Z/\Cb Z) λZ=>g (ga Z) (gb Z)):=
 uQ (pe_op ho ha hb) λ_ _ _ _ _ _ R c q=>two R c.1 c.2 λ_ _ _ H2 s1 s2 a1 a2=>⟨_,_,a1,a2,q _ H2 (s1.trans s2) rfl⟩
theorem lR (ha:PE X a (mV X.K G Ca ga))(hb:PE X b (mV X.K G Cb gb)):PE X (.BinOp a .Add b pos) (mV X.K G (λZ=>Ca Z/\Cb Z) λZ=>ga Z+gb Z):=QS op_add ha hb
theorem oR (ha:PE X a (mV X.K G Ca ga))(hb:PE X b (mV X.K G Cb gb)):PE X (.BinOp a .Sub b pos) (mV X.K G (λZ=>Ca Z/\Cb Z) λZ=>ga Z-gb Z):=QS op_sub ha hb
theorem nM (ha:PE X a (mV X.K G Ca ga))(hb:PE X b (mV X.K G Cb gb)):PE X (.BinOp a .Mult b pos) (mV X.K G (λZ=>Ca Z/\Cb Z/\IntMulOk (ga Z) (gb Z)) λZ=>ga Z*gb Z):=Nj GZ ha hb
theorem lD (ha:PE X a (mV X.K G Ca ga))(hb:PE X b (mV X.K G Cb gb)):PE X (.BinOp a .Mod b pos) (mV X.K G (λZ=>Ca Z/\Cb Z/\0<gb Z) λZ=>ga Z % gb Z):=Nj op_mod ha hb
theorem Bw (ha:PE X a (mV X.K G Ca ga))(hb:PE X b (mV X.K G Cb gb)):PE X (.BinOp a .FloorDiv b pos) (mV X.K G (λZ=>Ca Z/\Cb Z/\Ui (ga Z) (gb Z)) λZ=>ga Z / gb Z):=Nj SX ha hb
theorem JR (ha:PE X a (mV X.K G Ca ga))(hb:PE X b (mV X.K G Cb gb)):PE X (.BinOp a .Pow b pos) (mV X.K G (λZ=>Ca Z/\Cb Z/\CPow (ga Z) (gb Z)) λZ=>ga Z^(gb Z).toNat):=Nj op_pow ha hb
theorem sH (ha:PE X a (mV X.K G Ca ga)):PE X (.UnaryOp .USub a pos) (mV X.K G Ca λZ=>-ga Z):=
 uQ (pe_un un_neg ha) λB _ _ Z O _ R c q=>⟨B,Z,O,R,c,λ_ H1 s1 a1=>⟨_,a1,q _ H1 s1 rfl⟩⟩
theorem xQ {op:CmpOp}{p:Int->Int->Prop}[∀i j,Decidable (p i j)](ho:OpR X (compareOp op) (rI0 λi j=>.bl (decide (p i j))))(hm:behindInMarks op b=false)(ha:PE X a (mV X.K G Ca ga))(hb:PE X b (mV X.K G Cb gb)) :
  PT X (.Compare a [op] [b] pos) (vg X.K G (λZ=>Ca Z/\Cb Z) λZ=>p (ga Z) (gb Z)):=
 λpins s σ H Q I ⟨_,_,_,R,c,q⟩=>pt_cmpR ho ha hb hm pins s σ H Q I (two R c.1 c.2 λ_ _ _ H2 s1 s2 a1 a2=>⟨_,_,a1,a2,_,rfl,q H2 (s1.trans s2)⟩)
theorem ZC {op:CmpOp}{p:Int->Int->Prop}[∀i j,Decidable (p i j)](ho:OpR X (compareOp op) (rI0 λi j=>.bl (decide (p i j))))(hm:behindInMarks op b=false)(ha:PE X a (mV X.K G Ca ga))(hb:PE X b (mV X.K G Cb gb)) :
  PE X (.Compare a [op] [b] pos) (TF X.K G (λZ=>Ca Z/\Cb Z) λZ=>p (ga Z) (gb Z)):=
 uQ (pe_cmpR ho ha hb hm) λ_ _ _ _ _ _ R c q=>two R c.1 c.2 λ_ _ _ H2 s1 s2 a1 a2=>⟨_,_,a1,a2,q _ H2 (s1.trans s2) rfl⟩
theorem aaF (ha:PE X a (mV X.K G Ca ga))(hb:PE X b (mV X.K G Cb gb)):PT X (.Compare a [.Lt] [b] pos) (vg X.K G (λZ=>Ca Z/\Cb Z) λZ=>ga Z<gb Z):=xQ op_lt (nomark _) ha hb
theorem aba (ha:PE X a (mV X.K G Ca ga))(hb:PE X b (mV X.K G Cb gb)):PT X (.Compare a [.LtE] [b] pos) (vg X.K G (λZ=>Ca Z/\Cb Z) λZ=>ga Z<=gb Z):=xQ op_le (nomark _) ha hb
theorem uV (ha:PE X a (mV X.K G Ca ga))(hb:PE X b (mV X.K G Cb gb)):PT X (.Compare a [.Gt] [b] pos) (vg X.K G (λZ=>Ca Z/\Cb Z) λZ=>gb Z<ga Z):=xQ (p:=λi j=>j<i) op_gt (nomark _) ha hb
theorem aaE (ha:PE X a (mV X.K G Ca ga))(hb:PE X b (mV X.K G Cb gb)):PT X (.Compare a [.GtE] [b] pos) (vg X.K G (λZ=>Ca Z/\Cb Z) λZ=>gb Z<=ga Z):=xQ (p:=λi j=>j<=i) op_ge (nomark _) ha hb
theorem tO (ha:PE X a (mV X.K G Ca ga))(hb:PE X b (mV X.K G Cb gb)):PT X (.Compare a [.Eq] [b] pos) (vg X.K G (λZ=>Ca Z/\Cb Z) λZ=>ga Z=gb Z):=xQ JT (nomark _) ha hb
theorem wz (ha:PE X a (mV X.K G Ca ga))(hb:PE X b (mV X.K G Cb gb)):PT X (.Compare a [.NotEq] [b] pos) (vg X.K G (λZ=>Ca Z/\Cb Z) λZ=>¬ga Z=gb Z):=xQ (p:=λi j=>¬i=j) Zi (nomark _) ha hb
theorem abk (ha:PE X a (mV X.K G Ca ga))(hb:PE X b (mV X.K G Cb gb)):PE X (.Compare a [.Eq] [b] pos) (TF X.K G (λZ=>Ca Z/\Cb Z) λZ=>ga Z=gb Z):=ZC JT (nomark _) ha hb
variable {pa pb:En->Prop}[∀Z,Decidable (pa Z)][∀Z,Decidable (pb Z)]{rest:List Expr}
theorem Jl (h:PE X e (TF X.K G Ca pa))(he:∀whole,isTrue e X.env whole=(do let v <- whole;standAt e.pos;holding [v] (truthy v)):=by intro _;rfl):PT X e (vg X.K G Ca pa):=
 λpins s σ H Q I ⟨B,Z,O,R,c,q⟩=>pt_val h he pins s σ H Q I ⟨B,Z,O,R,c,λ_ H1 s1 a1=>⟨_,a1,q H1 s1⟩⟩
theorem qm (ha:PT X a (vg X.K G Ca pa)):PT X (.UnaryOp .Not a pos) (vg X.K G Ca λZ=>¬pa Z):=
 λpins s σ H Q I ⟨B,Z,O,R,c,q⟩=>L2.pt_not ha pins s σ H Q I ⟨B,Z,O,R,c,λH1 s1=>by have z:=q H1 s1;rw[i7]at z;exact z⟩
theorem vJ (ha:PT X a (vg X.K G Ca pa)):PW X (.BoolOp .Or [a] pos) (vg X.K G Ca pa):=pw_or1 ha
theorem zr (ha:PT X a (vg X.K G Ca pa)):PW X (.BoolOp .And [a] pos) (vg X.K G Ca pa):=pw_and1 ha
theorem u6 (ha:PT X a (vg X.K G Ca pa))(hb:PW X (.BoolOp .Or (b::rest) pos) (vg X.K G Cb pb)):PW X (.BoolOp .Or (a::b::rest) pos) (vg X.K G (λZ=>Ca Z/\(¬pa Z->Cb Z)) λZ=>pa Z\/pb Z):=
 λwh pins s σ H Q I ⟨B,Z,O,R,c,q⟩=>pw_or ha hb wh pins s σ H Q I ⟨B,Z,O,R,c.1,λH1 s1=>by
  by_cases d:pa Z
  ·have z:=q H1 s1;rw[aK (Or.inl d:pa Z\/pb Z)]at z;rw[aK d];refine iteT ?_;exact z
  ·rw[aN d];refine iteF ?_;refine⟨B,Z,O,R.grow s1,c.2 d,λH2 s2=>?_⟩;have z:=q H2 (s1.trans s2);have e:decide (pa Z\/pb Z)=decide (pb Z):=by simp[d]
   rw[e]at z;exact z⟩
theorem GK (ha:PT X a (vg X.K G Ca pa))(hb:PW X (.BoolOp .And (b::rest) pos) (vg X.K G Cb pb)):PW X (.BoolOp .And (a::b::rest) pos) (vg X.K G (λZ=>Ca Z/\(pa Z->Cb Z)) λZ=>pa Z/\pb Z):=
 λwh pins s σ H Q I ⟨B,Z,O,R,c,q⟩=>pw_and ha hb wh pins s σ H Q I ⟨B,Z,O,R,c.1,λH1 s1=>by
  by_cases d:pa Z
  ·rw[aK d];refine iteT ?_;refine⟨B,Z,O,R.grow s1,c.2 d,λH2 s2=>?_⟩;have z:=q H2 (s1.trans s2);have e:decide (pa Z/\pb Z)=decide (pb Z):=by simp[d]
   rw[e]at z;exact z
  ·have z:=q H1 s1;rw[aN (λy=>d y.1:¬(pa Z/\pb Z))]at z;rw[aN d];refine iteF ?_;exact z⟩
theorem Y5 (ha:PE X a (TF X.K G Ca pa)):PE X (.UnaryOp .Not a pos) (TF X.K G Ca λZ=>¬pa Z):=
 uQ (pe_not ha) λB _ _ Z O _ R c q=>⟨B,Z,O,R,c,λ_ H1 s1 a1=>⟨_,a1,q _ H1 s1 (by rw[i7];rfl)⟩⟩
theorem Gw (ha:PE X a (TF X.K G Ca pa))(hb:PE X (.BoolOp .And (b::rest) pos) (TF X.K G Cb pb)):PE X (.BoolOp .And (a::b::rest) pos) (TF X.K G (λZ=>Ca Z/\(pa Z->Cb Z)) λZ=>pa Z/\pb Z):=
 uQ (pe_and ha hb) λB _ _ Z O _ R c q=>⟨B,Z,O,R,c.1,λ_ H1 s1 a1=>⟨_,a1,by
  by_cases d:pa Z
  ·rw[aK d];refine iteT ?_;refine⟨B,Z,O,R.grow s1,c.2 d,λv H2 s2 a2=>q v H2 (s1.trans s2) ?_⟩;have e:decide (pa Z/\pb Z)=decide (pb Z):=by simp[d]
   rw[e];exact a2
  ·have z:=q (.bl false) H1 s1 (by rw[aN (λy=>d y.1:¬(pa Z/\pb Z))];rfl);rw[aN d];refine iteF ?_;exact z⟩⟩
variable {es:List Expr}{gs:En->List PV}
theorem jq:PA X [] (Ir X.K G (λ_=>True) λ_=>[]):=λpos pins s σ H Q I ⟨_,_,_,_,_,q⟩=>pa_nil pos pins s σ H Q I (q [] H (Same.refl H) rfl)
theorem jm (ha:PE X e (tX X.K G Ca g))(hr:PA X es (Ir X.K G Cb gs))(hs:starEach (e::es) X.env=(false,eval e X.env)::starEach es X.env:=by rfl):PA X (e::es) (Ir X.K G (λZ=>Ca Z/\Cb Z) λZ=>g Z::gs Z):=
 λpos pins s σ H Q I ⟨B,Z,O,R,c,q⟩=>pa_cons ha hr hs pos pins s σ H Q I ⟨B,Z,O,R,c.1,λv H1 s1 a1=>⟨B,Z,O,R.grow s1,c.2,λvs H2 s2 a2=>q _ H2 (s1.trans s2) ⟨v,vs,rfl,At.mono (lL s2) _ _ a1,a2⟩⟩⟩
end
structure Ps where
 nx:En->Prop
 rt:PV->Prop
 rl:List Int->Prop:=λ_=>False
 rn:PV->Prop:=λ_=>False
 bk:En->Prop:=λ_=>False
 ct:En->Prop:=λ_=>False
 er:Addr->Prop:=λ_=>False
abbrev ER:=Addr->Hp->Prop
abbrev ER0:ER:=λ_ _=>False
abbrev FS:=Ps->En->Prop
def xG (K:Fg)(G:Gx)(B:Bs)(σ:L2.St)(H:Hp)(Z:En):Prop:=∃O,Rep K G B σ H Z O
structure Owe (K:Fg)(G:Gx)(Er:ER)(B:Bs)(P:Ps)(D:Ends):Prop where
 nx:∀σ H Z,xG K G B σ H Z->P.nx Z->D.nx σ H
 rt:∀v H p,Same B.H0 H->At K G (mn H B.Oc) p v->P.rt p->D.rt v H
 rl:∀a H ns,Same B.H0 H->B.H0 a=none->H a=some (.lst (ns.map V.int))->P.rl ns->D.rt (.ref a) H
 rn:∀v H p,Same B.H0 H->At K G (mn H λa=>(B.H0 a).isSome) p v->P.rn p->D.rt v H
 bk:∀σ H Z,xG K G B σ H Z->P.bk Z->D.bk σ H
 ct:∀σ H Z,xG K G B σ H Z->P.ct Z->D.ct σ H
 er:∀H C,Same B.H0 H->P.er C->Er C H
def ts (K:Fg)(G:Gx)(Er:ER)(f:FS):TS:=λD σ H=>∃B Z P,xG K G B σ H Z/\f P Z/\Owe K G Er B P D
section
variable {X:Cx}{G:Gx}{Er:ER}{pos:Pos}{st:Stmt}{sts:List Stmt}{f f1 f2:FS}{C:En->Prop}{e:Expr}{t:TS}
theorem toS (h:PS X st t)(k:∀B σ H Z O P D,Rep X.K G B σ H Z O->f P Z->Owe X.K G Er B P D->t D σ H):PS X st (ts X.K G Er f):=
 λpins s σ H D I ⟨B,Z,P,⟨O,R⟩,c,w⟩=>h pins s σ H D I (k B σ H Z O P D R c w)
theorem kW:PSs X [] (ts X.K G Er λP Z=>P.nx Z):=λpins s σ H D I ⟨_,Z,_,R,c,w⟩=>pss_nil pins s σ H D I (w.nx σ H Z R c)
theorem jt (h:PS X st (ts X.K G Er f)):PSs X [st] (ts X.K G Er f):=pss_one h
theorem jn (h1:PS X st (ts X.K G Er f1))(h2:PSs X sts (ts X.K G Er f2)):PSs X (st::sts) (ts X.K G Er λP Z=>f1 { P with nx:=f2 P } Z):=
 λpins s σ H D I ⟨B,Z,P,R,c,w⟩=>pss_cons h1 h2 pins s σ H D I ⟨B,Z,{ P with nx:=f2 P },R,c,⟨λ_ _ Z' R' c'=>⟨B,Z',P,R',c',w⟩,w.rt,w.rl,w.rn,w.bk,w.ct,w.er⟩⟩
theorem tK (h1:PS X st (ts X.K G Er f1))(h2:PSs X sts (ts X.K G Er f2)):PSs X (st::sts) (ts X.K G Er λP Z=>∃J:En->Prop,f1 { P with nx:=J } Z/\∀Z',J Z' -> f2 P Z'):=
 λpins s σ H D I ⟨B,Z,P,R,⟨J,c,k⟩,w⟩=>pss_cons h1 h2 pins s σ H D I ⟨B,Z,{ P with nx:=J },R,c,⟨λ_ _ Z' R' c'=>⟨B,Z',P,R',k Z' c',w⟩,w.rt,w.rl,w.rn,w.bk,w.ct,w.er⟩⟩
theorem lG (i:Nat)(h:PSs X sts (ts X.K G Er f)):PSs X sts (ts X.K G Er λP Z=>f P (frz Z i)):=
 λpins s σ H D I ⟨B,Z,P,⟨_,R⟩,c,w⟩=>h pins s σ H D I ⟨B,frz Z i,P,R.freeze i,c,w⟩
theorem Di:PS X st (ts X.K G Er λ_ _=>False):=toS ps_never λ_ _ _ _ _ _ _ _ c _=>c
theorem jD (h:PE X e (tX X.K G C g)):PS X (.Return (some e) pos) (ts X.K G Er λP Z=>C Z/\P.rt (g Z)):=
 toS (ps_ret h) λB _ _ Z O _ _ R c w=>⟨B,Z,O,R,c.1,λv H1 s1 a1=>w.rt v H1 _ (R.same.trans s1) (At.mono (wg R.hid) _ _ a1) c.2⟩
theorem mO (h:PE X e (Gp X.K G C g)):PS X (.Return (some e) pos) (ts X.K G Er λP Z=>C Z/\P.rl (g Z)):=
 toS (ps_ret h) λB _ _ Z O _ _ R c w=>⟨B,Z,O,R,c.1,λa H1 s1 n1 e1=>w.rl a H1 _ (R.same.trans s1) (R.same.free n1) e1 c.2⟩
theorem Bb (i:Nat)(hN:X.N[i]?=some x:=by rfl)(hv:Vis X.env.scope x:=by first|exact Or.inl rfl|exact Or.inr (Or.inl rfl)|exact Or.inr (Or.inr rfl))
  (hd:(x == ("__debug__":Str))=false:=by decide) (hcd:(x == ("__classdict__":Str))=false:=by decide):PS X (.Return (some (.Name x px)) pos) (ts X.K G Er λP Z=>ZL Z i/\P.rl (getL Z i)):=
 toS (ps_ret (pe_var hN hv hd hcd)) λB _ H Z O _ _ R c w=>by obtain⟨a,vs,e1,e2,e3,e4,e5⟩:=R.ow i _ c.1;subst e5;exact⟨_,e1,w.rl a H _ R.same e3 e4 c.2⟩
theorem Ep (hN:X.N.Nodup)(hi:X.N[i]?=some x)(hx:Loc X.env.scope x)(he:PE X e (tX X.K G C g))(hs:swapsWith e (some (.Name x pos')) pos.line X.env=pure false:=by rfl)
  (hf:X.fn x=true\/X.env.scope.names.lookup x=some .local:=by first|exact .inl rfl|exact .inr rfl|assumption):PS X (.Assign [.Name x pos'] e pos) (ts X.K G Er λP Z=>C Z/\P.nx (Z.set i (.fr (g Z)))):=
 toS (ps_set hN hi hx he hs hf) λB σ _ Z O _ _ R c w=>⟨B,Z,O,R,c.1,λ_ H1 s1 a1=>w.nx _ H1 _ ⟨O,(R.grow s1).set a1⟩ c.2⟩
theorem lW (hN:X.N.Nodup)(hi:X.N[i]?=some x)(hx:Loc X.env.scope x)(he:PE X e (tX X.K G C g))(hs:swapsWith e (some (.Name x pos')) pos.line X.env=pure false:=by rfl)
  (hf:X.fn x=true\/X.env.scope.names.lookup x=some .local:=by first|exact .inl rfl|exact .inr rfl|assumption):PS X (.Assign [.Name x pos'] e pos) (ts X.K G Er λP Z=>C Z/\∀p,p=g Z->P.nx (Z.set i (.fr p))):=
 toS (Ep hN hi hx he hs hf) λB σ _ Z O P D R c w=>⟨B,Z,P,⟨O,R⟩,⟨c.1,c.2 _ rfl⟩,w⟩
theorem jA (hN:X.N.Nodup)(hi:X.N[i]?=some x)(hx:Loc X.env.scope x)(he:PE X e (mV X.K G C g))(hs:swapsWith e (some (.Name x pos')) pos.line X.env=pure false:=by rfl)
  (hf:X.fn x=true\/X.env.scope.names.lookup x=some .local:=by first|exact .inl rfl|exact .inr rfl|assumption):PS X (.Assign [.Name x pos'] e pos) (ts X.K G Er λP Z=>C Z/\∀n,n=g Z->P.nx (Z.set i (.fr (.int n)))):=
 toS (Ep hN hi hx he hs hf) λB σ _ Z O P D R c w=>⟨B,Z,P,⟨O,R⟩,⟨c.1,c.2 _ rfl⟩,w⟩
theorem jG (hN:X.N.Nodup)(hi:X.N[i]?=some x)(hx:Loc X.env.scope x)(he:PE X e (K8 X.K G C g))(hs:swapsWith e (some (.Name x pos')) pos.line X.env=pure false:=by rfl)
  (hf:X.fn x=true\/X.env.scope.names.lookup x=some .local:=by first|exact .inl rfl|exact .inr rfl|assumption):PS X (.Assign [.Name x pos'] e pos) (ts X.K G Er λP Z=>C Z/\∀ns,ns=g Z->P.nx (Z.set i (.fr (.ints ns)))):=
 toS (Ep hN hi hx he hs hf) λB σ _ Z O P D R c w=>⟨B,Z,P,⟨O,R⟩,⟨c.1,c.2 _ rfl⟩,w⟩
theorem rZ (hN:X.N.Nodup)(hi:X.N[i]?=some x)(hx:Loc X.env.scope x)(he:PE X e (Gp X.K G C g))(hs:swapsWith e (some (.Name x pos')) pos.line X.env=pure false:=by rfl)
  (hf:X.fn x=true\/X.env.scope.names.lookup x=some .local:=by first|exact .inl rfl|exact .inr rfl|assumption):PS X (.Assign [.Name x pos'] e pos) (ts X.K G Er λP Z=>C Z/\∀ns,ns=g Z->P.nx (Z.set i (.ow (.ints ns)))):=
 toS (ps_set hN hi hx he hs hf) λB σ _ Z O _ _ R c w=>⟨B,Z,O,R,c.1,λa H1 s1 n1 e1=>w.nx _ H1 _ ⟨hide a O,R.new (p:=.ints (g Z)) s1 n1 e1 rfl⟩ (c.2 _ rfl)⟩
theorem qx (hN:X.N.Nodup)(hi:X.N[i]?=some x)(hx:Loc X.env.scope x)(he:PE X e (yU X.K G C g))(hs:swapsWith e (some (.Name x pos')) pos.line X.env=pure false:=by rfl)
  (hf:X.fn x=true\/X.env.scope.names.lookup x=some .local:=by first|exact .inl rfl|exact .inr rfl|assumption):PS X (.Assign [.Name x pos'] e pos) (ts X.K G Er λP Z=>C Z/\∀ns,ns=g Z->P.nx (Z.set i (.ow (.lst ns)))):=
 toS (ps_set hN hi hx he hs hf) λB σ _ Z O _ _ R c w=>⟨B,Z,O,R,c.1,λa vs H1 s1 n1 e1 al=>w.nx _ H1 _ ⟨hide a O,R.new (p:=.lst (g Z)) s1 n1 e1 al⟩ (c.2 _ rfl)⟩
theorem zb {i:Nat}{op:Operator}{g:En->Int}{Pr:Int->Int->Prop}{h:Int->Int->Int}(hN:X.N.Nodup)(hi:X.N[i]?=some x)(hx:Loc X.env.scope x)(he:PE X e (mV X.K G C g))(ho:OpR X (inplaceOp op) (rI Pr λi j=>.int (h i j)))
  (hf:X.fn x=true\/X.env.scope.names.lookup x=some .local:=by first|exact .inl rfl|exact .inr rfl|assumption):PS X (.AugAssign (.Name x pos') op e pos) (ts X.K G Er λP Z=>isI Z i/\C Z/\Pr (yl Z i) (g Z)/\∀n,n=h (yl Z i) (g Z)->P.nx (Z.set i (.fr (.int n)))):=
 toS (ps_aug hN hi hx he ho hf) λB σ H Z O _ _ R c w=>by obtain⟨c0,c1,c2,c3⟩:=c;obtain⟨v,e1,e2⟩:=R.fr i _ c0;subst e2;exact⟨_,e1,B,Z,O,R,c1,λy H1 s1 a1=>⟨_,_,rfl,a1,c2,w.nx _ H1 _ ⟨O,(R.grow s1).set (p:=.int _) rfl⟩ (c3 _ rfl)⟩⟩
theorem lQ [∀Z,Decidable (p Z)](hc:PT X c (vg X.K G C p))(ha:PSs X a (ts X.K G Er f1))(hb:PSs X b (ts X.K G Er f2)):PS X (.If c a b pos) (ts X.K G Er λP Z=>C Z/\(p Z->f1 P Z)/\(¬p Z->f2 P Z)):=
 toS (ps_if hc ha hb) λB σ _ Z O P D R c w=>⟨B,Z,O,R,c.1,λH1 s1=>by
  by_cases d:p Z
  ·rw[aK d];refine iteT ?_;exact⟨B,Z,P,⟨O,R.grow s1⟩,c.2.1 d,w⟩
  ·rw[aN d];refine iteF ?_;exact⟨B,Z,P,⟨O,R.grow s1⟩,c.2.2 d,w⟩⟩
theorem nq [∀Z,Decidable (p Z)](hp:PassesOwn (model X.prog X.w) X.A X.env X.xe)(hc:PT X c (vg X.K G C p))(hb:PSs X body (ts X.K G Er f)) :
  PS X (.While c body [] pos) (ts X.K G Er λP Z=>∃(W:En->Prop) (μ:En->Nat),W Z/\∀Z,W Z->C Z/\(p Z->f { P with nx:=λZ'=>W Z'/\μ Z'<μ Z,ct:=λZ'=>W Z'/\μ Z'<μ Z,bk:=P.nx } Z)/\(¬p Z->P.nx Z)):=
 toS (ps_while hp hc hb) λB σ H Z O P D R c w=>by
  obtain⟨W,μ,w0,st⟩:=c;refine⟨λm σ H=>∃Z,xG X.K G B σ H Z/\W Z/\m=μ Z,⟨μ Z,Z,⟨O,R⟩,w0,rfl⟩,?_⟩;rintro m σ H ⟨Z,⟨O,R⟩,hw,rfl⟩;obtain⟨c1,c2,c3⟩:=st Z hw;refine⟨B,Z,O,R,c1,λH1 s1=>?_⟩;by_cases d:p Z
  ·rw[aK d];refine iteT ?_;refine⟨λσ' H'=>∃Z',xG X.K G B σ' H' Z'/\W Z'/\μ Z'<μ Z,λσ' H' ⟨Z',R',h1,h2⟩=>⟨_,h2,Z',R',h1,rfl⟩,B,Z,_,⟨O,R.grow s1⟩,c2 d,⟨λσ' H' Z' R' h=>⟨Z',R',h⟩,w.rt,w.rl,w.rn,w.nx,λσ' H' Z' R' h=>⟨Z',R',h⟩,w.er⟩⟩
  ·rw[aN d];refine iteF ?_;exact w.nx σ H1 Z ⟨O,R.grow s1⟩ (c3 d)
theorem qG (hp:PassesOwn (model X.prog X.w) X.A X.env X.xe)(hc:X.calm=true)(hg:Gl X "range")(hm:X.mg "range"=none)(ha:PE X a (mV X.K G C g))(hN:X.N.Nodup)(hi:X.N[k]?=some x)(hx:Loc X.env.scope x)
  (hb:PSs X body (ts X.K G Er f)) (hs:starEach [a] X.env=[(false,eval a X.env)]:=by rfl) (hfs:∀x,foldedSetIterable (.Call (.Name "range" p) [a] [] pos') X.env x=pure x:=by intro _;rfl)
  (hf:X.fn x=true\/X.env.scope.names.lookup x=some .local:=by first|exact .inl rfl|exact .inr rfl|assumption) :
  PS X (.For (.Name x px) (.Call (.Name "range" p) [a] [] pos') body [] pos) (ts X.K G Er λP Z=>C Z/\(-(2^62)<=g Z/\g Z<2^62)/\∃W:Nat->En->Prop,W 0 Z/\(∀i Z',i<(g Z).toNat->W i Z' -> f { P with nx:=W (i+1),ct:=W (i+1),bk:=P.nx } (Z'.set k (.fr (.int i))))/\∀Z',W (g Z).toNat Z' -> P.nx Z'):=
 toS (ps_for hp hc (pi_range1 hg hm (pa_cons ha pa_nil hs) hs) (pg_name hN hi hx hf) hb hfs) λB σ H Z O P D R c w=>by
  obtain⟨c1,⟨l1,l2⟩,W,w0,st,nd⟩:=c;refine⟨B,Z,O,R,c1,λv H1 s1 a1=>?_⟩;subst a1;refine⟨g Z,rfl,l1,l2,for_range (λi σ H=>∃Z',xG X.K G B σ H Z'/\W i Z') ⟨Z,⟨O,R.grow s1⟩,w0⟩ ?_ ?_⟩
  ·rintro i σ H hi ⟨Z',⟨O',R'⟩,hw⟩;have e:(0:Int)+i=i:=by lia
   rw[e];exact⟨B,_,_,⟨O',R'.set (p:=.int i) rfl⟩,st i Z' hi hw,⟨λσ' H' Z' R' h=>⟨Z',R',h⟩,w.rt,w.rl,w.rn,w.nx,λσ' H' Z' R' h=>⟨Z',R',h⟩,w.er⟩⟩
  ·rintro σ H ⟨Z',R',hw⟩;exact w.nx σ H Z' R' (nd Z' hw)
theorem O8 (hp:PassesOwn (model X.prog X.w) X.A X.env X.xe)(hc:X.calm=true)(hg:Gl X "range")(hm:X.mg "range"=none)(ha:PE X a (mV X.K G C g))(hb':PE X b (mV X.K G Cb h))(hN:X.N.Nodup)(hi:X.N[k]?=some x)(hx:Loc X.env.scope x)
  (hb:PSs X body (ts X.K G Er f)) (hs:starEach [a,b] X.env=[(false,eval a X.env),(false,eval b X.env)]:=by rfl) (hs2:starEach [b] X.env=[(false,eval b X.env)]:=by rfl) (hfs:∀x,foldedSetIterable (.Call (.Name "range" p) [a,b] [] pos') X.env x=pure x:=by intro _;rfl)
  (hf:X.fn x=true\/X.env.scope.names.lookup x=some .local:=by first|exact .inl rfl|exact .inr rfl|assumption) :
  PS X (.For (.Name x px) (.Call (.Name "range" p) [a,b] [] pos') body [] pos) (ts X.K G Er λP Z=>(C Z/\Cb Z)/\(-(2^62)<=g Z/\g Z<2^62 /\ -(2^62)<=h Z/\h Z<2^62) /\
   ∃W:Nat->En->Prop,W 0 Z/\(∀i Z',i<(h Z-g Z).toNat->W i Z' -> f { P with nx:=W (i+1),ct:=W (i+1),bk:=P.nx } (Z'.set k (.fr (.int (g Z+i)))))/\∀Z',W (h Z-g Z).toNat Z' -> P.nx Z'):=
 toS (ps_for hp hc (pi_range2 hg hm (pa_cons ha (pa_cons hb' pa_nil hs2) (by rw[hs,hs2])) hs hs2) (pg_name hN hi hx hf) hb hfs) λB σ H Z O P D R c w=>by
  obtain⟨⟨c1,c2⟩,l,W,w0,st,nd⟩:=c;refine⟨B,Z,O,R,c1,λv H1 s1 a1=>⟨B,Z,O,R.grow s1,c2,λu H2 s2 a2=>?_⟩⟩;subst a1 a2;refine⟨g Z,h Z,rfl,l,for_range (λi σ H=>∃Z',xG X.K G B σ H Z'/\W i Z') ⟨Z,⟨O,(R.grow s1).grow s2⟩,w0⟩ ?_ ?_⟩
  ·rintro i σ H hi ⟨Z',⟨O',R'⟩,hw⟩;exact⟨B,_,_,⟨O',R'.set (p:=.int _) rfl⟩,st i Z' hi hw,⟨λσ' H' Z' R' h=>⟨Z',R',h⟩,w.rt,w.rl,w.rn,w.nx,λσ' H' Z' R' h=>⟨Z',R',h⟩,w.er⟩⟩
  ·rintro σ H ⟨Z',R',hw⟩;exact w.nx σ H Z' R' (nd Z' hw)
theorem uf {B:Bs}{σ:L2.St}{H:Hp}{Z:En}{O:Addr->Bool}{K:Fg}{P:Ps}{D:Ends}(R:Rep K G B σ H Z O)(w:Owe K G Er B P D):Owe K G Er (B.at H O) P D:=
 ⟨λσ' H' Z' ⟨O',R'⟩ h=>w.nx σ' H' Z' ⟨O',R.KQ R'⟩ h,λv H' p s a h=>w.rt v H' p (R.nZ.trans s) a h,λa H' ns s n e h=>w.rl a H' ns (R.nZ.trans s) (R.nZ.free n) e h,λv H' p s a h=>w.rn v H' p (R.nZ.trans s) (At.mono (wg λb z=>by
  obtain⟨o,e⟩:=cZ.mp z;exact cZ.mpr (R.nZ _ _ e).some) _ _ a) h,λσ' H' Z' ⟨O',R'⟩ h=>w.bk σ' H' Z' ⟨O',R.KQ R'⟩ h,λσ' H' Z' ⟨O',R'⟩ h=>w.ct σ' H' Z' ⟨O',R.KQ R'⟩ h,λH' C s h=>w.er H' C (R.nZ.trans s) h⟩
theorem Jh {k:Nat}{x:Str}{l:Expr}{body:List Stmt}{g:En->List Int}{px:Pos}(hp:PassesOwn (model X.prog X.w) X.A X.env X.xe)(hc:X.calm=true)(hl:PE X l (K8 X.K G C g))(hN:X.N.Nodup)(hi:X.N[k]?=some x)(hx:Loc X.env.scope x)
  (hb:PSs X body (ts X.K G Er f)) (hfs:∀x,foldedSetIterable l X.env x=pure x:=by intro _;rfl) (hf:X.fn x=true\/X.env.scope.names.lookup x=some .local:=by first|exact .inl rfl|exact .inr rfl|assumption) :
  PS X (.For (.Name x px) l body [] pos) (ts X.K G Er λP Z=>C Z/\∃W:Nat->En->Prop,W 0 Z/\(∀i n Z',(g Z)[i]?=some n->W i Z' -> f { P with nx:=W (i+1),ct:=W (i+1),bk:=P.nx } (Z'.set k (.fr (.int n))))/\∀Z',W (g Z).length Z' -> P.nx Z'):=
 toS (ps_for hp hc (pi_list hl) (pg_name hN hi hx hf) hb hfs) λB σ H Z O P D R c w=>by
  obtain⟨c1,W,w0,st,nd⟩:=c;refine⟨B,Z,O,R,c1,λv H1 s1 a1=>?_⟩;obtain⟨a,e,hq⟩:=a1;have R1:=R.grow s1;have w1:=uf R1 w;refine⟨a,e,⟨_,.inl (jC jT hq)⟩,for_list (xs:=(g Z).map V.int) (λi σ H=>∃Z',xG X.K G (B.at H1 O) σ H Z'/\W i Z') ⟨Z,⟨O,R1.rebase⟩,w0⟩ ?_ ?_ ?_⟩
  ·rintro i σ H _ ⟨Z',⟨O',R'⟩,_⟩;exact .inl (jC ((Rep.vQ B H1 O).trans R'.same) hq)
  ·rintro i y σ H hy ⟨Z',⟨O',R'⟩,hw⟩;rw[az]at hy;cases en:(g Z)[i]? with
   |none=>rw[en]at hy;cases hy
   |some n=>rw[en]at hy;have hy:V.int n=y:=aI hy;subst hy;exact⟨_,_,_,⟨O',R'.set (p:=.int n) rfl⟩,st i n Z' en hw,⟨λσ' H' Z' R' h=>⟨Z',R',h⟩,w1.rt,w1.rl,w1.rn,w1.nx,λσ' H' Z' R' h=>⟨Z',R',h⟩,w1.er⟩⟩
  ·rintro σ H ⟨Z',R',hw⟩;rw[aa]at hw;exact w1.nx σ H Z' R' (nd Z' hw)
theorem zQ {k:Nat}{x:Str}{l:Expr}{body:List Stmt}{g:En->List PV}{px:Pos}(hp:PassesOwn (model X.prog X.w) X.A X.env X.xe)(hc:X.calm=true)(hl:PE X l (tX X.K G C λZ=>.lst (g Z)))(hN:X.N.Nodup)(hi:X.N[k]?=some x)(hx:Loc X.env.scope x)
  (hb:PSs X body (ts X.K G Er f)) (hfs:∀x,foldedSetIterable l X.env x=pure x:=by intro _;rfl) (hf:X.fn x=true\/X.env.scope.names.lookup x=some .local:=by first|exact .inl rfl|exact .inr rfl|assumption) :
  PS X (.For (.Name x px) l body [] pos) (ts X.K G Er λP Z=>C Z/\∃W:Nat->En->Prop,W 0 Z/\(∀i n Z',(g Z)[i]?=some n->W i Z' -> f { P with nx:=W (i+1),ct:=W (i+1),bk:=P.nx } (Z'.set k (.fr n)))/\∀Z',W (g Z).length Z' -> P.nx Z'):=
 toS (ps_for hp hc (pi_list hl) (pg_name hN hi hx hf) hb hfs) λB σ H Z O P D R c w=>by
  obtain⟨c1,W,w0,st,nd⟩:=c;refine⟨B,Z,O,R,c1,λv H1 s1 a1=>?_⟩;obtain⟨a,vs,e,hq,hal⟩:=a1;have R1:=R.grow s1;have w1:=uf R1 w;have el:=hal.length;refine⟨a,e,⟨_,.inl (jC jT hq)⟩,for_list (xs:=vs) (λi σ H=>∃Z',xG X.K G (B.at H1 O) σ H Z'/\W i Z') ⟨Z,⟨O,R1.rebase⟩,w0⟩ ?_ ?_ ?_⟩
  ·rintro i σ H _ ⟨Z',⟨O',R'⟩,_⟩;exact .inl (jC ((Rep.vQ B H1 O).trans R'.same) hq)
  ·rintro i y σ H hy ⟨Z',⟨O',R'⟩,hw⟩;obtain⟨n,en,an⟩:=hal.get hy;exact⟨_,_,_,⟨O',R'.set (At.mono (R1.seen R') _ _ an)⟩,st i n Z' en hw,⟨λσ' H' Z' R' h=>⟨Z',R',h⟩,w1.rt,w1.rl,w1.rn,w1.nx,λσ' H' Z' R' h=>⟨Z',R',h⟩,w1.er⟩⟩
  ·rintro σ H ⟨Z',R',hw⟩;rw[<- el]at hw;exact w1.nx σ H Z' R' (nd Z' hw)
theorem rF {k j:Nat}{x y:Str}{l:Expr}{body:List Stmt}{g:En->List Int}{px py p pos' tp:Pos}{kk:Nat}(hp:PassesOwn (model X.prog X.w) X.A X.env X.xe)(hc:X.calm=true)(hg:Gl X "enumerate")(hm:X.mg "enumerate"=none)(hl:PE X l (K8 X.K G C g))
  (hgt:PG X (.Tuple [.Name x px,.Name y py] kk tp) (gTup X.K 2 (gCons (gName k) (gCons (gName j) gNil)))) (hb:PSs X body (ts X.K G Er f)) (hs:starEach [l] X.env=[(false,eval l X.env)]:=by rfl)
  (hfs:∀x,foldedSetIterable (.Call (.Name "enumerate" p) [l] [] pos') X.env x=pure x:=by intro _;rfl) :
  PS X (.For (.Tuple [.Name x px,.Name y py] kk tp) (.Call (.Name "enumerate" p) [l] [] pos') body [] pos) (ts X.K G Er λP Z=>C Z/\∃W:Nat->En->Prop,W 0 Z /\
   (∀i n Z',(g Z)[i]?=some n->W i Z' -> f { P with nx:=W (i+1),ct:=W (i+1),bk:=P.nx } ((Z'.set k (.fr (.int i))).set j (.fr (.int n))))/\∀Z',W (g Z).length Z' -> P.nx Z'):=
 toS (ps_for hp hc (G3 hg hm (pa_cons hl pa_nil hs) hs) hgt hb hfs) λB σ H Z O P D R c w=>by
  obtain⟨c1,W,w0,st,nd⟩:=c;refine⟨B,Z,O,R,c1,λv H1 s1 a1=>?_⟩;obtain⟨a,e,hq⟩:=a1;subst e;have R1:=R.grow s1;have w1:=uf R1 w;refine⟨a,rfl,⟨_,.inl (jC jT hq)⟩,Q0 (xs:=(g Z).map V.int) (λi σ H=>∃Z',xG X.K G (B.at H1 O) σ H Z'/\W i Z') ⟨Z,⟨O,R1.rebase⟩,w0⟩ ?_ ?_ ?_⟩
  ·rintro i σ H _ ⟨Z',⟨O',R'⟩,_⟩;exact .inl (jC ((Rep.vQ B H1 O).trans R'.same) hq)
  ·rintro i y σ H T hy ⟨Z',⟨O',R'⟩,hw⟩ hT;obtain⟨n,rfl,en⟩:=int_at hy;refine⟨T,_,rfl,SqT.of upd_same,rfl,_,_,rfl,_,_,rfl,rfl,?_⟩;exact⟨_,_,_,⟨O',((R'.grow (same_new hT _)).set (p:=.int i) rfl).set (p:=.int n) rfl⟩,st i n Z' en hw,⟨λσ' H' Z' R' h=>⟨Z',R',h⟩,w1.rt,w1.rl,w1.rn,w1.nx,λσ' H' Z' R' h=>⟨Z',R',h⟩,w1.er⟩⟩
  ·rintro σ H ⟨Z',R',hw⟩;rw[aa]at hw;exact w1.nx σ H Z' R' (nd Z' hw)
theorem Vb {k:Nat}{x:Str}{l:Expr}{body:List Stmt}{g:En->List Int}{px p pos':Pos}(hp:PassesOwn (model X.prog X.w) X.A X.env X.xe)(hc:X.calm=true)(hg:Gl X "reversed")(hm:X.mg "reversed"=none)(hl:PE X l (K8 X.K G C g))(hN:X.N.Nodup)(hi:X.N[k]?=some x)(hx:Loc X.env.scope x)
  (hb:PSs X body (ts X.K G Er f)) (hs:starEach [l] X.env=[(false,eval l X.env)]:=by rfl) (hfs:∀x,foldedSetIterable (.Call (.Name "reversed" p) [l] [] pos') X.env x=pure x:=by intro _;rfl) (hf:X.fn x=true\/X.env.scope.names.lookup x=some .local:=by first|exact .inl rfl|exact .inr rfl|assumption) :
  PS X (.For (.Name x px) (.Call (.Name "reversed" p) [l] [] pos') body [] pos) (ts X.K G Er λP Z=>C Z/\∃W:Nat->En->Prop,W 0 Z /\
   (∀i n Z',i<(g Z).length->(g Z)[(g Z).length-1-i]?=some n->W i Z' -> f { P with nx:=W (i+1),ct:=W (i+1),bk:=P.nx } (Z'.set k (.fr (.int n))))/\∀Z',W (g Z).length Z' -> P.nx Z'):=
 toS (ps_for hp hc (ZP hg hm (pa_cons hl pa_nil hs) hs) (pg_name hN hi hx hf) hb hfs) λB σ H Z O P D R c w=>by
  obtain⟨c1,W,w0,st,nd⟩:=c;refine⟨B,Z,O,R,c1,λv H1 s1 a1=>?_⟩;obtain⟨a,e,hq⟩:=a1;subst e;have R1:=R.grow s1;have w1:=uf R1 w;refine⟨a,(g Z).map V.int,rfl,.inl (jC jT hq),Vm (xs:=(g Z).map V.int) (λi σ H=>∃Z',xG X.K G (B.at H1 O) σ H Z'/\W i Z') ⟨Z,⟨O,R1.rebase⟩,w0⟩ ?_ ?_ ?_⟩
  ·rintro i σ H _ ⟨Z',⟨O',R'⟩,_⟩;exact .inl (jC ((Rep.vQ B H1 O).trans R'.same) hq)
  ·rintro i y σ H hlt hy ⟨Z',⟨O',R'⟩,hw⟩;obtain⟨n,rfl,en⟩:=int_at hy;rw[aa]at hlt en;exact⟨_,_,_,⟨O',R'.set (p:=.int n) rfl⟩,st i n Z' hlt en hw,⟨λσ' H' Z' R' h=>⟨Z',R',h⟩,w1.rt,w1.rl,w1.rn,w1.nx,λσ' H' Z' R' h=>⟨Z',R',h⟩,w1.er⟩⟩
  ·rintro σ H ⟨Z',R',hw⟩;rw[aa]at hw;exact w1.nx σ H Z' R' (nd Z' hw)
end
theorem getD_at {ns:Li}{i:Int}(h1:-(ns.length:Int)<=i)(h2:i<ns.length):atI (ns.map V.int) i=some (V.int (ns.getD (if 0<=i then i else i+ns.length).toNat 0)):=by
 by_cases c0:0<=i
 ·rw[ah c0];exact zj c0 h2
 ·rw[ag c0];have q2:=zj (ns:=ns) (i:=i+ns.length) (by lia) (by lia);unfold atI ixN at q2 ⊢;rw[aa]at q2 ⊢;rw[ah (show 0<=i+(ns.length:Int) by lia),ah (show i+(ns.length:Int)<(ns.length:Int) by lia)]at q2;rw[ag c0,ah h1];exact q2
def lC (n:Nat)(i:Int):Nat:=(if 0<=i then i else i+n).toNat
theorem Kp {n:Nat}(h1:-(n:Int)<=i)(h2:i<n):ixN n i=some (lC n i):=by
 unfold ixN lC;by_cases c:0<=i
 ·rw[ah c,ah h2,ah c]
 ·rw[ag c,ah h1,ag c]
theorem Zx {n:Nat}(h1:-(n:Int)<=i)(h2:i<n):lC n i<n:=by
 unfold lC;by_cases c:0<=i
 ·rw[ah c];lia
 ·rw[ag c];lia
section
variable {X:Cx}{G:Gx}{Er:ER}{a b e:Expr}{pos p px:Pos}{C Ca Cb:En->Prop}{ga gb:En->Int}{i:Nat}{es:List Expr}
theorem lV (i:Nat)(hb:PE X b (mV X.K G Cb gb))(hs:PlainIx b)(hN:X.N[i]?=some x:=by rfl)(hv:Vis X.env.scope x:=by first|exact Or.inl rfl|exact Or.inr (Or.inl rfl)|exact Or.inr (Or.inr rfl))
  (hd:(x == ("__debug__":Str))=false:=by decide) (hcd:(x == ("__classdict__":Str))=false:=by decide) :
  PE X (.Subscript (.Name x px) b pos) (mV X.K G (λZ=>Ks Z i/\Cb Z /\ -((getL Z i).length:Int)<=gb Z/\gb Z<((getL Z i).length:Int)) λZ=>(getL Z i).getD (lC (getL Z i).length (gb Z)) 0):=
 uQ (pe_ix ix_list (pe_var hN hv hd hcd) hb hs) λB σ H Z O Q R c q=>by obtain⟨a,e1,e2⟩:=R.Rk c.1;exact⟨_,e1,B,Z,O,R,c.2.1,λu H1 s1 a1=>⟨a,_,_,_,rfl,a1,s1.seq e2,getD_at c.2.2.1 c.2.2.2,q _ H1 s1 rfl⟩⟩
theorem kY (i:Nat)(hm:X.mg "len"=none)(hN:X.N[i]?=some x:=by rfl)(hg:Gl X "len":=by rfl)(hv:Vis X.env.scope x:=by first|exact Or.inl rfl|exact Or.inr (Or.inl rfl)|exact Or.inr (Or.inr rfl))
  (hd:(x == ("__debug__":Str))=false:=by decide) (hcd:(x == ("__classdict__":Str))=false:=by decide) (he:starEach [.Name x px] X.env=[(false,eval (.Name x px) X.env)]:=by rfl) :
  PE X (.Call (.Name "len" p) [.Name x px] [] pos) (mV X.K G (λZ=>Ks Z i) λZ=>((getL Z i).length:Int)):=
 uQ (pe_callB call_len_seq hg hm Tw (pa_cons (pe_var hN hv hd hcd) pa_nil he) (by decide) (by decide) he rfl) λB σ H Z O Q R c q=>by obtain⟨a,e1,e2⟩:=R.Rk c;exact⟨_,e1,a,_,rfl,.inl e2,by rw[aa];exact q _ H (Same.refl H) rfl⟩
def XJ:PV->Int
 | .ints ns=>(ns.length:Int)
 | .scr ns=>(ns.length:Int)
 | .lst xs=>(xs.length:Int)
 | .tup xs=>(xs.length:Int)
 |_=>0
def K7:PV->Prop
 | .ints _=>True
 | .scr _=>True
 | .lst _=>True
 | .tup _=>True
 |_=>False
theorem At.len {K:Fg}{H:Hp}{p:PV}{v:V}(h:At K G H p v)(hl:K7 p):∃a ys,v=.ref a/\(SqL K H a ys\/SqT K H a ys)/\(ys.length:Int)=XJ p:=by
 cases p<;>first|exact hl.elim|skip
 ·obtain⟨a,e,q⟩:=h;exact⟨a,_,e,.inl (.inl q),by rw[aa];rfl⟩
 ·obtain⟨a,e,q⟩:=h;exact⟨a,_,e,.inl q,by rw[aa];rfl⟩
 ·obtain⟨a,vs,e,q,r⟩:=h;exact⟨a,vs,e,.inl (.inl q),by rw[<- r.length];rfl⟩
 ·obtain⟨a,vs,e,q,r⟩:=h;exact⟨a,vs,e,.inr (SqT.of q),by rw[<- r.length];rfl⟩
theorem mD {g:En->PV}(hm:X.mg "len"=none)(ha:PE X a (tX X.K G C g))(hg:Gl X "len":=by rfl)(he:starEach [a] X.env=[(false,eval a X.env)]:=by rfl) :
  PE X (.Call (.Name "len" p) [a] [] pos) (mV X.K G (λZ=>C Z/\K7 (g Z)) λZ=>XJ (g Z)):=
 uQ (pe_callB call_len_seq hg hm Tw (pa_cons ha pa_nil he) (by decide) (by decide) he rfl) λB σ H Z O Q R c q=>⟨B,Z,O,R,c.1,λv H1 s1 a1=>by
  obtain⟨a,ys,e,s,l⟩:=a1.len c.2;exact⟨a,ys,by rw[e],s.imp (λz=>jT.seq z) (λz=>QJ jT z),by rw[l];exact q _ H1 s1 rfl⟩⟩
def lX:PV->Int->PV
 | .lst xs,k=>xs.getD (lC xs.length k) .non
 | .tup xs,k=>xs.getD (lC xs.length k) .non
 | .ints ns,k=>.int (ns.getD (lC ns.length k) 0)
 |_,_=>.non
def oY:PV->Int->Prop
 | .lst xs,k=>-(xs.length:Int)<=k/\k<xs.length
 | .tup xs,k=>-(xs.length:Int)<=k/\k<xs.length
 | .ints xs,k=>-(xs.length:Int)<=k/\k<xs.length
 |_,_=>False
theorem lY.item {K:Fg}{H:Hp}{ps:List PV}{vs:List V}{k:Int}(h:lY K G H ps vs)(h1:-(ps.length:Int)<=k)(h2:k<ps.length):∃v,atI vs k=some v/\At K G H (ps.getD (lC ps.length k) .non) v:=by
 have l:=Zx h1 h2;have e:ps[lC ps.length k]?=some (ps.getD (lC ps.length k) .non):=by rw[gQ,ac l];rfl
 obtain⟨v,ev,av⟩:=h.at e;refine⟨v,?_,av⟩;unfold atI;rw[<- h.length,Kp h1 h2];exact ev
theorem jH {g:En->PV}(ha:PE X a (tX X.K G Ca g))(hb:PE X b (mV X.K G Cb gb))(hs:PlainIx b):PE X (.Subscript a b pos) (tX X.K G (λZ=>Ca Z/\Cb Z/\oY (g Z) (gb Z)) λZ=>lX (g Z) (gb Z)):=
 uQ (pe_ix ix_seq ha hb hs) λB σ H Z O Q R c q=>two R c.1 c.2.1 λv u H1 H2 s1 s2 a1 a2=>by
  have h:=c.2.2;revert a1 h q;generalize g Z=pg;intro q a1 h;cases pg<;>first|exact h.elim|skip
  ·obtain⟨p,e,r⟩:=a1;exact .inl ⟨p,_,_,_,e,a2,.inl (jC jT r),getD_at h.1 h.2,q _ H2 (s1.trans s2) rfl⟩
  ·obtain⟨p,vs,e,r,t⟩:=a1;obtain⟨v',e',a'⟩:=t.item h.1 h.2;exact .inl ⟨p,vs,_,v',e,a2,.inl (jC jT r),e',q _ H2 (s1.trans s2) a'⟩
  ·obtain⟨p,vs,e,r,t⟩:=a1;obtain⟨v',e',a'⟩:=t.item h.1 h.2;exact .inr (.inl ⟨p,vs,_,v',e,a2,SqT.of (jT _ _ r),e',q _ H2 (s1.trans s2) a'⟩)
theorem wU (i:Nat)(hN:X.N[i]?=some x:=by rfl)(hv:Vis X.env.scope x:=by first|exact Or.inl rfl|exact Or.inr (Or.inl rfl)|exact Or.inr (Or.inr rfl))
  (hd:(x == ("__debug__":Str))=false:=by decide) (hcd:(x == ("__classdict__":Str))=false:=by decide):PT X (.Name x pos) (vg X.K G (λZ=>Ks Z i) λZ=>¬getL Z i=[]):=
 λpins s σ H Q I ⟨B,Z,O,R,c,q⟩=>pt_truth (pe_var hN hv hd hcd) (λ_=>rfl) pins s σ H Q I (by
  obtain⟨a,e1,e2⟩:=R.Rk c;refine⟨_,e1,_,.inl ⟨_,e2,rfl⟩,?_⟩;have z:=q H (Same.refl H);have e:(!((getL Z i).map V.int).isEmpty)=decide (¬getL Z i=[]):=by cases getL Z i<;>simp
  rw[e];exact z)
def ul:List PV->List Int
 | .int n::r=>n::ul r
 |_=>[]
def Lj:List PV->Prop
 |[]=>True
 | .int _::r=>Lj r
 |_=>False
theorem lY.ints {K:Fg}{H:Hp}:∀{ps:List PV} {vs:List V},lY K G H ps vs->Lj ps->vs=(ul ps).map V.int
 |[],_,h,_=>h
 |p::ps,_,h,c=>by
  cases p<;>first|exact c.elim|skip
  obtain⟨v,r,rfl,e,t⟩:=h;rw[e,lY.ints t c];rfl
theorem nH {gs:En->List PV}(h:PA X es (Ir X.K G C gs))(hz:∀Z,(gs Z).length<=1000:=by intro _;exact fG rfl):PE X (.List es pos) (Gp X.K G (λZ=>C Z/\Lj (gs Z)) λZ=>ul (gs Z)):=
 JS (pe_lst h) λB σ H Z O Q R c q=>⟨B,Z,O,R,c.1,λvs H1 s1 a1=>⟨by rw[<- a1.length];exact bX (small1000 (hz Z)),λa ha=>by
  have e:=a1.ints c.2;refine q a _ (s1.trans (same_new ha _)) (s1.free ha) ?_;rw[upd_same,e]⟩⟩
theorem sE (h:PA X es (Ir X.K G C gs))(hz:∀Z,(gs Z).length<=1000:=by intro _;exact fG rfl):PE X (.List es pos) (yU X.K G C gs):=
 λpins s σ H Q I ⟨B,Z,O,R,c,q⟩=>pe_lst h pins s σ H Q I ⟨B,Z,O,R,c,λvs H1 s1 a1=>⟨by rw[<- a1.length];exact bX (small1000 (hz Z)),λa ha=>
  q a vs _ (s1.trans (same_new ha _)) (s1.free ha) upd_same (lY.mono (mY (same_new ha _) ha) _ _ a1)⟩⟩
theorem rQ (h:PA X es (Ir X.K G C gs))(hz:∀Z,(gs Z).length<=1000:=by intro _;exact fG rfl):PE X (.Tuple es x1 pos) (tX X.K G C λZ=>.tup (gs Z)):=
 uQ (pe_tup h) λB σ H Z O Q R c q=>⟨B,Z,O,R,c,λvs H1 s1 a1=>⟨by rw[<- a1.length];exact bX (small1000 (hz Z)),λa ha=>by
  have o:O a=false:=by
   cases z:O a with
   |false=>rfl
   |true=>exact absurd (s1.free ha) (R.dom a z)
  refine q (.ref a) _ (s1.trans (same_new ha _)) ⟨a,vs,rfl,by rw[qI o];exact upd_same,lY.mono (lL (same_new ha _)) _ _ a1⟩⟩⟩
theorem Ny (hm:X.mg "list"=none)(ha:PE X a (tX X.K G C g))(hn:∀Z,g Z=.ints (ns Z)\/g Z=.scr (ns Z))(hg:Gl X "list":=by rfl)(he:starEach [a] X.env=[(false,eval a X.env)]:=by rfl) :
  PE X (.Call (.Name "list" p) [a] [] pos) (Gp X.K G C ns):=
 JS (pe_callTy call_list_of hg hm Ej (pa_cons ha pa_nil he) (by decide) (by decide) he rfl) λB σ H Z O Q R c q=>⟨B,Z,O,R,c,λv H1 s1 a1=>by
  have key:∃p,v=.ref p/\SqL X.K H1 p ((ns Z).map V.int):=by
   rcases hn Z with z|z
   ·rw[z]at a1;obtain⟨p,e,r⟩:=a1;exact⟨p,e,.inl (jC jT r)⟩
   ·rw[z]at a1;obtain⟨p,e,r⟩:=a1;exact⟨p,e,jT.seq r⟩
  obtain⟨p,rfl,r⟩:=key;exact⟨p,_,rfl,.inl r,λl hl=>q l _ (s1.trans (same_new hl _)) (s1.free hl) upd_same⟩⟩
def oX (xs:List Int)(lo hi:Option Int):List Int:=(xs.drop (HT.sIx xs.length 0 lo)).take (HT.sIx xs.length xs.length hi-HT.sIx xs.length 0 lo)
theorem Rn (xs:Li)(lo hi:Option Int):cutV (xs.map V.int) lo hi=(oX xs lo hi).map V.int:=by unfold cutV oX;rw[aa,<- iY,<- iZ]
def Xy (K:Fg)(G:Gx)(C:En->Prop)(g:En->Option Int):TO:=λσ H Q=>∃B Z O,Rep K G B σ H Z O/\C Z/\∀H',Same H H' -> Q (g Z) H'
theorem pI:PO X none (Xy X.K G (λ_=>True) λ_=>none):=λpins s σ H Q I ⟨_,_,_,_,_,q⟩=>po_none pins s σ H Q I (q H (Same.refl H))
theorem mJ (h:PE X e (mV X.K G C ga)):PO X (some e) (Xy X.K G C λZ=>some (ga Z)):=λpins s σ H Q I ⟨B,Z,O,R,c,q⟩=>po_some h pins s σ H Q I ⟨B,Z,O,R,c,λ_ H1 s1 a1=>⟨_,a1,q H1 s1⟩⟩
theorem pP {lo hi:Option Expr}{g:En->PV}{ns:En->List Int}{Cl Ch:En->Prop}{gl gh:En->Option Int}(ha:PE X a (tX X.K G C g))(hl:PO X lo (Xy X.K G Cl gl))(hh:PO X hi (Xy X.K G Ch gh))(hn:∀Z,C Z->g Z=.ints (ns Z)\/g Z=.scr (ns Z)) :
  PE X (.Subscript a (.Slice lo hi none p2) pos) (Gp X.K G (λZ=>C Z/\Cl Z/\Ch Z) λZ=>oX (ns Z) (gl Z) (gh Z)):=
 JS (pe_slice sl_list ha hl hh) λB σ H Z O Q R c q=>⟨B,Z,O,R,c.1,λv H1 s1 a1=>⟨B,Z,O,R.grow s1,c.2.1,λH2 s2=>⟨B,Z,O,(R.grow s1).grow s2,c.2.2,λH3 s3=>by
  have key:∃p,v=.ref p/\SqL X.K H1 p ((ns Z).map V.int):=by
   rcases hn Z c.1 with z|z
   ·rw[z]at a1;obtain⟨p,e,r⟩:=a1;exact⟨p,e,.inl (jC jT r)⟩
   ·rw[z]at a1;obtain⟨p,e,r⟩:=a1;exact⟨p,e,jT.seq r⟩
  obtain⟨p,rfl,r⟩:=key;refine⟨p,_,rfl,(s2.trans s3).seq r,λl hl=>q l _ (((s1.trans s2).trans s3).trans (same_new hl _)) (((s1.trans s2).trans s3).free hl) ?_⟩;rw[upd_same,Rn]⟩⟩⟩
theorem Inv.Ld {X:Cx}{pins:List (Addr×Obj)}{σ:L2.St}{H:Hp}{s:Shared}{l:Addr}{xs:List V}(I:Inv X pins σ H s)(hH:Rd H l (.lst xs)):xs.length<=sizeLine/\∃(its:Lv) (n:Nat),Vals xs its/\xs.length=its.length/\s.heap.get? l=some { cls:=.type "list",data:=.seq its.toArray n }:=by obtain⟨z,its,n,r,e⟩:=hH.ok I.hok;exact⟨z,its,n,r,r.length,e⟩
def aay:R2:=λx y H Q=>∃l b xs zs,x=.ref l/\y=.ref b/\Rd H l (.lst xs)/\Rd H b (.lst zs)/\xs.length+zs.length<=sizeLine/\∀p,H p=none->Q (.ref p) (upd H p (.lst (xs++zs)))
theorem Oe:OpR X (binaryOp .Add) aay:=by
 intro pins s σ H x y v u Q I rx ry h;obtain⟨l,b,xs,zs,rfl,rfl,hH,hB,hz,q⟩:=h;cases rx;cases ry;obtain⟨z,its,n,r,hl,e⟩:=Inv.Ld I hH;obtain⟨z2,its2,n2,r2,hl2,e2⟩:=Inv.Ld I hB;refine PySem.P.add_list e e2 ?_ (by rw[aw,aw];lia);have ea:its.toArray++its2.toArray=(its++its2).toArray:=by simp
 rw[ea];exact⟨.ref _,_,I.lnew (t':=s.toks) (r.append r2) (by rw[ai];lia),rfl,q _ I.fresh⟩
theorem xY (ha:PE X a (K8 X.K G Ca gl))(hb:PE X b (K8 X.K G Cb hl)):PE X (.BinOp a .Add b pos) (Gp X.K G (λZ=>Ca Z/\Cb Z/\(gl Z).length+(hl Z).length<=sizeLine) λZ=>gl Z++hl Z):=
 JS (pe_op Oe ha hb) λB σ H Z O Q R c q=>two R c.1 c.2.1 λv u H1 H2 s1 s2 a1 a2=>by obtain⟨l,rfl,r1⟩:=a1;obtain⟨b,rfl,r2⟩:=a2;refine⟨l,b,_,_,rfl,rfl,jC jT r1,jC jT r2,by rw[aa,aa];exact c.2.2,λp hp=>q p _ ((s1.trans s2).trans (same_new hp _)) ((s1.trans s2).free hp) ?_⟩;rw[upd_same,bK]
theorem Hf {α:Type}(x:α):∀k:Nat,(List.replicate k [x]).flatten=List.replicate k x
 |0=>rfl
 |k+1=>by rw[dj,bT,Hf x k];rfl
theorem sS {gl:En->List Int}{n:En->Int}(ha:PE X a (Gp X.K G Ca gl))(hb:PE X b (mV X.K G Cb gb))(hn:∀Z,gl Z=[n Z]):PE X (.BinOp a .Mult b pos) (Gp X.K G (λZ=>Ca Z/\Cb Z /\ -(2^63)<=gb Z/\(gb Z).toNat<=1000) λZ=>List.replicate (gb Z).toNat (n Z)):=
 JS (pe_op op_rep ha hb) λB σ H Z O Q R c q=>⟨B,Z,O,R,c.1,λl H1 s1 n1 e1=>⟨B,Z,O,R.grow s1,c.2.1,λu H2 s2 a2=>by
  rw[hn Z]at e1;refine⟨l,_,_,rfl,a2,s2 _ _ e1,c.2.2.1,by have:=c.2.2.2;lia,?_,λp hp=>q p _ ((s1.trans s2).trans (same_new hp _)) ((s1.trans s2).free hp) ?_⟩
  ·rw[bM,dY,bZ,Nat.one_mul];exact bX (small1000 c.2.2.2)
  ·rw[upd_same,bM,dY,Hf,List.map_replicate]⟩⟩
end
def ym (K:Fg)(G:Gx)(pre:List PV->Prop)(F:List PV->PV):Sp:=λvs H Q _=>∃as O,(∀a,O a=true->H a≠none)/\lY K G (mn H O) as vs/\pre as/\∀v H',Same H H' -> At K G (mn H' O) (F as) v->Q v H'
def Iw (K:Fg)(G:Gx)(pre:List PV->Prop)(F:List PV->List Int):Sp:=λvs H Q _=>∃as O,(∀a,O a=true->H a≠none)/\lY K G (mn H O) as vs/\pre as/\∀a H',Same H H' -> H a=none->H' a=some (.lst ((F as).map V.int))->Q (.ref a) H'
section
variable {X:Cx}{G:Gx}{Er:ER}{e:Expr}{es:List Expr}{pos p:Pos}{j k:Nat}{x:Str}{ps:List Str}{pre:List PV->Prop}{C:En->Prop}{gs:En->List PV}
theorem xc (o:Ok X.prog X.w X.K X.mg X.base j x ps (ym X.K G pre F))(hr:Room k X.A)(ha:PA X (e::es) (Ir X.K G C gs))(hj:j<=k:=by decide)(hg:Gl X x:=by rfl)(hdb:(x == ("__debug__":Str))=false:=by decide)
  (he:starEach (e::es) X.env=(false,eval e X.env)::starEach es X.env:=by rfl) (hpl:(backTo pos (starEach es X.env)).any (·.1)=false:=by rfl) :
  PE X (.Call (.Name x p) (e::es) [] pos) (tX X.K G (λZ=>C Z/\pre (gs Z)) λZ=>F (gs Z)):=
 uQ (ud o hr ha hj hg hdb he hpl) λB σ H Z O Q R c q=>⟨B,Z,O,R,c.1,λvs H1 s1 a1=>by
  dsimp only;rw[bh];exact⟨gs Z,O,(R.grow s1).dom,a1,c.2,λv H2 s2 a2=>q v H2 (s1.trans s2) a2⟩⟩
theorem tH (o:Ok X.prog X.w X.K X.mg X.base j x ps (Iw X.K G pre F))(hr:Room k X.A)(ha:PA X (e::es) (Ir X.K G C gs))(hj:j<=k:=by decide)(hg:Gl X x:=by rfl)(hdb:(x == ("__debug__":Str))=false:=by decide)
  (he:starEach (e::es) X.env=(false,eval e X.env)::starEach es X.env:=by rfl) (hpl:(backTo pos (starEach es X.env)).any (·.1)=false:=by rfl) :
  PE X (.Call (.Name x p) (e::es) [] pos) (Gp X.K G (λZ=>C Z/\pre (gs Z)) λZ=>F (gs Z)):=
 JS (ud o hr ha hj hg hdb he hpl) λB σ H Z O Q R c q=>⟨B,Z,O,R,c.1,λvs H1 s1 a1=>by
  dsimp only;rw[bh];exact⟨gs Z,O,(R.grow s1).dom,a1,c.2,λa H2 s2 n2 e2=>q a H2 (s1.trans s2) (s1.free n2) e2⟩⟩
end
def nG (N:List Str)(as:List PV):En:=as.map Sl.fr++List.replicate (N.length-as.length) .un
theorem rM {K:Fg}{G:Gx}{H:Hp}{O:Addr->Bool}{as:List PV}{vs:List V}{N:Ls}(hd:∀a,O a=true->H a≠none)(h:lY K G (mn H O) as vs):Rep K G ⟨H,O⟩ (L2.start N vs) H (nG N as) O:=by
 have hl:=h.length;refine⟨Same.refl H,hd,λ_ z=>z,hd,λ_ z=>.inl z,λi p e=>?_,λi p e=>?_,λi j p q a e=>?_,by unfold L2.start nG;simp[hl],λi xs ys e=>?_⟩
 ·unfold nG at e;by_cases c:i<as.length
  ·rw[aS (by rw[aa];exact c),az]at e;cases e':as[i]? with
   |none=>rw[e']at e;cases e
   |some p'=>rw[e']at e;cases e;obtain⟨v,ev,av⟩:=h.at e';refine⟨v,?_,av⟩;unfold L2.start;rw[aS (by rw[aa,<- hl];exact c),az,ev];rfl
  ·rw[br (by rw[aa];lia),bF]at e;split at e<;>cases e
 ·exfalso;unfold nG at e;by_cases c:i<as.length
  ·rw[aS (by rw[aa];exact c),az]at e;cases e':as[i]? <;> rw[e']at e<;>cases e
  ·rw[br (by rw[aa];lia),bF]at e;split at e<;>cases e
 ·exfalso;unfold nG at e;by_cases c:i<as.length
  ·rw[aS (by rw[aa];exact c),az]at e;cases e':as[i]? <;> rw[e']at e<;>cases e
  ·rw[br (by rw[aa];lia),bF]at e;split at e<;>cases e
 ·exfalso;unfold nG at e;by_cases c:i<as.length
  ·rw[aS (by rw[aa];exact c),az]at e;cases e':as[i]? <;> rw[e']at e<;>cases e
  ·rw[br (by rw[aa];lia),bF]at e;split at e<;>cases e
section
variable {P:Program}{w:World}{K:Fg}{mg:Mg}{base:Heap}{G:Gx}
theorem xO {x:Str}{st:Stmt}{N ps:Ls}{k:Nat}{pre:List PV->Prop}{F:List PV->PV}(d:nY K mg x st ps)(S:FnScope N ps (defScope st))(len:∀as,pre as->as.length=ps.length)
  (hbody:∀(f:Addr) (cdv:Value) (A:Around) (outer:List Env) (s:Shared) (H:Hp) (E:XK),Room k (A.deeper (envOfC x (defScope st) s.heap.objs.size f cdv)) ->
   ∃fs,PSs (cxOf CX0 P w K mg base N x (defScope st) f cdv A outer s H E).nox (defBody st) (ts K G ER0 fs)/\∀as,pre as->fs { nx:=λ_=>F as=.non,rt:=λp=>p=F as,rl:=λns=>F as=.ints ns } (nG N as)):Ok P w K mg base (k+1) x ps (ym K G pre F):=by
 refine nY.ok d S (λvs H Q E h=>?_) λf cdv A outer s H vs Q E hr h=>?_
 ·obtain⟨as,O,_,al,hp,_⟩:=h;rw[<- al.length];exact len as hp
 obtain⟨as,O,hd,al,hp,q⟩:=h;obtain⟨fs,b,c⟩:=hbody f cdv A outer s H E hr;refine⟨_,b,⟨H,O⟩,nG N as,_,⟨O,rM hd al⟩,c as hp,⟨λσ' H' Z' R' h=>?_,λv H' p s' a' h=>?_,λa H' ns s' n e h=>?_,λ_ _ _ _ _ h=>h.elim,λ_ _ _ _ h=>h,λ_ _ _ _ h=>h,λ_ _ _ h=>h⟩⟩
 ·obtain⟨O',R'⟩:=R';exact q .non H' R'.same (by rw[show F as=.non from h];rfl)
 ·subst h;exact q v H' s' a'
 ·refine q _ H' s' ?_;rw[h];exact⟨a,rfl,.inl (by
   rw[qI]
   ·exact e
   ·cases z:O a with
    |false=>rfl
    |true=>exact absurd n (hd a z))⟩
theorem K1 {x:Str}{st:Stmt}{N ps:Ls}{k:Nat}{pre:List PV->Prop}{F:List PV->List Int}(d:nY K mg x st ps)(S:FnScope N ps (defScope st))(len:∀as,pre as->as.length=ps.length)
  (hbody:∀(f:Addr) (cdv:Value) (A:Around) (outer:List Env) (s:Shared) (H:Hp) (E:XK),Room k (A.deeper (envOfC x (defScope st) s.heap.objs.size f cdv)) ->
   ∃fs,PSs (cxOf CX0 P w K mg base N x (defScope st) f cdv A outer s H E).nox (defBody st) (ts K G ER0 fs)/\∀as,pre as->fs { nx:=λ_=>False,rt:=λ_=>False,rl:=λns=>ns=F as } (nG N as)):Ok P w K mg base (k+1) x ps (Iw K G pre F):=by
 refine nY.ok d S (λvs H Q E h=>?_) λf cdv A outer s H vs Q E hr h=>?_
 ·obtain⟨as,O,_,al,hp,_⟩:=h;rw[<- al.length];exact len as hp
 obtain⟨as,O,hd,al,hp,q⟩:=h;obtain⟨fs,b,c⟩:=hbody f cdv A outer s H E hr;refine⟨_,b,⟨H,O⟩,nG N as,_,⟨O,rM hd al⟩,c as hp,⟨λ_ _ _ _ h=>h.elim,λ_ _ _ _ _ h=>h.elim,λa H' ns s' n e h=>?_,λ_ _ _ _ _ h=>h.elim,λ_ _ _ _ h=>h,λ_ _ _ _ h=>h,λ_ _ _ h=>h⟩⟩;subst h;exact q a H' s' n e
end
def spM (pre:List Int->Prop)(F:List Int->List Int):Sp:=λvs H Q _=>∃a ns,vs=[.ref a]/\H a=some (.lst (ns.map V.int))/\pre ns/\∀H',(∀b o,b≠a->H b=some o->H' b=some o)->H' a=some (.lst ((F ns).map V.int))->Q .non H'
theorem Zd (h:∀b o,b≠a->H b=some o->H' b=some o)(e:H' a=some o):Same (upd H a o) H':=sy λb u z=>by
 by_cases c:b=a
 ·subst c;rw[upd_same]at z;cases z;exact e
 ·rw[upd_ne c]at z;exact h b u c z
section
variable {X:Cx}{G:Gx}{Er:ER}{e b:Expr}{pos px pa pc:Pos}{i j k:Nat}{x y:Str}{C Cb:En->Prop}{g gb:En->Int}
theorem Xu (i:Nat)(hN:X.N[i]?=some x:=by rfl)(hv:Vis X.env.scope x:=by first|exact Or.inl rfl|exact Or.inr (Or.inl rfl)|exact Or.inr (Or.inr rfl))
  (hd:(x == ("__debug__":Str))=false:=by decide) (hcd:(x == ("__classdict__":Str))=false:=by decide)
  (hbase:attributeBase (.Name x px) "pop" X.env (eval (.Name x px) X.env)=eval (.Name x px) X.env:=by rfl) (hline:(pa.endLine == pc.line)=true:=by rfl)
  (hsw:swapsWith (.Call (.Attribute (.Name x px) "pop" pa) [] [] pc) none pos.line X.env=pure false:=by rfl) :
  PS X (.Expr (.Call (.Attribute (.Name x px) "pop" pa) [] [] pc) pos) (ts X.K G Er λP Z=>ZL Z i/\getL Z i≠[]/\P.nx (Z.set i (.ow (.ints (getL Z i).dropLast)))):=
 toS (ps_expr (pe_bm0 fj ii ij mt_pop (pe_var hN hv hd hcd) hbase hline) hsw) λB σ H Z O P D R c w=>by
  obtain⟨c0,c1,c3⟩:=c;obtain⟨a,vs,e1,e2,e3,e4,e5⟩:=R.ow i _ c0;subst e5;have hl:0<(getL Z i).length:=lP c1;refine⟨_,e1,.inl ⟨rfl,_,SqL.of e4⟩,a,_,V.int ((getL Z i)[(getL Z i).length-1]'(by lia)),rfl,rfl,e4,?_,w.nx σ _ _ ⟨O,R.change c0 e1 (p':=.ints (getL Z i).dropLast) ?_⟩ c3⟩
  ·rw[aa,az,ac (by lia)];rfl
  ·show _=(getL Z i).dropLast.map V.int;rw[List.map_dropLast]
theorem rB (i:Nat)(hk:PE X b (mV X.K G Cb gb))(he:PE X e (mV X.K G C g))(hN:X.N[i]?=some x:=by rfl)(hv:Vis X.env.scope x:=by first|exact Or.inl rfl|exact Or.inr (Or.inl rfl)|exact Or.inr (Or.inr rfl))
  (hd:(x == ("__debug__":Str))=false:=by decide) (hcd:(x == ("__classdict__":Str))=false:=by decide)
  (ha:∀v,assign (.Subscript (.Name x px) b ps) X.env v=(do
   let ov <- holding [v] (eval (.Name x px) X.env)
   let iv <- holding [v,ov] (eval b X.env)
   standAt ps
   holding [v,ov,iv] (setItem ov iv v)
   release [v,ov,iv] []):=by intro _;rfl)
  (hs:swapsWithSole [.Subscript (.Name x px) b ps] e pos.line X.env=pure false:=by rfl) (hw:swappedStores [.Subscript (.Name x px) b ps] e X.env=pure none:=by rfl)
  (h1:(assignEach [.Subscript (.Name x px) b ps] X.env).map (·.2)=[assign (.Subscript (.Name x px) b ps) X.env]:=by rfl) :
  PS X (.Assign [.Subscript (.Name x px) b ps] e pos) (ts X.K G Er λP Z=>C Z/\ZL Z i/\Cb Z/\(-((getL Z i).length:Int)<=gb Z/\gb Z<((getL Z i).length:Int))/\P.nx (Z.set i (.ow (.ints ((getL Z i).set (lC (getL Z i).length (gb Z)) (g Z)))))):=
 toS (ps_asg he (pg_sub (pe_var hN hv hd hcd) hk set_list ha) hs hw h1) λB σ H Z O P D R c w=>by obtain⟨c1,c0,c2,cb,c3⟩:=c;refine⟨B,Z,O,R,c1,λv H1 s1 a1=>?_⟩;subst a1;have R1:=R.grow s1;obtain⟨a,vs,e1,e2,e3,e4,e5⟩:=R1.ow i _ c0;subst e5;refine⟨_,e1,B,Z,O,R1,c2,λu H2 s2 a2=>?_⟩;subst a2;refine⟨a,_,_,_,rfl,rfl,s2 _ _ e4,by rw[aa];exact Kp cb.1 cb.2,w.nx σ _ _ ⟨O,(R1.grow s2).change c0 e1 (p':=.ints _) ?_⟩ c3⟩;show _=((getL Z i).set _ _).map V.int;rw[List.map_set]
theorem Mp (i:Nat)(o:Ok X.prog X.w X.K X.mg X.base j y ps (spM pre F))(hr:Room k X.A)(hj:j<=k:=by decide)(hg:Gl X y:=by rfl)
  (hN:X.N[i]?=some x:=by rfl) (hv:Vis X.env.scope x:=by first|exact Or.inl rfl|exact Or.inr (Or.inl rfl)|exact Or.inr (Or.inr rfl)) (hd:(x == ("__debug__":Str))=false:=by decide) (hcd:(x == ("__classdict__":Str))=false:=by decide)
  (hdb:(y == ("__debug__":Str))=false:=by decide) (he:starEach (.Name x px::[]) X.env=(false,eval (.Name x px) X.env)::starEach [] X.env:=by rfl) (hpl:(backTo pc (starEach [] X.env)).any (·.1)=false:=by rfl)
  (hsw:swapsWith (.Call (.Name y pa) [.Name x px] [] pc) none pos.line X.env=pure false:=by rfl) :
  PS X (.Expr (.Call (.Name y pa) [.Name x px] [] pc) pos) (ts X.K G Er λP Z=>ZL Z i/\pre (getL Z i)/\P.nx (Z.set i (.ow (.ints (F (getL Z i)))))):=
 toS (ps_expr (ud o hr (pa_cons (pe_var hN hv hd hcd) pa_nil he) hj hg hdb he hpl) hsw) λB σ H Z O P D R c w=>by obtain⟨c0,c1,c3⟩:=c;obtain⟨a,vs,e1,e2,e3,e4,e5⟩:=R.ow i _ c0;subst e5;exact⟨_,e1,a,_,rfl,e4,c1,λH' k1 k2=>w.nx σ H' _ ⟨O,(R.change c0 e1 (p':=.ints _) rfl).grow (Zd k1 k2)⟩ c3⟩
end
def jN (cap:List (Option Nat))(Z:En):En:=cap.map λo=>match o with
 |some i=>(match Z[i]? with
  |some (.fr p)=>.fr p
  |_=>.un)
 |none=>.un
section
variable {K:Fg}{G:Gx}{B:Bs}{σ:L2.St}{H H1:Hp}{Z:En}{O:Addr->Bool}{D:Addr}{cap:List (Option Nat)}
theorem Dk (R:Rep K G B σ H1 Z O)(hD:H1 D=none)(s:Same H1 H)(hn:H D≠none):Rep K G ⟨H1,O⟩ (pK cap σ) H (jN cap Z) (hide D O):=by
 refine⟨s,R.dom,qQ,λa z y=>?_,λa z=>?_,λj p e=>?_,λj p e=>?_,λi j p q a e=>?_,by unfold pK jN;rw[aa,aa],λj xs ys e=>?_⟩
 ·by_cases c:a=D
  ·subst c;exact hn y
  ·rw[hide_ne c]at z;exact R.dom a z (s.free y)
 ·by_cases c:a=D
  ·subst c;exact .inr hD
  ·rw[hide_ne c]at z;exact .inl z
 ·unfold jN at e;rw[az]at e;cases ec:cap[j]? with
  |none=>rw[ec]at e;cases e
  |some o=>
   rw[ec]at e;cases o with
   |none=>cases e
   |some i=>
    have e:=aI e;dsimp only at e;split at e
    ·rename_i p' er;cases e;obtain⟨v,e1,e2⟩:=R.fr i p er;refine⟨v,?_,At.mono (mY s hD) _ _ e2⟩;unfold pK;rw[az,ec];show some ((σ[i]?).join)=some (some v);rw[e1];rfl
    ·cases e
 ·exfalso;unfold jN at e;rw[az]at e;cases ec:cap[j]? with
  |none=>rw[ec]at e;cases e
  |some o=>
   rw[ec]at e;cases o with
   |none=>cases e
   |some i=>have e:=aI e;dsimp only at e;split at e<;>cases e
 ·exfalso;unfold jN at e;rw[az]at e;cases ec:cap[i]? with
  |none=>rw[ec]at e;cases e
  |some o=>
   rw[ec]at e;cases o with
   |none=>cases e
   |some i=>have e:=aI e;dsimp only at e;split at e<;>cases e
 ·exfalso;unfold jN at e;rw[az]at e;cases ec:cap[j]? with
  |none=>rw[ec]at e;cases e
  |some o=>
   rw[ec]at e;cases o with
   |none=>cases e
   |some i=>have e:=aI e;dsimp only at e;split at e<;>cases e
theorem ni:∀σ:L2.St,Cw σ σ
 |[]=>tJ
 |none::r=>ni r
 |some _::r=>⟨rfl,ni r⟩
variable {α:Type}{J:It}{g:TG}{C:En->Prop}{gb:En->PV}{Q:VK}
theorem rR (items:List α)(setσ:α->V->L2.St)(setr:α->En)(val:α->V)(R:Rep K G B σ H1 Z O)(hD:H1 D=none)(hlen:items.length<=1000)(hgo:∀i H,i<items.length->Same H1 H->J.go i H)
  (hyld:∀i it x H H',items[i]?=some it->Same H1 H->J.yld i H x H' -> Same H H'/\∀k:L2.St->Hp->Prop,k (setσ it (val it)) H' -> g x (pK cap σ) H' k) (hstop:∀H,Same H1 H->J.stop items.length H)
  (hset:∀it H,it∈items->Same H1 H->Rep K G ⟨H1,O⟩ (pK cap σ) H (jN cap Z) (hide D O)->Rep K G ⟨H1,O⟩ (setσ it (val it)) H (setr it) (hide D O)) (hext:∀it,Cw (pK cap σ) (setσ it (val it))) (hC:∀it∈items,C (setr it))
  (hQ:∀H' ys,Same H1 H' -> H' D=some (.lst ys)->lY K G (mn H' (hide D O)) (items.map λit=>gb (setr it)) ys->Q (.ref D) H') :
  ∃W:Nat->Nat->List V->Hp->Prop,(∃m,W 0 m [] (upd H1 D (.lst [])))/\lcW D J (pK cap σ) g uB (tX K G C gb) Q W:=by
 refine⟨λi m ys H=>m=items.length-i/\i<=items.length/\Same H1 H/\H D=some (.lst ys)/\lY K G (mn H (hide D O)) ((items.take i).map λit=>gb (setr it)) ys,⟨items.length,by simp,bq _,same_new hD _,upd_same,rfl⟩,?_⟩;rintro i m ys H ⟨rfl,hi,hs,hd,al⟩;have hl:ys.length=i:=by rw[<- al.length,aa,aM];lia
 refine⟨hd,small1000 (by lia),?_⟩;by_cases hlt:i<items.length
 ·refine .inr ⟨hgo i H hlt hs,?_⟩;intro x H' hy;have en:items[i]?=some items[i]:=ac hlt;obtain⟨s1,kk⟩:=hyld i _ x H H' en hs hy;refine kk _ ⟨hext _,?_⟩;refine iteT ?_;have hd':=s1 _ _ hd;have R2:=hset items[i] H' (bJ hlt) (hs.trans s1) (Dk R hD (hs.trans s1) (by rw[hd'];exact λz=>by cases z));refine⟨_,_,_,R2,hC _ (bJ hlt),λv H2 s2 a2=>⟨s2 _ _ hd',items.length-(i+1),by lia,rfl,hlt,?_,upd_same,?_⟩⟩
  ·intro b o z;rw[upd_ne (ne_of_none z hD)];exact((hs.trans s1).trans s2) b o z
  ·rw[Em hide_self,pF en,bK];exact lY.snoc (lY.mono (lL (s1.trans s2)) _ _ al) a2
 ·have e:i=items.length:=by lia
  subst e;refine .inl ⟨hstop H hs,hQ H ys hs hd ?_⟩;rw[dt]at al;exact al
theorem zJ:∀{l:List α} {ys:List V},lY K G H (l.map λx=>.int (gi x)) ys->ys=(l.map gi).map V.int
 |[],_,h=>h
 |x::r,_,h=>by obtain⟨v,t,rfl,e,q⟩:=h;rw[e,zJ q];rfl
end
section
variable {K:Fg}{G:Gx}{σ:L2.St}{H:Hp}{Q:VK}{Cs Cb:En->Prop}{gs:En->List Int}{gi:En->Int}{gp:En->PV}{cap:List (Option Nat)}
theorem aa3 (h:yU K G (λZ=>Cs Z/\(gs Z).length<=1000/\∀n∈gs Z,Cb ((jN (none::cap) Z).set 0 (.fr (.int n)))) (λZ=>(gs Z).map λn=>gp ((jN (none::cap) Z).set 0 (.fr (.int n)))) σ H Q) :
  Ut (none::cap) (iList K (K8 K G Cs gs)) (gName 0) uB (tX K G Cb gp) σ H Q:=by
 obtain⟨B,Z,O,R,⟨c1,c2,c3⟩,q⟩:=h;refine⟨B,Z,O,R,c1,λv H1 s1 a1=>?_⟩;obtain⟨a,rfl,hq⟩:=a1;have hq1:SqL K H1 a ((gs Z).map V.int):=.inl (jC jT hq);refine⟨a,rfl,⟨_,hq1⟩,λD hD=>?_⟩;refine rR (gs Z) (λ_ v=>(pK (none::cap) σ).set 0 (some v)) (λn=>(jN (none::cap) Z).set 0 (.fr (.int n))) V.int (R.grow s1) hD c2 (λi H hi s=>⟨_,.int (gs Z)[i],s.seq hq1,by simp[hi]⟩) ?_ (λH s=>⟨_,s.seq hq1,by simp⟩) (λn H _ s R'=>R'.set (p:=.int n) rfl) ?_ c3 ?_
 ·rintro i n x H H' en s ⟨rfl,hx⟩;obtain⟨n',rfl,hn⟩:=int_at (hx _ (s.seq hq1));rw[hn]at en;cases en;exact⟨Same.refl _,λk hk=>hk⟩
 ·intro n;exact ni _
 ·intro H' ys s hd al;exact q D ys H' (s1.trans s) (s1.free hD) hd al
theorem abL (h:yU K G (λZ=>Cs Z/\(gs Z).length<=1000/\∀k:Nat,∀n,(gs Z)[k]?=some n->Cb (((jN (none::none::cap) Z).set 0 (.fr (.int k))).set 1 (.fr (.int n)))) (λZ=>(gs Z).mapIdx λk n=>gp (((jN (none::none::cap) Z).set 0 (.fr (.int k))).set 1 (.fr (.int n)))) σ H Q) :
  Ut (none::none::cap) (Vd K (tCons (K8 K G Cs gs) tNil)) (gTup K 2 (gCons (gName 0) (gCons (gName 1) gNil))) uB (tX K G Cb gp) σ H Q:=by
 obtain⟨B,Z,O,R,⟨c1,c2,c3⟩,q⟩:=h;refine⟨B,Z,O,R,c1,λv H1 s1 a1=>?_⟩;obtain⟨a,rfl,hq⟩:=a1;have hq1:SqL K H1 a ((gs Z).map V.int):=.inl (jC jT hq);refine⟨a,rfl,⟨_,hq1⟩,λD hD=>?_⟩;have hz:((gs Z).zipIdx).length=(gs Z).length:=List.length_zipIdx;refine rR ((gs Z).zipIdx) (λp _=>((pK (none::none::cap) σ).set 0 (some (.int p.2))).set 1 (some (.int p.1))) (λp=>((jN (none::none::cap) Z).set 0 (.fr (.int p.2))).set 1 (.fr (.int p.1))) (λp=>.int p.1) (R.grow s1) hD (by rw[hz];exact c2)
  (λi H hi s=>⟨_,.int ((gs Z)[i]'(by rw[hz]at hi;exact hi)),s.seq hq1,by rw[hz]at hi;simp[hi]⟩) ?_ (λH s=>⟨_,s.seq hq1,by simp⟩) (λp H _ s R'=>(R'.set (p:=.int p.2) rfl).set (p:=.int p.1) rfl) ?_ ?_ ?_
 ·rintro i ⟨n,k⟩ x H H' en s ⟨T,y,rfl,hT,rfl,hx⟩;obtain⟨n',rfl,hn⟩:=int_at (hx _ (s.seq hq1));rw[iA,hn]at en;have en:(n',0+i)=(n,k):=aI en;cases en;refine⟨same_new hT _,λkk hk=>⟨T,_,rfl,SqT.of upd_same,rfl,_,_,rfl,_,_,rfl,rfl,?_⟩⟩;rw[ik]at hk;exact hk
 ·rintro⟨n,k⟩;exact ni _
 ·rintro⟨n,k⟩ hm;have:=List.mem_zipIdx_iff_getElem?.mp hm;exact c3 k n this
 ·intro H' ys s hd al;refine q D ys H' (s1.trans s) (s1.free hD) hd ?_;have e:((gs Z).mapIdx λk n=>gp (((jN (none::none::cap) Z).set 0 (.fr (.int k))).set 1 (.fr (.int n))))=(gs Z).zipIdx.map λp=>gp (((jN (none::none::cap) Z).set 0 (.fr (.int p.2))).set 1 (.fr (.int p.1))):=by rw[eK]
  dsimp only;rw[e];exact al
theorem abW (h:yU K G (λZ=>Cs Z/\(0<=gn Z/\gn Z<=1000)/\∀k:Nat,k<(gn Z).toNat->Cb ((jN (none::cap) Z).set 0 (.fr (.int k)))) (λZ=>(List.range (gn Z).toNat).map λ(k:Nat)=>gp ((jN (none::cap) Z).set 0 (.fr (.int k)))) σ H Q) :
  Ut (none::cap) (iRng1 (tCons (mV K G Cs gn) tNil)) (gName 0) uB (tX K G Cb gp) σ H Q:=by
 obtain⟨B,Z,O,R,⟨c1,c2,c3⟩,q⟩:=h;refine⟨B,Z,O,R,c1,λv H1 s1 a1=>?_⟩;subst a1;have hz:(List.range (gn Z).toNat).length=(gn Z).toNat:=ao;refine⟨gn Z,rfl,by lia,by lia,λD hD=>?_⟩;refine rR (List.range (gn Z).toNat) (λ_ v=>(pK (none::cap) σ).set 0 (some v)) (λ(k:Nat)=>(jN (none::cap) Z).set 0 (.fr (.int k))) (λ(k:Nat)=>.int k) (R.grow s1) hD (by rw[hz];lia) (λi H hi s=>by rw[hz]at hi;exact hi) ?_ (λH s=>by rw[hz];exact aq _) (λk H _ s R'=>R'.set (p:=.int k) rfl) ?_ ?_ ?_
 ·rintro i k x H H' en s ⟨rfl,rfl⟩;have hlt:i<(gn Z).toNat:=by have:=(aj.mp en).1;rw[hz]at this;exact this
  rw[cw hlt]at en;cases en;refine⟨Same.refl _,λkk hk=>?_⟩;have e:(0:Int)+(i:Nat)=i:=by lia
  rw[e];exact hk
 ·intro k;exact ni _
 ·intro k hk;exact c3 k (a7.mp hk)
 ·intro H' ys s hd al;exact q D ys H' (s1.trans s) (s1.free hD) hd al
theorem EY {C:En->Prop}{α:Type}{src:En->List α}{gi:En->α->Int}(h:Gp K G C (λZ=>(src Z).map (gi Z)) σ H Q):yU K G C (λZ=>(src Z).map λx=>.int (gi Z x)) σ H Q:=by obtain⟨B,Z,O,R,c,q⟩:=h;refine⟨B,Z,O,R,c,λa vs H' s n e al=>q a H' s n ?_⟩;rw[e,zJ al]
theorem Ww {C:En->Prop}{src:En->List Int}{gi:En->Nat->Int->Int}(h:Gp K G C (λZ=>(src Z).mapIdx (gi Z)) σ H Q):yU K G C (λZ=>(src Z).mapIdx λk x=>.int (gi Z k x)) σ H Q:=by obtain⟨B,Z,O,R,c,q⟩:=h;refine⟨B,Z,O,R,c,λa vs H' s n e al=>q a H' s n ?_⟩;dsimp only at al ⊢;rw[eK]at al;rw[e,zJ (gi:=λp:Int×Nat=>gi Z p.2 p.1) al,eK]
end
section
variable {X:Cx}{G:Gx}{Er:ER}{N':List Str}{sc:Scope}{cl:List (Str×Addr)}{cap:List (Option Nat)}{el tg src:Expr}{at' spos px:Pos}{Cs Cb:En->Prop}{gs:En->List Int}{gn gi:En->Int}{gp:En->PV}{i:Nat}{x:Str}
theorem Bj (L:vC X N' sc cl (none::cap))(hc:X.calm=true)(hi:PE X src (K8 X.K G Cs gs))(hg:∀s H fp,PG (jK X N' sc cl s H fp) tg (gName 0))(he:∀s H fp,PE (jK X N' sc cl s H fp) el (mV X.K G Cb gi))(hs:∀x,foldedSetIterable src X.env x=pure x:=by intro _;rfl) :
  PE X (.ListComp el [⟨tg,src,[],0⟩] sc at') (Gp X.K G (λZ=>Cs Z/\(gs Z).length<=1000/\∀n∈gs Z,Cb ((jN (none::cap) Z).set 0 (.fr (.int n)))) λZ=>(gs Z).map λn=>gi ((jN (none::cap) Z).set 0 (.fr (.int n)))):=
 λpins s σ H Q I h=>yF L hc (pi_list hi) hg (λ_ _ _=>p8) he hs pins s σ H Q I (aa3 (EY h))
theorem Rv (L:vC X N' sc cl (none::none::cap))(hc:X.calm=true)(hgl:Gl X "enumerate")(hm:X.mg "enumerate"=none)(hi:PE X src (K8 X.K G Cs gs))
  (hg:∀s H fp,PG (jK X N' sc cl s H fp) (.Tuple els kk tp) (gTup X.K 2 (gCons (gName 0) (gCons (gName 1) gNil)))) (he:∀s H fp,PE (jK X N' sc cl s H fp) el (mV X.K G Cb gi)) (hst:starEach [src] X.env=[(false,eval src X.env)]:=by rfl)
  (hs:∀x,foldedSetIterable (.Call (.Name "enumerate" p) [src] [] pos') X.env x=pure x:=by intro _;rfl) :
  PE X (.ListComp el [⟨.Tuple els kk tp,.Call (.Name "enumerate" p) [src] [] pos',[],0⟩] sc at') (Gp X.K G (λZ=>Cs Z/\(gs Z).length<=1000/\∀k:Nat,∀n,(gs Z)[k]?=some n->Cb (((jN (none::none::cap) Z).set 0 (.fr (.int k))).set 1 (.fr (.int n))))
   λZ=>(gs Z).mapIdx λk n=>gi (((jN (none::none::cap) Z).set 0 (.fr (.int k))).set 1 (.fr (.int n)))):=
 λpins s σ H Q I h=>yF L hc (G3 hgl hm (pa_cons hi pa_nil hst) hst) hg (λ_ _ _=>p8) he hs pins s σ H Q I (abL (Ww h))
theorem YK {t:TE}{st:Stmt}{C:En->Prop}{g:En->List Int}(h:PS X st (tAsg t (gName i)))(k:∀σ H Q,Gp X.K G C g σ H Q->t σ H Q):PS X st (ts X.K G Er λP Z=>C Z/\∀ns,ns=g Z->P.nx (Z.set i (.ow (.ints ns)))):=
 toS h λB σ H Z O P D R c w=>k σ H _ ⟨B,Z,O,R,c.1,λa H1 s1 n1 e1=>w.nx _ H1 _ ⟨hide a O,R.new (p:=.ints (g Z)) s1 n1 e1 rfl⟩ (c.2 _ rfl)⟩
theorem Mv (hN:X.N.Nodup)(hi':X.N[i]?=some x)(hx:X.env.scope.names.lookup x=some .local)(L:vC X N' sc cl (none::cap))(hc:X.calm=true)(hi:PE X src (K8 X.K G Cs gs))(hg:∀s H fp,PG (jK X N' sc cl s H fp) tg (gName 0))(he:∀s H fp,PE (jK X N' sc cl s H fp) el (mV X.K G Cb gi))
  (hsw:swapsWith (.ListComp el [⟨tg,src,[],0⟩] sc at') (some (.Name x px)) spos.line X.env=pure true) (hs:∀x,foldedSetIterable src X.env x=pure x:=by intro _;rfl) :
  PS X (.Assign [.Name x px] (.ListComp el [⟨tg,src,[],0⟩] sc at') spos) (ts X.K G Er λP Z=>(Cs Z/\(gs Z).length<=1000/\∀n∈gs Z,Cb ((jN (none::cap) Z).set 0 (.fr (.int n))))/\∀ns,ns=((gs Z).map λn=>gi ((jN (none::cap) Z).set 0 (.fr (.int n))))->P.nx (Z.set i (.ow (.ints ns)))):=
 YK (Rx hN hi' hx L hc (pi_list hi) hg (λ_ _ _=>p8) he hsw hs) λσ H Q h=>aa3 (EY h)
end
theorem lF {k:En->Prop}(h:Z=Z')(q:k Z'):k Z:=by rw[h];exact q
def tyP:PV->Option Value
 | .int _=>some (.type "int")
 | .bl _=>some (.type "bool")
 | .non=>some (.type "NoneType")
 | .str _=>some (.type "str")
 | .ints _=>some (.type "list")
 | .lst _=>some (.type "list")
 | .tup _=>some (.type "tuple")
 |_=>none
def Hd:PV->Option Value
 | .ty n=>some (.type n)
 | .cls a=>some (.ref a)
 |_=>none
theorem At.ty {K:Fg}{G:Gx}{H:Hp}{p:PV}{v:V}{t:Value}(h:At K G H p v)(e:tyP p=some t):TyOf K H v t:=by
 cases p<;>first|cases e|skip
 ·cases (show v=_ from h);exact .int _
 ·cases (show v=_ from h);exact .bl _
 ·cases (show v=_ from h);exact .non
 ·cases (show v=_ from h);exact .str _
 ·obtain⟨a,rfl,r|⟨o,r⟩⟩:=h
  ·exact .lst r
  ·exact .frz r
 ·obtain⟨a,vs,rfl,r|⟨o,r⟩,_⟩:=h
  ·exact .lst r
  ·exact .frz r
 ·obtain⟨a,vs,rfl,r,_⟩:=h;exact .tup r
theorem At.cls {K:Fg}{G:Gx}{H:Hp}{p:PV}{v:V}{t:Value}(h:At K G H p v)(e:Hd p=some t):U7 v=some t:=by
 cases p<;>first|cases e|skip
 ·cases (show v=_ from h);rfl
 ·cases (show v=_ from h);rfl
def oF (K:Fg)(p c:PV):Bool:=match tyP p,Hd c with
 |some t,some cv=>W.kitOne K t cv == some true
 |_,_=>false
def Ro (K:Fg)(p c:PV):Prop:=∃t cv b,tyP p=some t/\Hd c=some cv/\W.kitOne K t cv=some b
theorem pQ {K:Fg}{p c:PV}{t cv:Value}{b:Bool}(h1:tyP p=some t)(h2:Hd c=some cv)(h:W.kitOne K t cv=some b):oF K p c=b:=by unfold oF;rw[h1,h2];show(W.kitOne K t cv == some true)=b;rw[h];cases b<;>rfl
theorem TyOf.up {K:Fg}{H H':Hp}{v:V}{t:Value}(s:Same H H')(h:TyOf K H v t):TyOf K H' v t:=by
 cases h with
 |non=>exact .non
 |bl x=>exact .bl x
 |int x=>exact .int x
 |str x=>exact .str x
 |flt x=>exact .flt x
 |lst e=>exact .lst (s _ _ e)
 |frz e=>exact .frz (s _ _ e)
 |tup e=>exact .tup (s _ _ e)
 |dK e=>exact .dK (s _ _ e)
 |dT e=>exact .dT (s _ _ e)
 |ins e a b c d f=>exact .ins (s _ _ e) a b c d f
section
variable {X:Cx}{G:Gx}{a b c e:Expr}{es:List Expr}{pos p px apos:Pos}{C Ca Cb Cc:En->Prop}{ga gc:En->PV}{gi gj:En->Int}{i j k n:Nat}{x m:Str}
theorem qg (hm:X.mg "isinstance"=none)(ha:PE X a (tX X.K G Ca ga))(hc:PE X c (tX X.K G Cc gc))(hg:Gl X "isinstance":=by rfl)(he:starEach [a,c] X.env=(false,eval a X.env)::starEach [c] X.env:=by rfl)(he2:starEach [c] X.env=[(false,eval c X.env)]:=by rfl)(hpl:(backTo pos (starEach [c] X.env)).any (·.1)=false:=by rfl) :
  PE X (.Call (.Name "isinstance" p) [a,c] [] pos) (TF X.K G (λZ=>Ca Z/\Cc Z/\Ro X.K (ga Z) (gc Z)) λZ=>oF X.K (ga Z) (gc Z)=true):=
 uQ (pe_callB yx hg hm vd (pa_cons ha (pa_cons hc pa_nil he2) he) (by decide) (by decide) he hpl) λB σ H Z O Q R cc q=>⟨B,Z,O,R,cc.1,λv H1 s1 a1=>⟨B,Z,O,R.grow s1,cc.2.1,λu H2 s2 a2=>by
  obtain⟨t,cv,b,e1,e2,e3⟩:=cc.2.2;refine⟨v,u,t,cv,b,rfl,a2.cls e2,TyOf.up (jT.trans s2) (a1.ty e1),e3,q _ H2 (s1.trans s2) ?_⟩;have z:oF X.K (ga Z) (gc Z)=b:=pQ e1 e2 e3;show V.bl b=V.bl (decide (oF X.K (ga Z) (gc Z)=true));rw[z,dI]⟩⟩
abbrev GX (K:Fg)(G:Gx)(pre:List PV->Prop)(F:List PV->Int):Sp:=ym K G pre λas=>.int (F as)
abbrev Q6 (K:Fg)(G:Gx)(pre:List PV->Prop)(F:List PV->Bool):Sp:=ym K G pre λas=>.bl (F as)
abbrev ZJ (K:Fg)(G:Gx)(pre:List PV->Prop)(F:List PV->List Int):Sp:=ym K G pre λas=>.ints (F as)
variable {ps:List Str}{pre:List PV->Prop}{gs:En->List PV}
theorem xcL (o:Ok X.prog X.w X.K X.mg X.base j x ps (ZJ X.K G pre F))(hr:Room k X.A)(ha:PA X (e::es) (Ir X.K G C gs))(hj:j<=k:=by decide)(hg:Gl X x:=by rfl)(hdb:(x == ("__debug__":Str))=false:=by decide)
  (he:starEach (e::es) X.env=(false,eval e X.env)::starEach es X.env:=by rfl) (hpl:(backTo pos (starEach es X.env)).any (·.1)=false:=by rfl) :
  PE X (.Call (.Name x p) (e::es) [] pos) (K8 X.K G (λZ=>C Z/\pre (gs Z)) λZ=>F (gs Z)):=xc o hr ha hj hg hdb he hpl
theorem Wm (o:Ok X.prog X.w X.K X.mg X.base j x ps (GX X.K G pre F))(hr:Room k X.A)(ha:PA X (e::es) (Ir X.K G C gs))(hj:j<=k:=by decide)(hg:Gl X x:=by rfl)(hdb:(x == ("__debug__":Str))=false:=by decide)
  (he:starEach (e::es) X.env=(false,eval e X.env)::starEach es X.env:=by rfl) (hpl:(backTo pos (starEach es X.env)).any (·.1)=false:=by rfl) :
  PE X (.Call (.Name x p) (e::es) [] pos) (mV X.K G (λZ=>C Z/\pre (gs Z)) λZ=>F (gs Z)):=xc o hr ha hj hg hdb he hpl
theorem Z5 (o:Ok X.prog X.w X.K X.mg X.base j x ps (Q6 X.K G pre F))(hr:Room k X.A)(ha:PA X (e::es) (Ir X.K G C gs))(hj:j<=k:=by decide)(hg:Gl X x:=by rfl)(hdb:(x == ("__debug__":Str))=false:=by decide)
  (he:starEach (e::es) X.env=(false,eval e X.env)::starEach es X.env:=by rfl) (hpl:(backTo pos (starEach es X.env)).any (·.1)=false:=by rfl) :
  PE X (.Call (.Name x p) (e::es) [] pos) (TF X.K G (λZ=>C Z/\pre (gs Z)) λZ=>F (gs Z)=true):=
 uQ (xc o hr ha hj hg hdb he hpl) λB σ H Z O Q R c q=>⟨B,Z,O,R,c,λv H' s a=>q v H' s (by dsimp only;rw[dI];exact a)⟩
def KH (Z:En)(i:Nat):Int:=match Z[i]? with
 |some (.fr (.ob 0 z))=>z
 |_=>0
def isK (Z:En)(i:Nat):Prop:=Z[i]?=some (.fr (.ob 0 (KH Z i)))
theorem qu {KA:Hp->Addr->Int->Prop}{preK:Int->List Int->Prop}{F:Int->List Int->Int}{pl:Sem Bool}(i:Nat)(M:KM X.prog X.w X.K X.mg X.base j KA m n preK F)(hr:Room k X.A)(ha:PA X (e::es) (Ir X.K G C gs))(hn:∀Z,(gs Z).length=n:=by intro _;rfl)(hG:∀H a z,G.ob 0 H a z->KA H a z:=by first|exact λ_ _ _ h=>h.2|exact λ_ _ _ h=>h.elim (λz=>z.2) λz=>absurd z.1 (by decide))(hGm:∀{H H':Hp} {a:Addr} {z:Int},KA H a z->Same H H' -> KA H' a z:=by first|exact λh s=>KAt.same h s|exact λh s=>h.same s)(hj:j<=k:=by decide)
  (hN:X.N[i]?=some x:=by rfl) (hv:Vis X.env.scope x:=by first|exact Or.inl rfl|exact Or.inr (Or.inl rfl)|exact Or.inr (Or.inr rfl)) (hd:(x == ("__debug__":Str))=false:=by decide) (hcd:(x == ("__classdict__":Str))=false:=by decide)
  (hst:starEach (e::es) X.env=(false,eval e X.env)::starEach es X.env:=by rfl) (hpl:(backTo pos (starEach es X.env)).any (·.1)=false:=by rfl)
  (ht:eval (.Call (.Attribute (.Name x px) m apos) (e::es) [] pos) X.env=(do
   let ov <- eval (.Name x px) X.env
   standAt apos.atName
   let (f,first) <- holding [ov] (getMethod ov m pl)
   callWith pos f first (backTo pos (starEach (e::es) X.env)) (backToKw pos (keywordEach [] X.env))):=by rfl) :
  PE X (.Call (.Attribute (.Name x px) m apos) (e::es) [] pos) (mV X.K G (λZ=>isK Z i/\C Z/\Lj (gs Z)/\preK (KH Z i) (ul (gs Z))) λZ=>F (KH Z i) (ul (gs Z))):=by
 intro pins s σ H Q I h;obtain⟨B,Z,O,R,⟨c0,c1,c2,c3⟩,q⟩:=h;obtain⟨v,e1,a,rfl,ka⟩:=R.fr i _ c0;have ka1:KA H a (KH Z i):=hGm (hG _ _ _ ka) jT;obtain⟨Cl,dx,fs,ps,f1,f2,M'⟩:=M.ex H a _ ka1;obtain⟨f,fd,FF,bb,mm,cc⟩:=M'.ex;refine pe_meth (pe_var hN hv hd hcd) cc mm (FF.mono hj) hr bb .nil pass0 ha hst hpl ht pins s σ H Q I ⟨_,e1,a,dx,fs,rfl,f1,f2,B,Z,O,R,c1,λvs H1 s1 a1=>?_⟩;have ev:=a1.ints c2;have el:(ul (gs Z)).length=n:=by rw[<- hn Z,a1.length,ev,aa]
 exact⟨ul (gs Z),el,by rw[bh,ev],hGm ka1 s1,c3,q _ H1 s1 rfl⟩
end
theorem HJ:∀{as:List PV},Lj as->(ul as).length=as.length
 |[],_=>rfl
 |p::r,h=>by
  cases p<;>first|exact h.elim|skip
  show(ul r).length+1=r.length+1;rw[HJ (as:=r) h]
section
variable {P:Program}{w:World}{K:Fg}{mg:Mg}{base:Heap}{G:Gx}{k n:Nat}{x:Str}{ps:List Str}
def aa8:List PV->List Int
 | .scr ns::_=>ns
 |_=>[]
def aaA (n:Nat)(pre:List Int->List Int->Prop):List PV->Prop
 | .scr ns::r=>Lj r/\r.length=n/\pre ns (ul r)
 |_=>False
theorem aaW (o:Ok P w K mg base k x ps (spS K n pre F)):Ok P w K mg base k x ps (GX K G (aaA n pre) λas=>F (aa8 as) (ul as.tail)):=
 o.imp λvs H Q E ⟨as,O,_,al,hp,q⟩=>by
  match as,hp,al,q with
  | .scr ns::r,⟨h1,h2,h3⟩,al,q=>obtain⟨v,t,rfl,⟨a,rfl,hs⟩,al2⟩:=al;exact⟨a,ns,ul r,by rw[HJ h1,h2],by rw[al2.ints h1],jT.seq hs,h3,q _ H (Same.refl H) rfl⟩
end
section
variable {X:Cx}{G:Gx}{Er:ER}{b e:Expr}{px ps pos:Pos}{C Cb:En->Prop}{g gb:En->Int}
theorem U4:PGet X (rIxL X.K):=by
 intro pins s σ H x y v u Q I rx ry h;obtain⟨p,xs,i,z,rfl,rfl,hq,he,q⟩:=h;cases rx;obtain⟨t,rfl⟩:=ry;obtain⟨its,r,pl,hz⟩:=I.list hq;obtain⟨j,h1,h2,h3,h4,h5⟩:=atI_get he;obtain⟨w,ew,rw'⟩:=r.get h2;have hl:=r.length;have hn:=line63;have fin:EP X pins σ Q w s:=⟨z,H,I,rw',q⟩;by_cases h0:0<=i
 ·have hj:i.toNat=j:=by rw[iM h0 h5]at h1;exact aI h1
  exact wpAny_getItem_list pl.isList h0 (by lia) (by rw[hj];simpa using ew) fin
 ·have hj:(i+(its.toArray.size:Int)).toNat=j:=by rw[hZ (by lia) h4]at h1;rw[aw,<- hl];exact aI h1
  exact wpAny_getItem_list_neg pl.isList (by lia) (by rw[aw]<;>lia) (by lia) (by rw[hj];simpa using ew) fin
theorem Dc (i:Nat){op:Operator}{Pr:Int->Int->Prop}{h:Int->Int->Int}(hk:PE X b (mV X.K G Cb gb))(he:PE X e (mV X.K G C g))(ho:OpR X (inplaceOp op) (rI Pr λi j=>.int (h i j)))(hN:X.N[i]?=some x:=by rfl)(hv:Vis X.env.scope x:=by first|exact Or.inl rfl|exact Or.inr (Or.inl rfl)|exact Or.inr (Or.inr rfl))
  (hd:(x == ("__debug__":Str))=false:=by decide) (hcd:(x == ("__classdict__":Str))=false:=by decide)
  (ha:∀ov iv new,augStore b ov iv new=(do holding [new,ov,iv] (setItem ov iv new);release [new,ov,iv] [];pure .next):=by intros;rfl) :
  PS X (.AugAssign (.Subscript (.Name x px) b ps) op e pos) (ts X.K G Er λP Z=>ZL Z i/\Cb Z/\(-((getL Z i).length:Int)<=gb Z/\gb Z<((getL Z i).length:Int))/\C Z/\Pr ((getL Z i).getD (lC (getL Z i).length (gb Z)) 0) (g Z) /\
   P.nx (Z.set i (.ow (.ints ((getL Z i).set (lC (getL Z i).length (gb Z)) (h ((getL Z i).getD (lC (getL Z i).length (gb Z)) 0) (g Z))))))):=
 toS (ps_augS (pe_var hN hv hd hcd) hk U4 he ho set_list ha) λB σ H Z O P D R c w=>by obtain⟨c0,c1,cb,c2,cp,c3⟩:=c;obtain⟨a,vs,e1,e2,e3,e4,e5⟩:=R.ow i _ c0;subst e5;refine⟨_,e1,B,Z,O,R,c1,λu H1 s1 a1=>?_⟩;subst a1;refine⟨a,_,_,_,rfl,rfl,SqL.of (s1 _ _ e4),getD_at cb.1 cb.2,B,Z,O,R.grow s1,c2,λv H2 s2 a2=>?_⟩;subst a2;refine⟨_,_,rfl,rfl,cp,a,_,_,_,rfl,rfl,s2 _ _ (s1 _ _ e4),by rw[aa];exact Kp cb.1 cb.2,w.nx σ _ _ ⟨O,((R.grow s1).grow s2).change c0 e1 (p':=.ints _) ?_⟩ c3⟩;show _=((getL Z i).set _ _).map V.int;rw[List.map_set];rfl
end
end L3
namespace L3
open PySem PyProof.Rows L2 FM
theorem vW (xs:Li)(lo hi:Option Int):(oX xs lo hi).length<=xs.length:=by unfold oX;rw[aM,a9];lia
theorem uF (xs:Li)(a:Nat):oX xs (some (a:Int)) none=xs.drop a:=by
 unfold oX;rw[HT.sIx_nat,HT.sIx_none];by_cases h:a<=xs.length
 ·rw[dk h,cf (by rw[a9];lia)]
 ·rw[eO (by lia),cQ (aq _),cQ (by lia),gR]
theorem N6 (xs:Li)(b:Nat):oX xs none (some (b:Int))=xs.take b:=by
 unfold oX;rw[HT.sIx_nat,HT.sIx_none,iH,gz];by_cases h:b<=xs.length
 ·rw[dk h]
 ·rw[eO (by lia),cf (aq _),cf (by lia)]
theorem Su (xs:Li)(a b:Nat):oX xs (some (a:Int)) (some (b:Int))=(xs.drop a).take (b-a):=by
 unfold oX;rw[HT.sIx_nat,HT.sIx_nat];by_cases h:a<=xs.length
 ·rw[dk h];by_cases h2:b<=xs.length
  ·rw[dk h2]
  ·rw[eO (by lia),cf (by rw[a9];lia),cf (by rw[a9];lia)]
 ·rw[cQ (show xs.length<=min a xs.length by lia),cQ (show xs.length<=a by lia),gR,gR]
theorem Br {z a:Int}{B:Nat}(hz:0<=z)(hz2:z<(B:Int))(ha:a.natAbs<B):(pl z a).natAbs<B:=by
 by_cases h:z=0
 ·subst h;exact ha
 ·have:=Aj (z:=z) (n:=a) (by lia);lia
theorem Wi (h:a*b+c<9000):2^c*(2^a)^b<2^9000:=by rw[<- Nat.pow_mul,<- ji];exact bx (by decide) (by lia)
theorem QH {x:Int}{xs:Li}(hx:x.natAbs<=2^100)(hl:xs.length<=80)(hm:∀n∈xs,n.natAbs<=2^200):(ev xs x).natAbs<2^9000:=by refine aV (Vc hx (dJ (by decide)) xs hm) ?_;refine aV (gG (gG (aJ hl (show 80<=2^7 by decide)) (aq _)) (cO (dJ (by decide)) hl)) ?_;rw[<- ji];exact Wi (by decide)
theorem Qg {α:Type}{xs:List α}{i:Nat}{n:α}(h:i<xs.length)(e:xs[xs.length-1-i]?=some n):xs.drop (xs.length-(i+1))=n::xs.drop (xs.length-i):=by
 have l:xs.length-(i+1)<xs.length:=by lia
 have e1:xs.length-1-i=xs.length-(i+1):=by lia
 have e2:xs.length-(i+1)+1=xs.length-i:=by lia
 rw[e1,ac l]at e;rw[eM l,e2,aI e]
end L3
namespace L2
open PySem PySem.Spec PyProof.Rows
def qK {α:Type}(xs:List α)(lo hi st:Option Int):List α:=(sliceRange (sliceBounds lo hi st xs.length).1 (sliceBounds lo hi st xs.length).2.1 (sliceBounds lo hi st xs.length).2.2).filterMap λk=>xs[k]?
theorem xm (r:Vals xs its):∀l:List Nat,Vals (l.filterMap λk=>xs[k]?) (l.filterMap λk=>its[k]?)
 |[]=>.nil
 |k::l=>by
  rw[aZ,aZ];cases e:xs[k]? with
  |none=>rw[r.none_of e];exact xm r l
  |some x=>obtain⟨u,e',ru⟩:=r.get e;rw[e'];exact .cons ru (xm r l)
theorem QK (xs:List α)(lo hi st:Option Int):(qK xs lo hi st).length<=xs.length:=by
 unfold qK;have h:=slicePick_size_le (xs.map λ_=>Value.none).toArray lo hi st;unfold slicePick at h;rw[aw,aw,aa]at h;refine aJ (ja ?_) h;generalize sliceRange _ _ _=l
 induction l with
 |nil=>rfl
 |cons k l ih=>
  rw[aZ,aZ,im,az];cases xs[k]? with
  |none=>exact ih
  |some x=>simp only[dW,aR,ih]
theorem Tp (f:α->β)(xs:List α)(lo hi st:Option Int):qK (xs.map f) lo hi st=(qK xs lo hi st).map f:=by
 unfold qK;rw[aa];generalize sliceRange _ _ _=l
 induction l with
 |nil=>rfl
 |cons k l ih=>
  rw[aZ,aZ,az];cases xs[k]? with
  |none=>exact ih
  |some x=>simp only[dW,bM,ih]
section
variable {X:Cx}{e st:Expr}{te:TE}{lo hi:Option Expr}{tl th tt:TO}{pos p2:Pos}
def abF (K:Fg)(te:TE)(tl th tt:TO):TE:=λσ H Q=>te σ H λx H1=>tl σ H1 λl H2=>th σ H2 λu H3=>tt σ H3 λk H4=>∃a xs,x=.ref a/\SqL K H4 a xs/\k≠some 0/\∀p,H4 p=none->Q (.ref p) (upd H4 p (.lst (qK xs l u k)))
theorem Pu (he:PE X e te)(hl:PO X lo tl)(hu:PO X hi th)(ht:PO X (some st) tt):PE X (.Subscript e (.Slice lo hi (some st) p2) pos) (abF X.K te tl th tt):=by
 intro pins s σ H Q I h;refine Subscript_ (thn (he pins s σ H _ I h) λv s1 ⟨x,H1,I1,r1,q1⟩=>?_);refine wpAny_Slice (thn (hl pins s1 σ H1 _ I1 q1) λvl s2 ⟨l,H2,I2,pl,q2⟩=>thn (hu pins s2 σ H2 _ I2 q2) λvu s3 ⟨u,H3,I3,pu,q3⟩=>thn (ht pins s3 σ H3 _ I3 q3) λvs s4 ⟨k,H4,I4,pk,q4⟩=>?_);obtain⟨a,xs,rfl,hx,h0,q⟩:=q4;cases r1;have I5:Inv X pins σ H4 { s4 with heap:=s4.heap.push { cls:=.type "slice",data:=.fields #[vl,vu,vs] } }:=I4.kept (t':=s4.toks) λb ob q=>ay _ q;obtain⟨its,r,ht',hz⟩:=I5.list hx;have hlen:=r.length;refine tail_any (ops:=[.ref a,.ref s4.heap.objs.size]) ht'.isList.typeIs slot_list_getitem.lookup ?_ (by with_unfolding_all rfl);refine wpAny_getItem_list_slice ht'.isList (Heap.IsSliceOf.new ..) pl pu pk h0 ?_ (by rw[aw]<;>lia);have ep:slicePick its.toArray l u k=(qK its l u k).toArray:=by unfold slicePick qK;rw[aw];congr 1;congr 1;funext j;exact im
 rw[ep];refine⟨.ref _,_,I5.laid (t':=s4.toks) (o:=.lst (qK xs l u k)) (λb ob q=>ay _ q) (aq _) ?_,rfl,q _ (I5.hok.fresh (aq _))⟩;refine⟨aJ (QK xs l u k) hz,_,0,?_,bi _ rfl⟩;unfold qK;rw[<- hlen];exact xm r _
end
end L2
namespace L3
open PySem PySem.Spec PyProof.Rows L2
section
variable {X:Cx}{G:Gx}{a:Expr}{pos p2:Pos}{C:En->Prop}
theorem Qa {st:Expr}{lo hi:Option Expr}{g:En->PV}{ns:En->List Int}{Cl Ch Cs:En->Prop}{gl gh gk:En->Option Int}(ha:PE X a (tX X.K G C g))(hl:PO X lo (Xy X.K G Cl gl))(hh:PO X hi (Xy X.K G Ch gh))(hs:PO X (some st) (Xy X.K G Cs gk))(hn:∀Z,C Z->g Z=.ints (ns Z)\/g Z=.scr (ns Z)) :
  PE X (.Subscript a (.Slice lo hi (some st) p2) pos) (Gp X.K G (λZ=>C Z/\Cl Z/\Ch Z/\Cs Z/\gk Z≠some 0) λZ=>qK (ns Z) (gl Z) (gh Z) (gk Z)):=
 JS (Pu ha hl hh hs) λB σ H Z O Q R c q=>⟨B,Z,O,R,c.1,λv H1 s1 a1=>⟨B,Z,O,R.grow s1,c.2.1,λH2 s2=>⟨B,Z,O,(R.grow s1).grow s2,c.2.2.1,λH3 s3=>⟨B,Z,O,((R.grow s1).grow s2).grow s3,c.2.2.2.1,λH4 s4=>by
  have key:∃p,v=.ref p/\SqL X.K H1 p ((ns Z).map V.int):=by
   rcases hn Z c.1 with z|z
   ·rw[z]at a1;obtain⟨p,e,r⟩:=a1;exact⟨p,e,.inl (jC jT r)⟩
   ·rw[z]at a1;obtain⟨p,e,r⟩:=a1;exact⟨p,e,jT.seq r⟩
  obtain⟨p,rfl,r⟩:=key;refine⟨p,_,rfl,((s2.trans s3).trans s4).seq r,c.2.2.2.2,λl hl=>q l _ ((((s1.trans s2).trans s3).trans s4).trans (same_new hl _)) ((((s1.trans s2).trans s3).trans s4).free hl) ?_⟩;rw[upd_same,Tp]⟩⟩⟩⟩
end
end L3
namespace FM
open L2
theorem jw {xs:Li}{n:Nat}(h:xs.length<=n):xs.getD n 0=0:=by rw[gQ,bG h];rfl
theorem jE {xs:Li}{n:Nat}(h:n<xs.length):xs.getD n 0=xs[n]:=by rw[gQ,ac h];rfl
theorem getD_at' {xs:Li}{n:Nat}{x:Int}(h:xs[n]?=some x):xs.getD n 0=x:=by rw[gQ,h];rfl
theorem getD_mem {xs:Li}{n:Nat}(h:n<xs.length):xs.getD n 0∈xs:=by rw[jE h];exact bJ h
theorem m7 (f:Int->Int)(h0:f 0=0)(xs:Li)(n:Nat):(xs.map f).getD n 0=f (xs.getD n 0):=by
 by_cases h:n<xs.length
 ·rw[jE (by rw[aa];exact h),bA,jE h]
 ·rw[jw (by rw[aa];lia),jw (by lia),h0]
theorem lO (z:Int):pl z 0=0:=by
 unfold pl;split
 ·rfl
 ·exact i5 z
theorem Jw (xs:Li)(x:Int)(n:Nat):(xs++[x]).getD n 0=if n=xs.length then x else xs.getD n 0:=by
 by_cases h:n<xs.length
 ·rw[jE (by rw[ai];lia),gJ h,ag (by lia),jE h]
 ·by_cases h2:n=xs.length
  ·subst h2;rw[ah rfl,jE (by rw[ai,bZ];lia),gH (aq _)];simp
  ·rw[ag h2,jw (by rw[ai,bZ];lia),jw (by lia)]
theorem Mm (xs:Li):xs=[]\/∃ys x,xs=ys++[x]:=by
 by_cases h:xs=[]
 ·exact .inl h
 ·exact .inr ⟨_,_,(dR h).symm⟩
theorem CP:∀(k:Nat) (xs:Li),xs.length=k->∀n,(j7 xs).getD n 0=xs.getD n 0
 |0,xs,h,n=>by have:xs=[]:=dM.mp h;subst this;rfl
 |k+1,xs,h,n=>by
  rcases Mm xs with rfl|⟨ys,x,rfl⟩
  ·rfl
  ·by_cases hx:x=0
   ·subst hx;have hl:ys.length=k:=by rw[ai,bZ]at h;lia
    rw[vG,CP k ys hl n,Jw];by_cases h2:n=ys.length
    ·rw[ah h2,jw (by lia)]
    ·rw[ag h2]
   ·rw[Av _ hx]
theorem vU (xs:Li)(n:Nat):(j7 xs).getD n 0=xs.getD n 0:=CP _ xs rfl n
def kh (xs:List Int):Prop:=xs≠[]->xs.getD (xs.length-1) 0≠0
theorem z8:∀(k:Nat) (xs:Li),xs.length=k->kh (j7 xs)
 |0,xs,h=>by have:xs=[]:=dM.mp h;subst this;intro h;exact absurd rfl h
 |k+1,xs,h=>by
  rcases Mm xs with rfl|⟨ys,x,rfl⟩
  ·intro h;exact absurd rfl h
  ·by_cases hx:x=0
   ·subst hx;rw[vG];exact z8 k ys (by rw[ai,bZ]at h;lia)
   ·rw[Av _ hx];intro _;rw[Jw,ah (by rw[ai,bZ];lia)];exact hx
theorem rD (xs:Li):kh (j7 xs):=z8 _ xs rfl
theorem m5 {a b:Li}(ha:kh a)(hb:kh b)(h:∀n,a.getD n 0=b.getD n 0):a=b:=by
 have le:∀{a b:List Int},kh a->(∀n,a.getD n 0=b.getD n 0)->a.length<=b.length:=λ{a b} ha h=>by
  by_cases c:a.length<=b.length
  ·exact c
  ·have hne:a≠[]:=λz=>by subst z;exact c (bq _)
   exact absurd (by rw[h,jw (by lia)]) (ha hne)
 have hl:a.length=b.length:=Nat.le_antisymm (le ha h) (le hb λn=>(h n).symm);refine cF hl λi h1 h2=>?_;have:=h i;rw[jE h1,jE h2]at this;exact this
theorem IV (h:∀n,a.getD n 0=b.getD n 0):j7 a=j7 b:=
 m5 (rD a) (rD b) λn=>by rw[vU,vU,h]
theorem GJ {z:Int}{a b:Li}(h:∀n,pl z (a.getD n 0)=pl z (b.getD n 0)):j7 (a.map (pl z))=j7 (b.map (pl z)):=
 IV λn=>by rw[m7 _ (lO z),m7 _ (lO z),h]
def Tz (z:Int)(f:List Int):List Int:=j7 (f.map (pl z))
theorem kI (z:Int)(f:Li)(n:Nat):(Tz z f).getD n 0=pl z (f.getD n 0):=by unfold Tz;rw[vU,m7 _ (lO z)]
theorem m6 (z:Int)(f:Li):(Tz z f).length<=f.length:=by unfold Tz;refine aJ (Dz _) ?_;rw[aa];exact aq _
theorem mem_getD {xs:Li}{m:Int}(h:m∈xs):∃n,n<xs.length/\xs.getD n 0=m:=by obtain⟨n,h1,h2⟩:=List.getElem_of_mem h;exact⟨n,h1,by rw[jE h1,h2]⟩
theorem Zq {z:Int}{f:Li}{m:Int}(h:m∈Tz z f):∃k∈f,m=pl z k:=by obtain⟨n,h1,h2⟩:=mem_getD h;rw[kI]at h2;exact⟨f.getD n 0,getD_mem (aD h1 (m6 z f)),h2.symm⟩
def sm:Nat->(Nat->Int)->Int
 |0,_=>0
 |n+1,f=>sm n f+f n
theorem jz:∀{n:Nat},(∀i,i<n->f i=g i)->sm n f=sm n g
 |0,_=>rfl
 |n+1,h=>by show sm n f+f n=sm n g+g n;rw[jz λi hi=>h i (by lia),h n (by lia)]
theorem mZ:∀{n:Nat},(∀i,i<n->f i=0)->sm n f=0
 |0,_=>rfl
 |n+1,h=>by show sm n f+f n=0;rw[mZ λi hi=>h i (by lia),h n (by lia)];rfl
theorem zq:∀{m:Nat},n<=m->(∀i,n<=i->i<m->f i=0)->sm m f=sm n f
 |0,h,_=>by
  have:n=0:=by lia
  subst this;rfl
 |m+1,h,z=>by
  by_cases c:n=m+1
  ·subst c;rfl
  ·show sm m f+f m=sm n f;rw[z m (by lia) (by lia),bH];exact zq (by lia) λi h1 h2=>z i h1 (by lia)
theorem qd (f:Nat->Int):∀n,sm (n+1) f=f 0+sm n λi=>f (i+1)
 |0=>by show 0+f 0=f 0+0;lia
 |n+1=>by show sm (n+1) f+f (n+1)=f 0+(sm n (λi=>f (i+1))+f (n+1));rw[qd f n];lia
theorem Sw (f:Nat->Int):∀n,sm (n+1) f=sm (n+1) λi=>f (n-i)
 |0=>rfl
 |n+1=>by
  rw[qd (λi=>f (n+1-i)) (n+1)];show sm (n+1) f+f (n+1)=f (n+1-0)+sm (n+1) λi=>f (n+1-(i+1));rw[Sw f n,gz];have:sm (n+1) (λi=>f (n-i))=sm (n+1) λi=>f (n+1-(i+1)):=jz λi _=>by rw[Nat.add_sub_add_right]
  lia
theorem Yc:∀{n:Nat},(∀i,i<n->pl z (f i)=pl z (g i))->pl z (sm n f)=pl z (sm n g)
 |0,_=>rfl
 |n+1,h=>by show pl z (sm n f+f n)=pl z (sm n g+g n);rw[<- zP,<- Mi,Yc λi hi=>h i (by lia),h n (by lia),zP,Mi]
def cm (f g:List Int)(n:Nat):Int:=sm (n+1) λi=>f.getD i 0*g.getD (n-i) 0
theorem jJ (f g:Li)(n:Nat):cm f g n=cm g f n:=by unfold cm;rw[Sw];refine jz λi hi=>?_;rw[cu,show n-(n-i)=i by lia]
theorem aaT (hf:∀n,pl z (f.getD n 0)=pl z (f'.getD n 0))(hg:∀n,pl z (g.getD n 0)=pl z (g'.getD n 0))(n:Nat):pl z (cm f g n)=pl z (cm f' g' n):=
 Yc λi _=>by rw[<- zY,<- zp,hf,hg,zY,zp]
def I9 (f g:List Int)(n i:Nat):Int:=sm i λj=>if j<=n then f.getD j 0*g.getD (n-j) 0 else 0
theorem Qn (f g:Li)(n:Nat){i:Nat}(h:f.length<=i):I9 f g n i=cm f g n:=by
 have e:cm f g n=I9 f g n (n+1):=jz λj hj=>by rw[ah (by lia)]
 rw[e];unfold I9;rcases Nat.le_total i (n+1) with c|c
 ·refine(zq c λj h1 h2=>?_).symm;rw[jw (show f.length<=j by lia),bV];split<;>rfl
 ·refine zq c λj h1 h2=>?_;rw[ag (by lia)]
theorem S6 {n:Nat}(h:f.length+g.length<=n+1):cm f g n=0:=by
 unfold cm;refine mZ λi hi=>?_;by_cases c:i<f.length
 ·rw[jw (show g.length<=n-i by lia),aW]
 ·rw[jw (show f.length<=i by lia),bV]
def ju (f g:List Int):List Int:=(List.range (f.length+g.length)).map (cm f g)
theorem jr (f g:Li)(n:Nat):(ju f g).getD n 0=cm f g n:=by
 unfold ju;by_cases h:n<f.length+g.length
 ·rw[jE (by rw[aa,ao];exact h),bA,bu]
 ·rw[jw (by rw[aa,ao];lia),S6 (by lia)]
theorem RQ {a b:Li}(hl:a.length=b.length)(h:∀n,a.getD n 0=b.getD n 0):a=b:=by refine cF hl λi h1 h2=>?_;have:=h i;rw[jE h1,jE h2]at this;exact this
def sY (f g:List Int)(i k:Nat)(row:List Int):Prop:=row.length=f.length+g.length/\∀n,row.getD n 0=I9 f g n i+if i<=n/\n-i<k then f.getD i 0*g.getD (n-i) 0 else 0
theorem DN (f g:Li):sY f g 0 0 (List.replicate (f.length+g.length) 0):=by
 refine⟨aG,λn=>?_⟩;rw[ag (by lia)];by_cases h:n<f.length+g.length
 ·rw[jE (by rw[aG];exact h),cS];rfl
 ·rw[jw (by rw[aG];lia)];rfl
theorem nW (row:Li)(j:Nat)(x:Int)(n:Nat)(h:j<row.length):(row.set j x).getD n 0=if n=j then x else row.getD n 0:=by
 by_cases c:n=j
 ·subst c;rw[ah rfl,jE (by rw[bB];exact h),List.getElem_set_self]
 ·rw[ag c,gQ,eG (by lia),<- gQ]
theorem Hz (h:sY f g i k row)(hi:i<f.length)(hk:k<g.length):sY f g i (k+1) (row.set (i+k) (row.getD (i+k) 0+f.getD i 0*g.getD k 0)):=by
 obtain⟨hl,hr⟩:=h;refine⟨by rw[bB];exact hl,λn=>?_⟩;rw[nW _ _ _ _ (by lia)];by_cases c:n=i+k
 ·subst c;rw[ah rfl,hr,ag (by lia),ah (by lia),show i+k-i=k by lia];lia
 ·rw[ag c,hr];by_cases d:i<=n/\n-i<k
  ·rw[ah d,ah (by lia)]
  ·rw[ag d,ag (by lia)]
theorem Jr {i:Nat}(h:sY f g i g.length row):sY f g (i+1) 0 row:=by
 obtain⟨hl,hr⟩:=h;refine⟨hl,λn=>?_⟩;rw[hr,ag (show ¬(i+1<=n/\n-(i+1)<0) by lia)];show _=I9 f g n i+(if i<=n then f.getD i 0*g.getD (n-i) 0 else 0)+0;by_cases c:i<=n
 ·rw[ah c];by_cases d:n-i<g.length
  ·rw[ah ⟨c,d⟩];lia
  ·rw[ag (by lia),jw (show g.length<=n-i by lia),aW];lia
 ·rw[ag (by lia),ag c];lia
theorem row_end {f g row:Li}(h:sY f g f.length 0 row):row=ju f g:=by obtain⟨hl,hr⟩:=h;refine RQ (by rw[hl];unfold ju;rw[aa,ao]) λn=>?_;rw[hr,ag (by lia),jr,Qn f g n (aq _)];lia
theorem Hx (z:Int)(f g:Li):Tz z (ju (Tz z f) (Tz z g))=Tz z (ju f g):=
 GJ λn=>by rw[jr,jr];exact aaT (λk=>by rw[kI,uq]) (λk=>by rw[kI,uq]) n
end FM
section
open PySem PySem.Spec PyProof.Rows
namespace L3
open L2
theorem abi (H:Hp):mn H (λ_=>false)=H:=by funext b;exact qI rfl
def Vw (K:Fg)(G:Gx)(C:En->Prop)(g:En->PV):TE:=λσ H Q=>∃B Z O,Rep K G B σ H Z O/\C Z/\∀v H',Same H H' -> At K G H' (g Z) v->Q v H'
section
variable {X:Cx}{G:Gx}{Er:ER}{a b c e:Expr}{es:List Expr}{pos p px ps pa pc:Pos}{C Ca Cb:En->Prop}{g:En->PV}{gs:En->List PV}{gi:En->Int}{i j k:Nat}{x:Str}{pl:List Str}{pre:List PV->Prop}
theorem rdX (h:PE X e (tX X.K G C g)):PE X e (Vw X.K G C g):=λpins s σ H Q I ⟨B,Z,O,R,c,q⟩=>h pins s σ H Q I ⟨B,Z,O,R,c,λv H' s a=>q v H' s (At.mono jT _ _ a)⟩
end
end L3
namespace L2
theorem wH:∀{ns:Li} {its:Lv},Vals (ns.map V.int) its->IntsAre its ns
 |[],_,h=>by cases h;exact .nil
 |n::r,_,h=>by
  cases h with
  |cons a b=>obtain⟨t,rfl⟩:=a;exact .cons n t (wH b)
def abY (g:List Int->List Int->Bool):R2:=λx y H Q=>∃a b ns ms,x=.ref a/\y=.ref b/\Rd H a (.lst (ns.map V.int))/\Rd H b (.lst (ms.map V.int))/\Q (.bl (g ns ms)) H
section
variable {X:Cx}
theorem Vq (hu:X.A.units+64<cLine):OpR X (compareOp .Eq) (abY λns ms=>decide (ns=ms)):=by intro pins s σ H x y v u Q I rx ry h;obtain⟨a,b,ns,ms,rfl,rfl,ha,hb,q⟩:=h;cases rx;cases ry;obtain⟨_,its,n,r,_,e⟩:=L3.Inv.Ld I ha;obtain⟨_,its2,n2,r2,_,e2⟩:=L3.Inv.Ld I hb;exact W.ke_eq_ints ⟨_,e,rfl,_,rfl⟩ ⟨_,e2,rfl,_,rfl⟩ (wH r) (wH r2) hu ⟨.bl _,H,I,rfl,q⟩
end
def Itz (K:Fg)(a b:Addr):It:=
 ⟨λi H=>∃xs ys x y,SqL K H a xs/\SqL K H b ys/\xs[i]?=some x/\ys[i]?=some y,
  λi H v H'=>∃T x y,v=.ref T/\H T=none/\H'=upd H T (.tup [x,y])/\(∀xs,SqL K H a xs->xs[i]?=some x)/\∀ys,SqL K H b ys->ys[i]?=some y,
  λi H=>∃xs ys,SqL K H a xs/\SqL K H b ys/\(xs.length<=i\/ys.length<=i)⟩
theorem SM {P:Program}{w:World}{K:Fg}{els:List Expr}{kk:Nat}{tp:Pos}(a b z TI TO i1 i2:Addr)(D:ZipApart z TI TO i1 i2 a b) :
  Turn P w K (.Tuple els kk tp) (Itz K a b) [z,TI,TO,i1,i2] z (λi h=>IsZip h z TI TO .none/\IsPair h TI (.ref i1) (.ref i2)/\(∃u v,IsPair h TO u v)/\h.IsListIter i1 a i/\h.IsListIter i2 b i) where
 mem:=by simp
 obj:=λi h st c hc=>by
  obtain⟨hz,hTI,⟨u,v,hTO⟩,⟨o1,q1,_,d1⟩,⟨o2,q2,_,d2⟩⟩:=st;rcases aC.mp hc with rfl|hc
  ·exact⟨_,hz,λv y=>by cases y⟩
  rcases aC.mp hc with rfl|hc
  ·exact⟨_,hTI,λv y=>by cases y⟩
  rcases aC.mp hc with rfl|hc
  ·exact⟨_,hTO,λv y=>by cases y⟩
  rcases aC.mp hc with rfl|hc
  ·exact⟨o1,q1,λv y=>by rw[d1]at y;cases y⟩
  ·have e:c=i2:=by simpa using hc
   subst e;exact⟨o2,q2,λv y=>by rw[d2]at y;cases y⟩
 keep:=λi h h' st k=>by obtain⟨hz,hTI,⟨u,v,hTO⟩,h1,h2⟩:=st;exact⟨k z (by simp) _ hz,k TI (by simp) _ hTI,⟨u,v,k TO (by simp) _ hTO⟩,h1.at λo q=>k i1 (by simp) o q,h2.at λo q=>k i2 (by simp) o q⟩
 item:=by
  intro X hP hw hK hc i pins s σ H E I hf st hg;subst hP hw hK;obtain⟨xs,ys,x,y,hqa,hqb,hx,hy⟩:=hg;obtain⟨hz,hTI,⟨p0,q0,hTO⟩,h1,h2⟩:=st;obtain⟨its,rv,pa,hza⟩:=I.list hqa;obtain⟨u,hu,ru⟩:=rv.get hx;obtain⟨its2,rv2,pb,hzb⟩:=I.list hqb;obtain⟨u2,hu2,ru2⟩:=rv2.get hy;refine wpAny_pyNext_zip_item D hz hTI hTO h1 h2 pa.isList pb.isList (x:=u) (y:=u2) (by simpa using hu) (by simpa using hu2) λh' hz' hTO' h1' h2' hT hsz hk=>⟨_,rfl,?_⟩;refine wpAny_letOwnedTupleGo_zip hz' λh2h hz2 hs2=>?_;have Tz:s.heap.objs.size≠z:=dX (aA hz);have keep2:∀c o,c∉[z,TI,TO,i1,i2]->s.heap.get? c=some o->h2h.get? c=some o:=λc o hc q=>by have c1:c≠z:=λe=>hc (by simp[e]);exact(hs2.2 c c1).trans (hk c o c1 (λe=>hc (by simp[e])) (λe=>hc (by simp[e])) (λe=>hc (by simp[e])) q)
  have I1:Inv X pins σ H { s with heap:=h2h,toks:=s.toks }:=I.uC hf keep2;have fT:FpOk X pins H s.heap.objs.size:=I.fpOk (aq _) (I.hok.fresh (aq _));have I2:=I1.track (o:=.tup [x,y]) fT ⟨by show 2<=sizeLine;decide,[u,u2],.cons ru (.cons ru2 .nil),⟨_,(hs2.2 _ Tz).trans hT,rfl,_,rfl⟩⟩;have up:∀c o,c≠z->h'.get? c=some o->h2h.get? c=some o:=λc o c1 q=>(hs2.2 c c1).trans q;refine⟨.ref s.heap.objs.size,_,I2,rfl,⟨_,x,y,rfl,fT.1,rfl,λzs hq=>by rw[I.list_inj hq hqa];exact hx,λzs hq=>by rw[I.list_inj hq hqb];exact hy⟩,⟨hz2,?_,⟨u,u2,up _ _ D.TOz hTO'⟩,h1'.at λo q=>up _ o D.i1z q,h2'.at λo q=>up _ o D.i2z q⟩,λc hc=>?_⟩
  ·exact up _ _ D.TIz (hk _ _ D.TIz D.TITO D.TIi1 D.TIi2 hTI)
  ·have lt:c<s.heap.objs.size:=by
    rcases aC.mp hc with rfl|hc
    ·exact aA hz
    rcases aC.mp hc with rfl|hc
    ·exact aA hTI
    rcases aC.mp hc with rfl|hc
    ·exact aA hTO
    rcases aC.mp hc with rfl|hc
    ·obtain⟨o,q,_⟩:=h1;exact aA q
    ·have e:c=i2:=by simpa using hc
     subst e;obtain⟨o,q,_⟩:=h2;exact aA q
   rw[upd_ne (be lt)];exact(hf c hc).1
 done:=by
  intro X hP hw hK hc i pins s σ H E I hf st hg;subst hP hw hK;obtain⟨xs,ys,hqa,hqb,hx⟩:=hg;obtain⟨hz,hTI,⟨p0,q0,hTO⟩,h1,h2⟩:=st;obtain⟨its,rv,pa,hza⟩:=I.list hqa;obtain⟨its2,rv2,pb,hzb⟩:=I.list hqb;have hl:=rv.length;have hl2:=rv2.length;refine wpAny_pyNext_zip_end (I.ok.hd hc) D hz hTI hTO h1 h2 pa.isList pb.isList ?_ λh' hk=>⟨rfl,I.uC (t':=s.toks) hf λc o hc q=>hk c o (λe=>hc (by simp[e])) (λe=>hc (by simp[e])) (λe=>hc (by simp[e])) (λe=>hc (by simp[e])) q⟩;rcases hx with h|h
  ·exact .inl (by simp;lia)
  ·exact .inr (by simp;lia)
 self:=λA i s Q E st h=>wpAny_pyIter_zip st.1 h
theorem Zb:bootBuiltins "zip"=some (.type "zip"):=by decide +kernel
def V3 (K:Fg)(ta:TA):TI:=λσ H R=>ta σ H λvs H1=>∃a b,vs=[.ref a,.ref b]/\(∃xs,SqL K H1 a xs)/\(∃xs,SqL K H1 b xs)/\R (Itz K a b) H1
theorem Ka {X:Cx}{els:List Expr}{kk:Nat}{tp:Pos}{l l2:Expr}{ta:TA}{p pos:Pos}(hg:Gl X "zip")(hm:X.mg "zip"=none)(ha:PA X [l,l2] ta)(hs:starEach [l,l2] X.env=(false,eval l X.env)::starEach [l2] X.env:=by rfl)(hpl:(backTo pos (starEach [l2] X.env)).any (·.1)=false:=by rfl) :
  PI X (.Tuple els kk tp) (.Call (.Name "zip" p) [l,l2] [] pos) (V3 X.K ta):=by
 intro pins s σ H R I h;refine Call_ (ld_blt I hg hm Zb (cq (thn (ha pos pins s σ H _ I h) λus s1 ⟨vs,H1,I1,r1,q1⟩=>?_) hs hpl));obtain⟨a,b,rfl,⟨xs,hqa⟩,⟨ys,hqb⟩,q⟩:=q1;obtain⟨u,u2,rfl,ru,ru2⟩:=vals2 r1;cases ru;cases ru2;obtain⟨its,rv,pa,hza⟩:=I1.list hqa;obtain⟨its2,rv2,pb,hzb⟩:=I1.list hqb;have la:a<s1.heap.objs.size:=by obtain⟨o,e,_⟩:=pa.isList;exact aA e
 have lb:b<s1.heap.objs.size:=by obtain⟨o,e,_⟩:=pb.isList;exact aA e
 refine call_zip_2 pa.isList pb.isList λh1 hz hTI hTO h1i h2i hsz hk=>?_;refine wpAny_pyIter_zip hz ?_;have I2:Inv X pins σ H1 { s1 with heap:=h1 }:=I1.kept (t':=s1.toks) hk;have D:ZipApart (s1.heap.objs.size+4) (s1.heap.objs.size+2) (s1.heap.objs.size+3) s1.heap.objs.size (s1.heap.objs.size+1) a b:=by have la':@LT.lt Nat _ a s1.heap.objs.size:=la;have lb':@LT.lt Nat _ b s1.heap.objs.size:=lb;constructor<;>(show @Ne Nat _ _)<;>lia
 refine⟨_,[s1.heap.objs.size+4,s1.heap.objs.size+2,s1.heap.objs.size+3,s1.heap.objs.size,s1.heap.objs.size+1],_,_,H1,rfl,I2,SM a b _ _ _ _ _ D,⟨hz,hTI,⟨_,_,hTO⟩,h1i,h2i⟩,λc hc=>?_,q⟩;have le:s1.heap.objs.size<=c:=by simp only[aC,fI,or_false]at hc;rcases hc with h|h|h|h|h<;>rw[h]<;>first|exact aq _|exact Nat.le_add_right _ _
 exact I1.fpOk le (I1.hok.fresh le)
end L2
namespace L3
open L2
section
variable {X:Cx}{G:Gx}{Er:ER}{a b e:Expr}{pos p px apos:Pos}{C Ca Cb:En->Prop}{gl hl:En->List Int}{i j k:Nat}{x:Str}
theorem aau (R:Rep X.K G B σ H Z O)(ca:Ca Z)(cb:Cb Z)(q:∀l m H1 H2,Same H H1->Same H1 H2->Rd H2 l (.lst ((gl Z).map V.int))->Rd H2 m (.lst ((hl Z).map V.int))->r (.ref l) (.ref m) H2 Q) :
  tOp r (Vw X.K G Ca λZ=>.ints (gl Z)) (Vw X.K G Cb λZ=>.ints (hl Z)) σ H Q:=
 ⟨B,Z,O,R,ca,λv H1 s1 a1=>⟨B,Z,O,R.grow s1,cb,λu H2 s2 a2=>by
  obtain⟨l,rfl,r1⟩:=a1;obtain⟨m,rfl,r2⟩:=a2;exact q l m H1 H2 s1 s2 (jC s2 r1) r2⟩⟩
theorem Yy (hu:X.A.units+64<cLine)(ha:PE X a (Vw X.K G Ca λZ=>.ints (gl Z)))(hb:PE X b (Vw X.K G Cb λZ=>.ints (hl Z))):PT X (.Compare a [.Eq] [b] pos) (vg X.K G (λZ=>Ca Z/\Cb Z) λZ=>gl Z=hl Z):=
 λpins s σ H Q I ⟨_,_,_,R,c,q⟩=>pt_cmpR (Vq hu) ha hb (nomark _) pins s σ H Q I (aau R c.1 c.2 λl m _ H2 s1 s2 r1 r2=>⟨l,m,_,_,rfl,rfl,r1,r2,_,rfl,q H2 (s1.trans s2)⟩)
def Ha:PV->Int
 | .int n=>n
 |_=>0
def kJ:PV->List Int
 | .ints ns=>ns
 |_=>[]
theorem um (h:PE X e (tX X.K G C g)):PE X e (mV X.K G (λZ=>C Z/\g Z=.int (Ha (g Z))) λZ=>Ha (g Z)):=
 uQ h λB σ H Z O Q R c q=>⟨B,Z,O,R,c.1,λv H' s a=>q v H' s (by rw[<- c.2];exact a)⟩
theorem xl_of (h:PE X e (tX X.K G C g)):PE X e (K8 X.K G (λZ=>C Z/\g Z=.ints (kJ (g Z))) λZ=>kJ (g Z)):=
 uQ h λB σ H Z O Q R c q=>⟨B,Z,O,R,c.1,λv H' s a=>q v H' s (by rw[<- c.2];exact a)⟩
def rG:PV->List PV
 | .lst xs=>xs
 |_=>[]
theorem o6 (h:PE X e (tX X.K G C g)):PE X e (tX X.K G (λZ=>C Z/\g Z=.lst (rG (g Z))) λZ=>.lst (rG (g Z))):=
 uQ h λB σ H Z O Q R c q=>⟨B,Z,O,R,c.1,λv H' s a=>q v H' s (by rw[<- c.2];exact a)⟩
end
theorem Xq {H:Hp}{O:Addr->Bool}{x:Addr}(hd:∀a,O a=true->H a≠none)(hx:H x=none){H':Hp}:mn H' O x=H' x:=qI (by
 cases z:O x with
 |false=>rfl
 |true=>exact absurd hx (hd x z))
theorem Xv (hx:H x=none)(hd:H dx=none):Same H (upd (upd (upd H dx (.own x)) x (.ins C dx [])) x (.ins C dx fs)):=sy λb o e=>by rw[upd_ne (ne_of_none e hx),upd_ne (ne_of_none e hx),upd_ne (ne_of_none e hd)];exact e
def KW (cW:Addr)(H:Hp)(a:Addr)(z:Int):Prop:=z=0/\∃dx fs,H a=some (.ins cW dx fs)/\fs.lookup ("size":Str)=some (.int 0)/\∀m∈BK,fs.lookup m=none
section
variable {K:Fg}{G:Gx}{B:Bs}{σ:L2.St}{H H1:Hp}{Z:En}{O:Addr->Bool}{D:Addr}{cap:List (Option Nat)}
variable {α:Type}{J:It}{g:TG}{C Ct:En->Prop}{pt:En->Prop}[∀Z,Decidable (pt Z)]{gb:En->PV}{Q:VK}
theorem Hs (items:List α)(setσ:α->V->L2.St)(setr:α->En)(val:α->V)(R:Rep K G B σ H1 Z O)(hD:H1 D=none)(hlen:items.length<=10000)(hgo:∀i H,i<items.length->Same H1 H->J.go i H)
  (hyld:∀i it x H H',items[i]?=some it->Same H1 H->J.yld i H x H' -> Same H H'/\∀k:L2.St->Hp->Prop,k (setσ it (val it)) H' -> g x (pK cap σ) H' k) (hstop:∀H,Same H1 H->J.stop items.length H)
  (hset:∀it H,it∈items->Same H1 H->Rep K G ⟨H1,O⟩ (pK cap σ) H (jN cap Z) (hide D O)->Rep K G ⟨H1,O⟩ (setσ it (val it)) H (setr it) (hide D O)) (hext:∀it,Cw (pK cap σ) (setσ it (val it))) (hCt:∀it∈items,Ct (setr it)) (hC:∀it∈items,pt (setr it)->C (setr it))
  (hQ:∀H' ys,Same H1 H' -> H' D=some (.lst ys)->lY K G (mn H' (hide D O)) ((items.filter λit=>decide (pt (setr it))).map λit=>gb (setr it)) ys->Q (.ref D) H') :
  ∃W:Nat->Nat->List V->Hp->Prop,(∃m,W 0 m [] (upd H1 D (.lst [])))/\lcW D J (pK cap σ) g (vg K G Ct pt) (tX K G C gb) Q W:=by
 refine⟨λi m ys H=>m=items.length-i/\i<=items.length/\Same H1 H/\H D=some (.lst ys)/\lY K G (mn H (hide D O)) (((items.take i).filter λit=>decide (pt (setr it))).map λit=>gb (setr it)) ys,⟨items.length,by simp,bq _,same_new hD _,upd_same,rfl⟩,?_⟩;rintro i m ys H ⟨rfl,hi,hs,hd,al⟩;have hl:ys.length<=i:=by rw[<- al.length,aa];refine aJ (cY _ _) ?_;rw[aM];lia
 refine⟨hd,aV (show ys.length<=10000 by lia) (by decide),?_⟩;by_cases hlt:i<items.length
 ·refine .inr ⟨hgo i H hlt hs,?_⟩;intro x H' hy;have en:items[i]?=some items[i]:=ac hlt;obtain⟨s1,kk⟩:=hyld i _ x H H' en hs hy;refine kk _ ⟨hext _,?_⟩;have hd':=s1 _ _ hd;have R2:=hset items[i] H' (bJ hlt) (hs.trans s1) (Dk R hD (hs.trans s1) (by rw[hd'];exact λz=>by cases z));refine⟨_,_,_,R2,hCt _ (bJ hlt),λH3 s3=>?_⟩;by_cases d:pt (setr items[i])
  ·rw[aK d];refine iteT ?_;refine⟨_,_,_,R2.grow s3,hC _ (bJ hlt) d,λv H2 s2 a2=>⟨s2 _ _ (s3 _ _ hd'),items.length-(i+1),by lia,rfl,hlt,?_,upd_same,?_⟩⟩
   ·intro b o z;rw[upd_ne (ne_of_none z hD)];exact(((hs.trans s1).trans s3).trans s2) b o z
   ·rw[Em hide_self,pF en,gA,cL (by exact aK d),bK];exact lY.snoc (lY.mono (lL ((s1.trans s3).trans s2)) _ _ al) a2
  ·rw[aN d];refine iteF ?_;refine⟨items.length-(i+1),by lia,rfl,hlt,hs.trans (s1.trans s3),s3 _ _ hd',?_⟩;rw[pF en,gA,cM (by simpa using d),fX,bh];exact lY.mono (lL (s1.trans s3)) _ _ al
 ·have e:i=items.length:=by lia
  subst e;refine .inl ⟨hstop H hs,hQ H ys hs hd ?_⟩;rw[dt]at al;exact al
end
section
variable {K:Fg}{G:Gx}{σ:L2.St}{H:Hp}{Q:VK}{Cs Ct Cb:En->Prop}{pt:En->Prop}[∀Z,Decidable (pt Z)]{gs hs:En->List Int}{gi:En->Int}{gp:En->PV}{cap:List (Option Nat)}
theorem abD (h:yU K G (λZ=>(Cs Z/\Cs' Z)/\(gs Z).length<=1000/\∀n m,(n,m)∈(gs Z).zip (hs Z)->Cb (((jN (none::none::cap) Z).set 0 (.fr (.int n))).set 1 (.fr (.int m))))
   (λZ=>((gs Z).zip (hs Z)).map λp=>gp (((jN (none::none::cap) Z).set 0 (.fr (.int p.1))).set 1 (.fr (.int p.2)))) σ H Q) :
  Ut (none::none::cap) (V3 K (tCons (Vw K G Cs λZ=>.ints (gs Z)) (tCons (Vw K G Cs' λZ=>.ints (hs Z)) tNil))) (gTup K 2 (gCons (gName 0) (gCons (gName 1) gNil))) uB (tX K G Cb gp) σ H Q:=by
 obtain⟨B,Z,O,R,⟨⟨c1,c1'⟩,c2,c3⟩,q⟩:=h;refine⟨B,Z,O,R,c1,λv H1 s1 a1=>⟨B,Z,O,R.grow s1,c1',λu H2 s2 a2=>?_⟩⟩;obtain⟨a,rfl,hq⟩:=a1;obtain⟨b,rfl,hq'⟩:=a2;have hq1:SqL K H2 a ((gs Z).map V.int):=.inl (jC s2 hq);have hq2:SqL K H2 b ((hs Z).map V.int):=.inl hq';refine⟨a,b,rfl,⟨_,hq1⟩,⟨_,hq2⟩,λD hD=>?_⟩;have hz:((gs Z).zip (hs Z)).length=min (gs Z).length (hs Z).length:=dG;have at1:∀i,i<((gs Z).zip (hs Z)).length->i<(gs Z).length/\i<(hs Z).length:=λi h=>by rw[hz]at h;lia
 refine rR ((gs Z).zip (hs Z)) (λp _=>((pK (none::none::cap) σ).set 0 (some (.int p.1))).set 1 (some (.int p.2))) (λp=>((jN (none::none::cap) Z).set 0 (.fr (.int p.1))).set 1 (.fr (.int p.2))) (λp=>.int p.1) ((R.grow s1).grow s2) hD (by rw[hz];lia)
  (λi H hi s=>⟨_,_,.int ((gs Z)[i]'(at1 i hi).1),.int ((hs Z)[i]'(at1 i hi).2),s.seq hq1,s.seq hq2,by simp[(at1 i hi).1],by simp[(at1 i hi).2]⟩) ?_ (λH s=>⟨_,_,s.seq hq1,s.seq hq2,by rw[hz,aa,aa];lia⟩) (λp H _ s R'=>(R'.set (p:=.int p.1) rfl).set (p:=.int p.2) rfl) ?_ ?_ ?_
 ·rintro i ⟨n,m⟩ x H H' en s ⟨T,y,y',rfl,hT,rfl,hx,hx'⟩;obtain⟨n',rfl,hn⟩:=int_at (hx _ (s.seq hq1));obtain⟨m',rfl,hm⟩:=int_at (hx' _ (s.seq hq2));have en:(n',m')=(n,m):=by rw[List.getElem?_zip_eq_some]at en;have e1:=en.1;have e2:=en.2;rw[hn]at e1;rw[hm]at e2;rw[aI e1,aI e2]
  cases en;exact⟨same_new hT _,λkk hk=>⟨T,_,rfl,SqT.of upd_same,rfl,_,_,rfl,_,_,rfl,rfl,hk⟩⟩
 ·rintro⟨n,m⟩;exact ni _
 ·rintro⟨n,m⟩ hm;exact c3 n m hm
 ·intro H' ys s hd al;exact q D ys H' ((s1.trans s2).trans s) ((s1.trans s2).free hD) hd al
end
section
variable {X:Cx}{G:Gx}{Er:ER}{N':List Str}{sc:Scope}{cl:List (Str×Addr)}{cap:List (Option Nat)}{el tg src tst l l2:Expr}{at' spos px p pos':Pos}{Cs Cs' Ct Cb:En->Prop}{pt:En->Prop}[∀Z,Decidable (pt Z)]{gs hs:En->List Int}{gi:En->Int}{gp:En->PV}{i:Nat}{x:Str}
theorem Y6 (L:vC X N' sc cl (none::none::cap))(hc:X.calm=true)(hgl:Gl X "zip")(hm:X.mg "zip"=none)(h1:PE X l (Vw X.K G Cs λZ=>.ints (gs Z)))(h2:PE X l2 (Vw X.K G Cs' λZ=>.ints (hs Z)))(hg:∀s H fp,PG (jK X N' sc cl s H fp) (.Tuple els kk tp) (gTup X.K 2 (gCons (gName 0) (gCons (gName 1) gNil))))(he:∀s H fp,PE (jK X N' sc cl s H fp) el (mV X.K G Cb gi))
  (hst:starEach [l,l2] X.env=(false,eval l X.env)::starEach [l2] X.env:=by rfl) (hst2:starEach [l2] X.env=[(false,eval l2 X.env)]:=by rfl) (hpl:(backTo pos' (starEach [l2] X.env)).any (·.1)=false:=by rfl) (hfs:∀x,foldedSetIterable (.Call (.Name "zip" p) [l,l2] [] pos') X.env x=pure x:=by intro _;rfl) :
  PE X (.ListComp el [⟨.Tuple els kk tp,.Call (.Name "zip" p) [l,l2] [] pos',[],0⟩] sc at') (Gp X.K G (λZ=>(Cs Z/\Cs' Z)/\(gs Z).length<=1000/\∀n m,(n,m)∈(gs Z).zip (hs Z)->Cb (((jN (none::none::cap) Z).set 0 (.fr (.int n))).set 1 (.fr (.int m))))
   λZ=>((gs Z).zip (hs Z)).map λp=>gi (((jN (none::none::cap) Z).set 0 (.fr (.int p.1))).set 1 (.fr (.int p.2)))):=
 λpins s σ H Q I h=>yF L hc (Ka hgl hm (pa_cons h1 (pa_cons h2 pa_nil hst2) hst) hst hpl) hg (λ_ _ _=>p8) he hfs pins s σ H Q I (abD (EY h))
end
end L3
end
namespace L2
open PySem PySem.Spec PyProof.Rows PySem.W PySem.Calls
theorem TY:∀(ns:Li),∀n∈ns,WData.weight (.int n)<=WData.weightAll (ns.map WData.int)
 |[],n,h=>by cases h
 |m::r,n,h=>by
  rw[bM];simp only[WData.weightAll];rcases aC.mp h with rfl|h
  ·lia
  ·have:=TY r n h;lia
theorem W9 {ns:Li}(h:WData.layableAll [WData.list (ns.map WData.int)]=true){n:Int}(hn:n∈ns):Builtin.Int.intBits n<=2^20:=by have h1:WData.layable (WData.list (ns.map WData.int))=true:=dO.mp h _ af;unfold WData.layable at h1;rw[g6]at h1;have h2:=bU h1.2;have h3:=TY ns n hn;simp only[WData.weight]at h2 h3;exact aJ h3 h2
theorem Rg {l:W.OpenLaw}{n k:Nat}{XP:(Str->Option Value)->Heap->Prop}{YP:World->Heap->Prop}{d:DefRec}{K:Params->Fg}{CX:World->CXT}{sp:World->Sp}
  (hn:l.most=some n) (hn2:n<=sizeLine) (hdf:d.params.defaults=[]) (hr:Room k callerA) (hY:∀(w:World) (h:Heap),YP w h->(K w.params).In h)
  (F:∀(w:World) (mg:Mg) (fa:Addr) (h:Heap),(K w.params).In h->h.Ns mainGlobals mg->mg d.name=some (.ref fa) ->
   ∃fd:FuncData,(∀(s:Shared) (u:Value),BindsTo s fd ⟨[u],[]⟩ [(x,u)])/\∀base:Heap,(K w.params).In base->base.Ns mainGlobals mg->FnOk l.prog w (K w.params) mg base (CX w) k fa fd [x] (sp w))
  (LO:∀(w:World) (h:Heap),YP w h->Ju (K w.params) h)
  (hsp:∀(w:World) (H:Hp) (a:Addr) (ns:List Int),ns.length<=n->(∀m∈ns,Builtin.Int.intBits m<=2^20)->SqL (K w.params) H a (ns.map V.int)->sp w [.ref a] H (λv _=>v=.bl true) λ_ _ _=>False)
  (hCX:∀(w:World) (H:Hp) (s:Shared) (e:Value) (s':Shared),CX w [] H s (λ_ _ _=>False) e s' -> False):W.WalkO q loose XP YP l.row.toRowW d [] (λf vs=>PySem.call f vs):=by
 intro w s₀ s₁ mg mb G Y fa o pm cd doc dV kV ho hd hcd hD hmg hg args vals as hpre hlay hrd hwl hlo;obtain rfl:dV=.none:=Dflts.none hD hdf;obtain rfl:kV=.none:=Dflts.noKw hD;obtain⟨a,vs,ns,rfl,rfl,hobj,hints,hlen⟩:=Att.script_of hn hpre hwl;have KX:=hY w _ Y;obtain⟨fd,hb,hF⟩:=F w mg fa _ KX G.T.g hmg;refine enter_call (gu (law_call KX G.T.g G.T.b G.T.builtins G.T.nolimit hg hobj hints (aJ hlen hn2) hr (LO w _ Y) G.T.bmain hF hb (λH hS=>hsp w H a ns hlen (λm hm=>W9 hlay hm) hS) λH e s'=>hCX w H s₁ e s') λr s' hq=>?_);obtain⟨rfl,h2,h3,h4⟩:=hq;exact⟨.inl ⟨.bool true,.bool true,[],rfl,λ_=>rfl,.bool true,Att.post_true l _,λ_=>⟨List.Pairwise.nil,λ_ hm=>(nomatch hm)⟩⟩,h2,h3,h4⟩
def xN (K:Fg):Sp:=λvs H Q _=>∃(a:Addr) (ns:List Int),vs=[.ref a]/\SqL K H a (ns.map V.int)/\ns.length<=63/\(∀m∈ns,Builtin.Int.intBits m<=2^20)/\∀H',Q (.bl true) H'
end L2
namespace L3
open PySem PySem.Spec PyProof.Rows L2
theorem aa1 {P:Program}{w:World}{K:Fg}{mg:Mg}{base:Heap}{G:Gx}{k:Nat}{x:Str}{st:Stmt}{N:Ls}{f:Addr}{fd:FuncData}{y:Str}(F:Fun K x x st f fd)(S:FnScope N [y] (defScope st))
  (hbody:∀(cdv:Value) (A:Around) (outer:List Env) (s:Shared) (H:Hp) (E:XK),Room k (A.deeper (envOfC x (defScope st) s.heap.objs.size f cdv)) ->
   ∃fs,PSs (cxOf CX0 P w K mg base N x (defScope st) f cdv A outer s H E).nox (defBody st) (ts K G ER0 fs)/\∀ns:List Int,ns.length<=63->(∀m∈ns,Builtin.Int.intBits m<=2^20)->fs { nx:=λ_=>False,rt:=λp=>p=.bl true } (nG N [.scr ns])):FnOk P w K mg base CX0 (k+1) f fd [y] (xN K):=by
 refine F.ok S (λvs H Q E h=>?_) λcdv A outer s H vs Q E hr h=>?_
 ·obtain⟨a,ns,rfl,_⟩:=h;rfl
 obtain⟨a,ns,rfl,hS,hl,hb,q⟩:=h;obtain⟨fs,b,c⟩:=hbody cdv A outer s H E hr;have al:lY K G (mn H λ_=>false) [.scr ns] [.ref a]:=⟨_,_,rfl,⟨a,rfl,by rw[abi];exact hS⟩,rfl⟩;refine⟨_,b,⟨H,λ_=>false⟩,nG N [.scr ns],_,⟨_,rM (λ_ z=>by cases z) al⟩,c ns hl hb,⟨λ_ _ _ _ h=>h.elim,λv H' p s' a' h=>?_,λ_ _ _ _ _ _ h=>h.elim,λ_ _ _ _ _ h=>h.elim,λ_ _ _ _ h=>h,λ_ _ _ _ h=>h,λ_ _ _ h=>h⟩⟩;subst h;subst a';exact q H'
end L3
namespace FM
open L2
structure Eu (n z b r sb s:Int):Prop where
 r0:0<=r
 rb:r<b
 bz:b<=z
 db:z ∣ b-sb*n
 dr:z ∣ r-s*n
 gc:Int.gcd b r=Int.gcd n z
 sg:(sb<=0/\0<=s)\/(0<=sb/\s<=0)
 id:(s.natAbs:Int)*b+(sb.natAbs:Int)*r=z
theorem Ow (n z:Int):Int.gcd z (n % z)=Int.gcd n z:=by rw[jb,Int.gcd_sub_mul_left_right,Int.gcd_comm]
theorem Eu.start (hz:2<=z):Eu n z z (n % z) 0 1:=by
 refine⟨a8 _ (by lia),aY _ (by lia),fY _,?_,?_,Ow n z,.inl ⟨by lia,by lia⟩,?_⟩
 ·rw[bV,aT];exact gw z
 ·rw[cC,jb];exact⟨-(n / z),by rw[iQ];lia⟩
 ·show(1:Int)*z+((0:Int).natAbs:Int)*(n % z)=z;rw[cC];show z+(0:Int)*(n % z)=z;rw[bV];lia
theorem Eu.rest {b r:Int}(h:0<r):b-b / r*r=b % r:=by rw[jb,cu]
theorem Eu.step {n z b r sb s:Int}(h:Eu n z b r sb s)(hr:r≠0):Eu n z r (b-b / r*r) s (sb-b / r*s):=by
 have r0:0<r:=by have:=h.r0;lia
 have q0:0<=b / r:=Int.ediv_nonneg (by have:=h.rb;lia) (by lia);have er:=Eu.rest (b:=b) r0;have abs:((sb-b / r*s).natAbs:Int)=(sb.natAbs:Int)+b / r*(s.natAbs:Int):=by
  rcases h.sg with⟨h1,h2⟩|⟨h1,h2⟩
  ·have e1:0<=b / r*s:=iI q0 h2;have e2:(s.natAbs:Int)=s:=by lia
   rw[e2];lia
  ·have e1:b / r*s<=0:=b8 q0 h2;have e2:(s.natAbs:Int) = -s:=by lia
   rw[e2,iQ];lia
 refine⟨?_,?_,by have:=h.rb;have:=h.bz;lia,h.dr,?_,?_,?_,?_⟩
 ·rw[er];exact a8 _ (by lia)
 ·rw[er];exact aY _ r0
 ·obtain⟨u,hu⟩:=h.db;obtain⟨v,hv⟩:=h.dr;refine⟨u-b / r*v,?_⟩;have e:b-b / r*r-(sb-b / r*s)*n=(b-sb*n)-b / r*(r-s*n):=by rw[fZ,cG,bO];lia
  rw[e,hu,hv,cG,gK]
 ·rw[er,<- h.gc,Ow]
 ·rcases h.sg with⟨h1,h2⟩|⟨h1,h2⟩
  ·exact .inr ⟨h2,by have:=iI q0 h2;lia⟩
  ·exact .inl ⟨h2,by have:=b8 q0 h2;lia⟩
 ·rw[abs,<- h.id,eS,cG,bO,cu (b / r) ((s.natAbs:Int)*r),bO,cu r (b / r)];lia
theorem Eu.end (h:Eu n z b 0 sb s):b=(Int.gcd n z:Int):=by have:=h.gc;rw[Int.gcd_zero_right]at this;have:=h.rb;lia
theorem Eu.one (hz:2<=z)(h:Eu n z b 0 sb s)(h1:b=1):(sb % z*n) % z=1:=by
 have hd:=h.db;rw[h1]at hd;have e:(sb % z*n) % z=(sb*n) % z:=by rw[fE,fQ _ (gw z),<- fE]
 rw[e];have e2:(1-sb*n) % z=0:=bW hd;have e3:=(eI (m:=1) (n:=z) (k:=sb*n)).mpr e2;rw[<- e3];exact bp (by lia) (by lia)
theorem jL.dvd (hp:jL p)(h0:0<d)(h:d ∣ p):d=1\/d=p:=by
 obtain⟨k,hk⟩:=h;have hp2:=hp.1;have k0:0<k:=by
  rcases Int.lt_or_le 0 k with c|c
  ·exact c
  ·have:=b8 (jc h0) c;lia
 by_cases c1:d=1
 ·exact .inl c1
 ·by_cases c2:k=1
  ·right;rw[hk,c2,bR]
  ·exfalso;rcases Int.le_total d k with c|c
   ·refine hp.2.2 d (by lia) ?_ (bW ⟨k,hk⟩);rw[hk];exact bC c (by lia)
   ·refine hp.2.2 k (by lia) ?_ (bW ⟨d,by rw[hk,cu]⟩);rw[hk,cu d k];exact bC c (by lia)
theorem jL.Mw (hp:jL p)(h:¬b % p=0):Int.gcd b p=1:=by
 have h1:((Int.gcd b p:Nat):Int) ∣ p:=Int.gcd_dvd_right b p;have h2:((Int.gcd b p:Nat):Int) ∣ b:=Int.gcd_dvd_left b p;have h3:0<Int.gcd b p:=Int.gcd_pos_of_ne_zero_right _ (by have:=hp.1;lia);rcases hp.dvd (by lia) h1 with c|c
 ·lia
 ·rw[c]at h2;exact absurd (bW h2) h
end FM
section
open PySem PySem.Spec PyProof.Rows
namespace L2
section
variable {X:Cx}{pins:List (Addr×Obj)}{σ:St}{H:Hp}{s:Shared}{h':Heap}{ch:List Addr}
theorem Inv.noted (I:Inv X pins σ H s)(hl:X.env.locals∈frs X.stack)
  (hch:∀b∈ch,X.s₀.heap.get? b=none/\H b=none/\b∉frs X.stack/\(∀x c,X.env.cells.lookup x=some c->c≠b)/\∀p∈X.pn++pins,p.1≠b)
  (keep:∀b o,b∉ch->b∉frs X.stack->s.heap.get? b=some o->h'.get? b=some o) (slot:∀b o,b∈frs X.stack->s.heap.get? b=some o->∃sl,h'.get? b=some { o with slots:=sl }):Inv X pins σ H { s with heap:=h',toks:=t' }:=by
 have any:∀b o,b∉ch->s.heap.get? b=some o->∃sl,h'.get? b=some { o with slots:=sl }:=λb o hb e=>by
  by_cases c:b∈frs X.stack
  ·exact slot b o c e
  ·exact⟨o.slots,keep b o hb c e⟩
 have noC:∀b o,X.s₀.heap.get? b=some o->b∉ch:=λb o e z=>by rw[(hch b z).1]at e;cases e
 have neL:∀b o,X.s₀.heap.get? b=some o->b≠X.env.locals:=λb o e=>be (aD (aA e) I.ok.above);have cellK:∀x c,X.env.cells.lookup x=some c->∀v,s.heap.IsCell c v->h'.IsCell c v:=λx c e v ⟨o,ho,hd⟩=>by obtain⟨sl,q⟩:=any c o (λz=>(hch c z).2.2.2.1 x c e rfl) ho;exact⟨_,q,hd⟩
 refine⟨I.ok,I.os,I.bare,⟨λb o e n hbf hx=>?_,λb o e n hbf hx=>?_,I.base.free,λb o e hx=>?_,I.base.tups,I.base.frzs,I.base.tbls⟩,?_,λx c e=>?_,I.free,I.freeC,λp hp=>?_,λb o e=>?_,I.len⟩
 ·refine keep b o (noC b o e) (λz=>?_) (I.base.keep b o e n hbf hx);rcases aC.mp (I.stkSub b z) with q|q
  ·exact neL b o e q
  ·exact hbf q
 ·obtain⟨sl,e1⟩:=I.base.slot b o e n hbf hx;obtain⟨sl2,e2⟩:=any b _ (noC b o e) e1;exact⟨sl2,e2⟩
 ·obtain⟨o',e1⟩:=I.base.there b o e hx;obtain⟨sl2,e2⟩:=any b o' (noC b o e) e1;exact⟨_,e2⟩
 ·obtain⟨m,⟨o,es,ep,ho,r⟩,hloc⟩:=I.loc;obtain⟨sl,e⟩:=slot _ o hl ho;refine⟨m,⟨_,es,ep,e,r⟩,λi x v h1 h2 h3=>?_⟩;obtain⟨u,ru,l⟩:=hloc i x v h1 h2 h3;refine⟨u,ru,?_⟩;rcases l with l|⟨k,c,hc,ic⟩
  ·exact .inl l
  ·exact .inr ⟨k,c,hc,cellK x c hc _ ic⟩
 ·obtain⟨v,ic⟩:=I.cell x c e;exact⟨v,cellK x c e v ic⟩
 ·obtain⟨a1,a2,a3,a4,a5⟩:=I.pin p hp;refine⟨keep p.1 p.2 (λz=>(hch _ z).2.2.2.2 p hp rfl) (λz=>?_) a1,a2,a3,a4,a5⟩;rcases aC.mp (I.stkSub _ z) with q|q
  ·exact a3 q
  ·exact a4 q
 ·refine(I.hok b o e).stay (λc u hc q=>keep c u (λz=>?_) (λz=>?_) q) (λ_ q=>q) λ_ _ q=>q
  ·have hn:=(hch c z).2.1;rcases hc with rfl|hc
   ·rw[hn]at e;cases e
   ·rw[hn]at hc;cases hc
  ·have hn:=I.stkFree c z;rcases hc with rfl|hc
   ·rw[hn]at e;cases e
   ·rw[hn]at hc;cases hc
theorem Inv.Ra (I:Inv X pins σ H s)(hex:X.ex=[])(hb:s.heap.get? b=none):X.s₀.heap.get? b=none/\b∉frs X.stack/\(∀x c,X.env.cells.lookup x=some c->c≠b)/\∀p∈X.pn++pins,p.1≠b:=by
 refine⟨?_,λz=>?_,λx c e z=>?_,λp hp z=>?_⟩
 ·cases q:X.s₀.heap.get? b with
  |none=>rfl
  |some o=>obtain⟨o',e⟩:=I.base.there b o q (by rw[hex];simp);rw[hb]at e;cases e
 ·obtain⟨_,o,e,_⟩:=I.stack.mem z;rw[hb]at e;cases e
 ·obtain⟨v,o,e',_⟩:=I.cell x c e;rw[z,hb]at e';cases e'
 ·have e:=(I.pin p hp).1;rw[z,hb]at e;cases e
end
section
variable {X:Cx}{pins:List (Addr×Obj)}{σ:St}{H1 H':Hp}{s1 s':Shared}{a:Addr}{cls:Value}
theorem QV {M:Model}{Q:Shared->Prop}{E':Value->Shared->Prop}(I:Inv X pins σ H1 s1)(hst:X.stack=X.env::X.outer)(hfr:X.env.frame=some X.env.locals)(hex:X.ex=[])(ho:s'.os=s1.os)(hb:AllBare s'.gens)
  (u:Un (frs X.stack) [] H1 H' s1.heap s'.heap) (hok:HOk X.prog X.w H' s'.heap) (F:Fly s1.heap H' s'.heap a cls)
  (hQ:∀h',Inv X pins σ H' { s' with heap:=h' }->Fly s1.heap H' h' a cls->Q { s' with heap:=h' }) :
  wpAny M X.A (noteFrame (.ref a) X.env) (λ_ s2=>wpAny M X.A (setFlight (.ref a) none) (λ_ s3=>Q s3) E' s2) E' s':=by
 have J:Inv X pins σ H' s':=I.call' (ch:=[]) ho u hok hb (λb z=>absurd z (by simp));obtain⟨oe,vs,T,oT,ts,he,hcls,hdi,hd,h1,hTe,hT,hdT,h3,hHT,hsT⟩:=F.ex;subst hcls;have hA:X.A.frames=some (X.env::X.outer):=by rw[<- hst];exact I.ok.frames
 have FF:=J.stack;have na:=I.Ra hex F.new;have nT:=I.Ra hex hsT;have hl:X.env.locals∈frs X.stack:=by rw[hst];unfold frs;rw[aZ,hfr];exact af
 refine Du (as:=a::T::frs X.stack) (Q:=λ_ s3=>Q s3) hA (by rw[<- hst];exact FF) hfr he hdi hd h1 hTe hT hdT h3 af (ae _ af) (λb z=>ae _ (ae _ (by rw[hst];exact z))) λh3' L=>?_;rw[<- hst]at L;obtain⟨oe',vs',T',oT',ts',he',hc',hdi',hd',h1',hnT',hTe',hT',hdT',h3''⟩:=L.ex;have J3:Inv X pins σ H' { s' with heap:=h3' }:=J.noted (t':=s'.toks) (ch:=[a,T]) hl (λb z=>by
   rcases aC.mp z with rfl|z
   ·exact⟨na.1,F.un,na.2.1,na.2.2.1,na.2.2.2⟩
   ·have e:b=T:=by simpa using z
    subst e;exact⟨nT.1,hHT,nT.2.1,nT.2.2.1,nT.2.2.2⟩)
  (λb o hb hf e=>L.keep b o e (by
   intro z;rcases aC.mp z with q|z
   ·exact hb (by simp[q])
   ·rcases aC.mp z with q|z
    ·exact hb (by simp[q])
    ·exact hf z)) L.slot
 have tn:H' T'=none/\s1.heap.get? T'=none:=by
  refine⟨J.untracked hnT',?_⟩;cases q:s1.heap.get? T' with
  |none=>rfl
  |some o=>obtain⟨o',e'⟩:=u.there T' o q (by simp);rw[hnT']at e';cases e'
 exact hQ h3' J3 ⟨⟨oe',vs',T',oT',ts',he',hc',hdi',hd',h1',hTe',hT',hdT',h3'',tn.1,tn.2⟩,F.un,F.new⟩
end
section
variable {X:Cx}{pins:List (Addr×Obj)}{σ:St}{H H':Hp}{s:Shared}{h0:Heap}{a:Addr}{cls:Value}
theorem K4 (J:Inv X pins σ H' s)(hst:X.stack=X.env::X.outer)(hfr:X.env.frame=some X.env.locals)(F:Fly h0 H' s.heap a cls)
  (nw:∀b,h0.get? b=none->X.s₀.heap.get? b=none/\b∉frs X.stack/\(∀x c,X.env.cells.lookup x=some c->c≠b)/\∀p∈X.pn++pins,p.1≠b)
  (hQ:∀h',Inv X pins σ H' { s with heap:=h' }->Fly h0 H' h' a cls->Q () { s with heap:=h' }):wpAny M A (setFlight (.ref a) none) Q E' s:=by
 obtain⟨oe,vs,T,oT,ts,he,hcls,hdi,hd,h1,hTe,hT,hdT,h3,hHT,hsT⟩:=F.ex;have FF:=J.stack;have hsz3:3<ts.size:=(dq.mp h3).1;have other:∀b,b≠T->(s.heap.update T (Obj.mapFields (·.setIfInBounds 3 .none))).get? b=s.heap.get? b:=λb hb=>bN _ _ (ck hb);have nT:=nw T hsT;have hl:X.env.locals∈frs X.stack:=by rw[hst];unfold frs;rw[aZ,hfr];exact af
 refine wpAny_setFlight_none he hd h1 hT hdT hsz3 (hQ _ ?_ ?_)
 ·exact J.noted (t':=s.toks) (ch:=[T]) hl (λb z=>by
   have e:b=T:=by simpa using z
   subst e;exact⟨nT.1,hHT,nT.2.1,nT.2.2.1,nT.2.2.2⟩) (λb o hb hf e=>(other b (λz=>hb (by simp[z]))).trans e)
   (λb o z e=>⟨o.slots,(other b (λq=>nT.2.1 (by rw[<- q];exact z))).trans e⟩)
 ·refine⟨⟨oe,vs,T,_,_,(other a (ck hTe)).trans he,hcls,hdi,hd,h1,hTe,du _ hT (dZ (dw hdT _)),dw hdT _,by simp[hsz3],hHT,hsT⟩,F.un,F.new⟩
theorem Inv.gone (I:Inv X pins σ H s)(hN:X.N.Nodup)(hj:X.N[j]?=some y)(hny:y≠n)(hl:∀(i:Nat) (x:Str) (v:V),X.N[i]?=some x->σ[i]?=some (some v)->Vis X.env.scope x->∃u,RelV v u/\Look X.env s.heap m x u)
  (hn:h'.Ns X.env.locals (λx=>if x=n then v else m x)) (hs:Heap.SameBut X.env.locals s.heap h') (hw:σ[j]?=some (some w)):Inv X pins ((List.replicate X.N.length none).set j (some w)) H { s with heap:=h',toks:=t' }:=by
 have neL:∀b o,X.s₀.heap.get? b=some o->b≠X.env.locals:=λb o e=>be (aD (aA e) I.ok.above);refine⟨I.ok,I.os,I.bare,⟨λb o e q hb hx=>(hs.2 b (neL b o e)).trans (I.base.keep b o e q hb hx),λb o e q hb hx=>?_,I.base.free,λb o e hx=>?_,I.base.tups,I.base.frzs,I.base.tbls⟩,⟨_,hn,λk x u e1 e2 e3=>?_⟩,λx c e=>?_,I.free,I.freeC,λp hp=>?_,λb o e=>?_,by rw[bB,aG]⟩
 ·obtain⟨sl,e1⟩:=I.base.slot b o e q hb hx;exact⟨sl,(hs.2 b (neL b o e)).trans e1⟩
 ·obtain⟨o',e1⟩:=I.base.there b o e hx;exact⟨o',(hs.2 b (neL b o e)).trans e1⟩
 ·have kj:k=j/\u=w:=by
   rw[de]at e2;split at e2
   ·rename_i z;split at e2
    ·cases e2;exact⟨z.symm,rfl⟩
    ·cases e2
   ·rw[bF]at e2;split at e2<;>cases e2
  obtain⟨rfl,rfl⟩:=kj;rw[hj]at e1;cases e1;obtain⟨u',r',q⟩:=hl k y u hj hw e3;refine⟨u',r',?_⟩;rcases q with⟨kk,e⟩|⟨kk,c,e,z⟩
  ·exact .inl ⟨kk,by dsimp only;rw[ag hny];exact e⟩
  ·exact .inr ⟨kk,c,e,z.sameBut hs (I.cne y c e)⟩
 ·obtain⟨w',z⟩:=I.cell x c e;exact⟨w',z.sameBut hs (I.cne x c e)⟩
 ·obtain⟨e,q,ne,nf,d⟩:=I.pin p hp;exact⟨(hs.2 p.1 ne).trans e,q,ne,nf,d⟩
 ·refine(I.hok b o e).stay (λc u hc q=>(hs.2 c (λz=>?_)).trans q) (λ_ q=>q) λ_ _ q=>q;subst z;rcases hc with rfl|hc
  ·rw[I.free]at e;cases e
  ·rw[I.free]at hc;cases hc
def Cy (a:Addr)(cls:Value):HO:=.ext λh=>∃o vs,h.get? a=some o/\o.cls=cls/\o.dict=none/\o.data=.fields vs
theorem Inv.Zc (I:Inv X pins σ H s)(f0:H T=none)(f1:T≠X.env.locals)(f3:X.s₀.heap.get? T=none)(f4:∀x c,X.env.cells.lookup x=some c->c≠T)(f5:∀p∈X.pn++pins,p.1≠T)
  (new:ObjOk X.prog X.w (upd H T o) s.heap T o):Inv X pins σ (upd H T o) s:=by
 have ne:∀{b:Addr} {u:HO},H b=some u->b≠T:=λe=>ne_of_none e f0;refine⟨I.ok,I.os,I.bare,⟨I.base.keep,I.base.slot,λb ob e n x=>?_,I.base.there,λb xs e=>?_,λb ob u e=>?_,λb ps e=>?_⟩,I.loc,I.cell,by rw[upd_ne (ck f1)];exact I.free,λx c e=>?_,λp hp=>?_,λb u e=>?_,I.len⟩
 ·have hb:b≠T:=λz=>by rw[z,f3]at e;cases e
  rw[upd_ne hb];exact I.base.free b ob e n x
 ·have q:=I.base.tups b xs e;rw[upd_ne (ne q)];exact q
 ·have q:=I.base.frzs b ob u e;rw[upd_ne (ne q)];exact q
 ·obtain⟨m,q⟩:=I.base.tbls b ps e;exact⟨m,by rw[upd_ne (ne q)];exact q⟩
 ·rw[upd_ne (f4 x c e)];exact I.freeC x c e
 ·obtain⟨a1,a2,a3⟩:=I.pin p hp;exact⟨a1,by rw[upd_ne (f5 p hp)];exact a2,a3⟩
 ·by_cases c:b=T
  ·subst c;rw[upd_same]at e;cases e;exact new
  ·rw[upd_ne c]at e;exact(I.hok b u e).stay (λ_ _ _ q=>q) (λd q=>by rw[upd_ne (ne q)];exact q) (λd xs q=>by rw[upd_ne (ne q)];exact q) λd _ _ q=>by rw[upd_ne (ne q)];exact q
theorem Inv.abZ (I:Inv X pins σ H s)(E:Value->Shared->Prop):Inv { X with pn:=X.pn++pins,xe:=E } [] σ H s:=
 ⟨⟨I.ok.mod,I.ok.kind,I.ok.glob,I.ok.blt,I.ok.above,I.ok.inj,I.ok.has,I.ok.cab,I.ok.hd,I.ok.frames,I.ok.stk,I.ok.exf,I.ok.bs,I.ok.bsz,I.ok.noex,I.ok.exfs,I.ok.funs,I.ok.frf⟩,I.os,I.bare,I.base,I.loc,I.cell,I.free,I.freeC,λp hp=>I.pin p (by simpa using hp),I.hok,I.len⟩
theorem Inv.aaH (I:Inv { X with pn:=X.pn++pins,xe:=E } ps σ H s):Inv X pins σ H s:=
 ⟨⟨I.ok.mod,I.ok.kind,I.ok.glob,I.ok.blt,I.ok.above,I.ok.inj,I.ok.has,I.ok.cab,I.ok.hd,I.ok.frames,I.ok.stk,I.ok.exf,I.ok.bs,I.ok.bsz,I.ok.noex,I.ok.exfs,I.ok.funs,I.ok.frf⟩,I.os,I.bare,I.base,I.loc,I.cell,I.free,I.freeC,λp hp=>I.pin p (b9 _ hp),I.hok,I.len⟩
theorem Inv.mark (I:Inv X pins σ H s)(v:Value)(E:Value->Shared->Prop):Inv { X with A:=X.A.mark (some v),calm:=false,xe:=E } pins σ H s:=
 ⟨⟨I.ok.mod,I.ok.kind,I.ok.glob,I.ok.blt,I.ok.above,I.ok.inj,I.ok.has,I.ok.cab,(λz=>by cases z),I.ok.frames,I.ok.stk,I.ok.exf,I.ok.bs,I.ok.bsz,I.ok.noex,I.ok.exfs,I.ok.funs,I.ok.frf⟩,I.os,I.bare,I.base,I.loc,I.cell,I.free,I.freeC,I.pin,I.hok,I.len⟩
theorem Inv.unmark (hd:X.calm=true->X.A.handled=none)(I:Inv { X with A:=X.A.mark (some v),calm:=false,xe:=E } pins σ H s):Inv X pins σ H s:=
 ⟨⟨I.ok.mod,I.ok.kind,I.ok.glob,I.ok.blt,I.ok.above,I.ok.inj,I.ok.has,I.ok.cab,hd,I.ok.frames,I.ok.stk,I.ok.exf,I.ok.bs,I.ok.bsz,I.ok.noex,I.ok.exfs,I.ok.funs,I.ok.frf⟩,I.os,I.bare,I.base,I.loc,I.cell,I.free,I.freeC,I.pin,I.hok,I.len⟩
end
def abN (K:Fg)(N:Nat)(C:Addr)(j:Nat)(te:XK->TE):TS:=λD σ H=>
 te (λcls _ H'=>W.exmOne K cls (.ref C)=some true/\∀a,H' a=none->D.nx ((List.replicate N none).set j (some (.ref a))) (upd H' a (Cy a cls))) σ H λ_ H1=>D.nx σ H1
section
variable {X:Cx}{call:Expr}{te:XK->TE}{x n y:Str}{C:Addr}{i j:Nat}{px py pn hp p1 p2 pos:Pos}
theorem Yq (hc:X.calm=true)(hst:X.stack=X.env::X.outer)(hfr:X.env.frame=some X.env.locals)(hex:X.ex=[])(hg:Gl X x)(hm:X.mg x=some (.ref C))(hN:X.N.Nodup)(hi:X.N[i]?=some n)(hj:X.N[j]?=some y)(hln:X.env.scope.names.lookup n=some .local)(hly:X.env.scope.names.lookup y=some .local)
  (hkn:X.env.kindOf n=some .local) (hny:y≠n) (hij:i≠j)
  (he:∀(pn:List (Addr×Obj)) (E':Value->Shared->Prop) (Ec:XK),Passes (G9 X.prog X.w) { X with pn:=pn,xe:=E' } Ec->PE { X with pn:=pn,xe:=E' } call (te Ec))
  (hs:swapsWith call none p1.line X.env=pure false:=by rfl) (hs2:swapsWith (.Name n pn) (some (.Name y py)) p2.line X.env=pure false:=by rfl) (hdx:(x == ("__debug__":Str))=false:=by decide) (hdn:(n == ("__debug__":Str))=false:=by decide) (hdc:(n == ("__classdict__":Str))=false:=by decide) :
  PS X (.Try [.Expr call p1] [.ExceptHandler (some (.Name x px)) (some n) [.Assign [.Name y py] (.Name n pn) p2] hp] [] [] pos) (abN X.K X.N.length C j te):=by
 intro pins s σ H D I h;have hx:Passes (G9 X.prog X.w) { X with pn:=X.pn++pins,xe:=λe s'=>∃σ1 H1 s1,Inv X pins σ1 H1 s1/\G9 X.prog X.w X.stack H1 s1 (λcls _ H'=>W.exmOne X.K cls (.ref C)=some true/\∀a,H' a=none->D.nx ((List.replicate X.N.length none).set j (some (.ref a))) (upd H' a (Cy a cls))) e s' } (λcls _ H'=>W.exmOne X.K cls (.ref C)=some true/\∀a,H' a=none->D.nx ((List.replicate X.N.length none).set j (some (.ref a))) (upd H' a (Cy a cls))):=
  λ_ σ1 H1 s1 e s' I1 q=>⟨σ1,H1,s1,I1.aaH,q⟩
 have body:=pss_one (ps_expr (pos:=p1) (he _ _ _ hx) hs) [] s σ H { nx:=D.nx,rt:=λ_ _=>False } (I.abZ _) h;refine wpAny_Try_except (eZ body (λf s1 q=>?_) λe s' q=>?_)
 ·cases f with
  |next=>obtain⟨σ',H',I',q⟩:=q;exact fh ⟨σ',H',I'.aaH,q⟩
  |ret v=>obtain⟨_,_,_,_,_,q⟩:=q;exact q.elim
  |brk=>obtain⟨_,_,_,q⟩:=q;exact q.elim
  |cont=>obtain⟨_,_,_,q⟩:=q;exact q.elim
 ·obtain⟨σ1,H1,s1,I1,a,cls,H',rfl,ho,hb,u,hok,F,hx1,hE⟩:=q;have nw:=λb (hb:s1.heap.get? b=none)=>I1.Ra hex hb;refine QV I1 hst hfr hex ho hb u hok F λh3 J F3=>?_;refine wpAny_handleBy_cons (codeAny_handlers_test ?_) (by intro q;cases q);have J2:=J.mark (.ref a) X.xe;refine ld_glob (X:={ X with A:=X.A.mark (some (.ref a)),calm:=false,xe:=X.xe }) J2 hg hm ?_ hdx;obtain⟨oe,vs,T,oT,ts,hae,hcls,hrest⟩:=F3.ex;have LT:W.Looks (model X.prog X.w) h3 (typeOf (.ref a)) cls:=by rw[<- hcls];exact(W.Looks.ld hae).andThen .now
  have KI:X.K.In h3:=J.kIn;refine(W.exm_one KI LT hx1).here (s:={ s' with heap:=h3 }) ?_;refine codeAny_handlers_suite_as ?_;refine K4 J hst hfr F3 nw λh4 J4 F4=>?_;obtain⟨oe4,vs4,T4,oT4,ts4,hae4,hcls4,hdi4,hd4,_⟩:=F4.ex;have na:=nw a F.new;have hl:X.env.locals∈frs X.stack:=by rw[hst];unfold frs;rw[aZ,hfr];exact af
  have aL:a≠X.env.locals:=λz=>na.2.1 (by rw[z];exact hl);have aF:a∉X.fs:=λz=>na.2.1 (by rw[hst];unfold frs;rw[aZ,hfr];exact ae _ z);have Jp:Inv X (pins++[(a,oe4)]) σ1 H' { s' with heap:=h4 }:=J4.pins_of λp hp=>by
   rcases cV.mp hp with z|z
   ·exact J4.pin p (aH _ z)
   ·have e:p=(a,oe4):=by simpa using z
    subst e;exact⟨hae4,F.un,aL,aF,λv z=>by rw[hd4]at z;cases z⟩
  have J5:=Jp.mark (.ref a) X.xe;refine store_ok (X:={ X with A:=X.A.mark (some (.ref a)),calm:=false,xe:=X.xe }) J5 hN hi (.inl hln) (v:=.ref a) rfl (λs5 J6=>?_) (.inr hln);have il:i<σ1.length:=by rw[J4.len];exact(aj.mp hi).1
  have jl:j<σ1.length:=by rw[J4.len];exact(aj.mp hj).1
  have suite:∀Err:Value->Shared->Prop,PSs { X with A:=X.A.mark (some (.ref a)),calm:=false,xe:=Err } [.Assign [.Name y py] (.Name n pn) p2] (tAsg (tVar i) (gName j)):=λErr=>
   pss_one (ps_set (X:={ X with A:=X.A.mark (some (.ref a)),calm:=false,xe:=Err }) (i:=j) hN hj (.inl hly) (pe_var (X:={ X with A:=X.A.mark (some (.ref a)),calm:=false,xe:=Err }) hi (.inl hln) hdn hdc) hs2 (.inr hly))
  have J6':∀Err:Value->Shared->Prop,Inv { X with A:=X.A.mark (some (.ref a)),calm:=false,xe:=Err } (pins++[(a,oe4)]) (σ1.set i (some (.ref a))) H' s5:=λErr=>(J6.unmark I.ok.hd).mark _ Err;refine eZ (suite _ _ s5 _ H' { nx:=λσ2 H2=>σ2[j]?=some (some (.ref a))/\H2=H',rt:=λ_ _=>False } (J6' _) ⟨_,by rw[de,ah rfl,ah il],by
   exact⟨by rw[de,ah rfl,ah (by rw[bB];exact jl)],rfl⟩⟩) (λf s6 q=>?_) λ_ _ q=>q
  cases f with
  |ret v=>obtain⟨_,_,_,_,_,q⟩:=q;exact q.elim
  |brk=>obtain⟨_,_,_,q⟩:=q;exact q.elim
  |cont=>obtain⟨_,_,_,q⟩:=q;exact q.elim
  |next=>obtain⟨σ2,H2,J7,hw,rfl⟩:=q;have J7:=J7.unmark I.ok.hd;obtain⟨m,hm',hloc⟩:=J7.loc;refine wpAny_nameGoes_keeps hkn hm' (by rw[I.ok.kind];rfl) λh7 v hn7 hs7=>?_;have J8:=J7.gone (t':=s6.toks+1) hN hj hny hloc hn7 hs7 hw;have e8:=(J8.pin (a,oe4) (aH _ (aH _ (by simp)))).1;have J9:Inv X pins ((List.replicate X.N.length none).set j (some (.ref a))) H2 { s6 with heap:=h7,toks:=s6.toks+1 }:=J8.pins_of λp hp=>J8.pin p (aH _ (b9 _ hp));refine⟨_,_,J9.Zc (o:=Cy a cls) F.un aL na.1 na.2.2.1 na.2.2.2 ?_,hE a F.un⟩;exact⟨⟨oe4,vs4,e8,hcls4,hdi4,hd4⟩,⟨oe4,e8⟩,λg1 g2 ⟨o,vs,q1,q2⟩ k=>⟨o,vs,k o q1,q2⟩⟩
end
end L2
namespace L3
open L2
inductive Rs where
 |val (p:PV)|err (C:Addr)
def YL (K:Fg)(G:Gx)(pre:List PV->Prop)(F:List PV->Rs):Sp:=λvs H Q E=>∃as O,(∀a,O a=true->H a≠none)/\lY K G (mn H O) as vs/\pre as/\(∀p,F as=.val p->∀v H',Same H H' -> At K G (mn H' O) p v->Q v H')/\∀C,F as=.err C->∀H',Same H H' -> E (.ref C) none H'
structure Yp (P:Program)(w:World)(K:Fg)(mg:Mg)(base:Heap)(k:Nat)(x:Str)(ps:List Str)(sp:Sp):Prop where
 ex:∃f fd,FnOk P w K mg base (G9 P w) k f fd ps sp/\Binds K fd ps []/\W.keepIn K (.ref f)=true/\mg x=some (.ref f)
abbrev erE (E:XK):ER:=λC H=>E (.ref C) none H
section
variable {P:Program}{w:World}{K:Fg}{mg:Mg}{base:Heap}{G:Gx}
theorem okE {x:Str}{st:Stmt}{N ps:Ls}{k:Nat}{pre:List PV->Prop}{F:List PV->Rs}(d:nY K mg x st ps)(S:FnScope N ps (defScope st))(len:∀as,pre as->as.length=ps.length)
  (hbody:∀(f:Addr) (cdv:Value) (A:Around) (outer:List Env) (s:Shared) (H:Hp) (E:XK),Room k (A.deeper (envOfC x (defScope st) s.heap.objs.size f cdv)) ->
   ∃fs,PSs (cxOf (G9 P w) P w K mg base N x (defScope st) f cdv A outer s H E) (defBody st) (ts K G (erE E) fs)/\∀as,pre as->fs { nx:=λ_=>F as=.val .non,rt:=λp=>F as=.val p,rl:=λns=>F as=.val (.ints ns),er:=λC=>F as=.err C } (nG N as)):Yp P w K mg base (k+1) x ps (YL K G pre F):=by
 obtain⟨f,fd,Fu,b,m⟩:=d.ex;refine⟨f,fd,?_,b,Fu.kp,m⟩;obtain⟨oc,od,kV,doc,pm,an,cdv,ct,osl,rfl,lk,hcd⟩:=Fu.ex;refine fn_of lk hcd S (λvs H Q E h=>?_) λA outer s H vs Q E hr h=>?_
 ·obtain⟨as,O,_,al,hp,_⟩:=h;rw[<- al.length];exact len as hp
 obtain⟨as,O,hd,al,hp,q,qe⟩:=h;obtain⟨fs,b,c⟩:=hbody f cdv A outer s H E hr;refine⟨_,b,⟨H,O⟩,nG N as,_,⟨O,rM hd al⟩,c as hp,⟨λσ' H' Z' R' h=>?_,λv H' p s' a' h=>q p h v H' s' a',λa H' ns s' n e h=>?_,λ_ _ _ _ _ h=>h.elim,λ_ _ _ _ h=>h,λ_ _ _ _ h=>h,λH' C s' h=>qe C h H' s'⟩⟩
 ·obtain⟨O',R'⟩:=R';exact q _ h .non H' R'.same rfl
 ·refine q _ h _ H' s' ⟨a,rfl,.inl ?_⟩;rw[qI]
  ·exact e
  ·cases z:O a with
   |false=>rfl
   |true=>exact absurd n (hd a z)
end
section
variable {X:Cx}{G:Gx}{E:XK}{e:Expr}{es:List Expr}{pos p cpos np pos':Pos}{i j k:Nat}{x y:Str}{ps:List Str}{pre:List PV->Prop}{C:En->Prop}{gs:En->List PV}{F:List PV->Rs}{Cc:Addr}
theorem z9 (o:Yp X.prog X.w X.K X.mg X.base j x ps sp)(hx:Passes (G9 X.prog X.w) X E)(hr:Room k X.A)(ha:PA X (e::es) t)(hj:j<=k:=by decide)(hg:Gl X x:=by rfl)(hdb:(x == ("__debug__":Str))=false:=by decide)
  (he:starEach (e::es) X.env=(false,eval e X.env)::starEach es X.env:=by rfl) (hpl:(backTo pos (starEach es X.env)).any (·.1)=false:=by rfl):PE X (.Call (.Name x p) (e::es) [] pos) (tCall sp [] E t):=by
 obtain⟨f,fd,F,b,kp,m⟩:=o.ex;exact pe_call (F.mono hj) hr hg m kp b .nil hx ha hdb he hpl
theorem Zu:Passes (G9 X.prog X.w) X E0:=λ_ _ _ _ _ _ _ h=>by obtain⟨_,_,_,_,_,_,_,_,_,q⟩:=h;exact q.elim
def Rs.get:Rs->PV
 | .val p=>p
 | .err _=>.non
def Rs.isV:Rs->Prop
 | .val _=>True
 | .err _=>False
theorem CK (hn:R7 X E)(hc:X.calm=true)(q:JM X.K Cc)(hg:Gl X x)(hm:X.mg x=some (.ref Cc))(ha:PA X (e::es) (Ir X.K G C gs))(hlen:∀Z,(gs Z).length=(e::es).length:=by intro _;rfl)(hz:(e::es).length<=1000:=by decide)
  (hdb:(x == ("__debug__":Str))=false:=by decide) (he:starEach (e::es) X.env=(false,eval e X.env)::starEach es X.env:=by rfl) (hpl:(backTo cpos (starEach (e::es) X.env)).any (·.1)=false:=by rfl) :
  PS X (.Raise (some (.Call (.Name x np) (e::es) [] cpos)) none pos) (ts X.K G (erE E) λP Z=>C Z/\P.er Cc):=
 toS (R6 hn hc q hg hm ha hz hdb he hpl λσ H Q ⟨B,Z,O,R,c,q⟩=>⟨B,Z,O,R,c,λvs H1 s1 a1=>⟨by rw[<- a1.length];exact hlen Z,q vs H1 s1 a1⟩⟩) λB σ H Z O P D R c w=>⟨B,Z,O,R,c.1,λ_ H1 s1 _=>w.er H1 Cc (R.same.trans s1) c.2⟩
end
end L3
namespace L2
theorem O7 {prog:Program}{w:World}{A:Around}{E:Value->Shared->Prop}{s:Shared}{K:Fg}{x C:Addr}{o:Obj}{Q:Option Value->Shared->Prop}(X:K.In s.heap)(I:W.InstAt s.heap x o C none)
  (hga:W.findIn K (.ref C) "__getattribute__"=some (some (.builtin "BaseException.__getattribute__"))) (hk:W.findIn K (.ref C) "__getattr__"=some none) (hb:W.mroIn K C (.type "BaseException")=some true)
  (hf:W.findObj K C none "__class__"=some (.bind (.builtin "getset_descriptor.__get__") (.builtin "object.__class__"))) (hm:W.mroIn K C (.type "object")=some true)
  (k:Q (some (.ref C)) { s with toks:=s.toks+1 }):wpAny (model prog w) A (getAttr? (.ref x) "__class__") Q E s:=by
 obtain⟨hh,g,d,t,os⟩:=s;have L0:=I.type (M:=model prog w);have L1:=fM (M:=model prog w) X hga;have Lk:=fM (M:=model prog w) X hk;have Lb:=W.looks_mroIn (M:=model prog w) X hb;have Lf:=W.looks_find (M:=model prog w) X I hf;have bnd:=(gS.ga).bind (.ref x);unfold getAttr? getAttrBy? getAttrBy;refine aB (wpAny_mkText (aB (wpAny_attempt (dH (aB (L0.at (aB (L1.at ?_))))))));unfold getAttrByItsOwn hookBefore;rw[ah (show onTheHeap (.ref C)=true from rfl)];refine aB (Lk.at ?_);refine aB (wpAny_attempt (dH ?_));show wpAny _ _ (boundAndCalled _ _ _) _ _ _;unfold boundAndCalled;rw[bnd];refine aB (bI ?_);refine fU (codeAny_call_builtin gS.ga.plain PySem.F.entry_bexc_ga ?_);have hkk:builtinKind "BaseException.__getattribute__"=some .slot:=by decide +kernel
 have hsplit:splitId "BaseException.__getattribute__"=some ("BaseException","__getattribute__"):=by decide +kernel
 have haa:=PySem.F.args_bexc_ga (.ref x) (.str "__class__" t);simp only[checkBuiltinCall,hkk,hsplit];have LI:W.Looks (model prog w) hh (isInstance (.ref x) (.type "BaseException")) true:=L0.andThen Lb;refine aB (LI.at ?_);rw[ag (by decide)];refine wpAny_of_eq (a:=()) haa ?_;unfold Builtin.«object.__getattribute__»;refine aB (wpAny_of_eq (a:=(.ref x,[.str "__class__" t])) rfl ?_);refine aB (bI (aB (L0.at (aB (Lf.at ?_)))));refine aB (dH (fU ?_));refine W.class_get (s:=⟨hh,g,d,t+1,os⟩) (ox:=o) (od:=none) X I hm ?_;exact bI (W.handed_on rfl (bI k))
structure Pa (K:Fg)(C:Addr):Prop where
 hg:W.findIn K (.ref C) "__getattribute__"=some (some (.builtin "BaseException.__getattribute__"))
 hk:W.findIn K (.ref C) "__getattr__"=some none
 hb:W.mroIn K C (.type "BaseException")=some true
 hd:W.hasDictIn K C=true
 ha:W.findIn K (.ref C) "__class__"=some (some (.builtin "object.__class__"))
 hn:W.specialIn K (.builtin "object.__class__") "__get__"=some (some (.builtin "getset_descriptor.__get__"))
 htk:W.takesIn K (.builtin "object.__class__")=some true
 hm:W.mroIn K C (.type "object")=some true
abbrev abO (a:Addr)(cls:Value):Heap->Prop:=λh=>∃o vs,h.get? a=some o/\o.cls=cls/\o.dict=none/\o.data=.fields vs
theorem Pa.lk {K:Fg}{C:Addr}(F:Pa K C):∃c d cd sl,K.lookup C=some ⟨c,d,.cls cd,sl⟩:=by
 obtain⟨cd,hc,_⟩:=g5 F.hd;unfold W.clsIn at hc;split at hc
 ·rename_i c' d' cd' sl' ho;exact⟨c',d',cd',sl',ho⟩
 ·cases hc
theorem Vh {K:Fg}{x C:Addr}(F:Pa K C):W.KitX K (.ref x) (.ref C) (abO x (.ref C)) where
 ty:=λ_ _ _ ⟨_,_,e,hc,_⟩=>by rw[<- hc];exact(W.Looks.ld e).andThen .now
 it:=λ_ _ X _=>by obtain⟨c,d,cd,sl,ho⟩:=F.lk;intro A Q E s k q;unfold isType loadHead;exact aB (wpAny_loadPart (k _ _ (X _ _ ho)) (bI q))
 ne:=λh tp dd its n sl X htp=>by obtain⟨c,d,cd,sl',ho⟩:=F.lk;refine Bool.eq_false_iff.mpr λq=>?_;obtain rfl:C=tp:=Value.ref.inj (beq_iff_eq.mp q);have z:=(X _ _ ho).symm.trans htp;cases z
 ca:=λ{_ _ _ _ _ s} X ⟨o,vs,e,hc,hdi,hd⟩ k=>by
  have I:W.InstAt s.heap x o C none:=⟨e,hc,by unfold W.notCls;rw[hd],by rw[hdi];exact tJ⟩;have hf:W.findObj K C none "__class__"=some (.bind (.builtin "getset_descriptor.__get__") (.builtin "object.__class__")):=by obtain⟨cd,hc',_⟩:=g5 F.hd;unfold W.findObj;rw[hc',Option.bind_some,F.ha,Option.bind_some];simp[F.hn,F.htk]
  exact O7 X I F.hg F.hk F.hb hf F.hm k
def ab3 (K:Fg):List V->Hp->VK->Prop:=λxs H Q=>(∃x c t cv b,xs=[x,c]/\U7 c=some cv/\TyOf K H x t/\W.kitOne K t cv=some b/\Q (.bl b) H) \/
 ∃a c C cv b,xs=[.ref a,c]/\U7 c=some cv/\H a=some (Cy a (.ref C))/\Pa K C/\W.kitOne K (.ref C) cv=some b/\Q (.bl b) H
theorem QR:CallR X (.builtin "isinstance") (ab3 X.K):=by
 intro pins s σ H xs us Q I r h;rcases h with h|⟨a,c,C,cv,b,rfl,hc,ha,F,e,q⟩
 ·exact yx pins s σ H xs us Q I r h
 ·obtain⟨u,w',rfl,r1,r2⟩:=vals2 r;obtain rfl:=Jv hc r2;obtain rfl:u=.ref a:=r1;exact cr (Vh F) I.kIn (I.hok a _ ha).1 e (λz=>nomatch z) λtk=>⟨.bl b,H,I.tok tk,rfl,q⟩
end L2
namespace L3
open L2
structure XD (G:Gx):Prop where
 into:∀(H:Hp) (a C:Addr),H a=some (Cy a (.ref C))->G.ob 1 H a (C:Nat)
 get:∀(H:Hp) (a:Addr) (z:Int),G.ob 1 H a z->∃C:Addr,z=(C:Nat)/\H a=some (Cy a (.ref C))
def WP (K:Fg)(p c:PV):Prop:=Ro K p c\/∃C cv b,p=.ob 1 ((C:Nat):Int)/\Pa K C/\Hd c=some cv/\W.kitOne K (.ref C) cv=some b
def zN (K:Fg):PV->PV->Bool
 | .ob _ z,c=>match Hd c with
  |some cv=>W.kitOne K (.ref z.toNat) cv == some true
  |none=>false
 |p,c=>oF K p c
theorem vL {K:Fg}{c:PV}{k C:Nat}{cv:Value}{b:Bool}(h2:Hd c=some cv)(h:W.kitOne K (.ref C) cv=some b):zN K (.ob k ((C:Nat):Int)) c=b:=by
 show(match Hd c with|some cv=>W.kitOne K (.ref ((C:Nat):Int).toNat) cv == some true|none=>false)=b
 rw[h2];show(W.kitOne K (.ref ((C:Nat):Int).toNat) cv == some true)=b;rw[aE,h];cases b<;>rfl
theorem Qc {K:Fg}{p c:PV}{t:Value}(h1:tyP p=some t):zN K p c=oF K p c:=by cases p<;>first|rfl|cases h1
section
variable {X:Cx}{G:Gx}{a c e:Expr}{es:List Expr}{pos p:Pos}{Ca Cc C:En->Prop}{ga gc:En->PV}
theorem Ug (hG:XD G)(hm:X.mg "isinstance"=none)(ha:PE X a (tX X.K G Ca ga))(hc:PE X c (tX X.K G Cc gc))(hg:Gl X "isinstance":=by rfl)(he:starEach [a,c] X.env=(false,eval a X.env)::starEach [c] X.env:=by rfl)(he2:starEach [c] X.env=[(false,eval c X.env)]:=by rfl)
  (hpl:(backTo pos (starEach [c] X.env)).any (·.1)=false:=by rfl) :
  PE X (.Call (.Name "isinstance" p) [a,c] [] pos) (TF X.K G (λZ=>Ca Z/\Cc Z/\WP X.K (ga Z) (gc Z)) λZ=>zN X.K (ga Z) (gc Z)=true):=
 uQ (pe_callB QR hg hm vd (pa_cons ha (pa_cons hc pa_nil he2) he) (by decide) (by decide) he hpl) λB σ H Z O Q R cc q=>⟨B,Z,O,R,cc.1,λv H1 s1 a1=>⟨B,Z,O,R.grow s1,cc.2.1,λu H2 s2 a2=>by
  rcases cc.2.2 with⟨t,cv,b,h1,h2,h3⟩|⟨C,cv,b,h1,F,h2,h3⟩
  ·refine .inl ⟨v,u,t,cv,b,rfl,At.cls a2 h2,TyOf.up (jT.trans s2) (a1.ty h1),h3,q _ H2 (s1.trans s2) ?_⟩;show V.bl b=V.bl (decide (zN X.K (ga Z) (gc Z)=true));rw[Qc h1,pQ h1 h2 h3,dI]
  ·have a1':=At.mono (lL s2) _ _ a1;rw[h1]at a1';obtain⟨ad,rfl,ob⟩:=a1';obtain⟨C',ez,hx⟩:=hG.get _ _ _ ob;obtain rfl:C=C':=Int.ofNat.inj ez;refine .inr ⟨ad,u,C,cv,b,rfl,At.cls a2 h2,jT _ _ hx,F,h3,q _ H2 (s1.trans s2) ?_⟩;show V.bl b=V.bl (decide (zN X.K (ga Z) (gc Z)=true));rw[h1,vL h2 h3,dI]⟩⟩
end
section
variable {X:Cx}{G:Gx}{Er:ER}{e:Expr}{es:List Expr}{C:En->Prop}{gs:En->List PV}{pre:List PV->Prop}{F:List PV->Rs}{f x n y:Str}{Cc:Addr}{i j k l:Nat}{ps:List Str}{px py pn hp p1 p2 pos p cpos:Pos}
abbrev XN (N:Nat)(j:Nat)(C:Addr):En:=(List.replicate N Sl.un).set j (.fr (.ob 1 ((C:Nat):Int)))
theorem RC {B:Bs}{σ:L2.St}{H H':Hp}{Z:En}{O:Addr->Bool}{a:Addr}{N:Nat}(hG:XD G){K:Fg}(R:Rep K G B σ H Z O)(s:Same H H')(ha:H' a=none):Rep K G B ((List.replicate N none).set j (some (.ref a))) (upd H' a (Cy a (.ref Cc))) (XN N j Cc) O:=by
 have R1:=(R.grow s).grow (same_new ha (Cy a (.ref Cc)));have oa:O a=false:=by
  cases z:O a with
  |false=>rfl
  |true=>exact absurd ha ((R.grow s).dom a z)
 have un:∀(m:Nat) (q:Sl),(List.replicate N Sl.un)[m]?=some q->q=.un:=λm q e=>by
  rw[bF]at e;split at e
  ·cases e;rfl
  ·cases e
 refine⟨R1.same,R1.cd,R1.hid,R1.dom,R1.vis,λm q e=>?_,λm q e=>?_,λm m' q q' b e=>?_,by simp,λm xs ys e=>?_⟩
 ·rcases jW e with⟨rfl,e,l⟩|⟨_,e⟩
  ·cases e;rw[aG]at l;refine⟨.ref a,yc (by rw[aG];exact l),a,rfl,hG.into _ _ _ ?_⟩;rw[qI oa];exact upd_same
  ·cases un m _ e
 ·rcases jW e with⟨_,e,_⟩|⟨_,e⟩
  ·cases e
  ·cases un m _ e
 ·rcases jW e with⟨_,e,_⟩|⟨_,e⟩
  ·cases e
  ·cases un m _ e
 ·rcases jW e with⟨_,e,_⟩|⟨_,e⟩
  ·cases e
  ·cases un m _ e
theorem Wg (hG:XD G)(o:Yp X.prog X.w X.K X.mg X.base l f ps (YL X.K G pre F))(hr:Room k X.A)(hc:X.calm=true)(hst:X.stack=X.env::X.outer)(hfr:X.env.frame=some X.env.locals)(hex:X.ex=[])(hg:Gl X x)(hm:X.mg x=some (.ref Cc))(hN:X.N.Nodup)(hi:X.N[i]?=some n)(hj:X.N[j]?=some y)(hln:X.env.scope.names.lookup n=some .local)(hly:X.env.scope.names.lookup y=some .local)
  (hkn:X.env.kindOf n=some .local) (hny:y≠n) (hij:i≠j) (ha:∀(pn:List (Addr×Obj)) (E':Value->Shared->Prop),PA { X with pn:=pn,xe:=E' } (e::es) (Ir X.K G C gs)) (hlk:l<=k:=by decide) (hgf:Gl X f:=by rfl) (hdf:(f == ("__debug__":Str))=false:=by decide)
  (he:starEach (e::es) X.env=(false,eval e X.env)::starEach es X.env:=by rfl) (hpl:(backTo cpos (starEach es X.env)).any (·.1)=false:=by rfl)
  (hs:swapsWith (.Call (.Name f p) (e::es) [] cpos) none p1.line X.env=pure false:=by rfl) (hs2:swapsWith (.Name n pn) (some (.Name y py)) p2.line X.env=pure false:=by rfl) (hdx:(x == ("__debug__":Str))=false:=by decide) (hdn:(n == ("__debug__":Str))=false:=by decide) (hdc:(n == ("__classdict__":Str))=false:=by decide) :
  PS X (.Try [.Expr (.Call (.Name f p) (e::es) [] cpos) p1] [.ExceptHandler (some (.Name x px)) (some n) [.Assign [.Name y py] (.Name n pn) p2] hp] [] [] pos)
   (ts X.K G Er λP Z=>C Z/\pre (gs Z)/\(∀p,F (gs Z)=.val p->P.nx Z)/\∀c,F (gs Z)=.err c->W.exmOne X.K (.ref c) (.ref Cc)=some true/\P.nx (XN X.N.length j c)):=
 toS (Yq (te:=λEc=>tCall (YL X.K G pre F) [] Ec (Ir X.K G C gs)) hc hst hfr hex hg hm hN hi hj hln hly hkn hny hij (λpn E' Ec hx=>z9 (X:={ X with pn:=pn,xe:=E' }) o hx hr (ha pn E') hlk hgf hdf he hpl) hs hs2 hdx hdn hdc) λB σ H Z O P D R c w=>⟨B,Z,O,R,c.1,λvs H1 s1 a1=>by
  dsimp only;rw[bh];refine⟨gs Z,O,(R.grow s1).dom,a1,c.2.1,λp hp v H2 s2 _=>w.nx σ H2 Z ⟨O,(R.grow s1).grow s2⟩ (c.2.2.1 p hp),λc' hc' H2 s2=>⟨(c.2.2.2 c' hc').1,λa ha=>w.nx _ _ _ ⟨O,RC hG R (s1.trans s2) ha⟩ (c.2.2.2 c' hc').2⟩⟩⟩
end
mutual
def dat:PV->PyData
 | .int n=>.int n
 | .bl b=>.bool b
 | .non=>.none
 | .str s=>.str s
 | .ints ns=>.list (ns.map PyData.int)
 | .lst xs=>.list (YS xs)
 | .tup xs=>.tuple (YS xs)
 |_=>.none
def YS:List PV->List PyData
 |[]=>[]
 |p::ps=>dat p::YS ps
end
def eqD (p q:PV):Prop:=PySem.Spec.same (dat p) (dat q)=true
instance (p q:PV):Decidable (eqD p q):=inferInstanceAs (Decidable (_=true))
def tR (K:Fg)(G:Gx)(C:En->Prop)(F:En->Rs)(E:XK):TE:=λσ H Q=>∃B Z O,Rep K G B σ H Z O/\C Z/\(∀p,F Z=.val p->∀v H',Same H H' -> At K G (mn H' O) p v->Q v H')/\∀c,F Z=.err c->∀H',Same H H' -> E (.ref c) none H'
abbrev PR (X:Cx)(G:Gx)(e:Expr)(C:En->Prop)(F:En->Rs):Prop:=∀E,Passes (G9 X.prog X.w) X E->PE X e (tR X.K G C F E)
section
variable {X:Cx}{G:Gx}{Er:ER}{E:XK}{e:Expr}{es:List Expr}{pos p pos':Pos}{i j k l:Nat}{x y n:Str}{ps:List Str}{pre:List PV->Prop}{C:En->Prop}{gs:En->List PV}{g:En->PV}{F:List PV->Rs}{FE:En->Rs}{Cc Cl:Addr}{px py pn hp p1 p2:Pos}
theorem Xe (o:Yp X.prog X.w X.K X.mg X.base j x ps (YL X.K G pre F))(hr:Room k X.A)(ha:PA X (e::es) (Ir X.K G C gs))(hj:j<=k:=by decide)(hg:Gl X x:=by rfl)(hdb:(x == ("__debug__":Str))=false:=by decide)
  (he:starEach (e::es) X.env=(false,eval e X.env)::starEach es X.env:=by rfl) (hpl:(backTo pos (starEach es X.env)).any (·.1)=false:=by rfl):PR X G (.Call (.Name x p) (e::es) [] pos) (λZ=>C Z/\pre (gs Z)) λZ=>F (gs Z):=
 λE hx pins s σ H Q I ⟨B,Z,O,R,c,q,qe⟩=>z9 (E:=E) o hx hr ha hj hg hdb he hpl pins s σ H Q I ⟨B,Z,O,R,c.1,λvs H1 s1 a1=>by
  dsimp only;rw[bh];exact⟨gs Z,O,(R.grow s1).dom,a1,c.2,λp hp v H2 s2 a2=>q p hp v H2 (s1.trans s2) a2,λcc hcc H2 s2=>qe cc hcc H2 (s1.trans s2)⟩⟩
theorem ZS (h:PR X G e C FE):PE X e (tX X.K G (λZ=>C Z/\(FE Z).isV) λZ=>(FE Z).get):=
 λpins s σ H Q I ⟨B,Z,O,R,c,q⟩=>h E0 Zu pins s σ H Q I ⟨B,Z,O,R,c.1,λp hp v H' s a=>q v H' s (by dsimp only;rw[hp];exact a),λcc hcc=>by
  have z:=c.2;rw[hcc]at z;exact z.elim⟩
structure KSz (K:Fg)(G:Gx):Prop where
 sz:∀(H:Hp) (a:Addr) (z:Int),G.ob 0 H a z->∃C dx fs,H a=some (.ins C dx fs)/\Cls K C/\NoAttr K C "size"/\fs.lookup ("size":Str)=some (.int z)
def pvZ:PV->Int
 | .ob _ z=>z
 |_=>0
theorem Fd (hK:KSz X.K G)(he:PE X e (tX X.K G C g))(hb:attributeBase e "size" X.env (eval e X.env)=eval e X.env:=by rfl):PE X (.Attribute e "size" pos) (mV X.K G (λZ=>C Z/\g Z=.ob 0 (pvZ (g Z))) λZ=>pvZ (g Z)):=
 uQ (pe_fld he hb) λB σ H Z O Q R c q=>⟨B,Z,O,R,c.1,λv H1 s1 a1=>by
  rw[c.2]at a1;obtain⟨a,rfl,ob⟩:=a1;obtain⟨Ck,dx,fs,e1,e2,e3,e4⟩:=hK.sz _ _ _ ob;exact⟨a,Ck,dx,fs,_,rfl,jT _ _ e1,e2,e3,e4,q _ H1 s1 rfl⟩⟩
def T3:PV->Bool
 | .non=>true
 |_=>false
end
def GkE (KA:Hp->Addr->Int->Prop)(mono:∀{H H':Hp} {a:Addr} {z:Int},KA H a z->Same H H' -> KA H' a z):Gx:=
 ⟨λk H a z=>(k=0/\KA H a z)\/(k=1/\∃C:Addr,z=((C:Nat):Int)/\H a=some (Cy a (.ref C))),λ_ _ _ _ _ s h=>h.elim (λz=>.inl ⟨z.1,mono z.2 s⟩) λz=>.inr ⟨z.1,let ⟨C,e,q⟩:=z.2;⟨C,e,s _ _ q⟩⟩⟩
theorem FZ {KA:Hp->Addr->Int->Prop}{mono:∀{H H':Hp} {a:Addr} {z:Int},KA H a z->Same H H' -> KA H' a z}:XD (GkE KA mono):=by
 refine⟨λH a C h=>.inr ⟨rfl,C,rfl,h⟩,λH a z h=>?_⟩;rcases h with⟨h,_⟩|⟨_,h⟩
 ·exact absurd h (by decide)
 ·exact h
end L3
namespace L2
def aax (KA:Hp->Addr->Int->Prop)(a:Addr)(z:Int)(n:Nat)(pre:Int->List Int->Prop)(F:Int->List Int->Int ⊕ Addr):Sp:=λvs H Q E=>∃ns:List Int,ns.length=n/\vs=.ref a::ns.map V.int/\KA H a z/\pre z ns/\(∀c,F z ns=.inl c->∀H',Same H H' -> Q (.int c) H')/\∀e,F z ns=.inr e->∀H',Same H H' -> E (.ref e) none H'
structure KME (P:Program)(w:World)(K:Fg)(mg:Mg)(base:Heap)(k:Nat)(KA:Hp->Addr->Int->Prop)(m:Str)(n:Nat)(pre:Int->List Int->Prop)(F:Int->List Int->Int ⊕ Addr):Prop where
 ex:∀H a z,KA H a z->∃C dx fs ps,H a=some (.ins C dx fs)/\fs.lookup m=none/\OkM P w K mg base (G9 P w) k C m ps (aax KA a z n pre F)
end L2
namespace L3
open L2
def ye:Int ⊕ Addr->Rs
 | .inl c=>.val (.int c)
 | .inr e=>.err e
section
variable {X:Cx}{G:Gx}{a b c e:Expr}{es:List Expr}{pos p px apos:Pos}{C Ca Cb Cc:En->Prop}{ga gc:En->PV}{gs:En->List PV}{i j k n:Nat}{x m:Str}
theorem Ft {KA:Hp->Addr->Int->Prop}{preK:Int->List Int->Prop}{F:Int->List Int->Int ⊕ Addr}{pl:Sem Bool}(i:Nat)(M:KME X.prog X.w X.K X.mg X.base j KA m n preK F)(hr:Room k X.A)(ha:PA X (e::es) (Ir X.K G C gs))(hn:∀Z,(gs Z).length=n:=by intro _;rfl)(hG:∀H a z,G.ob 0 H a z->KA H a z:=by first|exact λ_ _ _ h=>h.2|exact λ_ _ _ h=>h.elim (λz=>z.2) λz=>absurd z.1 (by decide))(hGm:∀{H H':Hp} {a:Addr} {z:Int},KA H a z->Same H H' -> KA H' a z:=by first|exact λh s=>KAt.same h s|exact λh s=>h.same s)(hj:j<=k:=by decide)
  (hN:X.N[i]?=some x:=by rfl) (hv:Vis X.env.scope x:=by first|exact Or.inl rfl|exact Or.inr (Or.inl rfl)|exact Or.inr (Or.inr rfl)) (hd:(x == ("__debug__":Str))=false:=by decide) (hcd:(x == ("__classdict__":Str))=false:=by decide)
  (hst:starEach (e::es) X.env=(false,eval e X.env)::starEach es X.env:=by rfl) (hpl:(backTo pos (starEach es X.env)).any (·.1)=false:=by rfl)
  (ht:eval (.Call (.Attribute (.Name x px) m apos) (e::es) [] pos) X.env=(do
   let ov <- eval (.Name x px) X.env
   standAt apos.atName
   let (f,first) <- holding [ov] (getMethod ov m pl)
   callWith pos f first (backTo pos (starEach (e::es) X.env)) (backToKw pos (keywordEach [] X.env))):=by rfl) :
  PR X G (.Call (.Attribute (.Name x px) m apos) (e::es) [] pos) (λZ=>isK Z i/\C Z/\Lj (gs Z)/\preK (KH Z i) (ul (gs Z))) λZ=>ye (F (KH Z i) (ul (gs Z))):=by
 intro E hx pins s σ H Q I h;obtain⟨B,Z,O,R,⟨c0,c1,c2,c3⟩,q,qe⟩:=h;obtain⟨v,e1,a,rfl,ka⟩:=R.fr i _ c0;have ka1:KA H a (KH Z i):=hGm (hG _ _ _ ka) jT;obtain⟨Cl,dx,fs,ps,f1,f2,M'⟩:=M.ex H a _ ka1;obtain⟨f,fd,FF,bb,mm,cc⟩:=M'.ex;refine pe_meth (pe_var hN hv hd hcd) cc mm (FF.mono hj) hr bb .nil hx ha hst hpl ht pins s σ H Q I ⟨_,e1,a,dx,fs,rfl,f1,f2,B,Z,O,R,c1,λvs H1 s1 a1=>?_⟩;have ev:=a1.ints c2;have el:(ul (gs Z)).length=n:=by rw[<- hn Z,a1.length,ev,aa]
 exact⟨ul (gs Z),el,by rw[bh,ev],hGm ka1 s1,c3,λc hc H' s'=>q (.int c) (by dsimp only;rw[hc];rfl) _ H' (s1.trans s') rfl,λer her H' s'=>qe er (by dsimp only;rw[her];rfl) H' (s1.trans s')⟩
end
section
variable {X:Cx}{G:Gx}{Er:ER}{f:FS}{C C2:En->Prop}{pos p pos':Pos}{e:Expr}{es:List Expr}{g:En->PV}{x:Str}{ps:List Str}{j k:Nat}{Cl:Addr}{gs:En->List PV}
def prF (fs:List (Str×V)):Nat:=match fs.lookup ("prime":Str) with
 |some (.int z)=>z.toNat
 |_=>0
end
section
variable {X:Cx}{G:Gx}{a b c e:Expr}{p pos:Pos}{C Ca Cb Cc:En->Prop}{ga gb g:En->PV}{gl:En->List Int}
theorem Q3 [∀Z,Decidable (pt Z)](hc:PT X c (vg X.K G Cc pt))(ha:PE X a (tX X.K G Ca ga))(hb:PE X b (tX X.K G Cb gb)):PE X (.IfExp c a b pos) (tX X.K G (λZ=>Cc Z/\(pt Z->Ca Z)/\(¬pt Z->Cb Z)) λZ=>if pt Z then ga Z else gb Z):=
 uQ (pe_ifExp hc ha hb) λB σ H Z O Q R c q=>⟨B,Z,O,R,c.1,λH1 s1=>by
  by_cases d:pt Z
  ·rw[aK d];refine iteT ⟨B,Z,O,R.grow s1,c.2.1 d,λv H2 s2 a2=>q v H2 (s1.trans s2) ?_⟩;rw[ah d];exact a2
  ·rw[aN d];refine iteF ⟨B,Z,O,R.grow s1,c.2.2 d,λv H2 s2 a2=>q v H2 (s1.trans s2) ?_⟩;rw[ag d];exact a2⟩
end
section
variable {X:Cx}{G:Gx}{Er:ER}{f:FS}{a b c e:Expr}{pos p:Pos}{C Ca Cb Cc Cs:En->Prop}{ga gb gs:En->Str}{gi gj gk:En->Int}{g:En->PV}{i k:Nat}{x:Str}
def uR:PV->PV
 | .tup [a,_]=>a
 |_=>.non
def vD:PV->PV
 | .tup [_,b]=>b
 |_=>.non
def Z7 (q:PV):Prop:=q=.tup [uR q,vD q]
theorem Jo {k j:Nat}{g:En->List PV}{kk:Nat}(hp:PassesOwn (model X.prog X.w) X.A X.env X.xe)(hc:X.calm=true)(hl:PE X l (tX X.K G C λZ=>.lst (g Z)))
  (hgt:PG X (.Tuple [.Name x px,.Name y py] kk tp) (gTup X.K 2 (gCons (gName k) (gCons (gName j) gNil)))) (hb:PSs X body (ts X.K G Er f)) (hfs:∀x,foldedSetIterable l X.env x=pure x:=by intro _;rfl) :
  PS X (.For (.Tuple [.Name x px,.Name y py] kk tp) l body [] pos) (ts X.K G Er λP Z=>(C Z/\∀q∈g Z,Z7 q)/\∃W:Nat->En->Prop,W 0 Z /\
   (∀i n Z',(g Z)[i]?=some n->W i Z' -> f { P with nx:=W (i+1),ct:=W (i+1),bk:=P.nx } ((Z'.set k (.fr (uR n))).set j (.fr (vD n))))/\∀Z',W (g Z).length Z' -> P.nx Z'):=
 toS (ps_for hp hc (pi_list hl) hgt hb hfs) λB σ H Z O P D R c w=>by
  obtain⟨⟨c1,c2⟩,W,w0,st,nd⟩:=c;refine⟨B,Z,O,R,c1,λv H1 s1 a1=>?_⟩;obtain⟨a,vs,e,hq,hal⟩:=a1;have R1:=R.grow s1;have w1:=uf R1 w;have el:=hal.length;refine⟨a,e,⟨_,.inl (jC jT hq)⟩,for_list (xs:=vs) (λi σ H=>∃Z',xG X.K G (B.at H1 O) σ H Z'/\W i Z') ⟨Z,⟨O,R1.rebase⟩,w0⟩ ?_ ?_ ?_⟩
  ·rintro i σ H _ ⟨Z',⟨O',R'⟩,_⟩;exact .inl (jC ((Rep.vQ B H1 O).trans R'.same) hq)
  ·rintro i y σ H hy ⟨Z',⟨O',R'⟩,hw⟩;obtain⟨n,en,an⟩:=hal.get hy;have ip:=c2 n (bQ en);have an2:=At.mono (R1.seen R') _ _ an;rw[ip]at an2;obtain⟨T,us,rfl,hT,al⟩:=an2;obtain⟨v1,r1,rfl,x1,v2,r2,rfl,x2,rfl⟩:=al;refine⟨T,_,rfl,SqT.of (jT _ _ hT),rfl,_,_,rfl,_,_,rfl,rfl,?_⟩;exact⟨_,_,_,⟨O',(R'.set x1).set x2⟩,st i n Z' en hw,⟨λσ' H' Z' R' h=>⟨Z',R',h⟩,w1.rt,w1.rl,w1.rn,w1.nx,λσ' H' Z' R' h=>⟨Z',R',h⟩,w1.er⟩⟩
  ·rintro σ H ⟨Z',R',hw⟩;rw[<- el]at hw;exact w1.nx σ H Z' R' (nd Z' hw)
end
section
variable {X:Cx}{G:Gx}{Er:ER}{N':List Str}{sc:Scope}{cl:List (Str×Addr)}{cap:List (Option Nat)}{el tg src:Expr}{at' spos px:Pos}{Cs Cb Ca C2 Cc:En->Prop}{gs:En->List Int}{ga gb gc gi:En->Int}{gp:En->PV}{i:Nat}{x:Str}{a b c:Expr}
theorem Rb {t:TE}{st:Stmt}{C:En->Prop}{g:En->List PV}(h:PS X st (tAsg t (gName i)))(k:∀σ H Q,yU X.K G C g σ H Q->t σ H Q):PS X st (ts X.K G Er λP Z=>C Z/\∀ns,ns=g Z->P.nx (Z.set i (.fr (.lst ns)))):=
 toS h λB σ H Z O P D R c w=>k σ H _ ⟨B,Z,O,R,c.1,λa vs H1 s1 n1 e1 al=>w.nx _ H1 _ ⟨O,(R.grow s1).set (p:=.lst _) ⟨a,vs,rfl,.inl (by
  rw[qI]
  ·exact e1
  ·cases z:O a with
   |false=>rfl
   |true=>exact absurd n1 (R.dom a z)),by
  refine lY.mono ?_ _ _ al;exact wg qQ⟩⟩ (c.2 _ rfl)⟩
end
def acq (q:PV):Prop:=∃g o,q=.tup [.ints g,.int o]
section
variable {X:Cx}{G:Gx}{Er:ER}{a b c e:Expr}{pos p:Pos}{C Ca:En->Prop}{gl:En->List Int}{g:En->PV}{gp:En->List PV}{i:Nat}{x:Str}{px pa pc:Pos}
def abP (Z:En)(i:Nat):Prop:=Z[i]?=some (.ow (.lst (rG (PJ Z i))))
theorem rP (i:Nat)(he:PE X e (tX X.K G C g))(hN:X.N[i]?=some x:=by rfl)(hv:Vis X.env.scope x:=by first|exact Or.inl rfl|exact Or.inr (Or.inl rfl)|exact Or.inr (Or.inr rfl))
  (hd:(x == ("__debug__":Str))=false:=by decide) (hcd:(x == ("__classdict__":Str))=false:=by decide)
  (hbase:attributeBase (.Name x px) "append" X.env (eval (.Name x px) X.env)=eval (.Name x px) X.env:=by rfl)
  (hfew:((backTo pc (starEach (e::[]) X.env)).all (λx=>!x.1) && (backToKw pc (keywordEach [] X.env)).all (λx=>x.1.isSome)
   && decide ((e::[]).length+([]:List Keyword).length+(if ([]:List Keyword).isEmpty then 0 else 1)<30))=true:=by rfl)
  (hline:(pa.endLine == pc.line)=true:=by rfl) (hs:starEach (e::[]) X.env=(false,eval e X.env)::starEach [] X.env:=by rfl) (hplain:(backTo pc (starEach [] X.env)).any (·.1)=false:=by rfl)
  (hsw:swapsWith (.Call (.Attribute (.Name x px) "append" pa) [e] [] pc) none pos.line X.env=pure false:=by rfl) :
  PS X (.Expr (.Call (.Attribute (.Name x px) "append" pa) [e] [] pc) pos) (ts X.K G Er λP Z=>abP Z i/\C Z/\(rG (PJ Z i)).length<sizeLine/\P.nx (Z.set i (.ow (.lst (rG (PJ Z i)++[g Z]))))):=
 toS (ps_expr (pe_bm fj PySem.F.slot_list_append PySem.F.type_list_append mt_append (pe_var hN hv hd hcd) (pa_cons he pa_nil hs) hbase hfew hline hs hplain) hsw) λB σ H Z O P D R c w=>by obtain⟨c0,c1,c2,c3⟩:=c;obtain⟨a,vs,e1,e2,e3,e4,e5⟩:=R.ow i _ c0;have el:=e5.length;refine⟨_,e1,.inl ⟨rfl,_,SqL.of e4⟩,B,Z,O,R,c1,λv H1 s1 a1=>?_⟩;refine⟨a,_,_,rfl,rfl,s1 _ _ e4,by rw[<- el];exact c2,w.nx σ _ _ ⟨O,(R.grow s1).change c0 e1 (p':=.lst (rG (PJ Z i)++[g Z])) ?_⟩ c3⟩;exact lY.snoc (lY.mono (lL s1) _ _ e5) a1
end
section
variable {K:Fg}{G:Gx}{σ:L2.St}{H:Hp}{Q:VK}{Cs Cb:En->Prop}{gp:En->PV}{cap:List (Option Nat)}
theorem aaM {gl:En->List PV}(h:yU K G (λZ=>Cs Z/\(gl Z).length<=1000/\∀q∈gl Z,Cb ((jN (none::cap) Z).set 0 (.fr q))) (λZ=>(gl Z).map λq=>gp ((jN (none::cap) Z).set 0 (.fr q))) σ H Q) :
  Ut (none::cap) (iList K (tX K G Cs λZ=>.lst (gl Z))) (gName 0) uB (tX K G Cb gp) σ H Q:=by
 obtain⟨B,Z,O,R,⟨c1,c2,c4⟩,q⟩:=h;refine⟨B,Z,O,R,c1,λv H1 s1 a1=>?_⟩;obtain⟨a,vs,rfl,hq,hal⟩:=a1;have hq1:SqL K H1 a vs:=.inl (jC jT hq);have el:=hal.length;have R1:=R.grow s1;refine⟨a,rfl,⟨_,hq1⟩,λD hD=>?_⟩;have one:∀i n,(gl Z)[i]?=some n->At K G (mn H1 O) n (vs.getD i .non):=λi n en=>by
  have hi:i<vs.length:=by rw[<- el];exact(aj.mp en).1
  obtain⟨n',en',an⟩:=hal.get (ac hi);rw[en]at en';cases en';rw[gQ,ac hi];exact an
 obtain⟨items,hit⟩:∃items:List (Nat×PV),items=(gl Z).zipIdx.map λz=>(z.2,z.1):=⟨_,rfl⟩;have hlen:items.length=(gl Z).length:=by rw[hit,aa,List.length_zipIdx]
 have hat:∀(i:Nat) (it:Nat×PV),items[i]?=some it->it.1=i/\(gl Z)[i]?=some it.2:=λi it e=>by
  rw[hit,az,iA]at e;cases eg:(gl Z)[i]? with
  |none=>rw[eg]at e;cases e
  |some n=>rw[eg]at e;have e:=aI e;subst e;exact⟨ik i,rfl⟩
 have hmem:∀it∈items,(gl Z)[it.1]?=some it.2:=λit hm=>by obtain⟨i,e⟩:=List.mem_iff_getElem?.mp hm;obtain⟨h1,h2⟩:=hat i it e;rw[h1];exact h2
 have hmap:items.map (λit=>gp ((jN (none::cap) Z).set 0 (.fr it.2)))=(gl Z).map λq=>gp ((jN (none::cap) Z).set 0 (.fr q)):=by
  refine d8 λi=>?_;rw[az,az];by_cases c:i<(gl Z).length
  ·have c':i<items.length:=by lia
   obtain⟨h1,h2⟩:=hat i items[i] (ac c');rw[ac c',h2];rfl
  ·rw[bG (show items.length<=i by lia),bG (show(gl Z).length<=i by lia)];rfl
 refine rR items (λ_ v=>(pK (none::cap) σ).set 0 (some v)) (λit=>(jN (none::cap) Z).set 0 (.fr it.2)) (λit=>vs.getD it.1 .non) R1 hD (by rw[hlen];exact c2)
  (λi H hi s=>⟨vs,vs[i]'(by rw[<- el,<- hlen];exact hi),s.seq hq1,by rw[ac]⟩) ?_ (λH s=>⟨_,s.seq hq1,by rw[hlen,el];exact aq _⟩) (λit H hm s R'=>?_) ?_ ?_ ?_
 ·rintro i it x H H' en s ⟨rfl,hx⟩;obtain⟨h1,h2⟩:=hat i it en;have e3:=hx _ (s.seq hq1);refine⟨Same.refl _,λkk hk=>?_⟩;rw[h1,gQ,e3]at hk;exact hk
 ·exact R'.set (At.mono (mY (O:=O) s hD) _ _ (one _ _ (hmem it hm)))
 ·intro it;exact ni _
 ·intro it hm;exact c4 it.2 (bQ (hmem it hm))
 ·intro H' ys s hd al;refine q D ys H' (s1.trans s) (s1.free hD) hd ?_;rw[hmap]at al;exact al
end
section
variable {X:Cx}{G:Gx}{Er:ER}{N':List Str}{sc:Scope}{cl:List (Str×Addr)}{cap:List (Option Nat)}{el tg src:Expr}{at' spos px:Pos}{Cs Cb:En->Prop}{gn gi:En->Int}{gp:En->PV}{gl:En->List PV}{i:Nat}{x:Str}
theorem Zh (L:vC X N' sc cl (none::cap))(hc:X.calm=true)(hi:PE X src (tX X.K G Cs λZ=>.lst (gl Z)))(hg:∀s H fp,PG (jK X N' sc cl s H fp) tg (gName 0))(he:∀s H fp,PE (jK X N' sc cl s H fp) el (tX X.K G Cb gp))(hs:∀x,foldedSetIterable src X.env x=pure x:=by intro _;rfl) :
  PE X (.ListComp el [⟨tg,src,[],0⟩] sc at') (yU X.K G (λZ=>Cs Z/\(gl Z).length<=1000/\∀q∈gl Z,Cb ((jN (none::cap) Z).set 0 (.fr q))) λZ=>(gl Z).map λq=>gp ((jN (none::cap) Z).set 0 (.fr q))):=
 λpins s σ H Q I h=>yF L hc (pi_list hi) hg (λ_ _ _=>p8) he hs pins s σ H Q I (aaM h)
theorem YC (L:vC X N' sc cl (none::cap))(hc:X.calm=true)(hgl:Gl X "range")(hm:X.mg "range"=none)(hi:PE X src (mV X.K G Cs gn))(hg:∀s H fp,PG (jK X N' sc cl s H fp) tg (gName 0))(he:∀s H fp,PE (jK X N' sc cl s H fp) el (tX X.K G Cb gp))
  (hst:starEach [src] X.env=[(false,eval src X.env)]:=by rfl) (hs:∀x,foldedSetIterable (.Call (.Name "range" p) [src] [] pos') X.env x=pure x:=by intro _;rfl) :
  PE X (.ListComp el [⟨tg,.Call (.Name "range" p) [src] [] pos',[],0⟩] sc at') (yU X.K G (λZ=>Cs Z/\(0<=gn Z/\gn Z<=1000)/\∀k:Nat,k<(gn Z).toNat->Cb ((jN (none::cap) Z).set 0 (.fr (.int k)))) λZ=>(List.range (gn Z).toNat).map λ(k:Nat)=>gp ((jN (none::cap) Z).set 0 (.fr (.int k)))):=
 λpins s σ H Q I h=>yF L hc (pi_range1 hgl hm (pa_cons hi pa_nil hst) hst) hg (λ_ _ _=>p8) he hs pins s σ H Q I (abW h)
end
section
variable {K:Fg}{G:Gx}{H:Hp}
theorem Hg:∀{ps:List PV} {vs:List V},lY K G H ps vs->∀k:Nat,lY K G H (ps.drop k) (vs.drop k)
 |_,_,h,0=>h
 |[],_,h,k+1=>by rw[h];rfl
 |p::r,_,h,k+1=>by obtain⟨u,t,rfl,e,z⟩:=h;exact Hg z k
theorem Ho:∀{ps:List PV} {vs:List V},lY K G H ps vs->∀k:Nat,lY K G H (ps.take k) (vs.take k)
 |_,_,_,0=>rfl
 |[],_,h,k+1=>by rw[h];rfl
 |p::r,_,h,k+1=>by obtain⟨u,t,rfl,e,z⟩:=h;exact⟨u,t.take k,rfl,e,Ho z k⟩
end
section
variable {X:Cx}{G:Gx}{Er:ER}{a b e:Expr}{pos p px:Pos}{C Ca Cb:En->Prop}{gb:En->Int}{g:En->PV}{gp:En->List PV}{i:Nat}{x:Str}
def qU (xs:List PV)(lo hi:Option Int):List PV:=(xs.drop (HT.sIx xs.length 0 lo)).take (HT.sIx xs.length xs.length hi-HT.sIx xs.length 0 lo)
theorem Ak {lo hi:Option Expr}{Cl Ch:En->Prop}{gl gh:En->Option Int}(ha:PE X a (tX X.K G C λZ=>.lst (gp Z)))(hl:PO X lo (Xy X.K G Cl gl))(hh:PO X hi (Xy X.K G Ch gh)) :
  PE X (.Subscript a (.Slice lo hi none p2) pos) (yU X.K G (λZ=>C Z/\Cl Z/\Ch Z) λZ=>qU (gp Z) (gl Z) (gh Z)):=
 λpins s σ H Q I ⟨B,Z,O,R,c,q⟩=>pe_slice sl_list ha hl hh pins s σ H Q I ⟨B,Z,O,R,c.1,λv H1 s1 a1=>⟨B,Z,O,R.grow s1,c.2.1,λH2 s2=>⟨B,Z,O,(R.grow s1).grow s2,c.2.2,λH3 s3=>by
  obtain⟨l,vs,rfl,r,al⟩:=a1;have al3:=lY.mono (lL (s2.trans s3)) _ _ al;have ell:=al.length;refine⟨l,_,rfl,(s2.trans s3).seq (.inl (jC jT r)),λy hy=>q y _ _ (((s1.trans s2).trans s3).trans (same_new hy _)) (((s1.trans s2).trans s3).free hy) upd_same (lY.mono (mY (same_new hy _) hy) _ _ ?_)⟩;show lY X.K G (mn H3 O) (qU (gp Z) (gl Z) (gh Z)) (cutV vs (gl Z) (gh Z));unfold qU cutV;rw[ell];exact Ho (Hg al3 _) _⟩⟩⟩
end
def Ul (C:Addr):Sp:=λvs H Q _=>∃(x dx:Addr) (p:Int),vs=[.ref x,.int p]/\FM.jL p/\H x=some (.ins C dx [])/\Q .non (upd H x (.ins C dx [("size",.int p)]))
def KR (cR:Addr)(H:Hp)(a:Addr)(z:Int):Prop:=0<z/\∃dx fs,H a=some (.ins cR dx fs)/\fs.lookup ("size":Str)=some (.int z)/\∀m∈BK,fs.lookup m=none
theorem KR.same (k:KR cR H a z)(s:Same H H'):KR cR H' a z:=by obtain⟨e0,dx,fs,e,r⟩:=k;exact⟨e0,dx,fs,s _ _ e,r⟩
section
variable {X:Cx}{G:Gx}{pos p:Pos}{j k:Nat}{x y:Str}{C:Addr}{e:Expr}{Ca:En->Prop}{ga:En->Int}
theorem abT (o:OkI X.prog X.w X.K X.mg X.base CX0 j x C ["self",y] (Ul C))(hr:Room k X.A)(hG:∀(H:Hp) (a dx:Addr) (p:Int),FM.jL p->H a=some (.ins C dx [("size",.int p)])->G.ob 0 H a p)(ha:PE X e (mV X.K G Ca ga))(hj:j+1<=k:=by decide)(hg:Gl X x:=by rfl)(hdb:(x == ("__debug__":Str))=false:=by decide)
  (he:starEach [e] X.env=[(false,eval e X.env)]:=by rfl) (hpl:(backTo pos (starEach [] X.env)).any (·.1)=false:=by rfl):PE X (.Call (.Name x p) [e] [] pos) (tX X.K G (λZ=>Ca Z/\FM.jL (ga Z)) λZ=>.ob 0 (ga Z)):=
 uQ (Uj o hr pass0 (pa_cons ha pa_nil he) hj hg hdb he hpl) λB σ H Z O Q R c q=>⟨B,Z,O,R,c.1,λv H1 s1 a1=>λy dx hy hd hne=>by
  subst a1;refine⟨y,dx,ga Z,rfl,c.2,upd_same,rfl,q (.ref y) _ (s1.trans (Xv hy hd)) ⟨y,rfl,hG _ _ dx _ c.2 ?_⟩⟩;rw[Xq (R.grow s1).dom hy];exact upd_same⟩
end
def jy (t:List (List Int)):PV:=.lst (t.map PV.ints)
section
variable {X:Cx}{G:Gx}{Er:ER}{a b e:Expr}{pos p px apos kp pz:Pos}{C Ca Cb:En->Prop}{gl:En->List Int}{gp hp:En->List PV}{g:En->PV}{i j k:Nat}{x:Str}
def Y8:PV->Prop
 | .non=>True
 | .int _=>True
 |_=>False
theorem VG (he:PE X e (tX X.K G C g)):PT X (.Compare e [.IsNot] [.Constant .none k2 p] pos) (vg X.K G (λZ=>C Z/\Y8 (g Z)) λZ=>¬T3 (g Z)=true):=
 λpins s σ H Q I ⟨B,Z,O,R,c,q⟩=>pt_cmpR op_notN he pe_non (nomark _) pins s σ H Q I ⟨B,Z,O,R,c.1,λv H1 s1 a1=>⟨rfl,_,rfl,by
  have z:=q H1 s1;have key:(!decide (v=V.non))=decide (¬T3 (g Z)=true):=by
   have h:=c.2;revert a1 h;generalize g Z=pg;intro a1 h;cases pg<;>first|exact h.elim|skip
   ·rw[a1];rfl
   ·rw[a1];rfl
  rw[key];exact z⟩⟩
theorem zW {K:Fg}{H:Hp}:∀{ps qs:List PV} {vs us:List V},lY K G H ps vs->lY K G H qs us->lY K G H (ps++qs) (vs++us)
 |[],_,_,_,h,k=>by rw[h];exact k
 |p::r,_,_,_,h,k=>by obtain⟨u,t,rfl,e,z⟩:=h;exact⟨u,_,rfl,e,zW z k⟩
theorem Lg (ha:PE X a (tX X.K G Ca λZ=>.lst (gp Z)))(hb:PE X b (tX X.K G Cb λZ=>.lst (hp Z))):PE X (.BinOp a .Add b pos) (yU X.K G (λZ=>Ca Z/\Cb Z/\(gp Z).length+(hp Z).length<=sizeLine) λZ=>gp Z++hp Z):=
 λpins s σ H Q I ⟨B,Z,O,R,c,q⟩=>pe_op Oe ha hb pins s σ H Q I (two R c.1 c.2.1 λv u H1 H2 s1 s2 a1 a2=>by
  obtain⟨l,vs,rfl,r1,al1⟩:=a1;obtain⟨b,us,rfl,r2,al2⟩:=a2;have l1:=al1.length;have l2:=al2.length;refine⟨l,b,_,_,rfl,rfl,jC jT r1,jC jT r2,by rw[<- l1,<- l2];exact c.2.2,λp hp=>q p _ _ ((s1.trans s2).trans (same_new hp _)) ((s1.trans s2).free hp) upd_same ?_⟩;exact lY.mono (mY (same_new hp _) hp) _ _ (zW al1 al2))
theorem abp (he:PE X e (tX X.K G C λZ=>.lst (gp Z)))(ht:∀whole,isTrue e X.env whole=(do let v <- whole;standAt e.pos;holding [v] (truthy v)):=by intro _;rfl):PT X e (vg X.K G C λZ=>¬gp Z=[]):=
 λpins s σ H Q I ⟨B,Z,O,R,c,q⟩=>pt_truth he ht pins s σ H Q I ⟨B,Z,O,R,c,λv H1 s1 a1=>by
  obtain⟨l,vs,rfl,hq,al⟩:=a1;refine⟨_,.inl ⟨_,.inl (jC jT hq),rfl⟩,?_⟩;have z:=q H1 s1;have ll:=al.length;have e:(!vs.isEmpty)=decide (¬gp Z=[]):=by
   cases hg:gp Z with
   |nil=>rw[hg]at ll;have:vs=[]:=dM.mp ll.symm;rw[this];simp
   |cons a r=>
    rw[hg]at ll;cases vs with
    |nil=>cases ll
    |cons b t=>simp
  rw[e];exact z⟩
end
section
variable {K:Fg}{G:Gx}{σ:L2.St}{H:Hp}{Q:VK}{Cs Cs' Cb Ct:En->Prop}{pt:En->Prop}[∀Z,Decidable (pt Z)]{gp:En->PV}{cap:List (Option Nat)}{gl hl:En->List PV}
theorem wG (hal:lY K G (mn H1 O) ps vs)(h:i<ps.length):At K G (mn H1 O) (ps.getD i .non) (vs.getD i .non):=by
 have el:=hal.length;have hi:i<vs.length:=by lia
 obtain⟨n',en',an⟩:=hal.get (ac hi);rw[gQ,gQ,en',ac hi];exact an
theorem MK {α β γ:Type}(f:α->β->γ)(a:α)(b:β)(l:List α)(m:List β):(List.range (min l.length m.length)).map (λi=>f (l.getD i a) (m.getD i b))=(l.zip m).map λp=>f p.1 p.2:=by
 refine d8 λi=>?_;rw[az,az];by_cases c:i<min l.length m.length
 ·have c1:i<l.length:=by lia
  have c2:i<m.length:=by lia
  have ez:(l.zip m)[i]?=some (l[i],m[i]):=by rw[ac (by rw[dG];exact c),g7]
  rw[cw c,ez];simp only[dW,gQ,ac c1,ac c2,eQ]
 ·rw[bG (by rw[ao];lia),bG (by rw[dG];lia)];rfl
theorem aaP (h:yU K G (λZ=>(Cs Z/\Cs' Z)/\(gl Z).length<=1000/\∀q r,(q,r)∈(gl Z).zip (hl Z)->Cb (((jN (none::none::cap) Z).set 0 (.fr q)).set 1 (.fr r)))
   (λZ=>((gl Z).zip (hl Z)).map λp=>gp (((jN (none::none::cap) Z).set 0 (.fr p.1)).set 1 (.fr p.2))) σ H Q) :
  Ut (none::none::cap) (V3 K (tCons (tX K G Cs λZ=>.lst (gl Z)) (tCons (tX K G Cs' λZ=>.lst (hl Z)) tNil))) (gTup K 2 (gCons (gName 0) (gCons (gName 1) gNil))) uB (tX K G Cb gp) σ H Q:=by
 obtain⟨B,Z,O,R,⟨⟨c1,c1'⟩,c2,c3⟩,q⟩:=h;refine⟨B,Z,O,R,c1,λv H1 s1 a1=>⟨B,Z,O,R.grow s1,c1',λu H2 s2 a2=>?_⟩⟩;obtain⟨a,vs,rfl,hq,hal⟩:=a1;obtain⟨b,us,rfl,hq',hal'⟩:=a2;have hal:=lY.mono (lL (O:=O) s2) _ _ hal;have hq1:SqL K H2 a vs:=.inl (jC s2 (jC jT hq));have hq2:SqL K H2 b us:=.inl (jC jT hq');have el:=hal.length;have el':=hal'.length;refine⟨a,b,rfl,⟨_,hq1⟩,⟨_,hq2⟩,λD hD=>?_⟩;have hz:(List.range (min (gl Z).length (hl Z).length)).length=min (gl Z).length (hl Z).length:=ao;have at1:∀i,i<(List.range (min (gl Z).length (hl Z).length)).length->i<vs.length/\i<us.length:=λi h=>by rw[hz]at h;lia
 refine rR (List.range (min (gl Z).length (hl Z).length)) (λi _=>((pK (none::none::cap) σ).set 0 (some (vs.getD i .non))).set 1 (some (us.getD i .non))) (λi=>((jN (none::none::cap) Z).set 0 (.fr ((gl Z).getD i .non))).set 1 (.fr ((hl Z).getD i .non))) (λ_=>.non) ((R.grow s1).grow s2) hD (by rw[hz];lia)
  (λi H hi s=>⟨_,_,vs[i]'(at1 i hi).1,us[i]'(at1 i hi).2,s.seq hq1,s.seq hq2,by rw[ac],by rw[ac]⟩) ?_ (λH s=>⟨_,_,s.seq hq1,s.seq hq2,by rw[hz];lia⟩) (λi H hi s R'=>?_) ?_ ?_ ?_
 ·rintro i k x H H' en s ⟨T,y,y',rfl,hT,rfl,hx,hx'⟩;have hx:=hx _ (s.seq hq1);have hx':=hx' _ (s.seq hq2);have hlt:i<min (gl Z).length (hl Z).length:=by have:=(aj.mp en).1;rw[hz]at this;exact this
  rw[cw hlt]at en;cases en;refine⟨same_new hT _,λkk hk=>⟨T,_,rfl,SqT.of upd_same,rfl,_,_,rfl,_,_,rfl,rfl,?_⟩⟩;rw[gQ,gQ,hx,hx']at hk;exact hk
 ·have hi:=a7.mp hi;exact(R'.set (At.mono (mY (O:=O) s hD) _ _ (wG hal (by lia)))).set (At.mono (mY (O:=O) s hD) _ _ (wG hal' (by lia)))
 ·intro i;exact ni _
 ·intro i hi;have hi:=a7.mp hi;refine c3 _ _ ?_;rw[gQ,gQ,ac (show i<(gl Z).length by lia),ac (show i<(hl Z).length by lia)];refine ce.mpr ⟨i,by rw[dG];exact hi,?_⟩;rw[g7];rfl
 ·intro H' ys s hd al;refine q D ys H' ((s1.trans s2).trans s) ((s1.trans s2).free hD) hd ?_;rw[MK (λp r=>gp (((jN (none::none::cap) Z).set 0 (.fr p)).set 1 (.fr r)))]at al;exact al
theorem V9 {α γ:Type}(f:Nat->α->γ)(a:α)(l:List α):(List.range l.length).map (λi=>f i (l.getD i a))=l.mapIdx f:=by
 refine d8 λi=>?_;rw[az,cD];by_cases c:i<l.length
 ·rw[cw c];simp only[dW,gQ,ac c,eQ]
 ·rw[bG (by rw[ao];lia),bG (by lia)];rfl
theorem abd (h:yU K G (λZ=>Cs Z/\(gl Z).length<=1000/\∀(i:Nat) (q:PV),(gl Z)[i]?=some q->Cb (((jN (none::none::cap) Z).set 0 (.fr (.int i))).set 1 (.fr q)))
   (λZ=>(gl Z).mapIdx λi p=>gp (((jN (none::none::cap) Z).set 0 (.fr (.int i))).set 1 (.fr p))) σ H Q) :
  Ut (none::none::cap) (Vd K (tCons (tX K G Cs λZ=>.lst (gl Z)) tNil)) (gTup K 2 (gCons (gName 0) (gCons (gName 1) gNil))) uB (tX K G Cb gp) σ H Q:=by
 obtain⟨B,Z,O,R,⟨c1,c2,c3⟩,q⟩:=h;refine⟨B,Z,O,R,c1,λv H1 s1 a1=>?_⟩;obtain⟨a,vs,rfl,hq,hal⟩:=a1;have hq1:SqL K H1 a vs:=.inl (jC jT hq);have el:=hal.length;refine⟨a,rfl,⟨_,hq1⟩,λD hD=>?_⟩;have hz:(List.range (gl Z).length).length=(gl Z).length:=ao;refine rR (List.range (gl Z).length) (λ(i:Nat) _=>((pK (none::none::cap) σ).set 0 (some (.int i))).set 1 (some (vs.getD i .non))) (λ(i:Nat)=>((jN (none::none::cap) Z).set 0 (.fr (.int i))).set 1 (.fr ((gl Z).getD i .non))) (λ_=>.non) (R.grow s1) hD (by rw[hz];lia)
  (λi H hi s=>⟨_,vs[i]'(by rw[hz]at hi;lia),s.seq hq1,by rw[ac]⟩) ?_ (λH s=>⟨_,s.seq hq1,by rw[hz,el];exact aq _⟩) (λi H hi s R'=>?_) ?_ ?_ ?_
 ·rintro i k x H H' en s ⟨T,y,rfl,hT,rfl,hx⟩;have hx:=hx _ (s.seq hq1);have hlt:i<(gl Z).length:=by have:=(aj.mp en).1;rw[hz]at this;exact this
  rw[cw hlt]at en;cases en;refine⟨same_new hT _,λkk hk=>⟨T,_,rfl,SqT.of upd_same,rfl,_,_,rfl,_,_,rfl,rfl,?_⟩⟩;rw[gQ,hx]at hk;exact hk
 ·have hi:=a7.mp hi;exact(R'.set (p:=.int i) rfl).set (At.mono (mY (O:=O) s hD) _ _ (wG hal hi))
 ·intro i;exact ni _
 ·intro i hi;have hi:=a7.mp hi;refine c3 i _ ?_;rw[gQ,ac hi];rfl
 ·intro H' ys s hd al;refine q D ys H' (s1.trans s) (s1.free hD) hd ?_;rw[V9 (λ(i:Nat) p=>gp (((jN (none::none::cap) Z).set 0 (.fr (.int i))).set 1 (.fr p)))]at al;exact al
end
section
variable {X:Cx}{G:Gx}{Er:ER}{N':List Str}{sc:Scope}{cl:List (Str×Addr)}{cap:List (Option Nat)}{el tg src tst l l2:Expr}{at' spos px p pos':Pos}{Cs Cs' Ct Cb:En->Prop}{pt:En->Prop}[∀Z,Decidable (pt Z)]{gp:En->PV}{gl hl:En->List PV}{i:Nat}{x:Str}
theorem Dg (hN:X.N.Nodup)(hi':X.N[i]?=some x)(hx:X.env.scope.names.lookup x=some .local)(L:vC X N' sc cl (none::cap))(hc:X.calm=true)(hi:PE X src (tX X.K G Cs λZ=>.lst (gl Z)))(hg:∀s H fp,PG (jK X N' sc cl s H fp) tg (gName 0))(he:∀s H fp,PE (jK X N' sc cl s H fp) el (tX X.K G Cb gp))
  (hsw:swapsWith (.ListComp el [⟨tg,src,[],0⟩] sc at') (some (.Name x px)) spos.line X.env=pure true) (hs:∀x,foldedSetIterable src X.env x=pure x:=by intro _;rfl) :
  PS X (.Assign [.Name x px] (.ListComp el [⟨tg,src,[],0⟩] sc at') spos) (ts X.K G Er λP Z=>(Cs Z/\(gl Z).length<=1000/\∀q∈gl Z,Cb ((jN (none::cap) Z).set 0 (.fr q)))/\∀ns,ns=((gl Z).map λq=>gp ((jN (none::cap) Z).set 0 (.fr q)))->P.nx (Z.set i (.fr (.lst ns)))):=
 Rb (Rx hN hi' hx L hc (pi_list hi) hg (λ_ _ _=>p8) he hsw hs) λσ H Q h=>aaM h
theorem Kc (hN:X.N.Nodup)(hi':X.N[i]?=some x)(hx:X.env.scope.names.lookup x=some .local)(L:vC X N' sc cl (none::none::cap))(hc:X.calm=true)(hgl:Gl X "zip")(hm:X.mg "zip"=none)(h1:PE X l (tX X.K G Cs λZ=>.lst (gl Z)))(h2:PE X l2 (tX X.K G Cs' λZ=>.lst (hl Z)))(hg:∀s H fp,PG (jK X N' sc cl s H fp) (.Tuple els kk tp) (gTup X.K 2 (gCons (gName 0) (gCons (gName 1) gNil))))(he:∀s H fp,PE (jK X N' sc cl s H fp) el (tX X.K G Cb gp))
  (hsw:swapsWith (.ListComp el [⟨.Tuple els kk tp,.Call (.Name "zip" p) [l,l2] [] pos',[],0⟩] sc at') (some (.Name x px)) spos.line X.env=pure true) (hst:starEach [l,l2] X.env=(false,eval l X.env)::starEach [l2] X.env:=by rfl) (hst2:starEach [l2] X.env=[(false,eval l2 X.env)]:=by rfl) (hpl:(backTo pos' (starEach [l2] X.env)).any (·.1)=false:=by rfl) (hfs:∀x,foldedSetIterable (.Call (.Name "zip" p) [l,l2] [] pos') X.env x=pure x:=by intro _;rfl) :
  PS X (.Assign [.Name x px] (.ListComp el [⟨.Tuple els kk tp,.Call (.Name "zip" p) [l,l2] [] pos',[],0⟩] sc at') spos) (ts X.K G Er λP Z=>((Cs Z/\Cs' Z)/\(gl Z).length<=1000/\∀q r,(q,r)∈(gl Z).zip (hl Z)->Cb (((jN (none::none::cap) Z).set 0 (.fr q)).set 1 (.fr r)))/\∀ns,ns=(((gl Z).zip (hl Z)).map λp=>gp (((jN (none::none::cap) Z).set 0 (.fr p.1)).set 1 (.fr p.2)))->P.nx (Z.set i (.fr (.lst ns)))):=
 Rb (Rx hN hi' hx L hc (Ka hgl hm (pa_cons h1 (pa_cons h2 pa_nil hst2) hst) hst hpl) hg (λ_ _ _=>p8) he hsw hfs) λσ H Q h=>aaP h
theorem MP (L:vC X N' sc cl (none::none::cap))(hc:X.calm=true)(hgl:Gl X "enumerate")(hm:X.mg "enumerate"=none)(hi:PE X src (tX X.K G Cs λZ=>.lst (gl Z)))(hg:∀s H fp,PG (jK X N' sc cl s H fp) (.Tuple els kk tp) (gTup X.K 2 (gCons (gName 0) (gCons (gName 1) gNil))))(he:∀s H fp,PE (jK X N' sc cl s H fp) el (tX X.K G Cb gp))
  (hst:starEach [src] X.env=[(false,eval src X.env)]:=by rfl) (hfs:∀x,foldedSetIterable (.Call (.Name "enumerate" p) [src] [] pos') X.env x=pure x:=by intro _;rfl) :
  PE X (.ListComp el [⟨.Tuple els kk tp,.Call (.Name "enumerate" p) [src] [] pos',[],0⟩] sc at') (yU X.K G (λZ=>Cs Z/\(gl Z).length<=1000/\∀(i:Nat) (q:PV),(gl Z)[i]?=some q->Cb (((jN (none::none::cap) Z).set 0 (.fr (.int i))).set 1 (.fr q)))
   λZ=>(gl Z).mapIdx λi p=>gp (((jN (none::none::cap) Z).set 0 (.fr (.int i))).set 1 (.fr p))):=
 λpins s σ H Q I h=>yF L hc (G3 hgl hm (pa_cons hi pa_nil hst) hst) hg (λ_ _ _=>p8) he hfs pins s σ H Q I (abd h)
end
section
variable {K:Fg}{G:Gx}{σ:L2.St}{H:Hp}{Q:VK}{Cs Cs' Cb Ct:En->Prop}{pt:En->Prop}[∀Z,Decidable (pt Z)]{gp:En->PV}{cap:List (Option Nat)}{gl hl:En->List PV}
theorem YZ (h:yU K G (λZ=>(Cs Z/\Cs' Z)/\(gl Z).length<=1000/\∀q r,(q,r)∈(gl Z).zip (hl Z)->Ct (((jN (none::none::cap) Z).set 0 (.fr q)).set 1 (.fr r))/\(pt (((jN (none::none::cap) Z).set 0 (.fr q)).set 1 (.fr r))->Cb (((jN (none::none::cap) Z).set 0 (.fr q)).set 1 (.fr r))))
   (λZ=>(((gl Z).zip (hl Z)).filter λp=>decide (pt (((jN (none::none::cap) Z).set 0 (.fr p.1)).set 1 (.fr p.2)))).map λp=>gp (((jN (none::none::cap) Z).set 0 (.fr p.1)).set 1 (.fr p.2))) σ H Q) :
  Ut (none::none::cap) (V3 K (tCons (tX K G Cs λZ=>.lst (gl Z)) (tCons (tX K G Cs' λZ=>.lst (hl Z)) tNil))) (gTup K 2 (gCons (gName 0) (gCons (gName 1) gNil))) (vg K G Ct pt) (tX K G Cb gp) σ H Q:=by
 obtain⟨B,Z,O,R,⟨⟨c1,c1'⟩,c2,c3⟩,q⟩:=h;refine⟨B,Z,O,R,c1,λv H1 s1 a1=>⟨B,Z,O,R.grow s1,c1',λu H2 s2 a2=>?_⟩⟩;obtain⟨a,vs,rfl,hq,hal⟩:=a1;obtain⟨b,us,rfl,hq',hal'⟩:=a2;have hal:=lY.mono (lL (O:=O) s2) _ _ hal;have hq1:SqL K H2 a vs:=.inl (jC s2 (jC jT hq));have hq2:SqL K H2 b us:=.inl (jC jT hq');have el:=hal.length;have el':=hal'.length;refine⟨a,b,rfl,⟨_,hq1⟩,⟨_,hq2⟩,λD hD=>?_⟩;have hz:(List.range (min (gl Z).length (hl Z).length)).length=min (gl Z).length (hl Z).length:=ao;have at1:∀i,i<(List.range (min (gl Z).length (hl Z).length)).length->i<vs.length/\i<us.length:=λi h=>by rw[hz]at h;lia
 have hmem:∀i,i<min (gl Z).length (hl Z).length->((gl Z).getD i .non,(hl Z).getD i .non)∈(gl Z).zip (hl Z):=λi hi=>by rw[gQ,gQ,ac (show i<(gl Z).length by lia),ac (show i<(hl Z).length by lia)];refine ce.mpr ⟨i,by rw[dG];exact hi,?_⟩;rw[g7];rfl
 refine Hs (List.range (min (gl Z).length (hl Z).length)) (λi _=>((pK (none::none::cap) σ).set 0 (some (vs.getD i .non))).set 1 (some (us.getD i .non))) (λi=>((jN (none::none::cap) Z).set 0 (.fr ((gl Z).getD i .non))).set 1 (.fr ((hl Z).getD i .non))) (λ_=>.non) ((R.grow s1).grow s2) hD (by rw[hz];lia)
  (λi H hi s=>⟨_,_,vs[i]'(at1 i hi).1,us[i]'(at1 i hi).2,s.seq hq1,s.seq hq2,by rw[ac],by rw[ac]⟩) ?_ (λH s=>⟨_,_,s.seq hq1,s.seq hq2,by rw[hz];lia⟩) (λi H hi s R'=>?_) ?_ (λi hi=>(c3 _ _ (hmem i (a7.mp hi))).1) (λi hi=>(c3 _ _ (hmem i (a7.mp hi))).2) ?_
 ·rintro i k x H H' en s ⟨T,y,y',rfl,hT,rfl,hx,hx'⟩;have hx:=hx _ (s.seq hq1);have hx':=hx' _ (s.seq hq2);have hlt:i<min (gl Z).length (hl Z).length:=by have:=(aj.mp en).1;rw[hz]at this;exact this
  rw[cw hlt]at en;cases en;refine⟨same_new hT _,λkk hk=>⟨T,_,rfl,SqT.of upd_same,rfl,_,_,rfl,_,_,rfl,rfl,?_⟩⟩;rw[gQ,gQ,hx,hx']at hk;exact hk
 ·have hi:=a7.mp hi;exact(R'.set (At.mono (mY (O:=O) s hD) _ _ (wG hal (by lia)))).set (At.mono (mY (O:=O) s hD) _ _ (wG hal' (by lia)))
 ·intro i;exact ni _
 ·intro H' ys s hd al;refine q D ys H' ((s1.trans s2).trans s) ((s1.trans s2).free hD) hd ?_;have ez:(gl Z).zip (hl Z)=(List.range (min (gl Z).length (hl Z).length)).map λi=>((gl Z).getD i .non,(hl Z).getD i .non):=by rw[MK (λp r=>(p,r)) PV.non PV.non (gl Z) (hl Z)];simp
  have key:∀(l:List (PV×PV)) (r:List Nat) (f:Nat->PV×PV),l=r.map f->(l.filter λp=>decide (pt (((jN (none::none::cap) Z).set 0 (.fr p.1)).set 1 (.fr p.2)))).map (λp=>gp (((jN (none::none::cap) Z).set 0 (.fr p.1)).set 1 (.fr p.2)))=(r.filter λi=>decide (pt (((jN (none::none::cap) Z).set 0 (.fr (f i).1)).set 1 (.fr (f i).2)))).map λi=>gp (((jN (none::none::cap) Z).set 0 (.fr (f i).1)).set 1 (.fr (f i).2)):=λl r f hl=>by rw[hl,io,bE];rfl
  dsimp only;rw[key _ _ _ ez];exact al
end
section
variable {X:Cx}{G:Gx}{Er:ER}{N':List Str}{sc:Scope}{cl:List (Str×Addr)}{cap:List (Option Nat)}{el tg src tst l l2:Expr}{at' spos px p pos':Pos}{Cs Cs' Ct Cb:En->Prop}{pt:En->Prop}[∀Z,Decidable (pt Z)]{gp:En->PV}{gl hl:En->List PV}{i:Nat}{x:Str}
theorem Uu (L:vC X N' sc cl (none::none::cap))(hc:X.calm=true)(hgl:Gl X "zip")(hm:X.mg "zip"=none)(h1:PE X l (tX X.K G Cs λZ=>.lst (gl Z)))(h2:PE X l2 (tX X.K G Cs' λZ=>.lst (hl Z)))(hg:∀s H fp,PG (jK X N' sc cl s H fp) (.Tuple els kk tp) (gTup X.K 2 (gCons (gName 0) (gCons (gName 1) gNil))))(ht:∀s H fp,PT (jK X N' sc cl s H fp) tst (vg X.K G Ct pt))(he:∀s H fp,PE (jK X N' sc cl s H fp) el (tX X.K G Cb gp))
  (hst:starEach [l,l2] X.env=(false,eval l X.env)::starEach [l2] X.env:=by rfl) (hst2:starEach [l2] X.env=[(false,eval l2 X.env)]:=by rfl) (hpl:(backTo pos' (starEach [l2] X.env)).any (·.1)=false:=by rfl) (hfs:∀x,foldedSetIterable (.Call (.Name "zip" p) [l,l2] [] pos') X.env x=pure x:=by intro _;rfl) :
  PE X (.ListComp el [⟨.Tuple els kk tp,.Call (.Name "zip" p) [l,l2] [] pos',[tst],0⟩] sc at') (yU X.K G (λZ=>(Cs Z/\Cs' Z)/\(gl Z).length<=1000/\∀q r,(q,r)∈(gl Z).zip (hl Z)->Ct (((jN (none::none::cap) Z).set 0 (.fr q)).set 1 (.fr r))/\(pt (((jN (none::none::cap) Z).set 0 (.fr q)).set 1 (.fr r))->Cb (((jN (none::none::cap) Z).set 0 (.fr q)).set 1 (.fr r))))
   λZ=>(((gl Z).zip (hl Z)).filter λp=>decide (pt (((jN (none::none::cap) Z).set 0 (.fr p.1)).set 1 (.fr p.2)))).map λp=>gp (((jN (none::none::cap) Z).set 0 (.fr p.1)).set 1 (.fr p.2))):=
 λpins s σ H Q I h=>yF L hc (Ka hgl hm (pa_cons h1 (pa_cons h2 pa_nil hst2) hst) hst hpl) hg (λs H fp=>Oo (ht s H fp)) he hfs pins s σ H Q I (YZ h)
end
def lH:PV->List Int
 | .ints l=>l
 |_=>[]
def Yi (ps:List PV):List (List Int):=ps.map lH
theorem Qj (t:List (List Int)):Yi (t.map PV.ints)=t:=by unfold Yi;rw[bE];exact(b7 λ_ _=>rfl).trans (List.map_id t)
def KWR (cW cR:Addr)(H:Hp)(a:Addr)(z:Int):Prop:=KW cW H a z\/KR cR H a z
end L3
namespace L2
theorem wF {α β:Type}{f:α->β}{l m:List β}(h:l.Perm m):∀{L:List α},L.map f=m->∃L':List α,L'.Perm L/\L'.map f=l:=by
 induction h with
 |nil=>intro L e;have:L=[]:=List.map_eq_nil_iff.mp e;subst this;exact⟨[],.nil,rfl⟩
 |cons x _ ih=>intro L e;obtain⟨a,r,rfl,rfl,e2⟩:=fR.mp e;obtain⟨L',p,q⟩:=ih e2;exact⟨a::L',.cons a p,by rw[bM,q]⟩
 |swap x y l=>intro L e;obtain⟨a,r1,rfl,rfl,e2⟩:=fR.mp e;obtain⟨b,r,rfl,rfl,rfl⟩:=fR.mp e2;exact⟨b::a::r,.swap a b r,rfl⟩
 |trans _ _ ih1 ih2=>intro L e;obtain⟨L1,p1,q1⟩:=ih2 e;obtain⟨L2,p2,q2⟩:=ih1 q1;exact⟨L2,p2.trans p1,q2⟩
theorem Js {α:Type}(k:α->Int):∀{a b:List α},a.Perm b->a.Pairwise (λx y=>k x<=k y)->b.Pairwise (λx y=>k x<=k y)->(b.map k).Nodup->a=b
 |[],b,p,_,_,_=>(List.Perm.nil_eq p)
 |x::a,[],p,_,_,_=>absurd p.length_eq (by simp)
 |x::a,y::b,p,sa,sb,nd=>by
  rw[bY]at sa sb;rw[bM,cX]at nd;have e:x=y:=by
   have h1:x∈y::b:=p.mem_iff.mp af;have h2:y∈x::a:=p.mem_iff.mpr af;rcases aC.mp h1 with h1|h1
   ·exact h1
   rcases aC.mp h2 with h2|h2
   ·exact h2.symm
   have k1:=sb.1 x h1;have k2:=sa.1 y h2;have ke:k y=k x:=Int.le_antisymm k1 k2;exact absurd (aX.mpr ⟨x,h1,ke.symm⟩) nd.1
  subst e;rw[Js k (List.Perm.cons_inv p) sa.2 sb.2 nd.2]
section
variable {X:Cx}{pins:List (Addr×Obj)}{σ:St}{H:Hp}{s:Shared}
theorem yI:∀{l m:Lv},TriplesOk l->TriplesOk m->TriplesOk (l++m)
 |[],_,_,h=>h
 | .int _ _ :: .int _ _::_::rest,m,h1,h2=>by exact yI (l:=rest) h1 h2
theorem Do:∀{l:Lv},TriplesOk l->codeAmong pos (l++m)=some cv->codeAmong pos l=some cv\/codeAmong pos m=some cv
 |[],_,h=>.inr h
 | .int line t :: .int col u::c::rest,ht,h=>by
  have h:(if line == pos.line && col == pos.col then some c else codeAmong pos (rest++m))=some cv:=h;show(if line == pos.line && col == pos.col then some c else codeAmong pos rest)=some cv\/_;split at h
  ·rename_i g;rw[ah g];exact .inl h
  ·rename_i g;rw[ag g];exact Do (l:=rest) ht h
theorem Inv.grown {P c':Addr}{t:yK}{oc:Obj}{more:Array Value}{h':Heap}{tk:Nat}(I:Inv X pins σ H s)(e:H P=some (.tbl t))(hx:∀b o,b≠P->s.heap.get? b=some o->h'.get? b=some o)(hge:s.heap.objs.size<=c')
  (hc:h'.get? c'=some oc) (hq:Ao oc t.q) (hP:h'.get? P=some (W.tabObj (t.ps++more))) (ht:TriplesOk more.toList) (hm:∀p cv,codeAmong p more.toList=some cv->cv=.ref c') :
  Inv X pins σ (upd (upd H c' (.frz oc (.ext λ_=>True))) P (.tbl (t++more))) { s with heap:=h',toks:=tk }:=by
 have fr:H c'=none:=I.hok.fresh hge;have hcP:c'≠P:=λz=>by rw[z,e]at fr;cases fr
 have old:∀b u,H b=some u->b≠c':=λb u q z=>by rw[z,fr]at q;cases q
 have nP:∀b,H b=none->b≠P:=λb q z=>by rw[z,e]at q;cases q
 refine I.un ⟨λb o q n _ _=>hx b o (nP b n) q,λb o q n _ _=>⟨o.slots,hx b o (nP b n) q⟩,λb o q n _=>?_,λb o q _=>?_,λb xs q=>?_,λb o u q=>?_,λb ps q=>?_⟩ λb u q=>?_
 ·rw[upd_ne (nP b n),upd_ne (be (aD (aA q) hge))];exact n
 ·by_cases z:b=P
  ·subst z;exact⟨_,hP⟩
  ·exact⟨o,hx b o z q⟩
 ·rw[upd_ne (λz=>by rw[z,e]at q;cases q),upd_ne (old b _ q)];exact q
 ·rw[upd_ne (λz=>by rw[z,e]at q;cases q),upd_ne (old b _ q)];exact q
 ·by_cases z:b=P
  ·subst z;rw[e]at q;cases q;exact⟨more,upd_same⟩
  ·exact⟨#[],by rw[upd_ne z,upd_ne (old b _ q),q];simp⟩
 ·have frz2:∀c o u,H c=some (.frz o u)->(upd (upd H c' (.frz oc (.ext λ_=>True))) P (.tbl (t++more))) c=some (.frz o u):=λc o u q=>by rw[upd_ne (λz=>by rw[z,e]at q;cases q),upd_ne (old c _ q)];exact q
  by_cases z:b=P
  ·subst z;rw[upd_same]at q;cases q;obtain⟨e1,e2,e3⟩:=I.hok b _ e;refine⟨hP,?_,λp cv hcm=>?_⟩
   ·show TriplesOk (t.ps++more).toList;rw[iR];exact yI e2 ht
   ·have hcm:codeAmong p (t.ps++more).toList=some cv:=hcm;rw[iR]at hcm;rcases Do e2 hcm with hcm|hcm
    ·obtain⟨c,o1,u1,y,q1,q2⟩:=e3 p cv hcm;exact⟨c,o1,u1,y,frz2 c o1 u1 q1,q2⟩
    ·exact⟨c',oc,_,hm p cv hcm,by rw[upd_ne hcP,upd_same],hq⟩
  ·rw[upd_ne z]at q;by_cases y:b=c'
   ·subst y;rw[upd_same]at q;cases q;exact⟨hc,tJ,⟨_,hc⟩,λ_ _ h _=>h⟩
   ·rw[upd_ne y]at q;have up:∀c o,H c=some o->c≠P->(upd (upd H c' (.frz oc (.ext λ_=>True))) P (.tbl (t++more))) c=some o:=λc o q n=>by rw[upd_ne n,upd_ne (old c _ q)];exact q
    refine(I.hok b u q).stay (λc v hcb r=>hx c v ?_ r) (λc r=>up c _ r λw=>by rw[w,e]at r;cases r) (λc xs r=>up c _ r λw=>by rw[w,e]at r;cases r) λc o u r=>frz2 c o u r;rcases hcb with rfl|hcb
    ·exact z
    ·exact λw=>by rw[w,e]at hcb;cases hcb
theorem Ao.rec {h:Heap}{c:Addr}{oc:Obj}{q:Str}(e:h.get? c=some oc)(k:Ao oc q):h.CodeRec (.ref c) q:=let ⟨vs,t,a,b⟩:=k;⟨c,oc,vs,t,rfl,e,a,b⟩
theorem Ie (I:Inv X pins σ H s)(hcode:X.env.code=.ref c)(hx:(c,P,q)∈n8 X.K)(hq:X.env.qual++"<lambda>"=q)
  (hdef:defaultsOf params X.env=([],[])) (hcl:closureFor scope X.env=pure [])
  (Q:Value->Shared->Prop)
  (h:∀f c' ctv H' s',Inv X pins σ H' s' -> (∀b o,H b=some o->(∀t,o ≠ .tbl t)->H' b=some o)->(∀b t,H b=some (.tbl t)->∃ps,H' b=some (.tbl ⟨t.q,ps⟩))->s'.heap.get? f=some (W.kla_obj "<lambda>" q params body scope [] ((X.mg "__name__").getD .none) c' ctv)->H' f=none ->
   (∃oc u,H' c'=some (.frz oc u)/\Ao oc q)->s'.os=s.os->s.heap.objs.size<=f->Q (.ref f) s') :
  wpAny (model X.prog X.w) X.A (eval (.Lambda params body scope posL) X.env) Q E s:=by
 obtain⟨ps0,e0⟩:=I.ok.frf.t _ hx;obtain⟨m1,e1⟩:=I.base.tbls _ _ e0;have e1:H P=some (.tbl ⟨q,ps0++m1⟩):=e1;generalize ps0++m1=ps at e1;obtain⟨hP,ht,hr⟩:=I.hok P _ e1;have C:W.CodeHd s.heap c P:=iN I.kIn (Dj hx);have hg:s.heap.Ns mainGlobals X.mg:=I.mod.glob.keeps I.bk;have nob:∀b o,X.base.get? b=some o->b≠P:=λb o e z=>by have:=(I.bs b o e).2;rw[z,e1]at this;cases this
 have hgP:mainGlobals≠P:=by obtain⟨o,es,ep,e,_⟩:=I.mod.glob;exact nob _ _ e
 obtain⟨bm,ob,b1,b2,b3,b4,b5,b6⟩:=I.mod.bm;have hbG:bm≠mainGlobals:=λz=>by obtain⟨o,es,ep,e,hd,_⟩:=I.mod.glob;rw[z,e]at b3;cases b3;rw[hd]at b6;cases b6
 have hb:s.heap.BuiltinsAt X.mg P:=⟨bm,ob,b1,b2,hbG,nob _ _ b3,I.bk _ _ b3,b4,b5,b6⟩;refine W.kla_eval hdef ?_;rw[hq];cases hf:codeAmong posL ps.toList with
 |none=>
  refine W.kla_makeFunction (mg:=X.mg) hcl I.ok.glob hg hcode C hP ht hf hgP hb λc' ctv h' tk hx' hge hlt hrec htb=>?_;obtain⟨c2,oc,vs,t,ec,hoc,hd,hv⟩:=hrec;cases ec;have I2:=I.grown (c':=c') (oc:=oc) (more:=#[rawInt posL.line,rawInt posL.col,.ref c']) (h':=h') (tk:=tk) e1 (λb o n e=>hx' b o n e) hge hoc ⟨vs,t,hd,hv⟩ htb trivial (λp cv hc=>by
   have hc:(if (posL.line:Int) == p.line && (posL.col:Int) == p.col then some (Value.ref c') else none)=some cv:=hc;split at hc
   ·exact(aI hc).symm
   ·cases hc)
  have I3:=I2.kept (h':=h'.push (W.kla_obj "<lambda>" q params body scope [] ((X.mg "__name__").getD .none) c' ctv)) (t':=tk) λb u e=>ay _ e;have fr:H c'=none:=I.hok.fresh hge;have old:∀b u,H b=some u->b≠c':=λb u q z=>by rw[z,fr]at q;cases q
  have hcP:c'≠P:=λz=>by rw[z,e1]at fr;cases fr
  refine h h'.objs.size c' ctv _ _ I3 (λb o q n=>?_) (λb t q=>?_) (bi _ rfl) (I2.hok.fresh (aq _)) ⟨oc,_,by rw[upd_ne hcP,upd_same],vs,t,hd,hv⟩ rfl (aJ hge (bX (aA hoc)))
  ·rw[upd_ne (λz=>by rw[z,e1]at q;cases q;exact n _ rfl),upd_ne (old b _ q)];exact q
  ·by_cases z:b=P
   ·subst z;rw[e1]at q;cases q;exact⟨_,upd_same⟩
   ·exact⟨t.ps,by rw[upd_ne z,upd_ne (old b _ q),q]⟩
 |some cv=>obtain⟨c',oc,u,rfl,g1,g2⟩:=hr posL cv hf;refine W.kla_makeFunctionHit (mg:=X.mg) hcl I.ok.glob hg hcode C hP ht hf hb λctv h' tk hk hsz=>?_;have I3:=I.kept (h':=h'.push (W.kla_obj "<lambda>" q params body scope [] ((X.mg "__name__").getD .none) c' ctv)) (t':=tk) λb u e=>ay _ (hk b u e);exact h h'.objs.size c' ctv _ _ I3 (λb o q _=>q) (λb t q=>⟨t.ps,q⟩) (bi _ rfl) (I.hok.fresh hsz) ⟨oc,u,g1,g2⟩ rfl hsz
end
theorem xu:bootBuiltins "sorted"=some (.builtin "sorted"):=by decide +kernel
theorem Z4 {h:Heap}{a:Addr}{m m':Mg}(x:h.Ns a m)(y:h.Ns a m'):m=m':=by obtain⟨o,es,ep,e,d,_,k⟩:=x;obtain⟨o',es',ep',e',d',_,k'⟩:=y;rw[e]at e';cases e';rw[d]at d';injection d' with d1 _;subst d1;funext n;rw[<- k n,<- k' n]
section
variable {prog:Program}{w:World}{A:Around}{s:Shared}{Q:Value->Shared->Prop}{E:Value->Shared->Prop}
theorem Qf {f c' t:Addr}{its:Lv}{wv pm ctv:Value}{y q:Str}{params:Arguments}{scope:Scope}{p1 p2 p3:Pos}{j:Nat}
  (ho:s.heap.get? f=some (W.kla_obj "<lambda>" q params (.Subscript (.Name y p1) (.Constant (.int 1) j p2) p3) scope [] pm c' ctv)) (hcd:s.heap.CodeRec (.ref c') q) (hroom:A.depth<recursionLimit) (hlim:s.heap.NoLimit)
  (hbind:bindArgs (W.kla_fn "<lambda>" q params (.Subscript (.Name y p1) (.Constant (.int 1) j p2) p3) scope [] pm (.ref c') ctv) ⟨[.ref t],[]⟩=pure [(y,.ref t)])
  (hloc:scope.names.lookup y=some .local) (hnc:∀z∈scope.names,z.2 ≠ .cell) (hk:scope.kind=.function) (hco:scope.isCoroutine=false) (hgen:scope.isGenerator=false) (hyd:(y == ("__debug__":Str))=false)
  (tup:IsTup s.heap t its.toArray) (hi:its[1]?=some wv)
  (h:∀h' tk,(∀b o,s.heap.get? b=some o->h'.get? b=some o)->Q wv { s with heap:=h',toks:=tk }) :
  wpAny (model prog w) A (call (.ref f) [.ref t]) Q E s:=by
 refine fU (iB hroom ho rfl hco hgen rfl hcd ?_);rw[hbind];refine bI (fP hnc (λz hz=>?_) (λh₁ hns hsb=>⟨hlim.fresh _ hsb,?_⟩) hk)
 ·rw[bv.mp hz];exact hloc
 have hk₁:∀b o,s.heap.get? b=some o->h₁.get? b=some o:=λb o e=>hsb.extBut b o (be (aA e)) (ay _ e);refine iC ?_;have tup1:IsTup h₁ t its.toArray:=by obtain⟨o,e,r⟩:=tup;exact⟨o,hk₁ _ _ e,r⟩
 have len:1<its.length:=(aj.mp hi).1;refine Subscript_ (iz (eH hk hloc hns (v:=.ref t) ?_ ?_) hyd)
 ·simp
 refine gr ?_;refine dP (x:=wv) tup1.typeIs slot_tuple_getitem.lookup (getItem_tuple (j:=1) (Q:=λr s'=>r=wv/\_) tup1 (by decide) (by decide) ?_ (by simpa using hi) ⟨rfl,?_⟩) rfl
 ·rw[aw];unfold seqIndex?;have:(1:Int)<(its.length:Int):=by lia
  simp[this]
 ·exact h _ _ hk₁
end
end L2
namespace L3
open L2
def qz:PV->Int
 | .tup [_,.int k]=>k
 |_=>0
open Classical in
def uX (ps:List PV):List PV:=if h:∃l:List PV,l.Perm ps/\l.Pairwise (λa b=>qz a<=qz b) then h.choose else[]
theorem I8 (p:l.Perm ps)(o:l.Pairwise λa b=>qz a<=qz b)(nd:(ps.map qz).Nodup):uX ps=l:=by have h:∃l:List PV,l.Perm ps/\l.Pairwise (λa b=>qz a<=qz b):=⟨l,p,o⟩;unfold uX;rw[i9 h];have s:=h.choose_spec;exact Js qz (s.1.trans p.symm) s.2 o ((p.map qz).nodup_iff.mpr nd)
structure LR (ps:List PV):Prop where
 len:ps.length<64
 two:∀p∈ps,∃x,p=.tup [x,.int (qz p)]
 nd:(ps.map qz).Nodup
theorem aal {α β γ δ:Type}(f:α->δ):∀(a:List α) (b:List β) (c:List γ),a.length=b.length->b.length=c.length->((a.zip (b.zip c)).map λt=>(f t.1,t.2.2))=(a.map f).zip c/\(a.zip (b.zip c)).map (λt=>t.1)=a
 |[],_,_,_,_=>⟨rfl,rfl⟩
 |x::a,[],_,h,_=>absurd h (by simp)
 |x::a,y::b,[],_,h=>absurd h (by simp)
 |x::a,y::b,z::c,h,k=>by
  obtain⟨e1,e2⟩:=aal f a b c (by simpa using h) (by simpa using k);refine⟨?_,?_⟩
  ·rw[dz,dz,bM,e1,bM,dz]
  ·rw[dz,dz,bM,e2]
section
variable {K:Fg}{G:Gx}{H:Hp}
theorem Q5:∀{ps:List PV} {xs:List V} {its:Lv},lY K G H ps xs->Vals xs its->∀t∈ps.zip (xs.zip its),At K G H t.1 t.2.1/\RelV t.2.1 t.2.2
 |[],_,_,_,_,t,ht=>by simp at ht
 |p::ps,_,_,h,r,t,ht=>by
  obtain⟨v,vs,rfl,q,al⟩:=h;cases r with
  |cons r0 r1=>
   rcases aC.mp ht with rfl|ht
   ·exact⟨q,r0⟩
   ·exact Q5 al r1 t ht
theorem Ng:∀{T:List (PV×V×Value)},(∀t∈T,At K G H t.1 t.2.1)->lY K G H (T.map λt=>t.1) (T.map λt=>t.2.1)
 |[],_=>rfl
 |t::T,h=>⟨_,_,rfl,h t af,Ng λx hx=>h x (ae _ hx)⟩
theorem Hy:∀{T:List (PV×V×Value)},(∀t∈T,RelV t.2.1 t.2.2)->Vals (T.map λt=>t.2.1) (T.map λt=>t.2.2)
 |[],_=>.nil
 |t::T,h=>.cons (h t af) (Hy λx hx=>h x (ae _ hx))
end
def O5 (K:Fg)(cd:Value)(q:Str):Prop:=∃c P,cd=.ref c/\(c,P,q)∈n8 K
section
variable {X:Cx}{G:Gx}{a:Expr}{pos p kp posL p1 p2 p3:Pos}{Ca:En->Prop}{ga:En->PV}{k j:Nat}{y:Str}{params:Arguments}{scope:Scope}
theorem QQ (hl:O5 X.K X.env.code (X.env.qual++"<lambda>"))(hr:Room k X.A)(hm:X.mg "sorted"=none)(ha:PE X a (tX X.K G Ca ga))(hg:Gl X "sorted":=by rfl)(he:starEach [a] X.env=[(false,eval a X.env)]:=by rfl)
  (hdef:defaultsOf params X.env=([],[]):=by rfl) (hcl:closureFor scope X.env=pure []:=by rfl)
  (hbind:∀(pm ctv:Value) (c' t:Addr),bindArgs (W.kla_fn "<lambda>" (X.env.qual++"<lambda>") params (.Subscript (.Name y p1) (.Constant (.int 1) j p2) p3) scope [] pm (.ref c') ctv) ⟨[.ref t],[]⟩=pure [(y,.ref t)]:=by intros;rfl)
  (hloc:scope.names.lookup y=some .local:=by rfl) (hnc:∀z∈scope.names,z.2 ≠ .cell:=by decide) (hk:scope.kind=.function:=by rfl) (hco:scope.isCoroutine=false:=by rfl) (hgen:scope.isGenerator=false:=by rfl) (hyd:(y == ("__debug__":Str))=false:=by decide) :
  PE X (.Call (.Name "sorted" p) [a] [⟨some "key",.Lambda params (.Subscript (.Name y p1) (.Constant (.int 1) j p2) p3) scope posL,kp⟩] pos) (yU X.K G (λZ=>Ca Z/\ga Z=.lst (rG (ga Z))/\LR (rG (ga Z))) λZ=>uX (rG (ga Z))):=by
 intro pins s σ H Q I ⟨B,Z,O,R,c,q⟩;refine cJ (ld_blt I hg hm xu ?_ (by decide) (by decide));refine fg (thn (pa_cons ha pa_nil he pos pins s σ H (λvs H'=>∃l xs,vs=[.ref l]/\Same H H'/\Rd (mn H' O) l (.lst xs)/\lY X.K G (mn H' O) (rG (ga Z)) xs) I ⟨B,Z,O,R,c.1,λv H1 s1 a1=>?_⟩) λus t1 h=>?_) (by rw[he];rfl) (by rw[he];rfl)
 ·rw[c.2.1]at a1;obtain⟨l,xs,rfl,r1,al⟩:=a1;exact⟨l,xs,rfl,s1,r1,al⟩
 obtain⟨vs,H1,I1,rv,l,xs,rfl,s1,rd,al⟩:=h;obtain⟨u,rfl,ru⟩:=vals1 rv;cases ru;obtain⟨cc,P,hcode,hx⟩:=hl;obtain⟨_,_,PO⟩:=c;have q:∀(a:Addr) (vs:List V) (H':Hp),Same H H' -> H a=none->H' a=some (HO.lst vs)->lY X.K G (mn H' (hide a O)) (uX (rG (ga Z))) vs->Q (V.ref a) H':=q;generalize rG (ga Z)=ps at *
 refine kws_cons (Ie I1 hcode hx rfl hdef hcl _ λf c' ctv H2 t2 I2 kp2 tb2 hf fn fz os _=>kws_nil ?_);have s2:Same H1 H2:=λb o e=>by cases o<;>first|exact kp2 b _ e (λt z=>by cases z)|(obtain⟨ps',z⟩:=tb2 b _ e;exact⟨ps',z⟩)
 obtain⟨_,its,n,r,hlen,e⟩:=L3.Inv.Ld I2 (jC (jT.trans s2) rd);have al2:=lY.mono (lL s2) _ _ al;have lps:ps.length=xs.length:=al2.length;obtain⟨m,F⟩:=I2.fr;have N:=news_all (g:=X.base) (h:=t2.heap) (L:=X.env.locals);have hfL:f≠X.env.locals:=λz=>by obtain⟨m',⟨o,es,ep,ho,hd,_⟩,_⟩:=I2.loc;rw[<- z,hf]at ho;cases ho;cases hd
 have kept:∀{h:Heap} {own:List (Addr×Obj)},Fr X.base X.env.locals h m->News X.base X.env.locals h (allNews X.base t2.heap X.env.locals++own)->∀b o,b≠X.env.locals->t2.heap.get? b=some o->h.get? b=some o:=λ{h own} F' N' b o hb eb=>by
  cases z:X.base.get? b with
  |some u=>have:=I2.bk b u z;rw[eb]at this;cases this;exact F'.keep b _ z
  |none=>exact(N' (b,o) (b9 _ (mem_allNews hb z eb))).1
 have tr:∀b u,H2 b=some u->b≠X.env.locals:=λb u z w=>by rw[w,I2.free]at z;cases z
 obtain⟨oc,fu,fz1,fz2⟩:=fz;have hoc:=(I2.hok c' _ fz1).1;refine PyProof.Rows.ksk_sorted (b:=false) (kz:=ps.map qz) (f:=.ref f) F N (vs:=its) ⟨_,e,rfl,n,rfl⟩ (by rw[aa,lps,hlen]) (by rw[<- hlen,<- lps];exact PO.len) (PyProof.Rows.ksk_s1 _ _) (λx=>PyProof.Rows.ksk_l1 _ _) (λx=>PyProof.Rows.ksk_t1 _ _) (λi v kk hv hkk h tk own F' N'=>?_) (λD h' tk out cz F' N' lt ko=>?_)
 ·rw[az]at hkk;cases hp:ps[i]? with
  |none=>rw[hp]at hkk;cases hkk
  |some pp=>
   rw[hp]at hkk;cases hkk;obtain⟨xv,hxv,at1⟩:=al2.at hp;obtain⟨v',hv',rl⟩:=r.get hxv;rw[hv]at hv';cases hv';obtain⟨x,ex⟩:=PO.two pp (bQ hp);rw[ex]at at1;obtain⟨t,us,rfl,ht,ux,ur,rfl,_,ui,un,rfl,hui,hun⟩:=at1;cases rl;subst hun hui;have ht2:H2 t=some (.tup [ux,.int (qz pp)]):=(rW ht).2;obtain⟨_,its2,r2,tup⟩:=I2.hok t _ ht2;cases r2 with
   |cons q0 q1=>
    cases q1 with
    |cons q2 q3=>cases q3;obtain⟨tok,rfl⟩:=q2;obtain⟨o,eo,ro⟩:=tup;have tup':IsTup h t _:=⟨o,kept F' N' _ _ (tr t _ ht2) eo,ro⟩;refine Qf (s:={ t2 with heap:=h,toks:=tk }) (kept F' N' _ _ hfL hf) (Ao.rec (kept F' N' _ _ (tr c' _ fz1) hoc) fz2) hr.depth (I2.ok.mod.nolimit.keeps F'.keep) (hbind _ _ _ _) hloc hnc hk hco hgen hyd tup' rfl λh'' tk' kk=>?_;exact⟨h'',tk',tok,rfl,rfl,F'.kept kk,λp hp=>⟨kk _ _ (N' p hp).1,(N' p hp).2⟩⟩
 ·have keptD:∀b o,b≠X.env.locals->t2.heap.get? b=some o->h'.get? b=some o:=λb o hb eb=>by
   cases z:X.base.get? b with
   |some u=>have:=I2.bk b u z;rw[eb]at this;cases this;exact F'.keep b _ z
   |none=>exact(N' (b,o) (ae _ (mem_allNews hb z eb))).1
  obtain⟨hD,DL,Db⟩:=N' (D,_) af;have Dn:t2.heap.get? D=none:=by
   cases z:t2.heap.get? D with
   |none=>rfl
   |some o=>exact absurd (lt (D,o) (mem_allNews DL Db z)) (c7 _)
  have HD:H2 D=none:=by
   cases z:H2 D with
   |none=>rfl
   |some u=>obtain⟨o,eo⟩:=ObjOk.get (I2.hok D u z);rw[Dn]at eo;cases eo
  obtain⟨pz,hperm,hout,hord⟩:=ko;obtain⟨z1,z2⟩:=aal qz ps xs its lps hlen;rw[<- z1]at hperm;obtain⟨T,tp,te⟩:=wF hperm rfl;have mem:=Q5 al2 r;have eps:T.map (λt=>t.1)=uX ps:=by
   refine(I8 ?_ ?_ PO.nd).symm
   ·have:=tp.map λt=>t.1;rw[z2]at this;exact this
   ·rw[<- te]at hord;rw[cT]at hord ⊢;exact hord
  have eout:out.toList=T.map λt=>t.2.2:=by rw[hout,<- te,bE];rfl
  have rv:Vals (T.map λt=>t.2.1) out.toList:=by rw[eout];exact Hy λt ht=>(mem t (tp.mem_iff.mp ht)).2
  have alT:lY X.K G (mn H2 O) (uX ps) (T.map λt=>t.2.1):=by rw[<- eps];exact Ng λt ht=>(mem t (tp.mem_iff.mp ht)).1
  have lT:(T.map λt=>t.2.1).length<=sizeLine:=by rw[aa,tp.length_eq,dG,dG];have h1:=PO.len;exact bX (small1000 (by lia))
  have hobj:h'.get? D=some { cls:=.type "list",data:=.seq out.toList.toArray cz }:=by
   rw[hD]
   all_goals simp[seqObj]
  have I3:Inv X pins σ (upd H2 D (.lst (T.map λt=>t.2.1))) { t2 with heap:=h',gens:=t2.gens,drawn:=t2.drawn,toks:=tk }:=by
   refine I2.step (ch:=[]) (λb hb=>absurd hb (by simp)) (λb o hb _ _ eo _=>keptD b o hb eo) (λb o hb _ _ eo _=>⟨o.slots,keptD b o hb eo⟩) (λb o _ eo no=>?_) (λb o _ eo=>?_) (λb xs z=>?_) (λb o u z=>?_) (λb ps z=>⟨#[],?_⟩) (λm0 hm0=>?_) (λb u z=>?_) I2.bare
   ·rw[upd_ne (λw=>by rw[w,Dn]at eo;cases eo)];exact no
   ·by_cases w:b=X.env.locals
    ·obtain⟨o',es,ep,ho,_⟩:=F'.ns;rw[w];exact⟨o',ho⟩
    ·exact⟨o,keptD b o w eo⟩
   ·rw[upd_ne (ne_of_none z HD)];exact z
   ·rw[upd_ne (ne_of_none z HD)];exact z
   ·rw[upd_ne (ne_of_none z HD),z];simp
   ·have:=Z4 hm0 F.ns;subst this;exact F'.ns
   ·by_cases w:b=D
    ·subst w;rw[upd_same]at z;cases z;exact⟨lT,out.toList,cz,rv,hobj⟩
    ·rw[upd_ne w]at z;refine(I2.hok b u z).stay (λc v hcb rr=>keptD c v ?_ rr) (λc rr=>by rw[upd_ne (ne_of_none rr HD)];exact rr) (λc _ rr=>by rw[upd_ne (ne_of_none rr HD)];exact rr) λc _ _ rr=>by rw[upd_ne (ne_of_none rr HD)];exact rr
     rcases hcb with rfl|hcb
     ·exact tr c _ z
     ·exact tr c _ hcb
  have sD:Same H2 (upd H2 D (.lst (T.map λt=>t.2.1))):=same_new HD _;exact⟨.ref D,_,I3,rfl,q D _ _ ((s1.trans s2).trans sD) ((s1.trans s2).free HD) upd_same (lY.mono (mY sD HD) _ _ alT)⟩
end
def GD (K:Fg)(mg:Mg)(x:Str):Prop:=∃f oc od fd sl,mg x=some (.ref f)/\K.lookup f=some ⟨oc,od,.func fd,sl⟩/\O5 K fd.code (x++".<locals>."++"<lambda>")
def Ke (K:Fg)(cd:Value)(q:Str):Bool:=match cd with
 | .ref c=>(n8 K).any λx=>x.1 == c && x.2.2 == q
 |_=>false
theorem O6 {K:Fg}{cd:Value}{q:Str}(h:Ke K cd q=true):O5 K cd q:=by
 unfold Ke at h;split at h
 ·rename_i c;obtain⟨x,hx,e⟩:=List.any_eq_true.mp h;rw[g6,i8,i8]at e;obtain⟨a,b,d⟩:=x;obtain⟨e1,e2⟩:=e;subst e1 e2;exact⟨a,b,rfl,hx⟩
 ·cases h
def Yr (K:Fg)(ts:List Addr):Bool:=(n8 K).all λx=>(ts.contains x.2.1 && (K.lookup x.2.1).isNone) && (n8 K).all λy=>x.2.1 != y.2.1 || x.2.2 == y.2.2
theorem S7 {K:Fg}{h:Heap}{ts:List Addr}(e:Yr K ts=true)(t:∀P∈ts,h.get? P=some (W.tabObj #[])):Ju K h:=by
 have a:=λx hx=>eE.mp (dO.mp e x hx);refine⟨λx hx=>t _ ?_,λx hx=>?_,λx hx y hy z=>?_⟩
 ·exact List.contains_iff_mem.mp (eE.mp (a x hx).1).1
 ·exact Option.isNone_iff_eq_none.mp (eE.mp (a x hx).1).2
 ·have:=dO.mp (a x hx).2 y hy;rw[Bool.or_eq_true,bne_iff_ne,i8]at this;exact this.resolve_left λn=>n z
section
variable {P:Program}{w:World}{K:Fg}{mg:Mg}{base:Heap}{G:Gx}
theorem aaN {x:Str}{st:Stmt}{N ps:Ls}{k:Nat}{pre:List PV->Prop}{F:List PV->PV}(d:nY K mg x st ps)(S:FnScope N ps (defScope st))(LD:GD K mg x)(len:∀as,pre as->as.length=ps.length)
  (hbody:∀(f:Addr) (cdv:Value) (A:Around) (outer:List Env) (s:Shared) (H:Hp) (E:XK),Room k (A.deeper (envOfC x (defScope st) s.heap.objs.size f cdv))->O5 K cdv (x++".<locals>."++"<lambda>") ->
   ∃fs,PSs (cxOf CX0 P w K mg base N x (defScope st) f cdv A outer s H E).nox (defBody st) (ts K G ER0 fs)/\∀as,pre as->fs { nx:=λ_=>F as=.non,rt:=λp=>p=F as,rl:=λns=>F as=.ints ns } (nG N as)):Ok P w K mg base (k+1) x ps (ym K G pre F):=by
 obtain⟨f,fd,FF,b,m⟩:=d.ex;refine⟨f,fd,?_,b,FF.kp,m⟩;obtain⟨oc,od,kV,doc,pm,an,cdv,ct,osl,rfl,lk,hcd⟩:=FF.ex;have hl:O5 K cdv (x++".<locals>."++"<lambda>"):=by obtain⟨f',oc',od',fd',sl',m',lk',hl⟩:=LD;rw[m]at m';cases m';rw[lk]at lk';cases lk';exact hl
 refine fn_of lk hcd S (λvs H Q E h=>?_) λA outer s H vs Q E hr h=>?_
 ·obtain⟨as,O,_,al,hp,_⟩:=h;rw[<- al.length];exact len as hp
 obtain⟨as,O,hd,al,hp,q⟩:=h;obtain⟨fs,b,c⟩:=hbody f cdv A outer s H E hr hl;refine⟨_,b.nox,⟨H,O⟩,nG N as,_,⟨O,rM hd al⟩,c as hp,⟨λσ' H' Z' R' h=>?_,λv H' p s' a' h=>?_,λa H' ns s' n e h=>?_,λ_ _ _ _ _ h=>h.elim,λ_ _ _ _ h=>h,λ_ _ _ _ h=>h,λ_ _ _ h=>h⟩⟩
 ·obtain⟨O',R'⟩:=R';exact q .non H' R'.same (by rw[show F as=.non from h];rfl)
 ·subst h;exact q v H' s' a'
 ·refine q _ H' s' ?_;rw[h];exact⟨a,rfl,.inl (by
   rw[qI]
   ·exact e
   ·cases z:O a with
    |false=>rfl
    |true=>exact absurd n (hd a z))⟩
end
end L3
namespace L2
open PySem.AutoSeq1 (wpAny_loadPart')
open PySem.MeetsSeq PySem.MeetsSeq2 PySem.MeetsSeq3 PySem.SeqAt
def oG:List Int->List Int->Bool
 |a::r,b::t=>if a=b then oG r t else decide (a<b)
 |_,_=>false
theorem Gg:∀{vs:Lv} {ns:Li},IntsAre vs ns->∀i,i<vs.length->∃t,vs[i]?=some (.int (ns.getD i 0) t)
 |_,_,.nil,i,h=>absurd h (by simp)
 |_,_,.cons n t r,0,h=>⟨t,rfl⟩
 |_,_,.cons n t r,i+1,h=>by obtain⟨u,e⟩:=Gg r i (by simpa using h);exact⟨u,e⟩
theorem T8 {ns ms:Li}{i:Nat}(h1:i<ns.length)(h2:i<ms.length):oG (ns.drop i) (ms.drop i)=if ns.getD i 0=ms.getD i 0 then oG (ns.drop (i+1)) (ms.drop (i+1)) else decide (ns.getD i 0<ms.getD i 0):=by rw[eM h1,eM h2];simp[oG,gQ,h1,h2]
theorem Qs {xs ys:Lv}{ns ms:Li}(l b:Addr)(n n2:Nat)(dd dd2:Option Addr)(sl sl2:Array (Option Value))(hi:IntsAre xs ns)(hj:IntsAre ys ms)(hsz:xs.length=ys.length)(k:Nat) :
  ∀i:Nat,xs.length-i=k->Meets (Builtin.«list.__eq__.loop» ⟨[.ref l,.ref b,rawInt i,rawInt 0],[]⟩)
   (λA R s=>s.heap.get? l=some { cls:=.type "list",dict:=dd,data:=.seq xs.toArray n,slots:=sl }/\s.heap.get? b=some { cls:=.type "list",dict:=dd2,data:=.seq ys.toArray n2,slots:=sl2 } /\
    R (.ok (.ret (.bool (oG (ns.drop i) (ms.drop i))))) s):=by
 have ln:=hi.length;have lm:=hj.length
 induction k with
 |zero=>
  intro i hk prog w A R s h;obtain⟨hp,g,d,tk,os⟩:=s;obtain⟨hl,hb,h⟩:=h
  wp_walk using wpAny_loadPart' hl,wpAny_loadPart' hb
  have hi1:xs.toArray[((i:Nat):Int).toNat]?=none:=by simp;lia
  have hi2:ys.toArray[((i:Nat):Int).toNat]?=none:=by simp;lia
  have hd:oG (ns.drop i) (ms.drop i)=false:=by rw[List.drop_of_length_le (by lia)];rfl
  rw[hd]at h;rw[hi1,hi2]
  wp_walk using wpAny_loadPart' hl,wpAny_loadPart' hb
  show R (.ok (.ret (.bool (decide (xs.toArray.size<ys.toArray.size))))) _;have:¬xs.toArray.size<ys.toArray.size:=by simp;lia
  rw[aN this];exact h
 |succ k ih=>
  intro i hk prog w A R s h;obtain⟨hp,g,d,tk,os⟩:=s;obtain⟨hl,hb,h⟩:=h
  wp_walk using wpAny_loadPart' hl,wpAny_loadPart' hb
  obtain⟨t,e1⟩:=Gg hi i (by lia);obtain⟨u,e2⟩:=Gg hj i (by lia);have hi1:xs.toArray[((i:Nat):Int).toNat]?=some (.int (ns.getD i 0) t):=by simpa using e1
  have hi2:ys.toArray[((i:Nat):Int).toNat]?=some (.int (ms.getD i 0) u):=by simpa using e2
  have hc:((i:Int)+1)=((i+1:Nat):Int):=by push_cast;rfl
  rw[T8 (by lia) (by lia)]at h;rw[hi1,hi2];refine aB (gZ ?_);by_cases hz:ns.getD i 0=ms.getD i 0
  ·rw[ah hz]at h;have hz':(ns.getD i 0 == ms.getD i 0)=true:=by simpa using hz
   rw[hz']
   wp_walk
   rw[hc];exact⟨plainId_quiet plain_eq_loop _,codeAny_builtin entry_eq_loop (by
    rw[Around.under_plainId plain_eq_loop _];exact ih (i+1) (by lia) prog w A R _ ⟨hl,hb,h⟩)⟩
  ·rw[ag hz]at h;have hz':(ns.getD i 0 == ms.getD i 0)=false:=by simpa using hz
   rw[hz']
   wp_walk using wpAny_loadPart' hl,wpAny_loadPart' hb
   rw[hi1,hi2];refine aB (wpAny_lt_int ?_)
   wp_walk
   exact h
theorem PQ (l b:Addr)(n n2:Nat)(dd dd2:Option Addr)(sl sl2:Array (Option Value))(hi:IntsAre xs ns)(hj:IntsAre ys ms)(hsz:xs.length=ys.length) :
  Meets (Builtin.«list.__lt__» ⟨[.ref l,.ref b],[]⟩)
   (λA R s=>s.heap.get? l=some { cls:=.type "list",dict:=dd,data:=.seq xs.toArray n,slots:=sl }/\s.heap.get? b=some { cls:=.type "list",dict:=dd2,data:=.seq ys.toArray n2,slots:=sl2 } /\
    R (.ok (.ret (.bool (oG ns ms)))) s):=by
 intro prog w A R s h;obtain⟨hp,g,d,tk,os⟩:=s;obtain⟨hl,hb,h⟩:=h;have f3:=PySem.AutoSeq1.sub_list_list
 wp_walk using wpAny_loadPart' hl,wpAny_loadPart' hb
 exact⟨plainId_quiet plain_eq_loop _,codeAny_builtin entry_eq_loop (by
  rw[Around.under_plainId plain_eq_loop _];exact Qs l b n n2 dd dd2 sl sl2 hi hj hsz _ 0 rfl prog w A R _ ⟨hl,hb,by simpa using h⟩)⟩
section
variable {prog:Program}{w:World}{A:Around}{E:Value->Shared->Prop}{s:Shared}{a b:Addr}{xs ys:List Value}{ns ms:List Int}{Q:Value->Shared->Prop}
theorem Wb (hl:s.heap.IsList a xs.toArray)(hb:s.heap.IsList b ys.toArray)(hi:IntsAre xs ns)(hj:IntsAre ys ms)(hsz:xs.length=ys.length)(hu:A.units<cLine)(h:Q (.bool (oG ns ms)) s) :
  wpAny (model prog w) A (compareOp .Lt (.ref a) (.ref b)) Q E s:=by
 obtain⟨⟨cls,dd,data,sl⟩,ho,hc,n,hd⟩:=id hl;obtain⟨⟨cls2,dd2,data2,sl2⟩,ho2,hc2,n2,hd2⟩:=id hb;simp only at hc hd hc2 hd2;subst hc hd hc2 hd2;exact richCompare_meets_room (op:=.Lt) ⟨_,ho,rfl⟩ ⟨_,ho2,rfl⟩ F.slot_list_lt F.entry_list_lt (F.args_list_lt_2 _ _) (PQ a b n n2 dd dd2 sl sl2 hi hj hsz)
  ⟨ho,ho2,show Value.bool (oG ns ms)≠Value.notImplemented/\Q (.bool (oG ns ms)) s from⟨(λx=>nomatch x),h⟩⟩ hu
end
def nu (a b:List Int):Bool:=if (a.length:Int)=(b.length:Int) then(if a=b then false else oG a b) else decide ((a.length:Int)<(b.length:Int))
section
variable {prog:Program}{w:World}{A:Around}{E:Value->Shared->Prop}{s:Shared}{Q:Bool->Shared->Prop}
theorem Y7 (hx:IsTup s.heap x #[.int (ns.length:Int) tx,.ref gx])(hy:IsTup s.heap y #[.int (ms.length:Int) ty,.ref gy])(lx:s.heap.IsList gx xs.toArray)(ly:s.heap.IsList gy ys.toArray)
  (ix:IntsAre xs ns) (iy:IntsAre ys ms) (hu:A.units+64<cLine) (h:Q (nu ns ms) s):wpAny (model prog w) A (keyLt' (tuples' true) (.ref x) (.ref y)) Q E s:=by
 obtain⟨ox,ex,cx,nx,dx⟩:=hx;obtain⟨oy,ey,cy,ny,dy⟩:=hy;refine W.kat_lt ex dx ey dy (W.kat_cons (gZ ?_));by_cases c:(ns.length:Int)=(ms.length:Int)
 ·have e:((ns.length:Int) == (ms.length:Int))=true:=by simpa using c
  rw[e];have hl:xs.length=ys.length:=by have:=ix.length;have:=iy.length;lia
  refine W.kat_yes (W.kat_cons (SeqAt.eqAt_reads _ _ _ _ _ _ _ _ (reads_newData lx (W.ke_carried ix)) (reads_newData ly (W.ke_carried iy)) (by simp[PyData.canLay0,iq]) (by simp[PyData.canLay0,iq]) (by
   simp only[PyData.depth,W.ke_depthAll];lia) _ _ _ _ ?_))
  have e2:PyData.eqv (.list (ns.map PyData.int)) (.list (ms.map PyData.int))=decide (ns=ms):=W.ked_eqvAll ns ms;rw[e2];unfold nu at h;rw[ah c]at h;by_cases d:ns=ms
  ·rw[aK d];rw[ah d]at h;exact W.kat_yes (W.kat_nil h)
  ·rw[aN d];rw[ag d]at h;exact W.kat_no (W.kat_one _ _ (Wb lx ly ix iy hl (by lia) h))
 ·have e:((ns.length:Int) == (ms.length:Int))=false:=by simpa using c
  rw[e];unfold nu at h;rw[ag c]at h;exact W.kat_no (oneLt_int h)
end
end L2
end
namespace L2
open PySem PySem.Spec PyProof.Rows PySem.W
def uM (n:Nat)(lt:Nat->Nat->Bool){α:Type}(Post:α->Prop):KasT α->Prop
 | .ret a=>Post a
 | .ask i j k=>i<n/\j<n/\uM n lt Post (k (lt i j))
section
variable {n:Nat}{lt:Nat->Nat->Bool}{α β:Type}
theorem uM.mono (h:∀a,P a->Q a):∀(t:KasT α),uM n lt P t->uM n lt Q t
 | .ret a,k=>h a k
 | .ask _ _ k,⟨a,b,c⟩=>⟨a,b,uM.mono h (k _) c⟩
theorem uM.bind {f:α->KasT β}{Q:β->Prop}:∀(t:KasT α),uM n lt (λa=>uM n lt Q (f a)) t->uM n lt Q (t.bind f)
 | .ret _,k=>k
 | .ask _ _ k,⟨a,b,c⟩=>⟨a,b,uM.bind (k _) c⟩
theorem uM.wp (hc:∀i j C,i<n->j<n->C (lt i j) s->cmp i j C s)(hq:∀a,P a->Q a s):∀(t:KasT α),uM n lt P t->t.kasWp cmp Q s
 | .ret a,k=>hq a k
 | .ask _ _ k,⟨a,b,c⟩=>hc _ _ _ a b (uM.wp hc hq (k _) c)
structure WY (n:Nat)(lt:Nat->Nat->Bool):Prop where
 asy:∀i j,i<n->j<n->lt i j=true->lt j i=false
 tot:∀i j,i<n->j<n->i≠j->lt i j=false->lt j i=true
 tr:∀i j k,i<n->j<n->k<n->lt i j=true->lt j k=true->lt i k=true
def PR (n:Nat)(p:Array Nat):Prop:=p.toList.Perm (List.range n)
theorem PR.size (h:PR n p):p.size=n:=by have:=List.Perm.length_eq h;rw[ao,df]at this;exact this
theorem Af {p:Array Nat}{i:Nat}(h:i<p.size):p.getD i 0=p[i]:=by simp[Array.getD,h]
theorem PR.bd {p:Array Nat}(h:PR n p){i:Nat}(hi:i<n):p.getD i 0<n:=by
 rw[Af (by rw[h.size];exact hi)];have:p[i]'(by rw[h.size];exact hi)∈p.toList:=by simp
 exact a7.mp (List.Perm.mem_iff h |>.mp this)
theorem PR.ne {p:Array Nat}(h:PR n p){i j:Nat}(hi:i<n)(hj:j<n)(hn:i≠j):p.getD i 0≠p.getD j 0:=by
 have s:=h.size;rw[Af (by lia),Af (by lia)];have nd:p.toList.Nodup:=(List.Perm.nodup_iff h).mpr g8;intro e;have l1:i<p.toList.length:=by rw[df];lia
 have l2:j<p.toList.length:=by rw[df];lia
 have:=(List.nodup_iff_pairwise_ne.mp nd |> dD.mp);rcases gB hn with q|q
 ·exact this i j l1 l2 q (by simpa using e)
 ·exact this j i l2 l1 q (by simpa using e.symm)
def Pn (lt:Nat->Nat->Bool)(p:Array Nat)(m:Nat):Prop:=∀i j,i<j->j<m->lt (p.getD i 0) (p.getD j 0)=true
theorem Pn.step (O:WY n lt)(R:PR n p)(S:Pn lt p m)(hm:m<n)(h0:0<m)(h:lt (p.getD m 0) (p.getD (m-1) 0)=false):Pn lt p (m+1):=by
 have last:lt (p.getD (m-1) 0) (p.getD m 0)=true:=O.tot _ _ (R.bd hm) (R.bd (by lia)) (R.ne hm (by lia) (by lia)) h;intro i j hij hj;by_cases c:j<m
 ·exact S i j hij c
 ·have:j=m:=by lia
  subst this;by_cases d:i=j-1
  ·rw[d];exact last
  ·exact O.tr _ _ _ (R.bd (by lia)) (R.bd (by lia)) (R.bd hm) (S i (j-1) (by lia) (by lia)) last
theorem KC (O:WY n lt)(R:PR n p):∀(f m:Nat),0<m->m+f=n->Pn lt p m->uM n lt (λk=>m<=k/\k<=n/\Pn lt p k/\(k<n->lt (p.getD k 0) (p.getD (k-1) 0)=true)) (kas_asc p f m)
 |0,m,h0,hm,S=>⟨aq _,by lia,S,λh=>by lia⟩
 |f+1,m,h0,hm,S=>by
  refine⟨R.bd (by lia),R.bd (by lia),?_⟩;cases c:lt (p.getD m 0) (p.getD (m-1) 0) with
  |true=>dsimp only;rw[ah rfl];exact⟨aq _,by lia,S,λ_=>c⟩
  |false=>dsimp only;rw[ag (by decide)];exact uM.mono (λk h=>⟨by lia,h.2⟩) _ (KC O R f (m+1) (by lia) (by lia) (S.step O R (by lia) h0 c))
def Dsc (lt:Nat->Nat->Bool)(p:Array Nat)(m:Nat):Prop:=∀i j,i<j->j<m->lt (p.getD j 0) (p.getD i 0)=true
theorem Dsc.step (O:WY n lt)(R:PR n p)(S:Dsc lt p m)(hm:m<n)(h0:0<m)(last:lt (p.getD m 0) (p.getD (m-1) 0)=true):Dsc lt p (m+1):=by
 intro i j hij hj;by_cases c:j<m
 ·exact S i j hij c
 ·have:j=m:=by lia
  subst this;by_cases d:i=j-1
  ·rw[d];exact last
  ·exact O.tr _ _ _ (R.bd hm) (R.bd (by lia)) (R.bd (by lia)) last (S i (j-1) (by lia) (by lia))
theorem LQ (O:WY n lt)(R:PR n p):∀(f m:Nat),0<m->m+f=n->Dsc lt p m->uM n lt (λr=>r.1=p/\r.2.2=0/\m<=r.2.1/\r.2.1<=n/\Dsc lt p r.2.1) (kas_desc f p m 0)
 |0,m,h0,hm,S=>⟨rfl,rfl,aq _,by show m<=n;lia,S⟩
 |f+1,m,h0,hm,S=>by
  refine⟨R.bd (by lia),R.bd (by lia),?_⟩;cases c:lt (p.getD m 0) (p.getD (m-1) 0) with
  |true=>dsimp only;rw[ah rfl,ag (by decide)];exact uM.mono (λr h=>⟨h.1,h.2.1,by have:=h.2.2.1;lia,h.2.2.2⟩) _ (LQ O R f (m+1) (by lia) (by lia) (S.step O R (by lia) h0 c))
  |false=>dsimp only;rw[ag (by decide)];have d:lt (p.getD (m-1) 0) (p.getD m 0)=true:=O.tot _ _ (R.bd (by lia)) (R.bd (by lia)) (R.ne (by lia) (by lia) (by lia)) c;refine⟨R.bd (by lia),R.bd (by lia),?_⟩;dsimp only;rw[d,ah rfl];exact⟨rfl,rfl,aq _,by show m<=n;lia,S⟩
theorem getD_get {p:Array Nat}{i:Nat}:p.getD i 0=(p[i]?).getD 0:=by simp
theorem S9 {p:Array Nat}{m i:Nat}(hm:m<=p.size):(kas_rev p 0 m).getD i 0=if i<m then p.getD (m-1-i) 0 else p.getD i 0:=by
 rw[getD_get,getD_get,getD_get];unfold kas_rev;rw[getElem?_mirror_all hm];by_cases c:i<m
 ·rw[ah ⟨bq _,c⟩,ah c];congr 2;lia
 ·rw[ag (λh=>c h.2),ag c]
theorem Z3 (R:PR n p):PR n (kas_rev p 0 m):=by have:=mirror_perm p 0 m ((m-0) / 2);exact(gf.mp this).trans R
theorem QG (O:WY n lt)(R:PR n p)(h2:2<=n):uM n lt (λr=>PR n r.2/\1<=r.1/\r.1<=n/\Pn lt r.2 r.1) (kas_count n p):=by
 refine uM.bind _ (uM.mono (λk h=>?_) _ (KC O R (n-1) 1 (by decide) (by lia) λi j a b=>by lia));obtain⟨h1,hk,S,L⟩:=h;by_cases c:k=n
 ·subst c;rw[ah (by simp)];exact⟨R,by lia,aq _,S⟩
 ·rw[ag (by simpa using c)];by_cases d:k > 1
  ·rw[ah d];refine⟨R.bd (by lia),R.bd (by lia),?_⟩;dsimp only;rw[S 0 (k-1) (by lia) (by lia),ah rfl];exact⟨R,h1,hk,S⟩
  ·rw[ag d];have e:k=1:=by lia
   subst e;have D2:Dsc lt p 2:=λi j a b=>by
    have e1:i=0:=by lia
    have e2:j=1:=by lia
    subst e1 e2;exact L (by lia)
   refine uM.bind _ (uM.mono (λr h=>?_) _ (LQ O R (n-2) 2 (by decide) (by lia) D2));obtain⟨p',m,q⟩:=r;obtain⟨e1,e2,h3,h4,D⟩:=h;have h3:2<=m:=h3;have h4:m<=n:=h4;subst e1 e2;show uM _ _ _ (if 0 > 0 then _ else kas_tail3 m n p');rw[ag (by decide)];have R':=Z3 (m:=m) R;have S':Pn lt (kas_rev p' 0 m) m:=λi j a b=>by rw[S9 (by rw[R.size];exact h4),S9 (by rw[R.size];exact h4),ah (by lia),ah b];exact D (m-1-j) (m-1-i) (by lia) (by show m-1-i<m;lia)
   refine uM.bind _ (uM.mono (λk h=>?_) _ (KC O R' (n-m) m (by lia) (by lia) S'));exact⟨R',by show 1<=k;lia,h.2.1,h.2.2.1⟩
theorem zV (O:WY n lt)(R:PR n p)(hk:k<n)(S:Pn lt p k):∀(f l r:Nat),l<=r->r<=k->r-l<=f->(∀i,i<l->lt (p.getD i 0) (p.getD k 0)=true)->(∀i,r<=i->i<k->lt (p.getD k 0) (p.getD i 0)=true) ->
  uM n lt (λl=>l<=k/\(∀i,i<l->lt (p.getD i 0) (p.getD k 0)=true)/\∀i,l<=i->i<k->lt (p.getD k 0) (p.getD i 0)=true) (kas_place p k f l r)
 |0,l,r,h1,h2,h3,A,B=>by
  have:l=r:=by lia
  subst this;exact⟨h2,A,B⟩
 |f+1,l,r,h1,h2,h3,A,B=>by
  unfold kas_place;by_cases c:l ≥ r
  ·rw[ah c];have:l=r:=by lia
   subst this;exact⟨h2,A,B⟩
  ·rw[ag c];refine⟨R.bd hk,R.bd (by lia),?_⟩;cases d:lt (p.getD k 0) (p.getD ((l+r) / 2) 0) with
   |true=>
    dsimp only;rw[ah rfl];refine zV O R hk S f l ((l+r) / 2) (by lia) (by lia) (by lia) A λi a b=>?_;by_cases e:i=(l+r) / 2
    ·rw[e];exact d
    ·exact O.tr _ _ _ (R.bd hk) (R.bd (by lia)) (R.bd (by lia)) d (S _ _ (by lia) b)
   |false=>
    dsimp only;rw[ag (by decide)];have d':=O.tot _ _ (R.bd hk) (R.bd (by lia)) (R.ne hk (by lia) (by lia)) d;refine zV O R hk S f ((l+r) / 2+1) r (by lia) h2 (by lia) (λi a=>?_) B;by_cases e:i=(l+r) / 2
    ·rw[e];exact d'
    ·exact O.tr _ _ _ (R.bd (by lia)) (R.bd (by lia)) (R.bd hk) (S i ((l+r) / 2) (by lia) (by lia)) d'
theorem Ud {p:Array Nat}{k l i:Nat}(hk:k<p.size)(hl:l<=k):(bubble p k (k-l)).getD i 0=if i=l then p.getD k 0 else if l<i/\i<=k then p.getD (i-1) 0 else p.getD i 0:=by
 rw[getD_get,getElem?_bubble hk _ (by lia)];have e:k-(k-l)=l:=by lia
 rw[e];by_cases c:i=l
 ·rw[ah c,ah c,getD_get]
 ·rw[ag c,ag c];by_cases d:l<i/\i<=k
  ·rw[ah d,ah d,getD_get]
  ·rw[ag d,ag d,getD_get]
theorem Ur (O:WY n lt):∀(f:Nat) (p:Array Nat) (k:Nat),PR n p->k+f=n->Pn lt p k->uM n lt (λp=>PR n p/\Pn lt p n) (kas_bin f p k)
 |0,p,k,R,hk,S=>by
  have:k=n:=by lia
  subst this;exact⟨R,S⟩
 |f+1,p,k,R,hk,S=>by
  have sz:=R.size;refine uM.bind _ (uM.mono (λl h=>?_) _ (zV O R (by lia) S k 0 k (bq _) (aq _) (by lia) (λi a=>by lia) λi a b=>by lia));obtain⟨h1,A,B⟩:=h;have R':PR n (bubble p k (k-l)):=(gf.mp (bubble_perm p k (k-l))).trans R;refine Ur O f _ (k+1) R' (by lia) λi j a b=>?_;rw[Ud (by lia) h1,Ud (by lia) h1];by_cases c1:i=l
  ·rw[ah c1,ag (by lia),ah (by lia)];exact B _ (by lia) (by lia)
  ·rw[ag c1];by_cases c2:j=l
   ·rw[ah c2,ag (by lia)];exact A _ (by lia)
   ·rw[ag c2];by_cases c3:l<i/\i<=k
    ·rw[ah c3,ah (by lia)];exact S _ _ (by lia) (by lia)
    ·rw[ag c3];by_cases c4:l<j/\j<=k
     ·rw[ah c4];exact S _ _ (by lia) (by lia)
     ·rw[ag c4];exact S _ _ a (by lia)
theorem Wr (O:WY n lt)(h2:2<=n):uM n lt (λp=>PR n p/\Pn lt p n) (kas_sort n):=by
 have R0:PR n (List.toArray (List.range n)):=List.Perm.refl _;refine uM.bind _ (uM.mono (λr h=>?_) _ (QG O R0 h2));obtain⟨R,h1,h3,S⟩:=h;by_cases c:r.1<n
 ·rw[ah c];have e:max r.1 1=r.1:=by lia
  rw[e];exact Ur O _ _ _ R (by lia) S
 ·rw[ag c];have e:r.1=n:=by lia
  rw[e]at S;exact⟨R,S⟩
end
end L2
section
open PySem PySem.Spec PyProof.Rows
namespace L3
open L2
def Xi (g:List Int):PV:=.tup [.int (g.length:Int),.ints g]
theorem zK:∀a:List Int,oG a a=false
 |[]=>rfl
 |x::a=>by show(if x=x then oG a a else _)=false;rw[ah rfl,zK a]
theorem Ik:∀a b:List Int,oG a b=true->oG b a=false
 |[],_,h=>by cases h
 |x::a,[],h=>by cases h
 |x::a,y::b,h=>by
  have h:(if x=y then oG a b else decide (x<y))=true:=h;show(if y=x then oG b a else decide (y<x))=false;by_cases c:x=y
  ·rw[ah c]at h;rw[ah c.symm];exact Ik a b h
  ·rw[ag c]at h;have h:=bU h;rw[ag (ck c),aN (by lia)]
theorem Hj:∀a b:List Int,a.length=b.length->a≠b->oG a b=false->oG b a=true
 |[],[],_,h,_=>absurd rfl h
 |[],_::_,h,_,_=>by cases h
 |_::_,[],h,_,_=>by cases h
 |x::a,y::b,l,n,h=>by
  have h:(if x=y then oG a b else decide (x<y))=false:=h;show(if y=x then oG b a else decide (y<x))=true;by_cases c:x=y
  ·rw[ah c]at h;rw[ah c.symm];exact Hj a b (by simpa using l) (λz=>n (by rw[c,z])) h
  ·rw[ag c]at h;have h:=of_decide_eq_false h;rw[ag (ck c),aK (by lia)]
theorem N5:∀a b c:List Int,oG a b=true->oG b c=true->oG a c=true
 |[],_,_,h,_=>by cases h
 |_::_,[],_,h,_=>by cases h
 |_::_,_::_,[],_,h=>by cases h
 |x::a,y::b,z::c,h,k=>by
  have h:(if x=y then oG a b else decide (x<y))=true:=h;have k:(if y=z then oG b c else decide (y<z))=true:=k;show(if x=z then oG a c else decide (x<z))=true;by_cases d:x=y
  ·subst d;rw[ah rfl]at h;by_cases e:x=z
   ·rw[ah e]at k ⊢;exact N5 a b c h k
   ·rw[ag e]at k ⊢;exact k
  ·rw[ag d]at h;have h:=bU h;by_cases e:y=z
   ·subst e;rw[ag d,aK h]
   ·rw[ag e]at k;have k:=bU k;rw[ag (by lia),aK (by lia)]
theorem oV:nu a b=true ↔ a.length<b.length\/(a.length=b.length/\oG a b=true):=by
 unfold nu;by_cases c:(a.length:Int)=(b.length:Int)
 ·rw[ah c];by_cases d:a=b
  ·subst d;rw[ah rfl,zK];simp
  ·rw[ag d];constructor
   ·exact λh=>.inr ⟨by lia,h⟩
   ·rintro (h|h)
    ·lia
    ·exact h.2
 ·rw[ag c,decide_eq_true_iff];constructor
  ·exact λh=>.inl (by lia)
  ·rintro (h|h)<;>lia
theorem QW (a:Li):nu a a=false:=by
 cases h:nu a a with
 |false=>rfl
 |true=>
  rcases oV.mp h with h|h
  ·lia
  ·rw[zK]at h;cases h.2
theorem JC (h:nu a b=true):nu b a=false:=by
 cases k:nu b a with
 |false=>rfl
 |true=>
  rcases oV.mp h with h|h<;>rcases oV.mp k with k|k
  ·lia
  ·lia
  ·lia
  ·have:=Ik _ _ h.2;rw[k.2]at this;cases this
theorem Be (n:a≠b)(h:nu a b=false):nu b a=true:=by
 refine oV.mpr ?_;by_cases c:b.length<a.length
 ·exact .inl c
 ·right;by_cases d:a.length<b.length
  ·rw[oV.mpr (.inl d)]at h;cases h
  ·refine⟨by lia,Hj a b (by lia) n ?_⟩;cases k:oG a b with
   |false=>rfl
   |true=>rw[oV.mpr (.inr ⟨by lia,k⟩)]at h;cases h
theorem N8 (h:nu a b=true)(k:nu b c=true):nu a c=true:=by
 refine oV.mpr ?_;rcases oV.mp h with h|h<;>rcases oV.mp k with k|k
 ·left;lia
 ·left;lia
 ·left;lia
 ·exact .inr ⟨by lia,N5 _ _ _ h.2 k.2⟩
theorem Xr {gs:List (List Int)}(nd:gs.Nodup):WY gs.length λi j=>nu (gs.getD i []) (gs.getD j []) where
 asy:=λ_ _ _ _ h=>JC h
 tot:=λi j hi hj n h=>Be (λz=>n (by
  rw[gQ,gQ,ac hi,ac hj]at z;exact(List.getElem_inj nd).mp z)) h
 tr:=λ_ _ _ _ _ _ h k=>N8 h k
section
variable {X:Cx}{pins:List (Addr×Obj)}{σ:L2.St}{H:Hp}{s t:Shared}{D kS:Addr}{G:Gx}{O:Addr->Bool}
theorem Gn (I:Inv X pins σ H s)(e:s.heap.get? D=some o)(n:H D=none)(dl:D≠X.env.locals)(fs:D∉X.fs)(dc:∀v,o.data ≠ .cell v):Inv X ((D,o)::pins) σ H s:=
 { I with pin:=λp hp=>(cV.mp hp).elim (λhp=>I.pin p (b9 _ hp)) λhp=>(aC.mp hp).elim (λz=>z ▸ ⟨e,n,dl,fs,dc⟩) λhp=>I.pin p (aH _ hp) }
theorem xF (I:Inv X (q::pins) σ H s):Inv X pins σ H s/\s.heap.get? q.1=some q.2/\H q.1=none:=by obtain⟨a,b,_⟩:=I.pin q (aH _ af);exact⟨{ I with pin:=λp hp=>I.pin p ((cV.mp hp).elim (λhp=>b9 _ hp) λhp=>aH _ (ae _ hp)) },a,b⟩
structure o7 (X:Cx)(pins:List (Addr×Obj))(D:Addr):Prop where
 big:X.s₀.heap.objs.size<=D
 loc:D≠X.env.locals
 cel:∀x c,X.env.cells.lookup x=some c->c≠D
 pin:∀p∈X.pn++pins,p.1≠D
 fs:D∉X.fs
theorem o7.of (I:Inv X pins σ H t)(h:t.heap.objs.size<=D):o7 X pins D where
 big:=aJ I.sz h
 loc:=dX (aD I.lt h)
 cel:=λx c e=>by obtain⟨v,o,ho,_⟩:=I.cell x c e;exact be (aD (aA ho) h)
 pin:=λp hp=>be (aD (aA (I.pin p hp).1) h)
 fs:=I.nofs h
theorem wY (I:Inv X pins σ H s)(F:o7 X pins D)(sb:Heap.SameBut D s.heap h')(e:h'.get? D=some o')(n:H D=none):Inv X pins σ H { s with heap:=h' }:=by
 have kp:∀b o,b≠D->s.heap.get? b=some o->h'.get? b=some o:=λb o hb q=>by rw[sb.2 b hb];exact q
 have nD:∀b u,H b=some u->b≠D:=λb u q z=>by rw[z,n]at q;cases q
 refine I.step (ch:=[D]) (g':=s.gens) (d':=s.drawn) (t':=s.toks) (λb hb=>?_) (λb o _ _ hb q _=>kp b o (λz=>hb (bv.mpr z)) q) (λb o _ _ hb q _=>⟨o.slots,kp b o (λz=>hb (bv.mpr z)) q⟩) (λb o _ _ q=>q) (λb o _ q=>?_) (λb _ q=>q) (λb _ _ q=>q) (λb ps q=>⟨#[],by rw[q];simp⟩) (λm hm=>?_) (λb u q=>?_) I.bare
 ·rw[bv.mp hb];exact⟨.inr F.big,F.loc,F.cel,F.pin⟩
 ·by_cases z:b=D
  ·rw[z];exact⟨o',e⟩
  ·exact⟨o,kp b o z q⟩
 ·obtain⟨o,es,ep,ho,r⟩:=hm;exact⟨o,es,ep,kp _ _ (ck F.loc) ho,r⟩
 ·refine(I.hok b u q).stay (λc v hcb rr=>kp c v ?_ rr) (λc rr=>rr) (λc _ rr=>rr) λc _ _ rr=>rr;rcases hcb with rfl|hcb
  ·exact nD _ _ q
  ·exact nD _ _ hcb
theorem Qp (I:Inv X pins σ H s)(a:At X.K G (mn H O) (Xi g) kv)(r:RelV kv k) :
  ∃x gx tx xs,k=.ref x/\IsTup s.heap x #[.int (g.length:Int) tx,.ref gx]/\s.heap.IsList gx xs.toArray/\IntsAre xs g:=by
 obtain⟨x,us,rfl,hx,u1,r1,rfl,h1,u2,r2,rfl,⟨gx,rfl,rd⟩,hn⟩:=a;subst hn h1;cases r;obtain⟨_,its2,rv,tup⟩:=I.hok x _ (rW hx).2;obtain⟨_,its,n,r3,_,e⟩:=L3.Inv.Ld I (jC jT rd);cases rv with
 |cons q0 q1=>
  cases q1 with
  |cons q2 q3=>cases q3;cases q2;obtain⟨tok,rfl⟩:=q0;exact⟨x,gx,tok,its,rfl,tup,⟨_,e,rfl,n,rfl⟩,wH r3⟩
end
section
variable {X:Cx}{pins:List (Addr×Obj)}{σ:L2.St}{H:Hp}{s t:Shared}{D kS:Addr}{G:Gx}{O:Addr->Bool}{A:Around}{f:Value}{its:List Value}{gs:List (List Int)}{e1:Nat}{P:PySem.Fin->Shared->Prop}{E:Value->Shared->Prop}
def Cq (its:List Value)(p:List Nat):List Value:=p.map λi=>its.getD i Value.none
def Rh (X:Cx)(pins:List (Addr×Obj))(σ:L2.St)(H:Hp)(D:Addr)(its:List Value)(gs:List (List Int))(R:Shared->Prop):Prop:=
 ∀(H':Hp) (p:List Nat) (c:Nat) (s':Shared),Inv X pins σ H' s' -> Same H H' -> H' D=none->s'.heap.get? D=some (seqObj "list" (Cq its p).toArray c)->p.Perm (List.range its.length)->p.Pairwise (λi j=>nu (gs.getD i []) (gs.getD j [])=true)->R s'
theorem Mh {st:SortSt}{ks:Lv}{p:List Nat}{e:Nat}(I:Inv X pins σ H s)(fD:o7 X pins D)(fK:o7 X pins kS)(ne:kS≠D)(hD:s.heap.get? D=some (seqObj "list" #[] e1))(hK:s.heap.get? kS=some (seqObj "list" ks.toArray e))(HD:H D=none)(HK:H kS=none)
  (h1:(arrOf st).map (·.2)=(Cq its p).toArray) (h2:failedOf st=none) (hp:p.Perm (List.range its.length)) (hs:p.Pairwise (λi j=>nu (gs.getD i []) (gs.getD j [])=true)) (l1:ks.length<64) (l2:its.length<64) (fin:Rh X pins σ H D its gs λs'=>P (.done (.ret .none)) s') :
  wpAny (model X.prog X.w) A (ksk_tail D false e1 (.ref kS) st) P E s:=by
 have s1:=eU s.heap kS (Obj.mapSeq λ_=>(#[]:Array Value));have g1:=get?_update_seq hK λ_=>(#[]:Array Value);have I1:=wY I fK s1 g1 HK;have hD1:(s.heap.update kS (Obj.mapSeq λ_=>(#[]:Array Value))).get? D=some (seqObj "list" #[] e1):=by rw[s1.2 D (ck ne)];exact hD
 have s2:=eU (s.heap.update kS (Obj.mapSeq λ_=>(#[]:Array Value))) D (Obj.mapSeq λ_=>(Cq its p).toArray);have g2:=get?_update_seq hD1 λ_=>(Cq its p).toArray;have I2:=wY I1 fD s2 g2 HD;have lp:(Cq its p).length<64:=by unfold Cq;rw[aa,hp.length_eq,ao];exact l2
 unfold ksk_tail;dsimp only;rw[h1];refine aB (gT hK rfl (aB (wpAny_letGo (aB (seqEpoch_at hD1 rfl (aB (gT hD1 rfl ?_ (bq _) (by
  rw[ag (by decide),aw,dC];lia))))))) (by rw[aw,dC];lia) (bq _))
 rw[h2];simp only[bne_self_eq_false,Bool.false_eq_true,jj];exact bI (fin H p _ _ I2 (Same.refl H) HD g2 hp hs)
theorem Lx:∀{ks:Lv},(∀k∈ks,∃x n tx gx,k=.ref x/\IsTup h x #[.int n tx,.ref gx])->∃fs,W.KatTups h ks fs/\fs.length=ks.length/\∀v∈fs,∃n tx,v=Value.int n tx
 |[],_=>⟨[],tJ,rfl,λ_ h=>by cases h⟩
 |k::ks,hk=>by
  obtain⟨fs,a,b,c⟩:=Lx λk' h'=>hk k' (ae _ h');obtain⟨x,n,tx,gx,rfl,o,eo,co,en,dn⟩:=hk k af;refine⟨.int n tx::fs,W.KatTups.cons eo co dn rfl a,by rw[aR,aR,b],λv hv=>?_⟩;rcases aC.mp hv with rfl|hv
  ·exact⟨n,tx,rfl⟩
  ·exact c v hv
theorem Wa (its:Lv):Cq its (List.range its.length)=its:=by unfold Cq;refine cF (by rw[aa,ao]) λi h1 h2=>?_;rw[bA,bu,gQ,ac h2];rfl
def Ye (X:Cx)(G:Gx)(O:Addr->Bool)(H:Hp)(gs:List (List Int))(ks:List Value):Prop:=∀j,j<ks.length->∃kv k,ks[j]?=some k/\RelV kv k/\At X.K G (mn H O) (Xi (gs.getD j [])) kv
theorem Z8 {e:Nat}(I:Inv X pins σ H s)(fD:o7 X pins D)(fK:o7 X pins kS)(ne:kS≠D)(hD:s.heap.get? D=some (seqObj "list" #[] e1))(hK:s.heap.get? kS=some (seqObj "list" ks.toArray e))(HD:H D=none)(HK:H kS=none)
  (kl:ks.length=its.length) (gl:gs.length=its.length) (kg:Ye X G O H gs ks) (nd:gs.Nodup) (l2:its.length<64) (hu:A.units+64<cLine) (fin:Rh X pins σ H D its gs λs'=>P (.done (.ret .none)) s') :
  wpAny (model X.prog X.w) A (ksk_end D false its.toArray e1 (.ref kS) ks.toArray) P E s:=by
 unfold ksk_end;simp only[Bool.false_eq_true,jj];by_cases n2:its.length<2
 ·rw[ah (by rw[aw];exact n2),ah (by rw[aw];exact n2)];refine aB (bI (aB (bI ?_)));refine Mh (p:=List.range its.length) I fD fK ne hD hK HD HK ?_ rfl (List.Perm.refl _) ?_ (by lia) l2 fin
  ·rw[Wa];apply Array.toList_inj.mp;rw[Array.toList_map,ksk_zip];show List.map Prod.snd (ks.zip its)=its;exact List.map_snd_zip (by lia)
  ·refine dD.mpr λi j hi hj h=>?_;rw[ao]at hj;lia
 ·rw[ag (by rw[aw];exact n2),ag (by rw[aw];exact n2)];have facts:∀j,j<its.length->∃x gx tx xs,ks.getD j Value.none=.ref x/\IsTup s.heap x #[.int ((gs.getD j []).length:Int) tx,.ref gx]/\s.heap.IsList gx xs.toArray/\IntsAre xs (gs.getD j []):=λj hj=>by obtain⟨kv,k,ek,rk,ak⟩:=kg j (by lia);obtain⟨x,gx,tx,xs,rfl,r⟩:=Qp I ak rk;exact⟨x,gx,tx,xs,by rw[gQ,ek];rfl,r⟩
  obtain⟨fs,tu,fl,fi⟩:=Lx (h:=s.heap) (ks:=ks) λk hk=>by obtain⟨j,hj,rfl⟩:=ce.mp hk;obtain⟨x,gx,tx,xs,ex,t,_⟩:=facts j (by lia);rw[gQ,ac hj]at ex;exact⟨x,_,tx,gx,ex,t⟩
  refine aB (W.kat_kind (T:=.type "int") tu (by lia) (λv hv=>?_) (by decide) ?_)
  ·obtain⟨n,tx,rfl⟩:=fi v hv;exact W.Looks.of_pure rfl
  have hn:gs.length=its.length:=gl;have O1:=Xr nd;rw[hn]at O1;have ok:=Wr O1 (by lia);refine aB (eZ (W.kat_run (G:=λp s'=>s'=s/\L2.PR its.length p/\L2.Pn (λi j=>nu (gs.getD i []) (gs.getD j [])) p its.length) (Q:=λst s'=>s'=s/\∃p:Array Nat,L2.PR its.length p/\L2.Pn (λi j=>nu (gs.getD i []) (gs.getD j [])) p its.length/\arrOf st=p.map (W.kas_item (ks.toArray.zip its.toArray))/\failedOf st=none) kl (by lia) l2 (λp st s' _ a b c=>⟨c.1,p,c.2.1,c.2.2,a,b⟩) ?_) (λr s' h=>?_) λ_ _ x=>x)
  ·refine uM.wp (λi j C hi hj hc=>?_) (λp hp=>⟨rfl,hp⟩) _ ok;obtain⟨x,gx,tx,xs,e1,t1,l1,i1⟩:=facts i hi;obtain⟨y,gy,ty,ys,e2,t2,l2,i2⟩:=facts j hj;show wpAny (model X.prog X.w) A (keyLt' (tuples' true) (ks.getD i Value.none) (ks.getD j Value.none)) C _ s;rw[e1,e2];exact Y7 t1 t2 l1 l2 i1 i2 hu hc
  ·obtain⟨u,st⟩:=r;obtain⟨es,p,pr,srt,ar,nf⟩:=h;subst es;refine Mh (p:=p.toList) I fD fK ne hD hK HD HK ?_ nf pr ?_ (by lia) l2 fin
   ·exact W.kat_snds kl ar
   ·refine dD.mpr λi j hi hj h=>?_;have sz:=pr.size;rw[df]at hi hj;have:=srt i j h (by lia);rw[Af hi,Af hj]at this;simpa using this
theorem W7 (I:Inv X pins σ H s)(fD:o7 X pins D)(fK:o7 X pins kS)(ne:kS≠D)(hD:s.heap.get? D=some (seqObj "list" #[] e1))(hK:s.heap.get? kS=some (seqObj "list" #[] 0))(HD:H D=none)(HK:H kS=none)
  (gl:gs.length=its.length) (nd:gs.Nodup) (l2:its.length<64) (hu:A.units+64<cLine)
  (key:∀(pins':List (Addr×Obj)) (H1:Hp) (s1:Shared) (i:Nat) (v:Value),its[i]?=some v->Inv X pins' σ H1 s1->(∀q∈pins,q∈pins')->Same H H1->wpAny (model X.prog X.w) A (call f [v]) (λk s'=>∃kv H',Inv X pins' σ H' s'/\Same H1 H'/\RelV kv k/\At X.K G (mn H' O) (Xi (gs.getD i [])) kv) (λ_ _=>False) s1)
  (fin:Rh X pins σ H D its gs λs'=>P (.done (.ret .none)) s') :
  wpAny (model X.prog X.w) A (ksk_rest D f false its.toArray e1 (.ref kS)) P E s:=by
 unfold ksk_rest;refine aB (wpAny_rule ?_)
 first
  |rw[List.forIn_toArray]
  |(rw[<- Array.forIn_toList];simp only[List.toList_toArray])
 refine aB (ksk_fold (λi s'=>∃ks H' e,Inv X pins σ H' s'/\Same H H'/\H' D=none/\H' kS=none/\s'.heap.get? D=some (seqObj "list" #[] e1)/\s'.heap.get? kS=some (seqObj "list" (List.toArray ks) e)/\ks.length=i/\Ye X G O H' gs ks) its 0 s ⟨[],H,0,I,Same.refl H,HD,HK,hD,hK,rfl,λj hj=>by cases hj⟩ ?_ ?_)
 ·rintro j x s' hx ⟨ks,H',e,I',s1,d1,d2,o1,o2,lk,kg⟩;have jl:j<its.length:=(aj.mp hx).1;have Ip:=Gn (Gn I' o2 d2 fK.loc fK.fs λv z=>by cases z) o1 d1 fD.loc fD.fs λv z=>by cases z
  refine aB (wpAny_attempt (eZ (key _ H' s' j x hx Ip (λq hq=>ae _ (ae _ hq)) s1) (λk s2 h=>?_) λ_ _ z=>z.elim));obtain⟨kv,H2,I2,q2,rk,ak⟩:=h;obtain⟨I3,o3,d3⟩:=xF I2;obtain⟨I4,o4,d4⟩:=xF I3;have sb:=eU s2.heap kS (Obj.mapSeq (·.push k));have g4:=get?_update_seq o4 (·.push k);have g4:(s2.heap.update kS (Obj.mapSeq (·.push k))).get? kS=some (seqObj "list" (List.toArray (ks++[k])) (if (((List.toArray ks).push k).size == (List.toArray ks).size)=true then e else e+1)):=g4.trans (by rw[show(List.toArray ks).push k=List.toArray (ks++[k]) by simp]);have I5:=wY I4 fK sb g4 d4;have o5:(s2.heap.update kS (Obj.mapSeq (·.push k))).get? D=some (seqObj "list" #[] e1):=by rw[sb.2 D (ck ne)];exact o3
  refine aB (gT o4 rfl (bI ⟨rfl,ks++[k],H2,_,I5,s1.trans q2,d3,d4,o5,g4,by rw[ai,lk];rfl,λi hi=>?_⟩) (by rw[aw,dC];lia) (by
   rw[Array.size_push,aw,dC];lia))
  rw[ai,bZ]at hi;by_cases c:i<ks.length
  ·obtain⟨kv',k',a1,a2,a3⟩:=kg i c;exact⟨kv',k',by rw[aS c];exact a1,a2,At.mono (lL q2) _ _ a3⟩
  ·have:i=j:=by lia
   subst this;exact⟨kv,k,by rw[br (by lia),show i-ks.length=0 by lia];rfl,rk,ak⟩
 ·rintro s' ⟨ks,H',e,I',s1,d1,d2,o1,o2,lk,kg⟩;refine aB (listItems_at o2 rfl ?_);exact Z8 I' fD fK ne o1 o2 d1 d2 (by lia) gl kg nd l2 hu λH2 p c s2 a b d e f g=>fin H2 p c s2 a (s1.trans b) d e f g
theorem Vp (I:Inv X pins σ H s)(fD:o7 X pins D)(hD:s.heap.get? D=some (seqObj "list" its.toArray n0))(HD:H D=none)
  (gl:gs.length=its.length) (nd:gs.Nodup) (l2:its.length<64) (hu:A.units+64<cLine)
  (key:∀(pins':List (Addr×Obj)) (H1:Hp) (s1:Shared) (i:Nat) (v:Value),its[i]?=some v->Inv X pins' σ H1 s1->(∀q∈pins,q∈pins')->Same H H1->wpAny (model X.prog X.w) A (call f [v]) (λk s'=>∃kv H',Inv X pins' σ H' s'/\Same H1 H'/\RelV kv k/\At X.K G (mn H' O) (Xi (gs.getD i [])) kv) (λ_ _=>False) s1)
  (fin:Rh X pins σ H D its gs λs'=>P (.done (.ret .none)) s') :
  wpAny (model X.prog X.w) A (ksk_tree D f false) P E s:=by
 have s1:=eU s.heap D (Obj.mapSeq λ_=>(#[]:Array Value));have g1:=get?_update_seq hD λ_=>(#[]:Array Value);have I1:=wY I fD s1 g1 HD;have hn:(s.heap.update D (Obj.mapSeq λ_=>(#[]:Array Value))).objs.size<=((s.heap.update D (Obj.mapSeq λ_=>(#[]:Array Value))).push (seqObj "tuple" its.toArray 0)).objs.size:=by rw[size_push'];lia
 have I2:=I1.kept (h':=((s.heap.update D (Obj.mapSeq λ_=>(#[]:Array Value))).push (seqObj "tuple" its.toArray 0)).push (seqObj "list" #[] 0)) (t':=s.toks) λb o e=>ay _ (ay _ e);have fK:o7 X pins ((s.heap.update D (Obj.mapSeq λ_=>(#[]:Array Value))).push (seqObj "tuple" its.toArray 0)).objs.size:=o7.of I1 hn;have HK:H ((s.heap.update D (Obj.mapSeq λ_=>(#[]:Array Value))).push (seqObj "tuple" its.toArray 0)).objs.size=none:=I1.hok.fresh hn;have nKD:((s.heap.update D (Obj.mapSeq λ_=>(#[]:Array Value))).push (seqObj "tuple" its.toArray 0)).objs.size≠D:=dX (aD (aA g1) hn);unfold ksk_tree;refine aB (listItems_at hD rfl (aB (gT hD rfl (aB (seqEpoch_at g1 rfl (aB (wpAny_newTuple (aB (wpAny_newList (dH ?_) (bq _))) (by show its.length<=_;rw[dC];lia))))) (by rw[aw,dC];lia) (bq _))));exact W7 (s:={ s with heap:=((s.heap.update D (Obj.mapSeq λ_=>(#[]:Array Value))).push (seqObj "tuple" its.toArray 0)).push (seqObj "list" #[] 0) }) I2 fD fK nKD (ay _ (ay _ g1)) (bi _ rfl) HD HK gl nd l2 hu key fin
end
open Classical in
def j8 (kf:PV->List Int)(ps:List PV):List PV:=if h:∃l:List PV,l.Perm ps/\l.Pairwise (λa b=>nu (kf a) (kf b)=true) then h.choose else[]
theorem DP (kf:PV->List Int):∀{a b:List PV},a.Perm b->a.Pairwise (λx y=>nu (kf x) (kf y)=true)->b.Pairwise (λx y=>nu (kf x) (kf y)=true)->a=b
 |[],b,p,_,_=>(List.Perm.nil_eq p)
 |x::a,[],p,_,_=>absurd p.length_eq (by simp)
 |x::a,y::b,p,sa,sb=>by
  rw[bY]at sa sb;have e:x=y:=by
   have h1:x∈y::b:=p.mem_iff.mp af;have h2:y∈x::a:=p.mem_iff.mpr af;rcases aC.mp h1 with h1|h1
   ·exact h1
   rcases aC.mp h2 with h2|h2
   ·exact h2.symm
   have:=JC (sb.1 x h1);rw[sa.1 y h2]at this;cases this
  subst e;rw[DP kf (List.Perm.cons_inv p) sa.2 sb.2]
theorem Ba (p:l.Perm ps)(o:l.Pairwise λa b=>nu (kf a) (kf b)=true):j8 kf ps=l:=by have h:∃l:List PV,l.Perm ps/\l.Pairwise (λa b=>nu (kf a) (kf b)=true):=⟨l,p,o⟩;unfold j8;rw[i9 h];have s:=h.choose_spec;exact DP kf (s.1.trans p.symm) s.2 o
section
variable {X:Cx}{pins:List (Addr×Obj)}{σ:L2.St}{H:Hp}{s t:Shared}{D l:Addr}{G:Gx}{O:Addr->Bool}{f:Value}{its:List Value}{gs:List (List Int)}{E:Value->Shared->Prop}
theorem Pg (I:Inv X pins σ H s)(F:o7 X pins D)(n:H D=none)(e:s.heap.get? D=some (seqObj "list" its.toArray c))(rv:Vals vs its)(hl:vs.length<=sizeLine):Inv X pins σ (upd H D (.lst vs)) s:=by
 have nD:∀b u,H b=some u->b≠D:=λb u q z=>by rw[z,n]at q;cases q
 refine I.step (ch:=[D]) (h':=s.heap) (g':=s.gens) (d':=s.drawn) (t':=s.toks) (λb hb=>?_) (λb o _ _ _ q _=>q) (λb o _ _ _ q _=>⟨o.slots,q⟩) (λb o hb _ q=>?_) (λb o _ q=>⟨o,q⟩) (λb _ q=>?_) (λb _ _ q=>?_) (λb ps q=>⟨#[],?_⟩) (λm hm=>hm) (λb u q=>?_) I.bare
 ·rw[bv.mp hb];exact⟨.inr F.big,F.loc,F.cel,F.pin⟩
 ·rw[upd_ne (λz=>hb (bv.mpr z))];exact q
 ·rw[upd_ne (nD _ _ q)];exact q
 ·rw[upd_ne (nD _ _ q)];exact q
 ·rw[upd_ne (nD _ _ q),q];simp
 ·by_cases z:b=D
  ·subst z;rw[upd_same]at q;cases q;exact⟨hl,its,c,rv,e⟩
  ·rw[upd_ne z]at q;exact(I.hok b u q).stay (λc v _ rr=>rr) (λc rr=>by rw[upd_ne (nD _ _ rr)];exact rr) (λc _ rr=>by rw[upd_ne (nD _ _ rr)];exact rr) λc _ _ rr=>by rw[upd_ne (nD _ _ rr)];exact rr
theorem SQ (I:Inv X pins σ H t)(hl:t.heap.IsList l its.toArray)(gl:gs.length=its.length)(nd:gs.Nodup)(l2:its.length<64)(hu:X.A.in1.in1.units+64<cLine)
  (ht:∀x,Builtin.«list.sort» ⟨[.ref x],[(Str.ofString "key",f)]⟩=ksk_tree x f false)
  (key:∀(pins':List (Addr×Obj)) (H1:Hp) (s1:Shared) (i:Nat) (v:Value),its[i]?=some v->Inv X pins' σ H1 s1->(∀q∈pins,q∈pins')->Same H H1->wpAny (model X.prog X.w) X.A.in1.in1 (call f [v]) (λk s'=>∃kv H',Inv X pins' σ H' s'/\Same H1 H'/\RelV kv k/\At X.K G (mn H' O) (Xi (gs.getD i [])) kv) (λ_ _=>False) s1)
  (fin:∀D,H D=none->o7 X pins D->Rh X pins σ H D its gs λs'=>Q (.ref D) s') :
  wpAny (model X.prog X.w) X.A (call (.builtin "sorted") [.ref l] [(Str.ofString "key",f)]) Q E t:=by
 refine call_function_entry_kw kind_sorted plain_sorted entry_sorted (ksk_s1 _ _) ?_;unfold Builtin.«sorted»;have small:its.length<=sizeLine:=by rw[dC];lia
 refine aB (m:=checkCount "sorted" 1 1 _) (bI (aB (collect_list hl (aB (wpAny_newList ?_ small)) small)));generalize hh:(t.heap.push (seqObj "list" #[] 0)).update t.heap.objs.size (Obj.mapSeq (· ++ its.toArray))=h1;have sz:h1.objs.size=t.heap.objs.size+1:=by rw[<- hh,Heap.size_update,size_push']
 have kp:∀b o,t.heap.get? b=some o->h1.get? b=some o:=λb o q=>by have:=aA q;rw[<- hh,Heap.get?_update_ne _ _ _ _ (be this),Heap.get?_push_ne _ _ _ (be this)];exact q
 have I1:=I.kept (h':=h1.push (seqObj "list" its.toArray 0)) (t':=t.toks) λb o q=>ay _ (kp b o q);have le:t.heap.objs.size<=h1.objs.size:=by lia
 have hD:(h1.push (seqObj "list" its.toArray 0)).get? h1.objs.size=some (seqObj "list" its.toArray 0):=bi _ rfl;have HD:H h1.objs.size=none:=I.hok.fresh le;have fD:=o7.of I le;refine aB (dH (wpAny_call_entry_kw slot_list_sort ⟨_,hD,rfl⟩ entry_list_sort ?_ (ksk_l1 _ _)));rw[ht];exact Vp (s:={ t with heap:=h1.push (seqObj "list" its.toArray 0) }) I1 fD hD HD gl nd l2 hu key λH' p c s' a b d e f g=>⟨_,rfl,bI ⟨_,rfl,fin _ HD fD H' p c s' a b d e f g⟩⟩
theorem Dm {ps:List PV}{xs:List V}{Q:VK}(kf:PV->List Int)(I:Inv X pins σ H t)(rd:Rd H l (.lst xs))(al:lY X.K G (mn H O) ps xs)(l64:ps.length<64)(nd:(ps.map kf).Nodup)(hu:X.A.in1.in1.units+64<cLine)
  (ht:∀x,Builtin.«list.sort» ⟨[.ref x],[(Str.ofString "key",f)]⟩=ksk_tree x f false)
  (key:∀(pins':List (Addr×Obj)) (H1:Hp) (s1:Shared) (p:PV) (v:V) (u:Value),p∈ps->At X.K G (mn H1 O) p v->RelV v u->Inv X pins' σ H1 s1->(∀q∈pins,q∈pins')->Same H H1 ->
   wpAny (model X.prog X.w) X.A.in1.in1 (call f [u]) (λk s'=>∃kv H',Inv X pins' σ H' s'/\Same H1 H'/\RelV kv k/\At X.K G (mn H' O) (Xi (kf p)) kv) (λ_ _=>False) s1)
  (q:∀(a:Addr) (vs:List V) (H':Hp),Same H H' -> H a=none->H' a=some (.lst vs)->lY X.K G (mn H' (hide a O)) (j8 kf ps) vs->Q (V.ref a) H') :
  wpAny (model X.prog X.w) X.A (call (.builtin "sorted") [.ref l] [(Str.ofString "key",f)]) (EP X pins σ Q) E t:=by
 obtain⟨_,its,n,r,hlen,e⟩:=L3.Inv.Ld I rd;have lps:ps.length=xs.length:=al.length;have gl:(ps.map kf).length=its.length:=by rw[aa];lia
 have gat:∀i,i<ps.length->∃p,ps[i]?=some p/\(ps.map kf).getD i []=kf p:=λi hi=>⟨ps[i],ac hi,by rw[gQ,az,ac hi];rfl⟩;refine SQ (G:=G) (O:=O) I ⟨_,e,rfl,n,rfl⟩ gl nd (by lia) hu ht (λpins' H1 s1 i v hv I1 ip s1'=>?_) λD nD fD H' p c s' I' sm hD eD pr so=>?_
 ·have il:i<its.length:=(aj.mp hv).1;obtain⟨pp,ep,eg⟩:=gat i (by lia);obtain⟨xv,hxv,at1⟩:=al.at ep;obtain⟨v',hv',rl⟩:=r.get hxv;rw[hv]at hv';cases hv';rw[eg];exact key pins' H1 s1 pp xv v (bQ ep) (At.mono (lL s1') _ _ at1) rl I1 ip s1'
 ·have pl:∀i∈p,i<its.length:=λi hi=>a7.mp (pr.mem_iff.mp hi);have get:∀i∈p,∃pp xv v,ps[i]?=some pp/\xs[i]?=some xv/\its[i]?=some v/\At X.K G (mn H O) pp xv/\RelV xv v:=λi hi=>by obtain⟨pp,ep,_⟩:=gat i (by have:=pl i hi;lia);obtain⟨xv,hxv,at1⟩:=al.at ep;obtain⟨v',hv',rl⟩:=r.get hxv;exact⟨pp,xv,v',ep,hxv,hv',at1,rl⟩
  have rv:Vals (p.map λi=>xs.getD i .non) (Cq its p):=by
   unfold Cq;clear so pr eD
   induction p with
   |nil=>exact .nil
   |cons i p ih=>obtain⟨pp,xv,v,a,b,c',d,e'⟩:=get i af;refine .cons ?_ (ih (λi hi=>pl i (ae _ hi)) λi hi=>get i (ae _ hi));dsimp only;rw[gQ,gQ,b,c'];exact e'
  have sl:(p.map λi=>xs.getD i .non).length<=sizeLine:=by rw[aa,pr.length_eq,ao,dC];lia
  have I3:=Pg I' fD hD eD rv sl;have sD:Same H' (upd H' D (.lst (p.map λi=>xs.getD i .non))):=same_new hD _;have es:j8 kf ps=p.map λi=>ps.getD i .non:=by
   refine Ba ?_ ?_
   ·have h1:(p.map λi=>ps.getD i .non).Perm ((List.range its.length).map λi=>ps.getD i .non):=pr.map _;have h2:((List.range its.length).map λi=>ps.getD i .non)=ps:=by refine cF (by rw[aa,ao];lia) λi h1 h2=>?_;rw[bA,bu,gQ,ac h2];rfl
    rw[h2]at h1;exact h1
   ·rw[cT];refine so.imp_of_mem λ{a b} ha hb h=>?_;obtain⟨pa,ea,ga⟩:=gat a (by have:=pl a ha;lia);obtain⟨pb,eb,gb⟩:=gat b (by have:=pl b hb;lia);rw[ga,gb]at h;rw[gQ,gQ,ea,eb];exact h
  refine⟨.ref D,_,I3,rfl,q D _ _ (sm.trans sD) nD upd_same ?_⟩;rw[es];refine lY.mono (mY (sm.trans sD) nD) _ _ ?_;clear so pr eD es sl I3 sD rv
  induction p with
  |nil=>exact rfl
  |cons i p ih=>obtain⟨pp,xv,v,a,b,c',d,e'⟩:=get i af;refine⟨_,_,rfl,?_,ih (λi hi=>pl i (ae _ hi)) λi hi=>get i (ae _ hi)⟩;dsimp only;rw[gQ,gQ,a,b];exact d
end
end L3
namespace L2
section
variable {prog:Program}{w:World}{A:Around}{s:Shared}{Q:Value->Shared->Prop}{E:Value->Shared->Prop}
theorem Pq {f c' t fa:Addr}{its:Lv}{wv pm ctv:Value}{y q fn:Str}{params:Arguments}{scope:Scope}{p1 p2 p3 pf pc:Pos}{j:Nat}{K:Fg}{mg:Mg}{base:Heap}
  (ho:s.heap.get? f=some (W.kla_obj "<lambda>" q params (.Call (.Name fn pf) [.Subscript (.Name y p1) (.Constant (.int 0) j p2) p3] [] pc) scope [] pm c' ctv)) (hcd:s.heap.CodeRec (.ref c') q) (hroom:A.depth<recursionLimit) (hlim:s.heap.NoLimit)
  (hbind:bindArgs (W.kla_fn "<lambda>" q params (.Call (.Name fn pf) [.Subscript (.Name y p1) (.Constant (.int 0) j p2) p3] [] pc) scope [] pm (.ref c') ctv) ⟨[.ref t],[]⟩=pure [(y,.ref t)])
  (hloc:scope.names.lookup y=some .local) (hnc:∀z∈scope.names,z.2 ≠ .cell) (hk:scope.kind=.function) (hco:scope.isCoroutine=false) (hgen:scope.isGenerator=false) (hyd:(y == ("__debug__":Str))=false)
  (hgl:scope.names.lookup fn=some .globalImplicit) (hfd:(fn == ("__debug__":Str))=false) (hmod:s.heap.Ns mainGlobals mg) (hm:mg fn=some (.ref fa)) (hKb:K.In base) (hkeep:W.keepIn K (.ref fa)=true)
  (he:starEach [.Subscript (.Name y p1) (.Constant (.int 0) j p2) p3] (W.envX q scope s.heap.objs.size f (.ref c') [])=(false,eval (.Subscript (.Name y p1) (.Constant (.int 0) j p2) p3) (W.envX q scope s.heap.objs.size f (.ref c') []))::starEach [] (W.envX q scope s.heap.objs.size f (.ref c') []))
  (tup:IsTup s.heap t its.toArray) (hi:its[0]?=some wv) (kin:∀h',(∀b o,s.heap.get? b=some o->h'.get? b=some o)->K.In h')
  (h:∀h' tk o es ep,(∀b o,s.heap.get? b=some o->h'.get? b=some o)->h'.get? s.heap.objs.size=some o->o.data=.dict es ep->s.heap.objs.size<h'.objs.size->wpAny (model prog w) (A.deeper (W.envX q scope s.heap.objs.size f (.ref c') [])) (call (.ref fa) [wv]) Q (λ_ _=>False) { s with heap:=h',toks:=tk }) :
  wpAny (model prog w) A (call (.ref f) [.ref t]) Q E s:=by
 refine fU (iB hroom ho rfl hco hgen rfl hcd ?_);rw[hbind];refine bI (fP hnc (λz hz=>?_) (λh₁ hns hsb=>⟨hlim.fresh _ hsb,?_⟩) hk)
 ·rw[bv.mp hz];exact hloc
 have hk₁:∀b o,s.heap.get? b=some o->h₁.get? b=some o:=λb o e=>hsb.extBut b o (be (aA e)) (ay _ e);refine iC ?_;have tup1:IsTup h₁ t its.toArray:=by obtain⟨o,e,r⟩:=tup;exact⟨o,hk₁ _ _ e,r⟩
 have len:0<its.length:=(aj.mp hi).1;have hlt:=hns.lt;refine cJ (eC hk hgl (Calls.loadGlobal_global (hmod.keeps hk₁) hm ?_) hfd);refine dQ (h₀:=base) hKb hkeep ?_ he rfl;refine args_cons (Subscript_ (iz (eH hk hloc hns (v:=.ref t) ?_ ?_) hyd)) he
 ·simp
 refine gr ?_;refine dP (x:=wv) tup1.typeIs slot_tuple_getitem.lookup (getItem_tuple (j:=0) (Q:=λr s'=>r=wv/\_) tup1 (by decide) (by decide) ?_ (by simpa using hi) ⟨rfl,?_⟩) rfl
 ·rw[aw];unfold seqIndex?;have:(0:Int)<(its.length:Int):=by lia
  simp[this];exact λz=>by rw[z]at len;cases len
 ·obtain⟨o,es,ep,e,d,_⟩:=hns;refine args_nil ⟨kin h₁ hk₁,?_⟩;exact eZ (h _ _ o es ep hk₁ e d hlt) (λ_ _ x=>x) λ_ _ x=>x.elim
end
end L2
namespace L3
open L2
section
variable {X:Cx}{pins:List (Addr×Obj)}{σ:L2.St}{H:Hp}{s:Shared}{G:Gx}{O:Addr->Bool}{A:Around}{pre:List PV->Prop}{F:List PV->PV}{j k:Nat}{fn:Str}{x:Str}
theorem Ot {outer:List Env}{ch:List Addr}{fa:Addr}{fd:FuncData}{p:PV}{v:V}{u:Value}(FF:FnOk X.prog X.w X.K X.mg X.base CX0 j fa fd [x] (ym X.K G pre F))(hb:Binds X.K fd [x] [])(hr:Room j A)(e0:Env0 X.prog X.w X.K X.mg X.base A outer s H)(I:Inv X pins σ H s)
  (ho:∀b∈frs outer,b∈frs X.stack\/b∈ch) (hch:∀b∈ch,o7 X pins b) (dom:∀a,O a=true->H a≠none) (at1:At X.K G (mn H O) p v) (rl:RelV v u) (hp:pre [p]) :
  wpAny (model X.prog X.w) A (call (.ref fa) [u]) (λk s'=>∃kv H',Inv X pins σ H' s'/\Same H H'/\RelV kv k/\At X.K G (mn H' O) (F [p]) kv) (λ_ _=>False) s:=by
 refine fU (gu (FF.run A outer s H ⟨[u],[]⟩ [u] [v] (λkv H'=>Same H H'/\At X.K G (mn H' O) (F [p]) kv) (λ_ _ _=>False) hr e0 (hb s [u] I.kIn rfl) (.cons rl .nil) ⟨[p],O,dom,⟨v,[],rfl,at1,rfl⟩,hp,λkv H' a b=>⟨a,b⟩⟩) λr s' hq=>?_);cases r with
 |error e=>exact False.elim hq
 |ok fl=>
  cases fl with
  |ret u=>
   obtain⟨kv,H',os,bare,un,hok,r,q1,q2⟩:=hq;refine⟨kv,H',I.call' (ch:=ch) os ⟨λb o e n h1 h2=>un.keep b o e n (λz=>(ho b z).elim h1 h2) (by simp),λb o e n h1 h2=>?_,λb o e n _=>un.free b o e n (by simp),λb o e _=>un.there b o e (by simp),un.tups,un.frzs,un.tbls⟩ hok bare λb hb=>?_,q1,r,q2⟩
   ·exact un.any e n (by simp)
   ·have F:=hch b hb;exact⟨.inr F.big,F.loc,F.cel,F.pin⟩
  |next=>exact False.elim hq
  |brk=>exact False.elim hq
  |cont=>exact False.elim hq
end
structure aaC (kf:PV->List Int)(ps:List PV):Prop where
 len:ps.length<64
 nd:(ps.map kf).Nodup
def OD:PV->PV
 | .tup (x::_)=>x
 |_=>.non
section
variable {X:Cx}{G:Gx}{a:Expr}{pos p pk kp posL p1 p2 p3 pf pc:Pos}{Ca:En->Prop}{ga:En->PV}{i j k:Nat}{x y fn:Str}{params:Arguments}{scope:Scope}{pre:List PV->Prop}{F:List PV->PV}
theorem Vf (kf:PV->List Int)(o:Ok X.prog X.w X.K X.mg X.base j fn [x] (ym X.K G pre F))(hr:Room k X.A)(hm:X.mg "sorted"=none)(ha:PE X a (tX X.K G Ca ga))(hj:j+2<=k:=by decide)(hgf:Gl X fn:=by rfl)(hdb:(fn == ("__debug__":Str))=false:=by decide)(hg:Gl X "sorted":=by rfl)(he:starEach [a] X.env=[(false,eval a X.env)]:=by rfl) :
  PE X (.Call (.Name "sorted" p) [a] [⟨some "key",.Name fn pk,kp⟩] pos) (yU X.K G (λZ=>Ca Z/\ga Z=.lst (rG (ga Z))/\aaC kf (rG (ga Z))/\∀q∈rG (ga Z),pre [q]/\F [q]=Xi (kf q)) λZ=>j8 kf (rG (ga Z))):=by
 intro pins s σ H Q I ⟨B,Z,O,R,c,q⟩;refine cJ (ld_blt I hg hm xu ?_ (by decide) (by decide));refine fg (thn (pa_cons ha pa_nil he pos pins s σ H (λvs H'=>∃l xs,vs=[.ref l]/\Same H H'/\Rd (mn H' O) l (.lst xs)/\lY X.K G (mn H' O) (rG (ga Z)) xs) I ⟨B,Z,O,R,c.1,λv H1 s1 a1=>?_⟩) λus t1 h=>?_) (by rw[he];rfl) (by rw[he];rfl)
 ·rw[c.2.1]at a1;obtain⟨l,xs,rfl,r1,al⟩:=a1;exact⟨l,xs,rfl,s1,r1,al⟩
 obtain⟨vs,H1,I1,rv,l,xs,rfl,s1,rd,al⟩:=h;obtain⟨u,rfl,ru⟩:=vals1 rv;cases ru;obtain⟨_,_,PO,PF⟩:=c;have q:∀(a:Addr) (vs:List V) (H':Hp),Same H H' -> H a=none->H' a=some (HO.lst vs)->lY X.K G (mn H' (hide a O)) (j8 kf (rG (ga Z))) vs->Q (V.ref a) H':=q;generalize rG (ga Z)=ps at *
 obtain⟨fa,fd,FF,hb,hkp,hmg⟩:=o.ex;refine kws_cons (ld_glob I1 hgf hmg (kws_nil ?_) hdb);have hr2:Room (j+2) X.A:=hr.mono hj;have dom:∀a,O a=true->H1 a≠none:=(R.grow s1).dom;refine Dm kf I1 (jC jT rd) al PO.len PO.nd hr2.in1.in1.units (λx=>ksk_t1 _ _) (λpins' H2 s2 pp v u hp at1 rl I2 _ sm=>?_) λa vs H' sm n e alv=>q a vs H' (s1.trans sm) (s1.free n) e alv;obtain⟨g1,g2⟩:=PF pp hp;have:=Ot (O:=O) (ch:=[]) FF hb hr2.in1.in1 I2.env0.in1.in1 I2 (λb z=>.inl z) (λb z=>absurd z (by simp)) (λa z y=>dom a z (sm.free y)) at1 rl g1;rw[g2]at this;exact this
theorem RD (kf:PV->List Int)(o:Ok X.prog X.w X.K X.mg X.base j fn [x] (ym X.K G pre F))(hl:O5 X.K X.env.code (X.env.qual++"<lambda>"))(hr:Room k X.A)(hm:X.mg "sorted"=none)(ha:PE X a (tX X.K G Ca ga))(hj:j+3<=k:=by decide)(hdb:(fn == ("__debug__":Str))=false:=by decide)(hg:Gl X "sorted":=by rfl)(he:starEach [a] X.env=[(false,eval a X.env)]:=by rfl)
  (hdef:defaultsOf params X.env=([],[]):=by rfl) (hcl:closureFor scope X.env=pure []:=by rfl)
  (hbind:∀(pm ctv:Value) (c' t:Addr),bindArgs (W.kla_fn "<lambda>" (X.env.qual++"<lambda>") params (.Call (.Name fn pf) [.Subscript (.Name y p1) (.Constant (.int 0) i p2) p3] [] pc) scope [] pm (.ref c') ctv) ⟨[.ref t],[]⟩=pure [(y,.ref t)]:=by intros;rfl)
  (hse:∀env:Env,starEach [.Subscript (.Name y p1) (.Constant (.int 0) i p2) p3] env=(false,eval (.Subscript (.Name y p1) (.Constant (.int 0) i p2) p3) env)::starEach [] env:=by intros;rfl)
  (hloc:scope.names.lookup y=some .local:=by rfl) (hnc:∀z∈scope.names,z.2 ≠ .cell:=by decide) (hk:scope.kind=.function:=by rfl) (hco:scope.isCoroutine=false:=by rfl) (hgen:scope.isGenerator=false:=by rfl) (hyd:(y == ("__debug__":Str))=false:=by decide) (hgl:scope.names.lookup fn=some .globalImplicit:=by rfl) :
  PE X (.Call (.Name "sorted" p) [a] [⟨some "key",.Lambda params (.Call (.Name fn pf) [.Subscript (.Name y p1) (.Constant (.int 0) i p2) p3] [] pc) scope posL,kp⟩] pos) (yU X.K G (λZ=>Ca Z/\ga Z=.lst (rG (ga Z))/\aaC kf (rG (ga Z))/\∀q∈rG (ga Z),(∃r,q=.tup (OD q::r))/\pre [OD q]/\F [OD q]=Xi (kf q)) λZ=>j8 kf (rG (ga Z))):=by
 intro pins s σ H Q I ⟨B,Z,O,R,c,q⟩;refine cJ (ld_blt I hg hm xu ?_ (by decide) (by decide));refine fg (thn (pa_cons ha pa_nil he pos pins s σ H (λvs H'=>∃l xs,vs=[.ref l]/\Same H H'/\Rd (mn H' O) l (.lst xs)/\lY X.K G (mn H' O) (rG (ga Z)) xs) I ⟨B,Z,O,R,c.1,λv H1 s1 a1=>?_⟩) λus t1 h=>?_) (by rw[he];rfl) (by rw[he];rfl)
 ·rw[c.2.1]at a1;obtain⟨l,xs,rfl,r1,al⟩:=a1;exact⟨l,xs,rfl,s1,r1,al⟩
 obtain⟨vs,H1,I1,rv,l,xs,rfl,s1,rd,al⟩:=h;obtain⟨u,rfl,ru⟩:=vals1 rv;cases ru;obtain⟨cc,P,hcode,hx⟩:=hl;obtain⟨_,_,PO,PF⟩:=c;have q:∀(a:Addr) (vs:List V) (H':Hp),Same H H' -> H a=none->H' a=some (HO.lst vs)->lY X.K G (mn H' (hide a O)) (j8 kf (rG (ga Z))) vs->Q (V.ref a) H':=q;generalize rG (ga Z)=ps at *
 obtain⟨fa,fd,FF,hb,hkp,hmg⟩:=o.ex;refine kws_cons (Ie I1 hcode hx rfl hdef hcl _ λf c' ctv H2 t2 I2 kp2 tb2 hf fn0 fz os fnew=>kws_nil ?_);have s2:Same H1 H2:=λb o e=>by cases o<;>first|exact kp2 b _ e (λt z=>by cases z)|(obtain⟨ps',z⟩:=tb2 b _ e;exact⟨ps',z⟩)
 have hr2:Room (j+3) X.A:=hr.mono hj;have dom:∀a,O a=true->H2 a≠none:=λa z y=>(R.grow s1).dom a z (s2.free y);have fF:=o7.of I1 fnew;have Ip:=Gn I2 hf fn0 fF.loc fF.fs λv z=>by cases z
 obtain⟨oc,fu,fz1,fz2⟩:=fz;refine eZ (Dm (Q:=Q) kf Ip (jC (jT.trans s2) rd) (lY.mono (lL s2) _ _ al) PO.len PO.nd (hr2.mono (by lia:j+2<=j+3)).in1.in1.units (λx=>ksk_t1 _ _) (λpins' H3 s3 pp v u hp at1 rl I3 ip sm=>?_) λa vs H' sm n e alv=>q a vs H' ((s1.trans s2).trans sm) ((s1.trans s2).free n) e alv) (λr s' h=>?_) λ_ _ z=>z
 ·obtain⟨⟨rr,er⟩,g1,g2⟩:=PF pp hp;rw[er]at at1;obtain⟨t,us,rfl,ht,ux,ur,rfl,ax,au⟩:=at1;cases rl;obtain⟨_,its2,r2,tup⟩:=I3.hok t _ (rW ht).2;cases r2 with
  |cons q0 q1=>
   have hf3:=(I3.pin (f,_) (aH _ (ip _ af))).1;have hc3:H3 c'=some (.frz oc fu):=by have:=sm c' _ fz1;exact this
   have A1:Room (j+1) X.A.in1.in1:=hr2.in1.in1;refine Pq (mg:=X.mg) (K:=X.K) (base:=X.base) hf3 (Ao.rec (I3.hok c' _ hc3).1 fz2) A1.depth (I3.ok.mod.nolimit.keeps I3.bk) (hbind _ _ _ _) hloc hnc hk hco hgen hyd hgl hdb (I3.mod.glob.keeps I3.bk) hmg I3.mod.kin hkp (hse _) tup rfl (λh' kk=>λb o e=>kk b o (I3.kIn b o e)) λh' tk o es ep kk eL dL lt=>?_;have I4:=I3.kept (h':=h') (t':=tk) kk;have fL:=o7.of I3 (aq s3.heap.objs.size);have HL:H3 s3.heap.objs.size=none:=I3.hok.fresh (aq _);have bL:X.base.get? s3.heap.objs.size=none:=Heap.get?_none_of_le (aJ I3.env0.bsz (aq _));have e0:=I4.env0.in1.in1;have:=Ot (O:=O) (ch:=[s3.heap.objs.size]) (outer:=W.envX (X.env.qual++"<lambda>") scope s3.heap.objs.size f (.ref c') []::X.stack) (A:=X.A.in1.in1.deeper (W.envX (X.env.qual++"<lambda>") scope s3.heap.objs.size f (.ref c') [])) FF hb (A1.deeper _)
    ⟨by
     show Option.map _ X.A.in1.in1.frames=_;rw[e0.frames];rfl,e0.mod,e0.bs,e0.bsz,⟨(λz=>nomatch hk.symm.trans (show scope.kind=.module from z)),⟨s3.heap.objs.size,o,rfl,bL,eL,λvs z=>by rw[dL]at z;cases z⟩,e0.funs⟩,⟨λb hb=>(aC.mp hb).elim (λz=>by rw[z];exact HL) λz=>e0.frf.f b z,e0.frf.t⟩,e0.hok,e0.bare⟩
    I4 (λb z=>(aC.mp z).elim (λz=>.inr (by rw[z];exact bv.mpr rfl)) λz=>.inl z) (λb z=>by rw[bv.mp z];exact fL) (λa z y=>dom a z (sm.free y)) ax q0 g1
   rw[g2]at this;exact this
 ·obtain⟨v,H',I',rv,qv⟩:=h;exact⟨v,H',(xF I').1,rv,qv⟩
end
section
variable {K:Fg}{G:Gx}{σ:L2.St}{H:Hp}{Q:VK}{Cs Ct Cb:En->Prop}{pt:En->Prop}[∀Z,Decidable (pt Z)]{gn:En->Int}{gp:En->PV}{cap:List (Option Nat)}
theorem aa4 (h:yU K G (λZ=>Cs Z/\(0<=gn Z/\gn Z<=10000)/\∀k:Nat,k<(gn Z).toNat->Ct ((jN (none::cap) Z).set 0 (.fr (.int k)))/\(pt ((jN (none::cap) Z).set 0 (.fr (.int k)))->Cb ((jN (none::cap) Z).set 0 (.fr (.int k)))))
   (λZ=>((List.range (gn Z).toNat).filter λ(k:Nat)=>decide (pt ((jN (none::cap) Z).set 0 (.fr (.int k))))).map λ(k:Nat)=>gp ((jN (none::cap) Z).set 0 (.fr (.int k)))) σ H Q) :
  Ut (none::cap) (iRng1 (tCons (mV K G Cs gn) tNil)) (gName 0) (vg K G Ct pt) (tX K G Cb gp) σ H Q:=by
 obtain⟨B,Z,O,R,⟨c1,c2,c3⟩,q⟩:=h;refine⟨B,Z,O,R,c1,λv H1 s1 a1=>?_⟩;subst a1;have hz:(List.range (gn Z).toNat).length=(gn Z).toNat:=ao;refine⟨gn Z,rfl,by lia,by lia,λD hD=>?_⟩;refine Hs (List.range (gn Z).toNat) (λ_ v=>(pK (none::cap) σ).set 0 (some v)) (λ(k:Nat)=>(jN (none::cap) Z).set 0 (.fr (.int k))) (λ(k:Nat)=>.int k) (R.grow s1) hD (by rw[hz];lia) (λi H hi s=>by rw[hz]at hi;exact hi) ?_ (λH s=>by rw[hz];exact aq _) (λk H _ s R'=>R'.set (p:=.int k) rfl) ?_ (λk hk=>(c3 k (a7.mp hk)).1) (λk hk=>(c3 k (a7.mp hk)).2) ?_
 ·rintro i k x H H' en s ⟨rfl,rfl⟩;have hlt:i<(gn Z).toNat:=by have:=(aj.mp en).1;rw[hz]at this;exact this
  rw[cw hlt]at en;cases en;refine⟨Same.refl _,λkk hk=>?_⟩;have e:(0:Int)+(i:Nat)=i:=by lia
  rw[e];exact hk
 ·intro k;exact ni _
 ·intro H' ys s hd al;exact q D ys H' (s1.trans s) (s1.free hD) hd al
end
section
variable {X:Cx}{G:Gx}{N':List Str}{sc:Scope}{cl:List (Str×Addr)}{cap:List (Option Nat)}{el tg src tst:Expr}{at' p pos':Pos}{Cs Ct Cb:En->Prop}{pt:En->Prop}[∀Z,Decidable (pt Z)]{gn:En->Int}{gi:En->Int}
theorem Xo (L:vC X N' sc cl (none::cap))(hc:X.calm=true)(hgl:Gl X "range")(hm:X.mg "range"=none)(hi:PE X src (mV X.K G Cs gn))(hg:∀s H fp,PG (jK X N' sc cl s H fp) tg (gName 0))(ht:∀s H fp,PT (jK X N' sc cl s H fp) tst (vg X.K G Ct pt))(he:∀s H fp,PE (jK X N' sc cl s H fp) el (mV X.K G Cb gi))
  (hst:starEach [src] X.env=[(false,eval src X.env)]:=by rfl) (hs:∀x,foldedSetIterable (.Call (.Name "range" p) [src] [] pos') X.env x=pure x:=by intro _;rfl) :
  PE X (.ListComp el [⟨tg,.Call (.Name "range" p) [src] [] pos',[tst],0⟩] sc at') (Gp X.K G (λZ=>Cs Z/\(0<=gn Z/\gn Z<=10000)/\∀k:Nat,k<(gn Z).toNat->Ct ((jN (none::cap) Z).set 0 (.fr (.int k)))/\(pt ((jN (none::cap) Z).set 0 (.fr (.int k)))->Cb ((jN (none::cap) Z).set 0 (.fr (.int k)))))
   λZ=>((List.range (gn Z).toNat).filter λ(k:Nat)=>decide (pt ((jN (none::cap) Z).set 0 (.fr (.int k))))).map λ(k:Nat)=>gi ((jN (none::cap) Z).set 0 (.fr (.int k)))):=
 λpins s σ H Q I h=>yF L hc (pi_range1 hgl hm (pa_cons hi pa_nil hst) hst) hg (λs H fp=>Oo (ht s H fp)) he hs pins s σ H Q I (aa4 (EY h))
end
theorem BR:¬(some NameKind.cell:Option NameKind)=some NameKind.local:=nofun
theorem pB {N ps:Ls}{sc:Scope}(a:sc.kind=.function:=by rfl)(b:sc.isCoroutine=false:=by rfl)(c:sc.isGenerator=false:=by rfl)(d:N.Nodup:=by decide +kernel)(e:N.take ps.length=ps:=by rfl)(f:∀x∈ps,sc.names.lookup x=some .local\/sc.names.lookup x=some .cell:=by decide +kernel)(g:∀y∈sc.names,y.2 ≠ .free:=by decide +kernel):FnScope N ps sc:=⟨a,b,c,d,e,f,g⟩
theorem pO (i:Nat){X:Cx}{x:Str}{pos:Pos}(hN:X.N.Nodup:=by(dsimp only[jK];decide +kernel))(hi:X.N[i]?=some x:=by rfl)(hx:Loc X.env.scope x:=by exact Or.inl rfl)(hf:X.fn x=true\/X.env.scope.names.lookup x=some .local:=by exact .inr rfl):PG X (.Name x pos) (gName i):=pg_name hN hi hx hf
end L3
end
namespace lE
open PySem L2 L3 PyProof.Rows FM
abbrev vf:Stmt:=top 7
theorem zH:FnScope ["numbers"] ["numbers"] (defScope vf):=pB
abbrev Dq:Stmt:=top 8
theorem Bt:FnScope ["kind","f","numbers"] ["kind","f"] (defScope Dq):=pB
abbrev RN:Stmt:=top 9
theorem zu:FnScope ["kind","f","g","sums","at","number"] ["kind","f","g"] (defScope RN):=pB
abbrev Uq:Stmt:=top 10
theorem Ws:FnScope ["kind","f","g"] ["kind","f","g"] (defScope Uq):=pB
abbrev M5:Stmt:=top 11
theorem pN:FnScope ["kind","f","g","ones","others","sums","at","one","behind","other"] ["kind","f","g"] (defScope M5):=pB
abbrev Jt:Stmt:=top 12
theorem Qm:FnScope ["kind","f","number"] ["kind","f","number"] (defScope Jt):=pB
abbrev Mj:Stmt:=top 13
theorem Ri:FnScope ["kind","f"] ["kind","f"] (defScope Mj):=pB
abbrev CT:Stmt:=top 14
theorem m8:FnScope ["kind","f","g","rest","divisor","quotient","gap","often","at","number"] ["kind","f","g"] (defScope CT):=pB
abbrev Ms:Stmt:=top 15
theorem tM:FnScope ["kind","f","number","place","total","one"] ["kind","f","number"] (defScope Ms):=pB
abbrev HQ:Stmt:=top 17
theorem qi:FnScope ["kind","f","g","before","rest","behind"] ["kind","f","g"] (defScope HQ):=pB
abbrev sU:Stmt:=top 18
theorem xq:FnScope ["kind","f"] ["kind","f"] (defScope sU):=pB
abbrev u9:Stmt:=top 19
theorem zO:FnScope ["kind","f"] ["kind","f"] (defScope u9):=pB
abbrev Ae:Stmt:=top 21
theorem HS:FnScope ["kind","one","other","g"] ["kind","one","other","g"] (defScope Ae):=pB
abbrev Jq:Stmt:=top 22
theorem pD:FnScope ["kind","f","many","g","product","square","left"] ["kind","f","many","g"] (defScope Jq):=pB
abbrev wO:Stmt:=top 23
theorem mU:FnScope ["kind","f","count","g","degree","rest","rows","step"] ["kind","f","count","g"] (defScope wO):=pB
abbrev Ar:Stmt:=top 24
theorem yD:FnScope ["kind","g","degree"] ["kind","g"] (defScope Ar):=pB
abbrev wN:Stmt:=top 26
theorem jX:FnScope ["kind","f","left","pairs","factor","found","g","often"] ["kind","f"] (defScope wN):=pB
abbrev sX:Stmt:=top 27
theorem jO:FnScope ["kind","f","deeper","layer","pairs","often","next_layer","g"] ["kind","f"] (defScope sX):=pB
abbrev wD:Stmt:=top 29
theorem Cr:FnScope ["length"] ["length"] (defScope wD):=pB
abbrev Bh:Stmt:=top 30
theorem yu:FnScope ["at","length","row"] ["at","length"] (defScope Bh):=pB
abbrev Dy:Stmt:=top 31
theorem qy:FnScope ["kind","rows","width","wide","turn","back"] ["kind","rows"] (defScope Dy):=pB
abbrev oK:Stmt:=top 32
theorem jF:FnScope ["kind","rows","width","units","table","done","at","found"] ["kind","rows","width"] (defScope oK):=pB
abbrev yo:Stmt:=top 33
theorem Gi:FnScope ["kind","row"] ["kind","row"] (defScope yo):=pB
abbrev qD:Stmt:=top 34
theorem pZ:FnScope ["rows","at","done","place"] ["rows","at","done"] (defScope qD):=pB
abbrev rK:Stmt:=top 35
theorem vY:FnScope ["rows","found","done"] ["rows","found","done"] (defScope rK):=pB
abbrev oZ:Stmt:=top 36
theorem mK:FnScope ["kind","rows","at","done","factor","first"] ["kind","rows","at","done"] (defScope oZ):=pB
abbrev vh:Stmt:=top 37
theorem Ag:FnScope ["kind","row","at","first"] ["kind","row","at","first"] (defScope vh):=pB
abbrev Io:Stmt:=top 38
theorem CW:FnScope ["kind","rows","told"] ["kind","rows"] (defScope Io):=pB
abbrev yH:Stmt:=top 40
theorem Ga:FnScope ["g"] ["g"] (defScope yH):=pB
abbrev pW:Stmt:=top 41
theorem uw:FnScope ["kind","g"] ["kind","g"] (defScope pW):=pB
abbrev uh:Stmt:=top 42
theorem yP:FnScope ["kind","row","at"] ["kind","row","at"] (defScope uh):=pB
abbrev s_split:Stmt:=top 43
theorem ue:FnScope ["kind","g","pieces","staying","h"] ["kind","g"] (defScope s_split):=pB
abbrev qC:Stmt:=top 44
theorem pY:FnScope ["kind","h","count","g","relation"] ["kind","h","count","g"] (defScope qC):=pB
abbrev wW:Stmt:=top 45
theorem nU:FnScope ["kind","pieces","h","numbers","finer","piece","number","shared"] ["kind","pieces","h","numbers"] (defScope wW):=pB
abbrev Oq:Stmt:=top 46
theorem qH:FnScope ["kind","f","pairs","free","often","g"] ["kind","f"] (defScope Oq):=pB
abbrev zT:Stmt:=top 49
theorem uz:FnScope ["number","divisor"] ["number"] (defScope zT):=pB
abbrev Jd:Stmt:=top 50
theorem lK:FnScope ["number","size","before","rest","share_before","share","often","rest_behind","share_behind"] ["number","size"] (defScope Jd):=pB
abbrev qM:Stmt:=top 51
theorem vm:FnScope ["number"] ["number"] (defScope qM):=pB
abbrev Dl:Stmt:=top 55
theorem JW:FnScope ["_law_script","_law_k"] ["_law_script","_law_k"] (defScope Dl):=pB
abbrev Tu:Stmt:=top 56
theorem Mz:FnScope ["_law_script","_law_number"] ["_law_script"] (defScope Tu):=pB
abbrev U8:Stmt:=top 57
theorem Ou:FnScope ["_law_row","_law_size"] ["_law_row","_law_size"] (defScope U8):=pB
abbrev NK:Stmt:=top 58
theorem Tj:FnScope ["_law_found"] ["_law_found"] (defScope NK):=pB
abbrev Nq:Stmt:=top 59
theorem Hn:FnScope ["_law_found","_law_due","_law_k"] ["_law_found","_law_due"] (defScope Nq):=pB
abbrev uW:Stmt:=top 60
theorem qw:FnScope ["_law_cell","_law_number"] ["_law_cell"] (defScope uW):=pB
abbrev M4:Stmt:=top 61
theorem q8:FnScope ["_law_cell","_law_number","_law_at"] ["_law_cell"] (defScope M4):=pB
abbrev yp:Stmt:=top 62
theorem p6:FnScope ["_law_f","_law_g","_law_size","_law_row","_law_i","_law_k"] ["_law_f","_law_g","_law_size"] (defScope yp):=pB
abbrev uY:Stmt:=top 63
theorem uo:FnScope ["_law_found","_law_due","_law_k"] ["_law_found","_law_due"] (defScope uY):=pB
abbrev M7:Stmt:=top 64
theorem Uc:FnScope ["_law_number","_law_size"] ["_law_number","_law_size"] (defScope M7):=pB
abbrev CN:Stmt:=top 65
theorem vo:FnScope ["_law_kind","_law_f","_law_caught","e"] ["_law_kind","_law_f"] (defScope CN):=pB
abbrev Dw:Stmt:=top 66
theorem mC:FnScope ["_law_script","_law_head_here","_law_prime_here","_law_most","_law_kind","_law_lead","_law_counts","_law_f","_law_cell","_law_root","_law_due","_law_k","_law_handed","_law_kept","_law_found"] ["_law_script"] (defScope Dw):=pB
abbrev yq:Stmt:=inClass (top 52) 0
theorem Fl:FnScope ["self","size"] ["self","size"] (defScope yq):=pB
abbrev vX:Stmt:=inClass (top 52) 1
theorem Ce:FnScope ["self","number"] ["self","number"] (defScope vX):=pB
abbrev yG:Stmt:=inClass (top 52) 3
theorem Es:FnScope ["self","a","b"] ["self","a","b"] (defScope yG):=pB
abbrev yC:Stmt:=inClass (top 52) 5
theorem Eo:FnScope ["self","a","b"] ["self","a","b"] (defScope yC):=pB
abbrev vZ:Stmt:=inClass (top 53) 0
theorem Cu:FnScope ["self","prime"] ["self","prime"] (defScope vZ):=pB
structure Top (K:Fg)(mg:Mg)(cFE:Addr)(cNO:Addr)(cNN:Addr)(cK:Addr)(cR:Addr):Prop where
 Cv:nY K mg "cut_noughts" vf ["numbers"]
 PX:nY K mg "trimmed" Dq ["kind","f"]
 ZZ:nY K mg "plus" RN ["kind","f","g"]
 Y4:nY K mg "less" Uq ["kind","f","g"]
 WW:nY K mg "times" M5 ["kind","f","g"]
 R3:nY K mg "scaled" Jt ["kind","f","number"]
 Wl:nY K mg "slope" Mj ["kind","f"]
 Qu:nY K mg "divided" CT ["kind","f","g"]
 Vr:nY K mg "value" Ms ["kind","f","number"]
 T6:nY K mg "common" HQ ["kind","f","g"]
 yM:nY K mg "with_lead_one" sU ["kind","f"]
 Cm:nY K mg "turned_lead" u9 ["kind","f"]
 Ky:nY K mg "times_by" Ae ["kind","one","other","g"]
 U6:nY K mg "raised" Jq ["kind","f","many","g"]
 Ea:nY K mg "power_rows" wO ["kind","f","count","g"]
 KY:nY K mg "powering" Ar ["kind","g"]
 wI:nY K mg "free_parts" wN ["kind","f"]
 yO:nY K mg "seen_by_slope" sX ["kind","f"]
 Gy:nY K mg "unit_table" wD ["length"]
 KJ:nY K mg "unit_row" Bh ["at","length"]
 Qq:nY K mg "echelon" Dy ["kind","rows"]
 rY:nY K mg "cleared_beside_units" oK ["kind","rows","width"]
 JD:nY K mg "plain_row" yo ["kind","row"]
 vy:nY K mg "first_not_nought" qD ["rows","at","done"]
 xW:nY K mg "with_row_moved" rK ["rows","found","done"]
 sZ:nY K mg "with_column_cleared" oZ ["kind","rows","at","done"]
 Cg:nY K mg "row_without" vh ["kind","row","at","first"]
 Tr:nY K mg "kernel" Io ["kind","rows"]
 HY:nY K mg "order_key" yH ["g"]
 uP:nY K mg "powering_less_one" pW ["kind","g"]
 zR:nY K mg "row_less_one" uh ["kind","row","at"]
 Xj:nY K mg "split" s_split ["kind","g"]
 vA:nY K mg "possible_numbers" qC ["kind","h","count","g"]
 Ek:nY K mg "told_apart" wW ["kind","pieces","h","numbers"]
 Nm:nY K mg "parts" Oq ["kind","f"]
 Ko:nY K mg "is_prime" zT ["number"]
 Rc:nY K mg "turned" Jd ["number","size"]
 w5:nY K mg "refuse_no_prime" qM ["number"]
 Qe:nY K mg "_law_cell_at" Dl ["_law_script","_law_k"]
 Yo:nY K mg "_law_head" Tu ["_law_script"]
 Zg:nY K mg "_law_trim" U8 ["_law_row","_law_size"]
 Vs:nY K mg "_law_whole" NK ["_law_found"]
 We:nY K mg "_law_alike" Nq ["_law_found","_law_due"]
 Cd:nY K mg "_law_small_prime" uW ["_law_cell"]
 WQ:nY K mg "_law_prime" M4 ["_law_cell"]
 JH:nY K mg "_law_times" yp ["_law_f","_law_g","_law_size"]
 BX:nY K mg "_law_pairs_alike" uY ["_law_found","_law_due"]
 WX:nY K mg "_law_plain" M7 ["_law_number","_law_size"]
 O4:nY K mg "_law_refused" CN ["_law_kind","_law_f"]
 Gj:GD K mg "free_parts"
 VB:GD K mg "parts"
 j6:mg "len"=none
 pJ:mg "range"=none
 lN:mg "isinstance"=none
 Yu:mg "bool"=none
 aa2:mg "int"=none
 Et:mg "list"=none
 aca:mg "max"=none
 ab8:mg "min"=none
 lZ:mg "enumerate"=none
 M9:mg "tuple"=none
 z6:mg "sorted"=none
 Kz:mg "reversed"=none
 acd:mg "sum"=none
 Ve:mg "zip"=none
 Fi:mg "ValueError"=none
 yL:∃tk,mg "LARGEST_PRIME"=some (.int 9973 tk)
 Dr:W.kitOne K (.type "int") (.type "int")=some true
 Ab:W.kitOne K (.type "int") (.type "bool")=some false
 qL:W.kitOne K (.type "list") (.type "list")=some true
 pG:W.kitOne K (.type "tuple") (.type "tuple")=some true
 Nv:W.kitOne K (.ref cNN) (.type "ValueError")=some true
 M8:W.kitOne K (.ref cNN) (.ref cFE)=some true
 wZ:mg "ForgeError"=some (.ref cFE)
 Hh:mg "NoOver"=some (.ref cNO)
 Ub:JM K cNO
 zL:mg "Nought"=some (.ref cNN)
 Tv:JM K cNN
 Jg:Pa K cNN
 R5:mg "Kind"=some (.ref cK)
 Nb:mg "Rests"=some (.ref cR)
 qp:Cls K cR
 pH:NoAttr K cR "size"
 abQ:W.exmOne K (.ref cNN) (.ref cNN)=some true
 Ib:∃f fd,Fun K "__init__" "Kind.__init__" yq f fd/\Binds K fd ["self","size"] []/\Mt K cK "__init__" f
 DY:∃f fd,Fun K "plain" "Kind.plain" vX f fd/\Binds K fd ["self","number"] []/\Meth K cR "plain" f
 Iu:∃f fd,Fun K "less" "Kind.less" yG f fd/\Binds K fd ["self","a","b"] []/\Meth K cR "less" f
 Iz:∃f fd,Fun K "over" "Kind.over" yC f fd/\Binds K fd ["self","a","b"] []/\Meth K cR "over" f
 Eh:∃f fd,Fun K "__init__" "Rests.__init__" vZ f fd/\Binds K fd ["self","prime"] []/\Mk K cR f
section
variable {w:World}{K:Fg}{h:Heap}{mg:Mg}{fa f C:Addr}{od an:Option Addr}{sl:Array (Option Value)}{oc kV dc pm cd ct:Value}{x q:Str}{st:Stmt}{ps:List Str}{cFE:Addr}{cNO:Addr}{cNN:Addr}{cK:Addr}{cR:Addr}
theorem aaq (X:K.In h)(G:h.Ns mainGlobals mg)(a:W.nsIn K mainGlobals x=some (some (.ref f)))(l:K.lookup f=some ⟨oc,od,.func (W.fnOf x x (defArgs st) (defBody st) (defScope st) .none kV dc pm an cd ct),sl⟩)(c:W.codeIn K cd x=true)(k:W.keepIn K (.ref f)=true)(b:∀(kV dc pm:Value) (an:Option Addr) (cd ct:Value) (us:Lv),us.length=ps.length->bindArgs (W.fnOf x x (defArgs st) (defBody st) (defScope st) .none kV dc pm an cd ct) ⟨us,[]⟩=pure (ps.zip us)):nY K mg x st ps:=.mk' (fun_mk l c k) ((fun_mk l c k).binds b) (dA X G a)
theorem abq {ar:Arguments}{bo:List Stmt}{sc:Scope}{dv:Value}(X:K.In h)(G:h.Ns mainGlobals mg)(a:W.nsIn K mainGlobals x=some (some (.ref f)))(l:K.lookup f=some ⟨oc,od,.func (W.fnOf x x ar bo sc dv kV dc pm an cd ct),sl⟩)(c:Ke K cd (x++".<locals>."++"<lambda>")=true):GD K mg x:=⟨f,oc,od,_,sl,dA X G a,l,O6 c⟩
theorem aao {v:Int}{tk:Tok}(X:K.In h)(G:h.Ns mainGlobals mg)(a:W.nsIn K mainGlobals x=some (some (.int v tk))):∃tk,mg x=some (.int v tk):=⟨_,dA X G a⟩
theorem ZK {C0:Addr}(g0:W.findIn K (.ref C0) x=some (some (.ref f)))(l:K.lookup f=some ⟨oc,od,.func (W.fnOf x q (defArgs st) (defBody st) (defScope st) .none kV dc pm an cd ct),sl⟩)(c:W.codeIn K cd q=true)(k:W.keepIn K (.ref f)=true)(n:W.isFn K (.ref f)=true)(b:∀(kV dc pm:Value) (an:Option Addr) (cd ct:Value) (us:Lv),us.length=ps.length->bindArgs (W.fnOf x q (defArgs st) (defBody st) (defScope st) .none kV dc pm an cd ct) ⟨us,[]⟩=pure (ps.zip us)):∃f fd,Fun K x q st f fd/\Binds K fd ps []/\Meth K C0 x f:=⟨_,_,fun_mk l c k,(fun_mk l c k).binds b,⟨g0,n,k⟩⟩
theorem abb (g:W.findIn K (.ref C) "__init__"=some (some (.ref f)))(l:K.lookup f=some ⟨oc,od,.func (W.fnOf x q (defArgs st) (defBody st) (defScope st) .none kV dc pm an cd ct),sl⟩)(c:W.codeIn K cd q=true)(k:W.keepIn K (.ref f)=true)(m:W.makesIn K C=true)(n:W.isFn K (.ref f)=true)(kc:W.keepIn K (.ref C)=true)(b:∀(kV dc pm:Value) (an:Option Addr) (cd ct:Value) (us:Lv),us.length=ps.length->bindArgs (W.fnOf x q (defArgs st) (defBody st) (defScope st) .none kV dc pm an cd ct) ⟨us,[]⟩=pure (ps.zip us)):∃f fd,Fun K x q st f fd/\Binds K fd ps []/\Mk K C f:=⟨_,_,fun_mk l c k,(fun_mk l c k).binds b,m,g,n,kc⟩
theorem aaB (g:W.findCls K (.ref C) (.type "type") "__init__"=some (.val (.ref f)))(l:K.lookup f=some ⟨oc,od,.func (W.fnOf x q (defArgs st) (defBody st) (defScope st) .none kV dc pm an cd ct),sl⟩)(c:W.codeIn K cd q=true)(k:W.keepIn K (.ref f)=true)(m:W.specialIn K (.ref C) "__getattribute__"=some (some (.builtin "type.__getattribute__")))(n:W.readsIn K C (.type "type")=true)(b:∀(kV dc pm:Value) (an:Option Addr) (cd ct:Value) (us:Lv),us.length=ps.length->bindArgs (W.fnOf x q (defArgs st) (defBody st) (defScope st) .none kV dc pm an cd ct) ⟨us,[]⟩=pure (ps.zip us)):∃f fd,Fun K x q st f fd/\Binds K fd ps []/\Mt K C "__init__" f:=⟨_,_,fun_mk l c k,(fun_mk l c k).binds b,m,n,g,k⟩
theorem aaO (h:W.findIn K (.ref C) x=some none):NoAttr K C x:=h
theorem abf (h:W.excIn K C bmV "ValueError.__new__"=true):JM K C:=h
def AMk:Prop:=∀{P:Program} {w:World} {K:Fg} {mg:Mg} {base:Heap} {cFE:Addr} {cNO:Addr} {cNN:Addr} {cK:Addr} {cR:Addr},Top K mg cFE cNO cNN cK cR->∀{f:Addr} {fd:FuncData},Fun K "law" "law" Dw f fd->FnOk P w K mg base CX0 14 f fd ["_law_script"] (xN K)
theorem am {r:W.OpenLaw}(AM:AMk)(X:K.In h)(G:h.Ns mainGlobals mg)(hfa:mg "law"=some (.ref fa))(T:Top K mg cFE cNO cNN cK cR)(a:W.nsIn K mainGlobals "law"=some (some (.ref f)))(l:K.lookup f=some ⟨oc,od,.func (W.fnOf "law" "law" (defArgs Dw) (defBody Dw) (defScope Dw) .none kV dc pm an cd ct),sl⟩)(c:W.codeIn K cd "law"=true)(k:W.keepIn K (.ref f)=true):∃fd:FuncData,(∀(s:Shared) (v:Value),BindsTo s fd ⟨[v],[]⟩ [("_law_script",v)])/\∀base:Heap,K.In base->base.Ns mainGlobals mg->FnOk r.prog w K mg base CX0 14 fa fd ["_law_script"] (xN K):=by have e:=hfa.symm.trans (dA X G a);cases e;exact⟨_,λs v=>.of_eq rfl,λbase _ _=>AM T (fun_mk l c k)⟩
end
theorem walk {l:W.OpenLaw}{q:Program}{loose:Ls}{XP:(Str->Option Value)->Heap->Prop}{YP:World->Heap->Prop}{d:DefRec}{K:Params->Fg}(hn:l.most=some 63)(hdf:d.params.defaults=[])
  (hY:∀(w:World) (h:Heap),YP w h->(K w.params).In h) (hL:∀(w:World) (h:Heap),YP w h->Ju (K w.params) h)
  (F:∀(w:World) (mg:Mg) (fa:Addr) (h:Heap),(K w.params).In h->h.Ns mainGlobals mg->mg d.name=some (.ref fa) ->
   ∃fd:FuncData,(∀(s:Shared) (u:Value),BindsTo s fd ⟨[u],[]⟩ [("_law_script",u)])/\∀base:Heap,(K w.params).In base->base.Ns mainGlobals mg->FnOk l.prog w (K w.params) mg base CX0 14 fa fd ["_law_script"] (xN (K w.params))) :
  W.WalkO q loose XP YP l.row.toRowW d [] (λf vs=>PySem.call f vs):=
 L2.Rg (n:=63) (k:=14) (x:="_law_script") (CX:=λ_=>CX0) (sp:=λw=>xN (K w.params)) hn (by decide) hdf ⟨rfl,by decide,by decide⟩ hY F hL (λ_ _ a ns hl hb hS=>⟨a,ns,rfl,hS,hl,hb,λ_=>rfl⟩) λ_ _ _ _ _ z=>z
end lE
section
local macro_rules | `(tactic| o_head $H) => `(tactic| (refine PySem.W.holds_open (q := lE.view) (loose := []) (Xt := fun s => PySem.W.xlAt lE.view [] s && PySem.W.recOk (PySem.W.RowW.records PySem.Challenge.rw_factorforge_k41_roots.row.toRowW) s) (XP := PySem.W.XL lE.view []) (Yf := PySem.W.Hook.obs $H) (Ya := PySem.W.Hook.val $H) (YP := PySem.W.Hook.says $H) (N := 20000) ?hl (PySem.W.Hook.of $H) (PySem.W.Hook.keeps $H) (fun s e => PySem.W.xl_of s (Bool.and_eq_true_iff.mp e).1) PySem.W.XL.keeps (by rfl) (by rfl) (by rfl) (fun s e => PySem.W.recFacts_of (Bool.and_eq_true_iff.mp e).2) (by rfl) (by first | assumption | decide +kernel) (by decide +kernel) ⟨rfl, rfl, rfl, rfl, rfl, by decide +kernel⟩ ?hw ?hc; (case hl => (intro w; exact lE.fin w (by kernel_rfl)))))
theorem bnd1 {Q:List PySem.Value->Prop}(h:∀a,Q [a]):∀us:List PySem.Value,us.length=1->Q us:=λus hl=>match us,hl with|[a],_=>h a
theorem bnd2 {Q:List PySem.Value->Prop}(h:∀a b,Q [a,b]):∀us:List PySem.Value,us.length=2->Q us:=λus hl=>match us,hl with|[a,b],_=>h a b
theorem bnd3 {Q:List PySem.Value->Prop}(h:∀a b c,Q [a,b,c]):∀us:List PySem.Value,us.length=3->Q us:=λus hl=>match us,hl with|[a,b,c],_=>h a b c
theorem bnd4 {Q:List PySem.Value->Prop}(h:∀a b c d,Q [a,b,c,d]):∀us:List PySem.Value,us.length=4->Q us:=λus hl=>match us,hl with|[a,b,c,d],_=>h a b c d
local macro_rules | `(tactic| walk_at "bnd") => `(tactic| (first | exact fun _ _ _ _ _ _ => bnd1 fun _ => rfl | exact fun _ _ _ _ _ _ => bnd2 fun _ _ => rfl | exact fun _ _ _ _ _ _ => bnd3 fun _ _ _ => rfl | exact fun _ _ _ _ _ _ => bnd4 fun _ _ _ _ => rfl))
open PySem PySem.W PyProof.Rows
set_option maxRecDepth 100000 in
set_option maxHeartbeats 0 in
theorem lE.pre (AM:lE.AMk):PySem.Challenge.rw_factorforge_k41_roots.Holds:=by
 w_on;o_law;k_head;(rotate_left;rotate_right);(· w_witness2)
 k_fill
 refine lE.walk (l:=PySem.Challenge.rw_factorforge_k41_roots) rfl rfl (λw h Y=>PySem.W.km_in_of Y) (λw h Y=>L3.S7 (by kernel_rfl) (PySem.W.km_tabs_of Y)) ?F
 case F=>
  intro w mg fa h KX G hmg
  refine' lE.am AM KX G hmg ?T ?a ?l ?c ?k
  case a=>k_is
  case l=>k_is
  case c=>k_is
  case k=>k_is
  case T=>
   constructor
   case wZ=>(refine' dA KX G ?a;(case a=>k_is))
   case Hh=>(refine' dA KX G ?a;(case a=>k_is))
   case zL=>(refine' dA KX G ?a;(case a=>k_is))
   case R5=>(refine' dA KX G ?a;(case a=>k_is))
   case Nb=>(refine' dA KX G ?a;(case a=>k_is))
   all_goals first|(refine' lE.aaq KX G ?a ?l ?c ?k ?b;(case a=>k_is);(case l=>k_is);(case c=>k_is);(case k=>k_is);(case b=>walk_at "bnd"))|(refine' lE.abq KX G ?a ?l ?c;(case a=>k_is);(case l=>k_is);(case c=>kernel_rfl))|(refine' PySem.W.mg_none_of KX G ?a;(case a=>k_is))|(refine' lE.aao KX G ?a;(case a=>k_is))|(refine' lE.ZK ?g0 ?l ?c ?k ?n ?b;(case g0=>k_is);(case l=>k_is);(case c=>k_is);(case k=>k_is);(case n=>k_is);(case b=>walk_at "bnd"))|(refine' lE.abb ?g ?l ?c ?k ?m ?n ?kc ?b;(case g=>k_is);(case l=>k_is);(case c=>k_is);(case k=>k_is);(case m=>k_is);(case n=>k_is);(case kc=>k_is);(case b=>walk_at "bnd"))|(refine' lE.aaB ?g ?l ?c ?k ?m ?n ?b;(case g=>k_is);(case l=>k_is);(case c=>k_is);(case k=>k_is);(case m=>k_is);(case n=>k_is);(case b=>walk_at "bnd"))|(refine' lE.aaO ?a;(case a=>k_is))|(refine' lE.abf ?a;(case a=>k_exc))|kit_is|kts_exm|(constructor<;>k_is)
end
namespace lE
open PySem L2 L3 PyProof.Rows FM
local macro_rules | `(tactic| walk_at "pn0") => `(tactic| first | omega | (dsimp only; omega) | (dsimp only [List.length_cons, List.length_nil]; omega) | (simp [L2.gI, L2.start] <;> omega))
local macro_rules | `(tactic| walk_at "pn1") => `(tactic| first | exact tJ | rfl | assumption | decide | decide +kernel | exact L2.uG (by decide) | exact L2.wR (by decide) | exact ⟨by decide, by decide +kernel⟩ | exact ⟨by decide, by decide, by decide⟩ | walk_at "pn0" | exact L2.uG ⟨by walk_at "pn0", by walk_at "pn0"⟩ | exact L2.wR ⟨by walk_at "pn0", by walk_at "pn0"⟩)
local macro_rules | `(tactic| walk_at "pn") => `(tactic| first | (refine ⟨?_, ?_⟩ <;> walk_at "pn") | walk_at "pn1" | (intro _; walk_at "pn"))
local macro_rules | `(tactic| walk_at "xs1") => `(tactic| first | exact tJ | exact (rfl : _ = some _) | exact (rfl : L3.isI _ _) | exact (rfl : L3.isL _ _) | exact (rfl : L3.isF _ _) | exact (rfl : L3.isK _ _) | exact (rfl : L3.ZL _ _) | exact (Or.inl rfl : L3.Ks _ _) | exact (Or.inr (Or.inl rfl) : L3.Ks _ _) | exact (Or.inr (Or.inr rfl) : L3.Ks _ _) | walk_at "pn1")
local macro_rules | `(tactic| walk_at "xs") => `(tactic| first | (refine And.intro ?_ ?_ <;> walk_at "xs") | walk_at "xs1")
section
variable {P:Program}{w:World}{K:Fg}{mg:Mg}{base:Heap}{cFE cNO cNN cK cR:Addr}
theorem Hw (T:Top K mg cFE cNO cNN cK cR):Ok P w K mg base 1 "is_prime" ["number"] (spB 1 yes F_P):=by
 refine nY.ok T.Ko uz (λvs H Q E h=>?_) (λf cdv A outer s H vs Q E hr h=>?_)
 ·obtain⟨ns,hl,rfl,_⟩:=h;rw[aa,hl];rfl
 obtain⟨ns,hl,rfl,hp,k⟩:=h;obtain⟨n,rfl⟩:=Z0 hl;refine⟨_,(pss_cons (Ey (pw_orP (QL (mW 0) vM) (pw_or1P (Ze (mW 0) (WR (by rfl) T.yL)))).pt
 (pss_one (ps_ret pe_bl))
 pss_nil)
 (pss_cons (Wo (i:=1) uz.nd rfl (Or.inl rfl) vM)
 (pss_cons (PP aO (Zn (Ym (mW 1) (mW 1)) (mW 0))
 (pss_cons (Ey (YG (YM (mW 0) (mW 1)) vM)
 (pss_one (ps_ret pe_bl))
 pss_nil)
 (pss_one (Xk (i:=1) uz.nd rfl (Or.inl rfl) vM tU))))
 (pss_one (ps_ret pe_bl))))),?_⟩
 have k:Q (.bl (isP n)) H:=k;refine⟨by walk_at "pn",λh=>?_,λh=>?_⟩
 ·have h:n<2\/9973<n:=h;rw[CZ (λq=>by have:=q.1;have:=q.2.1;lia)]at k;exact k
 have h:¬(n<2\/9973<n):=h;refine⟨by walk_at "pn",λd0 e0=>?_⟩;subst e0;refine⟨λσ H'=>∃d,σ=[some (.int n),some (.int d)]/\H'=H/\2<=d/\d<=10000/\JF n d,λσ _=>(10001-gI σ 1).toNat,⟨2,rfl,rfl,by lia,by lia,λe h1 h2=>by lia⟩,?_⟩;rintro σ H' ⟨d,rfl,rfl,h2,h3,cl⟩;refine⟨⟨⟨rfl,rfl,uG ⟨?_,?_⟩⟩,rfl⟩,λc=>?_,λc=>?_⟩
 ·show -(2:Int)^64<d;lia
 ·show d<(2:Int)^64;lia
 ·have c:d*d<=n:=c;have:=aa5 h2;refine⟨⟨⟨rfl,rfl,by show(0:Int)<d;lia⟩,tJ⟩,λhit=>?_,λhit=>?_⟩
  ·have hit:n % d=0:=hit;rw[CZ (λq=>q.2.2 d h2 c hit)]at k;exact k
  ·have hit:¬n % d=0:=hit;refine⟨rfl,tJ,tJ,λm e=>?_⟩;have e:m=d+1:=e;subst e;exact⟨⟨d+1,rfl,rfl,by lia,by lia,cl.next hit⟩,by show(10001-(d+1)).toNat<(10001-d).toNat;lia⟩
 ·have c:¬d*d<=n:=c;rw[JN (.out cl h2 (by lia) (by lia) c)]at k;exact k
abbrev Gr (cR:Addr):Gx:=GkE (KR cR) (λh s=>h.same s)
theorem gRE (H:Hp)(a dx:Addr)(p:Int)(hp:FM.jL p)(h:H a=some (.ins cR dx [("size",.int p)])):(Gr cR).ob 0 H a p:=by
 have hm:∀m∈BK,List.lookup m [("size",V.int p)]=none:=λm hm=>by
  have key:∀m∈BK,(m == ("size":Str))=false:=by decide +kernel
  rw[List.lookup_cons,key m hm];rfl
 exact .inl ⟨rfl,by have:=hp.1;lia,dx,_,h,rfl,hm⟩
def Ry:Sp:=λvs H Q _=>∃n:Int,vs=[.int n]/\jL n/\Q .non H
theorem vK (T:Top K mg cFE cNO cNN cK cR):Ok P w K mg base 2 "refuse_no_prime" ["number"] Ry:=by
 refine nY.ok T.w5 vm (λvs H Q E h=>?_) (λf cdv A outer s H vs Q E hr h=>?_)
 ·obtain⟨c,rfl,_⟩:=h;rfl
 obtain⟨n,rfl,hn,k⟩:=h;refine⟨_,(pss_one (Ey (VP (abJ (VM (Hw T) hr (Ua (mW 0) Xw))))
 (pss_one ps_never)
 pss_nil)),?_⟩
 refine⟨⟨⟨rfl,tJ⟩,tJ⟩,λq=>?_,λq=>?_⟩
 ·exact(q (JN hn)).elim
 ·exact k
def VF (K:Fg):Sp:=λvs H Q _=>∃(p C dx:Addr) (z:Int),vs=[.ref p,.int z]/\H p=some (.ins C dx [])/\Cls K C/\NoAttr K C "size"/\Q .non (upd H p (.ins C dx [("size",.int z)]))
theorem FW (T:Top K mg cFE cNO cNN cK cR):OkC P w K mg base CX0 1 "Kind" cK "__init__" ["self","size"] (VF K):=by
 obtain⟨f,fd,F,b,c⟩:=T.Ib;refine⟨f,fd,F.ok Fl (λvs H Q E h=>?_) (λcdv A outer s H vs Q E hr h=>?_),b,c,T.R5⟩
 ·obtain⟨p,C,dx,z,rfl,_⟩:=h;rfl
 obtain⟨p,C,dx,z,rfl,hp,cl,na,k⟩:=h;refine⟨_,(pss_one (ps_fld (pv 0) (mW 1) rfl)),?_⟩;exact⟨rfl,_,rfl,p,C,dx,[],rfl,hp,cl,na,by decide,k⟩
theorem S8 (T:Top K mg cFE cNO cNN cK cR):OkI P w K mg base CX0 3 "Rests" cR ["self","prime"] (Ul cR):=by
 obtain⟨f,fd,F,b,c⟩:=T.Eh;refine⟨f,fd,F.ok Cu (λvs H Q E h=>?_) (λcdv A outer s H vs Q E hr h=>?_),b,c,T.Nb⟩
 ·obtain⟨x,dx,p,rfl,_⟩:=h;rfl
 obtain⟨x,dx,p,rfl,hp,hx,k⟩:=h;refine⟨_,(pss_cons (ps_expr (ud (vK T) hr (pa_cons (mW 1) pa_nil)))
 (pss_one (ps_expr (XC (FW T) hr pass0 (pa_cons (pv 0) (pa_cons (mW 1) pa_nil)))))),?_⟩
 exact⟨rfl,p,rfl,hp,_,rfl,rfl,x,cR,dx,p,rfl,hx,T.qp,T.pH,k⟩
def VL:Int->List Int->Int:=λz ns=>match ns with
 |[n]=>pl z n
 |_=>0
abbrev abj:Int->List Int->Prop:=λ_ _=>True
theorem pM (T:Top K mg cFE cNO cNN cK cR):KM P w K mg base 1 (KR cR) "plain" 1 abj VL:=by
 refine⟨λH a z ka=>?_⟩;obtain⟨q0,dx,fs,e,hz,hm⟩:=ka;refine⟨cR,dx,fs,["self","number"],e,hm "plain" (by decide +kernel),?_⟩;obtain⟨f,fd,F,b,m1⟩:=T.DY;refine⟨f,fd,F.ok Ce (λvs H Q E h=>?_) (λcdv A outer s H vs Q E hr h=>?_),b,m1,T.qp⟩
 ·obtain⟨ns,hl,rfl,_⟩:=h;show(ns.map V.int).length+1=2;rw[aa,hl]
 ·obtain⟨ns,hl,rfl,⟨_,dx',fs',e',hz',_⟩,_,k⟩:=h;obtain⟨n,rfl⟩:=Z0 hl;have k:Q (.int (pl z n)) H:=k;rw[kZ q0]at k;refine⟨_,(pss_one (ps_ret (pe_op op_mod (mW 1) (pe_fld (pv 0) rfl)))),?_⟩;exact⟨rfl,_,rfl,a,cR,dx',fs',_,rfl,e',T.qp,T.pH,hz',_,_,rfl,rfl,q0,k⟩
theorem ksz (T:Top K mg cFE cNO cNN cK cR):KSz K (Gr cR):=by
 refine⟨λH a z h=>?_⟩;rcases h with⟨_,h⟩|⟨h,_⟩
 ·obtain⟨_,dx,fs,e,hz,_⟩:=h;exact⟨cR,dx,fs,e,T.qp,T.pH,hz⟩
 ·exact absurd h (by decide)
def ZR:Int->List Int->Int:=λz ns=>match ns with
 |[a,b]=>pl z (a-b)
 |_=>0
theorem Wc (T:Top K mg cFE cNO cNN cK cR):KM P w K mg base 2 (KR cR) "less" 2 abj ZR:=by
 refine⟨λH a z ka=>?_⟩;obtain⟨q0,dx,fs,e,hz,hm⟩:=id ka;obtain⟨f,fd,Fu,b,m1⟩:=T.Iu;refine⟨cR,dx,fs,["self","a","b"],e,hm "less" (by decide +kernel),f,fd,Fu.ok Es (λvs H Q E h=>?_) (λcdv A outer s H vs Q E hr h=>?_),b,m1,T.qp⟩
 ·obtain⟨ns,hl,rfl,_⟩:=h;show(ns.map V.int).length+1=3;rw[aa,hl]
 obtain⟨ns,hl,rfl,ka2,_,k⟩:=h;obtain⟨x,y,rfl⟩:=aas hl;obtain⟨C3,dx3,fs3,ps3,e3,l3,M3⟩:=(pM (P:=P) (w:=w) (base:=base) T).ex H a z ka2;obtain⟨f3,fd3,F3,b3,mm3,c3⟩:=M3.ex;refine⟨_,(pss_one (ps_ret (pe_meth (pv 0) c3 mm3 F3 hr b3 .nil pass0 (pa_cons (Zt op_sub (mW 1) (mW 2)) pa_nil)))),?_⟩;exact⟨_,rfl,a,dx3,fs3,rfl,e3,l3,⟨rfl,rfl⟩,[x-y],rfl,rfl,ka2,tJ,k⟩
def Oa:List Int->List Int->Prop:=λ_ is=>match is with
 |[k]=>0<=k
 |_=>False
def R8:List Int->List Int->Int:=λxs is=>match is with
 |[k]=>xs.getD k.toNat 0
 |_=>0
theorem Kd (T:Top K mg cFE cNO cNN cK cR):Ok P w K mg base 1 "_law_cell_at" ["_law_script","_law_k"] (spS K 1 Oa R8):=by
 refine nY.ok T.Qe JW (λvs H Q E h=>?_) (λf cdv A outer s H vs Q E hr h=>?_)
 ·obtain⟨a,xs,is,hl,rfl,_⟩:=h;show(is.map V.int).length+1=2;rw[aa,hl]
 obtain⟨sa,ns,is,hl,rfl,hS,hp,k⟩:=h;obtain⟨i,rfl⟩:=Z0 hl;have hp:0<=i:=hp;have k:Q (.int (ns.getD i.toNat 0)) H:=k;refine⟨_,(pss_cons (Ey (QL (mW 1) (Z6 0 sa (ns.map V.int) T.j6))
 (pss_one (ps_ret (Vv 0 sa ns (mW 1) (λ_ _=>rfl))))
 pss_nil)
 (pss_one (ps_ret vM))),?_⟩
 have el:(ns.map V.int).length=ns.length:=aa _;refine⟨⟨rfl,⟨rfl,hS⟩⟩,λq=>?_,λq=>?_⟩
 ·have q:i<((ns.map V.int).length:Int):=q;refine⟨⟨rfl,rfl,hS,?_,?_⟩,?_⟩
  ·show -(ns.length:Int)<=i;lia
  ·lia
  ·show Q (.int (ns.getD (if 0<=i then i else i+ns.length).toNat 0)) H;rw[ah hp];exact k
 ·have q:¬i<((ns.map V.int).length:Int):=q;have e:ns.getD i.toNat 0=0:=by rw[gQ,bG (by lia)];rfl
  rw[e]at k;exact⟨tJ,k⟩
theorem vq (T:Top K mg cFE cNO cNN cK cR):Ok P w K mg base 1 "_law_cell_at" ["_law_script","_law_k"] (GX K (Gr cR) (L3.aaA 1 Oa) λas=>R8 (aa8 as) (ul as.tail)):=aaW (Kd T)
theorem Bg (T:Top K mg cFE cNO cNN cK cR):Ok P w K mg base 1 "_law_whole" ["_law_found"] (Q6 K (Gr cR) (λas=>∃n,as=[.int n]) λ_=>true):=by refine xO T.Vs Tj (λas ⟨c,h⟩=>by rw[h];rfl) (λf cdv A outer s H E hr=>⟨_,(jt (jD (Gw (qg T.lN (xv 0) (sO (by rfl) T.aa2 Y0)) (pe_one (Y5 (qg T.lN (xv 0) (sO (by rfl) T.Yu Xn))))))),λas hp=>?_⟩);obtain⟨n,rfl⟩:=hp;have h1:oF K (.int n) (.ty "int")=true:=pQ rfl rfl T.Dr;have h2:oF K (.int n) (.ty "bool")=false:=pQ rfl rfl T.Ab;refine⟨⟨⟨rfl,tJ,_,_,_,rfl,rfl,T.Dr⟩,λ_=>⟨rfl,tJ,_,_,_,rfl,rfl,T.Ab⟩⟩,?_⟩;show PV.bl (decide (oF K (.int n) (.ty "int")=true/\¬oF K (.int n) (.ty "bool")=true))=PV.bl true;rw[h1,h2];rfl
theorem Il (T:Top K mg cFE cNO cNN cK cR):Ok P w K mg base 2 "_law_alike" ["_law_found","_law_due"] (Q6 K (Gr cR) (λas=>∃a b,as=[.ints a,.ints b]/\b.length<=1000) λas=>match as with
  |[.ints a,.ints b]=>decide (a=b)
  |_=>false):=by
 refine xO T.We Hn (λas ⟨a,b,h,_⟩=>by rw[h];rfl) (λf cdv A outer s H E hr=>⟨_,(jn (lQ (L2.PW.pt (u6 (qm (Jl (qg T.lN (xl 0) (sO (by rfl) T.Et Ej)))) (vJ (wz (kY 0 T.j6) (kY 1 T.j6)))))
 (jt (jD yw))
 kW)
 (jn (qG (k:=2) aO rfl (by rfl) T.pJ (kY 1 T.j6) Hn.nd rfl (Or.inl rfl)
 (jt (lQ (L2.PW.pt (u6 (qm (Jl (Z5 (Bg T) hr (jm (lV 0 (xn 2) (λ_ _=>rfl)) jq)))) (vJ (wz (lV 0 (xn 2) (λ_ _=>rfl)) (lV 1 (xn 2) (λ_ _=>rfl))))))
 (jt (jD yw))
 kW)))
 (jt (jD yw)))),λas hp=>?_⟩)
 obtain⟨a,b,rfl,hb⟩:=hp;have h1:oF K (.ints a) (.ty "list")=true:=pQ rfl rfl T.qL;refine⟨⟨⟨rfl,tJ,_,_,_,rfl,rfl,T.qL⟩,λ_=>⟨.inl rfl,.inl rfl⟩⟩,λq=>?_,λq=>?_⟩
 ·have q:¬oF K (.ints a) (.ty "list")=true\/¬(a.length:Int)=(b.length:Int):=q;rw[h1]at q;refine⟨tJ,?_⟩;show PV.bl false=PV.bl (decide (a=b));rw[aN];intro z;subst z;rcases q with q|q
  ·exact q rfl
  ·exact q rfl
 ·have q:¬(¬oF K (.ints a) (.ty "list")=true\/¬(a.length:Int)=(b.length:Int)):=q;have hl:a.length=b.length:=by
   by_cases c:a.length=b.length
   ·exact c
   ·exact absurd (.inr (by lia)) q
  refine⟨.inl rfl,⟨by show -(2:Int)^62<=(b.length:Int);lia,by show(b.length:Int)<2^62;lia⟩,λi Z=>(∃v,Z=[.fr (.ints a),.fr (.ints b),v])/\∀j,j<i->a.getD j 0=b.getD j 0,⟨⟨_,rfl⟩,λj h=>by lia⟩,?_,?_⟩
  ·rintro i Z hi ⟨⟨v,rfl⟩,ih⟩;have hi:i<(b.length:Int).toNat:=hi;have i1:-(a.length:Int)<=(i:Int):=by lia
   have i2:(i:Int)<(a.length:Int):=by lia
   have i3:-(b.length:Int)<=(i:Int):=by lia
   have i4:(i:Int)<(b.length:Int):=by lia
   have ea:lC a.length (i:Int)=i:=by unfold lC;rw[ah (by lia)];lia
   have eb:lC b.length (i:Int)=i:=by unfold lC;rw[ah (by lia)];lia
   refine⟨⟨⟨⟨⟨.inl rfl,rfl,i1,i2⟩,tJ⟩,⟨_,rfl⟩⟩,λ_=>⟨⟨.inl rfl,rfl,i1,i2⟩,⟨.inl rfl,rfl,i3,i4⟩⟩⟩,λq=>?_,λq=>?_⟩
   ·have q:¬true=true\/¬a.getD (lC a.length (i:Int)) 0=b.getD (lC b.length (i:Int)) 0:=q;rw[ea,eb]at q;refine⟨tJ,?_⟩;show PV.bl false=PV.bl (decide (a=b));rw[aN];intro z;subst z;rcases q with q|q
    ·exact q rfl
    ·exact q rfl
   ·have q:¬(¬true=true\/¬a.getD (lC a.length (i:Int)) 0=b.getD (lC b.length (i:Int)) 0):=q;rw[ea,eb]at q;refine⟨⟨_,rfl⟩,λj hj=>?_⟩;by_cases c:j=i
    ·subst c;by_cases d:a.getD j 0=b.getD j 0
     ·exact d
     ·exact absurd (.inr d) q
    ·exact ih j (by lia)
  ·rintro Z ⟨⟨v,rfl⟩,ih⟩;refine⟨tJ,?_⟩;show PV.bl true=PV.bl (decide (a=b));rw[aK];refine cF hl λj h1 h2=>?_;have z:=ih j (by show j<(b.length:Int).toNat;lia);rw[gQ,gQ,ac h1,ac h2]at z;exact z
theorem zB (h:ns≠[])(h0:ns.getD (ns.length-1) 0=0):j7 ns.dropLast=j7 ns:=by
 have e:ns=ns.dropLast++[0]:=by
  have e1:=dR h;have e2:ns.getLast h=0:=by rw[gU];rw[gQ,ac (by have:=lP h;lia)]at h0;exact h0
  rw[e2]at e1;exact e1.symm
 rw[e,vG,List.dropLast_concat]
theorem zU (h:¬(ns≠[]/\ns.getD (ns.length-1) 0=0)):j7 ns=ns:=by
 by_cases c:ns=[]
 ·rw[c];rfl
 ·have h0:¬ns.getD (ns.length-1) 0=0:=λz=>h ⟨c,z⟩;have e1:=dR c;have e2:ns.getLast c≠0:=by rw[gU];rw[gQ,ac (by have:=lP c;lia)]at h0;exact h0
  rw[<- e1,Av _ e2]
theorem Nf (ns:Li)(h:ns≠[]):lC ns.length (-1)=ns.length-1:=by have:=lP h;unfold lC;rw[ag (by lia)];lia
theorem tY (T:Top K mg cFE cNO cNN cK cR):Ok P w K mg base 1 "cut_noughts" ["numbers"] (spM (λ_=>True) j7):=by
 refine nY.ok T.Cv zH (λvs H Q E h=>?_) (λf cdv A outer s H vs Q E hr h=>?_)
 ·obtain⟨a,ns,rfl,_⟩:=h;rfl
 obtain⟨a,ns,rfl,hH,_,q⟩:=h;refine⟨_,(pss_one (ps_while aO (pw_and (pt_truth (pv 0) (λ_=>rfl)) (pw_and1 (pt_cmpR op_eq (Xz 0 (Zz vM) (λ_ _=>rfl)) vM (nomark _)))).pt
 (pss_one (ps_expr (pe_bm0 fj ii ij mt_pop (pv 0)))))),?_⟩
 refine⟨λm σ H'=>σ=[some (.ref a)]/\∃ms,m=ms.length/\H'=upd H a (.lst (ms.map V.int))/\j7 ms=j7 ns,⟨ns.length,rfl,ns,rfl,?_,rfl⟩,?_⟩
 ·funext b;by_cases c:b=a
  ·rw[c,upd_same,hH]
  ·rw[upd_ne c]
 rintro m σ H' ⟨rfl,ms,rfl,rfl,hm⟩;refine⟨_,rfl,_,.inl ⟨_,SqL.of upd_same,rfl⟩,?_⟩;by_cases c:ms=[]
 ·subst c;refine iteF ?_;refine iteF ?_;refine q _ (λb o hb e=>?_) ?_
  ·rw[upd_ne hb];exact e
  ·rw[upd_same,<- hm];rfl
 ·have hlen:=lP c;have e1:(!(ms.map V.int).isEmpty)=true:=by cases ms<;>simp at c ⊢
  rw[e1];refine iteT ?_;refine⟨tJ,a,ms,ms.getD (ms.length-1) 0,rfl,SqL.of upd_same,?_,?_⟩
  ·have z:=getD_at (ns:=ms) (i:=-1) (by lia) (by lia);rw[z,ag (by lia)];have:(-1+(ms.length:Int)).toNat=ms.length-1:=by lia
   rw[this]
  refine⟨tJ,rfl,_,rfl,?_⟩;by_cases d:ms.getD (ms.length-1) 0=0
  ·have e2:decide (V.int (ms.getD (ms.length-1) 0)=V.int 0)=true:=aK (by rw[d]);rw[e2];refine iteT ?_;refine⟨λσ H'=>σ=[some (.ref a)]/\H'=upd H a (.lst (ms.dropLast.map V.int)),?_,?_⟩
   ·rintro σ' H' ⟨rfl,rfl⟩;refine⟨ms.dropLast.length,by rw[fO];lia,rfl,_,rfl,rfl,?_⟩;rw[<- hm];exact zB c d
   ·refine⟨_,rfl,.inl ⟨rfl,_,SqL.of upd_same⟩,a,_,V.int (ms[ms.length-1]'(by lia)),rfl,rfl,upd_same,?_,rfl,?_⟩
    ·rw[aa,az,ac (by lia)];rfl
    ·rw[upd_upd,List.map_dropLast]
  ·have e2:decide (V.int (ms.getD (ms.length-1) 0)=V.int 0)=false:=aN (by intro z;exact d (by injection z));rw[e2];refine iteF ?_;refine q _ (λb o hb e=>?_) ?_
   ·rw[upd_ne hb];exact e
   ·rw[upd_same,<- hm,zU λz=>d z.2]
theorem jU (T:Top K mg cFE cNO cNN cK cR):Ok P w K mg base 2 "trimmed" ["kind","f"] (Iw K (Gr cR) (λas=>∃z f,as=[.ob 0 z,.ints f]/\f.length<=1000) λas=>match as with
  |[.ob 0 z,.ints f]=>j7 (f.map (pl z))
  |_=>[]):=by
 refine K1 T.PX Bt (λas ⟨a,b,h,_⟩=>by rw[h];rfl) (λf cdv A outer s H E hr=>⟨_,(jn (Mv (i:=2) Bt.nd rfl rfl (N':=["number","kind"]) (cap:=[some 0]) (oO rfl rfl rfl rfl ⟨⟨rfl,.inr (.inl rfl),BR,.inl rfl,_,rfl,rfl⟩,tJ⟩ ⟨rfl,tJ⟩ rfl) rfl (xl 1) (λ_ _ _=>(pO 0)) (λ_ _ _=>(qu 1 (pM T) hr (jm (xn 0) jq))) rfl)
 (jn (Mp 2 (tY T) hr)
 (jt (Bb 2)))),λas hp=>?_⟩)
 obtain⟨z,f,rfl,hf⟩:=hp;refine⟨⟨rfl,hf,λn _=>⟨rfl,⟨rfl,tJ⟩,tJ,tJ⟩⟩,λns e=>?_⟩;have e:ns=f.map (pl z):=e;refine⟨rfl,tJ,rfl,?_⟩;show j7 ns=j7 (f.map (pl z));rw[e]
def jZ (f g:List Int):List Int:=(List.range (max f.length g.length)).map λn=>f.getD n 0+g.getD n 0
theorem jB (f g:Li)(n:Nat):(jZ f g).getD n 0=f.getD n 0+g.getD n 0:=by
 unfold jZ;by_cases h:n<max f.length g.length
 ·rw[jE (by rw[aa,ao];exact h),bA,bu]
 ·rw[jw (by rw[aa,ao];lia),jw (by lia),jw (by lia)];rfl
theorem Im (f:Li)(k n:Nat):(f++List.replicate k 0).getD n 0=f.getD n 0:=by
 by_cases h:n<f.length
 ·rw[jE (by rw[ai];lia),gJ h,jE h]
 ·rw[jw (xs:=f) (by lia)];by_cases h2:n<f.length+k
  ·rw[jE (by rw[ai,aG];exact h2),gH (by lia),cS]
  ·rw[jw (by rw[ai,aG];lia)]
def Nr (f g:List Int)(i:Nat)(row:List Int):Prop:=row.length=f.length+(g.length-f.length)/\∀n,row.getD n 0=f.getD n 0+if n<i then g.getD n 0 else 0
theorem Sd (h:Nr f g i row)(hi:i<g.length):Nr f g (i+1) (row.set i (row.getD i 0+g.getD i 0)):=by
 obtain⟨hl,hr⟩:=h;refine⟨by rw[bB];exact hl,λn=>?_⟩;rw[nW _ _ _ _ (by lia)];by_cases c:n=i
 ·subst c;rw[ah rfl,hr,ag (by lia),ah (by lia)];lia
 ·rw[ag c,hr];by_cases d:n<i
  ·rw[ah d,ah (by lia)]
  ·rw[ag d,ag (by lia)]
theorem WM (h:Nr f g g.length row):Tz z row=Tz z (jZ f g):=by
 refine GJ λn=>?_;rw[h.2,jB];by_cases d:n<g.length
 ·rw[ah d]
 ·rw[ag d,jw (xs:=g) (by lia)]
theorem Xa (T:Top K mg cFE cNO cNN cK cR):Ok P w K mg base 3 "plus" ["kind","f","g"] (Iw K (Gr cR) (λas=>∃z f g,as=[.ob 0 z,.ints f,.ints g]/\f.length<=500/\g.length<=500) λas=>match as with
  |[.ob 0 z,.ints f,.ints g]=>Tz z (jZ f g)
  |_=>[]):=by
 refine K1 T.ZZ zu (λas ⟨a,b,c,h,_⟩=>by rw[h];rfl) (λf cdv A outer s H E hr=>⟨_,(jn (rZ (i:=3) zu.nd rfl (Or.inl rfl) (xY (j9 (Ny T.Et (xl 1) (λ_=>.inl rfl))) (j9 (sS (nH (jm jo jq)) (oR (kY 2 T.j6) (kY 1 T.j6)) (λ_=>rfl)))))
 (jn (rF (k:=4) (j:=5) aO rfl (by rfl) T.lZ (xl 2) (pg_tup rfl (pgs_cons (pg_name (i:=4) zu.nd rfl (Or.inl rfl)) (pgs_cons (pg_name (i:=5) zu.nd rfl (Or.inl rfl)) pgs_nil)))
 (jt (Dc 3 (xn 4) (xn 5) tU)))
 (lG 3 (jt (mO (tH (jU T) hr (jm (xv 0) (jm (xl 3) jq)))))))),λas hp=>?_⟩)
 obtain⟨z,f,g,rfl,hf,hg⟩:=hp;have en:((g.length:Int)-(f.length:Int)).toNat=g.length-f.length:=by lia
 refine⟨⟨rfl,⟨⟨⟨tJ,tJ⟩,tJ⟩,⟨.inl rfl,.inl rfl⟩,?_,?_⟩,?_⟩,λr0 er0=>?_⟩
 ·show -(2:Int)^63<=(g.length:Int)-(f.length:Int);lia
 ·show((g.length:Int)-(f.length:Int)).toNat<=1000;lia
 ·refine bX (small1000 ?_);show f.length+(List.replicate ((g.length:Int)-(f.length:Int)).toNat (0:Int)).length<=1000;rw[aG];lia
 have er0:r0=f++List.replicate (g.length-f.length) 0:=by rw[<- en];exact er0
 refine⟨rfl,λi Z=>∃row v1 v2,Z=[.fr (.ob 0 z),.fr (.ints f),.fr (.ints g),.ow (.ints row),v1,v2]/\Nr f g i row,⟨r0,.un,.un,rfl,?_⟩,?_,?_⟩
 ·rw[er0];refine⟨by rw[ai,aG],λn=>?_⟩;rw[Im,ag (by lia),bH]
 ·rintro i n Z hn ⟨row,v1,v2,rfl,hr⟩;have hn:g[i]?=some n:=hn;have hi:=Rt hn;have l1:-(row.length:Int)<=(i:Int):=by lia
  have l2:(i:Int)<(row.length:Int):=by have:=hr.1;lia
  have ix:lC row.length (i:Int)=i:=by unfold lC;rw[ah (by lia)];lia
  refine⟨rfl,rfl,⟨l1,l2⟩,rfl,tJ,row.set i (row.getD i 0+n),.fr (.int i),.fr (.int n),?_,?_⟩
  ·show[Sl.fr (.ob 0 z),.fr (.ints f),.fr (.ints g),.ow (.ints (row.set (lC row.length (i:Int)) (row.getD (lC row.length (i:Int)) 0+n))),.fr (.int i),.fr (.int n)]=_;rw[ix]
  ·have q:=Sd hr hi;rw[getD_at' hn]at q;exact q
 ·rintro Z ⟨row,v1,v2,rfl,hr⟩;refine⟨⟨⟨rfl,rfl,tJ⟩,z,row,rfl,?_⟩,?_⟩
  ·rw[hr.1];lia
  ·show Tz z row=Tz z (jZ f g);exact WM hr
theorem Wx (T:Top K mg cFE cNO cNN cK cR):Ok P w K mg base 4 "less" ["kind","f","g"] (Iw K (Gr cR) (λas=>∃z f g,as=[.ob 0 z,.ints f,.ints g]/\f.length<=500/\g.length<=500) λas=>match as with
  |[.ob 0 z,.ints f,.ints g]=>Tz z (jZ f (g.map λn=>-n))
  |_=>[]):=by
 refine K1 T.Y4 Ws (λas ⟨a,b,c,h,_⟩=>by rw[h];rfl) (λf cdv A outer s H E hr=>⟨_,(jt (mO (tH (Xa T) hr (jm (xv 0) (jm (xl 1) (jm (j9 (Bj (N':=["number"]) (cap:=[]) (oO rfl rfl rfl rfl tJ tJ rfl) rfl (xl 2) (λ_ _ _=>(pO 0)) (λ_ _ _=>(sH (xn 0))))) jq)))))),λas hp=>?_⟩);obtain⟨z,f,g,rfl,hf,hg⟩:=hp;refine⟨⟨⟨rfl,rfl,⟨rfl,by show g.length<=1000;lia,λn _=>rfl⟩,tJ⟩,z,f,_,rfl,hf,?_⟩,rfl⟩;rw[aa];exact hg
theorem Ph (T:Top K mg cFE cNO cNN cK cR):Ok P w K mg base 3 "scaled" ["kind","f","number"] (Iw K (Gr cR) (λas=>∃z f n,as=[.ob 0 z,.ints f,.int n]/\f.length<=1000/\n.natAbs<2^9000/\∀m∈f,m.natAbs<2^9000) λas=>match as with
  |[.ob 0 z,.ints f,.int n]=>Tz z (f.map λm=>n*m)
  |_=>[]):=by
 refine K1 T.R3 Qm (λas ⟨a,b,c,h,_⟩=>by rw[h];rfl) (λf cdv A outer s H E hr=>⟨_,(jt (mO (tH (jU T) hr (jm (xv 0) (jm (j9 (Bj (N':=["one","number"]) (cap:=[some 2]) (oO rfl rfl rfl rfl ⟨⟨rfl,.inr (.inl rfl),BR,.inl rfl,_,rfl,rfl⟩,tJ⟩ ⟨rfl,tJ⟩ rfl) rfl (xl 1) (λ_ _ _=>(pO 0)) (λ_ _ _=>(nM (xn 1) (xn 0))))) jq))))),λas hp=>?_⟩);obtain⟨z,f,n,rfl,hf,hn,hm⟩:=hp;refine⟨⟨⟨rfl,⟨rfl,hf,λm hm'=>⟨rfl,rfl,pU (n:=9000) (m:=9000) hn (hm m hm')⟩⟩,tJ⟩,z,_,rfl,?_⟩,rfl⟩;rw[aa];exact hf
theorem aaR (hz:0<=z)(hz2:z<((2^9000:Nat):Int))(hf:∀m∈f,m.natAbs<2^9000):∀m∈Tz z f,m.natAbs<2^9000:=λm hm=>by obtain⟨k,hk,rfl⟩:=Zq hm;exact Br hz hz2 (hf k hk)
theorem TJ (T:Top K mg cFE cNO cNN cK cR):Ok P w K mg base 3 "times" ["kind","f","g"] (Iw K (Gr cR) (λas=>∃z f g,as=[.ob 0 z,.ints f,.ints g]/\0<=z/\z<((2^9000:Nat):Int)/\f.length+g.length<=1000/\(∀m∈f,m.natAbs<2^9000)/\(∀m∈g,m.natAbs<2^9000)) λas=>match as with
  |[.ob 0 z,.ints f,.ints g]=>Tz z (ju (Tz z f) (Tz z g))
  |_=>[]):=by
 refine K1 T.WW pN (λas ⟨a,b,c,h,_⟩=>by rw[h];rfl) (λf cdv A outer s H E hr=>⟨_,(jn (jG (i:=3) pN.nd rfl (Or.inl rfl) (j9 (tH (jU T) hr (jm (xv 0) (jm (xl 1) jq)))))
 (jn (jG (i:=4) pN.nd rfl (Or.inl rfl) (j9 (tH (jU T) hr (jm (xv 0) (jm (xl 2) jq)))))
 (jn (rZ (i:=5) pN.nd rfl (Or.inl rfl) (sS (nH (jm jo jq)) (lR (kY 3 T.j6) (kY 4 T.j6)) (λ_=>rfl)))
 (jn (rF (k:=6) (j:=7) aO rfl (by rfl) T.lZ (xl 3) (pg_tup rfl (pgs_cons (pg_name (i:=6) pN.nd rfl (Or.inl rfl)) (pgs_cons (pg_name (i:=7) pN.nd rfl (Or.inl rfl)) pgs_nil)))
 (jt (rF (k:=8) (j:=9) aO rfl (by rfl) T.lZ (xl 4) (pg_tup rfl (pgs_cons (pg_name (i:=8) pN.nd rfl (Or.inl rfl)) (pgs_cons (pg_name (i:=9) pN.nd rfl (Or.inl rfl)) pgs_nil)))
 (jt (Dc 5 (lR (xn 6) (xn 8)) (nM (xn 7) (xn 9)) tU)))))
 (lG 5 (jt (mO (tH (jU T) hr (jm (xv 0) (jm (xl 5) jq)))))))))),λas hp=>?_⟩)
 obtain⟨z,f,g,rfl,hz,hz2,hl,hf,hg⟩:=hp;refine⟨⟨⟨rfl,rfl,tJ⟩,z,f,rfl,by lia⟩,λfo efo=>?_⟩;refine⟨⟨⟨rfl,rfl,tJ⟩,z,g,rfl,by lia⟩,λgo ego=>?_⟩;have lf:fo.length<=f.length:=by rw[efo];exact m6 _ _
 have lg:go.length<=g.length:=by rw[ego];exact m6 _ _
 have bf:∀m∈fo,m.natAbs<2^9000:=by rw[efo];exact aaR hz hz2 hf
 have bg:∀m∈go,m.natAbs<2^9000:=by rw[ego];exact aaR hz hz2 hg
 have en:((fo.length:Int)+(go.length:Int)).toNat=fo.length+go.length:=by lia
 refine⟨⟨⟨⟨tJ,tJ⟩,tJ⟩,⟨.inl rfl,.inl rfl⟩,?_,?_⟩,λr0 er0=>?_⟩
 ·lia
 ·show((fo.length:Int)+(go.length:Int)).toNat<=1000;lia
 have er0:r0=List.replicate (fo.length+go.length) 0:=by rw[<- en];exact er0
 refine⟨rfl,λi Z=>∃row v1 v2 v3 v4,Z=[.fr (.ob 0 z),.fr (.ints f),.fr (.ints g),.fr (.ints fo),.fr (.ints go),.ow (.ints row),v1,v2,v3,v4]/\sY fo go i 0 row,⟨r0,.un,.un,.un,.un,rfl,by rw[er0];exact DN fo go⟩,?_,?_⟩
 ·rintro i n Z hn ⟨row,v1,v2,v3,v4,rfl,hr⟩;have hn:fo[i]?=some n:=hn;have hi:=Rt hn;refine⟨rfl,λj Z=>∃row v3 v4,Z=[.fr (.ob 0 z),.fr (.ints f),.fr (.ints g),.fr (.ints fo),.fr (.ints go),.ow (.ints row),.fr (.int i),.fr (.int n),v3,v4]/\sY fo go i j row,⟨row,v3,v4,rfl,hr⟩,?_,?_⟩
  ·rintro j m Z hm ⟨row,v3,v4,rfl,hr⟩;have hm:go[j]?=some m:=hm;have hj:=Rt hm;have l1:-(row.length:Int)<=(i:Int)+(j:Int):=by lia
   have l2:(i:Int)+(j:Int)<(row.length:Int):=by have:=hr.1;lia
   have ix:lC row.length ((i:Int)+(j:Int))=i+j:=by unfold lC;rw[ah (by lia)];lia
   refine⟨rfl,⟨rfl,rfl⟩,⟨l1,l2⟩,⟨rfl,rfl,?_⟩,tJ,row.set (i+j) (row.getD (i+j) 0+n*m),.fr (.int j),.fr (.int m),?_,?_⟩
   ·exact pU (n:=9000) (m:=9000) (bf n (RM hn)) (bg m (RM hm))
   ·rw[<- ix];rfl
   ·have q:=Hz hr hi hj;rw[getD_at' hn,getD_at' hm]at q;exact q
  ·rintro Z ⟨row,v3,v4,rfl,hr⟩;exact⟨row,_,_,v3,v4,rfl,Jr hr⟩
 ·rintro Z ⟨row,v1,v2,v3,v4,rfl,hr⟩;have er:=row_end hr;refine⟨⟨⟨rfl,rfl,tJ⟩,z,row,rfl,?_⟩,?_⟩
  ·rw[hr.1];lia
  ·show j7 (row.map (pl z))=_;rw[er,efo,ego];rfl
open Classical in
def tu (n z:Int):Int:=if h:∃x:Int,0<=x/\x<z/\x*n % z=1 then Classical.choose h else 0
theorem QT (hz:2<=z)(h0:0<=x)(h1:x<z)(h2:x*n % z=1):tu n z=x:=by
 have ex:∃x:Int,0<=x/\x<z/\x*n % z=1:=⟨x,h0,h1,h2⟩;have e:tu n z=Classical.choose ex:=by unfold tu;rw[i9 ex]
 obtain⟨y0,y1,y2⟩:=fH ex;rw[e];generalize Classical.choose ex=y at y0 y1 y2;have a1:(y*(x*n)) % z=y:=by rw[fE,h2,bR,Int.emod_emod,bp y0 y1]
 have a2:(x*(y*n)) % z=x:=by rw[fE,y2,bR,Int.emod_emod,bp h0 h1]
 exact(a1.symm.trans (by rw[gK y x n])).trans a2
theorem MN (hz:2<=z)(h:∃x:Int,0<=x/\x<z/\x*n % z=1):0<=tu n z/\tu n z<z/\tu n z*n % z=1:=by obtain⟨x,h0,h1,h2⟩:=h;rw[QT hz h0 h1 h2];exact⟨h0,h1,h2⟩
theorem NP (hz:2<=z)(h:Int.gcd n z=1):∃x:Int,0<=x/\x<z/\x*n % z=1:=by
 have run:∀(m:Nat) (b r sb s:Int),r.toNat<=m->Eu n z b r sb s->∃x:Int,0<=x/\x<z/\x*n % z=1:=by
  intro m
  induction m with
  |zero=>
   intro b r sb s hm I;have:=I.r0;have e:r=0:=by lia
   subst e;have gc:=I.end;exact⟨sb % z,a8 _ (by lia),aY _ (by lia),I.one hz (by lia)⟩
  |succ m ih=>
   intro b r sb s hm I;by_cases c:r=0
   ·subst c;have gc:=I.end;exact⟨sb % z,a8 _ (by lia),aY _ (by lia),I.one hz (by lia)⟩
   ·have I2:=I.step c;have:=I2.rb;have:=I2.r0;have:=I.r0;exact ih _ _ _ _ (by lia) I2
 exact run _ _ _ _ _ (aq _) (Eu.start hz)
def Kw (C:Addr):List PV->Rs:=λas=>match as with
 |[.int n,.int z]=>if Int.gcd n z=1 then .val (.int (tu n z)) else .err C
 |_=>.err C
theorem Kf {x z:Int}(h:(x.natAbs:Int)<=z)(hz:z.natAbs<2^9000):x.natAbs<2^9000:=by
 generalize 2^9000=B at *
 lia
theorem PN (T:Top K mg cFE cNO cNN cK cR):Yp P w K mg base 1 "turned" ["number","size"] (YL K (Gr cR) (λas=>∃n z,as=[.int n,.int z]/\2<=z/\z.natAbs<2^9000) (Kw cNO)):=by
 refine okE T.Rc lK (λas ⟨n,z,h,_⟩=>by rw[h];rfl) (λf cdv A outer s H E hr=>⟨_,(jn (jA (i:=2) lK.nd rfl (Or.inl rfl) (xn 1))
 (jn (jA (i:=3) lK.nd rfl (Or.inl rfl) (lD (xn 0) (xn 1)))
 (jn (jA (i:=4) lK.nd rfl (Or.inl rfl) jo)
 (jn (jA (i:=5) lK.nd rfl (Or.inl rfl) jo)
 (jn (nq PassesOwn.leaving (wz (xn 3) jo)
 (jn (jA (i:=6) lK.nd rfl (Or.inl rfl) (Bw (xn 2) (xn 3)))
 (jn (jA (i:=7) lK.nd rfl (Or.inl rfl) (oR (xn 2) (nM (xn 6) (xn 3))))
 (jn (jA (i:=8) lK.nd rfl (Or.inl rfl) (oR (xn 4) (nM (xn 6) (xn 5))))
 (jn (jA (i:=2) lK.nd rfl (Or.inl rfl) (xn 3))
 (jn (jA (i:=3) lK.nd rfl (Or.inl rfl) (xn 7))
 (jn (jA (i:=4) lK.nd rfl (Or.inl rfl) (xn 5))
 (jt (jA (i:=5) lK.nd rfl (Or.inl rfl) (xn 8))))))))))
 (jn (lQ (wz (xn 2) jo)
 (jt (CK aa6 rfl T.Ub (by rfl) T.Hh (jm Ti jq)))
 kW)
 (jt (jD (lD (xn 4) (xn 1)))))))))),λas hp=>?_⟩)
 obtain⟨n,z,rfl,hz,hz9⟩:=hp;refine⟨rfl,λb0 e0=>?_⟩;subst e0;refine⟨⟨rfl,rfl,by show 0<b0;lia⟩,λr0 er=>?_⟩;refine⟨tJ,λz0 ez=>?_⟩;subst ez;refine⟨tJ,λo0 eo=>?_⟩;subst eo;refine⟨λZ=>∃b r sb s o rb sbh,Z=[.fr (.int n),.fr (.int b0),.fr (.int b),.fr (.int r),.fr (.int sb),.fr (.int s),o,rb,sbh]/\Eu n b0 b r sb s,λZ=>(yl Z 3).toNat,⟨b0,r0,0,1,.un,.un,.un,rfl,by rw[er];exact Eu.start hz⟩,?_⟩;rintro Z ⟨b,r,sb,s,o,rb,sbh,rfl,I⟩;have sm:=I.id;have sbz:=I.bz;have rlt:=I.rb;have rnn:=I.r0;have s9:s.natAbs<2^9000:=Kf (z:=b0) (by
  have h1:(s.natAbs:Int)*1<=(s.natAbs:Int)*b:=bC (by lia) (by lia);have h2:0<=(sb.natAbs:Int)*r:=iI (by lia) rnn;lia) hz9
 have r9:r.natAbs<2^9000:=Kf (z:=b0) (by lia) hz9;refine⟨⟨rfl,tJ⟩,λc=>?_,λc=>?_⟩
 ·have c:¬r=0:=c;have q0:0<=b / r:=Int.ediv_nonneg (by lia) (by lia);have q1:b / r<=b:=Int.ediv_le_self _ (by lia);have q9:(b / r).natAbs<2^9000:=Kf (z:=b0) (by lia) hz9;refine⟨⟨rfl,rfl,by show 0<r;lia,(jh (by show r.natAbs≠0;lia)).mpr r9⟩,λq eq=>?_⟩;subst eq;refine⟨⟨rfl,rfl,rfl,pU q9 r9⟩,λr1 e1=>?_⟩;refine⟨⟨rfl,rfl,rfl,pU q9 s9⟩,λs1 e2=>?_⟩;have f1:r1=b-b / r*r:=e1;have f2:s1=sb-b / r*s:=e2;clear e1 e2;refine⟨rfl,λb' eb=>?_⟩;have eb:b'=r:=eb;subst eb;refine⟨rfl,λr2 e3=>?_⟩;have e3:r2=r1:=e3;subst e3;refine⟨rfl,λs2 e4=>?_⟩;have e4:s2=s:=e4;subst e4;refine⟨rfl,λs3 e5=>?_⟩;have e5:s3=s1:=e5;subst e5;have I2:=I.step c;rw[<- f1,<- f2]at I2;refine⟨⟨_,_,_,_,_,_,_,rfl,I2⟩,?_⟩;show r2.toNat<b'.toNat;have:=I2.rb;have:=I2.r0;lia
 ·have c:¬¬r=0:=c;have c:r=0:=by lia
  subst c;have gc:=I.end;refine⟨⟨rfl,tJ⟩,λhb=>?_,λhb=>?_⟩
  ·have hb:¬b=1:=hb;refine⟨⟨tJ,tJ⟩,?_⟩;show Kw cNO [.int n,.int b0]=.err cNO;show(if Int.gcd n b0=1 then _ else _)=_;rw[ag (by lia)]
  ·have hb:¬¬b=1:=hb;have hb:b=1:=by lia
   refine⟨⟨rfl,rfl,by show 0<b0;lia⟩,?_⟩;show Kw cNO [.int n,.int b0]=.val (.int (sb % b0));show(if Int.gcd n b0=1 then _ else _)=_;rw[ah (by lia),QT hz (a8 _ (by lia)) (aY _ (by lia)) (I.one hz hb)]
theorem qF (z a b:Int):pl z a=pl z b ↔ z ∣ a-b:=by
 unfold pl;split
 ·rename_i h;subst h;rw[Int.zero_dvd];lia
 ·rw[eI,Int.dvd_iff_emod_eq_zero]
theorem su (ha:pl z a=a)(hb:pl z b=b)(h:z ∣ a-b):a=b:=by rw[<- ha,<- hb];exact(qF z a b).mpr h
theorem nF (z a:Int):z ∣ pl z a-a:=(qF z _ _).mp (uq z a)
def jx (xs:List Int):Int:=xs.getD (xs.length-1) 0
theorem nJ:∀{N:Nat},(∀j,j<N->z ∣ f j)->z ∣ sm N f
 |0,_=>aQ z
 |N+1,h=>bD (nJ λj hj=>h j (by lia)) (h N (by lia))
theorem KZ:∀{N:Nat},i<N->(∀j,j<N->j≠i->z ∣ f j)->z ∣ sm N f-f i
 |0,h,_=>by lia
 |N+1,h,k=>by
  show z ∣ sm N f+f N-f i;by_cases c:i=N
  ·subst c;have e:sm i f+f i-f i=sm i f:=by lia
   rw[e];exact nJ λj hj=>k j (by lia) (by lia)
  ·have e:sm N f+f N-f i=(sm N f-f i)+f N:=by lia
   rw[e];exact bD (KZ (by lia) λj hj hne=>k j (by lia) hne) (k N (by lia) (by lia))
theorem SN:∀{N:Nat},(∀i,i<N->i≠k->f i=g i)->sm N f=sm N g+if k<N then f k-g k else 0
 |0,_=>by show(0:Int)=0+_;rw[ag (by lia)];rfl
 |N+1,h=>by
  show sm N f+f N=sm N g+g N+_;rw[SN (f:=f) (g:=g) (k:=k) λi hi hne=>h i (by lia) hne];by_cases c:k=N
  ·subst c;rw[ag (by lia),ah (by lia)];lia
  ·rw[h N (by lia) (by lia)];by_cases d:k<N
   ·rw[ah d,ah (by lia)];lia
   ·rw[ag d,ag (by lia)];lia
theorem Kl (hd:0<d.length)(up:∀j,i<j->z ∣ E.getD j 0):z ∣ cm E d (i+(d.length-1))-E.getD i 0*jx d:=by
 have h:=KZ (z:=z) (f:=λj=>E.getD j 0*d.getD (i+(d.length-1)-j) 0) (i:=i) (N:=i+(d.length-1)+1) (by lia) λj hj hne=>by
  rcases gB hne with c|c
  ·rw[jw (show d.length<=i+(d.length-1)-j by lia),aW];exact aQ z
  ·exact bj (up j c)
 have e:i+(d.length-1)-i=d.length-1:=by lia
 rw[e]at h;exact h
theorem aav (hd:0<d.length)(nz:∀x,z ∣ x*jx d->z ∣ x)(h:∀n,S+(d.length-1)<=n->z ∣ cm E d n):∀i,S<=i->z ∣ E.getD i 0:=by
 have key:∀k i,S<=i->E.length<=i+k->z ∣ E.getD i 0:=by
  intro k
  induction k with
  |zero=>intro i _ hk;rw[jw (by lia)];exact aQ z
  |succ k ih=>intro i hi hk;have one:=Kl (z:=z) (E:=E) hd (i:=i) λj hj=>ih j (by lia) (by lia);refine nz _ ?_;have:=eV (h (i+(d.length-1)) (by lia)) one;rw[Int.sub_sub_self]at this;exact this
 exact λi hi=>key E.length i hi (by lia)
theorem Z1 (hg:g<q.length)(h0:q.getD g 0=0)(n:Nat):cm (q.set g c) d n=cm q d n+if g<=n then c*d.getD (n-g) 0 else 0:=by
 unfold cm;rw[SN (f:=λi=>(q.set g c).getD i 0*d.getD (n-i) 0) (g:=λi=>q.getD i 0*d.getD (n-i) 0) (k:=g) λi hi hne=>by
  rw[nW _ _ _ _ hg,ag hne]]
 congr 1;by_cases k:g<n+1
 ·rw[ah k,ah (by lia)];rw[nW _ _ _ _ hg,ah rfl,h0];lia
 ·rw[ag k,ag (by lia)]
def GQ (a b:List Int):List Int:=(List.range (max a.length b.length)).map λi=>a.getD i 0-b.getD i 0
theorem rH (a b:Li)(n:Nat):(GQ a b).getD n 0=a.getD n 0-b.getD n 0:=by
 unfold GQ;by_cases h:n<max a.length b.length
 ·rw[jE (by rw[aa,ao];exact h),bA,bu]
 ·rw[jw (by rw[aa,ao];lia),jw (xs:=a) (by lia),jw (xs:=b) (by lia)];rfl
theorem vN (f g:Nat->Int):∀N,sm N (λi=>f i-g i)=sm N f-sm N g
 |0=>rfl
 |N+1=>by show sm N (λi=>f i-g i)+(f N-g N)=sm N f+f N-(sm N g+g N);rw[vN f g N];lia
theorem TV (a b d:Li)(n:Nat):cm (GQ a b) d n=cm a d n-cm b d n:=by unfold cm;rw[<- vN];exact jz λi _=>by rw[rH,fZ]
theorem m9 {xs:Li}{L:Nat}(hf:kh xs)(h:∀n,L<=n->xs.getD n 0=0):xs.length<=L:=by
 by_cases c:xs.length<=L
 ·exact c
 ·exact absurd (h (xs.length-1) (by lia)) (hf λe=>by rw[e]at c;exact c (bq _))
def t8 (z:Int)(d r:List Int)(c:Int):List Int:=j7 ((List.range r.length).map λn=>if r.length-d.length<=n then pl z (r.getD n 0-c*d.getD (n-(r.length-d.length)) 0) else r.getD n 0)
theorem xP (hd:d.length<=r.length)(n:Nat):(t8 z d r c).getD n 0=if r.length-d.length<=n then pl z (r.getD n 0-c*d.getD (n-(r.length-d.length)) 0) else r.getD n 0:=by
 unfold t8;rw[vU];by_cases h:n<r.length
 ·rw[jE (by rw[aa,ao];exact h),bA,bu]
 ·rw[jw (by rw[aa,ao];lia),ah (by lia),jw (xs:=r) (by lia),jw (xs:=d) (by lia),aW,aT,lO]
def Ql (z:Int)(ov:Int->Int->Option Int)(d:List Int):Nat->List Int->List Int->Option (List Int×List Int)
 |0,q,r=>some (q,r)
 |n+1,q,r=>if r.length<d.length then some (q,r) else match ov (jx r) (jx d) with
  |none=>none
  |some c=>Ql z ov d n (q.set (r.length-d.length) c) (t8 z d r c)
structure xJ (z:Int)(f d q r:List Int):Prop where
 eq:∀n,z ∣ cm q d n+r.getD n 0-f.getD n 0
 rr:∀n,pl z (r.getD n 0)=r.getD n 0
 rf:kh r
 qr:∀n,pl z (q.getD n 0)=q.getD n 0
 ql:q.length=f.length+1-d.length
 rl:r.length<=f.length
 q0:∀n,n+d.length<=r.length->q.getD n 0=0
 qt:r.length<f.length->q.getD (f.length-d.length) 0≠0
theorem xJ.start (hf:kh f)(hr:∀n,pl z (f.getD n 0)=f.getD n 0):xJ z f d (List.replicate (f.length+1-d.length) 0) f:=by
 have g0:∀n,(List.replicate (f.length+1-d.length) (0:Int)).getD n 0=0:=λn=>by
  by_cases h:n<f.length+1-d.length
  ·rw[jE (by rw[aG];exact h),cS]
  ·rw[jw (by rw[aG];lia)]
 refine⟨λn=>?_,hr,hf,λn=>?_,aG,aq _,λn _=>g0 n,λh=>absurd h (c7 _)⟩
 ·have e:cm (List.replicate (f.length+1-d.length) 0) d n=0:=mZ λi _=>by rw[g0,bV]
  rw[e];have:(0:Int)+f.getD n 0-f.getD n 0=0:=by lia
  rw[this];exact aQ z
 ·rw[g0,lO]
theorem xJ.step {z:Int}{f d q r:Li}{c:Int}(I:xJ z f d q r)(hd:0<d.length)(hl:d.length<=r.length)(hc:pl z (c*jx d)=jx r)(hp:pl z c=c):xJ z f d (q.set (r.length-d.length) c) (t8 z d r c)/\(t8 z d r c).length<r.length:=by
 have hg:r.length-d.length<q.length:=by rw[I.ql];have:=I.rl;lia
 have h0:q.getD (r.length-d.length) 0=0:=I.q0 _ (by lia);have rne:r≠[]:=λe=>by rw[e]at hl;exact absurd hl (by show ¬d.length<=0;lia)
 have l0:jx r≠0:=I.rf rne;have hc2:c≠0:=λe=>by rw[e,bV,lO]at hc;exact l0 hc.symm
 have hlen:(t8 z d r c).length<r.length:=by
  have:(t8 z d r c).length<=r.length-1:=by
   refine m9 (rD _) λn hn=>?_;rw[xP hl,ah (by lia)];by_cases k:n=r.length-1
   ·subst k;have e1:r.length-1-(r.length-d.length)=d.length-1:=by lia
    rw[e1];show pl z (jx r-c*jx d)=0;rw[<- lO z];refine(qF z _ _).mpr ?_;have h1:=nF z (c*jx d);rw[hc]at h1;rw[aT];exact h1
   ·rw[jw (xs:=r) (by lia),jw (xs:=d) (by lia),aW,aT,lO]
  lia
 refine⟨⟨λn=>?_,λn=>?_,rD _,λn=>?_,by rw[bB];exact I.ql,by have:=I.rl;lia,λn hn=>?_,λ_=>?_⟩,hlen⟩
 ·rw[Z1 hg h0,xP hl];have e:=I.eq n;by_cases k:r.length-d.length<=n
  ·rw[ah k,ah k];have p:=nF z (r.getD n 0-c*d.getD (n-(r.length-d.length)) 0);have s:=bD e p;generalize pl z (r.getD n 0-c*d.getD (n-(r.length-d.length)) 0)=u at s ⊢;generalize c*d.getD (n-(r.length-d.length)) 0=v at s ⊢;have q:cm q d n+v+u-f.getD n 0=cm q d n+r.getD n 0-f.getD n 0+(u-(r.getD n 0-v)):=by lia
   rw[q];exact s
  ·rw[ag k,ag k,bH];exact e
 ·rw[xP hl];split
  ·exact uq z _
  ·exact I.rr n
 ·rw[nW _ _ _ _ hg];split
  ·exact hp
  ·exact I.qr n
 ·rw[nW _ _ _ _ hg,ag (by lia)];exact I.q0 n (by lia)
 ·rw[nW _ _ _ _ hg];split
  ·exact hc2
  ·have:=I.rl;exact I.qt (by lia)
theorem JV (hd:0<d.length)(hov:∀a c,pl z a=a->ov a (jx d)=some c->pl z (c*jx d)=a/\pl z c=c):∀(fuel:Nat) (q r:Li),xJ z f d q r->r.length<fuel ->
  (∀Q R,Ql z ov d fuel q r=some (Q,R)->xJ z f d Q R/\R.length<d.length)/\(Ql z ov d fuel q r=none->∃q' r',xJ z f d q' r'/\d.length<=r'.length/\ov (jx r') (jx d)=none)
 |0,_,_,_,h=>by lia
 |n+1,q,r,I,h=>by
  unfold Ql;by_cases c:r.length<d.length
  ·rw[ah c];refine⟨λQ R e=>?_,λe=>by cases e⟩;cases e;exact⟨I,c⟩
  ·rw[ag c];cases o:ov (jx r) (jx d) with
   |none=>exact⟨(λQ R e=>by cases e),λ_=>⟨q,r,I,by lia,o⟩⟩
   |some x=>obtain⟨h1,h2⟩:=hov (jx r) x (I.rr _) o;obtain⟨J,hl⟩:=I.step hd (by lia) h1 h2;exact JV hd hov n _ _ J (by lia)
def yd (z:Int)(d r:List Int)(c:Int)(i:Nat)(row:List Int):Prop:=row.length=r.length/\∀n,row.getD n 0=if r.length-d.length<=n/\n-(r.length-d.length)<i then pl z (r.getD n 0-c*d.getD (n-(r.length-d.length)) 0) else r.getD n 0
theorem Kg (z:Int)(d r:Li)(c:Int):yd z d r c 0 r:=⟨rfl,λn=>by rw[ag (by lia)]⟩
theorem Px (h:yd z d r c i row)(hl:d.length<=r.length)(hi:i<d.length):yd z d r c (i+1) (row.set (r.length-d.length+i) (pl z (row.getD (r.length-d.length+i) 0-c*d.getD i 0))):=by
 obtain⟨h1,h2⟩:=h;refine⟨by rw[bB];exact h1,λn=>?_⟩;rw[nW _ _ _ _ (by lia)];by_cases k:n=r.length-d.length+i
 ·subst k;rw[ah rfl,ah (by lia),h2,ag (by lia),show r.length-d.length+i-(r.length-d.length)=i by lia]
 ·rw[ag k,h2];by_cases q:r.length-d.length<=n/\n-(r.length-d.length)<i
  ·rw[ah q,ah (by lia)]
  ·rw[ag q,ag (by lia)]
theorem Uy (h:yd z d r c d.length row)(hl:d.length<=r.length):j7 row=t8 z d r c:=by
 unfold t8;refine IV λn=>?_;rw[h.2 n];by_cases k:n<r.length
 ·rw[jE (xs:=(List.range r.length).map _) (by rw[aa,ao];exact k),bA,bu];by_cases q:r.length-d.length<=n
  ·rw[ah ⟨q,by lia⟩,ah q]
  ·rw[ag (by lia),ag q]
 ·rw[jw (xs:=(List.range r.length).map _) (by rw[aa,ao];lia),ag (by lia),jw (by lia)]
theorem jY (z:Int)(f:Li):kh (Tz z f):=rD _
theorem nO (z:Int)(f:Li)(n:Nat):pl z ((Tz z f).getD n 0)=(Tz z f).getD n 0:=by rw[kI,uq]
theorem yV (ns:Li)(h:0<ns.length):ns.getD (lC ns.length (-1)) 0=jx ns:=by
 have e:lC ns.length (-1)=ns.length-1:=by unfold lC;rw[ag (by lia)];lia
 rw[e];rfl
theorem sI (f g:Nat->Int):∀N,sm N (λi=>f i+g i)=sm N f+sm N g
 |0=>rfl
 |N+1=>by show sm N (λi=>f i+g i)+(f N+g N)=sm N f+f N+(sm N g+g N);rw[sI f g N];lia
theorem n6 (l:Int)(f:Nat->Int):∀n,sm n (λi=>l*f i)=l*sm n f
 |0=>(aW l).symm
 |n+1=>by show sm n (λi=>l*f i)+l*f n=l*(sm n f+f n);rw[n6 l f n,f6]
theorem nQ (o:Int)(q d:Li)(i:Nat):cm (o::q) d i=o*d.getD i 0+if i=0 then 0 else cm q d (i-1):=by
 unfold cm;rw[qd];have e1:((o::q).getD 0 0:Int)=o:=rfl;rw[e1,gz];congr 1;by_cases c:i=0
 ·subst c;rfl
 ·rw[ag c];obtain⟨k,rfl⟩:∃k,i=k+1:=⟨i-1,by lia⟩;refine jz λj hj=>?_;have e2:((o::q).getD (j+1) 0:Int)=q.getD j 0:=rfl;have e3:k+1-(j+1)=k-j:=by lia
  have e4:k+1-1-j=k-j:=by lia
  rw[e2,e3,e4]
theorem lU (d:Li)(n:Nat):cm [] d n=0:=mZ λi _=>by rw[jw (bq _),bV]
theorem DX (h:∀n,f.getD n 0=0)(n:Nat):cm f g n=0:=mZ λi _=>by rw[h i,bV]
theorem wA (h:∀n,f.getD n 0=f'.getD n 0)(k:∀n,g.getD n 0=g'.getD n 0)(n:Nat):cm f g n=cm f' g' n:=jz λi _=>by rw[h,k]
theorem WK (ha:∀i,a.getD i 0=o*g.getD i 0+if i=0 then 0 else u.getD (i-1) 0)(n:Nat):cm a h n=o*cm g h n+if n=0 then 0 else cm u h (n-1):=by
 unfold cm;have e:sm (n+1) (λi=>a.getD i 0*h.getD (n-i) 0)=sm (n+1) λi=>o*(g.getD i 0*h.getD (n-i) 0)+(if i=0 then 0 else u.getD (i-1) 0)*h.getD (n-i) 0:=jz λi _=>by rw[ha,eS,bO]
 rw[e,sI,n6];congr 1;rw[qd];have e0:(if (0:Nat)=0 then(0:Int) else u.getD (0-1) 0)*h.getD (n-0) 0=0:=by rw[ah rfl,bV]
 rw[e0,c9];by_cases c:n=0
 ·subst c;rfl
 ·rw[ag c];obtain⟨k,rfl⟩:∃k,n=k+1:=⟨n-1,by lia⟩;refine jz λj _=>?_;have e3:k+1-(j+1)=k+1-1-j:=by lia
  rw[ag (by lia),e3];rfl
theorem mQ (g h:Li):∀(f:Li) (n:Nat),cm (ju f g) h n=cm f (ju g h) n
 |[],n=>by rw[lU,DX];intro i;rw[jr,lU]
 |o::q,n=>by
  rw[nQ,WK (u:=ju q g) (g:=g) (o:=o) (λi=>by
   rw[jr,nQ];congr 1;by_cases c:i=0
   ·rw[ah c,ah c]
   ·rw[ag c,ag c,jr])]
  rw[jr];congr 1;by_cases c:n=0
  ·rw[ah c,ah c]
  ·rw[ag c,ag c,mQ g h q]
def mu (f g:List Int):List Int:=j7 (ju f g)
def lB (p:Int)(d a b:List Int):Prop:=∃Q:List Int,∀n,p ∣ a.getD n 0-b.getD n 0-cm Q d n
theorem lB.refl (p:Int)(d a:Li):lB p d a a:=⟨[],λn=>by rw[lU,cH];exact aQ p⟩
theorem lB.of (h:∀n,p ∣ a.getD n 0-b.getD n 0):lB p d a b:=⟨[],λn=>by rw[lU,aT];exact h n⟩
theorem qO (a b d:Li)(n:Nat):cm (jZ a b) d n=cm a d n+cm b d n:=by unfold cm;rw[<- sI];exact jz λi _=>by rw[jB,eS]
theorem ZM (a d:Li)(n:Nat):cm (a.map λx=>-x) d n = -cm a d n:=by have h:=n6 (-1) (λi=>a.getD i 0*d.getD (n-i) 0) (n+1);unfold cm;rw[fk]at h;rw[<- h];exact jz λi _=>by rw[m7 _ (by decide),fk,iT]
theorem lB.symm (h:lB p d a b):lB p d b a:=by
 obtain⟨Q,h⟩:=h;refine⟨Q.map λx=>-x,λn=>?_⟩;rw[ZM];have e:b.getD n 0-a.getD n 0 - -cm Q d n = -(a.getD n 0-b.getD n 0-cm Q d n):=by lia
 rw[e];exact bw.mpr (h n)
theorem lB.trans (h:lB p d a b)(k:lB p d b c):lB p d a c:=by
 obtain⟨Q,h⟩:=h;obtain⟨S,k⟩:=k;refine⟨jZ Q S,λn=>?_⟩;rw[qO];have e:a.getD n 0-c.getD n 0-(cm Q d n+cm S d n)=(a.getD n 0-b.getD n 0-cm Q d n)+(b.getD n 0-c.getD n 0-cm S d n):=by lia
 rw[e];exact bD (h n) (k n)
theorem yZ (h:∀n,p ∣ a.getD n 0-b.getD n 0)(n:Nat):p ∣ cm a c n-cm b c n:=by rw[<- TV];exact nJ λi _=>by rw[rH];exact bj (h i)
theorem lB.mul (h:lB p d a b)(c:Li):lB p d (ju a c) (ju b c):=by
 obtain⟨Q,h⟩:=h;refine⟨ju Q c,λn=>?_⟩;have k:=yZ (p:=p) (a:=GQ a b) (b:=ju Q d) (c:=c) (λi=>by rw[rH,jr];exact h i) n;rw[TV]at k;have e:cm (ju Q c) d n=cm (ju Q d) c n:=by rw[mQ,mQ];exact wA (λ_=>rfl) (λi=>by rw[jr,jr,jJ]) n
 rw[jr,jr,e];exact k
theorem lB.comm (p:Int)(d a b:Li):lB p d (ju a b) (ju b a):=.of λn=>by rw[jr,jr,jJ,cH];exact aQ p
theorem lB.DR (h:lB p d a b)(k:lB p d c e):lB p d (ju a c) (ju b e):=
 (h.mul c).trans (((lB.comm p d b c).trans (k.mul b)).trans (lB.comm p d e b))
theorem lB.rN (p:Int)(d a b c:Li):lB p d (ju (ju a b) c) (ju a (ju b c)):=.of λn=>by rw[jr,jr,mQ,cH];exact aQ p
theorem lB.Tz (p:Int)(d a:Li):lB p d a (FM.Tz p a):=.of λn=>by
 rw[kI];have:=nF p (a.getD n 0);have e:a.getD n 0-pl p (a.getD n 0) = -(pl p (a.getD n 0)-a.getD n 0):=by lia
 rw[e];exact bw.mpr this
theorem lB.one (p:Int)(d a:Li):lB p d (ju a [1]) a:=.of λn=>by
 rw[jr,jJ,nQ];by_cases c:n=0
 ·rw[ah c,cC,bH,cH];exact aQ p
 ·rw[ag c,lU,cC,bH,cH];exact aQ p
structure Ly (p:Int)(d r:List Int):Prop where
 form:kh r
 red:∀n,pl p (r.getD n 0)=r.getD n 0
 len:r.length<d.length
theorem rC (nz:∀x,p ∣ x*jx d->p ∣ x)(hr:Ly p d r)(hs:Ly p d s)(h:lB p d r s):r=s:=by
 obtain⟨Q,h⟩:=h;have hd:0<d.length:=aV (bq _) hr.len;have l1:=hr.len;have l2:=hs.len;have top:=aav (z:=p) (E:=Q) (S:=0) hd nz λn hn=>by
  have:=h n;rw[jw (xs:=r) (by lia),jw (xs:=s) (by lia)]at this;have e:(0:Int)-0-cm Q d n = -cm Q d n:=by lia
  rw[e]at this;exact bw.mp this
 refine m5 hr.form hs.form λn=>su (hr.red n) (hs.red n) ?_;have k:=h n;have c:p ∣ cm Q d n:=nJ λi _=>bj (top i (bq _));have e:r.getD n 0-s.getD n 0=(r.getD n 0-s.getD n 0-cm Q d n)+cm Q d n:=by lia
 rw[e];exact bD k c
open Classical in
def rm (p:Int)(d a:List Int):List Int:=if h:∃r,Ly p d r/\lB p d a r then Classical.choose h else[]
theorem Rm (nz:∀x,p ∣ x*jx d->p ∣ x)(hr:Ly p d r)(h:lB p d a r):rm p d a=r:=by
 have ex:∃r,Ly p d r/\lB p d a r:=⟨r,hr,h⟩;have e:rm p d a=Classical.choose ex:=by unfold rm;rw[i9 ex]
 obtain⟨h1,h2⟩:=fH ex;rw[e];exact rC nz h1 hr (h2.symm.trans h)
def pw (a:List Int):Nat->List Int
 |0=>[1]
 |k+1=>ju (pw a k) a
theorem pw_mod (h:lB p d a b):∀k,lB p d (pw a k) (pw b k)
 |0=>.refl p d [1]
 |k+1=>(pw_mod h k).DR h
theorem pw_sq (p:Int)(d a:Li):∀k,lB p d (pw (ju a a) k) (pw a (2*k))
 |0=>.refl p d [1]
 |k+1=>by
  have e:2*(k+1)=2*k+1+1:=by lia
  rw[e];exact((pw_sq p d a k).mul _).trans (lB.rN p d _ a a).symm
theorem pw_even {p:Int}{d P S S':Li}{h:Nat}(hS:lB p d S' (ju S S)):lB p d (ju P (pw S' h)) (ju P (pw S (2*h))):=
 (lB.refl p d P).DR ((pw_mod hS h).trans (pw_sq p d S h))
def aaX:Int->List Int->Prop:=λz ns=>match ns with
 |[a,b]=>2<=z/\z.natAbs<2^9000/\a.natAbs<2^9000
 |_=>False
def G7 (C:Addr):Int->List Int->Int ⊕ Addr:=λz ns=>match ns with
 |[a,b]=>if Int.gcd b z=1 then .inl (pl z (a*tu b z)) else .inr C
 |_=>.inr C
theorem W3 (g:Int.gcd y z=1):G7 C z [x,y]=.inl (pl z (x*tu y z)):=ah g
theorem abK (g:¬Int.gcd y z=1):G7 C z [x,y]=.inr C:=ag g
theorem zE (T:Top K mg cFE cNO cNN cK cR):KME P w K mg base 2 (KR cR) "over" 2 aaX (G7 cNO):=by
 refine⟨λH a z ka=>?_⟩;obtain⟨q0,dx,fs,e,hz,hm⟩:=id ka;obtain⟨f,fd,Fu,b,m1⟩:=T.Iz;refine⟨cR,dx,fs,["self","a","b"],e,hm "over" (by decide +kernel),f,fd,?_,b,m1,T.qp⟩;obtain⟨oc,od,kV,doc,pm,an,cdv,ct,osl,rfl,lk,hcd⟩:=Fu.ex;refine fn_of lk hcd Eo (λvs H Q E h=>?_) λA outer s H vs Q E hr h=>?_
 ·obtain⟨ns,hl,rfl,_⟩:=h;show(ns.map V.int).length+1=3;rw[aa,hl]
 obtain⟨ns,hl,rfl,ka2,hp,k,ke⟩:=h;obtain⟨x,y,rfl⟩:=aas hl;obtain⟨hz2,h9,hx⟩:=hp;obtain⟨_,dx2,fs2,e2,hz',_⟩:=id ka2;obtain⟨C3,dx3,fs3,ps3,e3,l3,M3⟩:=(pM (P:=P) (w:=w) (base:=base) T).ex H a z ka2;obtain⟨f3,fd3,F3,b3,mm3,c3⟩:=M3.ex;refine⟨_,(pss_one (ps_ret (pe_meth (pv 0) c3 mm3 F3 hr b3 .nil pass0 (pa_cons (pe_op GZ (mW 1) (z9 (PN T) Yb hr (pa_cons (mW 2) (pa_cons (pe_fld (pv 0) rfl) pa_nil)))) pa_nil)))),?_⟩;refine⟨_,rfl,a,dx3,fs3,rfl,e3,l3,rfl,rfl,_,rfl,a,cR,dx2,fs2,_,rfl,e2,T.qp,T.pH,hz',[.int y,.int z],λ_=>false,(λ_ z=>by cases z),⟨_,_,rfl,rfl,_,_,rfl,rfl,rfl⟩,⟨y,z,rfl,hz2,h9⟩,λp hp v H1 s1 a1=>?_,λer her H1 s1=>?_⟩
 ·by_cases g:Int.gcd y z=1
  ·rw[show Kw cNO [.int y,.int z]=.val (.int (tu y z)) from ah g]at hp;cases hp;subst a1;obtain⟨t0,t1,_⟩:=MN hz2 (NP hz2 g);have tb:(tu y z).natAbs<2^9000:=by
    generalize 2^9000=B at *
    lia
   refine⟨x,tu y z,rfl,rfl,pU (n:=9000) (m:=9000) hx tb,[x*tu y z],rfl,rfl,ka2.same s1,tJ,?_⟩;exact k _ (W3 g) H1 s1
  ·rw[show Kw cNO [.int y,.int z]=.err cNO from ag g]at hp;cases hp
 ·by_cases g:Int.gcd y z=1
  ·rw[show Kw cNO [.int y,.int z]=.val (.int (tu y z)) from ah g]at her;cases her
  ·rw[show Kw cNO [.int y,.int z]=.err cNO from ag g]at her;cases her;exact ke cNO (abK g) H1 s1
def Sx (z a b:Int):Option Int:=some (pl z (a*tu b z))
theorem hov (z2:2<=z)(g:Int.gcd b z=1)(a c:Int)(ha:pl z a=a)(h:Sx z a b=some c):pl z (c*b)=a/\pl z c=c:=by
 have e:=aI h;subst e;obtain⟨_,_,t⟩:=MN z2 (NP z2 g);refine⟨?_,uq _ _⟩;rw[zY];have e1:pl z (a*tu b z*b)=pl z (a*pl z (tu b z*b)):=by rw[zp,bO]
 rw[e1,kZ (n:=tu b z*b) (by lia),t,bR,ha]
def Yt (z:Int)(fo d:List Int):Option (List Int×List Int):=Ql z (Sx z) d (fo.length+1) (List.replicate (fo.length+1-d.length) 0) fo
def uH (z:Int)(fo d:List Int):PV:=match Yt z fo d with
 |none=>.non
 |some p=>.tup [.ints p.1,.ints p.2]
structure Hb (p:Int)(g:List Int):Prop where
 pr:jL p
 len:g.length<=200
 ne:Tz p g≠[]
 gcd:Int.gcd (jx (Tz p g)) p=1
theorem Hb.nz (h:Hb p g)(x:Int)(hx:p ∣ x*jx (Tz p g)):p ∣ x:=by
 obtain⟨t,_,_,ht⟩:=NP h.pr.1 h.gcd;have h1:=f7 ht;have h2:p ∣ x*jx (Tz p g)*t:=bj hx;have h3:p ∣ x*(1-t*jx (Tz p g)):=aP h1;have e1:x=x*jx (Tz p g)*t+x*(1-t*jx (Tz p g)):=by rw[cG,bR,cu t,<- bO];lia
 rw[e1];exact bD h2 h3
theorem mH (h:Hb p g)(f:Li):∃q,Yt p (Tz p f) (Tz p g)=some (q,rm p (Tz p g) f)/\Ly p (Tz p g) (rm p (Tz p g) f)/\lB p (Tz p g) f (rm p (Tz p g) f):=by
 have hd:=lP h.ne;have p2:2<=p:=h.pr.1;obtain⟨h1,h2⟩:=JV (z:=p) (ov:=Sx p) (f:=Tz p f) (d:=Tz p g) hd (λa c ha hc=>hov p2 h.gcd a c ha hc) ((Tz p f).length+1) _ _ (xJ.start (jY p f) (nO p f)) (c5 _);cases o:Ql p (Sx p) (Tz p g) ((Tz p f).length+1) (List.replicate ((Tz p f).length+1-(Tz p g).length) 0) (Tz p f) with
 |none=>obtain⟨_,_,_,_,z⟩:=h2 o;cases z
 |some x=>
  obtain⟨q,r⟩:=x;obtain⟨I,hl⟩:=h1 q r o;have ir:Ly p (Tz p g) r:=⟨I.rf,I.rr,hl⟩;have er:lB p (Tz p g) f r:=(lB.Tz p (Tz p g) f).trans ⟨q,λn=>by
   have k:=I.eq n;have e:(Tz p f).getD n 0-r.getD n 0-cm q (Tz p g) n = -(cm q (Tz p g) n+r.getD n 0-(Tz p f).getD n 0):=by lia
   rw[e];exact bw.mpr k⟩
  have em:=Rm h.nz ir er;rw[em];exact⟨q,o,ir,er⟩
theorem SJ (h:Hb p g)(e:lB p (Tz p g) a b):rm p (Tz p g) a=rm p (Tz p g) b:=by obtain⟨_,_,h1,h2⟩:=mH h b;exact Rm h.nz h1 (e.trans h2)
theorem Wf (hl:d.length<=r.length):Ql z (Sx z) d (n+1) q r=Ql z (Sx z) d n (q.set (r.length-d.length) (pl z (jx r*tu (jx d) z))) (t8 z d r (pl z (jx r*tu (jx d) z))):=by
 conv=>lhs;unfold Ql
 rw[ag (by lia)];rfl
theorem V2 (hl:r.length<d.length):Ql z (Sx z) d (n+1) q r=some (q,r):=by unfold Ql;rw[ah hl]
theorem zF (hp:jL p)(h:pl p m=m):0<=m/\m<9973:=by have:=Aj (z:=p) (n:=m) (by have:=hp.1;lia);have:=hp.2.1;lia
theorem ou (T:Top K mg cFE cNO cNN cK cR):Ok P w K mg base 3 "divided" ["kind","f","g"] (ym K (Gr cR) (λas=>∃p f g,as=[.ob 0 p,.ints f,.ints g]/\Hb p g/\f.length<=200) λas=>match as with
  |[.ob 0 p,.ints f,.ints g]=>uH p (Tz p f) (Tz p g)
  |_=>.non):=by
 refine xO T.Qu m8 (λas ⟨a,b,c,h,_⟩=>by rw[h];rfl) (λf cdv A outer s H E hr=>⟨_,(jn (rZ (i:=3) m8.nd rfl (Or.inl rfl) (tH (jU T) hr (jm (xv 0) (jm (xl 1) jq))))
 (jn (jG (i:=4) m8.nd rfl (Or.inl rfl) (j9 (tH (jU T) hr (jm (xv 0) (jm (xl 2) jq)))))
 (jn (lQ (qm (wU 4))
 (jt Di)
 kW)
 (jn (rZ (i:=5) m8.nd rfl (Or.inl rfl) (sS (nH (jm jo jq)) (lR (oR (kY 3 T.j6) (kY 4 T.j6)) jo) (λ_=>rfl)))
 (jn (nq aO (aaE (kY 3 T.j6) (kY 4 T.j6))
 (jn (jA (i:=6) m8.nd rfl (Or.inl rfl) (oR (kY 3 T.j6) (kY 4 T.j6)))
 (jn (jA (i:=7) m8.nd rfl (Or.inl rfl) (um (ZS (Ft 0 (zE T) hr (jm (lV 3 (sH jo) (λ_ _=>rfl)) (jm (lV 4 (sH jo) (λ_ _=>rfl)) jq))))))
 (jn (rB 5 (xn 6) (xn 7))
 (jn (rF (k:=8) (j:=9) aO rfl (by rfl) T.lZ (xl 4) (pg_tup rfl (pgs_cons (pg_name (i:=8) m8.nd rfl (Or.inl rfl)) (pgs_cons (pg_name (i:=9) m8.nd rfl (Or.inl rfl)) pgs_nil)))
 (jt (rB 3 (lR (xn 6) (xn 8)) (qu 0 (pM T) hr (jm (oR (lV 3 (lR (xn 6) (xn 8)) (λ_ _=>rfl)) (nM (xn 7) (xn 9))) jq)))))
 (jt (Mp 3 (tY T) hr)))))))
 (lG 3 (lG 5 (jt (jD (rQ (jm (xl 5) (jm (xl 3) jq)))))))))))),λas hp=>?_⟩)
 obtain⟨z,f,g,rfl,ok,hfl⟩:=hp;have hgl:=ok.len;have p2:2<=z:=ok.pr.1;have h9:z.natAbs<2^9000:=by
  have:z.natAbs<=2^14:=by have:=ok.pr.2.1;lia
  exact aV this (bx (by decide) (by decide))
 refine⟨⟨⟨rfl,rfl,tJ⟩,z,f,rfl,by lia⟩,λfo efo=>?_⟩;have efo:fo=Tz z f:=efo;refine⟨⟨⟨rfl,rfl,tJ⟩,z,g,rfl,by lia⟩,λd ed=>?_⟩;have ed:d=Tz z g:=ed;have lf:fo.length<=200:=by rw[efo];exact aJ (m6 _ _) hfl
 have lg:d.length<=200:=by rw[ed];exact aJ (m6 _ _) hgl
 have ff:kh fo:=by rw[efo];exact jY z f
 have fr:∀n,pl z (fo.getD n 0)=fo.getD n 0:=by rw[efo];exact nO z f
 have dr:∀n,pl z (d.getD n 0)=d.getD n 0:=by rw[ed];exact nO z g
 have dne:¬d=[]:=by rw[ed];exact ok.ne
 have gc:Int.gcd (jx d) z=1:=by rw[ed];exact ok.gcd
 have hd:=lP dne;have goal:∀q r,Yt z fo d=some (q,r)->PV.tup [.ints q,.ints r]=uH z (Tz z f) (Tz z g):=λq r h=>by rw[<- efo,<- ed];unfold uH;rw[h]
 have pr:=ok.pr;refine⟨.inl rfl,λq=>?_,λ_=>?_⟩
 ·exact q dne
 refine⟨⟨⟨⟨tJ,tJ⟩,tJ⟩,⟨⟨.inr (.inl rfl),.inl rfl⟩,tJ⟩,?_,?_⟩,λq0 eq0=>?_⟩
 ·show -(2:Int)^63<=(fo.length:Int)-(d.length:Int)+1;lia
 ·show((fo.length:Int)-(d.length:Int)+1).toNat<=1000;lia
 have eq0:q0=List.replicate ((fo.length:Int)-(d.length:Int)+1).toNat 0:=eq0;have en:((fo.length:Int)-(d.length:Int)+1).toNat=fo.length+1-d.length:=by lia
 rw[en]at eq0;refine⟨λZ=>∃q r v6 v7 v8 v9 fuel,Z=[.fr (.ob 0 z),.fr (.ints f),.fr (.ints g),.ow (.ints r),.fr (.ints d),.ow (.ints q),v6,v7,v8,v9]/\xJ z fo d q r/\r.length<fuel/\Ql z (Sx z) d fuel q r=Yt z fo d,λZ=>(getL Z 3).length,⟨q0,fo,.un,.un,.un,.un,fo.length+1,rfl,by rw[eq0];exact xJ.start ff fr,c5 _,by rw[eq0];rfl⟩,?_⟩;rintro Z ⟨q,r,v6,v7,v8,v9,fuel,rfl,I,hfu,hdv⟩;refine⟨⟨.inr (.inl rfl),.inl rfl⟩,λk=>?_,λk=>?_⟩
 ·have k:(d.length:Int)<=(r.length:Int):=k;have hl:d.length<=r.length:=by lia
  have rl:=I.rl;obtain⟨fuel,rfl⟩:∃n,fuel=n+1:=⟨fuel-1,by lia⟩;rw[Wf hl]at hdv;refine⟨⟨.inr (.inl rfl),.inl rfl⟩,λgap egap=>?_⟩;have egap:gap=(r.length:Int)-(d.length:Int):=egap;have egap:gap=((r.length-d.length:Nat):Int):=by lia
  subst egap;have lr:r.getD (lC r.length (-1)) 0=jx r:=yV r (by lia);have ld:d.getD (lC d.length (-1)) 0=jx d:=yV d hd;have fo_r:=W3 (C:=cNO) (z:=z) (x:=jx r) gc;have rs:=zF pr (I.rr (r.length-1));have r9:(jx r).natAbs<2^9000:=by
   have:(jx r).natAbs<=2^14:=by unfold jx;lia
   exact aV this (bx (by decide) (by decide))
  have eF:G7 cNO z [r.getD (lC r.length (-1)) 0,d.getD (lC d.length (-1)) 0]=.inl (pl z (jx r*tu (jx d) z)):=by rw[lr,ld];exact fo_r
  obtain⟨c,hc⟩:∃c,c=pl z (jx r*tu (jx d) z):=⟨_,rfl⟩;rw[<- hc]at eF hdv;refine⟨⟨⟨⟨rfl,⟨⟨.inr (.inl rfl),tJ,by show -(r.length:Int) <= -1;lia,by show(-1:Int)<(r.length:Int);lia⟩,⟨.inl rfl,tJ,by show -(d.length:Int) <= -1;lia,by show(-1:Int)<(d.length:Int);lia⟩,tJ⟩,tJ,?_⟩,?_⟩,?_⟩,λc' ec'=>?_⟩
  ·show aaX z [r.getD (lC r.length (-1)) 0,d.getD (lC d.length (-1)) 0];rw[lr];exact⟨p2,h9,r9⟩
  ·show(ye (G7 cNO z [r.getD (lC r.length (-1)) 0,d.getD (lC d.length (-1)) 0])).isV;rw[eF];exact tJ
  ·show(ye (G7 cNO z [r.getD (lC r.length (-1)) 0,d.getD (lC d.length (-1)) 0])).get=.int (Ha (ye (G7 cNO z [r.getD (lC r.length (-1)) 0,d.getD (lC d.length (-1)) 0])).get);rw[eF];rfl
  have ec':c'=Ha (ye (G7 cNO z [r.getD (lC r.length (-1)) 0,d.getD (lC d.length (-1)) 0])).get:=ec';rw[eF]at ec';have ec':c'=c:=ec';subst ec';obtain⟨h1,h2⟩:=hov p2 gc _ _ (I.rr (r.length-1)) (show Sx z (jx r) (jx d)=some c' by rw[hc];rfl);obtain⟨J,hlt⟩:=I.step hd hl h1 h2;have cs:=zF pr h2;have ql:=I.ql;have ix5:lC q.length ((r.length-d.length:Nat):Int)=r.length-d.length:=by unfold lC;rw[ah (by lia)];lia
  refine⟨rfl,rfl,rfl,⟨by show -(q.length:Int)<=((r.length-d.length:Nat):Int);lia,by show((r.length-d.length:Nat):Int)<(q.length:Int);lia⟩,?_⟩;refine⟨rfl,λi Z=>∃row v8 v9,Z=[.fr (.ob 0 z),.fr (.ints f),.fr (.ints g),.ow (.ints row),.fr (.ints d),.ow (.ints (q.set (r.length-d.length) c')),.fr (.int ((r.length-d.length:Nat):Int)),.fr (.int c'),v8,v9]/\yd z d r c' i row,⟨r,v8,v9,rfl,Kg z d r c'⟩,?_,?_⟩
  ·rintro i n Z hn ⟨row,v8,v9,rfl,ht⟩;have hn:d[i]?=some n:=hn;have hi:=(aj.mp hn).1;have en:d.getD i 0=n:=getD_at' hn;have l1:-(row.length:Int)<=((r.length-d.length:Nat):Int)+(i:Int):=by lia
   have l2:((r.length-d.length:Nat):Int)+(i:Int)<(row.length:Int):=by rw[ht.1];lia
   have ix:lC row.length (((r.length-d.length:Nat):Int)+(i:Int))=r.length-d.length+i:=by unfold lC;rw[ah (by lia)];lia
   have ns:=zF pr (dr i);rw[en]at ns;refine⟨⟨rfl,⟨⟨⟨.inr (.inl rfl),⟨rfl,rfl⟩,l1,l2⟩,rfl,rfl,uG ⟨by show -(2:Int)^64<n;lia,by show n<(2:Int)^64;lia⟩⟩,tJ⟩,tJ,tJ⟩,rfl,⟨rfl,rfl⟩,⟨l1,l2⟩,row.set (r.length-d.length+i) (pl z (row.getD (r.length-d.length+i) 0-c' * n)),.fr (.int i),.fr (.int n),?_,?_⟩
   ·rw[<- ix];rfl
   ·have:=Px ht hl hi;rw[en]at this;exact this
  ·rintro Z ⟨row,v8,v9,rfl,ht⟩;have ht:yd z d r c' d.length row:=ht;have et:=Uy ht hl;refine⟨rfl,tJ,⟨q.set (r.length-d.length) c',t8 z d r c',.fr (.int ((r.length-d.length:Nat):Int)),.fr (.int c'),v8,v9,fuel,?_,J,by lia,hdv⟩,?_⟩
   ·rw[<- et];rfl
   ·show(j7 row).length<r.length;rw[et];exact hlt
 ·have k:¬(d.length:Int)<=(r.length:Int):=k;obtain⟨fuel,rfl⟩:∃n,fuel=n+1:=⟨fuel-1,by lia⟩;rw[V2 (by lia)]at hdv;exact⟨⟨rfl,rfl,tJ⟩,goal q r hdv.symm⟩
def Bd (r:List Int):Prop:=∀m∈r,m.natAbs<2^9000
theorem Bq {m:Int}(h:0<=m/\m<9973):m.natAbs<2^9000:=by
 have:m.natAbs<=2^14:=by lia
 exact aV this (bx (by decide) (by decide))
theorem Ly.bd {p:Int}{d r:Li}(hp:jL p)(h:Ly p d r):Bd r:=λm hm=>by obtain⟨n,_,e⟩:=FM.mem_getD hm;have:=zF hp (h.red n);rw[e]at this;exact Bq this
theorem Gb (h:Hb p g)(f:Li):∃q,uH p (Tz p f) (Tz p g)=.tup [.ints q,.ints (rm p (Tz p g) f)]:=by obtain⟨q,e,_⟩:=mH h f;exact⟨q,by unfold uH;rw[e]⟩
theorem ZF (hp:jL p):0<=p/\p<((2^9000:Nat):Int):=by
 have h1:=hp.1;have h2:=hp.2.1;have h3:(2:Nat)^14<=2^9000:=cO (by decide) (by decide);generalize (2:Nat)^9000=N at *
 lia
theorem tW (T:Top K mg cFE cNO cNN cK cR):Ok P w K mg base 4 "times_by" ["kind","one","other","g"] (ZJ K (Gr cR) (λas=>∃p a b g,as=[.ob 0 p,.ints a,.ints b,.ints g]/\Hb p g/\a.length+b.length<=200/\Bd a/\Bd b) λas=>match as with
  |[.ob 0 p,.ints a,.ints b,.ints g]=>rm p (Tz p g) (ju a b)
  |_=>[]):=by
 refine xO T.Ky HS (λas ⟨a,b,c,d,h,_⟩=>by rw[h];rfl) (λf cdv A outer s H E hr=>⟨_,(jt (jD (xl_of (jH (xc (ou T) hr (jm (xv 0) (jm (j9 (tH (TJ T) hr (jm (xv 0) (jm (xl 1) (jm (xl 2) jq))))) (jm (xl 3) jq)))) jo (λ_ _=>rfl))))),λas hp=>?_⟩);obtain⟨p,a,b,g,rfl,ok,hl,ha,hb⟩:=hp;obtain⟨q0,q9⟩:=ZF ok.pr;have el:(Tz p (ju (Tz p a) (Tz p b))).length<=200:=by rw[Hx];refine aJ (m6 _ _) ?_;unfold ju;rw[aa,ao];exact hl
 obtain⟨q,e⟩:=Gb ok (Tz p (ju (Tz p a) (Tz p b)));refine⟨⟨⟨⟨⟨rfl,⟨⟨rfl,rfl,rfl,tJ⟩,p,a,b,rfl,q0,q9,by lia,ha,hb⟩,rfl,tJ⟩,p,_,g,rfl,ok,el⟩,tJ,?_⟩,?_⟩,?_⟩
 ·show oY (uH p (Tz p (Tz p (ju (Tz p a) (Tz p b)))) (Tz p g)) 1;rw[e];exact⟨by show(-2:Int)<=1;decide,by show(1:Int)<2;decide⟩
 ·show lX (uH p (Tz p (Tz p (ju (Tz p a) (Tz p b)))) (Tz p g)) 1=.ints (kJ (lX (uH p (Tz p (Tz p (ju (Tz p a) (Tz p b)))) (Tz p g)) 1));rw[e];rfl
 ·show PV.ints (kJ (lX (uH p (Tz p (Tz p (ju (Tz p a) (Tz p b)))) (Tz p g)) 1))=PV.ints (rm p (Tz p g) (ju a b));rw[e];show PV.ints (rm p (Tz p g) (Tz p (ju (Tz p a) (Tz p b))))=PV.ints (rm p (Tz p g) (ju a b));rw[Hx,SJ ok (lB.Tz p (Tz p g) (ju a b)).symm]
theorem pw_odd1 {p:Int}{d P S P':Li}(h:Nat)(hP:lB p d P' (ju P S)):lB p d (ju P' (pw S (2*h))) (ju P (pw S (2*h+1))):=by refine(hP.mul _).trans ((lB.rN p d _ _ _).trans ?_);refine(lB.comm p d _ _).trans (lB.trans ?_ (lB.comm p d _ _));exact(lB.comm p d S (pw S (2*h))).mul P
theorem Ds (T:Top K mg cFE cNO cNN cK cR):Ok P w K mg base 5 "raised" ["kind","f","many","g"] (ZJ K (Gr cR) (λas=>∃p f,∃m:Nat,∃g,as=[.ob 0 p,.ints f,.int (m:Int),.ints g]/\Hb p g/\f.length<=200/\(Tz p g).length<=100) λas=>match as with
  |[.ob 0 p,.ints f,.int m,.ints g]=>rm p (Tz p g) (pw f m.toNat)
  |_=>[]):=by
 refine xO T.U6 pD (λas ⟨a,b,c,d,h,_⟩=>by rw[h];rfl) (λf cdv A outer s H E hr=>⟨_,(jn (jG (i:=4) pD.nd rfl (Or.inl rfl) (xl_of (jH (xc (ou T) hr (jm (xv 0) (jm (j9 (nH (jm jo jq))) (jm (xl 3) jq)))) jo (λ_ _=>rfl))))
 (jn (jG (i:=5) pD.nd rfl (Or.inl rfl) (xl_of (jH (xc (ou T) hr (jm (xv 0) (jm (xl 1) (jm (xl 3) jq)))) jo (λ_ _=>rfl))))
 (jn (jA (i:=6) pD.nd rfl (Or.inl rfl) (xn 2))
 (jn (nq aO (uV (xn 6) jo)
 (tK (lQ (tO (lD (xn 6) jo) jo)
 (jt (jG (i:=4) pD.nd rfl (Or.inl rfl) (xcL (tW T) hr (jm (xv 0) (jm (xl 4) (jm (xl 5) (jm (xl 3) jq)))))))
 kW)
 (jn (jG (i:=5) pD.nd rfl (Or.inl rfl) (xcL (tW T) hr (jm (xv 0) (jm (xl 5) (jm (xl 5) (jm (xl 3) jq))))))
 (jt (zb (i:=6) pD.nd rfl (Or.inl rfl) jo iop_fdiv)))))
 (jt (jD (xl 4))))))),λas hp=>?_⟩)
 obtain⟨p,f,m,g,rfl,ok,hl,hd⟩:=hp;have one200:([1]:List Int).length<=200:=by decide
 have item:∀(x:List Int) (q:List Int),uH p (Tz p x) (Tz p g)=.tup [.ints q,.ints (rm p (Tz p g) x)]->oY (uH p (Tz p x) (Tz p g)) 1/\lX (uH p (Tz p x) (Tz p g)) 1=.ints (kJ (lX (uH p (Tz p x) (Tz p g)) 1))/\kJ (lX (uH p (Tz p x) (Tz p g)) 1)=rm p (Tz p g) x:=λx q e=>by rw[e];exact⟨⟨by show(-2:Int)<=1;decide,by show(1:Int)<2;decide⟩,rfl,rfl⟩
 obtain⟨q1,e1⟩:=Gb ok [1];obtain⟨q2,e2⟩:=Gb ok f;obtain⟨a1,a2,a3⟩:=item _ _ e1;obtain⟨b1,b2,b3⟩:=item _ _ e2;refine⟨⟨⟨⟨⟨rfl,⟨⟨tJ,tJ⟩,tJ⟩,rfl,tJ⟩,p,[1],g,rfl,ok,one200⟩,tJ,a1⟩,a2⟩,λP0 eP0=>?_⟩;have eP0:P0=kJ (lX (uH p (Tz p [1]) (Tz p g)) 1):=eP0;rw[a3]at eP0;refine⟨⟨⟨⟨⟨rfl,rfl,rfl,tJ⟩,p,f,g,rfl,ok,hl⟩,tJ,b1⟩,b2⟩,λS0 eS0=>?_⟩;have eS0:S0=kJ (lX (uH p (Tz p f) (Tz p g)) 1):=eS0;rw[b3]at eS0;refine⟨rfl,λl0 el0=>?_⟩;have el0:l0=(m:Int):=el0;refine lF (Z':=[.fr (.ob 0 p),.fr (.ints f),.fr (.int (m:Int)),.fr (.ints g),.fr (.ints P0),.fr (.ints S0),.fr (.int l0)]) rfl ?_;obtain⟨_,_,iP,hP⟩:=mH ok [1];obtain⟨_,_,iS,hS⟩:=mH ok f;rw[<- eP0]at iP hP;rw[<- eS0]at iS hS;refine⟨λZ=>∃(P S:List Int) (L:Nat),Z=[.fr (.ob 0 p),.fr (.ints f),.fr (.int (m:Int)),.fr (.ints g),.fr (.ints P),.fr (.ints S),.fr (.int (L:Int))]/\Ly p (Tz p g) P/\Ly p (Tz p g) S/\lB p (Tz p g) (ju P (pw S L)) (pw f m),λZ=>(yl Z 6).toNat,⟨P0,S0,m,by rw[el0],iP,iS,?_⟩,?_⟩
 ·refine(hP.symm.DR (pw_mod hS.symm m)).trans ((lB.comm p _ _ _).trans (lB.one p _ _))
 rintro Z ⟨P1,S,L,rfl,iP,iS,hE⟩;have lS:=iS.len;have lP:=iP.len;have bS:=iS.bd ok.pr;have bP:=iP.bd ok.pr;refine⟨⟨rfl,tJ⟩,λk=>?_,λk=>?_⟩
 ·have k:(L:Int) > 0:=k;refine⟨λZ=>∃P',Z=[.fr (.ob 0 p),.fr (.ints f),.fr (.int (m:Int)),.fr (.ints g),.fr (.ints P'),.fr (.ints S),.fr (.int (L:Int))]/\Ly p (Tz p g) P'/\lB p (Tz p g) (ju P' (pw S (2*(L / 2)))) (pw f m),⟨⟨⟨rfl,tJ,by show(0:Int)<2;decide⟩,tJ⟩,λo=>?_,λo=>?_⟩,?_⟩
  ·have o:(L:Int) % 2=1:=o;refine⟨⟨⟨rfl,rfl,rfl,rfl,tJ⟩,p,P1,S,g,rfl,ok,by lia,bP,bS⟩,λP' eP'=>⟨P',rfl,?_,?_⟩⟩
   ·rw[eP'];exact(mH ok (ju P1 S)).choose_spec.2.1
   ·have eP':P'=rm p (Tz p g) (ju P1 S):=eP';have h1:lB p (Tz p g) P' (ju P1 S):=by rw[eP'];exact(mH ok (ju P1 S)).choose_spec.2.2.symm
    have e:L=2*(L / 2)+1:=by lia
    refine(pw_odd1 (L / 2) h1).trans ?_;rw[<- e];exact hE
  ·have o:¬(L:Int) % 2=1:=o;refine⟨P1,rfl,iP,?_⟩;have e:2*(L / 2)=L:=by lia
   rw[e];exact hE
  rintro Z ⟨P',rfl,iP',hE'⟩;refine⟨⟨⟨rfl,rfl,rfl,rfl,tJ⟩,p,S,S,g,rfl,ok,by lia,bS,bS⟩,λS' eS'=>?_⟩;have eS':S'=rm p (Tz p g) (ju S S):=eS';have iS':Ly p (Tz p g) S':=by rw[eS'];exact(mH ok (ju S S)).choose_spec.2.1
  have hS':lB p (Tz p g) S' (ju S S):=by rw[eS'];exact(mH ok (ju S S)).choose_spec.2.2.symm
  refine⟨rfl,tJ,⟨by decide,by decide⟩,λl el=>⟨⟨P',S',L / 2,?_,iP',iS',(pw_even hS').trans hE'⟩,?_⟩⟩
  ·have el:l=(L:Int) / 2:=el;have e:(L:Int) / 2=((L / 2:Nat):Int):=by lia
   rw[e]at el;rw[el];rfl
  ·have el:l=(L:Int) / 2:=el;show l.toNat<((L:Nat):Int).toNat;lia
 ·have k:¬(L:Int) > 0:=k;have e:L=0:=by lia
  subst e;refine⟨rfl,?_⟩;show PV.ints P1=PV.ints (rm p (Tz p g) (pw f ((m:Nat):Int).toNat));rw[aE,Rm ok.nz iP (hE.symm.trans (lB.one p _ _))]
theorem Xb (h:jL p){d:Nat}(hd:(d:Int) ∣ p):d=1\/(d:Int)=p:=by
 obtain⟨h2,_,hn⟩:=h;obtain⟨c,hc⟩:=hd;by_cases d1:d=1
 ·exact .inl d1
 have d0:d≠0:=λz=>by rw[z]at hc;simp at hc;lia
 have c0:0<c:=by
  rcases Int.lt_or_le 0 c with h|h
  ·exact h
  ·have:=b8 (show(0:Int)<=d by lia) h;lia
 by_cases c1:c=1
 ·right;rw[hc,c1,bR]
 exfalso;by_cases le:(d:Int)<=c
 ·have sq:(d:Int)*d<=p:=by rw[hc];exact bC le (by lia)
  exact hn d (by lia) sq (by rw[hc];exact Int.mul_emod_right _ _)
 ·have sq:c*c<=p:=by rw[hc];exact Int.mul_le_mul_of_nonneg_right (by lia) (by lia)
  exact hn c (by lia) sq (by rw[hc];exact Int.mul_emod_left _ _)
theorem GR {p b:Int}(h:jL p)(hb:¬b % p=0)(m:Nat):Int.gcd b (p^m)=1:=by
 have g1:Int.gcd b p=1:=by
  rcases Xb h (d:=Int.gcd b p) (Int.gcd_dvd_right ..) with g|g
  ·exact g
  ·exfalso;have:=Int.gcd_dvd_left b p;rw[g]at this;exact hb (bW this)
 unfold Int.gcd at g1 ⊢;rw[Int.natAbs_pow];exact Nat.Coprime.pow_right m g1
theorem t6 (f:Li)(n:Nat):cm f [1] n=f.getD n 0:=by
 rw[jJ,nQ];by_cases c:n=0
 ·rw[ah c,cC,bH]
 ·rw[ag c,lU,cC,bH]
def Sm (a b:List Int):Prop:=∀n,a.getD n 0=b.getD n 0
theorem Sm.eqm (h:Sm a b):lB p d a b:=.of λn=>by rw[h n,cH];exact aQ p
def yR (c:Int)(a:List Int):List Int:=a.map λx=>c*x
theorem jV (c:Int)(a:Li)(n:Nat):(yR c a).getD n 0=c*a.getD n 0:=m7 _ (aW c) a n
theorem lB.add (h:lB p d a b)(k:lB p d c e):lB p d (jZ a c) (jZ b e):=by
 obtain⟨Q,h⟩:=h;obtain⟨S,k⟩:=k;refine⟨jZ Q S,λn=>?_⟩;rw[qO,jB,jB];have e:a.getD n 0+c.getD n 0-(b.getD n 0+e.getD n 0)-(cm Q d n+cm S d n)=(a.getD n 0-b.getD n 0-cm Q d n)+(c.getD n 0-e.getD n 0-cm S d n):=by lia
 rw[e];exact bD (h n) (k n)
theorem lB.abE (c:Int)(h:lB p d a b):lB p d (yR c a) (yR c b):=by
 obtain⟨Q,h⟩:=h;refine⟨yR c Q,λn=>?_⟩;have e1:cm (yR c Q) d n=c*cm Q d n:=by unfold cm;rw[<- n6];exact jz λi _=>by rw[jV,bO]
 rw[e1,jV,jV,<- cG,<- cG];exact aP (h n)
def Dv (p:Int)(d a:List Int):Prop:=lB p d a []
def Lc (p:Int)(f g r:List Int):Prop:=∃s t:List Int,∀n,p ∣ r.getD n 0-(cm s f n+cm t g n)
theorem Uk (f:Li)(n:Nat):cm [1] f n=f.getD n 0:=by rw[jJ,t6]
theorem VH (c:Int)(f:Li)(n:Nat):cm [c] f n=c*f.getD n 0:=by
 rw[nQ];by_cases h:n=0
 ·rw[ah h,bH]
 ·rw[ag h,lU,bH]
theorem Lc.left (p:Int)(f g:Li):Lc p f g f:=⟨[1],[],λn=>by rw[Uk,lU,bH,cH];exact aQ p⟩
theorem Lc.right (p:Int)(f g:Li):Lc p f g g:=⟨[],[1],λn=>by rw[Uk,lU,c9,cH];exact aQ p⟩
theorem Lc.add (h:Lc p f g r)(k:Lc p f g s):Lc p f g (jZ r s):=by
 obtain⟨a,b,h⟩:=h;obtain⟨c,d,k⟩:=k;refine⟨jZ a c,jZ b d,λn=>?_⟩;rw[qO,qO,jB];have e:r.getD n 0+s.getD n 0-(cm a f n+cm c f n+(cm b g n+cm d g n))=(r.getD n 0-(cm a f n+cm b g n))+(s.getD n 0-(cm c f n+cm d g n)):=by lia
 rw[e];exact bD (h n) (k n)
theorem Lc.congr (h:Lc p f g r)(k:∀n,p ∣ s.getD n 0-r.getD n 0):Lc p f g s:=by
 obtain⟨a,b,h⟩:=h;refine⟨a,b,λn=>?_⟩;have e:s.getD n 0-(cm a f n+cm b g n)=(s.getD n 0-r.getD n 0)+(r.getD n 0-(cm a f n+cm b g n)):=by lia
 rw[e];exact bD (k n) (h n)
theorem Lc.mul (q:Li)(h:Lc p f g r):Lc p f g (ju q r):=by obtain⟨a,b,h⟩:=h;refine⟨ju q a,ju q b,λn=>?_⟩;have k:=yZ (p:=p) (a:=r) (b:=jZ (ju a f) (ju b g)) (c:=q) (λi=>by rw[jB,jr,jr];exact h i) n;rw[qO,jJ r q,jJ (ju a f) q,jJ (ju b g) q]at k;rw[jr,mQ,mQ];exact k
theorem Lc.trans (hb:Lc p f g b)(hr:Lc p f g r)(hx:Lc p b r x):Lc p f g x:=by obtain⟨s,t,hx⟩:=hx;refine((hb.mul s).add (hr.mul t)).congr λn=>?_;rw[jB,jr,jr];exact hx n
theorem Dv.NT (hf:Dv p d f)(hg:Dv p d g)(h:Lc p f g r):Dv p d r:=by
 obtain⟨s,t,h⟩:=h;have z:∀s:List Int,lB p d (ju [] s) []:=λs=>Sm.eqm λn=>by rw[jr,lU];rfl
 have k:∀{f:List Int},Dv p d f->∀s,lB p d (ju s f) []:=λ{f} hf s=>(lB.comm p d s f).trans ((lB.mul hf s).trans (z s));have e:lB p d r (jZ (ju s f) (ju t g)):=.of λn=>by rw[jB,jr,jr];exact h n
 exact e.trans (((k hf s).add (k hg t)).trans (.refl p d _))
theorem Lc.dv (h:Lc p b [] f):Dv p b f:=by obtain⟨s,t,h⟩:=h;refine⟨s,λn=>?_⟩;have k:=h n;rw[jJ t [],lU,bH]at k;show p ∣ f.getD n 0-0-cm s b n;rw[aT];exact k
theorem Dv.self (p:Int)(d:Li):Dv p d d:=(Lc.left p d []).dv
theorem nR:kh []:=λh=>absurd rfl h
theorem Gk (h:jx r=1):r≠[]:=λe=>by rw[e]at h;exact absurd h (by decide)
theorem RB (fr:kh r)(rr:∀n,pl p (r.getD n 0)=r.getD n 0)(r1:r=[]\/jx r=1)(fs:kh s)(rs:∀n,pl p (s.getD n 0)=s.getD n 0)(s1:s=[]\/jx s=1)(h:Dv p r s)(k:Dv p s r):r=s:=by
 have nilE:∀{s:List Int},kh s->(∀n,pl p (s.getD n 0)=s.getD n 0)->Dv p [] s->s=[]:=λ{s} fs rs h=>by obtain⟨Q,h⟩:=h;refine m5 fs nR λn=>su (rs n) (by show pl p 0=0;exact lO p) ?_;have:=h n;rw[jJ,lU,aT]at this;exact this
 rcases r1 with r1|r1
 ·subst r1;exact(nilE fs rs h).symm
 rcases s1 with s1|s1
 ·subst s1;exact nilE fr rr k
 have shorter:∀{r s:List Int},kh r->(∀n,pl p (r.getD n 0)=r.getD n 0)->jx r=1->jx s=1->Dv p s r->s.length<=r.length:=λ{r s} fr rr r1 s1 k=>by
  by_cases c:s.length<=r.length
  ·exact c
  ·have nz:∀x,p ∣ x*jx s->p ∣ x:=λx h=>by rw[s1,bR]at h;exact h
   exact absurd (rC nz ⟨fr,rr,by lia⟩ ⟨nR,λn=>by show pl p 0=0;exact lO p,by show 0<s.length;lia⟩ k) (Gk r1)
 have l1:=shorter fr rr r1 s1 k;have l2:=shorter fs rs s1 r1 h;have l0:=lP (Gk r1);have nz:∀x,p ∣ x*jx s->p ∣ x:=λx h=>by rw[s1,bR]at h;exact h
 have e0:r.getD (r.length-1) 0=1:=r1;have e1:s.getD (s.length-1) 0=1:=s1;have le:r.length=s.length:=by lia
 have tl:(Tz p (GQ r s)).length<=r.length-1:=m9 (jY p _) λn hn=>by
  rw[kI,rH];by_cases c:n=r.length-1
  ·rw[c,e0,le,e1];exact lO p
  ·rw[jw (xs:=r) (by lia),jw (xs:=s) (by lia)];exact lO p
 have d:lB p s (GQ r s) []:=by
  have a:Sm (GQ r s) (jZ r (yR (-1) s)):=λn=>by rw[rH,jB,jV];lia
  exact a.eqm.trans ((lB.add k ((Dv.self p s).abE (-1))).trans (.refl p s _))
 have z:=rC nz ⟨jY p (GQ r s),nO p _,by lia⟩ ⟨nR,λn=>by show pl p 0=0;exact lO p,by show 0<s.length;lia⟩ ((lB.Tz p s _).symm.trans d);refine m5 fr fs λn=>su (rr n) (rs n) ?_;have e2:(Tz p (GQ r s)).getD n 0=0:=by rw[z];rfl
 rw[kI,rH]at e2;have:=nF p (r.getD n 0-s.getD n 0);rw[e2,Int.zero_sub]at this;exact bw.mp this
structure GC (p:Int)(f g r:List Int):Prop where
 form:kh r
 red:∀n,pl p (r.getD n 0)=r.getD n 0
 one:r=[]\/jx r=1
 lc:Lc p f g r
 d1:Dv p r f
 d2:Dv p r g
theorem GC.ab4 (h:GC p f g r)(k:GC p f g s):r=s:=
 RB h.form h.red h.one k.form k.red k.one (Dv.NT h.d1 h.d2 k.lc) (Dv.NT k.d1 k.d2 h.lc)
open Classical in
def pick (A:List Int->Prop):List Int:=if h:∃r,A r then Classical.choose h else[]
def gc (p:Int)(f g:List Int):List Int:=pick (GC p f g)
theorem HH (h:GC p f g r):gc p f g=r:=by
 have ex:∃r,GC p f g r:=⟨r,h⟩;have e:gc p f g=Classical.choose ex:=by unfold gc pick;rw[i9 ex]
 rw[e];exact(fH ex).ab4 h
structure HR (p:Int)(f g b r:List Int):Prop where
 i1:Lc p f g b
 i2:Lc p f g r
 i3:Lc p b r f
 i4:Lc p b r g
theorem HR.symm (h:HR p f g b r):HR p b r f g:=⟨h.i3,h.i4,h.i1,h.i2⟩
theorem HR.gc (h:HR p f g b r)(k:GC p b r x):GC p f g x:=⟨k.form,k.red,k.one,Lc.trans h.i1 h.i2 k.lc,Dv.NT k.d1 k.d2 h.i3,Dv.NT k.d1 k.d2 h.i4⟩
theorem NQ (h:HR p f g b r):gc p f g=gc p b r:=by have e:GC p f g=GC p b r:=funext λx=>propext ⟨h.symm.gc,h.gc⟩;show pick (GC p f g)=pick (GC p b r);rw[e]
theorem HR.step (h:lB p r b c):HR p b r r c:=by
 obtain⟨Q,h⟩:=h;refine⟨.right p b r,⟨[1],yR (-1) Q,λn=>?_⟩,⟨Q,[1],λn=>?_⟩,.left p r c⟩
 ·have e:cm (yR (-1) Q) r n = -cm Q r n:=by have k:=n6 (-1) (λi=>Q.getD i 0*r.getD (n-i) 0) (n+1);unfold cm;rw[fk]at k;rw[<- k];exact jz λi _=>by rw[jV,bO]
  rw[Uk,e];have e2:c.getD n 0-(b.getD n 0 + -cm Q r n) = -(b.getD n 0-c.getD n 0-cm Q r n):=by lia
  rw[e2];exact bw.mpr (h n)
 ·rw[Uk];have e2:b.getD n 0-(cm Q r n+c.getD n 0)=b.getD n 0-c.getD n 0-cm Q r n:=by lia
  rw[e2];exact h n
theorem HR.ph (h:∀n,p ∣ f.getD n 0-b.getD n 0)(k:∀n,p ∣ g.getD n 0-r.getD n 0):HR p f g b r:=by
 have neg:∀{x y:Int},p ∣ x-y->p ∣ y-x:=λ{x y} h=>by
  have e:y-x = -(x-y):=by lia
  rw[e];exact bw.mpr h
 exact⟨(Lc.left p f g).congr λn=>neg (h n),(Lc.right p f g).congr λn=>neg (k n),(Lc.left p b r).congr h,(Lc.right p b r).congr k⟩
def yt (p:Int)(b:List Int):Int:=if b=[] then 1 else pl p (1*tu (jx b) p)
def qR (p:Int)(b:List Int):List Int:=Tz p (b.map λm=>yt p b*m)
theorem wK (hp:jL p)(fb:kh b)(rb:∀n,pl p (b.getD n 0)=b.getD n 0)(hb:b≠[]):Int.gcd (jx b) p=1:=by
 have h1:=fb hb;have h2:=rb (b.length-1);have p2:2<=p:=hp.1;rw[kZ (by lia)]at h2;have h3:¬jx b % p=0:=by show ¬b.getD (b.length-1) 0 % p=0;rw[h2];exact h1
 have:=GR hp h3 1;rw[iU]at this;exact this
theorem wC (fb:kh b)(rb:∀n,pl p (b.getD n 0)=b.getD n 0):Tz p b=b:=m5 (jY p b) fb λn=>by rw[kI,rb n]
theorem Az (hp:jL p)(fb:kh b)(rb:∀n,pl p (b.getD n 0)=b.getD n 0):GC p b [] (qR p b):=by
 by_cases hb:b=[]
 ·subst hb;have e:qR p []=[]:=rfl;rw[e];exact⟨nR,rb,.inl rfl,.left p [] [],.self p [],.self p []⟩
 have p2:2<=p:=hp.1;have g:=wK hp fb rb hb;have one:pl p 1=1:=by rw[kZ (by lia)];exact bp (by decide) (by lia)
 have e0:yt p b=pl p (1*tu (jx b) p):=ag hb;obtain⟨h1,_⟩:=hov p2 g 1 (yt p b) one (by rw[e0];rfl);have ng:∀n,(qR p b).getD n 0=pl p (yt p b*b.getD n 0):=λn=>by unfold qR;rw[kI,m7 _ (aW _)]
 have l0:=lP hb;have k1:(qR p b).getD (b.length-1) 0=1:=(ng _).trans h1;have l1:(qR p b).length<=b.length:=by unfold qR;refine aJ (m6 _ _) ?_;rw[aa];exact aq _
 have l2:b.length<=(qR p b).length:=by
  by_cases c:b.length<=(qR p b).length
  ·exact c
  ·rw[jw (by lia)]at k1;exact absurd k1 (by decide)
 have le:(qR p b).length=b.length:=by lia
 generalize yt p b=t at *
 have ht:p ∣ t*jx b-1:=by
  have:=nF p (t*jx b);rw[h1]at this;have e:t*jx b-1 = -(1-t*jx b):=by lia
  rw[e];exact bw.mpr this
 refine⟨jY p _,nO p _,.inr ?_,⟨[t],[],λn=>?_⟩,⟨[jx b],λn=>?_⟩,.refl p _ _⟩
 ·show(qR p b).getD ((qR p b).length-1) 0=1;rw[le];exact k1
 ·rw[VH,lU,bH,ng];exact nF p _
 ·rw[VH,ng];show p ∣ b.getD n 0-0-jx b*pl p (t*b.getD n 0);have h2:=nF p (t*b.getD n 0);generalize pl p (t*b.getD n 0)=u at *
  generalize b.getD n 0=x at *
  generalize jx b=l at *
  have e:x-0-l*u = -((t*l-1)*x+l*(u-t*x)):=by rw[fZ,cG,cC,cu t l,bO];lia
  rw[e];exact bw.mpr (bD (bj ht) (aP h2))
theorem Hk (hp:jL p)(fr:kh r)(rr:∀n,pl p (r.getD n 0)=r.getD n 0)(hr:r≠[])(hl:r.length<=200):Hb p r:=by have e:=wC fr rr;exact⟨hp,hl,by rw[e];exact hr,by rw[e];exact wK hp fr rr hr⟩
theorem Yk (hp:jL p):∀(k:Nat) (b r:Li),r.length<=k->kh b->(∀n,pl p (b.getD n 0)=b.getD n 0)->kh r->(∀n,pl p (r.getD n 0)=r.getD n 0)->r.length<=200->GC p b r (gc p b r)
 |k,b,[],_,fb,rb,_,_,_=>by have h:=Az hp fb rb;rw[HH h];exact h
 |k+1,b,y::r,hk,fb,rb,fr,rr,hl=>by have ok:=Hk hp fr rr (λz=>by cases z) hl;have e:=wC fr rr;obtain⟨_,_,ir,er⟩:=mH ok b;rw[e]at ir er;have il:=ir.len;have ih:=Yk hp k (y::r) (rm p (y::r) b) (by lia) fr rr ir.form ir.red (by lia);have h:=(HR.step er).gc ih;rw[HH h];exact h
theorem HR.tz (p:Int)(f g:Li):HR p f g (Tz p f) (Tz p g):=by
 have k:∀(f:List Int) n,p ∣ f.getD n 0-(Tz p f).getD n 0:=λf n=>by
  rw[kI];have:=nF p (f.getD n 0);have e:f.getD n 0-pl p (f.getD n 0) = -(pl p (f.getD n 0)-f.getD n 0):=by lia
  rw[e];exact bw.mpr this
 exact HR.ph (k f) (k g)
theorem YW (hp:jL p)(hg:g.length<=200):GC p f g (gc p f g):=by have tl:=m6 p g;have h:=Yk hp _ (Tz p f) (Tz p g) (aq _) (jY p f) (nO p f) (jY p g) (nO p g) (by lia);have h:=(HR.tz p f g).gc h;rw[HH h];exact h
theorem Aq (T:Top K mg cFE cNO cNN cK cR):Ok P w K mg base 3 "turned_lead" ["kind","f"] (GX K (Gr cR) (λas=>∃p b,as=[.ob 0 p,.ints b]/\jL p/\kh b/\∀n,pl p (b.getD n 0)=b.getD n 0) λas=>match as with
  |[.ob 0 p,.ints b]=>yt p b
  |_=>0):=by
 refine xO T.Cm zO (λas ⟨a,b,h,_⟩=>by rw[h];rfl) (λf cdv A outer s H E hr=>⟨_,(jt (jD (Q3 (wU 1) (um (ZS (Ft 0 (zE T) hr (jm jo (jm (lV 1 (sH jo) (λ_ _=>rfl)) jq))))) jo))),λas hp=>?_⟩);obtain⟨p,b,rfl,hp,fb,rb⟩:=hp;have p2:2<=p:=hp.1;have h9:p.natAbs<2^9000:=by
  have:p.natAbs<=2^14:=by have:=hp.2.1;lia
  exact aV this (bx (by decide) (by decide))
 have o9:(1:Int).natAbs<2^9000:=aV (show(1:Int).natAbs<=2^14 by decide) (bx (by decide) (by decide));have eF:¬b=[]->G7 cNO p [1,b.getD (lC b.length (-1)) 0]=.inl (yt p b):=λc=>by have l0:=lP c;have ld:b.getD (lC b.length (-1)) 0=jx b:=yV b l0;have e:yt p b=pl p (1*tu (jx b) p):=ag c;rw[ld,e];exact W3 (wK hp fb rb c)
 refine⟨⟨.inl rfl,λc=>⟨⟨⟨rfl,⟨tJ,⟨.inl rfl,tJ,?_,?_⟩,tJ⟩,tJ,?_⟩,?_⟩,?_⟩,λ_=>tJ⟩,?_⟩
 ·have c:¬b=[]:=c;have l0:=lP c;show -(b.length:Int) <= -1;lia
 ·have l0:=lP c;lia
 ·exact⟨p2,h9,o9⟩
 ·show(ye (G7 cNO p [1,b.getD (lC b.length (-1)) 0])).isV;rw[eF c];exact tJ
 ·have c:¬b=[]:=c;show(ye (G7 cNO p [1,b.getD (lC b.length (-1)) 0])).get=.int (Ha (ye (G7 cNO p [1,b.getD (lC b.length (-1)) 0])).get);rw[eF c];rfl
 ·show(if ¬b=[] then PV.int (Ha (ye (G7 cNO p [1,b.getD (lC b.length (-1)) 0])).get) else .int 1)=.int (yt p b);by_cases c:b=[]
  ·rw[ag (λz=>z c)];subst c;rfl
  ·rw[ah c,eF c];rfl
theorem aaU (hp:jL p):(yt p b).natAbs<2^9000:=by
 have h:(yt p b).natAbs<=2^14:=by
  unfold yt;split
  ·decide
  ·have:=zF hp (uq p (1*tu (jx b) p));lia
 exact aV h (bx (by decide) (by decide))
theorem pA (T:Top K mg cFE cNO cNN cK cR):Ok P w K mg base 4 "with_lead_one" ["kind","f"] (Iw K (Gr cR) (λas=>∃p b,as=[.ob 0 p,.ints b]/\jL p/\b.length<=1000/\kh b/\∀n,pl p (b.getD n 0)=b.getD n 0) λas=>match as with
  |[.ob 0 p,.ints b]=>qR p b
  |_=>[]):=by
 refine K1 T.yM xq (λas ⟨a,b,h,_⟩=>by rw[h];rfl) (λf cdv A outer s H E hr=>⟨_,(jt (mO (tH (Ph T) hr (jm (xv 0) (jm (xl 1) (jm (Wm (Aq T) hr (jm (xv 0) (jm (xl 1) jq))) jq)))))),λas hp=>?_⟩);obtain⟨p,b,rfl,hp,hl,fb,rb⟩:=hp;refine⟨⟨⟨rfl,rfl,⟨⟨rfl,rfl,tJ⟩,p,b,rfl,hp,fb,rb⟩,tJ⟩,p,b,yt p b,rfl,hl,aaU hp,λm hm=>?_⟩,rfl⟩;obtain⟨n,_,e⟩:=FM.mem_getD hm;have:=zF hp (rb n);rw[e]at this;exact Bq this
theorem xZ (T:Top K mg cFE cNO cNN cK cR):Ok P w K mg base 5 "common" ["kind","f","g"] (Iw K (Gr cR) (λas=>∃p f g,as=[.ob 0 p,.ints f,.ints g]/\jL p/\f.length<=200/\g.length<=200) λas=>match as with
  |[.ob 0 p,.ints f,.ints g]=>gc p f g
  |_=>[]):=by
 refine K1 T.T6 qi (λas ⟨a,b,c,h,_⟩=>by rw[h];rfl) (λf cdv A outer s H E hr=>⟨_,(jn (jG (i:=3) qi.nd rfl (Or.inl rfl) (j9 (tH (jU T) hr (jm (xv 0) (jm (xl 1) jq)))))
 (jn (jG (i:=4) qi.nd rfl (Or.inl rfl) (j9 (tH (jU T) hr (jm (xv 0) (jm (xl 2) jq)))))
 (jn (nq aO (wU 4)
 (jn (jG (i:=5) qi.nd rfl (Or.inl rfl) (xl_of (jH (xc (ou T) hr (jm (xv 0) (jm (xl 3) (jm (xl 4) jq)))) jo (λ_ _=>rfl))))
 (jn (jG (i:=3) qi.nd rfl (Or.inl rfl) (xl 4))
 (jt (jG (i:=4) qi.nd rfl (Or.inl rfl) (xl 5))))))
 (jt (mO (tH (pA T) hr (jm (xv 0) (jm (xl 3) jq)))))))),λas hp=>?_⟩)
 obtain⟨p,f,g,rfl,hp,hf,hg⟩:=hp;refine⟨⟨⟨rfl,rfl,tJ⟩,p,f,rfl,by lia⟩,λb0 eb0=>?_⟩;have eb0:b0=Tz p f:=eb0;refine⟨⟨⟨rfl,rfl,tJ⟩,p,g,rfl,by lia⟩,λr0 er0=>?_⟩;have er0:r0=Tz p g:=er0;have l1:=m6 p f;have l2:=m6 p g;have i0:gc p b0 r0=gc p f g:=by rw[eb0,er0];exact(NQ (HR.tz p f g)).symm
 refine lF (Z':=[.fr (.ob 0 p),.fr (.ints f),.fr (.ints g),.fr (.ints b0),.fr (.ints r0),.un]) rfl ?_;refine⟨λZ=>∃b r v5,Z=[.fr (.ob 0 p),.fr (.ints f),.fr (.ints g),.fr (.ints b),.fr (.ints r),v5]/\kh b/\(∀n,pl p (b.getD n 0)=b.getD n 0)/\b.length<=200/\kh r/\(∀n,pl p (r.getD n 0)=r.getD n 0)/\r.length<=200/\gc p b r=gc p f g,λZ=>(getL Z 4).length,⟨b0,r0,.un,rfl,by rw[eb0];exact jY p f,by rw[eb0];exact nO p f,by rw[eb0];lia,by rw[er0];exact jY p g,by rw[er0];exact nO p g,by rw[er0];lia,i0⟩,?_⟩;rintro Z ⟨b,r,v5,rfl,fb,rb,bl,fr,rr,rl,eg⟩;refine⟨.inl rfl,λk=>?_,λk=>?_⟩
 ·have ok:=Hk hp fr rr k rl;have et:=wC fr rr;obtain⟨q,e⟩:=Gb ok b;obtain⟨_,_,ir,er⟩:=mH ok b;rw[et]at ir er e;have il:=ir.len;have e:uH p (Tz p b) (Tz p r)=.tup [.ints q,.ints (rm p r b)]:=by rw[et];exact e
  refine⟨⟨⟨⟨⟨rfl,rfl,rfl,tJ⟩,p,b,r,rfl,ok,bl⟩,tJ,?_⟩,?_⟩,λc ec=>?_⟩
  ·show oY (uH p (Tz p b) (Tz p r)) 1;rw[e];exact⟨by show(-2:Int)<=1;decide,by show(1:Int)<2;decide⟩
  ·show lX (uH p (Tz p b) (Tz p r)) 1=.ints (kJ (lX (uH p (Tz p b) (Tz p r)) 1));rw[e];rfl
  have ec:c=kJ (lX (uH p (Tz p b) (Tz p r)) 1):=ec;rw[e]at ec;have ec:c=rm p r b:=ec;rw[<- ec]at ir er il;refine⟨rfl,λb1 eb1=>⟨rfl,λr1 er1=>⟨⟨r,c,.fr (.ints c),?_,fr,rr,rl,ir.form,ir.red,by lia,?_⟩,?_⟩⟩⟩
  ·have eb1:b1=r:=eb1;have er1:r1=c:=er1;rw[eb1,er1];rfl
  ·rw[<- eg];exact(NQ (HR.step er)).symm
  ·have er1:r1=c:=er1;show r1.length<r.length;rw[er1];exact il
 ·have k:¬¬r=[]:=k;have k:r=[]:=Classical.not_not.mp k;subst k;refine⟨⟨⟨rfl,rfl,tJ⟩,p,b,rfl,hp,by lia,fb,rb⟩,?_⟩;show qR p b=gc p f g;rw[<- eg];exact(HH (Az hp fb rb)).symm
structure Fo (p:Int)(f:List Int):Prop where
 form:kh f
 red:∀n,pl p (f.getD n 0)=f.getD n 0
theorem Fo.tz (p:Int)(f:Li):Fo p (Tz p f):=⟨jY p f,nO p f⟩
theorem Fo.bd (hp:jL p)(h:Fo p f):Bd f:=λm hm=>by obtain⟨n,_,e⟩:=FM.mem_getD hm;have:=zF hp (h.red n);rw[e]at this;exact Bq this
theorem Fo.at (hp:jL p)(h:Fo p f):∀m∈f,0<=m/\m<p:=λm hm=>by obtain⟨n,_,e⟩:=FM.mem_getD hm;have p2:2<=p:=hp.1;have:=h.red n;rw[e,kZ (by lia)]at this;have h1:=a8 m (show p≠0 by lia);have h2:=aY m (show 0<p by lia);lia
theorem Yn (p:Int)(f:Li)(n:Nat):p ∣ (Tz p f).getD n 0-f.getD n 0:=by rw[kI];exact nF p _
theorem QZ (T:Top K mg cFE cNO cNN cK cR):Ok P w K mg base 3 "slope" ["kind","f"] (Iw K (Gr cR) (λas=>∃z f,as=[.ob 0 z,.ints f]/\f.length<=1000) λas=>match as with
  |[.ob 0 z,.ints f]=>j7 (((f.mapIdx λk n=>(k:Int)*n).drop 1).map (pl z))
  |_=>[]):=by
 refine K1 T.Wl Ri (λas ⟨a,b,h,_⟩=>by rw[h];rfl) (λf cdv A outer s H E hr=>⟨_,(jt (mO (tH (jU T) hr (jm (xv 0) (jm (j9 (pP (j9 (Rv (N':=["at","number"]) (cap:=[]) (oO rfl rfl rfl rfl tJ tJ rfl) rfl (by rfl) T.lZ (xl 1) (λ_ _ _=>(pg_tup rfl (pgs_cons (pO 0) (pgs_cons (pO 1) pgs_nil)))) (λ_ _ _=>(nM (xn 0) (xn 1))))) (mJ jo) pI (λ_ _=>.inl rfl))) jq))))),λas hp=>?_⟩);obtain⟨z,f,rfl,hf⟩:=hp;refine⟨⟨⟨rfl,⟨⟨⟨rfl,hf,λk n e=>⟨rfl,rfl,?_⟩⟩,tJ,tJ⟩,tJ⟩⟩,z,_,rfl,?_⟩,?_⟩
 ·have hk:k<f.length:=(aj.mp e).1;exact wR ⟨by show -(2:Int)^64<(k:Int);lia,by show(k:Int)<(2:Int)^64;lia⟩
 ·refine aJ (vW _ _ _) ?_;rw[cj];exact hf
 ·show j7 ((oX (f.mapIdx λk n=>(k:Int)*n) (some ((1:Nat):Int)) none).map (pl z))=_;rw[uF];rfl
theorem QM (T:Top K mg cFE cNO cNN cK cR):Ok P w K mg base 2 "value" ["kind","f","number"] (GX K (Gr cR) (λas=>∃z f n,as=[.ob 0 z,.ints f,.int n]/\0<=z/\z<((2^9000:Nat):Int)/\f.length<=80/\n.natAbs<=2^100/\∀m∈f,m.natAbs<=2^200) λas=>match as with
  |[.ob 0 z,.ints f,.int n]=>pl z (ev f n)
  |_=>0):=by
 refine xO T.Vr tM (λas ⟨a,b,c,h,_⟩=>by rw[h];rfl) (λf cdv A outer s H E hr=>⟨_,(jn (jA (i:=3) tM.nd rfl (Or.inl rfl) (qu 0 (pM T) hr (jm (xn 2) jq)))
 (jn (jA (i:=4) tM.nd rfl (Or.inl rfl) jo)
 (jn (Vb (k:=5) aO rfl (by rfl) T.Kz (xl 1) tM.nd rfl (Or.inl rfl)
 (jt (jA (i:=4) tM.nd rfl (Or.inl rfl) (qu 0 (pM T) hr (jm (lR (nM (xn 4) (xn 3)) (xn 5)) jq)))))
 (jt (jD (xn 4)))))),λas hp=>?_⟩)
 obtain⟨z,f,n,rfl,hz,hz2,hf,hn,hm⟩:=hp;refine⟨⟨rfl,⟨rfl,tJ⟩,tJ,tJ⟩,λpn ep=>?_⟩;have ep:pn=pl z n:=ep;refine⟨tJ,λt0 e0=>?_⟩;refine⟨rfl,λi Z=>∃v,Z=[.fr (.ob 0 z),.fr (.ints f),.fr (.int n),.fr (.int pn),.fr (.int (pl z (ev (f.drop (f.length-i)) n))),v],⟨.un,?_⟩,?_,?_⟩
 ·have e:pl z (ev (f.drop (f.length-0)) n)=t0:=by
   rw[gz,List.drop_length,e0];unfold pl;split
   ·rfl
   ·exact i5 z
  rw[e];rfl
 ·rintro i m Z hi he ⟨v,rfl⟩;have hi:i<f.length:=hi;have ed:=Qg hi he;have hs:(ev (f.drop (f.length-i)) n).natAbs<2^9000:=QH hn (by rw[a9];lia) λk hk=>hm k (List.mem_of_mem_drop hk);have hs2:n.natAbs<2^9000:=aV hn (bx (by decide) (by decide));refine⟨⟨rfl,⟨⟨⟨rfl,rfl,?_⟩,rfl⟩,tJ⟩,tJ,tJ⟩,λu e=>?_⟩
  ·rw[ep];exact pU (n:=9000) (m:=9000) (Br hz hz2 hs) (Br hz hz2 hs2)
  ·have e:u=pl z (pl z (ev (f.drop (f.length-i)) n)*pn+m):=e;rw[ep,horner]at e;have e':u=pl z (ev (f.drop (f.length-(i+1))) n):=by rw[ed,e];rfl
   subst e';exact⟨_,rfl⟩
 ·rintro Z ⟨v,rfl⟩;refine⟨rfl,?_⟩;show PV.int (pl z (ev (f.drop (f.length-f.length)) n))=PV.int (pl z (ev f n));rw[Nat.sub_self,iH]
def dl (f:List Int):List Int:=(List.range f.length).map λ(n:Nat)=>((n:Int)+1)*f.getD (n+1) 0
theorem sJ (f:Li)(n:Nat):(dl f).getD n 0=((n:Int)+1)*f.getD (n+1) 0:=by
 unfold dl;by_cases h:n<f.length
 ·rw[jE (by rw[aa,ao];exact h),bA,bu]
 ·rw[jw (by rw[aa,ao];lia),jw (by lia),aW]
theorem abg (u v:Li)(n:Nat):((n:Int)+1)*cm u v (n+1)=cm (dl u) v n+cm u (dl v) n:=by
 have e1:cm (dl u) v n=sm (n+1+1) λi=>(i:Int)*(u.getD i 0*v.getD (n+1-i) 0):=by rw[qd];unfold cm;rw[show((0:Nat):Int)*(u.getD 0 0*v.getD (n+1-0) 0)=0 by rw[Int.natCast_zero,bV],c9];refine jz λi _=>?_;rw[sJ,show n+1-(i+1)=n-i by lia,bO];rfl
 have e2:cm u (dl v) n=sm (n+1+1) λi=>((n:Int)+1-(i:Int))*(u.getD i 0*v.getD (n+1-i) 0):=by show sm (n+1) _=sm (n+1) _+((n:Int)+1-((n+1:Nat):Int))*_;rw[show(n:Int)+1-((n+1:Nat):Int)=0 by lia,bV,bH];refine jz λi hi=>?_;rw[sJ,show n-i+1=n+1-i by lia,show((n-i:Nat):Int)+1=(n:Int)+1-(i:Int) by lia,gK]
 rw[e1,e2,<- sI];unfold cm;rw[<- n6];refine jz λi _=>?_;rw[<- eS];congr 1;lia
theorem YT (u v:Li)(n:Nat):(dl (ju u v)).getD n 0=cm (dl u) v n+cm u (dl v) n:=by rw[sJ,jr,abg]
def Co (p:Int)(f g:List Int):Prop:=Lc p f g [1]
def Sq (p:Int)(f:List Int):Prop:=Co p f (dl f)
theorem ab2 (b a:Int)(f:Li)(n:Nat):cm [b,a] f n=b*f.getD n 0+if n=0 then 0 else a*f.getD (n-1) 0:=by
 rw[nQ];congr 1;split
 ·rfl
 ·rw[VH]
def pR:Nat->Nat->Int
 |_,0=>1
 |0,_+1=>0
 |n+1,k+1=>pR n k+pR n (k+1)
theorem tG (n:Nat):pR n 0=1:=by cases n<;>rfl
theorem uE:∀{n k:Nat},n<k->pR n k=0
 |0,k+1,_=>rfl
 |n+1,k+1,h=>by show pR n k+pR n (k+1)=0;rw[uE (by lia),uE (by lia)];rfl
theorem Hl:∀n,pR n n=1
 |0=>rfl
 |n+1=>by show pR n n+pR n (n+1)=1;rw[Hl n,uE (by lia)];rfl
theorem zy:∀n k:Nat,((k:Int)+1)*pR (n+1) (k+1)=((n:Int)+1)*pR n k
 |0,0=>by rfl
 |0,k+1=>by have e1:pR (0+1) (k+1+1)=0:=uE (by lia);have e2:pR 0 (k+1)=0:=rfl;rw[e1,e2,aW,aW]
 |n+1,0=>by have h:=zy n 0;have e:pR (n+1+1) (0+1)=pR (n+1) 0+pR (n+1) (0+1):=rfl;rw[e,f6,h,tG,tG];lia
 |n+1,j+1=>by
  have h1:=zy n (j+1);have h2:=zy n j;have e:pR (n+1+1) (j+1+1)=pR (n+1) (j+1)+pR (n+1) (j+1+1):=rfl;have e2:pR (n+1) (j+1)=pR n j+pR n (j+1):=rfl;rw[e,f6,h1];have e3:(((j+1:Nat):Int)+1)*pR (n+1) (j+1)=((j:Int)+1)*pR (n+1) (j+1)+pR (n+1) (j+1):=by rw[eS,cC];rfl
  rw[e3,h2];have e4:(((n+1:Nat):Int)+1)*pR (n+1) (j+1)=((n:Int)+1)*pR (n+1) (j+1)+pR (n+1) (j+1):=by rw[eS (((n+1:Nat):Int)),cC];rfl
  have e5:((n:Int)+1)*pR (n+1) (j+1)=((n:Int)+1)*pR n j+((n:Int)+1)*pR n (j+1):=by rw[e2,f6]
  rw[e4,e5];lia
theorem W2 (hp:jL p){n j:Nat}(hn:(n:Int)+1=p)(hj:j<n):p ∣ pR (n+1) (j+1):=by
 have h:=zy n j;have g:Int.gcd ((j:Int)+1) (p^1)=1:=GR hp (by rw[bp (by lia) (by lia)];lia) 1;rw[iU]at g;have d:p ∣ ((j:Int)+1)*pR (n+1) (j+1):=by rw[h,hn];exact Int.dvd_mul_right _ _
 have d2:=d6.mpr d;rw[iG]at d2;have g2:Nat.Coprime p.natAbs ((j:Int)+1).natAbs:=by show Nat.gcd p.natAbs ((j:Int)+1).natAbs=1;rw[Nat.gcd_comm];exact g
 exact d6.mp (g2.dvd_of_dvd_mul_left d2)
theorem Sv {F:Nat->Nat->Nat->Int}(h:∀i j n,F i j (n+1)=F (i+1) j n+F i (j+1) n):∀n i j,F i j n=sm (n+1) λk=>pR n k*F (i+k) (j+(n-k)) 0
 |0,i,j=>by show F i j 0=0+1*F (i+0) (j+(0-0)) 0;rw[cC,c9];rfl
 |n+1,i,j=>by
  rw[h,Sv h n (i+1) j,Sv h n i (j+1),qd (λk=>pR (n+1) k*F (i+k) (j+(n+1-k)) 0) (n+1)];have e0:sm (n+1) (λk=>pR n k*F (i+k) (j+1+(n-k)) 0)=sm (n+2) (λk=>pR n k*F (i+k) (j+1+(n-k)) 0):=
   (zq (by lia) λk h1 h2=>by rw[uE (by lia),bV]).symm
  rw[e0,qd (λk=>pR n k*F (i+k) (j+1+(n-k)) 0) (n+1)];have e1:pR (n+1) 0*F (i+0) (j+(n+1-0)) 0=pR n 0*F (i+0) (j+1+(n-0)) 0:=by
   rw[tG,tG];have:j+(n+1-0)=j+1+(n-0):=by lia
   rw[this]
  have e2:sm (n+1) (λk=>pR (n+1) (k+1)*F (i+(k+1)) (j+(n+1-(k+1))) 0)=sm (n+1) (λk=>pR n k*F (i+1+k) (j+(n-k)) 0)+sm (n+1) (λk=>pR n (k+1)*F (i+(k+1)) (j+1+(n-(k+1))) 0):=by
   rw[<- sI];refine jz λk hk=>?_;have a1:i+1+k=i+(k+1):=by lia
   have a2:j+(n+1-(k+1))=j+(n-k):=by lia
   have a3:pR (n+1) (k+1)=pR n k+pR n (k+1):=rfl;rw[a1,a2,a3,eS];by_cases c:k=n
   ·rw[uE (show n<k+1 by lia),bV,bV]
   ·have a4:j+1+(n-(k+1))=j+(n-k):=by lia
    rw[a4]
  rw[e1,e2];lia
theorem Uh (hp:jL p){F:Nat->Nat->Nat->Int}(h:∀i j n,F i j (n+1)=F (i+1) j n+F i (j+1) n):p ∣ F 0 0 p.toNat-(F p.toNat 0 0+F 0 p.toNat 0):=by
 have p2:2<=p:=hp.1;obtain⟨n,hn⟩:∃n,p.toNat=n+1:=⟨p.toNat-1,by lia⟩;have hn2:(n:Int)+1=p:=by lia
 rw[hn,Sv h (n+1) 0 0];have e:sm (n+1+1) (λk=>pR (n+1) k*F (0+k) (0+(n+1-k)) 0)=pR (n+1) 0*F (0+0) (0+(n+1-0)) 0+sm n (λk=>pR (n+1) (k+1)*F (0+(k+1)) (0+(n+1-(k+1))) 0)+pR (n+1) (n+1)*F (0+(n+1)) (0+(n+1-(n+1))) 0:=by show sm (n+1) _+_=_;rw[qd]
 rw[e,tG,Hl,cC,cC];have a1:0+(n+1-0)=n+1:=by lia
 have a2:0+(n+1-(n+1))=0:=by lia
 have a3:0+(n+1)=n+1:=by lia
 rw[a1,a2,a3];have d:p ∣ sm n (λk=>pR (n+1) (k+1)*F (0+(k+1)) (0+(n+1-(k+1))) 0):=nJ λk hk=>bj (W2 hp hn2 hk);have e2:F (0+0) (n+1) 0=F 0 (n+1) 0:=rfl;rw[e2];generalize sm n (λk=>pR (n+1) (k+1)*F (0+(k+1)) (0+(n+1-(k+1))) 0)=S at *
 have e3:F 0 (n+1) 0+S+F (n+1) 0 0-(F (n+1) 0 0+F 0 (n+1) 0)=S:=by lia
 rw[e3];exact d
theorem Rj {p:Int}(hp:jL p)(d a b:Li):lB p d (pw (jZ a b) p.toNat) (jZ (pw a p.toNat) (pw b p.toNat)):=.of λx=>by
 have h:=Uh hp (F:=λi j n=>cm (ju (pw a i) (pw b j)) (pw (jZ a b) n) x) λi j n=>by
  show cm (ju (pw a i) (pw b j)) (ju (pw (jZ a b) n) (jZ a b)) x=cm (ju (ju (pw a i) a) (pw b j)) (pw (jZ a b) n) x+cm (ju (pw a i) (ju (pw b j) b)) (pw (jZ a b) n) x;generalize pw (jZ a b) n=W;generalize pw a i=A;generalize pw b j=B;rw[<- mQ,jJ,qO];have k1:cm a (ju (ju A B) W) x=cm (ju (ju A a) B) W x:=by rw[<- mQ];refine wA (λn=>?_) (λ_=>rfl) x;rw[jr,jr,<- mQ];exact wA (λn=>by rw[jr,jr,jJ]) (λ_=>rfl) n
  have k2:cm b (ju (ju A B) W) x=cm (ju A (ju B b)) W x:=by rw[<- mQ];refine wA (λn=>?_) (λ_=>rfl) x;rw[jr,jr,jJ,mQ]
  rw[k1,k2]
 have e1:cm (ju (pw a 0) (pw b 0)) (pw (jZ a b) p.toNat) x=(pw (jZ a b) p.toNat).getD x 0:=by rw[jJ,<- t6 (pw (jZ a b) p.toNat) x];refine wA (λ_=>rfl) (λn=>?_) x;rw[jr];exact t6 _ n
 have e2:cm (ju (pw a p.toNat) (pw b 0)) (pw (jZ a b) 0) x=(pw a p.toNat).getD x 0:=by show cm (ju (pw a p.toNat) [1]) [1] x=_;rw[t6,jr,t6]
 have e3:cm (ju (pw a 0) (pw b p.toNat)) (pw (jZ a b) 0) x=(pw b p.toNat).getD x 0:=by show cm (ju [1] (pw b p.toNat)) [1] x=_;rw[t6,jr,jJ,t6]
 rw[e1,e2,e3]at h;rw[jB];exact h
theorem pw_1 (p:Int)(d:Li):∀n,lB p d (pw [1] n) [1]
 |0=>.refl p d _
 |n+1=>(lB.one p d (pw [1] n)).trans (pw_1 p d n)
theorem pw_c (hp:jL p)(d:Li):∀c:Nat,lB p d (pw [(c:Int)] p.toNat) [(c:Int)]
 |0=>by
  have p2:2<=p:=hp.1;obtain⟨n,hn⟩:∃n,p.toNat=n+1:=⟨p.toNat-1,by lia⟩;rw[hn];have z:∀n,([((0:Nat):Int)]:List Int).getD n 0=0:=λn=>by cases n<;>rfl
  refine Sm.eqm λk=>?_;show(ju (pw [((0:Nat):Int)] n) [((0:Nat):Int)]).getD k 0=_;rw[jr,jJ,DX z,z]
 |c+1=>by have e:([((c+1:Nat):Int)]:List Int)=jZ [(c:Int)] [1]:=rfl;rw[e];exact(Rj hp d [(c:Int)] [1]).trans ((pw_c hp d c).add (pw_1 p d _))
theorem pw_mul (p:Int)(d a b:Li):∀n,lB p d (pw (ju a b) n) (ju (pw a n) (pw b n))
 |0=>(lB.one p d [1]).symm
 |n+1=>by show lB p d (ju (pw (ju a b) n) (ju a b)) (ju (ju (pw a n) a) (ju (pw b n) b));refine((pw_mul p d a b n).mul _).trans ?_;generalize pw a n=A;generalize pw b n=B;have x:lB p d (ju B (ju a b)) (ju a (ju B b)):=(lB.rN p d B a b).symm.trans (((lB.comm p d B a).mul b).trans (lB.rN p d a B b));exact(lB.rN p d A B (ju a b)).trans (((lB.refl p d A).DR x).trans (lB.rN p d A a (ju B b)).symm)
def lcb (X:Nat->List Int):List Int->Nat->List Int
 |[],_=>[]
 |c::t,s=>jZ (yR c (X s)) (lcb X t (s+1))
theorem Lw (X:Nat->List Int)(j:Nat):∀(f:Li) (s:Nat),(lcb X f s).getD j 0=sm f.length λk=>f.getD k 0*(X (s+k)).getD j 0
 |[],s=>by show([]:List Int).getD j 0=0;rfl
 |c::t,s=>by
  show(jZ (yR c (X s)) (lcb X t (s+1))).getD j 0=sm (t.length+1) _;rw[jB,jV,Lw X j t (s+1),qd];have e:sm t.length (λk=>t.getD k 0*(X (s+1+k)).getD j 0)=sm t.length λi=>(c::t).getD (i+1) 0*(X (s+(i+1))).getD j 0:=jz λi _=>by
   have a:s+1+i=s+(i+1):=by lia
   rw[a];rfl
  rw[e];rfl
theorem abo (hp:jL p)(d:Li):∀(f:Li),(∀m∈f,0<=m)->∀s,lB p d (ju (pw (pw [0,1] p.toNat) s) (pw f p.toNat)) (lcb (pw (pw [0,1] p.toNat)) f s)
 |[],_,s=>by
  have p2:2<=p:=hp.1;obtain⟨n,hn⟩:∃n,p.toNat=n+1:=⟨p.toNat-1,by lia⟩;refine Sm.eqm λk=>?_;have z:∀k,(pw [] p.toNat).getD k 0=0:=λk=>by rw[hn];show(ju (pw [] n) []).getD k 0=0;rw[jr,jJ,lU]
  rw[jr,jJ,DX z];rfl
 |c::t,h,s=>by
  have hc:0<=c:=h c (af ..);obtain⟨cn,ec⟩:∃cn:Nat,c=(cn:Int):=⟨c.toNat,by lia⟩;have ih:=abo hp d t (λm hm=>h m (ae _ hm)) (s+1);have e0:Sm (c::t) (jZ [c] (ju [0,1] t)):=λn=>by
   rw[jB,jr,nQ,bV,c9]
   match n with
   |0=>rw[ah rfl,bH];rfl
   |n+1=>
    have e:([c]:List Int).getD (n+1) 0=0:=by rfl
    rw[ag (by lia),e,c9,jJ,Nat.add_sub_cancel,t6];rfl
  have e1:lB p d (pw (c::t) p.toNat) (jZ [c] (ju (pw [0,1] p.toNat) (pw t p.toNat))):=by refine(pw_mod e0.eqm _).trans ((Rj hp d _ _).trans (lB.add ?_ (pw_mul p d _ _ _)));rw[ec];exact pw_c hp d cn
  refine((lB.refl p d (pw (pw [0,1] p.toNat) s)).DR e1).trans ?_;have e2:Sm (ju (pw (pw [0,1] p.toNat) s) (jZ [c] (ju (pw [0,1] p.toNat) (pw t p.toNat)))) (jZ (yR c (pw (pw [0,1] p.toNat) s)) (ju (pw (pw [0,1] p.toNat) s) (ju (pw [0,1] p.toNat) (pw t p.toNat)))):=λn=>by
   rw[jr,jJ,qO,jB,jV,jr,jJ (pw (pw [0,1] p.toNat) s),nQ];by_cases k:n=0
   ·rw[ah k,bH]
   ·rw[ag k,lU,bH]
  refine e2.eqm.trans ?_;exact(lB.refl p d _).add ((lB.rN p d _ _ _).symm.trans ih)
theorem W0 (h:a ∣ b*c)(g:Int.gcd a b=1):a ∣ c:=by have d:=d6.mpr h;rw[iG]at d;exact d6.mp (Nat.Coprime.dvd_of_dvd_mul_left g d)
theorem Vu (hp:jL p)(h:p ∣ a*b):p ∣ a\/p ∣ b:=by
 by_cases c:a % p=0
 ·exact .inl (gV c)
 ·right;have g:=hp.Mw c;rw[Int.gcd_comm]at g;exact W0 h g
theorem lM (hp:jL p)(h:¬p ∣ x):∃t,p ∣ t*x-1:=by
 have g:=hp.Mw (b:=x) λz=>h (gV z);obtain⟨t,_,_,e⟩:=NP hp.1 g;refine⟨t,?_⟩;have e2:=f7 e;have:t*x-1 = -(1-t*x):=by lia
 rw[this];exact bw.mpr e2
def Qz (p:Int):Setoid (List Int):=⟨λa b=>∀n,p ∣ a.getD n 0-b.getD n 0,λa n=>by rw[cH];exact aQ p,
 λ{a b} h n=>by
  have e:b.getD n 0-a.getD n 0 = -(a.getD n 0-b.getD n 0):=by lia
  rw[e];exact bw.mpr (h n),
 λ{a b c} h k n=>by
  have e:a.getD n 0-c.getD n 0=(a.getD n 0-b.getD n 0)+(b.getD n 0-c.getD n 0):=by lia
  rw[e];exact bD (h n) (k n)⟩
def Pl (p:Int):Type:=Quotient (Qz p)
namespace Pl
variable {p:Int}
def mk (p:Int)(a:List Int):Pl p:=Quotient.mk (Qz p) a
theorem lA:mk p a=mk p b ↔ ∀n,p ∣ a.getD n 0-b.getD n 0:=⟨λh=>Quotient.exact (s:=Qz p) h,λh=>Quotient.sound (s:=Qz p) h⟩
theorem ext (h:∀n,a.getD n 0=b.getD n 0):mk p a=mk p b:=lA.mpr λn=>by rw[h n,cH];exact aQ p
theorem rep (x:Pl p):∃a,x=mk p a:=Quotient.inductionOn (s:=Qz p) x λa=>⟨a,rfl⟩
def add (x y:Pl p):Pl p:=Quotient.lift₂ (s₁:=Qz p) (s₂:=Qz p) (λa b=>mk p (jZ a b)) (λa b c d h k=>lA.mpr λn=>by
 rw[jB,jB];have e:a.getD n 0+b.getD n 0-(c.getD n 0+d.getD n 0)=(a.getD n 0-c.getD n 0)+(b.getD n 0-d.getD n 0):=by lia
 rw[e];exact bD (h n) (k n)) x y
def mul (x y:Pl p):Pl p:=Quotient.lift₂ (s₁:=Qz p) (s₂:=Qz p) (λa b=>mk p (ju a b)) (λa b c d h k=>lA.mpr λn=>by
 rw[jr,jr];have e:cm a b n-cm c d n=(cm a b n-cm c b n)+(cm b c n-cm d c n):=by rw[jJ b c,jJ d c];lia
 rw[e];exact bD (yZ h n) (yZ k n)) x y
def neg (x:Pl p):Pl p:=Quotient.lift (s:=Qz p) (λa=>mk p (yR (-1) a)) (λa b h=>lA.mpr λn=>by
 rw[jV,jV];have e:-1*a.getD n 0 - -1*b.getD n 0 = -(a.getD n 0-b.getD n 0):=by lia
 rw[e];exact bw.mpr (h n)) x
def con (p c:Int):Pl p:=mk p [c]
instance:Add (Pl p):=⟨add⟩
instance:Mul (Pl p):=⟨mul⟩
instance:Neg (Pl p):=⟨neg⟩
instance:Sub (Pl p):=⟨λa b=>a + -b⟩
instance:NatCast (Pl p):=⟨λk=>con p (k:Int)⟩
instance:IntCast (Pl p):=⟨con p⟩
instance (k:Nat):OfNat (Pl p) k:=⟨con p (k:Int)⟩
instance:SMul Nat (Pl p):=⟨λk a=>con p (k:Int)*a⟩
instance:SMul Int (Pl p):=⟨λk a=>con p k*a⟩
def pow (a:Pl p):Nat->Pl p
 |0=>con p 1
 |n+1=>pow a n*a
instance:HPow (Pl p) Nat (Pl p):=⟨pow⟩
theorem mF (a b:Li):mk p a+mk p b=mk p (jZ a b):=rfl
theorem lz (a b:Li):mk p a*mk p b=mk p (ju a b):=rfl
theorem xf (a:Li):-mk p a=mk p (yR (-1) a):=rfl
theorem W5:(1:Pl p)=mk p [1]:=rfl
theorem uc:(0:Pl p)=mk p [0]:=rfl
theorem mul_comm (x y:Pl p):x*y=y*x:=by obtain⟨a,rfl⟩:=rep x;obtain⟨b,rfl⟩:=rep y;rw[lz,lz];exact ext λn=>by rw[jr,jr,jJ]
theorem mul_assoc (x y z:Pl p):x*y*z=x*(y*z):=by obtain⟨a,rfl⟩:=rep x;obtain⟨b,rfl⟩:=rep y;obtain⟨c,rfl⟩:=rep z;rw[lz,lz,lz,lz];exact ext λn=>by rw[jr,jr,mQ]
theorem qY (c:Int)(a:Li):con p c*mk p a=mk p (yR c a):=by unfold con;rw[lz];exact ext λn=>by rw[jr,jV,VH]
theorem one_mul (x:Pl p):1*x=x:=by obtain⟨a,rfl⟩:=rep x;show con p 1*mk p a=mk p a;rw[qY];exact ext λn=>by rw[jV,cC]
theorem Cp (n:Nat):([0]:Li).getD n 0=0:=by cases n<;>rfl
theorem zero_mul (x:Pl p):0*x=0:=by obtain⟨a,rfl⟩:=rep x;show con p 0*mk p a=mk p [0];rw[qY];exact ext λn=>by rw[jV,bV,Cp]
theorem Np (x y z:Pl p):x*(y+z)=x*y+x*z:=by obtain⟨a,rfl⟩:=rep x;obtain⟨b,rfl⟩:=rep y;obtain⟨c,rfl⟩:=rep z;rw[mF,lz,lz,lz,mF];exact ext λn=>by rw[jr,jB,jr,jr,jJ,qO,jJ b a,jJ c a]
theorem add_comm (x y:Pl p):x+y=y+x:=by obtain⟨a,rfl⟩:=rep x;obtain⟨b,rfl⟩:=rep y;rw[mF,mF];exact ext λn=>by rw[jB,jB,ig]
theorem abU (c d:Int)(n:Nat):([c+d]:Li).getD n 0=([c]:Li).getD n 0+([d]:Li).getD n 0:=by cases n<;>rfl
theorem zc (c d:Int):con p (c+d)=con p c+con p d:=by unfold con;rw[mF];exact ext λn=>by rw[jB,abU]
theorem Gq (c:Int):con p (-c) = -con p c:=by
 unfold con;rw[xf];exact ext λn=>by
  rw[jV];cases n with
  |zero=>show -c = -1*c;lia
  |succ n=>rfl
instance:Lean.Grind.CommRing (Pl p) where
 add_zero x:=by obtain⟨a,rfl⟩:=rep x;rw[uc,mF];exact ext λn=>by rw[jB,Cp,bH]
 add_comm:=add_comm
 add_assoc x y z:=by obtain⟨a,rfl⟩:=rep x;obtain⟨b,rfl⟩:=rep y;obtain⟨c,rfl⟩:=rep z;rw[mF,mF,mF,mF];exact ext λn=>by rw[jB,jB,jB,jB,Int.add_assoc]
 mul_assoc:=mul_assoc
 mul_one x:=by rw[mul_comm,one_mul]
 one_mul:=one_mul
 left_distrib:=Np
 right_distrib a b c:=by rw[mul_comm,Np,mul_comm c,mul_comm c]
 mul_zero x:=by rw[mul_comm,zero_mul]
 zero_mul:=zero_mul
 pow_zero _:=rfl
 pow_succ _ _:=rfl
 ofNat_succ k:=by show con p ((k+1:Nat):Int)=con p (k:Int)+con p 1;rw[<- zc];rfl
 ofNat_eq_natCast _:=rfl
 nsmul_eq_natCast_mul _ _:=rfl
 neg_add_cancel x:=by obtain⟨a,rfl⟩:=rep x;rw[uc,xf,mF];exact ext λn=>by rw[jB,jV,Cp];lia
 sub_eq_add_neg _ _:=rfl
 neg_zsmul i x:=by show con p (-i)*x = -(con p i*x);obtain⟨a,rfl⟩:=rep x;rw[qY,qY,xf];exact ext λn=>by rw[jV,jV,jV,<- bO,fk]
 zsmul_natCast_eq_nsmul _ _:=rfl
 intCast_ofNat _:=rfl
 intCast_neg i:=Gq i
 mul_comm:=mul_comm
def dv (x:Pl p):Pl p:=Quotient.lift (s:=Qz p) (λa=>mk p (dl a)) (λa b h=>lA.mpr λn=>by
 rw[sJ,sJ,<- cG];exact aP (h (n+1))) x
theorem Bx (a:Li):dv (mk p a)=mk p (dl a):=rfl
theorem Lh (x y:Pl p):dv (x*y)=dv x*y+x*dv y:=by obtain⟨a,rfl⟩:=rep x;obtain⟨b,rfl⟩:=rep y;rw[lz,Bx,Bx,Bx,lz,lz,mF];exact ext λn=>by rw[YT,jB,jr,jr]
theorem K5 (c:Int):dv (con p c)=0:=by unfold con;rw[Bx,uc];exact ext λn=>by rw[sJ,Cp];exact aW _
theorem Eb (x:Pl p):∀n:Nat,dv (x^(n+1))=con p ((n+1:Nat):Int)*x^n*dv x
 |0=>by show dv (con p 1*x)=con p 1*con p 1*dv x;rw[Lh,K5];have e:con p 1=(1:Pl p):=rfl;rw[e];grind
 |n+1=>by
  have h:=Eb x n;have e1:x^(n+1+1)=x^(n+1)*x:=rfl;have e2:x^(n+1)=x^n*x:=rfl;have e3:con p ((n+1+1:Nat):Int)=con p ((n+1:Nat):Int)+1:=by have z:((n+1+1:Nat):Int)=((n+1:Nat):Int)+1:=rfl;rw[z];exact zc _ 1
  rw[e1,Lh,h,e3,e2];grind
def nA (a b:Pl p):Prop:=∃s t:Pl p,s*a+t*b=1
theorem nA.symm {a b:Pl p}(h:nA a b):nA b a:=by obtain⟨s,t,h⟩:=h;exact⟨t,s,by grind⟩
theorem nA.one (a:Pl p):nA a 1:=⟨0,1,by grind⟩
theorem nA.mul {a b c:Pl p}(h:nA a c)(k:nA b c):nA (a*b) c:=by obtain⟨s,t,h⟩:=h;obtain⟨u,v,k⟩:=k;exact⟨s*u,s*a*v+t*u*b+t*v*c,by grind⟩
theorem nA.pow {a c:Pl p}(h:nA a c):∀n:Nat,nA (a^n) c
 |0=>(nA.one c).symm
 |n+1=>(h.pow n).mul h
theorem nA.ph {a b c:Pl p}(h:nA a b)(e:∃u,c=b+u*a):nA a c:=by obtain⟨s,t,h⟩:=h;obtain⟨u,e⟩:=e;exact⟨s-t*u,t,by grind⟩
structure Gd (a b d:Pl p):Prop where
 lc:∃s t:Pl p,d=s*a+t*b
 d1:∃u,a=u*d
 d2:∃u,b=u*d
theorem nA.gd (h:nA a b)(d:Pl p):Gd (a*d) (b*d) d:=by obtain⟨s,t,h⟩:=h;exact⟨⟨s,t,by grind⟩,⟨a,rfl⟩,⟨b,rfl⟩⟩
def Pr (L:List (Pl p×Nat))(g:Nat->Nat):Pl p:=L.foldr (λq x=>q.1^g q.2*x) 1
theorem jR (q:Pl p×Nat)(L:List (Pl p×Nat))(g:Nat->Nat):Pr (q::L) g=q.1^g q.2*Pr L g:=rfl
theorem pow_add (a:Pl p)(m:Nat):∀n:Nat,a^(m+n)=a^m*a^n
 |0=>by have e:a^0=(1:Pl p):=rfl;rw[e];grind
 |n+1=>by have h:=pow_add a m n;have e1:a^(m+(n+1))=a^(m+n)*a:=rfl;have e2:a^(n+1)=a^n*a:=rfl;rw[e1,e2,h];grind
theorem vz (g h:Nat->Nat):∀L:List (Pl p×Nat),Pr L (λm=>g m+h m)=Pr L g*Pr L h
 |[]=>(one_mul 1).symm
 |q::L=>by rw[jR,jR,jR,vz g h L,pow_add];grind
theorem mL:∀{L:List (Pl p×Nat)},(∀q∈L,g q.2=h q.2)->Pr L g=Pr L h
 |[],_=>rfl
 |q::L,e=>by rw[jR,jR,e q (af ..),mL λr hr=>e r (ae _ hr)]
theorem Ai {g h:Nat->Nat}{L:List (Pl p×Nat)}(e:∀q∈L,h q.2<=g q.2):Pr L g=Pr L (λm=>g m-h m)*Pr L h:=by rw[<- vz];exact mL λq hq=>by have:=e q hq;show g q.2=g q.2-h q.2+h q.2;lia
def Apart (L:List (Pl p×Nat)):Prop:=L.Pairwise λq r=>nA q.1 r.1
theorem DQ (c:Pl p)(g:Nat->Nat):∀{L:List (Pl p×Nat)},(∀q∈L,nA q.1 c\/g q.2=0)->nA (Pr L g) c
 |[],_=>(nA.one c).symm
 |q::L,h=>by
  rw[jR];refine nA.mul ?_ (DQ c g λr hr=>h r (ae _ hr));rcases h q (af ..) with h|h
  ·exact h.pow _
  ·rw[h];exact(nA.one c).symm
theorem U9 (d:∀m,g m=0\/h m=0):∀{L:List (Pl p×Nat)},Apart L->nA (Pr L g) (Pr L h)
 |[],_=>nA.one 1
 |q::L,A=>by
  obtain⟨A1,A2⟩:=bY.mp A;have ih:=U9 d A2;have a1:∀g':Nat->Nat,nA (Pr L g') q.1:=λg'=>DQ q.1 g' λr hr=>.inl (A1 r hr).symm;rw[jR,jR];refine nA.mul ?_ (nA.symm (nA.mul ?_ ih.symm))
  ·refine nA.symm (nA.mul ?_ ((a1 h).symm.pow _).symm);rcases d q.2 with e|e
   ·rw[e];exact nA.one _
   ·rw[e];exact(nA.one _).symm
  ·exact((a1 g).symm.pow _)
theorem abm {g h:Nat->Nat}{L:List (Pl p×Nat)}(A:Apart L):Gd (Pr L g) (Pr L h) (Pr L λm=>min (g m) (h m)):=by rw[Ai (g:=g) (h:=λm=>min (g m) (h m)) (λq _=>Nat.min_le_left ..),Ai (g:=h) (h:=λm=>min (g m) (h m)) (λq _=>Nat.min_le_right ..)];exact(U9 (λm=>by show g m-min (g m) (h m)=0\/h m-min (g m) (h m)=0;lia) A).gd _
def lw (p:Int)(m:Nat):Nat:=if p ∣ (m:Int) then m else m-1
def ly (p:Int)(m:Nat):Nat:=if p ∣ (m:Int) then 0 else 1
theorem Mr (h:p ∣ c):con p c=0:=lA.mpr λn=>by
 cases n with
 |zero=>show p ∣ c-0;rw[aT];exact h
 |succ n=>exact aQ p
theorem wk (h:p ∣ t*c-1):con p t*con p c=1:=by
 have e:con p t*con p c=mk p (yR t [c]):=qY t [c];rw[e,W5];exact lA.mpr λn=>by
  cases n with
  |zero=>exact h
  |succ n=>exact aQ p
theorem abH (C D Y E Q W q1:Pl p):C*Q*D*(E*Y)+Q*q1*(E*W)=Q*E*(C*D*Y+q1*W):=by grind
theorem abB {T C q1:Pl p}(h:T*C=1):nA C q1:=⟨T,0,by grind⟩
theorem Jf (hinv:∀x:Int,¬p ∣ x->∃t,p ∣ t*x-1):∀{L:List (Pl p×Nat)},Apart L->(∀q∈L,nA q.1 (dv q.1))->∃W,dv (Pr L g)=Pr L (λm=>lw p (g m))*W/\nA (Pr L λm=>ly p (g m)) W
 |[],_,_=>⟨0,by
   show dv (con p 1)=_;rw[K5];grind,(nA.one _).symm⟩
 |q::L,A,S=>by
  obtain⟨A1,A2⟩:=bY.mp A;obtain⟨W,e,c⟩:=Jf hinv A2 λr hr=>S r (ae _ hr);have a1:∀g':Nat->Nat,nA (Pr L g') q.1:=λg'=>DQ q.1 g' λr hr=>.inl (A1 r hr).symm;have spl:Pr L g=Pr L (λm=>lw p (g m))*Pr L λm=>ly p (g m):=by
   rw[<- vz];exact mL λr _=>by
    unfold lw ly;by_cases h:p ∣ (g r.2:Int)
    ·rw[ah h,ah h];rfl
    ·rw[ag h,ag h];have:g r.2≠0:=λz=>h (by rw[z];exact aQ p);lia
  have sq:=S q (af ..);simp only[jR];rw[Lh,e];by_cases h:p ∣ (g q.2:Int)
  ·refine⟨W,?_,?_⟩
   ·have z:dv (q.1^g q.2)=0:=by
     cases hm:g q.2 with
     |zero=>exact K5 1
     |succ n=>rw[Eb,Mr (by rw[<- hm];exact h)];grind
    rw[z];have e1:lw p (g q.2)=g q.2:=ah h;rw[e1];grind
   ·have e1:ly p (g q.2)=0:=ah h;rw[e1];have e2:q.1^0=(1:Pl p):=rfl;rw[e2,one_mul];exact c
  ·obtain⟨t,ht⟩:=hinv _ h;have i1:=wk ht;have e1:lw p (g q.2)=g q.2-1:=ag h;have e2:ly p (g q.2)=1:=ag h;have e3:q.1^1=q.1:=one_mul q.1;obtain⟨n,hn⟩:∃n,g q.2=n+1:=⟨g q.2-1,by
    have:g q.2≠0:=λz=>h (by rw[z];exact aQ p);lia⟩
   have e4:g q.2-1=n:=by lia
   have e5:q.1^(n+1)=q.1^n*q.1:=rfl;have c1:=a1 λm=>ly p (g m);rw[e1,e2,e3,spl,e4];rw[hn]at i1;rw[hn,Eb,e5];generalize (Pr L λm=>ly p (g m))=Y at *
   generalize (Pr L λm=>lw p (g m))=E at *
   generalize q.1^n=Q at *
   generalize con p ((n+1:Nat):Int)=C at *
   generalize con p t=T at *
   generalize dv q.1=D at *
   generalize q.1=q1 at *
   refine⟨C*D*Y+q1*W,abH ..,?_⟩;refine nA.mul ?_ ?_
   ·have k:nA q1 (C*D*Y):=((nA.mul (nA.mul (abB i1) sq.symm) c1)).symm;exact k.ph ⟨W,by rw[mul_comm W]⟩
   ·have k:nA Y (q1*W):=(nA.mul c1.symm c.symm).symm;exact k.ph ⟨C*D,add_comm _ _⟩
theorem aaZ (hinv:∀x:Int,¬p ∣ x->∃t,p ∣ t*x-1){g:Nat->Nat}{L:List (Pl p×Nat)}(A:Apart L)(S:∀q∈L,nA q.1 (dv q.1)):Gd (Pr L g) (dv (Pr L g)) (Pr L λm=>lw p (g m)):=by
 obtain⟨W,e,c⟩:=Jf hinv (g:=g) A S;have spl:Pr L g=Pr L (λm=>ly p (g m))*Pr L λm=>lw p (g m):=by
  rw[<- vz];exact mL λr _=>by
   unfold lw ly;by_cases h:p ∣ (g r.2:Int)
   ·rw[ah h,ah h];lia
   ·rw[ag h,ag h];have:g r.2≠0:=λz=>h (by rw[z];exact aQ p);lia
 rw[e,mul_comm,spl];exact c.gd _
end Pl
namespace Pl
variable {p:Int}
def ls (x:Pl p):List Int:=Quotient.lift (s:=Qz p) (Tz p) (λa b h=>m5 (jY p a) (jY p b) λn=>by
 rw[kI,kI];exact(qF p _ _).mpr (h n)) x
theorem qj (a:Li):ls (mk p a)=Tz p a:=rfl
theorem aaS (a:Li):mk p (Tz p a)=mk p a:=lA.mpr (Yn p a)
theorem jP (x:Pl p):mk p (ls x)=x:=by obtain⟨a,rfl⟩:=rep x;exact aaS a
theorem kO (x:Pl p):Fo p (ls x):=by obtain⟨a,rfl⟩:=rep x;exact Fo.tz p a
theorem sW (x:Pl p):Tz p (ls x)=ls x:=wC (kO x).form (kO x).red
theorem uy (h:Fo p f):ls (mk p f)=f:=wC h.form h.red
def Mo (x:Pl p):Prop:=jx (ls x)=1
theorem Mo.ne {x:Pl p}(h:Mo x):ls x≠[]:=Gk h
theorem Mo.pos {x:Pl p}(h:Mo x):0<(ls x).length:=lP h.ne
theorem VR (p2:2<=p):pl p 1=1:=by rw[kZ (by lia)];exact bp (by decide) (by lia)
theorem vV (p2:2<=p):ls (1:Pl p)=[1]:=uy ⟨λ_=>by decide,λn=>by
 cases n with
 |zero=>exact VR p2
 |succ n=>exact lO p⟩
theorem Mo.one (p2:2<=p):Mo (1:Pl p):=by unfold Mo;rw[vV p2];rfl
theorem Mo.DR (p2:2<=p){x y:Pl p}(hx:Mo x)(hy:Mo y):Mo (x*y)/\(ls (x*y)).length+1=(ls x).length+(ls y).length:=by
 have lx:=hx.pos;have ly:=hy.pos;have ez:ls (x*y)=Tz p (ju (ls x) (ls y)):=by
  have e:x*y=mk p (ls x)*mk p (ls y):=by rw[jP,jP]
  rw[e,lz];rfl
 have hx:(ls x).getD ((ls x).length-1) 0=1:=hx;have hy':jx (ls y)=1:=hy;have top:(Tz p (ju (ls x) (ls y))).getD ((ls x).length-1+((ls y).length-1)) 0=1:=by
  rw[kI,jr,<- VR p2];refine(qF p _ _).mpr ?_;have:=Kl (z:=p) (E:=ls x) (d:=ls y) (i:=(ls x).length-1) ly λj hj=>by rw[jw (by lia)];exact aQ p
  rw[hx,hy',cC]at this;exact this
 have l1:(Tz p (ju (ls x) (ls y))).length<=(ls x).length+(ls y).length-1:=m9 (jY p _) λn hn=>by rw[kI,jr,S6 (by lia)];exact lO p
 have l2:(ls x).length-1+((ls y).length-1)<(Tz p (ju (ls x) (ls y))).length:=by refine c6 λh=>?_;rw[jw h]at top;exact absurd top (by decide)
 rw[<- ez]at l1 l2 top;refine⟨?_,by lia⟩;show(ls (x*y)).getD ((ls (x*y)).length-1) 0=1;have e:(ls (x*y)).length-1=(ls x).length-1+((ls y).length-1):=by lia
 rw[e];exact top
theorem Mo.mul (p2:2<=p){x y:Pl p}(hx:Mo x)(hy:Mo y):Mo (x*y):=(Mo.DR p2 hx hy).1
theorem Mo.len (p2:2<=p){x y:Pl p}(hx:Mo x)(hy:Mo y):(ls (x*y)).length+1=(ls x).length+(ls y).length:=(Mo.DR p2 hx hy).2
theorem Mo.pow (p2:2<=p){x:Pl p}(hx:Mo x):∀n:Nat,Mo (x^n)
 |0=>Mo.one p2
 |n+1=>Mo.mul p2 (hx.pow p2 n) hx
theorem Mo.pr (p2:2<=p):∀{L:List (Pl p×Nat)},(∀q∈L,Mo q.1)->Mo (Pr L g)
 |[],_=>Mo.one p2
 |q::L,h=>Mo.mul p2 ((h q (af ..)).pow p2 _) (Mo.pr p2 λr hr=>h r (ae _ hr))
theorem Mo.vH (p2:2<=p){x:Pl p}(hx:Mo x):∀n:Nat,(ls (x^n)).length=n*((ls x).length-1)+1
 |0=>by have e:x^0=(1:Pl p):=rfl;rw[e,vV p2];show 1=0*_+1;lia
 |n+1=>by have h:=Mo.len p2 (hx.pow p2 n) hx;have e:x^(n+1)=x^n*x:=rfl;have l:=hx.pos;rw[e];rw[Mo.vH p2 hx n]at h;rw[gv];lia
theorem oU (p2:2<=p):∀{L:List (Pl p×Nat)},(∀q∈L,Mo q.1)->(∀q∈L,1<(ls q.1).length)->(1<(ls (Pr L g)).length ↔ ∃q∈L,g q.2≠0)
 |[],_,_=>by have e:Pr ([]:List (Pl p×Nat)) g=1:=rfl;rw[e,vV p2];refine⟨λh=>absurd h (by decide),λ⟨q,h,_⟩=>by cases h⟩
 |q::L,h,d=>by
  have h1:=h q (af ..);have d1:=d q (af ..);have ih:=oU p2 (g:=g) (λr hr=>h r (ae _ hr)) (λr hr=>d r (ae _ hr));have m2:Mo (Pr L g):=Mo.pr p2 λr hr=>h r (ae _ hr);have hl:=Mo.len p2 (h1.pow p2 (g q.2)) m2;have mp:=m2.pos;rw[Mo.vH p2 h1,<- jR]at hl;have nz:g q.2*((ls q.1).length-1)=0 ↔ g q.2=0:=by rw[Nat.mul_eq_zero];lia
  refine⟨λk=>?_,λ⟨r,hr,k⟩=>?_⟩
  ·by_cases c:g q.2=0
   ·rw[nz.mpr c]at hl;obtain⟨r,hr,k⟩:=ih.mp (by lia);exact⟨r,ae _ hr,k⟩
   ·exact⟨q,af ..,c⟩
  ·rcases aC.mp hr with e|hr
   ·subst e;have:g r.2*((ls r.1).length-1)≠0:=λz=>k (nz.mp z);lia
   ·have:=ih.mpr ⟨r,hr,k⟩;lia
theorem aaK (h:Gd (mk p f) (mk p g) d)(m:Mo d):GC p f g (ls d):=by
 obtain⟨⟨s,t,e⟩,⟨u,e1⟩,⟨v,e2⟩⟩:=h;obtain⟨a,rfl⟩:=rep s;obtain⟨b,rfl⟩:=rep t;obtain⟨c,rfl⟩:=rep u;obtain⟨c2,rfl⟩:=rep v;have z:∀{f c:List Int},mk p f=mk p c*d->Dv p (ls d) f:=λ{f c} e=>by
  refine⟨c,λn=>?_⟩;have e:mk p f=mk p (ju c (ls d)):=by rw[<- lz,jP];exact e
  have:=lA.mp e n;rw[jr]at this;show p ∣ f.getD n 0-0-cm c (ls d) n;rw[aT];exact this
 refine⟨(kO d).form,(kO d).red,.inr m,⟨a,b,λn=>?_⟩,z e1,z e2⟩;have e:mk p (ls d)=mk p (jZ (ju a f) (ju b g)):=by rw[jP];exact e
 have:=lA.mp e n;rw[jB,jr,jr]at this;exact this
theorem quo (p2:2<=p)(I:xJ p f d q r)(rl:r.length<d.length)(mu:Mo u)(md:Mo (mk p d))(ff:Fo p f)(fd:Fo p d)(e:mk p f=u*mk p d):q=ls u/\r=[]:=by
 have ed:ls (mk p d)=d:=uy fd;have ef:ls (mk p f)=f:=uy ff;have d1:jx d=1:=by have:=md;unfold Mo at this;rw[ed]at this;exact this
 have nz:∀x,p ∣ x*jx d->p ∣ x:=λx h=>by rw[d1,bR]at h;exact h
 have e1:mk p (jZ (ju q d) r)=mk p f:=lA.mpr λn=>by rw[jB,jr];exact I.eq n
 have e2:mk p q*mk p d+mk p r=u*mk p d:=by rw[<- e,<- e1];rfl
 obtain⟨c,ec⟩:=rep (u-mk p q);have e3:mk p r=mk p c*mk p d:=by rw[<- ec];grind
 have e4:=lA.mp (e3.trans (lz c d));have hr:r=[]:=rC nz ⟨I.rf,I.rr,rl⟩ ⟨nR,λn=>by show pl p 0=0;exact lO p,by show 0<d.length;lia⟩ ⟨c,λn=>by
  have:=e4 n;rw[jr]at this;show p ∣ r.getD n 0-0-cm c d n;rw[aT];exact this⟩
 refine⟨?_,hr⟩;have hd:0<d.length:=by lia
 have hc:=aav (z:=p) (E:=c) (S:=0) hd nz λn _=>by
  have:=e4 n;rw[jr,hr]at this;have e:(([]:List Int).getD n 0)-cm c d n = -cm c d n:=by show 0-cm c d n=_;lia
  rw[e]at this;exact bw.mp this
 have c0:mk p c=0:=lA.mpr λn=>by show p ∣ c.getD n 0-([0]:List Int).getD n 0;rw[Cp,aT];exact hc n (bq _)
 have e5:mk p q=u:=by rw[c0]at ec;grind
 have ll:=Mo.len p2 mu md;rw[<- e,ef,ed]at ll;have ql:=I.ql;have up:=mu.pos;have le:q.length=(ls u).length:=by lia
 have gt:∀n,q.getD n 0=(ls u).getD n 0:=λn=>su (I.qr n) ((kO u).red n) (lA.mp (by rw[e5,jP]) n);refine cF le λn h1 h2=>?_;have:=gt n;rw[jE h1,jE h2]at this;exact this
end Pl
namespace Pl
variable {p:Int}
def qP (p:Int)(g:Nat->Nat)(e m:Nat):Nat:=if p ∣ (g m:Int) then 0 else if e<=g m then 1 else 0
def tD (p:Int)(g:Nat->Nat)(e m:Nat):Nat:=if p ∣ (g m:Int) then g m else g m-e
def Vz (p:Int)(g:Nat->Nat)(e m:Nat):Nat:=if p ∣ (g m:Int) then 0 else if g m=e then 1 else 0
theorem R4 {L:List (Pl p×Nat)}(A:Apart L)(g:Nat->Nat)(e:Nat):Gd (Pr L (qP p g e)) (Pr L (tD p g e)) (Pr L (qP p g (e+1))):=by
 have h:=abm (g:=qP p g e) (h:=tD p g e) A;have c:Pr L (λm=>min (qP p g e m) (tD p g e m))=Pr L (qP p g (e+1)):=mL λq _=>by
  show min (qP p g e q.2) (tD p g e q.2)=qP p g (e+1) q.2;unfold qP tD;by_cases h:p ∣ (g q.2:Int)
  ·rw[ah h,ah h,ah h];lia
  ·rw[ag h,ag h,ag h];by_cases k:e+1<=g q.2
   ·rw[ah k,ah (by lia)];lia
   ·rw[ag k];by_cases k2:e<=g q.2
    ·rw[ah k2];lia
    ·rw[ag k2];lia
 rw[c]at h;exact h
theorem Yl (L:List (Pl p×Nat))(g:Nat->Nat)(e:Nat):Pr L (qP p g e)=Pr L (Vz p g e)*Pr L (qP p g (e+1)):=by
 rw[<- vz];exact mL λq _=>by
  unfold qP Vz;by_cases h:p ∣ (g q.2:Int)
  ·rw[ah h,ah h,ah h]
  ·rw[ag h,ag h,ag h];by_cases k:g q.2=e
   ·rw[ah k,ah (by lia),ag (by lia)]
   ·rw[ag k];by_cases k2:e<=g q.2
    ·rw[ah k2,ah (by lia)]
    ·rw[ag k2,ag (by lia)]
theorem XX (L:List (Pl p×Nat))(g:Nat->Nat)(e:Nat):Pr L (tD p g e)=Pr L (tD p g (e+1))*Pr L (qP p g (e+1)):=by
 rw[<- vz];exact mL λq _=>by
  unfold qP tD;by_cases h:p ∣ (g q.2:Int)
  ·rw[ah h,ah h,ah h];lia
  ·rw[ag h,ag h,ag h];by_cases k:e+1<=g q.2
   ·rw[ah k];lia
   ·rw[ag k];lia
theorem XR {p:Int}{n:Nat}(h:¬p ∣ (n:Int)):n≠0:=λz=>h (by rw[z];exact aQ p)
theorem Yh (L:List (Pl p×Nat))(g:Nat->Nat):Pr L g=Pr L (qP p g 1)*Pr L (tD p g 1):=by
 rw[<- vz];exact mL λq _=>by
  unfold qP tD;by_cases h:p ∣ (g q.2:Int)
  ·rw[ah h,ah h];lia
  ·have:=XR h;rw[ag h,ag h,ah (by lia)];lia
theorem aaQ (hinv:∀x:Int,¬p ∣ x->∃t,p ∣ t*x-1){L:List (Pl p×Nat)}(A:Apart L)(S:∀q∈L,nA q.1 (dv q.1))(g:Nat->Nat):Gd (Pr L g) (dv (Pr L g)) (Pr L (tD p g 1)):=aaZ hinv A S
theorem Oh:∀n:Nat,(1:Pl p)^n=1
 |0=>rfl
 |n+1=>by have e:(1:Pl p)^(n+1)=(1:Pl p)^n*1:=rfl;rw[e,Oh n,one_mul]
theorem mul_pow (a b:Pl p):∀n:Nat,(a*b)^n=a^n*b^n
 |0=>(one_mul 1).symm
 |n+1=>by have h:=mul_pow a b n;have e1:(a*b)^(n+1)=(a*b)^n*(a*b):=rfl;have e2:a^(n+1)=a^n*a:=rfl;have e3:b^(n+1)=b^n*b:=rfl;rw[e1,e2,e3,h];grind
theorem pow_mul (a:Pl p)(k:Nat):∀n:Nat,a^(k*n)=(a^k)^n
 |0=>rfl
 |n+1=>by have e1:k*(n+1)=k*n+k:=jd k n;have e2:(a^k)^(n+1)=(a^k)^n*a^k:=rfl;rw[e1,pow_add,pow_mul a k n,e2]
theorem Va (h:Nat->Nat)(n:Nat):∀L:List (Pl p×Nat),Pr L (λm=>h m*n)=Pr L h^n
 |[]=>(Oh n).symm
 |q::L=>by rw[jR,jR,mul_pow,Va h n L,pow_mul]
theorem tZ (f:Li):∀n:Nat,mk p (pw f n)=mk p f^n
 |0=>rfl
 |n+1=>by have h:=tZ f n;have e1:mk p f^(n+1)=mk p f^n*mk p f:=rfl;rw[e1,<- h,lz];rfl
theorem pw_x (n:Nat):∀j,(pw [0,1] n).getD j 0=if j=n then 1 else 0:=by
 induction n with
 |zero=>
  intro j;cases j with
  |zero=>rfl
  |succ j=>rfl
 |succ n ih=>
  intro j;show(ju (pw [0,1] n) [0,1]).getD j 0=_;rw[jr,jJ,ab2];cases j with
  |zero=>rw[ah rfl,ag (by lia)];lia
  |succ j=>
   rw[ag (by lia),show j+1-1=j from rfl,ih j];by_cases c:j=n
   ·rw[ah c,ah (by lia)];lia
   ·rw[ag c,ag (by lia)];lia
theorem aat (hp:jL p)(f:Li)(h0:∀m∈f,0<=m):mk p f^p.toNat=mk p (lcb (pw (pw [0,1] p.toNat)) f 0):=by obtain⟨Q,h⟩:=abo hp [] f h0 0;rw[<- tZ];refine lA.mpr λn=>?_;have h:=h n;rw[jJ Q [],lU,aT,jr]at h;have e:cm (pw (pw [0,1] p.toNat) 0) (pw f p.toNat) n=(pw f p.toNat).getD n 0:=Uk _ n;rw[e]at h;exact h
theorem O2 (hp:jL p)(x:Pl p)(j:Nat):(ls (x^p.toNat)).getD (p.toNat*j) 0=(ls x).getD j 0:=by
 have p2:2<=p:=hp.1;have h0:∀m∈ls x,0<=m:=λm hm=>((kO x).at hp m hm).1;have e:=aat hp (ls x) h0;rw[jP]at e;rw[e,qj,kI];have r:=(kO x).red j;refine jk ?_ r;refine(qF p _ _).mpr ?_;rw[Lw];have at':∀k,p ∣ (pw (pw [0,1] p.toNat) (0+k)).getD (p.toNat*j) 0-if k=j then 1 else 0:=λk=>by
  have e2:mk p (pw (pw [0,1] p.toNat) (0+k))=mk p (pw [0,1] (p.toNat*k)):=by rw[tZ,tZ,tZ,ik,<- pow_mul]
  have:=lA.mp e2 (p.toNat*j);rw[pw_x]at this;have e3:(if p.toNat*j=p.toNat*k then(1:Int) else 0)=if k=j then 1 else 0:=by
   by_cases c:k=j
   ·rw[ah c,ah (by rw[c])]
   ·rw[ag c,ag λz=>c (Nat.eq_of_mul_eq_mul_left (by lia) z).symm]
  rw[e3]at this;exact this
 by_cases hj:j<(ls x).length
 ·have k:=KZ (z:=p) (f:=λk=>(ls x).getD k 0*(pw (pw [0,1] p.toNat) (0+k)).getD (p.toNat*j) 0) (i:=j) hj λi _ hi=>by have:=at' i;rw[ag hi,aT]at this;exact aP this
  have t:=at' j;rw[ah rfl]at t;generalize (pw (pw [0,1] p.toNat) (0+j)).getD (p.toNat*j) 0=y at *
  generalize sm (ls x).length (λk=>(ls x).getD k 0*(pw (pw [0,1] p.toNat) (0+k)).getD (p.toNat*j) 0)=S at *
  generalize (ls x).getD j 0=z at *
  have e4:S-z=(S-z*y)+z*(y-1):=by rw[cG];lia
  rw[e4];exact bD k (aP t)
 ·rw[jw (by lia),aT];exact nJ λi hi=>by have:=at' i;rw[ag (by lia),aT]at this;exact aP this
theorem Qv (hp:jL p){x:Pl p}(m:Mo x):(List.range (ls x).length).map (λi=>(ls (x^p.toNat)).getD (p.toNat*i) 0)=ls x/\(ls (x^p.toNat)).length=p.toNat*((ls x).length-1)+1:=by refine⟨cF (by rw[aa,ao]) λn h1 h2=>?_,m.vH hp.1 _⟩;rw[bA,bu,O2 hp,jE h2]
end Pl
namespace Pl
variable {p:Int}
theorem Mo.inj {x y:Pl p}(h:ls x=ls y):x=y:=by rw[<- jP x,<- jP y,h]
theorem Mo.yj (p2:2<=p){x:Pl p}(h:Mo x)(l:(ls x).length<=1):x=1:=by
 refine Mo.inj ?_;rw[vV p2];have k:jx (ls x)=1:=h;have:=h.pos;generalize ls x=a at *
 match a,l,this with
 |[b],_,_=>rw[show b=1 from k]
theorem xX:mk p []=(0:Pl p):=ext λn=>by show([]:Li).getD n 0=([0]:Li).getD n 0;rw[Cp];rfl
theorem Qk (x:Pl p):x*0=0:=by rw[mul_comm,zero_mul]
theorem Mo.ne0 {x:Pl p}(h:Mo x):x≠0:=λz=>by have k:=h.ne;rw[z,<- xX,qj]at k;exact k rfl
theorem aaJ (hp:jL p)(y:Pl p)(mx:Mo x)(hl:(ls y).length<=200):∃d,Mo d/\Gd x y d:=by
 have G:=YW hp (f:=ls x) hl;generalize gc p (ls x) (ls y)=r at G;have up:∀{f:Pl p},Dv p r (ls f)->∃u,f=u*mk p r:=λ{f} ⟨Q,h⟩=>⟨mk p Q,by
  rw[lz];refine jk (jP f).symm (lA.mpr λn=>?_);have:=h n;rw[jr];have e:(ls f).getD n 0-([]:List Int).getD n 0-cm Q r n=(ls f).getD n 0-cm Q r n:=by show _-0-_=_;lia
  rw[e]at this;exact this⟩
 have d1:=up G.d1;refine⟨mk p r,?_,?_,d1,up G.d2⟩
 ·rcases G.one with z|z
  ·obtain⟨u,e⟩:=d1;rw[z,xX,Qk]at e;exact absurd e mx.ne0
  ·show jx (ls (mk p r))=1;rw[uy ⟨G.form,G.red⟩];exact z
 ·obtain⟨s,t,h⟩:=G.lc;refine⟨mk p s,mk p t,?_⟩;have e1:mk p s*x+mk p t*y=mk p s*mk p (ls x)+mk p t*mk p (ls y):=by rw[jP,jP]
  rw[e1];exact lA.mpr λn=>by rw[jB,jr,jr];exact h n
theorem Mo.quo (p2:2<=p){x d u:Pl p}(mx:Mo x)(md:Mo d)(e:x=u*d):Mo u:=by
 have hd:=md.pos;have d1:jx (ls d)=1:=md;have u0:ls u≠[]:=λz=>mx.ne0 (by rw[e,<- jP u,z,xX,zero_mul]);have lu:=lP u0;have ez:ls x=Tz p (ju (ls u) (ls d)):=by rw[<- qj,<- lz,jP,jP,e]
 have top:p ∣ cm (ls u) (ls d) ((ls u).length-1+((ls d).length-1))-jx (ls u):=by
  have:=Kl (z:=p) (E:=ls u) (d:=ls d) (i:=(ls u).length-1) hd λj hj=>by rw[jw (by lia)];exact aQ p
  rw[d1,bR]at this;exact this
 have t2:(ls x).getD ((ls u).length-1+((ls d).length-1)) 0=jx (ls u):=by rw[ez,kI,jr];have r:=(kO u).red ((ls u).length-1);exact((qF p _ _).mpr top).trans r
 have nz:jx (ls u)≠0:=(kO u).form u0;have l1:(ls x).length<=(ls u).length+(ls d).length-1:=by rw[ez];exact m9 (jY p _) λn hn=>by rw[kI,jr,S6 (by lia)];exact lO p
 have l2:(ls u).length-1+((ls d).length-1)<(ls x).length:=by refine c6 λh=>?_;rw[jw h]at t2;exact nz t2.symm
 have e2:(ls x).length-1=(ls u).length-1+((ls d).length-1):=by lia
 show jx (ls u)=1;rw[<- t2,<- e2];exact mx
structure uO (q:Pl p):Prop where
 mo:Mo q
 deg:1<(ls q).length
 no:∀a b:Pl p,Mo a->Mo b->q=a*b->a=1\/b=1
theorem uO.or (hp:jL p)(h:uO q)(y:Pl p)(hl:(ls y).length<=200):nA q y\/∃u,y=u*q:=by
 obtain⟨d,md,⟨s,t,e⟩,⟨u,e1⟩,⟨v,e2⟩⟩:=aaJ hp y h.mo hl;rcases h.no u d (Mo.quo hp.1 h.mo md e1) md e1 with z|z
 ·refine .inr ⟨v,?_⟩;rw[z,one_mul]at e1;rw[e1];exact e2
 ·refine .inl ⟨s,t,?_⟩;rw[<- e,z]
theorem uO.cop (hp:jL p){q r:Pl p}(h:uO q)(k:uO r)(hl:(ls r).length<=200)(ne:q≠r):nA q r:=by
 rcases h.or hp r hl with c|⟨u,e⟩
 ·exact c
 ·rcases k.no u q (Mo.quo hp.1 k.mo h.mo e) h.mo e with z|z
  ·rw[z,one_mul]at e;exact absurd e.symm ne
  ·have:=h.deg;rw[z,vV hp.1]at this;exact absurd this (by decide)
theorem Wt (hp:jL p):∀(n:Nat) (x:Pl p),Mo x->(ls x).length<=n->∃l:List (Pl p),(∀q∈l,uO q/\(ls q).length<=(ls x).length)/\x=l.foldr (λq y=>q*y) 1:=by
 intro n
 induction n with
 |zero=>exact λx mx h=>absurd mx.pos (by lia)
 |succ n ih=>
  intro x mx h;by_cases c:(ls x).length<=1
  ·exact⟨[],(λq hq=>by cases hq),mx.yj hp.1 c⟩
  by_cases I:∀a b:Pl p,Mo a->Mo b->x=a*b->a=1\/b=1
  ·refine⟨[x],λq hq=>?_,?_⟩
   ·rw[bv.mp hq];exact⟨⟨mx,by lia,I⟩,aq _⟩
   ·show x=x*1;rw[mul_comm,one_mul]
  ·obtain⟨a,ha⟩:=iD.mp I;obtain⟨b,hb⟩:=iD.mp ha;obtain⟨ma,hb⟩:=gL.mp hb;obtain⟨mb,hb⟩:=gL.mp hb;obtain⟨e,hb⟩:=gL.mp hb;have a1:¬(ls a).length<=1:=λz=>hb (.inl (ma.yj hp.1 z));have b1:¬(ls b).length<=1:=λz=>hb (.inr (mb.yj hp.1 z));have ll:=Mo.len hp.1 ma mb;rw[<- e]at ll;obtain⟨l,hl,el⟩:=ih a ma (by lia);obtain⟨k,hk,ek⟩:=ih b mb (by lia);refine⟨l++k,λq hq=>?_,?_⟩
   ·rcases cV.mp hq with hq|hq
    ·exact⟨(hl q hq).1,by have:=(hl q hq).2;lia⟩
    ·exact⟨(hk q hq).1,by have:=(hk q hq).2;lia⟩
   ·rw[e,ek,el];clear hl el
    induction l with
    |nil=>exact one_mul _
    |cons q l ih=>show q*_*_=q*_;rw[mul_assoc,ih];rfl
def put [DecidableEq (Pl p)](q:Pl p):List (Pl p×Nat)->List (Pl p×Nat)
 |[]=>[(q,1)]
 |r::L=>if r.1=q then(r.1,r.2+1)::L else r::put q L
theorem TQ [DecidableEq (Pl p)](q:Pl p):∀L:List (Pl p×Nat),Pr (put q L) id=q*Pr L id
 |[]=>by show q^1*1=q*1;have e:q^1=q:=one_mul q;rw[e]
 |r::L=>by
  unfold put;by_cases h:r.1=q
  ·rw[ah h,jR,jR];show r.1^(r.2+1)*_=q*(r.1^r.2*_);have e:r.1^(r.2+1)=r.1^r.2*r.1:=rfl;rw[e,h];generalize Pr L id=y;generalize q^r.2=z;grind
  ·rw[ag h,jR,jR,TQ q L];generalize Pr L id=y;generalize r.1^id r.2=z;grind
theorem Gz [DecidableEq (Pl p)]:∀{L:List (Pl p×Nat)} {r:Pl p×Nat},r∈put q L->(r.1=q\/∃s∈L,s.1=r.1)/\(r.2=0->∃s∈L,s.2=0)
 |[],r,h=>by rw[bv.mp h];exact⟨.inl rfl,λz=>by cases z⟩
 |s::L,r,h=>by
  unfold put at h;by_cases c:s.1=q
  ·rw[ah c]at h;rcases aC.mp h with e|h
   ·rw[e];exact⟨.inl c,λz=>by cases z⟩
   ·exact⟨.inr ⟨r,ae _ h,rfl⟩,λz=>⟨r,ae _ h,z⟩⟩
  ·rw[ag c]at h;rcases aC.mp h with e|h
   ·rw[e];exact⟨.inr ⟨s,af ..,rfl⟩,λz=>⟨s,af ..,z⟩⟩
   ·obtain⟨h1,h2⟩:=Gz h;refine⟨?_,λz=>?_⟩
    ·rcases h1 with h1|⟨t,ht,e⟩
     ·exact .inl h1
     ·exact .inr ⟨t,ae _ ht,e⟩
    ·obtain⟨t,ht,e⟩:=h2 z;exact⟨t,ae _ ht,e⟩
theorem put_nodup [DecidableEq (Pl p)]:∀{L:List (Pl p×Nat)},(L.Pairwise λa b=>a.1≠b.1)->(put q L).Pairwise λa b=>a.1≠b.1
 |[],_=>gW ..
 |s::L,h=>by
  obtain⟨h1,h2⟩:=bY.mp h;unfold put;by_cases c:s.1=q
  ·rw[ah c];exact bY.mpr ⟨h1,h2⟩
  ·rw[ag c];refine bY.mpr ⟨λr hr=>?_,put_nodup h2⟩;rcases (Gz hr).1 with e|⟨t,ht,e⟩
   ·rw[e];exact c
   ·rw[<- e];exact h1 t ht
theorem NB (hp:jL p)(mx:Mo x):∃L:List (Pl p×Nat),(∀q∈L,uO q.1/\(ls q.1).length<=(ls x).length/\q.2≠0)/\(L.Pairwise λa b=>a.1≠b.1)/\x=Pr L id:=by
 obtain⟨l,hl,e⟩:=Wt hp _ x mx (aq _);have dd:DecidableEq (Pl p):=λa b=>Classical.propDecidable _;have key:∀(N:Nat) (l:List (Pl p)),(∀q∈l,uO q/\(ls q).length<=N)->∃L:List (Pl p×Nat),(∀q∈L,uO q.1/\(ls q.1).length<=N/\q.2≠0)/\(L.Pairwise λa b=>a.1≠b.1)/\l.foldr (λq y=>q*y) 1=Pr L id:=by
  intro N l
  induction l with
  |nil=>exact λ_=>⟨[],(λq hq=>by cases hq),List.Pairwise.nil,rfl⟩
  |cons q l ih=>
   intro h;obtain⟨L,h1,h2,h3⟩:=ih λr hr=>h r (ae _ hr);have hq:=h q (af ..);refine⟨put q L,λr hr=>?_,put_nodup h2,?_⟩
   ·obtain⟨k1,k2⟩:=Gz hr;have nz:r.2≠0:=λz=>by obtain⟨s,hs,e⟩:=k2 z;exact(h1 s hs).2.2 e
    rcases k1 with k1|⟨s,hs,k1⟩
    ·rw[k1];exact⟨hq.1,hq.2,nz⟩
    ·rw[<- k1];exact⟨(h1 s hs).1,(h1 s hs).2.1,nz⟩
   ·rw[TQ,<- h3];rfl
 obtain⟨L,h1,h2,h3⟩:=key _ l hl;exact⟨L,h1,h2,e.trans h3⟩
theorem TX {x:Pl p}(hx:0<(ls x).length):(ls (dv x)).length<(ls x).length:=by
 have e:ls (dv x)=Tz p (dl (ls x)):=by rw[<- qj,<- Bx,jP]
 rw[e];have:(Tz p (dl (ls x))).length<=(ls x).length-1:=m9 (jY p _) λn hn=>by rw[kI,sJ,jw (by lia),aW];exact lO p
 lia
theorem Tf (hp:jL p){y:Pl p}(z:dv y=0)(n:Nat)(hn:¬p ∣ (n:Int)):(ls y).getD n 0=0:=by
 have e2:mk p (dl (ls y))=mk p [0]:=by rw[<- Bx,jP];exact z
 cases n with
 |zero=>exact absurd (aQ p) hn
 |succ n=>
  have:=lA.mp e2 n;rw[Cp,aT,sJ]at this;rcases Vu hp this with k|k
  ·exact absurd k hn
  ·exact su ((kO y).red _) (lO p) (by rw[aT];exact k)
theorem Zj (hp:jL p)(z:dv q=0):∃x:Pl p,q=x^p.toNat/\∀j,(ls x).getD j 0=(ls q).getD (p.toNat*j) 0:=by
 have p2:2<=p:=hp.1;obtain⟨m,hm⟩:∃m,p.toNat=m+1:=⟨p.toNat-1,by lia⟩;have xg:∀j,(ls (mk p ((List.range (ls q).length).map λi=>(ls q).getD (p.toNat*i) 0))).getD j 0=(ls q).getD (p.toNat*j) 0:=λj=>by
  rw[qj,kI];by_cases c:j<(ls q).length
  ·rw[jE (by rw[aa,ao];exact c),bA,bu];exact(kO q).red _
  ·rw[jw (by rw[aa,ao];lia),jw (xs:=ls q) (aJ (by lia) (Nat.le_mul_of_pos_left j (by lia)))];exact lO p
 generalize mk p ((List.range (ls q).length).map λi=>(ls q).getD (p.toNat*i) 0)=x at xg;refine⟨x,?_,xg⟩;have zx:dv (x^p.toNat)=0:=by rw[hm,Eb,Mr (by rw[<- hm];have e:((p.toNat:Nat):Int)=p:=bn (by lia);rw[e];exact gw p)];grind
 refine Mo.inj (m5 (kO _).form (kO _).form λn=>?_);by_cases c:p ∣ (n:Int)
 ·obtain⟨k,hk⟩:=c;have k0:0<=k:=by refine Int.not_lt.mp λh=>?_;have:=Int.mul_neg_of_pos_of_neg (show 0<p by lia) h;lia
  have en:n=p.toNat*k.toNat:=by
   have e1:((p.toNat:Nat):Int)=p:=bn (by lia);have e2:((k.toNat:Nat):Int)=k:=bn k0;have:((p.toNat*k.toNat:Nat):Int)=p*k:=by rw[fq,e1,e2]
   lia
  rw[en,O2 hp,xg]
 ·rw[Tf hp z n c,Tf hp zx n c]
theorem Ol (hp:jL p){q:Pl p}(h:uO q)(hl:(ls q).length<=200):nA q (dv q):=by
 have p2:2<=p:=hp.1;have sh:=TX h.mo.pos;rcases h.or hp (dv q) (by lia) with c|⟨u,e⟩
 ·exact c
 have z:dv q=0:=by
  have r:=rC (p:=p) (d:=ls q) (r:=ls (dv q)) (s:=[]) (λx hx=>by rw[show jx (ls q)=1 from h.mo,bR]at hx;exact hx) ⟨(kO _).form,(kO _).red,sh⟩ ⟨nR,λn=>by show pl p 0=0;exact lO p,h.mo.pos⟩ ⟨ls u,λn=>by
   have e2:mk p (ls (dv q))=mk p (ju (ls u) (ls q)):=by rw[jP,<- lz,jP,jP];exact e
   have:=lA.mp e2 n;rw[jr]at this;show p ∣ (ls (dv q)).getD n 0-0-cm (ls u) (ls q) n;rw[aT];exact this⟩
  rw[<- jP (dv q),r,xX]
 obtain⟨x,ex,xg⟩:=Zj hp z;have dg:=h.deg;have q1:(ls q).getD ((ls q).length-1) 0=1:=h.mo;have pd:p ∣ (((ls q).length-1:Nat):Int):=by refine cE λc=>?_;rw[Tf hp z _ c]at q1;exact absurd q1 (by decide)
 obtain⟨k,hk⟩:=pd;have k0:0<k:=by refine Int.not_le.mp λh=>?_;have:=b8 (show 0<=p by lia) h;lia
 have e1:((p.toNat:Nat):Int)=p:=bn (by lia);have e2:((k.toNat:Nat):Int)=k:=bn (by lia);have en:(ls q).length-1=p.toNat*k.toNat:=by
  have:((p.toNat*k.toNat:Nat):Int)=p*k:=by rw[fq,e1,e2]
  lia
 have x1:(ls x).getD k.toNat 0=1:=by rw[xg,<- en];exact q1
 have xl:(ls x).length<=k.toNat+1:=m9 (kO x).form λn hn=>by rw[xg];refine jw ?_;have:p.toNat*(k.toNat+1)<=p.toNat*n:=iV _ hn;rw[jd]at this;lia
 have xl2:k.toNat<(ls x).length:=c6 λc=>by rw[jw c]at x1;exact absurd x1 (by decide)
 have le:(ls x).length-1=k.toNat:=by lia
 have mx:Mo x:=by show(ls x).getD ((ls x).length-1) 0=1;rw[le];exact x1
 obtain⟨m,hm⟩:∃m,p.toNat=m+1+1:=⟨p.toNat-2,by lia⟩;have l2:=mx.vH p2 (m+1);rw[le]at l2;have e3:q=x^(m+1)*x:=by rw[ex,hm];rfl
 rcases h.no _ _ (mx.pow p2 _) mx e3 with c|c
 ·rw[c,vV p2]at l2;have:1=(m+1)*k.toNat+1:=l2;have:0<(m+1)*k.toNat:=Nat.mul_pos (by lia) (by lia);lia
 ·rw[c,vV p2]at le;have:1-1=k.toNat:=le;lia
end Pl
namespace Pl
variable {p:Int}
structure vP (L:List (Pl p×Nat)):Prop where
 ap:Apart L
 sep:∀q∈L,nA q.1 (dv q.1)
 mo:∀q∈L,Mo q.1
 dg:∀q∈L,1<(ls q.1).length
def qt (p:Int)(f d:List Int):List Int:=((Yt p f d).getD ([],[])).1
theorem Fp (hp:jL p){u d:Pl p}(mu:Mo u)(md:Mo d):Yt p (ls (u*d)) (ls d)=some (ls u,[]):=by
 have g1:Int.gcd (jx (ls d)) p=1:=by rw[show jx (ls d)=1 from md];exact g9 ..
 obtain⟨h1,h2⟩:=JV (z:=p) (ov:=Sx p) (f:=ls (u*d)) (d:=ls d) md.pos (λa c ha hc=>hov hp.1 g1 a c ha hc) ((ls (u*d)).length+1) _ _ (xJ.start (kO (u*d)).form (kO (u*d)).red) (c5 _);unfold Yt;cases o:Ql p (Sx p) (ls d) ((ls (u*d)).length+1) (List.replicate ((ls (u*d)).length+1-(ls d).length) 0) (ls (u*d)) with
 |none=>obtain⟨_,_,_,_,z⟩:=h2 o;cases z
 |some x=>obtain⟨q,r⟩:=x;obtain⟨I,hl⟩:=h1 q r o;obtain⟨e1,e2⟩:=quo (u:=u) hp.1 I hl mu (by rw[jP];exact md) (kO _) (kO _) (by rw[jP,jP]);rw[e1,e2]
theorem RZ (hp:jL p){u d:Pl p}(mu:Mo u)(md:Mo d):qt p (ls (u*d)) (ls d)=ls u:=by unfold qt;rw[Fp hp mu md];rfl
theorem Jz {a b d:Pl p}(h:Gd a b d)(m:Mo d):gc p (ls a) (ls b)=ls d:=HH (aaK (by rw[jP,jP];exact h) m)
def Fj (p:Int)(f:List Int):Nat->List Int×List Int
 |0=>(gc p f (Tz p (dl f)),qt p f (gc p f (Tz p (dl f))))
 |e+1=>(qt p (Fj p f e).1 (gc p (Fj p f e).2 (Fj p f e).1),gc p (Fj p f e).2 (Fj p f e).1)
def Hc (p:Int)(f:List Int)(e:Nat):List Int:=qt p (Fj p f e).2 (gc p (Fj p f e).2 (Fj p f e).1)
theorem abn (x:Pl p):ls (dv x)=Tz p (dl (ls x)):=by rw[<- qj,<- Bx,jP]
theorem vP.pr {L:List (Pl p×Nat)}(F:vP L)(p2:2<=p)(g:Nat->Nat):Mo (Pr L g):=Mo.pr p2 F.mo
theorem Ah (hp:jL p)(hinv:∀x:Int,¬p ∣ x->∃t,p ∣ t*x-1){L:List (Pl p×Nat)}(F:vP L)(g:Nat->Nat):∀e,Fj p (ls (Pr L g)) e=(ls (Pr L (tD p g (e+1))),ls (Pr L (qP p g (e+1))))
 |0=>by
  have p2:2<=p:=hp.1;have e1:gc p (ls (Pr L g)) (Tz p (dl (ls (Pr L g))))=ls (Pr L (tD p g 1)):=by rw[<- abn];exact Jz (aaQ hinv F.ap F.sep g) (F.pr p2 _)
  have e2:qt p (ls (Pr L g)) (ls (Pr L (tD p g 1)))=ls (Pr L (qP p g 1)):=by
   conv=>lhs;rw[Yh L g]
   exact RZ hp (F.pr p2 _) (F.pr p2 _)
  show(gc p (ls (Pr L g)) (Tz p (dl (ls (Pr L g)))),qt p (ls (Pr L g)) (gc p (ls (Pr L g)) (Tz p (dl (ls (Pr L g))))))=_;rw[e1,e2]
 |e+1=>by
  have p2:2<=p:=hp.1;have ih:=Ah hp hinv F g e;have e1:gc p (ls (Pr L (qP p g (e+1)))) (ls (Pr L (tD p g (e+1))))=ls (Pr L (qP p g (e+1+1))):=Jz (R4 F.ap g (e+1)) (F.pr p2 _);have e2:qt p (ls (Pr L (tD p g (e+1)))) (ls (Pr L (qP p g (e+1+1))))=ls (Pr L (tD p g (e+1+1))):=by
   conv=>lhs;rw[XX L g (e+1)]
   exact RZ hp (F.pr p2 _) (F.pr p2 _)
  show(qt p (Fj p (ls (Pr L g)) e).1 (gc p (Fj p (ls (Pr L g)) e).2 (Fj p (ls (Pr L g)) e).1),gc p (Fj p (ls (Pr L g)) e).2 (Fj p (ls (Pr L g)) e).1)=_;rw[ih];rw[e1,e2]
theorem Ei (hp:jL p)(hinv:∀x:Int,¬p ∣ x->∃t,p ∣ t*x-1){L:List (Pl p×Nat)}(F:vP L)(g:Nat->Nat)(e:Nat):Hc p (ls (Pr L g)) e=ls (Pr L (Vz p g (e+1))):=by
 have p2:2<=p:=hp.1;unfold Hc;rw[Ah hp hinv F g e];rw[Jz (R4 F.ap g (e+1)) (F.pr p2 _)]
 conv=>lhs;rw[Yl L g (e+1)]
 exact RZ hp (F.pr p2 _) (F.pr p2 _)
theorem Ru (p2:2<=p){L:List (Pl p×Nat)}(F:vP L){g:Nat->Nat}{e:Nat}(h:(ls (Pr L (qP p g e))).length<=1):(∀q∈L,¬p ∣ (g q.2:Int)->g q.2<e)/\Pr L (tD p g e)=Pr L (λm=>if p ∣ (g m:Int) then g m / p.toNat else 0)^p.toNat:=by
 have k:=mt (oU p2 (g:=qP p g e) F.mo F.dg).mpr (by lia);have lt:∀q∈L,¬p ∣ (g q.2:Int)->g q.2<e:=λq hq hn=>c6 λc=>k ⟨q,hq,by
  unfold qP;rw[ag hn,ah c];decide⟩
 refine⟨lt,?_⟩;rw[<- Va];refine mL λq hq=>?_;unfold tD;by_cases c:p ∣ (g q.2:Int)
 ·rw[ah c,ah c];have e1:((p.toNat:Nat):Int)=p:=bn (by lia);exact(Nat.div_mul_cancel (ft.mp (by rw[e1];exact c))).symm
 ·rw[ag c,ag c];have:=lt q hq c;lia
end Pl
namespace Pl
variable {p:Int}
theorem yf (p2:2<=p):∀{L:List (Pl p×Nat)},(∀q∈L,Mo q.1)->(∀q∈L,1<(ls q.1).length)->∀q∈L,g q.2<(ls (Pr L g)).length
 |[],_,_=>λq h=>by cases h
 |q::L,h,d=>λr hr=>by
  have h1:=h q (af ..);have d1:=d q (af ..);have m2:Mo (Pr L g):=Mo.pr p2 λr hr=>h r (ae _ hr);have hl:=Mo.len p2 (h1.pow p2 (g q.2)) m2;have mp:=m2.pos;rw[Mo.vH p2 h1,<- jR]at hl;rcases aC.mp hr with e|hr
  ·rw[e];have:g q.2*1<=g q.2*((ls q.1).length-1):=iV _ (by lia);lia
  ·have:=yf p2 (g:=g) (λr hr=>h r (ae _ hr)) (λr hr=>d r (ae _ hr)) r hr;lia
def KN (k:Nat)(f:List Int):List Int:=(List.range ((f.length+k-1) / k)).map λi=>f.getD (k*i) 0
theorem UG (hp:jL p){x:Pl p}(m:Mo x):KN p.toNat (ls (x^p.toNat))=ls x:=by
 have p2:2<=p:=hp.1;obtain⟨h1,h2⟩:=Qv hp m;have l:=m.pos;unfold KN;have e:((ls (x^p.toNat)).length+p.toNat-1) / p.toNat=(ls x).length:=by
  rw[h2];have e1:p.toNat*((ls x).length-1)+1+p.toNat-1=(ls x).length*p.toNat:=by obtain⟨n,hn⟩:∃n,(ls x).length=n+1:=⟨(ls x).length-1,by lia⟩;rw[hn,gv,c8];show n*p.toNat+1+p.toNat-1=_;lia
  rw[e1];exact gC _ (by lia)
 rw[e];exact h1
def gk (p:Int):Nat->Nat->Nat
 |0,m=>m
 |k+1,m=>if p ∣ (gk p k m:Int) then gk p k m / p.toNat else 0
def lf (p:Int)(f:List Int):Nat->List Int
 |0=>f
 |k+1=>KN p.toNat (Fj p (lf p f k) (lf p f k).length).1
theorem QD (p2:2<=p){L:List (Pl p×Nat)}(F:vP L)(g:Nat->Nat){e:Nat}(h:(ls (Pr L g)).length<=e):(ls (Pr L (qP p g e))).length<=1:=by
 refine dN λc=>?_;obtain⟨q,hq,k⟩:=(oU p2 F.mo F.dg).mp c;have b:=yf p2 (g:=g) F.mo F.dg q hq;unfold qP at k;by_cases c1:p ∣ (g q.2:Int)
 ·rw[ah c1]at k;exact k rfl
 ·rw[ag c1,ag (by lia)]at k;exact k rfl
theorem uZ (hp:jL p)(hinv:∀x:Int,¬p ∣ x->∃t,p ∣ t*x-1){L:List (Pl p×Nat)}(F:vP L):∀k,lf p (ls (Pr L id)) k=ls (Pr L (gk p k))
 |0=>rfl
 |k+1=>by have ih:=uZ hp hinv F k;show KN p.toNat (Fj p (lf p (ls (Pr L id)) k) (lf p (ls (Pr L id)) k).length).1=_;rw[ih,Ah hp hinv F];rw[(Ru hp.1 F (QD hp.1 F (gk p k) (iK _))).2];exact UG hp (F.pr hp.1 _)
theorem Bk (p2:2<=p):∀k m,gk p k m=if p.toNat^k ∣ m then m / p.toNat^k else 0
 |0,m=>by rw[Nat.pow_zero,ah (Nat.one_dvd m),Nat.div_one];rfl
 |k+1,m=>by
  have e1:((p.toNat:Nat):Int)=p:=bn (by lia);have dv':∀n:Nat,p ∣ (n:Int) ↔ p.toNat ∣ n:=λn=>by rw[<- ft,e1]
  show(if p ∣ (gk p k m:Int) then gk p k m / p.toNat else 0)=_;rw[Bk p2 k m];have pp:0<p.toNat^k:=dJ (by lia);by_cases c:p.toNat^k ∣ m
  ·rw[ah c];by_cases c2:p.toNat^(k+1) ∣ m
   ·have c3:p.toNat ∣ m / p.toNat^k:=by rw[fe]at c2;exact(gX c).mpr c2
    rw[ah ((dv' _).mpr c3),ah c2,Nat.div_div_eq_div_mul,<- fe]
   ·have c3:¬p.toNat ∣ m / p.toNat^k:=λh=>c2 (by
     rw[fe];exact(gX c).mp h)
    rw[ag (λh=>c3 ((dv' _).mp h)),ag c2]
  ·have c2:¬p.toNat^(k+1) ∣ m:=λh=>c (Nat.dvd_trans ⟨p.toNat,fe ..⟩ h);rw[ag c,ag c2];by_cases c3:p ∣ ((0:Nat):Int)
   ·rw[ah c3,je]
   ·rw[ag c3]
def ind (c m:Nat):Nat:=if m=c then 1 else 0
theorem Yx (p2:2<=p){k e:Nat}(he:¬p ∣ (e:Int))(m:Nat):Vz p (gk p k) e m=ind (e*p.toNat^k) m:=by
 have pp:0<p.toNat^k:=dJ (by lia);have e0:=XR he;unfold Vz ind;rw[Bk p2 k m];by_cases c:p.toNat^k ∣ m
 ·rw[ah c];have iff:m / p.toNat^k=e ↔ m=e*p.toNat^k:=Nat.div_eq_iff_eq_mul_left pp c;by_cases c2:m / p.toNat^k=e
  ·rw[c2,ag he,ah rfl,ah (iff.mp c2)]
  ·rw[ag (λh=>c2 (iff.mpr h))];by_cases c3:p ∣ ((m / p.toNat^k:Nat):Int)
   ·rw[ah c3]
   ·rw[ag c3,ag c2]
 ·rw[ag c,ah (show p ∣ ((0:Nat):Int) from aQ p),ag λh=>c ⟨e,by rw[h,c8]⟩]
theorem XH {k e:Nat}(he:p ∣ (e:Int))(g:Nat->Nat)(m:Nat):Vz p g e m=0:=by
 unfold Vz;by_cases c:p ∣ (g m:Int)
 ·rw[ah c]
 ·rw[ag c];by_cases c2:g m=e
  ·rw[c2]at c;exact absurd he c
  ·rw[ag c2]
theorem RJ (hp:jL p)(hinv:∀x:Int,¬p ∣ x->∃t,p ∣ t*x-1){L:List (Pl p×Nat)}(F:vP L){k e:Nat}(he:¬p ∣ ((e+1:Nat):Int)):Hc p (lf p (ls (Pr L id)) k) e=ls (Pr L (ind ((e+1)*p.toNat^k))):=by rw[uZ hp hinv F,Ei hp hinv F];exact congrArg ls (mL λq _=>Yx hp.1 he q.2)
theorem Xc (hp:jL p)(hinv:∀x:Int,¬p ∣ x->∃t,p ∣ t*x-1){L:List (Pl p×Nat)}(F:vP L){k e:Nat}(he:p ∣ ((e+1:Nat):Int)):Hc p (lf p (ls (Pr L id)) k) e=[1]:=by
 rw[uZ hp hinv F,Ei hp hinv F,mL (h:=λ_=>0) λq _=>XH (k:=k) he _ q.2];have z:∀L:List (Pl p×Nat),Pr L (λ_=>0)=1:=λL=>by
  induction L with
  |nil=>rfl
  |cons q L ih=>rw[jR,ih];exact one_mul 1
 rw[z,vV hp.1]
end Pl
namespace Pl
variable {p:Int}
theorem Fe (hp:jL p){x:Pl p}(m:Mo x)(l:(ls x).length<=200):Hb p (ls x):=⟨hp,l,by rw[sW];exact m.ne,by rw[sW,show jx (ls x)=1 from m];exact g9 ..⟩
theorem YH (hp:jL p){x u d:Pl p}(e:x=u*d)(mu:Mo u)(md:Mo d):uH p (Tz p (ls x)) (Tz p (ls d))=.tup [.ints (ls u),.ints []]:=by unfold uH;rw[sW,sW,e,Fp hp mu md]
def prs (p:Int)(f:List Int)(N:Nat):List PV:=(List.range N).filterMap λe=>if 1<(Hc p f e).length then some (.tup [.ints (Hc p f e),.int ((e:Int)+1)]) else none
def Dh (p:Int)(f:List Int):PV:=.tup [.lst (prs p f f.length),.ints (Fj p f f.length).1]
theorem Aa (p:Int)(f:Li)(N:Nat):prs p f (N+1)=prs p f N++if 1<(Hc p f N).length then[.tup [.ints (Hc p f N),.int ((N:Int)+1)]] else[]:=by
 unfold prs;rw[iu,List.filterMap_append];congr 1;rw[aZ,List.filterMap_nil];by_cases c:1<(Hc p f N).length
 ·rw[ah c,ah c]
 ·rw[ag c,ag c]
theorem Jm (p2:2<=p){L:List (Pl p×Nat)}(F:vP L){g:Nat->Nat}{e n:Nat}(h:(ls (Pr L (qP p g e))).length<=1)(hn:e<=n):¬1<(ls (Pr L (Vz p g n))).length/\Pr L (tD p g n)=Pr L (tD p g e):=by
 have lt:=(Ru p2 F h).1;refine⟨λc=>?_,mL λq hq=>?_⟩
 ·obtain⟨q,hq,k⟩:=(oU p2 F.mo F.dg).mp c;unfold Vz at k;by_cases c1:p ∣ (g q.2:Int)
  ·rw[ah c1]at k;exact k rfl
  ·have:=lt q hq c1;rw[ag c1,ag (by lia)]at k;exact k rfl
 ·unfold tD;by_cases c1:p ∣ (g q.2:Int)
  ·rw[ah c1,ah c1]
  ·have:=lt q hq c1;rw[ag c1,ag c1];lia
theorem JP (hp:jL p){L:List (Pl p×Nat)}(F:vP L){g:Nat->Nat}{e:Nat}(h:(ls (Pr L (qP p g (e+1)))).length<=1):∀n,prs p (ls (Pr L g)) (e+n)=prs p (ls (Pr L g)) e
 |0=>rfl
 |n+1=>by rw[<- Nat.add_assoc,Aa,JP hp F h n,Ei hp (λx hx=>lM hp hx) F,ag (Jm hp.1 F h (by lia)).1,bh]
theorem Wv (hp:jL p){L:List (Pl p×Nat)}(F:vP L){g:Nat->Nat}{e:Nat}(h:(ls (Pr L (qP p g (e+1)))).length<=1)(he:e<=(ls (Pr L g)).length):Dh p (ls (Pr L g))=.tup [.lst (prs p (ls (Pr L g)) e),.ints (ls (Pr L (tD p g (e+1))))]:=by unfold Dh;obtain⟨n,hn⟩:∃n,(ls (Pr L g)).length=e+n:=⟨(ls (Pr L g)).length-e,by lia⟩;rw[hn,JP hp F h,Ah hp (λx hx=>lM hp hx) F];rw[(Jm hp.1 F h (show e+1<=e+n+1 by lia)).2]
def scP (c:Int):PV->PV
 | .tup [a,.int e]=>.tup [a,.int (e*c)]
 |q=>q
def UT (p:Int)(f:List Int)(k:Nat):List PV:=(prs p (lf p f k) (lf p f k).length).map (scP (p^k))
def pC (p:Int)(f:List Int):Nat->List PV
 |0=>[]
 |k+1=>pC p f k++UT p f k
def TT (L:List (Pl p×Nat))(c:Nat):PV:=.tup [.ints (ls (Pr L (ind c))),.int (c:Int)]
def Hm (L:List (Pl p×Nat)):List PV:=((List.range 31).filter λc=>decide (1<(ls (Pr L (ind c))).length)).map (TT L)
theorem Ed (p2:2<=p)(k:Nat):((p.toNat^k:Nat):Int)=p^k:=by rw[Int.natCast_pow,bn (by lia)]
theorem Fz (hp:jL p){L:List (Pl p×Nat)}(F:vP L){k:Nat}:q∈UT p (ls (Pr L id)) k ↔ ∃e,e<(lf p (ls (Pr L id)) k).length/\¬p ∣ ((e+1:Nat):Int)/\1<(ls (Pr L (ind ((e+1)*p.toNat^k)))).length/\q=TT L ((e+1)*p.toNat^k):=by
 have hinv:=λx hx=>lM hp (x:=x) hx;have p2:2<=p:=hp.1;have cast:∀e:Nat,(((e+1)*p.toNat^k:Nat):Int)=((e:Int)+1)*p^k:=λe=>by rw[fq,Ed p2];rfl
 unfold UT prs;rw[aX];constructor
 ·rintro⟨r,hr,rfl⟩;obtain⟨e,he,hq⟩:=cI.mp hr;rw[a7]at he;by_cases c:1<(Hc p (lf p (ls (Pr L id)) k) e).length
  ·rw[ah c]at hq;have nd:¬p ∣ ((e+1:Nat):Int):=λz=>by rw[Xc hp hinv F z]at c;exact absurd c (by decide)
   rw[RJ hp hinv F nd]at c hq;refine⟨e,he,nd,c,?_⟩;cases hq;unfold TT;rw[cast];rfl
  ·rw[ag c]at hq;cases hq
 ·rintro⟨e,he,nd,c,rfl⟩;refine⟨.tup [.ints (Hc p (lf p (ls (Pr L id)) k) e),.int ((e:Int)+1)],cI.mpr ⟨e,a7.mpr he,?_⟩,?_⟩
  ·rw[RJ hp hinv F nd,ah c]
  ·rw[RJ hp hinv F nd];unfold TT;rw[cast];rfl
theorem yX (hp:jL p){L:List (Pl p×Nat)}(F:vP L):∀{K:Nat},q∈pC p (ls (Pr L id)) K ↔ ∃k e,k<K/\e<(lf p (ls (Pr L id)) k).length/\¬p ∣ ((e+1:Nat):Int)/\1<(ls (Pr L (ind ((e+1)*p.toNat^k)))).length/\q=TT L ((e+1)*p.toNat^k)
 |0=>by
  constructor
  ·intro h;cases h
  ·rintro⟨k,e,h,_⟩;lia
 |K+1=>by
  show q∈pC p (ls (Pr L id)) K++UT p (ls (Pr L id)) K ↔ _;rw[cV,yX hp F (K:=K),Fz hp F];constructor
  ·rintro (⟨k,e,h,r⟩|⟨e,r⟩)
   ·exact⟨k,e,by lia,r⟩
   ·exact⟨K,e,by lia,r⟩
  ·rintro⟨k,e,h,r⟩;by_cases c:k=K
   ·subst c;exact .inr ⟨e,r⟩
   ·exact .inl ⟨k,e,by lia,r⟩
theorem FN (L:List (Pl p×Nat))(c:Nat):qz (TT L c)=(c:Int):=rfl
theorem Zk (hp:jL p){L:List (Pl p×Nat)}(F:vP L)(k:Nat):((UT p (ls (Pr L id)) k).map qz).Nodup:=by
 have p2:2<=p:=hp.1;unfold UT prs;rw[bE,List.Nodup,cT,List.pairwise_filterMap];refine hV.imp λ{a b} hab x hx y hy=>?_;have shape:∀(e:Nat) (z:PV),(if 1<(Hc p (lf p (ls (Pr L id)) k) e).length then some (PV.tup [.ints (Hc p (lf p (ls (Pr L id)) k) e),.int ((e:Int)+1)]) else none)=some z->(qz ∘ scP (p^k)) z=((e:Int)+1)*p^k:=λe z h=>by
  split at h
  ·cases h;rfl
  ·cases h
 rw[shape a x hx,shape b y hy];have pp:p^k≠0:=Int.pow_ne_zero (by lia);intro z;have:=Int.eq_of_mul_eq_mul_right pp z;lia
theorem La (hp:jL p){L:List (Pl p×Nat)}(F:vP L):∀K,((pC p (ls (Pr L id)) K).map qz).Nodup
 |0=>List.Pairwise.nil
 |K+1=>by
  show((pC p (ls (Pr L id)) K++UT p (ls (Pr L id)) K).map qz).Nodup;rw[bK,gM];refine⟨La hp F K,Zk hp F K,λa ha b hb z=>?_⟩;obtain⟨x,hx,rfl⟩:=aX.mp ha;obtain⟨y,hy,rfl⟩:=aX.mp hb;obtain⟨k,e,hk,_,nd,_,rfl⟩:=(yX hp F).mp hx;obtain⟨e',_,_,_,rfl⟩:=(Fz hp F).mp hy;rw[FN,FN]at z;have z:(e+1)*p.toNat^k=(e' + 1)*p.toNat^K:=Int.ofNat.inj z;have p2:2<=p:=hp.1;have pp:0<p.toNat^k:=dJ (by lia);obtain⟨m,rfl⟩:∃m,K=k+(m+1):=⟨K-k-1,by lia⟩;have z2:e+1=(e' + 1)*p.toNat^m*p.toNat:=by refine Nat.eq_of_mul_eq_mul_right pp ?_;rw[z,ji,fe];rw[c8 (p.toNat^k),gP (e' + 1),<- gP (e' + 1) (p.toNat^m*p.toNat)]
  refine nd ?_;rw[z2,fq,bn (by lia)];exact Int.dvd_mul_left ..
theorem Wn:∀(n:Nat) (p2:2<=p),n≠0->∃e k,n=(e+1)*p.toNat^k/\¬p ∣ ((e+1:Nat):Int):=by
 intro n p2
 induction n using Nat.strongRecOn with
 |ind n ih=>
  intro h;by_cases c:p ∣ (n:Int)
  ·have c2:p.toNat ∣ n:=by rw[<- ft,bn (by lia)];exact c
   obtain⟨m,hm⟩:=c2;have m0:m≠0:=λz=>h (by rw[hm,z,Nat.mul_zero]);have lt:m<n:=by rw[hm];have:2*m<=p.toNat*m:=fS _ (by lia);lia
   obtain⟨e,k,h1,h2⟩:=ih m lt m0;exact⟨e,k+1,by rw[hm,h1,fe,c8 p.toNat,gP],h2⟩
  ·exact⟨n-1,0,by rw[Nat.pow_zero,Nat.mul_one];lia,by rw[Nat.sub_add_cancel (by lia)];exact c⟩
theorem ZW (hp:jL p){L:List (Pl p×Nat)}(F:vP L)(nz:∀q∈L,q.2≠0)(hl:(ls (Pr L id)).length<=31){K:Nat}(hK:(lf p (ls (Pr L id)) K).length<=1):(Hm L).Perm (pC p (ls (Pr L id)) K)/\(Hm L).Pairwise (λa b=>qz a<qz b):=by
 have hinv:=λx hx=>lM hp (x:=x) hx;have p2:2<=p:=hp.1;have ord:(Hm L).Pairwise (λa b=>qz a<qz b):=by unfold Hm;rw[cT];exact(hV.filter _).imp λ{a b} h=>by rw[FN,FN];lia
 refine⟨?_,ord⟩;have n1:(Hm L).Nodup:=ord.imp λ{a b} h z=>by rw[z]at h;lia
 have n2:(pC p (ls (Pr L id)) K).Nodup:=by have:=La hp F K;rw[List.Nodup,cT]at this;exact this.imp λ{a b} h z=>h (by rw[z])
 refine(List.perm_ext_iff_of_nodup n1 n2).mpr λq=>?_;rw[yX hp F];unfold Hm;rw[aX];constructor
 ·rintro⟨c,hc,rfl⟩;obtain⟨hr,hd⟩:=aU.mp hc;have hd:=bU hd;obtain⟨r,hr2,hz⟩:=(oU p2 F.mo F.dg).mp hd;have ec:r.2=c:=by
   unfold ind at hz;by_cases z:r.2=c
   ·exact z
   ·rw[ag z]at hz;exact absurd rfl hz
  have c0:c≠0:=by rw[<- ec];exact nz r hr2
  obtain⟨e,k,h1,h2⟩:=Wn c p2 c0;have pp:0<p.toNat^k:=dJ (by lia);have gkc:gk p k r.2=e+1:=by rw[Bk p2,ec,h1,ah ⟨e+1,c8 ..⟩,gC _ pp]
  have big:=yf p2 (g:=gk p k) F.mo F.dg r hr2;rw[gkc,<- uZ hp hinv F]at big;refine⟨k,e,?_,by lia,h2,by rw[<- h1];exact hd,by rw[<- h1]⟩;refine c6 λhKk=>?_;rw[uZ hp hinv F]at hK;have:=mt (oU p2 (g:=gk p K) F.mo F.dg).mpr (by lia);refine this ⟨r,hr2,?_⟩;have dv':p.toNat^K ∣ r.2:=by rw[ec,h1];exact Nat.dvd_trans (Nat.pow_dvd_pow _ hKk) ⟨e+1,c8 ..⟩
  rw[Bk p2,ah dv'];have:0<r.2 / p.toNat^K:=Nat.div_pos (Nat.le_of_dvd (by have:=nz r hr2;lia) dv') (dJ (by lia));lia
 ·rintro⟨k,e,hk,he,nd,hd,rfl⟩;refine⟨_,aU.mpr ⟨a7.mpr ?_,aK hd⟩,rfl⟩;obtain⟨r,hr2,hz⟩:=(oU p2 F.mo F.dg).mp hd;have ec:r.2=(e+1)*p.toNat^k:=by
   unfold ind at hz;by_cases z:r.2=(e+1)*p.toNat^k
   ·exact z
   ·rw[ag z]at hz;exact absurd rfl hz
  have big:=yf p2 (g:=id) F.mo F.dg r hr2;have big:r.2<(ls (Pr L id)).length:=big;lia
theorem Xm (hp:jL p){L:List (Pl p×Nat)}(F:vP L){k:Nat}(h:(lf p (ls (Pr L id)) k).length<=1):UT p (ls (Pr L id)) k=[]:=by
 refine List.eq_nil_iff_forall_not_mem.mpr λq hq=>?_;have hinv:=λx hx=>lM hp (x:=x) hx;obtain⟨e,he,nd,hd,_⟩:=(Fz hp F).mp hq;obtain⟨r,hr2,hz⟩:=(oU hp.1 F.mo F.dg).mp hd;have ec:r.2=(e+1)*p.toNat^k:=by
  unfold ind at hz;by_cases z:r.2=(e+1)*p.toNat^k
  ·exact z
  ·rw[ag z]at hz;exact absurd rfl hz
 have p2:2<=p:=hp.1;rw[uZ hp hinv F]at h;have:=mt (oU hp.1 (g:=gk p k) F.mo F.dg).mpr (by lia);refine this ⟨r,hr2,?_⟩;rw[Bk hp.1,ec,ah ⟨e+1,c8 ..⟩,gC _ (dJ (by lia))];lia
theorem IW (hp:jL p){L:List (Pl p×Nat)}(F:vP L){k:Nat}(h:1<(lf p (ls (Pr L id)) k).length):k<(ls (Pr L id)).length:=by
 have hinv:=λx hx=>lM hp (x:=x) hx;have p2:2<=p:=hp.1;rw[uZ hp hinv F]at h;obtain⟨r,hr2,hz⟩:=(oU p2 F.mo F.dg).mp h;have big:r.2<(ls (Pr L id)).length:=yf p2 (g:=id) F.mo F.dg r hr2;rw[Bk p2]at hz;by_cases c:p.toNat^k ∣ r.2
 ·by_cases r0:r.2=0
  ·rw[ah c,r0,je]at hz;exact absurd rfl hz
  have h1:=Nat.le_of_dvd (by lia) c;have h2:k<p.toNat^k:=aD Nat.lt_two_pow_self (iW (by lia) k);lia
 ·rw[ag c]at hz;exact absurd rfl hz
theorem Zv (hp:jL p)(mx:Mo x)(hl:(ls x).length<=100):∃L:List (Pl p×Nat),vP L/\(∀q∈L,q.2≠0)/\x=Pr L id:=by obtain⟨L,h1,h2,h3⟩:=NB hp mx;refine⟨L,⟨?_,λq hq=>Ol hp (h1 q hq).1 (by have:=(h1 q hq).2.1;lia),λq hq=>(h1 q hq).1.mo,λq hq=>(h1 q hq).1.deg⟩,λq hq=>(h1 q hq).2.2,h3⟩;exact gN (λ{a b} ha hb ne=>(h1 a ha).1.cop hp (h1 b hb).1 (by have:=(h1 b hb).2.1;lia) ne) h2
end Pl
open Pl in
theorem Tn (p:Int)(f:Li):j7 (((f.mapIdx λk n=>(k:Int)*n).drop 1).map (pl p))=Tz p (dl f):=by
 unfold Tz;refine GJ λn=>?_;rw[sJ];congr 1;have e:((f.mapIdx λk n=>(k:Int)*n).drop 1).getD n 0=(f.mapIdx λk n=>(k:Int)*n).getD (n+1) 0:=by rw[gQ,gQ,dS,ia]
 rw[e];by_cases c:n+1<f.length
 ·rw[jE (by rw[cj];exact c),List.getElem_mapIdx,jE c];congr 1
 ·rw[jw (by rw[cj];lia),jw (by lia),aW]
open Pl in
theorem xU (T:Top K mg cFE cNO cNN cK cR):Ok P w K mg base 6 "seen_by_slope" ["kind","f"] (ym K (Gr cR) (λas=>∃(p:Int) (L:List (Pl p×Nat)) (g:Nat->Nat),as=[.ob 0 p,.ints (ls (Pr L g))]/\jL p/\vP L/\(ls (Pr L g)).length<=100) λas=>match as with
  |[.ob 0 p,.ints f]=>Dh p f
  |_=>.non):=by
 refine xO T.yO jO (λas ⟨a,b,c,h,_⟩=>by rw[h];rfl) (λf cdv A outer s H E hr=>⟨_,(jn (jG (i:=2) jO.nd rfl (Or.inl rfl) (j9 (tH (xZ T) hr (jm (xv 0) (jm (xl 1) (jm (j9 (tH (QZ T) hr (jm (xv 0) (jm (xl 1) jq)))) jq))))))
 (jn (jG (i:=3) jO.nd rfl (Or.inl rfl) (xl_of (jH (xc (ou T) hr (jm (xv 0) (jm (xl 1) (jm (xl 2) jq)))) jo (λ_ _=>rfl))))
 (jn (qx (i:=4) jO.nd rfl (Or.inl rfl) (sE jq))
 (jn (jA (i:=5) jO.nd rfl (Or.inl rfl) jo)
 (jn (nq aO (uV (kY 3 T.j6) jo)
 (jn (jG (i:=6) jO.nd rfl (Or.inl rfl) (j9 (tH (xZ T) hr (jm (xv 0) (jm (xl 3) (jm (xl 2) jq))))))
 (jn (jG (i:=7) jO.nd rfl (Or.inl rfl) (xl_of (jH (xc (ou T) hr (jm (xv 0) (jm (xl 3) (jm (xl 6) jq)))) jo (λ_ _=>rfl))))
 (tK (lQ (uV (kY 7 T.j6) jo)
 (jt (rP 4 (rQ (jm (xl 7) (jm (xn 5) jq)))))
 kW)
 (jn (jG (i:=2) jO.nd rfl (Or.inl rfl) (xl_of (jH (xc (ou T) hr (jm (xv 0) (jm (xl 2) (jm (xl 6) jq)))) jo (λ_ _=>rfl))))
 (jn (jG (i:=3) jO.nd rfl (Or.inl rfl) (xl 6))
 (jt (zb (i:=5) jO.nd rfl (Or.inl rfl) jo tU))))))))
 (lG 4 (jt (jD (rQ (jm (xv 4) (jm (xl 2) jq))))))))))),λas hp=>?_⟩)
 obtain⟨p,L,g,rfl,hp,F,hl⟩:=hp;have p2:2<=p:=hp.1;have hinv:=λx hx=>lM hp (x:=x) hx;have st:=Ah hp hinv F g;have sg:=Ei hp hinv F g;have fin:=λe=>Wv (e:=e) (g:=g) hp F;have far:=λe=>QD (e:=e) p2 F g;have mo:=λh:Nat->Nat=>F.pr p2 h;have go:=Yh (p:=p) L g;have gdE:=λe=>R4 F.ap g e;have ly:=λe=>Yl (p:=p) L g e;have dp:=λe=>XX (p:=p) L g e;have lenD:∀e,(ls (Pr L (tD p g e))).length<=(ls (Pr L g)).length/\(ls (Pr L (qP p g e))).length<=(ls (Pr L g)).length:=by
  have le:∀h:Nat->Nat,(∀q∈L,h q.2<=g q.2)->(ls (Pr L h)).length<=(ls (Pr L g)).length:=λh hh=>by have e:=Ai (L:=L) (g:=g) (h:=h) hh;have:=Mo.len p2 (mo λm=>g m-h m) (mo h);rw[<- e]at this;have:=(mo λm=>g m-h m).pos;lia
  refine λe=>⟨le _ λq _=>?_,le _ λq _=>?_⟩
  ·unfold tD;split<;>lia
  ·unfold qP;split
   ·lia
   ·rename_i c;split
    ·have:g q.2≠0:=λz=>c (by rw[z];exact aQ p);lia
    ·lia
 have s0:=st 0;have e1:=(Prod.mk.inj s0).1;generalize hf:ls (Pr L g)=f at *
 have sl:=aJ (Dz ((((f.mapIdx λk n=>(k:Int)*n).drop 1).map (pl p)))) (show _<=f.length by rw[aa,a9,cj];lia);refine⟨⟨⟨rfl,rfl,⟨⟨rfl,rfl,tJ⟩,p,f,rfl,by lia⟩,tJ⟩,p,f,j7 (((f.mapIdx λk n=>(k:Int)*n).drop 1).map (pl p)),rfl,hp,by lia,by lia⟩,λd ed=>?_⟩;have ed:d=ls (Pr L (tD p g 1)):=by have ed:d=gc p f (j7 (((f.mapIdx λk n=>(k:Int)*n).drop 1).map (pl p))):=ed;rw[ed,Tn,e1]
 have l1:=lenD 1;have dvq:∀{x u y:Pl p},x=u*y->Mo u->Mo y->oY (uH p (Tz p (ls x)) (Tz p (ls y))) 0/\lX (uH p (Tz p (ls x)) (Tz p (ls y))) 0=.ints (ls u):=λe mu my=>by rw[YH hp e mu my];exact⟨⟨by show(-2:Int)<=0;decide,by show(0:Int)<2;decide⟩,rfl⟩
 have q0:=dvq go (mo _) (mo _);rw[hf,<- ed]at q0;refine⟨⟨⟨⟨⟨rfl,rfl,rfl,tJ⟩,p,f,d,rfl,by rw[ed];exact Fe hp (mo _) (by lia),by lia⟩,tJ,q0.1⟩,?_⟩,λy ey=>?_⟩
 ·show lX (uH p (Tz p f) (Tz p d)) 0=.ints (kJ (lX (uH p (Tz p f) (Tz p d)) 0));rw[q0.2];rfl
 have ey:y=ls (Pr L (qP p g 1)):=by have ey:y=kJ (lX (uH p (Tz p f) (Tz p d)) 0):=ey;rw[q0.2]at ey;exact ey
 refine⟨tJ,λl0 el0=>⟨tJ,λo0 eo0=>?_⟩⟩;have eo0:o0=1:=eo0;refine⟨λZ=>∃(e:Nat) (v6 v7:Sl),Z=[.fr (.ob 0 p),.fr (.ints f),.fr (.ints (ls (Pr L (tD p g (e+1))))),.fr (.ints (ls (Pr L (qP p g (e+1))))),.ow (.lst (prs p f e)),.fr (.int ((e:Int)+1)),v6,v7]/\e<=f.length,λZ=>((f.length:Int)+1-yl Z 5).toNat,⟨0,.un,.un,by rw[ed,ey,el0,eo0];rfl,bq _⟩,?_⟩;rintro Z ⟨e,v6,v7,rfl,he⟩;have le1:=lenD (e+1);have le2:=lenD (e+1+1);refine⟨⟨.inl rfl,tJ⟩,λk=>?_,λk=>?_⟩
 ·have k:((ls (Pr L (qP p g (e+1)))).length:Int) > 1:=k;have lt:e+1<f.length:=c6 λz=>by have:=far (e+1) z;lia
  refine⟨⟨⟨rfl,rfl,rfl,tJ⟩,p,ls (Pr L (qP p g (e+1))),ls (Pr L (tD p g (e+1))),rfl,hp,by lia,by lia⟩,λnl enl=>?_⟩;have enl:nl=ls (Pr L (qP p g (e+1+1))):=by have enl:nl=gc p (ls (Pr L (qP p g (e+1)))) (ls (Pr L (tD p g (e+1)))):=enl;rw[enl];exact Jz (gdE (e+1)) (mo _)
  have q1:=dvq (ly (e+1)) (mo _) (mo _);have q2:=dvq (dp (e+1)) (mo _) (mo _);have ok:=Fe hp (mo (qP p g (e+1+1))) (by lia);rw[<- enl]at q1 q2 ok;refine⟨⟨⟨⟨⟨rfl,rfl,rfl,tJ⟩,p,ls (Pr L (qP p g (e+1))),nl,rfl,ok,by lia⟩,tJ,q1.1⟩,?_⟩,λgg eg=>?_⟩
  ·show lX (uH p (Tz p (ls (Pr L (qP p g (e+1))))) (Tz p nl)) 0=.ints (kJ (lX (uH p (Tz p (ls (Pr L (qP p g (e+1))))) (Tz p nl)) 0));rw[q1.2];rfl
  have eg:gg=Hc p f e:=by have eg:gg=kJ (lX (uH p (Tz p (ls (Pr L (qP p g (e+1))))) (Tz p nl)) 0):=eg;rw[q1.2]at eg;rw[sg];exact eg
  refine lF (Z':=[.fr (.ob 0 p),.fr (.ints f),.fr (.ints (ls (Pr L (tD p g (e+1))))),.fr (.ints (ls (Pr L (qP p g (e+1))))),.ow (.lst (prs p f e)),.fr (.int ((e:Int)+1)),.fr (.ints nl),.fr (.ints gg)]) rfl ?_;have pl1:(prs p f e).length<sizeLine:=by refine small1000 ?_;unfold prs;have:=gO (λe=>if 1<(Hc p f e).length then some (PV.tup [.ints (Hc p f e),.int ((e:Int)+1)]) else none) (List.range e);rw[ao]at this;lia
  refine⟨λZ=>Z=[.fr (.ob 0 p),.fr (.ints f),.fr (.ints (ls (Pr L (tD p g (e+1))))),.fr (.ints (ls (Pr L (qP p g (e+1))))),.ow (.lst (prs p f (e+1))),.fr (.int ((e:Int)+1)),.fr (.ints nl),.fr (.ints gg)],⟨⟨.inl rfl,tJ⟩,λz=>?_,λz=>?_⟩,?_⟩
  ·have z:(gg.length:Int) > 1:=z;refine⟨rfl,⟨rfl,rfl,tJ⟩,pl1,?_⟩;rw[Aa,ah (by rw[<- eg];lia),<- eg];rfl
  ·have z:¬(gg.length:Int) > 1:=z;rw[Aa,ag (by rw[<- eg];lia),bh]
  rintro Z rfl;refine⟨⟨⟨⟨⟨rfl,rfl,rfl,tJ⟩,p,ls (Pr L (tD p g (e+1))),nl,rfl,ok,by lia⟩,tJ,q2.1⟩,?_⟩,λd2 ed2=>?_⟩
  ·show lX (uH p (Tz p (ls (Pr L (tD p g (e+1))))) (Tz p nl)) 0=.ints (kJ (lX (uH p (Tz p (ls (Pr L (tD p g (e+1))))) (Tz p nl)) 0));rw[q2.2];rfl
  have ed2:d2=ls (Pr L (tD p g (e+1+1))):=by have ed2:d2=kJ (lX (uH p (Tz p (ls (Pr L (tD p g (e+1))))) (Tz p nl)) 0):=ed2;rw[q2.2]at ed2;exact ed2
  refine⟨rfl,λy2 ey2=>?_⟩;have ey2:y2=nl:=ey2;refine⟨rfl,tJ,tJ,λo eo=>?_⟩;have eo:o=(e:Int)+1+1:=eo;refine⟨⟨e+1,.fr (.ints nl),.fr (.ints gg),?_,by lia⟩,?_⟩
  ·rw[eo,ed2,ey2,enl];rfl
  ·show((f.length:Int)+1-o).toNat<((f.length:Int)+1-((e:Int)+1)).toNat;lia
 ·have k:¬((ls (Pr L (qP p g (e+1)))).length:Int) > 1:=k;refine⟨⟨rfl,rfl,tJ⟩,?_⟩;show PV.tup [.lst (prs p f e),.ints (ls (Pr L (tD p g (e+1))))]=Dh p f;rw[fin e (by lia) he]
theorem Q4 {α β:Type}{g:α->Option β}{f:α->β}:∀{l:List α},(∀a∈l,g a=some (f a))->l.filterMap g=l.map f
 |[],_=>rfl
 |a::l,h=>by rw[aZ,h a af,bM,Q4 λb hb=>h b (ae _ hb)]
theorem Pz (f:Li)(k:Nat)(hk:0<k):qK f none none (some (k:Int))=Pl.KN k f:=by
 have k1:(k:Int) > 0:=by lia
 have eb:sliceBounds none none (some (k:Int)) f.length=(0,(f.length:Int),(k:Int)):=by show((if (k:Int) > 0 then(0:Int) else(f.length:Int)-1),(if (k:Int) > 0 then(f.length:Int) else -1),(k:Int))=_;rw[ah k1,ah k1]
 unfold qK;rw[eb];have ec:sliceRange 0 (f.length:Int) (k:Int)=(List.range ((f.length+k-1) / k)).map λ(j:Nat)=>((0:Int)+(k:Int)*(j:Int)).toNat:=by
  show(List.range (if (k:Int) > 0 then(if (0:Int)<(f.length:Int) then((f.length:Int)-0+(k:Int)-1) / (k:Int) else 0) else(if (0:Int) > (f.length:Int) then(0-(f.length:Int)-(k:Int)-1) / (-(k:Int)) else 0)).toNat).map _=_;rw[ah k1];congr 1;congr 1;by_cases c:(0:Int)<(f.length:Int)
  ·rw[ah c];have e2:(f.length:Int)-0+(k:Int)-1=((f.length+k-1:Nat):Int):=by lia
   rw[e2,<- Int.natCast_ediv,aE]
  ·rw[ag c];have z:f.length=0:=by lia
   rw[z,ik,Nat.div_eq_of_lt (by lia)];rfl
 rw[ec,List.filterMap_map];unfold Pl.KN;refine Q4 λj hj=>?_;rw[a7]at hj;have lt:k*j<f.length:=by have h1:(j+1)*k<=f.length+k-1:=aJ (fS k hj) (Nat.div_mul_le_self _ _);rw[gv,c8]at h1;lia
 show f[((0:Int)+(k:Int)*(j:Int)).toNat]?=some (f.getD (k*j) 0);have e3:((0:Int)+(k:Int)*(j:Int)).toNat=k*j:=by rw[c9,<- fq,aE]
 rw[e3,ac lt,jE lt]
open Pl in
def JL (p:Int)(f:List Int):PV:=.lst (uX (pC p (qR p (Tz p f)) 40))
open Pl in
theorem W8 (hp:jL p){L:List (Pl p×Nat)}(F:vP L){k:Nat}(h:(lf p (ls (Pr L id)) k).length<=1):(lf p (ls (Pr L id)) (k+1)).length<=1:=by have hinv:=λx hx=>lM hp (x:=x) hx;rw[uZ hp hinv F]at h ⊢;refine dN λc=>?_;obtain⟨q,hq,hz⟩:=(oU hp.1 F.mo F.dg).mp c;have:=mt (oU hp.1 (g:=gk p k) F.mo F.dg).mpr (by lia);refine this ⟨q,hq,λz=>hz ?_⟩;show(if p ∣ (gk p k q.2:Int) then gk p k q.2 / p.toNat else 0)=0;rw[z,je,ite_self]
open Pl in
theorem HN (hp:jL p){L:List (Pl p×Nat)}(F:vP L){k:Nat}(h:(lf p (ls (Pr L id)) k).length<=1):∀n,(lf p (ls (Pr L id)) (k+n)).length<=1/\pC p (ls (Pr L id)) (k+n)=pC p (ls (Pr L id)) k
 |0=>⟨h,rfl⟩
 |n+1=>by obtain⟨h1,h2⟩:=HN hp F h n;refine⟨W8 hp F h1,?_⟩;show pC p (ls (Pr L id)) (k+n)++UT p (ls (Pr L id)) (k+n)=_;rw[h2,Xm hp F h1,bh]
open Pl in
theorem Th (hp:jL p){L:List (Pl p×Nat)}(F:vP L)(k:Nat):(lf p (ls (Pr L id)) k).length<=(ls (Pr L id)).length:=by
 have hinv:=λx hx=>lM hp (x:=x) hx;have p2:=hp.1;rw[uZ hp hinv F];have e:=Ai (L:=L) (g:=id) (h:=gk p k) λq _=>by
  rw[Bk p2];split
  ·exact Nat.div_le_self _ _
  ·exact bq _
 have l:=Mo.len p2 (F.pr p2 λm=>id m-gk p k m) (F.pr p2 (gk p k));rw[<- e]at l;have:=(F.pr p2 λm=>id m-gk p k m).pos;lia
open Pl in
theorem LK (p:Int)(f:Li)(N:Nat):(prs p f N).length<=N:=by unfold prs;have:=gO (λe=>if 1<(Hc p f e).length then some (PV.tup [.ints (Hc p f e),.int ((e:Int)+1)]) else none) (List.range N);rw[ao]at this;exact this
open Pl in
theorem O3 (hp:jL p){L:List (Pl p×Nat)}(F:vP L)(hl:(ls (Pr L id)).length<=31):∀K,(pC p (ls (Pr L id)) K).length<=K*31
 |0=>aq _
 |K+1=>by show(pC p (ls (Pr L id)) K++UT p (ls (Pr L id)) K).length<=_;have h1:=O3 hp F hl K;have h2:=LK p (lf p (ls (Pr L id)) K) (lf p (ls (Pr L id)) K).length;have h3:=Th hp F K;rw[ai];unfold UT;rw[aa];lia
open Pl in
theorem Jk (hp:jL p){L:List (Pl p×Nat)}(F:vP L)(nz:∀q∈L,q.2≠0)(hl:(ls (Pr L id)).length<=31){K:Nat}(hK:(lf p (ls (Pr L id)) K).length<=1):LR (pC p (ls (Pr L id)) K)/\uX (pC p (ls (Pr L id)) K)=Hm L:=by
 obtain⟨h1,h2⟩:=ZW hp F nz hl hK;have nd:=La hp F K;refine⟨⟨?_,λq hq=>?_,nd⟩,I8 h1 (h2.imp λh=>jc h) nd⟩
 ·rw[<- h1.length_eq];unfold Hm;rw[aa];have:=cY (λc=>decide (1<(ls (Pr L (ind c))).length)) (List.range 31);rw[ao]at this;lia
 ·obtain⟨k,e,_,_,_,_,rfl⟩:=(yX hp F).mp hq;exact⟨_,rfl⟩
theorem Sg {p:Int}(p2:2<=p)(p3:p<=9973){k:Nat}(hk:k<=40):(p^k).natAbs<2^600:=by rw[Int.natAbs_pow];have h1:p.natAbs^k<=(2^14)^k:=iW (by lia) k;refine aV h1 ?_;rw[<- Nat.pow_mul];exact bx (by decide) (by lia)
open Pl in
theorem BZ (T:Top K mg cFE cNO cNN cK cR):Ok P w K mg base 8 "free_parts" ["kind","f"] (ym K (Gr cR) (λas=>∃p f,as=[.ob 0 p,.ints f]/\jL p/\f.length<=100/\(qR p (Tz p f)).length<=31/\Tz p f≠[]) λas=>match as with
  |[.ob 0 p,.ints f]=>JL p f
  |_=>.non):=by
 refine aaN T.wI jX T.Gj (λas ⟨a,b,h,_⟩=>by rw[h];rfl) (λf cdv A outer s H E hr hl=>⟨_,(jn (jG (i:=2) jX.nd rfl (Or.inl rfl) (j9 (tH (pA T) hr (jm (xv 0) (jm (j9 (tH (jU T) hr (jm (xv 0) (jm (xl 1) jq)))) jq)))))
 (jn (lQ (qm (wU 2))
 (jt Di)
 kW)
 (jn (qx (i:=3) jX.nd rfl (Or.inl rfl) (sE jq))
 (jn (jA (i:=4) jX.nd rfl (Or.inl rfl) jo)
 (jn (nq aO (uV (kY 2 T.j6) jo)
 (jn (lW (i:=5) jX.nd rfl (Or.inl rfl) (xc (xU T) hr (jm (xv 0) (jm (xl 2) jq))))
 (jn (Jo (k:=6) (j:=7) aO rfl (o6 (jH (xv 5) jo (λ_ _=>rfl))) (pg_tup rfl (pgs_cons (pg_name (i:=6) jX.nd rfl (Or.inl rfl)) (pgs_cons (pg_name (i:=7) jX.nd rfl (Or.inl rfl)) pgs_nil)))
 (jt (rP 3 (rQ (jm (xl 6) (jm (nM (xn 7) (xn 4)) jq))))))
 (jn (jG (i:=2) jX.nd rfl (Or.inl rfl) (j9 (Qa (xl_of (jH (xv 5) jo (λ_ _=>rfl))) pI pI (mJ (Fd (ksz T) (xv 0))) (λ_ _=>.inl rfl))))
 (jt (zb (i:=4) jX.nd rfl (Or.inl rfl) (Fd (ksz T) (xv 0)) T5))))))
 (lG 3 (jt (jD (uK (QQ hl hr T.z6 (xv 3))))))))))),λas hp=>?_⟩)
 obtain⟨p,f,rfl,hp,fl,nl,ne⟩:=hp;have p2:2<=p:=hp.1;have p3:p<=9973:=hp.2.1;have hinv:=λx hx=>lM hp (x:=x) hx;have tzl:=m6 p f;have G:=Az hp (jY p f) (nO p f);have mN:Mo (mk p (qR p (Tz p f))):=by
  show jx (ls (mk p (qR p (Tz p f))))=1;rw[uy ⟨G.form,G.red⟩];rcases G.one with z|z
  ·exfalso;obtain⟨Q,hQ⟩:=G.d1;rw[z]at hQ;refine ne (m5 (jY p f) nR λn=>su (nO p f n) (by show pl p 0=0;exact lO p) ?_);have:=hQ n;rw[jJ,lU,aT]at this;exact this
  ·exact z
 have eN:ls (mk p (qR p (Tz p f)))=qR p (Tz p f):=uy ⟨G.form,G.red⟩;obtain⟨L,F,nz,eL⟩:=Zv hp mN (by rw[eN];lia);rw[eL]at eN;have mo:=λh:Nat->Nat=>F.pr p2 h;have lfe:=uZ hp hinv F;have goal:JL p f=.lst (uX (pC p (ls (Pr L id)) 40)):=by unfold JL;rw[eN]
 rw[<- eN]at nl;have llen:=Th hp F;have alen:=O3 hp F nl;have sh:=λk=>IW (k:=k) hp F;have stop:=λk=>HN (k:=k) hp F;have pok:=λK=>Jk (K:=K) hp F nz nl;have bits:=λk=>Sg (k:=k) p2 p3;have nx1:∀k,lf p (ls (Pr L id)) (k+1)=KN p.toNat (Fj p (lf p (ls (Pr L id)) k) (lf p (ls (Pr L id)) k).length).1:=λk=>rfl;have ax1:∀k,pC p (ls (Pr L id)) (k+1)=pC p (ls (Pr L id)) k++(prs p (lf p (ls (Pr L id)) k) (lf p (ls (Pr L id)) k).length).map (scP (p^k)):=λk=>rfl;have pres:∀k,∃(p':Int) (L':List (Pl p'×Nat)) (g':Nat->Nat),[PV.ob 0 p,.ints (lf p (ls (Pr L id)) k)]=[.ob 0 p',.ints (ls (Pr L' g'))]/\jL p'/\vP L'/\(ls (Pr L' g')).length<=100:=λk=>⟨p,L,gk p k,by rw[lfe],hp,F,by rw[<- lfe];have:=llen k;lia⟩;refine⟨⟨⟨rfl,⟨⟨rfl,rfl,tJ⟩,p,f,rfl,by lia⟩,tJ⟩,p,Tz p f,rfl,hp,by lia,jY p f,nO p f⟩,λx ex=>?_⟩;have ex:x=lf p (ls (Pr L id)) 0:=by have ex:x=qR p (Tz p f):=ex;rw[ex,<- eN];rfl
 refine⟨.inl rfl,λq=>?_,λ_=>?_⟩
 ·rw[ex]at q;exact absurd (mo id).ne q
 refine⟨tJ,λl0 el0=>⟨tJ,λc0 ec0=>?_⟩⟩;have el0:l0=pC p (ls (Pr L id)) 0:=el0;have ec0:c0=p^0:=by rw[jf];exact ec0
 refine lF (Z':=[.fr (.ob 0 p),.fr (.ints f),.fr (.ints x),.ow (.lst l0),.fr (.int c0),.un,.un,.un]) rfl ?_;generalize ls (Pr L id)=x0 at *
 refine⟨λZ=>∃(k:Nat) (v5 v6 v7:Sl),Z=[.fr (.ob 0 p),.fr (.ints f),.fr (.ints (lf p x0 k)),.ow (.lst (pC p x0 k)),.fr (.int (p^k)),v5,v6,v7]/\k<=31,λZ=>(p^32-yl Z 4).toNat,⟨0,.un,.un,.un,by rw[ex,el0,ec0],by lia⟩,?_⟩;rintro Z ⟨k,v5,v6,v7,rfl,hk⟩;have ll:=llen k;refine⟨⟨.inl rfl,tJ⟩,λq=>?_,λq=>?_⟩
 ·have q:((lf p x0 k).length:Int) > 1:=q;have hk1:k+1<=31:=by have:=sh k (by lia);lia
  refine⟨⟨⟨rfl,rfl,tJ⟩,pres k⟩,λfo efo=>?_⟩;have efo:fo=Dh p (lf p x0 k):=efo;have pl2:=LK p (lf p x0 k) (lf p x0 k).length;have pm:∀n∈prs p (lf p x0 k) (lf p x0 k).length,∃(G:List Int) (e:Nat),e<(lf p x0 k).length/\n=.tup [.ints G,.int ((e:Int)+1)]:=λn hn=>by
   unfold prs at hn;obtain⟨e,he,h⟩:=cI.mp hn;split at h
   ·cases h;exact⟨_,e,a7.mp he,rfl⟩
   ·cases h
  have nx:=nx1 k;have ax:=ax1 k;unfold Dh at efo;generalize prs p (lf p x0 k) (lf p x0 k).length=pr at *
  generalize (Fj p (lf p x0 k) (lf p x0 k).length).1=dp at *
  subst efo;refine lF (Z':=[.fr (.ob 0 p),.fr (.ints f),.fr (.ints (lf p x0 k)),.ow (.lst (pC p x0 k)),.fr (.int (p^k)),.fr (.tup [.lst pr,.ints dp]),v6,v7]) rfl ?_;have it0:oY (.tup [.lst pr,.ints dp]) 0:=⟨by show(-2:Int)<=0;decide,by show(0:Int)<2;decide⟩;have it1:oY (.tup [.lst pr,.ints dp]) 1:=⟨by show(-2:Int)<=1;decide,by show(1:Int)<2;decide⟩;have al:=alen k;refine⟨⟨⟨⟨rfl,tJ,it0⟩,rfl⟩,λn hn=>?_⟩,λi Z=>∃v6 v7,Z=[.fr (.ob 0 p),.fr (.ints f),.fr (.ints (lf p x0 k)),.ow (.lst (pC p x0 k++(pr.take i).map (scP (p^k)))),.fr (.int (p^k)),.fr (.tup [.lst pr,.ints dp]),v6,v7],⟨v6,v7,by rw[iJ,dY,bh]⟩,?_,?_⟩
  ·have hn:n∈pr:=hn;obtain⟨G,e,_,rfl⟩:=pm n hn;rfl
  ·rintro i n Z hn ⟨v6,v7,rfl⟩;have hn:pr[i]?=some n:=hn;have hi:i<pr.length:=(aj.mp hn).1;obtain⟨G,e,he,rfl⟩:=pm n (bQ hn);refine⟨rfl,⟨rfl,⟨rfl,rfl,?_⟩,tJ⟩,?_,⟨.fr (.ints G),.fr (.int ((e:Int)+1)),?_⟩⟩
   ·exact pU (n:=600) (m:=600) (aD (show((e:Int)+1).natAbs<2^6 by show _<64;lia) (cO (by decide) (by decide))) (bits k (by lia))
   ·show(pC p x0 k++(pr.take i).map (scP (p^k))).length<sizeLine;refine small1000 ?_;rw[ai,aa,aM];lia
   ·rw[pF hn,bK,<- da];rfl
  rintro Z ⟨v6,v7,rfl⟩;have e3:pC p x0 k++(pr.take pr.length).map (scP (p^k))=pC p x0 (k+1):=by rw[dt,ax]
  refine lF (Z':=[.fr (.ob 0 p),.fr (.ints f),.fr (.ints (lf p x0 k)),.ow (.lst (pC p x0 (k+1))),.fr (.int (p^k)),.fr (.tup [.lst pr,.ints dp]),v6,v7]) (by rw[<- e3];rfl) ?_;refine⟨⟨⟨⟨rfl,tJ,it1⟩,rfl⟩,tJ,tJ,⟨rfl,rfl⟩,?_⟩,λx1 ex1=>?_⟩
  ·show some p≠some 0;intro z;have:=aI z;lia
  have ex1:x1=lf p x0 (k+1):=by
   have ex1:x1=qK dp none none (some p):=ex1;have ep:p=((p.toNat:Nat):Int):=(bn (by lia)).symm;rw[ex1,nx]
   conv=>lhs;rw[ep]
   exact Pz dp p.toNat (by lia)
  have pb:=bits 1 (by decide);rw[iU]at pb;refine⟨rfl,⟨rfl,rfl⟩,pU (n:=600) (m:=600) (bits k (by lia)) pb,λo eo=>?_⟩;have eo:o=p^(k+1):=by rw[iw];exact eo
  refine⟨⟨k+1,.fr (.tup [.lst pr,.ints dp]),v6,v7,by rw[eo,ex1];rfl,hk1⟩,?_⟩;show(p^32-o).toNat<(p^32-p^k).toNat;have pp:0<p^k:=Int.pow_pos (by lia);have h1:p^k*2<=o:=by rw[eo,iw];exact bC p2 (jc pp)
  have h2:o<=p^32:=by rw[eo];have:((p.toNat^(k+1):Nat):Int)<=((p.toNat^32:Nat):Int):=Int.ofNat_le.mpr (cO (by lia) (by lia));rw[Ed p2,Ed p2]at this;exact this
  generalize p^32=B at *
  generalize p^k=C at *
  lia
 ·have q:¬((lf p x0 k).length:Int) > 1:=q;have h1:(lf p x0 k).length<=1:=by lia
  obtain⟨po,_⟩:=pok k h1;refine⟨⟨rfl,rfl,po⟩,?_⟩;show PV.lst (uX (pC p x0 k))=JL p f;rw[goal];have:=(stop k h1 (40-k)).2;rw[show k+(40-k)=40 by lia]at this;rw[this]
theorem mX (t:List (List Int)):(t.map PV.ints).map kJ=t:=by rw[bE];have:kJ ∘ PV.ints=id:=rfl;rw[this,List.map_id]
theorem HW {R:List (List Int)}{k:Nat}(h:k<R.length):(R.map PV.ints).getD k .non=.ints (R.getD k []):=by rw[gQ,gQ,az,ac h];rfl
theorem RK {t:List (List Int)}{i:Nat}(h:i<t.length):lX (jy t) (i:Int)=.ints (t.getD i []):=by
 show(t.map PV.ints).getD (lC (t.map PV.ints).length (i:Int)) .non=_;have e:lC (t.map PV.ints).length (i:Int)=i:=by unfold lC;rw[ah (by lia)];lia
 rw[e,HW h]
theorem xV {t:List (List Int)}{i:Nat}(h:i<t.length):oY (jy t) (i:Int):=by show -((t.map PV.ints).length:Int)<=(i:Int)/\(i:Int)<((t.map PV.ints).length:Int);rw[aa];lia
theorem BJ {t:List (List Int)}{i:Nat}(h:i<t.length):kJ (lX (jy t) (i:Int))=t.getD i []:=by rw[RK h];rfl
theorem xM {t:List (List Int)}{i:Nat}(h:i<t.length):lX (jy t) (i:Int)=.ints (kJ (lX (jy t) (i:Int))):=by rw[RK h];rfl
theorem Od {j:Nat}(h:j<r.length):oY (.ints r) (j:Int):=⟨by show -(r.length:Int)<=(j:Int);lia,by show(j:Int)<(r.length:Int);lia⟩
theorem Wh (h:j<n):lC n (j:Int)=j:=by unfold lC;rw[ah (by lia)];lia
theorem Ys (h:Bd r)(k:Nat):(r.getD k 0).natAbs<2^9000:=by
 by_cases c:k<r.length
 ·exact h _ (FM.getD_mem c)
 ·rw[jw (by lia)];exact dJ (by decide)
def wd (m:Int)(r:List Int):List Int:=r++List.replicate (m-(r.length:Int)).toNat 0
theorem Yw (m:Int)(r:Li)(n:Nat):(wd m r).getD n 0=r.getD n 0:=Im r _ n
theorem RL (h:(r.length:Int)<=m):((wd m r).length:Int)=m:=by unfold wd;rw[ai,aG];lia
def jQ (p:Int)(d f:List Int)(n:Nat):List (List Int):=(List.range n).map λk=>wd ((d.length:Int)-1) (rm p d (pw f k))
theorem Kh (p:Int)(d f:Li)(n:Nat):jQ p d f (n+1)=jQ p d f n++[wd ((d.length:Int)-1) (rm p d (pw f n))]:=by unfold jQ;rw[iu,bK];rfl
theorem oA (p:Int)(d f:Li)(n:Nat):(jQ p d f n).length=n:=by unfold jQ;rw[aa,ao]
theorem Oz (h:k<n):(jQ p d f n).getD k []=wd ((d.length:Int)-1) (rm p d (pw f k)):=by unfold jQ;rw[gQ,az,cw h];rfl
theorem u5 (T:Top K mg cFE cNO cNN cK cR):Ok P w K mg base 6 "power_rows" ["kind","f","count","g"] (ym K (Gr cR) (λas=>∃p f,∃n:Nat,∃g,as=[.ob 0 p,.ints f,.int (n:Int),.ints g]/\Hb p g/\f.length<=50/\Bd f/\(Tz p g).length<=100/\n<=100) λas=>match as with
  |[.ob 0 p,.ints f,.int n,.ints g]=>jy (jQ p (Tz p g) f n.toNat)
  |_=>.non):=by
 refine xO T.Ea mU (λas ⟨a,b,c,d,h,_⟩=>by rw[h];rfl) (λf cdv A outer s H E hr=>⟨_,(jn (jA (i:=4) mU.nd rfl (Or.inl rfl) (oR (mD T.j6 (j9 (tH (jU T) hr (jm (xv 0) (jm (xl 3) jq))))) jo))
 (jn (jG (i:=5) mU.nd rfl (Or.inl rfl) (xcL (Ds T) hr (jm (xv 0) (jm (xl 1) (jm jo (jm (xl 3) jq))))))
 (jn (qx (i:=6) mU.nd rfl (Or.inl rfl) (sE jq))
 (jn (qG (k:=7) aO rfl (by rfl) T.pJ (xn 2) mU.nd rfl (Or.inl rfl)
 (jn (rP 6 (j9 (xY (xl 5) (j9 (sS (nH (jm jo jq)) (oR (xn 4) (kY 5 T.j6)) (λ_=>rfl))))))
 (jt (jG (i:=5) mU.nd rfl (Or.inl rfl) (xcL (tW T) hr (jm (xv 0) (jm (xl 5) (jm (xl 1) (jm (xl 3) jq)))))))))
 (lG 6 (jt (jD (xv 6)))))))),λas hp=>?_⟩)
 obtain⟨p,f,n,g,rfl,ok,hl,hb,hd,hn⟩:=hp;have gl:=ok.len;refine⟨⟨⟨⟨⟨rfl,rfl,tJ⟩,p,g,rfl,by lia⟩,tJ⟩,tJ⟩,λdg edg=>?_⟩;subst edg;refine⟨⟨⟨rfl,rfl,tJ,rfl,tJ⟩,p,f,0,g,rfl,ok,by lia,hd⟩,λr0 er0=>?_⟩;refine⟨tJ,λl0 el0=>?_⟩;refine lF (Z':=[.fr (.ob 0 p),.fr (.ints f),.fr (.int (n:Int)),.fr (.ints g),.fr (.int (((Tz p g).length:Int)-1)),.fr (.ints r0),.ow (.lst l0),.un]) rfl ?_;refine⟨rfl,⟨by show -(2:Int)^62<=(n:Int);lia,by show(n:Int)<2^62;lia⟩,λi Z=>∃v7,Z=[.fr (.ob 0 p),.fr (.ints f),.fr (.int (n:Int)),.fr (.ints g),.fr (.int (((Tz p g).length:Int)-1)),.fr (.ints (rm p (Tz p g) (pw f i))),.ow (jy (jQ p (Tz p g) f i)),v7],⟨.un,by rw[er0,el0];rfl⟩,?_,?_⟩
 ·rintro i Z hi ⟨v7,rfl⟩;have hi:i<((n:Nat):Int).toNat:=hi;obtain⟨_,_,ir,er⟩:=mH ok (pw f i);have e1:rm p (Tz p g) (pw f (i+1))=rm p (Tz p g) (ju (rm p (Tz p g) (pw f i)) f):=SJ ok (er.mul f);generalize hR:rm p (Tz p g) (pw f i)=R at *
  have rl:=ir.len;refine⟨rfl,⟨rfl,⟨⟨⟨tJ,tJ⟩,tJ⟩,⟨rfl,.inl rfl⟩,?_,?_⟩,?_⟩,?_,?_⟩
  ·show -(2:Int)^63<=((Tz p g).length:Int)-1-(R.length:Int);lia
  ·show(((Tz p g).length:Int)-1-(R.length:Int)).toNat<=1000;lia
  ·refine bX (small1000 ?_);show R.length+(List.replicate (((Tz p g).length:Int)-1-(R.length:Int)).toNat (0:Int)).length<=1000;rw[aG];lia
  ·show((jQ p (Tz p g) f i).map PV.ints).length<sizeLine;rw[aa,oA];exact small1000 (by lia)
  refine lF (Z':=[.fr (.ob 0 p),.fr (.ints f),.fr (.int (n:Int)),.fr (.ints g),.fr (.int (((Tz p g).length:Int)-1)),.fr (.ints R),.ow (jy (jQ p (Tz p g) f (i+1))),.fr (.int (i:Int))]) ?_ ?_
  ·have e:jy (jQ p (Tz p g) f (i+1))=.lst ((jQ p (Tz p g) f i).map PV.ints++[.ints (wd (((Tz p g).length:Int)-1) R)]):=by rw[Kh,hR];unfold jy;rw[bK];rfl
   rw[e];rfl
  refine⟨⟨⟨rfl,rfl,rfl,rfl,tJ⟩,p,R,f,g,rfl,ok,by lia,ir.bd ok.pr,hb⟩,λr1 er1=>⟨.fr (.int (i:Int)),?_⟩⟩;have er1:r1=rm p (Tz p g) (ju R f):=er1;rw[e1,<- er1];rfl
 ·rintro Z ⟨v7,rfl⟩;exact⟨rfl,rfl⟩
theorem Je (T:Top K mg cFE cNO cNN cK cR):Ok P w K mg base 7 "powering" ["kind","g"] (ym K (Gr cR) (λas=>∃p g,as=[.ob 0 p,.ints g]/\Hb p g/\(Tz p g).length<=40) λas=>match as with
  |[.ob 0 p,.ints g]=>jy (jQ p (Tz p g) (rm p (Tz p g) (pw [0,1] p.toNat)) ((Tz p g).length-1))
  |_=>.non):=by
 refine xO T.KY yD (λas ⟨a,b,h,_⟩=>by rw[h];rfl) (λf cdv A outer s H E hr=>⟨_,(jn (jA (i:=2) yD.nd rfl (Or.inl rfl) (oR (mD T.j6 (j9 (tH (jU T) hr (jm (xv 0) (jm (xl 1) jq))))) jo))
 (jt (jD (xc (u5 T) hr (jm (xv 0) (jm (xcL (Ds T) hr (jm (xv 0) (jm (j9 (nH (jm jo (jm jo jq)))) (jm (Fd (ksz T) (xv 0)) (jm (xl 1) jq))))) (jm (xn 2) (jm (xl 1) jq)))))))),λas hp=>?_⟩)
 obtain⟨p,g,rfl,ok,hd⟩:=hp;have gl:=ok.len;have p2:2<=p:=ok.pr.1;have d1:=lP ok.ne;refine⟨⟨⟨⟨⟨rfl,rfl,tJ⟩,p,g,rfl,by lia⟩,tJ⟩,tJ⟩,λdg edg=>?_⟩;have edg:dg=((Tz p g).length:Int)-1:=edg;have edg:dg=(((Tz p g).length-1:Nat):Int):=by lia
 subst edg;obtain⟨_,_,ir,er⟩:=mH ok (pw [0,1] p.toNat);have rl:=ir.len;have ep:((p.toNat:Nat):Int)=p:=by lia
 refine⟨⟨⟨rfl,⟨⟨rfl,⟨⟨tJ,tJ,tJ⟩,tJ⟩,⟨rfl,rfl⟩,rfl,tJ⟩,p,[0,1],p.toNat,g,?_,ok,by decide,by lia⟩,rfl,rfl,tJ⟩,p,rm p (Tz p g) (pw [0,1] p.toNat),(Tz p g).length-1,g,rfl,ok,by lia,ir.bd ok.pr,by lia,by lia⟩,rfl⟩;show[PV.ob 0 p,.ints [0,1],.int p,.ints g]=[.ob 0 p,.ints [0,1],.int ((p.toNat:Nat):Int),.ints g];rw[ep]
theorem wy (f:Nat->Nat->Int)(m:Nat):∀n,sm n (λi=>sm m λj=>f i j)=sm m λj=>sm n λi=>f i j
 |0=>by exact(mZ λj _=>rfl).symm
 |n+1=>by show sm n (λi=>sm m λj=>f i j)+sm m (λj=>f n j)=_;rw[wy f m n,<- sI];rfl
theorem zA (l:Int)(f:Nat->Int)(n:Nat):sm n (λi=>f i*l)=sm n f*l:=by rw[cu,<- n6];exact jz λi _=>cu _ _
abbrev Mx:=Nat->Nat->Int
def mm (n:Nat)(A B:Mx):Mx:=λi j=>sm n λk=>A i k*B k j
theorem T7 (m n:Nat)(A B C:Mx)(i j:Nat):mm n (mm m A B) C i j=mm m A (mm n B C) i j:=by
 show sm n (λk=>sm m (λl=>A i l*B l k)*C k j)=sm m λl=>A i l*sm n λk=>B l k*C k j;have h1:sm n (λk=>sm m (λl=>A i l*B l k)*C k j)=sm n λk=>sm m λl=>A i l*B l k*C k j:=jz λk _=>(zA _ _ _).symm;have h2:sm m (λl=>A i l*sm n λk=>B l k*C k j)=sm m λl=>sm n λk=>A i l*B l k*C k j:=jz λl _=>by rw[<- n6];exact jz λk _=>(bO _ _ _).symm
 rw[h1,h2];exact wy _ _ _
def pq (i j:Nat):Int:=if i=j then 1 else 0
theorem qJ:∀{n:Nat},k<n->(∀i,i<n->i≠k->f i=0)->sm n f=f k
 |0,h,_=>by lia
 |n+1,h,z=>by
  show sm n f+f n=f k;by_cases c:k=n
  ·subst c;rw[mZ λi hi=>z i (by lia) (by lia),c9]
  ·rw[qJ (by lia) λi hi hne=>z i (by lia) hne,z n (by lia) (λe=>c e.symm),bH]
theorem sG (A:Mx)(h:i<n)(j:Nat):mm n pq A i j=A i j:=by show sm n (λk=>pq i k*A k j)=A i j;rw[qJ h λk _ hne=>by unfold pq;rw[ag (λe=>hne e.symm),bV]];unfold pq;rw[ah rfl,cC]
theorem Ni (A:Mx)(i:Nat)(h:j<n):mm n A pq i j=A i j:=by show sm n (λk=>A i k*pq k j)=A i j;rw[qJ h λk _ hne=>by unfold pq;rw[ag hne,aW]];unfold pq;rw[ah rfl,bR]
def Al (p:Int)(n m:Nat)(A B:Mx):Prop:=∀i j,i<n->j<m->p ∣ A i j-B i j
theorem Al.refl (p:Int)(n m:Nat)(A:Mx):Al p n m A A:=λi j _ _=>by rw[cH];exact aQ p
theorem Al.symm (h:Al p n m A B):Al p n m B A:=λi j hi hj=>by
 have e:B i j-A i j = -(A i j-B i j):=by lia
 rw[e];exact bw.mpr (h i j hi hj)
theorem Al.trans (h:Al p n m A B)(k:Al p n m B C):Al p n m A C:=λi j hi hj=>by
 have e:A i j-C i j=(A i j-B i j)+(B i j-C i j):=by lia
 rw[e];exact bD (h i j hi hj) (k i j hi hj)
theorem Al.mul (h:Al p n l A B)(k:Al p l m C D):Al p n m (mm l A C) (mm l B D):=λi j hi hj=>by
 show p ∣ sm l (λx=>A i x*C x j)-sm l λx=>B i x*D x j;rw[<- vN];refine nJ λx hx=>?_;have e:A i x*C x j-B i x*D x j=(A i x-B i x)*C x j+B i x*(C x j-D x j):=by rw[fZ,cG];lia
 rw[e];exact bD (bj (h i x hi hx)) (aP (k x j hx hj))
theorem Al.of (h:∀i j,i<n->j<m->A i j=B i j):Al p n m A B:=λi j hi hj=>by rw[h i j hi hj,cH];exact aQ p
theorem Al.rN (p:Int)(n l x m:Nat)(A B C:Mx):Al p n m (mm x (mm l A B) C) (mm l A (mm x B C)):=.of λi j _ _=>T7 l x A B C i j
structure t7 (p:Int)(n:Nat)(A B:Mx):Prop where
 ab:Al p n n (mm n A B) pq
 ba:Al p n n (mm n B A) pq
theorem t7.unit (p:Int)(n:Nat):t7 p n pq pq:=⟨.of λi j hi _=>sG pq hi j,.of λi j hi _=>sG pq hi j⟩
theorem t7.mul (h:t7 p n A B)(k:t7 p n C D):t7 p n (mm n A C) (mm n D B):=by
 have key:∀{A B C D:Mx},Al p n n (mm n A B) pq->Al p n n (mm n C D) pq->Al p n n (mm n (mm n A C) (mm n D B)) pq:=λ{A B C D} h k=>by have s1:Al p n n (mm n C (mm n D B)) B:=(Al.rN p n n n n C D B).symm.trans ((Al.mul k (.refl p n n B)).trans (.of λi j hi _=>sG B hi j));exact(Al.rN p n n n n A C (mm n D B)).trans ((Al.mul (.refl p n n A) s1).trans h)
 exact⟨key h.ab k.ab,key k.ba h.ba⟩
theorem t7.left (h:t7 p n A B)(k:Al p n n (mm n C A) pq):Al p n n (mm n A C) pq:=by
 have e1:Al p n n C B:=by have s1:Al p n n (mm n (mm n C A) B) B:=(Al.mul k (.refl p n n B)).trans (.of λi j hi _=>sG B hi j);have s2:Al p n n (mm n C (mm n A B)) C:=(Al.mul (.refl p n n C) h.ab).trans (.of λi j _ hj=>Ni C i hj);exact s2.symm.trans ((Al.rN p n n n n C A B).symm.trans s1)
 exact(Al.mul (.refl p n n A) e1).trans h.ab
def Qy (d:Nat)(c:Nat->Int):Mx:=λi k=>(if i=d then 0 else pq i k)+if k=d then c i else 0
theorem RX (c:Nat->Int)(A:Mx)(hi:i<n)(hd:d<n)(j:Nat):mm n (Qy d c) A i j=(if i=d then 0 else A i j)+c i*A d j:=by
 show sm n (λk=>((if i=d then 0 else pq i k)+if k=d then c i else 0)*A k j)=_;have h:sm n (λk=>((if i=d then 0 else pq i k)+if k=d then c i else 0)*A k j)=sm n (λk=>(if i=d then 0 else pq i k)*A k j)+sm n (λk=>(if k=d then c i else 0)*A k j):=by rw[<- sI];exact jz λk _=>eS _ _ _
 rw[h,qJ (f:=λk=>(if k=d then c i else 0)*A k j) hd λk _ hne=>by show(if k=d then c i else 0)*A k j=0;rw[ag hne,bV],ah rfl];congr 1;by_cases e:i=d
 ·rw[ah e];exact mZ λk _=>by rw[ah e,bV]
 ·rw[ag e];have k1:sm n (λk=>(if i=d then 0 else pq i k)*A k j)=mm n pq A i j:=jz λk _=>by rw[ag e]
  rw[k1,sG A hi j]
theorem Mf (hd:d<n)(h1:p ∣ c d*e d-1)(h2:∀i,i<n->i≠d->p ∣ e i+c i*e d):Al p n n (mm n (Qy d c) (Qy d e)) pq:=λi j hi hj=>by
 rw[RX c _ hi hd];have ed:Qy d e d j=if j=d then e d else 0:=by show(if d=d then 0 else pq d j)+(if j=d then e d else 0)=_;rw[ah rfl,c9]
 rw[ed];by_cases x:i=d
 ·subst x;rw[ah rfl,c9];by_cases y:j=i
  ·subst y;have u:pq j j=1:=ah rfl;rw[ah rfl,u];exact h1
  ·have u:pq i j=0:=ag λz=>y z.symm;rw[ag y,aW,u];exact aQ p
 ·rw[ag x];have ei:Qy d e i j=pq i j+if j=d then e i else 0:=by show(if i=d then 0 else pq i j)+(if j=d then e i else 0)=_;rw[ag x]
  rw[ei];by_cases y:j=d
  ·rw[ah y,ah y];have z:=h2 i hi x;generalize c i*e d=w at *
   have q:pq i j+e i+w-pq i j=e i+w:=by lia
   rw[q];exact z
  ·rw[ag y,ag y,aW,bH,bH,cH];exact aQ p
def X6 (σ:Nat->Nat):Mx:=λi j=>pq (σ i) j
theorem RV (A:Mx)(h:σ i<n)(j:Nat):mm n (X6 σ) A i j=A (σ i) j:=sG A h j
theorem Ml (hs:∀i,i<n->σ i<n)(h:∀i,i<n->τ (σ i)=i):Al p n n (mm n (X6 σ) (X6 τ)) pq:=.of λi j hi _=>by rw[RV _ (hs i hi)];show pq (τ (σ i)) j=pq i j;rw[h i hi]
abbrev Tab:=List (List Int)
def p7 (t:Tab)(found done:Nat):Tab:=t.take done++[t.getD found []]++(t.drop done).take (found-done)++t.drop (found+1)
def yW (found done i:Nat):Nat:=if i<done then i else if i=done then found else if i<=found then i-1 else i
def tau (found done i:Nat):Nat:=if i<done then i else if i=found then done else if i<found then i+1 else i
theorem Vx (h:done<=found)(i:Nat):tau found done (yW found done i)=i:=by
 unfold yW tau
 repeat' split
 all_goals lia
theorem WD (h:done<=found)(i:Nat):yW found done (tau found done i)=i:=by
 unfold yW tau
 repeat' split
 all_goals lia
theorem Fx (h:done<=found)(hf:found<n)(hi:i<n):yW found done i<n:=by
 unfold yW
 repeat' split
 all_goals lia
theorem ZQ (h:done<=found)(hf:found<n)(hi:i<n):tau found done i<n:=by
 unfold tau
 repeat' split
 all_goals lia
theorem Jb (h:done<=found)(hf:found<t.length):(p7 t found done).length=t.length:=by unfold p7;simp only[ai,aM,a9,aR,cN];lia
theorem zf (h:done<=found)(hf:found<t.length)(hi:i<t.length):(p7 t found done).getD i []=t.getD (yW found done i) []:=by
 unfold p7 yW;simp only[gQ];by_cases c1:i<done
 ·rw[ah c1,aS (by simp only[ai,aM,a9,aR,cN];lia),aS (by simp only[ai,aM,aR,cN];lia),aS (by simp only[aM];lia),dF c1]
 ·rw[ag c1];by_cases c2:i=done
  ·rw[ah c2,aS (by simp only[ai,aM,a9,aR,cN];lia),aS (by simp only[ai,aM,aR,cN];lia),br (by simp only[aM];lia)];have e:i-(List.take done t).length=0:=by simp only[aM];lia
   rw[e];simp
  ·rw[ag c2];by_cases c3:i<=found
   ·rw[ah c3,aS (by simp only[ai,aM,a9,aR,cN];lia),br (by simp only[ai,aM,aR,cN];lia)];have e:i-(List.take done t++[t[found]?.getD []]).length=i-done-1:=by simp only[ai,aM,aR,cN];lia
    rw[e,dF (by lia),dS];have e2:done+(i-done-1)=i-1:=by lia
    rw[e2]
   ·rw[ag c3,br (by simp only[ai,aM,a9,aR,cN];lia)];have e:i-(List.take done t++[t[found]?.getD []]++List.take (found-done) (List.drop done t)).length=i-found-1:=by simp only[ai,aM,a9,aR,cN];lia
    rw[e,dS];have e2:found+1+(i-found-1)=i:=by lia
    rw[e2]
def ent (t:Tab):Mx:=λi j=>(t.getD i []).getD j 0
theorem Wj (h:done<=found)(hf:found<t.length):Al p t.length m (ent (p7 t found done)) (mm t.length (X6 (yW found done)) (ent t)):=.of λi j hi _=>by rw[RV _ (Fx h hf hi)];unfold ent;rw[zf h hf hi]
def yQ (p fac:Int)(row:List Int):List Int:=(row.map λn=>fac*n).map (pl p)
def Bv (p:Int)(row first:List Int)(at':Nat):List Int:=List.zipWith (λn o=>pl p (n-row.getD at' 0*o)) row first
def uT (p fac:Int)(t:Tab)(at' done:Nat):Tab:=t.mapIdx λplace row=>if place=done then yQ p fac (t.getD done []) else Bv p row (yQ p fac (t.getD done [])) at'
theorem U0 (p fac:Int)(t:Tab)(at' done:Nat):(uT p fac t at' done).length=t.length:=by unfold uT;rw[cj]
theorem ww (p fac:Int)(row:Li)(j:Nat):(yQ p fac row).getD j 0=pl p (fac*row.getD j 0):=by unfold yQ;rw[m7 _ (lO p),m7 _ (aW fac)]
theorem Iv (h1:j<row.length)(h2:j<first.length):(Bv p row first at').getD j 0=pl p (row.getD j 0-row.getD at' 0*first.getD j 0):=by unfold Bv;rw[jE (by rw[eW];lia),iE,jE h1,jE h2]
theorem Ef (hi:i<t.length):(uT p fac t at' done).getD i []=if i=done then yQ p fac (t.getD done []) else Bv p (t.getD i []) (yQ p fac (t.getD done [])) at':=by unfold uT;simp only[gQ,cD,ac hi,dW,eQ]
def Ci (fac:Int)(t:Tab)(at' done:Nat):Nat->Int:=λi=>if i=done then fac else -(ent t i at' * fac)
theorem W6 (hd:done<t.length)(hm:∀i,i<t.length->(t.getD i []).length=m):Al p t.length m (ent (uT p fac t at' done)) (mm t.length (Qy done (Ci fac t at' done)) (ent t)):=λi j hi hj=>by
 rw[RX _ _ hi hd];show p ∣ ((uT p fac t at' done).getD i []).getD j 0-_;rw[Ef hi];have f0:=nF p (fac*(t.getD done []).getD j 0);by_cases c:i=done
 ·rw[ah c,ah c,ww,c9];unfold Ci;rw[ah c];exact f0
 ·rw[ag c,ag c];have l1:=hm i hi;have l2:(yQ p fac (t.getD done [])).length=m:=by unfold yQ;rw[aa,aa];exact hm done hd
  rw[Iv (by lia) (by lia),ww];unfold Ci;rw[ag c];show p ∣ _-((t.getD i []).getD j 0 + -((t.getD i []).getD at' 0*fac)*(t.getD done []).getD j 0);have f1:=nF p ((t.getD i []).getD j 0-(t.getD i []).getD at' 0*pl p (fac*(t.getD done []).getD j 0));generalize pl p ((t.getD i []).getD j 0-(t.getD i []).getD at' 0*pl p (fac*(t.getD done []).getD j 0))=u at *
  generalize pl p (fac*(t.getD done []).getD j 0)=v at *
  generalize (t.getD i []).getD j 0=x at *
  generalize (t.getD i []).getD at' 0=y at *
  generalize (t.getD done []).getD j 0=z at *
  have e:u-(x + -(y*fac)*z)=(u-(x-y*v)) + -(y*(v-fac*z)):=by rw[iT,bO,cG];lia
  rw[e];exact bD f1 (bw.mpr (aP f0))
theorem WT (hd:done<t.length)(hf:p ∣ fac*ent t done at'-1):t7 p t.length (Qy done (Ci fac t at' done)) (Qy done λi=>ent t i at'):=by
 have c0:Ci fac t at' done done=fac:=ah rfl;refine⟨Mf hd (by rw[c0];exact hf) λi _ hne=>?_,Mf hd (by rw[c0,cu];exact hf) λi _ hne=>?_⟩
 ·have ci:Ci fac t at' done i = -(ent t i at' * fac):=ag hne;rw[ci];generalize ent t i at'=y;generalize ent t done at'=z at *
  have e:y + -(y*fac)*z = -(y*(fac*z-1)):=by rw[iT,bO,cG,bR];lia
  rw[e];exact bw.mpr (aP hf)
 ·have ci:Ci fac t at' done i = -(ent t i at' * fac):=ag hne;rw[ci,c0];have e:-(ent t i at' * fac)+ent t i at' * fac=0:=by lia
  rw[e];exact aQ p
def JZ (t:Tab)(at' d:Nat):Option Nat:=((List.range (t.length-d)).map λk=>d+k).find? λi=>decide (ent t i at'≠0)
theorem wQ (h:JZ t at' d=some f):d<=f/\f<t.length/\ent t f at'≠0:=by unfold JZ at h;have h1:=ib h;have h2:=eJ h;obtain⟨k,hk,e⟩:=aX.mp h2;have hk:=a7.mp hk;exact⟨by lia,by lia,bU h1⟩
theorem JG (h:JZ t at' d=none)(h1:d<=i)(h2:i<t.length):ent t i at'=0:=by unfold JZ at h;have:=List.find?_eq_none.mp h i (aX.mpr ⟨i-d,a7.mpr (by lia),by lia⟩);simpa using this
def X4 (p:Int)(iv:Int->Int)(t:Tab)(at' done:Nat):Tab:=uT p (iv (ent t done at')) t at' done
def Vk (p:Int)(iv:Int->Int)(at':Nat)(s:Tab×Nat):Tab×Nat:=match JZ s.1 at' s.2 with
 |none=>s
 |some f=>(X4 p iv (p7 s.1 f s.2) at' s.2,s.2+1)
def Oi (p:Int)(iv:Int->Int)(t0:Tab):Nat->Tab×Nat
 |0=>(t0,0)
 |k+1=>Vk p iv k (Oi p iv t0 k)
structure EI (p:Int)(n m:Nat)(t0:Tab)(k:Nat)(t:Tab)(d:Nat):Prop where
 len:t.length=n
 row:∀i,i<n->(t.getD i []).length=m
 red:∀i j,pl p (ent t i j)=ent t i j
 mul:∃A B,t7 p n A B/\Al p n m (ent t) (mm n A (ent t0))
 dn:d<=n
 piv:∃v:Nat->Nat,(∀i,i<d->v i<k)/\(∀i j,i<j->j<d->v i<v j)/\(∀i,i<d->ent t i (v i)=1)/\(∀i r,i<d->r<n->r≠i->ent t r (v i)=0)/\∀i c,i<d->c<v i->ent t i c=0
 low:∀i c,d<=i->i<n->c<k->ent t i c=0
theorem MT (h:done<=found)(hf:found<t.length)(hi:i<t.length):ent (p7 t found done) i j=ent t (yW found done i) j:=by unfold ent;rw[zf h hf hi]
theorem Xd (hi:i<t.length)(hd:done<t.length)(hm:∀i,i<t.length->(t.getD i []).length=m)(hj:j<m):ent (uT p fac t at' done) i j=if i=done then pl p (fac*ent t done j) else pl p (ent t i j-ent t i at' * pl p (fac*ent t done j)):=by
 unfold ent;rw[Ef hi];split
 ·exact ww _ _ _ _
 ·rw[Iv (by rw[hm i hi];exact hj) (by unfold yQ;rw[aa,aa,hm done hd];exact hj),ww]
theorem N7 (hm:∀i,i<t.length->(t.getD i []).length=m)(hj:m<=j):ent t i j=0:=by
 unfold ent;by_cases c:i<t.length
 ·exact jw (by rw[hm i c];exact hj)
 ·rw[eu (l:=t),bG (by lia)];rfl
theorem oM (h:t.length<=i):ent t i j=0:=by unfold ent;rw[eu (l:=t),bG h];rfl
theorem Nt (hd:done<t.length)(hm:∀i,i<t.length->(t.getD i []).length=m)(hi:i<t.length):((uT p fac t at' done).getD i []).length=m:=by
 rw[Ef hi];have l2:(yQ p fac (t.getD done [])).length=m:=by unfold yQ;rw[aa,aa];exact hm done hd
 split
 ·exact l2
 ·unfold Bv;rw[eW,l2,hm i hi,jg]
theorem EI.step (hp:2<=p)(hiv:∀x,0<x->x<p->p ∣ iv x*x-1)(hk:k<m)(I:EI p n m t0 k t d):EI p n m t0 (k+1) (Vk p iv k (t,d)).1 (Vk p iv k (t,d)).2:=by
 obtain⟨v,v1,v2,v3,v4,v5⟩:=I.piv;unfold Vk;cases hf:JZ t k d with
 |none=>
  refine⟨I.len,I.row,I.red,I.mul,I.dn,⟨v,λi hi=>Nat.lt_succ_of_lt (v1 i hi),v2,v3,v4,v5⟩,λi c h1 h2 h3=>?_⟩;by_cases c':c=k
  ·rw[c'];exact JG hf h1 (by rw[I.len];exact h2)
  ·exact I.low i c h1 h2 (by lia)
 |some f=>
  show EI p n m t0 (k+1) (X4 p iv (p7 t f d) k d) (d+1);obtain⟨f1,f2,f3⟩:=wQ hf;have tl:=I.len;have ml:(p7 t f d).length=n:=by rw[Jb f1 f2,tl]
  have mr:∀i,i<(p7 t f d).length->((p7 t f d).getD i []).length=m:=λi hi=>by rw[ml]at hi;rw[zf f1 f2 (by lia)];exact I.row _ (by have:=Fx (i:=i) f1 f2 (by lia);lia)
  have me:∀i j,i<n->ent (p7 t f d) i j=ent t (yW f d i) j:=λi j hi=>MT f1 f2 (by lia);have sd:yW f d d=f:=by unfold yW;rw[ag (by lia),ah rfl]
  have slo:∀i,i<d->yW f d i=i:=λi hi=>ah hi;have shi:∀i,d<=i->d<=yW f d i:=λi hi=>by
   unfold yW;rw[ag (by lia)]
   repeat' split
   all_goals lia
  have sn:∀i,i<n->yW f d i<n:=λi hi=>by rw[<- tl];exact Fx f1 f2 (by lia)
  have dn:d<n:=by lia
  have xr:=I.red f k;have x0:0<ent t f k/\ent t f k<p:=by have:=Aj (z:=p) (n:=ent t f k) (by lia);rw[xr]at this;lia
  have hx:=hiv _ x0.1 x0.2;unfold X4;rw[me d k dn,sd];generalize hfac:iv (ent t f k)=fac at hx;generalize hM:p7 t f d=M at *
  have el:(uT p fac M k d).length=n:=by rw[U0,ml]
  have ee:∀i j,i<n->j<m->ent (uT p fac M k d) i j=if i=d then pl p (fac*ent M d j) else pl p (ent M i j-ent M i k*pl p (fac*ent M d j)):=λi j hi hj=>Xd (by lia) (by lia) mr hj;have lowM:∀c,c<k->ent M d c=0:=λc hc=>by rw[me d c dn,sd];exact I.low f c f1 (by lia) hc
  have e1:∀i c,i<n->c<k->ent (uT p fac M k d) i c=if i=d then 0 else ent t (yW f d i) c:=λi c hi hc=>by rw[ee i c hi (by lia),lowM c hc,aW,lO,aW,aT,me i c hi,I.red]
  have e2:∀i,i<n->ent (uT p fac M k d) i k=if i=d then 1 else 0:=λi hi=>by
   have one:pl p (fac*ent M d k)=1:=by
    rw[me d k dn,sd];have h1:pl p 1=1:=by rw[kZ (by lia)];exact bp (by lia) (by lia)
    rw[<- h1];exact(qF p _ _).mpr hx
   rw[ee i k hi hk,one,bR,cH,lO]
  refine⟨el,λi hi=>Nt (by lia) mr (by lia),λi j=>?_,?_,by lia,⟨λi=>if i<d then v i else k,λi hi=>?_,λi j h1 h2=>?_,λi hi=>?_,λi r h1 h2 h3=>?_,λi c h1 h2=>?_⟩,λi c h1 h2 h3=>?_⟩
  ·by_cases c1:i<n
   ·by_cases c2:j<m
    ·rw[ee i j c1 c2];split<;>exact uq _ _
    ·rw[N7 (m:=m) (λi hi=>Nt (by lia) mr (by rw[el]at hi;lia)) (by lia),lO]
   ·rw[oM (by lia),lO]
  ·obtain⟨A,B,hi,ha⟩:=I.mul;have i1:t7 p n (X6 (yW f d)) (X6 (tau f d)):=⟨Ml sn λi _=>Vx f1 i,Ml (λi h=>by rw[<- tl];exact ZQ f1 f2 (by lia)) λi _=>WD f1 i⟩;have hxM:p ∣ fac*ent M d k-1:=by rw[me d k dn,sd];exact hx
   have i2:t7 p M.length (Qy d (Ci fac M k d)) (Qy d λi=>ent M i k):=WT (by lia) hxM;rw[ml]at i2;have a1:Al p n m (ent M) (mm n (X6 (yW f d)) (ent t)):=by rw[<- hM,<- tl];exact Wj f1 f2
   have a2:Al p n m (ent (uT p fac M k d)) (mm n (Qy d (Ci fac M k d)) (ent M)):=by have:=W6 (p:=p) (fac:=fac) (t:=M) (at':=k) (done:=d) (m:=m) (by lia) mr;rw[ml]at this;exact this
   refine⟨mm n (Qy d (Ci fac M k d)) (mm n (X6 (yW f d)) A),_,i2.mul (i1.mul hi),a2.trans ?_⟩;refine((Al.refl p n n _).mul (a1.trans (((Al.refl p n n _).mul ha).trans (Al.rN p n n n m _ _ _).symm))).trans (Al.rN p n n n m _ _ _).symm
  ·show(if i<d then v i else k)<k+1;split
   ·rename_i q;have:=v1 i q;lia
   ·lia
  ·show(if i<d then v i else k)<(if j<d then v j else k);rw[ah (by lia)];split
   ·rename_i q;exact v2 i j h1 q
   ·exact v1 i (by lia)
  ·show ent _ i (if i<d then v i else k)=1;split
   ·rename_i q;rw[e1 i _ (by lia) (v1 i q),ag (by lia),slo i q];exact v3 i q
   ·rw[e2 i (by lia),ah (by lia)]
  ·show ent _ r (if i<d then v i else k)=0;split
   ·rename_i q;rw[e1 r _ h2 (v1 i q)];split
    ·rfl
    ·refine v4 i _ q (sn r h2) λz=>?_;by_cases c:r<d
     ·rw[slo r c]at z;exact h3 z
     ·have:=shi r (by lia);lia
   ·rw[e2 r h2,ag (by lia)]
  ·have h2:c<(if i<d then v i else k):=h2;by_cases q:i<d
   ·rw[ah q]at h2;rw[e1 i c (by lia) (by have:=v1 i q;lia),ag (by lia),slo i q];exact v5 i c q h2
   ·rw[ag q]at h2;rw[e1 i c (by lia) h2,ah (by lia)]
  ·by_cases q:c=k
   ·rw[q,e2 i h2,ag (by lia)]
   ·rw[e1 i c h2 (by lia),ag (by lia)];exact I.low _ c (shi i (by lia)) (sn i h2) (by lia)
theorem EI.start (h1:t0.length=n)(h2:∀i,i<n->(t0.getD i []).length=m)(h3:∀i j,pl p (ent t0 i j)=ent t0 i j):EI p n m t0 0 t0 0:=
 ⟨h1,h2,h3,⟨pq,pq,.unit p n,(Al.of λi j hi _=>sG (ent t0) hi j).symm⟩,bq n,⟨λ_=>0,λ_ h=>absurd h (dm _),λ_ _ _ h=>absurd h (dm _),λ_ h=>absurd h (dm _),λ_ _ h=>absurd h (dm _),λ_ _ h=>absurd h (dm _)⟩,λ_ _ _ _ h=>absurd h (dm _)⟩
theorem EI.all (hp:2<=p)(hiv:∀x,0<x->x<p->p ∣ iv x*x-1)(h1:t0.length=n)(h2:∀i,i<n->(t0.getD i []).length=m)(h3:∀i j,pl p (ent t0 i j)=ent t0 i j):∀k,k<=m->EI p n m t0 k (Oi p iv t0 k).1 (Oi p iv t0 k).2
 |0,_=>EI.start h1 h2 h3
 |k+1,h=>EI.step hp hiv (by lia) (EI.all hp hiv h1 h2 h3 k (by lia))
def QB (n i:Nat):List Int:=(List.replicate n (0:Int)).set i 1
theorem G4 (n i:Nat):(QB n i).length=n:=by unfold QB;rw[bB,aG]
theorem W4 (h:j<n):(QB n i).getD j 0=pq i j:=by
 unfold QB pq;rw[jE (by rw[bB,aG];exact h),List.getElem_set];split
 ·rfl
 ·exact cS ..
def Le (n:Nat):Tab:=(List.range n).map λi=>QB n i
theorem yS (n:Nat):(Le n).length=n:=by unfold Le;rw[aa,ao]
theorem ZX (h:i<n):(Le n).getD i []=QB n i:=by unfold Le;rw[gQ,az,cw h];rfl
def oJ (p:Int)(rows:Tab):Tab:=List.zipWith (λrow unit=>(row++unit).map (pl p)) rows (Le rows.length)
theorem Bo (p:Int)(rows:Tab):(oJ p rows).length=rows.length:=by unfold oJ;rw[eW,yS,jg]
theorem zz (h:i<rows.length):(oJ p rows).getD i []=(rows.getD i []++QB rows.length i).map (pl p):=by unfold oJ;have u:=ZX h;rw[gQ,ac (by rw[yS];exact h)]at u;have u:(Le rows.length)[i]'(by rw[yS];exact h)=QB rows.length i:=u;rw[gQ,ac (by rw[eW,yS,jg];exact h),eQ,iE,u,gQ,ac h,eQ]
theorem Wu {a b:Li}{j:Nat}:(a++b).getD j 0=if j<a.length then a.getD j 0 else b.getD (j-a.length) 0:=by
 rw[gQ];split
 ·rename_i h;rw[aS h,gQ]
 ·rename_i h;rw[br (by lia),gQ]
theorem Jj {p:Int}{rows:Tab}{w i j:Nat}(hi:i<rows.length)(hw:∀i,i<rows.length->(rows.getD i []).length=w):ent (oJ p rows) i j=pl p (if j<w then ent rows i j else(QB rows.length i).getD (j-w) 0):=by show((oJ p rows).getD i []).getD j 0=_;rw[zz hi,m7 _ (lO p),Wu,hw i hi];rfl
theorem HX:pl p (ent (oJ p rows) i j)=ent (oJ p rows) i j:=by
 by_cases h:i<rows.length
 ·unfold ent;rw[zz h,m7 _ (lO p),uq]
 ·rw[oM (by rw[Bo];lia),lO]
def nj (p:Int)(iv:Int->Int)(rows:Tab)(w:Nat):Tab:=(Oi p iv (oJ p rows) w).1
structure Y9 (p:Int)(n w:Nat)(rows t:Tab)(d:Nat):Prop where
 len:t.length=n
 row:∀i,i<n->(t.getD i []).length=w+n
 red:∀i j,pl p (ent t i j)=ent t i j
 inv:∃B,t7 p n (λi j=>ent t i (w+j)) B
 mul:Al p n w (ent t) (mm n (λi j=>ent t i (w+j)) (ent rows))
 dn:d<=n
 piv:∃v:Nat->Nat,(∀i,i<d->v i<w)/\(∀i j,i<j->j<d->v i<v j)/\(∀i,i<d->ent t i (v i)=1)/\(∀i r,i<d->r<n->r≠i->ent t r (v i)=0)/\∀i c,i<d->c<v i->ent t i c=0
 low:∀i c,d<=i->i<n->c<w->ent t i c=0
theorem t7.congr (h:t7 p n A B)(e:Al p n n A A'):t7 p n A' B:=
 ⟨(e.symm.mul (.refl p n n B)).trans h.ab,((Al.refl p n n B).mul e.symm).trans h.ba⟩
theorem Aw {iv:Int->Int}{rows:Tab}{n w:Nat}(hp:2<=p)(hiv:∀x,0<x->x<p->p ∣ iv x*x-1)(hn:rows.length=n)(hw:∀i,i<n->(rows.getD i []).length=w):Y9 p n w rows (nj p iv rows w) (Oi p iv (oJ p rows) w).2:=by
 subst hn;have I:=EI.all (m:=w+rows.length) hp hiv (Bo p rows) (λi hi=>by rw[zz hi,aa,ai,hw i hi,G4]) (λi j=>HX) w (by lia);unfold nj;generalize (Oi p iv (oJ p rows) w).1=t at *
 generalize (Oi p iv (oJ p rows) w).2=d at *
 obtain⟨A,B,hi,ha⟩:=I.mul;have k1:Al p rows.length rows.length A (λi j=>ent t i (w+j)):=λi j hi hj=>by
  have h:=(ha i (w+j) hi (by lia));have e:Al p rows.length rows.length (mm rows.length A (λk l=>ent (oJ p rows) k (w+l))) A:=((Al.refl p _ _ A).mul λk l hk hl=>by
   rw[Jj hk hw,ag (by lia),show w+l-w=l by lia,W4 hl];exact nF _ _).trans (.of λi j _ hj=>Ni A i hj)
  have h2:=e i j hi hj;have h3:mm rows.length A (ent (oJ p rows)) i (w+j)=mm rows.length A (λk l=>ent (oJ p rows) k (w+l)) i j:=rfl;rw[h3]at h;generalize mm rows.length A (λk l=>ent (oJ p rows) k (w+l)) i j=y at *
  have e2:A i j-ent t i (w+j) = -((ent t i (w+j)-y)+(y-A i j)):=by lia
  rw[e2];exact bw.mpr (bD h h2)
 refine⟨I.len,I.row,I.red,⟨B,hi.congr k1⟩,?_,I.dn,I.piv,I.low⟩;have k2:Al p rows.length w (ent (oJ p rows)) (ent rows):=λi j hi hj=>by rw[Jj hi hw,ah hj];exact nF _ _
 have k3:Al p rows.length w (ent t) (mm rows.length A (ent (oJ p rows))):=λi j hi hj=>ha i j hi (by lia);exact k3.trans (k1.mul k2)
theorem Xp {n:Nat}{v:Nat->Nat}(h1:∀i,i<n->v i<n)(h2:∀i j,i<j->j<n->v i<v j):∀i,i<n->v i=i:=by
 have lo:∀i,i<n->i<=v i:=λi=>by
  induction i with
  |zero=>intro _;exact bq _
  |succ i ih=>intro hi;have:=ih (by lia);have:=h2 i (i+1) (by lia) hi;lia
 have hi:∀k i,i+k+1=n->v i<=i:=λk=>by
  induction k with
  |zero=>intro i h;have:=h1 i (by lia);lia
  |succ k ih=>intro i h;have:=ih (i+1) (by lia);have:=h2 i (i+1) (by lia) (by lia);lia
 intro i h;have:=lo i h;have:=hi (n-1-i) i (by lia);lia
theorem Y9.unit {n:Nat}{rows t:Tab}{d:Nat}(hp:2<=p)(c:Y9 p n n rows t d)(h:∃B,t7 p n (ent rows) B):Al p n n (mm n (λi j=>ent t i (n+j)) (ent rows)) pq:=by
 obtain⟨B,hB⟩:=h;obtain⟨C,hC⟩:=c.inv;obtain⟨v,v1,v2,v3,v4,v5⟩:=c.piv;have iL:=(hC.mul hB).congr c.mul.symm;have dn:d=n:=by
  by_cases e:d=n
  ·exact e
  ·exfalso;have dn:=c.dn;have z:=iL.ab d d (by lia) (by lia);have s:mm n (ent t) (mm n B C) d d=0:=mZ λk hk=>by rw[c.low d k (aq _) (by lia) hk,bV]
   have u:pq d d=1:=ah rfl;rw[s,u]at z;have:=fv (by decide) (bw.mpr z);lia
 subst dn;have vi:=Xp v1 v2;refine c.mul.symm.trans (.of λi j hi hj=>?_);have e3:=v3 j hj;rw[vi j hj]at e3;unfold pq;split
 ·rename_i q;rw[q];exact e3
 ·rename_i q;have:=v4 j i hj hi q;rw[vi j hj]at this;exact this
theorem Lr (f:Nat->Int):∀n,((List.range n).map f).sum=sm n f
 |0=>rfl
 |n+1=>by rw[iu,bK,List.sum_append,Lr f n];show sm n f+(f n+0)=sm n f+f n;rw[bH]
def tL (p:Int)(a b:Tab)(w:Nat):Tab:=a.map λrow=>(List.range w).map λj=>((List.range row.length).map λk=>row.getD k 0*ent b k j).sum % p
theorem qW {t:Tab}{i:Nat}(h:i<t.length):t.getD i []=t[i]:=by rw[gQ,ac h];rfl
theorem vI {t:Tab}(f:List Int->List Int){i:Nat}(h:i<t.length):(t.map f).getD i []=f (t.getD i []):=by rw[qW (by rw[aa];exact h),bA,qW h]
theorem K9 (f:Nat->Int){w j:Nat}(h:j<w):((List.range w).map f).getD j 0=f j:=by rw[jE (by rw[aa,ao];exact h),bA,bu]
theorem Jy {a b:Tab}{w l i j:Nat}(hi:i<a.length)(hl:(a.getD i []).length=l)(hj:j<w):ent (tL p a b w) i j=mm l (ent a) (ent b) i j % p:=by show((tL p a b w).getD i []).getD j 0=_;unfold tL;rw[vI _ hi,K9 _ hj,Lr,hl];rfl
theorem VD {s t:Tab}{m:Nat}(h1:s.length=t.length)(h2:∀i,i<t.length->(s.getD i []).length=m/\(t.getD i []).length=m)(h3:∀i j,i<t.length->j<m->ent s i j=ent t i j):s=t:=by refine cF h1 λi hi hi'=>?_;have e1:=qW hi;have e2:=qW hi';obtain⟨l1,l2⟩:=h2 i hi';refine cF (by rw[<- e1,<- e2,l1,l2]) λj hj hj'=>?_;have:=h3 i j hi' (by rw[<- l2,e2];exact hj');unfold ent at this;rw[e1,e2,jE hj,jE hj']at this;exact this
theorem G5 {a b t:Tab}{n l w:Nat}(hp:0<p)(ha:a.length=n)(hl:∀i,i<n->(a.getD i []).length=l)(ht:t.length=n)(hw:∀i,i<n->(t.getD i []).length=w)(hr:∀i j,pl p (ent t i j)=ent t i j)(h:Al p n w (ent t) (mm l (ent a) (ent b))):tL p a b w=t:=by
 have hlen:(tL p a b w).length=t.length:=by unfold tL;rw[aa,ha,ht]
 refine VD (m:=w) hlen (λi hi=>⟨?_,hw i (by lia)⟩) λi j hi hj=>?_
 ·unfold tL;rw[vI _ (by lia),aa,ao]
 ·rw[Jy (by lia) (hl i (by lia)) hj,<- kZ hp,<- hr i j];refine((qF p _ _).mpr ?_).symm;exact h i j (by lia) hj
def uN (n:Nat):Tab:=(List.range n).map λi=>(List.range n).map λk=>pq i k
theorem uA (n:Nat):(uN n).length=n:=by unfold uN;rw[aa,ao]
theorem NZ {n i:Nat}(h:i<n):(uN n).getD i []=(List.range n).map λk=>pq i k:=by rw[qW (by rw[uA];exact h)];unfold uN;rw[bA,bu]
theorem wj {n i j:Nat}(h:i<n)(hj:j<n):ent (uN n) i j=pq i j:=by show((uN n).getD i []).getD j 0=_;rw[NZ h,K9 _ hj]
theorem Bm (h:i<n):((uN n).getD i []).length=n:=by rw[NZ h,aa,ao]
theorem Ih (hp:2<=p)(i j:Nat):pl p (ent (uN n) i j)=ent (uN n) i j:=by
 by_cases h:i<n
 ·by_cases hj:j<n
  ·rw[wj h hj];unfold pq;split
   ·rw[kZ (by lia)];exact bp (by lia) (by lia)
   ·exact lO p
  ·rw[N7 (m:=n) (λi hi=>Bm (by rw[uA]at hi;exact hi)) (by lia),lO]
 ·rw[oM (by rw[uA];lia),lO]
def pX (w:Nat)(t:Tab):Tab:=t.map λrow=>row.take w
def o8 (w:Nat)(t:Tab):Tab:=t.map λrow=>row.drop w
theorem rA {w:Nat}{t:Tab}{i j:Nat}(hj:j<w):ent (pX w t) i j=ent t i j:=by
 by_cases h:i<t.length
 ·show((pX w t).getD i []).getD j 0=_;unfold pX;rw[vI _ h,gQ,dF hj,<- gQ];rfl
 ·rw[oM (by unfold pX;rw[aa];lia),oM (by lia)]
theorem yg {w:Nat}{t:Tab}{i j:Nat}:ent (o8 w t) i j=ent t i (w+j):=by
 by_cases h:i<t.length
 ·show((o8 w t).getD i []).getD j 0=_;unfold o8;rw[vI _ h,gQ,dS,<- gQ];rfl
 ·rw[oM (by unfold o8;rw[aa];lia),oM (by lia)]
theorem Hu (w:Nat)(t:Tab):(pX w t).length=t.length:=by unfold pX;rw[aa]
theorem Pk (w:Nat)(t:Tab):(o8 w t).length=t.length:=by unfold o8;rw[aa]
def mR (p:Int)(iv:Int->Int)(rows:Tab)(w:Nat):Tab:=pX w (nj p iv rows w)
def turnT (p:Int)(iv:Int->Int)(rows:Tab)(w:Nat):Tab:=o8 w (nj p iv rows w)
def oN (p:Int)(iv:Int->Int)(rows:Tab)(w:Nat):Tab:=o8 rows.length (nj p iv (turnT p iv rows w) rows.length)
structure Wz (p:Int)(n m:Nat)(t:Tab):Prop where
 len:t.length=n
 row:∀i,i<n->(t.getD i []).length=m
 red:∀i j,pl p (ent t i j)=ent t i j
structure Q8 (n w:Nat)(t:Tab)(d:Nat)(v:Nat->Nat):Prop where
 dn:d<=n
 lt:∀i,i<d->v i<w
 up:∀i j,i<j->j<d->v i<v j
 one:∀i,i<d->ent t i (v i)=1
 alone:∀i r,i<d->r<n->r≠i->ent t r (v i)=0
 before:∀i c,i<d->c<v i->ent t i c=0
 low:∀i c,d<=i->i<n->c<w->ent t i c=0
theorem Y9.left {n w:Nat}{rows t:Tab}{d:Nat}(c:Y9 p n w rows t d):Wz p n w (pX w t):=by
 refine⟨by rw[Hu,c.len],λi hi=>?_,λi j=>?_⟩
 ·unfold pX;rw[vI _ (by rw[c.len];exact hi),aM,c.row i hi];lia
 ·by_cases h:j<w
  ·rw[rA h,c.red]
  ·by_cases hi:i<n
   ·have:ent (pX w t) i j=0:=jw (by
     unfold pX;rw[vI _ (by rw[c.len];exact hi),aM];lia)
    rw[this,lO]
   ·rw[oM (by rw[Hu,c.len];lia),lO]
theorem Y9.right {n w:Nat}{rows t:Tab}{d:Nat}(c:Y9 p n w rows t d):Wz p n n (o8 w t):=by refine⟨by rw[Pk,c.len],λi hi=>?_,λi j=>by rw[yg,c.red]⟩;unfold o8;rw[vI _ (by rw[c.len];exact hi),a9,c.row i hi];lia
theorem Tt {iv:Int->Int}{rows:Tab}{n w:Nat}(hp:2<=p)(hiv:∀x,0<x->x<p->p ∣ iv x*x-1)(hn:rows.length=n)(hw:∀i,i<n->(rows.getD i []).length=w) :
  Wz p n w (mR p iv rows w)/\Wz p n n (turnT p iv rows w)/\Wz p n n (oN p iv rows w)/\tL p (turnT p iv rows w) rows w=mR p iv rows w/\(∃d v,Q8 n w (mR p iv rows w) d v) /\
   tL p (turnT p iv rows w) (oN p iv rows w) n=uN n/\tL p (oN p iv rows w) (turnT p iv rows w) n=uN n:=by
 have c:=Aw hp hiv hn hw;have tF:Wz p n w (mR p iv rows w):=c.left;have tT:Wz p n n (turnT p iv rows w):=c.right;have eT:ent (turnT p iv rows w)=λi j=>ent (nj p iv rows w) i (w+j):=by funext i j;exact yg
 have c2:=Aw (rows:=turnT p iv rows w) hp hiv tT.len tT.row;have eB:oN p iv rows w=o8 n (nj p iv (turnT p iv rows w) n):=by unfold oN;rw[hn]
 have tB:Wz p n n (oN p iv rows w):=by rw[eB];exact c2.right
 have eb:ent (oN p iv rows w)=λi j=>ent (nj p iv (turnT p iv rows w) n) i (n+j):=by rw[eB];funext i j;exact yg
 obtain⟨Bi,hBi⟩:=c.inv;rw[<- eT]at hBi;have bt:Al p n n (mm n (ent (oN p iv rows w)) (ent (turnT p iv rows w))) pq:=by rw[eb];exact c2.unit hp ⟨Bi,hBi⟩
 have tb:Al p n n (mm n (ent (turnT p iv rows w)) (ent (oN p iv rows w))) pq:=hBi.left bt;have p0:0<p:=by lia
 have e1:Al p n n (ent (uN n)) pq:=.of λi j hi hj=>wj hi hj;refine⟨tF,tT,tB,?_,?_,?_,?_⟩
 ·refine G5 p0 tT.len tT.row tF.len tF.row tF.red ?_;rw[eT];exact(Al.of λi j hi hj=>rA hj:Al p n w (ent (mR p iv rows w)) (ent (nj p iv rows w))).trans c.mul
 ·obtain⟨v,v1,v2,v3,v4,v5⟩:=c.piv;refine⟨_,v,c.dn,v1,v2,λi hi=>?_,λi r hi hr hne=>?_,λi c' hi hc=>?_,λi c' h1 h2 h3=>?_⟩
  ·rw[show mR p iv rows w=pX w (nj p iv rows w) from rfl,rA (v1 i hi)];exact v3 i hi
  ·rw[show mR p iv rows w=pX w (nj p iv rows w) from rfl,rA (v1 i hi)];exact v4 i r hi hr hne
  ·rw[show mR p iv rows w=pX w (nj p iv rows w) from rfl,rA (by have:=v1 i hi;lia)];exact v5 i c' hi hc
  ·rw[show mR p iv rows w=pX w (nj p iv rows w) from rfl,rA h3];exact c.low i c' h1 h2 h3
 ·exact G5 p0 tT.len tT.row (uA n) (λi hi=>Bm hi) (λi j=>Ih hp i j) (e1.trans tb.symm)
 ·exact G5 p0 tB.len tB.row (uA n) (λi hi=>Bm hi) (λi j=>Ih hp i j) (e1.trans bt.symm)
def ofM (n m:Nat)(X:Mx):Tab:=(List.range n).map λi=>(List.range m).map λj=>X i j
theorem Og (n m:Nat)(X:Mx):(ofM n m X).length=n:=by unfold ofM;rw[aa,ao]
theorem Uv (h:i<n):(ofM n m X).getD i []=(List.range m).map λj=>X i j:=by rw[qW (by rw[Og];exact h)];unfold ofM;rw[bA,bu]
theorem WF (h:i<n)(hj:j<m):ent (ofM n m X) i j=X i j:=by show((ofM n m X).getD i []).getD j 0=_;rw[Uv h,K9 _ hj]
theorem WL {d w:Nat}{v:Nat->Nat}(h1:∀i,i<d->v i<w)(h2:∀i j,i<j->j<d->v i<v j):d<=w:=by
 have lo:∀i,i<d->i<=v i:=λi=>by
  induction i with
  |zero=>intro _;exact bq _
  |succ i ih=>intro hi;have:=ih (by lia);have:=h2 i (i+1) (by lia) hi;lia
 cases d with
 |zero=>exact bq _
 |succ d=>have:=lo d (by lia);have:=h1 d (by lia);lia
theorem unit_row (hp:2<=p)(h:Al p n n (mm n A B) pq)(hi:i<n)(hz:∀k,k<n->p ∣ A i k):False:=by
 have z:=h i i hi hi;have s:p ∣ mm n A B i i:=nJ λk hk=>bj (hz k hk);have u:pq i i=1:=ah rfl;rw[u]at z;have o:p ∣ 1:=by
  have e:(1:Int)=mm n A B i i-(mm n A B i i-1):=by lia
  rw[e];exact eV s z
 have:=fv (by decide) o;lia
theorem dep {iv:Int->Int}{r1 r2:Nat}(hp:2<=p)(hiv:∀x,0<x->x<p->p ∣ iv x*x-1)(h:r1<r2)(X:Mx):∃y:Nat->Int,(∃i,i<r2/\¬p ∣ y i)/\∀j,j<r1->p ∣ sm r2 λk=>y k*X k j:=by
 have c:=Aw (iv:=iv) (rows:=ofM r2 r1 X) (w:=r1) hp hiv (Og r2 r1 X) λi hi=>by rw[Uv hi,aa,ao]
 generalize nj p iv (ofM r2 r1 X) r1=t at c;generalize (Oi p iv (oJ p (ofM r2 r1 X)) r1).2=d at c;obtain⟨v,v1,v2,_⟩:=c.piv;have dl:=WL v1 v2;obtain⟨B,hB⟩:=c.inv;refine⟨λk=>ent t d (r1+k),?_,λj hj=>?_⟩
 ·by_cases q:∃i,i<r2/\¬p ∣ ent t d (r1+i)
  ·exact q
  ·exfalso;refine unit_row hp hB.ab (i:=d) (by lia) λk hk=>?_;by_cases z:p ∣ ent t d (r1+k)
   ·exact z
   ·exact absurd ⟨k,hk,z⟩ q
 ·have m1:=c.mul d j (by lia) hj;rw[c.low d j (aq _) (by lia) hj]at m1;have e:mm r2 (λi j=>ent t i (r1+j)) (ent (ofM r2 r1 X)) d j=sm r2 λk=>ent t d (r1+k)*X k j:=jz λk hk=>by rw[WF hk hj]
  rw[e]at m1;have:=bw.mpr m1;have e2:-(0-sm r2 λk=>ent t d (r1+k)*X k j)=sm r2 λk=>ent t d (r1+k)*X k j:=by lia
  rw[e2]at this;exact this
theorem Ht (T:Top K mg cFE cNO cNN cK cR):Ok P w K mg base 1 "unit_row" ["at","length"] (Iw K (Gr cR) (λas=>∃i n:Nat,as=[.int (i:Int),.int (n:Int)]/\i<n/\n<=1000) λas=>match as with
  |[.int i,.int n]=>QB n.toNat i.toNat
  |_=>[]):=by
 refine K1 T.KJ yu (λas ⟨a,b,h,_⟩=>by rw[h];rfl) (λf cdv A outer s H E hr=>⟨_,(jn (rZ (i:=2) yu.nd rfl (Or.inl rfl) (sS (nH (jm jo jq)) (xn 1) (λ_=>rfl)))
 (jn (rB 2 (xn 0) jo)
 (jt (Bb 2)))),λas hp=>?_⟩)
 obtain⟨i,n,rfl,hi,hn⟩:=hp;refine⟨⟨⟨⟨tJ,tJ⟩,tJ⟩,rfl,by show -(2:Int)^63<=(n:Int);lia,by show((n:Int)).toNat<=1000;lia⟩,λl el=>?_⟩;have el:l=List.replicate n 0:=el;have ll:l.length=n:=by rw[el,aG]
 refine⟨tJ,rfl,rfl,⟨by show -(l.length:Int)<=(i:Int);lia,by show(i:Int)<(l.length:Int);lia⟩,?_⟩;refine⟨rfl,?_⟩;show l.set (lC l.length (i:Int)) 1=QB ((n:Int)).toNat ((i:Int)).toNat;rw[Wh (by lia),el,aE,aE];rfl
theorem Cj (T:Top K mg cFE cNO cNN cK cR):Ok P w K mg base 2 "unit_table" ["length"] (ym K (Gr cR) (λas=>∃n:Nat,as=[.int (n:Int)]/\n<=1000) λas=>match as with
  |[.int n]=>jy (Le n.toNat)
  |_=>.non):=by
 refine xO T.Gy Cr (λas ⟨a,h,_⟩=>by rw[h];rfl) (λf cdv A outer s H E hr=>⟨_,(jt (jD (uK (YC (N':=["at","length"]) (cap:=[some 0]) (oO rfl rfl rfl rfl ⟨⟨rfl,.inr (.inl rfl),BR,.inl rfl,_,rfl,rfl⟩,tJ⟩ ⟨rfl,tJ⟩ rfl) rfl (by rfl) T.pJ (xn 0) (λ_ _ _=>(pO 0)) (λ_ _ _=>(j9 (tH (Ht T) hr (jm (xn 0) (jm (xn 1) jq))))))))),λas hp=>?_⟩);obtain⟨n,rfl,hn⟩:=hp;refine⟨⟨rfl,⟨by show(0:Int)<=(n:Int);lia,by show(n:Int)<=1000;lia⟩,λk hk=>?_⟩,?_⟩
 ·have hk:k<((n:Int)).toNat:=hk;exact⟨⟨rfl,rfl,tJ⟩,k,n,rfl,by lia,hn⟩
 ·show PV.lst ((List.range ((n:Int)).toNat).map λ(k:Nat)=>PV.ints (QB ((n:Int)).toNat ((k:Int)).toNat))=jy (Le ((n:Int)).toNat);unfold jy Le;rw[bE];rfl
theorem wB (T:Top K mg cFE cNO cNN cK cR):Ok P w K mg base 2 "plain_row" ["kind","row"] (Iw K (Gr cR) (λas=>∃z r,as=[.ob 0 z,.ints r]/\r.length<=1000) λas=>match as with
  |[.ob 0 z,.ints r]=>r.map (pl z)
  |_=>[]):=by
 refine K1 T.JD Gi (λas ⟨a,b,h,_⟩=>by rw[h];rfl) (λf cdv A outer s H E hr=>⟨_,(jt (mO (Bj (N':=["number","kind"]) (cap:=[some 0]) (oO rfl rfl rfl rfl ⟨⟨rfl,.inr (.inl rfl),BR,.inl rfl,_,rfl,rfl⟩,tJ⟩ ⟨rfl,tJ⟩ rfl) rfl (xl 1) (λ_ _ _=>(pO 0)) (λ_ _ _=>(qu 1 (pM T) hr (jm (xn 0) jq)))))),λas hp=>?_⟩);obtain⟨z,r,rfl,hr1⟩:=hp;exact⟨⟨rfl,hr1,λn _=>⟨rfl,⟨rfl,tJ⟩,tJ,tJ⟩⟩,rfl⟩
theorem Xx (h1:d<=f)(h2:f<t.length)(h3:ent t f a≠0)(h4:∀j,d<=j->j<f->ent t j a=0):JZ t a d=some f:=by
 cases e:JZ t a d with
 |none=>exact absurd (JG e h1 h2) h3
 |some g=>
  obtain⟨g1,g2,g3⟩:=wQ e;unfold JZ at e;obtain⟨_,i,hi,ei,hj⟩:=List.find?_eq_some_iff_getElem.mp e;have ei:d+i=g:=by rw[<- ei,bA,bu]
  by_cases c:g<f
  ·exact absurd (h4 g g1 c) g3
  ·by_cases c2:g=f
   ·rw[c2]
   ·exfalso;have q:=hj (f-d) (by lia);rw[bA,bu,show d+(f-d)=f by lia]at q;simp[h3]at q
theorem Uz (h:∀j,d<=j->j<t.length->ent t j a=0):JZ t a d=none:=by
 cases e:JZ t a d with
 |none=>rfl
 |some g=>obtain⟨g1,g2,g3⟩:=wQ e;exact absurd (h g g1 g2) g3
def Wy (t:Tab)(a d:Nat):PV:=match JZ t a d with
 |none=>.non
 |some f=>.int (f:Int)
theorem uL (T:Top K mg cFE cNO cNN cK cR):Ok P w K mg base 1 "first_not_nought" ["rows","at","done"] (ym K (Gr cR) (λas=>∃t,∃a d:Nat,as=[jy t,.int (a:Int),.int (d:Int)]/\t.length<=1000/\d<=t.length/\∀i,i<t.length->a<(t.getD i []).length) λas=>match as with
  |[.lst ps,.int a,.int d]=>Wy (ps.map kJ) a.toNat d.toNat
  |_=>.non):=by
 refine xO T.vy pZ (λas ⟨a,b,c,h,_⟩=>by rw[h];rfl) (λf cdv A outer s H E hr=>⟨_,(jn (O8 (k:=3) aO rfl (by rfl) T.pJ (xn 2) (mD T.j6 (xv 0)) pZ.nd rfl (Or.inl rfl)
 (jt (lQ (wz (um (jH (xl_of (jH (xv 0) (xn 3) (λ_ _=>rfl))) (xn 1) (λ_ _=>rfl))) jo)
 (jt (jD (xn 3)))
 kW)))
 (jt (jD Uw))),λas hp=>?_⟩)
 obtain⟨t,a,d,rfl,ht,hd,ha⟩:=hp;have el:((t.map PV.ints).length:Int)=(t.length:Int):=by rw[aa]
 have goalF:Wy ((t.map PV.ints).map kJ) ((a:Int)).toNat ((d:Int)).toNat=Wy t a d:=by rw[mX,aE,aE]
 refine⟨⟨rfl,rfl,tJ⟩,⟨by show -(2:Int)^62<=(d:Int);lia,by show(d:Int)<2^62;lia,by show -(2:Int)^62<=((t.map PV.ints).length:Int);lia,by show((t.map PV.ints).length:Int)<2^62;lia⟩,λi Z=>∃v,Z=[.fr (jy t),.fr (.int (a:Int)),.fr (.int (d:Int)),v]/\∀j,d<=j->j<d+i->ent t j a=0,⟨.un,rfl,λj h1 h2=>by lia⟩,?_,?_⟩
 ·rintro i Z hi ⟨v,rfl,hz⟩;have hi:i<(((t.map PV.ints).length:Int)-(d:Int)).toNat:=hi;have hi:d+i<t.length:=by lia
  have e1:(d:Int)+(i:Int)=((d+i:Nat):Int):=by lia
  have ev:kJ (lX (jy t) ((d:Int)+(i:Int)))=t.getD (d+i) []:=by rw[e1];exact BJ hi
  have ev2:Ha (lX (.ints (kJ (lX (jy t) ((d:Int)+(i:Int))))) (a:Int))=ent t (d+i) a:=by rw[ev];show(t.getD (d+i) []).getD (lC (t.getD (d+i) []).length (a:Int)) 0=_;rw[Wh (ha _ hi)];rfl
  have h1:oY (jy t) ((d:Int)+(i:Int)):=by rw[e1];exact xV hi
  have h2:lX (jy t) ((d:Int)+(i:Int))=.ints (kJ (lX (jy t) ((d:Int)+(i:Int)))):=by rw[e1];exact xM hi
  refine⟨⟨⟨⟨⟨⟨rfl,rfl,h1⟩,h2⟩,rfl,?_⟩,rfl⟩,tJ⟩,λq=>?_,λq=>?_⟩
  ·show oY (.ints (kJ (lX (jy t) ((d:Int)+(i:Int))))) (a:Int);rw[ev];exact Od (ha _ hi)
  ·have q:¬Ha (lX (.ints (kJ (lX (jy t) ((d:Int)+(i:Int))))) (a:Int))=0:=q;rw[ev2]at q;refine⟨rfl,?_⟩;show PV.int ((d:Int)+(i:Int))=Wy ((t.map PV.ints).map kJ) ((a:Int)).toNat ((d:Int)).toNat;rw[goalF];unfold Wy;rw[Xx (by lia) hi q hz,e1]
  ·have q:¬¬Ha (lX (.ints (kJ (lX (jy t) ((d:Int)+(i:Int))))) (a:Int))=0:=q;rw[ev2]at q;refine⟨_,rfl,λj h1 h2=>?_⟩;by_cases c:j=d+i
   ·rw[c];exact Classical.not_not.mp q
   ·exact hz j h1 (by lia)
 ·rintro Z ⟨v,rfl,hz⟩;have hz:∀j,d<=j->j<d+(((t.map PV.ints).length:Int)-(d:Int)).toNat->ent t j a=0:=hz;refine⟨tJ,?_⟩;show PV.non=Wy ((t.map PV.ints).map kJ) ((a:Int)).toNat ((d:Int)).toNat;rw[goalF];unfold Wy;rw[Uz λj h1 h2=>hz j h1 (by lia)]
theorem V6 (xs:List PV)(b:Nat):qU xs none (some (b:Int))=xs.take b:=by
 unfold qU;rw[HT.sIx_nat,HT.sIx_none,iH,gz];by_cases h:b<=xs.length
 ·rw[dk h]
 ·rw[eO (by lia),cf (aq _),cf (by lia)]
theorem Qh (xs:List PV)(a:Nat):qU xs (some (a:Int)) none=xs.drop a:=by
 unfold qU;rw[HT.sIx_nat,HT.sIx_none];by_cases h:a<=xs.length
 ·rw[dk h,cf (by rw[a9];lia)]
 ·rw[eO (by lia),cQ (aq _),cQ (by lia),gR]
theorem Rw (xs:List PV)(hb:b<=xs.length)(h:a<=b):qU xs (some (a:Int)) (some (b:Int))=(xs.drop a).take (b-a):=by unfold qU;rw[HT.sIx_nat,HT.sIx_nat,dk hb,dk (by lia)]
theorem wJ (T:Top K mg cFE cNO cNN cK cR):Ok P w K mg base 1 "with_row_moved" ["rows","found","done"] (ym K (Gr cR) (λas=>∃t,∃f d:Nat,as=[jy t,.int (f:Int),.int (d:Int)]/\t.length<=300/\d<=f/\f<t.length) λas=>match as with
  |[.lst ps,.int f,.int d]=>jy (p7 (ps.map kJ) f.toNat d.toNat)
  |_=>.non):=by
 refine xO T.xW vY (λas ⟨a,b,c,h,_⟩=>by rw[h];rfl) (λf cdv A outer s H E hr=>⟨_,(jt (jD (uK (Lg (uK (Lg (uK (Lg (uK (Ak (o6 (xv 0)) pI (mJ (xn 2)))) (uK (sE (jm (xl_of (jH (xv 0) (xn 1) (λ_ _=>rfl))) jq))))) (uK (Ak (o6 (xv 0)) (mJ (xn 2)) (mJ (xn 1)))))) (uK (Ak (o6 (xv 0)) (mJ (lR (xn 1) jo)) pI)))))),λas hp=>?_⟩);obtain⟨t,f,d,rfl,ht,hdf,hf⟩:=hp;have el:(t.map PV.ints).length=t.length:=aa _;have e1:qU (t.map PV.ints) none (some (d:Int))=(t.take d).map PV.ints:=by rw[V6,iZ]
 have e2:qU (t.map PV.ints) (some (d:Int)) (some (f:Int))=((t.drop d).take (f-d)).map PV.ints:=by rw[Rw _ (by lia) hdf,<- iY,<- iZ]
 have e3:qU (t.map PV.ints) (some ((f:Int)+1)) none=(t.drop (f+1)).map PV.ints:=by rw[show(f:Int)+1=((f+1:Nat):Int) by lia,Qh,iY]
 have e4:kJ (lX (jy t) (f:Int))=t.getD f []:=BJ hf;refine⟨⟨⟨⟨⟨⟨rfl,rfl⟩,tJ,rfl⟩,⟨⟨⟨rfl,rfl,xV hf⟩,xM hf⟩,tJ⟩,?_⟩,⟨⟨rfl,rfl⟩,rfl,rfl⟩,?_⟩,⟨⟨rfl,rfl⟩,⟨rfl,tJ⟩,tJ⟩,?_⟩,?_⟩
 ·show(qU (t.map PV.ints) none (some (d:Int))).length+[PV.ints (kJ (lX (jy t) (f:Int)))].length<=sizeLine;rw[e1,aa,aM];exact bX (small1000 (by show min d t.length+1<=1000;lia))
 ·show(qU (t.map PV.ints) none (some (d:Int))++[PV.ints (kJ (lX (jy t) (f:Int)))]).length+(qU (t.map PV.ints) (some (d:Int)) (some (f:Int))).length<=sizeLine;rw[e1,e2,ai,aa,aa,aM,aM,a9];exact bX (small1000 (by show min d t.length+1+min (f-d) (t.length-d)<=1000;lia))
 ·show(qU (t.map PV.ints) none (some (d:Int))++[PV.ints (kJ (lX (jy t) (f:Int)))]++qU (t.map PV.ints) (some (d:Int)) (some (f:Int))).length+(qU (t.map PV.ints) (some ((f:Int)+1)) none).length<=sizeLine;rw[e1,e2,e3,ai,ai,aa,aa,aa,aM,aM,a9,a9];exact bX (small1000 (by show min d t.length+1+min (f-d) (t.length-d)+(t.length-(f+1))<=1000;lia))
 ·show PV.lst (qU (t.map PV.ints) none (some (d:Int))++[PV.ints (kJ (lX (jy t) (f:Int)))]++qU (t.map PV.ints) (some (d:Int)) (some (f:Int))++qU (t.map PV.ints) (some ((f:Int)+1)) none)=jy (p7 ((t.map PV.ints).map kJ) ((f:Int)).toNat ((d:Int)).toNat);rw[e1,e2,e3,e4,mX,aE,aE];unfold jy p7;rw[bK,bK,bK];rfl
theorem Rq (z:Int)(row first:Li)(a:Nat):(row.zip first).map (λq=>pl z (q.1-row.getD a 0*q.2))=Bv z row first a:=by unfold Bv;rw[List.zip,hJ]
theorem Ay (T:Top K mg cFE cNO cNN cK cR):Ok P w K mg base 2 "row_without" ["kind","row","at","first"] (Iw K (Gr cR) (λas=>∃z row,∃a:Nat,∃first,as=[.ob 0 z,.ints row,.int (a:Int),.ints first]/\row.length<=1000/\a<row.length/\Bd row/\Bd first) λas=>match as with
  |[.ob 0 z,.ints row,.int a,.ints first]=>Bv z row first a.toNat
  |_=>[]):=by
 refine K1 T.Cg Ag (λas ⟨a,b,c,d,h,_⟩=>by rw[h];rfl) (λf cdv A outer s H E hr=>⟨_,(jt (mO (Y6 (N':=["number","other","kind","row","at"]) (cap:=[some 0,some 1,some 2]) (oO rfl rfl rfl rfl ⟨⟨rfl,.inr (.inl rfl),BR,.inl rfl,_,rfl,rfl⟩,⟨⟨rfl,.inr (.inl rfl),BR,.inl rfl,_,rfl,rfl⟩,⟨⟨rfl,.inr (.inl rfl),BR,.inl rfl,_,rfl,rfl⟩,tJ⟩⟩⟩ ⟨rfl,⟨rfl,⟨rfl,tJ⟩⟩⟩ rfl) rfl (by rfl) T.Ve (rdX (xl 1)) (rdX (xl 3)) (λ_ _ _=>(pg_tup rfl (pgs_cons (pO 0) (pgs_cons (pO 1) pgs_nil)))) (λ_ _ _=>(qu 2 (pM T) hr (jm (oR (xn 0) (nM (lV 3 (xn 4) (λ_ _=>rfl)) (xn 1))) jq)))))),λas hp=>?_⟩);obtain⟨z,row,a,first,rfl,hl,ha,hb,hf⟩:=hp
 refine⟨⟨⟨rfl,rfl⟩,hl,λn m h=>⟨rfl,⟨⟨rfl,⟨.inl rfl,rfl,by show -(row.length:Int)<=(a:Int);lia,by show(a:Int)<(row.length:Int);lia⟩,rfl,?_⟩,tJ⟩,tJ,tJ⟩⟩,?_⟩
 ·exact pU (n:=9000) (m:=9000) (Ys hb _) (hf m (dh h).2)
 ·show(row.zip first).map (λq=>pl z (q.1-row.getD (lC row.length (a:Int)) 0*q.2))=Bv z row first ((a:Int)).toNat
  rw[Wh ha,aE];exact Rq z row first a
def lJ (p x:Int):Int:=pl p (1*tu x p)
theorem BL (hp:jL p)(x:Int)(h0:0<x)(h1:x<p):Int.gcd x p=1/\p ∣ lJ p x*x-1:=by
 have p2:2<=p:=hp.1;have g:Int.gcd x p=1:=by
  have h3:¬x % p=0:=by rw[bp (by lia) h1];lia
  have:=GR hp h3 1;rw[iU]at this;exact this
 refine⟨g,?_⟩;obtain⟨e1,_⟩:=hov (z:=p) p2 g 1 (lJ p x) (by rw[kZ (by lia)];exact bp (by lia) (by lia)) rfl;have:pl p (lJ p x*x)=pl p 1:=by rw[e1,kZ (by lia)];exact(bp (by lia) (by lia)).symm
 exact(qF p _ _).mp this
theorem Tq (hp:jL p)(h:pl p x=x):x.natAbs<2^9000:=by
 have:=Aj (z:=p) (n:=x) (by have:=hp.1;lia);rw[h]at this;have h2:=hp.2.1;have:x.natAbs<=2^14:=by lia
 exact aV this (bx (by decide) (by decide))
theorem Vt (hp:jL p)(h:∀i j,pl p (ent t i j)=ent t i j)(i:Nat):Bd (t.getD i []):=λm hm=>by obtain⟨j,_,e⟩:=FM.mem_getD hm;have:=h i j;unfold ent at this;rw[e]at this;exact Tq hp this
theorem rT (T:Top K mg cFE cNO cNN cK cR):Ok P w K mg base 3 "with_column_cleared" ["kind","rows","at","done"] (ym K (Gr cR) (λas=>∃p t,∃a d m:Nat,as=[.ob 0 p,jy t,.int (a:Int),.int (d:Int)]/\jL p/\t.length<=1000/\d<t.length/\m<=1000/\a<m/\(∀i,i<t.length->(t.getD i []).length=m)/\(∀i j,pl p (ent t i j)=ent t i j)/\ent t d a≠0) λas=>match as with
  |[.ob 0 p,.lst ps,.int a,.int d]=>jy (X4 p (lJ p) (ps.map kJ) a.toNat d.toNat)
  |_=>.non):=by
 refine xO T.sZ mK (λas ⟨a,b,c,d,e,h,_⟩=>by rw[h];rfl) (λf cdv A outer s H E hr=>⟨_,(jn (jA (i:=4) mK.nd rfl (Or.inr rfl) (um (ZS (Ft 0 (zE T) hr (jm jo (jm (um (jH (xl_of (jH (xv 1) (xn 3) (λ_ _=>rfl))) (xn 2) (λ_ _=>rfl))) jq))))))
 (jn (jG (i:=5) mK.nd rfl (Or.inr rfl) (j9 (tH (wB T) hr (jm (xv 0) (jm (j9 (Bj (N':=["number","factor"]) (cap:=[some 4]) (oO rfl rfl rfl rfl ⟨⟨rfl,.inr (.inl rfl),BR,.inl rfl,_,rfl,rfl⟩,tJ⟩ ⟨rfl,tJ⟩ rfl) rfl (xl_of (jH (xv 1) (xn 3) (λ_ _=>rfl))) (λ_ _ _=>(pO 0)) (λ_ _ _=>(nM (xn 1) (xn 0))))) jq)))))
 (jt (jD (uK (MP (N':=["place","row","first","done","kind","at"]) (cap:=[some 5,some 3,some 0,some 2]) (oO rfl rfl rfl rfl ⟨⟨rfl,.inr (.inl rfl),BR,.inl rfl,_,rfl,rfl⟩,⟨⟨rfl,.inr (.inl rfl),BR,.inl rfl,_,rfl,rfl⟩,⟨⟨rfl,.inr (.inl rfl),BR,.inl rfl,_,rfl,rfl⟩,⟨⟨rfl,.inr (.inl rfl),BR,.inl rfl,_,rfl,rfl⟩,tJ⟩⟩⟩⟩ ⟨rfl,⟨rfl,⟨rfl,⟨rfl,tJ⟩⟩⟩⟩ rfl) rfl (by rfl) T.lZ (o6 (xv 1)) (λ_ _ _=>(pg_tup rfl (pgs_cons (pO 0) (pgs_cons (pO 1) pgs_nil)))) (λ_ _ _=>(Q3 (tO (xn 0) (xn 3)) (xl 2) (j9 (tH (Ay T) hr (jm (xv 4) (jm (xl 1) (jm (xn 5) (jm (xl 2) jq)))))))))))))),λas hp=>?_⟩)
 obtain⟨p,t,a,d,m,rfl,hp,ht,hd,hm,ha,hrow,hred,hne⟩:=hp;have p2:2<=p:=hp.1;have h9:p.natAbs<2^9000:=by
  have:p.natAbs<=2^14:=by have:=hp.2.1;lia
  exact aV this (bx (by decide) (by decide))
 have o9:(1:Int).natAbs<2^9000:=aV (show(1:Int).natAbs<=2^14 by decide) (bx (by decide) (by decide));have x0:0<ent t d a/\ent t d a<p:=by have:=Aj (z:=p) (n:=ent t d a) (by lia);rw[hred]at this;lia
 obtain⟨g,_⟩:=BL hp _ x0.1 x0.2;have ev:kJ (lX (jy t) (d:Int))=t.getD d []:=BJ hd;have hla:a<(t.getD d []).length:=by rw[hrow d hd];exact ha
 have ev2:Ha (lX (.ints (kJ (lX (jy t) (d:Int)))) (a:Int))=ent t d a:=by rw[ev];show(t.getD d []).getD (lC (t.getD d []).length (a:Int)) 0=_;rw[Wh hla];rfl
 have eF:G7 cNO p [1,Ha (lX (.ints (kJ (lX (jy t) (d:Int)))) (a:Int))]=.inl (lJ p (ent t d a)):=by rw[ev2];exact W3 g
 refine⟨⟨⟨⟨rfl,⟨tJ,⟨⟨⟨⟨rfl,rfl,xV hd⟩,xM hd⟩,rfl,?_⟩,rfl⟩,tJ⟩,tJ,?_⟩,?_⟩,?_⟩,λfac efac=>?_⟩
 ·show oY (.ints (kJ (lX (jy t) (d:Int)))) (a:Int);rw[ev];exact Od hla
 ·exact⟨p2,h9,o9⟩
 ·show(ye (G7 cNO p [1,Ha (lX (.ints (kJ (lX (jy t) (d:Int)))) (a:Int))])).isV;rw[eF];exact tJ
 ·show(ye (G7 cNO p [1,Ha (lX (.ints (kJ (lX (jy t) (d:Int)))) (a:Int))])).get=.int (Ha (ye (G7 cNO p [1,Ha (lX (.ints (kJ (lX (jy t) (d:Int)))) (a:Int))])).get);rw[eF];rfl
 have efac:fac=Ha (ye (G7 cNO p [1,Ha (lX (.ints (kJ (lX (jy t) (d:Int)))) (a:Int))])).get:=efac;rw[eF]at efac;refine lF (Z':=[.fr (.ob 0 p),.fr (jy t),.fr (.int (a:Int)),.fr (.int (d:Int)),.fr (.int fac),.un]) rfl ?_;have fb:fac.natAbs<2^9000:=by rw[efac];exact Tq hp (uq _ _)
 have hBd:=Vt hp hred;refine⟨⟨⟨rfl,⟨⟨⟨rfl,rfl,xV hd⟩,xM hd⟩,?_,λn hn=>?_⟩,tJ⟩,?_⟩,λfirst ef=>?_⟩
 ·show(kJ (lX (jy t) (d:Int))).length<=1000;rw[ev,hrow d hd];exact hm
 ·have hn:n∈kJ (lX (jy t) (d:Int)):=hn;rw[ev]at hn;exact⟨rfl,rfl,pU (n:=9000) (m:=9000) fb (hBd d n hn)⟩
 ·refine⟨p,_,rfl,?_⟩;show((kJ (lX (jy t) (d:Int))).map _).length<=1000;rw[aa,ev,hrow d hd];exact hm
 have ef:first=((kJ (lX (jy t) (d:Int))).map λn=>fac*n).map (pl p):=ef
 rw[ev]at ef;have ef:first=yQ p fac (t.getD d []):=ef
 refine lF (Z':=[.fr (.ob 0 p),.fr (jy t),.fr (.int (a:Int)),.fr (.int (d:Int)),.fr (.int fac),.fr (.ints first)]) rfl ?_
 have fB:Bd first:=λn hn=>by rw[ef]at hn;obtain⟨y,_,rfl⟩:=aX.mp hn;exact Tq hp (uq _ _)
 have gi:∀i,i<t.length->(t.map PV.ints).getD i .non=.ints (t.getD i []):=λi hi=>HW hi;refine⟨⟨⟨rfl,rfl⟩,by show(t.map PV.ints).length<=1000;rw[aa];exact ht,λi q hq=>?_⟩,?_⟩
 ·have hq:(t.map PV.ints)[i]?=some q:=hq;rw[az]at hq;cases ei:t[i]? with
  |none=>rw[ei]at hq;cases hq
  |some r=>
   rw[ei]at hq;cases hq;have hi:i<t.length:=(aj.mp ei).1;have er:t.getD i []=r:=by rw[gQ,ei];rfl
   refine⟨⟨rfl,rfl⟩,λ_=>rfl,λ_=>⟨⟨rfl,rfl,rfl,rfl,tJ⟩,p,r,a,first,rfl,?_,?_,?_,fB⟩⟩
   ·rw[<- er,hrow i hi];exact hm
   ·rw[<- er,hrow i hi];exact ha
   ·rw[<- er];exact hBd i
 ·have fin:jy (X4 p (lJ p) ((t.map PV.ints).map kJ) ((a:Int)).toNat ((d:Int)).toNat)=.lst ((uT p fac t a d).map PV.ints):=by rw[mX,aE,aE,efac];rfl
  show PV.lst (List.mapIdx _ (t.map PV.ints))=jy (X4 p (lJ p) ((t.map PV.ints).map kJ) ((a:Int)).toNat ((d:Int)).toNat);rw[fin];refine congrArg PV.lst (d8 λi=>?_);unfold uT;rw[cD,az,az,cD,<- ef];cases t[i]? with
  |none=>rfl
  |some r=>
   show some (if (i:Int)=(d:Int) then PV.ints first else PV.ints (Bv p r first ((a:Int)).toNat))=some (PV.ints (if i=d then first else Bv p r first a))
   by_cases c:i=d
   ·rw[ah c,ah (by lia)]
   ·rw[ag c,ag (by lia),aE]
theorem oE (T:Top K mg cFE cNO cNN cK cR):Ok P w K mg base 4 "cleared_beside_units" ["kind","rows","width"] (ym K (Gr cR) (λas=>∃p rows,∃wd:Nat,as=[.ob 0 p,jy rows,.int (wd:Int)]/\jL p/\rows.length<=100/\wd<=100/\∀i,i<rows.length->(rows.getD i []).length=wd) λas=>match as with
  |[.ob 0 p,.lst ps,.int wd]=>jy (nj p (lJ p) (ps.map kJ) wd.toNat)
  |_=>.non):=by
 refine xO T.rY jF (λas ⟨a,b,c,h,_⟩=>by rw[h];rfl) (λf cdv A outer s H E hr=>⟨_,(jn (lW (i:=3) jF.nd rfl (Or.inl rfl) (xc (Cj T) hr (jm (mD T.j6 (xv 1)) jq)))
 (jn (Kc (i:=4) jF.nd rfl rfl (N':=["row","unit","kind"]) (cap:=[some 0]) (oO rfl rfl rfl rfl ⟨⟨rfl,.inr (.inl rfl),BR,.inl rfl,_,rfl,rfl⟩,tJ⟩ ⟨rfl,tJ⟩ rfl) rfl (by rfl) T.Ve (o6 (xv 1)) (o6 (xv 3)) (λ_ _ _=>(pg_tup rfl (pgs_cons (pO 0) (pgs_cons (pO 1) pgs_nil)))) (λ_ _ _=>(j9 (tH (wB T) hr (jm (xv 2) (jm (j9 (xY (xl 0) (xl 1))) jq))))) rfl)
 (jn (jA (i:=5) jF.nd rfl (Or.inl rfl) jo)
 (jn (qG (k:=6) aO rfl (by rfl) T.pJ (xn 2) jF.nd rfl (Or.inl rfl)
 (jn (lW (i:=7) jF.nd rfl (Or.inl rfl) (xc (uL T) hr (jm (xv 4) (jm (xn 6) (jm (xn 5) jq)))))
 (jt (lQ (VG (xv 7))
 (jn (lW (i:=4) jF.nd rfl (Or.inl rfl) (xc (rT T) hr (jm (xv 0) (jm (xc (wJ T) hr (jm (xv 4) (jm (xv 7) (jm (xn 5) jq)))) (jm (xn 6) (jm (xn 5) jq))))))
 (jt (zb (i:=5) jF.nd rfl (Or.inl rfl) jo tU)))
 kW))))
 (jt (jD (xv 4))))))),λas hp=>?_⟩)
 obtain⟨p,rows,wd,rfl,hp,hn,hw,hrow⟩:=hp;have p2:2<=p:=hp.1;have el:(rows.map PV.ints).length=rows.length:=aa _;refine⟨⟨⟨⟨rfl,tJ⟩,tJ⟩,rows.length,by show[PV.int ((rows.map PV.ints).length:Int)]=_;rw[el],by lia⟩,λus eus=>?_⟩;have eus:us=jy (Le (((rows.map PV.ints).length:Int)).toNat):=eus;rw[el,aE]at eus;subst eus;refine lF (Z':=[.fr (.ob 0 p),.fr (jy rows),.fr (.int (wd:Int)),.fr (jy (Le rows.length)),.un,.un,.un,.un]) rfl ?_;refine⟨⟨⟨⟨rfl,rfl⟩,⟨rfl,rfl⟩⟩,by show(rows.map PV.ints).length<=1000;lia,λq r hqr=>?_⟩,λt0 et0=>?_⟩
 ·obtain⟨a,ha,rfl⟩:=aX.mp (dh hqr).1;obtain⟨b,hb,rfl⟩:=aX.mp (dh hqr).2;have la:a.length=wd:=by obtain⟨i,hi,rfl⟩:=ce.mp ha;rw[<- qW hi];exact hrow i hi
  have lb:b.length=rows.length:=by obtain⟨i,_,rfl⟩:=aX.mp hb;exact G4 _ _
  refine⟨⟨rfl,⟨rfl,rfl,?_⟩,tJ⟩,p,a++b,rfl,?_⟩
  ·exact bX (small1000 (by show a.length+b.length<=1000;lia))
  ·rw[ai];lia
 have et0:t0=(oJ p rows).map PV.ints:=et0.trans (by
  show List.map _ ((rows.map PV.ints).zip ((Le rows.length).map PV.ints))=_;have e:(oJ p rows).map PV.ints=(rows.zip (Le rows.length)).map λq=>PV.ints ((q.1++q.2).map (pl p)):=by unfold oJ;rw[List.zip,hJ,hJ]
  rw[e,List.zip_map,bE];exact b7 λ⟨a,b⟩ _=>rfl)
 subst et0;refine⟨tJ,λd0 ed0=>?_⟩;subst ed0;refine lF (Z':=[.fr (.ob 0 p),.fr (jy rows),.fr (.int (wd:Int)),.fr (jy (Le rows.length)),.fr (jy (oJ p rows)),.fr (.int 0),.un,.un]) rfl ?_;have I:=EI.all (iv:=lJ p) (m:=wd+rows.length) p2 (λx h0 h1=>(BL hp x h0 h1).2) (Bo p rows) (λi hi=>by rw[zz hi,aa,ai,hrow i hi,G4]) (λi j=>HX);refine⟨rfl,⟨by show -(2:Int)^62<=(wd:Int);lia,by show(wd:Int)<2^62;lia⟩,λi Z=>∃v6 v7,Z=[.fr (.ob 0 p),.fr (jy rows),.fr (.int (wd:Int)),.fr (jy (Le rows.length)),.fr (jy (Oi p (lJ p) (oJ p rows) i).1),.fr (.int ((Oi p (lJ p) (oJ p rows) i).2:Int)),v6,v7],⟨.un,.un,rfl⟩,?_,?_⟩
 ·rintro i Z hi ⟨v6,v7,rfl⟩;have hi:i<((wd:Int)).toNat:=hi;have hi:i<wd:=by lia
  have Ii:=I i (by lia);generalize hs:Oi p (lJ p) (oJ p rows) i=st at Ii ⊢;obtain⟨t,d⟩:=st;have Ii:EI p rows.length (wd+rows.length) (oJ p rows) i t d:=Ii;have en:Oi p (lJ p) (oJ p rows) (i+1)=Vk p (lJ p) i (t,d):=by show Vk p (lJ p) i (Oi p (lJ p) (oJ p rows) i)=_;rw[hs]
  have tl:=Ii.len;have dn:=Ii.dn;have tr:=Ii.row;refine⟨⟨⟨rfl,rfl,rfl,tJ⟩,t,i,d,rfl,by lia,by lia,λj hj=>by rw[tr j (by lia)];lia⟩,λfo efo=>?_⟩;have efo:fo=Wy ((t.map PV.ints).map kJ) ((i:Int)).toNat ((d:Int)).toNat:=efo;rw[mX,aE,aE]at efo;unfold Wy at efo;cases hf:JZ t i d with
  |none=>
   rw[hf]at efo;have efo:fo=.non:=efo;subst efo;refine⟨⟨rfl,tJ⟩,λq=>absurd rfl q,λ_=>?_⟩;have e2:Vk p (lJ p) i (t,d)=(t,d):=by
    unfold Vk;show(match JZ t i d with|none=>(t,d)|some f=>_)=_
    rw[hf]
   refine⟨.fr (.int (i:Int)),.fr .non,?_⟩;rw[en,e2];rfl
  |some f=>
   rw[hf]at efo;have efo:fo=.int (f:Int):=efo;subst efo;obtain⟨f1,f2,f3⟩:=wQ hf;have e2:Vk p (lJ p) i (t,d)=(X4 p (lJ p) (p7 t f d) i d,d+1):=by
    unfold Vk;show(match JZ t i d with|none=>(t,d)|some f=>_)=_
    rw[hf]
   refine⟨⟨rfl,tJ⟩,λ_=>?_,λq=>absurd (λz=>by cases z) q⟩;have ml:(p7 t f d).length=t.length:=Jb f1 f2;have me:∀j k,j<t.length->ent (p7 t f d) j k=ent t (yW f d j) k:=λj k hj=>MT f1 f2 hj;have sd:yW f d d=f:=by unfold yW;rw[ag (by lia),ah rfl]
   have emv:jy (p7 ((t.map PV.ints).map kJ) ((f:Int)).toNat ((d:Int)).toNat)=jy (p7 t f d):=by rw[mX,aE,aE]
   refine⟨⟨⟨rfl,⟨⟨rfl,rfl,rfl,tJ⟩,t,f,d,rfl,by lia,f1,f2⟩,rfl,rfl,tJ⟩,p,p7 t f d,i,d,wd+rows.length,?_,hp,by lia,by lia,by lia,by lia,λj hj=>?_,λj k=>?_,?_⟩,λt2 et2=>?_⟩
   ·show[PV.ob 0 p,jy (p7 ((t.map PV.ints).map kJ) ((f:Int)).toNat ((d:Int)).toNat),.int (i:Int),.int (d:Int)]=_;rw[emv]
   ·rw[zf f1 f2 (by lia)];exact tr _ (by have:=Fx (i:=j) f1 f2 (by lia);lia)
   ·by_cases c:j<t.length
    ·rw[me j k c];exact Ii.red _ _
    ·rw[oM (by lia),lO]
   ·rw[me d i (by lia),sd];exact f3
   have et2:t2=jy (X4 p (lJ p) (((p7 ((t.map PV.ints).map kJ) ((f:Int)).toNat ((d:Int)).toNat).map PV.ints).map kJ) ((i:Int)).toNat ((d:Int)).toNat):=et2;rw[mX,mX,aE,aE,aE]at et2;subst et2;refine⟨rfl,tJ,tJ,λd2 ed2=>?_⟩;have ed2:d2=(d:Int)+1:=ed2;subst ed2;refine⟨.fr (.int (i:Int)),.fr (.int (f:Int)),?_⟩;rw[en,e2];rfl
 ·rintro Z ⟨v6,v7,rfl⟩;refine⟨rfl,?_⟩;show jy (Oi p (lJ p) (oJ p rows) ((wd:Int)).toNat).1=jy (nj p (lJ p) ((rows.map PV.ints).map kJ) ((wd:Int)).toNat);rw[mX,aE];rfl
def jM (rows:Tab):Nat:=(rows.getD 0 []).length
theorem Ku (T:Top K mg cFE cNO cNN cK cR):Ok P w K mg base 5 "echelon" ["kind","rows"] (ym K (Gr cR) (λas=>∃p rows,as=[.ob 0 p,jy rows]/\jL p/\rows.length<=100/\jM rows<=100/\∀i,i<rows.length->(rows.getD i []).length=jM rows) λas=>match as with
  |[.ob 0 p,.lst ps]=>.tup [jy (mR p (lJ p) (ps.map kJ) (jM (ps.map kJ))),jy (turnT p (lJ p) (ps.map kJ) (jM (ps.map kJ))),jy (oN p (lJ p) (ps.map kJ) (jM (ps.map kJ)))]
  |_=>.non):=by
 refine xO T.Qq qy (λas ⟨a,b,h,_⟩=>by rw[h];rfl) (λf cdv A outer s H E hr=>⟨_,(jn (lW (i:=2) qy.nd rfl (Or.inr rfl) (Q3 (abp (o6 (xv 1))) (mD T.j6 (xl_of (jH (xv 1) jo (λ_ _=>rfl)))) jo))
 (jn (lW (i:=3) qy.nd rfl (Or.inl rfl) (xc (oE T) hr (jm (xv 0) (jm (xv 1) (jm (xn 2) jq)))))
 (jn (Dg (i:=4) qy.nd rfl rfl (N':=["row","width"]) (cap:=[some 2]) (oO rfl rfl rfl rfl ⟨⟨rfl,.inr (.inl rfl),BR,.inl rfl,_,rfl,rfl⟩,tJ⟩ ⟨rfl,tJ⟩ rfl) rfl (o6 (xv 3)) (λ_ _ _=>(pO 0)) (λ_ _ _=>(j9 (pP (xl 0) (mJ (xn 1)) pI (λ_ _=>.inl rfl)))) rfl)
 (jn (Dg (i:=5) qy.nd rfl rfl (N':=["row","rows"]) (cap:=[some 1]) (oO rfl rfl rfl rfl ⟨⟨rfl,.inr (.inl rfl),BR,.inl rfl,_,rfl,rfl⟩,tJ⟩ ⟨rfl,tJ⟩ rfl) rfl (o6 (xc (oE T) hr (jm (xv 0) (jm (xv 4) (jm (mD T.j6 (xv 1)) jq))))) (λ_ _ _=>(pO 0)) (λ_ _ _=>(j9 (pP (xl 0) (mJ (mD T.j6 (xv 1))) pI (λ_ _=>.inl rfl)))) rfl)
 (jt (jD (rQ (jm (uK (Zh (N':=["row","width"]) (cap:=[some 2]) (oO rfl rfl rfl rfl ⟨⟨rfl,.inr (.inl rfl),BR,.inl rfl,_,rfl,rfl⟩,tJ⟩ ⟨rfl,tJ⟩ rfl) rfl (o6 (xv 3)) (λ_ _ _=>(pO 0)) (λ_ _ _=>(j9 (pP (xl 0) pI (mJ (xn 1)) (λ_ _=>.inl rfl)))))) (jm (xv 4) (jm (xv 5) jq)))))))))),λas hp=>?_⟩)
 obtain⟨p,rows,rfl,hp,hn,hw,hrow⟩:=hp;have p2:2<=p:=hp.1;have el:(rows.map PV.ints).length=rows.length:=aa _;have hiv:∀x,0<x->x<p->p ∣ lJ p x*x-1:=λx h0 h1=>(BL hp x h0 h1).2;have c1:=Aw (iv:=lJ p) (w:=jM rows) p2 hiv rfl hrow;have tT:Wz p rows.length rows.length (turnT p (lJ p) rows (jM rows)):=c1.right;have c2:=Aw (iv:=lJ p) (rows:=turnT p (lJ p) rows (jM rows)) p2 hiv tT.len tT.row;have ne0:¬rows.map PV.ints=[]->0<rows.length:=λq=>by
  cases rows with
  |nil=>exact absurd rfl q
  |cons a r=>exact gD _
 refine⟨⟨⟨rfl,rfl⟩,λq=>⟨⟨⟨rfl,tJ,xV (i:=0) (ne0 q)⟩,xM (i:=0) (ne0 q)⟩,tJ⟩,λ_=>tJ⟩,λwd ewd=>?_⟩;have ewd:wd=if ¬rows.map PV.ints=[] then PV.int ((kJ (lX (jy rows) 0)).length:Int) else .int 0:=ewd;have ewd:wd=.int (jM rows:Int):=by
  rw[ewd];split
  ·rename_i q;have:=BJ (i:=0) (ne0 q);rw[show(0:Int)=((0:Nat):Int) from rfl,this];rfl
  ·rename_i q;cases rows with
   |nil=>rfl
   |cons a r=>exact absurd (λz=>by cases z) q
 subst ewd;refine lF (Z':=[.fr (.ob 0 p),.fr (jy rows),.fr (.int (jM rows:Int)),.un,.un,.un]) rfl ?_;refine⟨⟨⟨rfl,rfl,rfl,tJ⟩,p,rows,jM rows,rfl,hp,hn,hw,hrow⟩,λwi ewi=>?_⟩;have ewi:wi=jy (nj p (lJ p) ((rows.map PV.ints).map kJ) ((jM rows:Int)).toNat):=ewi;rw[mX,aE]at ewi;subst ewi;have wl:(nj p (lJ p) rows (jM rows)).length=rows.length:=c1.len;refine lF (Z':=[.fr (.ob 0 p),.fr (jy rows),.fr (.int (jM rows:Int)),.fr (jy (nj p (lJ p) rows (jM rows))),.un,.un]) rfl ?_;refine⟨⟨⟨rfl,rfl⟩,?_,λq hq=>?_⟩,λtu etu=>?_⟩
 ·show((nj p (lJ p) rows (jM rows)).map PV.ints).length<=1000;rw[aa];lia
 ·obtain⟨r,_,rfl⟩:=aX.mp hq;exact⟨rfl,rfl,tJ⟩
 have etu:tu=(turnT p (lJ p) rows (jM rows)).map PV.ints:=etu.trans (by
  show List.map _ ((nj p (lJ p) rows (jM rows)).map PV.ints)=_;rw[bE];unfold turnT o8;rw[bE];refine b7 λr _=>?_;show PV.ints (oX r (some (jM rows:Int)) none)=PV.ints (r.drop (jM rows));rw[uF])
 subst etu;refine lF (Z':=[.fr (.ob 0 p),.fr (jy rows),.fr (.int (jM rows:Int)),.fr (jy (nj p (lJ p) rows (jM rows))),.fr (jy (turnT p (lJ p) rows (jM rows))),.un]) rfl ?_;have ebb:jy (nj p (lJ p) (((turnT p (lJ p) rows (jM rows)).map PV.ints).map kJ) (((rows.map PV.ints).length:Int)).toNat)=jy (nj p (lJ p) (turnT p (lJ p) rows (jM rows)) rows.length):=by rw[mX,aE,el]
 have el2:(nj p (lJ p) (((turnT p (lJ p) rows (jM rows)).map PV.ints).map kJ) (((rows.map PV.ints).length:Int)).toNat)=nj p (lJ p) (turnT p (lJ p) rows (jM rows)) rows.length:=by rw[mX,aE,el]
 refine⟨⟨⟨⟨⟨rfl,rfl,⟨rfl,tJ⟩,tJ⟩,p,turnT p (lJ p) rows (jM rows),rows.length,?_,hp,by rw[tT.len];exact hn,hn,by rw[tT.len];exact tT.row⟩,rfl⟩,?_,λq hq=>?_⟩,λba eba=>?_⟩
 ·show[PV.ob 0 p,jy (turnT p (lJ p) rows (jM rows)),.int ((rows.map PV.ints).length:Int)]=_;rw[el]
 ·show((nj p (lJ p) (((turnT p (lJ p) rows (jM rows)).map PV.ints).map kJ) (((rows.map PV.ints).length:Int)).toNat).map PV.ints).length<=1000;rw[el2,aa,c2.len];lia
 ·have hq:q∈(nj p (lJ p) (((turnT p (lJ p) rows (jM rows)).map PV.ints).map kJ) (((rows.map PV.ints).length:Int)).toNat).map PV.ints:=hq;obtain⟨r,_,rfl⟩:=aX.mp hq;exact⟨rfl,⟨rfl,tJ⟩,tJ⟩
 have eba:ba=(oN p (lJ p) rows (jM rows)).map PV.ints:=eba.trans (by
  show List.map _ ((nj p (lJ p) (((turnT p (lJ p) rows (jM rows)).map PV.ints).map kJ) (((rows.map PV.ints).length:Int)).toNat).map PV.ints)=_;rw[el2,bE];unfold oN o8;rw[bE];refine b7 λr _=>?_;show PV.ints (oX r (some ((rows.map PV.ints).length:Int)) none)=PV.ints (r.drop rows.length);rw[el,uF])
 subst eba;refine lF (Z':=[.fr (.ob 0 p),.fr (jy rows),.fr (.int (jM rows:Int)),.fr (jy (nj p (lJ p) rows (jM rows))),.fr (jy (turnT p (lJ p) rows (jM rows))),.fr (jy (oN p (lJ p) rows (jM rows)))]) rfl ?_;refine⟨⟨⟨⟨rfl,rfl⟩,?_,λq hq=>?_⟩,rfl,rfl,tJ⟩,?_⟩
 ·show((nj p (lJ p) rows (jM rows)).map PV.ints).length<=1000;rw[aa];lia
 ·have hq:q∈(nj p (lJ p) rows (jM rows)).map PV.ints:=hq;obtain⟨r,_,rfl⟩:=aX.mp hq;exact⟨rfl,tJ,rfl⟩
 ·have e:∀F:PV->PV,(∀r:List Int,F (.ints r)=.ints (r.take (jM rows)))->((nj p (lJ p) rows (jM rows)).map PV.ints).map F=(mR p (lJ p) rows (jM rows)).map PV.ints:=λF hF=>by rw[bE];unfold mR pX;rw[bE];exact b7 λr _=>hF r
  have fin:PV.tup [jy (mR p (lJ p) ((rows.map PV.ints).map kJ) (jM ((rows.map PV.ints).map kJ))),jy (turnT p (lJ p) ((rows.map PV.ints).map kJ) (jM ((rows.map PV.ints).map kJ))),jy (oN p (lJ p) ((rows.map PV.ints).map kJ) (jM ((rows.map PV.ints).map kJ)))]=PV.tup [.lst ((mR p (lJ p) rows (jM rows)).map PV.ints),jy (turnT p (lJ p) rows (jM rows)),jy (oN p (lJ p) rows (jM rows))]:=by rw[mX];rfl
  show PV.tup [.lst (((nj p (lJ p) rows (jM rows)).map PV.ints).map _),jy (turnT p (lJ p) rows (jM rows)),jy (oN p (lJ p) rows (jM rows))]=_;refine jk ?_ fin.symm;rw[e _ λr=>?_];show PV.ints (oX r none (some (jM rows:Int)))=PV.ints (r.take (jM rows));rw[N6]
def yN (F T:Tab):Tab:=((F.zip T).filter λq=>decide (q.1=List.replicate q.1.length 0)).map λq=>q.2
theorem Ad {pr:List Int->Bool}:∀{F T:Tab} {d:Nat},F.length=T.length->(∀i (h:i<F.length),pr F[i]=decide (d<=i))->((F.zip T).filter λq=>pr q.1).map (λq=>q.2)=T.drop d
 |[],T,d,h,_=>by have:T=[]:=dM.mp h.symm;rw[this,List.drop_nil];rfl
 |a::F,[],d,h,_=>by cases h
 |a::F,b::T,d,h,k=>by
  have h':F.length=T.length:=Nat.succ.inj h;have k0:=k 0 (gD _);have k0:pr a=decide (d<=0):=k0;have kS:∀i (h:i<F.length),pr F[i]=decide (d<=i+1):=λi hi=>k (i+1) (Nat.succ_lt_succ hi);rw[dz,List.filter_cons];cases d with
  |zero=>rw[ah (by show pr a=true;rw[k0];rfl),bM,Ad (d:=0) h' λi hi=>by rw[kS i hi];rfl];rfl
  |succ d=>rw[ag (by show ¬pr a=true;rw[k0,aN (by lia)];decide),Ad (d:=d) h' λi hi=>by rw[kS i hi];exact decide_eq_decide.mpr (by lia)];rfl
theorem WN (hS:Q8 n m F d v)(hF:F.length=n)(hrow:∀i,i<n->(F.getD i []).length=m)(hT:T.length=n):yN F T=T.drop d:=by
 unfold yN;refine Ad (pr:=λr=>decide (r=List.replicate r.length 0)) (F:=F) (T:=T) (by lia) λi hi=>?_;have e:=qW hi;have hl:F[i].length=m:=by rw[<- e];exact hrow i (by lia)
 by_cases c:d<=i
 ·rw[aK c];refine aK ?_;refine cF (by rw[aG]) λj h1 h2=>?_;rw[cS];have:=hS.low i j c (by lia) (by lia);unfold ent at this;rw[e,jE h1]at this;exact this
 ·rw[aN c];refine aN λz=>?_;have:=hS.one i (by lia);unfold ent at this;rw[e,z,jE (by rw[aG,hl];exact hS.lt i (by lia)),cS]at this;exact absurd this (by decide)
theorem Df (T:Top K mg cFE cNO cNN cK cR):Ok P w K mg base 6 "kernel" ["kind","rows"] (ym K (Gr cR) (λas=>∃p rows,as=[.ob 0 p,jy rows]/\jL p/\rows.length<=100/\jM rows<=100/\∀i,i<rows.length->(rows.getD i []).length=jM rows) λas=>match as with
  |[.ob 0 p,.lst ps]=>jy (yN (mR p (lJ p) (ps.map kJ) (jM (ps.map kJ))) (turnT p (lJ p) (ps.map kJ) (jM (ps.map kJ))))
  |_=>.non):=by
 refine xO T.Tr CW (λas ⟨a,b,h,_⟩=>by rw[h];rfl) (λf cdv A outer s H E hr=>⟨_,(jn (lW (i:=2) CW.nd rfl (Or.inl rfl) (xc (Ku T) hr (jm (xv 0) (jm (xv 1) jq))))
 (jt (jD (uK (Uu (N':=["row","turning"]) (cap:=[]) (oO rfl rfl rfl rfl tJ tJ rfl) rfl (by rfl) T.Ve (o6 (jH (xv 2) jo (λ_ _=>rfl))) (o6 (jH (xv 2) jo (λ_ _=>rfl))) (λ_ _ _=>(pg_tup rfl (pgs_cons (pO 0) (pgs_cons (pO 1) pgs_nil)))) (λ_ _ _=>(Yy hr.units (rdX (xl 0)) (rdX (j9 (sS (nH (jm jo jq)) (kY 0 T.j6) (λ_=>rfl)))))) (λ_ _ _=>(xl 1))))))),λas hp=>?_⟩)
 obtain⟨p,rows,rfl,hp,hn,hw,hrow⟩:=hp;have p2:2<=p:=hp.1;refine⟨⟨⟨rfl,rfl,tJ⟩,p,rows,rfl,hp,hn,hw,hrow⟩,λtold e=>?_⟩;have e:told=.tup [jy (mR p (lJ p) ((rows.map PV.ints).map kJ) (jM ((rows.map PV.ints).map kJ))),jy (turnT p (lJ p) ((rows.map PV.ints).map kJ) (jM ((rows.map PV.ints).map kJ))),jy (oN p (lJ p) ((rows.map PV.ints).map kJ) (jM ((rows.map PV.ints).map kJ)))]:=e;rw[mX]at e;obtain⟨tF,tT,tB,_,_,_,_⟩:=Tt (iv:=lJ p) p2 (λx h0 h1=>(BL hp x h0 h1).2) rfl hrow;have fin:jy (yN (mR p (lJ p) ((rows.map PV.ints).map kJ) (jM ((rows.map PV.ints).map kJ))) (turnT p (lJ p) ((rows.map PV.ints).map kJ) (jM ((rows.map PV.ints).map kJ))))=.lst ((yN (mR p (lJ p) rows (jM rows)) (turnT p (lJ p) rows (jM rows))).map PV.ints):=by rw[mX];rfl
 generalize mR p (lJ p) rows (jM rows)=fm at *
 generalize turnT p (lJ p) rows (jM rows)=tu at *
 generalize oN p (lJ p) rows (jM rows)=ba at *
 subst e;have fl:=tF.len;refine lF (Z':=[.fr (.ob 0 p),.fr (jy rows),.fr (.tup [jy fm,jy tu,jy ba])]) rfl ?_;refine⟨⟨⟨⟨⟨rfl,tJ,by show -(3:Int)<=0/\(0:Int)<3;decide⟩,rfl⟩,⟨⟨rfl,tJ,by show -(3:Int)<=1/\(1:Int)<3;decide⟩,rfl⟩⟩,by show(fm.map PV.ints).length<=1000;rw[aa];lia,λq r hqr=>?_⟩,?_⟩
 ·obtain⟨a,ha,rfl⟩:=aX.mp (dh hqr).1;obtain⟨b,_,rfl⟩:=aX.mp (dh hqr).2;have la:a.length=jM rows:=by obtain⟨i,hi,rfl⟩:=ce.mp ha;rw[<- qW hi];exact tF.row i (by lia)
  exact⟨⟨rfl,⟨⟨⟨tJ,tJ⟩,tJ⟩,.inl rfl,by show -(2:Int)^63<=(a.length:Int);lia,by show((a.length:Int)).toNat<=1000;lia⟩⟩,λ_=>rfl⟩
 ·have key:∀(pr:PV×PV->Bool) (g:PV×PV->PV),(∀a b:List Int,pr (.ints a,.ints b)=decide (a=List.replicate a.length 0))->(∀a b:List Int,g (.ints a,.ints b)=.ints b)->(((fm.map PV.ints).zip (tu.map PV.ints)).filter pr).map g=(yN fm tu).map PV.ints:=λpr g h1 h2=>by
   unfold yN;rw[List.zip_map,io,bE,bE];have e1:(λq:List Int×List Int=>decide (q.1=List.replicate q.1.length 0))=pr ∘ Prod.map PV.ints PV.ints:=by funext ⟨a,b⟩;exact(h1 a b).symm
   rw[e1];exact b7 λ⟨a,b⟩ _=>h2 a b
  show PV.lst (List.map _ (List.filter _ ((fm.map PV.ints).zip (tu.map PV.ints))))=_;refine jk ?_ fin.symm;rw[key _ _ (λa b=>?_) λa b=>rfl];exact decide_eq_decide.mpr Iff.rfl
theorem zG (f:Nat->Int)(a:Nat):∀b,sm (a+b) f=sm a f+sm b λi=>f (a+i)
 |0=>(bH _).symm
 |b+1=>by show sm (a+b) f+f (a+b)=_+(sm b (λi=>f (a+i))+f (a+b));rw[zG f a b,Int.add_assoc]
structure yz (p:Int)(N W:Nat)(rows t:Tab):Prop where
 len:∀y∈t,y.length=N
 red:∀y∈t,∀j,pl p (y.getD j 0)=y.getD j 0
 nul:∀y∈t,∀j,j<W->p ∣ sm N λk=>y.getD k 0*ent rows k j
 span:∀z:Nat->Int,(∀j,j<W->p ∣ sm N λk=>z k*ent rows k j)->∃c:Nat->Int,∀k,k<N->p ∣ z k-sm t.length λi=>c i*(t.getD i []).getD k 0
 le:t.length<=N
theorem Mq {a b t:Tab}{n l w:Nat}(hp:0<p)(ha:a.length=n)(hl:∀i,i<n->(a.getD i []).length=l)(h:tL p a b w=t):Al p n w (mm l (ent a) (ent b)) (ent t):=λi j hi hj=>by rw[<- h,Jy (by lia) (hl i hi) hj];exact⟨mm l (ent a) (ent b) i j / p,by have:=dB (mm l (ent a) (ent b) i j) p;lia⟩
theorem Zm (hp:2<=p)(hiv:∀x,0<x->x<p->p ∣ iv x*x-1)(hn:rows.length=N)(hw:∀i,i<N->(rows.getD i []).length=W):yz p N W rows (yN (mR p iv rows W) (turnT p iv rows W)):=by
 obtain⟨tF,tT,tB,e1,⟨d,v,S⟩,_,e3⟩:=Tt (iv:=iv) hp hiv hn hw;have p0:0<p:=by lia
 have m1:=Mq p0 tT.len tT.row e1;have m3:=Mq p0 tB.len tB.row e3;rw[WN S tF.len tF.row tT.len];generalize mR p iv rows W=F at *
 generalize turnT p iv rows W=T at *
 generalize oN p iv rows W=B at *
 have dn:=S.dn;have tl:=tT.len;have at':∀i,i<N-d->(T.drop d).getD i []=T.getD (d+i) []:=λi hi=>by rw[gQ,dS,<- gQ]
 have mem:∀y∈T.drop d,∃i,d<=i/\i<N/\y=T.getD i []:=λy hy=>by obtain⟨i,hi,rfl⟩:=ce.mp hy;rw[a9]at hi;refine⟨d+i,by lia,by lia,?_⟩;rw[List.getElem_drop,qW]
 have ld:(T.drop d).length=N-d:=by rw[a9,tl]
 refine⟨λy hy=>?_,λy hy j=>?_,λy hy j hj=>?_,λz hz=>?_,by lia⟩
 ·obtain⟨i,_,h2,rfl⟩:=mem y hy;exact tT.row i h2
 ·obtain⟨i,_,h2,rfl⟩:=mem y hy;exact tT.red i j
 ·obtain⟨i,h1,h2,rfl⟩:=mem y hy;have:=m1 i j h2 hj;rw[S.low i j h1 h2 hj,aT]at this;exact this
 ·have w1:∀k,k<N->p ∣ z k-sm N λi=>(sm N λm=>z m*ent B m i)*ent T i k:=λk hk=>by
   have a:sm N (λi=>(sm N λm=>z m*ent B m i)*ent T i k)=sm N λm=>z m*mm N (ent B) (ent T) m k:=by
    have b:sm N (λi=>(sm N λm=>z m*ent B m i)*ent T i k)=sm N λi=>sm N λm=>z m*(ent B m i*ent T i k):=jz λi _=>by rw[<- zA];exact jz λm _=>by rw[bO]
    rw[b,wy];refine jz λm _=>?_;rw[n6];rfl
   have b:sm N (λm=>z m*ent (uN N) m k)=z k:=by rw[qJ (k:=k) hk λm hm hne=>by rw[wj hm hk];unfold pq;rw[ag hne,aW],wj hk hk];unfold pq;rw[ah rfl,bR]
   rw[a];have c:p ∣ sm N λm=>z m*(mm N (ent B) (ent T) m k-ent (uN N) m k):=nJ λm hm=>aP (m3 m k hm hk);have e:(sm N λm=>z m*(mm N (ent B) (ent T) m k-ent (uN N) m k))+(sm N λm=>z m*ent (uN N) m k)=sm N λm=>z m*mm N (ent B) (ent T) m k:=by rw[<- sI];exact jz λm _=>by rw[<- f6,dU]
   rw[<- e,b];have:=bw.mpr c;have e2:∀x y:Int,x-(y+x) = -y:=λx y=>by lia
   rw[e2];exact this
  have w2:∀i,i<d->p ∣ sm N λm=>z m*ent B m i:=λi hi=>by
   have vj:=S.lt i hi;have a:p ∣ sm N λr=>(sm N λm=>z m*ent B m r)*ent F r (v i):=by
    have b:p ∣ sm N λr=>(sm N λm=>z m*ent B m r)*(mm N (ent T) (ent rows) r (v i)-ent F r (v i)):=nJ λr hr=>aP (m1 r (v i) hr vj);have c:p ∣ sm N λr=>(sm N λm=>z m*ent B m r)*mm N (ent T) (ent rows) r (v i):=by
     have e:(sm N λr=>(sm N λm=>z m*ent B m r)*mm N (ent T) (ent rows) r (v i))=sm N λk=>(sm N λr=>(sm N λm=>z m*ent B m r)*ent T r k)*ent rows k (v i):=by
      have e1:(sm N λr=>(sm N λm=>z m*ent B m r)*mm N (ent T) (ent rows) r (v i))=sm N λr=>sm N λk=>(sm N λm=>z m*ent B m r)*ent T r k*ent rows k (v i):=jz λr _=>by unfold mm;rw[<- n6];exact jz λk _=>by rw[bO]
      rw[e1,wy];exact jz λk _=>by rw[zA]
     rw[e];have f:p ∣ sm N λk=>(z k-sm N λr=>(sm N λm=>z m*ent B m r)*ent T r k)*ent rows k (v i):=nJ λk hk=>bj (w1 k hk);have g:=eV (hz (v i) vj) f;rw[<- vN]at g;have e2:(sm N λk=>z k*ent rows k (v i)-(z k-sm N λr=>(sm N λm=>z m*ent B m r)*ent T r k)*ent rows k (v i))=sm N λk=>(sm N λr=>(sm N λm=>z m*ent B m r)*ent T r k)*ent rows k (v i):=jz λk _=>by rw[<- fZ];congr 1;lia
     rw[e2]at g;exact g
    have g:=eV c b;rw[<- vN]at g;have e:(sm N λr=>(sm N λm=>z m*ent B m r)*mm N (ent T) (ent rows) r (v i)-(sm N λm=>z m*ent B m r)*(mm N (ent T) (ent rows) r (v i)-ent F r (v i)))=sm N λr=>(sm N λm=>z m*ent B m r)*ent F r (v i):=jz λr _=>by rw[<- cG];congr 1;lia
    rw[e]at g;exact g
   rw[qJ (k:=i) (by lia) λr hr hne=>by rw[S.alone i r hi hr hne,aW],S.one i hi,bR]at a;exact a
  refine⟨λi=>sm N λm=>z m*ent B m (d+i),λk hk=>?_⟩;have e:sm N (λi=>(sm N λm=>z m*ent B m i)*ent T i k)=sm d (λi=>(sm N λm=>z m*ent B m i)*ent T i k)+sm (N-d) λi=>(sm N λm=>z m*ent B m (d+i))*ent T (d+i) k:=by rw[<- zG,show d+(N-d)=N by lia]
  have a:=w1 k hk;rw[e]at a;have b:p ∣ sm d λi=>(sm N λm=>z m*ent B m i)*ent T i k:=nJ λi hi=>bj (w2 i hi);have c:=bD a b;have e2:∀x y w:Int,x-(y+w)+y=x-w:=λx y w=>by lia
  rw[e2]at c;rw[ld];have e3:(sm (N-d) λi=>(sm N λm=>z m*ent B m (d+i))*((T.drop d).getD i []).getD k 0)=sm (N-d) λi=>(sm N λm=>z m*ent B m (d+i))*ent T (d+i) k:=jz λi hi=>by rw[at' i hi];rfl
  rw[e3];exact c
theorem yz.ne {N W:Nat}{rows t:Tab}(K:yz p N W rows t){z:Nat->Int}(hz:∀j,j<W->p ∣ sm N λk=>z k*ent rows k j){i:Nat}(hi:i<N)(nd:¬p ∣ z i):0<t.length:=by refine Nat.pos_of_ne_zero λe=>?_;obtain⟨c,h⟩:=K.span z hz;have:=h i hi;rw[e]at this;have e2:(sm 0 λi_1=>c i_1*(t.getD i_1 []).getD i 0)=0:=rfl;rw[e2,aT]at this;exact nd this
def pL (p:Int)(t:Tab):Tab:=t.mapIdx λat' row=>row.set at' (pl p (row.getD at' 0-1))
theorem Hq (p:Int)(t:Tab):(pL p t).length=t.length:=by unfold pL;rw[cj]
theorem Om (hi:i<t.length):(pL p t).getD i []=(t.getD i []).set i (pl p ((t.getD i []).getD i 0-1)):=by unfold pL;rw[gQ,cD,ac hi,gQ,ac hi];rfl
def qT (p:Int)(b:List Int):Tab:=jQ p b (rm p b (pw [0,1] p.toNat)) (b.length-1)
namespace Pl
variable {p:Int}
def Go (a b:Pl p):Prop:=∃u,b=u*a
theorem Go.refl (a:Pl p):Go a a:=⟨1,(one_mul a).symm⟩
theorem Go.trans {a b c:Pl p}(h:Go a b)(k:Go b c):Go a c:=by obtain⟨u,rfl⟩:=h;obtain⟨v,rfl⟩:=k;exact⟨v*u,by rw[mul_assoc]⟩
theorem Go.zero (a:Pl p):Go a 0:=⟨0,(zero_mul a).symm⟩
theorem Go.add {a b c:Pl p}(h:Go a b)(k:Go a c):Go a (b+c):=by obtain⟨u,rfl⟩:=h;obtain⟨v,rfl⟩:=k;exact⟨u+v,by grind⟩
theorem Go.sub {a b c:Pl p}(h:Go a b)(k:Go a c):Go a (b-c):=by obtain⟨u,rfl⟩:=h;obtain⟨v,rfl⟩:=k;exact⟨u-v,by grind⟩
theorem Go.mul (h:Go a b)(c:Pl p):Go a (c*b):=by obtain⟨u,rfl⟩:=h;exact⟨c*u,by rw[mul_assoc]⟩
theorem Go.Zw (h:Go a b)(c:Pl p):Go a (b*c):=by rw[mul_comm];exact h.mul c
theorem Go.ph {a b c:Pl p}(h:Go a b)(e:b=c):Go a c:=e ▸ h
theorem Go.cut {a b c:Pl p}(h:Go a (b*c))(k:nA a b):Go a c:=by obtain⟨u,e⟩:=h;obtain⟨s,t,e2⟩:=k;exact⟨s*c+t*u,by grind⟩
theorem Go.both {a b c:Pl p}(h:Go a c)(k:Go b c)(q:nA a b):Go (a*b) c:=by obtain⟨u,rfl⟩:=k;have:Go a (b*u):=h.ph (mul_comm _ _);obtain⟨v,e⟩:=this.cut q;exact⟨v,by rw[e,mul_assoc]⟩
theorem nA.aa7 {a b c:Pl p}(h:nA a c)(k:Go b c):nA a b:=by obtain⟨u,rfl⟩:=k;obtain⟨s,t,e⟩:=h;exact⟨s,t*u,by grind⟩
theorem Eg (c d:Int):con p (c*d)=con p c*con p d:=by show con p (c*d)=con p c*mk p [d];rw[qY];refine ext λn=>?_;rw[jV];cases n<;>simp
theorem Gf (c d:Int):con p (c-d)=con p c-con p d:=by rw[Int.sub_eq_add_neg,zc,Gq];rfl
theorem Q9 (h:p ∣ c-d):con p c=con p d:=by
 have:=Mr h;rw[Gf]at this;generalize con p c=x at *
 generalize con p d=y at *
 grind
theorem HB (hp:jL p)(x y:Pl p):(x+y)^p.toNat=x^p.toNat+y^p.toNat:=by obtain⟨a,rfl⟩:=rep x;obtain⟨b,rfl⟩:=rep y;rw[mF,<- tZ,<- tZ,<- tZ,mF];obtain⟨Q,h⟩:=Rj hp [] a b;refine lA.mpr λn=>?_;have h:=h n;rw[jJ Q [],lU,aT]at h;exact h
theorem vR (hp:jL p)(c:Int):con p c^p.toNat=con p c:=by
 have p2:=hp.1;have e0:con p c=con p (((c % p).toNat:Nat):Int):=Q9 (by
  rw[bn (a8 _ (by lia))];exact⟨c / p,by have:=dB c p;lia⟩)
 rw[e0];generalize (c % p).toNat=m;show mk p [(m:Int)]^p.toNat=mk p [(m:Int)];rw[<- tZ];obtain⟨Q,h⟩:=pw_c hp [] m;refine lA.mpr λn=>?_;have h:=h n;rw[jJ Q [],lU,aT]at h;exact h
theorem Td (hp:jL p)(x y:Pl p):(x-y)^p.toNat=x^p.toNat-y^p.toNat:=by
 have e:x=(x-y)+y:=by grind
 have h:=HB hp (x-y) y;rw[<- e]at h;rw[h];generalize (x-y)^p.toNat=a;generalize y^p.toNat=b;grind
def fx (x:Pl p):Pl p:=x^p.toNat-x
theorem Z2 (hp:jL p)(x y:Pl p):fx (x-y)=fx x-fx y:=by unfold fx;rw[Td hp];generalize x^p.toNat=a;generalize y^p.toNat=b;grind
theorem ZV (hp:jL p)(c:Int):fx (con p c)=0:=by unfold fx;rw[vR hp];generalize con p c=a;grind
theorem Xh (hp:jL p)(c:Int)(x:Pl p):fx (con p c*x)=con p c*fx x:=by unfold fx;rw[mul_pow,vR hp];generalize x^p.toNat=a;generalize con p c=b;grind
theorem QC (hp:jL p){a x:Pl p}(h:Go a x):Go a (fx x):=by
 unfold fx;obtain⟨m,hm⟩:∃m,p.toNat=m+1:=⟨p.toNat-1,by have:=hp.1;lia⟩;have e:x^p.toNat-x=(x^m-1)*x:=by rw[hm];show x^m*x-x=_;generalize x^m=y;grind
 rw[e];exact h.mul _
theorem Ax (hp:jL p)(x:Pl p)(c:Int):fx (x-con p c)=fx x:=by rw[Z2 hp,ZV hp];generalize fx x=y;grind
theorem aa0 (hp:jL p)(x:Pl p)(c:Int):Go (x-con p c) (fx x):=by rw[<- Ax hp x c];exact QC hp (Go.refl _)
theorem U3 (e:x-y=con p c)(h:p ∣ t*c-1):nA x y:=by have k:=wk h;rw[<- e]at k;exact⟨con p t,-con p t,by generalize con p t=z at *;grind⟩
def PH (h:Pl p):Nat->Pl p
 |0=>1
 |n+1=>PH h n*(h-con p (n:Int))
theorem Q7 (hp:jL p)(h:Pl p){m:Nat}(hm:(m:Int)<p):∀n,n<=m->nA (PH h n) (h-con p (m:Int))
 |0,_=>(nA.one _).symm
 |n+1,hn=>by
  refine(Q7 hp h hm n (by lia)).mul ?_;have nd:¬p ∣ ((m:Int)-(n:Int)):=λz=>by have:=fv (by lia) z;lia
  obtain⟨t,ht⟩:=lM hp nd;refine U3 (c:=(m:Int)-(n:Int)) ?_ ht;rw[Gf];generalize con p (m:Int)=a;generalize con p (n:Int)=b;grind
theorem Yd (hp:jL p)(h:Pl p):∀n:Nat,(n:Int)<=p->Go (PH h n) (fx h)
 |0,_=>⟨fx h,by show fx h=fx h*1;rw[mul_comm,one_mul]⟩
 |n+1,hn=>(Yd hp h n (by lia)).both (aa0 hp h _) (Q7 hp h (by lia) n (aq _))
theorem vp (p2:2<=p)(x y:Pl p)(n:Nat):(ls (x-y)).getD n 0=pl p ((ls x).getD n 0-(ls y).getD n 0):=by
 have e:x-y=mk p (jZ (ls x) (yR (-1) (ls y))):=by rw[<- mF,<- xf,jP,jP];rfl
 rw[e,qj,kI,jB,jV,fk];rfl
theorem R9 (p2:2<=p){x y:Pl p}(h:Mo x)(l:(ls y).length<(ls x).length):Mo (x-y)/\(ls (x-y)).length=(ls x).length:=by
 have top:(ls (x-y)).getD ((ls x).length-1) 0=1:=by rw[vp p2,jw (xs:=ls y) (by lia),aT];have e:(ls x).getD ((ls x).length-1) 0=1:=h;rw[e,VR p2]
 have le:(ls (x-y)).length<=(ls x).length:=m9 (kO _).form λn hn=>by rw[vp p2,jw (by lia),jw (by lia),aT,lO]
 have ge:(ls x).length-1<(ls (x-y)).length:=c6 λc=>by rw[jw c]at top;exact absurd top (by decide)
 have:=h.pos;have e:(ls (x-y)).length=(ls x).length:=by lia
 refine⟨?_,e⟩;show(ls (x-y)).getD ((ls (x-y)).length-1) 0=1;rw[e];exact top
theorem vB (c:Int):(ls (con p c)).length<=1:=m6 p [c]
theorem XS (p2:2<=p){h:Pl p}(mh:Mo h)(dg:1<(ls h).length):∀n,Mo (PH h n)/\(ls (PH h n)).length=n*((ls h).length-1)+1
 |0=>⟨Mo.one p2,by show(ls (1:Pl p)).length=_;rw[vV p2];simp⟩
 |n+1=>by obtain⟨h1,h2⟩:=XS p2 mh dg n;have l:=vB (p:=p) (n:Int);obtain⟨h3,h4⟩:=R9 p2 mh (show(ls (con p (n:Int))).length<_ by lia);obtain⟨h5,h6⟩:=Mo.DR p2 h1 h3;refine⟨h5,?_⟩;show(ls (PH h n*(h-con p (n:Int)))).length=_;rw[gv];lia
theorem aan (hp:jL p){h:Pl p}(mh:Mo h)(dg:1<(ls h).length):fx h=PH h p.toNat:=by
 have p2:=hp.1;have pw:=mh.pow p2 p.toNat;have lp:=mh.vH p2 p.toNat;have big:(ls h).length<(ls (h^p.toNat)).length:=by rw[lp];have:2*((ls h).length-1)<=p.toNat*((ls h).length-1):=fS _ (by lia);lia
 obtain⟨m1,m2⟩:=R9 p2 pw big;obtain⟨m3,m4⟩:=XS p2 mh dg p.toNat;obtain⟨u,e⟩:=Yd hp h p.toNat (by lia);have mu:Mo u:=Mo.quo p2 (x:=fx h) m1 m3 e;have l:=Mo.len p2 mu m3;rw[<- e]at l;have m2:(ls (fx h)).length=(ls (h^p.toNat)).length:=m2;have u1:u=1:=mu.yj p2 (by lia);rw[e,u1,one_mul]
theorem uO.Fw (hp:jL p){q:Pl p}(h:uO q):¬Go q 1:=λ⟨u,e⟩=>by have p2:=hp.1;have mu:=Mo.quo p2 (Mo.one p2) h.mo e;have l:=Mo.len p2 mu h.mo;rw[<- e,vV p2]at l;have:=mu.pos;have:=h.deg;have l:1+1=(ls u).length+(ls q).length:=l;lia
theorem uO.KD (hp:jL p)(h:uO q)(k:Go q (con p c)):p ∣ c:=cE λnd=>by obtain⟨t,ht⟩:=lM hp nd;exact h.Fw hp ((k.mul (con p t)).ph (wk ht))
theorem sub_len (p2:2<=p){x y:Pl p}{n:Nat}(hx:(ls x).length<=n)(hy:(ls y).length<=n):(ls (x-y)).length<=n:=m9 (kO _).form λk hk=>by rw[vp p2,jw (by lia),jw (by lia),aT,lO]
theorem uO.aap (hp:jL p)(I:uO q)(hl:(ls h).length<=200)(h1:1<=(ls h).length):∀n,Go q (PH h n)->∃s:Nat,s<n/\Go q (h-con p (s:Int))
 |0,g=>absurd g (I.Fw hp)
 |n+1,g=>by
  have l:=vB (p:=p) (n:Int);rcases I.or hp (h-con p (n:Int)) (sub_len hp.1 hl (by lia)) with c|c
  ·have g:Go q ((h-con p (n:Int))*PH h n):=g.ph (mul_comm _ _);obtain⟨s,hs,k⟩:=uO.aap hp I hl h1 n (g.cut c);exact⟨s,by lia,k⟩
  ·exact⟨n,c5 n,c⟩
theorem ZG (hp:jL p)(I:uO q)(hl:(ls h).length<=200)(g:Go q (fx h)):∃s:Int,0<=s/\s<p/\Go q (h-con p s):=by
 have p2:=hp.1;have p0:0<p:=by lia
 have red:∀c:Int,Go q (h-con p c)->∃s:Int,0<=s/\s<p/\Go q (h-con p s):=λc k=>⟨c % p,a8 _ (by lia),aY _ p0,by
  rw[show con p (c % p)=con p c from Q9 ⟨-(c / p),by have:=dB c p;rw[iQ];lia⟩];exact k⟩
 by_cases c:(ls h).length<=1
 ·have e:h=con p ((ls h).getD 0 0):=by
   conv=>lhs;rw[<- jP h]
   refine ext λn=>?_
   match n with
   |0=>rfl
   |n+1=>rw[jw (by lia)];rfl
  refine red ((ls h).getD 0 0) ?_;rw[<- e];exact(Go.zero q).ph (by generalize h=x;grind)
 ·have hne:ls h≠[]:=λz=>by rw[z]at c;exact c (by decide)
  have nd:¬p ∣ jx (ls h):=λz=>by have h1:=(kO h).red ((ls h).length-1);have h1:pl p (jx (ls h))=jx (ls h):=h1;rw[kZ p0,bW z]at h1;exact(kO h).form hne h1.symm
  obtain⟨t,ht⟩:=lM hp nd;have e1:con p (jx (ls h))*(con p t*h)=h:=by rw[<- mul_assoc,mul_comm (con p _),wk ht,one_mul]
  have get:∀n,(ls (con p t*h)).getD n 0=pl p (t*(ls h).getD n 0):=λn=>by
   have:con p t*h=mk p (yR t (ls h)):=by rw[<- qY,jP]
   rw[this,qj,kI,jV]
  have top:(ls (con p t*h)).getD ((ls h).length-1) 0=1:=by rw[get];have:pl p (t*jx (ls h))=pl p 1:=(qF p _ _).mpr ht;exact this.trans (VR p2)
  have le:(ls (con p t*h)).length<=(ls h).length:=m9 (kO _).form λn hn=>by rw[get,jw hn,aW,lO]
  have ge:(ls h).length-1<(ls (con p t*h)).length:=c6 λc=>by rw[jw c]at top;exact absurd top (by decide)
  have el:(ls (con p t*h)).length=(ls h).length:=by lia
  have mo:Mo (con p t*h):=by show(ls (con p t*h)).getD ((ls (con p t*h)).length-1) 0=1;rw[el];exact top
  have g2:Go q (Pl.PH (con p t*h) p.toNat):=by rw[<- aan hp mo (by lia),Xh hp];exact g.mul _
  obtain⟨s,hs,k⟩:=I.aap hp (h:=con p t*h) (by lia) (by lia) _ g2;refine red (jx (ls h)*(s:Int)) ?_;have k2:=k.mul (con p (jx (ls h)));refine k2.ph ?_;have e3:=Eg (p:=p) (jx (ls h)) (s:Int);rw[e3];generalize con p (jx (ls h))=a at *
  generalize con p (s:Int)=b at *
  generalize con p t*h=d at *
  rw[<- e1];grind
theorem DW (hp:jL p)(I:uO q)(a:Go q (h-con p s))(b:Go q (h-con p t)):p ∣ s-t:=by refine I.KD hp ((b.sub a).ph ?_);rw[Gf];generalize con p s=x;generalize con p t=y;grind
end Pl
namespace Pl
variable {p:Int}
def PL (l:List (Pl p)):Pl p:=l.foldr (λq x=>q*x) 1
theorem qb (q:Pl p)(l:List (Pl p)):PL (q::l)=q*PL l:=rfl
theorem Rp (a b:List (Pl p)):PL (a++b)=PL a*PL b:=by
 induction a with
 |nil=>exact(one_mul _).symm
 |cons q a ih=>rw[List.cons_append,qb,qb,ih,mul_assoc]
theorem Ox {a b:List (Pl p)}(h:a.Perm b):PL a=PL b:=by
 induction h with
 |nil=>rfl
 |cons x _ ih=>rw[qb,qb,ih]
 |swap x y l=>rw[qb,qb,qb,qb];generalize PL l=z;grind
 |trans _ _ h1 h2=>exact h1.trans h2
structure wV (l:List (Pl p)):Prop where
 irr:∀q∈l,uO q
 len:∀q∈l,(ls q).length<=200
 nd:l.Nodup
theorem wV.sub {l m:List (Pl p)}(I:wV l)(h:∀q∈m,q∈l)(nd:m.Nodup):wV m:=⟨λq hq=>I.irr q (h q hq),λq hq=>I.len q (h q hq),nd⟩
theorem IK (p2:2<=p):∀{l:List (Pl p)},(∀q∈l,Mo q)->Mo (PL l)
 |[],_=>Mo.one p2
 |q::l,h=>Mo.mul p2 (h q af) (IK p2 λr hr=>h r (ae _ hr))
theorem wV.mo {l:List (Pl p)}(I:wV l)(p2:2<=p):Mo (PL l):=IK p2 λq hq=>(I.irr q hq).mo
theorem zZ (p2:2<=p):∀{l:List (Pl p)},(∀q∈l,uO q)->l.length+1<=(ls (PL l)).length
 |[],_=>by show 1<=(ls (1:Pl p)).length;rw[vV p2];exact aq _
 |q::l,h=>by have ih:=zZ p2 λr hr=>h r (ae _ hr);have hq:=h q af;have l2:=Mo.len p2 hq.mo (IK p2 λr hr=>(h r (ae _ hr)).mo);have:=hq.deg;rw[qb,aR];lia
theorem Gu:∀{l:List (Pl p)},(∀r∈l,nA r x)->nA (PL l) x
 |[],_=>(nA.one x).symm
 |q::l,h=>(h q af).mul (Gu λr hr=>h r (ae _ hr))
theorem wV.cop {l:List (Pl p)}(hp:jL p)(I:wV l)(hq:q∈l)(hr:r∈l)(ne:q≠r):nA q r:=(I.irr q hq).cop hp (I.irr r hr) (I.len r hr) ne
theorem M6 (hp:jL p):∀{l:List (Pl p)},wV l->(∀q∈l,Go q x)->Go (PL l) x
 |[],_,_=>⟨x,by show x=x*1;rw[mul_comm,one_mul]⟩
 |q::l,I,h=>by have nd:=cX.mp I.nd;have I2:wV l:=I.sub (λr hr=>ae _ hr) nd.2;refine(h q af).both (M6 hp I2 λr hr=>h r (ae _ hr)) ?_;refine(Gu λr hr=>?_).symm;exact I.cop hp (ae _ hr) af λe=>nd.1 (e ▸ hr)
theorem wL:∀{l:List (Pl p)},q∈l->Go q (PL l)
 |r::l,h=>by
  rcases aC.mp h with rfl|h
  ·exact(Go.refl _).Zw _
  ·exact(wL h).mul _
theorem Wq (hp:jL p)(mg:Mo g)(hl:(ls g).length<=200)(x:Pl p):∃u r,x=u*g+r/\(ls r).length<(ls g).length:=by
 obtain⟨_,_,ir,Q,hQ⟩:=mH (Fe hp mg hl) (ls x);rw[sW]at ir hQ;refine⟨mk p Q,mk p (rm p (ls g) (ls x)),?_,?_⟩
 ·have e:mk p (ls x)=mk p Q*mk p (ls g)+mk p (rm p (ls g) (ls x)):=by
   rw[lz,mF];refine lA.mpr λn=>?_;rw[jB,jr];have:=hQ n;have e:(ls x).getD n 0-(cm Q (ls g) n+(rm p (ls g) (ls x)).getD n 0)=(ls x).getD n 0-(rm p (ls g) (ls x)).getD n 0-cm Q (ls g) n:=by lia
   rw[e];exact this
  rw[jP,jP]at e;exact e
 ·rw[uy ⟨ir.form,ir.red⟩];exact ir.len
theorem Bl {g x:Pl p}(mg:Mo g)(h:Go g x)(l:(ls x).length<(ls g).length):x=0:=by
 obtain⟨u,e⟩:=h;have r:=rC (p:=p) (d:=ls g) (r:=ls x) (s:=[]) (λy hy=>by rw[show jx (ls g)=1 from mg,bR]at hy;exact hy) ⟨(kO _).form,(kO _).red,l⟩ ⟨nR,λn=>by show pl p 0=0;exact lO p,mg.pos⟩ ⟨ls u,λn=>by
  have e2:mk p (ls x)=mk p (ju (ls u) (ls g)):=by rw[jP,<- lz,jP,jP];exact e
  have:=lA.mp e2 n;rw[jr]at this;show p ∣ (ls x).getD n 0-0-cm (ls u) (ls g) n;rw[aT];exact this⟩
 rw[<- jP x,r,xX]
theorem crt (hp:jL p)(I:wV l)(hl:(ls (PL l)).length<=200)(hq:q∈l):∃e:Pl p,Go q (e-con p 1)/\(∀r∈l,r≠q->Go r (e-con p 0))/\Go (PL l) (fx e)/\(ls e).length<(ls (PL l)).length:=by
 have dd:DecidableEq (Pl p):=λa b=>Classical.propDecidable _;have pm:=List.perm_cons_erase hq;have hm:∀r∈l.erase q,r∈l/\r≠q:=λr hr=>⟨List.mem_of_mem_erase hr,λz=>by
  have:=(I.nd.mem_erase_iff (a:=r) (b:=q)).mp hr;exact this.1 z⟩
 obtain⟨s,t,e⟩:nA (PL (l.erase q)) q:=Gu λr hr=>I.cop hp (hm r hr).1 hq (hm r hr).2;obtain⟨u,r,e2,lr⟩:=Wq hp (I.mo hp.1) hl (s*PL (l.erase q));have k1:Go q (r-con p 1):=by
  have a:Go q (u*PL l):=(wL hq).mul u;have b:Go q (t*q):=(Go.refl q).mul t;refine(Go.sub (Go.zero q) (a.add b)).ph ?_;show 0-(u*PL l+t*q)=r-1;generalize PL l=x at *
  generalize PL (l.erase q)=y at *
  grind
 have k2:∀o∈l,o≠q->Go o (r-con p 0):=λo ho hne=>by
  have a:Go o (u*PL l):=(wL ho).mul u;have b:Go o (s*PL (l.erase q)):=(wL ((I.nd.mem_erase_iff).mpr ⟨hne,ho⟩)).mul s;refine(b.sub a).ph ?_;show s*PL (l.erase q)-u*PL l=r-0;generalize PL l=x at *
  generalize PL (l.erase q)=y at *
  grind
 refine⟨r,k1,k2,M6 hp I λo ho=>?_,lr⟩;by_cases c:o=q
 ·subst c;rw[<- Ax hp r 1];exact QC hp k1
 ·rw[<- Ax hp r 0];exact QC hp (k2 o ho c)
def oH (c:Nat->Int)(E:Nat->Pl p):Nat->Pl p
 |0=>0
 |n+1=>oH c E n+con p (c n)*E n
theorem Fq (e:x=mk p a)(n:Nat):p ∣ (ls x).getD n 0-a.getD n 0:=by refine lA.mp ?_ n;rw[jP,e]
theorem zg (c:Nat->Int)(E:Nat->Pl p)(j:Nat):∀n,p ∣ (ls (oH c E n)).getD j 0-sm n λk=>c k*(ls (E k)).getD j 0
 |0=>by have:=Fq (p:=p) (x:=oH c E 0) (a:=[0]) rfl j;rw[Cp]at this;exact this
 |n+1=>by
  have ih:=zg c E j n;have e:oH c E (n+1)=mk p (jZ (ls (oH c E n)) (yR (c n) (ls (E n)))):=by rw[<- mF,<- qY,jP,jP];rfl
  have:=Fq e j;rw[jB,jV]at this;have h:=bD this ih;have e2:∀a b d f:Int,a-(b+d)+(b-f)=a-(f+d):=λa b d f=>by lia
  rw[e2]at h;exact h
theorem w6 {c v:Nat->Int}{E:Nat->Pl p}:∀{n:Nat},(∀k,k<n->Go q (E k-con p (v k)))->Go q (oH c E n-con p (sm n λk=>c k*v k))
 |0,_=>(Go.zero q).ph (by show(0:Pl p)=0-0;grind)
 |n+1,h=>by
  have a:=w6 (c:=c) (v:=v) (E:=E) (n:=n) λk hk=>h k (by lia);have b:=(h n (c5 n)).mul (con p (c n));refine(a.add b).ph ?_;have e:con p (sm (n+1) λk=>c k*v k)=con p (sm n λk=>c k*v k)+con p (c n)*con p (v n):=by rw[<- Eg,<- zc];rfl
  rw[e];show _=oH c E n+con p (c n)*E n-_;generalize con p (sm n λk=>c k*v k)=x;generalize con p (c n)=y;generalize con p (v n)=z;generalize oH c E n=s;generalize E n=t;grind
structure Vn (g:Pl p)(t:Tab):Prop where
 st:∀y∈t,Go g (fx (mk p y))
 len:∀y∈t,y.length<=200
 span:∀e:Pl p,Go g (fx e)->(ls e).length<(ls g).length->∃c:Nat->Int,e=oH c (λk=>mk p (t.getD k [])) t.length
theorem X5 (hp:jL p):∃iv:Int->Int,∀x,0<x->x<p->p ∣ iv x*x-1:=by
 refine⟨λx=>if h:¬p ∣ x then(lM hp h).choose else 0,λx h0 h1=>?_⟩;have nd:¬p ∣ x:=λz=>by have:=fv h0 z;lia
 show p ∣ (if h:¬p ∣ x then(lM hp h).choose else 0)*x-1;rw[i9 nd];exact(lM hp nd).choose_spec
theorem Um (p2:2<=p){c:Nat->Int}{E:Nat->Pl p}{n:Nat}(h:∀j,p ∣ sm n λk=>c k*(ls (E k)).getD j 0):oH c E n=0:=by rw[<- jP (oH c E n),<- xX];refine lA.mpr λj=>?_;show p ∣ _-0;rw[aT];have:=bD (zg c E j n) (h j);rw[dU]at this;exact this
theorem HF (hp:jL p){l:List (Pl p)}(I:wV l)(hl:(ls (PL l)).length<=200){t:Tab}(K:Vn (PL l) t):l.length<=t.length:=by
 refine dN λlt=>?_;have p2:=hp.1;have ex:∀k:Nat,∃e:Pl p,∃c:Nat->Int,∀h:k<l.length,Go l[k] (e-con p 1)/\(∀r∈l,r≠l[k]->Go r (e-con p 0))/\e=oH c (λk=>mk p (t.getD k [])) t.length:=λk=>by
  by_cases h:k<l.length
  ·obtain⟨e,h1,h2,h3,h4⟩:=crt hp I hl (bJ h);obtain⟨c,h5⟩:=K.span e h3 h4;exact⟨e,c,λ_=>⟨h1,h2,h5⟩⟩
  ·exact⟨0,λ_=>0,λz=>absurd z h⟩
 have⟨E,hE⟩:=gY ex;have⟨C,hC⟩:=gY hE;obtain⟨iv,hiv⟩:=X5 hp;obtain⟨y,⟨i,hi,nd⟩,hy⟩:=dep p2 hiv lt λk j=>C k j;have z:oH y E l.length=0:=Um p2 λj=>by
  have s1:∀k,k<l.length->p ∣ (ls (E k)).getD j 0-sm t.length λi=>C k i*(ls (mk p (t.getD i []))).getD j 0:=λk hk=>by have:=zg (C k) (λk=>mk p (t.getD k [])) j t.length;rw[<- (hC k hk).2.2]at this;exact this
  have s2:sm l.length (λk=>y k*sm t.length λi=>C k i*(ls (mk p (t.getD i []))).getD j 0)=sm t.length λi=>(sm l.length λk=>y k*C k i)*(ls (mk p (t.getD i []))).getD j 0:=by
   have a:sm l.length (λk=>y k*sm t.length λi=>C k i*(ls (mk p (t.getD i []))).getD j 0)=sm l.length λk=>sm t.length λi=>y k*C k i*(ls (mk p (t.getD i []))).getD j 0:=jz λk _=>by rw[<- n6];exact jz λi _=>by rw[bO]
   rw[a,wy];exact jz λi _=>by rw[zA]
  have s3:p ∣ sm t.length λi=>(sm l.length λk=>y k*C k i)*(ls (mk p (t.getD i []))).getD j 0:=nJ λi hi=>bj (hy i hi);rw[<- s2]at s3;have s4:p ∣ sm l.length λk=>y k*((ls (E k)).getD j 0-sm t.length λi=>C k i*(ls (mk p (t.getD i []))).getD j 0):=nJ λk hk=>aP (s1 k hk);have s5:=bD s4 s3;rw[<- sI]at s5;have e:(sm l.length λk=>y k*((ls (E k)).getD j 0-sm t.length λi=>C k i*(ls (mk p (t.getD i []))).getD j 0)+y k*sm t.length λi=>C k i*(ls (mk p (t.getD i []))).getD j 0)=sm l.length λk=>y k*(ls (E k)).getD j 0:=jz λk _=>by rw[<- f6,dU]
  rw[e]at s5;exact s5
 have g:=w6 (q:=l[i]) (c:=y) (v:=λk=>if k=i then 1 else 0) (E:=E) (n:=l.length) λk hk=>by
  obtain⟨h1,h2,_⟩:=hC k hk;by_cases c:k=i
  ·subst c;rw[ah rfl];exact h1
  ·rw[ag c];refine h2 _ (bJ hi) λe=>?_;have pw:=dD.mp I.nd;rcases gB c with q|q
   ·exact pw k i hk hi q e.symm
   ·exact pw i k hi hk q e
 have e:(sm l.length λk=>y k*(if k=i then(1:Int) else 0))=y i:=by rw[qJ (k:=i) hi λk _ hne=>by rw[ag hne,aW],ah rfl,bR]
 rw[z,e]at g;have g2:Go l[i] (con p (-(y i))):=g.ph (by rw[Gq];generalize con p (y i)=x;grind);have:=(I.irr _ (bJ hi)).KD hp g2;exact nd (bw.mp this)
theorem Qo (hp:jL p){l:List (Pl p)}(I:wV l)(hl:(ls (PL l)).length<=200){t:Tab}(K:Vn (PL l) t)(hq:q∈l)(hr:r∈l)(ne:q≠r){v:Nat->Int}(h1:∀k,k<t.length->Go q (mk p (t.getD k [])-con p (v k)))(h2:∀k,k<t.length->Go r (mk p (t.getD k [])-con p (v k))):False:=by obtain⟨e,a,b,c,d⟩:=crt hp I hl hq;obtain⟨f,rfl⟩:=K.span e c d;have g1:=w6 (q:=q) (c:=f) (v:=v) (E:=λk=>mk p (t.getD k [])) h1;have g2:=w6 (q:=r) (c:=f) (v:=v) (E:=λk=>mk p (t.getD k [])) h2;have k1:=DW hp (I.irr q hq) a g1;have k2:=DW hp (I.irr r hr) (b r hr (ck ne)) g2;have:=eV k1 k2;rw[show ∀x:Int,1-x-(0-x)=1 from λx=>by lia]at this;have:=fv (by decide) this;have:=hp.1;lia
end Pl
namespace Pl
variable {p:Int}
open Classical in
def vl (h q:Pl p):Int:=if k:∃s:Int,0<=s/\s<p/\Go q (h-con p s) then k.choose else 0
theorem X7 (k:∃s:Int,0<=s/\s<p/\Go q (h-con p s)):0<=vl h q/\vl h q<p/\Go q (h-con p (vl h q)):=by unfold vl;rw[i9 k];exact k.choose_spec
theorem Ma (hp:jL p)(I:uO q)(hl:(ls h).length<=200)(g:Go q (fx h)):0<=vl h q/\vl h q<p/\Go q (h-con p (vl h q)):=X7 (ZG hp I hl g)
theorem abh (hp:jL p)(I:uO q)(h0:0<=s)(h1:s<p)(g:Go q (h-con p s)):vl h q=s:=by
 obtain⟨a,b,c⟩:=X7 (h:=h) (q:=q) ⟨s,h0,h1,g⟩;obtain⟨m,hm⟩:=DW hp I c g;have p2:=hp.1;generalize vl h q=x at *
 have m0:m=0:=by
  rcases Int.lt_trichotomy m 0 with z|z|z
  ·have:p*m<=p*(-1):=bC (by lia) (by lia);rw[iQ,bR]at this;lia
  ·exact z
  ·have:p*1<=p*m:=bC (by lia) (by lia);rw[bR]at this;lia
 rw[m0,aW]at hm;lia
theorem uJ {α:Type}(f:α->Bool):∀l:List α,(l.filter f++l.filter λx=>!f x).Perm l
 |[]=>.nil
 |a::l=>by
  have ih:=uJ f l;cases e:f a with
  |true=>rw[cL e,cM (by rw[e];decide)];exact .cons a ih
  |false=>rw[cM (by rw[e];decide),cL (by rw[e];decide)];exact hO.trans (.cons a ih)
theorem aa9 (hp:jL p)(I:wV c)(hl:(ls h).length<=200)(h1:1<=200)(st:∀q∈c,Go q (fx h))(s0:0<=s)(s1:s<p):Gd (PL c) (h-con p s) (PL (c.filter λq=>decide (vl h q=s))):=by
 have e1:PL c=PL (c.filter λq=>decide (vl h q=s))*PL (c.filter λq=>!decide (vl h q=s)):=by rw[<- Rp,Ox (uJ _ c)]
 have I1:wV (c.filter λq=>decide (vl h q=s)):=I.sub (λq hq=>(aU.mp hq).1) (I.nd.filter _);obtain⟨w,e2⟩:Go (PL (c.filter λq=>decide (vl h q=s))) (h-con p s):=M6 hp I1 λq hq=>by obtain⟨m1,m2⟩:=aU.mp hq;have:=(Ma hp (I.irr q m1) hl (st q m1)).2.2;rw[bU m2]at this;exact this
 have cop:nA (PL (c.filter λq=>!decide (vl h q=s))) (h-con p s):=Gu λq hq=>by
  obtain⟨m1,m2⟩:=aU.mp hq;have l:=vB (p:=p) s;rcases (I.irr q m1).or hp (h-con p s) (sub_len hp.1 hl (by lia)) with k|k
  ·exact k
  ·exfalso;rw[abh hp (I.irr q m1) s0 s1 k]at m2;simp at m2
 rw[e1];generalize PL (c.filter λq=>decide (vl h q=s))=x at *
 generalize PL (c.filter λq=>!decide (vl h q=s))=y at *
 obtain⟨a,b,e3⟩:nA y w:=cop.aa7 ⟨x,by rw[e2,mul_comm]⟩;rw[e2];exact⟨⟨a,b,by grind⟩,⟨y,mul_comm x y⟩,⟨w,rfl⟩⟩
def taN (h:Pl p)(c:List (Pl p))(nums:List Int):List (List (Pl p)):=(nums.map λs=>c.filter λq=>decide (vl h q=s)).filter λf=>decide (0<f.length)
def Z9 (h:Pl p)(nums:List Int)(cls:List (List (Pl p))):List (List (Pl p)):=cls.flatMap λc=>taN h c nums
theorem Fv {α:Type}:∀L:List (List α),(L.filter λf=>decide (0<f.length)).flatten=L.flatten
 |[]=>rfl
 |[]::L=>by rw[cM (by simp),Fv L];rfl
 |(a::f)::L=>by rw[cL (by simp),bT,bT,Fv L]
theorem xT {α:Type}(f:α->Int)(c:List α):∀{nums:Li},nums.Nodup->((nums.map λs=>c.filter λq=>decide (f q=s)).flatten).Perm (c.filter λq=>decide (f q∈nums))
 |[],_=>by
  rw[dY,List.flatten_nil];have:(c.filter λq=>decide (f q∈([]:List Int)))=[]:=List.filter_eq_nil_iff.mpr λq _=>by simp
  rw[this]
 |s::nums,nd=>by
  obtain⟨n1,n2⟩:=cX.mp nd;have ih:=xT f c n2;rw[bM,bT];have k:=uJ (λq=>decide (f q=s)) (c.filter λq=>decide (f q∈s::nums));rw[List.filter_filter,List.filter_filter]at k;have a1:(c.filter λq=>decide (f q=s) && decide (f q∈s::nums))=c.filter λq=>decide (f q=s):=fA λq _=>by
   by_cases z:f q=s
   ·simp[z]
   ·simp[z]
  have a2:(c.filter λq=>(!decide (f q=s)) && decide (f q∈s::nums))=c.filter λq=>decide (f q∈nums):=fA λq _=>by
   by_cases z:f q=s
   ·simp[z,n1]
   ·simp[z]
  rw[a1,a2]at k;exact(List.Perm.append_left _ ih).trans k
theorem UJ {h:Pl p}{c:List (Pl p)}{nums:Li}(nd:nums.Nodup)(hc:∀q∈c,vl h q∈nums):(taN h c nums).flatten.Perm c:=by unfold taN;rw[Fv];have:=xT (vl h) c nd;rw[iX.mpr λq hq=>aK (hc q hq)]at this;exact this
structure Cls (l H:List (Pl p))(cls:List (List (Pl p))):Prop where
 pm:cls.flatten.Perm l
 ne:∀c∈cls,c≠[]
 al:∀c∈cls,∀h∈H,∀q∈c,∀r∈c,vl h q=vl h r
theorem Cls.start {l:List (Pl p)}(h:l≠[]):Cls l [] [l]:=⟨by simp,λc hc=>by rw[bv.mp hc];exact h,λc _ h hh=>by cases hh⟩
theorem Cls.mem {l H:List (Pl p)}{cls:List (List (Pl p))}(C:Cls l H cls){c:List (Pl p)}(hc:c∈cls){q:Pl p}(hq:q∈c):q∈l:=C.pm.mem_iff.mp (List.mem_flatten.mpr ⟨c,hc,hq⟩)
theorem Jc (nd:nums.Nodup):∀{cls:List (List (Pl p))},(∀c∈cls,∀q∈c,vl h q∈nums)->(Z9 h nums cls).flatten.Perm cls.flatten
 |[],_=>.nil
 |c::cls,hc=>by show((taN h c nums)++Z9 h nums cls).flatten.Perm _;rw[eX,bT];exact(UJ nd (hc c af)).append (Jc nd λd hd=>hc d (ae _ hd))
theorem Cls.step {l H:List (Pl p)}{cls:List (List (Pl p))}(C:Cls l H cls){h:Pl p}{nums:Li}(nd:nums.Nodup)(hn:∀q∈l,vl h q∈nums):Cls l (h::H) (Z9 h nums cls):=by
 refine⟨(Jc nd λc hc q hq=>hn q (C.mem hc hq)).trans C.pm,λd hd=>?_,λd hd k hk q hq r hr=>?_⟩
 ·obtain⟨c,_,hd⟩:=List.mem_flatMap.mp hd;have:=bU (aU.mp hd).2;exact eR.mp this
 ·obtain⟨c,hc,hd⟩:=List.mem_flatMap.mp hd;obtain⟨s,_,rfl⟩:=aX.mp (aU.mp hd).1;obtain⟨q1,q2⟩:=aU.mp hq;obtain⟨r1,r2⟩:=aU.mp hr;rcases aC.mp hk with rfl|hk
  ·rw[bU q2,bU r2]
  ·exact C.al c hc k hk q q1 r r1
theorem Ac {α:Type}:∀{L:List (List α)},(∀c∈L,c≠[])->L.length<=L.flatten.length/\(L.flatten.length<=L.length->∀c∈L,c.length=1)
 |[],_=>⟨aq _,λ_ c hc=>by cases hc⟩
 |c::L,h=>by
  obtain⟨i1,i2⟩:=Ac λd hd=>h d (ae _ hd);have:=lP (h c af);rw[bT,ai,aR];refine⟨by lia,λle d hd=>?_⟩;rcases aC.mp hd with rfl|hd
  ·lia
  ·exact i2 (by lia) d hd
theorem ones {L:List (List (Pl p))}(h:∀c∈L,c.length=1):L.map PL=L.flatten:=by
 induction L with
 |nil=>rfl
 |cons c L ih=>
  rw[bM,bT,ih λd hd=>h d (ae _ hd)];have hc:=h c af
  match c,hc with
  |[q],_=>show q*1::_=q::L.flatten;rw[mul_comm,one_mul]
theorem Cls.fin (hp:jL p){l H:List (Pl p)}{cls:List (List (Pl p))}(C:Cls l H cls)(I:wV l)(hl:(ls (PL l)).length<=200){t:Tab}(K:Vn (PL l) t)(h:t.length<=cls.length\/∀k,k<t.length->Pl.mk p (t.getD k [])∈H):(cls.map PL).Perm l:=by
 have one:∀c∈cls,c.length=1:=by
  rcases h with h|h
  ·have:=HF hp I hl K;refine(Ac C.ne).2 ?_;rw[C.pm.length_eq];lia
  ·intro c hc;have c0:=lP (C.ne c hc);refine cE λne=>?_
   match c,hc,c0,ne with
   |[q],_,_,ne=>exact ne rfl
   |q::r::m,hc,_,_=>
    have nd:(q::r::m).Nodup:=by have:=C.pm.nodup_iff.mpr I.nd;exact(List.pairwise_flatten.mp this).1 _ hc
    have qr:q≠r:=λe=>(cX.mp nd).1 (e ▸ af);have mq:q∈q::r::m:=af;have mr:r∈q::r::m:=ae _ af;have ok:∀k,k<t.length->∀o∈l,Go o (Pl.mk p (t.getD k [])-con p (vl (Pl.mk p (t.getD k [])) o)):=λk hk o ho=>by
     have mt:t.getD k []∈t:=by rw[gQ,ac hk];exact bJ hk
     exact(Ma hp (I.irr o ho) (aJ (by rw[qj];exact m6 _ _) (K.len _ mt)) ((wL ho).trans (K.st _ mt))).2.2
    refine Qo hp I hl K (C.mem hc mq) (C.mem hc mr) qr (v:=λk=>vl (Pl.mk p (t.getD k [])) q) (λk hk=>ok k hk q (C.mem hc mq)) λk hk=>?_;rw[C.al _ hc _ (h k hk) q mq r mr];exact ok k hk r (C.mem hc mr)
 rw[ones one];exact C.pm
theorem JX (g:Go q (h-con p s)):∀k:Nat,Go q (h^k-con p (s^k))
 |0=>by
  have e:h^0=1:=rfl;have e2:con p (s^0)=1:=by rw[jf];rfl
  refine(Go.zero q).ph ?_;rw[e,e2];grind
 |k+1=>by
  have ih:=JX g k;refine((ih.Zw h).add (g.mul (con p (s^k)))).ph ?_;have e:con p (s^(k+1))=con p (s^k)*con p s:=by rw[<- Eg,iw]
  rw[e];show _=h^k*h-_;generalize h^k=a;generalize con p (s^k)=b;generalize con p s=c;grind
theorem Vl (hp:jL p)(I:wV l)(g:Go (PL l) (oH y (λi=>h^i) n))(hq:q∈l)(k:Go q (h-con p s)):p ∣ sm n λi=>y i*s^i:=by have a:=w6 (q:=q) (c:=y) (v:=λi=>s^i) (E:=λi=>h^i) (n:=n) λi _=>JX k i;have b:=(wL hq).trans g;refine(I.irr q hq).KD hp ((b.sub a).ph ?_);generalize oH y (λi=>h^i) n=x;generalize con p (sm n λi=>y i*s^i)=z;grind
theorem Zf (hp:jL p){l:List (Pl p)}(I:wV l)(hl:(ls h).length<=200)(st:Go (PL l) (fx h)){n:Nat}(hn:l.length<n):∃y:Nat->Int,(∃i,i<n/\¬p ∣ y i)/\Go (PL l) (oH y (λi=>h^i) n):=by obtain⟨iv,hiv⟩:=X5 hp;obtain⟨y,h1,h2⟩:=dep hp.1 hiv hn λk j=>vl h (l.getD j 1)^k;refine⟨y,h1,M6 hp I λq hq=>?_⟩;obtain⟨j,hj,rfl⟩:=ce.mp hq;have ok:=(Ma hp (I.irr _ hq) hl ((wL hq).trans st)).2.2;have a:=w6 (q:=l[j]) (c:=y) (v:=λi=>vl h l[j]^i) (E:=λi=>h^i) (n:=n) λi _=>JX ok i;have b:=h2 j hj;rw[show l.getD j 1=l[j] by rw[gQ,ac hj];rfl]at b;rw[Mr b]at a;exact a.ph (by generalize oH y (λi=>h^i) n=x;grind)
end Pl
namespace Pl
variable {p:Int}
theorem Nh (x:Pl p):x^0=1:=rfl
theorem tQ (x:Pl p)(k:Nat):x^(k+1)=x^k*x:=rfl
theorem YD (h:lB p d a b):Go (mk p d) (mk p a-mk p b):=by
 obtain⟨Q,h⟩:=h;refine⟨mk p Q,?_⟩;show mk p a + -mk p b=mk p Q*mk p d;rw[xf,mF,lz];refine lA.mpr λn=>?_;rw[jB,jV,jr];have e:a.getD n 0 + -1*b.getD n 0-cm Q d n=a.getD n 0-b.getD n 0-cm Q d n:=by lia
 rw[e];exact h n
theorem XM (hp:jL p)(mg:Mo G)(hl:(ls G).length<=200)(f:Li):Go G (mk p f-mk p (rm p (ls G) f))/\Ly p (ls G) (rm p (ls G) f):=by obtain⟨_,_,r,e⟩:=mH (Fe hp mg hl) f;rw[sW]at r e;have:=YD e;rw[jP]at this;exact⟨this,r⟩
theorem aar (m:Int)(r:Li):mk p (wd m r)=mk p r:=ext λn=>Yw m r n
theorem Go.flip {a b c:Pl p}(h:Go a (b-c)):Go a (c-b):=by obtain⟨u,e⟩:=h;exact⟨-u,by grind⟩
theorem Go.ch {a b c d:Pl p}(h:Go a (b-c))(k:Go a (c-d)):Go a (b-d):=(h.add k).ph (by grind)
theorem QX (hp:jL p)(mg:Mo G)(hl:(ls G).length<=200)(f:Li)(hk:k<n):Go G (mk p ((jQ p (ls G) f n).getD k [])-mk p f^k)/\((jQ p (ls G) f n).getD k []).length=(ls G).length-1:=by rw[Oz hk,aar];obtain⟨a,b⟩:=XM hp mg hl (pw f k);rw[tZ]at a;refine⟨a.flip,?_⟩;have:=b.len;have:=RL (m:=((ls G).length:Int)-1) (r:=rm p (ls G) (pw f k)) (by lia);lia
theorem za (c:Nat->Int)(E F:Nat->Pl p):∀n,oH c E n-oH c F n=oH c (λk=>E k-F k) n
 |0=>by show(0:Pl p)-0=0;grind
 |n+1=>by have:=za c E F n;show(oH c E n+con p (c n)*E n)-(oH c F n+con p (c n)*F n)=oH c (λk=>E k-F k) n+con p (c n)*(E n-F n);rw[<- this];generalize oH c E n=a;generalize oH c F n=b;grind
theorem Ge {g:Pl p}{c:Nat->Int}{E:Nat->Pl p}:∀{n:Nat},(∀k,k<n->Go g (E k))->Go g (oH c E n)
 |0,_=>Go.zero g
 |n+1,h=>(Ge λk hk=>h k (by lia)).add ((h n (by lia)).mul _)
theorem Jx (hp:jL p)(c:Nat->Int)(E:Nat->Pl p):∀n,oH c E n^p.toNat=oH c (λk=>E k^p.toNat) n
 |0=>by have:=vR hp 0;exact this
 |n+1=>by show(oH c E n+con p (c n)*E n)^p.toNat=oH c (λk=>E k^p.toNat) n+con p (c n)*E n^p.toNat;rw[HB hp,Jx hp c E n,mul_pow,vR hp]
theorem Bc {c:Nat->Int}{r:Nat->List Int}{E:Nat->Pl p}{n:Nat}(h:∀k,k<n->E k=mk p (r k))(j:Nat):p ∣ (ls (oH c E n)).getD j 0-sm n λk=>c k*(r k).getD j 0:=by
 have a:=zg c E j n;have b:p ∣ (sm n λk=>c k*(ls (E k)).getD j 0)-sm n λk=>c k*(r k).getD j 0:=by rw[<- vN];refine nJ λk hk=>?_;rw[<- cG];exact aP (Fq (h k hk) j)
 have:=bD a b
 rwa [show ∀x y z:Int,x-y+(y-z)=x-z from λx y z=>by lia]at this
def xx (p:Int):Pl p:=mk p [0,1]
def ux (k:Nat):List Int:=List.replicate k 0++[1]
theorem ug:∀k j:Nat,(ux k).getD j 0=if j=k then 1 else 0
 |0,0=>rfl
 |0,j+1=>by rw[ag (by lia)];rfl
 |k+1,0=>by rw[ag (by lia)];rfl
 |k+1,j+1=>by
  have e:(ux (k+1)).getD (j+1) 0=(ux k).getD j 0:=rfl;rw[e,ug k j];by_cases c:j=k
  ·rw[ah c,ah (by lia)]
  ·rw[ag c,ag (by lia)]
theorem Kq:∀k:Nat,xx p^k=mk p (ux k)
 |0=>rfl
 |k+1=>by
  rw[tQ,Kq k];refine ext λn=>?_;rw[jr,jJ,nQ,ug (k+1) n];cases n with
  |zero=>rw[ah rfl,ag (by lia)];lia
  |succ n=>
   rw[ag (by lia),Nat.add_sub_cancel,nQ,lU,ug k n];by_cases c:n=k
   ·rw[ah c,ah (show n+1=k+1 by lia)];split<;>lia
   ·rw[ag c,ag (show ¬n+1=k+1 by lia)];split<;>lia
theorem aak (c:Nat->Int)(j n:Nat):(sm n λk=>c k*(ux k).getD j 0)=if j<n then c j else 0:=by
 by_cases h:j<n
 ·rw[ah h,qJ (k:=j) h λi _ hn=>by rw[ug,ag (ck hn),aW],ug,ah rfl,bR]
 ·rw[ag h];exact mZ λi hi=>by rw[ug,ag (by lia),aW]
theorem T9 (y:Li)(hn:y.length<=n):mk p y=oH (λk=>y.getD k 0) (λk=>xx p^k) n:=by
 have h:=λj=>Bc (p:=p) (c:=λk=>y.getD k 0) (r:=ux) (E:=λk=>xx p^k) (n:=n) (λk _=>Kq k) j;rw[<- jP (oH (λk=>y.getD k 0) (λk=>xx p^k) n)];refine lA.mpr λj=>?_;have:=h j;rw[aak]at this;by_cases c:j<n
 ·rw[ah c]at this;have e:y.getD j 0-(ls (oH (λk=>y.getD k 0) (λk=>xx p^k) n)).getD j 0 = -((ls (oH (λk=>y.getD k 0) (λk=>xx p^k) n)).getD j 0-y.getD j 0):=by lia
  rw[e];exact bw.mpr this
 ·rw[ag c]at this;rw[jw (xs:=y) (by lia)];have e:0-(ls (oH (λk=>y.getD k 0) (λk=>xx p^k) n)).getD j 0 = -((ls (oH (λk=>y.getD k 0) (λk=>xx p^k) n)).getD j 0-0):=by lia
  rw[e];exact bw.mpr this
end Pl
namespace Pl
variable {p:Int}
theorem Vg (p2:2<=p)(h:p ∣ x)(k:pl p x=x):x=0:=by rw[kZ (by lia)]at k;rw[<- k];exact bW h
theorem Lz (p2:2<=p){c:Nat->Int}{r:Nat->List Int}{E:Nat->Pl p}{N n:Nat}(h:∀k,k<N->E k=mk p (r k))(z:∀k,k<N->∀j,n<=j->(r k).getD j 0=0):(ls (oH c E N)).length<=n:=m9 (kO _).form λj hj=>by have:=Bc h j (c:=c);rw[mZ λk hk=>by rw[z k hk j hj,aW],aT]at this;exact Vg p2 this ((kO _).red j)
theorem Nu (p2:2<=p){c:Nat->Int}{r:Nat->List Int}{E:Nat->Pl p}{N:Nat}(h:∀k,k<N->E k=mk p (r k))(z:∀j,p ∣ sm N λk=>c k*(r k).getD j 0):oH c E N=0:=by
 rw[<- jP (oH c E N),uc];refine lA.mpr λj=>?_;rw[Cp,aT];have:=bD (Bc h j (c:=c)) (z j)
 rwa [dU]at this
theorem Ov {c:Nat->Int}{r:Nat->List Int}{E:Nat->Pl p}{N:Nat}(h:∀k,k<N->E k=mk p (r k))(e:oH c E N=0)(j:Nat):p ∣ sm N λk=>c k*(r k).getD j 0:=by
 have:=Bc h j (c:=c);rw[e]at this;have z:p ∣ (ls (0:Pl p)).getD j 0:=by have:=Fq (x:=(0:Pl p)) uc j;rw[Cp,aT]at this;exact this
 have:=eV z this
 rwa [show ∀x y:Int,x-(x-y)=y from λx y=>by lia]at this
theorem UV {g a b:Pl p}(h:Go g (a-b)):∀k:Nat,Go g (a^k-b^k)
 |0=>(Go.zero g).ph (by show(0:Pl p)=1-1;grind)
 |k+1=>by have:=UV h k;rw[tQ,tQ];refine((this.Zw a).add (h.mul (b^k))).ph ?_;generalize a^k=x;generalize b^k=y;grind
theorem Gm (x:Pl p)(a:Nat):∀b:Nat,(x^a)^b=x^(a*b)
 |0=>rfl
 |b+1=>by rw[tQ,Gm x a b,jd,pow_add]
theorem Py (hp:jL p){G:Pl p}(mg:Mo G)(hl:(ls G).length<=200)(h2:2<=(ls G).length){t:Tab}(K:yz p ((ls G).length-1) ((ls G).length-1) (pL p (qT p (ls G))) t):Vn G t:=by
 have p2:2<=p:=hp.1;have ql:(qT p (ls G)).length=(ls G).length-1:=oA ..;have rg:∀k,k<(ls G).length-1->Go G (mk p ((qT p (ls G)).getD k [])-mk p (rm p (ls G) (pw [0,1] p.toNat))^k)/\((qT p (ls G)).getD k []).length=(ls G).length-1:=λk hk=>QX hp mg hl _ hk;have xg:Go G (mk p (rm p (ls G) (pw [0,1] p.toNat))-xx p^p.toNat):=by have:=(XM hp mg hl (pw [0,1] p.toNat)).1.flip;rw[tZ]at this;exact this
 have ent':∀k,k<(ls G).length-1->∀j,p ∣ ent (pL p (qT p (ls G))) k j-((jZ ((qT p (ls G)).getD k []) (yR (-1) (ux k))).getD j 0):=λk hk j=>by
  unfold ent;rw[Om (by lia),jB,jV,ug];have rl:=(rg k hk).2;by_cases c:j=k
  ·subst c;rw[ah rfl,gQ,fw (by lia)];have:=nF p (((qT p (ls G)).getD j []).getD j 0-1)
   rwa [show ∀x y:Int,x-(y + -1*1)=x-(y-1) from λx y=>by lia]
  ·rw[ag c,gQ,eG (ck c),<- gQ];rw[show ∀x:Int,x-(x + -1*0)=0 from λx=>by lia];exact aQ p
 have rE:∀k,k<(ls G).length-1->mk p ((qT p (ls G)).getD k [])-xx p^k=mk p (jZ ((qT p (ls G)).getD k []) (yR (-1) (ux k))):=λk _=>by rw[Kq,<- mF,<- xf];rfl
 have rz:∀k,k<(ls G).length-1->∀j,(ls G).length-1<=j->(jZ ((qT p (ls G)).getD k []) (yR (-1) (ux k))).getD j 0=0:=λk hk j hj=>by rw[jB,jV,ug,ag (by lia),jw (by rw[(rg k hk).2];exact hj)];rfl
 have key:∀c:Nat->Int,Go G (fx (oH c (λk=>xx p^k) ((ls G).length-1))-oH c (λk=>mk p ((qT p (ls G)).getD k [])-xx p^k) ((ls G).length-1)):=λc=>by
  have e1:fx (oH c (λk=>xx p^k) ((ls G).length-1))-oH c (λk=>mk p ((qT p (ls G)).getD k [])-xx p^k) ((ls G).length-1)=oH c (λk=>(xx p^k)^p.toNat-mk p ((qT p (ls G)).getD k [])) ((ls G).length-1):=by unfold fx;rw[Jx hp,<- za,<- za];generalize oH c (λk=>xx p^k) ((ls G).length-1)=x;generalize oH c (λk=>(xx p^k)^p.toNat) ((ls G).length-1)=y;generalize oH c (λk=>mk p ((qT p (ls G)).getD k [])) ((ls G).length-1)=z;grind
  rw[e1];refine Ge λk hk=>?_;have a:=(rg k hk).1.ch (UV xg k);rw[Gm,c8,<- Gm]at a;exact a.flip
 have sums:∀c:Nat->Int,(∀j,j<(ls G).length-1->p ∣ sm ((ls G).length-1) λk=>c k*ent (pL p (qT p (ls G))) k j) ↔ oH c (λk=>mk p ((qT p (ls G)).getD k [])-xx p^k) ((ls G).length-1)=0:=λc=>by
  have both:∀j,p ∣ (sm ((ls G).length-1) λk=>c k*ent (pL p (qT p (ls G))) k j)-sm ((ls G).length-1) λk=>c k*(jZ ((qT p (ls G)).getD k []) (yR (-1) (ux k))).getD j 0:=λj=>by rw[<- vN];refine nJ λk hk=>?_;rw[<- cG];exact aP (ent' k hk j)
  constructor
  ·intro h;refine Nu p2 rE λj=>?_;by_cases q:j<(ls G).length-1
   ·have:=eV (h j q) (both j)
    rwa [show ∀x y:Int,x-(x-y)=y from λx y=>by lia]at this
   ·rw[mZ λk hk=>by rw[rz k hk j (by lia),aW]];exact aQ p
  ·intro h j _;have:=bD (both j) (Ov rE h j)
   rwa [dU]at this
 refine⟨λy hy=>?_,λy hy=>by rw[K.len y hy];lia,λe ge le=>?_⟩
 ·have s:=(sums λk=>y.getD k 0).mp (K.nul y hy);have k:=key λk=>y.getD k 0;rw[s,<- T9 y (by rw[K.len y hy];exact aq _)]at k;exact k.ph (by generalize fx (mk p y)=a;grind)
 ·have ee:e=oH (λk=>(ls e).getD k 0) (λk=>xx p^k) ((ls G).length-1):=by rw[<- T9 (ls e) (by lia),jP]
  have k:=key λk=>(ls e).getD k 0;rw[<- ee]at k;have gl:=(ge.sub k).ph (c:=oH (λk=>(ls e).getD k 0) (λk=>mk p ((qT p (ls G)).getD k [])-xx p^k) ((ls G).length-1)) (by
   generalize oH (λk=>(ls e).getD k 0) (λk=>mk p ((qT p (ls G)).getD k [])-xx p^k) ((ls G).length-1)=a;grind)
  have z:=Bl mg gl (by
   have:=Lz p2 (c:=λk=>(ls e).getD k 0) rE rz;lia)
  obtain⟨c,hc⟩:=K.span (λk=>(ls e).getD k 0) ((sums _).mpr z);refine⟨c,?_⟩;rw[<- jP e,<- jP (oH c (λk=>mk p (t.getD k [])) t.length)];refine lA.mpr λj=>?_;have lj:=Bc (p:=p) (c:=c) (r:=λk=>t.getD k []) (E:=λk=>mk p (t.getD k [])) (n:=t.length) (λk _=>rfl) j;by_cases q:j<(ls G).length-1
  ·have:=eV (hc j q) lj
   rwa [show ∀x y z:Int,x-y-(z-y)=x-z from λx y z=>by lia]at this
  ·rw[mZ λk hk=>by rw[jw (xs:=t.getD k []) (by rw[K.len _ (by rw[gQ,ac hk];exact bJ hk)];lia),aW],aT]at lj;rw[jw (xs:=ls e) (by lia),Int.zero_sub];exact bw.mpr lj
theorem XQ (x:Int):∀y:List Int,ev y x=sm y.length λi=>y.getD i 0*x^i
 |[]=>rfl
 |n::r=>by
  rw[aR,ia,zG];have e:(sm r.length λi=>(n::r).getD (1+i) 0*x^(1+i))=x*sm r.length λi=>r.getD i 0*x^i:=by rw[<- n6];refine jz λi _=>?_;rw[ia 1 i,iw];show r.getD i 0*(x^i*x)=_;rw[<- bO,cu]
  have e1:(sm 1 λi=>(n::r).getD i 0*x^i)=n:=by show 0+n*x^0=n;rw[jf];lia
  rw[e,e1,<- XQ x r];rfl
theorem Pb (hp:jL p){l:List (Pl p)}(I:wV l)(hl:(ls (PL l)).length<=200)(hh:h.length<=200)(st:Go (PL l) (fx (mk p h))){N:Nat}(hn:l.length<N){t:Tab}(K:yz p N ((ls (PL l)).length-1) (jQ p (ls (PL l)) h N) t) :
  0<t.length/\∀y∈t,∀q∈l,∀s:Int,Go q (mk p h-con p s)->p ∣ ev y s:=by
 have p2:2<=p:=hp.1;have mg:=I.mo p2;have rg:∀k,k<N->Go (PL l) (mk p ((jQ p (ls (PL l)) h N).getD k [])-mk p h^k)/\((jQ p (ls (PL l)) h N).getD k []).length=(ls (PL l)).length-1:=λk hk=>QX hp mg hl h hk;have rz:∀k,k<N->∀j,(ls (PL l)).length-1<=j->((jQ p (ls (PL l)) h N).getD k []).getD j 0=0:=λk hk j hj=>jw (by rw[(rg k hk).2];exact hj);have near:∀c:Nat->Int,Go (PL l) (oH c (λk=>mk p ((jQ p (ls (PL l)) h N).getD k [])) N-oH c (λk=>mk p h^k) N):=λc=>by rw[za];exact Ge λk hk=>(rg k hk).1
 have pos:=mg.pos;constructor
 ·obtain⟨y,⟨i,hi,nd⟩,gy⟩:=Zf hp I (by rw[qj];exact aJ (m6 p h) hh) st hn;have g2:=((near y).add gy).ph (c:=oH y (λk=>mk p ((jQ p (ls (PL l)) h N).getD k [])) N) (by
   generalize oH y (λk=>mk p ((jQ p (ls (PL l)) h N).getD k [])) N=a;generalize oH y (λk=>mk p h^k) N=b;grind)
  have z:=Bl mg g2 (by
   have:=Lz p2 (c:=y) (E:=λk=>mk p ((jQ p (ls (PL l)) h N).getD k [])) (λk _=>rfl) rz;lia)
  exact K.ne (λj _=>Ov (E:=λk=>mk p ((jQ p (ls (PL l)) h N).getD k [])) (λk _=>rfl) z j) hi nd
 ·intro y hy q hq s g;have z:oH (λk=>y.getD k 0) (λk=>mk p ((jQ p (ls (PL l)) h N).getD k [])) N=0:=Nu p2 (λk _=>rfl) λj=>by
   by_cases c:j<(ls (PL l)).length-1
   ·exact K.nul y hy j c
   ·rw[mZ λk hk=>by rw[rz k hk j (by lia),aW]];exact aQ p
  have nr:=near λk=>y.getD k 0;rw[z]at nr;have:=Vl hp I (y:=λk=>y.getD k 0) (nr.flip.ph (by
   generalize oH (λk=>y.getD k 0) (λk=>mk p h^k) N=b;grind)) hq g
  rw[XQ,K.len y hy];exact this
end Pl
def G8 (p:Int)(h nums:List Int)(ps:List (List Int)):List (List Int):=ps.flatMap λc=>(nums.map λs=>gc p c (Tz p (jZ h ([s].map λn=>-n)))).filter λf=>decide (1<f.length)
def qZ (p:Int)(t:Tab)(nm:List Int->List Int)(g:List Int):Nat->List (List Int)
 |0=>[g]
 |i+1=>if (qZ p t nm g i).length<t.length then G8 p (t.getD i []) (nm (t.getD i [])) (qZ p t nm g i) else qZ p t nm g i
def DK (p:Int)(rel:List Int):List Int:=((List.range p.toNat).filter λ(k:Nat)=>decide (pl p (ev rel (k:Int))=0)).map λ(k:Nat)=>(k:Int)
namespace Pl
variable {p:Int}
theorem Wk (h:Li)(s:Int):Tz p (jZ h ([s].map λn=>-n))=ls (mk p h-con p s):=by have e:mk p h-con p s=mk p (jZ h (yR (-1) [s])):=rfl;rw[e,qj];congr 2;show[-s]=[-1*s];rw[iT,cC]
theorem Wd (p2:2<=p){c:List (Pl p)}(I:∀q∈c,uO q):(1<(ls (PL c)).length) ↔ 0<c.length:=by
 have d:=zZ p2 I;constructor
 ·intro h;cases c with
  |nil=>
   have:(ls (PL ([]:List (Pl p)))).length=1:=by show(ls (1:Pl p)).length=1;rw[vV p2];rfl
   lia
  |cons _ _=>exact gD _
 ·intro h;lia
theorem RG (hp:jL p)(I:wV l)(hh:h.length<=200)(st:Go (PL l) (fx (mk p h)))(hn:∀s∈nums,0<=s/\s<p):∀{cls:List (List (Pl p))},(∀c∈cls,(∀q∈c,q∈l)/\c.Nodup) ->
  G8 p h nums (cls.map λc=>ls (PL c))=(Z9 (mk p h) nums cls).map λc=>ls (PL c)
 |[],_=>rfl
 |c::cls,hc=>by
  have p2:2<=p:=hp.1;obtain⟨s1,nd⟩:=hc c af;have Ic:=I.sub s1 nd;have stc:∀q∈c,Go q (fx (mk p h)):=λq hq=>(wL (s1 q hq)).trans st;have lh:(ls (mk p h)).length<=200:=by rw[qj];exact aJ (m6 p h) hh
  have ih:=RG hp I hh st hn (cls:=cls) λc' h'=>hc c' (ae _ h');unfold G8 Z9 at ih ⊢;rw[bM,cU,cU,bK,<- ih];congr 1;unfold taN;have e1:(nums.map λs=>gc p (ls (PL c)) (Tz p (jZ h ([s].map λn=>-n))))=(nums.map λs=>c.filter λq=>decide (vl (mk p h) q=s)).map λf=>ls (PL f):=by rw[bE];refine b7 λs hs=>?_;have If:=Ic.sub (m:=c.filter λq=>decide (vl (mk p h) q=s)) (λq hq=>(aU.mp hq).1) (nd.filter _);rw[Wk];exact Jz (aa9 hp Ic lh (by decide) stc (hn s hs).1 (hn s hs).2) (If.mo p2)
  rw[e1,io];congr 1;refine fA λf hf=>?_;obtain⟨s,_,rfl⟩:=aX.mp hf;exact decide_eq_decide.mpr (Wd p2 λq hq=>I.irr q (s1 q (aU.mp hq).1))
structure Ss (l:List (Pl p))(t:Tab)(nm:List Int->List Int):Prop where
 nd:∀h∈t,(nm h).Nodup
 bd:∀h∈t,∀s∈nm h,0<=s/\s<p
 all:∀h∈t,∀q∈l,vl (mk p h) q∈nm h
theorem Fy {t:Tab}{k:Nat}(hk:k<t.length):t.getD k []∈t:=by rw[gQ,ac hk];exact bJ hk
theorem By (hp:jL p){l:List (Pl p)}(I:wV l)(ne:l≠[]){t:Tab}(K:Vn (PL l) t){nm:List Int->List Int}(N:Ss l t nm):∀i,i<=t.length ->
  ∃cls H,Cls l H cls/\qZ p t nm (ls (PL l)) i=cls.map (λc=>ls (PL c))/\(t.length<=cls.length\/∀k,k<i->mk p (t.getD k [])∈H)
 |0,_=>⟨[l],[],Cls.start ne,rfl,.inr λk hk=>absurd hk (dm k)⟩
 |i+1,hi=>by
  obtain⟨cls,H,C,e,f⟩:=By hp I ne K N i (by lia);have ht:t.getD i []∈t:=Fy (by lia);have el:(qZ p t nm (ls (PL l)) i).length=cls.length:=by rw[e,aa]
  show ∃cls H,Cls l H cls/\(if (qZ p t nm (ls (PL l)) i).length<t.length then G8 p (t.getD i []) (nm (t.getD i [])) (qZ p t nm (ls (PL l)) i) else qZ p t nm (ls (PL l)) i)=_/\_;by_cases c:(qZ p t nm (ls (PL l)) i).length<t.length
  ·rw[ah c];refine⟨Z9 (mk p (t.getD i [])) (nm (t.getD i [])) cls,mk p (t.getD i [])::H,C.step (N.nd _ ht) (N.all _ ht),?_,.inr λk hk=>?_⟩
   ·rw[e];refine RG hp I (K.len _ ht) (K.st _ ht) (N.bd _ ht) λc hc=>⟨λq hq=>C.mem hc hq,?_⟩;have nd:cls.flatten.Nodup:=(C.pm.nodup_iff).mpr I.nd;obtain⟨a,b,ec⟩:=gE hc;rw[ec,eX,bT]at nd;exact(gM.mp (gM.mp nd).2.1).1
   ·by_cases z:k=i
    ·rw[z];exact af
    ·rcases f with f|f
     ·rw[el]at c;lia
     ·exact ae _ (f k (by lia))
  ·rw[ag c];exact⟨cls,H,C,e,.inl (by rw[el]at c;lia)⟩
theorem UW (hp:jL p){l:List (Pl p)}(I:wV l)(hl:(ls (PL l)).length<=200)(ne:l≠[]){t:Tab}(K:Vn (PL l) t){nm:List Int->List Int}(N:Ss l t nm):(qZ p t nm (ls (PL l)) t.length).Perm (l.map ls):=by
 obtain⟨cls,H,C,e,f⟩:=By hp I ne K N t.length (aq _);have e2:(cls.map λc=>ls (PL c))=(cls.map PL).map ls:=by rw[bE];rfl
 rw[e,e2];exact(C.fin hp I hl K f).map ls
theorem Ue (hp:jL p){l:List (Pl p)}(I:wV l)(ne:l≠[]){t:Tab}(K:Vn (PL l) t){nm:List Int->List Int}(N:Ss l t nm){i:Nat}(hi:i<=t.length):(∀f∈qZ p t nm (ls (PL l)) i,Fo p f/\f.length<=(ls (PL l)).length)/\(qZ p t nm (ls (PL l)) i).length<=l.length:=by
 have p2:2<=p:=hp.1;obtain⟨cls,H,C,e,_⟩:=By hp I ne K N i hi;constructor
 ·intro f hf;rw[e]at hf;obtain⟨c,hc,rfl⟩:=aX.mp hf;refine⟨kO _,?_⟩;obtain⟨a,b,ec⟩:=gE hc;have pm:(c++(a++b).flatten).Perm l:=by refine List.Perm.trans ?_ C.pm;rw[ec,eX,eX,bT];rw[<- da,<- da];exact List.Perm.append_right _ List.perm_append_comm
  have e2:PL l=PL (a++b).flatten*PL c:=by rw[<- Ox pm,Rp,mul_comm]
  have Ia:∀q∈(a++b).flatten,uO q:=λq hq=>I.irr q (pm.mem_iff.mp (aH _ hq));have Ic:∀q∈c,uO q:=λq hq=>I.irr q (pm.mem_iff.mp (b9 _ hq));have m1:=IK p2 λq hq=>(Ia q hq).mo;have:=Mo.len p2 m1 (IK p2 λq hq=>(Ic q hq).mo);rw[<- e2]at this;have:=m1.pos;lia
 ·rw[e,aa,<- C.pm.length_eq];exact(Ac C.ne).1
theorem aaI (hp:jL p){l:List (Pl p)}(I:wV l){t:Tab}(K:Vn (PL l) t){rel:List Int->List Int}(h:∀h∈t,∀q∈l,∀s:Int,Go q (mk p h-con p s)->p ∣ ev (rel h) s):Ss l t λh=>DK p (rel h):=by
 have p2:2<=p:=hp.1;refine⟨λh _=>?_,λh _ s hs=>?_,λy hy q hq=>?_⟩
 ·unfold DK;refine d9 _ (λa b hab e=>hab ?_) (g8.filter _);lia
 ·obtain⟨k,hk,rfl⟩:=aX.mp hs;have:=a7.mp (aU.mp hk).1;lia
 ·have ly:(ls (mk p y)).length<=200:=by rw[qj];exact aJ (m6 p y) (K.len y hy)
  obtain⟨v0,v1,v2⟩:=Ma hp (I.irr q hq) ly ((wL hq).trans (K.st y hy));have d:=h y hy q hq _ v2;refine aX.mpr ⟨(vl (mk p y) q).toNat,aU.mpr ⟨a7.mpr (by lia),?_⟩,by lia⟩;have e:(((vl (mk p y) q).toNat:Nat):Int)=vl (mk p y) q:=by lia
  rw[e,decide_eq_true_iff,kZ (by lia)];exact bW d
end Pl
theorem Xf {k:Nat}(h:k<f.length):oX f none (some (k:Int))++[y]++oX f (some ((k:Int)+1)) none=f.set k y:=by rw[N6,show((k:Int)+1)=((k+1:Nat):Int) from rfl,uF,da,List.singleton_append,List.set_eq_take_append_cons_drop,ah h]
theorem yJ (T:Top K mg cFE cNO cNN cK cR):Ok P w K mg base 3 "row_less_one" ["kind","row","at"] (Iw K (Gr cR) (λas=>∃z row,∃a:Nat,as=[.ob 0 z,.ints row,.int (a:Int)]/\a<row.length/\row.length<=400) λas=>match as with
  |[.ob 0 z,.ints row,.int a]=>row.set a.toNat (pl z (row.getD a.toNat 0-1))
  |_=>[]):=by
 refine K1 T.zR yP (λas ⟨a,b,c,h,_⟩=>by rw[h];rfl) (λf cdv A outer s H E hr=>⟨_,(jt (mO (xY (j9 (xY (j9 (pP (xl 1) pI (mJ (xn 2)) (λ_ _=>.inl rfl))) (j9 (nH (jm (qu 0 (Wc T) hr (jm (lV 1 (xn 2) (λ_ _=>rfl)) (jm jo jq))) jq))))) (j9 (pP (xl 1) (mJ (lR (xn 2) jo)) pI (λ_ _=>.inl rfl)))))),λas hp=>?_⟩);obtain⟨z,row,a,rfl,ha,hl⟩:=hp;have c1:=vW row none (some (a:Int));have c2:=vW row (some ((a:Int)+1)) none;have ix:lC row.length (a:Int)=a:=by unfold lC;rw[ah (by lia)];lia
 refine⟨⟨⟨⟨rfl,tJ,rfl⟩,⟨⟨⟨rfl,⟨⟨.inl rfl,rfl,by show -(row.length:Int)<=(a:Int);lia,by show(a:Int)<(row.length:Int);lia⟩,tJ,tJ⟩,tJ,tJ⟩,tJ⟩,tJ⟩,bX (small1000 (by show(oX row none (some (a:Int))).length+1<=1000;lia))⟩,⟨rfl,⟨rfl,tJ⟩,tJ⟩,bX (small1000 ?_)⟩,?_⟩
 ·show(oX row none (some (a:Int))++[pl z (row.getD (lC row.length (a:Int)) 0-1)]).length+(oX row (some ((a:Int)+1)) none).length<=1000;rw[ai,bZ];lia
 ·show oX row none (some (a:Int))++[pl z (row.getD (lC row.length (a:Int)) 0-1)]++oX row (some ((a:Int)+1)) none=row.set a (pl z (row.getD a 0-1));rw[Xf ha,ix]
theorem wM (T:Top K mg cFE cNO cNN cK cR):Ok P w K mg base 1 "order_key" ["g"] (ym K (Gr cR) (λas=>∃g,as=[.ints g]) λas=>match as with
  |[.ints g]=>Xi g
  |_=>.non):=by
 refine xO T.HY Ga (λas ⟨a,h⟩=>by rw[h];rfl) (λf cdv A outer s H E hr=>⟨_,(jt (jD (rQ (jm (kY 0 T.j6) (jm (xl 0) jq))))),λas hp=>?_⟩);obtain⟨g,rfl⟩:=hp;exact⟨⟨.inl rfl,rfl,tJ⟩,rfl⟩
def Pj (p:Int)(rows:Tab):Tab:=yN (mR p (lJ p) rows (jM rows)) (turnT p (lJ p) rows (jM rows))
theorem wX (ok:Hb p g)(hk:k<n):((jQ p (Tz p g) f n).getD k []).length=(Tz p g).length-1:=by rw[Oz hk];obtain⟨_,_,ir,_⟩:=mH ok (pw f k);have:=ir.len;have:=RL (m:=((Tz p g).length:Int)-1) (r:=rm p (Tz p g) (pw f k)) (by lia);lia
theorem GF (ok:Hb p g)(hk:k<(Tz p g).length-1):((pL p (qT p (Tz p g))).getD k []).length=(Tz p g).length-1:=by have ql:(qT p (Tz p g)).length=(Tz p g).length-1:=oA ..;rw[Om (by lia),bB];exact wX ok hk
theorem uv (T:Top K mg cFE cNO cNN cK cR):Ok P w K mg base 8 "powering_less_one" ["kind","g"] (ym K (Gr cR) (λas=>∃p g,as=[.ob 0 p,.ints g]/\Hb p g/\(Tz p g).length<=40) λas=>match as with
  |[.ob 0 p,.ints g]=>jy (pL p (qT p (Tz p g)))
  |_=>.non):=by
 refine xO T.uP uw (λas ⟨a,b,h,_⟩=>by rw[h];rfl) (λf cdv A outer s H E hr=>⟨_,(jt (jD (uK (MP (N':=["at","row","kind"]) (cap:=[some 0]) (oO rfl rfl rfl rfl ⟨⟨rfl,.inr (.inl rfl),BR,.inl rfl,_,rfl,rfl⟩,tJ⟩ ⟨rfl,tJ⟩ rfl) rfl (by rfl) T.lZ (o6 (xc (Je T) hr (jm (xv 0) (jm (xl 1) jq)))) (λ_ _ _=>(pg_tup rfl (pgs_cons (pO 0) (pgs_cons (pO 1) pgs_nil)))) (λ_ _ _=>(j9 (tH (yJ T) hr (jm (xv 2) (jm (xl 1) (jm (xn 0) jq)))))))))),λas hp=>?_⟩);obtain⟨p,g,rfl,ok,l40⟩:=hp;have ql:(qT p (Tz p g)).length=(Tz p g).length-1:=oA ..;have rowl:∀k,k<(Tz p g).length-1->((qT p (Tz p g)).getD k []).length=(Tz p g).length-1:=λk hk=>wX ok hk;refine⟨⟨⟨⟨⟨rfl,rfl,tJ⟩,p,g,rfl,ok,l40⟩,rfl⟩,?_,λi q hq=>?_⟩,?_⟩
 ·show((qT p (Tz p g)).map PV.ints).length<=1000;rw[aa];lia
 ·have hq:((qT p (Tz p g)).map PV.ints)[i]?=some q:=hq;rw[az]at hq;obtain⟨x,hx,rfl⟩:=fy.mp hq;have hi:=(aj.mp hx).1;have ex:(qT p (Tz p g)).getD i []=x:=by rw[gQ,hx];rfl
  have:=rowl i (by lia);rw[ex]at this;exact⟨⟨rfl,rfl,rfl,tJ⟩,p,x,i,rfl,by lia,by lia⟩
 ·refine congrArg PV.lst (d8 λi=>?_);show(((qT p (Tz p g)).map PV.ints).mapIdx _)[i]?=((pL p (qT p (Tz p g))).map PV.ints)[i]?;unfold pL;rw[cD,az,az,cD];cases (qT p (Tz p g))[i]? <;> rfl
theorem Yz (hp:jL p)(hn:rows.length=N)(hN:0<N)(hw:∀i,i<N->(rows.getD i []).length=W):jM rows=W/\yz p N W rows (Pj p rows):=by have e:jM rows=W:=hw 0 hN;refine⟨e,?_⟩;unfold Pj;rw[e];exact Zm hp.1 (λx h0 h1=>(BL hp x h0 h1).2) hn hw
def qX (p:Int)(g h:List Int)(n:Nat):List Int:=(Pj p (jQ p (Tz p g) h (n+1))).getD 0 []
theorem uU (T:Top K mg cFE cNO cNN cK cR):Ok P w K mg base 7 "possible_numbers" ["kind","h","count","g"] (Iw K (Gr cR) (λas=>∃p h,∃n:Nat,∃g,as=[.ob 0 p,.ints h,.int (n:Int),.ints g]/\Hb p g/\h.length<=50/\Bd h/\(Tz p g).length<=40/\n<=50/\0<(Pj p (jQ p (Tz p g) h (n+1))).length) λas=>match as with
  |[.ob 0 p,.ints h,.int n,.ints g]=>DK p (qX p g h n.toNat)
  |_=>[]):=by
 refine K1 T.vA pY (λas ⟨a,b,c,d,h,_⟩=>by rw[h];rfl) (λf cdv A outer s H E hr=>⟨_,(jn (jG (i:=4) pY.nd rfl (Or.inr rfl) (xl_of (jH (xc (Df T) hr (jm (xv 0) (jm (xc (u5 T) hr (jm (xv 0) (jm (xl 1) (jm (lR (xn 2) jo) (jm (xl 3) jq))))) jq))) jo (λ_ _=>rfl))))
 (jt (mO (Xo (N':=["number","kind","relation"]) (cap:=[some 0,some 4]) (oO rfl rfl rfl rfl ⟨⟨rfl,.inr (.inl rfl),BR,.inl rfl,_,rfl,rfl⟩,⟨⟨rfl,.inr (.inl rfl),BR,.inl rfl,_,rfl,rfl⟩,tJ⟩⟩ ⟨rfl,⟨rfl,tJ⟩⟩ rfl) rfl (by rfl) T.pJ (Fd (ksz T) (xv 0)) (λ_ _ _=>(pO 0)) (λ_ _ _=>(tO (Wm (QM T) hr (jm (xv 1) (jm (xl 2) (jm (xn 0) jq)))) jo)) (λ_ _ _=>(xn 0)))))),λas hp=>?_⟩)
 obtain⟨p,h,n,g,rfl,ok,hl,hb,gl,nl,pos⟩:=hp;have p2:2<=p:=ok.pr.1;have p3:p<=9973:=ok.pr.2.1;have rl:(jQ p (Tz p g) h (n+1)).length=n+1:=oA ..;have rr:∀i,i<n+1->((jQ p (Tz p g) h (n+1)).getD i []).length=(Tz p g).length-1:=λi hi=>wX ok hi;obtain⟨ew,KO⟩:=Yz ok.pr rl (gD n) rr;have en:((n:Int)+1)=((n+1:Nat):Int):=by lia
 have e1:jy (jQ p (Tz p g) h ((n:Int)+1).toNat)=jy (jQ p (Tz p g) h (n+1)):=by rw[en,aE]
 have e2:jy (yN (mR p (lJ p) (((jQ p (Tz p g) h ((n:Int)+1).toNat).map PV.ints).map kJ) (jM (((jQ p (Tz p g) h ((n:Int)+1).toNat).map PV.ints).map kJ))) (turnT p (lJ p) (((jQ p (Tz p g) h ((n:Int)+1).toNat).map PV.ints).map kJ) (jM (((jQ p (Tz p g) h ((n:Int)+1).toNat).map PV.ints).map kJ))))=jy (Pj p (jQ p (Tz p g) h (n+1))):=by rw[mX,en,aE];rfl
 have hx:∀t,t=jy (Pj p (jQ p (Tz p g) h (n+1)))->oY t 0:=λt e=>by rw[e];exact xV (i:=0) pos
 have hx2:∀t,t=jy (Pj p (jQ p (Tz p g) h (n+1)))->lX t 0=.ints (kJ (lX t 0)):=λt e=>by rw[e];exact xM (i:=0) pos
 have hx3:∀t,t=jy (Pj p (jQ p (Tz p g) h (n+1)))->kJ (lX t 0)=qX p g h n:=λt e=>by rw[e];exact BJ (i:=0) pos
 refine⟨⟨⟨⟨⟨rfl,⟨⟨rfl,rfl,⟨rfl,tJ⟩,rfl,tJ⟩,p,h,n+1,g,?_,ok,hl,hb,by lia,by lia⟩,tJ⟩,p,jQ p (Tz p g) h (n+1),?_,ok.pr,by lia,by lia,λi hi=>?_⟩,tJ,?_⟩,?_⟩,λre ere=>?_⟩
 ·show[PV.ob 0 p,.ints h,.int ((n:Int)+1),.ints g]=_;rw[en]
 ·exact congrArg (λt=>[PV.ob 0 p,t]) e1
 ·rw[ew];exact rr i (by lia)
 ·exact hx _ e2
 ·exact hx2 _ e2
 have ere:re=qX p g h n:=ere.trans (hx3 _ e2);have rm:qX p g h n∈Pj p (jQ p (Tz p g) h (n+1)):=Pl.Fy pos;have red:=KO.red _ rm;have rlen:re.length<=80:=by rw[ere,KO.len _ rm];lia
 have rsm:∀m∈re,m.natAbs<=2^200:=λm hm=>by
  obtain⟨i,hi,rfl⟩:=ce.mp hm;have:=red i;rw[<- ere,gQ,ac hi]at this;have b:=Aj (z:=p) (n:=re[i]) (by lia);have this:pl p re[i]=re[i]:=this;rw[this]at b;have:re[i].natAbs<=10000:=by lia
  exact aJ this (by decide)
 refine lF (Z':=[.fr (.ob 0 p),.fr (.ints h),.fr (.int (n:Int)),.fr (.ints g),.fr (.ints re)]) rfl ?_;refine⟨⟨⟨rfl,rfl⟩,⟨by show(0:Int)<=p;lia,by show p<=(10000:Int);lia⟩,λk hk=>?_⟩,?_⟩
 ·have hk:k<p.toNat:=hk;refine⟨⟨⟨⟨rfl,rfl,rfl,tJ⟩,p,re,(k:Int),rfl,by lia,?_,rlen,?_,rsm⟩,tJ⟩,λ_=>rfl⟩
  ·have:(10000:Int)<((2^9000:Nat):Int):=Int.ofNat_lt.mpr (aD (show 10000<2^14 by decide) (cO (by decide) (by decide)));generalize ((2^9000:Nat):Int)=B at *
   lia
  ·have:(k:Int).natAbs<=10000:=by lia
   exact aJ this (by decide)
 ·show List.map _ (List.filter _ (List.range p.toNat))=DK p (qX p g h ((n:Int)).toNat);rw[aE,<- ere];rfl
theorem Cz (T:Top K mg cFE cNO cNN cK cR):Ok P w K mg base 6 "told_apart" ["kind","pieces","h","numbers"] (ym K (Gr cR) (λas=>∃p ps h nums,as=[.ob 0 p,jy ps,.ints h,.ints nums]/\jL p/\ps.length<=100/\(∀f∈ps,f.length<=200)/\h.length<=100/\nums.length<=10000) λas=>match as with
  |[.ob 0 p,.lst ps,.ints h,.ints nums]=>jy (G8 p h nums (ps.map kJ))
  |_=>.non):=by
 refine xO T.Ek nU (λas ⟨a,b,c,d,h,_⟩=>by rw[h];rfl) (λf cdv A outer s H E hr=>⟨_,(jn (qx (i:=4) nU.nd rfl (Or.inl rfl) (sE jq))
 (jn (zQ (k:=5) aO rfl (o6 (xv 1)) nU.nd rfl (Or.inl rfl)
 (jt (Jh (k:=6) aO rfl (xl 3) nU.nd rfl (Or.inl rfl)
 (jn (jG (i:=7) nU.nd rfl (Or.inl rfl) (j9 (tH (xZ T) hr (jm (xv 0) (jm (xl 5) (jm (j9 (tH (Wx T) hr (jm (xv 0) (jm (xl 2) (jm (j9 (nH (jm (xn 6) jq))) jq))))) jq))))))
 (jt (lQ (uV (kY 7 T.j6) jo)
 (jt (rP 4 (xl 7)))
 kW))))))
 (lG 4 (jt (jD (xv 4)))))),λas hp=>?_⟩)
 obtain⟨p,ps,h,nums,rfl,hp,pl',pf,hl,nl⟩:=hp;have big:∀{x y:Nat},x<=100->y<=10000->x*10000+y<sizeLine:=λ{x y} a b=>aV (show x*10000+y<=1010000 by lia) (by decide);have tl:∀i,i<=ps.length->(G8 p h nums (ps.take i)).length<=i*10000:=λi=>by
  induction i with
  |zero=>intro _;exact bq _
  |succ i ih=>intro hi;have e:=pF (ac (show i<ps.length by omega));unfold G8 at ih ⊢;rw[e,eY,ai,cU,fJ,bh];have a:=ih (by omega);have b:=cY (λf=>decide (1<f.length)) (nums.map λs=>gc p ps[i] (Tz p (jZ h ([s].map λn=>-n))));rw[aa]at b;omega
 refine⟨tJ,λl0 el0=>?_⟩;subst el0;refine lF (Z':=[.fr (.ob 0 p),.fr (jy ps),.fr (.ints h),.fr (.ints nums),.ow (.lst []),.un,.un,.un]) rfl ?_;refine⟨⟨rfl,rfl⟩,λi Z=>∃v5 v6 v7,Z=[.fr (.ob 0 p),.fr (jy ps),.fr (.ints h),.fr (.ints nums),.ow (jy (G8 p h nums (ps.take i))),v5,v6,v7],⟨.un,.un,.un,rfl⟩,?_,?_⟩
 ·rintro i q Z hq ⟨v5,v6,v7,rfl⟩;have hq:(ps.map PV.ints)[i]?=some q:=hq;rw[az]at hq;obtain⟨x,hx,rfl⟩:=fy.mp hq;have il:i<ps.length:=(aj.mp hx).1;have xl:=pf x (bQ hx);have t1:=tl i (by lia);refine⟨rfl,λj Z=>∃v6 v7,Z=[.fr (.ob 0 p),.fr (jy ps),.fr (.ints h),.fr (.ints nums),.ow (jy (G8 p h nums (ps.take i)++((nums.take j).map λs=>gc p x (Tz p (jZ h ([s].map λn=>-n)))).filter λf=>decide (1<f.length))),.fr (.ints x),v6,v7],⟨v6,v7,?_⟩,?_,?_⟩
  ·rw[iJ,dY,fX,bh];rfl
  ·rintro j m Z hm ⟨v6,v7,rfl⟩;have hm:nums[j]?=some m:=hm;have jl:j<nums.length:=(aj.mp hm).1;have t2:(((nums.take j).map λs=>gc p x (Tz p (jZ h ([s].map λn=>-n)))).filter λf=>decide (1<f.length)).length<=j:=by refine aJ (cY _ _) ?_;rw[aa,aM];lia
   have addl:(Tz p (jZ h ([m].map λn=>-n))).length<=200:=by refine aJ (m6 _ _) ?_;unfold jZ;rw[aa,ao];show max h.length 1<=200;lia
   refine⟨⟨⟨rfl,rfl,⟨⟨rfl,rfl,⟨⟨rfl,tJ⟩,tJ⟩,tJ⟩,p,h,[m],rfl,by lia,by show 1<=500;decide⟩,tJ⟩,p,x,Tz p (jZ h ([m].map λn=>-n)),rfl,hp,xl,addl⟩,λsh esh=>?_⟩;have esh:sh=gc p x (Tz p (jZ h ([m].map λn=>-n))):=esh;refine lF (Z':=[.fr (.ob 0 p),.fr (jy ps),.fr (.ints h),.fr (.ints nums),.ow (jy (G8 p h nums (ps.take i)++((nums.take j).map λs=>gc p x (Tz p (jZ h ([s].map λn=>-n)))).filter λf=>decide (1<f.length))),.fr (.ints x),.fr (.int m),.fr (.ints sh)]) rfl ?_;have nx:((nums.take (j+1)).map λs=>gc p x (Tz p (jZ h ([s].map λn=>-n)))).filter (λf=>decide (1<f.length))=(((nums.take j).map λs=>gc p x (Tz p (jZ h ([s].map λn=>-n)))).filter λf=>decide (1<f.length))++if 1<sh.length then[sh] else[]:=by
    rw[pF hm,bK,gA,bM,dY,<- esh];congr 1;by_cases c:1<sh.length
    ·rw[ah c,cL (by exact aK c),fX]
    ·rw[ag c,cM (by simpa using c),fX]
   refine⟨⟨.inl rfl,tJ⟩,λq=>?_,λq=>?_⟩
   ·have q:(sh.length:Int) > 1:=q;refine⟨rfl,rfl,?_,?_⟩
    ·show((G8 p h nums (ps.take i)++(((nums.take j).map λs=>gc p x (Tz p (jZ h ([s].map λn=>-n)))).filter λf=>decide (1<f.length))).map PV.ints).length<sizeLine;rw[aa,ai];exact aV (Nat.add_le_add t1 t2) (big (by lia) (by lia))
    ·refine⟨.fr (.int m),.fr (.ints sh),?_⟩;rw[nx,ah (by lia),<- da];unfold jy;rw[bK (l₂:=[sh])];rfl
   ·have q:¬(sh.length:Int) > 1:=q;refine⟨.fr (.int m),.fr (.ints sh),?_⟩;rw[nx,ag (by lia),bh]
  ·rintro Z ⟨v6,v7,rfl⟩;refine⟨.fr (.ints x),v6,v7,?_⟩;have e:G8 p h nums (ps.take (i+1))=G8 p h nums (ps.take i)++((nums.take nums.length).map λs=>gc p x (Tz p (jZ h ([s].map λn=>-n)))).filter λf=>decide (1<f.length):=by unfold G8;rw[pF hx,eY,dt,cU,fJ,bh]
   rw[e];rfl
 ·rintro Z ⟨v5,v6,v7,rfl⟩;refine⟨rfl,?_⟩;show jy (G8 p h nums (ps.take (ps.map PV.ints).length))=jy (G8 p h nums ((ps.map PV.ints).map kJ));rw[aa,dt,mX]
theorem MJ (kf:PV->List Int):∀ps:List PV,(ps.map kf).Nodup->∃l:List PV,l.Perm ps/\l.Pairwise λa b=>nu (kf a) (kf b)=true
 |[],_=>⟨[],.nil,.nil⟩
 |q::ps,nd=>by
  rw[bM,cX]at nd;obtain⟨l,pm,so⟩:=MJ kf ps nd.2;have ne:∀x∈l,kf x≠kf q:=λx hx z=>nd.1 (aX.mpr ⟨x,pm.mem_iff.mp hx,z⟩);refine⟨(l.filter λx=>nu (kf x) (kf q))++q::l.filter (λx=>!nu (kf x) (kf q)),?_,?_⟩
  ·refine hO.trans (List.Perm.cons q ?_);exact(Pl.uJ (λx=>nu (kf x) (kf q)) l).trans pm
  ·refine iF.mpr ⟨so.filter _,bY.mpr ⟨λb hb=>?_,so.filter _⟩,λa ha b hb=>?_⟩
   ·obtain⟨h1,h2⟩:=aU.mp hb;exact Be (ne b h1) (by simpa using h2)
   ·have h1:=(aU.mp ha).2;rcases aC.mp hb with rfl|hb
    ·exact h1
    ·obtain⟨h3,h2⟩:=aU.mp hb;exact N8 h1 (Be (ne b h3) (by simpa using h2))
theorem ut (nd:(ps.map kf).Nodup):(j8 kf ps).Perm ps/\(j8 kf ps).Pairwise λa b=>nu (kf a) (kf b)=true:=by obtain⟨l,a,b⟩:=MJ kf ps nd;rw[Ba a b];exact⟨a,b⟩
theorem Km (nd:(qs.map kf).Nodup)(h:ps.Perm qs):j8 kf ps=j8 kf qs:=Ba ((ut nd).1.trans h.symm) (ut nd).2
def stI (p:Int)(g:List Int):Tab:=Pj p (pL p (qT p (Tz p g)))
def oh (p:Int)(g:List Int):List (List Int):=qZ p (stI p g) (λh=>DK p (qX p g h (stI p g).length)) (Tz p g) (stI p g).length
open Pl in
theorem yr (hp:jL p){l:List (Pl p)}(I:wV l)(ne:l≠[])(e:Tz p g=ls (PL l))(gl:g.length<=200)(hl:(Tz p g).length<=40) :
  Hb p g/\Vn (PL l) (stI p g)/\(stI p g).length<=39/\(∀h∈stI p g,h.length<=39/\(∀j,pl p (h.getD j 0)=h.getD j 0)/\0<(Pj p (jQ p (Tz p g) h ((stI p g).length+1))).length)/\Ss l (stI p g) (λh=>DK p (qX p g h (stI p g).length)):=by
 have p2:2<=p:=hp.1;have mg:=I.mo p2;have d:=zZ p2 I.irr;have l1:=lP ne;have le:(ls (PL l)).length<=40:=by rw[<- e];exact hl
 have ok:Hb p g:=⟨hp,gl,by rw[e];exact mg.ne,by rw[e,show jx (ls (PL l))=1 from mg];exact g9 ..⟩;have n0:(Tz p g).length=(ls (PL l)).length:=by rw[e]
 have pl0:(pL p (qT p (Tz p g))).length=(Tz p g).length-1:=by rw[Hq];exact oA ..
 obtain⟨_,KO⟩:=Yz hp pl0 (by lia) λi hi=>GF ok hi;have KO':yz p ((ls (PL l)).length-1) ((ls (PL l)).length-1) (pL p (qT p (ls (PL l)))) (stI p g):=by rw[<- e];exact KO
 have K:=Py hp mg (by lia) (by lia) KO';have km:=HF hp I (by lia) K;have rel:∀h∈stI p g,0<(Pj p (jQ p (Tz p g) h ((stI p g).length+1))).length/\∀q∈l,∀s:Int,Go q (mk p h-con p s)->p ∣ ev (qX p g h (stI p g).length) s:=λh hh=>by
  obtain⟨_,KR⟩:=Yz hp (rows:=jQ p (Tz p g) h ((stI p g).length+1)) (oA ..) (gD _) λi hi=>wX ok hi;have KR':yz p ((stI p g).length+1) ((ls (PL l)).length-1) (jQ p (ls (PL l)) h ((stI p g).length+1)) (Pj p (jQ p (Tz p g) h ((stI p g).length+1))):=by rw[<- e];exact KR
  obtain⟨a,b⟩:=Pb hp I (by lia) (K.len h hh) (K.st h hh) (by lia) KR';exact⟨a,λq hq s gs=>b _ (Fy a) q hq s gs⟩
 exact⟨ok,K,aJ KO.le (by lia),λh hh=>⟨by rw[KO.len h hh];lia,KO.red h hh,(rel h hh).1⟩,aaI hp I K λh hh=>(rel h hh).2⟩
open Pl in
theorem Bu {l:List (Pl p)}(nd:l.Nodup):(l.map ls).Nodup:=d9 _ (λ_ _ h e=>h (Mo.inj e)) nd
open Pl in
theorem xR (hp:jL p){l:List (Pl p)}(I:wV l)(ne:l≠[])(e:Tz p g=ls (PL l))(gl:g.length<=200)(hl:(Tz p g).length<=40):(oh p g).Perm (l.map ls):=by obtain⟨_,K,_,_,N⟩:=yr hp I ne e gl hl;unfold oh;rw[e];exact UW hp I (by rw[<- e];lia) ne K N
theorem xK (t:List (List Int)):(t.map PV.ints).map lH=t:=Qj t
theorem Vo (p:Int)(r:Li):(DK p r).length<=p.toNat:=by unfold DK;rw[aa];refine aJ (cY _ _) ?_;rw[ao];exact aq _
theorem Yv (hp:jL p)(r:∀j,pl p (h.getD j 0)=h.getD j 0):Bd h:=λx hx=>by
 obtain⟨i,hi,rfl⟩:=ce.mp hx;have:=r i;rw[gQ,ac hi]at this;have this:pl p h[i]=h[i]:=this;have b:=Aj (z:=p) (n:=h[i]) (by have:=hp.1;lia);rw[this]at b;have:h[i].natAbs<2^14:=by have:=hp.2.1;lia
 exact aD this (cO (by decide) (by decide))
open Pl in
theorem Sh (T:Top K mg cFE cNO cNN cK cR):Ok P w K mg base 9 "split" ["kind","g"] (ym K (Gr cR) (λas=>∃p g,as=[.ob 0 p,.ints g]/\jL p/\g.length<=200/\(Tz p g).length<=40/\∃l:List (Pl p),wV l/\l≠[]/\Tz p g=ls (PL l)) λas=>match as with
  |[.ob 0 p,.ints g]=>.lst (j8 lH ((oh p g).map PV.ints))
  |_=>.non):=by
 refine xO T.Xj ue (λas ⟨a,b,h,_⟩=>by rw[h];rfl) (λf cdv A outer s H E hr=>⟨_,(jn (lW (i:=2) ue.nd rfl (Or.inl rfl) (uK (sE (jm (j9 (tH (jU T) hr (jm (xv 0) (jm (xl 1) jq)))) jq))))
 (jn (lW (i:=3) ue.nd rfl (Or.inl rfl) (xc (Df T) hr (jm (xv 0) (jm (xc (uv T) hr (jm (xv 0) (jm (xl 1) jq))) jq))))
 (jn (zQ (k:=4) aO rfl (o6 (xv 3)) ue.nd rfl (Or.inl rfl)
 (jt (lQ (aaF (mD T.j6 (xv 2)) (mD T.j6 (xv 3)))
 (jt (lW (i:=2) ue.nd rfl (Or.inl rfl) (xc (Cz T) hr (jm (xv 0) (jm (xv 2) (jm (xl 4) (jm (j9 (tH (uU T) hr (jm (xv 0) (jm (xl 4) (jm (mD T.j6 (xv 3)) (jm (xl 1) jq)))))) jq)))))))
 kW)))
 (jt (jD (uK (Vf lH (wM T) hr T.z6 (xv 2)))))))),λas hp=>?_⟩)
 obtain⟨p,g,rfl,hp,gl,hl,l,I,ne,e⟩:=hp;have p2:2<=p:=hp.1;have p3:p<=9973:=hp.2.1;obtain⟨ok,K,tl,tr,N⟩:=yr hp I ne e gl hl;have pe:=xR hp I ne e gl hl;have SL:=λi hi=>Ue hp I ne K N (i:=i) hi;rw[<- e]at SL;have d:=zZ p2 I.irr;rw[<- e]at d;have pl0:(pL p (qT p (Tz p g))).length=(Tz p g).length-1:=by rw[Hq];exact oA ..
 have w0:jM (pL p (qT p (Tz p g)))=(Tz p g).length-1:=GF ok (by have:=lP ne;lia);have e2:jy (yN (mR p (lJ p) (((pL p (qT p (Tz p g))).map PV.ints).map kJ) (jM (((pL p (qT p (Tz p g))).map PV.ints).map kJ))) (turnT p (lJ p) (((pL p (qT p (Tz p g))).map PV.ints).map kJ) (jM (((pL p (qT p (Tz p g))).map PV.ints).map kJ))))=jy (stI p g):=by rw[mX];rfl
 unfold oh at pe;refine⟨⟨⟨⟨rfl,rfl,tJ⟩,p,g,rfl,by lia⟩,tJ⟩,λpc epc=>?_⟩;replace epc:pc=jy [Tz p g]:=epc;refine⟨⟨⟨rfl,⟨⟨rfl,rfl,tJ⟩,p,g,rfl,ok,hl⟩,tJ⟩,p,pL p (qT p (Tz p g)),rfl,hp,by lia,by lia,λi hi=>by rw[w0];exact GF ok (by lia)⟩,λst est=>?_⟩;replace est:st=jy (yN (mR p (lJ p) (((pL p (qT p (Tz p g))).map PV.ints).map kJ) (jM (((pL p (qT p (Tz p g))).map PV.ints).map kJ))) (turnT p (lJ p) (((pL p (qT p (Tz p g))).map PV.ints).map kJ) (jM (((pL p (qT p (Tz p g))).map PV.ints).map kJ)))):=est;rw[e2]at est;refine lF (Z':=[.fr (.ob 0 p),.fr (.ints g),.fr pc,.fr st,.un]) rfl ?_;subst epc est;have N1:∀i h,(stI p g)[i]?=some h->qZ p (stI p g) (λh=>DK p (qX p g h (stI p g).length)) (Tz p g) (i+1)=if (qZ p (stI p g) (λh=>DK p (qX p g h (stI p g).length)) (Tz p g) i).length<(stI p g).length then G8 p h (DK p (qX p g h (stI p g).length)) (qZ p (stI p g) (λh=>DK p (qX p g h (stI p g).length)) (Tz p g) i) else qZ p (stI p g) (λh=>DK p (qX p g h (stI p g).length)) (Tz p g) i:=λi h hx=>by
  have eh:(stI p g).getD i []=h:=by rw[gQ,hx];rfl
  rw[<- eh];rfl
 have N0:[Tz p g]=qZ p (stI p g) (λh=>DK p (qX p g h (stI p g).length)) (Tz p g) 0:=rfl;have NE:qZ p (stI p g) (λh=>DK p (qX p g h (stI p g).length)) (Tz p g) (stI p g).length=oh p g:=rfl;rw[NE]at pe;generalize qZ p (stI p g) (λh=>DK p (qX p g h (stI p g).length)) (Tz p g)=S at *
 generalize hSp:oh p g=Sp at pe NE;generalize hnm:(λh=>DK p (qX p g h (stI p g).length))=nm at *
 generalize stI p g=t at *
 have lT:(t.map PV.ints).length=t.length:=aa _;refine⟨⟨rfl,rfl⟩,λi Z=>∃v4,Z=[.fr (.ob 0 p),.fr (.ints g),.fr (jy (S i)),.fr (jy t),v4],⟨.un,by rw[<- N0]⟩,?_,?_⟩
 ·rintro i q Z hq ⟨v4,rfl⟩;have hq:(t.map PV.ints)[i]?=some q:=hq;rw[az]at hq;obtain⟨h,hx,rfl⟩:=fy.mp hq;have il:i<t.length:=(aj.mp hx).1;obtain⟨h1,h2,h3⟩:=tr h (bQ hx);obtain⟨s1,s2⟩:=SL i (by lia);have nx:=N1 i h hx;have lS:((S i).map PV.ints).length=(S i).length:=aa _;refine⟨⟨⟨rfl,tJ⟩,rfl,tJ⟩,λq=>?_,λq=>?_⟩
  ·have q:(((S i).map PV.ints).length:Int)<((t.map PV.ints).length:Int):=q;refine⟨⟨⟨rfl,rfl,rfl,⟨⟨rfl,rfl,⟨rfl,tJ⟩,rfl,tJ⟩,p,h,t.length,g,?_,ok,by lia,Yv hp h2,hl,by lia,h3⟩,tJ⟩,p,S i,h,DK p (qX p g h t.length),?_,hp,by lia,λf hf=>by have:=(s1 f hf).2;lia,by lia,?_⟩,λnw enw=>?_⟩
   ·show[PV.ob 0 p,.ints h,.int ((t.map PV.ints).length:Int),.ints g]=_;rw[lT]
   ·show[PV.ob 0 p,jy (S i),.ints h,.ints (DK p (qX p g h (((t.map PV.ints).length:Int)).toNat))]=_;rw[lT,aE]
   ·have:=Vo p (qX p g h t.length);lia
   ·have enw:nw=jy (G8 p h (DK p (qX p g h (((t.map PV.ints).length:Int)).toNat)) (((S i).map PV.ints).map kJ)):=enw;rw[lT,aE,mX]at enw;refine⟨.fr (.ints h),?_⟩;rw[nx,ah (by lia),enw];rfl
  ·have q:¬(((S i).map PV.ints).length:Int)<((t.map PV.ints).length:Int):=q;refine⟨.fr (.ints h),?_⟩;rw[nx,ag (by lia)];rfl
 ·rintro Z ⟨v4,rfl⟩;have eL:S (t.map PV.ints).length=Sp:=by rw[lT];exact NE
  have nd:Sp.Nodup:=pe.nodup_iff.mpr (Bu I.nd);have ll:Sp.length<=40:=by rw[pe.length_eq,aa];lia
  refine⟨⟨rfl,rfl,⟨?_,?_⟩,λq hq=>?_⟩,?_⟩
  ·show((S (t.map PV.ints).length).map PV.ints).length<64;rw[eL,aa];lia
  ·show(((S (t.map PV.ints).length).map PV.ints).map lH).Nodup;rw[eL,xK];exact nd
  ·have hq:q∈(S (t.map PV.ints).length).map PV.ints:=hq;obtain⟨x,_,rfl⟩:=aX.mp hq;exact⟨⟨x,rfl⟩,rfl⟩
  ·show PV.lst (j8 lH ((S (t.map PV.ints).length).map PV.ints))=PV.lst (j8 lH ((oh p g).map PV.ints));rw[eL,hSp]
def Yj (q:PV):List Int:=lH (OD q)
def O9 (p:Int)(f:List Int):List PV:=(rG (JL p f)).flatMap λq=>(j8 lH ((oh p (lH (uR q))).map PV.ints)).map λr=>.tup [r,vD q]
open Pl in
def BP {p:Int}(r:Pl p×Nat):PV:=.tup [.ints (ls r.1),.int (r.2:Int)]
open Pl in
structure BW {p:Int}(f:List Int)(L:List (Pl p×Nat)):Prop where
 irr:∀q∈L,uO q.1/\(ls q.1).length<=31/\q.2≠0/\q.2<31
 ne:L.Pairwise λa b=>a.1≠b.1
 eN:ls (Pr L id)=qR p (Tz p f)
 fp:JL p f=.lst (Hm L)
 fam:vP L
open Pl in
theorem YX (hp:jL p)(ne:Tz p f≠[]):ls (mk p (qR p (Tz p f)))=qR p (Tz p f)/\Mo (mk p (qR p (Tz p f))):=by
 have G:=Az hp (jY p f) (nO p f);have eN:ls (mk p (qR p (Tz p f)))=qR p (Tz p f):=uy ⟨G.form,G.red⟩;refine⟨eN,?_⟩;show jx (ls (mk p (qR p (Tz p f))))=1;rw[eN];rcases G.one with z|z
 ·exfalso;obtain⟨Q,hQ⟩:=G.d1;rw[z]at hQ;refine ne (m5 (jY p f) nR λn=>su (nO p f n) (by show pl p 0=0;exact lO p) ?_);have:=hQ n;rw[jJ,lU,aT]at this;exact this
 ·exact z
open Pl in
theorem LC (hp:jL p)(ne:Tz p f≠[])(nl:(qR p (Tz p f)).length<=31):∃L:List (Pl p×Nat),BW f L:=by
 have p2:2<=p:=hp.1;obtain⟨eN,mN⟩:=YX hp ne;obtain⟨L,h1,h2,h3⟩:=NB hp mN;rw[eN]at h1;have F:vP L:=⟨gN (λ{a b} ha hb n=>(h1 a ha).1.cop hp (h1 b hb).1 (by have:=(h1 b hb).2.1;lia) n) h2,λq hq=>Ol hp (h1 q hq).1 (by have:=(h1 q hq).2.1;lia),λq hq=>(h1 q hq).1.mo,λq hq=>(h1 q hq).1.deg⟩;have nz:∀q∈L,q.2≠0:=λq hq=>(h1 q hq).2.2;rw[h3]at eN;refine⟨L,λq hq=>⟨(h1 q hq).1,by have:=(h1 q hq).2.1;lia,nz q hq,?_⟩,h2,eN,?_,F⟩
 ·have big:q.2<(ls (Pr L id)).length:=yf p2 (g:=id) F.mo F.dg q hq;rw[eN]at big;lia
 ·unfold JL;rw[<- eN]at nl ⊢;have h:(lf p (ls (Pr L id)) 40).length<=1:=dN λc=>by have:=IW hp F c;lia
  rw[(Jk hp F nz nl h).2]
open Pl in
theorem Sy (c:Nat):∀L:List (Pl p×Nat),PL ((L.filter λr=>decide (r.2=c)).map λr=>r.1)=Pr L (ind c)
 |[]=>rfl
 |q::L=>by
  rw[jR,<- Sy c L];unfold ind;by_cases h:q.2=c
  ·rw[cL (by exact aK h),ah h];show q.1*PL _=q.1^0*q.1*PL _;rw[Nh,one_mul]
  ·rw[cM (by simpa using h),ag h,Nh,one_mul]
open Pl in
theorem PB (p2:2<=p){L:List (Pl p×Nat)}(F:vP L)(nz:∀q∈L,q.2≠0)(c:Nat):(ls (Pr L (ind c))).length<=(ls (Pr L id)).length:=by
 have e:=Ai (L:=L) (g:=id) (h:=ind c) λq hq=>by
  unfold ind;split
  ·have:=nz q hq;show 1<=q.2;lia
  ·exact bq _
 have l:=Mo.len p2 (F.pr p2 λm=>id m-ind c m) (F.pr p2 (ind c));rw[<- e]at l;have:=(F.pr p2 λm=>id m-ind c m).pos;lia
open Pl in
theorem Ja (p2:2<=p):∀{L:List (Pl p×Nat)},(∀q∈L,Mo q.1/\1<(ls q.1).length/\q.2≠0)->L.length+1<=(ls (Pr L id)).length/\Mo (Pr L id)
 |[],_=>by have e:Pr ([]:List (Pl p×Nat)) id=1:=rfl;rw[e,vV p2];exact⟨aq _,Mo.one p2⟩
 |q::L,h=>by obtain⟨a,b⟩:=Ja p2 (L:=L) λr hr=>h r (ae _ hr);obtain⟨m,d,z⟩:=h q af;have mp:=Mo.pow p2 m (id q.2);have e:=Mo.len p2 mp b;have el:=Mo.vH p2 m (id q.2);rw[<- jR]at e;refine⟨?_,by rw[jR];exact Mo.mul p2 mp b⟩;have z:id q.2≠0:=z;have:1*1<=id q.2*((ls q.1).length-1):=gG (by lia) (by lia);rw[aR];lia
open Pl in
def YQ {p:Int}(L:List (Pl p×Nat))(c:Nat):List (Pl p):=(L.filter λr=>decide (r.2=c)).map λr=>r.1
open Pl in
theorem BW.irs {p:Int}{f:Li}{L:List (Pl p×Nat)}(F:BW f L)(c:Nat):wV (YQ L c):=by
 refine⟨λq hq=>?_,λq hq=>?_,?_⟩
 ·obtain⟨r,hr,rfl⟩:=aX.mp hq;exact(F.irr r (aU.mp hr).1).1
 ·obtain⟨r,hr,rfl⟩:=aX.mp hq;have:=(F.irr r (aU.mp hr).1).2.1;lia
 ·exact d9 _ (λ_ _ h=>h) (F.ne.filter _)
open Pl in
theorem BW.part (hp:jL p){L:List (Pl p×Nat)}(F:BW f L)(nl:(qR p (Tz p f)).length<=31){c:Nat}(hc:1<(ls (Pr L (ind c))).length) :
  wV (YQ L c)/\YQ L c≠[]/\Tz p (ls (Pr L (ind c)))=ls (PL (YQ L c))/\(ls (Pr L (ind c))).length<=31:=by
 have p2:2<=p:=hp.1;refine⟨F.irs c,λz=>?_,by rw[sW];unfold YQ;rw[Sy],?_⟩
 ·obtain⟨r,hr,hz⟩:=(oU p2 F.fam.mo F.fam.dg).mp hc;unfold ind at hz;by_cases y:r.2=c
  ·have:r.1∈YQ L c:=aX.mpr ⟨r,aU.mpr ⟨hr,aK y⟩,rfl⟩;rw[z]at this;cases this
  ·rw[ag y]at hz;exact hz rfl
 ·have:=PB p2 F.fam (λq hq=>(F.irr q hq).2.2.1) c;rw[F.eN]at this;lia
open Pl in
theorem DG {α β:Type}{f g:α->List β}:∀{l:List α},(∀x∈l,(f x).Perm (g x))->(l.flatMap f).Perm (l.flatMap g)
 |[],_=>.nil
 |x::l,h=>by rw[cU,cU];exact(h x af).append (DG λy hy=>h y (ae _ hy))
open Pl in
theorem Hr (hp:jL p){L:List (Pl p×Nat)}(F:BW f L)(nl:(qR p (Tz p f)).length<=31):(O9 p f).Perm (L.map BP):=by
 have p2:2<=p:=hp.1;unfold O9;rw[F.fp];show((Hm L).flatMap _).Perm _;unfold Hm;rw[List.flatMap_map];have csA:∀c∈(List.range 31).filter (λc=>decide (1<(ls (Pr L (ind c))).length)),1<(ls (Pr L (ind c))).length:=λc hc=>bU (aU.mp hc).2;have csN:((List.range 31).filter λc=>decide (1<(ls (Pr L (ind c))).length)).Nodup:=g8.filter _;have csM:∀r∈L,r.2∈(List.range 31).filter λc=>decide (1<(ls (Pr L (ind c))).length):=λr hr=>aU.mpr ⟨a7.mpr (F.irr r hr).2.2.2,aK ((oU p2 F.fam.mo F.fam.dg).mpr ⟨r,hr,by unfold ind;rw[ah rfl];decide⟩)⟩;generalize (List.range 31).filter (λc=>decide (1<(ls (Pr L (ind c))).length))=cs at *
 have st:(cs.flatMap λc=>(j8 lH ((oh p (lH (uR (TT L c)))).map PV.ints)).map λr=>PV.tup [r,vD (TT L c)]).Perm (cs.flatMap λc=>(L.filter λr=>decide (r.2=c)).map BP):=DG λc hc=>by
  obtain⟨I,ne,e,le⟩:=F.part hp nl (csA c hc);have pe:=xR hp I ne e (by lia) (by rw[sW];lia);have nd:(((oh p (ls (Pr L (ind c)))).map PV.ints).map lH).Nodup:=by rw[xK];exact pe.nodup_iff.mpr (Bu I.nd)
  have a:=((ut nd).1.trans (pe.map PV.ints)).map λr=>PV.tup [r,PV.int (c:Int)];refine a.trans (.of_eq ?_);unfold YQ;rw[bE,bE,bE];refine b7 λr hr=>?_;have:r.2=c:=bU (aU.mp hr).2;show PV.tup [.ints (ls r.1),.int (c:Int)]=PV.tup [.ints (ls r.1),.int (r.2:Int)];rw[this]
 refine st.trans ?_;have e1:(cs.flatMap λc=>(L.filter λr=>decide (r.2=c)).map BP)=((cs.map λ(c:Nat)=>(c:Int)).map λs=>L.filter λr=>decide ((r.2:Int)=s)).flatten.map BP:=by rw[List.flatMap_def,List.map_flatten,bE,bE];congr 1;refine b7 λc _=>?_;show List.map BP _=List.map BP (L.filter λr=>decide ((r.2:Int)=(c:Int)));congr 1;refine fA λr _=>decide_eq_decide.mpr ?_;lia
 rw[e1];refine((xT (λr:Pl p×Nat=>(r.2:Int)) L ?_).map BP).trans (.of_eq ?_)
 ·exact d9 _ (λ(a b:Nat) (h:a≠b) z=>h (by lia)) csN
 ·congr 1;refine iX.mpr λr hr=>aK (aX.mpr ⟨r.2,csM r hr,rfl⟩)
open Pl in
theorem YJ (L:List (Pl p×Nat)):(L.map BP).map Yj=L.map λr=>ls r.1:=by rw[bE];exact b7 λr _=>rfl
open Pl in
theorem BW.nd {p:Int}{f:Li}{L:List (Pl p×Nat)}(F:BW f L):((L.map BP).map Yj).Nodup:=by rw[YJ];exact d9 _ (λ_ _ h e=>h (Mo.inj e)) F.ne
open Pl in
theorem BW.len (hp:jL p){L:List (Pl p×Nat)}(F:BW f L):L.length+1<=(qR p (Tz p f)).length:=by rw[<- F.eN];exact(Ja hp.1 λq hq=>⟨F.fam.mo q hq,F.fam.dg q hq,(F.irr q hq).2.2.1⟩).1
def xH (p:Int)(f:List Int):PV:=.tup [.int (jx (Tz p f)),.lst (j8 Yj (O9 p f))]
open Pl in
theorem Us (T:Top K mg cFE cNO cNN cK cR):Ok P w K mg base 10 "parts" ["kind","f"] (ym K (Gr cR) (λas=>∃p f,as=[.ob 0 p,.ints f]/\jL p/\f.length<=100/\(qR p (Tz p f)).length<=31/\Tz p f≠[]) λas=>match as with
  |[.ob 0 p,.ints f]=>xH p f
  |_=>.non):=by
 refine aaN T.Nm qH T.VB (λas ⟨a,b,h,_⟩=>by rw[h];rfl) (λf cdv A outer s H E hr hl=>⟨_,(jn (qx (i:=2) qH.nd rfl (Or.inl rfl) (sE jq))
 (jn (Jo (k:=3) (j:=4) aO rfl (o6 (xc (BZ T) hr (jm (xv 0) (jm (xl 1) jq)))) (pg_tup rfl (pgs_cons (pg_name (i:=3) qH.nd rfl (Or.inl rfl)) (pgs_cons (pg_name (i:=4) qH.nd rfl (Or.inl rfl)) pgs_nil)))
 (jt (zQ (k:=5) aO rfl (o6 (xc (Sh T) hr (jm (xv 0) (jm (xl 3) jq)))) qH.nd rfl (Or.inl rfl)
 (jt (rP 2 (rQ (jm (xl 5) (jm (xn 4) jq))))))))
 (lG 2 (jt (jD (rQ (jm (um (jH (j9 (tH (jU T) hr (jm (xv 0) (jm (xl 1) jq)))) (sH jo) (λ_ _=>rfl))) (jm (uK (RD Yj (wM T) hl hr T.z6 (xv 2))) jq)))))))),λas hp=>?_⟩)
 obtain⟨p,f,rfl,hp,fl,nl,ne⟩:=hp;have p2:2<=p:=hp.1;obtain⟨L,F⟩:=LC hp ne nl;have pp:=Hr hp F nl;have Ll:=F.len hp;have nd:=F.nd;have FQ:∀q∈Hm L,∃x:List Int,∃c:Nat,q=.tup [.ints x,.int (c:Int)]/\x.length<=31/\(Tz p x).length<=40/\(∃l:List (Pl p),wV l/\l≠[]/\Tz p x=ls (PL l))/\(j8 lH ((oh p x).map PV.ints)).length<=31/\∀r∈j8 lH ((oh p x).map PV.ints),∃y,r=.ints y:=λq hq=>by
  obtain⟨c,hc,rfl⟩:=aX.mp hq;obtain⟨I,n0,e,le⟩:=F.part hp nl (bU (aU.mp hc).2);have pe:=xR hp I n0 e (by lia) (by rw[sW];lia);have nd:(((oh p (ls (Pr L (ind c)))).map PV.ints).map lH).Nodup:=by rw[xK];exact pe.nodup_iff.mpr (Bu I.nd)
  have so:=(ut nd).1;refine⟨ls (Pr L (ind c)),c,rfl,le,by rw[sW];lia,⟨_,I,n0,e⟩,?_,λr hr=>?_⟩
  ·rw[so.length_eq,aa,pe.length_eq,aa];have d:=zZ p2 I.irr;rw[<- e,sW]at d;lia
  ·obtain⟨y,_,rfl⟩:=aX.mp (so.mem_iff.mp hr);exact⟨y,rfl⟩
 have ep:O9 p f=(Hm L).flatMap λq=>(j8 lH ((oh p (lH (uR q))).map PV.ints)).map λr=>.tup [r,vD q]:=by unfold O9;rw[F.fp];rfl
 have fl31:(Hm L).length<=31:=by unfold Hm;rw[aa];refine aJ (cY _ _) ?_;rw[ao];exact aq _
 have eF:JL p f=.lst (Hm L):=F.fp;generalize Hm L=FP at *
 have M0:∀i,i<=FP.length->((FP.take i).flatMap λq=>(j8 lH ((oh p (lH (uR q))).map PV.ints)).map λr=>PV.tup [r,vD q]).length<=i*31:=λi=>by
  induction i with
  |zero=>intro _;exact aq 0
  |succ i ih=>
   intro hi;have a:=ih (by lia);have il:i<FP.length:=by lia
   rw[pF (ac il),eY,ai,cU,fJ,bh,aa];obtain⟨x,c,e,_,_,_,sl,_⟩:=FQ FP[i] (bJ il);rw[e];have sl:(j8 lH ((oh p (lH (uR (PV.tup [.ints x,.int (c:Int)])))).map PV.ints)).length<=31:=sl;lia
 refine⟨tJ,λl0 el0=>?_⟩;subst el0;have hF:∀v,v=JL p f->v=.lst (rG v)/\rG v=FP:=λv e=>by rw[e,eF];exact⟨rfl,rfl⟩
 obtain⟨hF1,hF2⟩:=hF (JL p f) rfl;refine⟨⟨⟨⟨⟨rfl,rfl,tJ⟩,p,f,rfl,hp,fl,nl,ne⟩,hF1⟩,λq hq=>?_⟩,λi Z=>∃v3 v4 v5,Z=[.fr (.ob 0 p),.fr (.ints f),.ow (.lst ((FP.take i).flatMap λq=>(j8 lH ((oh p (lH (uR q))).map PV.ints)).map λr=>PV.tup [r,vD q])),v3,v4,v5],⟨.un,.un,.un,rfl⟩,?_,?_⟩
 ·have hq:q∈rG (JL p f):=hq;rw[hF2]at hq;obtain⟨x,c,rfl,_⟩:=FQ q hq;exact rfl
 ·rintro i q Z hq ⟨v3,v4,v5,rfl⟩;have hq:(rG (JL p f))[i]?=some q:=hq;rw[hF2]at hq;have il:i<FP.length:=(aj.mp hq).1;obtain⟨x,c,eq,xl,tl,ex,sl,sr⟩:=FQ q (bQ hq);have m0:=M0 i (by lia);have nx:(FP.take (i+1)).flatMap (λq=>(j8 lH ((oh p (lH (uR q))).map PV.ints)).map λr=>PV.tup [r,vD q])=(FP.take i).flatMap (λq=>(j8 lH ((oh p (lH (uR q))).map PV.ints)).map λr=>PV.tup [r,vD q])++(j8 lH ((oh p x).map PV.ints)).map λr=>PV.tup [r,PV.int (c:Int)]:=by rw[pF hq,eY,cU,fJ,bh,eq];rfl
  generalize (FP.take i).flatMap (λq=>(j8 lH ((oh p (lH (uR q))).map PV.ints)).map λr=>PV.tup [r,vD q])=B at *
  generalize hX:j8 lH ((oh p x).map PV.ints)=X at *
  subst eq;have hX2:∀v,v=PV.lst (j8 lH ((oh p x).map PV.ints))->v=.lst (rG v)/\rG v=X:=λv e=>by rw[e,hX];exact⟨rfl,rfl⟩
  obtain⟨hX3,hX4⟩:=hX2 _ rfl;refine⟨⟨⟨⟨rfl,rfl,tJ⟩,p,x,rfl,hp,by lia,tl,ex⟩,hX3⟩,λj Z=>∃v5,Z=[.fr (.ob 0 p),.fr (.ints f),.ow (.lst (B++(X.take j).map λr=>PV.tup [r,PV.int (c:Int)])),.fr (.ints x),.fr (.int (c:Int)),v5],⟨v5,?_⟩,?_,?_⟩
  ·rw[iJ,dY,bh];rfl
  ·rintro j r Z hr' ⟨v5,rfl⟩;have hr':(rG (PV.lst (j8 lH ((oh p x).map PV.ints))))[j]?=some r:=hr';rw[hX4]at hr';have jl:j<X.length:=(aj.mp hr').1;obtain⟨y,rfl⟩:=sr r (bQ hr');refine⟨rfl,⟨rfl,rfl,tJ⟩,?_,.fr (.ints y),?_⟩
   ·show(B++(X.take j).map λr=>PV.tup [r,PV.int (c:Int)]).length<sizeLine;rw[ai,aa,aM];refine aV (show _<=2000 by lia) (by decide)
   ·rw[pF hr',bK,<- da];rfl
  ·rintro Z ⟨v5,rfl⟩;refine⟨.fr (.ints x),.fr (.int (c:Int)),v5,?_⟩;have e:(X.take (rG (PV.lst (j8 lH ((oh p x).map PV.ints)))).length)=X:=by rw[hX4,dt]
   show[Sl.fr (.ob 0 p),.fr (.ints f),.ow (.lst (B++(X.take (rG (PV.lst (j8 lH ((oh p x).map PV.ints)))).length).map λr=>PV.tup [r,PV.int (c:Int)])),.fr (.ints x),.fr (.int (c:Int)),v5]=_;rw[e,nx]
 ·rintro Z ⟨v3,v4,v5,rfl⟩;have eL:(FP.take (rG (JL p f)).length).flatMap (λq=>(j8 lH ((oh p (lH (uR q))).map PV.ints)).map λr=>PV.tup [r,vD q])=O9 p f:=by rw[hF2,dt,ep]
  have lT:=lP ne;refine⟨⟨⟨⟨⟨⟨rfl,rfl,tJ⟩,p,f,rfl,by lia⟩,tJ,?_⟩,?_⟩,⟨rfl,rfl,⟨?_,?_⟩,λq hq=>?_⟩,tJ⟩,?_⟩
  ·show -((Tz p f).length:Int) <= -1/\(-1:Int)<((Tz p f).length:Int);lia
  ·exact rfl
  ·show(List.flatMap (λq=>(j8 lH ((oh p (lH (uR q))).map PV.ints)).map λr=>PV.tup [r,vD q]) (FP.take (rG (JL p f)).length)).length<64;rw[eL,pp.length_eq,aa];lia
  ·show(List.map Yj (List.flatMap (λq=>(j8 lH ((oh p (lH (uR q))).map PV.ints)).map λr=>PV.tup [r,vD q]) (FP.take (rG (JL p f)).length))).Nodup;rw[eL];exact(pp.map Yj).nodup_iff.mpr nd
  ·have hq:q∈List.flatMap (λq=>(j8 lH ((oh p (lH (uR q))).map PV.ints)).map λr=>PV.tup [r,vD q]) (FP.take (rG (JL p f)).length):=hq;rw[eL]at hq;obtain⟨r,_,rfl⟩:=aX.mp (pp.mem_iff.mp hq);exact⟨⟨[PV.int (r.2:Int)],rfl⟩,⟨ls r.1,rfl⟩,rfl⟩
  ·show PV.tup [.int ((Tz p f).getD (lC (Tz p f).length (-1)) 0),.lst (j8 Yj (List.flatMap (λq=>(j8 lH ((oh p (lH (uR q))).map PV.ints)).map λr=>PV.tup [r,vD q]) (FP.take (rG (JL p f)).length)))]=xH p f;rw[eL,yV _ lT];rfl
def JQ (c:Int):Int:=((c % 10^9)*(c % 10^9)+40503)*1103515245982451653 % (10^18+9)
theorem UL (c:Int):0<=JQ c:=by unfold JQ;exact a8 _ (by decide)
theorem VJ (T:Top K mg cFE cNO cNN cK cR):Ok P w K mg base 2 "_law_head" ["_law_script"] (GX K (Gr cR) (λas=>∃ns,as=[.scr ns]) λas=>match as with
  |[.scr ns]=>JQ (ns.getD 0 0)
  |_=>0):=by
 refine xO T.Yo Mz (λas ⟨a,h⟩=>by rw[h];rfl) (λf cdv A outer s H E hr=>⟨_,(jn (jA (i:=1) Mz.nd rfl (Or.inl rfl) (lD (Wm (vq T) hr (jm (xr 0) (jm jo jq))) (JR jo jo)))
 (jt (jD (lD (nM (lR (nM (xn 1) (xn 1)) jo) jo) (lR (JR jo jo) jo))))),λas hp=>?_⟩)
 obtain⟨ns,rfl⟩:=hp;refine⟨⟨⟨⟨rfl,tJ,tJ⟩,tJ,rfl,by show(0:Int)<=0;decide⟩,by walk_at "xs",by show(0:Int)<10^9;decide⟩,λn e=>?_⟩;have e:n=ns.getD 0 0 % 10^9:=e;have n0:0<=n/\n<10^9:=by rw[e];exact⟨a8 _ (by decide),aY _ (by decide)⟩
 refine⟨⟨⟨⟨⟨rfl,rfl,uG ⟨by show -(2:Int)^64<n;lia,by show n<(2:Int)^64;lia⟩⟩,tJ⟩,tJ,uG (by decide)⟩,by walk_at "xs",by show(0:Int)<10^18+9;decide⟩,?_⟩;show PV.int ((n*n+40503)*1103515245982451653 % (10^18+9))=PV.int (JQ (ns.getD 0 0));unfold JQ;rw[<- e]
theorem RW (T:Top K mg cFE cNO cNN cK cR):Ok P w K mg base 1 "_law_plain" ["_law_number","_law_size"] (GX K (Gr cR) (λas=>∃n z,as=[.int n,.int z]/\0<z) λas=>match as with
  |[.int n,.int z]=>pl z n
  |_=>0):=by
 refine xO T.WX Uc (λas ⟨a,b,h,_⟩=>by rw[h];rfl) (λf cdv A outer s H E hr=>⟨_,(jt (jD (lD (xn 0) (xn 1)))),λas hp=>?_⟩);obtain⟨n,z,rfl,hz⟩:=hp;refine⟨⟨rfl,rfl,hz⟩,?_⟩;show PV.int (n % z)=PV.int (pl z n);rw[kZ hz]
theorem V8 (T:Top K mg cFE cNO cNN cK cR):Ok P w K mg base 2 "_law_trim" ["_law_row","_law_size"] (Iw K (Gr cR) (λas=>∃f z,as=[.ints f,.int z]/\0<z/\f.length<=1000) λas=>match as with
  |[.ints f,.int z]=>Tz z f
  |_=>[]):=by
 refine K1 T.Zg Ou (λas ⟨a,b,h,_⟩=>by rw[h];rfl) (λf cdv A outer s H E hr=>⟨_,(jn (Mv (i:=0) Ou.nd rfl rfl (N':=["_law_number","_law_size"]) (cap:=[some 1]) (oO rfl rfl rfl rfl ⟨⟨rfl,.inr (.inl rfl),BR,.inl rfl,_,rfl,rfl⟩,tJ⟩ ⟨rfl,tJ⟩ rfl) rfl (xl 0) (λ_ _ _=>(pO 0)) (λ_ _ _=>(Wm (RW T) hr (jm (xn 0) (jm (xn 1) jq)))) rfl)
 (jn (nq aO (L2.PW.pt (GK (uV (kY 0 T.j6) jo) (zr (tO (lV 0 (sH jo) (λ_ _=>rfl)) jo))))
 (jt (Xu 0)))
 (jt (Bb 0)))),λas hp=>?_⟩)
 obtain⟨f,z,rfl,hz,hf⟩:=hp;refine⟨⟨rfl,hf,λn _=>⟨⟨rfl,rfl,tJ⟩,n,z,rfl,hz⟩⟩,λns e=>?_⟩;have e:ns=f.map (pl z):=e;refine⟨λZ=>∃ms,Z=[.ow (.ints ms),.fr (.int z)]/\j7 ms=j7 ns,λZ=>(getL Z 0).length,⟨ns,rfl,rfl⟩,?_⟩;rintro Z ⟨ms,rfl,hm⟩;refine⟨⟨⟨.inr (.inl rfl),tJ⟩,λh=>⟨⟨.inr (.inl rfl),tJ,?_,?_⟩,tJ⟩⟩,λq=>?_,λq=>?_⟩
 ·have h:0<(ms.length:Int):=h;lia
 ·lia
 ·have q:0<(ms.length:Int)/\ms.getD (lC ms.length (-1)) 0=0:=q;have hne:ms≠[]:=eR.mp (by lia);rw[Nf ms hne]at q;refine⟨rfl,hne,⟨_,rfl,?_⟩,?_⟩
  ·rw[<- hm];exact zB hne q.2
  ·show ms.dropLast.length<ms.length;rw[fO];lia
 ·have q:¬(0<(ms.length:Int)/\ms.getD (lC ms.length (-1)) 0=0):=q;refine⟨rfl,?_⟩;show ms=j7 (f.map (pl z));rw[<- e,<- hm,zU];rintro⟨a,b⟩;have:=lP a;exact q ⟨by lia,by rw[Nf ms a];exact b⟩
theorem G6 (T:Top K mg cFE cNO cNN cK cR):Ok P w K mg base 3 "_law_times" ["_law_f","_law_g","_law_size"] (Iw K (Gr cR) (λas=>∃f g z,as=[.ints f,.ints g,.int z]/\0<z/\f.length+g.length<=1000/\(∀m∈f,m.natAbs<2^9000)/\(∀m∈g,m.natAbs<2^9000)) λas=>match as with
  |[.ints f,.ints g,.int z]=>Tz z (ju f g)
  |_=>[]):=by
 refine K1 T.JH p6 (λas ⟨a,b,c,h,_⟩=>by rw[h];rfl) (λf cdv A outer s H E hr=>⟨_,(jn (rZ (i:=3) p6.nd rfl (Or.inl rfl) (sS (nH (jm jo jq)) (lR (kY 0 T.j6) (kY 1 T.j6)) (λ_=>rfl)))
 (jn (qG (k:=4) aO rfl (by rfl) T.pJ (kY 0 T.j6) p6.nd rfl (Or.inl rfl)
 (jt (qG (k:=5) aO rfl (by rfl) T.pJ (kY 1 T.j6) p6.nd rfl (Or.inl rfl)
 (jt (rB 3 (lR (xn 4) (xn 5)) (lR (lV 3 (lR (xn 4) (xn 5)) (λ_ _=>rfl)) (nM (lV 0 (xn 4) (λ_ _=>rfl)) (lV 1 (xn 5) (λ_ _=>rfl)))))))))
 (lG 3 (jt (mO (tH (V8 T) hr (jm (xl 3) (jm (xn 2) jq)))))))),λas hp=>?_⟩)
 obtain⟨f,g,z,rfl,hz,hl,hf,hg⟩:=hp;have en:((f.length:Int)+(g.length:Int)).toNat=f.length+g.length:=by lia
 refine⟨⟨⟨⟨tJ,tJ⟩,tJ⟩,⟨.inl rfl,.inl rfl⟩,?_,?_⟩,λr0 er0=>?_⟩
 ·lia
 ·show((f.length:Int)+(g.length:Int)).toNat<=1000;lia
 have er0:r0=List.replicate (f.length+g.length) 0:=by rw[<- en];exact er0
 refine⟨.inl rfl,⟨by show -(2:Int)^62<=(f.length:Int);lia,by show(f.length:Int)<2^62;lia⟩,λi Z=>∃row v1 v2,Z=[.fr (.ints f),.fr (.ints g),.fr (.int z),.ow (.ints row),v1,v2]/\sY f g i 0 row,⟨r0,.un,.un,rfl,by rw[er0];exact DN f g⟩,?_,?_⟩
 ·rintro i Z hi ⟨row,v1,v2,rfl,hr⟩;have hi:i<f.length:=by have hi:i<(f.length:Int).toNat:=hi;lia
  refine⟨.inl rfl,⟨by show -(2:Int)^62<=(g.length:Int);lia,by show(g.length:Int)<2^62;lia⟩,λj Z=>∃row v2,Z=[.fr (.ints f),.fr (.ints g),.fr (.int z),.ow (.ints row),.fr (.int i),v2]/\sY f g i j row,⟨row,v2,rfl,hr⟩,?_,?_⟩
  ·rintro j Z hj ⟨row,v2,rfl,hr⟩;have hj:j<g.length:=by have hj:j<(g.length:Int).toNat:=hj;lia
   have l1:-(row.length:Int)<=(i:Int)+(j:Int):=by lia
   have l2:(i:Int)+(j:Int)<(row.length:Int):=by have:=hr.1;lia
   have ix:lC row.length ((i:Int)+(j:Int))=i+j:=by unfold lC;rw[ah (by lia)];lia
   have xi:lC f.length (i:Int)=i:=by unfold lC;rw[ah (by lia)];lia
   have xj:lC g.length (j:Int)=j:=by unfold lC;rw[ah (by lia)];lia
   have mi:f.getD i 0∈f:=FM.getD_mem hi;have mj:g.getD j 0∈g:=FM.getD_mem hj;refine⟨⟨⟨.inr (.inl rfl),⟨rfl,rfl⟩,l1,l2⟩,⟨.inl rfl,rfl,by show -(f.length:Int)<=(i:Int);lia,by show(i:Int)<(f.length:Int);lia⟩,⟨.inl rfl,rfl,by show -(g.length:Int)<=(j:Int);lia,by show(j:Int)<(g.length:Int);lia⟩,?_⟩,rfl,⟨rfl,rfl⟩,⟨l1,l2⟩,row.set (i+j) (row.getD (i+j) 0+f.getD i 0*g.getD j 0),.fr (.int j),?_,Hz hr hi hj⟩
   ·show IntMulOk (f.getD (lC f.length (i:Int)) 0) (g.getD (lC g.length (j:Int)) 0);rw[xi,xj];exact pU (n:=9000) (m:=9000) (hf _ mi) (hg _ mj)
   ·show[Sl.fr (.ints f),.fr (.ints g),.fr (.int z),.ow (.ints (row.set (lC row.length ((i:Int)+(j:Int))) (row.getD (lC row.length ((i:Int)+(j:Int))) 0+f.getD (lC f.length (i:Int)) 0*g.getD (lC g.length (j:Int)) 0))),.fr (.int i),.fr (.int j)]=_;rw[ix,xi,xj]
  ·rintro Z ⟨row,v2,rfl,hr⟩;have e:(g.length:Int).toNat=g.length:=by lia
   have hr:sY f g i (g.length:Int).toNat row:=hr;rw[e]at hr;exact⟨row,_,v2,rfl,Jr hr⟩
 ·rintro Z ⟨row,v1,v2,rfl,hr⟩;have e:(f.length:Int).toNat=f.length:=by lia
  have hr:sY f g (f.length:Int).toNat 0 row:=hr;rw[e]at hr;have er:=row_end hr;refine⟨⟨⟨rfl,rfl,tJ⟩,row,z,rfl,hz,?_⟩,?_⟩
  ·rw[hr.1];lia
  ·show j7 (row.map (pl z))=_;rw[er];rfl
def V4 (n:Int):Prop:=(n % 2=0/\2<n)\/(n % 3=0/\3<n)\/(n % 5=0/\5<n)
open Classical in
def Yg:Nat->Int->Int
 |0,n=>n
 |k+1,n=>if V4 n then Yg k (n-1) else n
theorem QF (h:¬V4 n):∀k,Yg k n=n
 |0=>rfl
 |k+1=>ag h
theorem Ob:∀(k:Nat) (n:Int),2<=n->n<=31->n<=(k:Int)+2->jL (Yg k n)
 |0,n,h1,_,h3=>by
  have e:n=2:=by lia
  rw[e];exact ZD
 |k+1,n,h1,h2,h3=>by
  unfold Yg;split
  ·rename_i b;have:2<n:=by
    rcases b with b|b|b
    ·exact b.2
    ·have:=b.2;lia
    ·have:=b.2;lia
   exact Ob k (n-1) (by lia) (by lia) (by lia)
  ·rename_i b;refine⟨h1,by lia,λd d1 d2 z=>b ?_⟩;have d5:d<=5:=by refine cE λc=>?_;have:=uI (d:=6) (e:=d) (by lia) (by lia);lia
   have e:d=2\/d=3\/d=4\/d=5:=by lia
   rcases e with e|e|e|e<;>subst e
   ·exact .inl ⟨z,by lia⟩
   ·exact .inr (.inl ⟨z,by lia⟩)
   ·exact .inl ⟨by lia,by lia⟩
   ·exact .inr (.inr ⟨z,by lia⟩)
def smF (c:Int):Int:=Yg 31 (2+c % 30)
theorem Vy (c:Int):jL (smF c):=by have h1:=a8 c (show(30:Int)≠0 by decide);have h2:=aY c (show(0:Int)<30 by decide);exact Ob 31 _ (by lia) (by lia) (by lia)
theorem Tg:∀(k:Nat) (n:Int),Yg k n<=n
 |0,n=>fY n
 |k+1,n=>by
  unfold Yg;split
  ·have:=Tg k (n-1);lia
  ·exact fY n
theorem YF (c:Int):smF c<=31:=by have h2:=aY c (show(0:Int)<30 by decide);have:=Tg 31 (2+c % 30);unfold smF;lia
theorem Bp (T:Top K mg cFE cNO cNN cK cR):Ok P w K mg base 1 "_law_small_prime" ["_law_cell"] (GX K (Gr cR) (λas=>∃c,as=[.int c]) λas=>match as with
  |[.int c]=>smF c
  |_=>0):=by
 refine xO T.Cd qw (λas ⟨a,h⟩=>by rw[h];rfl) (λf cdv A outer s H E hr=>⟨_,(jn (jA (i:=1) qw.nd rfl (Or.inl rfl) (lR jo (lD (xn 0) jo)))
 (jn (nq aO (L2.PW.pt (u6 (L2.PW.pt (GK (tO (lD (xn 1) jo) jo) (zr (uV (xn 1) jo)))) (u6 (L2.PW.pt (GK (tO (lD (xn 1) jo) jo) (zr (uV (xn 1) jo)))) (vJ (L2.PW.pt (GK (tO (lD (xn 1) jo) jo) (zr (uV (xn 1) jo))))))))
 (jt (jA (i:=1) qw.nd rfl (Or.inl rfl) (oR (xn 1) jo))))
 (jt (jD (xn 1))))),λas hp=>?_⟩)
 obtain⟨c,rfl⟩:=hp;have h1:=a8 c (show(30:Int)≠0 by decide);have h2:=aY c (show(0:Int)<30 by decide);refine⟨⟨tJ,rfl,tJ,by show(0:Int)<30;decide⟩,λn en=>?_⟩;refine⟨λZ=>∃n,∃k:Nat,Z=[.fr (.int c),.fr (.int n)]/\(2<=n/\n<=31)/\n<=(k:Int)/\Yg k n=smF c,λZ=>(yl Z 1).toNat,⟨n,31,rfl,⟨by lia,by lia⟩,by lia,by rw[en];rfl⟩,?_⟩;rintro Z ⟨n,k,rfl,⟨n1,n2⟩,nk,ek⟩;refine⟨⟨⟨⟨⟨rfl,tJ,by show(0:Int)<2;decide⟩,tJ⟩,λ_=>⟨rfl,tJ⟩⟩,λ_=>⟨⟨⟨⟨rfl,tJ,by show(0:Int)<3;decide⟩,tJ⟩,λ_=>⟨rfl,tJ⟩⟩,λ_=>⟨⟨⟨rfl,tJ,by show(0:Int)<5;decide⟩,tJ⟩,λ_=>⟨rfl,tJ⟩⟩⟩⟩,λq=>?_,λq=>?_⟩
 ·have q:V4 n:=q;have n3:2<n:=by
   rcases q with b|b|b
   ·exact b.2
   ·have:=b.2;lia
   ·have:=b.2;lia
  obtain⟨k,rfl⟩:∃j,k=j+1:=⟨k-1,by lia⟩;refine⟨⟨rfl,tJ⟩,λm em=>⟨⟨m,k,rfl,?_⟩,?_⟩⟩
  ·have em:m=n-1:=em;rw[em];refine⟨⟨by lia,by lia⟩,by lia,?_⟩;rw[<- ek];exact(ah q).symm
  ·have em:m=n-1:=em;show m.toNat<n.toNat;lia
 ·have q:¬V4 n:=q;refine⟨rfl,?_⟩;show PV.int n=PV.int (smF c);rw[<- ek,QF q]
open Classical in
def Vj:Nat->Int->Int
 |0,n=>n
 |k+1,n=>if jL n then n else Vj k (n-1)
theorem zX (h:jL n):∀k,Vj k n=n
 |0=>rfl
 |k+1=>ah h
theorem Ez:∀(k:Nat) (n:Int),2<=n->n<=9973->n<=(k:Int)+2->jL (Vj k n)
 |0,n,h1,_,h3=>by
  have e:n=2:=by lia
  rw[e];exact ZD
 |k+1,n,h1,h2,h3=>by
  by_cases b:jL n
  ·rw[zX b];exact b
  ·have e:Vj (k+1) n=Vj k (n-1):=ag b;rw[e];have:n≠2:=λz=>b (by rw[z];exact ZD);exact Ez k (n-1) (by lia) (by lia) (by lia)
theorem Rz:∀(k:Nat) (n:Int),Vj k n<=n
 |0,n=>fY n
 |k+1,n=>by
  by_cases b:jL n
  ·rw[zX b];exact fY n
  ·have e:Vj (k+1) n=Vj k (n-1):=ag b;rw[e];have:=Rz k (n-1);lia
def prF (c:Int):Int:=Vj 9973 (2+c)
theorem Vi (T:Top K mg cFE cNO cNN cK cR):Ok P w K mg base 1 "_law_prime" ["_law_cell"] (GX K (Gr cR) (λas=>∃c,as=[.int c]/\0<=c/\c<=9971) λas=>match as with
  |[.int c]=>prF c
  |_=>0):=by
 refine xO T.WQ q8 (λas ⟨a,h,_⟩=>by rw[h];rfl) (λf cdv A outer s H E hr=>⟨_,(jn (jA (i:=1) q8.nd rfl (Or.inl rfl) (lR jo (xn 0)))
 (jn (jA (i:=2) q8.nd rfl (Or.inl rfl) jo)
 (jn (nq aO (aba (nM (xn 2) (xn 2)) (xn 1))
 (tK (lQ (tO (lD (xn 1) (xn 2)) jo)
 (jn (jA (i:=1) q8.nd rfl (Or.inl rfl) (oR (xn 1) jo))
 (jt (jA (i:=2) q8.nd rfl (Or.inl rfl) jo)))
 kW)
 (jt (jA (i:=2) q8.nd rfl (Or.inl rfl) (lR (xn 2) jo)))))
 (jt (jD (xn 1)))))),λas hp=>?_⟩)
 obtain⟨c,rfl,c0,c1⟩:=hp;refine⟨⟨tJ,rfl⟩,λn en=>⟨tJ,λa ea=>?_⟩⟩;have en:n=2+c:=en;refine⟨λZ=>∃n a,∃k:Nat,Z=[.fr (.int c),.fr (.int n),.fr (.int a)]/\(2<=n/\n<=9973)/\(2<=a/\a<=10000)/\(∀d,2<=d->d<a->¬n % d=0)/\n<=(k:Int)/\Vj k n=prF c,λZ=>(yl Z 1).toNat*20000+(20000-yl Z 2).toNat,⟨n,a,9973,rfl,⟨by lia,by lia⟩,⟨by lia,by lia⟩,λd d1 d2=>by lia,by lia,by rw[en];rfl⟩,?_⟩;rintro Z ⟨n,a,k,rfl,⟨n1,n2⟩,⟨a1,a2⟩,nd,nk,ek⟩;have small:∀x:Int,0<=x->x<=10000->x.natAbs<2^14:=λx h1 h2=>by lia
 refine⟨⟨⟨rfl,rfl,pU (small a (by lia) (by lia)) (small a (by lia) (by lia))⟩,rfl⟩,λq=>?_,λq=>?_⟩
 ·have q:a*a<=n:=q;have a3:a<=100:=by refine cE λz=>?_;have:=uI (d:=101) (e:=a) (by lia) (by lia);lia
  have n4:4<=n:=by have:=uI (d:=2) (e:=a) (by lia) (by lia);lia
  refine⟨λZ=>∃n' a',Z=[.fr (.int c),.fr (.int n'),.fr (.int a')]/\((n'=n/\a'=a/\¬n % a=0)\/(n'=n-1/\a'=1/\n % a=0)),⟨⟨⟨rfl,rfl,by show 0<a;lia⟩,tJ⟩,λz=>?_,λz=>⟨n,a,rfl,.inl ⟨rfl,rfl,z⟩⟩⟩,?_⟩
  ·exact⟨⟨rfl,tJ⟩,λm em=>⟨tJ,λb eb=>⟨m,b,rfl,.inr ⟨em,eb,z⟩⟩⟩⟩
  ·rintro Z' ⟨n',a',rfl,h⟩;refine⟨⟨rfl,tJ⟩,λb eb=>?_⟩;have eb:b=a' + 1:=eb;have gm:∀x y:Int,(yl [Sl.fr (.int c),.fr (.int x),.fr (.int y)] 1).toNat*20000+(20000-yl [Sl.fr (.int c),.fr (.int x),.fr (.int y)] 2).toNat=x.toNat*20000+(20000-y).toNat:=λ_ _=>rfl;rcases h with⟨rfl,rfl,z⟩|⟨rfl,rfl,z⟩
   ·refine⟨⟨n',b,k,rfl,⟨n1,n2⟩,⟨by lia,by lia⟩,λd d1 d2=>?_,nk,ek⟩,?_⟩
    ·by_cases e:d=a'
     ·rw[e];exact z
     ·exact nd d d1 (by lia)
    ·show n'.toNat*20000+(20000-b).toNat<n'.toNat*20000+(20000-a').toNat;lia
   ·obtain⟨k,rfl⟩:∃j,k=j+1:=⟨k-1,by lia⟩;refine⟨⟨n-1,b,k,rfl,⟨by lia,by lia⟩,⟨by lia,by lia⟩,λd d1 d2=>by lia,by lia,?_⟩,?_⟩
    ·rw[<- ek];exact(ag λip=>ip.2.2 a a1 q z).symm
    ·show(n-1).toNat*20000+(20000-b).toNat<n.toNat*20000+(20000-a).toNat;lia
 ·have q:¬a*a<=n:=q;refine⟨rfl,?_⟩;show PV.int n=PV.int (prF c);have ip:jL n:=⟨n1,n2,λd d1 d2=>nd d d1 (Int.not_le.mp λz=>q (Int.le_trans (uI (by lia) z) d2))⟩;rw[<- ek,zX ip]
open Pl in
theorem U5 (hp:jL p)(fb:Fo p b)(hb:b≠[]):mk p b=con p (jx b)*mk p (qR p b):=by
 have p2:2<=p:=hp.1;have g:=wK hp fb.form fb.red hb;have one:pl p 1=1:=by rw[kZ (by lia)];exact bp (by decide) (by lia)
 have e0:yt p b=pl p (1*tu (jx b) p):=ag hb;obtain⟨h1,_⟩:=hov p2 g 1 (yt p b) one (by rw[e0];rfl);have h2:p ∣ yt p b*jx b-1:=by
  have:=nF p (yt p b*jx b);rw[h1]at this;have e:yt p b*jx b-1 = -(1-yt p b*jx b):=by lia
  rw[e];exact bw.mpr this
 rw[qY];refine lA.mpr λn=>?_;rw[jV];unfold qR;rw[kI,m7 (λm=>yt p b*m) (aW _)];have h3:=aP (a:=p) (b:=jx b) (nF p (yt p b*b.getD n 0));have h4:=bj (c:=b.getD n 0) h2;have e:b.getD n 0-jx b*pl p (yt p b*b.getD n 0) = -((yt p b*jx b-1)*b.getD n 0) + -(jx b*(pl p (yt p b*b.getD n 0)-yt p b*b.getD n 0)):=by rw[fZ,cG,cC,cu (yt p b) (jx b),bO];lia
 rw[e];exact bD (bw.mpr h4) (bw.mpr h3)
open Pl in
def aai (q:PV):Prop:=∃(x:List Int) (c:Int),q=.tup [.ints x,.int c]/\x.length<=1000
theorem zM (T:Top K mg cFE cNO cNN cK cR):Ok P w K mg base 3 "_law_pairs_alike" ["_law_found","_law_due"] (Q6 K (Gr cR) (λas=>∃ps,as=[.lst ps,.lst ps]/\ps.length<=1000/\∀q∈ps,aai q) λ_=>true):=by
 refine xO T.BX uo (λas ⟨a,h,_⟩=>by rw[h];rfl) (λf cdv A outer s H E hr=>⟨_,(jn (lQ (L2.PW.pt (u6 (qm (Jl (qg T.lN (xv 0) (sO (by rfl) T.Et Ej)))) (vJ (wz (mD T.j6 (xv 0)) (mD T.j6 (xv 1))))))
 (jt (jD yw))
 kW)
 (jn (qG (k:=2) aO rfl (by rfl) T.pJ (mD T.j6 (xv 1)) uo.nd rfl (Or.inl rfl)
 (jn (lQ (L2.PW.pt (u6 (qm (Jl (qg T.lN (jH (xv 0) (xn 2) (λ_ _=>rfl)) (sO (by rfl) T.M9 JB)))) (vJ (wz (mD T.j6 (jH (xv 0) (xn 2) (λ_ _=>rfl))) jo))))
 (jt (jD yw))
 kW)
 (jt (lQ (L2.PW.pt (u6 (qm (Jl (Z5 (Il T) hr (jm (xl_of (jH (jH (xv 0) (xn 2) (λ_ _=>rfl)) jo (λ_ _=>rfl))) (jm (xl_of (jH (jH (xv 1) (xn 2) (λ_ _=>rfl)) jo (λ_ _=>rfl))) jq))))) (u6 (qm (Jl (Z5 (Bg T) hr (jm (um (jH (jH (xv 0) (xn 2) (λ_ _=>rfl)) jo (λ_ _=>rfl))) jq)))) (vJ (wz (um (jH (jH (xv 0) (xn 2) (λ_ _=>rfl)) jo (λ_ _=>rfl))) (um (jH (jH (xv 1) (xn 2) (λ_ _=>rfl)) jo (λ_ _=>rfl))))))))
 (jt (jD yw))
 kW))))
 (jt (jD yw)))),λas hp=>?_⟩)
 obtain⟨ps,rfl,pl',hq⟩:=hp;have i1:∀xs,oF K (.tup xs) (.ty "tuple")=true:=λxs=>pQ rfl rfl T.pG;have i2:∀xs,oF K (.lst xs) (.ty "list")=true:=λxs=>pQ rfl rfl T.qL;refine⟨⟨⟨rfl,tJ,_,_,_,rfl,rfl,T.qL⟩,λ_=>⟨⟨rfl,tJ⟩,rfl,tJ⟩⟩,λq=>?_,λ_=>?_⟩
 ·exfalso;rcases q with q|q
  ·exact q (i2 _)
  ·exact q rfl
 refine⟨⟨rfl,tJ⟩,⟨by show -(2:Int)^62<=(ps.length:Int);lia,by show(ps.length:Int)<2^62;lia⟩,λi Z=>∃v2,Z=[.fr (.lst ps),.fr (.lst ps),v2],⟨.un,rfl⟩,?_,?_⟩
 ·rintro i Z hi ⟨v2,rfl⟩;have hi:i<(ps.length:Int).toNat:=hi;have il:i<ps.length:=by lia
  obtain⟨x,c,ex,xl⟩:=hq ps[i] (bJ il);have eit:lX (.lst ps) (i:Int)=.tup [.ints x,.int c]:=by
   show ps.getD (lC ps.length (i:Int)) .non=_;have ix:lC ps.length (i:Int)=i:=by unfold lC;rw[ah (by lia)];lia
   rw[ix,gQ,ac il,<- ex];rfl
  have hit:oY (.lst ps) (i:Int):=⟨by show -(ps.length:Int)<=(i:Int);lia,by show(i:Int)<(ps.length:Int);lia⟩;have g0:oY (lX (.lst ps) (i:Int)) 0:=by rw[eit];exact⟨by show -(2:Int)<=0;decide,by show(0:Int)<2;decide⟩
  have g1:oY (lX (.lst ps) (i:Int)) 1:=by rw[eit];exact⟨by show -(2:Int)<=1;decide,by show(1:Int)<2;decide⟩
  have f0:lX (lX (.lst ps) (i:Int)) 0=.ints (kJ (lX (lX (.lst ps) (i:Int)) 0)):=by rw[eit];rfl
  have f1:lX (lX (.lst ps) (i:Int)) 1=.int (Ha (lX (lX (.lst ps) (i:Int)) 1)):=by rw[eit];rfl
  have lx:(kJ (lX (lX (.lst ps) (i:Int)) 0)).length<=1000:=by rw[eit];exact xl
  have hty:tyP (lX (.lst ps) (i:Int))=some (.type "tuple"):=by rw[eit];rfl
  have hln:K7 (lX (.lst ps) (i:Int)):=by rw[eit];exact tJ
  have ei:oF K (lX (.lst ps) (i:Int)) (.ty "tuple")=true:=by rw[eit];exact i1 _
  have el:XJ (lX (.lst ps) (i:Int))=2:=by rw[eit];rfl
  refine⟨⟨⟨⟨rfl,rfl,hit⟩,tJ,_,_,_,hty,rfl,T.pG⟩,λ_=>⟨⟨⟨rfl,rfl,hit⟩,hln⟩,tJ⟩⟩,λq=>?_,λ_=>?_⟩
  ·exfalso;have q:¬oF K (lX (.lst ps) (i:Int)) (.ty "tuple")=true\/¬XJ (lX (.lst ps) (i:Int))=2:=q;rw[ei,el]at q;rcases q with q|q
   ·exact q rfl
   ·exact q rfl
  refine⟨⟨⟨⟨⟨⟨⟨rfl,rfl,hit⟩,tJ,g0⟩,f0⟩,⟨⟨⟨rfl,rfl,hit⟩,tJ,g0⟩,f0⟩,tJ⟩,_,_,rfl,lx⟩,λ_=>⟨⟨⟨⟨⟨⟨rfl,rfl,hit⟩,tJ,g1⟩,f1⟩,tJ⟩,_,rfl⟩,λ_=>⟨⟨⟨⟨rfl,rfl,hit⟩,tJ,g1⟩,f1⟩,⟨⟨rfl,rfl,hit⟩,tJ,g1⟩,f1⟩⟩⟩,λq=>?_,λ_=>⟨_,rfl⟩⟩;exfalso;rcases q with q|q|q
  ·exact q (aK rfl)
  ·exact q rfl
  ·exact q rfl
 ·rintro Z ⟨v2,rfl⟩;exact⟨tJ,rfl⟩
namespace Pl
variable {p:Int}
structure vO (L:List (Pl p×Nat)):Prop where
 irr:∀q∈L,uO q.1/\(ls q.1).length<=31/\q.2≠0
 ne:L.Pairwise λa b=>a.1≠b.1
theorem vO.tail {r:Pl p×Nat}{L:List (Pl p×Nat)}(h:vO (r::L)):vO L:=⟨λq hq=>h.irr q (ae _ hq),(bY.mp h.ne).2⟩
theorem vO.perm {L M:List (Pl p×Nat)}(h:vO L)(e:L.Perm M):vO M:=⟨λq hq=>h.irr q (e.mem_iff.mpr hq),(e.pairwise_iff (λh=>ck h)).mp h.ne⟩
theorem OJ {g:Nat->Nat}{L M:List (Pl p×Nat)}(h:L.Perm M):Pr L g=Pr M g:=by
 induction h with
 |nil=>rfl
 |cons x _ ih=>rw[jR,jR,ih]
 |swap x y l=>rw[jR,jR,jR,jR];generalize Pr l g=z;generalize x.1^g x.2=a;generalize y.1^g y.2=b;grind
 |trans _ _ a b=>exact a.trans b
theorem vO.cop (hp:jL p){L:List (Pl p×Nat)}(F:vO L)(I:uO q)(hl:(ls q).length<=200)(ne:∀r∈L,r.1≠q):nA (Pr L id) q:=
 DQ q id λr hr=>.inl ((F.irr r hr).1.cop hp I hl (ne r hr))
theorem vO.mo {L:List (Pl p×Nat)}(p2:2<=p)(F:vO L):Mo (Pr L id):=Mo.pr p2 λq hq=>(F.irr q hq).1.mo
theorem uO.alone (hp:jL p){q x:Pl p}(I:uO q)(c:nA x q)(g:Go q x):False:=by obtain⟨s,t,e⟩:=c;obtain⟨u,rfl⟩:=g;exact I.Fw hp ⟨s*u+t,by rw[<- e];grind⟩
theorem Mo.cancel (hp:jL p){a b d:Pl p}(ma:Mo a)(mb:Mo b)(md:Mo d)(e:d*a=d*b):a=b:=by have h1:=Fp hp ma md;have h2:=Fp hp mb md;rw[mul_comm a d,e,mul_comm d b,h2]at h1;injection h1 with h1;injection h1 with h1 _;exact Mo.inj h1.symm
theorem Gv (q x:Pl p):∀{n:Nat},n≠0->Go q (q^n*x)
 |0,h=>absurd rfl h
 |n+1,_=>⟨q^n*x,by rw[tQ];generalize q^n=a;grind⟩
theorem Nz (hp:jL p){q A B:Pl p}(I:uO q)(mA:Mo A)(mB:Mo B)(cA:nA A q){m n:Nat}(h:m<n)(e:q^m*A=q^n*B):False:=by have p2:2<=p:=hp.1;obtain⟨k,rfl⟩:∃k,n=m+k:=⟨n-m,by lia⟩;rw[pow_add,mul_assoc]at e;have:=Mo.cancel hp mA (Mo.mul p2 (Mo.pow p2 I.mo k) mB) (Mo.pow p2 I.mo m) e;refine I.alone hp cA ?_;rw[this];exact Gv q B (by lia)
theorem Mu (hp:jL p):∀{L M:List (Pl p×Nat)},vO L->vO M->Pr L id=Pr M id->L.Perm M
 |[],[],_,_,_=>.nil
 |[],r::M,_,F,e=>by refine((F.irr r af).1.Fw hp ?_).elim;have e:(1:Pl p)=Pr (r::M) id:=e;rw[e,jR];exact Gv _ _ (F.irr r af).2.2
 |(q,m)::L,M,F,FM,e=>by
  have p2:2<=p:=hp.1;obtain⟨I,lq,hm⟩:=F.irr (q,m) af;have e1:Pr ((q,m)::L) id=q^m*Pr L id:=rfl;have ex:∃r∈M,r.1=q:=cE λz=>by have c:=FM.cop hp I (by lia) λr hr k=>z ⟨r,hr,k⟩;rw[<- e,e1]at c;exact I.alone hp c (Gv q _ hm)
  obtain⟨⟨q',n⟩,hr,rfl⟩:=ex;obtain⟨a,b,ec⟩:=gE hr;have pm:M.Perm ((q',n)::(a++b)):=by rw[ec];exact hO
  have FM':=FM.perm pm;have e2:Pr M id=q'^n*Pr (a++b) id:=by rw[OJ pm];rfl
  rw[e1,e2]at e;have cA:=F.tail.cop hp I (by lia) λr hr k=>(bY.mp F.ne).1 r hr k.symm;have cB:=FM'.tail.cop hp I (by lia) λr hr k=>(bY.mp FM'.ne).1 r hr k.symm;have mA:=F.tail.mo p2;have mB:=FM'.tail.mo p2;have emn:m=n:=by
   rcases Nat.lt_trichotomy m n with h|h|h
   ·exact(Nz hp I mA mB cA h e).elim
   ·exact h
   ·exact(Nz hp I mB mA cB h e.symm).elim
  subst emn;have eAB:=Mo.cancel hp mA mB (Mo.pow p2 I.mo m) e;exact(List.Perm.cons _ (Mu hp F.tail FM'.tail eAB)).trans pm.symm
def LtP (a b:Pl p×Nat):Prop:=nu (ls a.1) (ls b.1)=true
theorem abl {R:List (Pl p×Nat)}(h:R.Pairwise LtP):R.Pairwise λa b=>a.1≠b.1:=h.imp λ{a b} k z=>by have k:nu (ls a.1) (ls b.1)=true:=k;rw[z,QW]at k;cases k
end Pl
open Pl in
theorem Fb (hp:jL p)(mx:Mo x)(a0:0<a)(a1:a<p):ls (con p a*x)≠[]/\jx (ls (con p a*x))=a/\(ls (con p a*x)).length=(ls x).length/\qR p (ls (con p a*x))=ls x:=by
 have p2:2<=p:=hp.1;have nd:¬p ∣ a:=λz=>by have:=fv a0 z;lia
 have get:∀n,(ls (con p a*x)).getD n 0=pl p (a*(ls x).getD n 0):=λn=>by
  have e:con p a*x=mk p (yR a (ls x)):=by have:=qY (p:=p) a (ls x);rw[jP]at this;exact this
  rw[e,qj,kI,jV]
 have pos:=mx.pos;have top:(ls (con p a*x)).getD ((ls x).length-1) 0=a:=by have l1:(ls x).getD ((ls x).length-1) 0=1:=mx;rw[get,l1,bR,kZ (by lia)];exact bp (by lia) a1
 have le:(ls (con p a*x)).length<=(ls x).length:=m9 (kO _).form λn hn=>by rw[get,jw (xs:=ls x) hn,aW,lO]
 have ge:(ls x).length<=(ls (con p a*x)).length:=dN λh=>by rw[jw (xs:=ls (con p a*x)) (by lia)]at top;lia
 have el:(ls (con p a*x)).length=(ls x).length:=by lia
 have ne:ls (con p a*x)≠[]:=eR.mp (by lia);have la:jx (ls (con p a*x))=a:=by show(ls (con p a*x)).getD ((ls (con p a*x)).length-1) 0=a;rw[el];exact top
 refine⟨ne,la,el,?_⟩;have nl:=U5 hp (kO (con p a*x)) ne;rw[jP,la]at nl;obtain⟨t,ht⟩:=lM hp nd;have ci:=wk ht;have e:x=mk p (qR p (ls (con p a*x))):=by have:=congrArg (λy=>con p t*y) nl;rw[<- mul_assoc,<- mul_assoc,ci,one_mul,one_mul]at this;exact this
 have G:=Az hp (kO (con p a*x)).form (kO (con p a*x)).red;have eN:ls (mk p (qR p (ls (con p a*x))))=qR p (ls (con p a*x)):=uy ⟨G.form,G.red⟩;rw[<- eN,<- e]
open Pl in
theorem Kr (hp:jL p)(ne:Tz p f≠[])(nl:(qR p (Tz p f)).length<=31):∃A:List (Pl p×Nat),vO A/\A.Pairwise LtP/\xH p f=.tup [.int (jx (Tz p f)),.lst (A.map BP)]/\ls (Pr A id)=qR p (Tz p f)/\A.length+1<=(qR p (Tz p f)).length:=by
 obtain⟨L,F⟩:=LC hp ne nl;have pp:=Hr hp F nl;obtain⟨so1,so2⟩:=ut F.nd;obtain⟨A,pa,ea⟩:=wF so1 rfl;have IL:vO L:=⟨λq hq=>⟨(F.irr q hq).1,(F.irr q hq).2.1,(F.irr q hq).2.2.1⟩,F.ne⟩;refine⟨A,IL.perm pa.symm,?_,?_,?_,?_⟩
 ·rw[<- ea,cT]at so2;exact so2
 ·unfold xH;rw[Km F.nd pp,ea]
 ·rw[OJ pa];exact F.eN
 ·rw[pa.length_eq];exact F.len hp
section
variable {p:Int}
open Pl
def ln (p:Int)(k:Nat):Pl p:=mk p [(k:Int),1]
theorem yE (p2:2<=p){k:Nat}(hk:(k:Int)<p):ls (ln p k)=[(k:Int),1]:=uy ⟨λ_=>by show(1:Int)≠0;decide,λn=>by
 match n with
 |0=>show pl p (k:Int)=k;rw[kZ (by lia)];exact bp (by lia) hk
 |1=>show pl p 1=1;rw[kZ (by lia)];exact bp (by lia) (by lia)
 |n+2=>exact lO p⟩
theorem X3 (p2:2<=p){k:Nat}(hk:(k:Int)<p):Mo (ln p k):=by show jx (ls (ln p k))=1;rw[yE p2 hk];rfl
theorem Zy (p2:2<=p){k:Nat}(hk:(k:Int)<p):uO (ln p k):=⟨X3 p2 hk,by rw[yE p2 hk];exact c5 1,λa b ma mb e=>by
 have l:=Mo.len p2 ma mb;rw[<- e,yE p2 hk]at l;have l:2+1=(ls a).length+(ls b).length:=l;have h1:=ma.pos;have h2:=mb.pos;by_cases h:(ls a).length<=1
 ·exact .inl (Mo.yj p2 ma h)
 ·exact .inr (Mo.yj p2 mb (by lia))⟩
def tE (p:Int)(g:Nat->Nat):Nat->List (Pl p×Nat)
 |0=>[]
 |n+1=>tE p g n++if g n=0 then[] else[(ln p n,g n)]
theorem Ff:∀{n:Nat},q∈tE p g n->∃k,k<n/\q=(ln p k,g k)/\g k≠0
 |0,h=>absurd h fI
 |n+1,h=>by
  rcases cV.mp h with h|h
  ·obtain⟨k,a,b⟩:=Ff h;exact⟨k,by lia,b⟩
  ·by_cases z:g n=0
   ·rw[ah z]at h;exact absurd h fI
   ·rw[ag z]at h;exact⟨n,by lia,bv.mp h,z⟩
theorem K3 (p2:2<=p){g:Nat->Nat}:∀{n:Nat},(n:Int)<=p->(tE p g n).Pairwise LtP
 |0,_=>List.Pairwise.nil
 |n+1,h=>by
  refine iF.mpr ⟨K3 p2 (by lia),?_,λa ha b hb=>?_⟩
  ·by_cases z:g n=0
   ·rw[ah z];exact List.Pairwise.nil
   ·rw[ag z];exact gW _ _
  ·obtain⟨k,hk,rfl,_⟩:=Ff ha;by_cases z:g n=0
   ·rw[ah z]at hb;exact absurd hb fI
   ·rw[ag z]at hb;rw[bv.mp hb];show nu (ls (ln p k)) (ls (ln p n))=true;rw[yE p2 (by lia),yE p2 (by lia)];have e1:¬ [(k:Int),1]=[(n:Int),1]:=λz=>by have:=(List.cons.inj z).1;lia
    have e2:¬(k:Int)=n:=by lia
    unfold nu;rw[ah (show(([(k:Int),1].length:Nat):Int)=(([(n:Int),1].length:Nat):Int) from rfl),ag e1];unfold oG;rw[ag e2];exact aK (by lia)
theorem Gh (p2:2<=p){g:Nat->Nat}{n:Nat}(h:(n:Int)<=p):vO (tE p g n):=⟨λq hq=>by
 obtain⟨k,hk,rfl,z⟩:=Ff hq;refine⟨Zy p2 (by lia),?_,z⟩;rw[yE p2 (by lia)];exact(show 2<=31 by decide),abl (K3 p2 h)⟩
theorem Up:∀(A B:List (Pl p×Nat)),Pr (A++B) g=Pr A g*Pr B g
 |[],B=>(one_mul _).symm
 |q::A,B=>by show q.1^g q.2*Pr (A++B) g=q.1^g q.2*Pr A g*Pr B g;rw[Up A B,mul_assoc]
theorem JK (g:Nat->Nat)(n:Nat):Pr (tE p g (n+1)) id=Pr (tE p g n) id*ln p n^g n:=by
 show Pr (tE p g n++if g n=0 then[] else[(ln p n,g n)]) id=_;rw[Up];by_cases z:g n=0
 ·rw[ah z,z];rfl
 ·rw[ag z];show _*(ln p n^g n*1)=_;rw[mul_comm (ln p n^g n) 1,one_mul]
theorem yh:∀{n:Nat},(∀k,k<n->g k=h k)->tE p g n=tE p h n
 |0,_=>rfl
 |n+1,e=>by show tE p g n++_=tE p h n++_;rw[yh λk hk=>e k (by lia),e n (by lia)]
theorem Ij:∀n:Nat,tE p (λ_=>0) n=[]
 |0=>rfl
 |n+1=>by show tE p (λ_=>0) n++_=[];rw[Ij n,ah rfl];rfl
theorem FJ (g:Nat->Nat):∀n:Nat,(tE p g n).length<=n
 |0=>aq 0
 |n+1=>by
  have:=FJ g n;show(tE p g n++if g n=0 then[] else[(ln p n,g n)]).length<=n+1;rw[ai];split
  ·show _+0<=n+1;lia
  ·show _+1<=n+1;lia
theorem MF (e0:h k0=g k0+1):∀{n:Nat},(∀k,k<n->k≠k0->h k=g k)->k0<n->Pr (tE p h n) id=ln p k0*Pr (tE p g n) id
 |0,_,hk=>absurd hk (dm _)
 |n+1,e,hk=>by
  rw[JK,JK];by_cases z:k0=n
  ·subst z;rw[yh (h:=g) λk hk=>e k (by lia) (by lia),e0];have pe:ln p k0^(g k0+1)=ln p k0^g k0*ln p k0:=rfl;rw[pe];generalize ln p k0^g k0=x;generalize Pr (tE p g k0) id=y;generalize ln p k0=z;grind
  ·rw[MF e0 (λk hk=>e k (by lia)) (by lia),e n (by lia) (λq=>z q.symm),mul_assoc]
theorem Hi (hp:jL p)(a0:0<a)(a1:a<p)(e:Tz p f=ls (con p a*Pr (tE p g p.toNat) id))(hl:(ls (Pr (tE p g p.toNat) id)).length<=31) :
  xH p f=.tup [.int a,.lst ((tE p g p.toNat).map BP)]:=by
 have p2:2<=p:=hp.1;have FA:=Gh (g:=g) p2 (show((p.toNat:Nat):Int)<=p by lia);have sA:=K3 (g:=g) p2 (show((p.toNat:Nat):Int)<=p by lia);obtain⟨ne,la,_,nr⟩:=Fb hp (FA.mo p2) a0 a1;rw[<- e]at ne la nr;obtain⟨A,FB,sB,eP,eA,_⟩:=Kr hp ne (by rw[nr];exact hl);rw[eP,la];have pm:=Mu hp FB FA (Mo.inj (eA.trans nr));rw[DP Yj (pm.map BP) (by rw[cT];exact sB) (by rw[cT];exact sA)]
end
section
variable {p:Int}
open Pl
def cg (p:Int)(cs:List Int)(k:Nat):Nat:=(cs.getD ((-(k:Int)) % p).toNat 0).toNat
def z7 (p:Int)(cs:List Int):Pl p:=Pr (tE p (cg p cs) p.toNat) id
theorem Lq (p2:2<=p)(h0:0<=a)(h1:a<p):(-((-a) % p)) % p=a:=by
 have e:=dB (-a) p;have e2:-((-a) % p)=a+p*((-a) / p):=by lia
 rw[e2,gq];exact bp h0 h1
theorem Rf (p2:2<=p)(r:Int):mk p [-r,1]=ln p ((-r) % p).toNat:=lA.mpr λn=>by
 have h0:=a8 (-r) (show p≠0 by lia)
 match n with
 |0=>show p ∣ -r-((((-r) % p).toNat:Nat):Int);rw[bn h0];have e:=dB (-r) p;exact⟨(-r) / p,by lia⟩
 |1=>exact aQ p
 |n+2=>exact aQ p
theorem nW (cs:Li)(i j:Nat)(v:Int)(h:i<cs.length):(cs.set i v).getD j 0=if j=i then v else cs.getD j 0:=by
 rw[gQ,de];by_cases e:j=i
 ·subst e;rw[ah rfl,ah rfl,ah h];rfl
 ·rw[ag λz=>e z.symm,ag e,gQ]
theorem Oj (p2:2<=p)(hl:cs.length=p.toNat)(r0:0<=r)(r1:r<p)(nn:0<=cs.getD r.toNat 0):z7 p (cs.set r.toNat (cs.getD r.toNat 0+1))=mk p [-r,1]*z7 p cs:=by
 have h0:=a8 (-r) (show p≠0 by lia);have h1:=aY (-r) (show 0<p by lia);have rl:r.toNat<cs.length:=by lia
 have ek:((((-r) % p).toNat:Nat):Int)=(-r) % p:=bn h0;rw[Rf p2];refine MF (k0:=((-r) % p).toNat) ?_ (λk hk ne=>?_) (by lia)
 ·unfold cg;rw[ek,Lq p2 r0 r1,nW _ _ _ _ rl,ah rfl];lia
 ·unfold cg;rw[nW _ _ _ _ rl,ag];intro z;have k0:=a8 (-(k:Int)) (show p≠0 by lia);have e:(-(k:Int)) % p=r:=by lia
  have:=Lq p2 (a:=(k:Int)) (by lia) (by lia);rw[e]at this;lia
theorem Ux (p2:2<=p)(cs:Li):Mo (z7 p cs):=(Gh (g:=cg p cs) p2 (show((p.toNat:Nat):Int)<=p by lia)).mo p2
theorem Zr (p2:2<=p)(r:Int)(cs:Li):(ls (mk p [-r,1]*z7 p cs)).length=(ls (z7 p cs)).length+1:=by
 have h1:=aY (-r) (show 0<p by lia);have h0:=a8 (-r) (show p≠0 by lia);have k1:((((-r) % p).toNat:Nat):Int)<p:=by lia
 have e:=Mo.len p2 (X3 p2 k1) (Ux p2 cs);rw[Rf p2];rw[yE p2 k1]at e;have e:_+1=2+(ls (z7 p cs)).length:=e;lia
theorem Nk (p2:2<=p):z7 p (List.replicate p.toNat 0)=1:=by
 have e:tE p (cg p (List.replicate p.toNat 0)) p.toNat=[]:=(yh (h:=λ_=>0) λk _=>by
  unfold cg;rw[gQ,bF];split<;>rfl).trans (Ij _)
 unfold z7;rw[e];rfl
theorem Zo (p2:2<=p)(a0:0<a)(a1:a<p):ls (con p a*(1:Pl p))=[a]:=by
 rw[mul_comm,one_mul];refine uy ⟨λ_=>by show a≠0;lia,λn=>?_⟩
 match n with
 |0=>show pl p a=a;rw[kZ (by lia)];exact bp (by lia) a1
 |n+1=>exact lO p
theorem RP (p2:2<=p)(hl:cs.length=p.toNat)(r0:0<=r)(r1:r<p)(nn:0<=cs.getD r.toNat 0):Tz p (ju (ls (con p a*z7 p cs)) [-r,1])=ls (con p a*z7 p (cs.set r.toNat (cs.getD r.toNat 0+1))):=by rw[Oj p2 hl r0 r1 nn,<- qj,<- lz,jP];congr 1;generalize con p a=x;generalize z7 p cs=y;generalize mk p [-r,1]=z;grind
theorem Qx (p2:2<=p)(f:Li)(m:Nat):Tz p (f.mapIdx (λk n=>n+p*((k:Int)-3))++List.replicate m p)=Tz p f:=by
 refine m5 (jY p _) (jY p f) λn=>?_;rw[kI,kI];have key:p ∣ (f.mapIdx (λk n=>n+p*((k:Int)-3))++List.replicate m p).getD n 0-f.getD n 0:=by
  rw[gQ,gQ,List.getElem?_append];by_cases h:n<f.length
  ·rw[ah (by rw[cj];exact h),cD,ac h];show p ∣ f[n]+p*((n:Int)-3)-f[n];exact⟨(n:Int)-3,by lia⟩
  ·rw[ag (by rw[cj];exact h),bG (l:=f) (by lia),bF];split
   ·exact⟨1,by show p-0=p*1;lia⟩
   ·exact⟨0,by show(0:Int)-0=p*0;lia⟩
 rw[kZ (by lia),kZ (by lia)];obtain⟨t,ht⟩:=key;have e:(f.mapIdx (λk n=>n+p*((k:Int)-3))++List.replicate m p).getD n 0=f.getD n 0+p*t:=by lia
 rw[e,gq]
theorem Qw (p2:2<=p)(h:∀m∈f,p ∣ m):Tz p f=[]:=by
 refine m5 (jY p f) nR λn=>?_;rw[kI];rw[kZ (by lia)];by_cases hn:n<f.length
 ·rw[gQ,ac hn];exact bW (h _ (bJ hn))
 ·rw[jw (by lia)];exact i5 p
end
theorem CV:PSs X sts (ts X.K G Er λ_ _=>False):=λ_ _ _ _ _ _ ⟨_,_,_,_,c,_⟩=>c.elim
theorem Xg (he:PE X e te)(hs:∀x,foldedSetIterable e X.env x=pure x):PS X (.For tg e body [] pos) (λ_ σ H=>te σ H λ_ _=>False):=by intro pins s σ H D I h;exact wpAny_For (thn (he pins s σ H _ I h) λv s1 ⟨_,_,_,_,z⟩=>z.elim) hs
theorem rF (h:PR X G e C FE)(hx:Passes (G9 X.prog X.w) X E)(hs:∀x,foldedSetIterable e X.env x=pure x:=by intro _;rfl) :
  PS X (.For tg e body [] pos) (ts X.K G (erE E) λP Z=>C Z/\∃c,FE Z=.err c/\P.er c):=
 toS (Xg (h E hx) hs) λB σ H Z O P D R ⟨c1,d,hd,q⟩ w=>⟨B,Z,O,R,c1,(λp hp=>nomatch (hd.symm.trans hp)),λcc hcc H2 s2=>by
  cases hd.symm.trans hcc;exact w.er H2 d (R.same.trans s2) q⟩
theorem Am (T:Top K mg cFE cNO cNN cK cR):Yp P w K mg base 8 "free_parts" ["kind","f"] (YL K (Gr cR) (λas=>∃p f,as=[.ob 0 p,.ints f]/\jL p/\f.length<=100/\Tz p f=[]) λ_=>.err cNN):=by
 refine okE T.wI jX (λas ⟨a,b,h,_⟩=>by rw[h];rfl) (λf cdv A outer s H E hr=>⟨_,(jn (jG (i:=2) jX.nd rfl (Or.inl rfl) (j9 (tH (pA T) hr (jm (xv 0) (jm (j9 (tH (jU T) hr (jm (xv 0) (jm (xl 1) jq)))) jq)))))
  (jn (lQ (qm (wU 2)) (jt (CK aa6 rfl T.Tv (by rfl) T.zL (jm Ti jq))) kW) CV)),λas hp=>?_⟩)
 obtain⟨p,f,rfl,hp,fl,e⟩:=hp;refine⟨⟨⟨rfl,⟨⟨rfl,rfl,tJ⟩,p,f,rfl,by lia⟩,tJ⟩,p,Tz p f,rfl,hp,by rw[e];exact bq _,jY p f,nO p f⟩,λx ex=>?_⟩;have ex:x=[]:=by have ex:x=qR p (Tz p f):=ex;rw[ex,e];rfl
 refine⟨.inl rfl,λ_=>⟨⟨tJ,tJ⟩,rfl⟩,λq=>?_⟩;exact q λz=>z ex
theorem Qd (T:Top K mg cFE cNO cNN cK cR):Yp P w K mg base 10 "parts" ["kind","f"] (YL K (Gr cR) (λas=>∃p f,as=[.ob 0 p,.ints f]/\jL p/\f.length<=100/\Tz p f=[]) λ_=>.err cNN):=by refine okE T.Nm qH (λas ⟨a,b,h,_⟩=>by rw[h];rfl) (λf cdv A outer s H E hr=>⟨_,(jn (qx (i:=2) qH.nd rfl (Or.inl rfl) (sE jq)) (jn (rF (Xe (Am T) hr (jm (xv 0) (jm (xl 1) jq))) Yb) CV)),λas hp=>?_⟩);obtain⟨p,f,rfl,hp⟩:=hp;exact⟨tJ,λl0 _=>⟨⟨⟨rfl,rfl,tJ⟩,p,f,rfl,hp⟩,cNN,rfl,rfl⟩⟩
theorem K6 (T:Top K mg cFE cNO cNN cK cR):Ok P w K mg base 11 "_law_refused" ["_law_kind","_law_f"] (Q6 K (Gr cR) (λas=>∃p f,as=[.ob 0 p,.ints f]/\jL p/\f.length<=100/\Tz p f=[]) λ_=>true):=by
 refine xO T.O4 vo (λas ⟨a,b,h,_⟩=>by rw[h];rfl) (λf cdv A outer s H E hr=>⟨_,(jn (lW (i:=2) vo.nd rfl (Or.inl rfl) Uw)
 (jn (Wg (i:=3) (j:=2) FZ (Qd T) hr rfl rfl rfl rfl (by rfl) T.zL vo.nd rfl rfl rfl rfl rfl (by decide) (by decide) (λ_ _=>(jm (xv 0) (jm (xl 1) jq))))
 (jt (jD (Gw (Ug FZ T.lN (xv 2) (V5 (by rfl) T.wZ)) (pe_one (Ug FZ T.lN (xv 2) (sO (by rfl) T.Fi BV)))))))),λas hp=>?_⟩)
 obtain⟨p,f,rfl,hp⟩:=hp;refine⟨tJ,λv ev=>?_⟩;subst ev;refine⟨⟨rfl,rfl,tJ⟩,⟨p,f,rfl,hp⟩,(λq eq=>nomatch eq),λc ec=>?_⟩;cases ec;refine⟨T.abQ,⟨⟨rfl,tJ,.inr ⟨cNN,_,_,rfl,T.Jg,rfl,T.M8⟩⟩,λ_=>⟨rfl,tJ,.inr ⟨cNN,_,_,rfl,T.Jg,rfl,T.Nv⟩⟩⟩,?_⟩;rw[aK];exact⟨vL rfl T.M8,vL rfl T.Nv⟩
open Pl in
theorem YB (T:Top K mg cFE cNO cNN cK cR)(F:Fun K "law" "law" Dw f fd):FnOk P w K mg base CX0 14 f fd ["_law_script"] (xN K):=by
 refine aa1 (G:=Gr cR) F mC (λcdv A outer s H E hr=>⟨_,(jn (jA (i:=1) mC.nd rfl (Or.inl rfl) (Wm (VJ T) hr (jm (xr 0) jq)))
 (jn (jA (i:=2) mC.nd rfl (Or.inr rfl) (Wm (Bp T) hr (jm (Wm (vq T) hr (jm (xr 0) (jm jo jq))) jq)))
 (jn (jA (i:=3) mC.nd rfl (Or.inl rfl) jo)
 (tK (lQ (tO (lD (Bw (xn 1) jo) jo) jo)
 (jn (jA (i:=2) mC.nd rfl (Or.inr rfl) (Wm (Vi T) hr (jm (lD (Wm (vq T) hr (jm (xr 0) (jm jo jq))) jo) jq)))
 (jt (jA (i:=3) mC.nd rfl (Or.inl rfl) jo)))
 kW)
 (jn (lW (i:=4) mC.nd rfl (Or.inl rfl) (abT (S8 T) hr gRE (xn 2)))
 (jn (lQ (tO (lD (xn 1) jo) jo)
 (jt (jD (Z5 (K6 T) hr (jm (xv 4) (jm (j9 (Bj (N':=["_law_cell","_law_prime_here"]) (cap:=[some 2]) (oO rfl rfl rfl rfl ⟨⟨rfl,.inr (.inl rfl),BR,.inl rfl,_,rfl,rfl⟩,tJ⟩ ⟨rfl,tJ⟩ rfl) rfl (j9 (pP (xr 0) (mJ jo) (mJ jo) (λ_ _=>.inr rfl))) (λ_ _ _=>(pO 0)) (λ_ _ _=>(nM (xn 1) (lD (xn 0) (JR jo jo)))))) jq)))))
 kW)
 (jn (jA (i:=5) mC.nd rfl (Or.inl rfl) (lR jo (lD (Bw (xn 1) jo) (oR (xn 2) jo))))
 (jn (rZ (i:=6) mC.nd rfl (Or.inl rfl) (sS (nH (jm jo jq)) (xn 2) (λ_=>rfl)))
 (jn (jG (i:=7) mC.nd rfl (Or.inl rfl) (j9 (nH (jm (xn 5) jq))))
 (jn (Jh (k:=8) aO rfl (j9 (pP (xr 0) (mJ jo) (mJ (xn 3)) (λ_ _=>.inr rfl))) mC.nd rfl (Or.inl rfl)
 (jn (jA (i:=9) mC.nd rfl (Or.inl rfl) (lD (xn 8) (xn 2)))
 (tK (lQ (tO (lD (Bw (xn 1) jo) jo) jo)
 (jt (jA (i:=9) mC.nd rfl (Or.inl rfl) (lD (lD (xn 8) jo) (xn 2))))
 kW)
 (jn (rB 6 (xn 9) (lR (lV 6 (xn 9) (λ_ _=>rfl)) jo))
 (jt (jG (i:=7) mC.nd rfl (Or.inl rfl) (j9 (tH (G6 T) hr (jm (xl 7) (jm (j9 (nH (jm (sH (xn 9)) (jm jo jq)))) (jm (xn 2) jq)))))))))))
 (jn (qx (i:=10) mC.nd rfl (Or.inl rfl) (sE jq))
 (jn (qG (k:=11) aO rfl (by rfl) T.pJ (xn 2) mC.nd rfl (Or.inl rfl)
 (jt (lQ (uV (lV 6 (lD (sH (xn 11)) (xn 2)) (λ_ _=>rfl)) jo)
 (jt (rP 10 (rQ (jm (j9 (nH (jm (xn 11) (jm jo jq)))) (jm (lV 6 (lD (sH (xn 11)) (xn 2)) (λ_ _=>rfl)) jq)))))
 kW)))
 (lG 10 (jn (jG (i:=12) mC.nd rfl (Or.inl rfl) (j9 (xY (j9 (Rv (N':=["_law_k","_law_number","_law_prime_here"]) (cap:=[some 2]) (oO rfl rfl rfl rfl ⟨⟨rfl,.inr (.inl rfl),BR,.inl rfl,_,rfl,rfl⟩,tJ⟩ ⟨rfl,tJ⟩ rfl) rfl (by rfl) T.lZ (xl 7) (λ_ _ _=>(pg_tup rfl (pgs_cons (pO 0) (pgs_cons (pO 1) pgs_nil)))) (λ_ _ _=>(lR (xn 1) (nM (xn 2) (oR (xn 0) jo)))))) (j9 (sS (nH (jm (xn 2) jq)) (lD (Bw (xn 1) jo) jo) (λ_=>rfl))))))
 (jn (jG (i:=13) mC.nd rfl (Or.inl rfl) (j9 (Ny T.Et (xl 12) (λ_=>.inl rfl))))
 (jn (lW (i:=14) mC.nd rfl (Or.inl rfl) (xc (Us T) hr (jm (xv 4) (jm (xl 12) jq))))
 (jn (lQ (L2.PW.pt (u6 (qm (Jl (qg T.lN (xv 14) (sO (by rfl) T.M9 JB)))) (u6 (wz (mD T.j6 (xv 14)) jo) (vJ (qm (Jl (Z5 (Il T) hr (jm (xl 12) (jm (xl 13) jq)))))))))
 (jt (jD yw))
 kW)
 (jt (jD (Gw (Z5 (Bg T) hr (jm (um (jH (xv 14) jo (λ_ _=>rfl))) jq)) (Gw (abk (um (jH (xv 14) jo (λ_ _=>rfl))) (xn 5)) (pe_one (Z5 (zM T) hr (jm (jH (xv 14) jo (λ_ _=>rfl)) (jm (xv 10) jq))))))))))))))))))))))))),λns h63 hbits=>?_⟩)
 refine⟨⟨⟨rfl,tJ⟩,ns,rfl⟩,λhd ehd=>?_⟩;have hd0:0<=hd:=by rw[ehd];exact UL _
 have dv:∀k:Int,0<k->k<=30000->Ui hd k:=λk k0 k1=>⟨k0,(jh (by lia)).mpr (aV (show k.natAbs<=2^15 by lia) (bx (by decide) (by decide)))⟩;have cellOk:(0:Int)<=1:=by decide
 refine⟨⟨⟨⟨⟨rfl,tJ,tJ⟩,tJ,rfl,cellOk⟩,tJ⟩,_,rfl⟩,λp1 ep1=>?_⟩;have hp1:jL p1/\p1<=31:=by rw[ep1];exact⟨Vy _,YF _⟩
 clear ep1;refine⟨tJ,λm1 em1=>?_⟩;refine⟨λZ=>∃p:Int,∃mo:Nat,Z=[.fr (.scr ns),.fr (.int hd),.fr (.int p),.fr (.int (mo:Int)),.un,.un,.un,.un,.un,.un,.un,.un,.un,.un,.un]/\jL p/\p<=1000/\mo<=14,⟨⟨⟨⟨rfl,tJ,dv 900 (by decide) (by decide)⟩,tJ,by show(0:Int)<6;decide⟩,tJ⟩,λ_=>?_,λ_=>⟨p1,14,by rw[em1];rfl,hp1.1,by lia,by lia⟩⟩,?_⟩
 ·have c0:=a8 (ns.getD 1 0) (show(1000:Int)≠0 by decide);have c1:=aY (ns.getD 1 0) (show(0:Int)<1000 by decide);refine⟨⟨⟨⟨⟨⟨rfl,tJ,tJ⟩,tJ,rfl,cellOk⟩,tJ,by show(0:Int)<1000;decide⟩,tJ⟩,ns.getD 1 0 % 1000,rfl,c0,by lia⟩,λp ep=>⟨tJ,λm em=>⟨p,5,?_,?_,?_,by lia⟩⟩⟩
  ·replace em:m=5:=em;rw[em];rfl
  ·replace ep:p=prF (ns.getD 1 0 % 1000):=ep;rw[ep];exact Ez _ _ (by lia) (by lia) (by lia)
  ·replace ep:p=prF (ns.getD 1 0 % 1000):=ep;have ip:jL p:=by rw[ep];exact Ez _ _ (by lia) (by lia) (by lia)
   have le:p<=2+ns.getD 1 0 % 1000:=by rw[ep];exact Rz _ _
   have ne:p≠1001:=λz=>ip.2.2 7 (by decide) (by lia) (by rw[z];decide);lia
 clear hp1 em1 m1 p1 cellOk;rintro Z ⟨p,mo,rfl,hp,p9,mo14⟩;have p2:2<=p:=hp.1;have pb:p.natAbs<2^14:=by lia
 refine⟨⟨rfl,hp⟩,λkd ekd=>?_⟩;replace ekd:kd=.ob 0 p:=ekd;subst ekd;refine⟨⟨⟨rfl,tJ,by show(0:Int)<9;decide⟩,tJ⟩,λ_=>?_,λ_=>?_⟩
 ·-- nought
  have cl:=vW ns (some 2) (some 14);refine⟨⟨⟨rfl,⟨⟨rfl,tJ,tJ⟩,by show(oX ns (some 2) (some 14)).length<=1000;lia,λn _=>⟨rfl,⟨rfl,⟨tJ,tJ,by decide,by decide,by decide⟩,by show(0:Int)<10^20;decide⟩,wR ⟨by show -(2:Int)^64<p;lia,by show p<(2:Int)^64;lia⟩⟩⟩,tJ⟩,p,(oX ns (some 2) (some 14)).map (λn=>p*(n % 10^20)),rfl,hp,by rw[aa];lia,Qw p2 λm hm=>?_⟩,rfl⟩;obtain⟨n,_,rfl⟩:=aX.mp hm;exact Int.dvd_mul_right p _
 refine⟨⟨tJ,⟨rfl,tJ,dv 9 (by decide) (by decide)⟩,⟨rfl,tJ⟩,by show(0:Int)<p-1;lia⟩,λa ea=>?_⟩;have a01:0<a/\a<p:=by replace ea:a=1+hd / 9 % (p-1):=ea;have h1:=a8 (hd / 9) (show p-1≠0 by lia);have h2:=aY (hd / 9) (show 0<p-1 by lia);lia
 clear ea;obtain⟨a0,a1⟩:=a01;refine⟨⟨⟨⟨tJ,tJ⟩,tJ⟩,rfl,by show -(2:Int)^63<=p;lia,by show p.toNat<=1000;lia⟩,λc0 ec0=>⟨⟨⟨rfl,tJ⟩,tJ⟩,λf0 ef0=>?_⟩⟩;replace ec0:c0=List.replicate p.toNat 0:=ec0;replace ef0:f0=ls (con p a*z7 p c0):=by rw[ec0,Nk p2,Zo p2 a0 a1];exact ef0
 subst ef0;have cl:(oX ns (some 2) (some (mo:Int))).length<=12:=by have e:oX ns (some 2) (some (mo:Int))=(ns.drop 2).take (mo-2):=Su ns 2 mo;rw[e,aM];lia
 refine⟨⟨rfl,tJ,rfl⟩,λi Z=>∃cs v8 v9,Z=[.fr (.scr ns),.fr (.int hd),.fr (.int p),.fr (.int (mo:Int)),.fr (.ob 0 p),.fr (.int a),.ow (.ints cs),.fr (.ints (ls (con p a*z7 p cs))),v8,v9,.un,.un,.un,.un,.un]/\cs.length=p.toNat/\(∀j,0<=cs.getD j 0)/\(ls (z7 p cs)).length=i+1,⟨c0,.un,.un,rfl,?_,?_,?_⟩,?_,?_⟩
 ·rw[ec0,aG]
 ·intro j;rw[ec0,gQ,bF];split<;>exact fY 0
 ·rw[ec0,Nk p2,vV p2];rfl
 ·rintro i n Z hn ⟨cs,v8,v9,rfl,csl,cs0,lr⟩;have hn:(oX ns (some 2) (some (mo:Int)))[i]?=some n:=hn;have il:=(aj.mp hn).1;have md:∀m:Int,0<=m % p/\m % p<p:=λm=>⟨a8 m (by lia),aY m (by lia)⟩;refine⟨⟨rfl,rfl,by show 0<p;lia⟩,λr1 er1=>?_⟩;replace er1:r1=n % p:=er1;refine⟨λZ=>∃r:Int,Z=[.fr (.scr ns),.fr (.int hd),.fr (.int p),.fr (.int (mo:Int)),.fr (.ob 0 p),.fr (.int a),.ow (.ints cs),.fr (.ints (ls (con p a*z7 p cs))),.fr (.int n),.fr (.int r),.un,.un,.un,.un,.un]/\0<=r/\r<p,⟨⟨⟨⟨rfl,tJ,dv 300 (by decide) (by decide)⟩,tJ,by show(0:Int)<2;decide⟩,tJ⟩,λ_=>⟨⟨⟨rfl,tJ,by show(0:Int)<3;decide⟩,rfl,by show 0<p;lia⟩,λr2 er2=>⟨r2,rfl,?_⟩⟩,λ_=>⟨r1,rfl,by rw[er1];exact md n⟩⟩,?_⟩
  ·replace er2:r2=n % 3 % p:=er2;rw[er2];exact md _
  clear er1 r1;rintro Z ⟨r,rfl,r0,r9⟩;have rl:r.toNat<cs.length:=by lia
  have bnd:-((cs.length:Nat):Int)<=r/\r<((cs.length:Nat):Int):=by lia
  have ix:lC cs.length r=r.toNat:=by unfold lC;rw[ah r0]
  have ne:=Fb hp (Ux p2 cs) a0 a1;have sm:∀m∈[-r,1],m.natAbs<2^9000:=λm hm=>by
   have:m.natAbs<2^14:=by
    rcases aC.mp hm with e|e
    ·lia
    ·rw[bv.mp e];decide
   exact aD this (cO (by decide) (by decide))
  refine⟨⟨⟨.inr (.inl rfl),rfl,bnd⟩,tJ⟩,rfl,rfl,bnd,?_⟩;refine lF (Z':=[.fr (.scr ns),.fr (.int hd),.fr (.int p),.fr (.int (mo:Int)),.fr (.ob 0 p),.fr (.int a),.ow (.ints (cs.set r.toNat (cs.getD r.toNat 0+1))),.fr (.ints (ls (con p a*z7 p cs))),.fr (.int n),.fr (.int r),.un,.un,.un,.un,.un]) (by rw[<- ix];rfl) ?_;refine⟨⟨⟨rfl,⟨⟨rfl,tJ,tJ⟩,tJ⟩,rfl,tJ⟩,ls (con p a*z7 p cs),[-r,1],p,rfl,by lia,by rw[ne.2.2.1];show _+2<=1000;lia,(kO _).bd hp,sm⟩,λf1 ef1=>⟨cs.set r.toNat (cs.getD r.toNat 0+1),.fr (.int n),.fr (.int r),?_,?_,?_,?_⟩⟩
  ·replace ef1:f1=Tz p (ju (ls (con p a*z7 p cs)) [-r,1]):=ef1;rw[ef1,RP p2 csl r0 r9 (cs0 _)];rfl
  ·rw[bB];exact csl
  ·intro j;rw[nW _ _ _ _ rl];split
   ·have:=cs0 r.toNat;lia
   ·exact cs0 j
  ·rw[Oj p2 csl r0 r9 (cs0 _),Zr p2,lr]
 clear ec0;rintro Z ⟨cs,v8,v9,rfl,csl,cs0,lr⟩;have lr:(ls (z7 p cs)).length=(oX ns (some 2) (some (mo:Int))).length+1:=lr;replace lr:(ls (z7 p cs)).length<=13:=by lia
 clear cl;have ne:=Fb hp (Ux p2 cs) a0 a1;have PR0:=λf e=>Hi (f:=f) (g:=cg p cs) hp a0 a1 e (by show(ls (z7 p cs)).length<=31;lia);have ef:∃ff,ff=ls (con p a*z7 p cs):=⟨_,rfl⟩;obtain⟨ff,ef⟩:=ef;rw[<- ef];refine⟨tJ,λl0 el0=>?_⟩;replace el0:l0=[]:=el0;subst el0;refine⟨rfl,⟨by show -(2:Int)^62<=p;lia,by show p<(2:Int)^62;lia⟩,λk Z=>∃v11,Z=[.fr (.scr ns),.fr (.int hd),.fr (.int p),.fr (.int (mo:Int)),.fr (.ob 0 p),.fr (.int a),.ow (.ints cs),.fr (.ints ff),v8,v9,.ow (.lst ((tE p (cg p cs) k).map BP)),v11,.un,.un,.un],⟨.un,rfl⟩,?_,?_⟩
 ·rintro k Z hk ⟨v11,rfl⟩;have hk:k<p.toNat:=hk;have m0:=a8 (-(k:Int)) (show p≠0 by lia);have m1:=aY (-(k:Int)) (show 0<p by lia);have bnd:-((cs.length:Nat):Int) <= -(k:Int) % p /\ -(k:Int) % p<((cs.length:Nat):Int):=by lia
  have ix:lC cs.length (-(k:Int) % p)=(-(k:Int) % p).toNat:=by unfold lC;rw[ah m0]
  have fl:((tE p (cg p cs) k).map BP).length<=k:=by rw[aa];exact FJ _ k
  refine⟨⟨⟨.inr (.inl rfl),⟨rfl,rfl,by show 0<p;lia⟩,bnd⟩,tJ⟩,λq=>?_,λq=>?_⟩
  ·replace q:0<cs.getD (lC cs.length (-(k:Int) % p)) 0:=q;rw[ix]at q;have z:¬cg p cs k=0:=by unfold cg;lia
   refine⟨rfl,⟨⟨⟨rfl,tJ,tJ⟩,tJ⟩,⟨.inr (.inl rfl),⟨rfl,rfl,by show 0<p;lia⟩,bnd⟩,tJ⟩,?_,.fr (.int (k:Int)),?_⟩
   ·show((tE p (cg p cs) k).map BP).length<sizeLine;exact small1000 (by lia)
   ·have e:(tE p (cg p cs) (k+1)).map BP=(tE p (cg p cs) k).map BP++[.tup [.ints [(k:Int),1],.int (cs.getD (lC cs.length (-(k:Int) % p)) 0)]]:=by show(tE p (cg p cs) k++_).map BP=_;rw[ag z,bK];show _++[PV.tup [.ints (ls (ln p k)),.int ((cg p cs k:Nat):Int)]]=_;rw[yE p2 (by lia),ix];unfold cg;rw[bn (cs0 _)]
    rw[e];rfl
  ·replace q:¬0<cs.getD (lC cs.length (-(k:Int) % p)) 0:=q;rw[ix]at q;have z:cg p cs k=0:=by unfold cg;lia
   refine⟨.fr (.int (k:Int)),?_⟩;have e:tE p (cg p cs) (k+1)=tE p (cg p cs) k:=by show tE p (cg p cs) k++_=_;rw[ah z,bh]
   rw[e];rfl
 rintro Z ⟨v11,rfl⟩;have fN:((tE p (cg p cs) p.toNat).map BP).length<=1000:=by rw[aa];have:=FJ (p:=p) (cg p cs) p.toNat;lia
 have shp:∀q∈(tE p (cg p cs) p.toNat).map BP,aai q:=λq hq=>by obtain⟨r,hr,rfl⟩:=aX.mp hq;exact⟨ls r.1,(r.2:Int),rfl,aJ ((Gh (g:=cg p cs) p2 (show((p.toNat:Nat):Int)<=p by lia)).irr r hr).2.1 (by decide)⟩
 have fl:ff.length<=13:=by rw[ef,ne.2.2.1];exact lr
 have fb:∀m∈ff,m.natAbs<2^9000:=by rw[ef];exact(kO _).bd hp
 have t0:=a8 (hd / 600) (show(3:Int)≠0 by decide);have t1:=aY (hd / 600) (show(0:Int)<3 by decide);have hz:=Qx p2 ff (hd / 600 % 3).toNat;have fz:Tz p ff=ls (con p a*z7 p cs):=by rw[ef,sW]
 rw[fz]at hz;have P1:=PR0 _ hz;have hlen:(ff.mapIdx (λk n=>n+p*((k:Int)-3))++List.replicate (hd / 600 % 3).toNat p).length<=100:=by rw[ai,cj,aG];lia
 refine lF (Z':=[.fr (.scr ns),.fr (.int hd),.fr (.int p),.fr (.int (mo:Int)),.fr (.ob 0 p),.fr (.int a),.ow (.ints cs),.fr (.ints ff),v8,v9,.ow (.lst ((tE p (cg p cs) p.toNat).map BP)),v11,.un,.un,.un]) rfl ?_;generalize (tE p (cg p cs) p.toNat).map BP=FM at *
 refine⟨⟨⟨rfl,by show ff.length<=1000;lia,λk n hn=>⟨rfl,rfl,⟨rfl,tJ⟩,wR ⟨by show -(2:Int)^64<p;lia,by show p<(2:Int)^64;lia⟩⟩⟩,⟨⟨⟨rfl,tJ⟩,tJ⟩,⟨⟨rfl,tJ,dv 600 (by decide) (by decide)⟩,tJ,by show(0:Int)<3;decide⟩,by show -(2:Int)^63<=hd / 600 % 3;lia,by show(hd / 600 % 3).toNat<=1000;lia⟩,?_⟩,λh eh=>?_⟩
 ·show(ff.mapIdx (λk n=>n+p*((k:Int)-3))).length+(List.replicate (hd / 600 % 3).toNat p).length<=sizeLine;rw[cj,aG];exact bX (small1000 (by lia))
 replace eh:h=ff.mapIdx (λk n=>n+p*((k:Int)-3))++List.replicate (hd / 600 % 3).toNat p:=eh;rw[<- eh]at hz P1 hlen;clear eh;refine⟨rfl,λh2 eh2=>?_⟩;replace eh2:h2=h:=eh2;subst eh2;refine⟨⟨⟨rfl,rfl,tJ⟩,p,h2,rfl,hp,hlen,by rw[hz,ne.2.2.2];lia,by rw[hz];exact ne.1⟩,λfo efo=>?_⟩;replace efo:fo=xH p h2:=efo;rw[P1]at efo;subst efo;have h0:∀a b:PV,oY (.tup [a,b]) 0:=λa b=>⟨by show -(2:Int)<=0;decide,by show(0:Int)<2;decide⟩;have h1:∀a b:PV,oY (.tup [a,b]) 1:=λa b=>⟨by show -(2:Int)<=1;decide,by show(1:Int)<2;decide⟩;have i1:oF K (.tup [.int a,.lst FM]) (.ty "tuple")=true:=pQ rfl rfl T.pG;refine⟨⟨⟨rfl,tJ,_,_,_,rfl,rfl,T.pG⟩,λ_=>⟨⟨⟨rfl,tJ⟩,tJ⟩,λ_=>⟨⟨rfl,rfl,tJ⟩,h2,h2,rfl,by lia⟩⟩⟩,λq=>?_,λ_=>?_⟩
 ·exfalso;have q:¬oF K (.tup [.int a,.lst FM]) (.ty "tuple")=true\/¬(2:Int)=2\/¬decide (h2=h2)=true:=q;rcases q with q|q|q
  ·exact q i1
  ·exact q rfl
  ·exact q (aK rfl)
 refine⟨⟨⟨⟨⟨⟨rfl,tJ,h0 _ _⟩,rfl⟩,tJ⟩,a,rfl⟩,λ_=>⟨⟨⟨⟨rfl,tJ,h0 _ _⟩,rfl⟩,rfl⟩,λ_=>⟨⟨⟨rfl,tJ,h1 _ _⟩,rfl,tJ⟩,FM,rfl,fN,shp⟩⟩⟩,?_⟩;show PV.bl (decide _)=PV.bl true;rw[aK];exact⟨rfl,rfl,rfl⟩
end
end lE
theorem PySem.Challenge.cw_factorforge_k41_roots_holds : PySem.Challenge.rw_factorforge_k41_roots.Holds :=
  lE.pre fun T=>lE.YB T
