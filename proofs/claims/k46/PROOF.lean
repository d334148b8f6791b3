import PyProof.Rows.All
import Wide.All
import KE.KNestM
import KE.KUnpack
import KE.KEqDeep
import KE.KPassesOwn
import KE.RegKIsAll
import KE.RegKTryMore
import OpenK.KOwn
import KE.KItem
import KE.KNest
import KE.KLam
import KE.KSortKey
import KE.KSortTup
import KE.KRevIter
import Wide.FinOn
import Lean
import PyProof.EqAt
import PyProof.EqKinds
import PyProof.TupleCall
import KE.KNest
import KE.KNestM
import KE.KLam
import KE.KSortKey
import KE.KSortTup
import PySem.Challenge.RW_factorforge_k46_whole_laid_together
set_option Elab.async false
set_option linter.all false
set_option maxRecDepth 100000
set_option maxHeartbeats 4000000
local macro_rules | `(tactic| omega) => `(tactic| lia)
noncomputable section
abbrev Li:=List Int
abbrev Fg:=PySem.W.Frag
abbrev Mg:=PySem.Str->Option PySem.Value
abbrev Lv:=List PySem.Value
abbrev Ls:=List PySem.Str
def aa:=@List.length_map
def ac:=@List.getElem?_eq_getElem
def ad:=@List.mem_cons_of_mem
def ae:=@if_neg
def af:=@if_pos
def ag:=@List.mem_cons_self
def ah:=@List.length_append
def ai:=@Nat.le_refl
def aj:=@List.getElem?_eq_some_iff
def ao:=@List.getElem?_map
def aq:=@List.length_range
def aw:=@List.size_toArray
def ay:=@PySem.Heap.get?_push_of_some
def az:=@PySem.Heap.lt_size
def aA:=@Int.toNat_natCast
def aB:=@List.mem_cons
def aC:=@Nat.le_trans
def aD:=@Nat.lt_of_lt_of_le
def aE:=@PySem.PassesOwn.never
def aF:=@Option.some.inj
def aG:=@List.length_cons
def aH:=@PySem.wpAny_bind
def aI:=@List.length_take
def aJ:=@decide_eq_false
def aK:=@Int.dvd_mul_of_dvd_right
def aL:=@decide_eq_true
def aM:=@List.mem_append_right
def aN:=@List.length_replicate
def aO:=@Nat.lt_of_le_of_lt
def aP:=@List.getElem?_append_left
def aQ:=@Int.sub_zero
def aR:=@List.mem_map
def aS:=@List.mem_filter
def aT:=@Int.mul_zero
def aU:=@Int.dvd_zero
def aV:=@List.mem_of_getElem?
def aW:=@List.mem_range
def aX:=@List.map_cons
def aY:=@List.length_drop
def aZ:=@Int.dvd_mul_of_dvd_left
def a7:=@Bool.false_ne_true
def a8:=@PySem.Heap.get?_push_size
def a9:=@List.pairwise_cons
def bc:=@Nat.pow_lt_pow_right
def be:=@Nat.ne_of_lt
def bh:=@Nat.zero_le
def bi:=@List.getElem?_append_right
def bj:=@Int.emod_lt_of_pos
def bn:=@List.getElem_range
def bp:=@List.mem_singleton
def bq:=@Int.dvd_neg
def br:=@List.getElem_map
def bu:=@List.append_nil
def bv:=@List.length_singleton
def bw:=@List.getElem?_eq_none
def bx:=@List.map_map
def bA:=@List.filterMap_cons
def bB:=@Int.mul_le_mul_of_nonneg_left
def bC:=@List.getElem_mem
def bD:=@Int.dvd_add
def bE:=@Int.emod_nonneg
def bF:=@List.map_append
def bG:=@Int.mul_assoc
def bH:=@Int.add_zero
def bI:=@Int.emod_eq_of_lt
def bJ:=@Int.toNat_of_nonneg
def bK:=@Nat.le_of_lt
def bM:=@Int.mul_one
def bN:=@List.flatten_cons
def bO:=@of_decide_eq_true
def bQ:=@List.length_set
def bR:=@Int.zero_mul
def bT:=@List.map_congr_left
def bU:=@PySem.Heap.get?_update_other
def bV:=@PySem.wpAny_pure
def bW:=@Int.emod_eq_zero_of_dvd
def bX:=@Int.mul_nonpos_of_nonneg_of_nonpos
def bY:=@List.mem_iff_getElem
def bZ:=@PyProof.Rows.callWith_type1
def b7:=@Int.mul_comm
def b8:=@List.getElem?_range
def b9:=@Int.one_mul
def ce:=@List.take_of_length_le
def cf:=@Ne.symm
def cg:=@PySem.W.kia_one
def cj:=@List.ext_getElem
def ck:=@Int.mul_sub
def cq:=@Int.sub_self
def cr:=@List.mem_filterMap
def cu:=@PySem.wpAny_Call_Name_kw
def cw:=@List.filter_cons_of_pos
def cC:=@List.filter_cons_of_neg
def cD:=@List.length_nil
def cE:=@List.mem_append_left
def cF:=@Nat.pow_le_pow_right
def cG:=@List.getElem?_mapIdx
def cH:=@List.take_length
def cI:=@List.getElem_replicate
def cJ:=@List.pairwise_map
def cL:=@List.flatMap_cons
def cM:=@Classical.byContradiction
def cN:=@List.nodup_cons
def cO:=@List.length_filter_le
def cQ:=@Option.isSome_iff_exists
def cS:=@Nat.lt_of_not_le
def cT:=@Nat.lt_irrefl
def cU:=@List.getElem?_replicate
def cV:=@PySem.F.plainAttrs_list
def cX:=@Nat.mul_comm
def cY:=@Int.zero_add
def cZ:=@List.append_assoc
def c5:=@List.mem_append
def c6:=@Array.length_toList
def c7:=@List.of_mem_zip
def c8:=@PySem.mem_of_lookup
def c9:=@List.replicate_succ
def da:=@Nat.not_lt_zero
def de:=@Option.map_eq_some_iff
def df:=@Nat.lt_succ_self
def dh:=@List.zip_cons_cons
def di:=@List.length_mapIdx
def dj:=@PySem.sizeLine_eq
def dk:=@List.pairwise_iff_getElem
def dm:=@PySem.wpAny_passesOwn
def dq:=@List.getElem?_take_of_lt
def dt:=@List.length_zip
def du:=@List.ext_getElem?
def dw:=@Nat.succ_pos
def dz:=@Nat.pow_pos
def dA:=@List.length_eq_zero_iff
def dB:=@Int.le_of_dvd
def dC:=@Nat.le_of_not_lt
def dD:=@List.all_eq_true
def dE:=@PyProof.Rows.subscriptTail_builtinR
def dF:=@List.drop_eq_nil_of_le
def dG:=@PySem.W.callWith_K
def dH:=@List.dropLast_concat_getLast
def dI:=@List.getElem?_drop
def dJ:=@Int.sub_add_cancel
def dM:=@Option.map_some
def dN:=@Nat.ne_of_gt
def dO:=@PySem.Heap.get?_update_self
def dP:=@List.map_nil
def dQ:=@Nat.min_eq_left
def dR:=@Int.dvd_sub
def dS:=@Int.natAbs_dvd_natAbs
def dU:=@Int.mul_ediv_add_emod
def dW:=@PySem.wpAny_truthy_bool
def dX:=@PySem.W.mg_of
def dY:=@List.Pairwise.map
def dZ:=@List.getD_eq_getElem?_getD
def d6:=@PySem.Calls.Name_function_global
def d7:=@Array.getElem?_eq_some_iff
def d8:=@Bool.and_eq_true_iff
def d9:=@List.getElem?_set_ne
def eu:=@PySem.wpAny_loadName_local
def eA:=@Int.emod_emod_of_dvd
def eC:=@Int.emod_eq_emod_iff_emod_sub_eq_zero
def eE:=@List.mem_of_find?_eq_some
def eG:=@List.mapIdx_eq_zipIdx_map
def eH:=@List.drop_eq_getElem_cons
def eI:=@Option.getD_some
def eJ:=@List.length_pos_iff
def eK:=@Int.add_mul
def eM:=@PySem.Heap.SameBut.update
def eO:=@List.length_zipWith
def eQ:=@List.flatten_append
def eR:=@List.flatMap_append
def eS:=@Nat.pow_succ
def eU:=@PyProof.Rows.callWith_kw
def eV:=@PySem.Obj.data_mapFields
def eW:=@Classical.axiomOfChoice
def eX:=@Int.neg_one_mul
def eY:=@Int.dvd_of_emod_eq_zero
def eZ:=@Int.natCast_mul
def e8:=@Int.natCast_dvd_natCast
def fe:=@List.getElem?_set_self
def fg:=@Int.sub_mul
def fh:=@Classical.not_not
def fj:=@List.filter_congr
def fk:=@PySem.Obj.isFreed_of_fields
def fq:=@Int.dvd_refl
def ft:=@Int.mul_emod
def fv:=@Nat.le_of_ble_eq_true
def fw:=@Classical.choose_spec
def fy:=@Bool.and_eq_true
def fA:=@Nat.min_eq_right
def fE:=@List.flatMap_nil
def fG:=@List.length_dropLast
def fH:=@PySem.wpAny_newFunctionEnv
def fI:=@List.getElem?_zipIdx
def fJ:=@List.map_eq_cons_iff
def fM:=@Nat.mul_le_mul_right
def fN:=@PySem.wpAny_holding
def fO:=@PySem.wpAny_mono
def fP:=@PySem.wpAny_execs_nil
def fQ:=@Bool.eq_iff_iff
def fR:=@PySem.W.plainGet_of
def fS:=@Bool.decide_eq_true
def fU:=@List.filter_nil
def fV:=@dif_pos
def fW:=@Int.mul_add
def fX:=@Int.dvd_sub_self_of_emod_eq
def fY:=@Int.fdiv_eq_ediv_of_nonneg
def fZ:=@PySem.F.excBase_ValueError
def f6:=@Array.perm_iff_toList_perm
def f7:=@PySem.wpAny_Constant_int
def f8:=@PySem.codeAny_mono
def f9:=@Nat.succ_mul
def gf:=@List.length_zipIdx
def gm:=@Nat.zero_add
def gq:=@Nat.sub_zero
def gu:=@List.filter_append
def gv:=@Nat.lt_or_gt_of_ne
def gw:=@Nat.mul_div_cancel
def gz:=@List.append_of_mem
def gA:=@List.getElem?_eq_none_iff
def gB:=@Nat.mul_le_mul
def gC:=@List.getElem_append_right
def gD:=@List.getElem?_set
def gE:=@PySem.F.slot_list_append
def gF:=@PySem.F.type_list_append
def gG:=@List.getElem_append_left
def gH:=@Int.mul_left_comm
def gJ:=@Classical.not_imp
def gK:=@List.nodup_append
def gL:=@List.Pairwise.imp_of_mem
def gN:=@List.length_filterMap_le
def gO:=@List.foldl_append
def gP:=@Nat.mul_assoc
def gR:=@List.map_drop
def gS:=@List.map_take
def gT:=@Int.mul_neg
def gU:=@PyProof.Rows.listUpdate_at
def gV:=@List.getLast_eq_getElem
def gW:=@List.pairwise_singleton
def gX:=@Nat.dvd_div_iff_mul_dvd
def gY:=@PySem.wpAny_eqBool_int
def gZ:=@List.getElem_zip
def g7:=@List.nodup_range
def g8:=@Int.gcd_one_left
def g9:=@List.map_zipWith
def hJ:=@List.perm_middle
def hO:=@PySem.W.cellsFrom_some
def hU:=@List.drop_of_length_le
def hV:=@List.pairwise_lt_range
def hW:=@PySem.W.methodCall_KW
def hZ:=@PySem.seqIndex_neg
def ia:=@List.foldl_cons
def ib:=@Nat.add_comm
def ie:=@List.find?_some
def ig:=@Bool.beq_eq_decide_eq
def ii:=@Int.add_comm
def ij:=@PySem.F.slot_list_pop
def ik:=@PySem.F.type_list_pop
def im:=@List.getElem?_toArray
def io:=@List.mem_iff_getElem?
def iq:=@List.filter_map
def iu:=@PySem.W.ke_canLayAll0
def iw:=@List.range_succ
def iz:=@Int.pow_succ
def iA:=@PySem.wpAny_Name
def iB:=@PySem.wpAny_call
def iC:=@PySem.call_meets
def iD:=@PySem.W.kla_callFunE
def iE:=@PySem.W.kla_codeExpr
def iF:=@Classical.not_forall
def iG:=@List.getElem_zipWith
def iH:=@Int.natAbs_mul
def iI:=@List.drop_zero
def iJ:=@Int.mul_nonneg
def iK:=@List.take_zero
def iM:=@Nat.le_succ
def iN:=@PySem.seqIndex_of
def iO:=@PySem.W.codeHd_of_K
def iQ:=@Nat.log2_lt
def iR:=@List.reverse_append
def iT:=@Array.toList_append
def iU:=@Int.neg_mul
def iV:=@Int.pow_one
def iW:=@Nat.mul_le_mul_left
def iX:=@Nat.pow_le_pow_left
def iY:=@List.filter_eq_self
def iZ:=@decide_not
def i5:=@beq_iff_eq
def i6:=@Nat.le_of_eq
def i7:=@List.map_set
def i8:=@Int.emod_def
def i9:=@Int.le_of_lt
def ja:=@Nat.mul_succ
def jb:=@Nat.zero_div
def jc:=@Int.pow_zero
def jd:=@Nat.min_self
def je:=@Nat.pow_add
def jf:=@if_false
def jg:=@Eq.trans
theorem tJ:True:=True.intro
theorem gQ {A:Type _}{l:List A}{i:Nat}{a:A}:l.getD i a=l[i]?.getD a:=dZ ..
theorem lP {A:Type _}{l:List A}(h:l≠[]):0<l.length:=eJ.mpr h
section
open PySem PySem.W PyProof.Rows
namespace lE
def top (i:Nat):Stmt:=PySem.Challenge.pw_factorforge_k46_whole_laid_together.main.body.getD i (.Pass ⟨0,0,0,0⟩)
end lE
def lE.view:PySem.Program:={ PySem.Challenge.rw_factorforge_k46_whole_laid_together.row.toRowW.prog with main:={ PySem.Challenge.rw_factorforge_k46_whole_laid_together.row.toRowW.prog.main with body:=[lE.top 0,lE.top 2,lE.top 3,lE.top 4,lE.top 5,lE.top 7,lE.top 8,lE.top 9,lE.top 10,lE.top 11,lE.top 12,lE.top 13,lE.top 14,lE.top 15,lE.top 17,lE.top 18,lE.top 19,lE.top 21,lE.top 22,lE.top 23,lE.top 24,lE.top 26,lE.top 27,lE.top 29,lE.top 30,lE.top 31,lE.top 32,lE.top 33,lE.top 34,lE.top 35,lE.top 36,lE.top 37,lE.top 38,lE.top 40,lE.top 41,lE.top 42,lE.top 43,lE.top 44,lE.top 45,lE.top 46,lE.top 48,lE.top 49,lE.top 50,lE.top 51,lE.top 52,lE.top 53,lE.top 55,lE.top 56,lE.top 57,lE.top 58,lE.top 59,lE.top 60,lE.top 61,lE.top 62,lE.top 63,lE.top 64,lE.top 65,lE.top 66,lE.top 67,lE.top 68,lE.top 69] } }
def X.Zz (tb:String->Option Builtin)(p:Program)(w:World)(n₀:Nat)(ann:Option Value):Nat->SharedT->Thread->Option SharedT
 |0,_,_=>none
 |n+1,s,t=>match through t with
  |true=>some s
  |false=>match stepOk n₀ ann t with
   |false=>none
   |true=>match stepT (denote tb) p w s t with
    |some (s',t')=>X.Zz tb p w n₀ ann n s' t'
    |none=>none
theorem X.Tc {tb:String->Option Builtin}{p:Program}{w:World}{n₀:Nat}{ann:Option Value}:∀{n:Nat} {s s':SharedT} {t:Thread},X.Zz tb p w n₀ ann n s t=some s' -> topRun tb p w n₀ ann n s.abs t=some s'.abs
 |0,_,_,_,h=>by cases h
 |n+1,s,s',t,h=>by
  unfold X.Zz at h;unfold topRun;cases ht:through t with
  |true=>rw[ht]at h;cases h;rfl
  |false=>
   rw[ht]at h;cases hk:stepOk n₀ ann t with
   |false=>rw[hk]at h;cases h
   |true=>
    rw[hk]at h;cases hs:stepT (denote tb) p w s t with
    |none=>rw[hs]at h;cases h
    |some r=>obtain⟨s₂,t₂⟩:=r;rw[hs]at h;rw[stepT_spec hs];exact X.Tc h
def X.toT (s:Shared):SharedT:=⟨(s.heap.objs.toList.foldl (λ(x:BT×Nat) o=>(x.1.ins x.2 o,x.2+1)) (BT.nil,0)).1,s.heap.objs.size,s.heap.life,s.gens,s.drawn,s.toks,s.os⟩
def X.RT (tb:String->Option Builtin)(p:Program)(w:World)(N:Nat):Option (Shared×SharedT):=(fencedOpening tb p w N).bind λs0=>(X.Zz tb p w s0.heap.objs.size (s0.heap.nsMap mainGlobals "__annotations__") N (X.toT s0) (topStub p)).map λs1=>(s0,s1)
def X.chk (p:Program)(s0 s1:Shared):Bool:=(s0.heap.isNs mainGlobals && s0.gens.size == 0) && (staticsOk (importedModules p.main.body) s0.heap s1.heap && namesBound p s1.heap && gensDone s1 && laidKept s0.heap s1.heap)
theorem X.Ep {p:Program}{w:World}{N:Nat}{A:Type}{f:Shared->A}{a:A}(h0:(fencedOpening treeTable p w N).map (λs=>(X.toT s).tree.list s.heap.objs.size)=(fencedOpening treeTable p w N).map (λs=>s.heap.objs.toList))
  (h1:(X.RT treeTable p w N).map (λx=>(X.chk p x.1 x.2.abs,f x.2.abs))=some (true,a)):(openEnds treeTable p w N).map f=some a:=by
 unfold X.RT at h1;unfold openEnds;cases e:fencedOpening treeTable p w N with
 |none=>rw[e]at h1;cases h1
 |some s0=>
  rw[e]at h0 h1;have hl:(X.toT s0).tree.list s0.heap.objs.size=s0.heap.objs.toList:=aF h0;have ha:(X.toT s0).abs=s0:=by obtain⟨⟨objs,life⟩,gens,drawn,toks,os⟩:=s0;show(⟨⟨((X.toT ⟨⟨objs,life⟩,gens,drawn,toks,os⟩).tree.list objs.size).toArray,life⟩,gens,drawn,toks,os⟩:Shared)=_;rw[hl]
  have h1:((X.Zz treeTable p w s0.heap.objs.size (s0.heap.nsMap mainGlobals "__annotations__") N (X.toT s0) (topStub p)).map λs1=>(s0,s1)).map (λx=>(X.chk p x.1 x.2.abs,f x.2.abs))=some (true,a):=h1;cases e1:X.Zz treeTable p w s0.heap.objs.size (s0.heap.nsMap mainGlobals "__annotations__") N (X.toT s0) (topStub p) with
  |none=>rw[e1]at h1;cases h1
  |some s1=>
   rw[e1]at h1;have h1:=aF h1;have c:=congrArg Prod.fst h1;have d:=congrArg Prod.snd h1;have c:X.chk p s0 s1.abs=true:=c;have d:f s1.abs=a:=d;have r:=X.Tc e1;rw[ha]at r;obtain⟨c1,c2⟩:=d8.mp c;show(topFrom treeTable p w N s0).map f=some a;unfold topFrom;rw[c1,r];show(match staticsOk (importedModules p.main.body) s0.heap s1.abs.heap && namesBound p s1.abs.heap && gensDone s1.abs && laidKept s0.heap s1.abs.heap with|true=>some s1.abs|false=>none).map f=some a
   rw[c2];exact congrArg some d
theorem X.both {S A B:Type}{o:Option S}{c:S->Bool}{f:S->A}{y:S->B}{g:A}{a:B}(h1:o.map (λx=>(c x,f x))=some (true,g))(h2:o.map y=some a):o.map (λx=>(c x,(f x,y x)))=some (true,(g,a)):=by
 cases o with
 |none=>cases h2
 |some s=>have e1:=aF h1;have e2:=aF h2;have e3:c s=true:=congrArg Prod.fst e1;have e4:f s=g:=congrArg Prod.snd e1;show some (c s,(f s,y s))=_;rw[e3,e4,e2]
abbrev lE.QS (s:Shared):=openSeen lE.view [] (importedModules PySem.Challenge.rw_factorforge_k46_whole_laid_together.row.toRowW.prog.main.body) (λs=>xlAt lE.view [] s && recOk (RowW.records PySem.Challenge.rw_factorforge_k46_whole_laid_together.row.toRowW) s) true s
theorem lE.h0:∀w,(fencedOpening treeTable PySem.Challenge.rw_factorforge_k46_whole_laid_together.row.toRowW.prog w 20000).map (λs=>(X.toT s).tree.list s.heap.objs.size)=(fencedOpening treeTable PySem.Challenge.rw_factorforge_k46_whole_laid_together.row.toRowW.prog w 20000).map (λs=>s.heap.objs.toList):=by intro w;kernel_rfl
theorem lE.h1:∀w,(X.RT treeTable PySem.Challenge.rw_factorforge_k46_whole_laid_together.row.toRowW.prog w 20000).map (λx=>(X.chk PySem.Challenge.rw_factorforge_k46_whole_laid_together.row.toRowW.prog x.1 x.2.abs,lE.QS x.2.abs))=some (true,openGood lE.view []):=by intro w;kernel_rfl
theorem lE.fin {A:Type}{y:Shared->A}{a:A}(w:World)(h:(X.RT treeTable PySem.Challenge.rw_factorforge_k46_whole_laid_together.row.toRowW.prog w 20000).map (λx=>y x.2.abs)=some a):(openEnds treeTable PySem.Challenge.rw_factorforge_k46_whole_laid_together.row.toRowW.prog w 20000).map (λs=>(lE.QS s,y s))=some (openGood lE.view [],a):=
 X.Ep (f:=λs=>(lE.QS s,y s)) (lE.h0 w) (X.both (lE.h1 w) h)
end
namespace L2
open PySem PySem.Spec PyProof.Rows
abbrev Key:=Sum Int Str
def keyIs:Key->Value->Bool
 | .inl k,v=>Value.isInt k v
 | .inr x,v=>Value.isStrOf x v
def keyH (w:World):Key->Int
 | .inl k=>hashInt k
 | .inr x=>hashStr w x
theorem keyIs_shape:∀{k:Key} {v:Value},keyIs k v=true->(∃i t,k=Sum.inl i/\v=Value.int i t)\/(∃x t,k=Sum.inr x/\v=Value.str x t)
 | .inl i,v,h=>by obtain⟨t,e⟩:=Value.isInt_shape (k:=i) (v:=v) h;exact .inl ⟨i,t,rfl,e⟩
 | .inr x,v,h=>by obtain⟨t,e⟩:=Value.isStrOf_shape (x:=x) (v:=v) h;exact .inr ⟨x,t,rfl,e⟩
theorem key_ll (a b:Int):decide ((Sum.inl a:Key)=Sum.inl b)=(a == b):=by
 by_cases e:a=b
 ·subst e;simp
 ·have h:¬(Sum.inl a:Key)=Sum.inl b:=λq=>e (Sum.inl.inj q);rw[aJ h];exact(beq_eq_false_iff_ne.mpr e).symm
theorem key_rr (a b:Str):decide ((Sum.inr a:Key)=Sum.inr b)=decide (a=b):=by
 by_cases e:a=b
 ·subst e;simp
 ·have h:¬(Sum.inr a:Key)=Sum.inr b:=λq=>e (Sum.inr.inj q);rw[aJ h,aJ e]
theorem key_lr (a:Int)(b:Str):decide ((Sum.inl a:Key)=Sum.inr b)=false:=aJ (λq=>nomatch q)
theorem key_rl (a:Str)(b:Int):decide ((Sum.inr a:Key)=Sum.inl b)=false:=aJ (λq=>nomatch q)
def mixKind (prog:Program)(w:World):PySem.KeyKind prog w Key where
 is:=keyIs
 hash:=keyH w
 inj:=λv a b ha hb=>by
  rcases keyIs_shape ha with⟨i,t,rfl,rfl⟩|⟨x,t,rfl,rfl⟩
  ·rcases keyIs_shape hb with⟨j,u,rfl,e⟩|⟨y,u,rfl,e⟩
   ·injection e with e1 _;rw[e1]
   ·exact nomatch e
  ·rcases keyIs_shape hb with⟨j,u,rfl,e⟩|⟨y,u,rfl,e⟩
   ·exact nomatch e
   ·injection e with e1 _;rw[e1]
 byValue:=λk v h=>by rcases keyIs_shape h with⟨i,t,rfl,rfl⟩|⟨x,t,rfl,rfl⟩<;>rfl
 pyHash:=λhv h=>by
  rcases keyIs_shape hv with⟨i,t,rfl,rfl⟩|⟨x,t,rfl,rfl⟩
  ·exact wpAny_pyHash_int h
  ·exact wpAny_pyHash_str h
 eqBool:=λhu hv h=>by
  rcases keyIs_shape hu with⟨i,t,rfl,rfl⟩|⟨x,t,rfl,rfl⟩
  ·rcases keyIs_shape hv with⟨j,u,rfl,rfl⟩|⟨y,u,rfl,rfl⟩
   ·rw[key_ll]at h;exact gY h
   ·rw[key_lr]at h;exact SeqAt.EqAt.int_str i t y u _ _ _ _ h
  ·rcases keyIs_shape hv with⟨j,u,rfl,rfl⟩|⟨y,u,rfl,rfl⟩
   ·rw[key_rl]at h;exact SeqAt.EqAt.str_int x t j u _ _ _ _ h
   ·rw[key_rr]at h;exact wpAny_eqBool_str h
 «strs»:=λk x t v h=>by
  rcases keyIs_shape h with⟨i,u,rfl,e⟩|⟨y,u,rfl,e⟩
  ·exact nomatch e
  ·injection e with e1 _;subst e1;cases v<;>rfl
inductive V where
 |non|bl (b:Bool)|int (i:Int)|str (x:Str)|byt (b:Array UInt8)|flt (b:UInt64)|ref (a:Addr)|ty (n:String)
 deriving DecidableEq
def RelV:V->Value->Prop
 | .non,u=>u=Value.none
 | .bl b,u=>u=Value.bool b
 | .int i,u=>∃t,u=Value.int i t
 | .str x,u=>∃t,u=Value.str x t
 | .byt b,u=>∃t,u=Value.bytes b t
 | .flt b,u=>∃t,u=Value.float b t
 | .ref a,u=>u=Value.ref a
 | .ty n,u=>u=Value.type n
abbrev Vals:List V->List Value->Prop:=Paired RelV
theorem Vals.length (r:Vals xs us):xs.length=us.length:=Paired.length r
theorem Vals.get:∀{xs:List V} {us:Lv} {i:Nat} {x:V},Vals xs us->xs[i]?=some x->∃u,us[i]?=some u/\RelV x u
 |_,_,_,_,.nil,e=>by simp at e
 |_,_,0,_,.cons r _,e=>by simp at e;subst e;exact⟨_,rfl,r⟩
 |_,_,i+1,x,.cons _ t,e=>by obtain⟨u,h1,h2⟩:=Vals.get (i:=i) (x:=x) t (by simpa using e);exact⟨u,by simpa using h1,h2⟩
theorem Vals.set (r:RelV x u):∀{xs:List V} {us:Lv} (i:Nat),Vals xs us->Vals (xs.set i x) (us.set i u)
 |_,_,_,.nil=>.nil
 |_,_,0,.cons _ t=>.cons r t
 |_,_,i+1,.cons q t=>.cons q (Vals.set r i t)
theorem Vals.append:∀{xs ys:List V} {us ws:Lv},Vals xs us->Vals ys ws->Vals (xs++ys) (us++ws)
 |_,_,_,_,.nil,s=>s
 |_,_,_,_,.cons r t,s=>.cons r (Vals.append t s)
theorem Vals.take:∀{xs:List V} {us:Lv} (n:Nat),Vals xs us->Vals (xs.take n) (us.take n)
 |_,_,0,_=>.nil
 |_,_,_+1,.nil=>.nil
 |_,_,n+1,.cons r t=>.cons r (Vals.take n t)
theorem Vals.drop:∀{xs:List V} {us:Lv} (n:Nat),Vals xs us->Vals (xs.drop n) (us.drop n)
 |_,_,0,r=>r
 |_,_,_+1,.nil=>.nil
 |_,_,n+1,.cons _ t=>Vals.drop n t
theorem Vals.none_of:∀{xs:List V} {us:Lv} {i:Nat},Vals xs us->xs[i]?=none->us[i]?=none:=λ{xs us i} r e=>by have h1:=r.length;have h2:xs.length<=i:=gA.mp e;exact gA.mpr (by lia)
def RelO:Option V->Option Value->Prop
 |some v,some u=>RelV v u
 |none,none=>True
 |_,_=>False
def KV {κ:Type}:List (κ×V)->List (κ×Value)->Prop:=Paired λ(p:κ×V) (q:κ×Value)=>p.1=q.1/\RelV p.2 q.2
def kV:Key->V
 | .inl i=>.int i
 | .inr x=>.str x
structure yX where
 q:Str
 ps:Array Value
instance:HAppend yX (Array Value) yX:=⟨λt m=>⟨t.q,t.ps++m⟩⟩
@[simp] theorem yX.append_nil (t:yX):t++(#[]:Array Value)=t:=by obtain⟨q,ps⟩:=t;show yX.mk q (ps ++ #[])=⟨q,ps⟩;rw[Array.append_empty]
theorem yX.append_assoc (t:yX)(a b:Array Value):t++a++b=t++(a++b):=by obtain⟨q,ps⟩:=t;show yX.mk q (ps++a++b)=⟨q,ps++(a++b)⟩;rw[Array.append_assoc]
def Bq (o:Obj)(q:Str):Prop:=∃vs t,o.data=.fields vs/\vs[1]?=some (.str q t)
inductive HO where
 |lst (xs:List V)
 |tup (xs:List V)
 |dK (kvs:List (Key×V))|dT (kvs:List (List Key×V))
 |set (S:Int->Bool) (n:Nat)
 |ins (C dx:Addr) (fs:List (Str×V))
 |own (x:Addr)
 |xd (fs:List (Str×V))
 |met (f x:Addr)
 |rng (lo hi:Int)
 |frz (o:Obj) (u:HO)
 |tbl (ps:yX)
 |ext (φ:Heap->Prop)
abbrev Hp:=Addr->Option HO
def upd (H:Hp)(a:Addr)(o:HO):Hp:=λb=>if b=a then some o else H b
theorem upd_same:upd H a o a=some o:=by unfold upd;rw[af rfl]
theorem upd_ne (h:b≠a):upd H a o b=H b:=by unfold upd;rw[ae h]
theorem upd_upd:upd (upd H a o) a u=upd H a u:=by funext b;unfold upd;split<;>rfl
theorem ne_of_none {H:Hp}{a b:Addr}{o:HO}(h:H a=some o)(h':H b=none):a≠b:=by intro e;subst e;rw[h]at h';cases h'
section
variable (P:Program)(w:World)
def ObjOk (H:Hp)(h:Heap)(a:Addr):HO->Prop
 | .lst xs=>xs.length<=sizeLine/\∃(its:List Value) (n:Nat),Vals xs its/\h.get? a=some { cls:=.type "list",data:=.seq its.toArray n }
 | .tup xs=>xs.length<=sizeLine/\∃its:List Value,Vals xs its/\IsTup h a its.toArray
 | .dK kvs=>kvs.length<=sizeLine/\(a == sysModules)=false/\∃vs,KV kvs vs/\h.DictOf (mixKind P w) a vs
 | .dT kvs=>kvs.length<=sizeLine/\(a == sysModules)=false/\∃xs:List (List Key×Addr×Value),
   Paired (λ(p:List Key×V) (q:List Key×Addr×Value)=>p.1=q.1/\H q.2.1=some (.tup (p.1.map kV))/\RelV p.2 q.2.2) kvs xs /\
   ∃o es ep,h.get? a=some o/\o.ExactDict/\o.data=.dict es ep/\es.toList=xs.map (entryOfKey (tupleKind (mixKind P w)))/\(xs.map (·.1)).Nodup
 | .set S n=>h.SetOf (intKind P w) a S n
 | .ins C dx fs=>H dx=some (.own a)/\fs.length<=1000/\dx≠a/\h.get? a=some (W.instObj C dx) /\
   ∃mA,h.Ns1 dx mA/\(∀f,RelO (fs.lookup f) (mA f))/\PySem.Within mA (fs.map (·.1))
 | .own _=>∃o,h.get? a=some o
 | .xd fs=>∃mA,h.Ns1 a mA/\∀f,RelO (fs.lookup f) (mA f)
 | .rng lo hi=>∃t u v,h.get? a=some { cls:=.type "range",data:=.fields #[.int lo t,.int hi u,.int 1 v] }
 | .frz o u=>h.get? a=some o/\ObjOk H h a u
 | .tbl ps=>h.get? a=some { cls:=.none,data:=.fields ps.ps }/\TriplesOk ps.ps.toList/\∀p cv,codeAmong p ps.ps.toList=some cv->∃c oc u,cv=Value.ref c/\H c=some (.frz oc u)/\Bq oc ps.q
 | .met f x=>h.get? a=some (W.methodObj (.ref f) (.ref x))
 | .ext φ=>φ h/\(∃o,h.get? a=some o)/\∀h1 h2:Heap,φ h1->(∀o,h1.get? a=some o->h2.get? a=some o)->φ h2
def HOk (H:Hp)(h:Heap):Prop:=∀a o,H a=some o->ObjOk P w H h a o
end
section
variable {P:Program}{w:World}{H H':Hp}{h h':Heap}{a:Addr}{o:HO}
theorem ObjOk.lt (x:ObjOk P w H h a o):a<h.objs.size:=by
 cases o with
 |lst xs=>obtain⟨_,_,_,_,e⟩:=x;exact az e
 |tup xs=>obtain⟨_,_,_,p⟩:=x;exact p.lt
 |dK kvs=>obtain⟨_,_,_,_,o,_,_,e,_⟩:=x;exact az e
 |dT kvs=>obtain⟨_,_,_,_,o,_,_,e,_⟩:=x;exact az e
 |set S n=>obtain⟨o,_,_,_,e,_⟩:=x;exact az e
 |ins C dx fs=>obtain⟨_,_,_,e,_⟩:=x;exact az e
 |own y=>obtain⟨_,e⟩:=x;exact az e
 |xd fs=>obtain⟨_,⟨_,_,_,e,_⟩,_⟩:=x;exact az e
 |rng lo hi=>obtain⟨_,_,_,e⟩:=x;exact az e
 |frz ob u=>obtain⟨e,_⟩:=x;exact az e
 |tbl ps=>exact az x.1
 |met f y=>exact az (show h.get? a=some _ from x)
 |ext φ=>obtain⟨_,⟨_,e⟩,_⟩:=x;exact az e
theorem Paired.mapP:∀{l₁:List α} {l₂:List β},Paired F l₁ l₂->(∀a b,F a b->G a b)->Paired G l₁ l₂
 |_,_,.nil,_=>.nil
 |_,_,.cons r t,f=>.cons (f _ _ r) (Paired.mapP t f)
theorem ObjOk.stay (x:ObjOk P w H h a o)(k:∀b u,(b=a\/H b=some (.own a))->h.get? b=some u->h'.get? b=some u)
  (ho:∀b,H b=some (.own a)->H' b=some (.own a)) (ht:∀b xs,H b=some (.tup xs)->H' b=some (.tup xs)) (hz:∀b o u,H b=some (.frz o u)->H' b=some (.frz o u):=by intro _ _ _ q;exact q):ObjOk P w H' h' a o:=by
 induction o with
 |lst xs=>obtain⟨z,its,n,r,e⟩:=x;exact⟨z,its,n,r,k _ _ (.inl rfl) e⟩
 |tup xs=>obtain⟨z,its,r,ob,e,c⟩:=x;exact⟨z,its,r,ob,k _ _ (.inl rfl) e,c⟩
 |dK kvs=>obtain⟨z,y,vs,r,ob,es,ep,e,c⟩:=x;exact⟨z,y,vs,r,ob,es,ep,k _ _ (.inl rfl) e,c⟩
 |dT kvs=>obtain⟨z,y,xs,r,ob,es,ep,e,c⟩:=x;exact⟨z,y,xs,Paired.mapP r λp q z=>⟨z.1,ht _ _ z.2.1,z.2.2⟩,ob,es,ep,k _ _ (.inl rfl) e,c⟩
 |set S n=>obtain⟨ob,es,ep,t,e,c⟩:=x;exact⟨ob,es,ep,t,k _ _ (.inl rfl) e,c⟩
 |ins C dx fs=>obtain⟨d,z,ne,e,mA,⟨od,es,ep,e2,c⟩,r⟩:=x;exact⟨ho _ d,z,ne,k _ _ (.inl rfl) e,mA,⟨od,es,ep,k _ _ (.inr d) e2,c⟩,r⟩
 |own y=>obtain⟨ob,e⟩:=x;exact⟨ob,k _ _ (.inl rfl) e⟩
 |xd fs=>obtain⟨mA,⟨od,es,ep,e,c⟩,r⟩:=x;exact⟨mA,⟨od,es,ep,k _ _ (.inl rfl) e,c⟩,r⟩
 |rng lo hi=>obtain⟨t,u,v,e⟩:=x;exact⟨t,u,v,k _ _ (.inl rfl) e⟩
 |frz ob u ih=>obtain⟨e,q⟩:=x;exact⟨k _ _ (.inl rfl) e,ih q⟩
 |tbl ps=>obtain⟨e,t,g⟩:=x;exact⟨k a _ (.inl rfl) e,t,λp cv hc=>let ⟨c,oc,u,y,z,q⟩:=g p cv hc;⟨c,oc,u,y,hz _ _ _ z,q⟩⟩
 |met f y=>have e:h.get? a=some (W.methodObj (.ref f) (.ref y)):=x;show h'.get? a=some (W.methodObj (.ref f) (.ref y));exact k a _ (.inl rfl) e
 |ext φ=>obtain⟨p,⟨o,e⟩,st⟩:=x;exact⟨st _ _ p λo q=>k _ _ (.inl rfl) q,⟨o,k _ _ (.inl rfl) e⟩,st⟩
theorem HOk.lt (x:HOk P w H h)(e:H a=some o):a<h.objs.size:=(x a o e).lt
theorem HOk.fresh (x:HOk P w H h)(e:h.objs.size<=a):H a=none:=by
 cases q:H a with
 |none=>rfl
 |some u=>exact absurd (aD (x.lt q) e) (cT _)
theorem HOk.kept (x:HOk P w H h)(k:∀b u,h.get? b=some u->h'.get? b=some u):HOk P w H h':=λa o e=>
 (x a o e).stay (λb u _ q=>k b u q) (λ_ q=>q) λ_ _ q=>q
theorem HOk.laid (x:HOk P w H h)(k:∀b u,h.get? b=some u->h'.get? b=some u)(hp:h.objs.size<=a)(new:ObjOk P w (upd H a o) h' a o):HOk P w (upd H a o) h':=λb u e=>by
 have hn:=x.fresh hp;by_cases hb:b=a
 ·subst hb;rw[upd_same]at e;cases e;exact new
 ·rw[upd_ne hb]at e;exact(x b u e).stay (λc v _ q=>k c v q) (λc q=>by rw[upd_ne (ne_of_none q hn)];exact q) (λc xs q=>by rw[upd_ne (ne_of_none q hn)];exact q) λc _ _ q=>by rw[upd_ne (ne_of_none q hn)];exact q
end
def Rd (H:Hp)(a:Addr)(u:HO):Prop:=H a=some u\/∃o,H a=some (.frz o u)
theorem Rd.ok (r:Rd H a u)(x:HOk P w H h):ObjOk P w H h a u:=by
 rcases r with r|⟨o,r⟩
 ·exact x a u r
 ·obtain⟨_,q⟩:=x a _ r;exact q
def Mut:Option HO->Prop
 |some (.lst _)=>True
 |some (.dK _)=>True
 |some (.dT _)=>True
 |some (.set _ _)=>True
 |some (.ins _ _ _)=>True
 |some (.ext _)=>True
 |_=>False
section
variable {P:Program}{w:World}{H:Hp}{h h':Heap}{x e:Addr}{o':HO}
theorem HOk.write (ok:HOk P w H h)(mu:Mut (H x))(he:e=x\/H e=some (.own x))(k:∀b u,b≠e->h.get? b=some u->h'.get? b=some u)(heo:∃u,h'.get? e=some u)
  (new:ObjOk P w (upd H x o') h' x o'):HOk P w (upd H x o') h':=λb u q=>by
 have nown:∀c y,H c=some (.own y)->c≠x:=λc y r z=>by subst z;rw[r]at mu;exact mu
 have ntup:∀c xs,H c=some (.tup xs)->c≠x:=λc xs r z=>by subst z;rw[r]at mu;exact mu
 have nfrz:∀c o u,H c=some (.frz o u)->c≠x:=λc o u r z=>by subst z;rw[r]at mu;exact mu
 by_cases hb:b=x
 ·subst hb;rw[upd_same]at q;cases q;exact new
 ·rw[upd_ne hb]at q;by_cases hbe:b=e
  ·have q':H b=some (.own x):=by
    rcases he with z|z
    ·exact absurd (hbe.trans z) hb
    ·rw[hbe];exact z
   rw[q]at q';cases q';obtain⟨v,hv⟩:=heo;exact⟨v,by rw[hbe];exact hv⟩
  ·refine(ok b u q).stay (λc v hc r=>k c v ?_ r) (λc r=>by rw[upd_ne (nown c b r)];exact r) (λc xs r=>by rw[upd_ne (ntup c xs r)];exact r) λc o u r=>by rw[upd_ne (nfrz c o u r)];exact r
   rcases hc with rfl|hc
   ·exact hbe
   ·rintro rfl;rcases he with z|z
    ·exact nown c b hc z
    ·rw[hc]at z;cases z;exact hb rfl
end
structure Un (fs ex:List Addr)(H H':Hp)(h h':Heap):Prop where
 keep:∀b o,h.get? b=some o->H b=none->b∉fs->b∉ex->h'.get? b=some o
 slot:∀b o,h.get? b=some o->H b=none->b∈fs->b∉ex->∃sl,h'.get? b=some { o with slots:=sl }
 free:∀b o,h.get? b=some o->H b=none->b∉ex->H' b=none
 there:∀b o,h.get? b=some o->b∉ex->∃o',h'.get? b=some o'
 tups:∀b xs,H b=some (.tup xs)->H' b=some (.tup xs)
 frzs:∀b o u,H b=some (.frz o u)->H' b=some (.frz o u)
 tbls:∀b ps,H b=some (.tbl ps)->∃more:Array Value,H' b=some (.tbl (ps++more))
section
variable {fs fs' ex ex':List Addr}{H H1 H2:Hp}{h h1 h2 h':Heap}{a x e:Addr}{o:HO}
theorem Un.any (u:Un fs ex H H1 h h1)(q:h.get? b=some ob)(n:H b=none)(hx:b∉ex):∃sl,h1.get? b=some { ob with slots:=sl }:=by
 by_cases hb:b∈fs
 ·exact u.slot b ob q n hb hx
 ·exact⟨ob.slots,u.keep b ob q n hb hx⟩
theorem Un.kept (k:∀b u,h.get? b=some u->h'.get? b=some u):Un fs ex H H h h':=
 ⟨λb ob q _ _ _=>k b ob q,λb ob q _ _ _=>⟨ob.slots,k b ob q⟩,λ_ _ _ n _=>n,λb ob q _=>⟨ob,k b ob q⟩,λ_ _ q=>q,λ_ _ _ q=>q,λ_ ps q=>⟨#[],by rw[q];simp⟩⟩
theorem Un.refl:Un fs ex H H h h:=Un.kept λ_ _ q=>q
theorem Un.laid (k:∀b u,h.get? b=some u->h'.get? b=some u)(hp:h.objs.size<=a)(hn:H a=none):Un fs ex H (upd H a o) h h' where
 keep:=λb u q _ _ _=>k b u q
 slot:=λb u q _ _ _=>⟨u.slots,k b u q⟩
 free:=λb u q n _=>by rw[upd_ne (be (aD (az q) hp))];exact n
 there:=λb u q _=>⟨u,k b u q⟩
 tups:=λb xs q=>by rw[upd_ne (ne_of_none q hn)];exact q
 frzs:=λb u xs q=>by rw[upd_ne (ne_of_none q hn)];exact q
 tbls:=λb ps q=>⟨#[],by rw[upd_ne (ne_of_none q hn),q];simp⟩
theorem Un.write (mu:Mut (H x))(he:e=x\/H e=some (.own x))(k:∀b u,b≠e->h.get? b=some u->h'.get? b=some u)(heo:∃u,h'.get? e=some u):Un fs ex H (upd H x o) h h':=by
 have hx:∀b,H b=none->b≠x:=λb n z=>by subst z;rw[n]at mu;exact mu
 have hb:∀b,H b=none->b≠e:=λb n z=>by
  subst z;rcases he with r|r
  ·exact hx b n r
  ·rw[n]at r;cases r
 have hm:∀b u,H b=some u->¬Mut (some u)->b≠x:=λb u q nm z=>by subst z;rw[q]at mu;exact nm mu
 refine⟨λb u q n _ _=>k b u (hb b n) q,λb u q n _ _=>⟨u.slots,k b u (hb b n) q⟩,λb u q n _=>by rw[upd_ne (hx b n)];exact n,λb u q _=>?_,
  λb xs q=>by rw[upd_ne (hm b _ q λz=>z)];exact q,λb u xs q=>by rw[upd_ne (hm b _ q λz=>z)];exact q,λb ps q=>⟨#[],by rw[upd_ne (hm b _ q λz=>z),q];simp⟩⟩
 by_cases hbe:b=e
 ·subst hbe;exact heo
 ·exact⟨u,k b u hbe q⟩
end
def trk (h:Heap)(H:Hp):List Addr:=(List.range h.objs.size).filter λa=>(H a).isSome
def hidT (h:Heap)(H:Hp):Heap:=W.hideAll h (trk h H)
theorem hidT_size (h:Heap)(H:Hp):(hidT h H).objs.size=h.objs.size:=W.hideAll_size _ _
theorem hidT_get (e:h.get? b=some o)(n:H b=none):(hidT h H).get? b=some o:=
 W.hideAll_get _ e λhm=>by have q:(H b).isSome=true:=(aS.mp hm).2;rw[n]at q;simp at q
theorem of_hidT (e:(hidT h H).get? b=some o):h.get? b=some o/\H b=none:=by
 have e':h.get? b=some o:=W.of_hideAll (trk h H) e;refine⟨e',?_⟩;cases q:H b with
 |none=>rfl
 |some x=>have hm:b∈trk h H:=aS.mpr ⟨aW.mpr (az e'),by simp[q]⟩;have z:(hidT h H).get? b=none:=W.hideAll_none (trk h H) hm;rw[z]at e;cases e
def allNews (g h:Heap)(L:Addr):List (Addr×Obj):=(List.range h.objs.size).filterMap λa=>if a=L\/(g.get? a).isSome=true then none else(h.get? a).map λo=>(a,o)
theorem mem_allNews (h1:a≠L)(h2:g.get? a=none)(h3:h.get? a=some o):(a,o)∈allNews g h L:=
 cr.mpr ⟨a,aW.mpr (az h3),by simp[h1,h2,h3]⟩
theorem of_mem_allNews (hp:p∈allNews g h L):p.1≠L/\g.get? p.1=none/\h.get? p.1=some p.2:=by
 obtain⟨b,_,e⟩:=cr.mp hp;split at e
 ·cases e
 ·rename_i hn;cases q:h.get? b with
  |none=>rw[q]at e;simp at e
  |some u=>
   rw[q]at e;simp only[dM,Option.some.injEq]at e;subst e;refine⟨λz=>hn (.inl z),?_,q⟩;show g.get? b=none;cases r:g.get? b with
   |none=>rfl
   |some v=>exact(hn (.inr (by simp[r]))).elim
def rest (g h:Heap)(L d:Addr):List (Addr×Obj):=(allNews g h L).filter λp=>decide (p.1≠d)
theorem news_all:News g L h (allNews g h L):=λp hp=>let ⟨a,b,c⟩:=of_mem_allNews hp;⟨c,a,b⟩
def ZZ (mg:Mg)(h:Heap):Prop:=∃bm ob,mg "__builtins__"=some (.ref bm)/\bm≠builtinsNs/\h.get? bm=some ob/\ob.cls=.type "module"/\ob.dict=some builtinsNs/\ob.data=.plain
structure Mod (K:Fg)(mg:Mg)(base:Heap):Prop where
 kin:K.In base
 glob:base.Ns mainGlobals mg
 blt:∃mb,base.Ns builtinsNs mb/\∀x:Str,x≠"__name__"->mb x=bootBuiltins x
 nolimit:base.NoLimit
 bm:ZZ mg base
structure Cx where
 prog:Program
 w:World
 K:Fg
 mg:Str->Option Value
 base:Heap
 A:Around
 N:List Str
 s₀:Shared
 H₀:Hp
 env:Env
 outer:List Env
 stack:List Env
 ex:List Addr
 fn:Str->Bool
 calm:Bool
 pn:List (Addr×Obj)
 xe:Value->Shared->Prop
def frs (l:List Env):List Addr:=l.filterMap (·.frame)
abbrev Cx.fs (X:Cx):List Addr:=frs X.outer
def Vis (sc:Scope)(x:Str):Prop:=sc.names.lookup x=some .local\/sc.names.lookup x=some .cell\/sc.names.lookup x=some .free
def Loc (sc:Scope)(x:Str):Prop:=sc.names.lookup x=some .local\/sc.names.lookup x=some .cell
def Look (env:Env)(h:Heap)(m:Mg)(x:Str)(u:Value):Prop:=
 (env.kindOf x=some .local/\m x=some u)\/((env.kindOf x=some .cell\/env.kindOf x=some .free)/\∃c,env.cells.lookup x=some c/\h.IsCell c (some u))
def W9:Stmt->Bool
 | .Return (some (.Call _ _ [⟨_,.Lambda _ _ _ _,_⟩] _)) _=>true
 | .Return (some (.Tuple [_,.Call _ _ [⟨_,.Lambda _ _ _ _,_⟩] _] _ _)) _=>true
 |_=>false
def W3:FuncBody->Bool
 | .stmts ss=>ss.any W9
 |_=>false
def oE (K:Fg):List (Addr×Addr×Str):=K.filterMap λx=>match x.2.data with
 | .func fd=>if W3 fd.body=true then(match fd.code with
   | .ref c=>(match K.lookup c with
    |some ⟨_,_,.fields vs,_⟩=>(match (vs[11]?:Option Value) with
     |some (.ref P)=>if W.codeHdIn K c P=true then some (c,P,fd.qualname++".<locals>."++"<lambda>") else none
     |_=>none)
    |_=>none)
   |_=>none) else none
 |_=>none
structure Frf (K:Fg)(H:Hp)(fs:List Addr):Prop where
 f:∀b∈fs,H b=none
 t:∀x∈oE K,∃ps,H x.2.1=some (.tbl ⟨x.2.2,ps⟩)
structure Cx.Ok (X:Cx):Prop where
 mod:Mod X.K X.mg X.base
 kind:X.env.scope.kind=.function
 glob:X.env.globals=mainGlobals
 blt:X.env.builtins=builtinsNs
 above:X.s₀.heap.objs.size<=X.env.locals
 inj:∀x y c,X.env.cells.lookup x=some c->X.env.cells.lookup y=some c->x=y
 has:∀x,(X.env.kindOf x=some .cell\/X.env.kindOf x=some .free)->∃c,X.env.cells.lookup x=some c
 cab:∀x c,X.fn x=true->X.env.cells.lookup x=some c->X.s₀.heap.objs.size<=c
 hd:X.calm=true->X.A.handled=none
 frames:X.A.frames=some X.stack
 stk:X.stack=X.outer\/(X.stack=X.env::X.outer/\X.env.frame=some X.env.locals)
 exf:∀b∈X.ex,b≠X.env.locals/\∀x c,X.env.cells.lookup x=some c->c≠b
 bs:∀b o,X.base.get? b=some o->X.s₀.heap.get? b=some o/\X.H₀ b=none
 bsz:X.base.objs.size<=X.s₀.heap.objs.size
 noex:∀b o,X.base.get? b=some o->b∉X.ex
 exfs:∀b∈X.ex,b∉X.fs
 funs:X.s₀.heap.FunFrames X.base X.outer
 frf:Frf X.K X.H₀ X.fs
structure Inv (X:Cx)(pins:List (Addr×Obj))(σ:List (Option V))(H:Hp)(s:Shared):Prop where
 ok:X.Ok
 os:s.os=X.s₀.os
 bare:AllBare s.gens
 base:Un X.fs X.ex X.H₀ H X.s₀.heap s.heap
 loc:∃m,s.heap.Ns X.env.locals m/\∀(i:Nat) (x:Str) (v:V),X.N[i]?=some x->σ[i]?=some (some v)->Vis X.env.scope x->∃u,RelV v u/\Look X.env s.heap m x u
 cell:∀x c,X.env.cells.lookup x=some c->∃v,s.heap.IsCell c v
 free:H X.env.locals=none
 freeC:∀x c,X.env.cells.lookup x=some c->H c=none
 pin:∀p∈X.pn++pins,s.heap.get? p.1=some p.2/\H p.1=none/\p.1≠X.env.locals/\p.1∉X.fs/\∀v,p.2.data ≠ .cell v
 hok:HOk X.prog X.w H s.heap
 len:σ.length=X.N.length
section
variable {X:Cx}{pins:List (Addr×Obj)}{σ:List (Option V)}{H H':Hp}{s:Shared}{h':Heap}
theorem Cx.Ok.nofr (ok:X.Ok)(e:X.base.get? b=some o):b∉X.fs:=λhb=>by have:=(ok.funs.mem hb).1;rw[e]at this;cases this
theorem Inv.bs (I:Inv X pins σ H s):∀b o,X.base.get? b=some o->s.heap.get? b=some o/\H b=none:=λb o e=>
 ⟨I.base.keep b o (I.ok.bs b o e).1 (I.ok.bs b o e).2 (I.ok.nofr e) (I.ok.noex b o e),I.base.free b o (I.ok.bs b o e).1 (I.ok.bs b o e).2 (I.ok.noex b o e)⟩
theorem Inv.bk (I:Inv X pins σ H s):∀b o,X.base.get? b=some o->s.heap.get? b=some o:=λb o e=>(I.bs b o e).1
theorem Inv.mod (I:Inv X pins σ H s):Mod X.K X.mg X.base:=I.ok.mod
theorem Inv.kIn (I:Inv X pins σ H s):X.K.In s.heap:=I.ok.mod.kin.keeps I.bk
theorem Inv.fr (I:Inv X pins σ H s):∃m,Fr X.base X.env.locals s.heap m:=
 let ⟨m,hn,_⟩:=I.loc
 ⟨m,hn,I.bk,aC I.ok.bsz I.ok.above⟩
theorem Inv.lt (I:Inv X pins σ H s):X.env.locals<s.heap.objs.size:=let ⟨_,hn,_⟩:=I.loc;hn.lt
theorem Inv.sz (I:Inv X pins σ H s):X.s₀.heap.objs.size<=s.heap.objs.size:=aC I.ok.above (bK I.lt)
theorem Inv.nofs (I:Inv X pins σ H s){a:Addr}(h:s.heap.objs.size<=a):a∉X.fs:=λhb=>by obtain⟨_,o,ho,_⟩:=I.ok.funs.mem hb;exact absurd (aD (az ho) (aC I.sz h)) (cT _)
theorem Inv.cne (I:Inv X pins σ H s):∀x c,X.env.cells.lookup x=some c->c≠X.env.locals:=λx c e z=>by obtain⟨v,o,ho,hd⟩:=I.cell x c e;obtain⟨m,⟨o',es,ep,ho',hd',_⟩,_⟩:=I.loc;rw[z,ho']at ho;cases ho;rw[hd']at hd;cases hd
theorem Inv.funs (I:Inv X pins σ H s):s.heap.FunFrames X.base X.outer:=by
 have all:∀(l:List Env),(∀b∈frs l,b∈X.fs)->X.s₀.heap.FunFrames X.base l->s.heap.FunFrames X.base l:=by
  intro l
  induction l with
  |nil=>intro _ _;trivial
  |cons env r ih=>intro hs hl;obtain⟨hk,⟨L,o,hf,hn,ho,hd⟩,hr⟩:=hl;have hL:L∈X.fs:=hs L (by unfold frs;rw[bA,hf];exact ag);obtain⟨sl,e⟩:=I.base.slot L o ho (I.ok.frf.f L hL) hL λz=>I.ok.exfs L z hL;exact⟨hk,⟨L,_,hf,hn,e,hd⟩,ih (λb hb=>hs b (by unfold frs;rw[bA,hf];exact ad _ hb)) hr⟩
 exact all X.outer (λ_ hb=>hb) I.ok.funs
theorem Inv.stack (I:Inv X pins σ H s):s.heap.FunFrames X.base X.stack:=by
 rcases I.ok.stk with e|⟨e,hf⟩
 ·rw[e];exact I.funs
 ·rw[e];obtain⟨m,hn,_⟩:=I.loc;refine .cons (by rw[I.ok.kind];decide) hf hn ?_ I.funs;exact Heap.get?_none_of_le (aC I.ok.bsz I.ok.above)
theorem Inv.stkSub (I:Inv X pins σ H s):∀b∈frs X.stack,b∈X.env.locals::X.fs:=λb hb=>by
 rcases I.ok.stk with e|⟨e,hf⟩
 ·rw[e]at hb;exact ad _ hb
 ·rw[e]at hb;unfold frs at hb;rw[bA,hf]at hb;exact hb
theorem Inv.stkFree (I:Inv X pins σ H s):∀b∈frs X.stack,H b=none:=λb hb=>by
 rcases aB.mp (I.stkSub b hb) with e|hb
 ·rw[e];exact I.free
 ·obtain⟨_,o,ho,_⟩:=I.ok.funs.mem hb;exact I.base.free b o ho (I.ok.frf.f b hb) λz=>I.ok.exfs b z hb
theorem Inv.step {g':Array GenState}{t':Nat}{d':Drawn}{ch:List Addr}(I:Inv X pins σ H s)
  (hch:∀b∈ch,(b∈X.ex\/X.s₀.heap.objs.size<=b)/\b≠X.env.locals/\(∀x c,X.env.cells.lookup x=some c->c≠b)/\∀p∈X.pn++pins,p.1≠b)
  (keep:∀b o,b≠X.env.locals->b∉X.fs->b∉ch->s.heap.get? b=some o->H b=none->h'.get? b=some o)
  (slot:∀b o,b≠X.env.locals->b∈X.fs->b∉ch->s.heap.get? b=some o->H b=none->∃sl,h'.get? b=some { o with slots:=sl }) (free:∀b o,b∉ch->s.heap.get? b=some o->H b=none->H' b=none)
  (there:∀b o,b∉ch->s.heap.get? b=some o->∃o',h'.get? b=some o')
  (tups:∀b xs,H b=some (.tup xs)->H' b=some (.tup xs)) (frzs:∀b o u,H b=some (.frz o u)->H' b=some (.frz o u)) (tbls:∀b ps,H b=some (.tbl ps)->∃more:Array Value,H' b=some (.tbl (ps++more)))
  (ns:∀m,s.heap.Ns X.env.locals m->h'.Ns X.env.locals m) (hok:HOk X.prog X.w H' h') (hg:AllBare g') :
  Inv X pins σ H' { s with heap:=h',gens:=g',drawn:=d',toks:=t' }:=by
 have neL:∀b o,X.s₀.heap.get? b=some o->b≠X.env.locals:=λb o e=>be (aD (az e) I.ok.above);have neC:∀b o,X.s₀.heap.get? b=some o->b∉X.ex->b∉ch:=λb o e hx hb=>by
  rcases (hch b hb).1 with z|z
  ·exact hx z
  ·exact absurd (aD (az e) z) (cT _)
 have cellK:∀x c,X.env.cells.lookup x=some c->∀v,s.heap.IsCell c v->h'.IsCell c v:=λx c e v ⟨o,ho,hd⟩=>by
  have nch:c∉ch:=λz=>(hch c z).2.2.1 x c e rfl;by_cases hc:c∈X.fs
  ·obtain⟨sl,q⟩:=slot c o (I.cne x c e) hc nch ho (I.freeC x c e);exact⟨_,q,hd⟩
  ·exact⟨o,keep c o (I.cne x c e) hc nch ho (I.freeC x c e),hd⟩
 refine⟨I.ok,I.os,hg,⟨λb o e n hb hx=>?_,λb o e n hb hx=>?_,λb o e n hx=>?_,λb o e hx=>?_,λb xs e=>tups b xs (I.base.tups b xs e),λb o xs e=>frzs b o xs (I.base.frzs b o xs e),λb ps e=>?_⟩,?_,λx c e=>?_,?_,λx c e=>?_,λp hp=>?_,hok,I.len⟩
 ·exact keep b o (neL b o e) hb (neC b o e hx) (I.base.keep b o e n hb hx) (I.base.free b o e n hx)
 ·obtain⟨sl,e1⟩:=I.base.slot b o e n hb hx;obtain⟨sl',e2⟩:=slot b _ (neL b o e) hb (neC b o e hx) e1 (I.base.free b o e n hx);exact⟨sl',e2⟩
 ·obtain⟨o',e1⟩:=I.base.there b o e hx;exact free b o' (neC b o e hx) e1 (I.base.free b o e n hx)
 ·obtain⟨o',e1⟩:=I.base.there b o e hx;exact there b o' (neC b o e hx) e1
 ·obtain⟨m1,e1⟩:=I.base.tbls b ps e;obtain⟨m2,e2⟩:=tbls b _ e1;exact⟨m1++m2,by rw[e2,yX.append_assoc]⟩
 ·obtain⟨m,hn,hl⟩:=I.loc;refine⟨m,ns m hn,λi x v e1 e2 e3=>?_⟩;obtain⟨u,r,l⟩:=hl i x v e1 e2 e3;refine⟨u,r,?_⟩;rcases l with l|⟨k,c,e,z⟩
  ·exact .inl l
  ·exact .inr ⟨k,c,e,cellK x c e _ z⟩
 ·obtain⟨v,z⟩:=I.cell x c e;exact⟨v,cellK x c e v z⟩
 ·obtain⟨m,⟨o,_,_,ho,_⟩,_⟩:=I.loc;exact free _ o (λz=>(hch _ z).2.1 rfl) ho I.free
 ·obtain⟨v,o,ho,hd⟩:=I.cell x c e;exact free c o (λz=>(hch c z).2.2.1 x c e rfl) ho (I.freeC x c e)
 ·obtain⟨e,n,ne,nf,d⟩:=I.pin p hp;have nch:p.1∉ch:=λz=>(hch p.1 z).2.2.2 p hp rfl;exact⟨keep p.1 p.2 ne nf nch e n,free p.1 p.2 nch e n,ne,nf,d⟩
theorem Inv.un {t':Nat}(I:Inv X pins σ H s)(u:Un X.fs [] H H' s.heap h')(hok:HOk X.prog X.w H' h'):Inv X pins σ H' { s with heap:=h',toks:=t' }:=by
 obtain⟨m,⟨o,es,ep,ho,r⟩,_⟩:=id I.loc;obtain⟨sl,hL⟩:=u.any ho I.free (by simp);exact I.step (g':=s.gens) (d':=s.drawn) (ch:=[]) (λ_ z=>nomatch z) (λb o _ hb _ e n=>u.keep b o e n hb (by simp)) (λb o _ hb _ e n=>u.slot b o e n hb (by simp)) (λb o _ e n=>u.free b o e n (by simp)) (λb o _ e=>u.there b o e (by simp)) u.tups u.frzs u.tbls (λm' hm=>by
  obtain⟨o',es',ep',ho',r'⟩:=hm;rw[ho]at ho';cases ho';exact⟨_,es',ep',hL,r'⟩) hok I.bare
theorem Inv.call {g':Array GenState}{t':Nat}{d':Drawn}{ch:List Addr}(I:Inv X pins σ H s)(u:Un (frs X.stack) ch H H' s.heap h')(hok:HOk X.prog X.w H' h')(hg:AllBare g')
  (hch:∀b∈ch,(b∈X.ex\/X.s₀.heap.objs.size<=b)/\b≠X.env.locals/\(∀x c,X.env.cells.lookup x=some c->c≠b)/\∀p∈X.pn++pins,p.1≠b) :
  Inv X pins σ H' { s with heap:=h',gens:=g',drawn:=d',toks:=t' }:=by
 obtain⟨m,⟨o,es,ep,ho,r⟩,_⟩:=id I.loc;obtain⟨sl,hL⟩:=u.any ho I.free λz=>(hch _ z).2.1 rfl;exact I.step (ch:=ch) hch (λb o hL hb hc e n=>u.keep b o e n (λz=>(aB.mp (I.stkSub b z)).elim hL hb) hc) (λb o _ _ hc e n=>u.any e n hc) (λb o hc e n=>u.free b o e n hc) (λb o hc e=>u.there b o e hc) u.tups u.frzs u.tbls (λm' hm=>by
  obtain⟨o',es',ep',ho',r'⟩:=hm;rw[ho]at ho';cases ho';exact⟨_,es',ep',hL,r'⟩) hok hg
theorem Inv.turned {t':Nat}{it:Addr}(I:Inv X pins σ H s)(k:∀b o,b≠it->s.heap.get? b=some o->h'.get? b=some o)(hn:H it=none)(hL:it≠X.env.locals)
  (h1:it∈X.ex\/X.s₀.heap.objs.size<=it) (h2:∀x c,X.env.cells.lookup x=some c->c≠it) (h3:∀p∈X.pn++pins,p.1≠it):Inv X pins σ H { s with heap:=h',toks:=t' }:=by
 have nit:∀b u,H b=some u->b≠it:=λb u e z=>by rw[z,hn]at e;cases e
 refine I.step (g':=s.gens) (d':=s.drawn) (ch:=[it]) (λb hb=>?_) (λb o _ _ hc e _=>k b o (λz=>hc (by simp[z])) e) (λb o _ _ hc e _=>⟨o.slots,k b o (λz=>hc (by simp[z])) e⟩) (λ_ _ _ _ n=>n)
  (λb o hc e=>⟨o,k b o (λz=>hc (by simp[z])) e⟩) (λ_ _ e=>e) (λ_ _ _ e=>e) (λb ps e=>⟨#[],by rw[e];simp⟩) (λm hm=>?_) (λb u e=>?_) I.bare
 ·have e:b=it:=by simpa using hb
  subst e;exact⟨h1,hL,h2,h3⟩
 ·obtain⟨o,es,ep,ho,r⟩:=hm;exact⟨o,es,ep,k _ o (cf hL) ho,r⟩
 ·refine(I.hok b u e).stay (λc v hc q=>k c v ?_ q) (λ_ q=>q) λ_ _ q=>q;rcases hc with z|z
  ·rw[z];exact nit b u e
  ·exact nit c _ z
theorem Inv.tok (I:Inv X pins σ H s)(t:Nat):Inv X pins σ H { s with toks:=t }:=I.un (h':=s.heap) (t':=t) Un.refl I.hok
theorem Inv.kept (I:Inv X pins σ H s)(k:∀b u,s.heap.get? b=some u->h'.get? b=some u):Inv X pins σ H { s with heap:=h',toks:=t' }:=I.un (Un.kept k) (I.hok.kept k)
theorem Inv.laid {a:Addr}{o:HO}{t':Nat}(I:Inv X pins σ H s)(k:∀b u,s.heap.get? b=some u->h'.get? b=some u)(hp:s.heap.objs.size<=a)(new:ObjOk X.prog X.w (upd H a o) h' a o) :
  Inv X pins σ (upd H a o) { s with heap:=h',toks:=t' }:=I.un (Un.laid k hp (I.hok.fresh hp)) (I.hok.laid k hp new)
theorem Inv.write (I:Inv X pins σ H s)(mu:Mut (H x))(he:e=x\/H e=some (.own x))(k:∀b u,b≠e->s.heap.get? b=some u->h'.get? b=some u)(heo:∃u,h'.get? e=some u)
  (new:ObjOk X.prog X.w (upd H x o) h' x o):Inv X pins σ (upd H x o) { s with heap:=h',toks:=t' }:=I.un (Un.write mu he k heo) (I.hok.write mu he k heo new)
theorem Inv.weak (I:Inv X pins σ H s)(hl:σ'.length=σ.length)(w:∀(i:Nat) v,σ'[i]?=some (some v)->σ[i]?=some (some v)):Inv X pins σ' H s:=
 ⟨I.ok,I.os,I.bare,I.base,let ⟨m,hn,hl'⟩:=I.loc;⟨m,hn,λi x v e1 e2 e3=>hl' i x v e1 (w i v e2) e3⟩,I.cell,I.free,I.freeC,I.pin,I.hok,hl.trans I.len⟩
theorem Inv.pins_of (I:Inv X pins σ H s)(h:∀p∈pins',s.heap.get? p.1=some p.2/\H p.1=none/\p.1≠X.env.locals/\p.1∉X.fs/\∀v,p.2.data ≠ .cell v):Inv X pins' σ H s:=
 ⟨I.ok,I.os,I.bare,I.base,I.loc,I.cell,I.free,I.freeC,λp hp=>(c5.mp hp).elim (λz=>I.pin p (cE _ z)) (h p),I.hok,I.len⟩
theorem nodup_ix {N:Ls}(hN:N.Nodup){i j:Nat}{x:Str}(a:N[i]?=some x)(b:N[j]?=some x):i=j:=by obtain⟨h1,e1⟩:=aj.mp a;obtain⟨h2,e2⟩:=aj.mp b;exact(List.getElem_inj hN).mp (e1.trans e2.symm)
theorem store_ok2 {M:Model}{A:Around}{E:Value->Shared->Prop}{i:Nat}{x:Str}{v:V}{u:Value}{Q:Unit->Shared->Prop}(I:Inv X pins σ H s)(hN:X.N.Nodup)(hi:X.N[i]?=some x)(hx:Loc X.env.scope x)(r:RelV v u)
  (h:∀s',Inv X pins (σ.set i (some v)) H s' -> (∃a,Heap.SameBut a s.heap s'.heap/\(a=X.env.locals\/X.env.cells.lookup x=some a))->Q () s') (hf:X.fn x=true\/X.env.scope.names.lookup x=some .local:=by first|exact .inl rfl|exact .inr rfl|assumption):wpAny M A (storeName X.env x u) Q E s:=by
 obtain⟨m,hn,hl⟩:=id I.loc;have hcls:(X.env.scope.kind == .class || (X.env.scope.kind == .module && X.env.locals != X.env.globals))=false:=by rw[I.ok.kind];rfl
 have hiσ:i<σ.length:=by rw[I.len];exact(aj.mp hi).1
 have cne:=I.cne;have tracked:∀{a:Addr} {h':Heap},(∃o,s.heap.get? a=some o/\H a=none)->Heap.SameBut a s.heap h' -> HOk X.prog X.w H h':=λ{a h'} ha hs b ob e=>by
  obtain⟨_,_,hfree⟩:=ha;refine(I.hok b ob e).stay (λc w' hc q=>(hs.2 c ?_).trans q) (λ_ q=>q) λ_ _ q=>q;rintro rfl;rcases hc with rfl|hc
  ·rw[hfree]at e;cases e
  ·rw[hfree]at hc;cases hc
 rcases hx with hk|hk
 ·refine wpAny_storeName_local hk hn (λh' hn' hs=>?_) hcls;obtain⟨oL,_,_,hoL,_⟩:=id hn;refine h _ ⟨I.ok,I.os,I.bare,⟨λb o e n hb hx=>?_,λb o e n hb hx=>?_,I.base.free,λb o e hx=>?_,I.base.tups,I.base.frzs,I.base.tbls⟩,⟨_,hn',λj y v' e1 e2 e3=>?_⟩,λy c e=>?_,I.free,I.freeC,λp hp=>?_,tracked ⟨oL,hoL,I.free⟩ hs,by simpa using I.len⟩ ⟨_,hs,.inl rfl⟩
  ·exact(hs.2 b (be (aD (az e) I.ok.above))).trans (I.base.keep b o e n hb hx)
  ·obtain⟨sl,e1⟩:=I.base.slot b o e n hb hx;exact⟨sl,(hs.2 b (be (aD (az e) I.ok.above))).trans e1⟩
  ·obtain⟨o',e1⟩:=I.base.there b o e hx;exact⟨o',(hs.2 b (be (aD (az e) I.ok.above))).trans e1⟩
  ·by_cases hj:j=i
   ·subst hj;rw[hi]at e1;cases e1;rw[fe hiσ]at e2;cases e2;exact⟨u,r,.inl ⟨hk,by simp⟩⟩
   ·rw[d9 (cf hj)]at e2;obtain⟨u',r',q⟩:=hl j y v' e1 e2 e3;refine⟨u',r',?_⟩;rcases q with⟨k,e⟩|⟨k,c,e,z⟩
    ·refine .inl ⟨k,?_⟩;have:y≠x:=λe=>hj (nodup_ix hN e1 (e ▸ hi));simp[this,e]
    ·exact .inr ⟨k,c,e,z.sameBut hs (cne y c e)⟩
  ·obtain⟨w',z⟩:=I.cell y c e;exact⟨w',z.sameBut hs (cne y c e)⟩
  ·obtain⟨e,n,ne,nf,d⟩:=I.pin p hp;exact⟨(hs.2 p.1 ne).trans e,n,ne,nf,d⟩
 ·have hfn:X.fn x=true:=by
   rcases hf with z|z
   ·exact z
   ·rw[z]at hk;cases hk
  obtain⟨c,hc⟩:=I.ok.has x (.inl hk);obtain⟨w',z⟩:=I.cell x c hc;refine wpAny_storeName_cell I.ok.kind hk hc z (λh' hc' hs=>?_);obtain⟨oc,hoc,hocd⟩:=id z;refine h { s with heap:=h' } ⟨I.ok,I.os,I.bare,⟨λb o e n hb hx=>?_,λb o e n hb hx=>?_,I.base.free,λb o e hx=>?_,I.base.tups,I.base.frzs,I.base.tbls⟩,⟨m,hn.sameBut hs (cf (cne x c hc)),λj y v' e1 e2 e3=>?_⟩,λy c' e=>?_,I.free,I.freeC,λp hp=>?_,tracked ⟨oc,hoc,I.freeC x c hc⟩ hs,by simpa using I.len⟩ ⟨c,hs,.inr hc⟩
  ·exact(hs.2 b (be (aD (az e) (I.ok.cab x c hfn hc)))).trans (I.base.keep b o e n hb hx)
  ·obtain⟨sl,e1⟩:=I.base.slot b o e n hb hx;exact⟨sl,(hs.2 b (be (aD (az e) (I.ok.cab x c hfn hc)))).trans e1⟩
  ·obtain⟨o',e1⟩:=I.base.there b o e hx;exact⟨o',(hs.2 b (be (aD (az e) (I.ok.cab x c hfn hc)))).trans e1⟩
  ·by_cases hj:j=i
   ·subst hj;rw[hi]at e1;cases e1;rw[fe hiσ]at e2;cases e2;exact⟨u,r,.inr ⟨.inl hk,c,hc,hc'⟩⟩
   ·rw[d9 (cf hj)]at e2;obtain⟨u',r',q⟩:=hl j y v' e1 e2 e3;refine⟨u',r',?_⟩;rcases q with q|⟨k,c',e,z'⟩
    ·exact .inl q
    ·refine .inr ⟨k,c',e,z'.sameBut hs ?_⟩;rintro rfl;exact hj (nodup_ix hN e1 (I.ok.inj _ _ _ e hc ▸ hi))
  ·by_cases hcc:c'=c
   ·subst hcc;exact⟨_,hc'⟩
   ·obtain⟨w2,z2⟩:=I.cell y c' e;exact⟨w2,z2.sameBut hs hcc⟩
  ·obtain⟨e,n,ne,nf,d⟩:=I.pin p hp;refine⟨(hs.2 p.1 ?_).trans e,n,ne,nf,d⟩;intro q;rw[q,hoc]at e;have q':oc=p.2:=aF e;exact d w' (by rw[<- q'];exact hocd)
theorem store_ok (I:Inv X pins σ H s)(hN:X.N.Nodup)(hi:X.N[i]?=some x)(hx:Loc X.env.scope x)(r:RelV v u)
  (h:∀s',Inv X pins (σ.set i (some v)) H s' -> Q () s') (hf:X.fn x=true\/X.env.scope.names.lookup x=some .local:=by first|exact .inl rfl|exact .inr rfl|assumption):wpAny M A (storeName X.env x u) Q E s:=
 store_ok2 I hN hi hx r (λs' I' _=>h s' I') hf
theorem Inv.call' (I:Inv X pins σ H s)(ho:s'.os=s.os)(u:Un (frs X.stack) ch H H' s.heap s'.heap)(hok:HOk X.prog X.w H' s'.heap)(hg:AllBare s'.gens)
  (hch:∀b∈ch,(b∈X.ex\/X.s₀.heap.objs.size<=b)/\b≠X.env.locals/\(∀x c,X.env.cells.lookup x=some c->c≠b)/\∀p∈X.pn++pins,p.1≠b):Inv X pins σ H' s':=by
 obtain⟨h',g',d',t',o'⟩:=s';have e:o'=s.os:=ho;subst e;exact I.call (g':=g') (t':=t') (d':=d') u hok hg hch
end
abbrev XK:=Value->Option Addr->Hp->Prop
abbrev St:=List (Option V)
abbrev VK:=V->Hp->Prop
abbrev TE:=St->Hp->VK->Prop
abbrev TT:=St->Hp->(Bool->Hp->Prop)->Prop
abbrev TA:=St->Hp->(List V->Hp->Prop)->Prop
structure Ends where
 nx:St->Hp->Prop
 rt:VK
 bk:St->Hp->Prop:=λ_ _=>False
 ct:St->Hp->Prop:=λ_ _=>False
abbrev TS:=Ends->St->Hp->Prop
def EP (X:Cx)(pins:List (Addr×Obj))(σ:St)(Q:VK)(u:Value)(s':Shared):Prop:=∃v H',Inv X pins σ H' s'/\RelV v u/\Q v H'
def TP (X:Cx)(pins:List (Addr×Obj))(σ:St)(Q:Bool->Hp->Prop)(b:Bool)(s':Shared):Prop:=∃H',Inv X pins σ H' s'/\Q b H'
def AP (X:Cx)(pins:List (Addr×Obj))(σ:St)(Q:List V->Hp->Prop)(us:List Value)(s':Shared):Prop:=∃vs H',Inv X pins σ H' s'/\Vals vs us/\Q vs H'
def SP (X:Cx)(pins:List (Addr×Obj))(D:Ends)(f:Flow)(s':Shared):Prop:=
 match f with
 | .next=>∃σ' H',Inv X pins σ' H' s'/\D.nx σ' H'
 | .brk=>∃σ' H',Inv X pins σ' H' s'/\D.bk σ' H'
 | .cont=>∃σ' H',Inv X pins σ' H' s'/\D.ct σ' H'
 | .ret u=>∃v σ' H',Inv X pins σ' H' s'/\RelV v u/\D.rt v H'
def PE (X:Cx)(e:Expr)(t:TE):Prop:=
 ∀(pins:List (Addr×Obj)) (s:Shared) (σ:St) (H:Hp) (Q:VK),Inv X pins σ H s->t σ H Q->wpAny (model X.prog X.w) X.A (eval e X.env) (EP X pins σ Q) X.xe s
def PT (X:Cx)(e:Expr)(t:TT):Prop:=
 ∀(pins:List (Addr×Obj)) (s:Shared) (σ:St) (H:Hp) (Q:Bool->Hp->Prop),Inv X pins σ H s->t σ H Q->wpAny (model X.prog X.w) X.A (isTrue e X.env (eval e X.env)) (TP X pins σ Q) X.xe s
def PW (X:Cx)(e:Expr)(t:TT):Prop:=
 ∀(whole:Sem Value) (pins:List (Addr×Obj)) (s:Shared) (σ:St) (H:Hp) (Q:Bool->Hp->Prop),Inv X pins σ H s->t σ H Q->wpAny (model X.prog X.w) X.A (isTrue e X.env whole) (TP X pins σ Q) X.xe s
theorem PW.pt (h:PW X e t):PT X e t:=h _
def PA (X:Cx)(es:List Expr)(t:TA):Prop:=
 ∀(pos:Pos) (pins:List (Addr×Obj)) (s:Shared) (σ:St) (H:Hp) (Q:List V->Hp->Prop),Inv X pins σ H s->t σ H Q->wpAny (model X.prog X.w) X.A (spliced (backTo pos (starEach es X.env))) (AP X pins σ Q) X.xe s
def PS (X:Cx)(st:Stmt)(t:TS):Prop:=
 ∀(pins:List (Addr×Obj)) (s:Shared) (σ:St) (H:Hp) (D:Ends),Inv X pins σ H s->t D σ H->wpAny (model X.prog X.w) X.A (exec st X.env) (SP X pins D) X.xe s
def PSs (X:Cx)(st:List Stmt)(t:TS):Prop:=
 ∀(pins:List (Addr×Obj)) (s:Shared) (σ:St) (H:Hp) (D:Ends),Inv X pins σ H s->t D σ H->wpAny (model X.prog X.w) X.A (execs st X.env) (SP X pins D) X.xe s
theorem thn {α:Type}{t:Sem α}{Q Q':α->Shared->Prop}{M:Model}{A:Around}{E:Value->Shared->Prop}{s:Shared}(h:wpAny M A t Q E s)(hQ:∀a s,Q a s->Q' a s):wpAny M A t Q' E s:=fO h hQ λ_ _ x=>x
section
variable {X:Cx}
def tVar (i:Nat):TE:=λσ H Q=>∃v,σ[i]?=some (some v)/\Q v H
def tC (v:V):TE:=λ_ H Q=>Q v H
theorem pe_var (hN:X.N[i]?=some x)(hv:Vis X.env.scope x)(hd:(x == ("__debug__":Str))=false:=by decide)(hcd:(x == ("__classdict__":Str))=false:=by decide):PE X (.Name x pos) (tVar i):=by
 intro pins s σ H Q I h;obtain⟨v,e,h⟩:=h;obtain⟨m,hn,hl⟩:=I.loc;obtain⟨u,r,l⟩:=hl i x v hN e hv;have fin:EP X pins σ Q u s:=⟨v,H,I,r,h⟩;rcases l with⟨hk,hm⟩|⟨hk,c,hc,hcell⟩
 ·exact iA (eu I.ok.kind hk hn hm fin) hd
 ·rcases hk with hk|hk
  ·exact iA (wpAny_loadName_cell I.ok.kind hk hc hcell fin) hd
  ·exact iA (wpAny_loadName_free I.ok.kind hk hc hcell fin hcd) hd
theorem pe_int:PE X (.Constant (.int i) j pos) (tC (.int i)):=λ_ _ _ H _ I h=>f7 ⟨.int i,H,I.tok _,⟨_,rfl⟩,h⟩
theorem pe_bl:PE X (.Constant (.bool b) j pos) (tC (.bl b)):=λ_ _ _ H _ I h=>Constant_bool ⟨.bl b,H,I,rfl,h⟩
theorem pe_non:PE X (.Constant .none j pos) (tC .non):=λ_ _ _ H _ I h=>Constant_none ⟨.non,H,I,rfl,h⟩
theorem pe_str:PE X (.Constant (.str x) j pos) (tC (.str x)):=λ_ _ _ H _ I h=>Calls.Constant_str ⟨.str x,H,I.tok _,⟨_,rfl⟩,h⟩
def Gl (X:Cx)(x:Str):Prop:=X.env.kindOf x=some .globalImplicit
theorem ld_glob (I:Inv X pins σ H s)(hg:Gl X x)(hm:X.mg x=some u)(h:Q u s)
  (hd:(x == ("__debug__":Str))=false:=by decide):wpAny (model X.prog X.w) X.A (eval (.Name x pos) X.env) Q E s:=
 d6 I.ok.kind hg (Calls.loadGlobal_global (by rw[I.ok.glob];exact I.mod.glob.keeps I.bk) hm h) hd
theorem ld_blt (I:Inv X pins σ H s)(hg:Gl X x)(hm:X.mg x=none)(hv:bootBuiltins x=some u)(h:Q u s)
  (hn:x≠"__name__":=by decide) (hd:(x == ("__debug__":Str))=false:=by decide):wpAny (model X.prog X.w) X.A (eval (.Name x pos) X.env) Q E s:=by
 obtain⟨mb,h1,h2⟩:=I.mod.blt;exact d6 I.ok.kind hg (Calls.loadGlobal_builtin (by rw[I.ok.glob];exact I.mod.glob.keeps I.bk) hm (by rw[I.ok.blt];exact h1.keeps I.bk) ((h2 x hn).trans hv) h) hd
theorem pe_glob (hg:Gl X x)(hm:X.mg x=some u)(r:RelV v u)(hd:(x == ("__debug__":Str))=false:=by decide):PE X (.Name x pos) (tC v):=
 λ_ _ _ H _ I h=>ld_glob I hg hm ⟨v,H,I,r,h⟩ hd
theorem pe_bltn (hg:Gl X x)(hm:X.mg x=none)(hv:bootBuiltins x=some u)(r:RelV v u)(hn:x≠"__name__":=by decide)(hd:(x == ("__debug__":Str))=false:=by decide):PE X (.Name x pos) (tC v):=
 λ_ _ _ H _ I h=>ld_blt I hg hm hv ⟨v,H,I,r,h⟩ hn hd
variable {a b:Expr}{ta tb:TE}{pos:Pos}
def tB (t:TE):TT:=λσ H Q=>t σ H λx H1=>∃c,x=.bl c/\Q c H1
theorem pt_val (h:PE X e t)(he:∀whole,isTrue e X.env whole=(do let v <- whole;standAt e.pos;holding [v] (truthy v)):=by intro _;rfl):PT X e (tB t):=by intro pins s σ H Q I hw;refine isTrue_plain (thn (h pins s σ H _ I hw) λv s1 ⟨x,H1,I1,r1,q1⟩=>?_) (he _);obtain⟨d,rfl,q⟩:=q1;cases r1;exact dW ⟨H1,I1,q⟩
variable {tA tB':TT}{rest:List Expr}
def tAnd (t u:TT):TT:=λσ H Q=>t σ H λc H1=>if c=true then u σ H1 Q else Q false H1
def tOr (t u:TT):TT:=λσ H Q=>t σ H λc H1=>if c=true then Q true H1 else u σ H1 Q
def tNot (t:TT):TT:=λσ H Q=>t σ H λc H1=>Q (!c) H1
theorem pw_and1 (ha:PT X a tA):PW X (.BoolOp .And [a] pos) tA:=by
 intro wh pins s σ H Q I h;refine isTrue_and (thn (ha pins s σ H Q I h) λc s1 e=>?_);cases c with
 |true=>exact isTrue_and_nil e
 |false=>exact e
theorem pw_or1 (ha:PT X a tA):PW X (.BoolOp .Or [a] pos) tA:=by
 intro wh pins s σ H Q I h;refine isTrue_or (thn (ha pins s σ H Q I h) λc s1 e=>?_);cases c with
 |false=>exact isTrue_or_nil e
 |true=>exact e
theorem pw_and (ha:PT X a tA)(hb:PW X (.BoolOp .And (b::rest) pos) tB'):PW X (.BoolOp .And (a::b::rest) pos) (tAnd tA tB'):=by
 intro wh pins s σ H Q I h;refine isTrue_and (thn (ha pins s σ H _ I h) λc s1 ⟨H1,I1,q1⟩=>?_);cases c with
 |true=>exact hb wh pins s1 σ H1 Q I1 q1
 |false=>exact⟨H1,I1,q1⟩
theorem pw_or (ha:PT X a tA)(hb:PW X (.BoolOp .Or (b::rest) pos) tB'):PW X (.BoolOp .Or (a::b::rest) pos) (tOr tA tB'):=by
 intro wh pins s σ H Q I h;refine isTrue_or (thn (ha pins s σ H _ I h) λc s1 ⟨H1,I1,q1⟩=>?_);cases c with
 |true=>exact⟨H1,I1,q1⟩
 |false=>exact hb wh pins s1 σ H1 Q I1 q1
theorem pt_not (ha:PT X a tA):PT X (.UnaryOp .Not a pos) (tNot tA):=by intro pins s σ H Q I h;exact isTrue_not (ha pins s σ H (λc H1=>Q (!c) H1) I h)
def tAndV (ta tb:TE):TE:=λσ H Q=>ta σ H λx H1=>∃c,x=.bl c/\if c=true then tb σ H1 Q else Q (.bl false) H1
def tNotV (ta:TE):TE:=λσ H Q=>ta σ H λx H1=>∃c,x=.bl c/\Q (.bl (!c)) H1
theorem pe_one (h:PE X a t):PE X (.BoolOp op [a] pos) t:=λpins s σ H Q I hw=>BoolOp_one (h pins s σ H Q I hw)
theorem pe_and (ha:PE X a ta)(hb:PE X (.BoolOp .And (b::rest) pos) tb):PE X (.BoolOp .And (a::b::rest) pos) (tAndV ta tb):=by
 intro pins s σ H Q I h;refine BoolOp_and (thn (ha pins s σ H _ I h) λv s1 ⟨x,H1,I1,r1,q1⟩=>?_);obtain⟨c,rfl,q1⟩:=q1;cases r1;refine dW ?_;cases c with
 |true=>exact hb pins s1 σ H1 Q I1 q1
 |false=>exact⟨.bl false,H1,I1,rfl,q1⟩
theorem pe_not (ha:PE X a ta):PE X (.UnaryOp .Not a pos) (tNotV ta):=by intro pins s σ H Q I h;refine UnaryOp_ (thn (ha pins s σ H _ I h) λv s1 ⟨x,H1,I1,r1,q1⟩=>?_);obtain⟨c,rfl,q1⟩:=q1;cases r1;exact not_of (dW ⟨.bl (!c),H1,I1,rfl,q1⟩)
def tIf (t:TT)(ta tb:TE):TE:=λσ H Q=>t σ H λc H1=>if c=true then ta σ H1 Q else tb σ H1 Q
theorem pe_ifExp (hc:PT X c tA)(ha:PE X a ta)(hb:PE X b tb):PE X (.IfExp c a b pos) (tIf tA ta tb):=by
 intro pins s σ H Q I h;refine wpAny_IfExp (thn (hc pins s σ H _ I h) λd s1 ⟨H1,I1,q1⟩=>?_);cases d with
 |true=>exact ha pins s1 σ H1 Q I1 q1
 |false=>exact hb pins s1 σ H1 Q I1 q1
end
def SqL (K:Fg)(H:Hp)(a:Addr)(xs:List V):Prop:=
 Rd H a (.lst xs) \/
  ∃(o:Obj) (its:Array Value) (n:Nat),K.lookup a=some o/\o.cls=.type "list"/\o.dict=none/\o.data=.seq its n/\its.size<=sizeLine/\Vals xs its.toList
def SqT (K:Fg)(H:Hp)(a:Addr)(xs:List V):Prop:=
 Rd H a (.tup xs) \/
  ∃(o:Obj) (its:Array Value) (n:Nat),K.lookup a=some o/\o.cls=.type "tuple"/\o.data=.seq its n/\its.size<=sizeLine/\Vals xs its.toList
def absV:Value->Option V
 | .none=>some .non
 | .bool b=>some (.bl b)
 | .int i _=>some (.int i)
 | .str x _=>some (.str x)
 | .bytes b _=>some (.byt b)
 | .float b _=>some (.flt b)
 | .ref a=>some (.ref a)
 | .type n=>some (.ty n)
 |_=>none
theorem RelV.abs (r:RelV x u):absV u=some x:=by
 cases x with
 |non=>cases r;rfl
 |bl _=>cases r;rfl
 |int _=>obtain⟨t,rfl⟩:=r;rfl
 |str _=>obtain⟨t,rfl⟩:=r;rfl
 |byt _=>obtain⟨t,rfl⟩:=r;rfl
 |flt _=>obtain⟨t,rfl⟩:=r;rfl
 |ref _=>cases r;rfl
 |ty _=>cases r;rfl
theorem RelV.inj (r:RelV x u)(q:RelV y u):x=y:=aF (r.abs.symm.trans q.abs)
theorem Vals.inj:∀{xs ys:List V} {us:Lv},Vals xs us->Vals ys us->xs=ys
 |_,_,_,.nil,.nil=>rfl
 |_,_,_,.cons r t,.cons r' t'=>by rw[r.inj r',Vals.inj t t']
section
variable {X:Cx}{pins:List (Addr×Obj)}{σ:St}{H:Hp}{s:Shared}{a:Addr}{xs ys:List V}
theorem SqL.of {K:Fg}(h:H a=some (.lst xs)):SqL K H a xs:=.inl (.inl h)
theorem SqT.of {K:Fg}(h:H a=some (.tup xs)):SqT K H a xs:=.inl (.inl h)
theorem Inv.list (I:Inv X pins σ H s)(h:SqL X.K H a xs):∃its:List Value,Vals xs its/\PlainL s.heap a its.toArray/\xs.length<=sizeLine:=by
 rcases h with h|⟨o,its,n,hk,hc,hd,hs,hz,r⟩
 ·obtain⟨z,its,n,r,e⟩:=h.ok I.hok;exact⟨its,r,⟨_,n,e,rfl,rfl,rfl⟩,z⟩
 ·refine⟨its.toList,r,⟨o,n,I.kIn a o hk,hc,hd,by simpa using hs⟩,?_⟩;have e:=r.length;simp only[c6]at e;lia
theorem Inv.tuple (I:Inv X pins σ H s)(h:SqT X.K H a xs):∃its:List Value,Vals xs its/\IsTup s.heap a its.toArray/\xs.length<=sizeLine:=by
 rcases h with h|⟨o,its,n,hk,hc,hs,hz,r⟩
 ·obtain⟨z,its,r,p⟩:=h.ok I.hok;exact⟨its,r,p,z⟩
 ·refine⟨its.toList,r,⟨o,I.kIn a o hk,hc,n,by simpa using hs⟩,?_⟩;have e:=r.length;simp only[c6]at e;lia
theorem Inv.list_inj (I:Inv X pins σ H s)(h:SqL X.K H a xs)(h':SqL X.K H a ys):xs=ys:=by
 obtain⟨its,r,⟨o,n,e,_,_,d⟩,_⟩:=I.list h;obtain⟨its',r',⟨o',n',e',_,_,d'⟩,_⟩:=I.list h';rw[e]at e';cases e';rw[d]at d';injection d' with d1 _;have:its=its':=by simpa using congrArg Array.toList d1
 subst this;exact r.inj r'
end
abbrev Cx.wish (X:Cx)(E:Value->Shared->Prop):Cx:={ X with xe:=E }
abbrev Cx.nox (X:Cx):Cx:=X.wish λ_ _=>False
theorem Cx.Ok.wish {X:Cx}(ok:X.Ok)(E:Value->Shared->Prop):(X.wish E).Ok:=
 ⟨ok.mod,ok.kind,ok.glob,ok.blt,ok.above,ok.inj,ok.has,ok.cab,ok.hd,ok.frames,ok.stk,ok.exf,ok.bs,ok.bsz,ok.noex,ok.exfs,ok.funs,ok.frf⟩
theorem Cx.Ok.unwish {X:Cx}{E:Value->Shared->Prop}(ok:(X.wish E).Ok):X.Ok:=
 ⟨ok.mod,ok.kind,ok.glob,ok.blt,ok.above,ok.inj,ok.has,ok.cab,ok.hd,ok.frames,ok.stk,ok.exf,ok.bs,ok.bsz,ok.noex,ok.exfs,ok.funs,ok.frf⟩
section
variable {X:Cx}{pins:List (Addr×Obj)}{σ:St}{H:Hp}{s:Shared}{E:Value->Shared->Prop}
theorem Inv.wish (I:Inv X pins σ H s)(E:Value->Shared->Prop):Inv (X.wish E) pins σ H s:=⟨I.ok.wish E,I.os,I.bare,I.base,I.loc,I.cell,I.free,I.freeC,I.pin,I.hok,I.len⟩
theorem Inv.unwish (I:Inv (X.wish E) pins σ H s):Inv X pins σ H s:=⟨I.ok.unwish,I.os,I.bare,I.base,I.loc,I.cell,I.free,I.freeC,I.pin,I.hok,I.len⟩
theorem SP.unwish (h:SP (X.wish E) pins D f s'):SP X pins D f s':=by
 cases f with
 |next=>obtain⟨σ',H',I,q⟩:=h;exact⟨σ',H',I.unwish,q⟩
 |brk=>obtain⟨σ',H',I,q⟩:=h;exact⟨σ',H',I.unwish,q⟩
 |cont=>obtain⟨σ',H',I,q⟩:=h;exact⟨σ',H',I.unwish,q⟩
 |ret u=>obtain⟨v,σ',H',I,r,q⟩:=h;exact⟨v,σ',H',I.unwish,r,q⟩
theorem PSs.nox {st:List Stmt}{t:TS}(h:PSs X.nox st t):PSs X st t:=λpins s σ H D I hw=>
 fO (h pins s σ H D (I.wish _) hw) (λ_ _ q=>q.unwish) λ_ _ z=>False.elim z
end
section
variable {X:Cx}{st:Stmt}{rest:List Stmt}{t u:TS}{e:Expr}{te:TE}{pos:Pos}
def tNext:TS:=λD σ H=>D.nx σ H
def tSeq (t u:TS):TS:=λD σ H=>t { D with nx:=u D } σ H
theorem pss_nil:PSs X [] tNext:=λ_ _ σ H _ I h=>fP ⟨σ,H,I,h⟩
theorem pss_cons (h1:PS X st t)(h2:PSs X rest u):PSs X (st::rest) (tSeq t u):=by
 intro pins s σ H D I h;refine wpAny_execs_cons (thn (h1 pins s σ H { D with nx:=u D } I h) λf s1 q=>?_);cases f with
 |next=>obtain⟨σ',H',I',q⟩:=q;exact h2 pins s1 σ' H' D I' q
 |ret v=>exact q
 |brk=>exact q
 |cont=>exact q
theorem pss_one (h1:PS X st t):PSs X [st] t:=by
 intro pins s σ H D I h;refine wpAny_execs_cons (thn (h1 pins s σ H D I h) λf s1 q=>?_);cases f with
 |next=>exact fP q
 |ret v=>exact q
 |brk=>exact q
 |cont=>exact q
theorem Inv.quiet (I:Inv X pins σ H s):interactive X.env=false:=by simp[interactive,I.ok.kind]
def tDrop (te:TE):TS:=λD σ H=>te σ H λ_ H1=>D.nx σ H1
theorem ps_expr (he:PE X e te)(hs:swapsWith e none pos.line X.env=pure false:=by rfl):PS X (.Expr e pos) (tDrop te):=by intro pins s σ H D I h;exact wpAny_Expr_any (thn (he pins s σ H _ I h) λv s1 ⟨x,H1,I1,r1,q1⟩=>⟨σ,H1,I1,q1⟩) I.quiet hs
def tRet (te:TE):TS:=λD σ H=>te σ H D.rt
theorem ps_ret (he:PE X e te):PS X (.Return (some e) pos) (tRet te):=by intro pins s σ H D I h;exact wpAny_Return_some (thn (he pins s σ H _ I h) λv s1 ⟨x,H1,I1,r1,q1⟩=>⟨x,σ,H1,I1,r1,q1⟩)
def tIfS (c:TT)(t u:TS):TS:=λD σ H=>c σ H λb H1=>if b=true then t D σ H1 else u D σ H1
theorem ps_if (hc:PT X c tc)(ha:PSs X a t)(hb:PSs X b u):PS X (.If c a b pos) (tIfS tc t u):=by
 intro pins s σ H D I h;refine wpAny_If (thn (hc pins s σ H _ I h) λd s1 ⟨H1,I1,q1⟩=>?_);cases d with
 |true=>exact ha pins s1 σ H1 D I1 q1
 |false=>exact hb pins s1 σ H1 D I1 q1
def tNever:TS:=λ_ _ _=>False
theorem ps_never:PS X st tNever:=λ_ _ _ _ _ _ h=>h.elim
end
abbrev TG:=V->St->Hp->(St->Hp->Prop)->Prop
abbrev TGs:=List V->St->Hp->(St->Hp->Prop)->Prop
def PG (X:Cx)(target:Expr)(t:TG):Prop:=
 ∀(pins:List (Addr×Obj)) (s:Shared) (σ:St) (H:Hp) (v:V) (u:Value) (Q:St->Hp->Prop),Inv X pins σ H s->RelV v u->t v σ H Q ->
  wpAny (model X.prog X.w) X.A (assign target X.env u) (λ_ s'=>∃σ' H',Inv X pins σ' H' s'/\Q σ' H') X.xe s
def PGs (X:Cx)(ts:List Expr)(t:TGs):Prop:=
 ∀(pins:List (Addr×Obj)) (s:Shared) (σ:St) (H:Hp) (vs:List V) (us:List Value) (Q:St->Hp->Prop),Inv X pins σ H s->Vals vs us->t vs σ H Q ->
  wpAny (model X.prog X.w) X.A (assignInOrder ((assignEach ts X.env).map (·.2)) us) (λ_ s'=>∃σ' H',Inv X pins σ' H' s'/\Q σ' H') X.xe s
abbrev TSet:=V->V->V->Hp->(Hp->Prop)->Prop
def PSet (X:Cx)(t:TSet):Prop:=
 ∀(pins:List (Addr×Obj)) (s:Shared) (σ:St) (H:Hp) (o i v:V) (ov iv u:Value) (Q:Hp->Prop),Inv X pins σ H s->RelV o ov->RelV i iv->RelV v u->t o i v H Q ->
  wpAny (model X.prog X.w) X.A (setItem ov iv u) (λ_ s'=>∃H',Inv X pins σ H' s'/\Q H') X.xe s
abbrev TIp:=V->V->Hp->VK->Prop
def PIp (X:Cx)(op:Operator)(t:TIp):Prop:=
 ∀(pins:List (Addr×Obj)) (s:Shared) (σ:St) (H:Hp) (x y:V) (v u:Value) (Q:VK),Inv X pins σ H s->RelV x v->RelV y u->t x y H Q ->
  wpAny (model X.prog X.w) X.A (inplaceOp op v u) (EP X pins σ Q) X.xe s
section
variable {X:Cx}{pos:Pos}
def gName (i:Nat):TG:=λv σ H Q=>Q (σ.set i (some v)) H
theorem pg_name (hN:X.N.Nodup)(hi:X.N[i]?=some x)(hx:Loc X.env.scope x)(hf:X.fn x=true\/X.env.scope.names.lookup x=some .local:=by first|exact .inl rfl|exact .inr rfl|assumption):PG X (.Name x pos) (gName i):=by intro pins s σ H v u Q I r h;exact wpAny_assign_Name (store_ok I hN hi hx r (λs' I'=>⟨_,H,I',h⟩) hf)
def gNil:TGs:=λvs σ H Q=>vs=[]/\Q σ H
def gCons (t:TG)(u:TGs):TGs:=λvs σ H Q=>∃v r,vs=v::r/\t v σ H λσ' H'=>u r σ' H' Q
theorem pgs_nil:PGs X [] gNil:=by intro pins s σ H vs us Q I r h;obtain⟨e,h⟩:=h;subst e;cases r;exact assignInOrder_nil ⟨σ,H,I,h⟩
theorem pgs_cons (h1:PG X e t)(h2:PGs X es u)
  (hs:(assignEach (e::es) X.env).map (·.2)=assign e X.env::(assignEach es X.env).map (·.2):=by rfl):PGs X (e::es) (gCons t u):=by
 intro pins s σ H vs us Q I r h;obtain⟨v,vr,e1,h⟩:=h;subst e1;cases r with
 |cons r rr=>rw[hs];refine assignInOrder_cons (thn (h1 pins s σ H _ _ _ I r h) λ_ s1 ⟨σ1,H1,I1,q1⟩=>?_);exact h2 pins s1 σ1 H1 _ _ Q I1 rr q1
def gTup (K:Fg)(n:Nat)(t:TGs):TG:=λv σ H Q=>∃a xs,v=.ref a/\SqT K H a xs/\xs.length=n/\t xs σ H Q
theorem pg_tup (hc:X.calm=true)(h:PGs X es t)
  (hn:(assignEach es X.env).length=n:=by rfl) (hst:(assignEach es X.env).findIdx? (·.1)=none:=by rfl):PG X (.Tuple es k pos) (gTup X.K n t):=by
 intro pins s σ H v u Q I r hw;obtain⟨a,xs,e1,hq,hl,hw⟩:=hw;subst e1;cases r;obtain⟨its,rv,ht,hz⟩:=I.tuple hq;refine assign_Tuple_tuple (I.ok.hd hc) ht (by simp[hn,<- hl,rv.length]) hst λh' hx=>?_;have I1:Inv X pins σ H { s with heap:=h' }:=I.kept (t':=s.toks) λb o e=>hx b o (be (az e)) e;exact h pins _ σ H xs _ Q I1 (by simpa using rv) hw
def gSub (to ti:TE)(t:TSet):TG:=λv σ H Q=>to σ H λo H1=>ti σ H1 λi H2=>t o i v H2 λH3=>Q σ H3
theorem pg_sub (ho:PE X o to)(hi:PE X i ti)(hs:PSet X t)
  (ha:∀v,assign (.Subscript o i pos) X.env v=(do
   let ov <- holding [v] (eval o X.env)
   let iv <- holding [v,ov] (eval i X.env)
   standAt pos
   holding [v,ov,iv] (setItem ov iv v)
   release [v,ov,iv] []):=by intro _;rfl):PG X (.Subscript o i pos) (gSub to ti t):=by
 intro pins s σ H v u Q I r h;rw[ha];refine aH (fN (thn (ho pins s σ H _ I h) λov s1 ⟨x,H1,I1,r1,q1⟩=>?_));refine aH (fN (thn (hi pins s1 σ H1 _ I1 q1) λiv s2 ⟨y,H2,I2,r2,q2⟩=>?_));refine aH (wpAny_standAt (aH (fN (thn (hs pins s2 σ H2 x y v ov iv u _ I2 r1 r2 r q2) λ_ s3 ⟨H3,I3,q3⟩=>?_))));exact wpAny_release ⟨σ,H3,I3,q3⟩
def tAsg (te:TE)(g:TG):TS:=λD σ H=>te σ H λx H1=>g x σ H1 D.nx
theorem ps_asg (he:PE X e te)(hg:PG X tg g)(hs:swapsWithSole [tg] e pos.line X.env=pure false:=by rfl)(hw:swappedStores [tg] e X.env=pure none:=by rfl)
  (h1:(assignEach [tg] X.env).map (·.2)=[assign tg X.env]:=by rfl):PS X (.Assign [tg] e pos) (tAsg te g):=by
 intro pins s σ H D I h;refine wpAny_Assign_stores (thn (he pins s σ H _ I h) λv s1 ⟨x,H1,I1,r1,q1⟩=>?_) hs hw;rw[h1];exact thn (hg pins s1 σ H1 x v _ I1 r1 q1) λ_ s2 q=>q
theorem ps_set (hN:X.N.Nodup)(hi:X.N[i]?=some x)(hx:Loc X.env.scope x)(he:PE X e te)(hs:swapsWith e (some (.Name x pos')) pos.line X.env=pure false:=by rfl)(hf:X.fn x=true\/X.env.scope.names.lookup x=some .local:=by first|exact .inl rfl|exact .inr rfl|assumption) :
  PS X (.Assign [.Name x pos'] e pos) (tAsg te (gName i)):=by
 intro pins s σ H D I h;refine wpAny_Assign_Name (thn (he pins s σ H _ I h) λv s1 ⟨y,H1,I1,r1,q1⟩=>?_) hs;exact store_ok I1 hN hi hx r1 (λs2 I2=>⟨_,H1,I2,q1⟩) hf
def tAug (i:Nat)(te:TE)(ti:TIp):TS:=λD σ H=>∃x,σ[i]?=some (some x)/\te σ H λy H1=>ti x y H1 λz H2=>D.nx (σ.set i (some z)) H2
theorem ps_aug (hN:X.N.Nodup)(hi:X.N[i]?=some x)(hx:Loc X.env.scope x)(he:PE X e te)(ho:PIp X op ti)(hf:X.fn x=true\/X.env.scope.names.lookup x=some .local:=by first|exact .inl rfl|exact .inr rfl|assumption) :
  PS X (.AugAssign (.Name x pos') op e pos) (tAug i te ti):=by
 intro pins s σ H D I h;obtain⟨v,e1,h⟩:=h;obtain⟨m,hn,hl⟩:=I.loc;have vis:Vis X.env.scope x:=by rcases hx with k|k;exact .inl k;exact .inr (.inl k)
 obtain⟨u,r,l⟩:=hl i x v hi e1 vis;refine wpAny_AugAssign_Name ?_;have go:wpAny (model X.prog X.w) X.A (eval e X.env) (λw s₂=>wpAny (model X.prog X.w) X.A (inplaceOp op u w) (λr s₃=>wpAny (model X.prog X.w) X.A (storeName X.env x r) (λ_=>SP X pins D .next) X.xe s₃) X.xe s₂) X.xe s:=by refine thn (he pins s σ H _ I h) λw s1 ⟨y,H1,I1,r1,q1⟩=>?_;refine thn (ho pins s1 σ H1 v y u w _ I1 r r1 q1) λz s2 ⟨zv,H2,I2,r2,q2⟩=>?_;exact store_ok I2 hN hi hx r2 (λs3 I3=>⟨_,H2,I3,q2⟩) hf
 rcases l with⟨hk,hm⟩|⟨hk,c,hc,hcell⟩
 ·exact eu I.ok.kind hk hn hm go
 ·rcases hk with hk|hk
  ·exact wpAny_loadName_cell I.ok.kind hk hc hcell go
  ·rcases hx with k|k
   ·have:X.env.scope.names.lookup x=some .free:=hk;rw[k]at this;cases this
   ·have:X.env.scope.names.lookup x=some .free:=hk;rw[k]at this;cases this
def tAugS (to ti te:TE)(tget:V->V->Hp->VK->Prop)(tip:TIp)(tset:TSet):TS:=λD σ H=>to σ H λo H1=>ti σ H1 λi H2=>tget o i H2 λx H3=>te σ H3 λy H4=>tip x y H4 λz H5=>tset o i z H5 λH6=>D.nx σ H6
def PGet (X:Cx)(t:V->V->Hp->VK->Prop):Prop:=
 ∀(pins:List (Addr×Obj)) (s:Shared) (σ:St) (H:Hp) (o i:V) (ov iv:Value) (Q:VK),Inv X pins σ H s->RelV o ov->RelV i iv->t o i H Q ->
  wpAny (model X.prog X.w) X.A (getItem ov iv) (EP X pins σ Q) X.xe s
theorem ps_augS (ho:PE X o to)(hi:PE X i ti)(hg:PGet X tget)(he:PE X e te)(hp:PIp X op tip)(hs:PSet X tset)
  (ha:∀ov iv new,augStore i ov iv new=(do holding [new,ov,iv] (setItem ov iv new);release [new,ov,iv] [];pure .next):=by intros;rfl):PS X (.AugAssign (.Subscript o i tpos) op e pos) (tAugS to ti te tget tip tset):=by
 intro pins s σ H D I h;refine wpAny_AugAssign_SubscriptAny (thn (ho pins s σ H _ I h) λov s1 ⟨x1,H1,I1,r1,q1⟩=>?_) ha;refine thn (hi pins s1 σ H1 _ I1 q1) λiv s2 ⟨x2,H2,I2,r2,q2⟩=>?_;refine thn (hg pins s2 σ H2 x1 x2 ov iv _ I2 r1 r2 q2) λold s3 ⟨x3,H3,I3,r3,q3⟩=>?_;refine thn (he pins s3 σ H3 _ I3 q3) λv s4 ⟨x4,H4,I4,r4,q4⟩=>?_;refine thn (hp pins s4 σ H4 x3 x4 old v _ I4 r3 r4 q4) λnew s5 ⟨x5,H5,I5,r5,q5⟩=>?_;exact thn (hs pins s5 σ H5 x1 x2 x5 ov iv new _ I5 r1 r2 r5 q5) λ_ s6 ⟨H6,I6,q6⟩=>⟨σ,H6,I6,q6⟩
end
section
variable {X:Cx}{pos:Pos}
def tWhile (c:TT)(tb:TS):TS:=λD σ H=>∃W:Nat->St->Hp->Prop,(∃m,W m σ H)/\∀m σ H,W m σ H ->
 c σ H λb H1=>if b=true then ∃N:St->Hp->Prop,(∀σ' H',N σ' H' -> ∃m',m'<m/\W m' σ' H')/\tb { D with nx:=N,ct:=N,bk:=D.nx } σ H1 else D.nx σ H1
theorem ps_while (hp:PassesOwn (model X.prog X.w) X.A X.env X.xe)(hc:PT X c tc)(hb:PSs X body tb):PS X (.While c body [] pos) (tWhile tc tb):=by
 intro pins s σ H D I h;obtain⟨W,⟨m0,w0⟩,turn⟩:=h;refine wpAny_While (codeAny_whileLoop (λn s'=>∃σ' H',Inv X pins σ' H' s'/\W n σ' H') ?_ m0 ⟨σ,H,I,w0⟩);rintro n s1 ⟨σ1,H1,I1,w1⟩;refine dm hp (thn (hc pins s1 σ1 H1 _ I1 (turn n σ1 H1 w1)) λb s2 ⟨H2,I2,q2⟩=>?_);cases b with
 |true=>
  obtain⟨N,hN,q2⟩:=q2;rw[af rfl];refine dm hp (thn (hb pins s2 σ1 H2 _ I2 q2) λf s3 q3=>?_);cases f with
  |next=>obtain⟨σ3,H3,I3,n3⟩:=q3;obtain⟨m',hm,w3⟩:=hN σ3 H3 n3;exact⟨m',hm,σ3,H3,I3,w3⟩
  |cont=>obtain⟨σ3,H3,I3,n3⟩:=q3;obtain⟨m',hm,w3⟩:=hN σ3 H3 n3;exact⟨m',hm,σ3,H3,I3,w3⟩
  |brk=>exact q3
  |ret v=>exact q3
 |false=>rw[ae a7];exact fP ⟨σ1,H2,I2,q2⟩
end
structure It where
 go:Nat->Hp->Prop
 yld:Nat->Hp->V->Hp->Prop
 stop:Nat->Hp->Prop
def FpOk (X:Cx)(pins:List (Addr×Obj))(H:Hp)(b:Addr):Prop:=
 H b=none/\b≠X.env.locals/\b∉X.fs/\(b∈X.ex\/X.s₀.heap.objs.size<=b)/\(∀x c,X.env.cells.lookup x=some c->c≠b)/\∀p∈X.pn++pins,p.1≠b
theorem Inv.fpOk {X:Cx}{pins:List (Addr×Obj)}{σ:St}{H H':Hp}{s:Shared}{b:Addr}(I:Inv X pins σ H s)(hb:s.heap.objs.size<=b)(hn:H' b=none):FpOk X pins H' b:=by
 refine⟨hn,dN (aD I.lt hb),I.nofs hb,.inr (aC I.sz hb),λx c e z=>?_,λp hp z=>?_⟩
 ·obtain⟨v,q⟩:=I.cell x c e;exact absurd (aD q.lt (by rw[z];exact hb)) (cT _)
 ·exact absurd (aD (az (I.pin p hp).1) (by rw[z];exact hb)) (cT _)
structure Turn (P:Program)(w:World)(K:Fg)(tg:Expr)(J:It)(fp:List Addr)(it:Addr)(tn:Nat->Heap->Prop):Prop where
 mem:it∈fp
 obj:∀i h,tn i h->∀b∈fp,∃o,h.get? b=some o/\∀v,o.data ≠ .cell v
 keep:∀i h h',tn i h->(∀b∈fp,∀o,h.get? b=some o->h'.get? b=some o)->tn i h'
 item:∀(X:Cx),X.prog=P->X.w=w->X.K=K->X.calm=true->∀(i:Nat) (pins:List (Addr×Obj)) (s:Shared) (σ:St) (H:Hp) (E:Value->Shared->Prop),Inv X pins σ H s->(∀b∈fp,FpOk X pins H b)->tn i s.heap->J.go i H ->
  wpAny (model P w) X.A (pyNext (.ref it)) (λr s1=>∃u,r=some u /\
   wpAny (model P w) X.A (letOwnedTupleGo tg (.ref it) u) (λ_ s2=>∃x H',Inv X pins σ H' s2/\RelV x u/\J.yld i H x H'/\tn (i+1) s2.heap/\∀b∈fp,H' b=none) E s1) E s
 done:∀(X:Cx),X.prog=P->X.w=w->X.K=K->X.calm=true->∀(i:Nat) (pins:List (Addr×Obj)) (s:Shared) (σ:St) (H:Hp) (E:Value->Shared->Prop),Inv X pins σ H s->(∀b∈fp,FpOk X pins H b)->tn i s.heap->J.stop i H ->
  wpAny (model P w) X.A (pyNext (.ref it)) (λr s1=>r=none/\Inv X pins σ H s1) E s
 self:∀(A:Around) (i:Nat) (s:Shared) (Q:Value->Shared->Prop) (E:Value->Shared->Prop),tn i s.heap->Q (.ref it) s->wpAny (model P w) A (pyIter (.ref it)) Q E s
abbrev TI:=St->Hp->(It->Hp->Prop)->Prop
def PIE (X:Cx)(pins:List (Addr×Obj))(σ:St)(tg:Expr)(R:It->Hp->Prop)(itv:Value)(s2:Shared):Prop:=
 ∃(it:Addr) (fp:List Addr) (tn:Nat->Heap->Prop) (J:It) (H':Hp),itv=.ref it/\Inv X pins σ H' s2/\Turn X.prog X.w X.K tg J fp it tn/\tn 0 s2.heap/\(∀b∈fp,FpOk X pins H' b)/\R J H'
def PI (X:Cx)(tg iter:Expr)(wi:TI):Prop:=
 ∀(pins:List (Addr×Obj)) (s:Shared) (σ:St) (H:Hp) (R:It->Hp->Prop),Inv X pins σ H s->wi σ H R ->
  wpAny (model X.prog X.w) X.A (eval iter X.env) (λv s1=>wpAny (model X.prog X.w) X.A (pyIter v) (PIE X pins σ tg R) X.xe s1) X.xe s
theorem go_of (ho:s.heap.get? it=some o)(hc:o.cls=.type n)(hd:o.data=.fields vs)
    (hn:["enumerate","zip","dict_itemiterator","dict_reverseitemiterator","odict_iterator","itertools.zip_longest","itertools.pairwise"].contains n=false) (hQ:Q () s):wpAny M A (letOwnedTupleGo tg (.ref it) u) Q E s:=by
  unfold letOwnedTupleGo;cases tg<;>first
    |exact bV hQ
    | (cases u <;> first
        |exact bV hQ
        | (refine aH (wpAny_load ho ?_)
           rw[hc,hd];show wpAny M A (if (["enumerate","zip","dict_itemiterator","dict_reverseitemiterator","odict_iterator","itertools.zip_longest","itertools.pairwise"].contains n && vs[0]? == some (rawInt _))=true then _ else _) Q E s;rw[ae (by intro h;rw[hn,Bool.false_and]at h;cases h)];exact bV hQ))
def Itl (K:Fg)(a:Addr):It:=
 ⟨λi H=>∃xs x,SqL K H a xs/\xs[i]?=some x,λi H x H'=>H'=H/\∀xs,SqL K H a xs->xs[i]?=some x,λi H=>∃xs,SqL K H a xs/\xs.length<=i⟩
def Itr (lo:Int)(n:Nat):It:=⟨λi _=>i<n,λi H x H'=>H'=H/\x=.int (lo+i),λi _=>n<=i⟩
theorem turn_list {P:Program}{w:World}{K:Fg}{tg:Expr}(a it:Addr):Turn P w K tg (Itl K a) [it] it (λi h=>h.IsListIter it a i) where
 mem:=by simp
 obj:=λi h st b hb=>by
  have e:b=it:=by simpa using hb
  subst e;obtain⟨o,e,c,d⟩:=st;exact⟨o,e,λv z=>by rw[d]at z;cases z⟩
 keep:=λi h h' st k=>st.at λo e=>k it (by simp) o e
 item:=by intro X hP hw hK hc i pins s σ H E I hf st hg;subst hP hw hK;obtain⟨xs,x,hq,hx⟩:=hg;obtain⟨its,rv,p,hz⟩:=I.list hq;obtain⟨u,hu,ru⟩:=rv.get hx;obtain⟨f0,f1,f2,f3,f4,f5⟩:=hf it (by simp);refine wpAny_pyNext_list_item st p.isList (x:=u) (by simpa using hu) λh' st' sb=>?_;have I1:Inv X pins σ H { s with heap:=h' }:=I.turned (t':=s.toks) (λb o hb e=>(sb.2 b hb).trans e) f0 f1 f3 f4 f5;obtain⟨o,e,c,d⟩:=id st';exact⟨u,rfl,go_of (s:={ s with heap:=h' }) e c d (by decide) ⟨x,H,I1,ru,⟨rfl,λys hy=>by rw[I.list_inj hy hq];exact hx⟩,st',λb hb=>(hf b hb).1⟩⟩
 done:=by intro X hP hw hK hc i pins s σ H E I hf st hg;subst hP hw hK;obtain⟨xs,hq,hx⟩:=hg;obtain⟨its,rv,p,hz⟩:=I.list hq;obtain⟨f0,f1,f2,f3,f4,f5⟩:=hf it (by simp);have hl:=rv.length;exact wpAny_pyNext_list_end (I.ok.hd hc) st p.isList (by simp;lia) λh' eb=>⟨rfl,I.turned (t':=s.toks) (λb o hb e=>eb b o hb e) f0 f1 f3 f4 f5⟩
 self:=λ_ _ _ _ _ st h=>wpAny_pyIter_listiter st h
theorem turn_range {P:Program}{w:World}{K:Fg}{tg:Expr}(it:Addr)(lo:Int)(n:Nat):Turn P w K tg (Itr lo n) [it] it (λi h=>IsRangeIter h it (lo+(i:Nat)*1) ((n:Int)-(i:Nat)) 1) where
 mem:=by simp
 obj:=λi h st b hb=>by
  have e:b=it:=by simpa using hb
  subst e;exact⟨_,st,λv z=>by
   have z':Data.fields _=Data.cell v:=z;cases z'⟩
 keep:=λi h h' st k=>k it (by simp) _ st
 item:=by intro X hP hw hK hc i pins s σ H E I hf st hg;subst hP hw hK;obtain⟨f0,f1,f2,f3,f4,f5⟩:=hf it (by simp);have W:=Walks.range (prog:=X.prog) (w:=X.w) (I.ok.hd hc) it lo 1 n;refine W.item i s _ _ hg st λv h' tk hv st' kk=>?_;obtain⟨t,rfl⟩:=hv;have I1:Inv X pins σ H { s with heap:=h',toks:=tk }:=I.turned (λb o hb e=>kk b o (by simpa using hb) e) f0 f1 f3 f4 f5;refine⟨_,rfl,go_of (s:={ s with heap:=h',toks:=tk }) (n:="range_iterator") st' rfl rfl (by decide) ⟨.int (lo+i),H,I1,⟨t,?_⟩,⟨rfl,rfl⟩,st',λb hb=>(hf b hb).1⟩⟩;rw[bM]
 done:=by intro X hP hw hK hc i pins s σ H E I hf st hg;subst hP hw hK;obtain⟨f0,f1,f2,f3,f4,f5⟩:=hf it (by simp);exact wpAny_pyNext_range_end (I.ok.hd hc) st (by have:n<=i:=hg;lia) λh' eb=>⟨rfl,I.turned (t':=s.toks) (λb o hb e=>eb b o hb e) f0 f1 f3 f4 f5⟩
 self:=λ_ _ _ _ _ st h=>wpAny_pyIter_rangeiter st h
section
variable {X:Cx}{tg:Expr}
def iList (K:Fg)(tl:TE):TI:=λσ H R=>tl σ H λx H1=>∃a,x=.ref a/\(∃xs,SqL K H1 a xs)/\R (Itl K a) H1
theorem pi_list {l:Expr}{tl:TE}(hl:PE X l tl):PI X tg l (iList X.K tl):=by
 intro pins s σ H R I h;refine thn (hl pins s σ H _ I h) λv s1 ⟨x,H1,I1,r1,q1⟩=>?_;obtain⟨a,e,⟨xs,hq⟩,q⟩:=q1;subst e;cases r1;obtain⟨its,rv,p,hz⟩:=I1.list hq;refine wpAny_pyIter_list p.isList ?_;refine⟨s1.heap.objs.size,[s1.heap.objs.size],_,_,H1,rfl,I1.kept (t':=s1.toks) λb o e=>ay _ e,turn_list a _,⟨_,a8 _ rfl,rfl,rfl⟩,λb hb=>?_,q⟩;have e:b=s1.heap.objs.size:=by simpa using hb
 subst e;exact I1.fpOk (ai _) (I1.hok.fresh (ai _))
theorem range_it {pins:List (Addr×Obj)}{σ:St}{H:Hp}{s:Shared}{R:It->Hp->Prop}{E:Value->Shared->Prop}{lo hi:Int}{t u v:Tok}{tk:Nat}(I:Inv X pins σ H s)(h1:-(2^62)<=lo)(h2:lo<2^62)(h3:-(2^62)<=hi)(h4:hi<2^62)
  (q:R (Itr lo (hi-lo).toNat) H):wpAny (model X.prog X.w) X.A (pyIter (.ref s.heap.objs.size)) (PIE X pins σ tg R) E { s with heap:=s.heap.push { cls:=.type "range",data:=.fields #[.int lo t,.int hi u,.int 1 v] },toks:=tk }:=by
 refine wpAny_pyIter_range (IsRange.new ..) (small_one h1 h2 h3 h4) ?_;have I1:Inv X pins σ H { s with heap:=s.heap.push { cls:=.type "range",data:=.fields #[.int lo t,.int hi u,.int 1 v] },toks:=tk }:=I.kept λb o e=>ay _ e;refine⟨(s.heap.push { cls:=.type "range",data:=.fields #[.int lo t,.int hi u,.int 1 v] }).objs.size,[(s.heap.push { cls:=.type "range",data:=.fields #[.int lo t,.int hi u,.int 1 v] }).objs.size],_,_,H,rfl,
  I1.kept (t':=tk) λb o e=>ay _ e,turn_range _ lo (hi-lo).toNat,?_,λb hb=>?_,q⟩
 ·have e1:lo+((0:Nat):Int)*1=lo:=by simp
  have e2:(((hi-lo).toNat:Nat):Int)-((0:Nat):Int)=Builtin.Range.rangeSize lo hi 1:=by rw[rangeSize_one];split<;>lia
  show IsRangeIter _ _ (lo+((0:Nat):Int)*1) ((((hi-lo).toNat:Nat):Int)-((0:Nat):Int)) 1;rw[e1,e2];exact a8 _ rfl
 ·have e:b=(s.heap.push { cls:=.type "range",data:=.fields #[.int lo t,.int hi u,.int 1 v] }).objs.size:=by simpa using hb
  subst e;exact I1.fpOk (ai _) (I1.hok.fresh (ai _))
def iRng1 (ta:TA):TI:=λσ H R=>ta σ H λvs H1=>∃j:Int,vs=[.int j] /\ -(2^62)<=j/\j<2^62/\R (Itr 0 j.toNat) H1
def iRng2 (ta:TA):TI:=λσ H R=>ta σ H λvs H1=>∃i j:Int,vs=[.int i,.int j]/\(-(2^62)<=i/\i<2^62 /\ -(2^62)<=j/\j<2^62)/\R (Itr i (j-i).toNat) H1
theorem pi_range1 {a:Expr}{ta:TA}{p pos:Pos}(hg:Gl X "range")(hm:X.mg "range"=none)(ha:PA X [a] ta)(hs:starEach [a] X.env=[(false,eval a X.env)]:=by rfl):PI X tg (.Call (.Name "range" p) [a] [] pos) (iRng1 ta):=by
 intro pins s σ H R I h;refine Call_ (ld_blt I hg hm boot_range (bZ (thn (ha pos pins s σ H _ I h) λus s1 ⟨vs,H1,I1,r1,q1⟩=>?_) hs rfl));obtain⟨j,e,q1,q2,q⟩:=q1;subst e;cases r1 with
 |cons r rr=>cases rr;obtain⟨t,rfl⟩:=r;exact call_range_1 (range_it I1 (by lia) (by lia) q1 q2 (by simpa using q))
theorem pi_range2 (hg:Gl X "range")(hm:X.mg "range"=none)(ha:PA X [a,b] ta)(hs:starEach [a,b] X.env=[(false,eval a X.env),(false,eval b X.env)]:=by rfl)(hs2:starEach [b] X.env=[(false,eval b X.env)]:=by rfl) :
  PI X tg (.Call (.Name "range" p) [a,b] [] pos) (iRng2 ta):=by
 intro pins s σ H R I h;refine Call_ (ld_blt I hg hm boot_range (bZ (thn (ha pos pins s σ H _ I h) λus s1 ⟨vs,H1,I1,r1,q1⟩=>?_) (by rw[hs,hs2]) (by rw[hs2];rfl)));obtain⟨i,j,e,⟨q1,q2,q3,q4⟩,q⟩:=q1;subst e;cases r1 with
 |cons r rr=>
  cases rr with
  |cons r' rr=>cases rr;obtain⟨t,rfl⟩:=r;obtain⟨t',rfl⟩:=r';exact call_range_2 (range_it I1 q1 q2 q3 q4 q)
def tFor (wi:TI)(g:TG)(tb:TS):TS:=λD σ H=>wi σ H λJ H1=>∃W:Nat->Nat->St->Hp->Prop,(∃m,W 0 m σ H1)/\∀i m σ H,W i m σ H ->
 (J.stop i H/\D.nx σ H)\/(J.go i H/\∃N:St->Hp->Prop,(∀σ' H',N σ' H' -> ∃m',m'<m/\W (i+1) m' σ' H')/\∀x H',J.yld i H x H' -> g x σ H' λσ2 H2=>tb { D with nx:=N,ct:=N,bk:=D.nx } σ2 H2)
def pinsAt (fp:List Addr)(h:Heap):List (Addr×Obj):=fp.filterMap λb=>(h.get? b).map λo=>(b,o)
theorem mem_pinsAt (hb:b∈fp)(e:h.get? b=some o):(b,o)∈pinsAt fp h:=cr.mpr ⟨b,hb,by rw[e];rfl⟩
theorem of_pinsAt (hp:p∈pinsAt fp h):p.1∈fp/\h.get? p.1=some p.2:=by
 obtain⟨b,hb,e⟩:=cr.mp hp;cases q:h.get? b with
 |none=>rw[q]at e;cases e
 |some o=>rw[q]at e;have e':(b,o)=p:=aF e;subst e';exact⟨hb,q⟩
theorem Inv.pinned (I:Inv X pins σ H s)(hf:∀b∈fp,FpOk X pins H b)(ho:∀b∈fp,∃o,s.heap.get? b=some o/\∀v,o.data ≠ .cell v):Inv X (pins++pinsAt fp s.heap) σ H s:=
 I.pins_of λp hp=>(c5.mp hp).elim (λz=>I.pin p (aM _ z)) λz=>by obtain⟨hb,e⟩:=of_pinsAt z;obtain⟨f0,f1,f2,_⟩:=hf p.1 hb;obtain⟨o,e',d⟩:=ho p.1 hb;rw[e]at e';cases e';exact⟨e,f0,f1,f2,d⟩
theorem Inv.unpinned (I:Inv X (pins++pl) σ H s):Inv X pins σ H s:=I.pins_of λp hp=>I.pin p (aM _ (cE _ hp))
theorem ps_for (hp:PassesOwn (model X.prog X.w) X.A X.env X.xe)(hc:X.calm=true)(hi:PI X tg iter wi)(hg:PG X tg g)(hb:PSs X body tb)
  (hs:∀x,foldedSetIterable iter X.env x=pure x:=by intro _;rfl):PS X (.For tg iter body [] pos) (tFor wi g tb):=by
 intro pins s σ H D I h;refine wpAny_For (thn (hi pins s σ H _ I h) λv s1 h1=>thn h1 λitv s2 h2=>?_) hs;obtain⟨it,fp,tn,J,H2,e,I2,T,st2,f2,W,⟨m0,w0⟩,turn⟩:=h2;subst e;have stat:∀{H':Hp},(∀b∈fp,H' b=none)->∀b∈fp,FpOk X pins H' b:=λhn b hb=>⟨hn b hb,(f2 b hb).2⟩;refine codeAny_forLoop_any (λn s'=>∃i σ' H',Inv X pins σ' H' s'/\tn i s'.heap/\(∀b∈fp,H' b=none)/\W i n σ' H') ?_ m0 ⟨0,σ,H2,I2,st2,λb hb=>(f2 b hb).1,w0⟩;rintro n s3 ⟨i,σ3,H3,I3,st3,fr3,w3⟩;rcases turn i n σ3 H3 w3 with⟨stop,qn⟩|⟨go,N,hN,step⟩
 ·refine dm hp (thn (T.done X rfl rfl rfl hc i pins s3 σ3 H3 X.xe I3 (stat fr3) st3 stop) λr s4 ⟨hr,I4⟩=>?_);subst hr;exact fP ⟨σ3,H3,I4,qn⟩
 ·refine dm hp (thn (T.item X rfl rfl rfl hc i pins s3 σ3 H3 X.xe I3 (stat fr3) st3 go) λr s4 ⟨u,hr,h4⟩=>?_);subst hr;refine dm hp (thn h4 λ_ s5 ⟨x,H5,I5,r5,y5,st5,fr5⟩=>?_);have I5':=I5.pinned (stat fr5) (T.obj _ _ st5);refine dm hp (thn (hg _ s5 σ3 H5 x u _ I5' r5 (step x H5 y5)) λ_ s6 ⟨σ6,H6,I6,q6⟩=>?_);refine dm hp (thn (hb _ s6 σ6 H6 _ I6 q6) λf s7 q7=>?_);have again:∀{σ7:St} {H7:Hp},Inv X (pins++pinsAt fp s5.heap) σ7 H7 s7->N σ7 H7->∃m,m<n/\∃i σ' H',Inv X pins σ' H' s7/\tn i s7.heap/\(∀b∈fp,H' b=none)/\W i m σ' H':=λ{σ7 H7} I7 n7=>by obtain⟨m',hm,w7⟩:=hN σ7 H7 n7;refine⟨m',hm,i+1,σ7,H7,I7.unpinned,T.keep _ _ _ st5 λb hb o e=>(I7.pin (b,o) (aM _ (aM _ (mem_pinsAt hb e)))).1,λb hb=>?_,w7⟩;obtain⟨o,e,d⟩:=T.obj _ _ st5 b hb;exact(I7.pin (b,o) (aM _ (aM _ (mem_pinsAt hb e)))).2.1
  cases f with
  |next=>obtain⟨σ7,H7,I7,n7⟩:=q7;exact again I7 n7
  |cont=>obtain⟨σ7,H7,I7,n7⟩:=q7;exact again I7 n7
  |brk=>obtain⟨σ7,H7,I7,q7⟩:=q7;exact⟨σ7,H7,I7.unpinned,q7⟩
  |ret v=>obtain⟨x7,σ7,H7,I7,r7,q7⟩:=q7;exact⟨x7,σ7,H7,I7.unpinned,r7,q7⟩
end
theorem for_list {K:Fg}{a:Addr}{xs:List V}{g:TG}{tb:TS}{D:Ends}{σ:St}{H:Hp}(Pv:Nat->St->Hp->Prop)(h0:Pv 0 σ H)(hl:∀i σ H,i<=xs.length->Pv i σ H->SqL K H a xs)
  (hs:∀i x σ H,xs[i]?=some x->Pv i σ H->g x σ H λσ2 H2=>tb { D with nx:=Pv (i+1),ct:=Pv (i+1),bk:=D.nx } σ2 H2) (hd:∀σ H,Pv xs.length σ H->D.nx σ H) :
  ∃W:Nat->Nat->St->Hp->Prop,(∃m,W 0 m σ H)/\∀i m σ H,W i m σ H ->
   ((Itl K a).stop i H/\D.nx σ H)\/((Itl K a).go i H/\∃N:St->Hp->Prop,(∀σ' H',N σ' H' -> ∃m',m'<m/\W (i+1) m' σ' H')/\∀x H',(Itl K a).yld i H x H' -> g x σ H' λσ2 H2=>tb { D with nx:=N,ct:=N,bk:=D.nx } σ2 H2):=by
 refine⟨λi m σ H=>m=xs.length-i/\i<=xs.length/\Pv i σ H,⟨xs.length,by simp,bh _,h0⟩,?_⟩;rintro i m σ H ⟨rfl,hi,p⟩;have q:=hl i σ H hi p;by_cases hlt:i<xs.length
 ·refine .inr ⟨⟨xs,xs[i],q,by simp[hlt]⟩,Pv (i+1),λσ' H' p'=>⟨xs.length-(i+1),by lia,rfl,hlt,p'⟩,λx H' y=>?_⟩;obtain⟨e,y⟩:=y;subst e;exact hs i x σ _ (y xs q) p
 ·have e:i=xs.length:=by lia
  subst e;exact .inl ⟨⟨xs,q,ai _⟩,hd σ H p⟩
theorem for_range {lo:Int}{n:Nat}{g:TG}{tb:TS}{D:Ends}{σ:St}{H:Hp}(Pv:Nat->St->Hp->Prop)(h0:Pv 0 σ H)
  (hs:∀i σ H,i<n->Pv i σ H->g (.int (lo+i)) σ H λσ2 H2=>tb { D with nx:=Pv (i+1),ct:=Pv (i+1),bk:=D.nx } σ2 H2) (hd:∀σ H,Pv n σ H->D.nx σ H) :
  ∃W:Nat->Nat->St->Hp->Prop,(∃m,W 0 m σ H)/\∀i m σ H,W i m σ H ->
   ((Itr lo n).stop i H/\D.nx σ H)\/((Itr lo n).go i H/\∃N:St->Hp->Prop,(∀σ' H',N σ' H' -> ∃m',m'<m/\W (i+1) m' σ' H')/\∀x H',(Itr lo n).yld i H x H' -> g x σ H' λσ2 H2=>tb { D with nx:=N,ct:=N,bk:=D.nx } σ2 H2):=by
 refine⟨λi m σ H=>m=n-i/\i<=n/\Pv i σ H,⟨n,by simp,bh _,h0⟩,?_⟩;rintro i m σ H ⟨rfl,hi,p⟩;by_cases hlt:i<n
 ·refine .inr ⟨hlt,Pv (i+1),λσ' H' p'=>⟨n-(i+1),by lia,rfl,hlt,p'⟩,λx H' y=>?_⟩;obtain⟨e,y⟩:=y;subst e y;exact hs i σ _ hlt p
 ·have e:i=n:=by lia
  subst e;exact .inl ⟨ai _,hd σ H p⟩
theorem while_by (Pv:St->Hp->Prop)(μ:St->Hp->Nat)(h0:Pv σ H)
  (hs:∀σ H,Pv σ H->c σ H λb H1=>if b=true then tb { D with nx:=λσ' H'=>Pv σ' H'/\μ σ' H'<μ σ H,ct:=λσ' H'=>Pv σ' H'/\μ σ' H'<μ σ H,bk:=D.nx } σ H1 else D.nx σ H1)
  (mono:∀σ H Q Q',(∀b H1,Q b H1->Q' b H1)->c σ H Q->c σ H Q'):tWhile c tb D σ H:=by
 refine⟨λm σ H=>m=μ σ H/\Pv σ H,⟨_,rfl,h0⟩,?_⟩;rintro m σ H ⟨rfl,p⟩;refine mono σ H _ _ (λb H1 q=>?_) (hs σ H p);cases b with
 |true=>exact⟨_,λσ' H' ⟨p',l⟩=>⟨_,l,rfl,p'⟩,q⟩
 |false=>exact q
abbrev R2:=V->V->Hp->VK->Prop
def OpR (X:Cx)(f:Value->Value->Sem Value)(r:R2):Prop:=
 ∀(pins:List (Addr×Obj)) (s:Shared) (σ:St) (H:Hp) (x y:V) (v u:Value) (Q:VK),Inv X pins σ H s->RelV x v->RelV y u->r x y H Q ->
  wpAny (model X.prog X.w) X.A (f v u) (EP X pins σ Q) X.xe s
def UnR (X:Cx)(f:Value->Sem Value)(r:V->Hp->VK->Prop):Prop:=
 ∀(pins:List (Addr×Obj)) (s:Shared) (σ:St) (H:Hp) (x:V) (v:Value) (Q:VK),Inv X pins σ H s->RelV x v->r x H Q ->
  wpAny (model X.prog X.w) X.A (f v) (EP X pins σ Q) X.xe s
def CallR (X:Cx)(f:Value)(r:List V->Hp->VK->Prop):Prop:=
 ∀(pins:List (Addr×Obj)) (s:Shared) (σ:St) (H:Hp) (xs:List V) (us:List Value) (Q:VK),Inv X pins σ H s->Vals xs us->r xs H Q ->
  wpAny (model X.prog X.w) X.A (call f us) (EP X pins σ Q) X.xe s
def TruR (X:Cx)(r:V->Hp->(Bool->Hp->Prop)->Prop):Prop:=
 ∀(pins:List (Addr×Obj)) (s:Shared) (σ:St) (H:Hp) (x:V) (v:Value) (Q:Bool->Hp->Prop),Inv X pins σ H s->RelV x v->r x H Q ->
  wpAny (model X.prog X.w) X.A (truthy v) (TP X pins σ Q) X.xe s
def tOp (r:R2)(ta tb:TE):TE:=λσ H Q=>ta σ H λx H1=>tb σ H1 λy H2=>r x y H2 Q
def tUn (r:V->Hp->VK->Prop)(ta:TE):TE:=λσ H Q=>ta σ H λx H1=>r x H1 Q
def rI (C:Int->Int->Prop)(g:Int->Int->V):R2:=λx y H Q=>∃i j,x=.int i/\y=.int j/\C i j/\Q (g i j) H
def rI0 (g:Int->Int->V):R2:=λx y H Q=>∃i j,x=.int i/\y=.int j/\Q (g i j) H
def rU (g:Int->V):V->Hp->VK->Prop:=λx H Q=>∃i,x=.int i/\Q (g i) H
section
variable {X:Cx}{a b c:Expr}{ta tb tc:TE}{pos:Pos}
theorem binT (ha:PE X a ta)(hb:PE X b tb){pins:List (Addr×Obj)}{R:V->V->Hp->Prop}(I:Inv X pins σ H s)
  (h:ta σ H λx H1=>tb σ H1 λy H2=>R x y H2) {Q:Value->Shared->Prop} {f:Value->Value->Sem Value}
  (hf:∀v u s2 x y H2,Inv X pins σ H2 s2->RelV x v->RelV y u->R x y H2->wpAny (model X.prog X.w) X.A (f v u) Q X.xe s2) :
  wpAny (model X.prog X.w) X.A (eval a X.env) (λv s₁=>wpAny (model X.prog X.w) X.A (eval b X.env) (λu s₂=>wpAny (model X.prog X.w) X.A (f v u) Q X.xe s₂) X.xe s₁) X.xe s:=by
 refine thn (ha pins s σ H _ I h) λv s1 ⟨x,H1,I1,r1,q1⟩=>?_;refine thn (hb pins s1 σ H1 _ I1 q1) λu s2 ⟨y,H2,I2,r2,q2⟩=>?_;exact hf v u s2 x y H2 I2 r1 r2 q2
theorem pe_op {op:Operator}{r:R2}(ho:OpR X (binaryOp op) r)(ha:PE X a ta)(hb:PE X b tb):PE X (.BinOp a op b pos) (tOp r ta tb):=by intro pins s σ H Q I h;exact wpAny_BinOp (binT ha hb I h λv u s2 x y H2 I2 rx ry q=>ho pins s2 σ H2 x y v u Q I2 rx ry q)
theorem pe_un (ho:UnR X (unaryOp op) r)(ha:PE X a ta):PE X (.UnaryOp op a pos) (tUn r ta):=by intro pins s σ H Q I h;exact UnaryOp_ (thn (ha pins s σ H _ I h) λv s1 ⟨x,H1,I1,r1,q1⟩=>ho pins s1 σ H1 x v Q I1 r1 q1)
theorem opI {f:Value->Value->Sem Value}{C:Int->Int->Prop}{g:Int->Int->Int}
  (rule:∀(i j:Int) (t u:Tok) (s:Shared) (Q:Value->Shared->Prop) (E:Value->Shared->Prop),C i j->Q (.int (g i j) s.toks) { s with toks:=s.toks+1 }->wpAny (model X.prog X.w) X.A (f (.int i t) (.int j u)) Q E s) :
  OpR X f (rI C λi j=>.int (g i j)):=by
 intro pins s σ H x y v u Q I rx ry h;obtain⟨i,j,rfl,rfl,hc,q⟩:=h;obtain⟨t,rfl⟩:=rx;obtain⟨t',rfl⟩:=ry;exact rule i j t t' s _ _ hc ⟨.int (g i j),H,I.tok _,⟨_,rfl⟩,q⟩
theorem opI0 {f:Value->Value->Sem Value}{g:Int->Int->Int}
  (rule:∀(i j:Int) (t u:Tok) (s:Shared) (Q:Value->Shared->Prop) (E:Value->Shared->Prop),Q (.int (g i j) s.toks) { s with toks:=s.toks+1 }->wpAny (model X.prog X.w) X.A (f (.int i t) (.int j u)) Q E s) :
  OpR X f (rI0 λi j=>.int (g i j)):=by
 intro pins s σ H x y v u Q I rx ry h;obtain⟨i,j,rfl,rfl,q⟩:=h;obtain⟨t,rfl⟩:=rx;obtain⟨t',rfl⟩:=ry;exact rule i j t t' s _ _ ⟨.int (g i j),H,I.tok _,⟨_,rfl⟩,q⟩
theorem opB0 {f:Value->Value->Sem Value}{g:Int->Int->Bool}
  (rule:∀(i j:Int) (t u:Tok) (s:Shared) (Q:Value->Shared->Prop) (E:Value->Shared->Prop),Q (.bool (g i j)) s->wpAny (model X.prog X.w) X.A (f (.int i t) (.int j u)) Q E s) :
  OpR X f (rI0 λi j=>.bl (g i j)):=by
 intro pins s σ H x y v u Q I rx ry h;obtain⟨i,j,rfl,rfl,q⟩:=h;obtain⟨t,rfl⟩:=rx;obtain⟨t',rfl⟩:=ry;exact rule i j t t' s _ _ ⟨.bl (g i j),H,I,rfl,q⟩
def CDiv (i j:Int):Prop:=0<j/\j<1073741824
def CPow (i j:Int):Prop:=0<=j/\j<=1000000/\i.natAbs<2^64
def CMul (i j:Int):Prop:=(-(2^64)<i/\i<2^64)\/(-(2^64)<j/\j<2^64)
theorem op_add:OpR X (binaryOp .Add) (rI0 λi j=>.int (i+j)):=opI0 λ_ _ _ _ _ _ _ q=>add_int q
theorem op_sub:OpR X (binaryOp .Sub) (rI0 λi j=>.int (i-j)):=opI0 λ_ _ _ _ _ _ _ q=>sub_int q
theorem op_mod:OpR X (binaryOp .Mod) (rI (λ_ j=>0<j) λi j=>.int (i % j)):=opI λi j _ _ _ _ _ hc q=>by have h1:(0:Int)<j:=hc;exact mod_int' (by lia) (by rw[Int.fmod_eq_emod_of_nonneg i (by lia)];exact q)
theorem op_pow:OpR X (binaryOp .Pow) (rI CPow λi j=>.int (i^j.toNat)):=opI λ_ _ _ _ _ _ _ hc q=>pow_int_small hc.1 hc.2.1 hc.2.2 q
theorem iop_add:OpR X (inplaceOp .Add) (rI0 λi j=>.int (i+j)):=opI0 λ_ _ _ _ _ _ _ q=>iadd_int q
theorem iop_fdiv:OpR X (inplaceOp .FloorDiv) (rI CDiv λi j=>.int (i / j)):=opI λi j _ _ _ _ _ hc q=>by have h1:(0:Int)<j:=hc.1;have h2:j<1073741824:=hc.2;exact ifloordiv_int (by lia) (by rw[fY i (by lia)];exact q) (.inl (PyProof.noPylong_small (by lia)))
theorem unI {f:Value->Sem Value}{g:Int->Int}
  (rule:∀(i:Int) (t:Tok) (s:Shared) (Q:Value->Shared->Prop) (E:Value->Shared->Prop),Q (.int (g i) s.toks) { s with toks:=s.toks+1 }->wpAny (model X.prog X.w) X.A (f (.int i t)) Q E s) :
  UnR X f (rU λi=>.int (g i)):=by
 intro pins s σ H x v Q I rx h;obtain⟨i,rfl,q⟩:=h;obtain⟨t,rfl⟩:=rx;exact rule i t s _ _ ⟨.int (g i),H,I.tok _,⟨_,rfl⟩,q⟩
theorem un_neg:UnR X (unaryOp .USub) (rU λi=>.int (-i)):=unI λ_ _ _ _ _ q=>neg_int q
end
def scal:V->V->Bool
 | .non,.non=>true | .non,.int _=>true | .int _,.non=>true | .non,.bl _=>true | .bl _,.non=>true | .non,.str _=>true | .str _,.non=>true
 | .int _,.int _=>true | .bl _,.bl _=>true | .str _,.str _=>true | .byt _,.byt _=>true
 | .int _,.str _=>true | .str _,.int _=>true | .bl _,.str _=>true | .str _,.bl _=>true
 |_,_=>false
def rEq:R2:=λx y H Q=>scal x y=true/\Q (.bl (decide (x=y))) H
def rNe:R2:=λx y H Q=>scal x y=true/\Q (.bl (!decide (x=y))) H
theorem dec_int:decide (V.int i=V.int j)=(i == j):=by rw[fQ];simp
theorem dec_bl:decide (V.bl i=V.bl j)=(i == j):=by rw[fQ];simp
theorem dec_str:decide (V.str i=V.str j)=(i == j):=by rw[fQ];simp
theorem dec_byt:decide (V.byt i=V.byt j)=(i.toList == j.toList):=by rw[fQ];cases i;cases j;simp
section
variable {X:Cx}{a b c:Expr}{ta tb tc:TE}{pos:Pos}
theorem fin_bl (I:Inv X pins σ H s)(q:Q (.bl k) H)(e:k=k'):EP X pins σ Q (.bool k') s:=by subst e;exact⟨.bl k,H,I,rfl,q⟩
theorem op_eq:OpR X (compareOp .Eq) rEq:=by
 intro pins s σ H x y v u Q I rx ry h;obtain⟨hs,q⟩:=h;cases x with
 |non=>
  cases rx;cases y with
  |non=>cases ry;exact PySem.EqNone.eq_none_none (fin_bl I q (by simp))
  |bl j=>cases ry;exact PySem.EqNone.eq_none_bool (fin_bl I q (by simp))
  |int j=>obtain⟨t',rfl⟩:=ry;exact PySem.EqNone.eq_none_int (fin_bl I q (by simp))
  |str j=>obtain⟨t',rfl⟩:=ry;exact PySem.EqNone.eq_none_str (fin_bl I q (by simp))
  |_=>exact absurd (show false=true from hs) a7
 |bl i=>
  cases rx;cases y with
  |non=>cases ry;exact PySem.EqNone.eq_bool_none (fin_bl I q (by simp))
  |bl j=>cases ry;exact eq_bool (fin_bl I q dec_bl)
  |str j=>obtain⟨t',rfl⟩:=ry;exact PySem.EqMixed.eq_bool_str (fin_bl I q (by simp))
  |_=>exact absurd (show false=true from hs) a7
 |int i=>
  obtain⟨t,rfl⟩:=rx;cases y with
  |non=>cases ry;exact PySem.EqNone.eq_int_none (fin_bl I q (by simp))
  |int j=>obtain⟨t',rfl⟩:=ry;exact eq_int (fin_bl I q dec_int)
  |str j=>obtain⟨t',rfl⟩:=ry;exact PySem.EqMixed.eq_int_str (fin_bl I q (by simp))
  |_=>exact absurd (show false=true from hs) a7
 |str i=>
  obtain⟨t,rfl⟩:=rx;cases y with
  |non=>cases ry;exact PySem.EqNone.eq_str_none (fin_bl I q (by simp))
  |bl j=>cases ry;exact PySem.EqMixed.eq_str_bool (fin_bl I q (by simp))
  |int j=>obtain⟨t',rfl⟩:=ry;exact PySem.EqMixed.eq_str_int (fin_bl I q (by simp))
  |str j=>obtain⟨t',rfl⟩:=ry;exact eq_str (fin_bl I q dec_str)
  |_=>exact absurd (show false=true from hs) a7
 |byt i=>
  obtain⟨t,rfl⟩:=rx;cases y with
  |byt j=>obtain⟨t',rfl⟩:=ry;exact W.eq_bytes (fin_bl I q dec_byt)
  |_=>exact absurd (show false=true from hs) a7
 |_=>cases y<;>exact absurd (show false=true from hs) a7
theorem op_ne:OpR X (compareOp .NotEq) rNe:=by
 intro pins s σ H x y v u Q I rx ry h;obtain⟨hs,q⟩:=h;cases x with
 |non=>
  cases rx;cases y with
  |non=>cases ry;exact PySem.EqNone.ne_none_none (fin_bl I q (by simp))
  |bl j=>cases ry;exact PySem.EqNone.ne_none_bool (fin_bl I q (by simp))
  |int j=>obtain⟨t',rfl⟩:=ry;exact PySem.EqNone.ne_none_int (fin_bl I q (by simp))
  |str j=>obtain⟨t',rfl⟩:=ry;exact PySem.EqNone.ne_none_str (fin_bl I q (by simp))
  |_=>exact absurd (show false=true from hs) a7
 |bl i=>
  cases rx;cases y with
  |non=>cases ry;exact PySem.EqNone.ne_bool_none (fin_bl I q (by simp))
  |bl j=>cases ry;exact ne_bool (fin_bl I q (congrArg not dec_bl))
  |str j=>obtain⟨t',rfl⟩:=ry;exact PySem.EqMixed.ne_bool_str (fin_bl I q (by simp))
  |_=>exact absurd (show false=true from hs) a7
 |int i=>
  obtain⟨t,rfl⟩:=rx;cases y with
  |non=>cases ry;exact PySem.EqNone.ne_int_none (fin_bl I q (by simp))
  |int j=>obtain⟨t',rfl⟩:=ry;exact ne_int (fin_bl I q (congrArg not dec_int))
  |str j=>obtain⟨t',rfl⟩:=ry;exact PySem.EqMixed.ne_int_str (fin_bl I q (by simp))
  |_=>exact absurd (show false=true from hs) a7
 |str i=>
  obtain⟨t,rfl⟩:=rx;cases y with
  |non=>cases ry;exact PySem.EqNone.ne_str_none (fin_bl I q (by simp))
  |bl j=>cases ry;exact PySem.EqMixed.ne_str_bool (fin_bl I q (by simp))
  |int j=>obtain⟨t',rfl⟩:=ry;exact PySem.EqMixed.ne_str_int (fin_bl I q (by simp))
  |str j=>obtain⟨t',rfl⟩:=ry;exact ne_str (fin_bl I q (congrArg not dec_str))
  |_=>exact absurd (show false=true from hs) a7
 |byt i=>
  obtain⟨t,rfl⟩:=rx;cases y with
  |byt j=>obtain⟨t',rfl⟩:=ry;exact W.ne_bytes (fin_bl I q (congrArg not dec_byt))
  |_=>exact absurd (show false=true from hs) a7
 |_=>cases y<;>exact absurd (show false=true from hs) a7
theorem op_lt:OpR X (compareOp .Lt) (rI0 λi j=>.bl (decide (i<j))):=opB0 λ_ _ _ _ _ _ _ q=>lt_int q
theorem op_le:OpR X (compareOp .LtE) (rI0 λi j=>.bl (decide (i<=j))):=opB0 λ_ _ _ _ _ _ _ q=>le_int q
theorem op_gt:OpR X (compareOp .Gt) (rI0 λi j=>.bl (decide (j<i))):=opB0 λ_ _ _ _ _ _ _ q=>gt_int q
theorem op_ge:OpR X (compareOp .GtE) (rI0 λi j=>.bl (decide (j<=i))):=opB0 λ_ _ _ _ _ _ _ q=>ge_int q
theorem op_notN:OpR X (compareOp .IsNot) (λx y H Q=>y=.non/\Q (.bl (!decide (x=.non))) H):=by
 intro pins s σ H x y v u Q I rx ry h;obtain⟨rfl,q⟩:=h;cases ry;refine isnot_none_gen (fin_bl I q ?_);cases x<;>first
  |(cases rx;rfl)
  |(obtain⟨t,rfl⟩:=rx;rfl)
theorem nomark (b:Expr)(h:op ≠ .In:=by decide)(h2:op ≠ .NotIn:=by decide):behindInMarks op b=false:=by
 have e1:(op == CmpOp.In)=false:=by cases op<;>first|rfl|exact absurd rfl h
 have e2:(op == CmpOp.NotIn)=false:=by cases op<;>first|rfl|exact absurd rfl h2
 cases b<;>simp[behindInMarks,e1,e2]
theorem pe_cmpR {op:CmpOp}{r:R2}(ho:OpR X (compareOp op) r)(ha:PE X a ta)(hb:PE X b tb)(hm:behindInMarks op b=false):PE X (.Compare a [op] [b] pos) (tOp r ta tb):=by intro pins s σ H Q I h;exact wpAny_Compare1 (binT ha hb I h λv u s2 x y H2 I2 rx ry q=>ho pins s2 σ H2 x y v u Q I2 rx ry q) hm
def tTest (t:TE):TT:=λσ H Q=>t σ H λx H'=>∃k,x=.bl k/\Q k H'
theorem pt_cmpR (ho:OpR X (compareOp op) r)(ha:PE X a ta)(hb:PE X b tb)(hm:behindInMarks op b=false):PT X (.Compare a [op] [b] pos) (tTest (tOp r ta tb)):=by
 intro pins s σ H Q I h;refine wpAny_isTrue_Compare1 (thn (ha pins s σ H _ I h) λv s1 ⟨x,H1,I1,r1,q1⟩=>thn (hb pins s1 σ H1 _ I1 q1) λu s2 ⟨y,H2,I2,r2,q2⟩=>
  thn (ho pins s2 σ H2 x y v u _ I2 r1 r2 q2) λc s3 ⟨z,H3,I3,r3,k,e,q3⟩=>?_) hm
 subst e;cases r3;exact dW ⟨H3,I3,q3⟩
def TruV (K:Fg)(x:V)(H:Hp)(k:Bool):Prop:=
 match x with
 | .non=>k=false
 | .bl b=>k=b
 | .int i=>k=(i != 0)
 | .str y=>y.length<=sizeLine/\k=((y.length:Int) != 0)
 | .byt y=>y.size<=sizeLine/\k=((y.size:Int) != 0)
 | .ref p=>(∃xs,SqL K H p xs/\k = !xs.isEmpty)\/(∃xs,SqT K H p xs/\k = !xs.isEmpty)\/∃kvs,H p=some (.dK kvs)/\k = !kvs.isEmpty
 |_=>False
theorem isEmpty_kv {κ:Type}{kvs:List (κ×V)}{vs:List (κ×Value)}(r:KV kvs vs):(!vs.isEmpty) = !kvs.isEmpty:=by cases r<;>rfl
theorem isEmpty_of (r:Vals xs its):(!its.toArray.isEmpty) = !xs.isEmpty:=by cases r<;>simp
theorem line63:(sizeLine:Nat)<2^63:=by rw[dj];decide
theorem tru_ok:TruR X (λx H Q=>∃k,TruV X.K x H k/\Q k H):=by
 intro pins s σ H x v Q I rx h;obtain⟨k,e,q⟩:=h;have hl:=line63;have hs:sizeLine=16777216:=dj;cases x with
 |non=>cases rx;have e':k=false:=e;subst e';exact truthy_none ⟨H,I,q⟩
 |bl b=>cases rx;have e':k=b:=e;subst e';exact dW ⟨H,I,q⟩
 |int i=>obtain⟨t,rfl⟩:=rx;have e':k=(i != 0):=e;subst e';exact PySem.P.truthy_int ⟨H,I,q⟩
 |str y=>obtain⟨t,rfl⟩:=rx;obtain⟨hy,e'⟩:y.length<=sizeLine/\k=((y.length:Int) != 0):=e;subst e';exact PySem.P.truthy_str (by lia) ⟨H,I.tok _,q⟩
 |byt y=>obtain⟨t,rfl⟩:=rx;obtain⟨hy,e'⟩:y.size<=sizeLine/\k=((y.size:Int) != 0):=e;subst e';exact W.truthy_bytes (by lia) ⟨H,I.tok _,q⟩
 |ref p=>
  cases rx;have e':(∃xs,SqL X.K H p xs/\k = !xs.isEmpty)\/(∃xs,SqT X.K H p xs/\k = !xs.isEmpty)\/∃kvs,H p=some (.dK kvs)/\k = !kvs.isEmpty:=e;rcases e' with⟨xs,hx,e'⟩|⟨xs,hx,e'⟩|⟨kvs,hx,e'⟩
  ·subst e';obtain⟨its,r,pl,hz⟩:=I.list hx;have hlen:=r.length;exact wpAny_truthy_list pl.isList (by simp only[aw];lia) ⟨H,I.tok _,by rw[isEmpty_of r];exact q⟩
  ·subst e';obtain⟨its,r,pl,hz⟩:=I.tuple hx;have hlen:=r.length;exact truthy_tuple pl (by simp only[aw];lia) ⟨H,I.tok _,by rw[isEmpty_of r];exact q⟩
  ·subst e';obtain⟨hz,hS,vs,r,m⟩:kvs.length<=sizeLine/\(p == sysModules)=false/\∃vs,KV kvs vs/\s.heap.DictOf (mixKind X.prog X.w) p vs:=I.hok p _ hx;have hlen:kvs.length=vs.length:=Paired.length r;exact wpAny_truthy_dict hS m (by lia) ⟨H,I.tok _,by rw[isEmpty_kv r];exact q⟩
 |_=>exact(show False from e).elim
theorem pt_truth (ha:PE X a ta)(he:∀whole,isTrue a X.env whole=(do let v <- whole;standAt a.pos;holding [v] (truthy v))) :
  PT X a (λσ H Q=>ta σ H λx H'=>∃k,TruV X.K x H' k/\Q k H'):=by
 intro pins s σ H Q I h;exact isTrue_plain (thn (ha pins s σ H _ I h) λv s1 ⟨x,H1,I1,r1,q1⟩=>tru_ok pins s1 σ H1 x v Q I1 r1 q1) (he _)
theorem vals1 (r:Vals [x] us):∃u,us=[u]/\RelV x u:=by
 cases r with
 |cons r1 r2=>cases r2;exact⟨_,rfl,r1⟩
theorem vals2 (r:Vals [x,y] us):∃u w',us=[u,w']/\RelV x u/\RelV y w':=by
 cases r with
 |cons r1 r2=>
  cases r2 with
  |cons r3 r4=>cases r4;exact⟨_,_,rfl,r1,r3⟩
theorem call_int1:CallR X (.type "int") (λxs H Q=>(∃i,xs=[.int i]/\Q (.int i) H)\/∃k,xs=[.bl k]/\Q (.int (if k then 1 else 0)) H):=by
 intro pins s σ H xs us Q I r h;rcases h with⟨i,rfl,q⟩|⟨k,rfl,q⟩
 ·obtain⟨u,rfl,t,rfl⟩:=vals1 r;exact call_int_int ⟨.int i,H,I,⟨_,rfl⟩,q⟩
 ·obtain⟨u,rfl,r1⟩:=vals1 r;cases r1;exact call_int_bool ⟨.int (if k then 1 else 0),H,I.tok _,⟨_,rfl⟩,q⟩
end
structure ObjM (h:Heap)(x dx C:Addr)(mA:Mg):Prop where
 obj:h.get? x=some (W.instObj C dx)
 ns:h.Ns1 dx mA
 ne:dx≠x
theorem lookIn_ns {h:Heap}{dx:Addr}{mA:Mg}(n:h.Ns1 dx mA):∃od,h.get? dx=some od/\∀name,W.lookIn name od=some (mA name):=by
 obtain⟨o,es,ep,ho,hd,hk,_,hm⟩:=n;refine⟨o,ho,λname=>?_⟩;have e:=hm name;unfold nsFind findBy at e;rw[<- Array.find?_toList]at e;unfold W.lookIn;rw[hd];dsimp only;split
 ·rename_i y q;rw[q]at e;exact congrArg some e
 ·rename_i q;rw[q]at e;have a:es.toList.any (·.refKey)=false:=by rw[List.any_eq_false];intro y hy;obtain⟨z,t,hkey⟩:=hk y (Array.mem_toList_iff.mp hy);simp[DictEntry.refKey,hkey]
  have a':¬es.toList.any (·.refKey)=true:=by rw[a];exact a7
  rw[ae a'];exact congrArg some e
theorem ObjM.look (I:ObjM h x dx C mA):∃od,W.InstAt h x (W.instObj C dx) C (some od)/\∀name,W.lookIn name od=some (mA name):=
 let ⟨od,ho,hl⟩:=lookIn_ns I.ns
 ⟨od,⟨I.obj,rfl,rfl,ho⟩,hl⟩
section
variable {prog:Program}{w:World}{A:Around}{E:Value->Shared->Prop}{s:Shared}{K:Fg}{x dx C f:Addr}{mA:Mg}{name:Str}{v:Value}
theorem get_map (X:K.In s.heap)(I:ObjM s.heap x dx C mA)(hg:W.plainGet K C name=true)(hh:W.hasDictIn K C=true)
  (ha:W.findIn K (.ref C) name=some none) (hv:mA name=some v) (hv':W.handedIn v=true) (h:Q v { s with toks:=s.toks+1 }) :
  wpAny (model prog w) A (getAttr (.ref x) name expr) Q E s:=by
 obtain⟨od,J,hl⟩:=I.look;exact W.get_value X J (fR hg).1 (W.findObj_own hh ha rfl (by rw[hl,hv])) hv' h
theorem get_meth (X:K.In s.heap)(I:ObjM s.heap x dx C mA)(hg:W.plainGet K C name=true)
  (hf:W.findIn K (.ref C) name=some (some (.ref f))) (ht:W.isFn K (.ref f)=true) (hv:mA name=none) (h:Q (.ref f,[.ref x]) s) :
  wpAny (model prog w) A (getMethod (.ref x) name pl) Q E s:=by
 obtain⟨od,J,hl⟩:=I.look;exact W.method_fn X J (fR hg).1 (fR hg).2 hf (beq_iff_eq.mp ht) (by show(W.lookIn name od).map (·.isSome)=some false;rw[hl,hv];rfl) h
theorem set_map (X:K.In s.heap)(I:ObjM s.heap x dx C mA)
  (hs:W.findIn K (.ref C) "__setattr__"=some (some (.builtin "object.__setattr__"))) (hp:W.plainOver K C=true) (ht:W.takerIn K C name=some none) (hh:W.hasDictIn K C=true)
  (hw:PySem.Within mA ns) (hsz:ns.length<=sizeLine)
  (h:∀h',ObjM h' x dx C (λy=>if y=name then some v else mA y)->Heap.SameBut dx s.heap h' -> Q () { s with heap:=h',toks:=s.toks+2 }) :
  wpAny (model prog w) A (setAttr (.ref x) name v) Q E s:=by
 obtain⟨od,J,hl⟩:=I.look;refine W.set_plain X J hs (W.osa_open (s:={ s with toks:=s.toks+1 }) (r:=none) X J hp ht λb=>?_);obtain⟨cd,hc,hd'⟩:=W.any_some hh;have hx:s.heap.get? x=some ⟨.ref C,some dx,.plain,#[]⟩:=I.obj;refine aH (bV (aH (aH (wpAny_loadPart hx (aH (W.Looks.here (s:={ s with toks:=s.toks+1 }) (W.looks_clsIn X hc) ?_))))));rw[hd'];refine bV (a:=some dx) (aH (bV (aH ?_)));refine wpAny_nsSet1 (s:={ s with toks:=s.toks+1 }) I.ns λh' hn2 hs2=>?_;obtain⟨oD,esD,epD,hoD,hdD,hcD⟩:=hn2.count (PySem.Within.cons name v hw);refine aH (wpAny_lookBehind hoD (by rw[hdD];exact pastItsLine_dict (aC hcD (by rw[aG];lia))) ?_);exact bV (h _ ⟨(hs2.2 _ (cf I.ne)).trans I.obj,hn2,I.ne⟩ hs2)
theorem make_map (X:K.In s.heap)(hm:W.makesIn K C=true)
  (hi:W.findIn K (.ref C) "__init__"=some (some (.ref f))) (hf:W.typeIn K (.ref f)=some (.type "function"))
  (h:codeAny (model prog w) (A.under (.builtin "type.__call__" ⟨.ref C::vs,kw⟩)) (.call (.ref f) ⟨.ref (s.heap.objs.size+1)::vs,kw⟩) (W.InitBack (s.heap.objs.size+1) R)
   { s with heap:=(s.heap.push W.emptyDict).push (W.instObj C s.heap.objs.size) }) :
  codeAny (model prog w) A (.call (.ref C) ⟨vs,kw⟩) R s:=by
 obtain⟨hh,g,d,t,os⟩:=s;exact W.make_core (W.makes_of X hm) (W.looks_findIn X hi) (λself=>W.bind_fn X self hf) (.inl rfl) h
end
def putF (f:Str)(v:V):List (Str×V)->List (Str×V)
 |[]=>[(f,v)]
 |(g,x)::r=>if g=f then(g,v)::r else(g,x)::putF f v r
theorem lookup_putF (f g:Str)(v:V):∀fs:List (Str×V),(putF f v fs).lookup g=if g=f then some v else fs.lookup g
 |[]=>by
  show List.lookup g [(f,v)]=_;by_cases h:g=f
  ·have hb:(g == f)=true:=beq_iff_eq.mpr h;simp only[List.lookup,hb,af h]
  ·have hb:(g == f)=false:=beq_eq_false_iff_ne.mpr h;simp only[List.lookup,hb,ae h]
 |(k,x)::r=>by
  have ih:=lookup_putF f g v r;rw[show putF f v ((k,x)::r)=(if k=f then(k,v)::r else(k,x)::putF f v r) from rfl];by_cases hk:k=f
  ·rw[af hk];by_cases h:g=k
   ·have hb:(g == k)=true:=beq_iff_eq.mpr h;simp only[List.lookup,hb,af (h.trans hk)]
   ·have hb:(g == k)=false:=beq_eq_false_iff_ne.mpr h;simp only[List.lookup,hb,ae (λe:g=f=>h (e.trans hk.symm))]
  ·rw[ae hk];by_cases h:g=k
   ·have hb:(g == k)=true:=beq_iff_eq.mpr h;simp only[List.lookup,hb,ae (λe:g=f=>hk (h.symm.trans e))]
   ·have hb:(g == k)=false:=beq_eq_false_iff_ne.mpr h;simp only[List.lookup,hb];exact ih
theorem keys_putF (f:Str)(v:V):∀fs:List (Str×V),f∈(putF f v fs).map (·.1)/\∀g,g∈fs.map (·.1)->g∈(putF f v fs).map (·.1)
 |[]=>⟨by simp[putF],λg h=>by simp at h⟩
 |(k,x)::r=>by
  obtain⟨i1,i2⟩:=keys_putF f v r;rw[show putF f v ((k,x)::r)=(if k=f then(k,v)::r else(k,x)::putF f v r) from rfl];by_cases hk:k=f
  ·rw[af hk];subst hk;exact⟨by simp,λg h=>by simpa using h⟩
  ·rw[ae hk];refine⟨?_,λg h=>?_⟩
   ·rw[aX];exact ad _ i1
   ·rw[aX]at h ⊢;rcases aB.mp h with e|e
    ·exact aB.mpr (.inl e)
    ·exact ad _ (i2 g e)
theorem length_putF (f:Str)(v:V):∀fs:List (Str×V),(putF f v fs).length<=fs.length+1
 |[]=>by simp[putF]
 |(k,x)::r=>by
  have ih:=length_putF f v r;rw[show putF f v ((k,x)::r)=(if k=f then(k,v)::r else(k,x)::putF f v r) from rfl];by_cases hk:k=f
  ·rw[af hk,aG,aG];lia
  ·rw[ae hk,aG,aG];lia
theorem RelO.some_of (r:RelO (some v) o):∃u,o=some u/\RelV v u:=by
 cases o with
 |none=>exact(show False from r).elim
 |some u=>exact⟨u,rfl,r⟩
theorem RelO.none_of (r:RelO none o):o=none:=by
 cases o with
 |none=>rfl
 |some u=>exact(show False from r).elim
theorem handed_of (r:RelV v u):W.handedIn u=true:=by
 cases v with
 |non=>cases (show u=Value.none from r);rfl
 |bl b=>cases (show u=Value.bool b from r);rfl
 |int i=>obtain⟨t,e⟩:=(show ∃t,u=Value.int i t from r);cases e;rfl
 |str x=>obtain⟨t,e⟩:=(show ∃t,u=Value.str x t from r);cases e;rfl
 |byt b=>obtain⟨t,e⟩:=(show ∃t,u=Value.bytes b t from r);cases e;rfl
 |flt b=>obtain⟨t,e⟩:=(show ∃t,u=Value.float b t from r);cases e;rfl
 |ref a=>cases (show u=Value.ref a from r);rfl
 |ty n=>cases (show u=Value.type n from r);rfl
section
variable {P:Program}{w:World}{H H':Hp}{h h':Heap}{a C dx:Addr}{fs fs':List (Str×V)}
theorem ins_get (hok:HOk P w H h)(e:H a=some (.ins C dx fs)):∃mA,ObjM h a dx C mA/\(∀f,RelO (fs.lookup f) (mA f))/\PySem.Within mA (fs.map (·.1))/\fs.length<=1000/\H dx=some (.own a):=by obtain⟨d,z,ne,ob,mA,n,r,q⟩:=(show ObjOk P w H h a (.ins C dx fs) from hok a _ e);exact⟨mA,⟨ob,n,ne⟩,r,q,z,d⟩
end
structure Cls (K:Fg)(C:Addr):Prop where
 pg:W.plainGet K C Str.empty=true
 hd:W.hasDictIn K C=true
 po:W.plainOver K C=true
 sa:W.findIn K (.ref C) "__setattr__"=some (some (.builtin "object.__setattr__"))
theorem Cls.get {K:Fg}{C:Addr}(c:Cls K C)(f:Str):W.plainGet K C f=true:=c.pg
def NoAttr (K:Fg)(C:Addr)(f:Str):Prop:=W.findIn K (.ref C) f=some none
theorem NoAttr.taker {K:Fg}{C:Addr}{f:Str}(n:NoAttr K C f):W.takerIn K C f=some none:=by unfold W.takerIn;rw[show W.findIn K (.ref C) f=some none from n];rfl
structure Meth (K:Fg)(C:Addr)(m:Str)(f:Addr):Prop where
 at_:W.findIn K (.ref C) m=some (some (.ref f))
 fn:W.isFn K (.ref f)=true
 kp:W.keepIn K (.ref f)=true
section
variable {X:Cx}{pins:List (Addr×Obj)}{σ:St}{H:Hp}{s:Shared}{a C dx:Addr}{fs:List (Str×V)}{f:Str}{v:V}{A:Around}{E:Value->Shared->Prop}
theorem getattr_ok (I:Inv X pins σ H s)(e:H a=some (.ins C dx fs))(c:Cls X.K C)(n:NoAttr X.K C f)(l:fs.lookup f=some v)
  (h:∀u s',Inv X pins σ H s' -> RelV v u->Q u s'):wpAny (model X.prog X.w) A (getAttr (.ref a) f b) Q E s:=by
 obtain⟨mA,O,r,_,_,_⟩:=ins_get I.hok e;obtain⟨u,hu,ru⟩:=RelO.some_of (v:=v) (o:=mA f) (by rw[<- l];exact r f);exact get_map I.kIn O (c.get f) c.hd n hu (handed_of ru) (h u _ (I.tok _) ru)
theorem getmeth_ok (I:Inv X pins σ H s)(e:H a=some (.ins C dx fs))(c:Cls X.K C)(k:Meth X.K C m g)(l:fs.lookup m=none)
  (h:Q (.ref g,[.ref a]) s):wpAny (model X.prog X.w) A (getMethod (.ref a) m pl) Q E s:=by
 obtain⟨mA,O,r,_,_,_⟩:=ins_get I.hok e;have hn:mA m=none:=RelO.none_of (by rw[<- l];exact r m);exact get_meth I.kIn O (c.get m) k.at_ k.fn hn h
theorem setattr_ok (I:Inv X pins σ H s)(e:H a=some (.ins C dx fs))(c:Cls X.K C)(n:NoAttr X.K C f)(hl:fs.length<1000)(ry:RelV y u)
  (h:∀s',Inv X pins σ (upd H a (.ins C dx (putF f y fs))) s' -> Q () s'):wpAny (model X.prog X.w) A (setAttr (.ref a) f u) Q E s:=by
 obtain⟨mA,O,r,wi,_,ho⟩:=ins_get I.hok e;have hz:(fs.map (·.1)).length<=sizeLine:=by rw[aa,dj];lia
 refine set_map I.kIn O c.sa c.po n.taker c.hd wi hz λh' O' sb=>h _ ?_;have hd:∃o,h'.get? dx=some o:=let ⟨o,_,_,e',_⟩:=O'.ns;⟨o,e'⟩
 refine I.write (x:=a) (e:=dx) (by rw[e];exact tJ) (.inr ho) (λb q hb z=>(sb.2 b hb).trans z) hd ?_;refine⟨by rw[upd_ne O.ne];exact ho,?_,O.ne,O'.obj,_,O'.ns,λg=>?_,λg hg=>?_⟩
 ·have:=length_putF f y fs;lia
 ·show RelO ((putF f y fs).lookup g) (if g=f then some u else mA g);rw[lookup_putF];by_cases q:g=f
  ·rw[af q,af q];exact ry
  ·rw[ae q,ae q];exact r g
 ·by_cases q:g=f
  ·rw[q];exact(keys_putF f y fs).1
  ·refine(keys_putF f y fs).2 g (wi g λz=>hg ?_);show(if g=f then some u else mA g)=none;rw[ae q];exact z
theorem Inv.made (I:Inv X pins σ H s):Inv X pins σ (upd (upd H s.heap.objs.size (.own (s.heap.objs.size+1))) (s.heap.objs.size+1) (.ins C s.heap.objs.size []))
  { s with heap:=(s.heap.push W.emptyDict).push (W.instObj C s.heap.objs.size) }:=by
 have e1:(s.heap.push W.emptyDict).get? s.heap.objs.size=some W.emptyDict:=a8 s.heap rfl;have e2:((s.heap.push W.emptyDict).push (W.instObj C s.heap.objs.size)).get? (s.heap.objs.size+1)=some (W.instObj C s.heap.objs.size):=by
  have:=a8 (s.heap.push W.emptyDict) (o:=W.instObj C s.heap.objs.size) rfl
  rwa [Heap.size_push]at this
 have e3:(s.heap.push W.emptyDict).Ns s.heap.objs.size (λ_=>none):=⟨W.emptyDict,#[],_,e1,rfl,(λe he=>absurd he (by simp)),λ_=>rfl⟩;have I1:=I.laid (a:=s.heap.objs.size) (o:=.own (s.heap.objs.size+1)) (h':=s.heap.push W.emptyDict) (t':=s.toks) (λb u q=>ay _ q) (ai _) ⟨_,e1⟩;refine I1.laid (a:=s.heap.objs.size+1) (o:=.ins C s.heap.objs.size []) (t':=s.toks) (λb u q=>ay _ q) (i6 (Heap.size_push _ _)) ?_;have ne:s.heap.objs.size≠s.heap.objs.size+1:=be (df _);refine⟨by rw[upd_ne ne,upd_same],bh _,ne,e2,λ_=>none,(Heap.Ns1.of_empty e3).at λo q=>ay _ q,λ_=>tJ,λy hy=>absurd rfl hy⟩
theorem attr_of (hb:attributeBase e f env (eval e env)=eval e env)
  (h:wpAny (model prog w) A (eval e env) (λo s₁=>wpAny (model prog w) A (getAttr o f true) Q E s₁) E s):wpAny (model prog w) A (eval (.Attribute e f pos) env) Q E s:=
 Attribute_any_ h (by rw[arm_eval_Attribute,hb])
end
def tFld (K:Fg)(ta:TE)(f:Str):TE:=λσ H Q=>ta σ H λx H1=>∃a C dx fs v,x=.ref a/\H1 a=some (.ins C dx fs)/\Cls K C/\NoAttr K C f/\fs.lookup f=some v/\Q v H1
def sFld (K:Fg)(ta tv:TE)(f:Str):TS:=λD σ H=>tv σ H λy H1=>ta σ H1 λx H2=>∃a C dx fs,x=.ref a/\H2 a=some (.ins C dx fs)/\Cls K C/\NoAttr K C f/\fs.length<1000 /\
 D.nx σ (upd H2 a (.ins C dx (putF f y fs)))
section
variable {X:Cx}{o e value:Expr}{f:Str}{pos pos' tpos:Pos}{ta tv:TE}
theorem pe_fld (he:PE X e ta)(hb:attributeBase e f X.env (eval e X.env)=eval e X.env):PE X (.Attribute e f pos) (tFld X.K ta f):=by intro pins s σ H Q I h;refine attr_of hb (thn (he pins s σ H _ I h) λu s1 ⟨x,H1,I1,rx,a,C,dx,fs,v,ex,ea,c,n,l,q⟩=>?_);subst ex;obtain rfl:u=Value.ref a:=rx;exact getattr_ok I1 ea c n l λu' s2 I2 ru=>⟨v,H1,I2,ru,q⟩
theorem ps_fld (ha:PE X o ta)(hv:PE X value tv)(hs:swapsWith value (some (.Attribute o f pos')) pos.line X.env=pure false):PS X (.Assign [.Attribute o f pos'] value pos) (sFld X.K ta tv f):=by intro pins s σ H D I h;refine plainObj_wpAny_Assign_Attribute (thn (hv pins s σ H _ I h) λu s1 ⟨y,H1,I1,ry,q⟩=>thn (ha pins s1 σ H1 _ I1 q) λov s2 ⟨x,H2,I2,rx,a,C,dx,fs,ex,ea,c,n,l,q2⟩=>?_) hs;subst ex;obtain rfl:ov=Value.ref a:=rx;exact setattr_ok I2 ea c n l ry λs3 I3=>⟨σ,_,I3,q2⟩
end
section
variable {X:Cx}{pins:List (Addr×Obj)}{σ:St}{H:Hp}{s:Shared}{A:Around}{E:Value->Shared->Prop}{Q:Value->Shared->Prop}{c:Value}{b:Bool}
inductive TyOf (K:Fg)(H:Hp):V->Value->Prop where
 |non:TyOf K H .non (.type "NoneType")
 |bl (x:Bool):TyOf K H (.bl x) (.type "bool")
 |int (i:Int):TyOf K H (.int i) (.type "int")
 |str (x:Str):TyOf K H (.str x) (.type "str")
 |flt (x:UInt64):TyOf K H (.flt x) (.type "float")
 |lst {a:Addr} {xs:List V} (e:H a=some (.lst xs)):TyOf K H (.ref a) (.type "list")
 |frz {a:Addr} {o:Obj} {xs:List V} (e:H a=some (.frz o (.lst xs))):TyOf K H (.ref a) (.type "list")
 |tup {a:Addr} {xs:List V} (e:H a=some (.tup xs)):TyOf K H (.ref a) (.type "tuple")
 |dK {a:Addr} {kvs:List (Key×V)} (e:H a=some (.dK kvs)):TyOf K H (.ref a) (.type "dict")
 |dT {a:Addr} {kvs:List (List Key×V)} (e:H a=some (.dT kvs)):TyOf K H (.ref a) (.type "dict")
 |ins {a C dx:Addr} {fs:List (Str×V)} (e:H a=some (.ins C dx fs)) (cl:Cls K C) (ha:W.findIn K (.ref C) "__class__"=some (some (.builtin "object.__class__")))
   (hn:W.specialIn K (.builtin "object.__class__") "__get__"=some (some (.builtin "getset_descriptor.__get__"))) (htk:W.takesIn K (.builtin "object.__class__")=some true)
   (hm:W.mroIn K C (.type "object")=some true):TyOf K H (.ref a) (.ref C)
theorem isinst_ok (I:Inv X pins σ H s)(rx:RelV x u)(ty:TyOf X.K H x t)(e:W.kitOne X.K t c=some b)(h:∀tk,Q (.bool b) { s with toks:=tk }) :
  wpAny (model X.prog X.w) A (call (.builtin "isinstance") [u,c]) Q E s:=by
 cases ty with
 |non=>cases (show u=Value.none from rx);exact cg W.kitx_none I.kIn tJ e (λz=>nomatch z) h
 |bl y=>cases (show u=Value.bool y from rx);exact cg W.kitx_bool I.kIn tJ e (λz=>nomatch z) h
 |int i=>obtain⟨t,q⟩:=(show ∃t,u=Value.int i t from rx);cases q;exact cg W.kitx_int I.kIn tJ e (λz=>nomatch z) h
 |str y=>obtain⟨t,q⟩:=(show ∃t,u=Value.str y t from rx);cases q;exact cg W.kitx_str I.kIn tJ e (λz=>nomatch z) h
 |flt y=>obtain⟨t,q⟩:=(show ∃t,u=Value.float y t from rx);cases q;exact cg W.kitx_float I.kIn tJ e (λz=>nomatch z) h
 |@lst a xs ea=>cases (show u=Value.ref a from rx);obtain⟨_,_,n,_,h1⟩:=(show ObjOk X.prog X.w H s.heap a (.lst xs) from I.hok a _ ea);exact cg W.kitx_list I.kIn ⟨_,h1,rfl⟩ e (λz=>nomatch z) h
 |@frz a ob xs ea=>cases (show u=Value.ref a from rx);obtain⟨_,_,_,n,_,h1⟩:=(show ObjOk X.prog X.w H s.heap a (.frz ob (.lst xs)) from I.hok a _ ea);exact cg W.kitx_list I.kIn ⟨_,h1,rfl⟩ e (λz=>nomatch z) h
 |@tup a xs ea=>cases (show u=Value.ref a from rx);obtain⟨_,_,_,p⟩:=(show ObjOk X.prog X.w H s.heap a (.tup xs) from I.hok a _ ea);obtain⟨o,h1,h2,_⟩:=p;exact cg W.kitx_tuple I.kIn ⟨o,h1,h2⟩ e (λz=>nomatch z) h
 |@dK a kvs ea=>cases (show u=Value.ref a from rx);obtain⟨_,_,vs,_,p⟩:=(show ObjOk X.prog X.w H s.heap a (.dK kvs) from I.hok a _ ea);obtain⟨o,es,ep,h1,h2,_⟩:=p;exact cg W.kitx_dict I.kIn ⟨o,h1,h2.1⟩ e (λz=>nomatch z) h
 |@dT a kvs ea=>cases (show u=Value.ref a from rx);obtain⟨_,_,xs,_,o,es,ep,h1,h2,_⟩:=(show ObjOk X.prog X.w H s.heap a (.dT kvs) from I.hok a _ ea);exact cg W.kitx_dict I.kIn ⟨o,h1,h2.1⟩ e (λz=>nomatch z) h
 |@ins a C dx fs ea cl ha hn htk hm=>cases (show u=Value.ref a from rx);obtain⟨mA,O,_⟩:=ins_get I.hok ea;obtain⟨od,J,_⟩:=O.look;exact cg (W.kitx_own (cl.get _) cl.hd ha hn htk hm) I.kIn J e (λz=>nomatch z) h
end
structure Room (k:Nat)(A:Around):Prop where
 hd:A.handled=none
 dp:A.depth+3*k+5<recursionLimit
 un:A.units+16*k+200<cLine
theorem Room.mono (r:Room k A)(h:j<=k):Room j A:=⟨r.hd,by have:=r.dp;lia,by have:=r.un;lia⟩
theorem Room.deeper (r:Room (k+1) A)(env:Env):Room k (A.deeper env):=
 ⟨r.hd,by have:=r.dp;show A.depth+1+3*k+5<_;lia,by have:=r.un;show A.units+3+16*k+200<_;lia⟩
theorem Room.in1 (r:Room (k+1) A):Room k A.in1:=
 ⟨r.hd,by have:=r.dp;show A.depth+3*k+5<_;lia,by have:=r.un;show A.units+1+16*k+200<_;lia⟩
theorem make_depth {A:Around}{C:Addr}{us:Lv}{kw:List (Str×Value)}:(A.under (.builtin "type.__call__" ⟨.ref C::us,kw⟩)).depth=A.depth+1:=by
 first|rfl|simp[Around.under,Code.weight,Code.isCreation,Code.isGuard,Code.isCaller,Code.frames,Code.isFrame,guardIds]
theorem make_units {A:Around}{C:Addr}{us:Lv}{kw:List (Str×Value)}:(A.under (.builtin "type.__call__" ⟨.ref C::us,kw⟩)).units=A.units+1:=by
 first|rfl|simp[Around.under,Code.cUnits,Code.frames,Code.isFrame]
theorem Room.make (r:Room (k+1) A)(C:Addr)(us:Lv)(kw:List (Str×Value)):Room k (A.under (.builtin "type.__call__" ⟨.ref C::us,kw⟩)):=
 ⟨r.hd,by have:=r.dp;rw[make_depth];lia,by have:=r.un;rw[make_units];lia⟩
theorem Room.depth (r:Room k A):A.depth<recursionLimit:=by have:=r.dp;lia
theorem Room.units (r:Room k A):A.units+64<cLine:=by have:=r.un;lia
def tNil:TA:=λ_ H Q=>Q [] H
def tCons (ta:TE)(tr:TA):TA:=λσ H Q=>ta σ H λx H1=>tr σ H1 λxs H2=>Q (x::xs) H2
section
variable {X:Cx}{e:Expr}{es:List Expr}{te:TE}{t:TA}{pos:Pos}
theorem pa_nil:PA X [] tNil:=λ_ _ _ _ H Q I h=>Calls.spliced_nil ⟨[],H,I,.nil,h⟩
theorem pa_cons (ha:PE X e te)(hr:PA X es t)(hs:starEach (e::es) X.env=(false,eval e X.env)::starEach es X.env:=by rfl):PA X (e::es) (tCons te t):=by intro pos pins s σ H Q I h;rw[hs];show wpAny _ _ (spliced ((false,eval e X.env)::backTo pos (starEach es X.env))) _ _ s;refine Calls.spliced_cons (thn (ha pins s σ H _ I h) λu s1 ⟨x,H1,I1,r1,q1⟩=>?_);exact thn (hr pos pins s1 σ H1 _ I1 q1) λus s2 ⟨xs,H2,I2,r2,q2⟩=>⟨x::xs,H2,I2,.cons r1 r2,q2⟩
def tTup (t:TA):TE:=λσ H Q=>t σ H λxs H1=>xs.length<=sizeLine/\∀p,H1 p=none->Q (.ref p) (upd H1 p (.tup xs))
def tLst (t:TA):TE:=λσ H Q=>t σ H λxs H1=>xs.length<=sizeLine/\∀p,H1 p=none->Q (.ref p) (upd H1 p (.lst xs))
theorem pe_tup (h:PA X es t):PE X (.Tuple es x1 pos) (tTup t):=by intro pins s σ H Q I hq;refine wpAny_Tuple_spliced (thn (h pos pins s σ H _ I hq) λus s1 ⟨xs,H1,I1,r,z,q⟩=>⟨by rw[<- r.length];exact z,?_⟩);have hf:H1 s1.heap.objs.size=none:=I1.hok.fresh (ai _);refine⟨.ref s1.heap.objs.size,upd H1 s1.heap.objs.size (.tup xs),I1.laid (t':=s1.toks) (λb u e=>ay _ e) (ai _) ?_,rfl,q _ hf⟩;exact⟨z,us,r,⟨_,a8 _ rfl,rfl,_,rfl⟩⟩
theorem pe_lst (h:PA X es t):PE X (.List es pos) (tLst t):=by intro pins s σ H Q I hq;refine wpAny_List_spliced (thn (h pos pins s σ H _ I hq) λus s1 ⟨xs,H1,I1,r,z,q⟩=>⟨by rw[<- r.length];exact z,?_⟩);have hf:H1 s1.heap.objs.size=none:=I1.hok.fresh (ai _);refine⟨.ref s1.heap.objs.size,upd H1 s1.heap.objs.size (.lst xs),I1.laid (t':=s1.toks) (λb u e=>ay _ e) (ai _) ?_,rfl,q _ hf⟩;exact⟨z,us,0,r,a8 _ rfl⟩
end
abbrev Sp:=List V->Hp->VK->XK->Prop
abbrev CXT:=List Env->Hp->Shared->XK->Value->Shared->Prop
structure Env0 (P:Program)(w:World)(K:Fg)(mg:Mg)(base:Heap)(A:Around)(outer:List Env)(s:Shared)(H:Hp):Prop where
 frames:A.frames=some outer
 mod:Mod K mg base
 bs:∀b o,base.get? b=some o->s.heap.get? b=some o/\H b=none
 bsz:base.objs.size<=s.heap.objs.size
 funs:s.heap.FunFrames base outer
 frf:Frf K H (frs outer)
 hok:HOk P w H s.heap
 bare:AllBare s.gens
def CE (outer:List Env)(P:Program)(w:World)(H:Hp)(s:Shared)(Q:VK)(u:Value)(s':Shared):Prop:=
 ∃v H',s'.os=s.os/\AllBare s'.gens/\Un (frs outer) [] H H' s.heap s'.heap/\HOk P w H' s'.heap/\RelV v u/\Q v H'
def CR (CX:CXT)(outer:List Env)(P:Program)(w:World)(H:Hp)(s:Shared)(Q:VK)(E:XK)(r:Result)(s':Shared):Prop:=
 match r with
 | .ok (.ret u)=>CE outer P w H s Q u s'
 | .ok _=>False
 | .error e=>CX outer H s E e s'
structure FnOk (P:Program)(w:World)(K:Fg)(mg:Mg)(base:Heap)(CX:CXT)(k:Nat)(f:Addr)(fd:FuncData)(ps:List Str)(sp:Sp):Prop where
 len:∀vs H Q E,sp vs H Q E->vs.length=ps.length
 run:∀(A:Around) (outer:List Env) (s:Shared) (H:Hp) (args:Args) (us:List Value) (vs:List V) (Q:VK) (E:XK),Room k A->Env0 P w K mg base A outer s H->BindsTo s fd args (ps.zip us)->Vals vs us->sp vs H Q E ->
  codeAny (model P w) A (.call (.ref f) args) (CR CX outer P w H s Q E) s
theorem FnOk.mono {P:Program}{w:World}{K:Fg}{mg:Mg}{base:Heap}{CX:CXT}{j k:Nat}{f:Addr}{fd:FuncData}{ps:Ls}{sp:Sp}(F:FnOk P w K mg base CX j f fd ps sp)(h:j<=k) :
  FnOk P w K mg base CX k f fd ps sp:=⟨F.len,λA outer s H args us vs Q E hr=>F.run A outer s H args us vs Q E (hr.mono h)⟩
theorem FnOk.imp {P:Program}{w:World}{K:Fg}{mg:Mg}{base:Heap}{CX:CXT}{k:Nat}{f:Addr}{fd:FuncData}{ps:Ls}{sp sp':Sp}(F:FnOk P w K mg base CX k f fd ps sp)
  (h:∀vs H Q E,sp' vs H Q E->sp vs H Q E):FnOk P w K mg base CX k f fd ps sp':=
 ⟨λvs H Q E q=>F.len vs H Q E (h _ _ _ _ q),λA outer s H args us vs Q E hr he hb hv hs=>F.run A outer s H args us vs Q E hr he hb hv (h _ _ _ _ hs)⟩
theorem Env0.make {P:Program}{w:World}{K:Fg}{mg:Mg}{base:Heap}{A:Around}{outer:List Env}{s:Shared}{H:Hp}(e:Env0 P w K mg base A outer s H)(C:Addr)(us:Lv)(kw:List (Str×Value)) :
  Env0 P w K mg base (A.under (.builtin "type.__call__" ⟨.ref C::us,kw⟩)) outer s H:=⟨by first|exact e.frames|(simpa [Around.under,Code.envs,Code.isFrame,pushEnvs] using e.frames),e.mod,e.bs,e.bsz,e.funs,e.frf,e.hok,e.bare⟩
theorem Env0.in1 {P:Program}{w:World}{K:Fg}{mg:Mg}{base:Heap}{A:Around}{outer:List Env}{s:Shared}{H:Hp}(e:Env0 P w K mg base A outer s H) :
  Env0 P w K mg base A.in1 outer s H:=⟨e.frames,e.mod,e.bs,e.bsz,e.funs,e.frf,e.hok,e.bare⟩
section
variable {X:Cx}{pins:List (Addr×Obj)}{σ:St}{H:Hp}{s s':Shared}
theorem Inv.env0 (I:Inv X pins σ H s):Env0 X.prog X.w X.K X.mg X.base X.A X.stack s H:=
 ⟨I.ok.frames,I.ok.mod,I.bs,aC I.ok.bsz I.sz,I.stack,⟨I.stkFree,λx h=>let ⟨ps,e⟩:=I.ok.frf.t x h;let ⟨more,e'⟩:=I.base.tbls x.2.1 _ e;⟨ps++more,e'⟩⟩,I.hok,I.bare⟩
theorem Inv.after (I:Inv X pins σ H s)(h:CE X.stack X.prog X.w H s Q u s'):EP X pins σ Q u s':=by obtain⟨v,H',os,bare,un,hok,r,q⟩:=h;obtain⟨hh,g,d,t,os'⟩:=s';obtain rfl:os'=s.os:=os;exact⟨v,H',I.call (h':=hh) (g':=g) (d':=d) (t':=t) (ch:=[]) un hok bare (λb z=>absurd z (by simp)),r,q⟩
end
def tCall (sp:Sp)(dvs:List V)(E:XK)(t:TA):TE:=λσ H Q=>t σ H λvs H1=>sp (vs++dvs) H1 Q E
def tMeth (C:Addr)(m:Str)(sp:Sp)(dvs:List V)(E:XK)(ta:TE)(t:TA):TE:=λσ H Q=>ta σ H λx H1=>∃a dx fs,x=.ref a/\H1 a=some (.ins C dx fs)/\fs.lookup m=none /\
 t σ H1 λvs H2=>sp (x::(vs++dvs)) H2 Q E
def tMake (C:Addr)(sp:Sp)(dvs:List V)(E:XK)(t:TA):TE:=λσ H Q=>t σ H λvs H1=>∀x dx,H1 x=none->H1 dx=none->dx≠x ->
 sp (.ref x::(vs++dvs)) (upd (upd H1 dx (.own x)) x (.ins C dx [])) (λv H2=>v=.non/\Q (.ref x) H2) E
def Binds (K:Fg)(fd:FuncData)(ps:List Str)(ds:List Value):Prop:=
 ∀(s:Shared) (us:List Value),K.In s.heap->(us++ds).length=ps.length->BindsTo s fd ⟨us,[]⟩ (ps.zip (us++ds))
theorem Binds.all {K:Fg}{fd:FuncData}{ps:Ls}(h:∀us:List Value,us.length=ps.length->bindArgs fd ⟨us,[]⟩=pure (ps.zip us)):Binds K fd ps []:=λs us _ hl=>by rw[bu]at hl ⊢;exact .of_eq (h us hl)
def Passes (CX:CXT)(X:Cx)(E:XK):Prop:=∀(pins:List (Addr×Obj)) (σ:St) (H:Hp) (s:Shared) (e:Value) (s':Shared),Inv X pins σ H s->CX X.stack H s E e s' -> X.xe e s'
section
variable {X:Cx}{CX:CXT}{k:Nat}{f C:Addr}{fd:FuncData}{ps:List Str}{sp:Sp}{dvs:List V}{ds:List Value}{E:XK}{x m:Str}{p pos apos:Pos}{e o:Expr}{es:List Expr}{ta:TE}{t:TA}
theorem run_fn (F:FnOk X.prog X.w X.K X.mg X.base CX k f fd ps sp)(hr:Room k X.A)(hb:Binds X.K fd ps ds)(hd:Vals dvs ds)(hx:Passes CX X E)
  (I:Inv X pins σ H s) (r:Vals vs us) (h:sp (vs++dvs) H Q E):wpAny (model X.prog X.w) X.A (call (.ref f) us) (EP X pins σ Q) X.xe s:=by
 have r2:Vals (vs++dvs) (us++ds):=r.append hd;have hl:(us++ds).length=ps.length:=by rw[<- r2.length];exact F.len _ _ _ _ h
 refine iB (f8 (F.run X.A X.stack s H ⟨us,[]⟩ (us++ds) (vs++dvs) Q E hr I.env0 (hb s us I.kIn hl) r2 h) λr s' hq=>?_);cases r with
 |error e=>exact hx pins σ H s e s' I hq
 |ok fl=>
  cases fl with
  |ret u=>exact I.after hq
  |next=>exact False.elim hq
  |brk=>exact False.elim hq
  |cont=>exact False.elim hq
theorem pe_call (F:FnOk X.prog X.w X.K X.mg X.base CX k f fd ps sp)(hr:Room k X.A)(hg:Gl X x)(hm:X.mg x=some (.ref f))(hk:W.keepIn X.K (.ref f)=true)(hb:Binds X.K fd ps ds)(hd:Vals dvs ds)(hx:Passes CX X E)
  (ha:PA X (e::es) t) (hdb:(x == ("__debug__":Str))=false:=by decide) (he:starEach (e::es) X.env=(false,eval e X.env)::starEach es X.env:=by rfl) (hpl:(backTo pos (starEach es X.env)).any (·.1)=false:=by rfl) :
  PE X (.Call (.Name x p) (e::es) [] pos) (tCall sp dvs E t):=by
 intro pins s σ H Q I h;refine cu (ld_glob I hg hm ?_ hdb);refine dG (h₀:=X.base) I.ok.mod.kin hk (thn (ha pos pins s σ H _ I h) λus s1 ⟨vs,H1,I1,r,q⟩=>⟨I1.kIn,?_⟩) he hpl;exact run_fn F hr hb hd hx I1 r q
theorem pe_meth (he:PE X o ta)(c:Cls X.K C)(hm:Meth X.K C m f)(F:FnOk X.prog X.w X.K X.mg X.base CX k f fd ps sp)(hr:Room k X.A)(hb:Binds X.K fd ps ds)(hd:Vals dvs ds)(hx:Passes CX X E)(ha:PA X (e::es) t)
  (hst:starEach (e::es) X.env=(false,eval e X.env)::starEach es X.env:=by rfl) (hpl:(backTo pos (starEach es X.env)).any (·.1)=false:=by rfl)
  (ht:eval (.Call (.Attribute o m apos) (e::es) [] pos) X.env=(do
   let ov <- eval o X.env
   standAt apos.atName
   let (f,first) <- holding [ov] (getMethod ov m pl)
   callWith pos f first (backTo pos (starEach (e::es) X.env)) (backToKw pos (keywordEach [] X.env))):=by rfl) :
  PE X (.Call (.Attribute o m apos) (e::es) [] pos) (tMeth C m sp dvs E ta t):=by
 intro pins s σ H Q I h;refine hW (pl:=pl) (thn (he pins s σ H _ I h) λu s1 ⟨x,H1,I1,rx,a,dx,fs,ex,ea,l,q⟩=>?_) ht;subst ex;obtain rfl:u=Value.ref a:=rx;refine getmeth_ok I1 ea c hm l ?_;refine dG (first:=[.ref a]) (h₀:=X.base) I.ok.mod.kin hm.kp (thn (ha pos pins s1 σ H1 _ I1 q) λus s2 ⟨vs,H2,I2,r,q2⟩=>⟨I2.kIn,?_⟩) hst hpl
 exact run_fn (us:=.ref a::us) (vs:=.ref a::vs) F hr hb hd hx I2 (.cons rfl r) q2
structure Mk (K:Fg)(C f:Addr):Prop where
 makes:W.makesIn K C=true
 init:W.findIn K (.ref C) "__init__"=some (some (.ref f))
 fn:W.isFn K (.ref f)=true
 kp:W.keepIn K (.ref C)=true
theorem run_make (M:Mk X.K C f)(F:FnOk X.prog X.w X.K X.mg X.base CX k f fd ps sp)(hr:Room (k+1) X.A)(hb:Binds X.K fd ps ds)(hd:Vals dvs ds)
  (hx:Passes CX X E) (I:Inv X pins σ H s) (r:Vals vs us)
  (h:∀x dx,H x=none->H dx=none->dx≠x->sp (.ref x::(vs++dvs)) (upd (upd H dx (.own x)) x (.ins C dx [])) (λv H2=>v=.non/\Q (.ref x) H2) E) :
  wpAny (model X.prog X.w) X.A (call (.ref C) us) (EP X pins σ Q) X.xe s:=by
 have hq:=h (s.heap.objs.size+1) s.heap.objs.size (I.hok.fresh (iM _)) (I.hok.fresh (ai _)) (be (df _));have I2:=Inv.made (C:=C) I;have r2:Vals (V.ref (s.heap.objs.size+1)::(vs++dvs)) (Value.ref (s.heap.objs.size+1)::(us++ds)):=.cons rfl (r.append hd);have hl:(Value.ref (s.heap.objs.size+1)::us++ds).length=ps.length:=by have e:=r2.length;rw[F.len _ _ _ _ hq]at e;exact e.symm
 refine iB (make_map (f:=f) I.kIn M.makes M.init (beq_iff_eq.mp M.fn) (f8 (F.run _ X.stack _ _ ⟨Value.ref (s.heap.objs.size+1)::us,[]⟩ (Value.ref (s.heap.objs.size+1)::(us++ds)) _ _ E (hr.make C us [])
  (I2.env0.make C us []) (hb _ (Value.ref (s.heap.objs.size+1)::us) I2.kIn hl) r2 hq) λr s' hq'=>?_))
 cases r with
 |error e=>exact hx pins σ _ _ e s' I2 hq'
 |ok fl=>
  cases fl with
  |ret u=>obtain⟨v,H',I3,rv,ev,q3⟩:=I2.after hq';subst ev;exact⟨rv,⟨V.ref (s.heap.objs.size+1),H',I3,rfl,q3⟩⟩
  |next=>exact False.elim hq'
  |brk=>exact False.elim hq'
  |cont=>exact False.elim hq'
theorem pe_make (M:Mk X.K C f)(F:FnOk X.prog X.w X.K X.mg X.base CX k f fd ps sp)(hr:Room (k+1) X.A)(hg:Gl X x)(hm:X.mg x=some (.ref C))(hb:Binds X.K fd ps ds)(hd:Vals dvs ds)(hx:Passes CX X E)
  (ha:PA X (e::es) t) (hdb:(x == ("__debug__":Str))=false:=by decide) (he:starEach (e::es) X.env=(false,eval e X.env)::starEach es X.env:=by rfl) (hpl:(backTo pos (starEach es X.env)).any (·.1)=false:=by rfl) :
  PE X (.Call (.Name x p) (e::es) [] pos) (tMake C sp dvs E t):=by
 intro pins s σ H Q I h;refine cu (ld_glob I hg hm ?_ hdb);refine dG (h₀:=X.base) I.ok.mod.kin M.kp (thn (ha pos pins s σ H _ I h) λus s1 ⟨vs,H1,I1,r,q⟩=>⟨I1.kIn,?_⟩) he hpl;exact run_make M F hr hb hd hx I1 r q
end
structure FnScope (N P:List Str)(sc:Scope):Prop where
 kind:sc.kind=.function
 co:sc.isCoroutine=false
 gen:sc.isGenerator=false
 nd:N.Nodup
 pre:N.take P.length=P
 par:∀x∈P,sc.names.lookup x=some .local\/sc.names.lookup x=some .cell
 nofree:∀y∈sc.names,y.2 ≠ .free
theorem bindL_out {kindOf:Str->Option NameKind}:∀{binds:List (Str×Value)} {m:Mg},(∀v,(x,v)∉binds)->bindL kindOf binds m x=m x
 |[],_,_=>rfl
 |(n,v)::r,m,h=>by
  unfold bindL;rw[bindL_out λw hw=>h w (ad _ hw)];split
  ·have:x≠n:=by rintro rfl;exact h v ag
   simp[this]
  ·rfl
theorem bindC_out {kindOf:Str->Option NameKind}:∀{binds:List (Str×Value)} {m:Mg},(∀v,(x,v)∉binds)->bindC kindOf binds m x=m x
 |[],_,_=>rfl
 |(n,v)::r,m,h=>by
  unfold bindC;rw[bindC_out λw hw=>h w (ad _ hw)];split
  ·rfl
  ·have:x≠n:=by rintro rfl;exact h v ag
   simp[this]
theorem bindL_get {kindOf:Str->Option NameKind}:∀{P:Ls} {vs:Lv} {i:Nat} {m:Mg},P.Nodup->P[i]?=some x->vs[i]?=some v->kindOf x=some .local ->
  bindL kindOf (P.zip vs) m x=some v
 |[],_,_,_,_,h,_,_=>by simp at h
 |_::_,[],_,_,_,_,h,_=>by simp at h
 |p::P,w::vs,0,m,nd,h1,h2,hk=>by simp at h1 h2;subst h1;subst h2;show bindL kindOf ((p,w)::P.zip vs) m p=_;unfold bindL;rw[bindL_out λv hv=>(cN.mp nd).1 (c7 hv).1,af hk];simp
 |p::P,w::vs,i+1,m,nd,h1,h2,hk=>by show bindL kindOf ((p,w)::P.zip vs) m x=_;unfold bindL;exact bindL_get (i:=i) (cN.mp nd).2 (by simpa using h1) (by simpa using h2) hk
theorem bindC_get {kindOf:Str->Option NameKind}:∀{P:Ls} {vs:Lv} {i:Nat} {m:Mg},P.Nodup->P[i]?=some x->vs[i]?=some v->kindOf x≠some .local ->
  bindC kindOf (P.zip vs) m x=some v
 |[],_,_,_,_,h,_,_=>by simp at h
 |_::_,[],_,_,_,_,h,_=>by simp at h
 |p::P,w::vs,0,m,nd,h1,h2,hk=>by simp at h1 h2;subst h1;subst h2;show bindC kindOf ((p,w)::P.zip vs) m p=_;unfold bindC;rw[bindC_out λv hv=>(cN.mp nd).1 (c7 hv).1,ae hk];simp
 |p::P,w::vs,i+1,m,nd,h1,h2,hk=>by show bindC kindOf ((p,w)::P.zip vs) m x=_;unfold bindC;exact bindC_get (i:=i) (cN.mp nd).2 (by simpa using h1) (by simpa using h2) hk
def start (N:List Str)(vs:List V):St:=vs.map some++List.replicate (N.length-vs.length) none
def cxOf (CX:CXT)(P:Program)(w:World)(K:Fg)(mg:Mg)(base:Heap)(N:List Str)(qual:Str)(scope:Scope)(f:Addr)(cd:Value)(A:Around)(outer:List Env)(s:Shared)(H:Hp)(E:XK):Cx where
 prog:=P
 w:=w
 K:=K
 mg:=mg
 base:=base
 A:=A.deeper (envOfC qual scope s.heap.objs.size f cd)
 N:=N
 s₀:=s
 H₀:=H
 env:=envOfC qual scope s.heap.objs.size f cd
 outer:=outer
 stack:=envOfC qual scope s.heap.objs.size f cd::outer
 ex:=[]
 calm:=true
 fn:=λ_=>true
 pn:=[]
 xe:=λe s'=>wpAny (model P w) (A.deeper (envOfC qual scope s.heap.objs.size f cd)) (leaving (envOfC qual scope s.heap.objs.size f cd) e) (λ_ s''=>CX outer H s E e s'') (λe' s''=>CX outer H s E e' s'') s'
theorem cell_has {sc:Scope}{n:Nat}{x:Str}(h:sc.names.lookup x=some .cell):∃c,(cellsFrom n sc.names []).lookup x=some c:=by have q:=hO sc.names n [] (.inl h);exact cQ.mp q
theorem inv_start {CX:CXT}{P:Program}{w:World}{K:Fg}{mg:Mg}{base:Heap}{N ps:Ls}{qual:Str}{scope:Scope}{f:Addr}{cd:Value}{A:Around}{outer:List Env}{s s1:Shared}{H:Hp}{E:XK}{us:Lv}{vs:List V}
  (S:FnScope N ps scope) (hd:A.handled=none) (e0:Env0 P w K mg base A outer s H) (hl:vs.length=ps.length) (r:Vals vs us)
  (x:InCallC s s.heap.objs.size (bindL (envOfC qual scope s.heap.objs.size f cd).kindOf (ps.zip us) λ_=>none) (cellsFrom (s.heap.objs.size+1) scope.names []) (bindC (envOfC qual scope s.heap.objs.size f cd).kindOf (ps.zip us) λ_=>none) s1) :
  Inv (cxOf CX P w K mg base N qual scope f cd A outer s H E) [] (start N vs) H s1:=by
 have hpl:ps.length<=N.length:=by have:=congrArg List.length S.pre;rw[aI]at this;lia
 obtain⟨h1,tk,rfl,hk⟩:=x.done;have noA:∀b:Addr,b∉(cxOf CX P w K mg base N qual scope f cd A outer s H E).ex:=λb z=>absurd (show b∈([]:List Addr) from z) (by simp);refine⟨⟨e0.mod,S.kind,rfl,rfl,ai _,λy z c h1 h2=>?_,λy hy=>?_,λy c _ h=>?_,λ_=>hd,Around.frames_deeper e0.frames,.inr ⟨rfl,rfl⟩,λb z=>absurd z (noA b),e0.bs,e0.bsz,λb _ _=>noA b,λb z=>absurd z (noA b),e0.funs,e0.frf⟩,
  rfl,e0.bare,Un.kept hk,⟨_,x.toInCall.ns,λi y v h1 h2 h3=>?_⟩,λy c h=>⟨_,x.cell y c h⟩,e0.hok.fresh (ai _),λy c h=>?_,λp hp=>absurd (show p∈([]:List (Addr×Obj)) from hp) (by simp),e0.hok.kept hk,?_⟩
 ·exact name_of_addr x.apart (c8 h1) (c8 h2)
 ·have hy:scope.names.lookup y=some .cell\/scope.names.lookup y=some .free:=hy;rcases hy with hy|hy
  ·exact cell_has hy
  ·exact absurd rfl (S.nofree _ (c8 hy))
 ·exact bK (x.above y c (c8 h))
 ·have hi:i<vs.length:=by
   unfold start at h2;by_cases hi:i<vs.length
   ·exact hi
   ·rw[bi (by simpa using hi)]at h2;rw[cU]at h2;split at h2<;>cases h2
  have ha:vs[i]?=some v:=by
   unfold start at h2;rw[aP (by simpa using hi),ao]at h2;cases e:vs[i]? with
   |none=>rw[e]at h2;cases h2
   |some a=>rw[e]at h2;cases h2;rfl
  obtain⟨u,hu,rv⟩:=r.get ha;have hp:ps[i]?=some y:=by rw[<- S.pre,dq (by lia)];exact h1
  have ndP:ps.Nodup:=by rw[<- S.pre];exact S.nd.sublist (List.take_sublist _ _)
  refine⟨u,rv,?_⟩;rcases S.par y (aV hp) with k|k
  ·exact .inl ⟨k,bindL_get ndP hp hu k⟩
  ·obtain⟨c,e⟩:=cell_has (n:=s.heap.objs.size+1) k;refine .inr ⟨.inl k,c,e,?_⟩;have q:=x.cell y c e;rw[bindC_get ndP hp hu (by show scope.names.lookup y≠_;rw[k];decide)]at q;exact q
 ·exact e0.hok.fresh (bK (x.above y c (c8 h)))
 ·unfold start;show _=N.length;rw[ah,aa,aN];lia
theorem fn_of {CX:CXT}{P:Program}{w:World}{K:Fg}{mg:Mg}{base:Heap}{k:Nat}{f:Addr}{name qual:Str}{params:Arguments}{body:List Stmt}{scope:Scope}{dV kV doc pm cdv ct oc:Value}{an od:Option Addr}
  {osl:Array (Option Value)} {N ps:List Str} {sp:Sp} (lk:K.lookup f=some ⟨oc,od,.func (W.fnOf name qual params body scope dV kV doc pm an cdv ct),osl⟩) (hcd:W.codeIn K cdv qual=true) (S:FnScope N ps scope)
  (len:∀vs H Q E,sp vs H Q E->vs.length=ps.length)
  (hbody:∀(A:Around) (outer:List Env) (s:Shared) (H:Hp) (vs:List V) (Q:VK) (E:XK),Room k (A.deeper (envOfC qual scope s.heap.objs.size f cdv))->sp vs H Q E ->
   ∃t,PSs (cxOf CX P w K mg base N qual scope f cdv A outer s H E) body t/\t { nx:=λ_ H'=>Q .non H',rt:=Q } (start N vs) H) :
  FnOk P w K mg base CX (k+1) f (W.fnOf name qual params body scope dV kV doc pm an cdv ct) ps sp:=by
 refine⟨len,λA outer s H args us vs Q E hr e0 hb r hsp=>?_⟩;have hl:=len _ _ _ _ hsp;have KX:K.In s.heap:=e0.mod.kin.keeps λb o e=>(e0.bs b o e).1;have lim:s.heap.NoLimit:=e0.mod.nolimit.keeps λb o e=>(e0.bs b o e).1;have hkind:∀y∈ps.zip us,scope.names.lookup y.1=some .local\/(scope.names.lookup y.1=some .cell/\((cellsFrom (s.heap.objs.size+1) scope.names []).lookup y.1).isSome=true):=λ⟨n,v⟩ hy=>by
  rcases S.par n (c7 hy).1 with q|q
  ·exact .inl q
  ·exact .inr ⟨q,hO _ _ _ (.inl q)⟩
 refine codeAny_call_function hr.depth (KX _ _ lk) rfl S.co S.gen rfl (W.codeRec_of KX hcd) (hb _ _ _ _ ?_);refine wpAny_newFunctionEnv_cells S.kind hkind λenv he s1 x=>?_;subst he;refine⟨lim.keeps x.toInCall.keep,codeAny_func ?_⟩;obtain⟨t,ht,hq⟩:=hbody A outer s H vs Q E (hr.deeper _) hsp;have I:Inv (cxOf CX P w K mg base N qual scope f cdv A outer s H E) [] (start N vs) H s1:=inv_start S hr.hd e0 hl r x;refine fO (ht [] s1 (start N vs) H _ I hq) (λfl s' hs=>?_) λe s' hs=>hs;have fin:∀{σ':St} {H':Hp} {v:V} {u:Value},Inv (cxOf CX P w K mg base N qual scope f cdv A outer s H E) [] σ' H' s' -> RelV v u->Q v H' -> CE outer P w H s Q u s':=
  λ{σ' H' v u} J rv q=>⟨v,H',J.os,J.bare,J.base,J.hok,rv,q⟩
 cases fl with
 |ret u=>obtain⟨v,σ',H',J,rv,q⟩:=hs;exact fin J rv q
 |next=>obtain⟨σ',H',J,q⟩:=hs;exact fin (v:=V.non) (u:=Value.none) J rfl q
 |brk=>obtain⟨_,_,_,q⟩:=hs;exact False.elim q
 |cont=>obtain⟨_,_,_,q⟩:=hs;exact False.elim q
section
variable {X:Cx}{x:Str}{p pos:Pos}{e:Expr}{es:List Expr}{t:TA}{id T:String}{r:List V->Hp->VK->Prop}
def tCB (r:List V->Hp->VK->Prop)(t:TA):TE:=λσ H Q=>t σ H λvs H1=>r vs H1 Q
theorem pe_callB (hc:CallR X (.builtin id) r)(hg:Gl X x)(hm:X.mg x=none)(hv:bootBuiltins x=some (.builtin id))(ha:PA X (e::es) t)(hn:x≠"__name__":=by decide)(hdb:(x == ("__debug__":Str))=false:=by decide)
  (he:starEach (e::es) X.env=(false,eval e X.env)::starEach es X.env:=by rfl) (hpl:(backTo pos (starEach es X.env)).any (·.1)=false:=by rfl):PE X (.Call (.Name x p) (e::es) [] pos) (tCB r t):=by
 intro pins s σ H Q I h;refine cu (ld_blt I hg hm hv ?_ hn hdb);exact PyProof.Rows.callWith_builtin1 (thn (ha pos pins s σ H _ I h) λus s1 ⟨vs,H1,I1,r1,q1⟩=>hc pins s1 σ H1 vs us Q I1 r1 q1) he hpl
theorem pe_callTy (hc:CallR X (.type T) r)(hg:Gl X x)(hm:X.mg x=none)(hv:bootBuiltins x=some (.type T))(ha:PA X (e::es) t)(hn:x≠"__name__":=by decide)(hdb:(x == ("__debug__":Str))=false:=by decide)
  (he:starEach (e::es) X.env=(false,eval e X.env)::starEach es X.env:=by rfl) (hpl:(backTo pos (starEach es X.env)).any (·.1)=false:=by rfl):PE X (.Call (.Name x p) (e::es) [] pos) (tCB r t):=by
 intro pins s σ H Q I h;refine cu (ld_blt I hg hm hv ?_ hn hdb);exact bZ (thn (ha pos pins s σ H _ I h) λus s1 ⟨vs,H1,I1,r1,q1⟩=>hc pins s1 σ H1 vs us Q I1 r1 q1) he hpl
end
end L2
namespace HT
open PySem PyProof.Rows
section
variable {prog:Program}{w:World}{A:Around}{E:Value->Shared->Prop}{s:Shared}
def sIx (n d:Nat):Option Int->Nat
 |none=>d
 |some v=>if v<0 then(v+(n:Int)).toNat else min v.toNat n
theorem sIx_none (n d:Nat):sIx n d none=d:=rfl
theorem sIx_nat (n d k:Nat):sIx n d (some (k:Int))=min k n:=by show(if (k:Int)<0 then((k:Int)+(n:Int)).toNat else min (k:Int).toNat n)=min k n;rw[ae (by lia),aA]
end
end HT
namespace L2
open PySem PySem.Spec PyProof.Rows
abbrev TO:=St->Hp->(Option Int->Hp->Prop)->Prop
def PO (X:Cx)(e:Option Expr)(t:TO):Prop:=
 ∀(pins:List (Addr×Obj)) (s:Shared) (σ:St) (H:Hp) (Q:Option Int->Hp->Prop),Inv X pins σ H s->t σ H Q ->
  wpAny (model X.prog X.w) X.A (evalPart e X.env) (λu s'=>∃o H',Inv X pins σ H' s'/\IsPart u o/\Q o H') X.xe s
def tNoPart:TO:=λ_ H Q=>Q none H
def tPart (t:TE):TO:=λσ H Q=>t σ H λx H1=>∃i,x=.int i/\Q (some i) H1
section
variable {X:Cx}{e:Expr}{te:TE}{lo hi:Option Expr}{tl th:TO}{pos p2:Pos}
theorem po_none:PO X none tNoPart:=by intro pins s σ H Q I h;rw[evalPart_none];exact bV ⟨none,H,I,.none,h⟩
theorem po_some (h:PE X e te):PO X (some e) (tPart te):=by intro pins s σ H Q I hw;rw[evalPart_some];refine thn (h pins s σ H _ I hw) λu s1 ⟨x,H1,I1,r1,q1⟩=>?_;obtain⟨i,rfl,q⟩:=q1;obtain⟨t,rfl⟩:=r1;exact⟨some i,H1,I1,.int i t,q⟩
def SlR (X:Cx)(r:V->Option Int->Option Int->Hp->VK->Prop):Prop:=
 ∀(pins:List (Addr×Obj)) (s:Shared) (σ:St) (H:Hp) (x:V) (v vl vu:Value) (lo hi:Option Int) (sl:Addr) (Q:VK),Inv X pins σ H s->RelV x v->s.heap.IsSliceOf sl vl vu .none->IsPart vl lo->IsPart vu hi->r x lo hi H Q ->
  ∃T id,typeLookup (.type T) "__getitem__"=pure (some (.builtin id))/\s.TypeIs v T/\wpAny (model X.prog X.w) X.A (getItem v (.ref sl)) (EP X pins σ Q) X.xe s
def tSl (r:V->Option Int->Option Int->Hp->VK->Prop)(te:TE)(tl th:TO):TE:=λσ H Q=>te σ H λx H1=>tl σ H1 λl H2=>th σ H2 λu H3=>r x l u H3 Q
theorem pe_slice (hr:SlR X r)(he:PE X e te)(hl:PO X lo tl)(hu:PO X hi th):PE X (.Subscript e (.Slice lo hi none p2) pos) (tSl r te tl th):=by intro pins s σ H Q I h;refine Subscript_ (thn (he pins s σ H _ I h) λv s1 ⟨x,H1,I1,r1,q1⟩=>?_);refine wpAny_Slice (thn (hl pins s1 σ H1 _ I1 q1) λvl s2 ⟨l,H2,I2,pl,q2⟩=>thn (hu pins s2 σ H2 _ I2 q2) λvu s3 ⟨u,H3,I3,pu,q3⟩=>?_);rw[evalPart_none];refine bV ?_;have I4:Inv X pins σ H3 { s3 with heap:=s3.heap.push { cls:=.type "slice",data:=.fields #[vl,vu,.none] } }:=I3.kept (t':=s3.toks) λb ob q=>ay _ q;obtain⟨T,id,hT,ht,hg⟩:=hr pins { s3 with heap:=s3.heap.push { cls:=.type "slice",data:=.fields #[vl,vu,.none] } } σ H3 x v vl vu l u s3.heap.objs.size Q I4 r1 (Heap.IsSliceOf.new ..) pl pu q3;show wpAny (model X.prog X.w) X.A (subscriptTail e (.Slice lo hi none p2) v (.ref s3.heap.objs.size)) (EP X pins σ Q) X.xe { s3 with heap:=s3.heap.push { cls:=.type "slice",data:=.fields #[vl,vu,.none] } };exact tail_any (ops:=[.ref s3.heap.objs.size,v]) ht hT hg (by with_unfolding_all rfl)
def cutV (xs:List V)(lo hi:Option Int):List V:=(xs.drop (HT.sIx xs.length 0 lo)).take (HT.sIx xs.length xs.length hi-HT.sIx xs.length 0 lo)
theorem cutV_length (xs:List V)(lo hi:Option Int):(cutV xs lo hi).length<=xs.length:=by unfold cutV;rw[aI,aY];lia
end
def ixN (n:Nat)(i:Int):Option Nat:=if 0<=i then(if i<n then some i.toNat else none) else if -(n:Int)<=i then some (i+n).toNat else none
def atI {α:Type}(xs:List α)(i:Int):Option α:=(ixN xs.length i).bind λj=>xs[j]?
theorem ixN_seq (h:ixN n i=some j):seqIndex? i n=some j/\j<n /\ -(n:Int)<=i/\i<n:=by
 unfold ixN at h;by_cases h0:0<=i
 ·rw[af h0]at h;by_cases h1:i<n
  ·rw[af h1]at h;have e:i.toNat=j:=aF h;exact⟨by rw[iN h0 h1,e],by lia,by lia,h1⟩
  ·rw[ae h1]at h;cases h
 ·rw[ae h0]at h;by_cases h1:-(n:Int)<=i
  ·rw[af h1]at h;have e:(i+n).toNat=j:=aF h;exact⟨by rw[hZ (by lia) h1,e],by lia,h1,by lia⟩
  ·rw[ae h1]at h;cases h
theorem atI_get {α:Type}{xs:List α}{i:Int}{v:α}(h:atI xs i=some v):∃j,seqIndex? i xs.length=some j/\xs[j]?=some v/\j<xs.length /\ -(xs.length:Int)<=i/\i<xs.length:=by
 unfold atI at h;cases e:ixN xs.length i with
 |none=>rw[e]at h;cases h
 |some j=>rw[e]at h;obtain⟨h1,h2,h3,h4⟩:=ixN_seq e;exact⟨j,h1,h,h2,h3,h4⟩
theorem atI_nat {α:Type}{xs:List α}{j:Nat}{v:α}(h:xs[j]?=some v):atI xs (j:Int)=some v:=by
 have hj:j<xs.length:=(aj.mp h).1;have e:ixN xs.length (j:Int)=some j:=by unfold ixN;rw[af (by lia),af (by lia)];simp
 unfold atI;rw[e];exact h
def PlainIx (b:Expr):Prop:=∀o i,subscripted b false o i=operate [o,i] (getItem o i)
def IxR (X:Cx)(r:R2):Prop:=
 ∀(value slice:Expr) (pins:List (Addr×Obj)) (s:Shared) (σ:St) (H:Hp) (x y:V) (v u:Value) (Q:VK),Inv X pins σ H s->RelV x v->RelV y u->r x y H Q ->
  subscripted slice false v u=operate [v,u] (getItem v u)->wpAny (model X.prog X.w) X.A (subscriptTail value slice v u) (EP X pins σ Q) X.xe s
def MtR (X:Cx)(id:String)(r:V->List V->Hp->VK->Prop):Prop:=
 ∀(pins:List (Addr×Obj)) (s:Shared) (σ:St) (H:Hp) (x:V) (xs:List V) (v:Value) (us:List Value) (Q:VK),Inv X pins σ H s->RelV x v->Vals xs us->r x xs H Q ->
  wpAny (model X.prog X.w) X.A (call (.builtin id) (v::us)) (EP X pins σ Q) X.xe s
section
variable {X:Cx}{a b:Expr}{ta tb:TE}{pos:Pos}
theorem IxR.or (h:IxR X r)(h':IxR X r'):IxR X (λx y H Q=>r x y H Q\/r' x y H Q):=by
 intro value slice pins s σ H x y v u Q I rx ry q hs;rcases q with q|q
 ·exact h value slice pins s σ H x y v u Q I rx ry q hs
 ·exact h' value slice pins s σ H x y v u Q I rx ry q hs
theorem pe_ix (hr:IxR X r)(ha:PE X a ta)(hb:PE X b tb)(hs:PlainIx b):PE X (.Subscript a b pos) (tOp r ta tb):=by intro pins s σ H Q I h;exact Subscript_ (binT ha hb I h λv u s2 x y H2 I2 rx ry q=>hr a b pins s2 σ H2 x y v u Q I2 rx ry q (hs _ _))
def rIxL (K:Fg):R2:=λx y H Q=>∃p xs i v,x=.ref p/\y=.int i/\SqL K H p xs/\atI xs i=some v/\Q v H
def rIxT (K:Fg):R2:=λx y H Q=>∃p xs i v,x=.ref p/\y=.int i/\SqT K H p xs/\atI xs i=some v/\Q v H
def rIxS:R2:=λx y H Q=>∃z i c,x=.str z/\y=.int i/\z.length<=sizeLine/\atI z.cps.toList i=some c/\Q (.str ⟨#[c]⟩) H
theorem ix_list:IxR X (rIxL X.K):=by
 intro value slice pins s σ H x y v u Q I rx ry h hs;obtain⟨p,xs,i,z,rfl,rfl,hq,he,q⟩:=h;cases rx;obtain⟨t,rfl⟩:=ry;obtain⟨its,r,pl,hz⟩:=I.list hq;obtain⟨j,h1,h2,h3,h4,h5⟩:=atI_get he;obtain⟨w,ew,rw'⟩:=r.get h2;have hl:=r.length;have hn:=line63;have fin:EP X pins σ Q w s:=⟨z,H,I,rw',q⟩;by_cases h0:0<=i
 ·have hj:i.toNat=j:=by rw[iN h0 h5]at h1;exact aF h1
  exact item_listR pl.isList h0 (by lia) (by rw[hj];simpa using ew) fin hs
 ·have hj:(i+(its.toArray.size:Int)).toNat=j:=by rw[hZ (by lia) h4]at h1;rw[aw,<- hl];exact aF h1
  exact dE (x:=w) pl.isList.typeIs slot_list_getitem.lookup
   (wpAny_getItem_list_neg (Q:=λr s'=>r=w/\EP X pins σ Q r s') pl.isList (by lia) (by rw[aw]<;>lia) (by lia) (by rw[hj];simpa using ew) ⟨rfl,fin⟩) hs
theorem ix_tup:IxR X (rIxT X.K):=by
 intro value slice pins s σ H x y v u Q I rx ry h hs;obtain⟨p,xs,i,z,rfl,rfl,hq,he,q⟩:=h;cases rx;obtain⟨t,rfl⟩:=ry;obtain⟨its,r,pl,hz⟩:=I.tuple hq;obtain⟨j,h1,h2,h3,h4,h5⟩:=atI_get he;obtain⟨w,ew,rw'⟩:=r.get h2;have hl:=r.length;have hn:=line63;have fin:EP X pins σ Q w s:=⟨z,H,I,rw',q⟩;exact dE (x:=w) pl.typeIs slot_tuple_getitem.lookup
  (getItem_tuple (j:=j) (Q:=λr s'=>r=w/\EP X pins σ Q r s') pl (by lia) (by lia) (by rw[aw,<- hl];exact h1) (by simpa using ew) ⟨rfl,fin⟩) hs
theorem ix_str:IxR X rIxS:=by
 intro value slice pins s σ H x y v u Q I rx ry h hs;obtain⟨z,i,c,rfl,rfl,hz,he,q⟩:=h;obtain⟨t,rfl⟩:=rx;obtain⟨t',rfl⟩:=ry;obtain⟨j,h1,h2,h3,h4,h5⟩:=atI_get he;have hl:z.cps.toList.length=z.length:=by simp[Str.length]
 rw[hl]at h1 h4 h5;have hn:=line63;exact tail_any (typeIs_str s z t) slot_str_getitem.lookup (getItem_str (c:=c) (by
  have e1:decide (i < -(2^63:Int))=false:=aJ (by lia);have e2:decide (i ≥ 2^63)=false:=aJ (by lia);rw[e1,e2,Bool.or_false]) (by rw[h1];simpa using h2) ⟨.str ⟨#[c]⟩,H,I.tok _,⟨_,rfl⟩,q⟩) hs
def rIx (K:Fg):R2:=λx y H Q=>rIxL K x y H Q\/rIxT K x y H Q\/rIxS x y H Q
theorem ix_seq:IxR X (rIx X.K):=ix_list.or (ix_tup.or ix_str)
theorem mapSeq_set (its:Lv)(n j:Nat)(u:Value):Obj.mapSeq (·.setIfInBounds j u) { cls:=.type "list",data:=.seq its.toArray n }={ cls:=.type "list",data:=.seq (its.set j u).toArray n }:=by simp[Obj.mapSeq]
theorem Inv.lst (I:Inv X pins σ H s)(h:H p=some (.lst xs)) :
  ∃(its:List Value) (n:Nat),Vals xs its/\s.heap.get? p=some { cls:=.type "list",data:=.seq its.toArray n }/\xs.length<=sizeLine:=by
 obtain⟨z,its,n,r,e⟩:=I.hok p _ h;exact⟨its,n,r,e,z⟩
theorem Inv.lstUpd {pins:List (Addr×Obj)}{σ:St}{H:Hp}{s:Shared}{p:Addr}{xs ys:List V}{its its':Lv}{n n':Nat}{f:Obj->Obj}(I:Inv X pins σ H s)(h:H p=some (.lst xs))
  (ho:s.heap.get? p=some { cls:=.type "list",data:=.seq its.toArray n }) (hf:f { cls:=.type "list",data:=.seq its.toArray n }={ cls:=.type "list",data:=.seq its'.toArray n' }) (r:Vals ys its') (hz:ys.length<=sizeLine) (t:Nat) :
  Inv X pins σ (upd H p (.lst ys)) { s with heap:=s.heap.update p f,toks:=t }:=by
 have e:(s.heap.update p f).get? p=some { cls:=.type "list",data:=.seq its'.toArray n' }:=by rw[dO f ho (by rw[hf]<;>rfl),hf]
 refine I.write (x:=p) (e:=p) (by rw[h];trivial) (.inl rfl) (λb u hb q=>(bU _ _ (cf hb)).trans q) ⟨_,e⟩ ?_;exact⟨hz,its',n',r,e⟩
def rSetL:V->V->V->Hp->(Hp->Prop)->Prop:=λo i v H Q=>∃p xs k j,o=.ref p/\i=.int k/\H p=some (.lst xs)/\ixN xs.length k=some j/\Q (upd H p (.lst (xs.set j v)))
theorem set_list:PSet X rSetL:=by
 intro pins s σ H o i v ov iv u Q I ro ri rv h;obtain⟨p,xs,k,j,rfl,rfl,hp,hj,q⟩:=h;cases ro;obtain⟨t,rfl⟩:=ri;obtain⟨its,n,r,ho,hz⟩:=I.lst hp;obtain⟨h1,h2,h3,h4⟩:=ixN_seq hj;have hl:=r.length;have hn:=line63;have I':Inv X pins σ (upd H p (.lst (xs.set j v))) { s with heap:=s.heap.update p (Obj.mapSeq (·.setIfInBounds j u)) } :=
  I.lstUpd hp ho (mapSeq_set its n j u) (r.set rv j) (by rw[bQ];exact hz) s.toks
 by_cases h0:0<=k
 ·have hk:k.toNat=j:=by rw[iN h0 h4]at h1;exact aF h1
  exact W.ki_setAt ho h0 (by lia) (by rw[aw,<- hl];exact h4) (by rw[hk];exact⟨_,I',q⟩)
 ·have hk:(k+(its.toArray.size:Int)).toNat=j:=by rw[hZ (by lia) h3]at h1;rw[aw,<- hl];exact aF h1
  exact W.ki_setBack ho (by lia) (by rw[aw,<- hl];exact h3) (by lia) (by rw[hk];exact⟨_,I',q⟩)
theorem slice_bounds (lo hi:Option Int)(n:Nat):(sliceBounds lo hi none n).1=((HT.sIx n 0 lo:Nat):Int)/\(sliceBounds lo hi none n).2.1=((HT.sIx n n hi:Nat):Int)/\(sliceBounds lo hi none n).2.2=1:=by
 refine⟨?_,?_,rfl⟩
 ·cases lo with
  |none=>simp[sliceBounds,HT.sIx]
  |some i=>
   simp only[sliceBounds,HT.sIx,Option.getD_none,show(1:Int) > 0 by decide,if_true];by_cases h:i<0
   ·simp only[h,if_true]<;>lia
   ·simp only[h,jf]<;>lia
 ·cases hi with
  |none=>simp[sliceBounds,HT.sIx]
  |some i=>
   simp only[sliceBounds,HT.sIx,Option.getD_none,show(1:Int) > 0 by decide,if_true];by_cases h:i<0
   ·simp only[h,if_true]<;>lia
   ·simp only[h,jf]<;>lia
theorem slicePick_cut (its:Lv)(lo hi:Option Int):slicePick its.toArray lo hi none=((its.drop (HT.sIx its.length 0 lo)).take (HT.sIx its.length its.length hi-HT.sIx its.length 0 lo)).toArray:=by obtain⟨h1,h2,h3⟩:=slice_bounds lo hi its.toArray.size;unfold slicePick;rw[h1,h2,h3];simp only[sliceRange_one,pick_run,aw]<;>rfl
def rSlL (K:Fg):V->Option Int->Option Int->Hp->VK->Prop:=λx lo hi H Q=>∃a xs,x=.ref a/\SqL K H a xs/\∀p,H p=none->Q (.ref p) (upd H p (.lst (cutV xs lo hi)))
theorem sl_list:SlR X (rSlL X.K):=by intro pins s σ H x v vl vu lo hi sl Q I rx hs pl pu h;obtain⟨a,xs,rfl,hx,q⟩:=h;cases rx;obtain⟨its,r,ht,hz⟩:=I.list hx;have hlen:=r.length;refine⟨"list",_,slot_list_getitem.lookup,ht.isList.typeIs,?_⟩;refine wpAny_getItem_list_slice ht.isList hs pl pu .none (by simp) ?_ (by rw[aw]<;>lia);rw[slicePick_cut,<- hlen];refine⟨.ref s.heap.objs.size,_,I.laid (t':=s.toks) (o:=.lst (cutV xs lo hi)) (λb ob q=>ay _ q) (ai _) ?_,rfl,q _ (I.hok.fresh (ai _))⟩;exact⟨aC (cutV_length xs lo hi) hz,_,0,(r.drop (HT.sIx xs.length 0 lo)).take (HT.sIx xs.length xs.length hi-HT.sIx xs.length 0 lo),a8 _ rfl⟩
theorem call_len_seq:CallR X (.builtin "len") (λxs H Q=>∃p ys,xs=[.ref p]/\(SqL X.K H p ys\/SqT X.K H p ys)/\Q (.int ys.length) H):=by
 intro pins s σ H xs us Q I r h;obtain⟨p,ys,rfl,hq,q⟩:=h;obtain⟨u,rfl,rx⟩:=vals1 r;cases rx;have hn:=line63;rcases hq with hq|hq
 ·obtain⟨its,r',pl,hz⟩:=I.list hq;have hlen:=r'.length;exact Calls.call_len_list pl.isList (by simp only[aw]<;>lia) ⟨.int ys.length,H,I.tok _,⟨s.toks+1,by rw[aw,hlen]⟩,q⟩
 ·obtain⟨its,r',pl,hz⟩:=I.tuple hq;have hlen:=r'.length;exact len_tuple pl (by simp only[aw]<;>lia) ⟨.int ys.length,H,I.tok _,⟨s.toks+1,by rw[aw,hlen]⟩,q⟩
theorem call_list_of:CallR X (.type "list") (λxs H Q=>∃p ys,xs=[.ref p]/\(SqL X.K H p ys\/SqT X.K H p ys)/\∀l,H l=none->Q (.ref l) (upd H l (.lst ys))):=by
 intro pins s σ H xs us Q I r h;obtain⟨p,ys,rfl,hq,q⟩:=h;obtain⟨u,rfl,rx⟩:=vals1 r;cases rx;have fin:∀(its:List Value),Vals ys its->ys.length<=sizeLine->∀(h':Heap) (c':Nat),(∀b o',s.heap.get? b=some o' -> h'.get? b=some o') ->
   h'.get? s.heap.objs.size=some { cls:=.type "list",dict:=none,data:=.seq its.toArray c',slots:=#[] }->EP X pins σ Q (.ref s.heap.objs.size) { s with heap:=h' }:=λits r' hz h' c' kp e=>
  ⟨.ref s.heap.objs.size,_,I.laid (t':=s.toks) kp (ai _) (show ObjOk X.prog X.w _ h' _ (.lst ys) from⟨hz,its,c',r',e⟩),rfl,q _ (I.hok.fresh (ai _))⟩
 rcases hq with hq|hq
 ·obtain⟨its,r',pl,hz⟩:=I.list hq;have hlen:=r'.length;obtain⟨o,ho,hc,n,hd⟩:=pl.isList;exact call_list_seq p (.inl rfl) ho hc hd (λh' c' kp e=>fin its r' hz h' c' kp e) (by simp only[aw]<;>lia)
 ·obtain⟨its,r',pl,hz⟩:=I.tuple hq;have hlen:=r'.length;obtain⟨o,ho,hc,n,hd⟩:=pl;exact call_list_seq p (.inr rfl) ho hc hd (λh' c' kp e=>fin its r' hz h' c' kp e) (by simp only[aw]<;>lia)
def tyV (K:Fg)(T:String)(x:V)(H:Hp):Prop:=match x with
 | .str _=>T="str"
 | .int _=>T="int"
 | .ref p=>(T="list"/\∃xs,SqL K H p xs)\/(T="tuple"/\∃o,K.lookup p=some o/\o.cls=.type "tuple"/\o.dict=none) \/
   (T="dict"/\((∃kvs,H p=some (.dK kvs))\/∃kvs,H p=some (.dT kvs)))\/(T="set"/\∃S n,H p=some (.set S n))
 |_=>False
theorem tyV_is (I:Inv X pins σ H s)(r:RelV x v)(ty:tyV X.K T x H) :
  s.TypeIs v T/\∀a,v=.ref a->∃ob,s.heap.get? a=some ob/\ob.dict=none:=by
 cases x with
 |str z=>obtain⟨t,rfl⟩:=r;cases (show T="str" from ty);exact⟨typeIs_str s z t,λ_ e=>nomatch e⟩
 |int i=>obtain⟨t,rfl⟩:=r;cases (show T="int" from ty);exact⟨typeIs_int s i t,λ_ e=>nomatch e⟩
 |ref p=>
  cases r;rcases ty with⟨rfl,xs,hq⟩|⟨rfl,o,hk,hc,hd⟩|⟨rfl,hk⟩|⟨rfl,S,n,hk⟩
  ·obtain⟨its,_,pl,_⟩:=I.list hq;refine⟨pl.isList.typeIs,λa e=>?_⟩;cases e;obtain⟨o,n,e,c,hd,_⟩:=pl;exact⟨o,e,hd⟩
  ·refine⟨⟨o,I.kIn p o hk,hc⟩,λa e=>?_⟩;cases e;exact⟨o,I.kIn _ o hk,hd⟩
  ·have z:∃o,s.heap.get? p=some o/\o.ExactDict:=by
    rcases hk with⟨kvs,hk⟩|⟨kvs,hk⟩
    ·obtain⟨_,_,_,_,o,_,_,e,ex,_⟩:=I.hok p _ hk;exact⟨o,e,ex⟩
    ·obtain⟨_,_,_,_,o,_,_,e,ex,_⟩:=I.hok p _ hk;exact⟨o,e,ex⟩
   obtain⟨o,e,ex⟩:=z;refine⟨⟨o,e,ex.1⟩,λa e2=>?_⟩;cases e2;exact⟨o,e,ex.2.1⟩
  ·obtain⟨o,_,_,_,e,ex,_⟩:=I.hok p _ hk;refine⟨⟨o,e,ex.1⟩,λa e2=>?_⟩;cases e2;exact⟨o,e,ex.2.1⟩
 |_=>exact False.elim ty
def tBM0 (K:Fg)(T:String)(r:V->List V->Hp->VK->Prop)(to:TE):TE:=λσ H Q=>to σ H λx H1=>tyV K T x H1/\r x [] H1 Q
def tBM (K:Fg)(T:String)(r:V->List V->Hp->VK->Prop)(to:TE)(t:TA):TE:=λσ H Q=>to σ H λx H1=>tyV K T x H1/\t σ H1 λxs H2=>r x xs H2 Q
variable {o e:Expr}{es:List Expr}{to:TE}{t:TA}{name:Str}{apos cpos:Pos}{T id:String}{r:V->List V->Hp->VK->Prop}
theorem pe_bm0 (pa:PlainAttrs T)(slot:Slot T name id)(hty:typeOf (.builtin id)=pure (.type "method_descriptor"))(hm:MtR X id r)(ho:PE X o to)
  (hbase:attributeBase o name X.env (eval o X.env)=eval o X.env:=by rfl) (hline:(apos.endLine == cpos.line)=true:=by rfl):PE X (.Call (.Attribute o name apos) [] [] cpos) (tBM0 X.K T r to):=by
 intro pins s σ H Q I h;refine wpAny_Call_method0_late hbase hline (thn (ho pins s σ H _ I h) λv s1 ⟨x,H1,I1,r1,ty,q1⟩=>?_);obtain⟨h1,h2⟩:=tyV_is I1 r1 ty;exact⟨T,id,pa,slot,hty,h1,h2,Calls.callWith_builtin rfl (PySem.evalArgs_none (hm pins s1 σ H1 x [] v [] Q I1 r1 .nil q1))⟩
theorem pe_bm (pa:PlainAttrs T)(slot:Slot T name id)(hty:typeOf (.builtin id)=pure (.type "method_descriptor"))(hm:MtR X id r)(ho:PE X o to)(ha:PA X (e::es) t)
  (hbase:attributeBase o name X.env (eval o X.env)=eval o X.env:=by rfl)
  (hfew:((backTo cpos (starEach (e::es) X.env)).all (λx=>!x.1) && (backToKw cpos (keywordEach [] X.env)).all (λx=>x.1.isSome)
   && decide ((e::es).length+([]:List Keyword).length+(if ([]:List Keyword).isEmpty then 0 else 1)<30))=true:=by rfl)
  (hline:(apos.endLine == cpos.line)=true:=by rfl) (hs:starEach (e::es) X.env=(false,eval e X.env)::starEach es X.env:=by rfl) (hplain:(backTo cpos (starEach es X.env)).any (·.1)=false:=by rfl) :
  PE X (.Call (.Attribute o name apos) (e::es) [] cpos) (tBM X.K T r to t):=by
 intro pins s σ H Q I h;refine wpAny_Call_method_late hbase hfew hline rfl (thn (ho pins s σ H _ I h) λv s1 ⟨x,H1,I1,r1,ty,q1⟩=>?_);obtain⟨h1,h2⟩:=tyV_is I1 r1 ty;refine⟨T,id,pa,slot,hty,h1,h2,?_⟩;have hA:=ha cpos pins s1 σ H1 _ I1 q1;rw[hs]at hA ⊢;refine Calls.callWith_builtin (by show(false || (backTo cpos (starEach es X.env)).any (·.1))=false;rw[hplain]<;>rfl) (Calls.evalArgs_plain ?_);exact thn hA λus s2 ⟨vs,H2,I2,r2,q2⟩=>hm pins s2 σ H2 x vs v us Q I2 r1 r2 q2
end
def MtM (X:Cx)(id:String)(r:V->List V->Hp->VK->Prop):Prop:=
 ∀(pins:List (Addr×Obj)) (s:Shared) (σ:St) (H:Hp) (x:V) (xs:List V) (v:Value) (us:List Value) (Q:VK),Inv X pins σ H s->RelV x v->Vals xs us->r x xs H Q ->
  wpAny (model X.prog X.w) X.A (call (.builtin id) (v::us)) (EP X pins σ Q) X.xe s
theorem Vals.one:∀{x:V} {us:Lv},Vals [x] us->∃u,us=[u]/\RelV x u
 |_,_,.cons r .nil=>⟨_,rfl,r⟩
theorem Vals.zero:∀{us:Lv},Vals [] us->us=[]
 |_,.nil=>rfl
theorem Vals.dropLast (h:Vals xs us):Vals xs.dropLast us.dropLast:=by
 induction h with
 |nil=>exact .nil
 |cons r t ih=>
  cases t with
  |nil=>exact .nil
  |cons q t'=>exact .cons r ih
theorem Vals.rep (h:Vals xs us):∀k:Nat,Vals (List.replicate k xs).flatten (List.replicate k us).flatten
 |0=>.nil
 |k+1=>by rw[c9,c9,bN,bN];exact Vals.append h (Vals.rep h k)
theorem erase_last {α:Type}(l:List α):l.eraseIdx (l.length-1)=l.dropLast:=by
 induction l with
 |nil=>rfl
 |cons a r ih=>
  cases r with
  |nil=>rfl
  |cons b r=>
   have e:(a::b::r).length-1=((b::r).length-1)+1:=by have h1:(a::b::r).length=r.length+2:=rfl;have h2:(b::r).length=r.length+1:=rfl;lia
   rw[e,List.eraseIdx_cons_succ,ih]
   all_goals rfl
theorem foldl_rep (its:Lv):∀(k:Nat) (acc:Lv),
  List.foldl (λx1 x2=>x1++x2) acc.toArray (List.replicate k its.toArray)=(acc++(List.replicate k its).flatten).toArray
 |0,acc=>by simp
 |k+1,acc=>by
  have e:acc.toArray++its.toArray=(acc++its).toArray:=by simp
  have e2:(acc++its)++(List.replicate k its).flatten=acc++(List.replicate (k+1) its).flatten:=by rw[c9,bN,cZ]
  rw[<- e2,<- foldl_rep its k (acc++its),<- e,c9,ia]
section
variable {X:Cx}{pins:List (Addr×Obj)}{σ:St}{H:Hp}{s:Shared}{l b:Addr}{xs ys zs:List V}
theorem Inv.lset {its its':Lv}{n:Nat}{f:Array Value->Array Value}{t':Nat}(I:Inv X pins σ H s)(hH:H l=some (.lst xs))
  (e:s.heap.get? l=some { cls:=.type "list",data:=.seq its.toArray n }) (hf:f its.toArray=its'.toArray) (hv:Vals ys its') (hz:ys.length<=sizeLine) :
  Inv X pins σ (upd H l (.lst ys)) { s with heap:=s.heap.update l (Obj.mapSeq f),toks:=t' }:=by
 have q:=PySem.IsL.update e f;rw[hf]at q;refine I.write (x:=l) (e:=l) (by rw[hH];exact trivial) (.inl rfl) (λb' u hb hu=>(bU s.heap (Obj.mapSeq f) (cf hb)).trans hu) ⟨_,q⟩ ?_;exact⟨hz,its',_,hv,q⟩
theorem Inv.lnew (I:Inv X pins σ H s)(hv:Vals ys its)(hz:ys.length<=sizeLine) :
  Inv X pins σ (upd H s.heap.objs.size (.lst ys)) { s with heap:=s.heap.push { cls:=.type "list",data:=.seq its.toArray },toks:=t' } :=
 I.laid (λ_ _ q=>ay _ q) (ai _) ⟨hz,its,0,hv,a8 _ rfl⟩
theorem Inv.fresh (I:Inv X pins σ H s):H s.heap.objs.size=none:=I.hok.fresh (ai _)
theorem Inv.lstM (I:Inv X pins σ H s)(hH:H l=some (.lst xs)):xs.length<=sizeLine/\∃(its:Lv) (n:Nat),Vals xs its/\xs.length=its.length/\s.heap.get? l=some { cls:=.type "list",data:=.seq its.toArray n }:=by obtain⟨z,its,n,r,e⟩:=I.hok l _ hH;exact⟨z,its,n,r,r.length,e⟩
theorem notLongL (h:n<=sizeLine):Builtin.List.listTooLong n=false:=by unfold Builtin.List.listTooLong;exact aJ (by lia)
end
section
variable {X:Cx}
def rAppend:V->List V->Hp->VK->Prop:=λx vs H Q=>∃l xs y,x=.ref l/\vs=[y]/\H l=some (.lst xs)/\xs.length<sizeLine/\Q .non (upd H l (.lst (xs++[y])))
theorem mt_append:MtM X "list.append" rAppend:=by intro pins s σ H x vs v us Q I rx rv h;obtain⟨l,xs,y,rfl,rfl,hH,hz,q⟩:=h;cases rx;obtain⟨u,rfl,ru⟩:=rv.one;obtain⟨z,its,n,r,hl,e⟩:=I.lstM hH;refine iC F.slot_list_append ⟨_,e,rfl⟩ F.entry_list_append (F.args_list_append_2 _ _) (PySem.list_append l its.toArray n u (by rw[aw];lia)) ⟨e,?_⟩;refine⟨.non,_,I.lset (its':=its++[u]) hH e (by simp) (r.append (.cons ru .nil)) ?_,rfl,q⟩;rw[ah,bv];lia
def rPop:V->List V->Hp->VK->Prop:=λx vs H Q=>∃l xs y,x=.ref l/\vs=[]/\H l=some (.lst xs)/\xs[xs.length-1]?=some y/\Q y (upd H l (.lst xs.dropLast))
theorem mt_pop:MtM X "list.pop" rPop:=by
 intro pins s σ H x vs v us Q I rx rv h;obtain⟨l,xs,y,rfl,rfl,hH,hy,q⟩:=h;cases rx;have hus:=rv.zero;subst hus;obtain⟨z,its,n,r,hl,e⟩:=I.lstM hH;obtain⟨u,hu,ru⟩:=r.get hy;have hy':its.toArray[its.toArray.size-1]?=some u:=by show its.toArray[its.length-1]?=some u;rw[<- Array.getElem?_toList,<- hl];exact hu
 refine iC F.slot_list_pop ⟨_,e,rfl⟩ F.entry_list_pop (F.args_list_pop_1 _) (MeetsSeq.list_pop_last l its.toArray n u hy' (by rw[aw];lia)) ⟨e,?_⟩;refine⟨y,_,I.lset (its':=its.dropLast) hH e ?_ r.dropLast ?_,ru,q⟩
 ·show its.toArray.eraseIdxIfInBounds (its.toArray.size-1)=its.dropLast.toArray;rw[aw,List.eraseIdxIfInBounds_toArray,erase_last]
 ·rw[fG];lia
def rRep:R2:=λx y H Q=>∃l k xs,x=.ref l/\y=.int k/\H l=some (.lst xs) /\ -(2^63)<=k/\k<2^63/\xs.length*k.toNat<=sizeLine /\
 ∀p,H p=none->Q (.ref p) (upd H p (.lst (List.replicate k.toNat xs).flatten))
theorem len_rep {α:Type}(xs:List α)(k:Nat):(List.replicate k xs).flatten.length=k*xs.length:=by
 induction k with
 |zero=>simp
 |succ k ih=>rw[c9,bN,ah,ih,f9,ib]
theorem op_rep:OpR X (binaryOp .Mult) rRep:=by
 intro pins s σ H x y v u Q I rx ry h;obtain⟨l,k,xs,rfl,rfl,hH,h1,h2,hz,q⟩:=h;cases rx;obtain⟨t,rfl⟩:=ry;obtain⟨z,its,n,r,hl,e⟩:=I.lstM hH;have hlen:its.toArray.size*k.toNat<=sizeLine:=by rw[aw,<- hl];exact hz
 have hcap:¬its.toArray.size*k.toNat > (2^63-1) / 8:=by
  have:(sizeLine:Nat)<=(2^63-1) / 8:=by decide
  lia
 have hfit:¬(!Builtin.List.listFitsIndex k)=true:=by rw[fitsIndex_both h1 h2];exact a7
 have hlong:¬Builtin.List.listTooLong (its.toArray.size*k.toNat)=true:=by rw[notLongL hlen];exact a7
 have hnew:List.foldl (λx1 x2=>x1++x2) #[] (List.replicate (if its.toArray.isEmpty=true then 0 else k.toNat) its.toArray)=(List.replicate k.toNat its).flatten.toArray:=by
  have f0:∀m:Nat,List.foldl (λx1 x2=>x1++x2) #[] (List.replicate m its.toArray)=(List.replicate m its).flatten.toArray:=λm=>by have:=foldl_rep its m [];rw[List.nil_append]at this;exact this
  rw[f0];cases its with
  |nil=>simp
  |cons a r'=>rw[ae (by simp)]
 refine wpAny_binaryOp_repeat_ref (T:="list") (U:="int") (by decide) ⟨_,e,rfl⟩ (λs'=>typeIs_int s' k t) noFill_list_mul F.fills_int_mul F.slot_int_rmul repeat_list F.slot_int_index.lookup
  (iC F.slot_int_rmul (typeIs_int s k t) F.entry_int_rmul (F.args_int_rmul_2 _ _) (int___rmul___int_list k t l its.toArray n)
   ⟨e,rfl,⟨_,e,rfl⟩,iC F.slot_list_mul ⟨_,e,rfl⟩ F.entry_list_mul (F.args_list_mul_2 _ _) (AutoListH.list___mul___list_int_3 l its.toArray n k t hfit hcap hlong) ⟨e,?_⟩⟩)
 rw[hnew];exact⟨.ref _,_,I.lnew (t':=s.toks) (r.rep k.toNat) (by rw[len_rep,cX];exact hz),rfl,q _ I.fresh⟩
end
end L2
namespace Att
open PySem PySem.W PySem.Calls PyProof.Rows
theorem ints_of_wellAll:∀(ns:Li) (vs:Lv),WellAll P h vs (ns.map WData.int)->IntsAre vs ns:=by
 intro ns
 induction ns with
 |nil=>intro vs w;rw[dP]at w;cases w;exact .nil
 |cons n ns ih=>
  intro vs w;rw[aX]at w;cases w with
  |cons a b=>cases a;exact .cons _ _ (ih _ b)
theorem script_of {l:OpenLaw}{n:Nat}(hn:l.most=some n){P:Params}{args:List WData}
  (hpre:l.row.toRowW.claim.pre args=true) (hwl:WellAll P h vals args) :
  ∃a vs ns,vals=[Value.ref a]/\args=[WData.list (ns.map WData.int)]/\h.get? a=some { cls:=.type "list",data:=.seq vs.toArray }/\IntsAre vs ns/\ns.length<=n:=by
 have hsh:WShape.hasAll [] args [.list .int]=true:=(pre_splitW hpre).1;have hc:l.pre.holds [] { args:=args }=true:=(pre_splitW hpre).2;obtain⟨d,r,rfl,h1,h2⟩:=hasAllW_cons hsh;obtain rfl:=hasAllW_nil h2;obtain⟨xs,rfl,h3⟩:=hasW_list h1;obtain⟨ns,rfl⟩:=items_int h3;have hlen:ns.length<=n:=by
  unfold OpenLaw.pre at hc;have h4:(WTm.not (.lt (.lit (.int (n:Int))) (.len (.arg 0)))).holds [] { args:=[.list (ns.map .int)] }=true:=by have h4:=(holds_andW hc).1;rw[hn]at h4;exact h4
  have h5:=condW_of h4 (w_not (w_lt w_lit (w_len_list (w_arg rfl))));rw[aa]at h5;refine dC λq=>?_;have q':(n:Int)<((ns.length:Nat):Int):=by lia
  first
   |(rw[aL q']at h5;exact absurd h5 (by decide))
   |(simp at h5;lia)
 cases hwl with
 |cons w1 w2=>
  cases w2;cases w1 with
  |list ho hall=>exact⟨_,_,ns,rfl,rfl,ho,ints_of_wellAll ns _ hall,hlen⟩
theorem post_true (l:OpenLaw)(args:List WData):l.row.toRowW.claim.post args (.bool true) args=true:=
 postW_of (r:=l.row.toRowW) (X:=(true == true))
  (show WShape.has [] (.bool true) .bool=true by first|rfl|decide|simp[WShape.has,WShape.arms,WShape.armsAll])
  (show(WTm.eq .res (.lit (.bool true))).value [] { args:=args,res:=some (.bool true),after:=args }=some (.bool (true == true)) from w_eq_bool (w_res rfl) w_lit) rfl
section
variable {prog:Program}{w:World}{A:Around}{E:Value->Shared->Prop}{s:Shared}{K:Frag}
def ledger (h:Heap)(L d:Addr):List (Addr×Obj):=(List.range h.objs.size).filterMap λa=>if a=L\/a=d then none else(h.get? a).map λo=>(a,o)
end
end Att
namespace L2
open PySem PySem.Spec PyProof.Rows
theorem vals_ints:∀{vs:Lv} {ns:Li},IntsAre vs ns->Vals (ns.map V.int) vs
 |_,_,.nil=>.nil
 |_,_,.cons n t h=>.cons ⟨t,rfl⟩ (vals_ints h)
def qZ (K:Fg):Hp:=λb=>match (oE K).find? λx=>x.2.1 == b with
 |some x=>some (.tbl ⟨x.2.2,#[]⟩)
 |none=>none
theorem sI {K:Fg}{b:Addr}{o:HO}(h:qZ K b=some o):∃x∈oE K,x.2.1=b/\o=.tbl ⟨x.2.2,#[]⟩:=by
 unfold qZ at h;split at h
 ·rename_i x e;exact⟨x,eE e,by simpa using ie e,(aF h).symm⟩
 ·cases h
structure Jw (K:Fg)(h:Heap):Prop where
 e:∀x∈oE K,h.get? x.2.1=some (W.tabObj #[])
 n:∀x∈oE K,K.lookup x.2.1=none
 u:∀x∈oE K,∀y∈oE K,x.2.1=y.2.1->x.2.2=y.2.2
theorem DW {K:Fg}{x:Addr×Addr×Str}(h:x∈oE K):W.codeHdIn K x.1 x.2.1=true:=by
 obtain⟨y,_,e⟩:=cr.mp h
 repeat' split at e
 all_goals first
  |(cases e;assumption)
  |cases e
theorem IV {K:Fg}{h:Heap}(L:Jw K h){x:Addr×Addr×Str}(hx:x∈oE K):qZ K x.2.1=some (.tbl ⟨x.2.2,#[]⟩):=by
 unfold qZ;split
 ·rename_i y e;have e1:y.2.1=x.2.1:=by simpa using ie e
  rw[L.u y (eE e) x hx e1]
 ·rename_i e;have:=List.find?_eq_none.mp e x hx;simp at this
theorem law_call {P:Program}{w:World}{K:Fg}{mg mb:Mg}{CX:CXT}{k:Nat}{fa a:Addr}{fd:FuncData}{x:Str}{sp:Sp}{s₁:Shared}{vs:Lv}{ns:Li}
  (KX:K.In s₁.heap) (hns:s₁.heap.Ns mainGlobals mg) (hb:s₁.heap.Ns builtinsNs mb) (hbb:∀x:Str,x≠"__name__"->mb x=bootBuiltins x) (hlim:s₁.heap.NoLimit) (hg:s₁.gens = #[])
  (ha:s₁.heap.get? a=some { cls:=.type "list",data:=.seq vs.toArray }) (hi:IntsAre vs ns) (hl:ns.length<=sizeLine) (hr:Room k callerA) (LO:Jw K s₁.heap) (BM:ZZ mg s₁.heap)
  (F:∀base:Heap,K.In base->base.Ns mainGlobals mg->FnOk P w K mg base CX k fa fd [x] sp) (hbind:∀(s:Shared) (u:Value),BindsTo s fd ⟨[u],[]⟩ [(x,u)])
  (hsp:∀H:Hp,SqL K H a (ns.map V.int)->sp [.ref a] H (λv _=>v=.bl true) λ_ _ _=>False)
  (hCX:∀H e s',CX [] H s₁ (λ_ _ _=>False) e s' -> False) :
  codeAny (model P w) callerA (.call (.ref fa) ⟨[.ref a],[]⟩) (λr s'=>r=.ok (.ret (.bool true))/\OldK s₁.heap s'.heap/\s'.os=s₁.os/\AllBare s'.gens) s₁:=by
 have rv:=vals_ints hi;have lenV:=hi.length;have nat:∀{b:Addr} {o:HO},qZ K b=some o->b≠a:=λ{b o} h z=>by obtain⟨x,hx,e,_⟩:=sI h;have:=LO.e x hx;rw[e,z,ha]at this;cases this
 have core:∀H:Hp,(∀b,b≠a->H b=qZ K b)->SqL K H a (ns.map V.int)->HOk P w H s₁.heap->(H a≠none->K.lookup a=none/\∃o xs,H a=some (.frz o (.lst xs))) ->
   codeAny (model P w) callerA (.call (.ref fa) ⟨[.ref a],[]⟩) (λr s'=>r=.ok (.ret (.bool true))/\OldK s₁.heap s'.heap/\s'.os=s₁.os/\AllBare s'.gens) s₁:=by
  intro H hT hS hok hK;have base_of:∀{b:Addr} {o:Obj},s₁.heap.get? b=some o->H b=none->(hidT s₁.heap H).get? b=some o:=λe n=>hidT_get e n;have noA:∀{b:Addr} {o:Obj} {es:Array DictEntry} {ep:Nat},s₁.heap.get? b=some o->o.data=.dict es ep->H b=none:=λ{b o es ep} e d=>by
   by_cases hba:b=a
   ·subst hba;rw[ha]at e;cases e;have d':Data.seq vs.toArray _=Data.dict es ep:=d;cases d'
   ·rw[hT b hba];cases q:qZ K b with
    |none=>rfl
    |some u=>obtain⟨x,hx,e1,_⟩:=sI q;have:=LO.e x hx;rw[e1,e]at this;cases this;cases d
  have noB:∀{b:Addr} {o:Obj},s₁.heap.get? b=some o->o.cls=.type "module"->H b=none:=λ{b o} e d=>by
   by_cases hba:b=a
   ·subst hba;rw[ha]at e;cases e;injection d with z;exact absurd z (by decide)
   ·rw[hT b hba];cases q:qZ K b with
    |none=>rfl
    |some u=>obtain⟨x,hx,e1,_⟩:=sI q;have:=LO.e x hx;rw[e1,e]at this;cases this;cases d
  have nsK:∀{b:Addr} {m:Mg},s₁.heap.Ns b m->(hidT s₁.heap H).Ns b m:=λ{b m} ⟨o,es,ep,e,d,r⟩=>⟨o,es,ep,base_of e (noA e d),d,r⟩;have hKb:K.In (hidT s₁.heap H):=λb o e=>base_of (KX b o e) (by
   by_cases hba:b=a
   ·subst hba;cases q:H b with
    |none=>rfl
    |some u=>rw[(hK (by rw[q];simp)).1]at e;cases e
   ·rw[hT b hba];cases q:qZ K b with
    |none=>rfl
    |some u=>
     obtain⟨x,hx,e1,_⟩:=sI q;have:=LO.n x hx;rw[e1,e]at this;cases this)
  have hM:Mod K mg (hidT s₁.heap H):=⟨hKb,nsK hns,⟨mb,nsK hb,hbb⟩,let ⟨mc,h1,h2⟩:=hlim;⟨mc,nsK h1,h2⟩,let ⟨bm,ob,b1,b2,b3,b4,b5⟩:=BM;⟨bm,ob,b1,b2,base_of b3 (noB b3 b4),b4,b5⟩⟩
  have e0:Env0 P w K mg (hidT s₁.heap H) callerA [] s₁ H:=⟨rfl,hM,λb o e=>of_hidT e,i6 (hidT_size _ _),trivial,⟨λb hb=>absurd (show b∈([]:List Addr) from hb) (by simp),λx hx=>⟨#[],by rw[hT _ (nat (IV LO hx))];exact IV LO hx⟩⟩,hok,.of_eq hg⟩;refine f8 ((F _ hKb (nsK hns)).run callerA [] s₁ H ⟨[.ref a],[]⟩ [.ref a] [.ref a] _ _ hr e0 (hbind s₁ (.ref a)) (.cons rfl .nil) (hsp H hS)) λr s' h=>?_;cases r with
  |error e=>exact(hCX H e s' h).elim
  |ok fl=>
   cases fl with
   |next=>exact False.elim h
   |brk=>exact False.elim h
   |cont=>exact False.elim h
   |ret u=>
    obtain⟨v,H',os,bare,un,hok',r',q⟩:=h;have q':v=.bl true:=q;subst q';obtain rfl:u=Value.bool true:=r';have all:∀b o,s₁.heap.get? b=some o->s'.heap.get? b=some o\/∃x∈oE K,x.2.1=b/\o=W.tabObj #[]/\∃more,s'.heap.get? b=some (W.tabObj (#[]++more)):=λb o e=>by
     by_cases hba:b=a
     ·subst hba;cases q:H b with
      |none=>exact .inl (un.keep b o e q (by intro z;exact absurd (show b∈([]:List Addr) from z) (by simp)) (by simp))
      |some u=>obtain⟨_,ob,xs,z⟩:=hK (by rw[q];simp);have z2:=un.frzs b ob _ z;obtain⟨e1,_⟩:=hok b _ z;obtain⟨e2,_⟩:=hok' b _ z2;rw[e]at e1;cases e1;exact .inl e2
     ·cases q:qZ K b with
      |none=>exact .inl (un.keep b o e (by rw[hT b hba];exact q) (by intro z;exact absurd (show b∈([]:List Addr) from z) (by simp)) (by simp))
      |some u=>obtain⟨x,hx,e1,rfl⟩:=sI q;obtain⟨more,e2⟩:=un.tbls b _ (by rw[hT b hba];exact q);obtain⟨e3,_⟩:=hok' b _ e2;have e4:=LO.e x hx;rw[e1,e]at e4;exact .inr ⟨x,hx,e1,aF e4,more,e3⟩
    refine⟨rfl,⟨λb o e=>?_,λb o e=>?_⟩,os,bare⟩
    ·rcases all b o e with z|⟨x,hx,e1,rfl,more,e2⟩
     ·exact .inl z
     ·have C:W.CodeHd s₁.heap x.1 x.2.1:=iO KX (DW hx);exact .inr (.inl ⟨e1 ▸ (C.tab (LO.e x hx)).isCodeTable,rfl,#[],more,rfl,e2⟩)
    ·rcases all b o e with z|⟨x,hx,e1,rfl,more,e2⟩
     ·exact⟨_,z⟩
     ·exact⟨_,e2⟩
 have tabOk:∀(H:Hp) b u,qZ K b=some u->ObjOk P w H s₁.heap b u:=λH b u q=>by obtain⟨x,hx,e1,rfl⟩:=sI q;have e4:=LO.e x hx;rw[e1]at e4;exact⟨e4,trivial,λp cv hc=>by cases hc⟩
 cases hk:K.lookup a with
 |some o=>
  have e:=KX a o hk;rw[ha]at e;cases e;refine core (qZ K) (λ_ _=>rfl) (.inr ⟨_,vs.toArray,_,hk,rfl,rfl,rfl,by rw[aw,lenV];exact hl,by simpa using rv⟩) (λb u z=>tabOk _ b u z) λz=>?_;cases q:qZ K a with
  |none=>exact absurd q z
  |some u=>exact absurd rfl (nat q)
 |none=>
  refine core (λb=>if b=a then some (.frz { cls:=.type "list",data:=.seq vs.toArray } (.lst (ns.map V.int))) else qZ K b) (λb hb=>ae hb) (.inl (.inr ⟨{ cls:=.type "list",data:=.seq vs.toArray },af rfl⟩)) (λb u z=>?_) λ_=>⟨hk,_,_,af rfl⟩;by_cases hb:b=a
  ·have z':=(af hb).symm.trans z;cases z';subst hb;exact⟨ha,by rw[aa];exact hl,vs,_,rv,ha⟩
  ·exact tabOk _ b u ((ae hb).symm.trans z)
abbrev KOf {K:Fg}{h:Heap}(_:K.In h):Fg:=K
def inClass (s:Stmt)(j:Nat):Stmt:=match s with
 | .ClassDef _ _ _ body _ _ _ _ _ _ _=>body.getD j (.Pass ⟨0,0,0,0⟩)
 |_=>.Pass ⟨0,0,0,0⟩
def defArgs (s:Stmt):Arguments:=match s with
 | .FunctionDef _ a _ _ _ _ _ _ _ _=>a
 |_=>{ posonlyargs:=[],args:=[],vararg:=none,kwonlyargs:=[],kw_defaults:=[],kwarg:=none,defaults:=[] }
def defBody (s:Stmt):List Stmt:=match s with
 | .FunctionDef _ _ b _ _ _ _ _ _ _=>b
 |_=>[]
def defScope (s:Stmt):Scope:=match s with
 | .FunctionDef _ _ _ _ _ _ sc _ _ _=>sc
 |_=>{ kind:=.function,names:=[],isGenerator:=false,isCoroutine:=false }
abbrev CX0:CXT:=λ_ _ _ _ _ _=>False
abbrev E0:XK:=λ_ _ _=>False
theorem pass0:Passes CX0 X E0:=λ_ _ _ _ _ _ _ h=>h.elim
structure Fun (K:Fg)(x qual:Str)(st:Stmt)(f:Addr)(fd:FuncData):Prop where
 ex:∃(oc:Value) (od:Option Addr) (kV doc pm:Value) (an:Option Addr) (cdv ct:Value) (osl:Array (Option Value)),
  fd=W.fnOf x qual (defArgs st) (defBody st) (defScope st) .none kV doc pm an cdv ct/\K.lookup f=some ⟨oc,od,.func fd,osl⟩/\W.codeIn K cdv qual=true
 kp:W.keepIn K (.ref f)=true
section
variable {P:Program}{w:World}{K:Fg}{mg:Mg}{base:Heap}
theorem Fun.ok {x qual:Str}{st:Stmt}{f:Addr}{fd:FuncData}{N ps:Ls}{k:Nat}{sp:Sp}(F:Fun K x qual st f fd)(S:FnScope N ps (defScope st))(len:∀vs H Q E,sp vs H Q E->vs.length=ps.length)
  (hbody:∀(cdv:Value) (A:Around) (outer:List Env) (s:Shared) (H:Hp) (vs:List V) (Q:VK) (E:XK),Room k (A.deeper (envOfC qual (defScope st) s.heap.objs.size f cdv))->sp vs H Q E ->
   ∃t,PSs (cxOf CX0 P w K mg base N qual (defScope st) f cdv A outer s H E).nox (defBody st) t/\t { nx:=λ_ H'=>Q .non H',rt:=Q } (start N vs) H):FnOk P w K mg base CX0 (k+1) f fd ps sp:=by
 obtain⟨oc,od,kV,doc,pm,an,cdv,ct,osl,rfl,lk,hcd⟩:=F.ex;refine fn_of lk hcd S len λA outer s H vs Q E hr hsp=>?_;obtain⟨t,h,q⟩:=hbody cdv A outer s H vs Q E hr hsp;exact⟨t,h.nox,q⟩
theorem Fun.binds {x qual:Str}{st:Stmt}{f:Addr}{fd:FuncData}{ps:Ls}(F:Fun K x qual st f fd)
  (h:∀(kV doc pm:Value) (an:Option Addr) (cdv ct:Value) (us:List Value),us.length=ps.length->bindArgs (W.fnOf x qual (defArgs st) (defBody st) (defScope st) .none kV doc pm an cdv ct) ⟨us,[]⟩=pure (ps.zip us)):Binds K fd ps []:=by
 obtain⟨oc,od,kV,doc,pm,an,cdv,ct,osl,rfl,lk,hcd⟩:=F.ex;exact .all (h kV doc pm an cdv ct)
theorem fun_mk {x qual:Str}{st:Stmt}{f:Addr}{oc:Value}{od an:Option Addr}{osl:Array (Option Value)}{kV doc pm cdv ct:Value}(l:K.lookup f=some ⟨oc,od,.func (W.fnOf x qual (defArgs st) (defBody st) (defScope st) .none kV doc pm an cdv ct),osl⟩)
  (c:W.codeIn K cdv qual=true) (k:W.keepIn K (.ref f)=true):Fun K x qual st f (W.fnOf x qual (defArgs st) (defBody st) (defScope st) .none kV doc pm an cdv ct):=⟨⟨oc,od,kV,doc,pm,an,cdv,ct,osl,rfl,l,c⟩,k⟩
end
theorem small1000 (h:n<=1000):n<sizeLine:=aO h (by decide)
section
variable {X:Cx}
theorem pv (i:Nat)(hN:X.N[i]?=some x:=by rfl)(hv:Vis X.env.scope x:=by first|exact Or.inl rfl|exact Or.inr (Or.inl rfl)|exact Or.inr (Or.inr rfl))(hd:(x == ("__debug__":Str))=false:=by decide)
  (hcd:(x == ("__classdict__":Str))=false:=by decide):PE X (.Name x pos) (tVar i):=pe_var hN hv hd hcd
end
theorem iteF {A B:Prop}(h:B):if false=true then A else B:=by rw[ae a7];exact h
theorem iteT {A B:Prop}(h:A):if true=true then A else B:=by rw[af rfl];exact h
def Nx (x:Option HO):HO->Prop
 | .tbl t=>∃ps,x=some (.tbl ⟨t.q,ps⟩)
 |o=>x=some o
def Same (H H':Hp):Prop:=∀b o,H b=some o->Nx (H' b) o
theorem Nx.of (h:x=some o):Nx x o:=by cases o<;>first|exact h|exact⟨_,h⟩
theorem Nx.some (h:Nx x o):∃u,x=some u:=by cases o<;>first|exact⟨_,h⟩|(obtain⟨ps,h⟩:=h;exact⟨_,h⟩)
theorem sS (h:∀b o,H b=some o->H' b=some o):Same H H':=λb o e=>.of (h b o e)
theorem Same.refl (H:Hp):Same H H:=sS λ_ _ h=>h
theorem Same.trans (a:Same H H1)(b:Same H1 H2):Same H H2:=λc o h=>by have q:=a c o h;cases o<;>first|exact b c _ q|(obtain⟨ps,q⟩:=q;have z:=b c _ q;exact z)
theorem Same.free (e:Same H H')(h:H' l=Option.none):H l=Option.none:=by
 cases q:H l with
 |none=>rfl
 |some o=>obtain⟨u,z⟩:=(e l o q).some;rw[z]at h;cases h
theorem Same.seq {K:Fg}{H H':Hp}{a:Addr}{xs:List V}(e:Same H H')(h:SqL K H a xs):SqL K H' a xs:=by
 rcases h with (h|⟨o,h⟩)|h
 ·exact .inl (.inl (e _ _ h))
 ·exact .inl (.inr ⟨o,e _ _ h⟩)
 ·exact .inr h
def gI (σ:St)(i:Nat):Int:=match σ[i]? with
 |some (some (.int n))=>n
 |_=>0
def hI (σ:St)(i:Nat):Prop:=σ[i]?=some (some (.int (gI σ i)))
def tN (C:St->Hp->Prop)(g:St->Int):TE:=λσ H Q=>C σ H/\Q (.int (g σ)) H
def tP (C:St->Hp->Prop)(p:St->Prop)[∀σ,Decidable (p σ)]:TT:=λσ H Q=>C σ H/\Q (decide (p σ)) H
def tV (C:St->Hp->Prop)(p:St->Prop)[∀σ,Decidable (p σ)]:TE:=λσ H Q=>C σ H/\Q (.bl (decide (p σ))) H
def tNs (C:St->Hp->Prop)(g:St->List Int):TA:=λσ H Q=>C σ H/\Q ((g σ).map V.int) H
section
variable {X:Cx}{a b:Expr}{pos:Pos}{Ca Cb:St->Hp->Prop}{ga gb:St->Int}
theorem mZ (i:Nat)(hN:X.N[i]?=some x:=by rfl)(hv:Vis X.env.scope x:=by first|exact Or.inl rfl|exact Or.inr (Or.inl rfl)|exact Or.inr (Or.inr rfl))
  (hd:(x == ("__debug__":Str))=false:=by decide) (hcd:(x == ("__classdict__":Str))=false:=by decide):PE X (.Name x pos) (tN (λσ _=>hI σ i) (λσ=>gI σ i)):=
 λpins s σ H Q I h=>pe_var hN hv hd hcd pins s σ H Q I ⟨_,h.1,h.2⟩
theorem vU:PE X (.Constant (.int i) j pos) (tN (λ_ _=>True) (λ_=>i)):=λpins s σ H Q I h=>pe_int pins s σ H Q I h.2
theorem Wb (hg:Gl X x)(hm:∃tk,X.mg x=some (.int i tk))(hd:(x == ("__debug__":Str))=false:=by decide):PE X (.Name x pos) (tN (λ_ _=>True) (λ_=>i)):=
 λpins s σ H Q I h=>let ⟨_,hm⟩:=hm;pe_glob hg hm (v:=.int i) ⟨_,rfl⟩ hd pins s σ H Q I h.2
theorem Xk {op:Operator}{C:Int->Int->Prop}{g:Int->Int->Int}(ho:OpR X (binaryOp op) (rI C λi j=>.int (g i j)))(ha:PE X a (tN Ca ga))(hb:PE X b (tN Cb gb)) :
  PE X (.BinOp a op b pos) (tN (λσ H=>Ca σ H/\Cb σ H/\C (ga σ) (gb σ)) (λσ=>g (ga σ) (gb σ))):=
 λpins s σ H Q I h=>pe_op ho ha hb pins s σ H Q I ⟨h.1.1,h.1.2.1,_,_,rfl,rfl,h.1.2.2,h.2⟩
theorem Yn {op:Operator}{g:Int->Int->Int}(ho:OpR X (binaryOp op) (rI0 λi j=>.int (g i j)))(ha:PE X a (tN Ca ga))(hb:PE X b (tN Cb gb)) :
  PE X (.BinOp a op b pos) (tN (λσ H=>Ca σ H/\Cb σ H) (λσ=>g (ga σ) (gb σ))):=
 λpins s σ H Q I h=>pe_op ho ha hb pins s σ H Q I ⟨h.1.1,h.1.2,_,_,rfl,rfl,h.2⟩
theorem Fz:OpR X (binaryOp .Mult) (rI IntMulOk λi j=>.int (i*j)):=opI λ_ _ _ _ _ _ _ hc q=>mul_int q hc
theorem Q6:OpR X (inplaceOp .Mult) (rI IntMulOk λi j=>.int (i*j)):=opI λ_ _ _ _ _ _ _ hc q=>imul_int q hc
def RJ (_ j:Int):Prop:=0<j/\j.natAbs.log2<9000
theorem TX:OpR X (binaryOp .FloorDiv) (rI RJ λi j=>.int (i / j)):=opI λi j _ _ _ _ _ hc q=>by have h1:(0:Int)<j:=hc.1;exact floordiv_int (by lia) (by rw[fY i (by lia)];exact q) (.inl (PyProof.noPylong_of_log2 hc.2))
theorem YB (ha:PE X a (tN Ca ga))(hb:PE X b (tN Cb gb)):PE X (.BinOp a .Mult b pos) (tN (λσ H=>Ca σ H/\Cb σ H/\IntMulOk (ga σ) (gb σ)) (λσ=>ga σ*gb σ)):=Xk Fz ha hb
theorem XM (ha:PE X a (tN Ca ga))(hb:PE X b (tN Cb gb)):PE X (.BinOp a .Mod b pos) (tN (λσ H=>Ca σ H/\Cb σ H/\0<gb σ) (λσ=>ga σ % gb σ)):=Xk op_mod ha hb
theorem XR (ha:PE X a (tN Ca ga)):PE X (.UnaryOp .USub a pos) (tN Ca (λσ=>-ga σ)):=
 λpins s σ H Q I h=>pe_un un_neg ha pins s σ H Q I ⟨h.1,_,rfl,h.2⟩
theorem zM {op:CmpOp}{p:Int->Int->Prop}[∀i j,Decidable (p i j)](ho:OpR X (compareOp op) (rI0 λi j=>.bl (decide (p i j))))(hm:behindInMarks op b=false)(ha:PE X a (tN Ca ga))(hb:PE X b (tN Cb gb)) :
  PT X (.Compare a [op] [b] pos) (tP (λσ H=>Ca σ H/\Cb σ H) (λσ=>p (ga σ) (gb σ))):=
 λpins s σ H Q I h=>pt_cmpR ho ha hb hm pins s σ H Q I ⟨h.1.1,h.1.2,_,_,rfl,rfl,_,rfl,h.2⟩
theorem JW:OpR X (compareOp .Eq) (rI0 λi j=>.bl (decide (i=j))):=λpins s σ H x y v u Q I rx ry h=>by obtain⟨i,j,rfl,rfl,q⟩:=h;refine op_eq pins s σ H _ _ v u Q I rx ry ⟨rfl,?_⟩;rw[dec_int,ig];exact q
theorem X3:OpR X (compareOp .NotEq) (rI0 λi j=>.bl (decide (¬i=j))):=λpins s σ H x y v u Q I rx ry h=>by obtain⟨i,j,rfl,rfl,q⟩:=h;have q:Q (.bl (decide (¬i=j))) H:=q;rw[iZ]at q;refine op_ne pins s σ H _ _ v u Q I rx ry ⟨rfl,?_⟩;rw[dec_int,ig];exact q
theorem RN (ha:PE X a (tN Ca ga))(hb:PE X b (tN Cb gb)):PT X (.Compare a [.Lt] [b] pos) (tP (λσ H=>Ca σ H/\Cb σ H) (λσ=>ga σ<gb σ)):=zM op_lt (nomark _) ha hb
theorem Zd (ha:PE X a (tN Ca ga))(hb:PE X b (tN Cb gb)):PT X (.Compare a [.LtE] [b] pos) (tP (λσ H=>Ca σ H/\Cb σ H) (λσ=>ga σ<=gb σ)):=zM op_le (nomark _) ha hb
theorem X7 (ha:PE X a (tN Ca ga))(hb:PE X b (tN Cb gb)):PT X (.Compare a [.Gt] [b] pos) (tP (λσ H=>Ca σ H/\Cb σ H) (λσ=>gb σ<ga σ)):=zM (p:=λi j=>j<i) op_gt (nomark _) ha hb
theorem Yh (ha:PE X a (tN Ca ga))(hb:PE X b (tN Cb gb)):PT X (.Compare a [.Eq] [b] pos) (tP (λσ H=>Ca σ H/\Cb σ H) (λσ=>ga σ=gb σ)):=zM JW (nomark _) ha hb
variable {pa pb:St->Prop}[∀σ,Decidable (pa σ)][∀σ,Decidable (pb σ)]{rest:List Expr}
theorem V4 (ha:PT X a (tP Ca pa)):PT X (.UnaryOp .Not a pos) (tP Ca (λσ=>¬pa σ)):=
 λpins s σ H Q I h=>pt_not ha pins s σ H Q I ⟨h.1,by have q:=h.2;rw[iZ]at q;exact q⟩
theorem pw_or1P (ha:PT X a (tP Ca pa)):PW X (.BoolOp .Or [a] pos) (tP Ca pa):=pw_or1 ha
theorem pw_orP (ha:PT X a (tP Ca pa))(hb:PW X (.BoolOp .Or (b::rest) pos) (tP Cb pb)):PW X (.BoolOp .Or (a::b::rest) pos) (tP (λσ H=>Ca σ H/\(¬pa σ->Cb σ H)) (λσ=>pa σ\/pb σ)):=
 λwh pins s σ H Q I h=>pw_or ha hb wh pins s σ H Q I ⟨h.1.1,by
  have q:=h.2;by_cases c:pa σ
  ·rw[aL (Or.inl c:pa σ\/pb σ)]at q;rw[aL c];refine iteT ?_;exact q
  ·rw[aJ c];refine iteF ?_;refine⟨h.1.2 c,?_⟩;have e:decide (pa σ\/pb σ)=decide (pb σ):=by simp[c]
   rw[e]at q;exact q⟩
theorem abm (h:PE X e (tV Ca pa))(he:∀whole,isTrue e X.env whole=(do let v <- whole;standAt e.pos;holding [v] (truthy v)):=by intro _;rfl):PT X e (tP Ca pa):=
 λpins s σ H Q I q=>pt_val h he pins s σ H Q I ⟨q.1,_,rfl,q.2⟩
def aa5 (C:St->Hp->Prop)(p:St->Prop)(t u:TS):TS:=λD σ H=>C σ H/\(p σ->t D σ H)/\(¬p σ->u D σ H)
theorem Fd (hc:PT X c (tP Ca pa))(hx:PSs X x t)(hy:PSs X y u):PS X (.If c x y pos) (aa5 Ca pa t u):=
 λpins s σ H D I h=>ps_if hc hx hy pins s σ H D I ⟨h.1,by
  by_cases c:pa σ
  ·rw[aL c];refine iteT ?_;exact h.2.1 c
  ·rw[aJ c];refine iteF ?_;exact h.2.2 c⟩
def aaM (i:Nat)(C:St->Hp->Prop)(g:St->Int):TS:=λD σ H=>C σ H/\∀n,n=g σ->D.nx (σ.set i (some (.int n))) H
theorem Vq (hN:X.N.Nodup)(hi:X.N[i]?=some x)(hx:Loc X.env.scope x)(he:PE X e (tN Ca ga))(hs:swapsWith e (some (.Name x pos')) pos.line X.env=pure false:=by rfl)
  (hf:X.fn x=true\/X.env.scope.names.lookup x=some .local:=by first|exact .inl rfl|exact .inr rfl|assumption):PS X (.Assign [.Name x pos'] e pos) (aaM i Ca ga):=
 λpins s σ H D I h=>ps_set hN hi hx he hs hf pins s σ H D I ⟨h.1,h.2 _ rfl⟩
def aaj (i:Nat)(C:St->Hp->Prop)(g:St->Int)(P:Int->Int->Prop)(f:Int->Int->Int):TS:=λD σ H=>hI σ i/\C σ H/\P (gI σ i) (g σ)/\∀n,n=f (gI σ i) (g σ)->D.nx (σ.set i (some (.int n))) H
theorem W0 (hN:X.N.Nodup)(hi:X.N[i]?=some x)(hx:Loc X.env.scope x)(he:PE X e (tN Ca ga))(ho:OpR X (inplaceOp op) (rI P λi j=>.int (f i j)))
  (hf:X.fn x=true\/X.env.scope.names.lookup x=some .local:=by first|exact .inl rfl|exact .inr rfl|assumption):PS X (.AugAssign (.Name x pos') op e pos) (aaj i Ca ga P f):=
 λpins s σ H D I h=>ps_aug hN hi hx he ho hf pins s σ H D I ⟨_,h.1,h.2.1,_,_,rfl,rfl,h.2.2.1,h.2.2.2 _ rfl⟩
theorem ul:OpR X (inplaceOp .Add) (rI (λ_ _=>True) λi j=>.int (i+j)):=λpins s σ H x y v u Q I rx ry h=>by obtain⟨i,j,e1,e2,_,q⟩:=h;exact iop_add pins s σ H x y v u Q I rx ry ⟨i,j,e1,e2,q⟩
def Wm (C:St->Hp->Prop)(p:St->Prop)(tb:TS):TS:=λD σ H=>∃(W:St->Hp->Prop) (μ:St->Hp->Nat),W σ H /\
 ∀σ H,W σ H->C σ H/\(p σ->tb { D with nx:=λσ' H'=>W σ' H'/\μ σ' H'<μ σ H,ct:=λσ' H'=>W σ' H'/\μ σ' H'<μ σ H,bk:=D.nx } σ H)/\(¬p σ->D.nx σ H)
theorem Ow (hp:PassesOwn (model X.prog X.w) X.A X.env X.xe)(hc:PT X c (tP Ca pa))(hb:PSs X body tb):PS X (.While c body [] pos) (Wm Ca pa tb):=
 λpins s σ H D I h=>ps_while hp hc hb pins s σ H D I (by
  obtain⟨W,μ,w0,st⟩:=h;refine while_by W μ w0 (λσ H w=>?_) (λσ H Q Q' m q=>⟨q.1,m _ _ q.2⟩);obtain⟨c1,c2,c3⟩:=st σ H w;refine⟨c1,?_⟩;by_cases c:pa σ
  ·rw[aL c];refine iteT ?_;exact c2 c
  ·rw[aJ c];refine iteF ?_;exact c3 c)
end
section
variable {X:Cx}{b:Expr}{es:List Expr}{pos p1:Pos}{Cb C:St->Hp->Prop}{gb:St->Int}
theorem zy {ns:Li}{i:Int}(h0:0<=i)(h1:i<(ns.length:Int)):atI (ns.map V.int) i=some (V.int (ns.getD i.toNat 0)):=by
 have e:i=((i.toNat:Nat):Int):=by lia
 have l:i.toNat<ns.length:=by lia
 have q:atI (ns.map V.int) ((i.toNat:Nat):Int)=some (V.int (ns.getD i.toNat 0)):=atI_nat (by rw[ao,ac l,gQ,ac l];rfl);rw[<- e]at q;exact q
def Z6 (K:Fg)(j:Nat)(C:St->Hp->Prop)(g:St->Int):TE:=λσ H Q=>C σ H/\∃(a:Addr) (ns:List Int) (n:Int),σ[j]?=some (some (.ref a))/\SqL K H a (ns.map V.int)/\atI (ns.map V.int) (g σ)=some (.int n)/\Q (.int n) H
theorem Vd (j:Nat)(hb:PE X b (tN C gb))(hs:PlainIx b)(hN:X.N[j]?=some x:=by rfl)(hv:Vis X.env.scope x:=by first|exact Or.inl rfl|exact Or.inr (Or.inl rfl)|exact Or.inr (Or.inr rfl))
  (hd:(x == ("__debug__":Str))=false:=by decide) (hcd:(x == ("__classdict__":Str))=false:=by decide):PE X (.Subscript (.Name x px) b pos) (Z6 X.K j C gb):=by
 intro pins s σ H Q I h;obtain⟨c,a,ns,n,e1,e2,e3,q⟩:=h;exact pe_ix ix_list (pe_var hN hv hd hcd) hb hs pins s σ H Q I ⟨_,e1,c,a,_,_,_,rfl,rfl,e2,e3,q⟩
theorem Ws (j:Nat)(a:Addr)(ns:Li){x:Str}{px:Pos}(hb:PE X b (tN C gb))(hs:PlainIx b)(hN:X.N[j]?=some x:=by rfl)(hv:Vis X.env.scope x:=by first|exact Or.inl rfl|exact Or.inr (Or.inl rfl)|exact Or.inr (Or.inr rfl))
  (hd:(x == ("__debug__":Str))=false:=by decide) (hcd:(x == ("__classdict__":Str))=false:=by decide) :
  PE X (.Subscript (.Name x px) b pos) (tN (λσ H=>C σ H/\σ[j]?=some (some (.ref a))/\SqL X.K H a (ns.map V.int) /\ -(ns.length:Int)<=gb σ/\gb σ<(ns.length:Int)) (λσ=>ns.getD (if 0<=gb σ then gb σ else gb σ+ns.length).toNat 0)):=by
 intro pins s σ H Q I h;obtain⟨⟨c,e1,e2,b1,b2⟩,q⟩:=h;refine pe_ix ix_list (pe_var hN hv hd hcd) hb hs pins s σ H Q I ⟨_,e1,c,a,_,_,_,rfl,rfl,e2,?_,q⟩;show atI (ns.map V.int) (gb σ)=some (V.int (ns.getD (if 0<=gb σ then gb σ else gb σ+ns.length).toNat 0));by_cases c0:0<=gb σ
 ·rw[af c0];exact zy c0 b2
 ·rw[ae c0];have q2:=zy (ns:=ns) (i:=gb σ+ns.length) (by lia) (by lia);unfold atI ixN at q2 ⊢;rw[aa]at q2 ⊢;rw[af (show 0<=gb σ+(ns.length:Int) by lia),af (show gb σ+(ns.length:Int)<(ns.length:Int) by lia)]at q2;rw[ae c0,af b1];exact q2
theorem YM (j:Nat)(a:Addr)(xs:List V)(hm:X.mg "len"=none)(hN:X.N[j]?=some x:=by rfl)(hg:Gl X "len":=by rfl)(hv:Vis X.env.scope x:=by first|exact Or.inl rfl|exact Or.inr (Or.inl rfl)|exact Or.inr (Or.inr rfl))
  (hd:(x == ("__debug__":Str))=false:=by decide) (hcd:(x == ("__classdict__":Str))=false:=by decide) (he:starEach [.Name x px] X.env=[(false,eval (.Name x px) X.env)]:=by rfl) :
  PE X (.Call (.Name "len" p) [.Name x px] [] pos) (tN (λσ H=>σ[j]?=some (some (.ref a))/\SqL X.K H a xs) (λ_=>(xs.length:Int))):=by
 intro pins s σ H Q I h;exact pe_callB call_len_seq hg hm PySem.boot_len (pa_cons (pe_var hN hv hd hcd) pa_nil he) (by decide) (by decide) he rfl pins s σ H Q I ⟨_,h.1.1,a,_,rfl,.inl h.1.2,h.2⟩
end
section
variable {X:Cx}{e:Expr}{es:List Expr}{pos p:Pos}{Ca Cb:St->Hp->Prop}{ga:St->Int}{gs:St->List Int}
theorem Vy:PA X [] (tNs (λ_ _=>True) (λ_=>[])):=λpos pins s σ H Q I h=>pa_nil pos pins s σ H Q I h.2
theorem Th (ha:PE X e (tN Ca ga))(hr:PA X es (tNs Cb gs))(hs:starEach (e::es) X.env=(false,eval e X.env)::starEach es X.env:=by rfl):PA X (e::es) (tNs (λσ H=>Ca σ H/\Cb σ H) (λσ=>ga σ::gs σ)):=
 λpos pins s σ H Q I h=>pa_cons ha hr hs pos pins s σ H Q I ⟨h.1.1,h.1.2,h.2⟩
end
def spB (n:Nat)(pre:List Int->Prop)(F:List Int->Bool):Sp:=λvs H Q _=>∃ns:List Int,ns.length=n/\vs=ns.map V.int/\pre ns/\Q (.bl (F ns)) H
structure Ok (P:Program)(w:World)(K:Fg)(mg:Mg)(base:Heap)(k:Nat)(x:Str)(ps:List Str)(sp:Sp):Prop where
 ex:∃f fd,FnOk P w K mg base CX0 k f fd ps sp/\Binds K fd ps []/\W.keepIn K (.ref f)=true/\mg x=some (.ref f)
theorem Ok.imp {P:Program}{w:World}{K:Fg}{mg:Mg}{base:Heap}{k:Nat}{x:Str}{ps:Ls}{sp sp':Sp}(o:Ok P w K mg base k x ps sp)(h:∀vs H Q E,sp' vs H Q E->sp vs H Q E):Ok P w K mg base k x ps sp':=by obtain⟨f,fd,a,b⟩:=o.ex;exact⟨f,fd,a.imp h,b⟩
section
variable {X:Cx}{e:Expr}{es:List Expr}{pos p:Pos}{j k:Nat}{x:Str}{ps:List Str}{sp:Sp}{t:TA}
theorem ud (o:Ok X.prog X.w X.K X.mg X.base j x ps sp)(hr:Room k X.A)(ha:PA X (e::es) t)(hj:j<=k:=by decide)(hg:Gl X x:=by rfl)(hdb:(x == ("__debug__":Str))=false:=by decide)
  (he:starEach (e::es) X.env=(false,eval e X.env)::starEach es X.env:=by rfl) (hpl:(backTo pos (starEach es X.env)).any (·.1)=false:=by rfl):PE X (.Call (.Name x p) (e::es) [] pos) (tCall sp [] E0 t):=by
 obtain⟨f,fd,F,b,kp,m⟩:=o.ex;exact pe_call (F.mono hj) hr hg m kp b .nil pass0 ha hdb he hpl
variable {C:St->Hp->Prop}{g:St->List Int}{n:Nat}{pre:List Int->Prop}
theorem V3 (o:Ok X.prog X.w X.K X.mg X.base j x ps (spB n pre F))(hr:Room k X.A)(ha:PA X (e::es) (tNs C g))(hn:∀σ,(g σ).length=n:=by intro _;rfl)(hj:j<=k:=by decide)(hg:Gl X x:=by rfl)
  (hdb:(x == ("__debug__":Str))=false:=by decide) (he:starEach (e::es) X.env=(false,eval e X.env)::starEach es X.env:=by rfl) (hpl:(backTo pos (starEach es X.env)).any (·.1)=false:=by rfl) :
  PE X (.Call (.Name x p) (e::es) [] pos) (tV (λσ H=>C σ H/\pre (g σ)) (λσ=>F (g σ)=true)):=
 λpins s σ H Q I h=>ud o hr ha hj hg hdb he hpl pins s σ H Q I ⟨h.1.1,g σ,hn σ,by rw[bu],h.1.2,by have q:=h.2;rw[fS]at q;exact q⟩
end
structure nQ (K:Fg)(mg:Mg)(x:Str)(st:Stmt)(ps:List Str):Prop where
 ex:∃f fd,Fun K x x st f fd/\Binds K fd ps []/\mg x=some (.ref f)
section
variable {P:Program}{w:World}{K:Fg}{mg:Mg}{base:Heap}
theorem nQ.ok {x:Str}{st:Stmt}{N ps:Ls}{k:Nat}{sp:Sp}(d:nQ K mg x st ps)(S:FnScope N ps (defScope st))(len:∀vs H Q E,sp vs H Q E->vs.length=ps.length)
  (hbody:∀(f:Addr) (cdv:Value) (A:Around) (outer:List Env) (s:Shared) (H:Hp) (vs:List V) (Q:VK) (E:XK),Room k (A.deeper (envOfC x (defScope st) s.heap.objs.size f cdv))->sp vs H Q E ->
   ∃t,PSs (cxOf CX0 P w K mg base N x (defScope st) f cdv A outer s H E).nox (defBody st) t/\t { nx:=λ_ H'=>Q .non H',rt:=Q } (start N vs) H):Ok P w K mg base (k+1) x ps sp:=by
 obtain⟨f,fd,F,b,m⟩:=d.ex;exact⟨f,fd,F.ok S len λcdv A outer s H vs Q E hr h=>hbody f cdv A outer s H vs Q E hr h,b,F.kp,m⟩
theorem nQ.mk' {x:Str}{st:Stmt}{ps:Ls}{f:Addr}{fd:FuncData}(F:Fun K x x st f fd)(b:Binds K fd ps [])(m:mg x=some (.ref f)):nQ K mg x st ps:=⟨f,fd,F,b,m⟩
end
theorem Uy:bootBuiltins "int"=some (.type "int"):=by decide +kernel
theorem Vz:bootBuiltins "bool"=some (.type "bool"):=by decide +kernel
theorem wK:bootBuiltins "list"=some (.type "list"):=by decide +kernel
theorem BV:bootBuiltins "tuple"=some (.type "tuple"):=by decide +kernel
theorem Ku:bootBuiltins "len"=some (.builtin "len"):=by decide +kernel
theorem Cw:bootBuiltins "isinstance"=some (.builtin "isinstance"):=by decide +kernel
def Yb:V->Option Value
 | .ty n=>some (.type n)
 | .ref a=>some (.ref a)
 |_=>none
theorem Sy (h:Yb c=some cv)(r:RelV c u):u=cv:=by
 cases c with
 |ty n=>cases h;exact r
 |ref a=>cases h;exact r
 |non=>cases h
 |bl _=>cases h
 |int _=>cases h
 |str _=>cases h
 |byt _=>cases h
 |flt _=>cases h
section
variable {X:Cx}
theorem JB:CallR X (.builtin "isinstance") (λxs H Q=>∃x c t cv b,xs=[x,c]/\Yb c=some cv/\TyOf X.K H x t/\W.kitOne X.K t cv=some b/\Q (.bl b) H):=by intro pins s σ H xs us Q I r h;obtain⟨x,c,t,cv,b,rfl,hc,ty,e,q⟩:=h;obtain⟨u,w',rfl,r1,r2⟩:=vals2 r;obtain rfl:=Sy hc r2;exact isinst_ok I r1 ty e λtk=>⟨.bl b,H,I.tok tk,rfl,q⟩
end
theorem Zc {ns:Li}(h:ns.length=1):∃a,ns=[a]:=match ns,h with | [a],_=>⟨a,rfl⟩
theorem aaw {ns:Li}(h:ns.length=2):∃a b,ns=[a,b]:=match ns,h with | [a,b],_=>⟨a,b,rfl⟩
theorem same_new (h:H p=none)(o:HO):Same H (upd H p o):=sS λb u q=>by rw[upd_ne (ne_of_none q h)];exact q
theorem bits_le (h:k.natAbs<2^n):Builtin.Int.intBits k<=n:=by
  unfold Builtin.Int.intBits;split
  . exact bh _
  . have hk:k.natAbs≠0:=by
      rename_i c;intro z;apply c
      first | exact z | (have:k=0:=by omega
                         simp[this])|lia
    have:=(iQ hk).mpr h;lia
theorem qI (ha:a.natAbs<2^n)(hb:b.natAbs<2^m)(hn:n<=1048576:=by decide)(hm:m<=1048576:=by decide):IntMulOk a b:=
 .of_bits (aC (bits_le ha) (aC hn (by decide))) (aC (bits_le hb) (aC hm (by decide)))
theorem uW (h:-(2^64)<b/\b<2^64):IntMulOk a b:=.of_right (intBits_le_64 h.1 h.2)
theorem GQ (h:-(2^64)<a/\a<2^64):IntMulOk a b:=.of_left (intBits_le_64 h.1 h.2)
abbrev VN:Value->Shared->Prop:=λ_ _=>False
def Dg (cs:List Expr)(ev:Env):Sem Bool:=forIn cs true λc r=>if r=true then do let ok <- isTrue c ev (eval c ev);pure (ForInStep.yield ok) else pure (ForInStep.yield r)
section
variable {P:Program}{w:World}{A:Around}{R:Result->Shared->Prop}{s:Shared}
theorem Qc (I:Nat->Shared->Prop)
  (turn:∀n s,I n s->wpAny (model P w) A (pyNext it) (λr s1=>(r=none/\R (.ok .next) s1)\/∃v,r=some v /\
   wpAny (model P w) A (letOwnedTupleGo tg it v) (λ_ s2=>wpAny (model P w) A (assign tg ev v) (λ_ s3=>wpAny (model P w) A (Dg cs ev) (λok s4=>
    if ok=true then wpAny (model P w) A (eval el ev) (λx s5=>wpAny (model P w) A (call (.builtin "list.append") [acc,x]) (λ_ s6=>∃m,m<n/\I m s6) VN s5) VN s4
    else ∃m,m<n/\I m s4) VN s3) VN s2) VN s1) VN s)
  (n:Nat) (h:I n s):codeAny (model P w) A (.compLoop (.ListComp el [⟨tg,src,cs,0⟩] sc at') 0 it acc ev) R s:=by
 refine codeAny_loop rfl I (λn s hI=>?_) n h;refine wpAny_noted (wpAny_noRaise ?_);rw[compTurn_list];refine aH (wpAny_standAt (aH (thn (turn n s hI) λr s1 h1=>?_)));rcases h1 with⟨rfl,h1⟩|⟨v,rfl,h1⟩
 ·exact bV h1
 ·refine aH (thn h1 λ_ s2 h2=>aH (thn h2 λ_ s3 h3=>aH (thn h3 λok s4 h4=>?_)));cases ok with
  |false=>exact bV ⟨rfl,h4⟩
  |true=>exact aH (aH (thn h4 λx s5 h5=>aH (thn h5 λ_ s6 h6=>bV (bV ⟨rfl,h6⟩))))
end
def rO (X:Cx)(sc:Scope)(cl:List (Str×Addr)):List Str->List (Option Nat)->Prop
 |[],[]=>True
 |_::xs,none::cs=>rO X sc cl xs cs
 |x::xs,some i::cs=>(X.N[i]?=some x/\Vis X.env.scope x/\X.env.kindOf x≠some .local/\((relabel sc X.env).names.lookup x=some .cell\/(relabel sc X.env).names.lookup x=some .free)/\∃c,cl.lookup x=some c/\X.env.cells.lookup x=some c)/\rO X sc cl xs cs
 |_,_=>False
def La (ev:Env):List (Str×Addr)->Prop
 |[]=>True
 |(x,c)::r=>ev.cells.lookup x=some c/\La ev r
theorem La.look:∀{cl:List (Str×Addr)},La ev cl->∀{x:Str} {c:Addr},cl.lookup x=some c->ev.cells.lookup x=some c
 |[],_,x,c,h=>by simp at h
 |(y,d)::r,q,x,c,h=>by
  rw[List.lookup_cons]at h;cases e:x == y with
  |true=>
   rw[e]at h;have e':x=y:=by simpa using e
   subst e';cases h;exact q.1
  |false=>rw[e]at h;exact La.look q.2 h
def pF (cap:List (Option Nat))(σ:St):St:=cap.map λo=>match o with
 |some i=>(σ[i]?).join
 |none=>none
def jE (X:Cx)(N':List Str)(sc:Scope)(cl:List (Str×Addr))(s:Shared)(H:Hp)(fp:List Addr):Cx:=
 { X with N:=N',s₀:=s,H₀:=H,env:=compEnvC sc cl s.heap.objs.size X.env,outer:=X.stack,ex:=fp,fn:=λ_=>false,pn:=[],xe:=VN }
section
variable {X:Cx}{pins:List (Addr×Obj)}{σ:St}{H:Hp}{s:Shared}{N':List Str}{sc:Scope}{cl:List (Str×Addr)}{cap:List (Option Nat)}{fp:List Addr}
theorem rO.length {X:Cx}{sc:Scope}{cl:List (Str×Addr)}:∀{N':Ls} {cap:List (Option Nat)},rO X sc cl N' cap->cap.length=N'.length
 |[],[],_=>rfl
 |_::xs,none::cs,h=>by have:=rO.length (X:=X) (sc:=sc) (cl:=cl) (N':=xs) (cap:=cs) h;simp[this]
 |_::xs,some i::cs,h=>by have:=rO.length (X:=X) (sc:=sc) (cl:=cl) (N':=xs) (cap:=cs) h.2;simp[this]
 |[],_::_,h=>h.elim
 |_::_,[],h=>h.elim
theorem rO.at:∀{N':Ls} {cap:List (Option Nat)} {j:Nat},rO X sc cl N' cap->N'[j]?=some x->cap[j]?=some (some i) ->
  X.N[i]?=some x/\Vis X.env.scope x/\X.env.kindOf x≠some .local/\((relabel sc X.env).names.lookup x=some .cell\/(relabel sc X.env).names.lookup x=some .free)/\∃c,cl.lookup x=some c/\X.env.cells.lookup x=some c
 |[],[],j,_,h,_=>by simp at h
 |_::xs,none::cs,0,_,_,h=>by simp at h
 |_::xs,none::cs,j+1,q,h1,h2=>rO.at (N':=xs) (cap:=cs) (j:=j) q (by simpa using h1) (by simpa using h2)
 |y::xs,some k::cs,0,q,h1,h2=>by
  have e1:y=x:=by simpa using h1
  have e2:k=i:=by simpa using h2
  subst e1 e2;exact q.1
 |_::xs,some _::cs,j+1,q,h1,h2=>rO.at (N':=xs) (cap:=cs) (j:=j) q.2 (by simpa using h1) (by simpa using h2)
 |[],_::_,_,h,_,_=>h.elim
 |_::_,[],_,h,_,_=>h.elim
theorem Inv.block (I:Inv X pins σ H s)(hk:sc.kind=.function)(hcap:rO X sc cl N' cap)(sub:La X.env cl)
  (has:∀x,((relabel sc X.env).names.lookup x=some .cell\/(relabel sc X.env).names.lookup x=some .free)->∃c,cl.lookup x=some c)
  (hf:∀b∈fp,FpOk X pins H b) (hfo:∀b∈fp,∃o,s.heap.get? b=some o) (hns:h'.Ns s.heap.objs.size m) (hsb:Heap.SameBut s.heap.objs.size (s.heap.push o) h') :
  Inv (jE X N' sc cl s H fp) [] (pF cap σ) H { s with heap:=h',toks:=tk }:=by
 have keep:∀b u,s.heap.get? b=some u->h'.get? b=some u:=λb u e=>
  (hsb.2 b (be (az e))).trans (ay _ e)
 refine⟨⟨I.ok.mod,hk,I.ok.glob,I.ok.blt,ai _,λx y c h1 h2=>I.ok.inj x y c (sub.look h1) (sub.look h2),has,(λx c h _=>nomatch h),I.ok.hd,I.ok.frames,.inl rfl,
  λb hb=>⟨?_,λx c e=>(hf b hb).2.2.2.2.1 x c (sub.look e)⟩,I.bs,aC I.ok.bsz I.sz,λb u e hb=>?_,λb hb hb'=>?_,I.stack,I.env0.frf⟩,
  rfl,I.bare,Un.kept keep,⟨m,hns,λj x v h1 h2 h3=>?_⟩,λx c e=>?_,I.hok.fresh (ai _),λx c e=>I.freeC x c (sub.look e),λp hp=>absurd (show p∈([]:List (Addr×Obj)) from hp) (by simp),I.hok.kept keep,?_⟩
 ·obtain⟨u,e⟩:=hfo b hb;exact be (az e)
 ·rcases (hf b hb).2.2.2.1 with z|z
  ·exact I.ok.noex b u e z
  ·exact absurd (aD (az e) (aC I.ok.bsz z)) (cT _)
 ·rcases aB.mp (I.stkSub b hb') with z|z
  ·exact(hf b hb).2.1 z
  ·exact(hf b hb).2.2.1 z
 ·obtain⟨m0,hn0,hl0⟩:=I.loc;have h2':((cap.map λo=>match o with|some i=>(σ[i]?).join|none=>none):St)[j]?=some (some v):=h2
  rw[ao]at h2';cases e:cap[j]? with
  |none=>rw[e]at h2';cases h2'
  |some oi=>
   rw[e]at h2';cases oi with
   |none=>cases h2'
   |some i=>
    have h4:(σ[i]?).join=some v:=aF h2';have h5:σ[i]?=some (some v):=by
     cases z:σ[i]? with
     |none=>rw[z]at h4;cases h4
     |some y=>rw[z]at h4;cases h4;rfl
    obtain⟨a1,a2,a3,a4,c,a5,a6⟩:=hcap.at h1 e;obtain⟨u,r,l⟩:=hl0 i x v a1 h5 a2;refine⟨u,r,.inr ⟨a4,c,a5,?_⟩⟩;rcases l with⟨k,_⟩|⟨_,c',e',ic⟩
    ·exact absurd k a3
    ·rw[a6]at e';cases e';obtain⟨oc,h7,h8⟩:=ic;exact⟨oc,keep _ _ h7,h8⟩
 ·obtain⟨v,oc,h7,h8⟩:=I.cell x c (sub.look e);exact⟨v,oc,keep _ _ h7,h8⟩
 ·unfold pF;rw[aa];exact hcap.length
theorem Inv.WY (I:Inv X pins σ H s)(hf:∀b∈fp,FpOk X pins H b)(J:Inv (jE X N' sc cl s H fp) pins' σ' H' s'):Inv X pins σ H' s':=
 I.call' (ch:=fp) J.os J.base J.hok J.bare λb hb=>⟨(hf b hb).2.2.2.1,(hf b hb).2.1,(hf b hb).2.2.2.2.1,(hf b hb).2.2.2.2.2⟩
end
def Cz:St->St->Prop
 |[],[]=>True
 |none::a,_::b=>Cz a b
 |some v::a,y::b=>y=some v/\Cz a b
 |_,_=>False
theorem Cz.at:∀{a b:St},Cz a b->∀(i:Nat) (v:V),a[i]?=some (some v)->b[i]?=some (some v)
 |[],[],_,i,v,h=>by simp at h
 |none::a,_::b,q,0,v,h=>by simp at h
 |none::a,_::b,q,i+1,v,h=>by have:=Cz.at (a:=a) (b:=b) q i v (by simpa using h);simpa using this
 |some u::a,y::b,q,0,v,h=>by
  have e:u=v:=by simpa using h
  rw[q.1,e];rfl
 |some u::a,y::b,q,i+1,v,h=>by have:=Cz.at (a:=a) (b:=b) q.2 i v (by simpa using h);simpa using this
 |[],_::_,q,_,_,_=>q.elim
 |none::_,[],q,_,_,_=>q.elim
 |some _::_,[],q,_,_,_=>q.elim
def PTs (X:Cx)(cs:List Expr)(t:TT):Prop:=
 ∀(pins:List (Addr×Obj)) (s:Shared) (σ:St) (H:Hp) (Q:Bool->Hp->Prop),Inv X pins σ H s->t σ H Q->wpAny (model X.prog X.w) X.A (Dg cs X.env) (TP X pins σ Q) X.xe s
theorem pM:PTs X [] (λ_ H Q=>Q true H):=λ_ _ _ H _ I h=>wpAny_tests_nil ⟨H,I,h⟩
theorem Nr (h:PT X c t):PTs X [c] t:=λpins s σ H Q I q=>wpAny_tests_one (h pins s σ H Q I q)
def lcW (D:Addr)(J:It)(σ:St)(g:TG)(tt:TT)(te:TE)(Q:VK)(W:Nat->Nat->List V->Hp->Prop):Prop:=
 ∀i m ys H,W i m ys H->H D=some (.lst ys)/\ys.length<sizeLine /\
  ((J.stop i H/\Q (.ref D) H)\/(J.go i H/\∀x H',J.yld i H x H' -> g x σ H' λσ2 H2=>Cz σ σ2/\tt σ2 H2 λok H3=>
   if ok=true then te σ2 H3 λy H4=>H4 D=some (.lst ys)/\∃m',m'<m/\W (i+1) m' (ys++[y]) (upd H4 D (.lst (ys++[y])))
   else ∃m',m'<m/\W (i+1) m' ys H3))
def Qt (cap:List (Option Nat))(wi:TI)(g:TG)(tt:TT)(te:TE):TE:=λσ H Q=>wi σ H λJ H1=>∀D,H1 D=none->∃W:Nat->Nat->List V->Hp->Prop,(∃m,W 0 m [] (upd H1 D (.lst [])))/\lcW D J (pF cap σ) g tt te Q W
section
variable {X:Cx}{pins:List (Addr×Obj)}{σ:St}{H:Hp}{s:Shared}{N':List Str}{sc:Scope}{cl:List (Str×Addr)}{cap:List (Option Nat)}{fp:List Addr}
 {el tg src:Expr} {cs:List Expr} {at':Pos} {g:TG} {tt:TT} {te:TE} {J:It} {it:Addr} {tn:Nat->Heap->Prop} {Q:VK}
structure u6 (X:Cx)(N':List Str)(sc:Scope)(cl:List (Str×Addr))(cap:List (Option Nat)):Prop where
 kind:sc.kind=.function
 clos:closureFor sc X.env=pure cl
 nocell:∀y∈sc.names,y.2 ≠ .cell
 names:∀y∈sc.names,y.2=.local->sc.names.lookup y.1=some .local
 cap:rO X sc cl N' cap
 sub:La X.env cl
 has:∀x,((relabel sc X.env).names.lookup x=some .cell\/(relabel sc X.env).names.lookup x=some .free)->∃c,cl.lookup x=some c
theorem ph (kind:sc.kind=.function)(clos:closureFor sc X.env=pure cl)(h1:(sc.names.all λy=>y.2 != .cell)=true)(h2:(sc.names.all λy=>y.2 != .local || sc.names.lookup y.1 == some .local)=true)
  (hcap:rO X sc cl N' cap) (sub:La X.env cl) (h3:((relabel sc X.env).names.all λy=>(y.2 != .cell && y.2 != .free) || (cl.lookup y.1).isSome)=true):u6 X N' sc cl cap:=by
 refine⟨kind,clos,λy hy e=>?_,λy hy e=>?_,hcap,sub,λx hx=>?_⟩
 ·have q:=dD.mp h1 y hy;rw[e]at q;exact absurd q (by decide)
 ·have q:=dD.mp h2 y hy;rw[e]at q;simpa using q
 ·have key:∀k,(k=NameKind.cell\/k=NameKind.free)->(relabel sc X.env).names.lookup x=some k->∃c,cl.lookup x=some c:=λk hk e=>by
   have q:=dD.mp h3 _ (c8 e);rcases hk with rfl|rfl
   ·exact cQ.mp (by simpa using q)
   ·exact cQ.mp (by simpa using q)
  rcases hx with e|e
  ·exact key _ (.inl rfl) e
  ·exact key _ (.inr rfl) e
theorem DK (L:u6 X N' sc cl cap)(hc:X.calm=true)(I:Inv X pins σ H s)(T:Turn X.prog X.w X.K tg J fp it tn)(st:tn 0 s.heap)(hf:∀b∈fp,FpOk X pins H b)
  (hg:∀s H fp,PG (jE X N' sc cl s H fp) tg g) (ht:∀s H fp,PTs (jE X N' sc cl s H fp) cs tt) (he:∀s H fp,PE (jE X N' sc cl s H fp) el te)
  (rd:∀D,H D=none->∃W:Nat->Nat->List V->Hp->Prop,(∃m,W 0 m [] (upd H D (.lst [])))/\lcW D J (pF cap σ) g tt te Q W)
  {Ex:Value->Shared->Prop} {RR:Value->Addr->Result->Shared->Prop} (hR:∀D C m H' s',Inv X pins σ H' s' -> s'.heap.Ns C m->FpOk X pins H' C->Q (.ref D) H' -> RR (.ref D) C (.ok .next) s') :
  wpAny (model X.prog X.w) X.A (newList []) (λacc s3=>wpAny (model X.prog X.w) X.A (newFunctionEnv sc X.env.globals cl [] X.env.qual none .none (some X.env)) (λcv s4=>
   codeAny (model X.prog X.w) X.A (.compStart (.ListComp el [⟨tg,src,cs,0⟩] sc at') 0 (.ref it) acc { cv with scope:=relabel sc X.env }) (RR acc cv.locals) s4) Ex s3) Ex s:=by
 obtain⟨W,⟨m0,w0⟩,step⟩:=rd _ I.fresh;refine wpAny_newObj_type (fH L.nocell (by intro y hy;simp at hy) (λh1 hns hsb=>?_) L.kind);have I3:Inv X pins σ (upd H s.heap.objs.size (.lst [])) { s with heap:=s.heap.push { cls:=.type "list",dict:=none,data:=.seq ([]:List Value).toArray } }:=I.lnew (its:=[]) (t':=s.toks) .nil (by show 0<=sizeLine;decide);have hfo:∀b∈fp,∃o,s.heap.get? b=some o:=λb hb=>let ⟨o,e,_⟩:=T.obj 0 s.heap st b hb;⟨o,e⟩
 have hf3:∀b∈fp,FpOk X pins (upd H s.heap.objs.size (.lst [])) b:=λb hb=>by obtain⟨o,e⟩:=hfo b hb;exact⟨by rw[upd_ne (be (az e))];exact(hf b hb).1,(hf b hb).2⟩
 dsimp only at hns hsb ⊢;generalize hs3:({ s with heap:=s.heap.push { cls:=.type "list",dict:=none,data:=.seq ([]:List Value).toArray } }:Shared)=s3 at I3 hns hsb ⊢;have hh3:s3.heap=s.heap.push { cls:=.type "list",dict:=none,data:=.seq ([]:List Value).toArray }:=by rw[<- hs3]
 have hns:h1.Ns s3.heap.objs.size (λx=>List.lookup x ([]:List (Str×Value)).reverse):=by rw[hh3];exact hns
 have hsb:Heap.SameBut s3.heap.objs.size (s3.heap.push { cls:=.type (if (some X.env).isSome=true then "dict" else "frame"),data:=.dict #[] }) h1:=by rw[hh3];exact hsb
 have hk3:∀b o,s.heap.get? b=some o->s3.heap.get? b=some o:=λb o e=>by rw[hh3];exact ay _ e
 have J0:=I3.block (N':=N') (cap:=cap) (fp:=fp) (tk:=s3.toks+([]:List (Str×Value)).length) L.kind L.cap L.sub L.has hf3 (λb hb=>let ⟨o,e⟩:=hfo b hb;⟨o,hk3 b o e⟩) hns hsb
 have st1:tn 0 h1:=T.keep 0 s.heap h1 st λb hb o e=>(hsb.2 b (be (az (hk3 b o e)))).trans (ay _ (hk3 b o e));have fpx:∀{H':Hp},(∀b∈fp,H' b=none)->∀b∈fp,FpOk (jE X N' sc cl s3 (upd H s.heap.objs.size (.lst [])) fp) [] H' b:=λhn b hb=>by
  obtain⟨o,e⟩:=hfo b hb;refine⟨hn b hb,be (az (hk3 b o e)),λhb'=>?_,.inl hb,λx c q=>(hf b hb).2.2.2.2.1 x c (L.sub.look q),λp hp=>absurd (show p∈([]:List (Addr×Obj)) from hp) (by simp)⟩;rcases aB.mp (I.stkSub b hb') with z|z
  ·exact(hf b hb).2.1 z
  ·exact(hf b hb).2.2.1 z
 have loop:∀s4:Shared,s4={ s3 with heap:=h1,toks:=s3.toks+([]:List (Str×Value)).length } ->
   codeAny (model X.prog X.w) X.A (.compLoop (.ListComp el [⟨tg,src,cs,0⟩] sc at') 0 (.ref it) (.ref s.heap.objs.size) (compEnvC sc cl s3.heap.objs.size X.env)) (RR (.ref s.heap.objs.size) s3.heap.objs.size) s4:=by
  rintro s4 rfl;refine Qc (λn s'=>∃i ys H',Inv (jE X N' sc cl s3 (upd H s.heap.objs.size (.lst [])) fp) [] (pF cap σ) H' s'/\tn i s'.heap/\(∀b∈fp,H' b=none)/\W i n ys H') ?_ m0 ⟨0,[],_,J0,st1,λb hb=>(hf3 b hb).1,w0⟩;rintro n s' ⟨i,ys,H',Ji,sti,fri,wi⟩;obtain⟨hD,hlen,hgo⟩:=step i n ys H' wi;rcases hgo with⟨hstop,hq⟩|⟨hgo,hbody⟩
  ·refine thn (T.done (jE X N' sc cl s3 (upd H s.heap.objs.size (.lst [])) fp) rfl rfl rfl hc i [] s' _ H' VN Ji (fpx fri) sti hstop) λr s1 ⟨hr,J1⟩=>.inl ⟨hr,?_⟩;obtain⟨m1,hm1,_⟩:=J1.loc;exact hR _ _ m1 H' s1 (I3.WY hf3 J1) hm1 (I3.fpOk (ai _) J1.free) hq
  ·refine thn (T.item (jE X N' sc cl s3 (upd H s.heap.objs.size (.lst [])) fp) rfl rfl rfl hc i [] s' _ H' VN Ji (fpx fri) sti hgo) λr s1 ⟨u,hr,h4⟩=>.inr ⟨u,hr,thn h4 λ_ s5 ⟨x,H5,J5,r5,y5,st5,fr5⟩=>?_⟩;have J5':=J5.pinned (fpx fr5) (T.obj _ _ st5);refine thn (hg _ _ _ _ s5 _ H5 x u _ J5' r5 (hbody x H5 y5)) λ_ s6 ⟨σ6,H6,J6,ext,q6⟩=>?_;have endT:∀{ys':List V} {H7:Hp} {s7:Shared} {m':Nat},Inv (jE X N' sc cl s3 (upd H s.heap.objs.size (.lst [])) fp) ([]++pinsAt fp s5.heap) σ6 H7 s7->m'<n->W (i+1) m' ys' H7 ->
     ∃m,m<n/\∃i ys H',Inv (jE X N' sc cl s3 (upd H s.heap.objs.size (.lst [])) fp) [] (pF cap σ) H' s7/\tn i s7.heap/\(∀b∈fp,H' b=none)/\W i m ys H':=λ{ys' H7 s7 m'} J7 hm w7=>by
    refine⟨m',hm,i+1,ys',H7,(J7.unpinned).weak ?_ λj v z=>ext.at j v z,T.keep _ _ _ st5 λb hb o e=>(J7.pin (b,o) (aM _ (aM _ (mem_pinsAt hb e)))).1,λb hb=>?_,w7⟩
    ·rw[J7.len,Ji.len]
    ·obtain⟨o,e,_⟩:=T.obj _ _ st5 b hb;exact(J7.pin (b,o) (aM _ (aM _ (mem_pinsAt hb e)))).2.1
   refine thn (ht _ _ _ _ s6 _ H6 _ J6 q6) λok s7 ⟨H7,J7,q7⟩=>?_;cases ok with
   |false=>obtain⟨m',hm,w7⟩:=q7;exact endT J7 hm w7
   |true=>refine thn (he _ _ _ _ s7 _ H7 _ J7 q7) λy s8 ⟨yv,H8,J8,r8,hD8,m',hm,w8⟩=>?_;exact thn (mt_append _ s8 _ H8 (.ref s.heap.objs.size) [yv] (.ref s.heap.objs.size) [y] (λv H9=>H9=upd H8 s.heap.objs.size (.lst (ys++[yv]))) J8 rfl (.cons r8 .nil) ⟨_,ys,yv,rfl,rfl,hD8,hlen,rfl⟩) λ_ s9 ⟨_,H9,J9,_,e9⟩=>by subst e9;exact endT J9 hm w8
 subst hs3;exact codeAny_compStart_list (loop _ rfl) (T.self _ 0 _ _ _ st1 (loop _ rfl))
theorem yD (L:u6 X N' sc cl cap)(hc:X.calm=true)(hi:PI X tg src wi)(hg:∀s H fp,PG (jE X N' sc cl s H fp) tg g)(ht:∀s H fp,PTs (jE X N' sc cl s H fp) cs tt)(he:∀s H fp,PE (jE X N' sc cl s H fp) el te)
  (hs:∀x,foldedSetIterable src X.env x=pure x:=by intro _;rfl):PE X (.ListComp el [⟨tg,src,cs,0⟩] sc at') (Qt cap wi g tt te):=by
 intro pins s σ H Q I h;rw[eval_ListComp];refine wpAny_comprehension_free (use:=none) rfl hs L.clos L.kind L.names (thn (hi pins s σ H _ I h) λv s1 h1=>thn h1 λitv s2 h2=>?_);obtain⟨it,fp,tn,J,H2,rfl,I2,T,st2,f2,rd⟩:=h2;refine DK L hc I2 T st2 f2 hg ht he rd (RR:=λacc C=>compPost (model X.prog X.w) X.A X.xe none (EP X pins σ Q) acc C) λD C m H' s' J' hn fC q=>?_;refine⟨m,hn,λh' sb=>⟨.ref D,H',J'.turned (t':=s'.toks) (λb o hb e=>(sb.2 b hb).trans e) fC.1 fC.2.1 fC.2.2.2.1 fC.2.2.2.2.1 fC.2.2.2.2.2,rfl,q⟩⟩
theorem M6 (hN:X.N.Nodup)(hi':X.N[i]?=some x)(hx:X.env.scope.names.lookup x=some .local)(L:u6 X N' sc cl cap)(hc:X.calm=true)(hi:PI X tg src wi)(hg:∀s H fp,PG (jE X N' sc cl s H fp) tg g)
  (ht:∀s H fp,PTs (jE X N' sc cl s H fp) cs tt) (he:∀s H fp,PE (jE X N' sc cl s H fp) el te) (hsw:swapsWith (.ListComp el [⟨tg,src,cs,0⟩] sc at') (some (.Name x px)) spos.line X.env=pure true)
  (hs:∀x,foldedSetIterable src X.env x=pure x:=by intro _;rfl):PS X (.Assign [.Name x px] (.ListComp el [⟨tg,src,cs,0⟩] sc at') spos) (tAsg (Qt cap wi g tt te) (gName i)):=by
 intro pins s σ H D I h;rw[exec_Assign_Name_used _ _ _ _ hsw];refine aH (wpAny_standAt (aH ?_));refine aH (thn (wpAny_comprehension_free (use:=some (assign (.Name x px) X.env)) (Q:=λ_ s'=>SP X pins D .next s') rfl hs L.clos L.kind L.names (thn (hi pins s σ H _ I h) λv s1 h1=>thn h1 λitv s2 h2=>?_)) λ_ s' q=>bV (bV q));obtain⟨it,fp,tn,J,H2,rfl,I2,T,st2,f2,rd⟩:=h2;refine DK L hc I2 T st2 f2 hg ht he rd (RR:=λacc C=>compPost (model X.prog X.w) X.A X.xe (some (assign (.Name x px) X.env)) (λ_ s'=>SP X pins D .next s') acc C) λD' C m H' s' J' hn fC q=>?_;obtain⟨oC,es,ep,hoC,hdC,hr⟩:=hn;have Jp:Inv X (pins++[(C,oC)]) σ H' s':=J'.pins_of λp hp=>by
  rcases c5.mp hp with z|z
  ·exact J'.pin p (aM _ z)
  ·have e:p=(C,oC):=by simpa using z
   subst e;exact⟨hoC,fC.1,fC.2.1,fC.2.2.1,λv z=>by rw[hdC]at z;cases z⟩
 refine thn (pg_name (i:=i) hN hi' (.inl hx) (.inr hx) _ s' σ H' (.ref D') (.ref D') (λσ' H''=>D.nx σ' H'') Jp rfl q) λ_ s'' ⟨σ',H'',J2,q2⟩=>?_;obtain⟨p1,p2,p3,p4,p5⟩:=J2.pin (C,oC) (aM _ (aM _ (by simp)));refine⟨m,⟨oC,es,ep,p1,hdC,hr⟩,λh' sb=>⟨σ',H'',(J2.pins_of (pins':=pins) λp hp=>J2.pin p (aM _ (cE _ hp))).turned (t':=s''.toks) (λb o hb e=>(sb.2 b hb).trans e) p2 fC.2.1 fC.2.2.2.1 fC.2.2.2.2.1 fC.2.2.2.2.2,q2⟩⟩
end
theorem ObjOk.get (x:ObjOk P w H h a o):∃ob,h.get? a=some ob:=by
 cases o with
 |lst xs=>obtain⟨_,_,_,_,e⟩:=x;exact⟨_,e⟩
 |tup xs=>obtain⟨_,_,_,ob,e,_⟩:=x;exact⟨ob,e⟩
 |dK kvs=>obtain⟨_,_,_,_,o,_,_,e,_⟩:=x;exact⟨o,e⟩
 |dT kvs=>obtain⟨_,_,_,_,o,_,_,e,_⟩:=x;exact⟨o,e⟩
 |set S n=>obtain⟨o,_,_,_,e,_⟩:=x;exact⟨o,e⟩
 |ins C dx fs=>obtain⟨_,_,_,e,_⟩:=x;exact⟨_,e⟩
 |own y=>exact x
 |xd fs=>obtain⟨_,⟨o,_,_,e,_⟩,_⟩:=x;exact⟨o,e⟩
 |rng lo hi=>obtain⟨_,_,_,e⟩:=x;exact⟨_,e⟩
 |frz ob u=>obtain⟨e,_⟩:=x;exact⟨ob,e⟩
 |tbl ps=>exact⟨_,x.1⟩
 |met f y=>exact⟨_,(show h.get? a=some _ from x)⟩
 |ext φ=>obtain⟨_,e,_⟩:=x;exact e
structure Lft (fr as:List Addr)(h h2:Heap)(a:Addr)(cls:Value):Prop where
 keep:∀b o,h.get? b=some o->b∉as->h2.get? b=some o
 slot:∀b o,b∈fr->h.get? b=some o->∃sl,h2.get? b=some { o with slots:=sl }
 ex:∃oe vs T oT ts,h2.get? a=some oe/\oe.cls=cls/\oe.dict=none/\oe.data=.fields vs/\vs[1]?=some (.ref T)/\h.get? T=none/\T≠a/\h2.get? T=some oT/\oT.data=.fields ts/\ts[3]?=some .none
theorem BK (f:Array Value->Array Value)(o:Obj):(Obj.mapFields f o).dict=o.dict:=by unfold Obj.mapFields;split<;>rfl
section
variable {M:Model}{A:Around}{E:Value->Shared->Prop}{s:Shared}{base:Heap}{env:Env}{outer:List Env}{L a:Addr}{oe:Obj}{vs:Array Value}{as:List Addr}{Q:Unit->Shared->Prop}
theorem Ea (hfr:A.frames=some (env::outer))(hl:s.heap.FunFrames base (env::outer))(hf:env.frame=some L)(he:s.heap.get? a=some oe)(hdn:oe.dict=none)(hd:oe.data=.fields vs)(hsz:1<vs.size)
  (haa:a∈as) (hfs:∀b∈frs (env::outer),b∈as) (h:∀h',Lft (frs (env::outer)) as s.heap h' a oe.cls->Q () { s with heap:=h' }) :
  wpAny M A (do let x <- frameOf env;let pl <- entryPlaceOf L hadNext;let b <- EntryCells.newEntry head x .none (rawInt L) .none pl;setField (.ref a) 1 b) (λ_ s'=>wpAny M A (setFlight (.ref a) none) Q E s') E s:=by
 have hna:a∉frs (env::outer):=λz=>by obtain⟨_,o,e,d⟩:=hl.mem z;rw[he]at e;cases e;exact d vs hd
 refine aH (wpAny_frameOf_fun hfr hl hf λh1 so=>aH (wpAny_entryPlaceOf λpl hpl=>?_));unfold EntryCells.newEntry newFields;refine aH (wpAny_newObj_type ?_ (hpl.sizeOk5 _ _ _ _ _));have e1:h1.get? a=some oe:=(so.2.1 a hna).trans he;have nT:h1.objs.size≠a:=dN (az e1);generalize hts:([head,Value.ref L,Value.none,rawInt L,Value.none]++(if pl.isEmpty then List.replicate 6 Value.none else pl)).toArray=ts;have lt3:3<ts.size:=by rw[<- hts];simp
 have e2:=ay (h:=h1) { cls:=.type "traceback",dict:=none,data:=.fields ts } e1;have t2:=a8 h1 (o:={ cls:=.type "traceback",dict:=none,data:=.fields ts }) rfl;refine wpAny_setField e2 hd hsz ?_;have d3:=eV hd (·.setIfInBounds 1 (Value.ref h1.objs.size));have e3:=dO (Obj.mapFields (·.setIfInBounds 1 (Value.ref h1.objs.size))) e2 (fk d3);have t3:=(bU (h1.push { cls:=.type "traceback",dict:=none,data:=.fields ts }) (Obj.mapFields (·.setIfInBounds 1 (Value.ref h1.objs.size))) (cf nT)).trans t2;refine wpAny_setFlight_none (vs:=vs.setIfInBounds 1 (.ref h1.objs.size)) e3 d3 (by simp[hsz]) t3 rfl lt3 (h _ ⟨λb o q nb=>?_,λb o q eb=>?_,?_⟩)
 ·have q1:h1.get? b=some o:=(so.2.1 b λz=>nb (hfs b z)).trans q;have ba:b≠a:=λz=>nb (z ▸ haa);rw[bU _ _ (dN (az q1)),bU _ _ (cf ba)];exact ay _ q1
 ·obtain⟨sl,q1⟩:=so.2.2 b o eb;have ba:b≠a:=λz=>hna (z ▸ q);refine⟨sl,?_⟩;rw[bU _ _ (dN (az q1)),bU _ _ (cf ba)];exact ay _ q1
 ·refine⟨_,_,h1.objs.size,_,_,(bU _ _ nT).trans e3,Obj.cls_mapFields _ _,?_,d3,by simp[hsz],?_,nT,dO _ t3 (fk (eV rfl _)),eV rfl _,by simp[lt3]⟩
  ·rw[BK];exact hdn
  ·cases q:s.heap.get? h1.objs.size with
   |none=>rfl
   |some o=>obtain⟨sl,q1⟩:=so.2.2 _ o q;exact absurd (az q1) (cT _)
theorem KC (hfr:A.frames=some (env::outer))(hl:s.heap.FunFrames base (env::outer))(hf:env.frame=some L)(he:s.heap.get? a=some oe)(hdn:oe.dict=none)(hd:oe.data=.fields vs)(h1:vs[1]?=some .none)
  (haa:a∈as) (hfs:∀b∈frs (env::outer),b∈as) (h:∀h',Lft (frs (env::outer)) as s.heap h' a oe.cls->Q () { s with heap:=h' }) :
  wpAny M A (noteFrame (.ref a) env) (λ_ s'=>wpAny M A (setFlight (.ref a) none) Q E s') E s:=by
 unfold noteFrame;simp only[hf];refine aH (wpAny_field he hd h1 ?_);rw[ae (by decide)];exact Ea hfr hl hf he hdn hd (d7.mp h1).1 haa hfs h
theorem Pk (hfr:A.frames=some (env::outer))(hl:s.heap.FunFrames base (env::outer))(hf:env.frame=some L)(he:s.heap.get? a=some oe)(hdn:oe.dict=none)(hd:oe.data=.fields vs)(h1:vs[1]?=some (.ref T))
  (hTa:T≠a) (hT:s.heap.get? T=some oT) (hdT:oT.data=.fields ts) (h3:ts[3]?=some .none)
  (haa:a∈as) (hTT:T∈as) (hfs:∀b∈frs (env::outer),b∈as) (h:∀h',Lft (frs (env::outer)) as s.heap h' a oe.cls->Q () { s with heap:=h' }) :
  wpAny M A (noteFrame (.ref a) env) (λ_ s'=>wpAny M A (setFlight (.ref a) none) Q E s') E s:=by
 unfold noteFrame;simp only[hf];refine aH (wpAny_field he hd h1 ?_);rw[af (show(Value.ref T != Value.none)=true from by simp)];refine aH (wpAny_field hT hdT h3 ?_);rw[ae (show ¬((Value.none == rawInt L)=true) from by simp[rawInt])];refine aH (wpAny_setField hT hdT (d7.mp h3).1 ?_);have nT:T∉frs (env::outer):=λz=>by obtain⟨_,o,e,d⟩:=hl.mem z;rw[hT]at e;cases e;exact d ts hdT
 have oth:∀b,b≠T->(s.heap.update T (Obj.mapFields (·.setIfInBounds 3 Value.none))).get? b=s.heap.get? b:=λb hb=>bU _ _ (cf hb);have selfT:=dO (Obj.mapFields (·.setIfInBounds 3 Value.none)) hT (fk (eV hdT _));refine Ea hfr (hl.of_keeps λb o hb hnf=>⟨o,(oth b (λz=>by rw[z,hT]at hb;cases hb;exact hnf ts hdT)).trans hb,rfl⟩) hf ((oth a (cf hTa)).trans he) hdn hd (d7.mp h1).1 haa hfs λh' q=>h h' ⟨λb o e nb=>?_,λb o z e=>?_,?_⟩
 ·exact q.keep b o ((oth b λz=>nb (z ▸ hTT)).trans e) nb
 ·exact q.slot b o z ((oth b λy=>nT (y ▸ z)).trans e)
 ·obtain⟨oe',vs',T',oT',ts',x1,x2,x3,x4,x5,x6,x7⟩:=q.ex;refine⟨oe',vs',T',oT',ts',x1,x2,x3,x4,x5,?_,x7⟩;rw[<- oth T' (λz=>by rw[z,selfT]at x6;cases x6)];exact x6
end
structure Fly (h0:Heap)(H:Hp)(h:Heap)(a:Addr)(cls:Value):Prop where
 ex:∃oe vs T oT ts,h.get? a=some oe/\oe.cls=cls/\oe.dict=none/\oe.data=.fields vs/\vs[1]?=some (.ref T)/\T≠a/\h.get? T=some oT/\oT.data=.fields ts/\ts[3]?=some .none/\H T=none/\h0.get? T=none
 un:H a=none
 new:h0.get? a=none
def Lz (P:Program)(w:World):CXT:=λouter H s E e s'=>∃a cls H',e=.ref a/\s'.os=s.os/\AllBare s'.gens/\Un (frs outer) [] H H' s.heap s'.heap/\HOk P w H' s'.heap/\Fly s.heap H' s'.heap a cls/\E cls none H'
section
variable {X:Cx}{pins:List (Addr×Obj)}{σ:St}{H1 H':Hp}{s1 s':Shared}{a:Addr}{cls:Value}{E:XK}
theorem tO {base h h':Heap}:∀{l:List Env},h.FunFrames base l->(∀b∈frs l,∀o,h.get? b=some o->∃sl,h'.get? b=some { o with slots:=sl })->h'.FunFrames base l
 |[],_,_=>tJ
 |ev::r,hl,k=>by
  obtain⟨hk,⟨L,o,hf,hn,ho,hd⟩,hr⟩:=hl;have e:frs (ev::r)=L::frs r:=by unfold frs;rw[bA,hf]
  obtain⟨sl,q⟩:=k L (by rw[e];exact ag) o ho;exact⟨hk,⟨L,_,hf,hn,q,hd⟩,tO hr λb hb=>k b (by rw[e];exact ad _ hb)⟩
theorem Inv.Kd (I:Inv X pins σ H1 s1)(u:Un (frs X.stack) [] H1 H' s1.heap s'.heap):s'.heap.FunFrames X.base X.stack:=
 tO I.stack λb hb o e=>u.slot b o e (I.stkFree b hb) hb (by simp)
theorem Dl (I:Inv X pins σ H1 s1)(hst:X.stack=X.env::X.outer)(hfr:X.env.frame=some X.env.locals)(hex:X.ex=[])(ho:s'.os=s1.os)(hb:AllBare s'.gens)
  (u:Un (frs X.stack) [] H1 H' s1.heap s'.heap) (hok:HOk X.prog X.w H' s'.heap) (has:∀b∈as,b∈frs X.stack\/(H' b=none/\s1.heap.get? b=none)) (hfs:∀b∈frs X.stack,b∈as) (haa:a∈as) (hna:H' a=none/\s1.heap.get? a=none)
  (L:Lft (frs X.stack) as s'.heap h2 a cls) (hE:E cls none H'):Lz X.prog X.w X.outer X.H₀ X.s₀ E (.ref a) { s' with heap:=h2 }:=by
 have hfs':frs X.stack=X.env.locals::frs X.outer:=by rw[hst];unfold frs;rw[bA,hfr]
 have noex:∀b:Addr,b∉X.ex:=λb=>by rw[hex];simp
 have FF:=I.Kd u;have keep2:=L.keep;have slot2:=L.slot;have below:∀b o,X.s₀.heap.get? b=some o->b≠X.env.locals:=λb o e=>be (aD (az e) I.ok.above);have out:∀b o,s1.heap.get? b=some o->b∈as->b∈frs X.stack:=λb o e z=>by
  rcases has b z with q|⟨_,q⟩
  ·exact q
  ·rw[e]at q;cases q
 have here:∀b o,X.s₀.heap.get? b=some o->∃o',s1.heap.get? b=some o':=λb o e=>I.base.there b o e (noex b);obtain⟨oe,vs,T,oT,ts,he,hcls,hdi,hd,h1,hnT,hTe,hT,hdT,h3⟩:=L.ex;have hT0:T∈as\/s'.heap.get? T=none:=.inr hnT;have freeAs:∀b∈as,H' b=none:=λb z=>by
  rcases has b z with q|⟨q,_⟩
  ·obtain⟨_,o,e,_⟩:=I.stack.mem q;exact u.free b o e (I.stkFree b q) (by simp)
  ·exact q
 refine⟨a,cls,H',rfl,ho.trans I.os,hb,⟨λb o e n hbf _=>?_,λb o e n hbf _=>?_,λb o e n _=>?_,λb o e _=>?_,λb xs e=>u.tups b xs (I.base.tups b xs e),λb o v e=>u.frzs b o v (I.base.frzs b o v e),λb ps e=>?_⟩,λb o e=>?_,⟨⟨oe,vs,T,oT,ts,he,hcls,hdi,hd,h1,hTe,hT,hdT,h3,?_,?_⟩,hna.1,?_⟩,hE⟩
 ·have e1:=I.base.keep b o e n hbf (noex b);have n1:=I.base.free b o e n (noex b);have b1:b∉frs X.stack:=λz=>by rw[hfs']at z;exact(aB.mp z).elim (below b o e) hbf
  exact keep2 b o (u.keep b o e1 n1 b1 (by simp)) λz=>b1 (out b o e1 z)
 ·obtain⟨sl1,e1⟩:=I.base.slot b o e n hbf (noex b);have n1:=I.base.free b o e n (noex b);have b1:b∈frs X.stack:=by rw[hfs'];exact ad _ hbf
  obtain⟨sl2,e2⟩:=u.slot b _ e1 n1 b1 (by simp);obtain⟨sl3,e3⟩:=slot2 b _ b1 e2;exact⟨sl3,e3⟩
 ·obtain⟨o1,e1⟩:=here b o e;exact u.free b o1 e1 (I.base.free b o e n (noex b)) (by simp)
 ·obtain⟨o1,e1⟩:=here b o e;obtain⟨o2,e2⟩:=u.there b o1 e1 (by simp);by_cases z:b∈as
  ·obtain⟨sl,e3⟩:=slot2 b o2 (out b o1 e1 z) e2;exact⟨_,e3⟩
  ·exact⟨o2,keep2 b o2 e2 z⟩
 ·obtain⟨m1,e1⟩:=I.base.tbls b ps e;obtain⟨m2,e2⟩:=u.tbls b _ e1;exact⟨m1++m2,by rw[e2,yX.append_assoc]⟩
 ·refine(hok b o e).stay (λc v hc q=>keep2 c v q λz=>?_) (λ_ q=>q) λ_ _ q=>q;have:=freeAs c z;rcases hc with rfl|hc
  ·rw[this]at e;cases e
  ·rw[this]at hc;cases hc
 ·rcases hT0 with z|z
  ·exact freeAs T z
  ·cases q:H' T with
   |none=>rfl
   |some v=>obtain⟨ob,e⟩:=(hok T v q).get;rw[z]at e;cases e
 ·cases q:X.s₀.heap.get? T with
  |none=>rfl
  |some o=>
   obtain⟨o1,e1⟩:=here T o q;obtain⟨o2,e2⟩:=u.there T o1 e1 (by simp);rcases hT0 with z|z
   ·obtain⟨sl,e3⟩:=slot2 T o2 (out T o1 e1 z) e2;obtain⟨_,o4,e4,d4⟩:=FF.mem (out T o1 e1 z);rw[e2]at e4;cases e4;rw[hT]at e3;cases e3;exact absurd hdT (d4 ts)
   ·rw[z]at e2;cases e2
 ·cases q:X.s₀.heap.get? a with
  |none=>rfl
  |some o=>obtain⟨o1,e1⟩:=here a o q;rw[hna.2]at e1;cases e1
theorem leave_new (I:Inv X pins σ H1 s1)(hst:X.stack=X.env::X.outer)(hfr:X.env.frame=some X.env.locals)(hex:X.ex=[])(ho:s'.os=s1.os)(hb:AllBare s'.gens)
  (u:Un (frs X.stack) [] H1 H' s1.heap s'.heap) (hok:HOk X.prog X.w H' s'.heap) (hna:H' a=none/\s1.heap.get? a=none) (he:s'.heap.get? a=some oe) (hc:oe.cls=cls) (hdi:oe.dict=none) (hd:oe.data=.fields vs) (h1:vs[1]?=some .none) (hE:E cls none H')
  (hQ:∀s2,Lz X.prog X.w X.outer X.H₀ X.s₀ E (.ref a) s2->Q () s2):wpAny M X.A (leaving X.env (.ref a)) Q E' s':=by
 subst hc;have hA:X.A.frames=some (X.env::X.outer):=by rw[<- hst];exact I.ok.frames
 have FF:=I.Kd u;refine aH (KC (as:=a::frs X.stack) hA (by rw[<- hst];exact FF) hfr he hdi hd h1 ag (λb z=>ad _ (by rw[hst];exact z)) λh2 L=>hQ _ ?_);rw[<- hst]at L;exact Dl I hst hfr hex ho hb u hok (λb z=>(aB.mp z).elim (λq=>.inr (by rw[q];exact hna)) .inl) (λb z=>ad _ z) ag hna L hE
theorem QB (I:Inv X pins σ H1 s1)(hst:X.stack=X.env::X.outer)(hfr:X.env.frame=some X.env.locals)(hex:X.ex=[])(ho:s'.os=s1.os)(hb:AllBare s'.gens)
  (u:Un (frs X.stack) [] H1 H' s1.heap s'.heap) (hok:HOk X.prog X.w H' s'.heap) (F:Fly s1.heap H' s'.heap a cls) (hE:E cls none H')
  (hQ:∀s2,Lz X.prog X.w X.outer X.H₀ X.s₀ E (.ref a) s2->Q () s2):wpAny M X.A (leaving X.env (.ref a)) Q E' s':=by
 obtain⟨oe,vs,T,oT,ts,he,hcls,hdi,hd,h1,hTe,hT,hdT,h3,hHT,hsT⟩:=F.ex;subst hcls;have hA:X.A.frames=some (X.env::X.outer):=by rw[<- hst];exact I.ok.frames
 have FF:=I.Kd u;refine aH (Pk (as:=a::T::frs X.stack) hA (by rw[<- hst];exact FF) hfr he hdi hd h1 hTe hT hdT h3 ag (ad _ ag) (λb z=>ad _ (ad _ (by rw[hst];exact z))) λh2 L=>hQ _ ?_);rw[<- hst]at L;refine Dl I hst hfr hex ho hb u hok (λb z=>?_) (λb z=>ad _ (ad _ z)) ag ⟨F.un,F.new⟩ L hE;rcases aB.mp z with q|z
 ·exact .inr (by rw[q];exact⟨F.un,F.new⟩)
 ·rcases aB.mp z with q|z
  ·exact .inr (by rw[q];exact⟨hHT,hsT⟩)
  ·exact .inl z
end
theorem ZR {P:Program}{w:World}{K:Fg}{mg:Mg}{base:Heap}{N:Ls}{qual:Str}{scope:Scope}{f:Addr}{cd:Value}{A:Around}{outer:List Env}{s:Shared}{H:Hp}{E:XK} :
  Passes (Lz P w) (cxOf (Lz P w) P w K mg base N qual scope f cd A outer s H E) E:=λpins σ H1 s1 e s' I h=>by
 obtain⟨a,cls,H',rfl,ho,hb,u,hok,F,hE⟩:=h;exact QB I rfl rfl rfl ho hb u hok F hE (M:=model P w) (E':=λe' s2=>Lz P w outer H s E e' s2) λs2 q=>q
abbrev bmV:List Value:=[.type "ValueError",.type "Exception",.type "BaseException",.type "object"]
abbrev KN (K:Fg)(C:Addr):Prop:=W.excIn K C bmV "ValueError.__new__"=true
theorem KN.facts {K:Fg}{h:Heap}{C:Addr}(X:K.In h)(q:KN K C):∃nm qn N bs bm hd sn sub ab col dd k0 k1 k2 k3 k5 mN,
  h.get? C=some (excClassObj nm qn C N bs bm hd sn sub ab col dd k0 k1 k2 k3 k5 "ValueError.__new__")/\h.Ns N mN/\mN "__init__"=none/\OwnTail h bmV bm:=by
 unfold KN W.excIn at q;split at q
 ·rename_i dd' cd' sl' hlk;split at q
  ·rename_i C2 bm2 j0 j1 j2 j3 n2 j5 em es;simp only[fy,i5,Bool.not_eq_true']at q;obtain⟨⟨⟨⟨⟨e1,e2⟩,e3⟩,e4⟩,e5⟩,e6⟩:=q;subst e1 e2;obtain⟨nm,bs,mr,ns,qn,hd,sn,sub,ab,col,del⟩:=cd';dsimp only at em e3 e5 e6;subst em e3;have e7:sl' = #[j0,j1,j2,j3,some (.builtin "ValueError.__new__"),j5]:=by obtain⟨l⟩:=sl';simp only at es;rw[es]
   subst e7;exact⟨nm,qn,ns,bs,bm2,hd,sn,sub,ab,col,dd',j0,j1,j2,j3,j5,_,X _ _ hlk,.of_isNs (W.isNs_of_in X e5),W.nsMap_none_of_in X e5 e6,W.tail_of_in X e4⟩
  ·cases q
 ·cases q
def Sv (X:Cx)(E:XK):Prop:=∀(pins:List (Addr×Obj)) (σ:St) (H:Hp) (s:Shared) (a:Addr) (cls:Value) (vs:List Value) (h':Heap),Inv X pins σ H s->Heap.MadeExcOf s.heap h' a cls vs->E cls none H->X.xe (.ref a) { s with heap:=h' }
theorem Inv.untracked (I:Inv X pins σ H s)(h:s.heap.get? a=none):H a=none:=by
 cases q:H a with
 |none=>rfl
 |some o=>obtain⟨ob,e⟩:=(I.hok a o q).get;rw[h]at e;cases e
theorem abe {P:Program}{w:World}{K:Fg}{mg:Mg}{base:Heap}{N:Ls}{qual:Str}{scope:Scope}{f:Addr}{cd:Value}{A:Around}{outer:List Env}{s:Shared}{H:Hp}{E:XK} :
  Sv (cxOf (Lz P w) P w K mg base N qual scope f cd A outer s H E) E:=λpins σ H1 s1 a cls vs h' I hm hE=>by
 obtain⟨t,e,_⟩:=hm.there;exact leave_new (s':={ s1 with heap:=h' }) I rfl rfl rfl rfl I.bare (Un.kept hm.keeps) (I.hok.kept hm.keeps) ⟨I.untracked hm.new,hm.new⟩ e rfl rfl rfl rfl hE (M:=model P w) (E':=λe' s2=>Lz P w outer H s E e' s2) λs2 q=>q
def YK (C:Addr)(E:XK)(t:TA):TS:=λ_ σ H=>t σ H λ_ H1=>E (.ref C) none H1
theorem Rw {X:Cx}{E:XK}{x:Str}{np cpos pos:Pos}{e:Expr}{es:List Expr}{C:Addr}{t:TA}(hn:Sv X E)(hc:X.calm=true)(q:KN X.K C)(hg:Gl X x)(hm:X.mg x=some (.ref C))(ha:PA X (e::es) t)(hz:(e::es).length<=1000:=by decide)
  (hdb:(x == ("__debug__":Str))=false:=by decide) (he:starEach (e::es) X.env=(false,eval e X.env)::starEach es X.env:=by rfl) (hpl:(backTo cpos (starEach (e::es) X.env)).any (·.1)=false:=by rfl)
  (hl:∀σ H Q,t σ H Q->t σ H λvs H1=>vs.length=(e::es).length/\Q vs H1):PS X (.Raise (some (.Call (.Name x np) (e::es) [] cpos)) none pos) (YK C E t):=by
 intro pins s σ H D I h;obtain⟨nm,qn,N,bs,bm,hd,sn,sub,ab,col,dd,k0,k1,k2,k3,k5,mN,hC,hns,hni,tl⟩:=q.facts I.ok.mod.kin;have hbase:bm.contains (.type "BaseException")=true:=tl.hasType (by decide +kernel);refine wpAny_Raise_call_subU (nm:=nm) (q:=qn) (C:=C) (N:=N) (bs:=bs) (bm:=bm) (hdct:=hd) (sn:=sn) (sub:=sub) (ab:=ab) (col:=col) (dd:=dd) (k0:=k0) (k1:=k1) (k2:=k2) (k3:=k3) (k5:=k5) (mN:=mN)
  fZ (by decide +kernel) fZ hbase (I.ok.hd hc) hpl hni (ld_glob I hg hm ⟨rfl,?_⟩ hdb)
 have ev:wpAny (model X.prog X.w) X.A (spliced (backTo cpos (starEach (e::es) X.env))) (AP X pins σ λvs H1=>vs.length=(e::es).length/\E (.ref C) none H1) X.xe s:=ha cpos pins s σ H _ I (hl σ H _ h);rw[he]at ev ⊢;refine Calls.evalArgs_plain (thn ev λus s1 ⟨vs,H1,I1,r,l1,q1⟩=>⟨rfl,?_,?_⟩)
 ·rw[<- r.length,l1];exact bK (small1000 hz)
 ·exact⟨I1.bk _ _ hC,hns.keeps I1.bk,tl.keeps I1.bk,λh' a hm'=>hn pins σ H1 s1 a (.ref C) _ h' I1 hm' q1⟩
structure Ms (K:Fg)(C:Addr)(m:Str)(f:Addr):Prop where
 ga:W.specialIn K (.ref C) "__getattribute__"=some (some (.builtin "type.__getattribute__"))
 rd:W.readsIn K C (.type "type")=true
 fc:W.findCls K (.ref C) (.type "type") m=some (.val (.ref f))
 kp:W.keepIn K (.ref f)=true
section
variable {X:Cx}{CX:CXT}{k:Nat}{f C:Addr}{fd:FuncData}{ps:List Str}{sp:Sp}{dvs:List V}{ds:List Value}{E:XK}{x m:Str}{p pos apos:Pos}{e o:Expr}{es:List Expr}{ta:TE}{t:TA}
theorem Xg (hg:Gl X x)(hm:X.mg x=some (.ref C))(c:Ms X.K C m f)(F:FnOk X.prog X.w X.K X.mg X.base CX k f fd ps sp)(hr:Room k X.A)(hb:Binds X.K fd ps ds)(hd:Vals dvs ds)(hx:Passes CX X E)(ha:PA X (e::es) t)
  (hdb:(x == ("__debug__":Str))=false:=by decide) (hst:starEach (e::es) X.env=(false,eval e X.env)::starEach es X.env:=by rfl) (hpl:(backTo pos (starEach es X.env)).any (·.1)=false:=by rfl)
  (ht:eval (.Call (.Attribute (.Name x p) m apos) (e::es) [] pos) X.env=(do
   let ov <- eval (.Name x p) X.env
   standAt apos.atName
   let (f,first) <- holding [ov] (getMethod ov m pl)
   callWith pos f first (backTo pos (starEach (e::es) X.env)) (backToKw pos (keywordEach [] X.env))):=by rfl):PE X (.Call (.Attribute (.Name x p) m apos) (e::es) [] pos) (tCall sp dvs E t):=by
 intro pins s σ H Q I h;refine hW (pl:=pl) (ld_glob I hg hm ?_ hdb) ht;refine W.method_cls I.kIn c.ga (W.cls_value I.kIn c.rd c.fc rfl ?_);have I':=I.tok (s.toks+1);refine dG (first:=[]) (h₀:=X.base) I.ok.mod.kin c.kp (thn (ha pos pins _ σ H _ I' h) λus s1 ⟨vs,H1,I1,r,q⟩=>⟨I1.kIn,?_⟩) hst hpl
 exact run_fn F hr hb hd hx I1 r q
end
structure OkM (P:Program)(w:World)(K:Fg)(mg:Mg)(base:Heap)(CX:CXT)(k:Nat)(C:Addr)(m:Str)(ps:List Str)(sp:Sp):Prop where
 ex:∃f fd,FnOk P w K mg base CX k f fd ps sp/\Binds K fd ps []/\Meth K C m f/\Cls K C
def abx (KA:Hp->Addr->Int->Prop)(a:Addr)(z:Int)(n:Nat)(pre:Int->List Int->Prop)(F:Int->List Int->Int):Sp:=λvs H Q _=>∃ns:List Int,ns.length=n/\vs=.ref a::ns.map V.int/\KA H a z/\pre z ns/\Q (.int (F z ns)) H
structure KM (P:Program)(w:World)(K:Fg)(mg:Mg)(base:Heap)(k:Nat)(KA:Hp->Addr->Int->Prop)(m:Str)(n:Nat)(pre:Int->List Int->Prop)(F:Int->List Int->Int):Prop where
 ex:∀H a z,KA H a z->∃C dx fs ps,H a=some (.ins C dx fs)/\fs.lookup m=none/\OkM P w K mg base CX0 k C m ps (abx KA a z n pre F)
structure OkC (P:Program)(w:World)(K:Fg)(mg:Mg)(base:Heap)(CX:CXT)(k:Nat)(x:Str)(C:Addr)(m:Str)(ps:List Str)(sp:Sp):Prop where
 ex:∃f fd,FnOk P w K mg base CX k f fd ps sp/\Binds K fd ps []/\Ms K C m f/\mg x=some (.ref C)
structure OkI (P:Program)(w:World)(K:Fg)(mg:Mg)(base:Heap)(CX:CXT)(k:Nat)(x:Str)(C:Addr)(ps:List Str)(sp:Sp):Prop where
 ex:∃f fd,FnOk P w K mg base CX k f fd ps sp/\Binds K fd ps []/\Mk K C f/\mg x=some (.ref C)
section
variable {X:Cx}{CX:CXT}{j k:Nat}{C:Addr}{ps:List Str}{sp:Sp}{E:XK}{x m:Str}{p pos apos:Pos}{e:Expr}{es:List Expr}{t:TA}
theorem Wh (o:OkC X.prog X.w X.K X.mg X.base CX j x C m ps sp)(hr:Room k X.A)(hx:Passes CX X E)(ha:PA X (e::es) t)(hj:j<=k:=by decide)(hg:Gl X x:=by rfl)
  (hdb:(x == ("__debug__":Str))=false:=by decide) (hst:starEach (e::es) X.env=(false,eval e X.env)::starEach es X.env:=by rfl) (hpl:(backTo pos (starEach es X.env)).any (·.1)=false:=by rfl)
  (ht:eval (.Call (.Attribute (.Name x p) m apos) (e::es) [] pos) X.env=(do
   let ov <- eval (.Name x p) X.env
   standAt apos.atName
   let (f,first) <- holding [ov] (getMethod ov m pl)
   callWith pos f first (backTo pos (starEach (e::es) X.env)) (backToKw pos (keywordEach [] X.env))):=by rfl):PE X (.Call (.Attribute (.Name x p) m apos) (e::es) [] pos) (tCall sp [] E t):=by
 obtain⟨f,fd,F,b,c,mm⟩:=o.ex;exact Xg hg mm c (F.mono hj) hr b .nil hx ha hdb hst hpl ht
theorem Ti (o:OkI X.prog X.w X.K X.mg X.base CX j x C ps sp)(hr:Room k X.A)(hx:Passes CX X E)(ha:PA X (e::es) t)(hj:j+1<=k:=by decide)(hg:Gl X x:=by rfl)(hdb:(x == ("__debug__":Str))=false:=by decide)
  (he:starEach (e::es) X.env=(false,eval e X.env)::starEach es X.env:=by rfl) (hpl:(backTo pos (starEach es X.env)).any (·.1)=false:=by rfl):PE X (.Call (.Name x p) (e::es) [] pos) (tMake C sp [] E t):=by
 obtain⟨f,fd,F,b,c,mm⟩:=o.ex;exact pe_make c F (hr.mono hj) hg mm b .nil hx ha hdb he hpl
end
def spS (K:Fg)(n:Nat)(pre:List Int->List Int->Prop)(F:List Int->List Int->Int):Sp:=λvs H Q _=>∃(a:Addr) (xs is:List Int),is.length=n/\vs=.ref a::is.map V.int/\SqL K H a (xs.map V.int)/\pre xs is/\Q (.int (F xs is)) H
def Bp:List Str:=["plain","plus","less","times","over"]
def KAt (cW cR cP:Addr)(H:Hp)(a:Addr)(z:Int):Prop:=∃C dx fs,H a=some (.ins C dx fs)/\((C=cW/\z=0)\/((C=cR\/C=cP)/\0<z))/\fs.lookup ("size":Str)=some (.int z)/\∀m∈Bp,fs.lookup m=none
def pl (z n:Int):Int:=if z=0 then n else n % z
theorem mD (h:0<z):pl z n=n % z:=by unfold pl;rw[ae (by lia)]
section
variable {X:Cx}{pins:List (Addr×Obj)}{σ:St}{H:Hp}{s:Shared}{h':Heap}
theorem Inv.uU {ch:List Addr}{t':Nat}(I:Inv X pins σ H s)(hf:∀b∈ch,FpOk X pins H b)(k:∀b o,b∉ch->s.heap.get? b=some o->h'.get? b=some o):Inv X pins σ H { s with heap:=h',toks:=t' }:=by
 have nit:∀b u,H b=some u->b∉ch:=λb u e z=>by rw[(hf b z).1]at e;cases e
 refine I.step (g':=s.gens) (d':=s.drawn) (ch:=ch) (λb hb=>⟨(hf b hb).2.2.2.1,(hf b hb).2.1,(hf b hb).2.2.2.2.1,(hf b hb).2.2.2.2.2⟩) (λb o _ _ hc e _=>k b o hc e) (λb o _ _ hc e _=>⟨o.slots,k b o hc e⟩) (λ_ _ _ _ n=>n)
  (λb o hc e=>⟨o,k b o hc e⟩) (λ_ _ e=>e) (λ_ _ _ e=>e) (λb ps e=>⟨#[],by rw[e];simp⟩) (λm hm=>?_) (λb u e=>?_) I.bare
 ·obtain⟨o,es,ep,ho,r⟩:=hm;exact⟨o,es,ep,k _ o (λz=>(hf _ z).2.1 rfl) ho,r⟩
 ·refine(I.hok b u e).stay (λc v hc q=>k c v ?_ q) (λ_ q=>q) λ_ _ q=>q;rcases hc with z|z
  ·rw[z];exact nit b u e
  ·exact nit c _ z
theorem Inv.track (I:Inv X pins σ H s)(f:FpOk X pins H T)(new:ObjOk X.prog X.w (upd H T o) s.heap T o):Inv X pins σ (upd H T o) s:=by
 obtain⟨f0,f1,f2,f3,f4,f5⟩:=f;have ne:∀{b:Addr} {u:HO},H b=some u->b≠T:=λe=>ne_of_none e f0;refine⟨I.ok,I.os,I.bare,⟨I.base.keep,I.base.slot,λb ob e n x=>?_,I.base.there,λb xs e=>?_,λb ob u e=>?_,λb ps e=>?_⟩,I.loc,I.cell,by rw[upd_ne (cf f1)];exact I.free,λx c e=>?_,λp hp=>?_,λb u e=>?_,I.len⟩
 ·have hb:b≠T:=λz=>by
   subst z;rcases f3 with z|z
   ·exact x z
   ·exact absurd (aD (az e) z) (cT _)
  rw[upd_ne hb];exact I.base.free b ob e n x
 ·have q:=I.base.tups b xs e;rw[upd_ne (ne q)];exact q
 ·have q:=I.base.frzs b ob u e;rw[upd_ne (ne q)];exact q
 ·obtain⟨m,q⟩:=I.base.tbls b ps e;exact⟨m,by rw[upd_ne (ne q)];exact q⟩
 ·rw[upd_ne (f4 x c e)];exact I.freeC x c e
 ·obtain⟨a1,a2,a3⟩:=I.pin p hp;exact⟨a1,by rw[upd_ne (f5 p hp)];exact a2,a3⟩
 ·by_cases c:b=T
  ·subst c;rw[upd_same]at e;cases e;exact new
  ·rw[upd_ne c]at e;exact(I.hok b u e).stay (λ_ _ _ q=>q) (λd q=>by rw[upd_ne (ne q)];exact q) (λd xs q=>by rw[upd_ne (ne q)];exact q) λd _ _ q=>by rw[upd_ne (ne q)];exact q
end
def Z0 (K:Fg)(a:Addr):It:=
 ⟨λi H=>∃xs x,SqL K H a xs/\xs[i]?=some x,λi H v H'=>∃T y,v=.ref T/\H T=none/\H'=upd H T (.tup [.int i,y])/\∀xs,SqL K H a xs->xs[i]?=some y,λi H=>∃xs,SqL K H a xs/\xs.length<=i⟩
theorem O7 {P:Program}{w:World}{K:Fg}{els:List Expr}{kk:Nat}{tp:Pos}(a e it:Addr)(hne:e≠it):Turn P w K (.Tuple els kk tp) (Z0 K a) [e,it] e (λi h=>(∃old,IsEnum h e it i old)/\h.IsListIter it a i) where
 mem:=by simp
 obj:=λi h st b hb=>by
  obtain⟨⟨old,he⟩,o,ho,_,hd⟩:=st;rcases aB.mp hb with rfl|hb
  ·exact⟨_,he,λv z=>by cases z⟩
  ·have q:b=it:=by simpa using hb
   subst q;exact⟨o,ho,λv z=>by rw[hd]at z;cases z⟩
 keep:=λi h h' st k=>by obtain⟨⟨old,he⟩,hit⟩:=st;exact⟨⟨old,k e (by simp) _ he⟩,hit.at λo q=>k it (by simp) o q⟩
 item:=by
  intro X hP hw hK hc i pins s σ H E I hf st hg;subst hP hw hK;obtain⟨xs,x,hq,hx⟩:=hg;obtain⟨⟨old,he⟩,hit⟩:=st;obtain⟨its,rv,p,hz⟩:=I.list hq;obtain⟨u,hu,ru⟩:=rv.get hx;refine wpAny_pyNext_enum_item he hit p.isList (x:=u) (by simpa using hu) hne λh1 ho hit1 hT hsz hk=>⟨_,rfl,?_⟩;refine wpAny_letOwnedTupleGo_enum ho λh2 he2 hs2=>?_;have Te:s.heap.objs.size≠e:=dN (az he);have keep2:∀b o,b∉[e,it]->s.heap.get? b=some o->h2.get? b=some o:=λb o hb q=>by have b1:b≠e:=λz=>hb (by simp[z]);have b2:b≠it:=λz=>hb (by simp[z]);exact(hs2.2 b b1).trans (hk b o b1 b2 q)
  have I1:Inv X pins σ H { s with heap:=h2,toks:=s.toks+1 }:=I.uU hf keep2;have fT:FpOk X pins H s.heap.objs.size:=I.fpOk (ai _) (I.hok.fresh (ai _));have I2:=I1.track (o:=.tup [.int i,x]) fT ⟨by show 2<=sizeLine;decide,[.int i s.toks,u],.cons ⟨_,rfl⟩ (.cons ru .nil),⟨_,(hs2.2 _ Te).trans hT,rfl,_,rfl⟩⟩;refine⟨.ref s.heap.objs.size,_,I2,rfl,⟨_,x,rfl,fT.1,rfl,λys hy=>by rw[I.list_inj hy hq];exact hx⟩,⟨⟨_,by exact_mod_cast he2⟩,?_⟩,λb hb=>?_⟩
  ·obtain⟨o,q,r⟩:=hit1;exact⟨o,(hs2.2 it (cf hne)).trans q,r⟩
  ·rw[upd_ne]
   ·exact(hf b hb).1
   ·rcases aB.mp hb with rfl|hb
    ·exact cf Te
    ·have q:b=it:=by simpa using hb
     subst q;obtain⟨o,q,_⟩:=hit;exact be (az q)
 done:=by intro X hP hw hK hc i pins s σ H E I hf st hg;subst hP hw hK;obtain⟨xs,hq,hx⟩:=hg;obtain⟨⟨old,he⟩,hit⟩:=st;obtain⟨its,rv,p,hz⟩:=I.list hq;have hl:=rv.length;exact wpAny_pyNext_enum_end (I.ok.hd hc) he hit p.isList (by simp;lia) λh1 eb=>⟨rfl,I.uU hf λb o hb q=>eb b o (λz=>hb (by simp[z])) q⟩
 self:=λA i s Q E st h=>by obtain⟨⟨old,he⟩,_⟩:=st;exact wpAny_pyIter_enum he h
theorem Fx:bootBuiltins "enumerate"=some (.type "enumerate"):=by decide +kernel
theorem Hj:bootBuiltins "reversed"=some (.type "reversed"):=by decide +kernel
def Sd (K:Fg)(ta:TA):TI:=λσ H R=>ta σ H λvs H1=>∃a,vs=[.ref a]/\(∃xs,SqL K H1 a xs)/\R (Z0 K a) H1
theorem zr {X:Cx}{els:List Expr}{kk:Nat}{tp:Pos}{l:Expr}{ta:TA}{p pos:Pos}(hg:Gl X "enumerate")(hm:X.mg "enumerate"=none)(ha:PA X [l] ta)(hs:starEach [l] X.env=[(false,eval l X.env)]:=by rfl) :
  PI X (.Tuple els kk tp) (.Call (.Name "enumerate" p) [l] [] pos) (Sd X.K ta):=by
 intro pins s σ H R I h;refine Call_ (ld_blt I hg hm Fx (bZ (thn (ha pos pins s σ H _ I h) λus s1 ⟨vs,H1,I1,r1,q1⟩=>?_) hs rfl));obtain⟨a,rfl,⟨xs,hq⟩,q⟩:=q1;obtain⟨u,rfl,ru⟩:=vals1 r1;cases ru;obtain⟨its,rv,p',hz⟩:=I1.list hq;refine call_enumerate_list p'.isList λh1 he hit hsz hk=>?_;refine wpAny_pyIter_enum he ?_;have I2:Inv X pins σ H1 { s1 with heap:=h1 }:=I1.kept (t':=s1.toks) hk;refine⟨_,[s1.heap.objs.size+1,s1.heap.objs.size],_,_,H1,rfl,I2,O7 a (s1.heap.objs.size+1) s1.heap.objs.size (Nat.succ_ne_self _),⟨⟨_,he⟩,hit⟩,λb hb=>?_,q⟩;rcases aB.mp hb with rfl|hb
 ·exact I1.fpOk (iM _) (I1.hok.fresh (iM _))
 ·have e:b=s1.heap.objs.size:=by simpa using hb
  subst e;exact I1.fpOk (ai _) (I1.hok.fresh (ai _))
def Itv (K:Fg)(a:Addr)(n:Nat):It:=
 ⟨λi H=>i<n/\∃xs x,SqL K H a xs/\xs.length=n/\xs[n-1-i]?=some x,λi H v H'=>H'=H/\∀xs,SqL K H a xs->xs[n-1-i]?=some v,λi _=>i=n⟩
theorem Rq {P:Program}{w:World}{K:Fg}{tg:Expr}(a it:Addr)(n:Nat):Turn P w K tg (Itv K a n) [it] it (λi h=>h.IsRevIter it a ((n:Int)-1-i)) where
 mem:=by simp
 obj:=λi h st b hb=>by
  have e:b=it:=by simpa using hb
  subst e;obtain⟨o,ho,_,hd⟩:=st;exact⟨o,ho,λv z=>by rw[hd]at z;cases z⟩
 keep:=λi h h' st k=>st.at λo e=>k it (by simp) o e
 item:=by
  intro X hP hw hK hc i pins s σ H E I hf st hg;subst hP hw hK;obtain⟨hin,xs,x,hq,hn,hx⟩:=hg;obtain⟨its,rv,p,hz⟩:=I.list hq;obtain⟨u,hu,ru⟩:=rv.get hx;have e1:((n:Int)-1-(i:Nat))=((n-1-i:Nat):Int):=by lia
  have st':s.heap.IsRevIter it a ((n-1-i:Nat):Int):=by rw[<- e1];exact st
  refine wpAny_pyNext_rev_item st' p.isList (x:=u) (by simpa using hu) λh1 st1 sb=>?_;have I1:Inv X pins σ H { s with heap:=h1 }:=I.uU (t':=s.toks) hf λb o hb e=>(sb.2 b (λz=>hb (by simp[z]))).trans e;obtain⟨o,e,c,d⟩:=id st1;refine⟨u,rfl,go_of (s:={ s with heap:=h1 }) e c d (by decide) ⟨x,H,I1,ru,⟨rfl,λys hy=>by rw[I.list_inj hy hq];exact hx⟩,?_,λb hb=>(hf b hb).1⟩⟩;have e2:((n-1-i:Nat):Int)-1=(n:Int)-1-((i+1:Nat):Int):=by lia
  rw[e2]at st1;exact st1
 done:=by
  intro X hP hw hK hc i pins s σ H E I hf st hg;subst hP hw hK;subst hg;have e1:((i:Nat):Int)-1-(i:Nat) = -1:=by lia
  rw[e1]at st;exact wpAny_pyNext_rev_end (I.ok.hd hc) st λh1 eb=>⟨rfl,I.uU (t':=s.toks) hf λb o hb e=>eb b o (λz=>hb (by simp[z])) e⟩
 self:=λ_ _ _ _ _ st h=>wpAny_pyIter_revIter st h
def abk (K:Fg)(ta:TA):TI:=λσ H R=>ta σ H λvs H1=>∃a xs,vs=[.ref a]/\SqL K H1 a xs/\R (Itv K a xs.length) H1
theorem Zo (hg:Gl X "reversed")(hm:X.mg "reversed"=none)(ha:PA X [l] ta)(hs:starEach [l] X.env=[(false,eval l X.env)]:=by rfl) :
  PI X tg (.Call (.Name "reversed" p) [l] [] pos) (abk X.K ta):=by
 intro pins s σ H R I h;refine Call_ (ld_blt I hg hm Hj (bZ (thn (ha pos pins s σ H _ I h) λus s1 ⟨vs,H1,I1,r1,q1⟩=>?_) hs rfl));obtain⟨a,xs,rfl,hq,q⟩:=q1;obtain⟨u,rfl,ru⟩:=vals1 r1;cases ru;obtain⟨its,rv,p',hz⟩:=I1.list hq;have hl:=rv.length;have st0:(s1.heap.push (revObj a ((its.toArray.size:Int)-1))).IsRevIter s1.heap.objs.size a ((its.toArray.size:Int)-1):=⟨_,a8 _ rfl,rfl,rfl⟩;refine call_reversed_list p'.isList (wpAny_pyIter_revIter st0 ?_);have I2:Inv X pins σ H1 { s1 with heap:=s1.heap.push (revObj a ((its.toArray.size:Int)-1)) }:=I1.kept (t':=s1.toks) λb o e=>ay _ e;refine⟨_,[s1.heap.objs.size],_,_,H1,rfl,I2,Rq a _ xs.length,?_,λb hb=>?_,q⟩
 ·have e:((xs.length:Int)-1-((0:Nat):Int))=(its.toArray.size:Int)-1:=by rw[aw];lia
  rw[e];exact st0
 ·have e:b=s1.heap.objs.size:=by simpa using hb
  subst e;exact I1.fpOk (ai _) (I1.hok.fresh (ai _))
theorem I9 {K:Fg}{a:Addr}{xs:List V}{g:TG}{tb:TS}{D:Ends}{σ:St}{H:Hp}(Pv:Nat->St->Hp->Prop)(h0:Pv 0 σ H)(hl:∀i σ H,i<=xs.length->Pv i σ H->SqL K H a xs)
  (hs:∀i x σ H T,xs[i]?=some x->Pv i σ H->H T=none->g (.ref T) σ (upd H T (.tup [.int i,x])) λσ2 H2=>tb { D with nx:=Pv (i+1),ct:=Pv (i+1),bk:=D.nx } σ2 H2) (hd:∀σ H,Pv xs.length σ H->D.nx σ H) :
  ∃W:Nat->Nat->St->Hp->Prop,(∃m,W 0 m σ H)/\∀i m σ H,W i m σ H ->
   ((Z0 K a).stop i H/\D.nx σ H)\/((Z0 K a).go i H/\∃N:St->Hp->Prop,(∀σ' H',N σ' H' -> ∃m',m'<m/\W (i+1) m' σ' H')/\∀x H',(Z0 K a).yld i H x H' -> g x σ H' λσ2 H2=>tb { D with nx:=N,ct:=N,bk:=D.nx } σ2 H2):=by
 refine⟨λi m σ H=>m=xs.length-i/\i<=xs.length/\Pv i σ H,⟨xs.length,by simp,bh _,h0⟩,?_⟩;rintro i m σ H ⟨rfl,hi,p⟩;have q:=hl i σ H hi p;by_cases hlt:i<xs.length
 ·refine .inr ⟨⟨xs,xs[i],q,by simp[hlt]⟩,Pv (i+1),λσ' H' p'=>⟨xs.length-(i+1),by lia,rfl,hlt,p'⟩,λx H' y=>?_⟩;obtain⟨T,z,rfl,hT,rfl,hz⟩:=y;exact hs i z σ H T (hz xs q) p hT
 ·have e:i=xs.length:=by lia
  subst e;exact .inl ⟨⟨xs,q,ai _⟩,hd σ H p⟩
theorem Xd {K:Fg}{a:Addr}{xs:List V}{g:TG}{tb:TS}{D:Ends}{σ:St}{H:Hp}(Pv:Nat->St->Hp->Prop)(h0:Pv 0 σ H)(hl:∀i σ H,i<=xs.length->Pv i σ H->SqL K H a xs)
  (hs:∀i x σ H,i<xs.length->xs[xs.length-1-i]?=some x->Pv i σ H->g x σ H λσ2 H2=>tb { D with nx:=Pv (i+1),ct:=Pv (i+1),bk:=D.nx } σ2 H2) (hd:∀σ H,Pv xs.length σ H->D.nx σ H) :
  ∃W:Nat->Nat->St->Hp->Prop,(∃m,W 0 m σ H)/\∀i m σ H,W i m σ H ->
   ((Itv K a xs.length).stop i H/\D.nx σ H)\/((Itv K a xs.length).go i H/\∃N:St->Hp->Prop,(∀σ' H',N σ' H' -> ∃m',m'<m/\W (i+1) m' σ' H')/\∀x H',(Itv K a xs.length).yld i H x H' -> g x σ H' λσ2 H2=>tb { D with nx:=N,ct:=N,bk:=D.nx } σ2 H2):=by
 refine⟨λi m σ H=>m=xs.length-i/\i<=xs.length/\Pv i σ H,⟨xs.length,by simp,bh _,h0⟩,?_⟩;rintro i m σ H ⟨rfl,hi,p⟩;have q:=hl i σ H hi p;by_cases hlt:i<xs.length
 ·refine .inr ⟨⟨hlt,xs,xs[xs.length-1-i],q,rfl,by rw[ac (by lia)]⟩,Pv (i+1),λσ' H' p'=>⟨xs.length-(i+1),by lia,rfl,hlt,p'⟩,λx H' y=>?_⟩;obtain⟨rfl,hz⟩:=y;exact hs i x σ _ hlt (hz xs q) p
 ·have e:i=xs.length:=by lia
  subst e;exact .inl ⟨rfl,hd σ H p⟩
theorem int_at {ns:Li}{i:Nat}{x:V}(h:(ns.map V.int)[i]?=some x):∃n,x=.int n/\ns[i]?=some n:=by
 rw[ao]at h;cases e:ns[i]? with
 |none=>rw[e]at h;cases h
 |some n=>rw[e]at h;exact⟨n,(aF h).symm,rfl⟩
theorem Rp {ns:Li}{i:Nat}{n:Int}(h:ns[i]?=some n):n∈ns:=aV h
theorem RK {α:Type}{ns:List α}{i:Nat}{n:α}(h:ns[i]?=some n):i<ns.length:=(aj.mp h).1
theorem nH {α:Type}{ns:List α}{i:Nat}{n:α}(h:ns[i]?=some n):ns.take (i+1)=ns.take i++[n]:=by rw[List.take_add_one,h];rfl
abbrev sJ:TT:=λ_ H Q=>Q true H
end L2
namespace FM
open L2
def jN (n:Int):Prop:=2<=n/\n<=9973/\∀d:Int,2<=d->d*d<=n->¬n % d=0
open Classical in
def ZG (n:Int):Bool:=decide (jN n)
open Classical in
theorem Jz (h:jN n):ZG n=true:=by unfold ZG;exact aL h
open Classical in
theorem Dj (h:¬jN n):ZG n=false:=by unfold ZG;exact aJ h
open Classical in
def HJ (n d:Int):Prop:=∀e:Int,2<=e->e<d->¬n % e=0
theorem HJ.next (h:HJ n d)(hd:¬n % d=0):HJ n (d+1):=λe h1 h2=>by
 by_cases c:e=d
 ·rw[c];exact hd
 ·exact h e h1 (by lia)
theorem aaS {d:Int}(h:2<=d):d<=d*d:=by have:=bB (show(1:Int)<=d by lia) (show(0:Int)<=d by lia);lia
theorem G5 {d e:Int}(h0:0<=d)(h:d<=e):d*d<=e*e:=Int.mul_le_mul h h h0 (by lia)
theorem jN.out {n d:Int}(h:HJ n d)(h2:2<=d)(lo:2<=n)(hi:n<=9973)(hd:¬d*d<=n):jN n:=⟨lo,hi,λe h1 he=>by
 by_cases c:e<d
 ·exact h e h1 c
 ·have:=G5 (d:=d) (e:=e) (by lia) (by lia);lia⟩
theorem abn:jN 2:=⟨by lia,by lia,λd h1 h2=>by have:=G5 (d:=2) (e:=d) (by lia) h1;lia⟩
def F_P:List Int->Bool:=λns=>match ns with
 |[n]=>ZG n
 |_=>false
def yes:List Int->Prop:=λ_=>True
theorem uf (z n:Int):pl z (pl z n)=pl z n:=by
 unfold pl;by_cases h:z=0
 ·rw[af h,af h]
 ·rw[ae h,ae h,eA _ (fq z)]
theorem Aa (z a b:Int):pl z (pl z a+b)=pl z (a+b):=by
 unfold pl;by_cases h:z=0
 ·rw[af h,af h,af h]
 ·rw[ae h,ae h,ae h,Int.emod_add_emod]
theorem Ai (z a b:Int):pl z (pl z a*b)=pl z (a*b):=by
 unfold pl;by_cases h:z=0
 ·rw[af h,af h,af h]
 ·rw[ae h,ae h,ae h,ft,eA _ (fq z),<- ft]
theorem zF (z a b:Int):pl z (a*pl z b)=pl z (a*b):=by rw[b7,Ai,b7]
theorem Ln (z a b:Int):pl z (a+pl z b)=pl z (a+b):=by rw[ii,Aa,ii]
theorem BX (h:0<z):0<=pl z n/\pl z n<z:=by rw[mD h];exact⟨bE _ (by lia),bj _ h⟩
def kJ (xs:List Int):List Int:=(xs.reverse.dropWhile (· == 0)).reverse
theorem vK (xs:Li):kJ (xs++[0])=kJ xs:=by unfold kJ;rw[iR];simp
theorem BR (xs:Li)(h:x≠0):kJ (xs++[x])=xs++[x]:=by unfold kJ;rw[iR];simp[h]
theorem Dw (xs:Li):(kJ xs).length<=xs.length:=by unfold kJ;have:=(List.dropWhile_sublist (· == 0) (l:=xs.reverse)).length_le;simpa using this
def ev:List Int->Int->Int
 |[],_=>0
 |n::r,x=>n+x*ev r x
theorem QZ (hx:x.natAbs<=X)(hX:1<=X):∀xs:List Int,(∀n∈xs,n.natAbs<=M)->(ev xs x).natAbs<=xs.length*M*X^xs.length
 |[],_=>by simp[ev]
 |n::r,h=>by
  have ih:=QZ hx hX r λm hm=>h m (ad _ hm);have hn:=h n ag;show(n+x*ev r x).natAbs<=(r.length+1)*M*X^(r.length+1);have h1:(n+x*ev r x).natAbs<=n.natAbs+(x*ev r x).natAbs:=Int.natAbs_add_le _ _;have h2:(x*ev r x).natAbs<=X*(r.length*M*X^r.length):=by rw[iH];exact gB hx ih
  have h3:M<=M*X^(r.length+1):=Nat.le_mul_of_pos_right _ (dz (by lia));have h4:X*(r.length*M*X^r.length)=r.length*M*X^(r.length+1):=by rw[eS,cX X,gP]
  have h5:(r.length+1)*M*X^(r.length+1)=r.length*M*X^(r.length+1)+M*X^(r.length+1):=by rw[Nat.add_mul,Nat.one_mul,Nat.add_mul]
  lia
theorem horner (z x n e:Int):pl z (pl z e*pl z x+n)=pl z (n+x*e):=by rw[<- Aa z (pl z e*pl z x) n,Ai,zF,Aa,b7 e x,ii]
end FM
namespace L3
open PySem PySem.Spec PyProof.Rows L2
inductive PV where
 |int (n:Int)|bl (b:Bool)|non|str (s:Str)|ints (ns:List Int)|scr (ns:List Int)|lst (xs:List PV)|tup (xs:List PV)|ob (k:Nat) (z:Int)|ty (n:String)|cls (a:Addr)
structure Gx where
 ob:Nat->Hp->Addr->Int->Prop
 mono:∀k H H' a z,Same H H' -> ob k H a z->ob k H' a z
mutual
def At (K:Fg)(G:Gx)(H:Hp):PV->V->Prop
 | .int n,v=>v=.int n
 | .bl b,v=>v=.bl b
 | .non,v=>v=.non
 | .str s,v=>v=.str s
 | .ints ns,v=>∃a,v=.ref a/\Rd H a (.lst (ns.map V.int))
 | .scr ns,v=>∃a,v=.ref a/\SqL K H a (ns.map V.int)
 | .lst xs,v=>∃a vs,v=.ref a/\Rd H a (.lst vs)/\lX K G H xs vs
 | .tup xs,v=>∃a vs,v=.ref a/\H a=some (.tup vs)/\lX K G H xs vs
 | .ob k z,v=>∃a,v=.ref a/\G.ob k H a z
 | .ty n,v=>v=.ty n
 | .cls a,v=>v=.ref a
def lX (K:Fg)(G:Gx)(H:Hp):List PV->List V->Prop
 |[],vs=>vs=[]
 |p::ps,vs=>∃v r,vs=v::r/\At K G H p v/\lX K G H ps r
end
theorem jy (e:Same H H')(h:Rd H a (.lst xs)):Rd H' a (.lst xs):=by
 rcases h with h|⟨o,h⟩
 ·exact .inl (e _ _ h)
 ·exact .inr ⟨o,e _ _ h⟩
theorem Iz {K:Fg}{H H':Hp}{a:Addr}{xs:List V}(e:Same H H')(h:SqT K H a xs):SqT K H' a xs:=by
 rcases h with (h|⟨o,h⟩)|h
 ·exact .inl (.inl (e _ _ h))
 ·exact .inl (.inr ⟨o,e _ _ h⟩)
 ·exact .inr h
mutual
theorem At.mono {K:Fg}{G:Gx}{H H':Hp}(s:Same H H'):∀(p:PV) (v:V),At K G H p v->At K G H' p v
 | .int _,_,h=>h
 | .bl _,_,h=>h
 | .non,_,h=>h
 | .str _,_,h=>h
 | .ints _,_,h=>by obtain⟨a,e,q⟩:=h;exact⟨a,e,jy s q⟩
 | .scr _,_,h=>by obtain⟨a,e,q⟩:=h;exact⟨a,e,s.seq q⟩
 | .lst xs,_,h=>by obtain⟨a,vs,e,q,r⟩:=h;exact⟨a,vs,e,jy s q,lX.mono s xs vs r⟩
 | .tup xs,_,h=>by obtain⟨a,vs,e,q,r⟩:=h;exact⟨a,vs,e,s _ _ q,lX.mono s xs vs r⟩
 | .ob _ _,_,h=>by obtain⟨a,e,q⟩:=h;exact⟨a,e,G.mono _ _ _ _ _ s q⟩
 | .ty _,_,h=>h
 | .cls _,_,h=>h
theorem lX.mono {K:Fg}{G:Gx}{H H':Hp}(s:Same H H'):∀(ps:List PV) (vs:List V),lX K G H ps vs->lX K G H' ps vs
 |[],_,h=>h
 |p::ps,_,h=>by obtain⟨v,r,e,q,t⟩:=h;exact⟨v,r,e,At.mono s p v q,lX.mono s ps r t⟩
end
theorem lX.length {K:Fg}{G:Gx}{H:Hp}:∀{ps:List PV} {vs:List V},lX K G H ps vs->ps.length=vs.length
 |[],_,h=>by cases h;rfl
 |p::ps,_,h=>by obtain⟨v,r,rfl,_,t⟩:=h;rw[aG,aG,lX.length t]
theorem lX.get {K:Fg}{G:Gx}{H:Hp}:∀{ps:List PV} {vs:List V} {i:Nat} {v:V},lX K G H ps vs->vs[i]?=some v->∃p,ps[i]?=some p/\At K G H p v
 |[],_,i,v,h,e=>by cases h;simp at e
 |p::ps,_,0,v,h,e=>by obtain⟨w,r,rfl,q,t⟩:=h;simp at e;subst e;exact⟨p,rfl,q⟩
 |p::ps,_,i+1,v,h,e=>by obtain⟨w,r,rfl,q,t⟩:=h;obtain⟨p',e',q'⟩:=lX.get (i:=i) (v:=v) t (by simpa using e);exact⟨p',by simpa using e',q'⟩
theorem lX.at {K:Fg}{G:Gx}{H:Hp}:∀{ps:List PV} {vs:List V} {i:Nat} {p:PV},lX K G H ps vs->ps[i]?=some p->∃v,vs[i]?=some v/\At K G H p v
 |[],_,i,v,h,e=>by simp at e
 |p::ps,_,0,v,h,e=>by obtain⟨w,r,rfl,q,t⟩:=h;simp at e;subst e;exact⟨w,rfl,q⟩
 |p::ps,_,i+1,v,h,e=>by obtain⟨w,r,rfl,q,t⟩:=h;obtain⟨v',e',q'⟩:=lX.at (i:=i) (p:=v) t (by simpa using e);exact⟨v',by simpa using e',q'⟩
theorem lX.snoc {K:Fg}{G:Gx}{H:Hp}{p:PV}{v:V}:∀{ps:List PV} {vs:List V},lX K G H ps vs->At K G H p v->lX K G H (ps++[p]) (vs++[v])
 |[],_,h,q=>by cases h;exact⟨v,[],rfl,q,rfl⟩
 |p'::ps,_,h,q=>by obtain⟨w,r,rfl,q',t⟩:=h;exact⟨w,_,rfl,q',lX.snoc t q⟩
def mn (H:Hp)(O:Addr->Bool):Hp:=λb=>if O b=true then none else H b
theorem tH (h:mn H O b=some o):O b=false/\H b=some o:=by
 unfold mn at h;by_cases c:O b=true
 ·rw[af c]at h;cases h
 ·rw[ae c]at h;exact⟨by simpa using c,h⟩
theorem qX (h:O b=false):mn H O b=H b:=by unfold mn;rw[ae (by rw[h];decide)]
theorem jQ:Same (mn H O) H:=sS λ_ _ h=>(tH h).2
theorem kY (s:Same H H'):Same (mn H O) (mn H' O):=λb o h=>by obtain⟨c,e⟩:=tH h;rw[qX c];exact s b o e
theorem ww (k:∀a,O a=true->O' a=true):Same (mn H O') (mn H O):=sS λb o h=>by
 obtain⟨c,e⟩:=tH h;have:O b=false:=by
  cases z:O b with
  |false=>rfl
  |true=>rw[k b z]at c;cases c
 rw[qX this];exact e
def hide (a:Addr)(O:Addr->Bool):Addr->Bool:=λb=>b == a || O b
theorem hide_ne (h:b≠a):hide a O b=O b:=by unfold hide;simp[h]
theorem hide_self:hide a O a=true:=by unfold hide;simp
theorem qQ:∀b,O b=true->hide a O b=true:=λb h=>by unfold hide;simp[h]
theorem mK (s:Same H H')(ha:H a=none):Same (mn H O) (mn H' (hide a O)):=λb o h=>by obtain⟨c,e⟩:=tH h;rw[qX (by rw[hide_ne (ne_of_none e ha)];exact c)];exact s b o e
theorem Gz (h:O a=true):mn (upd H a o) O=mn H O:=by
 funext b;unfold mn;by_cases c:O b=true
 ·rw[af c,af c]
 ·rw[ae c,ae c,upd_ne (λz=>c (by rw[z];exact h))]
inductive Sl where
 |un|fr (p:PV)|ow (p:PV)|o2 (xs ys:List Int)
abbrev En:=List Sl
structure Bs where
 H0:Hp
 Oc:Addr->Bool
def Df (K:Fg)(G:Gx)(H:Hp):PV->List V->Prop
 | .ints ns,vs=>vs=ns.map V.int
 | .lst xs,vs=>lX K G H xs vs
 |_,_=>False
theorem Df.mono {K:Fg}{G:Gx}{H H':Hp}(s:Same H H'){p:PV}{vs:List V}(h:Df K G H p vs):Df K G H' p vs:=by cases p<;>first|exact h|exact lX.mono s _ _ h
structure aa9 (B:Bs)(σ:L2.St)(H:Hp)(Z:En)(O:Addr->Bool)(i:Nat)(xs ys:List Int)(D a b:Addr):Prop where
 at_:σ[i]?=some (some (.ref D))
 oD:O D=true
 oa:O a=true
 ob:O b=true
 nD:B.H0 D=none
 na:B.H0 a=none
 nb:B.H0 b=none
 hD:H D=some (.lst [.ref a,.ref b])
 ha:H a=some (.lst (xs.map V.int))
 hb:H b=some (.lst (ys.map V.int))
 ab:a≠b
 un:∀(j:Nat) q c,Z[j]?=some (.ow q)->σ[j]?=some (some (.ref c))->c≠D/\c≠a/\c≠b
 one:∀(j:Nat) xs' ys',Z[j]?=some (.o2 xs' ys')->j=i
structure Rep (K:Fg)(G:Gx)(B:Bs)(σ:L2.St)(H:Hp)(Z:En)(O:Addr->Bool):Prop where
 same:Same B.H0 H
 cd:∀a,B.Oc a=true->B.H0 a≠none
 hid:∀a,B.Oc a=true->O a=true
 dom:∀a,O a=true->H a≠none
 vis:∀a,O a=true->B.Oc a=true\/B.H0 a=none
 fr:∀(i:Nat) p,Z[i]?=some (.fr p)->∃v,σ[i]?=some (some v)/\At K G (mn H O) p v
 ow:∀(i:Nat) p,Z[i]?=some (.ow p)->∃a vs,σ[i]?=some (some (.ref a))/\O a=true/\B.H0 a=none/\H a=some (.lst vs)/\Df K G (mn H O) p vs
 inj:∀(i j:Nat) p q a,Z[i]?=some (.ow p)->Z[j]?=some (.ow q)->σ[i]?=some (some (.ref a))->σ[j]?=some (some (.ref a))->i=j
 len:σ.length=Z.length
 o2:∀(i:Nat) xs ys,Z[i]?=some (.o2 xs ys)->∃D a b,aa9 B σ H Z O i xs ys D a b
section
variable {K:Fg}{G:Gx}{B:Bs}{σ:L2.St}{H H':Hp}{Z:En}{O:Addr->Bool}{i:Nat}
theorem Rep.grow (R:Rep K G B σ H Z O)(s:Same H H'):Rep K G B σ H' Z O:=by
 refine⟨R.same.trans s,R.cd,R.hid,λa h z=>R.dom a h (s.free z),R.vis,λi p e=>?_,λi p e=>?_,R.inj,R.len,λi xs ys e=>let ⟨D,a,b,q⟩:=R.o2 i xs ys e;⟨D,a,b,q.at_,q.oD,q.oa,q.ob,q.nD,q.na,q.nb,s _ _ q.hD,s _ _ q.ha,s _ _ q.hb,q.ab,q.un,q.one⟩⟩
 ·obtain⟨v,e1,e2⟩:=R.fr i p e;exact⟨v,e1,At.mono (kY s) _ _ e2⟩
 ·obtain⟨a,vs,e1,e2,e3,e4,e5⟩:=R.ow i p e;exact⟨a,vs,e1,e2,e3,s _ _ e4,e5.mono (kY s)⟩
theorem kh {α:Type}{l:List α}{i j:Nat}{x y:α}(h:(l.set i x)[j]?=some y):(i=j/\y=x/\i<l.length)\/(i≠j/\l[j]?=some y):=by
 rw[gD]at h;by_cases c:i=j
 ·rw[af c]at h;by_cases c2:i<l.length
  ·rw[af c2]at h;exact .inl ⟨c,(aF h).symm,c2⟩
  ·rw[ae c2]at h;cases h
 ·rw[ae c]at h;exact .inr ⟨c,h⟩
theorem oZ {α:Type}{l:List α}{i j:Nat}{x:α}(h:i≠j):(l.set i x)[j]?=l[j]?:=by rw[gD,ae h]
theorem Ax {α:Type}{l:List α}{i:Nat}{x:α}(h:i<l.length):(l.set i x)[i]?=some x:=by rw[gD,af rfl,af h]
theorem Rep.set (R:Rep K G B σ H Z O){p:PV}{v:V}(h:At K G (mn H O) p v):Rep K G B (σ.set i (some v)) H (Z.set i (.fr p)) O:=by
 refine⟨R.same,R.cd,R.hid,R.dom,R.vis,λj q e=>?_,λj q e=>?_,λj k q r a e1 e2 e3 e4=>?_,by rw[bQ,bQ];exact R.len,λj xs ys e=>?_⟩
 ·rcases kh e with⟨rfl,e,l⟩|⟨n,e⟩
  ·cases e;exact⟨v,Ax (by rw[R.len];exact l),h⟩
  ·rw[oZ n];exact R.fr j q e
 ·rcases kh e with⟨rfl,e,l⟩|⟨n,e⟩
  ·cases e
  ·rw[oZ n];exact R.ow j q e
 ·rcases kh e1 with⟨rfl,e,l⟩|⟨n,e⟩
  ·cases e
  ·rcases kh e2 with⟨rfl,e',l'⟩|⟨n',e'⟩
   ·cases e'
   ·rw[oZ n]at e3;rw[oZ n']at e4;exact R.inj j k q r a e e' e3 e4
 ·rcases kh e with⟨rfl,e,l⟩|⟨n,e⟩
  ·cases e
  ·obtain⟨D,a,b,q⟩:=R.o2 j xs ys e;refine⟨D,a,b,by rw[oZ n];exact q.at_,q.oD,q.oa,q.ob,q.nD,q.na,q.nb,q.hD,q.ha,q.hb,q.ab,λk r c e1 e2=>?_,λk xs' ys' e1=>?_⟩
   ·rcases kh e1 with⟨_,e',_⟩|⟨n',e'⟩
    ·cases e'
    ·rw[oZ n']at e2;exact q.un k r c e' e2
   ·rcases kh e1 with⟨_,e',_⟩|⟨n',e'⟩
    ·cases e'
    ·exact q.one k xs' ys' e'
theorem Rep.new (R:Rep K G B σ H Z O){p:PV}{a:Addr}{vs:List V}(s:Same H H')(ha:H a=none)(he:H' a=some (.lst vs))(h:Df K G (mn H' (hide a O)) p vs):Rep K G B (σ.set i (some (.ref a))) H' (Z.set i (.ow p)) (hide a O):=by
 refine⟨R.same.trans s,R.cd,λb z=>qQ b (R.hid b z),λb z y=>?_,λb z=>?_,λj q e=>?_,λj q e=>?_,λj k q r b e1 e2 e3 e4=>?_,by rw[bQ,bQ];exact R.len,λj xs ys e=>?_⟩
 ·by_cases c:b=a
  ·subst c;rw[he]at y;cases y
  ·rw[hide_ne c]at z;exact R.dom b z (s.free y)
 ·by_cases c:b=a
  ·subst c;exact .inr (R.same.free ha)
  ·rw[hide_ne c]at z;exact R.vis b z
 ·rcases kh e with⟨rfl,e,l⟩|⟨n,e⟩
  ·cases e
  ·obtain⟨v,e1,e2⟩:=R.fr j q e;exact⟨v,by rw[oZ n];exact e1,At.mono (mK s ha) _ _ e2⟩
 ·rcases kh e with⟨rfl,e,l⟩|⟨n,e⟩
  ·cases e;exact⟨a,vs,Ax (by rw[R.len];exact l),hide_self,R.same.free ha,he,h⟩
  ·obtain⟨b,us,e1,e2,e3,e4,e5⟩:=R.ow j q e;exact⟨b,us,by rw[oZ n];exact e1,qQ b e2,e3,s _ _ e4,e5.mono (mK s ha)⟩
 ·have old:∀(m:Nat) q,Z[m]?=some (.ow q)->σ[m]?=some (some (.ref a))->False:=λm q e z=>by obtain⟨b,us,e1,_,_,e4,_⟩:=R.ow m q e;rw[z]at e1;cases e1;rw[ha]at e4;cases e4
  rcases kh e1 with⟨rfl,e,l⟩|⟨n,e⟩
  ·rcases kh e2 with⟨rfl,e',l'⟩|⟨n',e'⟩
   ·rfl
   ·rw[Ax (by rw[R.len];exact l)]at e3;cases e3;rw[oZ n']at e4;exact(old k r e' e4).elim
  ·rcases kh e2 with⟨rfl,e',l'⟩|⟨n',e'⟩
   ·rw[Ax (by rw[R.len];exact l')]at e4;cases e4;rw[oZ n]at e3;exact(old j q e e3).elim
   ·rw[oZ n]at e3;rw[oZ n']at e4;exact R.inj j k q r b e e' e3 e4
 ·rcases kh e with⟨rfl,e,l⟩|⟨n,e⟩
  ·cases e
  ·obtain⟨D,a1,b1,q⟩:=R.o2 j xs ys e;refine⟨D,a1,b1,by rw[oZ n];exact q.at_,qQ _ q.oD,qQ _ q.oa,qQ _ q.ob,q.nD,q.na,q.nb,s _ _ q.hD,s _ _ q.ha,s _ _ q.hb,q.ab,λk r c e1 e2=>?_,λk xs' ys' e1=>?_⟩
   ·rcases kh e1 with⟨rfl,e',l'⟩|⟨n',e'⟩
    ·rw[Ax (by rw[R.len];exact l')]at e2;cases e2;exact⟨cf (ne_of_none q.hD ha),cf (ne_of_none q.ha ha),cf (ne_of_none q.hb ha)⟩
    ·rw[oZ n']at e2;exact q.un k r c e' e2
   ·rcases kh e1 with⟨_,e',_⟩|⟨n',e'⟩
    ·cases e'
    ·exact q.one k xs' ys' e'
theorem Rep.change (R:Rep K G B σ H Z O){p p':PV}{a:Addr}{vs:List V}(e:Z[i]?=some (.ow p))(ea:σ[i]?=some (some (.ref a)))(h:Df K G (mn H O) p' vs):Rep K G B σ (upd H a (.lst vs)) (Z.set i (.ow p')) O:=by
 obtain⟨a',us,e1,e2,e3,e4,e5⟩:=R.ow i p e;rw[ea]at e1;cases e1;have hl:i<Z.length:=(aj.mp e).1;refine⟨λb o z=>?_,R.cd,R.hid,λb z y=>?_,R.vis,λj q ej=>?_,λj q ej=>?_,λj k q r b j1 j2 j3 j4=>?_,by rw[bQ];exact R.len,λj xs ys ej=>?_⟩
 ·rw[upd_ne (ne_of_none z e3)];exact R.same b o z
 ·by_cases c:b=a
  ·subst c;rw[upd_same]at y;cases y
  ·rw[upd_ne c]at y;exact R.dom b z y
 ·rw[Gz e2];rcases kh ej with⟨_,e',_⟩|⟨_,e'⟩
  ·cases e'
  ·exact R.fr j q e'
 ·rw[Gz e2];rcases kh ej with⟨rfl,e',_⟩|⟨n,e'⟩
  ·cases e';exact⟨a,vs,ea,e2,e3,upd_same,h⟩
  ·obtain⟨b,ws,f1,f2,f3,f4,f5⟩:=R.ow j q e';refine⟨b,ws,f1,f2,f3,?_,f5⟩;rw[upd_ne]
   ·exact f4
   ·intro z;subst z;exact n (R.inj i j p q b e e' ea f1)
 ·have back:∀(m:Nat) q,(Z.set i (.ow p'))[m]?=some (.ow q)->∃q',Z[m]?=some (.ow q'):=λm q z=>by
   rcases kh z with⟨rfl,_,_⟩|⟨_,z⟩
   ·exact⟨p,e⟩
   ·exact⟨q,z⟩
  obtain⟨q',y1⟩:=back j q j1;obtain⟨r',y2⟩:=back k r j2;exact R.inj j k q' r' b y1 y2 j3 j4
 ·rcases kh ej with⟨rfl,e',_⟩|⟨n,e'⟩
  ·cases e'
  ·obtain⟨D,a1,b1,q⟩:=R.o2 j xs ys e';obtain⟨u1,u2,u3⟩:=q.un i p a e ea;refine⟨D,a1,b1,q.at_,q.oD,q.oa,q.ob,q.nD,q.na,q.nb,by rw[upd_ne (cf u1)];exact q.hD,by rw[upd_ne (cf u2)];exact q.ha,by rw[upd_ne (cf u3)];exact q.hb,q.ab,λk r c e1 e2=>?_,λk xs' ys' e1=>?_⟩
   ·rcases kh e1 with⟨rfl,_,_⟩|⟨_,e1⟩
    ·exact q.un i p c e e2
    ·exact q.un k r c e1 e2
   ·rcases kh e1 with⟨_,e',_⟩|⟨n',e'⟩
    ·cases e'
    ·exact q.one k xs' ys' e'
def xu (a:Addr)(O:Addr->Bool):Addr->Bool:=λb=>if b=a then false else O b
theorem uP (h:b≠a):xu a O b=O b:=by unfold xu;rw[ae h]
theorem Do:xu a O a=false:=by unfold xu;rw[af rfl]
theorem Ge:∀b,xu a O b=true->O b=true:=λb h=>by
 by_cases c:b=a
 ·subst c;rw[Do]at h;cases h
 ·rw[uP c]at h;exact h
def frz (Z:En)(i:Nat):En:=match Z[i]? with
 |some (.ow p)=>Z.set i (.fr p)
 |_=>Z
theorem Rep.freeze (R:Rep K G B σ H Z O)(i:Nat):∃O',Rep K G B σ H (frz Z i) O':=by
 unfold frz;split
 ·rename_i p e;obtain⟨a,vs,e1,e2,e3,e4,e5⟩:=R.ow i p e;have sub:Same (mn H O) (mn H (xu a O)):=ww Ge;have sees:Rd (mn H (xu a O)) a (.lst vs):=.inl (by rw[qX Do];exact e4);have hp:At K G (mn H (xu a O)) p (.ref a):=by
   cases p<;>first
    |exact False.elim e5
    |(have e5:=e5.mono sub;exact⟨a,vs,rfl,sees,e5⟩)
    |(have e5':vs=_:=e5;subst e5';exact⟨a,rfl,sees⟩)
  refine⟨xu a O,R.same,R.cd,λb z=>?_,λb z=>R.dom b (Ge b z),λb z=>R.vis b (Ge b z),λj q ej=>?_,λj q ej=>?_,λj k q r b j1 j2 j3 j4=>?_,by rw[bQ];exact R.len,λj xs ys ej=>?_⟩
  ·rw[uP]
   ·exact R.hid b z
   ·intro y;subst y;exact R.cd b z e3
  ·rcases kh ej with⟨rfl,e',_⟩|⟨n,e'⟩
   ·cases e';exact⟨.ref a,e1,hp⟩
   ·obtain⟨v,f1,f2⟩:=R.fr j q e';exact⟨v,f1,At.mono sub _ _ f2⟩
  ·rcases kh ej with⟨rfl,e',_⟩|⟨n,e'⟩
   ·cases e'
   ·obtain⟨b,ws,f1,f2,f3,f4,f5⟩:=R.ow j q e';refine⟨b,ws,f1,?_,f3,f4,f5.mono sub⟩;rw[uP]
    ·exact f2
    ·intro z;subst z;exact n (R.inj i j p q b e e' e1 f1)
  ·rcases kh j1 with⟨_,e',_⟩|⟨_,y1⟩
   ·cases e'
   ·rcases kh j2 with⟨_,e',_⟩|⟨_,y2⟩
    ·cases e'
    ·exact R.inj j k q r b y1 y2 j3 j4
  ·rcases kh ej with⟨rfl,e',_⟩|⟨n,e'⟩
   ·cases e'
   ·obtain⟨D,a1,b1,q⟩:=R.o2 j xs ys e';obtain⟨u1,u2,u3⟩:=q.un i p a e e1;refine⟨D,a1,b1,q.at_,by rw[uP (cf u1)];exact q.oD,by rw[uP (cf u2)];exact q.oa,by rw[uP (cf u3)];exact q.ob,q.nD,q.na,q.nb,q.hD,q.ha,q.hb,q.ab,λk r c e1 e2=>?_,λk xs' ys' e1=>?_⟩
    ·rcases kh e1 with⟨_,e',_⟩|⟨_,e1⟩
     ·cases e'
     ·exact q.un k r c e1 e2
    ·rcases kh e1 with⟨_,e',_⟩|⟨n',e'⟩
     ·cases e'
     ·exact q.one k xs' ys' e'
 ·exact⟨O,R⟩
def Bs.at (B:Bs)(H:Hp)(O:Addr->Bool):Bs:=⟨λb=>if (O b && (B.H0 b).isNone)=true then none else H b,B.Oc⟩
theorem Bs.at_of (h:O b=false\/B.H0 b≠none):(B.at H O).H0 b=H b:=by
 show(if (O b && (B.H0 b).isNone)=true then none else H b)=H b;rw[ae];rcases h with h|h
 ·rw[h];simp
 ·cases e:B.H0 b with
  |none=>exact absurd e h
  |some o=>simp
theorem Rep.rebase (R:Rep K G B σ H Z O):Rep K G (B.at H O) σ H Z O:=by
 refine⟨λb o z=>?_,λa z=>?_,R.hid,R.dom,λa z=>?_,R.fr,λi p e=>?_,R.inj,R.len,λi xs ys e=>?_⟩
 ·have z:(if (O b && (B.H0 b).isNone)=true then none else H b)=some o:=z;by_cases c:(O b && (B.H0 b).isNone)=true
  ·rw[af c]at z;cases z
  ·rw[ae c]at z;exact .of z
 ·rw[Bs.at_of (.inr (R.cd a z))];exact R.dom a (R.hid a z)
 ·rcases R.vis a z with y|y
  ·exact .inl y
  ·refine .inr ?_;show(if (O a && (B.H0 a).isNone)=true then none else H a)=none;rw[af (by rw[z,y];rfl)]
 ·obtain⟨a,vs,e1,e2,e3,e4,e5⟩:=R.ow i p e;refine⟨a,vs,e1,e2,?_,e4,e5⟩;show(if (O a && (B.H0 a).isNone)=true then none else H a)=none;rw[af (by rw[e2,e3];rfl)]
 ·obtain⟨D,a,b,q⟩:=R.o2 i xs ys e;have z:∀c,O c=true->B.H0 c=none->(B.at H O).H0 c=none:=λc h1 h2=>by show(if (O c && (B.H0 c).isNone)=true then none else H c)=none;rw[af (by rw[h1,h2];rfl)]
  exact⟨D,a,b,q.at_,q.oD,q.oa,q.ob,z D q.oD q.nD,z a q.oa q.na,z b q.ob q.nb,q.hD,q.ha,q.hb,q.ab,q.un,q.one⟩
theorem Rep.n6 (R:Rep K G B σ H Z O):Same B.H0 (B.at H O).H0:=λb o z=>by rw[Bs.at_of (.inr (by rw[z];exact λy=>by cases y))];exact R.same b o z
theorem Rep.uY (B:Bs)(H:Hp)(O:Addr->Bool):Same (mn H O) (B.at H O).H0:=sS λb o z=>by obtain⟨c,e⟩:=tH z;rw[Bs.at_of (.inl c)];exact e
theorem Rep.JM (R:Rep K G B σ H Z O)(R':Rep K G (B.at H O) σ' H' Z' O'):Rep K G B σ' H' Z' O':=by
 refine⟨R.n6.trans R'.same,R.cd,R'.hid,R'.dom,λa z=>(R'.vis a z).imp id λy=>R.n6.free y,R'.fr,λi p e=>?_,R'.inj,R'.len,λi xs ys e=>?_⟩
 ·obtain⟨a,vs,e1,e2,e3,e4,e5⟩:=R'.ow i p e;exact⟨a,vs,e1,e2,R.n6.free e3,e4,e5⟩
 ·obtain⟨D,a,b,q⟩:=R'.o2 i xs ys e;exact⟨D,a,b,q.at_,q.oD,q.oa,q.ob,R.n6.free q.nD,R.n6.free q.na,R.n6.free q.nb,q.hD,q.ha,q.hb,q.ab,q.un,q.one⟩
theorem Rep.seen (R:Rep K G B σ H Z O)(R':Rep K G (B.at H O) σ' H' Z' O'):Same (mn H O) (mn H' O'):=λb o z=>by
 obtain⟨c,e⟩:=tH z;have z0:(B.at H O).H0 b=some o:=by rw[Bs.at_of (.inl c)];exact e
 rw[qX]
 ·exact R'.same b o z0
 ·cases y:O' b with
  |false=>rfl
  |true=>
   rcases R'.vis b y with y|y
   ·rw[R.hid b y]at c;cases c
   ·rw[z0]at y;cases y
end
def Dc (Z:En)(i:Nat):Int:=match Z[i]? with
 |some (.fr (.int n))=>n
 |_=>0
def isI (Z:En)(i:Nat):Prop:=Z[i]?=some (.fr (.int (Dc Z i)))
def getL (Z:En)(i:Nat):List Int:=match Z[i]? with
 |some (.fr (.ints ns))=>ns
 |some (.ow (.ints ns))=>ns
 |some (.fr (.scr ns))=>ns
 |_=>[]
def isL (Z:En)(i:Nat):Prop:=Z[i]?=some (.fr (.ints (getL Z i)))
def XH (Z:En)(i:Nat):Prop:=Z[i]?=some (.ow (.ints (getL Z i)))
def KH (Z:En)(i:Nat):Prop:=isL Z i\/XH Z i\/Z[i]?=some (.fr (.scr (getL Z i)))
def sX (Z:En)(i:Nat):PV:=match Z[i]? with
 |some (.fr p)=>p
 |some (.ow p)=>p
 |_=>.non
def isF (Z:En)(i:Nat):Prop:=Z[i]?=some (.fr (sX Z i))
def aa6 (Z:En)(i:Nat):Str:=match Z[i]? with
 |some (.fr (.str s))=>s
 |_=>Str.empty
def isS (Z:En)(i:Nat):Prop:=Z[i]?=some (.fr (.str (aa6 Z i)))
section
variable {K:Fg}{G:Gx}{B:Bs}{σ:L2.St}{H H':Hp}{Z:En}{O:Addr->Bool}{i:Nat}
theorem Rep.S9 (R:Rep K G B σ H Z O)(h:KH Z i):∃a,σ[i]?=some (some (.ref a))/\SqL K H a ((getL Z i).map V.int):=by
 rcases h with h|h|h
 ·obtain⟨v,e1,a,e2,e3⟩:=R.fr i _ h;subst e2;exact⟨a,e1,.inl (jy jQ e3)⟩
 ·obtain⟨a,vs,e1,e2,e3,e4,e5⟩:=R.ow i _ h;subst e5;exact⟨a,e1,.inl (.inl e4)⟩
 ·obtain⟨v,e1,a,e2,e3⟩:=R.fr i _ h;subst e2;exact⟨a,e1,jQ.seq e3⟩
end
def tX (K:Fg)(G:Gx)(C:En->Prop)(g:En->PV):TE:=λσ H Q=>∃B Z O,Rep K G B σ H Z O/\C Z/\∀v H',Same H H' -> At K G (mn H' O) (g Z) v->Q v H'
def Ef (K:Fg)(G:Gx)(C:En->Prop)(g:En->List Int):TE:=λσ H Q=>∃B Z O,Rep K G B σ H Z O/\C Z/\∀a H',Same H H' -> H a=none->H' a=some (.lst ((g Z).map V.int))->Q (.ref a) H'
def yL (K:Fg)(G:Gx)(C:En->Prop)(g:En->List PV):TE:=λσ H Q=>∃B Z O,Rep K G B σ H Z O/\C Z/\∀a vs H',Same H H' -> H a=none->H' a=some (.lst vs)->lX K G (mn H' (hide a O)) (g Z) vs->Q (.ref a) H'
def M7 (K:Fg)(G:Gx)(C:En->Prop)(g:En->List PV):TA:=λσ H Q=>∃B Z O,Rep K G B σ H Z O/\C Z/\∀vs H',Same H H' -> lX K G (mn H' O) (g Z) vs->Q vs H'
def vy (K:Fg)(G:Gx)(C:En->Prop)(p:En->Prop)[∀Z,Decidable (p Z)]:TT:=λσ H Q=>∃B Z O,Rep K G B σ H Z O/\C Z/\∀H',Same H H' -> Q (decide (p Z)) H'
abbrev lY (K:Fg)(G:Gx)(C:En->Prop)(g:En->Int):TE:=tX K G C λZ=>.int (g Z)
abbrev Ld (K:Fg)(G:Gx)(C:En->Prop)(g:En->List Int):TE:=tX K G C λZ=>.ints (g Z)
abbrev Qu (K:Fg)(G:Gx)(C:En->Prop)(p:En->Prop)[∀Z,Decidable (p Z)]:TE:=tX K G C λZ=>.bl (decide (p Z))
abbrev tXS (K:Fg)(G:Gx)(C:En->Prop)(g:En->Str):TE:=tX K G C λZ=>.str (g Z)
section
variable {X:Cx}{G:Gx}{a b:Expr}{pos:Pos}{Ca Cb:En->Prop}{ga gb:En->Int}{i:Nat}{x:Str}{e:Expr}{t:TE}{C:En->Prop}{g:En->PV}{gl hl:En->List Int}
theorem uN (h:PE X e t)(k:∀B σ H Z O Q,Rep X.K G B σ H Z O->C Z->(∀v H',Same H H' -> At X.K G (mn H' O) (g Z) v->Q v H')->t σ H Q):PE X e (tX X.K G C g):=
 λpins s σ H Q I ⟨B,Z,O,R,c,q⟩=>h pins s σ H Q I (k B σ H Z O Q R c q)
theorem KQ (h:PE X e t)(k:∀B σ H Z O Q,Rep X.K G B σ H Z O->C Z->(∀a H',Same H H' -> H a=none->H' a=some (.lst ((gl Z).map V.int))->Q (.ref a) H')->t σ H Q):PE X e (Ef X.K G C gl):=
 λpins s σ H Q I ⟨B,Z,O,R,c,q⟩=>h pins s σ H Q I (k B σ H Z O Q R c q)
theorem jY (h:PE X e (Ef X.K G C gl)):PE X e (Ld X.K G C gl):=uN h λB σ H Z O Q R c q=>⟨B,Z,O,R,c,λa H' s n e=>q _ H' s ⟨a,rfl,.inl (by
 rw[qX]
 ·exact e
 ·cases z:O a with
  |false=>rfl
  |true=>exact absurd n (R.dom a z))⟩⟩
theorem tQ (h:PE X e (yL X.K G C gp)):PE X e (tX X.K G C λZ=>.lst (gp Z)):=uN h λB σ H Z O Q R c q=>⟨B,Z,O,R,c,λa vs H' s n e al=>q _ H' s ⟨a,vs,rfl,.inl (by
 rw[qX]
 ·exact e
 ·cases z:O a with
  |false=>rfl
  |true=>exact absurd n (R.dom a z)),lX.mono (ww qQ) _ _ al⟩⟩
theorem jj:PE X (.Constant (.int n) j pos) (lY X.K G (λ_=>True) λ_=>n):=uN pe_int λ_ _ H _ _ _ _ _ q=>q _ H (Same.refl H) rfl
theorem rY:PE X (.Constant (.bool n) j pos) (tX X.K G (λ_=>True) λ_=>.bl n):=uN pe_bl λ_ _ H _ _ _ _ _ q=>q _ H (Same.refl H) rfl
theorem Zu:PE X (.Constant .none j pos) (tX X.K G (λ_=>True) λ_=>.non):=uN pe_non λ_ _ H _ _ _ _ _ q=>q _ H (Same.refl H) rfl
theorem Y8:PE X (.Constant (.str n) j pos) (tXS X.K G (λ_=>True) λ_=>n):=uN pe_str λ_ _ H _ _ _ _ _ q=>q _ H (Same.refl H) rfl
theorem qz (hg:Gl X x)(hm:X.mg x=none)(hv:bootBuiltins x=some (.type u))(hn:x≠"__name__":=by decide)(hd:(x == ("__debug__":Str))=false:=by decide):PE X (.Name x pos) (tX X.K G (λ_=>True) λ_=>.ty u):=
 uN (pe_bltn (v:=.ty u) hg hm hv rfl hn hd) λ_ _ H _ _ _ _ _ q=>q _ H (Same.refl H) rfl
theorem xv (i:Nat)(hN:X.N[i]?=some x:=by rfl)(hv:Vis X.env.scope x:=by first|exact Or.inl rfl|exact Or.inr (Or.inl rfl)|exact Or.inr (Or.inr rfl))
  (hd:(x == ("__debug__":Str))=false:=by decide) (hcd:(x == ("__classdict__":Str))=false:=by decide):PE X (.Name x pos) (tX X.K G (λZ=>isF Z i) λZ=>sX Z i):=
 uN (pe_var hN hv hd hcd) λ_ _ H _ _ _ R c q=>let ⟨v,e,h⟩:=R.fr i _ c;⟨v,e,q v H (Same.refl H) h⟩
theorem xn (i:Nat)(hN:X.N[i]?=some x:=by rfl)(hv:Vis X.env.scope x:=by first|exact Or.inl rfl|exact Or.inr (Or.inl rfl)|exact Or.inr (Or.inr rfl))
  (hd:(x == ("__debug__":Str))=false:=by decide) (hcd:(x == ("__classdict__":Str))=false:=by decide):PE X (.Name x pos) (lY X.K G (λZ=>isI Z i) λZ=>Dc Z i):=
 uN (pe_var hN hv hd hcd) λ_ _ H _ _ _ R c q=>let ⟨v,e,h⟩:=R.fr i _ c;⟨v,e,q v H (Same.refl H) h⟩
theorem xl (i:Nat)(hN:X.N[i]?=some x:=by rfl)(hv:Vis X.env.scope x:=by first|exact Or.inl rfl|exact Or.inr (Or.inl rfl)|exact Or.inr (Or.inr rfl))
  (hd:(x == ("__debug__":Str))=false:=by decide) (hcd:(x == ("__classdict__":Str))=false:=by decide):PE X (.Name x pos) (Ld X.K G (λZ=>isL Z i) λZ=>getL Z i):=
 uN (pe_var hN hv hd hcd) λ_ _ H _ _ _ R c q=>let ⟨v,e,h⟩:=R.fr i _ c;⟨v,e,q v H (Same.refl H) h⟩
theorem xr (i:Nat)(hN:X.N[i]?=some x:=by rfl)(hv:Vis X.env.scope x:=by first|exact Or.inl rfl|exact Or.inr (Or.inl rfl)|exact Or.inr (Or.inr rfl))
  (hd:(x == ("__debug__":Str))=false:=by decide) (hcd:(x == ("__classdict__":Str))=false:=by decide):PE X (.Name x pos) (tX X.K G (λZ=>Z[i]?=some (.fr (.scr (getL Z i)))) λZ=>.scr (getL Z i)):=
 uN (pe_var hN hv hd hcd) λ_ _ H _ _ _ R c q=>let ⟨v,e,h⟩:=R.fr i _ c;⟨v,e,q v H (Same.refl H) h⟩
theorem two {r:R2}{ga gb:En->PV}{σ:L2.St}{B:Bs}{O:Addr->Bool}(R:Rep X.K G B σ H Z O)(ca:Ca Z)(cb:Cb Z)(q:∀v u H1 H2,Same H H1->Same H1 H2->At X.K G (mn H2 O) (ga Z) v->At X.K G (mn H2 O) (gb Z) u->r v u H2 Q) :
  tOp r (tX X.K G Ca ga) (tX X.K G Cb gb) σ H Q:=
 ⟨B,Z,O,R,ca,λv H1 s1 a1=>⟨B,Z,O,R.grow s1,cb,λu H2 s2 a2=>q v u H1 H2 s1 s2 (At.mono (kY s2) _ _ a1) a2⟩⟩
theorem Lh {op:Operator}{C:Int->Int->Prop}{g:Int->Int->Int}(ho:OpR X (binaryOp op) (rI C λi j=>.int (g i j)))(ha:PE X a (lY X.K G Ca ga))(hb:PE X b (lY X.K G Cb gb)) :
  PE X (.BinOp a op b pos) (lY X.K G (λZ=>Ca Z/\Cb Z/\C (ga Z) (gb Z)) λZ=>g (ga Z) (gb Z)):=
 uN (pe_op ho ha hb) λ_ _ _ _ _ _ R c q=>two R c.1 c.2.1 λ_ _ _ H2 s1 s2 a1 a2=>⟨_,_,a1,a2,c.2.2,q _ H2 (s1.trans s2) rfl⟩
theorem Qy {op:Operator}{g:Int->Int->Int}(ho:OpR X (binaryOp op) (rI0 λi j=>.int (g i j)))(ha:PE X a (lY X.K G Ca ga))(hb:PE X b (lY X.K G Cb gb)) :
  PE X (.BinOp a op b pos) (lY X.K G (λZ=>Ca Z/\Cb Z) λZ=>g (ga Z) (gb Z)):=
 uN (pe_op ho ha hb) λ_ _ _ _ _ _ R c q=>two R c.1 c.2 λ_ _ _ H2 s1 s2 a1 a2=>⟨_,_,a1,a2,q _ H2 (s1.trans s2) rfl⟩
theorem lG (ha:PE X a (lY X.K G Ca ga))(hb:PE X b (lY X.K G Cb gb)):PE X (.BinOp a .Add b pos) (lY X.K G (λZ=>Ca Z/\Cb Z) λZ=>ga Z+gb Z):=Qy op_add ha hb
theorem pI (ha:PE X a (lY X.K G Ca ga))(hb:PE X b (lY X.K G Cb gb)):PE X (.BinOp a .Sub b pos) (lY X.K G (λZ=>Ca Z/\Cb Z) λZ=>ga Z-gb Z):=Qy op_sub ha hb
theorem pC (ha:PE X a (lY X.K G Ca ga))(hb:PE X b (lY X.K G Cb gb)):PE X (.BinOp a .Mult b pos) (lY X.K G (λZ=>Ca Z/\Cb Z/\IntMulOk (ga Z) (gb Z)) λZ=>ga Z*gb Z):=Lh Fz ha hb
theorem m9 (ha:PE X a (lY X.K G Ca ga))(hb:PE X b (lY X.K G Cb gb)):PE X (.BinOp a .Mod b pos) (lY X.K G (λZ=>Ca Z/\Cb Z/\0<gb Z) λZ=>ga Z % gb Z):=Lh op_mod ha hb
theorem vV (ha:PE X a (lY X.K G Ca ga))(hb:PE X b (lY X.K G Cb gb)):PE X (.BinOp a .FloorDiv b pos) (lY X.K G (λZ=>Ca Z/\Cb Z/\RJ (ga Z) (gb Z)) λZ=>ga Z / gb Z):=Lh TX ha hb
theorem Kz (ha:PE X a (lY X.K G Ca ga))(hb:PE X b (lY X.K G Cb gb)):PE X (.BinOp a .Pow b pos) (lY X.K G (λZ=>Ca Z/\Cb Z/\CPow (ga Z) (gb Z)) λZ=>ga Z^(gb Z).toNat):=Lh op_pow ha hb
theorem vR (ha:PE X a (lY X.K G Ca ga)):PE X (.UnaryOp .USub a pos) (lY X.K G Ca λZ=>-ga Z):=
 uN (pe_un un_neg ha) λB _ _ Z O _ R c q=>⟨B,Z,O,R,c,λ_ H1 s1 a1=>⟨_,a1,q _ H1 s1 rfl⟩⟩
theorem yr {op:CmpOp}{p:Int->Int->Prop}[∀i j,Decidable (p i j)](ho:OpR X (compareOp op) (rI0 λi j=>.bl (decide (p i j))))(hm:behindInMarks op b=false)(ha:PE X a (lY X.K G Ca ga))(hb:PE X b (lY X.K G Cb gb)) :
  PT X (.Compare a [op] [b] pos) (vy X.K G (λZ=>Ca Z/\Cb Z) λZ=>p (ga Z) (gb Z)):=
 λpins s σ H Q I ⟨_,_,_,R,c,q⟩=>pt_cmpR ho ha hb hm pins s σ H Q I (two R c.1 c.2 λ_ _ _ H2 s1 s2 a1 a2=>⟨_,_,a1,a2,_,rfl,q H2 (s1.trans s2)⟩)
theorem Sg {op:CmpOp}{p:Int->Int->Prop}[∀i j,Decidable (p i j)](ho:OpR X (compareOp op) (rI0 λi j=>.bl (decide (p i j))))(hm:behindInMarks op b=false)(ha:PE X a (lY X.K G Ca ga))(hb:PE X b (lY X.K G Cb gb)) :
  PE X (.Compare a [op] [b] pos) (Qu X.K G (λZ=>Ca Z/\Cb Z) λZ=>p (ga Z) (gb Z)):=
 uN (pe_cmpR ho ha hb hm) λ_ _ _ _ _ _ R c q=>two R c.1 c.2 λ_ _ _ H2 s1 s2 a1 a2=>⟨_,_,a1,a2,q _ H2 (s1.trans s2) rfl⟩
theorem SQ (ha:PE X a (lY X.K G Ca ga))(hb:PE X b (lY X.K G Cb gb)):PT X (.Compare a [.Lt] [b] pos) (vy X.K G (λZ=>Ca Z/\Cb Z) λZ=>ga Z<gb Z):=yr op_lt (nomark _) ha hb
theorem aaC (ha:PE X a (lY X.K G Ca ga))(hb:PE X b (lY X.K G Cb gb)):PT X (.Compare a [.LtE] [b] pos) (vy X.K G (λZ=>Ca Z/\Cb Z) λZ=>ga Z<=gb Z):=yr op_le (nomark _) ha hb
theorem xF (ha:PE X a (lY X.K G Ca ga))(hb:PE X b (lY X.K G Cb gb)):PT X (.Compare a [.Gt] [b] pos) (vy X.K G (λZ=>Ca Z/\Cb Z) λZ=>gb Z<ga Z):=yr (p:=λi j=>j<i) op_gt (nomark _) ha hb
theorem Z8 (ha:PE X a (lY X.K G Ca ga))(hb:PE X b (lY X.K G Cb gb)):PT X (.Compare a [.GtE] [b] pos) (vy X.K G (λZ=>Ca Z/\Cb Z) λZ=>gb Z<=ga Z):=yr (p:=λi j=>j<=i) op_ge (nomark _) ha hb
theorem yR (ha:PE X a (lY X.K G Ca ga))(hb:PE X b (lY X.K G Cb gb)):PT X (.Compare a [.Eq] [b] pos) (vy X.K G (λZ=>Ca Z/\Cb Z) λZ=>ga Z=gb Z):=yr JW (nomark _) ha hb
theorem sH (ha:PE X a (lY X.K G Ca ga))(hb:PE X b (lY X.K G Cb gb)):PT X (.Compare a [.NotEq] [b] pos) (vy X.K G (λZ=>Ca Z/\Cb Z) λZ=>¬ga Z=gb Z):=yr (p:=λi j=>¬i=j) X3 (nomark _) ha hb
theorem Xr (ha:PE X a (lY X.K G Ca ga))(hb:PE X b (lY X.K G Cb gb)):PE X (.Compare a [.Lt] [b] pos) (Qu X.K G (λZ=>Ca Z/\Cb Z) λZ=>ga Z<gb Z):=Sg op_lt (nomark _) ha hb
theorem aaP (ha:PE X a (lY X.K G Ca ga))(hb:PE X b (lY X.K G Cb gb)):PE X (.Compare a [.Eq] [b] pos) (Qu X.K G (λZ=>Ca Z/\Cb Z) λZ=>ga Z=gb Z):=Sg JW (nomark _) ha hb
variable {pa pb:En->Prop}[∀Z,Decidable (pa Z)][∀Z,Decidable (pb Z)]{rest:List Expr}
theorem vZ (h:PE X e (Qu X.K G Ca pa))(he:∀whole,isTrue e X.env whole=(do let v <- whole;standAt e.pos;holding [v] (truthy v)):=by intro _;rfl):PT X e (vy X.K G Ca pa):=
 λpins s σ H Q I ⟨B,Z,O,R,c,q⟩=>pt_val h he pins s σ H Q I ⟨B,Z,O,R,c,λ_ H1 s1 a1=>⟨_,a1,q H1 s1⟩⟩
theorem nM (ha:PT X a (vy X.K G Ca pa)):PT X (.UnaryOp .Not a pos) (vy X.K G Ca λZ=>¬pa Z):=
 λpins s σ H Q I ⟨B,Z,O,R,c,q⟩=>L2.pt_not ha pins s σ H Q I ⟨B,Z,O,R,c,λH1 s1=>by have z:=q H1 s1;rw[iZ]at z;exact z⟩
theorem tD (ha:PT X a (vy X.K G Ca pa)):PW X (.BoolOp .Or [a] pos) (vy X.K G Ca pa):=pw_or1 ha
theorem uX (ha:PT X a (vy X.K G Ca pa)):PW X (.BoolOp .And [a] pos) (vy X.K G Ca pa):=pw_and1 ha
theorem qD (ha:PT X a (vy X.K G Ca pa))(hb:PW X (.BoolOp .Or (b::rest) pos) (vy X.K G Cb pb)):PW X (.BoolOp .Or (a::b::rest) pos) (vy X.K G (λZ=>Ca Z/\(¬pa Z->Cb Z)) λZ=>pa Z\/pb Z):=
 λwh pins s σ H Q I ⟨B,Z,O,R,c,q⟩=>pw_or ha hb wh pins s σ H Q I ⟨B,Z,O,R,c.1,λH1 s1=>by
  by_cases d:pa Z
  ·have z:=q H1 s1;rw[aL (Or.inl d:pa Z\/pb Z)]at z;rw[aL d];refine iteT ?_;exact z
  ·rw[aJ d];refine iteF ?_;refine⟨B,Z,O,R.grow s1,c.2 d,λH2 s2=>?_⟩;have z:=q H2 (s1.trans s2);have e:decide (pa Z\/pb Z)=decide (pb Z):=by simp[d]
   rw[e]at z;exact z⟩
theorem xY (ha:PT X a (vy X.K G Ca pa))(hb:PW X (.BoolOp .And (b::rest) pos) (vy X.K G Cb pb)):PW X (.BoolOp .And (a::b::rest) pos) (vy X.K G (λZ=>Ca Z/\(pa Z->Cb Z)) λZ=>pa Z/\pb Z):=
 λwh pins s σ H Q I ⟨B,Z,O,R,c,q⟩=>pw_and ha hb wh pins s σ H Q I ⟨B,Z,O,R,c.1,λH1 s1=>by
  by_cases d:pa Z
  ·rw[aL d];refine iteT ?_;refine⟨B,Z,O,R.grow s1,c.2 d,λH2 s2=>?_⟩;have z:=q H2 (s1.trans s2);have e:decide (pa Z/\pb Z)=decide (pb Z):=by simp[d]
   rw[e]at z;exact z
  ·have z:=q H1 s1;rw[aJ (λy=>d y.1:¬(pa Z/\pb Z))]at z;rw[aJ d];refine iteF ?_;exact z⟩
theorem YX (ha:PE X a (Qu X.K G Ca pa)):PE X (.UnaryOp .Not a pos) (Qu X.K G Ca λZ=>¬pa Z):=
 uN (pe_not ha) λB _ _ Z O _ R c q=>⟨B,Z,O,R,c,λ_ H1 s1 a1=>⟨_,a1,q _ H1 s1 (by rw[iZ];rfl)⟩⟩
theorem YJ (ha:PE X a (Qu X.K G Ca pa))(hb:PE X (.BoolOp .And (b::rest) pos) (Qu X.K G Cb pb)):PE X (.BoolOp .And (a::b::rest) pos) (Qu X.K G (λZ=>Ca Z/\(pa Z->Cb Z)) λZ=>pa Z/\pb Z):=
 uN (pe_and ha hb) λB _ _ Z O _ R c q=>⟨B,Z,O,R,c.1,λ_ H1 s1 a1=>⟨_,a1,by
  by_cases d:pa Z
  ·rw[aL d];refine iteT ?_;refine⟨B,Z,O,R.grow s1,c.2 d,λv H2 s2 a2=>q v H2 (s1.trans s2) ?_⟩;have e:decide (pa Z/\pb Z)=decide (pb Z):=by simp[d]
   rw[e];exact a2
  ·have z:=q (.bl false) H1 s1 (by rw[aJ (λy=>d y.1:¬(pa Z/\pb Z))];rfl);rw[aJ d];refine iteF ?_;exact z⟩⟩
variable {es:List Expr}{gs:En->List PV}
theorem jk:PA X [] (M7 X.K G (λ_=>True) λ_=>[]):=λpos pins s σ H Q I ⟨_,_,_,_,_,q⟩=>pa_nil pos pins s σ H Q I (q [] H (Same.refl H) rfl)
theorem jh (ha:PE X e (tX X.K G Ca g))(hr:PA X es (M7 X.K G Cb gs))(hs:starEach (e::es) X.env=(false,eval e X.env)::starEach es X.env:=by rfl):PA X (e::es) (M7 X.K G (λZ=>Ca Z/\Cb Z) λZ=>g Z::gs Z):=
 λpos pins s σ H Q I ⟨B,Z,O,R,c,q⟩=>pa_cons ha hr hs pos pins s σ H Q I ⟨B,Z,O,R,c.1,λv H1 s1 a1=>⟨B,Z,O,R.grow s1,c.2,λvs H2 s2 a2=>q _ H2 (s1.trans s2) ⟨v,vs,rfl,At.mono (kY s2) _ _ a1,a2⟩⟩⟩
end
structure Ps where
 nx:En->Prop
 rt:PV->Prop
 rl:List Int->Prop:=λ_=>False
 rn:PV->Prop:=λ_=>False
 bk:En->Prop:=λ_=>False
 ct:En->Prop:=λ_=>False
 er:Addr->Prop:=λ_=>False
abbrev ER:=Addr->Hp->Prop
abbrev ER0:ER:=λ_ _=>False
abbrev FS:=Ps->En->Prop
def wR (K:Fg)(G:Gx)(B:Bs)(σ:L2.St)(H:Hp)(Z:En):Prop:=∃O,Rep K G B σ H Z O
structure Owe (K:Fg)(G:Gx)(Er:ER)(B:Bs)(P:Ps)(D:Ends):Prop where
 nx:∀σ H Z,wR K G B σ H Z->P.nx Z->D.nx σ H
 rt:∀v H p,Same B.H0 H->At K G (mn H B.Oc) p v->P.rt p->D.rt v H
 rl:∀a H ns,Same B.H0 H->B.H0 a=none->H a=some (.lst (ns.map V.int))->P.rl ns->D.rt (.ref a) H
 rn:∀v H p,Same B.H0 H->At K G (mn H λa=>(B.H0 a).isSome) p v->P.rn p->D.rt v H
 bk:∀σ H Z,wR K G B σ H Z->P.bk Z->D.bk σ H
 ct:∀σ H Z,wR K G B σ H Z->P.ct Z->D.ct σ H
 er:∀H C,Same B.H0 H->P.er C->Er C H
def ts (K:Fg)(G:Gx)(Er:ER)(f:FS):TS:=λD σ H=>∃B Z P,wR K G B σ H Z/\f P Z/\Owe K G Er B P D
section
variable {X:Cx}{G:Gx}{Er:ER}{pos:Pos}{st:Stmt}{sts:List Stmt}{f f1 f2:FS}{C:En->Prop}{e:Expr}{t:TS}
theorem toS (h:PS X st t)(k:∀B σ H Z O P D,Rep X.K G B σ H Z O->f P Z->Owe X.K G Er B P D->t D σ H):PS X st (ts X.K G Er f):=
 λpins s σ H D I ⟨B,Z,P,⟨O,R⟩,c,w⟩=>h pins s σ H D I (k B σ H Z O P D R c w)
theorem kj:PSs X [] (ts X.K G Er λP Z=>P.nx Z):=λpins s σ H D I ⟨_,Z,_,R,c,w⟩=>pss_nil pins s σ H D I (w.nx σ H Z R c)
theorem jm (h:PS X st (ts X.K G Er f)):PSs X [st] (ts X.K G Er f):=pss_one h
theorem ji (h1:PS X st (ts X.K G Er f1))(h2:PSs X sts (ts X.K G Er f2)):PSs X (st::sts) (ts X.K G Er λP Z=>f1 { P with nx:=f2 P } Z):=
 λpins s σ H D I ⟨B,Z,P,R,c,w⟩=>pss_cons h1 h2 pins s σ H D I ⟨B,Z,{ P with nx:=f2 P },R,c,⟨λ_ _ Z' R' c'=>⟨B,Z',P,R',c',w⟩,w.rt,w.rl,w.rn,w.bk,w.ct,w.er⟩⟩
theorem Cm (h1:PS X st (ts X.K G Er f1))(h2:PSs X sts (ts X.K G Er f2)):PSs X (st::sts) (ts X.K G Er λP Z=>∃J:En->Prop,f1 { P with nx:=J } Z/\∀Z',J Z' -> f2 P Z'):=
 λpins s σ H D I ⟨B,Z,P,R,⟨J,c,k⟩,w⟩=>pss_cons h1 h2 pins s σ H D I ⟨B,Z,{ P with nx:=J },R,c,⟨λ_ _ Z' R' c'=>⟨B,Z',P,R',k Z' c',w⟩,w.rt,w.rl,w.rn,w.bk,w.ct,w.er⟩⟩
theorem lz (i:Nat)(h:PSs X sts (ts X.K G Er f)):PSs X sts (ts X.K G Er λP Z=>f P (frz Z i)):=
 λpins s σ H D I ⟨B,Z,P,⟨_,R⟩,c,w⟩=>h pins s σ H D I ⟨B,frz Z i,P,R.freeze i,c,w⟩
theorem DY:PS X st (ts X.K G Er λ_ _=>False):=toS ps_never λ_ _ _ _ _ _ _ _ c _=>c
theorem jx (h:PE X e (tX X.K G C g)):PS X (.Return (some e) pos) (ts X.K G Er λP Z=>C Z/\P.rt (g Z)):=
 toS (ps_ret h) λB _ _ Z O _ _ R c w=>⟨B,Z,O,R,c.1,λv H1 s1 a1=>w.rt v H1 _ (R.same.trans s1) (At.mono (ww R.hid) _ _ a1) c.2⟩
theorem mC (h:PE X e (Ef X.K G C g)):PS X (.Return (some e) pos) (ts X.K G Er λP Z=>C Z/\P.rl (g Z)):=
 toS (ps_ret h) λB _ _ Z O _ _ R c w=>⟨B,Z,O,R,c.1,λa H1 s1 n1 e1=>w.rl a H1 _ (R.same.trans s1) (R.same.free n1) e1 c.2⟩
theorem Az (i:Nat)(hN:X.N[i]?=some x:=by rfl)(hv:Vis X.env.scope x:=by first|exact Or.inl rfl|exact Or.inr (Or.inl rfl)|exact Or.inr (Or.inr rfl))
  (hd:(x == ("__debug__":Str))=false:=by decide) (hcd:(x == ("__classdict__":Str))=false:=by decide):PS X (.Return (some (.Name x px)) pos) (ts X.K G Er λP Z=>XH Z i/\P.rl (getL Z i)):=
 toS (ps_ret (pe_var hN hv hd hcd)) λB _ H Z O _ _ R c w=>by obtain⟨a,vs,e1,e2,e3,e4,e5⟩:=R.ow i _ c.1;subst e5;exact⟨_,e1,w.rl a H _ R.same e3 e4 c.2⟩
theorem Ga (hN:X.N.Nodup)(hi:X.N[i]?=some x)(hx:Loc X.env.scope x)(he:PE X e (tX X.K G C g))(hs:swapsWith e (some (.Name x pos')) pos.line X.env=pure false:=by rfl)
  (hf:X.fn x=true\/X.env.scope.names.lookup x=some .local:=by first|exact .inl rfl|exact .inr rfl|assumption):PS X (.Assign [.Name x pos'] e pos) (ts X.K G Er λP Z=>C Z/\P.nx (Z.set i (.fr (g Z)))):=
 toS (ps_set hN hi hx he hs hf) λB σ _ Z O _ _ R c w=>⟨B,Z,O,R,c.1,λ_ H1 s1 a1=>w.nx _ H1 _ ⟨O,(R.grow s1).set a1⟩ c.2⟩
theorem mV (hN:X.N.Nodup)(hi:X.N[i]?=some x)(hx:Loc X.env.scope x)(he:PE X e (tX X.K G C g))(hs:swapsWith e (some (.Name x pos')) pos.line X.env=pure false:=by rfl)
  (hf:X.fn x=true\/X.env.scope.names.lookup x=some .local:=by first|exact .inl rfl|exact .inr rfl|assumption):PS X (.Assign [.Name x pos'] e pos) (ts X.K G Er λP Z=>C Z/\∀p,p=g Z->P.nx (Z.set i (.fr p))):=
 toS (Ga hN hi hx he hs hf) λB σ _ Z O P D R c w=>⟨B,Z,P,⟨O,R⟩,⟨c.1,c.2 _ rfl⟩,w⟩
theorem jA (hN:X.N.Nodup)(hi:X.N[i]?=some x)(hx:Loc X.env.scope x)(he:PE X e (lY X.K G C g))(hs:swapsWith e (some (.Name x pos')) pos.line X.env=pure false:=by rfl)
  (hf:X.fn x=true\/X.env.scope.names.lookup x=some .local:=by first|exact .inl rfl|exact .inr rfl|assumption):PS X (.Assign [.Name x pos'] e pos) (ts X.K G Er λP Z=>C Z/\∀n,n=g Z->P.nx (Z.set i (.fr (.int n)))):=
 toS (Ga hN hi hx he hs hf) λB σ _ Z O P D R c w=>⟨B,Z,P,⟨O,R⟩,⟨c.1,c.2 _ rfl⟩,w⟩
theorem jC (hN:X.N.Nodup)(hi:X.N[i]?=some x)(hx:Loc X.env.scope x)(he:PE X e (Ld X.K G C g))(hs:swapsWith e (some (.Name x pos')) pos.line X.env=pure false:=by rfl)
  (hf:X.fn x=true\/X.env.scope.names.lookup x=some .local:=by first|exact .inl rfl|exact .inr rfl|assumption):PS X (.Assign [.Name x pos'] e pos) (ts X.K G Er λP Z=>C Z/\∀ns,ns=g Z->P.nx (Z.set i (.fr (.ints ns)))):=
 toS (Ga hN hi hx he hs hf) λB σ _ Z O P D R c w=>⟨B,Z,P,⟨O,R⟩,⟨c.1,c.2 _ rfl⟩,w⟩
theorem tE (hN:X.N.Nodup)(hi:X.N[i]?=some x)(hx:Loc X.env.scope x)(he:PE X e (Ef X.K G C g))(hs:swapsWith e (some (.Name x pos')) pos.line X.env=pure false:=by rfl)
  (hf:X.fn x=true\/X.env.scope.names.lookup x=some .local:=by first|exact .inl rfl|exact .inr rfl|assumption):PS X (.Assign [.Name x pos'] e pos) (ts X.K G Er λP Z=>C Z/\∀ns,ns=g Z->P.nx (Z.set i (.ow (.ints ns)))):=
 toS (ps_set hN hi hx he hs hf) λB σ _ Z O _ _ R c w=>⟨B,Z,O,R,c.1,λa H1 s1 n1 e1=>w.nx _ H1 _ ⟨hide a O,R.new (p:=.ints (g Z)) s1 n1 e1 rfl⟩ (c.2 _ rfl)⟩
theorem t7 (hN:X.N.Nodup)(hi:X.N[i]?=some x)(hx:Loc X.env.scope x)(he:PE X e (yL X.K G C g))(hs:swapsWith e (some (.Name x pos')) pos.line X.env=pure false:=by rfl)
  (hf:X.fn x=true\/X.env.scope.names.lookup x=some .local:=by first|exact .inl rfl|exact .inr rfl|assumption):PS X (.Assign [.Name x pos'] e pos) (ts X.K G Er λP Z=>C Z/\∀ns,ns=g Z->P.nx (Z.set i (.ow (.lst ns)))):=
 toS (ps_set hN hi hx he hs hf) λB σ _ Z O _ _ R c w=>⟨B,Z,O,R,c.1,λa vs H1 s1 n1 e1 al=>w.nx _ H1 _ ⟨hide a O,R.new (p:=.lst (g Z)) s1 n1 e1 al⟩ (c.2 _ rfl)⟩
theorem zE {i:Nat}{op:Operator}{g:En->Int}{Pr:Int->Int->Prop}{h:Int->Int->Int}(hN:X.N.Nodup)(hi:X.N[i]?=some x)(hx:Loc X.env.scope x)(he:PE X e (lY X.K G C g))(ho:OpR X (inplaceOp op) (rI Pr λi j=>.int (h i j)))
  (hf:X.fn x=true\/X.env.scope.names.lookup x=some .local:=by first|exact .inl rfl|exact .inr rfl|assumption):PS X (.AugAssign (.Name x pos') op e pos) (ts X.K G Er λP Z=>isI Z i/\C Z/\Pr (Dc Z i) (g Z)/\∀n,n=h (Dc Z i) (g Z)->P.nx (Z.set i (.fr (.int n)))):=
 toS (ps_aug hN hi hx he ho hf) λB σ H Z O _ _ R c w=>by obtain⟨c0,c1,c2,c3⟩:=c;obtain⟨v,e1,e2⟩:=R.fr i _ c0;subst e2;exact⟨_,e1,B,Z,O,R,c1,λy H1 s1 a1=>⟨_,_,rfl,a1,c2,w.nx _ H1 _ ⟨O,(R.grow s1).set (p:=.int _) rfl⟩ (c3 _ rfl)⟩⟩
theorem lJ [∀Z,Decidable (p Z)](hc:PT X c (vy X.K G C p))(ha:PSs X a (ts X.K G Er f1))(hb:PSs X b (ts X.K G Er f2)):PS X (.If c a b pos) (ts X.K G Er λP Z=>C Z/\(p Z->f1 P Z)/\(¬p Z->f2 P Z)):=
 toS (ps_if hc ha hb) λB σ _ Z O P D R c w=>⟨B,Z,O,R,c.1,λH1 s1=>by
  by_cases d:p Z
  ·rw[aL d];refine iteT ?_;exact⟨B,Z,P,⟨O,R.grow s1⟩,c.2.1 d,w⟩
  ·rw[aJ d];refine iteF ?_;exact⟨B,Z,P,⟨O,R.grow s1⟩,c.2.2 d,w⟩⟩
theorem nF [∀Z,Decidable (p Z)](hp:PassesOwn (model X.prog X.w) X.A X.env X.xe)(hc:PT X c (vy X.K G C p))(hb:PSs X body (ts X.K G Er f)) :
  PS X (.While c body [] pos) (ts X.K G Er λP Z=>∃(W:En->Prop) (μ:En->Nat),W Z/\∀Z,W Z->C Z/\(p Z->f { P with nx:=λZ'=>W Z'/\μ Z'<μ Z,ct:=λZ'=>W Z'/\μ Z'<μ Z,bk:=P.nx } Z)/\(¬p Z->P.nx Z)):=
 toS (ps_while hp hc hb) λB σ H Z O P D R c w=>by
  obtain⟨W,μ,w0,st⟩:=c;refine⟨λm σ H=>∃Z,wR X.K G B σ H Z/\W Z/\m=μ Z,⟨μ Z,Z,⟨O,R⟩,w0,rfl⟩,?_⟩;rintro m σ H ⟨Z,⟨O,R⟩,hw,rfl⟩;obtain⟨c1,c2,c3⟩:=st Z hw;refine⟨B,Z,O,R,c1,λH1 s1=>?_⟩;by_cases d:p Z
  ·rw[aL d];refine iteT ?_;refine⟨λσ' H'=>∃Z',wR X.K G B σ' H' Z'/\W Z'/\μ Z'<μ Z,λσ' H' ⟨Z',R',h1,h2⟩=>⟨_,h2,Z',R',h1,rfl⟩,B,Z,_,⟨O,R.grow s1⟩,c2 d,⟨λσ' H' Z' R' h=>⟨Z',R',h⟩,w.rt,w.rl,w.rn,w.nx,λσ' H' Z' R' h=>⟨Z',R',h⟩,w.er⟩⟩
  ·rw[aJ d];refine iteF ?_;exact w.nx σ H1 Z ⟨O,R.grow s1⟩ (c3 d)
theorem pR (hp:PassesOwn (model X.prog X.w) X.A X.env X.xe)(hc:X.calm=true)(hg:Gl X "range")(hm:X.mg "range"=none)(ha:PE X a (lY X.K G C g))(hN:X.N.Nodup)(hi:X.N[k]?=some x)(hx:Loc X.env.scope x)
  (hb:PSs X body (ts X.K G Er f)) (hs:starEach [a] X.env=[(false,eval a X.env)]:=by rfl) (hfs:∀x,foldedSetIterable (.Call (.Name "range" p) [a] [] pos') X.env x=pure x:=by intro _;rfl)
  (hf:X.fn x=true\/X.env.scope.names.lookup x=some .local:=by first|exact .inl rfl|exact .inr rfl|assumption) :
  PS X (.For (.Name x px) (.Call (.Name "range" p) [a] [] pos') body [] pos) (ts X.K G Er λP Z=>C Z/\(-(2^62)<=g Z/\g Z<2^62)/\∃W:Nat->En->Prop,W 0 Z/\(∀i Z',i<(g Z).toNat->W i Z' -> f { P with nx:=W (i+1),ct:=W (i+1),bk:=P.nx } (Z'.set k (.fr (.int i))))/\∀Z',W (g Z).toNat Z' -> P.nx Z'):=
 toS (ps_for hp hc (pi_range1 hg hm (pa_cons ha pa_nil hs) hs) (pg_name hN hi hx hf) hb hfs) λB σ H Z O P D R c w=>by
  obtain⟨c1,⟨l1,l2⟩,W,w0,st,nd⟩:=c;refine⟨B,Z,O,R,c1,λv H1 s1 a1=>?_⟩;subst a1;refine⟨g Z,rfl,l1,l2,for_range (λi σ H=>∃Z',wR X.K G B σ H Z'/\W i Z') ⟨Z,⟨O,R.grow s1⟩,w0⟩ ?_ ?_⟩
  ·rintro i σ H hi ⟨Z',⟨O',R'⟩,hw⟩;have e:(0:Int)+i=i:=by lia
   rw[e];exact⟨B,_,_,⟨O',R'.set (p:=.int i) rfl⟩,st i Z' hi hw,⟨λσ' H' Z' R' h=>⟨Z',R',h⟩,w.rt,w.rl,w.rn,w.nx,λσ' H' Z' R' h=>⟨Z',R',h⟩,w.er⟩⟩
  ·rintro σ H ⟨Z',R',hw⟩;exact w.nx σ H Z' R' (nd Z' hw)
theorem Qj (hp:PassesOwn (model X.prog X.w) X.A X.env X.xe)(hc:X.calm=true)(hg:Gl X "range")(hm:X.mg "range"=none)(ha:PE X a (lY X.K G C g))(hb':PE X b (lY X.K G Cb h))(hN:X.N.Nodup)(hi:X.N[k]?=some x)(hx:Loc X.env.scope x)
  (hb:PSs X body (ts X.K G Er f)) (hs:starEach [a,b] X.env=[(false,eval a X.env),(false,eval b X.env)]:=by rfl) (hs2:starEach [b] X.env=[(false,eval b X.env)]:=by rfl) (hfs:∀x,foldedSetIterable (.Call (.Name "range" p) [a,b] [] pos') X.env x=pure x:=by intro _;rfl)
  (hf:X.fn x=true\/X.env.scope.names.lookup x=some .local:=by first|exact .inl rfl|exact .inr rfl|assumption) :
  PS X (.For (.Name x px) (.Call (.Name "range" p) [a,b] [] pos') body [] pos) (ts X.K G Er λP Z=>(C Z/\Cb Z)/\(-(2^62)<=g Z/\g Z<2^62 /\ -(2^62)<=h Z/\h Z<2^62) /\
   ∃W:Nat->En->Prop,W 0 Z/\(∀i Z',i<(h Z-g Z).toNat->W i Z' -> f { P with nx:=W (i+1),ct:=W (i+1),bk:=P.nx } (Z'.set k (.fr (.int (g Z+i)))))/\∀Z',W (h Z-g Z).toNat Z' -> P.nx Z'):=
 toS (ps_for hp hc (pi_range2 hg hm (pa_cons ha (pa_cons hb' pa_nil hs2) (by rw[hs,hs2])) hs hs2) (pg_name hN hi hx hf) hb hfs) λB σ H Z O P D R c w=>by
  obtain⟨⟨c1,c2⟩,l,W,w0,st,nd⟩:=c;refine⟨B,Z,O,R,c1,λv H1 s1 a1=>⟨B,Z,O,R.grow s1,c2,λu H2 s2 a2=>?_⟩⟩;subst a1 a2;refine⟨g Z,h Z,rfl,l,for_range (λi σ H=>∃Z',wR X.K G B σ H Z'/\W i Z') ⟨Z,⟨O,(R.grow s1).grow s2⟩,w0⟩ ?_ ?_⟩
  ·rintro i σ H hi ⟨Z',⟨O',R'⟩,hw⟩;exact⟨B,_,_,⟨O',R'.set (p:=.int _) rfl⟩,st i Z' hi hw,⟨λσ' H' Z' R' h=>⟨Z',R',h⟩,w.rt,w.rl,w.rn,w.nx,λσ' H' Z' R' h=>⟨Z',R',h⟩,w.er⟩⟩
  ·rintro σ H ⟨Z',R',hw⟩;exact w.nx σ H Z' R' (nd Z' hw)
theorem rT {B:Bs}{σ:L2.St}{H:Hp}{Z:En}{O:Addr->Bool}{K:Fg}{P:Ps}{D:Ends}(R:Rep K G B σ H Z O)(w:Owe K G Er B P D):Owe K G Er (B.at H O) P D:=
 ⟨λσ' H' Z' ⟨O',R'⟩ h=>w.nx σ' H' Z' ⟨O',R.JM R'⟩ h,λv H' p s a h=>w.rt v H' p (R.n6.trans s) a h,λa H' ns s n e h=>w.rl a H' ns (R.n6.trans s) (R.n6.free n) e h,λv H' p s a h=>w.rn v H' p (R.n6.trans s) (At.mono (ww λb z=>by
  obtain⟨o,e⟩:=cQ.mp z;exact cQ.mpr (R.n6 _ _ e).some) _ _ a) h,λσ' H' Z' ⟨O',R'⟩ h=>w.bk σ' H' Z' ⟨O',R.JM R'⟩ h,λσ' H' Z' ⟨O',R'⟩ h=>w.ct σ' H' Z' ⟨O',R.JM R'⟩ h,λH' C s h=>w.er H' C (R.n6.trans s) h⟩
theorem Ci {k:Nat}{x:Str}{l:Expr}{body:List Stmt}{g:En->List Int}{px:Pos}(hp:PassesOwn (model X.prog X.w) X.A X.env X.xe)(hc:X.calm=true)(hl:PE X l (Ld X.K G C g))(hN:X.N.Nodup)(hi:X.N[k]?=some x)(hx:Loc X.env.scope x)
  (hb:PSs X body (ts X.K G Er f)) (hfs:∀x,foldedSetIterable l X.env x=pure x:=by intro _;rfl) (hf:X.fn x=true\/X.env.scope.names.lookup x=some .local:=by first|exact .inl rfl|exact .inr rfl|assumption) :
  PS X (.For (.Name x px) l body [] pos) (ts X.K G Er λP Z=>C Z/\∃W:Nat->En->Prop,W 0 Z/\(∀i n Z',(g Z)[i]?=some n->W i Z' -> f { P with nx:=W (i+1),ct:=W (i+1),bk:=P.nx } (Z'.set k (.fr (.int n))))/\∀Z',W (g Z).length Z' -> P.nx Z'):=
 toS (ps_for hp hc (pi_list hl) (pg_name hN hi hx hf) hb hfs) λB σ H Z O P D R c w=>by
  obtain⟨c1,W,w0,st,nd⟩:=c;refine⟨B,Z,O,R,c1,λv H1 s1 a1=>?_⟩;obtain⟨a,e,hq⟩:=a1;have R1:=R.grow s1;have w1:=rT R1 w;refine⟨a,e,⟨_,.inl (jy jQ hq)⟩,for_list (xs:=(g Z).map V.int) (λi σ H=>∃Z',wR X.K G (B.at H1 O) σ H Z'/\W i Z') ⟨Z,⟨O,R1.rebase⟩,w0⟩ ?_ ?_ ?_⟩
  ·rintro i σ H _ ⟨Z',⟨O',R'⟩,_⟩;exact .inl (jy ((Rep.uY B H1 O).trans R'.same) hq)
  ·rintro i y σ H hy ⟨Z',⟨O',R'⟩,hw⟩;rw[ao]at hy;cases en:(g Z)[i]? with
   |none=>rw[en]at hy;cases hy
   |some n=>rw[en]at hy;have hy:V.int n=y:=aF hy;subst hy;exact⟨_,_,_,⟨O',R'.set (p:=.int n) rfl⟩,st i n Z' en hw,⟨λσ' H' Z' R' h=>⟨Z',R',h⟩,w1.rt,w1.rl,w1.rn,w1.nx,λσ' H' Z' R' h=>⟨Z',R',h⟩,w1.er⟩⟩
  ·rintro σ H ⟨Z',R',hw⟩;rw[aa]at hw;exact w1.nx σ H Z' R' (nd Z' hw)
theorem xm {k:Nat}{x:Str}{l:Expr}{body:List Stmt}{g:En->List PV}{px:Pos}(hp:PassesOwn (model X.prog X.w) X.A X.env X.xe)(hc:X.calm=true)(hl:PE X l (tX X.K G C λZ=>.lst (g Z)))(hN:X.N.Nodup)(hi:X.N[k]?=some x)(hx:Loc X.env.scope x)
  (hb:PSs X body (ts X.K G Er f)) (hfs:∀x,foldedSetIterable l X.env x=pure x:=by intro _;rfl) (hf:X.fn x=true\/X.env.scope.names.lookup x=some .local:=by first|exact .inl rfl|exact .inr rfl|assumption) :
  PS X (.For (.Name x px) l body [] pos) (ts X.K G Er λP Z=>C Z/\∃W:Nat->En->Prop,W 0 Z/\(∀i n Z',(g Z)[i]?=some n->W i Z' -> f { P with nx:=W (i+1),ct:=W (i+1),bk:=P.nx } (Z'.set k (.fr n)))/\∀Z',W (g Z).length Z' -> P.nx Z'):=
 toS (ps_for hp hc (pi_list hl) (pg_name hN hi hx hf) hb hfs) λB σ H Z O P D R c w=>by
  obtain⟨c1,W,w0,st,nd⟩:=c;refine⟨B,Z,O,R,c1,λv H1 s1 a1=>?_⟩;obtain⟨a,vs,e,hq,hal⟩:=a1;have R1:=R.grow s1;have w1:=rT R1 w;have el:=hal.length;refine⟨a,e,⟨_,.inl (jy jQ hq)⟩,for_list (xs:=vs) (λi σ H=>∃Z',wR X.K G (B.at H1 O) σ H Z'/\W i Z') ⟨Z,⟨O,R1.rebase⟩,w0⟩ ?_ ?_ ?_⟩
  ·rintro i σ H _ ⟨Z',⟨O',R'⟩,_⟩;exact .inl (jy ((Rep.uY B H1 O).trans R'.same) hq)
  ·rintro i y σ H hy ⟨Z',⟨O',R'⟩,hw⟩;obtain⟨n,en,an⟩:=hal.get hy;exact⟨_,_,_,⟨O',R'.set (At.mono (R1.seen R') _ _ an)⟩,st i n Z' en hw,⟨λσ' H' Z' R' h=>⟨Z',R',h⟩,w1.rt,w1.rl,w1.rn,w1.nx,λσ' H' Z' R' h=>⟨Z',R',h⟩,w1.er⟩⟩
  ·rintro σ H ⟨Z',R',hw⟩;rw[<- el]at hw;exact w1.nx σ H Z' R' (nd Z' hw)
theorem wG {k j:Nat}{x y:Str}{l:Expr}{body:List Stmt}{g:En->List Int}{px py p pos' tp:Pos}{kk:Nat}(hp:PassesOwn (model X.prog X.w) X.A X.env X.xe)(hc:X.calm=true)(hg:Gl X "enumerate")(hm:X.mg "enumerate"=none)(hl:PE X l (Ld X.K G C g))
  (hgt:PG X (.Tuple [.Name x px,.Name y py] kk tp) (gTup X.K 2 (gCons (gName k) (gCons (gName j) gNil)))) (hb:PSs X body (ts X.K G Er f)) (hs:starEach [l] X.env=[(false,eval l X.env)]:=by rfl)
  (hfs:∀x,foldedSetIterable (.Call (.Name "enumerate" p) [l] [] pos') X.env x=pure x:=by intro _;rfl) :
  PS X (.For (.Tuple [.Name x px,.Name y py] kk tp) (.Call (.Name "enumerate" p) [l] [] pos') body [] pos) (ts X.K G Er λP Z=>C Z/\∃W:Nat->En->Prop,W 0 Z /\
   (∀i n Z',(g Z)[i]?=some n->W i Z' -> f { P with nx:=W (i+1),ct:=W (i+1),bk:=P.nx } ((Z'.set k (.fr (.int i))).set j (.fr (.int n))))/\∀Z',W (g Z).length Z' -> P.nx Z'):=
 toS (ps_for hp hc (zr hg hm (pa_cons hl pa_nil hs) hs) hgt hb hfs) λB σ H Z O P D R c w=>by
  obtain⟨c1,W,w0,st,nd⟩:=c;refine⟨B,Z,O,R,c1,λv H1 s1 a1=>?_⟩;obtain⟨a,e,hq⟩:=a1;subst e;have R1:=R.grow s1;have w1:=rT R1 w;refine⟨a,rfl,⟨_,.inl (jy jQ hq)⟩,I9 (xs:=(g Z).map V.int) (λi σ H=>∃Z',wR X.K G (B.at H1 O) σ H Z'/\W i Z') ⟨Z,⟨O,R1.rebase⟩,w0⟩ ?_ ?_ ?_⟩
  ·rintro i σ H _ ⟨Z',⟨O',R'⟩,_⟩;exact .inl (jy ((Rep.uY B H1 O).trans R'.same) hq)
  ·rintro i y σ H T hy ⟨Z',⟨O',R'⟩,hw⟩ hT;obtain⟨n,rfl,en⟩:=int_at hy;refine⟨T,_,rfl,SqT.of upd_same,rfl,_,_,rfl,_,_,rfl,rfl,?_⟩;exact⟨_,_,_,⟨O',((R'.grow (same_new hT _)).set (p:=.int i) rfl).set (p:=.int n) rfl⟩,st i n Z' en hw,⟨λσ' H' Z' R' h=>⟨Z',R',h⟩,w1.rt,w1.rl,w1.rn,w1.nx,λσ' H' Z' R' h=>⟨Z',R',h⟩,w1.er⟩⟩
  ·rintro σ H ⟨Z',R',hw⟩;rw[aa]at hw;exact w1.nx σ H Z' R' (nd Z' hw)
theorem Tg {k:Nat}{x:Str}{l:Expr}{body:List Stmt}{g:En->List Int}{px p pos':Pos}(hp:PassesOwn (model X.prog X.w) X.A X.env X.xe)(hc:X.calm=true)(hg:Gl X "reversed")(hm:X.mg "reversed"=none)(hl:PE X l (Ld X.K G C g))(hN:X.N.Nodup)(hi:X.N[k]?=some x)(hx:Loc X.env.scope x)
  (hb:PSs X body (ts X.K G Er f)) (hs:starEach [l] X.env=[(false,eval l X.env)]:=by rfl) (hfs:∀x,foldedSetIterable (.Call (.Name "reversed" p) [l] [] pos') X.env x=pure x:=by intro _;rfl) (hf:X.fn x=true\/X.env.scope.names.lookup x=some .local:=by first|exact .inl rfl|exact .inr rfl|assumption) :
  PS X (.For (.Name x px) (.Call (.Name "reversed" p) [l] [] pos') body [] pos) (ts X.K G Er λP Z=>C Z/\∃W:Nat->En->Prop,W 0 Z /\
   (∀i n Z',i<(g Z).length->(g Z)[(g Z).length-1-i]?=some n->W i Z' -> f { P with nx:=W (i+1),ct:=W (i+1),bk:=P.nx } (Z'.set k (.fr (.int n))))/\∀Z',W (g Z).length Z' -> P.nx Z'):=
 toS (ps_for hp hc (Zo hg hm (pa_cons hl pa_nil hs) hs) (pg_name hN hi hx hf) hb hfs) λB σ H Z O P D R c w=>by
  obtain⟨c1,W,w0,st,nd⟩:=c;refine⟨B,Z,O,R,c1,λv H1 s1 a1=>?_⟩;obtain⟨a,e,hq⟩:=a1;subst e;have R1:=R.grow s1;have w1:=rT R1 w;refine⟨a,(g Z).map V.int,rfl,.inl (jy jQ hq),Xd (xs:=(g Z).map V.int) (λi σ H=>∃Z',wR X.K G (B.at H1 O) σ H Z'/\W i Z') ⟨Z,⟨O,R1.rebase⟩,w0⟩ ?_ ?_ ?_⟩
  ·rintro i σ H _ ⟨Z',⟨O',R'⟩,_⟩;exact .inl (jy ((Rep.uY B H1 O).trans R'.same) hq)
  ·rintro i y σ H hlt hy ⟨Z',⟨O',R'⟩,hw⟩;obtain⟨n,rfl,en⟩:=int_at hy;rw[aa]at hlt en;exact⟨_,_,_,⟨O',R'.set (p:=.int n) rfl⟩,st i n Z' hlt en hw,⟨λσ' H' Z' R' h=>⟨Z',R',h⟩,w1.rt,w1.rl,w1.rn,w1.nx,λσ' H' Z' R' h=>⟨Z',R',h⟩,w1.er⟩⟩
  ·rintro σ H ⟨Z',R',hw⟩;rw[aa]at hw;exact w1.nx σ H Z' R' (nd Z' hw)
end
theorem getD_at {ns:Li}{i:Int}(h1:-(ns.length:Int)<=i)(h2:i<ns.length):atI (ns.map V.int) i=some (V.int (ns.getD (if 0<=i then i else i+ns.length).toNat 0)):=by
 by_cases c0:0<=i
 ·rw[af c0];exact zy c0 h2
 ·rw[ae c0];have q2:=zy (ns:=ns) (i:=i+ns.length) (by lia) (by lia);unfold atI ixN at q2 ⊢;rw[aa]at q2 ⊢;rw[af (show 0<=i+(ns.length:Int) by lia),af (show i+(ns.length:Int)<(ns.length:Int) by lia)]at q2;rw[ae c0,af h1];exact q2
def jZ (n:Nat)(i:Int):Nat:=(if 0<=i then i else i+n).toNat
theorem Fe {n:Nat}(h1:-(n:Int)<=i)(h2:i<n):ixN n i=some (jZ n i):=by
 unfold ixN jZ;by_cases c:0<=i
 ·rw[af c,af h2,af c]
 ·rw[ae c,af h1,ae c]
theorem Y6 {n:Nat}(h1:-(n:Int)<=i)(h2:i<n):jZ n i<n:=by
 unfold jZ;by_cases c:0<=i
 ·rw[af c];lia
 ·rw[ae c];lia
section
variable {X:Cx}{G:Gx}{Er:ER}{a b e:Expr}{pos p px:Pos}{C Ca Cb:En->Prop}{ga gb:En->Int}{i:Nat}{es:List Expr}
theorem lL (i:Nat)(hb:PE X b (lY X.K G Cb gb))(hs:PlainIx b)(hN:X.N[i]?=some x:=by rfl)(hv:Vis X.env.scope x:=by first|exact Or.inl rfl|exact Or.inr (Or.inl rfl)|exact Or.inr (Or.inr rfl))
  (hd:(x == ("__debug__":Str))=false:=by decide) (hcd:(x == ("__classdict__":Str))=false:=by decide) :
  PE X (.Subscript (.Name x px) b pos) (lY X.K G (λZ=>KH Z i/\Cb Z /\ -((getL Z i).length:Int)<=gb Z/\gb Z<((getL Z i).length:Int)) λZ=>(getL Z i).getD (jZ (getL Z i).length (gb Z)) 0):=
 uN (pe_ix ix_list (pe_var hN hv hd hcd) hb hs) λB σ H Z O Q R c q=>by obtain⟨a,e1,e2⟩:=R.S9 c.1;exact⟨_,e1,B,Z,O,R,c.2.1,λu H1 s1 a1=>⟨a,_,_,_,rfl,a1,s1.seq e2,getD_at c.2.2.1 c.2.2.2,q _ H1 s1 rfl⟩⟩
theorem jU (i:Nat)(hm:X.mg "len"=none)(hN:X.N[i]?=some x:=by rfl)(hg:Gl X "len":=by rfl)(hv:Vis X.env.scope x:=by first|exact Or.inl rfl|exact Or.inr (Or.inl rfl)|exact Or.inr (Or.inr rfl))
  (hd:(x == ("__debug__":Str))=false:=by decide) (hcd:(x == ("__classdict__":Str))=false:=by decide) (he:starEach [.Name x px] X.env=[(false,eval (.Name x px) X.env)]:=by rfl) :
  PE X (.Call (.Name "len" p) [.Name x px] [] pos) (lY X.K G (λZ=>KH Z i) λZ=>((getL Z i).length:Int)):=
 uN (pe_callB call_len_seq hg hm Ku (pa_cons (pe_var hN hv hd hcd) pa_nil he) (by decide) (by decide) he rfl) λB σ H Z O Q R c q=>by obtain⟨a,e1,e2⟩:=R.S9 c;exact⟨_,e1,a,_,rfl,.inl e2,by rw[aa];exact q _ H (Same.refl H) rfl⟩
def Ve:PV->Int
 | .ints ns=>(ns.length:Int)
 | .scr ns=>(ns.length:Int)
 | .lst xs=>(xs.length:Int)
 | .tup xs=>(xs.length:Int)
 |_=>0
def JV:PV->Prop
 | .ints _=>True
 | .scr _=>True
 | .lst _=>True
 | .tup _=>True
 |_=>False
theorem At.len {K:Fg}{H:Hp}{p:PV}{v:V}(h:At K G H p v)(hl:JV p):∃a ys,v=.ref a/\(SqL K H a ys\/SqT K H a ys)/\(ys.length:Int)=Ve p:=by
 cases p<;>first|exact hl.elim|skip
 ·obtain⟨a,e,q⟩:=h;exact⟨a,_,e,.inl (.inl q),by rw[aa];rfl⟩
 ·obtain⟨a,e,q⟩:=h;exact⟨a,_,e,.inl q,by rw[aa];rfl⟩
 ·obtain⟨a,vs,e,q,r⟩:=h;exact⟨a,vs,e,.inl (.inl q),by rw[<- r.length];rfl⟩
 ·obtain⟨a,vs,e,q,r⟩:=h;exact⟨a,vs,e,.inr (SqT.of q),by rw[<- r.length];rfl⟩
theorem lZ {g:En->PV}(hm:X.mg "len"=none)(ha:PE X a (tX X.K G C g))(hg:Gl X "len":=by rfl)(he:starEach [a] X.env=[(false,eval a X.env)]:=by rfl) :
  PE X (.Call (.Name "len" p) [a] [] pos) (lY X.K G (λZ=>C Z/\JV (g Z)) λZ=>Ve (g Z)):=
 uN (pe_callB call_len_seq hg hm Ku (pa_cons ha pa_nil he) (by decide) (by decide) he rfl) λB σ H Z O Q R c q=>⟨B,Z,O,R,c.1,λv H1 s1 a1=>by
  obtain⟨a,ys,e,s,l⟩:=a1.len c.2;exact⟨a,ys,by rw[e],s.imp (λz=>jQ.seq z) (λz=>Iz jQ z),by rw[l];exact q _ H1 s1 rfl⟩⟩
def jV:PV->Int->PV
 | .lst xs,k=>xs.getD (jZ xs.length k) .non
 | .tup xs,k=>xs.getD (jZ xs.length k) .non
 | .ints ns,k=>.int (ns.getD (jZ ns.length k) 0)
 |_,_=>.non
def lR:PV->Int->Prop
 | .lst xs,k=>-(xs.length:Int)<=k/\k<xs.length
 | .tup xs,k=>-(xs.length:Int)<=k/\k<xs.length
 | .ints xs,k=>-(xs.length:Int)<=k/\k<xs.length
 |_,_=>False
theorem lX.item {K:Fg}{H:Hp}{ps:List PV}{vs:List V}{k:Int}(h:lX K G H ps vs)(h1:-(ps.length:Int)<=k)(h2:k<ps.length):∃v,atI vs k=some v/\At K G H (ps.getD (jZ ps.length k) .non) v:=by
 have l:=Y6 h1 h2;have e:ps[jZ ps.length k]?=some (ps.getD (jZ ps.length k) .non):=by rw[gQ,ac l];rfl
 obtain⟨v,ev,av⟩:=h.at e;refine⟨v,?_,av⟩;unfold atI;rw[<- h.length,Fe h1 h2];exact ev
theorem ju {g:En->PV}(ha:PE X a (tX X.K G Ca g))(hb:PE X b (lY X.K G Cb gb))(hs:PlainIx b):PE X (.Subscript a b pos) (tX X.K G (λZ=>Ca Z/\Cb Z/\lR (g Z) (gb Z)) λZ=>jV (g Z) (gb Z)):=
 uN (pe_ix ix_seq ha hb hs) λB σ H Z O Q R c q=>two R c.1 c.2.1 λv u H1 H2 s1 s2 a1 a2=>by
  have h:=c.2.2;revert a1 h q;generalize g Z=pg;intro q a1 h;cases pg<;>first|exact h.elim|skip
  ·obtain⟨p,e,r⟩:=a1;exact .inl ⟨p,_,_,_,e,a2,.inl (jy jQ r),getD_at h.1 h.2,q _ H2 (s1.trans s2) rfl⟩
  ·obtain⟨p,vs,e,r,t⟩:=a1;obtain⟨v',e',a'⟩:=t.item h.1 h.2;exact .inl ⟨p,vs,_,v',e,a2,.inl (jy jQ r),e',q _ H2 (s1.trans s2) a'⟩
  ·obtain⟨p,vs,e,r,t⟩:=a1;obtain⟨v',e',a'⟩:=t.item h.1 h.2;exact .inr (.inl ⟨p,vs,_,v',e,a2,SqT.of (jQ _ _ r),e',q _ H2 (s1.trans s2) a'⟩)
theorem zJ (i:Nat)(hN:X.N[i]?=some x:=by rfl)(hv:Vis X.env.scope x:=by first|exact Or.inl rfl|exact Or.inr (Or.inl rfl)|exact Or.inr (Or.inr rfl))
  (hd:(x == ("__debug__":Str))=false:=by decide) (hcd:(x == ("__classdict__":Str))=false:=by decide):PT X (.Name x pos) (vy X.K G (λZ=>KH Z i) λZ=>¬getL Z i=[]):=
 λpins s σ H Q I ⟨B,Z,O,R,c,q⟩=>pt_truth (pe_var hN hv hd hcd) (λ_=>rfl) pins s σ H Q I (by
  obtain⟨a,e1,e2⟩:=R.S9 c;refine⟨_,e1,_,.inl ⟨_,e2,rfl⟩,?_⟩;have z:=q H (Same.refl H);have e:(!((getL Z i).map V.int).isEmpty)=decide (¬getL Z i=[]):=by cases getL Z i<;>simp
  rw[e];exact z)
def tZ:List PV->List Int
 | .int n::r=>n::tZ r
 |_=>[]
def Kw:List PV->Prop
 |[]=>True
 | .int _::r=>Kw r
 |_=>False
theorem lX.ints {K:Fg}{H:Hp}:∀{ps:List PV} {vs:List V},lX K G H ps vs->Kw ps->vs=(tZ ps).map V.int
 |[],_,h,_=>h
 |p::ps,_,h,c=>by
  cases p<;>first|exact c.elim|skip
  obtain⟨v,r,rfl,e,t⟩:=h;rw[e,lX.ints t c];rfl
theorem m7 {gs:En->List PV}(h:PA X es (M7 X.K G C gs))(hz:∀Z,(gs Z).length<=1000:=by intro _;exact fv rfl):PE X (.List es pos) (Ef X.K G (λZ=>C Z/\Kw (gs Z)) λZ=>tZ (gs Z)):=
 KQ (pe_lst h) λB σ H Z O Q R c q=>⟨B,Z,O,R,c.1,λvs H1 s1 a1=>⟨by rw[<- a1.length];exact bK (small1000 (hz Z)),λa ha=>by
  have e:=a1.ints c.2;refine q a _ (s1.trans (same_new ha _)) (s1.free ha) ?_;rw[upd_same,e]⟩⟩
theorem sO (h:PA X es (M7 X.K G C gs))(hz:∀Z,(gs Z).length<=1000:=by intro _;exact fv rfl):PE X (.List es pos) (yL X.K G C gs):=
 λpins s σ H Q I ⟨B,Z,O,R,c,q⟩=>pe_lst h pins s σ H Q I ⟨B,Z,O,R,c,λvs H1 s1 a1=>⟨by rw[<- a1.length];exact bK (small1000 (hz Z)),λa ha=>
  q a vs _ (s1.trans (same_new ha _)) (s1.free ha) upd_same (lX.mono (mK (same_new ha _) ha) _ _ a1)⟩⟩
theorem qH (h:PA X es (M7 X.K G C gs))(hz:∀Z,(gs Z).length<=1000:=by intro _;exact fv rfl):PE X (.Tuple es x1 pos) (tX X.K G C λZ=>.tup (gs Z)):=
 uN (pe_tup h) λB σ H Z O Q R c q=>⟨B,Z,O,R,c,λvs H1 s1 a1=>⟨by rw[<- a1.length];exact bK (small1000 (hz Z)),λa ha=>by
  have o:O a=false:=by
   cases z:O a with
   |false=>rfl
   |true=>exact absurd (s1.free ha) (R.dom a z)
  refine q (.ref a) _ (s1.trans (same_new ha _)) ⟨a,vs,rfl,by rw[qX o];exact upd_same,lX.mono (kY (same_new ha _)) _ _ a1⟩⟩⟩
theorem uM (hm:X.mg "list"=none)(ha:PE X a (tX X.K G C g))(hn:∀Z,g Z=.ints (ns Z)\/g Z=.scr (ns Z))(hg:Gl X "list":=by rfl)(he:starEach [a] X.env=[(false,eval a X.env)]:=by rfl) :
  PE X (.Call (.Name "list" p) [a] [] pos) (Ef X.K G C ns):=
 KQ (pe_callTy call_list_of hg hm wK (pa_cons ha pa_nil he) (by decide) (by decide) he rfl) λB σ H Z O Q R c q=>⟨B,Z,O,R,c,λv H1 s1 a1=>by
  have key:∃p,v=.ref p/\SqL X.K H1 p ((ns Z).map V.int):=by
   rcases hn Z with z|z
   ·rw[z]at a1;obtain⟨p,e,r⟩:=a1;exact⟨p,e,.inl (jy jQ r)⟩
   ·rw[z]at a1;obtain⟨p,e,r⟩:=a1;exact⟨p,e,jQ.seq r⟩
  obtain⟨p,rfl,r⟩:=key;exact⟨p,_,rfl,.inl r,λl hl=>q l _ (s1.trans (same_new hl _)) (s1.free hl) upd_same⟩⟩
def rM (xs:List Int)(lo hi:Option Int):List Int:=(xs.drop (HT.sIx xs.length 0 lo)).take (HT.sIx xs.length xs.length hi-HT.sIx xs.length 0 lo)
theorem Rm (xs:Li)(lo hi:Option Int):cutV (xs.map V.int) lo hi=(rM xs lo hi).map V.int:=by unfold cutV rM;rw[aa,<- gR,<- gS]
def WX (K:Fg)(G:Gx)(C:En->Prop)(g:En->Option Int):TO:=λσ H Q=>∃B Z O,Rep K G B σ H Z O/\C Z/\∀H',Same H H' -> Q (g Z) H'
theorem pL:PO X none (WX X.K G (λ_=>True) λ_=>none):=λpins s σ H Q I ⟨_,_,_,_,_,q⟩=>po_none pins s σ H Q I (q H (Same.refl H))
theorem lU (h:PE X e (lY X.K G C ga)):PO X (some e) (WX X.K G C λZ=>some (ga Z)):=λpins s σ H Q I ⟨B,Z,O,R,c,q⟩=>po_some h pins s σ H Q I ⟨B,Z,O,R,c,λ_ H1 s1 a1=>⟨_,a1,q H1 s1⟩⟩
theorem rK {lo hi:Option Expr}{g:En->PV}{ns:En->List Int}{Cl Ch:En->Prop}{gl gh:En->Option Int}(ha:PE X a (tX X.K G C g))(hl:PO X lo (WX X.K G Cl gl))(hh:PO X hi (WX X.K G Ch gh))(hn:∀Z,C Z->g Z=.ints (ns Z)\/g Z=.scr (ns Z)) :
  PE X (.Subscript a (.Slice lo hi none p2) pos) (Ef X.K G (λZ=>C Z/\Cl Z/\Ch Z) λZ=>rM (ns Z) (gl Z) (gh Z)):=
 KQ (pe_slice sl_list ha hl hh) λB σ H Z O Q R c q=>⟨B,Z,O,R,c.1,λv H1 s1 a1=>⟨B,Z,O,R.grow s1,c.2.1,λH2 s2=>⟨B,Z,O,(R.grow s1).grow s2,c.2.2,λH3 s3=>by
  have key:∃p,v=.ref p/\SqL X.K H1 p ((ns Z).map V.int):=by
   rcases hn Z c.1 with z|z
   ·rw[z]at a1;obtain⟨p,e,r⟩:=a1;exact⟨p,e,.inl (jy jQ r)⟩
   ·rw[z]at a1;obtain⟨p,e,r⟩:=a1;exact⟨p,e,jQ.seq r⟩
  obtain⟨p,rfl,r⟩:=key;refine⟨p,_,rfl,(s2.trans s3).seq r,λl hl=>q l _ (((s1.trans s2).trans s3).trans (same_new hl _)) (((s1.trans s2).trans s3).free hl) ?_⟩;rw[upd_same,Rm]⟩⟩⟩
theorem Inv.Kr {X:Cx}{pins:List (Addr×Obj)}{σ:L2.St}{H:Hp}{s:Shared}{l:Addr}{xs:List V}(I:Inv X pins σ H s)(hH:Rd H l (.lst xs)):xs.length<=sizeLine/\∃(its:Lv) (n:Nat),Vals xs its/\xs.length=its.length/\s.heap.get? l=some { cls:=.type "list",data:=.seq its.toArray n }:=by obtain⟨z,its,n,r,e⟩:=hH.ok I.hok;exact⟨z,its,n,r,r.length,e⟩
def aaQ:R2:=λx y H Q=>∃l b xs zs,x=.ref l/\y=.ref b/\Rd H l (.lst xs)/\Rd H b (.lst zs)/\xs.length+zs.length<=sizeLine/\∀p,H p=none->Q (.ref p) (upd H p (.lst (xs++zs)))
theorem Ni:OpR X (binaryOp .Add) aaQ:=by
 intro pins s σ H x y v u Q I rx ry h;obtain⟨l,b,xs,zs,rfl,rfl,hH,hB,hz,q⟩:=h;cases rx;cases ry;obtain⟨z,its,n,r,hl,e⟩:=Inv.Kr I hH;obtain⟨z2,its2,n2,r2,hl2,e2⟩:=Inv.Kr I hB;refine PySem.P.add_list e e2 ?_ (by rw[aw,aw];lia);have ea:its.toArray++its2.toArray=(its++its2).toArray:=by simp
 rw[ea];exact⟨.ref _,_,I.lnew (t':=s.toks) (r.append r2) (by rw[ah];lia),rfl,q _ I.fresh⟩
theorem yg (ha:PE X a (Ld X.K G Ca gl))(hb:PE X b (Ld X.K G Cb hl)):PE X (.BinOp a .Add b pos) (Ef X.K G (λZ=>Ca Z/\Cb Z/\(gl Z).length+(hl Z).length<=sizeLine) λZ=>gl Z++hl Z):=
 KQ (pe_op Ni ha hb) λB σ H Z O Q R c q=>two R c.1 c.2.1 λv u H1 H2 s1 s2 a1 a2=>by obtain⟨l,rfl,r1⟩:=a1;obtain⟨b,rfl,r2⟩:=a2;refine⟨l,b,_,_,rfl,rfl,jy jQ r1,jy jQ r2,by rw[aa,aa];exact c.2.2,λp hp=>q p _ ((s1.trans s2).trans (same_new hp _)) ((s1.trans s2).free hp) ?_⟩;rw[upd_same,bF]
theorem Jj {α:Type}(x:α):∀k:Nat,(List.replicate k [x]).flatten=List.replicate k x
 |0=>rfl
 |k+1=>by rw[c9,bN,Jj x k];rfl
theorem vO {gl:En->List Int}{n:En->Int}(ha:PE X a (Ef X.K G Ca gl))(hb:PE X b (lY X.K G Cb gb))(hn:∀Z,gl Z=[n Z]):PE X (.BinOp a .Mult b pos) (Ef X.K G (λZ=>Ca Z/\Cb Z /\ -(2^63)<=gb Z/\(gb Z).toNat<=1000) λZ=>List.replicate (gb Z).toNat (n Z)):=
 KQ (pe_op op_rep ha hb) λB σ H Z O Q R c q=>⟨B,Z,O,R,c.1,λl H1 s1 n1 e1=>⟨B,Z,O,R.grow s1,c.2.1,λu H2 s2 a2=>by
  rw[hn Z]at e1;refine⟨l,_,_,rfl,a2,s2 _ _ e1,c.2.2.1,by have:=c.2.2.2;lia,?_,λp hp=>q p _ ((s1.trans s2).trans (same_new hp _)) ((s1.trans s2).free hp) ?_⟩
  ·rw[aX,dP,bv,Nat.one_mul];exact bK (small1000 c.2.2.2)
  ·rw[upd_same,aX,dP,Jj,List.map_replicate]⟩⟩
end
def yu (K:Fg)(G:Gx)(pre:List PV->Prop)(F:List PV->PV):Sp:=λvs H Q _=>∃as O,(∀a,O a=true->H a≠none)/\lX K G (mn H O) as vs/\pre as/\∀v H',Same H H' -> At K G (mn H' O) (F as) v->Q v H'
def Hc (K:Fg)(G:Gx)(pre:List PV->Prop)(F:List PV->List Int):Sp:=λvs H Q _=>∃as O,(∀a,O a=true->H a≠none)/\lX K G (mn H O) as vs/\pre as/\∀a H',Same H H' -> H a=none->H' a=some (.lst ((F as).map V.int))->Q (.ref a) H'
section
variable {X:Cx}{G:Gx}{Er:ER}{e:Expr}{es:List Expr}{pos p:Pos}{j k:Nat}{x:Str}{ps:List Str}{pre:List PV->Prop}{C:En->Prop}{gs:En->List PV}
theorem xc (o:Ok X.prog X.w X.K X.mg X.base j x ps (yu X.K G pre F))(hr:Room k X.A)(ha:PA X (e::es) (M7 X.K G C gs))(hj:j<=k:=by decide)(hg:Gl X x:=by rfl)(hdb:(x == ("__debug__":Str))=false:=by decide)
  (he:starEach (e::es) X.env=(false,eval e X.env)::starEach es X.env:=by rfl) (hpl:(backTo pos (starEach es X.env)).any (·.1)=false:=by rfl) :
  PE X (.Call (.Name x p) (e::es) [] pos) (tX X.K G (λZ=>C Z/\pre (gs Z)) λZ=>F (gs Z)):=
 uN (ud o hr ha hj hg hdb he hpl) λB σ H Z O Q R c q=>⟨B,Z,O,R,c.1,λvs H1 s1 a1=>by
  dsimp only;rw[bu];exact⟨gs Z,O,(R.grow s1).dom,a1,c.2,λv H2 s2 a2=>q v H2 (s1.trans s2) a2⟩⟩
theorem tW (o:Ok X.prog X.w X.K X.mg X.base j x ps (Hc X.K G pre F))(hr:Room k X.A)(ha:PA X (e::es) (M7 X.K G C gs))(hj:j<=k:=by decide)(hg:Gl X x:=by rfl)(hdb:(x == ("__debug__":Str))=false:=by decide)
  (he:starEach (e::es) X.env=(false,eval e X.env)::starEach es X.env:=by rfl) (hpl:(backTo pos (starEach es X.env)).any (·.1)=false:=by rfl) :
  PE X (.Call (.Name x p) (e::es) [] pos) (Ef X.K G (λZ=>C Z/\pre (gs Z)) λZ=>F (gs Z)):=
 KQ (ud o hr ha hj hg hdb he hpl) λB σ H Z O Q R c q=>⟨B,Z,O,R,c.1,λvs H1 s1 a1=>by
  dsimp only;rw[bu];exact⟨gs Z,O,(R.grow s1).dom,a1,c.2,λa H2 s2 n2 e2=>q a H2 (s1.trans s2) (s1.free n2) e2⟩⟩
end
def nJ (N:List Str)(as:List PV):En:=as.map Sl.fr++List.replicate (N.length-as.length) .un
theorem rR {K:Fg}{G:Gx}{H:Hp}{O:Addr->Bool}{as:List PV}{vs:List V}{N:Ls}(hd:∀a,O a=true->H a≠none)(h:lX K G (mn H O) as vs):Rep K G ⟨H,O⟩ (L2.start N vs) H (nJ N as) O:=by
 have hl:=h.length;refine⟨Same.refl H,hd,λ_ z=>z,hd,λ_ z=>.inl z,λi p e=>?_,λi p e=>?_,λi j p q a e=>?_,by unfold L2.start nJ;simp[hl],λi xs ys e=>?_⟩
 ·unfold nJ at e;by_cases c:i<as.length
  ·rw[aP (by rw[aa];exact c),ao]at e;cases e':as[i]? with
   |none=>rw[e']at e;cases e
   |some p'=>rw[e']at e;cases e;obtain⟨v,ev,av⟩:=h.at e';refine⟨v,?_,av⟩;unfold L2.start;rw[aP (by rw[aa,<- hl];exact c),ao,ev];rfl
  ·rw[bi (by rw[aa];lia),cU]at e;split at e<;>cases e
 ·exfalso;unfold nJ at e;by_cases c:i<as.length
  ·rw[aP (by rw[aa];exact c),ao]at e;cases e':as[i]? <;> rw[e']at e<;>cases e
  ·rw[bi (by rw[aa];lia),cU]at e;split at e<;>cases e
 ·exfalso;unfold nJ at e;by_cases c:i<as.length
  ·rw[aP (by rw[aa];exact c),ao]at e;cases e':as[i]? <;> rw[e']at e<;>cases e
  ·rw[bi (by rw[aa];lia),cU]at e;split at e<;>cases e
 ·exfalso;unfold nJ at e;by_cases c:i<as.length
  ·rw[aP (by rw[aa];exact c),ao]at e;cases e':as[i]? <;> rw[e']at e<;>cases e
  ·rw[bi (by rw[aa];lia),cU]at e;split at e<;>cases e
section
variable {P:Program}{w:World}{K:Fg}{mg:Mg}{base:Heap}{G:Gx}
theorem w5 {x:Str}{st:Stmt}{N ps:Ls}{k:Nat}{pre:List PV->Prop}{F:List PV->PV}(d:nQ K mg x st ps)(S:FnScope N ps (defScope st))(len:∀as,pre as->as.length=ps.length)
  (hbody:∀(f:Addr) (cdv:Value) (A:Around) (outer:List Env) (s:Shared) (H:Hp) (E:XK),Room k (A.deeper (envOfC x (defScope st) s.heap.objs.size f cdv)) ->
   ∃fs,PSs (cxOf CX0 P w K mg base N x (defScope st) f cdv A outer s H E).nox (defBody st) (ts K G ER0 fs)/\∀as,pre as->fs { nx:=λ_=>F as=.non,rt:=λp=>p=F as,rl:=λns=>F as=.ints ns } (nJ N as)):Ok P w K mg base (k+1) x ps (yu K G pre F):=by
 refine nQ.ok d S (λvs H Q E h=>?_) λf cdv A outer s H vs Q E hr h=>?_
 ·obtain⟨as,O,_,al,hp,_⟩:=h;rw[<- al.length];exact len as hp
 obtain⟨as,O,hd,al,hp,q⟩:=h;obtain⟨fs,b,c⟩:=hbody f cdv A outer s H E hr;refine⟨_,b,⟨H,O⟩,nJ N as,_,⟨O,rR hd al⟩,c as hp,⟨λσ' H' Z' R' h=>?_,λv H' p s' a' h=>?_,λa H' ns s' n e h=>?_,λ_ _ _ _ _ h=>h.elim,λ_ _ _ _ h=>h,λ_ _ _ _ h=>h,λ_ _ _ h=>h⟩⟩
 ·obtain⟨O',R'⟩:=R';exact q .non H' R'.same (by rw[show F as=.non from h];rfl)
 ·subst h;exact q v H' s' a'
 ·refine q _ H' s' ?_;rw[h];exact⟨a,rfl,.inl (by
   rw[qX]
   ·exact e
   ·cases z:O a with
    |false=>rfl
    |true=>exact absurd n (hd a z))⟩
theorem JL {x:Str}{st:Stmt}{N ps:Ls}{k:Nat}{pre:List PV->Prop}{F:List PV->List Int}(d:nQ K mg x st ps)(S:FnScope N ps (defScope st))(len:∀as,pre as->as.length=ps.length)
  (hbody:∀(f:Addr) (cdv:Value) (A:Around) (outer:List Env) (s:Shared) (H:Hp) (E:XK),Room k (A.deeper (envOfC x (defScope st) s.heap.objs.size f cdv)) ->
   ∃fs,PSs (cxOf CX0 P w K mg base N x (defScope st) f cdv A outer s H E).nox (defBody st) (ts K G ER0 fs)/\∀as,pre as->fs { nx:=λ_=>False,rt:=λ_=>False,rl:=λns=>ns=F as } (nJ N as)):Ok P w K mg base (k+1) x ps (Hc K G pre F):=by
 refine nQ.ok d S (λvs H Q E h=>?_) λf cdv A outer s H vs Q E hr h=>?_
 ·obtain⟨as,O,_,al,hp,_⟩:=h;rw[<- al.length];exact len as hp
 obtain⟨as,O,hd,al,hp,q⟩:=h;obtain⟨fs,b,c⟩:=hbody f cdv A outer s H E hr;refine⟨_,b,⟨H,O⟩,nJ N as,_,⟨O,rR hd al⟩,c as hp,⟨λ_ _ _ _ h=>h.elim,λ_ _ _ _ _ h=>h.elim,λa H' ns s' n e h=>?_,λ_ _ _ _ _ h=>h.elim,λ_ _ _ _ h=>h,λ_ _ _ _ h=>h,λ_ _ _ h=>h⟩⟩;subst h;exact q a H' s' n e
end
def spM (pre:List Int->Prop)(F:List Int->List Int):Sp:=λvs H Q _=>∃a ns,vs=[.ref a]/\H a=some (.lst (ns.map V.int))/\pre ns/\∀H',(∀b o,b≠a->H b=some o->H' b=some o)->H' a=some (.lst ((F ns).map V.int))->Q .non H'
theorem X5 (h:∀b o,b≠a->H b=some o->H' b=some o)(e:H' a=some o):Same (upd H a o) H':=sS λb u z=>by
 by_cases c:b=a
 ·subst c;rw[upd_same]at z;cases z;exact e
 ·rw[upd_ne c]at z;exact h b u c z
section
variable {X:Cx}{G:Gx}{Er:ER}{e b:Expr}{pos px pa pc:Pos}{i j k:Nat}{x y:Str}{C Cb:En->Prop}{g gb:En->Int}
theorem Kv (i:Nat)(he:PE X e (lY X.K G C g))(hN:X.N[i]?=some x:=by rfl)(hv:Vis X.env.scope x:=by first|exact Or.inl rfl|exact Or.inr (Or.inl rfl)|exact Or.inr (Or.inr rfl))
  (hd:(x == ("__debug__":Str))=false:=by decide) (hcd:(x == ("__classdict__":Str))=false:=by decide)
  (hbase:attributeBase (.Name x px) "append" X.env (eval (.Name x px) X.env)=eval (.Name x px) X.env:=by rfl)
  (hfew:((backTo pc (starEach (e::[]) X.env)).all (λx=>!x.1) && (backToKw pc (keywordEach [] X.env)).all (λx=>x.1.isSome)
   && decide ((e::[]).length+([]:List Keyword).length+(if ([]:List Keyword).isEmpty then 0 else 1)<30))=true:=by rfl)
  (hline:(pa.endLine == pc.line)=true:=by rfl) (hs:starEach (e::[]) X.env=(false,eval e X.env)::starEach [] X.env:=by rfl) (hplain:(backTo pc (starEach [] X.env)).any (·.1)=false:=by rfl)
  (hsw:swapsWith (.Call (.Attribute (.Name x px) "append" pa) [e] [] pc) none pos.line X.env=pure false:=by rfl) :
  PS X (.Expr (.Call (.Attribute (.Name x px) "append" pa) [e] [] pc) pos) (ts X.K G Er λP Z=>XH Z i/\C Z/\(getL Z i).length<sizeLine/\P.nx (Z.set i (.ow (.ints (getL Z i++[g Z]))))):=
 toS (ps_expr (pe_bm cV gE gF mt_append (pe_var hN hv hd hcd) (pa_cons he pa_nil hs) hbase hfew hline hs hplain) hsw) λB σ H Z O P D R c w=>by obtain⟨c0,c1,c2,c3⟩:=c;obtain⟨a,vs,e1,e2,e3,e4,e5⟩:=R.ow i _ c0;subst e5;refine⟨_,e1,.inl ⟨rfl,_,SqL.of e4⟩,B,Z,O,R,c1,λv H1 s1 a1=>?_⟩;subst a1;refine⟨a,_,_,rfl,rfl,s1 _ _ e4,by rw[aa];exact c2,w.nx σ _ _ ⟨O,(R.grow s1).change c0 e1 (p':=.ints (getL Z i++[g Z])) ?_⟩ c3⟩;show _=(getL Z i++[g Z]).map V.int;rw[bF];rfl
theorem Wg (i:Nat)(hN:X.N[i]?=some x:=by rfl)(hv:Vis X.env.scope x:=by first|exact Or.inl rfl|exact Or.inr (Or.inl rfl)|exact Or.inr (Or.inr rfl))
  (hd:(x == ("__debug__":Str))=false:=by decide) (hcd:(x == ("__classdict__":Str))=false:=by decide)
  (hbase:attributeBase (.Name x px) "pop" X.env (eval (.Name x px) X.env)=eval (.Name x px) X.env:=by rfl) (hline:(pa.endLine == pc.line)=true:=by rfl)
  (hsw:swapsWith (.Call (.Attribute (.Name x px) "pop" pa) [] [] pc) none pos.line X.env=pure false:=by rfl) :
  PS X (.Expr (.Call (.Attribute (.Name x px) "pop" pa) [] [] pc) pos) (ts X.K G Er λP Z=>XH Z i/\getL Z i≠[]/\P.nx (Z.set i (.ow (.ints (getL Z i).dropLast)))):=
 toS (ps_expr (pe_bm0 cV ij ik mt_pop (pe_var hN hv hd hcd) hbase hline) hsw) λB σ H Z O P D R c w=>by
  obtain⟨c0,c1,c3⟩:=c;obtain⟨a,vs,e1,e2,e3,e4,e5⟩:=R.ow i _ c0;subst e5;have hl:0<(getL Z i).length:=lP c1;refine⟨_,e1,.inl ⟨rfl,_,SqL.of e4⟩,a,_,V.int ((getL Z i)[(getL Z i).length-1]'(by lia)),rfl,rfl,e4,?_,w.nx σ _ _ ⟨O,R.change c0 e1 (p':=.ints (getL Z i).dropLast) ?_⟩ c3⟩
  ·rw[aa,ao,ac (by lia)];rfl
  ·show _=(getL Z i).dropLast.map V.int;rw[List.map_dropLast]
theorem uL (i:Nat)(hk:PE X b (lY X.K G Cb gb))(he:PE X e (lY X.K G C g))(hN:X.N[i]?=some x:=by rfl)(hv:Vis X.env.scope x:=by first|exact Or.inl rfl|exact Or.inr (Or.inl rfl)|exact Or.inr (Or.inr rfl))
  (hd:(x == ("__debug__":Str))=false:=by decide) (hcd:(x == ("__classdict__":Str))=false:=by decide)
  (ha:∀v,assign (.Subscript (.Name x px) b ps) X.env v=(do
   let ov <- holding [v] (eval (.Name x px) X.env)
   let iv <- holding [v,ov] (eval b X.env)
   standAt ps
   holding [v,ov,iv] (setItem ov iv v)
   release [v,ov,iv] []):=by intro _;rfl)
  (hs:swapsWithSole [.Subscript (.Name x px) b ps] e pos.line X.env=pure false:=by rfl) (hw:swappedStores [.Subscript (.Name x px) b ps] e X.env=pure none:=by rfl)
  (h1:(assignEach [.Subscript (.Name x px) b ps] X.env).map (·.2)=[assign (.Subscript (.Name x px) b ps) X.env]:=by rfl) :
  PS X (.Assign [.Subscript (.Name x px) b ps] e pos) (ts X.K G Er λP Z=>C Z/\XH Z i/\Cb Z/\(-((getL Z i).length:Int)<=gb Z/\gb Z<((getL Z i).length:Int))/\P.nx (Z.set i (.ow (.ints ((getL Z i).set (jZ (getL Z i).length (gb Z)) (g Z)))))):=
 toS (ps_asg he (pg_sub (pe_var hN hv hd hcd) hk set_list ha) hs hw h1) λB σ H Z O P D R c w=>by obtain⟨c1,c0,c2,cb,c3⟩:=c;refine⟨B,Z,O,R,c1,λv H1 s1 a1=>?_⟩;subst a1;have R1:=R.grow s1;obtain⟨a,vs,e1,e2,e3,e4,e5⟩:=R1.ow i _ c0;subst e5;refine⟨_,e1,B,Z,O,R1,c2,λu H2 s2 a2=>?_⟩;subst a2;refine⟨a,_,_,_,rfl,rfl,s2 _ _ e4,by rw[aa];exact Fe cb.1 cb.2,w.nx σ _ _ ⟨O,(R1.grow s2).change c0 e1 (p':=.ints _) ?_⟩ c3⟩;show _=((getL Z i).set _ _).map V.int;rw[i7]
theorem Lk (i:Nat)(o:Ok X.prog X.w X.K X.mg X.base j y ps (spM pre F))(hr:Room k X.A)(hj:j<=k:=by decide)(hg:Gl X y:=by rfl)
  (hN:X.N[i]?=some x:=by rfl) (hv:Vis X.env.scope x:=by first|exact Or.inl rfl|exact Or.inr (Or.inl rfl)|exact Or.inr (Or.inr rfl)) (hd:(x == ("__debug__":Str))=false:=by decide) (hcd:(x == ("__classdict__":Str))=false:=by decide)
  (hdb:(y == ("__debug__":Str))=false:=by decide) (he:starEach (.Name x px::[]) X.env=(false,eval (.Name x px) X.env)::starEach [] X.env:=by rfl) (hpl:(backTo pc (starEach [] X.env)).any (·.1)=false:=by rfl)
  (hsw:swapsWith (.Call (.Name y pa) [.Name x px] [] pc) none pos.line X.env=pure false:=by rfl) :
  PS X (.Expr (.Call (.Name y pa) [.Name x px] [] pc) pos) (ts X.K G Er λP Z=>XH Z i/\pre (getL Z i)/\P.nx (Z.set i (.ow (.ints (F (getL Z i)))))):=
 toS (ps_expr (ud o hr (pa_cons (pe_var hN hv hd hcd) pa_nil he) hj hg hdb he hpl) hsw) λB σ H Z O P D R c w=>by obtain⟨c0,c1,c3⟩:=c;obtain⟨a,vs,e1,e2,e3,e4,e5⟩:=R.ow i _ c0;subst e5;exact⟨_,e1,a,_,rfl,e4,c1,λH' k1 k2=>w.nx σ H' _ ⟨O,(R.change c0 e1 (p':=.ints _) rfl).grow (X5 k1 k2)⟩ c3⟩
end
def jH (cap:List (Option Nat))(Z:En):En:=cap.map λo=>match o with
 |some i=>(match Z[i]? with
  |some (.fr p)=>.fr p
  |_=>.un)
 |none=>.un
section
variable {K:Fg}{G:Gx}{B:Bs}{σ:L2.St}{H H1:Hp}{Z:En}{O:Addr->Bool}{D:Addr}{cap:List (Option Nat)}
theorem DX (R:Rep K G B σ H1 Z O)(hD:H1 D=none)(s:Same H1 H)(hn:H D≠none):Rep K G ⟨H1,O⟩ (pF cap σ) H (jH cap Z) (hide D O):=by
 refine⟨s,R.dom,qQ,λa z y=>?_,λa z=>?_,λj p e=>?_,λj p e=>?_,λi j p q a e=>?_,by unfold pF jH;rw[aa,aa],λj xs ys e=>?_⟩
 ·by_cases c:a=D
  ·subst c;exact hn y
  ·rw[hide_ne c]at z;exact R.dom a z (s.free y)
 ·by_cases c:a=D
  ·subst c;exact .inr hD
  ·rw[hide_ne c]at z;exact .inl z
 ·unfold jH at e;rw[ao]at e;cases ec:cap[j]? with
  |none=>rw[ec]at e;cases e
  |some o=>
   rw[ec]at e;cases o with
   |none=>cases e
   |some i=>
    have e:=aF e;dsimp only at e;split at e
    ·rename_i p' er;cases e;obtain⟨v,e1,e2⟩:=R.fr i p er;refine⟨v,?_,At.mono (mK s hD) _ _ e2⟩;unfold pF;rw[ao,ec];show some ((σ[i]?).join)=some (some v);rw[e1];rfl
    ·cases e
 ·exfalso;unfold jH at e;rw[ao]at e;cases ec:cap[j]? with
  |none=>rw[ec]at e;cases e
  |some o=>
   rw[ec]at e;cases o with
   |none=>cases e
   |some i=>have e:=aF e;dsimp only at e;split at e<;>cases e
 ·exfalso;unfold jH at e;rw[ao]at e;cases ec:cap[i]? with
  |none=>rw[ec]at e;cases e
  |some o=>
   rw[ec]at e;cases o with
   |none=>cases e
   |some i=>have e:=aF e;dsimp only at e;split at e<;>cases e
 ·exfalso;unfold jH at e;rw[ao]at e;cases ec:cap[j]? with
  |none=>rw[ec]at e;cases e
  |some o=>
   rw[ec]at e;cases o with
   |none=>cases e
   |some i=>have e:=aF e;dsimp only at e;split at e<;>cases e
theorem mU:∀σ:L2.St,Cz σ σ
 |[]=>tJ
 |none::r=>mU r
 |some _::r=>⟨rfl,mU r⟩
variable {α:Type}{J:It}{g:TG}{C:En->Prop}{gb:En->PV}{Q:VK}
theorem qY (items:List α)(setσ:α->V->L2.St)(setr:α->En)(val:α->V)(R:Rep K G B σ H1 Z O)(hD:H1 D=none)(hlen:items.length<=1000)(hgo:∀i H,i<items.length->Same H1 H->J.go i H)
  (hyld:∀i it x H H',items[i]?=some it->Same H1 H->J.yld i H x H' -> Same H H'/\∀k:L2.St->Hp->Prop,k (setσ it (val it)) H' -> g x (pF cap σ) H' k) (hstop:∀H,Same H1 H->J.stop items.length H)
  (hset:∀it H,it∈items->Same H1 H->Rep K G ⟨H1,O⟩ (pF cap σ) H (jH cap Z) (hide D O)->Rep K G ⟨H1,O⟩ (setσ it (val it)) H (setr it) (hide D O)) (hext:∀it,Cz (pF cap σ) (setσ it (val it))) (hC:∀it∈items,C (setr it))
  (hQ:∀H' ys,Same H1 H' -> H' D=some (.lst ys)->lX K G (mn H' (hide D O)) (items.map λit=>gb (setr it)) ys->Q (.ref D) H') :
  ∃W:Nat->Nat->List V->Hp->Prop,(∃m,W 0 m [] (upd H1 D (.lst [])))/\lcW D J (pF cap σ) g sJ (tX K G C gb) Q W:=by
 refine⟨λi m ys H=>m=items.length-i/\i<=items.length/\Same H1 H/\H D=some (.lst ys)/\lX K G (mn H (hide D O)) ((items.take i).map λit=>gb (setr it)) ys,⟨items.length,by simp,bh _,same_new hD _,upd_same,rfl⟩,?_⟩;rintro i m ys H ⟨rfl,hi,hs,hd,al⟩;have hl:ys.length=i:=by rw[<- al.length,aa,aI];lia
 refine⟨hd,small1000 (by lia),?_⟩;by_cases hlt:i<items.length
 ·refine .inr ⟨hgo i H hlt hs,?_⟩;intro x H' hy;have en:items[i]?=some items[i]:=ac hlt;obtain⟨s1,kk⟩:=hyld i _ x H H' en hs hy;refine kk _ ⟨hext _,?_⟩;refine iteT ?_;have hd':=s1 _ _ hd;have R2:=hset items[i] H' (bC hlt) (hs.trans s1) (DX R hD (hs.trans s1) (by rw[hd'];exact λz=>by cases z));refine⟨_,_,_,R2,hC _ (bC hlt),λv H2 s2 a2=>⟨s2 _ _ hd',items.length-(i+1),by lia,rfl,hlt,?_,upd_same,?_⟩⟩
  ·intro b o z;rw[upd_ne (ne_of_none z hD)];exact((hs.trans s1).trans s2) b o z
  ·rw[Gz hide_self,nH en,bF];exact lX.snoc (lX.mono (kY (s1.trans s2)) _ _ al) a2
 ·have e:i=items.length:=by lia
  subst e;refine .inl ⟨hstop H hs,hQ H ys hs hd ?_⟩;rw[cH]at al;exact al
theorem BW:∀{l:List α} {ys:List V},lX K G H (l.map λx=>.int (gi x)) ys->ys=(l.map gi).map V.int
 |[],_,h=>h
 |x::r,_,h=>by obtain⟨v,t,rfl,e,q⟩:=h;rw[e,BW q];rfl
end
section
variable {K:Fg}{G:Gx}{σ:L2.St}{H:Hp}{Q:VK}{Cs Cb:En->Prop}{gs:En->List Int}{gi:En->Int}{gp:En->PV}{cap:List (Option Nat)}
theorem ZV (h:yL K G (λZ=>Cs Z/\(gs Z).length<=1000/\∀n∈gs Z,Cb ((jH (none::cap) Z).set 0 (.fr (.int n)))) (λZ=>(gs Z).map λn=>gp ((jH (none::cap) Z).set 0 (.fr (.int n)))) σ H Q) :
  Qt (none::cap) (iList K (Ld K G Cs gs)) (gName 0) sJ (tX K G Cb gp) σ H Q:=by
 obtain⟨B,Z,O,R,⟨c1,c2,c3⟩,q⟩:=h;refine⟨B,Z,O,R,c1,λv H1 s1 a1=>?_⟩;obtain⟨a,rfl,hq⟩:=a1;have hq1:SqL K H1 a ((gs Z).map V.int):=.inl (jy jQ hq);refine⟨a,rfl,⟨_,hq1⟩,λD hD=>?_⟩;refine qY (gs Z) (λ_ v=>(pF (none::cap) σ).set 0 (some v)) (λn=>(jH (none::cap) Z).set 0 (.fr (.int n))) V.int (R.grow s1) hD c2 (λi H hi s=>⟨_,.int (gs Z)[i],s.seq hq1,by simp[hi]⟩) ?_ (λH s=>⟨_,s.seq hq1,by simp⟩) (λn H _ s R'=>R'.set (p:=.int n) rfl) ?_ c3 ?_
 ·rintro i n x H H' en s ⟨rfl,hx⟩;obtain⟨n',rfl,hn⟩:=int_at (hx _ (s.seq hq1));rw[hn]at en;cases en;exact⟨Same.refl _,λk hk=>hk⟩
 ·intro n;exact mU _
 ·intro H' ys s hd al;exact q D ys H' (s1.trans s) (s1.free hD) hd al
theorem abf (h:yL K G (λZ=>Cs Z/\(gs Z).length<=1000/\∀k:Nat,∀n,(gs Z)[k]?=some n->Cb (((jH (none::none::cap) Z).set 0 (.fr (.int k))).set 1 (.fr (.int n)))) (λZ=>(gs Z).mapIdx λk n=>gp (((jH (none::none::cap) Z).set 0 (.fr (.int k))).set 1 (.fr (.int n)))) σ H Q) :
  Qt (none::none::cap) (Sd K (tCons (Ld K G Cs gs) tNil)) (gTup K 2 (gCons (gName 0) (gCons (gName 1) gNil))) sJ (tX K G Cb gp) σ H Q:=by
 obtain⟨B,Z,O,R,⟨c1,c2,c3⟩,q⟩:=h;refine⟨B,Z,O,R,c1,λv H1 s1 a1=>?_⟩;obtain⟨a,rfl,hq⟩:=a1;have hq1:SqL K H1 a ((gs Z).map V.int):=.inl (jy jQ hq);refine⟨a,rfl,⟨_,hq1⟩,λD hD=>?_⟩;have hz:((gs Z).zipIdx).length=(gs Z).length:=gf;refine qY ((gs Z).zipIdx) (λp _=>((pF (none::none::cap) σ).set 0 (some (.int p.2))).set 1 (some (.int p.1))) (λp=>((jH (none::none::cap) Z).set 0 (.fr (.int p.2))).set 1 (.fr (.int p.1))) (λp=>.int p.1) (R.grow s1) hD (by rw[hz];exact c2)
  (λi H hi s=>⟨_,.int ((gs Z)[i]'(by rw[hz]at hi;exact hi)),s.seq hq1,by rw[hz]at hi;simp[hi]⟩) ?_ (λH s=>⟨_,s.seq hq1,by simp⟩) (λp H _ s R'=>(R'.set (p:=.int p.2) rfl).set (p:=.int p.1) rfl) ?_ ?_ ?_
 ·rintro i ⟨n,k⟩ x H H' en s ⟨T,y,rfl,hT,rfl,hx⟩;obtain⟨n',rfl,hn⟩:=int_at (hx _ (s.seq hq1));rw[fI,hn]at en;have en:(n',0+i)=(n,k):=aF en;cases en;refine⟨same_new hT _,λkk hk=>⟨T,_,rfl,SqT.of upd_same,rfl,_,_,rfl,_,_,rfl,rfl,?_⟩⟩;rw[gm]at hk;exact hk
 ·rintro⟨n,k⟩;exact mU _
 ·rintro⟨n,k⟩ hm;have:=List.mem_zipIdx_iff_getElem?.mp hm;exact c3 k n this
 ·intro H' ys s hd al;refine q D ys H' (s1.trans s) (s1.free hD) hd ?_;have e:((gs Z).mapIdx λk n=>gp (((jH (none::none::cap) Z).set 0 (.fr (.int k))).set 1 (.fr (.int n))))=(gs Z).zipIdx.map λp=>gp (((jH (none::none::cap) Z).set 0 (.fr (.int p.2))).set 1 (.fr (.int p.1))):=by rw[eG]
  dsimp only;rw[e];exact al
theorem aba (h:yL K G (λZ=>Cs Z/\(0<=gn Z/\gn Z<=1000)/\∀k:Nat,k<(gn Z).toNat->Cb ((jH (none::cap) Z).set 0 (.fr (.int k)))) (λZ=>(List.range (gn Z).toNat).map λ(k:Nat)=>gp ((jH (none::cap) Z).set 0 (.fr (.int k)))) σ H Q) :
  Qt (none::cap) (iRng1 (tCons (lY K G Cs gn) tNil)) (gName 0) sJ (tX K G Cb gp) σ H Q:=by
 obtain⟨B,Z,O,R,⟨c1,c2,c3⟩,q⟩:=h;refine⟨B,Z,O,R,c1,λv H1 s1 a1=>?_⟩;subst a1;have hz:(List.range (gn Z).toNat).length=(gn Z).toNat:=aq;refine⟨gn Z,rfl,by lia,by lia,λD hD=>?_⟩;refine qY (List.range (gn Z).toNat) (λ_ v=>(pF (none::cap) σ).set 0 (some v)) (λ(k:Nat)=>(jH (none::cap) Z).set 0 (.fr (.int k))) (λ(k:Nat)=>.int k) (R.grow s1) hD (by rw[hz];lia) (λi H hi s=>by rw[hz]at hi;exact hi) ?_ (λH s=>by rw[hz];exact ai _) (λk H _ s R'=>R'.set (p:=.int k) rfl) ?_ ?_ ?_
 ·rintro i k x H H' en s ⟨rfl,rfl⟩;have hlt:i<(gn Z).toNat:=by have:=(aj.mp en).1;rw[hz]at this;exact this
  rw[b8 hlt]at en;cases en;refine⟨Same.refl _,λkk hk=>?_⟩;have e:(0:Int)+(i:Nat)=i:=by lia
  rw[e];exact hk
 ·intro k;exact mU _
 ·intro k hk;exact c3 k (aW.mp hk)
 ·intro H' ys s hd al;exact q D ys H' (s1.trans s) (s1.free hD) hd al
theorem Gs {C:En->Prop}{α:Type}{src:En->List α}{gi:En->α->Int}(h:Ef K G C (λZ=>(src Z).map (gi Z)) σ H Q):yL K G C (λZ=>(src Z).map λx=>.int (gi Z x)) σ H Q:=by obtain⟨B,Z,O,R,c,q⟩:=h;refine⟨B,Z,O,R,c,λa vs H' s n e al=>q a H' s n ?_⟩;rw[e,BW al]
theorem UL {C:En->Prop}{src:En->List Int}{gi:En->Nat->Int->Int}(h:Ef K G C (λZ=>(src Z).mapIdx (gi Z)) σ H Q):yL K G C (λZ=>(src Z).mapIdx λk x=>.int (gi Z k x)) σ H Q:=by obtain⟨B,Z,O,R,c,q⟩:=h;refine⟨B,Z,O,R,c,λa vs H' s n e al=>q a H' s n ?_⟩;dsimp only at al ⊢;rw[eG]at al;rw[e,BW (gi:=λp:Int×Nat=>gi Z p.2 p.1) al,eG]
end
section
variable {X:Cx}{G:Gx}{Er:ER}{N':List Str}{sc:Scope}{cl:List (Str×Addr)}{cap:List (Option Nat)}{el tg src:Expr}{at' spos px:Pos}{Cs Cb:En->Prop}{gs:En->List Int}{gn gi:En->Int}{gp:En->PV}{i:Nat}{x:Str}
theorem Gq (L:u6 X N' sc cl (none::cap))(hc:X.calm=true)(hi:PE X src (Ld X.K G Cs gs))(hg:∀s H fp,PG (jE X N' sc cl s H fp) tg (gName 0))(he:∀s H fp,PE (jE X N' sc cl s H fp) el (lY X.K G Cb gi))(hs:∀x,foldedSetIterable src X.env x=pure x:=by intro _;rfl) :
  PE X (.ListComp el [⟨tg,src,[],0⟩] sc at') (Ef X.K G (λZ=>Cs Z/\(gs Z).length<=1000/\∀n∈gs Z,Cb ((jH (none::cap) Z).set 0 (.fr (.int n)))) λZ=>(gs Z).map λn=>gi ((jH (none::cap) Z).set 0 (.fr (.int n)))):=
 λpins s σ H Q I h=>yD L hc (pi_list hi) hg (λ_ _ _=>pM) he hs pins s σ H Q I (ZV (Gs h))
theorem Y5 (L:u6 X N' sc cl (none::none::cap))(hc:X.calm=true)(hgl:Gl X "enumerate")(hm:X.mg "enumerate"=none)(hi:PE X src (Ld X.K G Cs gs))
  (hg:∀s H fp,PG (jE X N' sc cl s H fp) (.Tuple els kk tp) (gTup X.K 2 (gCons (gName 0) (gCons (gName 1) gNil)))) (he:∀s H fp,PE (jE X N' sc cl s H fp) el (lY X.K G Cb gi)) (hst:starEach [src] X.env=[(false,eval src X.env)]:=by rfl)
  (hs:∀x,foldedSetIterable (.Call (.Name "enumerate" p) [src] [] pos') X.env x=pure x:=by intro _;rfl) :
  PE X (.ListComp el [⟨.Tuple els kk tp,.Call (.Name "enumerate" p) [src] [] pos',[],0⟩] sc at') (Ef X.K G (λZ=>Cs Z/\(gs Z).length<=1000/\∀k:Nat,∀n,(gs Z)[k]?=some n->Cb (((jH (none::none::cap) Z).set 0 (.fr (.int k))).set 1 (.fr (.int n))))
   λZ=>(gs Z).mapIdx λk n=>gi (((jH (none::none::cap) Z).set 0 (.fr (.int k))).set 1 (.fr (.int n)))):=
 λpins s σ H Q I h=>yD L hc (zr hgl hm (pa_cons hi pa_nil hst) hst) hg (λ_ _ _=>pM) he hs pins s σ H Q I (abf (UL h))
theorem Yc {t:TE}{st:Stmt}{C:En->Prop}{g:En->List Int}(h:PS X st (tAsg t (gName i)))(k:∀σ H Q,Ef X.K G C g σ H Q->t σ H Q):PS X st (ts X.K G Er λP Z=>C Z/\∀ns,ns=g Z->P.nx (Z.set i (.ow (.ints ns)))):=
 toS h λB σ H Z O P D R c w=>k σ H _ ⟨B,Z,O,R,c.1,λa H1 s1 n1 e1=>w.nx _ H1 _ ⟨hide a O,R.new (p:=.ints (g Z)) s1 n1 e1 rfl⟩ (c.2 _ rfl)⟩
theorem Nv (hN:X.N.Nodup)(hi':X.N[i]?=some x)(hx:X.env.scope.names.lookup x=some .local)(L:u6 X N' sc cl (none::cap))(hc:X.calm=true)(hi:PE X src (Ld X.K G Cs gs))(hg:∀s H fp,PG (jE X N' sc cl s H fp) tg (gName 0))(he:∀s H fp,PE (jE X N' sc cl s H fp) el (lY X.K G Cb gi))
  (hsw:swapsWith (.ListComp el [⟨tg,src,[],0⟩] sc at') (some (.Name x px)) spos.line X.env=pure true) (hs:∀x,foldedSetIterable src X.env x=pure x:=by intro _;rfl) :
  PS X (.Assign [.Name x px] (.ListComp el [⟨tg,src,[],0⟩] sc at') spos) (ts X.K G Er λP Z=>(Cs Z/\(gs Z).length<=1000/\∀n∈gs Z,Cb ((jH (none::cap) Z).set 0 (.fr (.int n))))/\∀ns,ns=((gs Z).map λn=>gi ((jH (none::cap) Z).set 0 (.fr (.int n))))->P.nx (Z.set i (.ow (.ints ns)))):=
 Yc (M6 hN hi' hx L hc (pi_list hi) hg (λ_ _ _=>pM) he hsw hs) λσ H Q h=>ZV (Gs h)
end
theorem jJ {k:En->Prop}(h:Z=Z')(q:k Z'):k Z:=by rw[h];exact q
def tyP:PV->Option Value
 | .int _=>some (.type "int")
 | .bl _=>some (.type "bool")
 | .non=>some (.type "NoneType")
 | .str _=>some (.type "str")
 | .ints _=>some (.type "list")
 | .lst _=>some (.type "list")
 | .tup _=>some (.type "tuple")
 |_=>none
def Wj:PV->Option Value
 | .ty n=>some (.type n)
 | .cls a=>some (.ref a)
 |_=>none
theorem At.ty {K:Fg}{G:Gx}{H:Hp}{p:PV}{v:V}{t:Value}(h:At K G H p v)(e:tyP p=some t):TyOf K H v t:=by
 cases p<;>first|cases e|skip
 ·cases (show v=_ from h);exact .int _
 ·cases (show v=_ from h);exact .bl _
 ·cases (show v=_ from h);exact .non
 ·cases (show v=_ from h);exact .str _
 ·obtain⟨a,rfl,r|⟨o,r⟩⟩:=h
  ·exact .lst r
  ·exact .frz r
 ·obtain⟨a,vs,rfl,r|⟨o,r⟩,_⟩:=h
  ·exact .lst r
  ·exact .frz r
 ·obtain⟨a,vs,rfl,r,_⟩:=h;exact .tup r
theorem At.cls {K:Fg}{G:Gx}{H:Hp}{p:PV}{v:V}{t:Value}(h:At K G H p v)(e:Wj p=some t):Yb v=some t:=by
 cases p<;>first|cases e|skip
 ·cases (show v=_ from h);rfl
 ·cases (show v=_ from h);rfl
def oX (K:Fg)(p c:PV):Bool:=match tyP p,Wj c with
 |some t,some cv=>W.kitOne K t cv == some true
 |_,_=>false
def Yd (K:Fg)(p c:PV):Prop:=∃t cv b,tyP p=some t/\Wj c=some cv/\W.kitOne K t cv=some b
theorem oW {K:Fg}{p c:PV}{t cv:Value}{b:Bool}(h1:tyP p=some t)(h2:Wj c=some cv)(h:W.kitOne K t cv=some b):oX K p c=b:=by unfold oX;rw[h1,h2];show(W.kitOne K t cv == some true)=b;rw[h];cases b<;>rfl
theorem TyOf.up {K:Fg}{H H':Hp}{v:V}{t:Value}(s:Same H H')(h:TyOf K H v t):TyOf K H' v t:=by
 cases h with
 |non=>exact .non
 |bl x=>exact .bl x
 |int x=>exact .int x
 |str x=>exact .str x
 |flt x=>exact .flt x
 |lst e=>exact .lst (s _ _ e)
 |frz e=>exact .frz (s _ _ e)
 |tup e=>exact .tup (s _ _ e)
 |dK e=>exact .dK (s _ _ e)
 |dT e=>exact .dT (s _ _ e)
 |ins e a b c d f=>exact .ins (s _ _ e) a b c d f
section
variable {X:Cx}{G:Gx}{a b c e:Expr}{es:List Expr}{pos p px apos:Pos}{C Ca Cb Cc:En->Prop}{ga gc:En->PV}{gi gj:En->Int}{i j k n:Nat}{x m:Str}
theorem nA (hm:X.mg "isinstance"=none)(ha:PE X a (tX X.K G Ca ga))(hc:PE X c (tX X.K G Cc gc))(hg:Gl X "isinstance":=by rfl)(he:starEach [a,c] X.env=(false,eval a X.env)::starEach [c] X.env:=by rfl)(he2:starEach [c] X.env=[(false,eval c X.env)]:=by rfl)(hpl:(backTo pos (starEach [c] X.env)).any (·.1)=false:=by rfl) :
  PE X (.Call (.Name "isinstance" p) [a,c] [] pos) (Qu X.K G (λZ=>Ca Z/\Cc Z/\Yd X.K (ga Z) (gc Z)) λZ=>oX X.K (ga Z) (gc Z)=true):=
 uN (pe_callB JB hg hm Cw (pa_cons ha (pa_cons hc pa_nil he2) he) (by decide) (by decide) he hpl) λB σ H Z O Q R cc q=>⟨B,Z,O,R,cc.1,λv H1 s1 a1=>⟨B,Z,O,R.grow s1,cc.2.1,λu H2 s2 a2=>by
  obtain⟨t,cv,b,e1,e2,e3⟩:=cc.2.2;refine⟨v,u,t,cv,b,rfl,a2.cls e2,TyOf.up (jQ.trans s2) (a1.ty e1),e3,q _ H2 (s1.trans s2) ?_⟩;have z:oX X.K (ga Z) (gc Z)=b:=oW e1 e2 e3;show V.bl b=V.bl (decide (oX X.K (ga Z) (gc Z)=true));rw[z,fS]⟩⟩
abbrev JD (K:Fg)(G:Gx)(pre:List PV->Prop)(F:List PV->Int):Sp:=yu K G pre λas=>.int (F as)
abbrev Qk (K:Fg)(G:Gx)(pre:List PV->Prop)(F:List PV->Bool):Sp:=yu K G pre λas=>.bl (F as)
abbrev Xb (K:Fg)(G:Gx)(pre:List PV->Prop)(F:List PV->List Int):Sp:=yu K G pre λas=>.ints (F as)
variable {ps:List Str}{pre:List PV->Prop}{gs:En->List PV}
theorem Yi (o:Ok X.prog X.w X.K X.mg X.base j x ps (Xb X.K G pre F))(hr:Room k X.A)(ha:PA X (e::es) (M7 X.K G C gs))(hj:j<=k:=by decide)(hg:Gl X x:=by rfl)(hdb:(x == ("__debug__":Str))=false:=by decide)
  (he:starEach (e::es) X.env=(false,eval e X.env)::starEach es X.env:=by rfl) (hpl:(backTo pos (starEach es X.env)).any (·.1)=false:=by rfl) :
  PE X (.Call (.Name x p) (e::es) [] pos) (Ld X.K G (λZ=>C Z/\pre (gs Z)) λZ=>F (gs Z)):=xc o hr ha hj hg hdb he hpl
theorem ZK (o:Ok X.prog X.w X.K X.mg X.base j x ps (JD X.K G pre F))(hr:Room k X.A)(ha:PA X (e::es) (M7 X.K G C gs))(hj:j<=k:=by decide)(hg:Gl X x:=by rfl)(hdb:(x == ("__debug__":Str))=false:=by decide)
  (he:starEach (e::es) X.env=(false,eval e X.env)::starEach es X.env:=by rfl) (hpl:(backTo pos (starEach es X.env)).any (·.1)=false:=by rfl) :
  PE X (.Call (.Name x p) (e::es) [] pos) (lY X.K G (λZ=>C Z/\pre (gs Z)) λZ=>F (gs Z)):=xc o hr ha hj hg hdb he hpl
theorem U0 (o:Ok X.prog X.w X.K X.mg X.base j x ps (Qk X.K G pre F))(hr:Room k X.A)(ha:PA X (e::es) (M7 X.K G C gs))(hj:j<=k:=by decide)(hg:Gl X x:=by rfl)(hdb:(x == ("__debug__":Str))=false:=by decide)
  (he:starEach (e::es) X.env=(false,eval e X.env)::starEach es X.env:=by rfl) (hpl:(backTo pos (starEach es X.env)).any (·.1)=false:=by rfl) :
  PE X (.Call (.Name x p) (e::es) [] pos) (Qu X.K G (λZ=>C Z/\pre (gs Z)) λZ=>F (gs Z)=true):=
 uN (xc o hr ha hj hg hdb he hpl) λB σ H Z O Q R c q=>⟨B,Z,O,R,c,λv H' s a=>q v H' s (by dsimp only;rw[fS];exact a)⟩
def K4 (Z:En)(i:Nat):Int:=match Z[i]? with
 |some (.fr (.ob 0 z))=>z
 |_=>0
def isK (Z:En)(i:Nat):Prop:=Z[i]?=some (.fr (.ob 0 (K4 Z i)))
theorem qO {KA:Hp->Addr->Int->Prop}{preK:Int->List Int->Prop}{F:Int->List Int->Int}{pl:Sem Bool}(i:Nat)(M:KM X.prog X.w X.K X.mg X.base j KA m n preK F)(hr:Room k X.A)(ha:PA X (e::es) (M7 X.K G C gs))(hn:∀Z,(gs Z).length=n:=by intro _;rfl)(hG:∀H a z,G.ob 0 H a z->KA H a z:=by first|exact λ_ _ _ h=>h.2|exact λ_ _ _ h=>h.elim (λz=>z.2) λz=>absurd z.1 (by decide))(hGm:∀{H H':Hp} {a:Addr} {z:Int},KA H a z->Same H H' -> KA H' a z:=by first|exact λh s=>KAt.same h s|exact λh s=>h.same s)(hj:j<=k:=by decide)
  (hN:X.N[i]?=some x:=by rfl) (hv:Vis X.env.scope x:=by first|exact Or.inl rfl|exact Or.inr (Or.inl rfl)|exact Or.inr (Or.inr rfl)) (hd:(x == ("__debug__":Str))=false:=by decide) (hcd:(x == ("__classdict__":Str))=false:=by decide)
  (hst:starEach (e::es) X.env=(false,eval e X.env)::starEach es X.env:=by rfl) (hpl:(backTo pos (starEach es X.env)).any (·.1)=false:=by rfl)
  (ht:eval (.Call (.Attribute (.Name x px) m apos) (e::es) [] pos) X.env=(do
   let ov <- eval (.Name x px) X.env
   standAt apos.atName
   let (f,first) <- holding [ov] (getMethod ov m pl)
   callWith pos f first (backTo pos (starEach (e::es) X.env)) (backToKw pos (keywordEach [] X.env))):=by rfl) :
  PE X (.Call (.Attribute (.Name x px) m apos) (e::es) [] pos) (lY X.K G (λZ=>isK Z i/\C Z/\Kw (gs Z)/\preK (K4 Z i) (tZ (gs Z))) λZ=>F (K4 Z i) (tZ (gs Z))):=by
 intro pins s σ H Q I h;obtain⟨B,Z,O,R,⟨c0,c1,c2,c3⟩,q⟩:=h;obtain⟨v,e1,a,rfl,ka⟩:=R.fr i _ c0;have ka1:KA H a (K4 Z i):=hGm (hG _ _ _ ka) jQ;obtain⟨Cl,dx,fs,ps,f1,f2,M'⟩:=M.ex H a _ ka1;obtain⟨f,fd,FF,bb,mm,cc⟩:=M'.ex;refine pe_meth (pe_var hN hv hd hcd) cc mm (FF.mono hj) hr bb .nil pass0 ha hst hpl ht pins s σ H Q I ⟨_,e1,a,dx,fs,rfl,f1,f2,B,Z,O,R,c1,λvs H1 s1 a1=>?_⟩;have ev:=a1.ints c2;have el:(tZ (gs Z)).length=n:=by rw[<- hn Z,a1.length,ev,aa]
 exact⟨tZ (gs Z),el,by rw[bu,ev],hGm ka1 s1,c3,q _ H1 s1 rfl⟩
end
theorem Ja:∀{as:List PV},Kw as->(tZ as).length=as.length
 |[],_=>rfl
 |p::r,h=>by
  cases p<;>first|exact h.elim|skip
  show(tZ r).length+1=r.length+1;rw[Ja (as:=r) h]
section
variable {P:Program}{w:World}{K:Fg}{mg:Mg}{base:Heap}{G:Gx}{k n:Nat}{x:Str}{ps:List Str}
def aam:List PV->List Int
 | .scr ns::_=>ns
 |_=>[]
def aad (n:Nat)(pre:List Int->List Int->Prop):List PV->Prop
 | .scr ns::r=>Kw r/\r.length=n/\pre ns (tZ r)
 |_=>False
theorem aah (o:Ok P w K mg base k x ps (spS K n pre F)):Ok P w K mg base k x ps (JD K G (aad n pre) λas=>F (aam as) (tZ as.tail)):=
 o.imp λvs H Q E ⟨as,O,_,al,hp,q⟩=>by
  match as,hp,al,q with
  | .scr ns::r,⟨h1,h2,h3⟩,al,q=>obtain⟨v,t,rfl,⟨a,rfl,hs⟩,al2⟩:=al;exact⟨a,ns,tZ r,by rw[Ja h1,h2],by rw[al2.ints h1],jQ.seq hs,h3,q _ H (Same.refl H) rfl⟩
end
section
variable {X:Cx}{G:Gx}{Er:ER}{b e:Expr}{px ps pos:Pos}{C Cb:En->Prop}{g gb:En->Int}
theorem S7:PGet X (rIxL X.K):=by
 intro pins s σ H x y v u Q I rx ry h;obtain⟨p,xs,i,z,rfl,rfl,hq,he,q⟩:=h;cases rx;obtain⟨t,rfl⟩:=ry;obtain⟨its,r,pl,hz⟩:=I.list hq;obtain⟨j,h1,h2,h3,h4,h5⟩:=atI_get he;obtain⟨w,ew,rw'⟩:=r.get h2;have hl:=r.length;have hn:=line63;have fin:EP X pins σ Q w s:=⟨z,H,I,rw',q⟩;by_cases h0:0<=i
 ·have hj:i.toNat=j:=by rw[iN h0 h5]at h1;exact aF h1
  exact wpAny_getItem_list pl.isList h0 (by lia) (by rw[hj];simpa using ew) fin
 ·have hj:(i+(its.toArray.size:Int)).toNat=j:=by rw[hZ (by lia) h4]at h1;rw[aw,<- hl];exact aF h1
  exact wpAny_getItem_list_neg pl.isList (by lia) (by rw[aw]<;>lia) (by lia) (by rw[hj];simpa using ew) fin
theorem Dd (i:Nat){op:Operator}{Pr:Int->Int->Prop}{h:Int->Int->Int}(hk:PE X b (lY X.K G Cb gb))(he:PE X e (lY X.K G C g))(ho:OpR X (inplaceOp op) (rI Pr λi j=>.int (h i j)))(hN:X.N[i]?=some x:=by rfl)(hv:Vis X.env.scope x:=by first|exact Or.inl rfl|exact Or.inr (Or.inl rfl)|exact Or.inr (Or.inr rfl))
  (hd:(x == ("__debug__":Str))=false:=by decide) (hcd:(x == ("__classdict__":Str))=false:=by decide)
  (ha:∀ov iv new,augStore b ov iv new=(do holding [new,ov,iv] (setItem ov iv new);release [new,ov,iv] [];pure .next):=by intros;rfl) :
  PS X (.AugAssign (.Subscript (.Name x px) b ps) op e pos) (ts X.K G Er λP Z=>XH Z i/\Cb Z/\(-((getL Z i).length:Int)<=gb Z/\gb Z<((getL Z i).length:Int))/\C Z/\Pr ((getL Z i).getD (jZ (getL Z i).length (gb Z)) 0) (g Z) /\
   P.nx (Z.set i (.ow (.ints ((getL Z i).set (jZ (getL Z i).length (gb Z)) (h ((getL Z i).getD (jZ (getL Z i).length (gb Z)) 0) (g Z))))))):=
 toS (ps_augS (pe_var hN hv hd hcd) hk S7 he ho set_list ha) λB σ H Z O P D R c w=>by obtain⟨c0,c1,cb,c2,cp,c3⟩:=c;obtain⟨a,vs,e1,e2,e3,e4,e5⟩:=R.ow i _ c0;subst e5;refine⟨_,e1,B,Z,O,R,c1,λu H1 s1 a1=>?_⟩;subst a1;refine⟨a,_,_,_,rfl,rfl,SqL.of (s1 _ _ e4),getD_at cb.1 cb.2,B,Z,O,R.grow s1,c2,λv H2 s2 a2=>?_⟩;subst a2;refine⟨_,_,rfl,rfl,cp,a,_,_,_,rfl,rfl,s2 _ _ (s1 _ _ e4),by rw[aa];exact Fe cb.1 cb.2,w.nx σ _ _ ⟨O,((R.grow s1).grow s2).change c0 e1 (p':=.ints _) ?_⟩ c3⟩;show _=((getL Z i).set _ _).map V.int;rw[i7];rfl
end
end L3
namespace L3
open PySem PyProof.Rows L2 FM
theorem z7 (xs:Li)(lo hi:Option Int):(rM xs lo hi).length<=xs.length:=by unfold rM;rw[aI,aY];lia
theorem uT (xs:Li)(a:Nat):rM xs (some (a:Int)) none=xs.drop a:=by
 unfold rM;rw[HT.sIx_nat,HT.sIx_none];by_cases h:a<=xs.length
 ·rw[dQ h,ce (by rw[aY];lia)]
 ·rw[fA (by lia),dF (ai _),dF (by lia),List.take_nil]
theorem Lj (xs:Li)(b:Nat):rM xs none (some (b:Int))=xs.take b:=by
 unfold rM;rw[HT.sIx_nat,HT.sIx_none,iI,gq];by_cases h:b<=xs.length
 ·rw[dQ h]
 ·rw[fA (by lia),ce (ai _),ce (by lia)]
theorem zU {z a:Int}{B:Nat}(hz:0<=z)(hz2:z<(B:Int))(ha:a.natAbs<B):(pl z a).natAbs<B:=by
 by_cases h:z=0
 ·subst h;exact ha
 ·have:=BX (z:=z) (n:=a) (by lia);lia
theorem Wk (h:a*b+c<9000):2^c*(2^a)^b<2^9000:=by rw[<- Nat.pow_mul,<- je];exact bc (by decide) (by lia)
theorem Tf {x:Int}{xs:Li}(hx:x.natAbs<=2^100)(hl:xs.length<=80)(hm:∀n∈xs,n.natAbs<=2^200):(ev xs x).natAbs<2^9000:=by refine aO (QZ hx (dz (by decide)) xs hm) ?_;refine aO (gB (gB (aC hl (show 80<=2^7 by decide)) (ai _)) (cF (dz (by decide)) hl)) ?_;rw[<- je];exact Wk (by decide)
theorem Qi {α:Type}{xs:List α}{i:Nat}{n:α}(h:i<xs.length)(e:xs[xs.length-1-i]?=some n):xs.drop (xs.length-(i+1))=n::xs.drop (xs.length-i):=by
 have l:xs.length-(i+1)<xs.length:=by lia
 have e1:xs.length-1-i=xs.length-(i+1):=by lia
 have e2:xs.length-(i+1)+1=xs.length-i:=by lia
 rw[e1,ac l]at e;rw[eH l,e2,aF e]
end L3
namespace L2
open PySem PySem.Spec PyProof.Rows
def pB {α:Type}(xs:List α)(lo hi st:Option Int):List α:=(sliceRange (sliceBounds lo hi st xs.length).1 (sliceBounds lo hi st xs.length).2.1 (sliceBounds lo hi st xs.length).2.2).filterMap λk=>xs[k]?
theorem xT (r:Vals xs its):∀l:List Nat,Vals (l.filterMap λk=>xs[k]?) (l.filterMap λk=>its[k]?)
 |[]=>.nil
 |k::l=>by
  rw[bA,bA];cases e:xs[k]? with
  |none=>rw[r.none_of e];exact xT r l
  |some x=>obtain⟨u,e',ru⟩:=r.get e;rw[e'];exact .cons ru (xT r l)
theorem Uq (xs:List α)(lo hi st:Option Int):(pB xs lo hi st).length<=xs.length:=by
 unfold pB;have h:=slicePick_size_le (xs.map λ_=>Value.none).toArray lo hi st;unfold slicePick at h;rw[aw,aw,aa]at h;refine aC (i6 ?_) h;generalize sliceRange _ _ _=l
 induction l with
 |nil=>rfl
 |cons k l ih=>
  rw[bA,bA,im,ao];cases xs[k]? with
  |none=>exact ih
  |some x=>simp only[dM,aG,ih]
theorem R8 (f:α->β)(xs:List α)(lo hi st:Option Int):pB (xs.map f) lo hi st=(pB xs lo hi st).map f:=by
 unfold pB;rw[aa];generalize sliceRange _ _ _=l
 induction l with
 |nil=>rfl
 |cons k l ih=>
  rw[bA,bA,ao];cases xs[k]? with
  |none=>exact ih
  |some x=>simp only[dM,aX,ih]
section
variable {X:Cx}{e st:Expr}{te:TE}{lo hi:Option Expr}{tl th tt:TO}{pos p2:Pos}
def abj (K:Fg)(te:TE)(tl th tt:TO):TE:=λσ H Q=>te σ H λx H1=>tl σ H1 λl H2=>th σ H2 λu H3=>tt σ H3 λk H4=>∃a xs,x=.ref a/\SqL K H4 a xs/\k≠some 0/\∀p,H4 p=none->Q (.ref p) (upd H4 p (.lst (pB xs l u k)))
theorem Pb (he:PE X e te)(hl:PO X lo tl)(hu:PO X hi th)(ht:PO X (some st) tt):PE X (.Subscript e (.Slice lo hi (some st) p2) pos) (abj X.K te tl th tt):=by
 intro pins s σ H Q I h;refine Subscript_ (thn (he pins s σ H _ I h) λv s1 ⟨x,H1,I1,r1,q1⟩=>?_);refine wpAny_Slice (thn (hl pins s1 σ H1 _ I1 q1) λvl s2 ⟨l,H2,I2,pl,q2⟩=>thn (hu pins s2 σ H2 _ I2 q2) λvu s3 ⟨u,H3,I3,pu,q3⟩=>thn (ht pins s3 σ H3 _ I3 q3) λvs s4 ⟨k,H4,I4,pk,q4⟩=>?_);obtain⟨a,xs,rfl,hx,h0,q⟩:=q4;cases r1;have I5:Inv X pins σ H4 { s4 with heap:=s4.heap.push { cls:=.type "slice",data:=.fields #[vl,vu,vs] } }:=I4.kept (t':=s4.toks) λb ob q=>ay _ q;obtain⟨its,r,ht',hz⟩:=I5.list hx;have hlen:=r.length;refine tail_any (ops:=[.ref a,.ref s4.heap.objs.size]) ht'.isList.typeIs slot_list_getitem.lookup ?_ (by with_unfolding_all rfl);refine wpAny_getItem_list_slice ht'.isList (Heap.IsSliceOf.new ..) pl pu pk h0 ?_ (by rw[aw]<;>lia);have ep:slicePick its.toArray l u k=(pB its l u k).toArray:=by unfold slicePick pB;rw[aw];congr 1;congr 1;funext j;exact im
 rw[ep];refine⟨.ref _,_,I5.laid (t':=s4.toks) (o:=.lst (pB xs l u k)) (λb ob q=>ay _ q) (ai _) ?_,rfl,q _ (I5.hok.fresh (ai _))⟩;refine⟨aC (Uq xs l u k) hz,_,0,?_,a8 _ rfl⟩;unfold pB;rw[<- hlen];exact xT r _
end
end L2
namespace L3
open PySem PySem.Spec PyProof.Rows L2
section
variable {X:Cx}{G:Gx}{a:Expr}{pos p2:Pos}{C:En->Prop}
theorem yl {st:Expr}{lo hi:Option Expr}{g:En->PV}{ns:En->List Int}{Cl Ch Cs:En->Prop}{gl gh gk:En->Option Int}(ha:PE X a (tX X.K G C g))(hl:PO X lo (WX X.K G Cl gl))(hh:PO X hi (WX X.K G Ch gh))(hs:PO X (some st) (WX X.K G Cs gk))(hn:∀Z,C Z->g Z=.ints (ns Z)\/g Z=.scr (ns Z)) :
  PE X (.Subscript a (.Slice lo hi (some st) p2) pos) (Ef X.K G (λZ=>C Z/\Cl Z/\Ch Z/\Cs Z/\gk Z≠some 0) λZ=>pB (ns Z) (gl Z) (gh Z) (gk Z)):=
 KQ (Pb ha hl hh hs) λB σ H Z O Q R c q=>⟨B,Z,O,R,c.1,λv H1 s1 a1=>⟨B,Z,O,R.grow s1,c.2.1,λH2 s2=>⟨B,Z,O,(R.grow s1).grow s2,c.2.2.1,λH3 s3=>⟨B,Z,O,((R.grow s1).grow s2).grow s3,c.2.2.2.1,λH4 s4=>by
  have key:∃p,v=.ref p/\SqL X.K H1 p ((ns Z).map V.int):=by
   rcases hn Z c.1 with z|z
   ·rw[z]at a1;obtain⟨p,e,r⟩:=a1;exact⟨p,e,.inl (jy jQ r)⟩
   ·rw[z]at a1;obtain⟨p,e,r⟩:=a1;exact⟨p,e,jQ.seq r⟩
  obtain⟨p,rfl,r⟩:=key;refine⟨p,_,rfl,((s2.trans s3).trans s4).seq r,c.2.2.2.2,λl hl=>q l _ ((((s1.trans s2).trans s3).trans s4).trans (same_new hl _)) ((((s1.trans s2).trans s3).trans s4).free hl) ?_⟩;rw[upd_same,R8]⟩⟩⟩⟩
end
end L3
namespace FM
open L2
theorem jr {xs:Li}{n:Nat}(h:xs.length<=n):xs.getD n 0=0:=by rw[gQ,bw h];rfl
theorem jB {xs:Li}{n:Nat}(h:n<xs.length):xs.getD n 0=xs[n]:=by rw[gQ,ac h];rfl
theorem getD_at' {xs:Li}{n:Nat}{x:Int}(h:xs[n]?=some x):xs.getD n 0=x:=by rw[gQ,h];rfl
theorem getD_mem {xs:Li}{n:Nat}(h:n<xs.length):xs.getD n 0∈xs:=by rw[jB h];exact bC h
theorem ni (f:Int->Int)(h0:f 0=0)(xs:Li)(n:Nat):(xs.map f).getD n 0=f (xs.getD n 0):=by
 by_cases h:n<xs.length
 ·rw[jB (by rw[aa];exact h),br,jB h]
 ·rw[jr (by rw[aa];lia),jr (by lia),h0]
theorem lW (z:Int):pl z 0=0:=by
 unfold pl;split
 ·rfl
 ·exact Int.zero_emod z
theorem wQ (xs:Li)(x:Int)(n:Nat):(xs++[x]).getD n 0=if n=xs.length then x else xs.getD n 0:=by
 by_cases h:n<xs.length
 ·rw[jB (by rw[ah];lia),gG h,ae (by lia),jB h]
 ·by_cases h2:n=xs.length
  ·subst h2;rw[af rfl,jB (by rw[ah,bv];lia),gC (ai _)];simp
  ·rw[ae h2,jr (by rw[ah,bv];lia),jr (by lia)]
theorem Ov (xs:Li):xs=[]\/∃ys x,xs=ys++[x]:=by
 by_cases h:xs=[]
 ·exact .inl h
 ·exact .inr ⟨_,_,(dH h).symm⟩
theorem Di:∀(k:Nat) (xs:Li),xs.length=k->∀n,(kJ xs).getD n 0=xs.getD n 0
 |0,xs,h,n=>by have:xs=[]:=dA.mp h;subst this;rfl
 |k+1,xs,h,n=>by
  rcases Ov xs with rfl|⟨ys,x,rfl⟩
  ·rfl
  ·by_cases hx:x=0
   ·subst hx;have hl:ys.length=k:=by rw[ah,bv]at h;lia
    rw[vK,Di k ys hl n,wQ];by_cases h2:n=ys.length
    ·rw[af h2,jr (by lia)]
    ·rw[ae h2]
   ·rw[BR _ hx]
theorem wB (xs:Li)(n:Nat):(kJ xs).getD n 0=xs.getD n 0:=Di _ xs rfl n
def j9 (xs:List Int):Prop:=xs≠[]->xs.getD (xs.length-1) 0≠0
theorem Ae:∀(k:Nat) (xs:Li),xs.length=k->j9 (kJ xs)
 |0,xs,h=>by have:xs=[]:=dA.mp h;subst this;intro h;exact absurd rfl h
 |k+1,xs,h=>by
  rcases Ov xs with rfl|⟨ys,x,rfl⟩
  ·intro h;exact absurd rfl h
  ·by_cases hx:x=0
   ·subst hx;rw[vK];exact Ae k ys (by rw[ah,bv]at h;lia)
   ·rw[BR _ hx];intro _;rw[wQ,af (by rw[ah,bv];lia)];exact hx
theorem sy (xs:Li):j9 (kJ xs):=Ae _ xs rfl
theorem oU {a b:Li}(ha:j9 a)(hb:j9 b)(h:∀n,a.getD n 0=b.getD n 0):a=b:=by
 have le:∀{a b:List Int},j9 a->(∀n,a.getD n 0=b.getD n 0)->a.length<=b.length:=λ{a b} ha h=>by
  by_cases c:a.length<=b.length
  ·exact c
  ·have hne:a≠[]:=λz=>by subst z;exact c (bh _)
   exact absurd (by rw[h,jr (by lia)]) (ha hne)
 have hl:a.length=b.length:=Nat.le_antisymm (le ha h) (le hb λn=>(h n).symm);refine cj hl λi h1 h2=>?_;have:=h i;rw[jB h1,jB h2]at this;exact this
theorem Je (h:∀n,a.getD n 0=b.getD n 0):kJ a=kJ b:=
 oU (sy a) (sy b) λn=>by rw[wB,wB,h]
theorem G3 {z:Int}{a b:Li}(h:∀n,pl z (a.getD n 0)=pl z (b.getD n 0)):kJ (a.map (pl z))=kJ (b.map (pl z)):=
 Je λn=>by rw[ni _ (lW z),ni _ (lW z),h]
def Tz (z:Int)(f:List Int):List Int:=kJ (f.map (pl z))
theorem lD (z:Int)(f:Li)(n:Nat):(Tz z f).getD n 0=pl z (f.getD n 0):=by unfold Tz;rw[wB,ni _ (lW z)]
theorem m8 (z:Int)(f:Li):(Tz z f).length<=f.length:=by unfold Tz;refine aC (Dw _) ?_;rw[aa];exact ai _
theorem mem_getD {xs:Li}{m:Int}(h:m∈xs):∃n,n<xs.length/\xs.getD n 0=m:=by obtain⟨n,h1,h2⟩:=List.getElem_of_mem h;exact⟨n,h1,by rw[jB h1,h2]⟩
theorem YH {z:Int}{f:Li}{m:Int}(h:m∈Tz z f):∃k∈f,m=pl z k:=by obtain⟨n,h1,h2⟩:=mem_getD h;rw[lD]at h2;exact⟨f.getD n 0,getD_mem (aD h1 (m8 z f)),h2.symm⟩
def sm:Nat->(Nat->Int)->Int
 |0,_=>0
 |n+1,f=>sm n f+f n
theorem jw:∀{n:Nat},(∀i,i<n->f i=g i)->sm n f=sm n g
 |0,_=>rfl
 |n+1,h=>by show sm n f+f n=sm n g+g n;rw[jw λi hi=>h i (by lia),h n (by lia)]
theorem m5:∀{n:Nat},(∀i,i<n->f i=0)->sm n f=0
 |0,_=>rfl
 |n+1,h=>by show sm n f+f n=0;rw[m5 λi hi=>h i (by lia),h n (by lia)];rfl
theorem zm:∀{m:Nat},n<=m->(∀i,n<=i->i<m->f i=0)->sm m f=sm n f
 |0,h,_=>by
  have:n=0:=by lia
  subst this;rfl
 |m+1,h,z=>by
  by_cases c:n=m+1
  ·subst c;rfl
  ·show sm m f+f m=sm n f;rw[z m (by lia) (by lia),bH];exact zm (by lia) λi h1 h2=>z i h1 (by lia)
theorem qx (f:Nat->Int):∀n,sm (n+1) f=f 0+sm n λi=>f (i+1)
 |0=>by show 0+f 0=f 0+0;lia
 |n+1=>by show sm (n+1) f+f (n+1)=f 0+(sm n (λi=>f (i+1))+f (n+1));rw[qx f n];lia
theorem Rr (f:Nat->Int):∀n,sm (n+1) f=sm (n+1) λi=>f (n-i)
 |0=>rfl
 |n+1=>by
  rw[qx (λi=>f (n+1-i)) (n+1)];show sm (n+1) f+f (n+1)=f (n+1-0)+sm (n+1) λi=>f (n+1-(i+1));rw[Rr f n,gq];have:sm (n+1) (λi=>f (n-i))=sm (n+1) λi=>f (n+1-(i+1)):=jw λi _=>by rw[Nat.add_sub_add_right]
  lia
theorem Xm:∀{n:Nat},(∀i,i<n->pl z (f i)=pl z (g i))->pl z (sm n f)=pl z (sm n g)
 |0,_=>rfl
 |n+1,h=>by show pl z (sm n f+f n)=pl z (sm n g+g n);rw[<- Aa,<- Ln,Xm λi hi=>h i (by lia),h n (by lia),Aa,Ln]
def cm (f g:List Int)(n:Nat):Int:=sm (n+1) λi=>f.getD i 0*g.getD (n-i) 0
theorem jG (f g:Li)(n:Nat):cm f g n=cm g f n:=by unfold cm;rw[Rr];refine jw λi hi=>?_;rw[b7,show n-(n-i)=i by lia]
theorem aaq (hf:∀n,pl z (f.getD n 0)=pl z (f'.getD n 0))(hg:∀n,pl z (g.getD n 0)=pl z (g'.getD n 0))(n:Nat):pl z (cm f g n)=pl z (cm f' g' n):=
 Xm λi _=>by rw[<- Ai,<- zF,hf,hg,Ai,zF]
def Hr (f g:List Int)(n i:Nat):Int:=sm i λj=>if j<=n then f.getD j 0*g.getD (n-j) 0 else 0
theorem Pz (f g:Li)(n:Nat){i:Nat}(h:f.length<=i):Hr f g n i=cm f g n:=by
 have e:cm f g n=Hr f g n (n+1):=jw λj hj=>by rw[af (by lia)]
 rw[e];unfold Hr;rcases Nat.le_total i (n+1) with c|c
 ·refine(zm c λj h1 h2=>?_).symm;rw[jr (show f.length<=j by lia),bR];split<;>rfl
 ·refine zm c λj h1 h2=>?_;rw[ae (by lia)]
theorem S5 {n:Nat}(h:f.length+g.length<=n+1):cm f g n=0:=by
 unfold cm;refine m5 λi hi=>?_;by_cases c:i<f.length
 ·rw[jr (show g.length<=n-i by lia),aT]
 ·rw[jr (show f.length<=i by lia),bR]
def jq (f g:List Int):List Int:=(List.range (f.length+g.length)).map (cm f g)
theorem jn (f g:Li)(n:Nat):(jq f g).getD n 0=cm f g n:=by
 unfold jq;by_cases h:n<f.length+g.length
 ·rw[jB (by rw[aa,aq];exact h),br,bn]
 ·rw[jr (by rw[aa,aq];lia),S5 (by lia)]
theorem SJ {a b:Li}(hl:a.length=b.length)(h:∀n,a.getD n 0=b.getD n 0):a=b:=by refine cj hl λi h1 h2=>?_;have:=h i;rw[jB h1,jB h2]at this;exact this
def tK (f g:List Int)(i k:Nat)(row:List Int):Prop:=row.length=f.length+g.length/\∀n,row.getD n 0=Hr f g n i+if i<=n/\n-i<k then f.getD i 0*g.getD (n-i) 0 else 0
theorem De (f g:Li):tK f g 0 0 (List.replicate (f.length+g.length) 0):=by
 refine⟨aN,λn=>?_⟩;rw[ae (by lia)];by_cases h:n<f.length+g.length
 ·rw[jB (by rw[aN];exact h),cI];rfl
 ·rw[jr (by rw[aN];lia)];rfl
theorem rB (row:Li)(j:Nat)(x:Int)(n:Nat)(h:j<row.length):(row.set j x).getD n 0=if n=j then x else row.getD n 0:=by
 by_cases c:n=j
 ·subst c;rw[af rfl,jB (by rw[bQ];exact h),List.getElem_set_self]
 ·rw[ae c,gQ,d9 (by lia),<- gQ]
theorem I8 (h:tK f g i k row)(hi:i<f.length)(hk:k<g.length):tK f g i (k+1) (row.set (i+k) (row.getD (i+k) 0+f.getD i 0*g.getD k 0)):=by
 obtain⟨hl,hr⟩:=h;refine⟨by rw[bQ];exact hl,λn=>?_⟩;rw[rB _ _ _ _ (by lia)];by_cases c:n=i+k
 ·subst c;rw[af rfl,hr,ae (by lia),af (by lia),show i+k-i=k by lia];lia
 ·rw[ae c,hr];by_cases d:i<=n/\n-i<k
  ·rw[af d,af (by lia)]
  ·rw[ae d,ae (by lia)]
theorem IW {i:Nat}(h:tK f g i g.length row):tK f g (i+1) 0 row:=by
 obtain⟨hl,hr⟩:=h;refine⟨hl,λn=>?_⟩;rw[hr,ae (show ¬(i+1<=n/\n-(i+1)<0) by lia)];show _=Hr f g n i+(if i<=n then f.getD i 0*g.getD (n-i) 0 else 0)+0;by_cases c:i<=n
 ·rw[af c];by_cases d:n-i<g.length
  ·rw[af ⟨c,d⟩];lia
  ·rw[ae (by lia),jr (show g.length<=n-i by lia),aT];lia
 ·rw[ae (by lia),ae c];lia
theorem row_end {f g row:Li}(h:tK f g f.length 0 row):row=jq f g:=by obtain⟨hl,hr⟩:=h;refine SJ (by rw[hl];unfold jq;rw[aa,aq]) λn=>?_;rw[hr,ae (by lia),jn,Pz f g n (ai _)];lia
theorem Hq (z:Int)(f g:Li):Tz z (jq (Tz z f) (Tz z g))=Tz z (jq f g):=
 G3 λn=>by rw[jn,jn];exact aaq (λk=>by rw[lD,uf]) (λk=>by rw[lD,uf]) n
end FM
section
open PySem PySem.Spec PyProof.Rows
namespace L3
open L2
theorem aat (H:Hp):mn H (λ_=>false)=H:=by funext b;exact qX rfl
def W8 (K:Fg)(G:Gx)(C:En->Prop)(g:En->PV):TE:=λσ H Q=>∃B Z O,Rep K G B σ H Z O/\C Z/\∀v H',Same H H' -> At K G H' (g Z) v->Q v H'
section
variable {X:Cx}{G:Gx}{Er:ER}{a b c e:Expr}{es:List Expr}{pos p px ps pa pc:Pos}{C Ca Cb:En->Prop}{g:En->PV}{gs:En->List PV}{gi:En->Int}{i j k:Nat}{x:Str}{pl:List Str}{pre:List PV->Prop}
theorem ZJ (h:PE X e (tX X.K G C g)):PE X e (W8 X.K G C g):=λpins s σ H Q I ⟨B,Z,O,R,c,q⟩=>h pins s σ H Q I ⟨B,Z,O,R,c,λv H' s a=>q v H' s (At.mono jQ _ _ a)⟩
end
end L3
namespace L2
theorem w6:∀{ns:Li} {its:Lv},Vals (ns.map V.int) its->IntsAre its ns
 |[],_,h=>by cases h;exact .nil
 |n::r,_,h=>by
  cases h with
  |cons a b=>obtain⟨t,rfl⟩:=a;exact .cons n t (w6 b)
def abg (g:List Int->List Int->Bool):R2:=λx y H Q=>∃a b ns ms,x=.ref a/\y=.ref b/\Rd H a (.lst (ns.map V.int))/\Rd H b (.lst (ms.map V.int))/\Q (.bl (g ns ms)) H
section
variable {X:Cx}
theorem We (hu:X.A.units+64<cLine):OpR X (compareOp .Eq) (abg λns ms=>decide (ns=ms)):=by intro pins s σ H x y v u Q I rx ry h;obtain⟨a,b,ns,ms,rfl,rfl,ha,hb,q⟩:=h;cases rx;cases ry;obtain⟨_,its,n,r,_,e⟩:=L3.Inv.Kr I ha;obtain⟨_,its2,n2,r2,_,e2⟩:=L3.Inv.Kr I hb;exact W.ke_eq_ints ⟨_,e,rfl,_,rfl⟩ ⟨_,e2,rfl,_,rfl⟩ (w6 r) (w6 r2) hu ⟨.bl _,H,I,rfl,q⟩
end
def Itz (K:Fg)(a b:Addr):It:=
 ⟨λi H=>∃xs ys x y,SqL K H a xs/\SqL K H b ys/\xs[i]?=some x/\ys[i]?=some y,
  λi H v H'=>∃T x y,v=.ref T/\H T=none/\H'=upd H T (.tup [x,y])/\(∀xs,SqL K H a xs->xs[i]?=some x)/\∀ys,SqL K H b ys->ys[i]?=some y,
  λi H=>∃xs ys,SqL K H a xs/\SqL K H b ys/\(xs.length<=i\/ys.length<=i)⟩
theorem RL {P:Program}{w:World}{K:Fg}{els:List Expr}{kk:Nat}{tp:Pos}(a b z TI TO i1 i2:Addr)(D:ZipApart z TI TO i1 i2 a b) :
  Turn P w K (.Tuple els kk tp) (Itz K a b) [z,TI,TO,i1,i2] z (λi h=>IsZip h z TI TO .none/\IsPair h TI (.ref i1) (.ref i2)/\(∃u v,IsPair h TO u v)/\h.IsListIter i1 a i/\h.IsListIter i2 b i) where
 mem:=by simp
 obj:=λi h st c hc=>by
  obtain⟨hz,hTI,⟨u,v,hTO⟩,⟨o1,q1,_,d1⟩,⟨o2,q2,_,d2⟩⟩:=st;rcases aB.mp hc with rfl|hc
  ·exact⟨_,hz,λv y=>by cases y⟩
  rcases aB.mp hc with rfl|hc
  ·exact⟨_,hTI,λv y=>by cases y⟩
  rcases aB.mp hc with rfl|hc
  ·exact⟨_,hTO,λv y=>by cases y⟩
  rcases aB.mp hc with rfl|hc
  ·exact⟨o1,q1,λv y=>by rw[d1]at y;cases y⟩
  ·have e:c=i2:=by simpa using hc
   subst e;exact⟨o2,q2,λv y=>by rw[d2]at y;cases y⟩
 keep:=λi h h' st k=>by obtain⟨hz,hTI,⟨u,v,hTO⟩,h1,h2⟩:=st;exact⟨k z (by simp) _ hz,k TI (by simp) _ hTI,⟨u,v,k TO (by simp) _ hTO⟩,h1.at λo q=>k i1 (by simp) o q,h2.at λo q=>k i2 (by simp) o q⟩
 item:=by
  intro X hP hw hK hc i pins s σ H E I hf st hg;subst hP hw hK;obtain⟨xs,ys,x,y,hqa,hqb,hx,hy⟩:=hg;obtain⟨hz,hTI,⟨p0,q0,hTO⟩,h1,h2⟩:=st;obtain⟨its,rv,pa,hza⟩:=I.list hqa;obtain⟨u,hu,ru⟩:=rv.get hx;obtain⟨its2,rv2,pb,hzb⟩:=I.list hqb;obtain⟨u2,hu2,ru2⟩:=rv2.get hy;refine wpAny_pyNext_zip_item D hz hTI hTO h1 h2 pa.isList pb.isList (x:=u) (y:=u2) (by simpa using hu) (by simpa using hu2) λh' hz' hTO' h1' h2' hT hsz hk=>⟨_,rfl,?_⟩;refine wpAny_letOwnedTupleGo_zip hz' λh2h hz2 hs2=>?_;have Tz:s.heap.objs.size≠z:=dN (az hz);have keep2:∀c o,c∉[z,TI,TO,i1,i2]->s.heap.get? c=some o->h2h.get? c=some o:=λc o hc q=>by have c1:c≠z:=λe=>hc (by simp[e]);exact(hs2.2 c c1).trans (hk c o c1 (λe=>hc (by simp[e])) (λe=>hc (by simp[e])) (λe=>hc (by simp[e])) q)
  have I1:Inv X pins σ H { s with heap:=h2h,toks:=s.toks }:=I.uU hf keep2;have fT:FpOk X pins H s.heap.objs.size:=I.fpOk (ai _) (I.hok.fresh (ai _));have I2:=I1.track (o:=.tup [x,y]) fT ⟨by show 2<=sizeLine;decide,[u,u2],.cons ru (.cons ru2 .nil),⟨_,(hs2.2 _ Tz).trans hT,rfl,_,rfl⟩⟩;have up:∀c o,c≠z->h'.get? c=some o->h2h.get? c=some o:=λc o c1 q=>(hs2.2 c c1).trans q;refine⟨.ref s.heap.objs.size,_,I2,rfl,⟨_,x,y,rfl,fT.1,rfl,λzs hq=>by rw[I.list_inj hq hqa];exact hx,λzs hq=>by rw[I.list_inj hq hqb];exact hy⟩,⟨hz2,?_,⟨u,u2,up _ _ D.TOz hTO'⟩,h1'.at λo q=>up _ o D.i1z q,h2'.at λo q=>up _ o D.i2z q⟩,λc hc=>?_⟩
  ·exact up _ _ D.TIz (hk _ _ D.TIz D.TITO D.TIi1 D.TIi2 hTI)
  ·have lt:c<s.heap.objs.size:=by
    rcases aB.mp hc with rfl|hc
    ·exact az hz
    rcases aB.mp hc with rfl|hc
    ·exact az hTI
    rcases aB.mp hc with rfl|hc
    ·exact az hTO
    rcases aB.mp hc with rfl|hc
    ·obtain⟨o,q,_⟩:=h1;exact az q
    ·have e:c=i2:=by simpa using hc
     subst e;obtain⟨o,q,_⟩:=h2;exact az q
   rw[upd_ne (be lt)];exact(hf c hc).1
 done:=by
  intro X hP hw hK hc i pins s σ H E I hf st hg;subst hP hw hK;obtain⟨xs,ys,hqa,hqb,hx⟩:=hg;obtain⟨hz,hTI,⟨p0,q0,hTO⟩,h1,h2⟩:=st;obtain⟨its,rv,pa,hza⟩:=I.list hqa;obtain⟨its2,rv2,pb,hzb⟩:=I.list hqb;have hl:=rv.length;have hl2:=rv2.length;refine wpAny_pyNext_zip_end (I.ok.hd hc) D hz hTI hTO h1 h2 pa.isList pb.isList ?_ λh' hk=>⟨rfl,I.uU (t':=s.toks) hf λc o hc q=>hk c o (λe=>hc (by simp[e])) (λe=>hc (by simp[e])) (λe=>hc (by simp[e])) (λe=>hc (by simp[e])) q⟩;rcases hx with h|h
  ·exact .inl (by simp;lia)
  ·exact .inr (by simp;lia)
 self:=λA i s Q E st h=>wpAny_pyIter_zip st.1 h
theorem Yr:bootBuiltins "zip"=some (.type "zip"):=by decide +kernel
def Wo (K:Fg)(ta:TA):TI:=λσ H R=>ta σ H λvs H1=>∃a b,vs=[.ref a,.ref b]/\(∃xs,SqL K H1 a xs)/\(∃xs,SqL K H1 b xs)/\R (Itz K a b) H1
theorem JR {X:Cx}{els:List Expr}{kk:Nat}{tp:Pos}{l l2:Expr}{ta:TA}{p pos:Pos}(hg:Gl X "zip")(hm:X.mg "zip"=none)(ha:PA X [l,l2] ta)(hs:starEach [l,l2] X.env=(false,eval l X.env)::starEach [l2] X.env:=by rfl)(hpl:(backTo pos (starEach [l2] X.env)).any (·.1)=false:=by rfl) :
  PI X (.Tuple els kk tp) (.Call (.Name "zip" p) [l,l2] [] pos) (Wo X.K ta):=by
 intro pins s σ H R I h;refine Call_ (ld_blt I hg hm Yr (bZ (thn (ha pos pins s σ H _ I h) λus s1 ⟨vs,H1,I1,r1,q1⟩=>?_) hs hpl));obtain⟨a,b,rfl,⟨xs,hqa⟩,⟨ys,hqb⟩,q⟩:=q1;obtain⟨u,u2,rfl,ru,ru2⟩:=vals2 r1;cases ru;cases ru2;obtain⟨its,rv,pa,hza⟩:=I1.list hqa;obtain⟨its2,rv2,pb,hzb⟩:=I1.list hqb;have la:a<s1.heap.objs.size:=by obtain⟨o,e,_⟩:=pa.isList;exact az e
 have lb:b<s1.heap.objs.size:=by obtain⟨o,e,_⟩:=pb.isList;exact az e
 refine call_zip_2 pa.isList pb.isList λh1 hz hTI hTO h1i h2i hsz hk=>?_;refine wpAny_pyIter_zip hz ?_;have I2:Inv X pins σ H1 { s1 with heap:=h1 }:=I1.kept (t':=s1.toks) hk;have D:ZipApart (s1.heap.objs.size+4) (s1.heap.objs.size+2) (s1.heap.objs.size+3) s1.heap.objs.size (s1.heap.objs.size+1) a b:=by have la':@LT.lt Nat _ a s1.heap.objs.size:=la;have lb':@LT.lt Nat _ b s1.heap.objs.size:=lb;constructor<;>(show @Ne Nat _ _)<;>lia
 refine⟨_,[s1.heap.objs.size+4,s1.heap.objs.size+2,s1.heap.objs.size+3,s1.heap.objs.size,s1.heap.objs.size+1],_,_,H1,rfl,I2,RL a b _ _ _ _ _ D,⟨hz,hTI,⟨_,_,hTO⟩,h1i,h2i⟩,λc hc=>?_,q⟩;have le:s1.heap.objs.size<=c:=by simp only[aB,List.not_mem_nil,or_false]at hc;rcases hc with h|h|h|h|h<;>rw[h]<;>first|exact ai _|exact Nat.le_add_right _ _
 exact I1.fpOk le (I1.hok.fresh le)
end L2
namespace L3
open L2
section
variable {X:Cx}{G:Gx}{Er:ER}{a b e:Expr}{pos p px apos:Pos}{C Ca Cb:En->Prop}{gl hl:En->List Int}{i j k:Nat}{x:Str}
theorem aag (R:Rep X.K G B σ H Z O)(ca:Ca Z)(cb:Cb Z)(q:∀l m H1 H2,Same H H1->Same H1 H2->Rd H2 l (.lst ((gl Z).map V.int))->Rd H2 m (.lst ((hl Z).map V.int))->r (.ref l) (.ref m) H2 Q) :
  tOp r (W8 X.K G Ca λZ=>.ints (gl Z)) (W8 X.K G Cb λZ=>.ints (hl Z)) σ H Q:=
 ⟨B,Z,O,R,ca,λv H1 s1 a1=>⟨B,Z,O,R.grow s1,cb,λu H2 s2 a2=>by
  obtain⟨l,rfl,r1⟩:=a1;obtain⟨m,rfl,r2⟩:=a2;exact q l m H1 H2 s1 s2 (jy s2 r1) r2⟩⟩
theorem Tq (hu:X.A.units+64<cLine)(ha:PE X a (W8 X.K G Ca λZ=>.ints (gl Z)))(hb:PE X b (W8 X.K G Cb λZ=>.ints (hl Z))):PT X (.Compare a [.Eq] [b] pos) (vy X.K G (λZ=>Ca Z/\Cb Z) λZ=>gl Z=hl Z):=
 λpins s σ H Q I ⟨_,_,_,R,c,q⟩=>pt_cmpR (We hu) ha hb (nomark _) pins s σ H Q I (aag R c.1 c.2 λl m _ H2 s1 s2 r1 r2=>⟨l,m,_,_,rfl,rfl,r1,r2,_,rfl,q H2 (s1.trans s2)⟩)
def yF:PV->Int
 | .int n=>n
 |_=>0
def j8:PV->List Int
 | .ints ns=>ns
 |_=>[]
theorem rA (h:PE X e (tX X.K G C g)):PE X e (lY X.K G (λZ=>C Z/\g Z=.int (yF (g Z))) λZ=>yF (g Z)):=
 uN h λB σ H Z O Q R c q=>⟨B,Z,O,R,c.1,λv H' s a=>q v H' s (by rw[<- c.2];exact a)⟩
theorem xl_of (h:PE X e (tX X.K G C g)):PE X e (Ld X.K G (λZ=>C Z/\g Z=.ints (j8 (g Z))) λZ=>j8 (g Z)):=
 uN h λB σ H Z O Q R c q=>⟨B,Z,O,R,c.1,λv H' s a=>q v H' s (by rw[<- c.2];exact a)⟩
def pN:PV->List PV
 | .lst xs=>xs
 |_=>[]
theorem nW (h:PE X e (tX X.K G C g)):PE X e (tX X.K G (λZ=>C Z/\g Z=.lst (pN (g Z))) λZ=>.lst (pN (g Z))):=
 uN h λB σ H Z O Q R c q=>⟨B,Z,O,R,c.1,λv H' s a=>q v H' s (by rw[<- c.2];exact a)⟩
end
theorem Wn {H:Hp}{O:Addr->Bool}{x:Addr}(hd:∀a,O a=true->H a≠none)(hx:H x=none){H':Hp}:mn H' O x=H' x:=qX (by
 cases z:O x with
 |false=>rfl
 |true=>exact absurd hx (hd x z))
theorem Wq (hx:H x=none)(hd:H dx=none):Same H (upd (upd (upd H dx (.own x)) x (.ins C dx [])) x (.ins C dx fs)):=sS λb o e=>by rw[upd_ne (ne_of_none e hx),upd_ne (ne_of_none e hx),upd_ne (ne_of_none e hd)];exact e
def KW (cW:Addr)(H:Hp)(a:Addr)(z:Int):Prop:=z=0/\∃dx fs,H a=some (.ins cW dx fs)/\fs.lookup ("size":Str)=some (.int 0)/\∀m∈Bp,fs.lookup m=none
section
variable {K:Fg}{G:Gx}{B:Bs}{σ:L2.St}{H H1:Hp}{Z:En}{O:Addr->Bool}{D:Addr}{cap:List (Option Nat)}
variable {α:Type}{J:It}{g:TG}{C Ct:En->Prop}{pt:En->Prop}[∀Z,Decidable (pt Z)]{gb:En->PV}{Q:VK}
theorem Hv (items:List α)(setσ:α->V->L2.St)(setr:α->En)(val:α->V)(R:Rep K G B σ H1 Z O)(hD:H1 D=none)(hlen:items.length<=10000)(hgo:∀i H,i<items.length->Same H1 H->J.go i H)
  (hyld:∀i it x H H',items[i]?=some it->Same H1 H->J.yld i H x H' -> Same H H'/\∀k:L2.St->Hp->Prop,k (setσ it (val it)) H' -> g x (pF cap σ) H' k) (hstop:∀H,Same H1 H->J.stop items.length H)
  (hset:∀it H,it∈items->Same H1 H->Rep K G ⟨H1,O⟩ (pF cap σ) H (jH cap Z) (hide D O)->Rep K G ⟨H1,O⟩ (setσ it (val it)) H (setr it) (hide D O)) (hext:∀it,Cz (pF cap σ) (setσ it (val it))) (hCt:∀it∈items,Ct (setr it)) (hC:∀it∈items,pt (setr it)->C (setr it))
  (hQ:∀H' ys,Same H1 H' -> H' D=some (.lst ys)->lX K G (mn H' (hide D O)) ((items.filter λit=>decide (pt (setr it))).map λit=>gb (setr it)) ys->Q (.ref D) H') :
  ∃W:Nat->Nat->List V->Hp->Prop,(∃m,W 0 m [] (upd H1 D (.lst [])))/\lcW D J (pF cap σ) g (vy K G Ct pt) (tX K G C gb) Q W:=by
 refine⟨λi m ys H=>m=items.length-i/\i<=items.length/\Same H1 H/\H D=some (.lst ys)/\lX K G (mn H (hide D O)) (((items.take i).filter λit=>decide (pt (setr it))).map λit=>gb (setr it)) ys,⟨items.length,by simp,bh _,same_new hD _,upd_same,rfl⟩,?_⟩;rintro i m ys H ⟨rfl,hi,hs,hd,al⟩;have hl:ys.length<=i:=by rw[<- al.length,aa];refine aC (cO _ _) ?_;rw[aI];lia
 refine⟨hd,aO (show ys.length<=10000 by lia) (by decide),?_⟩;by_cases hlt:i<items.length
 ·refine .inr ⟨hgo i H hlt hs,?_⟩;intro x H' hy;have en:items[i]?=some items[i]:=ac hlt;obtain⟨s1,kk⟩:=hyld i _ x H H' en hs hy;refine kk _ ⟨hext _,?_⟩;have hd':=s1 _ _ hd;have R2:=hset items[i] H' (bC hlt) (hs.trans s1) (DX R hD (hs.trans s1) (by rw[hd'];exact λz=>by cases z));refine⟨_,_,_,R2,hCt _ (bC hlt),λH3 s3=>?_⟩;by_cases d:pt (setr items[i])
  ·rw[aL d];refine iteT ?_;refine⟨_,_,_,R2.grow s3,hC _ (bC hlt) d,λv H2 s2 a2=>⟨s2 _ _ (s3 _ _ hd'),items.length-(i+1),by lia,rfl,hlt,?_,upd_same,?_⟩⟩
   ·intro b o z;rw[upd_ne (ne_of_none z hD)];exact(((hs.trans s1).trans s3).trans s2) b o z
   ·rw[Gz hide_self,nH en,gu,cw (by exact aL d),bF];exact lX.snoc (lX.mono (kY ((s1.trans s3).trans s2)) _ _ al) a2
  ·rw[aJ d];refine iteF ?_;refine⟨items.length-(i+1),by lia,rfl,hlt,hs.trans (s1.trans s3),s3 _ _ hd',?_⟩;rw[nH en,gu,cC (by simpa using d),fU,bu];exact lX.mono (kY (s1.trans s3)) _ _ al
 ·have e:i=items.length:=by lia
  subst e;refine .inl ⟨hstop H hs,hQ H ys hs hd ?_⟩;rw[cH]at al;exact al
end
section
variable {K:Fg}{G:Gx}{σ:L2.St}{H:Hp}{Q:VK}{Cs Ct Cb:En->Prop}{pt:En->Prop}[∀Z,Decidable (pt Z)]{gs hs:En->List Int}{gi:En->Int}{gp:En->PV}{cap:List (Option Nat)}
theorem abr (h:yL K G (λZ=>(Cs Z/\Cs' Z)/\(gs Z).length<=1000/\∀n m,(n,m)∈(gs Z).zip (hs Z)->Cb (((jH (none::none::cap) Z).set 0 (.fr (.int n))).set 1 (.fr (.int m))))
   (λZ=>((gs Z).zip (hs Z)).map λp=>gp (((jH (none::none::cap) Z).set 0 (.fr (.int p.1))).set 1 (.fr (.int p.2)))) σ H Q) :
  Qt (none::none::cap) (Wo K (tCons (W8 K G Cs λZ=>.ints (gs Z)) (tCons (W8 K G Cs' λZ=>.ints (hs Z)) tNil))) (gTup K 2 (gCons (gName 0) (gCons (gName 1) gNil))) sJ (tX K G Cb gp) σ H Q:=by
 obtain⟨B,Z,O,R,⟨⟨c1,c1'⟩,c2,c3⟩,q⟩:=h;refine⟨B,Z,O,R,c1,λv H1 s1 a1=>⟨B,Z,O,R.grow s1,c1',λu H2 s2 a2=>?_⟩⟩;obtain⟨a,rfl,hq⟩:=a1;obtain⟨b,rfl,hq'⟩:=a2;have hq1:SqL K H2 a ((gs Z).map V.int):=.inl (jy s2 hq);have hq2:SqL K H2 b ((hs Z).map V.int):=.inl hq';refine⟨a,b,rfl,⟨_,hq1⟩,⟨_,hq2⟩,λD hD=>?_⟩;have hz:((gs Z).zip (hs Z)).length=min (gs Z).length (hs Z).length:=dt;have at1:∀i,i<((gs Z).zip (hs Z)).length->i<(gs Z).length/\i<(hs Z).length:=λi h=>by rw[hz]at h;lia
 refine qY ((gs Z).zip (hs Z)) (λp _=>((pF (none::none::cap) σ).set 0 (some (.int p.1))).set 1 (some (.int p.2))) (λp=>((jH (none::none::cap) Z).set 0 (.fr (.int p.1))).set 1 (.fr (.int p.2))) (λp=>.int p.1) ((R.grow s1).grow s2) hD (by rw[hz];lia)
  (λi H hi s=>⟨_,_,.int ((gs Z)[i]'(at1 i hi).1),.int ((hs Z)[i]'(at1 i hi).2),s.seq hq1,s.seq hq2,by simp[(at1 i hi).1],by simp[(at1 i hi).2]⟩) ?_ (λH s=>⟨_,_,s.seq hq1,s.seq hq2,by rw[hz,aa,aa];lia⟩) (λp H _ s R'=>(R'.set (p:=.int p.1) rfl).set (p:=.int p.2) rfl) ?_ ?_ ?_
 ·rintro i ⟨n,m⟩ x H H' en s ⟨T,y,y',rfl,hT,rfl,hx,hx'⟩;obtain⟨n',rfl,hn⟩:=int_at (hx _ (s.seq hq1));obtain⟨m',rfl,hm⟩:=int_at (hx' _ (s.seq hq2));have en:(n',m')=(n,m):=by rw[List.getElem?_zip_eq_some]at en;have e1:=en.1;have e2:=en.2;rw[hn]at e1;rw[hm]at e2;rw[aF e1,aF e2]
  cases en;exact⟨same_new hT _,λkk hk=>⟨T,_,rfl,SqT.of upd_same,rfl,_,_,rfl,_,_,rfl,rfl,hk⟩⟩
 ·rintro⟨n,m⟩;exact mU _
 ·rintro⟨n,m⟩ hm;exact c3 n m hm
 ·intro H' ys s hd al;exact q D ys H' ((s1.trans s2).trans s) ((s1.trans s2).free hD) hd al
end
section
variable {X:Cx}{G:Gx}{Er:ER}{N':List Str}{sc:Scope}{cl:List (Str×Addr)}{cap:List (Option Nat)}{el tg src tst l l2:Expr}{at' spos px p pos':Pos}{Cs Cs' Ct Cb:En->Prop}{pt:En->Prop}[∀Z,Decidable (pt Z)]{gs hs:En->List Int}{gi:En->Int}{gp:En->PV}{i:Nat}{x:Str}
theorem X4 (L:u6 X N' sc cl (none::none::cap))(hc:X.calm=true)(hgl:Gl X "zip")(hm:X.mg "zip"=none)(h1:PE X l (W8 X.K G Cs λZ=>.ints (gs Z)))(h2:PE X l2 (W8 X.K G Cs' λZ=>.ints (hs Z)))(hg:∀s H fp,PG (jE X N' sc cl s H fp) (.Tuple els kk tp) (gTup X.K 2 (gCons (gName 0) (gCons (gName 1) gNil))))(he:∀s H fp,PE (jE X N' sc cl s H fp) el (lY X.K G Cb gi))
  (hst:starEach [l,l2] X.env=(false,eval l X.env)::starEach [l2] X.env:=by rfl) (hst2:starEach [l2] X.env=[(false,eval l2 X.env)]:=by rfl) (hpl:(backTo pos' (starEach [l2] X.env)).any (·.1)=false:=by rfl) (hfs:∀x,foldedSetIterable (.Call (.Name "zip" p) [l,l2] [] pos') X.env x=pure x:=by intro _;rfl) :
  PE X (.ListComp el [⟨.Tuple els kk tp,.Call (.Name "zip" p) [l,l2] [] pos',[],0⟩] sc at') (Ef X.K G (λZ=>(Cs Z/\Cs' Z)/\(gs Z).length<=1000/\∀n m,(n,m)∈(gs Z).zip (hs Z)->Cb (((jH (none::none::cap) Z).set 0 (.fr (.int n))).set 1 (.fr (.int m))))
   λZ=>((gs Z).zip (hs Z)).map λp=>gi (((jH (none::none::cap) Z).set 0 (.fr (.int p.1))).set 1 (.fr (.int p.2)))):=
 λpins s σ H Q I h=>yD L hc (JR hgl hm (pa_cons h1 (pa_cons h2 pa_nil hst2) hst) hst hpl) hg (λ_ _ _=>pM) he hfs pins s σ H Q I (abr (Gs h))
end
end L3
end
namespace L2
open PySem PySem.Spec PyProof.Rows PySem.W PySem.Calls
theorem Q7:∀(ns:Li),∀n∈ns,WData.weight (.int n)<=WData.weightAll (ns.map WData.int)
 |[],n,h=>by cases h
 |m::r,n,h=>by
  rw[aX];simp only[WData.weightAll];rcases aB.mp h with rfl|h
  ·lia
  ·have:=Q7 r n h;lia
theorem Wi {ns:Li}(h:WData.layableAll [WData.list (ns.map WData.int)]=true){n:Int}(hn:n∈ns):Builtin.Int.intBits n<=2^20:=by have h1:WData.layable (WData.list (ns.map WData.int))=true:=dD.mp h _ ag;unfold WData.layable at h1;rw[fy]at h1;have h2:=bO h1.2;have h3:=Q7 ns n hn;simp only[WData.weight]at h2 h3;exact aC h3 h2
theorem UG {l:W.OpenLaw}{n k:Nat}{XP:(Str->Option Value)->Heap->Prop}{YP:World->Heap->Prop}{d:DefRec}{K:Params->Fg}{CX:World->CXT}{sp:World->Sp}
  (hn:l.most=some n) (hn2:n<=sizeLine) (hdf:d.params.defaults=[]) (hr:Room k callerA) (hY:∀(w:World) (h:Heap),YP w h->(K w.params).In h)
  (F:∀(w:World) (mg:Mg) (fa:Addr) (h:Heap),(K w.params).In h->h.Ns mainGlobals mg->mg d.name=some (.ref fa) ->
   ∃fd:FuncData,(∀(s:Shared) (u:Value),BindsTo s fd ⟨[u],[]⟩ [(x,u)])/\∀base:Heap,(K w.params).In base->base.Ns mainGlobals mg->FnOk l.prog w (K w.params) mg base (CX w) k fa fd [x] (sp w))
  (LO:∀(w:World) (h:Heap),YP w h->Jw (K w.params) h)
  (hsp:∀(w:World) (H:Hp) (a:Addr) (ns:List Int),ns.length<=n->(∀m∈ns,Builtin.Int.intBits m<=2^20)->SqL (K w.params) H a (ns.map V.int)->sp w [.ref a] H (λv _=>v=.bl true) λ_ _ _=>False)
  (hCX:∀(w:World) (H:Hp) (s:Shared) (e:Value) (s':Shared),CX w [] H s (λ_ _ _=>False) e s' -> False):W.WalkO q loose XP YP l.row.toRowW d [] (λf vs=>PySem.call f vs):=by
 intro w s₀ s₁ mg mb G Y fa o pm cd doc dV kV ho hd hcd hD hmg hg args vals as hpre hlay hrd hwl hlo;obtain rfl:dV=.none:=Dflts.none hD hdf;obtain rfl:kV=.none:=Dflts.noKw hD;obtain⟨a,vs,ns,rfl,rfl,hobj,hints,hlen⟩:=Att.script_of hn hpre hwl;have KX:=hY w _ Y;obtain⟨fd,hb,hF⟩:=F w mg fa _ KX G.T.g hmg;refine enter_call (f8 (law_call KX G.T.g G.T.b G.T.builtins G.T.nolimit hg hobj hints (aC hlen hn2) hr (LO w _ Y) G.T.bmain hF hb (λH hS=>hsp w H a ns hlen (λm hm=>Wi hlay hm) hS) λH e s'=>hCX w H s₁ e s') λr s' hq=>?_);obtain⟨rfl,h2,h3,h4⟩:=hq;exact⟨.inl ⟨.bool true,.bool true,[],rfl,λ_=>rfl,.bool true,Att.post_true l _,λ_=>⟨List.Pairwise.nil,λ_ hm=>(nomatch hm)⟩⟩,h2,h3,h4⟩
def yc (K:Fg):Sp:=λvs H Q _=>∃(a:Addr) (ns:List Int),vs=[.ref a]/\SqL K H a (ns.map V.int)/\ns.length<=63/\(∀m∈ns,Builtin.Int.intBits m<=2^20)/\∀H',Q (.bl true) H'
end L2
namespace L3
open PySem PySem.Spec PyProof.Rows L2
theorem aaG {P:Program}{w:World}{K:Fg}{mg:Mg}{base:Heap}{G:Gx}{k:Nat}{x:Str}{st:Stmt}{N:Ls}{f:Addr}{fd:FuncData}{y:Str}(F:Fun K x x st f fd)(S:FnScope N [y] (defScope st))
  (hbody:∀(cdv:Value) (A:Around) (outer:List Env) (s:Shared) (H:Hp) (E:XK),Room k (A.deeper (envOfC x (defScope st) s.heap.objs.size f cdv)) ->
   ∃fs,PSs (cxOf CX0 P w K mg base N x (defScope st) f cdv A outer s H E).nox (defBody st) (ts K G ER0 fs)/\∀ns:List Int,ns.length<=63->(∀m∈ns,Builtin.Int.intBits m<=2^20)->fs { nx:=λ_=>False,rt:=λp=>p=.bl true } (nJ N [.scr ns])):FnOk P w K mg base CX0 (k+1) f fd [y] (yc K):=by
 refine F.ok S (λvs H Q E h=>?_) λcdv A outer s H vs Q E hr h=>?_
 ·obtain⟨a,ns,rfl,_⟩:=h;rfl
 obtain⟨a,ns,rfl,hS,hl,hb,q⟩:=h;obtain⟨fs,b,c⟩:=hbody cdv A outer s H E hr;have al:lX K G (mn H λ_=>false) [.scr ns] [.ref a]:=⟨_,_,rfl,⟨a,rfl,by rw[aat];exact hS⟩,rfl⟩;refine⟨_,b,⟨H,λ_=>false⟩,nJ N [.scr ns],_,⟨_,rR (λ_ z=>by cases z) al⟩,c ns hl hb,⟨λ_ _ _ _ h=>h.elim,λv H' p s' a' h=>?_,λ_ _ _ _ _ _ h=>h.elim,λ_ _ _ _ _ h=>h.elim,λ_ _ _ _ h=>h,λ_ _ _ _ h=>h,λ_ _ _ h=>h⟩⟩;subst h;subst a';exact q H'
end L3
namespace FM
open L2
structure Eu (n z b r sb s:Int):Prop where
 r0:0<=r
 rb:r<b
 bz:b<=z
 db:z ∣ b-sb*n
 dr:z ∣ r-s*n
 gc:Int.gcd b r=Int.gcd n z
 sg:(sb<=0/\0<=s)\/(0<=sb/\s<=0)
 id:(s.natAbs:Int)*b+(sb.natAbs:Int)*r=z
theorem Mu (n z:Int):Int.gcd z (n % z)=Int.gcd n z:=by rw[i8,Int.gcd_sub_mul_left_right,Int.gcd_comm]
theorem Eu.start (hz:2<=z):Eu n z z (n % z) 0 1:=by
 refine⟨bE _ (by lia),bj _ (by lia),Int.le_refl _,?_,?_,Mu n z,.inl ⟨by lia,by lia⟩,?_⟩
 ·rw[bR,aQ];exact fq z
 ·rw[b9,i8];exact⟨-(n / z),by rw[gT];lia⟩
 ·show(1:Int)*z+((0:Int).natAbs:Int)*(n % z)=z;rw[b9];show z+(0:Int)*(n % z)=z;rw[bR];lia
theorem Eu.rest {b r:Int}(h:0<r):b-b / r*r=b % r:=by rw[i8,b7]
theorem Eu.step {n z b r sb s:Int}(h:Eu n z b r sb s)(hr:r≠0):Eu n z r (b-b / r*r) s (sb-b / r*s):=by
 have r0:0<r:=by have:=h.r0;lia
 have q0:0<=b / r:=Int.ediv_nonneg (by have:=h.rb;lia) (by lia);have er:=Eu.rest (b:=b) r0;have abs:((sb-b / r*s).natAbs:Int)=(sb.natAbs:Int)+b / r*(s.natAbs:Int):=by
  rcases h.sg with⟨h1,h2⟩|⟨h1,h2⟩
  ·have e1:0<=b / r*s:=iJ q0 h2;have e2:(s.natAbs:Int)=s:=by lia
   rw[e2];lia
  ·have e1:b / r*s<=0:=bX q0 h2;have e2:(s.natAbs:Int) = -s:=by lia
   rw[e2,gT];lia
 refine⟨?_,?_,by have:=h.rb;have:=h.bz;lia,h.dr,?_,?_,?_,?_⟩
 ·rw[er];exact bE _ (by lia)
 ·rw[er];exact bj _ r0
 ·obtain⟨u,hu⟩:=h.db;obtain⟨v,hv⟩:=h.dr;refine⟨u-b / r*v,?_⟩;have e:b-b / r*r-(sb-b / r*s)*n=(b-sb*n)-b / r*(r-s*n):=by rw[fg,ck,bG];lia
  rw[e,hu,hv,ck,gH]
 ·rw[er,<- h.gc,Mu]
 ·rcases h.sg with⟨h1,h2⟩|⟨h1,h2⟩
  ·exact .inr ⟨h2,by have:=iJ q0 h2;lia⟩
  ·exact .inl ⟨h2,by have:=bX q0 h2;lia⟩
 ·rw[abs,<- h.id,eK,ck,bG,b7 (b / r) ((s.natAbs:Int)*r),bG,b7 r (b / r)];lia
theorem Eu.end (h:Eu n z b 0 sb s):b=(Int.gcd n z:Int):=by have:=h.gc;rw[Int.gcd_zero_right]at this;have:=h.rb;lia
theorem Eu.one (hz:2<=z)(h:Eu n z b 0 sb s)(h1:b=1):(sb % z*n) % z=1:=by
 have hd:=h.db;rw[h1]at hd;have e:(sb % z*n) % z=(sb*n) % z:=by rw[ft,eA _ (fq z),<- ft]
 rw[e];have e2:(1-sb*n) % z=0:=bW hd;have e3:=(eC (m:=1) (n:=z) (k:=sb*n)).mpr e2;rw[<- e3];exact bI (by lia) (by lia)
theorem jN.dvd (hp:jN p)(h0:0<d)(h:d ∣ p):d=1\/d=p:=by
 obtain⟨k,hk⟩:=h;have hp2:=hp.1;have k0:0<k:=by
  rcases Int.lt_or_le 0 k with c|c
  ·exact c
  ·have:=bX (i9 h0) c;lia
 by_cases c1:d=1
 ·exact .inl c1
 ·by_cases c2:k=1
  ·right;rw[hk,c2,bM]
  ·exfalso;rcases Int.le_total d k with c|c
   ·refine hp.2.2 d (by lia) ?_ (bW ⟨k,hk⟩);rw[hk];exact bB c (by lia)
   ·refine hp.2.2 k (by lia) ?_ (bW ⟨d,by rw[hk,b7]⟩);rw[hk,b7 d k];exact bB c (by lia)
theorem jN.Nh (hp:jN p)(h:¬b % p=0):Int.gcd b p=1:=by
 have h1:((Int.gcd b p:Nat):Int) ∣ p:=Int.gcd_dvd_right b p;have h2:((Int.gcd b p:Nat):Int) ∣ b:=Int.gcd_dvd_left b p;have h3:0<Int.gcd b p:=Int.gcd_pos_of_ne_zero_right _ (by have:=hp.1;lia);rcases hp.dvd (by lia) h1 with c|c
 ·lia
 ·rw[c]at h2;exact absurd (bW h2) h
end FM
section
open PySem PySem.Spec PyProof.Rows
namespace L3
open L2
inductive Rs where
 |val (p:PV)|err (C:Addr)
def spE (K:Fg)(G:Gx)(pre:List PV->Prop)(F:List PV->Rs):Sp:=λvs H Q E=>∃as O,(∀a,O a=true->H a≠none)/\lX K G (mn H O) as vs/\pre as/\(∀p,F as=.val p->∀v H',Same H H' -> At K G (mn H' O) p v->Q v H')/\∀C,F as=.err C->∀H',Same H H' -> E (.ref C) none H'
structure OkE (P:Program)(w:World)(K:Fg)(mg:Mg)(base:Heap)(k:Nat)(x:Str)(ps:List Str)(sp:Sp):Prop where
 ex:∃f fd,FnOk P w K mg base (Lz P w) k f fd ps sp/\Binds K fd ps []/\W.keepIn K (.ref f)=true/\mg x=some (.ref f)
abbrev erE (E:XK):ER:=λC H=>E (.ref C) none H
section
variable {P:Program}{w:World}{K:Fg}{mg:Mg}{base:Heap}{G:Gx}
theorem okE {x:Str}{st:Stmt}{N ps:Ls}{k:Nat}{pre:List PV->Prop}{F:List PV->Rs}(d:nQ K mg x st ps)(S:FnScope N ps (defScope st))(len:∀as,pre as->as.length=ps.length)
  (hbody:∀(f:Addr) (cdv:Value) (A:Around) (outer:List Env) (s:Shared) (H:Hp) (E:XK),Room k (A.deeper (envOfC x (defScope st) s.heap.objs.size f cdv)) ->
   ∃fs,PSs (cxOf (Lz P w) P w K mg base N x (defScope st) f cdv A outer s H E) (defBody st) (ts K G (erE E) fs)/\∀as,pre as->fs { nx:=λ_=>F as=.val .non,rt:=λp=>F as=.val p,rl:=λns=>F as=.val (.ints ns),er:=λC=>F as=.err C } (nJ N as)):OkE P w K mg base (k+1) x ps (spE K G pre F):=by
 obtain⟨f,fd,Fu,b,m⟩:=d.ex;refine⟨f,fd,?_,b,Fu.kp,m⟩;obtain⟨oc,od,kV,doc,pm,an,cdv,ct,osl,rfl,lk,hcd⟩:=Fu.ex;refine fn_of lk hcd S (λvs H Q E h=>?_) λA outer s H vs Q E hr h=>?_
 ·obtain⟨as,O,_,al,hp,_⟩:=h;rw[<- al.length];exact len as hp
 obtain⟨as,O,hd,al,hp,q,qe⟩:=h;obtain⟨fs,b,c⟩:=hbody f cdv A outer s H E hr;refine⟨_,b,⟨H,O⟩,nJ N as,_,⟨O,rR hd al⟩,c as hp,⟨λσ' H' Z' R' h=>?_,λv H' p s' a' h=>q p h v H' s' a',λa H' ns s' n e h=>?_,λ_ _ _ _ _ h=>h.elim,λ_ _ _ _ h=>h,λ_ _ _ _ h=>h,λH' C s' h=>qe C h H' s'⟩⟩
 ·obtain⟨O',R'⟩:=R';exact q _ h .non H' R'.same rfl
 ·refine q _ h _ H' s' ⟨a,rfl,.inl ?_⟩;rw[qX]
  ·exact e
  ·cases z:O a with
   |false=>rfl
   |true=>exact absurd n (hd a z)
end
section
variable {X:Cx}{G:Gx}{E:XK}{e:Expr}{es:List Expr}{pos p cpos np pos':Pos}{i j k:Nat}{x y:Str}{ps:List Str}{pre:List PV->Prop}{C:En->Prop}{gs:En->List PV}{F:List PV->Rs}{Cc:Addr}
theorem Uc (o:OkE X.prog X.w X.K X.mg X.base j x ps sp)(hx:Passes (Lz X.prog X.w) X E)(hr:Room k X.A)(ha:PA X (e::es) t)(hj:j<=k:=by decide)(hg:Gl X x:=by rfl)(hdb:(x == ("__debug__":Str))=false:=by decide)
  (he:starEach (e::es) X.env=(false,eval e X.env)::starEach es X.env:=by rfl) (hpl:(backTo pos (starEach es X.env)).any (·.1)=false:=by rfl):PE X (.Call (.Name x p) (e::es) [] pos) (tCall sp [] E t):=by
 obtain⟨f,fd,F,b,kp,m⟩:=o.ex;exact pe_call (F.mono hj) hr hg m kp b .nil hx ha hdb he hpl
theorem Zh:Passes (Lz X.prog X.w) X E0:=λ_ _ _ _ _ _ _ h=>by obtain⟨_,_,_,_,_,_,_,_,_,q⟩:=h;exact q.elim
def Rs.get:Rs->PV
 | .val p=>p
 | .err _=>.non
def Rs.isV:Rs->Prop
 | .val _=>True
 | .err _=>False
theorem O3 (hn:Sv X E)(hc:X.calm=true)(q:KN X.K Cc)(hg:Gl X x)(hm:X.mg x=some (.ref Cc))(ha:PA X (e::es) (M7 X.K G C gs))(hlen:∀Z,(gs Z).length=(e::es).length:=by intro _;rfl)(hz:(e::es).length<=1000:=by decide)
  (hdb:(x == ("__debug__":Str))=false:=by decide) (he:starEach (e::es) X.env=(false,eval e X.env)::starEach es X.env:=by rfl) (hpl:(backTo cpos (starEach (e::es) X.env)).any (·.1)=false:=by rfl) :
  PS X (.Raise (some (.Call (.Name x np) (e::es) [] cpos)) none pos) (ts X.K G (erE E) λP Z=>C Z/\P.er Cc):=
 toS (Rw hn hc q hg hm ha hz hdb he hpl λσ H Q ⟨B,Z,O,R,c,q⟩=>⟨B,Z,O,R,c,λvs H1 s1 a1=>⟨by rw[<- a1.length];exact hlen Z,q vs H1 s1 a1⟩⟩) λB σ H Z O P D R c w=>⟨B,Z,O,R,c.1,λ_ H1 s1 _=>w.er H1 Cc (R.same.trans s1) c.2⟩
end
end L3
namespace L2
structure abU (K:Fg)(C:Addr):Prop where
 hg:W.findIn K (.ref C) "__getattribute__"=some (some (.builtin "BaseException.__getattribute__"))
 hk:W.findIn K (.ref C) "__getattr__"=some none
 hb:W.mroIn K C (.type "BaseException")=some true
 hd:W.hasDictIn K C=true
 ha:W.findIn K (.ref C) "__class__"=some (some (.builtin "object.__class__"))
 hn:W.specialIn K (.builtin "object.__class__") "__get__"=some (some (.builtin "getset_descriptor.__get__"))
 htk:W.takesIn K (.builtin "object.__class__")=some true
 hm:W.mroIn K C (.type "object")=some true
end L2
namespace L3
open L2
mutual
def dat:PV->PyData
 | .int n=>.int n
 | .bl b=>.bool b
 | .non=>.none
 | .str s=>.str s
 | .ints ns=>.list (ns.map PyData.int)
 | .lst xs=>.list (Zi xs)
 | .tup xs=>.tuple (Zi xs)
 |_=>.none
def Zi:List PV->List PyData
 |[]=>[]
 |p::ps=>dat p::Zi ps
end
def eqD (p q:PV):Prop:=PySem.Spec.same (dat p) (dat q)=true
instance (p q:PV):Decidable (eqD p q):=inferInstanceAs (Decidable (_=true))
def tR (K:Fg)(G:Gx)(C:En->Prop)(F:En->Rs)(E:XK):TE:=λσ H Q=>∃B Z O,Rep K G B σ H Z O/\C Z/\(∀p,F Z=.val p->∀v H',Same H H' -> At K G (mn H' O) p v->Q v H')/\∀c,F Z=.err c->∀H',Same H H' -> E (.ref c) none H'
abbrev PR (X:Cx)(G:Gx)(e:Expr)(C:En->Prop)(F:En->Rs):Prop:=∀E,Passes (Lz X.prog X.w) X E->PE X e (tR X.K G C F E)
section
variable {X:Cx}{G:Gx}{Er:ER}{E:XK}{e:Expr}{es:List Expr}{pos p pos':Pos}{i j k l:Nat}{x y n:Str}{ps:List Str}{pre:List PV->Prop}{C:En->Prop}{gs:En->List PV}{g:En->PV}{F:List PV->Rs}{FE:En->Rs}{Cc Cl:Addr}{px py pn hp p1 p2:Pos}
theorem Za (h:PR X G e C FE):PE X e (tX X.K G (λZ=>C Z/\(FE Z).isV) λZ=>(FE Z).get):=
 λpins s σ H Q I ⟨B,Z,O,R,c,q⟩=>h E0 Zh pins s σ H Q I ⟨B,Z,O,R,c.1,λp hp v H' s a=>q v H' s (by dsimp only;rw[hp];exact a),λcc hcc=>by
  have z:=c.2;rw[hcc]at z;exact z.elim⟩
structure KSz (K:Fg)(G:Gx):Prop where
 sz:∀(H:Hp) (a:Addr) (z:Int),G.ob 0 H a z->∃C dx fs,H a=some (.ins C dx fs)/\Cls K C/\NoAttr K C "size"/\fs.lookup ("size":Str)=some (.int z)
def pvZ:PV->Int
 | .ob _ z=>z
 |_=>0
theorem GJ (hK:KSz X.K G)(he:PE X e (tX X.K G C g))(hb:attributeBase e "size" X.env (eval e X.env)=eval e X.env:=by rfl):PE X (.Attribute e "size" pos) (lY X.K G (λZ=>C Z/\g Z=.ob 0 (pvZ (g Z))) λZ=>pvZ (g Z)):=
 uN (pe_fld he hb) λB σ H Z O Q R c q=>⟨B,Z,O,R,c.1,λv H1 s1 a1=>by
  rw[c.2]at a1;obtain⟨a,rfl,ob⟩:=a1;obtain⟨Ck,dx,fs,e1,e2,e3,e4⟩:=hK.sz _ _ _ ob;exact⟨a,Ck,dx,fs,_,rfl,jQ _ _ e1,e2,e3,e4,q _ H1 s1 rfl⟩⟩
def QX:PV->Bool
 | .non=>true
 |_=>false
theorem Wy [∀Z,Decidable (pb Z)](hm:X.mg "int"=none)(he:PE X e (Qu X.K G C pb))(hg:Gl X "int":=by rfl)(hst:starEach [e] X.env=[(false,eval e X.env)]:=by rfl):PE X (.Call (.Name "int" p) [e] [] pos) (lY X.K G C λZ=>if pb Z then 1 else 0):=
 uN (pe_callTy call_int1 hg hm Uy (pa_cons he pa_nil hst) (by decide) (by decide) hst rfl) λB σ H Z O Q R c q=>⟨B,Z,O,R,c,λv H1 s1 a1=>by
  subst a1;refine .inr ⟨_,rfl,q _ H1 s1 ?_⟩;show V.int (if decide (pb Z)=true then 1 else 0)=V.int (if pb Z then 1 else 0);by_cases d:pb Z
  ·rw[af d,af (aL d)]
  ·rw[ae d,ae (by rw[aJ d];decide)]⟩
end
end L3
namespace L2
def ZX (KA:Hp->Addr->Int->Prop)(a:Addr)(z:Int)(n:Nat)(pre:Int->List Int->Prop)(F:Int->List Int->Int ⊕ Addr):Sp:=λvs H Q E=>∃ns:List Int,ns.length=n/\vs=.ref a::ns.map V.int/\KA H a z/\pre z ns/\(∀c,F z ns=.inl c->∀H',Same H H' -> Q (.int c) H')/\∀e,F z ns=.inr e->∀H',Same H H' -> E (.ref e) none H'
structure KME (P:Program)(w:World)(K:Fg)(mg:Mg)(base:Heap)(k:Nat)(KA:Hp->Addr->Int->Prop)(m:Str)(n:Nat)(pre:Int->List Int->Prop)(F:Int->List Int->Int ⊕ Addr):Prop where
 ex:∀H a z,KA H a z->∃C dx fs ps,H a=some (.ins C dx fs)/\fs.lookup m=none/\OkM P w K mg base (Lz P w) k C m ps (ZX KA a z n pre F)
end L2
namespace L3
open L2
def xZ:Int ⊕ Addr->Rs
 | .inl c=>.val (.int c)
 | .inr e=>.err e
section
variable {X:Cx}{G:Gx}{a b c e:Expr}{es:List Expr}{pos p px apos:Pos}{C Ca Cb Cc:En->Prop}{ga gc:En->PV}{gs:En->List PV}{i j k n:Nat}{x m:Str}
theorem Fv {KA:Hp->Addr->Int->Prop}{preK:Int->List Int->Prop}{F:Int->List Int->Int ⊕ Addr}{pl:Sem Bool}(i:Nat)(M:KME X.prog X.w X.K X.mg X.base j KA m n preK F)(hr:Room k X.A)(ha:PA X (e::es) (M7 X.K G C gs))(hn:∀Z,(gs Z).length=n:=by intro _;rfl)(hG:∀H a z,G.ob 0 H a z->KA H a z:=by first|exact λ_ _ _ h=>h.2|exact λ_ _ _ h=>h.elim (λz=>z.2) λz=>absurd z.1 (by decide))(hGm:∀{H H':Hp} {a:Addr} {z:Int},KA H a z->Same H H' -> KA H' a z:=by first|exact λh s=>KAt.same h s|exact λh s=>h.same s)(hj:j<=k:=by decide)
  (hN:X.N[i]?=some x:=by rfl) (hv:Vis X.env.scope x:=by first|exact Or.inl rfl|exact Or.inr (Or.inl rfl)|exact Or.inr (Or.inr rfl)) (hd:(x == ("__debug__":Str))=false:=by decide) (hcd:(x == ("__classdict__":Str))=false:=by decide)
  (hst:starEach (e::es) X.env=(false,eval e X.env)::starEach es X.env:=by rfl) (hpl:(backTo pos (starEach es X.env)).any (·.1)=false:=by rfl)
  (ht:eval (.Call (.Attribute (.Name x px) m apos) (e::es) [] pos) X.env=(do
   let ov <- eval (.Name x px) X.env
   standAt apos.atName
   let (f,first) <- holding [ov] (getMethod ov m pl)
   callWith pos f first (backTo pos (starEach (e::es) X.env)) (backToKw pos (keywordEach [] X.env))):=by rfl) :
  PR X G (.Call (.Attribute (.Name x px) m apos) (e::es) [] pos) (λZ=>isK Z i/\C Z/\Kw (gs Z)/\preK (K4 Z i) (tZ (gs Z))) λZ=>xZ (F (K4 Z i) (tZ (gs Z))):=by
 intro E hx pins s σ H Q I h;obtain⟨B,Z,O,R,⟨c0,c1,c2,c3⟩,q,qe⟩:=h;obtain⟨v,e1,a,rfl,ka⟩:=R.fr i _ c0;have ka1:KA H a (K4 Z i):=hGm (hG _ _ _ ka) jQ;obtain⟨Cl,dx,fs,ps,f1,f2,M'⟩:=M.ex H a _ ka1;obtain⟨f,fd,FF,bb,mm,cc⟩:=M'.ex;refine pe_meth (pe_var hN hv hd hcd) cc mm (FF.mono hj) hr bb .nil hx ha hst hpl ht pins s σ H Q I ⟨_,e1,a,dx,fs,rfl,f1,f2,B,Z,O,R,c1,λvs H1 s1 a1=>?_⟩;have ev:=a1.ints c2;have el:(tZ (gs Z)).length=n:=by rw[<- hn Z,a1.length,ev,aa]
 exact⟨tZ (gs Z),el,by rw[bu,ev],hGm ka1 s1,c3,λc hc H' s'=>q (.int c) (by dsimp only;rw[hc];rfl) _ H' (s1.trans s') rfl,λer her H' s'=>qe er (by dsimp only;rw[her];rfl) H' (s1.trans s')⟩
end
section
variable {X:Cx}{G:Gx}{a b c e:Expr}{p pos:Pos}{C Ca Cb Cc:En->Prop}{ga gb g:En->PV}{gl:En->List Int}
theorem Uk [∀Z,Decidable (pt Z)](hc:PT X c (vy X.K G Cc pt))(ha:PE X a (tX X.K G Ca ga))(hb:PE X b (tX X.K G Cb gb)):PE X (.IfExp c a b pos) (tX X.K G (λZ=>Cc Z/\(pt Z->Ca Z)/\(¬pt Z->Cb Z)) λZ=>if pt Z then ga Z else gb Z):=
 uN (pe_ifExp hc ha hb) λB σ H Z O Q R c q=>⟨B,Z,O,R,c.1,λH1 s1=>by
  by_cases d:pt Z
  ·rw[aL d];refine iteT ⟨B,Z,O,R.grow s1,c.2.1 d,λv H2 s2 a2=>q v H2 (s1.trans s2) ?_⟩;rw[af d];exact a2
  ·rw[aJ d];refine iteF ⟨B,Z,O,R.grow s1,c.2.2 d,λv H2 s2 a2=>q v H2 (s1.trans s2) ?_⟩;rw[ae d];exact a2⟩
end
section
variable {X:Cx}{G:Gx}{Er:ER}{f:FS}{a b c e:Expr}{pos p:Pos}{C Ca Cb Cc Cs:En->Prop}{ga gb gs:En->Str}{gi gj gk:En->Int}{g:En->PV}{i k:Nat}{x:Str}
def pO:PV->PV
 | .tup [a,_]=>a
 |_=>.non
def p6:PV->PV
 | .tup [_,b]=>b
 |_=>.non
def JS (q:PV):Prop:=q=.tup [pO q,p6 q]
theorem Bb {k j:Nat}{g:En->List PV}{kk:Nat}(hp:PassesOwn (model X.prog X.w) X.A X.env X.xe)(hc:X.calm=true)(hl:PE X l (tX X.K G C λZ=>.lst (g Z)))
  (hgt:PG X (.Tuple [.Name x px,.Name y py] kk tp) (gTup X.K 2 (gCons (gName k) (gCons (gName j) gNil)))) (hb:PSs X body (ts X.K G Er f)) (hfs:∀x,foldedSetIterable l X.env x=pure x:=by intro _;rfl) :
  PS X (.For (.Tuple [.Name x px,.Name y py] kk tp) l body [] pos) (ts X.K G Er λP Z=>(C Z/\∀q∈g Z,JS q)/\∃W:Nat->En->Prop,W 0 Z /\
   (∀i n Z',(g Z)[i]?=some n->W i Z' -> f { P with nx:=W (i+1),ct:=W (i+1),bk:=P.nx } ((Z'.set k (.fr (pO n))).set j (.fr (p6 n))))/\∀Z',W (g Z).length Z' -> P.nx Z'):=
 toS (ps_for hp hc (pi_list hl) hgt hb hfs) λB σ H Z O P D R c w=>by
  obtain⟨⟨c1,c2⟩,W,w0,st,nd⟩:=c;refine⟨B,Z,O,R,c1,λv H1 s1 a1=>?_⟩;obtain⟨a,vs,e,hq,hal⟩:=a1;have R1:=R.grow s1;have w1:=rT R1 w;have el:=hal.length;refine⟨a,e,⟨_,.inl (jy jQ hq)⟩,for_list (xs:=vs) (λi σ H=>∃Z',wR X.K G (B.at H1 O) σ H Z'/\W i Z') ⟨Z,⟨O,R1.rebase⟩,w0⟩ ?_ ?_ ?_⟩
  ·rintro i σ H _ ⟨Z',⟨O',R'⟩,_⟩;exact .inl (jy ((Rep.uY B H1 O).trans R'.same) hq)
  ·rintro i y σ H hy ⟨Z',⟨O',R'⟩,hw⟩;obtain⟨n,en,an⟩:=hal.get hy;have ip:=c2 n (aV en);have an2:=At.mono (R1.seen R') _ _ an;rw[ip]at an2;obtain⟨T,us,rfl,hT,al⟩:=an2;obtain⟨v1,r1,rfl,x1,v2,r2,rfl,x2,rfl⟩:=al;refine⟨T,_,rfl,SqT.of (jQ _ _ hT),rfl,_,_,rfl,_,_,rfl,rfl,?_⟩;exact⟨_,_,_,⟨O',(R'.set x1).set x2⟩,st i n Z' en hw,⟨λσ' H' Z' R' h=>⟨Z',R',h⟩,w1.rt,w1.rl,w1.rn,w1.nx,λσ' H' Z' R' h=>⟨Z',R',h⟩,w1.er⟩⟩
  ·rintro σ H ⟨Z',R',hw⟩;rw[<- el]at hw;exact w1.nx σ H Z' R' (nd Z' hw)
end
section
variable {K:Fg}{G:Gx}{σ:L2.St}{H:Hp}{Q:VK}{Cs Cb:En->Prop}{gp:En->PV}{cap:List (Option Nat)}
theorem abh {gl:En->List PV}(h:yL K G (λZ=>Cs Z/\(gl Z).length<=1000/\(∀q∈gl Z,JS q)/\∀q∈gl Z,Cb (((jH (none::none::cap) Z).set 0 (.fr (pO q))).set 1 (.fr (p6 q)))) (λZ=>(gl Z).map λq=>gp (((jH (none::none::cap) Z).set 0 (.fr (pO q))).set 1 (.fr (p6 q)))) σ H Q) :
  Qt (none::none::cap) (iList K (tX K G Cs λZ=>.lst (gl Z))) (gTup K 2 (gCons (gName 0) (gCons (gName 1) gNil))) sJ (tX K G Cb gp) σ H Q:=by
 obtain⟨B,Z,O,R,⟨c1,c2,c3,c4⟩,q⟩:=h;refine⟨B,Z,O,R,c1,λv H1 s1 a1=>?_⟩;obtain⟨a,vs,rfl,hq,hal⟩:=a1;have hq1:SqL K H1 a vs:=.inl (jy jQ hq);have el:=hal.length;have R1:=R.grow s1;refine⟨a,rfl,⟨_,hq1⟩,λD hD=>?_⟩;have two:∀i n,(gl Z)[i]?=some n->∃(T:Addr) (v1 v2:V),vs[i]?=some (V.ref T)/\SqT K H1 T [v1,v2]/\At K G (mn H1 O) (pO n) v1/\At K G (mn H1 O) (p6 n) v2:=λi n en=>by
  have hi:i<vs.length:=by rw[<- el];exact(aj.mp en).1
  obtain⟨n',en',an⟩:=hal.get (ac hi);rw[en]at en';cases en';rw[c3 n (aV en)]at an;obtain⟨T,us,e,hT,al⟩:=an;obtain⟨v1,r1,rfl,x1,v2,r2,rfl,x2,rfl⟩:=al;exact⟨T,v1,v2,by rw[ac hi,e],SqT.of (jQ _ _ hT),x1,x2⟩
 obtain⟨items,hit⟩:∃items:List (Nat×PV),items=(gl Z).zipIdx.map λz=>(z.2,z.1):=⟨_,rfl⟩;have hlen:items.length=(gl Z).length:=by rw[hit,aa,gf]
 have hat:∀(i:Nat) (it:Nat×PV),items[i]?=some it->it.1=i/\(gl Z)[i]?=some it.2:=λi it e=>by
  rw[hit,ao,fI]at e;cases eg:(gl Z)[i]? with
  |none=>rw[eg]at e;cases e
  |some n=>rw[eg]at e;have e:=aF e;subst e;exact⟨gm i,rfl⟩
 have hmem:∀it∈items,(gl Z)[it.1]?=some it.2:=λit hm=>by obtain⟨i,e⟩:=io.mp hm;obtain⟨h1,h2⟩:=hat i it e;rw[h1];exact h2
 have hmap:items.map (λit=>gp (((jH (none::none::cap) Z).set 0 (.fr (pO it.2))).set 1 (.fr (p6 it.2))))=(gl Z).map λq=>gp (((jH (none::none::cap) Z).set 0 (.fr (pO q))).set 1 (.fr (p6 q))):=by
  refine du λi=>?_;rw[ao,ao];by_cases c:i<(gl Z).length
  ·have c':i<items.length:=by lia
   obtain⟨h1,h2⟩:=hat i items[i] (ac c');rw[ac c',h2];rfl
  ·rw[bw (show items.length<=i by lia),bw (show(gl Z).length<=i by lia)];rfl
 have ch:∀it:Nat×PV,∃p:V×V,it∈items->∃T:Addr,vs[it.1]?=some (V.ref T)/\SqT K H1 T [p.1,p.2]/\At K G (mn H1 O) (pO it.2) p.1/\At K G (mn H1 O) (p6 it.2) p.2:=λit=>by
  by_cases hm:it∈items
  ·obtain⟨T,v1,v2,h1,h2,h3,h4⟩:=two _ _ (hmem it hm);exact⟨(v1,v2),λ_=>⟨T,h1,h2,h3,h4⟩⟩
  ·exact⟨(.non,.non),λz=>absurd z hm⟩
 obtain⟨vf,hvf⟩:=eW ch;have hv:∀it∈items,∃T:Addr,vs[it.1]?=some (V.ref T)/\SqT K H1 T [(vf it).1,(vf it).2]/\At K G (mn H1 O) (pO it.2) (vf it).1/\At K G (mn H1 O) (p6 it.2) (vf it).2:=λit hm=>hvf it hm;refine qY items (λit _=>((pF (none::none::cap) σ).set 0 (some (vf it).1)).set 1 (some (vf it).2)) (λit=>((jH (none::none::cap) Z).set 0 (.fr (pO it.2))).set 1 (.fr (p6 it.2))) (λit=>.non) R1 hD (by rw[hlen];exact c2)
  (λi H hi s=>⟨vs,vs[i]'(by rw[<- el,<- hlen];exact hi),s.seq hq1,by rw[ac]⟩) ?_ (λH s=>⟨_,s.seq hq1,by rw[hlen,el];exact ai _⟩) (λit H hm s R'=>?_) ?_ ?_ ?_
 ·rintro i it x H H' en s ⟨rfl,hx⟩;obtain⟨h1,h2⟩:=hat i it en;obtain⟨T,e1,e2,_,_⟩:=hv it (aV en);have e3:=hx _ (s.seq hq1);rw[h1]at e1;rw[e1]at e3;cases e3;refine⟨Same.refl _,λkk hk=>⟨T,_,rfl,Iz s e2,rfl,_,_,rfl,_,_,rfl,rfl,hk⟩⟩
 ·obtain⟨T,_,_,e3,e4⟩:=hv it hm;have gr:=mK (O:=O) s hD;exact(R'.set (At.mono gr _ _ e3)).set (At.mono gr _ _ e4)
 ·intro it;exact mU _
 ·intro it hm;exact c4 it.2 (aV (hmem it hm))
 ·intro H' ys s hd al;refine q D ys H' (s1.trans s) (s1.free hD) hd ?_;rw[hmap]at al;exact al
end
section
variable {X:Cx}{G:Gx}{Er:ER}{N':List Str}{sc:Scope}{cl:List (Str×Addr)}{cap:List (Option Nat)}{el tg src:Expr}{at' spos px:Pos}{Cs Cb Ca C2 Cc:En->Prop}{gs:En->List Int}{ga gb gc gi:En->Int}{gp:En->PV}{i:Nat}{x:Str}{a b c:Expr}
theorem Us {t:TE}{st:Stmt}{C:En->Prop}{g:En->List PV}(h:PS X st (tAsg t (gName i)))(k:∀σ H Q,yL X.K G C g σ H Q->t σ H Q):PS X st (ts X.K G Er λP Z=>C Z/\∀ns,ns=g Z->P.nx (Z.set i (.fr (.lst ns)))):=
 toS h λB σ H Z O P D R c w=>k σ H _ ⟨B,Z,O,R,c.1,λa vs H1 s1 n1 e1 al=>w.nx _ H1 _ ⟨O,(R.grow s1).set (p:=.lst _) ⟨a,vs,rfl,.inl (by
  rw[qX]
  ·exact e1
  ·cases z:O a with
   |false=>rfl
   |true=>exact absurd n1 (R.dom a z)),by
  refine lX.mono ?_ _ _ al;exact ww qQ⟩⟩ (c.2 _ rfl)⟩
end
def abS (q:PV):Prop:=∃g o,q=.tup [.ints g,.int o]
section
variable {X:Cx}{G:Gx}{Er:ER}{a b c e:Expr}{pos p:Pos}{C Ca:En->Prop}{gl:En->List Int}{g:En->PV}{gp:En->List PV}{i:Nat}{x:Str}{px pa pc:Pos}
def QF (Z:En)(i:Nat):Prop:=Z[i]?=some (.ow (.lst (pN (sX Z i))))
theorem uz (i:Nat)(he:PE X e (tX X.K G C g))(hN:X.N[i]?=some x:=by rfl)(hv:Vis X.env.scope x:=by first|exact Or.inl rfl|exact Or.inr (Or.inl rfl)|exact Or.inr (Or.inr rfl))
  (hd:(x == ("__debug__":Str))=false:=by decide) (hcd:(x == ("__classdict__":Str))=false:=by decide)
  (hbase:attributeBase (.Name x px) "append" X.env (eval (.Name x px) X.env)=eval (.Name x px) X.env:=by rfl)
  (hfew:((backTo pc (starEach (e::[]) X.env)).all (λx=>!x.1) && (backToKw pc (keywordEach [] X.env)).all (λx=>x.1.isSome)
   && decide ((e::[]).length+([]:List Keyword).length+(if ([]:List Keyword).isEmpty then 0 else 1)<30))=true:=by rfl)
  (hline:(pa.endLine == pc.line)=true:=by rfl) (hs:starEach (e::[]) X.env=(false,eval e X.env)::starEach [] X.env:=by rfl) (hplain:(backTo pc (starEach [] X.env)).any (·.1)=false:=by rfl)
  (hsw:swapsWith (.Call (.Attribute (.Name x px) "append" pa) [e] [] pc) none pos.line X.env=pure false:=by rfl) :
  PS X (.Expr (.Call (.Attribute (.Name x px) "append" pa) [e] [] pc) pos) (ts X.K G Er λP Z=>QF Z i/\C Z/\(pN (sX Z i)).length<sizeLine/\P.nx (Z.set i (.ow (.lst (pN (sX Z i)++[g Z]))))):=
 toS (ps_expr (pe_bm cV gE gF mt_append (pe_var hN hv hd hcd) (pa_cons he pa_nil hs) hbase hfew hline hs hplain) hsw) λB σ H Z O P D R c w=>by obtain⟨c0,c1,c2,c3⟩:=c;obtain⟨a,vs,e1,e2,e3,e4,e5⟩:=R.ow i _ c0;have el:=e5.length;refine⟨_,e1,.inl ⟨rfl,_,SqL.of e4⟩,B,Z,O,R,c1,λv H1 s1 a1=>?_⟩;refine⟨a,_,_,rfl,rfl,s1 _ _ e4,by rw[<- el];exact c2,w.nx σ _ _ ⟨O,(R.grow s1).change c0 e1 (p':=.lst (pN (sX Z i)++[g Z])) ?_⟩ c3⟩;exact lX.snoc (lX.mono (kY s1) _ _ e5) a1
end
section
variable {K:Fg}{G:Gx}{σ:L2.St}{H:Hp}{Q:VK}{Cs Cb:En->Prop}{gp:En->PV}{cap:List (Option Nat)}
theorem aal {gl:En->List PV}(h:yL K G (λZ=>Cs Z/\(gl Z).length<=1000/\∀q∈gl Z,Cb ((jH (none::cap) Z).set 0 (.fr q))) (λZ=>(gl Z).map λq=>gp ((jH (none::cap) Z).set 0 (.fr q))) σ H Q) :
  Qt (none::cap) (iList K (tX K G Cs λZ=>.lst (gl Z))) (gName 0) sJ (tX K G Cb gp) σ H Q:=by
 obtain⟨B,Z,O,R,⟨c1,c2,c4⟩,q⟩:=h;refine⟨B,Z,O,R,c1,λv H1 s1 a1=>?_⟩;obtain⟨a,vs,rfl,hq,hal⟩:=a1;have hq1:SqL K H1 a vs:=.inl (jy jQ hq);have el:=hal.length;have R1:=R.grow s1;refine⟨a,rfl,⟨_,hq1⟩,λD hD=>?_⟩;have one:∀i n,(gl Z)[i]?=some n->At K G (mn H1 O) n (vs.getD i .non):=λi n en=>by
  have hi:i<vs.length:=by rw[<- el];exact(aj.mp en).1
  obtain⟨n',en',an⟩:=hal.get (ac hi);rw[en]at en';cases en';rw[gQ,ac hi];exact an
 obtain⟨items,hit⟩:∃items:List (Nat×PV),items=(gl Z).zipIdx.map λz=>(z.2,z.1):=⟨_,rfl⟩;have hlen:items.length=(gl Z).length:=by rw[hit,aa,gf]
 have hat:∀(i:Nat) (it:Nat×PV),items[i]?=some it->it.1=i/\(gl Z)[i]?=some it.2:=λi it e=>by
  rw[hit,ao,fI]at e;cases eg:(gl Z)[i]? with
  |none=>rw[eg]at e;cases e
  |some n=>rw[eg]at e;have e:=aF e;subst e;exact⟨gm i,rfl⟩
 have hmem:∀it∈items,(gl Z)[it.1]?=some it.2:=λit hm=>by obtain⟨i,e⟩:=io.mp hm;obtain⟨h1,h2⟩:=hat i it e;rw[h1];exact h2
 have hmap:items.map (λit=>gp ((jH (none::cap) Z).set 0 (.fr it.2)))=(gl Z).map λq=>gp ((jH (none::cap) Z).set 0 (.fr q)):=by
  refine du λi=>?_;rw[ao,ao];by_cases c:i<(gl Z).length
  ·have c':i<items.length:=by lia
   obtain⟨h1,h2⟩:=hat i items[i] (ac c');rw[ac c',h2];rfl
  ·rw[bw (show items.length<=i by lia),bw (show(gl Z).length<=i by lia)];rfl
 refine qY items (λ_ v=>(pF (none::cap) σ).set 0 (some v)) (λit=>(jH (none::cap) Z).set 0 (.fr it.2)) (λit=>vs.getD it.1 .non) R1 hD (by rw[hlen];exact c2)
  (λi H hi s=>⟨vs,vs[i]'(by rw[<- el,<- hlen];exact hi),s.seq hq1,by rw[ac]⟩) ?_ (λH s=>⟨_,s.seq hq1,by rw[hlen,el];exact ai _⟩) (λit H hm s R'=>?_) ?_ ?_ ?_
 ·rintro i it x H H' en s ⟨rfl,hx⟩;obtain⟨h1,h2⟩:=hat i it en;have e3:=hx _ (s.seq hq1);refine⟨Same.refl _,λkk hk=>?_⟩;rw[h1,gQ,e3]at hk;exact hk
 ·exact R'.set (At.mono (mK (O:=O) s hD) _ _ (one _ _ (hmem it hm)))
 ·intro it;exact mU _
 ·intro it hm;exact c4 it.2 (aV (hmem it hm))
 ·intro H' ys s hd al;refine q D ys H' (s1.trans s) (s1.free hD) hd ?_;rw[hmap]at al;exact al
end
section
variable {X:Cx}{G:Gx}{Er:ER}{N':List Str}{sc:Scope}{cl:List (Str×Addr)}{cap:List (Option Nat)}{el tg src:Expr}{at' spos px:Pos}{Cs Cb:En->Prop}{gn gi:En->Int}{gp:En->PV}{gl:En->List PV}{i:Nat}{x:Str}
theorem Yy (L:u6 X N' sc cl (none::cap))(hc:X.calm=true)(hi:PE X src (tX X.K G Cs λZ=>.lst (gl Z)))(hg:∀s H fp,PG (jE X N' sc cl s H fp) tg (gName 0))(he:∀s H fp,PE (jE X N' sc cl s H fp) el (tX X.K G Cb gp))(hs:∀x,foldedSetIterable src X.env x=pure x:=by intro _;rfl) :
  PE X (.ListComp el [⟨tg,src,[],0⟩] sc at') (yL X.K G (λZ=>Cs Z/\(gl Z).length<=1000/\∀q∈gl Z,Cb ((jH (none::cap) Z).set 0 (.fr q))) λZ=>(gl Z).map λq=>gp ((jH (none::cap) Z).set 0 (.fr q))):=
 λpins s σ H Q I h=>yD L hc (pi_list hi) hg (λ_ _ _=>pM) he hs pins s σ H Q I (aal h)
theorem Yx (L:u6 X N' sc cl (none::cap))(hc:X.calm=true)(hgl:Gl X "range")(hm:X.mg "range"=none)(hi:PE X src (lY X.K G Cs gn))(hg:∀s H fp,PG (jE X N' sc cl s H fp) tg (gName 0))(he:∀s H fp,PE (jE X N' sc cl s H fp) el (tX X.K G Cb gp))
  (hst:starEach [src] X.env=[(false,eval src X.env)]:=by rfl) (hs:∀x,foldedSetIterable (.Call (.Name "range" p) [src] [] pos') X.env x=pure x:=by intro _;rfl) :
  PE X (.ListComp el [⟨tg,.Call (.Name "range" p) [src] [] pos',[],0⟩] sc at') (yL X.K G (λZ=>Cs Z/\(0<=gn Z/\gn Z<=1000)/\∀k:Nat,k<(gn Z).toNat->Cb ((jH (none::cap) Z).set 0 (.fr (.int k)))) λZ=>(List.range (gn Z).toNat).map λ(k:Nat)=>gp ((jH (none::cap) Z).set 0 (.fr (.int k)))):=
 λpins s σ H Q I h=>yD L hc (pi_range1 hgl hm (pa_cons hi pa_nil hst) hst) hg (λ_ _ _=>pM) he hs pins s σ H Q I (aba h)
end
section
variable {K:Fg}{G:Gx}{H:Hp}
theorem MF:∀{ps:List PV} {vs:List V} {k:Nat} {q:PV} {v:V},lX K G H ps vs->At K G H q v->lX K G H (ps.set k q) (vs.set k v)
 |[],_,k,_,_,h,_=>by rw[h];rfl
 |p::r,_,0,q,v,h,a=>by obtain⟨u,t,rfl,e,z⟩:=h;exact⟨v,t,rfl,a,z⟩
 |p::r,_,k+1,q,v,h,a=>by obtain⟨u,t,rfl,e,z⟩:=h;exact⟨u,t.set k v,rfl,e,MF z a⟩
theorem Be:∀{ps:List PV} {vs:List V},lX K G H ps vs->∀k:Nat,lX K G H (ps.drop k) (vs.drop k)
 |_,_,h,0=>h
 |[],_,h,k+1=>by rw[h];rfl
 |p::r,_,h,k+1=>by obtain⟨u,t,rfl,e,z⟩:=h;exact Be z k
theorem Ab:∀{ps:List PV} {vs:List V},lX K G H ps vs->∀k:Nat,lX K G H (ps.take k) (vs.take k)
 |_,_,_,0=>rfl
 |[],_,h,k+1=>by rw[h];rfl
 |p::r,_,h,k+1=>by obtain⟨u,t,rfl,e,z⟩:=h;exact⟨u,t.take k,rfl,e,Ab z k⟩
end
section
variable {X:Cx}{G:Gx}{Er:ER}{a b e:Expr}{pos p px:Pos}{C Ca Cb:En->Prop}{gb:En->Int}{g:En->PV}{gp:En->List PV}{i:Nat}{x:Str}
theorem Bv (i:Nat)(hb:PE X b (lY X.K G Cb gb))(hs:PlainIx b)(hN:X.N[i]?=some x:=by rfl)(hv:Vis X.env.scope x:=by first|exact Or.inl rfl|exact Or.inr (Or.inl rfl)|exact Or.inr (Or.inr rfl))
  (hd:(x == ("__debug__":Str))=false:=by decide) (hcd:(x == ("__classdict__":Str))=false:=by decide) :
  PE X (.Subscript (.Name x px) b pos) (tX X.K G (λZ=>QF Z i/\Cb Z /\ -((pN (sX Z i)).length:Int)<=gb Z/\gb Z<((pN (sX Z i)).length:Int)) λZ=>(pN (sX Z i)).getD (jZ (pN (sX Z i)).length (gb Z)) .non):=
 uN (pe_ix ix_list (pe_var hN hv hd hcd) hb hs) λB σ H Z O Q R c q=>by obtain⟨l,vs,e1,e2,e3,e4,e5⟩:=R.ow i _ c.1;refine⟨_,e1,B,Z,O,R,c.2.1,λu H1 s1 a1=>?_⟩;obtain⟨v',e',a'⟩:=(lX.mono (kY s1) _ _ e5).item c.2.2.1 c.2.2.2;exact⟨l,vs,_,v',rfl,a1,s1.seq (SqL.of e4),e',q _ H1 s1 a'⟩
theorem Ky (i:Nat)(hk:PE X b (lY X.K G Cb gb))(he:PE X e (tX X.K G C g))(hN:X.N[i]?=some x:=by rfl)(hv:Vis X.env.scope x:=by first|exact Or.inl rfl|exact Or.inr (Or.inl rfl)|exact Or.inr (Or.inr rfl))
  (hd:(x == ("__debug__":Str))=false:=by decide) (hcd:(x == ("__classdict__":Str))=false:=by decide)
  (ha:∀v,assign (.Subscript (.Name x px) b ps) X.env v=(do
   let ov <- holding [v] (eval (.Name x px) X.env)
   let iv <- holding [v,ov] (eval b X.env)
   standAt ps
   holding [v,ov,iv] (setItem ov iv v)
   release [v,ov,iv] []):=by intro _;rfl)
  (hs:swapsWithSole [.Subscript (.Name x px) b ps] e pos.line X.env=pure false:=by rfl) (hw:swappedStores [.Subscript (.Name x px) b ps] e X.env=pure none:=by rfl)
  (h1:(assignEach [.Subscript (.Name x px) b ps] X.env).map (·.2)=[assign (.Subscript (.Name x px) b ps) X.env]:=by rfl) :
  PS X (.Assign [.Subscript (.Name x px) b ps] e pos) (ts X.K G Er λP Z=>C Z/\QF Z i/\Cb Z/\(-((pN (sX Z i)).length:Int)<=gb Z/\gb Z<((pN (sX Z i)).length:Int))/\P.nx (Z.set i (.ow (.lst ((pN (sX Z i)).set (jZ (pN (sX Z i)).length (gb Z)) (g Z)))))):=
 toS (ps_asg he (pg_sub (pe_var hN hv hd hcd) hk set_list ha) hs hw h1) λB σ H Z O P D R c w=>by obtain⟨c1,c0,c2,cb,c3⟩:=c;refine⟨B,Z,O,R,c1,λv H1 s1 a1=>?_⟩;have R1:=R.grow s1;obtain⟨l,vs,e1,e2,e3,e4,e5⟩:=R1.ow i _ c0;have el:=e5.length;refine⟨_,e1,B,Z,O,R1,c2,λu H2 s2 a2=>?_⟩;subst a2;refine⟨l,_,_,_,rfl,rfl,s2 _ _ e4,by rw[<- el];exact Fe cb.1 cb.2,w.nx σ _ _ ⟨O,(R1.grow s2).change c0 e1 (p':=.lst _) ?_⟩ c3⟩;rw[el];exact MF (lX.mono (kY s2) _ _ e5) (At.mono (kY s2) _ _ a1)
def rJ (xs:List PV)(lo hi:Option Int):List PV:=(xs.drop (HT.sIx xs.length 0 lo)).take (HT.sIx xs.length xs.length hi-HT.sIx xs.length 0 lo)
theorem Bf {lo hi:Option Expr}{Cl Ch:En->Prop}{gl gh:En->Option Int}(ha:PE X a (tX X.K G C λZ=>.lst (gp Z)))(hl:PO X lo (WX X.K G Cl gl))(hh:PO X hi (WX X.K G Ch gh)) :
  PE X (.Subscript a (.Slice lo hi none p2) pos) (yL X.K G (λZ=>C Z/\Cl Z/\Ch Z) λZ=>rJ (gp Z) (gl Z) (gh Z)):=
 λpins s σ H Q I ⟨B,Z,O,R,c,q⟩=>pe_slice sl_list ha hl hh pins s σ H Q I ⟨B,Z,O,R,c.1,λv H1 s1 a1=>⟨B,Z,O,R.grow s1,c.2.1,λH2 s2=>⟨B,Z,O,(R.grow s1).grow s2,c.2.2,λH3 s3=>by
  obtain⟨l,vs,rfl,r,al⟩:=a1;have al3:=lX.mono (kY (s2.trans s3)) _ _ al;have ell:=al.length;refine⟨l,_,rfl,(s2.trans s3).seq (.inl (jy jQ r)),λy hy=>q y _ _ (((s1.trans s2).trans s3).trans (same_new hy _)) (((s1.trans s2).trans s3).free hy) upd_same (lX.mono (mK (same_new hy _) hy) _ _ ?_)⟩;show lX X.K G (mn H3 O) (rJ (gp Z) (gl Z) (gh Z)) (cutV vs (gl Z) (gh Z));unfold rJ cutV;rw[ell];exact Ab (Be al3 _) _⟩⟩⟩
end
def Uo (C:Addr):Sp:=λvs H Q _=>∃(x dx:Addr) (p:Int),vs=[.ref x,.int p]/\FM.jN p/\H x=some (.ins C dx [])/\Q .non (upd H x (.ins C dx [("size",.int p)]))
def KR (cR:Addr)(H:Hp)(a:Addr)(z:Int):Prop:=0<z/\∃dx fs,H a=some (.ins cR dx fs)/\fs.lookup ("size":Str)=some (.int z)/\∀m∈Bp,fs.lookup m=none
theorem KR.same (k:KR cR H a z)(s:Same H H'):KR cR H' a z:=by obtain⟨e0,dx,fs,e,r⟩:=k;exact⟨e0,dx,fs,s _ _ e,r⟩
def pX (cR:Addr):Gx:=⟨λk H a z=>k=0/\KR cR H a z,λ_ _ _ _ _ s h=>⟨h.1,h.2.same s⟩⟩
theorem gkR (H:Hp)(a dx:Addr)(p:Int)(hp:FM.jN p)(h:H a=some (.ins cR dx [("size",.int p)])):(pX cR).ob 0 H a p:=by
 have hm:∀m∈Bp,List.lookup m [("size",V.int p)]=none:=λm hm=>by
  have key:∀m∈Bp,(m == ("size":Str))=false:=by decide +kernel
  rw[List.lookup_cons,key m hm];rfl
 exact⟨rfl,by have:=hp.1;lia,dx,_,h,rfl,hm⟩
section
variable {X:Cx}{G:Gx}{pos p:Pos}{j k:Nat}{x y:Str}{C:Addr}{e:Expr}{Ca:En->Prop}{ga:En->Int}
theorem abd (o:OkI X.prog X.w X.K X.mg X.base CX0 j x C ["self",y] (Uo C))(hr:Room k X.A)(hG:∀(H:Hp) (a dx:Addr) (p:Int),FM.jN p->H a=some (.ins C dx [("size",.int p)])->G.ob 0 H a p)(ha:PE X e (lY X.K G Ca ga))(hj:j+1<=k:=by decide)(hg:Gl X x:=by rfl)(hdb:(x == ("__debug__":Str))=false:=by decide)
  (he:starEach [e] X.env=[(false,eval e X.env)]:=by rfl) (hpl:(backTo pos (starEach [] X.env)).any (·.1)=false:=by rfl):PE X (.Call (.Name x p) [e] [] pos) (tX X.K G (λZ=>Ca Z/\FM.jN (ga Z)) λZ=>.ob 0 (ga Z)):=
 uN (Ti o hr pass0 (pa_cons ha pa_nil he) hj hg hdb he hpl) λB σ H Z O Q R c q=>⟨B,Z,O,R,c.1,λv H1 s1 a1=>λy dx hy hd hne=>by
  subst a1;refine⟨y,dx,ga Z,rfl,c.2,upd_same,rfl,q (.ref y) _ (s1.trans (Wq hy hd)) ⟨y,rfl,hG _ _ dx _ c.2 ?_⟩⟩;rw[Wn (R.grow s1).dom hy];exact upd_same⟩
end
def jt (t:List (List Int)):PV:=.lst (t.map PV.ints)
section
variable {X:Cx}{G:Gx}{Er:ER}{a b e:Expr}{pos p px apos kp pz:Pos}{C Ca Cb:En->Prop}{gl:En->List Int}{gp hp:En->List PV}{g:En->PV}{i j k:Nat}{x:Str}
def Zm:PV->Prop
 | .non=>True
 | .int _=>True
 |_=>False
theorem Wa (he:PE X e (tX X.K G C g)):PT X (.Compare e [.IsNot] [.Constant .none k2 p] pos) (vy X.K G (λZ=>C Z/\Zm (g Z)) λZ=>¬QX (g Z)=true):=
 λpins s σ H Q I ⟨B,Z,O,R,c,q⟩=>pt_cmpR op_notN he pe_non (nomark _) pins s σ H Q I ⟨B,Z,O,R,c.1,λv H1 s1 a1=>⟨rfl,_,rfl,by
  have z:=q H1 s1;have key:(!decide (v=V.non))=decide (¬QX (g Z)=true):=by
   have h:=c.2;revert a1 h;generalize g Z=pg;intro a1 h;cases pg<;>first|exact h.elim|skip
   ·rw[a1];rfl
   ·rw[a1];rfl
  rw[key];exact z⟩⟩
theorem vL {K:Fg}{H:Hp}:∀{ps qs:List PV} {vs us:List V},lX K G H ps vs->lX K G H qs us->lX K G H (ps++qs) (vs++us)
 |[],_,_,_,h,k=>by rw[h];exact k
 |p::r,_,_,_,h,k=>by obtain⟨u,t,rfl,e,z⟩:=h;exact⟨u,_,rfl,e,vL z k⟩
theorem Kc (ha:PE X a (tX X.K G Ca λZ=>.lst (gp Z)))(hb:PE X b (tX X.K G Cb λZ=>.lst (hp Z))):PE X (.BinOp a .Add b pos) (yL X.K G (λZ=>Ca Z/\Cb Z/\(gp Z).length+(hp Z).length<=sizeLine) λZ=>gp Z++hp Z):=
 λpins s σ H Q I ⟨B,Z,O,R,c,q⟩=>pe_op Ni ha hb pins s σ H Q I (two R c.1 c.2.1 λv u H1 H2 s1 s2 a1 a2=>by
  obtain⟨l,vs,rfl,r1,al1⟩:=a1;obtain⟨b,us,rfl,r2,al2⟩:=a2;have l1:=al1.length;have l2:=al2.length;refine⟨l,b,_,_,rfl,rfl,jy jQ r1,jy jQ r2,by rw[<- l1,<- l2];exact c.2.2,λp hp=>q p _ _ ((s1.trans s2).trans (same_new hp _)) ((s1.trans s2).free hp) upd_same ?_⟩;exact lX.mono (mK (same_new hp _) hp) _ _ (vL al1 al2))
theorem aaH (he:PE X e (tX X.K G C λZ=>.lst (gp Z)))(ht:∀whole,isTrue e X.env whole=(do let v <- whole;standAt e.pos;holding [v] (truthy v)):=by intro _;rfl):PT X e (vy X.K G C λZ=>¬gp Z=[]):=
 λpins s σ H Q I ⟨B,Z,O,R,c,q⟩=>pt_truth he ht pins s σ H Q I ⟨B,Z,O,R,c,λv H1 s1 a1=>by
  obtain⟨l,vs,rfl,hq,al⟩:=a1;refine⟨_,.inl ⟨_,.inl (jy jQ hq),rfl⟩,?_⟩;have z:=q H1 s1;have ll:=al.length;have e:(!vs.isEmpty)=decide (¬gp Z=[]):=by
   cases hg:gp Z with
   |nil=>rw[hg]at ll;have:vs=[]:=dA.mp ll.symm;rw[this];simp
   |cons a r=>
    rw[hg]at ll;cases vs with
    |nil=>cases ll
    |cons b t=>simp
  rw[e];exact z⟩
theorem N5 (i:Nat)(hm:X.mg "len"=none)(hN:X.N[i]?=some x:=by rfl)(hg:Gl X "len":=by rfl)(hv:Vis X.env.scope x:=by first|exact Or.inl rfl|exact Or.inr (Or.inl rfl)|exact Or.inr (Or.inr rfl))
  (hd:(x == ("__debug__":Str))=false:=by decide) (hcd:(x == ("__classdict__":Str))=false:=by decide) (he:starEach [.Name x px] X.env=[(false,eval (.Name x px) X.env)]:=by rfl) :
  PE X (.Call (.Name "len" p) [.Name x px] [] pos) (lY X.K G (λZ=>QF Z i) λZ=>((pN (sX Z i)).length:Int)):=
 uN (pe_callB call_len_seq hg hm Ku (pa_cons (pe_var hN hv hd hcd) pa_nil he) (by decide) (by decide) he rfl) λB σ H Z O Q R c q=>by obtain⟨l,vs,e1,e2,e3,e4,e5⟩:=R.ow i _ c;have el:=e5.length;exact⟨_,e1,l,vs,rfl,.inl (SqL.of e4),by rw[<- el];exact q _ H (Same.refl H) rfl⟩
end
section
variable {K:Fg}{G:Gx}{σ:L2.St}{H:Hp}{Q:VK}{Cs Cs' Cb Ct:En->Prop}{pt:En->Prop}[∀Z,Decidable (pt Z)]{gp:En->PV}{cap:List (Option Nat)}{gl hl:En->List PV}
theorem wy (hal:lX K G (mn H1 O) ps vs)(h:i<ps.length):At K G (mn H1 O) (ps.getD i .non) (vs.getD i .non):=by
 have el:=hal.length;have hi:i<vs.length:=by lia
 obtain⟨n',en',an⟩:=hal.get (ac hi);rw[gQ,gQ,en',ac hi];exact an
theorem Nz {α β γ:Type}(f:α->β->γ)(a:α)(b:β)(l:List α)(m:List β):(List.range (min l.length m.length)).map (λi=>f (l.getD i a) (m.getD i b))=(l.zip m).map λp=>f p.1 p.2:=by
 refine du λi=>?_;rw[ao,ao];by_cases c:i<min l.length m.length
 ·have c1:i<l.length:=by lia
  have c2:i<m.length:=by lia
  have ez:(l.zip m)[i]?=some (l[i],m[i]):=by rw[ac (by rw[dt];exact c),gZ]
  rw[b8 c,ez];simp only[dM,gQ,ac c1,ac c2,eI]
 ·rw[bw (by rw[aq];lia),bw (by rw[dt];lia)];rfl
theorem aan (h:yL K G (λZ=>(Cs Z/\Cs' Z)/\(gl Z).length<=1000/\∀q r,(q,r)∈(gl Z).zip (hl Z)->Cb (((jH (none::none::cap) Z).set 0 (.fr q)).set 1 (.fr r)))
   (λZ=>((gl Z).zip (hl Z)).map λp=>gp (((jH (none::none::cap) Z).set 0 (.fr p.1)).set 1 (.fr p.2))) σ H Q) :
  Qt (none::none::cap) (Wo K (tCons (tX K G Cs λZ=>.lst (gl Z)) (tCons (tX K G Cs' λZ=>.lst (hl Z)) tNil))) (gTup K 2 (gCons (gName 0) (gCons (gName 1) gNil))) sJ (tX K G Cb gp) σ H Q:=by
 obtain⟨B,Z,O,R,⟨⟨c1,c1'⟩,c2,c3⟩,q⟩:=h;refine⟨B,Z,O,R,c1,λv H1 s1 a1=>⟨B,Z,O,R.grow s1,c1',λu H2 s2 a2=>?_⟩⟩;obtain⟨a,vs,rfl,hq,hal⟩:=a1;obtain⟨b,us,rfl,hq',hal'⟩:=a2;have hal:=lX.mono (kY (O:=O) s2) _ _ hal;have hq1:SqL K H2 a vs:=.inl (jy s2 (jy jQ hq));have hq2:SqL K H2 b us:=.inl (jy jQ hq');have el:=hal.length;have el':=hal'.length;refine⟨a,b,rfl,⟨_,hq1⟩,⟨_,hq2⟩,λD hD=>?_⟩;have hz:(List.range (min (gl Z).length (hl Z).length)).length=min (gl Z).length (hl Z).length:=aq;have at1:∀i,i<(List.range (min (gl Z).length (hl Z).length)).length->i<vs.length/\i<us.length:=λi h=>by rw[hz]at h;lia
 refine qY (List.range (min (gl Z).length (hl Z).length)) (λi _=>((pF (none::none::cap) σ).set 0 (some (vs.getD i .non))).set 1 (some (us.getD i .non))) (λi=>((jH (none::none::cap) Z).set 0 (.fr ((gl Z).getD i .non))).set 1 (.fr ((hl Z).getD i .non))) (λ_=>.non) ((R.grow s1).grow s2) hD (by rw[hz];lia)
  (λi H hi s=>⟨_,_,vs[i]'(at1 i hi).1,us[i]'(at1 i hi).2,s.seq hq1,s.seq hq2,by rw[ac],by rw[ac]⟩) ?_ (λH s=>⟨_,_,s.seq hq1,s.seq hq2,by rw[hz];lia⟩) (λi H hi s R'=>?_) ?_ ?_ ?_
 ·rintro i k x H H' en s ⟨T,y,y',rfl,hT,rfl,hx,hx'⟩;have hx:=hx _ (s.seq hq1);have hx':=hx' _ (s.seq hq2);have hlt:i<min (gl Z).length (hl Z).length:=by have:=(aj.mp en).1;rw[hz]at this;exact this
  rw[b8 hlt]at en;cases en;refine⟨same_new hT _,λkk hk=>⟨T,_,rfl,SqT.of upd_same,rfl,_,_,rfl,_,_,rfl,rfl,?_⟩⟩;rw[gQ,gQ,hx,hx']at hk;exact hk
 ·have hi:=aW.mp hi;exact(R'.set (At.mono (mK (O:=O) s hD) _ _ (wy hal (by lia)))).set (At.mono (mK (O:=O) s hD) _ _ (wy hal' (by lia)))
 ·intro i;exact mU _
 ·intro i hi;have hi:=aW.mp hi;refine c3 _ _ ?_;rw[gQ,gQ,ac (show i<(gl Z).length by lia),ac (show i<(hl Z).length by lia)];refine bY.mpr ⟨i,by rw[dt];exact hi,?_⟩;rw[gZ];rfl
 ·intro H' ys s hd al;refine q D ys H' ((s1.trans s2).trans s) ((s1.trans s2).free hD) hd ?_;rw[Nz (λp r=>gp (((jH (none::none::cap) Z).set 0 (.fr p)).set 1 (.fr r)))]at al;exact al
theorem UW {α γ:Type}(f:Nat->α->γ)(a:α)(l:List α):(List.range l.length).map (λi=>f i (l.getD i a))=l.mapIdx f:=by
 refine du λi=>?_;rw[ao,cG];by_cases c:i<l.length
 ·rw[b8 c];simp only[dM,gQ,ac c,eI]
 ·rw[bw (by rw[aq];lia),bw (by lia)];rfl
theorem Z3 (h:yL K G (λZ=>Cs Z/\(gl Z).length<=1000/\∀(i:Nat) (q:PV),(gl Z)[i]?=some q->Cb (((jH (none::none::cap) Z).set 0 (.fr (.int i))).set 1 (.fr q)))
   (λZ=>(gl Z).mapIdx λi p=>gp (((jH (none::none::cap) Z).set 0 (.fr (.int i))).set 1 (.fr p))) σ H Q) :
  Qt (none::none::cap) (Sd K (tCons (tX K G Cs λZ=>.lst (gl Z)) tNil)) (gTup K 2 (gCons (gName 0) (gCons (gName 1) gNil))) sJ (tX K G Cb gp) σ H Q:=by
 obtain⟨B,Z,O,R,⟨c1,c2,c3⟩,q⟩:=h;refine⟨B,Z,O,R,c1,λv H1 s1 a1=>?_⟩;obtain⟨a,vs,rfl,hq,hal⟩:=a1;have hq1:SqL K H1 a vs:=.inl (jy jQ hq);have el:=hal.length;refine⟨a,rfl,⟨_,hq1⟩,λD hD=>?_⟩;have hz:(List.range (gl Z).length).length=(gl Z).length:=aq;refine qY (List.range (gl Z).length) (λ(i:Nat) _=>((pF (none::none::cap) σ).set 0 (some (.int i))).set 1 (some (vs.getD i .non))) (λ(i:Nat)=>((jH (none::none::cap) Z).set 0 (.fr (.int i))).set 1 (.fr ((gl Z).getD i .non))) (λ_=>.non) (R.grow s1) hD (by rw[hz];lia)
  (λi H hi s=>⟨_,vs[i]'(by rw[hz]at hi;lia),s.seq hq1,by rw[ac]⟩) ?_ (λH s=>⟨_,s.seq hq1,by rw[hz,el];exact ai _⟩) (λi H hi s R'=>?_) ?_ ?_ ?_
 ·rintro i k x H H' en s ⟨T,y,rfl,hT,rfl,hx⟩;have hx:=hx _ (s.seq hq1);have hlt:i<(gl Z).length:=by have:=(aj.mp en).1;rw[hz]at this;exact this
  rw[b8 hlt]at en;cases en;refine⟨same_new hT _,λkk hk=>⟨T,_,rfl,SqT.of upd_same,rfl,_,_,rfl,_,_,rfl,rfl,?_⟩⟩;rw[gQ,hx]at hk;exact hk
 ·have hi:=aW.mp hi;exact(R'.set (p:=.int i) rfl).set (At.mono (mK (O:=O) s hD) _ _ (wy hal hi))
 ·intro i;exact mU _
 ·intro i hi;have hi:=aW.mp hi;refine c3 i _ ?_;rw[gQ,ac hi];rfl
 ·intro H' ys s hd al;refine q D ys H' (s1.trans s) (s1.free hD) hd ?_;rw[UW (λ(i:Nat) p=>gp (((jH (none::none::cap) Z).set 0 (.fr (.int i))).set 1 (.fr p)))]at al;exact al
end
section
variable {X:Cx}{G:Gx}{Er:ER}{N':List Str}{sc:Scope}{cl:List (Str×Addr)}{cap:List (Option Nat)}{el tg src tst l l2:Expr}{at' spos px p pos':Pos}{Cs Cs' Ct Cb:En->Prop}{pt:En->Prop}[∀Z,Decidable (pt Z)]{gp:En->PV}{gl hl:En->List PV}{i:Nat}{x:Str}
theorem Dm (hN:X.N.Nodup)(hi':X.N[i]?=some x)(hx:X.env.scope.names.lookup x=some .local)(L:u6 X N' sc cl (none::cap))(hc:X.calm=true)(hi:PE X src (tX X.K G Cs λZ=>.lst (gl Z)))(hg:∀s H fp,PG (jE X N' sc cl s H fp) tg (gName 0))(he:∀s H fp,PE (jE X N' sc cl s H fp) el (tX X.K G Cb gp))
  (hsw:swapsWith (.ListComp el [⟨tg,src,[],0⟩] sc at') (some (.Name x px)) spos.line X.env=pure true) (hs:∀x,foldedSetIterable src X.env x=pure x:=by intro _;rfl) :
  PS X (.Assign [.Name x px] (.ListComp el [⟨tg,src,[],0⟩] sc at') spos) (ts X.K G Er λP Z=>(Cs Z/\(gl Z).length<=1000/\∀q∈gl Z,Cb ((jH (none::cap) Z).set 0 (.fr q)))/\∀ns,ns=((gl Z).map λq=>gp ((jH (none::cap) Z).set 0 (.fr q)))->P.nx (Z.set i (.fr (.lst ns)))):=
 Us (M6 hN hi' hx L hc (pi_list hi) hg (λ_ _ _=>pM) he hsw hs) λσ H Q h=>aal h
theorem K3 (hN:X.N.Nodup)(hi':X.N[i]?=some x)(hx:X.env.scope.names.lookup x=some .local)(L:u6 X N' sc cl (none::none::cap))(hc:X.calm=true)(hgl:Gl X "zip")(hm:X.mg "zip"=none)(h1:PE X l (tX X.K G Cs λZ=>.lst (gl Z)))(h2:PE X l2 (tX X.K G Cs' λZ=>.lst (hl Z)))(hg:∀s H fp,PG (jE X N' sc cl s H fp) (.Tuple els kk tp) (gTup X.K 2 (gCons (gName 0) (gCons (gName 1) gNil))))(he:∀s H fp,PE (jE X N' sc cl s H fp) el (tX X.K G Cb gp))
  (hsw:swapsWith (.ListComp el [⟨.Tuple els kk tp,.Call (.Name "zip" p) [l,l2] [] pos',[],0⟩] sc at') (some (.Name x px)) spos.line X.env=pure true) (hst:starEach [l,l2] X.env=(false,eval l X.env)::starEach [l2] X.env:=by rfl) (hst2:starEach [l2] X.env=[(false,eval l2 X.env)]:=by rfl) (hpl:(backTo pos' (starEach [l2] X.env)).any (·.1)=false:=by rfl) (hfs:∀x,foldedSetIterable (.Call (.Name "zip" p) [l,l2] [] pos') X.env x=pure x:=by intro _;rfl) :
  PS X (.Assign [.Name x px] (.ListComp el [⟨.Tuple els kk tp,.Call (.Name "zip" p) [l,l2] [] pos',[],0⟩] sc at') spos) (ts X.K G Er λP Z=>((Cs Z/\Cs' Z)/\(gl Z).length<=1000/\∀q r,(q,r)∈(gl Z).zip (hl Z)->Cb (((jH (none::none::cap) Z).set 0 (.fr q)).set 1 (.fr r)))/\∀ns,ns=(((gl Z).zip (hl Z)).map λp=>gp (((jH (none::none::cap) Z).set 0 (.fr p.1)).set 1 (.fr p.2)))->P.nx (Z.set i (.fr (.lst ns)))):=
 Us (M6 hN hi' hx L hc (JR hgl hm (pa_cons h1 (pa_cons h2 pa_nil hst2) hst) hst hpl) hg (λ_ _ _=>pM) he hsw hfs) λσ H Q h=>aan h
theorem Lg (L:u6 X N' sc cl (none::none::cap))(hc:X.calm=true)(hgl:Gl X "enumerate")(hm:X.mg "enumerate"=none)(hi:PE X src (tX X.K G Cs λZ=>.lst (gl Z)))(hg:∀s H fp,PG (jE X N' sc cl s H fp) (.Tuple els kk tp) (gTup X.K 2 (gCons (gName 0) (gCons (gName 1) gNil))))(he:∀s H fp,PE (jE X N' sc cl s H fp) el (tX X.K G Cb gp))
  (hst:starEach [src] X.env=[(false,eval src X.env)]:=by rfl) (hfs:∀x,foldedSetIterable (.Call (.Name "enumerate" p) [src] [] pos') X.env x=pure x:=by intro _;rfl) :
  PE X (.ListComp el [⟨.Tuple els kk tp,.Call (.Name "enumerate" p) [src] [] pos',[],0⟩] sc at') (yL X.K G (λZ=>Cs Z/\(gl Z).length<=1000/\∀(i:Nat) (q:PV),(gl Z)[i]?=some q->Cb (((jH (none::none::cap) Z).set 0 (.fr (.int i))).set 1 (.fr q)))
   λZ=>(gl Z).mapIdx λi p=>gp (((jH (none::none::cap) Z).set 0 (.fr (.int i))).set 1 (.fr p))):=
 λpins s σ H Q I h=>yD L hc (zr hgl hm (pa_cons hi pa_nil hst) hst) hg (λ_ _ _=>pM) he hfs pins s σ H Q I (Z3 h)
end
end L3
namespace L2
section
variable {X:Cx}
def Wf:V->List V->Hp->VK->Prop:=λx vs H Q=>∃(l:Addr) (xs:List V) (k:Nat) (y:V),x=.ref l/\vs=[.int (k:Int),y]/\H l=some (.lst xs)/\k<=xs.length/\xs.length<1000/\Q .non (upd H l (.lst (xs.take k++y::xs.drop k)))
theorem O2:MtM X "list.insert" Wf:=by
 intro pins s σ H x vs v us Q I rx rv h;obtain⟨l,xs,k,y,rfl,rfl,hH,hk,hz,q⟩:=h;cases rx;obtain⟨u,w',rfl,⟨t,rfl⟩,rw'⟩:=vals2 rv;obtain⟨z,its,n,r,hl,e⟩:=I.lstM hH;have hfit:Builtin.List.listFitsIndex (k:Int)=true:=by unfold Builtin.List.listFitsIndex;simp only[fy,decide_eq_true_eq];constructor<;>lia
 have hn:¬(k:Int)<0:=by lia
 have hm:min ((k:Int)).toNat its.toArray.size=k:=by rw[aw];lia
 have hsz:its.toArray.size<=sizeLine:=bK (small1000 (by rw[aw];lia));generalize (k:Int)=x at hfit hn hm rv ⊢;have M:=AutoSeq1.list_insert_list_int_val_1 l its.toArray n x t w' (by simp[hfit]) hsz;refine iC F.slot_list_insert ⟨_,e,rfl⟩ F.entry_list_insert (F.args_list_insert_3 _ _ _) M ⟨e,?_⟩;refine⟨.non,_,I.lset (its':=its.take k++w'::its.drop k) hH e ?_ ((r.take k).append (.cons rw' (r.drop k))) ?_,rfl,q⟩
 ·rw[ae hn,hm];apply Array.toList_inj.mp;simp;exact ce (by rw[aY];lia)
 ·rw[ah,aI,aG,aY];refine bK (small1000 ?_);lia
end
end L2
namespace L3
open L2
section
variable {X:Cx}{G:Gx}{Er:ER}{a b e:Expr}{pos p px py apos pc pa:Pos}{C Ca Cb:En->Prop}{gb:En->Int}{g:En->PV}{i j:Nat}{x y:Str}
theorem Tw (j:Nat)(hk:PE X b (lY X.K G Cb gb))(he:PE X e (tX X.K G C g))(hN:X.N[j]?=some y:=by rfl)(hv:Vis X.env.scope y:=by first|exact Or.inl rfl|exact Or.inr (Or.inl rfl)|exact Or.inr (Or.inr rfl))
  (hd:(y == ("__debug__":Str))=false:=by decide) (hcd:(y == ("__classdict__":Str))=false:=by decide)
  (hbase:attributeBase (.Name y py) "insert" X.env (eval (.Name y py) X.env)=eval (.Name y py) X.env:=by rfl)
  (hfew:((backTo pc (starEach (b::[e]) X.env)).all (λx=>!x.1) && (backToKw pc (keywordEach [] X.env)).all (λx=>x.1.isSome)
   && decide ((b::[e]).length+([]:List Keyword).length+(if ([]:List Keyword).isEmpty then 0 else 1)<30))=true:=by rfl)
  (hline:(pa.endLine == pc.line)=true:=by rfl) (hs:starEach (b::[e]) X.env=(false,eval b X.env)::starEach [e] X.env:=by rfl) (hs2:starEach [e] X.env=[(false,eval e X.env)]:=by rfl) (hplain:(backTo pc (starEach [e] X.env)).any (·.1)=false:=by rfl)
  (hsw:swapsWith (.Call (.Attribute (.Name y py) "insert" pa) [b,e] [] pc) none pos.line X.env=pure false:=by rfl) :
  PS X (.Expr (.Call (.Attribute (.Name y py) "insert" pa) [b,e] [] pc) pos) (ts X.K G Er λP Z=>QF Z j/\Cb Z/\C Z/\(0<=gb Z/\gb Z<=((pN (sX Z j)).length:Int)/\(pN (sX Z j)).length<1000)/\P.nx (Z.set j (.ow (.lst ((pN (sX Z j)).take (gb Z).toNat++g Z::(pN (sX Z j)).drop (gb Z).toNat))))):=
 toS (ps_expr (pe_bm cV PySem.F.slot_list_insert PySem.F.type_list_insert O2 (pe_var hN hv hd hcd) (pa_cons hk (pa_cons he pa_nil hs2) hs) hbase hfew hline hs hplain) hsw) λB σ H Z O P D R c w=>by
  obtain⟨c0,c1,c2,⟨l0,l1,l2⟩,c3⟩:=c;obtain⟨l,vs,e1,e2,e3,e4,e5⟩:=R.ow j _ c0;have el:=e5.length;refine⟨_,e1,.inl ⟨rfl,_,SqL.of e4⟩,B,Z,O,R,c1,λu H1 s1 a1=>⟨B,Z,O,R.grow s1,c2,λv H2 s2 a2=>?_⟩⟩;subst a1;have ek:gb Z=((gb Z).toNat:Int):=by lia
  refine⟨l,vs,(gb Z).toNat,v,rfl,by rw[<- ek],s2 _ _ (s1 _ _ e4),by lia,by lia,w.nx σ _ _ ⟨O,((R.grow s1).grow s2).change c0 e1 (p':=.lst _) ?_⟩ c3⟩;have e52:=lX.mono (kY (O:=O) (s1.trans s2)) _ _ e5;exact vL (Ab e52 _) ⟨v,_,rfl,a2,Be e52 _⟩
theorem WW {t:TE}{st:Stmt}{C:En->Prop}{g:En->List PV}(h:PS X st (tAsg t (gName i)))(k:∀σ H Q,yL X.K G C g σ H Q->t σ H Q):PS X st (ts X.K G Er λP Z=>C Z/\∀ns,ns=g Z->P.nx (Z.set i (.ow (.lst ns)))):=
 toS h λB σ H Z O P D R c w=>k σ H _ ⟨B,Z,O,R,c.1,λa vs H1 s1 n1 e1 al=>w.nx _ H1 _ ⟨hide a O,R.new (p:=.lst (g Z)) s1 n1 e1 al⟩ (c.2 _ rfl)⟩
end
section
variable {K:Fg}{G:Gx}{σ:L2.St}{H:Hp}{Q:VK}{Cs Cs' Cb Ct:En->Prop}{pt:En->Prop}[∀Z,Decidable (pt Z)]{gp:En->PV}{cap:List (Option Nat)}{gl hl:En->List PV}
theorem Ze (h:yL K G (λZ=>(Cs Z/\Cs' Z)/\(gl Z).length<=1000/\∀q r,(q,r)∈(gl Z).zip (hl Z)->Ct (((jH (none::none::cap) Z).set 0 (.fr q)).set 1 (.fr r))/\(pt (((jH (none::none::cap) Z).set 0 (.fr q)).set 1 (.fr r))->Cb (((jH (none::none::cap) Z).set 0 (.fr q)).set 1 (.fr r))))
   (λZ=>(((gl Z).zip (hl Z)).filter λp=>decide (pt (((jH (none::none::cap) Z).set 0 (.fr p.1)).set 1 (.fr p.2)))).map λp=>gp (((jH (none::none::cap) Z).set 0 (.fr p.1)).set 1 (.fr p.2))) σ H Q) :
  Qt (none::none::cap) (Wo K (tCons (tX K G Cs λZ=>.lst (gl Z)) (tCons (tX K G Cs' λZ=>.lst (hl Z)) tNil))) (gTup K 2 (gCons (gName 0) (gCons (gName 1) gNil))) (vy K G Ct pt) (tX K G Cb gp) σ H Q:=by
 obtain⟨B,Z,O,R,⟨⟨c1,c1'⟩,c2,c3⟩,q⟩:=h;refine⟨B,Z,O,R,c1,λv H1 s1 a1=>⟨B,Z,O,R.grow s1,c1',λu H2 s2 a2=>?_⟩⟩;obtain⟨a,vs,rfl,hq,hal⟩:=a1;obtain⟨b,us,rfl,hq',hal'⟩:=a2;have hal:=lX.mono (kY (O:=O) s2) _ _ hal;have hq1:SqL K H2 a vs:=.inl (jy s2 (jy jQ hq));have hq2:SqL K H2 b us:=.inl (jy jQ hq');have el:=hal.length;have el':=hal'.length;refine⟨a,b,rfl,⟨_,hq1⟩,⟨_,hq2⟩,λD hD=>?_⟩;have hz:(List.range (min (gl Z).length (hl Z).length)).length=min (gl Z).length (hl Z).length:=aq;have at1:∀i,i<(List.range (min (gl Z).length (hl Z).length)).length->i<vs.length/\i<us.length:=λi h=>by rw[hz]at h;lia
 have hmem:∀i,i<min (gl Z).length (hl Z).length->((gl Z).getD i .non,(hl Z).getD i .non)∈(gl Z).zip (hl Z):=λi hi=>by rw[gQ,gQ,ac (show i<(gl Z).length by lia),ac (show i<(hl Z).length by lia)];refine bY.mpr ⟨i,by rw[dt];exact hi,?_⟩;rw[gZ];rfl
 refine Hv (List.range (min (gl Z).length (hl Z).length)) (λi _=>((pF (none::none::cap) σ).set 0 (some (vs.getD i .non))).set 1 (some (us.getD i .non))) (λi=>((jH (none::none::cap) Z).set 0 (.fr ((gl Z).getD i .non))).set 1 (.fr ((hl Z).getD i .non))) (λ_=>.non) ((R.grow s1).grow s2) hD (by rw[hz];lia)
  (λi H hi s=>⟨_,_,vs[i]'(at1 i hi).1,us[i]'(at1 i hi).2,s.seq hq1,s.seq hq2,by rw[ac],by rw[ac]⟩) ?_ (λH s=>⟨_,_,s.seq hq1,s.seq hq2,by rw[hz];lia⟩) (λi H hi s R'=>?_) ?_ (λi hi=>(c3 _ _ (hmem i (aW.mp hi))).1) (λi hi=>(c3 _ _ (hmem i (aW.mp hi))).2) ?_
 ·rintro i k x H H' en s ⟨T,y,y',rfl,hT,rfl,hx,hx'⟩;have hx:=hx _ (s.seq hq1);have hx':=hx' _ (s.seq hq2);have hlt:i<min (gl Z).length (hl Z).length:=by have:=(aj.mp en).1;rw[hz]at this;exact this
  rw[b8 hlt]at en;cases en;refine⟨same_new hT _,λkk hk=>⟨T,_,rfl,SqT.of upd_same,rfl,_,_,rfl,_,_,rfl,rfl,?_⟩⟩;rw[gQ,gQ,hx,hx']at hk;exact hk
 ·have hi:=aW.mp hi;exact(R'.set (At.mono (mK (O:=O) s hD) _ _ (wy hal (by lia)))).set (At.mono (mK (O:=O) s hD) _ _ (wy hal' (by lia)))
 ·intro i;exact mU _
 ·intro H' ys s hd al;refine q D ys H' ((s1.trans s2).trans s) ((s1.trans s2).free hD) hd ?_;have ez:(gl Z).zip (hl Z)=(List.range (min (gl Z).length (hl Z).length)).map λi=>((gl Z).getD i .non,(hl Z).getD i .non):=by rw[Nz (λp r=>(p,r)) PV.non PV.non (gl Z) (hl Z)];simp
  have key:∀(l:List (PV×PV)) (r:List Nat) (f:Nat->PV×PV),l=r.map f->(l.filter λp=>decide (pt (((jH (none::none::cap) Z).set 0 (.fr p.1)).set 1 (.fr p.2)))).map (λp=>gp (((jH (none::none::cap) Z).set 0 (.fr p.1)).set 1 (.fr p.2)))=(r.filter λi=>decide (pt (((jH (none::none::cap) Z).set 0 (.fr (f i).1)).set 1 (.fr (f i).2)))).map λi=>gp (((jH (none::none::cap) Z).set 0 (.fr (f i).1)).set 1 (.fr (f i).2)):=λl r f hl=>by rw[hl,iq,bx];rfl
  dsimp only;rw[key _ _ _ ez];exact al
end
section
variable {X:Cx}{G:Gx}{Er:ER}{N':List Str}{sc:Scope}{cl:List (Str×Addr)}{cap:List (Option Nat)}{el tg src tst l l2:Expr}{at' spos px p pos':Pos}{Cs Cs' Ct Cb:En->Prop}{pt:En->Prop}[∀Z,Decidable (pt Z)]{gp:En->PV}{gl hl:En->List PV}{i:Nat}{x:Str}
theorem RX (L:u6 X N' sc cl (none::none::cap))(hc:X.calm=true)(hgl:Gl X "zip")(hm:X.mg "zip"=none)(h1:PE X l (tX X.K G Cs λZ=>.lst (gl Z)))(h2:PE X l2 (tX X.K G Cs' λZ=>.lst (hl Z)))(hg:∀s H fp,PG (jE X N' sc cl s H fp) (.Tuple els kk tp) (gTup X.K 2 (gCons (gName 0) (gCons (gName 1) gNil))))(ht:∀s H fp,PT (jE X N' sc cl s H fp) tst (vy X.K G Ct pt))(he:∀s H fp,PE (jE X N' sc cl s H fp) el (tX X.K G Cb gp))
  (hst:starEach [l,l2] X.env=(false,eval l X.env)::starEach [l2] X.env:=by rfl) (hst2:starEach [l2] X.env=[(false,eval l2 X.env)]:=by rfl) (hpl:(backTo pos' (starEach [l2] X.env)).any (·.1)=false:=by rfl) (hfs:∀x,foldedSetIterable (.Call (.Name "zip" p) [l,l2] [] pos') X.env x=pure x:=by intro _;rfl) :
  PE X (.ListComp el [⟨.Tuple els kk tp,.Call (.Name "zip" p) [l,l2] [] pos',[tst],0⟩] sc at') (yL X.K G (λZ=>(Cs Z/\Cs' Z)/\(gl Z).length<=1000/\∀q r,(q,r)∈(gl Z).zip (hl Z)->Ct (((jH (none::none::cap) Z).set 0 (.fr q)).set 1 (.fr r))/\(pt (((jH (none::none::cap) Z).set 0 (.fr q)).set 1 (.fr r))->Cb (((jH (none::none::cap) Z).set 0 (.fr q)).set 1 (.fr r))))
   λZ=>(((gl Z).zip (hl Z)).filter λp=>decide (pt (((jH (none::none::cap) Z).set 0 (.fr p.1)).set 1 (.fr p.2)))).map λp=>gp (((jH (none::none::cap) Z).set 0 (.fr p.1)).set 1 (.fr p.2))):=
 λpins s σ H Q I h=>yD L hc (JR hgl hm (pa_cons h1 (pa_cons h2 pa_nil hst2) hst) hst hpl) hg (λs H fp=>Nr (ht s H fp)) he hfs pins s σ H Q I (Ze h)
end
def lN:PV->List Int
 | .ints l=>l
 |_=>[]
def Xo (ps:List PV):List (List Int):=ps.map lN
theorem Oz (t:List (List Int)):Xo (t.map PV.ints)=t:=by unfold Xo;rw[bx];exact(bT λ_ _=>rfl).trans (List.map_id t)
def KWR (cW cR:Addr)(H:Hp)(a:Addr)(z:Int):Prop:=KW cW H a z\/KR cR H a z
section
variable {X:Cx}{G:Gx}{Er:ER}{f:FS}{C C2:En->Prop}{pos p pos':Pos}
theorem Qf {k j:Nat}{g:En->List PV}{kk:Nat}(hp:PassesOwn (model X.prog X.w) X.A X.env X.xe)(hc:X.calm=true)(hg:Gl X "enumerate")(hm:X.mg "enumerate"=none)(hl:PE X l (tX X.K G C λZ=>.lst (g Z)))
  (hgt:PG X (.Tuple [.Name x px,.Name y py] kk tp) (gTup X.K 2 (gCons (gName k) (gCons (gName j) gNil)))) (hb:PSs X body (ts X.K G Er f)) (hs:starEach [l] X.env=[(false,eval l X.env)]:=by rfl)
  (hfs:∀x,foldedSetIterable (.Call (.Name "enumerate" p) [l] [] pos') X.env x=pure x:=by intro _;rfl) :
  PS X (.For (.Tuple [.Name x px,.Name y py] kk tp) (.Call (.Name "enumerate" p) [l] [] pos') body [] pos) (ts X.K G Er λP Z=>C Z/\∃W:Nat->En->Prop,W 0 Z /\
   (∀i n Z',(g Z)[i]?=some n->W i Z' -> f { P with nx:=W (i+1),ct:=W (i+1),bk:=P.nx } ((Z'.set k (.fr (.int i))).set j (.fr n)))/\∀Z',W (g Z).length Z' -> P.nx Z'):=
 toS (ps_for hp hc (zr hg hm (pa_cons hl pa_nil hs) hs) hgt hb hfs) λB σ H Z O P D R c w=>by
  obtain⟨c1,W,w0,st,nd⟩:=c;refine⟨B,Z,O,R,c1,λv H1 s1 a1=>?_⟩;obtain⟨a,vs,rfl,hq,hal⟩:=a1;have R1:=R.grow s1;have w1:=rT R1 w;have el:=hal.length;refine⟨a,rfl,⟨_,.inl (jy jQ hq)⟩,I9 (xs:=vs) (λi σ H=>∃Z',wR X.K G (B.at H1 O) σ H Z'/\W i Z') ⟨Z,⟨O,R1.rebase⟩,w0⟩ ?_ ?_ ?_⟩
  ·rintro i σ H _ ⟨Z',⟨O',R'⟩,_⟩;exact .inl (jy ((Rep.uY B H1 O).trans R'.same) hq)
  ·rintro i y σ H T hy ⟨Z',⟨O',R'⟩,hw⟩ hT;obtain⟨n,en,an⟩:=hal.get hy;have R2:=R'.grow (same_new hT (.tup [.int i,y]));refine⟨T,_,rfl,SqT.of upd_same,rfl,_,_,rfl,_,_,rfl,rfl,?_⟩;exact⟨_,_,_,⟨O',(R2.set (p:=.int i) rfl).set (At.mono (R1.seen R2) _ _ an)⟩,st i n Z' en hw,⟨λσ' H' Z' R' h=>⟨Z',R',h⟩,w1.rt,w1.rl,w1.rn,w1.nx,λσ' H' Z' R' h=>⟨Z',R',h⟩,w1.er⟩⟩
  ·rintro σ H ⟨Z',R',hw⟩;rw[<- el]at hw;exact w1.nx σ H Z' R' (nd Z' hw)
end
end L3
namespace L2
theorem xH {α β:Type}{f:α->β}{l m:List β}(h:l.Perm m):∀{L:List α},L.map f=m->∃L':List α,L'.Perm L/\L'.map f=l:=by
 induction h with
 |nil=>intro L e;have:L=[]:=List.map_eq_nil_iff.mp e;subst this;exact⟨[],.nil,rfl⟩
 |cons x _ ih=>intro L e;obtain⟨a,r,rfl,rfl,e2⟩:=fJ.mp e;obtain⟨L',p,q⟩:=ih e2;exact⟨a::L',.cons a p,by rw[aX,q]⟩
 |swap x y l=>intro L e;obtain⟨a,r1,rfl,rfl,e2⟩:=fJ.mp e;obtain⟨b,r,rfl,rfl,rfl⟩:=fJ.mp e2;exact⟨b::a::r,.swap a b r,rfl⟩
 |trans _ _ ih1 ih2=>intro L e;obtain⟨L1,p1,q1⟩:=ih2 e;obtain⟨L2,p2,q2⟩:=ih1 q1;exact⟨L2,p2.trans p1,q2⟩
theorem HY {α:Type}(k:α->Int):∀{a b:List α},a.Perm b->a.Pairwise (λx y=>k x<=k y)->b.Pairwise (λx y=>k x<=k y)->(b.map k).Nodup->a=b
 |[],b,p,_,_,_=>(List.Perm.nil_eq p)
 |x::a,[],p,_,_,_=>absurd p.length_eq (by simp)
 |x::a,y::b,p,sa,sb,nd=>by
  rw[a9]at sa sb;rw[aX,cN]at nd;have e:x=y:=by
   have h1:x∈y::b:=p.mem_iff.mp ag;have h2:y∈x::a:=p.mem_iff.mpr ag;rcases aB.mp h1 with h1|h1
   ·exact h1
   rcases aB.mp h2 with h2|h2
   ·exact h2.symm
   have k1:=sb.1 x h1;have k2:=sa.1 y h2;have ke:k y=k x:=Int.le_antisymm k1 k2;exact absurd (aR.mpr ⟨x,h1,ke.symm⟩) nd.1
  subst e;rw[HY k (List.Perm.cons_inv p) sa.2 sb.2 nd.2]
section
variable {X:Cx}{pins:List (Addr×Obj)}{σ:St}{H:Hp}{s:Shared}
theorem yN:∀{l m:Lv},TriplesOk l->TriplesOk m->TriplesOk (l++m)
 |[],_,_,h=>h
 | .int _ _ :: .int _ _::_::rest,m,h1,h2=>by exact yN (l:=rest) h1 h2
theorem Dk:∀{l:Lv},TriplesOk l->codeAmong pos (l++m)=some cv->codeAmong pos l=some cv\/codeAmong pos m=some cv
 |[],_,h=>.inr h
 | .int line t :: .int col u::c::rest,ht,h=>by
  have h:(if line == pos.line && col == pos.col then some c else codeAmong pos (rest++m))=some cv:=h;show(if line == pos.line && col == pos.col then some c else codeAmong pos rest)=some cv\/_;split at h
  ·rename_i g;rw[af g];exact .inl h
  ·rename_i g;rw[ae g];exact Dk (l:=rest) ht h
theorem Inv.grown {P c':Addr}{t:yX}{oc:Obj}{more:Array Value}{h':Heap}{tk:Nat}(I:Inv X pins σ H s)(e:H P=some (.tbl t))(hx:∀b o,b≠P->s.heap.get? b=some o->h'.get? b=some o)(hge:s.heap.objs.size<=c')
  (hc:h'.get? c'=some oc) (hq:Bq oc t.q) (hP:h'.get? P=some (W.tabObj (t.ps++more))) (ht:TriplesOk more.toList) (hm:∀p cv,codeAmong p more.toList=some cv->cv=.ref c') :
  Inv X pins σ (upd (upd H c' (.frz oc (.ext λ_=>True))) P (.tbl (t++more))) { s with heap:=h',toks:=tk }:=by
 have fr:H c'=none:=I.hok.fresh hge;have hcP:c'≠P:=λz=>by rw[z,e]at fr;cases fr
 have old:∀b u,H b=some u->b≠c':=λb u q z=>by rw[z,fr]at q;cases q
 have nP:∀b,H b=none->b≠P:=λb q z=>by rw[z,e]at q;cases q
 refine I.un ⟨λb o q n _ _=>hx b o (nP b n) q,λb o q n _ _=>⟨o.slots,hx b o (nP b n) q⟩,λb o q n _=>?_,λb o q _=>?_,λb xs q=>?_,λb o u q=>?_,λb ps q=>?_⟩ λb u q=>?_
 ·rw[upd_ne (nP b n),upd_ne (be (aD (az q) hge))];exact n
 ·by_cases z:b=P
  ·subst z;exact⟨_,hP⟩
  ·exact⟨o,hx b o z q⟩
 ·rw[upd_ne (λz=>by rw[z,e]at q;cases q),upd_ne (old b _ q)];exact q
 ·rw[upd_ne (λz=>by rw[z,e]at q;cases q),upd_ne (old b _ q)];exact q
 ·by_cases z:b=P
  ·subst z;rw[e]at q;cases q;exact⟨more,upd_same⟩
  ·exact⟨#[],by rw[upd_ne z,upd_ne (old b _ q),q];simp⟩
 ·have frz2:∀c o u,H c=some (.frz o u)->(upd (upd H c' (.frz oc (.ext λ_=>True))) P (.tbl (t++more))) c=some (.frz o u):=λc o u q=>by rw[upd_ne (λz=>by rw[z,e]at q;cases q),upd_ne (old c _ q)];exact q
  by_cases z:b=P
  ·subst z;rw[upd_same]at q;cases q;obtain⟨e1,e2,e3⟩:=I.hok b _ e;refine⟨hP,?_,λp cv hcm=>?_⟩
   ·show TriplesOk (t.ps++more).toList;rw[iT];exact yN e2 ht
   ·have hcm:codeAmong p (t.ps++more).toList=some cv:=hcm;rw[iT]at hcm;rcases Dk e2 hcm with hcm|hcm
    ·obtain⟨c,o1,u1,y,q1,q2⟩:=e3 p cv hcm;exact⟨c,o1,u1,y,frz2 c o1 u1 q1,q2⟩
    ·exact⟨c',oc,_,hm p cv hcm,by rw[upd_ne hcP,upd_same],hq⟩
  ·rw[upd_ne z]at q;by_cases y:b=c'
   ·subst y;rw[upd_same]at q;cases q;exact⟨hc,tJ,⟨_,hc⟩,λ_ _ h _=>h⟩
   ·rw[upd_ne y]at q;have up:∀c o,H c=some o->c≠P->(upd (upd H c' (.frz oc (.ext λ_=>True))) P (.tbl (t++more))) c=some o:=λc o q n=>by rw[upd_ne n,upd_ne (old c _ q)];exact q
    refine(I.hok b u q).stay (λc v hcb r=>hx c v ?_ r) (λc r=>up c _ r λw=>by rw[w,e]at r;cases r) (λc xs r=>up c _ r λw=>by rw[w,e]at r;cases r) λc o u r=>frz2 c o u r;rcases hcb with rfl|hcb
    ·exact z
    ·exact λw=>by rw[w,e]at hcb;cases hcb
theorem Bq.rec {h:Heap}{c:Addr}{oc:Obj}{q:Str}(e:h.get? c=some oc)(k:Bq oc q):h.CodeRec (.ref c) q:=let ⟨vs,t,a,b⟩:=k;⟨c,oc,vs,t,rfl,e,a,b⟩
theorem Hi (I:Inv X pins σ H s)(hcode:X.env.code=.ref c)(hx:(c,P,q)∈oE X.K)(hq:X.env.qual++"<lambda>"=q)
  (hdef:defaultsOf params X.env=([],[])) (hcl:closureFor scope X.env=pure [])
  (Q:Value->Shared->Prop)
  (h:∀f c' ctv H' s',Inv X pins σ H' s' -> (∀b o,H b=some o->(∀t,o ≠ .tbl t)->H' b=some o)->(∀b t,H b=some (.tbl t)->∃ps,H' b=some (.tbl ⟨t.q,ps⟩))->s'.heap.get? f=some (W.kla_obj "<lambda>" q params body scope [] ((X.mg "__name__").getD .none) c' ctv)->H' f=none ->
   (∃oc u,H' c'=some (.frz oc u)/\Bq oc q)->s'.os=s.os->s.heap.objs.size<=f->Q (.ref f) s') :
  wpAny (model X.prog X.w) X.A (eval (.Lambda params body scope posL) X.env) Q E s:=by
 obtain⟨ps0,e0⟩:=I.ok.frf.t _ hx;obtain⟨m1,e1⟩:=I.base.tbls _ _ e0;have e1:H P=some (.tbl ⟨q,ps0++m1⟩):=e1;generalize ps0++m1=ps at e1;obtain⟨hP,ht,hr⟩:=I.hok P _ e1;have C:W.CodeHd s.heap c P:=iO I.kIn (DW hx);have hg:s.heap.Ns mainGlobals X.mg:=I.mod.glob.keeps I.bk;have nob:∀b o,X.base.get? b=some o->b≠P:=λb o e z=>by have:=(I.bs b o e).2;rw[z,e1]at this;cases this
 have hgP:mainGlobals≠P:=by obtain⟨o,es,ep,e,_⟩:=I.mod.glob;exact nob _ _ e
 obtain⟨bm,ob,b1,b2,b3,b4,b5,b6⟩:=I.mod.bm;have hbG:bm≠mainGlobals:=λz=>by obtain⟨o,es,ep,e,hd,_⟩:=I.mod.glob;rw[z,e]at b3;cases b3;rw[hd]at b6;cases b6
 have hb:s.heap.BuiltinsAt X.mg P:=⟨bm,ob,b1,b2,hbG,nob _ _ b3,I.bk _ _ b3,b4,b5,b6⟩;refine W.kla_eval hdef ?_;rw[hq];cases hf:codeAmong posL ps.toList with
 |none=>
  refine W.kla_makeFunction (mg:=X.mg) hcl I.ok.glob hg hcode C hP ht hf hgP hb λc' ctv h' tk hx' hge hlt hrec htb=>?_;obtain⟨c2,oc,vs,t,ec,hoc,hd,hv⟩:=hrec;cases ec;have I2:=I.grown (c':=c') (oc:=oc) (more:=#[rawInt posL.line,rawInt posL.col,.ref c']) (h':=h') (tk:=tk) e1 (λb o n e=>hx' b o n e) hge hoc ⟨vs,t,hd,hv⟩ htb trivial (λp cv hc=>by
   have hc:(if (posL.line:Int) == p.line && (posL.col:Int) == p.col then some (Value.ref c') else none)=some cv:=hc;split at hc
   ·exact(aF hc).symm
   ·cases hc)
  have I3:=I2.kept (h':=h'.push (W.kla_obj "<lambda>" q params body scope [] ((X.mg "__name__").getD .none) c' ctv)) (t':=tk) λb u e=>ay _ e;have fr:H c'=none:=I.hok.fresh hge;have old:∀b u,H b=some u->b≠c':=λb u q z=>by rw[z,fr]at q;cases q
  have hcP:c'≠P:=λz=>by rw[z,e1]at fr;cases fr
  refine h h'.objs.size c' ctv _ _ I3 (λb o q n=>?_) (λb t q=>?_) (a8 _ rfl) (I2.hok.fresh (ai _)) ⟨oc,_,by rw[upd_ne hcP,upd_same],vs,t,hd,hv⟩ rfl (aC hge (bK (az hoc)))
  ·rw[upd_ne (λz=>by rw[z,e1]at q;cases q;exact n _ rfl),upd_ne (old b _ q)];exact q
  ·by_cases z:b=P
   ·subst z;rw[e1]at q;cases q;exact⟨_,upd_same⟩
   ·exact⟨t.ps,by rw[upd_ne z,upd_ne (old b _ q),q]⟩
 |some cv=>obtain⟨c',oc,u,rfl,g1,g2⟩:=hr posL cv hf;refine W.kla_makeFunctionHit (mg:=X.mg) hcl I.ok.glob hg hcode C hP ht hf hb λctv h' tk hk hsz=>?_;have I3:=I.kept (h':=h'.push (W.kla_obj "<lambda>" q params body scope [] ((X.mg "__name__").getD .none) c' ctv)) (t':=tk) λb u e=>ay _ (hk b u e);exact h h'.objs.size c' ctv _ _ I3 (λb o q _=>q) (λb t q=>⟨t.ps,q⟩) (a8 _ rfl) (I.hok.fresh hsz) ⟨oc,u,g1,g2⟩ rfl hsz
end
theorem yt:bootBuiltins "sorted"=some (.builtin "sorted"):=by decide +kernel
theorem YL {h:Heap}{a:Addr}{m m':Mg}(x:h.Ns a m)(y:h.Ns a m'):m=m':=by obtain⟨o,es,ep,e,d,_,k⟩:=x;obtain⟨o',es',ep',e',d',_,k'⟩:=y;rw[e]at e';cases e';rw[d]at d';injection d' with d1 _;subst d1;funext n;rw[<- k n,<- k' n]
section
variable {prog:Program}{w:World}{A:Around}{s:Shared}{Q:Value->Shared->Prop}{E:Value->Shared->Prop}
theorem Qd {f c' t:Addr}{its:Lv}{wv pm ctv:Value}{y q:Str}{params:Arguments}{scope:Scope}{p1 p2 p3:Pos}{j:Nat}
  (ho:s.heap.get? f=some (W.kla_obj "<lambda>" q params (.Subscript (.Name y p1) (.Constant (.int 1) j p2) p3) scope [] pm c' ctv)) (hcd:s.heap.CodeRec (.ref c') q) (hroom:A.depth<recursionLimit) (hlim:s.heap.NoLimit)
  (hbind:bindArgs (W.kla_fn "<lambda>" q params (.Subscript (.Name y p1) (.Constant (.int 1) j p2) p3) scope [] pm (.ref c') ctv) ⟨[.ref t],[]⟩=pure [(y,.ref t)])
  (hloc:scope.names.lookup y=some .local) (hnc:∀z∈scope.names,z.2 ≠ .cell) (hk:scope.kind=.function) (hco:scope.isCoroutine=false) (hgen:scope.isGenerator=false) (hyd:(y == ("__debug__":Str))=false)
  (tup:IsTup s.heap t its.toArray) (hi:its[1]?=some wv)
  (h:∀h' tk,(∀b o,s.heap.get? b=some o->h'.get? b=some o)->Q wv { s with heap:=h',toks:=tk }) :
  wpAny (model prog w) A (call (.ref f) [.ref t]) Q E s:=by
 refine iB (iD hroom ho rfl hco hgen rfl hcd ?_);rw[hbind];refine bV (fH hnc (λz hz=>?_) (λh₁ hns hsb=>⟨hlim.fresh _ hsb,?_⟩) hk)
 ·rw[bp.mp hz];exact hloc
 have hk₁:∀b o,s.heap.get? b=some o->h₁.get? b=some o:=λb o e=>hsb.extBut b o (be (az e)) (ay _ e);refine iE ?_;have tup1:IsTup h₁ t its.toArray:=by obtain⟨o,e,r⟩:=tup;exact⟨o,hk₁ _ _ e,r⟩
 have len:1<its.length:=(aj.mp hi).1;refine Subscript_ (iA (eu hk hloc hns (v:=.ref t) ?_ ?_) hyd)
 ·simp
 refine f7 ?_;refine dE (x:=wv) tup1.typeIs slot_tuple_getitem.lookup (getItem_tuple (j:=1) (Q:=λr s'=>r=wv/\_) tup1 (by decide) (by decide) ?_ (by simpa using hi) ⟨rfl,?_⟩) rfl
 ·rw[aw];unfold seqIndex?;have:(1:Int)<(its.length:Int):=by lia
  simp[this]
 ·exact h _ _ hk₁
end
end L2
namespace L3
open L2
def pQ:PV->Int
 | .tup [_,.int k]=>k
 |_=>0
open Classical in
def vo (ps:List PV):List PV:=if h:∃l:List PV,l.Perm ps/\l.Pairwise (λa b=>pQ a<=pQ b) then h.choose else[]
theorem Jy (p:l.Perm ps)(o:l.Pairwise λa b=>pQ a<=pQ b)(nd:(ps.map pQ).Nodup):vo ps=l:=by have h:∃l:List PV,l.Perm ps/\l.Pairwise (λa b=>pQ a<=pQ b):=⟨l,p,o⟩;unfold vo;rw[fV h];have s:=h.choose_spec;exact HY pQ (s.1.trans p.symm) s.2 o ((p.map pQ).nodup_iff.mpr nd)
structure Oj (ps:List PV):Prop where
 len:ps.length<64
 two:∀p∈ps,∃x,p=.tup [x,.int (pQ p)]
 nd:(ps.map pQ).Nodup
theorem ZQ {α β γ δ:Type}(f:α->δ):∀(a:List α) (b:List β) (c:List γ),a.length=b.length->b.length=c.length->((a.zip (b.zip c)).map λt=>(f t.1,t.2.2))=(a.map f).zip c/\(a.zip (b.zip c)).map (λt=>t.1)=a
 |[],_,_,_,_=>⟨rfl,rfl⟩
 |x::a,[],_,h,_=>absurd h (by simp)
 |x::a,y::b,[],_,h=>absurd h (by simp)
 |x::a,y::b,z::c,h,k=>by
  obtain⟨e1,e2⟩:=ZQ f a b c (by simpa using h) (by simpa using k);refine⟨?_,?_⟩
  ·rw[dh,dh,aX,e1,aX,dh]
  ·rw[dh,dh,aX,e2]
section
variable {K:Fg}{G:Gx}{H:Hp}
theorem SM:∀{ps:List PV} {xs:List V} {its:Lv},lX K G H ps xs->Vals xs its->∀t∈ps.zip (xs.zip its),At K G H t.1 t.2.1/\RelV t.2.1 t.2.2
 |[],_,_,_,_,t,ht=>by simp at ht
 |p::ps,_,_,h,r,t,ht=>by
  obtain⟨v,vs,rfl,q,al⟩:=h;cases r with
  |cons r0 r1=>
   rcases aB.mp ht with rfl|ht
   ·exact⟨q,r0⟩
   ·exact SM al r1 t ht
theorem Nf:∀{T:List (PV×V×Value)},(∀t∈T,At K G H t.1 t.2.1)->lX K G H (T.map λt=>t.1) (T.map λt=>t.2.1)
 |[],_=>rfl
 |t::T,h=>⟨_,_,rfl,h t ag,Nf λx hx=>h x (ad _ hx)⟩
theorem Jv:∀{T:List (PV×V×Value)},(∀t∈T,RelV t.2.1 t.2.2)->Vals (T.map λt=>t.2.1) (T.map λt=>t.2.2)
 |[],_=>.nil
 |t::T,h=>.cons (h t ag) (Jv λx hx=>h x (ad _ hx))
end
def PJ (K:Fg)(cd:Value)(q:Str):Prop:=∃c P,cd=.ref c/\(c,P,q)∈oE K
section
variable {X:Cx}{G:Gx}{a:Expr}{pos p kp posL p1 p2 p3:Pos}{Ca:En->Prop}{ga:En->PV}{k j:Nat}{y:Str}{params:Arguments}{scope:Scope}
theorem Ry (hl:PJ X.K X.env.code (X.env.qual++"<lambda>"))(hr:Room k X.A)(hm:X.mg "sorted"=none)(ha:PE X a (tX X.K G Ca ga))(hg:Gl X "sorted":=by rfl)(he:starEach [a] X.env=[(false,eval a X.env)]:=by rfl)
  (hdef:defaultsOf params X.env=([],[]):=by rfl) (hcl:closureFor scope X.env=pure []:=by rfl)
  (hbind:∀(pm ctv:Value) (c' t:Addr),bindArgs (W.kla_fn "<lambda>" (X.env.qual++"<lambda>") params (.Subscript (.Name y p1) (.Constant (.int 1) j p2) p3) scope [] pm (.ref c') ctv) ⟨[.ref t],[]⟩=pure [(y,.ref t)]:=by intros;rfl)
  (hloc:scope.names.lookup y=some .local:=by rfl) (hnc:∀z∈scope.names,z.2 ≠ .cell:=by decide) (hk:scope.kind=.function:=by rfl) (hco:scope.isCoroutine=false:=by rfl) (hgen:scope.isGenerator=false:=by rfl) (hyd:(y == ("__debug__":Str))=false:=by decide) :
  PE X (.Call (.Name "sorted" p) [a] [⟨some "key",.Lambda params (.Subscript (.Name y p1) (.Constant (.int 1) j p2) p3) scope posL,kp⟩] pos) (yL X.K G (λZ=>Ca Z/\ga Z=.lst (pN (ga Z))/\Oj (pN (ga Z))) λZ=>vo (pN (ga Z))):=by
 intro pins s σ H Q I ⟨B,Z,O,R,c,q⟩;refine cu (ld_blt I hg hm yt ?_ (by decide) (by decide));refine eU (thn (pa_cons ha pa_nil he pos pins s σ H (λvs H'=>∃l xs,vs=[.ref l]/\Same H H'/\Rd (mn H' O) l (.lst xs)/\lX X.K G (mn H' O) (pN (ga Z)) xs) I ⟨B,Z,O,R,c.1,λv H1 s1 a1=>?_⟩) λus t1 h=>?_) (by rw[he];rfl) (by rw[he];rfl)
 ·rw[c.2.1]at a1;obtain⟨l,xs,rfl,r1,al⟩:=a1;exact⟨l,xs,rfl,s1,r1,al⟩
 obtain⟨vs,H1,I1,rv,l,xs,rfl,s1,rd,al⟩:=h;obtain⟨u,rfl,ru⟩:=vals1 rv;cases ru;obtain⟨cc,P,hcode,hx⟩:=hl;obtain⟨_,_,PO⟩:=c;have q:∀(a:Addr) (vs:List V) (H':Hp),Same H H' -> H a=none->H' a=some (HO.lst vs)->lX X.K G (mn H' (hide a O)) (vo (pN (ga Z))) vs->Q (V.ref a) H':=q;generalize pN (ga Z)=ps at *
 refine kws_cons (Hi I1 hcode hx rfl hdef hcl _ λf c' ctv H2 t2 I2 kp2 tb2 hf fn fz os _=>kws_nil ?_);have s2:Same H1 H2:=λb o e=>by cases o<;>first|exact kp2 b _ e (λt z=>by cases z)|(obtain⟨ps',z⟩:=tb2 b _ e;exact⟨ps',z⟩)
 obtain⟨_,its,n,r,hlen,e⟩:=L3.Inv.Kr I2 (jy (jQ.trans s2) rd);have al2:=lX.mono (kY s2) _ _ al;have lps:ps.length=xs.length:=al2.length;obtain⟨m,F⟩:=I2.fr;have N:=news_all (g:=X.base) (h:=t2.heap) (L:=X.env.locals);have hfL:f≠X.env.locals:=λz=>by obtain⟨m',⟨o,es,ep,ho,hd,_⟩,_⟩:=I2.loc;rw[<- z,hf]at ho;cases ho;cases hd
 have kept:∀{h:Heap} {own:List (Addr×Obj)},Fr X.base X.env.locals h m->News X.base X.env.locals h (allNews X.base t2.heap X.env.locals++own)->∀b o,b≠X.env.locals->t2.heap.get? b=some o->h.get? b=some o:=λ{h own} F' N' b o hb eb=>by
  cases z:X.base.get? b with
  |some u=>have:=I2.bk b u z;rw[eb]at this;cases this;exact F'.keep b _ z
  |none=>exact(N' (b,o) (cE _ (mem_allNews hb z eb))).1
 have tr:∀b u,H2 b=some u->b≠X.env.locals:=λb u z w=>by rw[w,I2.free]at z;cases z
 obtain⟨oc,fu,fz1,fz2⟩:=fz;have hoc:=(I2.hok c' _ fz1).1;refine PyProof.Rows.ksk_sorted (b:=false) (kz:=ps.map pQ) (f:=.ref f) F N (vs:=its) ⟨_,e,rfl,n,rfl⟩ (by rw[aa,lps,hlen]) (by rw[<- hlen,<- lps];exact PO.len) (PyProof.Rows.ksk_s1 _ _) (λx=>PyProof.Rows.ksk_l1 _ _) (λx=>PyProof.Rows.ksk_t1 _ _) (λi v kk hv hkk h tk own F' N'=>?_) (λD h' tk out cz F' N' lt ko=>?_)
 ·rw[ao]at hkk;cases hp:ps[i]? with
  |none=>rw[hp]at hkk;cases hkk
  |some pp=>
   rw[hp]at hkk;cases hkk;obtain⟨xv,hxv,at1⟩:=al2.at hp;obtain⟨v',hv',rl⟩:=r.get hxv;rw[hv]at hv';cases hv';obtain⟨x,ex⟩:=PO.two pp (aV hp);rw[ex]at at1;obtain⟨t,us,rfl,ht,ux,ur,rfl,_,ui,un,rfl,hui,hun⟩:=at1;cases rl;subst hun hui;have ht2:H2 t=some (.tup [ux,.int (pQ pp)]):=(tH ht).2;obtain⟨_,its2,r2,tup⟩:=I2.hok t _ ht2;cases r2 with
   |cons q0 q1=>
    cases q1 with
    |cons q2 q3=>cases q3;obtain⟨tok,rfl⟩:=q2;obtain⟨o,eo,ro⟩:=tup;have tup':IsTup h t _:=⟨o,kept F' N' _ _ (tr t _ ht2) eo,ro⟩;refine Qd (s:={ t2 with heap:=h,toks:=tk }) (kept F' N' _ _ hfL hf) (Bq.rec (kept F' N' _ _ (tr c' _ fz1) hoc) fz2) hr.depth (I2.ok.mod.nolimit.keeps F'.keep) (hbind _ _ _ _) hloc hnc hk hco hgen hyd tup' rfl λh'' tk' kk=>?_;exact⟨h'',tk',tok,rfl,rfl,F'.kept kk,λp hp=>⟨kk _ _ (N' p hp).1,(N' p hp).2⟩⟩
 ·have keptD:∀b o,b≠X.env.locals->t2.heap.get? b=some o->h'.get? b=some o:=λb o hb eb=>by
   cases z:X.base.get? b with
   |some u=>have:=I2.bk b u z;rw[eb]at this;cases this;exact F'.keep b _ z
   |none=>exact(N' (b,o) (ad _ (mem_allNews hb z eb))).1
  obtain⟨hD,DL,Db⟩:=N' (D,_) ag;have Dn:t2.heap.get? D=none:=by
   cases z:t2.heap.get? D with
   |none=>rfl
   |some o=>exact absurd (lt (D,o) (mem_allNews DL Db z)) (cT _)
  have HD:H2 D=none:=by
   cases z:H2 D with
   |none=>rfl
   |some u=>obtain⟨o,eo⟩:=ObjOk.get (I2.hok D u z);rw[Dn]at eo;cases eo
  obtain⟨pz,hperm,hout,hord⟩:=ko;obtain⟨z1,z2⟩:=ZQ pQ ps xs its lps hlen;rw[<- z1]at hperm;obtain⟨T,tp,te⟩:=xH hperm rfl;have mem:=SM al2 r;have eps:T.map (λt=>t.1)=vo ps:=by
   refine(Jy ?_ ?_ PO.nd).symm
   ·have:=tp.map λt=>t.1;rw[z2]at this;exact this
   ·rw[<- te]at hord;rw[cJ]at hord ⊢;exact hord
  have eout:out.toList=T.map λt=>t.2.2:=by rw[hout,<- te,bx];rfl
  have rv:Vals (T.map λt=>t.2.1) out.toList:=by rw[eout];exact Jv λt ht=>(mem t (tp.mem_iff.mp ht)).2
  have alT:lX X.K G (mn H2 O) (vo ps) (T.map λt=>t.2.1):=by rw[<- eps];exact Nf λt ht=>(mem t (tp.mem_iff.mp ht)).1
  have lT:(T.map λt=>t.2.1).length<=sizeLine:=by rw[aa,tp.length_eq,dt,dt];have h1:=PO.len;exact bK (small1000 (by lia))
  have hobj:h'.get? D=some { cls:=.type "list",data:=.seq out.toList.toArray cz }:=by
   rw[hD]
   all_goals simp[seqObj]
  have I3:Inv X pins σ (upd H2 D (.lst (T.map λt=>t.2.1))) { t2 with heap:=h',gens:=t2.gens,drawn:=t2.drawn,toks:=tk }:=by
   refine I2.step (ch:=[]) (λb hb=>absurd hb (by simp)) (λb o hb _ _ eo _=>keptD b o hb eo) (λb o hb _ _ eo _=>⟨o.slots,keptD b o hb eo⟩) (λb o _ eo no=>?_) (λb o _ eo=>?_) (λb xs z=>?_) (λb o u z=>?_) (λb ps z=>⟨#[],?_⟩) (λm0 hm0=>?_) (λb u z=>?_) I2.bare
   ·rw[upd_ne (λw=>by rw[w,Dn]at eo;cases eo)];exact no
   ·by_cases w:b=X.env.locals
    ·obtain⟨o',es,ep,ho,_⟩:=F'.ns;rw[w];exact⟨o',ho⟩
    ·exact⟨o,keptD b o w eo⟩
   ·rw[upd_ne (ne_of_none z HD)];exact z
   ·rw[upd_ne (ne_of_none z HD)];exact z
   ·rw[upd_ne (ne_of_none z HD),z];simp
   ·have:=YL hm0 F.ns;subst this;exact F'.ns
   ·by_cases w:b=D
    ·subst w;rw[upd_same]at z;cases z;exact⟨lT,out.toList,cz,rv,hobj⟩
    ·rw[upd_ne w]at z;refine(I2.hok b u z).stay (λc v hcb rr=>keptD c v ?_ rr) (λc rr=>by rw[upd_ne (ne_of_none rr HD)];exact rr) (λc _ rr=>by rw[upd_ne (ne_of_none rr HD)];exact rr) λc _ _ rr=>by rw[upd_ne (ne_of_none rr HD)];exact rr
     rcases hcb with rfl|hcb
     ·exact tr c _ z
     ·exact tr c _ hcb
  have sD:Same H2 (upd H2 D (.lst (T.map λt=>t.2.1))):=same_new HD _;exact⟨.ref D,_,I3,rfl,q D _ _ ((s1.trans s2).trans sD) ((s1.trans s2).free HD) upd_same (lX.mono (mK sD HD) _ _ alT)⟩
end
def Fj (K:Fg)(mg:Mg)(x:Str):Prop:=∃f oc od fd sl,mg x=some (.ref f)/\K.lookup f=some ⟨oc,od,.func fd,sl⟩/\PJ K fd.code (x++".<locals>."++"<lambda>")
def K8 (K:Fg)(cd:Value)(q:Str):Bool:=match cd with
 | .ref c=>(oE K).any λx=>x.1 == c && x.2.2 == q
 |_=>false
theorem Ph {K:Fg}{cd:Value}{q:Str}(h:K8 K cd q=true):PJ K cd q:=by
 unfold K8 at h;split at h
 ·rename_i c;obtain⟨x,hx,e⟩:=List.any_eq_true.mp h;rw[fy,i5,i5]at e;obtain⟨a,b,d⟩:=x;obtain⟨e1,e2⟩:=e;subst e1 e2;exact⟨a,b,rfl,hx⟩
 ·cases h
def Yz (K:Fg)(ts:List Addr):Bool:=(oE K).all λx=>(ts.contains x.2.1 && (K.lookup x.2.1).isNone) && (oE K).all λy=>x.2.1 != y.2.1 || x.2.2 == y.2.2
theorem Q9 {K:Fg}{h:Heap}{ts:List Addr}(e:Yz K ts=true)(t:∀P∈ts,h.get? P=some (W.tabObj #[])):Jw K h:=by
 have a:=λx hx=>d8.mp (dD.mp e x hx);refine⟨λx hx=>t _ ?_,λx hx=>?_,λx hx y hy z=>?_⟩
 ·exact List.contains_iff_mem.mp (d8.mp (a x hx).1).1
 ·exact Option.isNone_iff_eq_none.mp (d8.mp (a x hx).1).2
 ·have:=dD.mp (a x hx).2 y hy;rw[Bool.or_eq_true,bne_iff_ne,i5]at this;exact this.resolve_left λn=>n z
section
variable {P:Program}{w:World}{K:Fg}{mg:Mg}{base:Heap}{G:Gx}
theorem aaN {x:Str}{st:Stmt}{N ps:Ls}{k:Nat}{pre:List PV->Prop}{F:List PV->PV}(d:nQ K mg x st ps)(S:FnScope N ps (defScope st))(LD:Fj K mg x)(len:∀as,pre as->as.length=ps.length)
  (hbody:∀(f:Addr) (cdv:Value) (A:Around) (outer:List Env) (s:Shared) (H:Hp) (E:XK),Room k (A.deeper (envOfC x (defScope st) s.heap.objs.size f cdv))->PJ K cdv (x++".<locals>."++"<lambda>") ->
   ∃fs,PSs (cxOf CX0 P w K mg base N x (defScope st) f cdv A outer s H E).nox (defBody st) (ts K G ER0 fs)/\∀as,pre as->fs { nx:=λ_=>F as=.non,rt:=λp=>p=F as,rl:=λns=>F as=.ints ns } (nJ N as)):Ok P w K mg base (k+1) x ps (yu K G pre F):=by
 obtain⟨f,fd,FF,b,m⟩:=d.ex;refine⟨f,fd,?_,b,FF.kp,m⟩;obtain⟨oc,od,kV,doc,pm,an,cdv,ct,osl,rfl,lk,hcd⟩:=FF.ex;have hl:PJ K cdv (x++".<locals>."++"<lambda>"):=by obtain⟨f',oc',od',fd',sl',m',lk',hl⟩:=LD;rw[m]at m';cases m';rw[lk]at lk';cases lk';exact hl
 refine fn_of lk hcd S (λvs H Q E h=>?_) λA outer s H vs Q E hr h=>?_
 ·obtain⟨as,O,_,al,hp,_⟩:=h;rw[<- al.length];exact len as hp
 obtain⟨as,O,hd,al,hp,q⟩:=h;obtain⟨fs,b,c⟩:=hbody f cdv A outer s H E hr hl;refine⟨_,b.nox,⟨H,O⟩,nJ N as,_,⟨O,rR hd al⟩,c as hp,⟨λσ' H' Z' R' h=>?_,λv H' p s' a' h=>?_,λa H' ns s' n e h=>?_,λ_ _ _ _ _ h=>h.elim,λ_ _ _ _ h=>h,λ_ _ _ _ h=>h,λ_ _ _ h=>h⟩⟩
 ·obtain⟨O',R'⟩:=R';exact q .non H' R'.same (by rw[show F as=.non from h];rfl)
 ·subst h;exact q v H' s' a'
 ·refine q _ H' s' ?_;rw[h];exact⟨a,rfl,.inl (by
   rw[qX]
   ·exact e
   ·cases z:O a with
    |false=>rfl
    |true=>exact absurd n (hd a z))⟩
end
end L3
namespace L2
open PySem.AutoSeq1 (wpAny_loadPart')
open PySem.MeetsSeq PySem.MeetsSeq2 PySem.MeetsSeq3 PySem.SeqAt
def nq:List Int->List Int->Bool
 |a::r,b::t=>if a=b then nq r t else decide (a<b)
 |_,_=>false
theorem Fy:∀{vs:Lv} {ns:Li},IntsAre vs ns->∀i,i<vs.length->∃t,vs[i]?=some (.int (ns.getD i 0) t)
 |_,_,.nil,i,h=>absurd h (by simp)
 |_,_,.cons n t r,0,h=>⟨t,rfl⟩
 |_,_,.cons n t r,i+1,h=>by obtain⟨u,e⟩:=Fy r i (by simpa using h);exact⟨u,e⟩
theorem Hk {ns ms:Li}{i:Nat}(h1:i<ns.length)(h2:i<ms.length):nq (ns.drop i) (ms.drop i)=if ns.getD i 0=ms.getD i 0 then nq (ns.drop (i+1)) (ms.drop (i+1)) else decide (ns.getD i 0<ms.getD i 0):=by rw[eH h1,eH h2];simp[nq,gQ,h1,h2]
theorem O8 {xs ys:Lv}{ns ms:Li}(l b:Addr)(n n2:Nat)(dd dd2:Option Addr)(sl sl2:Array (Option Value))(hi:IntsAre xs ns)(hj:IntsAre ys ms)(hsz:xs.length=ys.length)(k:Nat) :
  ∀i:Nat,xs.length-i=k->Meets (Builtin.«list.__eq__.loop» ⟨[.ref l,.ref b,rawInt i,rawInt 0],[]⟩)
   (λA R s=>s.heap.get? l=some { cls:=.type "list",dict:=dd,data:=.seq xs.toArray n,slots:=sl }/\s.heap.get? b=some { cls:=.type "list",dict:=dd2,data:=.seq ys.toArray n2,slots:=sl2 } /\
    R (.ok (.ret (.bool (nq (ns.drop i) (ms.drop i))))) s):=by
 have ln:=hi.length;have lm:=hj.length
 induction k with
 |zero=>
  intro i hk prog w A R s h;obtain⟨hp,g,d,tk,os⟩:=s;obtain⟨hl,hb,h⟩:=h
  wp_walk using wpAny_loadPart' hl,wpAny_loadPart' hb
  have hi1:xs.toArray[((i:Nat):Int).toNat]?=none:=by simp;lia
  have hi2:ys.toArray[((i:Nat):Int).toNat]?=none:=by simp;lia
  have hd:nq (ns.drop i) (ms.drop i)=false:=by rw[hU (by lia)];rfl
  rw[hd]at h;rw[hi1,hi2]
  wp_walk using wpAny_loadPart' hl,wpAny_loadPart' hb
  show R (.ok (.ret (.bool (decide (xs.toArray.size<ys.toArray.size))))) _;have:¬xs.toArray.size<ys.toArray.size:=by simp;lia
  rw[aJ this];exact h
 |succ k ih=>
  intro i hk prog w A R s h;obtain⟨hp,g,d,tk,os⟩:=s;obtain⟨hl,hb,h⟩:=h
  wp_walk using wpAny_loadPart' hl,wpAny_loadPart' hb
  obtain⟨t,e1⟩:=Fy hi i (by lia);obtain⟨u,e2⟩:=Fy hj i (by lia);have hi1:xs.toArray[((i:Nat):Int).toNat]?=some (.int (ns.getD i 0) t):=by simpa using e1
  have hi2:ys.toArray[((i:Nat):Int).toNat]?=some (.int (ms.getD i 0) u):=by simpa using e2
  have hc:((i:Int)+1)=((i+1:Nat):Int):=by push_cast;rfl
  rw[Hk (by lia) (by lia)]at h;rw[hi1,hi2];refine aH (gY ?_);by_cases hz:ns.getD i 0=ms.getD i 0
  ·rw[af hz]at h;have hz':(ns.getD i 0 == ms.getD i 0)=true:=by simpa using hz
   rw[hz']
   wp_walk
   rw[hc];exact⟨plainId_quiet plain_eq_loop _,codeAny_builtin entry_eq_loop (by
    rw[Around.under_plainId plain_eq_loop _];exact ih (i+1) (by lia) prog w A R _ ⟨hl,hb,h⟩)⟩
  ·rw[ae hz]at h;have hz':(ns.getD i 0 == ms.getD i 0)=false:=by simpa using hz
   rw[hz']
   wp_walk using wpAny_loadPart' hl,wpAny_loadPart' hb
   rw[hi1,hi2];refine aH (wpAny_lt_int ?_)
   wp_walk
   exact h
theorem Qm (l b:Addr)(n n2:Nat)(dd dd2:Option Addr)(sl sl2:Array (Option Value))(hi:IntsAre xs ns)(hj:IntsAre ys ms)(hsz:xs.length=ys.length) :
  Meets (Builtin.«list.__lt__» ⟨[.ref l,.ref b],[]⟩)
   (λA R s=>s.heap.get? l=some { cls:=.type "list",dict:=dd,data:=.seq xs.toArray n,slots:=sl }/\s.heap.get? b=some { cls:=.type "list",dict:=dd2,data:=.seq ys.toArray n2,slots:=sl2 } /\
    R (.ok (.ret (.bool (nq ns ms)))) s):=by
 intro prog w A R s h;obtain⟨hp,g,d,tk,os⟩:=s;obtain⟨hl,hb,h⟩:=h;have f3:=PySem.AutoSeq1.sub_list_list
 wp_walk using wpAny_loadPart' hl,wpAny_loadPart' hb
 exact⟨plainId_quiet plain_eq_loop _,codeAny_builtin entry_eq_loop (by
  rw[Around.under_plainId plain_eq_loop _];exact O8 l b n n2 dd dd2 sl sl2 hi hj hsz _ 0 rfl prog w A R _ ⟨hl,hb,by simpa using h⟩)⟩
section
variable {prog:Program}{w:World}{A:Around}{E:Value->Shared->Prop}{s:Shared}{a b:Addr}{xs ys:List Value}{ns ms:List Int}{Q:Value->Shared->Prop}
theorem W4 (hl:s.heap.IsList a xs.toArray)(hb:s.heap.IsList b ys.toArray)(hi:IntsAre xs ns)(hj:IntsAre ys ms)(hsz:xs.length=ys.length)(hu:A.units<cLine)(h:Q (.bool (nq ns ms)) s) :
  wpAny (model prog w) A (compareOp .Lt (.ref a) (.ref b)) Q E s:=by
 obtain⟨⟨cls,dd,data,sl⟩,ho,hc,n,hd⟩:=id hl;obtain⟨⟨cls2,dd2,data2,sl2⟩,ho2,hc2,n2,hd2⟩:=id hb;simp only at hc hd hc2 hd2;subst hc hd hc2 hd2;exact richCompare_meets_room (op:=.Lt) ⟨_,ho,rfl⟩ ⟨_,ho2,rfl⟩ F.slot_list_lt F.entry_list_lt (F.args_list_lt_2 _ _) (Qm a b n n2 dd dd2 sl sl2 hi hj hsz)
  ⟨ho,ho2,show Value.bool (nq ns ms)≠Value.notImplemented/\Q (.bool (nq ns ms)) s from⟨(λx=>nomatch x),h⟩⟩ hu
end
def kI (a b:List Int):Bool:=if (a.length:Int)=(b.length:Int) then(if a=b then false else nq a b) else decide ((a.length:Int)<(b.length:Int))
section
variable {prog:Program}{w:World}{A:Around}{E:Value->Shared->Prop}{s:Shared}{Q:Bool->Shared->Prop}
theorem Y9 (hx:IsTup s.heap x #[.int (ns.length:Int) tx,.ref gx])(hy:IsTup s.heap y #[.int (ms.length:Int) ty,.ref gy])(lx:s.heap.IsList gx xs.toArray)(ly:s.heap.IsList gy ys.toArray)
  (ix:IntsAre xs ns) (iy:IntsAre ys ms) (hu:A.units+64<cLine) (h:Q (kI ns ms) s):wpAny (model prog w) A (keyLt' (tuples' true) (.ref x) (.ref y)) Q E s:=by
 obtain⟨ox,ex,cx,nx,dx⟩:=hx;obtain⟨oy,ey,cy,ny,dy⟩:=hy;refine W.kat_lt ex dx ey dy (W.kat_cons (gY ?_));by_cases c:(ns.length:Int)=(ms.length:Int)
 ·have e:((ns.length:Int) == (ms.length:Int))=true:=by simpa using c
  rw[e];have hl:xs.length=ys.length:=by have:=ix.length;have:=iy.length;lia
  refine W.kat_yes (W.kat_cons (SeqAt.eqAt_reads _ _ _ _ _ _ _ _ (reads_newData lx (W.ke_carried ix)) (reads_newData ly (W.ke_carried iy)) (by simp[PyData.canLay0,iu]) (by simp[PyData.canLay0,iu]) (by
   simp only[PyData.depth,W.ke_depthAll];lia) _ _ _ _ ?_))
  have e2:PyData.eqv (.list (ns.map PyData.int)) (.list (ms.map PyData.int))=decide (ns=ms):=W.ked_eqvAll ns ms;rw[e2];unfold kI at h;rw[af c]at h;by_cases d:ns=ms
  ·rw[aL d];rw[af d]at h;exact W.kat_yes (W.kat_nil h)
  ·rw[aJ d];rw[ae d]at h;exact W.kat_no (W.kat_one _ _ (W4 lx ly ix iy hl (by lia) h))
 ·have e:((ns.length:Int) == (ms.length:Int))=false:=by simpa using c
  rw[e];unfold kI at h;rw[ae c]at h;exact W.kat_no (oneLt_int h)
end
end L2
end
namespace L2
open PySem PySem.Spec PyProof.Rows PySem.W
def vd (n:Nat)(lt:Nat->Nat->Bool){α:Type}(Post:α->Prop):KasT α->Prop
 | .ret a=>Post a
 | .ask i j k=>i<n/\j<n/\vd n lt Post (k (lt i j))
section
variable {n:Nat}{lt:Nat->Nat->Bool}{α β:Type}
theorem vd.mono (h:∀a,P a->Q a):∀(t:KasT α),vd n lt P t->vd n lt Q t
 | .ret a,k=>h a k
 | .ask _ _ k,⟨a,b,c⟩=>⟨a,b,vd.mono h (k _) c⟩
theorem vd.bind {f:α->KasT β}{Q:β->Prop}:∀(t:KasT α),vd n lt (λa=>vd n lt Q (f a)) t->vd n lt Q (t.bind f)
 | .ret _,k=>k
 | .ask _ _ k,⟨a,b,c⟩=>⟨a,b,vd.bind (k _) c⟩
theorem vd.wp (hc:∀i j C,i<n->j<n->C (lt i j) s->cmp i j C s)(hq:∀a,P a->Q a s):∀(t:KasT α),vd n lt P t->t.kasWp cmp Q s
 | .ret a,k=>hq a k
 | .ask _ _ k,⟨a,b,c⟩=>hc _ _ _ a b (vd.wp hc hq (k _) c)
structure Wz (n:Nat)(lt:Nat->Nat->Bool):Prop where
 asy:∀i j,i<n->j<n->lt i j=true->lt j i=false
 tot:∀i j,i<n->j<n->i≠j->lt i j=false->lt j i=true
 tr:∀i j k,i<n->j<n->k<n->lt i j=true->lt j k=true->lt i k=true
def PR (n:Nat)(p:Array Nat):Prop:=p.toList.Perm (List.range n)
theorem PR.size (h:PR n p):p.size=n:=by have:=List.Perm.length_eq h;rw[aq,c6]at this;exact this
theorem Br {p:Array Nat}{i:Nat}(h:i<p.size):p.getD i 0=p[i]:=by simp[Array.getD,h]
theorem PR.bd {p:Array Nat}(h:PR n p){i:Nat}(hi:i<n):p.getD i 0<n:=by
 rw[Br (by rw[h.size];exact hi)];have:p[i]'(by rw[h.size];exact hi)∈p.toList:=by simp
 exact aW.mp (List.Perm.mem_iff h |>.mp this)
theorem PR.ne {p:Array Nat}(h:PR n p){i j:Nat}(hi:i<n)(hj:j<n)(hn:i≠j):p.getD i 0≠p.getD j 0:=by
 have s:=h.size;rw[Br (by lia),Br (by lia)];have nd:p.toList.Nodup:=(List.Perm.nodup_iff h).mpr g7;intro e;have l1:i<p.toList.length:=by rw[c6];lia
 have l2:j<p.toList.length:=by rw[c6];lia
 have:=(List.nodup_iff_pairwise_ne.mp nd |> dk.mp);rcases gv hn with q|q
 ·exact this i j l1 l2 q (by simpa using e)
 ·exact this j i l2 l1 q (by simpa using e.symm)
def Qg (lt:Nat->Nat->Bool)(p:Array Nat)(m:Nat):Prop:=∀i j,i<j->j<m->lt (p.getD i 0) (p.getD j 0)=true
theorem Qg.step (O:Wz n lt)(R:PR n p)(S:Qg lt p m)(hm:m<n)(h0:0<m)(h:lt (p.getD m 0) (p.getD (m-1) 0)=false):Qg lt p (m+1):=by
 have last:lt (p.getD (m-1) 0) (p.getD m 0)=true:=O.tot _ _ (R.bd hm) (R.bd (by lia)) (R.ne hm (by lia) (by lia)) h;intro i j hij hj;by_cases c:j<m
 ·exact S i j hij c
 ·have:j=m:=by lia
  subst this;by_cases d:i=j-1
  ·rw[d];exact last
  ·exact O.tr _ _ _ (R.bd (by lia)) (R.bd (by lia)) (R.bd hm) (S i (j-1) (by lia) (by lia)) last
theorem Kh (O:Wz n lt)(R:PR n p):∀(f m:Nat),0<m->m+f=n->Qg lt p m->vd n lt (λk=>m<=k/\k<=n/\Qg lt p k/\(k<n->lt (p.getD k 0) (p.getD (k-1) 0)=true)) (kas_asc p f m)
 |0,m,h0,hm,S=>⟨ai _,by lia,S,λh=>by lia⟩
 |f+1,m,h0,hm,S=>by
  refine⟨R.bd (by lia),R.bd (by lia),?_⟩;cases c:lt (p.getD m 0) (p.getD (m-1) 0) with
  |true=>dsimp only;rw[af rfl];exact⟨ai _,by lia,S,λ_=>c⟩
  |false=>dsimp only;rw[ae (by decide)];exact vd.mono (λk h=>⟨by lia,h.2⟩) _ (Kh O R f (m+1) (by lia) (by lia) (S.step O R (by lia) h0 c))
def ZC (lt:Nat->Nat->Bool)(p:Array Nat)(m:Nat):Prop:=∀i j,i<j->j<m->lt (p.getD j 0) (p.getD i 0)=true
theorem ZC.step (O:Wz n lt)(R:PR n p)(S:ZC lt p m)(hm:m<n)(h0:0<m)(last:lt (p.getD m 0) (p.getD (m-1) 0)=true):ZC lt p (m+1):=by
 intro i j hij hj;by_cases c:j<m
 ·exact S i j hij c
 ·have:j=m:=by lia
  subst this;by_cases d:i=j-1
  ·rw[d];exact last
  ·exact O.tr _ _ _ (R.bd hm) (R.bd (by lia)) (R.bd (by lia)) last (S i (j-1) (by lia) (by lia))
theorem Lp (O:Wz n lt)(R:PR n p):∀(f m:Nat),0<m->m+f=n->ZC lt p m->vd n lt (λr=>r.1=p/\r.2.2=0/\m<=r.2.1/\r.2.1<=n/\ZC lt p r.2.1) (kas_desc f p m 0)
 |0,m,h0,hm,S=>⟨rfl,rfl,ai _,by show m<=n;lia,S⟩
 |f+1,m,h0,hm,S=>by
  refine⟨R.bd (by lia),R.bd (by lia),?_⟩;cases c:lt (p.getD m 0) (p.getD (m-1) 0) with
  |true=>dsimp only;rw[af rfl,ae (by decide)];exact vd.mono (λr h=>⟨h.1,h.2.1,by have:=h.2.2.1;lia,h.2.2.2⟩) _ (Lp O R f (m+1) (by lia) (by lia) (S.step O R (by lia) h0 c))
  |false=>dsimp only;rw[ae (by decide)];have d:lt (p.getD (m-1) 0) (p.getD m 0)=true:=O.tot _ _ (R.bd (by lia)) (R.bd (by lia)) (R.ne (by lia) (by lia) (by lia)) c;refine⟨R.bd (by lia),R.bd (by lia),?_⟩;dsimp only;rw[d,af rfl];exact⟨rfl,rfl,ai _,by show m<=n;lia,S⟩
theorem getD_get {p:Array Nat}{i:Nat}:p.getD i 0=(p[i]?).getD 0:=by simp
theorem Um {p:Array Nat}{m i:Nat}(hm:m<=p.size):(kas_rev p 0 m).getD i 0=if i<m then p.getD (m-1-i) 0 else p.getD i 0:=by
 rw[getD_get,getD_get,getD_get];unfold kas_rev;rw[getElem?_mirror_all hm];by_cases c:i<m
 ·rw[af ⟨bh _,c⟩,af c];congr 2;lia
 ·rw[ae (λh=>c h.2),ae c]
theorem YT (R:PR n p):PR n (kas_rev p 0 m):=by have:=mirror_perm p 0 m ((m-0) / 2);exact(f6.mp this).trans R
theorem RQ (O:Wz n lt)(R:PR n p)(h2:2<=n):vd n lt (λr=>PR n r.2/\1<=r.1/\r.1<=n/\Qg lt r.2 r.1) (kas_count n p):=by
 refine vd.bind _ (vd.mono (λk h=>?_) _ (Kh O R (n-1) 1 (by decide) (by lia) λi j a b=>by lia));obtain⟨h1,hk,S,L⟩:=h;by_cases c:k=n
 ·subst c;rw[af (by simp)];exact⟨R,by lia,ai _,S⟩
 ·rw[ae (by simpa using c)];by_cases d:k > 1
  ·rw[af d];refine⟨R.bd (by lia),R.bd (by lia),?_⟩;dsimp only;rw[S 0 (k-1) (by lia) (by lia),af rfl];exact⟨R,h1,hk,S⟩
  ·rw[ae d];have e:k=1:=by lia
   subst e;have D2:ZC lt p 2:=λi j a b=>by
    have e1:i=0:=by lia
    have e2:j=1:=by lia
    subst e1 e2;exact L (by lia)
   refine vd.bind _ (vd.mono (λr h=>?_) _ (Lp O R (n-2) 2 (by decide) (by lia) D2));obtain⟨p',m,q⟩:=r;obtain⟨e1,e2,h3,h4,D⟩:=h;have h3:2<=m:=h3;have h4:m<=n:=h4;subst e1 e2;show vd _ _ _ (if 0 > 0 then _ else kas_tail3 m n p');rw[ae (by decide)];have R':=YT (m:=m) R;have S':Qg lt (kas_rev p' 0 m) m:=λi j a b=>by rw[Um (by rw[R.size];exact h4),Um (by rw[R.size];exact h4),af (by lia),af b];exact D (m-1-j) (m-1-i) (by lia) (by show m-1-i<m;lia)
   refine vd.bind _ (vd.mono (λk h=>?_) _ (Kh O R' (n-m) m (by lia) (by lia) S'));exact⟨R',by show 1<=k;lia,h.2.1,h.2.2.1⟩
theorem Af (O:Wz n lt)(R:PR n p)(hk:k<n)(S:Qg lt p k):∀(f l r:Nat),l<=r->r<=k->r-l<=f->(∀i,i<l->lt (p.getD i 0) (p.getD k 0)=true)->(∀i,r<=i->i<k->lt (p.getD k 0) (p.getD i 0)=true) ->
  vd n lt (λl=>l<=k/\(∀i,i<l->lt (p.getD i 0) (p.getD k 0)=true)/\∀i,l<=i->i<k->lt (p.getD k 0) (p.getD i 0)=true) (kas_place p k f l r)
 |0,l,r,h1,h2,h3,A,B=>by
  have:l=r:=by lia
  subst this;exact⟨h2,A,B⟩
 |f+1,l,r,h1,h2,h3,A,B=>by
  unfold kas_place;by_cases c:l ≥ r
  ·rw[af c];have:l=r:=by lia
   subst this;exact⟨h2,A,B⟩
  ·rw[ae c];refine⟨R.bd hk,R.bd (by lia),?_⟩;cases d:lt (p.getD k 0) (p.getD ((l+r) / 2) 0) with
   |true=>
    dsimp only;rw[af rfl];refine Af O R hk S f l ((l+r) / 2) (by lia) (by lia) (by lia) A λi a b=>?_;by_cases e:i=(l+r) / 2
    ·rw[e];exact d
    ·exact O.tr _ _ _ (R.bd hk) (R.bd (by lia)) (R.bd (by lia)) d (S _ _ (by lia) b)
   |false=>
    dsimp only;rw[ae (by decide)];have d':=O.tot _ _ (R.bd hk) (R.bd (by lia)) (R.ne hk (by lia) (by lia)) d;refine Af O R hk S f ((l+r) / 2+1) r (by lia) h2 (by lia) (λi a=>?_) B;by_cases e:i=(l+r) / 2
    ·rw[e];exact d'
    ·exact O.tr _ _ _ (R.bd (by lia)) (R.bd (by lia)) (R.bd hk) (S i ((l+r) / 2) (by lia) (by lia)) d'
theorem QC {p:Array Nat}{k l i:Nat}(hk:k<p.size)(hl:l<=k):(bubble p k (k-l)).getD i 0=if i=l then p.getD k 0 else if l<i/\i<=k then p.getD (i-1) 0 else p.getD i 0:=by
 rw[getD_get,getElem?_bubble hk _ (by lia)];have e:k-(k-l)=l:=by lia
 rw[e];by_cases c:i=l
 ·rw[af c,af c,getD_get]
 ·rw[ae c,ae c];by_cases d:l<i/\i<=k
  ·rw[af d,af d,getD_get]
  ·rw[ae d,ae d,getD_get]
theorem Sw (O:Wz n lt):∀(f:Nat) (p:Array Nat) (k:Nat),PR n p->k+f=n->Qg lt p k->vd n lt (λp=>PR n p/\Qg lt p n) (kas_bin f p k)
 |0,p,k,R,hk,S=>by
  have:k=n:=by lia
  subst this;exact⟨R,S⟩
 |f+1,p,k,R,hk,S=>by
  have sz:=R.size;refine vd.bind _ (vd.mono (λl h=>?_) _ (Af O R (by lia) S k 0 k (bh _) (ai _) (by lia) (λi a=>by lia) λi a b=>by lia));obtain⟨h1,A,B⟩:=h;have R':PR n (bubble p k (k-l)):=(f6.mp (bubble_perm p k (k-l))).trans R;refine Sw O f _ (k+1) R' (by lia) λi j a b=>?_;rw[QC (by lia) h1,QC (by lia) h1];by_cases c1:i=l
  ·rw[af c1,ae (by lia),af (by lia)];exact B _ (by lia) (by lia)
  ·rw[ae c1];by_cases c2:j=l
   ·rw[af c2,ae (by lia)];exact A _ (by lia)
   ·rw[ae c2];by_cases c3:l<i/\i<=k
    ·rw[af c3,af (by lia)];exact S _ _ (by lia) (by lia)
    ·rw[ae c3];by_cases c4:l<j/\j<=k
     ·rw[af c4];exact S _ _ (by lia) (by lia)
     ·rw[ae c4];exact S _ _ a (by lia)
theorem WF (O:Wz n lt)(h2:2<=n):vd n lt (λp=>PR n p/\Qg lt p n) (kas_sort n):=by
 have R0:PR n (List.toArray (List.range n)):=List.Perm.refl _;refine vd.bind _ (vd.mono (λr h=>?_) _ (RQ O R0 h2));obtain⟨R,h1,h3,S⟩:=h;by_cases c:r.1<n
 ·rw[af c];have e:max r.1 1=r.1:=by lia
  rw[e];exact Sw O _ _ _ R (by lia) S
 ·rw[ae c];have e:r.1=n:=by lia
  rw[e]at S;exact⟨R,S⟩
end
end L2
section
open PySem PySem.Spec PyProof.Rows
namespace L3
open L2
def V1 (g:List Int):PV:=.tup [.int (g.length:Int),.ints g]
theorem xq:∀a:List Int,nq a a=false
 |[]=>rfl
 |x::a=>by show(if x=x then nq a a else _)=false;rw[af rfl,xq a]
theorem Jx:∀a b:List Int,nq a b=true->nq b a=false
 |[],_,h=>by cases h
 |x::a,[],h=>by cases h
 |x::a,y::b,h=>by
  have h:(if x=y then nq a b else decide (x<y))=true:=h;show(if y=x then nq b a else decide (y<x))=false;by_cases c:x=y
  ·rw[af c]at h;rw[af c.symm];exact Jx a b h
  ·rw[ae c]at h;have h:=bO h;rw[ae (cf c),aJ (by lia)]
theorem Jh:∀a b:List Int,a.length=b.length->a≠b->nq a b=false->nq b a=true
 |[],[],_,h,_=>absurd rfl h
 |[],_::_,h,_,_=>by cases h
 |_::_,[],h,_,_=>by cases h
 |x::a,y::b,l,n,h=>by
  have h:(if x=y then nq a b else decide (x<y))=false:=h;show(if y=x then nq b a else decide (y<x))=true;by_cases c:x=y
  ·rw[af c]at h;rw[af c.symm];exact Jh a b (by simpa using l) (λz=>n (by rw[c,z])) h
  ·rw[ae c]at h;have h:=of_decide_eq_false h;rw[ae (cf c),aL (by lia)]
theorem MK:∀a b c:List Int,nq a b=true->nq b c=true->nq a c=true
 |[],_,_,h,_=>by cases h
 |_::_,[],_,h,_=>by cases h
 |_::_,_::_,[],_,h=>by cases h
 |x::a,y::b,z::c,h,k=>by
  have h:(if x=y then nq a b else decide (x<y))=true:=h;have k:(if y=z then nq b c else decide (y<z))=true:=k;show(if x=z then nq a c else decide (x<z))=true;by_cases d:x=y
  ·subst d;rw[af rfl]at h;by_cases e:x=z
   ·rw[af e]at k ⊢;exact MK a b c h k
   ·rw[ae e]at k ⊢;exact k
  ·rw[ae d]at h;have h:=bO h;by_cases e:y=z
   ·subst e;rw[ae d,aL h]
   ·rw[ae e]at k;have k:=bO k;rw[ae (by lia),aL (by lia)]
theorem oM:kI a b=true ↔ a.length<b.length\/(a.length=b.length/\nq a b=true):=by
 unfold kI;by_cases c:(a.length:Int)=(b.length:Int)
 ·rw[af c];by_cases d:a=b
  ·subst d;rw[af rfl,xq];simp
  ·rw[ae d];constructor
   ·exact λh=>.inr ⟨by lia,h⟩
   ·rintro (h|h)
    ·lia
    ·exact h.2
 ·rw[ae c,decide_eq_true_iff];constructor
  ·exact λh=>.inl (by lia)
  ·rintro (h|h)<;>lia
theorem Sh (a:Li):kI a a=false:=by
 cases h:kI a a with
 |false=>rfl
 |true=>
  rcases oM.mp h with h|h
  ·lia
  ·rw[xq]at h;cases h.2
theorem Il (h:kI a b=true):kI b a=false:=by
 cases k:kI b a with
 |false=>rfl
 |true=>
  rcases oM.mp h with h|h<;>rcases oM.mp k with k|k
  ·lia
  ·lia
  ·lia
  ·have:=Jx _ _ h.2;rw[k.2]at this;cases this
theorem xJ (n:a≠b)(h:kI a b=false):kI b a=true:=by
 refine oM.mpr ?_;by_cases c:b.length<a.length
 ·exact .inl c
 ·right;by_cases d:a.length<b.length
  ·rw[oM.mpr (.inl d)]at h;cases h
  ·refine⟨by lia,Jh a b (by lia) n ?_⟩;cases k:nq a b with
   |false=>rfl
   |true=>rw[oM.mpr (.inr ⟨by lia,k⟩)]at h;cases h
theorem Gu (h:kI a b=true)(k:kI b c=true):kI a c=true:=by
 refine oM.mpr ?_;rcases oM.mp h with h|h<;>rcases oM.mp k with k|k
 ·left;lia
 ·left;lia
 ·left;lia
 ·exact .inr ⟨by lia,MK _ _ _ h.2 k.2⟩
theorem Vo {gs:List (List Int)}(nd:gs.Nodup):Wz gs.length λi j=>kI (gs.getD i []) (gs.getD j []) where
 asy:=λ_ _ _ _ h=>Il h
 tot:=λi j hi hj n h=>xJ (λz=>n (by
  rw[gQ,gQ,ac hi,ac hj]at z;exact(List.getElem_inj nd).mp z)) h
 tr:=λ_ _ _ _ _ _ h k=>Gu h k
section
variable {X:Cx}{pins:List (Addr×Obj)}{σ:L2.St}{H:Hp}{s t:Shared}{D kS:Addr}{G:Gx}{O:Addr->Bool}
theorem FW (I:Inv X pins σ H s)(e:s.heap.get? D=some o)(n:H D=none)(dl:D≠X.env.locals)(fs:D∉X.fs)(dc:∀v,o.data ≠ .cell v):Inv X ((D,o)::pins) σ H s:=
 { I with pin:=λp hp=>(c5.mp hp).elim (λhp=>I.pin p (cE _ hp)) λhp=>(aB.mp hp).elim (λz=>z ▸ ⟨e,n,dl,fs,dc⟩) λhp=>I.pin p (aM _ hp) }
theorem xW (I:Inv X (q::pins) σ H s):Inv X pins σ H s/\s.heap.get? q.1=some q.2/\H q.1=none:=by obtain⟨a,b,_⟩:=I.pin q (aM _ ag);exact⟨{ I with pin:=λp hp=>I.pin p ((c5.mp hp).elim (λhp=>cE _ hp) λhp=>aM _ (ad _ hp)) },a,b⟩
structure pq (X:Cx)(pins:List (Addr×Obj))(D:Addr):Prop where
 big:X.s₀.heap.objs.size<=D
 loc:D≠X.env.locals
 cel:∀x c,X.env.cells.lookup x=some c->c≠D
 pin:∀p∈X.pn++pins,p.1≠D
 fs:D∉X.fs
theorem pq.of (I:Inv X pins σ H t)(h:t.heap.objs.size<=D):pq X pins D where
 big:=aC I.sz h
 loc:=dN (aD I.lt h)
 cel:=λx c e=>by obtain⟨v,o,ho,_⟩:=I.cell x c e;exact be (aD (az ho) h)
 pin:=λp hp=>be (aD (az (I.pin p hp).1) h)
 fs:=I.nofs h
theorem xP (I:Inv X pins σ H s)(F:pq X pins D)(sb:Heap.SameBut D s.heap h')(e:h'.get? D=some o')(n:H D=none):Inv X pins σ H { s with heap:=h' }:=by
 have kp:∀b o,b≠D->s.heap.get? b=some o->h'.get? b=some o:=λb o hb q=>by rw[sb.2 b hb];exact q
 have nD:∀b u,H b=some u->b≠D:=λb u q z=>by rw[z,n]at q;cases q
 refine I.step (ch:=[D]) (g':=s.gens) (d':=s.drawn) (t':=s.toks) (λb hb=>?_) (λb o _ _ hb q _=>kp b o (λz=>hb (bp.mpr z)) q) (λb o _ _ hb q _=>⟨o.slots,kp b o (λz=>hb (bp.mpr z)) q⟩) (λb o _ _ q=>q) (λb o _ q=>?_) (λb _ q=>q) (λb _ _ q=>q) (λb ps q=>⟨#[],by rw[q];simp⟩) (λm hm=>?_) (λb u q=>?_) I.bare
 ·rw[bp.mp hb];exact⟨.inr F.big,F.loc,F.cel,F.pin⟩
 ·by_cases z:b=D
  ·rw[z];exact⟨o',e⟩
  ·exact⟨o,kp b o z q⟩
 ·obtain⟨o,es,ep,ho,r⟩:=hm;exact⟨o,es,ep,kp _ _ (cf F.loc) ho,r⟩
 ·refine(I.hok b u q).stay (λc v hcb rr=>kp c v ?_ rr) (λc rr=>rr) (λc _ rr=>rr) λc _ _ rr=>rr;rcases hcb with rfl|hcb
  ·exact nD _ _ q
  ·exact nD _ _ hcb
theorem Pa (I:Inv X pins σ H s)(a:At X.K G (mn H O) (V1 g) kv)(r:RelV kv k) :
  ∃x gx tx xs,k=.ref x/\IsTup s.heap x #[.int (g.length:Int) tx,.ref gx]/\s.heap.IsList gx xs.toArray/\IntsAre xs g:=by
 obtain⟨x,us,rfl,hx,u1,r1,rfl,h1,u2,r2,rfl,⟨gx,rfl,rd⟩,hn⟩:=a;subst hn h1;cases r;obtain⟨_,its2,rv,tup⟩:=I.hok x _ (tH hx).2;obtain⟨_,its,n,r3,_,e⟩:=L3.Inv.Kr I (jy jQ rd);cases rv with
 |cons q0 q1=>
  cases q1 with
  |cons q2 q3=>cases q3;cases q2;obtain⟨tok,rfl⟩:=q0;exact⟨x,gx,tok,its,rfl,tup,⟨_,e,rfl,n,rfl⟩,w6 r3⟩
end
section
variable {X:Cx}{pins:List (Addr×Obj)}{σ:L2.St}{H:Hp}{s t:Shared}{D kS:Addr}{G:Gx}{O:Addr->Bool}{A:Around}{f:Value}{its:List Value}{gs:List (List Int)}{e1:Nat}{P:PySem.Fin->Shared->Prop}{E:Value->Shared->Prop}
def CK (its:List Value)(p:List Nat):List Value:=p.map λi=>its.getD i Value.none
def R4 (X:Cx)(pins:List (Addr×Obj))(σ:L2.St)(H:Hp)(D:Addr)(its:List Value)(gs:List (List Int))(R:Shared->Prop):Prop:=
 ∀(H':Hp) (p:List Nat) (c:Nat) (s':Shared),Inv X pins σ H' s' -> Same H H' -> H' D=none->s'.heap.get? D=some (seqObj "list" (CK its p).toArray c)->p.Perm (List.range its.length)->p.Pairwise (λi j=>kI (gs.getD i []) (gs.getD j [])=true)->R s'
theorem Oe {st:SortSt}{ks:Lv}{p:List Nat}{e:Nat}(I:Inv X pins σ H s)(fD:pq X pins D)(fK:pq X pins kS)(ne:kS≠D)(hD:s.heap.get? D=some (seqObj "list" #[] e1))(hK:s.heap.get? kS=some (seqObj "list" ks.toArray e))(HD:H D=none)(HK:H kS=none)
  (h1:(arrOf st).map (·.2)=(CK its p).toArray) (h2:failedOf st=none) (hp:p.Perm (List.range its.length)) (hs:p.Pairwise (λi j=>kI (gs.getD i []) (gs.getD j [])=true)) (l1:ks.length<64) (l2:its.length<64) (fin:R4 X pins σ H D its gs λs'=>P (.done (.ret .none)) s') :
  wpAny (model X.prog X.w) A (ksk_tail D false e1 (.ref kS) st) P E s:=by
 have s1:=eM s.heap kS (Obj.mapSeq λ_=>(#[]:Array Value));have g1:=get?_update_seq hK λ_=>(#[]:Array Value);have I1:=xP I fK s1 g1 HK;have hD1:(s.heap.update kS (Obj.mapSeq λ_=>(#[]:Array Value))).get? D=some (seqObj "list" #[] e1):=by rw[s1.2 D (cf ne)];exact hD
 have s2:=eM (s.heap.update kS (Obj.mapSeq λ_=>(#[]:Array Value))) D (Obj.mapSeq λ_=>(CK its p).toArray);have g2:=get?_update_seq hD1 λ_=>(CK its p).toArray;have I2:=xP I1 fD s2 g2 HD;have lp:(CK its p).length<64:=by unfold CK;rw[aa,hp.length_eq,aq];exact l2
 unfold ksk_tail;dsimp only;rw[h1];refine aH (gU hK rfl (aH (wpAny_letGo (aH (seqEpoch_at hD1 rfl (aH (gU hD1 rfl ?_ (bh _) (by
  rw[ae (by decide),aw,dj];lia))))))) (by rw[aw,dj];lia) (bh _))
 rw[h2];simp only[bne_self_eq_false,Bool.false_eq_true,jf];exact bV (fin H p _ _ I2 (Same.refl H) HD g2 hp hs)
theorem Oo:∀{ks:Lv},(∀k∈ks,∃x n tx gx,k=.ref x/\IsTup h x #[.int n tx,.ref gx])->∃fs,W.KatTups h ks fs/\fs.length=ks.length/\∀v∈fs,∃n tx,v=Value.int n tx
 |[],_=>⟨[],tJ,rfl,λ_ h=>by cases h⟩
 |k::ks,hk=>by
  obtain⟨fs,a,b,c⟩:=Oo λk' h'=>hk k' (ad _ h');obtain⟨x,n,tx,gx,rfl,o,eo,co,en,dn⟩:=hk k ag;refine⟨.int n tx::fs,W.KatTups.cons eo co dn rfl a,by rw[aG,aG,b],λv hv=>?_⟩;rcases aB.mp hv with rfl|hv
  ·exact⟨n,tx,rfl⟩
  ·exact c v hv
theorem WL (its:Lv):CK its (List.range its.length)=its:=by unfold CK;refine cj (by rw[aa,aq]) λi h1 h2=>?_;rw[br,bn,gQ,ac h2];rfl
def Xz (X:Cx)(G:Gx)(O:Addr->Bool)(H:Hp)(gs:List (List Int))(ks:List Value):Prop:=∀j,j<ks.length->∃kv k,ks[j]?=some k/\RelV kv k/\At X.K G (mn H O) (V1 (gs.getD j [])) kv
theorem YD {e:Nat}(I:Inv X pins σ H s)(fD:pq X pins D)(fK:pq X pins kS)(ne:kS≠D)(hD:s.heap.get? D=some (seqObj "list" #[] e1))(hK:s.heap.get? kS=some (seqObj "list" ks.toArray e))(HD:H D=none)(HK:H kS=none)
  (kl:ks.length=its.length) (gl:gs.length=its.length) (kg:Xz X G O H gs ks) (nd:gs.Nodup) (l2:its.length<64) (hu:A.units+64<cLine) (fin:R4 X pins σ H D its gs λs'=>P (.done (.ret .none)) s') :
  wpAny (model X.prog X.w) A (ksk_end D false its.toArray e1 (.ref kS) ks.toArray) P E s:=by
 unfold ksk_end;simp only[Bool.false_eq_true,jf];by_cases n2:its.length<2
 ·rw[af (by rw[aw];exact n2),af (by rw[aw];exact n2)];refine aH (bV (aH (bV ?_)));refine Oe (p:=List.range its.length) I fD fK ne hD hK HD HK ?_ rfl (List.Perm.refl _) ?_ (by lia) l2 fin
  ·rw[WL];apply Array.toList_inj.mp;rw[Array.toList_map,ksk_zip];show List.map Prod.snd (ks.zip its)=its;exact List.map_snd_zip (by lia)
  ·refine dk.mpr λi j hi hj h=>?_;rw[aq]at hj;lia
 ·rw[ae (by rw[aw];exact n2),ae (by rw[aw];exact n2)];have facts:∀j,j<its.length->∃x gx tx xs,ks.getD j Value.none=.ref x/\IsTup s.heap x #[.int ((gs.getD j []).length:Int) tx,.ref gx]/\s.heap.IsList gx xs.toArray/\IntsAre xs (gs.getD j []):=λj hj=>by obtain⟨kv,k,ek,rk,ak⟩:=kg j (by lia);obtain⟨x,gx,tx,xs,rfl,r⟩:=Pa I ak rk;exact⟨x,gx,tx,xs,by rw[gQ,ek];rfl,r⟩
  obtain⟨fs,tu,fl,fi⟩:=Oo (h:=s.heap) (ks:=ks) λk hk=>by obtain⟨j,hj,rfl⟩:=bY.mp hk;obtain⟨x,gx,tx,xs,ex,t,_⟩:=facts j (by lia);rw[gQ,ac hj]at ex;exact⟨x,_,tx,gx,ex,t⟩
  refine aH (W.kat_kind (T:=.type "int") tu (by lia) (λv hv=>?_) (by decide) ?_)
  ·obtain⟨n,tx,rfl⟩:=fi v hv;exact W.Looks.of_pure rfl
  have hn:gs.length=its.length:=gl;have O1:=Vo nd;rw[hn]at O1;have ok:=WF O1 (by lia);refine aH (fO (W.kat_run (G:=λp s'=>s'=s/\L2.PR its.length p/\L2.Qg (λi j=>kI (gs.getD i []) (gs.getD j [])) p its.length) (Q:=λst s'=>s'=s/\∃p:Array Nat,L2.PR its.length p/\L2.Qg (λi j=>kI (gs.getD i []) (gs.getD j [])) p its.length/\arrOf st=p.map (W.kas_item (ks.toArray.zip its.toArray))/\failedOf st=none) kl (by lia) l2 (λp st s' _ a b c=>⟨c.1,p,c.2.1,c.2.2,a,b⟩) ?_) (λr s' h=>?_) λ_ _ x=>x)
  ·refine vd.wp (λi j C hi hj hc=>?_) (λp hp=>⟨rfl,hp⟩) _ ok;obtain⟨x,gx,tx,xs,e1,t1,l1,i1⟩:=facts i hi;obtain⟨y,gy,ty,ys,e2,t2,l2,i2⟩:=facts j hj;show wpAny (model X.prog X.w) A (keyLt' (tuples' true) (ks.getD i Value.none) (ks.getD j Value.none)) C _ s;rw[e1,e2];exact Y9 t1 t2 l1 l2 i1 i2 hu hc
  ·obtain⟨u,st⟩:=r;obtain⟨es,p,pr,srt,ar,nf⟩:=h;subst es;refine Oe (p:=p.toList) I fD fK ne hD hK HD HK ?_ nf pr ?_ (by lia) l2 fin
   ·exact W.kat_snds kl ar
   ·refine dk.mpr λi j hi hj h=>?_;have sz:=pr.size;rw[c6]at hi hj;have:=srt i j h (by lia);rw[Br hi,Br hj]at this;simpa using this
theorem Vc (I:Inv X pins σ H s)(fD:pq X pins D)(fK:pq X pins kS)(ne:kS≠D)(hD:s.heap.get? D=some (seqObj "list" #[] e1))(hK:s.heap.get? kS=some (seqObj "list" #[] 0))(HD:H D=none)(HK:H kS=none)
  (gl:gs.length=its.length) (nd:gs.Nodup) (l2:its.length<64) (hu:A.units+64<cLine)
  (key:∀(pins':List (Addr×Obj)) (H1:Hp) (s1:Shared) (i:Nat) (v:Value),its[i]?=some v->Inv X pins' σ H1 s1->(∀q∈pins,q∈pins')->Same H H1->wpAny (model X.prog X.w) A (call f [v]) (λk s'=>∃kv H',Inv X pins' σ H' s'/\Same H1 H'/\RelV kv k/\At X.K G (mn H' O) (V1 (gs.getD i [])) kv) (λ_ _=>False) s1)
  (fin:R4 X pins σ H D its gs λs'=>P (.done (.ret .none)) s') :
  wpAny (model X.prog X.w) A (ksk_rest D f false its.toArray e1 (.ref kS)) P E s:=by
 unfold ksk_rest;refine aH (wpAny_rule ?_)
 first
  |rw[List.forIn_toArray]
  |(rw[<- Array.forIn_toList];simp only[List.toList_toArray])
 refine aH (ksk_fold (λi s'=>∃ks H' e,Inv X pins σ H' s'/\Same H H'/\H' D=none/\H' kS=none/\s'.heap.get? D=some (seqObj "list" #[] e1)/\s'.heap.get? kS=some (seqObj "list" (List.toArray ks) e)/\ks.length=i/\Xz X G O H' gs ks) its 0 s ⟨[],H,0,I,Same.refl H,HD,HK,hD,hK,rfl,λj hj=>by cases hj⟩ ?_ ?_)
 ·rintro j x s' hx ⟨ks,H',e,I',s1,d1,d2,o1,o2,lk,kg⟩;have jl:j<its.length:=(aj.mp hx).1;have Ip:=FW (FW I' o2 d2 fK.loc fK.fs λv z=>by cases z) o1 d1 fD.loc fD.fs λv z=>by cases z
  refine aH (wpAny_attempt (fO (key _ H' s' j x hx Ip (λq hq=>ad _ (ad _ hq)) s1) (λk s2 h=>?_) λ_ _ z=>z.elim));obtain⟨kv,H2,I2,q2,rk,ak⟩:=h;obtain⟨I3,o3,d3⟩:=xW I2;obtain⟨I4,o4,d4⟩:=xW I3;have sb:=eM s2.heap kS (Obj.mapSeq (·.push k));have g4:=get?_update_seq o4 (·.push k);have g4:(s2.heap.update kS (Obj.mapSeq (·.push k))).get? kS=some (seqObj "list" (List.toArray (ks++[k])) (if (((List.toArray ks).push k).size == (List.toArray ks).size)=true then e else e+1)):=g4.trans (by rw[show(List.toArray ks).push k=List.toArray (ks++[k]) by simp]);have I5:=xP I4 fK sb g4 d4;have o5:(s2.heap.update kS (Obj.mapSeq (·.push k))).get? D=some (seqObj "list" #[] e1):=by rw[sb.2 D (cf ne)];exact o3
  refine aH (gU o4 rfl (bV ⟨rfl,ks++[k],H2,_,I5,s1.trans q2,d3,d4,o5,g4,by rw[ah,lk];rfl,λi hi=>?_⟩) (by rw[aw,dj];lia) (by
   rw[Array.size_push,aw,dj];lia))
  rw[ah,bv]at hi;by_cases c:i<ks.length
  ·obtain⟨kv',k',a1,a2,a3⟩:=kg i c;exact⟨kv',k',by rw[aP c];exact a1,a2,At.mono (kY q2) _ _ a3⟩
  ·have:i=j:=by lia
   subst this;exact⟨kv,k,by rw[bi (by lia),show i-ks.length=0 by lia];rfl,rk,ak⟩
 ·rintro s' ⟨ks,H',e,I',s1,d1,d2,o1,o2,lk,kg⟩;refine aH (listItems_at o2 rfl ?_);exact YD I' fD fK ne o1 o2 d1 d2 (by lia) gl kg nd l2 hu λH2 p c s2 a b d e f g=>fin H2 p c s2 a (s1.trans b) d e f g
theorem U5 (I:Inv X pins σ H s)(fD:pq X pins D)(hD:s.heap.get? D=some (seqObj "list" its.toArray n0))(HD:H D=none)
  (gl:gs.length=its.length) (nd:gs.Nodup) (l2:its.length<64) (hu:A.units+64<cLine)
  (key:∀(pins':List (Addr×Obj)) (H1:Hp) (s1:Shared) (i:Nat) (v:Value),its[i]?=some v->Inv X pins' σ H1 s1->(∀q∈pins,q∈pins')->Same H H1->wpAny (model X.prog X.w) A (call f [v]) (λk s'=>∃kv H',Inv X pins' σ H' s'/\Same H1 H'/\RelV kv k/\At X.K G (mn H' O) (V1 (gs.getD i [])) kv) (λ_ _=>False) s1)
  (fin:R4 X pins σ H D its gs λs'=>P (.done (.ret .none)) s') :
  wpAny (model X.prog X.w) A (ksk_tree D f false) P E s:=by
 have s1:=eM s.heap D (Obj.mapSeq λ_=>(#[]:Array Value));have g1:=get?_update_seq hD λ_=>(#[]:Array Value);have I1:=xP I fD s1 g1 HD;have hn:(s.heap.update D (Obj.mapSeq λ_=>(#[]:Array Value))).objs.size<=((s.heap.update D (Obj.mapSeq λ_=>(#[]:Array Value))).push (seqObj "tuple" its.toArray 0)).objs.size:=by rw[size_push'];lia
 have I2:=I1.kept (h':=((s.heap.update D (Obj.mapSeq λ_=>(#[]:Array Value))).push (seqObj "tuple" its.toArray 0)).push (seqObj "list" #[] 0)) (t':=s.toks) λb o e=>ay _ (ay _ e);have fK:pq X pins ((s.heap.update D (Obj.mapSeq λ_=>(#[]:Array Value))).push (seqObj "tuple" its.toArray 0)).objs.size:=pq.of I1 hn;have HK:H ((s.heap.update D (Obj.mapSeq λ_=>(#[]:Array Value))).push (seqObj "tuple" its.toArray 0)).objs.size=none:=I1.hok.fresh hn;have nKD:((s.heap.update D (Obj.mapSeq λ_=>(#[]:Array Value))).push (seqObj "tuple" its.toArray 0)).objs.size≠D:=dN (aD (az g1) hn);unfold ksk_tree;refine aH (listItems_at hD rfl (aH (gU hD rfl (aH (seqEpoch_at g1 rfl (aH (wpAny_newTuple (aH (wpAny_newList (fN ?_) (bh _))) (by show its.length<=_;rw[dj];lia))))) (by rw[aw,dj];lia) (bh _))));exact Vc (s:={ s with heap:=((s.heap.update D (Obj.mapSeq λ_=>(#[]:Array Value))).push (seqObj "tuple" its.toArray 0)).push (seqObj "list" #[] 0) }) I2 fD fK nKD (ay _ (ay _ g1)) (a8 _ rfl) HD HK gl nd l2 hu key fin
end
open Classical in
def j6 (kf:PV->List Int)(ps:List PV):List PV:=if h:∃l:List PV,l.Perm ps/\l.Pairwise (λa b=>kI (kf a) (kf b)=true) then h.choose else[]
theorem Ez (kf:PV->List Int):∀{a b:List PV},a.Perm b->a.Pairwise (λx y=>kI (kf x) (kf y)=true)->b.Pairwise (λx y=>kI (kf x) (kf y)=true)->a=b
 |[],b,p,_,_=>(List.Perm.nil_eq p)
 |x::a,[],p,_,_=>absurd p.length_eq (by simp)
 |x::a,y::b,p,sa,sb=>by
  rw[a9]at sa sb;have e:x=y:=by
   have h1:x∈y::b:=p.mem_iff.mp ag;have h2:y∈x::a:=p.mem_iff.mpr ag;rcases aB.mp h1 with h1|h1
   ·exact h1
   rcases aB.mp h2 with h2|h2
   ·exact h2.symm
   have:=Il (sb.1 x h1);rw[sa.1 y h2]at this;cases this
  subst e;rw[Ez kf (List.Perm.cons_inv p) sa.2 sb.2]
theorem Bw (p:l.Perm ps)(o:l.Pairwise λa b=>kI (kf a) (kf b)=true):j6 kf ps=l:=by have h:∃l:List PV,l.Perm ps/\l.Pairwise (λa b=>kI (kf a) (kf b)=true):=⟨l,p,o⟩;unfold j6;rw[fV h];have s:=h.choose_spec;exact Ez kf (s.1.trans p.symm) s.2 o
section
variable {X:Cx}{pins:List (Addr×Obj)}{σ:L2.St}{H:Hp}{s t:Shared}{D l:Addr}{G:Gx}{O:Addr->Bool}{f:Value}{its:List Value}{gs:List (List Int)}{E:Value->Shared->Prop}
theorem Pq (I:Inv X pins σ H s)(F:pq X pins D)(n:H D=none)(e:s.heap.get? D=some (seqObj "list" its.toArray c))(rv:Vals vs its)(hl:vs.length<=sizeLine):Inv X pins σ (upd H D (.lst vs)) s:=by
 have nD:∀b u,H b=some u->b≠D:=λb u q z=>by rw[z,n]at q;cases q
 refine I.step (ch:=[D]) (h':=s.heap) (g':=s.gens) (d':=s.drawn) (t':=s.toks) (λb hb=>?_) (λb o _ _ _ q _=>q) (λb o _ _ _ q _=>⟨o.slots,q⟩) (λb o hb _ q=>?_) (λb o _ q=>⟨o,q⟩) (λb _ q=>?_) (λb _ _ q=>?_) (λb ps q=>⟨#[],?_⟩) (λm hm=>hm) (λb u q=>?_) I.bare
 ·rw[bp.mp hb];exact⟨.inr F.big,F.loc,F.cel,F.pin⟩
 ·rw[upd_ne (λz=>hb (bp.mpr z))];exact q
 ·rw[upd_ne (nD _ _ q)];exact q
 ·rw[upd_ne (nD _ _ q)];exact q
 ·rw[upd_ne (nD _ _ q),q];simp
 ·by_cases z:b=D
  ·subst z;rw[upd_same]at q;cases q;exact⟨hl,its,c,rv,e⟩
  ·rw[upd_ne z]at q;exact(I.hok b u q).stay (λc v _ rr=>rr) (λc rr=>by rw[upd_ne (nD _ _ rr)];exact rr) (λc _ rr=>by rw[upd_ne (nD _ _ rr)];exact rr) λc _ _ rr=>by rw[upd_ne (nD _ _ rr)];exact rr
theorem QT (I:Inv X pins σ H t)(hl:t.heap.IsList l its.toArray)(gl:gs.length=its.length)(nd:gs.Nodup)(l2:its.length<64)(hu:X.A.in1.in1.units+64<cLine)
  (ht:∀x,Builtin.«list.sort» ⟨[.ref x],[(Str.ofString "key",f)]⟩=ksk_tree x f false)
  (key:∀(pins':List (Addr×Obj)) (H1:Hp) (s1:Shared) (i:Nat) (v:Value),its[i]?=some v->Inv X pins' σ H1 s1->(∀q∈pins,q∈pins')->Same H H1->wpAny (model X.prog X.w) X.A.in1.in1 (call f [v]) (λk s'=>∃kv H',Inv X pins' σ H' s'/\Same H1 H'/\RelV kv k/\At X.K G (mn H' O) (V1 (gs.getD i [])) kv) (λ_ _=>False) s1)
  (fin:∀D,H D=none->pq X pins D->R4 X pins σ H D its gs λs'=>Q (.ref D) s') :
  wpAny (model X.prog X.w) X.A (call (.builtin "sorted") [.ref l] [(Str.ofString "key",f)]) Q E t:=by
 refine call_function_entry_kw kind_sorted plain_sorted entry_sorted (ksk_s1 _ _) ?_;unfold Builtin.«sorted»;have small:its.length<=sizeLine:=by rw[dj];lia
 refine aH (m:=checkCount "sorted" 1 1 _) (bV (aH (collect_list hl (aH (wpAny_newList ?_ small)) small)));generalize hh:(t.heap.push (seqObj "list" #[] 0)).update t.heap.objs.size (Obj.mapSeq (· ++ its.toArray))=h1;have sz:h1.objs.size=t.heap.objs.size+1:=by rw[<- hh,Heap.size_update,size_push']
 have kp:∀b o,t.heap.get? b=some o->h1.get? b=some o:=λb o q=>by have:=az q;rw[<- hh,Heap.get?_update_ne _ _ _ _ (be this),Heap.get?_push_ne _ _ _ (be this)];exact q
 have I1:=I.kept (h':=h1.push (seqObj "list" its.toArray 0)) (t':=t.toks) λb o q=>ay _ (kp b o q);have le:t.heap.objs.size<=h1.objs.size:=by lia
 have hD:(h1.push (seqObj "list" its.toArray 0)).get? h1.objs.size=some (seqObj "list" its.toArray 0):=a8 _ rfl;have HD:H h1.objs.size=none:=I.hok.fresh le;have fD:=pq.of I le;refine aH (fN (wpAny_call_entry_kw slot_list_sort ⟨_,hD,rfl⟩ entry_list_sort ?_ (ksk_l1 _ _)));rw[ht];exact U5 (s:={ t with heap:=h1.push (seqObj "list" its.toArray 0) }) I1 fD hD HD gl nd l2 hu key λH' p c s' a b d e f g=>⟨_,rfl,bV ⟨_,rfl,fin _ HD fD H' p c s' a b d e f g⟩⟩
theorem DN {ps:List PV}{xs:List V}{Q:VK}(kf:PV->List Int)(I:Inv X pins σ H t)(rd:Rd H l (.lst xs))(al:lX X.K G (mn H O) ps xs)(l64:ps.length<64)(nd:(ps.map kf).Nodup)(hu:X.A.in1.in1.units+64<cLine)
  (ht:∀x,Builtin.«list.sort» ⟨[.ref x],[(Str.ofString "key",f)]⟩=ksk_tree x f false)
  (key:∀(pins':List (Addr×Obj)) (H1:Hp) (s1:Shared) (p:PV) (v:V) (u:Value),p∈ps->At X.K G (mn H1 O) p v->RelV v u->Inv X pins' σ H1 s1->(∀q∈pins,q∈pins')->Same H H1 ->
   wpAny (model X.prog X.w) X.A.in1.in1 (call f [u]) (λk s'=>∃kv H',Inv X pins' σ H' s'/\Same H1 H'/\RelV kv k/\At X.K G (mn H' O) (V1 (kf p)) kv) (λ_ _=>False) s1)
  (q:∀(a:Addr) (vs:List V) (H':Hp),Same H H' -> H a=none->H' a=some (.lst vs)->lX X.K G (mn H' (hide a O)) (j6 kf ps) vs->Q (V.ref a) H') :
  wpAny (model X.prog X.w) X.A (call (.builtin "sorted") [.ref l] [(Str.ofString "key",f)]) (EP X pins σ Q) E t:=by
 obtain⟨_,its,n,r,hlen,e⟩:=L3.Inv.Kr I rd;have lps:ps.length=xs.length:=al.length;have gl:(ps.map kf).length=its.length:=by rw[aa];lia
 have gat:∀i,i<ps.length->∃p,ps[i]?=some p/\(ps.map kf).getD i []=kf p:=λi hi=>⟨ps[i],ac hi,by rw[gQ,ao,ac hi];rfl⟩;refine QT (G:=G) (O:=O) I ⟨_,e,rfl,n,rfl⟩ gl nd (by lia) hu ht (λpins' H1 s1 i v hv I1 ip s1'=>?_) λD nD fD H' p c s' I' sm hD eD pr so=>?_
 ·have il:i<its.length:=(aj.mp hv).1;obtain⟨pp,ep,eg⟩:=gat i (by lia);obtain⟨xv,hxv,at1⟩:=al.at ep;obtain⟨v',hv',rl⟩:=r.get hxv;rw[hv]at hv';cases hv';rw[eg];exact key pins' H1 s1 pp xv v (aV ep) (At.mono (kY s1') _ _ at1) rl I1 ip s1'
 ·have pl:∀i∈p,i<its.length:=λi hi=>aW.mp (pr.mem_iff.mp hi);have get:∀i∈p,∃pp xv v,ps[i]?=some pp/\xs[i]?=some xv/\its[i]?=some v/\At X.K G (mn H O) pp xv/\RelV xv v:=λi hi=>by obtain⟨pp,ep,_⟩:=gat i (by have:=pl i hi;lia);obtain⟨xv,hxv,at1⟩:=al.at ep;obtain⟨v',hv',rl⟩:=r.get hxv;exact⟨pp,xv,v',ep,hxv,hv',at1,rl⟩
  have rv:Vals (p.map λi=>xs.getD i .non) (CK its p):=by
   unfold CK;clear so pr eD
   induction p with
   |nil=>exact .nil
   |cons i p ih=>obtain⟨pp,xv,v,a,b,c',d,e'⟩:=get i ag;refine .cons ?_ (ih (λi hi=>pl i (ad _ hi)) λi hi=>get i (ad _ hi));dsimp only;rw[gQ,gQ,b,c'];exact e'
  have sl:(p.map λi=>xs.getD i .non).length<=sizeLine:=by rw[aa,pr.length_eq,aq,dj];lia
  have I3:=Pq I' fD hD eD rv sl;have sD:Same H' (upd H' D (.lst (p.map λi=>xs.getD i .non))):=same_new hD _;have es:j6 kf ps=p.map λi=>ps.getD i .non:=by
   refine Bw ?_ ?_
   ·have h1:(p.map λi=>ps.getD i .non).Perm ((List.range its.length).map λi=>ps.getD i .non):=pr.map _;have h2:((List.range its.length).map λi=>ps.getD i .non)=ps:=by refine cj (by rw[aa,aq];lia) λi h1 h2=>?_;rw[br,bn,gQ,ac h2];rfl
    rw[h2]at h1;exact h1
   ·rw[cJ];refine so.imp_of_mem λ{a b} ha hb h=>?_;obtain⟨pa,ea,ga⟩:=gat a (by have:=pl a ha;lia);obtain⟨pb,eb,gb⟩:=gat b (by have:=pl b hb;lia);rw[ga,gb]at h;rw[gQ,gQ,ea,eb];exact h
  refine⟨.ref D,_,I3,rfl,q D _ _ (sm.trans sD) nD upd_same ?_⟩;rw[es];refine lX.mono (mK (sm.trans sD) nD) _ _ ?_;clear so pr eD es sl I3 sD rv
  induction p with
  |nil=>exact rfl
  |cons i p ih=>obtain⟨pp,xv,v,a,b,c',d,e'⟩:=get i ag;refine⟨_,_,rfl,?_,ih (λi hi=>pl i (ad _ hi)) λi hi=>get i (ad _ hi)⟩;dsimp only;rw[gQ,gQ,a,b];exact d
end
end L3
namespace L2
section
variable {prog:Program}{w:World}{A:Around}{s:Shared}{Q:Value->Shared->Prop}{E:Value->Shared->Prop}
theorem Px {f c' t fa:Addr}{its:Lv}{wv pm ctv:Value}{y q fn:Str}{params:Arguments}{scope:Scope}{p1 p2 p3 pf pc:Pos}{j:Nat}{K:Fg}{mg:Mg}{base:Heap}
  (ho:s.heap.get? f=some (W.kla_obj "<lambda>" q params (.Call (.Name fn pf) [.Subscript (.Name y p1) (.Constant (.int 0) j p2) p3] [] pc) scope [] pm c' ctv)) (hcd:s.heap.CodeRec (.ref c') q) (hroom:A.depth<recursionLimit) (hlim:s.heap.NoLimit)
  (hbind:bindArgs (W.kla_fn "<lambda>" q params (.Call (.Name fn pf) [.Subscript (.Name y p1) (.Constant (.int 0) j p2) p3] [] pc) scope [] pm (.ref c') ctv) ⟨[.ref t],[]⟩=pure [(y,.ref t)])
  (hloc:scope.names.lookup y=some .local) (hnc:∀z∈scope.names,z.2 ≠ .cell) (hk:scope.kind=.function) (hco:scope.isCoroutine=false) (hgen:scope.isGenerator=false) (hyd:(y == ("__debug__":Str))=false)
  (hgl:scope.names.lookup fn=some .globalImplicit) (hfd:(fn == ("__debug__":Str))=false) (hmod:s.heap.Ns mainGlobals mg) (hm:mg fn=some (.ref fa)) (hKb:K.In base) (hkeep:W.keepIn K (.ref fa)=true)
  (he:starEach [.Subscript (.Name y p1) (.Constant (.int 0) j p2) p3] (W.envX q scope s.heap.objs.size f (.ref c') [])=(false,eval (.Subscript (.Name y p1) (.Constant (.int 0) j p2) p3) (W.envX q scope s.heap.objs.size f (.ref c') []))::starEach [] (W.envX q scope s.heap.objs.size f (.ref c') []))
  (tup:IsTup s.heap t its.toArray) (hi:its[0]?=some wv) (kin:∀h',(∀b o,s.heap.get? b=some o->h'.get? b=some o)->K.In h')
  (h:∀h' tk o es ep,(∀b o,s.heap.get? b=some o->h'.get? b=some o)->h'.get? s.heap.objs.size=some o->o.data=.dict es ep->s.heap.objs.size<h'.objs.size->wpAny (model prog w) (A.deeper (W.envX q scope s.heap.objs.size f (.ref c') [])) (call (.ref fa) [wv]) Q (λ_ _=>False) { s with heap:=h',toks:=tk }) :
  wpAny (model prog w) A (call (.ref f) [.ref t]) Q E s:=by
 refine iB (iD hroom ho rfl hco hgen rfl hcd ?_);rw[hbind];refine bV (fH hnc (λz hz=>?_) (λh₁ hns hsb=>⟨hlim.fresh _ hsb,?_⟩) hk)
 ·rw[bp.mp hz];exact hloc
 have hk₁:∀b o,s.heap.get? b=some o->h₁.get? b=some o:=λb o e=>hsb.extBut b o (be (az e)) (ay _ e);refine iE ?_;have tup1:IsTup h₁ t its.toArray:=by obtain⟨o,e,r⟩:=tup;exact⟨o,hk₁ _ _ e,r⟩
 have len:0<its.length:=(aj.mp hi).1;have hlt:=hns.lt;refine cu (d6 hk hgl (Calls.loadGlobal_global (hmod.keeps hk₁) hm ?_) hfd);refine dG (h₀:=base) hKb hkeep ?_ he rfl;refine args_cons (Subscript_ (iA (eu hk hloc hns (v:=.ref t) ?_ ?_) hyd)) he
 ·simp
 refine f7 ?_;refine dE (x:=wv) tup1.typeIs slot_tuple_getitem.lookup (getItem_tuple (j:=0) (Q:=λr s'=>r=wv/\_) tup1 (by decide) (by decide) ?_ (by simpa using hi) ⟨rfl,?_⟩) rfl
 ·rw[aw];unfold seqIndex?;have:(0:Int)<(its.length:Int):=by lia
  simp[this];exact λz=>by rw[z]at len;cases len
 ·obtain⟨o,es,ep,e,d,_⟩:=hns;refine args_nil ⟨kin h₁ hk₁,?_⟩;exact fO (h _ _ o es ep hk₁ e d hlt) (λ_ _ x=>x) λ_ _ x=>x.elim
end
end L2
namespace L3
open L2
section
variable {X:Cx}{pins:List (Addr×Obj)}{σ:L2.St}{H:Hp}{s:Shared}{G:Gx}{O:Addr->Bool}{A:Around}{pre:List PV->Prop}{F:List PV->PV}{j k:Nat}{fn:Str}{x:Str}
theorem LC {outer:List Env}{ch:List Addr}{fa:Addr}{fd:FuncData}{p:PV}{v:V}{u:Value}(FF:FnOk X.prog X.w X.K X.mg X.base CX0 j fa fd [x] (yu X.K G pre F))(hb:Binds X.K fd [x] [])(hr:Room j A)(e0:Env0 X.prog X.w X.K X.mg X.base A outer s H)(I:Inv X pins σ H s)
  (ho:∀b∈frs outer,b∈frs X.stack\/b∈ch) (hch:∀b∈ch,pq X pins b) (dom:∀a,O a=true->H a≠none) (at1:At X.K G (mn H O) p v) (rl:RelV v u) (hp:pre [p]) :
  wpAny (model X.prog X.w) A (call (.ref fa) [u]) (λk s'=>∃kv H',Inv X pins σ H' s'/\Same H H'/\RelV kv k/\At X.K G (mn H' O) (F [p]) kv) (λ_ _=>False) s:=by
 refine iB (f8 (FF.run A outer s H ⟨[u],[]⟩ [u] [v] (λkv H'=>Same H H'/\At X.K G (mn H' O) (F [p]) kv) (λ_ _ _=>False) hr e0 (hb s [u] I.kIn rfl) (.cons rl .nil) ⟨[p],O,dom,⟨v,[],rfl,at1,rfl⟩,hp,λkv H' a b=>⟨a,b⟩⟩) λr s' hq=>?_);cases r with
 |error e=>exact False.elim hq
 |ok fl=>
  cases fl with
  |ret u=>
   obtain⟨kv,H',os,bare,un,hok,r,q1,q2⟩:=hq;refine⟨kv,H',I.call' (ch:=ch) os ⟨λb o e n h1 h2=>un.keep b o e n (λz=>(ho b z).elim h1 h2) (by simp),λb o e n h1 h2=>?_,λb o e n _=>un.free b o e n (by simp),λb o e _=>un.there b o e (by simp),un.tups,un.frzs,un.tbls⟩ hok bare λb hb=>?_,q1,r,q2⟩
   ·exact un.any e n (by simp)
   ·have F:=hch b hb;exact⟨.inr F.big,F.loc,F.cel,F.pin⟩
  |next=>exact False.elim hq
  |brk=>exact False.elim hq
  |cont=>exact False.elim hq
end
structure aae (kf:PV->List Int)(ps:List PV):Prop where
 len:ps.length<64
 nd:(ps.map kf).Nodup
def Ob:PV->PV
 | .tup (x::_)=>x
 |_=>.non
section
variable {X:Cx}{G:Gx}{a:Expr}{pos p pk kp posL p1 p2 p3 pf pc:Pos}{Ca:En->Prop}{ga:En->PV}{i j k:Nat}{x y fn:Str}{params:Arguments}{scope:Scope}{pre:List PV->Prop}{F:List PV->PV}
theorem Ro (kf:PV->List Int)(o:Ok X.prog X.w X.K X.mg X.base j fn [x] (yu X.K G pre F))(hr:Room k X.A)(hm:X.mg "sorted"=none)(ha:PE X a (tX X.K G Ca ga))(hj:j+2<=k:=by decide)(hgf:Gl X fn:=by rfl)(hdb:(fn == ("__debug__":Str))=false:=by decide)(hg:Gl X "sorted":=by rfl)(he:starEach [a] X.env=[(false,eval a X.env)]:=by rfl) :
  PE X (.Call (.Name "sorted" p) [a] [⟨some "key",.Name fn pk,kp⟩] pos) (yL X.K G (λZ=>Ca Z/\ga Z=.lst (pN (ga Z))/\aae kf (pN (ga Z))/\∀q∈pN (ga Z),pre [q]/\F [q]=V1 (kf q)) λZ=>j6 kf (pN (ga Z))):=by
 intro pins s σ H Q I ⟨B,Z,O,R,c,q⟩;refine cu (ld_blt I hg hm yt ?_ (by decide) (by decide));refine eU (thn (pa_cons ha pa_nil he pos pins s σ H (λvs H'=>∃l xs,vs=[.ref l]/\Same H H'/\Rd (mn H' O) l (.lst xs)/\lX X.K G (mn H' O) (pN (ga Z)) xs) I ⟨B,Z,O,R,c.1,λv H1 s1 a1=>?_⟩) λus t1 h=>?_) (by rw[he];rfl) (by rw[he];rfl)
 ·rw[c.2.1]at a1;obtain⟨l,xs,rfl,r1,al⟩:=a1;exact⟨l,xs,rfl,s1,r1,al⟩
 obtain⟨vs,H1,I1,rv,l,xs,rfl,s1,rd,al⟩:=h;obtain⟨u,rfl,ru⟩:=vals1 rv;cases ru;obtain⟨_,_,PO,PF⟩:=c;have q:∀(a:Addr) (vs:List V) (H':Hp),Same H H' -> H a=none->H' a=some (HO.lst vs)->lX X.K G (mn H' (hide a O)) (j6 kf (pN (ga Z))) vs->Q (V.ref a) H':=q;generalize pN (ga Z)=ps at *
 obtain⟨fa,fd,FF,hb,hkp,hmg⟩:=o.ex;refine kws_cons (ld_glob I1 hgf hmg (kws_nil ?_) hdb);have hr2:Room (j+2) X.A:=hr.mono hj;have dom:∀a,O a=true->H1 a≠none:=(R.grow s1).dom;refine DN kf I1 (jy jQ rd) al PO.len PO.nd hr2.in1.in1.units (λx=>ksk_t1 _ _) (λpins' H2 s2 pp v u hp at1 rl I2 _ sm=>?_) λa vs H' sm n e alv=>q a vs H' (s1.trans sm) (s1.free n) e alv;obtain⟨g1,g2⟩:=PF pp hp;have:=LC (O:=O) (ch:=[]) FF hb hr2.in1.in1 I2.env0.in1.in1 I2 (λb z=>.inl z) (λb z=>absurd z (by simp)) (λa z y=>dom a z (sm.free y)) at1 rl g1;rw[g2]at this;exact this
theorem Q5 (kf:PV->List Int)(o:Ok X.prog X.w X.K X.mg X.base j fn [x] (yu X.K G pre F))(hl:PJ X.K X.env.code (X.env.qual++"<lambda>"))(hr:Room k X.A)(hm:X.mg "sorted"=none)(ha:PE X a (tX X.K G Ca ga))(hj:j+3<=k:=by decide)(hdb:(fn == ("__debug__":Str))=false:=by decide)(hg:Gl X "sorted":=by rfl)(he:starEach [a] X.env=[(false,eval a X.env)]:=by rfl)
  (hdef:defaultsOf params X.env=([],[]):=by rfl) (hcl:closureFor scope X.env=pure []:=by rfl)
  (hbind:∀(pm ctv:Value) (c' t:Addr),bindArgs (W.kla_fn "<lambda>" (X.env.qual++"<lambda>") params (.Call (.Name fn pf) [.Subscript (.Name y p1) (.Constant (.int 0) i p2) p3] [] pc) scope [] pm (.ref c') ctv) ⟨[.ref t],[]⟩=pure [(y,.ref t)]:=by intros;rfl)
  (hse:∀env:Env,starEach [.Subscript (.Name y p1) (.Constant (.int 0) i p2) p3] env=(false,eval (.Subscript (.Name y p1) (.Constant (.int 0) i p2) p3) env)::starEach [] env:=by intros;rfl)
  (hloc:scope.names.lookup y=some .local:=by rfl) (hnc:∀z∈scope.names,z.2 ≠ .cell:=by decide) (hk:scope.kind=.function:=by rfl) (hco:scope.isCoroutine=false:=by rfl) (hgen:scope.isGenerator=false:=by rfl) (hyd:(y == ("__debug__":Str))=false:=by decide) (hgl:scope.names.lookup fn=some .globalImplicit:=by rfl) :
  PE X (.Call (.Name "sorted" p) [a] [⟨some "key",.Lambda params (.Call (.Name fn pf) [.Subscript (.Name y p1) (.Constant (.int 0) i p2) p3] [] pc) scope posL,kp⟩] pos) (yL X.K G (λZ=>Ca Z/\ga Z=.lst (pN (ga Z))/\aae kf (pN (ga Z))/\∀q∈pN (ga Z),(∃r,q=.tup (Ob q::r))/\pre [Ob q]/\F [Ob q]=V1 (kf q)) λZ=>j6 kf (pN (ga Z))):=by
 intro pins s σ H Q I ⟨B,Z,O,R,c,q⟩;refine cu (ld_blt I hg hm yt ?_ (by decide) (by decide));refine eU (thn (pa_cons ha pa_nil he pos pins s σ H (λvs H'=>∃l xs,vs=[.ref l]/\Same H H'/\Rd (mn H' O) l (.lst xs)/\lX X.K G (mn H' O) (pN (ga Z)) xs) I ⟨B,Z,O,R,c.1,λv H1 s1 a1=>?_⟩) λus t1 h=>?_) (by rw[he];rfl) (by rw[he];rfl)
 ·rw[c.2.1]at a1;obtain⟨l,xs,rfl,r1,al⟩:=a1;exact⟨l,xs,rfl,s1,r1,al⟩
 obtain⟨vs,H1,I1,rv,l,xs,rfl,s1,rd,al⟩:=h;obtain⟨u,rfl,ru⟩:=vals1 rv;cases ru;obtain⟨cc,P,hcode,hx⟩:=hl;obtain⟨_,_,PO,PF⟩:=c;have q:∀(a:Addr) (vs:List V) (H':Hp),Same H H' -> H a=none->H' a=some (HO.lst vs)->lX X.K G (mn H' (hide a O)) (j6 kf (pN (ga Z))) vs->Q (V.ref a) H':=q;generalize pN (ga Z)=ps at *
 obtain⟨fa,fd,FF,hb,hkp,hmg⟩:=o.ex;refine kws_cons (Hi I1 hcode hx rfl hdef hcl _ λf c' ctv H2 t2 I2 kp2 tb2 hf fn0 fz os fnew=>kws_nil ?_);have s2:Same H1 H2:=λb o e=>by cases o<;>first|exact kp2 b _ e (λt z=>by cases z)|(obtain⟨ps',z⟩:=tb2 b _ e;exact⟨ps',z⟩)
 have hr2:Room (j+3) X.A:=hr.mono hj;have dom:∀a,O a=true->H2 a≠none:=λa z y=>(R.grow s1).dom a z (s2.free y);have fF:=pq.of I1 fnew;have Ip:=FW I2 hf fn0 fF.loc fF.fs λv z=>by cases z
 obtain⟨oc,fu,fz1,fz2⟩:=fz;refine fO (DN (Q:=Q) kf Ip (jy (jQ.trans s2) rd) (lX.mono (kY s2) _ _ al) PO.len PO.nd (hr2.mono (by lia:j+2<=j+3)).in1.in1.units (λx=>ksk_t1 _ _) (λpins' H3 s3 pp v u hp at1 rl I3 ip sm=>?_) λa vs H' sm n e alv=>q a vs H' ((s1.trans s2).trans sm) ((s1.trans s2).free n) e alv) (λr s' h=>?_) λ_ _ z=>z
 ·obtain⟨⟨rr,er⟩,g1,g2⟩:=PF pp hp;rw[er]at at1;obtain⟨t,us,rfl,ht,ux,ur,rfl,ax,au⟩:=at1;cases rl;obtain⟨_,its2,r2,tup⟩:=I3.hok t _ (tH ht).2;cases r2 with
  |cons q0 q1=>
   have hf3:=(I3.pin (f,_) (aM _ (ip _ ag))).1;have hc3:H3 c'=some (.frz oc fu):=by have:=sm c' _ fz1;exact this
   have A1:Room (j+1) X.A.in1.in1:=hr2.in1.in1;refine Px (mg:=X.mg) (K:=X.K) (base:=X.base) hf3 (Bq.rec (I3.hok c' _ hc3).1 fz2) A1.depth (I3.ok.mod.nolimit.keeps I3.bk) (hbind _ _ _ _) hloc hnc hk hco hgen hyd hgl hdb (I3.mod.glob.keeps I3.bk) hmg I3.mod.kin hkp (hse _) tup rfl (λh' kk=>λb o e=>kk b o (I3.kIn b o e)) λh' tk o es ep kk eL dL lt=>?_;have I4:=I3.kept (h':=h') (t':=tk) kk;have fL:=pq.of I3 (ai s3.heap.objs.size);have HL:H3 s3.heap.objs.size=none:=I3.hok.fresh (ai _);have bL:X.base.get? s3.heap.objs.size=none:=Heap.get?_none_of_le (aC I3.env0.bsz (ai _));have e0:=I4.env0.in1.in1;have:=LC (O:=O) (ch:=[s3.heap.objs.size]) (outer:=W.envX (X.env.qual++"<lambda>") scope s3.heap.objs.size f (.ref c') []::X.stack) (A:=X.A.in1.in1.deeper (W.envX (X.env.qual++"<lambda>") scope s3.heap.objs.size f (.ref c') [])) FF hb (A1.deeper _)
    ⟨by
     show Option.map _ X.A.in1.in1.frames=_;rw[e0.frames];rfl,e0.mod,e0.bs,e0.bsz,⟨(λz=>nomatch hk.symm.trans (show scope.kind=.module from z)),⟨s3.heap.objs.size,o,rfl,bL,eL,λvs z=>by rw[dL]at z;cases z⟩,e0.funs⟩,⟨λb hb=>(aB.mp hb).elim (λz=>by rw[z];exact HL) λz=>e0.frf.f b z,e0.frf.t⟩,e0.hok,e0.bare⟩
    I4 (λb z=>(aB.mp z).elim (λz=>.inr (by rw[z];exact bp.mpr rfl)) λz=>.inl z) (λb z=>by rw[bp.mp z];exact fL) (λa z y=>dom a z (sm.free y)) ax q0 g1
   rw[g2]at this;exact this
 ·obtain⟨v,H',I',rv,qv⟩:=h;exact⟨v,H',(xW I').1,rv,qv⟩
end
section
variable {K:Fg}{G:Gx}{σ:L2.St}{H:Hp}{Q:VK}{Cs Ct Cb:En->Prop}{pt:En->Prop}[∀Z,Decidable (pt Z)]{gn:En->Int}{gp:En->PV}{cap:List (Option Nat)}
theorem aaR (h:yL K G (λZ=>Cs Z/\(0<=gn Z/\gn Z<=10000)/\∀k:Nat,k<(gn Z).toNat->Ct ((jH (none::cap) Z).set 0 (.fr (.int k)))/\(pt ((jH (none::cap) Z).set 0 (.fr (.int k)))->Cb ((jH (none::cap) Z).set 0 (.fr (.int k)))))
   (λZ=>((List.range (gn Z).toNat).filter λ(k:Nat)=>decide (pt ((jH (none::cap) Z).set 0 (.fr (.int k))))).map λ(k:Nat)=>gp ((jH (none::cap) Z).set 0 (.fr (.int k)))) σ H Q) :
  Qt (none::cap) (iRng1 (tCons (lY K G Cs gn) tNil)) (gName 0) (vy K G Ct pt) (tX K G Cb gp) σ H Q:=by
 obtain⟨B,Z,O,R,⟨c1,c2,c3⟩,q⟩:=h;refine⟨B,Z,O,R,c1,λv H1 s1 a1=>?_⟩;subst a1;have hz:(List.range (gn Z).toNat).length=(gn Z).toNat:=aq;refine⟨gn Z,rfl,by lia,by lia,λD hD=>?_⟩;refine Hv (List.range (gn Z).toNat) (λ_ v=>(pF (none::cap) σ).set 0 (some v)) (λ(k:Nat)=>(jH (none::cap) Z).set 0 (.fr (.int k))) (λ(k:Nat)=>.int k) (R.grow s1) hD (by rw[hz];lia) (λi H hi s=>by rw[hz]at hi;exact hi) ?_ (λH s=>by rw[hz];exact ai _) (λk H _ s R'=>R'.set (p:=.int k) rfl) ?_ (λk hk=>(c3 k (aW.mp hk)).1) (λk hk=>(c3 k (aW.mp hk)).2) ?_
 ·rintro i k x H H' en s ⟨rfl,rfl⟩;have hlt:i<(gn Z).toNat:=by have:=(aj.mp en).1;rw[hz]at this;exact this
  rw[b8 hlt]at en;cases en;refine⟨Same.refl _,λkk hk=>?_⟩;have e:(0:Int)+(i:Nat)=i:=by lia
  rw[e];exact hk
 ·intro k;exact mU _
 ·intro H' ys s hd al;exact q D ys H' (s1.trans s) (s1.free hD) hd al
end
section
variable {X:Cx}{G:Gx}{N':List Str}{sc:Scope}{cl:List (Str×Addr)}{cap:List (Option Nat)}{el tg src tst:Expr}{at' p pos':Pos}{Cs Ct Cb:En->Prop}{pt:En->Prop}[∀Z,Decidable (pt Z)]{gn:En->Int}{gi:En->Int}
theorem Wu (L:u6 X N' sc cl (none::cap))(hc:X.calm=true)(hgl:Gl X "range")(hm:X.mg "range"=none)(hi:PE X src (lY X.K G Cs gn))(hg:∀s H fp,PG (jE X N' sc cl s H fp) tg (gName 0))(ht:∀s H fp,PT (jE X N' sc cl s H fp) tst (vy X.K G Ct pt))(he:∀s H fp,PE (jE X N' sc cl s H fp) el (lY X.K G Cb gi))
  (hst:starEach [src] X.env=[(false,eval src X.env)]:=by rfl) (hs:∀x,foldedSetIterable (.Call (.Name "range" p) [src] [] pos') X.env x=pure x:=by intro _;rfl) :
  PE X (.ListComp el [⟨tg,.Call (.Name "range" p) [src] [] pos',[tst],0⟩] sc at') (Ef X.K G (λZ=>Cs Z/\(0<=gn Z/\gn Z<=10000)/\∀k:Nat,k<(gn Z).toNat->Ct ((jH (none::cap) Z).set 0 (.fr (.int k)))/\(pt ((jH (none::cap) Z).set 0 (.fr (.int k)))->Cb ((jH (none::cap) Z).set 0 (.fr (.int k)))))
   λZ=>((List.range (gn Z).toNat).filter λ(k:Nat)=>decide (pt ((jH (none::cap) Z).set 0 (.fr (.int k))))).map λ(k:Nat)=>gi ((jH (none::cap) Z).set 0 (.fr (.int k)))):=
 λpins s σ H Q I h=>yD L hc (pi_range1 hgl hm (pa_cons hi pa_nil hst) hst) hg (λs H fp=>Nr (ht s H fp)) he hs pins s σ H Q I (aaR (Gs h))
end
theorem Dz:¬(some NameKind.cell:Option NameKind)=some NameKind.local:=nofun
theorem o7 {N ps:Ls}{sc:Scope}(a:sc.kind=.function:=by rfl)(b:sc.isCoroutine=false:=by rfl)(c:sc.isGenerator=false:=by rfl)(d:N.Nodup:=by decide +kernel)(e:N.take ps.length=ps:=by rfl)(f:∀x∈ps,sc.names.lookup x=some .local\/sc.names.lookup x=some .cell:=by decide +kernel)(g:∀y∈sc.names,y.2 ≠ .free:=by decide +kernel):FnScope N ps sc:=⟨a,b,c,d,e,f,g⟩
theorem pZ (i:Nat){X:Cx}{x:Str}{pos:Pos}(hN:X.N.Nodup:=by(dsimp only[jE];decide +kernel))(hi:X.N[i]?=some x:=by rfl)(hx:Loc X.env.scope x:=by exact Or.inl rfl)(hf:X.fn x=true\/X.env.scope.names.lookup x=some .local:=by exact .inr rfl):PG X (.Name x pos) (gName i):=pg_name hN hi hx hf
end L3
end
namespace lE
open PySem L2 L3 PyProof.Rows FM
abbrev vm:Stmt:=top 7
theorem BZ:FnScope ["numbers"] ["numbers"] (defScope vm):=o7
abbrev Dr:Stmt:=top 8
theorem Ag:FnScope ["kind","f","numbers"] ["kind","f"] (defScope Dr):=o7
abbrev RV:Stmt:=top 9
theorem zH:FnScope ["kind","f","g","sums","at","number"] ["kind","f","g"] (defScope RV):=o7
abbrev Rn:Stmt:=top 10
theorem U4:FnScope ["kind","f","g"] ["kind","f","g"] (defScope Rn):=o7
abbrev Lr:Stmt:=top 11
theorem pW:FnScope ["kind","f","g","ones","others","sums","at","one","behind","other"] ["kind","f","g"] (defScope Lr):=o7
abbrev Ie:Stmt:=top 12
theorem Pn:FnScope ["kind","f","number"] ["kind","f","number"] (defScope Ie):=o7
abbrev M4:Stmt:=top 13
theorem Ux:FnScope ["kind","f"] ["kind","f"] (defScope M4):=o7
abbrev DQ:Stmt:=top 14
theorem nj:FnScope ["kind","f","g","rest","divisor","quotient","gap","often","at","number"] ["kind","f","g"] (defScope DQ):=o7
abbrev Mr:Stmt:=top 15
theorem uA:FnScope ["kind","f","number","place","total","one"] ["kind","f","number"] (defScope Mr):=o7
abbrev HN:Stmt:=top 17
theorem qC:FnScope ["kind","f","g","before","rest","behind"] ["kind","f","g"] (defScope HN):=o7
abbrev tM:Stmt:=top 18
theorem yh:FnScope ["kind","f"] ["kind","f"] (defScope tM):=o7
abbrev vz:Stmt:=top 19
theorem zW:FnScope ["kind","f"] ["kind","f"] (defScope vz):=o7
abbrev Ar:Stmt:=top 21
theorem Ij:FnScope ["kind","one","other","g"] ["kind","one","other","g"] (defScope Ar):=o7
abbrev HH:Stmt:=top 22
theorem pH:FnScope ["kind","f","many","g","product","square","left"] ["kind","f","many","g"] (defScope HH):=o7
abbrev wW:Stmt:=top 23
theorem mX:FnScope ["kind","f","count","g","degree","rest","rows","step"] ["kind","f","count","g"] (defScope wW):=o7
abbrev zX:Stmt:=top 24
theorem yE:FnScope ["kind","g","degree"] ["kind","g"] (defScope zX):=o7
abbrev xO:Stmt:=top 26
theorem kO:FnScope ["kind","f","left","pairs","factor","found","g","often"] ["kind","f"] (defScope xO):=o7
abbrev tL:Stmt:=top 27
theorem jO:FnScope ["kind","f","deeper","layer","pairs","often","next_layer","g"] ["kind","f"] (defScope tL):=o7
abbrev wI:Stmt:=top 29
theorem CN:FnScope ["length"] ["length"] (defScope wI):=o7
abbrev Bg:Stmt:=top 30
theorem yG:FnScope ["at","length","row"] ["at","length"] (defScope Bg):=o7
abbrev Eb:Stmt:=top 31
theorem qK:FnScope ["kind","rows","width","wide","turn","back"] ["kind","rows"] (defScope Eb):=o7
abbrev oY:Stmt:=top 32
theorem jD:FnScope ["kind","rows","width","units","table","done","at","found"] ["kind","rows","width"] (defScope oY):=o7
abbrev yJ:Stmt:=top 33
theorem Gw:FnScope ["kind","row"] ["kind","row"] (defScope yJ):=o7
abbrev qF:Stmt:=top 34
theorem qd:FnScope ["rows","at","done","place"] ["rows","at","done"] (defScope qF):=o7
abbrev rN:Stmt:=top 35
theorem wJ:FnScope ["rows","found","done"] ["rows","found","done"] (defScope rN):=o7
abbrev pA:Stmt:=top 36
theorem mJ:FnScope ["kind","rows","at","done","factor","first"] ["kind","rows","at","done"] (defScope pA):=o7
abbrev vq:Stmt:=top 37
theorem zZ:FnScope ["kind","row","at","first"] ["kind","row","at","first"] (defScope vq):=o7
abbrev JC:Stmt:=top 38
theorem Dy:FnScope ["kind","rows","told"] ["kind","rows"] (defScope JC):=o7
abbrev yM:Stmt:=top 40
theorem Gp:FnScope ["g"] ["g"] (defScope yM):=o7
abbrev qg:Stmt:=top 41
theorem t6:FnScope ["kind","g"] ["kind","g"] (defScope qg):=o7
abbrev uy:Stmt:=top 42
theorem zc:FnScope ["kind","row","at"] ["kind","row","at"] (defScope uy):=o7
abbrev s_split:Stmt:=top 43
theorem uv:FnScope ["kind","g","pieces","staying","h"] ["kind","g"] (defScope s_split):=o7
abbrev qL:Stmt:=top 44
theorem qb:FnScope ["kind","h","count","g","relation"] ["kind","h","count","g"] (defScope qL):=o7
abbrev wX:Stmt:=top 45
theorem nU:FnScope ["kind","pieces","h","numbers","finer","piece","number","shared"] ["kind","pieces","h","numbers"] (defScope wX):=o7
abbrev Lq:Stmt:=top 46
theorem uB:FnScope ["kind","f","pairs","free","often","g"] ["kind","f"] (defScope Lq):=o7
abbrev zQ:Stmt:=top 49
theorem uw:FnScope ["number","divisor"] ["number"] (defScope zQ):=o7
abbrev Hl:Stmt:=top 50
theorem lQ:FnScope ["number","size","before","rest","share_before","share","often","rest_behind","share_behind"] ["number","size"] (defScope Hl):=o7
abbrev q8:Stmt:=top 51
theorem vQ:FnScope ["number"] ["number"] (defScope q8):=o7
abbrev DG:Stmt:=top 55
theorem J4:FnScope ["_law_script","_law_k"] ["_law_script","_law_k"] (defScope DG):=o7
abbrev Rx:Stmt:=top 56
theorem Ml:FnScope ["_law_script","_law_number"] ["_law_script"] (defScope Rx):=o7
abbrev S6:Stmt:=top 57
theorem MJ:FnScope ["_law_row","_law_size"] ["_law_row","_law_size"] (defScope S6):=o7
abbrev LK:Stmt:=top 58
theorem Q4:FnScope ["_law_found"] ["_law_found"] (defScope LK):=o7
abbrev Mv:Stmt:=top 59
theorem Jd:FnScope ["_law_found","_law_due","_law_k"] ["_law_found","_law_due"] (defScope Mv):=o7
abbrev vA:Stmt:=top 60
theorem qJ:FnScope ["_law_cell","_law_number"] ["_law_cell"] (defScope vA):=o7
abbrev yP:Stmt:=top 61
theorem qm:FnScope ["_law_f","_law_g","_law_size","_law_row","_law_i","_law_k"] ["_law_f","_law_g","_law_size"] (defScope yP):=o7
abbrev Oi:Stmt:=top 62
theorem ut:FnScope ["_law_cell","_law_prime","_law_number","_law_row","_law_k"] ["_law_cell","_law_prime"] (defScope Oi):=o7
abbrev Dt:Stmt:=top 63
theorem qM:FnScope ["_law_cells","_law_prime","_law_most","_law_made","_law_cell","_law_piece_here"] ["_law_cells","_law_prime","_law_most"] (defScope Dt):=o7
abbrev vG:Stmt:=top 64
theorem uI:FnScope ["_law_found","_law_due","_law_k"] ["_law_found","_law_due"] (defScope vG):=o7
abbrev t8:Stmt:=top 65
theorem p7:FnScope ["_law_found","_law_pair","_law_number"] ["_law_found"] (defScope t8):=o7
abbrev Hy:Stmt:=top 66
theorem Du:FnScope ["_law_one","_law_other","_law_k"] ["_law_one","_law_other"] (defScope Hy):=o7
abbrev Tt:Stmt:=top 67
theorem uO:FnScope ["_law_ones","_law_others","_law_made","_law_row","_law_often","_law_at"] ["_law_ones","_law_others"] (defScope Tt):=o7
abbrev Nk:Stmt:=top 68
theorem QD:FnScope ["_law_number","_law_size"] ["_law_number","_law_size"] (defScope Nk):=o7
abbrev Ec:Stmt:=top 69
theorem p8:FnScope ["_law_script","_law_head_here","_law_prime","_law_kind","_law_most","_law_one","_law_other","_law_made","_law_found","_law_k","_law_row"] ["_law_script"] (defScope Ec):=o7
abbrev yI:Stmt:=inClass (top 52) 0
theorem Fq:FnScope ["self","size"] ["self","size"] (defScope yI):=o7
abbrev xf:Stmt:=inClass (top 52) 1
theorem Cr:FnScope ["self","number"] ["self","number"] (defScope xf):=o7
abbrev yO:Stmt:=inClass (top 52) 3
theorem GF:FnScope ["self","a","b"] ["self","a","b"] (defScope yO):=o7
abbrev yH:Stmt:=inClass (top 52) 5
theorem Fl:FnScope ["self","a","b"] ["self","a","b"] (defScope yH):=o7
abbrev wH:Stmt:=inClass (top 53) 0
theorem Cv:FnScope ["self","prime"] ["self","prime"] (defScope wH):=o7
structure Top (K:Fg)(mg:Mg)(cNO:Addr)(cK:Addr)(cR:Addr):Prop where
 CQ:nQ K mg "cut_noughts" vm ["numbers"]
 O4:nQ K mg "trimmed" Dr ["kind","f"]
 Ye:nQ K mg "plus" RV ["kind","f","g"]
 Ym:nQ K mg "less" Rn ["kind","f","g"]
 Vm:nQ K mg "times" Lr ["kind","f","g"]
 T3:nQ K mg "scaled" Ie ["kind","f","number"]
 Vx:nQ K mg "slope" M4 ["kind","f"]
 O6:nQ K mg "divided" DQ ["kind","f","g"]
 Vg:nQ K mg "value" Mr ["kind","f","number"]
 Rg:nQ K mg "common" HN ["kind","f","g"]
 yW:nQ K mg "with_lead_one" tM ["kind","f"]
 Cu:nQ K mg "turned_lead" vz ["kind","f"]
 KJ:nQ K mg "times_by" Ar ["kind","one","other","g"]
 Ri:nQ K mg "raised" HH ["kind","f","many","g"]
 Eh:nQ K mg "power_rows" wW ["kind","f","count","g"]
 Ke:nQ K mg "powering" zX ["kind","g"]
 FZ:nQ K mg "free_parts" xO ["kind","f"]
 yZ:nQ K mg "seen_by_slope" tL ["kind","f"]
 Gj:nQ K mg "unit_table" wI ["length"]
 Le:nQ K mg "unit_row" Bg ["at","length"]
 PN:nQ K mg "echelon" Eb ["kind","rows"]
 sY:nQ K mg "cleared_beside_units" oY ["kind","rows","width"]
 JK:nQ K mg "plain_row" yJ ["kind","row"]
 vY:nQ K mg "first_not_nought" qF ["rows","at","done"]
 yz:nQ K mg "with_row_moved" rN ["rows","found","done"]
 tY:nQ K mg "with_column_cleared" pA ["kind","rows","at","done"]
 CG:nQ K mg "row_without" vq ["kind","row","at","first"]
 T5:nQ K mg "kernel" JC ["kind","rows"]
 HQ:nQ K mg "order_key" yM ["g"]
 vh:nQ K mg "powering_less_one" qg ["kind","g"]
 Bx:nQ K mg "row_less_one" uy ["kind","row","at"]
 Wd:nQ K mg "split" s_split ["kind","g"]
 vM:nQ K mg "possible_numbers" qL ["kind","h","count","g"]
 Gg:nQ K mg "told_apart" wX ["kind","pieces","h","numbers"]
 Va:nQ K mg "parts" Lq ["kind","f"]
 JP:nQ K mg "is_prime" zQ ["number"]
 RW:nQ K mg "turned" Hl ["number","size"]
 xQ:nQ K mg "refuse_no_prime" q8 ["number"]
 O9:nQ K mg "_law_cell_at" DG ["_law_script","_law_k"]
 Yp:nQ K mg "_law_head" Rx ["_law_script"]
 XQ:nQ K mg "_law_trim" S6 ["_law_row","_law_size"]
 U3:nQ K mg "_law_whole" LK ["_law_found"]
 V2:nQ K mg "_law_alike" Mv ["_law_found","_law_due"]
 Cq:nQ K mg "_law_small_prime" vA ["_law_cell"]
 HW:nQ K mg "_law_times" yP ["_law_f","_law_g","_law_size"]
 Wv:nQ K mg "_law_piece" Oi ["_law_cell","_law_prime"]
 PP:nQ K mg "_law_product" Dt ["_law_cells","_law_prime","_law_most"]
 CP:nQ K mg "_law_pairs_alike" vG ["_law_found","_law_due"]
 Ak:nQ K mg "_law_pairs_shaped" t8 ["_law_found"]
 TY:nQ K mg "_law_before" Hy ["_law_one","_law_other"]
 Yj:nQ K mg "_law_laid" Tt ["_law_ones","_law_others"]
 VJ:nQ K mg "_law_plain" Nk ["_law_number","_law_size"]
 G4:Fj K mg "free_parts"
 Xc:Fj K mg "parts"
 jM:mg "len"=none
 oV:mg "range"=none
 lC:mg "isinstance"=none
 Zk:mg "bool"=none
 Xn:mg "int"=none
 rH:mg "list"=none
 aby:mg "max"=none
 abP:mg "min"=none
 mF:mg "enumerate"=none
 G6:mg "tuple"=none
 Am:mg "sorted"=none
 Ks:mg "reversed"=none
 abz:mg "sum"=none
 Tn:mg "zip"=none
 za:∃tk,mg "LARGEST_PRIME"=some (.int 9973 tk)
 Dq:W.kitOne K (.type "int") (.type "int")=some true
 z6:W.kitOne K (.type "int") (.type "bool")=some false
 mH:W.kitOne K (.type "list") (.type "list")=some true
 nY:W.kitOne K (.type "tuple") (.type "tuple")=some true
 Hz:mg "NoOver"=some (.ref cNO)
 RG:KN K cNO
 T6:mg "Kind"=some (.ref cK)
 N7:mg "Rests"=some (.ref cR)
 qN:Cls K cR
 pK:NoAttr K cR "size"
 Hg:∃f fd,Fun K "__init__" "Kind.__init__" yI f fd/\Binds K fd ["self","size"] []/\Ms K cK "__init__" f
 Ek:∃f fd,Fun K "plain" "Kind.plain" xf f fd/\Binds K fd ["self","number"] []/\Meth K cR "plain" f
 Im:∃f fd,Fun K "less" "Kind.less" yO f fd/\Binds K fd ["self","a","b"] []/\Meth K cR "less" f
 Jo:∃f fd,Fun K "over" "Kind.over" yH f fd/\Binds K fd ["self","a","b"] []/\Meth K cR "over" f
 Gf:∃f fd,Fun K "__init__" "Rests.__init__" wH f fd/\Binds K fd ["self","prime"] []/\Mk K cR f
section
variable {w:World}{K:Fg}{h:Heap}{mg:Mg}{fa f C:Addr}{od an:Option Addr}{sl:Array (Option Value)}{oc kV dc pm cd ct:Value}{x q:Str}{st:Stmt}{ps:List Str}{cNO:Addr}{cK:Addr}{cR:Addr}
theorem aar (X:K.In h)(G:h.Ns mainGlobals mg)(a:W.nsIn K mainGlobals x=some (some (.ref f)))(l:K.lookup f=some ⟨oc,od,.func (W.fnOf x x (defArgs st) (defBody st) (defScope st) .none kV dc pm an cd ct),sl⟩)(c:W.codeIn K cd x=true)(k:W.keepIn K (.ref f)=true)(b:∀(kV dc pm:Value) (an:Option Addr) (cd ct:Value) (us:Lv),us.length=ps.length->bindArgs (W.fnOf x x (defArgs st) (defBody st) (defScope st) .none kV dc pm an cd ct) ⟨us,[]⟩=pure (ps.zip us)):nQ K mg x st ps:=.mk' (fun_mk l c k) ((fun_mk l c k).binds b) (dX X G a)
theorem Z9 {ar:Arguments}{bo:List Stmt}{sc:Scope}{dv:Value}(X:K.In h)(G:h.Ns mainGlobals mg)(a:W.nsIn K mainGlobals x=some (some (.ref f)))(l:K.lookup f=some ⟨oc,od,.func (W.fnOf x x ar bo sc dv kV dc pm an cd ct),sl⟩)(c:K8 K cd (x++".<locals>."++"<lambda>")=true):Fj K mg x:=⟨f,oc,od,_,sl,dX X G a,l,Ph c⟩
theorem aaJ {v:Int}{tk:Tok}(X:K.In h)(G:h.Ns mainGlobals mg)(a:W.nsIn K mainGlobals x=some (some (.int v tk))):∃tk,mg x=some (.int v tk):=⟨_,dX X G a⟩
theorem Zj {C0:Addr}(g0:W.findIn K (.ref C0) x=some (some (.ref f)))(l:K.lookup f=some ⟨oc,od,.func (W.fnOf x q (defArgs st) (defBody st) (defScope st) .none kV dc pm an cd ct),sl⟩)(c:W.codeIn K cd q=true)(k:W.keepIn K (.ref f)=true)(n:W.isFn K (.ref f)=true)(b:∀(kV dc pm:Value) (an:Option Addr) (cd ct:Value) (us:Lv),us.length=ps.length->bindArgs (W.fnOf x q (defArgs st) (defBody st) (defScope st) .none kV dc pm an cd ct) ⟨us,[]⟩=pure (ps.zip us)):∃f fd,Fun K x q st f fd/\Binds K fd ps []/\Meth K C0 x f:=⟨_,_,fun_mk l c k,(fun_mk l c k).binds b,⟨g0,n,k⟩⟩
theorem aaA (g:W.findIn K (.ref C) "__init__"=some (some (.ref f)))(l:K.lookup f=some ⟨oc,od,.func (W.fnOf x q (defArgs st) (defBody st) (defScope st) .none kV dc pm an cd ct),sl⟩)(c:W.codeIn K cd q=true)(k:W.keepIn K (.ref f)=true)(m:W.makesIn K C=true)(n:W.isFn K (.ref f)=true)(kc:W.keepIn K (.ref C)=true)(b:∀(kV dc pm:Value) (an:Option Addr) (cd ct:Value) (us:Lv),us.length=ps.length->bindArgs (W.fnOf x q (defArgs st) (defBody st) (defScope st) .none kV dc pm an cd ct) ⟨us,[]⟩=pure (ps.zip us)):∃f fd,Fun K x q st f fd/\Binds K fd ps []/\Mk K C f:=⟨_,_,fun_mk l c k,(fun_mk l c k).binds b,m,g,n,kc⟩
theorem aai (g:W.findCls K (.ref C) (.type "type") "__init__"=some (.val (.ref f)))(l:K.lookup f=some ⟨oc,od,.func (W.fnOf x q (defArgs st) (defBody st) (defScope st) .none kV dc pm an cd ct),sl⟩)(c:W.codeIn K cd q=true)(k:W.keepIn K (.ref f)=true)(m:W.specialIn K (.ref C) "__getattribute__"=some (some (.builtin "type.__getattribute__")))(n:W.readsIn K C (.type "type")=true)(b:∀(kV dc pm:Value) (an:Option Addr) (cd ct:Value) (us:Lv),us.length=ps.length->bindArgs (W.fnOf x q (defArgs st) (defBody st) (defScope st) .none kV dc pm an cd ct) ⟨us,[]⟩=pure (ps.zip us)):∃f fd,Fun K x q st f fd/\Binds K fd ps []/\Ms K C "__init__" f:=⟨_,_,fun_mk l c k,(fun_mk l c k).binds b,m,n,g,k⟩
theorem Z7 (h:W.findIn K (.ref C) x=some none):NoAttr K C x:=h
theorem aao (h:W.excIn K C bmV "ValueError.__new__"=true):KN K C:=h
def AMk:Prop:=∀{P:Program} {w:World} {K:Fg} {mg:Mg} {base:Heap} {cNO:Addr} {cK:Addr} {cR:Addr},Top K mg cNO cK cR->∀{f:Addr} {fd:FuncData},Fun K "law" "law" Ec f fd->FnOk P w K mg base CX0 14 f fd ["_law_script"] (yc K)
theorem am {r:W.OpenLaw}(AM:AMk)(X:K.In h)(G:h.Ns mainGlobals mg)(hfa:mg "law"=some (.ref fa))(T:Top K mg cNO cK cR)(a:W.nsIn K mainGlobals "law"=some (some (.ref f)))(l:K.lookup f=some ⟨oc,od,.func (W.fnOf "law" "law" (defArgs Ec) (defBody Ec) (defScope Ec) .none kV dc pm an cd ct),sl⟩)(c:W.codeIn K cd "law"=true)(k:W.keepIn K (.ref f)=true):∃fd:FuncData,(∀(s:Shared) (v:Value),BindsTo s fd ⟨[v],[]⟩ [("_law_script",v)])/\∀base:Heap,K.In base->base.Ns mainGlobals mg->FnOk r.prog w K mg base CX0 14 fa fd ["_law_script"] (yc K):=by have e:=hfa.symm.trans (dX X G a);cases e;exact⟨_,λs v=>.of_eq rfl,λbase _ _=>AM T (fun_mk l c k)⟩
end
theorem walk {l:W.OpenLaw}{q:Program}{loose:Ls}{XP:(Str->Option Value)->Heap->Prop}{YP:World->Heap->Prop}{d:DefRec}{K:Params->Fg}(hn:l.most=some 63)(hdf:d.params.defaults=[])
  (hY:∀(w:World) (h:Heap),YP w h->(K w.params).In h) (hL:∀(w:World) (h:Heap),YP w h->Jw (K w.params) h)
  (F:∀(w:World) (mg:Mg) (fa:Addr) (h:Heap),(K w.params).In h->h.Ns mainGlobals mg->mg d.name=some (.ref fa) ->
   ∃fd:FuncData,(∀(s:Shared) (u:Value),BindsTo s fd ⟨[u],[]⟩ [("_law_script",u)])/\∀base:Heap,(K w.params).In base->base.Ns mainGlobals mg->FnOk l.prog w (K w.params) mg base CX0 14 fa fd ["_law_script"] (yc (K w.params))) :
  W.WalkO q loose XP YP l.row.toRowW d [] (λf vs=>PySem.call f vs):=
 L2.UG (n:=63) (k:=14) (x:="_law_script") (CX:=λ_=>CX0) (sp:=λw=>yc (K w.params)) hn (by decide) hdf ⟨rfl,by decide,by decide⟩ hY F hL (λ_ _ a ns hl hb hS=>⟨a,ns,rfl,hS,hl,hb,λ_=>rfl⟩) λ_ _ _ _ _ z=>z
end lE
section
local macro_rules | `(tactic| o_head $H) => `(tactic| (refine PySem.W.holds_open (q := lE.view) (loose := []) (Xt := fun s => PySem.W.xlAt lE.view [] s && PySem.W.recOk (PySem.W.RowW.records PySem.Challenge.rw_factorforge_k46_whole_laid_together.row.toRowW) s) (XP := PySem.W.XL lE.view []) (Yf := PySem.W.Hook.obs $H) (Ya := PySem.W.Hook.val $H) (YP := PySem.W.Hook.says $H) (N := 20000) ?hl (PySem.W.Hook.of $H) (PySem.W.Hook.keeps $H) (fun s e => PySem.W.xl_of s (Bool.and_eq_true_iff.mp e).1) PySem.W.XL.keeps (by rfl) (by rfl) (by rfl) (fun s e => PySem.W.recFacts_of (Bool.and_eq_true_iff.mp e).2) (by rfl) (by first | assumption | decide +kernel) (by decide +kernel) ⟨rfl, rfl, rfl, rfl, rfl, by decide +kernel⟩ ?hw ?hc; (case hl => (intro w; exact lE.fin w (by kernel_rfl)))))
theorem bnd1 {Q:List PySem.Value->Prop}(h:∀a,Q [a]):∀us:List PySem.Value,us.length=1->Q us:=λus hl=>match us,hl with|[a],_=>h a
theorem bnd2 {Q:List PySem.Value->Prop}(h:∀a b,Q [a,b]):∀us:List PySem.Value,us.length=2->Q us:=λus hl=>match us,hl with|[a,b],_=>h a b
theorem bnd3 {Q:List PySem.Value->Prop}(h:∀a b c,Q [a,b,c]):∀us:List PySem.Value,us.length=3->Q us:=λus hl=>match us,hl with|[a,b,c],_=>h a b c
theorem bnd4 {Q:List PySem.Value->Prop}(h:∀a b c d,Q [a,b,c,d]):∀us:List PySem.Value,us.length=4->Q us:=λus hl=>match us,hl with|[a,b,c,d],_=>h a b c d
local macro_rules | `(tactic| walk_at "bnd") => `(tactic| (first | exact fun _ _ _ _ _ _ => bnd1 fun _ => rfl | exact fun _ _ _ _ _ _ => bnd2 fun _ _ => rfl | exact fun _ _ _ _ _ _ => bnd3 fun _ _ _ => rfl | exact fun _ _ _ _ _ _ => bnd4 fun _ _ _ _ => rfl))
open PySem PySem.W PyProof.Rows
set_option maxRecDepth 100000 in
set_option maxHeartbeats 0 in
theorem lE.pre (AM:lE.AMk):PySem.Challenge.rw_factorforge_k46_whole_laid_together.Holds:=by
 w_on;o_law;k_head;(rotate_left;rotate_right);(· w_witness2)
 k_fill
 refine lE.walk (l:=PySem.Challenge.rw_factorforge_k46_whole_laid_together) rfl rfl (λw h Y=>PySem.W.km_in_of Y) (λw h Y=>L3.Q9 (by kernel_rfl) (PySem.W.km_tabs_of Y)) ?F
 case F=>
  intro w mg fa h KX G hmg
  refine' lE.am AM KX G hmg ?T ?a ?l ?c ?k
  case a=>k_is
  case l=>k_is
  case c=>k_is
  case k=>k_is
  case T=>
   constructor
   case Hz=>(refine' dX KX G ?a;(case a=>k_is))
   case T6=>(refine' dX KX G ?a;(case a=>k_is))
   case N7=>(refine' dX KX G ?a;(case a=>k_is))
   all_goals first|(refine' lE.aar KX G ?a ?l ?c ?k ?b;(case a=>k_is);(case l=>k_is);(case c=>k_is);(case k=>k_is);(case b=>walk_at "bnd"))|(refine' lE.Z9 KX G ?a ?l ?c;(case a=>k_is);(case l=>k_is);(case c=>kernel_rfl))|(refine' PySem.W.mg_none_of KX G ?a;(case a=>k_is))|(refine' lE.aaJ KX G ?a;(case a=>k_is))|(refine' lE.Zj ?g0 ?l ?c ?k ?n ?b;(case g0=>k_is);(case l=>k_is);(case c=>k_is);(case k=>k_is);(case n=>k_is);(case b=>walk_at "bnd"))|(refine' lE.aaA ?g ?l ?c ?k ?m ?n ?kc ?b;(case g=>k_is);(case l=>k_is);(case c=>k_is);(case k=>k_is);(case m=>k_is);(case n=>k_is);(case kc=>k_is);(case b=>walk_at "bnd"))|(refine' lE.aai ?g ?l ?c ?k ?m ?n ?b;(case g=>k_is);(case l=>k_is);(case c=>k_is);(case k=>k_is);(case m=>k_is);(case n=>k_is);(case b=>walk_at "bnd"))|(refine' lE.Z7 ?a;(case a=>k_is))|(refine' lE.aao ?a;(case a=>k_exc))|kit_is|(constructor<;>k_is)
end
namespace lE
open PySem L2 L3 PyProof.Rows FM
local macro_rules | `(tactic| walk_at "pn0") => `(tactic| first | omega | (dsimp only; omega) | (dsimp only [List.length_cons, List.length_nil]; omega) | (simp [L2.gI, L2.start] <;> omega))
local macro_rules | `(tactic| walk_at "pn1") => `(tactic| first | exact tJ | rfl | assumption | decide | decide +kernel | exact L2.uW (by decide) | exact L2.GQ (by decide) | exact ⟨by decide, by decide +kernel⟩ | exact ⟨by decide, by decide, by decide⟩ | walk_at "pn0" | exact L2.uW ⟨by walk_at "pn0", by walk_at "pn0"⟩ | exact L2.GQ ⟨by walk_at "pn0", by walk_at "pn0"⟩)
local macro_rules | `(tactic| walk_at "pn") => `(tactic| first | (refine ⟨?_, ?_⟩ <;> walk_at "pn") | walk_at "pn1" | (intro _; walk_at "pn"))
local macro_rules | `(tactic| walk_at "xs1") => `(tactic| first | exact tJ | exact (rfl : _ = some _) | exact (rfl : L3.isI _ _) | exact (rfl : L3.isL _ _) | exact (rfl : L3.isF _ _) | exact (rfl : L3.isK _ _) | exact (rfl : L3.XH _ _) | exact (Or.inl rfl : L3.KH _ _) | exact (Or.inr (Or.inl rfl) : L3.KH _ _) | exact (Or.inr (Or.inr rfl) : L3.KH _ _) | walk_at "pn1")
local macro_rules | `(tactic| walk_at "xs") => `(tactic| first | (refine And.intro ?_ ?_ <;> walk_at "xs") | walk_at "xs1")
section
variable {P:Program}{w:World}{K:Fg}{mg:Mg}{base:Heap}{cNO cK cR:Addr}
theorem HR (T:Top K mg cNO cK cR):Ok P w K mg base 1 "is_prime" ["number"] (spB 1 yes F_P):=by
 refine nQ.ok T.JP uw (λvs H Q E h=>?_) (λf cdv A outer s H vs Q E hr h=>?_)
 ·obtain⟨ns,hl,rfl,_⟩:=h;rw[aa,hl];rfl
 obtain⟨ns,hl,rfl,hp,k⟩:=h;obtain⟨n,rfl⟩:=Zc hl;refine⟨_,(pss_cons (Fd (pw_orP (RN (mZ 0) vU) (pw_or1P (X7 (mZ 0) (Wb (by rfl) T.za)))).pt
 (pss_one (ps_ret pe_bl))
 pss_nil)
 (pss_cons (Vq (i:=1) uw.nd rfl (Or.inl rfl) vU)
 (pss_cons (Ow aE (Zd (YB (mZ 1) (mZ 1)) (mZ 0))
 (pss_cons (Fd (Yh (XM (mZ 0) (mZ 1)) vU)
 (pss_one (ps_ret pe_bl))
 pss_nil)
 (pss_one (W0 (i:=1) uw.nd rfl (Or.inl rfl) vU ul))))
 (pss_one (ps_ret pe_bl))))),?_⟩
 have k:Q (.bl (ZG n)) H:=k;refine⟨by walk_at "pn",λh=>?_,λh=>?_⟩
 ·have h:n<2\/9973<n:=h;rw[Dj (λq=>by have:=q.1;have:=q.2.1;lia)]at k;exact k
 have h:¬(n<2\/9973<n):=h;refine⟨by walk_at "pn",λd0 e0=>?_⟩;subst e0;refine⟨λσ H'=>∃d,σ=[some (.int n),some (.int d)]/\H'=H/\2<=d/\d<=10000/\HJ n d,λσ _=>(10001-gI σ 1).toNat,⟨2,rfl,rfl,by lia,by lia,λe h1 h2=>by lia⟩,?_⟩;rintro σ H' ⟨d,rfl,rfl,h2,h3,cl⟩;refine⟨⟨⟨rfl,rfl,uW ⟨?_,?_⟩⟩,rfl⟩,λc=>?_,λc=>?_⟩
 ·show -(2:Int)^64<d;lia
 ·show d<(2:Int)^64;lia
 ·have c:d*d<=n:=c;have:=aaS h2;refine⟨⟨⟨rfl,rfl,by show(0:Int)<d;lia⟩,tJ⟩,λhit=>?_,λhit=>?_⟩
  ·rw[Dj (λq=>q.2.2 d h2 c hit)]at k;exact k
  ·have hit:¬n % d=0:=hit;refine⟨rfl,tJ,tJ,λm e=>?_⟩;have e:m=d+1:=e;subst e;exact⟨⟨d+1,rfl,rfl,by lia,by lia,cl.next hit⟩,by show(10001-(d+1)).toNat<(10001-d).toNat;lia⟩
 ·have c:¬d*d<=n:=c;rw[Jz (.out cl h2 (by lia) (by lia) c)]at k;exact k
def Ug:Sp:=λvs H Q _=>∃n:Int,vs=[.int n]/\jN n/\Q .non H
theorem vI (T:Top K mg cNO cK cR):Ok P w K mg base 2 "refuse_no_prime" ["number"] Ug:=by
 refine nQ.ok T.xQ vQ (λvs H Q E h=>?_) (λf cdv A outer s H vs Q E hr h=>?_)
 ·obtain⟨c,rfl,_⟩:=h;rfl
 obtain⟨n,rfl,hn,k⟩:=h;refine⟨_,(pss_one (Fd (V4 (abm (V3 (HR T) hr (Th (mZ 0) Vy))))
 (pss_one ps_never)
 pss_nil)),?_⟩
 refine⟨⟨⟨rfl,tJ⟩,tJ⟩,λq=>?_,λq=>?_⟩
 ·exact(q (Jz hn)).elim
 ·exact k
def UT (K:Fg):Sp:=λvs H Q _=>∃(p C dx:Addr) (z:Int),vs=[.ref p,.int z]/\H p=some (.ins C dx [])/\Cls K C/\NoAttr K C "size"/\Q .non (upd H p (.ins C dx [("size",.int z)]))
theorem GR (T:Top K mg cNO cK cR):OkC P w K mg base CX0 1 "Kind" cK "__init__" ["self","size"] (UT K):=by
 obtain⟨f,fd,F,b,c⟩:=T.Hg;refine⟨f,fd,F.ok Fq (λvs H Q E h=>?_) (λcdv A outer s H vs Q E hr h=>?_),b,c,T.T6⟩
 ·obtain⟨p,C,dx,z,rfl,_⟩:=h;rfl
 obtain⟨p,C,dx,z,rfl,hp,cl,na,k⟩:=h;refine⟨_,(pss_one (ps_fld (pv 0) (mZ 1) rfl)),?_⟩;exact⟨rfl,_,rfl,p,C,dx,[],rfl,hp,cl,na,by decide,k⟩
theorem Tv (T:Top K mg cNO cK cR):OkI P w K mg base CX0 3 "Rests" cR ["self","prime"] (Uo cR):=by
 obtain⟨f,fd,F,b,c⟩:=T.Gf;refine⟨f,fd,F.ok Cv (λvs H Q E h=>?_) (λcdv A outer s H vs Q E hr h=>?_),b,c,T.N7⟩
 ·obtain⟨x,dx,p,rfl,_⟩:=h;rfl
 obtain⟨x,dx,p,rfl,hp,hx,k⟩:=h;refine⟨_,(pss_cons (ps_expr (ud (vI T) hr (pa_cons (mZ 1) pa_nil)))
 (pss_one (ps_expr (Wh (GR T) hr pass0 (pa_cons (pv 0) (pa_cons (mZ 1) pa_nil)))))),?_⟩
 exact⟨rfl,p,rfl,hp,_,rfl,rfl,x,cR,dx,p,rfl,hx,T.qN,T.pK,k⟩
def Wl:Int->List Int->Int:=λz ns=>match ns with
 |[n]=>pl z n
 |_=>0
abbrev ZW:Int->List Int->Prop:=λ_ _=>True
theorem pU (T:Top K mg cNO cK cR):KM P w K mg base 1 (KR cR) "plain" 1 ZW Wl:=by
 refine⟨λH a z ka=>?_⟩;obtain⟨q0,dx,fs,e,hz,hm⟩:=ka;refine⟨cR,dx,fs,["self","number"],e,hm "plain" (by decide +kernel),?_⟩;obtain⟨f,fd,F,b,m1⟩:=T.Ek;refine⟨f,fd,F.ok Cr (λvs H Q E h=>?_) (λcdv A outer s H vs Q E hr h=>?_),b,m1,T.qN⟩
 ·obtain⟨ns,hl,rfl,_⟩:=h;show(ns.map V.int).length+1=2;rw[aa,hl]
 ·obtain⟨ns,hl,rfl,⟨_,dx',fs',e',hz',_⟩,_,k⟩:=h;obtain⟨n,rfl⟩:=Zc hl;have k:Q (.int (pl z n)) H:=k;rw[mD q0]at k;refine⟨_,(pss_one (ps_ret (pe_op op_mod (mZ 1) (pe_fld (pv 0) rfl)))),?_⟩;exact⟨rfl,_,rfl,a,cR,dx',fs',_,rfl,e',T.qN,T.pK,hz',_,_,rfl,rfl,q0,k⟩
theorem ksz (T:Top K mg cNO cK cR):KSz K (pX cR):=by refine⟨λH a z h=>?_⟩;obtain⟨_,_,dx,fs,e,hz,_⟩:=h;exact⟨cR,dx,fs,e,T.qN,T.pK,hz⟩
def Yl:Int->List Int->Int:=λz ns=>match ns with
 |[a,b]=>pl z (a-b)
 |_=>0
theorem V5 (T:Top K mg cNO cK cR):KM P w K mg base 2 (KR cR) "less" 2 ZW Yl:=by
 refine⟨λH a z ka=>?_⟩;obtain⟨q0,dx,fs,e,hz,hm⟩:=id ka;obtain⟨f,fd,Fu,b,m1⟩:=T.Im;refine⟨cR,dx,fs,["self","a","b"],e,hm "less" (by decide +kernel),f,fd,Fu.ok GF (λvs H Q E h=>?_) (λcdv A outer s H vs Q E hr h=>?_),b,m1,T.qN⟩
 ·obtain⟨ns,hl,rfl,_⟩:=h;show(ns.map V.int).length+1=3;rw[aa,hl]
 obtain⟨ns,hl,rfl,ka2,_,k⟩:=h;obtain⟨x,y,rfl⟩:=aaw hl;obtain⟨C3,dx3,fs3,ps3,e3,l3,M3⟩:=(pU (P:=P) (w:=w) (base:=base) T).ex H a z ka2;obtain⟨f3,fd3,F3,b3,mm3,c3⟩:=M3.ex;refine⟨_,(pss_one (ps_ret (pe_meth (pv 0) c3 mm3 F3 hr b3 .nil pass0 (pa_cons (Yn op_sub (mZ 1) (mZ 2)) pa_nil)))),?_⟩;exact⟨_,rfl,a,dx3,fs3,rfl,e3,l3,⟨rfl,rfl⟩,[x-y],rfl,rfl,ka2,tJ,k⟩
def MP:List Int->List Int->Prop:=λ_ is=>match is with
 |[k]=>0<=k
 |_=>False
def Ss:List Int->List Int->Int:=λxs is=>match is with
 |[k]=>xs.getD k.toNat 0
 |_=>0
theorem K5 (T:Top K mg cNO cK cR):Ok P w K mg base 1 "_law_cell_at" ["_law_script","_law_k"] (spS K 1 MP Ss):=by
 refine nQ.ok T.O9 J4 (λvs H Q E h=>?_) (λf cdv A outer s H vs Q E hr h=>?_)
 ·obtain⟨a,xs,is,hl,rfl,_⟩:=h;show(is.map V.int).length+1=2;rw[aa,hl]
 obtain⟨sa,ns,is,hl,rfl,hS,hp,k⟩:=h;obtain⟨i,rfl⟩:=Zc hl;have hp:0<=i:=hp;have k:Q (.int (ns.getD i.toNat 0)) H:=k;refine⟨_,(pss_cons (Fd (RN (mZ 1) (YM 0 sa (ns.map V.int) T.jM))
 (pss_one (ps_ret (Ws 0 sa ns (mZ 1) (λ_ _=>rfl))))
 pss_nil)
 (pss_one (ps_ret vU))),?_⟩
 have el:(ns.map V.int).length=ns.length:=aa _;refine⟨⟨rfl,⟨rfl,hS⟩⟩,λq=>?_,λq=>?_⟩
 ·have q:i<((ns.map V.int).length:Int):=q;refine⟨⟨rfl,rfl,hS,?_,?_⟩,?_⟩
  ·show -(ns.length:Int)<=i;lia
  ·lia
  ·show Q (.int (ns.getD (if 0<=i then i else i+ns.length).toNat 0)) H;rw[af hp];exact k
 ·have q:¬i<((ns.map V.int).length:Int):=q;have e:ns.getD i.toNat 0=0:=by rw[gQ,bw (by lia)];rfl
  rw[e]at k;exact⟨tJ,k⟩
theorem K6 (T:Top K mg cNO cK cR):Ok P w K mg base 1 "_law_cell_at" ["_law_script","_law_k"] (JD K (pX cR) (L3.aad 1 MP) λas=>Ss (aam as) (tZ as.tail)):=aah (K5 T)
theorem ug (T:Top K mg cNO cK cR):Ok P w K mg base 1 "_law_whole" ["_law_found"] (Qk K (pX cR) (λas=>∃n,as=[.int n]) λ_=>true):=by refine w5 T.U3 Q4 (λas ⟨c,h⟩=>by rw[h];rfl) (λf cdv A outer s H E hr=>⟨_,(jm (jx (YJ (nA T.lC (xv 0) (qz (by rfl) T.Xn Uy)) (pe_one (YX (nA T.lC (xv 0) (qz (by rfl) T.Zk Vz))))))),λas hp=>?_⟩);obtain⟨n,rfl⟩:=hp;have h1:oX K (.int n) (.ty "int")=true:=oW rfl rfl T.Dq;have h2:oX K (.int n) (.ty "bool")=false:=oW rfl rfl T.z6;refine⟨⟨⟨rfl,tJ,_,_,_,rfl,rfl,T.Dq⟩,λ_=>⟨rfl,tJ,_,_,_,rfl,rfl,T.z6⟩⟩,?_⟩;show PV.bl (decide (oX K (.int n) (.ty "int")=true/\¬oX K (.int n) (.ty "bool")=true))=PV.bl true;rw[h1,h2];rfl
theorem R6 (T:Top K mg cNO cK cR):Ok P w K mg base 2 "_law_alike" ["_law_found","_law_due"] (Qk K (pX cR) (λas=>∃a b,as=[.ints a,.ints b]/\b.length<=1000) λas=>match as with
  |[.ints a,.ints b]=>decide (a=b)
  |_=>false):=by
 refine w5 T.V2 Jd (λas ⟨a,b,h,_⟩=>by rw[h];rfl) (λf cdv A outer s H E hr=>⟨_,(ji (lJ (L2.PW.pt (qD (nM (vZ (nA T.lC (xl 0) (qz (by rfl) T.rH wK)))) (tD (sH (jU 0 T.jM) (jU 1 T.jM)))))
 (jm (jx rY))
 kj)
 (ji (pR (k:=2) aE rfl (by rfl) T.oV (jU 1 T.jM) Jd.nd rfl (Or.inl rfl)
 (jm (lJ (L2.PW.pt (qD (nM (vZ (U0 (ug T) hr (jh (lL 0 (xn 2) (λ_ _=>rfl)) jk)))) (tD (sH (lL 0 (xn 2) (λ_ _=>rfl)) (lL 1 (xn 2) (λ_ _=>rfl))))))
 (jm (jx rY))
 kj)))
 (jm (jx rY)))),λas hp=>?_⟩)
 obtain⟨a,b,rfl,hb⟩:=hp;have h1:oX K (.ints a) (.ty "list")=true:=oW rfl rfl T.mH;refine⟨⟨⟨rfl,tJ,_,_,_,rfl,rfl,T.mH⟩,λ_=>⟨.inl rfl,.inl rfl⟩⟩,λq=>?_,λq=>?_⟩
 ·have q:¬oX K (.ints a) (.ty "list")=true\/¬(a.length:Int)=(b.length:Int):=q;rw[h1]at q;refine⟨tJ,?_⟩;show PV.bl false=PV.bl (decide (a=b));rw[aJ];intro z;subst z;rcases q with q|q
  ·exact q rfl
  ·exact q rfl
 ·have q:¬(¬oX K (.ints a) (.ty "list")=true\/¬(a.length:Int)=(b.length:Int)):=q;have hl:a.length=b.length:=by
   by_cases c:a.length=b.length
   ·exact c
   ·exact absurd (.inr (by lia)) q
  refine⟨.inl rfl,⟨by show -(2:Int)^62<=(b.length:Int);lia,by show(b.length:Int)<2^62;lia⟩,λi Z=>(∃v,Z=[.fr (.ints a),.fr (.ints b),v])/\∀j,j<i->a.getD j 0=b.getD j 0,⟨⟨_,rfl⟩,λj h=>by lia⟩,?_,?_⟩
  ·rintro i Z hi ⟨⟨v,rfl⟩,ih⟩;have hi:i<(b.length:Int).toNat:=hi;have i1:-(a.length:Int)<=(i:Int):=by lia
   have i2:(i:Int)<(a.length:Int):=by lia
   have i3:-(b.length:Int)<=(i:Int):=by lia
   have i4:(i:Int)<(b.length:Int):=by lia
   have ea:jZ a.length (i:Int)=i:=by unfold jZ;rw[af (by lia)];lia
   have eb:jZ b.length (i:Int)=i:=by unfold jZ;rw[af (by lia)];lia
   refine⟨⟨⟨⟨⟨.inl rfl,rfl,i1,i2⟩,tJ⟩,⟨_,rfl⟩⟩,λ_=>⟨⟨.inl rfl,rfl,i1,i2⟩,⟨.inl rfl,rfl,i3,i4⟩⟩⟩,λq=>?_,λq=>?_⟩
   ·have q:¬true=true\/¬a.getD (jZ a.length (i:Int)) 0=b.getD (jZ b.length (i:Int)) 0:=q;rw[ea,eb]at q;refine⟨tJ,?_⟩;show PV.bl false=PV.bl (decide (a=b));rw[aJ];intro z;subst z;rcases q with q|q
    ·exact q rfl
    ·exact q rfl
   ·have q:¬(¬true=true\/¬a.getD (jZ a.length (i:Int)) 0=b.getD (jZ b.length (i:Int)) 0):=q;rw[ea,eb]at q;refine⟨⟨_,rfl⟩,λj hj=>?_⟩;by_cases c:j=i
    ·subst c;by_cases d:a.getD j 0=b.getD j 0
     ·exact d
     ·exact absurd (.inr d) q
    ·exact ih j (by lia)
  ·rintro Z ⟨⟨v,rfl⟩,ih⟩;refine⟨tJ,?_⟩;show PV.bl true=PV.bl (decide (a=b));rw[aL];refine cj hl λj h1 h2=>?_;have z:=ih j (by show j<(b.length:Int).toNat;lia);rw[gQ,gQ,ac h1,ac h2]at z;exact z
theorem Ao (h:ns≠[])(h0:ns.getD (ns.length-1) 0=0):kJ ns.dropLast=kJ ns:=by
 have e:ns=ns.dropLast++[0]:=by
  have e1:=dH h;have e2:ns.getLast h=0:=by rw[gV];rw[gQ,ac (by have:=lP h;lia)]at h0;exact h0
  rw[e2]at e1;exact e1.symm
 rw[e,vK,List.dropLast_concat]
theorem Cp (h:¬(ns≠[]/\ns.getD (ns.length-1) 0=0)):kJ ns=ns:=by
 by_cases c:ns=[]
 ·rw[c];rfl
 ·have h0:¬ns.getD (ns.length-1) 0=0:=λz=>h ⟨c,z⟩;have e1:=dH c;have e2:ns.getLast c≠0:=by rw[gV];rw[gQ,ac (by have:=lP c;lia)]at h0;exact h0
  rw[<- e1,BR _ e2]
theorem Oa (ns:Li)(h:ns≠[]):jZ ns.length (-1)=ns.length-1:=by have:=lP h;unfold jZ;rw[ae (by lia)];lia
theorem uF (T:Top K mg cNO cK cR):Ok P w K mg base 1 "cut_noughts" ["numbers"] (spM (λ_=>True) kJ):=by
 refine nQ.ok T.CQ BZ (λvs H Q E h=>?_) (λf cdv A outer s H vs Q E hr h=>?_)
 ·obtain⟨a,ns,rfl,_⟩:=h;rfl
 obtain⟨a,ns,rfl,hH,_,q⟩:=h;refine⟨_,(pss_one (ps_while aE (pw_and (pt_truth (pv 0) (λ_=>rfl)) (pw_and1 (pt_cmpR op_eq (Vd 0 (XR vU) (λ_ _=>rfl)) vU (nomark _)))).pt
 (pss_one (ps_expr (pe_bm0 cV ij ik mt_pop (pv 0)))))),?_⟩
 refine⟨λm σ H'=>σ=[some (.ref a)]/\∃ms,m=ms.length/\H'=upd H a (.lst (ms.map V.int))/\kJ ms=kJ ns,⟨ns.length,rfl,ns,rfl,?_,rfl⟩,?_⟩
 ·funext b;by_cases c:b=a
  ·rw[c,upd_same,hH]
  ·rw[upd_ne c]
 rintro m σ H' ⟨rfl,ms,rfl,rfl,hm⟩;refine⟨_,rfl,_,.inl ⟨_,SqL.of upd_same,rfl⟩,?_⟩;by_cases c:ms=[]
 ·subst c;refine iteF ?_;refine iteF ?_;refine q _ (λb o hb e=>?_) ?_
  ·rw[upd_ne hb];exact e
  ·rw[upd_same,<- hm];rfl
 ·have hlen:=lP c;have e1:(!(ms.map V.int).isEmpty)=true:=by cases ms<;>simp at c ⊢
  rw[e1];refine iteT ?_;refine⟨tJ,a,ms,ms.getD (ms.length-1) 0,rfl,SqL.of upd_same,?_,?_⟩
  ·have z:=getD_at (ns:=ms) (i:=-1) (by lia) (by lia);rw[z,ae (by lia)];have:(-1+(ms.length:Int)).toNat=ms.length-1:=by lia
   rw[this]
  refine⟨tJ,rfl,_,rfl,?_⟩;by_cases d:ms.getD (ms.length-1) 0=0
  ·have e2:decide (V.int (ms.getD (ms.length-1) 0)=V.int 0)=true:=aL (by rw[d]);rw[e2];refine iteT ?_;refine⟨λσ H'=>σ=[some (.ref a)]/\H'=upd H a (.lst (ms.dropLast.map V.int)),?_,?_⟩
   ·rintro σ' H' ⟨rfl,rfl⟩;refine⟨ms.dropLast.length,by rw[fG];lia,rfl,_,rfl,rfl,?_⟩;rw[<- hm];exact Ao c d
   ·refine⟨_,rfl,.inl ⟨rfl,_,SqL.of upd_same⟩,a,_,V.int (ms[ms.length-1]'(by lia)),rfl,rfl,upd_same,?_,rfl,?_⟩
    ·rw[aa,ao,ac (by lia)];rfl
    ·rw[upd_upd,List.map_dropLast]
  ·have e2:decide (V.int (ms.getD (ms.length-1) 0)=V.int 0)=false:=aJ (by intro z;exact d (by injection z));rw[e2];refine iteF ?_;refine q _ (λb o hb e=>?_) ?_
   ·rw[upd_ne hb];exact e
   ·rw[upd_same,<- hm,Cp λz=>d z.2]
theorem jW (T:Top K mg cNO cK cR):Ok P w K mg base 2 "trimmed" ["kind","f"] (Hc K (pX cR) (λas=>∃z f,as=[.ob 0 z,.ints f]/\f.length<=1000) λas=>match as with
  |[.ob 0 z,.ints f]=>kJ (f.map (pl z))
  |_=>[]):=by
 refine JL T.O4 Ag (λas ⟨a,b,h,_⟩=>by rw[h];rfl) (λf cdv A outer s H E hr=>⟨_,(ji (Nv (i:=2) Ag.nd rfl rfl (N':=["number","kind"]) (cap:=[some 0]) (ph rfl rfl rfl rfl ⟨⟨rfl,.inr (.inl rfl),Dz,.inl rfl,_,rfl,rfl⟩,tJ⟩ ⟨rfl,tJ⟩ rfl) rfl (xl 1) (λ_ _ _=>(pZ 0)) (λ_ _ _=>(qO 1 (pU T) hr (jh (xn 0) jk))) rfl)
 (ji (Lk 2 (uF T) hr)
 (jm (Az 2)))),λas hp=>?_⟩)
 obtain⟨z,f,rfl,hf⟩:=hp;refine⟨⟨rfl,hf,λn _=>⟨rfl,⟨rfl,tJ⟩,tJ,tJ⟩⟩,λns e=>?_⟩;have e:ns=f.map (pl z):=e;refine⟨rfl,tJ,rfl,?_⟩;show kJ ns=kJ (f.map (pl z));rw[e]
def jX (f g:List Int):List Int:=(List.range (max f.length g.length)).map λn=>f.getD n 0+g.getD n 0
theorem jz (f g:Li)(n:Nat):(jX f g).getD n 0=f.getD n 0+g.getD n 0:=by
 unfold jX;by_cases h:n<max f.length g.length
 ·rw[jB (by rw[aa,aq];exact h),br,bn]
 ·rw[jr (by rw[aa,aq];lia),jr (by lia),jr (by lia)];rfl
theorem HF (f:Li)(k n:Nat):(f++List.replicate k 0).getD n 0=f.getD n 0:=by
 by_cases h:n<f.length
 ·rw[jB (by rw[ah];lia),gG h,jB h]
 ·rw[jr (xs:=f) (by lia)];by_cases h2:n<f.length+k
  ·rw[jB (by rw[ah,aN];exact h2),gC (by lia),cI]
  ·rw[jr (by rw[ah,aN];lia)]
def Ot (f g:List Int)(i:Nat)(row:List Int):Prop:=row.length=f.length+(g.length-f.length)/\∀n,row.getD n 0=f.getD n 0+if n<i then g.getD n 0 else 0
theorem RC (h:Ot f g i row)(hi:i<g.length):Ot f g (i+1) (row.set i (row.getD i 0+g.getD i 0)):=by
 obtain⟨hl,hr⟩:=h;refine⟨by rw[bQ];exact hl,λn=>?_⟩;rw[rB _ _ _ _ (by lia)];by_cases c:n=i
 ·subst c;rw[af rfl,hr,ae (by lia),af (by lia)];lia
 ·rw[ae c,hr];by_cases d:n<i
  ·rw[af d,af (by lia)]
  ·rw[ae d,ae (by lia)]
theorem Vk (h:Ot f g g.length row):Tz z row=Tz z (jX f g):=by
 refine G3 λn=>?_;rw[h.2,jz];by_cases d:n<g.length
 ·rw[af d]
 ·rw[ae d,jr (xs:=g) (by lia)]
theorem WK (T:Top K mg cNO cK cR):Ok P w K mg base 3 "plus" ["kind","f","g"] (Hc K (pX cR) (λas=>∃z f g,as=[.ob 0 z,.ints f,.ints g]/\f.length<=500/\g.length<=500) λas=>match as with
  |[.ob 0 z,.ints f,.ints g]=>Tz z (jX f g)
  |_=>[]):=by
 refine JL T.Ye zH (λas ⟨a,b,c,h,_⟩=>by rw[h];rfl) (λf cdv A outer s H E hr=>⟨_,(ji (tE (i:=3) zH.nd rfl (Or.inl rfl) (yg (jY (uM T.rH (xl 1) (λ_=>.inl rfl))) (jY (vO (m7 (jh jj jk)) (pI (jU 2 T.jM) (jU 1 T.jM)) (λ_=>rfl)))))
 (ji (wG (k:=4) (j:=5) aE rfl (by rfl) T.mF (xl 2) (pg_tup rfl (pgs_cons (pg_name (i:=4) zH.nd rfl (Or.inl rfl)) (pgs_cons (pg_name (i:=5) zH.nd rfl (Or.inl rfl)) pgs_nil)))
 (jm (Dd 3 (xn 4) (xn 5) ul)))
 (lz 3 (jm (mC (tW (jW T) hr (jh (xv 0) (jh (xl 3) jk)))))))),λas hp=>?_⟩)
 obtain⟨z,f,g,rfl,hf,hg⟩:=hp;have en:((g.length:Int)-(f.length:Int)).toNat=g.length-f.length:=by lia
 refine⟨⟨rfl,⟨⟨⟨tJ,tJ⟩,tJ⟩,⟨.inl rfl,.inl rfl⟩,?_,?_⟩,?_⟩,λr0 er0=>?_⟩
 ·show -(2:Int)^63<=(g.length:Int)-(f.length:Int);lia
 ·show((g.length:Int)-(f.length:Int)).toNat<=1000;lia
 ·refine bK (small1000 ?_);show f.length+(List.replicate ((g.length:Int)-(f.length:Int)).toNat (0:Int)).length<=1000;rw[aN];lia
 have er0:r0=f++List.replicate (g.length-f.length) 0:=by rw[<- en];exact er0
 refine⟨rfl,λi Z=>∃row v1 v2,Z=[.fr (.ob 0 z),.fr (.ints f),.fr (.ints g),.ow (.ints row),v1,v2]/\Ot f g i row,⟨r0,.un,.un,rfl,?_⟩,?_,?_⟩
 ·rw[er0];refine⟨by rw[ah,aN],λn=>?_⟩;rw[HF,ae (by lia),bH]
 ·rintro i n Z hn ⟨row,v1,v2,rfl,hr⟩;have hn:g[i]?=some n:=hn;have hi:=RK hn;have l1:-(row.length:Int)<=(i:Int):=by lia
  have l2:(i:Int)<(row.length:Int):=by have:=hr.1;lia
  have ix:jZ row.length (i:Int)=i:=by unfold jZ;rw[af (by lia)];lia
  refine⟨rfl,rfl,⟨l1,l2⟩,rfl,tJ,row.set i (row.getD i 0+n),.fr (.int i),.fr (.int n),?_,?_⟩
  ·show[Sl.fr (.ob 0 z),.fr (.ints f),.fr (.ints g),.ow (.ints (row.set (jZ row.length (i:Int)) (row.getD (jZ row.length (i:Int)) 0+n))),.fr (.int i),.fr (.int n)]=_;rw[ix]
  ·have q:=RC hr hi;rw[getD_at' hn]at q;exact q
 ·rintro Z ⟨row,v1,v2,rfl,hr⟩;refine⟨⟨⟨rfl,rfl,tJ⟩,z,row,rfl,?_⟩,?_⟩
  ·rw[hr.1];lia
  ·exact Vk hr
theorem VR (T:Top K mg cNO cK cR):Ok P w K mg base 4 "less" ["kind","f","g"] (Hc K (pX cR) (λas=>∃z f g,as=[.ob 0 z,.ints f,.ints g]/\f.length<=500/\g.length<=500) λas=>match as with
  |[.ob 0 z,.ints f,.ints g]=>Tz z (jX f (g.map λn=>-n))
  |_=>[]):=by
 refine JL T.Ym U4 (λas ⟨a,b,c,h,_⟩=>by rw[h];rfl) (λf cdv A outer s H E hr=>⟨_,(jm (mC (tW (WK T) hr (jh (xv 0) (jh (xl 1) (jh (jY (Gq (N':=["number"]) (cap:=[]) (ph rfl rfl rfl rfl tJ tJ rfl) rfl (xl 2) (λ_ _ _=>(pZ 0)) (λ_ _ _=>(vR (xn 0))))) jk)))))),λas hp=>?_⟩);obtain⟨z,f,g,rfl,hf,hg⟩:=hp;refine⟨⟨⟨rfl,rfl,⟨rfl,by show g.length<=1000;lia,λn _=>rfl⟩,tJ⟩,z,f,_,rfl,hf,?_⟩,rfl⟩;rw[aa];exact hg
theorem OJ (T:Top K mg cNO cK cR):Ok P w K mg base 3 "scaled" ["kind","f","number"] (Hc K (pX cR) (λas=>∃z f n,as=[.ob 0 z,.ints f,.int n]/\f.length<=1000/\n.natAbs<2^9000/\∀m∈f,m.natAbs<2^9000) λas=>match as with
  |[.ob 0 z,.ints f,.int n]=>Tz z (f.map λm=>n*m)
  |_=>[]):=by
 refine JL T.T3 Pn (λas ⟨a,b,c,h,_⟩=>by rw[h];rfl) (λf cdv A outer s H E hr=>⟨_,(jm (mC (tW (jW T) hr (jh (xv 0) (jh (jY (Gq (N':=["one","number"]) (cap:=[some 2]) (ph rfl rfl rfl rfl ⟨⟨rfl,.inr (.inl rfl),Dz,.inl rfl,_,rfl,rfl⟩,tJ⟩ ⟨rfl,tJ⟩ rfl) rfl (xl 1) (λ_ _ _=>(pZ 0)) (λ_ _ _=>(pC (xn 1) (xn 0))))) jk))))),λas hp=>?_⟩);obtain⟨z,f,n,rfl,hf,hn,hm⟩:=hp;refine⟨⟨⟨rfl,⟨rfl,hf,λm hm'=>⟨rfl,rfl,qI (n:=9000) (m:=9000) hn (hm m hm')⟩⟩,tJ⟩,z,_,rfl,?_⟩,rfl⟩;rw[aa];exact hf
theorem Z2 (hz:0<=z)(hz2:z<((2^9000:Nat):Int))(hf:∀m∈f,m.natAbs<2^9000):∀m∈Tz z f,m.natAbs<2^9000:=λm hm=>by obtain⟨k,hk,rfl⟩:=YH hm;exact zU hz hz2 (hf k hk)
theorem Rz (T:Top K mg cNO cK cR):Ok P w K mg base 3 "times" ["kind","f","g"] (Hc K (pX cR) (λas=>∃z f g,as=[.ob 0 z,.ints f,.ints g]/\0<=z/\z<((2^9000:Nat):Int)/\f.length+g.length<=1000/\(∀m∈f,m.natAbs<2^9000)/\(∀m∈g,m.natAbs<2^9000)) λas=>match as with
  |[.ob 0 z,.ints f,.ints g]=>Tz z (jq (Tz z f) (Tz z g))
  |_=>[]):=by
 refine JL T.Vm pW (λas ⟨a,b,c,h,_⟩=>by rw[h];rfl) (λf cdv A outer s H E hr=>⟨_,(ji (jC (i:=3) pW.nd rfl (Or.inl rfl) (jY (tW (jW T) hr (jh (xv 0) (jh (xl 1) jk)))))
 (ji (jC (i:=4) pW.nd rfl (Or.inl rfl) (jY (tW (jW T) hr (jh (xv 0) (jh (xl 2) jk)))))
 (ji (tE (i:=5) pW.nd rfl (Or.inl rfl) (vO (m7 (jh jj jk)) (lG (jU 3 T.jM) (jU 4 T.jM)) (λ_=>rfl)))
 (ji (wG (k:=6) (j:=7) aE rfl (by rfl) T.mF (xl 3) (pg_tup rfl (pgs_cons (pg_name (i:=6) pW.nd rfl (Or.inl rfl)) (pgs_cons (pg_name (i:=7) pW.nd rfl (Or.inl rfl)) pgs_nil)))
 (jm (wG (k:=8) (j:=9) aE rfl (by rfl) T.mF (xl 4) (pg_tup rfl (pgs_cons (pg_name (i:=8) pW.nd rfl (Or.inl rfl)) (pgs_cons (pg_name (i:=9) pW.nd rfl (Or.inl rfl)) pgs_nil)))
 (jm (Dd 5 (lG (xn 6) (xn 8)) (pC (xn 7) (xn 9)) ul)))))
 (lz 5 (jm (mC (tW (jW T) hr (jh (xv 0) (jh (xl 5) jk)))))))))),λas hp=>?_⟩)
 obtain⟨z,f,g,rfl,hz,hz2,hl,hf,hg⟩:=hp;refine⟨⟨⟨rfl,rfl,tJ⟩,z,f,rfl,by lia⟩,λfo efo=>?_⟩;refine⟨⟨⟨rfl,rfl,tJ⟩,z,g,rfl,by lia⟩,λgo ego=>?_⟩;have lf:fo.length<=f.length:=by rw[efo];exact m8 _ _
 have lg:go.length<=g.length:=by rw[ego];exact m8 _ _
 have bf:∀m∈fo,m.natAbs<2^9000:=by rw[efo];exact Z2 hz hz2 hf
 have bg:∀m∈go,m.natAbs<2^9000:=by rw[ego];exact Z2 hz hz2 hg
 have en:((fo.length:Int)+(go.length:Int)).toNat=fo.length+go.length:=by lia
 refine⟨⟨⟨⟨tJ,tJ⟩,tJ⟩,⟨.inl rfl,.inl rfl⟩,?_,?_⟩,λr0 er0=>?_⟩
 ·lia
 ·show((fo.length:Int)+(go.length:Int)).toNat<=1000;lia
 have er0:r0=List.replicate (fo.length+go.length) 0:=by rw[<- en];exact er0
 refine⟨rfl,λi Z=>∃row v1 v2 v3 v4,Z=[.fr (.ob 0 z),.fr (.ints f),.fr (.ints g),.fr (.ints fo),.fr (.ints go),.ow (.ints row),v1,v2,v3,v4]/\tK fo go i 0 row,⟨r0,.un,.un,.un,.un,rfl,by rw[er0];exact De fo go⟩,?_,?_⟩
 ·rintro i n Z hn ⟨row,v1,v2,v3,v4,rfl,hr⟩;have hn:fo[i]?=some n:=hn;have hi:=RK hn;refine⟨rfl,λj Z=>∃row v3 v4,Z=[.fr (.ob 0 z),.fr (.ints f),.fr (.ints g),.fr (.ints fo),.fr (.ints go),.ow (.ints row),.fr (.int i),.fr (.int n),v3,v4]/\tK fo go i j row,⟨row,v3,v4,rfl,hr⟩,?_,?_⟩
  ·rintro j m Z hm ⟨row,v3,v4,rfl,hr⟩;have hm:go[j]?=some m:=hm;have hj:=RK hm;have l1:-(row.length:Int)<=(i:Int)+(j:Int):=by lia
   have l2:(i:Int)+(j:Int)<(row.length:Int):=by have:=hr.1;lia
   have ix:jZ row.length ((i:Int)+(j:Int))=i+j:=by unfold jZ;rw[af (by lia)];lia
   refine⟨rfl,⟨rfl,rfl⟩,⟨l1,l2⟩,⟨rfl,rfl,?_⟩,tJ,row.set (i+j) (row.getD (i+j) 0+n*m),.fr (.int j),.fr (.int m),?_,?_⟩
   ·exact qI (n:=9000) (m:=9000) (bf n (Rp hn)) (bg m (Rp hm))
   ·rw[<- ix];rfl
   ·have q:=I8 hr hi hj;rw[getD_at' hn,getD_at' hm]at q;exact q
  ·rintro Z ⟨row,v3,v4,rfl,hr⟩;exact⟨row,_,_,v3,v4,rfl,IW hr⟩
 ·rintro Z ⟨row,v1,v2,v3,v4,rfl,hr⟩;have er:=row_end hr;refine⟨⟨⟨rfl,rfl,tJ⟩,z,row,rfl,?_⟩,?_⟩
  ·rw[hr.1];lia
  ·rw[er,efo,ego];rfl
open Classical in
def tu (n z:Int):Int:=if h:∃x:Int,0<=x/\x<z/\x*n % z=1 then Classical.choose h else 0
theorem Rb (hz:2<=z)(h0:0<=x)(h1:x<z)(h2:x*n % z=1):tu n z=x:=by
 have ex:∃x:Int,0<=x/\x<z/\x*n % z=1:=⟨x,h0,h1,h2⟩;have e:tu n z=Classical.choose ex:=by unfold tu;rw[fV ex]
 obtain⟨y0,y1,y2⟩:=fw ex;rw[e];generalize Classical.choose ex=y at y0 y1 y2;have a1:(y*(x*n)) % z=y:=by rw[ft,h2,bM,Int.emod_emod,bI y0 y1]
 have a2:(x*(y*n)) % z=x:=by rw[ft,y2,bM,Int.emod_emod,bI h0 h1]
 exact(a1.symm.trans (by rw[gH y x n])).trans a2
theorem Oh (hz:2<=z)(h:∃x:Int,0<=x/\x<z/\x*n % z=1):0<=tu n z/\tu n z<z/\tu n z*n % z=1:=by obtain⟨x,h0,h1,h2⟩:=h;rw[Rb hz h0 h1 h2];exact⟨h0,h1,h2⟩
theorem Mz (hz:2<=z)(h:Int.gcd n z=1):∃x:Int,0<=x/\x<z/\x*n % z=1:=by
 have run:∀(m:Nat) (b r sb s:Int),r.toNat<=m->Eu n z b r sb s->∃x:Int,0<=x/\x<z/\x*n % z=1:=by
  intro m
  induction m with
  |zero=>
   intro b r sb s hm I;have:=I.r0;have e:r=0:=by lia
   subst e;have gc:=I.end;exact⟨sb % z,bE _ (by lia),bj _ (by lia),I.one hz (by lia)⟩
  |succ m ih=>
   intro b r sb s hm I;by_cases c:r=0
   ·subst c;have gc:=I.end;exact⟨sb % z,bE _ (by lia),bj _ (by lia),I.one hz (by lia)⟩
   ·have I2:=I.step c;have:=I2.rb;have:=I2.r0;have:=I.r0;exact ih _ _ _ _ (by lia) I2
 exact run _ _ _ _ _ (ai _) (Eu.start hz)
def JN (C:Addr):List PV->Rs:=λas=>match as with
 |[.int n,.int z]=>if Int.gcd n z=1 then .val (.int (tu n z)) else .err C
 |_=>.err C
theorem Kg {x z:Int}(h:(x.natAbs:Int)<=z)(hz:z.natAbs<2^9000):x.natAbs<2^9000:=by
 generalize 2^9000=B at *
 lia
theorem Qh (T:Top K mg cNO cK cR):OkE P w K mg base 1 "turned" ["number","size"] (spE K (pX cR) (λas=>∃n z,as=[.int n,.int z]/\2<=z/\z.natAbs<2^9000) (JN cNO)):=by
 refine okE T.RW lQ (λas ⟨n,z,h,_⟩=>by rw[h];rfl) (λf cdv A outer s H E hr=>⟨_,(ji (jA (i:=2) lQ.nd rfl (Or.inl rfl) (xn 1))
 (ji (jA (i:=3) lQ.nd rfl (Or.inl rfl) (m9 (xn 0) (xn 1)))
 (ji (jA (i:=4) lQ.nd rfl (Or.inl rfl) jj)
 (ji (jA (i:=5) lQ.nd rfl (Or.inl rfl) jj)
 (ji (nF PassesOwn.leaving (sH (xn 3) jj)
 (ji (jA (i:=6) lQ.nd rfl (Or.inl rfl) (vV (xn 2) (xn 3)))
 (ji (jA (i:=7) lQ.nd rfl (Or.inl rfl) (pI (xn 2) (pC (xn 6) (xn 3))))
 (ji (jA (i:=8) lQ.nd rfl (Or.inl rfl) (pI (xn 4) (pC (xn 6) (xn 5))))
 (ji (jA (i:=2) lQ.nd rfl (Or.inl rfl) (xn 3))
 (ji (jA (i:=3) lQ.nd rfl (Or.inl rfl) (xn 7))
 (ji (jA (i:=4) lQ.nd rfl (Or.inl rfl) (xn 5))
 (jm (jA (i:=5) lQ.nd rfl (Or.inl rfl) (xn 8))))))))))
 (ji (lJ (sH (xn 2) jj)
 (jm (O3 abe rfl T.RG (by rfl) T.Hz (jh Y8 jk)))
 kj)
 (jm (jx (m9 (xn 4) (xn 1)))))))))),λas hp=>?_⟩)
 obtain⟨n,z,rfl,hz,hz9⟩:=hp;refine⟨rfl,λb0 e0=>?_⟩;subst e0;refine⟨⟨rfl,rfl,by show 0<b0;lia⟩,λr0 er=>?_⟩;refine⟨tJ,λz0 ez=>?_⟩;subst ez;refine⟨tJ,λo0 eo=>?_⟩;subst eo;refine⟨λZ=>∃b r sb s o rb sbh,Z=[.fr (.int n),.fr (.int b0),.fr (.int b),.fr (.int r),.fr (.int sb),.fr (.int s),o,rb,sbh]/\Eu n b0 b r sb s,λZ=>(Dc Z 3).toNat,⟨b0,r0,0,1,.un,.un,.un,rfl,by rw[er];exact Eu.start hz⟩,?_⟩;rintro Z ⟨b,r,sb,s,o,rb,sbh,rfl,I⟩;have sm:=I.id;have sbz:=I.bz;have rlt:=I.rb;have rnn:=I.r0;have s9:s.natAbs<2^9000:=Kg (z:=b0) (by
  have h1:(s.natAbs:Int)*1<=(s.natAbs:Int)*b:=bB (by lia) (by lia);have h2:0<=(sb.natAbs:Int)*r:=iJ (by lia) rnn;lia) hz9
 have r9:r.natAbs<2^9000:=Kg (z:=b0) (by lia) hz9;refine⟨⟨rfl,tJ⟩,λc=>?_,λc=>?_⟩
 ·have c:¬r=0:=c;have q0:0<=b / r:=Int.ediv_nonneg (by lia) (by lia);have q1:b / r<=b:=Int.ediv_le_self _ (by lia);have q9:(b / r).natAbs<2^9000:=Kg (z:=b0) (by lia) hz9;refine⟨⟨rfl,rfl,by show 0<r;lia,(iQ (by show r.natAbs≠0;lia)).mpr r9⟩,λq eq=>?_⟩;subst eq;refine⟨⟨rfl,rfl,rfl,qI q9 r9⟩,λr1 e1=>?_⟩;refine⟨⟨rfl,rfl,rfl,qI q9 s9⟩,λs1 e2=>?_⟩;have f1:r1=b-b / r*r:=e1;have f2:s1=sb-b / r*s:=e2;refine⟨rfl,λb' eb=>?_⟩;subst eb;refine⟨rfl,λr2 e3=>?_⟩;have e3:r2=r1:=e3;subst e3;refine⟨rfl,λs2 e4=>?_⟩;have e4:s2=s:=e4;subst e4;refine⟨rfl,λs3 e5=>?_⟩;have e5:s3=s1:=e5;subst e5;have I2:=I.step c;rw[<- f1,<- f2]at I2;refine⟨⟨_,_,_,_,_,_,_,rfl,I2⟩,?_⟩;show r2.toNat<b'.toNat;have:=I2.rb;have:=I2.r0;lia
 ·have c:¬¬r=0:=c;have c:r=0:=by lia
  subst c;have gc:=I.end;refine⟨⟨rfl,tJ⟩,λhb=>?_,λhb=>?_⟩
  ·have hb:¬b=1:=hb;refine⟨⟨tJ,tJ⟩,?_⟩;show JN cNO [.int n,.int b0]=.err cNO;show(if Int.gcd n b0=1 then _ else _)=_;rw[ae (by lia)]
  ·have hb:¬¬b=1:=hb;have hb:b=1:=by lia
   refine⟨⟨rfl,rfl,by show 0<b0;lia⟩,?_⟩;show JN cNO [.int n,.int b0]=.val (.int (sb % b0));show(if Int.gcd n b0=1 then _ else _)=_;rw[af (by lia),Rb hz (bE _ (by lia)) (bj _ (by lia)) (I.one hz hb)]
theorem qG (z a b:Int):pl z a=pl z b ↔ z ∣ a-b:=by
 unfold pl;split
 ·rename_i h;subst h;rw[Int.zero_dvd];lia
 ·rw[eC,Int.dvd_iff_emod_eq_zero]
theorem tG (ha:pl z a=a)(hb:pl z b=b)(h:z ∣ a-b):a=b:=by rw[<- ha,<- hb];exact(qG z a b).mpr h
theorem nR (z a:Int):z ∣ pl z a-a:=(qG z _ _).mp (uf z a)
def jo (xs:List Int):Int:=xs.getD (xs.length-1) 0
theorem nO:∀{N:Nat},(∀j,j<N->z ∣ f j)->z ∣ sm N f
 |0,_=>aU z
 |N+1,h=>bD (nO λj hj=>h j (by lia)) (h N (by lia))
theorem JT:∀{N:Nat},i<N->(∀j,j<N->j≠i->z ∣ f j)->z ∣ sm N f-f i
 |0,h,_=>by lia
 |N+1,h,k=>by
  show z ∣ sm N f+f N-f i;by_cases c:i=N
  ·subst c;have e:sm i f+f i-f i=sm i f:=by lia
   rw[e];exact nO λj hj=>k j (by lia) (by lia)
  ·have e:sm N f+f N-f i=(sm N f-f i)+f N:=by lia
   rw[e];exact bD (JT (by lia) λj hj hne=>k j (by lia) hne) (k N (by lia) (by lia))
theorem Qz:∀{N:Nat},(∀i,i<N->i≠k->f i=g i)->sm N f=sm N g+if k<N then f k-g k else 0
 |0,_=>by show(0:Int)=0+_;rw[ae (by lia)];rfl
 |N+1,h=>by
  show sm N f+f N=sm N g+g N+_;rw[Qz (f:=f) (g:=g) (k:=k) λi hi hne=>h i (by lia) hne];by_cases c:k=N
  ·subst c;rw[ae (by lia),af (by lia)];lia
  ·rw[h N (by lia) (by lia)];by_cases d:k<N
   ·rw[af d,af (by lia)];lia
   ·rw[ae d,ae (by lia)];lia
theorem Km (hd:0<d.length)(up:∀j,i<j->z ∣ E.getD j 0):z ∣ cm E d (i+(d.length-1))-E.getD i 0*jo d:=by
 have h:=JT (z:=z) (f:=λj=>E.getD j 0*d.getD (i+(d.length-1)-j) 0) (i:=i) (N:=i+(d.length-1)+1) (by lia) λj hj hne=>by
  rcases gv hne with c|c
  ·rw[jr (show d.length<=i+(d.length-1)-j by lia),aT];exact aU z
  ·exact aZ (up j c)
 have e:i+(d.length-1)-i=d.length-1:=by lia
 rw[e]at h;exact h
theorem ZM (hd:0<d.length)(nz:∀x,z ∣ x*jo d->z ∣ x)(h:∀n,S+(d.length-1)<=n->z ∣ cm E d n):∀i,S<=i->z ∣ E.getD i 0:=by
 have key:∀k i,S<=i->E.length<=i+k->z ∣ E.getD i 0:=by
  intro k
  induction k with
  |zero=>intro i _ hk;rw[jr (by lia)];exact aU z
  |succ k ih=>intro i hi hk;have one:=Km (z:=z) (E:=E) hd (i:=i) λj hj=>ih j (by lia) (by lia);refine nz _ ?_;have:=dR (h (i+(d.length-1)) (by lia)) one;rw[Int.sub_sub_self]at this;exact this
 exact λi hi=>key E.length i hi (by lia)
theorem Zr (hg:g<q.length)(h0:q.getD g 0=0)(n:Nat):cm (q.set g c) d n=cm q d n+if g<=n then c*d.getD (n-g) 0 else 0:=by
 unfold cm;rw[Qz (f:=λi=>(q.set g c).getD i 0*d.getD (n-i) 0) (g:=λi=>q.getD i 0*d.getD (n-i) 0) (k:=g) λi hi hne=>by
  rw[rB _ _ _ _ hg,ae hne]]
 congr 1;by_cases k:g<n+1
 ·rw[af k,af (by lia)];rw[rB _ _ _ _ hg,af rfl,h0];lia
 ·rw[ae k,ae (by lia)]
def Ff (a b:List Int):List Int:=(List.range (max a.length b.length)).map λi=>a.getD i 0-b.getD i 0
theorem sE (a b:Li)(n:Nat):(Ff a b).getD n 0=a.getD n 0-b.getD n 0:=by
 unfold Ff;by_cases h:n<max a.length b.length
 ·rw[jB (by rw[aa,aq];exact h),br,bn]
 ·rw[jr (by rw[aa,aq];lia),jr (xs:=a) (by lia),jr (xs:=b) (by lia)];rfl
theorem wj (f g:Nat->Int):∀N,sm N (λi=>f i-g i)=sm N f-sm N g
 |0=>rfl
 |N+1=>by show sm N (λi=>f i-g i)+(f N-g N)=sm N f+f N-(sm N g+g N);rw[wj f g N];lia
theorem Rj (a b d:Li)(n:Nat):cm (Ff a b) d n=cm a d n-cm b d n:=by unfold cm;rw[<- wj];exact jw λi _=>by rw[sE,fg]
theorem m6 {xs:Li}{L:Nat}(hf:j9 xs)(h:∀n,L<=n->xs.getD n 0=0):xs.length<=L:=by
 by_cases c:xs.length<=L
 ·exact c
 ·exact absurd (h (xs.length-1) (by lia)) (hf λe=>by rw[e]at c;exact c (bh _))
def uc (z:Int)(d r:List Int)(c:Int):List Int:=kJ ((List.range r.length).map λn=>if r.length-d.length<=n then pl z (r.getD n 0-c*d.getD (n-(r.length-d.length)) 0) else r.getD n 0)
theorem ym (hd:d.length<=r.length)(n:Nat):(uc z d r c).getD n 0=if r.length-d.length<=n then pl z (r.getD n 0-c*d.getD (n-(r.length-d.length)) 0) else r.getD n 0:=by
 unfold uc;rw[wB];by_cases h:n<r.length
 ·rw[jB (by rw[aa,aq];exact h),br,bn]
 ·rw[jr (by rw[aa,aq];lia),af (by lia),jr (xs:=r) (by lia),jr (xs:=d) (by lia),aT,aQ,lW]
def Ql (z:Int)(ov:Int->Int->Option Int)(d:List Int):Nat->List Int->List Int->Option (List Int×List Int)
 |0,q,r=>some (q,r)
 |n+1,q,r=>if r.length<d.length then some (q,r) else match ov (jo r) (jo d) with
  |none=>none
  |some c=>Ql z ov d n (q.set (r.length-d.length) c) (uc z d r c)
structure yp (z:Int)(f d q r:List Int):Prop where
 eq:∀n,z ∣ cm q d n+r.getD n 0-f.getD n 0
 rr:∀n,pl z (r.getD n 0)=r.getD n 0
 rf:j9 r
 qr:∀n,pl z (q.getD n 0)=q.getD n 0
 ql:q.length=f.length+1-d.length
 rl:r.length<=f.length
 q0:∀n,n+d.length<=r.length->q.getD n 0=0
 qt:r.length<f.length->q.getD (f.length-d.length) 0≠0
theorem yp.start (hf:j9 f)(hr:∀n,pl z (f.getD n 0)=f.getD n 0):yp z f d (List.replicate (f.length+1-d.length) 0) f:=by
 have g0:∀n,(List.replicate (f.length+1-d.length) (0:Int)).getD n 0=0:=λn=>by
  by_cases h:n<f.length+1-d.length
  ·rw[jB (by rw[aN];exact h),cI]
  ·rw[jr (by rw[aN];lia)]
 refine⟨λn=>?_,hr,hf,λn=>?_,aN,ai _,λn _=>g0 n,λh=>absurd h (cT _)⟩
 ·have e:cm (List.replicate (f.length+1-d.length) 0) d n=0:=m5 λi _=>by rw[g0,bR]
  rw[e];have:(0:Int)+f.getD n 0-f.getD n 0=0:=by lia
  rw[this];exact aU z
 ·rw[g0,lW]
theorem yp.step {z:Int}{f d q r:Li}{c:Int}(I:yp z f d q r)(hd:0<d.length)(hl:d.length<=r.length)(hc:pl z (c*jo d)=jo r)(hp:pl z c=c):yp z f d (q.set (r.length-d.length) c) (uc z d r c)/\(uc z d r c).length<r.length:=by
 have hg:r.length-d.length<q.length:=by rw[I.ql];have:=I.rl;lia
 have h0:q.getD (r.length-d.length) 0=0:=I.q0 _ (by lia);have rne:r≠[]:=λe=>by rw[e]at hl;exact absurd hl (by show ¬d.length<=0;lia)
 have l0:jo r≠0:=I.rf rne;have hc2:c≠0:=λe=>by rw[e,bR,lW]at hc;exact l0 hc.symm
 have hlen:(uc z d r c).length<r.length:=by
  have:(uc z d r c).length<=r.length-1:=by
   refine m6 (sy _) λn hn=>?_;rw[ym hl,af (by lia)];by_cases k:n=r.length-1
   ·subst k;have e1:r.length-1-(r.length-d.length)=d.length-1:=by lia
    rw[e1];show pl z (jo r-c*jo d)=0;rw[<- lW z];refine(qG z _ _).mpr ?_;have h1:=nR z (c*jo d);rw[hc]at h1;rw[aQ];exact h1
   ·rw[jr (xs:=r) (by lia),jr (xs:=d) (by lia),aT,aQ,lW]
  lia
 refine⟨⟨λn=>?_,λn=>?_,sy _,λn=>?_,by rw[bQ];exact I.ql,by have:=I.rl;lia,λn hn=>?_,λ_=>?_⟩,hlen⟩
 ·rw[Zr hg h0,ym hl];have e:=I.eq n;by_cases k:r.length-d.length<=n
  ·rw[af k,af k];have p:=nR z (r.getD n 0-c*d.getD (n-(r.length-d.length)) 0);have s:=bD e p;generalize pl z (r.getD n 0-c*d.getD (n-(r.length-d.length)) 0)=u at s ⊢;generalize c*d.getD (n-(r.length-d.length)) 0=v at s ⊢;have q:cm q d n+v+u-f.getD n 0=cm q d n+r.getD n 0-f.getD n 0+(u-(r.getD n 0-v)):=by lia
   rw[q];exact s
  ·rw[ae k,ae k,bH];exact e
 ·rw[ym hl];split
  ·exact uf z _
  ·exact I.rr n
 ·rw[rB _ _ _ _ hg];split
  ·exact hp
  ·exact I.qr n
 ·rw[rB _ _ _ _ hg,ae (by lia)];exact I.q0 n (by lia)
 ·rw[rB _ _ _ _ hg];split
  ·exact hc2
  ·have:=I.rl;exact I.qt (by lia)
theorem KY (hd:0<d.length)(hov:∀a c,pl z a=a->ov a (jo d)=some c->pl z (c*jo d)=a/\pl z c=c):∀(fuel:Nat) (q r:Li),yp z f d q r->r.length<fuel ->
  (∀Q R,Ql z ov d fuel q r=some (Q,R)->yp z f d Q R/\R.length<d.length)/\(Ql z ov d fuel q r=none->∃q' r',yp z f d q' r'/\d.length<=r'.length/\ov (jo r') (jo d)=none)
 |0,_,_,_,h=>by lia
 |n+1,q,r,I,h=>by
  unfold Ql;by_cases c:r.length<d.length
  ·rw[af c];refine⟨λQ R e=>?_,λe=>by cases e⟩;cases e;exact⟨I,c⟩
  ·rw[ae c];cases o:ov (jo r) (jo d) with
   |none=>exact⟨(λQ R e=>by cases e),λ_=>⟨q,r,I,by lia,o⟩⟩
   |some x=>obtain⟨h1,h2⟩:=hov (jo r) x (I.rr _) o;obtain⟨J,hl⟩:=I.step hd (by lia) h1 h2;exact KY hd hov n _ _ J (by lia)
def yx (z:Int)(d r:List Int)(c:Int)(i:Nat)(row:List Int):Prop:=row.length=r.length/\∀n,row.getD n 0=if r.length-d.length<=n/\n-(r.length-d.length)<i then pl z (r.getD n 0-c*d.getD (n-(r.length-d.length)) 0) else r.getD n 0
theorem Lb (z:Int)(d r:Li)(c:Int):yx z d r c 0 r:=⟨rfl,λn=>by rw[ae (by lia)]⟩
theorem PX (h:yx z d r c i row)(hl:d.length<=r.length)(hi:i<d.length):yx z d r c (i+1) (row.set (r.length-d.length+i) (pl z (row.getD (r.length-d.length+i) 0-c*d.getD i 0))):=by
 obtain⟨h1,h2⟩:=h;refine⟨by rw[bQ];exact h1,λn=>?_⟩;rw[rB _ _ _ _ (by lia)];by_cases k:n=r.length-d.length+i
 ·subst k;rw[af rfl,af (by lia),h2,ae (by lia),show r.length-d.length+i-(r.length-d.length)=i by lia]
 ·rw[ae k,h2];by_cases q:r.length-d.length<=n/\n-(r.length-d.length)<i
  ·rw[af q,af (by lia)]
  ·rw[ae q,ae (by lia)]
theorem Qv (h:yx z d r c d.length row)(hl:d.length<=r.length):kJ row=uc z d r c:=by
 unfold uc;refine Je λn=>?_;rw[h.2 n];by_cases k:n<r.length
 ·rw[jB (xs:=(List.range r.length).map _) (by rw[aa,aq];exact k),br,bn];by_cases q:r.length-d.length<=n
  ·rw[af ⟨q,by lia⟩,af q]
  ·rw[ae (by lia),ae q]
 ·rw[jr (xs:=(List.range r.length).map _) (by rw[aa,aq];lia),ae (by lia),jr (by lia)]
theorem kW (z:Int)(f:Li):j9 (Tz z f):=sy _
theorem oA (z:Int)(f:Li)(n:Nat):pl z ((Tz z f).getD n 0)=(Tz z f).getD n 0:=by rw[lD,uf]
theorem wF (ns:Li)(h:0<ns.length):ns.getD (jZ ns.length (-1)) 0=jo ns:=by
 have e:jZ ns.length (-1)=ns.length-1:=by unfold jZ;rw[ae (by lia)];lia
 rw[e];rfl
theorem sZ (f g:Nat->Int):∀N,sm N (λi=>f i+g i)=sm N f+sm N g
 |0=>rfl
 |N+1=>by show sm N (λi=>f i+g i)+(f N+g N)=sm N f+f N+(sm N g+g N);rw[sZ f g N];lia
theorem n8 (l:Int)(f:Nat->Int):∀n,sm n (λi=>l*f i)=l*sm n f
 |0=>(aT l).symm
 |n+1=>by show sm n (λi=>l*f i)+l*f n=l*(sm n f+f n);rw[n8 l f n,fW]
theorem nZ (o:Int)(q d:Li)(i:Nat):cm (o::q) d i=o*d.getD i 0+if i=0 then 0 else cm q d (i-1):=by
 unfold cm;rw[qx];have e1:((o::q).getD 0 0:Int)=o:=rfl;rw[e1,gq];congr 1;by_cases c:i=0
 ·subst c;rfl
 ·rw[ae c];obtain⟨k,rfl⟩:∃k,i=k+1:=⟨i-1,by lia⟩;refine jw λj hj=>?_;have e2:((o::q).getD (j+1) 0:Int)=q.getD j 0:=rfl;have e3:k+1-(j+1)=k-j:=by lia
  have e4:k+1-1-j=k-j:=by lia
  rw[e2,e3,e4]
theorem lV (d:Li)(n:Nat):cm [] d n=0:=m5 λi _=>by rw[jr (bh _),bR]
theorem Fp (h:∀n,f.getD n 0=0)(n:Nat):cm f g n=0:=m5 λi _=>by rw[h i,bR]
theorem wC (h:∀n,f.getD n 0=f'.getD n 0)(k:∀n,g.getD n 0=g'.getD n 0)(n:Nat):cm f g n=cm f' g' n:=jw λi _=>by rw[h,k]
theorem Vh (ha:∀i,a.getD i 0=o*g.getD i 0+if i=0 then 0 else u.getD (i-1) 0)(n:Nat):cm a h n=o*cm g h n+if n=0 then 0 else cm u h (n-1):=by
 unfold cm;have e:sm (n+1) (λi=>a.getD i 0*h.getD (n-i) 0)=sm (n+1) λi=>o*(g.getD i 0*h.getD (n-i) 0)+(if i=0 then 0 else u.getD (i-1) 0)*h.getD (n-i) 0:=jw λi _=>by rw[ha,eK,bG]
 rw[e,sZ,n8];congr 1;rw[qx];have e0:(if (0:Nat)=0 then(0:Int) else u.getD (0-1) 0)*h.getD (n-0) 0=0:=by rw[af rfl,bR]
 rw[e0,cY];by_cases c:n=0
 ·subst c;rfl
 ·rw[ae c];obtain⟨k,rfl⟩:∃k,n=k+1:=⟨n-1,by lia⟩;refine jw λj _=>?_;have e3:k+1-(j+1)=k+1-1-j:=by lia
  rw[ae (by lia),e3];rfl
theorem mR (g h:Li):∀(f:Li) (n:Nat),cm (jq f g) h n=cm f (jq g h) n
 |[],n=>by rw[lV,Fp];intro i;rw[jn,lV]
 |o::q,n=>by
  rw[nZ,Vh (u:=jq q g) (g:=g) (o:=o) (λi=>by
   rw[jn,nZ];congr 1;by_cases c:i=0
   ·rw[af c,af c]
   ·rw[ae c,ae c,jn])]
  rw[jn];congr 1;by_cases c:n=0
  ·rw[af c,af c]
  ·rw[ae c,ae c,mR g h q]
def mu (f g:List Int):List Int:=kJ (jq f g)
def lF (p:Int)(d a b:List Int):Prop:=∃Q:List Int,∀n,p ∣ a.getD n 0-b.getD n 0-cm Q d n
theorem lF.refl (p:Int)(d a:Li):lF p d a a:=⟨[],λn=>by rw[lV,cq];exact aU p⟩
theorem lF.of (h:∀n,p ∣ a.getD n 0-b.getD n 0):lF p d a b:=⟨[],λn=>by rw[lV,aQ];exact h n⟩
theorem rC (a b d:Li)(n:Nat):cm (jX a b) d n=cm a d n+cm b d n:=by unfold cm;rw[<- sZ];exact jw λi _=>by rw[jz,eK]
theorem Zn (a d:Li)(n:Nat):cm (a.map λx=>-x) d n = -cm a d n:=by have h:=n8 (-1) (λi=>a.getD i 0*d.getD (n-i) 0) (n+1);unfold cm;rw[eX]at h;rw[<- h];exact jw λi _=>by rw[ni _ (by decide),eX,iU]
theorem lF.symm (h:lF p d a b):lF p d b a:=by
 obtain⟨Q,h⟩:=h;refine⟨Q.map λx=>-x,λn=>?_⟩;rw[Zn];have e:b.getD n 0-a.getD n 0 - -cm Q d n = -(a.getD n 0-b.getD n 0-cm Q d n):=by lia
 rw[e];exact bq.mpr (h n)
theorem lF.trans (h:lF p d a b)(k:lF p d b c):lF p d a c:=by
 obtain⟨Q,h⟩:=h;obtain⟨S,k⟩:=k;refine⟨jX Q S,λn=>?_⟩;rw[rC];have e:a.getD n 0-c.getD n 0-(cm Q d n+cm S d n)=(a.getD n 0-b.getD n 0-cm Q d n)+(b.getD n 0-c.getD n 0-cm S d n):=by lia
 rw[e];exact bD (h n) (k n)
theorem zK (h:∀n,p ∣ a.getD n 0-b.getD n 0)(n:Nat):p ∣ cm a c n-cm b c n:=by rw[<- Rj];exact nO λi _=>by rw[sE];exact aZ (h i)
theorem lF.mul (h:lF p d a b)(c:Li):lF p d (jq a c) (jq b c):=by
 obtain⟨Q,h⟩:=h;refine⟨jq Q c,λn=>?_⟩;have k:=zK (p:=p) (a:=Ff a b) (b:=jq Q d) (c:=c) (λi=>by rw[sE,jn];exact h i) n;rw[Rj]at k;have e:cm (jq Q c) d n=cm (jq Q d) c n:=by rw[mR,mR];exact wC (λ_=>rfl) (λi=>by rw[jn,jn,jG]) n
 rw[jn,jn,e];exact k
theorem lF.comm (p:Int)(d a b:Li):lF p d (jq a b) (jq b a):=.of λn=>by rw[jn,jn,jG,cq];exact aU p
theorem lF.Ew (h:lF p d a b)(k:lF p d c e):lF p d (jq a c) (jq b e):=
 (h.mul c).trans (((lF.comm p d b c).trans (k.mul b)).trans (lF.comm p d e b))
theorem lF.su (p:Int)(d a b c:Li):lF p d (jq (jq a b) c) (jq a (jq b c)):=.of λn=>by rw[jn,jn,mR,cq];exact aU p
theorem lF.Tz (p:Int)(d a:Li):lF p d a (FM.Tz p a):=.of λn=>by
 rw[lD];have:=nR p (a.getD n 0);have e:a.getD n 0-pl p (a.getD n 0) = -(pl p (a.getD n 0)-a.getD n 0):=by lia
 rw[e];exact bq.mpr this
theorem lF.one (p:Int)(d a:Li):lF p d (jq a [1]) a:=.of λn=>by
 rw[jn,jG,nZ];by_cases c:n=0
 ·rw[af c,b9,bH,cq];exact aU p
 ·rw[ae c,lV,b9,bH,cq];exact aU p
structure Nu (p:Int)(d r:List Int):Prop where
 form:j9 r
 red:∀n,pl p (r.getD n 0)=r.getD n 0
 len:r.length<d.length
theorem rZ (nz:∀x,p ∣ x*jo d->p ∣ x)(hr:Nu p d r)(hs:Nu p d s)(h:lF p d r s):r=s:=by
 obtain⟨Q,h⟩:=h;have hd:0<d.length:=aO (bh _) hr.len;have l1:=hr.len;have l2:=hs.len;have top:=ZM (z:=p) (E:=Q) (S:=0) hd nz λn hn=>by
  have:=h n;rw[jr (xs:=r) (by lia),jr (xs:=s) (by lia)]at this;have e:(0:Int)-0-cm Q d n = -cm Q d n:=by lia
  rw[e]at this;exact bq.mp this
 refine oU hr.form hs.form λn=>tG (hr.red n) (hs.red n) ?_;have k:=h n;have c:p ∣ cm Q d n:=nO λi _=>aZ (top i (bh _));have e:r.getD n 0-s.getD n 0=(r.getD n 0-s.getD n 0-cm Q d n)+cm Q d n:=by lia
 rw[e];exact bD k c
open Classical in
def rm (p:Int)(d a:List Int):List Int:=if h:∃r,Nu p d r/\lF p d a r then Classical.choose h else[]
theorem Rk (nz:∀x,p ∣ x*jo d->p ∣ x)(hr:Nu p d r)(h:lF p d a r):rm p d a=r:=by
 have ex:∃r,Nu p d r/\lF p d a r:=⟨r,hr,h⟩;have e:rm p d a=Classical.choose ex:=by unfold rm;rw[fV ex]
 obtain⟨h1,h2⟩:=fw ex;rw[e];exact rZ nz h1 hr (h2.symm.trans h)
def pw (a:List Int):Nat->List Int
 |0=>[1]
 |k+1=>jq (pw a k) a
theorem pw_mod (h:lF p d a b):∀k,lF p d (pw a k) (pw b k)
 |0=>.refl p d [1]
 |k+1=>(pw_mod h k).Ew h
theorem pw_sq (p:Int)(d a:Li):∀k,lF p d (pw (jq a a) k) (pw a (2*k))
 |0=>.refl p d [1]
 |k+1=>by
  have e:2*(k+1)=2*k+1+1:=by lia
  rw[e];exact((pw_sq p d a k).mul _).trans (lF.su p d _ a a).symm
theorem pw_even {p:Int}{d P S S':Li}{h:Nat}(hS:lF p d S' (jq S S)):lF p d (jq P (pw S' h)) (jq P (pw S (2*h))):=
 (lF.refl p d P).Ew ((pw_mod hS h).trans (pw_sq p d S h))
def aak:Int->List Int->Prop:=λz ns=>match ns with
 |[a,b]=>2<=z/\z.natAbs<2^9000/\a.natAbs<2^9000
 |_=>False
def G9 (C:Addr):Int->List Int->Int ⊕ Addr:=λz ns=>match ns with
 |[a,b]=>if Int.gcd b z=1 then .inl (pl z (a*tu b z)) else .inr C
 |_=>.inr C
theorem U6 (g:Int.gcd y z=1):G9 C z [x,y]=.inl (pl z (x*tu y z)):=af g
theorem abp (g:¬Int.gcd y z=1):G9 C z [x,y]=.inr C:=ae g
theorem Aj (T:Top K mg cNO cK cR):KME P w K mg base 2 (KR cR) "over" 2 aak (G9 cNO):=by
 refine⟨λH a z ka=>?_⟩;obtain⟨q0,dx,fs,e,hz,hm⟩:=id ka;obtain⟨f,fd,Fu,b,m1⟩:=T.Jo;refine⟨cR,dx,fs,["self","a","b"],e,hm "over" (by decide +kernel),f,fd,?_,b,m1,T.qN⟩;obtain⟨oc,od,kV,doc,pm,an,cdv,ct,osl,rfl,lk,hcd⟩:=Fu.ex;refine fn_of lk hcd Fl (λvs H Q E h=>?_) λA outer s H vs Q E hr h=>?_
 ·obtain⟨ns,hl,rfl,_⟩:=h;show(ns.map V.int).length+1=3;rw[aa,hl]
 obtain⟨ns,hl,rfl,ka2,hp,k,ke⟩:=h;obtain⟨x,y,rfl⟩:=aaw hl;obtain⟨hz2,h9,hx⟩:=hp;obtain⟨_,dx2,fs2,e2,hz',_⟩:=id ka2;obtain⟨C3,dx3,fs3,ps3,e3,l3,M3⟩:=(pU (P:=P) (w:=w) (base:=base) T).ex H a z ka2;obtain⟨f3,fd3,F3,b3,mm3,c3⟩:=M3.ex;refine⟨_,(pss_one (ps_ret (pe_meth (pv 0) c3 mm3 F3 hr b3 .nil pass0 (pa_cons (pe_op Fz (mZ 1) (Uc (Qh T) ZR hr (pa_cons (mZ 2) (pa_cons (pe_fld (pv 0) rfl) pa_nil)))) pa_nil)))),?_⟩;refine⟨_,rfl,a,dx3,fs3,rfl,e3,l3,rfl,rfl,_,rfl,a,cR,dx2,fs2,_,rfl,e2,T.qN,T.pK,hz',[.int y,.int z],λ_=>false,(λ_ z=>by cases z),⟨_,_,rfl,rfl,_,_,rfl,rfl,rfl⟩,⟨y,z,rfl,hz2,h9⟩,λp hp v H1 s1 a1=>?_,λer her H1 s1=>?_⟩
 ·by_cases g:Int.gcd y z=1
  ·rw[show JN cNO [.int y,.int z]=.val (.int (tu y z)) from af g]at hp;cases hp;subst a1;obtain⟨t0,t1,_⟩:=Oh hz2 (Mz hz2 g);have tb:(tu y z).natAbs<2^9000:=by
    generalize 2^9000=B at *
    lia
   refine⟨x,tu y z,rfl,rfl,qI (n:=9000) (m:=9000) hx tb,[x*tu y z],rfl,rfl,ka2.same s1,tJ,?_⟩;exact k _ (U6 g) H1 s1
  ·rw[show JN cNO [.int y,.int z]=.err cNO from ae g]at hp;cases hp
 ·by_cases g:Int.gcd y z=1
  ·rw[show JN cNO [.int y,.int z]=.val (.int (tu y z)) from af g]at her;cases her
  ·rw[show JN cNO [.int y,.int z]=.err cNO from ae g]at her;cases her;exact ke cNO (abp g) H1 s1
def Ru (z a b:Int):Option Int:=some (pl z (a*tu b z))
theorem hov (z2:2<=z)(g:Int.gcd b z=1)(a c:Int)(ha:pl z a=a)(h:Ru z a b=some c):pl z (c*b)=a/\pl z c=c:=by
 have e:=aF h;subst e;obtain⟨_,_,t⟩:=Oh z2 (Mz z2 g);refine⟨?_,uf _ _⟩;rw[Ai];have e1:pl z (a*tu b z*b)=pl z (a*pl z (tu b z*b)):=by rw[zF,bG]
 rw[e1,mD (n:=tu b z*b) (by lia),t,bM,ha]
def Zt (z:Int)(fo d:List Int):Option (List Int×List Int):=Ql z (Ru z) d (fo.length+1) (List.replicate (fo.length+1-d.length) 0) fo
def uQ (z:Int)(fo d:List Int):PV:=match Zt z fo d with
 |none=>.non
 |some p=>.tup [.ints p.1,.ints p.2]
structure Hd (p:Int)(g:List Int):Prop where
 pr:jN p
 len:g.length<=200
 ne:Tz p g≠[]
 gcd:Int.gcd (jo (Tz p g)) p=1
theorem Hd.nz (h:Hd p g)(x:Int)(hx:p ∣ x*jo (Tz p g)):p ∣ x:=by
 obtain⟨t,_,_,ht⟩:=Mz h.pr.1 h.gcd;have h1:=fX ht;have h2:p ∣ x*jo (Tz p g)*t:=aZ hx;have h3:p ∣ x*(1-t*jo (Tz p g)):=aK h1;have e1:x=x*jo (Tz p g)*t+x*(1-t*jo (Tz p g)):=by rw[ck,bM,b7 t,<- bG];lia
 rw[e1];exact bD h2 h3
theorem mL (h:Hd p g)(f:Li):∃q,Zt p (Tz p f) (Tz p g)=some (q,rm p (Tz p g) f)/\Nu p (Tz p g) (rm p (Tz p g) f)/\lF p (Tz p g) f (rm p (Tz p g) f):=by
 have hd:=lP h.ne;have p2:2<=p:=h.pr.1;obtain⟨h1,h2⟩:=KY (z:=p) (ov:=Ru p) (f:=Tz p f) (d:=Tz p g) hd (λa c ha hc=>hov p2 h.gcd a c ha hc) ((Tz p f).length+1) _ _ (yp.start (kW p f) (oA p f)) (df _);cases o:Ql p (Ru p) (Tz p g) ((Tz p f).length+1) (List.replicate ((Tz p f).length+1-(Tz p g).length) 0) (Tz p f) with
 |none=>obtain⟨_,_,_,_,z⟩:=h2 o;cases z
 |some x=>
  obtain⟨q,r⟩:=x;obtain⟨I,hl⟩:=h1 q r o;have ir:Nu p (Tz p g) r:=⟨I.rf,I.rr,hl⟩;have er:lF p (Tz p g) f r:=(lF.Tz p (Tz p g) f).trans ⟨q,λn=>by
   have k:=I.eq n;have e:(Tz p f).getD n 0-r.getD n 0-cm q (Tz p g) n = -(cm q (Tz p g) n+r.getD n 0-(Tz p f).getD n 0):=by lia
   rw[e];exact bq.mpr k⟩
  have em:=Rk h.nz ir er;rw[em];exact⟨q,o,ir,er⟩
theorem SX (h:Hd p g)(e:lF p (Tz p g) a b):rm p (Tz p g) a=rm p (Tz p g) b:=by obtain⟨_,_,h1,h2⟩:=mL h b;exact Rk h.nz h1 (e.trans h2)
theorem Vi (hl:d.length<=r.length):Ql z (Ru z) d (n+1) q r=Ql z (Ru z) d n (q.set (r.length-d.length) (pl z (jo r*tu (jo d) z))) (uc z d r (pl z (jo r*tu (jo d) z))):=by
 conv=>lhs;unfold Ql
 rw[ae (by lia)];rfl
theorem Vl (hl:r.length<d.length):Ql z (Ru z) d (n+1) q r=some (q,r):=by unfold Ql;rw[af hl]
theorem z8 (hp:jN p)(h:pl p m=m):0<=m/\m<9973:=by have:=BX (z:=p) (n:=m) (by have:=hp.1;lia);have:=hp.2.1;lia
theorem oh (T:Top K mg cNO cK cR):Ok P w K mg base 3 "divided" ["kind","f","g"] (yu K (pX cR) (λas=>∃p f g,as=[.ob 0 p,.ints f,.ints g]/\Hd p g/\f.length<=200) λas=>match as with
  |[.ob 0 p,.ints f,.ints g]=>uQ p (Tz p f) (Tz p g)
  |_=>.non):=by
 refine w5 T.O6 nj (λas ⟨a,b,c,h,_⟩=>by rw[h];rfl) (λf cdv A outer s H E hr=>⟨_,(ji (tE (i:=3) nj.nd rfl (Or.inl rfl) (tW (jW T) hr (jh (xv 0) (jh (xl 1) jk))))
 (ji (jC (i:=4) nj.nd rfl (Or.inl rfl) (jY (tW (jW T) hr (jh (xv 0) (jh (xl 2) jk)))))
 (ji (lJ (nM (zJ 4))
 (jm DY)
 kj)
 (ji (tE (i:=5) nj.nd rfl (Or.inl rfl) (vO (m7 (jh jj jk)) (lG (pI (jU 3 T.jM) (jU 4 T.jM)) jj) (λ_=>rfl)))
 (ji (nF aE (Z8 (jU 3 T.jM) (jU 4 T.jM))
 (ji (jA (i:=6) nj.nd rfl (Or.inl rfl) (pI (jU 3 T.jM) (jU 4 T.jM)))
 (ji (jA (i:=7) nj.nd rfl (Or.inl rfl) (rA (Za (Fv 0 (Aj T) hr (jh (lL 3 (vR jj) (λ_ _=>rfl)) (jh (lL 4 (vR jj) (λ_ _=>rfl)) jk))))))
 (ji (uL 5 (xn 6) (xn 7))
 (ji (wG (k:=8) (j:=9) aE rfl (by rfl) T.mF (xl 4) (pg_tup rfl (pgs_cons (pg_name (i:=8) nj.nd rfl (Or.inl rfl)) (pgs_cons (pg_name (i:=9) nj.nd rfl (Or.inl rfl)) pgs_nil)))
 (jm (uL 3 (lG (xn 6) (xn 8)) (qO 0 (pU T) hr (jh (pI (lL 3 (lG (xn 6) (xn 8)) (λ_ _=>rfl)) (pC (xn 7) (xn 9))) jk)))))
 (jm (Lk 3 (uF T) hr)))))))
 (lz 3 (lz 5 (jm (jx (qH (jh (xl 5) (jh (xl 3) jk)))))))))))),λas hp=>?_⟩)
 obtain⟨z,f,g,rfl,ok,hfl⟩:=hp;have hgl:=ok.len;have p2:2<=z:=ok.pr.1;have h9:z.natAbs<2^9000:=by
  have:z.natAbs<=2^14:=by have:=ok.pr.2.1;lia
  exact aO this (bc (by decide) (by decide))
 refine⟨⟨⟨rfl,rfl,tJ⟩,z,f,rfl,by lia⟩,λfo efo=>?_⟩;have efo:fo=Tz z f:=efo;refine⟨⟨⟨rfl,rfl,tJ⟩,z,g,rfl,by lia⟩,λd ed=>?_⟩;have ed:d=Tz z g:=ed;have lf:fo.length<=200:=by rw[efo];exact aC (m8 _ _) hfl
 have lg:d.length<=200:=by rw[ed];exact aC (m8 _ _) hgl
 have ff:j9 fo:=by rw[efo];exact kW z f
 have fr:∀n,pl z (fo.getD n 0)=fo.getD n 0:=by rw[efo];exact oA z f
 have dr:∀n,pl z (d.getD n 0)=d.getD n 0:=by rw[ed];exact oA z g
 have dne:¬d=[]:=by rw[ed];exact ok.ne
 have gc:Int.gcd (jo d) z=1:=by rw[ed];exact ok.gcd
 have hd:=lP dne;have goal:∀q r,Zt z fo d=some (q,r)->PV.tup [.ints q,.ints r]=uQ z (Tz z f) (Tz z g):=λq r h=>by rw[<- efo,<- ed];unfold uQ;rw[h]
 have pr:=ok.pr;refine jJ (Z':=[.fr (.ob 0 z),.fr (.ints f),.fr (.ints g),.ow (.ints fo),.fr (.ints d),.un,.un,.un,.un,.un]) rfl ?_;refine⟨.inl rfl,λq=>?_,λ_=>?_⟩
 ·exact q dne
 refine⟨⟨⟨⟨tJ,tJ⟩,tJ⟩,⟨⟨.inr (.inl rfl),.inl rfl⟩,tJ⟩,?_,?_⟩,λq0 eq0=>?_⟩
 ·show -(2:Int)^63<=(fo.length:Int)-(d.length:Int)+1;lia
 ·show((fo.length:Int)-(d.length:Int)+1).toNat<=1000;lia
 have eq0:q0=List.replicate ((fo.length:Int)-(d.length:Int)+1).toNat 0:=eq0;have en:((fo.length:Int)-(d.length:Int)+1).toNat=fo.length+1-d.length:=by lia
 rw[en]at eq0;refine⟨λZ=>∃q r v6 v7 v8 v9 fuel,Z=[.fr (.ob 0 z),.fr (.ints f),.fr (.ints g),.ow (.ints r),.fr (.ints d),.ow (.ints q),v6,v7,v8,v9]/\yp z fo d q r/\r.length<fuel/\Ql z (Ru z) d fuel q r=Zt z fo d,λZ=>(getL Z 3).length,⟨q0,fo,.un,.un,.un,.un,fo.length+1,rfl,by rw[eq0];exact yp.start ff fr,df _,by rw[eq0];rfl⟩,?_⟩;rintro Z ⟨q,r,v6,v7,v8,v9,fuel,rfl,I,hfu,hdv⟩;refine⟨⟨.inr (.inl rfl),.inl rfl⟩,λk=>?_,λk=>?_⟩
 ·have k:(d.length:Int)<=(r.length:Int):=k;have hl:d.length<=r.length:=by lia
  have rl:=I.rl;obtain⟨fuel,rfl⟩:∃n,fuel=n+1:=⟨fuel-1,by lia⟩;rw[Vi hl]at hdv;refine⟨⟨.inr (.inl rfl),.inl rfl⟩,λgap egap=>?_⟩;have egap:gap=(r.length:Int)-(d.length:Int):=egap;have egap:gap=((r.length-d.length:Nat):Int):=by lia
  subst egap;have lr:r.getD (jZ r.length (-1)) 0=jo r:=wF r (by lia);have ld:d.getD (jZ d.length (-1)) 0=jo d:=wF d hd;have fo_r:=U6 (C:=cNO) (z:=z) (x:=jo r) gc;have rs:=z8 pr (I.rr (r.length-1));have r9:(jo r).natAbs<2^9000:=by
   have:(jo r).natAbs<=2^14:=by unfold jo;lia
   exact aO this (bc (by decide) (by decide))
  have eF:G9 cNO z [r.getD (jZ r.length (-1)) 0,d.getD (jZ d.length (-1)) 0]=.inl (pl z (jo r*tu (jo d) z)):=by rw[lr,ld];exact fo_r
  obtain⟨c,hc⟩:∃c,c=pl z (jo r*tu (jo d) z):=⟨_,rfl⟩;rw[<- hc]at eF hdv;refine⟨⟨⟨⟨rfl,⟨⟨.inr (.inl rfl),tJ,by show -(r.length:Int) <= -1;lia,by show(-1:Int)<(r.length:Int);lia⟩,⟨.inl rfl,tJ,by show -(d.length:Int) <= -1;lia,by show(-1:Int)<(d.length:Int);lia⟩,tJ⟩,tJ,?_⟩,?_⟩,?_⟩,λc' ec'=>?_⟩
  ·show aak z [r.getD (jZ r.length (-1)) 0,d.getD (jZ d.length (-1)) 0];rw[lr];exact⟨p2,h9,r9⟩
  ·show(xZ (G9 cNO z [r.getD (jZ r.length (-1)) 0,d.getD (jZ d.length (-1)) 0])).isV;rw[eF];exact tJ
  ·show(xZ (G9 cNO z [r.getD (jZ r.length (-1)) 0,d.getD (jZ d.length (-1)) 0])).get=.int (yF (xZ (G9 cNO z [r.getD (jZ r.length (-1)) 0,d.getD (jZ d.length (-1)) 0])).get);rw[eF];rfl
  have ec':c'=yF (xZ (G9 cNO z [r.getD (jZ r.length (-1)) 0,d.getD (jZ d.length (-1)) 0])).get:=ec';rw[eF]at ec';have ec':c'=c:=ec';subst ec';obtain⟨h1,h2⟩:=hov p2 gc _ _ (I.rr (r.length-1)) (show Ru z (jo r) (jo d)=some c' by rw[hc];rfl);obtain⟨J,hlt⟩:=I.step hd hl h1 h2;have cs:=z8 pr h2;have ql:=I.ql;refine jJ (Z':=[.fr (.ob 0 z),.fr (.ints f),.fr (.ints g),.ow (.ints r),.fr (.ints d),.ow (.ints q),.fr (.int ((r.length-d.length:Nat):Int)),.fr (.int c'),v8,v9]) rfl ?_;have ix5:jZ q.length ((r.length-d.length:Nat):Int)=r.length-d.length:=by unfold jZ;rw[af (by lia)];lia
  refine⟨rfl,rfl,rfl,⟨by show -(q.length:Int)<=((r.length-d.length:Nat):Int);lia,by show((r.length-d.length:Nat):Int)<(q.length:Int);lia⟩,?_⟩;refine jJ (Z':=[.fr (.ob 0 z),.fr (.ints f),.fr (.ints g),.ow (.ints r),.fr (.ints d),.ow (.ints (q.set (r.length-d.length) c')),.fr (.int ((r.length-d.length:Nat):Int)),.fr (.int c'),v8,v9]) (by rw[<- ix5];rfl) ?_;refine⟨rfl,λi Z=>∃row v8 v9,Z=[.fr (.ob 0 z),.fr (.ints f),.fr (.ints g),.ow (.ints row),.fr (.ints d),.ow (.ints (q.set (r.length-d.length) c')),.fr (.int ((r.length-d.length:Nat):Int)),.fr (.int c'),v8,v9]/\yx z d r c' i row,⟨r,v8,v9,rfl,Lb z d r c'⟩,?_,?_⟩
  ·rintro i n Z hn ⟨row,v8,v9,rfl,ht⟩;have hn:d[i]?=some n:=hn;have hi:=(aj.mp hn).1;have en:d.getD i 0=n:=getD_at' hn;have l1:-(row.length:Int)<=((r.length-d.length:Nat):Int)+(i:Int):=by lia
   have l2:((r.length-d.length:Nat):Int)+(i:Int)<(row.length:Int):=by rw[ht.1];lia
   have ix:jZ row.length (((r.length-d.length:Nat):Int)+(i:Int))=r.length-d.length+i:=by unfold jZ;rw[af (by lia)];lia
   have ns:=z8 pr (dr i);rw[en]at ns;refine⟨⟨rfl,⟨⟨⟨.inr (.inl rfl),⟨rfl,rfl⟩,l1,l2⟩,rfl,rfl,uW ⟨by show -(2:Int)^64<n;lia,by show n<(2:Int)^64;lia⟩⟩,tJ⟩,tJ,tJ⟩,rfl,⟨rfl,rfl⟩,⟨l1,l2⟩,row.set (r.length-d.length+i) (pl z (row.getD (r.length-d.length+i) 0-c' * n)),.fr (.int i),.fr (.int n),?_,?_⟩
   ·rw[<- ix];rfl
   ·have:=PX ht hl hi;rw[en]at this;exact this
  ·rintro Z ⟨row,v8,v9,rfl,ht⟩;have ht:yx z d r c' d.length row:=ht;have et:=Qv ht hl;refine⟨rfl,tJ,⟨q.set (r.length-d.length) c',uc z d r c',.fr (.int ((r.length-d.length:Nat):Int)),.fr (.int c'),v8,v9,fuel,?_,J,by lia,hdv⟩,?_⟩
   ·rw[<- et];rfl
   ·show(kJ row).length<r.length;rw[et];exact hlt
 ·have k:¬(d.length:Int)<=(r.length:Int):=k;obtain⟨fuel,rfl⟩:∃n,fuel=n+1:=⟨fuel-1,by lia⟩;rw[Vl (by lia)]at hdv;exact⟨⟨rfl,rfl,tJ⟩,goal q r hdv.symm⟩
def Bd (r:List Int):Prop:=∀m∈r,m.natAbs<2^9000
theorem Ba {m:Int}(h:0<=m/\m<9973):m.natAbs<2^9000:=by
 have:m.natAbs<=2^14:=by lia
 exact aO this (bc (by decide) (by decide))
theorem Nu.bd {p:Int}{d r:Li}(hp:jN p)(h:Nu p d r):Bd r:=λm hm=>by obtain⟨n,_,e⟩:=FM.mem_getD hm;have:=z8 hp (h.red n);rw[e]at this;exact Ba this
theorem Gv (h:Hd p g)(f:Li):∃q,uQ p (Tz p f) (Tz p g)=.tup [.ints q,.ints (rm p (Tz p g) f)]:=by obtain⟨q,e,_⟩:=mL h f;exact⟨q,by unfold uQ;rw[e]⟩
theorem YS (hp:jN p):0<=p/\p<((2^9000:Nat):Int):=by
 have h1:=hp.1;have h2:=hp.2.1;have h3:(2:Nat)^14<=2^9000:=cF (by decide) (by decide);generalize (2:Nat)^9000=N at *
 lia
theorem uE (T:Top K mg cNO cK cR):Ok P w K mg base 4 "times_by" ["kind","one","other","g"] (Xb K (pX cR) (λas=>∃p a b g,as=[.ob 0 p,.ints a,.ints b,.ints g]/\Hd p g/\a.length+b.length<=200/\Bd a/\Bd b) λas=>match as with
  |[.ob 0 p,.ints a,.ints b,.ints g]=>rm p (Tz p g) (jq a b)
  |_=>[]):=by
 refine w5 T.KJ Ij (λas ⟨a,b,c,d,h,_⟩=>by rw[h];rfl) (λf cdv A outer s H E hr=>⟨_,(jm (jx (xl_of (ju (xc (oh T) hr (jh (xv 0) (jh (jY (tW (Rz T) hr (jh (xv 0) (jh (xl 1) (jh (xl 2) jk))))) (jh (xl 3) jk)))) jj (λ_ _=>rfl))))),λas hp=>?_⟩);obtain⟨p,a,b,g,rfl,ok,hl,ha,hb⟩:=hp;obtain⟨q0,q9⟩:=YS ok.pr;have el:(Tz p (jq (Tz p a) (Tz p b))).length<=200:=by rw[Hq];refine aC (m8 _ _) ?_;unfold jq;rw[aa,aq];exact hl
 obtain⟨q,e⟩:=Gv ok (Tz p (jq (Tz p a) (Tz p b)));refine⟨⟨⟨⟨⟨rfl,⟨⟨rfl,rfl,rfl,tJ⟩,p,a,b,rfl,q0,q9,by lia,ha,hb⟩,rfl,tJ⟩,p,_,g,rfl,ok,el⟩,tJ,?_⟩,?_⟩,?_⟩
 ·show lR (uQ p (Tz p (Tz p (jq (Tz p a) (Tz p b)))) (Tz p g)) 1;rw[e];exact⟨by show(-2:Int)<=1;decide,by show(1:Int)<2;decide⟩
 ·show jV (uQ p (Tz p (Tz p (jq (Tz p a) (Tz p b)))) (Tz p g)) 1=.ints (j8 (jV (uQ p (Tz p (Tz p (jq (Tz p a) (Tz p b)))) (Tz p g)) 1));rw[e];rfl
 ·show PV.ints (j8 (jV (uQ p (Tz p (Tz p (jq (Tz p a) (Tz p b)))) (Tz p g)) 1))=PV.ints (rm p (Tz p g) (jq a b));rw[e];show PV.ints (rm p (Tz p g) (Tz p (jq (Tz p a) (Tz p b))))=PV.ints (rm p (Tz p g) (jq a b));rw[Hq,SX ok (lF.Tz p (Tz p g) (jq a b)).symm]
theorem pw_odd1 {p:Int}{d P S P':Li}(h:Nat)(hP:lF p d P' (jq P S)):lF p d (jq P' (pw S (2*h))) (jq P (pw S (2*h+1))):=by refine(hP.mul _).trans ((lF.su p d _ _ _).trans ?_);refine(lF.comm p d _ _).trans (lF.trans ?_ (lF.comm p d _ _));exact(lF.comm p d S (pw S (2*h))).mul P
theorem Ds (T:Top K mg cNO cK cR):Ok P w K mg base 5 "raised" ["kind","f","many","g"] (Xb K (pX cR) (λas=>∃p f,∃m:Nat,∃g,as=[.ob 0 p,.ints f,.int (m:Int),.ints g]/\Hd p g/\f.length<=200/\(Tz p g).length<=100) λas=>match as with
  |[.ob 0 p,.ints f,.int m,.ints g]=>rm p (Tz p g) (pw f m.toNat)
  |_=>[]):=by
 refine w5 T.Ri pH (λas ⟨a,b,c,d,h,_⟩=>by rw[h];rfl) (λf cdv A outer s H E hr=>⟨_,(ji (jC (i:=4) pH.nd rfl (Or.inl rfl) (xl_of (ju (xc (oh T) hr (jh (xv 0) (jh (jY (m7 (jh jj jk))) (jh (xl 3) jk)))) jj (λ_ _=>rfl))))
 (ji (jC (i:=5) pH.nd rfl (Or.inl rfl) (xl_of (ju (xc (oh T) hr (jh (xv 0) (jh (xl 1) (jh (xl 3) jk)))) jj (λ_ _=>rfl))))
 (ji (jA (i:=6) pH.nd rfl (Or.inl rfl) (xn 2))
 (ji (nF aE (xF (xn 6) jj)
 (Cm (lJ (yR (m9 (xn 6) jj) jj)
 (jm (jC (i:=4) pH.nd rfl (Or.inl rfl) (Yi (uE T) hr (jh (xv 0) (jh (xl 4) (jh (xl 5) (jh (xl 3) jk)))))))
 kj)
 (ji (jC (i:=5) pH.nd rfl (Or.inl rfl) (Yi (uE T) hr (jh (xv 0) (jh (xl 5) (jh (xl 5) (jh (xl 3) jk))))))
 (jm (zE (i:=6) pH.nd rfl (Or.inl rfl) jj iop_fdiv)))))
 (jm (jx (xl 4))))))),λas hp=>?_⟩)
 obtain⟨p,f,m,g,rfl,ok,hl,hd⟩:=hp;have one200:([1]:List Int).length<=200:=by decide
 have item:∀(x:List Int) (q:List Int),uQ p (Tz p x) (Tz p g)=.tup [.ints q,.ints (rm p (Tz p g) x)]->lR (uQ p (Tz p x) (Tz p g)) 1/\jV (uQ p (Tz p x) (Tz p g)) 1=.ints (j8 (jV (uQ p (Tz p x) (Tz p g)) 1))/\j8 (jV (uQ p (Tz p x) (Tz p g)) 1)=rm p (Tz p g) x:=λx q e=>by rw[e];exact⟨⟨by show(-2:Int)<=1;decide,by show(1:Int)<2;decide⟩,rfl,rfl⟩
 obtain⟨q1,e1⟩:=Gv ok [1];obtain⟨q2,e2⟩:=Gv ok f;obtain⟨a1,a2,a3⟩:=item _ _ e1;obtain⟨b1,b2,b3⟩:=item _ _ e2;refine⟨⟨⟨⟨⟨rfl,⟨⟨tJ,tJ⟩,tJ⟩,rfl,tJ⟩,p,[1],g,rfl,ok,one200⟩,tJ,a1⟩,a2⟩,λP0 eP0=>?_⟩;have eP0:P0=j8 (jV (uQ p (Tz p [1]) (Tz p g)) 1):=eP0;rw[a3]at eP0;refine⟨⟨⟨⟨⟨rfl,rfl,rfl,tJ⟩,p,f,g,rfl,ok,hl⟩,tJ,b1⟩,b2⟩,λS0 eS0=>?_⟩;have eS0:S0=j8 (jV (uQ p (Tz p f) (Tz p g)) 1):=eS0;rw[b3]at eS0;refine⟨rfl,λl0 el0=>?_⟩;have el0:l0=(m:Int):=el0;refine jJ (Z':=[.fr (.ob 0 p),.fr (.ints f),.fr (.int (m:Int)),.fr (.ints g),.fr (.ints P0),.fr (.ints S0),.fr (.int l0)]) rfl ?_;obtain⟨_,_,iP,hP⟩:=mL ok [1];obtain⟨_,_,iS,hS⟩:=mL ok f;rw[<- eP0]at iP hP;rw[<- eS0]at iS hS;refine⟨λZ=>∃(P S:List Int) (L:Nat),Z=[.fr (.ob 0 p),.fr (.ints f),.fr (.int (m:Int)),.fr (.ints g),.fr (.ints P),.fr (.ints S),.fr (.int (L:Int))]/\Nu p (Tz p g) P/\Nu p (Tz p g) S/\lF p (Tz p g) (jq P (pw S L)) (pw f m),λZ=>(Dc Z 6).toNat,⟨P0,S0,m,by rw[el0],iP,iS,?_⟩,?_⟩
 ·refine(hP.symm.Ew (pw_mod hS.symm m)).trans ((lF.comm p _ _ _).trans (lF.one p _ _))
 rintro Z ⟨P1,S,L,rfl,iP,iS,hE⟩;have lS:=iS.len;have lP:=iP.len;have bS:=iS.bd ok.pr;have bP:=iP.bd ok.pr;refine⟨⟨rfl,tJ⟩,λk=>?_,λk=>?_⟩
 ·have k:(L:Int) > 0:=k;refine⟨λZ=>∃P',Z=[.fr (.ob 0 p),.fr (.ints f),.fr (.int (m:Int)),.fr (.ints g),.fr (.ints P'),.fr (.ints S),.fr (.int (L:Int))]/\Nu p (Tz p g) P'/\lF p (Tz p g) (jq P' (pw S (2*(L / 2)))) (pw f m),⟨⟨⟨rfl,tJ,by show(0:Int)<2;decide⟩,tJ⟩,λo=>?_,λo=>?_⟩,?_⟩
  ·have o:(L:Int) % 2=1:=o;refine⟨⟨⟨rfl,rfl,rfl,rfl,tJ⟩,p,P1,S,g,rfl,ok,by lia,bP,bS⟩,λP' eP'=>⟨P',rfl,?_,?_⟩⟩
   ·rw[eP'];exact(mL ok (jq P1 S)).choose_spec.2.1
   ·have h1:lF p (Tz p g) P' (jq P1 S):=by rw[eP'];exact(mL ok (jq P1 S)).choose_spec.2.2.symm
    have e:L=2*(L / 2)+1:=by lia
    refine(pw_odd1 (L / 2) h1).trans ?_;rw[<- e];exact hE
  ·have o:¬(L:Int) % 2=1:=o;refine⟨P1,rfl,iP,?_⟩;have e:2*(L / 2)=L:=by lia
   rw[e];exact hE
  rintro Z ⟨P',rfl,iP',hE'⟩;refine⟨⟨⟨rfl,rfl,rfl,rfl,tJ⟩,p,S,S,g,rfl,ok,by lia,bS,bS⟩,λS' eS'=>?_⟩;have eS':S'=rm p (Tz p g) (jq S S):=eS';have iS':Nu p (Tz p g) S':=by rw[eS'];exact(mL ok (jq S S)).choose_spec.2.1
  have hS':lF p (Tz p g) S' (jq S S):=by rw[eS'];exact(mL ok (jq S S)).choose_spec.2.2.symm
  refine⟨rfl,tJ,⟨by decide,by decide⟩,λl el=>⟨⟨P',S',L / 2,?_,iP',iS',(pw_even hS').trans hE'⟩,?_⟩⟩
  ·have el:l=(L:Int) / 2:=el;have e:(L:Int) / 2=((L / 2:Nat):Int):=by lia
   rw[e]at el;rw[el];rfl
  ·have el:l=(L:Int) / 2:=el;show l.toNat<((L:Nat):Int).toNat;lia
 ·have k:¬(L:Int) > 0:=k;have e:L=0:=by lia
  subst e;refine⟨rfl,?_⟩;show PV.ints P1=PV.ints (rm p (Tz p g) (pw f ((m:Nat):Int).toNat));rw[aA,Rk ok.nz iP (hE.symm.trans (lF.one p _ _))]
theorem Vs (h:jN p){d:Nat}(hd:(d:Int) ∣ p):d=1\/(d:Int)=p:=by
 obtain⟨h2,_,hn⟩:=h;obtain⟨c,hc⟩:=hd;by_cases d1:d=1
 ·exact .inl d1
 have d0:d≠0:=λz=>by rw[z]at hc;simp at hc;lia
 have c0:0<c:=by
  rcases Int.lt_or_le 0 c with h|h
  ·exact h
  ·have:=bX (show(0:Int)<=d by lia) h;lia
 by_cases c1:c=1
 ·right;rw[hc,c1,bM]
 exfalso;by_cases le:(d:Int)<=c
 ·have sq:(d:Int)*d<=p:=by rw[hc];exact bB le (by lia)
  exact hn d (by lia) sq (by rw[hc];exact Int.mul_emod_right _ _)
 ·have sq:c*c<=p:=by rw[hc];exact Int.mul_le_mul_of_nonneg_right (by lia) (by lia)
  exact hn c (by lia) sq (by rw[hc];exact Int.mul_emod_left _ _)
theorem Gr {p b:Int}(h:jN p)(hb:¬b % p=0)(m:Nat):Int.gcd b (p^m)=1:=by
 have g1:Int.gcd b p=1:=by
  rcases Vs h (d:=Int.gcd b p) (Int.gcd_dvd_right ..) with g|g
  ·exact g
  ·exfalso;have:=Int.gcd_dvd_left b p;rw[g]at this;exact hb (bW this)
 unfold Int.gcd at g1 ⊢;rw[Int.natAbs_pow];exact Nat.Coprime.pow_right m g1
theorem ue (f:Li)(n:Nat):cm f [1] n=f.getD n 0:=by
 rw[jG,nZ];by_cases c:n=0
 ·rw[af c,b9,bH]
 ·rw[ae c,lV,b9,bH]
def Sm (a b:List Int):Prop:=∀n,a.getD n 0=b.getD n 0
theorem Sm.ZL (h:Sm a b):lF p d a b:=.of λn=>by rw[h n,cq];exact aU p
def zN (c:Int)(a:List Int):List Int:=a.map λx=>c*x
theorem jR (c:Int)(a:Li)(n:Nat):(zN c a).getD n 0=c*a.getD n 0:=ni _ (aT c) a n
theorem lF.add (h:lF p d a b)(k:lF p d c e):lF p d (jX a c) (jX b e):=by
 obtain⟨Q,h⟩:=h;obtain⟨S,k⟩:=k;refine⟨jX Q S,λn=>?_⟩;rw[rC,jz,jz];have e:a.getD n 0+c.getD n 0-(b.getD n 0+e.getD n 0)-(cm Q d n+cm S d n)=(a.getD n 0-b.getD n 0-cm Q d n)+(c.getD n 0-e.getD n 0-cm S d n):=by lia
 rw[e];exact bD (h n) (k n)
theorem lF.abo (c:Int)(h:lF p d a b):lF p d (zN c a) (zN c b):=by
 obtain⟨Q,h⟩:=h;refine⟨zN c Q,λn=>?_⟩;have e1:cm (zN c Q) d n=c*cm Q d n:=by unfold cm;rw[<- n8];exact jw λi _=>by rw[jR,bG]
 rw[e1,jR,jR,<- ck,<- ck];exact aK (h n)
def Dv (p:Int)(d a:List Int):Prop:=lF p d a []
def Lc (p:Int)(f g r:List Int):Prop:=∃s t:List Int,∀n,p ∣ r.getD n 0-(cm s f n+cm t g n)
theorem Rt (f:Li)(n:Nat):cm [1] f n=f.getD n 0:=by rw[jG,ue]
theorem W2 (c:Int)(f:Li)(n:Nat):cm [c] f n=c*f.getD n 0:=by
 rw[nZ];by_cases h:n=0
 ·rw[af h,bH]
 ·rw[ae h,lV,bH]
theorem Lc.left (p:Int)(f g:Li):Lc p f g f:=⟨[1],[],λn=>by rw[Rt,lV,bH,cq];exact aU p⟩
theorem Lc.right (p:Int)(f g:Li):Lc p f g g:=⟨[],[1],λn=>by rw[Rt,lV,cY,cq];exact aU p⟩
theorem Lc.add (h:Lc p f g r)(k:Lc p f g s):Lc p f g (jX r s):=by
 obtain⟨a,b,h⟩:=h;obtain⟨c,d,k⟩:=k;refine⟨jX a c,jX b d,λn=>?_⟩;rw[rC,rC,jz];have e:r.getD n 0+s.getD n 0-(cm a f n+cm c f n+(cm b g n+cm d g n))=(r.getD n 0-(cm a f n+cm b g n))+(s.getD n 0-(cm c f n+cm d g n)):=by lia
 rw[e];exact bD (h n) (k n)
theorem Lc.congr (h:Lc p f g r)(k:∀n,p ∣ s.getD n 0-r.getD n 0):Lc p f g s:=by
 obtain⟨a,b,h⟩:=h;refine⟨a,b,λn=>?_⟩;have e:s.getD n 0-(cm a f n+cm b g n)=(s.getD n 0-r.getD n 0)+(r.getD n 0-(cm a f n+cm b g n)):=by lia
 rw[e];exact bD (k n) (h n)
theorem Lc.mul (q:Li)(h:Lc p f g r):Lc p f g (jq q r):=by obtain⟨a,b,h⟩:=h;refine⟨jq q a,jq q b,λn=>?_⟩;have k:=zK (p:=p) (a:=r) (b:=jX (jq a f) (jq b g)) (c:=q) (λi=>by rw[jz,jn,jn];exact h i) n;rw[rC,jG r q,jG (jq a f) q,jG (jq b g) q]at k;rw[jn,mR,mR];exact k
theorem Lc.trans (hb:Lc p f g b)(hr:Lc p f g r)(hx:Lc p b r x):Lc p f g x:=by obtain⟨s,t,hx⟩:=hx;refine((hb.mul s).add (hr.mul t)).congr λn=>?_;rw[jz,jn,jn];exact hx n
theorem Dv.N6 (hf:Dv p d f)(hg:Dv p d g)(h:Lc p f g r):Dv p d r:=by
 obtain⟨s,t,h⟩:=h;have z:∀s:List Int,lF p d (jq [] s) []:=λs=>Sm.ZL λn=>by rw[jn,lV];rfl
 have k:∀{f:List Int},Dv p d f->∀s,lF p d (jq s f) []:=λ{f} hf s=>(lF.comm p d s f).trans ((lF.mul hf s).trans (z s));have e:lF p d r (jX (jq s f) (jq t g)):=.of λn=>by rw[jz,jn,jn];exact h n
 exact e.trans (((k hf s).add (k hg t)).trans (.refl p d _))
theorem Lc.dv (h:Lc p b [] f):Dv p b f:=by obtain⟨s,t,h⟩:=h;refine⟨s,λn=>?_⟩;have k:=h n;rw[jG t [],lV,bH]at k;show p ∣ f.getD n 0-0-cm s b n;rw[aQ];exact k
theorem Dv.self (p:Int)(d:Li):Dv p d d:=(Lc.left p d []).dv
theorem oR:j9 []:=λh=>absurd rfl h
theorem Ej (h:jo r=1):r≠[]:=λe=>by rw[e]at h;exact absurd h (by decide)
theorem Tj (fr:j9 r)(rr:∀n,pl p (r.getD n 0)=r.getD n 0)(r1:r=[]\/jo r=1)(fs:j9 s)(rs:∀n,pl p (s.getD n 0)=s.getD n 0)(s1:s=[]\/jo s=1)(h:Dv p r s)(k:Dv p s r):r=s:=by
 have nilE:∀{s:List Int},j9 s->(∀n,pl p (s.getD n 0)=s.getD n 0)->Dv p [] s->s=[]:=λ{s} fs rs h=>by obtain⟨Q,h⟩:=h;refine oU fs oR λn=>tG (rs n) (by show pl p 0=0;exact lW p) ?_;have:=h n;rw[jG,lV,aQ]at this;exact this
 rcases r1 with r1|r1
 ·subst r1;exact(nilE fs rs h).symm
 rcases s1 with s1|s1
 ·subst s1;exact nilE fr rr k
 have shorter:∀{r s:List Int},j9 r->(∀n,pl p (r.getD n 0)=r.getD n 0)->jo r=1->jo s=1->Dv p s r->s.length<=r.length:=λ{r s} fr rr r1 s1 k=>by
  by_cases c:s.length<=r.length
  ·exact c
  ·have nz:∀x,p ∣ x*jo s->p ∣ x:=λx h=>by rw[s1,bM]at h;exact h
   exact absurd (rZ nz ⟨fr,rr,by lia⟩ ⟨oR,λn=>by show pl p 0=0;exact lW p,by show 0<s.length;lia⟩ k) (Ej r1)
 have l1:=shorter fr rr r1 s1 k;have l2:=shorter fs rs s1 r1 h;have l0:=lP (Ej r1);have nz:∀x,p ∣ x*jo s->p ∣ x:=λx h=>by rw[s1,bM]at h;exact h
 have e0:r.getD (r.length-1) 0=1:=r1;have e1:s.getD (s.length-1) 0=1:=s1;have le:r.length=s.length:=by lia
 have tl:(Tz p (Ff r s)).length<=r.length-1:=m6 (kW p _) λn hn=>by
  rw[lD,sE];by_cases c:n=r.length-1
  ·rw[c,e0,le,e1];exact lW p
  ·rw[jr (xs:=r) (by lia),jr (xs:=s) (by lia)];exact lW p
 have d:lF p s (Ff r s) []:=by
  have a:Sm (Ff r s) (jX r (zN (-1) s)):=λn=>by rw[sE,jz,jR];lia
  exact a.ZL.trans ((lF.add k ((Dv.self p s).abo (-1))).trans (.refl p s _))
 have z:=rZ nz ⟨kW p (Ff r s),oA p _,by lia⟩ ⟨oR,λn=>by show pl p 0=0;exact lW p,by show 0<s.length;lia⟩ ((lF.Tz p s _).symm.trans d);refine oU fr fs λn=>tG (rr n) (rs n) ?_;have e2:(Tz p (Ff r s)).getD n 0=0:=by rw[z];rfl
 rw[lD,sE]at e2;have:=nR p (r.getD n 0-s.getD n 0);rw[e2,Int.zero_sub]at this;exact bq.mp this
structure GC (p:Int)(f g r:List Int):Prop where
 form:j9 r
 red:∀n,pl p (r.getD n 0)=r.getD n 0
 one:r=[]\/jo r=1
 lc:Lc p f g r
 d1:Dv p r f
 d2:Dv p r g
theorem GC.abu (h:GC p f g r)(k:GC p f g s):r=s:=
 Tj h.form h.red h.one k.form k.red k.one (Dv.N6 h.d1 h.d2 k.lc) (Dv.N6 k.d1 k.d2 h.lc)
open Classical in
def pick (A:List Int->Prop):List Int:=if h:∃r,A r then Classical.choose h else[]
def gc (p:Int)(f g:List Int):List Int:=pick (GC p f g)
theorem JG (h:GC p f g r):gc p f g=r:=by
 have ex:∃r,GC p f g r:=⟨r,h⟩;have e:gc p f g=Classical.choose ex:=by unfold gc pick;rw[fV ex]
 rw[e];exact(fw ex).abu h
structure Ig (p:Int)(f g b r:List Int):Prop where
 i1:Lc p f g b
 i2:Lc p f g r
 i3:Lc p b r f
 i4:Lc p b r g
theorem Ig.symm (h:Ig p f g b r):Ig p b r f g:=⟨h.i3,h.i4,h.i1,h.i2⟩
theorem Ig.gc (h:Ig p f g b r)(k:GC p b r x):GC p f g x:=⟨k.form,k.red,k.one,Lc.trans h.i1 h.i2 k.lc,Dv.N6 k.d1 k.d2 h.i3,Dv.N6 k.d1 k.d2 h.i4⟩
theorem Ny (h:Ig p f g b r):gc p f g=gc p b r:=by have e:GC p f g=GC p b r:=funext λx=>propext ⟨h.symm.gc,h.gc⟩;show pick (GC p f g)=pick (GC p b r);rw[e]
theorem Ig.step (h:lF p r b c):Ig p b r r c:=by
 obtain⟨Q,h⟩:=h;refine⟨.right p b r,⟨[1],zN (-1) Q,λn=>?_⟩,⟨Q,[1],λn=>?_⟩,.left p r c⟩
 ·have e:cm (zN (-1) Q) r n = -cm Q r n:=by have k:=n8 (-1) (λi=>Q.getD i 0*r.getD (n-i) 0) (n+1);unfold cm;rw[eX]at k;rw[<- k];exact jw λi _=>by rw[jR,bG]
  rw[Rt,e];have e2:c.getD n 0-(b.getD n 0 + -cm Q r n) = -(b.getD n 0-c.getD n 0-cm Q r n):=by lia
  rw[e2];exact bq.mpr (h n)
 ·rw[Rt];have e2:b.getD n 0-(cm Q r n+c.getD n 0)=b.getD n 0-c.getD n 0-cm Q r n:=by lia
  rw[e2];exact h n
theorem Ig.pG (h:∀n,p ∣ f.getD n 0-b.getD n 0)(k:∀n,p ∣ g.getD n 0-r.getD n 0):Ig p f g b r:=by
 have neg:∀{x y:Int},p ∣ x-y->p ∣ y-x:=λ{x y} h=>by
  have e:y-x = -(x-y):=by lia
  rw[e];exact bq.mpr h
 exact⟨(Lc.left p f g).congr λn=>neg (h n),(Lc.right p f g).congr λn=>neg (k n),(Lc.left p b r).congr h,(Lc.right p b r).congr k⟩
def yS (p:Int)(b:List Int):Int:=if b=[] then 1 else pl p (1*tu (jo b) p)
def qP (p:Int)(b:List Int):List Int:=Tz p (b.map λm=>yS p b*m)
theorem wN (hp:jN p)(fb:j9 b)(rb:∀n,pl p (b.getD n 0)=b.getD n 0)(hb:b≠[]):Int.gcd (jo b) p=1:=by
 have h1:=fb hb;have h2:=rb (b.length-1);have p2:2<=p:=hp.1;rw[mD (by lia)]at h2;have h3:¬jo b % p=0:=by show ¬b.getD (b.length-1) 0 % p=0;rw[h2];exact h1
 have:=Gr hp h3 1;rw[iV]at this;exact this
theorem wV (fb:j9 b)(rb:∀n,pl p (b.getD n 0)=b.getD n 0):Tz p b=b:=oU (kW p b) fb λn=>by rw[lD,rb n]
theorem z9 (hp:jN p)(fb:j9 b)(rb:∀n,pl p (b.getD n 0)=b.getD n 0):GC p b [] (qP p b):=by
 by_cases hb:b=[]
 ·subst hb;have e:qP p []=[]:=rfl;rw[e];exact⟨oR,rb,.inl rfl,.left p [] [],.self p [],.self p []⟩
 have p2:2<=p:=hp.1;have g:=wN hp fb rb hb;have one:pl p 1=1:=by rw[mD (by lia)];exact bI (by decide) (by lia)
 have e0:yS p b=pl p (1*tu (jo b) p):=ae hb;obtain⟨h1,_⟩:=hov p2 g 1 (yS p b) one (by rw[e0];rfl);have ng:∀n,(qP p b).getD n 0=pl p (yS p b*b.getD n 0):=λn=>by unfold qP;rw[lD,ni _ (aT _)]
 have l0:=lP hb;have k1:(qP p b).getD (b.length-1) 0=1:=(ng _).trans h1;have l1:(qP p b).length<=b.length:=by unfold qP;refine aC (m8 _ _) ?_;rw[aa];exact ai _
 have l2:b.length<=(qP p b).length:=by
  by_cases c:b.length<=(qP p b).length
  ·exact c
  ·rw[jr (by lia)]at k1;exact absurd k1 (by decide)
 have le:(qP p b).length=b.length:=by lia
 generalize yS p b=t at *
 have ht:p ∣ t*jo b-1:=by
  have:=nR p (t*jo b);rw[h1]at this;have e:t*jo b-1 = -(1-t*jo b):=by lia
  rw[e];exact bq.mpr this
 refine⟨kW p _,oA p _,.inr ?_,⟨[t],[],λn=>?_⟩,⟨[jo b],λn=>?_⟩,.refl p _ _⟩
 ·show(qP p b).getD ((qP p b).length-1) 0=1;rw[le];exact k1
 ·rw[W2,lV,bH,ng];exact nR p _
 ·rw[W2,ng];show p ∣ b.getD n 0-0-jo b*pl p (t*b.getD n 0);have h2:=nR p (t*b.getD n 0);generalize pl p (t*b.getD n 0)=u at *
  generalize b.getD n 0=x at *
  generalize jo b=l at *
  have e:x-0-l*u = -((t*l-1)*x+l*(u-t*x)):=by rw[fg,ck,b9,b7 t l,bG];lia
  rw[e];exact bq.mpr (bD (aZ ht) (aK h2))
theorem Js (hp:jN p)(fr:j9 r)(rr:∀n,pl p (r.getD n 0)=r.getD n 0)(hr:r≠[])(hl:r.length<=200):Hd p r:=by have e:=wV fr rr;exact⟨hp,hl,by rw[e];exact hr,by rw[e];exact wN hp fr rr hr⟩
theorem Xp (hp:jN p):∀(k:Nat) (b r:Li),r.length<=k->j9 b->(∀n,pl p (b.getD n 0)=b.getD n 0)->j9 r->(∀n,pl p (r.getD n 0)=r.getD n 0)->r.length<=200->GC p b r (gc p b r)
 |k,b,[],_,fb,rb,_,_,_=>by have h:=z9 hp fb rb;rw[JG h];exact h
 |k+1,b,y::r,hk,fb,rb,fr,rr,hl=>by have ok:=Js hp fr rr (λz=>by cases z) hl;have e:=wV fr rr;obtain⟨_,_,ir,er⟩:=mL ok b;rw[e]at ir er;have il:=ir.len;have ih:=Xp hp k (y::r) (rm p (y::r) b) (by lia) fr rr ir.form ir.red (by lia);have h:=(Ig.step er).gc ih;rw[JG h];exact h
theorem Ig.tz (p:Int)(f g:Li):Ig p f g (Tz p f) (Tz p g):=by
 have k:∀(f:List Int) n,p ∣ f.getD n 0-(Tz p f).getD n 0:=λf n=>by
  rw[lD];have:=nR p (f.getD n 0);have e:f.getD n 0-pl p (f.getD n 0) = -(pl p (f.getD n 0)-f.getD n 0):=by lia
  rw[e];exact bq.mpr this
 exact Ig.pG (k f) (k g)
theorem Zw (hp:jN p)(hg:g.length<=200):GC p f g (gc p f g):=by have tl:=m8 p g;have h:=Xp hp _ (Tz p f) (Tz p g) (ai _) (kW p f) (oA p f) (kW p g) (oA p g) (by lia);have h:=(Ig.tz p f g).gc h;rw[JG h];exact h
theorem BL (T:Top K mg cNO cK cR):Ok P w K mg base 3 "turned_lead" ["kind","f"] (JD K (pX cR) (λas=>∃p b,as=[.ob 0 p,.ints b]/\jN p/\j9 b/\∀n,pl p (b.getD n 0)=b.getD n 0) λas=>match as with
  |[.ob 0 p,.ints b]=>yS p b
  |_=>0):=by
 refine w5 T.Cu zW (λas ⟨a,b,h,_⟩=>by rw[h];rfl) (λf cdv A outer s H E hr=>⟨_,(jm (jx (Uk (zJ 1) (rA (Za (Fv 0 (Aj T) hr (jh jj (jh (lL 1 (vR jj) (λ_ _=>rfl)) jk))))) jj))),λas hp=>?_⟩);obtain⟨p,b,rfl,hp,fb,rb⟩:=hp;have p2:2<=p:=hp.1;have h9:p.natAbs<2^9000:=by
  have:p.natAbs<=2^14:=by have:=hp.2.1;lia
  exact aO this (bc (by decide) (by decide))
 have o9:(1:Int).natAbs<2^9000:=aO (show(1:Int).natAbs<=2^14 by decide) (bc (by decide) (by decide));have eF:¬b=[]->G9 cNO p [1,b.getD (jZ b.length (-1)) 0]=.inl (yS p b):=λc=>by have l0:=lP c;have ld:b.getD (jZ b.length (-1)) 0=jo b:=wF b l0;have e:yS p b=pl p (1*tu (jo b) p):=ae c;rw[ld,e];exact U6 (wN hp fb rb c)
 refine⟨⟨.inl rfl,λc=>⟨⟨⟨rfl,⟨tJ,⟨.inl rfl,tJ,?_,?_⟩,tJ⟩,tJ,?_⟩,?_⟩,?_⟩,λ_=>tJ⟩,?_⟩
 ·have c:¬b=[]:=c;have l0:=lP c;show -(b.length:Int) <= -1;lia
 ·have l0:=lP c;lia
 ·exact⟨p2,h9,o9⟩
 ·show(xZ (G9 cNO p [1,b.getD (jZ b.length (-1)) 0])).isV;rw[eF c];exact tJ
 ·show(xZ (G9 cNO p [1,b.getD (jZ b.length (-1)) 0])).get=.int (yF (xZ (G9 cNO p [1,b.getD (jZ b.length (-1)) 0])).get);rw[eF c];rfl
 ·show(if ¬b=[] then PV.int (yF (xZ (G9 cNO p [1,b.getD (jZ b.length (-1)) 0])).get) else .int 1)=.int (yS p b);by_cases c:b=[]
  ·rw[ae (λz=>z c)];subst c;rfl
  ·rw[af c,eF c];rfl
theorem aaa (hp:jN p):(yS p b).natAbs<2^9000:=by
 have h:(yS p b).natAbs<=2^14:=by
  unfold yS;split
  ·decide
  ·have:=z8 hp (uf p (1*tu (jo b) p));lia
 exact aO h (bc (by decide) (by decide))
theorem sG (T:Top K mg cNO cK cR):Ok P w K mg base 4 "with_lead_one" ["kind","f"] (Hc K (pX cR) (λas=>∃p b,as=[.ob 0 p,.ints b]/\jN p/\b.length<=1000/\j9 b/\∀n,pl p (b.getD n 0)=b.getD n 0) λas=>match as with
  |[.ob 0 p,.ints b]=>qP p b
  |_=>[]):=by
 refine JL T.yW yh (λas ⟨a,b,h,_⟩=>by rw[h];rfl) (λf cdv A outer s H E hr=>⟨_,(jm (mC (tW (OJ T) hr (jh (xv 0) (jh (xl 1) (jh (ZK (BL T) hr (jh (xv 0) (jh (xl 1) jk))) jk)))))),λas hp=>?_⟩);obtain⟨p,b,rfl,hp,hl,fb,rb⟩:=hp;refine⟨⟨⟨rfl,rfl,⟨⟨rfl,rfl,tJ⟩,p,b,rfl,hp,fb,rb⟩,tJ⟩,p,b,yS p b,rfl,hl,aaa hp,λm hm=>?_⟩,rfl⟩;obtain⟨n,_,e⟩:=FM.mem_getD hm;have:=z8 hp (rb n);rw[e]at this;exact Ba this
theorem yf (T:Top K mg cNO cK cR):Ok P w K mg base 5 "common" ["kind","f","g"] (Hc K (pX cR) (λas=>∃p f g,as=[.ob 0 p,.ints f,.ints g]/\jN p/\f.length<=200/\g.length<=200) λas=>match as with
  |[.ob 0 p,.ints f,.ints g]=>gc p f g
  |_=>[]):=by
 refine JL T.Rg qC (λas ⟨a,b,c,h,_⟩=>by rw[h];rfl) (λf cdv A outer s H E hr=>⟨_,(ji (jC (i:=3) qC.nd rfl (Or.inl rfl) (jY (tW (jW T) hr (jh (xv 0) (jh (xl 1) jk)))))
 (ji (jC (i:=4) qC.nd rfl (Or.inl rfl) (jY (tW (jW T) hr (jh (xv 0) (jh (xl 2) jk)))))
 (ji (nF aE (zJ 4)
 (ji (jC (i:=5) qC.nd rfl (Or.inl rfl) (xl_of (ju (xc (oh T) hr (jh (xv 0) (jh (xl 3) (jh (xl 4) jk)))) jj (λ_ _=>rfl))))
 (ji (jC (i:=3) qC.nd rfl (Or.inl rfl) (xl 4))
 (jm (jC (i:=4) qC.nd rfl (Or.inl rfl) (xl 5))))))
 (jm (mC (tW (sG T) hr (jh (xv 0) (jh (xl 3) jk)))))))),λas hp=>?_⟩)
 obtain⟨p,f,g,rfl,hp,hf,hg⟩:=hp;refine⟨⟨⟨rfl,rfl,tJ⟩,p,f,rfl,by lia⟩,λb0 eb0=>?_⟩;have eb0:b0=Tz p f:=eb0;refine⟨⟨⟨rfl,rfl,tJ⟩,p,g,rfl,by lia⟩,λr0 er0=>?_⟩;have er0:r0=Tz p g:=er0;have l1:=m8 p f;have l2:=m8 p g;have i0:gc p b0 r0=gc p f g:=by rw[eb0,er0];exact(Ny (Ig.tz p f g)).symm
 refine jJ (Z':=[.fr (.ob 0 p),.fr (.ints f),.fr (.ints g),.fr (.ints b0),.fr (.ints r0),.un]) rfl ?_;refine⟨λZ=>∃b r v5,Z=[.fr (.ob 0 p),.fr (.ints f),.fr (.ints g),.fr (.ints b),.fr (.ints r),v5]/\j9 b/\(∀n,pl p (b.getD n 0)=b.getD n 0)/\b.length<=200/\j9 r/\(∀n,pl p (r.getD n 0)=r.getD n 0)/\r.length<=200/\gc p b r=gc p f g,λZ=>(getL Z 4).length,⟨b0,r0,.un,rfl,by rw[eb0];exact kW p f,by rw[eb0];exact oA p f,by rw[eb0];lia,by rw[er0];exact kW p g,by rw[er0];exact oA p g,by rw[er0];lia,i0⟩,?_⟩;rintro Z ⟨b,r,v5,rfl,fb,rb,bl,fr,rr,rl,eg⟩;refine⟨.inl rfl,λk=>?_,λk=>?_⟩
 ·have ok:=Js hp fr rr k rl;have et:=wV fr rr;obtain⟨q,e⟩:=Gv ok b;obtain⟨_,_,ir,er⟩:=mL ok b;rw[et]at ir er e;have il:=ir.len;have e:uQ p (Tz p b) (Tz p r)=.tup [.ints q,.ints (rm p r b)]:=by rw[et];exact e
  refine⟨⟨⟨⟨⟨rfl,rfl,rfl,tJ⟩,p,b,r,rfl,ok,bl⟩,tJ,?_⟩,?_⟩,λc ec=>?_⟩
  ·show lR (uQ p (Tz p b) (Tz p r)) 1;rw[e];exact⟨by show(-2:Int)<=1;decide,by show(1:Int)<2;decide⟩
  ·show jV (uQ p (Tz p b) (Tz p r)) 1=.ints (j8 (jV (uQ p (Tz p b) (Tz p r)) 1));rw[e];rfl
  have ec:c=j8 (jV (uQ p (Tz p b) (Tz p r)) 1):=ec;rw[e]at ec;have ec:c=rm p r b:=ec;rw[<- ec]at ir er il;refine⟨rfl,λb1 eb1=>⟨rfl,λr1 er1=>⟨⟨r,c,.fr (.ints c),?_,fr,rr,rl,ir.form,ir.red,by lia,?_⟩,?_⟩⟩⟩
  ·have er1:r1=c:=er1;rw[eb1,er1];rfl
  ·rw[<- eg];exact(Ny (Ig.step er)).symm
  ·have er1:r1=c:=er1;show r1.length<r.length;rw[er1];exact il
 ·have k:¬¬r=[]:=k;have k:r=[]:=fh.mp k;subst k;refine⟨⟨⟨rfl,rfl,tJ⟩,p,b,rfl,hp,by lia,fb,rb⟩,?_⟩;show qP p b=gc p f g;rw[<- eg];exact(JG (z9 hp fb rb)).symm
structure Fo (p:Int)(f:List Int):Prop where
 form:j9 f
 red:∀n,pl p (f.getD n 0)=f.getD n 0
theorem Fo.tz (p:Int)(f:Li):Fo p (Tz p f):=⟨kW p f,oA p f⟩
theorem Fo.bd (hp:jN p)(h:Fo p f):Bd f:=λm hm=>by obtain⟨n,_,e⟩:=FM.mem_getD hm;have:=z8 hp (h.red n);rw[e]at this;exact Ba this
theorem Fo.at (hp:jN p)(h:Fo p f):∀m∈f,0<=m/\m<p:=λm hm=>by obtain⟨n,_,e⟩:=FM.mem_getD hm;have p2:2<=p:=hp.1;have:=h.red n;rw[e,mD (by lia)]at this;have h1:=bE m (show p≠0 by lia);have h2:=bj m (show 0<p by lia);lia
theorem Zb (p:Int)(f:Li)(n:Nat):p ∣ (Tz p f).getD n 0-f.getD n 0:=by rw[lD];exact nR p _
theorem Td (T:Top K mg cNO cK cR):Ok P w K mg base 3 "slope" ["kind","f"] (Hc K (pX cR) (λas=>∃z f,as=[.ob 0 z,.ints f]/\f.length<=1000) λas=>match as with
  |[.ob 0 z,.ints f]=>kJ (((f.mapIdx λk n=>(k:Int)*n).drop 1).map (pl z))
  |_=>[]):=by
 refine JL T.Vx Ux (λas ⟨a,b,h,_⟩=>by rw[h];rfl) (λf cdv A outer s H E hr=>⟨_,(jm (mC (tW (jW T) hr (jh (xv 0) (jh (jY (rK (jY (Y5 (N':=["at","number"]) (cap:=[]) (ph rfl rfl rfl rfl tJ tJ rfl) rfl (by rfl) T.mF (xl 1) (λ_ _ _=>(pg_tup rfl (pgs_cons (pZ 0) (pgs_cons (pZ 1) pgs_nil)))) (λ_ _ _=>(pC (xn 0) (xn 1))))) (lU jj) pL (λ_ _=>.inl rfl))) jk))))),λas hp=>?_⟩);obtain⟨z,f,rfl,hf⟩:=hp;refine⟨⟨⟨rfl,⟨⟨⟨rfl,hf,λk n e=>⟨rfl,rfl,?_⟩⟩,tJ,tJ⟩,tJ⟩⟩,z,_,rfl,?_⟩,?_⟩
 ·have hk:k<f.length:=(aj.mp e).1;exact GQ ⟨by show -(2:Int)^64<(k:Int);lia,by show(k:Int)<(2:Int)^64;lia⟩
 ·refine aC (z7 _ _ _) ?_;rw[di];exact hf
 ·show kJ ((rM (f.mapIdx λk n=>(k:Int)*n) (some ((1:Nat):Int)) none).map (pl z))=_;rw[uT];rfl
theorem QL (T:Top K mg cNO cK cR):Ok P w K mg base 2 "value" ["kind","f","number"] (JD K (pX cR) (λas=>∃z f n,as=[.ob 0 z,.ints f,.int n]/\0<=z/\z<((2^9000:Nat):Int)/\f.length<=80/\n.natAbs<=2^100/\∀m∈f,m.natAbs<=2^200) λas=>match as with
  |[.ob 0 z,.ints f,.int n]=>pl z (ev f n)
  |_=>0):=by
 refine w5 T.Vg uA (λas ⟨a,b,c,h,_⟩=>by rw[h];rfl) (λf cdv A outer s H E hr=>⟨_,(ji (jA (i:=3) uA.nd rfl (Or.inl rfl) (qO 0 (pU T) hr (jh (xn 2) jk)))
 (ji (jA (i:=4) uA.nd rfl (Or.inl rfl) jj)
 (ji (Tg (k:=5) aE rfl (by rfl) T.Ks (xl 1) uA.nd rfl (Or.inl rfl)
 (jm (jA (i:=4) uA.nd rfl (Or.inl rfl) (qO 0 (pU T) hr (jh (lG (pC (xn 4) (xn 3)) (xn 5)) jk)))))
 (jm (jx (xn 4)))))),λas hp=>?_⟩)
 obtain⟨z,f,n,rfl,hz,hz2,hf,hn,hm⟩:=hp;refine⟨⟨rfl,⟨rfl,tJ⟩,tJ,tJ⟩,λpn ep=>?_⟩;have ep:pn=pl z n:=ep;refine⟨tJ,λt0 e0=>?_⟩;refine⟨rfl,λi Z=>∃v,Z=[.fr (.ob 0 z),.fr (.ints f),.fr (.int n),.fr (.int pn),.fr (.int (pl z (ev (f.drop (f.length-i)) n))),v],⟨.un,?_⟩,?_,?_⟩
 ·have e:pl z (ev (f.drop (f.length-0)) n)=t0:=by
   rw[gq,List.drop_length,e0];unfold pl;split
   ·rfl
   ·exact Int.zero_emod z
  rw[e];rfl
 ·rintro i m Z hi he ⟨v,rfl⟩;have hi:i<f.length:=hi;have ed:=Qi hi he;have hs:(ev (f.drop (f.length-i)) n).natAbs<2^9000:=Tf hn (by rw[aY];lia) λk hk=>hm k (List.mem_of_mem_drop hk);have hs2:n.natAbs<2^9000:=aO hn (bc (by decide) (by decide));refine⟨⟨rfl,⟨⟨⟨rfl,rfl,?_⟩,rfl⟩,tJ⟩,tJ,tJ⟩,λu e=>?_⟩
  ·rw[ep];exact qI (n:=9000) (m:=9000) (zU hz hz2 hs) (zU hz hz2 hs2)
  ·have e:u=pl z (pl z (ev (f.drop (f.length-i)) n)*pn+m):=e;rw[ep,horner]at e;have e':u=pl z (ev (f.drop (f.length-(i+1))) n):=by rw[ed,e];rfl
   subst e';exact⟨_,rfl⟩
 ·rintro Z ⟨v,rfl⟩;refine⟨rfl,?_⟩;show PV.int (pl z (ev (f.drop (f.length-f.length)) n))=PV.int (pl z (ev f n));rw[Nat.sub_self,iI]
def dl (f:List Int):List Int:=(List.range f.length).map λ(n:Nat)=>((n:Int)+1)*f.getD (n+1) 0
theorem sW (f:Li)(n:Nat):(dl f).getD n 0=((n:Int)+1)*f.getD (n+1) 0:=by
 unfold dl;by_cases h:n<f.length
 ·rw[jB (by rw[aa,aq];exact h),br,bn]
 ·rw[jr (by rw[aa,aq];lia),jr (by lia),aT]
theorem aaT (u v:Li)(n:Nat):((n:Int)+1)*cm u v (n+1)=cm (dl u) v n+cm u (dl v) n:=by
 have e1:cm (dl u) v n=sm (n+1+1) λi=>(i:Int)*(u.getD i 0*v.getD (n+1-i) 0):=by rw[qx];unfold cm;rw[show((0:Nat):Int)*(u.getD 0 0*v.getD (n+1-0) 0)=0 by rw[Int.natCast_zero,bR],cY];refine jw λi _=>?_;rw[sW,show n+1-(i+1)=n-i by lia,bG];rfl
 have e2:cm u (dl v) n=sm (n+1+1) λi=>((n:Int)+1-(i:Int))*(u.getD i 0*v.getD (n+1-i) 0):=by show sm (n+1) _=sm (n+1) _+((n:Int)+1-((n+1:Nat):Int))*_;rw[show(n:Int)+1-((n+1:Nat):Int)=0 by lia,bR,bH];refine jw λi hi=>?_;rw[sW,show n-i+1=n+1-i by lia,show((n-i:Nat):Int)+1=(n:Int)+1-(i:Int) by lia,gH]
 rw[e1,e2,<- sZ];unfold cm;rw[<- n8];refine jw λi _=>?_;rw[<- eK];congr 1;lia
theorem XN (u v:Li)(n:Nat):(dl (jq u v)).getD n 0=cm (dl u) v n+cm u (dl v) n:=by rw[sW,jn,aaT]
def Co (p:Int)(f g:List Int):Prop:=Lc p f g [1]
def Sq (p:Int)(f:List Int):Prop:=Co p f (dl f)
theorem aa4 (b a:Int)(f:Li)(n:Nat):cm [b,a] f n=b*f.getD n 0+if n=0 then 0 else a*f.getD (n-1) 0:=by
 rw[nZ];congr 1;split
 ·rfl
 ·rw[W2]
def pY:Nat->Nat->Int
 |_,0=>1
 |0,_+1=>0
 |n+1,k+1=>pY n k+pY n (k+1)
theorem uo (n:Nat):pY n 0=1:=by cases n<;>rfl
theorem uV:∀{n k:Nat},n<k->pY n k=0
 |0,k+1,_=>rfl
 |n+1,k+1,h=>by show pY n k+pY n (k+1)=0;rw[uV (by lia),uV (by lia)];rfl
theorem Hh:∀n,pY n n=1
 |0=>rfl
 |n+1=>by show pY n n+pY n (n+1)=1;rw[Hh n,uV (by lia)];rfl
theorem zO:∀n k:Nat,((k:Int)+1)*pY (n+1) (k+1)=((n:Int)+1)*pY n k
 |0,0=>by rfl
 |0,k+1=>by have e1:pY (0+1) (k+1+1)=0:=uV (by lia);have e2:pY 0 (k+1)=0:=rfl;rw[e1,e2,aT,aT]
 |n+1,0=>by have h:=zO n 0;have e:pY (n+1+1) (0+1)=pY (n+1) 0+pY (n+1) (0+1):=rfl;rw[e,fW,h,uo,uo];lia
 |n+1,j+1=>by
  have h1:=zO n (j+1);have h2:=zO n j;have e:pY (n+1+1) (j+1+1)=pY (n+1) (j+1)+pY (n+1) (j+1+1):=rfl;have e2:pY (n+1) (j+1)=pY n j+pY n (j+1):=rfl;rw[e,fW,h1];have e3:(((j+1:Nat):Int)+1)*pY (n+1) (j+1)=((j:Int)+1)*pY (n+1) (j+1)+pY (n+1) (j+1):=by rw[eK,b9];rfl
  rw[e3,h2];have e4:(((n+1:Nat):Int)+1)*pY (n+1) (j+1)=((n:Int)+1)*pY (n+1) (j+1)+pY (n+1) (j+1):=by rw[eK (((n+1:Nat):Int)),b9];rfl
  have e5:((n:Int)+1)*pY (n+1) (j+1)=((n:Int)+1)*pY n j+((n:Int)+1)*pY n (j+1):=by rw[e2,fW]
  rw[e4,e5];lia
theorem Wc (hp:jN p){n j:Nat}(hn:(n:Int)+1=p)(hj:j<n):p ∣ pY (n+1) (j+1):=by
 have h:=zO n j;have g:Int.gcd ((j:Int)+1) (p^1)=1:=Gr hp (by rw[bI (by lia) (by lia)];lia) 1;rw[iV]at g;have d:p ∣ ((j:Int)+1)*pY (n+1) (j+1):=by rw[h,hn];exact Int.dvd_mul_right _ _
 have d2:=dS.mpr d;rw[iH]at d2;have g2:Nat.Coprime p.natAbs ((j:Int)+1).natAbs:=by show Nat.gcd p.natAbs ((j:Int)+1).natAbs=1;rw[Nat.gcd_comm];exact g
 exact dS.mp (g2.dvd_of_dvd_mul_left d2)
theorem RM {F:Nat->Nat->Nat->Int}(h:∀i j n,F i j (n+1)=F (i+1) j n+F i (j+1) n):∀n i j,F i j n=sm (n+1) λk=>pY n k*F (i+k) (j+(n-k)) 0
 |0,i,j=>by show F i j 0=0+1*F (i+0) (j+(0-0)) 0;rw[b9,cY];rfl
 |n+1,i,j=>by
  rw[h,RM h n (i+1) j,RM h n i (j+1),qx (λk=>pY (n+1) k*F (i+k) (j+(n+1-k)) 0) (n+1)];have e0:sm (n+1) (λk=>pY n k*F (i+k) (j+1+(n-k)) 0)=sm (n+2) (λk=>pY n k*F (i+k) (j+1+(n-k)) 0):=
   (zm (by lia) λk h1 h2=>by rw[uV (by lia),bR]).symm
  rw[e0,qx (λk=>pY n k*F (i+k) (j+1+(n-k)) 0) (n+1)];have e1:pY (n+1) 0*F (i+0) (j+(n+1-0)) 0=pY n 0*F (i+0) (j+1+(n-0)) 0:=by
   rw[uo,uo];have:j+(n+1-0)=j+1+(n-0):=by lia
   rw[this]
  have e2:sm (n+1) (λk=>pY (n+1) (k+1)*F (i+(k+1)) (j+(n+1-(k+1))) 0)=sm (n+1) (λk=>pY n k*F (i+1+k) (j+(n-k)) 0)+sm (n+1) (λk=>pY n (k+1)*F (i+(k+1)) (j+1+(n-(k+1))) 0):=by
   rw[<- sZ];refine jw λk hk=>?_;have a1:i+1+k=i+(k+1):=by lia
   have a2:j+(n+1-(k+1))=j+(n-k):=by lia
   have a3:pY (n+1) (k+1)=pY n k+pY n (k+1):=rfl;rw[a1,a2,a3,eK];by_cases c:k=n
   ·rw[uV (show n<k+1 by lia),bR,bR]
   ·have a4:j+1+(n-(k+1))=j+(n-k):=by lia
    rw[a4]
  rw[e1,e2];lia
theorem Uz (hp:jN p){F:Nat->Nat->Nat->Int}(h:∀i j n,F i j (n+1)=F (i+1) j n+F i (j+1) n):p ∣ F 0 0 p.toNat-(F p.toNat 0 0+F 0 p.toNat 0):=by
 have p2:2<=p:=hp.1;obtain⟨n,hn⟩:∃n,p.toNat=n+1:=⟨p.toNat-1,by lia⟩;have hn2:(n:Int)+1=p:=by lia
 rw[hn,RM h (n+1) 0 0];have e:sm (n+1+1) (λk=>pY (n+1) k*F (0+k) (0+(n+1-k)) 0)=pY (n+1) 0*F (0+0) (0+(n+1-0)) 0+sm n (λk=>pY (n+1) (k+1)*F (0+(k+1)) (0+(n+1-(k+1))) 0)+pY (n+1) (n+1)*F (0+(n+1)) (0+(n+1-(n+1))) 0:=by show sm (n+1) _+_=_;rw[qx]
 rw[e,uo,Hh,b9,b9];have a1:0+(n+1-0)=n+1:=by lia
 have a2:0+(n+1-(n+1))=0:=by lia
 have a3:0+(n+1)=n+1:=by lia
 rw[a1,a2,a3];have d:p ∣ sm n (λk=>pY (n+1) (k+1)*F (0+(k+1)) (0+(n+1-(k+1))) 0):=nO λk hk=>aZ (Wc hp hn2 hk);have e2:F (0+0) (n+1) 0=F 0 (n+1) 0:=rfl;rw[e2];generalize sm n (λk=>pY (n+1) (k+1)*F (0+(k+1)) (0+(n+1-(k+1))) 0)=S at *
 have e3:F 0 (n+1) 0+S+F (n+1) 0 0-(F (n+1) 0 0+F 0 (n+1) 0)=S:=by lia
 rw[e3];exact d
theorem Rv {p:Int}(hp:jN p)(d a b:Li):lF p d (pw (jX a b) p.toNat) (jX (pw a p.toNat) (pw b p.toNat)):=.of λx=>by
 have h:=Uz hp (F:=λi j n=>cm (jq (pw a i) (pw b j)) (pw (jX a b) n) x) λi j n=>by
  show cm (jq (pw a i) (pw b j)) (jq (pw (jX a b) n) (jX a b)) x=cm (jq (jq (pw a i) a) (pw b j)) (pw (jX a b) n) x+cm (jq (pw a i) (jq (pw b j) b)) (pw (jX a b) n) x;generalize pw (jX a b) n=W;generalize pw a i=A;generalize pw b j=B;rw[<- mR,jG,rC];have k1:cm a (jq (jq A B) W) x=cm (jq (jq A a) B) W x:=by rw[<- mR];refine wC (λn=>?_) (λ_=>rfl) x;rw[jn,jn,<- mR];exact wC (λn=>by rw[jn,jn,jG]) (λ_=>rfl) n
  have k2:cm b (jq (jq A B) W) x=cm (jq A (jq B b)) W x:=by rw[<- mR];refine wC (λn=>?_) (λ_=>rfl) x;rw[jn,jn,jG,mR]
  rw[k1,k2]
 have e1:cm (jq (pw a 0) (pw b 0)) (pw (jX a b) p.toNat) x=(pw (jX a b) p.toNat).getD x 0:=by rw[jG,<- ue (pw (jX a b) p.toNat) x];refine wC (λ_=>rfl) (λn=>?_) x;rw[jn];exact ue _ n
 have e2:cm (jq (pw a p.toNat) (pw b 0)) (pw (jX a b) 0) x=(pw a p.toNat).getD x 0:=by show cm (jq (pw a p.toNat) [1]) [1] x=_;rw[ue,jn,ue]
 have e3:cm (jq (pw a 0) (pw b p.toNat)) (pw (jX a b) 0) x=(pw b p.toNat).getD x 0:=by show cm (jq [1] (pw b p.toNat)) [1] x=_;rw[ue,jn,jG,ue]
 rw[e1,e2,e3]at h;rw[jz];exact h
theorem pw_1 (p:Int)(d:Li):∀n,lF p d (pw [1] n) [1]
 |0=>.refl p d _
 |n+1=>(lF.one p d (pw [1] n)).trans (pw_1 p d n)
theorem pw_c (hp:jN p)(d:Li):∀c:Nat,lF p d (pw [(c:Int)] p.toNat) [(c:Int)]
 |0=>by
  have p2:2<=p:=hp.1;obtain⟨n,hn⟩:∃n,p.toNat=n+1:=⟨p.toNat-1,by lia⟩;rw[hn];have z:∀n,([((0:Nat):Int)]:List Int).getD n 0=0:=λn=>by cases n<;>rfl
  refine Sm.ZL λk=>?_;show(jq (pw [((0:Nat):Int)] n) [((0:Nat):Int)]).getD k 0=_;rw[jn,jG,Fp z,z]
 |c+1=>by have e:([((c+1:Nat):Int)]:List Int)=jX [(c:Int)] [1]:=rfl;rw[e];exact(Rv hp d [(c:Int)] [1]).trans ((pw_c hp d c).add (pw_1 p d _))
theorem pw_mul (p:Int)(d a b:Li):∀n,lF p d (pw (jq a b) n) (jq (pw a n) (pw b n))
 |0=>(lF.one p d [1]).symm
 |n+1=>by show lF p d (jq (pw (jq a b) n) (jq a b)) (jq (jq (pw a n) a) (jq (pw b n) b));refine((pw_mul p d a b n).mul _).trans ?_;generalize pw a n=A;generalize pw b n=B;have x:lF p d (jq B (jq a b)) (jq a (jq B b)):=(lF.su p d B a b).symm.trans (((lF.comm p d B a).mul b).trans (lF.su p d a B b));exact(lF.su p d A B (jq a b)).trans (((lF.refl p d A).Ew x).trans (lF.su p d A a (jq B b)).symm)
def lcb (X:Nat->List Int):List Int->Nat->List Int
 |[],_=>[]
 |c::t,s=>jX (zN c (X s)) (lcb X t (s+1))
theorem Mj (X:Nat->List Int)(j:Nat):∀(f:Li) (s:Nat),(lcb X f s).getD j 0=sm f.length λk=>f.getD k 0*(X (s+k)).getD j 0
 |[],s=>by show([]:List Int).getD j 0=0;rfl
 |c::t,s=>by
  show(jX (zN c (X s)) (lcb X t (s+1))).getD j 0=sm (t.length+1) _;rw[jz,jR,Mj X j t (s+1),qx];have e:sm t.length (λk=>t.getD k 0*(X (s+1+k)).getD j 0)=sm t.length λi=>(c::t).getD (i+1) 0*(X (s+(i+1))).getD j 0:=jw λi _=>by
   have a:s+1+i=s+(i+1):=by lia
   rw[a];rfl
  rw[e];rfl
theorem aaf (hp:jN p)(d:Li):∀(f:Li),(∀m∈f,0<=m)->∀s,lF p d (jq (pw (pw [0,1] p.toNat) s) (pw f p.toNat)) (lcb (pw (pw [0,1] p.toNat)) f s)
 |[],_,s=>by
  have p2:2<=p:=hp.1;obtain⟨n,hn⟩:∃n,p.toNat=n+1:=⟨p.toNat-1,by lia⟩;refine Sm.ZL λk=>?_;have z:∀k,(pw [] p.toNat).getD k 0=0:=λk=>by rw[hn];show(jq (pw [] n) []).getD k 0=0;rw[jn,jG,lV]
  rw[jn,jG,Fp z];rfl
 |c::t,h,s=>by
  have hc:0<=c:=h c (ag ..);obtain⟨cn,ec⟩:∃cn:Nat,c=(cn:Int):=⟨c.toNat,by lia⟩;have ih:=aaf hp d t (λm hm=>h m (ad _ hm)) (s+1);have e0:Sm (c::t) (jX [c] (jq [0,1] t)):=λn=>by
   rw[jz,jn,nZ,bR,cY]
   match n with
   |0=>rw[af rfl,bH];rfl
   |n+1=>
    have e:([c]:List Int).getD (n+1) 0=0:=by rfl
    rw[ae (by lia),e,cY,jG,Nat.add_sub_cancel,ue];rfl
  have e1:lF p d (pw (c::t) p.toNat) (jX [c] (jq (pw [0,1] p.toNat) (pw t p.toNat))):=by refine(pw_mod e0.ZL _).trans ((Rv hp d _ _).trans (lF.add ?_ (pw_mul p d _ _ _)));rw[ec];exact pw_c hp d cn
  refine((lF.refl p d (pw (pw [0,1] p.toNat) s)).Ew e1).trans ?_;have e2:Sm (jq (pw (pw [0,1] p.toNat) s) (jX [c] (jq (pw [0,1] p.toNat) (pw t p.toNat)))) (jX (zN c (pw (pw [0,1] p.toNat) s)) (jq (pw (pw [0,1] p.toNat) s) (jq (pw [0,1] p.toNat) (pw t p.toNat)))):=λn=>by
   rw[jn,jG,rC,jz,jR,jn,jG (pw (pw [0,1] p.toNat) s),nZ];by_cases k:n=0
   ·rw[af k,bH]
   ·rw[ae k,lV,bH]
  refine e2.ZL.trans ?_;exact(lF.refl p d _).add ((lF.su p d _ _ _).symm.trans ih)
theorem VP (h:a ∣ b*c)(g:Int.gcd a b=1):a ∣ c:=by have d:=dS.mpr h;rw[iH]at d;exact dS.mp (Nat.Coprime.dvd_of_dvd_mul_left g d)
theorem W5 (hp:jN p)(h:p ∣ a*b):p ∣ a\/p ∣ b:=by
 by_cases c:a % p=0
 ·exact .inl (eY c)
 ·right;have g:=hp.Nh c;rw[Int.gcd_comm]at g;exact VP h g
theorem lK (hp:jN p)(h:¬p ∣ x):∃t,p ∣ t*x-1:=by
 have g:=hp.Nh (b:=x) λz=>h (eY z);obtain⟨t,_,_,e⟩:=Mz hp.1 g;refine⟨t,?_⟩;have e2:=fX e;have:t*x-1 = -(1-t*x):=by lia
 rw[this];exact bq.mpr e2
def Qp (p:Int):Setoid (List Int):=⟨λa b=>∀n,p ∣ a.getD n 0-b.getD n 0,λa n=>by rw[cq];exact aU p,
 λ{a b} h n=>by
  have e:b.getD n 0-a.getD n 0 = -(a.getD n 0-b.getD n 0):=by lia
  rw[e];exact bq.mpr (h n),
 λ{a b c} h k n=>by
  have e:a.getD n 0-c.getD n 0=(a.getD n 0-b.getD n 0)+(b.getD n 0-c.getD n 0):=by lia
  rw[e];exact bD (h n) (k n)⟩
def Pl (p:Int):Type:=Quotient (Qp p)
namespace Pl
variable {p:Int}
def mk (p:Int)(a:List Int):Pl p:=Quotient.mk (Qp p) a
theorem lH:mk p a=mk p b ↔ ∀n,p ∣ a.getD n 0-b.getD n 0:=⟨λh=>Quotient.exact (s:=Qp p) h,λh=>Quotient.sound (s:=Qp p) h⟩
theorem ext (h:∀n,a.getD n 0=b.getD n 0):mk p a=mk p b:=lH.mpr λn=>by rw[h n,cq];exact aU p
theorem rep (x:Pl p):∃a,x=mk p a:=Quotient.inductionOn (s:=Qp p) x λa=>⟨a,rfl⟩
def add (x y:Pl p):Pl p:=Quotient.lift₂ (s₁:=Qp p) (s₂:=Qp p) (λa b=>mk p (jX a b)) (λa b c d h k=>lH.mpr λn=>by
 rw[jz,jz];have e:a.getD n 0+b.getD n 0-(c.getD n 0+d.getD n 0)=(a.getD n 0-c.getD n 0)+(b.getD n 0-d.getD n 0):=by lia
 rw[e];exact bD (h n) (k n)) x y
def mul (x y:Pl p):Pl p:=Quotient.lift₂ (s₁:=Qp p) (s₂:=Qp p) (λa b=>mk p (jq a b)) (λa b c d h k=>lH.mpr λn=>by
 rw[jn,jn];have e:cm a b n-cm c d n=(cm a b n-cm c b n)+(cm b c n-cm d c n):=by rw[jG b c,jG d c];lia
 rw[e];exact bD (zK h n) (zK k n)) x y
def neg (x:Pl p):Pl p:=Quotient.lift (s:=Qp p) (λa=>mk p (zN (-1) a)) (λa b h=>lH.mpr λn=>by
 rw[jR,jR];have e:-1*a.getD n 0 - -1*b.getD n 0 = -(a.getD n 0-b.getD n 0):=by lia
 rw[e];exact bq.mpr (h n)) x
def con (p c:Int):Pl p:=mk p [c]
instance:Add (Pl p):=⟨add⟩
instance:Mul (Pl p):=⟨mul⟩
instance:Neg (Pl p):=⟨neg⟩
instance:Sub (Pl p):=⟨λa b=>a + -b⟩
instance:NatCast (Pl p):=⟨λk=>con p (k:Int)⟩
instance:IntCast (Pl p):=⟨con p⟩
instance (k:Nat):OfNat (Pl p) k:=⟨con p (k:Int)⟩
instance:SMul Nat (Pl p):=⟨λk a=>con p (k:Int)*a⟩
instance:SMul Int (Pl p):=⟨λk a=>con p k*a⟩
def pow (a:Pl p):Nat->Pl p
 |0=>con p 1
 |n+1=>pow a n*a
instance:HPow (Pl p) Nat (Pl p):=⟨pow⟩
theorem mO (a b:Li):mk p a+mk p b=mk p (jX a b):=rfl
theorem kZ (a b:Li):mk p a*mk p b=mk p (jq a b):=rfl
theorem yC (a:Li):-mk p a=mk p (zN (-1) a):=rfl
theorem U9:(1:Pl p)=mk p [1]:=rfl
theorem uh:(0:Pl p)=mk p [0]:=rfl
theorem mul_comm (x y:Pl p):x*y=y*x:=by obtain⟨a,rfl⟩:=rep x;obtain⟨b,rfl⟩:=rep y;rw[kZ,kZ];exact ext λn=>by rw[jn,jn,jG]
theorem mul_assoc (x y z:Pl p):x*y*z=x*(y*z):=by obtain⟨a,rfl⟩:=rep x;obtain⟨b,rfl⟩:=rep y;obtain⟨c,rfl⟩:=rep z;rw[kZ,kZ,kZ,kZ];exact ext λn=>by rw[jn,jn,mR]
theorem rG (c:Int)(a:Li):con p c*mk p a=mk p (zN c a):=by unfold con;rw[kZ];exact ext λn=>by rw[jn,jR,W2]
theorem one_mul (x:Pl p):1*x=x:=by obtain⟨a,rfl⟩:=rep x;show con p 1*mk p a=mk p a;rw[rG];exact ext λn=>by rw[jR,b9]
theorem CJ (n:Nat):([0]:Li).getD n 0=0:=by cases n<;>rfl
theorem zero_mul (x:Pl p):0*x=0:=by obtain⟨a,rfl⟩:=rep x;show con p 0*mk p a=mk p [0];rw[rG];exact ext λn=>by rw[jR,bR,CJ]
theorem MN (x y z:Pl p):x*(y+z)=x*y+x*z:=by obtain⟨a,rfl⟩:=rep x;obtain⟨b,rfl⟩:=rep y;obtain⟨c,rfl⟩:=rep z;rw[mO,kZ,kZ,kZ,mO];exact ext λn=>by rw[jn,jz,jn,jn,jG,rC,jG b a,jG c a]
theorem add_comm (x y:Pl p):x+y=y+x:=by obtain⟨a,rfl⟩:=rep x;obtain⟨b,rfl⟩:=rep y;rw[mO,mO];exact ext λn=>by rw[jz,jz,ii]
theorem aa8 (c d:Int)(n:Nat):([c+d]:Li).getD n 0=([c]:Li).getD n 0+([d]:Li).getD n 0:=by cases n<;>rfl
theorem zj (c d:Int):con p (c+d)=con p c+con p d:=by unfold con;rw[mO];exact ext λn=>by rw[jz,aa8]
theorem FN (c:Int):con p (-c) = -con p c:=by
 unfold con;rw[yC];exact ext λn=>by
  rw[jR];cases n with
  |zero=>show -c = -1*c;lia
  |succ n=>rfl
instance:Lean.Grind.CommRing (Pl p) where
 add_zero x:=by obtain⟨a,rfl⟩:=rep x;rw[uh,mO];exact ext λn=>by rw[jz,CJ,bH]
 add_comm:=add_comm
 add_assoc x y z:=by obtain⟨a,rfl⟩:=rep x;obtain⟨b,rfl⟩:=rep y;obtain⟨c,rfl⟩:=rep z;rw[mO,mO,mO,mO];exact ext λn=>by rw[jz,jz,jz,jz,Int.add_assoc]
 mul_assoc:=mul_assoc
 mul_one x:=by rw[mul_comm,one_mul]
 one_mul:=one_mul
 left_distrib:=MN
 right_distrib a b c:=by rw[mul_comm,MN,mul_comm c,mul_comm c]
 mul_zero x:=by rw[mul_comm,zero_mul]
 zero_mul:=zero_mul
 pow_zero _:=rfl
 pow_succ _ _:=rfl
 ofNat_succ k:=by show con p ((k+1:Nat):Int)=con p (k:Int)+con p 1;rw[<- zj];rfl
 ofNat_eq_natCast _:=rfl
 nsmul_eq_natCast_mul _ _:=rfl
 neg_add_cancel x:=by obtain⟨a,rfl⟩:=rep x;rw[uh,yC,mO];exact ext λn=>by rw[jz,jR,CJ];lia
 sub_eq_add_neg _ _:=rfl
 neg_zsmul i x:=by show con p (-i)*x = -(con p i*x);obtain⟨a,rfl⟩:=rep x;rw[rG,rG,yC];exact ext λn=>by rw[jR,jR,jR,<- bG,eX]
 zsmul_natCast_eq_nsmul _ _:=rfl
 intCast_ofNat _:=rfl
 intCast_neg i:=FN i
 mul_comm:=mul_comm
def dv (x:Pl p):Pl p:=Quotient.lift (s:=Qp p) (λa=>mk p (dl a)) (λa b h=>lH.mpr λn=>by
 rw[sW,sW,<- ck];exact aK (h (n+1))) x
theorem Bl (a:Li):dv (mk p a)=mk p (dl a):=rfl
theorem KZ (x y:Pl p):dv (x*y)=dv x*y+x*dv y:=by obtain⟨a,rfl⟩:=rep x;obtain⟨b,rfl⟩:=rep y;rw[kZ,Bl,Bl,Bl,kZ,kZ,mO];exact ext λn=>by rw[XN,jz,jn,jn]
theorem K9 (c:Int):dv (con p c)=0:=by unfold con;rw[Bl,uh];exact ext λn=>by rw[sW,CJ];exact aT _
theorem GX (x:Pl p):∀n:Nat,dv (x^(n+1))=con p ((n+1:Nat):Int)*x^n*dv x
 |0=>by show dv (con p 1*x)=con p 1*con p 1*dv x;rw[KZ,K9];have e:con p 1=(1:Pl p):=rfl;rw[e];grind
 |n+1=>by
  have h:=GX x n;have e1:x^(n+1+1)=x^(n+1)*x:=rfl;have e2:x^(n+1)=x^n*x:=rfl;have e3:con p ((n+1+1:Nat):Int)=con p ((n+1:Nat):Int)+1:=by have z:((n+1+1:Nat):Int)=((n+1:Nat):Int)+1:=rfl;rw[z];exact zj _ 1
  rw[e1,KZ,h,e3,e2];grind
def nu (a b:Pl p):Prop:=∃s t:Pl p,s*a+t*b=1
theorem nu.symm {a b:Pl p}(h:nu a b):nu b a:=by obtain⟨s,t,h⟩:=h;exact⟨t,s,by grind⟩
theorem nu.one (a:Pl p):nu a 1:=⟨0,1,by grind⟩
theorem nu.mul {a b c:Pl p}(h:nu a c)(k:nu b c):nu (a*b) c:=by obtain⟨s,t,h⟩:=h;obtain⟨u,v,k⟩:=k;exact⟨s*u,s*a*v+t*u*b+t*v*c,by grind⟩
theorem nu.pow {a c:Pl p}(h:nu a c):∀n:Nat,nu (a^n) c
 |0=>(nu.one c).symm
 |n+1=>(h.pow n).mul h
theorem nu.pG {a b c:Pl p}(h:nu a b)(e:∃u,c=b+u*a):nu a c:=by obtain⟨s,t,h⟩:=h;obtain⟨u,e⟩:=e;exact⟨s-t*u,t,by grind⟩
structure Gd (a b d:Pl p):Prop where
 lc:∃s t:Pl p,d=s*a+t*b
 d1:∃u,a=u*d
 d2:∃u,b=u*d
theorem nu.gd (h:nu a b)(d:Pl p):Gd (a*d) (b*d) d:=by obtain⟨s,t,h⟩:=h;exact⟨⟨s,t,by grind⟩,⟨a,rfl⟩,⟨b,rfl⟩⟩
def Pr (L:List (Pl p×Nat))(g:Nat->Nat):Pl p:=L.foldr (λq x=>q.1^g q.2*x) 1
theorem jF (q:Pl p×Nat)(L:List (Pl p×Nat))(g:Nat->Nat):Pr (q::L) g=q.1^g q.2*Pr L g:=rfl
theorem pow_add (a:Pl p)(m:Nat):∀n:Nat,a^(m+n)=a^m*a^n
 |0=>by have e:a^0=(1:Pl p):=rfl;rw[e];grind
 |n+1=>by have h:=pow_add a m n;have e1:a^(m+(n+1))=a^(m+n)*a:=rfl;have e2:a^(n+1)=a^n*a:=rfl;rw[e1,e2,h];grind
theorem wg (g h:Nat->Nat):∀L:List (Pl p×Nat),Pr L (λm=>g m+h m)=Pr L g*Pr L h
 |[]=>(one_mul 1).symm
 |q::L=>by rw[jF,jF,jF,wg g h L,pow_add];grind
theorem mQ:∀{L:List (Pl p×Nat)},(∀q∈L,g q.2=h q.2)->Pr L g=Pr L h
 |[],_=>rfl
 |q::L,e=>by rw[jF,jF,e q (ag ..),mQ λr hr=>e r (ad _ hr)]
theorem Ad {g h:Nat->Nat}{L:List (Pl p×Nat)}(e:∀q∈L,h q.2<=g q.2):Pr L g=Pr L (λm=>g m-h m)*Pr L h:=by rw[<- wg];exact mQ λq hq=>by have:=e q hq;show g q.2=g q.2-h q.2+h q.2;lia
def Apart (L:List (Pl p×Nat)):Prop:=L.Pairwise λq r=>nu q.1 r.1
theorem Gh (c:Pl p)(g:Nat->Nat):∀{L:List (Pl p×Nat)},(∀q∈L,nu q.1 c\/g q.2=0)->nu (Pr L g) c
 |[],_=>(nu.one c).symm
 |q::L,h=>by
  rw[jF];refine nu.mul ?_ (Gh c g λr hr=>h r (ad _ hr));rcases h q (ag ..) with h|h
  ·exact h.pow _
  ·rw[h];exact(nu.one c).symm
theorem Qx (d:∀m,g m=0\/h m=0):∀{L:List (Pl p×Nat)},Apart L->nu (Pr L g) (Pr L h)
 |[],_=>nu.one 1
 |q::L,A=>by
  obtain⟨A1,A2⟩:=a9.mp A;have ih:=Qx d A2;have a1:∀g':Nat->Nat,nu (Pr L g') q.1:=λg'=>Gh q.1 g' λr hr=>.inl (A1 r hr).symm;rw[jF,jF];refine nu.mul ?_ (nu.symm (nu.mul ?_ ih.symm))
  ·refine nu.symm (nu.mul ?_ ((a1 h).symm.pow _).symm);rcases d q.2 with e|e
   ·rw[e];exact nu.one _
   ·rw[e];exact(nu.one _).symm
  ·exact((a1 g).symm.pow _)
theorem aas {g h:Nat->Nat}{L:List (Pl p×Nat)}(A:Apart L):Gd (Pr L g) (Pr L h) (Pr L λm=>min (g m) (h m)):=by rw[Ad (g:=g) (h:=λm=>min (g m) (h m)) (λq _=>Nat.min_le_left ..),Ad (g:=h) (h:=λm=>min (g m) (h m)) (λq _=>Nat.min_le_right ..)];exact(Qx (λm=>by show g m-min (g m) (h m)=0\/h m-min (g m) (h m)=0;lia) A).gd _
def lw (p:Int)(m:Nat):Nat:=if p ∣ (m:Int) then m else m-1
def ly (p:Int)(m:Nat):Nat:=if p ∣ (m:Int) then 0 else 1
theorem Mp (h:p ∣ c):con p c=0:=lH.mpr λn=>by
 cases n with
 |zero=>show p ∣ c-0;rw[aQ];exact h
 |succ n=>exact aU p
theorem xK (h:p ∣ t*c-1):con p t*con p c=1:=by
 have e:con p t*con p c=mk p (zN t [c]):=rG t [c];rw[e,U9];exact lH.mpr λn=>by
  cases n with
  |zero=>exact h
  |succ n=>exact aU p
theorem abi (C D Y E Q W q1:Pl p):C*Q*D*(E*Y)+Q*q1*(E*W)=Q*E*(C*D*Y+q1*W):=by grind
theorem abq {T C q1:Pl p}(h:T*C=1):nu C q1:=⟨T,0,by grind⟩
theorem Iw (hinv:∀x:Int,¬p ∣ x->∃t,p ∣ t*x-1):∀{L:List (Pl p×Nat)},Apart L->(∀q∈L,nu q.1 (dv q.1))->∃W,dv (Pr L g)=Pr L (λm=>lw p (g m))*W/\nu (Pr L λm=>ly p (g m)) W
 |[],_,_=>⟨0,by
   show dv (con p 1)=_;rw[K9];grind,(nu.one _).symm⟩
 |q::L,A,S=>by
  obtain⟨A1,A2⟩:=a9.mp A;obtain⟨W,e,c⟩:=Iw hinv A2 λr hr=>S r (ad _ hr);have a1:∀g':Nat->Nat,nu (Pr L g') q.1:=λg'=>Gh q.1 g' λr hr=>.inl (A1 r hr).symm;have spl:Pr L g=Pr L (λm=>lw p (g m))*Pr L λm=>ly p (g m):=by
   rw[<- wg];exact mQ λr _=>by
    unfold lw ly;by_cases h:p ∣ (g r.2:Int)
    ·rw[af h,af h];rfl
    ·rw[ae h,ae h];have:g r.2≠0:=λz=>h (by rw[z];exact aU p);lia
  have sq:=S q (ag ..);simp only[jF];rw[KZ,e];by_cases h:p ∣ (g q.2:Int)
  ·refine⟨W,?_,?_⟩
   ·have z:dv (q.1^g q.2)=0:=by
     cases hm:g q.2 with
     |zero=>exact K9 1
     |succ n=>rw[GX,Mp (by rw[<- hm];exact h)];grind
    rw[z];have e1:lw p (g q.2)=g q.2:=af h;rw[e1];grind
   ·have e1:ly p (g q.2)=0:=af h;rw[e1];have e2:q.1^0=(1:Pl p):=rfl;rw[e2,one_mul];exact c
  ·obtain⟨t,ht⟩:=hinv _ h;have i1:=xK ht;have e1:lw p (g q.2)=g q.2-1:=ae h;have e2:ly p (g q.2)=1:=ae h;have e3:q.1^1=q.1:=one_mul q.1;obtain⟨n,hn⟩:∃n,g q.2=n+1:=⟨g q.2-1,by
    have:g q.2≠0:=λz=>h (by rw[z];exact aU p);lia⟩
   have e4:g q.2-1=n:=by lia
   have e5:q.1^(n+1)=q.1^n*q.1:=rfl;have c1:=a1 λm=>ly p (g m);rw[e1,e2,e3,spl,e4];rw[hn]at i1;rw[hn,GX,e5];generalize (Pr L λm=>ly p (g m))=Y at *
   generalize (Pr L λm=>lw p (g m))=E at *
   generalize q.1^n=Q at *
   generalize con p ((n+1:Nat):Int)=C at *
   generalize con p t=T at *
   generalize dv q.1=D at *
   generalize q.1=q1 at *
   refine⟨C*D*Y+q1*W,abi ..,?_⟩;refine nu.mul ?_ ?_
   ·have k:nu q1 (C*D*Y):=((nu.mul (nu.mul (abq i1) sq.symm) c1)).symm;exact k.pG ⟨W,by rw[mul_comm W]⟩
   ·have k:nu Y (q1*W):=(nu.mul c1.symm c.symm).symm;exact k.pG ⟨C*D,add_comm _ _⟩
theorem aaO (hinv:∀x:Int,¬p ∣ x->∃t,p ∣ t*x-1){g:Nat->Nat}{L:List (Pl p×Nat)}(A:Apart L)(S:∀q∈L,nu q.1 (dv q.1)):Gd (Pr L g) (dv (Pr L g)) (Pr L λm=>lw p (g m)):=by
 obtain⟨W,e,c⟩:=Iw hinv (g:=g) A S;have spl:Pr L g=Pr L (λm=>ly p (g m))*Pr L λm=>lw p (g m):=by
  rw[<- wg];exact mQ λr _=>by
   unfold lw ly;by_cases h:p ∣ (g r.2:Int)
   ·rw[af h,af h];lia
   ·rw[ae h,ae h];have:g r.2≠0:=λz=>h (by rw[z];exact aU p);lia
 rw[e,mul_comm,spl];exact c.gd _
end Pl
namespace Pl
variable {p:Int}
def ls (x:Pl p):List Int:=Quotient.lift (s:=Qp p) (Tz p) (λa b h=>oU (kW p a) (kW p b) λn=>by
 rw[lD,lD];exact(qG p _ _).mpr (h n)) x
theorem qi (a:Li):ls (mk p a)=Tz p a:=rfl
theorem aac (a:Li):mk p (Tz p a)=mk p a:=lH.mpr (Zb p a)
theorem jL (x:Pl p):mk p (ls x)=x:=by obtain⟨a,rfl⟩:=rep x;exact aac a
theorem j7 (x:Pl p):Fo p (ls x):=by obtain⟨a,rfl⟩:=rep x;exact Fo.tz p a
theorem qW (x:Pl p):Tz p (ls x)=ls x:=wV (j7 x).form (j7 x).red
theorem vp (h:Fo p f):ls (mk p f)=f:=wV h.form h.red
def Mo (x:Pl p):Prop:=jo (ls x)=1
theorem Mo.ne {x:Pl p}(h:Mo x):ls x≠[]:=Ej h
theorem Mo.pos {x:Pl p}(h:Mo x):0<(ls x).length:=lP h.ne
theorem Vj (p2:2<=p):pl p 1=1:=by rw[mD (by lia)];exact bI (by decide) (by lia)
theorem vJ (p2:2<=p):ls (1:Pl p)=[1]:=vp ⟨λ_=>by decide,λn=>by
 cases n with
 |zero=>exact Vj p2
 |succ n=>exact lW p⟩
theorem Mo.one (p2:2<=p):Mo (1:Pl p):=by unfold Mo;rw[vJ p2];rfl
theorem Mo.Ew (p2:2<=p){x y:Pl p}(hx:Mo x)(hy:Mo y):Mo (x*y)/\(ls (x*y)).length+1=(ls x).length+(ls y).length:=by
 have lx:=hx.pos;have ly:=hy.pos;have ez:ls (x*y)=Tz p (jq (ls x) (ls y)):=by
  have e:x*y=mk p (ls x)*mk p (ls y):=by rw[jL,jL]
  rw[e,kZ];rfl
 have hx:(ls x).getD ((ls x).length-1) 0=1:=hx;have hy':jo (ls y)=1:=hy;have top:(Tz p (jq (ls x) (ls y))).getD ((ls x).length-1+((ls y).length-1)) 0=1:=by
  rw[lD,jn,<- Vj p2];refine(qG p _ _).mpr ?_;have:=Km (z:=p) (E:=ls x) (d:=ls y) (i:=(ls x).length-1) ly λj hj=>by rw[jr (by lia)];exact aU p
  rw[hx,hy',b9]at this;exact this
 have l1:(Tz p (jq (ls x) (ls y))).length<=(ls x).length+(ls y).length-1:=m6 (kW p _) λn hn=>by rw[lD,jn,S5 (by lia)];exact lW p
 have l2:(ls x).length-1+((ls y).length-1)<(Tz p (jq (ls x) (ls y))).length:=by refine cS λh=>?_;rw[jr h]at top;exact absurd top (by decide)
 rw[<- ez]at l1 l2 top;refine⟨?_,by lia⟩;show(ls (x*y)).getD ((ls (x*y)).length-1) 0=1;have e:(ls (x*y)).length-1=(ls x).length-1+((ls y).length-1):=by lia
 rw[e];exact top
theorem Mo.mul (p2:2<=p){x y:Pl p}(hx:Mo x)(hy:Mo y):Mo (x*y):=(Mo.Ew p2 hx hy).1
theorem Mo.len (p2:2<=p){x y:Pl p}(hx:Mo x)(hy:Mo y):(ls (x*y)).length+1=(ls x).length+(ls y).length:=(Mo.Ew p2 hx hy).2
theorem Mo.pow (p2:2<=p){x:Pl p}(hx:Mo x):∀n:Nat,Mo (x^n)
 |0=>Mo.one p2
 |n+1=>Mo.mul p2 (hx.pow p2 n) hx
theorem Mo.pr (p2:2<=p):∀{L:List (Pl p×Nat)},(∀q∈L,Mo q.1)->Mo (Pr L g)
 |[],_=>Mo.one p2
 |q::L,h=>Mo.mul p2 ((h q (ag ..)).pow p2 _) (Mo.pr p2 λr hr=>h r (ad _ hr))
theorem Mo.vW (p2:2<=p){x:Pl p}(hx:Mo x):∀n:Nat,(ls (x^n)).length=n*((ls x).length-1)+1
 |0=>by have e:x^0=(1:Pl p):=rfl;rw[e,vJ p2];show 1=0*_+1;lia
 |n+1=>by have h:=Mo.len p2 (hx.pow p2 n) hx;have e:x^(n+1)=x^n*x:=rfl;have l:=hx.pos;rw[e];rw[Mo.vW p2 hx n]at h;rw[f9];lia
theorem oN (p2:2<=p):∀{L:List (Pl p×Nat)},(∀q∈L,Mo q.1)->(∀q∈L,1<(ls q.1).length)->(1<(ls (Pr L g)).length ↔ ∃q∈L,g q.2≠0)
 |[],_,_=>by have e:Pr ([]:List (Pl p×Nat)) g=1:=rfl;rw[e,vJ p2];refine⟨λh=>absurd h (by decide),λ⟨q,h,_⟩=>by cases h⟩
 |q::L,h,d=>by
  have h1:=h q (ag ..);have d1:=d q (ag ..);have ih:=oN p2 (g:=g) (λr hr=>h r (ad _ hr)) (λr hr=>d r (ad _ hr));have m2:Mo (Pr L g):=Mo.pr p2 λr hr=>h r (ad _ hr);have hl:=Mo.len p2 (h1.pow p2 (g q.2)) m2;have mp:=m2.pos;rw[Mo.vW p2 h1,<- jF]at hl;have nz:g q.2*((ls q.1).length-1)=0 ↔ g q.2=0:=by rw[Nat.mul_eq_zero];lia
  refine⟨λk=>?_,λ⟨r,hr,k⟩=>?_⟩
  ·by_cases c:g q.2=0
   ·rw[nz.mpr c]at hl;obtain⟨r,hr,k⟩:=ih.mp (by lia);exact⟨r,ad _ hr,k⟩
   ·exact⟨q,ag ..,c⟩
  ·rcases aB.mp hr with e|hr
   ·subst e;have:g r.2*((ls r.1).length-1)≠0:=λz=>k (nz.mp z);lia
   ·have:=ih.mpr ⟨r,hr,k⟩;lia
theorem aav (h:Gd (mk p f) (mk p g) d)(m:Mo d):GC p f g (ls d):=by
 obtain⟨⟨s,t,e⟩,⟨u,e1⟩,⟨v,e2⟩⟩:=h;obtain⟨a,rfl⟩:=rep s;obtain⟨b,rfl⟩:=rep t;obtain⟨c,rfl⟩:=rep u;obtain⟨c2,rfl⟩:=rep v;have z:∀{f c:List Int},mk p f=mk p c*d->Dv p (ls d) f:=λ{f c} e=>by
  refine⟨c,λn=>?_⟩;have e:mk p f=mk p (jq c (ls d)):=by rw[<- kZ,jL];exact e
  have:=lH.mp e n;rw[jn]at this;show p ∣ f.getD n 0-0-cm c (ls d) n;rw[aQ];exact this
 refine⟨(j7 d).form,(j7 d).red,.inr m,⟨a,b,λn=>?_⟩,z e1,z e2⟩;have e:mk p (ls d)=mk p (jX (jq a f) (jq b g)):=by rw[jL];exact e
 have:=lH.mp e n;rw[jz,jn,jn]at this;exact this
theorem ZF (p2:2<=p)(I:yp p f d q r)(rl:r.length<d.length)(mu:Mo u)(md:Mo (mk p d))(ff:Fo p f)(fd:Fo p d)(e:mk p f=u*mk p d):q=ls u/\r=[]:=by
 have ed:ls (mk p d)=d:=vp fd;have ef:ls (mk p f)=f:=vp ff;have d1:jo d=1:=by have:=md;unfold Mo at this;rw[ed]at this;exact this
 have nz:∀x,p ∣ x*jo d->p ∣ x:=λx h=>by rw[d1,bM]at h;exact h
 have e1:mk p (jX (jq q d) r)=mk p f:=lH.mpr λn=>by rw[jz,jn];exact I.eq n
 have e2:mk p q*mk p d+mk p r=u*mk p d:=by rw[<- e,<- e1];rfl
 obtain⟨c,ec⟩:=rep (u-mk p q);have e3:mk p r=mk p c*mk p d:=by rw[<- ec];grind
 have e4:=lH.mp (e3.trans (kZ c d));have hr:r=[]:=rZ nz ⟨I.rf,I.rr,rl⟩ ⟨oR,λn=>by show pl p 0=0;exact lW p,by show 0<d.length;lia⟩ ⟨c,λn=>by
  have:=e4 n;rw[jn]at this;show p ∣ r.getD n 0-0-cm c d n;rw[aQ];exact this⟩
 refine⟨?_,hr⟩;have hd:0<d.length:=by lia
 have hc:=ZM (z:=p) (E:=c) (S:=0) hd nz λn _=>by
  have:=e4 n;rw[jn,hr]at this;have e:(([]:List Int).getD n 0)-cm c d n = -cm c d n:=by show 0-cm c d n=_;lia
  rw[e]at this;exact bq.mp this
 have c0:mk p c=0:=lH.mpr λn=>by show p ∣ c.getD n 0-([0]:List Int).getD n 0;rw[CJ,aQ];exact hc n (bh _)
 have e5:mk p q=u:=by rw[c0]at ec;grind
 have ll:=Mo.len p2 mu md;rw[<- e,ef,ed]at ll;have ql:=I.ql;have up:=mu.pos;have le:q.length=(ls u).length:=by lia
 have gt:∀n,q.getD n 0=(ls u).getD n 0:=λn=>tG (I.qr n) ((j7 u).red n) (lH.mp (by rw[e5,jL]) n);refine cj le λn h1 h2=>?_;have:=gt n;rw[jB h1,jB h2]at this;exact this
end Pl
namespace Pl
variable {p:Int}
def qR (p:Int)(g:Nat->Nat)(e m:Nat):Nat:=if p ∣ (g m:Int) then 0 else if e<=g m then 1 else 0
def tU (p:Int)(g:Nat->Nat)(e m:Nat):Nat:=if p ∣ (g m:Int) then g m else g m-e
def U8 (p:Int)(g:Nat->Nat)(e m:Nat):Nat:=if p ∣ (g m:Int) then 0 else if g m=e then 1 else 0
theorem Ur {L:List (Pl p×Nat)}(A:Apart L)(g:Nat->Nat)(e:Nat):Gd (Pr L (qR p g e)) (Pr L (tU p g e)) (Pr L (qR p g (e+1))):=by
 have h:=aas (g:=qR p g e) (h:=tU p g e) A;have c:Pr L (λm=>min (qR p g e m) (tU p g e m))=Pr L (qR p g (e+1)):=mQ λq _=>by
  show min (qR p g e q.2) (tU p g e q.2)=qR p g (e+1) q.2;unfold qR tU;by_cases h:p ∣ (g q.2:Int)
  ·rw[af h,af h,af h];lia
  ·rw[ae h,ae h,ae h];by_cases k:e+1<=g q.2
   ·rw[af k,af (by lia)];lia
   ·rw[ae k];by_cases k2:e<=g q.2
    ·rw[af k2];lia
    ·rw[ae k2];lia
 rw[c]at h;exact h
theorem Xu (L:List (Pl p×Nat))(g:Nat->Nat)(e:Nat):Pr L (qR p g e)=Pr L (U8 p g e)*Pr L (qR p g (e+1)):=by
 rw[<- wg];exact mQ λq _=>by
  unfold qR U8;by_cases h:p ∣ (g q.2:Int)
  ·rw[af h,af h,af h]
  ·rw[ae h,ae h,ae h];by_cases k:g q.2=e
   ·rw[af k,af (by lia),ae (by lia)]
   ·rw[ae k];by_cases k2:e<=g q.2
    ·rw[af k2,af (by lia)]
    ·rw[ae k2,ae (by lia)]
theorem Xj (L:List (Pl p×Nat))(g:Nat->Nat)(e:Nat):Pr L (tU p g e)=Pr L (tU p g (e+1))*Pr L (qR p g (e+1)):=by
 rw[<- wg];exact mQ λq _=>by
  unfold qR tU;by_cases h:p ∣ (g q.2:Int)
  ·rw[af h,af h,af h];lia
  ·rw[ae h,ae h,ae h];by_cases k:e+1<=g q.2
   ·rw[af k];lia
   ·rw[ae k];lia
theorem Xx {p:Int}{n:Nat}(h:¬p ∣ (n:Int)):n≠0:=λz=>h (by rw[z];exact aU p)
theorem XD (L:List (Pl p×Nat))(g:Nat->Nat):Pr L g=Pr L (qR p g 1)*Pr L (tU p g 1):=by
 rw[<- wg];exact mQ λq _=>by
  unfold qR tU;by_cases h:p ∣ (g q.2:Int)
  ·rw[af h,af h];lia
  ·have:=Xx h;rw[ae h,ae h,af (by lia)];lia
theorem Z1 (hinv:∀x:Int,¬p ∣ x->∃t,p ∣ t*x-1){L:List (Pl p×Nat)}(A:Apart L)(S:∀q∈L,nu q.1 (dv q.1))(g:Nat->Nat):Gd (Pr L g) (dv (Pr L g)) (Pr L (tU p g 1)):=aaO hinv A S
theorem NB:∀n:Nat,(1:Pl p)^n=1
 |0=>rfl
 |n+1=>by have e:(1:Pl p)^(n+1)=(1:Pl p)^n*1:=rfl;rw[e,NB n,one_mul]
theorem mul_pow (a b:Pl p):∀n:Nat,(a*b)^n=a^n*b^n
 |0=>(one_mul 1).symm
 |n+1=>by have h:=mul_pow a b n;have e1:(a*b)^(n+1)=(a*b)^n*(a*b):=rfl;have e2:a^(n+1)=a^n*a:=rfl;have e3:b^(n+1)=b^n*b:=rfl;rw[e1,e2,e3,h];grind
theorem pow_mul (a:Pl p)(k:Nat):∀n:Nat,a^(k*n)=(a^k)^n
 |0=>rfl
 |n+1=>by have e1:k*(n+1)=k*n+k:=ja k n;have e2:(a^k)^(n+1)=(a^k)^n*a^k:=rfl;rw[e1,pow_add,pow_mul a k n,e2]
theorem RZ (h:Nat->Nat)(n:Nat):∀L:List (Pl p×Nat),Pr L (λm=>h m*n)=Pr L h^n
 |[]=>(NB n).symm
 |q::L=>by rw[jF,jF,mul_pow,RZ h n L,pow_mul]
theorem uC (f:Li):∀n:Nat,mk p (pw f n)=mk p f^n
 |0=>rfl
 |n+1=>by have h:=uC f n;have e1:mk p f^(n+1)=mk p f^n*mk p f:=rfl;rw[e1,<- h,kZ];rfl
theorem pw_x (n:Nat):∀j,(pw [0,1] n).getD j 0=if j=n then 1 else 0:=by
 induction n with
 |zero=>
  intro j;cases j with
  |zero=>rfl
  |succ j=>rfl
 |succ n ih=>
  intro j;show(jq (pw [0,1] n) [0,1]).getD j 0=_;rw[jn,jG,aa4];cases j with
  |zero=>rw[af rfl,ae (by lia)];lia
  |succ j=>
   rw[ae (by lia),show j+1-1=j from rfl,ih j];by_cases c:j=n
   ·rw[af c,af (by lia)];lia
   ·rw[ae c,ae (by lia)];lia
theorem aaz (hp:jN p)(f:Li)(h0:∀m∈f,0<=m):mk p f^p.toNat=mk p (lcb (pw (pw [0,1] p.toNat)) f 0):=by obtain⟨Q,h⟩:=aaf hp [] f h0 0;rw[<- uC];refine lH.mpr λn=>?_;have h:=h n;rw[jG Q [],lV,aQ,jn]at h;have e:cm (pw (pw [0,1] p.toNat) 0) (pw f p.toNat) n=(pw f p.toNat).getD n 0:=Rt _ n;rw[e]at h;exact h
theorem Mi (hp:jN p)(x:Pl p)(j:Nat):(ls (x^p.toNat)).getD (p.toNat*j) 0=(ls x).getD j 0:=by
 have p2:2<=p:=hp.1;have h0:∀m∈ls x,0<=m:=λm hm=>((j7 x).at hp m hm).1;have e:=aaz hp (ls x) h0;rw[jL]at e;rw[e,qi,lD];have r:=(j7 x).red j;refine jg ?_ r;refine(qG p _ _).mpr ?_;rw[Mj];have at':∀k,p ∣ (pw (pw [0,1] p.toNat) (0+k)).getD (p.toNat*j) 0-if k=j then 1 else 0:=λk=>by
  have e2:mk p (pw (pw [0,1] p.toNat) (0+k))=mk p (pw [0,1] (p.toNat*k)):=by rw[uC,uC,uC,gm,<- pow_mul]
  have:=lH.mp e2 (p.toNat*j);rw[pw_x]at this;have e3:(if p.toNat*j=p.toNat*k then(1:Int) else 0)=if k=j then 1 else 0:=by
   by_cases c:k=j
   ·rw[af c,af (by rw[c])]
   ·rw[ae c,ae λz=>c (Nat.eq_of_mul_eq_mul_left (by lia) z).symm]
  rw[e3]at this;exact this
 by_cases hj:j<(ls x).length
 ·have k:=JT (z:=p) (f:=λk=>(ls x).getD k 0*(pw (pw [0,1] p.toNat) (0+k)).getD (p.toNat*j) 0) (i:=j) hj λi _ hi=>by have:=at' i;rw[ae hi,aQ]at this;exact aK this
  have t:=at' j;rw[af rfl]at t;generalize (pw (pw [0,1] p.toNat) (0+j)).getD (p.toNat*j) 0=y at *
  generalize sm (ls x).length (λk=>(ls x).getD k 0*(pw (pw [0,1] p.toNat) (0+k)).getD (p.toNat*j) 0)=S at *
  generalize (ls x).getD j 0=z at *
  have e4:S-z=(S-z*y)+z*(y-1):=by rw[ck];lia
  rw[e4];exact bD k (aK t)
 ·rw[jr (by lia),aQ];exact nO λi hi=>by have:=at' i;rw[ae (by lia),aQ]at this;exact aK this
theorem PQ (hp:jN p){x:Pl p}(m:Mo x):(List.range (ls x).length).map (λi=>(ls (x^p.toNat)).getD (p.toNat*i) 0)=ls x/\(ls (x^p.toNat)).length=p.toNat*((ls x).length-1)+1:=by refine⟨cj (by rw[aa,aq]) λn h1 h2=>?_,m.vW hp.1 _⟩;rw[br,bn,Mi hp,jB h2]
end Pl
namespace Pl
variable {p:Int}
theorem Mo.inj {x y:Pl p}(h:ls x=ls y):x=y:=by rw[<- jL x,<- jL y,h]
theorem Mo.Gk (p2:2<=p){x:Pl p}(h:Mo x)(l:(ls x).length<=1):x=1:=by
 refine Mo.inj ?_;rw[vJ p2];have k:jo (ls x)=1:=h;have:=h.pos;generalize ls x=a at *
 match a,l,this with
 |[b],_,_=>rw[show b=1 from k]
theorem yw:mk p []=(0:Pl p):=ext λn=>by show([]:Li).getD n 0=([0]:Li).getD n 0;rw[CJ];rfl
theorem O5 (x:Pl p):x*0=0:=by rw[mul_comm,zero_mul]
theorem Mo.ne0 {x:Pl p}(h:Mo x):x≠0:=λz=>by have k:=h.ne;rw[z,<- yw,qi]at k;exact k rfl
theorem aab (hp:jN p)(y:Pl p)(mx:Mo x)(hl:(ls y).length<=200):∃d,Mo d/\Gd x y d:=by
 have G:=Zw hp (f:=ls x) hl;generalize gc p (ls x) (ls y)=r at G;have up:∀{f:Pl p},Dv p r (ls f)->∃u,f=u*mk p r:=λ{f} ⟨Q,h⟩=>⟨mk p Q,by
  rw[kZ];refine jg (jL f).symm (lH.mpr λn=>?_);have:=h n;rw[jn];have e:(ls f).getD n 0-([]:List Int).getD n 0-cm Q r n=(ls f).getD n 0-cm Q r n:=by show _-0-_=_;lia
  rw[e]at this;exact this⟩
 have d1:=up G.d1;refine⟨mk p r,?_,?_,d1,up G.d2⟩
 ·rcases G.one with z|z
  ·obtain⟨u,e⟩:=d1;rw[z,yw,O5]at e;exact absurd e mx.ne0
  ·show jo (ls (mk p r))=1;rw[vp ⟨G.form,G.red⟩];exact z
 ·obtain⟨s,t,h⟩:=G.lc;refine⟨mk p s,mk p t,?_⟩;have e1:mk p s*x+mk p t*y=mk p s*mk p (ls x)+mk p t*mk p (ls y):=by rw[jL,jL]
  rw[e1];exact lH.mpr λn=>by rw[jz,jn,jn];exact h n
theorem Mo.ZF (p2:2<=p){x d u:Pl p}(mx:Mo x)(md:Mo d)(e:x=u*d):Mo u:=by
 have hd:=md.pos;have d1:jo (ls d)=1:=md;have u0:ls u≠[]:=λz=>mx.ne0 (by rw[e,<- jL u,z,yw,zero_mul]);have lu:=lP u0;have ez:ls x=Tz p (jq (ls u) (ls d)):=by rw[<- qi,<- kZ,jL,jL,e]
 have top:p ∣ cm (ls u) (ls d) ((ls u).length-1+((ls d).length-1))-jo (ls u):=by
  have:=Km (z:=p) (E:=ls u) (d:=ls d) (i:=(ls u).length-1) hd λj hj=>by rw[jr (by lia)];exact aU p
  rw[d1,bM]at this;exact this
 have t2:(ls x).getD ((ls u).length-1+((ls d).length-1)) 0=jo (ls u):=by rw[ez,lD,jn];have r:=(j7 u).red ((ls u).length-1);exact((qG p _ _).mpr top).trans r
 have nz:jo (ls u)≠0:=(j7 u).form u0;have l1:(ls x).length<=(ls u).length+(ls d).length-1:=by rw[ez];exact m6 (kW p _) λn hn=>by rw[lD,jn,S5 (by lia)];exact lW p
 have l2:(ls u).length-1+((ls d).length-1)<(ls x).length:=by refine cS λh=>?_;rw[jr h]at t2;exact nz t2.symm
 have e2:(ls x).length-1=(ls u).length-1+((ls d).length-1):=by lia
 show jo (ls u)=1;rw[<- t2,<- e2];exact mx
structure vD (q:Pl p):Prop where
 mo:Mo q
 deg:1<(ls q).length
 no:∀a b:Pl p,Mo a->Mo b->q=a*b->a=1\/b=1
theorem vD.or (hp:jN p)(h:vD q)(y:Pl p)(hl:(ls y).length<=200):nu q y\/∃u,y=u*q:=by
 obtain⟨d,md,⟨s,t,e⟩,⟨u,e1⟩,⟨v,e2⟩⟩:=aab hp y h.mo hl;rcases h.no u d (Mo.ZF hp.1 h.mo md e1) md e1 with z|z
 ·refine .inr ⟨v,?_⟩;rw[z,one_mul]at e1;rw[e1];exact e2
 ·refine .inl ⟨s,t,?_⟩;rw[<- e,z]
theorem vD.cop (hp:jN p){q r:Pl p}(h:vD q)(k:vD r)(hl:(ls r).length<=200)(ne:q≠r):nu q r:=by
 rcases h.or hp r hl with c|⟨u,e⟩
 ·exact c
 ·rcases k.no u q (Mo.ZF hp.1 k.mo h.mo e) h.mo e with z|z
  ·rw[z,one_mul]at e;exact absurd e.symm ne
  ·have:=h.deg;rw[z,vJ hp.1]at this;exact absurd this (by decide)
theorem V8 (hp:jN p):∀(n:Nat) (x:Pl p),Mo x->(ls x).length<=n->∃l:List (Pl p),(∀q∈l,vD q/\(ls q).length<=(ls x).length)/\x=l.foldr (λq y=>q*y) 1:=by
 intro n
 induction n with
 |zero=>exact λx mx h=>absurd mx.pos (by lia)
 |succ n ih=>
  intro x mx h;by_cases c:(ls x).length<=1
  ·exact⟨[],(λq hq=>by cases hq),mx.Gk hp.1 c⟩
  by_cases I:∀a b:Pl p,Mo a->Mo b->x=a*b->a=1\/b=1
  ·refine⟨[x],λq hq=>?_,?_⟩
   ·rw[bp.mp hq];exact⟨⟨mx,by lia,I⟩,ai _⟩
   ·show x=x*1;rw[mul_comm,one_mul]
  ·obtain⟨a,ha⟩:=iF.mp I;obtain⟨b,hb⟩:=iF.mp ha;obtain⟨ma,hb⟩:=gJ.mp hb;obtain⟨mb,hb⟩:=gJ.mp hb;obtain⟨e,hb⟩:=gJ.mp hb;have a1:¬(ls a).length<=1:=λz=>hb (.inl (ma.Gk hp.1 z));have b1:¬(ls b).length<=1:=λz=>hb (.inr (mb.Gk hp.1 z));have ll:=Mo.len hp.1 ma mb;rw[<- e]at ll;obtain⟨l,hl,el⟩:=ih a ma (by lia);obtain⟨k,hk,ek⟩:=ih b mb (by lia);refine⟨l++k,λq hq=>?_,?_⟩
   ·rcases c5.mp hq with hq|hq
    ·exact⟨(hl q hq).1,by have:=(hl q hq).2;lia⟩
    ·exact⟨(hk q hq).1,by have:=(hk q hq).2;lia⟩
   ·rw[e,ek,el];clear hl el
    induction l with
    |nil=>exact one_mul _
    |cons q l ih=>show q*_*_=q*_;rw[mul_assoc,ih];rfl
def put [DecidableEq (Pl p)](q:Pl p):List (Pl p×Nat)->List (Pl p×Nat)
 |[]=>[(q,1)]
 |r::L=>if r.1=q then(r.1,r.2+1)::L else r::put q L
theorem Su [DecidableEq (Pl p)](q:Pl p):∀L:List (Pl p×Nat),Pr (put q L) id=q*Pr L id
 |[]=>by show q^1*1=q*1;have e:q^1=q:=one_mul q;rw[e]
 |r::L=>by
  unfold put;by_cases h:r.1=q
  ·rw[af h,jF,jF];show r.1^(r.2+1)*_=q*(r.1^r.2*_);have e:r.1^(r.2+1)=r.1^r.2*r.1:=rfl;rw[e,h];generalize Pr L id=y;generalize q^r.2=z;grind
  ·rw[ae h,jF,jF,Su q L];generalize Pr L id=y;generalize r.1^id r.2=z;grind
theorem Gy [DecidableEq (Pl p)]:∀{L:List (Pl p×Nat)} {r:Pl p×Nat},r∈put q L->(r.1=q\/∃s∈L,s.1=r.1)/\(r.2=0->∃s∈L,s.2=0)
 |[],r,h=>by rw[bp.mp h];exact⟨.inl rfl,λz=>by cases z⟩
 |s::L,r,h=>by
  unfold put at h;by_cases c:s.1=q
  ·rw[af c]at h;rcases aB.mp h with e|h
   ·rw[e];exact⟨.inl c,λz=>by cases z⟩
   ·exact⟨.inr ⟨r,ad _ h,rfl⟩,λz=>⟨r,ad _ h,z⟩⟩
  ·rw[ae c]at h;rcases aB.mp h with e|h
   ·rw[e];exact⟨.inr ⟨s,ag ..,rfl⟩,λz=>⟨s,ag ..,z⟩⟩
   ·obtain⟨h1,h2⟩:=Gy h;refine⟨?_,λz=>?_⟩
    ·rcases h1 with h1|⟨t,ht,e⟩
     ·exact .inl h1
     ·exact .inr ⟨t,ad _ ht,e⟩
    ·obtain⟨t,ht,e⟩:=h2 z;exact⟨t,ad _ ht,e⟩
theorem put_nodup [DecidableEq (Pl p)]:∀{L:List (Pl p×Nat)},(L.Pairwise λa b=>a.1≠b.1)->(put q L).Pairwise λa b=>a.1≠b.1
 |[],_=>gW ..
 |s::L,h=>by
  obtain⟨h1,h2⟩:=a9.mp h;unfold put;by_cases c:s.1=q
  ·rw[af c];exact a9.mpr ⟨h1,h2⟩
  ·rw[ae c];refine a9.mpr ⟨λr hr=>?_,put_nodup h2⟩;rcases (Gy hr).1 with e|⟨t,ht,e⟩
   ·rw[e];exact c
   ·rw[<- e];exact h1 t ht
theorem Nm (hp:jN p)(mx:Mo x):∃L:List (Pl p×Nat),(∀q∈L,vD q.1/\(ls q.1).length<=(ls x).length/\q.2≠0)/\(L.Pairwise λa b=>a.1≠b.1)/\x=Pr L id:=by
 obtain⟨l,hl,e⟩:=V8 hp _ x mx (ai _);have dd:DecidableEq (Pl p):=λa b=>Classical.propDecidable _;have key:∀(N:Nat) (l:List (Pl p)),(∀q∈l,vD q/\(ls q).length<=N)->∃L:List (Pl p×Nat),(∀q∈L,vD q.1/\(ls q.1).length<=N/\q.2≠0)/\(L.Pairwise λa b=>a.1≠b.1)/\l.foldr (λq y=>q*y) 1=Pr L id:=by
  intro N l
  induction l with
  |nil=>exact λ_=>⟨[],(λq hq=>by cases hq),List.Pairwise.nil,rfl⟩
  |cons q l ih=>
   intro h;obtain⟨L,h1,h2,h3⟩:=ih λr hr=>h r (ad _ hr);have hq:=h q (ag ..);refine⟨put q L,λr hr=>?_,put_nodup h2,?_⟩
   ·obtain⟨k1,k2⟩:=Gy hr;have nz:r.2≠0:=λz=>by obtain⟨s,hs,e⟩:=k2 z;exact(h1 s hs).2.2 e
    rcases k1 with k1|⟨s,hs,k1⟩
    ·rw[k1];exact⟨hq.1,hq.2,nz⟩
    ·rw[<- k1];exact⟨(h1 s hs).1,(h1 s hs).2.1,nz⟩
   ·rw[Su,<- h3];rfl
 obtain⟨L,h1,h2,h3⟩:=key _ l hl;exact⟨L,h1,h2,e.trans h3⟩
theorem Tp {x:Pl p}(hx:0<(ls x).length):(ls (dv x)).length<(ls x).length:=by
 have e:ls (dv x)=Tz p (dl (ls x)):=by rw[<- qi,<- Bl,jL]
 rw[e];have:(Tz p (dl (ls x))).length<=(ls x).length-1:=m6 (kW p _) λn hn=>by rw[lD,sW,jr (by lia),aT];exact lW p
 lia
theorem QR (hp:jN p){y:Pl p}(z:dv y=0)(n:Nat)(hn:¬p ∣ (n:Int)):(ls y).getD n 0=0:=by
 have e2:mk p (dl (ls y))=mk p [0]:=by rw[<- Bl,jL];exact z
 cases n with
 |zero=>exact absurd (aU p) hn
 |succ n=>
  have:=lH.mp e2 n;rw[CJ,aQ,sW]at this;rcases W5 hp this with k|k
  ·exact absurd k hn
  ·exact tG ((j7 y).red _) (lW p) (by rw[aQ];exact k)
theorem X8 (hp:jN p)(z:dv q=0):∃x:Pl p,q=x^p.toNat/\∀j,(ls x).getD j 0=(ls q).getD (p.toNat*j) 0:=by
 have p2:2<=p:=hp.1;obtain⟨m,hm⟩:∃m,p.toNat=m+1:=⟨p.toNat-1,by lia⟩;have xg:∀j,(ls (mk p ((List.range (ls q).length).map λi=>(ls q).getD (p.toNat*i) 0))).getD j 0=(ls q).getD (p.toNat*j) 0:=λj=>by
  rw[qi,lD];by_cases c:j<(ls q).length
  ·rw[jB (by rw[aa,aq];exact c),br,bn];exact(j7 q).red _
  ·rw[jr (by rw[aa,aq];lia),jr (xs:=ls q) (aC (by lia) (Nat.le_mul_of_pos_left j (by lia)))];exact lW p
 generalize mk p ((List.range (ls q).length).map λi=>(ls q).getD (p.toNat*i) 0)=x at xg;refine⟨x,?_,xg⟩;have zx:dv (x^p.toNat)=0:=by rw[hm,GX,Mp (by rw[<- hm];have e:((p.toNat:Nat):Int)=p:=bJ (by lia);rw[e];exact fq p)];grind
 refine Mo.inj (oU (j7 _).form (j7 _).form λn=>?_);by_cases c:p ∣ (n:Int)
 ·obtain⟨k,hk⟩:=c;have k0:0<=k:=by refine Int.not_lt.mp λh=>?_;have:=Int.mul_neg_of_pos_of_neg (show 0<p by lia) h;lia
  have en:n=p.toNat*k.toNat:=by
   have e1:((p.toNat:Nat):Int)=p:=bJ (by lia);have e2:((k.toNat:Nat):Int)=k:=bJ k0;have:((p.toNat*k.toNat:Nat):Int)=p*k:=by rw[eZ,e1,e2]
   lia
  rw[en,Mi hp,xg]
 ·rw[QR hp z n c,QR hp zx n c]
theorem Ng (hp:jN p){q:Pl p}(h:vD q)(hl:(ls q).length<=200):nu q (dv q):=by
 have p2:2<=p:=hp.1;have sh:=Tp h.mo.pos;rcases h.or hp (dv q) (by lia) with c|⟨u,e⟩
 ·exact c
 have z:dv q=0:=by
  have r:=rZ (p:=p) (d:=ls q) (r:=ls (dv q)) (s:=[]) (λx hx=>by rw[show jo (ls q)=1 from h.mo,bM]at hx;exact hx) ⟨(j7 _).form,(j7 _).red,sh⟩ ⟨oR,λn=>by show pl p 0=0;exact lW p,h.mo.pos⟩ ⟨ls u,λn=>by
   have e2:mk p (ls (dv q))=mk p (jq (ls u) (ls q)):=by rw[jL,<- kZ,jL,jL];exact e
   have:=lH.mp e2 n;rw[jn]at this;show p ∣ (ls (dv q)).getD n 0-0-cm (ls u) (ls q) n;rw[aQ];exact this⟩
  rw[<- jL (dv q),r,yw]
 obtain⟨x,ex,xg⟩:=X8 hp z;have dg:=h.deg;have q1:(ls q).getD ((ls q).length-1) 0=1:=h.mo;have pd:p ∣ (((ls q).length-1:Nat):Int):=by refine cM λc=>?_;rw[QR hp z _ c]at q1;exact absurd q1 (by decide)
 obtain⟨k,hk⟩:=pd;have k0:0<k:=by refine Int.not_le.mp λh=>?_;have:=bX (show 0<=p by lia) h;lia
 have e1:((p.toNat:Nat):Int)=p:=bJ (by lia);have e2:((k.toNat:Nat):Int)=k:=bJ (by lia);have en:(ls q).length-1=p.toNat*k.toNat:=by
  have:((p.toNat*k.toNat:Nat):Int)=p*k:=by rw[eZ,e1,e2]
  lia
 have x1:(ls x).getD k.toNat 0=1:=by rw[xg,<- en];exact q1
 have xl:(ls x).length<=k.toNat+1:=m6 (j7 x).form λn hn=>by rw[xg];refine jr ?_;have:p.toNat*(k.toNat+1)<=p.toNat*n:=iW _ hn;rw[ja]at this;lia
 have xl2:k.toNat<(ls x).length:=cS λc=>by rw[jr c]at x1;exact absurd x1 (by decide)
 have le:(ls x).length-1=k.toNat:=by lia
 have mx:Mo x:=by show(ls x).getD ((ls x).length-1) 0=1;rw[le];exact x1
 obtain⟨m,hm⟩:∃m,p.toNat=m+1+1:=⟨p.toNat-2,by lia⟩;have l2:=mx.vW p2 (m+1);rw[le]at l2;have e3:q=x^(m+1)*x:=by rw[ex,hm];rfl
 rcases h.no _ _ (mx.pow p2 _) mx e3 with c|c
 ·rw[c,vJ p2]at l2;have:1=(m+1)*k.toNat+1:=l2;have:0<(m+1)*k.toNat:=Nat.mul_pos (by lia) (by lia);lia
 ·rw[c,vJ p2]at le;have:1-1=k.toNat:=le;lia
end Pl
namespace Pl
variable {p:Int}
structure wu (L:List (Pl p×Nat)):Prop where
 ap:Apart L
 sep:∀q∈L,nu q.1 (dv q.1)
 mo:∀q∈L,Mo q.1
 dg:∀q∈L,1<(ls q.1).length
def qt (p:Int)(f d:List Int):List Int:=((Zt p f d).getD ([],[])).1
theorem FJ (hp:jN p){u d:Pl p}(mu:Mo u)(md:Mo d):Zt p (ls (u*d)) (ls d)=some (ls u,[]):=by
 have g1:Int.gcd (jo (ls d)) p=1:=by rw[show jo (ls d)=1 from md];exact g8 ..
 obtain⟨h1,h2⟩:=KY (z:=p) (ov:=Ru p) (f:=ls (u*d)) (d:=ls d) md.pos (λa c ha hc=>hov hp.1 g1 a c ha hc) ((ls (u*d)).length+1) _ _ (yp.start (j7 (u*d)).form (j7 (u*d)).red) (df _);unfold Zt;cases o:Ql p (Ru p) (ls d) ((ls (u*d)).length+1) (List.replicate ((ls (u*d)).length+1-(ls d).length) 0) (ls (u*d)) with
 |none=>obtain⟨_,_,_,_,z⟩:=h2 o;cases z
 |some x=>obtain⟨q,r⟩:=x;obtain⟨I,hl⟩:=h1 q r o;obtain⟨e1,e2⟩:=ZF (u:=u) hp.1 I hl mu (by rw[jL];exact md) (j7 _) (j7 _) (by rw[jL,jL]);rw[e1,e2]
theorem R5 (hp:jN p){u d:Pl p}(mu:Mo u)(md:Mo d):qt p (ls (u*d)) (ls d)=ls u:=by unfold qt;rw[FJ hp mu md];rfl
theorem Jk {a b d:Pl p}(h:Gd a b d)(m:Mo d):gc p (ls a) (ls b)=ls d:=JG (aav (by rw[jL,jL];exact h) m)
def EY (p:Int)(f:List Int):Nat->List Int×List Int
 |0=>(gc p f (Tz p (dl f)),qt p f (gc p f (Tz p (dl f))))
 |e+1=>(qt p (EY p f e).1 (gc p (EY p f e).2 (EY p f e).1),gc p (EY p f e).2 (EY p f e).1)
def Hb (p:Int)(f:List Int)(e:Nat):List Int:=qt p (EY p f e).2 (gc p (EY p f e).2 (EY p f e).1)
theorem aaU (x:Pl p):ls (dv x)=Tz p (dl (ls x)):=by rw[<- qi,<- Bl,jL]
theorem wu.pr {L:List (Pl p×Nat)}(F:wu L)(p2:2<=p)(g:Nat->Nat):Mo (Pr L g):=Mo.pr p2 F.mo
theorem Cd (hp:jN p)(hinv:∀x:Int,¬p ∣ x->∃t,p ∣ t*x-1){L:List (Pl p×Nat)}(F:wu L)(g:Nat->Nat):∀e,EY p (ls (Pr L g)) e=(ls (Pr L (tU p g (e+1))),ls (Pr L (qR p g (e+1))))
 |0=>by
  have p2:2<=p:=hp.1;have e1:gc p (ls (Pr L g)) (Tz p (dl (ls (Pr L g))))=ls (Pr L (tU p g 1)):=by rw[<- aaU];exact Jk (Z1 hinv F.ap F.sep g) (F.pr p2 _)
  have e2:qt p (ls (Pr L g)) (ls (Pr L (tU p g 1)))=ls (Pr L (qR p g 1)):=by
   conv=>lhs;rw[XD L g]
   exact R5 hp (F.pr p2 _) (F.pr p2 _)
  show(gc p (ls (Pr L g)) (Tz p (dl (ls (Pr L g)))),qt p (ls (Pr L g)) (gc p (ls (Pr L g)) (Tz p (dl (ls (Pr L g))))))=_;rw[e1,e2]
 |e+1=>by
  have p2:2<=p:=hp.1;have ih:=Cd hp hinv F g e;have e1:gc p (ls (Pr L (qR p g (e+1)))) (ls (Pr L (tU p g (e+1))))=ls (Pr L (qR p g (e+1+1))):=Jk (Ur F.ap g (e+1)) (F.pr p2 _);have e2:qt p (ls (Pr L (tU p g (e+1)))) (ls (Pr L (qR p g (e+1+1))))=ls (Pr L (tU p g (e+1+1))):=by
   conv=>lhs;rw[Xj L g (e+1)]
   exact R5 hp (F.pr p2 _) (F.pr p2 _)
  show(qt p (EY p (ls (Pr L g)) e).1 (gc p (EY p (ls (Pr L g)) e).2 (EY p (ls (Pr L g)) e).1),gc p (EY p (ls (Pr L g)) e).2 (EY p (ls (Pr L g)) e).1)=_;rw[ih];rw[e1,e2]
theorem Em (hp:jN p)(hinv:∀x:Int,¬p ∣ x->∃t,p ∣ t*x-1){L:List (Pl p×Nat)}(F:wu L)(g:Nat->Nat)(e:Nat):Hb p (ls (Pr L g)) e=ls (Pr L (U8 p g (e+1))):=by
 have p2:2<=p:=hp.1;unfold Hb;rw[Cd hp hinv F g e];rw[Jk (Ur F.ap g (e+1)) (F.pr p2 _)]
 conv=>lhs;rw[Xu L g (e+1)]
 exact R5 hp (F.pr p2 _) (F.pr p2 _)
theorem RB (p2:2<=p){L:List (Pl p×Nat)}(F:wu L){g:Nat->Nat}{e:Nat}(h:(ls (Pr L (qR p g e))).length<=1):(∀q∈L,¬p ∣ (g q.2:Int)->g q.2<e)/\Pr L (tU p g e)=Pr L (λm=>if p ∣ (g m:Int) then g m / p.toNat else 0)^p.toNat:=by
 have k:=mt (oN p2 (g:=qR p g e) F.mo F.dg).mpr (by lia);have lt:∀q∈L,¬p ∣ (g q.2:Int)->g q.2<e:=λq hq hn=>cS λc=>k ⟨q,hq,by
  unfold qR;rw[ae hn,af c];decide⟩
 refine⟨lt,?_⟩;rw[<- RZ];refine mQ λq hq=>?_;unfold tU;by_cases c:p ∣ (g q.2:Int)
 ·rw[af c,af c];have e1:((p.toNat:Nat):Int)=p:=bJ (by lia);exact(Nat.div_mul_cancel (e8.mp (by rw[e1];exact c))).symm
 ·rw[ae c,ae c];have:=lt q hq c;lia
end Pl
namespace Pl
variable {p:Int}
theorem xU (p2:2<=p):∀{L:List (Pl p×Nat)},(∀q∈L,Mo q.1)->(∀q∈L,1<(ls q.1).length)->∀q∈L,g q.2<(ls (Pr L g)).length
 |[],_,_=>λq h=>by cases h
 |q::L,h,d=>λr hr=>by
  have h1:=h q (ag ..);have d1:=d q (ag ..);have m2:Mo (Pr L g):=Mo.pr p2 λr hr=>h r (ad _ hr);have hl:=Mo.len p2 (h1.pow p2 (g q.2)) m2;have mp:=m2.pos;rw[Mo.vW p2 h1,<- jF]at hl;rcases aB.mp hr with e|hr
  ·rw[e];have:g q.2*1<=g q.2*((ls q.1).length-1):=iW _ (by lia);lia
  ·have:=xU p2 (g:=g) (λr hr=>h r (ad _ hr)) (λr hr=>d r (ad _ hr)) r hr;lia
def Ka (k:Nat)(f:List Int):List Int:=(List.range ((f.length+k-1) / k)).map λi=>f.getD (k*i) 0
theorem RP (hp:jN p){x:Pl p}(m:Mo x):Ka p.toNat (ls (x^p.toNat))=ls x:=by
 have p2:2<=p:=hp.1;obtain⟨h1,h2⟩:=PQ hp m;have l:=m.pos;unfold Ka;have e:((ls (x^p.toNat)).length+p.toNat-1) / p.toNat=(ls x).length:=by
  rw[h2];have e1:p.toNat*((ls x).length-1)+1+p.toNat-1=(ls x).length*p.toNat:=by obtain⟨n,hn⟩:∃n,(ls x).length=n+1:=⟨(ls x).length-1,by lia⟩;rw[hn,f9,cX];show n*p.toNat+1+p.toNat-1=_;lia
  rw[e1];exact gw _ (by lia)
 rw[e];exact h1
def gk (p:Int):Nat->Nat->Nat
 |0,m=>m
 |k+1,m=>if p ∣ (gk p k m:Int) then gk p k m / p.toNat else 0
def lf (p:Int)(f:List Int):Nat->List Int
 |0=>f
 |k+1=>Ka p.toNat (EY p (lf p f k) (lf p f k).length).1
theorem Rf (p2:2<=p){L:List (Pl p×Nat)}(F:wu L)(g:Nat->Nat){e:Nat}(h:(ls (Pr L g)).length<=e):(ls (Pr L (qR p g e))).length<=1:=by
 refine dC λc=>?_;obtain⟨q,hq,k⟩:=(oN p2 F.mo F.dg).mp c;have b:=xU p2 (g:=g) F.mo F.dg q hq;unfold qR at k;by_cases c1:p ∣ (g q.2:Int)
 ·rw[af c1]at k;exact k rfl
 ·rw[ae c1,ae (by lia)]at k;exact k rfl
theorem vC (hp:jN p)(hinv:∀x:Int,¬p ∣ x->∃t,p ∣ t*x-1){L:List (Pl p×Nat)}(F:wu L):∀k,lf p (ls (Pr L id)) k=ls (Pr L (gk p k))
 |0=>rfl
 |k+1=>by have ih:=vC hp hinv F k;show Ka p.toNat (EY p (lf p (ls (Pr L id)) k) (lf p (ls (Pr L id)) k).length).1=_;rw[ih,Cd hp hinv F];rw[(RB hp.1 F (Rf hp.1 F (gk p k) (iM _))).2];exact RP hp (F.pr hp.1 _)
theorem Bm (p2:2<=p):∀k m,gk p k m=if p.toNat^k ∣ m then m / p.toNat^k else 0
 |0,m=>by rw[Nat.pow_zero,af (Nat.one_dvd m),Nat.div_one];rfl
 |k+1,m=>by
  have e1:((p.toNat:Nat):Int)=p:=bJ (by lia);have dv':∀n:Nat,p ∣ (n:Int) ↔ p.toNat ∣ n:=λn=>by rw[<- e8,e1]
  show(if p ∣ (gk p k m:Int) then gk p k m / p.toNat else 0)=_;rw[Bm p2 k m];have pp:0<p.toNat^k:=dz (by lia);by_cases c:p.toNat^k ∣ m
  ·rw[af c];by_cases c2:p.toNat^(k+1) ∣ m
   ·have c3:p.toNat ∣ m / p.toNat^k:=by rw[eS]at c2;exact(gX c).mpr c2
    rw[af ((dv' _).mpr c3),af c2,Nat.div_div_eq_div_mul,<- eS]
   ·have c3:¬p.toNat ∣ m / p.toNat^k:=λh=>c2 (by
     rw[eS];exact(gX c).mp h)
    rw[ae (λh=>c3 ((dv' _).mp h)),ae c2]
  ·have c2:¬p.toNat^(k+1) ∣ m:=λh=>c (Nat.dvd_trans ⟨p.toNat,eS ..⟩ h);rw[ae c,ae c2];by_cases c3:p ∣ ((0:Nat):Int)
   ·rw[af c3,jb]
   ·rw[ae c3]
def ind (c m:Nat):Nat:=if m=c then 1 else 0
theorem YG (p2:2<=p){k e:Nat}(he:¬p ∣ (e:Int))(m:Nat):U8 p (gk p k) e m=ind (e*p.toNat^k) m:=by
 have pp:0<p.toNat^k:=dz (by lia);have e0:=Xx he;unfold U8 ind;rw[Bm p2 k m];by_cases c:p.toNat^k ∣ m
 ·rw[af c];have iff:m / p.toNat^k=e ↔ m=e*p.toNat^k:=Nat.div_eq_iff_eq_mul_left pp c;by_cases c2:m / p.toNat^k=e
  ·rw[c2,ae he,af rfl,af (iff.mp c2)]
  ·rw[ae (λh=>c2 (iff.mpr h))];by_cases c3:p ∣ ((m / p.toNat^k:Nat):Int)
   ·rw[af c3]
   ·rw[ae c3,ae c2]
 ·rw[ae c,af (show p ∣ ((0:Nat):Int) from aU p),ae λh=>c ⟨e,by rw[h,cX]⟩]
theorem Wr {k e:Nat}(he:p ∣ (e:Int))(g:Nat->Nat)(m:Nat):U8 p g e m=0:=by
 unfold U8;by_cases c:p ∣ (g m:Int)
 ·rw[af c]
 ·rw[ae c];by_cases c2:g m=e
  ·rw[c2]at c;exact absurd he c
  ·rw[ae c2]
theorem Ud (hp:jN p)(hinv:∀x:Int,¬p ∣ x->∃t,p ∣ t*x-1){L:List (Pl p×Nat)}(F:wu L){k e:Nat}(he:¬p ∣ ((e+1:Nat):Int)):Hb p (lf p (ls (Pr L id)) k) e=ls (Pr L (ind ((e+1)*p.toNat^k))):=by rw[vC hp hinv F,Em hp hinv F];exact congrArg ls (mQ λq _=>YG hp.1 he q.2)
theorem WP (hp:jN p)(hinv:∀x:Int,¬p ∣ x->∃t,p ∣ t*x-1){L:List (Pl p×Nat)}(F:wu L){k e:Nat}(he:p ∣ ((e+1:Nat):Int)):Hb p (lf p (ls (Pr L id)) k) e=[1]:=by
 rw[vC hp hinv F,Em hp hinv F,mQ (h:=λ_=>0) λq _=>Wr (k:=k) he _ q.2];have z:∀L:List (Pl p×Nat),Pr L (λ_=>0)=1:=λL=>by
  induction L with
  |nil=>rfl
  |cons q L ih=>rw[jF,ih];exact one_mul 1
 rw[z,vJ hp.1]
end Pl
namespace Pl
variable {p:Int}
theorem Eo (hp:jN p){x:Pl p}(m:Mo x)(l:(ls x).length<=200):Hd p (ls x):=⟨hp,l,by rw[qW];exact m.ne,by rw[qW,show jo (ls x)=1 from m];exact g8 ..⟩
theorem X6 (hp:jN p){x u d:Pl p}(e:x=u*d)(mu:Mo u)(md:Mo d):uQ p (Tz p (ls x)) (Tz p (ls d))=.tup [.ints (ls u),.ints []]:=by unfold uQ;rw[qW,qW,e,FJ hp mu md]
def prs (p:Int)(f:List Int)(N:Nat):List PV:=(List.range N).filterMap λe=>if 1<(Hb p f e).length then some (.tup [.ints (Hb p f e),.int ((e:Int)+1)]) else none
def DP (p:Int)(f:List Int):PV:=.tup [.lst (prs p f f.length),.ints (EY p f f.length).1]
theorem BP (p:Int)(f:Li)(N:Nat):prs p f (N+1)=prs p f N++if 1<(Hb p f N).length then[.tup [.ints (Hb p f N),.int ((N:Int)+1)]] else[]:=by
 unfold prs;rw[iw,List.filterMap_append];congr 1;rw[bA,List.filterMap_nil];by_cases c:1<(Hb p f N).length
 ·rw[af c,af c]
 ·rw[ae c,ae c]
theorem Jg (p2:2<=p){L:List (Pl p×Nat)}(F:wu L){g:Nat->Nat}{e n:Nat}(h:(ls (Pr L (qR p g e))).length<=1)(hn:e<=n):¬1<(ls (Pr L (U8 p g n))).length/\Pr L (tU p g n)=Pr L (tU p g e):=by
 have lt:=(RB p2 F h).1;refine⟨λc=>?_,mQ λq hq=>?_⟩
 ·obtain⟨q,hq,k⟩:=(oN p2 F.mo F.dg).mp c;unfold U8 at k;by_cases c1:p ∣ (g q.2:Int)
  ·rw[af c1]at k;exact k rfl
  ·have:=lt q hq c1;rw[ae c1,ae (by lia)]at k;exact k rfl
 ·unfold tU;by_cases c1:p ∣ (g q.2:Int)
  ·rw[af c1,af c1]
  ·have:=lt q hq c1;rw[ae c1,ae c1];lia
theorem Ib (hp:jN p){L:List (Pl p×Nat)}(F:wu L){g:Nat->Nat}{e:Nat}(h:(ls (Pr L (qR p g (e+1)))).length<=1):∀n,prs p (ls (Pr L g)) (e+n)=prs p (ls (Pr L g)) e
 |0=>rfl
 |n+1=>by rw[<- Nat.add_assoc,BP,Ib hp F h n,Em hp (λx hx=>lK hp hx) F,ae (Jg hp.1 F h (by lia)).1,bu]
theorem Ww (hp:jN p){L:List (Pl p×Nat)}(F:wu L){g:Nat->Nat}{e:Nat}(h:(ls (Pr L (qR p g (e+1)))).length<=1)(he:e<=(ls (Pr L g)).length):DP p (ls (Pr L g))=.tup [.lst (prs p (ls (Pr L g)) e),.ints (ls (Pr L (tU p g (e+1))))]:=by unfold DP;obtain⟨n,hn⟩:∃n,(ls (Pr L g)).length=e+n:=⟨(ls (Pr L g)).length-e,by lia⟩;rw[hn,Ib hp F h,Cd hp (λx hx=>lK hp hx) F];rw[(Jg hp.1 F h (show e+1<=e+n+1 by lia)).2]
def scP (c:Int):PV->PV
 | .tup [a,.int e]=>.tup [a,.int (e*c)]
 |q=>q
def Uu (p:Int)(f:List Int)(k:Nat):List PV:=(prs p (lf p f k) (lf p f k).length).map (scP (p^k))
def o8 (p:Int)(f:List Int):Nat->List PV
 |0=>[]
 |k+1=>o8 p f k++Uu p f k
def TT (L:List (Pl p×Nat))(c:Nat):PV:=.tup [.ints (ls (Pr L (ind c))),.int (c:Int)]
def Hn (L:List (Pl p×Nat)):List PV:=((List.range 31).filter λc=>decide (1<(ls (Pr L (ind c))).length)).map (TT L)
theorem Et (p2:2<=p)(k:Nat):((p.toNat^k:Nat):Int)=p^k:=by rw[Int.natCast_pow,bJ (by lia)]
theorem Gn (hp:jN p){L:List (Pl p×Nat)}(F:wu L){k:Nat}:q∈Uu p (ls (Pr L id)) k ↔ ∃e,e<(lf p (ls (Pr L id)) k).length/\¬p ∣ ((e+1:Nat):Int)/\1<(ls (Pr L (ind ((e+1)*p.toNat^k)))).length/\q=TT L ((e+1)*p.toNat^k):=by
 have hinv:=λx hx=>lK hp (x:=x) hx;have p2:2<=p:=hp.1;have cast:∀e:Nat,(((e+1)*p.toNat^k:Nat):Int)=((e:Int)+1)*p^k:=λe=>by rw[eZ,Et p2];rfl
 unfold Uu prs;rw[aR];constructor
 ·rintro⟨r,hr,rfl⟩;obtain⟨e,he,hq⟩:=cr.mp hr;rw[aW]at he;by_cases c:1<(Hb p (lf p (ls (Pr L id)) k) e).length
  ·rw[af c]at hq;have nd:¬p ∣ ((e+1:Nat):Int):=λz=>by rw[WP hp hinv F z]at c;exact absurd c (by decide)
   rw[Ud hp hinv F nd]at c hq;refine⟨e,he,nd,c,?_⟩;cases hq;unfold TT;rw[cast];rfl
  ·rw[ae c]at hq;cases hq
 ·rintro⟨e,he,nd,c,rfl⟩;refine⟨.tup [.ints (Hb p (lf p (ls (Pr L id)) k) e),.int ((e:Int)+1)],cr.mpr ⟨e,aW.mpr he,?_⟩,?_⟩
  ·rw[Ud hp hinv F nd,af c]
  ·rw[Ud hp hinv F nd];unfold TT;rw[cast];rfl
theorem zu (hp:jN p){L:List (Pl p×Nat)}(F:wu L):∀{K:Nat},q∈o8 p (ls (Pr L id)) K ↔ ∃k e,k<K/\e<(lf p (ls (Pr L id)) k).length/\¬p ∣ ((e+1:Nat):Int)/\1<(ls (Pr L (ind ((e+1)*p.toNat^k)))).length/\q=TT L ((e+1)*p.toNat^k)
 |0=>by
  constructor
  ·intro h;cases h
  ·rintro⟨k,e,h,_⟩;lia
 |K+1=>by
  show q∈o8 p (ls (Pr L id)) K++Uu p (ls (Pr L id)) K ↔ _;rw[c5,zu hp F (K:=K),Gn hp F];constructor
  ·rintro (⟨k,e,h,r⟩|⟨e,r⟩)
   ·exact⟨k,e,by lia,r⟩
   ·exact⟨K,e,by lia,r⟩
  ·rintro⟨k,e,h,r⟩;by_cases c:k=K
   ·subst c;exact .inr ⟨e,r⟩
   ·exact .inl ⟨k,e,by lia,r⟩
theorem Gi (L:List (Pl p×Nat))(c:Nat):pQ (TT L c)=(c:Int):=rfl
theorem YQ (hp:jN p){L:List (Pl p×Nat)}(F:wu L)(k:Nat):((Uu p (ls (Pr L id)) k).map pQ).Nodup:=by
 have p2:2<=p:=hp.1;unfold Uu prs;rw[bx,List.Nodup,cJ,List.pairwise_filterMap];refine hV.imp λ{a b} hab x hx y hy=>?_;have shape:∀(e:Nat) (z:PV),(if 1<(Hb p (lf p (ls (Pr L id)) k) e).length then some (PV.tup [.ints (Hb p (lf p (ls (Pr L id)) k) e),.int ((e:Int)+1)]) else none)=some z->(pQ ∘ scP (p^k)) z=((e:Int)+1)*p^k:=λe z h=>by
  split at h
  ·cases h;rfl
  ·cases h
 rw[shape a x hx,shape b y hy];have pp:p^k≠0:=Int.pow_ne_zero (by lia);intro z;have:=Int.eq_of_mul_eq_mul_right pp z;lia
theorem Kq (hp:jN p){L:List (Pl p×Nat)}(F:wu L):∀K,((o8 p (ls (Pr L id)) K).map pQ).Nodup
 |0=>List.Pairwise.nil
 |K+1=>by
  show((o8 p (ls (Pr L id)) K++Uu p (ls (Pr L id)) K).map pQ).Nodup;rw[bF,gK];refine⟨Kq hp F K,YQ hp F K,λa ha b hb z=>?_⟩;obtain⟨x,hx,rfl⟩:=aR.mp ha;obtain⟨y,hy,rfl⟩:=aR.mp hb;obtain⟨k,e,hk,_,nd,_,rfl⟩:=(zu hp F).mp hx;obtain⟨e',_,_,_,rfl⟩:=(Gn hp F).mp hy;rw[Gi,Gi]at z;have z:(e+1)*p.toNat^k=(e' + 1)*p.toNat^K:=Int.ofNat.inj z;have p2:2<=p:=hp.1;have pp:0<p.toNat^k:=dz (by lia);obtain⟨m,rfl⟩:∃m,K=k+(m+1):=⟨K-k-1,by lia⟩;have z2:e+1=(e' + 1)*p.toNat^m*p.toNat:=by refine Nat.eq_of_mul_eq_mul_right pp ?_;rw[z,je,eS];rw[cX (p.toNat^k),gP (e' + 1),<- gP (e' + 1) (p.toNat^m*p.toNat)]
  refine nd ?_;rw[z2,eZ,bJ (by lia)];exact Int.dvd_mul_left ..
theorem WD:∀(n:Nat) (p2:2<=p),n≠0->∃e k,n=(e+1)*p.toNat^k/\¬p ∣ ((e+1:Nat):Int):=by
 intro n p2
 induction n using Nat.strongRecOn with
 |ind n ih=>
  intro h;by_cases c:p ∣ (n:Int)
  ·have c2:p.toNat ∣ n:=by rw[<- e8,bJ (by lia)];exact c
   obtain⟨m,hm⟩:=c2;have m0:m≠0:=λz=>h (by rw[hm,z,Nat.mul_zero]);have lt:m<n:=by rw[hm];have:2*m<=p.toNat*m:=fM _ (by lia);lia
   obtain⟨e,k,h1,h2⟩:=ih m lt m0;exact⟨e,k+1,by rw[hm,h1,eS,cX p.toNat,gP],h2⟩
  ·exact⟨n-1,0,by rw[Nat.pow_zero,Nat.mul_one];lia,by rw[Nat.sub_add_cancel (by lia)];exact c⟩
theorem Zv (hp:jN p){L:List (Pl p×Nat)}(F:wu L)(nz:∀q∈L,q.2≠0)(hl:(ls (Pr L id)).length<=31){K:Nat}(hK:(lf p (ls (Pr L id)) K).length<=1):(Hn L).Perm (o8 p (ls (Pr L id)) K)/\(Hn L).Pairwise (λa b=>pQ a<pQ b):=by
 have hinv:=λx hx=>lK hp (x:=x) hx;have p2:2<=p:=hp.1;have ord:(Hn L).Pairwise (λa b=>pQ a<pQ b):=by unfold Hn;rw[cJ];exact(hV.filter _).imp λ{a b} h=>by rw[Gi,Gi];lia
 refine⟨?_,ord⟩;have n1:(Hn L).Nodup:=ord.imp λ{a b} h z=>by rw[z]at h;lia
 have n2:(o8 p (ls (Pr L id)) K).Nodup:=by have:=Kq hp F K;rw[List.Nodup,cJ]at this;exact this.imp λ{a b} h z=>h (by rw[z])
 refine(List.perm_ext_iff_of_nodup n1 n2).mpr λq=>?_;rw[zu hp F];unfold Hn;rw[aR];constructor
 ·rintro⟨c,hc,rfl⟩;obtain⟨hr,hd⟩:=aS.mp hc;have hd:=bO hd;obtain⟨r,hr2,hz⟩:=(oN p2 F.mo F.dg).mp hd;have ec:r.2=c:=by
   unfold ind at hz;by_cases z:r.2=c
   ·exact z
   ·rw[ae z]at hz;exact absurd rfl hz
  have c0:c≠0:=by rw[<- ec];exact nz r hr2
  obtain⟨e,k,h1,h2⟩:=WD c p2 c0;have pp:0<p.toNat^k:=dz (by lia);have gkc:gk p k r.2=e+1:=by rw[Bm p2,ec,h1,af ⟨e+1,cX ..⟩,gw _ pp]
  have big:=xU p2 (g:=gk p k) F.mo F.dg r hr2;rw[gkc,<- vC hp hinv F]at big;refine⟨k,e,?_,by lia,h2,by rw[<- h1];exact hd,by rw[<- h1]⟩;refine cS λhKk=>?_;rw[vC hp hinv F]at hK;have:=mt (oN p2 (g:=gk p K) F.mo F.dg).mpr (by lia);refine this ⟨r,hr2,?_⟩;have dv':p.toNat^K ∣ r.2:=by rw[ec,h1];exact Nat.dvd_trans (Nat.pow_dvd_pow _ hKk) ⟨e+1,cX ..⟩
  rw[Bm p2,af dv'];have:0<r.2 / p.toNat^K:=Nat.div_pos (Nat.le_of_dvd (by have:=nz r hr2;lia) dv') (dz (by lia));lia
 ·rintro⟨k,e,hk,he,nd,hd,rfl⟩;refine⟨_,aS.mpr ⟨aW.mpr ?_,aL hd⟩,rfl⟩;obtain⟨r,hr2,hz⟩:=(oN p2 F.mo F.dg).mp hd;have ec:r.2=(e+1)*p.toNat^k:=by
   unfold ind at hz;by_cases z:r.2=(e+1)*p.toNat^k
   ·exact z
   ·rw[ae z]at hz;exact absurd rfl hz
  have big:=xU p2 (g:=id) F.mo F.dg r hr2;have big:r.2<(ls (Pr L id)).length:=big;lia
theorem Xh (hp:jN p){L:List (Pl p×Nat)}(F:wu L){k:Nat}(h:(lf p (ls (Pr L id)) k).length<=1):Uu p (ls (Pr L id)) k=[]:=by
 refine List.eq_nil_iff_forall_not_mem.mpr λq hq=>?_;have hinv:=λx hx=>lK hp (x:=x) hx;obtain⟨e,he,nd,hd,_⟩:=(Gn hp F).mp hq;obtain⟨r,hr2,hz⟩:=(oN hp.1 F.mo F.dg).mp hd;have ec:r.2=(e+1)*p.toNat^k:=by
  unfold ind at hz;by_cases z:r.2=(e+1)*p.toNat^k
  ·exact z
  ·rw[ae z]at hz;exact absurd rfl hz
 have p2:2<=p:=hp.1;rw[vC hp hinv F]at h;have:=mt (oN hp.1 (g:=gk p k) F.mo F.dg).mpr (by lia);refine this ⟨r,hr2,?_⟩;rw[Bm hp.1,ec,af ⟨e+1,cX ..⟩,gw _ (dz (by lia))];lia
theorem Ih (hp:jN p){L:List (Pl p×Nat)}(F:wu L){k:Nat}(h:1<(lf p (ls (Pr L id)) k).length):k<(ls (Pr L id)).length:=by
 have hinv:=λx hx=>lK hp (x:=x) hx;have p2:2<=p:=hp.1;rw[vC hp hinv F]at h;obtain⟨r,hr2,hz⟩:=(oN p2 F.mo F.dg).mp h;have big:r.2<(ls (Pr L id)).length:=xU p2 (g:=id) F.mo F.dg r hr2;rw[Bm p2]at hz;by_cases c:p.toNat^k ∣ r.2
 ·by_cases r0:r.2=0
  ·rw[af c,r0,jb]at hz;exact absurd rfl hz
  have h1:=Nat.le_of_dvd (by lia) c;have h2:k<p.toNat^k:=aD Nat.lt_two_pow_self (iX (by lia) k);lia
 ·rw[ae c]at hz;exact absurd rfl hz
theorem Y4 (hp:jN p)(mx:Mo x)(hl:(ls x).length<=100):∃L:List (Pl p×Nat),wu L/\(∀q∈L,q.2≠0)/\x=Pr L id:=by obtain⟨L,h1,h2,h3⟩:=Nm hp mx;refine⟨L,⟨?_,λq hq=>Ng hp (h1 q hq).1 (by have:=(h1 q hq).2.1;lia),λq hq=>(h1 q hq).1.mo,λq hq=>(h1 q hq).1.deg⟩,λq hq=>(h1 q hq).2.2,h3⟩;exact gL (λ{a b} ha hb ne=>(h1 a ha).1.cop hp (h1 b hb).1 (by have:=(h1 b hb).2.1;lia) ne) h2
end Pl
open Pl in
theorem SN (p:Int)(f:Li):kJ (((f.mapIdx λk n=>(k:Int)*n).drop 1).map (pl p))=Tz p (dl f):=by
 unfold Tz;refine G3 λn=>?_;rw[sW];congr 1;have e:((f.mapIdx λk n=>(k:Int)*n).drop 1).getD n 0=(f.mapIdx λk n=>(k:Int)*n).getD (n+1) 0:=by rw[gQ,gQ,dI,ib]
 rw[e];by_cases c:n+1<f.length
 ·rw[jB (by rw[di];exact c),List.getElem_mapIdx,jB c];congr 1
 ·rw[jr (by rw[di];lia),jr (by lia),aT]
open Pl in
theorem yd (T:Top K mg cNO cK cR):Ok P w K mg base 6 "seen_by_slope" ["kind","f"] (yu K (pX cR) (λas=>∃(p:Int) (L:List (Pl p×Nat)) (g:Nat->Nat),as=[.ob 0 p,.ints (ls (Pr L g))]/\jN p/\wu L/\(ls (Pr L g)).length<=100) λas=>match as with
  |[.ob 0 p,.ints f]=>DP p f
  |_=>.non):=by
 refine w5 T.yZ jO (λas ⟨a,b,c,h,_⟩=>by rw[h];rfl) (λf cdv A outer s H E hr=>⟨_,(ji (jC (i:=2) jO.nd rfl (Or.inl rfl) (jY (tW (yf T) hr (jh (xv 0) (jh (xl 1) (jh (jY (tW (Td T) hr (jh (xv 0) (jh (xl 1) jk)))) jk))))))
 (ji (jC (i:=3) jO.nd rfl (Or.inl rfl) (xl_of (ju (xc (oh T) hr (jh (xv 0) (jh (xl 1) (jh (xl 2) jk)))) jj (λ_ _=>rfl))))
 (ji (t7 (i:=4) jO.nd rfl (Or.inl rfl) (sO jk))
 (ji (jA (i:=5) jO.nd rfl (Or.inl rfl) jj)
 (ji (nF aE (xF (jU 3 T.jM) jj)
 (ji (jC (i:=6) jO.nd rfl (Or.inl rfl) (jY (tW (yf T) hr (jh (xv 0) (jh (xl 3) (jh (xl 2) jk))))))
 (ji (jC (i:=7) jO.nd rfl (Or.inl rfl) (xl_of (ju (xc (oh T) hr (jh (xv 0) (jh (xl 3) (jh (xl 6) jk)))) jj (λ_ _=>rfl))))
 (Cm (lJ (xF (jU 7 T.jM) jj)
 (jm (uz 4 (qH (jh (xl 7) (jh (xn 5) jk)))))
 kj)
 (ji (jC (i:=2) jO.nd rfl (Or.inl rfl) (xl_of (ju (xc (oh T) hr (jh (xv 0) (jh (xl 2) (jh (xl 6) jk)))) jj (λ_ _=>rfl))))
 (ji (jC (i:=3) jO.nd rfl (Or.inl rfl) (xl 6))
 (jm (zE (i:=5) jO.nd rfl (Or.inl rfl) jj ul))))))))
 (lz 4 (jm (jx (qH (jh (xv 4) (jh (xl 2) jk))))))))))),λas hp=>?_⟩)
 obtain⟨p,L,g,rfl,hp,F,hl⟩:=hp;have p2:2<=p:=hp.1;have hinv:=λx hx=>lK hp (x:=x) hx;have st:=Cd hp hinv F g;have sg:=Em hp hinv F g;have fin:=λe=>Ww (e:=e) (g:=g) hp F;have far:=λe=>Rf (e:=e) p2 F g;have mo:=λh:Nat->Nat=>F.pr p2 h;have go:=XD (p:=p) L g;have gdE:=λe=>Ur F.ap g e;have ly:=λe=>Xu (p:=p) L g e;have dp:=λe=>Xj (p:=p) L g e;have lenD:∀e,(ls (Pr L (tU p g e))).length<=(ls (Pr L g)).length/\(ls (Pr L (qR p g e))).length<=(ls (Pr L g)).length:=by
  have le:∀h:Nat->Nat,(∀q∈L,h q.2<=g q.2)->(ls (Pr L h)).length<=(ls (Pr L g)).length:=λh hh=>by have e:=Ad (L:=L) (g:=g) (h:=h) hh;have:=Mo.len p2 (mo λm=>g m-h m) (mo h);rw[<- e]at this;have:=(mo λm=>g m-h m).pos;lia
  refine λe=>⟨le _ λq _=>?_,le _ λq _=>?_⟩
  ·unfold tU;split<;>lia
  ·unfold qR;split
   ·lia
   ·rename_i c;split
    ·have:g q.2≠0:=λz=>c (by rw[z];exact aU p);lia
    ·lia
 have s0:=st 0;have e1:=(Prod.mk.inj s0).1;generalize hf:ls (Pr L g)=f at *
 have sl:=aC (Dw ((((f.mapIdx λk n=>(k:Int)*n).drop 1).map (pl p)))) (show _<=f.length by rw[aa,aY,di];lia);refine⟨⟨⟨rfl,rfl,⟨⟨rfl,rfl,tJ⟩,p,f,rfl,by lia⟩,tJ⟩,p,f,kJ (((f.mapIdx λk n=>(k:Int)*n).drop 1).map (pl p)),rfl,hp,by lia,by lia⟩,λd ed=>?_⟩;have ed:d=ls (Pr L (tU p g 1)):=by have ed:d=gc p f (kJ (((f.mapIdx λk n=>(k:Int)*n).drop 1).map (pl p))):=ed;rw[ed,SN,e1]
 have l1:=lenD 1;have dvq:∀{x u y:Pl p},x=u*y->Mo u->Mo y->lR (uQ p (Tz p (ls x)) (Tz p (ls y))) 0/\jV (uQ p (Tz p (ls x)) (Tz p (ls y))) 0=.ints (ls u):=λe mu my=>by rw[X6 hp e mu my];exact⟨⟨by show(-2:Int)<=0;decide,by show(0:Int)<2;decide⟩,rfl⟩
 have q0:=dvq go (mo _) (mo _);rw[hf,<- ed]at q0;refine⟨⟨⟨⟨⟨rfl,rfl,rfl,tJ⟩,p,f,d,rfl,by rw[ed];exact Eo hp (mo _) (by lia),by lia⟩,tJ,q0.1⟩,?_⟩,λy ey=>?_⟩
 ·show jV (uQ p (Tz p f) (Tz p d)) 0=.ints (j8 (jV (uQ p (Tz p f) (Tz p d)) 0));rw[q0.2];rfl
 have ey:y=ls (Pr L (qR p g 1)):=by have ey:y=j8 (jV (uQ p (Tz p f) (Tz p d)) 0):=ey;rw[q0.2]at ey;exact ey
 refine⟨tJ,λl0 el0=>⟨tJ,λo0 eo0=>?_⟩⟩;refine jJ (Z':=[.fr (.ob 0 p),.fr (.ints f),.fr (.ints d),.fr (.ints y),.ow (.lst l0),.fr (.int o0),.un,.un]) rfl ?_;refine⟨λZ=>∃(e:Nat) (v6 v7:Sl),Z=[.fr (.ob 0 p),.fr (.ints f),.fr (.ints (ls (Pr L (tU p g (e+1))))),.fr (.ints (ls (Pr L (qR p g (e+1))))),.ow (.lst (prs p f e)),.fr (.int ((e:Int)+1)),v6,v7]/\e<=f.length,λZ=>((f.length:Int)+1-Dc Z 5).toNat,⟨0,.un,.un,by rw[ed,ey,el0,eo0];rfl,bh _⟩,?_⟩;rintro Z ⟨e,v6,v7,rfl,he⟩;have le1:=lenD (e+1);have le2:=lenD (e+1+1);refine⟨⟨.inl rfl,tJ⟩,λk=>?_,λk=>?_⟩
 ·have k:((ls (Pr L (qR p g (e+1)))).length:Int) > 1:=k;have lt:e+1<f.length:=cS λz=>by have:=far (e+1) z;lia
  refine⟨⟨⟨rfl,rfl,rfl,tJ⟩,p,ls (Pr L (qR p g (e+1))),ls (Pr L (tU p g (e+1))),rfl,hp,by lia,by lia⟩,λnl enl=>?_⟩;have enl:nl=ls (Pr L (qR p g (e+1+1))):=by have enl:nl=gc p (ls (Pr L (qR p g (e+1)))) (ls (Pr L (tU p g (e+1)))):=enl;rw[enl];exact Jk (gdE (e+1)) (mo _)
  have q1:=dvq (ly (e+1)) (mo _) (mo _);have q2:=dvq (dp (e+1)) (mo _) (mo _);have ok:=Eo hp (mo (qR p g (e+1+1))) (by lia);rw[<- enl]at q1 q2 ok;refine⟨⟨⟨⟨⟨rfl,rfl,rfl,tJ⟩,p,ls (Pr L (qR p g (e+1))),nl,rfl,ok,by lia⟩,tJ,q1.1⟩,?_⟩,λgg eg=>?_⟩
  ·show jV (uQ p (Tz p (ls (Pr L (qR p g (e+1))))) (Tz p nl)) 0=.ints (j8 (jV (uQ p (Tz p (ls (Pr L (qR p g (e+1))))) (Tz p nl)) 0));rw[q1.2];rfl
  have eg:gg=Hb p f e:=by have eg:gg=j8 (jV (uQ p (Tz p (ls (Pr L (qR p g (e+1))))) (Tz p nl)) 0):=eg;rw[q1.2]at eg;rw[sg];exact eg
  refine jJ (Z':=[.fr (.ob 0 p),.fr (.ints f),.fr (.ints (ls (Pr L (tU p g (e+1))))),.fr (.ints (ls (Pr L (qR p g (e+1))))),.ow (.lst (prs p f e)),.fr (.int ((e:Int)+1)),.fr (.ints nl),.fr (.ints gg)]) rfl ?_;have pl1:(prs p f e).length<sizeLine:=by refine small1000 ?_;unfold prs;have:=gN (λe=>if 1<(Hb p f e).length then some (PV.tup [.ints (Hb p f e),.int ((e:Int)+1)]) else none) (List.range e);rw[aq]at this;lia
  refine⟨λZ=>Z=[.fr (.ob 0 p),.fr (.ints f),.fr (.ints (ls (Pr L (tU p g (e+1))))),.fr (.ints (ls (Pr L (qR p g (e+1))))),.ow (.lst (prs p f (e+1))),.fr (.int ((e:Int)+1)),.fr (.ints nl),.fr (.ints gg)],⟨⟨.inl rfl,tJ⟩,λz=>?_,λz=>?_⟩,?_⟩
  ·have z:(gg.length:Int) > 1:=z;refine⟨rfl,⟨rfl,rfl,tJ⟩,pl1,?_⟩;rw[BP,af (by rw[<- eg];lia),<- eg];rfl
  ·have z:¬(gg.length:Int) > 1:=z;rw[BP,ae (by rw[<- eg];lia),bu]
  rintro Z rfl;refine⟨⟨⟨⟨⟨rfl,rfl,rfl,tJ⟩,p,ls (Pr L (tU p g (e+1))),nl,rfl,ok,by lia⟩,tJ,q2.1⟩,?_⟩,λd2 ed2=>?_⟩
  ·show jV (uQ p (Tz p (ls (Pr L (tU p g (e+1))))) (Tz p nl)) 0=.ints (j8 (jV (uQ p (Tz p (ls (Pr L (tU p g (e+1))))) (Tz p nl)) 0));rw[q2.2];rfl
  have ed2:d2=ls (Pr L (tU p g (e+1+1))):=by have ed2:d2=j8 (jV (uQ p (Tz p (ls (Pr L (tU p g (e+1))))) (Tz p nl)) 0):=ed2;rw[q2.2]at ed2;exact ed2
  refine⟨rfl,λy2 ey2=>?_⟩;have ey2:y2=nl:=ey2;refine jJ (Z':=[.fr (.ob 0 p),.fr (.ints f),.fr (.ints d2),.fr (.ints y2),.ow (.lst (prs p f (e+1))),.fr (.int ((e:Int)+1)),.fr (.ints nl),.fr (.ints gg)]) rfl ?_;refine⟨rfl,tJ,tJ,λo eo=>?_⟩;have eo:o=(e:Int)+1+1:=eo;refine⟨⟨e+1,.fr (.ints nl),.fr (.ints gg),?_,by lia⟩,?_⟩
  ·rw[eo,ed2,ey2,enl];rfl
  ·show((f.length:Int)+1-o).toNat<((f.length:Int)+1-((e:Int)+1)).toNat;lia
 ·have k:¬((ls (Pr L (qR p g (e+1)))).length:Int) > 1:=k;refine⟨⟨rfl,rfl,tJ⟩,?_⟩;show PV.tup [.lst (prs p f e),.ints (ls (Pr L (tU p g (e+1))))]=DP p f;rw[fin e (by lia) he]
theorem T7 {α β:Type}{g:α->Option β}{f:α->β}:∀{l:List α},(∀a∈l,g a=some (f a))->l.filterMap g=l.map f
 |[],_=>rfl
 |a::l,h=>by rw[bA,h a ag,aX,T7 λb hb=>h b (ad _ hb)]
theorem Pj (f:Li)(k:Nat)(hk:0<k):pB f none none (some (k:Int))=Pl.Ka k f:=by
 have k1:(k:Int) > 0:=by lia
 have eb:sliceBounds none none (some (k:Int)) f.length=(0,(f.length:Int),(k:Int)):=by show((if (k:Int) > 0 then(0:Int) else(f.length:Int)-1),(if (k:Int) > 0 then(f.length:Int) else -1),(k:Int))=_;rw[af k1,af k1]
 unfold pB;rw[eb];have ec:sliceRange 0 (f.length:Int) (k:Int)=(List.range ((f.length+k-1) / k)).map λ(j:Nat)=>((0:Int)+(k:Int)*(j:Int)).toNat:=by
  show(List.range (if (k:Int) > 0 then(if (0:Int)<(f.length:Int) then((f.length:Int)-0+(k:Int)-1) / (k:Int) else 0) else(if (0:Int) > (f.length:Int) then(0-(f.length:Int)-(k:Int)-1) / (-(k:Int)) else 0)).toNat).map _=_;rw[af k1];congr 1;congr 1;by_cases c:(0:Int)<(f.length:Int)
  ·rw[af c];have e2:(f.length:Int)-0+(k:Int)-1=((f.length+k-1:Nat):Int):=by lia
   rw[e2,<- Int.natCast_ediv,aA]
  ·rw[ae c];have z:f.length=0:=by lia
   rw[z,gm,Nat.div_eq_of_lt (by lia)];rfl
 rw[ec,List.filterMap_map];unfold Pl.Ka;refine T7 λj hj=>?_;rw[aW]at hj;have lt:k*j<f.length:=by have h1:(j+1)*k<=f.length+k-1:=aC (fM k hj) (Nat.div_mul_le_self _ _);rw[f9,cX]at h1;lia
 show f[((0:Int)+(k:Int)*(j:Int)).toNat]?=some (f.getD (k*j) 0);have e3:((0:Int)+(k:Int)*(j:Int)).toNat=k*j:=by rw[cY,<- eZ,aA]
 rw[e3,ac lt,jB lt]
open Pl in
def Jf (p:Int)(f:List Int):PV:=.lst (vo (o8 p (qP p (Tz p f)) 40))
open Pl in
theorem Vr (hp:jN p){L:List (Pl p×Nat)}(F:wu L){k:Nat}(h:(lf p (ls (Pr L id)) k).length<=1):(lf p (ls (Pr L id)) (k+1)).length<=1:=by have hinv:=λx hx=>lK hp (x:=x) hx;rw[vC hp hinv F]at h ⊢;refine dC λc=>?_;obtain⟨q,hq,hz⟩:=(oN hp.1 F.mo F.dg).mp c;have:=mt (oN hp.1 (g:=gk p k) F.mo F.dg).mpr (by lia);refine this ⟨q,hq,λz=>hz ?_⟩;show(if p ∣ (gk p k q.2:Int) then gk p k q.2 / p.toNat else 0)=0;rw[z,jb,ite_self]
open Pl in
theorem Ht (hp:jN p){L:List (Pl p×Nat)}(F:wu L){k:Nat}(h:(lf p (ls (Pr L id)) k).length<=1):∀n,(lf p (ls (Pr L id)) (k+n)).length<=1/\o8 p (ls (Pr L id)) (k+n)=o8 p (ls (Pr L id)) k
 |0=>⟨h,rfl⟩
 |n+1=>by obtain⟨h1,h2⟩:=Ht hp F h n;refine⟨Vr hp F h1,?_⟩;show o8 p (ls (Pr L id)) (k+n)++Uu p (ls (Pr L id)) (k+n)=_;rw[h2,Xh hp F h1,bu]
open Pl in
theorem Ra (hp:jN p){L:List (Pl p×Nat)}(F:wu L)(k:Nat):(lf p (ls (Pr L id)) k).length<=(ls (Pr L id)).length:=by
 have hinv:=λx hx=>lK hp (x:=x) hx;have p2:=hp.1;rw[vC hp hinv F];have e:=Ad (L:=L) (g:=id) (h:=gk p k) λq _=>by
  rw[Bm p2];split
  ·exact Nat.div_le_self _ _
  ·exact bh _
 have l:=Mo.len p2 (F.pr p2 λm=>id m-gk p k m) (F.pr p2 (gk p k));rw[<- e]at l;have:=(F.pr p2 λm=>id m-gk p k m).pos;lia
open Pl in
theorem M5 (p:Int)(f:Li)(N:Nat):(prs p f N).length<=N:=by unfold prs;have:=gN (λe=>if 1<(Hb p f e).length then some (PV.tup [.ints (Hb p f e),.int ((e:Int)+1)]) else none) (List.range N);rw[aq]at this;exact this
open Pl in
theorem LR (hp:jN p){L:List (Pl p×Nat)}(F:wu L)(hl:(ls (Pr L id)).length<=31):∀K,(o8 p (ls (Pr L id)) K).length<=K*31
 |0=>ai _
 |K+1=>by show(o8 p (ls (Pr L id)) K++Uu p (ls (Pr L id)) K).length<=_;have h1:=LR hp F hl K;have h2:=M5 p (lf p (ls (Pr L id)) K) (lf p (ls (Pr L id)) K).length;have h3:=Ra hp F K;rw[ah];unfold Uu;rw[aa];lia
open Pl in
theorem Io (hp:jN p){L:List (Pl p×Nat)}(F:wu L)(nz:∀q∈L,q.2≠0)(hl:(ls (Pr L id)).length<=31){K:Nat}(hK:(lf p (ls (Pr L id)) K).length<=1):Oj (o8 p (ls (Pr L id)) K)/\vo (o8 p (ls (Pr L id)) K)=Hn L:=by
 obtain⟨h1,h2⟩:=Zv hp F nz hl hK;have nd:=Kq hp F K;refine⟨⟨?_,λq hq=>?_,nd⟩,Jy h1 (h2.imp λh=>i9 h) nd⟩
 ·rw[<- h1.length_eq];unfold Hn;rw[aa];have:=cO (λc=>decide (1<(ls (Pr L (ind c))).length)) (List.range 31);rw[aq]at this;lia
 ·obtain⟨k,e,_,_,_,_,rfl⟩:=(zu hp F).mp hq;exact⟨_,rfl⟩
theorem Ua {p:Int}(p2:2<=p)(p3:p<=9973){k:Nat}(hk:k<=40):(p^k).natAbs<2^600:=by rw[Int.natAbs_pow];have h1:p.natAbs^k<=(2^14)^k:=iX (by lia) k;refine aO h1 ?_;rw[<- Nat.pow_mul];exact bc (by decide) (by lia)
open Pl in
theorem CW (T:Top K mg cNO cK cR):Ok P w K mg base 8 "free_parts" ["kind","f"] (yu K (pX cR) (λas=>∃p f,as=[.ob 0 p,.ints f]/\jN p/\f.length<=100/\(qP p (Tz p f)).length<=31/\Tz p f≠[]) λas=>match as with
  |[.ob 0 p,.ints f]=>Jf p f
  |_=>.non):=by
 refine aaN T.FZ kO T.G4 (λas ⟨a,b,h,_⟩=>by rw[h];rfl) (λf cdv A outer s H E hr hl=>⟨_,(ji (jC (i:=2) kO.nd rfl (Or.inl rfl) (jY (tW (sG T) hr (jh (xv 0) (jh (jY (tW (jW T) hr (jh (xv 0) (jh (xl 1) jk)))) jk)))))
 (ji (lJ (nM (zJ 2))
 (jm DY)
 kj)
 (ji (t7 (i:=3) kO.nd rfl (Or.inl rfl) (sO jk))
 (ji (jA (i:=4) kO.nd rfl (Or.inl rfl) jj)
 (ji (nF aE (xF (jU 2 T.jM) jj)
 (ji (mV (i:=5) kO.nd rfl (Or.inl rfl) (xc (yd T) hr (jh (xv 0) (jh (xl 2) jk))))
 (ji (Bb (k:=6) (j:=7) aE rfl (nW (ju (xv 5) jj (λ_ _=>rfl))) (pg_tup rfl (pgs_cons (pg_name (i:=6) kO.nd rfl (Or.inl rfl)) (pgs_cons (pg_name (i:=7) kO.nd rfl (Or.inl rfl)) pgs_nil)))
 (jm (uz 3 (qH (jh (xl 6) (jh (pC (xn 7) (xn 4)) jk))))))
 (ji (jC (i:=2) kO.nd rfl (Or.inl rfl) (jY (yl (xl_of (ju (xv 5) jj (λ_ _=>rfl))) pL pL (lU (GJ (ksz T) (xv 0))) (λ_ _=>.inl rfl))))
 (jm (zE (i:=4) kO.nd rfl (Or.inl rfl) (GJ (ksz T) (xv 0)) Q6))))))
 (lz 3 (jm (jx (tQ (Ry hl hr T.Am (xv 3))))))))))),λas hp=>?_⟩)
 obtain⟨p,f,rfl,hp,fl,nl,ne⟩:=hp;have p2:2<=p:=hp.1;have p3:p<=9973:=hp.2.1;have hinv:=λx hx=>lK hp (x:=x) hx;have tzl:=m8 p f;have G:=z9 hp (kW p f) (oA p f);have mN:Mo (mk p (qP p (Tz p f))):=by
  show jo (ls (mk p (qP p (Tz p f))))=1;rw[vp ⟨G.form,G.red⟩];rcases G.one with z|z
  ·exfalso;obtain⟨Q,hQ⟩:=G.d1;rw[z]at hQ;refine ne (oU (kW p f) oR λn=>tG (oA p f n) (by show pl p 0=0;exact lW p) ?_);have:=hQ n;rw[jG,lV,aQ]at this;exact this
  ·exact z
 have eN:ls (mk p (qP p (Tz p f)))=qP p (Tz p f):=vp ⟨G.form,G.red⟩;obtain⟨L,F,nz,eL⟩:=Y4 hp mN (by rw[eN];lia);rw[eL]at eN;have mo:=λh:Nat->Nat=>F.pr p2 h;have lfe:=vC hp hinv F;have goal:Jf p f=.lst (vo (o8 p (ls (Pr L id)) 40)):=by unfold Jf;rw[eN]
 rw[<- eN]at nl;have llen:=Ra hp F;have alen:=LR hp F nl;have sh:=λk=>Ih (k:=k) hp F;have stop:=λk=>Ht (k:=k) hp F;have pok:=λK=>Io (K:=K) hp F nz nl;have bits:=λk=>Ua (k:=k) p2 p3;have nx1:∀k,lf p (ls (Pr L id)) (k+1)=Ka p.toNat (EY p (lf p (ls (Pr L id)) k) (lf p (ls (Pr L id)) k).length).1:=λk=>rfl;have ax1:∀k,o8 p (ls (Pr L id)) (k+1)=o8 p (ls (Pr L id)) k++(prs p (lf p (ls (Pr L id)) k) (lf p (ls (Pr L id)) k).length).map (scP (p^k)):=λk=>rfl;have pres:∀k,∃(p':Int) (L':List (Pl p'×Nat)) (g':Nat->Nat),[PV.ob 0 p,.ints (lf p (ls (Pr L id)) k)]=[.ob 0 p',.ints (ls (Pr L' g'))]/\jN p'/\wu L'/\(ls (Pr L' g')).length<=100:=λk=>⟨p,L,gk p k,by rw[lfe],hp,F,by rw[<- lfe];have:=llen k;lia⟩;refine⟨⟨⟨rfl,⟨⟨rfl,rfl,tJ⟩,p,f,rfl,by lia⟩,tJ⟩,p,Tz p f,rfl,hp,by lia,kW p f,oA p f⟩,λx ex=>?_⟩;have ex:x=lf p (ls (Pr L id)) 0:=by have ex:x=qP p (Tz p f):=ex;rw[ex,<- eN];rfl
 refine⟨.inl rfl,λq=>?_,λ_=>?_⟩
 ·rw[ex]at q;exact absurd (mo id).ne q
 refine⟨tJ,λl0 el0=>⟨tJ,λc0 ec0=>?_⟩⟩;have el0:l0=o8 p (ls (Pr L id)) 0:=el0;have ec0:c0=p^0:=by rw[jc];exact ec0
 refine jJ (Z':=[.fr (.ob 0 p),.fr (.ints f),.fr (.ints x),.ow (.lst l0),.fr (.int c0),.un,.un,.un]) rfl ?_;generalize ls (Pr L id)=x0 at *
 refine⟨λZ=>∃(k:Nat) (v5 v6 v7:Sl),Z=[.fr (.ob 0 p),.fr (.ints f),.fr (.ints (lf p x0 k)),.ow (.lst (o8 p x0 k)),.fr (.int (p^k)),v5,v6,v7]/\k<=31,λZ=>(p^32-Dc Z 4).toNat,⟨0,.un,.un,.un,by rw[ex,el0,ec0],by lia⟩,?_⟩;rintro Z ⟨k,v5,v6,v7,rfl,hk⟩;have ll:=llen k;refine⟨⟨.inl rfl,tJ⟩,λq=>?_,λq=>?_⟩
 ·have q:((lf p x0 k).length:Int) > 1:=q;have hk1:k+1<=31:=by have:=sh k (by lia);lia
  refine⟨⟨⟨rfl,rfl,tJ⟩,pres k⟩,λfo efo=>?_⟩;have efo:fo=DP p (lf p x0 k):=efo;have pl2:=M5 p (lf p x0 k) (lf p x0 k).length;have pm:∀n∈prs p (lf p x0 k) (lf p x0 k).length,∃(G:List Int) (e:Nat),e<(lf p x0 k).length/\n=.tup [.ints G,.int ((e:Int)+1)]:=λn hn=>by
   unfold prs at hn;obtain⟨e,he,h⟩:=cr.mp hn;split at h
   ·cases h;exact⟨_,e,aW.mp he,rfl⟩
   ·cases h
  have nx:=nx1 k;have ax:=ax1 k;unfold DP at efo;generalize prs p (lf p x0 k) (lf p x0 k).length=pr at *
  generalize (EY p (lf p x0 k) (lf p x0 k).length).1=dp at *
  subst efo;refine jJ (Z':=[.fr (.ob 0 p),.fr (.ints f),.fr (.ints (lf p x0 k)),.ow (.lst (o8 p x0 k)),.fr (.int (p^k)),.fr (.tup [.lst pr,.ints dp]),v6,v7]) rfl ?_;have it0:lR (.tup [.lst pr,.ints dp]) 0:=⟨by show(-2:Int)<=0;decide,by show(0:Int)<2;decide⟩;have it1:lR (.tup [.lst pr,.ints dp]) 1:=⟨by show(-2:Int)<=1;decide,by show(1:Int)<2;decide⟩;have al:=alen k;refine⟨⟨⟨⟨rfl,tJ,it0⟩,rfl⟩,λn hn=>?_⟩,λi Z=>∃v6 v7,Z=[.fr (.ob 0 p),.fr (.ints f),.fr (.ints (lf p x0 k)),.ow (.lst (o8 p x0 k++(pr.take i).map (scP (p^k)))),.fr (.int (p^k)),.fr (.tup [.lst pr,.ints dp]),v6,v7],⟨v6,v7,by rw[iK,dP,bu]⟩,?_,?_⟩
  ·obtain⟨G,e,_,rfl⟩:=pm n hn;rfl
  ·rintro i n Z hn ⟨v6,v7,rfl⟩;have hn:pr[i]?=some n:=hn;have hi:i<pr.length:=(aj.mp hn).1;obtain⟨G,e,he,rfl⟩:=pm n (aV hn);refine⟨rfl,⟨rfl,⟨rfl,rfl,?_⟩,tJ⟩,?_,⟨.fr (.ints G),.fr (.int ((e:Int)+1)),?_⟩⟩
   ·exact qI (n:=600) (m:=600) (aD (show((e:Int)+1).natAbs<2^6 by show _<64;lia) (cF (by decide) (by decide))) (bits k (by lia))
   ·show(o8 p x0 k++(pr.take i).map (scP (p^k))).length<sizeLine;refine small1000 ?_;rw[ah,aa,aI];lia
   ·rw[nH hn,bF,<- cZ];rfl
  rintro Z ⟨v6,v7,rfl⟩;have e3:o8 p x0 k++(pr.take pr.length).map (scP (p^k))=o8 p x0 (k+1):=by rw[cH,ax]
  refine jJ (Z':=[.fr (.ob 0 p),.fr (.ints f),.fr (.ints (lf p x0 k)),.ow (.lst (o8 p x0 (k+1))),.fr (.int (p^k)),.fr (.tup [.lst pr,.ints dp]),v6,v7]) (by rw[<- e3];rfl) ?_;refine⟨⟨⟨⟨rfl,tJ,it1⟩,rfl⟩,tJ,tJ,⟨rfl,rfl⟩,?_⟩,λx1 ex1=>?_⟩
  ·show some p≠some 0;intro z;have:=aF z;lia
  have ex1:x1=lf p x0 (k+1):=by
   have ex1:x1=pB dp none none (some p):=ex1;have ep:p=((p.toNat:Nat):Int):=(bJ (by lia)).symm;rw[ex1,nx]
   conv=>lhs;rw[ep]
   exact Pj dp p.toNat (by lia)
  refine jJ (Z':=[.fr (.ob 0 p),.fr (.ints f),.fr (.ints x1),.ow (.lst (o8 p x0 (k+1))),.fr (.int (p^k)),.fr (.tup [.lst pr,.ints dp]),v6,v7]) rfl ?_;have pb:=bits 1 (by decide);rw[iV]at pb;refine⟨rfl,⟨rfl,rfl⟩,qI (n:=600) (m:=600) (bits k (by lia)) pb,λo eo=>?_⟩;have eo:o=p^(k+1):=by rw[iz];exact eo
  refine⟨⟨k+1,.fr (.tup [.lst pr,.ints dp]),v6,v7,by rw[eo,ex1];rfl,hk1⟩,?_⟩;show(p^32-o).toNat<(p^32-p^k).toNat;have pp:0<p^k:=Int.pow_pos (by lia);have h1:p^k*2<=o:=by rw[eo,iz];exact bB p2 (i9 pp)
  have h2:o<=p^32:=by rw[eo];have:((p.toNat^(k+1):Nat):Int)<=((p.toNat^32:Nat):Int):=Int.ofNat_le.mpr (cF (by lia) (by lia));rw[Et p2,Et p2]at this;exact this
  generalize p^32=B at *
  generalize p^k=C at *
  lia
 ·have q:¬((lf p x0 k).length:Int) > 1:=q;have h1:(lf p x0 k).length<=1:=by lia
  obtain⟨po,_⟩:=pok k h1;refine⟨⟨rfl,rfl,po⟩,?_⟩;show PV.lst (vo (o8 p x0 k))=Jf p f;rw[goal];have:=(stop k h1 (40-k)).2;rw[show k+(40-k)=40 by lia]at this;rw[this]
theorem mY (t:List (List Int)):(t.map PV.ints).map j8=t:=by rw[bx];have:j8 ∘ PV.ints=id:=rfl;rw[this,List.map_id]
theorem Hm {R:List (List Int)}{k:Nat}(h:k<R.length):(R.map PV.ints).getD k .non=.ints (R.getD k []):=by rw[gQ,gQ,ao,ac h];rfl
theorem TQ {t:List (List Int)}{i:Nat}(h:i<t.length):jV (jt t) (i:Int)=.ints (t.getD i []):=by
 show(t.map PV.ints).getD (jZ (t.map PV.ints).length (i:Int)) .non=_;have e:jZ (t.map PV.ints).length (i:Int)=i:=by unfold jZ;rw[af (by lia)];lia
 rw[e,Hm h]
theorem yq {t:List (List Int)}{i:Nat}(h:i<t.length):lR (jt t) (i:Int):=by show -((t.map PV.ints).length:Int)<=(i:Int)/\(i:Int)<((t.map PV.ints).length:Int);rw[aa];lia
theorem Bc {t:List (List Int)}{i:Nat}(h:i<t.length):j8 (jV (jt t) (i:Int))=t.getD i []:=by rw[TQ h];rfl
theorem xR {t:List (List Int)}{i:Nat}(h:i<t.length):jV (jt t) (i:Int)=.ints (j8 (jV (jt t) (i:Int))):=by rw[TQ h];rfl
theorem Nq {j:Nat}(h:j<r.length):lR (.ints r) (j:Int):=⟨by show -(r.length:Int)<=(j:Int);lia,by show(j:Int)<(r.length:Int);lia⟩
theorem Vf (h:j<n):jZ n (j:Int)=j:=by unfold jZ;rw[af (by lia)];lia
theorem YC (h:2<=q):pl q 1=1:=by rw[mD (by lia)];exact bI (by lia) (by lia)
theorem Zg (h:Bd r)(k:Nat):(r.getD k 0).natAbs<2^9000:=by
 by_cases c:k<r.length
 ·exact h _ (FM.getD_mem c)
 ·rw[jr (by lia)];exact dz (by decide)
def wd (m:Int)(r:List Int):List Int:=r++List.replicate (m-(r.length:Int)).toNat 0
theorem XX (m:Int)(r:Li)(n:Nat):(wd m r).getD n 0=r.getD n 0:=HF r _ n
theorem Ui (h:(r.length:Int)<=m):((wd m r).length:Int)=m:=by unfold wd;rw[ah,aN];lia
def jP (p:Int)(d f:List Int)(n:Nat):List (List Int):=(List.range n).map λk=>wd ((d.length:Int)-1) (rm p d (pw f k))
theorem Kf (p:Int)(d f:Li)(n:Nat):jP p d f (n+1)=jP p d f n++[wd ((d.length:Int)-1) (rm p d (pw f n))]:=by unfold jP;rw[iw,bF];rfl
theorem oH (p:Int)(d f:Li)(n:Nat):(jP p d f n).length=n:=by unfold jP;rw[aa,aq]
theorem Og (h:k<n):(jP p d f n).getD k []=wd ((d.length:Int)-1) (rm p d (pw f k)):=by unfold jP;rw[gQ,ao,b8 h];rfl
theorem vB (T:Top K mg cNO cK cR):Ok P w K mg base 6 "power_rows" ["kind","f","count","g"] (yu K (pX cR) (λas=>∃p f,∃n:Nat,∃g,as=[.ob 0 p,.ints f,.int (n:Int),.ints g]/\Hd p g/\f.length<=50/\Bd f/\(Tz p g).length<=100/\n<=100) λas=>match as with
  |[.ob 0 p,.ints f,.int n,.ints g]=>jt (jP p (Tz p g) f n.toNat)
  |_=>.non):=by
 refine w5 T.Eh mX (λas ⟨a,b,c,d,h,_⟩=>by rw[h];rfl) (λf cdv A outer s H E hr=>⟨_,(ji (jA (i:=4) mX.nd rfl (Or.inl rfl) (pI (lZ T.jM (jY (tW (jW T) hr (jh (xv 0) (jh (xl 3) jk))))) jj))
 (ji (jC (i:=5) mX.nd rfl (Or.inl rfl) (Yi (Ds T) hr (jh (xv 0) (jh (xl 1) (jh jj (jh (xl 3) jk))))))
 (ji (t7 (i:=6) mX.nd rfl (Or.inl rfl) (sO jk))
 (ji (pR (k:=7) aE rfl (by rfl) T.oV (xn 2) mX.nd rfl (Or.inl rfl)
 (ji (uz 6 (jY (yg (xl 5) (jY (vO (m7 (jh jj jk)) (pI (xn 4) (jU 5 T.jM)) (λ_=>rfl))))))
 (jm (jC (i:=5) mX.nd rfl (Or.inl rfl) (Yi (uE T) hr (jh (xv 0) (jh (xl 5) (jh (xl 1) (jh (xl 3) jk)))))))))
 (lz 6 (jm (jx (xv 6)))))))),λas hp=>?_⟩)
 obtain⟨p,f,n,g,rfl,ok,hl,hb,hd,hn⟩:=hp;have gl:=ok.len;refine⟨⟨⟨⟨⟨rfl,rfl,tJ⟩,p,g,rfl,by lia⟩,tJ⟩,tJ⟩,λdg edg=>?_⟩;subst edg;refine⟨⟨⟨rfl,rfl,tJ,rfl,tJ⟩,p,f,0,g,rfl,ok,by lia,hd⟩,λr0 er0=>?_⟩;refine⟨tJ,λl0 el0=>?_⟩;refine jJ (Z':=[.fr (.ob 0 p),.fr (.ints f),.fr (.int (n:Int)),.fr (.ints g),.fr (.int (((Tz p g).length:Int)-1)),.fr (.ints r0),.ow (.lst l0),.un]) rfl ?_;refine⟨rfl,⟨by show -(2:Int)^62<=(n:Int);lia,by show(n:Int)<2^62;lia⟩,λi Z=>∃v7,Z=[.fr (.ob 0 p),.fr (.ints f),.fr (.int (n:Int)),.fr (.ints g),.fr (.int (((Tz p g).length:Int)-1)),.fr (.ints (rm p (Tz p g) (pw f i))),.ow (jt (jP p (Tz p g) f i)),v7],⟨.un,by rw[er0,el0];rfl⟩,?_,?_⟩
 ·rintro i Z hi ⟨v7,rfl⟩;have hi:i<((n:Nat):Int).toNat:=hi;obtain⟨_,_,ir,er⟩:=mL ok (pw f i);have e1:rm p (Tz p g) (pw f (i+1))=rm p (Tz p g) (jq (rm p (Tz p g) (pw f i)) f):=SX ok (er.mul f);generalize hR:rm p (Tz p g) (pw f i)=R at *
  have rl:=ir.len;refine⟨rfl,⟨rfl,⟨⟨⟨tJ,tJ⟩,tJ⟩,⟨rfl,.inl rfl⟩,?_,?_⟩,?_⟩,?_,?_⟩
  ·show -(2:Int)^63<=((Tz p g).length:Int)-1-(R.length:Int);lia
  ·show(((Tz p g).length:Int)-1-(R.length:Int)).toNat<=1000;lia
  ·refine bK (small1000 ?_);show R.length+(List.replicate (((Tz p g).length:Int)-1-(R.length:Int)).toNat (0:Int)).length<=1000;rw[aN];lia
  ·show((jP p (Tz p g) f i).map PV.ints).length<sizeLine;rw[aa,oH];exact small1000 (by lia)
  refine jJ (Z':=[.fr (.ob 0 p),.fr (.ints f),.fr (.int (n:Int)),.fr (.ints g),.fr (.int (((Tz p g).length:Int)-1)),.fr (.ints R),.ow (jt (jP p (Tz p g) f (i+1))),.fr (.int (i:Int))]) ?_ ?_
  ·have e:jt (jP p (Tz p g) f (i+1))=.lst ((jP p (Tz p g) f i).map PV.ints++[.ints (wd (((Tz p g).length:Int)-1) R)]):=by rw[Kf,hR];unfold jt;rw[bF];rfl
   rw[e];rfl
  refine⟨⟨⟨rfl,rfl,rfl,rfl,tJ⟩,p,R,f,g,rfl,ok,by lia,ir.bd ok.pr,hb⟩,λr1 er1=>⟨.fr (.int (i:Int)),?_⟩⟩;have er1:r1=rm p (Tz p g) (jq R f):=er1;rw[e1,<- er1];rfl
 ·rintro Z ⟨v7,rfl⟩;exact⟨rfl,rfl⟩
theorem IK (T:Top K mg cNO cK cR):Ok P w K mg base 7 "powering" ["kind","g"] (yu K (pX cR) (λas=>∃p g,as=[.ob 0 p,.ints g]/\Hd p g/\(Tz p g).length<=40) λas=>match as with
  |[.ob 0 p,.ints g]=>jt (jP p (Tz p g) (rm p (Tz p g) (pw [0,1] p.toNat)) ((Tz p g).length-1))
  |_=>.non):=by
 refine w5 T.Ke yE (λas ⟨a,b,h,_⟩=>by rw[h];rfl) (λf cdv A outer s H E hr=>⟨_,(ji (jA (i:=2) yE.nd rfl (Or.inl rfl) (pI (lZ T.jM (jY (tW (jW T) hr (jh (xv 0) (jh (xl 1) jk))))) jj))
 (jm (jx (xc (vB T) hr (jh (xv 0) (jh (Yi (Ds T) hr (jh (xv 0) (jh (jY (m7 (jh jj (jh jj jk)))) (jh (GJ (ksz T) (xv 0)) (jh (xl 1) jk))))) (jh (xn 2) (jh (xl 1) jk)))))))),λas hp=>?_⟩)
 obtain⟨p,g,rfl,ok,hd⟩:=hp;have gl:=ok.len;have p2:2<=p:=ok.pr.1;have d1:=lP ok.ne;refine⟨⟨⟨⟨⟨rfl,rfl,tJ⟩,p,g,rfl,by lia⟩,tJ⟩,tJ⟩,λdg edg=>?_⟩;have edg:dg=((Tz p g).length:Int)-1:=edg;have edg:dg=(((Tz p g).length-1:Nat):Int):=by lia
 subst edg;obtain⟨_,_,ir,er⟩:=mL ok (pw [0,1] p.toNat);have rl:=ir.len;have ep:((p.toNat:Nat):Int)=p:=by lia
 refine⟨⟨⟨rfl,⟨⟨rfl,⟨⟨tJ,tJ,tJ⟩,tJ⟩,⟨rfl,rfl⟩,rfl,tJ⟩,p,[0,1],p.toNat,g,?_,ok,by decide,by lia⟩,rfl,rfl,tJ⟩,p,rm p (Tz p g) (pw [0,1] p.toNat),(Tz p g).length-1,g,rfl,ok,by lia,ir.bd ok.pr,by lia,by lia⟩,rfl⟩;show[PV.ob 0 p,.ints [0,1],.int p,.ints g]=[.ob 0 p,.ints [0,1],.int ((p.toNat:Nat):Int),.ints g];rw[ep]
theorem xG (f:Nat->Nat->Int)(m:Nat):∀n,sm n (λi=>sm m λj=>f i j)=sm m λj=>sm n λi=>f i j
 |0=>by exact(m5 λj _=>rfl).symm
 |n+1=>by show sm n (λi=>sm m λj=>f i j)+sm m (λj=>f n j)=_;rw[xG f m n,<- sZ];rfl
theorem zL (l:Int)(f:Nat->Int)(n:Nat):sm n (λi=>f i*l)=sm n f*l:=by rw[b7,<- n8];exact jw λi _=>b7 _ _
abbrev Mx:=Nat->Nat->Int
def mm (n:Nat)(A B:Mx):Mx:=λi j=>sm n λk=>A i k*B k j
theorem Up (m n:Nat)(A B C:Mx)(i j:Nat):mm n (mm m A B) C i j=mm m A (mm n B C) i j:=by
 show sm n (λk=>sm m (λl=>A i l*B l k)*C k j)=sm m λl=>A i l*sm n λk=>B l k*C k j;have h1:sm n (λk=>sm m (λl=>A i l*B l k)*C k j)=sm n λk=>sm m λl=>A i l*B l k*C k j:=jw λk _=>(zL _ _ _).symm;have h2:sm m (λl=>A i l*sm n λk=>B l k*C k j)=sm m λl=>sm n λk=>A i l*B l k*C k j:=jw λl _=>by rw[<- n8];exact jw λk _=>(bG _ _ _).symm
 rw[h1,h2];exact xG _ _ _
def pD (i j:Nat):Int:=if i=j then 1 else 0
theorem qU:∀{n:Nat},k<n->(∀i,i<n->i≠k->f i=0)->sm n f=f k
 |0,h,_=>by lia
 |n+1,h,z=>by
  show sm n f+f n=f k;by_cases c:k=n
  ·subst c;rw[m5 λi hi=>z i (by lia) (by lia),cY]
  ·rw[qU (by lia) λi hi hne=>z i (by lia) hne,z n (by lia) (λe=>c e.symm),bH]
theorem sV (A:Mx)(h:i<n)(j:Nat):mm n pD A i j=A i j:=by show sm n (λk=>pD i k*A k j)=A i j;rw[qU h λk _ hne=>by unfold pD;rw[ae (λe=>hne e.symm),bR]];unfold pD;rw[af rfl,b9]
theorem Lw (A:Mx)(i:Nat)(h:j<n):mm n A pD i j=A i j:=by show sm n (λk=>A i k*pD k j)=A i j;rw[qU h λk _ hne=>by unfold pD;rw[ae hne,aT]];unfold pD;rw[af rfl,bM]
def Al (p:Int)(n m:Nat)(A B:Mx):Prop:=∀i j,i<n->j<m->p ∣ A i j-B i j
theorem Al.refl (p:Int)(n m:Nat)(A:Mx):Al p n m A A:=λi j _ _=>by rw[cq];exact aU p
theorem Al.symm (h:Al p n m A B):Al p n m B A:=λi j hi hj=>by
 have e:B i j-A i j = -(A i j-B i j):=by lia
 rw[e];exact bq.mpr (h i j hi hj)
theorem Al.trans (h:Al p n m A B)(k:Al p n m B C):Al p n m A C:=λi j hi hj=>by
 have e:A i j-C i j=(A i j-B i j)+(B i j-C i j):=by lia
 rw[e];exact bD (h i j hi hj) (k i j hi hj)
theorem Al.mul (h:Al p n l A B)(k:Al p l m C D):Al p n m (mm l A C) (mm l B D):=λi j hi hj=>by
 show p ∣ sm l (λx=>A i x*C x j)-sm l λx=>B i x*D x j;rw[<- wj];refine nO λx hx=>?_;have e:A i x*C x j-B i x*D x j=(A i x-B i x)*C x j+B i x*(C x j-D x j):=by rw[fg,ck];lia
 rw[e];exact bD (aZ (h i x hi hx)) (aK (k x j hx hj))
theorem Al.of (h:∀i j,i<n->j<m->A i j=B i j):Al p n m A B:=λi j hi hj=>by rw[h i j hi hj,cq];exact aU p
theorem Al.su (p:Int)(n l x m:Nat)(A B C:Mx):Al p n m (mm x (mm l A B) C) (mm l A (mm x B C)):=.of λi j _ _=>Up l x A B C i j
structure uH (p:Int)(n:Nat)(A B:Mx):Prop where
 ab:Al p n n (mm n A B) pD
 ba:Al p n n (mm n B A) pD
theorem uH.unit (p:Int)(n:Nat):uH p n pD pD:=⟨.of λi j hi _=>sV pD hi j,.of λi j hi _=>sV pD hi j⟩
theorem uH.mul (h:uH p n A B)(k:uH p n C D):uH p n (mm n A C) (mm n D B):=by
 have key:∀{A B C D:Mx},Al p n n (mm n A B) pD->Al p n n (mm n C D) pD->Al p n n (mm n (mm n A C) (mm n D B)) pD:=λ{A B C D} h k=>by have s1:Al p n n (mm n C (mm n D B)) B:=(Al.su p n n n n C D B).symm.trans ((Al.mul k (.refl p n n B)).trans (.of λi j hi _=>sV B hi j));exact(Al.su p n n n n A C (mm n D B)).trans ((Al.mul (.refl p n n A) s1).trans h)
 exact⟨key h.ab k.ab,key k.ba h.ba⟩
theorem uH.left (h:uH p n A B)(k:Al p n n (mm n C A) pD):Al p n n (mm n A C) pD:=by
 have e1:Al p n n C B:=by have s1:Al p n n (mm n (mm n C A) B) B:=(Al.mul k (.refl p n n B)).trans (.of λi j hi _=>sV B hi j);have s2:Al p n n (mm n C (mm n A B)) C:=(Al.mul (.refl p n n C) h.ab).trans (.of λi j _ hj=>Lw C i hj);exact s2.symm.trans ((Al.su p n n n n C A B).symm.trans s1)
 exact(Al.mul (.refl p n n A) e1).trans h.ab
def Qo (d:Nat)(c:Nat->Int):Mx:=λi k=>(if i=d then 0 else pD i k)+if k=d then c i else 0
theorem TV (c:Nat->Int)(A:Mx)(hi:i<n)(hd:d<n)(j:Nat):mm n (Qo d c) A i j=(if i=d then 0 else A i j)+c i*A d j:=by
 show sm n (λk=>((if i=d then 0 else pD i k)+if k=d then c i else 0)*A k j)=_;have h:sm n (λk=>((if i=d then 0 else pD i k)+if k=d then c i else 0)*A k j)=sm n (λk=>(if i=d then 0 else pD i k)*A k j)+sm n (λk=>(if k=d then c i else 0)*A k j):=by rw[<- sZ];exact jw λk _=>eK _ _ _
 rw[h,qU (f:=λk=>(if k=d then c i else 0)*A k j) hd λk _ hne=>by show(if k=d then c i else 0)*A k j=0;rw[ae hne,bR],af rfl];congr 1;by_cases e:i=d
 ·rw[af e];exact m5 λk _=>by rw[af e,bR]
 ·rw[ae e];have k1:sm n (λk=>(if i=d then 0 else pD i k)*A k j)=mm n pD A i j:=jw λk _=>by rw[ae e]
  rw[k1,sV A hi j]
theorem Mm (hd:d<n)(h1:p ∣ c d*e d-1)(h2:∀i,i<n->i≠d->p ∣ e i+c i*e d):Al p n n (mm n (Qo d c) (Qo d e)) pD:=λi j hi hj=>by
 rw[TV c _ hi hd];have ed:Qo d e d j=if j=d then e d else 0:=by show(if d=d then 0 else pD d j)+(if j=d then e d else 0)=_;rw[af rfl,cY]
 rw[ed];by_cases x:i=d
 ·subst x;rw[af rfl,cY];by_cases y:j=i
  ·subst y;have u:pD j j=1:=af rfl;rw[af rfl,u];exact h1
  ·have u:pD i j=0:=ae λz=>y z.symm;rw[ae y,aT,u];exact aU p
 ·rw[ae x];have ei:Qo d e i j=pD i j+if j=d then e i else 0:=by show(if i=d then 0 else pD i j)+(if j=d then e i else 0)=_;rw[ae x]
  rw[ei];by_cases y:j=d
  ·rw[af y,af y];have z:=h2 i hi x;generalize c i*e d=w at *
   have q:pD i j+e i+w-pD i j=e i+w:=by lia
   rw[q];exact z
  ·rw[ae y,ae y,aT,bH,bH,cq];exact aU p
def XF (σ:Nat->Nat):Mx:=λi j=>pD (σ i) j
theorem Ue (A:Mx)(h:σ i<n)(j:Nat):mm n (XF σ) A i j=A (σ i) j:=sV A h j
theorem Om (hs:∀i,i<n->σ i<n)(h:∀i,i<n->τ (σ i)=i):Al p n n (mm n (XF σ) (XF τ)) pD:=.of λi j hi _=>by rw[Ue _ (hs i hi)];show pD (τ (σ i)) j=pD i j;rw[h i hi]
abbrev Tab:=List (List Int)
def qp (t:Tab)(found done:Nat):Tab:=t.take done++[t.getD found []]++(t.drop done).take (found-done)++t.drop (found+1)
def zG (found done i:Nat):Nat:=if i<done then i else if i=done then found else if i<=found then i-1 else i
def tau (found done i:Nat):Nat:=if i<done then i else if i=found then done else if i<found then i+1 else i
theorem Wx (h:done<=found)(i:Nat):tau found done (zG found done i)=i:=by
 unfold zG tau
 repeat' split
 all_goals lia
theorem Vn (h:done<=found)(i:Nat):zG found done (tau found done i)=i:=by
 unfold zG tau
 repeat' split
 all_goals lia
theorem GK (h:done<=found)(hf:found<n)(hi:i<n):zG found done i<n:=by
 unfold zG
 repeat' split
 all_goals lia
theorem YZ (h:done<=found)(hf:found<n)(hi:i<n):tau found done i<n:=by
 unfold tau
 repeat' split
 all_goals lia
theorem JH (h:done<=found)(hf:found<t.length):(qp t found done).length=t.length:=by unfold qp;simp only[ah,aI,aY,aG,cD];lia
theorem zq (h:done<=found)(hf:found<t.length)(hi:i<t.length):(qp t found done).getD i []=t.getD (zG found done i) []:=by
 unfold qp zG;simp only[gQ];by_cases c1:i<done
 ·rw[af c1,aP (by simp only[ah,aI,aY,aG,cD];lia),aP (by simp only[ah,aI,aG,cD];lia),aP (by simp only[aI];lia),dq c1]
 ·rw[ae c1];by_cases c2:i=done
  ·rw[af c2,aP (by simp only[ah,aI,aY,aG,cD];lia),aP (by simp only[ah,aI,aG,cD];lia),bi (by simp only[aI];lia)];have e:i-(List.take done t).length=0:=by simp only[aI];lia
   rw[e];simp
  ·rw[ae c2];by_cases c3:i<=found
   ·rw[af c3,aP (by simp only[ah,aI,aY,aG,cD];lia),bi (by simp only[ah,aI,aG,cD];lia)];have e:i-(List.take done t++[t[found]?.getD []]).length=i-done-1:=by simp only[ah,aI,aG,cD];lia
    rw[e,dq (by lia),dI];have e2:done+(i-done-1)=i-1:=by lia
    rw[e2]
   ·rw[ae c3,bi (by simp only[ah,aI,aY,aG,cD];lia)];have e:i-(List.take done t++[t[found]?.getD []]++List.take (found-done) (List.drop done t)).length=i-found-1:=by simp only[ah,aI,aY,aG,cD];lia
    rw[e,dI];have e2:found+1+(i-found-1)=i:=by lia
    rw[e2]
def ent (t:Tab):Mx:=λi j=>(t.getD i []).getD j 0
theorem V7 (h:done<=found)(hf:found<t.length):Al p t.length m (ent (qp t found done)) (mm t.length (XF (zG found done)) (ent t)):=.of λi j hi _=>by rw[Ue _ (GK h hf hi)];unfold ent;rw[zq h hf hi]
def yV (p fac:Int)(row:List Int):List Int:=(row.map λn=>fac*n).map (pl p)
def Aq (p:Int)(row first:List Int)(at':Nat):List Int:=List.zipWith (λn o=>pl p (n-row.getD at' 0*o)) row first
def vg (p fac:Int)(t:Tab)(at' done:Nat):Tab:=t.mapIdx λplace row=>if place=done then yV p fac (t.getD done []) else Aq p row (yV p fac (t.getD done [])) at'
theorem QG (p fac:Int)(t:Tab)(at' done:Nat):(vg p fac t at' done).length=t.length:=by unfold vg;rw[di]
theorem wL (p fac:Int)(row:Li)(j:Nat):(yV p fac row).getD j 0=pl p (fac*row.getD j 0):=by unfold yV;rw[ni _ (lW p),ni _ (aT fac)]
theorem Hs (h1:j<row.length)(h2:j<first.length):(Aq p row first at').getD j 0=pl p (row.getD j 0-row.getD at' 0*first.getD j 0):=by unfold Aq;rw[jB (by rw[eO];lia),iG,jB h1,jB h2]
theorem Ey (hi:i<t.length):(vg p fac t at' done).getD i []=if i=done then yV p fac (t.getD done []) else Aq p (t.getD i []) (yV p fac (t.getD done [])) at':=by unfold vg;simp only[gQ,cG,ac hi,dM,eI]
def Cy (fac:Int)(t:Tab)(at' done:Nat):Nat->Int:=λi=>if i=done then fac else -(ent t i at' * fac)
theorem VB (hd:done<t.length)(hm:∀i,i<t.length->(t.getD i []).length=m):Al p t.length m (ent (vg p fac t at' done)) (mm t.length (Qo done (Cy fac t at' done)) (ent t)):=λi j hi hj=>by
 rw[TV _ _ hi hd];show p ∣ ((vg p fac t at' done).getD i []).getD j 0-_;rw[Ey hi];have f0:=nR p (fac*(t.getD done []).getD j 0);by_cases c:i=done
 ·rw[af c,af c,wL,cY];unfold Cy;rw[af c];exact f0
 ·rw[ae c,ae c];have l1:=hm i hi;have l2:(yV p fac (t.getD done [])).length=m:=by unfold yV;rw[aa,aa];exact hm done hd
  rw[Hs (by lia) (by lia),wL];unfold Cy;rw[ae c];show p ∣ _-((t.getD i []).getD j 0 + -((t.getD i []).getD at' 0*fac)*(t.getD done []).getD j 0);have f1:=nR p ((t.getD i []).getD j 0-(t.getD i []).getD at' 0*pl p (fac*(t.getD done []).getD j 0));generalize pl p ((t.getD i []).getD j 0-(t.getD i []).getD at' 0*pl p (fac*(t.getD done []).getD j 0))=u at *
  generalize pl p (fac*(t.getD done []).getD j 0)=v at *
  generalize (t.getD i []).getD j 0=x at *
  generalize (t.getD i []).getD at' 0=y at *
  generalize (t.getD done []).getD j 0=z at *
  have e:u-(x + -(y*fac)*z)=(u-(x-y*v)) + -(y*(v-fac*z)):=by rw[iU,bG,ck];lia
  rw[e];exact bD f1 (bq.mpr (aK f0))
theorem VF (hd:done<t.length)(hf:p ∣ fac*ent t done at'-1):uH p t.length (Qo done (Cy fac t at' done)) (Qo done λi=>ent t i at'):=by
 have c0:Cy fac t at' done done=fac:=af rfl;refine⟨Mm hd (by rw[c0];exact hf) λi _ hne=>?_,Mm hd (by rw[c0,b7];exact hf) λi _ hne=>?_⟩
 ·have ci:Cy fac t at' done i = -(ent t i at' * fac):=ae hne;rw[ci];generalize ent t i at'=y;generalize ent t done at'=z at *
  have e:y + -(y*fac)*z = -(y*(fac*z-1)):=by rw[iU,bG,ck,bM];lia
  rw[e];exact bq.mpr (aK hf)
 ·have ci:Cy fac t at' done i = -(ent t i at' * fac):=ae hne;rw[ci,c0];have e:-(ent t i at' * fac)+ent t i at' * fac=0:=by lia
  rw[e];exact aU p
def Kl (t:Tab)(at' d:Nat):Option Nat:=((List.range (t.length-d)).map λk=>d+k).find? λi=>decide (ent t i at'≠0)
theorem wA (h:Kl t at' d=some f):d<=f/\f<t.length/\ent t f at'≠0:=by unfold Kl at h;have h1:=ie h;have h2:=eE h;obtain⟨k,hk,e⟩:=aR.mp h2;have hk:=aW.mp hk;exact⟨by lia,by lia,bO h1⟩
theorem Jt (h:Kl t at' d=none)(h1:d<=i)(h2:i<t.length):ent t i at'=0:=by unfold Kl at h;have:=List.find?_eq_none.mp h i (aR.mpr ⟨i-d,aW.mpr (by lia),by lia⟩);simpa using this
def XJ (p:Int)(iv:Int->Int)(t:Tab)(at' done:Nat):Tab:=vg p (iv (ent t done at')) t at' done
def UJ (p:Int)(iv:Int->Int)(at':Nat)(s:Tab×Nat):Tab×Nat:=match Kl s.1 at' s.2 with
 |none=>s
 |some f=>(XJ p iv (qp s.1 f s.2) at' s.2,s.2+1)
def Mw (p:Int)(iv:Int->Int)(t0:Tab):Nat->Tab×Nat
 |0=>(t0,0)
 |k+1=>UJ p iv k (Mw p iv t0 k)
structure EI (p:Int)(n m:Nat)(t0:Tab)(k:Nat)(t:Tab)(d:Nat):Prop where
 len:t.length=n
 row:∀i,i<n->(t.getD i []).length=m
 red:∀i j,pl p (ent t i j)=ent t i j
 mul:∃A B,uH p n A B/\Al p n m (ent t) (mm n A (ent t0))
 dn:d<=n
 piv:∃v:Nat->Nat,(∀i,i<d->v i<k)/\(∀i j,i<j->j<d->v i<v j)/\(∀i,i<d->ent t i (v i)=1)/\(∀i r,i<d->r<n->r≠i->ent t r (v i)=0)/\∀i c,i<d->c<v i->ent t i c=0
 low:∀i c,d<=i->i<n->c<k->ent t i c=0
theorem Ma (h:done<=found)(hf:found<t.length)(hi:i<t.length):ent (qp t found done) i j=ent t (zG found done i) j:=by unfold ent;rw[zq h hf hi]
theorem Vt (hi:i<t.length)(hd:done<t.length)(hm:∀i,i<t.length->(t.getD i []).length=m)(hj:j<m):ent (vg p fac t at' done) i j=if i=done then pl p (fac*ent t done j) else pl p (ent t i j-ent t i at' * pl p (fac*ent t done j)):=by
 unfold ent;rw[Ey hi];split
 ·exact wL _ _ _ _
 ·rw[Hs (by rw[hm i hi];exact hj) (by unfold yV;rw[aa,aa,hm done hd];exact hj),wL]
theorem Lx (hm:∀i,i<t.length->(t.getD i []).length=m)(hj:m<=j):ent t i j=0:=by
 unfold ent;by_cases c:i<t.length
 ·exact jr (by rw[hm i c];exact hj)
 ·rw[dZ (l:=t),bw (by lia)];rfl
theorem oO (h:t.length<=i):ent t i j=0:=by unfold ent;rw[dZ (l:=t),bw h];rfl
theorem Od (hd:done<t.length)(hm:∀i,i<t.length->(t.getD i []).length=m)(hi:i<t.length):((vg p fac t at' done).getD i []).length=m:=by
 rw[Ey hi];have l2:(yV p fac (t.getD done [])).length=m:=by unfold yV;rw[aa,aa];exact hm done hd
 split
 ·exact l2
 ·unfold Aq;rw[eO,l2,hm i hi,jd]
theorem EI.step (hp:2<=p)(hiv:∀x,0<x->x<p->p ∣ iv x*x-1)(hk:k<m)(I:EI p n m t0 k t d):EI p n m t0 (k+1) (UJ p iv k (t,d)).1 (UJ p iv k (t,d)).2:=by
 obtain⟨v,v1,v2,v3,v4,v5⟩:=I.piv;unfold UJ;cases hf:Kl t k d with
 |none=>
  refine⟨I.len,I.row,I.red,I.mul,I.dn,⟨v,λi hi=>Nat.lt_succ_of_lt (v1 i hi),v2,v3,v4,v5⟩,λi c h1 h2 h3=>?_⟩;by_cases c':c=k
  ·rw[c'];exact Jt hf h1 (by rw[I.len];exact h2)
  ·exact I.low i c h1 h2 (by lia)
 |some f=>
  show EI p n m t0 (k+1) (XJ p iv (qp t f d) k d) (d+1);obtain⟨f1,f2,f3⟩:=wA hf;have tl:=I.len;have ml:(qp t f d).length=n:=by rw[JH f1 f2,tl]
  have mr:∀i,i<(qp t f d).length->((qp t f d).getD i []).length=m:=λi hi=>by rw[ml]at hi;rw[zq f1 f2 (by lia)];exact I.row _ (by have:=GK (i:=i) f1 f2 (by lia);lia)
  have me:∀i j,i<n->ent (qp t f d) i j=ent t (zG f d i) j:=λi j hi=>Ma f1 f2 (by lia);have sd:zG f d d=f:=by unfold zG;rw[ae (by lia),af rfl]
  have slo:∀i,i<d->zG f d i=i:=λi hi=>af hi;have shi:∀i,d<=i->d<=zG f d i:=λi hi=>by
   unfold zG;rw[ae (by lia)]
   repeat' split
   all_goals lia
  have sn:∀i,i<n->zG f d i<n:=λi hi=>by rw[<- tl];exact GK f1 f2 (by lia)
  have dn:d<n:=by lia
  have xr:=I.red f k;have x0:0<ent t f k/\ent t f k<p:=by have:=BX (z:=p) (n:=ent t f k) (by lia);rw[xr]at this;lia
  have hx:=hiv _ x0.1 x0.2;unfold XJ;rw[me d k dn,sd];generalize hfac:iv (ent t f k)=fac at hx;generalize hM:qp t f d=M at *
  have el:(vg p fac M k d).length=n:=by rw[QG,ml]
  have ee:∀i j,i<n->j<m->ent (vg p fac M k d) i j=if i=d then pl p (fac*ent M d j) else pl p (ent M i j-ent M i k*pl p (fac*ent M d j)):=λi j hi hj=>Vt (by lia) (by lia) mr hj;have lowM:∀c,c<k->ent M d c=0:=λc hc=>by rw[me d c dn,sd];exact I.low f c f1 (by lia) hc
  have e1:∀i c,i<n->c<k->ent (vg p fac M k d) i c=if i=d then 0 else ent t (zG f d i) c:=λi c hi hc=>by rw[ee i c hi (by lia),lowM c hc,aT,lW,aT,aQ,me i c hi,I.red]
  have e2:∀i,i<n->ent (vg p fac M k d) i k=if i=d then 1 else 0:=λi hi=>by
   have one:pl p (fac*ent M d k)=1:=by
    rw[me d k dn,sd];have h1:pl p 1=1:=by rw[mD (by lia)];exact bI (by lia) (by lia)
    rw[<- h1];exact(qG p _ _).mpr hx
   rw[ee i k hi hk,one,bM,cq,lW]
  refine⟨el,λi hi=>Od (by lia) mr (by lia),λi j=>?_,?_,by lia,⟨λi=>if i<d then v i else k,λi hi=>?_,λi j h1 h2=>?_,λi hi=>?_,λi r h1 h2 h3=>?_,λi c h1 h2=>?_⟩,λi c h1 h2 h3=>?_⟩
  ·by_cases c1:i<n
   ·by_cases c2:j<m
    ·rw[ee i j c1 c2];split<;>exact uf _ _
    ·rw[Lx (m:=m) (λi hi=>Od (by lia) mr (by rw[el]at hi;lia)) (by lia),lW]
   ·rw[oO (by lia),lW]
  ·obtain⟨A,B,hi,ha⟩:=I.mul;have i1:uH p n (XF (zG f d)) (XF (tau f d)):=⟨Om sn λi _=>Wx f1 i,Om (λi h=>by rw[<- tl];exact YZ f1 f2 (by lia)) λi _=>Vn f1 i⟩;have hxM:p ∣ fac*ent M d k-1:=by rw[me d k dn,sd];exact hx
   have i2:uH p M.length (Qo d (Cy fac M k d)) (Qo d λi=>ent M i k):=VF (by lia) hxM;rw[ml]at i2;have a1:Al p n m (ent M) (mm n (XF (zG f d)) (ent t)):=by rw[<- hM,<- tl];exact V7 f1 f2
   have a2:Al p n m (ent (vg p fac M k d)) (mm n (Qo d (Cy fac M k d)) (ent M)):=by have:=VB (p:=p) (fac:=fac) (t:=M) (at':=k) (done:=d) (m:=m) (by lia) mr;rw[ml]at this;exact this
   refine⟨mm n (Qo d (Cy fac M k d)) (mm n (XF (zG f d)) A),_,i2.mul (i1.mul hi),a2.trans ?_⟩;refine((Al.refl p n n _).mul (a1.trans (((Al.refl p n n _).mul ha).trans (Al.su p n n n m _ _ _).symm))).trans (Al.su p n n n m _ _ _).symm
  ·show(if i<d then v i else k)<k+1;split
   ·rename_i q;have:=v1 i q;lia
   ·lia
  ·show(if i<d then v i else k)<(if j<d then v j else k);rw[af (by lia)];split
   ·rename_i q;exact v2 i j h1 q
   ·exact v1 i (by lia)
  ·show ent _ i (if i<d then v i else k)=1;split
   ·rename_i q;rw[e1 i _ (by lia) (v1 i q),ae (by lia),slo i q];exact v3 i q
   ·rw[e2 i (by lia),af (by lia)]
  ·show ent _ r (if i<d then v i else k)=0;split
   ·rename_i q;rw[e1 r _ h2 (v1 i q)];split
    ·rfl
    ·refine v4 i _ q (sn r h2) λz=>?_;by_cases c:r<d
     ·rw[slo r c]at z;exact h3 z
     ·have:=shi r (by lia);lia
   ·rw[e2 r h2,ae (by lia)]
  ·have h2:c<(if i<d then v i else k):=h2;by_cases q:i<d
   ·rw[af q]at h2;rw[e1 i c (by lia) (by have:=v1 i q;lia),ae (by lia),slo i q];exact v5 i c q h2
   ·rw[ae q]at h2;rw[e1 i c (by lia) h2,af (by lia)]
  ·by_cases q:c=k
   ·rw[q,e2 i h2,ae (by lia)]
   ·rw[e1 i c h2 (by lia),ae (by lia)];exact I.low _ c (shi i (by lia)) (sn i h2) (by lia)
theorem EI.start (h1:t0.length=n)(h2:∀i,i<n->(t0.getD i []).length=m)(h3:∀i j,pl p (ent t0 i j)=ent t0 i j):EI p n m t0 0 t0 0:=
 ⟨h1,h2,h3,⟨pD,pD,.unit p n,(Al.of λi j hi _=>sV (ent t0) hi j).symm⟩,bh n,⟨λ_=>0,λ_ h=>absurd h (da _),λ_ _ _ h=>absurd h (da _),λ_ h=>absurd h (da _),λ_ _ h=>absurd h (da _),λ_ _ h=>absurd h (da _)⟩,λ_ _ _ _ h=>absurd h (da _)⟩
theorem EI.all (hp:2<=p)(hiv:∀x,0<x->x<p->p ∣ iv x*x-1)(h1:t0.length=n)(h2:∀i,i<n->(t0.getD i []).length=m)(h3:∀i j,pl p (ent t0 i j)=ent t0 i j):∀k,k<=m->EI p n m t0 k (Mw p iv t0 k).1 (Mw p iv t0 k).2
 |0,_=>EI.start h1 h2 h3
 |k+1,h=>EI.step hp hiv (by lia) (EI.all hp hiv h1 h2 h3 k (by lia))
def Qq (n i:Nat):List Int:=(List.replicate n (0:Int)).set i 1
theorem Eg (n i:Nat):(Qq n i).length=n:=by unfold Qq;rw[bQ,aN]
theorem Xe (h:j<n):(Qq n i).getD j 0=pD i j:=by
 unfold Qq pD;rw[jB (by rw[bQ,aN];exact h),List.getElem_set];split
 ·rfl
 ·exact cI ..
def J3 (n:Nat):Tab:=(List.range n).map λi=>Qq n i
theorem zz (n:Nat):(J3 n).length=n:=by unfold J3;rw[aa,aq]
theorem Yg (h:i<n):(J3 n).getD i []=Qq n i:=by unfold J3;rw[gQ,ao,b8 h];rfl
def oJ (p:Int)(rows:Tab):Tab:=List.zipWith (λrow unit=>(row++unit).map (pl p)) rows (J3 rows.length)
theorem Bh (p:Int)(rows:Tab):(oJ p rows).length=rows.length:=by unfold oJ;rw[eO,zz,jd]
theorem zP (h:i<rows.length):(oJ p rows).getD i []=(rows.getD i []++Qq rows.length i).map (pl p):=by unfold oJ;have u:=Yg h;rw[gQ,ac (by rw[zz];exact h)]at u;have u:(J3 rows.length)[i]'(by rw[zz];exact h)=Qq rows.length i:=u;rw[gQ,ac (by rw[eO,zz,jd];exact h),eI,iG,u,gQ,ac h,eI]
theorem VL {a b:Li}{j:Nat}:(a++b).getD j 0=if j<a.length then a.getD j 0 else b.getD (j-a.length) 0:=by
 rw[gQ];split
 ·rename_i h;rw[aP h,gQ]
 ·rename_i h;rw[bi (by lia),gQ]
theorem Ik {p:Int}{rows:Tab}{w i j:Nat}(hi:i<rows.length)(hw:∀i,i<rows.length->(rows.getD i []).length=w):ent (oJ p rows) i j=pl p (if j<w then ent rows i j else(Qq rows.length i).getD (j-w) 0):=by show((oJ p rows).getD i []).getD j 0=_;rw[zP hi,ni _ (lW p),VL,hw i hi];rfl
theorem JF:pl p (ent (oJ p rows) i j)=ent (oJ p rows) i j:=by
 by_cases h:i<rows.length
 ·unfold ent;rw[zP h,ni _ (lW p),uf]
 ·rw[oO (by rw[Bh];lia),lW]
def nG (p:Int)(iv:Int->Int)(rows:Tab)(w:Nat):Tab:=(Mw p iv (oJ p rows) w).1
structure Zq (p:Int)(n w:Nat)(rows t:Tab)(d:Nat):Prop where
 len:t.length=n
 row:∀i,i<n->(t.getD i []).length=w+n
 red:∀i j,pl p (ent t i j)=ent t i j
 inv:∃B,uH p n (λi j=>ent t i (w+j)) B
 mul:Al p n w (ent t) (mm n (λi j=>ent t i (w+j)) (ent rows))
 dn:d<=n
 piv:∃v:Nat->Nat,(∀i,i<d->v i<w)/\(∀i j,i<j->j<d->v i<v j)/\(∀i,i<d->ent t i (v i)=1)/\(∀i r,i<d->r<n->r≠i->ent t r (v i)=0)/\∀i c,i<d->c<v i->ent t i c=0
 low:∀i c,d<=i->i<n->c<w->ent t i c=0
theorem uH.congr (h:uH p n A B)(e:Al p n n A A'):uH p n A' B:=
 ⟨(e.symm.mul (.refl p n n B)).trans h.ab,((Al.refl p n n B).mul e.symm).trans h.ba⟩
theorem Cj {iv:Int->Int}{rows:Tab}{n w:Nat}(hp:2<=p)(hiv:∀x,0<x->x<p->p ∣ iv x*x-1)(hn:rows.length=n)(hw:∀i,i<n->(rows.getD i []).length=w):Zq p n w rows (nG p iv rows w) (Mw p iv (oJ p rows) w).2:=by
 subst hn;have I:=EI.all (m:=w+rows.length) hp hiv (Bh p rows) (λi hi=>by rw[zP hi,aa,ah,hw i hi,Eg]) (λi j=>JF) w (by lia);unfold nG;generalize (Mw p iv (oJ p rows) w).1=t at *
 generalize (Mw p iv (oJ p rows) w).2=d at *
 obtain⟨A,B,hi,ha⟩:=I.mul;have k1:Al p rows.length rows.length A (λi j=>ent t i (w+j)):=λi j hi hj=>by
  have h:=(ha i (w+j) hi (by lia));have e:Al p rows.length rows.length (mm rows.length A (λk l=>ent (oJ p rows) k (w+l))) A:=((Al.refl p _ _ A).mul λk l hk hl=>by
   rw[Ik hk hw,ae (by lia),show w+l-w=l by lia,Xe hl];exact nR _ _).trans (.of λi j _ hj=>Lw A i hj)
  have h2:=e i j hi hj;have h3:mm rows.length A (ent (oJ p rows)) i (w+j)=mm rows.length A (λk l=>ent (oJ p rows) k (w+l)) i j:=rfl;rw[h3]at h;generalize mm rows.length A (λk l=>ent (oJ p rows) k (w+l)) i j=y at *
  have e2:A i j-ent t i (w+j) = -((ent t i (w+j)-y)+(y-A i j)):=by lia
  rw[e2];exact bq.mpr (bD h h2)
 refine⟨I.len,I.row,I.red,⟨B,hi.congr k1⟩,?_,I.dn,I.piv,I.low⟩;have k2:Al p rows.length w (ent (oJ p rows)) (ent rows):=λi j hi hj=>by rw[Ik hi hw,af hj];exact nR _ _
 have k3:Al p rows.length w (ent t) (mm rows.length A (ent (oJ p rows))):=λi j hi hj=>ha i j hi (by lia);exact k3.trans (k1.mul k2)
theorem W6 {n:Nat}{v:Nat->Nat}(h1:∀i,i<n->v i<n)(h2:∀i j,i<j->j<n->v i<v j):∀i,i<n->v i=i:=by
 have lo:∀i,i<n->i<=v i:=λi=>by
  induction i with
  |zero=>intro _;exact bh _
  |succ i ih=>intro hi;have:=ih (by lia);have:=h2 i (i+1) (by lia) hi;lia
 have hi:∀k i,i+k+1=n->v i<=i:=λk=>by
  induction k with
  |zero=>intro i h;have:=h1 i (by lia);lia
  |succ k ih=>intro i h;have:=ih (i+1) (by lia);have:=h2 i (i+1) (by lia) (by lia);lia
 intro i h;have:=lo i h;have:=hi (n-1-i) i (by lia);lia
theorem Zq.unit {n:Nat}{rows t:Tab}{d:Nat}(hp:2<=p)(c:Zq p n n rows t d)(h:∃B,uH p n (ent rows) B):Al p n n (mm n (λi j=>ent t i (n+j)) (ent rows)) pD:=by
 obtain⟨B,hB⟩:=h;obtain⟨C,hC⟩:=c.inv;obtain⟨v,v1,v2,v3,v4,v5⟩:=c.piv;have iL:=(hC.mul hB).congr c.mul.symm;have dn:d=n:=by
  by_cases e:d=n
  ·exact e
  ·exfalso;have dn:=c.dn;have z:=iL.ab d d (by lia) (by lia);have s:mm n (ent t) (mm n B C) d d=0:=m5 λk hk=>by rw[c.low d k (ai _) (by lia) hk,bR]
   have u:pD d d=1:=af rfl;rw[s,u]at z;have:=dB (by decide) (bq.mpr z);lia
 subst dn;have vi:=W6 v1 v2;refine c.mul.symm.trans (.of λi j hi hj=>?_);have e3:=v3 j hj;rw[vi j hj]at e3;unfold pD;split
 ·rename_i q;rw[q];exact e3
 ·rename_i q;have:=v4 j i hj hi q;rw[vi j hj]at this;exact this
theorem Ou (f:Nat->Int):∀n,((List.range n).map f).sum=sm n f
 |0=>rfl
 |n+1=>by rw[iw,bF,List.sum_append,Ou f n];show sm n f+(f n+0)=sm n f+f n;rw[bH]
def uq (p:Int)(a b:Tab)(w:Nat):Tab:=a.map λrow=>(List.range w).map λj=>((List.range row.length).map λk=>row.getD k 0*ent b k j).sum % p
theorem rD {t:Tab}{i:Nat}(h:i<t.length):t.getD i []=t[i]:=by rw[gQ,ac h];rfl
theorem vX {t:Tab}(f:List Int->List Int){i:Nat}(h:i<t.length):(t.map f).getD i []=f (t.getD i []):=by rw[rD (by rw[aa];exact h),br,rD h]
theorem Lf (f:Nat->Int){w j:Nat}(h:j<w):((List.range w).map f).getD j 0=f j:=by rw[jB (by rw[aa,aq];exact h),br,bn]
theorem Ju {a b:Tab}{w l i j:Nat}(hi:i<a.length)(hl:(a.getD i []).length=l)(hj:j<w):ent (uq p a b w) i j=mm l (ent a) (ent b) i j % p:=by show((uq p a b w).getD i []).getD j 0=_;unfold uq;rw[vX _ hi,Lf _ hj,Ou,hl];rfl
theorem U7 {s t:Tab}{m:Nat}(h1:s.length=t.length)(h2:∀i,i<t.length->(s.getD i []).length=m/\(t.getD i []).length=m)(h3:∀i j,i<t.length->j<m->ent s i j=ent t i j):s=t:=by refine cj h1 λi hi hi'=>?_;have e1:=rD hi;have e2:=rD hi';obtain⟨l1,l2⟩:=h2 i hi';refine cj (by rw[<- e1,<- e2,l1,l2]) λj hj hj'=>?_;have:=h3 i j hi' (by rw[<- l2,e2];exact hj');unfold ent at this;rw[e1,e2,jB hj,jB hj']at this;exact this
theorem Ei {a b t:Tab}{n l w:Nat}(hp:0<p)(ha:a.length=n)(hl:∀i,i<n->(a.getD i []).length=l)(ht:t.length=n)(hw:∀i,i<n->(t.getD i []).length=w)(hr:∀i j,pl p (ent t i j)=ent t i j)(h:Al p n w (ent t) (mm l (ent a) (ent b))):uq p a b w=t:=by
 have hlen:(uq p a b w).length=t.length:=by unfold uq;rw[aa,ha,ht]
 refine U7 (m:=w) hlen (λi hi=>⟨?_,hw i (by lia)⟩) λi j hi hj=>?_
 ·unfold uq;rw[vX _ (by lia),aa,aq]
 ·rw[Ju (by lia) (hl i (by lia)) hj,<- mD hp,<- hr i j];refine((qG p _ _).mpr ?_).symm;exact h i j (by lia) hj
def u5 (n:Nat):Tab:=(List.range n).map λi=>(List.range n).map λk=>pD i k
theorem uD (n:Nat):(u5 n).length=n:=by unfold u5;rw[aa,aq]
theorem M8 {n i:Nat}(h:i<n):(u5 n).getD i []=(List.range n).map λk=>pD i k:=by rw[rD (by rw[uD];exact h)];unfold u5;rw[br,bn]
theorem wM {n i j:Nat}(h:i<n)(hj:j<n):ent (u5 n) i j=pD i j:=by show((u5 n).getD i []).getD j 0=_;rw[M8 h,Lf _ hj]
theorem Bj (h:i<n):((u5 n).getD i []).length=n:=by rw[M8 h,aa,aq]
theorem Jr (hp:2<=p)(i j:Nat):pl p (ent (u5 n) i j)=ent (u5 n) i j:=by
 by_cases h:i<n
 ·by_cases hj:j<n
  ·rw[wM h hj];unfold pD;split
   ·rw[mD (by lia)];exact bI (by lia) (by lia)
   ·exact lW p
  ·rw[Lx (m:=n) (λi hi=>Bj (by rw[uD]at hi;exact hi)) (by lia),lW]
 ·rw[oO (by rw[uD];lia),lW]
def qj (w:Nat)(t:Tab):Tab:=t.map λrow=>row.take w
def pJ (w:Nat)(t:Tab):Tab:=t.map λrow=>row.drop w
theorem rQ {w:Nat}{t:Tab}{i j:Nat}(hj:j<w):ent (qj w t) i j=ent t i j:=by
 by_cases h:i<t.length
 ·show((qj w t).getD i []).getD j 0=_;unfold qj;rw[vX _ h,gQ,dq hj,<- gQ];rfl
 ·rw[oO (by unfold qj;rw[aa];lia),oO (by lia)]
theorem xX {w:Nat}{t:Tab}{i j:Nat}:ent (pJ w t) i j=ent t i (w+j):=by
 by_cases h:i<t.length
 ·show((pJ w t).getD i []).getD j 0=_;unfold pJ;rw[vX _ h,gQ,dI,<- gQ];rfl
 ·rw[oO (by unfold pJ;rw[aa];lia),oO (by lia)]
theorem HX (w:Nat)(t:Tab):(qj w t).length=t.length:=by unfold qj;rw[aa]
theorem Py (w:Nat)(t:Tab):(pJ w t).length=t.length:=by unfold pJ;rw[aa]
def mW (p:Int)(iv:Int->Int)(rows:Tab)(w:Nat):Tab:=qj w (nG p iv rows w)
def turnT (p:Int)(iv:Int->Int)(rows:Tab)(w:Nat):Tab:=pJ w (nG p iv rows w)
def o6 (p:Int)(iv:Int->Int)(rows:Tab)(w:Nat):Tab:=pJ rows.length (nG p iv (turnT p iv rows w) rows.length)
structure WM (p:Int)(n m:Nat)(t:Tab):Prop where
 len:t.length=n
 row:∀i,i<n->(t.getD i []).length=m
 red:∀i j,pl p (ent t i j)=ent t i j
structure Uh (n w:Nat)(t:Tab)(d:Nat)(v:Nat->Nat):Prop where
 dn:d<=n
 lt:∀i,i<d->v i<w
 up:∀i j,i<j->j<d->v i<v j
 one:∀i,i<d->ent t i (v i)=1
 alone:∀i r,i<d->r<n->r≠i->ent t r (v i)=0
 before:∀i c,i<d->c<v i->ent t i c=0
 low:∀i c,d<=i->i<n->c<w->ent t i c=0
theorem Zq.left {n w:Nat}{rows t:Tab}{d:Nat}(c:Zq p n w rows t d):WM p n w (qj w t):=by
 refine⟨by rw[HX,c.len],λi hi=>?_,λi j=>?_⟩
 ·unfold qj;rw[vX _ (by rw[c.len];exact hi),aI,c.row i hi];lia
 ·by_cases h:j<w
  ·rw[rQ h,c.red]
  ·by_cases hi:i<n
   ·have:ent (qj w t) i j=0:=jr (by
     unfold qj;rw[vX _ (by rw[c.len];exact hi),aI];lia)
    rw[this,lW]
   ·rw[oO (by rw[HX,c.len];lia),lW]
theorem Zq.right {n w:Nat}{rows t:Tab}{d:Nat}(c:Zq p n w rows t d):WM p n n (pJ w t):=by refine⟨by rw[Py,c.len],λi hi=>?_,λi j=>by rw[xX,c.red]⟩;unfold pJ;rw[vX _ (by rw[c.len];exact hi),aY,c.row i hi];lia
theorem Qw {iv:Int->Int}{rows:Tab}{n w:Nat}(hp:2<=p)(hiv:∀x,0<x->x<p->p ∣ iv x*x-1)(hn:rows.length=n)(hw:∀i,i<n->(rows.getD i []).length=w) :
  WM p n w (mW p iv rows w)/\WM p n n (turnT p iv rows w)/\WM p n n (o6 p iv rows w)/\uq p (turnT p iv rows w) rows w=mW p iv rows w/\(∃d v,Uh n w (mW p iv rows w) d v) /\
   uq p (turnT p iv rows w) (o6 p iv rows w) n=u5 n/\uq p (o6 p iv rows w) (turnT p iv rows w) n=u5 n:=by
 have c:=Cj hp hiv hn hw;have tF:WM p n w (mW p iv rows w):=c.left;have tT:WM p n n (turnT p iv rows w):=c.right;have eT:ent (turnT p iv rows w)=λi j=>ent (nG p iv rows w) i (w+j):=by funext i j;exact xX
 have c2:=Cj (rows:=turnT p iv rows w) hp hiv tT.len tT.row;have eB:o6 p iv rows w=pJ n (nG p iv (turnT p iv rows w) n):=by unfold o6;rw[hn]
 have tB:WM p n n (o6 p iv rows w):=by rw[eB];exact c2.right
 have eb:ent (o6 p iv rows w)=λi j=>ent (nG p iv (turnT p iv rows w) n) i (n+j):=by rw[eB];funext i j;exact xX
 obtain⟨Bi,hBi⟩:=c.inv;rw[<- eT]at hBi;have bt:Al p n n (mm n (ent (o6 p iv rows w)) (ent (turnT p iv rows w))) pD:=by rw[eb];exact c2.unit hp ⟨Bi,hBi⟩
 have tb:Al p n n (mm n (ent (turnT p iv rows w)) (ent (o6 p iv rows w))) pD:=hBi.left bt;have p0:0<p:=by lia
 have e1:Al p n n (ent (u5 n)) pD:=.of λi j hi hj=>wM hi hj;refine⟨tF,tT,tB,?_,?_,?_,?_⟩
 ·refine Ei p0 tT.len tT.row tF.len tF.row tF.red ?_;rw[eT];exact(Al.of λi j hi hj=>rQ hj:Al p n w (ent (mW p iv rows w)) (ent (nG p iv rows w))).trans c.mul
 ·obtain⟨v,v1,v2,v3,v4,v5⟩:=c.piv;refine⟨_,v,c.dn,v1,v2,λi hi=>?_,λi r hi hr hne=>?_,λi c' hi hc=>?_,λi c' h1 h2 h3=>?_⟩
  ·rw[show mW p iv rows w=qj w (nG p iv rows w) from rfl,rQ (v1 i hi)];exact v3 i hi
  ·rw[show mW p iv rows w=qj w (nG p iv rows w) from rfl,rQ (v1 i hi)];exact v4 i r hi hr hne
  ·rw[show mW p iv rows w=qj w (nG p iv rows w) from rfl,rQ (by have:=v1 i hi;lia)];exact v5 i c' hi hc
  ·rw[show mW p iv rows w=qj w (nG p iv rows w) from rfl,rQ h3];exact c.low i c' h1 h2 h3
 ·exact Ei p0 tT.len tT.row (uD n) (λi hi=>Bj hi) (λi j=>Jr hp i j) (e1.trans tb.symm)
 ·exact Ei p0 tB.len tB.row (uD n) (λi hi=>Bj hi) (λi j=>Jr hp i j) (e1.trans bt.symm)
def ofM (n m:Nat)(X:Mx):Tab:=(List.range n).map λi=>(List.range m).map λj=>X i j
theorem NZ (n m:Nat)(X:Mx):(ofM n m X).length=n:=by unfold ofM;rw[aa,aq]
theorem Ul (h:i<n):(ofM n m X).getD i []=(List.range m).map λj=>X i j:=by rw[rD (by rw[NZ];exact h)];unfold ofM;rw[br,bn]
theorem UV (h:i<n)(hj:j<m):ent (ofM n m X) i j=X i j:=by show((ofM n m X).getD i []).getD j 0=_;rw[Ul h,Lf _ hj]
theorem WQ {d w:Nat}{v:Nat->Nat}(h1:∀i,i<d->v i<w)(h2:∀i j,i<j->j<d->v i<v j):d<=w:=by
 have lo:∀i,i<d->i<=v i:=λi=>by
  induction i with
  |zero=>intro _;exact bh _
  |succ i ih=>intro hi;have:=ih (by lia);have:=h2 i (i+1) (by lia) hi;lia
 cases d with
 |zero=>exact bh _
 |succ d=>have:=lo d (by lia);have:=h1 d (by lia);lia
theorem unit_row (hp:2<=p)(h:Al p n n (mm n A B) pD)(hi:i<n)(hz:∀k,k<n->p ∣ A i k):False:=by
 have z:=h i i hi hi;have s:p ∣ mm n A B i i:=nO λk hk=>aZ (hz k hk);have u:pD i i=1:=af rfl;rw[u]at z;have o:p ∣ 1:=by
  have e:(1:Int)=mm n A B i i-(mm n A B i i-1):=by lia
  rw[e];exact dR s z
 have:=dB (by decide) o;lia
theorem dep {iv:Int->Int}{r1 r2:Nat}(hp:2<=p)(hiv:∀x,0<x->x<p->p ∣ iv x*x-1)(h:r1<r2)(X:Mx):∃y:Nat->Int,(∃i,i<r2/\¬p ∣ y i)/\∀j,j<r1->p ∣ sm r2 λk=>y k*X k j:=by
 have c:=Cj (iv:=iv) (rows:=ofM r2 r1 X) (w:=r1) hp hiv (NZ r2 r1 X) λi hi=>by rw[Ul hi,aa,aq]
 generalize nG p iv (ofM r2 r1 X) r1=t at c;generalize (Mw p iv (oJ p (ofM r2 r1 X)) r1).2=d at c;obtain⟨v,v1,v2,_⟩:=c.piv;have dl:=WQ v1 v2;obtain⟨B,hB⟩:=c.inv;refine⟨λk=>ent t d (r1+k),?_,λj hj=>?_⟩
 ·by_cases q:∃i,i<r2/\¬p ∣ ent t d (r1+i)
  ·exact q
  ·exfalso;refine unit_row hp hB.ab (i:=d) (by lia) λk hk=>?_;by_cases z:p ∣ ent t d (r1+k)
   ·exact z
   ·exact absurd ⟨k,hk,z⟩ q
 ·have m1:=c.mul d j (by lia) hj;rw[c.low d j (ai _) (by lia) hj]at m1;have e:mm r2 (λi j=>ent t i (r1+j)) (ent (ofM r2 r1 X)) d j=sm r2 λk=>ent t d (r1+k)*X k j:=jw λk hk=>by rw[UV hk hj]
  rw[e]at m1;have:=bq.mpr m1;have e2:-(0-sm r2 λk=>ent t d (r1+k)*X k j)=sm r2 λk=>ent t d (r1+k)*X k j:=by lia
  rw[e2]at this;exact this
theorem HS (T:Top K mg cNO cK cR):Ok P w K mg base 1 "unit_row" ["at","length"] (Hc K (pX cR) (λas=>∃i n:Nat,as=[.int (i:Int),.int (n:Int)]/\i<n/\n<=1000) λas=>match as with
  |[.int i,.int n]=>Qq n.toNat i.toNat
  |_=>[]):=by
 refine JL T.Le yG (λas ⟨a,b,h,_⟩=>by rw[h];rfl) (λf cdv A outer s H E hr=>⟨_,(ji (tE (i:=2) yG.nd rfl (Or.inl rfl) (vO (m7 (jh jj jk)) (xn 1) (λ_=>rfl)))
 (ji (uL 2 (xn 0) jj)
 (jm (Az 2)))),λas hp=>?_⟩)
 obtain⟨i,n,rfl,hi,hn⟩:=hp;refine⟨⟨⟨⟨tJ,tJ⟩,tJ⟩,rfl,by show -(2:Int)^63<=(n:Int);lia,by show((n:Int)).toNat<=1000;lia⟩,λl el=>?_⟩;have el:l=List.replicate n 0:=el;have ll:l.length=n:=by rw[el,aN]
 refine⟨tJ,rfl,rfl,⟨by show -(l.length:Int)<=(i:Int);lia,by show(i:Int)<(l.length:Int);lia⟩,?_⟩;refine⟨rfl,?_⟩;show l.set (jZ l.length (i:Int)) 1=Qq ((n:Int)).toNat ((i:Int)).toNat;rw[Vf (by lia),el,aA,aA];rfl
theorem CT (T:Top K mg cNO cK cR):Ok P w K mg base 2 "unit_table" ["length"] (yu K (pX cR) (λas=>∃n:Nat,as=[.int (n:Int)]/\n<=1000) λas=>match as with
  |[.int n]=>jt (J3 n.toNat)
  |_=>.non):=by
 refine w5 T.Gj CN (λas ⟨a,h,_⟩=>by rw[h];rfl) (λf cdv A outer s H E hr=>⟨_,(jm (jx (tQ (Yx (N':=["at","length"]) (cap:=[some 0]) (ph rfl rfl rfl rfl ⟨⟨rfl,.inr (.inl rfl),Dz,.inl rfl,_,rfl,rfl⟩,tJ⟩ ⟨rfl,tJ⟩ rfl) rfl (by rfl) T.oV (xn 0) (λ_ _ _=>(pZ 0)) (λ_ _ _=>(jY (tW (HS T) hr (jh (xn 0) (jh (xn 1) jk))))))))),λas hp=>?_⟩);obtain⟨n,rfl,hn⟩:=hp;refine⟨⟨rfl,⟨by show(0:Int)<=(n:Int);lia,by show(n:Int)<=1000;lia⟩,λk hk=>?_⟩,?_⟩
 ·have hk:k<((n:Int)).toNat:=hk;exact⟨⟨rfl,rfl,tJ⟩,k,n,rfl,by lia,hn⟩
 ·show PV.lst ((List.range ((n:Int)).toNat).map λ(k:Nat)=>PV.ints (Qq ((n:Int)).toNat ((k:Int)).toNat))=jt (J3 ((n:Int)).toNat);unfold jt J3;rw[bx];rfl
theorem wU (T:Top K mg cNO cK cR):Ok P w K mg base 2 "plain_row" ["kind","row"] (Hc K (pX cR) (λas=>∃z r,as=[.ob 0 z,.ints r]/\r.length<=1000) λas=>match as with
  |[.ob 0 z,.ints r]=>r.map (pl z)
  |_=>[]):=by
 refine JL T.JK Gw (λas ⟨a,b,h,_⟩=>by rw[h];rfl) (λf cdv A outer s H E hr=>⟨_,(jm (mC (Gq (N':=["number","kind"]) (cap:=[some 0]) (ph rfl rfl rfl rfl ⟨⟨rfl,.inr (.inl rfl),Dz,.inl rfl,_,rfl,rfl⟩,tJ⟩ ⟨rfl,tJ⟩ rfl) rfl (xl 1) (λ_ _ _=>(pZ 0)) (λ_ _ _=>(qO 1 (pU T) hr (jh (xn 0) jk)))))),λas hp=>?_⟩);obtain⟨z,r,rfl,hr1⟩:=hp;exact⟨⟨rfl,hr1,λn _=>⟨rfl,⟨rfl,tJ⟩,tJ,tJ⟩⟩,rfl⟩
theorem VM (h1:d<=f)(h2:f<t.length)(h3:ent t f a≠0)(h4:∀j,d<=j->j<f->ent t j a=0):Kl t a d=some f:=by
 cases e:Kl t a d with
 |none=>exact absurd (Jt e h1 h2) h3
 |some g=>
  obtain⟨g1,g2,g3⟩:=wA e;unfold Kl at e;obtain⟨_,i,hi,ei,hj⟩:=List.find?_eq_some_iff_getElem.mp e;have ei:d+i=g:=by rw[<- ei,br,bn]
  by_cases c:g<f
  ·exact absurd (h4 g g1 c) g3
  ·by_cases c2:g=f
   ·rw[c2]
   ·exfalso;have q:=hj (f-d) (by lia);rw[br,bn,show d+(f-d)=f by lia]at q;simp[h3]at q
theorem Q0 (h:∀j,d<=j->j<t.length->ent t j a=0):Kl t a d=none:=by
 cases e:Kl t a d with
 |none=>rfl
 |some g=>obtain⟨g1,g2,g3⟩:=wA e;exact absurd (h g g1 g2) g3
def V6 (t:Tab)(a d:Nat):PV:=match Kl t a d with
 |none=>.non
 |some f=>.int (f:Int)
theorem uZ (T:Top K mg cNO cK cR):Ok P w K mg base 1 "first_not_nought" ["rows","at","done"] (yu K (pX cR) (λas=>∃t,∃a d:Nat,as=[jt t,.int (a:Int),.int (d:Int)]/\t.length<=1000/\d<=t.length/\∀i,i<t.length->a<(t.getD i []).length) λas=>match as with
  |[.lst ps,.int a,.int d]=>V6 (ps.map j8) a.toNat d.toNat
  |_=>.non):=by
 refine w5 T.vY qd (λas ⟨a,b,c,h,_⟩=>by rw[h];rfl) (λf cdv A outer s H E hr=>⟨_,(ji (Qj (k:=3) aE rfl (by rfl) T.oV (xn 2) (lZ T.jM (xv 0)) qd.nd rfl (Or.inl rfl)
 (jm (lJ (sH (rA (ju (xl_of (ju (xv 0) (xn 3) (λ_ _=>rfl))) (xn 1) (λ_ _=>rfl))) jj)
 (jm (jx (xn 3)))
 kj)))
 (jm (jx Zu))),λas hp=>?_⟩)
 obtain⟨t,a,d,rfl,ht,hd,ha⟩:=hp;have el:((t.map PV.ints).length:Int)=(t.length:Int):=by rw[aa]
 have goalF:V6 ((t.map PV.ints).map j8) ((a:Int)).toNat ((d:Int)).toNat=V6 t a d:=by rw[mY,aA,aA]
 refine⟨⟨rfl,rfl,tJ⟩,⟨by show -(2:Int)^62<=(d:Int);lia,by show(d:Int)<2^62;lia,by show -(2:Int)^62<=((t.map PV.ints).length:Int);lia,by show((t.map PV.ints).length:Int)<2^62;lia⟩,λi Z=>∃v,Z=[.fr (jt t),.fr (.int (a:Int)),.fr (.int (d:Int)),v]/\∀j,d<=j->j<d+i->ent t j a=0,⟨.un,rfl,λj h1 h2=>by lia⟩,?_,?_⟩
 ·rintro i Z hi ⟨v,rfl,hz⟩;have hi:i<(((t.map PV.ints).length:Int)-(d:Int)).toNat:=hi;have hi:d+i<t.length:=by lia
  have e1:(d:Int)+(i:Int)=((d+i:Nat):Int):=by lia
  have ev:j8 (jV (jt t) ((d:Int)+(i:Int)))=t.getD (d+i) []:=by rw[e1];exact Bc hi
  have ev2:yF (jV (.ints (j8 (jV (jt t) ((d:Int)+(i:Int))))) (a:Int))=ent t (d+i) a:=by rw[ev];show(t.getD (d+i) []).getD (jZ (t.getD (d+i) []).length (a:Int)) 0=_;rw[Vf (ha _ hi)];rfl
  have h1:lR (jt t) ((d:Int)+(i:Int)):=by rw[e1];exact yq hi
  have h2:jV (jt t) ((d:Int)+(i:Int))=.ints (j8 (jV (jt t) ((d:Int)+(i:Int)))):=by rw[e1];exact xR hi
  refine⟨⟨⟨⟨⟨⟨rfl,rfl,h1⟩,h2⟩,rfl,?_⟩,rfl⟩,tJ⟩,λq=>?_,λq=>?_⟩
  ·show lR (.ints (j8 (jV (jt t) ((d:Int)+(i:Int))))) (a:Int);rw[ev];exact Nq (ha _ hi)
  ·have q:¬yF (jV (.ints (j8 (jV (jt t) ((d:Int)+(i:Int))))) (a:Int))=0:=q;rw[ev2]at q;refine⟨rfl,?_⟩;show PV.int ((d:Int)+(i:Int))=V6 ((t.map PV.ints).map j8) ((a:Int)).toNat ((d:Int)).toNat;rw[goalF];unfold V6;rw[VM (by lia) hi q hz,e1]
  ·have q:¬¬yF (jV (.ints (j8 (jV (jt t) ((d:Int)+(i:Int))))) (a:Int))=0:=q;rw[ev2]at q;refine⟨_,rfl,λj h1 h2=>?_⟩;by_cases c:j=d+i
   ·rw[c];exact fh.mp q
   ·exact hz j h1 (by lia)
 ·rintro Z ⟨v,rfl,hz⟩;have hz:∀j,d<=j->j<d+(((t.map PV.ints).length:Int)-(d:Int)).toNat->ent t j a=0:=hz;refine⟨tJ,?_⟩;show PV.non=V6 ((t.map PV.ints).map j8) ((a:Int)).toNat ((d:Int)).toNat;rw[goalF];unfold V6;rw[Q0 λj h1 h2=>hz j h1 (by lia)]
theorem Vw (xs:List PV)(b:Nat):rJ xs none (some (b:Int))=xs.take b:=by
 unfold rJ;rw[HT.sIx_nat,HT.sIx_none,iI,gq];by_cases h:b<=xs.length
 ·rw[dQ h]
 ·rw[fA (by lia),ce (ai _),ce (by lia)]
theorem OD (xs:List PV)(a:Nat):rJ xs (some (a:Int)) none=xs.drop a:=by
 unfold rJ;rw[HT.sIx_nat,HT.sIx_none];by_cases h:a<=xs.length
 ·rw[dQ h,ce (by rw[aY];lia)]
 ·rw[fA (by lia),dF (ai _),dF (by lia),List.take_nil]
theorem QW (xs:List PV)(hb:b<=xs.length)(h:a<=b):rJ xs (some (a:Int)) (some (b:Int))=(xs.drop a).take (b-a):=by unfold rJ;rw[HT.sIx_nat,HT.sIx_nat,dQ hb,dQ (by lia)]
theorem xM (T:Top K mg cNO cK cR):Ok P w K mg base 1 "with_row_moved" ["rows","found","done"] (yu K (pX cR) (λas=>∃t,∃f d:Nat,as=[jt t,.int (f:Int),.int (d:Int)]/\t.length<=300/\d<=f/\f<t.length) λas=>match as with
  |[.lst ps,.int f,.int d]=>jt (qp (ps.map j8) f.toNat d.toNat)
  |_=>.non):=by
 refine w5 T.yz wJ (λas ⟨a,b,c,h,_⟩=>by rw[h];rfl) (λf cdv A outer s H E hr=>⟨_,(jm (jx (tQ (Kc (tQ (Kc (tQ (Kc (tQ (Bf (nW (xv 0)) pL (lU (xn 2)))) (tQ (sO (jh (xl_of (ju (xv 0) (xn 1) (λ_ _=>rfl))) jk))))) (tQ (Bf (nW (xv 0)) (lU (xn 2)) (lU (xn 1)))))) (tQ (Bf (nW (xv 0)) (lU (lG (xn 1) jj)) pL)))))),λas hp=>?_⟩);obtain⟨t,f,d,rfl,ht,hdf,hf⟩:=hp;have el:(t.map PV.ints).length=t.length:=aa _;have e1:rJ (t.map PV.ints) none (some (d:Int))=(t.take d).map PV.ints:=by rw[Vw,gS]
 have e2:rJ (t.map PV.ints) (some (d:Int)) (some (f:Int))=((t.drop d).take (f-d)).map PV.ints:=by rw[QW _ (by lia) hdf,<- gR,<- gS]
 have e3:rJ (t.map PV.ints) (some ((f:Int)+1)) none=(t.drop (f+1)).map PV.ints:=by rw[show(f:Int)+1=((f+1:Nat):Int) by lia,OD,gR]
 have e4:j8 (jV (jt t) (f:Int))=t.getD f []:=Bc hf;refine⟨⟨⟨⟨⟨⟨rfl,rfl⟩,tJ,rfl⟩,⟨⟨⟨rfl,rfl,yq hf⟩,xR hf⟩,tJ⟩,?_⟩,⟨⟨rfl,rfl⟩,rfl,rfl⟩,?_⟩,⟨⟨rfl,rfl⟩,⟨rfl,tJ⟩,tJ⟩,?_⟩,?_⟩
 ·show(rJ (t.map PV.ints) none (some (d:Int))).length+[PV.ints (j8 (jV (jt t) (f:Int)))].length<=sizeLine;rw[e1,aa,aI];exact bK (small1000 (by show min d t.length+1<=1000;lia))
 ·show(rJ (t.map PV.ints) none (some (d:Int))++[PV.ints (j8 (jV (jt t) (f:Int)))]).length+(rJ (t.map PV.ints) (some (d:Int)) (some (f:Int))).length<=sizeLine;rw[e1,e2,ah,aa,aa,aI,aI,aY];exact bK (small1000 (by show min d t.length+1+min (f-d) (t.length-d)<=1000;lia))
 ·show(rJ (t.map PV.ints) none (some (d:Int))++[PV.ints (j8 (jV (jt t) (f:Int)))]++rJ (t.map PV.ints) (some (d:Int)) (some (f:Int))).length+(rJ (t.map PV.ints) (some ((f:Int)+1)) none).length<=sizeLine;rw[e1,e2,e3,ah,ah,aa,aa,aa,aI,aI,aY,aY];exact bK (small1000 (by show min d t.length+1+min (f-d) (t.length-d)+(t.length-(f+1))<=1000;lia))
 ·show PV.lst (rJ (t.map PV.ints) none (some (d:Int))++[PV.ints (j8 (jV (jt t) (f:Int)))]++rJ (t.map PV.ints) (some (d:Int)) (some (f:Int))++rJ (t.map PV.ints) (some ((f:Int)+1)) none)=jt (qp ((t.map PV.ints).map j8) ((f:Int)).toNat ((d:Int)).toNat);rw[e1,e2,e3,e4,mY,aA,aA];unfold jt qp;rw[bF,bF,bF];rfl
theorem QH (z:Int)(row first:Li)(a:Nat):(row.zip first).map (λq=>pl z (q.1-row.getD a 0*q.2))=Aq z row first a:=by unfold Aq;rw[List.zip,g9]
theorem Cg (T:Top K mg cNO cK cR):Ok P w K mg base 2 "row_without" ["kind","row","at","first"] (Hc K (pX cR) (λas=>∃z row,∃a:Nat,∃first,as=[.ob 0 z,.ints row,.int (a:Int),.ints first]/\row.length<=1000/\a<row.length/\Bd row/\Bd first) λas=>match as with
  |[.ob 0 z,.ints row,.int a,.ints first]=>Aq z row first a.toNat
  |_=>[]):=by
 refine JL T.CG zZ (λas ⟨a,b,c,d,h,_⟩=>by rw[h];rfl) (λf cdv A outer s H E hr=>⟨_,(jm (mC (X4 (N':=["number","other","kind","row","at"]) (cap:=[some 0,some 1,some 2]) (ph rfl rfl rfl rfl ⟨⟨rfl,.inr (.inl rfl),Dz,.inl rfl,_,rfl,rfl⟩,⟨⟨rfl,.inr (.inl rfl),Dz,.inl rfl,_,rfl,rfl⟩,⟨⟨rfl,.inr (.inl rfl),Dz,.inl rfl,_,rfl,rfl⟩,tJ⟩⟩⟩ ⟨rfl,⟨rfl,⟨rfl,tJ⟩⟩⟩ rfl) rfl (by rfl) T.Tn (ZJ (xl 1)) (ZJ (xl 3)) (λ_ _ _=>(pg_tup rfl (pgs_cons (pZ 0) (pgs_cons (pZ 1) pgs_nil)))) (λ_ _ _=>(qO 2 (pU T) hr (jh (pI (xn 0) (pC (lL 3 (xn 4) (λ_ _=>rfl)) (xn 1))) jk)))))),λas hp=>?_⟩);obtain⟨z,row,a,first,rfl,hl,ha,hb,hf⟩:=hp
 refine⟨⟨⟨rfl,rfl⟩,hl,λn m h=>⟨rfl,⟨⟨rfl,⟨.inl rfl,rfl,by show -(row.length:Int)<=(a:Int);lia,by show(a:Int)<(row.length:Int);lia⟩,rfl,?_⟩,tJ⟩,tJ,tJ⟩⟩,?_⟩
 ·exact qI (n:=9000) (m:=9000) (Zg hb _) (hf m (c7 h).2)
 ·show(row.zip first).map (λq=>pl z (q.1-row.getD (jZ row.length (a:Int)) 0*q.2))=Aq z row first ((a:Int)).toNat
  rw[Vf ha,aA];exact QH z row first a
def lO (p x:Int):Int:=pl p (1*tu x p)
theorem Bo (hp:jN p)(x:Int)(h0:0<x)(h1:x<p):Int.gcd x p=1/\p ∣ lO p x*x-1:=by
 have p2:2<=p:=hp.1;have g:Int.gcd x p=1:=by
  have h3:¬x % p=0:=by rw[bI (by lia) h1];lia
  have:=Gr hp h3 1;rw[iV]at this;exact this
 refine⟨g,?_⟩;obtain⟨e1,_⟩:=hov (z:=p) p2 g 1 (lO p x) (by rw[mD (by lia)];exact bI (by lia) (by lia)) rfl;have:pl p (lO p x*x)=pl p 1:=by rw[e1,mD (by lia)];exact(bI (by lia) (by lia)).symm
 exact(qG p _ _).mp this
theorem TJ (hp:jN p)(h:pl p x=x):x.natAbs<2^9000:=by
 have:=BX (z:=p) (n:=x) (by have:=hp.1;lia);rw[h]at this;have h2:=hp.2.1;have:x.natAbs<=2^14:=by lia
 exact aO this (bc (by decide) (by decide))
theorem VG (hp:jN p)(h:∀i j,pl p (ent t i j)=ent t i j)(i:Nat):Bd (t.getD i []):=λm hm=>by obtain⟨j,_,e⟩:=FM.mem_getD hm;have:=h i j;unfold ent at this;rw[e]at this;exact TJ hp this
theorem sU (T:Top K mg cNO cK cR):Ok P w K mg base 3 "with_column_cleared" ["kind","rows","at","done"] (yu K (pX cR) (λas=>∃p t,∃a d m:Nat,as=[.ob 0 p,jt t,.int (a:Int),.int (d:Int)]/\jN p/\t.length<=1000/\d<t.length/\m<=1000/\a<m/\(∀i,i<t.length->(t.getD i []).length=m)/\(∀i j,pl p (ent t i j)=ent t i j)/\ent t d a≠0) λas=>match as with
  |[.ob 0 p,.lst ps,.int a,.int d]=>jt (XJ p (lO p) (ps.map j8) a.toNat d.toNat)
  |_=>.non):=by
 refine w5 T.tY mJ (λas ⟨a,b,c,d,e,h,_⟩=>by rw[h];rfl) (λf cdv A outer s H E hr=>⟨_,(ji (jA (i:=4) mJ.nd rfl (Or.inr rfl) (rA (Za (Fv 0 (Aj T) hr (jh jj (jh (rA (ju (xl_of (ju (xv 1) (xn 3) (λ_ _=>rfl))) (xn 2) (λ_ _=>rfl))) jk))))))
 (ji (jC (i:=5) mJ.nd rfl (Or.inr rfl) (jY (tW (wU T) hr (jh (xv 0) (jh (jY (Gq (N':=["number","factor"]) (cap:=[some 4]) (ph rfl rfl rfl rfl ⟨⟨rfl,.inr (.inl rfl),Dz,.inl rfl,_,rfl,rfl⟩,tJ⟩ ⟨rfl,tJ⟩ rfl) rfl (xl_of (ju (xv 1) (xn 3) (λ_ _=>rfl))) (λ_ _ _=>(pZ 0)) (λ_ _ _=>(pC (xn 1) (xn 0))))) jk)))))
 (jm (jx (tQ (Lg (N':=["place","row","first","done","kind","at"]) (cap:=[some 5,some 3,some 0,some 2]) (ph rfl rfl rfl rfl ⟨⟨rfl,.inr (.inl rfl),Dz,.inl rfl,_,rfl,rfl⟩,⟨⟨rfl,.inr (.inl rfl),Dz,.inl rfl,_,rfl,rfl⟩,⟨⟨rfl,.inr (.inl rfl),Dz,.inl rfl,_,rfl,rfl⟩,⟨⟨rfl,.inr (.inl rfl),Dz,.inl rfl,_,rfl,rfl⟩,tJ⟩⟩⟩⟩ ⟨rfl,⟨rfl,⟨rfl,⟨rfl,tJ⟩⟩⟩⟩ rfl) rfl (by rfl) T.mF (nW (xv 1)) (λ_ _ _=>(pg_tup rfl (pgs_cons (pZ 0) (pgs_cons (pZ 1) pgs_nil)))) (λ_ _ _=>(Uk (yR (xn 0) (xn 3)) (xl 2) (jY (tW (Cg T) hr (jh (xv 4) (jh (xl 1) (jh (xn 5) (jh (xl 2) jk)))))))))))))),λas hp=>?_⟩)
 obtain⟨p,t,a,d,m,rfl,hp,ht,hd,hm,ha,hrow,hred,hne⟩:=hp;have p2:2<=p:=hp.1;have h9:p.natAbs<2^9000:=by
  have:p.natAbs<=2^14:=by have:=hp.2.1;lia
  exact aO this (bc (by decide) (by decide))
 have o9:(1:Int).natAbs<2^9000:=aO (show(1:Int).natAbs<=2^14 by decide) (bc (by decide) (by decide));have x0:0<ent t d a/\ent t d a<p:=by have:=BX (z:=p) (n:=ent t d a) (by lia);rw[hred]at this;lia
 obtain⟨g,_⟩:=Bo hp _ x0.1 x0.2;have ev:j8 (jV (jt t) (d:Int))=t.getD d []:=Bc hd;have hla:a<(t.getD d []).length:=by rw[hrow d hd];exact ha
 have ev2:yF (jV (.ints (j8 (jV (jt t) (d:Int)))) (a:Int))=ent t d a:=by rw[ev];show(t.getD d []).getD (jZ (t.getD d []).length (a:Int)) 0=_;rw[Vf hla];rfl
 have eF:G9 cNO p [1,yF (jV (.ints (j8 (jV (jt t) (d:Int)))) (a:Int))]=.inl (lO p (ent t d a)):=by rw[ev2];exact U6 g
 refine⟨⟨⟨⟨rfl,⟨tJ,⟨⟨⟨⟨rfl,rfl,yq hd⟩,xR hd⟩,rfl,?_⟩,rfl⟩,tJ⟩,tJ,?_⟩,?_⟩,?_⟩,λfac efac=>?_⟩
 ·show lR (.ints (j8 (jV (jt t) (d:Int)))) (a:Int);rw[ev];exact Nq hla
 ·exact⟨p2,h9,o9⟩
 ·show(xZ (G9 cNO p [1,yF (jV (.ints (j8 (jV (jt t) (d:Int)))) (a:Int))])).isV;rw[eF];exact tJ
 ·show(xZ (G9 cNO p [1,yF (jV (.ints (j8 (jV (jt t) (d:Int)))) (a:Int))])).get=.int (yF (xZ (G9 cNO p [1,yF (jV (.ints (j8 (jV (jt t) (d:Int)))) (a:Int))])).get);rw[eF];rfl
 have efac:fac=yF (xZ (G9 cNO p [1,yF (jV (.ints (j8 (jV (jt t) (d:Int)))) (a:Int))])).get:=efac;rw[eF]at efac;refine jJ (Z':=[.fr (.ob 0 p),.fr (jt t),.fr (.int (a:Int)),.fr (.int (d:Int)),.fr (.int fac),.un]) rfl ?_;have fb:fac.natAbs<2^9000:=by rw[efac];exact TJ hp (uf _ _)
 have hBd:=VG hp hred;refine⟨⟨⟨rfl,⟨⟨⟨rfl,rfl,yq hd⟩,xR hd⟩,?_,λn hn=>?_⟩,tJ⟩,?_⟩,λfirst ef=>?_⟩
 ·show(j8 (jV (jt t) (d:Int))).length<=1000;rw[ev,hrow d hd];exact hm
 ·have hn:n∈j8 (jV (jt t) (d:Int)):=hn;rw[ev]at hn;exact⟨rfl,rfl,qI (n:=9000) (m:=9000) fb (hBd d n hn)⟩
 ·refine⟨p,_,rfl,?_⟩;show((j8 (jV (jt t) (d:Int))).map _).length<=1000;rw[aa,ev,hrow d hd];exact hm
 have ef:first=((j8 (jV (jt t) (d:Int))).map λn=>fac*n).map (pl p):=ef
 rw[ev]at ef;have ef:first=yV p fac (t.getD d []):=ef
 refine jJ (Z':=[.fr (.ob 0 p),.fr (jt t),.fr (.int (a:Int)),.fr (.int (d:Int)),.fr (.int fac),.fr (.ints first)]) rfl ?_
 have fB:Bd first:=λn hn=>by rw[ef]at hn;obtain⟨y,_,rfl⟩:=aR.mp hn;exact TJ hp (uf _ _)
 have gi:∀i,i<t.length->(t.map PV.ints).getD i .non=.ints (t.getD i []):=λi hi=>Hm hi;refine⟨⟨⟨rfl,rfl⟩,by show(t.map PV.ints).length<=1000;rw[aa];exact ht,λi q hq=>?_⟩,?_⟩
 ·have hq:(t.map PV.ints)[i]?=some q:=hq;rw[ao]at hq;cases ei:t[i]? with
  |none=>rw[ei]at hq;cases hq
  |some r=>
   rw[ei]at hq;cases hq;have hi:i<t.length:=(aj.mp ei).1;have er:t.getD i []=r:=by rw[gQ,ei];rfl
   refine⟨⟨rfl,rfl⟩,λ_=>rfl,λ_=>⟨⟨rfl,rfl,rfl,rfl,tJ⟩,p,r,a,first,rfl,?_,?_,?_,fB⟩⟩
   ·rw[<- er,hrow i hi];exact hm
   ·rw[<- er,hrow i hi];exact ha
   ·rw[<- er];exact hBd i
 ·have fin:jt (XJ p (lO p) ((t.map PV.ints).map j8) ((a:Int)).toNat ((d:Int)).toNat)=.lst ((vg p fac t a d).map PV.ints):=by rw[mY,aA,aA,efac];rfl
  show PV.lst (List.mapIdx _ (t.map PV.ints))=jt (XJ p (lO p) ((t.map PV.ints).map j8) ((a:Int)).toNat ((d:Int)).toNat);rw[fin];refine congrArg PV.lst (du λi=>?_);unfold vg;rw[cG,ao,ao,cG,<- ef];cases t[i]? with
  |none=>rfl
  |some r=>
   show some (if (i:Int)=(d:Int) then PV.ints first else PV.ints (Aq p r first ((a:Int)).toNat))=some (PV.ints (if i=d then first else Aq p r first a))
   by_cases c:i=d
   ·rw[af c,af (by lia)]
   ·rw[ae c,ae (by lia),aA]
theorem oF (T:Top K mg cNO cK cR):Ok P w K mg base 4 "cleared_beside_units" ["kind","rows","width"] (yu K (pX cR) (λas=>∃p rows,∃wd:Nat,as=[.ob 0 p,jt rows,.int (wd:Int)]/\jN p/\rows.length<=100/\wd<=100/\∀i,i<rows.length->(rows.getD i []).length=wd) λas=>match as with
  |[.ob 0 p,.lst ps,.int wd]=>jt (nG p (lO p) (ps.map j8) wd.toNat)
  |_=>.non):=by
 refine w5 T.sY jD (λas ⟨a,b,c,h,_⟩=>by rw[h];rfl) (λf cdv A outer s H E hr=>⟨_,(ji (mV (i:=3) jD.nd rfl (Or.inl rfl) (xc (CT T) hr (jh (lZ T.jM (xv 1)) jk)))
 (ji (K3 (i:=4) jD.nd rfl rfl (N':=["row","unit","kind"]) (cap:=[some 0]) (ph rfl rfl rfl rfl ⟨⟨rfl,.inr (.inl rfl),Dz,.inl rfl,_,rfl,rfl⟩,tJ⟩ ⟨rfl,tJ⟩ rfl) rfl (by rfl) T.Tn (nW (xv 1)) (nW (xv 3)) (λ_ _ _=>(pg_tup rfl (pgs_cons (pZ 0) (pgs_cons (pZ 1) pgs_nil)))) (λ_ _ _=>(jY (tW (wU T) hr (jh (xv 2) (jh (jY (yg (xl 0) (xl 1))) jk))))) rfl)
 (ji (jA (i:=5) jD.nd rfl (Or.inl rfl) jj)
 (ji (pR (k:=6) aE rfl (by rfl) T.oV (xn 2) jD.nd rfl (Or.inl rfl)
 (ji (mV (i:=7) jD.nd rfl (Or.inl rfl) (xc (uZ T) hr (jh (xv 4) (jh (xn 6) (jh (xn 5) jk)))))
 (jm (lJ (Wa (xv 7))
 (ji (mV (i:=4) jD.nd rfl (Or.inl rfl) (xc (sU T) hr (jh (xv 0) (jh (xc (xM T) hr (jh (xv 4) (jh (xv 7) (jh (xn 5) jk)))) (jh (xn 6) (jh (xn 5) jk))))))
 (jm (zE (i:=5) jD.nd rfl (Or.inl rfl) jj ul)))
 kj))))
 (jm (jx (xv 4))))))),λas hp=>?_⟩)
 obtain⟨p,rows,wd,rfl,hp,hn,hw,hrow⟩:=hp;have p2:2<=p:=hp.1;have el:(rows.map PV.ints).length=rows.length:=aa _;refine⟨⟨⟨⟨rfl,tJ⟩,tJ⟩,rows.length,by show[PV.int ((rows.map PV.ints).length:Int)]=_;rw[el],by lia⟩,λus eus=>?_⟩;have eus:us=jt (J3 (((rows.map PV.ints).length:Int)).toNat):=eus;rw[el,aA]at eus;subst eus;refine jJ (Z':=[.fr (.ob 0 p),.fr (jt rows),.fr (.int (wd:Int)),.fr (jt (J3 rows.length)),.un,.un,.un,.un]) rfl ?_;refine⟨⟨⟨⟨rfl,rfl⟩,⟨rfl,rfl⟩⟩,by show(rows.map PV.ints).length<=1000;lia,λq r hqr=>?_⟩,λt0 et0=>?_⟩
 ·obtain⟨a,ha,rfl⟩:=aR.mp (c7 hqr).1;obtain⟨b,hb,rfl⟩:=aR.mp (c7 hqr).2;have la:a.length=wd:=by obtain⟨i,hi,rfl⟩:=bY.mp ha;rw[<- rD hi];exact hrow i hi
  have lb:b.length=rows.length:=by obtain⟨i,_,rfl⟩:=aR.mp hb;exact Eg _ _
  refine⟨⟨rfl,⟨rfl,rfl,?_⟩,tJ⟩,p,a++b,rfl,?_⟩
  ·exact bK (small1000 (by show a.length+b.length<=1000;lia))
  ·rw[ah];lia
 have et0:t0=(oJ p rows).map PV.ints:=et0.trans (by
  show List.map _ ((rows.map PV.ints).zip ((J3 rows.length).map PV.ints))=_;have e:(oJ p rows).map PV.ints=(rows.zip (J3 rows.length)).map λq=>PV.ints ((q.1++q.2).map (pl p)):=by unfold oJ;rw[List.zip,g9,g9]
  rw[e,List.zip_map,bx];exact bT λ⟨a,b⟩ _=>rfl)
 subst et0;refine⟨tJ,λd0 ed0=>?_⟩;subst ed0;refine jJ (Z':=[.fr (.ob 0 p),.fr (jt rows),.fr (.int (wd:Int)),.fr (jt (J3 rows.length)),.fr (jt (oJ p rows)),.fr (.int 0),.un,.un]) rfl ?_;have I:=EI.all (iv:=lO p) (m:=wd+rows.length) p2 (λx h0 h1=>(Bo hp x h0 h1).2) (Bh p rows) (λi hi=>by rw[zP hi,aa,ah,hrow i hi,Eg]) (λi j=>JF);refine⟨rfl,⟨by show -(2:Int)^62<=(wd:Int);lia,by show(wd:Int)<2^62;lia⟩,λi Z=>∃v6 v7,Z=[.fr (.ob 0 p),.fr (jt rows),.fr (.int (wd:Int)),.fr (jt (J3 rows.length)),.fr (jt (Mw p (lO p) (oJ p rows) i).1),.fr (.int ((Mw p (lO p) (oJ p rows) i).2:Int)),v6,v7],⟨.un,.un,rfl⟩,?_,?_⟩
 ·rintro i Z hi ⟨v6,v7,rfl⟩;have hi:i<((wd:Int)).toNat:=hi;have hi:i<wd:=by lia
  have Ii:=I i (by lia);generalize hs:Mw p (lO p) (oJ p rows) i=st at Ii ⊢;obtain⟨t,d⟩:=st;have Ii:EI p rows.length (wd+rows.length) (oJ p rows) i t d:=Ii;have en:Mw p (lO p) (oJ p rows) (i+1)=UJ p (lO p) i (t,d):=by show UJ p (lO p) i (Mw p (lO p) (oJ p rows) i)=_;rw[hs]
  have tl:=Ii.len;have dn:=Ii.dn;have tr:=Ii.row;refine⟨⟨⟨rfl,rfl,rfl,tJ⟩,t,i,d,rfl,by lia,by lia,λj hj=>by rw[tr j (by lia)];lia⟩,λfo efo=>?_⟩;have efo:fo=V6 ((t.map PV.ints).map j8) ((i:Int)).toNat ((d:Int)).toNat:=efo;rw[mY,aA,aA]at efo;unfold V6 at efo;cases hf:Kl t i d with
  |none=>
   rw[hf]at efo;have efo:fo=.non:=efo;subst efo;refine⟨⟨rfl,tJ⟩,λq=>absurd rfl q,λ_=>?_⟩;have e2:UJ p (lO p) i (t,d)=(t,d):=by
    unfold UJ;show(match Kl t i d with|none=>(t,d)|some f=>_)=_
    rw[hf]
   refine⟨.fr (.int (i:Int)),.fr .non,?_⟩;rw[en,e2];rfl
  |some f=>
   rw[hf]at efo;have efo:fo=.int (f:Int):=efo;subst efo;obtain⟨f1,f2,f3⟩:=wA hf;have e2:UJ p (lO p) i (t,d)=(XJ p (lO p) (qp t f d) i d,d+1):=by
    unfold UJ;show(match Kl t i d with|none=>(t,d)|some f=>_)=_
    rw[hf]
   refine⟨⟨rfl,tJ⟩,λ_=>?_,λq=>absurd (λz=>by cases z) q⟩;have ml:(qp t f d).length=t.length:=JH f1 f2;have me:∀j k,j<t.length->ent (qp t f d) j k=ent t (zG f d j) k:=λj k hj=>Ma f1 f2 hj;have sd:zG f d d=f:=by unfold zG;rw[ae (by lia),af rfl]
   have emv:jt (qp ((t.map PV.ints).map j8) ((f:Int)).toNat ((d:Int)).toNat)=jt (qp t f d):=by rw[mY,aA,aA]
   refine⟨⟨⟨rfl,⟨⟨rfl,rfl,rfl,tJ⟩,t,f,d,rfl,by lia,f1,f2⟩,rfl,rfl,tJ⟩,p,qp t f d,i,d,wd+rows.length,?_,hp,by lia,by lia,by lia,by lia,λj hj=>?_,λj k=>?_,?_⟩,λt2 et2=>?_⟩
   ·show[PV.ob 0 p,jt (qp ((t.map PV.ints).map j8) ((f:Int)).toNat ((d:Int)).toNat),.int (i:Int),.int (d:Int)]=_;rw[emv]
   ·rw[zq f1 f2 (by lia)];exact tr _ (by have:=GK (i:=j) f1 f2 (by lia);lia)
   ·by_cases c:j<t.length
    ·rw[me j k c];exact Ii.red _ _
    ·rw[oO (by lia),lW]
   ·rw[me d i (by lia),sd];exact f3
   have et2:t2=jt (XJ p (lO p) (((qp ((t.map PV.ints).map j8) ((f:Int)).toNat ((d:Int)).toNat).map PV.ints).map j8) ((i:Int)).toNat ((d:Int)).toNat):=et2;rw[mY,mY,aA,aA,aA]at et2;subst et2;refine⟨rfl,tJ,tJ,λd2 ed2=>?_⟩;have ed2:d2=(d:Int)+1:=ed2;subst ed2;refine⟨.fr (.int (i:Int)),.fr (.int (f:Int)),?_⟩;rw[en,e2];rfl
 ·rintro Z ⟨v6,v7,rfl⟩;refine⟨rfl,?_⟩;show jt (Mw p (lO p) (oJ p rows) ((wd:Int)).toNat).1=jt (nG p (lO p) ((rows.map PV.ints).map j8) ((wd:Int)).toNat);rw[mY,aA];rfl
def jK (rows:Tab):Nat:=(rows.getD 0 []).length
theorem K7 (T:Top K mg cNO cK cR):Ok P w K mg base 5 "echelon" ["kind","rows"] (yu K (pX cR) (λas=>∃p rows,as=[.ob 0 p,jt rows]/\jN p/\rows.length<=100/\jK rows<=100/\∀i,i<rows.length->(rows.getD i []).length=jK rows) λas=>match as with
  |[.ob 0 p,.lst ps]=>.tup [jt (mW p (lO p) (ps.map j8) (jK (ps.map j8))),jt (turnT p (lO p) (ps.map j8) (jK (ps.map j8))),jt (o6 p (lO p) (ps.map j8) (jK (ps.map j8)))]
  |_=>.non):=by
 refine w5 T.PN qK (λas ⟨a,b,h,_⟩=>by rw[h];rfl) (λf cdv A outer s H E hr=>⟨_,(ji (mV (i:=2) qK.nd rfl (Or.inr rfl) (Uk (aaH (nW (xv 1))) (lZ T.jM (xl_of (ju (xv 1) jj (λ_ _=>rfl)))) jj))
 (ji (mV (i:=3) qK.nd rfl (Or.inl rfl) (xc (oF T) hr (jh (xv 0) (jh (xv 1) (jh (xn 2) jk)))))
 (ji (Dm (i:=4) qK.nd rfl rfl (N':=["row","width"]) (cap:=[some 2]) (ph rfl rfl rfl rfl ⟨⟨rfl,.inr (.inl rfl),Dz,.inl rfl,_,rfl,rfl⟩,tJ⟩ ⟨rfl,tJ⟩ rfl) rfl (nW (xv 3)) (λ_ _ _=>(pZ 0)) (λ_ _ _=>(jY (rK (xl 0) (lU (xn 1)) pL (λ_ _=>.inl rfl)))) rfl)
 (ji (Dm (i:=5) qK.nd rfl rfl (N':=["row","rows"]) (cap:=[some 1]) (ph rfl rfl rfl rfl ⟨⟨rfl,.inr (.inl rfl),Dz,.inl rfl,_,rfl,rfl⟩,tJ⟩ ⟨rfl,tJ⟩ rfl) rfl (nW (xc (oF T) hr (jh (xv 0) (jh (xv 4) (jh (lZ T.jM (xv 1)) jk))))) (λ_ _ _=>(pZ 0)) (λ_ _ _=>(jY (rK (xl 0) (lU (lZ T.jM (xv 1))) pL (λ_ _=>.inl rfl)))) rfl)
 (jm (jx (qH (jh (tQ (Yy (N':=["row","width"]) (cap:=[some 2]) (ph rfl rfl rfl rfl ⟨⟨rfl,.inr (.inl rfl),Dz,.inl rfl,_,rfl,rfl⟩,tJ⟩ ⟨rfl,tJ⟩ rfl) rfl (nW (xv 3)) (λ_ _ _=>(pZ 0)) (λ_ _ _=>(jY (rK (xl 0) pL (lU (xn 1)) (λ_ _=>.inl rfl)))))) (jh (xv 4) (jh (xv 5) jk)))))))))),λas hp=>?_⟩)
 obtain⟨p,rows,rfl,hp,hn,hw,hrow⟩:=hp;have p2:2<=p:=hp.1;have el:(rows.map PV.ints).length=rows.length:=aa _;have hiv:∀x,0<x->x<p->p ∣ lO p x*x-1:=λx h0 h1=>(Bo hp x h0 h1).2;have c1:=Cj (iv:=lO p) (w:=jK rows) p2 hiv rfl hrow;have tT:WM p rows.length rows.length (turnT p (lO p) rows (jK rows)):=c1.right;have c2:=Cj (iv:=lO p) (rows:=turnT p (lO p) rows (jK rows)) p2 hiv tT.len tT.row;have ne0:¬rows.map PV.ints=[]->0<rows.length:=λq=>by
  cases rows with
  |nil=>exact absurd rfl q
  |cons a r=>exact dw _
 refine⟨⟨⟨rfl,rfl⟩,λq=>⟨⟨⟨rfl,tJ,yq (i:=0) (ne0 q)⟩,xR (i:=0) (ne0 q)⟩,tJ⟩,λ_=>tJ⟩,λwd ewd=>?_⟩;have ewd:wd=if ¬rows.map PV.ints=[] then PV.int ((j8 (jV (jt rows) 0)).length:Int) else .int 0:=ewd;have ewd:wd=.int (jK rows:Int):=by
  rw[ewd];split
  ·rename_i q;have:=Bc (i:=0) (ne0 q);rw[show(0:Int)=((0:Nat):Int) from rfl,this];rfl
  ·rename_i q;cases rows with
   |nil=>rfl
   |cons a r=>exact absurd (λz=>by cases z) q
 subst ewd;refine jJ (Z':=[.fr (.ob 0 p),.fr (jt rows),.fr (.int (jK rows:Int)),.un,.un,.un]) rfl ?_;refine⟨⟨⟨rfl,rfl,rfl,tJ⟩,p,rows,jK rows,rfl,hp,hn,hw,hrow⟩,λwi ewi=>?_⟩;have ewi:wi=jt (nG p (lO p) ((rows.map PV.ints).map j8) ((jK rows:Int)).toNat):=ewi;rw[mY,aA]at ewi;subst ewi;have wl:(nG p (lO p) rows (jK rows)).length=rows.length:=c1.len;refine jJ (Z':=[.fr (.ob 0 p),.fr (jt rows),.fr (.int (jK rows:Int)),.fr (jt (nG p (lO p) rows (jK rows))),.un,.un]) rfl ?_;refine⟨⟨⟨rfl,rfl⟩,?_,λq hq=>?_⟩,λtu etu=>?_⟩
 ·show((nG p (lO p) rows (jK rows)).map PV.ints).length<=1000;rw[aa];lia
 ·obtain⟨r,_,rfl⟩:=aR.mp hq;exact⟨rfl,rfl,tJ⟩
 have etu:tu=(turnT p (lO p) rows (jK rows)).map PV.ints:=etu.trans (by
  show List.map _ ((nG p (lO p) rows (jK rows)).map PV.ints)=_;rw[bx];unfold turnT pJ;rw[bx];refine bT λr _=>?_;show PV.ints (rM r (some (jK rows:Int)) none)=PV.ints (r.drop (jK rows));rw[uT])
 subst etu;refine jJ (Z':=[.fr (.ob 0 p),.fr (jt rows),.fr (.int (jK rows:Int)),.fr (jt (nG p (lO p) rows (jK rows))),.fr (jt (turnT p (lO p) rows (jK rows))),.un]) rfl ?_;have ebb:jt (nG p (lO p) (((turnT p (lO p) rows (jK rows)).map PV.ints).map j8) (((rows.map PV.ints).length:Int)).toNat)=jt (nG p (lO p) (turnT p (lO p) rows (jK rows)) rows.length):=by rw[mY,aA,el]
 have el2:(nG p (lO p) (((turnT p (lO p) rows (jK rows)).map PV.ints).map j8) (((rows.map PV.ints).length:Int)).toNat)=nG p (lO p) (turnT p (lO p) rows (jK rows)) rows.length:=by rw[mY,aA,el]
 refine⟨⟨⟨⟨⟨rfl,rfl,⟨rfl,tJ⟩,tJ⟩,p,turnT p (lO p) rows (jK rows),rows.length,?_,hp,by rw[tT.len];exact hn,hn,by rw[tT.len];exact tT.row⟩,rfl⟩,?_,λq hq=>?_⟩,λba eba=>?_⟩
 ·show[PV.ob 0 p,jt (turnT p (lO p) rows (jK rows)),.int ((rows.map PV.ints).length:Int)]=_;rw[el]
 ·show((nG p (lO p) (((turnT p (lO p) rows (jK rows)).map PV.ints).map j8) (((rows.map PV.ints).length:Int)).toNat).map PV.ints).length<=1000;rw[el2,aa,c2.len];lia
 ·have hq:q∈(nG p (lO p) (((turnT p (lO p) rows (jK rows)).map PV.ints).map j8) (((rows.map PV.ints).length:Int)).toNat).map PV.ints:=hq;obtain⟨r,_,rfl⟩:=aR.mp hq;exact⟨rfl,⟨rfl,tJ⟩,tJ⟩
 have eba:ba=(o6 p (lO p) rows (jK rows)).map PV.ints:=eba.trans (by
  show List.map _ ((nG p (lO p) (((turnT p (lO p) rows (jK rows)).map PV.ints).map j8) (((rows.map PV.ints).length:Int)).toNat).map PV.ints)=_;rw[el2,bx];unfold o6 pJ;rw[bx];refine bT λr _=>?_;show PV.ints (rM r (some ((rows.map PV.ints).length:Int)) none)=PV.ints (r.drop rows.length);rw[el,uT])
 subst eba;refine jJ (Z':=[.fr (.ob 0 p),.fr (jt rows),.fr (.int (jK rows:Int)),.fr (jt (nG p (lO p) rows (jK rows))),.fr (jt (turnT p (lO p) rows (jK rows))),.fr (jt (o6 p (lO p) rows (jK rows)))]) rfl ?_;refine⟨⟨⟨⟨rfl,rfl⟩,?_,λq hq=>?_⟩,rfl,rfl,tJ⟩,?_⟩
 ·show((nG p (lO p) rows (jK rows)).map PV.ints).length<=1000;rw[aa];lia
 ·have hq:q∈(nG p (lO p) rows (jK rows)).map PV.ints:=hq;obtain⟨r,_,rfl⟩:=aR.mp hq;exact⟨rfl,tJ,rfl⟩
 ·have e:∀F:PV->PV,(∀r:List Int,F (.ints r)=.ints (r.take (jK rows)))->((nG p (lO p) rows (jK rows)).map PV.ints).map F=(mW p (lO p) rows (jK rows)).map PV.ints:=λF hF=>by rw[bx];unfold mW qj;rw[bx];exact bT λr _=>hF r
  have fin:PV.tup [jt (mW p (lO p) ((rows.map PV.ints).map j8) (jK ((rows.map PV.ints).map j8))),jt (turnT p (lO p) ((rows.map PV.ints).map j8) (jK ((rows.map PV.ints).map j8))),jt (o6 p (lO p) ((rows.map PV.ints).map j8) (jK ((rows.map PV.ints).map j8)))]=PV.tup [.lst ((mW p (lO p) rows (jK rows)).map PV.ints),jt (turnT p (lO p) rows (jK rows)),jt (o6 p (lO p) rows (jK rows))]:=by rw[mY];rfl
  show PV.tup [.lst (((nG p (lO p) rows (jK rows)).map PV.ints).map _),jt (turnT p (lO p) rows (jK rows)),jt (o6 p (lO p) rows (jK rows))]=_;refine jg ?_ fin.symm;rw[e _ λr=>?_];show PV.ints (rM r none (some (jK rows:Int)))=PV.ints (r.take (jK rows));rw[Lj]
def zf (F T:Tab):Tab:=((F.zip T).filter λq=>decide (q.1=List.replicate q.1.length 0)).map λq=>q.2
theorem By {pr:List Int->Bool}:∀{F T:Tab} {d:Nat},F.length=T.length->(∀i (h:i<F.length),pr F[i]=decide (d<=i))->((F.zip T).filter λq=>pr q.1).map (λq=>q.2)=T.drop d
 |[],T,d,h,_=>by have:T=[]:=dA.mp h.symm;rw[this,List.drop_nil];rfl
 |a::F,[],d,h,_=>by cases h
 |a::F,b::T,d,h,k=>by
  have h':F.length=T.length:=Nat.succ.inj h;have k0:=k 0 (dw _);have k0:pr a=decide (d<=0):=k0;have kS:∀i (h:i<F.length),pr F[i]=decide (d<=i+1):=λi hi=>k (i+1) (Nat.succ_lt_succ hi);rw[dh,List.filter_cons];cases d with
  |zero=>rw[af (by show pr a=true;rw[k0];rfl),aX,By (d:=0) h' λi hi=>by rw[kS i hi];rfl];rfl
  |succ d=>rw[ae (by show ¬pr a=true;rw[k0,aJ (by lia)];decide),By (d:=d) h' λi hi=>by rw[kS i hi];exact decide_eq_decide.mpr (by lia)];rfl
theorem Vu (hS:Uh n m F d v)(hF:F.length=n)(hrow:∀i,i<n->(F.getD i []).length=m)(hT:T.length=n):zf F T=T.drop d:=by
 unfold zf;refine By (pr:=λr=>decide (r=List.replicate r.length 0)) (F:=F) (T:=T) (by lia) λi hi=>?_;have e:=rD hi;have hl:F[i].length=m:=by rw[<- e];exact hrow i (by lia)
 by_cases c:d<=i
 ·rw[aL c];refine aL ?_;refine cj (by rw[aN]) λj h1 h2=>?_;rw[cI];have:=hS.low i j c (by lia) (by lia);unfold ent at this;rw[e,jB h1]at this;exact this
 ·rw[aJ c];refine aJ λz=>?_;have:=hS.one i (by lia);unfold ent at this;rw[e,z,jB (by rw[aN,hl];exact hS.lt i (by lia)),cI]at this;exact absurd this (by decide)
theorem Dh (T:Top K mg cNO cK cR):Ok P w K mg base 6 "kernel" ["kind","rows"] (yu K (pX cR) (λas=>∃p rows,as=[.ob 0 p,jt rows]/\jN p/\rows.length<=100/\jK rows<=100/\∀i,i<rows.length->(rows.getD i []).length=jK rows) λas=>match as with
  |[.ob 0 p,.lst ps]=>jt (zf (mW p (lO p) (ps.map j8) (jK (ps.map j8))) (turnT p (lO p) (ps.map j8) (jK (ps.map j8))))
  |_=>.non):=by
 refine w5 T.T5 Dy (λas ⟨a,b,h,_⟩=>by rw[h];rfl) (λf cdv A outer s H E hr=>⟨_,(ji (mV (i:=2) Dy.nd rfl (Or.inl rfl) (xc (K7 T) hr (jh (xv 0) (jh (xv 1) jk))))
 (jm (jx (tQ (RX (N':=["row","turning"]) (cap:=[]) (ph rfl rfl rfl rfl tJ tJ rfl) rfl (by rfl) T.Tn (nW (ju (xv 2) jj (λ_ _=>rfl))) (nW (ju (xv 2) jj (λ_ _=>rfl))) (λ_ _ _=>(pg_tup rfl (pgs_cons (pZ 0) (pgs_cons (pZ 1) pgs_nil)))) (λ_ _ _=>(Tq hr.units (ZJ (xl 0)) (ZJ (jY (vO (m7 (jh jj jk)) (jU 0 T.jM) (λ_=>rfl)))))) (λ_ _ _=>(xl 1))))))),λas hp=>?_⟩)
 obtain⟨p,rows,rfl,hp,hn,hw,hrow⟩:=hp;have p2:2<=p:=hp.1;refine⟨⟨⟨rfl,rfl,tJ⟩,p,rows,rfl,hp,hn,hw,hrow⟩,λtold e=>?_⟩;have e:told=.tup [jt (mW p (lO p) ((rows.map PV.ints).map j8) (jK ((rows.map PV.ints).map j8))),jt (turnT p (lO p) ((rows.map PV.ints).map j8) (jK ((rows.map PV.ints).map j8))),jt (o6 p (lO p) ((rows.map PV.ints).map j8) (jK ((rows.map PV.ints).map j8)))]:=e;rw[mY]at e;obtain⟨tF,tT,tB,_,_,_,_⟩:=Qw (iv:=lO p) p2 (λx h0 h1=>(Bo hp x h0 h1).2) rfl hrow;have fin:jt (zf (mW p (lO p) ((rows.map PV.ints).map j8) (jK ((rows.map PV.ints).map j8))) (turnT p (lO p) ((rows.map PV.ints).map j8) (jK ((rows.map PV.ints).map j8))))=.lst ((zf (mW p (lO p) rows (jK rows)) (turnT p (lO p) rows (jK rows))).map PV.ints):=by rw[mY];rfl
 generalize mW p (lO p) rows (jK rows)=fm at *
 generalize turnT p (lO p) rows (jK rows)=tu at *
 generalize o6 p (lO p) rows (jK rows)=ba at *
 subst e;have fl:=tF.len;refine jJ (Z':=[.fr (.ob 0 p),.fr (jt rows),.fr (.tup [jt fm,jt tu,jt ba])]) rfl ?_;refine⟨⟨⟨⟨⟨rfl,tJ,by show -(3:Int)<=0/\(0:Int)<3;decide⟩,rfl⟩,⟨⟨rfl,tJ,by show -(3:Int)<=1/\(1:Int)<3;decide⟩,rfl⟩⟩,by show(fm.map PV.ints).length<=1000;rw[aa];lia,λq r hqr=>?_⟩,?_⟩
 ·obtain⟨a,ha,rfl⟩:=aR.mp (c7 hqr).1;obtain⟨b,_,rfl⟩:=aR.mp (c7 hqr).2;have la:a.length=jK rows:=by obtain⟨i,hi,rfl⟩:=bY.mp ha;rw[<- rD hi];exact tF.row i (by lia)
  exact⟨⟨rfl,⟨⟨⟨tJ,tJ⟩,tJ⟩,.inl rfl,by show -(2:Int)^63<=(a.length:Int);lia,by show((a.length:Int)).toNat<=1000;lia⟩⟩,λ_=>rfl⟩
 ·have key:∀(pr:PV×PV->Bool) (g:PV×PV->PV),(∀a b:List Int,pr (.ints a,.ints b)=decide (a=List.replicate a.length 0))->(∀a b:List Int,g (.ints a,.ints b)=.ints b)->(((fm.map PV.ints).zip (tu.map PV.ints)).filter pr).map g=(zf fm tu).map PV.ints:=λpr g h1 h2=>by
   unfold zf;rw[List.zip_map,iq,bx,bx];have e1:(λq:List Int×List Int=>decide (q.1=List.replicate q.1.length 0))=pr ∘ Prod.map PV.ints PV.ints:=by funext ⟨a,b⟩;exact(h1 a b).symm
   rw[e1];exact bT λ⟨a,b⟩ _=>h2 a b
  show PV.lst (List.map _ (List.filter _ ((fm.map PV.ints).zip (tu.map PV.ints))))=_;refine jg ?_ fin.symm;rw[key _ _ (λa b=>?_) λa b=>rfl];exact decide_eq_decide.mpr Iff.rfl
theorem Ah (f:Nat->Int)(a:Nat):∀b,sm (a+b) f=sm a f+sm b λi=>f (a+i)
 |0=>(bH _).symm
 |b+1=>by show sm (a+b) f+f (a+b)=_+(sm b (λi=>f (a+i))+f (a+b));rw[Ah f a b,Int.add_assoc]
structure yQ (p:Int)(N W:Nat)(rows t:Tab):Prop where
 len:∀y∈t,y.length=N
 red:∀y∈t,∀j,pl p (y.getD j 0)=y.getD j 0
 nul:∀y∈t,∀j,j<W->p ∣ sm N λk=>y.getD k 0*ent rows k j
 span:∀z:Nat->Int,(∀j,j<W->p ∣ sm N λk=>z k*ent rows k j)->∃c:Nat->Int,∀k,k<N->p ∣ z k-sm t.length λi=>c i*(t.getD i []).getD k 0
 le:t.length<=N
theorem Nj {a b t:Tab}{n l w:Nat}(hp:0<p)(ha:a.length=n)(hl:∀i,i<n->(a.getD i []).length=l)(h:uq p a b w=t):Al p n w (mm l (ent a) (ent b)) (ent t):=λi j hi hj=>by rw[<- h,Ju (by lia) (hl i hi) hj];exact⟨mm l (ent a) (ent b) i j / p,by have:=dU (mm l (ent a) (ent b) i j) p;lia⟩
theorem XS (hp:2<=p)(hiv:∀x,0<x->x<p->p ∣ iv x*x-1)(hn:rows.length=N)(hw:∀i,i<N->(rows.getD i []).length=W):yQ p N W rows (zf (mW p iv rows W) (turnT p iv rows W)):=by
 obtain⟨tF,tT,tB,e1,⟨d,v,S⟩,_,e3⟩:=Qw (iv:=iv) hp hiv hn hw;have p0:0<p:=by lia
 have m1:=Nj p0 tT.len tT.row e1;have m3:=Nj p0 tB.len tB.row e3;rw[Vu S tF.len tF.row tT.len];generalize mW p iv rows W=F at *
 generalize turnT p iv rows W=T at *
 generalize o6 p iv rows W=B at *
 have dn:=S.dn;have tl:=tT.len;have at':∀i,i<N-d->(T.drop d).getD i []=T.getD (d+i) []:=λi hi=>by rw[gQ,dI,<- gQ]
 have mem:∀y∈T.drop d,∃i,d<=i/\i<N/\y=T.getD i []:=λy hy=>by obtain⟨i,hi,rfl⟩:=bY.mp hy;rw[aY]at hi;refine⟨d+i,by lia,by lia,?_⟩;rw[List.getElem_drop,rD]
 have ld:(T.drop d).length=N-d:=by rw[aY,tl]
 refine⟨λy hy=>?_,λy hy j=>?_,λy hy j hj=>?_,λz hz=>?_,by lia⟩
 ·obtain⟨i,_,h2,rfl⟩:=mem y hy;exact tT.row i h2
 ·obtain⟨i,_,h2,rfl⟩:=mem y hy;exact tT.red i j
 ·obtain⟨i,h1,h2,rfl⟩:=mem y hy;have:=m1 i j h2 hj;rw[S.low i j h1 h2 hj,aQ]at this;exact this
 ·have w1:∀k,k<N->p ∣ z k-sm N λi=>(sm N λm=>z m*ent B m i)*ent T i k:=λk hk=>by
   have a:sm N (λi=>(sm N λm=>z m*ent B m i)*ent T i k)=sm N λm=>z m*mm N (ent B) (ent T) m k:=by
    have b:sm N (λi=>(sm N λm=>z m*ent B m i)*ent T i k)=sm N λi=>sm N λm=>z m*(ent B m i*ent T i k):=jw λi _=>by rw[<- zL];exact jw λm _=>by rw[bG]
    rw[b,xG];refine jw λm _=>?_;rw[n8];rfl
   have b:sm N (λm=>z m*ent (u5 N) m k)=z k:=by rw[qU (k:=k) hk λm hm hne=>by rw[wM hm hk];unfold pD;rw[ae hne,aT],wM hk hk];unfold pD;rw[af rfl,bM]
   rw[a];have c:p ∣ sm N λm=>z m*(mm N (ent B) (ent T) m k-ent (u5 N) m k):=nO λm hm=>aK (m3 m k hm hk);have e:(sm N λm=>z m*(mm N (ent B) (ent T) m k-ent (u5 N) m k))+(sm N λm=>z m*ent (u5 N) m k)=sm N λm=>z m*mm N (ent B) (ent T) m k:=by rw[<- sZ];exact jw λm _=>by rw[<- fW,dJ]
   rw[<- e,b];have:=bq.mpr c;have e2:∀x y:Int,x-(y+x) = -y:=λx y=>by lia
   rw[e2];exact this
  have w2:∀i,i<d->p ∣ sm N λm=>z m*ent B m i:=λi hi=>by
   have vj:=S.lt i hi;have a:p ∣ sm N λr=>(sm N λm=>z m*ent B m r)*ent F r (v i):=by
    have b:p ∣ sm N λr=>(sm N λm=>z m*ent B m r)*(mm N (ent T) (ent rows) r (v i)-ent F r (v i)):=nO λr hr=>aK (m1 r (v i) hr vj);have c:p ∣ sm N λr=>(sm N λm=>z m*ent B m r)*mm N (ent T) (ent rows) r (v i):=by
     have e:(sm N λr=>(sm N λm=>z m*ent B m r)*mm N (ent T) (ent rows) r (v i))=sm N λk=>(sm N λr=>(sm N λm=>z m*ent B m r)*ent T r k)*ent rows k (v i):=by
      have e1:(sm N λr=>(sm N λm=>z m*ent B m r)*mm N (ent T) (ent rows) r (v i))=sm N λr=>sm N λk=>(sm N λm=>z m*ent B m r)*ent T r k*ent rows k (v i):=jw λr _=>by unfold mm;rw[<- n8];exact jw λk _=>by rw[bG]
      rw[e1,xG];exact jw λk _=>by rw[zL]
     rw[e];have f:p ∣ sm N λk=>(z k-sm N λr=>(sm N λm=>z m*ent B m r)*ent T r k)*ent rows k (v i):=nO λk hk=>aZ (w1 k hk);have g:=dR (hz (v i) vj) f;rw[<- wj]at g;have e2:(sm N λk=>z k*ent rows k (v i)-(z k-sm N λr=>(sm N λm=>z m*ent B m r)*ent T r k)*ent rows k (v i))=sm N λk=>(sm N λr=>(sm N λm=>z m*ent B m r)*ent T r k)*ent rows k (v i):=jw λk _=>by rw[<- fg];congr 1;lia
     rw[e2]at g;exact g
    have g:=dR c b;rw[<- wj]at g;have e:(sm N λr=>(sm N λm=>z m*ent B m r)*mm N (ent T) (ent rows) r (v i)-(sm N λm=>z m*ent B m r)*(mm N (ent T) (ent rows) r (v i)-ent F r (v i)))=sm N λr=>(sm N λm=>z m*ent B m r)*ent F r (v i):=jw λr _=>by rw[<- ck];congr 1;lia
    rw[e]at g;exact g
   rw[qU (k:=i) (by lia) λr hr hne=>by rw[S.alone i r hi hr hne,aT],S.one i hi,bM]at a;exact a
  refine⟨λi=>sm N λm=>z m*ent B m (d+i),λk hk=>?_⟩;have e:sm N (λi=>(sm N λm=>z m*ent B m i)*ent T i k)=sm d (λi=>(sm N λm=>z m*ent B m i)*ent T i k)+sm (N-d) λi=>(sm N λm=>z m*ent B m (d+i))*ent T (d+i) k:=by rw[<- Ah,show d+(N-d)=N by lia]
  have a:=w1 k hk;rw[e]at a;have b:p ∣ sm d λi=>(sm N λm=>z m*ent B m i)*ent T i k:=nO λi hi=>aZ (w2 i hi);have c:=bD a b;have e2:∀x y w:Int,x-(y+w)+y=x-w:=λx y w=>by lia
  rw[e2]at c;rw[ld];have e3:(sm (N-d) λi=>(sm N λm=>z m*ent B m (d+i))*((T.drop d).getD i []).getD k 0)=sm (N-d) λi=>(sm N λm=>z m*ent B m (d+i))*ent T (d+i) k:=jw λi hi=>by rw[at' i hi];rfl
  rw[e3];exact c
theorem yQ.ne {N W:Nat}{rows t:Tab}(K:yQ p N W rows t){z:Nat->Int}(hz:∀j,j<W->p ∣ sm N λk=>z k*ent rows k j){i:Nat}(hi:i<N)(nd:¬p ∣ z i):0<t.length:=by refine Nat.pos_of_ne_zero λe=>?_;obtain⟨c,h⟩:=K.span z hz;have:=h i hi;rw[e]at this;have e2:(sm 0 λi_1=>c i_1*(t.getD i_1 []).getD i 0)=0:=rfl;rw[e2,aQ]at this;exact nd this
def pP (p:Int)(t:Tab):Tab:=t.mapIdx λat' row=>row.set at' (pl p (row.getD at' 0-1))
theorem Iu (p:Int)(t:Tab):(pP p t).length=t.length:=by unfold pP;rw[di]
theorem NT (hi:i<t.length):(pP p t).getD i []=(t.getD i []).set i (pl p ((t.getD i []).getD i 0-1)):=by unfold pP;rw[gQ,cG,ac hi,gQ,ac hi];rfl
def qT (p:Int)(b:List Int):Tab:=jP p b (rm p b (pw [0,1] p.toNat)) (b.length-1)
namespace Pl
variable {p:Int}
def Go (a b:Pl p):Prop:=∃u,b=u*a
theorem Go.refl (a:Pl p):Go a a:=⟨1,(one_mul a).symm⟩
theorem Go.trans {a b c:Pl p}(h:Go a b)(k:Go b c):Go a c:=by obtain⟨u,rfl⟩:=h;obtain⟨v,rfl⟩:=k;exact⟨v*u,by rw[mul_assoc]⟩
theorem Go.zero (a:Pl p):Go a 0:=⟨0,(zero_mul a).symm⟩
theorem Go.add {a b c:Pl p}(h:Go a b)(k:Go a c):Go a (b+c):=by obtain⟨u,rfl⟩:=h;obtain⟨v,rfl⟩:=k;exact⟨u+v,by grind⟩
theorem Go.sub {a b c:Pl p}(h:Go a b)(k:Go a c):Go a (b-c):=by obtain⟨u,rfl⟩:=h;obtain⟨v,rfl⟩:=k;exact⟨u-v,by grind⟩
theorem Go.mul (h:Go a b)(c:Pl p):Go a (c*b):=by obtain⟨u,rfl⟩:=h;exact⟨c*u,by rw[mul_assoc]⟩
theorem Go.Yq (h:Go a b)(c:Pl p):Go a (b*c):=by rw[mul_comm];exact h.mul c
theorem Go.pG {a b c:Pl p}(h:Go a b)(e:b=c):Go a c:=e ▸ h
theorem Go.cut {a b c:Pl p}(h:Go a (b*c))(k:nu a b):Go a c:=by obtain⟨u,e⟩:=h;obtain⟨s,t,e2⟩:=k;exact⟨s*c+t*u,by grind⟩
theorem Go.both {a b c:Pl p}(h:Go a c)(k:Go b c)(q:nu a b):Go (a*b) c:=by obtain⟨u,rfl⟩:=k;have:Go a (b*u):=h.pG (mul_comm _ _);obtain⟨v,e⟩:=this.cut q;exact⟨v,by rw[e,mul_assoc]⟩
theorem nu.aax {a b c:Pl p}(h:nu a c)(k:Go b c):nu a b:=by obtain⟨u,rfl⟩:=k;obtain⟨s,t,e⟩:=h;exact⟨s,t*u,by grind⟩
theorem zA (c d:Int):con p (c*d)=con p c*con p d:=by show con p (c*d)=con p c*mk p [d];rw[rG];refine ext λn=>?_;rw[jR];cases n<;>simp
theorem Fi (c d:Int):con p (c-d)=con p c-con p d:=by rw[Int.sub_eq_add_neg,zj,FN];rfl
theorem KD (h:p ∣ c-d):con p c=con p d:=by
 have:=Mp h;rw[Fi]at this;generalize con p c=x at *
 generalize con p d=y at *
 grind
theorem HB (hp:jN p)(x y:Pl p):(x+y)^p.toNat=x^p.toNat+y^p.toNat:=by obtain⟨a,rfl⟩:=rep x;obtain⟨b,rfl⟩:=rep y;rw[mO,<- uC,<- uC,<- uC,mO];obtain⟨Q,h⟩:=Rv hp [] a b;refine lH.mpr λn=>?_;have h:=h n;rw[jG Q [],lV,aQ]at h;exact h
theorem wZ (hp:jN p)(c:Int):con p c^p.toNat=con p c:=by
 have p2:=hp.1;have e0:con p c=con p (((c % p).toNat:Nat):Int):=KD (by
  rw[bJ (bE _ (by lia))];exact⟨c / p,by have:=dU c p;lia⟩)
 rw[e0];generalize (c % p).toNat=m;show mk p [(m:Int)]^p.toNat=mk p [(m:Int)];rw[<- uC];obtain⟨Q,h⟩:=pw_c hp [] m;refine lH.mpr λn=>?_;have h:=h n;rw[jG Q [],lV,aQ]at h;exact h
theorem Rh (hp:jN p)(x y:Pl p):(x-y)^p.toNat=x^p.toNat-y^p.toNat:=by
 have e:x=(x-y)+y:=by grind
 have h:=HB hp (x-y) y;rw[<- e]at h;rw[h];generalize (x-y)^p.toNat=a;generalize y^p.toNat=b;grind
def fx (x:Pl p):Pl p:=x^p.toNat-x
theorem Yt (hp:jN p)(x y:Pl p):fx (x-y)=fx x-fx y:=by unfold fx;rw[Rh hp];generalize x^p.toNat=a;generalize y^p.toNat=b;grind
theorem Yv (hp:jN p)(c:Int):fx (con p c)=0:=by unfold fx;rw[wZ hp];generalize con p c=a;grind
theorem W7 (hp:jN p)(c:Int)(x:Pl p):fx (con p c*x)=con p c*fx x:=by unfold fx;rw[mul_pow,wZ hp];generalize x^p.toNat=a;generalize con p c=b;grind
theorem Ub (hp:jN p){a x:Pl p}(h:Go a x):Go a (fx x):=by
 unfold fx;obtain⟨m,hm⟩:∃m,p.toNat=m+1:=⟨p.toNat-1,by have:=hp.1;lia⟩;have e:x^p.toNat-x=(x^m-1)*x:=by rw[hm];show x^m*x-x=_;generalize x^m=y;grind
 rw[e];exact h.mul _
theorem zY (hp:jN p)(x:Pl p)(c:Int):fx (x-con p c)=fx x:=by rw[Yt hp,Yv hp];generalize fx x=y;grind
theorem aaK (hp:jN p)(x:Pl p)(c:Int):Go (x-con p c) (fx x):=by rw[<- zY hp x c];exact Ub hp (Go.refl _)
theorem Q3 (e:x-y=con p c)(h:p ∣ t*c-1):nu x y:=by have k:=xK h;rw[<- e]at k;exact⟨con p t,-con p t,by generalize con p t=z at *;grind⟩
def PH (h:Pl p):Nat->Pl p
 |0=>1
 |n+1=>PH h n*(h-con p (n:Int))
theorem Uj (hp:jN p)(h:Pl p){m:Nat}(hm:(m:Int)<p):∀n,n<=m->nu (PH h n) (h-con p (m:Int))
 |0,_=>(nu.one _).symm
 |n+1,hn=>by
  refine(Uj hp h hm n (by lia)).mul ?_;have nd:¬p ∣ ((m:Int)-(n:Int)):=λz=>by have:=dB (by lia) z;lia
  obtain⟨t,ht⟩:=lK hp nd;refine Q3 (c:=(m:Int)-(n:Int)) ?_ ht;rw[Fi];generalize con p (m:Int)=a;generalize con p (n:Int)=b;grind
theorem Xq (hp:jN p)(h:Pl p):∀n:Nat,(n:Int)<=p->Go (PH h n) (fx h)
 |0,_=>⟨fx h,by show fx h=fx h*1;rw[mul_comm,one_mul]⟩
 |n+1,hn=>(Xq hp h n (by lia)).both (aaK hp h _) (Uj hp h (by lia) n (ai _))
theorem wk (p2:2<=p)(x y:Pl p)(n:Nat):(ls (x-y)).getD n 0=pl p ((ls x).getD n 0-(ls y).getD n 0):=by
 have e:x-y=mk p (jX (ls x) (zN (-1) (ls y))):=by rw[<- mO,<- yC,jL,jL];rfl
 rw[e,qi,lD,jz,jR,eX];rfl
theorem QK (p2:2<=p){x y:Pl p}(h:Mo x)(l:(ls y).length<(ls x).length):Mo (x-y)/\(ls (x-y)).length=(ls x).length:=by
 have top:(ls (x-y)).getD ((ls x).length-1) 0=1:=by rw[wk p2,jr (xs:=ls y) (by lia),aQ];have e:(ls x).getD ((ls x).length-1) 0=1:=h;rw[e,Vj p2]
 have le:(ls (x-y)).length<=(ls x).length:=m6 (j7 _).form λn hn=>by rw[wk p2,jr (by lia),jr (by lia),aQ,lW]
 have ge:(ls x).length-1<(ls (x-y)).length:=cS λc=>by rw[jr c]at top;exact absurd top (by decide)
 have:=h.pos;have e:(ls (x-y)).length=(ls x).length:=by lia
 refine⟨?_,e⟩;show(ls (x-y)).getD ((ls (x-y)).length-1) 0=1;rw[e];exact top
theorem vN (c:Int):(ls (con p c)).length<=1:=m8 p [c]
theorem Xy (p2:2<=p){h:Pl p}(mh:Mo h)(dg:1<(ls h).length):∀n,Mo (PH h n)/\(ls (PH h n)).length=n*((ls h).length-1)+1
 |0=>⟨Mo.one p2,by show(ls (1:Pl p)).length=_;rw[vJ p2];simp⟩
 |n+1=>by obtain⟨h1,h2⟩:=Xy p2 mh dg n;have l:=vN (p:=p) (n:Int);obtain⟨h3,h4⟩:=QK p2 mh (show(ls (con p (n:Int))).length<_ by lia);obtain⟨h5,h6⟩:=Mo.Ew p2 h1 h3;refine⟨h5,?_⟩;show(ls (PH h n*(h-con p (n:Int)))).length=_;rw[f9];lia
theorem ZP (hp:jN p){h:Pl p}(mh:Mo h)(dg:1<(ls h).length):fx h=PH h p.toNat:=by
 have p2:=hp.1;have pw:=mh.pow p2 p.toNat;have lp:=mh.vW p2 p.toNat;have big:(ls h).length<(ls (h^p.toNat)).length:=by rw[lp];have:2*((ls h).length-1)<=p.toNat*((ls h).length-1):=fM _ (by lia);lia
 obtain⟨m1,m2⟩:=QK p2 pw big;obtain⟨m3,m4⟩:=Xy p2 mh dg p.toNat;obtain⟨u,e⟩:=Xq hp h p.toNat (by lia);have mu:Mo u:=Mo.ZF p2 (x:=fx h) m1 m3 e;have l:=Mo.len p2 mu m3;rw[<- e]at l;have m2:(ls (fx h)).length=(ls (h^p.toNat)).length:=m2;have u1:u=1:=mu.Gk p2 (by lia);rw[e,u1,one_mul]
theorem vD.Gb (hp:jN p){q:Pl p}(h:vD q):¬Go q 1:=λ⟨u,e⟩=>by have p2:=hp.1;have mu:=Mo.ZF p2 (Mo.one p2) h.mo e;have l:=Mo.len p2 mu h.mo;rw[<- e,vJ p2]at l;have:=mu.pos;have:=h.deg;have l:1+1=(ls u).length+(ls q).length:=l;lia
theorem vD.JQ (hp:jN p)(h:vD q)(k:Go q (con p c)):p ∣ c:=cM λnd=>by obtain⟨t,ht⟩:=lK hp nd;exact h.Gb hp ((k.mul (con p t)).pG (xK ht))
theorem sub_len (p2:2<=p){x y:Pl p}{n:Nat}(hx:(ls x).length<=n)(hy:(ls y).length<=n):(ls (x-y)).length<=n:=m6 (j7 _).form λk hk=>by rw[wk p2,jr (by lia),jr (by lia),aQ,lW]
theorem vD.aaE (hp:jN p)(I:vD q)(hl:(ls h).length<=200)(h1:1<=(ls h).length):∀n,Go q (PH h n)->∃s:Nat,s<n/\Go q (h-con p (s:Int))
 |0,g=>absurd g (I.Gb hp)
 |n+1,g=>by
  have l:=vN (p:=p) (n:Int);rcases I.or hp (h-con p (n:Int)) (sub_len hp.1 hl (by lia)) with c|c
  ·have g:Go q ((h-con p (n:Int))*PH h n):=g.pG (mul_comm _ _);obtain⟨s,hs,k⟩:=vD.aaE hp I hl h1 n (g.cut c);exact⟨s,by lia,k⟩
  ·exact⟨n,df n,c⟩
theorem Yk (hp:jN p)(I:vD q)(hl:(ls h).length<=200)(g:Go q (fx h)):∃s:Int,0<=s/\s<p/\Go q (h-con p s):=by
 have p2:=hp.1;have p0:0<p:=by lia
 have red:∀c:Int,Go q (h-con p c)->∃s:Int,0<=s/\s<p/\Go q (h-con p s):=λc k=>⟨c % p,bE _ (by lia),bj _ p0,by
  rw[show con p (c % p)=con p c from KD ⟨-(c / p),by have:=dU c p;rw[gT];lia⟩];exact k⟩
 by_cases c:(ls h).length<=1
 ·have e:h=con p ((ls h).getD 0 0):=by
   conv=>lhs;rw[<- jL h]
   refine ext λn=>?_
   match n with
   |0=>rfl
   |n+1=>rw[jr (by lia)];rfl
  refine red ((ls h).getD 0 0) ?_;rw[<- e];exact(Go.zero q).pG (by generalize h=x;grind)
 ·have hne:ls h≠[]:=λz=>by rw[z]at c;exact c (by decide)
  have nd:¬p ∣ jo (ls h):=λz=>by have h1:=(j7 h).red ((ls h).length-1);have h1:pl p (jo (ls h))=jo (ls h):=h1;rw[mD p0,bW z]at h1;exact(j7 h).form hne h1.symm
  obtain⟨t,ht⟩:=lK hp nd;have e1:con p (jo (ls h))*(con p t*h)=h:=by rw[<- mul_assoc,mul_comm (con p _),xK ht,one_mul]
  have get:∀n,(ls (con p t*h)).getD n 0=pl p (t*(ls h).getD n 0):=λn=>by
   have:con p t*h=mk p (zN t (ls h)):=by rw[<- rG,jL]
   rw[this,qi,lD,jR]
  have top:(ls (con p t*h)).getD ((ls h).length-1) 0=1:=by rw[get];have:pl p (t*jo (ls h))=pl p 1:=(qG p _ _).mpr ht;exact this.trans (Vj p2)
  have le:(ls (con p t*h)).length<=(ls h).length:=m6 (j7 _).form λn hn=>by rw[get,jr hn,aT,lW]
  have ge:(ls h).length-1<(ls (con p t*h)).length:=cS λc=>by rw[jr c]at top;exact absurd top (by decide)
  have el:(ls (con p t*h)).length=(ls h).length:=by lia
  have mo:Mo (con p t*h):=by show(ls (con p t*h)).getD ((ls (con p t*h)).length-1) 0=1;rw[el];exact top
  have g2:Go q (Pl.PH (con p t*h) p.toNat):=by rw[<- ZP hp mo (by lia),W7 hp];exact g.mul _
  obtain⟨s,hs,k⟩:=I.aaE hp (h:=con p t*h) (by lia) (by lia) _ g2;refine red (jo (ls h)*(s:Int)) ?_;have k2:=k.mul (con p (jo (ls h)));refine k2.pG ?_;have e3:=zA (p:=p) (jo (ls h)) (s:Int);rw[e3];generalize con p (jo (ls h))=a at *
  generalize con p (s:Int)=b at *
  generalize con p t*h=d at *
  rw[<- e1];grind
theorem GD (hp:jN p)(I:vD q)(a:Go q (h-con p s))(b:Go q (h-con p t)):p ∣ s-t:=by refine I.JQ hp ((b.sub a).pG ?_);rw[Fi];generalize con p s=x;generalize con p t=y;grind
end Pl
namespace Pl
variable {p:Int}
def PL (l:List (Pl p)):Pl p:=l.foldr (λq x=>q*x) 1
theorem qy (q:Pl p)(l:List (Pl p)):PL (q::l)=q*PL l:=rfl
theorem QQ (a b:List (Pl p)):PL (a++b)=PL a*PL b:=by
 induction a with
 |nil=>exact(one_mul _).symm
 |cons q a ih=>rw[List.cons_append,qy,qy,ih,mul_assoc]
theorem Oq {a b:List (Pl p)}(h:a.Perm b):PL a=PL b:=by
 induction h with
 |nil=>rfl
 |cons x _ ih=>rw[qy,qy,ih]
 |swap x y l=>rw[qy,qy,qy,qy];generalize PL l=z;grind
 |trans _ _ h1 h2=>exact h1.trans h2
structure wD (l:List (Pl p)):Prop where
 irr:∀q∈l,vD q
 len:∀q∈l,(ls q).length<=200
 nd:l.Nodup
theorem wD.sub {l m:List (Pl p)}(I:wD l)(h:∀q∈m,q∈l)(nd:m.Nodup):wD m:=⟨λq hq=>I.irr q (h q hq),λq hq=>I.len q (h q hq),nd⟩
theorem Hx (p2:2<=p):∀{l:List (Pl p)},(∀q∈l,Mo q)->Mo (PL l)
 |[],_=>Mo.one p2
 |q::l,h=>Mo.mul p2 (h q ag) (Hx p2 λr hr=>h r (ad _ hr))
theorem wD.mo {l:List (Pl p)}(I:wD l)(p2:2<=p):Mo (PL l):=Hx p2 λq hq=>(I.irr q hq).mo
theorem Aw (p2:2<=p):∀{l:List (Pl p)},(∀q∈l,vD q)->l.length+1<=(ls (PL l)).length
 |[],_=>by show 1<=(ls (1:Pl p)).length;rw[vJ p2];exact ai _
 |q::l,h=>by have ih:=Aw p2 λr hr=>h r (ad _ hr);have hq:=h q ag;have l2:=Mo.len p2 hq.mo (Hx p2 λr hr=>(h r (ad _ hr)).mo);have:=hq.deg;rw[qy,aG];lia
theorem Ft:∀{l:List (Pl p)},(∀r∈l,nu r x)->nu (PL l) x
 |[],_=>(nu.one x).symm
 |q::l,h=>(h q ag).mul (Ft λr hr=>h r (ad _ hr))
theorem wD.cop {l:List (Pl p)}(hp:jN p)(I:wD l)(hq:q∈l)(hr:r∈l)(ne:q≠r):nu q r:=(I.irr q hq).cop hp (I.irr r hr) (I.len r hr) ne
theorem NK (hp:jN p):∀{l:List (Pl p)},wD l->(∀q∈l,Go q x)->Go (PL l) x
 |[],_,_=>⟨x,by show x=x*1;rw[mul_comm,one_mul]⟩
 |q::l,I,h=>by have nd:=cN.mp I.nd;have I2:wD l:=I.sub (λr hr=>ad _ hr) nd.2;refine(h q ag).both (NK hp I2 λr hr=>h r (ad _ hr)) ?_;refine(Ft λr hr=>?_).symm;exact I.cop hp (ad _ hr) ag λe=>nd.1 (e ▸ hr)
theorem wz:∀{l:List (Pl p)},q∈l->Go q (PL l)
 |r::l,h=>by
  rcases aB.mp h with rfl|h
  ·exact(Go.refl _).Yq _
  ·exact(wz h).mul _
theorem Xf (hp:jN p)(mg:Mo g)(hl:(ls g).length<=200)(x:Pl p):∃u r,x=u*g+r/\(ls r).length<(ls g).length:=by
 obtain⟨_,_,ir,Q,hQ⟩:=mL (Eo hp mg hl) (ls x);rw[qW]at ir hQ;refine⟨mk p Q,mk p (rm p (ls g) (ls x)),?_,?_⟩
 ·have e:mk p (ls x)=mk p Q*mk p (ls g)+mk p (rm p (ls g) (ls x)):=by
   rw[kZ,mO];refine lH.mpr λn=>?_;rw[jz,jn];have:=hQ n;have e:(ls x).getD n 0-(cm Q (ls g) n+(rm p (ls g) (ls x)).getD n 0)=(ls x).getD n 0-(rm p (ls g) (ls x)).getD n 0-cm Q (ls g) n:=by lia
   rw[e];exact this
  rw[jL,jL]at e;exact e
 ·rw[vp ⟨ir.form,ir.red⟩];exact ir.len
theorem zT {g x:Pl p}(mg:Mo g)(h:Go g x)(l:(ls x).length<(ls g).length):x=0:=by
 obtain⟨u,e⟩:=h;have r:=rZ (p:=p) (d:=ls g) (r:=ls x) (s:=[]) (λy hy=>by rw[show jo (ls g)=1 from mg,bM]at hy;exact hy) ⟨(j7 _).form,(j7 _).red,l⟩ ⟨oR,λn=>by show pl p 0=0;exact lW p,mg.pos⟩ ⟨ls u,λn=>by
  have e2:mk p (ls x)=mk p (jq (ls u) (ls g)):=by rw[jL,<- kZ,jL,jL];exact e
  have:=lH.mp e2 n;rw[jn]at this;show p ∣ (ls x).getD n 0-0-cm (ls u) (ls g) n;rw[aQ];exact this⟩
 rw[<- jL x,r,yw]
theorem crt (hp:jN p)(I:wD l)(hl:(ls (PL l)).length<=200)(hq:q∈l):∃e:Pl p,Go q (e-con p 1)/\(∀r∈l,r≠q->Go r (e-con p 0))/\Go (PL l) (fx e)/\(ls e).length<(ls (PL l)).length:=by
 have dd:DecidableEq (Pl p):=λa b=>Classical.propDecidable _;have pm:=List.perm_cons_erase hq;have hm:∀r∈l.erase q,r∈l/\r≠q:=λr hr=>⟨List.mem_of_mem_erase hr,λz=>by
  have:=(I.nd.mem_erase_iff (a:=r) (b:=q)).mp hr;exact this.1 z⟩
 obtain⟨s,t,e⟩:nu (PL (l.erase q)) q:=Ft λr hr=>I.cop hp (hm r hr).1 hq (hm r hr).2;obtain⟨u,r,e2,lr⟩:=Xf hp (I.mo hp.1) hl (s*PL (l.erase q));have k1:Go q (r-con p 1):=by
  have a:Go q (u*PL l):=(wz hq).mul u;have b:Go q (t*q):=(Go.refl q).mul t;refine(Go.sub (Go.zero q) (a.add b)).pG ?_;show 0-(u*PL l+t*q)=r-1;generalize PL l=x at *
  generalize PL (l.erase q)=y at *
  grind
 have k2:∀o∈l,o≠q->Go o (r-con p 0):=λo ho hne=>by
  have a:Go o (u*PL l):=(wz ho).mul u;have b:Go o (s*PL (l.erase q)):=(wz ((I.nd.mem_erase_iff).mpr ⟨hne,ho⟩)).mul s;refine(b.sub a).pG ?_;show s*PL (l.erase q)-u*PL l=r-0;generalize PL l=x at *
  generalize PL (l.erase q)=y at *
  grind
 refine⟨r,k1,k2,NK hp I λo ho=>?_,lr⟩;by_cases c:o=q
 ·subst c;rw[<- zY hp r 1];exact Ub hp k1
 ·rw[<- zY hp r 0];exact Ub hp (k2 o ho c)
def oK (c:Nat->Int)(E:Nat->Pl p):Nat->Pl p
 |0=>0
 |n+1=>oK c E n+con p (c n)*E n
theorem Fw (e:x=mk p a)(n:Nat):p ∣ (ls x).getD n 0-a.getD n 0:=by refine lH.mp ?_ n;rw[jL,e]
theorem zg (c:Nat->Int)(E:Nat->Pl p)(j:Nat):∀n,p ∣ (ls (oK c E n)).getD j 0-sm n λk=>c k*(ls (E k)).getD j 0
 |0=>by have:=Fw (p:=p) (x:=oK c E 0) (a:=[0]) rfl j;rw[CJ]at this;exact this
 |n+1=>by
  have ih:=zg c E j n;have e:oK c E (n+1)=mk p (jX (ls (oK c E n)) (zN (c n) (ls (E n)))):=by rw[<- mO,<- rG,jL,jL];rfl
  have:=Fw e j;rw[jz,jR]at this;have h:=bD this ih;have e2:∀a b d f:Int,a-(b+d)+(b-f)=a-(f+d):=λa b d f=>by lia
  rw[e2]at h;exact h
theorem xV {c v:Nat->Int}{E:Nat->Pl p}:∀{n:Nat},(∀k,k<n->Go q (E k-con p (v k)))->Go q (oK c E n-con p (sm n λk=>c k*v k))
 |0,_=>(Go.zero q).pG (by show(0:Pl p)=0-0;grind)
 |n+1,h=>by
  have a:=xV (c:=c) (v:=v) (E:=E) (n:=n) λk hk=>h k (by lia);have b:=(h n (df n)).mul (con p (c n));refine(a.add b).pG ?_;have e:con p (sm (n+1) λk=>c k*v k)=con p (sm n λk=>c k*v k)+con p (c n)*con p (v n):=by rw[<- zA,<- zj];rfl
  rw[e];show _=oK c E n+con p (c n)*E n-_;generalize con p (sm n λk=>c k*v k)=x;generalize con p (c n)=y;generalize con p (v n)=z;generalize oK c E n=s;generalize E n=t;grind
structure Xa (g:Pl p)(t:Tab):Prop where
 st:∀y∈t,Go g (fx (mk p y))
 len:∀y∈t,y.length<=200
 span:∀e:Pl p,Go g (fx e)->(ls e).length<(ls g).length->∃c:Nat->Int,e=oK c (λk=>mk p (t.getD k [])) t.length
theorem Xi (hp:jN p):∃iv:Int->Int,∀x,0<x->x<p->p ∣ iv x*x-1:=by
 refine⟨λx=>if h:¬p ∣ x then(lK hp h).choose else 0,λx h0 h1=>?_⟩;have nd:¬p ∣ x:=λz=>by have:=dB h0 z;lia
 show p ∣ (if h:¬p ∣ x then(lK hp h).choose else 0)*x-1;rw[fV nd];exact(lK hp nd).choose_spec
theorem Ut (p2:2<=p){c:Nat->Int}{E:Nat->Pl p}{n:Nat}(h:∀j,p ∣ sm n λk=>c k*(ls (E k)).getD j 0):oK c E n=0:=by rw[<- jL (oK c E n),<- yw];refine lH.mpr λj=>?_;show p ∣ _-0;rw[aQ];have:=bD (zg c E j n) (h j);rw[dJ]at this;exact this
theorem Ir (hp:jN p){l:List (Pl p)}(I:wD l)(hl:(ls (PL l)).length<=200){t:Tab}(K:Xa (PL l) t):l.length<=t.length:=by
 refine dC λlt=>?_;have p2:=hp.1;have ex:∀k:Nat,∃e:Pl p,∃c:Nat->Int,∀h:k<l.length,Go l[k] (e-con p 1)/\(∀r∈l,r≠l[k]->Go r (e-con p 0))/\e=oK c (λk=>mk p (t.getD k [])) t.length:=λk=>by
  by_cases h:k<l.length
  ·obtain⟨e,h1,h2,h3,h4⟩:=crt hp I hl (bC h);obtain⟨c,h5⟩:=K.span e h3 h4;exact⟨e,c,λ_=>⟨h1,h2,h5⟩⟩
  ·exact⟨0,λ_=>0,λz=>absurd z h⟩
 have⟨E,hE⟩:=eW ex;have⟨C,hC⟩:=eW hE;obtain⟨iv,hiv⟩:=Xi hp;obtain⟨y,⟨i,hi,nd⟩,hy⟩:=dep p2 hiv lt λk j=>C k j;have z:oK y E l.length=0:=Ut p2 λj=>by
  have s1:∀k,k<l.length->p ∣ (ls (E k)).getD j 0-sm t.length λi=>C k i*(ls (mk p (t.getD i []))).getD j 0:=λk hk=>by have:=zg (C k) (λk=>mk p (t.getD k [])) j t.length;rw[<- (hC k hk).2.2]at this;exact this
  have s2:sm l.length (λk=>y k*sm t.length λi=>C k i*(ls (mk p (t.getD i []))).getD j 0)=sm t.length λi=>(sm l.length λk=>y k*C k i)*(ls (mk p (t.getD i []))).getD j 0:=by
   have a:sm l.length (λk=>y k*sm t.length λi=>C k i*(ls (mk p (t.getD i []))).getD j 0)=sm l.length λk=>sm t.length λi=>y k*C k i*(ls (mk p (t.getD i []))).getD j 0:=jw λk _=>by rw[<- n8];exact jw λi _=>by rw[bG]
   rw[a,xG];exact jw λi _=>by rw[zL]
  have s3:p ∣ sm t.length λi=>(sm l.length λk=>y k*C k i)*(ls (mk p (t.getD i []))).getD j 0:=nO λi hi=>aZ (hy i hi);rw[<- s2]at s3;have s4:p ∣ sm l.length λk=>y k*((ls (E k)).getD j 0-sm t.length λi=>C k i*(ls (mk p (t.getD i []))).getD j 0):=nO λk hk=>aK (s1 k hk);have s5:=bD s4 s3;rw[<- sZ]at s5;have e:(sm l.length λk=>y k*((ls (E k)).getD j 0-sm t.length λi=>C k i*(ls (mk p (t.getD i []))).getD j 0)+y k*sm t.length λi=>C k i*(ls (mk p (t.getD i []))).getD j 0)=sm l.length λk=>y k*(ls (E k)).getD j 0:=jw λk _=>by rw[<- fW,dJ]
  rw[e]at s5;exact s5
 have g:=xV (q:=l[i]) (c:=y) (v:=λk=>if k=i then 1 else 0) (E:=E) (n:=l.length) λk hk=>by
  obtain⟨h1,h2,_⟩:=hC k hk;by_cases c:k=i
  ·subst c;rw[af rfl];exact h1
  ·rw[ae c];refine h2 _ (bC hi) λe=>?_;have pw:=dk.mp I.nd;rcases gv c with q|q
   ·exact pw k i hk hi q e.symm
   ·exact pw i k hi hk q e
 have e:(sm l.length λk=>y k*(if k=i then(1:Int) else 0))=y i:=by rw[qU (k:=i) hi λk _ hne=>by rw[ae hne,aT],af rfl,bM]
 rw[z,e]at g;have g2:Go l[i] (con p (-(y i))):=g.pG (by rw[FN];generalize con p (y i)=x;grind);have:=(I.irr _ (bC hi)).JQ hp g2;exact nd (bq.mp this)
theorem Ox (hp:jN p){l:List (Pl p)}(I:wD l)(hl:(ls (PL l)).length<=200){t:Tab}(K:Xa (PL l) t)(hq:q∈l)(hr:r∈l)(ne:q≠r){v:Nat->Int}(h1:∀k,k<t.length->Go q (mk p (t.getD k [])-con p (v k)))(h2:∀k,k<t.length->Go r (mk p (t.getD k [])-con p (v k))):False:=by obtain⟨e,a,b,c,d⟩:=crt hp I hl hq;obtain⟨f,rfl⟩:=K.span e c d;have g1:=xV (q:=q) (c:=f) (v:=v) (E:=λk=>mk p (t.getD k [])) h1;have g2:=xV (q:=r) (c:=f) (v:=v) (E:=λk=>mk p (t.getD k [])) h2;have k1:=GD hp (I.irr q hq) a g1;have k2:=GD hp (I.irr r hr) (b r hr (cf ne)) g2;have:=dR k1 k2;rw[show ∀x:Int,1-x-(0-x)=1 from λx=>by lia]at this;have:=dB (by decide) this;have:=hp.1;lia
end Pl
namespace Pl
variable {p:Int}
open Classical in
def vl (h q:Pl p):Int:=if k:∃s:Int,0<=s/\s<p/\Go q (h-con p s) then k.choose else 0
theorem Xw (k:∃s:Int,0<=s/\s<p/\Go q (h-con p s)):0<=vl h q/\vl h q<p/\Go q (h-con p (vl h q)):=by unfold vl;rw[fV k];exact k.choose_spec
theorem Ly (hp:jN p)(I:vD q)(hl:(ls h).length<=200)(g:Go q (fx h)):0<=vl h q/\vl h q<p/\Go q (h-con p (vl h q)):=Xw (Yk hp I hl g)
theorem ZS (hp:jN p)(I:vD q)(h0:0<=s)(h1:s<p)(g:Go q (h-con p s)):vl h q=s:=by
 obtain⟨a,b,c⟩:=Xw (h:=h) (q:=q) ⟨s,h0,h1,g⟩;obtain⟨m,hm⟩:=GD hp I c g;have p2:=hp.1;generalize vl h q=x at *
 have m0:m=0:=by
  rcases Int.lt_trichotomy m 0 with z|z|z
  ·have:p*m<=p*(-1):=bB (by lia) (by lia);rw[gT,bM]at this;lia
  ·exact z
  ·have:p*1<=p*m:=bB (by lia) (by lia);rw[bM]at this;lia
 rw[m0,aT]at hm;lia
theorem uR {α:Type}(f:α->Bool):∀l:List α,(l.filter f++l.filter λx=>!f x).Perm l
 |[]=>.nil
 |a::l=>by
  have ih:=uR f l;cases e:f a with
  |true=>rw[cw e,cC (by rw[e];decide)];exact .cons a ih
  |false=>rw[cC (by rw[e];decide),cw (by rw[e];decide)];exact hJ.trans (.cons a ih)
theorem aaF (hp:jN p)(I:wD c)(hl:(ls h).length<=200)(h1:1<=200)(st:∀q∈c,Go q (fx h))(s0:0<=s)(s1:s<p):Gd (PL c) (h-con p s) (PL (c.filter λq=>decide (vl h q=s))):=by
 have e1:PL c=PL (c.filter λq=>decide (vl h q=s))*PL (c.filter λq=>!decide (vl h q=s)):=by rw[<- QQ,Oq (uR _ c)]
 have I1:wD (c.filter λq=>decide (vl h q=s)):=I.sub (λq hq=>(aS.mp hq).1) (I.nd.filter _);obtain⟨w,e2⟩:Go (PL (c.filter λq=>decide (vl h q=s))) (h-con p s):=NK hp I1 λq hq=>by obtain⟨m1,m2⟩:=aS.mp hq;have:=(Ly hp (I.irr q m1) hl (st q m1)).2.2;rw[bO m2]at this;exact this
 have cop:nu (PL (c.filter λq=>!decide (vl h q=s))) (h-con p s):=Ft λq hq=>by
  obtain⟨m1,m2⟩:=aS.mp hq;have l:=vN (p:=p) s;rcases (I.irr q m1).or hp (h-con p s) (sub_len hp.1 hl (by lia)) with k|k
  ·exact k
  ·exfalso;rw[ZS hp (I.irr q m1) s0 s1 k]at m2;simp at m2
 rw[e1];generalize PL (c.filter λq=>decide (vl h q=s))=x at *
 generalize PL (c.filter λq=>!decide (vl h q=s))=y at *
 obtain⟨a,b,e3⟩:nu y w:=cop.aax ⟨x,by rw[e2,mul_comm]⟩;rw[e2];exact⟨⟨a,b,by grind⟩,⟨y,mul_comm x y⟩,⟨w,rfl⟩⟩
def Z4 (h:Pl p)(c:List (Pl p))(nums:List Int):List (List (Pl p)):=(nums.map λs=>c.filter λq=>decide (vl h q=s)).filter λf=>decide (0<f.length)
def Zx (h:Pl p)(nums:List Int)(cls:List (List (Pl p))):List (List (Pl p)):=cls.flatMap λc=>Z4 h c nums
theorem El {α:Type}:∀L:List (List α),(L.filter λf=>decide (0<f.length)).flatten=L.flatten
 |[]=>rfl
 |[]::L=>by rw[cC (by simp),El L];rfl
 |(a::f)::L=>by rw[cw (by simp),bN,bN,El L]
theorem yo {α:Type}(f:α->Int)(c:List α):∀{nums:Li},nums.Nodup->((nums.map λs=>c.filter λq=>decide (f q=s)).flatten).Perm (c.filter λq=>decide (f q∈nums))
 |[],_=>by
  rw[dP,List.flatten_nil];have:(c.filter λq=>decide (f q∈([]:List Int)))=[]:=List.filter_eq_nil_iff.mpr λq _=>by simp
  rw[this]
 |s::nums,nd=>by
  obtain⟨n1,n2⟩:=cN.mp nd;have ih:=yo f c n2;rw[aX,bN];have k:=uR (λq=>decide (f q=s)) (c.filter λq=>decide (f q∈s::nums));rw[List.filter_filter,List.filter_filter]at k;have a1:(c.filter λq=>decide (f q=s) && decide (f q∈s::nums))=c.filter λq=>decide (f q=s):=fj λq _=>by
   by_cases z:f q=s
   ·simp[z]
   ·simp[z]
  have a2:(c.filter λq=>(!decide (f q=s)) && decide (f q∈s::nums))=c.filter λq=>decide (f q∈nums):=fj λq _=>by
   by_cases z:f q=s
   ·simp[z,n1]
   ·simp[z]
  rw[a1,a2]at k;exact(List.Perm.append_left _ ih).trans k
theorem R3 {h:Pl p}{c:List (Pl p)}{nums:Li}(nd:nums.Nodup)(hc:∀q∈c,vl h q∈nums):(Z4 h c nums).flatten.Perm c:=by unfold Z4;rw[El];have:=yo (vl h) c nd;rw[iY.mpr λq hq=>aL (hc q hq)]at this;exact this
structure Cls (l H:List (Pl p))(cls:List (List (Pl p))):Prop where
 pm:cls.flatten.Perm l
 ne:∀c∈cls,c≠[]
 al:∀c∈cls,∀h∈H,∀q∈c,∀r∈c,vl h q=vl h r
theorem Cls.start {l:List (Pl p)}(h:l≠[]):Cls l [] [l]:=⟨by simp,λc hc=>by rw[bp.mp hc];exact h,λc _ h hh=>by cases hh⟩
theorem Cls.mem {l H:List (Pl p)}{cls:List (List (Pl p))}(C:Cls l H cls){c:List (Pl p)}(hc:c∈cls){q:Pl p}(hq:q∈c):q∈l:=C.pm.mem_iff.mp (List.mem_flatten.mpr ⟨c,hc,hq⟩)
theorem Hw (nd:nums.Nodup):∀{cls:List (List (Pl p))},(∀c∈cls,∀q∈c,vl h q∈nums)->(Zx h nums cls).flatten.Perm cls.flatten
 |[],_=>.nil
 |c::cls,hc=>by show((Z4 h c nums)++Zx h nums cls).flatten.Perm _;rw[eQ,bN];exact(R3 nd (hc c ag)).append (Hw nd λd hd=>hc d (ad _ hd))
theorem Cls.step {l H:List (Pl p)}{cls:List (List (Pl p))}(C:Cls l H cls){h:Pl p}{nums:Li}(nd:nums.Nodup)(hn:∀q∈l,vl h q∈nums):Cls l (h::H) (Zx h nums cls):=by
 refine⟨(Hw nd λc hc q hq=>hn q (C.mem hc hq)).trans C.pm,λd hd=>?_,λd hd k hk q hq r hr=>?_⟩
 ·obtain⟨c,_,hd⟩:=List.mem_flatMap.mp hd;have:=bO (aS.mp hd).2;exact eJ.mp this
 ·obtain⟨c,hc,hd⟩:=List.mem_flatMap.mp hd;obtain⟨s,_,rfl⟩:=aR.mp (aS.mp hd).1;obtain⟨q1,q2⟩:=aS.mp hq;obtain⟨r1,r2⟩:=aS.mp hr;rcases aB.mp hk with rfl|hk
  ·rw[bO q2,bO r2]
  ·exact C.al c hc k hk q q1 r r1
theorem zV {α:Type}:∀{L:List (List α)},(∀c∈L,c≠[])->L.length<=L.flatten.length/\(L.flatten.length<=L.length->∀c∈L,c.length=1)
 |[],_=>⟨ai _,λ_ c hc=>by cases hc⟩
 |c::L,h=>by
  obtain⟨i1,i2⟩:=zV λd hd=>h d (ad _ hd);have:=lP (h c ag);rw[bN,ah,aG];refine⟨by lia,λle d hd=>?_⟩;rcases aB.mp hd with rfl|hd
  ·lia
  ·exact i2 (by lia) d hd
theorem ones {L:List (List (Pl p))}(h:∀c∈L,c.length=1):L.map PL=L.flatten:=by
 induction L with
 |nil=>rfl
 |cons c L ih=>
  rw[aX,bN,ih λd hd=>h d (ad _ hd)];have hc:=h c ag
  match c,hc with
  |[q],_=>show q*1::_=q::L.flatten;rw[mul_comm,one_mul]
theorem Cls.fin (hp:jN p){l H:List (Pl p)}{cls:List (List (Pl p))}(C:Cls l H cls)(I:wD l)(hl:(ls (PL l)).length<=200){t:Tab}(K:Xa (PL l) t)(h:t.length<=cls.length\/∀k,k<t.length->Pl.mk p (t.getD k [])∈H):(cls.map PL).Perm l:=by
 have one:∀c∈cls,c.length=1:=by
  rcases h with h|h
  ·have:=Ir hp I hl K;refine(zV C.ne).2 ?_;rw[C.pm.length_eq];lia
  ·intro c hc;have c0:=lP (C.ne c hc);refine cM λne=>?_
   match c,hc,c0,ne with
   |[q],_,_,ne=>exact ne rfl
   |q::r::m,hc,_,_=>
    have nd:(q::r::m).Nodup:=by have:=C.pm.nodup_iff.mpr I.nd;exact(List.pairwise_flatten.mp this).1 _ hc
    have qr:q≠r:=λe=>(cN.mp nd).1 (e ▸ ag);have mq:q∈q::r::m:=ag;have mr:r∈q::r::m:=ad _ ag;have ok:∀k,k<t.length->∀o∈l,Go o (Pl.mk p (t.getD k [])-con p (vl (Pl.mk p (t.getD k [])) o)):=λk hk o ho=>by
     have mt:t.getD k []∈t:=by rw[gQ,ac hk];exact bC hk
     exact(Ly hp (I.irr o ho) (aC (by rw[qi];exact m8 _ _) (K.len _ mt)) ((wz ho).trans (K.st _ mt))).2.2
    refine Ox hp I hl K (C.mem hc mq) (C.mem hc mr) qr (v:=λk=>vl (Pl.mk p (t.getD k [])) q) (λk hk=>ok k hk q (C.mem hc mq)) λk hk=>?_;rw[C.al _ hc _ (h k hk) q mq r mr];exact ok k hk r (C.mem hc mr)
 rw[ones one];exact C.pm
theorem JZ (g:Go q (h-con p s)):∀k:Nat,Go q (h^k-con p (s^k))
 |0=>by
  have e:h^0=1:=rfl;have e2:con p (s^0)=1:=by rw[jc];rfl
  refine(Go.zero q).pG ?_;rw[e,e2];grind
 |k+1=>by
  have ih:=JZ g k;refine((ih.Yq h).add (g.mul (con p (s^k)))).pG ?_;have e:con p (s^(k+1))=con p (s^k)*con p s:=by rw[<- zA,iz]
  rw[e];show _=h^k*h-_;generalize h^k=a;generalize con p (s^k)=b;generalize con p s=c;grind
theorem VD (hp:jN p)(I:wD l)(g:Go (PL l) (oK y (λi=>h^i) n))(hq:q∈l)(k:Go q (h-con p s)):p ∣ sm n λi=>y i*s^i:=by have a:=xV (q:=q) (c:=y) (v:=λi=>s^i) (E:=λi=>h^i) (n:=n) λi _=>JZ k i;have b:=(wz hq).trans g;refine(I.irr q hq).JQ hp ((b.sub a).pG ?_);generalize oK y (λi=>h^i) n=x;generalize con p (sm n λi=>y i*s^i)=z;grind
theorem Ys (hp:jN p){l:List (Pl p)}(I:wD l)(hl:(ls h).length<=200)(st:Go (PL l) (fx h)){n:Nat}(hn:l.length<n):∃y:Nat->Int,(∃i,i<n/\¬p ∣ y i)/\Go (PL l) (oK y (λi=>h^i) n):=by obtain⟨iv,hiv⟩:=Xi hp;obtain⟨y,h1,h2⟩:=dep hp.1 hiv hn λk j=>vl h (l.getD j 1)^k;refine⟨y,h1,NK hp I λq hq=>?_⟩;obtain⟨j,hj,rfl⟩:=bY.mp hq;have ok:=(Ly hp (I.irr _ hq) hl ((wz hq).trans st)).2.2;have a:=xV (q:=l[j]) (c:=y) (v:=λi=>vl h l[j]^i) (E:=λi=>h^i) (n:=n) λi _=>JZ ok i;have b:=h2 j hj;rw[show l.getD j 1=l[j] by rw[gQ,ac hj];rfl]at b;rw[Mp b]at a;exact a.pG (by generalize oK y (λi=>h^i) n=x;grind)
end Pl
namespace Pl
variable {p:Int}
theorem MT (x:Pl p):x^0=1:=rfl
theorem uG (x:Pl p)(k:Nat):x^(k+1)=x^k*x:=rfl
theorem Y7 (h:lF p d a b):Go (mk p d) (mk p a-mk p b):=by
 obtain⟨Q,h⟩:=h;refine⟨mk p Q,?_⟩;show mk p a + -mk p b=mk p Q*mk p d;rw[yC,mO,kZ];refine lH.mpr λn=>?_;rw[jz,jR,jn];have e:a.getD n 0 + -1*b.getD n 0-cm Q d n=a.getD n 0-b.getD n 0-cm Q d n:=by lia
 rw[e];exact h n
theorem Xl (hp:jN p)(mg:Mo G)(hl:(ls G).length<=200)(f:Li):Go G (mk p f-mk p (rm p (ls G) f))/\Nu p (ls G) (rm p (ls G) f):=by obtain⟨_,_,r,e⟩:=mL (Eo hp mg hl) f;rw[qW]at r e;have:=Y7 e;rw[jL]at this;exact⟨this,r⟩
theorem aaB (m:Int)(r:Li):mk p (wd m r)=mk p r:=ext λn=>XX m r n
theorem Go.flip {a b c:Pl p}(h:Go a (b-c)):Go a (c-b):=by obtain⟨u,e⟩:=h;exact⟨-u,by grind⟩
theorem Go.ch {a b c d:Pl p}(h:Go a (b-c))(k:Go a (c-d)):Go a (b-d):=(h.add k).pG (by grind)
theorem T8 (hp:jN p)(mg:Mo G)(hl:(ls G).length<=200)(f:Li)(hk:k<n):Go G (mk p ((jP p (ls G) f n).getD k [])-mk p f^k)/\((jP p (ls G) f n).getD k []).length=(ls G).length-1:=by rw[Og hk,aaB];obtain⟨a,b⟩:=Xl hp mg hl (pw f k);rw[uC]at a;refine⟨a.flip,?_⟩;have:=b.len;have:=Ui (m:=((ls G).length:Int)-1) (r:=rm p (ls G) (pw f k)) (by lia);lia
theorem zB (c:Nat->Int)(E F:Nat->Pl p):∀n,oK c E n-oK c F n=oK c (λk=>E k-F k) n
 |0=>by show(0:Pl p)-0=0;grind
 |n+1=>by have:=zB c E F n;show(oK c E n+con p (c n)*E n)-(oK c F n+con p (c n)*F n)=oK c (λk=>E k-F k) n+con p (c n)*(E n-F n);rw[<- this];generalize oK c E n=a;generalize oK c F n=b;grind
theorem Es {g:Pl p}{c:Nat->Int}{E:Nat->Pl p}:∀{n:Nat},(∀k,k<n->Go g (E k))->Go g (oK c E n)
 |0,_=>Go.zero g
 |n+1,h=>(Es λk hk=>h k (by lia)).add ((h n (by lia)).mul _)
theorem Jm (hp:jN p)(c:Nat->Int)(E:Nat->Pl p):∀n,oK c E n^p.toNat=oK c (λk=>E k^p.toNat) n
 |0=>by have:=wZ hp 0;exact this
 |n+1=>by show(oK c E n+con p (c n)*E n)^p.toNat=oK c (λk=>E k^p.toNat) n+con p (c n)*E n^p.toNat;rw[HB hp,Jm hp c E n,mul_pow,wZ hp]
theorem Bt {c:Nat->Int}{r:Nat->List Int}{E:Nat->Pl p}{n:Nat}(h:∀k,k<n->E k=mk p (r k))(j:Nat):p ∣ (ls (oK c E n)).getD j 0-sm n λk=>c k*(r k).getD j 0:=by
 have a:=zg c E j n;have b:p ∣ (sm n λk=>c k*(ls (E k)).getD j 0)-sm n λk=>c k*(r k).getD j 0:=by rw[<- wj];refine nO λk hk=>?_;rw[<- ck];exact aK (Fw (h k hk) j)
 have:=bD a b
 rwa [show ∀x y z:Int,x-y+(y-z)=x-z from λx y z=>by lia]at this
def xx (p:Int):Pl p:=mk p [0,1]
def ux (k:Nat):List Int:=List.replicate k 0++[1]
theorem uJ:∀k j:Nat,(ux k).getD j 0=if j=k then 1 else 0
 |0,0=>rfl
 |0,j+1=>by rw[ae (by lia)];rfl
 |k+1,0=>by rw[ae (by lia)];rfl
 |k+1,j+1=>by
  have e:(ux (k+1)).getD (j+1) 0=(ux k).getD j 0:=rfl;rw[e,uJ k j];by_cases c:j=k
  ·rw[af c,af (by lia)]
  ·rw[ae c,ae (by lia)]
theorem Kp:∀k:Nat,xx p^k=mk p (ux k)
 |0=>rfl
 |k+1=>by
  rw[uG,Kp k];refine ext λn=>?_;rw[jn,jG,nZ,uJ (k+1) n];cases n with
  |zero=>rw[af rfl,ae (by lia)];lia
  |succ n=>
   rw[ae (by lia),Nat.add_sub_cancel,nZ,lV,uJ k n];by_cases c:n=k
   ·rw[af c,af (show n+1=k+1 by lia)];split<;>lia
   ·rw[ae c,ae (show ¬n+1=k+1 by lia)];split<;>lia
theorem aaL (c:Nat->Int)(j n:Nat):(sm n λk=>c k*(ux k).getD j 0)=if j<n then c j else 0:=by
 by_cases h:j<n
 ·rw[af h,qU (k:=j) h λi _ hn=>by rw[uJ,ae (cf hn),aT],uJ,af rfl,bM]
 ·rw[ae h];exact m5 λi hi=>by rw[uJ,ae (by lia),aT]
theorem Uw (y:Li)(hn:y.length<=n):mk p y=oK (λk=>y.getD k 0) (λk=>xx p^k) n:=by
 have h:=λj=>Bt (p:=p) (c:=λk=>y.getD k 0) (r:=ux) (E:=λk=>xx p^k) (n:=n) (λk _=>Kp k) j;rw[<- jL (oK (λk=>y.getD k 0) (λk=>xx p^k) n)];refine lH.mpr λj=>?_;have:=h j;rw[aaL]at this;by_cases c:j<n
 ·rw[af c]at this;have e:y.getD j 0-(ls (oK (λk=>y.getD k 0) (λk=>xx p^k) n)).getD j 0 = -((ls (oK (λk=>y.getD k 0) (λk=>xx p^k) n)).getD j 0-y.getD j 0):=by lia
  rw[e];exact bq.mpr this
 ·rw[ae c]at this;rw[jr (xs:=y) (by lia)];have e:0-(ls (oK (λk=>y.getD k 0) (λk=>xx p^k) n)).getD j 0 = -((ls (oK (λk=>y.getD k 0) (λk=>xx p^k) n)).getD j 0-0):=by lia
  rw[e];exact bq.mpr this
end Pl
namespace Pl
variable {p:Int}
theorem Q8 (p2:2<=p)(h:p ∣ x)(k:pl p x=x):x=0:=by rw[mD (by lia)]at k;rw[<- k];exact bW h
theorem NP (p2:2<=p){c:Nat->Int}{r:Nat->List Int}{E:Nat->Pl p}{N n:Nat}(h:∀k,k<N->E k=mk p (r k))(z:∀k,k<N->∀j,n<=j->(r k).getD j 0=0):(ls (oK c E N)).length<=n:=m6 (j7 _).form λj hj=>by have:=Bt h j (c:=c);rw[m5 λk hk=>by rw[z k hk j hj,aT],aQ]at this;exact Q8 p2 this ((j7 _).red j)
theorem Mt (p2:2<=p){c:Nat->Int}{r:Nat->List Int}{E:Nat->Pl p}{N:Nat}(h:∀k,k<N->E k=mk p (r k))(z:∀j,p ∣ sm N λk=>c k*(r k).getD j 0):oK c E N=0:=by
 rw[<- jL (oK c E N),uh];refine lH.mpr λj=>?_;rw[CJ,aQ];have:=bD (Bt h j (c:=c)) (z j)
 rwa [dJ]at this
theorem Mf {c:Nat->Int}{r:Nat->List Int}{E:Nat->Pl p}{N:Nat}(h:∀k,k<N->E k=mk p (r k))(e:oK c E N=0)(j:Nat):p ∣ sm N λk=>c k*(r k).getD j 0:=by
 have:=Bt h j (c:=c);rw[e]at this;have z:p ∣ (ls (0:Pl p)).getD j 0:=by have:=Fw (x:=(0:Pl p)) uh j;rw[CJ,aQ]at this;exact this
 have:=dR z this
 rwa [show ∀x y:Int,x-(x-y)=y from λx y=>by lia]at this
theorem Tr {g a b:Pl p}(h:Go g (a-b)):∀k:Nat,Go g (a^k-b^k)
 |0=>(Go.zero g).pG (by show(0:Pl p)=1-1;grind)
 |k+1=>by have:=Tr h k;rw[uG,uG];refine((this.Yq a).add (h.mul (b^k))).pG ?_;generalize a^k=x;generalize b^k=y;grind
theorem GZ (x:Pl p)(a:Nat):∀b:Nat,(x^a)^b=x^(a*b)
 |0=>rfl
 |b+1=>by rw[uG,GZ x a b,ja,pow_add]
theorem PB (hp:jN p){G:Pl p}(mg:Mo G)(hl:(ls G).length<=200)(h2:2<=(ls G).length){t:Tab}(K:yQ p ((ls G).length-1) ((ls G).length-1) (pP p (qT p (ls G))) t):Xa G t:=by
 have p2:2<=p:=hp.1;have ql:(qT p (ls G)).length=(ls G).length-1:=oH ..;have rg:∀k,k<(ls G).length-1->Go G (mk p ((qT p (ls G)).getD k [])-mk p (rm p (ls G) (pw [0,1] p.toNat))^k)/\((qT p (ls G)).getD k []).length=(ls G).length-1:=λk hk=>T8 hp mg hl _ hk;have xg:Go G (mk p (rm p (ls G) (pw [0,1] p.toNat))-xx p^p.toNat):=by have:=(Xl hp mg hl (pw [0,1] p.toNat)).1.flip;rw[uC]at this;exact this
 have ent':∀k,k<(ls G).length-1->∀j,p ∣ ent (pP p (qT p (ls G))) k j-((jX ((qT p (ls G)).getD k []) (zN (-1) (ux k))).getD j 0):=λk hk j=>by
  unfold ent;rw[NT (by lia),jz,jR,uJ];have rl:=(rg k hk).2;by_cases c:j=k
  ·subst c;rw[af rfl,gQ,fe (by lia)];have:=nR p (((qT p (ls G)).getD j []).getD j 0-1)
   rwa [show ∀x y:Int,x-(y + -1*1)=x-(y-1) from λx y=>by lia]
  ·rw[ae c,gQ,d9 (cf c),<- gQ];rw[show ∀x:Int,x-(x + -1*0)=0 from λx=>by lia];exact aU p
 have rE:∀k,k<(ls G).length-1->mk p ((qT p (ls G)).getD k [])-xx p^k=mk p (jX ((qT p (ls G)).getD k []) (zN (-1) (ux k))):=λk _=>by rw[Kp,<- mO,<- yC];rfl
 have rz:∀k,k<(ls G).length-1->∀j,(ls G).length-1<=j->(jX ((qT p (ls G)).getD k []) (zN (-1) (ux k))).getD j 0=0:=λk hk j hj=>by rw[jz,jR,uJ,ae (by lia),jr (by rw[(rg k hk).2];exact hj)];rfl
 have key:∀c:Nat->Int,Go G (fx (oK c (λk=>xx p^k) ((ls G).length-1))-oK c (λk=>mk p ((qT p (ls G)).getD k [])-xx p^k) ((ls G).length-1)):=λc=>by
  have e1:fx (oK c (λk=>xx p^k) ((ls G).length-1))-oK c (λk=>mk p ((qT p (ls G)).getD k [])-xx p^k) ((ls G).length-1)=oK c (λk=>(xx p^k)^p.toNat-mk p ((qT p (ls G)).getD k [])) ((ls G).length-1):=by unfold fx;rw[Jm hp,<- zB,<- zB];generalize oK c (λk=>xx p^k) ((ls G).length-1)=x;generalize oK c (λk=>(xx p^k)^p.toNat) ((ls G).length-1)=y;generalize oK c (λk=>mk p ((qT p (ls G)).getD k [])) ((ls G).length-1)=z;grind
  rw[e1];refine Es λk hk=>?_;have a:=(rg k hk).1.ch (Tr xg k);rw[GZ,cX,<- GZ]at a;exact a.flip
 have sums:∀c:Nat->Int,(∀j,j<(ls G).length-1->p ∣ sm ((ls G).length-1) λk=>c k*ent (pP p (qT p (ls G))) k j) ↔ oK c (λk=>mk p ((qT p (ls G)).getD k [])-xx p^k) ((ls G).length-1)=0:=λc=>by
  have both:∀j,p ∣ (sm ((ls G).length-1) λk=>c k*ent (pP p (qT p (ls G))) k j)-sm ((ls G).length-1) λk=>c k*(jX ((qT p (ls G)).getD k []) (zN (-1) (ux k))).getD j 0:=λj=>by rw[<- wj];refine nO λk hk=>?_;rw[<- ck];exact aK (ent' k hk j)
  constructor
  ·intro h;refine Mt p2 rE λj=>?_;by_cases q:j<(ls G).length-1
   ·have:=dR (h j q) (both j)
    rwa [show ∀x y:Int,x-(x-y)=y from λx y=>by lia]at this
   ·rw[m5 λk hk=>by rw[rz k hk j (by lia),aT]];exact aU p
  ·intro h j _;have:=bD (both j) (Mf rE h j)
   rwa [dJ]at this
 refine⟨λy hy=>?_,λy hy=>by rw[K.len y hy];lia,λe ge le=>?_⟩
 ·have s:=(sums λk=>y.getD k 0).mp (K.nul y hy);have k:=key λk=>y.getD k 0;rw[s,<- Uw y (by rw[K.len y hy];exact ai _)]at k;exact k.pG (by generalize fx (mk p y)=a;grind)
 ·have ee:e=oK (λk=>(ls e).getD k 0) (λk=>xx p^k) ((ls G).length-1):=by rw[<- Uw (ls e) (by lia),jL]
  have k:=key λk=>(ls e).getD k 0;rw[<- ee]at k;have gl:=(ge.sub k).pG (c:=oK (λk=>(ls e).getD k 0) (λk=>mk p ((qT p (ls G)).getD k [])-xx p^k) ((ls G).length-1)) (by
   generalize oK (λk=>(ls e).getD k 0) (λk=>mk p ((qT p (ls G)).getD k [])-xx p^k) ((ls G).length-1)=a;grind)
  have z:=zT mg gl (by
   have:=NP p2 (c:=λk=>(ls e).getD k 0) rE rz;lia)
  obtain⟨c,hc⟩:=K.span (λk=>(ls e).getD k 0) ((sums _).mpr z);refine⟨c,?_⟩;rw[<- jL e,<- jL (oK c (λk=>mk p (t.getD k [])) t.length)];refine lH.mpr λj=>?_;have lj:=Bt (p:=p) (c:=c) (r:=λk=>t.getD k []) (E:=λk=>mk p (t.getD k [])) (n:=t.length) (λk _=>rfl) j;by_cases q:j<(ls G).length-1
  ·have:=dR (hc j q) lj
   rwa [show ∀x y z:Int,x-y-(z-y)=x-z from λx y z=>by lia]at this
  ·rw[m5 λk hk=>by rw[jr (xs:=t.getD k []) (by rw[K.len _ (by rw[gQ,ac hk];exact bC hk)];lia),aT],aQ]at lj;rw[jr (xs:=ls e) (by lia),Int.zero_sub];exact bq.mpr lj
theorem Xv (x:Int):∀y:List Int,ev y x=sm y.length λi=>y.getD i 0*x^i
 |[]=>rfl
 |n::r=>by
  rw[aG,ib,Ah];have e:(sm r.length λi=>(n::r).getD (1+i) 0*x^(1+i))=x*sm r.length λi=>r.getD i 0*x^i:=by rw[<- n8];refine jw λi _=>?_;rw[ib 1 i,iz];show r.getD i 0*(x^i*x)=_;rw[<- bG,b7]
  have e1:(sm 1 λi=>(n::r).getD i 0*x^i)=n:=by show 0+n*x^0=n;rw[jc];lia
  rw[e,e1,<- Xv x r];rfl
theorem Pg (hp:jN p){l:List (Pl p)}(I:wD l)(hl:(ls (PL l)).length<=200)(hh:h.length<=200)(st:Go (PL l) (fx (mk p h))){N:Nat}(hn:l.length<N){t:Tab}(K:yQ p N ((ls (PL l)).length-1) (jP p (ls (PL l)) h N) t) :
  0<t.length/\∀y∈t,∀q∈l,∀s:Int,Go q (mk p h-con p s)->p ∣ ev y s:=by
 have p2:2<=p:=hp.1;have mg:=I.mo p2;have rg:∀k,k<N->Go (PL l) (mk p ((jP p (ls (PL l)) h N).getD k [])-mk p h^k)/\((jP p (ls (PL l)) h N).getD k []).length=(ls (PL l)).length-1:=λk hk=>T8 hp mg hl h hk;have rz:∀k,k<N->∀j,(ls (PL l)).length-1<=j->((jP p (ls (PL l)) h N).getD k []).getD j 0=0:=λk hk j hj=>jr (by rw[(rg k hk).2];exact hj);have near:∀c:Nat->Int,Go (PL l) (oK c (λk=>mk p ((jP p (ls (PL l)) h N).getD k [])) N-oK c (λk=>mk p h^k) N):=λc=>by rw[zB];exact Es λk hk=>(rg k hk).1
 have pos:=mg.pos;constructor
 ·obtain⟨y,⟨i,hi,nd⟩,gy⟩:=Ys hp I (by rw[qi];exact aC (m8 p h) hh) st hn;have g2:=((near y).add gy).pG (c:=oK y (λk=>mk p ((jP p (ls (PL l)) h N).getD k [])) N) (by
   generalize oK y (λk=>mk p ((jP p (ls (PL l)) h N).getD k [])) N=a;generalize oK y (λk=>mk p h^k) N=b;grind)
  have z:=zT mg g2 (by
   have:=NP p2 (c:=y) (E:=λk=>mk p ((jP p (ls (PL l)) h N).getD k [])) (λk _=>rfl) rz;lia)
  exact K.ne (λj _=>Mf (E:=λk=>mk p ((jP p (ls (PL l)) h N).getD k [])) (λk _=>rfl) z j) hi nd
 ·intro y hy q hq s g;have z:oK (λk=>y.getD k 0) (λk=>mk p ((jP p (ls (PL l)) h N).getD k [])) N=0:=Mt p2 (λk _=>rfl) λj=>by
   by_cases c:j<(ls (PL l)).length-1
   ·exact K.nul y hy j c
   ·rw[m5 λk hk=>by rw[rz k hk j (by lia),aT]];exact aU p
  have nr:=near λk=>y.getD k 0;rw[z]at nr;have:=VD hp I (y:=λk=>y.getD k 0) (nr.flip.pG (by
   generalize oK (λk=>y.getD k 0) (λk=>mk p h^k) N=b;grind)) hq g
  rw[Xv,K.len y hy];exact this
end Pl
def Ha (p:Int)(h nums:List Int)(ps:List (List Int)):List (List Int):=ps.flatMap λc=>(nums.map λs=>gc p c (Tz p (jX h ([s].map λn=>-n)))).filter λf=>decide (1<f.length)
def rW (p:Int)(t:Tab)(nm:List Int->List Int)(g:List Int):Nat->List (List Int)
 |0=>[g]
 |i+1=>if (rW p t nm g i).length<t.length then Ha p (t.getD i []) (nm (t.getD i [])) (rW p t nm g i) else rW p t nm g i
def Ed (p:Int)(rel:List Int):List Int:=((List.range p.toNat).filter λ(k:Nat)=>decide (pl p (ev rel (k:Int))=0)).map λ(k:Nat)=>(k:Int)
namespace Pl
variable {p:Int}
theorem WN (h:Li)(s:Int):Tz p (jX h ([s].map λn=>-n))=ls (mk p h-con p s):=by have e:mk p h-con p s=mk p (jX h (zN (-1) [s])):=rfl;rw[e,qi];congr 2;show[-s]=[-1*s];rw[iU,b9]
theorem V0 (p2:2<=p){c:List (Pl p)}(I:∀q∈c,vD q):(1<(ls (PL c)).length) ↔ 0<c.length:=by
 have d:=Aw p2 I;constructor
 ·intro h;cases c with
  |nil=>
   have:(ls (PL ([]:List (Pl p)))).length=1:=by show(ls (1:Pl p)).length=1;rw[vJ p2];rfl
   lia
  |cons _ _=>exact dw _
 ·intro h;lia
theorem RD (hp:jN p)(I:wD l)(hh:h.length<=200)(st:Go (PL l) (fx (mk p h)))(hn:∀s∈nums,0<=s/\s<p):∀{cls:List (List (Pl p))},(∀c∈cls,(∀q∈c,q∈l)/\c.Nodup) ->
  Ha p h nums (cls.map λc=>ls (PL c))=(Zx (mk p h) nums cls).map λc=>ls (PL c)
 |[],_=>rfl
 |c::cls,hc=>by
  have p2:2<=p:=hp.1;obtain⟨s1,nd⟩:=hc c ag;have Ic:=I.sub s1 nd;have stc:∀q∈c,Go q (fx (mk p h)):=λq hq=>(wz (s1 q hq)).trans st;have lh:(ls (mk p h)).length<=200:=by rw[qi];exact aC (m8 p h) hh
  have ih:=RD hp I hh st hn (cls:=cls) λc' h'=>hc c' (ad _ h');unfold Ha Zx at ih ⊢;rw[aX,cL,cL,bF,<- ih];congr 1;unfold Z4;have e1:(nums.map λs=>gc p (ls (PL c)) (Tz p (jX h ([s].map λn=>-n))))=(nums.map λs=>c.filter λq=>decide (vl (mk p h) q=s)).map λf=>ls (PL f):=by rw[bx];refine bT λs hs=>?_;have If:=Ic.sub (m:=c.filter λq=>decide (vl (mk p h) q=s)) (λq hq=>(aS.mp hq).1) (nd.filter _);rw[WN];exact Jk (aaF hp Ic lh (by decide) stc (hn s hs).1 (hn s hs).2) (If.mo p2)
  rw[e1,iq];congr 1;refine fj λf hf=>?_;obtain⟨s,_,rfl⟩:=aR.mp hf;exact decide_eq_decide.mpr (V0 p2 λq hq=>I.irr q (s1 q (aS.mp hq).1))
structure T4 (l:List (Pl p))(t:Tab)(nm:List Int->List Int):Prop where
 nd:∀h∈t,(nm h).Nodup
 bd:∀h∈t,∀s∈nm h,0<=s/\s<p
 all:∀h∈t,∀q∈l,vl (mk p h) q∈nm h
theorem G7 {t:Tab}{k:Nat}(hk:k<t.length):t.getD k []∈t:=by rw[gQ,ac hk];exact bC hk
theorem Ay (hp:jN p){l:List (Pl p)}(I:wD l)(ne:l≠[]){t:Tab}(K:Xa (PL l) t){nm:List Int->List Int}(N:T4 l t nm):∀i,i<=t.length ->
  ∃cls H,Cls l H cls/\rW p t nm (ls (PL l)) i=cls.map (λc=>ls (PL c))/\(t.length<=cls.length\/∀k,k<i->mk p (t.getD k [])∈H)
 |0,_=>⟨[l],[],Cls.start ne,rfl,.inr λk hk=>absurd hk (da k)⟩
 |i+1,hi=>by
  obtain⟨cls,H,C,e,f⟩:=Ay hp I ne K N i (by lia);have ht:t.getD i []∈t:=G7 (by lia);have el:(rW p t nm (ls (PL l)) i).length=cls.length:=by rw[e,aa]
  show ∃cls H,Cls l H cls/\(if (rW p t nm (ls (PL l)) i).length<t.length then Ha p (t.getD i []) (nm (t.getD i [])) (rW p t nm (ls (PL l)) i) else rW p t nm (ls (PL l)) i)=_/\_;by_cases c:(rW p t nm (ls (PL l)) i).length<t.length
  ·rw[af c];refine⟨Zx (mk p (t.getD i [])) (nm (t.getD i [])) cls,mk p (t.getD i [])::H,C.step (N.nd _ ht) (N.all _ ht),?_,.inr λk hk=>?_⟩
   ·rw[e];refine RD hp I (K.len _ ht) (K.st _ ht) (N.bd _ ht) λc hc=>⟨λq hq=>C.mem hc hq,?_⟩;have nd:cls.flatten.Nodup:=(C.pm.nodup_iff).mpr I.nd;obtain⟨a,b,ec⟩:=gz hc;rw[ec,eQ,bN]at nd;exact(gK.mp (gK.mp nd).2.1).1
   ·by_cases z:k=i
    ·rw[z];exact ag
    ·rcases f with f|f
     ·rw[el]at c;lia
     ·exact ad _ (f k (by lia))
  ·rw[ae c];exact⟨cls,H,C,e,.inl (by rw[el]at c;lia)⟩
theorem S8 (hp:jN p){l:List (Pl p)}(I:wD l)(hl:(ls (PL l)).length<=200)(ne:l≠[]){t:Tab}(K:Xa (PL l) t){nm:List Int->List Int}(N:T4 l t nm):(rW p t nm (ls (PL l)) t.length).Perm (l.map ls):=by
 obtain⟨cls,H,C,e,f⟩:=Ay hp I ne K N t.length (ai _);have e2:(cls.map λc=>ls (PL c))=(cls.map PL).map ls:=by rw[bx];rfl
 rw[e,e2];exact(C.fin hp I hl K f).map ls
theorem Uv (hp:jN p){l:List (Pl p)}(I:wD l)(ne:l≠[]){t:Tab}(K:Xa (PL l) t){nm:List Int->List Int}(N:T4 l t nm){i:Nat}(hi:i<=t.length):(∀f∈rW p t nm (ls (PL l)) i,Fo p f/\f.length<=(ls (PL l)).length)/\(rW p t nm (ls (PL l)) i).length<=l.length:=by
 have p2:2<=p:=hp.1;obtain⟨cls,H,C,e,_⟩:=Ay hp I ne K N i hi;constructor
 ·intro f hf;rw[e]at hf;obtain⟨c,hc,rfl⟩:=aR.mp hf;refine⟨j7 _,?_⟩;obtain⟨a,b,ec⟩:=gz hc;have pm:(c++(a++b).flatten).Perm l:=by refine List.Perm.trans ?_ C.pm;rw[ec,eQ,eQ,bN];rw[<- cZ,<- cZ];exact List.Perm.append_right _ List.perm_append_comm
  have e2:PL l=PL (a++b).flatten*PL c:=by rw[<- Oq pm,QQ,mul_comm]
  have Ia:∀q∈(a++b).flatten,vD q:=λq hq=>I.irr q (pm.mem_iff.mp (aM _ hq));have Ic:∀q∈c,vD q:=λq hq=>I.irr q (pm.mem_iff.mp (cE _ hq));have m1:=Hx p2 λq hq=>(Ia q hq).mo;have:=Mo.len p2 m1 (Hx p2 λq hq=>(Ic q hq).mo);rw[<- e2]at this;have:=m1.pos;lia
 ·rw[e,aa,<- C.pm.length_eq];exact(zV C.ne).1
theorem aay (hp:jN p){l:List (Pl p)}(I:wD l){t:Tab}(K:Xa (PL l) t){rel:List Int->List Int}(h:∀h∈t,∀q∈l,∀s:Int,Go q (mk p h-con p s)->p ∣ ev (rel h) s):T4 l t λh=>Ed p (rel h):=by
 have p2:2<=p:=hp.1;refine⟨λh _=>?_,λh _ s hs=>?_,λy hy q hq=>?_⟩
 ·unfold Ed;refine dY _ (λa b hab e=>hab ?_) (g7.filter _);lia
 ·obtain⟨k,hk,rfl⟩:=aR.mp hs;have:=aW.mp (aS.mp hk).1;lia
 ·have ly:(ls (mk p y)).length<=200:=by rw[qi];exact aC (m8 p y) (K.len y hy)
  obtain⟨v0,v1,v2⟩:=Ly hp (I.irr q hq) ly ((wz hq).trans (K.st y hy));have d:=h y hy q hq _ v2;refine aR.mpr ⟨(vl (mk p y) q).toNat,aS.mpr ⟨aW.mpr (by lia),?_⟩,by lia⟩;have e:(((vl (mk p y) q).toNat:Nat):Int)=vl (mk p y) q:=by lia
  rw[e,decide_eq_true_iff,mD (by lia)];exact bW d
end Pl
theorem WR {k:Nat}(h:k<f.length):rM f none (some (k:Int))++[y]++rM f (some ((k:Int)+1)) none=f.set k y:=by rw[Lj,show((k:Int)+1)=((k+1:Nat):Int) from rfl,uT,cZ,List.singleton_append,List.set_eq_take_append_cons_drop,af h]
theorem zb (T:Top K mg cNO cK cR):Ok P w K mg base 3 "row_less_one" ["kind","row","at"] (Hc K (pX cR) (λas=>∃z row,∃a:Nat,as=[.ob 0 z,.ints row,.int (a:Int)]/\a<row.length/\row.length<=400) λas=>match as with
  |[.ob 0 z,.ints row,.int a]=>row.set a.toNat (pl z (row.getD a.toNat 0-1))
  |_=>[]):=by
 refine JL T.Bx zc (λas ⟨a,b,c,h,_⟩=>by rw[h];rfl) (λf cdv A outer s H E hr=>⟨_,(jm (mC (yg (jY (yg (jY (rK (xl 1) pL (lU (xn 2)) (λ_ _=>.inl rfl))) (jY (m7 (jh (qO 0 (V5 T) hr (jh (lL 1 (xn 2) (λ_ _=>rfl)) (jh jj jk))) jk))))) (jY (rK (xl 1) (lU (lG (xn 2) jj)) pL (λ_ _=>.inl rfl)))))),λas hp=>?_⟩);obtain⟨z,row,a,rfl,ha,hl⟩:=hp;have c1:=z7 row none (some (a:Int));have c2:=z7 row (some ((a:Int)+1)) none;have ix:jZ row.length (a:Int)=a:=by unfold jZ;rw[af (by lia)];lia
 refine⟨⟨⟨⟨rfl,tJ,rfl⟩,⟨⟨⟨rfl,⟨⟨.inl rfl,rfl,by show -(row.length:Int)<=(a:Int);lia,by show(a:Int)<(row.length:Int);lia⟩,tJ,tJ⟩,tJ,tJ⟩,tJ⟩,tJ⟩,bK (small1000 (by show(rM row none (some (a:Int))).length+1<=1000;lia))⟩,⟨rfl,⟨rfl,tJ⟩,tJ⟩,bK (small1000 ?_)⟩,?_⟩
 ·show(rM row none (some (a:Int))++[pl z (row.getD (jZ row.length (a:Int)) 0-1)]).length+(rM row (some ((a:Int)+1)) none).length<=1000;rw[ah,bv];lia
 ·show rM row none (some (a:Int))++[pl z (row.getD (jZ row.length (a:Int)) 0-1)]++rM row (some ((a:Int)+1)) none=row.set a (pl z (row.getD a 0-1));rw[WR ha,ix]
theorem wY (T:Top K mg cNO cK cR):Ok P w K mg base 1 "order_key" ["g"] (yu K (pX cR) (λas=>∃g,as=[.ints g]) λas=>match as with
  |[.ints g]=>V1 g
  |_=>.non):=by
 refine w5 T.HQ Gp (λas ⟨a,h⟩=>by rw[h];rfl) (λf cdv A outer s H E hr=>⟨_,(jm (jx (qH (jh (jU 0 T.jM) (jh (xl 0) jk))))),λas hp=>?_⟩);obtain⟨g,rfl⟩:=hp;exact⟨⟨.inl rfl,rfl,tJ⟩,rfl⟩
def Qe (p:Int)(rows:Tab):Tab:=zf (mW p (lO p) rows (jK rows)) (turnT p (lO p) rows (jK rows))
theorem wO (ok:Hd p g)(hk:k<n):((jP p (Tz p g) f n).getD k []).length=(Tz p g).length-1:=by rw[Og hk];obtain⟨_,_,ir,_⟩:=mL ok (pw f k);have:=ir.len;have:=Ui (m:=((Tz p g).length:Int)-1) (r:=rm p (Tz p g) (pw f k)) (by lia);lia
theorem Gm (ok:Hd p g)(hk:k<(Tz p g).length-1):((pP p (qT p (Tz p g))).getD k []).length=(Tz p g).length-1:=by have ql:(qT p (Tz p g)).length=(Tz p g).length-1:=oH ..;rw[NT (by lia),bQ];exact wO ok hk
theorem um (T:Top K mg cNO cK cR):Ok P w K mg base 8 "powering_less_one" ["kind","g"] (yu K (pX cR) (λas=>∃p g,as=[.ob 0 p,.ints g]/\Hd p g/\(Tz p g).length<=40) λas=>match as with
  |[.ob 0 p,.ints g]=>jt (pP p (qT p (Tz p g)))
  |_=>.non):=by
 refine w5 T.vh t6 (λas ⟨a,b,h,_⟩=>by rw[h];rfl) (λf cdv A outer s H E hr=>⟨_,(jm (jx (tQ (Lg (N':=["at","row","kind"]) (cap:=[some 0]) (ph rfl rfl rfl rfl ⟨⟨rfl,.inr (.inl rfl),Dz,.inl rfl,_,rfl,rfl⟩,tJ⟩ ⟨rfl,tJ⟩ rfl) rfl (by rfl) T.mF (nW (xc (IK T) hr (jh (xv 0) (jh (xl 1) jk)))) (λ_ _ _=>(pg_tup rfl (pgs_cons (pZ 0) (pgs_cons (pZ 1) pgs_nil)))) (λ_ _ _=>(jY (tW (zb T) hr (jh (xv 2) (jh (xl 1) (jh (xn 0) jk)))))))))),λas hp=>?_⟩);obtain⟨p,g,rfl,ok,l40⟩:=hp;have ql:(qT p (Tz p g)).length=(Tz p g).length-1:=oH ..;have rowl:∀k,k<(Tz p g).length-1->((qT p (Tz p g)).getD k []).length=(Tz p g).length-1:=λk hk=>wO ok hk;refine⟨⟨⟨⟨⟨rfl,rfl,tJ⟩,p,g,rfl,ok,l40⟩,rfl⟩,?_,λi q hq=>?_⟩,?_⟩
 ·show((qT p (Tz p g)).map PV.ints).length<=1000;rw[aa];lia
 ·have hq:((qT p (Tz p g)).map PV.ints)[i]?=some q:=hq;rw[ao]at hq;obtain⟨x,hx,rfl⟩:=de.mp hq;have hi:=(aj.mp hx).1;have ex:(qT p (Tz p g)).getD i []=x:=by rw[gQ,hx];rfl
  have:=rowl i (by lia);rw[ex]at this;exact⟨⟨rfl,rfl,rfl,tJ⟩,p,x,i,rfl,by lia,by lia⟩
 ·refine congrArg PV.lst (du λi=>?_);show(((qT p (Tz p g)).map PV.ints).mapIdx _)[i]?=((pP p (qT p (Tz p g))).map PV.ints)[i]?;unfold pP;rw[cG,ao,ao,cG];cases (qT p (Tz p g))[i]? <;> rfl
theorem Y0 (hp:jN p)(hn:rows.length=N)(hN:0<N)(hw:∀i,i<N->(rows.getD i []).length=W):jK rows=W/\yQ p N W rows (Qe p rows):=by have e:jK rows=W:=hw 0 hN;refine⟨e,?_⟩;unfold Qe;rw[e];exact XS hp.1 (λx h0 h1=>(Bo hp x h0 h1).2) hn hw
def rF (p:Int)(g h:List Int)(n:Nat):List Int:=(Qe p (jP p (Tz p g) h (n+1))).getD 0 []
theorem u9 (T:Top K mg cNO cK cR):Ok P w K mg base 7 "possible_numbers" ["kind","h","count","g"] (Hc K (pX cR) (λas=>∃p h,∃n:Nat,∃g,as=[.ob 0 p,.ints h,.int (n:Int),.ints g]/\Hd p g/\h.length<=50/\Bd h/\(Tz p g).length<=40/\n<=50/\0<(Qe p (jP p (Tz p g) h (n+1))).length) λas=>match as with
  |[.ob 0 p,.ints h,.int n,.ints g]=>Ed p (rF p g h n.toNat)
  |_=>[]):=by
 refine JL T.vM qb (λas ⟨a,b,c,d,h,_⟩=>by rw[h];rfl) (λf cdv A outer s H E hr=>⟨_,(ji (jC (i:=4) qb.nd rfl (Or.inr rfl) (xl_of (ju (xc (Dh T) hr (jh (xv 0) (jh (xc (vB T) hr (jh (xv 0) (jh (xl 1) (jh (lG (xn 2) jj) (jh (xl 3) jk))))) jk))) jj (λ_ _=>rfl))))
 (jm (mC (Wu (N':=["number","kind","relation"]) (cap:=[some 0,some 4]) (ph rfl rfl rfl rfl ⟨⟨rfl,.inr (.inl rfl),Dz,.inl rfl,_,rfl,rfl⟩,⟨⟨rfl,.inr (.inl rfl),Dz,.inl rfl,_,rfl,rfl⟩,tJ⟩⟩ ⟨rfl,⟨rfl,tJ⟩⟩ rfl) rfl (by rfl) T.oV (GJ (ksz T) (xv 0)) (λ_ _ _=>(pZ 0)) (λ_ _ _=>(yR (ZK (QL T) hr (jh (xv 1) (jh (xl 2) (jh (xn 0) jk)))) jj)) (λ_ _ _=>(xn 0)))))),λas hp=>?_⟩)
 obtain⟨p,h,n,g,rfl,ok,hl,hb,gl,nl,pos⟩:=hp;have p2:2<=p:=ok.pr.1;have p3:p<=9973:=ok.pr.2.1;have rl:(jP p (Tz p g) h (n+1)).length=n+1:=oH ..;have rr:∀i,i<n+1->((jP p (Tz p g) h (n+1)).getD i []).length=(Tz p g).length-1:=λi hi=>wO ok hi;obtain⟨ew,KO⟩:=Y0 ok.pr rl (dw n) rr;have en:((n:Int)+1)=((n+1:Nat):Int):=by lia
 have e1:jt (jP p (Tz p g) h ((n:Int)+1).toNat)=jt (jP p (Tz p g) h (n+1)):=by rw[en,aA]
 have e2:jt (zf (mW p (lO p) (((jP p (Tz p g) h ((n:Int)+1).toNat).map PV.ints).map j8) (jK (((jP p (Tz p g) h ((n:Int)+1).toNat).map PV.ints).map j8))) (turnT p (lO p) (((jP p (Tz p g) h ((n:Int)+1).toNat).map PV.ints).map j8) (jK (((jP p (Tz p g) h ((n:Int)+1).toNat).map PV.ints).map j8))))=jt (Qe p (jP p (Tz p g) h (n+1))):=by rw[mY,en,aA];rfl
 have hx:∀t,t=jt (Qe p (jP p (Tz p g) h (n+1)))->lR t 0:=λt e=>by rw[e];exact yq (i:=0) pos
 have hx2:∀t,t=jt (Qe p (jP p (Tz p g) h (n+1)))->jV t 0=.ints (j8 (jV t 0)):=λt e=>by rw[e];exact xR (i:=0) pos
 have hx3:∀t,t=jt (Qe p (jP p (Tz p g) h (n+1)))->j8 (jV t 0)=rF p g h n:=λt e=>by rw[e];exact Bc (i:=0) pos
 refine⟨⟨⟨⟨⟨rfl,⟨⟨rfl,rfl,⟨rfl,tJ⟩,rfl,tJ⟩,p,h,n+1,g,?_,ok,hl,hb,by lia,by lia⟩,tJ⟩,p,jP p (Tz p g) h (n+1),?_,ok.pr,by lia,by lia,λi hi=>?_⟩,tJ,?_⟩,?_⟩,λre ere=>?_⟩
 ·show[PV.ob 0 p,.ints h,.int ((n:Int)+1),.ints g]=_;rw[en]
 ·exact congrArg (λt=>[PV.ob 0 p,t]) e1
 ·rw[ew];exact rr i (by lia)
 ·exact hx _ e2
 ·exact hx2 _ e2
 have ere:re=rF p g h n:=ere.trans (hx3 _ e2);have rm:rF p g h n∈Qe p (jP p (Tz p g) h (n+1)):=Pl.G7 pos;have red:=KO.red _ rm;have rlen:re.length<=80:=by rw[ere,KO.len _ rm];lia
 have rsm:∀m∈re,m.natAbs<=2^200:=λm hm=>by
  obtain⟨i,hi,rfl⟩:=bY.mp hm;have:=red i;rw[<- ere,gQ,ac hi]at this;have b:=BX (z:=p) (n:=re[i]) (by lia);have this:pl p re[i]=re[i]:=this;rw[this]at b;have:re[i].natAbs<=10000:=by lia
  exact aC this (by decide)
 refine jJ (Z':=[.fr (.ob 0 p),.fr (.ints h),.fr (.int (n:Int)),.fr (.ints g),.fr (.ints re)]) rfl ?_;refine⟨⟨⟨rfl,rfl⟩,⟨by show(0:Int)<=p;lia,by show p<=(10000:Int);lia⟩,λk hk=>?_⟩,?_⟩
 ·have hk:k<p.toNat:=hk;refine⟨⟨⟨⟨rfl,rfl,rfl,tJ⟩,p,re,(k:Int),rfl,by lia,?_,rlen,?_,rsm⟩,tJ⟩,λ_=>rfl⟩
  ·have:(10000:Int)<((2^9000:Nat):Int):=Int.ofNat_lt.mpr (aD (show 10000<2^14 by decide) (cF (by decide) (by decide)));generalize ((2^9000:Nat):Int)=B at *
   lia
  ·have:(k:Int).natAbs<=10000:=by lia
   exact aC this (by decide)
 ·show List.map _ (List.filter _ (List.range p.toNat))=Ed p (rF p g h ((n:Int)).toNat);rw[aA,<- ere];rfl
theorem CV (T:Top K mg cNO cK cR):Ok P w K mg base 6 "told_apart" ["kind","pieces","h","numbers"] (yu K (pX cR) (λas=>∃p ps h nums,as=[.ob 0 p,jt ps,.ints h,.ints nums]/\jN p/\ps.length<=100/\(∀f∈ps,f.length<=200)/\h.length<=100/\nums.length<=10000) λas=>match as with
  |[.ob 0 p,.lst ps,.ints h,.ints nums]=>jt (Ha p h nums (ps.map j8))
  |_=>.non):=by
 refine w5 T.Gg nU (λas ⟨a,b,c,d,h,_⟩=>by rw[h];rfl) (λf cdv A outer s H E hr=>⟨_,(ji (t7 (i:=4) nU.nd rfl (Or.inl rfl) (sO jk))
 (ji (xm (k:=5) aE rfl (nW (xv 1)) nU.nd rfl (Or.inl rfl)
 (jm (Ci (k:=6) aE rfl (xl 3) nU.nd rfl (Or.inl rfl)
 (ji (jC (i:=7) nU.nd rfl (Or.inl rfl) (jY (tW (yf T) hr (jh (xv 0) (jh (xl 5) (jh (jY (tW (VR T) hr (jh (xv 0) (jh (xl 2) (jh (jY (m7 (jh (xn 6) jk))) jk))))) jk))))))
 (jm (lJ (xF (jU 7 T.jM) jj)
 (jm (uz 4 (xl 7)))
 kj))))))
 (lz 4 (jm (jx (xv 4)))))),λas hp=>?_⟩)
 obtain⟨p,ps,h,nums,rfl,hp,pl',pf,hl,nl⟩:=hp;have big:∀{x y:Nat},x<=100->y<=10000->x*10000+y<sizeLine:=λ{x y} a b=>aO (show x*10000+y<=1010000 by lia) (by decide);have tl:∀i,i<=ps.length->(Ha p h nums (ps.take i)).length<=i*10000:=λi=>by
  induction i with
  |zero=>intro _;exact bh _
  |succ i ih=>intro hi;have e:=nH (ac (show i<ps.length by omega));unfold Ha at ih ⊢;rw[e,eR,ah,cL,fE,bu];have a:=ih (by omega);have b:=cO (λf=>decide (1<f.length)) (nums.map λs=>gc p ps[i] (Tz p (jX h ([s].map λn=>-n))));rw[aa]at b;omega
 refine⟨tJ,λl0 el0=>?_⟩;subst el0;refine jJ (Z':=[.fr (.ob 0 p),.fr (jt ps),.fr (.ints h),.fr (.ints nums),.ow (.lst []),.un,.un,.un]) rfl ?_;refine⟨⟨rfl,rfl⟩,λi Z=>∃v5 v6 v7,Z=[.fr (.ob 0 p),.fr (jt ps),.fr (.ints h),.fr (.ints nums),.ow (jt (Ha p h nums (ps.take i))),v5,v6,v7],⟨.un,.un,.un,rfl⟩,?_,?_⟩
 ·rintro i q Z hq ⟨v5,v6,v7,rfl⟩;have hq:(ps.map PV.ints)[i]?=some q:=hq;rw[ao]at hq;obtain⟨x,hx,rfl⟩:=de.mp hq;have il:i<ps.length:=(aj.mp hx).1;have xl:=pf x (aV hx);have t1:=tl i (by lia);refine⟨rfl,λj Z=>∃v6 v7,Z=[.fr (.ob 0 p),.fr (jt ps),.fr (.ints h),.fr (.ints nums),.ow (jt (Ha p h nums (ps.take i)++((nums.take j).map λs=>gc p x (Tz p (jX h ([s].map λn=>-n)))).filter λf=>decide (1<f.length))),.fr (.ints x),v6,v7],⟨v6,v7,?_⟩,?_,?_⟩
  ·rw[iK,dP,fU,bu];rfl
  ·rintro j m Z hm ⟨v6,v7,rfl⟩;have hm:nums[j]?=some m:=hm;have jl:j<nums.length:=(aj.mp hm).1;have t2:(((nums.take j).map λs=>gc p x (Tz p (jX h ([s].map λn=>-n)))).filter λf=>decide (1<f.length)).length<=j:=by refine aC (cO _ _) ?_;rw[aa,aI];lia
   have addl:(Tz p (jX h ([m].map λn=>-n))).length<=200:=by refine aC (m8 _ _) ?_;unfold jX;rw[aa,aq];show max h.length 1<=200;lia
   refine⟨⟨⟨rfl,rfl,⟨⟨rfl,rfl,⟨⟨rfl,tJ⟩,tJ⟩,tJ⟩,p,h,[m],rfl,by lia,by show 1<=500;decide⟩,tJ⟩,p,x,Tz p (jX h ([m].map λn=>-n)),rfl,hp,xl,addl⟩,λsh esh=>?_⟩;have esh:sh=gc p x (Tz p (jX h ([m].map λn=>-n))):=esh;refine jJ (Z':=[.fr (.ob 0 p),.fr (jt ps),.fr (.ints h),.fr (.ints nums),.ow (jt (Ha p h nums (ps.take i)++((nums.take j).map λs=>gc p x (Tz p (jX h ([s].map λn=>-n)))).filter λf=>decide (1<f.length))),.fr (.ints x),.fr (.int m),.fr (.ints sh)]) rfl ?_;have nx:((nums.take (j+1)).map λs=>gc p x (Tz p (jX h ([s].map λn=>-n)))).filter (λf=>decide (1<f.length))=(((nums.take j).map λs=>gc p x (Tz p (jX h ([s].map λn=>-n)))).filter λf=>decide (1<f.length))++if 1<sh.length then[sh] else[]:=by
    rw[nH hm,bF,gu,aX,dP,<- esh];congr 1;by_cases c:1<sh.length
    ·rw[af c,cw (by exact aL c),fU]
    ·rw[ae c,cC (by simpa using c),fU]
   refine⟨⟨.inl rfl,tJ⟩,λq=>?_,λq=>?_⟩
   ·have q:(sh.length:Int) > 1:=q;refine⟨rfl,rfl,?_,?_⟩
    ·show((Ha p h nums (ps.take i)++(((nums.take j).map λs=>gc p x (Tz p (jX h ([s].map λn=>-n)))).filter λf=>decide (1<f.length))).map PV.ints).length<sizeLine;rw[aa,ah];exact aO (Nat.add_le_add t1 t2) (big (by lia) (by lia))
    ·refine⟨.fr (.int m),.fr (.ints sh),?_⟩;rw[nx,af (by lia),<- cZ];unfold jt;rw[bF (l₂:=[sh])];rfl
   ·have q:¬(sh.length:Int) > 1:=q;refine⟨.fr (.int m),.fr (.ints sh),?_⟩;rw[nx,ae (by lia),bu]
  ·rintro Z ⟨v6,v7,rfl⟩;refine⟨.fr (.ints x),v6,v7,?_⟩;have e:Ha p h nums (ps.take (i+1))=Ha p h nums (ps.take i)++((nums.take nums.length).map λs=>gc p x (Tz p (jX h ([s].map λn=>-n)))).filter λf=>decide (1<f.length):=by unfold Ha;rw[nH hx,eR,cH,cL,fE,bu]
   rw[e];rfl
 ·rintro Z ⟨v5,v6,v7,rfl⟩;refine⟨rfl,?_⟩;show jt (Ha p h nums (ps.take (ps.map PV.ints).length))=jt (Ha p h nums ((ps.map PV.ints).map j8));rw[aa,cH,mY]
theorem Mq (kf:PV->List Int):∀ps:List PV,(ps.map kf).Nodup->∃l:List PV,l.Perm ps/\l.Pairwise λa b=>kI (kf a) (kf b)=true
 |[],_=>⟨[],.nil,.nil⟩
 |q::ps,nd=>by
  rw[aX,cN]at nd;obtain⟨l,pm,so⟩:=Mq kf ps nd.2;have ne:∀x∈l,kf x≠kf q:=λx hx z=>nd.1 (aR.mpr ⟨x,pm.mem_iff.mp hx,z⟩);refine⟨(l.filter λx=>kI (kf x) (kf q))++q::l.filter (λx=>!kI (kf x) (kf q)),?_,?_⟩
  ·refine hJ.trans (List.Perm.cons q ?_);exact(Pl.uR (λx=>kI (kf x) (kf q)) l).trans pm
  ·refine List.pairwise_append.mpr ⟨so.filter _,a9.mpr ⟨λb hb=>?_,so.filter _⟩,λa ha b hb=>?_⟩
   ·obtain⟨h1,h2⟩:=aS.mp hb;exact xJ (ne b h1) (by simpa using h2)
   ·have h1:=(aS.mp ha).2;rcases aB.mp hb with rfl|hb
    ·exact h1
    ·obtain⟨h3,h2⟩:=aS.mp hb;exact Gu h1 (xJ (ne b h3) (by simpa using h2))
theorem uK (nd:(ps.map kf).Nodup):(j6 kf ps).Perm ps/\(j6 kf ps).Pairwise λa b=>kI (kf a) (kf b)=true:=by obtain⟨l,a,b⟩:=Mq kf ps nd;rw[Bw a b];exact⟨a,b⟩
theorem JX (nd:(qs.map kf).Nodup)(h:ps.Perm qs):j6 kf ps=j6 kf qs:=Bw ((uK nd).1.trans h.symm) (uK nd).2
def stI (p:Int)(g:List Int):Tab:=Qe p (pP p (qT p (Tz p g)))
def ou (p:Int)(g:List Int):List (List Int):=rW p (stI p g) (λh=>Ed p (rF p g h (stI p g).length)) (Tz p g) (stI p g).length
open Pl in
theorem yK (hp:jN p){l:List (Pl p)}(I:wD l)(ne:l≠[])(e:Tz p g=ls (PL l))(gl:g.length<=200)(hl:(Tz p g).length<=40) :
  Hd p g/\Xa (PL l) (stI p g)/\(stI p g).length<=39/\(∀h∈stI p g,h.length<=39/\(∀j,pl p (h.getD j 0)=h.getD j 0)/\0<(Qe p (jP p (Tz p g) h ((stI p g).length+1))).length)/\T4 l (stI p g) (λh=>Ed p (rF p g h (stI p g).length)):=by
 have p2:2<=p:=hp.1;have mg:=I.mo p2;have d:=Aw p2 I.irr;have l1:=lP ne;have le:(ls (PL l)).length<=40:=by rw[<- e];exact hl
 have ok:Hd p g:=⟨hp,gl,by rw[e];exact mg.ne,by rw[e,show jo (ls (PL l))=1 from mg];exact g8 ..⟩;have n0:(Tz p g).length=(ls (PL l)).length:=by rw[e]
 have pl0:(pP p (qT p (Tz p g))).length=(Tz p g).length-1:=by rw[Iu];exact oH ..
 obtain⟨_,KO⟩:=Y0 hp pl0 (by lia) λi hi=>Gm ok hi;have KO':yQ p ((ls (PL l)).length-1) ((ls (PL l)).length-1) (pP p (qT p (ls (PL l)))) (stI p g):=by rw[<- e];exact KO
 have K:=PB hp mg (by lia) (by lia) KO';have km:=Ir hp I (by lia) K;have rel:∀h∈stI p g,0<(Qe p (jP p (Tz p g) h ((stI p g).length+1))).length/\∀q∈l,∀s:Int,Go q (mk p h-con p s)->p ∣ ev (rF p g h (stI p g).length) s:=λh hh=>by
  obtain⟨_,KR⟩:=Y0 hp (rows:=jP p (Tz p g) h ((stI p g).length+1)) (oH ..) (dw _) λi hi=>wO ok hi;have KR':yQ p ((stI p g).length+1) ((ls (PL l)).length-1) (jP p (ls (PL l)) h ((stI p g).length+1)) (Qe p (jP p (Tz p g) h ((stI p g).length+1))):=by rw[<- e];exact KR
  obtain⟨a,b⟩:=Pg hp I (by lia) (K.len h hh) (K.st h hh) (by lia) KR';exact⟨a,λq hq s gs=>b _ (G7 a) q hq s gs⟩
 exact⟨ok,K,aC KO.le (by lia),λh hh=>⟨by rw[KO.len h hh];lia,KO.red h hh,(rel h hh).1⟩,aay hp I K λh hh=>(rel h hh).2⟩
open Pl in
theorem Bk {l:List (Pl p)}(nd:l.Nodup):(l.map ls).Nodup:=dY _ (λ_ _ h e=>h (Mo.inj e)) nd
open Pl in
theorem ye (hp:jN p){l:List (Pl p)}(I:wD l)(ne:l≠[])(e:Tz p g=ls (PL l))(gl:g.length<=200)(hl:(Tz p g).length<=40):(ou p g).Perm (l.map ls):=by obtain⟨_,K,_,_,N⟩:=yK hp I ne e gl hl;unfold ou;rw[e];exact S8 hp I (by rw[<- e];lia) ne K N
theorem yj (t:List (List Int)):(t.map PV.ints).map lN=t:=Oz t
theorem Vp (p:Int)(r:Li):(Ed p r).length<=p.toNat:=by unfold Ed;rw[aa];refine aC (cO _ _) ?_;rw[aq];exact ai _
theorem YW (hp:jN p)(r:∀j,pl p (h.getD j 0)=h.getD j 0):Bd h:=λx hx=>by
 obtain⟨i,hi,rfl⟩:=bY.mp hx;have:=r i;rw[gQ,ac hi]at this;have this:pl p h[i]=h[i]:=this;have b:=BX (z:=p) (n:=h[i]) (by have:=hp.1;lia);rw[this]at b;have:h[i].natAbs<2^14:=by have:=hp.2.1;lia
 exact aD this (cF (by decide) (by decide))
open Pl in
theorem Rc (T:Top K mg cNO cK cR):Ok P w K mg base 9 "split" ["kind","g"] (yu K (pX cR) (λas=>∃p g,as=[.ob 0 p,.ints g]/\jN p/\g.length<=200/\(Tz p g).length<=40/\∃l:List (Pl p),wD l/\l≠[]/\Tz p g=ls (PL l)) λas=>match as with
  |[.ob 0 p,.ints g]=>.lst (j6 lN ((ou p g).map PV.ints))
  |_=>.non):=by
 refine w5 T.Wd uv (λas ⟨a,b,h,_⟩=>by rw[h];rfl) (λf cdv A outer s H E hr=>⟨_,(ji (mV (i:=2) uv.nd rfl (Or.inl rfl) (tQ (sO (jh (jY (tW (jW T) hr (jh (xv 0) (jh (xl 1) jk)))) jk))))
 (ji (mV (i:=3) uv.nd rfl (Or.inl rfl) (xc (Dh T) hr (jh (xv 0) (jh (xc (um T) hr (jh (xv 0) (jh (xl 1) jk))) jk))))
 (ji (xm (k:=4) aE rfl (nW (xv 3)) uv.nd rfl (Or.inl rfl)
 (jm (lJ (SQ (lZ T.jM (xv 2)) (lZ T.jM (xv 3)))
 (jm (mV (i:=2) uv.nd rfl (Or.inl rfl) (xc (CV T) hr (jh (xv 0) (jh (xv 2) (jh (xl 4) (jh (jY (tW (u9 T) hr (jh (xv 0) (jh (xl 4) (jh (lZ T.jM (xv 3)) (jh (xl 1) jk)))))) jk)))))))
 kj)))
 (jm (jx (tQ (Ro lN (wY T) hr T.Am (xv 2)))))))),λas hp=>?_⟩)
 obtain⟨p,g,rfl,hp,gl,hl,l,I,ne,e⟩:=hp;have p2:2<=p:=hp.1;have p3:p<=9973:=hp.2.1;obtain⟨ok,K,tl,tr,N⟩:=yK hp I ne e gl hl;have pe:=ye hp I ne e gl hl;have SL:=λi hi=>Uv hp I ne K N (i:=i) hi;rw[<- e]at SL;have d:=Aw p2 I.irr;rw[<- e]at d;have pl0:(pP p (qT p (Tz p g))).length=(Tz p g).length-1:=by rw[Iu];exact oH ..
 have w0:jK (pP p (qT p (Tz p g)))=(Tz p g).length-1:=Gm ok (by have:=lP ne;lia);have e2:jt (zf (mW p (lO p) (((pP p (qT p (Tz p g))).map PV.ints).map j8) (jK (((pP p (qT p (Tz p g))).map PV.ints).map j8))) (turnT p (lO p) (((pP p (qT p (Tz p g))).map PV.ints).map j8) (jK (((pP p (qT p (Tz p g))).map PV.ints).map j8))))=jt (stI p g):=by rw[mY];rfl
 unfold ou at pe;refine⟨⟨⟨⟨rfl,rfl,tJ⟩,p,g,rfl,by lia⟩,tJ⟩,λpc epc=>?_⟩;replace epc:pc=jt [Tz p g]:=epc;refine⟨⟨⟨rfl,⟨⟨rfl,rfl,tJ⟩,p,g,rfl,ok,hl⟩,tJ⟩,p,pP p (qT p (Tz p g)),rfl,hp,by lia,by lia,λi hi=>by rw[w0];exact Gm ok (by lia)⟩,λst est=>?_⟩;replace est:st=jt (zf (mW p (lO p) (((pP p (qT p (Tz p g))).map PV.ints).map j8) (jK (((pP p (qT p (Tz p g))).map PV.ints).map j8))) (turnT p (lO p) (((pP p (qT p (Tz p g))).map PV.ints).map j8) (jK (((pP p (qT p (Tz p g))).map PV.ints).map j8)))):=est;rw[e2]at est;refine jJ (Z':=[.fr (.ob 0 p),.fr (.ints g),.fr pc,.fr st,.un]) rfl ?_;subst epc est;have N1:∀i h,(stI p g)[i]?=some h->rW p (stI p g) (λh=>Ed p (rF p g h (stI p g).length)) (Tz p g) (i+1)=if (rW p (stI p g) (λh=>Ed p (rF p g h (stI p g).length)) (Tz p g) i).length<(stI p g).length then Ha p h (Ed p (rF p g h (stI p g).length)) (rW p (stI p g) (λh=>Ed p (rF p g h (stI p g).length)) (Tz p g) i) else rW p (stI p g) (λh=>Ed p (rF p g h (stI p g).length)) (Tz p g) i:=λi h hx=>by
  have eh:(stI p g).getD i []=h:=by rw[gQ,hx];rfl
  rw[<- eh];rfl
 have N0:[Tz p g]=rW p (stI p g) (λh=>Ed p (rF p g h (stI p g).length)) (Tz p g) 0:=rfl;have NE:rW p (stI p g) (λh=>Ed p (rF p g h (stI p g).length)) (Tz p g) (stI p g).length=ou p g:=rfl;rw[NE]at pe;generalize rW p (stI p g) (λh=>Ed p (rF p g h (stI p g).length)) (Tz p g)=S at *
 generalize hSp:ou p g=Sp at pe NE;generalize hnm:(λh=>Ed p (rF p g h (stI p g).length))=nm at *
 generalize stI p g=t at *
 have lT:(t.map PV.ints).length=t.length:=aa _;refine⟨⟨rfl,rfl⟩,λi Z=>∃v4,Z=[.fr (.ob 0 p),.fr (.ints g),.fr (jt (S i)),.fr (jt t),v4],⟨.un,by rw[<- N0]⟩,?_,?_⟩
 ·rintro i q Z hq ⟨v4,rfl⟩;have hq:(t.map PV.ints)[i]?=some q:=hq;rw[ao]at hq;obtain⟨h,hx,rfl⟩:=de.mp hq;have il:i<t.length:=(aj.mp hx).1;obtain⟨h1,h2,h3⟩:=tr h (aV hx);obtain⟨s1,s2⟩:=SL i (by lia);have nx:=N1 i h hx;have lS:((S i).map PV.ints).length=(S i).length:=aa _;refine⟨⟨⟨rfl,tJ⟩,rfl,tJ⟩,λq=>?_,λq=>?_⟩
  ·have q:(((S i).map PV.ints).length:Int)<((t.map PV.ints).length:Int):=q;refine⟨⟨⟨rfl,rfl,rfl,⟨⟨rfl,rfl,⟨rfl,tJ⟩,rfl,tJ⟩,p,h,t.length,g,?_,ok,by lia,YW hp h2,hl,by lia,h3⟩,tJ⟩,p,S i,h,Ed p (rF p g h t.length),?_,hp,by lia,λf hf=>by have:=(s1 f hf).2;lia,by lia,?_⟩,λnw enw=>?_⟩
   ·show[PV.ob 0 p,.ints h,.int ((t.map PV.ints).length:Int),.ints g]=_;rw[lT]
   ·show[PV.ob 0 p,jt (S i),.ints h,.ints (Ed p (rF p g h (((t.map PV.ints).length:Int)).toNat))]=_;rw[lT,aA]
   ·have:=Vp p (rF p g h t.length);lia
   ·have enw:nw=jt (Ha p h (Ed p (rF p g h (((t.map PV.ints).length:Int)).toNat)) (((S i).map PV.ints).map j8)):=enw;rw[lT,aA,mY]at enw;refine⟨.fr (.ints h),?_⟩;rw[nx,af (by lia),enw];rfl
  ·have q:¬(((S i).map PV.ints).length:Int)<((t.map PV.ints).length:Int):=q;refine⟨.fr (.ints h),?_⟩;rw[nx,ae (by lia)];rfl
 ·rintro Z ⟨v4,rfl⟩;have eL:S (t.map PV.ints).length=Sp:=by rw[lT];exact NE
  have nd:Sp.Nodup:=pe.nodup_iff.mpr (Bk I.nd);have ll:Sp.length<=40:=by rw[pe.length_eq,aa];lia
  refine⟨⟨rfl,rfl,⟨?_,?_⟩,λq hq=>?_⟩,?_⟩
  ·show((S (t.map PV.ints).length).map PV.ints).length<64;rw[eL,aa];lia
  ·show(((S (t.map PV.ints).length).map PV.ints).map lN).Nodup;rw[eL,yj];exact nd
  ·have hq:q∈(S (t.map PV.ints).length).map PV.ints:=hq;obtain⟨x,_,rfl⟩:=aR.mp hq;exact⟨⟨x,rfl⟩,rfl⟩
  ·show PV.lst (j6 lN ((S (t.map PV.ints).length).map PV.ints))=PV.lst (j6 lN ((ou p g).map PV.ints));rw[eL,hSp]
def Qs (q:PV):List Int:=lN (Ob q)
def Qn (p:Int)(f:List Int):List PV:=(pN (Jf p f)).flatMap λq=>(j6 lN ((ou p (lN (pO q))).map PV.ints)).map λr=>.tup [r,p6 q]
open Pl in
def jT {p:Int}(r:Pl p×Nat):PV:=.tup [.ints (ls r.1),.int (r.2:Int)]
open Pl in
structure CZ {p:Int}(f:List Int)(L:List (Pl p×Nat)):Prop where
 irr:∀q∈L,vD q.1/\(ls q.1).length<=31/\q.2≠0/\q.2<31
 ne:L.Pairwise λa b=>a.1≠b.1
 eN:ls (Pr L id)=qP p (Tz p f)
 fp:Jf p f=.lst (Hn L)
 fam:wu L
open Pl in
theorem Yw (hp:jN p)(ne:Tz p f≠[]):ls (mk p (qP p (Tz p f)))=qP p (Tz p f)/\Mo (mk p (qP p (Tz p f))):=by
 have G:=z9 hp (kW p f) (oA p f);have eN:ls (mk p (qP p (Tz p f)))=qP p (Tz p f):=vp ⟨G.form,G.red⟩;refine⟨eN,?_⟩;show jo (ls (mk p (qP p (Tz p f))))=1;rw[eN];rcases G.one with z|z
 ·exfalso;obtain⟨Q,hQ⟩:=G.d1;rw[z]at hQ;refine ne (oU (kW p f) oR λn=>tG (oA p f n) (by show pl p 0=0;exact lW p) ?_);have:=hQ n;rw[jG,lV,aQ]at this;exact this
 ·exact z
open Pl in
theorem Nb (hp:jN p)(ne:Tz p f≠[])(nl:(qP p (Tz p f)).length<=31):∃L:List (Pl p×Nat),CZ f L:=by
 have p2:2<=p:=hp.1;obtain⟨eN,mN⟩:=Yw hp ne;obtain⟨L,h1,h2,h3⟩:=Nm hp mN;rw[eN]at h1;have F:wu L:=⟨gL (λ{a b} ha hb n=>(h1 a ha).1.cop hp (h1 b hb).1 (by have:=(h1 b hb).2.1;lia) n) h2,λq hq=>Ng hp (h1 q hq).1 (by have:=(h1 q hq).2.1;lia),λq hq=>(h1 q hq).1.mo,λq hq=>(h1 q hq).1.deg⟩;have nz:∀q∈L,q.2≠0:=λq hq=>(h1 q hq).2.2;rw[h3]at eN;refine⟨L,λq hq=>⟨(h1 q hq).1,by have:=(h1 q hq).2.1;lia,nz q hq,?_⟩,h2,eN,?_,F⟩
 ·have big:q.2<(ls (Pr L id)).length:=xU p2 (g:=id) F.mo F.dg q hq;rw[eN]at big;lia
 ·unfold Jf;rw[<- eN]at nl ⊢;have h:(lf p (ls (Pr L id)) 40).length<=1:=dC λc=>by have:=Ih hp F c;lia
  rw[(Io hp F nz nl h).2]
open Pl in
theorem Tu (c:Nat):∀L:List (Pl p×Nat),PL ((L.filter λr=>decide (r.2=c)).map λr=>r.1)=Pr L (ind c)
 |[]=>rfl
 |q::L=>by
  rw[jF,<- Tu c L];unfold ind;by_cases h:q.2=c
  ·rw[cw (by exact aL h),af h];show q.1*PL _=q.1^0*q.1*PL _;rw[MT,one_mul]
  ·rw[cC (by simpa using h),ae h,MT,one_mul]
open Pl in
theorem Qa (p2:2<=p){L:List (Pl p×Nat)}(F:wu L)(nz:∀q∈L,q.2≠0)(c:Nat):(ls (Pr L (ind c))).length<=(ls (Pr L id)).length:=by
 have e:=Ad (L:=L) (g:=id) (h:=ind c) λq hq=>by
  unfold ind;split
  ·have:=nz q hq;show 1<=q.2;lia
  ·exact bh _
 have l:=Mo.len p2 (F.pr p2 λm=>id m-ind c m) (F.pr p2 (ind c));rw[<- e]at l;have:=(F.pr p2 λm=>id m-ind c m).pos;lia
open Pl in
theorem Hu (p2:2<=p):∀{L:List (Pl p×Nat)},(∀q∈L,Mo q.1/\1<(ls q.1).length/\q.2≠0)->L.length+1<=(ls (Pr L id)).length/\Mo (Pr L id)
 |[],_=>by have e:Pr ([]:List (Pl p×Nat)) id=1:=rfl;rw[e,vJ p2];exact⟨ai _,Mo.one p2⟩
 |q::L,h=>by obtain⟨a,b⟩:=Hu p2 (L:=L) λr hr=>h r (ad _ hr);obtain⟨m,d,z⟩:=h q ag;have mp:=Mo.pow p2 m (id q.2);have e:=Mo.len p2 mp b;have el:=Mo.vW p2 m (id q.2);rw[<- jF]at e;refine⟨?_,by rw[jF];exact Mo.mul p2 mp b⟩;have z:id q.2≠0:=z;have:1*1<=id q.2*((ls q.1).length-1):=gB (by lia) (by lia);rw[aG];lia
open Pl in
def Zf {p:Int}(L:List (Pl p×Nat))(c:Nat):List (Pl p):=(L.filter λr=>decide (r.2=c)).map λr=>r.1
open Pl in
theorem CZ.irs {p:Int}{f:Li}{L:List (Pl p×Nat)}(F:CZ f L)(c:Nat):wD (Zf L c):=by
 refine⟨λq hq=>?_,λq hq=>?_,?_⟩
 ·obtain⟨r,hr,rfl⟩:=aR.mp hq;exact(F.irr r (aS.mp hr).1).1
 ·obtain⟨r,hr,rfl⟩:=aR.mp hq;have:=(F.irr r (aS.mp hr).1).2.1;lia
 ·exact dY _ (λ_ _ h=>h) (F.ne.filter _)
open Pl in
theorem CZ.part (hp:jN p){L:List (Pl p×Nat)}(F:CZ f L)(nl:(qP p (Tz p f)).length<=31){c:Nat}(hc:1<(ls (Pr L (ind c))).length) :
  wD (Zf L c)/\Zf L c≠[]/\Tz p (ls (Pr L (ind c)))=ls (PL (Zf L c))/\(ls (Pr L (ind c))).length<=31:=by
 have p2:2<=p:=hp.1;refine⟨F.irs c,λz=>?_,by rw[qW];unfold Zf;rw[Tu],?_⟩
 ·obtain⟨r,hr,hz⟩:=(oN p2 F.fam.mo F.fam.dg).mp hc;unfold ind at hz;by_cases y:r.2=c
  ·have:r.1∈Zf L c:=aR.mpr ⟨r,aS.mpr ⟨hr,aL y⟩,rfl⟩;rw[z]at this;cases this
  ·rw[ae y]at hz;exact hz rfl
 ·have:=Qa p2 F.fam (λq hq=>(F.irr q hq).2.2.1) c;rw[F.eN]at this;lia
open Pl in
theorem DR {α β:Type}{f g:α->List β}:∀{l:List α},(∀x∈l,(f x).Perm (g x))->(l.flatMap f).Perm (l.flatMap g)
 |[],_=>.nil
 |x::l,h=>by rw[cL,cL];exact(h x ag).append (DR λy hy=>h y (ad _ hy))
open Pl in
theorem Iv (hp:jN p){L:List (Pl p×Nat)}(F:CZ f L)(nl:(qP p (Tz p f)).length<=31):(Qn p f).Perm (L.map jT):=by
 have p2:2<=p:=hp.1;unfold Qn;rw[F.fp];show((Hn L).flatMap _).Perm _;unfold Hn;rw[List.flatMap_map];have csA:∀c∈(List.range 31).filter (λc=>decide (1<(ls (Pr L (ind c))).length)),1<(ls (Pr L (ind c))).length:=λc hc=>bO (aS.mp hc).2;have csN:((List.range 31).filter λc=>decide (1<(ls (Pr L (ind c))).length)).Nodup:=g7.filter _;have csM:∀r∈L,r.2∈(List.range 31).filter λc=>decide (1<(ls (Pr L (ind c))).length):=λr hr=>aS.mpr ⟨aW.mpr (F.irr r hr).2.2.2,aL ((oN p2 F.fam.mo F.fam.dg).mpr ⟨r,hr,by unfold ind;rw[af rfl];decide⟩)⟩;generalize (List.range 31).filter (λc=>decide (1<(ls (Pr L (ind c))).length))=cs at *
 have st:(cs.flatMap λc=>(j6 lN ((ou p (lN (pO (TT L c)))).map PV.ints)).map λr=>PV.tup [r,p6 (TT L c)]).Perm (cs.flatMap λc=>(L.filter λr=>decide (r.2=c)).map jT):=DR λc hc=>by
  obtain⟨I,ne,e,le⟩:=F.part hp nl (csA c hc);have pe:=ye hp I ne e (by lia) (by rw[qW];lia);have nd:(((ou p (ls (Pr L (ind c)))).map PV.ints).map lN).Nodup:=by rw[yj];exact pe.nodup_iff.mpr (Bk I.nd)
  have a:=((uK nd).1.trans (pe.map PV.ints)).map λr=>PV.tup [r,PV.int (c:Int)];refine a.trans (.of_eq ?_);unfold Zf;rw[bx,bx,bx];refine bT λr hr=>?_;have:r.2=c:=bO (aS.mp hr).2;show PV.tup [.ints (ls r.1),.int (c:Int)]=PV.tup [.ints (ls r.1),.int (r.2:Int)];rw[this]
 refine st.trans ?_;have e1:(cs.flatMap λc=>(L.filter λr=>decide (r.2=c)).map jT)=((cs.map λ(c:Nat)=>(c:Int)).map λs=>L.filter λr=>decide ((r.2:Int)=s)).flatten.map jT:=by rw[List.flatMap_def,List.map_flatten,bx,bx];congr 1;refine bT λc _=>?_;show List.map jT _=List.map jT (L.filter λr=>decide ((r.2:Int)=(c:Int)));congr 1;refine fj λr _=>decide_eq_decide.mpr ?_;lia
 rw[e1];refine((yo (λr:Pl p×Nat=>(r.2:Int)) L ?_).map jT).trans (.of_eq ?_)
 ·exact dY _ (λ(a b:Nat) (h:a≠b) z=>h (by lia)) csN
 ·congr 1;refine iY.mpr λr hr=>aL (aR.mpr ⟨r.2,csM r hr,rfl⟩)
open Pl in
theorem Yo (L:List (Pl p×Nat)):(L.map jT).map Qs=L.map λr=>ls r.1:=by rw[bx];exact bT λr _=>rfl
open Pl in
theorem CZ.nd {p:Int}{f:Li}{L:List (Pl p×Nat)}(F:CZ f L):((L.map jT).map Qs).Nodup:=by rw[Yo];exact dY _ (λ_ _ h e=>h (Mo.inj e)) F.ne
open Pl in
theorem CZ.len (hp:jN p){L:List (Pl p×Nat)}(F:CZ f L):L.length+1<=(qP p (Tz p f)).length:=by rw[<- F.eN];exact(Hu hp.1 λq hq=>⟨F.fam.mo q hq,F.fam.dg q hq,(F.irr q hq).2.2.1⟩).1
def vP (p:Int)(f:List Int):PV:=.tup [.int (jo (Tz p f)),.lst (j6 Qs (Qn p f))]
open Pl in
theorem BJ (T:Top K mg cNO cK cR):Ok P w K mg base 10 "parts" ["kind","f"] (yu K (pX cR) (λas=>∃p f,as=[.ob 0 p,.ints f]/\jN p/\f.length<=100/\(qP p (Tz p f)).length<=31/\Tz p f≠[]) λas=>match as with
  |[.ob 0 p,.ints f]=>vP p f
  |_=>.non):=by
 refine aaN T.Va uB T.Xc (λas ⟨a,b,h,_⟩=>by rw[h];rfl) (λf cdv A outer s H E hr hl=>⟨_,(ji (t7 (i:=2) uB.nd rfl (Or.inl rfl) (sO jk))
 (ji (Bb (k:=3) (j:=4) aE rfl (nW (xc (CW T) hr (jh (xv 0) (jh (xl 1) jk)))) (pg_tup rfl (pgs_cons (pg_name (i:=3) uB.nd rfl (Or.inl rfl)) (pgs_cons (pg_name (i:=4) uB.nd rfl (Or.inl rfl)) pgs_nil)))
 (jm (xm (k:=5) aE rfl (nW (xc (Rc T) hr (jh (xv 0) (jh (xl 3) jk)))) uB.nd rfl (Or.inl rfl)
 (jm (uz 2 (qH (jh (xl 5) (jh (xn 4) jk))))))))
 (lz 2 (jm (jx (qH (jh (rA (ju (jY (tW (jW T) hr (jh (xv 0) (jh (xl 1) jk)))) (vR jj) (λ_ _=>rfl))) (jh (tQ (Q5 Qs (wY T) hl hr T.Am (xv 2))) jk)))))))),λas hp=>?_⟩)
 obtain⟨p,f,rfl,hp,fl,nl,ne⟩:=hp;have p2:2<=p:=hp.1;obtain⟨L,F⟩:=Nb hp ne nl;have pp:=Iv hp F nl;have Ll:=F.len hp;have nd:=F.nd;have FQ:∀q∈Hn L,∃x:List Int,∃c:Nat,q=.tup [.ints x,.int (c:Int)]/\x.length<=31/\(Tz p x).length<=40/\(∃l:List (Pl p),wD l/\l≠[]/\Tz p x=ls (PL l))/\(j6 lN ((ou p x).map PV.ints)).length<=31/\∀r∈j6 lN ((ou p x).map PV.ints),∃y,r=.ints y:=λq hq=>by
  obtain⟨c,hc,rfl⟩:=aR.mp hq;obtain⟨I,n0,e,le⟩:=F.part hp nl (bO (aS.mp hc).2);have pe:=ye hp I n0 e (by lia) (by rw[qW];lia);have nd:(((ou p (ls (Pr L (ind c)))).map PV.ints).map lN).Nodup:=by rw[yj];exact pe.nodup_iff.mpr (Bk I.nd)
  have so:=(uK nd).1;refine⟨ls (Pr L (ind c)),c,rfl,le,by rw[qW];lia,⟨_,I,n0,e⟩,?_,λr hr=>?_⟩
  ·rw[so.length_eq,aa,pe.length_eq,aa];have d:=Aw p2 I.irr;rw[<- e,qW]at d;lia
  ·obtain⟨y,_,rfl⟩:=aR.mp (so.mem_iff.mp hr);exact⟨y,rfl⟩
 have ep:Qn p f=(Hn L).flatMap λq=>(j6 lN ((ou p (lN (pO q))).map PV.ints)).map λr=>.tup [r,p6 q]:=by unfold Qn;rw[F.fp];rfl
 have fl31:(Hn L).length<=31:=by unfold Hn;rw[aa];refine aC (cO _ _) ?_;rw[aq];exact ai _
 have eF:Jf p f=.lst (Hn L):=F.fp;generalize Hn L=FP at *
 have M0:∀i,i<=FP.length->((FP.take i).flatMap λq=>(j6 lN ((ou p (lN (pO q))).map PV.ints)).map λr=>PV.tup [r,p6 q]).length<=i*31:=λi=>by
  induction i with
  |zero=>intro _;exact ai 0
  |succ i ih=>
   intro hi;have a:=ih (by lia);have il:i<FP.length:=by lia
   rw[nH (ac il),eR,ah,cL,fE,bu,aa];obtain⟨x,c,e,_,_,_,sl,_⟩:=FQ FP[i] (bC il);rw[e];have sl:(j6 lN ((ou p (lN (pO (PV.tup [.ints x,.int (c:Int)])))).map PV.ints)).length<=31:=sl;lia
 refine⟨tJ,λl0 el0=>?_⟩;subst el0;refine jJ (Z':=[.fr (.ob 0 p),.fr (.ints f),.ow (.lst []),.un,.un,.un]) rfl ?_;have hF:∀v,v=Jf p f->v=.lst (pN v)/\pN v=FP:=λv e=>by rw[e,eF];exact⟨rfl,rfl⟩
 obtain⟨hF1,hF2⟩:=hF (Jf p f) rfl;refine⟨⟨⟨⟨⟨rfl,rfl,tJ⟩,p,f,rfl,hp,fl,nl,ne⟩,hF1⟩,λq hq=>?_⟩,λi Z=>∃v3 v4 v5,Z=[.fr (.ob 0 p),.fr (.ints f),.ow (.lst ((FP.take i).flatMap λq=>(j6 lN ((ou p (lN (pO q))).map PV.ints)).map λr=>PV.tup [r,p6 q])),v3,v4,v5],⟨.un,.un,.un,rfl⟩,?_,?_⟩
 ·have hq:q∈pN (Jf p f):=hq;rw[hF2]at hq;obtain⟨x,c,rfl,_⟩:=FQ q hq;exact rfl
 ·rintro i q Z hq ⟨v3,v4,v5,rfl⟩;have hq:(pN (Jf p f))[i]?=some q:=hq;rw[hF2]at hq;have il:i<FP.length:=(aj.mp hq).1;obtain⟨x,c,eq,xl,tl,ex,sl,sr⟩:=FQ q (aV hq);have m0:=M0 i (by lia);have nx:(FP.take (i+1)).flatMap (λq=>(j6 lN ((ou p (lN (pO q))).map PV.ints)).map λr=>PV.tup [r,p6 q])=(FP.take i).flatMap (λq=>(j6 lN ((ou p (lN (pO q))).map PV.ints)).map λr=>PV.tup [r,p6 q])++(j6 lN ((ou p x).map PV.ints)).map λr=>PV.tup [r,PV.int (c:Int)]:=by rw[nH hq,eR,cL,fE,bu,eq];rfl
  generalize (FP.take i).flatMap (λq=>(j6 lN ((ou p (lN (pO q))).map PV.ints)).map λr=>PV.tup [r,p6 q])=B at *
  generalize hX:j6 lN ((ou p x).map PV.ints)=X at *
  subst eq;have hX2:∀v,v=PV.lst (j6 lN ((ou p x).map PV.ints))->v=.lst (pN v)/\pN v=X:=λv e=>by rw[e,hX];exact⟨rfl,rfl⟩
  obtain⟨hX3,hX4⟩:=hX2 _ rfl;refine⟨⟨⟨⟨rfl,rfl,tJ⟩,p,x,rfl,hp,by lia,tl,ex⟩,hX3⟩,λj Z=>∃v5,Z=[.fr (.ob 0 p),.fr (.ints f),.ow (.lst (B++(X.take j).map λr=>PV.tup [r,PV.int (c:Int)])),.fr (.ints x),.fr (.int (c:Int)),v5],⟨v5,?_⟩,?_,?_⟩
  ·rw[iK,dP,bu];rfl
  ·rintro j r Z hr' ⟨v5,rfl⟩;have hr':(pN (PV.lst (j6 lN ((ou p x).map PV.ints))))[j]?=some r:=hr';rw[hX4]at hr';have jl:j<X.length:=(aj.mp hr').1;obtain⟨y,rfl⟩:=sr r (aV hr');refine⟨rfl,⟨rfl,rfl,tJ⟩,?_,.fr (.ints y),?_⟩
   ·show(B++(X.take j).map λr=>PV.tup [r,PV.int (c:Int)]).length<sizeLine;rw[ah,aa,aI];refine aO (show _<=2000 by lia) (by decide)
   ·rw[nH hr',bF,<- cZ];rfl
  ·rintro Z ⟨v5,rfl⟩;refine⟨.fr (.ints x),.fr (.int (c:Int)),v5,?_⟩;have e:(X.take (pN (PV.lst (j6 lN ((ou p x).map PV.ints)))).length)=X:=by rw[hX4,cH]
   show[Sl.fr (.ob 0 p),.fr (.ints f),.ow (.lst (B++(X.take (pN (PV.lst (j6 lN ((ou p x).map PV.ints)))).length).map λr=>PV.tup [r,PV.int (c:Int)])),.fr (.ints x),.fr (.int (c:Int)),v5]=_;rw[e,nx]
 ·rintro Z ⟨v3,v4,v5,rfl⟩;have eL:(FP.take (pN (Jf p f)).length).flatMap (λq=>(j6 lN ((ou p (lN (pO q))).map PV.ints)).map λr=>PV.tup [r,p6 q])=Qn p f:=by rw[hF2,cH,ep]
  have lT:=lP ne;refine⟨⟨⟨⟨⟨⟨rfl,rfl,tJ⟩,p,f,rfl,by lia⟩,tJ,?_⟩,?_⟩,⟨rfl,rfl,⟨?_,?_⟩,λq hq=>?_⟩,tJ⟩,?_⟩
  ·show -((Tz p f).length:Int) <= -1/\(-1:Int)<((Tz p f).length:Int);lia
  ·exact rfl
  ·show(List.flatMap (λq=>(j6 lN ((ou p (lN (pO q))).map PV.ints)).map λr=>PV.tup [r,p6 q]) (FP.take (pN (Jf p f)).length)).length<64;rw[eL,pp.length_eq,aa];lia
  ·show(List.map Qs (List.flatMap (λq=>(j6 lN ((ou p (lN (pO q))).map PV.ints)).map λr=>PV.tup [r,p6 q]) (FP.take (pN (Jf p f)).length))).Nodup;rw[eL];exact(pp.map Qs).nodup_iff.mpr nd
  ·have hq:q∈List.flatMap (λq=>(j6 lN ((ou p (lN (pO q))).map PV.ints)).map λr=>PV.tup [r,p6 q]) (FP.take (pN (Jf p f)).length):=hq;rw[eL]at hq;obtain⟨r,_,rfl⟩:=aR.mp (pp.mem_iff.mp hq);exact⟨⟨[PV.int (r.2:Int)],rfl⟩,⟨ls r.1,rfl⟩,rfl⟩
  ·show PV.tup [.int ((Tz p f).getD (jZ (Tz p f).length (-1)) 0),.lst (j6 Qs (List.flatMap (λq=>(j6 lN ((ou p (lN (pO q))).map PV.ints)).map λr=>PV.tup [r,p6 q]) (FP.take (pN (Jf p f)).length)))]=vP p f;rw[eL,wF _ lT];rfl
def Jl (c:Int):Int:=((c % 10^9)*(c % 10^9)+40503)*1103515245982451653 % (10^18+9)
theorem T9 (c:Int):0<=Jl c:=by unfold Jl;exact bE _ (by decide)
theorem Vv (T:Top K mg cNO cK cR):Ok P w K mg base 2 "_law_head" ["_law_script"] (JD K (pX cR) (λas=>∃ns,as=[.scr ns]) λas=>match as with
  |[.scr ns]=>Jl (ns.getD 0 0)
  |_=>0):=by
 refine w5 T.Yp Ml (λas ⟨a,h⟩=>by rw[h];rfl) (λf cdv A outer s H E hr=>⟨_,(ji (jA (i:=1) Ml.nd rfl (Or.inl rfl) (m9 (ZK (K6 T) hr (jh (xr 0) (jh jj jk))) (Kz jj jj)))
 (jm (jx (m9 (pC (lG (pC (xn 1) (xn 1)) jj) jj) (lG (Kz jj jj) jj))))),λas hp=>?_⟩)
 obtain⟨ns,rfl⟩:=hp;refine⟨⟨⟨⟨rfl,tJ,tJ⟩,tJ,rfl,by show(0:Int)<=0;decide⟩,by walk_at "xs",by show(0:Int)<10^9;decide⟩,λn e=>?_⟩;have e:n=ns.getD 0 0 % 10^9:=e;have n0:0<=n/\n<10^9:=by rw[e];exact⟨bE _ (by decide),bj _ (by decide)⟩
 refine⟨⟨⟨⟨⟨rfl,rfl,uW ⟨by show -(2:Int)^64<n;lia,by show n<(2:Int)^64;lia⟩⟩,tJ⟩,tJ,uW (by decide)⟩,by walk_at "xs",by show(0:Int)<10^18+9;decide⟩,?_⟩;show PV.int ((n*n+40503)*1103515245982451653 % (10^18+9))=PV.int (Jl (ns.getD 0 0));unfold Jl;rw[<- e]
theorem R7 (T:Top K mg cNO cK cR):Ok P w K mg base 1 "_law_plain" ["_law_number","_law_size"] (JD K (pX cR) (λas=>∃n z,as=[.int n,.int z]/\0<z) λas=>match as with
  |[.int n,.int z]=>pl z n
  |_=>0):=by
 refine w5 T.VJ QD (λas ⟨a,b,h,_⟩=>by rw[h];rfl) (λf cdv A outer s H E hr=>⟨_,(jm (jx (m9 (xn 0) (xn 1)))),λas hp=>?_⟩);obtain⟨n,z,rfl,hz⟩:=hp;refine⟨⟨rfl,rfl,hz⟩,?_⟩;show PV.int (n % z)=PV.int (pl z n);rw[mD hz]
theorem WT (T:Top K mg cNO cK cR):Ok P w K mg base 2 "_law_trim" ["_law_row","_law_size"] (Hc K (pX cR) (λas=>∃f z,as=[.ints f,.int z]/\0<z/\f.length<=1000) λas=>match as with
  |[.ints f,.int z]=>Tz z f
  |_=>[]):=by
 refine JL T.XQ MJ (λas ⟨a,b,h,_⟩=>by rw[h];rfl) (λf cdv A outer s H E hr=>⟨_,(ji (Nv (i:=0) MJ.nd rfl rfl (N':=["_law_number","_law_size"]) (cap:=[some 1]) (ph rfl rfl rfl rfl ⟨⟨rfl,.inr (.inl rfl),Dz,.inl rfl,_,rfl,rfl⟩,tJ⟩ ⟨rfl,tJ⟩ rfl) rfl (xl 0) (λ_ _ _=>(pZ 0)) (λ_ _ _=>(ZK (R7 T) hr (jh (xn 0) (jh (xn 1) jk)))) rfl)
 (ji (nF aE (L2.PW.pt (xY (xF (jU 0 T.jM) jj) (uX (yR (lL 0 (vR jj) (λ_ _=>rfl)) jj))))
 (jm (Wg 0)))
 (jm (Az 0)))),λas hp=>?_⟩)
 obtain⟨f,z,rfl,hz,hf⟩:=hp;refine⟨⟨rfl,hf,λn _=>⟨⟨rfl,rfl,tJ⟩,n,z,rfl,hz⟩⟩,λns e=>?_⟩;have e:ns=f.map (pl z):=e;refine⟨λZ=>∃ms,Z=[.ow (.ints ms),.fr (.int z)]/\kJ ms=kJ ns,λZ=>(getL Z 0).length,⟨ns,rfl,rfl⟩,?_⟩;rintro Z ⟨ms,rfl,hm⟩;refine⟨⟨⟨.inr (.inl rfl),tJ⟩,λh=>⟨⟨.inr (.inl rfl),tJ,?_,?_⟩,tJ⟩⟩,λq=>?_,λq=>?_⟩
 ·have h:0<(ms.length:Int):=h;lia
 ·lia
 ·have q:0<(ms.length:Int)/\ms.getD (jZ ms.length (-1)) 0=0:=q;have hne:ms≠[]:=eJ.mp (by lia);rw[Oa ms hne]at q;refine⟨rfl,hne,⟨_,rfl,?_⟩,?_⟩
  ·rw[<- hm];exact Ao hne q.2
  ·show ms.dropLast.length<ms.length;rw[fG];lia
 ·have q:¬(0<(ms.length:Int)/\ms.getD (jZ ms.length (-1)) 0=0):=q;refine⟨rfl,?_⟩;show ms=kJ (f.map (pl z));rw[<- e,<- hm,Cp];rintro⟨a,b⟩;have:=lP a;exact q ⟨by lia,by rw[Oa ms a];exact b⟩
theorem qu (T:Top K mg cNO cK cR):Ok P w K mg base 3 "_law_times" ["_law_f","_law_g","_law_size"] (Hc K (pX cR) (λas=>∃f g z,as=[.ints f,.ints g,.int z]/\0<z/\f.length+g.length<=1000/\(∀m∈f,m.natAbs<2^9000)/\(∀m∈g,m.natAbs<2^9000)) λas=>match as with
  |[.ints f,.ints g,.int z]=>Tz z (jq f g)
  |_=>[]):=by
 refine JL T.HW qm (λas ⟨a,b,c,h,_⟩=>by rw[h];rfl) (λf cdv A outer s H E hr=>⟨_,(ji (tE (i:=3) qm.nd rfl (Or.inl rfl) (vO (m7 (jh jj jk)) (lG (jU 0 T.jM) (jU 1 T.jM)) (λ_=>rfl)))
 (ji (pR (k:=4) aE rfl (by rfl) T.oV (jU 0 T.jM) qm.nd rfl (Or.inl rfl)
 (jm (pR (k:=5) aE rfl (by rfl) T.oV (jU 1 T.jM) qm.nd rfl (Or.inl rfl)
 (jm (uL 3 (lG (xn 4) (xn 5)) (lG (lL 3 (lG (xn 4) (xn 5)) (λ_ _=>rfl)) (pC (lL 0 (xn 4) (λ_ _=>rfl)) (lL 1 (xn 5) (λ_ _=>rfl)))))))))
 (lz 3 (jm (mC (tW (WT T) hr (jh (xl 3) (jh (xn 2) jk)))))))),λas hp=>?_⟩)
 obtain⟨f,g,z,rfl,hz,hl,hf,hg⟩:=hp;have en:((f.length:Int)+(g.length:Int)).toNat=f.length+g.length:=by lia
 refine⟨⟨⟨⟨tJ,tJ⟩,tJ⟩,⟨.inl rfl,.inl rfl⟩,?_,?_⟩,λr0 er0=>?_⟩
 ·lia
 ·show((f.length:Int)+(g.length:Int)).toNat<=1000;lia
 have er0:r0=List.replicate (f.length+g.length) 0:=by rw[<- en];exact er0
 refine⟨.inl rfl,⟨by show -(2:Int)^62<=(f.length:Int);lia,by show(f.length:Int)<2^62;lia⟩,λi Z=>∃row v1 v2,Z=[.fr (.ints f),.fr (.ints g),.fr (.int z),.ow (.ints row),v1,v2]/\tK f g i 0 row,⟨r0,.un,.un,rfl,by rw[er0];exact De f g⟩,?_,?_⟩
 ·rintro i Z hi ⟨row,v1,v2,rfl,hr⟩;have hi:i<f.length:=by have hi:i<(f.length:Int).toNat:=hi;lia
  refine⟨.inl rfl,⟨by show -(2:Int)^62<=(g.length:Int);lia,by show(g.length:Int)<2^62;lia⟩,λj Z=>∃row v2,Z=[.fr (.ints f),.fr (.ints g),.fr (.int z),.ow (.ints row),.fr (.int i),v2]/\tK f g i j row,⟨row,v2,rfl,hr⟩,?_,?_⟩
  ·rintro j Z hj ⟨row,v2,rfl,hr⟩;have hj:j<g.length:=by have hj:j<(g.length:Int).toNat:=hj;lia
   have l1:-(row.length:Int)<=(i:Int)+(j:Int):=by lia
   have l2:(i:Int)+(j:Int)<(row.length:Int):=by have:=hr.1;lia
   have ix:jZ row.length ((i:Int)+(j:Int))=i+j:=by unfold jZ;rw[af (by lia)];lia
   have xi:jZ f.length (i:Int)=i:=by unfold jZ;rw[af (by lia)];lia
   have xj:jZ g.length (j:Int)=j:=by unfold jZ;rw[af (by lia)];lia
   have mi:f.getD i 0∈f:=FM.getD_mem hi;have mj:g.getD j 0∈g:=FM.getD_mem hj;refine⟨⟨⟨.inr (.inl rfl),⟨rfl,rfl⟩,l1,l2⟩,⟨.inl rfl,rfl,by show -(f.length:Int)<=(i:Int);lia,by show(i:Int)<(f.length:Int);lia⟩,⟨.inl rfl,rfl,by show -(g.length:Int)<=(j:Int);lia,by show(j:Int)<(g.length:Int);lia⟩,?_⟩,rfl,⟨rfl,rfl⟩,⟨l1,l2⟩,row.set (i+j) (row.getD (i+j) 0+f.getD i 0*g.getD j 0),.fr (.int j),?_,I8 hr hi hj⟩
   ·show IntMulOk (f.getD (jZ f.length (i:Int)) 0) (g.getD (jZ g.length (j:Int)) 0);rw[xi,xj];exact qI (n:=9000) (m:=9000) (hf _ mi) (hg _ mj)
   ·show[Sl.fr (.ints f),.fr (.ints g),.fr (.int z),.ow (.ints (row.set (jZ row.length ((i:Int)+(j:Int))) (row.getD (jZ row.length ((i:Int)+(j:Int))) 0+f.getD (jZ f.length (i:Int)) 0*g.getD (jZ g.length (j:Int)) 0))),.fr (.int i),.fr (.int j)]=_;rw[ix,xi,xj]
  ·rintro Z ⟨row,v2,rfl,hr⟩;have e:(g.length:Int).toNat=g.length:=by lia
   have hr:tK f g i (g.length:Int).toNat row:=hr;rw[e]at hr;exact⟨row,_,v2,rfl,IW hr⟩
 ·rintro Z ⟨row,v1,v2,rfl,hr⟩;have e:(f.length:Int).toNat=f.length:=by lia
  have hr:tK f g (f.length:Int).toNat 0 row:=hr;rw[e]at hr;have er:=row_end hr;refine⟨⟨⟨rfl,rfl,tJ⟩,row,z,rfl,hz,?_⟩,?_⟩
  ·rw[hr.1];lia
  ·rw[er];rfl
def Wt (n:Int):Prop:=(n % 2=0/\2<n)\/(n % 3=0/\3<n)\/(n % 5=0/\5<n)
open Classical in
def ZD:Nat->Int->Int
 |0,n=>n
 |k+1,n=>if Wt n then ZD k (n-1) else n
theorem QM (h:¬Wt n):∀k,ZD k n=n
 |0=>rfl
 |k+1=>ae h
theorem NQ:∀(k:Nat) (n:Int),2<=n->n<=31->n<=(k:Int)+2->jN (ZD k n)
 |0,n,h1,_,h3=>by
  have e:n=2:=by lia
  rw[e];exact abn
 |k+1,n,h1,h2,h3=>by
  unfold ZD;split
  ·rename_i b;have:2<n:=by
    rcases b with b|b|b
    ·exact b.2
    ·have:=b.2;lia
    ·have:=b.2;lia
   exact NQ k (n-1) (by lia) (by lia) (by lia)
  ·rename_i b;refine⟨h1,by lia,λd d1 d2 z=>b ?_⟩;have d5:d<=5:=by refine cM λc=>?_;have:=G5 (d:=6) (e:=d) (by lia) (by lia);lia
   have e:d=2\/d=3\/d=4\/d=5:=by lia
   rcases e with e|e|e|e<;>subst e
   ·exact .inl ⟨z,by lia⟩
   ·exact .inr (.inl ⟨z,by lia⟩)
   ·exact .inl ⟨by lia,by lia⟩
   ·exact .inr (.inr ⟨z,by lia⟩)
def smF (c:Int):Int:=ZD 31 (2+c % 30)
theorem VH (c:Int):jN (smF c):=by have h1:=bE c (show(30:Int)≠0 by decide);have h2:=bj c (show(0:Int)<30 by decide);exact NQ 31 _ (by lia) (by lia) (by lia)
theorem Av (T:Top K mg cNO cK cR):Ok P w K mg base 1 "_law_small_prime" ["_law_cell"] (JD K (pX cR) (λas=>∃c,as=[.int c]) λas=>match as with
  |[.int c]=>smF c
  |_=>0):=by
 refine w5 T.Cq qJ (λas ⟨a,h⟩=>by rw[h];rfl) (λf cdv A outer s H E hr=>⟨_,(ji (jA (i:=1) qJ.nd rfl (Or.inl rfl) (lG jj (m9 (xn 0) jj)))
 (ji (nF aE (L2.PW.pt (qD (L2.PW.pt (xY (yR (m9 (xn 1) jj) jj) (uX (xF (xn 1) jj)))) (qD (L2.PW.pt (xY (yR (m9 (xn 1) jj) jj) (uX (xF (xn 1) jj)))) (tD (L2.PW.pt (xY (yR (m9 (xn 1) jj) jj) (uX (xF (xn 1) jj))))))))
 (jm (jA (i:=1) qJ.nd rfl (Or.inl rfl) (pI (xn 1) jj))))
 (jm (jx (xn 1))))),λas hp=>?_⟩)
 obtain⟨c,rfl⟩:=hp;have h1:=bE c (show(30:Int)≠0 by decide);have h2:=bj c (show(0:Int)<30 by decide);refine⟨⟨tJ,rfl,tJ,by show(0:Int)<30;decide⟩,λn en=>?_⟩;refine⟨λZ=>∃n,∃k:Nat,Z=[.fr (.int c),.fr (.int n)]/\(2<=n/\n<=31)/\n<=(k:Int)/\ZD k n=smF c,λZ=>(Dc Z 1).toNat,⟨n,31,rfl,⟨by lia,by lia⟩,by lia,by rw[en];rfl⟩,?_⟩;rintro Z ⟨n,k,rfl,⟨n1,n2⟩,nk,ek⟩;refine⟨⟨⟨⟨⟨rfl,tJ,by show(0:Int)<2;decide⟩,tJ⟩,λ_=>⟨rfl,tJ⟩⟩,λ_=>⟨⟨⟨⟨rfl,tJ,by show(0:Int)<3;decide⟩,tJ⟩,λ_=>⟨rfl,tJ⟩⟩,λ_=>⟨⟨⟨rfl,tJ,by show(0:Int)<5;decide⟩,tJ⟩,λ_=>⟨rfl,tJ⟩⟩⟩⟩,λq=>?_,λq=>?_⟩
 ·have q:Wt n:=q;have n3:2<n:=by
   rcases q with b|b|b
   ·exact b.2
   ·have:=b.2;lia
   ·have:=b.2;lia
  obtain⟨k,rfl⟩:∃j,k=j+1:=⟨k-1,by lia⟩;refine⟨⟨rfl,tJ⟩,λm em=>⟨⟨m,k,rfl,?_⟩,?_⟩⟩
  ·have em:m=n-1:=em;rw[em];refine⟨⟨by lia,by lia⟩,by lia,?_⟩;rw[<- ek];exact(af q).symm
  ·have em:m=n-1:=em;show m.toNat<n.toNat;lia
 ·have q:¬Wt n:=q;refine⟨rfl,?_⟩;show PV.int n=PV.int (smF c);rw[<- ek,QM q]
def stP (p n:Int):Nat->List Int×Int
 |0=>([],n)
 |i+1=>((stP p n i).1++[(stP p n i).2 / 3 % p],(stP p n i).2 / p)
theorem zp (p n:Int):∀i,(stP p n i).1.length=i
 |0=>rfl
 |i+1=>by show((stP p n i).1++[_]).length=i+1;rw[ah,zp p n i];rfl
theorem N8 (hp:2<=p)(n:Int):∀i,∀m∈(stP p n i).1,pl p m=m
 |0,m,hm=>by cases hm
 |i+1,m,hm=>by
  rcases c5.mp hm with h|h
  ·exact N8 hp n i m h
  ·rw[bp.mp h,mD (by lia)];exact eA _ (fq p)
def Hf (p c:Int):List Int:=(stP p (c % 10^60) (1+c % 10^60 % 3).toNat).1++[1]
structure abb (p:Int)(x:List Int):Prop where
 fo:Fo p x
 one:jo x=1
 l2:2<=x.length
 l4:x.length<=4
theorem TF (hp:2<=p)(c:Int):abb p (Hf p c):=by
 unfold Hf;have h1:=bE (c % 10^60) (show(3:Int)≠0 by decide);have h2:=bj (c % 10^60) (show(0:Int)<3 by decide);generalize c % 10^60=n at *
 have sl:=zp p n (1+n % 3).toNat;have sr:=N8 hp n (1+n % 3).toNat;generalize (stP p n (1+n % 3).toNat).1=l at *
 have one:jo (l++[1])=1:=by show(l++[1]).getD ((l++[1]).length-1) 0=1;rw[wQ,af (by rw[ah,bv];lia)]
 refine⟨⟨λ_=>by show jo (l++[1])≠0;rw[one];decide,λn=>?_⟩,one,by rw[ah,bv];lia,by rw[ah,bv];lia⟩;rw[wQ];split
 ·exact YC hp
 ·by_cases d:n<l.length
  ·exact sr _ (FM.getD_mem d)
  ·rw[jr (by lia),lW]
theorem aap (hp:jN p):p.natAbs.log2<9000:=by have p2:=hp.1;have p3:=hp.2.1;refine(iQ (by lia)).mpr ?_;exact aO (show p.natAbs<=2^14 by lia) (bc (by decide) (by decide))
theorem Sx (T:Top K mg cNO cK cR):Ok P w K mg base 1 "_law_piece" ["_law_cell","_law_prime"] (Hc K (pX cR) (λas=>∃c p,as=[.int c,.int p]/\jN p) λas=>match as with
  |[.int c,.int p]=>Hf p c
  |_=>[]):=by
 refine JL T.Wv ut (λas ⟨a,b,h,_⟩=>by rw[h];rfl) (λf cdv A outer s H E hr=>⟨_,(ji (jA (i:=2) ut.nd rfl (Or.inl rfl) (m9 (xn 0) (Kz jj jj)))
 (ji (tE (i:=3) ut.nd rfl (Or.inl rfl) (m7 jk))
 (ji (pR (k:=4) aE rfl (by rfl) T.oV (lG jj (m9 (xn 2) jj)) ut.nd rfl (Or.inl rfl)
 (ji (Kv 3 (m9 (vV (xn 2) jj) (xn 1)))
 (jm (jA (i:=2) ut.nd rfl (Or.inl rfl) (vV (xn 2) (xn 1))))))
 (lz 3 (jm (mC (yg (xl 3) (jY (m7 (jh jj jk)))))))))),λas hp=>?_⟩)
 obtain⟨c,p,rfl,hp⟩:=hp;have p0:0<p:=by have:=hp.1;lia
 have lp:=aap hp;refine⟨⟨rfl,⟨tJ,tJ,by decide,by decide,by decide⟩,by show(0:Int)<10^60;decide⟩,λn en=>?_⟩;have goal:Hf p c=(stP p n (1+n % 3).toNat).1++[1]:=by rw[en];rfl
 have h1:=bE n (show(3:Int)≠0 by decide);have h2:=bj n (show(0:Int)<3 by decide);refine⟨⟨tJ,tJ⟩,λr0 er0=>?_⟩;refine jJ (Z':=[.fr (.int c),.fr (.int p),.fr (.int n),.ow (.ints r0),.un]) rfl ?_;refine⟨⟨tJ,rfl,tJ,by show(0:Int)<3;decide⟩,⟨by show -(2:Int)^62<=1+n % 3;lia,by show 1+n % 3<(2:Int)^62;lia⟩,λi Z=>∃v4,Z=[.fr (.int c),.fr (.int p),.fr (.int (stP p n i).2),.ow (.ints (stP p n i).1),v4],⟨.un,by rw[er0];rfl⟩,?_,?_⟩
 ·rintro i Z hi ⟨v4,rfl⟩;have sl:=zp p n i;refine⟨rfl,⟨⟨rfl,tJ,by decide,by show(3:Int).natAbs.log2<9000;decide +kernel⟩,rfl,p0⟩,?_,⟨⟨rfl,rfl,p0,lp⟩,λm em=>⟨.fr (.int (i:Int)),?_⟩⟩⟩
  ·show(stP p n i).1.length<sizeLine;rw[sl];exact small1000 (by lia)
  ·rw[em];rfl
 ·rintro Z ⟨v4,rfl⟩;have sl:=zp p n (1+n % 3).toNat;refine⟨⟨rfl,⟨⟨tJ,tJ⟩,tJ⟩,bK (small1000 (by show(stP p n (1+n % 3).toNat).1.length+1<=1000;lia))⟩,?_⟩;exact goal.symm
open Pl in
theorem QJ (hp:jN p)(fb:Fo p b)(hb:b≠[]):mk p b=con p (jo b)*mk p (qP p b):=by
 have p2:2<=p:=hp.1;have g:=wN hp fb.form fb.red hb;have one:pl p 1=1:=by rw[mD (by lia)];exact bI (by decide) (by lia)
 have e0:yS p b=pl p (1*tu (jo b) p):=ae hb;obtain⟨h1,_⟩:=hov p2 g 1 (yS p b) one (by rw[e0];rfl);have h2:p ∣ yS p b*jo b-1:=by
  have:=nR p (yS p b*jo b);rw[h1]at this;have e:yS p b*jo b-1 = -(1-yS p b*jo b):=by lia
  rw[e];exact bq.mpr this
 rw[rG];refine lH.mpr λn=>?_;rw[jR];unfold qP;rw[lD,ni (λm=>yS p b*m) (aT _)];have h3:=aK (a:=p) (b:=jo b) (nR p (yS p b*b.getD n 0));have h4:=aZ (c:=b.getD n 0) h2;have e:b.getD n 0-jo b*pl p (yS p b*b.getD n 0) = -((yS p b*jo b-1)*b.getD n 0) + -(jo b*(pl p (yS p b*b.getD n 0)-yS p b*b.getD n 0)):=by rw[fg,ck,b9,b7 (yS p b) (jo b),bG];lia
 rw[e];exact bD (bq.mpr h4) (bq.mpr h3)
open Pl in
theorem QV (x y:Pl p):Tz p (jq (ls x) (ls y))=ls (x*y):=by rw[<- qi,<- kZ,jL,jL]
def Zy (p most:Int)(made:List Int)(c:Int):List Int:=if (made.length:Int)+((Hf p c).length:Int)<=most+2 then Tz p (jq made (Hf p c)) else made
def prodF (p most:Int)(cells:List Int):List Int:=cells.foldl (Zy p most) [1]
open Pl in
theorem Jc (hp:jN p)(hm:0<=most)(cells:Li):∃x:Pl p,Mo x/\prodF p most cells=ls x/\((ls x).length:Int)<=most+1:=by
 have p2:2<=p:=hp.1;have go:∀(cells:List Int) (made:List Int),(∃x:Pl p,Mo x/\made=ls x/\((ls x).length:Int)<=most+1)->∃x:Pl p,Mo x/\cells.foldl (Zy p most) made=ls x/\((ls x).length:Int)<=most+1:=λcells=>by
  induction cells with
  |nil=>exact λ_ h=>h
  |cons c cells ih=>
   rintro made ⟨x,mx,rfl,lx⟩;refine ih _ ?_;unfold Zy;have pc:=TF p2 c;have ey:ls (mk p (Hf p c))=Hf p c:=vp pc.fo;have my:Mo (mk p (Hf p c)):=by show jo (ls (mk p (Hf p c)))=1;rw[ey];exact pc.one
   by_cases q:((ls x).length:Int)+((Hf p c).length:Int)<=most+2
   ·rw[af q];have e:=Mo.len p2 mx my;rw[ey]at e;refine⟨x*mk p (Hf p c),Mo.mul p2 mx my,?_,by lia⟩;rw[<- ey,QV,jL]
   ·rw[ae q];exact⟨x,mx,rfl,lx⟩
 refine go cells [1] ⟨1,Mo.one p2,(vJ p2).symm,?_⟩;rw[vJ p2];show(1:Int)<=most+1;lia
open Pl in
theorem Ce (T:Top K mg cNO cK cR):Ok P w K mg base 4 "_law_product" ["_law_cells","_law_prime","_law_most"] (Xb K (pX cR) (λas=>∃cells p most,as=[.ints cells,.int p,.int most]/\jN p/\0<=most/\most<=100) λas=>match as with
  |[.ints cells,.int p,.int most]=>prodF p most cells
  |_=>[]):=by
 refine w5 T.PP qM (λas ⟨a,b,c,h,_⟩=>by rw[h];rfl) (λf cdv A outer s H E hr=>⟨_,(ji (jC (i:=3) qM.nd rfl (Or.inl rfl) (jY (m7 (jh jj jk))))
 (ji (Ci (k:=4) aE rfl (xl 0) qM.nd rfl (Or.inl rfl)
 (ji (jC (i:=5) qM.nd rfl (Or.inl rfl) (jY (tW (Sx T) hr (jh (xn 4) (jh (xn 1) jk)))))
 (jm (lJ (aaC (lG (jU 3 T.jM) (jU 5 T.jM)) (lG (xn 2) jj))
 (jm (jC (i:=3) qM.nd rfl (Or.inl rfl) (jY (tW (qu T) hr (jh (xl 3) (jh (xl 5) (jh (xn 1) jk)))))))
 kj))))
 (jm (jx (xl 3))))),λas hp=>?_⟩)
 obtain⟨cells,p,most,rfl,hp,m0,m1⟩:=hp;have p2:2<=p:=hp.1;refine⟨⟨⟨tJ,tJ⟩,tJ⟩,λl0 el0=>?_⟩;refine jJ (Z':=[.fr (.ints cells),.fr (.int p),.fr (.int most),.fr (.ints l0),.un,.un]) rfl ?_;subst el0;refine⟨rfl,λi Z=>∃v4 v5,Z=[.fr (.ints cells),.fr (.int p),.fr (.int most),.fr (.ints (prodF p most (cells.take i))),v4,v5],⟨.un,.un,rfl⟩,?_,?_⟩
 ·rintro i c Z hc ⟨v4,v5,rfl⟩;have hc:cells[i]?=some c:=hc;obtain⟨x,mx,ex,lx⟩:=Jc hp m0 (cells.take i);have nx:prodF p most (cells.take (i+1))=Zy p most (prodF p most (cells.take i)) c:=by unfold prodF;rw[nH hc,gO];rfl
  rw[ex]at nx ⊢;have pc:=TF p2 c;refine⟨⟨⟨rfl,rfl,tJ⟩,c,p,rfl,hp⟩,λpe epe=>?_⟩;replace epe:pe=Hf p c:=epe;refine jJ (Z':=[.fr (.ints cells),.fr (.int p),.fr (.int most),.fr (.ints (ls x)),.fr (.int c),.fr (.ints pe)]) rfl ?_;subst epe;have l4:=pc.l4;refine⟨⟨⟨.inl rfl,.inl rfl⟩,rfl,tJ⟩,λq=>?_,λq=>?_⟩
  ·have q:((ls x).length:Int)+((Hf p c).length:Int)<=most+2:=q;refine⟨⟨⟨rfl,rfl,rfl,tJ⟩,ls x,Hf p c,p,rfl,by lia,by lia,(j7 x).bd hp,pc.fo.bd hp⟩,λr er=>⟨.fr (.int c),.fr (.ints (Hf p c)),?_⟩⟩;rw[nx,er];unfold Zy;rw[af q];rfl
  ·have q:¬((ls x).length:Int)+((Hf p c).length:Int)<=most+2:=q;refine⟨.fr (.int c),.fr (.ints (Hf p c)),?_⟩;rw[nx];unfold Zy;rw[ae q]
 ·rintro Z ⟨v4,v5,rfl⟩;refine⟨rfl,?_⟩;show PV.ints (prodF p most (cells.take cells.length))=PV.ints (prodF p most cells);rw[cH]
def Yu (q:PV):Prop:=∃(x:List Int) (c:Int),q=.tup [.ints x,.int c]/\x.length<=1000
theorem yU (T:Top K mg cNO cK cR):Ok P w K mg base 2 "_law_pairs_shaped" ["_law_found"] (Qk K (pX cR) (λas=>∃l ps,as=[.tup [.int l,.lst ps]]/\∀q∈ps,Yu q) λ_=>true):=by
 refine w5 T.Ak p7 (λas ⟨a,b,h,_⟩=>by rw[h];rfl) (λf cdv A outer s H E hr=>⟨_,(ji (lJ (L2.PW.pt (qD (nM (vZ (nA T.lC (xv 0) (qz (by rfl) T.G6 BV)))) (qD (sH (lZ T.jM (xv 0)) jj) (qD (nM (vZ (U0 (ug T) hr (jh (rA (ju (xv 0) jj (λ_ _=>rfl))) jk)))) (tD (nM (vZ (nA T.lC (ju (xv 0) jj (λ_ _=>rfl)) (qz (by rfl) T.rH wK)))))))))
 (jm (jx rY))
 kj)
 (ji (xm (k:=1) aE rfl (nW (ju (xv 0) jj (λ_ _=>rfl))) p7.nd rfl (Or.inl rfl)
 (ji (lJ (L2.PW.pt (qD (nM (vZ (nA T.lC (xv 1) (qz (by rfl) T.G6 BV)))) (qD (sH (lZ T.jM (xv 1)) jj) (qD (nM (vZ (U0 (ug T) hr (jh (rA (ju (xv 1) jj (λ_ _=>rfl))) jk)))) (tD (nM (vZ (nA T.lC (xl_of (ju (xv 1) jj (λ_ _=>rfl))) (qz (by rfl) T.rH wK)))))))))
 (jm (jx rY))
 kj)
 (jm (Ci (k:=2) aE rfl (xl_of (ju (xv 1) jj (λ_ _=>rfl))) p7.nd rfl (Or.inl rfl)
 (jm (lJ (nM (vZ (U0 (ug T) hr (jh (xn 2) jk))))
 (jm (jx rY))
 kj))))))
 (jm (jx rY)))),λas hp=>?_⟩)
 obtain⟨l,ps,rfl,hq⟩:=hp;have i1:∀xs,oX K (.tup xs) (.ty "tuple")=true:=λxs=>oW rfl rfl T.nY;have i2:∀xs,oX K (.lst xs) (.ty "list")=true:=λxs=>oW rfl rfl T.mH;have i3:∀xs,oX K (.ints xs) (.ty "list")=true:=λxs=>oW rfl rfl T.mH;have h0:∀a b:PV,lR (.tup [a,b]) 0:=λa b=>⟨by show -(2:Int)<=0;decide,by show(0:Int)<2;decide⟩;have h1:∀a b:PV,lR (.tup [a,b]) 1:=λa b=>⟨by show -(2:Int)<=1;decide,by show(1:Int)<2;decide⟩;refine⟨⟨⟨rfl,tJ,_,_,_,rfl,rfl,T.nY⟩,λ_=>⟨⟨⟨rfl,tJ⟩,tJ⟩,λ_=>⟨⟨⟨⟨⟨rfl,tJ,h0 _ _⟩,rfl⟩,tJ⟩,l,rfl⟩,λ_=>⟨⟨rfl,tJ,h1 _ _⟩,tJ,_,_,_,rfl,rfl,T.mH⟩⟩⟩⟩,λq=>?_,λ_=>?_⟩
 ·exfalso;rcases q with q|q|q|q
  ·exact q (i1 _)
  ·exact q rfl
  ·exact q rfl
  ·exact q (i2 _)
 refine⟨⟨⟨rfl,tJ,h1 _ _⟩,rfl⟩,λi Z=>∃v1 v2,Z=[.fr (.tup [.int l,.lst ps]),v1,v2],⟨.un,.un,rfl⟩,?_,?_⟩
 ·rintro i q Z hq' ⟨v1,v2,rfl⟩;obtain⟨x,c,rfl,_⟩:=hq q (aV hq');refine⟨⟨⟨rfl,tJ,_,_,_,rfl,rfl,T.nY⟩,λ_=>⟨⟨⟨rfl,tJ⟩,tJ⟩,λ_=>⟨⟨⟨⟨⟨rfl,tJ,h1 _ _⟩,rfl⟩,tJ⟩,c,rfl⟩,λ_=>⟨⟨⟨rfl,tJ,h0 _ _⟩,rfl⟩,tJ,_,_,_,rfl,rfl,T.mH⟩⟩⟩⟩,λq=>?_,λ_=>?_⟩
  ·exfalso;rcases q with q|q|q|q
   ·exact q (i1 _)
   ·exact q rfl
   ·exact q rfl
   ·exact q (i3 _)
  refine⟨⟨⟨rfl,tJ,h0 _ _⟩,rfl⟩,λj Z=>∃v2,Z=[.fr (.tup [.int l,.lst ps]),.fr (.tup [.ints x,.int c]),v2],⟨_,rfl⟩,?_,?_⟩
  ·rintro j n Z hn ⟨v2,rfl⟩;exact⟨⟨⟨rfl,tJ⟩,n,rfl⟩,λq=>absurd rfl (show ¬true=true from q),λ_=>⟨_,rfl⟩⟩
  ·rintro Z ⟨v2,rfl⟩;exact⟨_,_,rfl⟩
 ·rintro Z ⟨v1,v2,rfl⟩;exact⟨tJ,rfl⟩
theorem Pu (T:Top K mg cNO cK cR):Ok P w K mg base 1 "_law_before" ["_law_one","_law_other"] (Qk K (pX cR) (λas=>∃a b,as=[.ints a,.ints b]/\a.length<=1000) λas=>match as with
  |[.ints a,.ints b]=>kI a b
  |_=>false):=by
 refine w5 T.TY Du (λas ⟨a,b,h,_⟩=>by rw[h];rfl) (λf cdv A outer s H E hr=>⟨_,(ji (lJ (sH (jU 0 T.jM) (jU 1 T.jM))
 (jm (jx (Xr (jU 0 T.jM) (jU 1 T.jM))))
 kj)
 (ji (pR (k:=2) aE rfl (by rfl) T.oV (jU 0 T.jM) Du.nd rfl (Or.inl rfl)
 (jm (lJ (sH (lL 0 (xn 2) (λ_ _=>rfl)) (lL 1 (xn 2) (λ_ _=>rfl)))
 (jm (jx (Xr (lL 0 (xn 2) (λ_ _=>rfl)) (lL 1 (xn 2) (λ_ _=>rfl)))))
 kj)))
 (jm (jx rY)))),λas hp=>?_⟩)
 obtain⟨a,b,rfl,al⟩:=hp;refine⟨⟨.inl rfl,.inl rfl⟩,λq=>?_,λq=>?_⟩
 ·have q:¬(a.length:Int)=(b.length:Int):=q;refine⟨⟨.inl rfl,.inl rfl⟩,?_⟩;show PV.bl (decide ((a.length:Int)<(b.length:Int)))=PV.bl (kI a b);unfold kI;rw[ae q]
 ·have q:(a.length:Int)=(b.length:Int):=fh.mp q;have e0:kI a b=nq a b:=by
   unfold kI;rw[af q];by_cases c:a=b
   ·rw[af c,c,xq]
   ·rw[ae c]
  refine⟨.inl rfl,⟨by show -(2:Int)^62<=(a.length:Int);lia,by show(a.length:Int)<2^62;lia⟩,λi Z=>∃v2,Z=[.fr (.ints a),.fr (.ints b),v2]/\nq a b=nq (a.drop i) (b.drop i),⟨.un,rfl,rfl⟩,?_,?_⟩
  ·rintro i Z hi ⟨v2,rfl,e⟩;have hi:i<(a.length:Int).toNat:=hi;have i1:-(a.length:Int)<=(i:Int):=by lia
   have i2:(i:Int)<(a.length:Int):=by lia
   have i3:-(b.length:Int)<=(i:Int):=by lia
   have i4:(i:Int)<(b.length:Int):=by lia
   have ea:jZ a.length (i:Int)=i:=by unfold jZ;rw[af (by lia)];lia
   have eb:jZ b.length (i:Int)=i:=by unfold jZ;rw[af (by lia)];lia
   have ed:=Hk (ns:=a) (ms:=b) (i:=i) (by lia) (by lia);refine⟨⟨⟨.inl rfl,rfl,i1,i2⟩,.inl rfl,rfl,i3,i4⟩,λq=>?_,λq=>?_⟩
   ·have q:¬a.getD (jZ a.length (i:Int)) 0=b.getD (jZ b.length (i:Int)) 0:=q;refine⟨⟨⟨.inl rfl,rfl,i1,i2⟩,.inl rfl,rfl,i3,i4⟩,?_⟩;show PV.bl (decide (a.getD (jZ a.length (i:Int)) 0<b.getD (jZ b.length (i:Int)) 0))=PV.bl (kI a b);rw[ea,eb]at q ⊢;rw[e0,e,ed,ae q]
   ·have q:¬¬a.getD (jZ a.length (i:Int)) 0=b.getD (jZ b.length (i:Int)) 0:=q;rw[ea,eb]at q;rw[af (fh.mp q)]at ed;exact⟨_,rfl,e.trans ed⟩
  ·rintro Z ⟨v2,rfl,e⟩;refine⟨tJ,?_⟩;show PV.bl false=PV.bl (kI a b);have e:nq a b=nq (a.drop (a.length:Int).toNat) (b.drop (a.length:Int).toNat):=e;rw[e0,e,hU (by lia)];rfl
theorem Ac (T:Top K mg cNO cK cR):Ok P w K mg base 3 "_law_pairs_alike" ["_law_found","_law_due"] (Qk K (pX cR) (λas=>∃ps,as=[.lst ps,.lst ps]/\ps.length<=1000/\∀q∈ps,Yu q) λ_=>true):=by
 refine w5 T.CP uI (λas ⟨a,h,_⟩=>by rw[h];rfl) (λf cdv A outer s H E hr=>⟨_,(ji (lJ (L2.PW.pt (qD (nM (vZ (nA T.lC (xv 0) (qz (by rfl) T.rH wK)))) (tD (sH (lZ T.jM (xv 0)) (lZ T.jM (xv 1))))))
 (jm (jx rY))
 kj)
 (ji (pR (k:=2) aE rfl (by rfl) T.oV (lZ T.jM (xv 1)) uI.nd rfl (Or.inl rfl)
 (ji (lJ (L2.PW.pt (qD (nM (vZ (nA T.lC (ju (xv 0) (xn 2) (λ_ _=>rfl)) (qz (by rfl) T.G6 BV)))) (tD (sH (lZ T.jM (ju (xv 0) (xn 2) (λ_ _=>rfl))) jj))))
 (jm (jx rY))
 kj)
 (jm (lJ (L2.PW.pt (qD (nM (vZ (U0 (R6 T) hr (jh (xl_of (ju (ju (xv 0) (xn 2) (λ_ _=>rfl)) jj (λ_ _=>rfl))) (jh (xl_of (ju (ju (xv 1) (xn 2) (λ_ _=>rfl)) jj (λ_ _=>rfl))) jk))))) (qD (nM (vZ (U0 (ug T) hr (jh (rA (ju (ju (xv 0) (xn 2) (λ_ _=>rfl)) jj (λ_ _=>rfl))) jk)))) (tD (sH (rA (ju (ju (xv 0) (xn 2) (λ_ _=>rfl)) jj (λ_ _=>rfl))) (rA (ju (ju (xv 1) (xn 2) (λ_ _=>rfl)) jj (λ_ _=>rfl))))))))
 (jm (jx rY))
 kj))))
 (jm (jx rY)))),λas hp=>?_⟩)
 obtain⟨ps,rfl,pl',hq⟩:=hp;have i1:∀xs,oX K (.tup xs) (.ty "tuple")=true:=λxs=>oW rfl rfl T.nY;have i2:∀xs,oX K (.lst xs) (.ty "list")=true:=λxs=>oW rfl rfl T.mH;refine⟨⟨⟨rfl,tJ,_,_,_,rfl,rfl,T.mH⟩,λ_=>⟨⟨rfl,tJ⟩,rfl,tJ⟩⟩,λq=>?_,λ_=>?_⟩
 ·exfalso;rcases q with q|q
  ·exact q (i2 _)
  ·exact q rfl
 refine⟨⟨rfl,tJ⟩,⟨by show -(2:Int)^62<=(ps.length:Int);lia,by show(ps.length:Int)<2^62;lia⟩,λi Z=>∃v2,Z=[.fr (.lst ps),.fr (.lst ps),v2],⟨.un,rfl⟩,?_,?_⟩
 ·rintro i Z hi ⟨v2,rfl⟩;have hi:i<(ps.length:Int).toNat:=hi;have il:i<ps.length:=by lia
  obtain⟨x,c,ex,xl⟩:=hq ps[i] (bC il);have eit:jV (.lst ps) (i:Int)=.tup [.ints x,.int c]:=by
   show ps.getD (jZ ps.length (i:Int)) .non=_;have ix:jZ ps.length (i:Int)=i:=by unfold jZ;rw[af (by lia)];lia
   rw[ix,gQ,ac il,<- ex];rfl
  have hit:lR (.lst ps) (i:Int):=⟨by show -(ps.length:Int)<=(i:Int);lia,by show(i:Int)<(ps.length:Int);lia⟩;have g0:lR (jV (.lst ps) (i:Int)) 0:=by rw[eit];exact⟨by show -(2:Int)<=0;decide,by show(0:Int)<2;decide⟩
  have g1:lR (jV (.lst ps) (i:Int)) 1:=by rw[eit];exact⟨by show -(2:Int)<=1;decide,by show(1:Int)<2;decide⟩
  have f0:jV (jV (.lst ps) (i:Int)) 0=.ints (j8 (jV (jV (.lst ps) (i:Int)) 0)):=by rw[eit];rfl
  have f1:jV (jV (.lst ps) (i:Int)) 1=.int (yF (jV (jV (.lst ps) (i:Int)) 1)):=by rw[eit];rfl
  have lx:(j8 (jV (jV (.lst ps) (i:Int)) 0)).length<=1000:=by rw[eit];exact xl
  have hty:tyP (jV (.lst ps) (i:Int))=some (.type "tuple"):=by rw[eit];rfl
  have hln:JV (jV (.lst ps) (i:Int)):=by rw[eit];exact tJ
  have ei:oX K (jV (.lst ps) (i:Int)) (.ty "tuple")=true:=by rw[eit];exact i1 _
  have el:Ve (jV (.lst ps) (i:Int))=2:=by rw[eit];rfl
  refine⟨⟨⟨⟨rfl,rfl,hit⟩,tJ,_,_,_,hty,rfl,T.nY⟩,λ_=>⟨⟨⟨rfl,rfl,hit⟩,hln⟩,tJ⟩⟩,λq=>?_,λ_=>?_⟩
  ·exfalso;have q:¬oX K (jV (.lst ps) (i:Int)) (.ty "tuple")=true\/¬Ve (jV (.lst ps) (i:Int))=2:=q;rw[ei,el]at q;rcases q with q|q
   ·exact q rfl
   ·exact q rfl
  refine⟨⟨⟨⟨⟨⟨⟨rfl,rfl,hit⟩,tJ,g0⟩,f0⟩,⟨⟨⟨rfl,rfl,hit⟩,tJ,g0⟩,f0⟩,tJ⟩,_,_,rfl,lx⟩,λ_=>⟨⟨⟨⟨⟨⟨rfl,rfl,hit⟩,tJ,g1⟩,f1⟩,tJ⟩,_,rfl⟩,λ_=>⟨⟨⟨⟨rfl,rfl,hit⟩,tJ,g1⟩,f1⟩,⟨⟨rfl,rfl,hit⟩,tJ,g1⟩,f1⟩⟩⟩,λq=>?_,λ_=>⟨_,rfl⟩⟩;exfalso;rcases q with q|q|q
  ·exact q (aL rfl)
  ·exact q rfl
  ·exact q rfl
 ·rintro Z ⟨v2,rfl⟩;exact⟨tJ,rfl⟩
namespace Pl
variable {p:Int}
structure qw (L:List (Pl p×Nat)):Prop where
 irr:∀q∈L,vD q.1/\(ls q.1).length<=31/\q.2≠0
 ne:L.Pairwise λa b=>a.1≠b.1
theorem qw.tail {r:Pl p×Nat}{L:List (Pl p×Nat)}(h:qw (r::L)):qw L:=⟨λq hq=>h.irr q (ad _ hq),(a9.mp h.ne).2⟩
theorem qw.perm {L M:List (Pl p×Nat)}(h:qw L)(e:L.Perm M):qw M:=⟨λq hq=>h.irr q (e.mem_iff.mpr hq),(e.pairwise_iff (λh=>cf h)).mp h.ne⟩
theorem M9 {g:Nat->Nat}{L M:List (Pl p×Nat)}(h:L.Perm M):Pr L g=Pr M g:=by
 induction h with
 |nil=>rfl
 |cons x _ ih=>rw[jF,jF,ih]
 |swap x y l=>rw[jF,jF,jF,jF];generalize Pr l g=z;generalize x.1^g x.2=a;generalize y.1^g y.2=b;grind
 |trans _ _ a b=>exact a.trans b
theorem qw.cop (hp:jN p){L:List (Pl p×Nat)}(F:qw L)(I:vD q)(hl:(ls q).length<=200)(ne:∀r∈L,r.1≠q):nu (Pr L id) q:=
 Gh q id λr hr=>.inl ((F.irr r hr).1.cop hp I hl (ne r hr))
theorem qw.mo {L:List (Pl p×Nat)}(p2:2<=p)(F:qw L):Mo (Pr L id):=Mo.pr p2 λq hq=>(F.irr q hq).1.mo
theorem vD.alone (hp:jN p){q x:Pl p}(I:vD q)(c:nu x q)(g:Go q x):False:=by obtain⟨s,t,e⟩:=c;obtain⟨u,rfl⟩:=g;exact I.Gb hp ⟨s*u+t,by rw[<- e];grind⟩
theorem Mo.cancel (hp:jN p){a b d:Pl p}(ma:Mo a)(mb:Mo b)(md:Mo d)(e:d*a=d*b):a=b:=by have h1:=FJ hp ma md;have h2:=FJ hp mb md;rw[mul_comm a d,e,mul_comm d b,h2]at h1;injection h1 with h1;injection h1 with h1 _;exact Mo.inj h1.symm
theorem G8 (q x:Pl p):∀{n:Nat},n≠0->Go q (q^n*x)
 |0,h=>absurd rfl h
 |n+1,_=>⟨q^n*x,by rw[uG];generalize q^n=a;grind⟩
theorem Mh (hp:jN p){q A B:Pl p}(I:vD q)(mA:Mo A)(mB:Mo B)(cA:nu A q){m n:Nat}(h:m<n)(e:q^m*A=q^n*B):False:=by have p2:2<=p:=hp.1;obtain⟨k,rfl⟩:∃k,n=m+k:=⟨n-m,by lia⟩;rw[pow_add,mul_assoc]at e;have:=Mo.cancel hp mA (Mo.mul p2 (Mo.pow p2 I.mo k) mB) (Mo.pow p2 I.mo m) e;refine I.alone hp cA ?_;rw[this];exact G8 q B (by lia)
theorem LQ (hp:jN p):∀{L M:List (Pl p×Nat)},qw L->qw M->Pr L id=Pr M id->L.Perm M
 |[],[],_,_,_=>.nil
 |[],r::M,_,F,e=>by refine((F.irr r ag).1.Gb hp ?_).elim;have e:(1:Pl p)=Pr (r::M) id:=e;rw[e,jF];exact G8 _ _ (F.irr r ag).2.2
 |(q,m)::L,M,F,FM,e=>by
  have p2:2<=p:=hp.1;obtain⟨I,lq,hm⟩:=F.irr (q,m) ag;have e1:Pr ((q,m)::L) id=q^m*Pr L id:=rfl;have ex:∃r∈M,r.1=q:=cM λz=>by have c:=FM.cop hp I (by lia) λr hr k=>z ⟨r,hr,k⟩;rw[<- e,e1]at c;exact I.alone hp c (G8 q _ hm)
  obtain⟨⟨q',n⟩,hr,rfl⟩:=ex;obtain⟨a,b,ec⟩:=gz hr;have pm:M.Perm ((q',n)::(a++b)):=by rw[ec];exact hJ
  have FM':=FM.perm pm;have e2:Pr M id=q'^n*Pr (a++b) id:=by rw[M9 pm];rfl
  rw[e1,e2]at e;have cA:=F.tail.cop hp I (by lia) λr hr k=>(a9.mp F.ne).1 r hr k.symm;have cB:=FM'.tail.cop hp I (by lia) λr hr k=>(a9.mp FM'.ne).1 r hr k.symm;have mA:=F.tail.mo p2;have mB:=FM'.tail.mo p2;have emn:m=n:=by
   rcases Nat.lt_trichotomy m n with h|h|h
   ·exact(Mh hp I mA mB cA h e).elim
   ·exact h
   ·exact(Mh hp I mB mA cB h e.symm).elim
  subst emn;have eAB:=Mo.cancel hp mA mB (Mo.pow p2 I.mo m) e;exact(List.Perm.cons _ (LQ hp F.tail FM'.tail eAB)).trans pm.symm
def XC (a b:Pl p×Nat):Prop:=kI (ls a.1) (ls b.1)=true
def rP (q:Pl p)(m:Nat):List (Pl p×Nat)->List (Pl p×Nat)
 |[]=>[(q,m)]
 |r::R=>if kI (ls r.1) (ls q)=true then r::rP q m R else if ls r.1=ls q then(q,r.2+m)::R else(q,m)::r::R
theorem Np (q:Pl p)(m:Nat):∀R:List (Pl p×Nat),Pr (rP q m R) id=q^m*Pr R id
 |[]=>rfl
 |r::R=>by
  unfold rP;by_cases c:kI (ls r.1) (ls q)=true
  ·rw[af c,jF,Np q m R,jF];generalize r.1^id r.2=a;generalize q^m=b;generalize Pr R id=z;grind
  ·rw[ae c];by_cases d:ls r.1=ls q
   ·rw[af d,jF,jF,<- Mo.inj d];show r.1^(r.2+m)*Pr R id=r.1^m*(r.1^r.2*Pr R id);rw[pow_add];generalize r.1^r.2=a;generalize r.1^m=b;generalize Pr R id=z;grind
   ·rw[ae d,jF];rfl
theorem xN:∀{R:List (Pl p×Nat)} {x:Pl p×Nat},x∈rP q m R->x.1=q/\(x.2=m\/∃r∈R,x.2=r.2+m)\/x∈R
 |[],x,h=>by rw[bp.mp h];exact .inl ⟨rfl,.inl rfl⟩
 |r::R,x,h=>by
  unfold rP at h;by_cases c:kI (ls r.1) (ls q)=true
  ·rw[af c]at h;rcases aB.mp h with rfl|h
   ·exact .inr ag
   ·rcases xN h with⟨a,b|⟨r',hr,b⟩⟩|a
    ·exact .inl ⟨a,.inl b⟩
    ·exact .inl ⟨a,.inr ⟨r',ad _ hr,b⟩⟩
    ·exact .inr (ad _ a)
  ·rw[ae c]at h;by_cases d:ls r.1=ls q
   ·rw[af d]at h;rcases aB.mp h with rfl|h
    ·exact .inl ⟨rfl,.inr ⟨r,ag,rfl⟩⟩
    ·exact .inr (ad _ h)
   ·rw[ae d]at h;rcases aB.mp h with rfl|h
    ·exact .inl ⟨rfl,.inl rfl⟩
    ·exact .inr h
theorem Ol:∀{R:List (Pl p×Nat)},R.Pairwise XC->(rP q m R).Pairwise XC
 |[],_=>gW _ _
 |r::R,h=>by
  rw[a9]at h;unfold rP;by_cases c:kI (ls r.1) (ls q)=true
  ·rw[af c];refine a9.mpr ⟨λx hx=>?_,Ol h.2⟩;rcases xN hx with⟨a,_⟩|a
   ·show kI (ls r.1) (ls x.1)=true;rw[a];exact c
   ·exact h.1 x a
  ·rw[ae c];by_cases d:ls r.1=ls q
   ·rw[af d];refine a9.mpr ⟨λx hx=>?_,h.2⟩;show kI (ls q) (ls x.1)=true;rw[<- d];exact h.1 x hx
   ·rw[ae d];have qr:kI (ls q) (ls r.1)=true:=xJ d (by simpa using c);refine a9.mpr ⟨λx hx=>?_,a9.mpr h⟩;rcases aB.mp hx with rfl|hx
    ·exact qr
    ·exact Gu qr (h.1 x hx)
theorem Z5 {R:List (Pl p×Nat)}(h:R.Pairwise XC):R.Pairwise λa b=>a.1≠b.1:=h.imp λ{a b} k z=>by have k:kI (ls a.1) (ls b.1)=true:=k;rw[z,Sh]at k;cases k
theorem Nt:∀{R:List (Pl p×Nat)} {k:Nat},k<=R.length->(∀j (h:j<R.length),j<k->kI (ls R[j].1) (ls q)=true)->(∀h:k<R.length,kI (ls R[k].1) (ls q)=false) ->
  rP q m R=if h:k<R.length then(if ls R[k].1=ls q then R.set k (q,R[k].2+m) else R.take k++(q,m)::R.drop k) else R.take k++(q,m)::R.drop k
 |[],k,h,_,_=>by
  have:k=0:=by simpa using h
  subst this;rfl
 |r::R,0,_,_,h=>by have h:=h (dw _);have h:kI (ls r.1) (ls q)=false:=h;unfold rP;rw[ae (by rw[h];decide),fV (show 0<(r::R).length from dw _)];rfl
 |r::R,k+1,hk,h1,h2=>by
  have c:kI (ls r.1) (ls q)=true:=h1 0 (dw _) (dw _);have ih:=Nt (q:=q) (m:=m) (R:=R) (k:=k) (by simpa using hk) (λj h hj=>h1 (j+1) (by simpa using h) (by lia)) λh=>h2 (by simpa using h);unfold rP;rw[af c,ih];by_cases d:k<R.length
  ·rw[fV d,fV (by simpa using d)];show r::(if ls R[k].1=ls q then _ else _)=if ls R[k].1=ls q then _ else _;by_cases e:ls R[k].1=ls q
   ·rw[af e,af e];rfl
   ·rw[ae e,ae e];rfl
  ·rw[dif_neg d,dif_neg (by simpa using d)];rfl
end Pl
theorem R9 {G:Gx}{Er:ER}{i:Nat}{cl:List (Str×Addr)}{cap:List (Option Nat)}{Cs Cb:En->Prop}{gp:En->PV}{kk:Nat}{gl:En->List PV}(hN:X.N.Nodup)(hi':X.N[i]?=some x)(hx:X.env.scope.names.lookup x=some .local)(L:u6 X N' sc cl (none::none::cap))(hc:X.calm=true)(hi:PE X src (tX X.K G Cs λZ=>.lst (gl Z)))
  (hg:∀s H fp,PG (jE X N' sc cl s H fp) (.Tuple els kk tp) (gTup X.K 2 (gCons (gName 0) (gCons (gName 1) gNil)))) (he:∀s H fp,PE (jE X N' sc cl s H fp) el (tX X.K G Cb gp))
  (hsw:swapsWith (.ListComp el [⟨.Tuple els kk tp,src,[],0⟩] sc at') (some (.Name x px)) spos.line X.env=pure true) (hs:∀x,foldedSetIterable src X.env x=pure x:=by intro _;rfl) :
  PS X (.Assign [.Name x px] (.ListComp el [⟨.Tuple els kk tp,src,[],0⟩] sc at') spos) (ts X.K G Er λP Z=>(Cs Z/\(gl Z).length<=1000/\(∀q∈gl Z,JS q)/\∀q∈gl Z,Cb (((jH (none::none::cap) Z).set 0 (.fr (pO q))).set 1 (.fr (p6 q))))/\∀ns,ns=((gl Z).map λq=>gp (((jH (none::none::cap) Z).set 0 (.fr (pO q))).set 1 (.fr (p6 q))))->P.nx (Z.set i (.ow (.lst ns)))):=
 WW (M6 hN hi' hx L hc (pi_list hi) hg (λ_ _ _=>pM) he hsw hs) λσ H Q h=>abh h
def V9 (x:List Int)(c:Int):List PV->List PV
 |[]=>[.tup [.ints x,.int c]]
 |r::R=>if kI (Qs r) x=true then r::V9 x c R else if Qs r=x then .tup [.ints x,.int (pQ r+c)]::R else .tup [.ints x,.int c]::r::R
def Bu (a b:List PV):List PV:=b.foldl (λM r=>V9 (Qs r) (pQ r) M) a
open Pl in
theorem Jq (q:Pl p)(m:Nat):∀R:List (Pl p×Nat),V9 (ls q) (m:Int) (R.map jT)=(rP q m R).map jT
 |[]=>rfl
 |r::R=>by
  have k:Qs (jT r)=ls r.1:=rfl;have k2:pQ (jT r)=(r.2:Int):=rfl;rw[aX];unfold V9 rP;rw[k,k2];by_cases c:kI (ls r.1) (ls q)=true
  ·rw[af c,af c,Jq q m R,aX]
  ·rw[ae c,ae c];by_cases d:ls r.1=ls q
   ·rw[af d,af d,aX];rfl
   ·rw[ae d,ae d,aX,aX];rfl
open Pl in
def oG {p:Int}(A B:List (Pl p×Nat)):List (Pl p×Nat):=B.foldl (λM r=>rP r.1 r.2 M) A
open Pl in
theorem zR:∀(B A:List (Pl p×Nat)),Bu (A.map jT) (B.map jT)=(oG A B).map jT
 |[],_=>rfl
 |r::B,A=>by have:=zR B (rP r.1 r.2 A);unfold Bu oG at this ⊢;rw[aX,ia,ia,<- this];congr 1;exact Jq r.1 r.2 A
open Pl in
theorem Jb (q:Pl p)(m:Nat):∀R:List (Pl p×Nat),(rP q m R).length<=R.length+1
 |[]=>ai _
 |r::R=>by
  unfold rP;split
  ·rw[aG,aG];have:=Jb q m R;lia
  ·split
   ·rw[aG,aG];lia
   ·rw[aG,aG];lia
open Pl in
theorem Vb (T:Top K mg cNO cK cR):Ok P w K mg base 2 "_law_laid" ["_law_ones","_law_others"] (yu K (pX cR) (λas=>∃(p:Int) (A B:List (Pl p×Nat)),as=[.lst (A.map jT),.lst (B.map jT)]/\A.length+B.length<=500/\(∀r∈A,(ls r.1).length<=100)/\∀r∈B,(ls r.1).length<=100) λas=>match as with
  |[.lst a,.lst b]=>.lst (Bu a b)
  |_=>.non):=by
 refine w5 T.Yj uO (λas ⟨p,a,b,h,_⟩=>by rw[h];rfl) (λf cdv A outer s H E hr=>⟨_,(ji (R9 (i:=2) uO.nd rfl rfl (N':=["_law_row","_law_often"]) (cap:=[]) (ph rfl rfl rfl rfl tJ tJ rfl) rfl (nW (xv 0)) (λ_ _ _=>(pg_tup rfl (pgs_cons (pZ 0) (pgs_cons (pZ 1) pgs_nil)))) (λ_ _ _=>(qH (jh (jY (uM T.rH (xl 0) (λ_=>.inl rfl))) (jh (xn 1) jk)))) rfl)
 (ji (Bb (k:=3) (j:=4) aE rfl (nW (xv 1)) (pg_tup rfl (pgs_cons (pg_name (i:=3) uO.nd rfl (Or.inl rfl)) (pgs_cons (pg_name (i:=4) uO.nd rfl (Or.inl rfl)) pgs_nil)))
 (ji (jA (i:=5) uO.nd rfl (Or.inl rfl) jj)
 (ji (nF aE (L2.PW.pt (xY (SQ (xn 5) (N5 2 T.jM)) (uX (vZ (U0 (Pu T) hr (jh (xl_of (ju (Bv 2 (xn 5) (λ_ _=>rfl)) jj (λ_ _=>rfl))) (jh (xl 3) jk)))))))
 (jm (jA (i:=5) uO.nd rfl (Or.inl rfl) (lG (xn 5) jj))))
 (jm (lJ (L2.PW.pt (xY (SQ (xn 5) (N5 2 T.jM)) (uX (Tq hr.units (ZJ (xl_of (ju (Bv 2 (xn 5) (λ_ _=>rfl)) jj (λ_ _=>rfl)))) (ZJ (xl 3))))))
 (jm (Ky 2 (xn 5) (qH (jh (xl 3) (jh (lG (rA (ju (Bv 2 (xn 5) (λ_ _=>rfl)) jj (λ_ _=>rfl))) (xn 4)) jk)))))
 (jm (Tw 2 (xn 5) (qH (jh (xl 3) (jh (xn 4) jk))))))))))
 (lz 2 (jm (jx (xv 2)))))),λas hp=>?_⟩)
 obtain⟨p,A,B,rfl,ab,hA,hB⟩:=hp;have lA:(A.map jT).length=A.length:=aa _;have lB:(B.map jT).length=B.length:=aa _;refine⟨⟨⟨rfl,rfl⟩,by show(A.map jT).length<=1000;lia,λq hq=>?_,λq hq=>?_⟩,λns ens=>?_⟩
 ·obtain⟨r,_,rfl⟩:=aR.mp hq;exact rfl
 ·obtain⟨r,_,rfl⟩:=aR.mp hq;exact⟨rfl,rfl,tJ⟩
 replace ens:ns=A.map jT:=ens.trans (by
  show List.map _ (A.map jT)=_;rw[bx];exact bT λr _=>rfl)
 refine jJ (Z':=[.fr (.lst (A.map jT)),.fr (.lst (B.map jT)),.ow (.lst ns),.un,.un,.un]) rfl ?_;subst ens;have big:∀i,i<=B.length->(oG A (B.take i)).length<=A.length+i/\∀r∈oG A (B.take i),(ls r.1).length<=100:=λi=>by
  induction i with
  |zero=>exact λ_=>⟨ai _,hA⟩
  |succ i ih=>
   intro hi;obtain⟨a,b⟩:=ih (by lia);have hb:B[i]?=some B[i]:=ac (by lia);have e:oG A (B.take (i+1))=rP (B[i]).1 (B[i]).2 (oG A (B.take i)):=by unfold oG;rw[nH hb,gO];rfl
   rw[e];refine⟨aC (Jb _ _ _) (by lia),λr hr=>?_⟩;rcases xN hr with⟨z,_⟩|z
   ·rw[z];exact hB _ (bC (by lia))
   ·exact b r z
 refine⟨⟨⟨rfl,rfl⟩,λq hq=>?_⟩,λi Z=>∃v3 v4 v5,Z=[.fr (.lst (A.map jT)),.fr (.lst (B.map jT)),.ow (.lst ((oG A (B.take i)).map jT)),v3,v4,v5],⟨.un,.un,.un,rfl⟩,?_,?_⟩
 ·obtain⟨r,_,rfl⟩:=aR.mp hq;exact rfl
 ·rintro i q Z hq ⟨v3,v4,v5,rfl⟩;have hq:(B.map jT)[i]?=some q:=hq;rw[ao]at hq;obtain⟨r,hr',rfl⟩:=de.mp hq;have il:i<B.length:=(aj.mp hr').1;obtain⟨b1,b2⟩:=big i (by lia);have nx:oG A (B.take (i+1))=rP r.1 r.2 (oG A (B.take i)):=by unfold oG;rw[nH hr',gO];rfl
  generalize oG A (B.take i)=M at *
  have lM:(M.map jT).length=M.length:=aa _;refine⟨tJ,λa0 ea0=>?_⟩;refine jJ (Z':=[.fr (.lst (A.map jT)),.fr (.lst (B.map jT)),.ow (.lst (M.map jT)),.fr (.ints (ls r.1)),.fr (.int (r.2:Int)),.fr (.int a0)]) rfl ?_;subst ea0;have gM:∀k,k<M.length->(M.map jT).getD (jZ (M.map jT).length (k:Int)) .non=jT (M.getD k (1,0))/\M[k]?=some (M.getD k (1,0)):=λk hk=>by
   have ix:jZ (M.map jT).length (k:Int)=k:=by rw[lM];unfold jZ;rw[af (by lia)];lia
   rw[ix,gQ,ao,ac hk,gQ,ac hk];exact⟨rfl,rfl⟩
  have h0:∀x:Pl p×Nat,lR (jT x) 0:=λx=>⟨by show -(2:Int)<=0;decide,by show(0:Int)<2;decide⟩;have h1:∀x:Pl p×Nat,lR (jT x) 1:=λx=>⟨by show -(2:Int)<=1;decide,by show(1:Int)<2;decide⟩;have c0:∀k:Nat,k<M.length->lR ((M.map jT).getD (jZ (M.map jT).length (k:Int)) .non) 0/\jV ((M.map jT).getD (jZ (M.map jT).length (k:Int)) .non) 0=.ints (j8 (jV ((M.map jT).getD (jZ (M.map jT).length (k:Int)) .non) 0))/\j8 (jV ((M.map jT).getD (jZ (M.map jT).length (k:Int)) .non) 0)=ls (M.getD k (1,0)).1/\lR ((M.map jT).getD (jZ (M.map jT).length (k:Int)) .non) 1/\jV ((M.map jT).getD (jZ (M.map jT).length (k:Int)) .non) 1=.int (yF (jV ((M.map jT).getD (jZ (M.map jT).length (k:Int)) .non) 1))/\yF (jV ((M.map jT).getD (jZ (M.map jT).length (k:Int)) .non) 1)=((M.getD k (1,0)).2:Int):=λk hk=>by rw[(gM k hk).1];exact⟨h0 _,rfl,rfl,h1 _,rfl,rfl⟩
  refine⟨λZ=>∃k:Nat,Z=[.fr (.lst (A.map jT)),.fr (.lst (B.map jT)),.ow (.lst (M.map jT)),.fr (.ints (ls r.1)),.fr (.int (r.2:Int)),.fr (.int (k:Int))]/\k<=M.length/\∀j,j<k->kI (ls (M.getD j (1,0)).1) (ls r.1)=true,λZ=>M.length-(Dc Z 5).toNat,⟨0,rfl,bh _,λj hj=>absurd hj (da j)⟩,?_⟩;rintro Z ⟨k,rfl,hk,hj⟩;have rl:=hB r (aV hr');refine⟨⟨⟨rfl,rfl⟩,λq=>?_⟩,λq=>?_,λq=>?_⟩
  ·have q:(k:Int)<((M.map jT).length:Int):=q;have kl:k<M.length:=by lia
   obtain⟨g1,g2,g3,_⟩:=c0 k kl;refine⟨⟨⟨⟨⟨rfl,rfl,by show -((M.map jT).length:Int)<=(k:Int);lia,q⟩,tJ,g1⟩,g2⟩,rfl,tJ⟩,_,ls r.1,rfl,?_⟩;show(j8 (jV ((M.map jT).getD (jZ (M.map jT).length (k:Int)) .non) 0)).length<=1000;rw[g3,gQ,ac kl];have:=b2 _ (bC kl);exact aC this (by decide)
  ·have q:(k:Int)<((M.map jT).length:Int)/\kI (j8 (jV ((M.map jT).getD (jZ (M.map jT).length (k:Int)) .non) 0)) (ls r.1)=true:=q;have kl:k<M.length:=by lia
   rw[(c0 k kl).2.2.1]at q;refine⟨⟨rfl,tJ⟩,λa1 ea1=>?_⟩;replace ea1:a1=(k:Int)+1:=ea1;have ea2:a1=((k+1:Nat):Int):=by lia
   refine⟨⟨k+1,by rw[ea2];rfl,by lia,λj hj'=>?_⟩,?_⟩
   ·by_cases z:j=k
    ·rw[z];exact q.2
    ·exact hj j (by lia)
   ·show M.length-a1.toNat<M.length-((k:Int)).toNat;lia
  have q:¬((k:Int)<((M.map jT).length:Int)/\kI (j8 (jV ((M.map jT).getD (jZ (M.map jT).length (k:Int)) .non) 0)) (ls r.1)=true):=q;have IA:=Nt (q:=r.1) (m:=r.2) (R:=M) (k:=k) hk (λj h hjk=>by
   have:=hj j hjk;rw[gQ,ac h]at this;exact this) λh=>by
   cases z:kI (ls M[k].1) (ls r.1) with
   |false=>rfl
   |true=>exact absurd ⟨by lia,by rw[(c0 k h).2.2.1,gQ,ac h];exact z⟩ q
  rw[<- nx]at IA;refine⟨⟨⟨rfl,rfl⟩,λq=>?_⟩,λz=>?_,λz=>?_⟩
  ·have q:(k:Int)<((M.map jT).length:Int):=q;obtain⟨g1,g2,_⟩:=c0 k (by lia);exact⟨⟨⟨⟨rfl,rfl,by show -((M.map jT).length:Int)<=(k:Int);lia,q⟩,tJ,g1⟩,g2⟩,rfl⟩
  ·have z:(k:Int)<((M.map jT).length:Int)/\j8 (jV ((M.map jT).getD (jZ (M.map jT).length (k:Int)) .non) 0)=ls r.1:=z;have kl:k<M.length:=by lia
   obtain⟨g1,g2,g3,g4,g5,g6⟩:=c0 k kl;have e1:=z.2;rw[g3,gQ,ac kl]at e1;have e1:ls M[k].1=ls r.1:=e1;rw[fV kl,af e1]at IA;refine⟨⟨rfl,⟨⟨⟨⟨rfl,rfl,by show -((M.map jT).length:Int)<=(k:Int);lia,z.1⟩,tJ,g4⟩,g5⟩,rfl⟩,tJ⟩,rfl,rfl,⟨by show -((M.map jT).length:Int)<=(k:Int);lia,z.1⟩,.fr (.ints (ls r.1)),.fr (.int (r.2:Int)),.fr (.int (k:Int)),?_⟩;have ix:jZ (M.map jT).length (k:Int)=k:=by rw[lM];unfold jZ;rw[af (by lia)];lia
   show[Sl.fr (.lst (A.map jT)),.fr (.lst (B.map jT)),.ow (.lst ((M.map jT).set (jZ (M.map jT).length (k:Int)) (.tup [.ints (ls r.1),.int (yF (jV ((M.map jT).getD (jZ (M.map jT).length (k:Int)) .non) 1)+(r.2:Int))]))),.fr (.ints (ls r.1)),.fr (.int (r.2:Int)),.fr (.int (k:Int))]=_;rw[g6,ix,IA,i7,gQ,ac kl];rfl
  ·have z:¬((k:Int)<((M.map jT).length:Int)/\j8 (jV ((M.map jT).getD (jZ (M.map jT).length (k:Int)) .non) 0)=ls r.1):=z;have e2:oG A (B.take (i+1))=M.take k++(r.1,r.2)::M.drop k:=by
    rw[IA];by_cases kl:k<M.length
    ·rw[fV kl,ae];intro e;exact z ⟨by lia,by rw[(c0 k kl).2.2.1,gQ,ac kl];exact e⟩
    ·rw[dif_neg kl]
   refine⟨rfl,rfl,⟨rfl,rfl,tJ⟩,⟨by show(0:Int)<=(k:Int);lia,by show(k:Int)<=((M.map jT).length:Int);lia,by show(M.map jT).length<1000;lia⟩,.fr (.ints (ls r.1)),.fr (.int (r.2:Int)),.fr (.int (k:Int)),?_⟩;show[Sl.fr (.lst (A.map jT)),.fr (.lst (B.map jT)),.ow (.lst ((M.map jT).take ((k:Int)).toNat++PV.tup [.ints (ls r.1),.int (r.2:Int)]::(M.map jT).drop ((k:Int)).toNat)),.fr (.ints (ls r.1)),.fr (.int (r.2:Int)),.fr (.int (k:Int))]=_;rw[e2,aA,bF,aX,gS,gR];rfl
 ·rintro Z ⟨v3,v4,v5,rfl⟩;refine⟨rfl,?_⟩;show PV.lst ((oG A (B.take (B.map jT).length)).map jT)=PV.lst (Bu (A.map jT) (B.map jT));rw[lB,cH,zR]
open Pl in
theorem Fb (hp:jN p)(mx:Mo x)(a0:0<a)(a1:a<p):ls (con p a*x)≠[]/\jo (ls (con p a*x))=a/\(ls (con p a*x)).length=(ls x).length/\qP p (ls (con p a*x))=ls x:=by
 have p2:2<=p:=hp.1;have nd:¬p ∣ a:=λz=>by have:=dB a0 z;lia
 have get:∀n,(ls (con p a*x)).getD n 0=pl p (a*(ls x).getD n 0):=λn=>by
  have e:con p a*x=mk p (zN a (ls x)):=by have:=rG (p:=p) a (ls x);rw[jL]at this;exact this
  rw[e,qi,lD,jR]
 have pos:=mx.pos;have top:(ls (con p a*x)).getD ((ls x).length-1) 0=a:=by have l1:(ls x).getD ((ls x).length-1) 0=1:=mx;rw[get,l1,bM,mD (by lia)];exact bI (by lia) a1
 have le:(ls (con p a*x)).length<=(ls x).length:=m6 (j7 _).form λn hn=>by rw[get,jr (xs:=ls x) hn,aT,lW]
 have ge:(ls x).length<=(ls (con p a*x)).length:=dC λh=>by rw[jr (xs:=ls (con p a*x)) (by lia)]at top;lia
 have el:(ls (con p a*x)).length=(ls x).length:=by lia
 have ne:ls (con p a*x)≠[]:=eJ.mp (by lia);have la:jo (ls (con p a*x))=a:=by show(ls (con p a*x)).getD ((ls (con p a*x)).length-1) 0=a;rw[el];exact top
 refine⟨ne,la,el,?_⟩;have nl:=QJ hp (j7 (con p a*x)) ne;rw[jL,la]at nl;obtain⟨t,ht⟩:=lK hp nd;have ci:=xK ht;have e:x=mk p (qP p (ls (con p a*x))):=by have:=congrArg (λy=>con p t*y) nl;rw[<- mul_assoc,<- mul_assoc,ci,one_mul,one_mul]at this;exact this
 have G:=z9 hp (j7 (con p a*x)).form (j7 (con p a*x)).red;have eN:ls (mk p (qP p (ls (con p a*x))))=qP p (ls (con p a*x)):=vp ⟨G.form,G.red⟩;rw[<- eN,<- e]
open Pl in
theorem Ho:∀{B A:List (Pl p×Nat)},qw A->A.Pairwise XC->qw B->qw (oG A B)/\(oG A B).Pairwise XC/\Pr (oG A B) id=Pr A id*Pr B id
 |[],A,FA,so,_=>⟨FA,so,by
  have e:Pr ([]:List (Pl p×Nat)) id=1:=rfl;rw[e,mul_comm,one_mul];rfl⟩
 |r::B,A,FA,so,FB=>by
  have so':=Ol (q:=r.1) (m:=r.2) so;obtain⟨i1,i2,i3⟩:=FB.irr r ag;have FA':qw (rP r.1 r.2 A):=⟨λq hq=>by
   rcases xN hq with⟨a,b⟩|a
   ·rw[a];refine⟨i1,i2,?_⟩;rcases b with b|⟨_,_,b⟩<;>lia
   ·exact FA.irr q a,Z5 so'⟩
  obtain⟨a,b,c⟩:=Ho FA' so' FB.tail;refine⟨a,b,?_⟩;have e:oG A (r::B)=oG (rP r.1 r.2 A) B:=rfl;rw[e,c,Np,jF];show r.1^r.2*Pr A id*Pr B id=Pr A id*(r.1^r.2*Pr B id);generalize r.1^r.2=x;generalize Pr A id=y;generalize Pr B id=z;grind
open Pl in
theorem vH (hp:jN p)(ne:Tz p f≠[])(nl:(qP p (Tz p f)).length<=31):∃A:List (Pl p×Nat),qw A/\A.Pairwise XC/\vP p f=.tup [.int (jo (Tz p f)),.lst (A.map jT)]/\ls (Pr A id)=qP p (Tz p f)/\A.length+1<=(qP p (Tz p f)).length:=by
 obtain⟨L,F⟩:=Nb hp ne nl;have pp:=Iv hp F nl;obtain⟨so1,so2⟩:=uK F.nd;obtain⟨A,pa,ea⟩:=xH so1 rfl;have IL:qw L:=⟨λq hq=>⟨(F.irr q hq).1,(F.irr q hq).2.1,(F.irr q hq).2.2.1⟩,F.ne⟩;refine⟨A,IL.perm pa.symm,?_,?_,?_,?_⟩
 ·rw[<- ea,cJ]at so2;exact so2
 ·unfold vP;rw[JX F.nd pp,ea]
 ·rw[M9 pa];exact F.eN
 ·rw[pa.length_eq];exact F.len hp
open Pl in
theorem Ko (hp:jN p){A B C:List (Pl p×Nat)}(FA:qw A)(sA:A.Pairwise XC)(FB:qw B)(FC:qw C)(sC:C.Pairwise XC)(e:Pr C id=Pr A id*Pr B id):C.map jT=(oG A B).map jT:=by
 obtain⟨a,b,c⟩:=Ho FA sA FB;have pm:=LQ hp FC a (e.trans c.symm);refine Ez Qs (pm.map jT) ?_ ?_
 ·rw[cJ];exact sC
 ·rw[cJ];exact b
open Pl in
theorem YF (T:Top K mg cNO cK cR)(F:Fun K "law" "law" Ec f fd):FnOk P w K mg base CX0 14 f fd ["_law_script"] (yc K):=by
 refine aaG (G:=pX cR) F p8 (λcdv A outer s H E hr=>⟨_,(ji (jA (i:=1) p8.nd rfl (Or.inl rfl) (ZK (Vv T) hr (jh (xr 0) jk)))
 (ji (jA (i:=2) p8.nd rfl (Or.inl rfl) (ZK (Av T) hr (jh (vV (xn 1) jj) jk)))
 (ji (mV (i:=3) p8.nd rfl (Or.inl rfl) (abd (Tv T) hr gkR (xn 2)))
 (ji (jA (i:=4) p8.nd rfl (Or.inl rfl) (rA (ju (jY (m7 (jh jj (jh jj jk)))) (Wy T.Xn (aaP (m9 (xn 1) jj) jj)) (λ_ _=>rfl))))
 (ji (jC (i:=5) p8.nd rfl (Or.inl rfl) (jY (tW (qu T) hr (jh (Yi (Ce T) hr (jh (jY (yl (xr 0) (lU jj) (lU jj) (lU jj) (λ_ _=>.inr rfl))) (jh (xn 2) (jh (xn 4) jk)))) (jh (jY (m7 (jh (lG jj (m9 (vV (xn 1) jj) (pI (xn 2) jj))) jk))) (jh (xn 2) jk))))))
 (ji (jC (i:=6) p8.nd rfl (Or.inl rfl) (jY (tW (qu T) hr (jh (Yi (Ce T) hr (jh (jY (yl (xr 0) (lU jj) (lU jj) (lU jj) (λ_ _=>.inr rfl))) (jh (xn 2) (jh (xn 4) jk)))) (jh (jY (m7 (jh (lG jj (m9 (vV (xn 1) jj) (pI (xn 2) jj))) jk))) (jh (xn 2) jk))))))
 (Cm (lJ (yR (m9 (vV (xn 1) jj) jj) jj)
 (jm (jC (i:=6) p8.nd rfl (Or.inl rfl) (jY (uM T.rH (xl 5) (λ_=>.inl rfl)))))
 kj)
 (ji (jC (i:=7) p8.nd rfl (Or.inl rfl) (jY (tW (qu T) hr (jh (xl 5) (jh (xl 6) (jh (xn 2) jk))))))
 (ji (mV (i:=8) p8.nd rfl (Or.inl rfl) (tQ (sO (jh (xc (BJ T) hr (jh (xv 3) (jh (jY (uM T.rH (xl 5) (λ_=>.inl rfl))) jk))) (jh (xc (BJ T) hr (jh (xv 3) (jh (jY (uM T.rH (xl 6) (λ_=>.inl rfl))) jk))) (jh (xc (BJ T) hr (jh (xv 3) (jh (jY (uM T.rH (xl 7) (λ_=>.inl rfl))) jk))) jk))))))
 (ji (Qf (k:=9) (j:=10) aE rfl (by rfl) T.mF (tQ (sO (jh (xl 5) (jh (xl 6) (jh (xl 7) jk))))) (pg_tup rfl (pgs_cons (pg_name (i:=9) p8.nd rfl (Or.inl rfl)) (pgs_cons (pg_name (i:=10) p8.nd rfl (Or.inl rfl)) pgs_nil)))
 (jm (lJ (L2.PW.pt (qD (nM (vZ (U0 (yU T) hr (jh (ju (xv 8) (xn 9) (λ_ _=>rfl)) jk)))) (tD (sH (rA (ju (ju (xv 8) (xn 9) (λ_ _=>rfl)) jj (λ_ _=>rfl))) (lL 10 (vR jj) (λ_ _=>rfl))))))
 (jm (jx rY))
 kj)))
 (jm (jx (U0 (Ac T) hr (jh (ju (ju (xv 8) jj (λ_ _=>rfl)) jj (λ_ _=>rfl)) (jh (xc (Vb T) hr (jh (ju (ju (xv 8) jj (λ_ _=>rfl)) jj (λ_ _=>rfl)) (jh (ju (ju (xv 8) jj (λ_ _=>rfl)) jj (λ_ _=>rfl)) jk))) jk))))))))))))))),λns h63 hbits=>?_⟩)
 refine⟨⟨⟨rfl,tJ⟩,ns,rfl⟩,λhd ehd=>?_⟩;have hd0:0<=hd:=by rw[ehd];exact T9 _
 have dv:∀k:Int,0<k->k<=30000->RJ hd k:=λk k0 k1=>⟨k0,(iQ (by lia)).mpr (aO (show k.natAbs<=2^15 by lia) (bc (by decide) (by decide)))⟩;refine⟨⟨⟨⟨rfl,tJ,dv 24 (by decide) (by decide)⟩,tJ⟩,_,rfl⟩,λp ep=>?_⟩;have hp:jN p:=by rw[ep];exact VH _
 have p2:2<=p:=hp.1;have p3:p<=9973:=hp.2.1;refine⟨⟨rfl,hp⟩,λkd ekd=>?_⟩;subst ekd;refine jJ (Z':=[.fr (.scr ns),.fr (.int hd),.fr (.int p),.fr (.ob 0 p),.un,.un,.un,.un,.un,.un,.un]) rfl ?_;have hm6:hd % 6=4\/¬hd % 6=4:=Classical.em _;have fits:lR (.ints [3,6]) (if hd % 6=4 then 1 else 0)/\3<=yF (jV (.ints [3,6]) (if hd % 6=4 then 1 else 0))/\yF (jV (.ints [3,6]) (if hd % 6=4 then 1 else 0))<=6:=by
  rcases hm6 with h|h
  ·rw[af h];exact⟨⟨by show -(2:Int)<=1;decide,by show(1:Int)<2;decide⟩,by show(3:Int)<=6;decide,by show(6:Int)<=6;decide⟩
  ·rw[ae h];exact⟨⟨by show -(2:Int)<=0;decide,by show(0:Int)<2;decide⟩,by show(3:Int)<=3;decide,by show(3:Int)<=6;decide⟩
 refine⟨⟨⟨⟨⟨tJ,tJ,tJ⟩,tJ⟩,⟨⟨rfl,tJ,by show(0:Int)<6;decide⟩,tJ⟩,fits.1⟩,rfl⟩,λmo emo=>?_⟩;have m3:3<=mo/\mo<=6:=by rw[emo];exact fits.2
 refine jJ (Z':=[.fr (.scr ns),.fr (.int hd),.fr (.int p),.fr (.ob 0 p),.fr (.int mo),.un,.un,.un,.un,.un,.un]) rfl ?_;have LD:∀(cells:List Int) (e:Int),∃(x:Pl p) (a:Int),Mo x/\0<a/\a<p/\(ls x).length<=7/\prodF p mo cells=ls x/\1+e % (p-1)=a/\Tz p (jq (prodF p mo cells) [1+e % (p-1)])=ls (con p a*x):=λcells e=>by
  obtain⟨x,mx,ex,lx⟩:=Jc hp (show 0<=mo by lia) cells;have h1:=bE e (show p-1≠0 by lia);have h2:=bj e (show 0<p-1 by lia);refine⟨x,1+e % (p-1),mx,by lia,by lia,by lia,ex,rfl,?_⟩;generalize 1+e % (p-1)=a at *
  rw[ex,<- qi,<- kZ,jL,mul_comm];rfl
 have smallB:∀a:Int,0<a->a<p->∀m∈[a],m.natAbs<2^9000:=λa h0 h1 m hm=>by
  rw[bp.mp hm];have:a.natAbs<2^14:=by lia
  exact aD this (cF (by decide) (by decide))
 obtain⟨x,a,mx,a0,a1,lx,ex,ea,eo⟩:=LD (pB ns (some 1) (some 63) (some 2)) (hd / 720);refine⟨⟨⟨⟨⟨⟨rfl,tJ,tJ,tJ,by decide⟩,rfl,rfl,tJ⟩,_,p,mo,rfl,hp,by lia,by lia⟩,⟨⟨⟨tJ,⟨rfl,tJ,dv 720 (by decide) (by decide)⟩,⟨rfl,tJ⟩,by show(0:Int)<p-1;lia⟩,tJ⟩,tJ⟩,rfl,tJ⟩,prodF p mo (pB ns (some 1) (some 63) (some 2)),[1+hd / 720 % (p-1)],p,rfl,by lia,by rw[ex];show(ls x).length+1<=1000;lia,by rw[ex];exact(j7 x).bd hp,by rw[ea];exact smallB a a0 a1⟩,λone eone=>?_⟩;replace eone:one=ls (con p a*x):=eone.trans eo;clear eo ex ea;obtain⟨y,b,my,b0,b1,ly,ey,eb,eo⟩:=LD (pB ns (some 2) (some 63) (some 2)) (hd / 30000);refine jJ (Z':=[.fr (.scr ns),.fr (.int hd),.fr (.int p),.fr (.ob 0 p),.fr (.int mo),.fr (.ints one),.un,.un,.un,.un,.un]) rfl ?_;refine⟨⟨⟨⟨⟨⟨rfl,tJ,tJ,tJ,by decide⟩,rfl,rfl,tJ⟩,_,p,mo,rfl,hp,by lia,by lia⟩,⟨⟨⟨tJ,⟨rfl,tJ,dv 30000 (by decide) (by decide)⟩,⟨rfl,tJ⟩,by show(0:Int)<p-1;lia⟩,tJ⟩,tJ⟩,rfl,tJ⟩,prodF p mo (pB ns (some 2) (some 63) (some 2)),[1+hd / 30000 % (p-1)],p,rfl,by lia,by rw[ey];show(ls y).length+1<=1000;lia,by rw[ey];exact(j7 y).bd hp,by rw[eb];exact smallB b b0 b1⟩,λoth eoth=>?_⟩;replace eoth:oth=ls (con p b*y):=eoth.trans eo;clear eo ey eb LD;refine jJ (Z':=[.fr (.scr ns),.fr (.int hd),.fr (.int p),.fr (.ob 0 p),.fr (.int mo),.fr (.ints one),.fr (.ints oth),.un,.un,.un,.un]) rfl ?_;refine⟨λZ=>∃(y:Pl p) (b:Int),Z=[.fr (.scr ns),.fr (.int hd),.fr (.int p),.fr (.ob 0 p),.fr (.int mo),.fr (.ints one),.fr (.ints (ls (con p b*y))),.un,.un,.un,.un]/\Mo y/\0<b/\b<p/\(ls y).length<=7,⟨⟨⟨⟨rfl,tJ,dv 6 (by decide) (by decide)⟩,tJ,by show(0:Int)<4;decide⟩,tJ⟩,λ_=>?_,λ_=>⟨y,b,by rw[eoth],my,b0,b1,ly⟩⟩,?_⟩
 ·refine⟨rfl,λv ev=>⟨x,a,?_,mx,a0,a1,lx⟩⟩;replace ev:v=one:=ev;rw[ev,eone];rfl
 clear eoth my b0 b1 ly;rintro Z ⟨y,b,rfl,my,b0,b1,ly⟩;obtain⟨o1,o2,o3,o4⟩:=Fb hp mx a0 a1;obtain⟨t1,t2,t3,t4⟩:=Fb hp my b0 b1;have tz1:Tz p (ls (con p a*x))=ls (con p a*x):=qW _;have tz2:Tz p (ls (con p b*y))=ls (con p b*y):=qW _;have fo1:=j7 (con p a*x);have fo2:=j7 (con p b*y);have MD:∃c:Int,0<c/\c<p/\Tz p (jq (ls (con p a*x)) (ls (con p b*y)))=ls (con p c*(x*y)):=by
  have nd:¬p ∣ a*b:=λz=>by
   obtain⟨t,ht⟩:=lK hp (x:=a) λz=>by have:=dB a0 z;lia
   have e:b=t*(a*b)-(t*a-1)*b:=by rw[fg,b9,bG];lia
   have:p ∣ b:=by rw[e];exact dR (aK z) (aZ ht)
   have:=dB b0 this;lia
  have c0:a*b % p≠0:=λz=>nd (eY z);have c1:=bE (a*b) (show p≠0 by lia);have c2:=bj (a*b) (show 0<p by lia);refine⟨a*b % p,by lia,c2,?_⟩;have ec:con p (a*b % p)=con p a*con p b:=by rw[<- zA];refine KD ⟨-(a*b / p),?_⟩;have:=dU (a*b) p;rw[gT];lia
  rw[QV,ec];congr 1;generalize con p a=u;generalize con p b=v;grind
 obtain⟨c,c0,c1,ec⟩:=MD;have mxy:=Mo.mul p2 mx my;have lxy:=Mo.len p2 mx my;obtain⟨s1,s2,s3,s4⟩:=Fb hp mxy c0 c1;have tz3:Tz p (ls (con p c*(x*y)))=ls (con p c*(x*y)):=qW _;refine⟨⟨⟨rfl,rfl,rfl,tJ⟩,one,ls (con p b*y),p,rfl,by lia,by rw[eone];lia,by rw[eone];exact fo1.bd hp,fo2.bd hp⟩,λmd emd=>?_⟩;replace emd:md=ls (con p c*(x*y)):=by have emd:md=Tz p (jq one (ls (con p b*y))):=emd;rw[emd,eone];exact ec
 subst eone;obtain⟨A1,FA1,SA1,E1,N1,B1⟩:=vH hp (f:=ls (con p a*x)) (by rw[tz1];exact o1) (by rw[tz1,o4];lia);obtain⟨A2,FA2,SA2,E2,N2,B2⟩:=vH hp (f:=ls (con p b*y)) (by rw[tz2];exact t1) (by rw[tz2,t4];lia);obtain⟨A3,FA3,SA3,E3,N3,B3⟩:=vH hp (f:=ls (con p c*(x*y))) (by rw[tz3];exact s1) (by rw[tz3,s4];lia);rw[tz1]at E1;rw[tz2]at E2;rw[tz3]at E3;rw[tz1,o4]at N1 B1;rw[tz2,t4]at N2 B2;rw[tz3,s4]at N3 B3;have eP:Pr A3 id=Pr A1 id*Pr A2 id:=by rw[Mo.inj N1,Mo.inj N2,Mo.inj N3]
 have fin:=Ko hp FA1 SA1 FA2 FA3 SA3 eP;clear eP N1 N2 N3 ec mxy SA1 SA2 SA3;have l1:(ls (con p a*x)).length<=100:=by lia
 have l2:(ls (con p b*y)).length<=100:=by lia
 have l3:(ls (con p c*(x*y))).length<=100:=by lia
 have n1:(qP p (Tz p (ls (con p a*x)))).length<=31:=by rw[tz1,o4];lia
 have n2:(qP p (Tz p (ls (con p b*y)))).length<=31:=by rw[tz2,t4];lia
 have n3:(qP p (Tz p (ls (con p c*(x*y))))).length<=31:=by rw[tz3,s4];lia
 have z1:Tz p (ls (con p a*x))≠[]:=by rw[tz1];exact o1
 have z2:Tz p (ls (con p b*y))≠[]:=by rw[tz2];exact t1
 have z3:Tz p (ls (con p c*(x*y)))≠[]:=by rw[tz3];exact s1
 generalize ls (con p a*x)=f1 at *
 generalize ls (con p b*y)=f2 at *
 generalize ls (con p c*(x*y))=f3 at *
 refine jJ (Z':=[.fr (.scr ns),.fr (.int hd),.fr (.int p),.fr (.ob 0 p),.fr (.int mo),.fr (.ints f1),.fr (.ints f2),.fr (.ints md),.un,.un,.un]) rfl ?_;subst emd;refine⟨⟨⟨⟨rfl,rfl,tJ⟩,p,f1,rfl,hp,l1,n1,z1⟩,⟨⟨rfl,rfl,tJ⟩,p,f2,rfl,hp,l2,n2,z2⟩,⟨⟨rfl,rfl,tJ⟩,p,md,rfl,hp,l3,n3,z3⟩,tJ⟩,λfo efo=>?_⟩;replace efo:fo=.lst [vP p f1,vP p f2,vP p md]:=efo;rw[E1,E2,E3]at efo;refine jJ (Z':=[.fr (.scr ns),.fr (.int hd),.fr (.int p),.fr (.ob 0 p),.fr (.int mo),.fr (.ints f1),.fr (.ints f2),.fr (.ints md),.fr fo,.un,.un]) rfl ?_;subst efo;have P1:=lP o1;have P2:=lP t1;have P3:=lP s1;have sh:∀{C:List (Pl p×Nat)},qw C->∀q∈C.map jT,Yu q:=λ{C} FC q hq=>by obtain⟨r,hr,rfl⟩:=aR.mp hq;exact⟨ls r.1,(r.2:Int),rfl,aC (FC.irr r hr).2.1 (by decide)⟩
 have FB:∀(i:Nat) (r:List Int),([f1,f2,md]:List (List Int))[i]?=some r->∃C:List (Pl p×Nat),jV (.lst [.tup [.int (jo f1),.lst (A1.map jT)],.tup [.int (jo f2),.lst (A2.map jT)],.tup [.int (jo md),.lst (A3.map jT)]]) (i:Int)=.tup [.int (jo r),.lst (C.map jT)]/\lR (.lst [.tup [.int (jo f1),.lst (A1.map jT)],.tup [.int (jo f2),.lst (A2.map jT)],.tup [.int (jo md),.lst (A3.map jT)]]) (i:Int)/\qw C/\0<r.length:=λi r h=>by
  match i,h with
  |0,h=>cases h;exact⟨A1,rfl,⟨by show -(3:Int)<=0;decide,by show(0:Int)<3;decide⟩,FA1,P1⟩
  |1,h=>cases h;exact⟨A2,rfl,⟨by show -(3:Int)<=1;decide,by show(1:Int)<3;decide⟩,FA2,P2⟩
  |2,h=>cases h;exact⟨A3,rfl,⟨by show -(3:Int)<=2;decide,by show(2:Int)<3;decide⟩,FA3,P3⟩
  |i+3,h=>cases h
 have J0:=FB 0 f1 rfl;have J1:=FB 1 f2 rfl;have J2:=FB 2 md rfl;have I0:jV (.lst [.tup [.int (jo f1),.lst (A1.map jT)],.tup [.int (jo f2),.lst (A2.map jT)],.tup [.int (jo md),.lst (A3.map jT)]]) 0=.tup [.int (jo f1),.lst (A1.map jT)]:=rfl;have I1:jV (.lst [.tup [.int (jo f1),.lst (A1.map jT)],.tup [.int (jo f2),.lst (A2.map jT)],.tup [.int (jo md),.lst (A3.map jT)]]) 1=.tup [.int (jo f2),.lst (A2.map jT)]:=rfl;have I2:jV (.lst [.tup [.int (jo f1),.lst (A1.map jT)],.tup [.int (jo f2),.lst (A2.map jT)],.tup [.int (jo md),.lst (A3.map jT)]]) 2=.tup [.int (jo md),.lst (A3.map jT)]:=rfl;have K0:=J0.choose_spec.2.1;have K1:=J1.choose_spec.2.1;have K2:=J2.choose_spec.2.1;clear J0 J1 J2;generalize PV.lst [.tup [.int (jo f1),.lst (A1.map jT)],.tup [.int (jo f2),.lst (A2.map jT)],.tup [.int (jo md),.lst (A3.map jT)]]=V at *
 refine⟨⟨rfl,rfl,rfl,tJ⟩,λi Z=>∃v9 v10,Z=[.fr (.scr ns),.fr (.int hd),.fr (.int p),.fr (.ob 0 p),.fr (.int mo),.fr (.ints f1),.fr (.ints f2),.fr (.ints md),.fr V,v9,v10],⟨.un,.un,rfl⟩,?_,?_⟩
 ·rintro i q Z hq ⟨v9,v10,rfl⟩;have hq:([PV.ints f1,PV.ints f2,PV.ints md]:List PV)[i]?=some q:=hq;obtain⟨r,hr',rfl⟩:∃r,([f1,f2,md]:List (List Int))[i]?=some r/\q=.ints r:=by have e:([PV.ints f1,PV.ints f2,PV.ints md]:List PV)=([f1,f2,md]:List (List Int)).map PV.ints:=rfl;rw[e,ao]at hq;obtain⟨r,a,b⟩:=de.mp hq;exact⟨r,a,b.symm⟩
  obtain⟨C,e1,e2,FC,rp⟩:=FB i r hr';have g0:lR (jV V (i:Int)) 0:=by rw[e1];exact⟨by show -(2:Int)<=0;decide,by show(0:Int)<2;decide⟩
  have g1:jV (jV V (i:Int)) 0=.int (yF (jV (jV V (i:Int)) 0)):=by rw[e1];rfl
  have g2:yF (jV (jV V (i:Int)) 0)=jo r:=by rw[e1];rfl
  refine⟨⟨⟨⟨⟨rfl,rfl,e2⟩,tJ⟩,jo r,C.map jT,?_,sh FC⟩,λ_=>⟨⟨⟨⟨rfl,rfl,e2⟩,tJ,g0⟩,g1⟩,.inl rfl,tJ,by show -(r.length:Int) <= -1;lia,by show(-1:Int)<(r.length:Int);lia⟩⟩,λq=>?_,λ_=>⟨_,_,rfl⟩⟩
  ·show[jV V (i:Int)]=_;rw[e1]
  ·exfalso;have q:¬true=true\/¬yF (jV (jV V (i:Int)) 0)=r.getD (jZ r.length (-1)) 0:=q;rw[g2,wF _ rp]at q;rcases q with q|q
   ·exact q rfl
   ·exact q rfl
 ·rintro Z ⟨v9,v10,rfl⟩;have h1:∀q r:PV,lR (.tup [q,r]) 1:=λq r=>⟨by show -(2:Int)<=1;decide,by show(1:Int)<2;decide⟩;have m0:lR (jV V 0) 1:=by rw[I0];exact h1 _ _
  have m1:lR (jV V 1) 1:=by rw[I1];exact h1 _ _
  have m2:lR (jV V 2) 1:=by rw[I2];exact h1 _ _
  have w0:jV (jV V 0) 1=.lst (A1.map jT):=by rw[I0];rfl
  have w1:jV (jV V 1) 1=.lst (A2.map jT):=by rw[I1];rfl
  have w2:jV (jV V 2) 1=.lst (A3.map jT):=by rw[I2];rfl
  have lens:∀{C:List (Pl p×Nat)},qw C->∀r∈C,(ls r.1).length<=100:=λ{C} FC r hr=>aC (FC.irr r hr).2.1 (by decide);refine⟨⟨⟨⟨⟨rfl,tJ,K2⟩,tJ,m2⟩,⟨⟨⟨⟨rfl,tJ,K0⟩,tJ,m0⟩,⟨⟨rfl,tJ,K1⟩,tJ,m1⟩,tJ⟩,p,A1,A2,?_,?_,lens FA1,lens FA2⟩,tJ⟩,A3.map jT,?_,?_,sh FA3⟩,rfl⟩
  ·show[jV (jV V 0) 1,jV (jV V 1) 1]=_;rw[w0,w1]
  ·lia
  ·have key:∀u v:PV,u=.lst (A1.map jT)->v=.lst (A2.map jT)->(match [u,v] with | [.lst a,.lst b]=>PV.lst (Bu a b)|_=>.non)=.lst (A3.map jT):=λu v hu hv=>by rw[hu,hv];show PV.lst (Bu (A1.map jT) (A2.map jT))=_;rw[zR,fin]
   have k2:=key _ _ w0 w1;show[jV (jV V 2) 1,(match [jV (jV V 0) 1,jV (jV V 1) 1] with | [.lst a,.lst b]=>PV.lst (Bu a b)|_=>.non)]=_
   rw[w2,k2]
  ·rw[aa];lia
end
end lE
theorem PySem.Challenge.cw_factorforge_k46_whole_laid_together_holds : PySem.Challenge.rw_factorforge_k46_whole_laid_together.Holds :=
  lE.pre fun T=>lE.YF T
