import PyProof.Rows.All
import Wide.All
import KE.KNestM
import KE.KUnpack
import KE.KEqDeep
import KE.KPassesOwn
import KE.RegKIsAll
import KE.RegKTryMore
import OpenK.KOwn
import KE.KItem
import KE.KNest
import KE.KLam
import KE.KSortKey
import KE.KSortTup
import KE.KRevIter
import Wide.FinOn
import Lean
import PyProof.EqAt
import PyProof.EqKinds
import PyProof.TupleCall
import KE.KNest
import KE.KNestM
import KE.KLam
import KE.KSortKey
import KE.KSortTup
import PySem.Challenge.RW_factorforge_k42_multiplied_in_order
set_option Elab.async false
set_option linter.all false
set_option maxRecDepth 100000
set_option maxHeartbeats 4000000
local macro_rules | `(tactic| omega) => `(tactic| lia)
noncomputable section
abbrev Li:=List Int
abbrev Fg:=PySem.W.Frag
abbrev Mg:=PySem.Str->Option PySem.Value
abbrev Lv:=List PySem.Value
abbrev Ls:=List PySem.Str
def aa:=@List.length_map
def ac:=@List.getElem?_eq_getElem
def ad:=@List.mem_cons_of_mem
def ae:=@if_neg
def af:=@if_pos
def ah:=@List.mem_cons_self
def ai:=@List.length_append
def aj:=@List.getElem?_eq_some_iff
def ao:=@Nat.le_refl
def aq:=@List.length_range
def aw:=@List.getElem?_map
def ay:=@List.size_toArray
def az:=@PySem.Heap.get?_push_of_some
def aA:=@PySem.Heap.lt_size
def aB:=@Option.some.inj
def aC:=@Int.toNat_natCast
def aD:=@Nat.lt_of_lt_of_le
def aE:=@PySem.PassesOwn.never
def aF:=@List.mem_cons
def aG:=@PySem.wpAny_bind
def aH:=@Nat.le_trans
def aI:=@decide_eq_false
def aJ:=@List.length_take
def aK:=@decide_eq_true
def aL:=@List.length_replicate
def aM:=@List.getElem?_append_left
def aN:=@List.mem_append_right
def aO:=@Int.dvd_mul_of_dvd_right
def aP:=@List.mem_map
def aQ:=@Nat.lt_of_le_of_lt
def aR:=@List.length_cons
def aS:=@Int.sub_zero
def aT:=@List.mem_filter
def aU:=@Int.mul_zero
def aV:=@Int.dvd_zero
def aW:=@List.mem_of_getElem?
def aX:=@Int.emod_lt_of_pos
def aY:=@List.mem_range
def aZ:=@Bool.false_ne_true
def a7:=@List.getElem?_append_right
def a8:=@List.append_nil
def a9:=@Int.emod_nonneg
def bc:=@PySem.Heap.get?_push_size
def be:=@Nat.zero_le
def bh:=@Int.dvd_mul_of_dvd_left
def bj:=@Nat.pow_lt_pow_right
def bn:=@Nat.ne_of_lt
def bp:=@List.length_drop
def bq:=@List.getElem_range
def br:=@List.map_map
def bu:=@Int.dvd_neg
def bv:=@List.getElem_map
def bw:=@List.length_singleton
def bx:=@Int.emod_eq_of_lt
def bA:=@List.mem_singleton
def bB:=@List.filterMap_cons
def bC:=@Int.mul_le_mul_of_nonneg_left
def bD:=@List.getElem_mem
def bE:=@Int.dvd_add
def bF:=@List.map_append
def bG:=@List.getElem?_eq_none
def bH:=@Int.add_zero
def bI:=@of_decide_eq_true
def bJ:=@Int.toNat_of_nonneg
def bK:=@List.map_cons
def bM:=@Int.mul_assoc
def bN:=@Nat.le_of_lt
def bO:=@Int.mul_one
def bQ:=@List.flatten_cons
def bR:=@List.length_set
def bT:=@Int.zero_mul
def bU:=@PySem.Heap.get?_update_other
def bV:=@List.length_mapIdx
def bW:=@PySem.wpAny_pure
def bX:=@List.getElem?_replicate
def bY:=@Int.emod_eq_zero_of_dvd
def bZ:=@List.map_congr_left
def b7:=@Int.mul_nonpos_of_nonneg_of_nonpos
def b8:=@List.mem_iff_getElem
def b9:=@List.getElem?_mapIdx
def ce:=@PyProof.Rows.callWith_type1
def cf:=@Int.mul_comm
def cg:=@List.getElem?_range
def cj:=@Int.one_mul
def ck:=@Ne.symm
def cq:=@PySem.W.kia_one
def cr:=@List.take_length
def cu:=@List.ext_getElem
def cw:=@Int.mul_sub
def cA:=@List.pairwise_map
def cB:=@Int.sub_self
def cC:=@List.mem_filterMap
def cD:=@PySem.wpAny_Call_Name_kw
def cE:=@List.filter_cons_of_pos
def cF:=@List.filter_cons_of_neg
def cG:=@List.pairwise_cons
def cH:=@List.length_nil
def cI:=@List.mem_append_left
def cJ:=@Nat.pow_le_pow_right
def cL:=@List.take_of_length_le
def cM:=@List.getElem_replicate
def cN:=@List.flatMap_cons
def cO:=@List.pairwise_iff_getElem
def cQ:=@Classical.byContradiction
def cS:=@List.nodup_cons
def cT:=@List.length_filter_le
def cU:=@Option.isSome_iff_exists
def cV:=@Nat.lt_of_not_le
def cX:=@Nat.mul_le_mul_right
def cY:=@Nat.lt_irrefl
def cZ:=@Nat.mul_comm
def c6:=@Int.zero_add
def c7:=@List.append_assoc
def c8:=@List.mem_append
def c9:=@Array.length_toList
def da:=@List.of_mem_zip
def de:=@PySem.mem_of_lookup
def df:=@List.replicate_succ
def dh:=@Nat.lt_succ_self
def di:=@List.zip_cons_cons
def dj:=@PySem.sizeLine_eq
def dk:=@PySem.wpAny_passesOwn
def dm:=@List.getElem?_take_of_lt
def dq:=@List.length_zip
def dt:=@Nat.not_lt_zero
def du:=@Bool.decide_eq_true
def dw:=@Nat.pow_pos
def dz:=@PySem.F.plainAttrs_list
def dA:=@List.length_eq_zero_iff
def dB:=@Nat.le_of_not_lt
def dC:=@List.all_eq_true
def dD:=@PyProof.Rows.subscriptTail_builtinR
def dE:=@List.drop_eq_nil_of_le
def dF:=@PySem.W.callWith_K
def dG:=@List.dropLast_concat_getLast
def dH:=@List.getElem?_drop
def dI:=@Int.sub_add_cancel
def dJ:=@Option.map_some
def dM:=@Nat.ne_of_gt
def dN:=@PySem.Heap.get?_update_self
def dO:=@List.map_nil
def dP:=@Nat.min_eq_left
def dQ:=@Int.natAbs_dvd_natAbs
def dR:=@PySem.wpAny_truthy_bool
def dS:=@List.ext_getElem?
def dU:=@PySem.W.mg_of
def dW:=@List.Pairwise.map
def dX:=@List.getD_eq_getElem?_getD
def dY:=@PySem.Calls.Name_function_global
def dZ:=@Array.getElem?_eq_some_iff
def d6:=@Bool.and_eq_true_iff
def d7:=@List.getElem?_set_ne
def d8:=@PySem.wpAny_loadName_local
def d9:=@Int.emod_emod_of_dvd
def eu:=@Int.emod_eq_emod_iff_emod_sub_eq_zero
def eC:=@List.mem_of_find?_eq_some
def eE:=@List.mapIdx_eq_zipIdx_map
def eG:=@List.drop_eq_getElem_cons
def eH:=@Option.getD_some
def eI:=@List.length_pos_iff
def eJ:=@Int.add_mul
def eK:=@List.map_eq_nil_iff
def eM:=@PySem.Heap.SameBut.update
def eO:=@Int.dvd_sub
def eP:=@List.length_zipWith
def eQ:=@List.flatten_append
def eR:=@List.flatMap_append
def eS:=@Nat.pow_succ
def eU:=@PyProof.Rows.callWith_kw
def eV:=@PySem.Obj.data_mapFields
def eW:=@Int.neg_one_mul
def eX:=@Int.natCast_mul
def eY:=@Int.natCast_dvd_natCast
def eZ:=@Int.le_of_dvd
def e8:=@List.getElem?_set_self
def fe:=@Option.map_eq_some_iff
def fg:=@List.filter_congr
def fh:=@PySem.Obj.isFreed_of_fields
def fj:=@Int.dvd_refl
def fk:=@Int.mul_emod
def fq:=@Nat.le_of_ble_eq_true
def fw:=@Classical.choose_spec
def fy:=@Int.mul_ediv_add_emod
def fA:=@Bool.and_eq_true
def fE:=@Nat.min_eq_right
def fG:=@List.flatMap_nil
def fH:=@List.length_dropLast
def fI:=@PySem.wpAny_newFunctionEnv
def fJ:=@List.map_eq_cons_iff
def fM:=@PySem.wpAny_holding
def fN:=@PySem.wpAny_mono
def fO:=@PySem.wpAny_execs_nil
def fP:=@Bool.eq_iff_iff
def fQ:=@PySem.W.plainGet_of
def fR:=@List.filter_nil
def fS:=@Int.sub_mul
def fU:=@Int.mul_add
def fV:=@Int.dvd_sub_self_of_emod_eq
def fW:=@Nat.mul_le_mul_left
def fX:=@Int.fdiv_eq_ediv_of_nonneg
def fY:=@PySem.F.excBase_ValueError
def fZ:=@Array.perm_iff_toList_perm
def f6:=@PySem.wpAny_Constant_int
def f7:=@PySem.codeAny_mono
def f8:=@Nat.succ_mul
def f9:=@Nat.sub_zero
def gf:=@List.filter_append
def gq:=@Nat.lt_or_gt_of_ne
def gr:=@Nat.mul_div_cancel
def gu:=@Nat.succ_pos
def gv:=@List.getElem?_eq_none_iff
def gw:=@Nat.mul_le_mul
def gA:=@List.getElem_append_right
def gB:=@List.getElem?_set
def gC:=@PySem.F.slot_list_append
def gD:=@PySem.F.type_list_append
def gE:=@List.getElem_append_left
def gF:=@Int.mul_left_comm
def gG:=@Classical.not_imp
def gH:=@List.nodup_append
def gJ:=@List.Pairwise.imp_of_mem
def gK:=@List.length_filterMap_le
def gL:=@Nat.mul_assoc
def gM:=@PyProof.Rows.listUpdate_at
def gN:=@List.getLast_eq_getElem
def gO:=@Int.dvd_of_emod_eq_zero
def gP:=@Nat.dvd_div_iff_mul_dvd
def gR:=@Classical.axiomOfChoice
def gS:=@PySem.wpAny_eqBool_int
def gT:=@List.getElem_zip
def gU:=@List.nodup_range
def gV:=@Int.gcd_one_left
def gW:=@List.map_zipWith
def gX:=@PySem.W.cellsFrom_some
def gY:=@List.pairwise_lt_range
def gZ:=@PySem.W.methodCall_KW
def g5:=@PySem.seqIndex_neg
def g6:=@Nat.add_comm
def g7:=@List.find?_some
def g8:=@Bool.beq_eq_decide_eq
def g9:=@Int.add_comm
def hJ:=@PySem.F.slot_list_pop
def hO:=@PySem.F.type_list_pop
def hU:=@Nat.zero_add
def hV:=@List.getElem?_toArray
def hW:=@List.filter_map
def hZ:=@PySem.W.ke_canLayAll0
def ia:=@List.range_succ
def ib:=@Int.pow_succ
def ie:=@PySem.wpAny_Name
def ig:=@PySem.wpAny_call
def ii:=@decide_not
def ij:=@List.getElem?_zipIdx
def ik:=@PySem.W.kla_callFunE
def im:=@PySem.W.kla_codeExpr
def io:=@List.mem_of_mem_drop
def iq:=@Classical.not_forall
def iu:=@List.getElem_zipWith
def iw:=@List.mem_of_mem_take
def iz:=@Int.natAbs_mul
def iA:=@List.drop_zero
def iB:=@Int.mul_nonneg
def iC:=@List.take_zero
def iD:=@Nat.le_succ
def iE:=@PySem.seqIndex_of
def iF:=@PySem.W.codeHd_of_K
def iG:=@Nat.log2_lt
def iH:=@List.reverse_append
def iI:=@List.getElem_of_mem
def iJ:=@Int.mul_neg
def iK:=@Array.toList_append
def iM:=@Int.neg_mul
def iN:=@Int.pow_one
def iO:=@Nat.pow_le_pow_left
def iQ:=@List.filter_eq_self
def iR:=@List.map_drop
def iT:=@List.map_take
def iU:=@PySem.call_meets
def iV:=@beq_iff_eq
def iW:=@dif_pos
def iX:=@Nat.le_of_eq
def iY:=@Int.emod_def
def iZ:=@Int.le_of_lt
def i5:=@Nat.mul_succ
def i6:=@Nat.zero_div
def i7:=@Int.pow_zero
def i8:=@Nat.min_self
def i9:=@Nat.pow_add
def ja:=@if_false
def jb:=@Eq.trans
local macro_rules | `(tactic| walk_at "v") => `(tactic| first | exact Or.inl rfl | exact Or.inr (Or.inl rfl) | exact Or.inr (Or.inr rfl))
local macro_rules | `(tactic| walk_at "w") => `(tactic| first | exact .inl rfl | exact .inr rfl | assumption)
theorem tJ:True:=True.intro
theorem gQ {A:Type _}{l:List A}{i:Nat}{a:A}:l.getD i a=l[i]?.getD a:=dX ..
theorem lP {A:Type _}{l:List A}(h:l≠[]):0<l.length:=eI.mpr h
section
open PySem PySem.W PyProof.Rows
namespace kI
def top (i:Nat):Stmt:=PySem.Challenge.pw_factorforge_k42_multiplied_in_order.main.body.getD i (.Pass ⟨0,0,0,0⟩)
end kI
def kI.view:PySem.Program:={ PySem.Challenge.rw_factorforge_k42_multiplied_in_order.row.toRowW.prog with main:={ PySem.Challenge.rw_factorforge_k42_multiplied_in_order.row.toRowW.prog.main with body:=[kI.top 0,kI.top 2,kI.top 3,kI.top 4,kI.top 5,kI.top 7,kI.top 8,kI.top 9,kI.top 10,kI.top 11,kI.top 12,kI.top 13,kI.top 14,kI.top 15,kI.top 17,kI.top 18,kI.top 19,kI.top 21,kI.top 22,kI.top 23,kI.top 24,kI.top 26,kI.top 27,kI.top 29,kI.top 30,kI.top 31,kI.top 32,kI.top 33,kI.top 34,kI.top 35,kI.top 36,kI.top 37,kI.top 38,kI.top 40,kI.top 41,kI.top 42,kI.top 43,kI.top 44,kI.top 45,kI.top 46,kI.top 48,kI.top 49,kI.top 50,kI.top 51,kI.top 52,kI.top 53,kI.top 55,kI.top 56,kI.top 57,kI.top 58,kI.top 59,kI.top 60,kI.top 61,kI.top 62,kI.top 63,kI.top 64,kI.top 65,kI.top 66,kI.top 67,kI.top 68,kI.top 69] } }
def X.ZD (tb:String->Option Builtin)(p:Program)(w:World)(n₀:Nat)(ann:Option Value):Nat->SharedT->Thread->Option SharedT
 |0,_,_=>none
 |n+1,s,t=>match through t with
  |true=>some s
  |false=>match stepOk n₀ ann t with
   |false=>none
   |true=>match stepT (denote tb) p w s t with
    |some (s',t')=>X.ZD tb p w n₀ ann n s' t'
    |none=>none
theorem X.RG {tb:String->Option Builtin}{p:Program}{w:World}{n₀:Nat}{ann:Option Value}:∀{n:Nat} {s s':SharedT} {t:Thread},X.ZD tb p w n₀ ann n s t=some s' -> topRun tb p w n₀ ann n s.abs t=some s'.abs
 |0,_,_,_,h=>by cases h
 |n+1,s,s',t,h=>by
  unfold X.ZD at h;unfold topRun;cases ht:through t with
  |true=>rw[ht]at h;cases h;rfl
  |false=>
   rw[ht]at h;cases hk:stepOk n₀ ann t with
   |false=>rw[hk]at h;cases h
   |true=>
    rw[hk]at h;cases hs:stepT (denote tb) p w s t with
    |none=>rw[hs]at h;cases h
    |some r=>obtain⟨s₂,t₂⟩:=r;rw[hs]at h;rw[stepT_spec hs];exact X.RG h
def X.toT (s:Shared):SharedT:=⟨(s.heap.objs.toList.foldl (λ(x:BT×Nat) o=>(x.1.ins x.2 o,x.2+1)) (BT.nil,0)).1,s.heap.objs.size,s.heap.life,s.gens,s.drawn,s.toks,s.os⟩
def X.RT (tb:String->Option Builtin)(p:Program)(w:World)(N:Nat):Option (Shared×SharedT):=(fencedOpening tb p w N).bind λs0=>(X.ZD tb p w s0.heap.objs.size (s0.heap.nsMap mainGlobals "__annotations__") N (X.toT s0) (topStub p)).map λs1=>(s0,s1)
def X.chk (p:Program)(s0 s1:Shared):Bool:=(s0.heap.isNs mainGlobals && s0.gens.size == 0) && (staticsOk (importedModules p.main.body) s0.heap s1.heap && namesBound p s1.heap && gensDone s1 && laidKept s0.heap s1.heap)
theorem X.Ec {p:Program}{w:World}{N:Nat}{A:Type}{f:Shared->A}{a:A}(h0:(fencedOpening treeTable p w N).map (λs=>(X.toT s).tree.list s.heap.objs.size)=(fencedOpening treeTable p w N).map (λs=>s.heap.objs.toList))
  (h1:(X.RT treeTable p w N).map (λx=>(X.chk p x.1 x.2.abs,f x.2.abs))=some (true,a)):(openEnds treeTable p w N).map f=some a:=by
 unfold X.RT at h1;unfold openEnds;cases e:fencedOpening treeTable p w N with
 |none=>rw[e]at h1;cases h1
 |some s0=>
  rw[e]at h0 h1;have hl:(X.toT s0).tree.list s0.heap.objs.size=s0.heap.objs.toList:=aB h0;have ha:(X.toT s0).abs=s0:=by obtain⟨⟨objs,life⟩,gens,drawn,toks,os⟩:=s0;show(⟨⟨((X.toT ⟨⟨objs,life⟩,gens,drawn,toks,os⟩).tree.list objs.size).toArray,life⟩,gens,drawn,toks,os⟩:Shared)=_;rw[hl]
  have h1:((X.ZD treeTable p w s0.heap.objs.size (s0.heap.nsMap mainGlobals "__annotations__") N (X.toT s0) (topStub p)).map λs1=>(s0,s1)).map (λx=>(X.chk p x.1 x.2.abs,f x.2.abs))=some (true,a):=h1;cases e1:X.ZD treeTable p w s0.heap.objs.size (s0.heap.nsMap mainGlobals "__annotations__") N (X.toT s0) (topStub p) with
  |none=>rw[e1]at h1;cases h1
  |some s1=>
   rw[e1]at h1;have h1:=aB h1;have c:=congrArg Prod.fst h1;have d:=congrArg Prod.snd h1;have c:X.chk p s0 s1.abs=true:=c;have d:f s1.abs=a:=d;have r:=X.RG e1;rw[ha]at r;obtain⟨c1,c2⟩:=d6.mp c;show(topFrom treeTable p w N s0).map f=some a;unfold topFrom;rw[c1,r];show(match staticsOk (importedModules p.main.body) s0.heap s1.abs.heap && namesBound p s1.abs.heap && gensDone s1.abs && laidKept s0.heap s1.abs.heap with|true=>some s1.abs|false=>none).map f=some a
   rw[c2];exact congrArg some d
theorem X.both {S A B:Type}{o:Option S}{c:S->Bool}{f:S->A}{y:S->B}{g:A}{a:B}(h1:o.map (λx=>(c x,f x))=some (true,g))(h2:o.map y=some a):o.map (λx=>(c x,(f x,y x)))=some (true,(g,a)):=by
 cases o with
 |none=>cases h2
 |some s=>have e1:=aB h1;have e2:=aB h2;have e3:c s=true:=congrArg Prod.fst e1;have e4:f s=g:=congrArg Prod.snd e1;show some (c s,(f s,y s))=_;rw[e3,e4,e2]
abbrev kI.Q3 (s:Shared):=openSeen kI.view [] (importedModules PySem.Challenge.rw_factorforge_k42_multiplied_in_order.row.toRowW.prog.main.body) (λs=>xlAt kI.view [] s && recOk (RowW.records PySem.Challenge.rw_factorforge_k42_multiplied_in_order.row.toRowW) s) true s
theorem kI.h0:∀w,(fencedOpening treeTable PySem.Challenge.rw_factorforge_k42_multiplied_in_order.row.toRowW.prog w 20000).map (λs=>(X.toT s).tree.list s.heap.objs.size)=(fencedOpening treeTable PySem.Challenge.rw_factorforge_k42_multiplied_in_order.row.toRowW.prog w 20000).map (λs=>s.heap.objs.toList):=by intro w;kernel_rfl
theorem kI.h1:∀w,(X.RT treeTable PySem.Challenge.rw_factorforge_k42_multiplied_in_order.row.toRowW.prog w 20000).map (λx=>(X.chk PySem.Challenge.rw_factorforge_k42_multiplied_in_order.row.toRowW.prog x.1 x.2.abs,kI.Q3 x.2.abs))=some (true,openGood kI.view []):=by intro w;kernel_rfl
theorem kI.fin {A:Type}{y:Shared->A}{a:A}(w:World)(h:(X.RT treeTable PySem.Challenge.rw_factorforge_k42_multiplied_in_order.row.toRowW.prog w 20000).map (λx=>y x.2.abs)=some a):(openEnds treeTable PySem.Challenge.rw_factorforge_k42_multiplied_in_order.row.toRowW.prog w 20000).map (λs=>(kI.Q3 s,y s))=some (openGood kI.view [],a):=
 X.Ec (f:=λs=>(kI.Q3 s,y s)) (kI.h0 w) (X.both (kI.h1 w) h)
end
namespace L2
open PySem PySem.Spec PyProof.Rows
abbrev Key:=Sum Int Str
def keyIs:Key->Value->Bool
 | .inl k,v=>Value.isInt k v
 | .inr x,v=>Value.isStrOf x v
def keyH (w:World):Key->Int
 | .inl k=>hashInt k
 | .inr x=>hashStr w x
theorem keyIs_shape:∀{k:Key} {v:Value},keyIs k v=true->(∃i t,k=Sum.inl i/\v=Value.int i t)\/(∃x t,k=Sum.inr x/\v=Value.str x t)
 | .inl i,v,h=>by obtain⟨t,e⟩:=Value.isInt_shape (k:=i) (v:=v) h;exact .inl ⟨i,t,rfl,e⟩
 | .inr x,v,h=>by obtain⟨t,e⟩:=Value.isStrOf_shape (x:=x) (v:=v) h;exact .inr ⟨x,t,rfl,e⟩
theorem key_ll (a b:Int):decide ((Sum.inl a:Key)=Sum.inl b)=(a == b):=by
 by_cases e:a=b
 ·subst e;simp
 ·have h:¬(Sum.inl a:Key)=Sum.inl b:=λq=>e (Sum.inl.inj q);rw[aI h];exact(beq_eq_false_iff_ne.mpr e).symm
theorem key_rr (a b:Str):decide ((Sum.inr a:Key)=Sum.inr b)=decide (a=b):=by
 by_cases e:a=b
 ·subst e;simp
 ·have h:¬(Sum.inr a:Key)=Sum.inr b:=λq=>e (Sum.inr.inj q);rw[aI h,aI e]
theorem key_lr (a:Int)(b:Str):decide ((Sum.inl a:Key)=Sum.inr b)=false:=aI (λq=>nomatch q)
theorem key_rl (a:Str)(b:Int):decide ((Sum.inr a:Key)=Sum.inl b)=false:=aI (λq=>nomatch q)
def mixKind (prog:Program)(w:World):PySem.KeyKind prog w Key where
 is:=keyIs
 hash:=keyH w
 inj:=λv a b ha hb=>by
  rcases keyIs_shape ha with⟨i,t,rfl,rfl⟩|⟨x,t,rfl,rfl⟩
  ·rcases keyIs_shape hb with⟨j,u,rfl,e⟩|⟨y,u,rfl,e⟩
   ·injection e with e1 _;rw[e1]
   ·exact nomatch e
  ·rcases keyIs_shape hb with⟨j,u,rfl,e⟩|⟨y,u,rfl,e⟩
   ·exact nomatch e
   ·injection e with e1 _;rw[e1]
 byValue:=λk v h=>by rcases keyIs_shape h with⟨i,t,rfl,rfl⟩|⟨x,t,rfl,rfl⟩<;>rfl
 pyHash:=λhv h=>by
  rcases keyIs_shape hv with⟨i,t,rfl,rfl⟩|⟨x,t,rfl,rfl⟩
  ·exact wpAny_pyHash_int h
  ·exact wpAny_pyHash_str h
 eqBool:=λhu hv h=>by
  rcases keyIs_shape hu with⟨i,t,rfl,rfl⟩|⟨x,t,rfl,rfl⟩
  ·rcases keyIs_shape hv with⟨j,u,rfl,rfl⟩|⟨y,u,rfl,rfl⟩
   ·rw[key_ll]at h;exact gS h
   ·rw[key_lr]at h;exact SeqAt.EqAt.int_str i t y u _ _ _ _ h
  ·rcases keyIs_shape hv with⟨j,u,rfl,rfl⟩|⟨y,u,rfl,rfl⟩
   ·rw[key_rl]at h;exact SeqAt.EqAt.str_int x t j u _ _ _ _ h
   ·rw[key_rr]at h;exact wpAny_eqBool_str h
 «strs»:=λk x t v h=>by
  rcases keyIs_shape h with⟨i,u,rfl,e⟩|⟨y,u,rfl,e⟩
  ·exact nomatch e
  ·injection e with e1 _;subst e1;cases v<;>rfl
inductive V where
 |non|bl (b:Bool)|int (i:Int)|str (x:Str)|byt (b:Array UInt8)|flt (b:UInt64)|ref (a:Addr)|ty (n:String)
 deriving DecidableEq
def RelV:V->Value->Prop
 | .non,u=>u=Value.none
 | .bl b,u=>u=Value.bool b
 | .int i,u=>∃t,u=Value.int i t
 | .str x,u=>∃t,u=Value.str x t
 | .byt b,u=>∃t,u=Value.bytes b t
 | .flt b,u=>∃t,u=Value.float b t
 | .ref a,u=>u=Value.ref a
 | .ty n,u=>u=Value.type n
abbrev Vals:List V->List Value->Prop:=Paired RelV
theorem Vals.length (r:Vals xs us):xs.length=us.length:=Paired.length r
theorem Vals.get:∀{xs:List V} {us:Lv} {i:Nat} {x:V},Vals xs us->xs[i]?=some x->∃u,us[i]?=some u/\RelV x u
 |_,_,_,_,.nil,e=>by simp at e
 |_,_,0,_,.cons r _,e=>by simp at e;subst e;exact⟨_,rfl,r⟩
 |_,_,i+1,x,.cons _ t,e=>by obtain⟨u,h1,h2⟩:=Vals.get (i:=i) (x:=x) t (by simpa using e);exact⟨u,by simpa using h1,h2⟩
theorem Vals.set (r:RelV x u):∀{xs:List V} {us:Lv} (i:Nat),Vals xs us->Vals (xs.set i x) (us.set i u)
 |_,_,_,.nil=>.nil
 |_,_,0,.cons _ t=>.cons r t
 |_,_,i+1,.cons q t=>.cons q (Vals.set r i t)
theorem Vals.append:∀{xs ys:List V} {us ws:Lv},Vals xs us->Vals ys ws->Vals (xs++ys) (us++ws)
 |_,_,_,_,.nil,s=>s
 |_,_,_,_,.cons r t,s=>.cons r (Vals.append t s)
theorem Vals.take:∀{xs:List V} {us:Lv} (n:Nat),Vals xs us->Vals (xs.take n) (us.take n)
 |_,_,0,_=>.nil
 |_,_,_+1,.nil=>.nil
 |_,_,n+1,.cons r t=>.cons r (Vals.take n t)
theorem Vals.drop:∀{xs:List V} {us:Lv} (n:Nat),Vals xs us->Vals (xs.drop n) (us.drop n)
 |_,_,0,r=>r
 |_,_,_+1,.nil=>.nil
 |_,_,n+1,.cons _ t=>Vals.drop n t
theorem Vals.none_of:∀{xs:List V} {us:Lv} {i:Nat},Vals xs us->xs[i]?=none->us[i]?=none:=λ{xs us i} r e=>by have h1:=r.length;have h2:xs.length<=i:=gv.mp e;exact gv.mpr (by lia)
def RelO:Option V->Option Value->Prop
 |some v,some u=>RelV v u
 |none,none=>True
 |_,_=>False
def KV {κ:Type}:List (κ×V)->List (κ×Value)->Prop:=Paired λ(p:κ×V) (q:κ×Value)=>p.1=q.1/\RelV p.2 q.2
def kV:Key->V
 | .inl i=>.int i
 | .inr x=>.str x
structure yN where
 q:Str
 ps:Array Value
instance:HAppend yN (Array Value) yN:=⟨λt m=>⟨t.q,t.ps++m⟩⟩
@[simp] theorem yN.append_nil (t:yN):t++(#[]:Array Value)=t:=by obtain⟨q,ps⟩:=t;show yN.mk q (ps ++ #[])=⟨q,ps⟩;rw[Array.append_empty]
theorem yN.append_assoc (t:yN)(a b:Array Value):t++a++b=t++(a++b):=by obtain⟨q,ps⟩:=t;show yN.mk q (ps++a++b)=⟨q,ps++(a++b)⟩;rw[Array.append_assoc]
def Ac (o:Obj)(q:Str):Prop:=∃vs t,o.data=.fields vs/\vs[1]?=some (.str q t)
inductive HO where
 |lst (xs:List V)
 |tup (xs:List V)
 |dK (kvs:List (Key×V))|dT (kvs:List (List Key×V))
 |set (S:Int->Bool) (n:Nat)
 |ins (C dx:Addr) (fs:List (Str×V))
 |own (x:Addr)
 |xd (fs:List (Str×V))
 |met (f x:Addr)
 |rng (lo hi:Int)
 |frz (o:Obj) (u:HO)
 |tbl (ps:yN)
 |ext (φ:Heap->Prop)
abbrev Hp:=Addr->Option HO
def upd (H:Hp)(a:Addr)(o:HO):Hp:=λb=>if b=a then some o else H b
theorem upd_same:upd H a o a=some o:=by unfold upd;rw[af rfl]
theorem upd_ne (h:b≠a):upd H a o b=H b:=by unfold upd;rw[ae h]
theorem upd_upd:upd (upd H a o) a u=upd H a u:=by funext b;unfold upd;split<;>rfl
theorem ne_of_none {H:Hp}{a b:Addr}{o:HO}(h:H a=some o)(h':H b=none):a≠b:=by intro e;subst e;rw[h]at h';cases h'
section
variable (P:Program)(w:World)
def ObjOk (H:Hp)(h:Heap)(a:Addr):HO->Prop
 | .lst xs=>xs.length<=sizeLine/\∃(its:List Value) (n:Nat),Vals xs its/\h.get? a=some { cls:=.type "list",data:=.seq its.toArray n }
 | .tup xs=>xs.length<=sizeLine/\∃its:List Value,Vals xs its/\IsTup h a its.toArray
 | .dK kvs=>kvs.length<=sizeLine/\(a == sysModules)=false/\∃vs,KV kvs vs/\h.DictOf (mixKind P w) a vs
 | .dT kvs=>kvs.length<=sizeLine/\(a == sysModules)=false/\∃xs:List (List Key×Addr×Value),
   Paired (λ(p:List Key×V) (q:List Key×Addr×Value)=>p.1=q.1/\H q.2.1=some (.tup (p.1.map kV))/\RelV p.2 q.2.2) kvs xs /\
   ∃o es ep,h.get? a=some o/\o.ExactDict/\o.data=.dict es ep/\es.toList=xs.map (entryOfKey (tupleKind (mixKind P w)))/\(xs.map (·.1)).Nodup
 | .set S n=>h.SetOf (intKind P w) a S n
 | .ins C dx fs=>H dx=some (.own a)/\fs.length<=1000/\dx≠a/\h.get? a=some (W.instObj C dx) /\
   ∃mA,h.Ns1 dx mA/\(∀f,RelO (fs.lookup f) (mA f))/\PySem.Within mA (fs.map (·.1))
 | .own _=>∃o,h.get? a=some o
 | .xd fs=>∃mA,h.Ns1 a mA/\∀f,RelO (fs.lookup f) (mA f)
 | .rng lo hi=>∃t u v,h.get? a=some { cls:=.type "range",data:=.fields #[.int lo t,.int hi u,.int 1 v] }
 | .frz o u=>h.get? a=some o/\ObjOk H h a u
 | .tbl ps=>h.get? a=some { cls:=.none,data:=.fields ps.ps }/\TriplesOk ps.ps.toList/\∀p cv,codeAmong p ps.ps.toList=some cv->∃c oc u,cv=Value.ref c/\H c=some (.frz oc u)/\Ac oc ps.q
 | .met f x=>h.get? a=some (W.methodObj (.ref f) (.ref x))
 | .ext φ=>φ h/\(∃o,h.get? a=some o)/\∀h1 h2:Heap,φ h1->(∀o,h1.get? a=some o->h2.get? a=some o)->φ h2
def HOk (H:Hp)(h:Heap):Prop:=∀a o,H a=some o->ObjOk P w H h a o
end
section
variable {P:Program}{w:World}{H H':Hp}{h h':Heap}{a:Addr}{o:HO}
theorem ObjOk.lt (x:ObjOk P w H h a o):a<h.objs.size:=by
 cases o with
 |lst xs=>obtain⟨_,_,_,_,e⟩:=x;exact aA e
 |tup xs=>obtain⟨_,_,_,p⟩:=x;exact p.lt
 |dK kvs=>obtain⟨_,_,_,_,o,_,_,e,_⟩:=x;exact aA e
 |dT kvs=>obtain⟨_,_,_,_,o,_,_,e,_⟩:=x;exact aA e
 |set S n=>obtain⟨o,_,_,_,e,_⟩:=x;exact aA e
 |ins C dx fs=>obtain⟨_,_,_,e,_⟩:=x;exact aA e
 |own y=>obtain⟨_,e⟩:=x;exact aA e
 |xd fs=>obtain⟨_,⟨_,_,_,e,_⟩,_⟩:=x;exact aA e
 |rng lo hi=>obtain⟨_,_,_,e⟩:=x;exact aA e
 |frz ob u=>obtain⟨e,_⟩:=x;exact aA e
 |tbl ps=>exact aA x.1
 |met f y=>exact aA (show h.get? a=some _ from x)
 |ext φ=>obtain⟨_,⟨_,e⟩,_⟩:=x;exact aA e
theorem Paired.mapP:∀{l₁:List α} {l₂:List β},Paired F l₁ l₂->(∀a b,F a b->G a b)->Paired G l₁ l₂
 |_,_,.nil,_=>.nil
 |_,_,.cons r t,f=>.cons (f _ _ r) (Paired.mapP t f)
theorem ObjOk.stay (x:ObjOk P w H h a o)(k:∀b u,(b=a\/H b=some (.own a))->h.get? b=some u->h'.get? b=some u)
  (ho:∀b,H b=some (.own a)->H' b=some (.own a)) (ht:∀b xs,H b=some (.tup xs)->H' b=some (.tup xs)) (hz:∀b o u,H b=some (.frz o u)->H' b=some (.frz o u):=by intro _ _ _ q;exact q):ObjOk P w H' h' a o:=by
 induction o with
 |lst xs=>obtain⟨z,its,n,r,e⟩:=x;exact⟨z,its,n,r,k _ _ (.inl rfl) e⟩
 |tup xs=>obtain⟨z,its,r,ob,e,c⟩:=x;exact⟨z,its,r,ob,k _ _ (.inl rfl) e,c⟩
 |dK kvs=>obtain⟨z,y,vs,r,ob,es,ep,e,c⟩:=x;exact⟨z,y,vs,r,ob,es,ep,k _ _ (.inl rfl) e,c⟩
 |dT kvs=>obtain⟨z,y,xs,r,ob,es,ep,e,c⟩:=x;exact⟨z,y,xs,Paired.mapP r λp q z=>⟨z.1,ht _ _ z.2.1,z.2.2⟩,ob,es,ep,k _ _ (.inl rfl) e,c⟩
 |set S n=>obtain⟨ob,es,ep,t,e,c⟩:=x;exact⟨ob,es,ep,t,k _ _ (.inl rfl) e,c⟩
 |ins C dx fs=>obtain⟨d,z,ne,e,mA,⟨od,es,ep,e2,c⟩,r⟩:=x;exact⟨ho _ d,z,ne,k _ _ (.inl rfl) e,mA,⟨od,es,ep,k _ _ (.inr d) e2,c⟩,r⟩
 |own y=>obtain⟨ob,e⟩:=x;exact⟨ob,k _ _ (.inl rfl) e⟩
 |xd fs=>obtain⟨mA,⟨od,es,ep,e,c⟩,r⟩:=x;exact⟨mA,⟨od,es,ep,k _ _ (.inl rfl) e,c⟩,r⟩
 |rng lo hi=>obtain⟨t,u,v,e⟩:=x;exact⟨t,u,v,k _ _ (.inl rfl) e⟩
 |frz ob u ih=>obtain⟨e,q⟩:=x;exact⟨k _ _ (.inl rfl) e,ih q⟩
 |tbl ps=>obtain⟨e,t,g⟩:=x;exact⟨k a _ (.inl rfl) e,t,λp cv hc=>let ⟨c,oc,u,y,z,q⟩:=g p cv hc;⟨c,oc,u,y,hz _ _ _ z,q⟩⟩
 |met f y=>have e:h.get? a=some (W.methodObj (.ref f) (.ref y)):=x;show h'.get? a=some (W.methodObj (.ref f) (.ref y));exact k a _ (.inl rfl) e
 |ext φ=>obtain⟨p,⟨o,e⟩,st⟩:=x;exact⟨st _ _ p λo q=>k _ _ (.inl rfl) q,⟨o,k _ _ (.inl rfl) e⟩,st⟩
theorem HOk.lt (x:HOk P w H h)(e:H a=some o):a<h.objs.size:=(x a o e).lt
theorem HOk.fresh (x:HOk P w H h)(e:h.objs.size<=a):H a=none:=by
 cases q:H a with
 |none=>rfl
 |some u=>exact absurd (aD (x.lt q) e) (cY _)
theorem HOk.kept (x:HOk P w H h)(k:∀b u,h.get? b=some u->h'.get? b=some u):HOk P w H h':=λa o e=>
 (x a o e).stay (λb u _ q=>k b u q) (λ_ q=>q) λ_ _ q=>q
theorem HOk.laid (x:HOk P w H h)(k:∀b u,h.get? b=some u->h'.get? b=some u)(hp:h.objs.size<=a)(new:ObjOk P w (upd H a o) h' a o):HOk P w (upd H a o) h':=λb u e=>by
 have hn:=x.fresh hp;by_cases hb:b=a
 ·subst hb;rw[upd_same]at e;cases e;exact new
 ·rw[upd_ne hb]at e;exact(x b u e).stay (λc v _ q=>k c v q) (λc q=>by rw[upd_ne (ne_of_none q hn)];exact q) (λc xs q=>by rw[upd_ne (ne_of_none q hn)];exact q) λc _ _ q=>by rw[upd_ne (ne_of_none q hn)];exact q
end
def Rd (H:Hp)(a:Addr)(u:HO):Prop:=H a=some u\/∃o,H a=some (.frz o u)
theorem Rd.ok (r:Rd H a u)(x:HOk P w H h):ObjOk P w H h a u:=by
 rcases r with r|⟨o,r⟩
 ·exact x a u r
 ·obtain⟨_,q⟩:=x a _ r;exact q
def Mut:Option HO->Prop
 |some (.lst _)=>True
 |some (.dK _)=>True
 |some (.dT _)=>True
 |some (.set _ _)=>True
 |some (.ins _ _ _)=>True
 |some (.ext _)=>True
 |_=>False
section
variable {P:Program}{w:World}{H:Hp}{h h':Heap}{x e:Addr}{o':HO}
theorem HOk.write (ok:HOk P w H h)(mu:Mut (H x))(he:e=x\/H e=some (.own x))(k:∀b u,b≠e->h.get? b=some u->h'.get? b=some u)(heo:∃u,h'.get? e=some u)
  (new:ObjOk P w (upd H x o') h' x o'):HOk P w (upd H x o') h':=λb u q=>by
 have nown:∀c y,H c=some (.own y)->c≠x:=λc y r z=>by subst z;rw[r]at mu;exact mu
 have ntup:∀c xs,H c=some (.tup xs)->c≠x:=λc xs r z=>by subst z;rw[r]at mu;exact mu
 have nfrz:∀c o u,H c=some (.frz o u)->c≠x:=λc o u r z=>by subst z;rw[r]at mu;exact mu
 by_cases hb:b=x
 ·subst hb;rw[upd_same]at q;cases q;exact new
 ·rw[upd_ne hb]at q;by_cases hbe:b=e
  ·have q':H b=some (.own x):=by
    rcases he with z|z
    ·exact absurd (hbe.trans z) hb
    ·rw[hbe];exact z
   rw[q]at q';cases q';obtain⟨v,hv⟩:=heo;exact⟨v,by rw[hbe];exact hv⟩
  ·refine(ok b u q).stay (λc v hc r=>k c v ?_ r) (λc r=>by rw[upd_ne (nown c b r)];exact r) (λc xs r=>by rw[upd_ne (ntup c xs r)];exact r) λc o u r=>by rw[upd_ne (nfrz c o u r)];exact r
   rcases hc with rfl|hc
   ·exact hbe
   ·rintro rfl;rcases he with z|z
    ·exact nown c b hc z
    ·rw[hc]at z;cases z;exact hb rfl
end
structure Un (fs ex:List Addr)(H H':Hp)(h h':Heap):Prop where
 keep:∀b o,h.get? b=some o->H b=none->b∉fs->b∉ex->h'.get? b=some o
 slot:∀b o,h.get? b=some o->H b=none->b∈fs->b∉ex->∃sl,h'.get? b=some { o with slots:=sl }
 free:∀b o,h.get? b=some o->H b=none->b∉ex->H' b=none
 there:∀b o,h.get? b=some o->b∉ex->∃o',h'.get? b=some o'
 tups:∀b xs,H b=some (.tup xs)->H' b=some (.tup xs)
 frzs:∀b o u,H b=some (.frz o u)->H' b=some (.frz o u)
 tbls:∀b ps,H b=some (.tbl ps)->∃more:Array Value,H' b=some (.tbl (ps++more))
section
variable {fs fs' ex ex':List Addr}{H H1 H2:Hp}{h h1 h2 h':Heap}{a x e:Addr}{o:HO}
theorem Un.any (u:Un fs ex H H1 h h1)(q:h.get? b=some ob)(n:H b=none)(hx:b∉ex):∃sl,h1.get? b=some { ob with slots:=sl }:=by
 by_cases hb:b∈fs
 ·exact u.slot b ob q n hb hx
 ·exact⟨ob.slots,u.keep b ob q n hb hx⟩
theorem Un.kept (k:∀b u,h.get? b=some u->h'.get? b=some u):Un fs ex H H h h':=
 ⟨λb ob q _ _ _=>k b ob q,λb ob q _ _ _=>⟨ob.slots,k b ob q⟩,λ_ _ _ n _=>n,λb ob q _=>⟨ob,k b ob q⟩,λ_ _ q=>q,λ_ _ _ q=>q,λ_ ps q=>⟨#[],by rw[q];simp⟩⟩
theorem Un.refl:Un fs ex H H h h:=Un.kept λ_ _ q=>q
theorem Un.laid (k:∀b u,h.get? b=some u->h'.get? b=some u)(hp:h.objs.size<=a)(hn:H a=none):Un fs ex H (upd H a o) h h' where
 keep:=λb u q _ _ _=>k b u q
 slot:=λb u q _ _ _=>⟨u.slots,k b u q⟩
 free:=λb u q n _=>by rw[upd_ne (bn (aD (aA q) hp))];exact n
 there:=λb u q _=>⟨u,k b u q⟩
 tups:=λb xs q=>by rw[upd_ne (ne_of_none q hn)];exact q
 frzs:=λb u xs q=>by rw[upd_ne (ne_of_none q hn)];exact q
 tbls:=λb ps q=>⟨#[],by rw[upd_ne (ne_of_none q hn),q];simp⟩
theorem Un.write (mu:Mut (H x))(he:e=x\/H e=some (.own x))(k:∀b u,b≠e->h.get? b=some u->h'.get? b=some u)(heo:∃u,h'.get? e=some u):Un fs ex H (upd H x o) h h':=by
 have hx:∀b,H b=none->b≠x:=λb n z=>by subst z;rw[n]at mu;exact mu
 have hb:∀b,H b=none->b≠e:=λb n z=>by
  subst z;rcases he with r|r
  ·exact hx b n r
  ·rw[n]at r;cases r
 have hm:∀b u,H b=some u->¬Mut (some u)->b≠x:=λb u q nm z=>by subst z;rw[q]at mu;exact nm mu
 refine⟨λb u q n _ _=>k b u (hb b n) q,λb u q n _ _=>⟨u.slots,k b u (hb b n) q⟩,λb u q n _=>by rw[upd_ne (hx b n)];exact n,λb u q _=>?_,
  λb xs q=>by rw[upd_ne (hm b _ q λz=>z)];exact q,λb u xs q=>by rw[upd_ne (hm b _ q λz=>z)];exact q,λb ps q=>⟨#[],by rw[upd_ne (hm b _ q λz=>z),q];simp⟩⟩
 by_cases hbe:b=e
 ·subst hbe;exact heo
 ·exact⟨u,k b u hbe q⟩
end
def trk (h:Heap)(H:Hp):List Addr:=(List.range h.objs.size).filter λa=>(H a).isSome
def hidT (h:Heap)(H:Hp):Heap:=W.hideAll h (trk h H)
theorem hidT_size (h:Heap)(H:Hp):(hidT h H).objs.size=h.objs.size:=W.hideAll_size _ _
theorem hidT_get (e:h.get? b=some o)(n:H b=none):(hidT h H).get? b=some o:=
 W.hideAll_get _ e λhm=>by have q:(H b).isSome=true:=(aT.mp hm).2;rw[n]at q;simp at q
theorem of_hidT (e:(hidT h H).get? b=some o):h.get? b=some o/\H b=none:=by
 have e':h.get? b=some o:=W.of_hideAll (trk h H) e;refine⟨e',?_⟩;cases q:H b with
 |none=>rfl
 |some x=>have hm:b∈trk h H:=aT.mpr ⟨aY.mpr (aA e'),by simp[q]⟩;have z:(hidT h H).get? b=none:=W.hideAll_none (trk h H) hm;rw[z]at e;cases e
def allNews (g h:Heap)(L:Addr):List (Addr×Obj):=(List.range h.objs.size).filterMap λa=>if a=L\/(g.get? a).isSome=true then none else(h.get? a).map λo=>(a,o)
theorem mem_allNews (h1:a≠L)(h2:g.get? a=none)(h3:h.get? a=some o):(a,o)∈allNews g h L:=
 cC.mpr ⟨a,aY.mpr (aA h3),by simp[h1,h2,h3]⟩
theorem of_mem_allNews (hp:p∈allNews g h L):p.1≠L/\g.get? p.1=none/\h.get? p.1=some p.2:=by
 obtain⟨b,_,e⟩:=cC.mp hp;split at e
 ·cases e
 ·rename_i hn;cases q:h.get? b with
  |none=>rw[q]at e;simp at e
  |some u=>
   rw[q]at e;simp only[dJ,Option.some.injEq]at e;subst e;refine⟨λz=>hn (.inl z),?_,q⟩;show g.get? b=none;cases r:g.get? b with
   |none=>rfl
   |some v=>exact(hn (.inr (by simp[r]))).elim
def rest (g h:Heap)(L d:Addr):List (Addr×Obj):=(allNews g h L).filter λp=>decide (p.1≠d)
theorem news_all:News g L h (allNews g h L):=λp hp=>let ⟨a,b,c⟩:=of_mem_allNews hp;⟨c,a,b⟩
def aak (mg:Mg)(h:Heap):Prop:=∃bm ob,mg "__builtins__"=some (.ref bm)/\bm≠builtinsNs/\h.get? bm=some ob/\ob.cls=.type "module"/\ob.dict=some builtinsNs/\ob.data=.plain
structure Mod (K:Fg)(mg:Mg)(base:Heap):Prop where
 kin:K.In base
 glob:base.Ns mainGlobals mg
 blt:∃mb,base.Ns builtinsNs mb/\∀x:Str,x≠"__name__"->mb x=bootBuiltins x
 nolimit:base.NoLimit
 bm:aak mg base
structure Cx where
 prog:Program
 w:World
 K:Fg
 mg:Str->Option Value
 base:Heap
 A:Around
 N:List Str
 s₀:Shared
 H₀:Hp
 env:Env
 outer:List Env
 stack:List Env
 ex:List Addr
 fn:Str->Bool
 calm:Bool
 pn:List (Addr×Obj)
 xe:Value->Shared->Prop
def frs (l:List Env):List Addr:=l.filterMap (·.frame)
abbrev Cx.fs (X:Cx):List Addr:=frs X.outer
def Vis (sc:Scope)(x:Str):Prop:=sc.names.lookup x=some .local\/sc.names.lookup x=some .cell\/sc.names.lookup x=some .free
def Loc (sc:Scope)(x:Str):Prop:=sc.names.lookup x=some .local\/sc.names.lookup x=some .cell
def Look (env:Env)(h:Heap)(m:Mg)(x:Str)(u:Value):Prop:=
 (env.kindOf x=some .local/\m x=some u)\/((env.kindOf x=some .cell\/env.kindOf x=some .free)/\∃c,env.cells.lookup x=some c/\h.IsCell c (some u))
def WT:Stmt->Bool
 | .Return (some (.Call _ _ [⟨_,.Lambda _ _ _ _,_⟩] _)) _=>true
 | .Return (some (.Tuple [_,.Call _ _ [⟨_,.Lambda _ _ _ _,_⟩] _] _ _)) _=>true
 |_=>false
def We:FuncBody->Bool
 | .stmts ss=>ss.any WT
 |_=>false
def oh (K:Fg):List (Addr×Addr×Str):=K.filterMap λx=>match x.2.data with
 | .func fd=>if We fd.body=true then(match fd.code with
   | .ref c=>(match K.lookup c with
    |some ⟨_,_,.fields vs,_⟩=>(match (vs[11]?:Option Value) with
     |some (.ref P)=>if W.codeHdIn K c P=true then some (c,P,fd.qualname++".<locals>."++"<lambda>") else none
     |_=>none)
    |_=>none)
   |_=>none) else none
 |_=>none
structure Frf (K:Fg)(H:Hp)(fs:List Addr):Prop where
 f:∀b∈fs,H b=none
 t:∀x∈oh K,∃ps,H x.2.1=some (.tbl ⟨x.2.2,ps⟩)
structure Cx.Ok (X:Cx):Prop where
 mod:Mod X.K X.mg X.base
 kind:X.env.scope.kind=.function
 glob:X.env.globals=mainGlobals
 blt:X.env.builtins=builtinsNs
 above:X.s₀.heap.objs.size<=X.env.locals
 inj:∀x y c,X.env.cells.lookup x=some c->X.env.cells.lookup y=some c->x=y
 has:∀x,(X.env.kindOf x=some .cell\/X.env.kindOf x=some .free)->∃c,X.env.cells.lookup x=some c
 cab:∀x c,X.fn x=true->X.env.cells.lookup x=some c->X.s₀.heap.objs.size<=c
 hd:X.calm=true->X.A.handled=none
 frames:X.A.frames=some X.stack
 stk:X.stack=X.outer\/(X.stack=X.env::X.outer/\X.env.frame=some X.env.locals)
 exf:∀b∈X.ex,b≠X.env.locals/\∀x c,X.env.cells.lookup x=some c->c≠b
 bs:∀b o,X.base.get? b=some o->X.s₀.heap.get? b=some o/\X.H₀ b=none
 bsz:X.base.objs.size<=X.s₀.heap.objs.size
 noex:∀b o,X.base.get? b=some o->b∉X.ex
 exfs:∀b∈X.ex,b∉X.fs
 funs:X.s₀.heap.FunFrames X.base X.outer
 frf:Frf X.K X.H₀ X.fs
structure Inv (X:Cx)(pins:List (Addr×Obj))(σ:List (Option V))(H:Hp)(s:Shared):Prop where
 ok:X.Ok
 os:s.os=X.s₀.os
 bare:AllBare s.gens
 base:Un X.fs X.ex X.H₀ H X.s₀.heap s.heap
 loc:∃m,s.heap.Ns X.env.locals m/\∀(i:Nat) (x:Str) (v:V),X.N[i]?=some x->σ[i]?=some (some v)->Vis X.env.scope x->∃u,RelV v u/\Look X.env s.heap m x u
 cell:∀x c,X.env.cells.lookup x=some c->∃v,s.heap.IsCell c v
 free:H X.env.locals=none
 freeC:∀x c,X.env.cells.lookup x=some c->H c=none
 pin:∀p∈X.pn++pins,s.heap.get? p.1=some p.2/\H p.1=none/\p.1≠X.env.locals/\p.1∉X.fs/\∀v,p.2.data ≠ .cell v
 hok:HOk X.prog X.w H s.heap
 len:σ.length=X.N.length
section
variable {X:Cx}{pins:List (Addr×Obj)}{σ:List (Option V)}{H H':Hp}{s:Shared}{h':Heap}
theorem Cx.Ok.nofr (ok:X.Ok)(e:X.base.get? b=some o):b∉X.fs:=λhb=>by have:=(ok.funs.mem hb).1;rw[e]at this;cases this
theorem Inv.bs (I:Inv X pins σ H s):∀b o,X.base.get? b=some o->s.heap.get? b=some o/\H b=none:=λb o e=>
 ⟨I.base.keep b o (I.ok.bs b o e).1 (I.ok.bs b o e).2 (I.ok.nofr e) (I.ok.noex b o e),I.base.free b o (I.ok.bs b o e).1 (I.ok.bs b o e).2 (I.ok.noex b o e)⟩
theorem Inv.bk (I:Inv X pins σ H s):∀b o,X.base.get? b=some o->s.heap.get? b=some o:=λb o e=>(I.bs b o e).1
theorem Inv.mod (I:Inv X pins σ H s):Mod X.K X.mg X.base:=I.ok.mod
theorem Inv.kIn (I:Inv X pins σ H s):X.K.In s.heap:=I.ok.mod.kin.keeps I.bk
theorem Inv.fr (I:Inv X pins σ H s):∃m,Fr X.base X.env.locals s.heap m:=
 let ⟨m,hn,_⟩:=I.loc
 ⟨m,hn,I.bk,aH I.ok.bsz I.ok.above⟩
theorem Inv.lt (I:Inv X pins σ H s):X.env.locals<s.heap.objs.size:=let ⟨_,hn,_⟩:=I.loc;hn.lt
theorem Inv.sz (I:Inv X pins σ H s):X.s₀.heap.objs.size<=s.heap.objs.size:=aH I.ok.above (bN I.lt)
theorem Inv.nofs (I:Inv X pins σ H s){a:Addr}(h:s.heap.objs.size<=a):a∉X.fs:=λhb=>by obtain⟨_,o,ho,_⟩:=I.ok.funs.mem hb;exact absurd (aD (aA ho) (aH I.sz h)) (cY _)
theorem Inv.cne (I:Inv X pins σ H s):∀x c,X.env.cells.lookup x=some c->c≠X.env.locals:=λx c e z=>by obtain⟨v,o,ho,hd⟩:=I.cell x c e;obtain⟨m,⟨o',es,ep,ho',hd',_⟩,_⟩:=I.loc;rw[z,ho']at ho;cases ho;rw[hd']at hd;cases hd
theorem Inv.funs (I:Inv X pins σ H s):s.heap.FunFrames X.base X.outer:=by
 have all:∀(l:List Env),(∀b∈frs l,b∈X.fs)->X.s₀.heap.FunFrames X.base l->s.heap.FunFrames X.base l:=by
  intro l
  induction l with
  |nil=>intro _ _;trivial
  |cons env r ih=>intro hs hl;obtain⟨hk,⟨L,o,hf,hn,ho,hd⟩,hr⟩:=hl;have hL:L∈X.fs:=hs L (by unfold frs;rw[bB,hf];exact ah);obtain⟨sl,e⟩:=I.base.slot L o ho (I.ok.frf.f L hL) hL λz=>I.ok.exfs L z hL;exact⟨hk,⟨L,_,hf,hn,e,hd⟩,ih (λb hb=>hs b (by unfold frs;rw[bB,hf];exact ad _ hb)) hr⟩
 exact all X.outer (λ_ hb=>hb) I.ok.funs
theorem Inv.stack (I:Inv X pins σ H s):s.heap.FunFrames X.base X.stack:=by
 rcases I.ok.stk with e|⟨e,hf⟩
 ·rw[e];exact I.funs
 ·rw[e];obtain⟨m,hn,_⟩:=I.loc;refine .cons (by rw[I.ok.kind];decide) hf hn ?_ I.funs;exact Heap.get?_none_of_le (aH I.ok.bsz I.ok.above)
theorem Inv.stkSub (I:Inv X pins σ H s):∀b∈frs X.stack,b∈X.env.locals::X.fs:=λb hb=>by
 rcases I.ok.stk with e|⟨e,hf⟩
 ·rw[e]at hb;exact ad _ hb
 ·rw[e]at hb;unfold frs at hb;rw[bB,hf]at hb;exact hb
theorem Inv.stkFree (I:Inv X pins σ H s):∀b∈frs X.stack,H b=none:=λb hb=>by
 rcases aF.mp (I.stkSub b hb) with e|hb
 ·rw[e];exact I.free
 ·obtain⟨_,o,ho,_⟩:=I.ok.funs.mem hb;exact I.base.free b o ho (I.ok.frf.f b hb) λz=>I.ok.exfs b z hb
theorem Inv.step {g':Array GenState}{t':Nat}{d':Drawn}{ch:List Addr}(I:Inv X pins σ H s)
  (hch:∀b∈ch,(b∈X.ex\/X.s₀.heap.objs.size<=b)/\b≠X.env.locals/\(∀x c,X.env.cells.lookup x=some c->c≠b)/\∀p∈X.pn++pins,p.1≠b)
  (keep:∀b o,b≠X.env.locals->b∉X.fs->b∉ch->s.heap.get? b=some o->H b=none->h'.get? b=some o)
  (slot:∀b o,b≠X.env.locals->b∈X.fs->b∉ch->s.heap.get? b=some o->H b=none->∃sl,h'.get? b=some { o with slots:=sl }) (free:∀b o,b∉ch->s.heap.get? b=some o->H b=none->H' b=none)
  (there:∀b o,b∉ch->s.heap.get? b=some o->∃o',h'.get? b=some o')
  (tups:∀b xs,H b=some (.tup xs)->H' b=some (.tup xs)) (frzs:∀b o u,H b=some (.frz o u)->H' b=some (.frz o u)) (tbls:∀b ps,H b=some (.tbl ps)->∃more:Array Value,H' b=some (.tbl (ps++more)))
  (ns:∀m,s.heap.Ns X.env.locals m->h'.Ns X.env.locals m) (hok:HOk X.prog X.w H' h') (hg:AllBare g') :
  Inv X pins σ H' { s with heap:=h',gens:=g',drawn:=d',toks:=t' }:=by
 have neL:∀b o,X.s₀.heap.get? b=some o->b≠X.env.locals:=λb o e=>bn (aD (aA e) I.ok.above);have neC:∀b o,X.s₀.heap.get? b=some o->b∉X.ex->b∉ch:=λb o e hx hb=>by
  rcases (hch b hb).1 with z|z
  ·exact hx z
  ·exact absurd (aD (aA e) z) (cY _)
 have cellK:∀x c,X.env.cells.lookup x=some c->∀v,s.heap.IsCell c v->h'.IsCell c v:=λx c e v ⟨o,ho,hd⟩=>by
  have nch:c∉ch:=λz=>(hch c z).2.2.1 x c e rfl;by_cases hc:c∈X.fs
  ·obtain⟨sl,q⟩:=slot c o (I.cne x c e) hc nch ho (I.freeC x c e);exact⟨_,q,hd⟩
  ·exact⟨o,keep c o (I.cne x c e) hc nch ho (I.freeC x c e),hd⟩
 refine⟨I.ok,I.os,hg,⟨λb o e n hb hx=>?_,λb o e n hb hx=>?_,λb o e n hx=>?_,λb o e hx=>?_,λb xs e=>tups b xs (I.base.tups b xs e),λb o xs e=>frzs b o xs (I.base.frzs b o xs e),λb ps e=>?_⟩,?_,λx c e=>?_,?_,λx c e=>?_,λp hp=>?_,hok,I.len⟩
 ·exact keep b o (neL b o e) hb (neC b o e hx) (I.base.keep b o e n hb hx) (I.base.free b o e n hx)
 ·obtain⟨sl,e1⟩:=I.base.slot b o e n hb hx;obtain⟨sl',e2⟩:=slot b _ (neL b o e) hb (neC b o e hx) e1 (I.base.free b o e n hx);exact⟨sl',e2⟩
 ·obtain⟨o',e1⟩:=I.base.there b o e hx;exact free b o' (neC b o e hx) e1 (I.base.free b o e n hx)
 ·obtain⟨o',e1⟩:=I.base.there b o e hx;exact there b o' (neC b o e hx) e1
 ·obtain⟨m1,e1⟩:=I.base.tbls b ps e;obtain⟨m2,e2⟩:=tbls b _ e1;exact⟨m1++m2,by rw[e2,yN.append_assoc]⟩
 ·obtain⟨m,hn,hl⟩:=I.loc;refine⟨m,ns m hn,λi x v e1 e2 e3=>?_⟩;obtain⟨u,r,l⟩:=hl i x v e1 e2 e3;refine⟨u,r,?_⟩;rcases l with l|⟨k,c,e,z⟩
  ·exact .inl l
  ·exact .inr ⟨k,c,e,cellK x c e _ z⟩
 ·obtain⟨v,z⟩:=I.cell x c e;exact⟨v,cellK x c e v z⟩
 ·obtain⟨m,⟨o,_,_,ho,_⟩,_⟩:=I.loc;exact free _ o (λz=>(hch _ z).2.1 rfl) ho I.free
 ·obtain⟨v,o,ho,hd⟩:=I.cell x c e;exact free c o (λz=>(hch c z).2.2.1 x c e rfl) ho (I.freeC x c e)
 ·obtain⟨e,n,ne,nf,d⟩:=I.pin p hp;have nch:p.1∉ch:=λz=>(hch p.1 z).2.2.2 p hp rfl;exact⟨keep p.1 p.2 ne nf nch e n,free p.1 p.2 nch e n,ne,nf,d⟩
theorem Inv.un {t':Nat}(I:Inv X pins σ H s)(u:Un X.fs [] H H' s.heap h')(hok:HOk X.prog X.w H' h'):Inv X pins σ H' { s with heap:=h',toks:=t' }:=by
 obtain⟨m,⟨o,es,ep,ho,r⟩,_⟩:=id I.loc;obtain⟨sl,hL⟩:=u.any ho I.free (by simp);exact I.step (g':=s.gens) (d':=s.drawn) (ch:=[]) (λ_ z=>nomatch z) (λb o _ hb _ e n=>u.keep b o e n hb (by simp)) (λb o _ hb _ e n=>u.slot b o e n hb (by simp)) (λb o _ e n=>u.free b o e n (by simp)) (λb o _ e=>u.there b o e (by simp)) u.tups u.frzs u.tbls (λm' hm=>by
  obtain⟨o',es',ep',ho',r'⟩:=hm;rw[ho]at ho';cases ho';exact⟨_,es',ep',hL,r'⟩) hok I.bare
theorem Inv.call {g':Array GenState}{t':Nat}{d':Drawn}{ch:List Addr}(I:Inv X pins σ H s)(u:Un (frs X.stack) ch H H' s.heap h')(hok:HOk X.prog X.w H' h')(hg:AllBare g')
  (hch:∀b∈ch,(b∈X.ex\/X.s₀.heap.objs.size<=b)/\b≠X.env.locals/\(∀x c,X.env.cells.lookup x=some c->c≠b)/\∀p∈X.pn++pins,p.1≠b) :
  Inv X pins σ H' { s with heap:=h',gens:=g',drawn:=d',toks:=t' }:=by
 obtain⟨m,⟨o,es,ep,ho,r⟩,_⟩:=id I.loc;obtain⟨sl,hL⟩:=u.any ho I.free λz=>(hch _ z).2.1 rfl;exact I.step (ch:=ch) hch (λb o hL hb hc e n=>u.keep b o e n (λz=>(aF.mp (I.stkSub b z)).elim hL hb) hc) (λb o _ _ hc e n=>u.any e n hc) (λb o hc e n=>u.free b o e n hc) (λb o hc e=>u.there b o e hc) u.tups u.frzs u.tbls (λm' hm=>by
  obtain⟨o',es',ep',ho',r'⟩:=hm;rw[ho]at ho';cases ho';exact⟨_,es',ep',hL,r'⟩) hok hg
theorem Inv.turned {t':Nat}{it:Addr}(I:Inv X pins σ H s)(k:∀b o,b≠it->s.heap.get? b=some o->h'.get? b=some o)(hn:H it=none)(hL:it≠X.env.locals)
  (h1:it∈X.ex\/X.s₀.heap.objs.size<=it) (h2:∀x c,X.env.cells.lookup x=some c->c≠it) (h3:∀p∈X.pn++pins,p.1≠it):Inv X pins σ H { s with heap:=h',toks:=t' }:=by
 have nit:∀b u,H b=some u->b≠it:=λb u e z=>by rw[z,hn]at e;cases e
 refine I.step (g':=s.gens) (d':=s.drawn) (ch:=[it]) (λb hb=>?_) (λb o _ _ hc e _=>k b o (λz=>hc (by simp[z])) e) (λb o _ _ hc e _=>⟨o.slots,k b o (λz=>hc (by simp[z])) e⟩) (λ_ _ _ _ n=>n)
  (λb o hc e=>⟨o,k b o (λz=>hc (by simp[z])) e⟩) (λ_ _ e=>e) (λ_ _ _ e=>e) (λb ps e=>⟨#[],by rw[e];simp⟩) (λm hm=>?_) (λb u e=>?_) I.bare
 ·have e:b=it:=by simpa using hb
  subst e;exact⟨h1,hL,h2,h3⟩
 ·obtain⟨o,es,ep,ho,r⟩:=hm;exact⟨o,es,ep,k _ o (ck hL) ho,r⟩
 ·refine(I.hok b u e).stay (λc v hc q=>k c v ?_ q) (λ_ q=>q) λ_ _ q=>q;rcases hc with z|z
  ·rw[z];exact nit b u e
  ·exact nit c _ z
theorem Inv.tok (I:Inv X pins σ H s)(t:Nat):Inv X pins σ H { s with toks:=t }:=I.un (h':=s.heap) (t':=t) Un.refl I.hok
theorem Inv.kept (I:Inv X pins σ H s)(k:∀b u,s.heap.get? b=some u->h'.get? b=some u):Inv X pins σ H { s with heap:=h',toks:=t' }:=I.un (Un.kept k) (I.hok.kept k)
theorem Inv.laid {a:Addr}{o:HO}{t':Nat}(I:Inv X pins σ H s)(k:∀b u,s.heap.get? b=some u->h'.get? b=some u)(hp:s.heap.objs.size<=a)(new:ObjOk X.prog X.w (upd H a o) h' a o) :
  Inv X pins σ (upd H a o) { s with heap:=h',toks:=t' }:=I.un (Un.laid k hp (I.hok.fresh hp)) (I.hok.laid k hp new)
theorem Inv.write (I:Inv X pins σ H s)(mu:Mut (H x))(he:e=x\/H e=some (.own x))(k:∀b u,b≠e->s.heap.get? b=some u->h'.get? b=some u)(heo:∃u,h'.get? e=some u)
  (new:ObjOk X.prog X.w (upd H x o) h' x o):Inv X pins σ (upd H x o) { s with heap:=h',toks:=t' }:=I.un (Un.write mu he k heo) (I.hok.write mu he k heo new)
theorem Inv.weak (I:Inv X pins σ H s)(hl:σ'.length=σ.length)(w:∀(i:Nat) v,σ'[i]?=some (some v)->σ[i]?=some (some v)):Inv X pins σ' H s:=
 ⟨I.ok,I.os,I.bare,I.base,let ⟨m,hn,hl'⟩:=I.loc;⟨m,hn,λi x v e1 e2 e3=>hl' i x v e1 (w i v e2) e3⟩,I.cell,I.free,I.freeC,I.pin,I.hok,hl.trans I.len⟩
theorem Inv.pins_of (I:Inv X pins σ H s)(h:∀p∈pins',s.heap.get? p.1=some p.2/\H p.1=none/\p.1≠X.env.locals/\p.1∉X.fs/\∀v,p.2.data ≠ .cell v):Inv X pins' σ H s:=
 ⟨I.ok,I.os,I.bare,I.base,I.loc,I.cell,I.free,I.freeC,λp hp=>(c8.mp hp).elim (λz=>I.pin p (cI _ z)) (h p),I.hok,I.len⟩
theorem nodup_ix {N:Ls}(hN:N.Nodup){i j:Nat}{x:Str}(a:N[i]?=some x)(b:N[j]?=some x):i=j:=by obtain⟨h1,e1⟩:=aj.mp a;obtain⟨h2,e2⟩:=aj.mp b;exact(List.getElem_inj hN).mp (e1.trans e2.symm)
theorem store_ok2 {M:Model}{A:Around}{E:Value->Shared->Prop}{i:Nat}{x:Str}{v:V}{u:Value}{Q:Unit->Shared->Prop}(I:Inv X pins σ H s)(hN:X.N.Nodup)(hi:X.N[i]?=some x)(hx:Loc X.env.scope x)(r:RelV v u)
  (h:∀s',Inv X pins (σ.set i (some v)) H s' -> (∃a,Heap.SameBut a s.heap s'.heap/\(a=X.env.locals\/X.env.cells.lookup x=some a))->Q () s') (hf:X.fn x=true\/X.env.scope.names.lookup x=some .local:=by walk_at "w"):wpAny M A (storeName X.env x u) Q E s:=by
 obtain⟨m,hn,hl⟩:=id I.loc;have hcls:(X.env.scope.kind == .class || (X.env.scope.kind == .module && X.env.locals != X.env.globals))=false:=by rw[I.ok.kind];rfl
 have hiσ:i<σ.length:=by rw[I.len];exact(aj.mp hi).1
 have cne:=I.cne;have tracked:∀{a:Addr} {h':Heap},(∃o,s.heap.get? a=some o/\H a=none)->Heap.SameBut a s.heap h' -> HOk X.prog X.w H h':=λ{a h'} ha hs b ob e=>by
  obtain⟨_,_,hfree⟩:=ha;refine(I.hok b ob e).stay (λc w' hc q=>(hs.2 c ?_).trans q) (λ_ q=>q) λ_ _ q=>q;rintro rfl;rcases hc with rfl|hc
  ·rw[hfree]at e;cases e
  ·rw[hfree]at hc;cases hc
 rcases hx with hk|hk
 ·refine wpAny_storeName_local hk hn (λh' hn' hs=>?_) hcls;obtain⟨oL,_,_,hoL,_⟩:=id hn;refine h _ ⟨I.ok,I.os,I.bare,⟨λb o e n hb hx=>?_,λb o e n hb hx=>?_,I.base.free,λb o e hx=>?_,I.base.tups,I.base.frzs,I.base.tbls⟩,⟨_,hn',λj y v' e1 e2 e3=>?_⟩,λy c e=>?_,I.free,I.freeC,λp hp=>?_,tracked ⟨oL,hoL,I.free⟩ hs,by simpa using I.len⟩ ⟨_,hs,.inl rfl⟩
  ·exact(hs.2 b (bn (aD (aA e) I.ok.above))).trans (I.base.keep b o e n hb hx)
  ·obtain⟨sl,e1⟩:=I.base.slot b o e n hb hx;exact⟨sl,(hs.2 b (bn (aD (aA e) I.ok.above))).trans e1⟩
  ·obtain⟨o',e1⟩:=I.base.there b o e hx;exact⟨o',(hs.2 b (bn (aD (aA e) I.ok.above))).trans e1⟩
  ·by_cases hj:j=i
   ·subst hj;rw[hi]at e1;cases e1;rw[e8 hiσ]at e2;cases e2;exact⟨u,r,.inl ⟨hk,by simp⟩⟩
   ·rw[d7 (ck hj)]at e2;obtain⟨u',r',q⟩:=hl j y v' e1 e2 e3;refine⟨u',r',?_⟩;rcases q with⟨k,e⟩|⟨k,c,e,z⟩
    ·refine .inl ⟨k,?_⟩;have:y≠x:=λe=>hj (nodup_ix hN e1 (e ▸ hi));simp[this,e]
    ·exact .inr ⟨k,c,e,z.sameBut hs (cne y c e)⟩
  ·obtain⟨w',z⟩:=I.cell y c e;exact⟨w',z.sameBut hs (cne y c e)⟩
  ·obtain⟨e,n,ne,nf,d⟩:=I.pin p hp;exact⟨(hs.2 p.1 ne).trans e,n,ne,nf,d⟩
 ·have hfn:X.fn x=true:=by
   rcases hf with z|z
   ·exact z
   ·rw[z]at hk;cases hk
  obtain⟨c,hc⟩:=I.ok.has x (.inl hk);obtain⟨w',z⟩:=I.cell x c hc;refine wpAny_storeName_cell I.ok.kind hk hc z (λh' hc' hs=>?_);obtain⟨oc,hoc,hocd⟩:=id z;refine h { s with heap:=h' } ⟨I.ok,I.os,I.bare,⟨λb o e n hb hx=>?_,λb o e n hb hx=>?_,I.base.free,λb o e hx=>?_,I.base.tups,I.base.frzs,I.base.tbls⟩,⟨m,hn.sameBut hs (ck (cne x c hc)),λj y v' e1 e2 e3=>?_⟩,λy c' e=>?_,I.free,I.freeC,λp hp=>?_,tracked ⟨oc,hoc,I.freeC x c hc⟩ hs,by simpa using I.len⟩ ⟨c,hs,.inr hc⟩
  ·exact(hs.2 b (bn (aD (aA e) (I.ok.cab x c hfn hc)))).trans (I.base.keep b o e n hb hx)
  ·obtain⟨sl,e1⟩:=I.base.slot b o e n hb hx;exact⟨sl,(hs.2 b (bn (aD (aA e) (I.ok.cab x c hfn hc)))).trans e1⟩
  ·obtain⟨o',e1⟩:=I.base.there b o e hx;exact⟨o',(hs.2 b (bn (aD (aA e) (I.ok.cab x c hfn hc)))).trans e1⟩
  ·by_cases hj:j=i
   ·subst hj;rw[hi]at e1;cases e1;rw[e8 hiσ]at e2;cases e2;exact⟨u,r,.inr ⟨.inl hk,c,hc,hc'⟩⟩
   ·rw[d7 (ck hj)]at e2;obtain⟨u',r',q⟩:=hl j y v' e1 e2 e3;refine⟨u',r',?_⟩;rcases q with q|⟨k,c',e,z'⟩
    ·exact .inl q
    ·refine .inr ⟨k,c',e,z'.sameBut hs ?_⟩;rintro rfl;exact hj (nodup_ix hN e1 (I.ok.inj _ _ _ e hc ▸ hi))
  ·by_cases hcc:c'=c
   ·subst hcc;exact⟨_,hc'⟩
   ·obtain⟨w2,z2⟩:=I.cell y c' e;exact⟨w2,z2.sameBut hs hcc⟩
  ·obtain⟨e,n,ne,nf,d⟩:=I.pin p hp;refine⟨(hs.2 p.1 ?_).trans e,n,ne,nf,d⟩;intro q;rw[q,hoc]at e;have q':oc=p.2:=aB e;exact d w' (by rw[<- q'];exact hocd)
theorem store_ok (I:Inv X pins σ H s)(hN:X.N.Nodup)(hi:X.N[i]?=some x)(hx:Loc X.env.scope x)(r:RelV v u)
  (h:∀s',Inv X pins (σ.set i (some v)) H s' -> Q () s') (hf:X.fn x=true\/X.env.scope.names.lookup x=some .local:=by walk_at "w"):wpAny M A (storeName X.env x u) Q E s:=
 store_ok2 I hN hi hx r (λs' I' _=>h s' I') hf
theorem Inv.call' (I:Inv X pins σ H s)(ho:s'.os=s.os)(u:Un (frs X.stack) ch H H' s.heap s'.heap)(hok:HOk X.prog X.w H' s'.heap)(hg:AllBare s'.gens)
  (hch:∀b∈ch,(b∈X.ex\/X.s₀.heap.objs.size<=b)/\b≠X.env.locals/\(∀x c,X.env.cells.lookup x=some c->c≠b)/\∀p∈X.pn++pins,p.1≠b):Inv X pins σ H' s':=by
 obtain⟨h',g',d',t',o'⟩:=s';have e:o'=s.os:=ho;subst e;exact I.call (g':=g') (t':=t') (d':=d') u hok hg hch
end
abbrev XK:=Value->Option Addr->Hp->Prop
abbrev St:=List (Option V)
abbrev VK:=V->Hp->Prop
abbrev TE:=St->Hp->VK->Prop
abbrev TT:=St->Hp->(Bool->Hp->Prop)->Prop
abbrev TA:=St->Hp->(List V->Hp->Prop)->Prop
structure Ends where
 nx:St->Hp->Prop
 rt:VK
 bk:St->Hp->Prop:=λ_ _=>False
 ct:St->Hp->Prop:=λ_ _=>False
abbrev TS:=Ends->St->Hp->Prop
def EP (X:Cx)(pins:List (Addr×Obj))(σ:St)(Q:VK)(u:Value)(s':Shared):Prop:=∃v H',Inv X pins σ H' s'/\RelV v u/\Q v H'
def TP (X:Cx)(pins:List (Addr×Obj))(σ:St)(Q:Bool->Hp->Prop)(b:Bool)(s':Shared):Prop:=∃H',Inv X pins σ H' s'/\Q b H'
def AP (X:Cx)(pins:List (Addr×Obj))(σ:St)(Q:List V->Hp->Prop)(us:List Value)(s':Shared):Prop:=∃vs H',Inv X pins σ H' s'/\Vals vs us/\Q vs H'
def SP (X:Cx)(pins:List (Addr×Obj))(D:Ends)(f:Flow)(s':Shared):Prop:=
 match f with
 | .next=>∃σ' H',Inv X pins σ' H' s'/\D.nx σ' H'
 | .brk=>∃σ' H',Inv X pins σ' H' s'/\D.bk σ' H'
 | .cont=>∃σ' H',Inv X pins σ' H' s'/\D.ct σ' H'
 | .ret u=>∃v σ' H',Inv X pins σ' H' s'/\RelV v u/\D.rt v H'
def PE (X:Cx)(e:Expr)(t:TE):Prop:=
 ∀(pins:List (Addr×Obj)) (s:Shared) (σ:St) (H:Hp) (Q:VK),Inv X pins σ H s->t σ H Q->wpAny (model X.prog X.w) X.A (eval e X.env) (EP X pins σ Q) X.xe s
def PT (X:Cx)(e:Expr)(t:TT):Prop:=
 ∀(pins:List (Addr×Obj)) (s:Shared) (σ:St) (H:Hp) (Q:Bool->Hp->Prop),Inv X pins σ H s->t σ H Q->wpAny (model X.prog X.w) X.A (isTrue e X.env (eval e X.env)) (TP X pins σ Q) X.xe s
def PW (X:Cx)(e:Expr)(t:TT):Prop:=
 ∀(whole:Sem Value) (pins:List (Addr×Obj)) (s:Shared) (σ:St) (H:Hp) (Q:Bool->Hp->Prop),Inv X pins σ H s->t σ H Q->wpAny (model X.prog X.w) X.A (isTrue e X.env whole) (TP X pins σ Q) X.xe s
theorem PW.pt (h:PW X e t):PT X e t:=h _
def PA (X:Cx)(es:List Expr)(t:TA):Prop:=
 ∀(pos:Pos) (pins:List (Addr×Obj)) (s:Shared) (σ:St) (H:Hp) (Q:List V->Hp->Prop),Inv X pins σ H s->t σ H Q->wpAny (model X.prog X.w) X.A (spliced (backTo pos (starEach es X.env))) (AP X pins σ Q) X.xe s
def PS (X:Cx)(st:Stmt)(t:TS):Prop:=
 ∀(pins:List (Addr×Obj)) (s:Shared) (σ:St) (H:Hp) (D:Ends),Inv X pins σ H s->t D σ H->wpAny (model X.prog X.w) X.A (exec st X.env) (SP X pins D) X.xe s
def PSs (X:Cx)(st:List Stmt)(t:TS):Prop:=
 ∀(pins:List (Addr×Obj)) (s:Shared) (σ:St) (H:Hp) (D:Ends),Inv X pins σ H s->t D σ H->wpAny (model X.prog X.w) X.A (execs st X.env) (SP X pins D) X.xe s
theorem thn {α:Type}{t:Sem α}{Q Q':α->Shared->Prop}{M:Model}{A:Around}{E:Value->Shared->Prop}{s:Shared}(h:wpAny M A t Q E s)(hQ:∀a s,Q a s->Q' a s):wpAny M A t Q' E s:=fN h hQ λ_ _ x=>x
section
variable {X:Cx}
def tVar (i:Nat):TE:=λσ H Q=>∃v,σ[i]?=some (some v)/\Q v H
def tC (v:V):TE:=λ_ H Q=>Q v H
theorem pe_var (hN:X.N[i]?=some x)(hv:Vis X.env.scope x)(hd:(x == ("__debug__":Str))=false:=by decide)(hcd:(x == ("__classdict__":Str))=false:=by decide):PE X (.Name x pos) (tVar i):=by
 intro pins s σ H Q I h;obtain⟨v,e,h⟩:=h;obtain⟨m,hn,hl⟩:=I.loc;obtain⟨u,r,l⟩:=hl i x v hN e hv;have fin:EP X pins σ Q u s:=⟨v,H,I,r,h⟩;rcases l with⟨hk,hm⟩|⟨hk,c,hc,hcell⟩
 ·exact ie (d8 I.ok.kind hk hn hm fin) hd
 ·rcases hk with hk|hk
  ·exact ie (wpAny_loadName_cell I.ok.kind hk hc hcell fin) hd
  ·exact ie (wpAny_loadName_free I.ok.kind hk hc hcell fin hcd) hd
theorem pe_int:PE X (.Constant (.int i) j pos) (tC (.int i)):=λ_ _ _ H _ I h=>f6 ⟨.int i,H,I.tok _,⟨_,rfl⟩,h⟩
theorem pe_bl:PE X (.Constant (.bool b) j pos) (tC (.bl b)):=λ_ _ _ H _ I h=>Constant_bool ⟨.bl b,H,I,rfl,h⟩
theorem pe_non:PE X (.Constant .none j pos) (tC .non):=λ_ _ _ H _ I h=>Constant_none ⟨.non,H,I,rfl,h⟩
theorem pe_str:PE X (.Constant (.str x) j pos) (tC (.str x)):=λ_ _ _ H _ I h=>Calls.Constant_str ⟨.str x,H,I.tok _,⟨_,rfl⟩,h⟩
def Gl (X:Cx)(x:Str):Prop:=X.env.kindOf x=some .globalImplicit
theorem ld_glob (I:Inv X pins σ H s)(hg:Gl X x)(hm:X.mg x=some u)(h:Q u s)
  (hd:(x == ("__debug__":Str))=false:=by decide):wpAny (model X.prog X.w) X.A (eval (.Name x pos) X.env) Q E s:=
 dY I.ok.kind hg (Calls.loadGlobal_global (by rw[I.ok.glob];exact I.mod.glob.keeps I.bk) hm h) hd
theorem ld_blt (I:Inv X pins σ H s)(hg:Gl X x)(hm:X.mg x=none)(hv:bootBuiltins x=some u)(h:Q u s)
  (hn:x≠"__name__":=by decide) (hd:(x == ("__debug__":Str))=false:=by decide):wpAny (model X.prog X.w) X.A (eval (.Name x pos) X.env) Q E s:=by
 obtain⟨mb,h1,h2⟩:=I.mod.blt;exact dY I.ok.kind hg (Calls.loadGlobal_builtin (by rw[I.ok.glob];exact I.mod.glob.keeps I.bk) hm (by rw[I.ok.blt];exact h1.keeps I.bk) ((h2 x hn).trans hv) h) hd
theorem pe_glob (hg:Gl X x)(hm:X.mg x=some u)(r:RelV v u)(hd:(x == ("__debug__":Str))=false:=by decide):PE X (.Name x pos) (tC v):=
 λ_ _ _ H _ I h=>ld_glob I hg hm ⟨v,H,I,r,h⟩ hd
theorem pe_bltn (hg:Gl X x)(hm:X.mg x=none)(hv:bootBuiltins x=some u)(r:RelV v u)(hn:x≠"__name__":=by decide)(hd:(x == ("__debug__":Str))=false:=by decide):PE X (.Name x pos) (tC v):=
 λ_ _ _ H _ I h=>ld_blt I hg hm hv ⟨v,H,I,r,h⟩ hn hd
variable {a b:Expr}{ta tb:TE}{pos:Pos}
def tB (t:TE):TT:=λσ H Q=>t σ H λx H1=>∃c,x=.bl c/\Q c H1
theorem pt_val (h:PE X e t)(he:∀whole,isTrue e X.env whole=(do let v <- whole;standAt e.pos;holding [v] (truthy v)):=by intro _;rfl):PT X e (tB t):=by intro pins s σ H Q I hw;refine isTrue_plain (thn (h pins s σ H _ I hw) λv s1 ⟨x,H1,I1,r1,q1⟩=>?_) (he _);obtain⟨d,rfl,q⟩:=q1;cases r1;exact dR ⟨H1,I1,q⟩
variable {tA tB':TT}{rest:List Expr}
def tAnd (t u:TT):TT:=λσ H Q=>t σ H λc H1=>if c=true then u σ H1 Q else Q false H1
def tOr (t u:TT):TT:=λσ H Q=>t σ H λc H1=>if c=true then Q true H1 else u σ H1 Q
def tNot (t:TT):TT:=λσ H Q=>t σ H λc H1=>Q (!c) H1
theorem pw_and1 (ha:PT X a tA):PW X (.BoolOp .And [a] pos) tA:=by
 intro wh pins s σ H Q I h;refine isTrue_and (thn (ha pins s σ H Q I h) λc s1 e=>?_);cases c with
 |true=>exact isTrue_and_nil e
 |false=>exact e
theorem pw_or1 (ha:PT X a tA):PW X (.BoolOp .Or [a] pos) tA:=by
 intro wh pins s σ H Q I h;refine isTrue_or (thn (ha pins s σ H Q I h) λc s1 e=>?_);cases c with
 |false=>exact isTrue_or_nil e
 |true=>exact e
theorem pw_and (ha:PT X a tA)(hb:PW X (.BoolOp .And (b::rest) pos) tB'):PW X (.BoolOp .And (a::b::rest) pos) (tAnd tA tB'):=by
 intro wh pins s σ H Q I h;refine isTrue_and (thn (ha pins s σ H _ I h) λc s1 ⟨H1,I1,q1⟩=>?_);cases c with
 |true=>exact hb wh pins s1 σ H1 Q I1 q1
 |false=>exact⟨H1,I1,q1⟩
theorem pw_or (ha:PT X a tA)(hb:PW X (.BoolOp .Or (b::rest) pos) tB'):PW X (.BoolOp .Or (a::b::rest) pos) (tOr tA tB'):=by
 intro wh pins s σ H Q I h;refine isTrue_or (thn (ha pins s σ H _ I h) λc s1 ⟨H1,I1,q1⟩=>?_);cases c with
 |true=>exact⟨H1,I1,q1⟩
 |false=>exact hb wh pins s1 σ H1 Q I1 q1
theorem pt_not (ha:PT X a tA):PT X (.UnaryOp .Not a pos) (tNot tA):=by intro pins s σ H Q I h;exact isTrue_not (ha pins s σ H (λc H1=>Q (!c) H1) I h)
def tAndV (ta tb:TE):TE:=λσ H Q=>ta σ H λx H1=>∃c,x=.bl c/\if c=true then tb σ H1 Q else Q (.bl false) H1
def tNotV (ta:TE):TE:=λσ H Q=>ta σ H λx H1=>∃c,x=.bl c/\Q (.bl (!c)) H1
theorem pe_one (h:PE X a t):PE X (.BoolOp op [a] pos) t:=λpins s σ H Q I hw=>BoolOp_one (h pins s σ H Q I hw)
theorem pe_and (ha:PE X a ta)(hb:PE X (.BoolOp .And (b::rest) pos) tb):PE X (.BoolOp .And (a::b::rest) pos) (tAndV ta tb):=by
 intro pins s σ H Q I h;refine BoolOp_and (thn (ha pins s σ H _ I h) λv s1 ⟨x,H1,I1,r1,q1⟩=>?_);obtain⟨c,rfl,q1⟩:=q1;cases r1;refine dR ?_;cases c with
 |true=>exact hb pins s1 σ H1 Q I1 q1
 |false=>exact⟨.bl false,H1,I1,rfl,q1⟩
theorem pe_not (ha:PE X a ta):PE X (.UnaryOp .Not a pos) (tNotV ta):=by intro pins s σ H Q I h;refine UnaryOp_ (thn (ha pins s σ H _ I h) λv s1 ⟨x,H1,I1,r1,q1⟩=>?_);obtain⟨c,rfl,q1⟩:=q1;cases r1;exact not_of (dR ⟨.bl (!c),H1,I1,rfl,q1⟩)
def tIf (t:TT)(ta tb:TE):TE:=λσ H Q=>t σ H λc H1=>if c=true then ta σ H1 Q else tb σ H1 Q
theorem pe_ifExp (hc:PT X c tA)(ha:PE X a ta)(hb:PE X b tb):PE X (.IfExp c a b pos) (tIf tA ta tb):=by
 intro pins s σ H Q I h;refine wpAny_IfExp (thn (hc pins s σ H _ I h) λd s1 ⟨H1,I1,q1⟩=>?_);cases d with
 |true=>exact ha pins s1 σ H1 Q I1 q1
 |false=>exact hb pins s1 σ H1 Q I1 q1
end
def SqL (K:Fg)(H:Hp)(a:Addr)(xs:List V):Prop:=
 Rd H a (.lst xs) \/
  ∃(o:Obj) (its:Array Value) (n:Nat),K.lookup a=some o/\o.cls=.type "list"/\o.dict=none/\o.data=.seq its n/\its.size<=sizeLine/\Vals xs its.toList
def SqT (K:Fg)(H:Hp)(a:Addr)(xs:List V):Prop:=
 Rd H a (.tup xs) \/
  ∃(o:Obj) (its:Array Value) (n:Nat),K.lookup a=some o/\o.cls=.type "tuple"/\o.data=.seq its n/\its.size<=sizeLine/\Vals xs its.toList
def absV:Value->Option V
 | .none=>some .non
 | .bool b=>some (.bl b)
 | .int i _=>some (.int i)
 | .str x _=>some (.str x)
 | .bytes b _=>some (.byt b)
 | .float b _=>some (.flt b)
 | .ref a=>some (.ref a)
 | .type n=>some (.ty n)
 |_=>none
theorem RelV.abs (r:RelV x u):absV u=some x:=by
 cases x with
 |non=>cases r;rfl
 |bl _=>cases r;rfl
 |int _=>obtain⟨t,rfl⟩:=r;rfl
 |str _=>obtain⟨t,rfl⟩:=r;rfl
 |byt _=>obtain⟨t,rfl⟩:=r;rfl
 |flt _=>obtain⟨t,rfl⟩:=r;rfl
 |ref _=>cases r;rfl
 |ty _=>cases r;rfl
theorem RelV.inj (r:RelV x u)(q:RelV y u):x=y:=aB (r.abs.symm.trans q.abs)
theorem Vals.inj:∀{xs ys:List V} {us:Lv},Vals xs us->Vals ys us->xs=ys
 |_,_,_,.nil,.nil=>rfl
 |_,_,_,.cons r t,.cons r' t'=>by rw[r.inj r',Vals.inj t t']
section
variable {X:Cx}{pins:List (Addr×Obj)}{σ:St}{H:Hp}{s:Shared}{a:Addr}{xs ys:List V}
theorem SqL.of {K:Fg}(h:H a=some (.lst xs)):SqL K H a xs:=.inl (.inl h)
theorem SqT.of {K:Fg}(h:H a=some (.tup xs)):SqT K H a xs:=.inl (.inl h)
theorem Inv.list (I:Inv X pins σ H s)(h:SqL X.K H a xs):∃its:List Value,Vals xs its/\PlainL s.heap a its.toArray/\xs.length<=sizeLine:=by
 rcases h with h|⟨o,its,n,hk,hc,hd,hs,hz,r⟩
 ·obtain⟨z,its,n,r,e⟩:=h.ok I.hok;exact⟨its,r,⟨_,n,e,rfl,rfl,rfl⟩,z⟩
 ·refine⟨its.toList,r,⟨o,n,I.kIn a o hk,hc,hd,by simpa using hs⟩,?_⟩;have e:=r.length;simp only[c9]at e;lia
theorem Inv.tuple (I:Inv X pins σ H s)(h:SqT X.K H a xs):∃its:List Value,Vals xs its/\IsTup s.heap a its.toArray/\xs.length<=sizeLine:=by
 rcases h with h|⟨o,its,n,hk,hc,hs,hz,r⟩
 ·obtain⟨z,its,r,p⟩:=h.ok I.hok;exact⟨its,r,p,z⟩
 ·refine⟨its.toList,r,⟨o,I.kIn a o hk,hc,n,by simpa using hs⟩,?_⟩;have e:=r.length;simp only[c9]at e;lia
theorem Inv.list_inj (I:Inv X pins σ H s)(h:SqL X.K H a xs)(h':SqL X.K H a ys):xs=ys:=by
 obtain⟨its,r,⟨o,n,e,_,_,d⟩,_⟩:=I.list h;obtain⟨its',r',⟨o',n',e',_,_,d'⟩,_⟩:=I.list h';rw[e]at e';cases e';rw[d]at d';injection d' with d1 _;have:its=its':=by simpa using congrArg Array.toList d1
 subst this;exact r.inj r'
end
abbrev Cx.wish (X:Cx)(E:Value->Shared->Prop):Cx:={ X with xe:=E }
abbrev Cx.nox (X:Cx):Cx:=X.wish λ_ _=>False
theorem Cx.Ok.wish {X:Cx}(ok:X.Ok)(E:Value->Shared->Prop):(X.wish E).Ok:=
 ⟨ok.mod,ok.kind,ok.glob,ok.blt,ok.above,ok.inj,ok.has,ok.cab,ok.hd,ok.frames,ok.stk,ok.exf,ok.bs,ok.bsz,ok.noex,ok.exfs,ok.funs,ok.frf⟩
theorem Cx.Ok.unwish {X:Cx}{E:Value->Shared->Prop}(ok:(X.wish E).Ok):X.Ok:=
 ⟨ok.mod,ok.kind,ok.glob,ok.blt,ok.above,ok.inj,ok.has,ok.cab,ok.hd,ok.frames,ok.stk,ok.exf,ok.bs,ok.bsz,ok.noex,ok.exfs,ok.funs,ok.frf⟩
section
variable {X:Cx}{pins:List (Addr×Obj)}{σ:St}{H:Hp}{s:Shared}{E:Value->Shared->Prop}
theorem Inv.wish (I:Inv X pins σ H s)(E:Value->Shared->Prop):Inv (X.wish E) pins σ H s:=⟨I.ok.wish E,I.os,I.bare,I.base,I.loc,I.cell,I.free,I.freeC,I.pin,I.hok,I.len⟩
theorem Inv.unwish (I:Inv (X.wish E) pins σ H s):Inv X pins σ H s:=⟨I.ok.unwish,I.os,I.bare,I.base,I.loc,I.cell,I.free,I.freeC,I.pin,I.hok,I.len⟩
theorem SP.unwish (h:SP (X.wish E) pins D f s'):SP X pins D f s':=by
 cases f with
 |next=>obtain⟨σ',H',I,q⟩:=h;exact⟨σ',H',I.unwish,q⟩
 |brk=>obtain⟨σ',H',I,q⟩:=h;exact⟨σ',H',I.unwish,q⟩
 |cont=>obtain⟨σ',H',I,q⟩:=h;exact⟨σ',H',I.unwish,q⟩
 |ret u=>obtain⟨v,σ',H',I,r,q⟩:=h;exact⟨v,σ',H',I.unwish,r,q⟩
theorem PSs.nox {st:List Stmt}{t:TS}(h:PSs X.nox st t):PSs X st t:=λpins s σ H D I hw=>
 fN (h pins s σ H D (I.wish _) hw) (λ_ _ q=>q.unwish) λ_ _ z=>False.elim z
end
section
variable {X:Cx}{st:Stmt}{rest:List Stmt}{t u:TS}{e:Expr}{te:TE}{pos:Pos}
def tNext:TS:=λD σ H=>D.nx σ H
def tSeq (t u:TS):TS:=λD σ H=>t { D with nx:=u D } σ H
theorem pss_nil:PSs X [] tNext:=λ_ _ σ H _ I h=>fO ⟨σ,H,I,h⟩
theorem pss_cons (h1:PS X st t)(h2:PSs X rest u):PSs X (st::rest) (tSeq t u):=by
 intro pins s σ H D I h;refine wpAny_execs_cons (thn (h1 pins s σ H { D with nx:=u D } I h) λf s1 q=>?_);cases f with
 |next=>obtain⟨σ',H',I',q⟩:=q;exact h2 pins s1 σ' H' D I' q
 |ret v=>exact q
 |brk=>exact q
 |cont=>exact q
theorem pss_one (h1:PS X st t):PSs X [st] t:=by
 intro pins s σ H D I h;refine wpAny_execs_cons (thn (h1 pins s σ H D I h) λf s1 q=>?_);cases f with
 |next=>exact fO q
 |ret v=>exact q
 |brk=>exact q
 |cont=>exact q
theorem Inv.quiet (I:Inv X pins σ H s):interactive X.env=false:=by simp[interactive,I.ok.kind]
def tDrop (te:TE):TS:=λD σ H=>te σ H λ_ H1=>D.nx σ H1
theorem ps_expr (he:PE X e te)(hs:swapsWith e none pos.line X.env=pure false:=by rfl):PS X (.Expr e pos) (tDrop te):=by intro pins s σ H D I h;exact wpAny_Expr_any (thn (he pins s σ H _ I h) λv s1 ⟨x,H1,I1,r1,q1⟩=>⟨σ,H1,I1,q1⟩) I.quiet hs
def tRet (te:TE):TS:=λD σ H=>te σ H D.rt
theorem ps_ret (he:PE X e te):PS X (.Return (some e) pos) (tRet te):=by intro pins s σ H D I h;exact wpAny_Return_some (thn (he pins s σ H _ I h) λv s1 ⟨x,H1,I1,r1,q1⟩=>⟨x,σ,H1,I1,r1,q1⟩)
def tIfS (c:TT)(t u:TS):TS:=λD σ H=>c σ H λb H1=>if b=true then t D σ H1 else u D σ H1
theorem ps_if (hc:PT X c tc)(ha:PSs X a t)(hb:PSs X b u):PS X (.If c a b pos) (tIfS tc t u):=by
 intro pins s σ H D I h;refine wpAny_If (thn (hc pins s σ H _ I h) λd s1 ⟨H1,I1,q1⟩=>?_);cases d with
 |true=>exact ha pins s1 σ H1 D I1 q1
 |false=>exact hb pins s1 σ H1 D I1 q1
def tNever:TS:=λ_ _ _=>False
theorem ps_never:PS X st tNever:=λ_ _ _ _ _ _ h=>h.elim
end
abbrev TG:=V->St->Hp->(St->Hp->Prop)->Prop
abbrev TGs:=List V->St->Hp->(St->Hp->Prop)->Prop
def PG (X:Cx)(target:Expr)(t:TG):Prop:=
 ∀(pins:List (Addr×Obj)) (s:Shared) (σ:St) (H:Hp) (v:V) (u:Value) (Q:St->Hp->Prop),Inv X pins σ H s->RelV v u->t v σ H Q ->
  wpAny (model X.prog X.w) X.A (assign target X.env u) (λ_ s'=>∃σ' H',Inv X pins σ' H' s'/\Q σ' H') X.xe s
def PGs (X:Cx)(ts:List Expr)(t:TGs):Prop:=
 ∀(pins:List (Addr×Obj)) (s:Shared) (σ:St) (H:Hp) (vs:List V) (us:List Value) (Q:St->Hp->Prop),Inv X pins σ H s->Vals vs us->t vs σ H Q ->
  wpAny (model X.prog X.w) X.A (assignInOrder ((assignEach ts X.env).map (·.2)) us) (λ_ s'=>∃σ' H',Inv X pins σ' H' s'/\Q σ' H') X.xe s
abbrev TSet:=V->V->V->Hp->(Hp->Prop)->Prop
def PSet (X:Cx)(t:TSet):Prop:=
 ∀(pins:List (Addr×Obj)) (s:Shared) (σ:St) (H:Hp) (o i v:V) (ov iv u:Value) (Q:Hp->Prop),Inv X pins σ H s->RelV o ov->RelV i iv->RelV v u->t o i v H Q ->
  wpAny (model X.prog X.w) X.A (setItem ov iv u) (λ_ s'=>∃H',Inv X pins σ H' s'/\Q H') X.xe s
abbrev TIp:=V->V->Hp->VK->Prop
def PIp (X:Cx)(op:Operator)(t:TIp):Prop:=
 ∀(pins:List (Addr×Obj)) (s:Shared) (σ:St) (H:Hp) (x y:V) (v u:Value) (Q:VK),Inv X pins σ H s->RelV x v->RelV y u->t x y H Q ->
  wpAny (model X.prog X.w) X.A (inplaceOp op v u) (EP X pins σ Q) X.xe s
section
variable {X:Cx}{pos:Pos}
def gName (i:Nat):TG:=λv σ H Q=>Q (σ.set i (some v)) H
theorem pg_name (hN:X.N.Nodup)(hi:X.N[i]?=some x)(hx:Loc X.env.scope x)(hf:X.fn x=true\/X.env.scope.names.lookup x=some .local:=by walk_at "w"):PG X (.Name x pos) (gName i):=by intro pins s σ H v u Q I r h;exact wpAny_assign_Name (store_ok I hN hi hx r (λs' I'=>⟨_,H,I',h⟩) hf)
def gNil:TGs:=λvs σ H Q=>vs=[]/\Q σ H
def gCons (t:TG)(u:TGs):TGs:=λvs σ H Q=>∃v r,vs=v::r/\t v σ H λσ' H'=>u r σ' H' Q
theorem pgs_nil:PGs X [] gNil:=by intro pins s σ H vs us Q I r h;obtain⟨e,h⟩:=h;subst e;cases r;exact assignInOrder_nil ⟨σ,H,I,h⟩
theorem pgs_cons (h1:PG X e t)(h2:PGs X es u)
  (hs:(assignEach (e::es) X.env).map (·.2)=assign e X.env::(assignEach es X.env).map (·.2):=by rfl):PGs X (e::es) (gCons t u):=by
 intro pins s σ H vs us Q I r h;obtain⟨v,vr,e1,h⟩:=h;subst e1;cases r with
 |cons r rr=>rw[hs];refine assignInOrder_cons (thn (h1 pins s σ H _ _ _ I r h) λ_ s1 ⟨σ1,H1,I1,q1⟩=>?_);exact h2 pins s1 σ1 H1 _ _ Q I1 rr q1
def gTup (K:Fg)(n:Nat)(t:TGs):TG:=λv σ H Q=>∃a xs,v=.ref a/\SqT K H a xs/\xs.length=n/\t xs σ H Q
theorem pg_tup (hc:X.calm=true)(h:PGs X es t)
  (hn:(assignEach es X.env).length=n:=by rfl) (hst:(assignEach es X.env).findIdx? (·.1)=none:=by rfl):PG X (.Tuple es k pos) (gTup X.K n t):=by
 intro pins s σ H v u Q I r hw;obtain⟨a,xs,e1,hq,hl,hw⟩:=hw;subst e1;cases r;obtain⟨its,rv,ht,hz⟩:=I.tuple hq;refine assign_Tuple_tuple (I.ok.hd hc) ht (by simp[hn,<- hl,rv.length]) hst λh' hx=>?_;have I1:Inv X pins σ H { s with heap:=h' }:=I.kept (t':=s.toks) λb o e=>hx b o (bn (aA e)) e;exact h pins _ σ H xs _ Q I1 (by simpa using rv) hw
def gSub (to ti:TE)(t:TSet):TG:=λv σ H Q=>to σ H λo H1=>ti σ H1 λi H2=>t o i v H2 λH3=>Q σ H3
theorem pg_sub (ho:PE X o to)(hi:PE X i ti)(hs:PSet X t)
  (ha:∀v,assign (.Subscript o i pos) X.env v=(do
   let ov <- holding [v] (eval o X.env)
   let iv <- holding [v,ov] (eval i X.env)
   standAt pos
   holding [v,ov,iv] (setItem ov iv v)
   release [v,ov,iv] []):=by intro _;rfl):PG X (.Subscript o i pos) (gSub to ti t):=by
 intro pins s σ H v u Q I r h;rw[ha];refine aG (fM (thn (ho pins s σ H _ I h) λov s1 ⟨x,H1,I1,r1,q1⟩=>?_));refine aG (fM (thn (hi pins s1 σ H1 _ I1 q1) λiv s2 ⟨y,H2,I2,r2,q2⟩=>?_));refine aG (wpAny_standAt (aG (fM (thn (hs pins s2 σ H2 x y v ov iv u _ I2 r1 r2 r q2) λ_ s3 ⟨H3,I3,q3⟩=>?_))));exact wpAny_release ⟨σ,H3,I3,q3⟩
def tAsg (te:TE)(g:TG):TS:=λD σ H=>te σ H λx H1=>g x σ H1 D.nx
theorem ps_asg (he:PE X e te)(hg:PG X tg g)(hs:swapsWithSole [tg] e pos.line X.env=pure false:=by rfl)(hw:swappedStores [tg] e X.env=pure none:=by rfl)
  (h1:(assignEach [tg] X.env).map (·.2)=[assign tg X.env]:=by rfl):PS X (.Assign [tg] e pos) (tAsg te g):=by
 intro pins s σ H D I h;refine wpAny_Assign_stores (thn (he pins s σ H _ I h) λv s1 ⟨x,H1,I1,r1,q1⟩=>?_) hs hw;rw[h1];exact thn (hg pins s1 σ H1 x v _ I1 r1 q1) λ_ s2 q=>q
theorem ps_set (hN:X.N.Nodup)(hi:X.N[i]?=some x)(hx:Loc X.env.scope x)(he:PE X e te)(hs:swapsWith e (some (.Name x pos')) pos.line X.env=pure false:=by rfl)(hf:X.fn x=true\/X.env.scope.names.lookup x=some .local:=by walk_at "w") :
  PS X (.Assign [.Name x pos'] e pos) (tAsg te (gName i)):=by
 intro pins s σ H D I h;refine wpAny_Assign_Name (thn (he pins s σ H _ I h) λv s1 ⟨y,H1,I1,r1,q1⟩=>?_) hs;exact store_ok I1 hN hi hx r1 (λs2 I2=>⟨_,H1,I2,q1⟩) hf
def tAug (i:Nat)(te:TE)(ti:TIp):TS:=λD σ H=>∃x,σ[i]?=some (some x)/\te σ H λy H1=>ti x y H1 λz H2=>D.nx (σ.set i (some z)) H2
theorem ps_aug (hN:X.N.Nodup)(hi:X.N[i]?=some x)(hx:Loc X.env.scope x)(he:PE X e te)(ho:PIp X op ti)(hf:X.fn x=true\/X.env.scope.names.lookup x=some .local:=by walk_at "w") :
  PS X (.AugAssign (.Name x pos') op e pos) (tAug i te ti):=by
 intro pins s σ H D I h;obtain⟨v,e1,h⟩:=h;obtain⟨m,hn,hl⟩:=I.loc;have vis:Vis X.env.scope x:=by rcases hx with k|k;exact .inl k;exact .inr (.inl k)
 obtain⟨u,r,l⟩:=hl i x v hi e1 vis;refine wpAny_AugAssign_Name ?_;have go:wpAny (model X.prog X.w) X.A (eval e X.env) (λw s₂=>wpAny (model X.prog X.w) X.A (inplaceOp op u w) (λr s₃=>wpAny (model X.prog X.w) X.A (storeName X.env x r) (λ_=>SP X pins D .next) X.xe s₃) X.xe s₂) X.xe s:=by refine thn (he pins s σ H _ I h) λw s1 ⟨y,H1,I1,r1,q1⟩=>?_;refine thn (ho pins s1 σ H1 v y u w _ I1 r r1 q1) λz s2 ⟨zv,H2,I2,r2,q2⟩=>?_;exact store_ok I2 hN hi hx r2 (λs3 I3=>⟨_,H2,I3,q2⟩) hf
 rcases l with⟨hk,hm⟩|⟨hk,c,hc,hcell⟩
 ·exact d8 I.ok.kind hk hn hm go
 ·rcases hk with hk|hk
  ·exact wpAny_loadName_cell I.ok.kind hk hc hcell go
  ·rcases hx with k|k
   ·have:X.env.scope.names.lookup x=some .free:=hk;rw[k]at this;cases this
   ·have:X.env.scope.names.lookup x=some .free:=hk;rw[k]at this;cases this
def tAugS (to ti te:TE)(tget:V->V->Hp->VK->Prop)(tip:TIp)(tset:TSet):TS:=λD σ H=>to σ H λo H1=>ti σ H1 λi H2=>tget o i H2 λx H3=>te σ H3 λy H4=>tip x y H4 λz H5=>tset o i z H5 λH6=>D.nx σ H6
def PGet (X:Cx)(t:V->V->Hp->VK->Prop):Prop:=
 ∀(pins:List (Addr×Obj)) (s:Shared) (σ:St) (H:Hp) (o i:V) (ov iv:Value) (Q:VK),Inv X pins σ H s->RelV o ov->RelV i iv->t o i H Q ->
  wpAny (model X.prog X.w) X.A (getItem ov iv) (EP X pins σ Q) X.xe s
theorem ps_augS (ho:PE X o to)(hi:PE X i ti)(hg:PGet X tget)(he:PE X e te)(hp:PIp X op tip)(hs:PSet X tset)
  (ha:∀ov iv new,augStore i ov iv new=(do holding [new,ov,iv] (setItem ov iv new);release [new,ov,iv] [];pure .next):=by intros;rfl):PS X (.AugAssign (.Subscript o i tpos) op e pos) (tAugS to ti te tget tip tset):=by
 intro pins s σ H D I h;refine wpAny_AugAssign_SubscriptAny (thn (ho pins s σ H _ I h) λov s1 ⟨x1,H1,I1,r1,q1⟩=>?_) ha;refine thn (hi pins s1 σ H1 _ I1 q1) λiv s2 ⟨x2,H2,I2,r2,q2⟩=>?_;refine thn (hg pins s2 σ H2 x1 x2 ov iv _ I2 r1 r2 q2) λold s3 ⟨x3,H3,I3,r3,q3⟩=>?_;refine thn (he pins s3 σ H3 _ I3 q3) λv s4 ⟨x4,H4,I4,r4,q4⟩=>?_;refine thn (hp pins s4 σ H4 x3 x4 old v _ I4 r3 r4 q4) λnew s5 ⟨x5,H5,I5,r5,q5⟩=>?_;exact thn (hs pins s5 σ H5 x1 x2 x5 ov iv new _ I5 r1 r2 r5 q5) λ_ s6 ⟨H6,I6,q6⟩=>⟨σ,H6,I6,q6⟩
end
section
variable {X:Cx}{pos:Pos}
def tWhile (c:TT)(tb:TS):TS:=λD σ H=>∃W:Nat->St->Hp->Prop,(∃m,W m σ H)/\∀m σ H,W m σ H ->
 c σ H λb H1=>if b=true then ∃N:St->Hp->Prop,(∀σ' H',N σ' H' -> ∃m',m'<m/\W m' σ' H')/\tb { D with nx:=N,ct:=N,bk:=D.nx } σ H1 else D.nx σ H1
theorem ps_while (hp:PassesOwn (model X.prog X.w) X.A X.env X.xe)(hc:PT X c tc)(hb:PSs X body tb):PS X (.While c body [] pos) (tWhile tc tb):=by
 intro pins s σ H D I h;obtain⟨W,⟨m0,w0⟩,turn⟩:=h;refine wpAny_While (codeAny_whileLoop (λn s'=>∃σ' H',Inv X pins σ' H' s'/\W n σ' H') ?_ m0 ⟨σ,H,I,w0⟩);rintro n s1 ⟨σ1,H1,I1,w1⟩;refine dk hp (thn (hc pins s1 σ1 H1 _ I1 (turn n σ1 H1 w1)) λb s2 ⟨H2,I2,q2⟩=>?_);cases b with
 |true=>
  obtain⟨N,hN,q2⟩:=q2;rw[af rfl];refine dk hp (thn (hb pins s2 σ1 H2 _ I2 q2) λf s3 q3=>?_);cases f with
  |next=>obtain⟨σ3,H3,I3,n3⟩:=q3;obtain⟨m',hm,w3⟩:=hN σ3 H3 n3;exact⟨m',hm,σ3,H3,I3,w3⟩
  |cont=>obtain⟨σ3,H3,I3,n3⟩:=q3;obtain⟨m',hm,w3⟩:=hN σ3 H3 n3;exact⟨m',hm,σ3,H3,I3,w3⟩
  |brk=>exact q3
  |ret v=>exact q3
 |false=>rw[ae aZ];exact fO ⟨σ1,H2,I2,q2⟩
end
structure It where
 go:Nat->Hp->Prop
 yld:Nat->Hp->V->Hp->Prop
 stop:Nat->Hp->Prop
def FpOk (X:Cx)(pins:List (Addr×Obj))(H:Hp)(b:Addr):Prop:=
 H b=none/\b≠X.env.locals/\b∉X.fs/\(b∈X.ex\/X.s₀.heap.objs.size<=b)/\(∀x c,X.env.cells.lookup x=some c->c≠b)/\∀p∈X.pn++pins,p.1≠b
theorem Inv.fpOk {X:Cx}{pins:List (Addr×Obj)}{σ:St}{H H':Hp}{s:Shared}{b:Addr}(I:Inv X pins σ H s)(hb:s.heap.objs.size<=b)(hn:H' b=none):FpOk X pins H' b:=by
 refine⟨hn,dM (aD I.lt hb),I.nofs hb,.inr (aH I.sz hb),λx c e z=>?_,λp hp z=>?_⟩
 ·obtain⟨v,q⟩:=I.cell x c e;exact absurd (aD q.lt (by rw[z];exact hb)) (cY _)
 ·exact absurd (aD (aA (I.pin p hp).1) (by rw[z];exact hb)) (cY _)
structure Turn (P:Program)(w:World)(K:Fg)(tg:Expr)(J:It)(fp:List Addr)(it:Addr)(tn:Nat->Heap->Prop):Prop where
 mem:it∈fp
 obj:∀i h,tn i h->∀b∈fp,∃o,h.get? b=some o/\∀v,o.data ≠ .cell v
 keep:∀i h h',tn i h->(∀b∈fp,∀o,h.get? b=some o->h'.get? b=some o)->tn i h'
 item:∀(X:Cx),X.prog=P->X.w=w->X.K=K->X.calm=true->∀(i:Nat) (pins:List (Addr×Obj)) (s:Shared) (σ:St) (H:Hp) (E:Value->Shared->Prop),Inv X pins σ H s->(∀b∈fp,FpOk X pins H b)->tn i s.heap->J.go i H ->
  wpAny (model P w) X.A (pyNext (.ref it)) (λr s1=>∃u,r=some u /\
   wpAny (model P w) X.A (letOwnedTupleGo tg (.ref it) u) (λ_ s2=>∃x H',Inv X pins σ H' s2/\RelV x u/\J.yld i H x H'/\tn (i+1) s2.heap/\∀b∈fp,H' b=none) E s1) E s
 done:∀(X:Cx),X.prog=P->X.w=w->X.K=K->X.calm=true->∀(i:Nat) (pins:List (Addr×Obj)) (s:Shared) (σ:St) (H:Hp) (E:Value->Shared->Prop),Inv X pins σ H s->(∀b∈fp,FpOk X pins H b)->tn i s.heap->J.stop i H ->
  wpAny (model P w) X.A (pyNext (.ref it)) (λr s1=>r=none/\Inv X pins σ H s1) E s
 self:∀(A:Around) (i:Nat) (s:Shared) (Q:Value->Shared->Prop) (E:Value->Shared->Prop),tn i s.heap->Q (.ref it) s->wpAny (model P w) A (pyIter (.ref it)) Q E s
abbrev TI:=St->Hp->(It->Hp->Prop)->Prop
def PIE (X:Cx)(pins:List (Addr×Obj))(σ:St)(tg:Expr)(R:It->Hp->Prop)(itv:Value)(s2:Shared):Prop:=
 ∃(it:Addr) (fp:List Addr) (tn:Nat->Heap->Prop) (J:It) (H':Hp),itv=.ref it/\Inv X pins σ H' s2/\Turn X.prog X.w X.K tg J fp it tn/\tn 0 s2.heap/\(∀b∈fp,FpOk X pins H' b)/\R J H'
def PI (X:Cx)(tg iter:Expr)(wi:TI):Prop:=
 ∀(pins:List (Addr×Obj)) (s:Shared) (σ:St) (H:Hp) (R:It->Hp->Prop),Inv X pins σ H s->wi σ H R ->
  wpAny (model X.prog X.w) X.A (eval iter X.env) (λv s1=>wpAny (model X.prog X.w) X.A (pyIter v) (PIE X pins σ tg R) X.xe s1) X.xe s
theorem go_of (ho:s.heap.get? it=some o)(hc:o.cls=.type n)(hd:o.data=.fields vs)
    (hn:["enumerate","zip","dict_itemiterator","dict_reverseitemiterator","odict_iterator","itertools.zip_longest","itertools.pairwise"].contains n=false) (hQ:Q () s):wpAny M A (letOwnedTupleGo tg (.ref it) u) Q E s:=by
  unfold letOwnedTupleGo;cases tg<;>first
    |exact bW hQ
    | (cases u <;> first
        |exact bW hQ
        | (refine aG (wpAny_load ho ?_)
           rw[hc,hd];show wpAny M A (if (["enumerate","zip","dict_itemiterator","dict_reverseitemiterator","odict_iterator","itertools.zip_longest","itertools.pairwise"].contains n && vs[0]? == some (rawInt _))=true then _ else _) Q E s;rw[ae (by intro h;rw[hn,Bool.false_and]at h;cases h)];exact bW hQ))
def Itl (K:Fg)(a:Addr):It:=
 ⟨λi H=>∃xs x,SqL K H a xs/\xs[i]?=some x,λi H x H'=>H'=H/\∀xs,SqL K H a xs->xs[i]?=some x,λi H=>∃xs,SqL K H a xs/\xs.length<=i⟩
def Itr (lo:Int)(n:Nat):It:=⟨λi _=>i<n,λi H x H'=>H'=H/\x=.int (lo+i),λi _=>n<=i⟩
theorem turn_list {P:Program}{w:World}{K:Fg}{tg:Expr}(a it:Addr):Turn P w K tg (Itl K a) [it] it (λi h=>h.IsListIter it a i) where
 mem:=by simp
 obj:=λi h st b hb=>by
  have e:b=it:=by simpa using hb
  subst e;obtain⟨o,e,c,d⟩:=st;exact⟨o,e,λv z=>by rw[d]at z;cases z⟩
 keep:=λi h h' st k=>st.at λo e=>k it (by simp) o e
 item:=by intro X hP hw hK hc i pins s σ H E I hf st hg;subst hP hw hK;obtain⟨xs,x,hq,hx⟩:=hg;obtain⟨its,rv,p,hz⟩:=I.list hq;obtain⟨u,hu,ru⟩:=rv.get hx;obtain⟨f0,f1,f2,f3,f4,f5⟩:=hf it (by simp);refine wpAny_pyNext_list_item st p.isList (x:=u) (by simpa using hu) λh' st' sb=>?_;have I1:Inv X pins σ H { s with heap:=h' }:=I.turned (t':=s.toks) (λb o hb e=>(sb.2 b hb).trans e) f0 f1 f3 f4 f5;obtain⟨o,e,c,d⟩:=id st';exact⟨u,rfl,go_of (s:={ s with heap:=h' }) e c d (by decide) ⟨x,H,I1,ru,⟨rfl,λys hy=>by rw[I.list_inj hy hq];exact hx⟩,st',λb hb=>(hf b hb).1⟩⟩
 done:=by intro X hP hw hK hc i pins s σ H E I hf st hg;subst hP hw hK;obtain⟨xs,hq,hx⟩:=hg;obtain⟨its,rv,p,hz⟩:=I.list hq;obtain⟨f0,f1,f2,f3,f4,f5⟩:=hf it (by simp);have hl:=rv.length;exact wpAny_pyNext_list_end (I.ok.hd hc) st p.isList (by simp;lia) λh' eb=>⟨rfl,I.turned (t':=s.toks) (λb o hb e=>eb b o hb e) f0 f1 f3 f4 f5⟩
 self:=λ_ _ _ _ _ st h=>wpAny_pyIter_listiter st h
theorem turn_range {P:Program}{w:World}{K:Fg}{tg:Expr}(it:Addr)(lo:Int)(n:Nat):Turn P w K tg (Itr lo n) [it] it (λi h=>IsRangeIter h it (lo+(i:Nat)*1) ((n:Int)-(i:Nat)) 1) where
 mem:=by simp
 obj:=λi h st b hb=>by
  have e:b=it:=by simpa using hb
  subst e;exact⟨_,st,λv z=>by
   have z':Data.fields _=Data.cell v:=z;cases z'⟩
 keep:=λi h h' st k=>k it (by simp) _ st
 item:=by intro X hP hw hK hc i pins s σ H E I hf st hg;subst hP hw hK;obtain⟨f0,f1,f2,f3,f4,f5⟩:=hf it (by simp);have W:=Walks.range (prog:=X.prog) (w:=X.w) (I.ok.hd hc) it lo 1 n;refine W.item i s _ _ hg st λv h' tk hv st' kk=>?_;obtain⟨t,rfl⟩:=hv;have I1:Inv X pins σ H { s with heap:=h',toks:=tk }:=I.turned (λb o hb e=>kk b o (by simpa using hb) e) f0 f1 f3 f4 f5;refine⟨_,rfl,go_of (s:={ s with heap:=h',toks:=tk }) (n:="range_iterator") st' rfl rfl (by decide) ⟨.int (lo+i),H,I1,⟨t,?_⟩,⟨rfl,rfl⟩,st',λb hb=>(hf b hb).1⟩⟩;rw[bO]
 done:=by intro X hP hw hK hc i pins s σ H E I hf st hg;subst hP hw hK;obtain⟨f0,f1,f2,f3,f4,f5⟩:=hf it (by simp);exact wpAny_pyNext_range_end (I.ok.hd hc) st (by have:n<=i:=hg;lia) λh' eb=>⟨rfl,I.turned (t':=s.toks) (λb o hb e=>eb b o hb e) f0 f1 f3 f4 f5⟩
 self:=λ_ _ _ _ _ st h=>wpAny_pyIter_rangeiter st h
section
variable {X:Cx}{tg:Expr}
def iList (K:Fg)(tl:TE):TI:=λσ H R=>tl σ H λx H1=>∃a,x=.ref a/\(∃xs,SqL K H1 a xs)/\R (Itl K a) H1
theorem pi_list {l:Expr}{tl:TE}(hl:PE X l tl):PI X tg l (iList X.K tl):=by
 intro pins s σ H R I h;refine thn (hl pins s σ H _ I h) λv s1 ⟨x,H1,I1,r1,q1⟩=>?_;obtain⟨a,e,⟨xs,hq⟩,q⟩:=q1;subst e;cases r1;obtain⟨its,rv,p,hz⟩:=I1.list hq;refine wpAny_pyIter_list p.isList ?_;refine⟨s1.heap.objs.size,[s1.heap.objs.size],_,_,H1,rfl,I1.kept (t':=s1.toks) λb o e=>az _ e,turn_list a _,⟨_,bc _ rfl,rfl,rfl⟩,λb hb=>?_,q⟩;have e:b=s1.heap.objs.size:=by simpa using hb
 subst e;exact I1.fpOk (ao _) (I1.hok.fresh (ao _))
theorem range_it {pins:List (Addr×Obj)}{σ:St}{H:Hp}{s:Shared}{R:It->Hp->Prop}{E:Value->Shared->Prop}{lo hi:Int}{t u v:Tok}{tk:Nat}(I:Inv X pins σ H s)(h1:-(2^62)<=lo)(h2:lo<2^62)(h3:-(2^62)<=hi)(h4:hi<2^62)
  (q:R (Itr lo (hi-lo).toNat) H):wpAny (model X.prog X.w) X.A (pyIter (.ref s.heap.objs.size)) (PIE X pins σ tg R) E { s with heap:=s.heap.push { cls:=.type "range",data:=.fields #[.int lo t,.int hi u,.int 1 v] },toks:=tk }:=by
 refine wpAny_pyIter_range (IsRange.new ..) (small_one h1 h2 h3 h4) ?_;have I1:Inv X pins σ H { s with heap:=s.heap.push { cls:=.type "range",data:=.fields #[.int lo t,.int hi u,.int 1 v] },toks:=tk }:=I.kept λb o e=>az _ e;refine⟨(s.heap.push { cls:=.type "range",data:=.fields #[.int lo t,.int hi u,.int 1 v] }).objs.size,[(s.heap.push { cls:=.type "range",data:=.fields #[.int lo t,.int hi u,.int 1 v] }).objs.size],_,_,H,rfl,
  I1.kept (t':=tk) λb o e=>az _ e,turn_range _ lo (hi-lo).toNat,?_,λb hb=>?_,q⟩
 ·have e1:lo+((0:Nat):Int)*1=lo:=by simp
  have e2:(((hi-lo).toNat:Nat):Int)-((0:Nat):Int)=Builtin.Range.rangeSize lo hi 1:=by rw[rangeSize_one];split<;>lia
  show IsRangeIter _ _ (lo+((0:Nat):Int)*1) ((((hi-lo).toNat:Nat):Int)-((0:Nat):Int)) 1;rw[e1,e2];exact bc _ rfl
 ·have e:b=(s.heap.push { cls:=.type "range",data:=.fields #[.int lo t,.int hi u,.int 1 v] }).objs.size:=by simpa using hb
  subst e;exact I1.fpOk (ao _) (I1.hok.fresh (ao _))
def iRng1 (ta:TA):TI:=λσ H R=>ta σ H λvs H1=>∃j:Int,vs=[.int j] /\ -(2^62)<=j/\j<2^62/\R (Itr 0 j.toNat) H1
def iRng2 (ta:TA):TI:=λσ H R=>ta σ H λvs H1=>∃i j:Int,vs=[.int i,.int j]/\(-(2^62)<=i/\i<2^62 /\ -(2^62)<=j/\j<2^62)/\R (Itr i (j-i).toNat) H1
theorem pi_range1 {a:Expr}{ta:TA}{p pos:Pos}(hg:Gl X "range")(hm:X.mg "range"=none)(ha:PA X [a] ta)(hs:starEach [a] X.env=[(false,eval a X.env)]:=by rfl):PI X tg (.Call (.Name "range" p) [a] [] pos) (iRng1 ta):=by
 intro pins s σ H R I h;refine Call_ (ld_blt I hg hm boot_range (ce (thn (ha pos pins s σ H _ I h) λus s1 ⟨vs,H1,I1,r1,q1⟩=>?_) hs rfl));obtain⟨j,e,q1,q2,q⟩:=q1;subst e;cases r1 with
 |cons r rr=>cases rr;obtain⟨t,rfl⟩:=r;exact call_range_1 (range_it I1 (by lia) (by lia) q1 q2 (by simpa using q))
theorem pi_range2 (hg:Gl X "range")(hm:X.mg "range"=none)(ha:PA X [a,b] ta)(hs:starEach [a,b] X.env=[(false,eval a X.env),(false,eval b X.env)]:=by rfl)(hs2:starEach [b] X.env=[(false,eval b X.env)]:=by rfl) :
  PI X tg (.Call (.Name "range" p) [a,b] [] pos) (iRng2 ta):=by
 intro pins s σ H R I h;refine Call_ (ld_blt I hg hm boot_range (ce (thn (ha pos pins s σ H _ I h) λus s1 ⟨vs,H1,I1,r1,q1⟩=>?_) (by rw[hs,hs2]) (by rw[hs2];rfl)));obtain⟨i,j,e,⟨q1,q2,q3,q4⟩,q⟩:=q1;subst e;cases r1 with
 |cons r rr=>
  cases rr with
  |cons r' rr=>cases rr;obtain⟨t,rfl⟩:=r;obtain⟨t',rfl⟩:=r';exact call_range_2 (range_it I1 q1 q2 q3 q4 q)
def tFor (wi:TI)(g:TG)(tb:TS):TS:=λD σ H=>wi σ H λJ H1=>∃W:Nat->Nat->St->Hp->Prop,(∃m,W 0 m σ H1)/\∀i m σ H,W i m σ H ->
 (J.stop i H/\D.nx σ H)\/(J.go i H/\∃N:St->Hp->Prop,(∀σ' H',N σ' H' -> ∃m',m'<m/\W (i+1) m' σ' H')/\∀x H',J.yld i H x H' -> g x σ H' λσ2 H2=>tb { D with nx:=N,ct:=N,bk:=D.nx } σ2 H2)
def pinsAt (fp:List Addr)(h:Heap):List (Addr×Obj):=fp.filterMap λb=>(h.get? b).map λo=>(b,o)
theorem mem_pinsAt (hb:b∈fp)(e:h.get? b=some o):(b,o)∈pinsAt fp h:=cC.mpr ⟨b,hb,by rw[e];rfl⟩
theorem of_pinsAt (hp:p∈pinsAt fp h):p.1∈fp/\h.get? p.1=some p.2:=by
 obtain⟨b,hb,e⟩:=cC.mp hp;cases q:h.get? b with
 |none=>rw[q]at e;cases e
 |some o=>rw[q]at e;have e':(b,o)=p:=aB e;subst e';exact⟨hb,q⟩
theorem Inv.pinned (I:Inv X pins σ H s)(hf:∀b∈fp,FpOk X pins H b)(ho:∀b∈fp,∃o,s.heap.get? b=some o/\∀v,o.data ≠ .cell v):Inv X (pins++pinsAt fp s.heap) σ H s:=
 I.pins_of λp hp=>(c8.mp hp).elim (λz=>I.pin p (aN _ z)) λz=>by obtain⟨hb,e⟩:=of_pinsAt z;obtain⟨f0,f1,f2,_⟩:=hf p.1 hb;obtain⟨o,e',d⟩:=ho p.1 hb;rw[e]at e';cases e';exact⟨e,f0,f1,f2,d⟩
theorem Inv.unpinned (I:Inv X (pins++pl) σ H s):Inv X pins σ H s:=I.pins_of λp hp=>I.pin p (aN _ (cI _ hp))
theorem ps_for (hp:PassesOwn (model X.prog X.w) X.A X.env X.xe)(hc:X.calm=true)(hi:PI X tg iter wi)(hg:PG X tg g)(hb:PSs X body tb)
  (hs:∀x,foldedSetIterable iter X.env x=pure x:=by intro _;rfl):PS X (.For tg iter body [] pos) (tFor wi g tb):=by
 intro pins s σ H D I h;refine wpAny_For (thn (hi pins s σ H _ I h) λv s1 h1=>thn h1 λitv s2 h2=>?_) hs;obtain⟨it,fp,tn,J,H2,e,I2,T,st2,f2,W,⟨m0,w0⟩,turn⟩:=h2;subst e;have stat:∀{H':Hp},(∀b∈fp,H' b=none)->∀b∈fp,FpOk X pins H' b:=λhn b hb=>⟨hn b hb,(f2 b hb).2⟩;refine codeAny_forLoop_any (λn s'=>∃i σ' H',Inv X pins σ' H' s'/\tn i s'.heap/\(∀b∈fp,H' b=none)/\W i n σ' H') ?_ m0 ⟨0,σ,H2,I2,st2,λb hb=>(f2 b hb).1,w0⟩;rintro n s3 ⟨i,σ3,H3,I3,st3,fr3,w3⟩;rcases turn i n σ3 H3 w3 with⟨stop,qn⟩|⟨go,N,hN,step⟩
 ·refine dk hp (thn (T.done X rfl rfl rfl hc i pins s3 σ3 H3 X.xe I3 (stat fr3) st3 stop) λr s4 ⟨hr,I4⟩=>?_);subst hr;exact fO ⟨σ3,H3,I4,qn⟩
 ·refine dk hp (thn (T.item X rfl rfl rfl hc i pins s3 σ3 H3 X.xe I3 (stat fr3) st3 go) λr s4 ⟨u,hr,h4⟩=>?_);subst hr;refine dk hp (thn h4 λ_ s5 ⟨x,H5,I5,r5,y5,st5,fr5⟩=>?_);have I5':=I5.pinned (stat fr5) (T.obj _ _ st5);refine dk hp (thn (hg _ s5 σ3 H5 x u _ I5' r5 (step x H5 y5)) λ_ s6 ⟨σ6,H6,I6,q6⟩=>?_);refine dk hp (thn (hb _ s6 σ6 H6 _ I6 q6) λf s7 q7=>?_);have again:∀{σ7:St} {H7:Hp},Inv X (pins++pinsAt fp s5.heap) σ7 H7 s7->N σ7 H7->∃m,m<n/\∃i σ' H',Inv X pins σ' H' s7/\tn i s7.heap/\(∀b∈fp,H' b=none)/\W i m σ' H':=λ{σ7 H7} I7 n7=>by obtain⟨m',hm,w7⟩:=hN σ7 H7 n7;refine⟨m',hm,i+1,σ7,H7,I7.unpinned,T.keep _ _ _ st5 λb hb o e=>(I7.pin (b,o) (aN _ (aN _ (mem_pinsAt hb e)))).1,λb hb=>?_,w7⟩;obtain⟨o,e,d⟩:=T.obj _ _ st5 b hb;exact(I7.pin (b,o) (aN _ (aN _ (mem_pinsAt hb e)))).2.1
  cases f with
  |next=>obtain⟨σ7,H7,I7,n7⟩:=q7;exact again I7 n7
  |cont=>obtain⟨σ7,H7,I7,n7⟩:=q7;exact again I7 n7
  |brk=>obtain⟨σ7,H7,I7,q7⟩:=q7;exact⟨σ7,H7,I7.unpinned,q7⟩
  |ret v=>obtain⟨x7,σ7,H7,I7,r7,q7⟩:=q7;exact⟨x7,σ7,H7,I7.unpinned,r7,q7⟩
end
theorem for_list {K:Fg}{a:Addr}{xs:List V}{g:TG}{tb:TS}{D:Ends}{σ:St}{H:Hp}(Pv:Nat->St->Hp->Prop)(h0:Pv 0 σ H)(hl:∀i σ H,i<=xs.length->Pv i σ H->SqL K H a xs)
  (hs:∀i x σ H,xs[i]?=some x->Pv i σ H->g x σ H λσ2 H2=>tb { D with nx:=Pv (i+1),ct:=Pv (i+1),bk:=D.nx } σ2 H2) (hd:∀σ H,Pv xs.length σ H->D.nx σ H) :
  ∃W:Nat->Nat->St->Hp->Prop,(∃m,W 0 m σ H)/\∀i m σ H,W i m σ H ->
   ((Itl K a).stop i H/\D.nx σ H)\/((Itl K a).go i H/\∃N:St->Hp->Prop,(∀σ' H',N σ' H' -> ∃m',m'<m/\W (i+1) m' σ' H')/\∀x H',(Itl K a).yld i H x H' -> g x σ H' λσ2 H2=>tb { D with nx:=N,ct:=N,bk:=D.nx } σ2 H2):=by
 refine⟨λi m σ H=>m=xs.length-i/\i<=xs.length/\Pv i σ H,⟨xs.length,by simp,be _,h0⟩,?_⟩;rintro i m σ H ⟨rfl,hi,p⟩;have q:=hl i σ H hi p;by_cases hlt:i<xs.length
 ·refine .inr ⟨⟨xs,xs[i],q,by simp[hlt]⟩,Pv (i+1),λσ' H' p'=>⟨xs.length-(i+1),by lia,rfl,hlt,p'⟩,λx H' y=>?_⟩;obtain⟨e,y⟩:=y;subst e;exact hs i x σ _ (y xs q) p
 ·have e:i=xs.length:=by lia
  subst e;exact .inl ⟨⟨xs,q,ao _⟩,hd σ H p⟩
theorem for_range {lo:Int}{n:Nat}{g:TG}{tb:TS}{D:Ends}{σ:St}{H:Hp}(Pv:Nat->St->Hp->Prop)(h0:Pv 0 σ H)
  (hs:∀i σ H,i<n->Pv i σ H->g (.int (lo+i)) σ H λσ2 H2=>tb { D with nx:=Pv (i+1),ct:=Pv (i+1),bk:=D.nx } σ2 H2) (hd:∀σ H,Pv n σ H->D.nx σ H) :
  ∃W:Nat->Nat->St->Hp->Prop,(∃m,W 0 m σ H)/\∀i m σ H,W i m σ H ->
   ((Itr lo n).stop i H/\D.nx σ H)\/((Itr lo n).go i H/\∃N:St->Hp->Prop,(∀σ' H',N σ' H' -> ∃m',m'<m/\W (i+1) m' σ' H')/\∀x H',(Itr lo n).yld i H x H' -> g x σ H' λσ2 H2=>tb { D with nx:=N,ct:=N,bk:=D.nx } σ2 H2):=by
 refine⟨λi m σ H=>m=n-i/\i<=n/\Pv i σ H,⟨n,by simp,be _,h0⟩,?_⟩;rintro i m σ H ⟨rfl,hi,p⟩;by_cases hlt:i<n
 ·refine .inr ⟨hlt,Pv (i+1),λσ' H' p'=>⟨n-(i+1),by lia,rfl,hlt,p'⟩,λx H' y=>?_⟩;obtain⟨e,y⟩:=y;subst e y;exact hs i σ _ hlt p
 ·have e:i=n:=by lia
  subst e;exact .inl ⟨ao _,hd σ H p⟩
theorem while_by (Pv:St->Hp->Prop)(μ:St->Hp->Nat)(h0:Pv σ H)
  (hs:∀σ H,Pv σ H->c σ H λb H1=>if b=true then tb { D with nx:=λσ' H'=>Pv σ' H'/\μ σ' H'<μ σ H,ct:=λσ' H'=>Pv σ' H'/\μ σ' H'<μ σ H,bk:=D.nx } σ H1 else D.nx σ H1)
  (mono:∀σ H Q Q',(∀b H1,Q b H1->Q' b H1)->c σ H Q->c σ H Q'):tWhile c tb D σ H:=by
 refine⟨λm σ H=>m=μ σ H/\Pv σ H,⟨_,rfl,h0⟩,?_⟩;rintro m σ H ⟨rfl,p⟩;refine mono σ H _ _ (λb H1 q=>?_) (hs σ H p);cases b with
 |true=>exact⟨_,λσ' H' ⟨p',l⟩=>⟨_,l,rfl,p'⟩,q⟩
 |false=>exact q
abbrev R2:=V->V->Hp->VK->Prop
def OpR (X:Cx)(f:Value->Value->Sem Value)(r:R2):Prop:=
 ∀(pins:List (Addr×Obj)) (s:Shared) (σ:St) (H:Hp) (x y:V) (v u:Value) (Q:VK),Inv X pins σ H s->RelV x v->RelV y u->r x y H Q ->
  wpAny (model X.prog X.w) X.A (f v u) (EP X pins σ Q) X.xe s
def UnR (X:Cx)(f:Value->Sem Value)(r:V->Hp->VK->Prop):Prop:=
 ∀(pins:List (Addr×Obj)) (s:Shared) (σ:St) (H:Hp) (x:V) (v:Value) (Q:VK),Inv X pins σ H s->RelV x v->r x H Q ->
  wpAny (model X.prog X.w) X.A (f v) (EP X pins σ Q) X.xe s
def CallR (X:Cx)(f:Value)(r:List V->Hp->VK->Prop):Prop:=
 ∀(pins:List (Addr×Obj)) (s:Shared) (σ:St) (H:Hp) (xs:List V) (us:List Value) (Q:VK),Inv X pins σ H s->Vals xs us->r xs H Q ->
  wpAny (model X.prog X.w) X.A (call f us) (EP X pins σ Q) X.xe s
def TruR (X:Cx)(r:V->Hp->(Bool->Hp->Prop)->Prop):Prop:=
 ∀(pins:List (Addr×Obj)) (s:Shared) (σ:St) (H:Hp) (x:V) (v:Value) (Q:Bool->Hp->Prop),Inv X pins σ H s->RelV x v->r x H Q ->
  wpAny (model X.prog X.w) X.A (truthy v) (TP X pins σ Q) X.xe s
def tOp (r:R2)(ta tb:TE):TE:=λσ H Q=>ta σ H λx H1=>tb σ H1 λy H2=>r x y H2 Q
def tUn (r:V->Hp->VK->Prop)(ta:TE):TE:=λσ H Q=>ta σ H λx H1=>r x H1 Q
def rI (C:Int->Int->Prop)(g:Int->Int->V):R2:=λx y H Q=>∃i j,x=.int i/\y=.int j/\C i j/\Q (g i j) H
def rI0 (g:Int->Int->V):R2:=λx y H Q=>∃i j,x=.int i/\y=.int j/\Q (g i j) H
def rU (g:Int->V):V->Hp->VK->Prop:=λx H Q=>∃i,x=.int i/\Q (g i) H
section
variable {X:Cx}{a b c:Expr}{ta tb tc:TE}{pos:Pos}
theorem binT (ha:PE X a ta)(hb:PE X b tb){pins:List (Addr×Obj)}{R:V->V->Hp->Prop}(I:Inv X pins σ H s)
  (h:ta σ H λx H1=>tb σ H1 λy H2=>R x y H2) {Q:Value->Shared->Prop} {f:Value->Value->Sem Value}
  (hf:∀v u s2 x y H2,Inv X pins σ H2 s2->RelV x v->RelV y u->R x y H2->wpAny (model X.prog X.w) X.A (f v u) Q X.xe s2) :
  wpAny (model X.prog X.w) X.A (eval a X.env) (λv s₁=>wpAny (model X.prog X.w) X.A (eval b X.env) (λu s₂=>wpAny (model X.prog X.w) X.A (f v u) Q X.xe s₂) X.xe s₁) X.xe s:=by
 refine thn (ha pins s σ H _ I h) λv s1 ⟨x,H1,I1,r1,q1⟩=>?_;refine thn (hb pins s1 σ H1 _ I1 q1) λu s2 ⟨y,H2,I2,r2,q2⟩=>?_;exact hf v u s2 x y H2 I2 r1 r2 q2
theorem pe_op {op:Operator}{r:R2}(ho:OpR X (binaryOp op) r)(ha:PE X a ta)(hb:PE X b tb):PE X (.BinOp a op b pos) (tOp r ta tb):=by intro pins s σ H Q I h;exact wpAny_BinOp (binT ha hb I h λv u s2 x y H2 I2 rx ry q=>ho pins s2 σ H2 x y v u Q I2 rx ry q)
theorem pe_un (ho:UnR X (unaryOp op) r)(ha:PE X a ta):PE X (.UnaryOp op a pos) (tUn r ta):=by intro pins s σ H Q I h;exact UnaryOp_ (thn (ha pins s σ H _ I h) λv s1 ⟨x,H1,I1,r1,q1⟩=>ho pins s1 σ H1 x v Q I1 r1 q1)
theorem opI {f:Value->Value->Sem Value}{C:Int->Int->Prop}{g:Int->Int->Int}
  (rule:∀(i j:Int) (t u:Tok) (s:Shared) (Q:Value->Shared->Prop) (E:Value->Shared->Prop),C i j->Q (.int (g i j) s.toks) { s with toks:=s.toks+1 }->wpAny (model X.prog X.w) X.A (f (.int i t) (.int j u)) Q E s) :
  OpR X f (rI C λi j=>.int (g i j)):=by
 intro pins s σ H x y v u Q I rx ry h;obtain⟨i,j,rfl,rfl,hc,q⟩:=h;obtain⟨t,rfl⟩:=rx;obtain⟨t',rfl⟩:=ry;exact rule i j t t' s _ _ hc ⟨.int (g i j),H,I.tok _,⟨_,rfl⟩,q⟩
theorem opI0 {f:Value->Value->Sem Value}{g:Int->Int->Int}
  (rule:∀(i j:Int) (t u:Tok) (s:Shared) (Q:Value->Shared->Prop) (E:Value->Shared->Prop),Q (.int (g i j) s.toks) { s with toks:=s.toks+1 }->wpAny (model X.prog X.w) X.A (f (.int i t) (.int j u)) Q E s) :
  OpR X f (rI0 λi j=>.int (g i j)):=by
 intro pins s σ H x y v u Q I rx ry h;obtain⟨i,j,rfl,rfl,q⟩:=h;obtain⟨t,rfl⟩:=rx;obtain⟨t',rfl⟩:=ry;exact rule i j t t' s _ _ ⟨.int (g i j),H,I.tok _,⟨_,rfl⟩,q⟩
theorem opB0 {f:Value->Value->Sem Value}{g:Int->Int->Bool}
  (rule:∀(i j:Int) (t u:Tok) (s:Shared) (Q:Value->Shared->Prop) (E:Value->Shared->Prop),Q (.bool (g i j)) s->wpAny (model X.prog X.w) X.A (f (.int i t) (.int j u)) Q E s) :
  OpR X f (rI0 λi j=>.bl (g i j)):=by
 intro pins s σ H x y v u Q I rx ry h;obtain⟨i,j,rfl,rfl,q⟩:=h;obtain⟨t,rfl⟩:=rx;obtain⟨t',rfl⟩:=ry;exact rule i j t t' s _ _ ⟨.bl (g i j),H,I,rfl,q⟩
def CDiv (i j:Int):Prop:=0<j/\j<1073741824
def CPow (i j:Int):Prop:=0<=j/\j<=1000000/\i.natAbs<2^64
def CMul (i j:Int):Prop:=(-(2^64)<i/\i<2^64)\/(-(2^64)<j/\j<2^64)
theorem op_add:OpR X (binaryOp .Add) (rI0 λi j=>.int (i+j)):=opI0 λ_ _ _ _ _ _ _ q=>add_int q
theorem op_sub:OpR X (binaryOp .Sub) (rI0 λi j=>.int (i-j)):=opI0 λ_ _ _ _ _ _ _ q=>sub_int q
theorem op_mod:OpR X (binaryOp .Mod) (rI (λ_ j=>0<j) λi j=>.int (i % j)):=opI λi j _ _ _ _ _ hc q=>by have h1:(0:Int)<j:=hc;exact mod_int' (by lia) (by rw[Int.fmod_eq_emod_of_nonneg i (by lia)];exact q)
theorem op_pow:OpR X (binaryOp .Pow) (rI CPow λi j=>.int (i^j.toNat)):=opI λ_ _ _ _ _ _ _ hc q=>pow_int_small hc.1 hc.2.1 hc.2.2 q
theorem iop_add:OpR X (inplaceOp .Add) (rI0 λi j=>.int (i+j)):=opI0 λ_ _ _ _ _ _ _ q=>iadd_int q
theorem iop_fdiv:OpR X (inplaceOp .FloorDiv) (rI CDiv λi j=>.int (i / j)):=opI λi j _ _ _ _ _ hc q=>by have h1:(0:Int)<j:=hc.1;have h2:j<1073741824:=hc.2;exact ifloordiv_int (by lia) (by rw[fX i (by lia)];exact q) (.inl (PyProof.noPylong_small (by lia)))
theorem unI {f:Value->Sem Value}{g:Int->Int}
  (rule:∀(i:Int) (t:Tok) (s:Shared) (Q:Value->Shared->Prop) (E:Value->Shared->Prop),Q (.int (g i) s.toks) { s with toks:=s.toks+1 }->wpAny (model X.prog X.w) X.A (f (.int i t)) Q E s) :
  UnR X f (rU λi=>.int (g i)):=by
 intro pins s σ H x v Q I rx h;obtain⟨i,rfl,q⟩:=h;obtain⟨t,rfl⟩:=rx;exact rule i t s _ _ ⟨.int (g i),H,I.tok _,⟨_,rfl⟩,q⟩
theorem un_neg:UnR X (unaryOp .USub) (rU λi=>.int (-i)):=unI λ_ _ _ _ _ q=>neg_int q
end
def scal:V->V->Bool
 | .non,.non=>true | .non,.int _=>true | .int _,.non=>true | .non,.bl _=>true | .bl _,.non=>true | .non,.str _=>true | .str _,.non=>true
 | .int _,.int _=>true | .bl _,.bl _=>true | .str _,.str _=>true | .byt _,.byt _=>true
 | .int _,.str _=>true | .str _,.int _=>true | .bl _,.str _=>true | .str _,.bl _=>true
 |_,_=>false
def rEq:R2:=λx y H Q=>scal x y=true/\Q (.bl (decide (x=y))) H
def rNe:R2:=λx y H Q=>scal x y=true/\Q (.bl (!decide (x=y))) H
theorem dec_int:decide (V.int i=V.int j)=(i == j):=by rw[fP];simp
theorem dec_bl:decide (V.bl i=V.bl j)=(i == j):=by rw[fP];simp
theorem dec_str:decide (V.str i=V.str j)=(i == j):=by rw[fP];simp
theorem dec_byt:decide (V.byt i=V.byt j)=(i.toList == j.toList):=by rw[fP];cases i;cases j;simp
section
variable {X:Cx}{a b c:Expr}{ta tb tc:TE}{pos:Pos}
theorem fin_bl (I:Inv X pins σ H s)(q:Q (.bl k) H)(e:k=k'):EP X pins σ Q (.bool k') s:=by subst e;exact⟨.bl k,H,I,rfl,q⟩
theorem op_eq:OpR X (compareOp .Eq) rEq:=by
 intro pins s σ H x y v u Q I rx ry h;obtain⟨hs,q⟩:=h;cases x with
 |non=>
  cases rx;cases y with
  |non=>cases ry;exact PySem.EqNone.eq_none_none (fin_bl I q (by simp))
  |bl j=>cases ry;exact PySem.EqNone.eq_none_bool (fin_bl I q (by simp))
  |int j=>obtain⟨t',rfl⟩:=ry;exact PySem.EqNone.eq_none_int (fin_bl I q (by simp))
  |str j=>obtain⟨t',rfl⟩:=ry;exact PySem.EqNone.eq_none_str (fin_bl I q (by simp))
  |_=>exact absurd (show false=true from hs) aZ
 |bl i=>
  cases rx;cases y with
  |non=>cases ry;exact PySem.EqNone.eq_bool_none (fin_bl I q (by simp))
  |bl j=>cases ry;exact eq_bool (fin_bl I q dec_bl)
  |str j=>obtain⟨t',rfl⟩:=ry;exact PySem.EqMixed.eq_bool_str (fin_bl I q (by simp))
  |_=>exact absurd (show false=true from hs) aZ
 |int i=>
  obtain⟨t,rfl⟩:=rx;cases y with
  |non=>cases ry;exact PySem.EqNone.eq_int_none (fin_bl I q (by simp))
  |int j=>obtain⟨t',rfl⟩:=ry;exact eq_int (fin_bl I q dec_int)
  |str j=>obtain⟨t',rfl⟩:=ry;exact PySem.EqMixed.eq_int_str (fin_bl I q (by simp))
  |_=>exact absurd (show false=true from hs) aZ
 |str i=>
  obtain⟨t,rfl⟩:=rx;cases y with
  |non=>cases ry;exact PySem.EqNone.eq_str_none (fin_bl I q (by simp))
  |bl j=>cases ry;exact PySem.EqMixed.eq_str_bool (fin_bl I q (by simp))
  |int j=>obtain⟨t',rfl⟩:=ry;exact PySem.EqMixed.eq_str_int (fin_bl I q (by simp))
  |str j=>obtain⟨t',rfl⟩:=ry;exact eq_str (fin_bl I q dec_str)
  |_=>exact absurd (show false=true from hs) aZ
 |byt i=>
  obtain⟨t,rfl⟩:=rx;cases y with
  |byt j=>obtain⟨t',rfl⟩:=ry;exact W.eq_bytes (fin_bl I q dec_byt)
  |_=>exact absurd (show false=true from hs) aZ
 |_=>cases y<;>exact absurd (show false=true from hs) aZ
theorem op_ne:OpR X (compareOp .NotEq) rNe:=by
 intro pins s σ H x y v u Q I rx ry h;obtain⟨hs,q⟩:=h;cases x with
 |non=>
  cases rx;cases y with
  |non=>cases ry;exact PySem.EqNone.ne_none_none (fin_bl I q (by simp))
  |bl j=>cases ry;exact PySem.EqNone.ne_none_bool (fin_bl I q (by simp))
  |int j=>obtain⟨t',rfl⟩:=ry;exact PySem.EqNone.ne_none_int (fin_bl I q (by simp))
  |str j=>obtain⟨t',rfl⟩:=ry;exact PySem.EqNone.ne_none_str (fin_bl I q (by simp))
  |_=>exact absurd (show false=true from hs) aZ
 |bl i=>
  cases rx;cases y with
  |non=>cases ry;exact PySem.EqNone.ne_bool_none (fin_bl I q (by simp))
  |bl j=>cases ry;exact ne_bool (fin_bl I q (congrArg not dec_bl))
  |str j=>obtain⟨t',rfl⟩:=ry;exact PySem.EqMixed.ne_bool_str (fin_bl I q (by simp))
  |_=>exact absurd (show false=true from hs) aZ
 |int i=>
  obtain⟨t,rfl⟩:=rx;cases y with
  |non=>cases ry;exact PySem.EqNone.ne_int_none (fin_bl I q (by simp))
  |int j=>obtain⟨t',rfl⟩:=ry;exact ne_int (fin_bl I q (congrArg not dec_int))
  |str j=>obtain⟨t',rfl⟩:=ry;exact PySem.EqMixed.ne_int_str (fin_bl I q (by simp))
  |_=>exact absurd (show false=true from hs) aZ
 |str i=>
  obtain⟨t,rfl⟩:=rx;cases y with
  |non=>cases ry;exact PySem.EqNone.ne_str_none (fin_bl I q (by simp))
  |bl j=>cases ry;exact PySem.EqMixed.ne_str_bool (fin_bl I q (by simp))
  |int j=>obtain⟨t',rfl⟩:=ry;exact PySem.EqMixed.ne_str_int (fin_bl I q (by simp))
  |str j=>obtain⟨t',rfl⟩:=ry;exact ne_str (fin_bl I q (congrArg not dec_str))
  |_=>exact absurd (show false=true from hs) aZ
 |byt i=>
  obtain⟨t,rfl⟩:=rx;cases y with
  |byt j=>obtain⟨t',rfl⟩:=ry;exact W.ne_bytes (fin_bl I q (congrArg not dec_byt))
  |_=>exact absurd (show false=true from hs) aZ
 |_=>cases y<;>exact absurd (show false=true from hs) aZ
theorem op_lt:OpR X (compareOp .Lt) (rI0 λi j=>.bl (decide (i<j))):=opB0 λ_ _ _ _ _ _ _ q=>lt_int q
theorem op_le:OpR X (compareOp .LtE) (rI0 λi j=>.bl (decide (i<=j))):=opB0 λ_ _ _ _ _ _ _ q=>le_int q
theorem op_gt:OpR X (compareOp .Gt) (rI0 λi j=>.bl (decide (j<i))):=opB0 λ_ _ _ _ _ _ _ q=>gt_int q
theorem op_ge:OpR X (compareOp .GtE) (rI0 λi j=>.bl (decide (j<=i))):=opB0 λ_ _ _ _ _ _ _ q=>ge_int q
theorem op_notN:OpR X (compareOp .IsNot) (λx y H Q=>y=.non/\Q (.bl (!decide (x=.non))) H):=by
 intro pins s σ H x y v u Q I rx ry h;obtain⟨rfl,q⟩:=h;cases ry;refine isnot_none_gen (fin_bl I q ?_);cases x<;>first
  |(cases rx;rfl)
  |(obtain⟨t,rfl⟩:=rx;rfl)
theorem nomark (b:Expr)(h:op ≠ .In:=by decide)(h2:op ≠ .NotIn:=by decide):behindInMarks op b=false:=by
 have e1:(op == CmpOp.In)=false:=by cases op<;>first|rfl|exact absurd rfl h
 have e2:(op == CmpOp.NotIn)=false:=by cases op<;>first|rfl|exact absurd rfl h2
 cases b<;>simp[behindInMarks,e1,e2]
theorem pe_cmpR {op:CmpOp}{r:R2}(ho:OpR X (compareOp op) r)(ha:PE X a ta)(hb:PE X b tb)(hm:behindInMarks op b=false):PE X (.Compare a [op] [b] pos) (tOp r ta tb):=by intro pins s σ H Q I h;exact wpAny_Compare1 (binT ha hb I h λv u s2 x y H2 I2 rx ry q=>ho pins s2 σ H2 x y v u Q I2 rx ry q) hm
def tTest (t:TE):TT:=λσ H Q=>t σ H λx H'=>∃k,x=.bl k/\Q k H'
theorem pt_cmpR (ho:OpR X (compareOp op) r)(ha:PE X a ta)(hb:PE X b tb)(hm:behindInMarks op b=false):PT X (.Compare a [op] [b] pos) (tTest (tOp r ta tb)):=by
 intro pins s σ H Q I h;refine wpAny_isTrue_Compare1 (thn (ha pins s σ H _ I h) λv s1 ⟨x,H1,I1,r1,q1⟩=>thn (hb pins s1 σ H1 _ I1 q1) λu s2 ⟨y,H2,I2,r2,q2⟩=>
  thn (ho pins s2 σ H2 x y v u _ I2 r1 r2 q2) λc s3 ⟨z,H3,I3,r3,k,e,q3⟩=>?_) hm
 subst e;cases r3;exact dR ⟨H3,I3,q3⟩
def TruV (K:Fg)(x:V)(H:Hp)(k:Bool):Prop:=
 match x with
 | .non=>k=false
 | .bl b=>k=b
 | .int i=>k=(i != 0)
 | .str y=>y.length<=sizeLine/\k=((y.length:Int) != 0)
 | .byt y=>y.size<=sizeLine/\k=((y.size:Int) != 0)
 | .ref p=>(∃xs,SqL K H p xs/\k = !xs.isEmpty)\/(∃xs,SqT K H p xs/\k = !xs.isEmpty)\/∃kvs,H p=some (.dK kvs)/\k = !kvs.isEmpty
 |_=>False
theorem isEmpty_kv {κ:Type}{kvs:List (κ×V)}{vs:List (κ×Value)}(r:KV kvs vs):(!vs.isEmpty) = !kvs.isEmpty:=by cases r<;>rfl
theorem isEmpty_of (r:Vals xs its):(!its.toArray.isEmpty) = !xs.isEmpty:=by cases r<;>simp
theorem line63:(sizeLine:Nat)<2^63:=by rw[dj];decide
theorem tru_ok:TruR X (λx H Q=>∃k,TruV X.K x H k/\Q k H):=by
 intro pins s σ H x v Q I rx h;obtain⟨k,e,q⟩:=h;have hl:=line63;have hs:sizeLine=16777216:=dj;cases x with
 |non=>cases rx;have e':k=false:=e;subst e';exact truthy_none ⟨H,I,q⟩
 |bl b=>cases rx;have e':k=b:=e;subst e';exact dR ⟨H,I,q⟩
 |int i=>obtain⟨t,rfl⟩:=rx;have e':k=(i != 0):=e;subst e';exact PySem.P.truthy_int ⟨H,I,q⟩
 |str y=>obtain⟨t,rfl⟩:=rx;obtain⟨hy,e'⟩:y.length<=sizeLine/\k=((y.length:Int) != 0):=e;subst e';exact PySem.P.truthy_str (by lia) ⟨H,I.tok _,q⟩
 |byt y=>obtain⟨t,rfl⟩:=rx;obtain⟨hy,e'⟩:y.size<=sizeLine/\k=((y.size:Int) != 0):=e;subst e';exact W.truthy_bytes (by lia) ⟨H,I.tok _,q⟩
 |ref p=>
  cases rx;have e':(∃xs,SqL X.K H p xs/\k = !xs.isEmpty)\/(∃xs,SqT X.K H p xs/\k = !xs.isEmpty)\/∃kvs,H p=some (.dK kvs)/\k = !kvs.isEmpty:=e;rcases e' with⟨xs,hx,e'⟩|⟨xs,hx,e'⟩|⟨kvs,hx,e'⟩
  ·subst e';obtain⟨its,r,pl,hz⟩:=I.list hx;have hlen:=r.length;exact wpAny_truthy_list pl.isList (by simp only[ay];lia) ⟨H,I.tok _,by rw[isEmpty_of r];exact q⟩
  ·subst e';obtain⟨its,r,pl,hz⟩:=I.tuple hx;have hlen:=r.length;exact truthy_tuple pl (by simp only[ay];lia) ⟨H,I.tok _,by rw[isEmpty_of r];exact q⟩
  ·subst e';obtain⟨hz,hS,vs,r,m⟩:kvs.length<=sizeLine/\(p == sysModules)=false/\∃vs,KV kvs vs/\s.heap.DictOf (mixKind X.prog X.w) p vs:=I.hok p _ hx;have hlen:kvs.length=vs.length:=Paired.length r;exact wpAny_truthy_dict hS m (by lia) ⟨H,I.tok _,by rw[isEmpty_kv r];exact q⟩
 |_=>exact(show False from e).elim
theorem pt_truth (ha:PE X a ta)(he:∀whole,isTrue a X.env whole=(do let v <- whole;standAt a.pos;holding [v] (truthy v))) :
  PT X a (λσ H Q=>ta σ H λx H'=>∃k,TruV X.K x H' k/\Q k H'):=by
 intro pins s σ H Q I h;exact isTrue_plain (thn (ha pins s σ H _ I h) λv s1 ⟨x,H1,I1,r1,q1⟩=>tru_ok pins s1 σ H1 x v Q I1 r1 q1) (he _)
theorem vals1 (r:Vals [x] us):∃u,us=[u]/\RelV x u:=by
 cases r with
 |cons r1 r2=>cases r2;exact⟨_,rfl,r1⟩
theorem vals2 (r:Vals [x,y] us):∃u w',us=[u,w']/\RelV x u/\RelV y w':=by
 cases r with
 |cons r1 r2=>
  cases r2 with
  |cons r3 r4=>cases r4;exact⟨_,_,rfl,r1,r3⟩
theorem call_int1:CallR X (.type "int") (λxs H Q=>(∃i,xs=[.int i]/\Q (.int i) H)\/∃k,xs=[.bl k]/\Q (.int (if k then 1 else 0)) H):=by
 intro pins s σ H xs us Q I r h;rcases h with⟨i,rfl,q⟩|⟨k,rfl,q⟩
 ·obtain⟨u,rfl,t,rfl⟩:=vals1 r;exact call_int_int ⟨.int i,H,I,⟨_,rfl⟩,q⟩
 ·obtain⟨u,rfl,r1⟩:=vals1 r;cases r1;exact call_int_bool ⟨.int (if k then 1 else 0),H,I.tok _,⟨_,rfl⟩,q⟩
end
structure ObjM (h:Heap)(x dx C:Addr)(mA:Mg):Prop where
 obj:h.get? x=some (W.instObj C dx)
 ns:h.Ns1 dx mA
 ne:dx≠x
theorem lookIn_ns {h:Heap}{dx:Addr}{mA:Mg}(n:h.Ns1 dx mA):∃od,h.get? dx=some od/\∀name,W.lookIn name od=some (mA name):=by
 obtain⟨o,es,ep,ho,hd,hk,_,hm⟩:=n;refine⟨o,ho,λname=>?_⟩;have e:=hm name;unfold nsFind findBy at e;rw[<- Array.find?_toList]at e;unfold W.lookIn;rw[hd];dsimp only;split
 ·rename_i y q;rw[q]at e;exact congrArg some e
 ·rename_i q;rw[q]at e;have a:es.toList.any (·.refKey)=false:=by rw[List.any_eq_false];intro y hy;obtain⟨z,t,hkey⟩:=hk y (Array.mem_toList_iff.mp hy);simp[DictEntry.refKey,hkey]
  have a':¬es.toList.any (·.refKey)=true:=by rw[a];exact aZ
  rw[ae a'];exact congrArg some e
theorem ObjM.look (I:ObjM h x dx C mA):∃od,W.InstAt h x (W.instObj C dx) C (some od)/\∀name,W.lookIn name od=some (mA name):=
 let ⟨od,ho,hl⟩:=lookIn_ns I.ns
 ⟨od,⟨I.obj,rfl,rfl,ho⟩,hl⟩
section
variable {prog:Program}{w:World}{A:Around}{E:Value->Shared->Prop}{s:Shared}{K:Fg}{x dx C f:Addr}{mA:Mg}{name:Str}{v:Value}
theorem get_map (X:K.In s.heap)(I:ObjM s.heap x dx C mA)(hg:W.plainGet K C name=true)(hh:W.hasDictIn K C=true)
  (ha:W.findIn K (.ref C) name=some none) (hv:mA name=some v) (hv':W.handedIn v=true) (h:Q v { s with toks:=s.toks+1 }) :
  wpAny (model prog w) A (getAttr (.ref x) name expr) Q E s:=by
 obtain⟨od,J,hl⟩:=I.look;exact W.get_value X J (fQ hg).1 (W.findObj_own hh ha rfl (by rw[hl,hv])) hv' h
theorem get_meth (X:K.In s.heap)(I:ObjM s.heap x dx C mA)(hg:W.plainGet K C name=true)
  (hf:W.findIn K (.ref C) name=some (some (.ref f))) (ht:W.isFn K (.ref f)=true) (hv:mA name=none) (h:Q (.ref f,[.ref x]) s) :
  wpAny (model prog w) A (getMethod (.ref x) name pl) Q E s:=by
 obtain⟨od,J,hl⟩:=I.look;exact W.method_fn X J (fQ hg).1 (fQ hg).2 hf (beq_iff_eq.mp ht) (by show(W.lookIn name od).map (·.isSome)=some false;rw[hl,hv];rfl) h
theorem set_map (X:K.In s.heap)(I:ObjM s.heap x dx C mA)
  (hs:W.findIn K (.ref C) "__setattr__"=some (some (.builtin "object.__setattr__"))) (hp:W.plainOver K C=true) (ht:W.takerIn K C name=some none) (hh:W.hasDictIn K C=true)
  (hw:PySem.Within mA ns) (hsz:ns.length<=sizeLine)
  (h:∀h',ObjM h' x dx C (λy=>if y=name then some v else mA y)->Heap.SameBut dx s.heap h' -> Q () { s with heap:=h',toks:=s.toks+2 }) :
  wpAny (model prog w) A (setAttr (.ref x) name v) Q E s:=by
 obtain⟨od,J,hl⟩:=I.look;refine W.set_plain X J hs (W.osa_open (s:={ s with toks:=s.toks+1 }) (r:=none) X J hp ht λb=>?_);obtain⟨cd,hc,hd'⟩:=W.any_some hh;have hx:s.heap.get? x=some ⟨.ref C,some dx,.plain,#[]⟩:=I.obj;refine aG (bW (aG (aG (wpAny_loadPart hx (aG (W.Looks.here (s:={ s with toks:=s.toks+1 }) (W.looks_clsIn X hc) ?_))))));rw[hd'];refine bW (a:=some dx) (aG (bW (aG ?_)));refine wpAny_nsSet1 (s:={ s with toks:=s.toks+1 }) I.ns λh' hn2 hs2=>?_;obtain⟨oD,esD,epD,hoD,hdD,hcD⟩:=hn2.count (PySem.Within.cons name v hw);refine aG (wpAny_lookBehind hoD (by rw[hdD];exact pastItsLine_dict (aH hcD (by rw[aR];lia))) ?_);exact bW (h _ ⟨(hs2.2 _ (ck I.ne)).trans I.obj,hn2,I.ne⟩ hs2)
theorem make_map (X:K.In s.heap)(hm:W.makesIn K C=true)
  (hi:W.findIn K (.ref C) "__init__"=some (some (.ref f))) (hf:W.typeIn K (.ref f)=some (.type "function"))
  (h:codeAny (model prog w) (A.under (.builtin "type.__call__" ⟨.ref C::vs,kw⟩)) (.call (.ref f) ⟨.ref (s.heap.objs.size+1)::vs,kw⟩) (W.InitBack (s.heap.objs.size+1) R)
   { s with heap:=(s.heap.push W.emptyDict).push (W.instObj C s.heap.objs.size) }) :
  codeAny (model prog w) A (.call (.ref C) ⟨vs,kw⟩) R s:=by
 obtain⟨hh,g,d,t,os⟩:=s;exact W.make_core (W.makes_of X hm) (W.looks_findIn X hi) (λself=>W.bind_fn X self hf) (.inl rfl) h
end
def putF (f:Str)(v:V):List (Str×V)->List (Str×V)
 |[]=>[(f,v)]
 |(g,x)::r=>if g=f then(g,v)::r else(g,x)::putF f v r
theorem lookup_putF (f g:Str)(v:V):∀fs:List (Str×V),(putF f v fs).lookup g=if g=f then some v else fs.lookup g
 |[]=>by
  show List.lookup g [(f,v)]=_;by_cases h:g=f
  ·have hb:(g == f)=true:=beq_iff_eq.mpr h;simp only[List.lookup,hb,af h]
  ·have hb:(g == f)=false:=beq_eq_false_iff_ne.mpr h;simp only[List.lookup,hb,ae h]
 |(k,x)::r=>by
  have ih:=lookup_putF f g v r;rw[show putF f v ((k,x)::r)=(if k=f then(k,v)::r else(k,x)::putF f v r) from rfl];by_cases hk:k=f
  ·rw[af hk];by_cases h:g=k
   ·have hb:(g == k)=true:=beq_iff_eq.mpr h;simp only[List.lookup,hb,af (h.trans hk)]
   ·have hb:(g == k)=false:=beq_eq_false_iff_ne.mpr h;simp only[List.lookup,hb,ae (λe:g=f=>h (e.trans hk.symm))]
  ·rw[ae hk];by_cases h:g=k
   ·have hb:(g == k)=true:=beq_iff_eq.mpr h;simp only[List.lookup,hb,ae (λe:g=f=>hk (h.symm.trans e))]
   ·have hb:(g == k)=false:=beq_eq_false_iff_ne.mpr h;simp only[List.lookup,hb];exact ih
theorem keys_putF (f:Str)(v:V):∀fs:List (Str×V),f∈(putF f v fs).map (·.1)/\∀g,g∈fs.map (·.1)->g∈(putF f v fs).map (·.1)
 |[]=>⟨by simp[putF],λg h=>by simp at h⟩
 |(k,x)::r=>by
  obtain⟨i1,i2⟩:=keys_putF f v r;rw[show putF f v ((k,x)::r)=(if k=f then(k,v)::r else(k,x)::putF f v r) from rfl];by_cases hk:k=f
  ·rw[af hk];subst hk;exact⟨by simp,λg h=>by simpa using h⟩
  ·rw[ae hk];refine⟨?_,λg h=>?_⟩
   ·rw[bK];exact ad _ i1
   ·rw[bK]at h ⊢;rcases aF.mp h with e|e
    ·exact aF.mpr (.inl e)
    ·exact ad _ (i2 g e)
theorem length_putF (f:Str)(v:V):∀fs:List (Str×V),(putF f v fs).length<=fs.length+1
 |[]=>by simp[putF]
 |(k,x)::r=>by
  have ih:=length_putF f v r;rw[show putF f v ((k,x)::r)=(if k=f then(k,v)::r else(k,x)::putF f v r) from rfl];by_cases hk:k=f
  ·rw[af hk,aR,aR];lia
  ·rw[ae hk,aR,aR];lia
theorem RelO.some_of (r:RelO (some v) o):∃u,o=some u/\RelV v u:=by
 cases o with
 |none=>exact(show False from r).elim
 |some u=>exact⟨u,rfl,r⟩
theorem RelO.none_of (r:RelO none o):o=none:=by
 cases o with
 |none=>rfl
 |some u=>exact(show False from r).elim
theorem handed_of (r:RelV v u):W.handedIn u=true:=by
 cases v with
 |non=>cases (show u=Value.none from r);rfl
 |bl b=>cases (show u=Value.bool b from r);rfl
 |int i=>obtain⟨t,e⟩:=(show ∃t,u=Value.int i t from r);cases e;rfl
 |str x=>obtain⟨t,e⟩:=(show ∃t,u=Value.str x t from r);cases e;rfl
 |byt b=>obtain⟨t,e⟩:=(show ∃t,u=Value.bytes b t from r);cases e;rfl
 |flt b=>obtain⟨t,e⟩:=(show ∃t,u=Value.float b t from r);cases e;rfl
 |ref a=>cases (show u=Value.ref a from r);rfl
 |ty n=>cases (show u=Value.type n from r);rfl
section
variable {P:Program}{w:World}{H H':Hp}{h h':Heap}{a C dx:Addr}{fs fs':List (Str×V)}
theorem ins_get (hok:HOk P w H h)(e:H a=some (.ins C dx fs)):∃mA,ObjM h a dx C mA/\(∀f,RelO (fs.lookup f) (mA f))/\PySem.Within mA (fs.map (·.1))/\fs.length<=1000/\H dx=some (.own a):=by obtain⟨d,z,ne,ob,mA,n,r,q⟩:=(show ObjOk P w H h a (.ins C dx fs) from hok a _ e);exact⟨mA,⟨ob,n,ne⟩,r,q,z,d⟩
end
structure Cls (K:Fg)(C:Addr):Prop where
 pg:W.plainGet K C Str.empty=true
 hd:W.hasDictIn K C=true
 po:W.plainOver K C=true
 sa:W.findIn K (.ref C) "__setattr__"=some (some (.builtin "object.__setattr__"))
theorem Cls.get {K:Fg}{C:Addr}(c:Cls K C)(f:Str):W.plainGet K C f=true:=c.pg
def NoAttr (K:Fg)(C:Addr)(f:Str):Prop:=W.findIn K (.ref C) f=some none
theorem NoAttr.taker {K:Fg}{C:Addr}{f:Str}(n:NoAttr K C f):W.takerIn K C f=some none:=by unfold W.takerIn;rw[show W.findIn K (.ref C) f=some none from n];rfl
structure Meth (K:Fg)(C:Addr)(m:Str)(f:Addr):Prop where
 at_:W.findIn K (.ref C) m=some (some (.ref f))
 fn:W.isFn K (.ref f)=true
 kp:W.keepIn K (.ref f)=true
section
variable {X:Cx}{pins:List (Addr×Obj)}{σ:St}{H:Hp}{s:Shared}{a C dx:Addr}{fs:List (Str×V)}{f:Str}{v:V}{A:Around}{E:Value->Shared->Prop}
theorem getattr_ok (I:Inv X pins σ H s)(e:H a=some (.ins C dx fs))(c:Cls X.K C)(n:NoAttr X.K C f)(l:fs.lookup f=some v)
  (h:∀u s',Inv X pins σ H s' -> RelV v u->Q u s'):wpAny (model X.prog X.w) A (getAttr (.ref a) f b) Q E s:=by
 obtain⟨mA,O,r,_,_,_⟩:=ins_get I.hok e;obtain⟨u,hu,ru⟩:=RelO.some_of (v:=v) (o:=mA f) (by rw[<- l];exact r f);exact get_map I.kIn O (c.get f) c.hd n hu (handed_of ru) (h u _ (I.tok _) ru)
theorem getmeth_ok (I:Inv X pins σ H s)(e:H a=some (.ins C dx fs))(c:Cls X.K C)(k:Meth X.K C m g)(l:fs.lookup m=none)
  (h:Q (.ref g,[.ref a]) s):wpAny (model X.prog X.w) A (getMethod (.ref a) m pl) Q E s:=by
 obtain⟨mA,O,r,_,_,_⟩:=ins_get I.hok e;have hn:mA m=none:=RelO.none_of (by rw[<- l];exact r m);exact get_meth I.kIn O (c.get m) k.at_ k.fn hn h
theorem setattr_ok (I:Inv X pins σ H s)(e:H a=some (.ins C dx fs))(c:Cls X.K C)(n:NoAttr X.K C f)(hl:fs.length<1000)(ry:RelV y u)
  (h:∀s',Inv X pins σ (upd H a (.ins C dx (putF f y fs))) s' -> Q () s'):wpAny (model X.prog X.w) A (setAttr (.ref a) f u) Q E s:=by
 obtain⟨mA,O,r,wi,_,ho⟩:=ins_get I.hok e;have hz:(fs.map (·.1)).length<=sizeLine:=by rw[aa,dj];lia
 refine set_map I.kIn O c.sa c.po n.taker c.hd wi hz λh' O' sb=>h _ ?_;have hd:∃o,h'.get? dx=some o:=let ⟨o,_,_,e',_⟩:=O'.ns;⟨o,e'⟩
 refine I.write (x:=a) (e:=dx) (by rw[e];exact tJ) (.inr ho) (λb q hb z=>(sb.2 b hb).trans z) hd ?_;refine⟨by rw[upd_ne O.ne];exact ho,?_,O.ne,O'.obj,_,O'.ns,λg=>?_,λg hg=>?_⟩
 ·have:=length_putF f y fs;lia
 ·show RelO ((putF f y fs).lookup g) (if g=f then some u else mA g);rw[lookup_putF];by_cases q:g=f
  ·rw[af q,af q];exact ry
  ·rw[ae q,ae q];exact r g
 ·by_cases q:g=f
  ·rw[q];exact(keys_putF f y fs).1
  ·refine(keys_putF f y fs).2 g (wi g λz=>hg ?_);show(if g=f then some u else mA g)=none;rw[ae q];exact z
theorem Inv.made (I:Inv X pins σ H s):Inv X pins σ (upd (upd H s.heap.objs.size (.own (s.heap.objs.size+1))) (s.heap.objs.size+1) (.ins C s.heap.objs.size []))
  { s with heap:=(s.heap.push W.emptyDict).push (W.instObj C s.heap.objs.size) }:=by
 have e1:(s.heap.push W.emptyDict).get? s.heap.objs.size=some W.emptyDict:=bc s.heap rfl;have e2:((s.heap.push W.emptyDict).push (W.instObj C s.heap.objs.size)).get? (s.heap.objs.size+1)=some (W.instObj C s.heap.objs.size):=by
  have:=bc (s.heap.push W.emptyDict) (o:=W.instObj C s.heap.objs.size) rfl
  rwa [Heap.size_push]at this
 have e3:(s.heap.push W.emptyDict).Ns s.heap.objs.size (λ_=>none):=⟨W.emptyDict,#[],_,e1,rfl,(λe he=>absurd he (by simp)),λ_=>rfl⟩;have I1:=I.laid (a:=s.heap.objs.size) (o:=.own (s.heap.objs.size+1)) (h':=s.heap.push W.emptyDict) (t':=s.toks) (λb u q=>az _ q) (ao _) ⟨_,e1⟩;refine I1.laid (a:=s.heap.objs.size+1) (o:=.ins C s.heap.objs.size []) (t':=s.toks) (λb u q=>az _ q) (iX (Heap.size_push _ _)) ?_;have ne:s.heap.objs.size≠s.heap.objs.size+1:=bn (dh _);refine⟨by rw[upd_ne ne,upd_same],be _,ne,e2,λ_=>none,(Heap.Ns1.of_empty e3).at λo q=>az _ q,λ_=>tJ,λy hy=>absurd rfl hy⟩
theorem attr_of (hb:attributeBase e f env (eval e env)=eval e env)
  (h:wpAny (model prog w) A (eval e env) (λo s₁=>wpAny (model prog w) A (getAttr o f true) Q E s₁) E s):wpAny (model prog w) A (eval (.Attribute e f pos) env) Q E s:=
 Attribute_any_ h (by rw[arm_eval_Attribute,hb])
end
def tFld (K:Fg)(ta:TE)(f:Str):TE:=λσ H Q=>ta σ H λx H1=>∃a C dx fs v,x=.ref a/\H1 a=some (.ins C dx fs)/\Cls K C/\NoAttr K C f/\fs.lookup f=some v/\Q v H1
def sFld (K:Fg)(ta tv:TE)(f:Str):TS:=λD σ H=>tv σ H λy H1=>ta σ H1 λx H2=>∃a C dx fs,x=.ref a/\H2 a=some (.ins C dx fs)/\Cls K C/\NoAttr K C f/\fs.length<1000 /\
 D.nx σ (upd H2 a (.ins C dx (putF f y fs)))
section
variable {X:Cx}{o e value:Expr}{f:Str}{pos pos' tpos:Pos}{ta tv:TE}
theorem pe_fld (he:PE X e ta)(hb:attributeBase e f X.env (eval e X.env)=eval e X.env):PE X (.Attribute e f pos) (tFld X.K ta f):=by intro pins s σ H Q I h;refine attr_of hb (thn (he pins s σ H _ I h) λu s1 ⟨x,H1,I1,rx,a,C,dx,fs,v,ex,ea,c,n,l,q⟩=>?_);subst ex;obtain rfl:u=Value.ref a:=rx;exact getattr_ok I1 ea c n l λu' s2 I2 ru=>⟨v,H1,I2,ru,q⟩
theorem ps_fld (ha:PE X o ta)(hv:PE X value tv)(hs:swapsWith value (some (.Attribute o f pos')) pos.line X.env=pure false):PS X (.Assign [.Attribute o f pos'] value pos) (sFld X.K ta tv f):=by intro pins s σ H D I h;refine plainObj_wpAny_Assign_Attribute (thn (hv pins s σ H _ I h) λu s1 ⟨y,H1,I1,ry,q⟩=>thn (ha pins s1 σ H1 _ I1 q) λov s2 ⟨x,H2,I2,rx,a,C,dx,fs,ex,ea,c,n,l,q2⟩=>?_) hs;subst ex;obtain rfl:ov=Value.ref a:=rx;exact setattr_ok I2 ea c n l ry λs3 I3=>⟨σ,_,I3,q2⟩
end
section
variable {X:Cx}{pins:List (Addr×Obj)}{σ:St}{H:Hp}{s:Shared}{A:Around}{E:Value->Shared->Prop}{Q:Value->Shared->Prop}{c:Value}{b:Bool}
inductive TyOf (K:Fg)(H:Hp):V->Value->Prop where
 |non:TyOf K H .non (.type "NoneType")
 |bl (x:Bool):TyOf K H (.bl x) (.type "bool")
 |int (i:Int):TyOf K H (.int i) (.type "int")
 |str (x:Str):TyOf K H (.str x) (.type "str")
 |flt (x:UInt64):TyOf K H (.flt x) (.type "float")
 |lst {a:Addr} {xs:List V} (e:H a=some (.lst xs)):TyOf K H (.ref a) (.type "list")
 |frz {a:Addr} {o:Obj} {xs:List V} (e:H a=some (.frz o (.lst xs))):TyOf K H (.ref a) (.type "list")
 |tup {a:Addr} {xs:List V} (e:H a=some (.tup xs)):TyOf K H (.ref a) (.type "tuple")
 |dK {a:Addr} {kvs:List (Key×V)} (e:H a=some (.dK kvs)):TyOf K H (.ref a) (.type "dict")
 |dT {a:Addr} {kvs:List (List Key×V)} (e:H a=some (.dT kvs)):TyOf K H (.ref a) (.type "dict")
 |ins {a C dx:Addr} {fs:List (Str×V)} (e:H a=some (.ins C dx fs)) (cl:Cls K C) (ha:W.findIn K (.ref C) "__class__"=some (some (.builtin "object.__class__")))
   (hn:W.specialIn K (.builtin "object.__class__") "__get__"=some (some (.builtin "getset_descriptor.__get__"))) (htk:W.takesIn K (.builtin "object.__class__")=some true)
   (hm:W.mroIn K C (.type "object")=some true):TyOf K H (.ref a) (.ref C)
theorem isinst_ok (I:Inv X pins σ H s)(rx:RelV x u)(ty:TyOf X.K H x t)(e:W.kitOne X.K t c=some b)(h:∀tk,Q (.bool b) { s with toks:=tk }) :
  wpAny (model X.prog X.w) A (call (.builtin "isinstance") [u,c]) Q E s:=by
 cases ty with
 |non=>cases (show u=Value.none from rx);exact cq W.kitx_none I.kIn tJ e (λz=>nomatch z) h
 |bl y=>cases (show u=Value.bool y from rx);exact cq W.kitx_bool I.kIn tJ e (λz=>nomatch z) h
 |int i=>obtain⟨t,q⟩:=(show ∃t,u=Value.int i t from rx);cases q;exact cq W.kitx_int I.kIn tJ e (λz=>nomatch z) h
 |str y=>obtain⟨t,q⟩:=(show ∃t,u=Value.str y t from rx);cases q;exact cq W.kitx_str I.kIn tJ e (λz=>nomatch z) h
 |flt y=>obtain⟨t,q⟩:=(show ∃t,u=Value.float y t from rx);cases q;exact cq W.kitx_float I.kIn tJ e (λz=>nomatch z) h
 |@lst a xs ea=>cases (show u=Value.ref a from rx);obtain⟨_,_,n,_,h1⟩:=(show ObjOk X.prog X.w H s.heap a (.lst xs) from I.hok a _ ea);exact cq W.kitx_list I.kIn ⟨_,h1,rfl⟩ e (λz=>nomatch z) h
 |@frz a ob xs ea=>cases (show u=Value.ref a from rx);obtain⟨_,_,_,n,_,h1⟩:=(show ObjOk X.prog X.w H s.heap a (.frz ob (.lst xs)) from I.hok a _ ea);exact cq W.kitx_list I.kIn ⟨_,h1,rfl⟩ e (λz=>nomatch z) h
 |@tup a xs ea=>cases (show u=Value.ref a from rx);obtain⟨_,_,_,p⟩:=(show ObjOk X.prog X.w H s.heap a (.tup xs) from I.hok a _ ea);obtain⟨o,h1,h2,_⟩:=p;exact cq W.kitx_tuple I.kIn ⟨o,h1,h2⟩ e (λz=>nomatch z) h
 |@dK a kvs ea=>cases (show u=Value.ref a from rx);obtain⟨_,_,vs,_,p⟩:=(show ObjOk X.prog X.w H s.heap a (.dK kvs) from I.hok a _ ea);obtain⟨o,es,ep,h1,h2,_⟩:=p;exact cq W.kitx_dict I.kIn ⟨o,h1,h2.1⟩ e (λz=>nomatch z) h
 |@dT a kvs ea=>cases (show u=Value.ref a from rx);obtain⟨_,_,xs,_,o,es,ep,h1,h2,_⟩:=(show ObjOk X.prog X.w H s.heap a (.dT kvs) from I.hok a _ ea);exact cq W.kitx_dict I.kIn ⟨o,h1,h2.1⟩ e (λz=>nomatch z) h
 |@ins a C dx fs ea cl ha hn htk hm=>cases (show u=Value.ref a from rx);obtain⟨mA,O,_⟩:=ins_get I.hok ea;obtain⟨od,J,_⟩:=O.look;exact cq (W.kitx_own (cl.get _) cl.hd ha hn htk hm) I.kIn J e (λz=>nomatch z) h
end
structure Room (k:Nat)(A:Around):Prop where
 hd:A.handled=none
 dp:A.depth+3*k+5<recursionLimit
 un:A.units+16*k+200<cLine
theorem Room.mono (r:Room k A)(h:j<=k):Room j A:=⟨r.hd,by have:=r.dp;lia,by have:=r.un;lia⟩
theorem Room.deeper (r:Room (k+1) A)(env:Env):Room k (A.deeper env):=
 ⟨r.hd,by have:=r.dp;show A.depth+1+3*k+5<_;lia,by have:=r.un;show A.units+3+16*k+200<_;lia⟩
theorem Room.in1 (r:Room (k+1) A):Room k A.in1:=
 ⟨r.hd,by have:=r.dp;show A.depth+3*k+5<_;lia,by have:=r.un;show A.units+1+16*k+200<_;lia⟩
theorem make_depth {A:Around}{C:Addr}{us:Lv}{kw:List (Str×Value)}:(A.under (.builtin "type.__call__" ⟨.ref C::us,kw⟩)).depth=A.depth+1:=by
 first|rfl|simp[Around.under,Code.weight,Code.isCreation,Code.isGuard,Code.isCaller,Code.frames,Code.isFrame,guardIds]
theorem make_units {A:Around}{C:Addr}{us:Lv}{kw:List (Str×Value)}:(A.under (.builtin "type.__call__" ⟨.ref C::us,kw⟩)).units=A.units+1:=by
 first|rfl|simp[Around.under,Code.cUnits,Code.frames,Code.isFrame]
theorem Room.make (r:Room (k+1) A)(C:Addr)(us:Lv)(kw:List (Str×Value)):Room k (A.under (.builtin "type.__call__" ⟨.ref C::us,kw⟩)):=
 ⟨r.hd,by have:=r.dp;rw[make_depth];lia,by have:=r.un;rw[make_units];lia⟩
theorem Room.depth (r:Room k A):A.depth<recursionLimit:=by have:=r.dp;lia
theorem Room.units (r:Room k A):A.units+64<cLine:=by have:=r.un;lia
def tNil:TA:=λ_ H Q=>Q [] H
def tCons (ta:TE)(tr:TA):TA:=λσ H Q=>ta σ H λx H1=>tr σ H1 λxs H2=>Q (x::xs) H2
section
variable {X:Cx}{e:Expr}{es:List Expr}{te:TE}{t:TA}{pos:Pos}
theorem pa_nil:PA X [] tNil:=λ_ _ _ _ H Q I h=>Calls.spliced_nil ⟨[],H,I,.nil,h⟩
theorem pa_cons (ha:PE X e te)(hr:PA X es t)(hs:starEach (e::es) X.env=(false,eval e X.env)::starEach es X.env:=by rfl):PA X (e::es) (tCons te t):=by intro pos pins s σ H Q I h;rw[hs];show wpAny _ _ (spliced ((false,eval e X.env)::backTo pos (starEach es X.env))) _ _ s;refine Calls.spliced_cons (thn (ha pins s σ H _ I h) λu s1 ⟨x,H1,I1,r1,q1⟩=>?_);exact thn (hr pos pins s1 σ H1 _ I1 q1) λus s2 ⟨xs,H2,I2,r2,q2⟩=>⟨x::xs,H2,I2,.cons r1 r2,q2⟩
def tTup (t:TA):TE:=λσ H Q=>t σ H λxs H1=>xs.length<=sizeLine/\∀p,H1 p=none->Q (.ref p) (upd H1 p (.tup xs))
def tLst (t:TA):TE:=λσ H Q=>t σ H λxs H1=>xs.length<=sizeLine/\∀p,H1 p=none->Q (.ref p) (upd H1 p (.lst xs))
theorem pe_tup (h:PA X es t):PE X (.Tuple es x1 pos) (tTup t):=by intro pins s σ H Q I hq;refine wpAny_Tuple_spliced (thn (h pos pins s σ H _ I hq) λus s1 ⟨xs,H1,I1,r,z,q⟩=>⟨by rw[<- r.length];exact z,?_⟩);have hf:H1 s1.heap.objs.size=none:=I1.hok.fresh (ao _);refine⟨.ref s1.heap.objs.size,upd H1 s1.heap.objs.size (.tup xs),I1.laid (t':=s1.toks) (λb u e=>az _ e) (ao _) ?_,rfl,q _ hf⟩;exact⟨z,us,r,⟨_,bc _ rfl,rfl,_,rfl⟩⟩
theorem pe_lst (h:PA X es t):PE X (.List es pos) (tLst t):=by intro pins s σ H Q I hq;refine wpAny_List_spliced (thn (h pos pins s σ H _ I hq) λus s1 ⟨xs,H1,I1,r,z,q⟩=>⟨by rw[<- r.length];exact z,?_⟩);have hf:H1 s1.heap.objs.size=none:=I1.hok.fresh (ao _);refine⟨.ref s1.heap.objs.size,upd H1 s1.heap.objs.size (.lst xs),I1.laid (t':=s1.toks) (λb u e=>az _ e) (ao _) ?_,rfl,q _ hf⟩;exact⟨z,us,0,r,bc _ rfl⟩
end
abbrev Sp:=List V->Hp->VK->XK->Prop
abbrev CXT:=List Env->Hp->Shared->XK->Value->Shared->Prop
structure Env0 (P:Program)(w:World)(K:Fg)(mg:Mg)(base:Heap)(A:Around)(outer:List Env)(s:Shared)(H:Hp):Prop where
 frames:A.frames=some outer
 mod:Mod K mg base
 bs:∀b o,base.get? b=some o->s.heap.get? b=some o/\H b=none
 bsz:base.objs.size<=s.heap.objs.size
 funs:s.heap.FunFrames base outer
 frf:Frf K H (frs outer)
 hok:HOk P w H s.heap
 bare:AllBare s.gens
def CE (outer:List Env)(P:Program)(w:World)(H:Hp)(s:Shared)(Q:VK)(u:Value)(s':Shared):Prop:=
 ∃v H',s'.os=s.os/\AllBare s'.gens/\Un (frs outer) [] H H' s.heap s'.heap/\HOk P w H' s'.heap/\RelV v u/\Q v H'
def CR (CX:CXT)(outer:List Env)(P:Program)(w:World)(H:Hp)(s:Shared)(Q:VK)(E:XK)(r:Result)(s':Shared):Prop:=
 match r with
 | .ok (.ret u)=>CE outer P w H s Q u s'
 | .ok _=>False
 | .error e=>CX outer H s E e s'
structure FnOk (P:Program)(w:World)(K:Fg)(mg:Mg)(base:Heap)(CX:CXT)(k:Nat)(f:Addr)(fd:FuncData)(ps:List Str)(sp:Sp):Prop where
 len:∀vs H Q E,sp vs H Q E->vs.length=ps.length
 run:∀(A:Around) (outer:List Env) (s:Shared) (H:Hp) (args:Args) (us:List Value) (vs:List V) (Q:VK) (E:XK),Room k A->Env0 P w K mg base A outer s H->BindsTo s fd args (ps.zip us)->Vals vs us->sp vs H Q E ->
  codeAny (model P w) A (.call (.ref f) args) (CR CX outer P w H s Q E) s
theorem FnOk.mono {P:Program}{w:World}{K:Fg}{mg:Mg}{base:Heap}{CX:CXT}{j k:Nat}{f:Addr}{fd:FuncData}{ps:Ls}{sp:Sp}(F:FnOk P w K mg base CX j f fd ps sp)(h:j<=k) :
  FnOk P w K mg base CX k f fd ps sp:=⟨F.len,λA outer s H args us vs Q E hr=>F.run A outer s H args us vs Q E (hr.mono h)⟩
theorem FnOk.imp {P:Program}{w:World}{K:Fg}{mg:Mg}{base:Heap}{CX:CXT}{k:Nat}{f:Addr}{fd:FuncData}{ps:Ls}{sp sp':Sp}(F:FnOk P w K mg base CX k f fd ps sp)
  (h:∀vs H Q E,sp' vs H Q E->sp vs H Q E):FnOk P w K mg base CX k f fd ps sp':=
 ⟨λvs H Q E q=>F.len vs H Q E (h _ _ _ _ q),λA outer s H args us vs Q E hr he hb hv hs=>F.run A outer s H args us vs Q E hr he hb hv (h _ _ _ _ hs)⟩
theorem Env0.make {P:Program}{w:World}{K:Fg}{mg:Mg}{base:Heap}{A:Around}{outer:List Env}{s:Shared}{H:Hp}(e:Env0 P w K mg base A outer s H)(C:Addr)(us:Lv)(kw:List (Str×Value)) :
  Env0 P w K mg base (A.under (.builtin "type.__call__" ⟨.ref C::us,kw⟩)) outer s H:=⟨by first|exact e.frames|(simpa [Around.under,Code.envs,Code.isFrame,pushEnvs] using e.frames),e.mod,e.bs,e.bsz,e.funs,e.frf,e.hok,e.bare⟩
theorem Env0.in1 {P:Program}{w:World}{K:Fg}{mg:Mg}{base:Heap}{A:Around}{outer:List Env}{s:Shared}{H:Hp}(e:Env0 P w K mg base A outer s H) :
  Env0 P w K mg base A.in1 outer s H:=⟨e.frames,e.mod,e.bs,e.bsz,e.funs,e.frf,e.hok,e.bare⟩
section
variable {X:Cx}{pins:List (Addr×Obj)}{σ:St}{H:Hp}{s s':Shared}
theorem Inv.env0 (I:Inv X pins σ H s):Env0 X.prog X.w X.K X.mg X.base X.A X.stack s H:=
 ⟨I.ok.frames,I.ok.mod,I.bs,aH I.ok.bsz I.sz,I.stack,⟨I.stkFree,λx h=>let ⟨ps,e⟩:=I.ok.frf.t x h;let ⟨more,e'⟩:=I.base.tbls x.2.1 _ e;⟨ps++more,e'⟩⟩,I.hok,I.bare⟩
theorem Inv.after (I:Inv X pins σ H s)(h:CE X.stack X.prog X.w H s Q u s'):EP X pins σ Q u s':=by obtain⟨v,H',os,bare,un,hok,r,q⟩:=h;obtain⟨hh,g,d,t,os'⟩:=s';obtain rfl:os'=s.os:=os;exact⟨v,H',I.call (h':=hh) (g':=g) (d':=d) (t':=t) (ch:=[]) un hok bare (λb z=>absurd z (by simp)),r,q⟩
end
def tCall (sp:Sp)(dvs:List V)(E:XK)(t:TA):TE:=λσ H Q=>t σ H λvs H1=>sp (vs++dvs) H1 Q E
def tMeth (C:Addr)(m:Str)(sp:Sp)(dvs:List V)(E:XK)(ta:TE)(t:TA):TE:=λσ H Q=>ta σ H λx H1=>∃a dx fs,x=.ref a/\H1 a=some (.ins C dx fs)/\fs.lookup m=none /\
 t σ H1 λvs H2=>sp (x::(vs++dvs)) H2 Q E
def tMake (C:Addr)(sp:Sp)(dvs:List V)(E:XK)(t:TA):TE:=λσ H Q=>t σ H λvs H1=>∀x dx,H1 x=none->H1 dx=none->dx≠x ->
 sp (.ref x::(vs++dvs)) (upd (upd H1 dx (.own x)) x (.ins C dx [])) (λv H2=>v=.non/\Q (.ref x) H2) E
def Binds (K:Fg)(fd:FuncData)(ps:List Str)(ds:List Value):Prop:=
 ∀(s:Shared) (us:List Value),K.In s.heap->(us++ds).length=ps.length->BindsTo s fd ⟨us,[]⟩ (ps.zip (us++ds))
theorem Binds.all {K:Fg}{fd:FuncData}{ps:Ls}(h:∀us:List Value,us.length=ps.length->bindArgs fd ⟨us,[]⟩=pure (ps.zip us)):Binds K fd ps []:=λs us _ hl=>by rw[a8]at hl ⊢;exact .of_eq (h us hl)
def Passes (CX:CXT)(X:Cx)(E:XK):Prop:=∀(pins:List (Addr×Obj)) (σ:St) (H:Hp) (s:Shared) (e:Value) (s':Shared),Inv X pins σ H s->CX X.stack H s E e s' -> X.xe e s'
section
variable {X:Cx}{CX:CXT}{k:Nat}{f C:Addr}{fd:FuncData}{ps:List Str}{sp:Sp}{dvs:List V}{ds:List Value}{E:XK}{x m:Str}{p pos apos:Pos}{e o:Expr}{es:List Expr}{ta:TE}{t:TA}
theorem run_fn (F:FnOk X.prog X.w X.K X.mg X.base CX k f fd ps sp)(hr:Room k X.A)(hb:Binds X.K fd ps ds)(hd:Vals dvs ds)(hx:Passes CX X E)
  (I:Inv X pins σ H s) (r:Vals vs us) (h:sp (vs++dvs) H Q E):wpAny (model X.prog X.w) X.A (call (.ref f) us) (EP X pins σ Q) X.xe s:=by
 have r2:Vals (vs++dvs) (us++ds):=r.append hd;have hl:(us++ds).length=ps.length:=by rw[<- r2.length];exact F.len _ _ _ _ h
 refine ig (f7 (F.run X.A X.stack s H ⟨us,[]⟩ (us++ds) (vs++dvs) Q E hr I.env0 (hb s us I.kIn hl) r2 h) λr s' hq=>?_);cases r with
 |error e=>exact hx pins σ H s e s' I hq
 |ok fl=>
  cases fl with
  |ret u=>exact I.after hq
  |next=>exact False.elim hq
  |brk=>exact False.elim hq
  |cont=>exact False.elim hq
theorem pe_call (F:FnOk X.prog X.w X.K X.mg X.base CX k f fd ps sp)(hr:Room k X.A)(hg:Gl X x)(hm:X.mg x=some (.ref f))(hk:W.keepIn X.K (.ref f)=true)(hb:Binds X.K fd ps ds)(hd:Vals dvs ds)(hx:Passes CX X E)
  (ha:PA X (e::es) t) (hdb:(x == ("__debug__":Str))=false:=by decide) (he:starEach (e::es) X.env=(false,eval e X.env)::starEach es X.env:=by rfl) (hpl:(backTo pos (starEach es X.env)).any (·.1)=false:=by rfl) :
  PE X (.Call (.Name x p) (e::es) [] pos) (tCall sp dvs E t):=by
 intro pins s σ H Q I h;refine cD (ld_glob I hg hm ?_ hdb);refine dF (h₀:=X.base) I.ok.mod.kin hk (thn (ha pos pins s σ H _ I h) λus s1 ⟨vs,H1,I1,r,q⟩=>⟨I1.kIn,?_⟩) he hpl;exact run_fn F hr hb hd hx I1 r q
theorem pe_meth (he:PE X o ta)(c:Cls X.K C)(hm:Meth X.K C m f)(F:FnOk X.prog X.w X.K X.mg X.base CX k f fd ps sp)(hr:Room k X.A)(hb:Binds X.K fd ps ds)(hd:Vals dvs ds)(hx:Passes CX X E)(ha:PA X (e::es) t)
  (hst:starEach (e::es) X.env=(false,eval e X.env)::starEach es X.env:=by rfl) (hpl:(backTo pos (starEach es X.env)).any (·.1)=false:=by rfl)
  (ht:eval (.Call (.Attribute o m apos) (e::es) [] pos) X.env=(do
   let ov <- eval o X.env
   standAt apos.atName
   let (f,first) <- holding [ov] (getMethod ov m pl)
   callWith pos f first (backTo pos (starEach (e::es) X.env)) (backToKw pos (keywordEach [] X.env))):=by rfl) :
  PE X (.Call (.Attribute o m apos) (e::es) [] pos) (tMeth C m sp dvs E ta t):=by
 intro pins s σ H Q I h;refine gZ (pl:=pl) (thn (he pins s σ H _ I h) λu s1 ⟨x,H1,I1,rx,a,dx,fs,ex,ea,l,q⟩=>?_) ht;subst ex;obtain rfl:u=Value.ref a:=rx;refine getmeth_ok I1 ea c hm l ?_;refine dF (first:=[.ref a]) (h₀:=X.base) I.ok.mod.kin hm.kp (thn (ha pos pins s1 σ H1 _ I1 q) λus s2 ⟨vs,H2,I2,r,q2⟩=>⟨I2.kIn,?_⟩) hst hpl
 exact run_fn (us:=.ref a::us) (vs:=.ref a::vs) F hr hb hd hx I2 (.cons rfl r) q2
structure Mk (K:Fg)(C f:Addr):Prop where
 makes:W.makesIn K C=true
 init:W.findIn K (.ref C) "__init__"=some (some (.ref f))
 fn:W.isFn K (.ref f)=true
 kp:W.keepIn K (.ref C)=true
theorem run_make (M:Mk X.K C f)(F:FnOk X.prog X.w X.K X.mg X.base CX k f fd ps sp)(hr:Room (k+1) X.A)(hb:Binds X.K fd ps ds)(hd:Vals dvs ds)
  (hx:Passes CX X E) (I:Inv X pins σ H s) (r:Vals vs us)
  (h:∀x dx,H x=none->H dx=none->dx≠x->sp (.ref x::(vs++dvs)) (upd (upd H dx (.own x)) x (.ins C dx [])) (λv H2=>v=.non/\Q (.ref x) H2) E) :
  wpAny (model X.prog X.w) X.A (call (.ref C) us) (EP X pins σ Q) X.xe s:=by
 have hq:=h (s.heap.objs.size+1) s.heap.objs.size (I.hok.fresh (iD _)) (I.hok.fresh (ao _)) (bn (dh _));have I2:=Inv.made (C:=C) I;have r2:Vals (V.ref (s.heap.objs.size+1)::(vs++dvs)) (Value.ref (s.heap.objs.size+1)::(us++ds)):=.cons rfl (r.append hd);have hl:(Value.ref (s.heap.objs.size+1)::us++ds).length=ps.length:=by have e:=r2.length;rw[F.len _ _ _ _ hq]at e;exact e.symm
 refine ig (make_map (f:=f) I.kIn M.makes M.init (beq_iff_eq.mp M.fn) (f7 (F.run _ X.stack _ _ ⟨Value.ref (s.heap.objs.size+1)::us,[]⟩ (Value.ref (s.heap.objs.size+1)::(us++ds)) _ _ E (hr.make C us [])
  (I2.env0.make C us []) (hb _ (Value.ref (s.heap.objs.size+1)::us) I2.kIn hl) r2 hq) λr s' hq'=>?_))
 cases r with
 |error e=>exact hx pins σ _ _ e s' I2 hq'
 |ok fl=>
  cases fl with
  |ret u=>obtain⟨v,H',I3,rv,ev,q3⟩:=I2.after hq';subst ev;exact⟨rv,⟨V.ref (s.heap.objs.size+1),H',I3,rfl,q3⟩⟩
  |next=>exact False.elim hq'
  |brk=>exact False.elim hq'
  |cont=>exact False.elim hq'
theorem pe_make (M:Mk X.K C f)(F:FnOk X.prog X.w X.K X.mg X.base CX k f fd ps sp)(hr:Room (k+1) X.A)(hg:Gl X x)(hm:X.mg x=some (.ref C))(hb:Binds X.K fd ps ds)(hd:Vals dvs ds)(hx:Passes CX X E)
  (ha:PA X (e::es) t) (hdb:(x == ("__debug__":Str))=false:=by decide) (he:starEach (e::es) X.env=(false,eval e X.env)::starEach es X.env:=by rfl) (hpl:(backTo pos (starEach es X.env)).any (·.1)=false:=by rfl) :
  PE X (.Call (.Name x p) (e::es) [] pos) (tMake C sp dvs E t):=by
 intro pins s σ H Q I h;refine cD (ld_glob I hg hm ?_ hdb);refine dF (h₀:=X.base) I.ok.mod.kin M.kp (thn (ha pos pins s σ H _ I h) λus s1 ⟨vs,H1,I1,r,q⟩=>⟨I1.kIn,?_⟩) he hpl;exact run_make M F hr hb hd hx I1 r q
end
structure FnScope (N P:List Str)(sc:Scope):Prop where
 kind:sc.kind=.function
 co:sc.isCoroutine=false
 gen:sc.isGenerator=false
 nd:N.Nodup
 pre:N.take P.length=P
 par:∀x∈P,sc.names.lookup x=some .local\/sc.names.lookup x=some .cell
 nofree:∀y∈sc.names,y.2 ≠ .free
theorem bindL_out {kindOf:Str->Option NameKind}:∀{binds:List (Str×Value)} {m:Mg},(∀v,(x,v)∉binds)->bindL kindOf binds m x=m x
 |[],_,_=>rfl
 |(n,v)::r,m,h=>by
  unfold bindL;rw[bindL_out λw hw=>h w (ad _ hw)];split
  ·have:x≠n:=by rintro rfl;exact h v ah
   simp[this]
  ·rfl
theorem bindC_out {kindOf:Str->Option NameKind}:∀{binds:List (Str×Value)} {m:Mg},(∀v,(x,v)∉binds)->bindC kindOf binds m x=m x
 |[],_,_=>rfl
 |(n,v)::r,m,h=>by
  unfold bindC;rw[bindC_out λw hw=>h w (ad _ hw)];split
  ·rfl
  ·have:x≠n:=by rintro rfl;exact h v ah
   simp[this]
theorem bindL_get {kindOf:Str->Option NameKind}:∀{P:Ls} {vs:Lv} {i:Nat} {m:Mg},P.Nodup->P[i]?=some x->vs[i]?=some v->kindOf x=some .local ->
  bindL kindOf (P.zip vs) m x=some v
 |[],_,_,_,_,h,_,_=>by simp at h
 |_::_,[],_,_,_,_,h,_=>by simp at h
 |p::P,w::vs,0,m,nd,h1,h2,hk=>by simp at h1 h2;subst h1;subst h2;show bindL kindOf ((p,w)::P.zip vs) m p=_;unfold bindL;rw[bindL_out λv hv=>(cS.mp nd).1 (da hv).1,af hk];simp
 |p::P,w::vs,i+1,m,nd,h1,h2,hk=>by show bindL kindOf ((p,w)::P.zip vs) m x=_;unfold bindL;exact bindL_get (i:=i) (cS.mp nd).2 (by simpa using h1) (by simpa using h2) hk
theorem bindC_get {kindOf:Str->Option NameKind}:∀{P:Ls} {vs:Lv} {i:Nat} {m:Mg},P.Nodup->P[i]?=some x->vs[i]?=some v->kindOf x≠some .local ->
  bindC kindOf (P.zip vs) m x=some v
 |[],_,_,_,_,h,_,_=>by simp at h
 |_::_,[],_,_,_,_,h,_=>by simp at h
 |p::P,w::vs,0,m,nd,h1,h2,hk=>by simp at h1 h2;subst h1;subst h2;show bindC kindOf ((p,w)::P.zip vs) m p=_;unfold bindC;rw[bindC_out λv hv=>(cS.mp nd).1 (da hv).1,ae hk];simp
 |p::P,w::vs,i+1,m,nd,h1,h2,hk=>by show bindC kindOf ((p,w)::P.zip vs) m x=_;unfold bindC;exact bindC_get (i:=i) (cS.mp nd).2 (by simpa using h1) (by simpa using h2) hk
def start (N:List Str)(vs:List V):St:=vs.map some++List.replicate (N.length-vs.length) none
def cxOf (CX:CXT)(P:Program)(w:World)(K:Fg)(mg:Mg)(base:Heap)(N:List Str)(qual:Str)(scope:Scope)(f:Addr)(cd:Value)(A:Around)(outer:List Env)(s:Shared)(H:Hp)(E:XK):Cx where
 prog:=P
 w:=w
 K:=K
 mg:=mg
 base:=base
 A:=A.deeper (envOfC qual scope s.heap.objs.size f cd)
 N:=N
 s₀:=s
 H₀:=H
 env:=envOfC qual scope s.heap.objs.size f cd
 outer:=outer
 stack:=envOfC qual scope s.heap.objs.size f cd::outer
 ex:=[]
 calm:=true
 fn:=λ_=>true
 pn:=[]
 xe:=λe s'=>wpAny (model P w) (A.deeper (envOfC qual scope s.heap.objs.size f cd)) (leaving (envOfC qual scope s.heap.objs.size f cd) e) (λ_ s''=>CX outer H s E e s'') (λe' s''=>CX outer H s E e' s'') s'
theorem cell_has {sc:Scope}{n:Nat}{x:Str}(h:sc.names.lookup x=some .cell):∃c,(cellsFrom n sc.names []).lookup x=some c:=by have q:=gX sc.names n [] (.inl h);exact cU.mp q
theorem inv_start {CX:CXT}{P:Program}{w:World}{K:Fg}{mg:Mg}{base:Heap}{N ps:Ls}{qual:Str}{scope:Scope}{f:Addr}{cd:Value}{A:Around}{outer:List Env}{s s1:Shared}{H:Hp}{E:XK}{us:Lv}{vs:List V}
  (S:FnScope N ps scope) (hd:A.handled=none) (e0:Env0 P w K mg base A outer s H) (hl:vs.length=ps.length) (r:Vals vs us)
  (x:InCallC s s.heap.objs.size (bindL (envOfC qual scope s.heap.objs.size f cd).kindOf (ps.zip us) λ_=>none) (cellsFrom (s.heap.objs.size+1) scope.names []) (bindC (envOfC qual scope s.heap.objs.size f cd).kindOf (ps.zip us) λ_=>none) s1) :
  Inv (cxOf CX P w K mg base N qual scope f cd A outer s H E) [] (start N vs) H s1:=by
 have hpl:ps.length<=N.length:=by have:=congrArg List.length S.pre;rw[aJ]at this;lia
 obtain⟨h1,tk,rfl,hk⟩:=x.done;have noA:∀b:Addr,b∉(cxOf CX P w K mg base N qual scope f cd A outer s H E).ex:=λb z=>absurd (show b∈([]:List Addr) from z) (by simp);refine⟨⟨e0.mod,S.kind,rfl,rfl,ao _,λy z c h1 h2=>?_,λy hy=>?_,λy c _ h=>?_,λ_=>hd,Around.frames_deeper e0.frames,.inr ⟨rfl,rfl⟩,λb z=>absurd z (noA b),e0.bs,e0.bsz,λb _ _=>noA b,λb z=>absurd z (noA b),e0.funs,e0.frf⟩,
  rfl,e0.bare,Un.kept hk,⟨_,x.toInCall.ns,λi y v h1 h2 h3=>?_⟩,λy c h=>⟨_,x.cell y c h⟩,e0.hok.fresh (ao _),λy c h=>?_,λp hp=>absurd (show p∈([]:List (Addr×Obj)) from hp) (by simp),e0.hok.kept hk,?_⟩
 ·exact name_of_addr x.apart (de h1) (de h2)
 ·have hy:scope.names.lookup y=some .cell\/scope.names.lookup y=some .free:=hy;rcases hy with hy|hy
  ·exact cell_has hy
  ·exact absurd rfl (S.nofree _ (de hy))
 ·exact bN (x.above y c (de h))
 ·have hi:i<vs.length:=by
   unfold start at h2;by_cases hi:i<vs.length
   ·exact hi
   ·rw[a7 (by simpa using hi)]at h2;rw[bX]at h2;split at h2<;>cases h2
  have ha:vs[i]?=some v:=by
   unfold start at h2;rw[aM (by simpa using hi),aw]at h2;cases e:vs[i]? with
   |none=>rw[e]at h2;cases h2
   |some a=>rw[e]at h2;cases h2;rfl
  obtain⟨u,hu,rv⟩:=r.get ha;have hp:ps[i]?=some y:=by rw[<- S.pre,dm (by lia)];exact h1
  have ndP:ps.Nodup:=by rw[<- S.pre];exact S.nd.sublist (List.take_sublist _ _)
  refine⟨u,rv,?_⟩;rcases S.par y (aW hp) with k|k
  ·exact .inl ⟨k,bindL_get ndP hp hu k⟩
  ·obtain⟨c,e⟩:=cell_has (n:=s.heap.objs.size+1) k;refine .inr ⟨.inl k,c,e,?_⟩;have q:=x.cell y c e;rw[bindC_get ndP hp hu (by show scope.names.lookup y≠_;rw[k];decide)]at q;exact q
 ·exact e0.hok.fresh (bN (x.above y c (de h)))
 ·unfold start;show _=N.length;rw[ai,aa,aL];lia
theorem fn_of {CX:CXT}{P:Program}{w:World}{K:Fg}{mg:Mg}{base:Heap}{k:Nat}{f:Addr}{name qual:Str}{params:Arguments}{body:List Stmt}{scope:Scope}{dV kV doc pm cdv ct oc:Value}{an od:Option Addr}
  {osl:Array (Option Value)} {N ps:List Str} {sp:Sp} (lk:K.lookup f=some ⟨oc,od,.func (W.fnOf name qual params body scope dV kV doc pm an cdv ct),osl⟩) (hcd:W.codeIn K cdv qual=true) (S:FnScope N ps scope)
  (len:∀vs H Q E,sp vs H Q E->vs.length=ps.length)
  (hbody:∀(A:Around) (outer:List Env) (s:Shared) (H:Hp) (vs:List V) (Q:VK) (E:XK),Room k (A.deeper (envOfC qual scope s.heap.objs.size f cdv))->sp vs H Q E ->
   ∃t,PSs (cxOf CX P w K mg base N qual scope f cdv A outer s H E) body t/\t { nx:=λ_ H'=>Q .non H',rt:=Q } (start N vs) H) :
  FnOk P w K mg base CX (k+1) f (W.fnOf name qual params body scope dV kV doc pm an cdv ct) ps sp:=by
 refine⟨len,λA outer s H args us vs Q E hr e0 hb r hsp=>?_⟩;have hl:=len _ _ _ _ hsp;have KX:K.In s.heap:=e0.mod.kin.keeps λb o e=>(e0.bs b o e).1;have lim:s.heap.NoLimit:=e0.mod.nolimit.keeps λb o e=>(e0.bs b o e).1;have hkind:∀y∈ps.zip us,scope.names.lookup y.1=some .local\/(scope.names.lookup y.1=some .cell/\((cellsFrom (s.heap.objs.size+1) scope.names []).lookup y.1).isSome=true):=λ⟨n,v⟩ hy=>by
  rcases S.par n (da hy).1 with q|q
  ·exact .inl q
  ·exact .inr ⟨q,gX _ _ _ (.inl q)⟩
 refine codeAny_call_function hr.depth (KX _ _ lk) rfl S.co S.gen rfl (W.codeRec_of KX hcd) (hb _ _ _ _ ?_);refine wpAny_newFunctionEnv_cells S.kind hkind λenv he s1 x=>?_;subst he;refine⟨lim.keeps x.toInCall.keep,codeAny_func ?_⟩;obtain⟨t,ht,hq⟩:=hbody A outer s H vs Q E (hr.deeper _) hsp;have I:Inv (cxOf CX P w K mg base N qual scope f cdv A outer s H E) [] (start N vs) H s1:=inv_start S hr.hd e0 hl r x;refine fN (ht [] s1 (start N vs) H _ I hq) (λfl s' hs=>?_) λe s' hs=>hs;have fin:∀{σ':St} {H':Hp} {v:V} {u:Value},Inv (cxOf CX P w K mg base N qual scope f cdv A outer s H E) [] σ' H' s' -> RelV v u->Q v H' -> CE outer P w H s Q u s':=
  λ{σ' H' v u} J rv q=>⟨v,H',J.os,J.bare,J.base,J.hok,rv,q⟩
 cases fl with
 |ret u=>obtain⟨v,σ',H',J,rv,q⟩:=hs;exact fin J rv q
 |next=>obtain⟨σ',H',J,q⟩:=hs;exact fin (v:=V.non) (u:=Value.none) J rfl q
 |brk=>obtain⟨_,_,_,q⟩:=hs;exact False.elim q
 |cont=>obtain⟨_,_,_,q⟩:=hs;exact False.elim q
section
variable {X:Cx}{x:Str}{p pos:Pos}{e:Expr}{es:List Expr}{t:TA}{id T:String}{r:List V->Hp->VK->Prop}
def tCB (r:List V->Hp->VK->Prop)(t:TA):TE:=λσ H Q=>t σ H λvs H1=>r vs H1 Q
theorem pe_callB (hc:CallR X (.builtin id) r)(hg:Gl X x)(hm:X.mg x=none)(hv:bootBuiltins x=some (.builtin id))(ha:PA X (e::es) t)(hn:x≠"__name__":=by decide)(hdb:(x == ("__debug__":Str))=false:=by decide)
  (he:starEach (e::es) X.env=(false,eval e X.env)::starEach es X.env:=by rfl) (hpl:(backTo pos (starEach es X.env)).any (·.1)=false:=by rfl):PE X (.Call (.Name x p) (e::es) [] pos) (tCB r t):=by
 intro pins s σ H Q I h;refine cD (ld_blt I hg hm hv ?_ hn hdb);exact PyProof.Rows.callWith_builtin1 (thn (ha pos pins s σ H _ I h) λus s1 ⟨vs,H1,I1,r1,q1⟩=>hc pins s1 σ H1 vs us Q I1 r1 q1) he hpl
theorem pe_callTy (hc:CallR X (.type T) r)(hg:Gl X x)(hm:X.mg x=none)(hv:bootBuiltins x=some (.type T))(ha:PA X (e::es) t)(hn:x≠"__name__":=by decide)(hdb:(x == ("__debug__":Str))=false:=by decide)
  (he:starEach (e::es) X.env=(false,eval e X.env)::starEach es X.env:=by rfl) (hpl:(backTo pos (starEach es X.env)).any (·.1)=false:=by rfl):PE X (.Call (.Name x p) (e::es) [] pos) (tCB r t):=by
 intro pins s σ H Q I h;refine cD (ld_blt I hg hm hv ?_ hn hdb);exact ce (thn (ha pos pins s σ H _ I h) λus s1 ⟨vs,H1,I1,r1,q1⟩=>hc pins s1 σ H1 vs us Q I1 r1 q1) he hpl
end
end L2
namespace HT
open PySem PyProof.Rows
section
variable {prog:Program}{w:World}{A:Around}{E:Value->Shared->Prop}{s:Shared}
def sIx (n d:Nat):Option Int->Nat
 |none=>d
 |some v=>if v<0 then(v+(n:Int)).toNat else min v.toNat n
theorem sIx_none (n d:Nat):sIx n d none=d:=rfl
theorem sIx_nat (n d k:Nat):sIx n d (some (k:Int))=min k n:=by show(if (k:Int)<0 then((k:Int)+(n:Int)).toNat else min (k:Int).toNat n)=min k n;rw[ae (by lia),aC]
end
end HT
namespace L2
open PySem PySem.Spec PyProof.Rows
abbrev TO:=St->Hp->(Option Int->Hp->Prop)->Prop
def PO (X:Cx)(e:Option Expr)(t:TO):Prop:=
 ∀(pins:List (Addr×Obj)) (s:Shared) (σ:St) (H:Hp) (Q:Option Int->Hp->Prop),Inv X pins σ H s->t σ H Q ->
  wpAny (model X.prog X.w) X.A (evalPart e X.env) (λu s'=>∃o H',Inv X pins σ H' s'/\IsPart u o/\Q o H') X.xe s
def tNoPart:TO:=λ_ H Q=>Q none H
def tPart (t:TE):TO:=λσ H Q=>t σ H λx H1=>∃i,x=.int i/\Q (some i) H1
section
variable {X:Cx}{e:Expr}{te:TE}{lo hi:Option Expr}{tl th:TO}{pos p2:Pos}
theorem po_none:PO X none tNoPart:=by intro pins s σ H Q I h;rw[evalPart_none];exact bW ⟨none,H,I,.none,h⟩
theorem po_some (h:PE X e te):PO X (some e) (tPart te):=by intro pins s σ H Q I hw;rw[evalPart_some];refine thn (h pins s σ H _ I hw) λu s1 ⟨x,H1,I1,r1,q1⟩=>?_;obtain⟨i,rfl,q⟩:=q1;obtain⟨t,rfl⟩:=r1;exact⟨some i,H1,I1,.int i t,q⟩
def SlR (X:Cx)(r:V->Option Int->Option Int->Hp->VK->Prop):Prop:=
 ∀(pins:List (Addr×Obj)) (s:Shared) (σ:St) (H:Hp) (x:V) (v vl vu:Value) (lo hi:Option Int) (sl:Addr) (Q:VK),Inv X pins σ H s->RelV x v->s.heap.IsSliceOf sl vl vu .none->IsPart vl lo->IsPart vu hi->r x lo hi H Q ->
  ∃T id,typeLookup (.type T) "__getitem__"=pure (some (.builtin id))/\s.TypeIs v T/\wpAny (model X.prog X.w) X.A (getItem v (.ref sl)) (EP X pins σ Q) X.xe s
def tSl (r:V->Option Int->Option Int->Hp->VK->Prop)(te:TE)(tl th:TO):TE:=λσ H Q=>te σ H λx H1=>tl σ H1 λl H2=>th σ H2 λu H3=>r x l u H3 Q
theorem pe_slice (hr:SlR X r)(he:PE X e te)(hl:PO X lo tl)(hu:PO X hi th):PE X (.Subscript e (.Slice lo hi none p2) pos) (tSl r te tl th):=by intro pins s σ H Q I h;refine Subscript_ (thn (he pins s σ H _ I h) λv s1 ⟨x,H1,I1,r1,q1⟩=>?_);refine wpAny_Slice (thn (hl pins s1 σ H1 _ I1 q1) λvl s2 ⟨l,H2,I2,pl,q2⟩=>thn (hu pins s2 σ H2 _ I2 q2) λvu s3 ⟨u,H3,I3,pu,q3⟩=>?_);rw[evalPart_none];refine bW ?_;have I4:Inv X pins σ H3 { s3 with heap:=s3.heap.push { cls:=.type "slice",data:=.fields #[vl,vu,.none] } }:=I3.kept (t':=s3.toks) λb ob q=>az _ q;obtain⟨T,id,hT,ht,hg⟩:=hr pins { s3 with heap:=s3.heap.push { cls:=.type "slice",data:=.fields #[vl,vu,.none] } } σ H3 x v vl vu l u s3.heap.objs.size Q I4 r1 (Heap.IsSliceOf.new ..) pl pu q3;show wpAny (model X.prog X.w) X.A (subscriptTail e (.Slice lo hi none p2) v (.ref s3.heap.objs.size)) (EP X pins σ Q) X.xe { s3 with heap:=s3.heap.push { cls:=.type "slice",data:=.fields #[vl,vu,.none] } };exact tail_any (ops:=[.ref s3.heap.objs.size,v]) ht hT hg (by with_unfolding_all rfl)
def cutV (xs:List V)(lo hi:Option Int):List V:=(xs.drop (HT.sIx xs.length 0 lo)).take (HT.sIx xs.length xs.length hi-HT.sIx xs.length 0 lo)
theorem cutV_length (xs:List V)(lo hi:Option Int):(cutV xs lo hi).length<=xs.length:=by unfold cutV;rw[aJ,bp];lia
end
def ixN (n:Nat)(i:Int):Option Nat:=if 0<=i then(if i<n then some i.toNat else none) else if -(n:Int)<=i then some (i+n).toNat else none
def atI {α:Type}(xs:List α)(i:Int):Option α:=(ixN xs.length i).bind λj=>xs[j]?
theorem ixN_seq (h:ixN n i=some j):seqIndex? i n=some j/\j<n /\ -(n:Int)<=i/\i<n:=by
 unfold ixN at h;by_cases h0:0<=i
 ·rw[af h0]at h;by_cases h1:i<n
  ·rw[af h1]at h;have e:i.toNat=j:=aB h;exact⟨by rw[iE h0 h1,e],by lia,by lia,h1⟩
  ·rw[ae h1]at h;cases h
 ·rw[ae h0]at h;by_cases h1:-(n:Int)<=i
  ·rw[af h1]at h;have e:(i+n).toNat=j:=aB h;exact⟨by rw[g5 (by lia) h1,e],by lia,h1,by lia⟩
  ·rw[ae h1]at h;cases h
theorem atI_get {α:Type}{xs:List α}{i:Int}{v:α}(h:atI xs i=some v):∃j,seqIndex? i xs.length=some j/\xs[j]?=some v/\j<xs.length /\ -(xs.length:Int)<=i/\i<xs.length:=by
 unfold atI at h;cases e:ixN xs.length i with
 |none=>rw[e]at h;cases h
 |some j=>rw[e]at h;obtain⟨h1,h2,h3,h4⟩:=ixN_seq e;exact⟨j,h1,h,h2,h3,h4⟩
theorem atI_nat {α:Type}{xs:List α}{j:Nat}{v:α}(h:xs[j]?=some v):atI xs (j:Int)=some v:=by
 have hj:j<xs.length:=(aj.mp h).1;have e:ixN xs.length (j:Int)=some j:=by unfold ixN;rw[af (by lia),af (by lia)];simp
 unfold atI;rw[e];exact h
def PlainIx (b:Expr):Prop:=∀o i,subscripted b false o i=operate [o,i] (getItem o i)
def IxR (X:Cx)(r:R2):Prop:=
 ∀(value slice:Expr) (pins:List (Addr×Obj)) (s:Shared) (σ:St) (H:Hp) (x y:V) (v u:Value) (Q:VK),Inv X pins σ H s->RelV x v->RelV y u->r x y H Q ->
  subscripted slice false v u=operate [v,u] (getItem v u)->wpAny (model X.prog X.w) X.A (subscriptTail value slice v u) (EP X pins σ Q) X.xe s
def MtR (X:Cx)(id:String)(r:V->List V->Hp->VK->Prop):Prop:=
 ∀(pins:List (Addr×Obj)) (s:Shared) (σ:St) (H:Hp) (x:V) (xs:List V) (v:Value) (us:List Value) (Q:VK),Inv X pins σ H s->RelV x v->Vals xs us->r x xs H Q ->
  wpAny (model X.prog X.w) X.A (call (.builtin id) (v::us)) (EP X pins σ Q) X.xe s
section
variable {X:Cx}{a b:Expr}{ta tb:TE}{pos:Pos}
theorem IxR.or (h:IxR X r)(h':IxR X r'):IxR X (λx y H Q=>r x y H Q\/r' x y H Q):=by
 intro value slice pins s σ H x y v u Q I rx ry q hs;rcases q with q|q
 ·exact h value slice pins s σ H x y v u Q I rx ry q hs
 ·exact h' value slice pins s σ H x y v u Q I rx ry q hs
theorem pe_ix (hr:IxR X r)(ha:PE X a ta)(hb:PE X b tb)(hs:PlainIx b):PE X (.Subscript a b pos) (tOp r ta tb):=by intro pins s σ H Q I h;exact Subscript_ (binT ha hb I h λv u s2 x y H2 I2 rx ry q=>hr a b pins s2 σ H2 x y v u Q I2 rx ry q (hs _ _))
def rIxL (K:Fg):R2:=λx y H Q=>∃p xs i v,x=.ref p/\y=.int i/\SqL K H p xs/\atI xs i=some v/\Q v H
def rIxT (K:Fg):R2:=λx y H Q=>∃p xs i v,x=.ref p/\y=.int i/\SqT K H p xs/\atI xs i=some v/\Q v H
def rIxS:R2:=λx y H Q=>∃z i c,x=.str z/\y=.int i/\z.length<=sizeLine/\atI z.cps.toList i=some c/\Q (.str ⟨#[c]⟩) H
theorem ix_list:IxR X (rIxL X.K):=by
 intro value slice pins s σ H x y v u Q I rx ry h hs;obtain⟨p,xs,i,z,rfl,rfl,hq,he,q⟩:=h;cases rx;obtain⟨t,rfl⟩:=ry;obtain⟨its,r,pl,hz⟩:=I.list hq;obtain⟨j,h1,h2,h3,h4,h5⟩:=atI_get he;obtain⟨w,ew,rw'⟩:=r.get h2;have hl:=r.length;have hn:=line63;have fin:EP X pins σ Q w s:=⟨z,H,I,rw',q⟩;by_cases h0:0<=i
 ·have hj:i.toNat=j:=by rw[iE h0 h5]at h1;exact aB h1
  exact item_listR pl.isList h0 (by lia) (by rw[hj];simpa using ew) fin hs
 ·have hj:(i+(its.toArray.size:Int)).toNat=j:=by rw[g5 (by lia) h4]at h1;rw[ay,<- hl];exact aB h1
  exact dD (x:=w) pl.isList.typeIs slot_list_getitem.lookup
   (wpAny_getItem_list_neg (Q:=λr s'=>r=w/\EP X pins σ Q r s') pl.isList (by lia) (by rw[ay]<;>lia) (by lia) (by rw[hj];simpa using ew) ⟨rfl,fin⟩) hs
theorem ix_tup:IxR X (rIxT X.K):=by
 intro value slice pins s σ H x y v u Q I rx ry h hs;obtain⟨p,xs,i,z,rfl,rfl,hq,he,q⟩:=h;cases rx;obtain⟨t,rfl⟩:=ry;obtain⟨its,r,pl,hz⟩:=I.tuple hq;obtain⟨j,h1,h2,h3,h4,h5⟩:=atI_get he;obtain⟨w,ew,rw'⟩:=r.get h2;have hl:=r.length;have hn:=line63;have fin:EP X pins σ Q w s:=⟨z,H,I,rw',q⟩;exact dD (x:=w) pl.typeIs slot_tuple_getitem.lookup
  (getItem_tuple (j:=j) (Q:=λr s'=>r=w/\EP X pins σ Q r s') pl (by lia) (by lia) (by rw[ay,<- hl];exact h1) (by simpa using ew) ⟨rfl,fin⟩) hs
theorem ix_str:IxR X rIxS:=by
 intro value slice pins s σ H x y v u Q I rx ry h hs;obtain⟨z,i,c,rfl,rfl,hz,he,q⟩:=h;obtain⟨t,rfl⟩:=rx;obtain⟨t',rfl⟩:=ry;obtain⟨j,h1,h2,h3,h4,h5⟩:=atI_get he;have hl:z.cps.toList.length=z.length:=by simp[Str.length]
 rw[hl]at h1 h4 h5;have hn:=line63;exact tail_any (typeIs_str s z t) slot_str_getitem.lookup (getItem_str (c:=c) (by
  have e1:decide (i < -(2^63:Int))=false:=aI (by lia);have e2:decide (i ≥ 2^63)=false:=aI (by lia);rw[e1,e2,Bool.or_false]) (by rw[h1];simpa using h2) ⟨.str ⟨#[c]⟩,H,I.tok _,⟨_,rfl⟩,q⟩) hs
def rIx (K:Fg):R2:=λx y H Q=>rIxL K x y H Q\/rIxT K x y H Q\/rIxS x y H Q
theorem ix_seq:IxR X (rIx X.K):=ix_list.or (ix_tup.or ix_str)
theorem mapSeq_set (its:Lv)(n j:Nat)(u:Value):Obj.mapSeq (·.setIfInBounds j u) { cls:=.type "list",data:=.seq its.toArray n }={ cls:=.type "list",data:=.seq (its.set j u).toArray n }:=by simp[Obj.mapSeq]
theorem Inv.lst (I:Inv X pins σ H s)(h:H p=some (.lst xs)) :
  ∃(its:List Value) (n:Nat),Vals xs its/\s.heap.get? p=some { cls:=.type "list",data:=.seq its.toArray n }/\xs.length<=sizeLine:=by
 obtain⟨z,its,n,r,e⟩:=I.hok p _ h;exact⟨its,n,r,e,z⟩
theorem Inv.lstUpd {pins:List (Addr×Obj)}{σ:St}{H:Hp}{s:Shared}{p:Addr}{xs ys:List V}{its its':Lv}{n n':Nat}{f:Obj->Obj}(I:Inv X pins σ H s)(h:H p=some (.lst xs))
  (ho:s.heap.get? p=some { cls:=.type "list",data:=.seq its.toArray n }) (hf:f { cls:=.type "list",data:=.seq its.toArray n }={ cls:=.type "list",data:=.seq its'.toArray n' }) (r:Vals ys its') (hz:ys.length<=sizeLine) (t:Nat) :
  Inv X pins σ (upd H p (.lst ys)) { s with heap:=s.heap.update p f,toks:=t }:=by
 have e:(s.heap.update p f).get? p=some { cls:=.type "list",data:=.seq its'.toArray n' }:=by rw[dN f ho (by rw[hf]<;>rfl),hf]
 refine I.write (x:=p) (e:=p) (by rw[h];trivial) (.inl rfl) (λb u hb q=>(bU _ _ (ck hb)).trans q) ⟨_,e⟩ ?_;exact⟨hz,its',n',r,e⟩
def rSetL:V->V->V->Hp->(Hp->Prop)->Prop:=λo i v H Q=>∃p xs k j,o=.ref p/\i=.int k/\H p=some (.lst xs)/\ixN xs.length k=some j/\Q (upd H p (.lst (xs.set j v)))
theorem set_list:PSet X rSetL:=by
 intro pins s σ H o i v ov iv u Q I ro ri rv h;obtain⟨p,xs,k,j,rfl,rfl,hp,hj,q⟩:=h;cases ro;obtain⟨t,rfl⟩:=ri;obtain⟨its,n,r,ho,hz⟩:=I.lst hp;obtain⟨h1,h2,h3,h4⟩:=ixN_seq hj;have hl:=r.length;have hn:=line63;have I':Inv X pins σ (upd H p (.lst (xs.set j v))) { s with heap:=s.heap.update p (Obj.mapSeq (·.setIfInBounds j u)) } :=
  I.lstUpd hp ho (mapSeq_set its n j u) (r.set rv j) (by rw[bR];exact hz) s.toks
 by_cases h0:0<=k
 ·have hk:k.toNat=j:=by rw[iE h0 h4]at h1;exact aB h1
  exact W.ki_setAt ho h0 (by lia) (by rw[ay,<- hl];exact h4) (by rw[hk];exact⟨_,I',q⟩)
 ·have hk:(k+(its.toArray.size:Int)).toNat=j:=by rw[g5 (by lia) h3]at h1;rw[ay,<- hl];exact aB h1
  exact W.ki_setBack ho (by lia) (by rw[ay,<- hl];exact h3) (by lia) (by rw[hk];exact⟨_,I',q⟩)
theorem slice_bounds (lo hi:Option Int)(n:Nat):(sliceBounds lo hi none n).1=((HT.sIx n 0 lo:Nat):Int)/\(sliceBounds lo hi none n).2.1=((HT.sIx n n hi:Nat):Int)/\(sliceBounds lo hi none n).2.2=1:=by
 refine⟨?_,?_,rfl⟩
 ·cases lo with
  |none=>simp[sliceBounds,HT.sIx]
  |some i=>
   simp only[sliceBounds,HT.sIx,Option.getD_none,show(1:Int) > 0 by decide,if_true];by_cases h:i<0
   ·simp only[h,if_true]<;>lia
   ·simp only[h,ja]<;>lia
 ·cases hi with
  |none=>simp[sliceBounds,HT.sIx]
  |some i=>
   simp only[sliceBounds,HT.sIx,Option.getD_none,show(1:Int) > 0 by decide,if_true];by_cases h:i<0
   ·simp only[h,if_true]<;>lia
   ·simp only[h,ja]<;>lia
theorem slicePick_cut (its:Lv)(lo hi:Option Int):slicePick its.toArray lo hi none=((its.drop (HT.sIx its.length 0 lo)).take (HT.sIx its.length its.length hi-HT.sIx its.length 0 lo)).toArray:=by obtain⟨h1,h2,h3⟩:=slice_bounds lo hi its.toArray.size;unfold slicePick;rw[h1,h2,h3];simp only[sliceRange_one,pick_run,ay]<;>rfl
def rSlL (K:Fg):V->Option Int->Option Int->Hp->VK->Prop:=λx lo hi H Q=>∃a xs,x=.ref a/\SqL K H a xs/\∀p,H p=none->Q (.ref p) (upd H p (.lst (cutV xs lo hi)))
theorem sl_list:SlR X (rSlL X.K):=by intro pins s σ H x v vl vu lo hi sl Q I rx hs pl pu h;obtain⟨a,xs,rfl,hx,q⟩:=h;cases rx;obtain⟨its,r,ht,hz⟩:=I.list hx;have hlen:=r.length;refine⟨"list",_,slot_list_getitem.lookup,ht.isList.typeIs,?_⟩;refine wpAny_getItem_list_slice ht.isList hs pl pu .none (by simp) ?_ (by rw[ay]<;>lia);rw[slicePick_cut,<- hlen];refine⟨.ref s.heap.objs.size,_,I.laid (t':=s.toks) (o:=.lst (cutV xs lo hi)) (λb ob q=>az _ q) (ao _) ?_,rfl,q _ (I.hok.fresh (ao _))⟩;exact⟨aH (cutV_length xs lo hi) hz,_,0,(r.drop (HT.sIx xs.length 0 lo)).take (HT.sIx xs.length xs.length hi-HT.sIx xs.length 0 lo),bc _ rfl⟩
theorem call_len_seq:CallR X (.builtin "len") (λxs H Q=>∃p ys,xs=[.ref p]/\(SqL X.K H p ys\/SqT X.K H p ys)/\Q (.int ys.length) H):=by
 intro pins s σ H xs us Q I r h;obtain⟨p,ys,rfl,hq,q⟩:=h;obtain⟨u,rfl,rx⟩:=vals1 r;cases rx;have hn:=line63;rcases hq with hq|hq
 ·obtain⟨its,r',pl,hz⟩:=I.list hq;have hlen:=r'.length;exact Calls.call_len_list pl.isList (by simp only[ay]<;>lia) ⟨.int ys.length,H,I.tok _,⟨s.toks+1,by rw[ay,hlen]⟩,q⟩
 ·obtain⟨its,r',pl,hz⟩:=I.tuple hq;have hlen:=r'.length;exact len_tuple pl (by simp only[ay]<;>lia) ⟨.int ys.length,H,I.tok _,⟨s.toks+1,by rw[ay,hlen]⟩,q⟩
theorem call_list_of:CallR X (.type "list") (λxs H Q=>∃p ys,xs=[.ref p]/\(SqL X.K H p ys\/SqT X.K H p ys)/\∀l,H l=none->Q (.ref l) (upd H l (.lst ys))):=by
 intro pins s σ H xs us Q I r h;obtain⟨p,ys,rfl,hq,q⟩:=h;obtain⟨u,rfl,rx⟩:=vals1 r;cases rx;have fin:∀(its:List Value),Vals ys its->ys.length<=sizeLine->∀(h':Heap) (c':Nat),(∀b o',s.heap.get? b=some o' -> h'.get? b=some o') ->
   h'.get? s.heap.objs.size=some { cls:=.type "list",dict:=none,data:=.seq its.toArray c',slots:=#[] }->EP X pins σ Q (.ref s.heap.objs.size) { s with heap:=h' }:=λits r' hz h' c' kp e=>
  ⟨.ref s.heap.objs.size,_,I.laid (t':=s.toks) kp (ao _) (show ObjOk X.prog X.w _ h' _ (.lst ys) from⟨hz,its,c',r',e⟩),rfl,q _ (I.hok.fresh (ao _))⟩
 rcases hq with hq|hq
 ·obtain⟨its,r',pl,hz⟩:=I.list hq;have hlen:=r'.length;obtain⟨o,ho,hc,n,hd⟩:=pl.isList;exact call_list_seq p (.inl rfl) ho hc hd (λh' c' kp e=>fin its r' hz h' c' kp e) (by simp only[ay]<;>lia)
 ·obtain⟨its,r',pl,hz⟩:=I.tuple hq;have hlen:=r'.length;obtain⟨o,ho,hc,n,hd⟩:=pl;exact call_list_seq p (.inr rfl) ho hc hd (λh' c' kp e=>fin its r' hz h' c' kp e) (by simp only[ay]<;>lia)
def tyV (K:Fg)(T:String)(x:V)(H:Hp):Prop:=match x with
 | .str _=>T="str"
 | .int _=>T="int"
 | .ref p=>(T="list"/\∃xs,SqL K H p xs)\/(T="tuple"/\∃o,K.lookup p=some o/\o.cls=.type "tuple"/\o.dict=none) \/
   (T="dict"/\((∃kvs,H p=some (.dK kvs))\/∃kvs,H p=some (.dT kvs)))\/(T="set"/\∃S n,H p=some (.set S n))
 |_=>False
theorem tyV_is (I:Inv X pins σ H s)(r:RelV x v)(ty:tyV X.K T x H) :
  s.TypeIs v T/\∀a,v=.ref a->∃ob,s.heap.get? a=some ob/\ob.dict=none:=by
 cases x with
 |str z=>obtain⟨t,rfl⟩:=r;cases (show T="str" from ty);exact⟨typeIs_str s z t,λ_ e=>nomatch e⟩
 |int i=>obtain⟨t,rfl⟩:=r;cases (show T="int" from ty);exact⟨typeIs_int s i t,λ_ e=>nomatch e⟩
 |ref p=>
  cases r;rcases ty with⟨rfl,xs,hq⟩|⟨rfl,o,hk,hc,hd⟩|⟨rfl,hk⟩|⟨rfl,S,n,hk⟩
  ·obtain⟨its,_,pl,_⟩:=I.list hq;refine⟨pl.isList.typeIs,λa e=>?_⟩;cases e;obtain⟨o,n,e,c,hd,_⟩:=pl;exact⟨o,e,hd⟩
  ·refine⟨⟨o,I.kIn p o hk,hc⟩,λa e=>?_⟩;cases e;exact⟨o,I.kIn _ o hk,hd⟩
  ·have z:∃o,s.heap.get? p=some o/\o.ExactDict:=by
    rcases hk with⟨kvs,hk⟩|⟨kvs,hk⟩
    ·obtain⟨_,_,_,_,o,_,_,e,ex,_⟩:=I.hok p _ hk;exact⟨o,e,ex⟩
    ·obtain⟨_,_,_,_,o,_,_,e,ex,_⟩:=I.hok p _ hk;exact⟨o,e,ex⟩
   obtain⟨o,e,ex⟩:=z;refine⟨⟨o,e,ex.1⟩,λa e2=>?_⟩;cases e2;exact⟨o,e,ex.2.1⟩
  ·obtain⟨o,_,_,_,e,ex,_⟩:=I.hok p _ hk;refine⟨⟨o,e,ex.1⟩,λa e2=>?_⟩;cases e2;exact⟨o,e,ex.2.1⟩
 |_=>exact False.elim ty
def tBM0 (K:Fg)(T:String)(r:V->List V->Hp->VK->Prop)(to:TE):TE:=λσ H Q=>to σ H λx H1=>tyV K T x H1/\r x [] H1 Q
def tBM (K:Fg)(T:String)(r:V->List V->Hp->VK->Prop)(to:TE)(t:TA):TE:=λσ H Q=>to σ H λx H1=>tyV K T x H1/\t σ H1 λxs H2=>r x xs H2 Q
variable {o e:Expr}{es:List Expr}{to:TE}{t:TA}{name:Str}{apos cpos:Pos}{T id:String}{r:V->List V->Hp->VK->Prop}
theorem pe_bm0 (pa:PlainAttrs T)(slot:Slot T name id)(hty:typeOf (.builtin id)=pure (.type "method_descriptor"))(hm:MtR X id r)(ho:PE X o to)
  (hbase:attributeBase o name X.env (eval o X.env)=eval o X.env:=by rfl) (hline:(apos.endLine == cpos.line)=true:=by rfl):PE X (.Call (.Attribute o name apos) [] [] cpos) (tBM0 X.K T r to):=by
 intro pins s σ H Q I h;refine wpAny_Call_method0_late hbase hline (thn (ho pins s σ H _ I h) λv s1 ⟨x,H1,I1,r1,ty,q1⟩=>?_);obtain⟨h1,h2⟩:=tyV_is I1 r1 ty;exact⟨T,id,pa,slot,hty,h1,h2,Calls.callWith_builtin rfl (PySem.evalArgs_none (hm pins s1 σ H1 x [] v [] Q I1 r1 .nil q1))⟩
theorem pe_bm (pa:PlainAttrs T)(slot:Slot T name id)(hty:typeOf (.builtin id)=pure (.type "method_descriptor"))(hm:MtR X id r)(ho:PE X o to)(ha:PA X (e::es) t)
  (hbase:attributeBase o name X.env (eval o X.env)=eval o X.env:=by rfl)
  (hfew:((backTo cpos (starEach (e::es) X.env)).all (λx=>!x.1) && (backToKw cpos (keywordEach [] X.env)).all (λx=>x.1.isSome)
   && decide ((e::es).length+([]:List Keyword).length+(if ([]:List Keyword).isEmpty then 0 else 1)<30))=true:=by rfl)
  (hline:(apos.endLine == cpos.line)=true:=by rfl) (hs:starEach (e::es) X.env=(false,eval e X.env)::starEach es X.env:=by rfl) (hplain:(backTo cpos (starEach es X.env)).any (·.1)=false:=by rfl) :
  PE X (.Call (.Attribute o name apos) (e::es) [] cpos) (tBM X.K T r to t):=by
 intro pins s σ H Q I h;refine wpAny_Call_method_late hbase hfew hline rfl (thn (ho pins s σ H _ I h) λv s1 ⟨x,H1,I1,r1,ty,q1⟩=>?_);obtain⟨h1,h2⟩:=tyV_is I1 r1 ty;refine⟨T,id,pa,slot,hty,h1,h2,?_⟩;have hA:=ha cpos pins s1 σ H1 _ I1 q1;rw[hs]at hA ⊢;refine Calls.callWith_builtin (by show(false || (backTo cpos (starEach es X.env)).any (·.1))=false;rw[hplain]<;>rfl) (Calls.evalArgs_plain ?_);exact thn hA λus s2 ⟨vs,H2,I2,r2,q2⟩=>hm pins s2 σ H2 x vs v us Q I2 r1 r2 q2
end
def MtM (X:Cx)(id:String)(r:V->List V->Hp->VK->Prop):Prop:=
 ∀(pins:List (Addr×Obj)) (s:Shared) (σ:St) (H:Hp) (x:V) (xs:List V) (v:Value) (us:List Value) (Q:VK),Inv X pins σ H s->RelV x v->Vals xs us->r x xs H Q ->
  wpAny (model X.prog X.w) X.A (call (.builtin id) (v::us)) (EP X pins σ Q) X.xe s
theorem Vals.one:∀{x:V} {us:Lv},Vals [x] us->∃u,us=[u]/\RelV x u
 |_,_,.cons r .nil=>⟨_,rfl,r⟩
theorem Vals.zero:∀{us:Lv},Vals [] us->us=[]
 |_,.nil=>rfl
theorem Vals.dropLast (h:Vals xs us):Vals xs.dropLast us.dropLast:=by
 induction h with
 |nil=>exact .nil
 |cons r t ih=>
  cases t with
  |nil=>exact .nil
  |cons q t'=>exact .cons r ih
theorem Vals.rep (h:Vals xs us):∀k:Nat,Vals (List.replicate k xs).flatten (List.replicate k us).flatten
 |0=>.nil
 |k+1=>by rw[df,df,bQ,bQ];exact Vals.append h (Vals.rep h k)
theorem erase_last {α:Type}(l:List α):l.eraseIdx (l.length-1)=l.dropLast:=by
 induction l with
 |nil=>rfl
 |cons a r ih=>
  cases r with
  |nil=>rfl
  |cons b r=>
   have e:(a::b::r).length-1=((b::r).length-1)+1:=by have h1:(a::b::r).length=r.length+2:=rfl;have h2:(b::r).length=r.length+1:=rfl;lia
   rw[e,List.eraseIdx_cons_succ,ih]
   all_goals rfl
theorem foldl_rep (its:Lv):∀(k:Nat) (acc:Lv),
  List.foldl (λx1 x2=>x1++x2) acc.toArray (List.replicate k its.toArray)=(acc++(List.replicate k its).flatten).toArray
 |0,acc=>by simp
 |k+1,acc=>by
  have e:acc.toArray++its.toArray=(acc++its).toArray:=by simp
  have e2:(acc++its)++(List.replicate k its).flatten=acc++(List.replicate (k+1) its).flatten:=by rw[df,bQ,c7]
  rw[<- e2,<- foldl_rep its k (acc++its),<- e,df,List.foldl_cons]
section
variable {X:Cx}{pins:List (Addr×Obj)}{σ:St}{H:Hp}{s:Shared}{l b:Addr}{xs ys zs:List V}
theorem Inv.lset {its its':Lv}{n:Nat}{f:Array Value->Array Value}{t':Nat}(I:Inv X pins σ H s)(hH:H l=some (.lst xs))
  (e:s.heap.get? l=some { cls:=.type "list",data:=.seq its.toArray n }) (hf:f its.toArray=its'.toArray) (hv:Vals ys its') (hz:ys.length<=sizeLine) :
  Inv X pins σ (upd H l (.lst ys)) { s with heap:=s.heap.update l (Obj.mapSeq f),toks:=t' }:=by
 have q:=PySem.IsL.update e f;rw[hf]at q;refine I.write (x:=l) (e:=l) (by rw[hH];exact trivial) (.inl rfl) (λb' u hb hu=>(bU s.heap (Obj.mapSeq f) (ck hb)).trans hu) ⟨_,q⟩ ?_;exact⟨hz,its',_,hv,q⟩
theorem Inv.lnew (I:Inv X pins σ H s)(hv:Vals ys its)(hz:ys.length<=sizeLine) :
  Inv X pins σ (upd H s.heap.objs.size (.lst ys)) { s with heap:=s.heap.push { cls:=.type "list",data:=.seq its.toArray },toks:=t' } :=
 I.laid (λ_ _ q=>az _ q) (ao _) ⟨hz,its,0,hv,bc _ rfl⟩
theorem Inv.fresh (I:Inv X pins σ H s):H s.heap.objs.size=none:=I.hok.fresh (ao _)
theorem Inv.lstM (I:Inv X pins σ H s)(hH:H l=some (.lst xs)):xs.length<=sizeLine/\∃(its:Lv) (n:Nat),Vals xs its/\xs.length=its.length/\s.heap.get? l=some { cls:=.type "list",data:=.seq its.toArray n }:=by obtain⟨z,its,n,r,e⟩:=I.hok l _ hH;exact⟨z,its,n,r,r.length,e⟩
theorem notLongL (h:n<=sizeLine):Builtin.List.listTooLong n=false:=by unfold Builtin.List.listTooLong;exact aI (by lia)
end
section
variable {X:Cx}
def rAppend:V->List V->Hp->VK->Prop:=λx vs H Q=>∃l xs y,x=.ref l/\vs=[y]/\H l=some (.lst xs)/\xs.length<sizeLine/\Q .non (upd H l (.lst (xs++[y])))
theorem mt_append:MtM X "list.append" rAppend:=by intro pins s σ H x vs v us Q I rx rv h;obtain⟨l,xs,y,rfl,rfl,hH,hz,q⟩:=h;cases rx;obtain⟨u,rfl,ru⟩:=rv.one;obtain⟨z,its,n,r,hl,e⟩:=I.lstM hH;refine iU F.slot_list_append ⟨_,e,rfl⟩ F.entry_list_append (F.args_list_append_2 _ _) (PySem.list_append l its.toArray n u (by rw[ay];lia)) ⟨e,?_⟩;refine⟨.non,_,I.lset (its':=its++[u]) hH e (by simp) (r.append (.cons ru .nil)) ?_,rfl,q⟩;rw[ai,bw];lia
def rPop:V->List V->Hp->VK->Prop:=λx vs H Q=>∃l xs y,x=.ref l/\vs=[]/\H l=some (.lst xs)/\xs[xs.length-1]?=some y/\Q y (upd H l (.lst xs.dropLast))
theorem mt_pop:MtM X "list.pop" rPop:=by
 intro pins s σ H x vs v us Q I rx rv h;obtain⟨l,xs,y,rfl,rfl,hH,hy,q⟩:=h;cases rx;have hus:=rv.zero;subst hus;obtain⟨z,its,n,r,hl,e⟩:=I.lstM hH;obtain⟨u,hu,ru⟩:=r.get hy;have hy':its.toArray[its.toArray.size-1]?=some u:=by show its.toArray[its.length-1]?=some u;rw[<- Array.getElem?_toList,<- hl];exact hu
 refine iU F.slot_list_pop ⟨_,e,rfl⟩ F.entry_list_pop (F.args_list_pop_1 _) (MeetsSeq.list_pop_last l its.toArray n u hy' (by rw[ay];lia)) ⟨e,?_⟩;refine⟨y,_,I.lset (its':=its.dropLast) hH e ?_ r.dropLast ?_,ru,q⟩
 ·show its.toArray.eraseIdxIfInBounds (its.toArray.size-1)=its.dropLast.toArray;rw[ay,List.eraseIdxIfInBounds_toArray,erase_last]
 ·rw[fH];lia
def rRep:R2:=λx y H Q=>∃l k xs,x=.ref l/\y=.int k/\H l=some (.lst xs) /\ -(2^63)<=k/\k<2^63/\xs.length*k.toNat<=sizeLine /\
 ∀p,H p=none->Q (.ref p) (upd H p (.lst (List.replicate k.toNat xs).flatten))
theorem len_rep {α:Type}(xs:List α)(k:Nat):(List.replicate k xs).flatten.length=k*xs.length:=by
 induction k with
 |zero=>simp
 |succ k ih=>rw[df,bQ,ai,ih,f8,g6]
theorem op_rep:OpR X (binaryOp .Mult) rRep:=by
 intro pins s σ H x y v u Q I rx ry h;obtain⟨l,k,xs,rfl,rfl,hH,h1,h2,hz,q⟩:=h;cases rx;obtain⟨t,rfl⟩:=ry;obtain⟨z,its,n,r,hl,e⟩:=I.lstM hH;have hlen:its.toArray.size*k.toNat<=sizeLine:=by rw[ay,<- hl];exact hz
 have hcap:¬its.toArray.size*k.toNat > (2^63-1) / 8:=by
  have:(sizeLine:Nat)<=(2^63-1) / 8:=by decide
  lia
 have hfit:¬(!Builtin.List.listFitsIndex k)=true:=by rw[fitsIndex_both h1 h2];exact aZ
 have hlong:¬Builtin.List.listTooLong (its.toArray.size*k.toNat)=true:=by rw[notLongL hlen];exact aZ
 have hnew:List.foldl (λx1 x2=>x1++x2) #[] (List.replicate (if its.toArray.isEmpty=true then 0 else k.toNat) its.toArray)=(List.replicate k.toNat its).flatten.toArray:=by
  have f0:∀m:Nat,List.foldl (λx1 x2=>x1++x2) #[] (List.replicate m its.toArray)=(List.replicate m its).flatten.toArray:=λm=>by have:=foldl_rep its m [];rw[List.nil_append]at this;exact this
  rw[f0];cases its with
  |nil=>simp
  |cons a r'=>rw[ae (by simp)]
 refine wpAny_binaryOp_repeat_ref (T:="list") (U:="int") (by decide) ⟨_,e,rfl⟩ (λs'=>typeIs_int s' k t) noFill_list_mul F.fills_int_mul F.slot_int_rmul repeat_list F.slot_int_index.lookup
  (iU F.slot_int_rmul (typeIs_int s k t) F.entry_int_rmul (F.args_int_rmul_2 _ _) (int___rmul___int_list k t l its.toArray n)
   ⟨e,rfl,⟨_,e,rfl⟩,iU F.slot_list_mul ⟨_,e,rfl⟩ F.entry_list_mul (F.args_list_mul_2 _ _) (AutoListH.list___mul___list_int_3 l its.toArray n k t hfit hcap hlong) ⟨e,?_⟩⟩)
 rw[hnew];exact⟨.ref _,_,I.lnew (t':=s.toks) (r.rep k.toNat) (by rw[len_rep,cZ];exact hz),rfl,q _ I.fresh⟩
end
end L2
namespace Att
open PySem PySem.W PySem.Calls PyProof.Rows
theorem ints_of_wellAll:∀(ns:Li) (vs:Lv),WellAll P h vs (ns.map WData.int)->IntsAre vs ns:=by
 intro ns
 induction ns with
 |nil=>intro vs w;rw[dO]at w;cases w;exact .nil
 |cons n ns ih=>
  intro vs w;rw[bK]at w;cases w with
  |cons a b=>cases a;exact .cons _ _ (ih _ b)
theorem script_of {l:OpenLaw}{n:Nat}(hn:l.most=some n){P:Params}{args:List WData}
  (hpre:l.row.toRowW.claim.pre args=true) (hwl:WellAll P h vals args) :
  ∃a vs ns,vals=[Value.ref a]/\args=[WData.list (ns.map WData.int)]/\h.get? a=some { cls:=.type "list",data:=.seq vs.toArray }/\IntsAre vs ns/\ns.length<=n:=by
 have hsh:WShape.hasAll [] args [.list .int]=true:=(pre_splitW hpre).1;have hc:l.pre.holds [] { args:=args }=true:=(pre_splitW hpre).2;obtain⟨d,r,rfl,h1,h2⟩:=hasAllW_cons hsh;obtain rfl:=hasAllW_nil h2;obtain⟨xs,rfl,h3⟩:=hasW_list h1;obtain⟨ns,rfl⟩:=items_int h3;have hlen:ns.length<=n:=by
  unfold OpenLaw.pre at hc;have h4:(WTm.not (.lt (.lit (.int (n:Int))) (.len (.arg 0)))).holds [] { args:=[.list (ns.map .int)] }=true:=by have h4:=(holds_andW hc).1;rw[hn]at h4;exact h4
  have h5:=condW_of h4 (w_not (w_lt w_lit (w_len_list (w_arg rfl))));rw[aa]at h5;refine dB λq=>?_;have q':(n:Int)<((ns.length:Nat):Int):=by lia
  first
   |(rw[aK q']at h5;exact absurd h5 (by decide))
   |(simp at h5;lia)
 cases hwl with
 |cons w1 w2=>
  cases w2;cases w1 with
  |list ho hall=>exact⟨_,_,ns,rfl,rfl,ho,ints_of_wellAll ns _ hall,hlen⟩
theorem post_true (l:OpenLaw)(args:List WData):l.row.toRowW.claim.post args (.bool true) args=true:=
 postW_of (r:=l.row.toRowW) (X:=(true == true))
  (show WShape.has [] (.bool true) .bool=true by first|rfl|decide|simp[WShape.has,WShape.arms,WShape.armsAll])
  (show(WTm.eq .res (.lit (.bool true))).value [] { args:=args,res:=some (.bool true),after:=args }=some (.bool (true == true)) from w_eq_bool (w_res rfl) w_lit) rfl
section
variable {prog:Program}{w:World}{A:Around}{E:Value->Shared->Prop}{s:Shared}{K:Frag}
def ledger (h:Heap)(L d:Addr):List (Addr×Obj):=(List.range h.objs.size).filterMap λa=>if a=L\/a=d then none else(h.get? a).map λo=>(a,o)
end
end Att
namespace L2
open PySem PySem.Spec PyProof.Rows
theorem vals_ints:∀{vs:Lv} {ns:Li},IntsAre vs ns->Vals (ns.map V.int) vs
 |_,_,.nil=>.nil
 |_,_,.cons n t h=>.cons ⟨t,rfl⟩ (vals_ints h)
def qO (K:Fg):Hp:=λb=>match (oh K).find? λx=>x.2.1 == b with
 |some x=>some (.tbl ⟨x.2.2,#[]⟩)
 |none=>none
theorem rJ {K:Fg}{b:Addr}{o:HO}(h:qO K b=some o):∃x∈oh K,x.2.1=b/\o=.tbl ⟨x.2.2,#[]⟩:=by
 unfold qO at h;split at h
 ·rename_i x e;exact⟨x,eC e,by simpa using g7 e,(aB h).symm⟩
 ·cases h
structure HY (K:Fg)(h:Heap):Prop where
 e:∀x∈oh K,h.get? x.2.1=some (W.tabObj #[])
 n:∀x∈oh K,K.lookup x.2.1=none
 u:∀x∈oh K,∀y∈oh K,x.2.1=y.2.1->x.2.2=y.2.2
theorem Cy {K:Fg}{x:Addr×Addr×Str}(h:x∈oh K):W.codeHdIn K x.1 x.2.1=true:=by
 obtain⟨y,_,e⟩:=cC.mp h
 repeat' split at e
 all_goals first
  |(cases e;assumption)
  |cases e
theorem HJ {K:Fg}{h:Heap}(L:HY K h){x:Addr×Addr×Str}(hx:x∈oh K):qO K x.2.1=some (.tbl ⟨x.2.2,#[]⟩):=by
 unfold qO;split
 ·rename_i y e;have e1:y.2.1=x.2.1:=by simpa using g7 e
  rw[L.u y (eC e) x hx e1]
 ·rename_i e;have:=List.find?_eq_none.mp e x hx;simp at this
theorem law_call {P:Program}{w:World}{K:Fg}{mg mb:Mg}{CX:CXT}{k:Nat}{fa a:Addr}{fd:FuncData}{x:Str}{sp:Sp}{s₁:Shared}{vs:Lv}{ns:Li}
  (KX:K.In s₁.heap) (hns:s₁.heap.Ns mainGlobals mg) (hb:s₁.heap.Ns builtinsNs mb) (hbb:∀x:Str,x≠"__name__"->mb x=bootBuiltins x) (hlim:s₁.heap.NoLimit) (hg:s₁.gens = #[])
  (ha:s₁.heap.get? a=some { cls:=.type "list",data:=.seq vs.toArray }) (hi:IntsAre vs ns) (hl:ns.length<=sizeLine) (hr:Room k callerA) (LO:HY K s₁.heap) (BM:aak mg s₁.heap)
  (F:∀base:Heap,K.In base->base.Ns mainGlobals mg->FnOk P w K mg base CX k fa fd [x] sp) (hbind:∀(s:Shared) (u:Value),BindsTo s fd ⟨[u],[]⟩ [(x,u)])
  (hsp:∀H:Hp,SqL K H a (ns.map V.int)->sp [.ref a] H (λv _=>v=.bl true) λ_ _ _=>False)
  (hCX:∀H e s',CX [] H s₁ (λ_ _ _=>False) e s' -> False) :
  codeAny (model P w) callerA (.call (.ref fa) ⟨[.ref a],[]⟩) (λr s'=>r=.ok (.ret (.bool true))/\OldK s₁.heap s'.heap/\s'.os=s₁.os/\AllBare s'.gens) s₁:=by
 have rv:=vals_ints hi;have lenV:=hi.length;have nat:∀{b:Addr} {o:HO},qO K b=some o->b≠a:=λ{b o} h z=>by obtain⟨x,hx,e,_⟩:=rJ h;have:=LO.e x hx;rw[e,z,ha]at this;cases this
 have core:∀H:Hp,(∀b,b≠a->H b=qO K b)->SqL K H a (ns.map V.int)->HOk P w H s₁.heap->(H a≠none->K.lookup a=none/\∃o xs,H a=some (.frz o (.lst xs))) ->
   codeAny (model P w) callerA (.call (.ref fa) ⟨[.ref a],[]⟩) (λr s'=>r=.ok (.ret (.bool true))/\OldK s₁.heap s'.heap/\s'.os=s₁.os/\AllBare s'.gens) s₁:=by
  intro H hT hS hok hK;have base_of:∀{b:Addr} {o:Obj},s₁.heap.get? b=some o->H b=none->(hidT s₁.heap H).get? b=some o:=λe n=>hidT_get e n;have noA:∀{b:Addr} {o:Obj} {es:Array DictEntry} {ep:Nat},s₁.heap.get? b=some o->o.data=.dict es ep->H b=none:=λ{b o es ep} e d=>by
   by_cases hba:b=a
   ·subst hba;rw[ha]at e;cases e;have d':Data.seq vs.toArray _=Data.dict es ep:=d;cases d'
   ·rw[hT b hba];cases q:qO K b with
    |none=>rfl
    |some u=>obtain⟨x,hx,e1,_⟩:=rJ q;have:=LO.e x hx;rw[e1,e]at this;cases this;cases d
  have noB:∀{b:Addr} {o:Obj},s₁.heap.get? b=some o->o.cls=.type "module"->H b=none:=λ{b o} e d=>by
   by_cases hba:b=a
   ·subst hba;rw[ha]at e;cases e;injection d with z;exact absurd z (by decide)
   ·rw[hT b hba];cases q:qO K b with
    |none=>rfl
    |some u=>obtain⟨x,hx,e1,_⟩:=rJ q;have:=LO.e x hx;rw[e1,e]at this;cases this;cases d
  have nsK:∀{b:Addr} {m:Mg},s₁.heap.Ns b m->(hidT s₁.heap H).Ns b m:=λ{b m} ⟨o,es,ep,e,d,r⟩=>⟨o,es,ep,base_of e (noA e d),d,r⟩;have hKb:K.In (hidT s₁.heap H):=λb o e=>base_of (KX b o e) (by
   by_cases hba:b=a
   ·subst hba;cases q:H b with
    |none=>rfl
    |some u=>rw[(hK (by rw[q];simp)).1]at e;cases e
   ·rw[hT b hba];cases q:qO K b with
    |none=>rfl
    |some u=>
     obtain⟨x,hx,e1,_⟩:=rJ q;have:=LO.n x hx;rw[e1,e]at this;cases this)
  have hM:Mod K mg (hidT s₁.heap H):=⟨hKb,nsK hns,⟨mb,nsK hb,hbb⟩,let ⟨mc,h1,h2⟩:=hlim;⟨mc,nsK h1,h2⟩,let ⟨bm,ob,b1,b2,b3,b4,b5⟩:=BM;⟨bm,ob,b1,b2,base_of b3 (noB b3 b4),b4,b5⟩⟩
  have e0:Env0 P w K mg (hidT s₁.heap H) callerA [] s₁ H:=⟨rfl,hM,λb o e=>of_hidT e,iX (hidT_size _ _),trivial,⟨λb hb=>absurd (show b∈([]:List Addr) from hb) (by simp),λx hx=>⟨#[],by rw[hT _ (nat (HJ LO hx))];exact HJ LO hx⟩⟩,hok,.of_eq hg⟩;refine f7 ((F _ hKb (nsK hns)).run callerA [] s₁ H ⟨[.ref a],[]⟩ [.ref a] [.ref a] _ _ hr e0 (hbind s₁ (.ref a)) (.cons rfl .nil) (hsp H hS)) λr s' h=>?_;cases r with
  |error e=>exact(hCX H e s' h).elim
  |ok fl=>
   cases fl with
   |next=>exact False.elim h
   |brk=>exact False.elim h
   |cont=>exact False.elim h
   |ret u=>
    obtain⟨v,H',os,bare,un,hok',r',q⟩:=h;have q':v=.bl true:=q;subst q';obtain rfl:u=Value.bool true:=r';have all:∀b o,s₁.heap.get? b=some o->s'.heap.get? b=some o\/∃x∈oh K,x.2.1=b/\o=W.tabObj #[]/\∃more,s'.heap.get? b=some (W.tabObj (#[]++more)):=λb o e=>by
     by_cases hba:b=a
     ·subst hba;cases q:H b with
      |none=>exact .inl (un.keep b o e q (by intro z;exact absurd (show b∈([]:List Addr) from z) (by simp)) (by simp))
      |some u=>obtain⟨_,ob,xs,z⟩:=hK (by rw[q];simp);have z2:=un.frzs b ob _ z;obtain⟨e1,_⟩:=hok b _ z;obtain⟨e2,_⟩:=hok' b _ z2;rw[e]at e1;cases e1;exact .inl e2
     ·cases q:qO K b with
      |none=>exact .inl (un.keep b o e (by rw[hT b hba];exact q) (by intro z;exact absurd (show b∈([]:List Addr) from z) (by simp)) (by simp))
      |some u=>obtain⟨x,hx,e1,rfl⟩:=rJ q;obtain⟨more,e2⟩:=un.tbls b _ (by rw[hT b hba];exact q);obtain⟨e3,_⟩:=hok' b _ e2;have e4:=LO.e x hx;rw[e1,e]at e4;exact .inr ⟨x,hx,e1,aB e4,more,e3⟩
    refine⟨rfl,⟨λb o e=>?_,λb o e=>?_⟩,os,bare⟩
    ·rcases all b o e with z|⟨x,hx,e1,rfl,more,e2⟩
     ·exact .inl z
     ·have C:W.CodeHd s₁.heap x.1 x.2.1:=iF KX (Cy hx);exact .inr (.inl ⟨e1 ▸ (C.tab (LO.e x hx)).isCodeTable,rfl,#[],more,rfl,e2⟩)
    ·rcases all b o e with z|⟨x,hx,e1,rfl,more,e2⟩
     ·exact⟨_,z⟩
     ·exact⟨_,e2⟩
 have tabOk:∀(H:Hp) b u,qO K b=some u->ObjOk P w H s₁.heap b u:=λH b u q=>by obtain⟨x,hx,e1,rfl⟩:=rJ q;have e4:=LO.e x hx;rw[e1]at e4;exact⟨e4,trivial,λp cv hc=>by cases hc⟩
 cases hk:K.lookup a with
 |some o=>
  have e:=KX a o hk;rw[ha]at e;cases e;refine core (qO K) (λ_ _=>rfl) (.inr ⟨_,vs.toArray,_,hk,rfl,rfl,rfl,by rw[ay,lenV];exact hl,by simpa using rv⟩) (λb u z=>tabOk _ b u z) λz=>?_;cases q:qO K a with
  |none=>exact absurd q z
  |some u=>exact absurd rfl (nat q)
 |none=>
  refine core (λb=>if b=a then some (.frz { cls:=.type "list",data:=.seq vs.toArray } (.lst (ns.map V.int))) else qO K b) (λb hb=>ae hb) (.inl (.inr ⟨{ cls:=.type "list",data:=.seq vs.toArray },af rfl⟩)) (λb u z=>?_) λ_=>⟨hk,_,_,af rfl⟩;by_cases hb:b=a
  ·have z':=(af hb).symm.trans z;cases z';subst hb;exact⟨ha,by rw[aa];exact hl,vs,_,rv,ha⟩
  ·exact tabOk _ b u ((ae hb).symm.trans z)
abbrev KOf {K:Fg}{h:Heap}(_:K.In h):Fg:=K
def inClass (s:Stmt)(j:Nat):Stmt:=match s with
 | .ClassDef _ _ _ body _ _ _ _ _ _ _=>body.getD j (.Pass ⟨0,0,0,0⟩)
 |_=>.Pass ⟨0,0,0,0⟩
def defArgs (s:Stmt):Arguments:=match s with
 | .FunctionDef _ a _ _ _ _ _ _ _ _=>a
 |_=>{ posonlyargs:=[],args:=[],vararg:=none,kwonlyargs:=[],kw_defaults:=[],kwarg:=none,defaults:=[] }
def defBody (s:Stmt):List Stmt:=match s with
 | .FunctionDef _ _ b _ _ _ _ _ _ _=>b
 |_=>[]
def defScope (s:Stmt):Scope:=match s with
 | .FunctionDef _ _ _ _ _ _ sc _ _ _=>sc
 |_=>{ kind:=.function,names:=[],isGenerator:=false,isCoroutine:=false }
abbrev CX0:CXT:=λ_ _ _ _ _ _=>False
abbrev E0:XK:=λ_ _ _=>False
theorem pass0:Passes CX0 X E0:=λ_ _ _ _ _ _ _ h=>h.elim
structure Fun (K:Fg)(x qual:Str)(st:Stmt)(f:Addr)(fd:FuncData):Prop where
 ex:∃(oc:Value) (od:Option Addr) (kV doc pm:Value) (an:Option Addr) (cdv ct:Value) (osl:Array (Option Value)),
  fd=W.fnOf x qual (defArgs st) (defBody st) (defScope st) .none kV doc pm an cdv ct/\K.lookup f=some ⟨oc,od,.func fd,osl⟩/\W.codeIn K cdv qual=true
 kp:W.keepIn K (.ref f)=true
section
variable {P:Program}{w:World}{K:Fg}{mg:Mg}{base:Heap}
theorem Fun.ok {x qual:Str}{st:Stmt}{f:Addr}{fd:FuncData}{N ps:Ls}{k:Nat}{sp:Sp}(F:Fun K x qual st f fd)(S:FnScope N ps (defScope st))(len:∀vs H Q E,sp vs H Q E->vs.length=ps.length)
  (hbody:∀(cdv:Value) (A:Around) (outer:List Env) (s:Shared) (H:Hp) (vs:List V) (Q:VK) (E:XK),Room k (A.deeper (envOfC qual (defScope st) s.heap.objs.size f cdv))->sp vs H Q E ->
   ∃t,PSs (cxOf CX0 P w K mg base N qual (defScope st) f cdv A outer s H E).nox (defBody st) t/\t { nx:=λ_ H'=>Q .non H',rt:=Q } (start N vs) H):FnOk P w K mg base CX0 (k+1) f fd ps sp:=by
 obtain⟨oc,od,kV,doc,pm,an,cdv,ct,osl,rfl,lk,hcd⟩:=F.ex;refine fn_of lk hcd S len λA outer s H vs Q E hr hsp=>?_;obtain⟨t,h,q⟩:=hbody cdv A outer s H vs Q E hr hsp;exact⟨t,h.nox,q⟩
theorem Fun.binds {x qual:Str}{st:Stmt}{f:Addr}{fd:FuncData}{ps:Ls}(F:Fun K x qual st f fd)
  (h:∀(kV doc pm:Value) (an:Option Addr) (cdv ct:Value) (us:List Value),us.length=ps.length->bindArgs (W.fnOf x qual (defArgs st) (defBody st) (defScope st) .none kV doc pm an cdv ct) ⟨us,[]⟩=pure (ps.zip us)):Binds K fd ps []:=by
 obtain⟨oc,od,kV,doc,pm,an,cdv,ct,osl,rfl,lk,hcd⟩:=F.ex;exact .all (h kV doc pm an cdv ct)
theorem fun_mk {x qual:Str}{st:Stmt}{f:Addr}{oc:Value}{od an:Option Addr}{osl:Array (Option Value)}{kV doc pm cdv ct:Value}(l:K.lookup f=some ⟨oc,od,.func (W.fnOf x qual (defArgs st) (defBody st) (defScope st) .none kV doc pm an cdv ct),osl⟩)
  (c:W.codeIn K cdv qual=true) (k:W.keepIn K (.ref f)=true):Fun K x qual st f (W.fnOf x qual (defArgs st) (defBody st) (defScope st) .none kV doc pm an cdv ct):=⟨⟨oc,od,kV,doc,pm,an,cdv,ct,osl,rfl,l,c⟩,k⟩
end
theorem small1000 (h:n<=1000):n<sizeLine:=aQ h (by decide)
section
variable {X:Cx}
theorem pv (i:Nat)(hN:X.N[i]?=some x:=by rfl)(hv:Vis X.env.scope x:=by walk_at "v")(hd:(x == ("__debug__":Str))=false:=by decide)
  (hcd:(x == ("__classdict__":Str))=false:=by decide):PE X (.Name x pos) (tVar i):=pe_var hN hv hd hcd
end
theorem iteF {A B:Prop}(h:B):if false=true then A else B:=by rw[ae aZ];exact h
theorem iteT {A B:Prop}(h:A):if true=true then A else B:=by rw[af rfl];exact h
def Nx (x:Option HO):HO->Prop
 | .tbl t=>∃ps,x=some (.tbl ⟨t.q,ps⟩)
 |o=>x=some o
def Same (H H':Hp):Prop:=∀b o,H b=some o->Nx (H' b) o
theorem Nx.of (h:x=some o):Nx x o:=by cases o<;>first|exact h|exact⟨_,h⟩
theorem Nx.some (h:Nx x o):∃u,x=some u:=by cases o<;>first|exact⟨_,h⟩|(obtain⟨ps,h⟩:=h;exact⟨_,h⟩)
theorem sy (h:∀b o,H b=some o->H' b=some o):Same H H':=λb o e=>.of (h b o e)
theorem Same.refl (H:Hp):Same H H:=sy λ_ _ h=>h
theorem Same.trans (a:Same H H1)(b:Same H1 H2):Same H H2:=λc o h=>by have q:=a c o h;cases o<;>first|exact b c _ q|(obtain⟨ps,q⟩:=q;have z:=b c _ q;exact z)
theorem Same.free (e:Same H H')(h:H' l=Option.none):H l=Option.none:=by
 cases q:H l with
 |none=>rfl
 |some o=>obtain⟨u,z⟩:=(e l o q).some;rw[z]at h;cases h
theorem Same.seq {K:Fg}{H H':Hp}{a:Addr}{xs:List V}(e:Same H H')(h:SqL K H a xs):SqL K H' a xs:=by
 rcases h with (h|⟨o,h⟩)|h
 ·exact .inl (.inl (e _ _ h))
 ·exact .inl (.inr ⟨o,e _ _ h⟩)
 ·exact .inr h
def gI (σ:St)(i:Nat):Int:=match σ[i]? with
 |some (some (.int n))=>n
 |_=>0
def hI (σ:St)(i:Nat):Prop:=σ[i]?=some (some (.int (gI σ i)))
def tN (C:St->Hp->Prop)(g:St->Int):TE:=λσ H Q=>C σ H/\Q (.int (g σ)) H
def tP (C:St->Hp->Prop)(p:St->Prop)[∀σ,Decidable (p σ)]:TT:=λσ H Q=>C σ H/\Q (decide (p σ)) H
def tV (C:St->Hp->Prop)(p:St->Prop)[∀σ,Decidable (p σ)]:TE:=λσ H Q=>C σ H/\Q (.bl (decide (p σ))) H
def tNs (C:St->Hp->Prop)(g:St->List Int):TA:=λσ H Q=>C σ H/\Q ((g σ).map V.int) H
section
variable {X:Cx}{a b:Expr}{pos:Pos}{Ca Cb:St->Hp->Prop}{ga gb:St->Int}
theorem mK (i:Nat)(hN:X.N[i]?=some x:=by rfl)(hv:Vis X.env.scope x:=by walk_at "v")
  (hd:(x == ("__debug__":Str))=false:=by decide) (hcd:(x == ("__classdict__":Str))=false:=by decide):PE X (.Name x pos) (tN (λσ _=>hI σ i) (λσ=>gI σ i)):=
 λpins s σ H Q I h=>pe_var hN hv hd hcd pins s σ H Q I ⟨_,h.1,h.2⟩
theorem vJ:PE X (.Constant (.int i) j pos) (tN (λ_ _=>True) (λ_=>i)):=λpins s σ H Q I h=>pe_int pins s σ H Q I h.2
theorem U4 (hg:Gl X x)(hm:∃tk,X.mg x=some (.int i tk))(hd:(x == ("__debug__":Str))=false:=by decide):PE X (.Name x pos) (tN (λ_ _=>True) (λ_=>i)):=
 λpins s σ H Q I h=>let ⟨_,hm⟩:=hm;pe_glob hg hm (v:=.int i) ⟨_,rfl⟩ hd pins s σ H Q I h.2
theorem Xd {op:Operator}{C:Int->Int->Prop}{g:Int->Int->Int}(ho:OpR X (binaryOp op) (rI C λi j=>.int (g i j)))(ha:PE X a (tN Ca ga))(hb:PE X b (tN Cb gb)) :
  PE X (.BinOp a op b pos) (tN (λσ H=>Ca σ H/\Cb σ H/\C (ga σ) (gb σ)) (λσ=>g (ga σ) (gb σ))):=
 λpins s σ H Q I h=>pe_op ho ha hb pins s σ H Q I ⟨h.1.1,h.1.2.1,_,_,rfl,rfl,h.1.2.2,h.2⟩
theorem Yl {op:Operator}{g:Int->Int->Int}(ho:OpR X (binaryOp op) (rI0 λi j=>.int (g i j)))(ha:PE X a (tN Ca ga))(hb:PE X b (tN Cb gb)) :
  PE X (.BinOp a op b pos) (tN (λσ H=>Ca σ H/\Cb σ H) (λσ=>g (ga σ) (gb σ))):=
 λpins s σ H Q I h=>pe_op ho ha hb pins s σ H Q I ⟨h.1.1,h.1.2,_,_,rfl,rfl,h.2⟩
theorem Fv:OpR X (binaryOp .Mult) (rI IntMulOk λi j=>.int (i*j)):=opI λ_ _ _ _ _ _ _ hc q=>mul_int q hc
theorem Qs:OpR X (inplaceOp .Mult) (rI IntMulOk λi j=>.int (i*j)):=opI λ_ _ _ _ _ _ _ hc q=>imul_int q hc
def Tp (_ j:Int):Prop:=0<j/\j.natAbs.log2<9000
theorem Qh:OpR X (binaryOp .FloorDiv) (rI Tp λi j=>.int (i / j)):=opI λi j _ _ _ _ _ hc q=>by have h1:(0:Int)<j:=hc.1;exact floordiv_int (by lia) (by rw[fX i (by lia)];exact q) (.inl (PyProof.noPylong_of_log2 hc.2))
theorem Zf (ha:PE X a (tN Ca ga))(hb:PE X b (tN Cb gb)):PE X (.BinOp a .Mult b pos) (tN (λσ H=>Ca σ H/\Cb σ H/\IntMulOk (ga σ) (gb σ)) (λσ=>ga σ*gb σ)):=Xd Fv ha hb
theorem Yo (ha:PE X a (tN Ca ga))(hb:PE X b (tN Cb gb)):PE X (.BinOp a .Mod b pos) (tN (λσ H=>Ca σ H/\Cb σ H/\0<gb σ) (λσ=>ga σ % gb σ)):=Xd op_mod ha hb
theorem YC (ha:PE X a (tN Ca ga)):PE X (.UnaryOp .USub a pos) (tN Ca (λσ=>-ga σ)):=
 λpins s σ H Q I h=>pe_un un_neg ha pins s σ H Q I ⟨h.1,_,rfl,h.2⟩
theorem zy {op:CmpOp}{p:Int->Int->Prop}[∀i j,Decidable (p i j)](ho:OpR X (compareOp op) (rI0 λi j=>.bl (decide (p i j))))(hm:behindInMarks op b=false)(ha:PE X a (tN Ca ga))(hb:PE X b (tN Cb gb)) :
  PT X (.Compare a [op] [b] pos) (tP (λσ H=>Ca σ H/\Cb σ H) (λσ=>p (ga σ) (gb σ))):=
 λpins s σ H Q I h=>pt_cmpR ho ha hb hm pins s σ H Q I ⟨h.1.1,h.1.2,_,_,rfl,rfl,_,rfl,h.2⟩
theorem Kd:OpR X (compareOp .Eq) (rI0 λi j=>.bl (decide (i=j))):=λpins s σ H x y v u Q I rx ry h=>by obtain⟨i,j,rfl,rfl,q⟩:=h;refine op_eq pins s σ H _ _ v u Q I rx ry ⟨rfl,?_⟩;rw[dec_int,g8];exact q
theorem X4:OpR X (compareOp .NotEq) (rI0 λi j=>.bl (decide (¬i=j))):=λpins s σ H x y v u Q I rx ry h=>by obtain⟨i,j,rfl,rfl,q⟩:=h;have q:Q (.bl (decide (¬i=j))) H:=q;rw[ii]at q;refine op_ne pins s σ H _ _ v u Q I rx ry ⟨rfl,?_⟩;rw[dec_int,g8];exact q
theorem TV (ha:PE X a (tN Ca ga))(hb:PE X b (tN Cb gb)):PT X (.Compare a [.Lt] [b] pos) (tP (λσ H=>Ca σ H/\Cb σ H) (λσ=>ga σ<gb σ)):=zy op_lt (nomark _) ha hb
theorem Ye (ha:PE X a (tN Ca ga))(hb:PE X b (tN Cb gb)):PT X (.Compare a [.LtE] [b] pos) (tP (λσ H=>Ca σ H/\Cb σ H) (λσ=>ga σ<=gb σ)):=zy op_le (nomark _) ha hb
theorem XS (ha:PE X a (tN Ca ga))(hb:PE X b (tN Cb gb)):PT X (.Compare a [.Gt] [b] pos) (tP (λσ H=>Ca σ H/\Cb σ H) (λσ=>gb σ<ga σ)):=zy (p:=λi j=>j<i) op_gt (nomark _) ha hb
theorem YJ (ha:PE X a (tN Ca ga))(hb:PE X b (tN Cb gb)):PT X (.Compare a [.Eq] [b] pos) (tP (λσ H=>Ca σ H/\Cb σ H) (λσ=>ga σ=gb σ)):=zy Kd (nomark _) ha hb
variable {pa pb:St->Prop}[∀σ,Decidable (pa σ)][∀σ,Decidable (pb σ)]{rest:List Expr}
theorem Ux (ha:PT X a (tP Ca pa)):PT X (.UnaryOp .Not a pos) (tP Ca (λσ=>¬pa σ)):=
 λpins s σ H Q I h=>pt_not ha pins s σ H Q I ⟨h.1,by have q:=h.2;rw[ii]at q;exact q⟩
theorem pw_or1P (ha:PT X a (tP Ca pa)):PW X (.BoolOp .Or [a] pos) (tP Ca pa):=pw_or1 ha
theorem pw_orP (ha:PT X a (tP Ca pa))(hb:PW X (.BoolOp .Or (b::rest) pos) (tP Cb pb)):PW X (.BoolOp .Or (a::b::rest) pos) (tP (λσ H=>Ca σ H/\(¬pa σ->Cb σ H)) (λσ=>pa σ\/pb σ)):=
 λwh pins s σ H Q I h=>pw_or ha hb wh pins s σ H Q I ⟨h.1.1,by
  have q:=h.2;by_cases c:pa σ
  ·rw[aK (Or.inl c:pa σ\/pb σ)]at q;rw[aK c];refine iteT ?_;exact q
  ·rw[aI c];refine iteF ?_;refine⟨h.1.2 c,?_⟩;have e:decide (pa σ\/pb σ)=decide (pb σ):=by simp[c]
   rw[e]at q;exact q⟩
theorem abu (h:PE X e (tV Ca pa))(he:∀whole,isTrue e X.env whole=(do let v <- whole;standAt e.pos;holding [v] (truthy v)):=by intro _;rfl):PT X e (tP Ca pa):=
 λpins s σ H Q I q=>pt_val h he pins s σ H Q I ⟨q.1,_,rfl,q.2⟩
def abr (C:St->Hp->Prop)(p:St->Prop)(t u:TS):TS:=λD σ H=>C σ H/\(p σ->t D σ H)/\(¬p σ->u D σ H)
theorem FW (hc:PT X c (tP Ca pa))(hx:PSs X x t)(hy:PSs X y u):PS X (.If c x y pos) (abr Ca pa t u):=
 λpins s σ H D I h=>ps_if hc hx hy pins s σ H D I ⟨h.1,by
  by_cases c:pa σ
  ·rw[aK c];refine iteT ?_;exact h.2.1 c
  ·rw[aI c];refine iteF ?_;exact h.2.2 c⟩
def aaD (i:Nat)(C:St->Hp->Prop)(g:St->Int):TS:=λD σ H=>C σ H/\∀n,n=g σ->D.nx (σ.set i (some (.int n))) H
theorem Xc (hN:X.N.Nodup)(hi:X.N[i]?=some x)(hx:Loc X.env.scope x)(he:PE X e (tN Ca ga))(hs:swapsWith e (some (.Name x pos')) pos.line X.env=pure false:=by rfl)
  (hf:X.fn x=true\/X.env.scope.names.lookup x=some .local:=by walk_at "w"):PS X (.Assign [.Name x pos'] e pos) (aaD i Ca ga):=
 λpins s σ H D I h=>ps_set hN hi hx he hs hf pins s σ H D I ⟨h.1,h.2 _ rfl⟩
def aaJ (i:Nat)(C:St->Hp->Prop)(g:St->Int)(P:Int->Int->Prop)(f:Int->Int->Int):TS:=λD σ H=>hI σ i/\C σ H/\P (gI σ i) (g σ)/\∀n,n=f (gI σ i) (g σ)->D.nx (σ.set i (some (.int n))) H
theorem VP (hN:X.N.Nodup)(hi:X.N[i]?=some x)(hx:Loc X.env.scope x)(he:PE X e (tN Ca ga))(ho:OpR X (inplaceOp op) (rI P λi j=>.int (f i j)))
  (hf:X.fn x=true\/X.env.scope.names.lookup x=some .local:=by walk_at "w"):PS X (.AugAssign (.Name x pos') op e pos) (aaJ i Ca ga P f):=
 λpins s σ H D I h=>ps_aug hN hi hx he ho hf pins s σ H D I ⟨_,h.1,h.2.1,_,_,rfl,rfl,h.2.2.1,h.2.2.2 _ rfl⟩
theorem ug:OpR X (inplaceOp .Add) (rI (λ_ _=>True) λi j=>.int (i+j)):=λpins s σ H x y v u Q I rx ry h=>by obtain⟨i,j,e1,e2,_,q⟩:=h;exact iop_add pins s σ H x y v u Q I rx ry ⟨i,j,e1,e2,q⟩
def VJ (C:St->Hp->Prop)(p:St->Prop)(tb:TS):TS:=λD σ H=>∃(W:St->Hp->Prop) (μ:St->Hp->Nat),W σ H /\
 ∀σ H,W σ H->C σ H/\(p σ->tb { D with nx:=λσ' H'=>W σ' H'/\μ σ' H'<μ σ H,ct:=λσ' H'=>W σ' H'/\μ σ' H'<μ σ H,bk:=D.nx } σ H)/\(¬p σ->D.nx σ H)
theorem Pu (hp:PassesOwn (model X.prog X.w) X.A X.env X.xe)(hc:PT X c (tP Ca pa))(hb:PSs X body tb):PS X (.While c body [] pos) (VJ Ca pa tb):=
 λpins s σ H D I h=>ps_while hp hc hb pins s σ H D I (by
  obtain⟨W,μ,w0,st⟩:=h;refine while_by W μ w0 (λσ H w=>?_) (λσ H Q Q' m q=>⟨q.1,m _ _ q.2⟩);obtain⟨c1,c2,c3⟩:=st σ H w;refine⟨c1,?_⟩;by_cases c:pa σ
  ·rw[aK c];refine iteT ?_;exact c2 c
  ·rw[aI c];refine iteF ?_;exact c3 c)
end
section
variable {X:Cx}{b:Expr}{es:List Expr}{pos p1:Pos}{Cb C:St->Hp->Prop}{gb:St->Int}
theorem yQ {ns:Li}{i:Int}(h0:0<=i)(h1:i<(ns.length:Int)):atI (ns.map V.int) i=some (V.int (ns.getD i.toNat 0)):=by
 have e:i=((i.toNat:Nat):Int):=by lia
 have l:i.toNat<ns.length:=by lia
 have q:atI (ns.map V.int) ((i.toNat:Nat):Int)=some (V.int (ns.getD i.toNat 0)):=atI_nat (by rw[aw,ac l,gQ,ac l];rfl);rw[<- e]at q;exact q
def aaf (K:Fg)(j:Nat)(C:St->Hp->Prop)(g:St->Int):TE:=λσ H Q=>C σ H/\∃(a:Addr) (ns:List Int) (n:Int),σ[j]?=some (some (.ref a))/\SqL K H a (ns.map V.int)/\atI (ns.map V.int) (g σ)=some (.int n)/\Q (.int n) H
theorem Wz (j:Nat)(hb:PE X b (tN C gb))(hs:PlainIx b)(hN:X.N[j]?=some x:=by rfl)(hv:Vis X.env.scope x:=by walk_at "v")
  (hd:(x == ("__debug__":Str))=false:=by decide) (hcd:(x == ("__classdict__":Str))=false:=by decide):PE X (.Subscript (.Name x px) b pos) (aaf X.K j C gb):=by
 intro pins s σ H Q I h;obtain⟨c,a,ns,n,e1,e2,e3,q⟩:=h;exact pe_ix ix_list (pe_var hN hv hd hcd) hb hs pins s σ H Q I ⟨_,e1,c,a,_,_,_,rfl,rfl,e2,e3,q⟩
theorem W9 (j:Nat)(a:Addr)(ns:Li){x:Str}{px:Pos}(hb:PE X b (tN C gb))(hs:PlainIx b)(hN:X.N[j]?=some x:=by rfl)(hv:Vis X.env.scope x:=by walk_at "v")
  (hd:(x == ("__debug__":Str))=false:=by decide) (hcd:(x == ("__classdict__":Str))=false:=by decide) :
  PE X (.Subscript (.Name x px) b pos) (tN (λσ H=>C σ H/\σ[j]?=some (some (.ref a))/\SqL X.K H a (ns.map V.int) /\ -(ns.length:Int)<=gb σ/\gb σ<(ns.length:Int)) (λσ=>ns.getD (if 0<=gb σ then gb σ else gb σ+ns.length).toNat 0)):=by
 intro pins s σ H Q I h;obtain⟨⟨c,e1,e2,b1,b2⟩,q⟩:=h;refine pe_ix ix_list (pe_var hN hv hd hcd) hb hs pins s σ H Q I ⟨_,e1,c,a,_,_,_,rfl,rfl,e2,?_,q⟩;show atI (ns.map V.int) (gb σ)=some (V.int (ns.getD (if 0<=gb σ then gb σ else gb σ+ns.length).toNat 0));by_cases c0:0<=gb σ
 ·rw[af c0];exact yQ c0 b2
 ·rw[ae c0];have q2:=yQ (ns:=ns) (i:=gb σ+ns.length) (by lia) (by lia);unfold atI ixN at q2 ⊢;rw[aa]at q2 ⊢;rw[af (show 0<=gb σ+(ns.length:Int) by lia),af (show gb σ+(ns.length:Int)<(ns.length:Int) by lia)]at q2;rw[ae c0,af b1];exact q2
theorem YZ (j:Nat)(a:Addr)(xs:List V)(hm:X.mg "len"=none)(hN:X.N[j]?=some x:=by rfl)(hg:Gl X "len":=by rfl)(hv:Vis X.env.scope x:=by walk_at "v")
  (hd:(x == ("__debug__":Str))=false:=by decide) (hcd:(x == ("__classdict__":Str))=false:=by decide) (he:starEach [.Name x px] X.env=[(false,eval (.Name x px) X.env)]:=by rfl) :
  PE X (.Call (.Name "len" p) [.Name x px] [] pos) (tN (λσ H=>σ[j]?=some (some (.ref a))/\SqL X.K H a xs) (λ_=>(xs.length:Int))):=by
 intro pins s σ H Q I h;exact pe_callB call_len_seq hg hm PySem.boot_len (pa_cons (pe_var hN hv hd hcd) pa_nil he) (by decide) (by decide) he rfl pins s σ H Q I ⟨_,h.1.1,a,_,rfl,.inl h.1.2,h.2⟩
end
section
variable {X:Cx}{e:Expr}{es:List Expr}{pos p:Pos}{Ca Cb:St->Hp->Prop}{ga:St->Int}{gs:St->List Int}
theorem W4:PA X [] (tNs (λ_ _=>True) (λ_=>[])):=λpos pins s σ H Q I h=>pa_nil pos pins s σ H Q I h.2
theorem Rh (ha:PE X e (tN Ca ga))(hr:PA X es (tNs Cb gs))(hs:starEach (e::es) X.env=(false,eval e X.env)::starEach es X.env:=by rfl):PA X (e::es) (tNs (λσ H=>Ca σ H/\Cb σ H) (λσ=>ga σ::gs σ)):=
 λpos pins s σ H Q I h=>pa_cons ha hr hs pos pins s σ H Q I ⟨h.1.1,h.1.2,h.2⟩
end
def spB (n:Nat)(pre:List Int->Prop)(F:List Int->Bool):Sp:=λvs H Q _=>∃ns:List Int,ns.length=n/\vs=ns.map V.int/\pre ns/\Q (.bl (F ns)) H
structure Ok (P:Program)(w:World)(K:Fg)(mg:Mg)(base:Heap)(k:Nat)(x:Str)(ps:List Str)(sp:Sp):Prop where
 ex:∃f fd,FnOk P w K mg base CX0 k f fd ps sp/\Binds K fd ps []/\W.keepIn K (.ref f)=true/\mg x=some (.ref f)
theorem Ok.imp {P:Program}{w:World}{K:Fg}{mg:Mg}{base:Heap}{k:Nat}{x:Str}{ps:Ls}{sp sp':Sp}(o:Ok P w K mg base k x ps sp)(h:∀vs H Q E,sp' vs H Q E->sp vs H Q E):Ok P w K mg base k x ps sp':=by obtain⟨f,fd,a,b⟩:=o.ex;exact⟨f,fd,a.imp h,b⟩
section
variable {X:Cx}{e:Expr}{es:List Expr}{pos p:Pos}{j k:Nat}{x:Str}{ps:List Str}{sp:Sp}{t:TA}
theorem nO (o:Ok X.prog X.w X.K X.mg X.base j x ps sp)(hr:Room k X.A)(ha:PA X (e::es) t)(hj:j<=k:=by decide)(hg:Gl X x:=by rfl)(hdb:(x == ("__debug__":Str))=false:=by decide)
  (he:starEach (e::es) X.env=(false,eval e X.env)::starEach es X.env:=by rfl) (hpl:(backTo pos (starEach es X.env)).any (·.1)=false:=by rfl):PE X (.Call (.Name x p) (e::es) [] pos) (tCall sp [] E0 t):=by
 obtain⟨f,fd,F,b,kp,m⟩:=o.ex;exact pe_call (F.mono hj) hr hg m kp b .nil pass0 ha hdb he hpl
variable {C:St->Hp->Prop}{g:St->List Int}{n:Nat}{pre:List Int->Prop}
theorem Wl (o:Ok X.prog X.w X.K X.mg X.base j x ps (spB n pre F))(hr:Room k X.A)(ha:PA X (e::es) (tNs C g))(hn:∀σ,(g σ).length=n:=by intro _;rfl)(hj:j<=k:=by decide)(hg:Gl X x:=by rfl)
  (hdb:(x == ("__debug__":Str))=false:=by decide) (he:starEach (e::es) X.env=(false,eval e X.env)::starEach es X.env:=by rfl) (hpl:(backTo pos (starEach es X.env)).any (·.1)=false:=by rfl) :
  PE X (.Call (.Name x p) (e::es) [] pos) (tV (λσ H=>C σ H/\pre (g σ)) (λσ=>F (g σ)=true)):=
 λpins s σ H Q I h=>nO o hr ha hj hg hdb he hpl pins s σ H Q I ⟨h.1.1,g σ,hn σ,by rw[a8],h.1.2,by have q:=h.2;rw[du]at q;exact q⟩
end
structure nF (K:Fg)(mg:Mg)(x:Str)(st:Stmt)(ps:List Str):Prop where
 ex:∃f fd,Fun K x x st f fd/\Binds K fd ps []/\mg x=some (.ref f)
section
variable {P:Program}{w:World}{K:Fg}{mg:Mg}{base:Heap}
theorem nF.ok {x:Str}{st:Stmt}{N ps:Ls}{k:Nat}{sp:Sp}(d:nF K mg x st ps)(S:FnScope N ps (defScope st))(len:∀vs H Q E,sp vs H Q E->vs.length=ps.length)
  (hbody:∀(f:Addr) (cdv:Value) (A:Around) (outer:List Env) (s:Shared) (H:Hp) (vs:List V) (Q:VK) (E:XK),Room k (A.deeper (envOfC x (defScope st) s.heap.objs.size f cdv))->sp vs H Q E ->
   ∃t,PSs (cxOf CX0 P w K mg base N x (defScope st) f cdv A outer s H E).nox (defBody st) t/\t { nx:=λ_ H'=>Q .non H',rt:=Q } (start N vs) H):Ok P w K mg base (k+1) x ps sp:=by
 obtain⟨f,fd,F,b,m⟩:=d.ex;exact⟨f,fd,F.ok S len λcdv A outer s H vs Q E hr h=>hbody f cdv A outer s H vs Q E hr h,b,F.kp,m⟩
theorem nF.mk' {x:Str}{st:Stmt}{ps:Ls}{f:Addr}{fd:FuncData}(F:Fun K x x st f fd)(b:Binds K fd ps [])(m:mg x=some (.ref f)):nF K mg x st ps:=⟨f,fd,F,b,m⟩
end
theorem Ud:bootBuiltins "int"=some (.type "int"):=by decide +kernel
theorem WD:bootBuiltins "bool"=some (.type "bool"):=by decide +kernel
theorem wD:bootBuiltins "list"=some (.type "list"):=by decide +kernel
theorem Hm:bootBuiltins "tuple"=some (.type "tuple"):=by decide +kernel
theorem TY:bootBuiltins "len"=some (.builtin "len"):=by decide +kernel
theorem BW:bootBuiltins "isinstance"=some (.builtin "isinstance"):=by decide +kernel
def YM:V->Option Value
 | .ty n=>some (.type n)
 | .ref a=>some (.ref a)
 |_=>none
theorem SJ (h:YM c=some cv)(r:RelV c u):u=cv:=by
 cases c with
 |ty n=>cases h;exact r
 |ref a=>cases h;exact r
 |non=>cases h
 |bl _=>cases h
 |int _=>cases h
 |str _=>cases h
 |byt _=>cases h
 |flt _=>cases h
section
variable {X:Cx}
theorem Hr:CallR X (.builtin "isinstance") (λxs H Q=>∃x c t cv b,xs=[x,c]/\YM c=some cv/\TyOf X.K H x t/\W.kitOne X.K t cv=some b/\Q (.bl b) H):=by intro pins s σ H xs us Q I r h;obtain⟨x,c,t,cv,b,rfl,hc,ty,e,q⟩:=h;obtain⟨u,w',rfl,r1,r2⟩:=vals2 r;obtain rfl:=SJ hc r2;exact isinst_ok I r1 ty e λtk=>⟨.bl b,H,I.tok tk,rfl,q⟩
end
theorem Y4 {ns:Li}(h:ns.length=1):∃a,ns=[a]:=match ns,h with | [a],_=>⟨a,rfl⟩
theorem Z0 {ns:Li}(h:ns.length=2):∃a b,ns=[a,b]:=match ns,h with | [a,b],_=>⟨a,b,rfl⟩
theorem same_new (h:H p=none)(o:HO):Same H (upd H p o):=sy λb u q=>by rw[upd_ne (ne_of_none q h)];exact q
theorem bits_le (h:k.natAbs<2^n):Builtin.Int.intBits k<=n:=by
  unfold Builtin.Int.intBits;split
  . exact be _
  . have hk:k.natAbs≠0:=by
      rename_i c;intro z;apply c
      first | exact z | (have:k=0:=by omega
                         simp[this])|lia
    have:=(iG hk).mpr h;lia
theorem pP (ha:a.natAbs<2^n)(hb:b.natAbs<2^m)(hn:n<=1048576:=by decide)(hm:m<=1048576:=by decide):IntMulOk a b:=
 .of_bits (aH (bits_le ha) (aH hn (by decide))) (aH (bits_le hb) (aH hm (by decide)))
theorem uN (h:-(2^64)<b/\b<2^64):IntMulOk a b:=.of_right (intBits_le_64 h.1 h.2)
theorem yZ (h:-(2^64)<a/\a<2^64):IntMulOk a b:=.of_left (intBits_le_64 h.1 h.2)
abbrev Uw:Value->Shared->Prop:=λ_ _=>False
def Dk (cs:List Expr)(ev:Env):Sem Bool:=forIn cs true λc r=>if r=true then do let ok <- isTrue c ev (eval c ev);pure (ForInStep.yield ok) else pure (ForInStep.yield r)
section
variable {P:Program}{w:World}{A:Around}{R:Result->Shared->Prop}{s:Shared}
theorem PP (I:Nat->Shared->Prop)
  (turn:∀n s,I n s->wpAny (model P w) A (pyNext it) (λr s1=>(r=none/\R (.ok .next) s1)\/∃v,r=some v /\
   wpAny (model P w) A (letOwnedTupleGo tg it v) (λ_ s2=>wpAny (model P w) A (assign tg ev v) (λ_ s3=>wpAny (model P w) A (Dk cs ev) (λok s4=>
    if ok=true then wpAny (model P w) A (eval el ev) (λx s5=>wpAny (model P w) A (call (.builtin "list.append") [acc,x]) (λ_ s6=>∃m,m<n/\I m s6) Uw s5) Uw s4
    else ∃m,m<n/\I m s4) Uw s3) Uw s2) Uw s1) Uw s)
  (n:Nat) (h:I n s):codeAny (model P w) A (.compLoop (.ListComp el [⟨tg,src,cs,0⟩] sc at') 0 it acc ev) R s:=by
 refine codeAny_loop rfl I (λn s hI=>?_) n h;refine wpAny_noted (wpAny_noRaise ?_);rw[compTurn_list];refine aG (wpAny_standAt (aG (thn (turn n s hI) λr s1 h1=>?_)));rcases h1 with⟨rfl,h1⟩|⟨v,rfl,h1⟩
 ·exact bW h1
 ·refine aG (thn h1 λ_ s2 h2=>aG (thn h2 λ_ s3 h3=>aG (thn h3 λok s4 h4=>?_)));cases ok with
  |false=>exact bW ⟨rfl,h4⟩
  |true=>exact aG (aG (thn h4 λx s5 h5=>aG (thn h5 λ_ s6 h6=>bW (bW ⟨rfl,h6⟩))))
end
def rG (X:Cx)(sc:Scope)(cl:List (Str×Addr)):List Str->List (Option Nat)->Prop
 |[],[]=>True
 |_::xs,none::cs=>rG X sc cl xs cs
 |x::xs,some i::cs=>(X.N[i]?=some x/\Vis X.env.scope x/\X.env.kindOf x≠some .local/\((relabel sc X.env).names.lookup x=some .cell\/(relabel sc X.env).names.lookup x=some .free)/\∃c,cl.lookup x=some c/\X.env.cells.lookup x=some c)/\rG X sc cl xs cs
 |_,_=>False
def Kv (ev:Env):List (Str×Addr)->Prop
 |[]=>True
 |(x,c)::r=>ev.cells.lookup x=some c/\Kv ev r
theorem Kv.look:∀{cl:List (Str×Addr)},Kv ev cl->∀{x:Str} {c:Addr},cl.lookup x=some c->ev.cells.lookup x=some c
 |[],_,x,c,h=>by simp at h
 |(y,d)::r,q,x,c,h=>by
  rw[List.lookup_cons]at h;cases e:x == y with
  |true=>
   rw[e]at h;have e':x=y:=by simpa using e
   subst e';cases h;exact q.1
  |false=>rw[e]at h;exact Kv.look q.2 h
def pI (cap:List (Option Nat))(σ:St):St:=cap.map λo=>match o with
 |some i=>(σ[i]?).join
 |none=>none
def jB (X:Cx)(N':List Str)(sc:Scope)(cl:List (Str×Addr))(s:Shared)(H:Hp)(fp:List Addr):Cx:=
 { X with N:=N',s₀:=s,H₀:=H,env:=compEnvC sc cl s.heap.objs.size X.env,outer:=X.stack,ex:=fp,fn:=λ_=>false,pn:=[],xe:=Uw }
section
variable {X:Cx}{pins:List (Addr×Obj)}{σ:St}{H:Hp}{s:Shared}{N':List Str}{sc:Scope}{cl:List (Str×Addr)}{cap:List (Option Nat)}{fp:List Addr}
theorem rG.length {X:Cx}{sc:Scope}{cl:List (Str×Addr)}:∀{N':Ls} {cap:List (Option Nat)},rG X sc cl N' cap->cap.length=N'.length
 |[],[],_=>rfl
 |_::xs,none::cs,h=>by have:=rG.length (X:=X) (sc:=sc) (cl:=cl) (N':=xs) (cap:=cs) h;simp[this]
 |_::xs,some i::cs,h=>by have:=rG.length (X:=X) (sc:=sc) (cl:=cl) (N':=xs) (cap:=cs) h.2;simp[this]
 |[],_::_,h=>h.elim
 |_::_,[],h=>h.elim
theorem rG.at:∀{N':Ls} {cap:List (Option Nat)} {j:Nat},rG X sc cl N' cap->N'[j]?=some x->cap[j]?=some (some i) ->
  X.N[i]?=some x/\Vis X.env.scope x/\X.env.kindOf x≠some .local/\((relabel sc X.env).names.lookup x=some .cell\/(relabel sc X.env).names.lookup x=some .free)/\∃c,cl.lookup x=some c/\X.env.cells.lookup x=some c
 |[],[],j,_,h,_=>by simp at h
 |_::xs,none::cs,0,_,_,h=>by simp at h
 |_::xs,none::cs,j+1,q,h1,h2=>rG.at (N':=xs) (cap:=cs) (j:=j) q (by simpa using h1) (by simpa using h2)
 |y::xs,some k::cs,0,q,h1,h2=>by
  have e1:y=x:=by simpa using h1
  have e2:k=i:=by simpa using h2
  subst e1 e2;exact q.1
 |_::xs,some _::cs,j+1,q,h1,h2=>rG.at (N':=xs) (cap:=cs) (j:=j) q.2 (by simpa using h1) (by simpa using h2)
 |[],_::_,_,h,_,_=>h.elim
 |_::_,[],_,h,_,_=>h.elim
theorem Inv.block (I:Inv X pins σ H s)(hk:sc.kind=.function)(hcap:rG X sc cl N' cap)(sub:Kv X.env cl)
  (has:∀x,((relabel sc X.env).names.lookup x=some .cell\/(relabel sc X.env).names.lookup x=some .free)->∃c,cl.lookup x=some c)
  (hf:∀b∈fp,FpOk X pins H b) (hfo:∀b∈fp,∃o,s.heap.get? b=some o) (hns:h'.Ns s.heap.objs.size m) (hsb:Heap.SameBut s.heap.objs.size (s.heap.push o) h') :
  Inv (jB X N' sc cl s H fp) [] (pI cap σ) H { s with heap:=h',toks:=tk }:=by
 have keep:∀b u,s.heap.get? b=some u->h'.get? b=some u:=λb u e=>
  (hsb.2 b (bn (aA e))).trans (az _ e)
 refine⟨⟨I.ok.mod,hk,I.ok.glob,I.ok.blt,ao _,λx y c h1 h2=>I.ok.inj x y c (sub.look h1) (sub.look h2),has,(λx c h _=>nomatch h),I.ok.hd,I.ok.frames,.inl rfl,
  λb hb=>⟨?_,λx c e=>(hf b hb).2.2.2.2.1 x c (sub.look e)⟩,I.bs,aH I.ok.bsz I.sz,λb u e hb=>?_,λb hb hb'=>?_,I.stack,I.env0.frf⟩,
  rfl,I.bare,Un.kept keep,⟨m,hns,λj x v h1 h2 h3=>?_⟩,λx c e=>?_,I.hok.fresh (ao _),λx c e=>I.freeC x c (sub.look e),λp hp=>absurd (show p∈([]:List (Addr×Obj)) from hp) (by simp),I.hok.kept keep,?_⟩
 ·obtain⟨u,e⟩:=hfo b hb;exact bn (aA e)
 ·rcases (hf b hb).2.2.2.1 with z|z
  ·exact I.ok.noex b u e z
  ·exact absurd (aD (aA e) (aH I.ok.bsz z)) (cY _)
 ·rcases aF.mp (I.stkSub b hb') with z|z
  ·exact(hf b hb).2.1 z
  ·exact(hf b hb).2.2.1 z
 ·obtain⟨m0,hn0,hl0⟩:=I.loc;have h2':((cap.map λo=>match o with|some i=>(σ[i]?).join|none=>none):St)[j]?=some (some v):=h2
  rw[aw]at h2';cases e:cap[j]? with
  |none=>rw[e]at h2';cases h2'
  |some oi=>
   rw[e]at h2';cases oi with
   |none=>cases h2'
   |some i=>
    have h4:(σ[i]?).join=some v:=aB h2';have h5:σ[i]?=some (some v):=by
     cases z:σ[i]? with
     |none=>rw[z]at h4;cases h4
     |some y=>rw[z]at h4;cases h4;rfl
    obtain⟨a1,a2,a3,a4,c,a5,a6⟩:=hcap.at h1 e;obtain⟨u,r,l⟩:=hl0 i x v a1 h5 a2;refine⟨u,r,.inr ⟨a4,c,a5,?_⟩⟩;rcases l with⟨k,_⟩|⟨_,c',e',ic⟩
    ·exact absurd k a3
    ·rw[a6]at e';cases e';obtain⟨oc,h7,h8⟩:=ic;exact⟨oc,keep _ _ h7,h8⟩
 ·obtain⟨v,oc,h7,h8⟩:=I.cell x c (sub.look e);exact⟨v,oc,keep _ _ h7,h8⟩
 ·unfold pI;rw[aa];exact hcap.length
theorem Inv.Wm (I:Inv X pins σ H s)(hf:∀b∈fp,FpOk X pins H b)(J:Inv (jB X N' sc cl s H fp) pins' σ' H' s'):Inv X pins σ H' s':=
 I.call' (ch:=fp) J.os J.base J.hok J.bare λb hb=>⟨(hf b hb).2.2.2.1,(hf b hb).2.1,(hf b hb).2.2.2.2.1,(hf b hb).2.2.2.2.2⟩
end
def BJ:St->St->Prop
 |[],[]=>True
 |none::a,_::b=>BJ a b
 |some v::a,y::b=>y=some v/\BJ a b
 |_,_=>False
theorem BJ.at:∀{a b:St},BJ a b->∀(i:Nat) (v:V),a[i]?=some (some v)->b[i]?=some (some v)
 |[],[],_,i,v,h=>by simp at h
 |none::a,_::b,q,0,v,h=>by simp at h
 |none::a,_::b,q,i+1,v,h=>by have:=BJ.at (a:=a) (b:=b) q i v (by simpa using h);simpa using this
 |some u::a,y::b,q,0,v,h=>by
  have e:u=v:=by simpa using h
  rw[q.1,e];rfl
 |some u::a,y::b,q,i+1,v,h=>by have:=BJ.at (a:=a) (b:=b) q.2 i v (by simpa using h);simpa using this
 |[],_::_,q,_,_,_=>q.elim
 |none::_,[],q,_,_,_=>q.elim
 |some _::_,[],q,_,_,_=>q.elim
def Z8 (X:Cx)(cs:List Expr)(t:TT):Prop:=
 ∀(pins:List (Addr×Obj)) (s:Shared) (σ:St) (H:Hp) (Q:Bool->Hp->Prop),Inv X pins σ H s->t σ H Q->wpAny (model X.prog X.w) X.A (Dk cs X.env) (TP X pins σ Q) X.xe s
theorem qg:Z8 X [] (λ_ H Q=>Q true H):=λ_ _ _ H _ I h=>wpAny_tests_nil ⟨H,I,h⟩
theorem NP (h:PT X c t):Z8 X [c] t:=λpins s σ H Q I q=>wpAny_tests_one (h pins s σ H Q I q)
def lcW (D:Addr)(J:It)(σ:St)(g:TG)(tt:TT)(te:TE)(Q:VK)(W:Nat->Nat->List V->Hp->Prop):Prop:=
 ∀i m ys H,W i m ys H->H D=some (.lst ys)/\ys.length<sizeLine /\
  ((J.stop i H/\Q (.ref D) H)\/(J.go i H/\∀x H',J.yld i H x H' -> g x σ H' λσ2 H2=>BJ σ σ2/\tt σ2 H2 λok H3=>
   if ok=true then te σ2 H3 λy H4=>H4 D=some (.lst ys)/\∃m',m'<m/\W (i+1) m' (ys++[y]) (upd H4 D (.lst (ys++[y])))
   else ∃m',m'<m/\W (i+1) m' ys H3))
def Su (cap:List (Option Nat))(wi:TI)(g:TG)(tt:TT)(te:TE):TE:=λσ H Q=>wi σ H λJ H1=>∀D,H1 D=none->∃W:Nat->Nat->List V->Hp->Prop,(∃m,W 0 m [] (upd H1 D (.lst [])))/\lcW D J (pI cap σ) g tt te Q W
section
variable {X:Cx}{pins:List (Addr×Obj)}{σ:St}{H:Hp}{s:Shared}{N':List Str}{sc:Scope}{cl:List (Str×Addr)}{cap:List (Option Nat)}{fp:List Addr}
 {el tg src:Expr} {cs:List Expr} {at':Pos} {g:TG} {tt:TT} {te:TE} {J:It} {it:Addr} {tn:Nat->Heap->Prop} {Q:VK}
structure vG (X:Cx)(N':List Str)(sc:Scope)(cl:List (Str×Addr))(cap:List (Option Nat)):Prop where
 kind:sc.kind=.function
 clos:closureFor sc X.env=pure cl
 nocell:∀y∈sc.names,y.2 ≠ .cell
 names:∀y∈sc.names,y.2=.local->sc.names.lookup y.1=some .local
 cap:rG X sc cl N' cap
 sub:Kv X.env cl
 has:∀x,((relabel sc X.env).names.lookup x=some .cell\/(relabel sc X.env).names.lookup x=some .free)->∃c,cl.lookup x=some c
theorem oZ (kind:sc.kind=.function)(clos:closureFor sc X.env=pure cl)(h1:(sc.names.all λy=>y.2 != .cell)=true)(h2:(sc.names.all λy=>y.2 != .local || sc.names.lookup y.1 == some .local)=true)
  (hcap:rG X sc cl N' cap) (sub:Kv X.env cl) (h3:((relabel sc X.env).names.all λy=>(y.2 != .cell && y.2 != .free) || (cl.lookup y.1).isSome)=true):vG X N' sc cl cap:=by
 refine⟨kind,clos,λy hy e=>?_,λy hy e=>?_,hcap,sub,λx hx=>?_⟩
 ·have q:=dC.mp h1 y hy;rw[e]at q;exact absurd q (by decide)
 ·have q:=dC.mp h2 y hy;rw[e]at q;simpa using q
 ·have key:∀k,(k=NameKind.cell\/k=NameKind.free)->(relabel sc X.env).names.lookup x=some k->∃c,cl.lookup x=some c:=λk hk e=>by
   have q:=dC.mp h3 _ (de e);rcases hk with rfl|rfl
   ·exact cU.mp (by simpa using q)
   ·exact cU.mp (by simpa using q)
  rcases hx with e|e
  ·exact key _ (.inl rfl) e
  ·exact key _ (.inr rfl) e
theorem Dh (L:vG X N' sc cl cap)(hc:X.calm=true)(I:Inv X pins σ H s)(T:Turn X.prog X.w X.K tg J fp it tn)(st:tn 0 s.heap)(hf:∀b∈fp,FpOk X pins H b)
  (hg:∀s H fp,PG (jB X N' sc cl s H fp) tg g) (ht:∀s H fp,Z8 (jB X N' sc cl s H fp) cs tt) (he:∀s H fp,PE (jB X N' sc cl s H fp) el te)
  (rd:∀D,H D=none->∃W:Nat->Nat->List V->Hp->Prop,(∃m,W 0 m [] (upd H D (.lst [])))/\lcW D J (pI cap σ) g tt te Q W)
  {Ex:Value->Shared->Prop} {RR:Value->Addr->Result->Shared->Prop} (hR:∀D C m H' s',Inv X pins σ H' s' -> s'.heap.Ns C m->FpOk X pins H' C->Q (.ref D) H' -> RR (.ref D) C (.ok .next) s') :
  wpAny (model X.prog X.w) X.A (newList []) (λacc s3=>wpAny (model X.prog X.w) X.A (newFunctionEnv sc X.env.globals cl [] X.env.qual none .none (some X.env)) (λcv s4=>
   codeAny (model X.prog X.w) X.A (.compStart (.ListComp el [⟨tg,src,cs,0⟩] sc at') 0 (.ref it) acc { cv with scope:=relabel sc X.env }) (RR acc cv.locals) s4) Ex s3) Ex s:=by
 obtain⟨W,⟨m0,w0⟩,step⟩:=rd _ I.fresh;refine wpAny_newObj_type (fI L.nocell (by intro y hy;simp at hy) (λh1 hns hsb=>?_) L.kind);have I3:Inv X pins σ (upd H s.heap.objs.size (.lst [])) { s with heap:=s.heap.push { cls:=.type "list",dict:=none,data:=.seq ([]:List Value).toArray } }:=I.lnew (its:=[]) (t':=s.toks) .nil (by show 0<=sizeLine;decide);have hfo:∀b∈fp,∃o,s.heap.get? b=some o:=λb hb=>let ⟨o,e,_⟩:=T.obj 0 s.heap st b hb;⟨o,e⟩
 have hf3:∀b∈fp,FpOk X pins (upd H s.heap.objs.size (.lst [])) b:=λb hb=>by obtain⟨o,e⟩:=hfo b hb;exact⟨by rw[upd_ne (bn (aA e))];exact(hf b hb).1,(hf b hb).2⟩
 dsimp only at hns hsb ⊢;generalize hs3:({ s with heap:=s.heap.push { cls:=.type "list",dict:=none,data:=.seq ([]:List Value).toArray } }:Shared)=s3 at I3 hns hsb ⊢;have hh3:s3.heap=s.heap.push { cls:=.type "list",dict:=none,data:=.seq ([]:List Value).toArray }:=by rw[<- hs3]
 have hns:h1.Ns s3.heap.objs.size (λx=>List.lookup x ([]:List (Str×Value)).reverse):=by rw[hh3];exact hns
 have hsb:Heap.SameBut s3.heap.objs.size (s3.heap.push { cls:=.type (if (some X.env).isSome=true then "dict" else "frame"),data:=.dict #[] }) h1:=by rw[hh3];exact hsb
 have hk3:∀b o,s.heap.get? b=some o->s3.heap.get? b=some o:=λb o e=>by rw[hh3];exact az _ e
 have J0:=I3.block (N':=N') (cap:=cap) (fp:=fp) (tk:=s3.toks+([]:List (Str×Value)).length) L.kind L.cap L.sub L.has hf3 (λb hb=>let ⟨o,e⟩:=hfo b hb;⟨o,hk3 b o e⟩) hns hsb
 have st1:tn 0 h1:=T.keep 0 s.heap h1 st λb hb o e=>(hsb.2 b (bn (aA (hk3 b o e)))).trans (az _ (hk3 b o e));have fpx:∀{H':Hp},(∀b∈fp,H' b=none)->∀b∈fp,FpOk (jB X N' sc cl s3 (upd H s.heap.objs.size (.lst [])) fp) [] H' b:=λhn b hb=>by
  obtain⟨o,e⟩:=hfo b hb;refine⟨hn b hb,bn (aA (hk3 b o e)),λhb'=>?_,.inl hb,λx c q=>(hf b hb).2.2.2.2.1 x c (L.sub.look q),λp hp=>absurd (show p∈([]:List (Addr×Obj)) from hp) (by simp)⟩;rcases aF.mp (I.stkSub b hb') with z|z
  ·exact(hf b hb).2.1 z
  ·exact(hf b hb).2.2.1 z
 have loop:∀s4:Shared,s4={ s3 with heap:=h1,toks:=s3.toks+([]:List (Str×Value)).length } ->
   codeAny (model X.prog X.w) X.A (.compLoop (.ListComp el [⟨tg,src,cs,0⟩] sc at') 0 (.ref it) (.ref s.heap.objs.size) (compEnvC sc cl s3.heap.objs.size X.env)) (RR (.ref s.heap.objs.size) s3.heap.objs.size) s4:=by
  rintro s4 rfl;refine PP (λn s'=>∃i ys H',Inv (jB X N' sc cl s3 (upd H s.heap.objs.size (.lst [])) fp) [] (pI cap σ) H' s'/\tn i s'.heap/\(∀b∈fp,H' b=none)/\W i n ys H') ?_ m0 ⟨0,[],_,J0,st1,λb hb=>(hf3 b hb).1,w0⟩;rintro n s' ⟨i,ys,H',Ji,sti,fri,wi⟩;obtain⟨hD,hlen,hgo⟩:=step i n ys H' wi;rcases hgo with⟨hstop,hq⟩|⟨hgo,hbody⟩
  ·refine thn (T.done (jB X N' sc cl s3 (upd H s.heap.objs.size (.lst [])) fp) rfl rfl rfl hc i [] s' _ H' Uw Ji (fpx fri) sti hstop) λr s1 ⟨hr,J1⟩=>.inl ⟨hr,?_⟩;obtain⟨m1,hm1,_⟩:=J1.loc;exact hR _ _ m1 H' s1 (I3.Wm hf3 J1) hm1 (I3.fpOk (ao _) J1.free) hq
  ·refine thn (T.item (jB X N' sc cl s3 (upd H s.heap.objs.size (.lst [])) fp) rfl rfl rfl hc i [] s' _ H' Uw Ji (fpx fri) sti hgo) λr s1 ⟨u,hr,h4⟩=>.inr ⟨u,hr,thn h4 λ_ s5 ⟨x,H5,J5,r5,y5,st5,fr5⟩=>?_⟩;have J5':=J5.pinned (fpx fr5) (T.obj _ _ st5);refine thn (hg _ _ _ _ s5 _ H5 x u _ J5' r5 (hbody x H5 y5)) λ_ s6 ⟨σ6,H6,J6,ext,q6⟩=>?_;have endT:∀{ys':List V} {H7:Hp} {s7:Shared} {m':Nat},Inv (jB X N' sc cl s3 (upd H s.heap.objs.size (.lst [])) fp) ([]++pinsAt fp s5.heap) σ6 H7 s7->m'<n->W (i+1) m' ys' H7 ->
     ∃m,m<n/\∃i ys H',Inv (jB X N' sc cl s3 (upd H s.heap.objs.size (.lst [])) fp) [] (pI cap σ) H' s7/\tn i s7.heap/\(∀b∈fp,H' b=none)/\W i m ys H':=λ{ys' H7 s7 m'} J7 hm w7=>by
    refine⟨m',hm,i+1,ys',H7,(J7.unpinned).weak ?_ λj v z=>ext.at j v z,T.keep _ _ _ st5 λb hb o e=>(J7.pin (b,o) (aN _ (aN _ (mem_pinsAt hb e)))).1,λb hb=>?_,w7⟩
    ·rw[J7.len,Ji.len]
    ·obtain⟨o,e,_⟩:=T.obj _ _ st5 b hb;exact(J7.pin (b,o) (aN _ (aN _ (mem_pinsAt hb e)))).2.1
   refine thn (ht _ _ _ _ s6 _ H6 _ J6 q6) λok s7 ⟨H7,J7,q7⟩=>?_;cases ok with
   |false=>obtain⟨m',hm,w7⟩:=q7;exact endT J7 hm w7
   |true=>refine thn (he _ _ _ _ s7 _ H7 _ J7 q7) λy s8 ⟨yv,H8,J8,r8,hD8,m',hm,w8⟩=>?_;exact thn (mt_append _ s8 _ H8 (.ref s.heap.objs.size) [yv] (.ref s.heap.objs.size) [y] (λv H9=>H9=upd H8 s.heap.objs.size (.lst (ys++[yv]))) J8 rfl (.cons r8 .nil) ⟨_,ys,yv,rfl,rfl,hD8,hlen,rfl⟩) λ_ s9 ⟨_,H9,J9,_,e9⟩=>by subst e9;exact endT J9 hm w8
 subst hs3;exact codeAny_compStart_list (loop _ rfl) (T.self _ 0 _ _ _ st1 (loop _ rfl))
theorem yo (L:vG X N' sc cl cap)(hc:X.calm=true)(hi:PI X tg src wi)(hg:∀s H fp,PG (jB X N' sc cl s H fp) tg g)(ht:∀s H fp,Z8 (jB X N' sc cl s H fp) cs tt)(he:∀s H fp,PE (jB X N' sc cl s H fp) el te)
  (hs:∀x,foldedSetIterable src X.env x=pure x:=by intro _;rfl):PE X (.ListComp el [⟨tg,src,cs,0⟩] sc at') (Su cap wi g tt te):=by
 intro pins s σ H Q I h;rw[eval_ListComp];refine wpAny_comprehension_free (use:=none) rfl hs L.clos L.kind L.names (thn (hi pins s σ H _ I h) λv s1 h1=>thn h1 λitv s2 h2=>?_);obtain⟨it,fp,tn,J,H2,rfl,I2,T,st2,f2,rd⟩:=h2;refine Dh L hc I2 T st2 f2 hg ht he rd (RR:=λacc C=>compPost (model X.prog X.w) X.A X.xe none (EP X pins σ Q) acc C) λD C m H' s' J' hn fC q=>?_;refine⟨m,hn,λh' sb=>⟨.ref D,H',J'.turned (t':=s'.toks) (λb o hb e=>(sb.2 b hb).trans e) fC.1 fC.2.1 fC.2.2.2.1 fC.2.2.2.2.1 fC.2.2.2.2.2,rfl,q⟩⟩
theorem Rz (hN:X.N.Nodup)(hi':X.N[i]?=some x)(hx:X.env.scope.names.lookup x=some .local)(L:vG X N' sc cl cap)(hc:X.calm=true)(hi:PI X tg src wi)(hg:∀s H fp,PG (jB X N' sc cl s H fp) tg g)
  (ht:∀s H fp,Z8 (jB X N' sc cl s H fp) cs tt) (he:∀s H fp,PE (jB X N' sc cl s H fp) el te) (hsw:swapsWith (.ListComp el [⟨tg,src,cs,0⟩] sc at') (some (.Name x px)) spos.line X.env=pure true)
  (hs:∀x,foldedSetIterable src X.env x=pure x:=by intro _;rfl):PS X (.Assign [.Name x px] (.ListComp el [⟨tg,src,cs,0⟩] sc at') spos) (tAsg (Su cap wi g tt te) (gName i)):=by
 intro pins s σ H D I h;rw[exec_Assign_Name_used _ _ _ _ hsw];refine aG (wpAny_standAt (aG ?_));refine aG (thn (wpAny_comprehension_free (use:=some (assign (.Name x px) X.env)) (Q:=λ_ s'=>SP X pins D .next s') rfl hs L.clos L.kind L.names (thn (hi pins s σ H _ I h) λv s1 h1=>thn h1 λitv s2 h2=>?_)) λ_ s' q=>bW (bW q));obtain⟨it,fp,tn,J,H2,rfl,I2,T,st2,f2,rd⟩:=h2;refine Dh L hc I2 T st2 f2 hg ht he rd (RR:=λacc C=>compPost (model X.prog X.w) X.A X.xe (some (assign (.Name x px) X.env)) (λ_ s'=>SP X pins D .next s') acc C) λD' C m H' s' J' hn fC q=>?_;obtain⟨oC,es,ep,hoC,hdC,hr⟩:=hn;have Jp:Inv X (pins++[(C,oC)]) σ H' s':=J'.pins_of λp hp=>by
  rcases c8.mp hp with z|z
  ·exact J'.pin p (aN _ z)
  ·have e:p=(C,oC):=by simpa using z
   subst e;exact⟨hoC,fC.1,fC.2.1,fC.2.2.1,λv z=>by rw[hdC]at z;cases z⟩
 refine thn (pg_name (i:=i) hN hi' (.inl hx) (.inr hx) _ s' σ H' (.ref D') (.ref D') (λσ' H''=>D.nx σ' H'') Jp rfl q) λ_ s'' ⟨σ',H'',J2,q2⟩=>?_;obtain⟨p1,p2,p3,p4,p5⟩:=J2.pin (C,oC) (aN _ (aN _ (by simp)));refine⟨m,⟨oC,es,ep,p1,hdC,hr⟩,λh' sb=>⟨σ',H'',(J2.pins_of (pins':=pins) λp hp=>J2.pin p (aN _ (cI _ hp))).turned (t':=s''.toks) (λb o hb e=>(sb.2 b hb).trans e) p2 fC.2.1 fC.2.2.2.1 fC.2.2.2.2.1 fC.2.2.2.2.2,q2⟩⟩
end
theorem ObjOk.get (x:ObjOk P w H h a o):∃ob,h.get? a=some ob:=by
 cases o with
 |lst xs=>obtain⟨_,_,_,_,e⟩:=x;exact⟨_,e⟩
 |tup xs=>obtain⟨_,_,_,ob,e,_⟩:=x;exact⟨ob,e⟩
 |dK kvs=>obtain⟨_,_,_,_,o,_,_,e,_⟩:=x;exact⟨o,e⟩
 |dT kvs=>obtain⟨_,_,_,_,o,_,_,e,_⟩:=x;exact⟨o,e⟩
 |set S n=>obtain⟨o,_,_,_,e,_⟩:=x;exact⟨o,e⟩
 |ins C dx fs=>obtain⟨_,_,_,e,_⟩:=x;exact⟨_,e⟩
 |own y=>exact x
 |xd fs=>obtain⟨_,⟨o,_,_,e,_⟩,_⟩:=x;exact⟨o,e⟩
 |rng lo hi=>obtain⟨_,_,_,e⟩:=x;exact⟨_,e⟩
 |frz ob u=>obtain⟨e,_⟩:=x;exact⟨ob,e⟩
 |tbl ps=>exact⟨_,x.1⟩
 |met f y=>exact⟨_,(show h.get? a=some _ from x)⟩
 |ext φ=>obtain⟨_,e,_⟩:=x;exact e
structure Lft (fr as:List Addr)(h h2:Heap)(a:Addr)(cls:Value):Prop where
 keep:∀b o,h.get? b=some o->b∉as->h2.get? b=some o
 slot:∀b o,b∈fr->h.get? b=some o->∃sl,h2.get? b=some { o with slots:=sl }
 ex:∃oe vs T oT ts,h2.get? a=some oe/\oe.cls=cls/\oe.dict=none/\oe.data=.fields vs/\vs[1]?=some (.ref T)/\h.get? T=none/\T≠a/\h2.get? T=some oT/\oT.data=.fields ts/\ts[3]?=some .none
theorem Bq (f:Array Value->Array Value)(o:Obj):(Obj.mapFields f o).dict=o.dict:=by unfold Obj.mapFields;split<;>rfl
section
variable {M:Model}{A:Around}{E:Value->Shared->Prop}{s:Shared}{base:Heap}{env:Env}{outer:List Env}{L a:Addr}{oe:Obj}{vs:Array Value}{as:List Addr}{Q:Unit->Shared->Prop}
theorem Dj (hfr:A.frames=some (env::outer))(hl:s.heap.FunFrames base (env::outer))(hf:env.frame=some L)(he:s.heap.get? a=some oe)(hdn:oe.dict=none)(hd:oe.data=.fields vs)(hsz:1<vs.size)
  (haa:a∈as) (hfs:∀b∈frs (env::outer),b∈as) (h:∀h',Lft (frs (env::outer)) as s.heap h' a oe.cls->Q () { s with heap:=h' }) :
  wpAny M A (do let x <- frameOf env;let pl <- entryPlaceOf L hadNext;let b <- EntryCells.newEntry head x .none (rawInt L) .none pl;setField (.ref a) 1 b) (λ_ s'=>wpAny M A (setFlight (.ref a) none) Q E s') E s:=by
 have hna:a∉frs (env::outer):=λz=>by obtain⟨_,o,e,d⟩:=hl.mem z;rw[he]at e;cases e;exact d vs hd
 refine aG (wpAny_frameOf_fun hfr hl hf λh1 so=>aG (wpAny_entryPlaceOf λpl hpl=>?_));unfold EntryCells.newEntry newFields;refine aG (wpAny_newObj_type ?_ (hpl.sizeOk5 _ _ _ _ _));have e1:h1.get? a=some oe:=(so.2.1 a hna).trans he;have nT:h1.objs.size≠a:=dM (aA e1);generalize hts:([head,Value.ref L,Value.none,rawInt L,Value.none]++(if pl.isEmpty then List.replicate 6 Value.none else pl)).toArray=ts;have lt3:3<ts.size:=by rw[<- hts];simp
 have e2:=az (h:=h1) { cls:=.type "traceback",dict:=none,data:=.fields ts } e1;have t2:=bc h1 (o:={ cls:=.type "traceback",dict:=none,data:=.fields ts }) rfl;refine wpAny_setField e2 hd hsz ?_;have d3:=eV hd (·.setIfInBounds 1 (Value.ref h1.objs.size));have e3:=dN (Obj.mapFields (·.setIfInBounds 1 (Value.ref h1.objs.size))) e2 (fh d3);have t3:=(bU (h1.push { cls:=.type "traceback",dict:=none,data:=.fields ts }) (Obj.mapFields (·.setIfInBounds 1 (Value.ref h1.objs.size))) (ck nT)).trans t2;refine wpAny_setFlight_none (vs:=vs.setIfInBounds 1 (.ref h1.objs.size)) e3 d3 (by simp[hsz]) t3 rfl lt3 (h _ ⟨λb o q nb=>?_,λb o q eb=>?_,?_⟩)
 ·have q1:h1.get? b=some o:=(so.2.1 b λz=>nb (hfs b z)).trans q;have ba:b≠a:=λz=>nb (z ▸ haa);rw[bU _ _ (dM (aA q1)),bU _ _ (ck ba)];exact az _ q1
 ·obtain⟨sl,q1⟩:=so.2.2 b o eb;have ba:b≠a:=λz=>hna (z ▸ q);refine⟨sl,?_⟩;rw[bU _ _ (dM (aA q1)),bU _ _ (ck ba)];exact az _ q1
 ·refine⟨_,_,h1.objs.size,_,_,(bU _ _ nT).trans e3,Obj.cls_mapFields _ _,?_,d3,by simp[hsz],?_,nT,dN _ t3 (fh (eV rfl _)),eV rfl _,by simp[lt3]⟩
  ·rw[Bq];exact hdn
  ·cases q:s.heap.get? h1.objs.size with
   |none=>rfl
   |some o=>obtain⟨sl,q1⟩:=so.2.2 _ o q;exact absurd (aA q1) (cY _)
theorem Jr (hfr:A.frames=some (env::outer))(hl:s.heap.FunFrames base (env::outer))(hf:env.frame=some L)(he:s.heap.get? a=some oe)(hdn:oe.dict=none)(hd:oe.data=.fields vs)(h1:vs[1]?=some .none)
  (haa:a∈as) (hfs:∀b∈frs (env::outer),b∈as) (h:∀h',Lft (frs (env::outer)) as s.heap h' a oe.cls->Q () { s with heap:=h' }) :
  wpAny M A (noteFrame (.ref a) env) (λ_ s'=>wpAny M A (setFlight (.ref a) none) Q E s') E s:=by
 unfold noteFrame;simp only[hf];refine aG (wpAny_field he hd h1 ?_);rw[ae (by decide)];exact Dj hfr hl hf he hdn hd (dZ.mp h1).1 haa hfs h
theorem N8 (hfr:A.frames=some (env::outer))(hl:s.heap.FunFrames base (env::outer))(hf:env.frame=some L)(he:s.heap.get? a=some oe)(hdn:oe.dict=none)(hd:oe.data=.fields vs)(h1:vs[1]?=some (.ref T))
  (hTa:T≠a) (hT:s.heap.get? T=some oT) (hdT:oT.data=.fields ts) (h3:ts[3]?=some .none)
  (haa:a∈as) (hTT:T∈as) (hfs:∀b∈frs (env::outer),b∈as) (h:∀h',Lft (frs (env::outer)) as s.heap h' a oe.cls->Q () { s with heap:=h' }) :
  wpAny M A (noteFrame (.ref a) env) (λ_ s'=>wpAny M A (setFlight (.ref a) none) Q E s') E s:=by
 unfold noteFrame;simp only[hf];refine aG (wpAny_field he hd h1 ?_);rw[af (show(Value.ref T != Value.none)=true from by simp)];refine aG (wpAny_field hT hdT h3 ?_);rw[ae (show ¬((Value.none == rawInt L)=true) from by simp[rawInt])];refine aG (wpAny_setField hT hdT (dZ.mp h3).1 ?_);have nT:T∉frs (env::outer):=λz=>by obtain⟨_,o,e,d⟩:=hl.mem z;rw[hT]at e;cases e;exact d ts hdT
 have oth:∀b,b≠T->(s.heap.update T (Obj.mapFields (·.setIfInBounds 3 Value.none))).get? b=s.heap.get? b:=λb hb=>bU _ _ (ck hb);have selfT:=dN (Obj.mapFields (·.setIfInBounds 3 Value.none)) hT (fh (eV hdT _));refine Dj hfr (hl.of_keeps λb o hb hnf=>⟨o,(oth b (λz=>by rw[z,hT]at hb;cases hb;exact hnf ts hdT)).trans hb,rfl⟩) hf ((oth a (ck hTa)).trans he) hdn hd (dZ.mp h1).1 haa hfs λh' q=>h h' ⟨λb o e nb=>?_,λb o z e=>?_,?_⟩
 ·exact q.keep b o ((oth b λz=>nb (z ▸ hTT)).trans e) nb
 ·exact q.slot b o z ((oth b λy=>nT (y ▸ z)).trans e)
 ·obtain⟨oe',vs',T',oT',ts',x1,x2,x3,x4,x5,x6,x7⟩:=q.ex;refine⟨oe',vs',T',oT',ts',x1,x2,x3,x4,x5,?_,x7⟩;rw[<- oth T' (λz=>by rw[z,selfT]at x6;cases x6)];exact x6
end
structure Fly (h0:Heap)(H:Hp)(h:Heap)(a:Addr)(cls:Value):Prop where
 ex:∃oe vs T oT ts,h.get? a=some oe/\oe.cls=cls/\oe.dict=none/\oe.data=.fields vs/\vs[1]?=some (.ref T)/\T≠a/\h.get? T=some oT/\oT.data=.fields ts/\ts[3]?=some .none/\H T=none/\h0.get? T=none
 un:H a=none
 new:h0.get? a=none
def Ng (P:Program)(w:World):CXT:=λouter H s E e s'=>∃a cls H',e=.ref a/\s'.os=s.os/\AllBare s'.gens/\Un (frs outer) [] H H' s.heap s'.heap/\HOk P w H' s'.heap/\Fly s.heap H' s'.heap a cls/\E cls none H'
section
variable {X:Cx}{pins:List (Addr×Obj)}{σ:St}{H1 H':Hp}{s1 s':Shared}{a:Addr}{cls:Value}{E:XK}
theorem tG {base h h':Heap}:∀{l:List Env},h.FunFrames base l->(∀b∈frs l,∀o,h.get? b=some o->∃sl,h'.get? b=some { o with slots:=sl })->h'.FunFrames base l
 |[],_,_=>tJ
 |ev::r,hl,k=>by
  obtain⟨hk,⟨L,o,hf,hn,ho,hd⟩,hr⟩:=hl;have e:frs (ev::r)=L::frs r:=by unfold frs;rw[bB,hf]
  obtain⟨sl,q⟩:=k L (by rw[e];exact ah) o ho;exact⟨hk,⟨L,_,hf,hn,q,hd⟩,tG hr λb hb=>k b (by rw[e];exact ad _ hb)⟩
theorem Inv.J4 (I:Inv X pins σ H1 s1)(u:Un (frs X.stack) [] H1 H' s1.heap s'.heap):s'.heap.FunFrames X.base X.stack:=
 tG I.stack λb hb o e=>u.slot b o e (I.stkFree b hb) hb (by simp)
theorem CV (I:Inv X pins σ H1 s1)(hst:X.stack=X.env::X.outer)(hfr:X.env.frame=some X.env.locals)(hex:X.ex=[])(ho:s'.os=s1.os)(hb:AllBare s'.gens)
  (u:Un (frs X.stack) [] H1 H' s1.heap s'.heap) (hok:HOk X.prog X.w H' s'.heap) (has:∀b∈as,b∈frs X.stack\/(H' b=none/\s1.heap.get? b=none)) (hfs:∀b∈frs X.stack,b∈as) (haa:a∈as) (hna:H' a=none/\s1.heap.get? a=none)
  (L:Lft (frs X.stack) as s'.heap h2 a cls) (hE:E cls none H'):Ng X.prog X.w X.outer X.H₀ X.s₀ E (.ref a) { s' with heap:=h2 }:=by
 have hfs':frs X.stack=X.env.locals::frs X.outer:=by rw[hst];unfold frs;rw[bB,hfr]
 have noex:∀b:Addr,b∉X.ex:=λb=>by rw[hex];simp
 have FF:=I.J4 u;have keep2:=L.keep;have slot2:=L.slot;have below:∀b o,X.s₀.heap.get? b=some o->b≠X.env.locals:=λb o e=>bn (aD (aA e) I.ok.above);have out:∀b o,s1.heap.get? b=some o->b∈as->b∈frs X.stack:=λb o e z=>by
  rcases has b z with q|⟨_,q⟩
  ·exact q
  ·rw[e]at q;cases q
 have here:∀b o,X.s₀.heap.get? b=some o->∃o',s1.heap.get? b=some o':=λb o e=>I.base.there b o e (noex b);obtain⟨oe,vs,T,oT,ts,he,hcls,hdi,hd,h1,hnT,hTe,hT,hdT,h3⟩:=L.ex;have hT0:T∈as\/s'.heap.get? T=none:=.inr hnT;have freeAs:∀b∈as,H' b=none:=λb z=>by
  rcases has b z with q|⟨q,_⟩
  ·obtain⟨_,o,e,_⟩:=I.stack.mem q;exact u.free b o e (I.stkFree b q) (by simp)
  ·exact q
 refine⟨a,cls,H',rfl,ho.trans I.os,hb,⟨λb o e n hbf _=>?_,λb o e n hbf _=>?_,λb o e n _=>?_,λb o e _=>?_,λb xs e=>u.tups b xs (I.base.tups b xs e),λb o v e=>u.frzs b o v (I.base.frzs b o v e),λb ps e=>?_⟩,λb o e=>?_,⟨⟨oe,vs,T,oT,ts,he,hcls,hdi,hd,h1,hTe,hT,hdT,h3,?_,?_⟩,hna.1,?_⟩,hE⟩
 ·have e1:=I.base.keep b o e n hbf (noex b);have n1:=I.base.free b o e n (noex b);have b1:b∉frs X.stack:=λz=>by rw[hfs']at z;exact(aF.mp z).elim (below b o e) hbf
  exact keep2 b o (u.keep b o e1 n1 b1 (by simp)) λz=>b1 (out b o e1 z)
 ·obtain⟨sl1,e1⟩:=I.base.slot b o e n hbf (noex b);have n1:=I.base.free b o e n (noex b);have b1:b∈frs X.stack:=by rw[hfs'];exact ad _ hbf
  obtain⟨sl2,e2⟩:=u.slot b _ e1 n1 b1 (by simp);obtain⟨sl3,e3⟩:=slot2 b _ b1 e2;exact⟨sl3,e3⟩
 ·obtain⟨o1,e1⟩:=here b o e;exact u.free b o1 e1 (I.base.free b o e n (noex b)) (by simp)
 ·obtain⟨o1,e1⟩:=here b o e;obtain⟨o2,e2⟩:=u.there b o1 e1 (by simp);by_cases z:b∈as
  ·obtain⟨sl,e3⟩:=slot2 b o2 (out b o1 e1 z) e2;exact⟨_,e3⟩
  ·exact⟨o2,keep2 b o2 e2 z⟩
 ·obtain⟨m1,e1⟩:=I.base.tbls b ps e;obtain⟨m2,e2⟩:=u.tbls b _ e1;exact⟨m1++m2,by rw[e2,yN.append_assoc]⟩
 ·refine(hok b o e).stay (λc v hc q=>keep2 c v q λz=>?_) (λ_ q=>q) λ_ _ q=>q;have:=freeAs c z;rcases hc with rfl|hc
  ·rw[this]at e;cases e
  ·rw[this]at hc;cases hc
 ·rcases hT0 with z|z
  ·exact freeAs T z
  ·cases q:H' T with
   |none=>rfl
   |some v=>obtain⟨ob,e⟩:=(hok T v q).get;rw[z]at e;cases e
 ·cases q:X.s₀.heap.get? T with
  |none=>rfl
  |some o=>
   obtain⟨o1,e1⟩:=here T o q;obtain⟨o2,e2⟩:=u.there T o1 e1 (by simp);rcases hT0 with z|z
   ·obtain⟨sl,e3⟩:=slot2 T o2 (out T o1 e1 z) e2;obtain⟨_,o4,e4,d4⟩:=FF.mem (out T o1 e1 z);rw[e2]at e4;cases e4;rw[hT]at e3;cases e3;exact absurd hdT (d4 ts)
   ·rw[z]at e2;cases e2
 ·cases q:X.s₀.heap.get? a with
  |none=>rfl
  |some o=>obtain⟨o1,e1⟩:=here a o q;rw[hna.2]at e1;cases e1
theorem leave_new (I:Inv X pins σ H1 s1)(hst:X.stack=X.env::X.outer)(hfr:X.env.frame=some X.env.locals)(hex:X.ex=[])(ho:s'.os=s1.os)(hb:AllBare s'.gens)
  (u:Un (frs X.stack) [] H1 H' s1.heap s'.heap) (hok:HOk X.prog X.w H' s'.heap) (hna:H' a=none/\s1.heap.get? a=none) (he:s'.heap.get? a=some oe) (hc:oe.cls=cls) (hdi:oe.dict=none) (hd:oe.data=.fields vs) (h1:vs[1]?=some .none) (hE:E cls none H')
  (hQ:∀s2,Ng X.prog X.w X.outer X.H₀ X.s₀ E (.ref a) s2->Q () s2):wpAny M X.A (leaving X.env (.ref a)) Q E' s':=by
 subst hc;have hA:X.A.frames=some (X.env::X.outer):=by rw[<- hst];exact I.ok.frames
 have FF:=I.J4 u;refine aG (Jr (as:=a::frs X.stack) hA (by rw[<- hst];exact FF) hfr he hdi hd h1 ah (λb z=>ad _ (by rw[hst];exact z)) λh2 L=>hQ _ ?_);rw[<- hst]at L;exact CV I hst hfr hex ho hb u hok (λb z=>(aF.mp z).elim (λq=>.inr (by rw[q];exact hna)) .inl) (λb z=>ad _ z) ah hna L hE
theorem QR (I:Inv X pins σ H1 s1)(hst:X.stack=X.env::X.outer)(hfr:X.env.frame=some X.env.locals)(hex:X.ex=[])(ho:s'.os=s1.os)(hb:AllBare s'.gens)
  (u:Un (frs X.stack) [] H1 H' s1.heap s'.heap) (hok:HOk X.prog X.w H' s'.heap) (F:Fly s1.heap H' s'.heap a cls) (hE:E cls none H')
  (hQ:∀s2,Ng X.prog X.w X.outer X.H₀ X.s₀ E (.ref a) s2->Q () s2):wpAny M X.A (leaving X.env (.ref a)) Q E' s':=by
 obtain⟨oe,vs,T,oT,ts,he,hcls,hdi,hd,h1,hTe,hT,hdT,h3,hHT,hsT⟩:=F.ex;subst hcls;have hA:X.A.frames=some (X.env::X.outer):=by rw[<- hst];exact I.ok.frames
 have FF:=I.J4 u;refine aG (N8 (as:=a::T::frs X.stack) hA (by rw[<- hst];exact FF) hfr he hdi hd h1 hTe hT hdT h3 ah (ad _ ah) (λb z=>ad _ (ad _ (by rw[hst];exact z))) λh2 L=>hQ _ ?_);rw[<- hst]at L;refine CV I hst hfr hex ho hb u hok (λb z=>?_) (λb z=>ad _ (ad _ z)) ah ⟨F.un,F.new⟩ L hE;rcases aF.mp z with q|z
 ·exact .inr (by rw[q];exact⟨F.un,F.new⟩)
 ·rcases aF.mp z with q|z
  ·exact .inr (by rw[q];exact⟨hHT,hsT⟩)
  ·exact .inl z
end
theorem aae {P:Program}{w:World}{K:Fg}{mg:Mg}{base:Heap}{N:Ls}{qual:Str}{scope:Scope}{f:Addr}{cd:Value}{A:Around}{outer:List Env}{s:Shared}{H:Hp}{E:XK} :
  Passes (Ng P w) (cxOf (Ng P w) P w K mg base N qual scope f cd A outer s H E) E:=λpins σ H1 s1 e s' I h=>by
 obtain⟨a,cls,H',rfl,ho,hb,u,hok,F,hE⟩:=h;exact QR I rfl rfl rfl ho hb u hok F hE (M:=model P w) (E':=λe' s2=>Ng P w outer H s E e' s2) λs2 q=>q
abbrev bmV:List Value:=[.type "ValueError",.type "Exception",.type "BaseException",.type "object"]
abbrev Ks (K:Fg)(C:Addr):Prop:=W.excIn K C bmV "ValueError.__new__"=true
theorem Ks.facts {K:Fg}{h:Heap}{C:Addr}(X:K.In h)(q:Ks K C):∃nm qn N bs bm hd sn sub ab col dd k0 k1 k2 k3 k5 mN,
  h.get? C=some (excClassObj nm qn C N bs bm hd sn sub ab col dd k0 k1 k2 k3 k5 "ValueError.__new__")/\h.Ns N mN/\mN "__init__"=none/\OwnTail h bmV bm:=by
 unfold Ks W.excIn at q;split at q
 ·rename_i dd' cd' sl' hlk;split at q
  ·rename_i C2 bm2 j0 j1 j2 j3 n2 j5 em es;simp only[fA,iV,Bool.not_eq_true']at q;obtain⟨⟨⟨⟨⟨e1,e2⟩,e3⟩,e4⟩,e5⟩,e6⟩:=q;subst e1 e2;obtain⟨nm,bs,mr,ns,qn,hd,sn,sub,ab,col,del⟩:=cd';dsimp only at em e3 e5 e6;subst em e3;have e7:sl' = #[j0,j1,j2,j3,some (.builtin "ValueError.__new__"),j5]:=by obtain⟨l⟩:=sl';simp only at es;rw[es]
   subst e7;exact⟨nm,qn,ns,bs,bm2,hd,sn,sub,ab,col,dd',j0,j1,j2,j3,j5,_,X _ _ hlk,.of_isNs (W.isNs_of_in X e5),W.nsMap_none_of_in X e5 e6,W.tail_of_in X e4⟩
  ·cases q
 ·cases q
def RL (X:Cx)(E:XK):Prop:=∀(pins:List (Addr×Obj)) (σ:St) (H:Hp) (s:Shared) (a:Addr) (cls:Value) (vs:List Value) (h':Heap),Inv X pins σ H s->Heap.MadeExcOf s.heap h' a cls vs->E cls none H->X.xe (.ref a) { s with heap:=h' }
theorem Inv.untracked (I:Inv X pins σ H s)(h:s.heap.get? a=none):H a=none:=by
 cases q:H a with
 |none=>rfl
 |some o=>obtain⟨ob,e⟩:=(I.hok a o q).get;rw[h]at e;cases e
theorem aa8 {P:Program}{w:World}{K:Fg}{mg:Mg}{base:Heap}{N:Ls}{qual:Str}{scope:Scope}{f:Addr}{cd:Value}{A:Around}{outer:List Env}{s:Shared}{H:Hp}{E:XK} :
  RL (cxOf (Ng P w) P w K mg base N qual scope f cd A outer s H E) E:=λpins σ H1 s1 a cls vs h' I hm hE=>by
 obtain⟨t,e,_⟩:=hm.there;exact leave_new (s':={ s1 with heap:=h' }) I rfl rfl rfl rfl I.bare (Un.kept hm.keeps) (I.hok.kept hm.keeps) ⟨I.untracked hm.new,hm.new⟩ e rfl rfl rfl rfl hE (M:=model P w) (E':=λe' s2=>Ng P w outer H s E e' s2) λs2 q=>q
def Y8 (C:Addr)(E:XK)(t:TA):TS:=λ_ σ H=>t σ H λ_ H1=>E (.ref C) none H1
theorem Qv {X:Cx}{E:XK}{x:Str}{np cpos pos:Pos}{e:Expr}{es:List Expr}{C:Addr}{t:TA}(hn:RL X E)(hc:X.calm=true)(q:Ks X.K C)(hg:Gl X x)(hm:X.mg x=some (.ref C))(ha:PA X (e::es) t)(hz:(e::es).length<=1000:=by decide)
  (hdb:(x == ("__debug__":Str))=false:=by decide) (he:starEach (e::es) X.env=(false,eval e X.env)::starEach es X.env:=by rfl) (hpl:(backTo cpos (starEach (e::es) X.env)).any (·.1)=false:=by rfl)
  (hl:∀σ H Q,t σ H Q->t σ H λvs H1=>vs.length=(e::es).length/\Q vs H1):PS X (.Raise (some (.Call (.Name x np) (e::es) [] cpos)) none pos) (Y8 C E t):=by
 intro pins s σ H D I h;obtain⟨nm,qn,N,bs,bm,hd,sn,sub,ab,col,dd,k0,k1,k2,k3,k5,mN,hC,hns,hni,tl⟩:=q.facts I.ok.mod.kin;have hbase:bm.contains (.type "BaseException")=true:=tl.hasType (by decide +kernel);refine wpAny_Raise_call_subU (nm:=nm) (q:=qn) (C:=C) (N:=N) (bs:=bs) (bm:=bm) (hdct:=hd) (sn:=sn) (sub:=sub) (ab:=ab) (col:=col) (dd:=dd) (k0:=k0) (k1:=k1) (k2:=k2) (k3:=k3) (k5:=k5) (mN:=mN)
  fY (by decide +kernel) fY hbase (I.ok.hd hc) hpl hni (ld_glob I hg hm ⟨rfl,?_⟩ hdb)
 have ev:wpAny (model X.prog X.w) X.A (spliced (backTo cpos (starEach (e::es) X.env))) (AP X pins σ λvs H1=>vs.length=(e::es).length/\E (.ref C) none H1) X.xe s:=ha cpos pins s σ H _ I (hl σ H _ h);rw[he]at ev ⊢;refine Calls.evalArgs_plain (thn ev λus s1 ⟨vs,H1,I1,r,l1,q1⟩=>⟨rfl,?_,?_⟩)
 ·rw[<- r.length,l1];exact bN (small1000 hz)
 ·exact⟨I1.bk _ _ hC,hns.keeps I1.bk,tl.keeps I1.bk,λh' a hm'=>hn pins σ H1 s1 a (.ref C) _ h' I1 hm' q1⟩
structure M8 (K:Fg)(C:Addr)(m:Str)(f:Addr):Prop where
 ga:W.specialIn K (.ref C) "__getattribute__"=some (some (.builtin "type.__getattribute__"))
 rd:W.readsIn K C (.type "type")=true
 fc:W.findCls K (.ref C) (.type "type") m=some (.val (.ref f))
 kp:W.keepIn K (.ref f)=true
section
variable {X:Cx}{CX:CXT}{k:Nat}{f C:Addr}{fd:FuncData}{ps:List Str}{sp:Sp}{dvs:List V}{ds:List Value}{E:XK}{x m:Str}{p pos apos:Pos}{e o:Expr}{es:List Expr}{ta:TE}{t:TA}
theorem V0 (hg:Gl X x)(hm:X.mg x=some (.ref C))(c:M8 X.K C m f)(F:FnOk X.prog X.w X.K X.mg X.base CX k f fd ps sp)(hr:Room k X.A)(hb:Binds X.K fd ps ds)(hd:Vals dvs ds)(hx:Passes CX X E)(ha:PA X (e::es) t)
  (hdb:(x == ("__debug__":Str))=false:=by decide) (hst:starEach (e::es) X.env=(false,eval e X.env)::starEach es X.env:=by rfl) (hpl:(backTo pos (starEach es X.env)).any (·.1)=false:=by rfl)
  (ht:eval (.Call (.Attribute (.Name x p) m apos) (e::es) [] pos) X.env=(do
   let ov <- eval (.Name x p) X.env
   standAt apos.atName
   let (f,first) <- holding [ov] (getMethod ov m pl)
   callWith pos f first (backTo pos (starEach (e::es) X.env)) (backToKw pos (keywordEach [] X.env))):=by rfl):PE X (.Call (.Attribute (.Name x p) m apos) (e::es) [] pos) (tCall sp dvs E t):=by
 intro pins s σ H Q I h;refine gZ (pl:=pl) (ld_glob I hg hm ?_ hdb) ht;refine W.method_cls I.kIn c.ga (W.cls_value I.kIn c.rd c.fc rfl ?_);have I':=I.tok (s.toks+1);refine dF (first:=[]) (h₀:=X.base) I.ok.mod.kin c.kp (thn (ha pos pins _ σ H _ I' h) λus s1 ⟨vs,H1,I1,r,q⟩=>⟨I1.kIn,?_⟩) hst hpl
 exact run_fn F hr hb hd hx I1 r q
end
structure OkM (P:Program)(w:World)(K:Fg)(mg:Mg)(base:Heap)(CX:CXT)(k:Nat)(C:Addr)(m:Str)(ps:List Str)(sp:Sp):Prop where
 ex:∃f fd,FnOk P w K mg base CX k f fd ps sp/\Binds K fd ps []/\Meth K C m f/\Cls K C
def abw (KA:Hp->Addr->Int->Prop)(a:Addr)(z:Int)(n:Nat)(pre:Int->List Int->Prop)(F:Int->List Int->Int):Sp:=λvs H Q _=>∃ns:List Int,ns.length=n/\vs=.ref a::ns.map V.int/\KA H a z/\pre z ns/\Q (.int (F z ns)) H
structure KM (P:Program)(w:World)(K:Fg)(mg:Mg)(base:Heap)(k:Nat)(KA:Hp->Addr->Int->Prop)(m:Str)(n:Nat)(pre:Int->List Int->Prop)(F:Int->List Int->Int):Prop where
 ex:∀H a z,KA H a z->∃C dx fs ps,H a=some (.ins C dx fs)/\fs.lookup m=none/\OkM P w K mg base CX0 k C m ps (abw KA a z n pre F)
structure OkC (P:Program)(w:World)(K:Fg)(mg:Mg)(base:Heap)(CX:CXT)(k:Nat)(x:Str)(C:Addr)(m:Str)(ps:List Str)(sp:Sp):Prop where
 ex:∃f fd,FnOk P w K mg base CX k f fd ps sp/\Binds K fd ps []/\M8 K C m f/\mg x=some (.ref C)
structure OkI (P:Program)(w:World)(K:Fg)(mg:Mg)(base:Heap)(CX:CXT)(k:Nat)(x:Str)(C:Addr)(ps:List Str)(sp:Sp):Prop where
 ex:∃f fd,FnOk P w K mg base CX k f fd ps sp/\Binds K fd ps []/\Mk K C f/\mg x=some (.ref C)
section
variable {X:Cx}{CX:CXT}{j k:Nat}{C:Addr}{ps:List Str}{sp:Sp}{E:XK}{x m:Str}{p pos apos:Pos}{e:Expr}{es:List Expr}{t:TA}
theorem Vv (o:OkC X.prog X.w X.K X.mg X.base CX j x C m ps sp)(hr:Room k X.A)(hx:Passes CX X E)(ha:PA X (e::es) t)(hj:j<=k:=by decide)(hg:Gl X x:=by rfl)
  (hdb:(x == ("__debug__":Str))=false:=by decide) (hst:starEach (e::es) X.env=(false,eval e X.env)::starEach es X.env:=by rfl) (hpl:(backTo pos (starEach es X.env)).any (·.1)=false:=by rfl)
  (ht:eval (.Call (.Attribute (.Name x p) m apos) (e::es) [] pos) X.env=(do
   let ov <- eval (.Name x p) X.env
   standAt apos.atName
   let (f,first) <- holding [ov] (getMethod ov m pl)
   callWith pos f first (backTo pos (starEach (e::es) X.env)) (backToKw pos (keywordEach [] X.env))):=by rfl):PE X (.Call (.Attribute (.Name x p) m apos) (e::es) [] pos) (tCall sp [] E t):=by
 obtain⟨f,fd,F,b,c,mm⟩:=o.ex;exact V0 hg mm c (F.mono hj) hr b .nil hx ha hdb hst hpl ht
theorem QS (o:OkI X.prog X.w X.K X.mg X.base CX j x C ps sp)(hr:Room k X.A)(hx:Passes CX X E)(ha:PA X (e::es) t)(hj:j+1<=k:=by decide)(hg:Gl X x:=by rfl)(hdb:(x == ("__debug__":Str))=false:=by decide)
  (he:starEach (e::es) X.env=(false,eval e X.env)::starEach es X.env:=by rfl) (hpl:(backTo pos (starEach es X.env)).any (·.1)=false:=by rfl):PE X (.Call (.Name x p) (e::es) [] pos) (tMake C sp [] E t):=by
 obtain⟨f,fd,F,b,c,mm⟩:=o.ex;exact pe_make c F (hr.mono hj) hg mm b .nil hx ha hdb he hpl
end
def spS (K:Fg)(n:Nat)(pre:List Int->List Int->Prop)(F:List Int->List Int->Int):Sp:=λvs H Q _=>∃(a:Addr) (xs is:List Int),is.length=n/\vs=.ref a::is.map V.int/\SqL K H a (xs.map V.int)/\pre xs is/\Q (.int (F xs is)) H
def Be:List Str:=["plain","plus","less","times","over"]
def KAt (cW cR cP:Addr)(H:Hp)(a:Addr)(z:Int):Prop:=∃C dx fs,H a=some (.ins C dx fs)/\((C=cW/\z=0)\/((C=cR\/C=cP)/\0<z))/\fs.lookup ("size":Str)=some (.int z)/\∀m∈Be,fs.lookup m=none
def pl (z n:Int):Int:=if z=0 then n else n % z
theorem kh (h:0<z):pl z n=n % z:=by unfold pl;rw[ae (by lia)]
section
variable {X:Cx}{pins:List (Addr×Obj)}{σ:St}{H:Hp}{s:Shared}{h':Heap}
theorem Inv.uK {ch:List Addr}{t':Nat}(I:Inv X pins σ H s)(hf:∀b∈ch,FpOk X pins H b)(k:∀b o,b∉ch->s.heap.get? b=some o->h'.get? b=some o):Inv X pins σ H { s with heap:=h',toks:=t' }:=by
 have nit:∀b u,H b=some u->b∉ch:=λb u e z=>by rw[(hf b z).1]at e;cases e
 refine I.step (g':=s.gens) (d':=s.drawn) (ch:=ch) (λb hb=>⟨(hf b hb).2.2.2.1,(hf b hb).2.1,(hf b hb).2.2.2.2.1,(hf b hb).2.2.2.2.2⟩) (λb o _ _ hc e _=>k b o hc e) (λb o _ _ hc e _=>⟨o.slots,k b o hc e⟩) (λ_ _ _ _ n=>n)
  (λb o hc e=>⟨o,k b o hc e⟩) (λ_ _ e=>e) (λ_ _ _ e=>e) (λb ps e=>⟨#[],by rw[e];simp⟩) (λm hm=>?_) (λb u e=>?_) I.bare
 ·obtain⟨o,es,ep,ho,r⟩:=hm;exact⟨o,es,ep,k _ o (λz=>(hf _ z).2.1 rfl) ho,r⟩
 ·refine(I.hok b u e).stay (λc v hc q=>k c v ?_ q) (λ_ q=>q) λ_ _ q=>q;rcases hc with z|z
  ·rw[z];exact nit b u e
  ·exact nit c _ z
theorem Inv.track (I:Inv X pins σ H s)(f:FpOk X pins H T)(new:ObjOk X.prog X.w (upd H T o) s.heap T o):Inv X pins σ (upd H T o) s:=by
 obtain⟨f0,f1,f2,f3,f4,f5⟩:=f;have ne:∀{b:Addr} {u:HO},H b=some u->b≠T:=λe=>ne_of_none e f0;refine⟨I.ok,I.os,I.bare,⟨I.base.keep,I.base.slot,λb ob e n x=>?_,I.base.there,λb xs e=>?_,λb ob u e=>?_,λb ps e=>?_⟩,I.loc,I.cell,by rw[upd_ne (ck f1)];exact I.free,λx c e=>?_,λp hp=>?_,λb u e=>?_,I.len⟩
 ·have hb:b≠T:=λz=>by
   subst z;rcases f3 with z|z
   ·exact x z
   ·exact absurd (aD (aA e) z) (cY _)
  rw[upd_ne hb];exact I.base.free b ob e n x
 ·have q:=I.base.tups b xs e;rw[upd_ne (ne q)];exact q
 ·have q:=I.base.frzs b ob u e;rw[upd_ne (ne q)];exact q
 ·obtain⟨m,q⟩:=I.base.tbls b ps e;exact⟨m,by rw[upd_ne (ne q)];exact q⟩
 ·rw[upd_ne (f4 x c e)];exact I.freeC x c e
 ·obtain⟨a1,a2,a3⟩:=I.pin p hp;exact⟨a1,by rw[upd_ne (f5 p hp)];exact a2,a3⟩
 ·by_cases c:b=T
  ·subst c;rw[upd_same]at e;cases e;exact new
  ·rw[upd_ne c]at e;exact(I.hok b u e).stay (λ_ _ _ q=>q) (λd q=>by rw[upd_ne (ne q)];exact q) (λd xs q=>by rw[upd_ne (ne q)];exact q) λd _ _ q=>by rw[upd_ne (ne q)];exact q
end
def Ite (K:Fg)(a:Addr):It:=
 ⟨λi H=>∃xs x,SqL K H a xs/\xs[i]?=some x,λi H v H'=>∃T y,v=.ref T/\H T=none/\H'=upd H T (.tup [.int i,y])/\∀xs,SqL K H a xs->xs[i]?=some y,λi H=>∃xs,SqL K H a xs/\xs.length<=i⟩
theorem O2 {P:Program}{w:World}{K:Fg}{els:List Expr}{kk:Nat}{tp:Pos}(a e it:Addr)(hne:e≠it):Turn P w K (.Tuple els kk tp) (Ite K a) [e,it] e (λi h=>(∃old,IsEnum h e it i old)/\h.IsListIter it a i) where
 mem:=by simp
 obj:=λi h st b hb=>by
  obtain⟨⟨old,he⟩,o,ho,_,hd⟩:=st;rcases aF.mp hb with rfl|hb
  ·exact⟨_,he,λv z=>by cases z⟩
  ·have q:b=it:=by simpa using hb
   subst q;exact⟨o,ho,λv z=>by rw[hd]at z;cases z⟩
 keep:=λi h h' st k=>by obtain⟨⟨old,he⟩,hit⟩:=st;exact⟨⟨old,k e (by simp) _ he⟩,hit.at λo q=>k it (by simp) o q⟩
 item:=by
  intro X hP hw hK hc i pins s σ H E I hf st hg;subst hP hw hK;obtain⟨xs,x,hq,hx⟩:=hg;obtain⟨⟨old,he⟩,hit⟩:=st;obtain⟨its,rv,p,hz⟩:=I.list hq;obtain⟨u,hu,ru⟩:=rv.get hx;refine wpAny_pyNext_enum_item he hit p.isList (x:=u) (by simpa using hu) hne λh1 ho hit1 hT hsz hk=>⟨_,rfl,?_⟩;refine wpAny_letOwnedTupleGo_enum ho λh2 he2 hs2=>?_;have Te:s.heap.objs.size≠e:=dM (aA he);have keep2:∀b o,b∉[e,it]->s.heap.get? b=some o->h2.get? b=some o:=λb o hb q=>by have b1:b≠e:=λz=>hb (by simp[z]);have b2:b≠it:=λz=>hb (by simp[z]);exact(hs2.2 b b1).trans (hk b o b1 b2 q)
  have I1:Inv X pins σ H { s with heap:=h2,toks:=s.toks+1 }:=I.uK hf keep2;have fT:FpOk X pins H s.heap.objs.size:=I.fpOk (ao _) (I.hok.fresh (ao _));have I2:=I1.track (o:=.tup [.int i,x]) fT ⟨by show 2<=sizeLine;decide,[.int i s.toks,u],.cons ⟨_,rfl⟩ (.cons ru .nil),⟨_,(hs2.2 _ Te).trans hT,rfl,_,rfl⟩⟩;refine⟨.ref s.heap.objs.size,_,I2,rfl,⟨_,x,rfl,fT.1,rfl,λys hy=>by rw[I.list_inj hy hq];exact hx⟩,⟨⟨_,by exact_mod_cast he2⟩,?_⟩,λb hb=>?_⟩
  ·obtain⟨o,q,r⟩:=hit1;exact⟨o,(hs2.2 it (ck hne)).trans q,r⟩
  ·rw[upd_ne]
   ·exact(hf b hb).1
   ·rcases aF.mp hb with rfl|hb
    ·exact ck Te
    ·have q:b=it:=by simpa using hb
     subst q;obtain⟨o,q,_⟩:=hit;exact bn (aA q)
 done:=by intro X hP hw hK hc i pins s σ H E I hf st hg;subst hP hw hK;obtain⟨xs,hq,hx⟩:=hg;obtain⟨⟨old,he⟩,hit⟩:=st;obtain⟨its,rv,p,hz⟩:=I.list hq;have hl:=rv.length;exact wpAny_pyNext_enum_end (I.ok.hd hc) he hit p.isList (by simp;lia) λh1 eb=>⟨rfl,I.uK hf λb o hb q=>eb b o (λz=>hb (by simp[z])) q⟩
 self:=λA i s Q E st h=>by obtain⟨⟨old,he⟩,_⟩:=st;exact wpAny_pyIter_enum he h
theorem Gm:bootBuiltins "enumerate"=some (.type "enumerate"):=by decide +kernel
theorem Hz:bootBuiltins "reversed"=some (.type "reversed"):=by decide +kernel
def Ql (K:Fg)(ta:TA):TI:=λσ H R=>ta σ H λvs H1=>∃a,vs=[.ref a]/\(∃xs,SqL K H1 a xs)/\R (Ite K a) H1
theorem yX {X:Cx}{els:List Expr}{kk:Nat}{tp:Pos}{l:Expr}{ta:TA}{p pos:Pos}(hg:Gl X "enumerate")(hm:X.mg "enumerate"=none)(ha:PA X [l] ta)(hs:starEach [l] X.env=[(false,eval l X.env)]:=by rfl) :
  PI X (.Tuple els kk tp) (.Call (.Name "enumerate" p) [l] [] pos) (Ql X.K ta):=by
 intro pins s σ H R I h;refine Call_ (ld_blt I hg hm Gm (ce (thn (ha pos pins s σ H _ I h) λus s1 ⟨vs,H1,I1,r1,q1⟩=>?_) hs rfl));obtain⟨a,rfl,⟨xs,hq⟩,q⟩:=q1;obtain⟨u,rfl,ru⟩:=vals1 r1;cases ru;obtain⟨its,rv,p',hz⟩:=I1.list hq;refine call_enumerate_list p'.isList λh1 he hit hsz hk=>?_;refine wpAny_pyIter_enum he ?_;have I2:Inv X pins σ H1 { s1 with heap:=h1 }:=I1.kept (t':=s1.toks) hk;refine⟨_,[s1.heap.objs.size+1,s1.heap.objs.size],_,_,H1,rfl,I2,O2 a (s1.heap.objs.size+1) s1.heap.objs.size (Nat.succ_ne_self _),⟨⟨_,he⟩,hit⟩,λb hb=>?_,q⟩;rcases aF.mp hb with rfl|hb
 ·exact I1.fpOk (iD _) (I1.hok.fresh (iD _))
 ·have e:b=s1.heap.objs.size:=by simpa using hb
  subst e;exact I1.fpOk (ao _) (I1.hok.fresh (ao _))
def Itv (K:Fg)(a:Addr)(n:Nat):It:=
 ⟨λi H=>i<n/\∃xs x,SqL K H a xs/\xs.length=n/\xs[n-1-i]?=some x,λi H v H'=>H'=H/\∀xs,SqL K H a xs->xs[n-1-i]?=some v,λi _=>i=n⟩
theorem QF {P:Program}{w:World}{K:Fg}{tg:Expr}(a it:Addr)(n:Nat):Turn P w K tg (Itv K a n) [it] it (λi h=>h.IsRevIter it a ((n:Int)-1-i)) where
 mem:=by simp
 obj:=λi h st b hb=>by
  have e:b=it:=by simpa using hb
  subst e;obtain⟨o,ho,_,hd⟩:=st;exact⟨o,ho,λv z=>by rw[hd]at z;cases z⟩
 keep:=λi h h' st k=>st.at λo e=>k it (by simp) o e
 item:=by
  intro X hP hw hK hc i pins s σ H E I hf st hg;subst hP hw hK;obtain⟨hin,xs,x,hq,hn,hx⟩:=hg;obtain⟨its,rv,p,hz⟩:=I.list hq;obtain⟨u,hu,ru⟩:=rv.get hx;have e1:((n:Int)-1-(i:Nat))=((n-1-i:Nat):Int):=by lia
  have st':s.heap.IsRevIter it a ((n-1-i:Nat):Int):=by rw[<- e1];exact st
  refine wpAny_pyNext_rev_item st' p.isList (x:=u) (by simpa using hu) λh1 st1 sb=>?_;have I1:Inv X pins σ H { s with heap:=h1 }:=I.uK (t':=s.toks) hf λb o hb e=>(sb.2 b (λz=>hb (by simp[z]))).trans e;obtain⟨o,e,c,d⟩:=id st1;refine⟨u,rfl,go_of (s:={ s with heap:=h1 }) e c d (by decide) ⟨x,H,I1,ru,⟨rfl,λys hy=>by rw[I.list_inj hy hq];exact hx⟩,?_,λb hb=>(hf b hb).1⟩⟩;have e2:((n-1-i:Nat):Int)-1=(n:Int)-1-((i+1:Nat):Int):=by lia
  rw[e2]at st1;exact st1
 done:=by
  intro X hP hw hK hc i pins s σ H E I hf st hg;subst hP hw hK;subst hg;have e1:((i:Nat):Int)-1-(i:Nat) = -1:=by lia
  rw[e1]at st;exact wpAny_pyNext_rev_end (I.ok.hd hc) st λh1 eb=>⟨rfl,I.uK (t':=s.toks) hf λb o hb e=>eb b o (λz=>hb (by simp[z])) e⟩
 self:=λ_ _ _ _ _ st h=>wpAny_pyIter_revIter st h
def abp (K:Fg)(ta:TA):TI:=λσ H R=>ta σ H λvs H1=>∃a xs,vs=[.ref a]/\SqL K H1 a xs/\R (Itv K a xs.length) H1
theorem X5 (hg:Gl X "reversed")(hm:X.mg "reversed"=none)(ha:PA X [l] ta)(hs:starEach [l] X.env=[(false,eval l X.env)]:=by rfl) :
  PI X tg (.Call (.Name "reversed" p) [l] [] pos) (abp X.K ta):=by
 intro pins s σ H R I h;refine Call_ (ld_blt I hg hm Hz (ce (thn (ha pos pins s σ H _ I h) λus s1 ⟨vs,H1,I1,r1,q1⟩=>?_) hs rfl));obtain⟨a,xs,rfl,hq,q⟩:=q1;obtain⟨u,rfl,ru⟩:=vals1 r1;cases ru;obtain⟨its,rv,p',hz⟩:=I1.list hq;have hl:=rv.length;have st0:(s1.heap.push (revObj a ((its.toArray.size:Int)-1))).IsRevIter s1.heap.objs.size a ((its.toArray.size:Int)-1):=⟨_,bc _ rfl,rfl,rfl⟩;refine call_reversed_list p'.isList (wpAny_pyIter_revIter st0 ?_);have I2:Inv X pins σ H1 { s1 with heap:=s1.heap.push (revObj a ((its.toArray.size:Int)-1)) }:=I1.kept (t':=s1.toks) λb o e=>az _ e;refine⟨_,[s1.heap.objs.size],_,_,H1,rfl,I2,QF a _ xs.length,?_,λb hb=>?_,q⟩
 ·have e:((xs.length:Int)-1-((0:Nat):Int))=(its.toArray.size:Int)-1:=by rw[ay];lia
  rw[e];exact st0
 ·have e:b=s1.heap.objs.size:=by simpa using hb
  subst e;exact I1.fpOk (ao _) (I1.hok.fresh (ao _))
theorem GR {K:Fg}{a:Addr}{xs:List V}{g:TG}{tb:TS}{D:Ends}{σ:St}{H:Hp}(Pv:Nat->St->Hp->Prop)(h0:Pv 0 σ H)(hl:∀i σ H,i<=xs.length->Pv i σ H->SqL K H a xs)
  (hs:∀i x σ H T,xs[i]?=some x->Pv i σ H->H T=none->g (.ref T) σ (upd H T (.tup [.int i,x])) λσ2 H2=>tb { D with nx:=Pv (i+1),ct:=Pv (i+1),bk:=D.nx } σ2 H2) (hd:∀σ H,Pv xs.length σ H->D.nx σ H) :
  ∃W:Nat->Nat->St->Hp->Prop,(∃m,W 0 m σ H)/\∀i m σ H,W i m σ H ->
   ((Ite K a).stop i H/\D.nx σ H)\/((Ite K a).go i H/\∃N:St->Hp->Prop,(∀σ' H',N σ' H' -> ∃m',m'<m/\W (i+1) m' σ' H')/\∀x H',(Ite K a).yld i H x H' -> g x σ H' λσ2 H2=>tb { D with nx:=N,ct:=N,bk:=D.nx } σ2 H2):=by
 refine⟨λi m σ H=>m=xs.length-i/\i<=xs.length/\Pv i σ H,⟨xs.length,by simp,be _,h0⟩,?_⟩;rintro i m σ H ⟨rfl,hi,p⟩;have q:=hl i σ H hi p;by_cases hlt:i<xs.length
 ·refine .inr ⟨⟨xs,xs[i],q,by simp[hlt]⟩,Pv (i+1),λσ' H' p'=>⟨xs.length-(i+1),by lia,rfl,hlt,p'⟩,λx H' y=>?_⟩;obtain⟨T,z,rfl,hT,rfl,hz⟩:=y;exact hs i z σ H T (hz xs q) p hT
 ·have e:i=xs.length:=by lia
  subst e;exact .inl ⟨⟨xs,q,ao _⟩,hd σ H p⟩
theorem Vj {K:Fg}{a:Addr}{xs:List V}{g:TG}{tb:TS}{D:Ends}{σ:St}{H:Hp}(Pv:Nat->St->Hp->Prop)(h0:Pv 0 σ H)(hl:∀i σ H,i<=xs.length->Pv i σ H->SqL K H a xs)
  (hs:∀i x σ H,i<xs.length->xs[xs.length-1-i]?=some x->Pv i σ H->g x σ H λσ2 H2=>tb { D with nx:=Pv (i+1),ct:=Pv (i+1),bk:=D.nx } σ2 H2) (hd:∀σ H,Pv xs.length σ H->D.nx σ H) :
  ∃W:Nat->Nat->St->Hp->Prop,(∃m,W 0 m σ H)/\∀i m σ H,W i m σ H ->
   ((Itv K a xs.length).stop i H/\D.nx σ H)\/((Itv K a xs.length).go i H/\∃N:St->Hp->Prop,(∀σ' H',N σ' H' -> ∃m',m'<m/\W (i+1) m' σ' H')/\∀x H',(Itv K a xs.length).yld i H x H' -> g x σ H' λσ2 H2=>tb { D with nx:=N,ct:=N,bk:=D.nx } σ2 H2):=by
 refine⟨λi m σ H=>m=xs.length-i/\i<=xs.length/\Pv i σ H,⟨xs.length,by simp,be _,h0⟩,?_⟩;rintro i m σ H ⟨rfl,hi,p⟩;have q:=hl i σ H hi p;by_cases hlt:i<xs.length
 ·refine .inr ⟨⟨hlt,xs,xs[xs.length-1-i],q,rfl,by rw[ac (by lia)]⟩,Pv (i+1),λσ' H' p'=>⟨xs.length-(i+1),by lia,rfl,hlt,p'⟩,λx H' y=>?_⟩;obtain⟨rfl,hz⟩:=y;exact hs i x σ _ hlt (hz xs q) p
 ·have e:i=xs.length:=by lia
  subst e;exact .inl ⟨rfl,hd σ H p⟩
theorem int_at {ns:Li}{i:Nat}{x:V}(h:(ns.map V.int)[i]?=some x):∃n,x=.int n/\ns[i]?=some n:=by
 rw[aw]at h;cases e:ns[i]? with
 |none=>rw[e]at h;cases h
 |some n=>rw[e]at h;exact⟨n,(aB h).symm,rfl⟩
theorem QH {ns:Li}{i:Nat}{n:Int}(h:ns[i]?=some n):n∈ns:=aW h
theorem Ua {α:Type}{ns:List α}{i:Nat}{n:α}(h:ns[i]?=some n):i<ns.length:=(aj.mp h).1
theorem m7 {α:Type}{ns:List α}{i:Nat}{n:α}(h:ns[i]?=some n):ns.take (i+1)=ns.take i++[n]:=by rw[List.take_add_one,h];rfl
abbrev ue:TT:=λ_ H Q=>Q true H
end L2
namespace FM
open L2
def jG (n:Int):Prop:=2<=n/\n<=9973/\∀d:Int,2<=d->d*d<=n->¬n % d=0
open Classical in
def ZK (n:Int):Bool:=decide (jG n)
open Classical in
theorem Ho (h:jG n):ZK n=true:=by unfold ZK;exact aK h
open Classical in
theorem Do (h:¬jG n):ZK n=false:=by unfold ZK;exact aI h
open Classical in
def Jj (n d:Int):Prop:=∀e:Int,2<=e->e<d->¬n % e=0
theorem Jj.next (h:Jj n d)(hd:¬n % d=0):Jj n (d+1):=λe h1 h2=>by
 by_cases c:e=d
 ·rw[c];exact hd
 ·exact h e h1 (by lia)
theorem ZV {d:Int}(h:2<=d):d<=d*d:=by have:=bC (show(1:Int)<=d by lia) (show(0:Int)<=d by lia);lia
theorem uU {d e:Int}(h0:0<=d)(h:d<=e):d*d<=e*e:=Int.mul_le_mul h h h0 (by lia)
theorem jG.out {n d:Int}(h:Jj n d)(h2:2<=d)(lo:2<=n)(hi:n<=9973)(hd:¬d*d<=n):jG n:=⟨lo,hi,λe h1 he=>by
 by_cases c:e<d
 ·exact h e h1 c
 ·have:=uU (d:=d) (e:=e) (by lia) (by lia);lia⟩
theorem YF:jG 2:=⟨by lia,by lia,λd h1 h2=>by have:=uU (d:=2) (e:=d) (by lia) h1;lia⟩
def F_P:List Int->Bool:=λns=>match ns with
 |[n]=>ZK n
 |_=>false
def yes:List Int->Prop:=λ_=>True
theorem uF (z n:Int):pl z (pl z n)=pl z n:=by
 unfold pl;by_cases h:z=0
 ·rw[af h,af h]
 ·rw[ae h,ae h,d9 _ (fj z)]
theorem zG (z a b:Int):pl z (pl z a+b)=pl z (a+b):=by
 unfold pl;by_cases h:z=0
 ·rw[af h,af h,af h]
 ·rw[ae h,ae h,ae h,Int.emod_add_emod]
theorem z9 (z a b:Int):pl z (pl z a*b)=pl z (a*b):=by
 unfold pl;by_cases h:z=0
 ·rw[af h,af h,af h]
 ·rw[ae h,ae h,ae h,fk,d9 _ (fj z),<- fk]
theorem zq (z a b:Int):pl z (a*pl z b)=pl z (a*b):=by rw[cf,z9,cf]
theorem M4 (z a b:Int):pl z (a+pl z b)=pl z (a+b):=by rw[g9,zG,g9]
theorem zF (h:0<z):0<=pl z n/\pl z n<z:=by rw[kh h];exact⟨a9 _ (by lia),aX _ h⟩
def jY (xs:List Int):List Int:=(xs.reverse.dropWhile (· == 0)).reverse
theorem vM (xs:Li):jY (xs++[0])=jY xs:=by unfold jY;rw[iH];simp
theorem Bv (xs:Li)(h:x≠0):jY (xs++[x])=xs++[x]:=by unfold jY;rw[iH];simp[h]
theorem Ds (xs:Li):(jY xs).length<=xs.length:=by unfold jY;have:=(List.dropWhile_sublist (· == 0) (l:=xs.reverse)).length_le;simpa using this
def ev:List Int->Int->Int
 |[],_=>0
 |n::r,x=>n+x*ev r x
theorem Th (hx:x.natAbs<=X)(hX:1<=X):∀xs:List Int,(∀n∈xs,n.natAbs<=M)->(ev xs x).natAbs<=xs.length*M*X^xs.length
 |[],_=>by simp[ev]
 |n::r,h=>by
  have ih:=Th hx hX r λm hm=>h m (ad _ hm);have hn:=h n ah;show(n+x*ev r x).natAbs<=(r.length+1)*M*X^(r.length+1);have h1:(n+x*ev r x).natAbs<=n.natAbs+(x*ev r x).natAbs:=Int.natAbs_add_le _ _;have h2:(x*ev r x).natAbs<=X*(r.length*M*X^r.length):=by rw[iz];exact gw hx ih
  have h3:M<=M*X^(r.length+1):=Nat.le_mul_of_pos_right _ (dw (by lia));have h4:X*(r.length*M*X^r.length)=r.length*M*X^(r.length+1):=by rw[eS,cZ X,gL]
  have h5:(r.length+1)*M*X^(r.length+1)=r.length*M*X^(r.length+1)+M*X^(r.length+1):=by rw[Nat.add_mul,Nat.one_mul,Nat.add_mul]
  lia
theorem horner (z x n e:Int):pl z (pl z e*pl z x+n)=pl z (n+x*e):=by rw[<- zG z (pl z e*pl z x) n,z9,zq,zG,cf e x,g9]
end FM
namespace L3
open PySem PySem.Spec PyProof.Rows L2
inductive PV where
 |int (n:Int)|bl (b:Bool)|non|str (s:Str)|ints (ns:List Int)|scr (ns:List Int)|lst (xs:List PV)|tup (xs:List PV)|ob (k:Nat) (z:Int)|ty (n:String)|cls (a:Addr)
structure Gx where
 ob:Nat->Hp->Addr->Int->Prop
 mono:∀k H H' a z,Same H H' -> ob k H a z->ob k H' a z
mutual
def At (K:Fg)(G:Gx)(H:Hp):PV->V->Prop
 | .int n,v=>v=.int n
 | .bl b,v=>v=.bl b
 | .non,v=>v=.non
 | .str s,v=>v=.str s
 | .ints ns,v=>∃a,v=.ref a/\Rd H a (.lst (ns.map V.int))
 | .scr ns,v=>∃a,v=.ref a/\SqL K H a (ns.map V.int)
 | .lst xs,v=>∃a vs,v=.ref a/\Rd H a (.lst vs)/\lN K G H xs vs
 | .tup xs,v=>∃a vs,v=.ref a/\H a=some (.tup vs)/\lN K G H xs vs
 | .ob k z,v=>∃a,v=.ref a/\G.ob k H a z
 | .ty n,v=>v=.ty n
 | .cls a,v=>v=.ref a
def lN (K:Fg)(G:Gx)(H:Hp):List PV->List V->Prop
 |[],vs=>vs=[]
 |p::ps,vs=>∃v r,vs=v::r/\At K G H p v/\lN K G H ps r
end
theorem jw (e:Same H H')(h:Rd H a (.lst xs)):Rd H' a (.lst xs):=by
 rcases h with h|⟨o,h⟩
 ·exact .inl (e _ _ h)
 ·exact .inr ⟨o,e _ _ h⟩
theorem SM {K:Fg}{H H':Hp}{a:Addr}{xs:List V}(e:Same H H')(h:SqT K H a xs):SqT K H' a xs:=by
 rcases h with (h|⟨o,h⟩)|h
 ·exact .inl (.inl (e _ _ h))
 ·exact .inl (.inr ⟨o,e _ _ h⟩)
 ·exact .inr h
mutual
theorem At.mono {K:Fg}{G:Gx}{H H':Hp}(s:Same H H'):∀(p:PV) (v:V),At K G H p v->At K G H' p v
 | .int _,_,h=>h
 | .bl _,_,h=>h
 | .non,_,h=>h
 | .str _,_,h=>h
 | .ints _,_,h=>by obtain⟨a,e,q⟩:=h;exact⟨a,e,jw s q⟩
 | .scr _,_,h=>by obtain⟨a,e,q⟩:=h;exact⟨a,e,s.seq q⟩
 | .lst xs,_,h=>by obtain⟨a,vs,e,q,r⟩:=h;exact⟨a,vs,e,jw s q,lN.mono s xs vs r⟩
 | .tup xs,_,h=>by obtain⟨a,vs,e,q,r⟩:=h;exact⟨a,vs,e,s _ _ q,lN.mono s xs vs r⟩
 | .ob _ _,_,h=>by obtain⟨a,e,q⟩:=h;exact⟨a,e,G.mono _ _ _ _ _ s q⟩
 | .ty _,_,h=>h
 | .cls _,_,h=>h
theorem lN.mono {K:Fg}{G:Gx}{H H':Hp}(s:Same H H'):∀(ps:List PV) (vs:List V),lN K G H ps vs->lN K G H' ps vs
 |[],_,h=>h
 |p::ps,_,h=>by obtain⟨v,r,e,q,t⟩:=h;exact⟨v,r,e,At.mono s p v q,lN.mono s ps r t⟩
end
theorem lN.length {K:Fg}{G:Gx}{H:Hp}:∀{ps:List PV} {vs:List V},lN K G H ps vs->ps.length=vs.length
 |[],_,h=>by cases h;rfl
 |p::ps,_,h=>by obtain⟨v,r,rfl,_,t⟩:=h;rw[aR,aR,lN.length t]
theorem lN.get {K:Fg}{G:Gx}{H:Hp}:∀{ps:List PV} {vs:List V} {i:Nat} {v:V},lN K G H ps vs->vs[i]?=some v->∃p,ps[i]?=some p/\At K G H p v
 |[],_,i,v,h,e=>by cases h;simp at e
 |p::ps,_,0,v,h,e=>by obtain⟨w,r,rfl,q,t⟩:=h;simp at e;subst e;exact⟨p,rfl,q⟩
 |p::ps,_,i+1,v,h,e=>by obtain⟨w,r,rfl,q,t⟩:=h;obtain⟨p',e',q'⟩:=lN.get (i:=i) (v:=v) t (by simpa using e);exact⟨p',by simpa using e',q'⟩
theorem lN.at {K:Fg}{G:Gx}{H:Hp}:∀{ps:List PV} {vs:List V} {i:Nat} {p:PV},lN K G H ps vs->ps[i]?=some p->∃v,vs[i]?=some v/\At K G H p v
 |[],_,i,v,h,e=>by simp at e
 |p::ps,_,0,v,h,e=>by obtain⟨w,r,rfl,q,t⟩:=h;simp at e;subst e;exact⟨w,rfl,q⟩
 |p::ps,_,i+1,v,h,e=>by obtain⟨w,r,rfl,q,t⟩:=h;obtain⟨v',e',q'⟩:=lN.at (i:=i) (p:=v) t (by simpa using e);exact⟨v',by simpa using e',q'⟩
theorem lN.snoc {K:Fg}{G:Gx}{H:Hp}{p:PV}{v:V}:∀{ps:List PV} {vs:List V},lN K G H ps vs->At K G H p v->lN K G H (ps++[p]) (vs++[v])
 |[],_,h,q=>by cases h;exact⟨v,[],rfl,q,rfl⟩
 |p'::ps,_,h,q=>by obtain⟨w,r,rfl,q',t⟩:=h;exact⟨w,_,rfl,q',lN.snoc t q⟩
def mn (H:Hp)(O:Addr->Bool):Hp:=λb=>if O b=true then none else H b
theorem qz (h:mn H O b=some o):O b=false/\H b=some o:=by
 unfold mn at h;by_cases c:O b=true
 ·rw[af c]at h;cases h
 ·rw[ae c]at h;exact⟨by simpa using c,h⟩
theorem qu (h:O b=false):mn H O b=H b:=by unfold mn;rw[ae (by rw[h];decide)]
theorem jM:Same (mn H O) H:=sy λ_ _ h=>(qz h).2
theorem lA (s:Same H H'):Same (mn H O) (mn H' O):=λb o h=>by obtain⟨c,e⟩:=qz h;rw[qu c];exact s b o e
theorem qU (k:∀a,O a=true->O' a=true):Same (mn H O') (mn H O):=sy λb o h=>by
 obtain⟨c,e⟩:=qz h;have:O b=false:=by
  cases z:O b with
  |false=>rfl
  |true=>rw[k b z]at c;cases c
 rw[qu this];exact e
def hide (a:Addr)(O:Addr->Bool):Addr->Bool:=λb=>b == a || O b
theorem hide_ne (h:b≠a):hide a O b=O b:=by unfold hide;simp[h]
theorem hide_self:hide a O a=true:=by unfold hide;simp
theorem qM:∀b,O b=true->hide a O b=true:=λb h=>by unfold hide;simp[h]
theorem lX (s:Same H H')(ha:H a=none):Same (mn H O) (mn H' (hide a O)):=λb o h=>by obtain⟨c,e⟩:=qz h;rw[qu (by rw[hide_ne (ne_of_none e ha)];exact c)];exact s b o e
theorem Bk (h:O a=true):mn (upd H a o) O=mn H O:=by
 funext b;unfold mn;by_cases c:O b=true
 ·rw[af c,af c]
 ·rw[ae c,ae c,upd_ne (λz=>c (by rw[z];exact h))]
inductive Sl where
 |un|fr (p:PV)|ow (p:PV)|o2 (xs ys:List Int)|rd (p:PV)
abbrev En:=List Sl
structure Bs where
 H0:Hp
 Oc:Addr->Bool
def CN (K:Fg)(G:Gx)(H:Hp):PV->List V->Prop
 | .ints ns,vs=>vs=ns.map V.int
 | .lst xs,vs=>lN K G H xs vs
 |_,_=>False
theorem CN.mono {K:Fg}{G:Gx}{H H':Hp}(s:Same H H'){p:PV}{vs:List V}(h:CN K G H p vs):CN K G H' p vs:=by cases p<;>first|exact h|exact lN.mono s _ _ h
structure abm (B:Bs)(σ:L2.St)(H:Hp)(Z:En)(O:Addr->Bool)(i:Nat)(xs ys:List Int)(D a b:Addr):Prop where
 at_:σ[i]?=some (some (.ref D))
 oD:O D=true
 oa:O a=true
 ob:O b=true
 nD:B.H0 D=none
 na:B.H0 a=none
 nb:B.H0 b=none
 hD:H D=some (.lst [.ref a,.ref b])
 ha:H a=some (.lst (xs.map V.int))
 hb:H b=some (.lst (ys.map V.int))
 ab:a≠b
 un:∀(j:Nat) q c,Z[j]?=some (.ow q)->σ[j]?=some (some (.ref c))->c≠D/\c≠a/\c≠b
 one:∀(j:Nat) xs' ys',Z[j]?=some (.o2 xs' ys')->j=i
def Us (O Oc:Addr->Bool):Addr->Bool:=λb=>O b && !Oc b
theorem Ur (h:∀b,O' b=true->O b=true):∀b,Us O' Oc b=true->Us O Oc b=true:=λb z=>by unfold Us at z ⊢;rw[fA]at z ⊢;exact⟨h b z.1,z.2⟩
structure Rep (K:Fg)(G:Gx)(B:Bs)(σ:L2.St)(H:Hp)(Z:En)(O:Addr->Bool):Prop where
 same:Same B.H0 H
 cd:∀a,B.Oc a=true->B.H0 a≠none
 hid:∀a,B.Oc a=true->O a=true
 dom:∀a,O a=true->H a≠none
 vis:∀a,O a=true->B.Oc a=true\/B.H0 a=none
 fr:∀(i:Nat) p,Z[i]?=some (.fr p)->∃v,σ[i]?=some (some v)/\At K G (mn H O) p v
 ow:∀(i:Nat) p,Z[i]?=some (.ow p)->∃a vs,σ[i]?=some (some (.ref a))/\O a=true/\B.H0 a=none/\H a=some (.lst vs)/\CN K G (mn H O) p vs
 inj:∀(i j:Nat) p q a,Z[i]?=some (.ow p)->Z[j]?=some (.ow q)->σ[i]?=some (some (.ref a))->σ[j]?=some (some (.ref a))->i=j
 len:σ.length=Z.length
 o2:∀(i:Nat) xs ys,Z[i]?=some (.o2 xs ys)->∃D a b,abm B σ H Z O i xs ys D a b
 rd:∀(i:Nat) p,Z[i]?=some (.rd p)->∃v,σ[i]?=some (some v)/\At K G (mn H (Us O B.Oc)) p v
section
variable {K:Fg}{G:Gx}{B:Bs}{σ:L2.St}{H H':Hp}{Z:En}{O:Addr->Bool}{i:Nat}
theorem Rep.grow (R:Rep K G B σ H Z O)(s:Same H H'):Rep K G B σ H' Z O:=by
 refine⟨R.same.trans s,R.cd,R.hid,λa h z=>R.dom a h (s.free z),R.vis,λi p e=>?_,λi p e=>?_,R.inj,R.len,λi xs ys e=>let ⟨D,a,b,q⟩:=R.o2 i xs ys e;⟨D,a,b,q.at_,q.oD,q.oa,q.ob,q.nD,q.na,q.nb,s _ _ q.hD,s _ _ q.ha,s _ _ q.hb,q.ab,q.un,q.one⟩,λi p e=>let ⟨v,e1,e2⟩:=R.rd i p e;⟨v,e1,At.mono (lA s) _ _ e2⟩⟩
 ·obtain⟨v,e1,e2⟩:=R.fr i p e;exact⟨v,e1,At.mono (lA s) _ _ e2⟩
 ·obtain⟨a,vs,e1,e2,e3,e4,e5⟩:=R.ow i p e;exact⟨a,vs,e1,e2,e3,s _ _ e4,e5.mono (lA s)⟩
theorem jR {α:Type}{l:List α}{i j:Nat}{x y:α}(h:(l.set i x)[j]?=some y):(i=j/\y=x/\i<l.length)\/(i≠j/\l[j]?=some y):=by
 rw[gB]at h;by_cases c:i=j
 ·rw[af c]at h;by_cases c2:i<l.length
  ·rw[af c2]at h;exact .inl ⟨c,(aB h).symm,c2⟩
  ·rw[ae c2]at h;cases h
 ·rw[ae c]at h;exact .inr ⟨c,h⟩
theorem nq {α:Type}{l:List α}{i j:Nat}{x:α}(h:i≠j):(l.set i x)[j]?=l[j]?:=by rw[gB,ae h]
theorem Aa {α:Type}{l:List α}{i:Nat}{x:α}(h:i<l.length):(l.set i x)[i]?=some x:=by rw[gB,af rfl,af h]
theorem Rep.set (R:Rep K G B σ H Z O){p:PV}{v:V}(h:At K G (mn H O) p v):Rep K G B (σ.set i (some v)) H (Z.set i (.fr p)) O:=by
 refine⟨R.same,R.cd,R.hid,R.dom,R.vis,λj q e=>?_,λj q e=>?_,λj k q r a e1 e2 e3 e4=>?_,by rw[bR,bR];exact R.len,λj xs ys e=>?_,λj q e=>?_⟩
 ·rcases jR e with⟨rfl,e,l⟩|⟨n,e⟩
  ·cases e;exact⟨v,Aa (by rw[R.len];exact l),h⟩
  ·rw[nq n];exact R.fr j q e
 ·rcases jR e with⟨rfl,e,l⟩|⟨n,e⟩
  ·cases e
  ·rw[nq n];exact R.ow j q e
 ·rcases jR e1 with⟨rfl,e,l⟩|⟨n,e⟩
  ·cases e
  ·rcases jR e2 with⟨rfl,e',l'⟩|⟨n',e'⟩
   ·cases e'
   ·rw[nq n]at e3;rw[nq n']at e4;exact R.inj j k q r a e e' e3 e4
 ·rcases jR e with⟨rfl,e,l⟩|⟨n,e⟩
  ·cases e
  ·obtain⟨D,a,b,q⟩:=R.o2 j xs ys e;refine⟨D,a,b,by rw[nq n];exact q.at_,q.oD,q.oa,q.ob,q.nD,q.na,q.nb,q.hD,q.ha,q.hb,q.ab,λk r c e1 e2=>?_,λk xs' ys' e1=>?_⟩
   ·rcases jR e1 with⟨_,e',_⟩|⟨n',e'⟩
    ·cases e'
    ·rw[nq n']at e2;exact q.un k r c e' e2
   ·rcases jR e1 with⟨_,e',_⟩|⟨n',e'⟩
    ·cases e'
    ·exact q.one k xs' ys' e'
 ·rcases jR e with⟨rfl,e,l⟩|⟨n,e⟩
  ·cases e
  ·rw[nq n];exact R.rd j q e
theorem QX:∀b,Us (hide a O) Oc b=true->hide a (Us O Oc) b=true:=λb z=>by
 by_cases c:b=a
 ·subst c;exact hide_self
 ·unfold Us at z;rw[hide_ne c]at z;rw[hide_ne c];exact z
theorem Rep.new (R:Rep K G B σ H Z O){p:PV}{a:Addr}{vs:List V}(s:Same H H')(ha:H a=none)(he:H' a=some (.lst vs))(h:CN K G (mn H' (hide a O)) p vs):Rep K G B (σ.set i (some (.ref a))) H' (Z.set i (.ow p)) (hide a O):=by
 refine⟨R.same.trans s,R.cd,λb z=>qM b (R.hid b z),λb z y=>?_,λb z=>?_,λj q e=>?_,λj q e=>?_,λj k q r b e1 e2 e3 e4=>?_,by rw[bR,bR];exact R.len,λj xs ys e=>?_,λj q e=>?_⟩
 ·by_cases c:b=a
  ·subst c;rw[he]at y;cases y
  ·rw[hide_ne c]at z;exact R.dom b z (s.free y)
 ·by_cases c:b=a
  ·subst c;exact .inr (R.same.free ha)
  ·rw[hide_ne c]at z;exact R.vis b z
 ·rcases jR e with⟨rfl,e,l⟩|⟨n,e⟩
  ·cases e
  ·obtain⟨v,e1,e2⟩:=R.fr j q e;exact⟨v,by rw[nq n];exact e1,At.mono (lX s ha) _ _ e2⟩
 ·rcases jR e with⟨rfl,e,l⟩|⟨n,e⟩
  ·cases e;exact⟨a,vs,Aa (by rw[R.len];exact l),hide_self,R.same.free ha,he,h⟩
  ·obtain⟨b,us,e1,e2,e3,e4,e5⟩:=R.ow j q e;exact⟨b,us,by rw[nq n];exact e1,qM b e2,e3,s _ _ e4,e5.mono (lX s ha)⟩
 ·have old:∀(m:Nat) q,Z[m]?=some (.ow q)->σ[m]?=some (some (.ref a))->False:=λm q e z=>by obtain⟨b,us,e1,_,_,e4,_⟩:=R.ow m q e;rw[z]at e1;cases e1;rw[ha]at e4;cases e4
  rcases jR e1 with⟨rfl,e,l⟩|⟨n,e⟩
  ·rcases jR e2 with⟨rfl,e',l'⟩|⟨n',e'⟩
   ·rfl
   ·rw[Aa (by rw[R.len];exact l)]at e3;cases e3;rw[nq n']at e4;exact(old k r e' e4).elim
  ·rcases jR e2 with⟨rfl,e',l'⟩|⟨n',e'⟩
   ·rw[Aa (by rw[R.len];exact l')]at e4;cases e4;rw[nq n]at e3;exact(old j q e e3).elim
   ·rw[nq n]at e3;rw[nq n']at e4;exact R.inj j k q r b e e' e3 e4
 ·rcases jR e with⟨rfl,e,l⟩|⟨n,e⟩
  ·cases e
  ·obtain⟨D,a1,b1,q⟩:=R.o2 j xs ys e;refine⟨D,a1,b1,by rw[nq n];exact q.at_,qM _ q.oD,qM _ q.oa,qM _ q.ob,q.nD,q.na,q.nb,s _ _ q.hD,s _ _ q.ha,s _ _ q.hb,q.ab,λk r c e1 e2=>?_,λk xs' ys' e1=>?_⟩
   ·rcases jR e1 with⟨rfl,e',l'⟩|⟨n',e'⟩
    ·rw[Aa (by rw[R.len];exact l')]at e2;cases e2;exact⟨ck (ne_of_none q.hD ha),ck (ne_of_none q.ha ha),ck (ne_of_none q.hb ha)⟩
    ·rw[nq n']at e2;exact q.un k r c e' e2
   ·rcases jR e1 with⟨_,e',_⟩|⟨n',e'⟩
    ·cases e'
    ·exact q.one k xs' ys' e'
 ·rcases jR e with⟨rfl,e,l⟩|⟨n,e⟩
  ·cases e
  ·obtain⟨v,e1,e2⟩:=R.rd j q e;exact⟨v,by rw[nq n];exact e1,At.mono ((lX s ha).trans (qU QX)) _ _ e2⟩
theorem Wr (cd:∀a,B.Oc a=true->B.H0 a≠none)(h:O a=true)(h0:B.H0 a=none):Us O B.Oc a=true:=by
 unfold Us;rw[h];cases e:B.Oc a with
 |false=>rfl
 |true=>exact absurd h0 (cd a e)
theorem Rep.change (R:Rep K G B σ H Z O){p p':PV}{a:Addr}{vs:List V}(e:Z[i]?=some (.ow p))(ea:σ[i]?=some (some (.ref a)))(h:CN K G (mn H O) p' vs):Rep K G B σ (upd H a (.lst vs)) (Z.set i (.ow p')) O:=by
 obtain⟨a',us,e1,e2,e3,e4,e5⟩:=R.ow i p e;rw[ea]at e1;cases e1;have hl:i<Z.length:=(aj.mp e).1;refine⟨λb o z=>?_,R.cd,R.hid,λb z y=>?_,R.vis,λj q ej=>?_,λj q ej=>?_,λj k q r b j1 j2 j3 j4=>?_,by rw[bR];exact R.len,λj xs ys ej=>?_,λj q ej=>?_⟩
 ·rw[upd_ne (ne_of_none z e3)];exact R.same b o z
 ·by_cases c:b=a
  ·subst c;rw[upd_same]at y;cases y
  ·rw[upd_ne c]at y;exact R.dom b z y
 ·rw[Bk e2];rcases jR ej with⟨_,e',_⟩|⟨_,e'⟩
  ·cases e'
  ·exact R.fr j q e'
 ·rw[Bk e2];rcases jR ej with⟨rfl,e',_⟩|⟨n,e'⟩
  ·cases e';exact⟨a,vs,ea,e2,e3,upd_same,h⟩
  ·obtain⟨b,ws,f1,f2,f3,f4,f5⟩:=R.ow j q e';refine⟨b,ws,f1,f2,f3,?_,f5⟩;rw[upd_ne]
   ·exact f4
   ·intro z;subst z;exact n (R.inj i j p q b e e' ea f1)
 ·have back:∀(m:Nat) q,(Z.set i (.ow p'))[m]?=some (.ow q)->∃q',Z[m]?=some (.ow q'):=λm q z=>by
   rcases jR z with⟨rfl,_,_⟩|⟨_,z⟩
   ·exact⟨p,e⟩
   ·exact⟨q,z⟩
  obtain⟨q',y1⟩:=back j q j1;obtain⟨r',y2⟩:=back k r j2;exact R.inj j k q' r' b y1 y2 j3 j4
 ·rcases jR ej with⟨rfl,e',_⟩|⟨n,e'⟩
  ·cases e'
  ·obtain⟨D,a1,b1,q⟩:=R.o2 j xs ys e';obtain⟨u1,u2,u3⟩:=q.un i p a e ea;refine⟨D,a1,b1,q.at_,q.oD,q.oa,q.ob,q.nD,q.na,q.nb,by rw[upd_ne (ck u1)];exact q.hD,by rw[upd_ne (ck u2)];exact q.ha,by rw[upd_ne (ck u3)];exact q.hb,q.ab,λk r c e1 e2=>?_,λk xs' ys' e1=>?_⟩
   ·rcases jR e1 with⟨rfl,_,_⟩|⟨_,e1⟩
    ·exact q.un i p c e e2
    ·exact q.un k r c e1 e2
   ·rcases jR e1 with⟨_,e',_⟩|⟨n',e'⟩
    ·cases e'
    ·exact q.one k xs' ys' e'
 ·rw[Bk (Wr R.cd e2 e3)];rcases jR ej with⟨_,e',_⟩|⟨_,e'⟩
  ·cases e'
  ·exact R.rd j q e'
def pW (a:Addr)(O:Addr->Bool):Addr->Bool:=λb=>if b=a then false else O b
theorem qK (h:b≠a):pW a O b=O b:=by unfold pW;rw[ae h]
theorem xQ:pW a O a=false:=by unfold pW;rw[af rfl]
theorem uM:∀b,pW a O b=true->O b=true:=λb h=>by
 by_cases c:b=a
 ·subst c;rw[xQ]at h;cases h
 ·rw[qK c]at h;exact h
def frz (Z:En)(i:Nat):En:=match Z[i]? with
 |some (.ow p)=>Z.set i (.fr p)
 |_=>Z
theorem Rep.freeze (R:Rep K G B σ H Z O)(i:Nat):∃O',Rep K G B σ H (frz Z i) O':=by
 unfold frz;split
 ·rename_i p e;obtain⟨a,vs,e1,e2,e3,e4,e5⟩:=R.ow i p e;have sub:Same (mn H O) (mn H (pW a O)):=qU uM;have sees:Rd (mn H (pW a O)) a (.lst vs):=.inl (by rw[qu xQ];exact e4);have hp:At K G (mn H (pW a O)) p (.ref a):=by
   cases p<;>first
    |exact False.elim e5
    |(have e5:=e5.mono sub;exact⟨a,vs,rfl,sees,e5⟩)
    |(have e5':vs=_:=e5;subst e5';exact⟨a,rfl,sees⟩)
  refine⟨pW a O,R.same,R.cd,λb z=>?_,λb z=>R.dom b (uM b z),λb z=>R.vis b (uM b z),λj q ej=>?_,λj q ej=>?_,λj k q r b j1 j2 j3 j4=>?_,by rw[bR];exact R.len,λj xs ys ej=>?_,λj q ej=>?_⟩
  ·rw[qK]
   ·exact R.hid b z
   ·intro y;subst y;exact R.cd b z e3
  ·rcases jR ej with⟨rfl,e',_⟩|⟨n,e'⟩
   ·cases e';exact⟨.ref a,e1,hp⟩
   ·obtain⟨v,f1,f2⟩:=R.fr j q e';exact⟨v,f1,At.mono sub _ _ f2⟩
  ·rcases jR ej with⟨rfl,e',_⟩|⟨n,e'⟩
   ·cases e'
   ·obtain⟨b,ws,f1,f2,f3,f4,f5⟩:=R.ow j q e';refine⟨b,ws,f1,?_,f3,f4,f5.mono sub⟩;rw[qK]
    ·exact f2
    ·intro z;subst z;exact n (R.inj i j p q b e e' e1 f1)
  ·rcases jR j1 with⟨_,e',_⟩|⟨_,y1⟩
   ·cases e'
   ·rcases jR j2 with⟨_,e',_⟩|⟨_,y2⟩
    ·cases e'
    ·exact R.inj j k q r b y1 y2 j3 j4
  ·rcases jR ej with⟨rfl,e',_⟩|⟨n,e'⟩
   ·cases e'
   ·obtain⟨D,a1,b1,q⟩:=R.o2 j xs ys e';obtain⟨u1,u2,u3⟩:=q.un i p a e e1;refine⟨D,a1,b1,q.at_,by rw[qK (ck u1)];exact q.oD,by rw[qK (ck u2)];exact q.oa,by rw[qK (ck u3)];exact q.ob,q.nD,q.na,q.nb,q.hD,q.ha,q.hb,q.ab,λk r c e1 e2=>?_,λk xs' ys' e1=>?_⟩
    ·rcases jR e1 with⟨_,e',_⟩|⟨_,e1⟩
     ·cases e'
     ·exact q.un k r c e1 e2
    ·rcases jR e1 with⟨_,e',_⟩|⟨n',e'⟩
     ·cases e'
     ·exact q.one k xs' ys' e'
  ·rcases jR ej with⟨rfl,e',_⟩|⟨n,e'⟩
   ·cases e'
   ·obtain⟨v,f1,f2⟩:=R.rd j q e';exact⟨v,f1,At.mono (qU (Ur uM)) _ _ f2⟩
 ·exact⟨O,R⟩
def Bs.at (B:Bs)(H:Hp)(O:Addr->Bool):Bs:=⟨λb=>if (O b && (B.H0 b).isNone)=true then none else H b,B.Oc⟩
theorem Bs.at_of (h:O b=false\/B.H0 b≠none):(B.at H O).H0 b=H b:=by
 show(if (O b && (B.H0 b).isNone)=true then none else H b)=H b;rw[ae];rcases h with h|h
 ·rw[h];simp
 ·cases e:B.H0 b with
  |none=>exact absurd e h
  |some o=>simp
theorem Rep.rebase (R:Rep K G B σ H Z O):Rep K G (B.at H O) σ H Z O:=by
 refine⟨λb o z=>?_,λa z=>?_,R.hid,R.dom,λa z=>?_,R.fr,λi p e=>?_,R.inj,R.len,λi xs ys e=>?_,R.rd⟩
 ·have z:(if (O b && (B.H0 b).isNone)=true then none else H b)=some o:=z;by_cases c:(O b && (B.H0 b).isNone)=true
  ·rw[af c]at z;cases z
  ·rw[ae c]at z;exact .of z
 ·rw[Bs.at_of (.inr (R.cd a z))];exact R.dom a (R.hid a z)
 ·rcases R.vis a z with y|y
  ·exact .inl y
  ·refine .inr ?_;show(if (O a && (B.H0 a).isNone)=true then none else H a)=none;rw[af (by rw[z,y];rfl)]
 ·obtain⟨a,vs,e1,e2,e3,e4,e5⟩:=R.ow i p e;refine⟨a,vs,e1,e2,?_,e4,e5⟩;show(if (O a && (B.H0 a).isNone)=true then none else H a)=none;rw[af (by rw[e2,e3];rfl)]
 ·obtain⟨D,a,b,q⟩:=R.o2 i xs ys e;have z:∀c,O c=true->B.H0 c=none->(B.at H O).H0 c=none:=λc h1 h2=>by show(if (O c && (B.H0 c).isNone)=true then none else H c)=none;rw[af (by rw[h1,h2];rfl)]
  exact⟨D,a,b,q.at_,q.oD,q.oa,q.ob,z D q.oD q.nD,z a q.oa q.na,z b q.ob q.nb,q.hD,q.ha,q.hb,q.ab,q.un,q.one⟩
theorem Rep.nW (R:Rep K G B σ H Z O):Same B.H0 (B.at H O).H0:=λb o z=>by rw[Bs.at_of (.inr (by rw[z];exact λy=>by cases y))];exact R.same b o z
theorem Rep.uW (B:Bs)(H:Hp)(O:Addr->Bool):Same (mn H O) (B.at H O).H0:=sy λb o z=>by obtain⟨c,e⟩:=qz z;rw[Bs.at_of (.inl c)];exact e
theorem Rep.Ku (R:Rep K G B σ H Z O)(R':Rep K G (B.at H O) σ' H' Z' O'):Rep K G B σ' H' Z' O':=by
 refine⟨R.nW.trans R'.same,R.cd,R'.hid,R'.dom,λa z=>(R'.vis a z).imp id λy=>R.nW.free y,R'.fr,λi p e=>?_,R'.inj,R'.len,λi xs ys e=>?_,R'.rd⟩
 ·obtain⟨a,vs,e1,e2,e3,e4,e5⟩:=R'.ow i p e;exact⟨a,vs,e1,e2,R.nW.free e3,e4,e5⟩
 ·obtain⟨D,a,b,q⟩:=R'.o2 i xs ys e;exact⟨D,a,b,q.at_,q.oD,q.oa,q.ob,R.nW.free q.nD,R.nW.free q.na,R.nW.free q.nb,q.hD,q.ha,q.hb,q.ab,q.un,q.one⟩
theorem Rep.seen (R:Rep K G B σ H Z O)(R':Rep K G (B.at H O) σ' H' Z' O'):Same (mn H O) (mn H' O'):=λb o z=>by
 obtain⟨c,e⟩:=qz z;have z0:(B.at H O).H0 b=some o:=by rw[Bs.at_of (.inl c)];exact e
 rw[qu]
 ·exact R'.same b o z0
 ·cases y:O' b with
  |false=>rfl
  |true=>
   rcases R'.vis b y with y|y
   ·rw[R.hid b y]at c;cases c
   ·rw[z0]at y;cases y
end
def xN (Z:En)(i:Nat):Int:=match Z[i]? with
 |some (.fr (.int n))=>n
 |_=>0
def isI (Z:En)(i:Nat):Prop:=Z[i]?=some (.fr (.int (xN Z i)))
def getL (Z:En)(i:Nat):List Int:=match Z[i]? with
 |some (.fr (.ints ns))=>ns
 |some (.ow (.ints ns))=>ns
 |some (.fr (.scr ns))=>ns
 |_=>[]
def isL (Z:En)(i:Nat):Prop:=Z[i]?=some (.fr (.ints (getL Z i)))
def Ut (Z:En)(i:Nat):Prop:=Z[i]?=some (.ow (.ints (getL Z i)))
def Kp (Z:En)(i:Nat):Prop:=isL Z i\/Ut Z i\/Z[i]?=some (.fr (.scr (getL Z i)))
def Oz (Z:En)(i:Nat):PV:=match Z[i]? with
 |some (.fr p)=>p
 |some (.ow p)=>p
 |_=>.non
def isF (Z:En)(i:Nat):Prop:=Z[i]?=some (.fr (Oz Z i))
def abg (Z:En)(i:Nat):Str:=match Z[i]? with
 |some (.fr (.str s))=>s
 |_=>Str.empty
def isS (Z:En)(i:Nat):Prop:=Z[i]?=some (.fr (.str (abg Z i)))
section
variable {K:Fg}{G:Gx}{B:Bs}{σ:L2.St}{H H':Hp}{Z:En}{O:Addr->Bool}{i:Nat}
theorem Rep.Rf (R:Rep K G B σ H Z O)(h:Kp Z i):∃a,σ[i]?=some (some (.ref a))/\SqL K H a ((getL Z i).map V.int):=by
 rcases h with h|h|h
 ·obtain⟨v,e1,a,e2,e3⟩:=R.fr i _ h;subst e2;exact⟨a,e1,.inl (jw jM e3)⟩
 ·obtain⟨a,vs,e1,e2,e3,e4,e5⟩:=R.ow i _ h;subst e5;exact⟨a,e1,.inl (.inl e4)⟩
 ·obtain⟨v,e1,a,e2,e3⟩:=R.fr i _ h;subst e2;exact⟨a,e1,jM.seq e3⟩
end
def tX (K:Fg)(G:Gx)(C:En->Prop)(g:En->PV):TE:=λσ H Q=>∃B Z O,Rep K G B σ H Z O/\C Z/\∀v H',Same H H' -> At K G (mn H' O) (g Z) v->Q v H'
def CT (K:Fg)(G:Gx)(C:En->Prop)(g:En->List Int):TE:=λσ H Q=>∃B Z O,Rep K G B σ H Z O/\C Z/\∀a H',Same H H' -> H a=none->H' a=some (.lst ((g Z).map V.int))->Q (.ref a) H'
def yV (K:Fg)(G:Gx)(C:En->Prop)(g:En->List PV):TE:=λσ H Q=>∃B Z O,Rep K G B σ H Z O/\C Z/\∀a vs H',Same H H' -> H a=none->H' a=some (.lst vs)->lN K G (mn H' (hide a O)) (g Z) vs->Q (.ref a) H'
def KN (K:Fg)(G:Gx)(C:En->Prop)(g:En->List PV):TA:=λσ H Q=>∃B Z O,Rep K G B σ H Z O/\C Z/\∀vs H',Same H H' -> lN K G (mn H' O) (g Z) vs->Q vs H'
def uR (K:Fg)(G:Gx)(C:En->Prop)(p:En->Prop)[∀Z,Decidable (p Z)]:TT:=λσ H Q=>∃B Z O,Rep K G B σ H Z O/\C Z/\∀H',Same H H' -> Q (decide (p Z)) H'
abbrev lY (K:Fg)(G:Gx)(C:En->Prop)(g:En->Int):TE:=tX K G C λZ=>.int (g Z)
abbrev Km (K:Fg)(G:Gx)(C:En->Prop)(g:En->List Int):TE:=tX K G C λZ=>.ints (g Z)
abbrev Qd (K:Fg)(G:Gx)(C:En->Prop)(p:En->Prop)[∀Z,Decidable (p Z)]:TE:=tX K G C λZ=>.bl (decide (p Z))
abbrev tXS (K:Fg)(G:Gx)(C:En->Prop)(g:En->Str):TE:=tX K G C λZ=>.str (g Z)
section
variable {X:Cx}{G:Gx}{a b:Expr}{pos:Pos}{Ca Cb:En->Prop}{ga gb:En->Int}{i:Nat}{x:Str}{e:Expr}{t:TE}{C:En->Prop}{g:En->PV}{gl hl:En->List Int}
theorem tL (h:PE X e t)(k:∀B σ H Z O Q,Rep X.K G B σ H Z O->C Z->(∀v H',Same H H' -> At X.K G (mn H' O) (g Z) v->Q v H')->t σ H Q):PE X e (tX X.K G C g):=
 λpins s σ H Q I ⟨B,Z,O,R,c,q⟩=>h pins s σ H Q I (k B σ H Z O Q R c q)
theorem Hk (h:PE X e t)(k:∀B σ H Z O Q,Rep X.K G B σ H Z O->C Z->(∀a H',Same H H' -> H a=none->H' a=some (.lst ((gl Z).map V.int))->Q (.ref a) H')->t σ H Q):PE X e (CT X.K G C gl):=
 λpins s σ H Q I ⟨B,Z,O,R,c,q⟩=>h pins s σ H Q I (k B σ H Z O Q R c q)
theorem jW (h:PE X e (CT X.K G C gl)):PE X e (Km X.K G C gl):=tL h λB σ H Z O Q R c q=>⟨B,Z,O,R,c,λa H' s n e=>q _ H' s ⟨a,rfl,.inl (by
 rw[qu]
 ·exact e
 ·cases z:O a with
  |false=>rfl
  |true=>exact absurd n (R.dom a z))⟩⟩
theorem um (h:PE X e (yV X.K G C gp)):PE X e (tX X.K G C λZ=>.lst (gp Z)):=tL h λB σ H Z O Q R c q=>⟨B,Z,O,R,c,λa vs H' s n e al=>q _ H' s ⟨a,vs,rfl,.inl (by
 rw[qu]
 ·exact e
 ·cases z:O a with
  |false=>rfl
  |true=>exact absurd n (R.dom a z)),lN.mono (qU qM) _ _ al⟩⟩
theorem je:PE X (.Constant (.int n) j pos) (lY X.K G (λ_=>True) λ_=>n):=tL pe_int λ_ _ H _ _ _ _ _ q=>q _ H (Same.refl H) rfl
theorem pL:PE X (.Constant (.bool n) j pos) (tX X.K G (λ_=>True) λ_=>.bl n):=tL pe_bl λ_ _ H _ _ _ _ _ q=>q _ H (Same.refl H) rfl
theorem Zu:PE X (.Constant .none j pos) (tX X.K G (λ_=>True) λ_=>.non):=tL pe_non λ_ _ H _ _ _ _ _ q=>q _ H (Same.refl H) rfl
theorem Yp:PE X (.Constant (.str n) j pos) (tXS X.K G (λ_=>True) λ_=>n):=tL pe_str λ_ _ H _ _ _ _ _ q=>q _ H (Same.refl H) rfl
theorem qW (hg:Gl X x)(hm:X.mg x=none)(hv:bootBuiltins x=some (.type u))(hn:x≠"__name__":=by decide)(hd:(x == ("__debug__":Str))=false:=by decide):PE X (.Name x pos) (tX X.K G (λ_=>True) λ_=>.ty u):=
 tL (pe_bltn (v:=.ty u) hg hm hv rfl hn hd) λ_ _ H _ _ _ _ _ q=>q _ H (Same.refl H) rfl
theorem xv (i:Nat)(hN:X.N[i]?=some x:=by rfl)(hv:Vis X.env.scope x:=by walk_at "v")
  (hd:(x == ("__debug__":Str))=false:=by decide) (hcd:(x == ("__classdict__":Str))=false:=by decide):PE X (.Name x pos) (tX X.K G (λZ=>isF Z i) λZ=>Oz Z i):=
 tL (pe_var hN hv hd hcd) λ_ _ H _ _ _ R c q=>let ⟨v,e,h⟩:=R.fr i _ c;⟨v,e,q v H (Same.refl H) h⟩
theorem xn (i:Nat)(hN:X.N[i]?=some x:=by rfl)(hv:Vis X.env.scope x:=by walk_at "v")
  (hd:(x == ("__debug__":Str))=false:=by decide) (hcd:(x == ("__classdict__":Str))=false:=by decide):PE X (.Name x pos) (lY X.K G (λZ=>isI Z i) λZ=>xN Z i):=
 tL (pe_var hN hv hd hcd) λ_ _ H _ _ _ R c q=>let ⟨v,e,h⟩:=R.fr i _ c;⟨v,e,q v H (Same.refl H) h⟩
theorem xl (i:Nat)(hN:X.N[i]?=some x:=by rfl)(hv:Vis X.env.scope x:=by walk_at "v")
  (hd:(x == ("__debug__":Str))=false:=by decide) (hcd:(x == ("__classdict__":Str))=false:=by decide):PE X (.Name x pos) (Km X.K G (λZ=>isL Z i) λZ=>getL Z i):=
 tL (pe_var hN hv hd hcd) λ_ _ H _ _ _ R c q=>let ⟨v,e,h⟩:=R.fr i _ c;⟨v,e,q v H (Same.refl H) h⟩
theorem xr (i:Nat)(hN:X.N[i]?=some x:=by rfl)(hv:Vis X.env.scope x:=by walk_at "v")
  (hd:(x == ("__debug__":Str))=false:=by decide) (hcd:(x == ("__classdict__":Str))=false:=by decide):PE X (.Name x pos) (tX X.K G (λZ=>Z[i]?=some (.fr (.scr (getL Z i)))) λZ=>.scr (getL Z i)):=
 tL (pe_var hN hv hd hcd) λ_ _ H _ _ _ R c q=>let ⟨v,e,h⟩:=R.fr i _ c;⟨v,e,q v H (Same.refl H) h⟩
theorem two {r:R2}{ga gb:En->PV}{σ:L2.St}{B:Bs}{O:Addr->Bool}(R:Rep X.K G B σ H Z O)(ca:Ca Z)(cb:Cb Z)(q:∀v u H1 H2,Same H H1->Same H1 H2->At X.K G (mn H2 O) (ga Z) v->At X.K G (mn H2 O) (gb Z) u->r v u H2 Q) :
  tOp r (tX X.K G Ca ga) (tX X.K G Cb gb) σ H Q:=
 ⟨B,Z,O,R,ca,λv H1 s1 a1=>⟨B,Z,O,R.grow s1,cb,λu H2 s2 a2=>q v u H1 H2 s1 s2 (At.mono (lA s2) _ _ a1) a2⟩⟩
theorem Mj {op:Operator}{C:Int->Int->Prop}{g:Int->Int->Int}(ho:OpR X (binaryOp op) (rI C λi j=>.int (g i j)))(ha:PE X a (lY X.K G Ca ga))(hb:PE X b (lY X.K G Cb gb)) :
  PE X (.BinOp a op b pos) (lY X.K G (λZ=>Ca Z/\Cb Z/\C (ga Z) (gb Z)) λZ=>g (ga Z) (gb Z)):=
 tL (pe_op ho ha hb) λ_ _ _ _ _ _ R c q=>two R c.1 c.2.1 λ_ _ _ H2 s1 s2 a1 a2=>⟨_,_,a1,a2,c.2.2,q _ H2 (s1.trans s2) rfl⟩
theorem SX {op:Operator}{g:Int->Int->Int}(ho:OpR X (binaryOp op) (rI0 λi j=>.int (g i j)))(ha:PE X a (lY X.K G Ca ga))(hb:PE X b (lY X.K G Cb gb)) :
  PE X (.BinOp a op b pos) (lY X.K G (λZ=>Ca Z/\Cb Z) λZ=>g (ga Z) (gb Z)):=
 tL (pe_op ho ha hb) λ_ _ _ _ _ _ R c q=>two R c.1 c.2 λ_ _ _ H2 s1 s2 a1 a2=>⟨_,_,a1,a2,q _ H2 (s1.trans s2) rfl⟩
theorem kO (ha:PE X a (lY X.K G Ca ga))(hb:PE X b (lY X.K G Cb gb)):PE X (.BinOp a .Add b pos) (lY X.K G (λZ=>Ca Z/\Cb Z) λZ=>ga Z+gb Z):=SX op_add ha hb
theorem nZ (ha:PE X a (lY X.K G Ca ga))(hb:PE X b (lY X.K G Cb gb)):PE X (.BinOp a .Sub b pos) (lY X.K G (λZ=>Ca Z/\Cb Z) λZ=>ga Z-gb Z):=SX op_sub ha hb
theorem n6 (ha:PE X a (lY X.K G Ca ga))(hb:PE X b (lY X.K G Cb gb)):PE X (.BinOp a .Mult b pos) (lY X.K G (λZ=>Ca Z/\Cb Z/\IntMulOk (ga Z) (gb Z)) λZ=>ga Z*gb Z):=Mj Fv ha hb
theorem lD (ha:PE X a (lY X.K G Ca ga))(hb:PE X b (lY X.K G Cb gb)):PE X (.BinOp a .Mod b pos) (lY X.K G (λZ=>Ca Z/\Cb Z/\0<gb Z) λZ=>ga Z % gb Z):=Mj op_mod ha hb
theorem rB (ha:PE X a (lY X.K G Ca ga))(hb:PE X b (lY X.K G Cb gb)):PE X (.BinOp a .FloorDiv b pos) (lY X.K G (λZ=>Ca Z/\Cb Z/\Tp (ga Z) (gb Z)) λZ=>ga Z / gb Z):=Mj Qh ha hb
theorem vP (ha:PE X a (lY X.K G Ca ga))(hb:PE X b (lY X.K G Cb gb)):PE X (.BinOp a .Pow b pos) (lY X.K G (λZ=>Ca Z/\Cb Z/\CPow (ga Z) (gb Z)) λZ=>ga Z^(gb Z).toNat):=Mj op_pow ha hb
theorem sS (ha:PE X a (lY X.K G Ca ga)):PE X (.UnaryOp .USub a pos) (lY X.K G Ca λZ=>-ga Z):=
 tL (pe_un un_neg ha) λB _ _ Z O _ R c q=>⟨B,Z,O,R,c,λ_ H1 s1 a1=>⟨_,a1,q _ H1 s1 rfl⟩⟩
theorem xK {op:CmpOp}{p:Int->Int->Prop}[∀i j,Decidable (p i j)](ho:OpR X (compareOp op) (rI0 λi j=>.bl (decide (p i j))))(hm:behindInMarks op b=false)(ha:PE X a (lY X.K G Ca ga))(hb:PE X b (lY X.K G Cb gb)) :
  PT X (.Compare a [op] [b] pos) (uR X.K G (λZ=>Ca Z/\Cb Z) λZ=>p (ga Z) (gb Z)):=
 λpins s σ H Q I ⟨_,_,_,R,c,q⟩=>pt_cmpR ho ha hb hm pins s σ H Q I (two R c.1 c.2 λ_ _ _ H2 s1 s2 a1 a2=>⟨_,_,a1,a2,_,rfl,q H2 (s1.trans s2)⟩)
theorem YX {op:CmpOp}{p:Int->Int->Prop}[∀i j,Decidable (p i j)](ho:OpR X (compareOp op) (rI0 λi j=>.bl (decide (p i j))))(hm:behindInMarks op b=false)(ha:PE X a (lY X.K G Ca ga))(hb:PE X b (lY X.K G Cb gb)) :
  PE X (.Compare a [op] [b] pos) (Qd X.K G (λZ=>Ca Z/\Cb Z) λZ=>p (ga Z) (gb Z)):=
 tL (pe_cmpR ho ha hb hm) λ_ _ _ _ _ _ R c q=>two R c.1 c.2 λ_ _ _ H2 s1 s2 a1 a2=>⟨_,_,a1,a2,q _ H2 (s1.trans s2) rfl⟩
theorem Hu (ha:PE X a (lY X.K G Ca ga))(hb:PE X b (lY X.K G Cb gb)):PT X (.Compare a [.Lt] [b] pos) (uR X.K G (λZ=>Ca Z/\Cb Z) λZ=>ga Z<gb Z):=xK op_lt (nomark _) ha hb
theorem Xq (ha:PE X a (lY X.K G Ca ga))(hb:PE X b (lY X.K G Cb gb)):PT X (.Compare a [.LtE] [b] pos) (uR X.K G (λZ=>Ca Z/\Cb Z) λZ=>ga Z<=gb Z):=xK op_le (nomark _) ha hb
theorem rQ (ha:PE X a (lY X.K G Ca ga))(hb:PE X b (lY X.K G Cb gb)):PT X (.Compare a [.Gt] [b] pos) (uR X.K G (λZ=>Ca Z/\Cb Z) λZ=>gb Z<ga Z):=xK (p:=λi j=>j<i) op_gt (nomark _) ha hb
theorem Xn (ha:PE X a (lY X.K G Ca ga))(hb:PE X b (lY X.K G Cb gb)):PT X (.Compare a [.GtE] [b] pos) (uR X.K G (λZ=>Ca Z/\Cb Z) λZ=>gb Z<=ga Z):=xK (p:=λi j=>j<=i) op_ge (nomark _) ha hb
theorem sY (ha:PE X a (lY X.K G Ca ga))(hb:PE X b (lY X.K G Cb gb)):PT X (.Compare a [.Eq] [b] pos) (uR X.K G (λZ=>Ca Z/\Cb Z) λZ=>ga Z=gb Z):=xK Kd (nomark _) ha hb
theorem vo (ha:PE X a (lY X.K G Ca ga))(hb:PE X b (lY X.K G Cb gb)):PT X (.Compare a [.NotEq] [b] pos) (uR X.K G (λZ=>Ca Z/\Cb Z) λZ=>¬ga Z=gb Z):=xK (p:=λi j=>¬i=j) X4 (nomark _) ha hb
theorem Xl (ha:PE X a (lY X.K G Ca ga))(hb:PE X b (lY X.K G Cb gb)):PE X (.Compare a [.Eq] [b] pos) (Qd X.K G (λZ=>Ca Z/\Cb Z) λZ=>ga Z=gb Z):=YX Kd (nomark _) ha hb
variable {pa pb:En->Prop}[∀Z,Decidable (pa Z)][∀Z,Decidable (pb Z)]{rest:List Expr}
theorem xH (h:PE X e (Qd X.K G Ca pa))(he:∀whole,isTrue e X.env whole=(do let v <- whole;standAt e.pos;holding [v] (truthy v)):=by intro _;rfl):PT X e (uR X.K G Ca pa):=
 λpins s σ H Q I ⟨B,Z,O,R,c,q⟩=>pt_val h he pins s σ H Q I ⟨B,Z,O,R,c,λ_ H1 s1 a1=>⟨_,a1,q H1 s1⟩⟩
theorem nj (ha:PT X a (uR X.K G Ca pa)):PT X (.UnaryOp .Not a pos) (uR X.K G Ca λZ=>¬pa Z):=
 λpins s σ H Q I ⟨B,Z,O,R,c,q⟩=>L2.pt_not ha pins s σ H Q I ⟨B,Z,O,R,c,λH1 s1=>by have z:=q H1 s1;rw[ii]at z;exact z⟩
theorem qD (ha:PT X a (uR X.K G Ca pa)):PW X (.BoolOp .Or [a] pos) (uR X.K G Ca pa):=pw_or1 ha
theorem uT (ha:PT X a (uR X.K G Ca pa)):PW X (.BoolOp .And [a] pos) (uR X.K G Ca pa):=pw_and1 ha
theorem oN (ha:PT X a (uR X.K G Ca pa))(hb:PW X (.BoolOp .Or (b::rest) pos) (uR X.K G Cb pb)):PW X (.BoolOp .Or (a::b::rest) pos) (uR X.K G (λZ=>Ca Z/\(¬pa Z->Cb Z)) λZ=>pa Z\/pb Z):=
 λwh pins s σ H Q I ⟨B,Z,O,R,c,q⟩=>pw_or ha hb wh pins s σ H Q I ⟨B,Z,O,R,c.1,λH1 s1=>by
  by_cases d:pa Z
  ·have z:=q H1 s1;rw[aK (Or.inl d:pa Z\/pb Z)]at z;rw[aK d];refine iteT ?_;exact z
  ·rw[aI d];refine iteF ?_;refine⟨B,Z,O,R.grow s1,c.2 d,λH2 s2=>?_⟩;have z:=q H2 (s1.trans s2);have e:decide (pa Z\/pb Z)=decide (pb Z):=by simp[d]
   rw[e]at z;exact z⟩
theorem xu (ha:PT X a (uR X.K G Ca pa))(hb:PW X (.BoolOp .And (b::rest) pos) (uR X.K G Cb pb)):PW X (.BoolOp .And (a::b::rest) pos) (uR X.K G (λZ=>Ca Z/\(pa Z->Cb Z)) λZ=>pa Z/\pb Z):=
 λwh pins s σ H Q I ⟨B,Z,O,R,c,q⟩=>pw_and ha hb wh pins s σ H Q I ⟨B,Z,O,R,c.1,λH1 s1=>by
  by_cases d:pa Z
  ·rw[aK d];refine iteT ?_;refine⟨B,Z,O,R.grow s1,c.2 d,λH2 s2=>?_⟩;have z:=q H2 (s1.trans s2);have e:decide (pa Z/\pb Z)=decide (pb Z):=by simp[d]
   rw[e]at z;exact z
  ·have z:=q H1 s1;rw[aI (λy=>d y.1:¬(pa Z/\pb Z))]at z;rw[aI d];refine iteF ?_;exact z⟩
theorem YW (ha:PE X a (Qd X.K G Ca pa)):PE X (.UnaryOp .Not a pos) (Qd X.K G Ca λZ=>¬pa Z):=
 tL (pe_not ha) λB _ _ Z O _ R c q=>⟨B,Z,O,R,c,λ_ H1 s1 a1=>⟨_,a1,q _ H1 s1 (by rw[ii];rfl)⟩⟩
theorem Yv (ha:PE X a (Qd X.K G Ca pa))(hb:PE X (.BoolOp .And (b::rest) pos) (Qd X.K G Cb pb)):PE X (.BoolOp .And (a::b::rest) pos) (Qd X.K G (λZ=>Ca Z/\(pa Z->Cb Z)) λZ=>pa Z/\pb Z):=
 tL (pe_and ha hb) λB _ _ Z O _ R c q=>⟨B,Z,O,R,c.1,λ_ H1 s1 a1=>⟨_,a1,by
  by_cases d:pa Z
  ·rw[aK d];refine iteT ?_;refine⟨B,Z,O,R.grow s1,c.2 d,λv H2 s2 a2=>q v H2 (s1.trans s2) ?_⟩;have e:decide (pa Z/\pb Z)=decide (pb Z):=by simp[d]
   rw[e];exact a2
  ·have z:=q (.bl false) H1 s1 (by rw[aI (λy=>d y.1:¬(pa Z/\pb Z))];rfl);rw[aI d];refine iteF ?_;exact z⟩⟩
variable {es:List Expr}{gs:En->List PV}
theorem jh:PA X [] (KN X.K G (λ_=>True) λ_=>[]):=λpos pins s σ H Q I ⟨_,_,_,_,_,q⟩=>pa_nil pos pins s σ H Q I (q [] H (Same.refl H) rfl)
theorem jc (ha:PE X e (tX X.K G Ca g))(hr:PA X es (KN X.K G Cb gs))(hs:starEach (e::es) X.env=(false,eval e X.env)::starEach es X.env:=by rfl):PA X (e::es) (KN X.K G (λZ=>Ca Z/\Cb Z) λZ=>g Z::gs Z):=
 λpos pins s σ H Q I ⟨B,Z,O,R,c,q⟩=>pa_cons ha hr hs pos pins s σ H Q I ⟨B,Z,O,R,c.1,λv H1 s1 a1=>⟨B,Z,O,R.grow s1,c.2,λvs H2 s2 a2=>q _ H2 (s1.trans s2) ⟨v,vs,rfl,At.mono (lA s2) _ _ a1,a2⟩⟩⟩
end
structure Ps where
 nx:En->Prop
 rt:PV->Prop
 rl:List Int->Prop:=λ_=>False
 rn:PV->Prop:=λ_=>False
 bk:En->Prop:=λ_=>False
 ct:En->Prop:=λ_=>False
 er:Addr->Prop:=λ_=>False
abbrev Ps.sq (P:Ps)(k:En->Prop):Ps:={ P with nx:=k }
abbrev Ps.lp (P:Ps)(k:En->Prop):Ps:={ P with nx:=k,ct:=k,bk:=P.nx }
abbrev ER:=Addr->Hp->Prop
abbrev ER0:ER:=λ_ _=>False
abbrev FS:=Ps->En->Prop
def vZ (K:Fg)(G:Gx)(B:Bs)(σ:L2.St)(H:Hp)(Z:En):Prop:=∃O,Rep K G B σ H Z O
structure Owe (K:Fg)(G:Gx)(Er:ER)(B:Bs)(P:Ps)(D:Ends):Prop where
 nx:∀σ H Z,vZ K G B σ H Z->P.nx Z->D.nx σ H
 rt:∀v H p,Same B.H0 H->At K G (mn H B.Oc) p v->P.rt p->D.rt v H
 rl:∀a H ns,Same B.H0 H->B.H0 a=none->H a=some (.lst (ns.map V.int))->P.rl ns->D.rt (.ref a) H
 rn:∀v H p,Same B.H0 H->At K G (mn H λa=>(B.H0 a).isSome) p v->P.rn p->D.rt v H
 bk:∀σ H Z,vZ K G B σ H Z->P.bk Z->D.bk σ H
 ct:∀σ H Z,vZ K G B σ H Z->P.ct Z->D.ct σ H
 er:∀H C,Same B.H0 H->P.er C->Er C H
def ts (K:Fg)(G:Gx)(Er:ER)(f:FS):TS:=λD σ H=>∃B Z P,vZ K G B σ H Z/\f P Z/\Owe K G Er B P D
section
variable {X:Cx}{G:Gx}{Er:ER}{pos:Pos}{st:Stmt}{sts:List Stmt}{f f1 f2:FS}{C:En->Prop}{e:Expr}{t:TS}
theorem toS (h:PS X st t)(k:∀B σ H Z O P D,Rep X.K G B σ H Z O->f P Z->Owe X.K G Er B P D->t D σ H):PS X st (ts X.K G Er f):=
 λpins s σ H D I ⟨B,Z,P,⟨O,R⟩,c,w⟩=>h pins s σ H D I (k B σ H Z O P D R c w)
theorem jO:PSs X [] (ts X.K G Er λP Z=>P.nx Z):=λpins s σ H D I ⟨_,Z,_,R,c,w⟩=>pss_nil pins s σ H D I (w.nx σ H Z R c)
theorem jf (h:PS X st (ts X.K G Er f)):PSs X [st] (ts X.K G Er f):=pss_one h
theorem jd (h1:PS X st (ts X.K G Er f1))(h2:PSs X sts (ts X.K G Er f2)):PSs X (st::sts) (ts X.K G Er λP Z=>f1 (P.sq (f2 P)) Z):=
 λpins s σ H D I ⟨B,Z,P,R,c,w⟩=>pss_cons h1 h2 pins s σ H D I ⟨B,Z,{ P with nx:=f2 P },R,c,⟨λ_ _ Z' R' c'=>⟨B,Z',P,R',c',w⟩,w.rt,w.rl,w.rn,w.bk,w.ct,w.er⟩⟩
theorem tW (h1:PS X st (ts X.K G Er f1))(h2:PSs X sts (ts X.K G Er f2)):PSs X (st::sts) (ts X.K G Er λP Z=>∃J:En->Prop,f1 (P.sq J) Z/\∀Z',J Z' -> f2 P Z'):=
 λpins s σ H D I ⟨B,Z,P,R,⟨J,c,k⟩,w⟩=>pss_cons h1 h2 pins s σ H D I ⟨B,Z,{ P with nx:=J },R,c,⟨λ_ _ Z' R' c'=>⟨B,Z',P,R',k Z' c',w⟩,w.rt,w.rl,w.rn,w.bk,w.ct,w.er⟩⟩
theorem kZ (i:Nat)(h:PSs X sts (ts X.K G Er f)):PSs X sts (ts X.K G Er λP Z=>f P (frz Z i)):=
 λpins s σ H D I ⟨B,Z,P,⟨_,R⟩,c,w⟩=>h pins s σ H D I ⟨B,frz Z i,P,R.freeze i,c,w⟩
theorem Du:PS X st (ts X.K G Er λ_ _=>False):=toS ps_never λ_ _ _ _ _ _ _ _ c _=>c
theorem jo (h:PE X e (tX X.K G C g)):PS X (.Return (some e) pos) (ts X.K G Er λP Z=>C Z/\P.rt (g Z)):=
 toS (ps_ret h) λB _ _ Z O _ _ R c w=>⟨B,Z,O,R,c.1,λv H1 s1 a1=>w.rt v H1 _ (R.same.trans s1) (At.mono (qU R.hid) _ _ a1) c.2⟩
theorem lO (h:PE X e (CT X.K G C g)):PS X (.Return (some e) pos) (ts X.K G Er λP Z=>C Z/\P.rl (g Z)):=
 toS (ps_ret h) λB _ _ Z O _ _ R c w=>⟨B,Z,O,R,c.1,λa H1 s1 n1 e1=>w.rl a H1 _ (R.same.trans s1) (R.same.free n1) e1 c.2⟩
theorem zO (i:Nat)(hN:X.N[i]?=some x:=by rfl)(hv:Vis X.env.scope x:=by walk_at "v")
  (hd:(x == ("__debug__":Str))=false:=by decide) (hcd:(x == ("__classdict__":Str))=false:=by decide):PS X (.Return (some (.Name x px)) pos) (ts X.K G Er λP Z=>Ut Z i/\P.rl (getL Z i)):=
 toS (ps_ret (pe_var hN hv hd hcd)) λB _ H Z O _ _ R c w=>by obtain⟨a,vs,e1,e2,e3,e4,e5⟩:=R.ow i _ c.1;subst e5;exact⟨_,e1,w.rl a H _ R.same e3 e4 c.2⟩
theorem Gf (hN:X.N.Nodup)(hi:X.N[i]?=some x)(hx:Loc X.env.scope x)(he:PE X e (tX X.K G C g))(hs:swapsWith e (some (.Name x pos')) pos.line X.env=pure false:=by rfl)
  (hf:X.fn x=true\/X.env.scope.names.lookup x=some .local:=by walk_at "w"):PS X (.Assign [.Name x pos'] e pos) (ts X.K G Er λP Z=>C Z/\P.nx (Z.set i (.fr (g Z)))):=
 toS (ps_set hN hi hx he hs hf) λB σ _ Z O _ _ R c w=>⟨B,Z,O,R,c.1,λ_ H1 s1 a1=>w.nx _ H1 _ ⟨O,(R.grow s1).set a1⟩ c.2⟩
theorem lR (hN:X.N.Nodup)(hi:X.N[i]?=some x)(hx:Loc X.env.scope x)(he:PE X e (tX X.K G C g))(hs:swapsWith e (some (.Name x pos')) pos.line X.env=pure false:=by rfl)
  (hf:X.fn x=true\/X.env.scope.names.lookup x=some .local:=by walk_at "w"):PS X (.Assign [.Name x pos'] e pos) (ts X.K G Er λP Z=>C Z/\∀p,p=g Z->P.nx (Z.set i (.fr p))):=
 toS (Gf hN hi hx he hs hf) λB σ _ Z O P D R c w=>⟨B,Z,P,⟨O,R⟩,⟨c.1,c.2 _ rfl⟩,w⟩
theorem jq (hN:X.N.Nodup)(hi:X.N[i]?=some x)(hx:Loc X.env.scope x)(he:PE X e (lY X.K G C g))(hs:swapsWith e (some (.Name x pos')) pos.line X.env=pure false:=by rfl)
  (hf:X.fn x=true\/X.env.scope.names.lookup x=some .local:=by walk_at "w"):PS X (.Assign [.Name x pos'] e pos) (ts X.K G Er λP Z=>C Z/\∀n,n=g Z->P.nx (Z.set i (.fr (.int n)))):=
 toS (Gf hN hi hx he hs hf) λB σ _ Z O P D R c w=>⟨B,Z,P,⟨O,R⟩,⟨c.1,c.2 _ rfl⟩,w⟩
theorem jr (hN:X.N.Nodup)(hi:X.N[i]?=some x)(hx:Loc X.env.scope x)(he:PE X e (Km X.K G C g))(hs:swapsWith e (some (.Name x pos')) pos.line X.env=pure false:=by rfl)
  (hf:X.fn x=true\/X.env.scope.names.lookup x=some .local:=by walk_at "w"):PS X (.Assign [.Name x pos'] e pos) (ts X.K G Er λP Z=>C Z/\∀ns,ns=g Z->P.nx (Z.set i (.fr (.ints ns)))):=
 toS (Gf hN hi hx he hs hf) λB σ _ Z O P D R c w=>⟨B,Z,P,⟨O,R⟩,⟨c.1,c.2 _ rfl⟩,w⟩
theorem p6 (hN:X.N.Nodup)(hi:X.N[i]?=some x)(hx:Loc X.env.scope x)(he:PE X e (CT X.K G C g))(hs:swapsWith e (some (.Name x pos')) pos.line X.env=pure false:=by rfl)
  (hf:X.fn x=true\/X.env.scope.names.lookup x=some .local:=by walk_at "w"):PS X (.Assign [.Name x pos'] e pos) (ts X.K G Er λP Z=>C Z/\∀ns,ns=g Z->P.nx (Z.set i (.ow (.ints ns)))):=
 toS (ps_set hN hi hx he hs hf) λB σ _ Z O _ _ R c w=>⟨B,Z,O,R,c.1,λa H1 s1 n1 e1=>w.nx _ H1 _ ⟨hide a O,R.new (p:=.ints (g Z)) s1 n1 e1 rfl⟩ (c.2 _ rfl)⟩
theorem uw (hN:X.N.Nodup)(hi:X.N[i]?=some x)(hx:Loc X.env.scope x)(he:PE X e (yV X.K G C g))(hs:swapsWith e (some (.Name x pos')) pos.line X.env=pure false:=by rfl)
  (hf:X.fn x=true\/X.env.scope.names.lookup x=some .local:=by walk_at "w"):PS X (.Assign [.Name x pos'] e pos) (ts X.K G Er λP Z=>C Z/\∀ns,ns=g Z->P.nx (Z.set i (.ow (.lst ns)))):=
 toS (ps_set hN hi hx he hs hf) λB σ _ Z O _ _ R c w=>⟨B,Z,O,R,c.1,λa vs H1 s1 n1 e1 al=>w.nx _ H1 _ ⟨hide a O,R.new (p:=.lst (g Z)) s1 n1 e1 al⟩ (c.2 _ rfl)⟩
theorem zm {i:Nat}{op:Operator}{g:En->Int}{Pr:Int->Int->Prop}{h:Int->Int->Int}(hN:X.N.Nodup)(hi:X.N[i]?=some x)(hx:Loc X.env.scope x)(he:PE X e (lY X.K G C g))(ho:OpR X (inplaceOp op) (rI Pr λi j=>.int (h i j)))
  (hf:X.fn x=true\/X.env.scope.names.lookup x=some .local:=by walk_at "w"):PS X (.AugAssign (.Name x pos') op e pos) (ts X.K G Er λP Z=>isI Z i/\C Z/\Pr (xN Z i) (g Z)/\∀n,n=h (xN Z i) (g Z)->P.nx (Z.set i (.fr (.int n)))):=
 toS (ps_aug hN hi hx he ho hf) λB σ H Z O _ _ R c w=>by obtain⟨c0,c1,c2,c3⟩:=c;obtain⟨v,e1,e2⟩:=R.fr i _ c0;subst e2;exact⟨_,e1,B,Z,O,R,c1,λy H1 s1 a1=>⟨_,_,rfl,a1,c2,w.nx _ H1 _ ⟨O,(R.grow s1).set (p:=.int _) rfl⟩ (c3 _ rfl)⟩⟩
theorem j7 [∀Z,Decidable (p Z)](hc:PT X c (uR X.K G C p))(ha:PSs X a (ts X.K G Er f1))(hb:PSs X b (ts X.K G Er f2)):PS X (.If c a b pos) (ts X.K G Er λP Z=>C Z/\(p Z->f1 P Z)/\(¬p Z->f2 P Z)):=
 toS (ps_if hc ha hb) λB σ _ Z O P D R c w=>⟨B,Z,O,R,c.1,λH1 s1=>by
  by_cases d:p Z
  ·rw[aK d];refine iteT ?_;exact⟨B,Z,P,⟨O,R.grow s1⟩,c.2.1 d,w⟩
  ·rw[aI d];refine iteF ?_;exact⟨B,Z,P,⟨O,R.grow s1⟩,c.2.2 d,w⟩⟩
theorem mY {c:Expr}{body:List Stmt}{p:En->Prop}[∀Z,Decidable (p Z)](hp:PassesOwn (model X.prog X.w) X.A X.env X.xe)(hc:PT X c (uR X.K G C p))(hb:PSs X body (ts X.K G Er f)) :
  PS X (.While c body [] pos) (ts X.K G Er λP Z=>∃(W:En->Prop) (μ:En->Nat),W Z/\∀Z,W Z->C Z/\(p Z->f (P.lp λZ'=>W Z'/\μ Z'<μ Z) Z)/\(¬p Z->P.nx Z)):=
 toS (ps_while hp hc hb) λB σ H Z O P D R c w=>by
  obtain⟨W,μ,w0,st⟩:=c;refine⟨λm σ H=>∃Z,vZ X.K G B σ H Z/\W Z/\m=μ Z,⟨μ Z,Z,⟨O,R⟩,w0,rfl⟩,?_⟩;rintro m σ H ⟨Z,⟨O,R⟩,hw,rfl⟩;obtain⟨c1,c2,c3⟩:=st Z hw;refine⟨B,Z,O,R,c1,λH1 s1=>?_⟩;by_cases d:p Z
  ·rw[aK d];refine iteT ?_;refine⟨λσ' H'=>∃Z',vZ X.K G B σ' H' Z'/\W Z'/\μ Z'<μ Z,λσ' H' ⟨Z',R',h1,h2⟩=>⟨_,h2,Z',R',h1,rfl⟩,B,Z,_,⟨O,R.grow s1⟩,c2 d,⟨λσ' H' Z' R' h=>⟨Z',R',h⟩,w.rt,w.rl,w.rn,w.nx,λσ' H' Z' R' h=>⟨Z',R',h⟩,w.er⟩⟩
  ·rw[aI d];refine iteF ?_;exact w.nx σ H1 Z ⟨O,R.grow s1⟩ (c3 d)
theorem pK {k:Nat}{x:Str}{a:Expr}{body:List Stmt}{g:En->Int}{p px pos':Pos}(hp:PassesOwn (model X.prog X.w) X.A X.env X.xe)(hc:X.calm=true)(hg:Gl X "range")(hm:X.mg "range"=none)(ha:PE X a (lY X.K G C g))(hN:X.N.Nodup)(hi:X.N[k]?=some x)(hx:Loc X.env.scope x)
  (hb:PSs X body (ts X.K G Er f)) (hs:starEach [a] X.env=[(false,eval a X.env)]:=by rfl) (hfs:∀x,foldedSetIterable (.Call (.Name "range" p) [a] [] pos') X.env x=pure x:=by intro _;rfl)
  (hf:X.fn x=true\/X.env.scope.names.lookup x=some .local:=by walk_at "w") :
  PS X (.For (.Name x px) (.Call (.Name "range" p) [a] [] pos') body [] pos) (ts X.K G Er λP Z=>C Z/\(-(2^62)<=g Z/\g Z<2^62)/\∃W:Nat->En->Prop,W 0 Z/\(∀i Z',i<(g Z).toNat->W i Z' -> f (P.lp (W (i+1))) (Z'.set k (.fr (.int i))))/\∀Z',W (g Z).toNat Z' -> P.nx Z'):=
 toS (ps_for hp hc (pi_range1 hg hm (pa_cons ha pa_nil hs) hs) (pg_name hN hi hx hf) hb hfs) λB σ H Z O P D R c w=>by
  obtain⟨c1,⟨l1,l2⟩,W,w0,st,nd⟩:=c;refine⟨B,Z,O,R,c1,λv H1 s1 a1=>?_⟩;have a1:v=.int (g Z):=a1;subst a1;refine⟨g Z,rfl,l1,l2,for_range (λi σ H=>∃Z',vZ X.K G B σ H Z'/\W i Z') ⟨Z,⟨O,R.grow s1⟩,w0⟩ ?_ ?_⟩
  ·rintro i σ H hi ⟨Z',⟨O',R'⟩,hw⟩;have e:(0:Int)+i=i:=by lia
   rw[e];exact⟨B,_,_,⟨O',R'.set (p:=.int i) rfl⟩,st i Z' hi hw,⟨λσ' H' Z' R' h=>⟨Z',R',h⟩,w.rt,w.rl,w.rn,w.nx,λσ' H' Z' R' h=>⟨Z',R',h⟩,w.er⟩⟩
  ·rintro σ H ⟨Z',R',hw⟩;exact w.nx σ H Z' R' (nd Z' hw)
theorem Ot {k:Nat}{x:Str}{a b:Expr}{body:List Stmt}{Cb:En->Prop}{g h:En->Int}{p px pos':Pos}(hp:PassesOwn (model X.prog X.w) X.A X.env X.xe)(hc:X.calm=true)(hg:Gl X "range")(hm:X.mg "range"=none)(ha:PE X a (lY X.K G C g))(hb':PE X b (lY X.K G Cb h))(hN:X.N.Nodup)(hi:X.N[k]?=some x)(hx:Loc X.env.scope x)
  (hb:PSs X body (ts X.K G Er f)) (hs:starEach [a,b] X.env=[(false,eval a X.env),(false,eval b X.env)]:=by rfl) (hs2:starEach [b] X.env=[(false,eval b X.env)]:=by rfl) (hfs:∀x,foldedSetIterable (.Call (.Name "range" p) [a,b] [] pos') X.env x=pure x:=by intro _;rfl)
  (hf:X.fn x=true\/X.env.scope.names.lookup x=some .local:=by walk_at "w") :
  PS X (.For (.Name x px) (.Call (.Name "range" p) [a,b] [] pos') body [] pos) (ts X.K G Er λP Z=>(C Z/\Cb Z)/\(-(2^62)<=g Z/\g Z<2^62 /\ -(2^62)<=h Z/\h Z<2^62) /\
   ∃W:Nat->En->Prop,W 0 Z/\(∀i Z',i<(h Z-g Z).toNat->W i Z' -> f (P.lp (W (i+1))) (Z'.set k (.fr (.int (g Z+i)))))/\∀Z',W (h Z-g Z).toNat Z' -> P.nx Z'):=
 toS (ps_for hp hc (pi_range2 hg hm (pa_cons ha (pa_cons hb' pa_nil hs2) (by rw[hs,hs2])) hs hs2) (pg_name hN hi hx hf) hb hfs) λB σ H Z O P D R c w=>by
  obtain⟨⟨c1,c2⟩,l,W,w0,st,nd⟩:=c;refine⟨B,Z,O,R,c1,λv H1 s1 a1=>⟨B,Z,O,R.grow s1,c2,λu H2 s2 a2=>?_⟩⟩;have a1:v=.int (g Z):=a1;have a2:u=.int (h Z):=a2;subst a1 a2;refine⟨g Z,h Z,rfl,l,for_range (λi σ H=>∃Z',vZ X.K G B σ H Z'/\W i Z') ⟨Z,⟨O,(R.grow s1).grow s2⟩,w0⟩ ?_ ?_⟩
  ·rintro i σ H hi ⟨Z',⟨O',R'⟩,hw⟩;exact⟨B,_,_,⟨O',R'.set (p:=.int _) rfl⟩,st i Z' hi hw,⟨λσ' H' Z' R' h=>⟨Z',R',h⟩,w.rt,w.rl,w.rn,w.nx,λσ' H' Z' R' h=>⟨Z',R',h⟩,w.er⟩⟩
  ·rintro σ H ⟨Z',R',hw⟩;exact w.nx σ H Z' R' (nd Z' hw)
theorem rN {B:Bs}{σ:L2.St}{H:Hp}{Z:En}{O:Addr->Bool}{K:Fg}{P:Ps}{D:Ends}(R:Rep K G B σ H Z O)(w:Owe K G Er B P D):Owe K G Er (B.at H O) P D:=
 ⟨λσ' H' Z' ⟨O',R'⟩ h=>w.nx σ' H' Z' ⟨O',R.Ku R'⟩ h,λv H' p s a h=>w.rt v H' p (R.nW.trans s) a h,λa H' ns s n e h=>w.rl a H' ns (R.nW.trans s) (R.nW.free n) e h,λv H' p s a h=>w.rn v H' p (R.nW.trans s) (At.mono (qU λb z=>by
  obtain⟨o,e⟩:=cU.mp z;exact cU.mpr (R.nW _ _ e).some) _ _ a) h,λσ' H' Z' ⟨O',R'⟩ h=>w.bk σ' H' Z' ⟨O',R.Ku R'⟩ h,λσ' H' Z' ⟨O',R'⟩ h=>w.ct σ' H' Z' ⟨O',R.Ku R'⟩ h,λH' C s h=>w.er H' C (R.nW.trans s) h⟩
theorem Bj {k:Nat}{x:Str}{l:Expr}{body:List Stmt}{g:En->List Int}{px:Pos}(hp:PassesOwn (model X.prog X.w) X.A X.env X.xe)(hc:X.calm=true)(hl:PE X l (Km X.K G C g))(hN:X.N.Nodup)(hi:X.N[k]?=some x)(hx:Loc X.env.scope x)
  (hb:PSs X body (ts X.K G Er f)) (hfs:∀x,foldedSetIterable l X.env x=pure x:=by intro _;rfl) (hf:X.fn x=true\/X.env.scope.names.lookup x=some .local:=by walk_at "w") :
  PS X (.For (.Name x px) l body [] pos) (ts X.K G Er λP Z=>C Z/\∃W:Nat->En->Prop,W 0 Z/\(∀i n Z',(g Z)[i]?=some n->W i Z' -> f (P.lp (W (i+1))) (Z'.set k (.fr (.int n))))/\∀Z',W (g Z).length Z' -> P.nx Z'):=
 toS (ps_for hp hc (pi_list hl) (pg_name hN hi hx hf) hb hfs) λB σ H Z O P D R c w=>by
  obtain⟨c1,W,w0,st,nd⟩:=c;refine⟨B,Z,O,R,c1,λv H1 s1 a1=>?_⟩;obtain⟨a,e,hq⟩:=a1;have R1:=R.grow s1;have w1:=rN R1 w;refine⟨a,e,⟨_,.inl (jw jM hq)⟩,for_list (xs:=(g Z).map V.int) (λi σ H=>∃Z',vZ X.K G (B.at H1 O) σ H Z'/\W i Z') ⟨Z,⟨O,R1.rebase⟩,w0⟩ ?_ ?_ ?_⟩
  ·rintro i σ H _ ⟨Z',⟨O',R'⟩,_⟩;exact .inl (jw ((Rep.uW B H1 O).trans R'.same) hq)
  ·rintro i y σ H hy ⟨Z',⟨O',R'⟩,hw⟩;rw[aw]at hy;cases en:(g Z)[i]? with
   |none=>rw[en]at hy;cases hy
   |some n=>rw[en]at hy;have hy:V.int n=y:=aB hy;subst hy;exact⟨_,_,_,⟨O',R'.set (p:=.int n) rfl⟩,st i n Z' en hw,⟨λσ' H' Z' R' h=>⟨Z',R',h⟩,w1.rt,w1.rl,w1.rn,w1.nx,λσ' H' Z' R' h=>⟨Z',R',h⟩,w1.er⟩⟩
  ·rintro σ H ⟨Z',R',hw⟩;rw[aa]at hw;exact w1.nx σ H Z' R' (nd Z' hw)
theorem wB {k:Nat}{x:Str}{l:Expr}{body:List Stmt}{g:En->List PV}{px:Pos}(hp:PassesOwn (model X.prog X.w) X.A X.env X.xe)(hc:X.calm=true)(hl:PE X l (tX X.K G C λZ=>.lst (g Z)))(hN:X.N.Nodup)(hi:X.N[k]?=some x)(hx:Loc X.env.scope x)
  (hb:PSs X body (ts X.K G Er f)) (hfs:∀x,foldedSetIterable l X.env x=pure x:=by intro _;rfl) (hf:X.fn x=true\/X.env.scope.names.lookup x=some .local:=by walk_at "w") :
  PS X (.For (.Name x px) l body [] pos) (ts X.K G Er λP Z=>C Z/\∃W:Nat->En->Prop,W 0 Z/\(∀i n Z',(g Z)[i]?=some n->W i Z' -> f (P.lp (W (i+1))) (Z'.set k (.fr n)))/\∀Z',W (g Z).length Z' -> P.nx Z'):=
 toS (ps_for hp hc (pi_list hl) (pg_name hN hi hx hf) hb hfs) λB σ H Z O P D R c w=>by
  obtain⟨c1,W,w0,st,nd⟩:=c;refine⟨B,Z,O,R,c1,λv H1 s1 a1=>?_⟩;obtain⟨a,vs,e,hq,hal⟩:=a1;have R1:=R.grow s1;have w1:=rN R1 w;have el:=hal.length;refine⟨a,e,⟨_,.inl (jw jM hq)⟩,for_list (xs:=vs) (λi σ H=>∃Z',vZ X.K G (B.at H1 O) σ H Z'/\W i Z') ⟨Z,⟨O,R1.rebase⟩,w0⟩ ?_ ?_ ?_⟩
  ·rintro i σ H _ ⟨Z',⟨O',R'⟩,_⟩;exact .inl (jw ((Rep.uW B H1 O).trans R'.same) hq)
  ·rintro i y σ H hy ⟨Z',⟨O',R'⟩,hw⟩;obtain⟨n,en,an⟩:=hal.get hy;exact⟨_,_,_,⟨O',R'.set (At.mono (R1.seen R') _ _ an)⟩,st i n Z' en hw,⟨λσ' H' Z' R' h=>⟨Z',R',h⟩,w1.rt,w1.rl,w1.rn,w1.nx,λσ' H' Z' R' h=>⟨Z',R',h⟩,w1.er⟩⟩
  ·rintro σ H ⟨Z',R',hw⟩;rw[<- el]at hw;exact w1.nx σ H Z' R' (nd Z' hw)
theorem wK {k j:Nat}{x y:Str}{l:Expr}{body:List Stmt}{g:En->List Int}{px py p pos' tp:Pos}{kk:Nat}(hp:PassesOwn (model X.prog X.w) X.A X.env X.xe)(hc:X.calm=true)(hg:Gl X "enumerate")(hm:X.mg "enumerate"=none)(hl:PE X l (Km X.K G C g))
  (hgt:PG X (.Tuple [.Name x px,.Name y py] kk tp) (gTup X.K 2 (gCons (gName k) (gCons (gName j) gNil)))) (hb:PSs X body (ts X.K G Er f)) (hs:starEach [l] X.env=[(false,eval l X.env)]:=by rfl)
  (hfs:∀x,foldedSetIterable (.Call (.Name "enumerate" p) [l] [] pos') X.env x=pure x:=by intro _;rfl) :
  PS X (.For (.Tuple [.Name x px,.Name y py] kk tp) (.Call (.Name "enumerate" p) [l] [] pos') body [] pos) (ts X.K G Er λP Z=>C Z/\∃W:Nat->En->Prop,W 0 Z /\
   (∀i n Z',(g Z)[i]?=some n->W i Z' -> f (P.lp (W (i+1))) ((Z'.set k (.fr (.int i))).set j (.fr (.int n))))/\∀Z',W (g Z).length Z' -> P.nx Z'):=
 toS (ps_for hp hc (yX hg hm (pa_cons hl pa_nil hs) hs) hgt hb hfs) λB σ H Z O P D R c w=>by
  obtain⟨c1,W,w0,st,nd⟩:=c;refine⟨B,Z,O,R,c1,λv H1 s1 a1=>?_⟩;obtain⟨a,e,hq⟩:=a1;subst e;have R1:=R.grow s1;have w1:=rN R1 w;refine⟨a,rfl,⟨_,.inl (jw jM hq)⟩,GR (xs:=(g Z).map V.int) (λi σ H=>∃Z',vZ X.K G (B.at H1 O) σ H Z'/\W i Z') ⟨Z,⟨O,R1.rebase⟩,w0⟩ ?_ ?_ ?_⟩
  ·rintro i σ H _ ⟨Z',⟨O',R'⟩,_⟩;exact .inl (jw ((Rep.uW B H1 O).trans R'.same) hq)
  ·rintro i y σ H T hy ⟨Z',⟨O',R'⟩,hw⟩ hT;obtain⟨n,rfl,en⟩:=int_at hy;refine⟨T,_,rfl,SqT.of upd_same,rfl,_,_,rfl,_,_,rfl,rfl,?_⟩;exact⟨_,_,_,⟨O',((R'.grow (same_new hT _)).set (p:=.int i) rfl).set (p:=.int n) rfl⟩,st i n Z' en hw,⟨λσ' H' Z' R' h=>⟨Z',R',h⟩,w1.rt,w1.rl,w1.rn,w1.nx,λσ' H' Z' R' h=>⟨Z',R',h⟩,w1.er⟩⟩
  ·rintro σ H ⟨Z',R',hw⟩;rw[aa]at hw;exact w1.nx σ H Z' R' (nd Z' hw)
theorem S5 {k:Nat}{x:Str}{l:Expr}{body:List Stmt}{g:En->List Int}{px p pos':Pos}(hp:PassesOwn (model X.prog X.w) X.A X.env X.xe)(hc:X.calm=true)(hg:Gl X "reversed")(hm:X.mg "reversed"=none)(hl:PE X l (Km X.K G C g))(hN:X.N.Nodup)(hi:X.N[k]?=some x)(hx:Loc X.env.scope x)
  (hb:PSs X body (ts X.K G Er f)) (hs:starEach [l] X.env=[(false,eval l X.env)]:=by rfl) (hfs:∀x,foldedSetIterable (.Call (.Name "reversed" p) [l] [] pos') X.env x=pure x:=by intro _;rfl) (hf:X.fn x=true\/X.env.scope.names.lookup x=some .local:=by walk_at "w") :
  PS X (.For (.Name x px) (.Call (.Name "reversed" p) [l] [] pos') body [] pos) (ts X.K G Er λP Z=>C Z/\∃W:Nat->En->Prop,W 0 Z /\
   (∀i n Z',i<(g Z).length->(g Z)[(g Z).length-1-i]?=some n->W i Z' -> f (P.lp (W (i+1))) (Z'.set k (.fr (.int n))))/\∀Z',W (g Z).length Z' -> P.nx Z'):=
 toS (ps_for hp hc (X5 hg hm (pa_cons hl pa_nil hs) hs) (pg_name hN hi hx hf) hb hfs) λB σ H Z O P D R c w=>by
  obtain⟨c1,W,w0,st,nd⟩:=c;refine⟨B,Z,O,R,c1,λv H1 s1 a1=>?_⟩;obtain⟨a,e,hq⟩:=a1;subst e;have R1:=R.grow s1;have w1:=rN R1 w;refine⟨a,(g Z).map V.int,rfl,.inl (jw jM hq),Vj (xs:=(g Z).map V.int) (λi σ H=>∃Z',vZ X.K G (B.at H1 O) σ H Z'/\W i Z') ⟨Z,⟨O,R1.rebase⟩,w0⟩ ?_ ?_ ?_⟩
  ·rintro i σ H _ ⟨Z',⟨O',R'⟩,_⟩;exact .inl (jw ((Rep.uW B H1 O).trans R'.same) hq)
  ·rintro i y σ H hlt hy ⟨Z',⟨O',R'⟩,hw⟩;obtain⟨n,rfl,en⟩:=int_at hy;rw[aa]at hlt en;exact⟨_,_,_,⟨O',R'.set (p:=.int n) rfl⟩,st i n Z' hlt en hw,⟨λσ' H' Z' R' h=>⟨Z',R',h⟩,w1.rt,w1.rl,w1.rn,w1.nx,λσ' H' Z' R' h=>⟨Z',R',h⟩,w1.er⟩⟩
  ·rintro σ H ⟨Z',R',hw⟩;rw[aa]at hw;exact w1.nx σ H Z' R' (nd Z' hw)
end
theorem getD_at {ns:Li}{i:Int}(h1:-(ns.length:Int)<=i)(h2:i<ns.length):atI (ns.map V.int) i=some (V.int (ns.getD (if 0<=i then i else i+ns.length).toNat 0)):=by
 by_cases c0:0<=i
 ·rw[af c0];exact yQ c0 h2
 ·rw[ae c0];have q2:=yQ (ns:=ns) (i:=i+ns.length) (by lia) (by lia);unfold atI ixN at q2 ⊢;rw[aa]at q2 ⊢;rw[af (show 0<=i+(ns.length:Int) by lia),af (show i+(ns.length:Int)<(ns.length:Int) by lia)]at q2;rw[ae c0,af h1];exact q2
def lB (n:Nat)(i:Int):Nat:=(if 0<=i then i else i+n).toNat
theorem JB {n:Nat}(h1:-(n:Int)<=i)(h2:i<n):ixN n i=some (lB n i):=by
 unfold ixN lB;by_cases c:0<=i
 ·rw[af c,af h2,af c]
 ·rw[ae c,af h1,ae c]
theorem XJ {n:Nat}(h1:-(n:Int)<=i)(h2:i<n):lB n i<n:=by
 unfold lB;by_cases c:0<=i
 ·rw[af c];lia
 ·rw[ae c];lia
section
variable {X:Cx}{G:Gx}{Er:ER}{a b e:Expr}{pos p px:Pos}{C Ca Cb:En->Prop}{ga gb:En->Int}{i:Nat}{es:List Expr}
theorem lZ (i:Nat)(hb:PE X b (lY X.K G Cb gb))(hs:PlainIx b)(hN:X.N[i]?=some x:=by rfl)(hv:Vis X.env.scope x:=by walk_at "v")
  (hd:(x == ("__debug__":Str))=false:=by decide) (hcd:(x == ("__classdict__":Str))=false:=by decide) :
  PE X (.Subscript (.Name x px) b pos) (lY X.K G (λZ=>Kp Z i/\Cb Z /\ -((getL Z i).length:Int)<=gb Z/\gb Z<((getL Z i).length:Int)) λZ=>(getL Z i).getD (lB (getL Z i).length (gb Z)) 0):=
 tL (pe_ix ix_list (pe_var hN hv hd hcd) hb hs) λB σ H Z O Q R c q=>by obtain⟨a,e1,e2⟩:=R.Rf c.1;exact⟨_,e1,B,Z,O,R,c.2.1,λu H1 s1 a1=>⟨a,_,_,_,rfl,a1,s1.seq e2,getD_at c.2.2.1 c.2.2.2,q _ H1 s1 rfl⟩⟩
theorem jK (i:Nat)(hm:X.mg "len"=none)(hN:X.N[i]?=some x:=by rfl)(hg:Gl X "len":=by rfl)(hv:Vis X.env.scope x:=by walk_at "v")
  (hd:(x == ("__debug__":Str))=false:=by decide) (hcd:(x == ("__classdict__":Str))=false:=by decide) (he:starEach [.Name x px] X.env=[(false,eval (.Name x px) X.env)]:=by rfl) :
  PE X (.Call (.Name "len" p) [.Name x px] [] pos) (lY X.K G (λZ=>Kp Z i) λZ=>((getL Z i).length:Int)):=
 tL (pe_callB call_len_seq hg hm TY (pa_cons (pe_var hN hv hd hcd) pa_nil he) (by decide) (by decide) he rfl) λB σ H Z O Q R c q=>by obtain⟨a,e1,e2⟩:=R.Rf c;exact⟨_,e1,a,_,rfl,.inl e2,by rw[aa];exact q _ H (Same.refl H) rfl⟩
def Z4:PV->Int
 | .ints ns=>(ns.length:Int)
 | .scr ns=>(ns.length:Int)
 | .lst xs=>(xs.length:Int)
 | .tup xs=>(xs.length:Int)
 |_=>0
def Ul:PV->Prop
 | .ints _=>True
 | .scr _=>True
 | .lst _=>True
 | .tup _=>True
 |_=>False
theorem At.len {K:Fg}{H:Hp}{p:PV}{v:V}(h:At K G H p v)(hl:Ul p):∃a ys,v=.ref a/\(SqL K H a ys\/SqT K H a ys)/\(ys.length:Int)=Z4 p:=by
 cases p<;>first|exact hl.elim|skip
 ·obtain⟨a,e,q⟩:=h;exact⟨a,_,e,.inl (.inl q),by rw[aa];rfl⟩
 ·obtain⟨a,e,q⟩:=h;exact⟨a,_,e,.inl q,by rw[aa];rfl⟩
 ·obtain⟨a,vs,e,q,r⟩:=h;exact⟨a,vs,e,.inl (.inl q),by rw[<- r.length];rfl⟩
 ·obtain⟨a,vs,e,q,r⟩:=h;exact⟨a,vs,e,.inr (SqT.of q),by rw[<- r.length];rfl⟩
theorem lG {g:En->PV}(hm:X.mg "len"=none)(ha:PE X a (tX X.K G C g))(hg:Gl X "len":=by rfl)(he:starEach [a] X.env=[(false,eval a X.env)]:=by rfl) :
  PE X (.Call (.Name "len" p) [a] [] pos) (lY X.K G (λZ=>C Z/\Ul (g Z)) λZ=>Z4 (g Z)):=
 tL (pe_callB call_len_seq hg hm TY (pa_cons ha pa_nil he) (by decide) (by decide) he rfl) λB σ H Z O Q R c q=>⟨B,Z,O,R,c.1,λv H1 s1 a1=>by
  obtain⟨a,ys,e,s,l⟩:=a1.len c.2;exact⟨a,ys,by rw[e],s.imp (λz=>jM.seq z) (λz=>SM jM z),by rw[l];exact q _ H1 s1 rfl⟩⟩
def lq:PV->Int->PV
 | .lst xs,k=>xs.getD (lB xs.length k) .non
 | .tup xs,k=>xs.getD (lB xs.length k) .non
 | .ints ns,k=>.int (ns.getD (lB ns.length k) 0)
 |_,_=>.non
def lM:PV->Int->Prop
 | .lst xs,k=>-(xs.length:Int)<=k/\k<xs.length
 | .tup xs,k=>-(xs.length:Int)<=k/\k<xs.length
 | .ints xs,k=>-(xs.length:Int)<=k/\k<xs.length
 |_,_=>False
theorem lN.item {K:Fg}{H:Hp}{ps:List PV}{vs:List V}{k:Int}(h:lN K G H ps vs)(h1:-(ps.length:Int)<=k)(h2:k<ps.length):∃v,atI vs k=some v/\At K G H (ps.getD (lB ps.length k) .non) v:=by
 have l:=XJ h1 h2;have e:ps[lB ps.length k]?=some (ps.getD (lB ps.length k) .non):=by rw[gQ,ac l];rfl
 obtain⟨v,ev,av⟩:=h.at e;refine⟨v,?_,av⟩;unfold atI;rw[<- h.length,JB h1 h2];exact ev
theorem jt {g:En->PV}(ha:PE X a (tX X.K G Ca g))(hb:PE X b (lY X.K G Cb gb))(hs:PlainIx b):PE X (.Subscript a b pos) (tX X.K G (λZ=>Ca Z/\Cb Z/\lM (g Z) (gb Z)) λZ=>lq (g Z) (gb Z)):=
 tL (pe_ix ix_seq ha hb hs) λB σ H Z O Q R c q=>two R c.1 c.2.1 λv u H1 H2 s1 s2 a1 a2=>by
  have h:=c.2.2;revert a1 h q;generalize g Z=pg;intro q a1 h;cases pg<;>first|exact h.elim|skip
  ·obtain⟨p,e,r⟩:=a1;exact .inl ⟨p,_,_,_,e,a2,.inl (jw jM r),getD_at h.1 h.2,q _ H2 (s1.trans s2) rfl⟩
  ·obtain⟨p,vs,e,r,t⟩:=a1;obtain⟨v',e',a'⟩:=t.item h.1 h.2;exact .inl ⟨p,vs,_,v',e,a2,.inl (jw jM r),e',q _ H2 (s1.trans s2) a'⟩
  ·obtain⟨p,vs,e,r,t⟩:=a1;obtain⟨v',e',a'⟩:=t.item h.1 h.2;exact .inr (.inl ⟨p,vs,_,v',e,a2,SqT.of (jM _ _ r),e',q _ H2 (s1.trans s2) a'⟩)
theorem zf (i:Nat)(hN:X.N[i]?=some x:=by rfl)(hv:Vis X.env.scope x:=by walk_at "v")
  (hd:(x == ("__debug__":Str))=false:=by decide) (hcd:(x == ("__classdict__":Str))=false:=by decide):PT X (.Name x pos) (uR X.K G (λZ=>Kp Z i) λZ=>¬getL Z i=[]):=
 λpins s σ H Q I ⟨B,Z,O,R,c,q⟩=>pt_truth (pe_var hN hv hd hcd) (λ_=>rfl) pins s σ H Q I (by
  obtain⟨a,e1,e2⟩:=R.Rf c;refine⟨_,e1,_,.inl ⟨_,e2,rfl⟩,?_⟩;have z:=q H (Same.refl H);have e:(!((getL Z i).map V.int).isEmpty)=decide (¬getL Z i=[]):=by cases getL Z i<;>simp
  rw[e];exact z)
def uD:List PV->List Int
 | .int n::r=>n::uD r
 |_=>[]
def Kr:List PV->Prop
 |[]=>True
 | .int _::r=>Kr r
 |_=>False
theorem lN.ints {K:Fg}{H:Hp}:∀{ps:List PV} {vs:List V},lN K G H ps vs->Kr ps->vs=(uD ps).map V.int
 |[],_,h,_=>h
 |p::ps,_,h,c=>by
  cases p<;>first|exact c.elim|skip
  obtain⟨v,r,rfl,e,t⟩:=h;rw[e,lN.ints t c];rfl
theorem lQ {gs:En->List PV}(h:PA X es (KN X.K G C gs))(hz:∀Z,(gs Z).length<=1000:=by intro _;exact fq rfl):PE X (.List es pos) (CT X.K G (λZ=>C Z/\Kr (gs Z)) λZ=>uD (gs Z)):=
 Hk (pe_lst h) λB σ H Z O Q R c q=>⟨B,Z,O,R,c.1,λvs H1 s1 a1=>⟨by rw[<- a1.length];exact bN (small1000 (hz Z)),λa ha=>by
  have e:=a1.ints c.2;refine q a _ (s1.trans (same_new ha _)) (s1.free ha) ?_;rw[upd_same,e]⟩⟩
theorem uc (h:PA X es (KN X.K G C gs))(hz:∀Z,(gs Z).length<=1000:=by intro _;exact fq rfl):PE X (.List es pos) (yV X.K G C gs):=
 λpins s σ H Q I ⟨B,Z,O,R,c,q⟩=>pe_lst h pins s σ H Q I ⟨B,Z,O,R,c,λvs H1 s1 a1=>⟨by rw[<- a1.length];exact bN (small1000 (hz Z)),λa ha=>
  q a vs _ (s1.trans (same_new ha _)) (s1.free ha) upd_same (lN.mono (lX (same_new ha _) ha) _ _ a1)⟩⟩
theorem qY (h:PA X es (KN X.K G C gs))(hz:∀Z,(gs Z).length<=1000:=by intro _;exact fq rfl):PE X (.Tuple es x1 pos) (tX X.K G C λZ=>.tup (gs Z)):=
 tL (pe_tup h) λB σ H Z O Q R c q=>⟨B,Z,O,R,c,λvs H1 s1 a1=>⟨by rw[<- a1.length];exact bN (small1000 (hz Z)),λa ha=>by
  have o:O a=false:=by
   cases z:O a with
   |false=>rfl
   |true=>exact absurd (s1.free ha) (R.dom a z)
  refine q (.ref a) _ (s1.trans (same_new ha _)) ⟨a,vs,rfl,by rw[qu o];exact upd_same,lN.mono (lA (same_new ha _)) _ _ a1⟩⟩⟩
theorem LK (hm:X.mg "list"=none)(ha:PE X a (tX X.K G C g))(hn:∀Z,g Z=.ints (ns Z)\/g Z=.scr (ns Z))(hg:Gl X "list":=by rfl)(he:starEach [a] X.env=[(false,eval a X.env)]:=by rfl) :
  PE X (.Call (.Name "list" p) [a] [] pos) (CT X.K G C ns):=
 Hk (pe_callTy call_list_of hg hm wD (pa_cons ha pa_nil he) (by decide) (by decide) he rfl) λB σ H Z O Q R c q=>⟨B,Z,O,R,c,λv H1 s1 a1=>by
  have key:∃p,v=.ref p/\SqL X.K H1 p ((ns Z).map V.int):=by
   rcases hn Z with z|z
   ·rw[z]at a1;obtain⟨p,e,r⟩:=a1;exact⟨p,e,.inl (jw jM r)⟩
   ·rw[z]at a1;obtain⟨p,e,r⟩:=a1;exact⟨p,e,jM.seq r⟩
  obtain⟨p,rfl,r⟩:=key;exact⟨p,_,rfl,.inl r,λl hl=>q l _ (s1.trans (same_new hl _)) (s1.free hl) upd_same⟩⟩
def qI (xs:List Int)(lo hi:Option Int):List Int:=(xs.drop (HT.sIx xs.length 0 lo)).take (HT.sIx xs.length xs.length hi-HT.sIx xs.length 0 lo)
theorem Rt (xs:Li)(lo hi:Option Int):cutV (xs.map V.int) lo hi=(qI xs lo hi).map V.int:=by unfold cutV qI;rw[aa,<- iR,<- iT]
def VL (K:Fg)(G:Gx)(C:En->Prop)(g:En->Option Int):TO:=λσ H Q=>∃B Z O,Rep K G B σ H Z O/\C Z/\∀H',Same H H' -> Q (g Z) H'
theorem pC:PO X none (VL X.K G (λ_=>True) λ_=>none):=λpins s σ H Q I ⟨_,_,_,_,_,q⟩=>po_none pins s σ H Q I (q H (Same.refl H))
theorem m5 (h:PE X e (lY X.K G C ga)):PO X (some e) (VL X.K G C λZ=>some (ga Z)):=λpins s σ H Q I ⟨B,Z,O,R,c,q⟩=>po_some h pins s σ H Q I ⟨B,Z,O,R,c,λ_ H1 s1 a1=>⟨_,a1,q H1 s1⟩⟩
theorem qj {lo hi:Option Expr}{g:En->PV}{ns:En->List Int}{Cl Ch:En->Prop}{gl gh:En->Option Int}(ha:PE X a (tX X.K G C g))(hl:PO X lo (VL X.K G Cl gl))(hh:PO X hi (VL X.K G Ch gh))(hn:∀Z,C Z->g Z=.ints (ns Z)\/g Z=.scr (ns Z)) :
  PE X (.Subscript a (.Slice lo hi none p2) pos) (CT X.K G (λZ=>C Z/\Cl Z/\Ch Z) λZ=>qI (ns Z) (gl Z) (gh Z)):=
 Hk (pe_slice sl_list ha hl hh) λB σ H Z O Q R c q=>⟨B,Z,O,R,c.1,λv H1 s1 a1=>⟨B,Z,O,R.grow s1,c.2.1,λH2 s2=>⟨B,Z,O,(R.grow s1).grow s2,c.2.2,λH3 s3=>by
  have key:∃p,v=.ref p/\SqL X.K H1 p ((ns Z).map V.int):=by
   rcases hn Z c.1 with z|z
   ·rw[z]at a1;obtain⟨p,e,r⟩:=a1;exact⟨p,e,.inl (jw jM r)⟩
   ·rw[z]at a1;obtain⟨p,e,r⟩:=a1;exact⟨p,e,jM.seq r⟩
  obtain⟨p,rfl,r⟩:=key;refine⟨p,_,rfl,(s2.trans s3).seq r,λl hl=>q l _ (((s1.trans s2).trans s3).trans (same_new hl _)) (((s1.trans s2).trans s3).free hl) ?_⟩;rw[upd_same,Rt]⟩⟩⟩
theorem Inv.Bw {X:Cx}{pins:List (Addr×Obj)}{σ:L2.St}{H:Hp}{s:Shared}{l:Addr}{xs:List V}(I:Inv X pins σ H s)(hH:Rd H l (.lst xs)):xs.length<=sizeLine/\∃(its:Lv) (n:Nat),Vals xs its/\xs.length=its.length/\s.heap.get? l=some { cls:=.type "list",data:=.seq its.toArray n }:=by obtain⟨z,its,n,r,e⟩:=hH.ok I.hok;exact⟨z,its,n,r,r.length,e⟩
def aaM:R2:=λx y H Q=>∃l b xs zs,x=.ref l/\y=.ref b/\Rd H l (.lst xs)/\Rd H b (.lst zs)/\xs.length+zs.length<=sizeLine/\∀p,H p=none->Q (.ref p) (upd H p (.lst (xs++zs)))
theorem K8:OpR X (binaryOp .Add) aaM:=by
 intro pins s σ H x y v u Q I rx ry h;obtain⟨l,b,xs,zs,rfl,rfl,hH,hB,hz,q⟩:=h;cases rx;cases ry;obtain⟨z,its,n,r,hl,e⟩:=Inv.Bw I hH;obtain⟨z2,its2,n2,r2,hl2,e2⟩:=Inv.Bw I hB;refine PySem.P.add_list e e2 ?_ (by rw[ay,ay];lia);have ea:its.toArray++its2.toArray=(its++its2).toArray:=by simp
 rw[ea];exact⟨.ref _,_,I.lnew (t':=s.toks) (r.append r2) (by rw[ai];lia),rfl,q _ I.fresh⟩
theorem tZ (ha:PE X a (Km X.K G Ca gl))(hb:PE X b (Km X.K G Cb hl)):PE X (.BinOp a .Add b pos) (CT X.K G (λZ=>Ca Z/\Cb Z/\(gl Z).length+(hl Z).length<=sizeLine) λZ=>gl Z++hl Z):=
 Hk (pe_op K8 ha hb) λB σ H Z O Q R c q=>two R c.1 c.2.1 λv u H1 H2 s1 s2 a1 a2=>by obtain⟨l,rfl,r1⟩:=a1;obtain⟨b,rfl,r2⟩:=a2;refine⟨l,b,_,_,rfl,rfl,jw jM r1,jw jM r2,by rw[aa,aa];exact c.2.2,λp hp=>q p _ ((s1.trans s2).trans (same_new hp _)) ((s1.trans s2).free hp) ?_⟩;rw[upd_same,bF]
theorem GZ {α:Type}(x:α):∀k:Nat,(List.replicate k [x]).flatten=List.replicate k x
 |0=>rfl
 |k+1=>by rw[df,bQ,GZ x k];rfl
theorem uq {gl:En->List Int}{n:En->Int}(ha:PE X a (CT X.K G Ca gl))(hb:PE X b (lY X.K G Cb gb))(hn:∀Z,gl Z=[n Z]):PE X (.BinOp a .Mult b pos) (CT X.K G (λZ=>Ca Z/\Cb Z /\ -(2^63)<=gb Z/\(gb Z).toNat<=1000) λZ=>List.replicate (gb Z).toNat (n Z)):=
 Hk (pe_op op_rep ha hb) λB σ H Z O Q R c q=>⟨B,Z,O,R,c.1,λl H1 s1 n1 e1=>⟨B,Z,O,R.grow s1,c.2.1,λu H2 s2 a2=>by
  rw[hn Z]at e1;refine⟨l,_,_,rfl,a2,s2 _ _ e1,c.2.2.1,by have:=c.2.2.2;lia,?_,λp hp=>q p _ ((s1.trans s2).trans (same_new hp _)) ((s1.trans s2).free hp) ?_⟩
  ·rw[bK,dO,bw,Nat.one_mul];exact bN (small1000 c.2.2.2)
  ·rw[upd_same,bK,dO,GZ,List.map_replicate]⟩⟩
end
def zc (K:Fg)(G:Gx)(pre:List PV->Prop)(F:List PV->PV):Sp:=λvs H Q _=>∃as O,(∀a,O a=true->H a≠none)/\lN K G (mn H O) as vs/\pre as/\∀v H',Same H H' -> At K G (mn H' O) (F as) v->Q v H'
def Ed (K:Fg)(G:Gx)(pre:List PV->Prop)(F:List PV->List Int):Sp:=λvs H Q _=>∃as O,(∀a,O a=true->H a≠none)/\lN K G (mn H O) as vs/\pre as/\∀a H',Same H H' -> H a=none->H' a=some (.lst ((F as).map V.int))->Q (.ref a) H'
section
variable {X:Cx}{G:Gx}{Er:ER}{e:Expr}{es:List Expr}{pos p:Pos}{j k:Nat}{x:Str}{ps:List Str}{pre:List PV->Prop}{C:En->Prop}{gs:En->List PV}
theorem xc (o:Ok X.prog X.w X.K X.mg X.base j x ps (zc X.K G pre F))(hr:Room k X.A)(ha:PA X (e::es) (KN X.K G C gs))(hj:j<=k:=by decide)(hg:Gl X x:=by rfl)(hdb:(x == ("__debug__":Str))=false:=by decide)
  (he:starEach (e::es) X.env=(false,eval e X.env)::starEach es X.env:=by rfl) (hpl:(backTo pos (starEach es X.env)).any (·.1)=false:=by rfl) :
  PE X (.Call (.Name x p) (e::es) [] pos) (tX X.K G (λZ=>C Z/\pre (gs Z)) λZ=>F (gs Z)):=
 tL (nO o hr ha hj hg hdb he hpl) λB σ H Z O Q R c q=>⟨B,Z,O,R,c.1,λvs H1 s1 a1=>by
  dsimp only;rw[a8];exact⟨gs Z,O,(R.grow s1).dom,a1,c.2,λv H2 s2 a2=>q v H2 (s1.trans s2) a2⟩⟩
theorem vy (o:Ok X.prog X.w X.K X.mg X.base j x ps (Ed X.K G pre F))(hr:Room k X.A)(ha:PA X (e::es) (KN X.K G C gs))(hj:j<=k:=by decide)(hg:Gl X x:=by rfl)(hdb:(x == ("__debug__":Str))=false:=by decide)
  (he:starEach (e::es) X.env=(false,eval e X.env)::starEach es X.env:=by rfl) (hpl:(backTo pos (starEach es X.env)).any (·.1)=false:=by rfl) :
  PE X (.Call (.Name x p) (e::es) [] pos) (CT X.K G (λZ=>C Z/\pre (gs Z)) λZ=>F (gs Z)):=
 Hk (nO o hr ha hj hg hdb he hpl) λB σ H Z O Q R c q=>⟨B,Z,O,R,c.1,λvs H1 s1 a1=>by
  dsimp only;rw[a8];exact⟨gs Z,O,(R.grow s1).dom,a1,c.2,λa H2 s2 n2 e2=>q a H2 (s1.trans s2) (s1.free n2) e2⟩⟩
end
def m9 (N:List Str)(as:List PV):En:=as.map Sl.fr++List.replicate (N.length-as.length) .un
theorem OJ {i:Nat}{x:Sl}(e:(m9 N as)[i]?=some x):(∃p,x=.fr p)\/x=.un:=by
 unfold m9 at e;by_cases c:i<as.length
 ·rw[aM (by rw[aa];exact c),aw]at e;cases e':as[i]? with
  |none=>rw[e']at e;cases e
  |some p'=>rw[e']at e;cases e;exact .inl ⟨_,rfl⟩
 ·rw[a7 (by rw[aa];lia),bX]at e;split at e
  ·cases e;exact .inr rfl
  ·cases e
theorem uQ {K:Fg}{G:Gx}{H:Hp}{O:Addr->Bool}{as:List PV}{vs:List V}{N:Ls}(hd:∀a,O a=true->H a≠none)(h:lN K G (mn H O) as vs):Rep K G ⟨H,O⟩ (L2.start N vs) H (m9 N as) O:=by
 have hl:=h.length;refine⟨Same.refl H,hd,λ_ z=>z,hd,λ_ z=>.inl z,λi p e=>?_,λi p e=>?_,λi j p q a e=>?_,by unfold L2.start m9;simp[hl],λi xs ys e=>?_,λi p e=>by rcases OJ e with⟨_,z⟩|z<;>cases z⟩
 ·unfold m9 at e;by_cases c:i<as.length
  ·rw[aM (by rw[aa];exact c),aw]at e;cases e':as[i]? with
   |none=>rw[e']at e;cases e
   |some p'=>rw[e']at e;cases e;obtain⟨v,ev,av⟩:=h.at e';refine⟨v,?_,av⟩;unfold L2.start;rw[aM (by rw[aa,<- hl];exact c),aw,ev];rfl
  ·rw[a7 (by rw[aa];lia),bX]at e;split at e<;>cases e
 ·exfalso;unfold m9 at e;by_cases c:i<as.length
  ·rw[aM (by rw[aa];exact c),aw]at e;cases e':as[i]? <;> rw[e']at e<;>cases e
  ·rw[a7 (by rw[aa];lia),bX]at e;split at e<;>cases e
 ·exfalso;unfold m9 at e;by_cases c:i<as.length
  ·rw[aM (by rw[aa];exact c),aw]at e;cases e':as[i]? <;> rw[e']at e<;>cases e
  ·rw[a7 (by rw[aa];lia),bX]at e;split at e<;>cases e
 ·exfalso;unfold m9 at e;by_cases c:i<as.length
  ·rw[aM (by rw[aa];exact c),aw]at e;cases e':as[i]? <;> rw[e']at e<;>cases e
  ·rw[a7 (by rw[aa];lia),bX]at e;split at e<;>cases e
section
variable {P:Program}{w:World}{K:Fg}{mg:Mg}{base:Heap}{G:Gx}
theorem xf {x:Str}{st:Stmt}{N ps:Ls}{k:Nat}{pre:List PV->Prop}{F:List PV->PV}(d:nF K mg x st ps)(S:FnScope N ps (defScope st))(len:∀as,pre as->as.length=ps.length)
  (hbody:∀(f:Addr) (cdv:Value) (A:Around) (outer:List Env) (s:Shared) (H:Hp) (E:XK),Room k (A.deeper (envOfC x (defScope st) s.heap.objs.size f cdv)) ->
   ∃fs,PSs (cxOf CX0 P w K mg base N x (defScope st) f cdv A outer s H E).nox (defBody st) (ts K G ER0 fs)/\∀as,pre as->fs { nx:=λ_=>F as=.non,rt:=λp=>p=F as,rl:=λns=>F as=.ints ns } (m9 N as)):Ok P w K mg base (k+1) x ps (zc K G pre F):=by
 refine nF.ok d S (λvs H Q E h=>?_) λf cdv A outer s H vs Q E hr h=>?_
 ·obtain⟨as,O,_,al,hp,_⟩:=h;rw[<- al.length];exact len as hp
 obtain⟨as,O,hd,al,hp,q⟩:=h;obtain⟨fs,b,c⟩:=hbody f cdv A outer s H E hr;refine⟨_,b,⟨H,O⟩,m9 N as,_,⟨O,uQ hd al⟩,c as hp,⟨λσ' H' Z' R' h=>?_,λv H' p s' a' h=>?_,λa H' ns s' n e h=>?_,λ_ _ _ _ _ h=>h.elim,λ_ _ _ _ h=>h,λ_ _ _ _ h=>h,λ_ _ _ h=>h⟩⟩
 ·obtain⟨O',R'⟩:=R';exact q .non H' R'.same (by rw[show F as=.non from h];rfl)
 ·subst h;exact q v H' s' a'
 ·refine q _ H' s' ?_;rw[h];exact⟨a,rfl,.inl (by
   rw[qu]
   ·exact e
   ·cases z:O a with
    |false=>rfl
    |true=>exact absurd n (hd a z))⟩
theorem Jk {x:Str}{st:Stmt}{N ps:Ls}{k:Nat}{pre:List PV->Prop}{F:List PV->List Int}(d:nF K mg x st ps)(S:FnScope N ps (defScope st))(len:∀as,pre as->as.length=ps.length)
  (hbody:∀(f:Addr) (cdv:Value) (A:Around) (outer:List Env) (s:Shared) (H:Hp) (E:XK),Room k (A.deeper (envOfC x (defScope st) s.heap.objs.size f cdv)) ->
   ∃fs,PSs (cxOf CX0 P w K mg base N x (defScope st) f cdv A outer s H E).nox (defBody st) (ts K G ER0 fs)/\∀as,pre as->fs { nx:=λ_=>False,rt:=λ_=>False,rl:=λns=>ns=F as } (m9 N as)):Ok P w K mg base (k+1) x ps (Ed K G pre F):=by
 refine nF.ok d S (λvs H Q E h=>?_) λf cdv A outer s H vs Q E hr h=>?_
 ·obtain⟨as,O,_,al,hp,_⟩:=h;rw[<- al.length];exact len as hp
 obtain⟨as,O,hd,al,hp,q⟩:=h;obtain⟨fs,b,c⟩:=hbody f cdv A outer s H E hr;refine⟨_,b,⟨H,O⟩,m9 N as,_,⟨O,uQ hd al⟩,c as hp,⟨λ_ _ _ _ h=>h.elim,λ_ _ _ _ _ h=>h.elim,λa H' ns s' n e h=>?_,λ_ _ _ _ _ h=>h.elim,λ_ _ _ _ h=>h,λ_ _ _ _ h=>h,λ_ _ _ h=>h⟩⟩;subst h;exact q a H' s' n e
end
def spM (pre:List Int->Prop)(F:List Int->List Int):Sp:=λvs H Q _=>∃a ns,vs=[.ref a]/\H a=some (.lst (ns.map V.int))/\pre ns/\∀H',(∀b o,b≠a->H b=some o->H' b=some o)->H' a=some (.lst ((F ns).map V.int))->Q .non H'
theorem XR (h:∀b o,b≠a->H b=some o->H' b=some o)(e:H' a=some o):Same (upd H a o) H':=sy λb u z=>by
 by_cases c:b=a
 ·subst c;rw[upd_same]at z;cases z;exact e
 ·rw[upd_ne c]at z;exact h b u c z
section
variable {X:Cx}{G:Gx}{Er:ER}{e b:Expr}{pos px pa pc:Pos}{i j k:Nat}{x y:Str}{C Cb:En->Prop}{g gb:En->Int}
theorem vB (i:Nat)(he:PE X e (lY X.K G C g))(hN:X.N[i]?=some x:=by rfl)(hv:Vis X.env.scope x:=by walk_at "v")
  (hd:(x == ("__debug__":Str))=false:=by decide) (hcd:(x == ("__classdict__":Str))=false:=by decide)
  (hbase:attributeBase (.Name x px) "append" X.env (eval (.Name x px) X.env)=eval (.Name x px) X.env:=by rfl)
  (hfew:((backTo pc (starEach (e::[]) X.env)).all (λx=>!x.1) && (backToKw pc (keywordEach [] X.env)).all (λx=>x.1.isSome)
   && decide ((e::[]).length+([]:List Keyword).length+(if ([]:List Keyword).isEmpty then 0 else 1)<30))=true:=by rfl)
  (hline:(pa.endLine == pc.line)=true:=by rfl) (hs:starEach (e::[]) X.env=(false,eval e X.env)::starEach [] X.env:=by rfl) (hplain:(backTo pc (starEach [] X.env)).any (·.1)=false:=by rfl)
  (hsw:swapsWith (.Call (.Attribute (.Name x px) "append" pa) [e] [] pc) none pos.line X.env=pure false:=by rfl) :
  PS X (.Expr (.Call (.Attribute (.Name x px) "append" pa) [e] [] pc) pos) (ts X.K G Er λP Z=>Ut Z i/\C Z/\(getL Z i).length<sizeLine/\P.nx (Z.set i (.ow (.ints (getL Z i++[g Z]))))):=
 toS (ps_expr (pe_bm dz gC gD mt_append (pe_var hN hv hd hcd) (pa_cons he pa_nil hs) hbase hfew hline hs hplain) hsw) λB σ H Z O P D R c w=>by obtain⟨c0,c1,c2,c3⟩:=c;obtain⟨a,vs,e1,e2,e3,e4,e5⟩:=R.ow i _ c0;subst e5;refine⟨_,e1,.inl ⟨rfl,_,SqL.of e4⟩,B,Z,O,R,c1,λv H1 s1 a1=>?_⟩;subst a1;refine⟨a,_,_,rfl,rfl,s1 _ _ e4,by rw[aa];exact c2,w.nx σ _ _ ⟨O,(R.grow s1).change c0 e1 (p':=.ints (getL Z i++[g Z])) ?_⟩ c3⟩;show _=(getL Z i++[g Z]).map V.int;rw[bF];rfl
theorem WW (i:Nat)(hN:X.N[i]?=some x:=by rfl)(hv:Vis X.env.scope x:=by walk_at "v")
  (hd:(x == ("__debug__":Str))=false:=by decide) (hcd:(x == ("__classdict__":Str))=false:=by decide)
  (hbase:attributeBase (.Name x px) "pop" X.env (eval (.Name x px) X.env)=eval (.Name x px) X.env:=by rfl) (hline:(pa.endLine == pc.line)=true:=by rfl)
  (hsw:swapsWith (.Call (.Attribute (.Name x px) "pop" pa) [] [] pc) none pos.line X.env=pure false:=by rfl) :
  PS X (.Expr (.Call (.Attribute (.Name x px) "pop" pa) [] [] pc) pos) (ts X.K G Er λP Z=>Ut Z i/\getL Z i≠[]/\P.nx (Z.set i (.ow (.ints (getL Z i).dropLast)))):=
 toS (ps_expr (pe_bm0 dz hJ hO mt_pop (pe_var hN hv hd hcd) hbase hline) hsw) λB σ H Z O P D R c w=>by
  obtain⟨c0,c1,c3⟩:=c;obtain⟨a,vs,e1,e2,e3,e4,e5⟩:=R.ow i _ c0;subst e5;have hl:0<(getL Z i).length:=lP c1;refine⟨_,e1,.inl ⟨rfl,_,SqL.of e4⟩,a,_,V.int ((getL Z i)[(getL Z i).length-1]'(by lia)),rfl,rfl,e4,?_,w.nx σ _ _ ⟨O,R.change c0 e1 (p':=.ints (getL Z i).dropLast) ?_⟩ c3⟩
  ·rw[aa,aw,ac (by lia)];rfl
  ·show _=(getL Z i).dropLast.map V.int;rw[List.map_dropLast]
theorem uO (i:Nat)(hk:PE X b (lY X.K G Cb gb))(he:PE X e (lY X.K G C g))(hN:X.N[i]?=some x:=by rfl)(hv:Vis X.env.scope x:=by walk_at "v")
  (hd:(x == ("__debug__":Str))=false:=by decide) (hcd:(x == ("__classdict__":Str))=false:=by decide)
  (ha:∀v,assign (.Subscript (.Name x px) b ps) X.env v=(do
   let ov <- holding [v] (eval (.Name x px) X.env)
   let iv <- holding [v,ov] (eval b X.env)
   standAt ps
   holding [v,ov,iv] (setItem ov iv v)
   release [v,ov,iv] []):=by intro _;rfl)
  (hs:swapsWithSole [.Subscript (.Name x px) b ps] e pos.line X.env=pure false:=by rfl) (hw:swappedStores [.Subscript (.Name x px) b ps] e X.env=pure none:=by rfl)
  (h1:(assignEach [.Subscript (.Name x px) b ps] X.env).map (·.2)=[assign (.Subscript (.Name x px) b ps) X.env]:=by rfl) :
  PS X (.Assign [.Subscript (.Name x px) b ps] e pos) (ts X.K G Er λP Z=>C Z/\Ut Z i/\Cb Z/\(-((getL Z i).length:Int)<=gb Z/\gb Z<((getL Z i).length:Int))/\P.nx (Z.set i (.ow (.ints ((getL Z i).set (lB (getL Z i).length (gb Z)) (g Z)))))):=
 toS (ps_asg he (pg_sub (pe_var hN hv hd hcd) hk set_list ha) hs hw h1) λB σ H Z O P D R c w=>by obtain⟨c1,c0,c2,cb,c3⟩:=c;refine⟨B,Z,O,R,c1,λv H1 s1 a1=>?_⟩;subst a1;have R1:=R.grow s1;obtain⟨a,vs,e1,e2,e3,e4,e5⟩:=R1.ow i _ c0;subst e5;refine⟨_,e1,B,Z,O,R1,c2,λu H2 s2 a2=>?_⟩;subst a2;refine⟨a,_,_,_,rfl,rfl,s2 _ _ e4,by rw[aa];exact JB cb.1 cb.2,w.nx σ _ _ ⟨O,(R1.grow s2).change c0 e1 (p':=.ints _) ?_⟩ c3⟩;show _=((getL Z i).set _ _).map V.int;rw[List.map_set]
theorem Lr (i:Nat)(o:Ok X.prog X.w X.K X.mg X.base j y ps (spM pre F))(hr:Room k X.A)(hj:j<=k:=by decide)(hg:Gl X y:=by rfl)
  (hN:X.N[i]?=some x:=by rfl) (hv:Vis X.env.scope x:=by walk_at "v") (hd:(x == ("__debug__":Str))=false:=by decide) (hcd:(x == ("__classdict__":Str))=false:=by decide)
  (hdb:(y == ("__debug__":Str))=false:=by decide) (he:starEach (.Name x px::[]) X.env=(false,eval (.Name x px) X.env)::starEach [] X.env:=by rfl) (hpl:(backTo pc (starEach [] X.env)).any (·.1)=false:=by rfl)
  (hsw:swapsWith (.Call (.Name y pa) [.Name x px] [] pc) none pos.line X.env=pure false:=by rfl) :
  PS X (.Expr (.Call (.Name y pa) [.Name x px] [] pc) pos) (ts X.K G Er λP Z=>Ut Z i/\pre (getL Z i)/\P.nx (Z.set i (.ow (.ints (F (getL Z i)))))):=
 toS (ps_expr (nO o hr (pa_cons (pe_var hN hv hd hcd) pa_nil he) hj hg hdb he hpl) hsw) λB σ H Z O P D R c w=>by obtain⟨c0,c1,c3⟩:=c;obtain⟨a,vs,e1,e2,e3,e4,e5⟩:=R.ow i _ c0;subst e5;exact⟨_,e1,a,_,rfl,e4,c1,λH' k1 k2=>w.nx σ H' _ ⟨O,(R.change c0 e1 (p':=.ints _) rfl).grow (XR k1 k2)⟩ c3⟩
end
def jC (cap:List (Option Nat))(Z:En):En:=cap.map λo=>match o with
 |some i=>(match Z[i]? with
  |some (.fr p)=>.fr p
  |_=>.un)
 |none=>.un
section
variable {K:Fg}{G:Gx}{B:Bs}{σ:L2.St}{H H1:Hp}{Z:En}{O:Addr->Bool}{D:Addr}{cap:List (Option Nat)}
theorem U8 {j:Nat}{x:Sl}(e:(jC cap Z)[j]?=some x):(∃p,x=.fr p)\/x=.un:=by
 unfold jC at e;rw[aw]at e;cases ec:cap[j]? with
 |none=>rw[ec]at e;cases e
 |some o=>
  rw[ec]at e;cases o with
  |none=>cases e;exact .inr rfl
  |some i=>
   have e:=aB e;dsimp only at e;split at e
   ·exact .inl ⟨_,e.symm⟩
   ·exact .inr e.symm
theorem Cr (R:Rep K G B σ H1 Z O)(hD:H1 D=none)(s:Same H1 H)(hn:H D≠none):Rep K G ⟨H1,O⟩ (pI cap σ) H (jC cap Z) (hide D O):=by
 refine⟨s,R.dom,qM,λa z y=>?_,λa z=>?_,λj p e=>?_,λj p e=>?_,λi j p q a e=>?_,by unfold pI jC;rw[aa,aa],λj xs ys e=>?_,λj p e=>by rcases U8 e with⟨_,z⟩|z<;>cases z⟩
 ·by_cases c:a=D
  ·subst c;exact hn y
  ·rw[hide_ne c]at z;exact R.dom a z (s.free y)
 ·by_cases c:a=D
  ·subst c;exact .inr hD
  ·rw[hide_ne c]at z;exact .inl z
 ·unfold jC at e;rw[aw]at e;cases ec:cap[j]? with
  |none=>rw[ec]at e;cases e
  |some o=>
   rw[ec]at e;cases o with
   |none=>cases e
   |some i=>
    have e:=aB e;dsimp only at e;split at e
    ·rename_i p' er;cases e;obtain⟨v,e1,e2⟩:=R.fr i p er;refine⟨v,?_,At.mono (lX s hD) _ _ e2⟩;unfold pI;rw[aw,ec];show some ((σ[i]?).join)=some (some v);rw[e1];rfl
    ·cases e
 ·exfalso;unfold jC at e;rw[aw]at e;cases ec:cap[j]? with
  |none=>rw[ec]at e;cases e
  |some o=>
   rw[ec]at e;cases o with
   |none=>cases e
   |some i=>have e:=aB e;dsimp only at e;split at e<;>cases e
 ·exfalso;unfold jC at e;rw[aw]at e;cases ec:cap[i]? with
  |none=>rw[ec]at e;cases e
  |some o=>
   rw[ec]at e;cases o with
   |none=>cases e
   |some i=>have e:=aB e;dsimp only at e;split at e<;>cases e
 ·exfalso;unfold jC at e;rw[aw]at e;cases ec:cap[j]? with
  |none=>rw[ec]at e;cases e
  |some o=>
   rw[ec]at e;cases o with
   |none=>cases e
   |some i=>have e:=aB e;dsimp only at e;split at e<;>cases e
theorem mQ:∀σ:L2.St,BJ σ σ
 |[]=>tJ
 |none::r=>mQ r
 |some _::r=>⟨rfl,mQ r⟩
variable {α:Type}{J:It}{g:TG}{C:En->Prop}{gb:En->PV}{Q:VK}
theorem sE (items:List α)(setσ:α->V->L2.St)(setr:α->En)(val:α->V)(R:Rep K G B σ H1 Z O)(hD:H1 D=none)(hlen:items.length<=1000)(hgo:∀i H,i<items.length->Same H1 H->J.go i H)
  (hyld:∀i it x H H',items[i]?=some it->Same H1 H->J.yld i H x H' -> Same H H'/\∀k:L2.St->Hp->Prop,k (setσ it (val it)) H' -> g x (pI cap σ) H' k) (hstop:∀H,Same H1 H->J.stop items.length H)
  (hset:∀it H,it∈items->Same H1 H->Rep K G ⟨H1,O⟩ (pI cap σ) H (jC cap Z) (hide D O)->Rep K G ⟨H1,O⟩ (setσ it (val it)) H (setr it) (hide D O)) (hext:∀it,BJ (pI cap σ) (setσ it (val it))) (hC:∀it∈items,C (setr it))
  (hQ:∀H' ys,Same H1 H' -> H' D=some (.lst ys)->lN K G (mn H' (hide D O)) (items.map λit=>gb (setr it)) ys->Q (.ref D) H') :
  ∃W:Nat->Nat->List V->Hp->Prop,(∃m,W 0 m [] (upd H1 D (.lst [])))/\lcW D J (pI cap σ) g ue (tX K G C gb) Q W:=by
 refine⟨λi m ys H=>m=items.length-i/\i<=items.length/\Same H1 H/\H D=some (.lst ys)/\lN K G (mn H (hide D O)) ((items.take i).map λit=>gb (setr it)) ys,⟨items.length,by simp,be _,same_new hD _,upd_same,rfl⟩,?_⟩;rintro i m ys H ⟨rfl,hi,hs,hd,al⟩;have hl:ys.length=i:=by rw[<- al.length,aa,aJ];lia
 refine⟨hd,small1000 (by lia),?_⟩;by_cases hlt:i<items.length
 ·refine .inr ⟨hgo i H hlt hs,?_⟩;intro x H' hy;have en:items[i]?=some items[i]:=ac hlt;obtain⟨s1,kk⟩:=hyld i _ x H H' en hs hy;refine kk _ ⟨hext _,?_⟩;refine iteT ?_;have hd':=s1 _ _ hd;have R2:=hset items[i] H' (bD hlt) (hs.trans s1) (Cr R hD (hs.trans s1) (by rw[hd'];exact λz=>by cases z));refine⟨_,_,_,R2,hC _ (bD hlt),λv H2 s2 a2=>⟨s2 _ _ hd',items.length-(i+1),by lia,rfl,hlt,?_,upd_same,?_⟩⟩
  ·intro b o z;rw[upd_ne (ne_of_none z hD)];exact((hs.trans s1).trans s2) b o z
  ·rw[Bk hide_self,m7 en,bF];exact lN.snoc (lN.mono (lA (s1.trans s2)) _ _ al) a2
 ·have e:i=items.length:=by lia
  subst e;refine .inl ⟨hstop H hs,hQ H ys hs hd ?_⟩;rw[cr]at al;exact al
theorem Bg:∀{l:List α} {ys:List V},lN K G H (l.map λx=>.int (gi x)) ys->ys=(l.map gi).map V.int
 |[],_,h=>h
 |x::r,_,h=>by obtain⟨v,t,rfl,e,q⟩:=h;rw[e,Bg q];rfl
end
section
variable {K:Fg}{G:Gx}{σ:L2.St}{H:Hp}{Q:VK}{Cs Cb:En->Prop}{gs:En->List Int}{gi:En->Int}{gp:En->PV}{cap:List (Option Nat)}
theorem Z3 (h:yV K G (λZ=>Cs Z/\(gs Z).length<=1000/\∀n∈gs Z,Cb ((jC (none::cap) Z).set 0 (.fr (.int n)))) (λZ=>(gs Z).map λn=>gp ((jC (none::cap) Z).set 0 (.fr (.int n)))) σ H Q) :
  Su (none::cap) (iList K (Km K G Cs gs)) (gName 0) ue (tX K G Cb gp) σ H Q:=by
 obtain⟨B,Z,O,R,⟨c1,c2,c3⟩,q⟩:=h;refine⟨B,Z,O,R,c1,λv H1 s1 a1=>?_⟩;obtain⟨a,rfl,hq⟩:=a1;have hq1:SqL K H1 a ((gs Z).map V.int):=.inl (jw jM hq);refine⟨a,rfl,⟨_,hq1⟩,λD hD=>?_⟩;refine sE (gs Z) (λ_ v=>(pI (none::cap) σ).set 0 (some v)) (λn=>(jC (none::cap) Z).set 0 (.fr (.int n))) V.int (R.grow s1) hD c2 (λi H hi s=>⟨_,.int (gs Z)[i],s.seq hq1,by simp[hi]⟩) ?_ (λH s=>⟨_,s.seq hq1,by simp⟩) (λn H _ s R'=>R'.set (p:=.int n) rfl) ?_ c3 ?_
 ·rintro i n x H H' en s ⟨rfl,hx⟩;obtain⟨n',rfl,hn⟩:=int_at (hx _ (s.seq hq1));rw[hn]at en;cases en;exact⟨Same.refl _,λk hk=>hk⟩
 ·intro n;exact mQ _
 ·intro H' ys s hd al;exact q D ys H' (s1.trans s) (s1.free hD) hd al
theorem aby (h:yV K G (λZ=>Cs Z/\(gs Z).length<=1000/\∀k:Nat,∀n,(gs Z)[k]?=some n->Cb (((jC (none::none::cap) Z).set 0 (.fr (.int k))).set 1 (.fr (.int n)))) (λZ=>(gs Z).mapIdx λk n=>gp (((jC (none::none::cap) Z).set 0 (.fr (.int k))).set 1 (.fr (.int n)))) σ H Q) :
  Su (none::none::cap) (Ql K (tCons (Km K G Cs gs) tNil)) (gTup K 2 (gCons (gName 0) (gCons (gName 1) gNil))) ue (tX K G Cb gp) σ H Q:=by
 obtain⟨B,Z,O,R,⟨c1,c2,c3⟩,q⟩:=h;refine⟨B,Z,O,R,c1,λv H1 s1 a1=>?_⟩;obtain⟨a,rfl,hq⟩:=a1;have hq1:SqL K H1 a ((gs Z).map V.int):=.inl (jw jM hq);refine⟨a,rfl,⟨_,hq1⟩,λD hD=>?_⟩;have hz:((gs Z).zipIdx).length=(gs Z).length:=List.length_zipIdx;refine sE ((gs Z).zipIdx) (λp _=>((pI (none::none::cap) σ).set 0 (some (.int p.2))).set 1 (some (.int p.1))) (λp=>((jC (none::none::cap) Z).set 0 (.fr (.int p.2))).set 1 (.fr (.int p.1))) (λp=>.int p.1) (R.grow s1) hD (by rw[hz];exact c2)
  (λi H hi s=>⟨_,.int ((gs Z)[i]'(by rw[hz]at hi;exact hi)),s.seq hq1,by rw[hz]at hi;simp[hi]⟩) ?_ (λH s=>⟨_,s.seq hq1,by simp⟩) (λp H _ s R'=>(R'.set (p:=.int p.2) rfl).set (p:=.int p.1) rfl) ?_ ?_ ?_
 ·rintro i ⟨n,k⟩ x H H' en s ⟨T,y,rfl,hT,rfl,hx⟩;obtain⟨n',rfl,hn⟩:=int_at (hx _ (s.seq hq1));rw[ij,hn]at en;have en:(n',0+i)=(n,k):=aB en;cases en;refine⟨same_new hT _,λkk hk=>⟨T,_,rfl,SqT.of upd_same,rfl,_,_,rfl,_,_,rfl,rfl,?_⟩⟩;rw[hU]at hk;exact hk
 ·rintro⟨n,k⟩;exact mQ _
 ·rintro⟨n,k⟩ hm;have:=List.mem_zipIdx_iff_getElem?.mp hm;exact c3 k n this
 ·intro H' ys s hd al;refine q D ys H' (s1.trans s) (s1.free hD) hd ?_;have e:((gs Z).mapIdx λk n=>gp (((jC (none::none::cap) Z).set 0 (.fr (.int k))).set 1 (.fr (.int n))))=(gs Z).zipIdx.map λp=>gp (((jC (none::none::cap) Z).set 0 (.fr (.int p.2))).set 1 (.fr (.int p.1))):=by rw[eE]
  dsimp only;rw[e];exact al
theorem aa3 (h:yV K G (λZ=>Cs Z/\(0<=gn Z/\gn Z<=1000)/\∀k:Nat,k<(gn Z).toNat->Cb ((jC (none::cap) Z).set 0 (.fr (.int k)))) (λZ=>(List.range (gn Z).toNat).map λ(k:Nat)=>gp ((jC (none::cap) Z).set 0 (.fr (.int k)))) σ H Q) :
  Su (none::cap) (iRng1 (tCons (lY K G Cs gn) tNil)) (gName 0) ue (tX K G Cb gp) σ H Q:=by
 obtain⟨B,Z,O,R,⟨c1,c2,c3⟩,q⟩:=h;refine⟨B,Z,O,R,c1,λv H1 s1 a1=>?_⟩;subst a1;have hz:(List.range (gn Z).toNat).length=(gn Z).toNat:=aq;refine⟨gn Z,rfl,by lia,by lia,λD hD=>?_⟩;refine sE (List.range (gn Z).toNat) (λ_ v=>(pI (none::cap) σ).set 0 (some v)) (λ(k:Nat)=>(jC (none::cap) Z).set 0 (.fr (.int k))) (λ(k:Nat)=>.int k) (R.grow s1) hD (by rw[hz];lia) (λi H hi s=>by rw[hz]at hi;exact hi) ?_ (λH s=>by rw[hz];exact ao _) (λk H _ s R'=>R'.set (p:=.int k) rfl) ?_ ?_ ?_
 ·rintro i k x H H' en s ⟨rfl,rfl⟩;have hlt:i<(gn Z).toNat:=by have:=(aj.mp en).1;rw[hz]at this;exact this
  rw[cg hlt]at en;cases en;refine⟨Same.refl _,λkk hk=>?_⟩;have e:(0:Int)+(i:Nat)=i:=by lia
  rw[e];exact hk
 ·intro k;exact mQ _
 ·intro k hk;exact c3 k (aY.mp hk)
 ·intro H' ys s hd al;exact q D ys H' (s1.trans s) (s1.free hD) hd al
theorem Gk {C:En->Prop}{α:Type}{src:En->List α}{gi:En->α->Int}(h:CT K G C (λZ=>(src Z).map (gi Z)) σ H Q):yV K G C (λZ=>(src Z).map λx=>.int (gi Z x)) σ H Q:=by obtain⟨B,Z,O,R,c,q⟩:=h;refine⟨B,Z,O,R,c,λa vs H' s n e al=>q a H' s n ?_⟩;rw[e,Bg al]
theorem Wt {C:En->Prop}{src:En->List Int}{gi:En->Nat->Int->Int}(h:CT K G C (λZ=>(src Z).mapIdx (gi Z)) σ H Q):yV K G C (λZ=>(src Z).mapIdx λk x=>.int (gi Z k x)) σ H Q:=by obtain⟨B,Z,O,R,c,q⟩:=h;refine⟨B,Z,O,R,c,λa vs H' s n e al=>q a H' s n ?_⟩;dsimp only at al ⊢;rw[eE]at al;rw[e,Bg (gi:=λp:Int×Nat=>gi Z p.2 p.1) al,eE]
end
section
variable {X:Cx}{G:Gx}{Er:ER}{N':List Str}{sc:Scope}{cl:List (Str×Addr)}{cap:List (Option Nat)}{el tg src:Expr}{at' spos px:Pos}{Cs Cb:En->Prop}{gs:En->List Int}{gn gi:En->Int}{gp:En->PV}{i:Nat}{x:Str}
theorem Ff (L:vG X N' sc cl (none::cap))(hc:X.calm=true)(hi:PE X src (Km X.K G Cs gs))(hg:∀s H fp,PG (jB X N' sc cl s H fp) tg (gName 0))(he:∀s H fp,PE (jB X N' sc cl s H fp) el (lY X.K G Cb gi))(hs:∀x,foldedSetIterable src X.env x=pure x:=by intro _;rfl) :
  PE X (.ListComp el [⟨tg,src,[],0⟩] sc at') (CT X.K G (λZ=>Cs Z/\(gs Z).length<=1000/\∀n∈gs Z,Cb ((jC (none::cap) Z).set 0 (.fr (.int n)))) λZ=>(gs Z).map λn=>gi ((jC (none::cap) Z).set 0 (.fr (.int n)))):=
 λpins s σ H Q I h=>yo L hc (pi_list hi) hg (λ_ _ _=>qg) he hs pins s σ H Q I (Z3 (Gk h))
theorem Ti (L:vG X N' sc cl (none::none::cap))(hc:X.calm=true)(hgl:Gl X "enumerate")(hm:X.mg "enumerate"=none)(hi:PE X src (Km X.K G Cs gs))
  (hg:∀s H fp,PG (jB X N' sc cl s H fp) (.Tuple els kk tp) (gTup X.K 2 (gCons (gName 0) (gCons (gName 1) gNil)))) (he:∀s H fp,PE (jB X N' sc cl s H fp) el (lY X.K G Cb gi)) (hst:starEach [src] X.env=[(false,eval src X.env)]:=by rfl)
  (hs:∀x,foldedSetIterable (.Call (.Name "enumerate" p) [src] [] pos') X.env x=pure x:=by intro _;rfl) :
  PE X (.ListComp el [⟨.Tuple els kk tp,.Call (.Name "enumerate" p) [src] [] pos',[],0⟩] sc at') (CT X.K G (λZ=>Cs Z/\(gs Z).length<=1000/\∀k:Nat,∀n,(gs Z)[k]?=some n->Cb (((jC (none::none::cap) Z).set 0 (.fr (.int k))).set 1 (.fr (.int n))))
   λZ=>(gs Z).mapIdx λk n=>gi (((jC (none::none::cap) Z).set 0 (.fr (.int k))).set 1 (.fr (.int n)))):=
 λpins s σ H Q I h=>yo L hc (yX hgl hm (pa_cons hi pa_nil hst) hst) hg (λ_ _ _=>qg) he hs pins s σ H Q I (aby (Wt h))
theorem YK {t:TE}{st:Stmt}{C:En->Prop}{g:En->List Int}(h:PS X st (tAsg t (gName i)))(k:∀σ H Q,CT X.K G C g σ H Q->t σ H Q):PS X st (ts X.K G Er λP Z=>C Z/\∀ns,ns=g Z->P.nx (Z.set i (.ow (.ints ns)))):=
 toS h λB σ H Z O P D R c w=>k σ H _ ⟨B,Z,O,R,c.1,λa H1 s1 n1 e1=>w.nx _ H1 _ ⟨hide a O,R.new (p:=.ints (g Z)) s1 n1 e1 rfl⟩ (c.2 _ rfl)⟩
theorem Mh (hN:X.N.Nodup)(hi':X.N[i]?=some x)(hx:X.env.scope.names.lookup x=some .local)(L:vG X N' sc cl (none::cap))(hc:X.calm=true)(hi:PE X src (Km X.K G Cs gs))(hg:∀s H fp,PG (jB X N' sc cl s H fp) tg (gName 0))(he:∀s H fp,PE (jB X N' sc cl s H fp) el (lY X.K G Cb gi))
  (hsw:swapsWith (.ListComp el [⟨tg,src,[],0⟩] sc at') (some (.Name x px)) spos.line X.env=pure true) (hs:∀x,foldedSetIterable src X.env x=pure x:=by intro _;rfl) :
  PS X (.Assign [.Name x px] (.ListComp el [⟨tg,src,[],0⟩] sc at') spos) (ts X.K G Er λP Z=>(Cs Z/\(gs Z).length<=1000/\∀n∈gs Z,Cb ((jC (none::cap) Z).set 0 (.fr (.int n))))/\∀ns,ns=((gs Z).map λn=>gi ((jC (none::cap) Z).set 0 (.fr (.int n))))->P.nx (Z.set i (.ow (.ints ns)))):=
 YK (Rz hN hi' hx L hc (pi_list hi) hg (λ_ _ _=>qg) he hsw hs) λσ H Q h=>Z3 (Gk h)
end
theorem jz {k:En->Prop}(h:Z=Z')(q:k Z'):k Z:=by rw[h];exact q
def tyP:PV->Option Value
 | .int _=>some (.type "int")
 | .bl _=>some (.type "bool")
 | .non=>some (.type "NoneType")
 | .str _=>some (.type "str")
 | .ints _=>some (.type "list")
 | .lst _=>some (.type "list")
 | .tup _=>some (.type "tuple")
 |_=>none
def Vl:PV->Option Value
 | .ty n=>some (.type n)
 | .cls a=>some (.ref a)
 |_=>none
theorem At.ty {K:Fg}{G:Gx}{H:Hp}{p:PV}{v:V}{t:Value}(h:At K G H p v)(e:tyP p=some t):TyOf K H v t:=by
 cases p<;>first|cases e|skip
 ·cases (show v=_ from h);exact .int _
 ·cases (show v=_ from h);exact .bl _
 ·cases (show v=_ from h);exact .non
 ·cases (show v=_ from h);exact .str _
 ·obtain⟨a,rfl,r|⟨o,r⟩⟩:=h
  ·exact .lst r
  ·exact .frz r
 ·obtain⟨a,vs,rfl,r|⟨o,r⟩,_⟩:=h
  ·exact .lst r
  ·exact .frz r
 ·obtain⟨a,vs,rfl,r,_⟩:=h;exact .tup r
theorem At.cls {K:Fg}{G:Gx}{H:Hp}{p:PV}{v:V}{t:Value}(h:At K G H p v)(e:Vl p=some t):YM v=some t:=by
 cases p<;>first|cases e|skip
 ·cases (show v=_ from h);rfl
 ·cases (show v=_ from h);rfl
def oO (K:Fg)(p c:PV):Bool:=match tyP p,Vl c with
 |some t,some cv=>W.kitOne K t cv == some true
 |_,_=>false
def YD (K:Fg)(p c:PV):Prop:=∃t cv b,tyP p=some t/\Vl c=some cv/\W.kitOne K t cv=some b
theorem oR {K:Fg}{p c:PV}{t cv:Value}{b:Bool}(h1:tyP p=some t)(h2:Vl c=some cv)(h:W.kitOne K t cv=some b):oO K p c=b:=by unfold oO;rw[h1,h2];show(W.kitOne K t cv == some true)=b;rw[h];cases b<;>rfl
theorem TyOf.up {K:Fg}{H H':Hp}{v:V}{t:Value}(s:Same H H')(h:TyOf K H v t):TyOf K H' v t:=by
 cases h with
 |non=>exact .non
 |bl x=>exact .bl x
 |int x=>exact .int x
 |str x=>exact .str x
 |flt x=>exact .flt x
 |lst e=>exact .lst (s _ _ e)
 |frz e=>exact .frz (s _ _ e)
 |tup e=>exact .tup (s _ _ e)
 |dK e=>exact .dK (s _ _ e)
 |dT e=>exact .dT (s _ _ e)
 |ins e a b c d f=>exact .ins (s _ _ e) a b c d f
section
variable {X:Cx}{G:Gx}{a b c e:Expr}{es:List Expr}{pos p px apos:Pos}{C Ca Cb Cc:En->Prop}{ga gc:En->PV}{gi gj:En->Int}{i j k n:Nat}{x m:Str}
theorem oA (hm:X.mg "isinstance"=none)(ha:PE X a (tX X.K G Ca ga))(hc:PE X c (tX X.K G Cc gc))(hg:Gl X "isinstance":=by rfl)(he:starEach [a,c] X.env=(false,eval a X.env)::starEach [c] X.env:=by rfl)(he2:starEach [c] X.env=[(false,eval c X.env)]:=by rfl)(hpl:(backTo pos (starEach [c] X.env)).any (·.1)=false:=by rfl) :
  PE X (.Call (.Name "isinstance" p) [a,c] [] pos) (Qd X.K G (λZ=>Ca Z/\Cc Z/\YD X.K (ga Z) (gc Z)) λZ=>oO X.K (ga Z) (gc Z)=true):=
 tL (pe_callB Hr hg hm BW (pa_cons ha (pa_cons hc pa_nil he2) he) (by decide) (by decide) he hpl) λB σ H Z O Q R cc q=>⟨B,Z,O,R,cc.1,λv H1 s1 a1=>⟨B,Z,O,R.grow s1,cc.2.1,λu H2 s2 a2=>by
  obtain⟨t,cv,b,e1,e2,e3⟩:=cc.2.2;refine⟨v,u,t,cv,b,rfl,a2.cls e2,TyOf.up (jM.trans s2) (a1.ty e1),e3,q _ H2 (s1.trans s2) ?_⟩;have z:oO X.K (ga Z) (gc Z)=b:=oR e1 e2 e3;show V.bl b=V.bl (decide (oO X.K (ga Z) (gc Z)=true));rw[z,du]⟩⟩
abbrev By (K:Fg)(G:Gx)(pre:List PV->Prop)(F:List PV->Int):Sp:=zc K G pre λas=>.int (F as)
abbrev Py (K:Fg)(G:Gx)(pre:List PV->Prop)(F:List PV->Bool):Sp:=zc K G pre λas=>.bl (F as)
abbrev Vo (K:Fg)(G:Gx)(pre:List PV->Prop)(F:List PV->List Int):Sp:=zc K G pre λas=>.ints (F as)
variable {ps:List Str}{pre:List PV->Prop}{gs:En->List PV}
theorem Zy (o:Ok X.prog X.w X.K X.mg X.base j x ps (Vo X.K G pre F))(hr:Room k X.A)(ha:PA X (e::es) (KN X.K G C gs))(hj:j<=k:=by decide)(hg:Gl X x:=by rfl)(hdb:(x == ("__debug__":Str))=false:=by decide)
  (he:starEach (e::es) X.env=(false,eval e X.env)::starEach es X.env:=by rfl) (hpl:(backTo pos (starEach es X.env)).any (·.1)=false:=by rfl) :
  PE X (.Call (.Name x p) (e::es) [] pos) (Km X.K G (λZ=>C Z/\pre (gs Z)) λZ=>F (gs Z)):=xc o hr ha hj hg hdb he hpl
theorem xci (o:Ok X.prog X.w X.K X.mg X.base j x ps (By X.K G pre F))(hr:Room k X.A)(ha:PA X (e::es) (KN X.K G C gs))(hj:j<=k:=by decide)(hg:Gl X x:=by rfl)(hdb:(x == ("__debug__":Str))=false:=by decide)
  (he:starEach (e::es) X.env=(false,eval e X.env)::starEach es X.env:=by rfl) (hpl:(backTo pos (starEach es X.env)).any (·.1)=false:=by rfl) :
  PE X (.Call (.Name x p) (e::es) [] pos) (lY X.K G (λZ=>C Z/\pre (gs Z)) λZ=>F (gs Z)):=xc o hr ha hj hg hdb he hpl
theorem xcb (o:Ok X.prog X.w X.K X.mg X.base j x ps (Py X.K G pre F))(hr:Room k X.A)(ha:PA X (e::es) (KN X.K G C gs))(hj:j<=k:=by decide)(hg:Gl X x:=by rfl)(hdb:(x == ("__debug__":Str))=false:=by decide)
  (he:starEach (e::es) X.env=(false,eval e X.env)::starEach es X.env:=by rfl) (hpl:(backTo pos (starEach es X.env)).any (·.1)=false:=by rfl) :
  PE X (.Call (.Name x p) (e::es) [] pos) (Qd X.K G (λZ=>C Z/\pre (gs Z)) λZ=>F (gs Z)=true):=
 tL (xc o hr ha hj hg hdb he hpl) λB σ H Z O Q R c q=>⟨B,Z,O,R,c,λv H' s a=>q v H' s (by dsimp only;rw[du];exact a)⟩
def JR (Z:En)(i:Nat):Int:=match Z[i]? with
 |some (.fr (.ob 0 z))=>z
 |_=>0
def isK (Z:En)(i:Nat):Prop:=Z[i]?=some (.fr (.ob 0 (JR Z i)))
theorem qH {KA:Hp->Addr->Int->Prop}{preK:Int->List Int->Prop}{F:Int->List Int->Int}{pl:Sem Bool}(i:Nat)(M:KM X.prog X.w X.K X.mg X.base j KA m n preK F)(hr:Room k X.A)(ha:PA X (e::es) (KN X.K G C gs))(hn:∀Z,(gs Z).length=n:=by intro _;rfl)(hG:∀H a z,G.ob 0 H a z->KA H a z:=by first|exact λ_ _ _ h=>h.2|exact λ_ _ _ h=>h.elim (λz=>z.2) λz=>absurd z.1 (by decide))(hGm:∀{H H':Hp} {a:Addr} {z:Int},KA H a z->Same H H' -> KA H' a z:=by first|exact λh s=>KAt.same h s|exact λh s=>h.same s)(hj:j<=k:=by decide)
  (hN:X.N[i]?=some x:=by rfl) (hv:Vis X.env.scope x:=by walk_at "v") (hd:(x == ("__debug__":Str))=false:=by decide) (hcd:(x == ("__classdict__":Str))=false:=by decide)
  (hst:starEach (e::es) X.env=(false,eval e X.env)::starEach es X.env:=by rfl) (hpl:(backTo pos (starEach es X.env)).any (·.1)=false:=by rfl)
  (ht:eval (.Call (.Attribute (.Name x px) m apos) (e::es) [] pos) X.env=(do
   let ov <- eval (.Name x px) X.env
   standAt apos.atName
   let (f,first) <- holding [ov] (getMethod ov m pl)
   callWith pos f first (backTo pos (starEach (e::es) X.env)) (backToKw pos (keywordEach [] X.env))):=by rfl) :
  PE X (.Call (.Attribute (.Name x px) m apos) (e::es) [] pos) (lY X.K G (λZ=>isK Z i/\C Z/\Kr (gs Z)/\preK (JR Z i) (uD (gs Z))) λZ=>F (JR Z i) (uD (gs Z))):=by
 intro pins s σ H Q I h;obtain⟨B,Z,O,R,⟨c0,c1,c2,c3⟩,q⟩:=h;obtain⟨v,e1,a,rfl,ka⟩:=R.fr i _ c0;have ka1:KA H a (JR Z i):=hGm (hG _ _ _ ka) jM;obtain⟨Cl,dx,fs,ps,f1,f2,M'⟩:=M.ex H a _ ka1;obtain⟨f,fd,FF,bb,mm,cc⟩:=M'.ex;refine pe_meth (pe_var hN hv hd hcd) cc mm (FF.mono hj) hr bb .nil pass0 ha hst hpl ht pins s σ H Q I ⟨_,e1,a,dx,fs,rfl,f1,f2,B,Z,O,R,c1,λvs H1 s1 a1=>?_⟩;have ev:=a1.ints c2;have el:(uD (gs Z)).length=n:=by rw[<- hn Z,a1.length,ev,aa]
 exact⟨uD (gs Z),el,by rw[a8,ev],hGm ka1 s1,c3,q _ H1 s1 rfl⟩
end
theorem G3:∀{as:List PV},Kr as->(uD as).length=as.length
 |[],_=>rfl
 |p::r,h=>by
  cases p<;>first|exact h.elim|skip
  show(uD r).length+1=r.length+1;rw[G3 (as:=r) h]
section
variable {P:Program}{w:World}{K:Fg}{mg:Mg}{base:Heap}{G:Gx}{k n:Nat}{x:Str}{ps:List Str}
def Z1:List PV->List Int
 | .scr ns::_=>ns
 |_=>[]
def aao (n:Nat)(pre:List Int->List Int->Prop):List PV->Prop
 | .scr ns::r=>Kr r/\r.length=n/\pre ns (uD r)
 |_=>False
theorem aaA (o:Ok P w K mg base k x ps (spS K n pre F)):Ok P w K mg base k x ps (By K G (aao n pre) λas=>F (Z1 as) (uD as.tail)):=
 o.imp λvs H Q E ⟨as,O,_,al,hp,q⟩=>by
  match as,hp,al,q with
  | .scr ns::r,⟨h1,h2,h3⟩,al,q=>obtain⟨v,t,rfl,⟨a,rfl,hs⟩,al2⟩:=al;exact⟨a,ns,uD r,by rw[G3 h1,h2],by rw[al2.ints h1],jM.seq hs,h3,q _ H (Same.refl H) rfl⟩
end
section
variable {X:Cx}{G:Gx}{Er:ER}{b e:Expr}{px ps pos:Pos}{C Cb:En->Prop}{g gb:En->Int}
theorem Q0:PGet X (rIxL X.K):=by
 intro pins s σ H x y v u Q I rx ry h;obtain⟨p,xs,i,z,rfl,rfl,hq,he,q⟩:=h;cases rx;obtain⟨t,rfl⟩:=ry;obtain⟨its,r,pl,hz⟩:=I.list hq;obtain⟨j,h1,h2,h3,h4,h5⟩:=atI_get he;obtain⟨w,ew,rw'⟩:=r.get h2;have hl:=r.length;have hn:=line63;have fin:EP X pins σ Q w s:=⟨z,H,I,rw',q⟩;by_cases h0:0<=i
 ·have hj:i.toNat=j:=by rw[iE h0 h5]at h1;exact aB h1
  exact wpAny_getItem_list pl.isList h0 (by lia) (by rw[hj];simpa using ew) fin
 ·have hj:(i+(its.toArray.size:Int)).toNat=j:=by rw[g5 (by lia) h4]at h1;rw[ay,<- hl];exact aB h1
  exact wpAny_getItem_list_neg pl.isList (by lia) (by rw[ay]<;>lia) (by lia) (by rw[hj];simpa using ew) fin
theorem Cu (i:Nat){op:Operator}{Pr:Int->Int->Prop}{h:Int->Int->Int}(hk:PE X b (lY X.K G Cb gb))(he:PE X e (lY X.K G C g))(ho:OpR X (inplaceOp op) (rI Pr λi j=>.int (h i j)))(hN:X.N[i]?=some x:=by rfl)(hv:Vis X.env.scope x:=by walk_at "v")
  (hd:(x == ("__debug__":Str))=false:=by decide) (hcd:(x == ("__classdict__":Str))=false:=by decide)
  (ha:∀ov iv new,augStore b ov iv new=(do holding [new,ov,iv] (setItem ov iv new);release [new,ov,iv] [];pure .next):=by intros;rfl) :
  PS X (.AugAssign (.Subscript (.Name x px) b ps) op e pos) (ts X.K G Er λP Z=>Ut Z i/\Cb Z/\(-((getL Z i).length:Int)<=gb Z/\gb Z<((getL Z i).length:Int))/\C Z/\Pr ((getL Z i).getD (lB (getL Z i).length (gb Z)) 0) (g Z) /\
   P.nx (Z.set i (.ow (.ints ((getL Z i).set (lB (getL Z i).length (gb Z)) (h ((getL Z i).getD (lB (getL Z i).length (gb Z)) 0) (g Z))))))):=
 toS (ps_augS (pe_var hN hv hd hcd) hk Q0 he ho set_list ha) λB σ H Z O P D R c w=>by obtain⟨c0,c1,cb,c2,cp,c3⟩:=c;obtain⟨a,vs,e1,e2,e3,e4,e5⟩:=R.ow i _ c0;subst e5;refine⟨_,e1,B,Z,O,R,c1,λu H1 s1 a1=>?_⟩;subst a1;refine⟨a,_,_,_,rfl,rfl,SqL.of (s1 _ _ e4),getD_at cb.1 cb.2,B,Z,O,R.grow s1,c2,λv H2 s2 a2=>?_⟩;subst a2;refine⟨_,_,rfl,rfl,cp,a,_,_,_,rfl,rfl,s2 _ _ (s1 _ _ e4),by rw[aa];exact JB cb.1 cb.2,w.nx σ _ _ ⟨O,((R.grow s1).grow s2).change c0 e1 (p':=.ints _) ?_⟩ c3⟩;show _=((getL Z i).set _ _).map V.int;rw[List.map_set];rfl
end
end L3
namespace L3
open PySem PyProof.Rows L2 FM
theorem zZ (xs:Li)(lo hi:Option Int):(qI xs lo hi).length<=xs.length:=by unfold qI;rw[aJ,bp];lia
theorem uL (xs:Li)(a:Nat):qI xs (some (a:Int)) none=xs.drop a:=by
 unfold qI;rw[HT.sIx_nat,HT.sIx_none];by_cases h:a<=xs.length
 ·rw[dP h,cL (by rw[bp];lia)]
 ·rw[fE (by lia),dE (ao _),dE (by lia),List.take_nil]
theorem Lx (xs:Li)(b:Nat):qI xs none (some (b:Int))=xs.take b:=by
 unfold qI;rw[HT.sIx_nat,HT.sIx_none,iA,f9];by_cases h:b<=xs.length
 ·rw[dP h]
 ·rw[fE (by lia),cL (ao _),cL (by lia)]
theorem zJ {z a:Int}{B:Nat}(hz:0<=z)(hz2:z<(B:Int))(ha:a.natAbs<B):(pl z a).natAbs<B:=by
 by_cases h:z=0
 ·subst h;exact ha
 ·have:=zF (z:=z) (n:=a) (by lia);lia
theorem Wh (h:a*b+c<9000):2^c*(2^a)^b<2^9000:=by rw[<- Nat.pow_mul,<- i9];exact bj (by decide) (by lia)
theorem Qn {x:Int}{xs:Li}(hx:x.natAbs<=2^100)(hl:xs.length<=80)(hm:∀n∈xs,n.natAbs<=2^200):(ev xs x).natAbs<2^9000:=by refine aQ (Th hx (dw (by decide)) xs hm) ?_;refine aQ (gw (gw (aH hl (show 80<=2^7 by decide)) (ao _)) (cJ (dw (by decide)) hl)) ?_;rw[<- i9];exact Wh (by decide)
theorem Oo {α:Type}{xs:List α}{i:Nat}{n:α}(h:i<xs.length)(e:xs[xs.length-1-i]?=some n):xs.drop (xs.length-(i+1))=n::xs.drop (xs.length-i):=by
 have l:xs.length-(i+1)<xs.length:=by lia
 have e1:xs.length-1-i=xs.length-(i+1):=by lia
 have e2:xs.length-(i+1)+1=xs.length-i:=by lia
 rw[e1,ac l]at e;rw[eG l,e2,aB e]
end L3
namespace L2
open PySem PySem.Spec PyProof.Rows
def qL {α:Type}(xs:List α)(lo hi st:Option Int):List α:=(sliceRange (sliceBounds lo hi st xs.length).1 (sliceBounds lo hi st xs.length).2.1 (sliceBounds lo hi st xs.length).2.2).filterMap λk=>xs[k]?
theorem xO (r:Vals xs its):∀l:List Nat,Vals (l.filterMap λk=>xs[k]?) (l.filterMap λk=>its[k]?)
 |[]=>.nil
 |k::l=>by
  rw[bB,bB];cases e:xs[k]? with
  |none=>rw[r.none_of e];exact xO r l
  |some x=>obtain⟨u,e',ru⟩:=r.get e;rw[e'];exact .cons ru (xO r l)
theorem QV (xs:List α)(lo hi st:Option Int):(qL xs lo hi st).length<=xs.length:=by
 unfold qL;have h:=slicePick_size_le (xs.map λ_=>Value.none).toArray lo hi st;unfold slicePick at h;rw[ay,ay,aa]at h;refine aH (iX ?_) h;generalize sliceRange _ _ _=l
 induction l with
 |nil=>rfl
 |cons k l ih=>
  rw[bB,bB,hV,aw];cases xs[k]? with
  |none=>exact ih
  |some x=>simp only[dJ,aR,ih]
theorem Tu (f:α->β)(xs:List α)(lo hi st:Option Int):qL (xs.map f) lo hi st=(qL xs lo hi st).map f:=by
 unfold qL;rw[aa];generalize sliceRange _ _ _=l
 induction l with
 |nil=>rfl
 |cons k l ih=>
  rw[bB,bB,aw];cases xs[k]? with
  |none=>exact ih
  |some x=>simp only[dJ,bK,ih]
section
variable {X:Cx}{e st:Expr}{te:TE}{lo hi:Option Expr}{tl th tt:TO}{pos p2:Pos}
def abh (K:Fg)(te:TE)(tl th tt:TO):TE:=λσ H Q=>te σ H λx H1=>tl σ H1 λl H2=>th σ H2 λu H3=>tt σ H3 λk H4=>∃a xs,x=.ref a/\SqL K H4 a xs/\k≠some 0/\∀p,H4 p=none->Q (.ref p) (upd H4 p (.lst (qL xs l u k)))
theorem Og (he:PE X e te)(hl:PO X lo tl)(hu:PO X hi th)(ht:PO X (some st) tt):PE X (.Subscript e (.Slice lo hi (some st) p2) pos) (abh X.K te tl th tt):=by
 intro pins s σ H Q I h;refine Subscript_ (thn (he pins s σ H _ I h) λv s1 ⟨x,H1,I1,r1,q1⟩=>?_);refine wpAny_Slice (thn (hl pins s1 σ H1 _ I1 q1) λvl s2 ⟨l,H2,I2,pl,q2⟩=>thn (hu pins s2 σ H2 _ I2 q2) λvu s3 ⟨u,H3,I3,pu,q3⟩=>thn (ht pins s3 σ H3 _ I3 q3) λvs s4 ⟨k,H4,I4,pk,q4⟩=>?_);obtain⟨a,xs,rfl,hx,h0,q⟩:=q4;cases r1;have I5:Inv X pins σ H4 { s4 with heap:=s4.heap.push { cls:=.type "slice",data:=.fields #[vl,vu,vs] } }:=I4.kept (t':=s4.toks) λb ob q=>az _ q;obtain⟨its,r,ht',hz⟩:=I5.list hx;have hlen:=r.length;refine tail_any (ops:=[.ref a,.ref s4.heap.objs.size]) ht'.isList.typeIs slot_list_getitem.lookup ?_ (by with_unfolding_all rfl);refine wpAny_getItem_list_slice ht'.isList (Heap.IsSliceOf.new ..) pl pu pk h0 ?_ (by rw[ay]<;>lia);have ep:slicePick its.toArray l u k=(qL its l u k).toArray:=by unfold slicePick qL;rw[ay];congr 1;congr 1;funext j;exact hV
 rw[ep];refine⟨.ref _,_,I5.laid (t':=s4.toks) (o:=.lst (qL xs l u k)) (λb ob q=>az _ q) (ao _) ?_,rfl,q _ (I5.hok.fresh (ao _))⟩;refine⟨aH (QV xs l u k) hz,_,0,?_,bc _ rfl⟩;unfold qL;rw[<- hlen];exact xO r _
end
end L2
namespace L3
open PySem PySem.Spec PyProof.Rows L2
section
variable {X:Cx}{G:Gx}{a:Expr}{pos p2:Pos}{C:En->Prop}
theorem Pq {st:Expr}{lo hi:Option Expr}{g:En->PV}{ns:En->List Int}{Cl Ch Cs:En->Prop}{gl gh gk:En->Option Int}(ha:PE X a (tX X.K G C g))(hl:PO X lo (VL X.K G Cl gl))(hh:PO X hi (VL X.K G Ch gh))(hs:PO X (some st) (VL X.K G Cs gk))(hn:∀Z,C Z->g Z=.ints (ns Z)\/g Z=.scr (ns Z)) :
  PE X (.Subscript a (.Slice lo hi (some st) p2) pos) (CT X.K G (λZ=>C Z/\Cl Z/\Ch Z/\Cs Z/\gk Z≠some 0) λZ=>qL (ns Z) (gl Z) (gh Z) (gk Z)):=
 Hk (Og ha hl hh hs) λB σ H Z O Q R c q=>⟨B,Z,O,R,c.1,λv H1 s1 a1=>⟨B,Z,O,R.grow s1,c.2.1,λH2 s2=>⟨B,Z,O,(R.grow s1).grow s2,c.2.2.1,λH3 s3=>⟨B,Z,O,((R.grow s1).grow s2).grow s3,c.2.2.2.1,λH4 s4=>by
  have key:∃p,v=.ref p/\SqL X.K H1 p ((ns Z).map V.int):=by
   rcases hn Z c.1 with z|z
   ·rw[z]at a1;obtain⟨p,e,r⟩:=a1;exact⟨p,e,.inl (jw jM r)⟩
   ·rw[z]at a1;obtain⟨p,e,r⟩:=a1;exact⟨p,e,jM.seq r⟩
  obtain⟨p,rfl,r⟩:=key;refine⟨p,_,rfl,((s2.trans s3).trans s4).seq r,c.2.2.2.2,λl hl=>q l _ ((((s1.trans s2).trans s3).trans s4).trans (same_new hl _)) ((((s1.trans s2).trans s3).trans s4).free hl) ?_⟩;rw[upd_same,Tu]⟩⟩⟩⟩
end
end L3
namespace FM
open L2
theorem jj {xs:Li}{n:Nat}(h:xs.length<=n):xs.getD n 0=0:=by rw[gQ,bG h];rfl
theorem jx {xs:Li}{n:Nat}(h:n<xs.length):xs.getD n 0=xs[n]:=by rw[gQ,ac h];rfl
theorem getD_at' {xs:Li}{n:Nat}{x:Int}(h:xs[n]?=some x):xs.getD n 0=x:=by rw[gQ,h];rfl
theorem getD_mem {xs:Li}{n:Nat}(h:n<xs.length):xs.getD n 0∈xs:=by rw[jx h];exact bD h
theorem mV (f:Int->Int)(h0:f 0=0)(xs:Li)(n:Nat):(xs.map f).getD n 0=f (xs.getD n 0):=by
 by_cases h:n<xs.length
 ·rw[jx (by rw[aa];exact h),bv,jx h]
 ·rw[jj (by rw[aa];lia),jj (by lia),h0]
theorem lH (z:Int):pl z 0=0:=by
 unfold pl;split
 ·rfl
 ·exact Int.zero_emod z
theorem wF (xs:Li)(x:Int)(n:Nat):(xs++[x]).getD n 0=if n=xs.length then x else xs.getD n 0:=by
 by_cases h:n<xs.length
 ·rw[jx (by rw[ai];lia),gE h,ae (by lia),jx h]
 ·by_cases h2:n=xs.length
  ·subst h2;rw[af rfl,jx (by rw[ai,bw];lia),gA (ao _)];simp
  ·rw[ae h2,jj (by rw[ai,bw];lia),jj (by lia)]
theorem Ld (xs:Li):xs=[]\/∃ys x,xs=ys++[x]:=by
 by_cases h:xs=[]
 ·exact .inl h
 ·exact .inr ⟨_,_,(dG h).symm⟩
theorem CW:∀(k:Nat) (xs:Li),xs.length=k->∀n,(jY xs).getD n 0=xs.getD n 0
 |0,xs,h,n=>by have:xs=[]:=dA.mp h;subst this;rfl
 |k+1,xs,h,n=>by
  rcases Ld xs with rfl|⟨ys,x,rfl⟩
  ·rfl
  ·by_cases hx:x=0
   ·subst hx;have hl:ys.length=k:=by rw[ai,bw]at h;lia
    rw[vM,CW k ys hl n,wF];by_cases h2:n=ys.length
    ·rw[af h2,jj (by lia)]
    ·rw[ae h2]
   ·rw[Bv _ hx]
theorem wu (xs:Li)(n:Nat):(jY xs).getD n 0=xs.getD n 0:=CW _ xs rfl n
def j6 (xs:List Int):Prop:=xs≠[]->xs.getD (xs.length-1) 0≠0
theorem zQ:∀(k:Nat) (xs:Li),xs.length=k->j6 (jY xs)
 |0,xs,h=>by have:xs=[]:=dA.mp h;subst this;intro h;exact absurd rfl h
 |k+1,xs,h=>by
  rcases Ld xs with rfl|⟨ys,x,rfl⟩
  ·intro h;exact absurd rfl h
  ·by_cases hx:x=0
   ·subst hx;rw[vM];exact zQ k ys (by rw[ai,bw]at h;lia)
   ·rw[Bv _ hx];intro _;rw[wF,af (by rw[ai,bw];lia)];exact hx
theorem rT (xs:Li):j6 (jY xs):=zQ _ xs rfl
theorem nH {a b:Li}(ha:j6 a)(hb:j6 b)(h:∀n,a.getD n 0=b.getD n 0):a=b:=by
 have le:∀{a b:List Int},j6 a->(∀n,a.getD n 0=b.getD n 0)->a.length<=b.length:=λ{a b} ha h=>by
  by_cases c:a.length<=b.length
  ·exact c
  ·have hne:a≠[]:=λz=>by subst z;exact c (be _)
   exact absurd (by rw[h,jj (by lia)]) (ha hne)
 have hl:a.length=b.length:=Nat.le_antisymm (le ha h) (le hb λn=>(h n).symm);refine cu hl λi h1 h2=>?_;have:=h i;rw[jx h1,jx h2]at this;exact this
theorem Ih (h:∀n,a.getD n 0=b.getD n 0):jY a=jY b:=
 nH (rT a) (rT b) λn=>by rw[wu,wu,h]
theorem Gh {z:Int}{a b:Li}(h:∀n,pl z (a.getD n 0)=pl z (b.getD n 0)):jY (a.map (pl z))=jY (b.map (pl z)):=
 Ih λn=>by rw[mV _ (lH z),mV _ (lH z),h]
def Tz (z:Int)(f:List Int):List Int:=jY (f.map (pl z))
theorem j9 (z:Int)(f:Li)(n:Nat):(Tz z f).getD n 0=pl z (f.getD n 0):=by unfold Tz;rw[wu,mV _ (lH z)]
theorem mW (z:Int)(f:Li):(Tz z f).length<=f.length:=by unfold Tz;refine aH (Ds _) ?_;rw[aa];exact ao _
theorem mem_getD {xs:Li}{m:Int}(h:m∈xs):∃n,n<xs.length/\xs.getD n 0=m:=by obtain⟨n,h1,h2⟩:=iI h;exact⟨n,h1,by rw[jx h1,h2]⟩
theorem Yr {z:Int}{f:Li}{m:Int}(h:m∈Tz z f):∃k∈f,m=pl z k:=by obtain⟨n,h1,h2⟩:=mem_getD h;rw[j9]at h2;exact⟨f.getD n 0,getD_mem (aD h1 (mW z f)),h2.symm⟩
def sm:Nat->(Nat->Int)->Int
 |0,_=>0
 |n+1,f=>sm n f+f n
theorem jn:∀{n:Nat},(∀i,i<n->f i=g i)->sm n f=sm n g
 |0,_=>rfl
 |n+1,h=>by show sm n f+f n=sm n g+g n;rw[jn λi hi=>h i (by lia),h n (by lia)]
theorem mO:∀{n:Nat},(∀i,i<n->f i=0)->sm n f=0
 |0,_=>rfl
 |n+1,h=>by show sm n f+f n=0;rw[mO λi hi=>h i (by lia),h n (by lia)];rfl
theorem zB:∀{m:Nat},n<=m->(∀i,n<=i->i<m->f i=0)->sm m f=sm n f
 |0,h,_=>by
  have:n=0:=by lia
  subst this;rfl
 |m+1,h,z=>by
  by_cases c:n=m+1
  ·subst c;rfl
  ·show sm m f+f m=sm n f;rw[z m (by lia) (by lia),bH];exact zB (by lia) λi h1 h2=>z i h1 (by lia)
theorem qb (f:Nat->Int):∀n,sm (n+1) f=f 0+sm n λi=>f (i+1)
 |0=>by show 0+f 0=f 0+0;lia
 |n+1=>by show sm (n+1) f+f (n+1)=f 0+(sm n (λi=>f (i+1))+f (n+1));rw[qb f n];lia
theorem T7 (f:Nat->Int):∀n,sm (n+1) f=sm (n+1) λi=>f (n-i)
 |0=>rfl
 |n+1=>by
  rw[qb (λi=>f (n+1-i)) (n+1)];show sm (n+1) f+f (n+1)=f (n+1-0)+sm (n+1) λi=>f (n+1-(i+1));rw[T7 f n,f9];have:sm (n+1) (λi=>f (n-i))=sm (n+1) λi=>f (n+1-(i+1)):=jn λi _=>by rw[Nat.add_sub_add_right]
  lia
theorem Xv:∀{n:Nat},(∀i,i<n->pl z (f i)=pl z (g i))->pl z (sm n f)=pl z (sm n g)
 |0,_=>rfl
 |n+1,h=>by show pl z (sm n f+f n)=pl z (sm n g+g n);rw[<- zG,<- M4,Xv λi hi=>h i (by lia),h n (by lia),zG,M4]
def cm (f g:List Int)(n:Nat):Int:=sm (n+1) λi=>f.getD i 0*g.getD (n-i) 0
theorem jA (f g:Li)(n:Nat):cm f g n=cm g f n:=by unfold cm;rw[T7];refine jn λi hi=>?_;rw[cf,show n-(n-i)=i by lia]
theorem aaq (hf:∀n,pl z (f.getD n 0)=pl z (f'.getD n 0))(hg:∀n,pl z (g.getD n 0)=pl z (g'.getD n 0))(n:Nat):pl z (cm f g n)=pl z (cm f' g' n):=
 Xv λi _=>by rw[<- z9,<- zq,hf,hg,z9,zq]
def Hg (f g:List Int)(n i:Nat):Int:=sm i λj=>if j<=n then f.getD j 0*g.getD (n-j) 0 else 0
theorem PX (f g:Li)(n:Nat){i:Nat}(h:f.length<=i):Hg f g n i=cm f g n:=by
 have e:cm f g n=Hg f g n (n+1):=jn λj hj=>by rw[af (by lia)]
 rw[e];unfold Hg;rcases Nat.le_total i (n+1) with c|c
 ·refine(zB c λj h1 h2=>?_).symm;rw[jj (show f.length<=j by lia),bT];split<;>rfl
 ·refine zB c λj h1 h2=>?_;rw[ae (by lia)]
theorem T6 {n:Nat}(h:f.length+g.length<=n+1):cm f g n=0:=by
 unfold cm;refine mO λi hi=>?_;by_cases c:i<f.length
 ·rw[jj (show g.length<=n-i by lia),aU]
 ·rw[jj (show f.length<=i by lia),bT]
def ji (f g:List Int):List Int:=(List.range (f.length+g.length)).map (cm f g)
theorem jg (f g:Li)(n:Nat):(ji f g).getD n 0=cm f g n:=by
 unfold ji;by_cases h:n<f.length+g.length
 ·rw[jx (by rw[aa,aq];exact h),bv,bq]
 ·rw[jj (by rw[aa,aq];lia),T6 (by lia)]
theorem Qo {a b:Li}(hl:a.length=b.length)(h:∀n,a.getD n 0=b.getD n 0):a=b:=by refine cu hl λi h1 h2=>?_;have:=h i;rw[jx h1,jx h2]at this;exact this
def tE (f g:List Int)(i k:Nat)(row:List Int):Prop:=row.length=f.length+g.length/\∀n,row.getD n 0=Hg f g n i+if i<=n/\n-i<k then f.getD i 0*g.getD (n-i) 0 else 0
theorem Dq (f g:Li):tE f g 0 0 (List.replicate (f.length+g.length) 0):=by
 refine⟨aL,λn=>?_⟩;rw[ae (by lia)];by_cases h:n<f.length+g.length
 ·rw[jx (by rw[aL];exact h),cM];rfl
 ·rw[jj (by rw[aL];lia)];rfl
theorem qX (row:Li)(j:Nat)(x:Int)(n:Nat)(h:j<row.length):(row.set j x).getD n 0=if n=j then x else row.getD n 0:=by
 by_cases c:n=j
 ·subst c;rw[af rfl,jx (by rw[bR];exact h),List.getElem_set_self]
 ·rw[ae c,gQ,d7 (by lia),<- gQ]
theorem HB (h:tE f g i k row)(hi:i<f.length)(hk:k<g.length):tE f g i (k+1) (row.set (i+k) (row.getD (i+k) 0+f.getD i 0*g.getD k 0)):=by
 obtain⟨hl,hr⟩:=h;refine⟨by rw[bR];exact hl,λn=>?_⟩;rw[qX _ _ _ _ (by lia)];by_cases c:n=i+k
 ·subst c;rw[af rfl,hr,ae (by lia),af (by lia),show i+k-i=k by lia];lia
 ·rw[ae c,hr];by_cases d:i<=n/\n-i<k
  ·rw[af d,af (by lia)]
  ·rw[ae d,ae (by lia)]
theorem HH {i:Nat}(h:tE f g i g.length row):tE f g (i+1) 0 row:=by
 obtain⟨hl,hr⟩:=h;refine⟨hl,λn=>?_⟩;rw[hr,ae (show ¬(i+1<=n/\n-(i+1)<0) by lia)];show _=Hg f g n i+(if i<=n then f.getD i 0*g.getD (n-i) 0 else 0)+0;by_cases c:i<=n
 ·rw[af c];by_cases d:n-i<g.length
  ·rw[af ⟨c,d⟩];lia
  ·rw[ae (by lia),jj (show g.length<=n-i by lia),aU];lia
 ·rw[ae (by lia),ae c];lia
theorem row_end {f g row:Li}(h:tE f g f.length 0 row):row=ji f g:=by obtain⟨hl,hr⟩:=h;refine Qo (by rw[hl];unfold ji;rw[aa,aq]) λn=>?_;rw[hr,ae (by lia),jg,PX f g n (ao _)];lia
theorem Ja (z:Int)(f g:Li):Tz z (ji (Tz z f) (Tz z g))=Tz z (ji f g):=
 Gh λn=>by rw[jg,jg];exact aaq (λk=>by rw[j9,uF]) (λk=>by rw[j9,uF]) n
end FM
section
open PySem PySem.Spec PyProof.Rows
namespace L3
open L2
theorem M9 (H:Hp):mn H (λ_=>false)=H:=by funext b;exact qu rfl
def HN (K:Fg)(G:Gx)(C:En->Prop)(g:En->PV):TE:=λσ H Q=>∃B Z O,Rep K G B σ H Z O/\C Z/\∀v H',Same H H' -> At K G H' (g Z) v->Q v H'
def O7 (K:Fg)(G:Gx)(C:En->Prop)(g:En->List PV):TA:=λσ H Q=>∃B Z O,Rep K G B σ H Z O/\C Z/\∀vs H',Same H H' -> lN K G H' (g Z) vs->Q vs H'
section
variable {X:Cx}{G:Gx}{Er:ER}{a b c e:Expr}{es:List Expr}{pos p px ps pa pc:Pos}{C Ca Cb:En->Prop}{g:En->PV}{gs:En->List PV}{gi:En->Int}{i j k:Nat}{x:Str}{pl:List Str}{pre:List PV->Prop}
theorem vR (h:PE X e (tX X.K G C g)):PE X e (HN X.K G C g):=λpins s σ H Q I ⟨B,Z,O,R,c,q⟩=>h pins s σ H Q I ⟨B,Z,O,R,c,λv H' s a=>q v H' s (At.mono jM _ _ a)⟩
theorem rdO (i:Nat)(hN:X.N[i]?=some x:=by rfl)(hv:Vis X.env.scope x:=by walk_at "v")
  (hd:(x == ("__debug__":Str))=false:=by decide) (hcd:(x == ("__classdict__":Str))=false:=by decide):PE X (.Name x pos) (HN X.K G (λZ=>Ut Z i) λZ=>.ints (getL Z i)):=
 λpins s σ H Q I ⟨B,Z,O,R,c,q⟩=>pe_var hN hv hd hcd pins s σ H Q I (by
  obtain⟨a,vs,e1,e2,e3,e4,e5⟩:=R.ow i _ c;subst e5;exact⟨_,e1,q _ H (Same.refl H) ⟨a,rfl,.inl e4⟩⟩)
theorem o8:PA X [] (O7 X.K G (λ_=>True) λ_=>[]):=λpos pins s σ H Q I ⟨_,_,_,_,_,q⟩=>pa_nil pos pins s σ H Q I (q [] H (Same.refl H) rfl)
theorem jP (ha:PE X e (HN X.K G Ca g))(hr:PA X es (O7 X.K G Cb gs))(hs:starEach (e::es) X.env=(false,eval e X.env)::starEach es X.env:=by rfl):PA X (e::es) (O7 X.K G (λZ=>Ca Z/\Cb Z) λZ=>g Z::gs Z):=
 λpos pins s σ H Q I ⟨B,Z,O,R,c,q⟩=>pa_cons ha hr hs pos pins s σ H Q I ⟨B,Z,O,R,c.1,λv H1 s1 a1=>⟨B,Z,O,R.grow s1,c.2,λvs H2 s2 a2=>q _ H2 (s1.trans s2) ⟨v,vs,rfl,At.mono s2 _ _ a1,a2⟩⟩⟩
theorem rci (o:Ok X.prog X.w X.K X.mg X.base j x pl (By X.K G pre F))(hr:Room k X.A)(ha:PA X (e::es) (O7 X.K G C gs))(hj:j<=k:=by decide)(hg:Gl X x:=by rfl)(hdb:(x == ("__debug__":Str))=false:=by decide)
  (he:starEach (e::es) X.env=(false,eval e X.env)::starEach es X.env:=by rfl) (hpl:(backTo pos (starEach es X.env)).any (·.1)=false:=by rfl) :
  PE X (.Call (.Name x p) (e::es) [] pos) (lY X.K G (λZ=>C Z/\pre (gs Z)) λZ=>F (gs Z)):=
 tL (nO o hr ha hj hg hdb he hpl) λB σ H Z O Q R c q=>⟨B,Z,O,R,c.1,λvs H1 s1 a1=>by
  dsimp only;rw[a8];exact⟨gs Z,λ_=>false,(λ_ z=>by cases z),by rw[M9];exact a1,c.2,λv H2 s2 a2=>q v H2 (s1.trans s2) a2⟩⟩
theorem rcb (o:Ok X.prog X.w X.K X.mg X.base j x pl (Py X.K G pre F))(hr:Room k X.A)(ha:PA X (e::es) (O7 X.K G C gs))(hj:j<=k:=by decide)(hg:Gl X x:=by rfl)(hdb:(x == ("__debug__":Str))=false:=by decide)
  (he:starEach (e::es) X.env=(false,eval e X.env)::starEach es X.env:=by rfl) (hpl:(backTo pos (starEach es X.env)).any (·.1)=false:=by rfl) :
  PE X (.Call (.Name x p) (e::es) [] pos) (Qd X.K G (λZ=>C Z/\pre (gs Z)) λZ=>F (gs Z)=true):=
 tL (nO o hr ha hj hg hdb he hpl) λB σ H Z O Q R c q=>⟨B,Z,O,R,c.1,λvs H1 s1 a1=>by
  dsimp only;rw[a8];exact⟨gs Z,λ_=>false,(λ_ z=>by cases z),by rw[M9];exact a1,c.2,λv H2 s2 a2=>q v H2 (s1.trans s2) (by dsimp only;rw[du];exact a2)⟩⟩
theorem Zz (o:Ok X.prog X.w X.K X.mg X.base j x pl (Ed X.K G pre F))(hr:Room k X.A)(ha:PA X (e::es) (O7 X.K G C gs))(hj:j<=k:=by decide)(hg:Gl X x:=by rfl)(hdb:(x == ("__debug__":Str))=false:=by decide)
  (he:starEach (e::es) X.env=(false,eval e X.env)::starEach es X.env:=by rfl) (hpl:(backTo pos (starEach es X.env)).any (·.1)=false:=by rfl) :
  PE X (.Call (.Name x p) (e::es) [] pos) (CT X.K G (λZ=>C Z/\pre (gs Z)) λZ=>F (gs Z)):=
 Hk (nO o hr ha hj hg hdb he hpl) λB σ H Z O Q R c q=>⟨B,Z,O,R,c.1,λvs H1 s1 a1=>by
  dsimp only;rw[a8];exact⟨gs Z,λ_=>false,(λ_ z=>by cases z),by rw[M9];exact a1,c.2,λa H2 s2 n2 e2=>q a H2 (s1.trans s2) (s1.free n2) e2⟩⟩
end
end L3
namespace L2
theorem nQ:∀{ns:Li} {its:Lv},Vals (ns.map V.int) its->IntsAre its ns
 |[],_,h=>by cases h;exact .nil
 |n::r,_,h=>by
  cases h with
  |cons a b=>obtain⟨t,rfl⟩:=a;exact .cons n t (nQ b)
def aal (g:List Int->List Int->Bool):R2:=λx y H Q=>∃a b ns ms,x=.ref a/\y=.ref b/\Rd H a (.lst (ns.map V.int))/\Rd H b (.lst (ms.map V.int))/\Q (.bl (g ns ms)) H
section
variable {X:Cx}
theorem VD (hu:X.A.units+64<cLine):OpR X (compareOp .Eq) (aal λns ms=>decide (ns=ms)):=by intro pins s σ H x y v u Q I rx ry h;obtain⟨a,b,ns,ms,rfl,rfl,ha,hb,q⟩:=h;cases rx;cases ry;obtain⟨_,its,n,r,_,e⟩:=L3.Inv.Bw I ha;obtain⟨_,its2,n2,r2,_,e2⟩:=L3.Inv.Bw I hb;exact W.ke_eq_ints ⟨_,e,rfl,_,rfl⟩ ⟨_,e2,rfl,_,rfl⟩ (nQ r) (nQ r2) hu ⟨.bl _,H,I,rfl,q⟩
theorem U6 (hu:X.A.units+64<cLine):OpR X (compareOp .NotEq) (aal λns ms=>decide (¬ns=ms)):=by intro pins s σ H x y v u Q I rx ry h;obtain⟨a,b,ns,ms,rfl,rfl,ha,hb,q⟩:=h;cases rx;cases ry;obtain⟨_,its,n,r,_,e⟩:=L3.Inv.Bw I ha;obtain⟨_,its2,n2,r2,_,e2⟩:=L3.Inv.Bw I hb;have q:Q (.bl (decide (¬ns=ms))) H:=q;rw[ii]at q;exact W.ke_ne_ints ⟨_,e,rfl,_,rfl⟩ ⟨_,e2,rfl,_,rfl⟩ (nQ r) (nQ r2) hu ⟨.bl _,H,I,rfl,q⟩
end
def Itz (K:Fg)(a b:Addr):It:=
 ⟨λi H=>∃xs ys x y,SqL K H a xs/\SqL K H b ys/\xs[i]?=some x/\ys[i]?=some y,
  λi H v H'=>∃T x y,v=.ref T/\H T=none/\H'=upd H T (.tup [x,y])/\(∀xs,SqL K H a xs->xs[i]?=some x)/\∀ys,SqL K H b ys->ys[i]?=some y,
  λi H=>∃xs ys,SqL K H a xs/\SqL K H b ys/\(xs.length<=i\/ys.length<=i)⟩
theorem S8 {P:Program}{w:World}{K:Fg}{els:List Expr}{kk:Nat}{tp:Pos}(a b z TI TO i1 i2:Addr)(D:ZipApart z TI TO i1 i2 a b) :
  Turn P w K (.Tuple els kk tp) (Itz K a b) [z,TI,TO,i1,i2] z (λi h=>IsZip h z TI TO .none/\IsPair h TI (.ref i1) (.ref i2)/\(∃u v,IsPair h TO u v)/\h.IsListIter i1 a i/\h.IsListIter i2 b i) where
 mem:=by simp
 obj:=λi h st c hc=>by
  obtain⟨hz,hTI,⟨u,v,hTO⟩,⟨o1,q1,_,d1⟩,⟨o2,q2,_,d2⟩⟩:=st;rcases aF.mp hc with rfl|hc
  ·exact⟨_,hz,λv y=>by cases y⟩
  rcases aF.mp hc with rfl|hc
  ·exact⟨_,hTI,λv y=>by cases y⟩
  rcases aF.mp hc with rfl|hc
  ·exact⟨_,hTO,λv y=>by cases y⟩
  rcases aF.mp hc with rfl|hc
  ·exact⟨o1,q1,λv y=>by rw[d1]at y;cases y⟩
  ·have e:c=i2:=by simpa using hc
   subst e;exact⟨o2,q2,λv y=>by rw[d2]at y;cases y⟩
 keep:=λi h h' st k=>by obtain⟨hz,hTI,⟨u,v,hTO⟩,h1,h2⟩:=st;exact⟨k z (by simp) _ hz,k TI (by simp) _ hTI,⟨u,v,k TO (by simp) _ hTO⟩,h1.at λo q=>k i1 (by simp) o q,h2.at λo q=>k i2 (by simp) o q⟩
 item:=by
  intro X hP hw hK hc i pins s σ H E I hf st hg;subst hP hw hK;obtain⟨xs,ys,x,y,hqa,hqb,hx,hy⟩:=hg;obtain⟨hz,hTI,⟨p0,q0,hTO⟩,h1,h2⟩:=st;obtain⟨its,rv,pa,hza⟩:=I.list hqa;obtain⟨u,hu,ru⟩:=rv.get hx;obtain⟨its2,rv2,pb,hzb⟩:=I.list hqb;obtain⟨u2,hu2,ru2⟩:=rv2.get hy;refine wpAny_pyNext_zip_item D hz hTI hTO h1 h2 pa.isList pb.isList (x:=u) (y:=u2) (by simpa using hu) (by simpa using hu2) λh' hz' hTO' h1' h2' hT hsz hk=>⟨_,rfl,?_⟩;refine wpAny_letOwnedTupleGo_zip hz' λh2h hz2 hs2=>?_;have Tz:s.heap.objs.size≠z:=dM (aA hz);have keep2:∀c o,c∉[z,TI,TO,i1,i2]->s.heap.get? c=some o->h2h.get? c=some o:=λc o hc q=>by have c1:c≠z:=λe=>hc (by simp[e]);exact(hs2.2 c c1).trans (hk c o c1 (λe=>hc (by simp[e])) (λe=>hc (by simp[e])) (λe=>hc (by simp[e])) q)
  have I1:Inv X pins σ H { s with heap:=h2h,toks:=s.toks }:=I.uK hf keep2;have fT:FpOk X pins H s.heap.objs.size:=I.fpOk (ao _) (I.hok.fresh (ao _));have I2:=I1.track (o:=.tup [x,y]) fT ⟨by show 2<=sizeLine;decide,[u,u2],.cons ru (.cons ru2 .nil),⟨_,(hs2.2 _ Tz).trans hT,rfl,_,rfl⟩⟩;have up:∀c o,c≠z->h'.get? c=some o->h2h.get? c=some o:=λc o c1 q=>(hs2.2 c c1).trans q;refine⟨.ref s.heap.objs.size,_,I2,rfl,⟨_,x,y,rfl,fT.1,rfl,λzs hq=>by rw[I.list_inj hq hqa];exact hx,λzs hq=>by rw[I.list_inj hq hqb];exact hy⟩,⟨hz2,?_,⟨u,u2,up _ _ D.TOz hTO'⟩,h1'.at λo q=>up _ o D.i1z q,h2'.at λo q=>up _ o D.i2z q⟩,λc hc=>?_⟩
  ·exact up _ _ D.TIz (hk _ _ D.TIz D.TITO D.TIi1 D.TIi2 hTI)
  ·have lt:c<s.heap.objs.size:=by
    rcases aF.mp hc with rfl|hc
    ·exact aA hz
    rcases aF.mp hc with rfl|hc
    ·exact aA hTI
    rcases aF.mp hc with rfl|hc
    ·exact aA hTO
    rcases aF.mp hc with rfl|hc
    ·obtain⟨o,q,_⟩:=h1;exact aA q
    ·have e:c=i2:=by simpa using hc
     subst e;obtain⟨o,q,_⟩:=h2;exact aA q
   rw[upd_ne (bn lt)];exact(hf c hc).1
 done:=by
  intro X hP hw hK hc i pins s σ H E I hf st hg;subst hP hw hK;obtain⟨xs,ys,hqa,hqb,hx⟩:=hg;obtain⟨hz,hTI,⟨p0,q0,hTO⟩,h1,h2⟩:=st;obtain⟨its,rv,pa,hza⟩:=I.list hqa;obtain⟨its2,rv2,pb,hzb⟩:=I.list hqb;have hl:=rv.length;have hl2:=rv2.length;refine wpAny_pyNext_zip_end (I.ok.hd hc) D hz hTI hTO h1 h2 pa.isList pb.isList ?_ λh' hk=>⟨rfl,I.uK (t':=s.toks) hf λc o hc q=>hk c o (λe=>hc (by simp[e])) (λe=>hc (by simp[e])) (λe=>hc (by simp[e])) (λe=>hc (by simp[e])) q⟩;rcases hx with h|h
  ·exact .inl (by simp;lia)
  ·exact .inr (by simp;lia)
 self:=λA i s Q E st h=>wpAny_pyIter_zip st.1 h
theorem Yq:bootBuiltins "zip"=some (.type "zip"):=by decide +kernel
def Vg (K:Fg)(ta:TA):TI:=λσ H R=>ta σ H λvs H1=>∃a b,vs=[.ref a,.ref b]/\(∃xs,SqL K H1 a xs)/\(∃xs,SqL K H1 b xs)/\R (Itz K a b) H1
theorem Ke {X:Cx}{els:List Expr}{kk:Nat}{tp:Pos}{l l2:Expr}{ta:TA}{p pos:Pos}(hg:Gl X "zip")(hm:X.mg "zip"=none)(ha:PA X [l,l2] ta)(hs:starEach [l,l2] X.env=(false,eval l X.env)::starEach [l2] X.env:=by rfl)(hpl:(backTo pos (starEach [l2] X.env)).any (·.1)=false:=by rfl) :
  PI X (.Tuple els kk tp) (.Call (.Name "zip" p) [l,l2] [] pos) (Vg X.K ta):=by
 intro pins s σ H R I h;refine Call_ (ld_blt I hg hm Yq (ce (thn (ha pos pins s σ H _ I h) λus s1 ⟨vs,H1,I1,r1,q1⟩=>?_) hs hpl));obtain⟨a,b,rfl,⟨xs,hqa⟩,⟨ys,hqb⟩,q⟩:=q1;obtain⟨u,u2,rfl,ru,ru2⟩:=vals2 r1;cases ru;cases ru2;obtain⟨its,rv,pa,hza⟩:=I1.list hqa;obtain⟨its2,rv2,pb,hzb⟩:=I1.list hqb;have la:a<s1.heap.objs.size:=by obtain⟨o,e,_⟩:=pa.isList;exact aA e
 have lb:b<s1.heap.objs.size:=by obtain⟨o,e,_⟩:=pb.isList;exact aA e
 refine call_zip_2 pa.isList pb.isList λh1 hz hTI hTO h1i h2i hsz hk=>?_;refine wpAny_pyIter_zip hz ?_;have I2:Inv X pins σ H1 { s1 with heap:=h1 }:=I1.kept (t':=s1.toks) hk;have D:ZipApart (s1.heap.objs.size+4) (s1.heap.objs.size+2) (s1.heap.objs.size+3) s1.heap.objs.size (s1.heap.objs.size+1) a b:=by have la':@LT.lt Nat _ a s1.heap.objs.size:=la;have lb':@LT.lt Nat _ b s1.heap.objs.size:=lb;constructor<;>(show @Ne Nat _ _)<;>lia
 refine⟨_,[s1.heap.objs.size+4,s1.heap.objs.size+2,s1.heap.objs.size+3,s1.heap.objs.size,s1.heap.objs.size+1],_,_,H1,rfl,I2,S8 a b _ _ _ _ _ D,⟨hz,hTI,⟨_,_,hTO⟩,h1i,h2i⟩,λc hc=>?_,q⟩;have le:s1.heap.objs.size<=c:=by simp only[aF,List.not_mem_nil,or_false]at hc;rcases hc with h|h|h|h|h<;>rw[h]<;>first|exact ao _|exact Nat.le_add_right _ _
 exact I1.fpOk le (I1.hok.fresh le)
end L2
namespace L3
open L2
section
variable {X:Cx}{G:Gx}{Er:ER}{a b e:Expr}{pos p px apos:Pos}{C Ca Cb:En->Prop}{gl hl:En->List Int}{i j k:Nat}{x:Str}
theorem Rj (R:Rep X.K G B σ H Z O)(ca:Ca Z)(cb:Cb Z)(q:∀l m H1 H2,Same H H1->Same H1 H2->Rd H2 l (.lst ((gl Z).map V.int))->Rd H2 m (.lst ((hl Z).map V.int))->r (.ref l) (.ref m) H2 Q) :
  tOp r (HN X.K G Ca λZ=>.ints (gl Z)) (HN X.K G Cb λZ=>.ints (hl Z)) σ H Q:=
 ⟨B,Z,O,R,ca,λv H1 s1 a1=>⟨B,Z,O,R.grow s1,cb,λu H2 s2 a2=>by
  obtain⟨l,rfl,r1⟩:=a1;obtain⟨m,rfl,r2⟩:=a2;exact q l m H1 H2 s1 s2 (jw s2 r1) r2⟩⟩
theorem Yh (hu:X.A.units+64<cLine)(ha:PE X a (HN X.K G Ca λZ=>.ints (gl Z)))(hb:PE X b (HN X.K G Cb λZ=>.ints (hl Z))):PT X (.Compare a [.Eq] [b] pos) (uR X.K G (λZ=>Ca Z/\Cb Z) λZ=>gl Z=hl Z):=
 λpins s σ H Q I ⟨_,_,_,R,c,q⟩=>pt_cmpR (VD hu) ha hb (nomark _) pins s σ H Q I (Rj R c.1 c.2 λl m _ H2 s1 s2 r1 r2=>⟨l,m,_,_,rfl,rfl,r1,r2,_,rfl,q H2 (s1.trans s2)⟩)
theorem Zh (hu:X.A.units+64<cLine)(ha:PE X a (HN X.K G Ca λZ=>.ints (gl Z)))(hb:PE X b (HN X.K G Cb λZ=>.ints (hl Z))):PT X (.Compare a [.NotEq] [b] pos) (uR X.K G (λZ=>Ca Z/\Cb Z) λZ=>¬gl Z=hl Z):=
 λpins s σ H Q I ⟨_,_,_,R,c,q⟩=>pt_cmpR (U6 hu) ha hb (nomark _) pins s σ H Q I (Rj R c.1 c.2 λl m _ H2 s1 s2 r1 r2=>⟨l,m,_,_,rfl,rfl,r1,r2,_,rfl,q H2 (s1.trans s2)⟩)
def CJ:PV->Int
 | .int n=>n
 |_=>0
def jZ:PV->List Int
 | .ints ns=>ns
 |_=>[]
theorem rO (h:PE X e (tX X.K G C g)):PE X e (lY X.K G (λZ=>C Z/\g Z=.int (CJ (g Z))) λZ=>CJ (g Z)):=
 tL h λB σ H Z O Q R c q=>⟨B,Z,O,R,c.1,λv H' s a=>q v H' s (by rw[<- c.2];exact a)⟩
theorem xl_of (h:PE X e (tX X.K G C g)):PE X e (Km X.K G (λZ=>C Z/\g Z=.ints (jZ (g Z))) λZ=>jZ (g Z)):=
 tL h λB σ H Z O Q R c q=>⟨B,Z,O,R,c.1,λv H' s a=>q v H' s (by rw[<- c.2];exact a)⟩
def rP:PV->List PV
 | .lst xs=>xs
 |_=>[]
theorem nJ (h:PE X e (tX X.K G C g)):PE X e (tX X.K G (λZ=>C Z/\g Z=.lst (rP (g Z))) λZ=>.lst (rP (g Z))):=
 tL h λB σ H Z O Q R c q=>⟨B,Z,O,R,c.1,λv H' s a=>q v H' s (by rw[<- c.2];exact a)⟩
theorem U9 (he:PE X e (tX X.K G C g))(hgt:PG X (.Tuple [.Name x px,.Name y py] kk tp) (gTup X.K 2 (gCons (gName i) (gCons (gName j) gNil))))
  (hs:swapsWithSole [.Tuple [.Name x px,.Name y py] kk tp] e pos.line X.env=pure false:=by rfl) (hw:swappedStores [.Tuple [.Name x px,.Name y py] kk tp] e X.env=pure none:=by rfl)
  (h1:(assignEach [.Tuple [.Name x px,.Name y py] kk tp] X.env).map (·.2)=[assign (.Tuple [.Name x px,.Name y py] kk tp) X.env]:=by rfl) :
  PS X (.Assign [.Tuple [.Name x px,.Name y py] kk tp] e pos) (ts X.K G Er λP Z=>C Z/\∃u v,g Z=.tup [u,v]/\P.nx ((Z.set i (.fr u)).set j (.fr v))):=
 toS (ps_asg he hgt hs hw h1) λB σ H Z O P D R c w=>by obtain⟨c1,u,v,eg,c3⟩:=c;refine⟨B,Z,O,R,c1,λt H1 s1 a1=>?_⟩;rw[eg]at a1;obtain⟨l,vs,rfl,hl,v1,r1,rfl,b1,v2,r2,rfl,b2,rfl⟩:=a1;exact⟨l,_,rfl,SqT.of (jM _ _ hl),rfl,_,_,rfl,_,_,rfl,rfl,w.nx _ H1 _ ⟨O,((R.grow s1).set b1).set b2⟩ c3⟩
end
theorem Vi {H:Hp}{O:Addr->Bool}{x:Addr}(hd:∀a,O a=true->H a≠none)(hx:H x=none){H':Hp}:mn H' O x=H' x:=qu (by
 cases z:O x with
 |false=>rfl
 |true=>exact absurd hx (hd x z))
theorem W5 (hx:H x=none)(hd:H dx=none):Same H (upd (upd (upd H dx (.own x)) x (.ins C dx [])) x (.ins C dx fs)):=sy λb o e=>by rw[upd_ne (ne_of_none e hx),upd_ne (ne_of_none e hx),upd_ne (ne_of_none e hd)];exact e
def KW (cW:Addr)(H:Hp)(a:Addr)(z:Int):Prop:=z=0/\∃dx fs,H a=some (.ins cW dx fs)/\fs.lookup ("size":Str)=some (.int 0)/\∀m∈Be,fs.lookup m=none
section
variable {K:Fg}{G:Gx}{B:Bs}{σ:L2.St}{H H1:Hp}{Z:En}{O:Addr->Bool}{D:Addr}{cap:List (Option Nat)}
variable {α:Type}{J:It}{g:TG}{C Ct:En->Prop}{pt:En->Prop}[∀Z,Decidable (pt Z)]{gb:En->PV}{Q:VK}
theorem Ig (items:List α)(setσ:α->V->L2.St)(setr:α->En)(val:α->V)(R:Rep K G B σ H1 Z O)(hD:H1 D=none)(hlen:items.length<=10000)(hgo:∀i H,i<items.length->Same H1 H->J.go i H)
  (hyld:∀i it x H H',items[i]?=some it->Same H1 H->J.yld i H x H' -> Same H H'/\∀k:L2.St->Hp->Prop,k (setσ it (val it)) H' -> g x (pI cap σ) H' k) (hstop:∀H,Same H1 H->J.stop items.length H)
  (hset:∀it H,it∈items->Same H1 H->Rep K G ⟨H1,O⟩ (pI cap σ) H (jC cap Z) (hide D O)->Rep K G ⟨H1,O⟩ (setσ it (val it)) H (setr it) (hide D O)) (hext:∀it,BJ (pI cap σ) (setσ it (val it))) (hCt:∀it∈items,Ct (setr it)) (hC:∀it∈items,pt (setr it)->C (setr it))
  (hQ:∀H' ys,Same H1 H' -> H' D=some (.lst ys)->lN K G (mn H' (hide D O)) ((items.filter λit=>decide (pt (setr it))).map λit=>gb (setr it)) ys->Q (.ref D) H') :
  ∃W:Nat->Nat->List V->Hp->Prop,(∃m,W 0 m [] (upd H1 D (.lst [])))/\lcW D J (pI cap σ) g (uR K G Ct pt) (tX K G C gb) Q W:=by
 refine⟨λi m ys H=>m=items.length-i/\i<=items.length/\Same H1 H/\H D=some (.lst ys)/\lN K G (mn H (hide D O)) (((items.take i).filter λit=>decide (pt (setr it))).map λit=>gb (setr it)) ys,⟨items.length,by simp,be _,same_new hD _,upd_same,rfl⟩,?_⟩;rintro i m ys H ⟨rfl,hi,hs,hd,al⟩;have hl:ys.length<=i:=by rw[<- al.length,aa];refine aH (cT _ _) ?_;rw[aJ];lia
 refine⟨hd,aQ (show ys.length<=10000 by lia) (by decide),?_⟩;by_cases hlt:i<items.length
 ·refine .inr ⟨hgo i H hlt hs,?_⟩;intro x H' hy;have en:items[i]?=some items[i]:=ac hlt;obtain⟨s1,kk⟩:=hyld i _ x H H' en hs hy;refine kk _ ⟨hext _,?_⟩;have hd':=s1 _ _ hd;have R2:=hset items[i] H' (bD hlt) (hs.trans s1) (Cr R hD (hs.trans s1) (by rw[hd'];exact λz=>by cases z));refine⟨_,_,_,R2,hCt _ (bD hlt),λH3 s3=>?_⟩;by_cases d:pt (setr items[i])
  ·rw[aK d];refine iteT ?_;refine⟨_,_,_,R2.grow s3,hC _ (bD hlt) d,λv H2 s2 a2=>⟨s2 _ _ (s3 _ _ hd'),items.length-(i+1),by lia,rfl,hlt,?_,upd_same,?_⟩⟩
   ·intro b o z;rw[upd_ne (ne_of_none z hD)];exact(((hs.trans s1).trans s3).trans s2) b o z
   ·rw[Bk hide_self,m7 en,gf,cE (by exact aK d),bF];exact lN.snoc (lN.mono (lA ((s1.trans s3).trans s2)) _ _ al) a2
  ·rw[aI d];refine iteF ?_;refine⟨items.length-(i+1),by lia,rfl,hlt,hs.trans (s1.trans s3),s3 _ _ hd',?_⟩;rw[m7 en,gf,cF (by simpa using d),fR,a8];exact lN.mono (lA (s1.trans s3)) _ _ al
 ·have e:i=items.length:=by lia
  subst e;refine .inl ⟨hstop H hs,hQ H ys hs hd ?_⟩;rw[cr]at al;exact al
end
section
variable {K:Fg}{G:Gx}{σ:L2.St}{H:Hp}{Q:VK}{Cs Ct Cb:En->Prop}{pt:En->Prop}[∀Z,Decidable (pt Z)]{gs hs:En->List Int}{gi:En->Int}{gp:En->PV}{cap:List (Option Nat)}
theorem abb (h:yV K G (λZ=>(Cs Z/\Cs' Z)/\(gs Z).length<=1000/\∀n m,(n,m)∈(gs Z).zip (hs Z)->Cb (((jC (none::none::cap) Z).set 0 (.fr (.int n))).set 1 (.fr (.int m))))
   (λZ=>((gs Z).zip (hs Z)).map λp=>gp (((jC (none::none::cap) Z).set 0 (.fr (.int p.1))).set 1 (.fr (.int p.2)))) σ H Q) :
  Su (none::none::cap) (Vg K (tCons (HN K G Cs λZ=>.ints (gs Z)) (tCons (HN K G Cs' λZ=>.ints (hs Z)) tNil))) (gTup K 2 (gCons (gName 0) (gCons (gName 1) gNil))) ue (tX K G Cb gp) σ H Q:=by
 obtain⟨B,Z,O,R,⟨⟨c1,c1'⟩,c2,c3⟩,q⟩:=h;refine⟨B,Z,O,R,c1,λv H1 s1 a1=>⟨B,Z,O,R.grow s1,c1',λu H2 s2 a2=>?_⟩⟩;obtain⟨a,rfl,hq⟩:=a1;obtain⟨b,rfl,hq'⟩:=a2;have hq1:SqL K H2 a ((gs Z).map V.int):=.inl (jw s2 hq);have hq2:SqL K H2 b ((hs Z).map V.int):=.inl hq';refine⟨a,b,rfl,⟨_,hq1⟩,⟨_,hq2⟩,λD hD=>?_⟩;have hz:((gs Z).zip (hs Z)).length=min (gs Z).length (hs Z).length:=dq;have at1:∀i,i<((gs Z).zip (hs Z)).length->i<(gs Z).length/\i<(hs Z).length:=λi h=>by rw[hz]at h;lia
 refine sE ((gs Z).zip (hs Z)) (λp _=>((pI (none::none::cap) σ).set 0 (some (.int p.1))).set 1 (some (.int p.2))) (λp=>((jC (none::none::cap) Z).set 0 (.fr (.int p.1))).set 1 (.fr (.int p.2))) (λp=>.int p.1) ((R.grow s1).grow s2) hD (by rw[hz];lia)
  (λi H hi s=>⟨_,_,.int ((gs Z)[i]'(at1 i hi).1),.int ((hs Z)[i]'(at1 i hi).2),s.seq hq1,s.seq hq2,by simp[(at1 i hi).1],by simp[(at1 i hi).2]⟩) ?_ (λH s=>⟨_,_,s.seq hq1,s.seq hq2,by rw[hz,aa,aa];lia⟩) (λp H _ s R'=>(R'.set (p:=.int p.1) rfl).set (p:=.int p.2) rfl) ?_ ?_ ?_
 ·rintro i ⟨n,m⟩ x H H' en s ⟨T,y,y',rfl,hT,rfl,hx,hx'⟩;obtain⟨n',rfl,hn⟩:=int_at (hx _ (s.seq hq1));obtain⟨m',rfl,hm⟩:=int_at (hx' _ (s.seq hq2));have en:(n',m')=(n,m):=by rw[List.getElem?_zip_eq_some]at en;have e1:=en.1;have e2:=en.2;rw[hn]at e1;rw[hm]at e2;rw[aB e1,aB e2]
  cases en;exact⟨same_new hT _,λkk hk=>⟨T,_,rfl,SqT.of upd_same,rfl,_,_,rfl,_,_,rfl,rfl,hk⟩⟩
 ·rintro⟨n,m⟩;exact mQ _
 ·rintro⟨n,m⟩ hm;exact c3 n m hm
 ·intro H' ys s hd al;exact q D ys H' ((s1.trans s2).trans s) ((s1.trans s2).free hD) hd al
end
section
variable {X:Cx}{G:Gx}{Er:ER}{N':List Str}{sc:Scope}{cl:List (Str×Addr)}{cap:List (Option Nat)}{el tg src tst l l2:Expr}{at' spos px p pos':Pos}{Cs Cs' Ct Cb:En->Prop}{pt:En->Prop}[∀Z,Decidable (pt Z)]{gs hs:En->List Int}{gi:En->Int}{gp:En->PV}{i:Nat}{x:Str}
theorem Yw (L:vG X N' sc cl (none::none::cap))(hc:X.calm=true)(hgl:Gl X "zip")(hm:X.mg "zip"=none)(h1:PE X l (HN X.K G Cs λZ=>.ints (gs Z)))(h2:PE X l2 (HN X.K G Cs' λZ=>.ints (hs Z)))(hg:∀s H fp,PG (jB X N' sc cl s H fp) (.Tuple els kk tp) (gTup X.K 2 (gCons (gName 0) (gCons (gName 1) gNil))))(he:∀s H fp,PE (jB X N' sc cl s H fp) el (lY X.K G Cb gi))
  (hst:starEach [l,l2] X.env=(false,eval l X.env)::starEach [l2] X.env:=by rfl) (hst2:starEach [l2] X.env=[(false,eval l2 X.env)]:=by rfl) (hpl:(backTo pos' (starEach [l2] X.env)).any (·.1)=false:=by rfl) (hfs:∀x,foldedSetIterable (.Call (.Name "zip" p) [l,l2] [] pos') X.env x=pure x:=by intro _;rfl) :
  PE X (.ListComp el [⟨.Tuple els kk tp,.Call (.Name "zip" p) [l,l2] [] pos',[],0⟩] sc at') (CT X.K G (λZ=>(Cs Z/\Cs' Z)/\(gs Z).length<=1000/\∀n m,(n,m)∈(gs Z).zip (hs Z)->Cb (((jC (none::none::cap) Z).set 0 (.fr (.int n))).set 1 (.fr (.int m))))
   λZ=>((gs Z).zip (hs Z)).map λp=>gi (((jC (none::none::cap) Z).set 0 (.fr (.int p.1))).set 1 (.fr (.int p.2)))):=
 λpins s σ H Q I h=>yo L hc (Ke hgl hm (pa_cons h1 (pa_cons h2 pa_nil hst2) hst) hst hpl) hg (λ_ _ _=>qg) he hfs pins s σ H Q I (abb (Gk h))
end
end L3
end
namespace L2
open PySem PySem.Spec PyProof.Rows PySem.W PySem.Calls
theorem QD:∀(ns:Li),∀n∈ns,WData.weight (.int n)<=WData.weightAll (ns.map WData.int)
 |[],n,h=>by cases h
 |m::r,n,h=>by
  rw[bK];simp only[WData.weightAll];rcases aF.mp h with rfl|h
  ·lia
  ·have:=QD r n h;lia
theorem UT {ns:Li}(h:WData.layableAll [WData.list (ns.map WData.int)]=true){n:Int}(hn:n∈ns):Builtin.Int.intBits n<=2^20:=by have h1:WData.layable (WData.list (ns.map WData.int))=true:=dC.mp h _ ah;unfold WData.layable at h1;rw[fA]at h1;have h2:=bI h1.2;have h3:=QD ns n hn;simp only[WData.weight]at h2 h3;exact aH h3 h2
theorem Qm {l:W.OpenLaw}{n k:Nat}{XP:(Str->Option Value)->Heap->Prop}{YP:World->Heap->Prop}{d:DefRec}{K:Params->Fg}{CX:World->CXT}{sp:World->Sp}
  (hn:l.most=some n) (hn2:n<=sizeLine) (hdf:d.params.defaults=[]) (hr:Room k callerA) (hY:∀(w:World) (h:Heap),YP w h->(K w.params).In h)
  (F:∀(w:World) (mg:Mg) (fa:Addr) (h:Heap),(K w.params).In h->h.Ns mainGlobals mg->mg d.name=some (.ref fa) ->
   ∃fd:FuncData,(∀(s:Shared) (u:Value),BindsTo s fd ⟨[u],[]⟩ [(x,u)])/\∀base:Heap,(K w.params).In base->base.Ns mainGlobals mg->FnOk l.prog w (K w.params) mg base (CX w) k fa fd [x] (sp w))
  (LO:∀(w:World) (h:Heap),YP w h->HY (K w.params) h)
  (hsp:∀(w:World) (H:Hp) (a:Addr) (ns:List Int),ns.length<=n->(∀m∈ns,Builtin.Int.intBits m<=2^20)->SqL (K w.params) H a (ns.map V.int)->sp w [.ref a] H (λv _=>v=.bl true) λ_ _ _=>False)
  (hCX:∀(w:World) (H:Hp) (s:Shared) (e:Value) (s':Shared),CX w [] H s (λ_ _ _=>False) e s' -> False):W.WalkO q loose XP YP l.row.toRowW d [] (λf vs=>PySem.call f vs):=by
 intro w s₀ s₁ mg mb G Y fa o pm cd doc dV kV ho hd hcd hD hmg hg args vals as hpre hlay hrd hwl hlo;obtain rfl:dV=.none:=Dflts.none hD hdf;obtain rfl:kV=.none:=Dflts.noKw hD;obtain⟨a,vs,ns,rfl,rfl,hobj,hints,hlen⟩:=Att.script_of hn hpre hwl;have KX:=hY w _ Y;obtain⟨fd,hb,hF⟩:=F w mg fa _ KX G.T.g hmg;refine enter_call (f7 (law_call KX G.T.g G.T.b G.T.builtins G.T.nolimit hg hobj hints (aH hlen hn2) hr (LO w _ Y) G.T.bmain hF hb (λH hS=>hsp w H a ns hlen (λm hm=>UT hlay hm) hS) λH e s'=>hCX w H s₁ e s') λr s' hq=>?_);obtain⟨rfl,h2,h3,h4⟩:=hq;exact⟨.inl ⟨.bool true,.bool true,[],rfl,λ_=>rfl,.bool true,Att.post_true l _,λ_=>⟨List.Pairwise.nil,λ_ hm=>(nomatch hm)⟩⟩,h2,h3,h4⟩
def xF (K:Fg):Sp:=λvs H Q _=>∃(a:Addr) (ns:List Int),vs=[.ref a]/\SqL K H a (ns.map V.int)/\ns.length<=63/\(∀m∈ns,Builtin.Int.intBits m<=2^20)/\∀H',Q (.bl true) H'
end L2
namespace L3
open PySem PySem.Spec PyProof.Rows L2
theorem aab {P:Program}{w:World}{K:Fg}{mg:Mg}{base:Heap}{G:Gx}{k:Nat}{x:Str}{st:Stmt}{N:Ls}{f:Addr}{fd:FuncData}{y:Str}(F:Fun K x x st f fd)(S:FnScope N [y] (defScope st))
  (hbody:∀(cdv:Value) (A:Around) (outer:List Env) (s:Shared) (H:Hp) (E:XK),Room k (A.deeper (envOfC x (defScope st) s.heap.objs.size f cdv)) ->
   ∃fs,PSs (cxOf CX0 P w K mg base N x (defScope st) f cdv A outer s H E).nox (defBody st) (ts K G ER0 fs)/\∀ns:List Int,ns.length<=63->(∀m∈ns,Builtin.Int.intBits m<=2^20)->fs { nx:=λ_=>False,rt:=λp=>p=.bl true } (m9 N [.scr ns])):FnOk P w K mg base CX0 (k+1) f fd [y] (xF K):=by
 refine F.ok S (λvs H Q E h=>?_) λcdv A outer s H vs Q E hr h=>?_
 ·obtain⟨a,ns,rfl,_⟩:=h;rfl
 obtain⟨a,ns,rfl,hS,hl,hb,q⟩:=h;obtain⟨fs,b,c⟩:=hbody cdv A outer s H E hr;have al:lN K G (mn H λ_=>false) [.scr ns] [.ref a]:=⟨_,_,rfl,⟨a,rfl,by rw[M9];exact hS⟩,rfl⟩;refine⟨_,b,⟨H,λ_=>false⟩,m9 N [.scr ns],_,⟨_,uQ (λ_ z=>by cases z) al⟩,c ns hl hb,⟨λ_ _ _ _ h=>h.elim,λv H' p s' a' h=>?_,λ_ _ _ _ _ _ h=>h.elim,λ_ _ _ _ _ h=>h.elim,λ_ _ _ _ h=>h,λ_ _ _ _ h=>h,λ_ _ _ h=>h⟩⟩;subst h;subst a';exact q H'
end L3
namespace FM
open L2
structure Eu (n z b r sb s:Int):Prop where
 r0:0<=r
 rb:r<b
 bz:b<=z
 db:z ∣ b-sb*n
 dr:z ∣ r-s*n
 gc:Int.gcd b r=Int.gcd n z
 sg:(sb<=0/\0<=s)\/(0<=sb/\s<=0)
 id:(s.natAbs:Int)*b+(sb.natAbs:Int)*r=z
theorem Mt (n z:Int):Int.gcd z (n % z)=Int.gcd n z:=by rw[iY,Int.gcd_sub_mul_left_right,Int.gcd_comm]
theorem Eu.start (hz:2<=z):Eu n z z (n % z) 0 1:=by
 refine⟨a9 _ (by lia),aX _ (by lia),Int.le_refl _,?_,?_,Mt n z,.inl ⟨by lia,by lia⟩,?_⟩
 ·rw[bT,aS];exact fj z
 ·rw[cj,iY];exact⟨-(n / z),by rw[iJ];lia⟩
 ·show(1:Int)*z+((0:Int).natAbs:Int)*(n % z)=z;rw[cj];show z+(0:Int)*(n % z)=z;rw[bT];lia
theorem Eu.rest {b r:Int}(h:0<r):b-b / r*r=b % r:=by rw[iY,cf]
theorem Eu.step {n z b r sb s:Int}(h:Eu n z b r sb s)(hr:r≠0):Eu n z r (b-b / r*r) s (sb-b / r*s):=by
 have r0:0<r:=by have:=h.r0;lia
 have q0:0<=b / r:=Int.ediv_nonneg (by have:=h.rb;lia) (by lia);have er:=Eu.rest (b:=b) r0;have abs:((sb-b / r*s).natAbs:Int)=(sb.natAbs:Int)+b / r*(s.natAbs:Int):=by
  rcases h.sg with⟨h1,h2⟩|⟨h1,h2⟩
  ·have e1:0<=b / r*s:=iB q0 h2;have e2:(s.natAbs:Int)=s:=by lia
   rw[e2];lia
  ·have e1:b / r*s<=0:=b7 q0 h2;have e2:(s.natAbs:Int) = -s:=by lia
   rw[e2,iJ];lia
 refine⟨?_,?_,by have:=h.rb;have:=h.bz;lia,h.dr,?_,?_,?_,?_⟩
 ·rw[er];exact a9 _ (by lia)
 ·rw[er];exact aX _ r0
 ·obtain⟨u,hu⟩:=h.db;obtain⟨v,hv⟩:=h.dr;refine⟨u-b / r*v,?_⟩;have e:b-b / r*r-(sb-b / r*s)*n=(b-sb*n)-b / r*(r-s*n):=by rw[fS,cw,bM];lia
  rw[e,hu,hv,cw,gF]
 ·rw[er,<- h.gc,Mt]
 ·rcases h.sg with⟨h1,h2⟩|⟨h1,h2⟩
  ·exact .inr ⟨h2,by have:=iB q0 h2;lia⟩
  ·exact .inl ⟨h2,by have:=b7 q0 h2;lia⟩
 ·rw[abs,<- h.id,eJ,cw,bM,cf (b / r) ((s.natAbs:Int)*r),bM,cf r (b / r)];lia
theorem Eu.end (h:Eu n z b 0 sb s):b=(Int.gcd n z:Int):=by have:=h.gc;rw[Int.gcd_zero_right]at this;have:=h.rb;lia
theorem Eu.one (hz:2<=z)(h:Eu n z b 0 sb s)(h1:b=1):(sb % z*n) % z=1:=by
 have hd:=h.db;rw[h1]at hd;have e:(sb % z*n) % z=(sb*n) % z:=by rw[fk,d9 _ (fj z),<- fk]
 rw[e];have e2:(1-sb*n) % z=0:=bY hd;have e3:=(eu (m:=1) (n:=z) (k:=sb*n)).mpr e2;rw[<- e3];exact bx (by lia) (by lia)
theorem jG.dvd (hp:jG p)(h0:0<d)(h:d ∣ p):d=1\/d=p:=by
 obtain⟨k,hk⟩:=h;have hp2:=hp.1;have k0:0<k:=by
  rcases Int.lt_or_le 0 k with c|c
  ·exact c
  ·have:=b7 (iZ h0) c;lia
 by_cases c1:d=1
 ·exact .inl c1
 ·by_cases c2:k=1
  ·right;rw[hk,c2,bO]
  ·exfalso;rcases Int.le_total d k with c|c
   ·refine hp.2.2 d (by lia) ?_ (bY ⟨k,hk⟩);rw[hk];exact bC c (by lia)
   ·refine hp.2.2 k (by lia) ?_ (bY ⟨d,by rw[hk,cf]⟩);rw[hk,cf d k];exact bC c (by lia)
theorem jG.LQ (hp:jG p)(h:¬b % p=0):Int.gcd b p=1:=by
 have h1:((Int.gcd b p:Nat):Int) ∣ p:=Int.gcd_dvd_right b p;have h2:((Int.gcd b p:Nat):Int) ∣ b:=Int.gcd_dvd_left b p;have h3:0<Int.gcd b p:=Int.gcd_pos_of_ne_zero_right _ (by have:=hp.1;lia);rcases hp.dvd (by lia) h1 with c|c
 ·lia
 ·rw[c]at h2;exact absurd (bY h2) h
end FM
section
open PySem PySem.Spec PyProof.Rows
namespace L3
open L2
inductive Rs where
 |val (p:PV)|err (C:Addr)
def spE (K:Fg)(G:Gx)(pre:List PV->Prop)(F:List PV->Rs):Sp:=λvs H Q E=>∃as O,(∀a,O a=true->H a≠none)/\lN K G (mn H O) as vs/\pre as/\(∀p,F as=.val p->∀v H',Same H H' -> At K G (mn H' O) p v->Q v H')/\∀C,F as=.err C->∀H',Same H H' -> E (.ref C) none H'
structure OkE (P:Program)(w:World)(K:Fg)(mg:Mg)(base:Heap)(k:Nat)(x:Str)(ps:List Str)(sp:Sp):Prop where
 ex:∃f fd,FnOk P w K mg base (Ng P w) k f fd ps sp/\Binds K fd ps []/\W.keepIn K (.ref f)=true/\mg x=some (.ref f)
abbrev erE (E:XK):ER:=λC H=>E (.ref C) none H
section
variable {P:Program}{w:World}{K:Fg}{mg:Mg}{base:Heap}{G:Gx}
theorem okE {x:Str}{st:Stmt}{N ps:Ls}{k:Nat}{pre:List PV->Prop}{F:List PV->Rs}(d:nF K mg x st ps)(S:FnScope N ps (defScope st))(len:∀as,pre as->as.length=ps.length)
  (hbody:∀(f:Addr) (cdv:Value) (A:Around) (outer:List Env) (s:Shared) (H:Hp) (E:XK),Room k (A.deeper (envOfC x (defScope st) s.heap.objs.size f cdv)) ->
   ∃fs,PSs (cxOf (Ng P w) P w K mg base N x (defScope st) f cdv A outer s H E) (defBody st) (ts K G (erE E) fs)/\∀as,pre as->fs { nx:=λ_=>F as=.val .non,rt:=λp=>F as=.val p,rl:=λns=>F as=.val (.ints ns),er:=λC=>F as=.err C } (m9 N as)):OkE P w K mg base (k+1) x ps (spE K G pre F):=by
 obtain⟨f,fd,Fu,b,m⟩:=d.ex;refine⟨f,fd,?_,b,Fu.kp,m⟩;obtain⟨oc,od,kV,doc,pm,an,cdv,ct,osl,rfl,lk,hcd⟩:=Fu.ex;refine fn_of lk hcd S (λvs H Q E h=>?_) λA outer s H vs Q E hr h=>?_
 ·obtain⟨as,O,_,al,hp,_⟩:=h;rw[<- al.length];exact len as hp
 obtain⟨as,O,hd,al,hp,q,qe⟩:=h;obtain⟨fs,b,c⟩:=hbody f cdv A outer s H E hr;refine⟨_,b,⟨H,O⟩,m9 N as,_,⟨O,uQ hd al⟩,c as hp,⟨λσ' H' Z' R' h=>?_,λv H' p s' a' h=>q p h v H' s' a',λa H' ns s' n e h=>?_,λ_ _ _ _ _ h=>h.elim,λ_ _ _ _ h=>h,λ_ _ _ _ h=>h,λH' C s' h=>qe C h H' s'⟩⟩
 ·obtain⟨O',R'⟩:=R';exact q _ h .non H' R'.same rfl
 ·refine q _ h _ H' s' ⟨a,rfl,.inl ?_⟩;rw[qu]
  ·exact e
  ·cases z:O a with
   |false=>rfl
   |true=>exact absurd n (hd a z)
end
section
variable {X:Cx}{G:Gx}{E:XK}{e:Expr}{es:List Expr}{pos p cpos np pos':Pos}{i j k:Nat}{x y:Str}{ps:List Str}{pre:List PV->Prop}{C:En->Prop}{gs:En->List PV}{F:List PV->Rs}{Cc:Addr}
theorem RV (o:OkE X.prog X.w X.K X.mg X.base j x ps sp)(hx:Passes (Ng X.prog X.w) X E)(hr:Room k X.A)(ha:PA X (e::es) t)(hj:j<=k:=by decide)(hg:Gl X x:=by rfl)(hdb:(x == ("__debug__":Str))=false:=by decide)
  (he:starEach (e::es) X.env=(false,eval e X.env)::starEach es X.env:=by rfl) (hpl:(backTo pos (starEach es X.env)).any (·.1)=false:=by rfl):PE X (.Call (.Name x p) (e::es) [] pos) (tCall sp [] E t):=by
 obtain⟨f,fd,F,b,kp,m⟩:=o.ex;exact pe_call (F.mono hj) hr hg m kp b .nil hx ha hdb he hpl
theorem Yc:Passes (Ng X.prog X.w) X E0:=λ_ _ _ _ _ _ _ h=>by obtain⟨_,_,_,_,_,_,_,_,_,q⟩:=h;exact q.elim
def Rs.get:Rs->PV
 | .val p=>p
 | .err _=>.non
def Rs.isV:Rs->Prop
 | .val _=>True
 | .err _=>False
theorem Pn (hn:RL X E)(hc:X.calm=true)(q:Ks X.K Cc)(hg:Gl X x)(hm:X.mg x=some (.ref Cc))(ha:PA X (e::es) (KN X.K G C gs))(hlen:∀Z,(gs Z).length=(e::es).length:=by intro _;rfl)(hz:(e::es).length<=1000:=by decide)
  (hdb:(x == ("__debug__":Str))=false:=by decide) (he:starEach (e::es) X.env=(false,eval e X.env)::starEach es X.env:=by rfl) (hpl:(backTo cpos (starEach (e::es) X.env)).any (·.1)=false:=by rfl) :
  PS X (.Raise (some (.Call (.Name x np) (e::es) [] cpos)) none pos) (ts X.K G (erE E) λP Z=>C Z/\P.er Cc):=
 toS (Qv hn hc q hg hm ha hz hdb he hpl λσ H Q ⟨B,Z,O,R,c,q⟩=>⟨B,Z,O,R,c,λvs H1 s1 a1=>⟨by rw[<- a1.length];exact hlen Z,q vs H1 s1 a1⟩⟩) λB σ H Z O P D R c w=>⟨B,Z,O,R,c.1,λ_ H1 s1 _=>w.er H1 Cc (R.same.trans s1) c.2⟩
end
end L3
namespace L2
structure abX (K:Fg)(C:Addr):Prop where
 hg:W.findIn K (.ref C) "__getattribute__"=some (some (.builtin "BaseException.__getattribute__"))
 hk:W.findIn K (.ref C) "__getattr__"=some none
 hb:W.mroIn K C (.type "BaseException")=some true
 hd:W.hasDictIn K C=true
 ha:W.findIn K (.ref C) "__class__"=some (some (.builtin "object.__class__"))
 hn:W.specialIn K (.builtin "object.__class__") "__get__"=some (some (.builtin "getset_descriptor.__get__"))
 htk:W.takesIn K (.builtin "object.__class__")=some true
 hm:W.mroIn K C (.type "object")=some true
end L2
namespace L3
open L2
mutual
def dat:PV->PyData
 | .int n=>.int n
 | .bl b=>.bool b
 | .non=>.none
 | .str s=>.str s
 | .ints ns=>.list (ns.map PyData.int)
 | .lst xs=>.list (Yz xs)
 | .tup xs=>.tuple (Yz xs)
 |_=>.none
def Yz:List PV->List PyData
 |[]=>[]
 |p::ps=>dat p::Yz ps
end
def eqD (p q:PV):Prop:=PySem.Spec.same (dat p) (dat q)=true
instance (p q:PV):Decidable (eqD p q):=inferInstanceAs (Decidable (_=true))
def tR (K:Fg)(G:Gx)(C:En->Prop)(F:En->Rs)(E:XK):TE:=λσ H Q=>∃B Z O,Rep K G B σ H Z O/\C Z/\(∀p,F Z=.val p->∀v H',Same H H' -> At K G (mn H' O) p v->Q v H')/\∀c,F Z=.err c->∀H',Same H H' -> E (.ref c) none H'
abbrev PR (X:Cx)(G:Gx)(e:Expr)(C:En->Prop)(F:En->Rs):Prop:=∀E,Passes (Ng X.prog X.w) X E->PE X e (tR X.K G C F E)
section
variable {X:Cx}{G:Gx}{Er:ER}{E:XK}{e:Expr}{es:List Expr}{pos p pos':Pos}{i j k l:Nat}{x y n:Str}{ps:List Str}{pre:List PV->Prop}{C:En->Prop}{gs:En->List PV}{g:En->PV}{F:List PV->Rs}{FE:En->Rs}{Cc Cl:Addr}{px py pn hp p1 p2:Pos}
theorem Yy (h:PR X G e C FE):PE X e (tX X.K G (λZ=>C Z/\(FE Z).isV) λZ=>(FE Z).get):=
 λpins s σ H Q I ⟨B,Z,O,R,c,q⟩=>h E0 Yc pins s σ H Q I ⟨B,Z,O,R,c.1,λp hp v H' s a=>q v H' s (by dsimp only;rw[hp];exact a),λcc hcc=>by
  have z:=c.2;rw[hcc]at z;exact z.elim⟩
structure KSz (K:Fg)(G:Gx):Prop where
 sz:∀(H:Hp) (a:Addr) (z:Int),G.ob 0 H a z->∃C dx fs,H a=some (.ins C dx fs)/\Cls K C/\NoAttr K C "size"/\fs.lookup ("size":Str)=some (.int z)
def pvZ:PV->Int
 | .ob _ z=>z
 |_=>0
theorem Fp (hK:KSz X.K G)(he:PE X e (tX X.K G C g))(hb:attributeBase e "size" X.env (eval e X.env)=eval e X.env:=by rfl):PE X (.Attribute e "size" pos) (lY X.K G (λZ=>C Z/\g Z=.ob 0 (pvZ (g Z))) λZ=>pvZ (g Z)):=
 tL (pe_fld he hb) λB σ H Z O Q R c q=>⟨B,Z,O,R,c.1,λv H1 s1 a1=>by
  rw[c.2]at a1;obtain⟨a,rfl,ob⟩:=a1;obtain⟨Ck,dx,fs,e1,e2,e3,e4⟩:=hK.sz _ _ _ ob;exact⟨a,Ck,dx,fs,_,rfl,jM _ _ e1,e2,e3,e4,q _ H1 s1 rfl⟩⟩
def Uh:PV->Bool
 | .non=>true
 |_=>false
theorem K9 [∀Z,Decidable (pb Z)](hm:X.mg "int"=none)(he:PE X e (Qd X.K G C pb))(hg:Gl X "int":=by rfl)(hst:starEach [e] X.env=[(false,eval e X.env)]:=by rfl):PE X (.Call (.Name "int" p) [e] [] pos) (lY X.K G C λZ=>if pb Z then 1 else 0):=
 tL (pe_callTy call_int1 hg hm Ud (pa_cons he pa_nil hst) (by decide) (by decide) hst rfl) λB σ H Z O Q R c q=>⟨B,Z,O,R,c,λv H1 s1 a1=>by
  subst a1;refine .inr ⟨_,rfl,q _ H1 s1 ?_⟩;show V.int (if decide (pb Z)=true then 1 else 0)=V.int (if pb Z then 1 else 0);by_cases d:pb Z
  ·rw[af d,af (aK d)]
  ·rw[ae d,ae (by rw[aI d];decide)]⟩
end
end L3
namespace L2
def aaP (KA:Hp->Addr->Int->Prop)(a:Addr)(z:Int)(n:Nat)(pre:Int->List Int->Prop)(F:Int->List Int->Int ⊕ Addr):Sp:=λvs H Q E=>∃ns:List Int,ns.length=n/\vs=.ref a::ns.map V.int/\KA H a z/\pre z ns/\(∀c,F z ns=.inl c->∀H',Same H H' -> Q (.int c) H')/\∀e,F z ns=.inr e->∀H',Same H H' -> E (.ref e) none H'
structure KME (P:Program)(w:World)(K:Fg)(mg:Mg)(base:Heap)(k:Nat)(KA:Hp->Addr->Int->Prop)(m:Str)(n:Nat)(pre:Int->List Int->Prop)(F:Int->List Int->Int ⊕ Addr):Prop where
 ex:∀H a z,KA H a z->∃C dx fs ps,H a=some (.ins C dx fs)/\fs.lookup m=none/\OkM P w K mg base (Ng P w) k C m ps (aaP KA a z n pre F)
end L2
namespace L3
open L2
def xT:Int ⊕ Addr->Rs
 | .inl c=>.val (.int c)
 | .inr e=>.err e
section
variable {X:Cx}{G:Gx}{a b c e:Expr}{es:List Expr}{pos p px apos:Pos}{C Ca Cb Cc:En->Prop}{ga gc:En->PV}{gs:En->List PV}{i j k n:Nat}{x m:Str}
theorem Ey {KA:Hp->Addr->Int->Prop}{preK:Int->List Int->Prop}{F:Int->List Int->Int ⊕ Addr}{pl:Sem Bool}(i:Nat)(M:KME X.prog X.w X.K X.mg X.base j KA m n preK F)(hr:Room k X.A)(ha:PA X (e::es) (KN X.K G C gs))(hn:∀Z,(gs Z).length=n:=by intro _;rfl)(hG:∀H a z,G.ob 0 H a z->KA H a z:=by first|exact λ_ _ _ h=>h.2|exact λ_ _ _ h=>h.elim (λz=>z.2) λz=>absurd z.1 (by decide))(hGm:∀{H H':Hp} {a:Addr} {z:Int},KA H a z->Same H H' -> KA H' a z:=by first|exact λh s=>KAt.same h s|exact λh s=>h.same s)(hj:j<=k:=by decide)
  (hN:X.N[i]?=some x:=by rfl) (hv:Vis X.env.scope x:=by walk_at "v") (hd:(x == ("__debug__":Str))=false:=by decide) (hcd:(x == ("__classdict__":Str))=false:=by decide)
  (hst:starEach (e::es) X.env=(false,eval e X.env)::starEach es X.env:=by rfl) (hpl:(backTo pos (starEach es X.env)).any (·.1)=false:=by rfl)
  (ht:eval (.Call (.Attribute (.Name x px) m apos) (e::es) [] pos) X.env=(do
   let ov <- eval (.Name x px) X.env
   standAt apos.atName
   let (f,first) <- holding [ov] (getMethod ov m pl)
   callWith pos f first (backTo pos (starEach (e::es) X.env)) (backToKw pos (keywordEach [] X.env))):=by rfl) :
  PR X G (.Call (.Attribute (.Name x px) m apos) (e::es) [] pos) (λZ=>isK Z i/\C Z/\Kr (gs Z)/\preK (JR Z i) (uD (gs Z))) λZ=>xT (F (JR Z i) (uD (gs Z))):=by
 intro E hx pins s σ H Q I h;obtain⟨B,Z,O,R,⟨c0,c1,c2,c3⟩,q,qe⟩:=h;obtain⟨v,e1,a,rfl,ka⟩:=R.fr i _ c0;have ka1:KA H a (JR Z i):=hGm (hG _ _ _ ka) jM;obtain⟨Cl,dx,fs,ps,f1,f2,M'⟩:=M.ex H a _ ka1;obtain⟨f,fd,FF,bb,mm,cc⟩:=M'.ex;refine pe_meth (pe_var hN hv hd hcd) cc mm (FF.mono hj) hr bb .nil hx ha hst hpl ht pins s σ H Q I ⟨_,e1,a,dx,fs,rfl,f1,f2,B,Z,O,R,c1,λvs H1 s1 a1=>?_⟩;have ev:=a1.ints c2;have el:(uD (gs Z)).length=n:=by rw[<- hn Z,a1.length,ev,aa]
 exact⟨uD (gs Z),el,by rw[a8,ev],hGm ka1 s1,c3,λc hc H' s'=>q (.int c) (by dsimp only;rw[hc];rfl) _ H' (s1.trans s') rfl,λer her H' s'=>qe er (by dsimp only;rw[her];rfl) H' (s1.trans s')⟩
end
section
variable {X:Cx}{G:Gx}{a b c e:Expr}{p pos:Pos}{C Ca Cb Cc:En->Prop}{ga gb g:En->PV}{gl:En->List Int}
theorem Qp [∀Z,Decidable (pt Z)](hc:PT X c (uR X.K G Cc pt))(ha:PE X a (tX X.K G Ca ga))(hb:PE X b (tX X.K G Cb gb)):PE X (.IfExp c a b pos) (tX X.K G (λZ=>Cc Z/\(pt Z->Ca Z)/\(¬pt Z->Cb Z)) λZ=>if pt Z then ga Z else gb Z):=
 tL (pe_ifExp hc ha hb) λB σ H Z O Q R c q=>⟨B,Z,O,R,c.1,λH1 s1=>by
  by_cases d:pt Z
  ·rw[aK d];refine iteT ⟨B,Z,O,R.grow s1,c.2.1 d,λv H2 s2 a2=>q v H2 (s1.trans s2) ?_⟩;rw[af d];exact a2
  ·rw[aI d];refine iteF ⟨B,Z,O,R.grow s1,c.2.2 d,λv H2 s2 a2=>q v H2 (s1.trans s2) ?_⟩;rw[ae d];exact a2⟩
end
section
variable {X:Cx}{G:Gx}{Er:ER}{f:FS}{a b c e:Expr}{pos p:Pos}{C Ca Cb Cc Cs:En->Prop}{ga gb gs:En->Str}{gi gj gk:En->Int}{g:En->PV}{i k:Nat}{x:Str}
def u5:PV->PV
 | .tup [a,_]=>a
 |_=>.non
def vQ:PV->PV
 | .tup [_,b]=>b
 |_=>.non
def Yu (q:PV):Prop:=q=.tup [u5 q,vQ q]
theorem Ba {k j:Nat}{x y:Str}{l:Expr}{body:List Stmt}{g:En->List PV}{px py tp:Pos}{kk:Nat}(hp:PassesOwn (model X.prog X.w) X.A X.env X.xe)(hc:X.calm=true)(hl:PE X l (tX X.K G C λZ=>.lst (g Z)))
  (hgt:PG X (.Tuple [.Name x px,.Name y py] kk tp) (gTup X.K 2 (gCons (gName k) (gCons (gName j) gNil)))) (hb:PSs X body (ts X.K G Er f)) (hfs:∀x,foldedSetIterable l X.env x=pure x:=by intro _;rfl) :
  PS X (.For (.Tuple [.Name x px,.Name y py] kk tp) l body [] pos) (ts X.K G Er λP Z=>(C Z/\∀q∈g Z,Yu q)/\∃W:Nat->En->Prop,W 0 Z /\
   (∀i n Z',(g Z)[i]?=some n->W i Z' -> f (P.lp (W (i+1))) ((Z'.set k (.fr (u5 n))).set j (.fr (vQ n))))/\∀Z',W (g Z).length Z' -> P.nx Z'):=
 toS (ps_for hp hc (pi_list hl) hgt hb hfs) λB σ H Z O P D R c w=>by
  obtain⟨⟨c1,c2⟩,W,w0,st,nd⟩:=c;refine⟨B,Z,O,R,c1,λv H1 s1 a1=>?_⟩;obtain⟨a,vs,e,hq,hal⟩:=a1;have R1:=R.grow s1;have w1:=rN R1 w;have el:=hal.length;refine⟨a,e,⟨_,.inl (jw jM hq)⟩,for_list (xs:=vs) (λi σ H=>∃Z',vZ X.K G (B.at H1 O) σ H Z'/\W i Z') ⟨Z,⟨O,R1.rebase⟩,w0⟩ ?_ ?_ ?_⟩
  ·rintro i σ H _ ⟨Z',⟨O',R'⟩,_⟩;exact .inl (jw ((Rep.uW B H1 O).trans R'.same) hq)
  ·rintro i y σ H hy ⟨Z',⟨O',R'⟩,hw⟩;obtain⟨n,en,an⟩:=hal.get hy;have ip:=c2 n (aW en);have an2:=At.mono (R1.seen R') _ _ an;rw[ip]at an2;obtain⟨T,us,rfl,hT,al⟩:=an2;obtain⟨v1,r1,rfl,x1,v2,r2,rfl,x2,rfl⟩:=al;refine⟨T,_,rfl,SqT.of (jM _ _ hT),rfl,_,_,rfl,_,_,rfl,rfl,?_⟩;exact⟨_,_,_,⟨O',(R'.set x1).set x2⟩,st i n Z' en hw,⟨λσ' H' Z' R' h=>⟨Z',R',h⟩,w1.rt,w1.rl,w1.rn,w1.nx,λσ' H' Z' R' h=>⟨Z',R',h⟩,w1.er⟩⟩
  ·rintro σ H ⟨Z',R',hw⟩;rw[<- el]at hw;exact w1.nx σ H Z' R' (nd Z' hw)
end
section
variable {X:Cx}{G:Gx}{Er:ER}{N':List Str}{sc:Scope}{cl:List (Str×Addr)}{cap:List (Option Nat)}{el tg src:Expr}{at' spos px:Pos}{Cs Cb Ca C2 Cc:En->Prop}{gs:En->List Int}{ga gb gc gi:En->Int}{gp:En->PV}{i:Nat}{x:Str}{a b c:Expr}
theorem Rn {t:TE}{st:Stmt}{C:En->Prop}{g:En->List PV}(h:PS X st (tAsg t (gName i)))(k:∀σ H Q,yV X.K G C g σ H Q->t σ H Q):PS X st (ts X.K G Er λP Z=>C Z/\∀ns,ns=g Z->P.nx (Z.set i (.fr (.lst ns)))):=
 toS h λB σ H Z O P D R c w=>k σ H _ ⟨B,Z,O,R,c.1,λa vs H1 s1 n1 e1 al=>w.nx _ H1 _ ⟨O,(R.grow s1).set (p:=.lst _) ⟨a,vs,rfl,.inl (by
  rw[qu]
  ·exact e1
  ·cases z:O a with
   |false=>rfl
   |true=>exact absurd n1 (R.dom a z)),by
  refine lN.mono ?_ _ _ al;exact qU qM⟩⟩ (c.2 _ rfl)⟩
end
def ab0 (q:PV):Prop:=∃g o,q=.tup [.ints g,.int o]
section
variable {X:Cx}{G:Gx}{Er:ER}{a b c e:Expr}{pos p:Pos}{C Ca:En->Prop}{gl:En->List Int}{g:En->PV}{gp:En->List PV}{i:Nat}{x:Str}{px pa pc:Pos}
def aa9 (Z:En)(i:Nat):Prop:=Z[i]?=some (.ow (.lst (rP (Oz Z i))))
theorem uz (i:Nat)(he:PE X e (tX X.K G C g))(hN:X.N[i]?=some x:=by rfl)(hv:Vis X.env.scope x:=by walk_at "v")
  (hd:(x == ("__debug__":Str))=false:=by decide) (hcd:(x == ("__classdict__":Str))=false:=by decide)
  (hbase:attributeBase (.Name x px) "append" X.env (eval (.Name x px) X.env)=eval (.Name x px) X.env:=by rfl)
  (hfew:((backTo pc (starEach (e::[]) X.env)).all (λx=>!x.1) && (backToKw pc (keywordEach [] X.env)).all (λx=>x.1.isSome)
   && decide ((e::[]).length+([]:List Keyword).length+(if ([]:List Keyword).isEmpty then 0 else 1)<30))=true:=by rfl)
  (hline:(pa.endLine == pc.line)=true:=by rfl) (hs:starEach (e::[]) X.env=(false,eval e X.env)::starEach [] X.env:=by rfl) (hplain:(backTo pc (starEach [] X.env)).any (·.1)=false:=by rfl)
  (hsw:swapsWith (.Call (.Attribute (.Name x px) "append" pa) [e] [] pc) none pos.line X.env=pure false:=by rfl) :
  PS X (.Expr (.Call (.Attribute (.Name x px) "append" pa) [e] [] pc) pos) (ts X.K G Er λP Z=>aa9 Z i/\C Z/\(rP (Oz Z i)).length<sizeLine/\P.nx (Z.set i (.ow (.lst (rP (Oz Z i)++[g Z]))))):=
 toS (ps_expr (pe_bm dz gC gD mt_append (pe_var hN hv hd hcd) (pa_cons he pa_nil hs) hbase hfew hline hs hplain) hsw) λB σ H Z O P D R c w=>by obtain⟨c0,c1,c2,c3⟩:=c;obtain⟨a,vs,e1,e2,e3,e4,e5⟩:=R.ow i _ c0;have el:=e5.length;refine⟨_,e1,.inl ⟨rfl,_,SqL.of e4⟩,B,Z,O,R,c1,λv H1 s1 a1=>?_⟩;refine⟨a,_,_,rfl,rfl,s1 _ _ e4,by rw[<- el];exact c2,w.nx σ _ _ ⟨O,(R.grow s1).change c0 e1 (p':=.lst (rP (Oz Z i)++[g Z])) ?_⟩ c3⟩;exact lN.snoc (lN.mono (lA s1) _ _ e5) a1
end
section
variable {K:Fg}{G:Gx}{σ:L2.St}{H:Hp}{Q:VK}{Cs Cb:En->Prop}{gp:En->PV}{cap:List (Option Nat)}
theorem aaj {gl:En->List PV}(h:yV K G (λZ=>Cs Z/\(gl Z).length<=1000/\∀q∈gl Z,Cb ((jC (none::cap) Z).set 0 (.fr q))) (λZ=>(gl Z).map λq=>gp ((jC (none::cap) Z).set 0 (.fr q))) σ H Q) :
  Su (none::cap) (iList K (tX K G Cs λZ=>.lst (gl Z))) (gName 0) ue (tX K G Cb gp) σ H Q:=by
 obtain⟨B,Z,O,R,⟨c1,c2,c4⟩,q⟩:=h;refine⟨B,Z,O,R,c1,λv H1 s1 a1=>?_⟩;obtain⟨a,vs,rfl,hq,hal⟩:=a1;have hq1:SqL K H1 a vs:=.inl (jw jM hq);have el:=hal.length;have R1:=R.grow s1;refine⟨a,rfl,⟨_,hq1⟩,λD hD=>?_⟩;have one:∀i n,(gl Z)[i]?=some n->At K G (mn H1 O) n (vs.getD i .non):=λi n en=>by
  have hi:i<vs.length:=by rw[<- el];exact(aj.mp en).1
  obtain⟨n',en',an⟩:=hal.get (ac hi);rw[en]at en';cases en';rw[gQ,ac hi];exact an
 obtain⟨items,hit⟩:∃items:List (Nat×PV),items=(gl Z).zipIdx.map λz=>(z.2,z.1):=⟨_,rfl⟩;have hlen:items.length=(gl Z).length:=by rw[hit,aa,List.length_zipIdx]
 have hat:∀(i:Nat) (it:Nat×PV),items[i]?=some it->it.1=i/\(gl Z)[i]?=some it.2:=λi it e=>by
  rw[hit,aw,ij]at e;cases eg:(gl Z)[i]? with
  |none=>rw[eg]at e;cases e
  |some n=>rw[eg]at e;have e:=aB e;subst e;exact⟨hU i,rfl⟩
 have hmem:∀it∈items,(gl Z)[it.1]?=some it.2:=λit hm=>by obtain⟨i,e⟩:=List.mem_iff_getElem?.mp hm;obtain⟨h1,h2⟩:=hat i it e;rw[h1];exact h2
 have hmap:items.map (λit=>gp ((jC (none::cap) Z).set 0 (.fr it.2)))=(gl Z).map λq=>gp ((jC (none::cap) Z).set 0 (.fr q)):=by
  refine dS λi=>?_;rw[aw,aw];by_cases c:i<(gl Z).length
  ·have c':i<items.length:=by lia
   obtain⟨h1,h2⟩:=hat i items[i] (ac c');rw[ac c',h2];rfl
  ·rw[bG (show items.length<=i by lia),bG (show(gl Z).length<=i by lia)];rfl
 refine sE items (λ_ v=>(pI (none::cap) σ).set 0 (some v)) (λit=>(jC (none::cap) Z).set 0 (.fr it.2)) (λit=>vs.getD it.1 .non) R1 hD (by rw[hlen];exact c2)
  (λi H hi s=>⟨vs,vs[i]'(by rw[<- el,<- hlen];exact hi),s.seq hq1,by rw[ac]⟩) ?_ (λH s=>⟨_,s.seq hq1,by rw[hlen,el];exact ao _⟩) (λit H hm s R'=>?_) ?_ ?_ ?_
 ·rintro i it x H H' en s ⟨rfl,hx⟩;obtain⟨h1,h2⟩:=hat i it en;have e3:=hx _ (s.seq hq1);refine⟨Same.refl _,λkk hk=>?_⟩;rw[h1,gQ,e3]at hk;exact hk
 ·exact R'.set (At.mono (lX (O:=O) s hD) _ _ (one _ _ (hmem it hm)))
 ·intro it;exact mQ _
 ·intro it hm;exact c4 it.2 (aW (hmem it hm))
 ·intro H' ys s hd al;refine q D ys H' (s1.trans s) (s1.free hD) hd ?_;rw[hmap]at al;exact al
end
section
variable {X:Cx}{G:Gx}{Er:ER}{N':List Str}{sc:Scope}{cl:List (Str×Addr)}{cap:List (Option Nat)}{el tg src:Expr}{at' spos px:Pos}{Cs Cb:En->Prop}{gn gi:En->Int}{gp:En->PV}{gl:En->List PV}{i:Nat}{x:Str}
theorem Y6 (L:vG X N' sc cl (none::cap))(hc:X.calm=true)(hi:PE X src (tX X.K G Cs λZ=>.lst (gl Z)))(hg:∀s H fp,PG (jB X N' sc cl s H fp) tg (gName 0))(he:∀s H fp,PE (jB X N' sc cl s H fp) el (tX X.K G Cb gp))(hs:∀x,foldedSetIterable src X.env x=pure x:=by intro _;rfl) :
  PE X (.ListComp el [⟨tg,src,[],0⟩] sc at') (yV X.K G (λZ=>Cs Z/\(gl Z).length<=1000/\∀q∈gl Z,Cb ((jC (none::cap) Z).set 0 (.fr q))) λZ=>(gl Z).map λq=>gp ((jC (none::cap) Z).set 0 (.fr q))):=
 λpins s σ H Q I h=>yo L hc (pi_list hi) hg (λ_ _ _=>qg) he hs pins s σ H Q I (aaj h)
theorem Zv (L:vG X N' sc cl (none::cap))(hc:X.calm=true)(hgl:Gl X "range")(hm:X.mg "range"=none)(hi:PE X src (lY X.K G Cs gn))(hg:∀s H fp,PG (jB X N' sc cl s H fp) tg (gName 0))(he:∀s H fp,PE (jB X N' sc cl s H fp) el (tX X.K G Cb gp))
  (hst:starEach [src] X.env=[(false,eval src X.env)]:=by rfl) (hs:∀x,foldedSetIterable (.Call (.Name "range" p) [src] [] pos') X.env x=pure x:=by intro _;rfl) :
  PE X (.ListComp el [⟨tg,.Call (.Name "range" p) [src] [] pos',[],0⟩] sc at') (yV X.K G (λZ=>Cs Z/\(0<=gn Z/\gn Z<=1000)/\∀k:Nat,k<(gn Z).toNat->Cb ((jC (none::cap) Z).set 0 (.fr (.int k)))) λZ=>(List.range (gn Z).toNat).map λ(k:Nat)=>gp ((jC (none::cap) Z).set 0 (.fr (.int k)))):=
 λpins s σ H Q I h=>yo L hc (pi_range1 hgl hm (pa_cons hi pa_nil hst) hst) hg (λ_ _ _=>qg) he hs pins s σ H Q I (aa3 h)
end
section
variable {K:Fg}{G:Gx}{H:Hp}
theorem Hn:∀{ps:List PV} {vs:List V},lN K G H ps vs->∀k:Nat,lN K G H (ps.drop k) (vs.drop k)
 |_,_,h,0=>h
 |[],_,h,k+1=>by rw[h];rfl
 |p::r,_,h,k+1=>by obtain⟨u,t,rfl,e,z⟩:=h;exact Hn z k
theorem Ij:∀{ps:List PV} {vs:List V},lN K G H ps vs->∀k:Nat,lN K G H (ps.take k) (vs.take k)
 |_,_,_,0=>rfl
 |[],_,h,k+1=>by rw[h];rfl
 |p::r,_,h,k+1=>by obtain⟨u,t,rfl,e,z⟩:=h;exact⟨u,t.take k,rfl,e,Ij z k⟩
end
section
variable {X:Cx}{G:Gx}{Er:ER}{a b e:Expr}{pos p px:Pos}{C Ca Cb:En->Prop}{gb:En->Int}{g:En->PV}{gp:En->List PV}{i:Nat}{x:Str}
def qZ (xs:List PV)(lo hi:Option Int):List PV:=(xs.drop (HT.sIx xs.length 0 lo)).take (HT.sIx xs.length xs.length hi-HT.sIx xs.length 0 lo)
theorem z7 {lo hi:Option Expr}{Cl Ch:En->Prop}{gl gh:En->Option Int}(ha:PE X a (tX X.K G C λZ=>.lst (gp Z)))(hl:PO X lo (VL X.K G Cl gl))(hh:PO X hi (VL X.K G Ch gh)) :
  PE X (.Subscript a (.Slice lo hi none p2) pos) (yV X.K G (λZ=>C Z/\Cl Z/\Ch Z) λZ=>qZ (gp Z) (gl Z) (gh Z)):=
 λpins s σ H Q I ⟨B,Z,O,R,c,q⟩=>pe_slice sl_list ha hl hh pins s σ H Q I ⟨B,Z,O,R,c.1,λv H1 s1 a1=>⟨B,Z,O,R.grow s1,c.2.1,λH2 s2=>⟨B,Z,O,(R.grow s1).grow s2,c.2.2,λH3 s3=>by
  obtain⟨l,vs,rfl,r,al⟩:=a1;have al3:=lN.mono (lA (s2.trans s3)) _ _ al;have ell:=al.length;refine⟨l,_,rfl,(s2.trans s3).seq (.inl (jw jM r)),λy hy=>q y _ _ (((s1.trans s2).trans s3).trans (same_new hy _)) (((s1.trans s2).trans s3).free hy) upd_same (lN.mono (lX (same_new hy _) hy) _ _ ?_)⟩;show lN X.K G (mn H3 O) (qZ (gp Z) (gl Z) (gh Z)) (cutV vs (gl Z) (gh Z));unfold qZ cutV;rw[ell];exact Ij (Hn al3 _) _⟩⟩⟩
end
def RW (C:Addr):Sp:=λvs H Q _=>∃(x dx:Addr) (p:Int),vs=[.ref x,.int p]/\FM.jG p/\H x=some (.ins C dx [])/\Q .non (upd H x (.ins C dx [("size",.int p)]))
def KR (cR:Addr)(H:Hp)(a:Addr)(z:Int):Prop:=0<z/\∃dx fs,H a=some (.ins cR dx fs)/\fs.lookup ("size":Str)=some (.int z)/\∀m∈Be,fs.lookup m=none
theorem KR.same (k:KR cR H a z)(s:Same H H'):KR cR H' a z:=by obtain⟨e0,dx,fs,e,r⟩:=k;exact⟨e0,dx,fs,s _ _ e,r⟩
def pQ (cR:Addr):Gx:=⟨λk H a z=>k=0/\KR cR H a z,λ_ _ _ _ _ s h=>⟨h.1,h.2.same s⟩⟩
theorem gkR (H:Hp)(a dx:Addr)(p:Int)(hp:FM.jG p)(h:H a=some (.ins cR dx [("size",.int p)])):(pQ cR).ob 0 H a p:=by
 have hm:∀m∈Be,List.lookup m [("size",V.int p)]=none:=λm hm=>by
  have key:∀m∈Be,(m == ("size":Str))=false:=by decide +kernel
  rw[List.lookup_cons,key m hm];rfl
 exact⟨rfl,by have:=hp.1;lia,dx,_,h,rfl,hm⟩
section
variable {X:Cx}{G:Gx}{pos p:Pos}{j k:Nat}{x y:Str}{C:Addr}{e:Expr}{Ca:En->Prop}{ga:En->Int}
theorem abv (o:OkI X.prog X.w X.K X.mg X.base CX0 j x C ["self",y] (RW C))(hr:Room k X.A)(hG:∀(H:Hp) (a dx:Addr) (p:Int),FM.jG p->H a=some (.ins C dx [("size",.int p)])->G.ob 0 H a p)(ha:PE X e (lY X.K G Ca ga))(hj:j+1<=k:=by decide)(hg:Gl X x:=by rfl)(hdb:(x == ("__debug__":Str))=false:=by decide)
  (he:starEach [e] X.env=[(false,eval e X.env)]:=by rfl) (hpl:(backTo pos (starEach [] X.env)).any (·.1)=false:=by rfl):PE X (.Call (.Name x p) [e] [] pos) (tX X.K G (λZ=>Ca Z/\FM.jG (ga Z)) λZ=>.ob 0 (ga Z)):=
 tL (QS o hr pass0 (pa_cons ha pa_nil he) hj hg hdb he hpl) λB σ H Z O Q R c q=>⟨B,Z,O,R,c.1,λv H1 s1 a1=>λy dx hy hd hne=>by
  subst a1;refine⟨y,dx,ga Z,rfl,c.2,upd_same,rfl,q (.ref y) _ (s1.trans (W5 hy hd)) ⟨y,rfl,hG _ _ dx _ c.2 ?_⟩⟩;rw[Vi (R.grow s1).dom hy];exact upd_same⟩
end
def jm (t:List (List Int)):PV:=.lst (t.map PV.ints)
section
variable {X:Cx}{G:Gx}{Er:ER}{a b e:Expr}{pos p px apos kp pz:Pos}{C Ca Cb:En->Prop}{gl:En->List Int}{gp hp:En->List PV}{g:En->PV}{i j k:Nat}{x:Str}
def YL:PV->Prop
 | .non=>True
 | .int _=>True
 |_=>False
theorem WN (he:PE X e (tX X.K G C g)):PT X (.Compare e [.IsNot] [.Constant .none k2 p] pos) (uR X.K G (λZ=>C Z/\YL (g Z)) λZ=>¬Uh (g Z)=true):=
 λpins s σ H Q I ⟨B,Z,O,R,c,q⟩=>pt_cmpR op_notN he pe_non (nomark _) pins s σ H Q I ⟨B,Z,O,R,c.1,λv H1 s1 a1=>⟨rfl,_,rfl,by
  have z:=q H1 s1;have key:(!decide (v=V.non))=decide (¬Uh (g Z)=true):=by
   have h:=c.2;revert a1 h;generalize g Z=pg;intro a1 h;cases pg<;>first|exact h.elim|skip
   ·rw[a1];rfl
   ·rw[a1];rfl
  rw[key];exact z⟩⟩
theorem Bh {K:Fg}{H:Hp}:∀{ps qs:List PV} {vs us:List V},lN K G H ps vs->lN K G H qs us->lN K G H (ps++qs) (vs++us)
 |[],_,_,_,h,k=>by rw[h];exact k
 |p::r,_,_,_,h,k=>by obtain⟨u,t,rfl,e,z⟩:=h;exact⟨u,_,rfl,e,Bh z k⟩
theorem Jq (ha:PE X a (tX X.K G Ca λZ=>.lst (gp Z)))(hb:PE X b (tX X.K G Cb λZ=>.lst (hp Z))):PE X (.BinOp a .Add b pos) (yV X.K G (λZ=>Ca Z/\Cb Z/\(gp Z).length+(hp Z).length<=sizeLine) λZ=>gp Z++hp Z):=
 λpins s σ H Q I ⟨B,Z,O,R,c,q⟩=>pe_op K8 ha hb pins s σ H Q I (two R c.1 c.2.1 λv u H1 H2 s1 s2 a1 a2=>by
  obtain⟨l,vs,rfl,r1,al1⟩:=a1;obtain⟨b,us,rfl,r2,al2⟩:=a2;have l1:=al1.length;have l2:=al2.length;refine⟨l,b,_,_,rfl,rfl,jw jM r1,jw jM r2,by rw[<- l1,<- l2];exact c.2.2,λp hp=>q p _ _ ((s1.trans s2).trans (same_new hp _)) ((s1.trans s2).free hp) upd_same ?_⟩;exact lN.mono (lX (same_new hp _) hp) _ _ (Bh al1 al2))
theorem aac (he:PE X e (tX X.K G C λZ=>.lst (gp Z)))(ht:∀whole,isTrue e X.env whole=(do let v <- whole;standAt e.pos;holding [v] (truthy v)):=by intro _;rfl):PT X e (uR X.K G C λZ=>¬gp Z=[]):=
 λpins s σ H Q I ⟨B,Z,O,R,c,q⟩=>pt_truth he ht pins s σ H Q I ⟨B,Z,O,R,c,λv H1 s1 a1=>by
  obtain⟨l,vs,rfl,hq,al⟩:=a1;refine⟨_,.inl ⟨_,.inl (jw jM hq),rfl⟩,?_⟩;have z:=q H1 s1;have ll:=al.length;have e:(!vs.isEmpty)=decide (¬gp Z=[]):=by
   cases hg:gp Z with
   |nil=>rw[hg]at ll;have:vs=[]:=dA.mp ll.symm;rw[this];simp
   |cons a r=>
    rw[hg]at ll;cases vs with
    |nil=>cases ll
    |cons b t=>simp
  rw[e];exact z⟩
end
section
variable {K:Fg}{G:Gx}{σ:L2.St}{H:Hp}{Q:VK}{Cs Cs' Cb Ct:En->Prop}{pt:En->Prop}[∀Z,Decidable (pt Z)]{gp:En->PV}{cap:List (Option Nat)}{gl hl:En->List PV}
theorem vY (hal:lN K G (mn H1 O) ps vs)(h:i<ps.length):At K G (mn H1 O) (ps.getD i .non) (vs.getD i .non):=by
 have el:=hal.length;have hi:i<vs.length:=by lia
 obtain⟨n',en',an⟩:=hal.get (ac hi);rw[gQ,gQ,en',ac hi];exact an
theorem K5 {α β γ:Type}(f:α->β->γ)(a:α)(b:β)(l:List α)(m:List β):(List.range (min l.length m.length)).map (λi=>f (l.getD i a) (m.getD i b))=(l.zip m).map λp=>f p.1 p.2:=by
 refine dS λi=>?_;rw[aw,aw];by_cases c:i<min l.length m.length
 ·have c1:i<l.length:=by lia
  have c2:i<m.length:=by lia
  have ez:(l.zip m)[i]?=some (l[i],m[i]):=by rw[ac (by rw[dq];exact c),gT]
  rw[cg c,ez];simp only[dJ,gQ,ac c1,ac c2,eH]
 ·rw[bG (by rw[aq];lia),bG (by rw[dq];lia)];rfl
theorem aax (h:yV K G (λZ=>(Cs Z/\Cs' Z)/\(gl Z).length<=1000/\∀q r,(q,r)∈(gl Z).zip (hl Z)->Cb (((jC (none::none::cap) Z).set 0 (.fr q)).set 1 (.fr r)))
   (λZ=>((gl Z).zip (hl Z)).map λp=>gp (((jC (none::none::cap) Z).set 0 (.fr p.1)).set 1 (.fr p.2))) σ H Q) :
  Su (none::none::cap) (Vg K (tCons (tX K G Cs λZ=>.lst (gl Z)) (tCons (tX K G Cs' λZ=>.lst (hl Z)) tNil))) (gTup K 2 (gCons (gName 0) (gCons (gName 1) gNil))) ue (tX K G Cb gp) σ H Q:=by
 obtain⟨B,Z,O,R,⟨⟨c1,c1'⟩,c2,c3⟩,q⟩:=h;refine⟨B,Z,O,R,c1,λv H1 s1 a1=>⟨B,Z,O,R.grow s1,c1',λu H2 s2 a2=>?_⟩⟩;obtain⟨a,vs,rfl,hq,hal⟩:=a1;obtain⟨b,us,rfl,hq',hal'⟩:=a2;have hal:=lN.mono (lA (O:=O) s2) _ _ hal;have hq1:SqL K H2 a vs:=.inl (jw s2 (jw jM hq));have hq2:SqL K H2 b us:=.inl (jw jM hq');have el:=hal.length;have el':=hal'.length;refine⟨a,b,rfl,⟨_,hq1⟩,⟨_,hq2⟩,λD hD=>?_⟩;have hz:(List.range (min (gl Z).length (hl Z).length)).length=min (gl Z).length (hl Z).length:=aq;have at1:∀i,i<(List.range (min (gl Z).length (hl Z).length)).length->i<vs.length/\i<us.length:=λi h=>by rw[hz]at h;lia
 refine sE (List.range (min (gl Z).length (hl Z).length)) (λi _=>((pI (none::none::cap) σ).set 0 (some (vs.getD i .non))).set 1 (some (us.getD i .non))) (λi=>((jC (none::none::cap) Z).set 0 (.fr ((gl Z).getD i .non))).set 1 (.fr ((hl Z).getD i .non))) (λ_=>.non) ((R.grow s1).grow s2) hD (by rw[hz];lia)
  (λi H hi s=>⟨_,_,vs[i]'(at1 i hi).1,us[i]'(at1 i hi).2,s.seq hq1,s.seq hq2,by rw[ac],by rw[ac]⟩) ?_ (λH s=>⟨_,_,s.seq hq1,s.seq hq2,by rw[hz];lia⟩) (λi H hi s R'=>?_) ?_ ?_ ?_
 ·rintro i k x H H' en s ⟨T,y,y',rfl,hT,rfl,hx,hx'⟩;have hx:=hx _ (s.seq hq1);have hx':=hx' _ (s.seq hq2);have hlt:i<min (gl Z).length (hl Z).length:=by have:=(aj.mp en).1;rw[hz]at this;exact this
  rw[cg hlt]at en;cases en;refine⟨same_new hT _,λkk hk=>⟨T,_,rfl,SqT.of upd_same,rfl,_,_,rfl,_,_,rfl,rfl,?_⟩⟩;rw[gQ,gQ,hx,hx']at hk;exact hk
 ·have hi:=aY.mp hi;exact(R'.set (At.mono (lX (O:=O) s hD) _ _ (vY hal (by lia)))).set (At.mono (lX (O:=O) s hD) _ _ (vY hal' (by lia)))
 ·intro i;exact mQ _
 ·intro i hi;have hi:=aY.mp hi;refine c3 _ _ ?_;rw[gQ,gQ,ac (show i<(gl Z).length by lia),ac (show i<(hl Z).length by lia)];refine b8.mpr ⟨i,by rw[dq];exact hi,?_⟩;rw[gT];rfl
 ·intro H' ys s hd al;refine q D ys H' ((s1.trans s2).trans s) ((s1.trans s2).free hD) hd ?_;rw[K5 (λp r=>gp (((jC (none::none::cap) Z).set 0 (.fr p)).set 1 (.fr r)))]at al;exact al
theorem VB {α γ:Type}(f:Nat->α->γ)(a:α)(l:List α):(List.range l.length).map (λi=>f i (l.getD i a))=l.mapIdx f:=by
 refine dS λi=>?_;rw[aw,b9];by_cases c:i<l.length
 ·rw[cg c];simp only[dJ,gQ,ac c,eH]
 ·rw[bG (by rw[aq];lia),bG (by lia)];rfl
theorem Z2 (h:yV K G (λZ=>Cs Z/\(gl Z).length<=1000/\∀(i:Nat) (q:PV),(gl Z)[i]?=some q->Cb (((jC (none::none::cap) Z).set 0 (.fr (.int i))).set 1 (.fr q)))
   (λZ=>(gl Z).mapIdx λi p=>gp (((jC (none::none::cap) Z).set 0 (.fr (.int i))).set 1 (.fr p))) σ H Q) :
  Su (none::none::cap) (Ql K (tCons (tX K G Cs λZ=>.lst (gl Z)) tNil)) (gTup K 2 (gCons (gName 0) (gCons (gName 1) gNil))) ue (tX K G Cb gp) σ H Q:=by
 obtain⟨B,Z,O,R,⟨c1,c2,c3⟩,q⟩:=h;refine⟨B,Z,O,R,c1,λv H1 s1 a1=>?_⟩;obtain⟨a,vs,rfl,hq,hal⟩:=a1;have hq1:SqL K H1 a vs:=.inl (jw jM hq);have el:=hal.length;refine⟨a,rfl,⟨_,hq1⟩,λD hD=>?_⟩;have hz:(List.range (gl Z).length).length=(gl Z).length:=aq;refine sE (List.range (gl Z).length) (λ(i:Nat) _=>((pI (none::none::cap) σ).set 0 (some (.int i))).set 1 (some (vs.getD i .non))) (λ(i:Nat)=>((jC (none::none::cap) Z).set 0 (.fr (.int i))).set 1 (.fr ((gl Z).getD i .non))) (λ_=>.non) (R.grow s1) hD (by rw[hz];lia)
  (λi H hi s=>⟨_,vs[i]'(by rw[hz]at hi;lia),s.seq hq1,by rw[ac]⟩) ?_ (λH s=>⟨_,s.seq hq1,by rw[hz,el];exact ao _⟩) (λi H hi s R'=>?_) ?_ ?_ ?_
 ·rintro i k x H H' en s ⟨T,y,rfl,hT,rfl,hx⟩;have hx:=hx _ (s.seq hq1);have hlt:i<(gl Z).length:=by have:=(aj.mp en).1;rw[hz]at this;exact this
  rw[cg hlt]at en;cases en;refine⟨same_new hT _,λkk hk=>⟨T,_,rfl,SqT.of upd_same,rfl,_,_,rfl,_,_,rfl,rfl,?_⟩⟩;rw[gQ,hx]at hk;exact hk
 ·have hi:=aY.mp hi;exact(R'.set (p:=.int i) rfl).set (At.mono (lX (O:=O) s hD) _ _ (vY hal hi))
 ·intro i;exact mQ _
 ·intro i hi;have hi:=aY.mp hi;refine c3 i _ ?_;rw[gQ,ac hi];rfl
 ·intro H' ys s hd al;refine q D ys H' (s1.trans s) (s1.free hD) hd ?_;rw[VB (λ(i:Nat) p=>gp (((jC (none::none::cap) Z).set 0 (.fr (.int i))).set 1 (.fr p)))]at al;exact al
end
section
variable {X:Cx}{G:Gx}{Er:ER}{N':List Str}{sc:Scope}{cl:List (Str×Addr)}{cap:List (Option Nat)}{el tg src tst l l2:Expr}{at' spos px p pos':Pos}{Cs Cs' Ct Cb:En->Prop}{pt:En->Prop}[∀Z,Decidable (pt Z)]{gp:En->PV}{gl hl:En->List PV}{i:Nat}{x:Str}
theorem Dt (hN:X.N.Nodup)(hi':X.N[i]?=some x)(hx:X.env.scope.names.lookup x=some .local)(L:vG X N' sc cl (none::cap))(hc:X.calm=true)(hi:PE X src (tX X.K G Cs λZ=>.lst (gl Z)))(hg:∀s H fp,PG (jB X N' sc cl s H fp) tg (gName 0))(he:∀s H fp,PE (jB X N' sc cl s H fp) el (tX X.K G Cb gp))
  (hsw:swapsWith (.ListComp el [⟨tg,src,[],0⟩] sc at') (some (.Name x px)) spos.line X.env=pure true) (hs:∀x,foldedSetIterable src X.env x=pure x:=by intro _;rfl) :
  PS X (.Assign [.Name x px] (.ListComp el [⟨tg,src,[],0⟩] sc at') spos) (ts X.K G Er λP Z=>(Cs Z/\(gl Z).length<=1000/\∀q∈gl Z,Cb ((jC (none::cap) Z).set 0 (.fr q)))/\∀ns,ns=((gl Z).map λq=>gp ((jC (none::cap) Z).set 0 (.fr q)))->P.nx (Z.set i (.fr (.lst ns)))):=
 Rn (Rz hN hi' hx L hc (pi_list hi) hg (λ_ _ _=>qg) he hsw hs) λσ H Q h=>aaj h
theorem Jz (hN:X.N.Nodup)(hi':X.N[i]?=some x)(hx:X.env.scope.names.lookup x=some .local)(L:vG X N' sc cl (none::none::cap))(hc:X.calm=true)(hgl:Gl X "zip")(hm:X.mg "zip"=none)(h1:PE X l (tX X.K G Cs λZ=>.lst (gl Z)))(h2:PE X l2 (tX X.K G Cs' λZ=>.lst (hl Z)))(hg:∀s H fp,PG (jB X N' sc cl s H fp) (.Tuple els kk tp) (gTup X.K 2 (gCons (gName 0) (gCons (gName 1) gNil))))(he:∀s H fp,PE (jB X N' sc cl s H fp) el (tX X.K G Cb gp))
  (hsw:swapsWith (.ListComp el [⟨.Tuple els kk tp,.Call (.Name "zip" p) [l,l2] [] pos',[],0⟩] sc at') (some (.Name x px)) spos.line X.env=pure true) (hst:starEach [l,l2] X.env=(false,eval l X.env)::starEach [l2] X.env:=by rfl) (hst2:starEach [l2] X.env=[(false,eval l2 X.env)]:=by rfl) (hpl:(backTo pos' (starEach [l2] X.env)).any (·.1)=false:=by rfl) (hfs:∀x,foldedSetIterable (.Call (.Name "zip" p) [l,l2] [] pos') X.env x=pure x:=by intro _;rfl) :
  PS X (.Assign [.Name x px] (.ListComp el [⟨.Tuple els kk tp,.Call (.Name "zip" p) [l,l2] [] pos',[],0⟩] sc at') spos) (ts X.K G Er λP Z=>((Cs Z/\Cs' Z)/\(gl Z).length<=1000/\∀q r,(q,r)∈(gl Z).zip (hl Z)->Cb (((jC (none::none::cap) Z).set 0 (.fr q)).set 1 (.fr r)))/\∀ns,ns=(((gl Z).zip (hl Z)).map λp=>gp (((jC (none::none::cap) Z).set 0 (.fr p.1)).set 1 (.fr p.2)))->P.nx (Z.set i (.fr (.lst ns)))):=
 Rn (Rz hN hi' hx L hc (Ke hgl hm (pa_cons h1 (pa_cons h2 pa_nil hst2) hst) hst hpl) hg (λ_ _ _=>qg) he hsw hfs) λσ H Q h=>aax h
theorem MT (L:vG X N' sc cl (none::none::cap))(hc:X.calm=true)(hgl:Gl X "enumerate")(hm:X.mg "enumerate"=none)(hi:PE X src (tX X.K G Cs λZ=>.lst (gl Z)))(hg:∀s H fp,PG (jB X N' sc cl s H fp) (.Tuple els kk tp) (gTup X.K 2 (gCons (gName 0) (gCons (gName 1) gNil))))(he:∀s H fp,PE (jB X N' sc cl s H fp) el (tX X.K G Cb gp))
  (hst:starEach [src] X.env=[(false,eval src X.env)]:=by rfl) (hfs:∀x,foldedSetIterable (.Call (.Name "enumerate" p) [src] [] pos') X.env x=pure x:=by intro _;rfl) :
  PE X (.ListComp el [⟨.Tuple els kk tp,.Call (.Name "enumerate" p) [src] [] pos',[],0⟩] sc at') (yV X.K G (λZ=>Cs Z/\(gl Z).length<=1000/\∀(i:Nat) (q:PV),(gl Z)[i]?=some q->Cb (((jC (none::none::cap) Z).set 0 (.fr (.int i))).set 1 (.fr q)))
   λZ=>(gl Z).mapIdx λi p=>gp (((jC (none::none::cap) Z).set 0 (.fr (.int i))).set 1 (.fr p))):=
 λpins s σ H Q I h=>yo L hc (yX hgl hm (pa_cons hi pa_nil hst) hst) hg (λ_ _ _=>qg) he hfs pins s σ H Q I (Z2 h)
end
section
variable {K:Fg}{G:Gx}{σ:L2.St}{H:Hp}{Q:VK}{Cs Cs' Cb Ct:En->Prop}{pt:En->Prop}[∀Z,Decidable (pt Z)]{gp:En->PV}{cap:List (Option Nat)}{gl hl:En->List PV}
theorem Ze (h:yV K G (λZ=>(Cs Z/\Cs' Z)/\(gl Z).length<=1000/\∀q r,(q,r)∈(gl Z).zip (hl Z)->Ct (((jC (none::none::cap) Z).set 0 (.fr q)).set 1 (.fr r))/\(pt (((jC (none::none::cap) Z).set 0 (.fr q)).set 1 (.fr r))->Cb (((jC (none::none::cap) Z).set 0 (.fr q)).set 1 (.fr r))))
   (λZ=>(((gl Z).zip (hl Z)).filter λp=>decide (pt (((jC (none::none::cap) Z).set 0 (.fr p.1)).set 1 (.fr p.2)))).map λp=>gp (((jC (none::none::cap) Z).set 0 (.fr p.1)).set 1 (.fr p.2))) σ H Q) :
  Su (none::none::cap) (Vg K (tCons (tX K G Cs λZ=>.lst (gl Z)) (tCons (tX K G Cs' λZ=>.lst (hl Z)) tNil))) (gTup K 2 (gCons (gName 0) (gCons (gName 1) gNil))) (uR K G Ct pt) (tX K G Cb gp) σ H Q:=by
 obtain⟨B,Z,O,R,⟨⟨c1,c1'⟩,c2,c3⟩,q⟩:=h;refine⟨B,Z,O,R,c1,λv H1 s1 a1=>⟨B,Z,O,R.grow s1,c1',λu H2 s2 a2=>?_⟩⟩;obtain⟨a,vs,rfl,hq,hal⟩:=a1;obtain⟨b,us,rfl,hq',hal'⟩:=a2;have hal:=lN.mono (lA (O:=O) s2) _ _ hal;have hq1:SqL K H2 a vs:=.inl (jw s2 (jw jM hq));have hq2:SqL K H2 b us:=.inl (jw jM hq');have el:=hal.length;have el':=hal'.length;refine⟨a,b,rfl,⟨_,hq1⟩,⟨_,hq2⟩,λD hD=>?_⟩;have hz:(List.range (min (gl Z).length (hl Z).length)).length=min (gl Z).length (hl Z).length:=aq;have at1:∀i,i<(List.range (min (gl Z).length (hl Z).length)).length->i<vs.length/\i<us.length:=λi h=>by rw[hz]at h;lia
 have hmem:∀i,i<min (gl Z).length (hl Z).length->((gl Z).getD i .non,(hl Z).getD i .non)∈(gl Z).zip (hl Z):=λi hi=>by rw[gQ,gQ,ac (show i<(gl Z).length by lia),ac (show i<(hl Z).length by lia)];refine b8.mpr ⟨i,by rw[dq];exact hi,?_⟩;rw[gT];rfl
 refine Ig (List.range (min (gl Z).length (hl Z).length)) (λi _=>((pI (none::none::cap) σ).set 0 (some (vs.getD i .non))).set 1 (some (us.getD i .non))) (λi=>((jC (none::none::cap) Z).set 0 (.fr ((gl Z).getD i .non))).set 1 (.fr ((hl Z).getD i .non))) (λ_=>.non) ((R.grow s1).grow s2) hD (by rw[hz];lia)
  (λi H hi s=>⟨_,_,vs[i]'(at1 i hi).1,us[i]'(at1 i hi).2,s.seq hq1,s.seq hq2,by rw[ac],by rw[ac]⟩) ?_ (λH s=>⟨_,_,s.seq hq1,s.seq hq2,by rw[hz];lia⟩) (λi H hi s R'=>?_) ?_ (λi hi=>(c3 _ _ (hmem i (aY.mp hi))).1) (λi hi=>(c3 _ _ (hmem i (aY.mp hi))).2) ?_
 ·rintro i k x H H' en s ⟨T,y,y',rfl,hT,rfl,hx,hx'⟩;have hx:=hx _ (s.seq hq1);have hx':=hx' _ (s.seq hq2);have hlt:i<min (gl Z).length (hl Z).length:=by have:=(aj.mp en).1;rw[hz]at this;exact this
  rw[cg hlt]at en;cases en;refine⟨same_new hT _,λkk hk=>⟨T,_,rfl,SqT.of upd_same,rfl,_,_,rfl,_,_,rfl,rfl,?_⟩⟩;rw[gQ,gQ,hx,hx']at hk;exact hk
 ·have hi:=aY.mp hi;exact(R'.set (At.mono (lX (O:=O) s hD) _ _ (vY hal (by lia)))).set (At.mono (lX (O:=O) s hD) _ _ (vY hal' (by lia)))
 ·intro i;exact mQ _
 ·intro H' ys s hd al;refine q D ys H' ((s1.trans s2).trans s) ((s1.trans s2).free hD) hd ?_;have ez:(gl Z).zip (hl Z)=(List.range (min (gl Z).length (hl Z).length)).map λi=>((gl Z).getD i .non,(hl Z).getD i .non):=by rw[K5 (λp r=>(p,r)) PV.non PV.non (gl Z) (hl Z)];simp
  have key:∀(l:List (PV×PV)) (r:List Nat) (f:Nat->PV×PV),l=r.map f->(l.filter λp=>decide (pt (((jC (none::none::cap) Z).set 0 (.fr p.1)).set 1 (.fr p.2)))).map (λp=>gp (((jC (none::none::cap) Z).set 0 (.fr p.1)).set 1 (.fr p.2)))=(r.filter λi=>decide (pt (((jC (none::none::cap) Z).set 0 (.fr (f i).1)).set 1 (.fr (f i).2)))).map λi=>gp (((jC (none::none::cap) Z).set 0 (.fr (f i).1)).set 1 (.fr (f i).2)):=λl r f hl=>by rw[hl,hW,br];rfl
  dsimp only;rw[key _ _ _ ez];exact al
end
section
variable {X:Cx}{G:Gx}{Er:ER}{N':List Str}{sc:Scope}{cl:List (Str×Addr)}{cap:List (Option Nat)}{el tg src tst l l2:Expr}{at' spos px p pos':Pos}{Cs Cs' Ct Cb:En->Prop}{pt:En->Prop}[∀Z,Decidable (pt Z)]{gp:En->PV}{gl hl:En->List PV}{i:Nat}{x:Str}
theorem T8 (L:vG X N' sc cl (none::none::cap))(hc:X.calm=true)(hgl:Gl X "zip")(hm:X.mg "zip"=none)(h1:PE X l (tX X.K G Cs λZ=>.lst (gl Z)))(h2:PE X l2 (tX X.K G Cs' λZ=>.lst (hl Z)))(hg:∀s H fp,PG (jB X N' sc cl s H fp) (.Tuple els kk tp) (gTup X.K 2 (gCons (gName 0) (gCons (gName 1) gNil))))(ht:∀s H fp,PT (jB X N' sc cl s H fp) tst (uR X.K G Ct pt))(he:∀s H fp,PE (jB X N' sc cl s H fp) el (tX X.K G Cb gp))
  (hst:starEach [l,l2] X.env=(false,eval l X.env)::starEach [l2] X.env:=by rfl) (hst2:starEach [l2] X.env=[(false,eval l2 X.env)]:=by rfl) (hpl:(backTo pos' (starEach [l2] X.env)).any (·.1)=false:=by rfl) (hfs:∀x,foldedSetIterable (.Call (.Name "zip" p) [l,l2] [] pos') X.env x=pure x:=by intro _;rfl) :
  PE X (.ListComp el [⟨.Tuple els kk tp,.Call (.Name "zip" p) [l,l2] [] pos',[tst],0⟩] sc at') (yV X.K G (λZ=>(Cs Z/\Cs' Z)/\(gl Z).length<=1000/\∀q r,(q,r)∈(gl Z).zip (hl Z)->Ct (((jC (none::none::cap) Z).set 0 (.fr q)).set 1 (.fr r))/\(pt (((jC (none::none::cap) Z).set 0 (.fr q)).set 1 (.fr r))->Cb (((jC (none::none::cap) Z).set 0 (.fr q)).set 1 (.fr r))))
   λZ=>(((gl Z).zip (hl Z)).filter λp=>decide (pt (((jC (none::none::cap) Z).set 0 (.fr p.1)).set 1 (.fr p.2)))).map λp=>gp (((jC (none::none::cap) Z).set 0 (.fr p.1)).set 1 (.fr p.2))):=
 λpins s σ H Q I h=>yo L hc (Ke hgl hm (pa_cons h1 (pa_cons h2 pa_nil hst2) hst) hst hpl) hg (λs H fp=>NP (ht s H fp)) he hfs pins s σ H Q I (Ze h)
end
def kJ:PV->List Int
 | .ints l=>l
 |_=>[]
def Xj (ps:List PV):List (List Int):=ps.map kJ
theorem Pa (t:List (List Int)):Xj (t.map PV.ints)=t:=by unfold Xj;rw[br];exact(bZ λ_ _=>rfl).trans (List.map_id t)
def KWR (cW cR:Addr)(H:Hp)(a:Addr)(z:Int):Prop:=KW cW H a z\/KR cR H a z
section
variable {X:Cx}{G:Gx}{Er:ER}{f:FS}{C C2:En->Prop}{pos p pos':Pos}
theorem Pk {k j:Nat}{x y:Str}{l:Expr}{body:List Stmt}{g:En->List PV}{px py p pos' tp:Pos}{kk:Nat}(hp:PassesOwn (model X.prog X.w) X.A X.env X.xe)(hc:X.calm=true)(hg:Gl X "enumerate")(hm:X.mg "enumerate"=none)(hl:PE X l (tX X.K G C λZ=>.lst (g Z)))
  (hgt:PG X (.Tuple [.Name x px,.Name y py] kk tp) (gTup X.K 2 (gCons (gName k) (gCons (gName j) gNil)))) (hb:PSs X body (ts X.K G Er f)) (hs:starEach [l] X.env=[(false,eval l X.env)]:=by rfl)
  (hfs:∀x,foldedSetIterable (.Call (.Name "enumerate" p) [l] [] pos') X.env x=pure x:=by intro _;rfl) :
  PS X (.For (.Tuple [.Name x px,.Name y py] kk tp) (.Call (.Name "enumerate" p) [l] [] pos') body [] pos) (ts X.K G Er λP Z=>C Z/\∃W:Nat->En->Prop,W 0 Z /\
   (∀i n Z',(g Z)[i]?=some n->W i Z' -> f (P.lp (W (i+1))) ((Z'.set k (.fr (.int i))).set j (.fr n)))/\∀Z',W (g Z).length Z' -> P.nx Z'):=
 toS (ps_for hp hc (yX hg hm (pa_cons hl pa_nil hs) hs) hgt hb hfs) λB σ H Z O P D R c w=>by
  obtain⟨c1,W,w0,st,nd⟩:=c;refine⟨B,Z,O,R,c1,λv H1 s1 a1=>?_⟩;obtain⟨a,vs,rfl,hq,hal⟩:=a1;have R1:=R.grow s1;have w1:=rN R1 w;have el:=hal.length;refine⟨a,rfl,⟨_,.inl (jw jM hq)⟩,GR (xs:=vs) (λi σ H=>∃Z',vZ X.K G (B.at H1 O) σ H Z'/\W i Z') ⟨Z,⟨O,R1.rebase⟩,w0⟩ ?_ ?_ ?_⟩
  ·rintro i σ H _ ⟨Z',⟨O',R'⟩,_⟩;exact .inl (jw ((Rep.uW B H1 O).trans R'.same) hq)
  ·rintro i y σ H T hy ⟨Z',⟨O',R'⟩,hw⟩ hT;obtain⟨n,en,an⟩:=hal.get hy;have R2:=R'.grow (same_new hT (.tup [.int i,y]));refine⟨T,_,rfl,SqT.of upd_same,rfl,_,_,rfl,_,_,rfl,rfl,?_⟩;exact⟨_,_,_,⟨O',(R2.set (p:=.int i) rfl).set (At.mono (R1.seen R2) _ _ an)⟩,st i n Z' en hw,⟨λσ' H' Z' R' h=>⟨Z',R',h⟩,w1.rt,w1.rl,w1.rn,w1.nx,λσ' H' Z' R' h=>⟨Z',R',h⟩,w1.er⟩⟩
  ·rintro σ H ⟨Z',R',hw⟩;rw[<- el]at hw;exact w1.nx σ H Z' R' (nd Z' hw)
end
end L3
namespace L2
theorem wZ {α β:Type}{f:α->β}{l m:List β}(h:l.Perm m):∀{L:List α},L.map f=m->∃L':List α,L'.Perm L/\L'.map f=l:=by
 induction h with
 |nil=>intro L e;have:L=[]:=eK.mp e;subst this;exact⟨[],.nil,rfl⟩
 |cons x _ ih=>intro L e;obtain⟨a,r,rfl,rfl,e2⟩:=fJ.mp e;obtain⟨L',p,q⟩:=ih e2;exact⟨a::L',.cons a p,by rw[bK,q]⟩
 |swap x y l=>intro L e;obtain⟨a,r1,rfl,rfl,e2⟩:=fJ.mp e;obtain⟨b,r,rfl,rfl,rfl⟩:=fJ.mp e2;exact⟨b::a::r,.swap a b r,rfl⟩
 |trans _ _ ih1 ih2=>intro L e;obtain⟨L1,p1,q1⟩:=ih2 e;obtain⟨L2,p2,q2⟩:=ih1 q1;exact⟨L2,p2.trans p1,q2⟩
theorem HQ {α:Type}(k:α->Int):∀{a b:List α},a.Perm b->a.Pairwise (λx y=>k x<=k y)->b.Pairwise (λx y=>k x<=k y)->(b.map k).Nodup->a=b
 |[],b,p,_,_,_=>(List.Perm.nil_eq p)
 |x::a,[],p,_,_,_=>absurd p.length_eq (by simp)
 |x::a,y::b,p,sa,sb,nd=>by
  rw[cG]at sa sb;rw[bK,cS]at nd;have e:x=y:=by
   have h1:x∈y::b:=p.mem_iff.mp ah;have h2:y∈x::a:=p.mem_iff.mpr ah;rcases aF.mp h1 with h1|h1
   ·exact h1
   rcases aF.mp h2 with h2|h2
   ·exact h2.symm
   have k1:=sb.1 x h1;have k2:=sa.1 y h2;have ke:k y=k x:=Int.le_antisymm k1 k2;exact absurd (aP.mpr ⟨x,h1,ke.symm⟩) nd.1
  subst e;rw[HQ k (List.Perm.cons_inv p) sa.2 sb.2 nd.2]
section
variable {X:Cx}{pins:List (Addr×Obj)}{σ:St}{H:Hp}{s:Shared}
theorem yq:∀{l m:Lv},TriplesOk l->TriplesOk m->TriplesOk (l++m)
 |[],_,_,h=>h
 | .int _ _ :: .int _ _::_::rest,m,h1,h2=>by exact yq (l:=rest) h1 h2
theorem Cw:∀{l:Lv},TriplesOk l->codeAmong pos (l++m)=some cv->codeAmong pos l=some cv\/codeAmong pos m=some cv
 |[],_,h=>.inr h
 | .int line t :: .int col u::c::rest,ht,h=>by
  have h:(if line == pos.line && col == pos.col then some c else codeAmong pos (rest++m))=some cv:=h;show(if line == pos.line && col == pos.col then some c else codeAmong pos rest)=some cv\/_;split at h
  ·rename_i g;rw[af g];exact .inl h
  ·rename_i g;rw[ae g];exact Cw (l:=rest) ht h
theorem Inv.grown {P c':Addr}{t:yN}{oc:Obj}{more:Array Value}{h':Heap}{tk:Nat}(I:Inv X pins σ H s)(e:H P=some (.tbl t))(hx:∀b o,b≠P->s.heap.get? b=some o->h'.get? b=some o)(hge:s.heap.objs.size<=c')
  (hc:h'.get? c'=some oc) (hq:Ac oc t.q) (hP:h'.get? P=some (W.tabObj (t.ps++more))) (ht:TriplesOk more.toList) (hm:∀p cv,codeAmong p more.toList=some cv->cv=.ref c') :
  Inv X pins σ (upd (upd H c' (.frz oc (.ext λ_=>True))) P (.tbl (t++more))) { s with heap:=h',toks:=tk }:=by
 have fr:H c'=none:=I.hok.fresh hge;have hcP:c'≠P:=λz=>by rw[z,e]at fr;cases fr
 have old:∀b u,H b=some u->b≠c':=λb u q z=>by rw[z,fr]at q;cases q
 have nP:∀b,H b=none->b≠P:=λb q z=>by rw[z,e]at q;cases q
 refine I.un ⟨λb o q n _ _=>hx b o (nP b n) q,λb o q n _ _=>⟨o.slots,hx b o (nP b n) q⟩,λb o q n _=>?_,λb o q _=>?_,λb xs q=>?_,λb o u q=>?_,λb ps q=>?_⟩ λb u q=>?_
 ·rw[upd_ne (nP b n),upd_ne (bn (aD (aA q) hge))];exact n
 ·by_cases z:b=P
  ·subst z;exact⟨_,hP⟩
  ·exact⟨o,hx b o z q⟩
 ·rw[upd_ne (λz=>by rw[z,e]at q;cases q),upd_ne (old b _ q)];exact q
 ·rw[upd_ne (λz=>by rw[z,e]at q;cases q),upd_ne (old b _ q)];exact q
 ·by_cases z:b=P
  ·subst z;rw[e]at q;cases q;exact⟨more,upd_same⟩
  ·exact⟨#[],by rw[upd_ne z,upd_ne (old b _ q),q];simp⟩
 ·have frz2:∀c o u,H c=some (.frz o u)->(upd (upd H c' (.frz oc (.ext λ_=>True))) P (.tbl (t++more))) c=some (.frz o u):=λc o u q=>by rw[upd_ne (λz=>by rw[z,e]at q;cases q),upd_ne (old c _ q)];exact q
  by_cases z:b=P
  ·subst z;rw[upd_same]at q;cases q;obtain⟨e1,e2,e3⟩:=I.hok b _ e;refine⟨hP,?_,λp cv hcm=>?_⟩
   ·show TriplesOk (t.ps++more).toList;rw[iK];exact yq e2 ht
   ·have hcm:codeAmong p (t.ps++more).toList=some cv:=hcm;rw[iK]at hcm;rcases Cw e2 hcm with hcm|hcm
    ·obtain⟨c,o1,u1,y,q1,q2⟩:=e3 p cv hcm;exact⟨c,o1,u1,y,frz2 c o1 u1 q1,q2⟩
    ·exact⟨c',oc,_,hm p cv hcm,by rw[upd_ne hcP,upd_same],hq⟩
  ·rw[upd_ne z]at q;by_cases y:b=c'
   ·subst y;rw[upd_same]at q;cases q;exact⟨hc,tJ,⟨_,hc⟩,λ_ _ h _=>h⟩
   ·rw[upd_ne y]at q;have up:∀c o,H c=some o->c≠P->(upd (upd H c' (.frz oc (.ext λ_=>True))) P (.tbl (t++more))) c=some o:=λc o q n=>by rw[upd_ne n,upd_ne (old c _ q)];exact q
    refine(I.hok b u q).stay (λc v hcb r=>hx c v ?_ r) (λc r=>up c _ r λw=>by rw[w,e]at r;cases r) (λc xs r=>up c _ r λw=>by rw[w,e]at r;cases r) λc o u r=>frz2 c o u r;rcases hcb with rfl|hcb
    ·exact z
    ·exact λw=>by rw[w,e]at hcb;cases hcb
theorem Ac.rec {h:Heap}{c:Addr}{oc:Obj}{q:Str}(e:h.get? c=some oc)(k:Ac oc q):h.CodeRec (.ref c) q:=let ⟨vs,t,a,b⟩:=k;⟨c,oc,vs,t,rfl,e,a,b⟩
theorem Iw (I:Inv X pins σ H s)(hcode:X.env.code=.ref c)(hx:(c,P,q)∈oh X.K)(hq:X.env.qual++"<lambda>"=q)
  (hdef:defaultsOf params X.env=([],[])) (hcl:closureFor scope X.env=pure [])
  (Q:Value->Shared->Prop)
  (h:∀f c' ctv H' s',Inv X pins σ H' s' -> (∀b o,H b=some o->(∀t,o ≠ .tbl t)->H' b=some o)->(∀b t,H b=some (.tbl t)->∃ps,H' b=some (.tbl ⟨t.q,ps⟩))->s'.heap.get? f=some (W.kla_obj "<lambda>" q params body scope [] ((X.mg "__name__").getD .none) c' ctv)->H' f=none ->
   (∃oc u,H' c'=some (.frz oc u)/\Ac oc q)->s'.os=s.os->s.heap.objs.size<=f->Q (.ref f) s') :
  wpAny (model X.prog X.w) X.A (eval (.Lambda params body scope posL) X.env) Q E s:=by
 obtain⟨ps0,e0⟩:=I.ok.frf.t _ hx;obtain⟨m1,e1⟩:=I.base.tbls _ _ e0;have e1:H P=some (.tbl ⟨q,ps0++m1⟩):=e1;generalize ps0++m1=ps at e1;obtain⟨hP,ht,hr⟩:=I.hok P _ e1;have C:W.CodeHd s.heap c P:=iF I.kIn (Cy hx);have hg:s.heap.Ns mainGlobals X.mg:=I.mod.glob.keeps I.bk;have nob:∀b o,X.base.get? b=some o->b≠P:=λb o e z=>by have:=(I.bs b o e).2;rw[z,e1]at this;cases this
 have hgP:mainGlobals≠P:=by obtain⟨o,es,ep,e,_⟩:=I.mod.glob;exact nob _ _ e
 obtain⟨bm,ob,b1,b2,b3,b4,b5,b6⟩:=I.mod.bm;have hbG:bm≠mainGlobals:=λz=>by obtain⟨o,es,ep,e,hd,_⟩:=I.mod.glob;rw[z,e]at b3;cases b3;rw[hd]at b6;cases b6
 have hb:s.heap.BuiltinsAt X.mg P:=⟨bm,ob,b1,b2,hbG,nob _ _ b3,I.bk _ _ b3,b4,b5,b6⟩;refine W.kla_eval hdef ?_;rw[hq];cases hf:codeAmong posL ps.toList with
 |none=>
  refine W.kla_makeFunction (mg:=X.mg) hcl I.ok.glob hg hcode C hP ht hf hgP hb λc' ctv h' tk hx' hge hlt hrec htb=>?_;obtain⟨c2,oc,vs,t,ec,hoc,hd,hv⟩:=hrec;cases ec;have I2:=I.grown (c':=c') (oc:=oc) (more:=#[rawInt posL.line,rawInt posL.col,.ref c']) (h':=h') (tk:=tk) e1 (λb o n e=>hx' b o n e) hge hoc ⟨vs,t,hd,hv⟩ htb trivial (λp cv hc=>by
   have hc:(if (posL.line:Int) == p.line && (posL.col:Int) == p.col then some (Value.ref c') else none)=some cv:=hc;split at hc
   ·exact(aB hc).symm
   ·cases hc)
  have I3:=I2.kept (h':=h'.push (W.kla_obj "<lambda>" q params body scope [] ((X.mg "__name__").getD .none) c' ctv)) (t':=tk) λb u e=>az _ e;have fr:H c'=none:=I.hok.fresh hge;have old:∀b u,H b=some u->b≠c':=λb u q z=>by rw[z,fr]at q;cases q
  have hcP:c'≠P:=λz=>by rw[z,e1]at fr;cases fr
  refine h h'.objs.size c' ctv _ _ I3 (λb o q n=>?_) (λb t q=>?_) (bc _ rfl) (I2.hok.fresh (ao _)) ⟨oc,_,by rw[upd_ne hcP,upd_same],vs,t,hd,hv⟩ rfl (aH hge (bN (aA hoc)))
  ·rw[upd_ne (λz=>by rw[z,e1]at q;cases q;exact n _ rfl),upd_ne (old b _ q)];exact q
  ·by_cases z:b=P
   ·subst z;rw[e1]at q;cases q;exact⟨_,upd_same⟩
   ·exact⟨t.ps,by rw[upd_ne z,upd_ne (old b _ q),q]⟩
 |some cv=>obtain⟨c',oc,u,rfl,g1,g2⟩:=hr posL cv hf;refine W.kla_makeFunctionHit (mg:=X.mg) hcl I.ok.glob hg hcode C hP ht hf hb λctv h' tk hk hsz=>?_;have I3:=I.kept (h':=h'.push (W.kla_obj "<lambda>" q params body scope [] ((X.mg "__name__").getD .none) c' ctv)) (t':=tk) λb u e=>az _ (hk b u e);exact h h'.objs.size c' ctv _ _ I3 (λb o q _=>q) (λb t q=>⟨t.ps,q⟩) (bc _ rfl) (I.hok.fresh hsz) ⟨oc,u,g1,g2⟩ rfl hsz
end
theorem xM:bootBuiltins "sorted"=some (.builtin "sorted"):=by decide +kernel
theorem Zt {h:Heap}{a:Addr}{m m':Mg}(x:h.Ns a m)(y:h.Ns a m'):m=m':=by obtain⟨o,es,ep,e,d,_,k⟩:=x;obtain⟨o',es',ep',e',d',_,k'⟩:=y;rw[e]at e';cases e';rw[d]at d';injection d' with d1 _;subst d1;funext n;rw[<- k n,<- k' n]
section
variable {prog:Program}{w:World}{A:Around}{s:Shared}{Q:Value->Shared->Prop}{E:Value->Shared->Prop}
theorem Pg {f c' t:Addr}{its:Lv}{wv pm ctv:Value}{y q:Str}{params:Arguments}{scope:Scope}{p1 p2 p3:Pos}{j:Nat}
  (ho:s.heap.get? f=some (W.kla_obj "<lambda>" q params (.Subscript (.Name y p1) (.Constant (.int 1) j p2) p3) scope [] pm c' ctv)) (hcd:s.heap.CodeRec (.ref c') q) (hroom:A.depth<recursionLimit) (hlim:s.heap.NoLimit)
  (hbind:bindArgs (W.kla_fn "<lambda>" q params (.Subscript (.Name y p1) (.Constant (.int 1) j p2) p3) scope [] pm (.ref c') ctv) ⟨[.ref t],[]⟩=pure [(y,.ref t)])
  (hloc:scope.names.lookup y=some .local) (hnc:∀z∈scope.names,z.2 ≠ .cell) (hk:scope.kind=.function) (hco:scope.isCoroutine=false) (hgen:scope.isGenerator=false) (hyd:(y == ("__debug__":Str))=false)
  (tup:IsTup s.heap t its.toArray) (hi:its[1]?=some wv)
  (h:∀h' tk,(∀b o,s.heap.get? b=some o->h'.get? b=some o)->Q wv { s with heap:=h',toks:=tk }) :
  wpAny (model prog w) A (call (.ref f) [.ref t]) Q E s:=by
 refine ig (ik hroom ho rfl hco hgen rfl hcd ?_);rw[hbind];refine bW (fI hnc (λz hz=>?_) (λh₁ hns hsb=>⟨hlim.fresh _ hsb,?_⟩) hk)
 ·rw[bA.mp hz];exact hloc
 have hk₁:∀b o,s.heap.get? b=some o->h₁.get? b=some o:=λb o e=>hsb.extBut b o (bn (aA e)) (az _ e);refine im ?_;have tup1:IsTup h₁ t its.toArray:=by obtain⟨o,e,r⟩:=tup;exact⟨o,hk₁ _ _ e,r⟩
 have len:1<its.length:=(aj.mp hi).1;refine Subscript_ (ie (d8 hk hloc hns (v:=.ref t) ?_ ?_) hyd)
 ·simp
 refine f6 ?_;refine dD (x:=wv) tup1.typeIs slot_tuple_getitem.lookup (getItem_tuple (j:=1) (Q:=λr s'=>r=wv/\_) tup1 (by decide) (by decide) ?_ (by simpa using hi) ⟨rfl,?_⟩) rfl
 ·rw[ay];unfold seqIndex?;have:(1:Int)<(its.length:Int):=by lia
  simp[this]
 ·exact h _ _ hk₁
end
end L2
namespace L3
open L2
def qy:PV->Int
 | .tup [_,.int k]=>k
 |_=>0
open Classical in
def vg (ps:List PV):List PV:=if h:∃l:List PV,l.Perm ps/\l.Pairwise (λa b=>qy a<=qy b) then h.choose else[]
theorem Hx (p:l.Perm ps)(o:l.Pairwise λa b=>qy a<=qy b)(nd:(ps.map qy).Nodup):vg ps=l:=by have h:∃l:List PV,l.Perm ps/\l.Pairwise (λa b=>qy a<=qy b):=⟨l,p,o⟩;unfold vg;rw[iW h];have s:=h.choose_spec;exact HQ qy (s.1.trans p.symm) s.2 o ((p.map qy).nodup_iff.mpr nd)
structure Mq (ps:List PV):Prop where
 len:ps.length<64
 two:∀p∈ps,∃x,p=.tup [x,.int (qy p)]
 nd:(ps.map qy).Nodup
theorem aaa {α β γ δ:Type}(f:α->δ):∀(a:List α) (b:List β) (c:List γ),a.length=b.length->b.length=c.length->((a.zip (b.zip c)).map λt=>(f t.1,t.2.2))=(a.map f).zip c/\(a.zip (b.zip c)).map (λt=>t.1)=a
 |[],_,_,_,_=>⟨rfl,rfl⟩
 |x::a,[],_,h,_=>absurd h (by simp)
 |x::a,y::b,[],_,h=>absurd h (by simp)
 |x::a,y::b,z::c,h,k=>by
  obtain⟨e1,e2⟩:=aaa f a b c (by simpa using h) (by simpa using k);refine⟨?_,?_⟩
  ·rw[di,di,bK,e1,bK,di]
  ·rw[di,di,bK,e2]
section
variable {K:Fg}{G:Gx}{H:Hp}
theorem Tg:∀{ps:List PV} {xs:List V} {its:Lv},lN K G H ps xs->Vals xs its->∀t∈ps.zip (xs.zip its),At K G H t.1 t.2.1/\RelV t.2.1 t.2.2
 |[],_,_,_,_,t,ht=>by simp at ht
 |p::ps,_,_,h,r,t,ht=>by
  obtain⟨v,vs,rfl,q,al⟩:=h;cases r with
  |cons r0 r1=>
   rcases aF.mp ht with rfl|ht
   ·exact⟨q,r0⟩
   ·exact Tg al r1 t ht
theorem Ny:∀{T:List (PV×V×Value)},(∀t∈T,At K G H t.1 t.2.1)->lN K G H (T.map λt=>t.1) (T.map λt=>t.2.1)
 |[],_=>rfl
 |t::T,h=>⟨_,_,rfl,h t ah,Ny λx hx=>h x (ad _ hx)⟩
theorem Jd:∀{T:List (PV×V×Value)},(∀t∈T,RelV t.2.1 t.2.2)->Vals (T.map λt=>t.2.1) (T.map λt=>t.2.2)
 |[],_=>.nil
 |t::T,h=>.cons (h t ah) (Jd λx hx=>h x (ad _ hx))
end
def N5 (K:Fg)(cd:Value)(q:Str):Prop:=∃c P,cd=.ref c/\(c,P,q)∈oh K
section
variable {X:Cx}{G:Gx}{a:Expr}{pos p kp posL p1 p2 p3:Pos}{Ca:En->Prop}{ga:En->PV}{k j:Nat}{y:Str}{params:Arguments}{scope:Scope}
theorem Q5 (hl:N5 X.K X.env.code (X.env.qual++"<lambda>"))(hr:Room k X.A)(hm:X.mg "sorted"=none)(ha:PE X a (tX X.K G Ca ga))(hg:Gl X "sorted":=by rfl)(he:starEach [a] X.env=[(false,eval a X.env)]:=by rfl)
  (hdef:defaultsOf params X.env=([],[]):=by rfl) (hcl:closureFor scope X.env=pure []:=by rfl)
  (hbind:∀(pm ctv:Value) (c' t:Addr),bindArgs (W.kla_fn "<lambda>" (X.env.qual++"<lambda>") params (.Subscript (.Name y p1) (.Constant (.int 1) j p2) p3) scope [] pm (.ref c') ctv) ⟨[.ref t],[]⟩=pure [(y,.ref t)]:=by intros;rfl)
  (hloc:scope.names.lookup y=some .local:=by rfl) (hnc:∀z∈scope.names,z.2 ≠ .cell:=by decide) (hk:scope.kind=.function:=by rfl) (hco:scope.isCoroutine=false:=by rfl) (hgen:scope.isGenerator=false:=by rfl) (hyd:(y == ("__debug__":Str))=false:=by decide) :
  PE X (.Call (.Name "sorted" p) [a] [⟨some "key",.Lambda params (.Subscript (.Name y p1) (.Constant (.int 1) j p2) p3) scope posL,kp⟩] pos) (yV X.K G (λZ=>Ca Z/\ga Z=.lst (rP (ga Z))/\Mq (rP (ga Z))) λZ=>vg (rP (ga Z))):=by
 intro pins s σ H Q I ⟨B,Z,O,R,c,q⟩;refine cD (ld_blt I hg hm xM ?_ (by decide) (by decide));refine eU (thn (pa_cons ha pa_nil he pos pins s σ H (λvs H'=>∃l xs,vs=[.ref l]/\Same H H'/\Rd (mn H' O) l (.lst xs)/\lN X.K G (mn H' O) (rP (ga Z)) xs) I ⟨B,Z,O,R,c.1,λv H1 s1 a1=>?_⟩) λus t1 h=>?_) (by rw[he];rfl) (by rw[he];rfl)
 ·rw[c.2.1]at a1;obtain⟨l,xs,rfl,r1,al⟩:=a1;exact⟨l,xs,rfl,s1,r1,al⟩
 obtain⟨vs,H1,I1,rv,l,xs,rfl,s1,rd,al⟩:=h;obtain⟨u,rfl,ru⟩:=vals1 rv;cases ru;obtain⟨cc,P,hcode,hx⟩:=hl;obtain⟨_,_,PO⟩:=c;have q:∀(a:Addr) (vs:List V) (H':Hp),Same H H' -> H a=none->H' a=some (HO.lst vs)->lN X.K G (mn H' (hide a O)) (vg (rP (ga Z))) vs->Q (V.ref a) H':=q;generalize rP (ga Z)=ps at *
 refine kws_cons (Iw I1 hcode hx rfl hdef hcl _ λf c' ctv H2 t2 I2 kp2 tb2 hf fn fz os _=>kws_nil ?_);have s2:Same H1 H2:=λb o e=>by cases o<;>first|exact kp2 b _ e (λt z=>by cases z)|(obtain⟨ps',z⟩:=tb2 b _ e;exact⟨ps',z⟩)
 obtain⟨_,its,n,r,hlen,e⟩:=L3.Inv.Bw I2 (jw (jM.trans s2) rd);have al2:=lN.mono (lA s2) _ _ al;have lps:ps.length=xs.length:=al2.length;obtain⟨m,F⟩:=I2.fr;have N:=news_all (g:=X.base) (h:=t2.heap) (L:=X.env.locals);have hfL:f≠X.env.locals:=λz=>by obtain⟨m',⟨o,es,ep,ho,hd,_⟩,_⟩:=I2.loc;rw[<- z,hf]at ho;cases ho;cases hd
 have kept:∀{h:Heap} {own:List (Addr×Obj)},Fr X.base X.env.locals h m->News X.base X.env.locals h (allNews X.base t2.heap X.env.locals++own)->∀b o,b≠X.env.locals->t2.heap.get? b=some o->h.get? b=some o:=λ{h own} F' N' b o hb eb=>by
  cases z:X.base.get? b with
  |some u=>have:=I2.bk b u z;rw[eb]at this;cases this;exact F'.keep b _ z
  |none=>exact(N' (b,o) (cI _ (mem_allNews hb z eb))).1
 have tr:∀b u,H2 b=some u->b≠X.env.locals:=λb u z w=>by rw[w,I2.free]at z;cases z
 obtain⟨oc,fu,fz1,fz2⟩:=fz;have hoc:=(I2.hok c' _ fz1).1;refine PyProof.Rows.ksk_sorted (b:=false) (kz:=ps.map qy) (f:=.ref f) F N (vs:=its) ⟨_,e,rfl,n,rfl⟩ (by rw[aa,lps,hlen]) (by rw[<- hlen,<- lps];exact PO.len) (PyProof.Rows.ksk_s1 _ _) (λx=>PyProof.Rows.ksk_l1 _ _) (λx=>PyProof.Rows.ksk_t1 _ _) (λi v kk hv hkk h tk own F' N'=>?_) (λD h' tk out cz F' N' lt ko=>?_)
 ·rw[aw]at hkk;cases hp:ps[i]? with
  |none=>rw[hp]at hkk;cases hkk
  |some pp=>
   rw[hp]at hkk;cases hkk;obtain⟨xv,hxv,at1⟩:=al2.at hp;obtain⟨v',hv',rl⟩:=r.get hxv;rw[hv]at hv';cases hv';obtain⟨x,ex⟩:=PO.two pp (aW hp);rw[ex]at at1;obtain⟨t,us,rfl,ht,ux,ur,rfl,_,ui,un,rfl,hui,hun⟩:=at1;cases rl;subst hun hui;have ht2:H2 t=some (.tup [ux,.int (qy pp)]):=(qz ht).2;obtain⟨_,its2,r2,tup⟩:=I2.hok t _ ht2;cases r2 with
   |cons q0 q1=>
    cases q1 with
    |cons q2 q3=>cases q3;obtain⟨tok,rfl⟩:=q2;obtain⟨o,eo,ro⟩:=tup;have tup':IsTup h t _:=⟨o,kept F' N' _ _ (tr t _ ht2) eo,ro⟩;refine Pg (s:={ t2 with heap:=h,toks:=tk }) (kept F' N' _ _ hfL hf) (Ac.rec (kept F' N' _ _ (tr c' _ fz1) hoc) fz2) hr.depth (I2.ok.mod.nolimit.keeps F'.keep) (hbind _ _ _ _) hloc hnc hk hco hgen hyd tup' rfl λh'' tk' kk=>?_;exact⟨h'',tk',tok,rfl,rfl,F'.kept kk,λp hp=>⟨kk _ _ (N' p hp).1,(N' p hp).2⟩⟩
 ·have keptD:∀b o,b≠X.env.locals->t2.heap.get? b=some o->h'.get? b=some o:=λb o hb eb=>by
   cases z:X.base.get? b with
   |some u=>have:=I2.bk b u z;rw[eb]at this;cases this;exact F'.keep b _ z
   |none=>exact(N' (b,o) (ad _ (mem_allNews hb z eb))).1
  obtain⟨hD,DL,Db⟩:=N' (D,_) ah;have Dn:t2.heap.get? D=none:=by
   cases z:t2.heap.get? D with
   |none=>rfl
   |some o=>exact absurd (lt (D,o) (mem_allNews DL Db z)) (cY _)
  have HD:H2 D=none:=by
   cases z:H2 D with
   |none=>rfl
   |some u=>obtain⟨o,eo⟩:=ObjOk.get (I2.hok D u z);rw[Dn]at eo;cases eo
  obtain⟨pz,hperm,hout,hord⟩:=ko;obtain⟨z1,z2⟩:=aaa qy ps xs its lps hlen;rw[<- z1]at hperm;obtain⟨T,tp,te⟩:=wZ hperm rfl;have mem:=Tg al2 r;have eps:T.map (λt=>t.1)=vg ps:=by
   refine(Hx ?_ ?_ PO.nd).symm
   ·have:=tp.map λt=>t.1;rw[z2]at this;exact this
   ·rw[<- te]at hord;rw[cA]at hord ⊢;exact hord
  have eout:out.toList=T.map λt=>t.2.2:=by rw[hout,<- te,br];rfl
  have rv:Vals (T.map λt=>t.2.1) out.toList:=by rw[eout];exact Jd λt ht=>(mem t (tp.mem_iff.mp ht)).2
  have alT:lN X.K G (mn H2 O) (vg ps) (T.map λt=>t.2.1):=by rw[<- eps];exact Ny λt ht=>(mem t (tp.mem_iff.mp ht)).1
  have lT:(T.map λt=>t.2.1).length<=sizeLine:=by rw[aa,tp.length_eq,dq,dq];have h1:=PO.len;exact bN (small1000 (by lia))
  have hobj:h'.get? D=some { cls:=.type "list",data:=.seq out.toList.toArray cz }:=by
   rw[hD]
   all_goals simp[seqObj]
  have I3:Inv X pins σ (upd H2 D (.lst (T.map λt=>t.2.1))) { t2 with heap:=h',gens:=t2.gens,drawn:=t2.drawn,toks:=tk }:=by
   refine I2.step (ch:=[]) (λb hb=>absurd hb (by simp)) (λb o hb _ _ eo _=>keptD b o hb eo) (λb o hb _ _ eo _=>⟨o.slots,keptD b o hb eo⟩) (λb o _ eo no=>?_) (λb o _ eo=>?_) (λb xs z=>?_) (λb o u z=>?_) (λb ps z=>⟨#[],?_⟩) (λm0 hm0=>?_) (λb u z=>?_) I2.bare
   ·rw[upd_ne (λw=>by rw[w,Dn]at eo;cases eo)];exact no
   ·by_cases w:b=X.env.locals
    ·obtain⟨o',es,ep,ho,_⟩:=F'.ns;rw[w];exact⟨o',ho⟩
    ·exact⟨o,keptD b o w eo⟩
   ·rw[upd_ne (ne_of_none z HD)];exact z
   ·rw[upd_ne (ne_of_none z HD)];exact z
   ·rw[upd_ne (ne_of_none z HD),z];simp
   ·have:=Zt hm0 F.ns;subst this;exact F'.ns
   ·by_cases w:b=D
    ·subst w;rw[upd_same]at z;cases z;exact⟨lT,out.toList,cz,rv,hobj⟩
    ·rw[upd_ne w]at z;refine(I2.hok b u z).stay (λc v hcb rr=>keptD c v ?_ rr) (λc rr=>by rw[upd_ne (ne_of_none rr HD)];exact rr) (λc _ rr=>by rw[upd_ne (ne_of_none rr HD)];exact rr) λc _ _ rr=>by rw[upd_ne (ne_of_none rr HD)];exact rr
     rcases hcb with rfl|hcb
     ·exact tr c _ z
     ·exact tr c _ hcb
  have sD:Same H2 (upd H2 D (.lst (T.map λt=>t.2.1))):=same_new HD _;exact⟨.ref D,_,I3,rfl,q D _ _ ((s1.trans s2).trans sD) ((s1.trans s2).free HD) upd_same (lN.mono (lX sD HD) _ _ alT)⟩
end
def DK (K:Fg)(mg:Mg)(x:Str):Prop:=∃f oc od fd sl,mg x=some (.ref f)/\K.lookup f=some ⟨oc,od,.func fd,sl⟩/\N5 K fd.code (x++".<locals>."++"<lambda>")
def JT (K:Fg)(cd:Value)(q:Str):Bool:=match cd with
 | .ref c=>(oh K).any λx=>x.1 == c && x.2.2 == q
 |_=>false
theorem O8 {K:Fg}{cd:Value}{q:Str}(h:JT K cd q=true):N5 K cd q:=by
 unfold JT at h;split at h
 ·rename_i c;obtain⟨x,hx,e⟩:=List.any_eq_true.mp h;rw[fA,iV,iV]at e;obtain⟨a,b,d⟩:=x;obtain⟨e1,e2⟩:=e;subst e1 e2;exact⟨a,b,rfl,hx⟩
 ·cases h
def Yt (K:Fg)(ts:List Addr):Bool:=(oh K).all λx=>(ts.contains x.2.1 && (K.lookup x.2.1).isNone) && (oh K).all λy=>x.2.1 != y.2.1 || x.2.2 == y.2.2
theorem T3 {K:Fg}{h:Heap}{ts:List Addr}(e:Yt K ts=true)(t:∀P∈ts,h.get? P=some (W.tabObj #[])):HY K h:=by
 have a:=λx hx=>d6.mp (dC.mp e x hx);refine⟨λx hx=>t _ ?_,λx hx=>?_,λx hx y hy z=>?_⟩
 ·exact List.contains_iff_mem.mp (d6.mp (a x hx).1).1
 ·exact Option.isNone_iff_eq_none.mp (d6.mp (a x hx).1).2
 ·have:=dC.mp (a x hx).2 y hy;rw[Bool.or_eq_true,bne_iff_ne,iV]at this;exact this.resolve_left λn=>n z
end L3
namespace L2
open PySem.AutoSeq1 (wpAny_loadPart')
open PySem.MeetsSeq PySem.MeetsSeq2 PySem.MeetsSeq3 PySem.SeqAt
def nu:List Int->List Int->Bool
 |a::r,b::t=>if a=b then nu r t else decide (a<b)
 |_,_=>false
theorem Fy:∀{vs:Lv} {ns:Li},IntsAre vs ns->∀i,i<vs.length->∃t,vs[i]?=some (.int (ns.getD i 0) t)
 |_,_,.nil,i,h=>absurd h (by simp)
 |_,_,.cons n t r,0,h=>⟨t,rfl⟩
 |_,_,.cons n t r,i+1,h=>by obtain⟨u,e⟩:=Fy r i (by simpa using h);exact⟨u,e⟩
theorem Tv {ns ms:Li}{i:Nat}(h1:i<ns.length)(h2:i<ms.length):nu (ns.drop i) (ms.drop i)=if ns.getD i 0=ms.getD i 0 then nu (ns.drop (i+1)) (ms.drop (i+1)) else decide (ns.getD i 0<ms.getD i 0):=by rw[eG h1,eG h2];simp[nu,gQ,h1,h2]
theorem PQ {xs ys:Lv}{ns ms:Li}(l b:Addr)(n n2:Nat)(dd dd2:Option Addr)(sl sl2:Array (Option Value))(hi:IntsAre xs ns)(hj:IntsAre ys ms)(hsz:xs.length=ys.length)(k:Nat) :
  ∀i:Nat,xs.length-i=k->Meets (Builtin.«list.__eq__.loop» ⟨[.ref l,.ref b,rawInt i,rawInt 0],[]⟩)
   (λA R s=>s.heap.get? l=some { cls:=.type "list",dict:=dd,data:=.seq xs.toArray n,slots:=sl }/\s.heap.get? b=some { cls:=.type "list",dict:=dd2,data:=.seq ys.toArray n2,slots:=sl2 } /\
    R (.ok (.ret (.bool (nu (ns.drop i) (ms.drop i))))) s):=by
 have ln:=hi.length;have lm:=hj.length
 induction k with
 |zero=>
  intro i hk prog w A R s h;obtain⟨hp,g,d,tk,os⟩:=s;obtain⟨hl,hb,h⟩:=h
  wp_walk using wpAny_loadPart' hl,wpAny_loadPart' hb
  have hi1:xs.toArray[((i:Nat):Int).toNat]?=none:=by simp;lia
  have hi2:ys.toArray[((i:Nat):Int).toNat]?=none:=by simp;lia
  have hd:nu (ns.drop i) (ms.drop i)=false:=by rw[List.drop_of_length_le (by lia)];rfl
  rw[hd]at h;rw[hi1,hi2]
  wp_walk using wpAny_loadPart' hl,wpAny_loadPart' hb
  show R (.ok (.ret (.bool (decide (xs.toArray.size<ys.toArray.size))))) _;have:¬xs.toArray.size<ys.toArray.size:=by simp;lia
  rw[aI this];exact h
 |succ k ih=>
  intro i hk prog w A R s h;obtain⟨hp,g,d,tk,os⟩:=s;obtain⟨hl,hb,h⟩:=h
  wp_walk using wpAny_loadPart' hl,wpAny_loadPart' hb
  obtain⟨t,e1⟩:=Fy hi i (by lia);obtain⟨u,e2⟩:=Fy hj i (by lia);have hi1:xs.toArray[((i:Nat):Int).toNat]?=some (.int (ns.getD i 0) t):=by simpa using e1
  have hi2:ys.toArray[((i:Nat):Int).toNat]?=some (.int (ms.getD i 0) u):=by simpa using e2
  have hc:((i:Int)+1)=((i+1:Nat):Int):=by push_cast;rfl
  rw[Tv (by lia) (by lia)]at h;rw[hi1,hi2];refine aG (gS ?_);by_cases hz:ns.getD i 0=ms.getD i 0
  ·rw[af hz]at h;have hz':(ns.getD i 0 == ms.getD i 0)=true:=by simpa using hz
   rw[hz']
   wp_walk
   rw[hc];exact⟨plainId_quiet plain_eq_loop _,codeAny_builtin entry_eq_loop (by
    rw[Around.under_plainId plain_eq_loop _];exact ih (i+1) (by lia) prog w A R _ ⟨hl,hb,h⟩)⟩
  ·rw[ae hz]at h;have hz':(ns.getD i 0 == ms.getD i 0)=false:=by simpa using hz
   rw[hz']
   wp_walk using wpAny_loadPart' hl,wpAny_loadPart' hb
   rw[hi1,hi2];refine aG (wpAny_lt_int ?_)
   wp_walk
   exact h
theorem Oq (l b:Addr)(n n2:Nat)(dd dd2:Option Addr)(sl sl2:Array (Option Value))(hi:IntsAre xs ns)(hj:IntsAre ys ms)(hsz:xs.length=ys.length) :
  Meets (Builtin.«list.__lt__» ⟨[.ref l,.ref b],[]⟩)
   (λA R s=>s.heap.get? l=some { cls:=.type "list",dict:=dd,data:=.seq xs.toArray n,slots:=sl }/\s.heap.get? b=some { cls:=.type "list",dict:=dd2,data:=.seq ys.toArray n2,slots:=sl2 } /\
    R (.ok (.ret (.bool (nu ns ms)))) s):=by
 intro prog w A R s h;obtain⟨hp,g,d,tk,os⟩:=s;obtain⟨hl,hb,h⟩:=h;have f3:=PySem.AutoSeq1.sub_list_list
 wp_walk using wpAny_loadPart' hl,wpAny_loadPart' hb
 exact⟨plainId_quiet plain_eq_loop _,codeAny_builtin entry_eq_loop (by
  rw[Around.under_plainId plain_eq_loop _];exact PQ l b n n2 dd dd2 sl sl2 hi hj hsz _ 0 rfl prog w A R _ ⟨hl,hb,by simpa using h⟩)⟩
section
variable {prog:Program}{w:World}{A:Around}{E:Value->Shared->Prop}{s:Shared}{a b:Addr}{xs ys:List Value}{ns ms:List Int}{Q:Value->Shared->Prop}
theorem Lb (hl:s.heap.IsList a xs.toArray)(hb:s.heap.IsList b ys.toArray)(hi:IntsAre xs ns)(hj:IntsAre ys ms)(hsz:xs.length=ys.length)(hu:A.units<cLine)(h:Q (.bool (nu ns ms)) s) :
  wpAny (model prog w) A (compareOp .Lt (.ref a) (.ref b)) Q E s:=by
 obtain⟨⟨cls,dd,data,sl⟩,ho,hc,n,hd⟩:=id hl;obtain⟨⟨cls2,dd2,data2,sl2⟩,ho2,hc2,n2,hd2⟩:=id hb;simp only at hc hd hc2 hd2;subst hc hd hc2 hd2;exact richCompare_meets_room (op:=.Lt) ⟨_,ho,rfl⟩ ⟨_,ho2,rfl⟩ F.slot_list_lt F.entry_list_lt (F.args_list_lt_2 _ _) (Oq a b n n2 dd dd2 sl sl2 hi hj hsz)
  ⟨ho,ho2,show Value.bool (nu ns ms)≠Value.notImplemented/\Q (.bool (nu ns ms)) s from⟨(λx=>nomatch x),h⟩⟩ hu
end
def mX (a b:List Int):Bool:=if (a.length:Int)=(b.length:Int) then(if a=b then false else nu a b) else decide ((a.length:Int)<(b.length:Int))
section
variable {prog:Program}{w:World}{A:Around}{E:Value->Shared->Prop}{s:Shared}{Q:Bool->Shared->Prop}
theorem Zw (hx:IsTup s.heap x #[.int (ns.length:Int) tx,.ref gx])(hy:IsTup s.heap y #[.int (ms.length:Int) ty,.ref gy])(lx:s.heap.IsList gx xs.toArray)(ly:s.heap.IsList gy ys.toArray)
  (ix:IntsAre xs ns) (iy:IntsAre ys ms) (hu:A.units+64<cLine) (h:Q (mX ns ms) s):wpAny (model prog w) A (keyLt' (tuples' true) (.ref x) (.ref y)) Q E s:=by
 obtain⟨ox,ex,cx,nx,dx⟩:=hx;obtain⟨oy,ey,cy,ny,dy⟩:=hy;refine W.kat_lt ex dx ey dy (W.kat_cons (gS ?_));by_cases c:(ns.length:Int)=(ms.length:Int)
 ·have e:((ns.length:Int) == (ms.length:Int))=true:=by simpa using c
  rw[e];have hl:xs.length=ys.length:=by have:=ix.length;have:=iy.length;lia
  refine W.kat_yes (W.kat_cons (SeqAt.eqAt_reads _ _ _ _ _ _ _ _ (reads_newData lx (W.ke_carried ix)) (reads_newData ly (W.ke_carried iy)) (by simp[PyData.canLay0,hZ]) (by simp[PyData.canLay0,hZ]) (by
   simp only[PyData.depth,W.ke_depthAll];lia) _ _ _ _ ?_))
  have e2:PyData.eqv (.list (ns.map PyData.int)) (.list (ms.map PyData.int))=decide (ns=ms):=W.ked_eqvAll ns ms;rw[e2];unfold mX at h;rw[af c]at h;by_cases d:ns=ms
  ·rw[aK d];rw[af d]at h;exact W.kat_yes (W.kat_nil h)
  ·rw[aI d];rw[ae d]at h;exact W.kat_no (W.kat_one _ _ (Lb lx ly ix iy hl (by lia) h))
 ·have e:((ns.length:Int) == (ms.length:Int))=false:=by simpa using c
  rw[e];unfold mX at h;rw[ae c]at h;exact W.kat_no (oneLt_int h)
end
end L2
end
namespace L2
open PySem PySem.Spec PyProof.Rows PySem.W
def uX (n:Nat)(lt:Nat->Nat->Bool){α:Type}(Post:α->Prop):KasT α->Prop
 | .ret a=>Post a
 | .ask i j k=>i<n/\j<n/\uX n lt Post (k (lt i j))
section
variable {n:Nat}{lt:Nat->Nat->Bool}{α β:Type}
theorem uX.mono (h:∀a,P a->Q a):∀(t:KasT α),uX n lt P t->uX n lt Q t
 | .ret a,k=>h a k
 | .ask _ _ k,⟨a,b,c⟩=>⟨a,b,uX.mono h (k _) c⟩
theorem uX.bind {f:α->KasT β}{Q:β->Prop}:∀(t:KasT α),uX n lt (λa=>uX n lt Q (f a)) t->uX n lt Q (t.bind f)
 | .ret _,k=>k
 | .ask _ _ k,⟨a,b,c⟩=>⟨a,b,uX.bind (k _) c⟩
theorem uX.wp (hc:∀i j C,i<n->j<n->C (lt i j) s->cmp i j C s)(hq:∀a,P a->Q a s):∀(t:KasT α),uX n lt P t->t.kasWp cmp Q s
 | .ret a,k=>hq a k
 | .ask _ _ k,⟨a,b,c⟩=>hc _ _ _ a b (uX.wp hc hq (k _) c)
structure Vc (n:Nat)(lt:Nat->Nat->Bool):Prop where
 asy:∀i j,i<n->j<n->lt i j=true->lt j i=false
 tot:∀i j,i<n->j<n->i≠j->lt i j=false->lt j i=true
 tr:∀i j k,i<n->j<n->k<n->lt i j=true->lt j k=true->lt i k=true
def PR (n:Nat)(p:Array Nat):Prop:=p.toList.Perm (List.range n)
theorem PR.size (h:PR n p):p.size=n:=by have:=List.Perm.length_eq h;rw[aq,c9]at this;exact this
theorem Ab {p:Array Nat}{i:Nat}(h:i<p.size):p.getD i 0=p[i]:=by simp[Array.getD,h]
theorem PR.bd {p:Array Nat}(h:PR n p){i:Nat}(hi:i<n):p.getD i 0<n:=by
 rw[Ab (by rw[h.size];exact hi)];have:p[i]'(by rw[h.size];exact hi)∈p.toList:=by simp
 exact aY.mp (List.Perm.mem_iff h |>.mp this)
theorem PR.ne {p:Array Nat}(h:PR n p){i j:Nat}(hi:i<n)(hj:j<n)(hn:i≠j):p.getD i 0≠p.getD j 0:=by
 have s:=h.size;rw[Ab (by lia),Ab (by lia)];have nd:p.toList.Nodup:=(List.Perm.nodup_iff h).mpr gU;intro e;have l1:i<p.toList.length:=by rw[c9];lia
 have l2:j<p.toList.length:=by rw[c9];lia
 have:=(List.nodup_iff_pairwise_ne.mp nd |> cO.mp);rcases gq hn with q|q
 ·exact this i j l1 l2 q (by simpa using e)
 ·exact this j i l2 l1 q (by simpa using e.symm)
def Ox (lt:Nat->Nat->Bool)(p:Array Nat)(m:Nat):Prop:=∀i j,i<j->j<m->lt (p.getD i 0) (p.getD j 0)=true
theorem Ox.step (O:Vc n lt)(R:PR n p)(S:Ox lt p m)(hm:m<n)(h0:0<m)(h:lt (p.getD m 0) (p.getD (m-1) 0)=false):Ox lt p (m+1):=by
 have last:lt (p.getD (m-1) 0) (p.getD m 0)=true:=O.tot _ _ (R.bd hm) (R.bd (by lia)) (R.ne hm (by lia) (by lia)) h;intro i j hij hj;by_cases c:j<m
 ·exact S i j hij c
 ·have:j=m:=by lia
  subst this;by_cases d:i=j-1
  ·rw[d];exact last
  ·exact O.tr _ _ _ (R.bd (by lia)) (R.bd (by lia)) (R.bd hm) (S i (j-1) (by lia) (by lia)) last
theorem JZ (O:Vc n lt)(R:PR n p):∀(f m:Nat),0<m->m+f=n->Ox lt p m->uX n lt (λk=>m<=k/\k<=n/\Ox lt p k/\(k<n->lt (p.getD k 0) (p.getD (k-1) 0)=true)) (kas_asc p f m)
 |0,m,h0,hm,S=>⟨ao _,by lia,S,λh=>by lia⟩
 |f+1,m,h0,hm,S=>by
  refine⟨R.bd (by lia),R.bd (by lia),?_⟩;cases c:lt (p.getD m 0) (p.getD (m-1) 0) with
  |true=>dsimp only;rw[af rfl];exact⟨ao _,by lia,S,λ_=>c⟩
  |false=>dsimp only;rw[ae (by decide)];exact uX.mono (λk h=>⟨by lia,h.2⟩) _ (JZ O R f (m+1) (by lia) (by lia) (S.step O R (by lia) h0 c))
def ZL (lt:Nat->Nat->Bool)(p:Array Nat)(m:Nat):Prop:=∀i j,i<j->j<m->lt (p.getD j 0) (p.getD i 0)=true
theorem ZL.step (O:Vc n lt)(R:PR n p)(S:ZL lt p m)(hm:m<n)(h0:0<m)(last:lt (p.getD m 0) (p.getD (m-1) 0)=true):ZL lt p (m+1):=by
 intro i j hij hj;by_cases c:j<m
 ·exact S i j hij c
 ·have:j=m:=by lia
  subst this;by_cases d:i=j-1
  ·rw[d];exact last
  ·exact O.tr _ _ _ (R.bd hm) (R.bd (by lia)) (R.bd (by lia)) last (S i (j-1) (by lia) (by lia))
theorem Lp (O:Vc n lt)(R:PR n p):∀(f m:Nat),0<m->m+f=n->ZL lt p m->uX n lt (λr=>r.1=p/\r.2.2=0/\m<=r.2.1/\r.2.1<=n/\ZL lt p r.2.1) (kas_desc f p m 0)
 |0,m,h0,hm,S=>⟨rfl,rfl,ao _,by show m<=n;lia,S⟩
 |f+1,m,h0,hm,S=>by
  refine⟨R.bd (by lia),R.bd (by lia),?_⟩;cases c:lt (p.getD m 0) (p.getD (m-1) 0) with
  |true=>dsimp only;rw[af rfl,ae (by decide)];exact uX.mono (λr h=>⟨h.1,h.2.1,by have:=h.2.2.1;lia,h.2.2.2⟩) _ (Lp O R f (m+1) (by lia) (by lia) (S.step O R (by lia) h0 c))
  |false=>dsimp only;rw[ae (by decide)];have d:lt (p.getD (m-1) 0) (p.getD m 0)=true:=O.tot _ _ (R.bd (by lia)) (R.bd (by lia)) (R.ne (by lia) (by lia) (by lia)) c;refine⟨R.bd (by lia),R.bd (by lia),?_⟩;dsimp only;rw[d,af rfl];exact⟨rfl,rfl,ao _,by show m<=n;lia,S⟩
theorem getD_get {p:Array Nat}{i:Nat}:p.getD i 0=(p[i]?).getD 0:=by simp
theorem Sv {p:Array Nat}{m i:Nat}(hm:m<=p.size):(kas_rev p 0 m).getD i 0=if i<m then p.getD (m-1-i) 0 else p.getD i 0:=by
 rw[getD_get,getD_get,getD_get];unfold kas_rev;rw[getElem?_mirror_all hm];by_cases c:i<m
 ·rw[af ⟨be _,c⟩,af c];congr 2;lia
 ·rw[ae (λh=>c h.2),ae c]
theorem XX (R:PR n p):PR n (kas_rev p 0 m):=by have:=mirror_perm p 0 m ((m-0) / 2);exact(fZ.mp this).trans R
theorem Sy (O:Vc n lt)(R:PR n p)(h2:2<=n):uX n lt (λr=>PR n r.2/\1<=r.1/\r.1<=n/\Ox lt r.2 r.1) (kas_count n p):=by
 refine uX.bind _ (uX.mono (λk h=>?_) _ (JZ O R (n-1) 1 (by decide) (by lia) λi j a b=>by lia));obtain⟨h1,hk,S,L⟩:=h;by_cases c:k=n
 ·subst c;rw[af (by simp)];exact⟨R,by lia,ao _,S⟩
 ·rw[ae (by simpa using c)];by_cases d:k > 1
  ·rw[af d];refine⟨R.bd (by lia),R.bd (by lia),?_⟩;dsimp only;rw[S 0 (k-1) (by lia) (by lia),af rfl];exact⟨R,h1,hk,S⟩
  ·rw[ae d];have e:k=1:=by lia
   subst e;have D2:ZL lt p 2:=λi j a b=>by
    have e1:i=0:=by lia
    have e2:j=1:=by lia
    subst e1 e2;exact L (by lia)
   refine uX.bind _ (uX.mono (λr h=>?_) _ (Lp O R (n-2) 2 (by decide) (by lia) D2));obtain⟨p',m,q⟩:=r;obtain⟨e1,e2,h3,h4,D⟩:=h;have h3:2<=m:=h3;have h4:m<=n:=h4;subst e1 e2;show uX _ _ _ (if 0 > 0 then _ else kas_tail3 m n p');rw[ae (by decide)];have R':=XX (m:=m) R;have S':Ox lt (kas_rev p' 0 m) m:=λi j a b=>by rw[Sv (by rw[R.size];exact h4),Sv (by rw[R.size];exact h4),af (by lia),af b];exact D (m-1-j) (m-1-i) (by lia) (by show m-1-i<m;lia)
   refine uX.bind _ (uX.mono (λk h=>?_) _ (JZ O R' (n-m) m (by lia) (by lia) S'));exact⟨R',by show 1<=k;lia,h.2.1,h.2.2.1⟩
theorem Ay (O:Vc n lt)(R:PR n p)(hk:k<n)(S:Ox lt p k):∀(f l r:Nat),l<=r->r<=k->r-l<=f->(∀i,i<l->lt (p.getD i 0) (p.getD k 0)=true)->(∀i,r<=i->i<k->lt (p.getD k 0) (p.getD i 0)=true) ->
  uX n lt (λl=>l<=k/\(∀i,i<l->lt (p.getD i 0) (p.getD k 0)=true)/\∀i,l<=i->i<k->lt (p.getD k 0) (p.getD i 0)=true) (kas_place p k f l r)
 |0,l,r,h1,h2,h3,A,B=>by
  have:l=r:=by lia
  subst this;exact⟨h2,A,B⟩
 |f+1,l,r,h1,h2,h3,A,B=>by
  unfold kas_place;by_cases c:l ≥ r
  ·rw[af c];have:l=r:=by lia
   subst this;exact⟨h2,A,B⟩
  ·rw[ae c];refine⟨R.bd hk,R.bd (by lia),?_⟩;cases d:lt (p.getD k 0) (p.getD ((l+r) / 2) 0) with
   |true=>
    dsimp only;rw[af rfl];refine Ay O R hk S f l ((l+r) / 2) (by lia) (by lia) (by lia) A λi a b=>?_;by_cases e:i=(l+r) / 2
    ·rw[e];exact d
    ·exact O.tr _ _ _ (R.bd hk) (R.bd (by lia)) (R.bd (by lia)) d (S _ _ (by lia) b)
   |false=>
    dsimp only;rw[ae (by decide)];have d':=O.tot _ _ (R.bd hk) (R.bd (by lia)) (R.ne hk (by lia) (by lia)) d;refine Ay O R hk S f ((l+r) / 2+1) r (by lia) h2 (by lia) (λi a=>?_) B;by_cases e:i=(l+r) / 2
    ·rw[e];exact d'
    ·exact O.tr _ _ _ (R.bd (by lia)) (R.bd (by lia)) (R.bd hk) (S i ((l+r) / 2) (by lia) (by lia)) d'
theorem Qj {p:Array Nat}{k l i:Nat}(hk:k<p.size)(hl:l<=k):(bubble p k (k-l)).getD i 0=if i=l then p.getD k 0 else if l<i/\i<=k then p.getD (i-1) 0 else p.getD i 0:=by
 rw[getD_get,getElem?_bubble hk _ (by lia)];have e:k-(k-l)=l:=by lia
 rw[e];by_cases c:i=l
 ·rw[af c,af c,getD_get]
 ·rw[ae c,ae c];by_cases d:l<i/\i<=k
  ·rw[af d,af d,getD_get]
  ·rw[ae d,ae d,getD_get]
theorem Td (O:Vc n lt):∀(f:Nat) (p:Array Nat) (k:Nat),PR n p->k+f=n->Ox lt p k->uX n lt (λp=>PR n p/\Ox lt p n) (kas_bin f p k)
 |0,p,k,R,hk,S=>by
  have:k=n:=by lia
  subst this;exact⟨R,S⟩
 |f+1,p,k,R,hk,S=>by
  have sz:=R.size;refine uX.bind _ (uX.mono (λl h=>?_) _ (Ay O R (by lia) S k 0 k (be _) (ao _) (by lia) (λi a=>by lia) λi a b=>by lia));obtain⟨h1,A,B⟩:=h;have R':PR n (bubble p k (k-l)):=(fZ.mp (bubble_perm p k (k-l))).trans R;refine Td O f _ (k+1) R' (by lia) λi j a b=>?_;rw[Qj (by lia) h1,Qj (by lia) h1];by_cases c1:i=l
  ·rw[af c1,ae (by lia),af (by lia)];exact B _ (by lia) (by lia)
  ·rw[ae c1];by_cases c2:j=l
   ·rw[af c2,ae (by lia)];exact A _ (by lia)
   ·rw[ae c2];by_cases c3:l<i/\i<=k
    ·rw[af c3,af (by lia)];exact S _ _ (by lia) (by lia)
    ·rw[ae c3];by_cases c4:l<j/\j<=k
     ·rw[af c4];exact S _ _ (by lia) (by lia)
     ·rw[ae c4];exact S _ _ a (by lia)
theorem Wj (O:Vc n lt)(h2:2<=n):uX n lt (λp=>PR n p/\Ox lt p n) (kas_sort n):=by
 have R0:PR n (List.toArray (List.range n)):=List.Perm.refl _;refine uX.bind _ (uX.mono (λr h=>?_) _ (Sy O R0 h2));obtain⟨R,h1,h3,S⟩:=h;by_cases c:r.1<n
 ·rw[af c];have e:max r.1 1=r.1:=by lia
  rw[e];exact Td O _ _ _ R (by lia) S
 ·rw[ae c];have e:r.1=n:=by lia
  rw[e]at S;exact⟨R,S⟩
end
end L2
section
open PySem PySem.Spec PyProof.Rows
namespace L3
open L2
def WR (g:List Int):PV:=.tup [.int (g.length:Int),.ints g]
theorem Je:∀a:List Int,nu a a=false
 |[]=>rfl
 |x::a=>by show(if x=x then nu a a else _)=false;rw[af rfl,Je a]
theorem IK:∀a b:List Int,nu a b=true->nu b a=false
 |[],_,h=>by cases h
 |x::a,[],h=>by cases h
 |x::a,y::b,h=>by
  have h:(if x=y then nu a b else decide (x<y))=true:=h;show(if y=x then nu b a else decide (y<x))=false;by_cases c:x=y
  ·rw[af c]at h;rw[af c.symm];exact IK a b h
  ·rw[ae c]at h;have h:=bI h;rw[ae (ck c),aI (by lia)]
theorem GJ:∀a b:List Int,a.length=b.length->a≠b->nu a b=false->nu b a=true
 |[],[],_,h,_=>absurd rfl h
 |[],_::_,h,_,_=>by cases h
 |_::_,[],h,_,_=>by cases h
 |x::a,y::b,l,n,h=>by
  have h:(if x=y then nu a b else decide (x<y))=false:=h;show(if y=x then nu b a else decide (y<x))=true;by_cases c:x=y
  ·rw[af c]at h;rw[af c.symm];exact GJ a b (by simpa using l) (λz=>n (by rw[c,z])) h
  ·rw[ae c]at h;have h:=of_decide_eq_false h;rw[ae (ck c),aK (by lia)]
theorem Ml:∀a b c:List Int,nu a b=true->nu b c=true->nu a c=true
 |[],_,_,h,_=>by cases h
 |_::_,[],_,h,_=>by cases h
 |_::_,_::_,[],_,h=>by cases h
 |x::a,y::b,z::c,h,k=>by
  have h:(if x=y then nu a b else decide (x<y))=true:=h;have k:(if y=z then nu b c else decide (y<z))=true:=k;show(if x=z then nu a c else decide (x<z))=true;by_cases d:x=y
  ·subst d;rw[af rfl]at h;by_cases e:x=z
   ·rw[af e]at k ⊢;exact Ml a b c h k
   ·rw[ae e]at k ⊢;exact k
  ·rw[ae d]at h;have h:=bI h;by_cases e:y=z
   ·subst e;rw[ae d,aK h]
   ·rw[ae e]at k;have k:=bI k;rw[ae (by lia),aK (by lia)]
theorem pJ:mX a b=true ↔ a.length<b.length\/(a.length=b.length/\nu a b=true):=by
 unfold mX;by_cases c:(a.length:Int)=(b.length:Int)
 ·rw[af c];by_cases d:a=b
  ·subst d;rw[af rfl,Je];simp
  ·rw[ae d];constructor
   ·exact λh=>.inr ⟨by lia,h⟩
   ·rintro (h|h)
    ·lia
    ·exact h.2
 ·rw[ae c,decide_eq_true_iff];constructor
  ·exact λh=>.inl (by lia)
  ·rintro (h|h)<;>lia
theorem GD (h:mX a b=true):mX b a=false:=by
 cases k:mX b a with
 |false=>rfl
 |true=>
  rcases pJ.mp h with h|h<;>rcases pJ.mp k with k|k
  ·lia
  ·lia
  ·lia
  ·have:=IK _ _ h.2;rw[k.2]at this;cases this
theorem Bf (n:a≠b)(h:mX a b=false):mX b a=true:=by
 refine pJ.mpr ?_;by_cases c:b.length<a.length
 ·exact .inl c
 ·right;by_cases d:a.length<b.length
  ·rw[pJ.mpr (.inl d)]at h;cases h
  ·refine⟨by lia,GJ a b (by lia) n ?_⟩;cases k:nu a b with
   |false=>rfl
   |true=>rw[pJ.mpr (.inr ⟨by lia,k⟩)]at h;cases h
theorem Mu (h:mX a b=true)(k:mX b c=true):mX a c=true:=by
 refine pJ.mpr ?_;rcases pJ.mp h with h|h<;>rcases pJ.mp k with k|k
 ·left;lia
 ·left;lia
 ·left;lia
 ·exact .inr ⟨by lia,Ml _ _ _ h.2 k.2⟩
theorem W6 {gs:List (List Int)}(nd:gs.Nodup):Vc gs.length λi j=>mX (gs.getD i []) (gs.getD j []) where
 asy:=λ_ _ _ _ h=>GD h
 tot:=λi j hi hj n h=>Bf (λz=>n (by
  rw[gQ,gQ,ac hi,ac hj]at z;exact(List.getElem_inj nd).mp z)) h
 tr:=λ_ _ _ _ _ _ h k=>Mu h k
section
variable {X:Cx}{pins:List (Addr×Obj)}{σ:L2.St}{H:Hp}{s t:Shared}{D kS:Addr}{G:Gx}{O:Addr->Bool}
theorem Fj (I:Inv X pins σ H s)(e:s.heap.get? D=some o)(n:H D=none)(dl:D≠X.env.locals)(fs:D∉X.fs)(dc:∀v,o.data ≠ .cell v):Inv X ((D,o)::pins) σ H s:=
 { I with pin:=λp hp=>(c8.mp hp).elim (λhp=>I.pin p (cI _ hp)) λhp=>(aF.mp hp).elim (λz=>z ▸ ⟨e,n,dl,fs,dc⟩) λhp=>I.pin p (aN _ hp) }
theorem yh (I:Inv X (q::pins) σ H s):Inv X pins σ H s/\s.heap.get? q.1=some q.2/\H q.1=none:=by obtain⟨a,b,_⟩:=I.pin q (aN _ ah);exact⟨{ I with pin:=λp hp=>I.pin p ((c8.mp hp).elim (λhp=>cI _ hp) λhp=>aN _ (ad _ hp)) },a,b⟩
structure o6 (X:Cx)(pins:List (Addr×Obj))(D:Addr):Prop where
 big:X.s₀.heap.objs.size<=D
 loc:D≠X.env.locals
 cel:∀x c,X.env.cells.lookup x=some c->c≠D
 pin:∀p∈X.pn++pins,p.1≠D
 fs:D∉X.fs
theorem o6.of (I:Inv X pins σ H t)(h:t.heap.objs.size<=D):o6 X pins D where
 big:=aH I.sz h
 loc:=dM (aD I.lt h)
 cel:=λx c e=>by obtain⟨v,o,ho,_⟩:=I.cell x c e;exact bn (aD (aA ho) h)
 pin:=λp hp=>bn (aD (aA (I.pin p hp).1) h)
 fs:=I.nofs h
theorem vW (I:Inv X pins σ H s)(F:o6 X pins D)(sb:Heap.SameBut D s.heap h')(e:h'.get? D=some o')(n:H D=none):Inv X pins σ H { s with heap:=h' }:=by
 have kp:∀b o,b≠D->s.heap.get? b=some o->h'.get? b=some o:=λb o hb q=>by rw[sb.2 b hb];exact q
 have nD:∀b u,H b=some u->b≠D:=λb u q z=>by rw[z,n]at q;cases q
 refine I.step (ch:=[D]) (g':=s.gens) (d':=s.drawn) (t':=s.toks) (λb hb=>?_) (λb o _ _ hb q _=>kp b o (λz=>hb (bA.mpr z)) q) (λb o _ _ hb q _=>⟨o.slots,kp b o (λz=>hb (bA.mpr z)) q⟩) (λb o _ _ q=>q) (λb o _ q=>?_) (λb _ q=>q) (λb _ _ q=>q) (λb ps q=>⟨#[],by rw[q];simp⟩) (λm hm=>?_) (λb u q=>?_) I.bare
 ·rw[bA.mp hb];exact⟨.inr F.big,F.loc,F.cel,F.pin⟩
 ·by_cases z:b=D
  ·rw[z];exact⟨o',e⟩
  ·exact⟨o,kp b o z q⟩
 ·obtain⟨o,es,ep,ho,r⟩:=hm;exact⟨o,es,ep,kp _ _ (ck F.loc) ho,r⟩
 ·refine(I.hok b u q).stay (λc v hcb rr=>kp c v ?_ rr) (λc rr=>rr) (λc _ rr=>rr) λc _ _ rr=>rr;rcases hcb with rfl|hcb
  ·exact nD _ _ q
  ·exact nD _ _ hcb
theorem O9 (I:Inv X pins σ H s)(a:At X.K G (mn H O) (WR g) kv)(r:RelV kv k) :
  ∃x gx tx xs,k=.ref x/\IsTup s.heap x #[.int (g.length:Int) tx,.ref gx]/\s.heap.IsList gx xs.toArray/\IntsAre xs g:=by
 obtain⟨x,us,rfl,hx,u1,r1,rfl,h1,u2,r2,rfl,⟨gx,rfl,rd⟩,hn⟩:=a;subst hn h1;cases r;obtain⟨_,its2,rv,tup⟩:=I.hok x _ (qz hx).2;obtain⟨_,its,n,r3,_,e⟩:=L3.Inv.Bw I (jw jM rd);cases rv with
 |cons q0 q1=>
  cases q1 with
  |cons q2 q3=>cases q3;cases q2;obtain⟨tok,rfl⟩:=q0;exact⟨x,gx,tok,its,rfl,tup,⟨_,e,rfl,n,rfl⟩,nQ r3⟩
end
section
variable {X:Cx}{pins:List (Addr×Obj)}{σ:L2.St}{H:Hp}{s t:Shared}{D kS:Addr}{G:Gx}{O:Addr->Bool}{A:Around}{f:Value}{its:List Value}{gs:List (List Int)}{e1:Nat}{P:PySem.Fin->Shared->Prop}{E:Value->Shared->Prop}
def BX (its:List Value)(p:List Nat):List Value:=p.map λi=>its.getD i Value.none
def Q8 (X:Cx)(pins:List (Addr×Obj))(σ:L2.St)(H:Hp)(D:Addr)(its:List Value)(gs:List (List Int))(R:Shared->Prop):Prop:=
 ∀(H':Hp) (p:List Nat) (c:Nat) (s':Shared),Inv X pins σ H' s' -> Same H H' -> H' D=none->s'.heap.get? D=some (seqObj "list" (BX its p).toArray c)->p.Perm (List.range its.length)->p.Pairwise (λi j=>mX (gs.getD i []) (gs.getD j [])=true)->R s'
theorem Nt {st:SortSt}{ks:Lv}{p:List Nat}{e:Nat}(I:Inv X pins σ H s)(fD:o6 X pins D)(fK:o6 X pins kS)(ne:kS≠D)(hD:s.heap.get? D=some (seqObj "list" #[] e1))(hK:s.heap.get? kS=some (seqObj "list" ks.toArray e))(HD:H D=none)(HK:H kS=none)
  (h1:(arrOf st).map (·.2)=(BX its p).toArray) (h2:failedOf st=none) (hp:p.Perm (List.range its.length)) (hs:p.Pairwise (λi j=>mX (gs.getD i []) (gs.getD j [])=true)) (l1:ks.length<64) (l2:its.length<64) (fin:Q8 X pins σ H D its gs λs'=>P (.done (.ret .none)) s') :
  wpAny (model X.prog X.w) A (ksk_tail D false e1 (.ref kS) st) P E s:=by
 have s1:=eM s.heap kS (Obj.mapSeq λ_=>(#[]:Array Value));have g1:=get?_update_seq hK λ_=>(#[]:Array Value);have I1:=vW I fK s1 g1 HK;have hD1:(s.heap.update kS (Obj.mapSeq λ_=>(#[]:Array Value))).get? D=some (seqObj "list" #[] e1):=by rw[s1.2 D (ck ne)];exact hD
 have s2:=eM (s.heap.update kS (Obj.mapSeq λ_=>(#[]:Array Value))) D (Obj.mapSeq λ_=>(BX its p).toArray);have g2:=get?_update_seq hD1 λ_=>(BX its p).toArray;have I2:=vW I1 fD s2 g2 HD;have lp:(BX its p).length<64:=by unfold BX;rw[aa,hp.length_eq,aq];exact l2
 unfold ksk_tail;dsimp only;rw[h1];refine aG (gM hK rfl (aG (wpAny_letGo (aG (seqEpoch_at hD1 rfl (aG (gM hD1 rfl ?_ (be _) (by
  rw[ae (by decide),ay,dj];lia))))))) (by rw[ay,dj];lia) (be _))
 rw[h2];simp only[bne_self_eq_false,Bool.false_eq_true,ja];exact bW (fin H p _ _ I2 (Same.refl H) HD g2 hp hs)
theorem Mr:∀{ks:Lv},(∀k∈ks,∃x n tx gx,k=.ref x/\IsTup h x #[.int n tx,.ref gx])->∃fs,W.KatTups h ks fs/\fs.length=ks.length/\∀v∈fs,∃n tx,v=Value.int n tx
 |[],_=>⟨[],tJ,rfl,λ_ h=>by cases h⟩
 |k::ks,hk=>by
  obtain⟨fs,a,b,c⟩:=Mr λk' h'=>hk k' (ad _ h');obtain⟨x,n,tx,gx,rfl,o,eo,co,en,dn⟩:=hk k ah;refine⟨.int n tx::fs,W.KatTups.cons eo co dn rfl a,by rw[aR,aR,b],λv hv=>?_⟩;rcases aF.mp hv with rfl|hv
  ·exact⟨n,tx,rfl⟩
  ·exact c v hv
theorem VH (its:Lv):BX its (List.range its.length)=its:=by unfold BX;refine cu (by rw[aa,aq]) λi h1 h2=>?_;rw[bv,bq,gQ,ac h2];rfl
def XC (X:Cx)(G:Gx)(O:Addr->Bool)(H:Hp)(gs:List (List Int))(ks:List Value):Prop:=∀j,j<ks.length->∃kv k,ks[j]?=some k/\RelV kv k/\At X.K G (mn H O) (WR (gs.getD j [])) kv
theorem YG {e:Nat}(I:Inv X pins σ H s)(fD:o6 X pins D)(fK:o6 X pins kS)(ne:kS≠D)(hD:s.heap.get? D=some (seqObj "list" #[] e1))(hK:s.heap.get? kS=some (seqObj "list" ks.toArray e))(HD:H D=none)(HK:H kS=none)
  (kl:ks.length=its.length) (gl:gs.length=its.length) (kg:XC X G O H gs ks) (nd:gs.Nodup) (l2:its.length<64) (hu:A.units+64<cLine) (fin:Q8 X pins σ H D its gs λs'=>P (.done (.ret .none)) s') :
  wpAny (model X.prog X.w) A (ksk_end D false its.toArray e1 (.ref kS) ks.toArray) P E s:=by
 unfold ksk_end;simp only[Bool.false_eq_true,ja];by_cases n2:its.length<2
 ·rw[af (by rw[ay];exact n2),af (by rw[ay];exact n2)];refine aG (bW (aG (bW ?_)));refine Nt (p:=List.range its.length) I fD fK ne hD hK HD HK ?_ rfl (List.Perm.refl _) ?_ (by lia) l2 fin
  ·rw[VH];apply Array.toList_inj.mp;rw[Array.toList_map,ksk_zip];show List.map Prod.snd (ks.zip its)=its;exact List.map_snd_zip (by lia)
  ·refine cO.mpr λi j hi hj h=>?_;rw[aq]at hj;lia
 ·rw[ae (by rw[ay];exact n2),ae (by rw[ay];exact n2)];have facts:∀j,j<its.length->∃x gx tx xs,ks.getD j Value.none=.ref x/\IsTup s.heap x #[.int ((gs.getD j []).length:Int) tx,.ref gx]/\s.heap.IsList gx xs.toArray/\IntsAre xs (gs.getD j []):=λj hj=>by obtain⟨kv,k,ek,rk,ak⟩:=kg j (by lia);obtain⟨x,gx,tx,xs,rfl,r⟩:=O9 I ak rk;exact⟨x,gx,tx,xs,by rw[gQ,ek];rfl,r⟩
  obtain⟨fs,tu,fl,fi⟩:=Mr (h:=s.heap) (ks:=ks) λk hk=>by obtain⟨j,hj,rfl⟩:=b8.mp hk;obtain⟨x,gx,tx,xs,ex,t,_⟩:=facts j (by lia);rw[gQ,ac hj]at ex;exact⟨x,_,tx,gx,ex,t⟩
  refine aG (W.kat_kind (T:=.type "int") tu (by lia) (λv hv=>?_) (by decide) ?_)
  ·obtain⟨n,tx,rfl⟩:=fi v hv;exact W.Looks.of_pure rfl
  have hn:gs.length=its.length:=gl;have O1:=W6 nd;rw[hn]at O1;have ok:=Wj O1 (by lia);refine aG (fN (W.kat_run (G:=λp s'=>s'=s/\L2.PR its.length p/\L2.Ox (λi j=>mX (gs.getD i []) (gs.getD j [])) p its.length) (Q:=λst s'=>s'=s/\∃p:Array Nat,L2.PR its.length p/\L2.Ox (λi j=>mX (gs.getD i []) (gs.getD j [])) p its.length/\arrOf st=p.map (W.kas_item (ks.toArray.zip its.toArray))/\failedOf st=none) kl (by lia) l2 (λp st s' _ a b c=>⟨c.1,p,c.2.1,c.2.2,a,b⟩) ?_) (λr s' h=>?_) λ_ _ x=>x)
  ·refine uX.wp (λi j C hi hj hc=>?_) (λp hp=>⟨rfl,hp⟩) _ ok;obtain⟨x,gx,tx,xs,e1,t1,l1,i1⟩:=facts i hi;obtain⟨y,gy,ty,ys,e2,t2,l2,i2⟩:=facts j hj;show wpAny (model X.prog X.w) A (keyLt' (tuples' true) (ks.getD i Value.none) (ks.getD j Value.none)) C _ s;rw[e1,e2];exact Zw t1 t2 l1 l2 i1 i2 hu hc
  ·obtain⟨u,st⟩:=r;obtain⟨es,p,pr,srt,ar,nf⟩:=h;subst es;refine Nt (p:=p.toList) I fD fK ne hD hK HD HK ?_ nf pr ?_ (by lia) l2 fin
   ·exact W.kat_snds kl ar
   ·refine cO.mpr λi j hi hj h=>?_;have sz:=pr.size;rw[c9]at hi hj;have:=srt i j h (by lia);rw[Ab hi,Ab hj]at this;simpa using this
theorem Xa (I:Inv X pins σ H s)(fD:o6 X pins D)(fK:o6 X pins kS)(ne:kS≠D)(hD:s.heap.get? D=some (seqObj "list" #[] e1))(hK:s.heap.get? kS=some (seqObj "list" #[] 0))(HD:H D=none)(HK:H kS=none)
  (gl:gs.length=its.length) (nd:gs.Nodup) (l2:its.length<64) (hu:A.units+64<cLine)
  (key:∀(pins':List (Addr×Obj)) (H1:Hp) (s1:Shared) (i:Nat) (v:Value),its[i]?=some v->Inv X pins' σ H1 s1->(∀q∈pins,q∈pins')->Same H H1->wpAny (model X.prog X.w) A (call f [v]) (λk s'=>∃kv H',Inv X pins' σ H' s'/\Same H1 H'/\RelV kv k/\At X.K G (mn H' O) (WR (gs.getD i [])) kv) (λ_ _=>False) s1)
  (fin:Q8 X pins σ H D its gs λs'=>P (.done (.ret .none)) s') :
  wpAny (model X.prog X.w) A (ksk_rest D f false its.toArray e1 (.ref kS)) P E s:=by
 unfold ksk_rest;refine aG (wpAny_rule ?_)
 first
  |rw[List.forIn_toArray]
  |(rw[<- Array.forIn_toList];simp only[List.toList_toArray])
 refine aG (ksk_fold (λi s'=>∃ks H' e,Inv X pins σ H' s'/\Same H H'/\H' D=none/\H' kS=none/\s'.heap.get? D=some (seqObj "list" #[] e1)/\s'.heap.get? kS=some (seqObj "list" (List.toArray ks) e)/\ks.length=i/\XC X G O H' gs ks) its 0 s ⟨[],H,0,I,Same.refl H,HD,HK,hD,hK,rfl,λj hj=>by cases hj⟩ ?_ ?_)
 ·rintro j x s' hx ⟨ks,H',e,I',s1,d1,d2,o1,o2,lk,kg⟩;have jl:j<its.length:=(aj.mp hx).1;have Ip:=Fj (Fj I' o2 d2 fK.loc fK.fs λv z=>by cases z) o1 d1 fD.loc fD.fs λv z=>by cases z
  refine aG (wpAny_attempt (fN (key _ H' s' j x hx Ip (λq hq=>ad _ (ad _ hq)) s1) (λk s2 h=>?_) λ_ _ z=>z.elim));obtain⟨kv,H2,I2,q2,rk,ak⟩:=h;obtain⟨I3,o3,d3⟩:=yh I2;obtain⟨I4,o4,d4⟩:=yh I3;have sb:=eM s2.heap kS (Obj.mapSeq (·.push k));have g4:=get?_update_seq o4 (·.push k);have g4:(s2.heap.update kS (Obj.mapSeq (·.push k))).get? kS=some (seqObj "list" (List.toArray (ks++[k])) (if (((List.toArray ks).push k).size == (List.toArray ks).size)=true then e else e+1)):=g4.trans (by rw[show(List.toArray ks).push k=List.toArray (ks++[k]) by simp]);have I5:=vW I4 fK sb g4 d4;have o5:(s2.heap.update kS (Obj.mapSeq (·.push k))).get? D=some (seqObj "list" #[] e1):=by rw[sb.2 D (ck ne)];exact o3
  refine aG (gM o4 rfl (bW ⟨rfl,ks++[k],H2,_,I5,s1.trans q2,d3,d4,o5,g4,by rw[ai,lk];rfl,λi hi=>?_⟩) (by rw[ay,dj];lia) (by
   rw[Array.size_push,ay,dj];lia))
  rw[ai,bw]at hi;by_cases c:i<ks.length
  ·obtain⟨kv',k',a1,a2,a3⟩:=kg i c;exact⟨kv',k',by rw[aM c];exact a1,a2,At.mono (lA q2) _ _ a3⟩
  ·have:i=j:=by lia
   subst this;exact⟨kv,k,by rw[a7 (by lia),show i-ks.length=0 by lia];rfl,rk,ak⟩
 ·rintro s' ⟨ks,H',e,I',s1,d1,d2,o1,o2,lk,kg⟩;refine aG (listItems_at o2 rfl ?_);exact YG I' fD fK ne o1 o2 d1 d2 (by lia) gl kg nd l2 hu λH2 p c s2 a b d e f g=>fin H2 p c s2 a (s1.trans b) d e f g
theorem Vf (I:Inv X pins σ H s)(fD:o6 X pins D)(hD:s.heap.get? D=some (seqObj "list" its.toArray n0))(HD:H D=none)
  (gl:gs.length=its.length) (nd:gs.Nodup) (l2:its.length<64) (hu:A.units+64<cLine)
  (key:∀(pins':List (Addr×Obj)) (H1:Hp) (s1:Shared) (i:Nat) (v:Value),its[i]?=some v->Inv X pins' σ H1 s1->(∀q∈pins,q∈pins')->Same H H1->wpAny (model X.prog X.w) A (call f [v]) (λk s'=>∃kv H',Inv X pins' σ H' s'/\Same H1 H'/\RelV kv k/\At X.K G (mn H' O) (WR (gs.getD i [])) kv) (λ_ _=>False) s1)
  (fin:Q8 X pins σ H D its gs λs'=>P (.done (.ret .none)) s') :
  wpAny (model X.prog X.w) A (ksk_tree D f false) P E s:=by
 have s1:=eM s.heap D (Obj.mapSeq λ_=>(#[]:Array Value));have g1:=get?_update_seq hD λ_=>(#[]:Array Value);have I1:=vW I fD s1 g1 HD;have hn:(s.heap.update D (Obj.mapSeq λ_=>(#[]:Array Value))).objs.size<=((s.heap.update D (Obj.mapSeq λ_=>(#[]:Array Value))).push (seqObj "tuple" its.toArray 0)).objs.size:=by rw[size_push'];lia
 have I2:=I1.kept (h':=((s.heap.update D (Obj.mapSeq λ_=>(#[]:Array Value))).push (seqObj "tuple" its.toArray 0)).push (seqObj "list" #[] 0)) (t':=s.toks) λb o e=>az _ (az _ e);have fK:o6 X pins ((s.heap.update D (Obj.mapSeq λ_=>(#[]:Array Value))).push (seqObj "tuple" its.toArray 0)).objs.size:=o6.of I1 hn;have HK:H ((s.heap.update D (Obj.mapSeq λ_=>(#[]:Array Value))).push (seqObj "tuple" its.toArray 0)).objs.size=none:=I1.hok.fresh hn;have nKD:((s.heap.update D (Obj.mapSeq λ_=>(#[]:Array Value))).push (seqObj "tuple" its.toArray 0)).objs.size≠D:=dM (aD (aA g1) hn);unfold ksk_tree;refine aG (listItems_at hD rfl (aG (gM hD rfl (aG (seqEpoch_at g1 rfl (aG (wpAny_newTuple (aG (wpAny_newList (fM ?_) (be _))) (by show its.length<=_;rw[dj];lia))))) (by rw[ay,dj];lia) (be _))));exact Xa (s:={ s with heap:=((s.heap.update D (Obj.mapSeq λ_=>(#[]:Array Value))).push (seqObj "tuple" its.toArray 0)).push (seqObj "list" #[] 0) }) I2 fD fK nKD (az _ (az _ g1)) (bc _ rfl) HD HK gl nd l2 hu key fin
end
open Classical in
def jT (kf:PV->List Int)(ps:List PV):List PV:=if h:∃l:List PV,l.Perm ps/\l.Pairwise (λa b=>mX (kf a) (kf b)=true) then h.choose else[]
theorem M7 (kf:PV->List Int):∀{a b:List PV},a.Perm b->a.Pairwise (λx y=>mX (kf x) (kf y)=true)->b.Pairwise (λx y=>mX (kf x) (kf y)=true)->a=b
 |[],b,p,_,_=>(List.Perm.nil_eq p)
 |x::a,[],p,_,_=>absurd p.length_eq (by simp)
 |x::a,y::b,p,sa,sb=>by
  rw[cG]at sa sb;have e:x=y:=by
   have h1:x∈y::b:=p.mem_iff.mp ah;have h2:y∈x::a:=p.mem_iff.mpr ah;rcases aF.mp h1 with h1|h1
   ·exact h1
   rcases aF.mp h2 with h2|h2
   ·exact h2.symm
   have:=GD (sb.1 x h1);rw[sa.1 y h2]at this;cases this
  subst e;rw[M7 kf (List.Perm.cons_inv p) sa.2 sb.2]
theorem w5 (p:l.Perm ps)(o:l.Pairwise λa b=>mX (kf a) (kf b)=true):jT kf ps=l:=by have h:∃l:List PV,l.Perm ps/\l.Pairwise (λa b=>mX (kf a) (kf b)=true):=⟨l,p,o⟩;unfold jT;rw[iW h];have s:=h.choose_spec;exact M7 kf (s.1.trans p.symm) s.2 o
section
variable {X:Cx}{pins:List (Addr×Obj)}{σ:L2.St}{H:Hp}{s t:Shared}{D l:Addr}{G:Gx}{O:Addr->Bool}{f:Value}{its:List Value}{gs:List (List Int)}{E:Value->Shared->Prop}
theorem Oh (I:Inv X pins σ H s)(F:o6 X pins D)(n:H D=none)(e:s.heap.get? D=some (seqObj "list" its.toArray c))(rv:Vals vs its)(hl:vs.length<=sizeLine):Inv X pins σ (upd H D (.lst vs)) s:=by
 have nD:∀b u,H b=some u->b≠D:=λb u q z=>by rw[z,n]at q;cases q
 refine I.step (ch:=[D]) (h':=s.heap) (g':=s.gens) (d':=s.drawn) (t':=s.toks) (λb hb=>?_) (λb o _ _ _ q _=>q) (λb o _ _ _ q _=>⟨o.slots,q⟩) (λb o hb _ q=>?_) (λb o _ q=>⟨o,q⟩) (λb _ q=>?_) (λb _ _ q=>?_) (λb ps q=>⟨#[],?_⟩) (λm hm=>hm) (λb u q=>?_) I.bare
 ·rw[bA.mp hb];exact⟨.inr F.big,F.loc,F.cel,F.pin⟩
 ·rw[upd_ne (λz=>hb (bA.mpr z))];exact q
 ·rw[upd_ne (nD _ _ q)];exact q
 ·rw[upd_ne (nD _ _ q)];exact q
 ·rw[upd_ne (nD _ _ q),q];simp
 ·by_cases z:b=D
  ·subst z;rw[upd_same]at q;cases q;exact⟨hl,its,c,rv,e⟩
  ·rw[upd_ne z]at q;exact(I.hok b u q).stay (λc v _ rr=>rr) (λc rr=>by rw[upd_ne (nD _ _ rr)];exact rr) (λc _ rr=>by rw[upd_ne (nD _ _ rr)];exact rr) λc _ _ rr=>by rw[upd_ne (nD _ _ rr)];exact rr
theorem Tq (I:Inv X pins σ H t)(hl:t.heap.IsList l its.toArray)(gl:gs.length=its.length)(nd:gs.Nodup)(l2:its.length<64)(hu:X.A.in1.in1.units+64<cLine)
  (ht:∀x,Builtin.«list.sort» ⟨[.ref x],[(Str.ofString "key",f)]⟩=ksk_tree x f false)
  (key:∀(pins':List (Addr×Obj)) (H1:Hp) (s1:Shared) (i:Nat) (v:Value),its[i]?=some v->Inv X pins' σ H1 s1->(∀q∈pins,q∈pins')->Same H H1->wpAny (model X.prog X.w) X.A.in1.in1 (call f [v]) (λk s'=>∃kv H',Inv X pins' σ H' s'/\Same H1 H'/\RelV kv k/\At X.K G (mn H' O) (WR (gs.getD i [])) kv) (λ_ _=>False) s1)
  (fin:∀D,H D=none->o6 X pins D->Q8 X pins σ H D its gs λs'=>Q (.ref D) s') :
  wpAny (model X.prog X.w) X.A (call (.builtin "sorted") [.ref l] [(Str.ofString "key",f)]) Q E t:=by
 refine call_function_entry_kw kind_sorted plain_sorted entry_sorted (ksk_s1 _ _) ?_;unfold Builtin.«sorted»;have small:its.length<=sizeLine:=by rw[dj];lia
 refine aG (m:=checkCount "sorted" 1 1 _) (bW (aG (collect_list hl (aG (wpAny_newList ?_ small)) small)));generalize hh:(t.heap.push (seqObj "list" #[] 0)).update t.heap.objs.size (Obj.mapSeq (· ++ its.toArray))=h1;have sz:h1.objs.size=t.heap.objs.size+1:=by rw[<- hh,Heap.size_update,size_push']
 have kp:∀b o,t.heap.get? b=some o->h1.get? b=some o:=λb o q=>by have:=aA q;rw[<- hh,Heap.get?_update_ne _ _ _ _ (bn this),Heap.get?_push_ne _ _ _ (bn this)];exact q
 have I1:=I.kept (h':=h1.push (seqObj "list" its.toArray 0)) (t':=t.toks) λb o q=>az _ (kp b o q);have le:t.heap.objs.size<=h1.objs.size:=by lia
 have hD:(h1.push (seqObj "list" its.toArray 0)).get? h1.objs.size=some (seqObj "list" its.toArray 0):=bc _ rfl;have HD:H h1.objs.size=none:=I.hok.fresh le;have fD:=o6.of I le;refine aG (fM (wpAny_call_entry_kw slot_list_sort ⟨_,hD,rfl⟩ entry_list_sort ?_ (ksk_l1 _ _)));rw[ht];exact Vf (s:={ t with heap:=h1.push (seqObj "list" its.toArray 0) }) I1 fD hD HD gl nd l2 hu key λH' p c s' a b d e f g=>⟨_,rfl,bW ⟨_,rfl,fin _ HD fD H' p c s' a b d e f g⟩⟩
theorem Dl {ps:List PV}{xs:List V}{Q:VK}(kf:PV->List Int)(I:Inv X pins σ H t)(rd:Rd H l (.lst xs))(al:lN X.K G (mn H O) ps xs)(l64:ps.length<64)(nd:(ps.map kf).Nodup)(hu:X.A.in1.in1.units+64<cLine)
  (ht:∀x,Builtin.«list.sort» ⟨[.ref x],[(Str.ofString "key",f)]⟩=ksk_tree x f false)
  (key:∀(pins':List (Addr×Obj)) (H1:Hp) (s1:Shared) (p:PV) (v:V) (u:Value),p∈ps->At X.K G (mn H1 O) p v->RelV v u->Inv X pins' σ H1 s1->(∀q∈pins,q∈pins')->Same H H1 ->
   wpAny (model X.prog X.w) X.A.in1.in1 (call f [u]) (λk s'=>∃kv H',Inv X pins' σ H' s'/\Same H1 H'/\RelV kv k/\At X.K G (mn H' O) (WR (kf p)) kv) (λ_ _=>False) s1)
  (q:∀(a:Addr) (vs:List V) (H':Hp),Same H H' -> H a=none->H' a=some (.lst vs)->lN X.K G (mn H' (hide a O)) (jT kf ps) vs->Q (V.ref a) H') :
  wpAny (model X.prog X.w) X.A (call (.builtin "sorted") [.ref l] [(Str.ofString "key",f)]) (EP X pins σ Q) E t:=by
 obtain⟨_,its,n,r,hlen,e⟩:=L3.Inv.Bw I rd;have lps:ps.length=xs.length:=al.length;have gl:(ps.map kf).length=its.length:=by rw[aa];lia
 have gat:∀i,i<ps.length->∃p,ps[i]?=some p/\(ps.map kf).getD i []=kf p:=λi hi=>⟨ps[i],ac hi,by rw[gQ,aw,ac hi];rfl⟩;refine Tq (G:=G) (O:=O) I ⟨_,e,rfl,n,rfl⟩ gl nd (by lia) hu ht (λpins' H1 s1 i v hv I1 ip s1'=>?_) λD nD fD H' p c s' I' sm hD eD pr so=>?_
 ·have il:i<its.length:=(aj.mp hv).1;obtain⟨pp,ep,eg⟩:=gat i (by lia);obtain⟨xv,hxv,at1⟩:=al.at ep;obtain⟨v',hv',rl⟩:=r.get hxv;rw[hv]at hv';cases hv';rw[eg];exact key pins' H1 s1 pp xv v (aW ep) (At.mono (lA s1') _ _ at1) rl I1 ip s1'
 ·have pl:∀i∈p,i<its.length:=λi hi=>aY.mp (pr.mem_iff.mp hi);have get:∀i∈p,∃pp xv v,ps[i]?=some pp/\xs[i]?=some xv/\its[i]?=some v/\At X.K G (mn H O) pp xv/\RelV xv v:=λi hi=>by obtain⟨pp,ep,_⟩:=gat i (by have:=pl i hi;lia);obtain⟨xv,hxv,at1⟩:=al.at ep;obtain⟨v',hv',rl⟩:=r.get hxv;exact⟨pp,xv,v',ep,hxv,hv',at1,rl⟩
  have rv:Vals (p.map λi=>xs.getD i .non) (BX its p):=by
   unfold BX;clear so pr eD
   induction p with
   |nil=>exact .nil
   |cons i p ih=>obtain⟨pp,xv,v,a,b,c',d,e'⟩:=get i ah;refine .cons ?_ (ih (λi hi=>pl i (ad _ hi)) λi hi=>get i (ad _ hi));dsimp only;rw[gQ,gQ,b,c'];exact e'
  have sl:(p.map λi=>xs.getD i .non).length<=sizeLine:=by rw[aa,pr.length_eq,aq,dj];lia
  have I3:=Oh I' fD hD eD rv sl;have sD:Same H' (upd H' D (.lst (p.map λi=>xs.getD i .non))):=same_new hD _;have es:jT kf ps=p.map λi=>ps.getD i .non:=by
   refine w5 ?_ ?_
   ·have h1:(p.map λi=>ps.getD i .non).Perm ((List.range its.length).map λi=>ps.getD i .non):=pr.map _;have h2:((List.range its.length).map λi=>ps.getD i .non)=ps:=by refine cu (by rw[aa,aq];lia) λi h1 h2=>?_;rw[bv,bq,gQ,ac h2];rfl
    rw[h2]at h1;exact h1
   ·rw[cA];refine so.imp_of_mem λ{a b} ha hb h=>?_;obtain⟨pa,ea,ga⟩:=gat a (by have:=pl a ha;lia);obtain⟨pb,eb,gb⟩:=gat b (by have:=pl b hb;lia);rw[ga,gb]at h;rw[gQ,gQ,ea,eb];exact h
  refine⟨.ref D,_,I3,rfl,q D _ _ (sm.trans sD) nD upd_same ?_⟩;rw[es];refine lN.mono (lX (sm.trans sD) nD) _ _ ?_;clear so pr eD es sl I3 sD rv
  induction p with
  |nil=>exact rfl
  |cons i p ih=>obtain⟨pp,xv,v,a,b,c',d,e'⟩:=get i ah;refine⟨_,_,rfl,?_,ih (λi hi=>pl i (ad _ hi)) λi hi=>get i (ad _ hi)⟩;dsimp only;rw[gQ,gQ,a,b];exact d
end
end L3
namespace L2
section
variable {prog:Program}{w:World}{A:Around}{s:Shared}{Q:Value->Shared->Prop}{E:Value->Shared->Prop}
theorem Ow {f c' t fa:Addr}{its:Lv}{wv pm ctv:Value}{y q fn:Str}{params:Arguments}{scope:Scope}{p1 p2 p3 pf pc:Pos}{j:Nat}{K:Fg}{mg:Mg}{base:Heap}
  (ho:s.heap.get? f=some (W.kla_obj "<lambda>" q params (.Call (.Name fn pf) [.Subscript (.Name y p1) (.Constant (.int 0) j p2) p3] [] pc) scope [] pm c' ctv)) (hcd:s.heap.CodeRec (.ref c') q) (hroom:A.depth<recursionLimit) (hlim:s.heap.NoLimit)
  (hbind:bindArgs (W.kla_fn "<lambda>" q params (.Call (.Name fn pf) [.Subscript (.Name y p1) (.Constant (.int 0) j p2) p3] [] pc) scope [] pm (.ref c') ctv) ⟨[.ref t],[]⟩=pure [(y,.ref t)])
  (hloc:scope.names.lookup y=some .local) (hnc:∀z∈scope.names,z.2 ≠ .cell) (hk:scope.kind=.function) (hco:scope.isCoroutine=false) (hgen:scope.isGenerator=false) (hyd:(y == ("__debug__":Str))=false)
  (hgl:scope.names.lookup fn=some .globalImplicit) (hfd:(fn == ("__debug__":Str))=false) (hmod:s.heap.Ns mainGlobals mg) (hm:mg fn=some (.ref fa)) (hKb:K.In base) (hkeep:W.keepIn K (.ref fa)=true)
  (he:starEach [.Subscript (.Name y p1) (.Constant (.int 0) j p2) p3] (W.envX q scope s.heap.objs.size f (.ref c') [])=(false,eval (.Subscript (.Name y p1) (.Constant (.int 0) j p2) p3) (W.envX q scope s.heap.objs.size f (.ref c') []))::starEach [] (W.envX q scope s.heap.objs.size f (.ref c') []))
  (tup:IsTup s.heap t its.toArray) (hi:its[0]?=some wv) (kin:∀h',(∀b o,s.heap.get? b=some o->h'.get? b=some o)->K.In h')
  (h:∀h' tk o es ep,(∀b o,s.heap.get? b=some o->h'.get? b=some o)->h'.get? s.heap.objs.size=some o->o.data=.dict es ep->s.heap.objs.size<h'.objs.size->wpAny (model prog w) (A.deeper (W.envX q scope s.heap.objs.size f (.ref c') [])) (call (.ref fa) [wv]) Q (λ_ _=>False) { s with heap:=h',toks:=tk }) :
  wpAny (model prog w) A (call (.ref f) [.ref t]) Q E s:=by
 refine ig (ik hroom ho rfl hco hgen rfl hcd ?_);rw[hbind];refine bW (fI hnc (λz hz=>?_) (λh₁ hns hsb=>⟨hlim.fresh _ hsb,?_⟩) hk)
 ·rw[bA.mp hz];exact hloc
 have hk₁:∀b o,s.heap.get? b=some o->h₁.get? b=some o:=λb o e=>hsb.extBut b o (bn (aA e)) (az _ e);refine im ?_;have tup1:IsTup h₁ t its.toArray:=by obtain⟨o,e,r⟩:=tup;exact⟨o,hk₁ _ _ e,r⟩
 have len:0<its.length:=(aj.mp hi).1;have hlt:=hns.lt;refine cD (dY hk hgl (Calls.loadGlobal_global (hmod.keeps hk₁) hm ?_) hfd);refine dF (h₀:=base) hKb hkeep ?_ he rfl;refine args_cons (Subscript_ (ie (d8 hk hloc hns (v:=.ref t) ?_ ?_) hyd)) he
 ·simp
 refine f6 ?_;refine dD (x:=wv) tup1.typeIs slot_tuple_getitem.lookup (getItem_tuple (j:=0) (Q:=λr s'=>r=wv/\_) tup1 (by decide) (by decide) ?_ (by simpa using hi) ⟨rfl,?_⟩) rfl
 ·rw[ay];unfold seqIndex?;have:(0:Int)<(its.length:Int):=by lia
  simp[this];exact λz=>by rw[z]at len;cases len
 ·obtain⟨o,es,ep,e,d,_⟩:=hns;refine args_nil ⟨kin h₁ hk₁,?_⟩;exact fN (h _ _ o es ep hk₁ e d hlt) (λ_ _ x=>x) λ_ _ x=>x.elim
end
end L2
namespace L3
open L2
section
variable {X:Cx}{pins:List (Addr×Obj)}{σ:L2.St}{H:Hp}{s:Shared}{G:Gx}{O:Addr->Bool}{A:Around}{pre:List PV->Prop}{F:List PV->PV}{j k:Nat}{fn:Str}{x:Str}
theorem Mv {outer:List Env}{ch:List Addr}{fa:Addr}{fd:FuncData}{p:PV}{v:V}{u:Value}(FF:FnOk X.prog X.w X.K X.mg X.base CX0 j fa fd [x] (zc X.K G pre F))(hb:Binds X.K fd [x] [])(hr:Room j A)(e0:Env0 X.prog X.w X.K X.mg X.base A outer s H)(I:Inv X pins σ H s)
  (ho:∀b∈frs outer,b∈frs X.stack\/b∈ch) (hch:∀b∈ch,o6 X pins b) (dom:∀a,O a=true->H a≠none) (at1:At X.K G (mn H O) p v) (rl:RelV v u) (hp:pre [p]) :
  wpAny (model X.prog X.w) A (call (.ref fa) [u]) (λk s'=>∃kv H',Inv X pins σ H' s'/\Same H H'/\RelV kv k/\At X.K G (mn H' O) (F [p]) kv) (λ_ _=>False) s:=by
 refine ig (f7 (FF.run A outer s H ⟨[u],[]⟩ [u] [v] (λkv H'=>Same H H'/\At X.K G (mn H' O) (F [p]) kv) (λ_ _ _=>False) hr e0 (hb s [u] I.kIn rfl) (.cons rl .nil) ⟨[p],O,dom,⟨v,[],rfl,at1,rfl⟩,hp,λkv H' a b=>⟨a,b⟩⟩) λr s' hq=>?_);cases r with
 |error e=>exact False.elim hq
 |ok fl=>
  cases fl with
  |ret u=>
   obtain⟨kv,H',os,bare,un,hok,r,q1,q2⟩:=hq;refine⟨kv,H',I.call' (ch:=ch) os ⟨λb o e n h1 h2=>un.keep b o e n (λz=>(ho b z).elim h1 h2) (by simp),λb o e n h1 h2=>?_,λb o e n _=>un.free b o e n (by simp),λb o e _=>un.there b o e (by simp),un.tups,un.frzs,un.tbls⟩ hok bare λb hb=>?_,q1,r,q2⟩
   ·exact un.any e n (by simp)
   ·have F:=hch b hb;exact⟨.inr F.big,F.loc,F.cel,F.pin⟩
  |next=>exact False.elim hq
  |brk=>exact False.elim hq
  |cont=>exact False.elim hq
end
structure ZX (kf:PV->List Int)(ps:List PV):Prop where
 len:ps.length<64
 nd:(ps.map kf).Nodup
def KC:PV->PV
 | .tup (x::_)=>x
 |_=>.non
section
variable {X:Cx}{G:Gx}{a:Expr}{pos p pk kp posL p1 p2 p3 pf pc:Pos}{Ca:En->Prop}{ga:En->PV}{i j k:Nat}{x y fn:Str}{params:Arguments}{scope:Scope}{pre:List PV->Prop}{F:List PV->PV}
theorem Tw (kf:PV->List Int)(o:Ok X.prog X.w X.K X.mg X.base j fn [x] (zc X.K G pre F))(hr:Room k X.A)(hm:X.mg "sorted"=none)(ha:PE X a (tX X.K G Ca ga))(hj:j+2<=k:=by decide)(hgf:Gl X fn:=by rfl)(hdb:(fn == ("__debug__":Str))=false:=by decide)(hg:Gl X "sorted":=by rfl)(he:starEach [a] X.env=[(false,eval a X.env)]:=by rfl) :
  PE X (.Call (.Name "sorted" p) [a] [⟨some "key",.Name fn pk,kp⟩] pos) (yV X.K G (λZ=>Ca Z/\ga Z=.lst (rP (ga Z))/\ZX kf (rP (ga Z))/\∀q∈rP (ga Z),pre [q]/\F [q]=WR (kf q)) λZ=>jT kf (rP (ga Z))):=by
 intro pins s σ H Q I ⟨B,Z,O,R,c,q⟩;refine cD (ld_blt I hg hm xM ?_ (by decide) (by decide));refine eU (thn (pa_cons ha pa_nil he pos pins s σ H (λvs H'=>∃l xs,vs=[.ref l]/\Same H H'/\Rd (mn H' O) l (.lst xs)/\lN X.K G (mn H' O) (rP (ga Z)) xs) I ⟨B,Z,O,R,c.1,λv H1 s1 a1=>?_⟩) λus t1 h=>?_) (by rw[he];rfl) (by rw[he];rfl)
 ·rw[c.2.1]at a1;obtain⟨l,xs,rfl,r1,al⟩:=a1;exact⟨l,xs,rfl,s1,r1,al⟩
 obtain⟨vs,H1,I1,rv,l,xs,rfl,s1,rd,al⟩:=h;obtain⟨u,rfl,ru⟩:=vals1 rv;cases ru;obtain⟨_,_,PO,PF⟩:=c;have q:∀(a:Addr) (vs:List V) (H':Hp),Same H H' -> H a=none->H' a=some (HO.lst vs)->lN X.K G (mn H' (hide a O)) (jT kf (rP (ga Z))) vs->Q (V.ref a) H':=q;generalize rP (ga Z)=ps at *
 obtain⟨fa,fd,FF,hb,hkp,hmg⟩:=o.ex;refine kws_cons (ld_glob I1 hgf hmg (kws_nil ?_) hdb);have hr2:Room (j+2) X.A:=hr.mono hj;have dom:∀a,O a=true->H1 a≠none:=(R.grow s1).dom;refine Dl kf I1 (jw jM rd) al PO.len PO.nd hr2.in1.in1.units (λx=>ksk_t1 _ _) (λpins' H2 s2 pp v u hp at1 rl I2 _ sm=>?_) λa vs H' sm n e alv=>q a vs H' (s1.trans sm) (s1.free n) e alv;obtain⟨g1,g2⟩:=PF pp hp;have:=Mv (O:=O) (ch:=[]) FF hb hr2.in1.in1 I2.env0.in1.in1 I2 (λb z=>.inl z) (λb z=>absurd z (by simp)) (λa z y=>dom a z (sm.free y)) at1 rl g1;rw[g2]at this;exact this
theorem QT (kf:PV->List Int)(o:Ok X.prog X.w X.K X.mg X.base j fn [x] (zc X.K G pre F))(hl:N5 X.K X.env.code (X.env.qual++"<lambda>"))(hr:Room k X.A)(hm:X.mg "sorted"=none)(ha:PE X a (tX X.K G Ca ga))(hj:j+3<=k:=by decide)(hdb:(fn == ("__debug__":Str))=false:=by decide)(hg:Gl X "sorted":=by rfl)(he:starEach [a] X.env=[(false,eval a X.env)]:=by rfl)
  (hdef:defaultsOf params X.env=([],[]):=by rfl) (hcl:closureFor scope X.env=pure []:=by rfl)
  (hbind:∀(pm ctv:Value) (c' t:Addr),bindArgs (W.kla_fn "<lambda>" (X.env.qual++"<lambda>") params (.Call (.Name fn pf) [.Subscript (.Name y p1) (.Constant (.int 0) i p2) p3] [] pc) scope [] pm (.ref c') ctv) ⟨[.ref t],[]⟩=pure [(y,.ref t)]:=by intros;rfl)
  (hse:∀env:Env,starEach [.Subscript (.Name y p1) (.Constant (.int 0) i p2) p3] env=(false,eval (.Subscript (.Name y p1) (.Constant (.int 0) i p2) p3) env)::starEach [] env:=by intros;rfl)
  (hloc:scope.names.lookup y=some .local:=by rfl) (hnc:∀z∈scope.names,z.2 ≠ .cell:=by decide) (hk:scope.kind=.function:=by rfl) (hco:scope.isCoroutine=false:=by rfl) (hgen:scope.isGenerator=false:=by rfl) (hyd:(y == ("__debug__":Str))=false:=by decide) (hgl:scope.names.lookup fn=some .globalImplicit:=by rfl) :
  PE X (.Call (.Name "sorted" p) [a] [⟨some "key",.Lambda params (.Call (.Name fn pf) [.Subscript (.Name y p1) (.Constant (.int 0) i p2) p3] [] pc) scope posL,kp⟩] pos) (yV X.K G (λZ=>Ca Z/\ga Z=.lst (rP (ga Z))/\ZX kf (rP (ga Z))/\∀q∈rP (ga Z),(∃r,q=.tup (KC q::r))/\pre [KC q]/\F [KC q]=WR (kf q)) λZ=>jT kf (rP (ga Z))):=by
 intro pins s σ H Q I ⟨B,Z,O,R,c,q⟩;refine cD (ld_blt I hg hm xM ?_ (by decide) (by decide));refine eU (thn (pa_cons ha pa_nil he pos pins s σ H (λvs H'=>∃l xs,vs=[.ref l]/\Same H H'/\Rd (mn H' O) l (.lst xs)/\lN X.K G (mn H' O) (rP (ga Z)) xs) I ⟨B,Z,O,R,c.1,λv H1 s1 a1=>?_⟩) λus t1 h=>?_) (by rw[he];rfl) (by rw[he];rfl)
 ·rw[c.2.1]at a1;obtain⟨l,xs,rfl,r1,al⟩:=a1;exact⟨l,xs,rfl,s1,r1,al⟩
 obtain⟨vs,H1,I1,rv,l,xs,rfl,s1,rd,al⟩:=h;obtain⟨u,rfl,ru⟩:=vals1 rv;cases ru;obtain⟨cc,P,hcode,hx⟩:=hl;obtain⟨_,_,PO,PF⟩:=c;have q:∀(a:Addr) (vs:List V) (H':Hp),Same H H' -> H a=none->H' a=some (HO.lst vs)->lN X.K G (mn H' (hide a O)) (jT kf (rP (ga Z))) vs->Q (V.ref a) H':=q;generalize rP (ga Z)=ps at *
 obtain⟨fa,fd,FF,hb,hkp,hmg⟩:=o.ex;refine kws_cons (Iw I1 hcode hx rfl hdef hcl _ λf c' ctv H2 t2 I2 kp2 tb2 hf fn0 fz os fnew=>kws_nil ?_);have s2:Same H1 H2:=λb o e=>by cases o<;>first|exact kp2 b _ e (λt z=>by cases z)|(obtain⟨ps',z⟩:=tb2 b _ e;exact⟨ps',z⟩)
 have hr2:Room (j+3) X.A:=hr.mono hj;have dom:∀a,O a=true->H2 a≠none:=λa z y=>(R.grow s1).dom a z (s2.free y);have fF:=o6.of I1 fnew;have Ip:=Fj I2 hf fn0 fF.loc fF.fs λv z=>by cases z
 obtain⟨oc,fu,fz1,fz2⟩:=fz;refine fN (Dl (Q:=Q) kf Ip (jw (jM.trans s2) rd) (lN.mono (lA s2) _ _ al) PO.len PO.nd (hr2.mono (by lia:j+2<=j+3)).in1.in1.units (λx=>ksk_t1 _ _) (λpins' H3 s3 pp v u hp at1 rl I3 ip sm=>?_) λa vs H' sm n e alv=>q a vs H' ((s1.trans s2).trans sm) ((s1.trans s2).free n) e alv) (λr s' h=>?_) λ_ _ z=>z
 ·obtain⟨⟨rr,er⟩,g1,g2⟩:=PF pp hp;rw[er]at at1;obtain⟨t,us,rfl,ht,ux,ur,rfl,ax,au⟩:=at1;cases rl;obtain⟨_,its2,r2,tup⟩:=I3.hok t _ (qz ht).2;cases r2 with
  |cons q0 q1=>
   have hf3:=(I3.pin (f,_) (aN _ (ip _ ah))).1;have hc3:H3 c'=some (.frz oc fu):=by have:=sm c' _ fz1;exact this
   have A1:Room (j+1) X.A.in1.in1:=hr2.in1.in1;refine Ow (mg:=X.mg) (K:=X.K) (base:=X.base) hf3 (Ac.rec (I3.hok c' _ hc3).1 fz2) A1.depth (I3.ok.mod.nolimit.keeps I3.bk) (hbind _ _ _ _) hloc hnc hk hco hgen hyd hgl hdb (I3.mod.glob.keeps I3.bk) hmg I3.mod.kin hkp (hse _) tup rfl (λh' kk=>λb o e=>kk b o (I3.kIn b o e)) λh' tk o es ep kk eL dL lt=>?_;have I4:=I3.kept (h':=h') (t':=tk) kk;have fL:=o6.of I3 (ao s3.heap.objs.size);have HL:H3 s3.heap.objs.size=none:=I3.hok.fresh (ao _);have bL:X.base.get? s3.heap.objs.size=none:=Heap.get?_none_of_le (aH I3.env0.bsz (ao _));have e0:=I4.env0.in1.in1;have:=Mv (O:=O) (ch:=[s3.heap.objs.size]) (outer:=W.envX (X.env.qual++"<lambda>") scope s3.heap.objs.size f (.ref c') []::X.stack) (A:=X.A.in1.in1.deeper (W.envX (X.env.qual++"<lambda>") scope s3.heap.objs.size f (.ref c') [])) FF hb (A1.deeper _)
    ⟨by
     show Option.map _ X.A.in1.in1.frames=_;rw[e0.frames];rfl,e0.mod,e0.bs,e0.bsz,⟨(λz=>nomatch hk.symm.trans (show scope.kind=.module from z)),⟨s3.heap.objs.size,o,rfl,bL,eL,λvs z=>by rw[dL]at z;cases z⟩,e0.funs⟩,⟨λb hb=>(aF.mp hb).elim (λz=>by rw[z];exact HL) λz=>e0.frf.f b z,e0.frf.t⟩,e0.hok,e0.bare⟩
    I4 (λb z=>(aF.mp z).elim (λz=>.inr (by rw[z];exact bA.mpr rfl)) λz=>.inl z) (λb z=>by rw[bA.mp z];exact fL) (λa z y=>dom a z (sm.free y)) ax q0 g1
   rw[g2]at this;exact this
 ·obtain⟨v,H',I',rv,qv⟩:=h;exact⟨v,H',(yh I').1,rv,qv⟩
end
section
variable {K:Fg}{G:Gx}{σ:L2.St}{H:Hp}{Q:VK}{Cs Ct Cb:En->Prop}{pt:En->Prop}[∀Z,Decidable (pt Z)]{gn:En->Int}{gp:En->PV}{cap:List (Option Nat)}
theorem aay (h:yV K G (λZ=>Cs Z/\(0<=gn Z/\gn Z<=10000)/\∀k:Nat,k<(gn Z).toNat->Ct ((jC (none::cap) Z).set 0 (.fr (.int k)))/\(pt ((jC (none::cap) Z).set 0 (.fr (.int k)))->Cb ((jC (none::cap) Z).set 0 (.fr (.int k)))))
   (λZ=>((List.range (gn Z).toNat).filter λ(k:Nat)=>decide (pt ((jC (none::cap) Z).set 0 (.fr (.int k))))).map λ(k:Nat)=>gp ((jC (none::cap) Z).set 0 (.fr (.int k)))) σ H Q) :
  Su (none::cap) (iRng1 (tCons (lY K G Cs gn) tNil)) (gName 0) (uR K G Ct pt) (tX K G Cb gp) σ H Q:=by
 obtain⟨B,Z,O,R,⟨c1,c2,c3⟩,q⟩:=h;refine⟨B,Z,O,R,c1,λv H1 s1 a1=>?_⟩;subst a1;have hz:(List.range (gn Z).toNat).length=(gn Z).toNat:=aq;refine⟨gn Z,rfl,by lia,by lia,λD hD=>?_⟩;refine Ig (List.range (gn Z).toNat) (λ_ v=>(pI (none::cap) σ).set 0 (some v)) (λ(k:Nat)=>(jC (none::cap) Z).set 0 (.fr (.int k))) (λ(k:Nat)=>.int k) (R.grow s1) hD (by rw[hz];lia) (λi H hi s=>by rw[hz]at hi;exact hi) ?_ (λH s=>by rw[hz];exact ao _) (λk H _ s R'=>R'.set (p:=.int k) rfl) ?_ (λk hk=>(c3 k (aY.mp hk)).1) (λk hk=>(c3 k (aY.mp hk)).2) ?_
 ·rintro i k x H H' en s ⟨rfl,rfl⟩;have hlt:i<(gn Z).toNat:=by have:=(aj.mp en).1;rw[hz]at this;exact this
  rw[cg hlt]at en;cases en;refine⟨Same.refl _,λkk hk=>?_⟩;have e:(0:Int)+(i:Nat)=i:=by lia
  rw[e];exact hk
 ·intro k;exact mQ _
 ·intro H' ys s hd al;exact q D ys H' (s1.trans s) (s1.free hD) hd al
end
section
variable {X:Cx}{G:Gx}{N':List Str}{sc:Scope}{cl:List (Str×Addr)}{cap:List (Option Nat)}{el tg src tst:Expr}{at' p pos':Pos}{Cs Ct Cb:En->Prop}{pt:En->Prop}[∀Z,Decidable (pt Z)]{gn:En->Int}{gi:En->Int}
theorem Vw (L:vG X N' sc cl (none::cap))(hc:X.calm=true)(hgl:Gl X "range")(hm:X.mg "range"=none)(hi:PE X src (lY X.K G Cs gn))(hg:∀s H fp,PG (jB X N' sc cl s H fp) tg (gName 0))(ht:∀s H fp,PT (jB X N' sc cl s H fp) tst (uR X.K G Ct pt))(he:∀s H fp,PE (jB X N' sc cl s H fp) el (lY X.K G Cb gi))
  (hst:starEach [src] X.env=[(false,eval src X.env)]:=by rfl) (hs:∀x,foldedSetIterable (.Call (.Name "range" p) [src] [] pos') X.env x=pure x:=by intro _;rfl) :
  PE X (.ListComp el [⟨tg,.Call (.Name "range" p) [src] [] pos',[tst],0⟩] sc at') (CT X.K G (λZ=>Cs Z/\(0<=gn Z/\gn Z<=10000)/\∀k:Nat,k<(gn Z).toNat->Ct ((jC (none::cap) Z).set 0 (.fr (.int k)))/\(pt ((jC (none::cap) Z).set 0 (.fr (.int k)))->Cb ((jC (none::cap) Z).set 0 (.fr (.int k)))))
   λZ=>((List.range (gn Z).toNat).filter λ(k:Nat)=>decide (pt ((jC (none::cap) Z).set 0 (.fr (.int k))))).map λ(k:Nat)=>gi ((jC (none::cap) Z).set 0 (.fr (.int k)))):=
 λpins s σ H Q I h=>yo L hc (pi_range1 hgl hm (pa_cons hi pa_nil hst) hst) hg (λs H fp=>NP (ht s H fp)) he hs pins s σ H Q I (aay (Gk h))
end
theorem BV:¬(some NameKind.cell:Option NameKind)=some NameKind.local:=nofun
theorem oX {N ps:Ls}{sc:Scope}(a:sc.kind=.function:=by rfl)(b:sc.isCoroutine=false:=by rfl)(c:sc.isGenerator=false:=by rfl)(d:N.Nodup:=by decide +kernel)(e:N.take ps.length=ps:=by rfl)(f:∀x∈ps,sc.names.lookup x=some .local\/sc.names.lookup x=some .cell:=by decide +kernel)(g:∀y∈sc.names,y.2 ≠ .free:=by decide +kernel):FnScope N ps sc:=⟨a,b,c,d,e,f,g⟩
theorem pO (i:Nat){X:Cx}{x:Str}{pos:Pos}(hN:X.N.Nodup:=by(dsimp only[jB];decide +kernel))(hi:X.N[i]?=some x:=by rfl)(hx:Loc X.env.scope x:=by exact Or.inl rfl)(hf:X.fn x=true\/X.env.scope.names.lookup x=some .local:=by exact .inr rfl):PG X (.Name x pos) (gName i):=pg_name hN hi hx hf
def V9 (K:Fg)(G:Gx)(pre:List PV->Prop)(F:List PV->PV):Sp:=λvs H Q _=>∃q f O v0 v1,vs=[v0,v1]/\(∀a,O a=true->H a≠none)/\At K G (mn H O) q v0/\At K G H (.ints f) v1/\pre [q,.ints f]/\∀v H',Same H H' -> At K G (mn H' O) (F [q,.ints f]) v->Q v H'
def zL (n:Nat)(q:PV)(f:List Int):En:=.fr q :: .rd (.ints f)::List.replicate n .un
theorem Jw {K:Fg}{G:Gx}{H:Hp}{O:Addr->Bool}{q:PV}{f:Li}{v0 v1:V}{x y:Str}{N:Ls}(hd:∀a,O a=true->H a≠none)(h0:At K G (mn H O) q v0)(h1:At K G H (.ints f) v1):Rep K G ⟨H,O⟩ (L2.start (x::y::N) [v0,v1]) H (zL N.length q f) O:=by
 have es:L2.start (x::y::N) [v0,v1]=some v0::some v1::List.replicate N.length none:=rfl;have un:∀{i:Nat} {z:Sl},(List.replicate N.length Sl.un)[i]?=some z->z=.un:=λe=>by
  rw[bX]at e;split at e
  ·cases e;rfl
  ·cases e
 have no:∀{i:Nat} {z:Sl},(zL N.length q f)[i]?=some z->(i=0/\z=.fr q)\/(i=1/\z=.rd (.ints f))\/z=.un:=λ{i z} e=>by
  match i,e with
  |0,e=>exact .inl ⟨rfl,(aB e).symm⟩
  |1,e=>exact .inr (.inl ⟨rfl,(aB e).symm⟩)
  |i+2,e=>exact .inr (.inr (un e))
 rw[es];refine⟨Same.refl H,hd,λ_ z=>z,hd,λ_ z=>.inl z,λi p e=>?_,λi p e=>?_,λi j p q a e=>?_,by unfold zL;simp,λi xs ys e=>?_,λi p e=>?_⟩
 ·rcases no e with⟨rfl,z⟩|⟨_,z⟩|z
  ·cases z;exact⟨v0,rfl,h0⟩
  ·cases z
  ·cases z
 ·rcases no e with⟨_,z⟩|⟨_,z⟩|z<;>cases z
 ·rcases no e with⟨_,z⟩|⟨_,z⟩|z<;>cases z
 ·rcases no e with⟨_,z⟩|⟨_,z⟩|z<;>cases z
 ·rcases no e with⟨_,z⟩|⟨rfl,z⟩|z
  ·cases z
  ·cases z;refine⟨v1,rfl,At.mono (λb o z=>?_) _ _ h1⟩;refine .of ?_;rw[qu]
   ·exact z
   ·unfold Us;show(O b && !O b)=false;cases O b<;>rfl
  ·cases z
def Xh (Z:En)(i:Nat):List Int:=match Z[i]? with
 |some (.rd (.ints ns))=>ns
 |_=>[]
def aa7 (Z:En)(i:Nat):Prop:=Z[i]?=some (.rd (.ints (Xh Z i)))
section
variable {X:Cx}{G:Gx}{e0 e1:Expr}{pos p px:Pos}{C0 C1:En->Prop}{g0:En->PV}{g1:En->List Int}{i j k:Nat}{x:Str}{pl:List Str}{pre:List PV->Prop}{F:List PV->PV}
theorem rdR (i:Nat)(hN:X.N[i]?=some x:=by rfl)(hv:Vis X.env.scope x:=by walk_at "v")
  (hd:(x == ("__debug__":Str))=false:=by decide) (hcd:(x == ("__classdict__":Str))=false:=by decide):PE X (.Name x pos) (HN X.K G (λZ=>aa7 Z i) λZ=>.ints (Xh Z i)):=
 λpins s σ H Q I ⟨B,Z,O,R,c,q⟩=>pe_var hN hv hd hcd pins s σ H Q I (by
  obtain⟨v,e1,e2⟩:=R.rd i _ c;exact⟨v,e1,q v H (Same.refl H) (At.mono jM _ _ e2)⟩)
theorem rcO (o:Ok X.prog X.w X.K X.mg X.base j x pl (V9 X.K G pre F))(hr:Room k X.A)(h0:PE X e0 (tX X.K G C0 g0))(h1:PE X e1 (HN X.K G C1 λZ=>.ints (g1 Z)))(hj:j<=k:=by decide)(hg:Gl X x:=by rfl)(hdb:(x == ("__debug__":Str))=false:=by decide)
  (he:starEach [e0,e1] X.env=(false,eval e0 X.env)::starEach [e1] X.env:=by rfl) (he1:starEach [e1] X.env=(false,eval e1 X.env)::starEach [] X.env:=by rfl) (hpl:(backTo pos (starEach [e1] X.env)).any (·.1)=false:=by rfl) :
  PE X (.Call (.Name x p) [e0,e1] [] pos) (tX X.K G (λZ=>C0 Z/\C1 Z/\pre [g0 Z,.ints (g1 Z)]) λZ=>F [g0 Z,.ints (g1 Z)]):=
 tL (nO o hr (pa_cons h0 (pa_cons h1 pa_nil he1) he) hj hg hdb he hpl) λB σ H Z O Q R c q=>⟨B,Z,O,R,c.1,λv0 H1 s1 a1=>⟨B,Z,O,R.grow s1,c.2.1,λv1 H2 s2 a2=>by
  dsimp only;exact⟨g0 Z,g1 Z,O,v0,v1,rfl,(R.grow (s1.trans s2)).dom,At.mono (lA s2) _ _ a1,a2,c.2.2,λv H3 s3 a3=>q v H3 ((s1.trans s2).trans s3) a3⟩⟩⟩
theorem Ly {K:Fg}{H:Hp}{O:Addr->Bool}{a:Addr}{h:Li}(ha:H a=some (.lst (h.map V.int)))(hn:h≠[]):∀{qs:List PV} {vs:List V},(∀q∈qs,∃g,q=.ints g/\g≠h)->lN K G (mn H (pW a O)) qs vs->lN K G (mn H O) qs vs
 |[],_,_,z=>z
 |q::qs,vs,hq,z=>by
  obtain⟨v,r,rfl,a1,a2⟩:=z;refine⟨v,r,rfl,?_,Ly ha hn (λq h=>hq q (ad _ h)) a2⟩;obtain⟨g,rfl,ne⟩:=hq q ah;obtain⟨b,rfl,rb⟩:=a1;refine⟨b,rfl,?_⟩;have nb:b≠a:=λz=>by
   subst z;have go:∀u:HO,mn H (pW b O) b=some u->u=.lst (h.map V.int):=λu z=>by have:=(qz z).2;rw[ha]at this;exact(aB this).symm
   rcases rb with rb|⟨o,rb⟩
   ·have:=go _ rb;injection this with this;exact ne (List.map_inj_right (λx y z=>by cases z;rfl) |>.mp this)
   ·have:=go _ rb;cases this
  have e:mn H (pW a O) b=mn H O b:=by unfold mn;rw[qK nb]
  unfold Rd at rb ⊢;rw[e]at rb;exact rb
theorem Vu {K:Fg}{H:Hp}{O:Addr->Bool}{a:Addr}{h:Li}(ha:H a=some (.lst (h.map V.int)))(hn:h≠[]){qs:List PV}{v:V}(hq:∀q∈qs,∃g,q=.ints g/\g≠h)(z:At K G (mn H (pW a O)) (.lst qs) v):At K G (mn H O) (.lst qs) v:=by
 obtain⟨b,vs,rfl,rb,al⟩:=z;refine⟨b,vs,rfl,?_,Ly ha hn hq al⟩;have nb:b≠a:=λz=>by
  subst z;have go:∀u:HO,mn H (pW b O) b=some u->u=.lst (h.map V.int):=λu z=>by have:=(qz z).2;rw[ha]at this;exact(aB this).symm
  rcases rb with rb|⟨o,rb⟩
  ·have:=go _ rb;injection this with this;subst this;cases qs with
   |nil=>exact hn (eK.mp al)
   |cons q qs=>
    obtain⟨g,rfl,_⟩:=hq q ah;obtain⟨v,r,e,⟨c,rfl,_⟩,_⟩:=al;cases h with
    |nil=>cases e
    |cons m h=>cases e
  ·have:=go _ rb;cases this
 have e:mn H (pW a O) b=mn H O b:=by unfold mn;rw[qK nb]
 unfold Rd at rb ⊢;rw[e]at rb;exact rb
theorem rcC (i:Nat)(o:Ok X.prog X.w X.K X.mg X.base j x pl (zc X.K G pre F))(hr:Room k X.A)(h0:PE X e0 (tX X.K G C0 g0))(hj:j<=k:=by decide)(hg:Gl X x:=by rfl)(hdb:(x == ("__debug__":Str))=false:=by decide)
  (hN:X.N[i]?=some y:=by rfl) (hv:Vis X.env.scope y:=by walk_at "v") (hd:(y == ("__debug__":Str))=false:=by decide) (hcd:(y == ("__classdict__":Str))=false:=by decide)
  (he:starEach [e0,.Name y px] X.env=(false,eval e0 X.env)::starEach [.Name y px] X.env:=by rfl) (he1:starEach [.Name y px] X.env=(false,eval (.Name y px) X.env)::starEach [] X.env:=by rfl) (hpl:(backTo pos (starEach [.Name y px] X.env)).any (·.1)=false:=by rfl) :
  PE X (.Call (.Name x p) [e0,.Name y px] [] pos) (tX X.K G (λZ=>C0 Z/\Ut Z i/\pre [g0 Z,.ints (getL Z i)]/\getL Z i≠[]/\∃qs,F [g0 Z,.ints (getL Z i)]=.lst qs/\∀q∈qs,∃g,q=.ints g/\g≠getL Z i) λZ=>F [g0 Z,.ints (getL Z i)]):=
 tL (nO o hr (pa_cons h0 (pa_cons (pe_var hN hv hd hcd) pa_nil he1) he) hj hg hdb he hpl) λB σ H Z O Q R c q=>⟨B,Z,O,R,c.1,λv0 H1 s1 a1=>by
  obtain⟨_,c1,c2,c3,qs,c4,c5⟩:=c;have R1:=R.grow s1;obtain⟨a,vs,e1,e2,e3,e4,e5⟩:=R1.ow i _ c1;subst e5;refine⟨_,e1,?_⟩;dsimp only;refine⟨[g0 Z,.ints (getL Z i)],pW a O,λb z=>R1.dom b (uM b z),⟨v0,_,rfl,At.mono (qU uM) _ _ a1,.ref a,[],rfl,⟨a,rfl,.inl (by rw[qu xQ];exact e4)⟩,rfl⟩,c2,λv H2 s2 a2=>q v H2 (s1.trans s2) ?_⟩;rw[c4]at a2 ⊢;exact Vu (s2 _ _ e4) c3 c5 a2⟩
end
section
variable {P:Program}{w:World}{K:Fg}{mg:Mg}{base:Heap}{G:Gx}
theorem Xr {x y z:Str}{st:Stmt}{N:Ls}{k:Nat}{pre:List PV->Prop}{F:List PV->PV}(d:nF K mg x st [y,z])(S:FnScope (y::z::N) [y,z] (defScope st))(LD:DK K mg x)
  (hbody:∀(f:Addr) (cdv:Value) (A:Around) (outer:List Env) (s:Shared) (H:Hp) (E:XK),Room k (A.deeper (envOfC x (defScope st) s.heap.objs.size f cdv))->N5 K cdv (x++".<locals>."++"<lambda>") ->
   ∃fs,PSs (cxOf CX0 P w K mg base (y::z::N) x (defScope st) f cdv A outer s H E).nox (defBody st) (ts K G ER0 fs)/\∀q f,pre [q,.ints f]->fs { nx:=λ_=>False,rt:=λp=>p=F [q,.ints f] } (zL N.length q f)):Ok P w K mg base (k+1) x [y,z] (V9 K G pre F):=by
 obtain⟨f,fd,FF,b,m⟩:=d.ex;refine⟨f,fd,?_,b,FF.kp,m⟩;obtain⟨oc,od,kV,doc,pm,an,cdv,ct,osl,rfl,lk,hcd⟩:=FF.ex;have hl:N5 K cdv (x++".<locals>."++"<lambda>"):=by obtain⟨f',oc',od',fd',sl',m',lk',hl⟩:=LD;rw[m]at m';cases m';rw[lk]at lk';cases lk';exact hl
 refine fn_of lk hcd S (λvs H Q E h=>?_) λA outer s H vs Q E hr h=>?_
 ·obtain⟨q,f,O,v0,v1,rfl,_⟩:=h;rfl
 obtain⟨q,f',O,v0,v1,rfl,hd,h0,h1,hp,k⟩:=h;obtain⟨fs,b,c⟩:=hbody f cdv A outer s H E hr hl;refine⟨_,b.nox,⟨H,O⟩,zL N.length q f',_,⟨O,Jw hd h0 h1⟩,c q f' hp,⟨λ_ _ _ _ h=>h.elim,λv H' p s' a' h=>?_,λ_ _ _ _ _ _ h=>h.elim,λ_ _ _ _ _ h=>h.elim,λ_ _ _ _ h=>h,λ_ _ _ _ h=>h,λ_ _ _ h=>h⟩⟩;subst h;exact k v H' s' a'
end
end L3
end
namespace kI
open PySem L2 L3 PyProof.Rows FM
abbrev vq:Stmt:=top 7
theorem z8:FnScope ["numbers"] ["numbers"] (defScope vq):=oX
abbrev CZ:Stmt:=top 8
theorem Bo:FnScope ["kind","f","numbers"] ["kind","f"] (defScope CZ):=oX
abbrev Up:Stmt:=top 9
theorem yP:FnScope ["kind","f","g","sums","at","number"] ["kind","f","g"] (defScope Up):=oX
abbrev Ry:Stmt:=top 10
theorem WL:FnScope ["kind","f","g"] ["kind","f","g"] (defScope Ry):=oX
abbrev KQ:Stmt:=top 11
theorem pG:FnScope ["kind","f","g","ones","others","sums","at","one","behind","other"] ["kind","f","g"] (defScope KQ):=oX
abbrev GQ:Stmt:=top 12
theorem Od:FnScope ["kind","f","number"] ["kind","f","number"] (defScope GQ):=oX
abbrev Lq:Stmt:=top 13
theorem R7:FnScope ["kind","f"] ["kind","f"] (defScope Lq):=oX
abbrev Dd:Stmt:=top 14
theorem mU:FnScope ["kind","f","g","rest","divisor","quotient","gap","often","at","number"] ["kind","f","g"] (defScope Dd):=oX
abbrev Ln:Stmt:=top 15
theorem uy:FnScope ["kind","f","number","place","total","one"] ["kind","f","number"] (defScope Ln):=oX
abbrev Hf:Stmt:=top 17
theorem qi:FnScope ["kind","f","g","before","rest","behind"] ["kind","f","g"] (defScope Hf):=oX
abbrev tD:Stmt:=top 18
theorem xG:FnScope ["kind","f"] ["kind","f"] (defScope tD):=oX
abbrev vp:Stmt:=top 19
theorem zN:FnScope ["kind","f"] ["kind","f"] (defScope vp):=oX
abbrev zX:Stmt:=top 21
theorem G9:FnScope ["kind","one","other","g"] ["kind","one","other","g"] (defScope zX):=oX
abbrev HF:Stmt:=top 22
theorem pA:FnScope ["kind","f","many","g","product","square","left"] ["kind","f","many","g"] (defScope HF):=oX
abbrev wJ:Stmt:=top 23
theorem mJ:FnScope ["kind","f","count","g","degree","rest","rows","step"] ["kind","f","count","g"] (defScope wJ):=oX
abbrev zV:Stmt:=top 24
theorem yx:FnScope ["kind","g","degree"] ["kind","g"] (defScope zV):=oX
abbrev wy:Stmt:=top 26
theorem j8:FnScope ["kind","f","left","pairs","factor","found","g","often"] ["kind","f"] (defScope wy):=oX
abbrev sZ:Stmt:=top 27
theorem jH:FnScope ["kind","f","deeper","layer","pairs","often","next_layer","g"] ["kind","f"] (defScope sZ):=oX
abbrev wV:Stmt:=top 29
theorem BP:FnScope ["length"] ["length"] (defScope wV):=oX
abbrev Ae:Stmt:=top 30
theorem yC:FnScope ["at","length","row"] ["at","length"] (defScope Ae):=oX
abbrev CQ:Stmt:=top 31
theorem qF:FnScope ["kind","rows","width","wide","turn","back"] ["kind","rows"] (defScope CQ):=oX
abbrev oM:Stmt:=top 32
theorem jy:FnScope ["kind","rows","width","units","table","done","at","found"] ["kind","rows","width"] (defScope oM):=oX
abbrev yz:Stmt:=top 33
theorem Gi:FnScope ["kind","row"] ["kind","row"] (defScope yz):=oX
abbrev qC:Stmt:=top 34
theorem pZ:FnScope ["rows","at","done","place"] ["rows","at","done"] (defScope qC):=oX
abbrev rW:Stmt:=top 35
theorem vX:FnScope ["rows","found","done"] ["rows","found","done"] (defScope rW):=oX
abbrev o7:Stmt:=top 36
theorem lW:FnScope ["kind","rows","at","done","factor","first"] ["kind","rows","at","done"] (defScope o7):=oX
abbrev vm:Stmt:=top 37
theorem Bx:FnScope ["kind","row","at","first"] ["kind","row","at","first"] (defScope vm):=oX
abbrev Jc:Stmt:=top 38
theorem Dm:FnScope ["kind","rows","told"] ["kind","rows"] (defScope Jc):=oX
abbrev yp:Stmt:=top 40
theorem Gj:FnScope ["g"] ["g"] (defScope yp):=oX
abbrev pX:Stmt:=top 41
theorem tO:FnScope ["kind","g"] ["kind","g"] (defScope pX):=oX
abbrev t7:Stmt:=top 42
theorem yL:FnScope ["kind","row","at"] ["kind","row","at"] (defScope t7):=oX
abbrev s_split:Stmt:=top 43
theorem uf:FnScope ["kind","g","pieces","staying","h"] ["kind","g"] (defScope s_split):=oX
abbrev qG:Stmt:=top 44
theorem pR:FnScope ["kind","h","count","g","relation"] ["kind","h","count","g"] (defScope qG):=oX
abbrev wj:Stmt:=top 45
theorem nM:FnScope ["kind","pieces","h","numbers","finer","piece","number","shared"] ["kind","pieces","h","numbers"] (defScope wj):=oX
abbrev M5:Stmt:=top 46
theorem uv:FnScope ["kind","f","pairs","free","often","g"] ["kind","f"] (defScope M5):=oX
abbrev zE:Stmt:=top 49
theorem ut:FnScope ["number","divisor"] ["number"] (defScope zE):=oX
abbrev IV:Stmt:=top 50
theorem lE:FnScope ["number","size","before","rest","share_before","share","often","rest_behind","share_behind"] ["number","size"] (defScope IV):=oX
abbrev qJ:Stmt:=top 51
theorem vL:FnScope ["number"] ["number"] (defScope qJ):=oX
abbrev CK:Stmt:=top 55
theorem Ka:FnScope ["_law_script","_law_k"] ["_law_script","_law_k"] (defScope CK):=oX
abbrev Uk:Stmt:=top 56
theorem Mm:FnScope ["_law_script","_law_number"] ["_law_script"] (defScope Uk):=oX
abbrev Qu:Stmt:=top 57
theorem Nk:FnScope ["_law_row","_law_size"] ["_law_row","_law_size"] (defScope Qu):=oX
abbrev MJ:Stmt:=top 58
theorem Qz:FnScope ["_law_found"] ["_law_found"] (defScope MJ):=oX
abbrev Nq:Stmt:=top 59
theorem G6:FnScope ["_law_found","_law_due","_law_k"] ["_law_found","_law_due"] (defScope Nq):=oX
abbrev vz:Stmt:=top 60
theorem qm:FnScope ["_law_cell","_law_number"] ["_law_cell"] (defScope vz):=oX
abbrev Lw:Stmt:=top 61
theorem su:FnScope ["_law_cell","_law_number","_law_at"] ["_law_cell"] (defScope Lw):=oX
abbrev yw:Stmt:=top 62
theorem p7:FnScope ["_law_f","_law_g","_law_size","_law_row","_law_i","_law_k"] ["_law_f","_law_g","_law_size"] (defScope yw):=oX
abbrev Np:Stmt:=top 63
theorem uC:FnScope ["_law_cell","_law_prime_here","_law_number","_law_row","_law_k"] ["_law_cell","_law_prime_here"] (defScope Np):=oX
abbrev Cv:Stmt:=top 64
theorem qx:FnScope ["_law_cells","_law_prime_here","_law_most","_law_made","_law_cell","_law_piece_here"] ["_law_cells","_law_prime_here","_law_most"] (defScope Cv):=oX
abbrev Lj:Stmt:=top 66
theorem RD:FnScope ["_law_number","_law_size"] ["_law_number","_law_size"] (defScope Lj):=oX
abbrev CP:Stmt:=top 67
theorem sU:FnScope ["_law_found","_law_k","_law_one","_law_other"] ["_law_found"] (defScope CP):=oX
abbrev Hj:Stmt:=top 68
theorem xP:FnScope ["_law_found","_law_prime_here","_law_pair","_law_number"] ["_law_found","_law_prime_here"] (defScope Hj):=oX
abbrev De:Stmt:=top 69
theorem kW:FnScope ["_law_script","_law_head_here","_law_prime_here","_law_most","_law_wide","_law_kind","_law_f","_law_handed","_law_found","_law_made","_law_free","_law_row","_law_often","_law_turn","_law_again","_law_k"] ["_law_script"] (defScope De):=oX
abbrev yD:Stmt:=inClass (top 52) 0
theorem DN:FnScope ["self","size"] ["self","size"] (defScope yD):=oX
abbrev wU:Stmt:=inClass (top 52) 1
theorem Cd:FnScope ["self","number"] ["self","number"] (defScope wU):=oX
abbrev yF:Stmt:=inClass (top 52) 3
theorem DQ:FnScope ["self","a","b"] ["self","a","b"] (defScope yF):=oX
abbrev yE:Stmt:=inClass (top 52) 5
theorem Gn:FnScope ["self","a","b"] ["self","a","b"] (defScope yE):=oX
abbrev ww:Stmt:=inClass (top 53) 0
theorem BR:FnScope ["self","prime"] ["self","prime"] (defScope ww):=oX
structure Top (K:Fg)(mg:Mg)(cNO:Addr)(cK:Addr)(cR:Addr):Prop where
 BL:nF K mg "cut_noughts" vq ["numbers"]
 Ol:nF K mg "trimmed" CZ ["kind","f"]
 Yd:nF K mg "plus" Up ["kind","f","g"]
 X6:nF K mg "less" Ry ["kind","f","g"]
 Xb:nF K mg "times" KQ ["kind","f","g"]
 Rv:nF K mg "scaled" GQ ["kind","f","number"]
 Ve:nF K mg "slope" Lq ["kind","f"]
 Ov:nF K mg "divided" Dd ["kind","f","g"]
 V2:nF K mg "value" Ln ["kind","f","number"]
 TX:nF K mg "common" Hf ["kind","f","g"]
 yK:nF K mg "with_lead_one" tD ["kind","f"]
 Cp:nF K mg "turned_lead" vp ["kind","f"]
 JL:nF K mg "times_by" zX ["kind","one","other","g"]
 RZ:nF K mg "raised" HF ["kind","f","many","g"]
 DX:nF K mg "power_rows" wJ ["kind","f","count","g"]
 JM:nF K mg "powering" zV ["kind","g"]
 FZ:nF K mg "free_parts" wy ["kind","f"]
 yJ:nF K mg "seen_by_slope" sZ ["kind","f"]
 Es:nF K mg "unit_table" wV ["length"]
 JC:nF K mg "unit_row" Ae ["at","length"]
 Px:nF K mg "echelon" CQ ["kind","rows"]
 sH:nF K mg "cleared_beside_units" oM ["kind","rows","width"]
 Hl:nF K mg "plain_row" yz ["kind","row"]
 vI:nF K mg "first_not_nought" qC ["rows","at","done"]
 yg:nF K mg "with_row_moved" rW ["rows","found","done"]
 tH:nF K mg "with_column_cleared" o7 ["kind","rows","at","done"]
 Cq:nF K mg "row_without" vm ["kind","row","at","first"]
 Tc:nF K mg "kernel" Jc ["kind","rows"]
 HS:nF K mg "order_key" yp ["g"]
 u6:nF K mg "powering_less_one" pX ["kind","g"]
 Bc:nF K mg "row_less_one" t7 ["kind","row","at"]
 Ww:nF K mg "split" s_split ["kind","g"]
 vD:nF K mg "possible_numbers" qG ["kind","h","count","g"]
 Eg:nF K mg "told_apart" wj ["kind","pieces","h","numbers"]
 Vr:nF K mg "parts" M5 ["kind","f"]
 JW:nF K mg "is_prime" zE ["number"]
 Q9:nF K mg "turned" IV ["number","size"]
 wG:nF K mg "refuse_no_prime" qJ ["number"]
 O5:nF K mg "_law_cell_at" CK ["_law_script","_law_k"]
 Zd:nF K mg "_law_head" Uk ["_law_script"]
 Yi:nF K mg "_law_trim" Qu ["_law_row","_law_size"]
 Vz:nF K mg "_law_whole" MJ ["_law_found"]
 Wo:nF K mg "_law_alike" Nq ["_law_found","_law_due"]
 BK:nF K mg "_law_small_prime" vz ["_law_cell"]
 WQ:nF K mg "_law_prime" Lw ["_law_cell"]
 Hw:nF K mg "_law_times" yw ["_law_f","_law_g","_law_size"]
 U5:nF K mg "_law_piece" Np ["_law_cell","_law_prime_here"]
 Pj:nF K mg "_law_product" Cv ["_law_cells","_law_prime_here","_law_most"]
 UW:nF K mg "_law_plain" Lj ["_law_number","_law_size"]
 NZ:nF K mg "_law_ordered" CP ["_law_found"]
 S6:nF K mg "_law_shaped" Hj ["_law_found","_law_prime_here"]
 Fb:DK K mg "free_parts"
 Uy:DK K mg "parts"
 jD:mg "len"=none
 oH:mg "range"=none
 lF:mg "isinstance"=none
 Zj:mg "bool"=none
 Tr:mg "int"=none
 xY:mg "list"=none
 abR:mg "max"=none
 abD:mg "min"=none
 lK:mg "enumerate"=none
 Nr:mg "tuple"=none
 Ax:mg "sorted"=none
 Jx:mg "reversed"=none
 abG:mg "sum"=none
 RP:mg "zip"=none
 yM:∃tk,mg "LARGEST_PRIME"=some (.int 9973 tk)
 CG:W.kitOne K (.type "int") (.type "int")=some true
 zW:W.kitOne K (.type "int") (.type "bool")=some false
 lU:W.kitOne K (.type "list") (.type "list")=some true
 pD:W.kitOne K (.type "tuple") (.type "tuple")=some true
 Gw:mg "NoOver"=some (.ref cNO)
 Qq:Ks K cNO
 Qt:mg "Kind"=some (.ref cK)
 Ms:mg "Rests"=some (.ref cR)
 qp:Cls K cR
 pF:NoAttr K cR "size"
 Ir:∃f fd,Fun K "__init__" "Kind.__init__" yD f fd/\Binds K fd ["self","size"] []/\M8 K cK "__init__" f
 DW:∃f fd,Fun K "plain" "Kind.plain" wU f fd/\Binds K fd ["self","number"] []/\Meth K cR "plain" f
 G4:∃f fd,Fun K "less" "Kind.less" yF f fd/\Binds K fd ["self","a","b"] []/\Meth K cR "less" f
 I9:∃f fd,Fun K "over" "Kind.over" yE f fd/\Binds K fd ["self","a","b"] []/\Meth K cR "over" f
 Ga:∃f fd,Fun K "__init__" "Rests.__init__" ww f fd/\Binds K fd ["self","prime"] []/\Mk K cR f
section
variable {w:World}{K:Fg}{h:Heap}{mg:Mg}{fa f C:Addr}{od an:Option Addr}{sl:Array (Option Value)}{oc kV dc pm cd ct:Value}{x q:Str}{st:Stmt}{ps:List Str}{cNO:Addr}{cK:Addr}{cR:Addr}
theorem aaE (X:K.In h)(G:h.Ns mainGlobals mg)(a:W.nsIn K mainGlobals x=some (some (.ref f)))(l:K.lookup f=some ⟨oc,od,.func (W.fnOf x x (defArgs st) (defBody st) (defScope st) .none kV dc pm an cd ct),sl⟩)(c:W.codeIn K cd x=true)(k:W.keepIn K (.ref f)=true)(b:∀(kV dc pm:Value) (an:Option Addr) (cd ct:Value) (us:Lv),us.length=ps.length->bindArgs (W.fnOf x x (defArgs st) (defBody st) (defScope st) .none kV dc pm an cd ct) ⟨us,[]⟩=pure (ps.zip us)):nF K mg x st ps:=.mk' (fun_mk l c k) ((fun_mk l c k).binds b) (dU X G a)
theorem aap {ar:Arguments}{bo:List Stmt}{sc:Scope}{dv:Value}(X:K.In h)(G:h.Ns mainGlobals mg)(a:W.nsIn K mainGlobals x=some (some (.ref f)))(l:K.lookup f=some ⟨oc,od,.func (W.fnOf x x ar bo sc dv kV dc pm an cd ct),sl⟩)(c:JT K cd (x++".<locals>."++"<lambda>")=true):DK K mg x:=⟨f,oc,od,_,sl,dU X G a,l,O8 c⟩
theorem Z9 {v:Int}{tk:Tok}(X:K.In h)(G:h.Ns mainGlobals mg)(a:W.nsIn K mainGlobals x=some (some (.int v tk))):∃tk,mg x=some (.int v tk):=⟨_,dU X G a⟩
theorem XQ {C0:Addr}(g0:W.findIn K (.ref C0) x=some (some (.ref f)))(l:K.lookup f=some ⟨oc,od,.func (W.fnOf x q (defArgs st) (defBody st) (defScope st) .none kV dc pm an cd ct),sl⟩)(c:W.codeIn K cd q=true)(k:W.keepIn K (.ref f)=true)(n:W.isFn K (.ref f)=true)(b:∀(kV dc pm:Value) (an:Option Addr) (cd ct:Value) (us:Lv),us.length=ps.length->bindArgs (W.fnOf x q (defArgs st) (defBody st) (defScope st) .none kV dc pm an cd ct) ⟨us,[]⟩=pure (ps.zip us)):∃f fd,Fun K x q st f fd/\Binds K fd ps []/\Meth K C0 x f:=⟨_,_,fun_mk l c k,(fun_mk l c k).binds b,⟨g0,n,k⟩⟩
theorem aaz (g:W.findIn K (.ref C) "__init__"=some (some (.ref f)))(l:K.lookup f=some ⟨oc,od,.func (W.fnOf x q (defArgs st) (defBody st) (defScope st) .none kV dc pm an cd ct),sl⟩)(c:W.codeIn K cd q=true)(k:W.keepIn K (.ref f)=true)(m:W.makesIn K C=true)(n:W.isFn K (.ref f)=true)(kc:W.keepIn K (.ref C)=true)(b:∀(kV dc pm:Value) (an:Option Addr) (cd ct:Value) (us:Lv),us.length=ps.length->bindArgs (W.fnOf x q (defArgs st) (defBody st) (defScope st) .none kV dc pm an cd ct) ⟨us,[]⟩=pure (ps.zip us)):∃f fd,Fun K x q st f fd/\Binds K fd ps []/\Mk K C f:=⟨_,_,fun_mk l c k,(fun_mk l c k).binds b,m,g,n,kc⟩
theorem aat (g:W.findCls K (.ref C) (.type "type") "__init__"=some (.val (.ref f)))(l:K.lookup f=some ⟨oc,od,.func (W.fnOf x q (defArgs st) (defBody st) (defScope st) .none kV dc pm an cd ct),sl⟩)(c:W.codeIn K cd q=true)(k:W.keepIn K (.ref f)=true)(m:W.specialIn K (.ref C) "__getattribute__"=some (some (.builtin "type.__getattribute__")))(n:W.readsIn K C (.type "type")=true)(b:∀(kV dc pm:Value) (an:Option Addr) (cd ct:Value) (us:Lv),us.length=ps.length->bindArgs (W.fnOf x q (defArgs st) (defBody st) (defScope st) .none kV dc pm an cd ct) ⟨us,[]⟩=pure (ps.zip us)):∃f fd,Fun K x q st f fd/\Binds K fd ps []/\M8 K C "__init__" f:=⟨_,_,fun_mk l c k,(fun_mk l c k).binds b,m,n,g,k⟩
theorem aai (h:W.findIn K (.ref C) x=some none):NoAttr K C x:=h
theorem ZS (h:W.excIn K C bmV "ValueError.__new__"=true):Ks K C:=h
def AMk:Prop:=∀{P:Program} {w:World} {K:Fg} {mg:Mg} {base:Heap} {cNO:Addr} {cK:Addr} {cR:Addr},Top K mg cNO cK cR->∀{f:Addr} {fd:FuncData},Fun K "law" "law" De f fd->FnOk P w K mg base CX0 14 f fd ["_law_script"] (xF K)
theorem am {r:W.OpenLaw}(AM:AMk)(X:K.In h)(G:h.Ns mainGlobals mg)(hfa:mg "law"=some (.ref fa))(T:Top K mg cNO cK cR)(a:W.nsIn K mainGlobals "law"=some (some (.ref f)))(l:K.lookup f=some ⟨oc,od,.func (W.fnOf "law" "law" (defArgs De) (defBody De) (defScope De) .none kV dc pm an cd ct),sl⟩)(c:W.codeIn K cd "law"=true)(k:W.keepIn K (.ref f)=true):∃fd:FuncData,(∀(s:Shared) (v:Value),BindsTo s fd ⟨[v],[]⟩ [("_law_script",v)])/\∀base:Heap,K.In base->base.Ns mainGlobals mg->FnOk r.prog w K mg base CX0 14 fa fd ["_law_script"] (xF K):=by have e:=hfa.symm.trans (dU X G a);cases e;exact⟨_,λs v=>.of_eq rfl,λbase _ _=>AM T (fun_mk l c k)⟩
theorem bn1 {Q:List Value->Prop}(h:∀a,Q [a]):∀us:List Value,us.length=1->Q us:=λus hl=>match us,hl with | [a],_=>h a
theorem bn2 {Q:List Value->Prop}(h:∀a b,Q [a,b]):∀us:List Value,us.length=2->Q us:=λus hl=>match us,hl with | [a,b],_=>h a b
theorem bn3 {Q:List Value->Prop}(h:∀a b c,Q [a,b,c]):∀us:List Value,us.length=3->Q us:=λus hl=>match us,hl with | [a,b,c],_=>h a b c
theorem bn4 {Q:List Value->Prop}(h:∀a b c d,Q [a,b,c,d]):∀us:List Value,us.length=4->Q us:=λus hl=>match us,hl with | [a,b,c,d],_=>h a b c d
end
theorem walk {l:W.OpenLaw}{q:Program}{loose:Ls}{XP:(Str->Option Value)->Heap->Prop}{YP:World->Heap->Prop}{d:DefRec}{K:Params->Fg}(hn:l.most=some 63)(hdf:d.params.defaults=[])
  (hY:∀(w:World) (h:Heap),YP w h->(K w.params).In h) (hL:∀(w:World) (h:Heap),YP w h->HY (K w.params) h)
  (F:∀(w:World) (mg:Mg) (fa:Addr) (h:Heap),(K w.params).In h->h.Ns mainGlobals mg->mg d.name=some (.ref fa) ->
   ∃fd:FuncData,(∀(s:Shared) (u:Value),BindsTo s fd ⟨[u],[]⟩ [("_law_script",u)])/\∀base:Heap,(K w.params).In base->base.Ns mainGlobals mg->FnOk l.prog w (K w.params) mg base CX0 14 fa fd ["_law_script"] (xF (K w.params))) :
  W.WalkO q loose XP YP l.row.toRowW d [] (λf vs=>PySem.call f vs):=
 L2.Qm (n:=63) (k:=14) (x:="_law_script") (CX:=λ_=>CX0) (sp:=λw=>xF (K w.params)) hn (by decide) hdf ⟨rfl,by decide,by decide⟩ hY F hL (λ_ _ a ns hl hb hS=>⟨a,ns,rfl,hS,hl,hb,λ_=>rfl⟩) λ_ _ _ _ _ z=>z
end kI
section
local macro_rules | `(tactic| o_head $H) => `(tactic| (refine PySem.W.holds_open (q := kI.view) (loose := []) (Xt := fun s => PySem.W.xlAt kI.view [] s && PySem.W.recOk (PySem.W.RowW.records PySem.Challenge.rw_factorforge_k42_multiplied_in_order.row.toRowW) s) (XP := PySem.W.XL kI.view []) (Yf := PySem.W.Hook.obs $H) (Ya := PySem.W.Hook.val $H) (YP := PySem.W.Hook.says $H) (N := 20000) ?hl (PySem.W.Hook.of $H) (PySem.W.Hook.keeps $H) (fun s e => PySem.W.xl_of s (Bool.and_eq_true_iff.mp e).1) PySem.W.XL.keeps (by rfl) (by rfl) (by rfl) (fun s e => PySem.W.recFacts_of (Bool.and_eq_true_iff.mp e).2) (by rfl) (by first | assumption | decide +kernel) (by decide +kernel) ⟨rfl, rfl, rfl, rfl, rfl, by decide +kernel⟩ ?hw ?hc; (case hl => (intro w; exact kI.fin w (by kernel_rfl)))))
local macro_rules | `(tactic| walk_at "bnd") => `(tactic| (first | exact fun _ _ _ _ _ _ => kI.bn1 fun _ => rfl | exact fun _ _ _ _ _ _ => kI.bn2 fun _ _ => rfl | exact fun _ _ _ _ _ _ => kI.bn3 fun _ _ _ => rfl | exact fun _ _ _ _ _ _ => kI.bn4 fun _ _ _ _ => rfl))
open PySem PySem.W PyProof.Rows
set_option maxRecDepth 100000 in
set_option maxHeartbeats 0 in
theorem kI.pre (AM:kI.AMk):PySem.Challenge.rw_factorforge_k42_multiplied_in_order.Holds:=by
 w_on;o_law;k_head;(rotate_left;rotate_right);(· w_witness2)
 k_fill
 refine kI.walk (l:=PySem.Challenge.rw_factorforge_k42_multiplied_in_order) rfl rfl (λw h Y=>PySem.W.km_in_of Y) (λw h Y=>L3.T3 (by kernel_rfl) (PySem.W.km_tabs_of Y)) ?F
 case F=>
  intro w mg fa h KX G hmg
  refine' kI.am AM KX G hmg ?T ?a ?l ?c ?k
  case a=>k_is
  case l=>k_is
  case c=>k_is
  case k=>k_is
  case T=>
   constructor
   case Gw=>(refine' dU KX G ?a;(case a=>k_is))
   case Qt=>(refine' dU KX G ?a;(case a=>k_is))
   case Ms=>(refine' dU KX G ?a;(case a=>k_is))
   all_goals first|(refine' kI.aaE KX G ?a ?l ?c ?k ?b;(case a=>k_is);(case l=>k_is);(case c=>k_is);(case k=>k_is);(case b=>walk_at "bnd"))|(refine' kI.aap KX G ?a ?l ?c;(case a=>k_is);(case l=>k_is);(case c=>kernel_rfl))|(refine' PySem.W.mg_none_of KX G ?a;(case a=>k_is))|(refine' kI.Z9 KX G ?a;(case a=>k_is))|(refine' kI.XQ ?g0 ?l ?c ?k ?n ?b;(case g0=>k_is);(case l=>k_is);(case c=>k_is);(case k=>k_is);(case n=>k_is);(case b=>walk_at "bnd"))|(refine' kI.aaz ?g ?l ?c ?k ?m ?n ?kc ?b;(case g=>k_is);(case l=>k_is);(case c=>k_is);(case k=>k_is);(case m=>k_is);(case n=>k_is);(case kc=>k_is);(case b=>walk_at "bnd"))|(refine' kI.aat ?g ?l ?c ?k ?m ?n ?b;(case g=>k_is);(case l=>k_is);(case c=>k_is);(case k=>k_is);(case m=>k_is);(case n=>k_is);(case b=>walk_at "bnd"))|(refine' kI.aai ?a;(case a=>k_is))|(refine' kI.ZS ?a;(case a=>k_exc))|kit_is|(constructor<;>k_is)
end
namespace kI
open PySem L2 L3 PyProof.Rows FM
local macro_rules | `(tactic| walk_at "pn0") => `(tactic| first | omega | (dsimp only; omega) | (dsimp only [List.length_cons, List.length_nil]; omega) | (simp [L2.gI, L2.start] <;> omega))
local macro_rules | `(tactic| walk_at "pn1") => `(tactic| first | exact tJ | rfl | assumption | decide | decide +kernel | exact L2.uN (by decide) | exact L2.yZ (by decide) | exact ⟨by decide, by decide +kernel⟩ | exact ⟨by decide, by decide, by decide⟩ | walk_at "pn0" | exact L2.uN ⟨by walk_at "pn0", by walk_at "pn0"⟩ | exact L2.yZ ⟨by walk_at "pn0", by walk_at "pn0"⟩)
local macro_rules | `(tactic| walk_at "pn") => `(tactic| first | (refine ⟨?_, ?_⟩ <;> walk_at "pn") | walk_at "pn1" | (intro _; walk_at "pn"))
local macro_rules | `(tactic| walk_at "xs1") => `(tactic| first | exact tJ | exact (rfl : _ = some _) | exact (rfl : L3.isI _ _) | exact (rfl : L3.isL _ _) | exact (rfl : L3.isF _ _) | exact (rfl : L3.isK _ _) | exact (rfl : L3.Ut _ _) | exact (Or.inl rfl : L3.Kp _ _) | exact (Or.inr (Or.inl rfl) : L3.Kp _ _) | exact (Or.inr (Or.inr rfl) : L3.Kp _ _) | walk_at "pn1")
local macro_rules | `(tactic| walk_at "xs") => `(tactic| first | (refine And.intro ?_ ?_ <;> walk_at "xs") | walk_at "xs1")
section
variable {P:Program}{w:World}{K:Fg}{mg:Mg}{base:Heap}{cNO cK cR:Addr}
theorem Ht (T:Top K mg cNO cK cR):Ok P w K mg base 1 "is_prime" ["number"] (spB 1 yes F_P):=by
 refine nF.ok T.JW ut (λvs H Q E h=>?_) (λf cdv A outer s H vs Q E hr h=>?_)
 ·obtain⟨ns,hl,rfl,_⟩:=h;rw[aa,hl];rfl
 obtain⟨ns,hl,rfl,hp,k⟩:=h;obtain⟨n,rfl⟩:=Y4 hl;refine⟨_,(pss_cons (FW (pw_orP (TV (mK 0) vJ) (pw_or1P (XS (mK 0) (U4 (by rfl) T.yM)))).pt
 (pss_one (ps_ret pe_bl))
 pss_nil)
 (pss_cons (Xc (i:=1) ut.nd rfl (Or.inl rfl) vJ)
 (pss_cons (Pu aE (Ye (Zf (mK 1) (mK 1)) (mK 0))
 (pss_cons (FW (YJ (Yo (mK 0) (mK 1)) vJ)
 (pss_one (ps_ret pe_bl))
 pss_nil)
 (pss_one (VP (i:=1) ut.nd rfl (Or.inl rfl) vJ ug))))
 (pss_one (ps_ret pe_bl))))),?_⟩
 have k:Q (.bl (ZK n)) H:=k;refine⟨by walk_at "pn",λh=>?_,λh=>?_⟩
 ·have h:n<2\/9973<n:=h;rw[Do (λq=>by have:=q.1;have:=q.2.1;lia)]at k;exact k
 have h:¬(n<2\/9973<n):=h;refine⟨by walk_at "pn",λd0 e0=>?_⟩;subst e0;refine⟨λσ H'=>∃d,σ=[some (.int n),some (.int d)]/\H'=H/\2<=d/\d<=10000/\Jj n d,λσ _=>(10001-gI σ 1).toNat,⟨2,rfl,rfl,by lia,by lia,λe h1 h2=>by lia⟩,?_⟩;rintro σ H' ⟨d,rfl,rfl,h2,h3,cl⟩;refine⟨⟨⟨rfl,rfl,uN ⟨?_,?_⟩⟩,rfl⟩,λc=>?_,λc=>?_⟩
 ·show -(2:Int)^64<d;lia
 ·show d<(2:Int)^64;lia
 ·have c:d*d<=n:=c;have:=ZV h2;refine⟨⟨⟨rfl,rfl,by show(0:Int)<d;lia⟩,tJ⟩,λhit=>?_,λhit=>?_⟩
  ·have hit:n % d=0:=hit;rw[Do (λq=>q.2.2 d h2 c hit)]at k;exact k
  ·have hit:¬n % d=0:=hit;refine⟨rfl,tJ,tJ,λm e=>?_⟩;have e:m=d+1:=e;subst e;exact⟨⟨d+1,rfl,rfl,by lia,by lia,cl.next hit⟩,by show(10001-(d+1)).toNat<(10001-d).toNat;lia⟩
 ·have c:¬d*d<=n:=c;rw[Ho (.out cl h2 (by lia) (by lia) c)]at k;exact k
def T4:Sp:=λvs H Q _=>∃n:Int,vs=[.int n]/\jG n/\Q .non H
theorem vK (T:Top K mg cNO cK cR):Ok P w K mg base 2 "refuse_no_prime" ["number"] T4:=by
 refine nF.ok T.wG vL (λvs H Q E h=>?_) (λf cdv A outer s H vs Q E hr h=>?_)
 ·obtain⟨c,rfl,_⟩:=h;rfl
 obtain⟨n,rfl,hn,k⟩:=h;refine⟨_,(pss_one (FW (Ux (abu (Wl (Ht T) hr (Rh (mK 0) W4))))
 (pss_one ps_never)
 pss_nil)),?_⟩
 refine⟨⟨⟨rfl,tJ⟩,tJ⟩,λq=>?_,λq=>?_⟩
 ·exact(q (Ho hn)).elim
 ·exact k
def W0 (K:Fg):Sp:=λvs H Q _=>∃(p C dx:Addr) (z:Int),vs=[.ref p,.int z]/\H p=some (.ins C dx [])/\Cls K C/\NoAttr K C "size"/\Q .non (upd H p (.ins C dx [("size",.int z)]))
theorem DR (T:Top K mg cNO cK cR):OkC P w K mg base CX0 1 "Kind" cK "__init__" ["self","size"] (W0 K):=by
 obtain⟨f,fd,F,b,c⟩:=T.Ir;refine⟨f,fd,F.ok DN (λvs H Q E h=>?_) (λcdv A outer s H vs Q E hr h=>?_),b,c,T.Qt⟩
 ·obtain⟨p,C,dx,z,rfl,_⟩:=h;rfl
 obtain⟨p,C,dx,z,rfl,hp,cl,na,k⟩:=h;refine⟨_,(pss_one (ps_fld (pv 0) (mK 1) rfl)),?_⟩;exact⟨rfl,_,rfl,p,C,dx,[],rfl,hp,cl,na,by decide,k⟩
theorem Uj (T:Top K mg cNO cK cR):OkI P w K mg base CX0 3 "Rests" cR ["self","prime"] (RW cR):=by
 obtain⟨f,fd,F,b,c⟩:=T.Ga;refine⟨f,fd,F.ok BR (λvs H Q E h=>?_) (λcdv A outer s H vs Q E hr h=>?_),b,c,T.Ms⟩
 ·obtain⟨x,dx,p,rfl,_⟩:=h;rfl
 obtain⟨x,dx,p,rfl,hp,hx,k⟩:=h;refine⟨_,(pss_cons (ps_expr (nO (vK T) hr (pa_cons (mK 1) pa_nil)))
 (pss_one (ps_expr (Vv (DR T) hr pass0 (pa_cons (pv 0) (pa_cons (mK 1) pa_nil)))))),?_⟩
 exact⟨rfl,p,rfl,hp,_,rfl,rfl,x,cR,dx,p,rfl,hx,T.qp,T.pF,k⟩
def V3:Int->List Int->Int:=λz ns=>match ns with
 |[n]=>pl z n
 |_=>0
abbrev aam:Int->List Int->Prop:=λ_ _=>True
theorem pM (T:Top K mg cNO cK cR):KM P w K mg base 1 (KR cR) "plain" 1 aam V3:=by
 refine⟨λH a z ka=>?_⟩;obtain⟨q0,dx,fs,e,hz,hm⟩:=ka;refine⟨cR,dx,fs,["self","number"],e,hm "plain" (by decide +kernel),?_⟩;obtain⟨f,fd,F,b,m1⟩:=T.DW;refine⟨f,fd,F.ok Cd (λvs H Q E h=>?_) (λcdv A outer s H vs Q E hr h=>?_),b,m1,T.qp⟩
 ·obtain⟨ns,hl,rfl,_⟩:=h;show(ns.map V.int).length+1=2;rw[aa,hl]
 ·obtain⟨ns,hl,rfl,⟨_,dx',fs',e',hz',_⟩,_,k⟩:=h;obtain⟨n,rfl⟩:=Y4 hl;have k:Q (.int (pl z n)) H:=k;rw[kh q0]at k;refine⟨_,(pss_one (ps_ret (pe_op op_mod (mK 1) (pe_fld (pv 0) rfl)))),?_⟩;exact⟨rfl,_,rfl,a,cR,dx',fs',_,rfl,e',T.qp,T.pF,hz',_,_,rfl,rfl,q0,k⟩
theorem ksz (T:Top K mg cNO cK cR):KSz K (pQ cR):=by refine⟨λH a z h=>?_⟩;obtain⟨_,_,dx,fs,e,hz,_⟩:=h;exact⟨cR,dx,fs,e,T.qp,T.pF,hz⟩
def Zi:Int->List Int->Int:=λz ns=>match ns with
 |[a,b]=>pl z (a-b)
 |_=>0
theorem Vk (T:Top K mg cNO cK cR):KM P w K mg base 2 (KR cR) "less" 2 aam Zi:=by
 refine⟨λH a z ka=>?_⟩;obtain⟨q0,dx,fs,e,hz,hm⟩:=id ka;obtain⟨f,fd,Fu,b,m1⟩:=T.G4;refine⟨cR,dx,fs,["self","a","b"],e,hm "less" (by decide +kernel),f,fd,Fu.ok DQ (λvs H Q E h=>?_) (λcdv A outer s H vs Q E hr h=>?_),b,m1,T.qp⟩
 ·obtain⟨ns,hl,rfl,_⟩:=h;show(ns.map V.int).length+1=3;rw[aa,hl]
 obtain⟨ns,hl,rfl,ka2,_,k⟩:=h;obtain⟨x,y,rfl⟩:=Z0 hl;obtain⟨C3,dx3,fs3,ps3,e3,l3,M3⟩:=(pM (P:=P) (w:=w) (base:=base) T).ex H a z ka2;obtain⟨f3,fd3,F3,b3,mm3,c3⟩:=M3.ex;refine⟨_,(pss_one (ps_ret (pe_meth (pv 0) c3 mm3 F3 hr b3 .nil pass0 (pa_cons (Yl op_sub (mK 1) (mK 2)) pa_nil)))),?_⟩;exact⟨_,rfl,a,dx3,fs3,rfl,e3,l3,⟨rfl,rfl⟩,[x-y],rfl,rfl,ka2,tJ,k⟩
def Nu:List Int->List Int->Prop:=λ_ is=>match is with
 |[k]=>0<=k
 |_=>False
def SN:List Int->List Int->Int:=λxs is=>match is with
 |[k]=>xs.getD k.toNat 0
 |_=>0
theorem JS (T:Top K mg cNO cK cR):Ok P w K mg base 1 "_law_cell_at" ["_law_script","_law_k"] (spS K 1 Nu SN):=by
 refine nF.ok T.O5 Ka (λvs H Q E h=>?_) (λf cdv A outer s H vs Q E hr h=>?_)
 ·obtain⟨a,xs,is,hl,rfl,_⟩:=h;show(is.map V.int).length+1=2;rw[aa,hl]
 obtain⟨sa,ns,is,hl,rfl,hS,hp,k⟩:=h;obtain⟨i,rfl⟩:=Y4 hl;have hp:0<=i:=hp;have k:Q (.int (ns.getD i.toNat 0)) H:=k;refine⟨_,(pss_cons (FW (TV (mK 1) (YZ 0 sa (ns.map V.int) T.jD))
 (pss_one (ps_ret (W9 0 sa ns (mK 1) (λ_ _=>rfl))))
 pss_nil)
 (pss_one (ps_ret vJ))),?_⟩
 have el:(ns.map V.int).length=ns.length:=aa _;refine⟨⟨rfl,⟨rfl,hS⟩⟩,λq=>?_,λq=>?_⟩
 ·have q:i<((ns.map V.int).length:Int):=q;refine⟨⟨rfl,rfl,hS,?_,?_⟩,?_⟩
  ·show -(ns.length:Int)<=i;lia
  ·lia
  ·show Q (.int (ns.getD (if 0<=i then i else i+ns.length).toNat 0)) H;rw[af hp];exact k
 ·have q:¬i<((ns.map V.int).length:Int):=q;have e:ns.getD i.toNat 0=0:=by rw[gQ,bG (by lia)];rfl
  rw[e]at k;exact⟨tJ,k⟩
theorem Kh (T:Top K mg cNO cK cR):Ok P w K mg base 1 "_law_cell_at" ["_law_script","_law_k"] (By K (pQ cR) (L3.aao 1 Nu) λas=>SN (Z1 as) (uD as.tail)):=aaA (JS T)
theorem wH (T:Top K mg cNO cK cR):Ok P w K mg base 1 "_law_whole" ["_law_found"] (Py K (pQ cR) (λas=>∃n,as=[.int n]) λ_=>true):=by refine xf T.Vz Qz (λas ⟨c,h⟩=>by rw[h];rfl) (λf cdv A outer s H E hr=>⟨_,(jf (jo (Yv (oA T.lF (xv 0) (qW (by rfl) T.Tr Ud)) (pe_one (YW (oA T.lF (xv 0) (qW (by rfl) T.Zj WD))))))),λas hp=>?_⟩);obtain⟨n,rfl⟩:=hp;have h1:oO K (.int n) (.ty "int")=true:=oR rfl rfl T.CG;have h2:oO K (.int n) (.ty "bool")=false:=oR rfl rfl T.zW;refine⟨⟨⟨rfl,tJ,_,_,_,rfl,rfl,T.CG⟩,λ_=>⟨rfl,tJ,_,_,_,rfl,rfl,T.zW⟩⟩,?_⟩;show PV.bl (decide (oO K (.int n) (.ty "int")=true/\¬oO K (.int n) (.ty "bool")=true))=PV.bl true;rw[h1,h2];rfl
theorem IW (T:Top K mg cNO cK cR):Ok P w K mg base 2 "_law_alike" ["_law_found","_law_due"] (Py K (pQ cR) (λas=>∃a b,as=[.ints a,.ints b]/\b.length<=1000) λas=>match as with
  |[.ints a,.ints b]=>decide (a=b)
  |_=>false):=by
 refine xf T.Wo G6 (λas ⟨a,b,h,_⟩=>by rw[h];rfl) (λf cdv A outer s H E hr=>⟨_,(jd (j7 (L2.PW.pt (oN (nj (xH (oA T.lF (xl 0) (qW (by rfl) T.xY wD)))) (qD (vo (jK 0 T.jD) (jK 1 T.jD)))))
 (jf (jo pL))
 jO)
 (jd (pK (k:=2) aE rfl (by rfl) T.oH (jK 1 T.jD) G6.nd rfl (Or.inl rfl)
 (jf (j7 (L2.PW.pt (oN (nj (xH (xcb (wH T) hr (jc (lZ 0 (xn 2) (λ_ _=>rfl)) jh)))) (qD (vo (lZ 0 (xn 2) (λ_ _=>rfl)) (lZ 1 (xn 2) (λ_ _=>rfl))))))
 (jf (jo pL))
 jO)))
 (jf (jo pL)))),λas hp=>?_⟩)
 obtain⟨a,b,rfl,hb⟩:=hp;have h1:oO K (.ints a) (.ty "list")=true:=oR rfl rfl T.lU;refine⟨⟨⟨rfl,tJ,_,_,_,rfl,rfl,T.lU⟩,λ_=>⟨.inl rfl,.inl rfl⟩⟩,λq=>?_,λq=>?_⟩
 ·have q:¬oO K (.ints a) (.ty "list")=true\/¬(a.length:Int)=(b.length:Int):=q;rw[h1]at q;refine⟨tJ,?_⟩;show PV.bl false=PV.bl (decide (a=b));rw[aI];intro z;subst z;rcases q with q|q
  ·exact q rfl
  ·exact q rfl
 ·have q:¬(¬oO K (.ints a) (.ty "list")=true\/¬(a.length:Int)=(b.length:Int)):=q;have hl:a.length=b.length:=by
   by_cases c:a.length=b.length
   ·exact c
   ·exact absurd (.inr (by lia)) q
  refine⟨.inl rfl,⟨by show -(2:Int)^62<=(b.length:Int);lia,by show(b.length:Int)<2^62;lia⟩,λi Z=>(∃v,Z=[.fr (.ints a),.fr (.ints b),v])/\∀j,j<i->a.getD j 0=b.getD j 0,⟨⟨_,rfl⟩,λj h=>by lia⟩,?_,?_⟩
  ·rintro i Z hi ⟨⟨v,rfl⟩,ih⟩;have hi:i<(b.length:Int).toNat:=hi;have i1:-(a.length:Int)<=(i:Int):=by lia
   have i2:(i:Int)<(a.length:Int):=by lia
   have i3:-(b.length:Int)<=(i:Int):=by lia
   have i4:(i:Int)<(b.length:Int):=by lia
   have ea:lB a.length (i:Int)=i:=by unfold lB;rw[af (by lia)];lia
   have eb:lB b.length (i:Int)=i:=by unfold lB;rw[af (by lia)];lia
   refine⟨⟨⟨⟨⟨.inl rfl,rfl,i1,i2⟩,tJ⟩,⟨_,rfl⟩⟩,λ_=>⟨⟨.inl rfl,rfl,i1,i2⟩,⟨.inl rfl,rfl,i3,i4⟩⟩⟩,λq=>?_,λq=>?_⟩
   ·have q:¬true=true\/¬a.getD (lB a.length (i:Int)) 0=b.getD (lB b.length (i:Int)) 0:=q;rw[ea,eb]at q;refine⟨tJ,?_⟩;show PV.bl false=PV.bl (decide (a=b));rw[aI];intro z;subst z;rcases q with q|q
    ·exact q rfl
    ·exact q rfl
   ·have q:¬(¬true=true\/¬a.getD (lB a.length (i:Int)) 0=b.getD (lB b.length (i:Int)) 0):=q;rw[ea,eb]at q;refine⟨⟨_,rfl⟩,λj hj=>?_⟩;by_cases c:j=i
    ·subst c;by_cases d:a.getD j 0=b.getD j 0
     ·exact d
     ·exact absurd (.inr d) q
    ·exact ih j (by lia)
  ·rintro Z ⟨⟨v,rfl⟩,ih⟩;refine⟨tJ,?_⟩;show PV.bl true=PV.bl (decide (a=b));rw[aK];refine cu hl λj h1 h2=>?_;have z:=ih j (by show j<(b.length:Int).toNat;lia);rw[gQ,gQ,ac h1,ac h2]at z;exact z
theorem Ad (h:ns≠[])(h0:ns.getD (ns.length-1) 0=0):jY ns.dropLast=jY ns:=by
 have e:ns=ns.dropLast++[0]:=by
  have e1:=dG h;have e2:ns.getLast h=0:=by rw[gN];rw[gQ,ac (by have:=lP h;lia)]at h0;exact h0
  rw[e2]at e1;exact e1.symm
 rw[e,vM,List.dropLast_concat]
theorem Ar (h:¬(ns≠[]/\ns.getD (ns.length-1) 0=0)):jY ns=ns:=by
 by_cases c:ns=[]
 ·rw[c];rfl
 ·have h0:¬ns.getD (ns.length-1) 0=0:=λz=>h ⟨c,z⟩;have e1:=dG c;have e2:ns.getLast c≠0:=by rw[gN];rw[gQ,ac (by have:=lP c;lia)]at h0;exact h0
  rw[<- e1,Bv _ e2]
theorem Mw (ns:Li)(h:ns≠[]):lB ns.length (-1)=ns.length-1:=by have:=lP h;unfold lB;rw[ae (by lia)];lia
theorem uG (T:Top K mg cNO cK cR):Ok P w K mg base 1 "cut_noughts" ["numbers"] (spM (λ_=>True) jY):=by
 refine nF.ok T.BL z8 (λvs H Q E h=>?_) (λf cdv A outer s H vs Q E hr h=>?_)
 ·obtain⟨a,ns,rfl,_⟩:=h;rfl
 obtain⟨a,ns,rfl,hH,_,q⟩:=h;refine⟨_,(pss_one (ps_while aE (pw_and (pt_truth (pv 0) (λ_=>rfl)) (pw_and1 (pt_cmpR op_eq (Wz 0 (YC vJ) (λ_ _=>rfl)) vJ (nomark _)))).pt
 (pss_one (ps_expr (pe_bm0 dz hJ hO mt_pop (pv 0)))))),?_⟩
 refine⟨λm σ H'=>σ=[some (.ref a)]/\∃ms,m=ms.length/\H'=upd H a (.lst (ms.map V.int))/\jY ms=jY ns,⟨ns.length,rfl,ns,rfl,?_,rfl⟩,?_⟩
 ·funext b;by_cases c:b=a
  ·rw[c,upd_same,hH]
  ·rw[upd_ne c]
 rintro m σ H' ⟨rfl,ms,rfl,rfl,hm⟩;refine⟨_,rfl,_,.inl ⟨_,SqL.of upd_same,rfl⟩,?_⟩;by_cases c:ms=[]
 ·subst c;refine iteF ?_;refine iteF ?_;refine q _ (λb o hb e=>?_) ?_
  ·rw[upd_ne hb];exact e
  ·rw[upd_same,<- hm];rfl
 ·have hlen:=lP c;have e1:(!(ms.map V.int).isEmpty)=true:=by cases ms<;>simp at c ⊢
  rw[e1];refine iteT ?_;refine⟨tJ,a,ms,ms.getD (ms.length-1) 0,rfl,SqL.of upd_same,?_,?_⟩
  ·have z:=getD_at (ns:=ms) (i:=-1) (by lia) (by lia);rw[z,ae (by lia)];have:(-1+(ms.length:Int)).toNat=ms.length-1:=by lia
   rw[this]
  refine⟨tJ,rfl,_,rfl,?_⟩;by_cases d:ms.getD (ms.length-1) 0=0
  ·have e2:decide (V.int (ms.getD (ms.length-1) 0)=V.int 0)=true:=aK (by rw[d]);rw[e2];refine iteT ?_;refine⟨λσ H'=>σ=[some (.ref a)]/\H'=upd H a (.lst (ms.dropLast.map V.int)),?_,?_⟩
   ·rintro σ' H' ⟨rfl,rfl⟩;refine⟨ms.dropLast.length,by rw[fH];lia,rfl,_,rfl,rfl,?_⟩;rw[<- hm];exact Ad c d
   ·refine⟨_,rfl,.inl ⟨rfl,_,SqL.of upd_same⟩,a,_,V.int (ms[ms.length-1]'(by lia)),rfl,rfl,upd_same,?_,rfl,?_⟩
    ·rw[aa,aw,ac (by lia)];rfl
    ·rw[upd_upd,List.map_dropLast]
  ·have e2:decide (V.int (ms.getD (ms.length-1) 0)=V.int 0)=false:=aI (by intro z;exact d (by injection z));rw[e2];refine iteF ?_;refine q _ (λb o hb e=>?_) ?_
   ·rw[upd_ne hb];exact e
   ·rw[upd_same,<- hm,Ar λz=>d z.2]
theorem jV (T:Top K mg cNO cK cR):Ok P w K mg base 2 "trimmed" ["kind","f"] (Ed K (pQ cR) (λas=>∃z f,as=[.ob 0 z,.ints f]/\f.length<=1000) λas=>match as with
  |[.ob 0 z,.ints f]=>jY (f.map (pl z))
  |_=>[]):=by
 refine Jk T.Ol Bo (λas ⟨a,b,h,_⟩=>by rw[h];rfl) (λf cdv A outer s H E hr=>⟨_,(jd (Mh (i:=2) Bo.nd rfl rfl (N':=["number","kind"]) (cap:=[some 0]) (oZ rfl rfl rfl rfl ⟨⟨rfl,.inr (.inl rfl),BV,.inl rfl,_,rfl,rfl⟩,tJ⟩ ⟨rfl,tJ⟩ rfl) rfl (xl 1) (λ_ _ _=>(pO 0)) (λ_ _ _=>(qH 1 (pM T) hr (jc (xn 0) jh))) rfl)
 (jd (Lr 2 (uG T) hr)
 (jf (zO 2)))),λas hp=>?_⟩)
 obtain⟨z,f,rfl,hf⟩:=hp;refine⟨⟨rfl,hf,λn _=>⟨rfl,⟨rfl,tJ⟩,tJ,tJ⟩⟩,λns e=>?_⟩;have e:ns=f.map (pl z):=e;refine⟨rfl,tJ,rfl,?_⟩;show jY ns=jY (f.map (pl z));rw[e]
def jU (f g:List Int):List Int:=(List.range (max f.length g.length)).map λn=>f.getD n 0+g.getD n 0
theorem ju (f g:Li)(n:Nat):(jU f g).getD n 0=f.getD n 0+g.getD n 0:=by
 unfold jU;by_cases h:n<max f.length g.length
 ·rw[jx (by rw[aa,aq];exact h),bv,bq]
 ·rw[jj (by rw[aa,aq];lia),jj (by lia),jj (by lia)];rfl
theorem HW (f:Li)(k n:Nat):(f++List.replicate k 0).getD n 0=f.getD n 0:=by
 by_cases h:n<f.length
 ·rw[jx (by rw[ai];lia),gE h,jx h]
 ·rw[jj (xs:=f) (by lia)];by_cases h2:n<f.length+k
  ·rw[jx (by rw[ai,aL];exact h2),gA (by lia),cM]
  ·rw[jj (by rw[ai,aL];lia)]
def KH (f g:List Int)(i:Nat)(row:List Int):Prop:=row.length=f.length+(g.length-f.length)/\∀n,row.getD n 0=f.getD n 0+if n<i then g.getD n 0 else 0
theorem Tj (h:KH f g i row)(hi:i<g.length):KH f g (i+1) (row.set i (row.getD i 0+g.getD i 0)):=by
 obtain⟨hl,hr⟩:=h;refine⟨by rw[bR];exact hl,λn=>?_⟩;rw[qX _ _ _ _ (by lia)];by_cases c:n=i
 ·subst c;rw[af rfl,hr,ae (by lia),af (by lia)];lia
 ·rw[ae c,hr];by_cases d:n<i
  ·rw[af d,af (by lia)]
  ·rw[ae d,ae (by lia)]
theorem V1 (h:KH f g g.length row):Tz z row=Tz z (jU f g):=by
 refine Gh λn=>?_;rw[h.2,ju];by_cases d:n<g.length
 ·rw[af d]
 ·rw[ae d,jj (xs:=g) (by lia)]
theorem Wq (T:Top K mg cNO cK cR):Ok P w K mg base 3 "plus" ["kind","f","g"] (Ed K (pQ cR) (λas=>∃z f g,as=[.ob 0 z,.ints f,.ints g]/\f.length<=500/\g.length<=500) λas=>match as with
  |[.ob 0 z,.ints f,.ints g]=>Tz z (jU f g)
  |_=>[]):=by
 refine Jk T.Yd yP (λas ⟨a,b,c,h,_⟩=>by rw[h];rfl) (λf cdv A outer s H E hr=>⟨_,(jd (p6 (i:=3) yP.nd rfl (Or.inl rfl) (tZ (jW (LK T.xY (xl 1) (λ_=>.inl rfl))) (jW (uq (lQ (jc je jh)) (nZ (jK 2 T.jD) (jK 1 T.jD)) (λ_=>rfl)))))
 (jd (wK (k:=4) (j:=5) aE rfl (by rfl) T.lK (xl 2) (pg_tup rfl (pgs_cons (pg_name (i:=4) yP.nd rfl (Or.inl rfl)) (pgs_cons (pg_name (i:=5) yP.nd rfl (Or.inl rfl)) pgs_nil)))
 (jf (Cu 3 (xn 4) (xn 5) ug)))
 (kZ 3 (jf (lO (vy (jV T) hr (jc (xv 0) (jc (xl 3) jh)))))))),λas hp=>?_⟩)
 obtain⟨z,f,g,rfl,hf,hg⟩:=hp;have en:((g.length:Int)-(f.length:Int)).toNat=g.length-f.length:=by lia
 refine⟨⟨rfl,⟨⟨⟨tJ,tJ⟩,tJ⟩,⟨.inl rfl,.inl rfl⟩,?_,?_⟩,?_⟩,λr0 er0=>?_⟩
 ·show -(2:Int)^63<=(g.length:Int)-(f.length:Int);lia
 ·show((g.length:Int)-(f.length:Int)).toNat<=1000;lia
 ·refine bN (small1000 ?_);show f.length+(List.replicate ((g.length:Int)-(f.length:Int)).toNat (0:Int)).length<=1000;rw[aL];lia
 have er0:r0=f++List.replicate (g.length-f.length) 0:=by rw[<- en];exact er0
 refine⟨rfl,λi Z=>∃row v1 v2,Z=[.fr (.ob 0 z),.fr (.ints f),.fr (.ints g),.ow (.ints row),v1,v2]/\KH f g i row,⟨r0,.un,.un,rfl,?_⟩,?_,?_⟩
 ·rw[er0];refine⟨by rw[ai,aL],λn=>?_⟩;rw[HW,ae (by lia),bH]
 ·rintro i n Z hn ⟨row,v1,v2,rfl,hr⟩;have hn:g[i]?=some n:=hn;have hi:=Ua hn;have l1:-(row.length:Int)<=(i:Int):=by lia
  have l2:(i:Int)<(row.length:Int):=by have:=hr.1;lia
  have ix:lB row.length (i:Int)=i:=by unfold lB;rw[af (by lia)];lia
  refine⟨rfl,rfl,⟨l1,l2⟩,rfl,tJ,row.set i (row.getD i 0+n),.fr (.int i),.fr (.int n),?_,?_⟩
  ·show[Sl.fr (.ob 0 z),.fr (.ints f),.fr (.ints g),.ow (.ints (row.set (lB row.length (i:Int)) (row.getD (lB row.length (i:Int)) 0+n))),.fr (.int i),.fr (.int n)]=_;rw[ix]
  ·have q:=Tj hr hi;rw[getD_at' hn]at q;exact q
 ·rintro Z ⟨row,v1,v2,rfl,hr⟩;refine⟨⟨⟨rfl,rfl,tJ⟩,z,row,rfl,?_⟩,?_⟩
  ·rw[hr.1];lia
  ·show Tz z row=Tz z (jU f g);exact V1 hr
theorem Wx (T:Top K mg cNO cK cR):Ok P w K mg base 4 "less" ["kind","f","g"] (Ed K (pQ cR) (λas=>∃z f g,as=[.ob 0 z,.ints f,.ints g]/\f.length<=500/\g.length<=500) λas=>match as with
  |[.ob 0 z,.ints f,.ints g]=>Tz z (jU f (g.map λn=>-n))
  |_=>[]):=by
 refine Jk T.X6 WL (λas ⟨a,b,c,h,_⟩=>by rw[h];rfl) (λf cdv A outer s H E hr=>⟨_,(jf (lO (vy (Wq T) hr (jc (xv 0) (jc (xl 1) (jc (jW (Ff (N':=["number"]) (cap:=[]) (oZ rfl rfl rfl rfl tJ tJ rfl) rfl (xl 2) (λ_ _ _=>(pO 0)) (λ_ _ _=>(sS (xn 0))))) jh)))))),λas hp=>?_⟩);obtain⟨z,f,g,rfl,hf,hg⟩:=hp;refine⟨⟨⟨rfl,rfl,⟨rfl,by show g.length<=1000;lia,λn _=>rfl⟩,tJ⟩,z,f,_,rfl,hf,?_⟩,rfl⟩;rw[aa];exact hg
theorem Om (T:Top K mg cNO cK cR):Ok P w K mg base 3 "scaled" ["kind","f","number"] (Ed K (pQ cR) (λas=>∃z f n,as=[.ob 0 z,.ints f,.int n]/\f.length<=1000/\n.natAbs<2^9000/\∀m∈f,m.natAbs<2^9000) λas=>match as with
  |[.ob 0 z,.ints f,.int n]=>Tz z (f.map λm=>n*m)
  |_=>[]):=by
 refine Jk T.Rv Od (λas ⟨a,b,c,h,_⟩=>by rw[h];rfl) (λf cdv A outer s H E hr=>⟨_,(jf (lO (vy (jV T) hr (jc (xv 0) (jc (jW (Ff (N':=["one","number"]) (cap:=[some 2]) (oZ rfl rfl rfl rfl ⟨⟨rfl,.inr (.inl rfl),BV,.inl rfl,_,rfl,rfl⟩,tJ⟩ ⟨rfl,tJ⟩ rfl) rfl (xl 1) (λ_ _ _=>(pO 0)) (λ_ _ _=>(n6 (xn 1) (xn 0))))) jh))))),λas hp=>?_⟩);obtain⟨z,f,n,rfl,hf,hn,hm⟩:=hp;refine⟨⟨⟨rfl,⟨rfl,hf,λm hm'=>⟨rfl,rfl,pP (n:=9000) (m:=9000) hn (hm m hm')⟩⟩,tJ⟩,z,_,rfl,?_⟩,rfl⟩;rw[aa];exact hf
theorem ZM (hz:0<=z)(hz2:z<((2^9000:Nat):Int))(hf:∀m∈f,m.natAbs<2^9000):∀m∈Tz z f,m.natAbs<2^9000:=λm hm=>by obtain⟨k,hk,rfl⟩:=Yr hm;exact zJ hz hz2 (hf k hk)
theorem T9 (T:Top K mg cNO cK cR):Ok P w K mg base 3 "times" ["kind","f","g"] (Ed K (pQ cR) (λas=>∃z f g,as=[.ob 0 z,.ints f,.ints g]/\0<=z/\z<((2^9000:Nat):Int)/\f.length+g.length<=1000/\(∀m∈f,m.natAbs<2^9000)/\(∀m∈g,m.natAbs<2^9000)) λas=>match as with
  |[.ob 0 z,.ints f,.ints g]=>Tz z (ji (Tz z f) (Tz z g))
  |_=>[]):=by
 refine Jk T.Xb pG (λas ⟨a,b,c,h,_⟩=>by rw[h];rfl) (λf cdv A outer s H E hr=>⟨_,(jd (jr (i:=3) pG.nd rfl (Or.inl rfl) (jW (vy (jV T) hr (jc (xv 0) (jc (xl 1) jh)))))
 (jd (jr (i:=4) pG.nd rfl (Or.inl rfl) (jW (vy (jV T) hr (jc (xv 0) (jc (xl 2) jh)))))
 (jd (p6 (i:=5) pG.nd rfl (Or.inl rfl) (uq (lQ (jc je jh)) (kO (jK 3 T.jD) (jK 4 T.jD)) (λ_=>rfl)))
 (jd (wK (k:=6) (j:=7) aE rfl (by rfl) T.lK (xl 3) (pg_tup rfl (pgs_cons (pg_name (i:=6) pG.nd rfl (Or.inl rfl)) (pgs_cons (pg_name (i:=7) pG.nd rfl (Or.inl rfl)) pgs_nil)))
 (jf (wK (k:=8) (j:=9) aE rfl (by rfl) T.lK (xl 4) (pg_tup rfl (pgs_cons (pg_name (i:=8) pG.nd rfl (Or.inl rfl)) (pgs_cons (pg_name (i:=9) pG.nd rfl (Or.inl rfl)) pgs_nil)))
 (jf (Cu 5 (kO (xn 6) (xn 8)) (n6 (xn 7) (xn 9)) ug)))))
 (kZ 5 (jf (lO (vy (jV T) hr (jc (xv 0) (jc (xl 5) jh)))))))))),λas hp=>?_⟩)
 obtain⟨z,f,g,rfl,hz,hz2,hl,hf,hg⟩:=hp;refine⟨⟨⟨rfl,rfl,tJ⟩,z,f,rfl,by lia⟩,λfo efo=>?_⟩;refine⟨⟨⟨rfl,rfl,tJ⟩,z,g,rfl,by lia⟩,λgo ego=>?_⟩;have lf:fo.length<=f.length:=by rw[efo];exact mW _ _
 have lg:go.length<=g.length:=by rw[ego];exact mW _ _
 have bf:∀m∈fo,m.natAbs<2^9000:=by rw[efo];exact ZM hz hz2 hf
 have bg:∀m∈go,m.natAbs<2^9000:=by rw[ego];exact ZM hz hz2 hg
 have en:((fo.length:Int)+(go.length:Int)).toNat=fo.length+go.length:=by lia
 refine⟨⟨⟨⟨tJ,tJ⟩,tJ⟩,⟨.inl rfl,.inl rfl⟩,?_,?_⟩,λr0 er0=>?_⟩
 ·lia
 ·show((fo.length:Int)+(go.length:Int)).toNat<=1000;lia
 have er0:r0=List.replicate (fo.length+go.length) 0:=by rw[<- en];exact er0
 refine⟨rfl,λi Z=>∃row v1 v2 v3 v4,Z=[.fr (.ob 0 z),.fr (.ints f),.fr (.ints g),.fr (.ints fo),.fr (.ints go),.ow (.ints row),v1,v2,v3,v4]/\tE fo go i 0 row,⟨r0,.un,.un,.un,.un,rfl,by rw[er0];exact Dq fo go⟩,?_,?_⟩
 ·rintro i n Z hn ⟨row,v1,v2,v3,v4,rfl,hr⟩;have hn:fo[i]?=some n:=hn;have hi:=Ua hn;refine⟨rfl,λj Z=>∃row v3 v4,Z=[.fr (.ob 0 z),.fr (.ints f),.fr (.ints g),.fr (.ints fo),.fr (.ints go),.ow (.ints row),.fr (.int i),.fr (.int n),v3,v4]/\tE fo go i j row,⟨row,v3,v4,rfl,hr⟩,?_,?_⟩
  ·rintro j m Z hm ⟨row,v3,v4,rfl,hr⟩;have hm:go[j]?=some m:=hm;have hj:=Ua hm;have l1:-(row.length:Int)<=(i:Int)+(j:Int):=by lia
   have l2:(i:Int)+(j:Int)<(row.length:Int):=by have:=hr.1;lia
   have ix:lB row.length ((i:Int)+(j:Int))=i+j:=by unfold lB;rw[af (by lia)];lia
   refine⟨rfl,⟨rfl,rfl⟩,⟨l1,l2⟩,⟨rfl,rfl,?_⟩,tJ,row.set (i+j) (row.getD (i+j) 0+n*m),.fr (.int j),.fr (.int m),?_,?_⟩
   ·exact pP (n:=9000) (m:=9000) (bf n (QH hn)) (bg m (QH hm))
   ·rw[<- ix];rfl
   ·have q:=HB hr hi hj;rw[getD_at' hn,getD_at' hm]at q;exact q
  ·rintro Z ⟨row,v3,v4,rfl,hr⟩;exact⟨row,_,_,v3,v4,rfl,HH hr⟩
 ·rintro Z ⟨row,v1,v2,v3,v4,rfl,hr⟩;have er:=row_end hr;refine⟨⟨⟨rfl,rfl,tJ⟩,z,row,rfl,?_⟩,?_⟩
  ·rw[hr.1];lia
  ·show jY (row.map (pl z))=_;rw[er,efo,ego];rfl
open Classical in
def tu (n z:Int):Int:=if h:∃x:Int,0<=x/\x<z/\x*n % z=1 then Classical.choose h else 0
theorem Qx (hz:2<=z)(h0:0<=x)(h1:x<z)(h2:x*n % z=1):tu n z=x:=by
 have ex:∃x:Int,0<=x/\x<z/\x*n % z=1:=⟨x,h0,h1,h2⟩;have e:tu n z=Classical.choose ex:=by unfold tu;rw[iW ex]
 obtain⟨y0,y1,y2⟩:=fw ex;rw[e];generalize Classical.choose ex=y at y0 y1 y2;have a1:(y*(x*n)) % z=y:=by rw[fk,h2,bO,Int.emod_emod,bx y0 y1]
 have a2:(x*(y*n)) % z=x:=by rw[fk,y2,bO,Int.emod_emod,bx h0 h1]
 exact(a1.symm.trans (by rw[gF y x n])).trans a2
theorem Ky (hz:2<=z)(h:∃x:Int,0<=x/\x<z/\x*n % z=1):0<=tu n z/\tu n z<z/\tu n z*n % z=1:=by obtain⟨x,h0,h1,h2⟩:=h;rw[Qx hz h0 h1 h2];exact⟨h0,h1,h2⟩
theorem NT (hz:2<=z)(h:Int.gcd n z=1):∃x:Int,0<=x/\x<z/\x*n % z=1:=by
 have run:∀(m:Nat) (b r sb s:Int),r.toNat<=m->Eu n z b r sb s->∃x:Int,0<=x/\x<z/\x*n % z=1:=by
  intro m
  induction m with
  |zero=>
   intro b r sb s hm I;have:=I.r0;have e:r=0:=by lia
   subst e;have gc:=I.end;exact⟨sb % z,a9 _ (by lia),aX _ (by lia),I.one hz (by lia)⟩
  |succ m ih=>
   intro b r sb s hm I;by_cases c:r=0
   ·subst c;have gc:=I.end;exact⟨sb % z,a9 _ (by lia),aX _ (by lia),I.one hz (by lia)⟩
   ·have I2:=I.step c;have:=I2.rb;have:=I2.r0;have:=I.r0;exact ih _ _ _ _ (by lia) I2
 exact run _ _ _ _ _ (ao _) (Eu.start hz)
def JF (C:Addr):List PV->Rs:=λas=>match as with
 |[.int n,.int z]=>if Int.gcd n z=1 then .val (.int (tu n z)) else .err C
 |_=>.err C
theorem Js {x z:Int}(h:(x.natAbs:Int)<=z)(hz:z.natAbs<2^9000):x.natAbs<2^9000:=by
 generalize 2^9000=B at *
 lia
theorem N6 (T:Top K mg cNO cK cR):OkE P w K mg base 1 "turned" ["number","size"] (spE K (pQ cR) (λas=>∃n z,as=[.int n,.int z]/\2<=z/\z.natAbs<2^9000) (JF cNO)):=by
 refine okE T.Q9 lE (λas ⟨n,z,h,_⟩=>by rw[h];rfl) (λf cdv A outer s H E hr=>⟨_,(jd (jq (i:=2) lE.nd rfl (Or.inl rfl) (xn 1))
 (jd (jq (i:=3) lE.nd rfl (Or.inl rfl) (lD (xn 0) (xn 1)))
 (jd (jq (i:=4) lE.nd rfl (Or.inl rfl) je)
 (jd (jq (i:=5) lE.nd rfl (Or.inl rfl) je)
 (jd (mY PassesOwn.leaving (vo (xn 3) je)
 (jd (jq (i:=6) lE.nd rfl (Or.inl rfl) (rB (xn 2) (xn 3)))
 (jd (jq (i:=7) lE.nd rfl (Or.inl rfl) (nZ (xn 2) (n6 (xn 6) (xn 3))))
 (jd (jq (i:=8) lE.nd rfl (Or.inl rfl) (nZ (xn 4) (n6 (xn 6) (xn 5))))
 (jd (jq (i:=2) lE.nd rfl (Or.inl rfl) (xn 3))
 (jd (jq (i:=3) lE.nd rfl (Or.inl rfl) (xn 7))
 (jd (jq (i:=4) lE.nd rfl (Or.inl rfl) (xn 5))
 (jf (jq (i:=5) lE.nd rfl (Or.inl rfl) (xn 8))))))))))
 (jd (j7 (vo (xn 2) je)
 (jf (Pn aa8 rfl T.Qq (by rfl) T.Gw (jc Yp jh)))
 jO)
 (jf (jo (lD (xn 4) (xn 1)))))))))),λas hp=>?_⟩)
 obtain⟨n,z,rfl,hz,hz9⟩:=hp;refine⟨rfl,λb0 e0=>?_⟩;subst e0;refine⟨⟨rfl,rfl,by show 0<b0;lia⟩,λr0 er=>?_⟩;refine⟨tJ,λz0 ez=>?_⟩;subst ez;refine⟨tJ,λo0 eo=>?_⟩;subst eo;refine⟨λZ=>∃b r sb s o rb sbh,Z=[.fr (.int n),.fr (.int b0),.fr (.int b),.fr (.int r),.fr (.int sb),.fr (.int s),o,rb,sbh]/\Eu n b0 b r sb s,λZ=>(xN Z 3).toNat,⟨b0,r0,0,1,.un,.un,.un,rfl,by rw[er];exact Eu.start hz⟩,?_⟩;rintro Z ⟨b,r,sb,s,o,rb,sbh,rfl,I⟩;have sm:=I.id;have sbz:=I.bz;have rlt:=I.rb;have rnn:=I.r0;have s9:s.natAbs<2^9000:=Js (z:=b0) (by
  have h1:(s.natAbs:Int)*1<=(s.natAbs:Int)*b:=bC (by lia) (by lia);have h2:0<=(sb.natAbs:Int)*r:=iB (by lia) rnn;lia) hz9
 have r9:r.natAbs<2^9000:=Js (z:=b0) (by lia) hz9;refine⟨⟨rfl,tJ⟩,λc=>?_,λc=>?_⟩
 ·have c:¬r=0:=c;have q0:0<=b / r:=Int.ediv_nonneg (by lia) (by lia);have q1:b / r<=b:=Int.ediv_le_self _ (by lia);have q9:(b / r).natAbs<2^9000:=Js (z:=b0) (by lia) hz9;refine⟨⟨rfl,rfl,by show 0<r;lia,(iG (by show r.natAbs≠0;lia)).mpr r9⟩,λq eq=>?_⟩;subst eq;refine⟨⟨rfl,rfl,rfl,pP q9 r9⟩,λr1 e1=>?_⟩;refine⟨⟨rfl,rfl,rfl,pP q9 s9⟩,λs1 e2=>?_⟩;have f1:r1=b-b / r*r:=e1;have f2:s1=sb-b / r*s:=e2;clear e1 e2;refine⟨rfl,λb' eb=>?_⟩;have eb:b'=r:=eb;subst eb;refine⟨rfl,λr2 e3=>?_⟩;have e3:r2=r1:=e3;subst e3;refine⟨rfl,λs2 e4=>?_⟩;have e4:s2=s:=e4;subst e4;refine⟨rfl,λs3 e5=>?_⟩;have e5:s3=s1:=e5;subst e5;have I2:=I.step c;rw[<- f1,<- f2]at I2;refine⟨⟨_,_,_,_,_,_,_,rfl,I2⟩,?_⟩;show r2.toNat<b'.toNat;have:=I2.rb;have:=I2.r0;lia
 ·have c:¬¬r=0:=c;have c:r=0:=by lia
  subst c;have gc:=I.end;refine⟨⟨rfl,tJ⟩,λhb=>?_,λhb=>?_⟩
  ·have hb:¬b=1:=hb;refine⟨⟨tJ,tJ⟩,?_⟩;show JF cNO [.int n,.int b0]=.err cNO;show(if Int.gcd n b0=1 then _ else _)=_;rw[ae (by lia)]
  ·have hb:¬¬b=1:=hb;have hb:b=1:=by lia
   refine⟨⟨rfl,rfl,by show 0<b0;lia⟩,?_⟩;show JF cNO [.int n,.int b0]=.val (.int (sb % b0));show(if Int.gcd n b0=1 then _ else _)=_;rw[af (by lia),Qx hz (a9 _ (by lia)) (aX _ (by lia)) (I.one hz hb)]
theorem qw (z a b:Int):pl z a=pl z b ↔ z ∣ a-b:=by
 unfold pl;split
 ·rename_i h;subst h;rw[Int.zero_dvd];lia
 ·rw[eu,Int.dvd_iff_emod_eq_zero]
theorem sI (ha:pl z a=a)(hb:pl z b=b)(h:z ∣ a-b):a=b:=by rw[<- ha,<- hb];exact(qw z a b).mpr h
theorem ni (z a:Int):z ∣ pl z a-a:=(qw z _ _).mp (uF z a)
def jk (xs:List Int):Int:=xs.getD (xs.length-1) 0
theorem m8:∀{N:Nat},(∀j,j<N->z ∣ f j)->z ∣ sm N f
 |0,_=>aV z
 |N+1,h=>bE (m8 λj hj=>h j (by lia)) (h N (by lia))
theorem JK:∀{N:Nat},i<N->(∀j,j<N->j≠i->z ∣ f j)->z ∣ sm N f-f i
 |0,h,_=>by lia
 |N+1,h,k=>by
  show z ∣ sm N f+f N-f i;by_cases c:i=N
  ·subst c;have e:sm i f+f i-f i=sm i f:=by lia
   rw[e];exact m8 λj hj=>k j (by lia) (by lia)
  ·have e:sm N f+f N-f i=(sm N f-f i)+f N:=by lia
   rw[e];exact bE (JK (by lia) λj hj hne=>k j (by lia) hne) (k N (by lia) (by lia))
theorem Sh:∀{N:Nat},(∀i,i<N->i≠k->f i=g i)->sm N f=sm N g+if k<N then f k-g k else 0
 |0,_=>by show(0:Int)=0+_;rw[ae (by lia)];rfl
 |N+1,h=>by
  show sm N f+f N=sm N g+g N+_;rw[Sh (f:=f) (g:=g) (k:=k) λi hi hne=>h i (by lia) hne];by_cases c:k=N
  ·subst c;rw[ae (by lia),af (by lia)];lia
  ·rw[h N (by lia) (by lia)];by_cases d:k<N
   ·rw[af d,af (by lia)];lia
   ·rw[ae d,ae (by lia)];lia
theorem JN (hd:0<d.length)(up:∀j,i<j->z ∣ E.getD j 0):z ∣ cm E d (i+(d.length-1))-E.getD i 0*jk d:=by
 have h:=JK (z:=z) (f:=λj=>E.getD j 0*d.getD (i+(d.length-1)-j) 0) (i:=i) (N:=i+(d.length-1)+1) (by lia) λj hj hne=>by
  rcases gq hne with c|c
  ·rw[jj (show d.length<=i+(d.length-1)-j by lia),aU];exact aV z
  ·exact bh (up j c)
 have e:i+(d.length-1)-i=d.length-1:=by lia
 rw[e]at h;exact h
theorem aaK (hd:0<d.length)(nz:∀x,z ∣ x*jk d->z ∣ x)(h:∀n,S+(d.length-1)<=n->z ∣ cm E d n):∀i,S<=i->z ∣ E.getD i 0:=by
 have key:∀k i,S<=i->E.length<=i+k->z ∣ E.getD i 0:=by
  intro k
  induction k with
  |zero=>intro i _ hk;rw[jj (by lia)];exact aV z
  |succ k ih=>intro i hi hk;have one:=JN (z:=z) (E:=E) hd (i:=i) λj hj=>ih j (by lia) (by lia);refine nz _ ?_;have:=eO (h (i+(d.length-1)) (by lia)) one;rw[Int.sub_sub_self]at this;exact this
 exact λi hi=>key E.length i hi (by lia)
theorem Zb (hg:g<q.length)(h0:q.getD g 0=0)(n:Nat):cm (q.set g c) d n=cm q d n+if g<=n then c*d.getD (n-g) 0 else 0:=by
 unfold cm;rw[Sh (f:=λi=>(q.set g c).getD i 0*d.getD (n-i) 0) (g:=λi=>q.getD i 0*d.getD (n-i) 0) (k:=g) λi hi hne=>by
  rw[qX _ _ _ _ hg,ae hne]]
 congr 1;by_cases k:g<n+1
 ·rw[af k,af (by lia)];rw[qX _ _ _ _ hg,af rfl,h0];lia
 ·rw[ae k,ae (by lia)]
def Fi (a b:List Int):List Int:=(List.range (max a.length b.length)).map λi=>a.getD i 0-b.getD i 0
theorem rM (a b:Li)(n:Nat):(Fi a b).getD n 0=a.getD n 0-b.getD n 0:=by
 unfold Fi;by_cases h:n<max a.length b.length
 ·rw[jx (by rw[aa,aq];exact h),bv,bq]
 ·rw[jj (by rw[aa,aq];lia),jj (xs:=a) (by lia),jj (xs:=b) (by lia)];rfl
theorem vO (f g:Nat->Int):∀N,sm N (λi=>f i-g i)=sm N f-sm N g
 |0=>rfl
 |N+1=>by show sm N (λi=>f i-g i)+(f N-g N)=sm N f+f N-(sm N g+g N);rw[vO f g N];lia
theorem Ug (a b d:Li)(n:Nat):cm (Fi a b) d n=cm a d n-cm b d n:=by unfold cm;rw[<- vO];exact jn λi _=>by rw[rM,fS]
theorem mR {xs:Li}{L:Nat}(hf:j6 xs)(h:∀n,L<=n->xs.getD n 0=0):xs.length<=L:=by
 by_cases c:xs.length<=L
 ·exact c
 ·exact absurd (h (xs.length-1) (by lia)) (hf λe=>by rw[e]at c;exact c (be _))
def ul (z:Int)(d r:List Int)(c:Int):List Int:=jY ((List.range r.length).map λn=>if r.length-d.length<=n then pl z (r.getD n 0-c*d.getD (n-(r.length-d.length)) 0) else r.getD n 0)
theorem xJ (hd:d.length<=r.length)(n:Nat):(ul z d r c).getD n 0=if r.length-d.length<=n then pl z (r.getD n 0-c*d.getD (n-(r.length-d.length)) 0) else r.getD n 0:=by
 unfold ul;rw[wu];by_cases h:n<r.length
 ·rw[jx (by rw[aa,aq];exact h),bv,bq]
 ·rw[jj (by rw[aa,aq];lia),af (by lia),jj (xs:=r) (by lia),jj (xs:=d) (by lia),aU,aS,lH]
def Pb (z:Int)(ov:Int->Int->Option Int)(d:List Int):Nat->List Int->List Int->Option (List Int×List Int)
 |0,q,r=>some (q,r)
 |n+1,q,r=>if r.length<d.length then some (q,r) else match ov (jk r) (jk d) with
  |none=>none
  |some c=>Pb z ov d n (q.set (r.length-d.length) c) (ul z d r c)
structure yf (z:Int)(f d q r:List Int):Prop where
 eq:∀n,z ∣ cm q d n+r.getD n 0-f.getD n 0
 rr:∀n,pl z (r.getD n 0)=r.getD n 0
 rf:j6 r
 qr:∀n,pl z (q.getD n 0)=q.getD n 0
 ql:q.length=f.length+1-d.length
 rl:r.length<=f.length
 q0:∀n,n+d.length<=r.length->q.getD n 0=0
 qt:r.length<f.length->q.getD (f.length-d.length) 0≠0
theorem yf.start (hf:j6 f)(hr:∀n,pl z (f.getD n 0)=f.getD n 0):yf z f d (List.replicate (f.length+1-d.length) 0) f:=by
 have g0:∀n,(List.replicate (f.length+1-d.length) (0:Int)).getD n 0=0:=λn=>by
  by_cases h:n<f.length+1-d.length
  ·rw[jx (by rw[aL];exact h),cM]
  ·rw[jj (by rw[aL];lia)]
 refine⟨λn=>?_,hr,hf,λn=>?_,aL,ao _,λn _=>g0 n,λh=>absurd h (cY _)⟩
 ·have e:cm (List.replicate (f.length+1-d.length) 0) d n=0:=mO λi _=>by rw[g0,bT]
  rw[e];have:(0:Int)+f.getD n 0-f.getD n 0=0:=by lia
  rw[this];exact aV z
 ·rw[g0,lH]
theorem yf.step {z:Int}{f d q r:Li}{c:Int}(I:yf z f d q r)(hd:0<d.length)(hl:d.length<=r.length)(hc:pl z (c*jk d)=jk r)(hp:pl z c=c):yf z f d (q.set (r.length-d.length) c) (ul z d r c)/\(ul z d r c).length<r.length:=by
 have hg:r.length-d.length<q.length:=by rw[I.ql];have:=I.rl;lia
 have h0:q.getD (r.length-d.length) 0=0:=I.q0 _ (by lia);have rne:r≠[]:=λe=>by rw[e]at hl;exact absurd hl (by show ¬d.length<=0;lia)
 have l0:jk r≠0:=I.rf rne;have hc2:c≠0:=λe=>by rw[e,bT,lH]at hc;exact l0 hc.symm
 have hlen:(ul z d r c).length<r.length:=by
  have:(ul z d r c).length<=r.length-1:=by
   refine mR (rT _) λn hn=>?_;rw[xJ hl,af (by lia)];by_cases k:n=r.length-1
   ·subst k;have e1:r.length-1-(r.length-d.length)=d.length-1:=by lia
    rw[e1];show pl z (jk r-c*jk d)=0;rw[<- lH z];refine(qw z _ _).mpr ?_;have h1:=ni z (c*jk d);rw[hc]at h1;rw[aS];exact h1
   ·rw[jj (xs:=r) (by lia),jj (xs:=d) (by lia),aU,aS,lH]
  lia
 refine⟨⟨λn=>?_,λn=>?_,rT _,λn=>?_,by rw[bR];exact I.ql,by have:=I.rl;lia,λn hn=>?_,λ_=>?_⟩,hlen⟩
 ·rw[Zb hg h0,xJ hl];have e:=I.eq n;by_cases k:r.length-d.length<=n
  ·rw[af k,af k];have p:=ni z (r.getD n 0-c*d.getD (n-(r.length-d.length)) 0);have s:=bE e p;generalize pl z (r.getD n 0-c*d.getD (n-(r.length-d.length)) 0)=u at s ⊢;generalize c*d.getD (n-(r.length-d.length)) 0=v at s ⊢;have q:cm q d n+v+u-f.getD n 0=cm q d n+r.getD n 0-f.getD n 0+(u-(r.getD n 0-v)):=by lia
   rw[q];exact s
  ·rw[ae k,ae k,bH];exact e
 ·rw[xJ hl];split
  ·exact uF z _
  ·exact I.rr n
 ·rw[qX _ _ _ _ hg];split
  ·exact hp
  ·exact I.qr n
 ·rw[qX _ _ _ _ hg,ae (by lia)];exact I.q0 n (by lia)
 ·rw[qX _ _ _ _ hg];split
  ·exact hc2
  ·have:=I.rl;exact I.qt (by lia)
theorem Kw (hd:0<d.length)(hov:∀a c,pl z a=a->ov a (jk d)=some c->pl z (c*jk d)=a/\pl z c=c):∀(fuel:Nat) (q r:Li),yf z f d q r->r.length<fuel ->
  (∀Q R,Pb z ov d fuel q r=some (Q,R)->yf z f d Q R/\R.length<d.length)/\(Pb z ov d fuel q r=none->∃q' r',yf z f d q' r'/\d.length<=r'.length/\ov (jk r') (jk d)=none)
 |0,_,_,_,h=>by lia
 |n+1,q,r,I,h=>by
  unfold Pb;by_cases c:r.length<d.length
  ·rw[af c];refine⟨λQ R e=>?_,λe=>by cases e⟩;cases e;exact⟨I,c⟩
  ·rw[ae c];cases o:ov (jk r) (jk d) with
   |none=>exact⟨(λQ R e=>by cases e),λ_=>⟨q,r,I,by lia,o⟩⟩
   |some x=>obtain⟨h1,h2⟩:=hov (jk r) x (I.rr _) o;obtain⟨J,hl⟩:=I.step hd (by lia) h1 h2;exact Kw hd hov n _ _ J (by lia)
def xR (z:Int)(d r:List Int)(c:Int)(i:Nat)(row:List Int):Prop:=row.length=r.length/\∀n,row.getD n 0=if r.length-d.length<=n/\n-(r.length-d.length)<i then pl z (r.getD n 0-c*d.getD (n-(r.length-d.length)) 0) else r.getD n 0
theorem JH (z:Int)(d r:Li)(c:Int):xR z d r c 0 r:=⟨rfl,λn=>by rw[ae (by lia)]⟩
theorem Oa (h:xR z d r c i row)(hl:d.length<=r.length)(hi:i<d.length):xR z d r c (i+1) (row.set (r.length-d.length+i) (pl z (row.getD (r.length-d.length+i) 0-c*d.getD i 0))):=by
 obtain⟨h1,h2⟩:=h;refine⟨by rw[bR];exact h1,λn=>?_⟩;rw[qX _ _ _ _ (by lia)];by_cases k:n=r.length-d.length+i
 ·subst k;rw[af rfl,af (by lia),h2,ae (by lia),show r.length-d.length+i-(r.length-d.length)=i by lia]
 ·rw[ae k,h2];by_cases q:r.length-d.length<=n/\n-(r.length-d.length)<i
  ·rw[af q,af (by lia)]
  ·rw[ae q,ae (by lia)]
theorem QM (h:xR z d r c d.length row)(hl:d.length<=r.length):jY row=ul z d r c:=by
 unfold ul;refine Ih λn=>?_;rw[h.2 n];by_cases k:n<r.length
 ·rw[jx (xs:=(List.range r.length).map _) (by rw[aa,aq];exact k),bv,bq];by_cases q:r.length-d.length<=n
  ·rw[af ⟨q,by lia⟩,af q]
  ·rw[ae (by lia),ae q]
 ·rw[jj (xs:=(List.range r.length).map _) (by rw[aa,aq];lia),ae (by lia),jj (by lia)]
theorem jX (z:Int)(f:Li):j6 (Tz z f):=rT _
theorem nY (z:Int)(f:Li)(n:Nat):pl z ((Tz z f).getD n 0)=(Tz z f).getD n 0:=by rw[j9,uF]
theorem sJ (ns:Li)(h:0<ns.length):ns.getD (lB ns.length (-1)) 0=jk ns:=by
 have e:lB ns.length (-1)=ns.length-1:=by unfold lB;rw[ae (by lia)];lia
 rw[e];rfl
theorem sO (f g:Nat->Int):∀N,sm N (λi=>f i+g i)=sm N f+sm N g
 |0=>rfl
 |N+1=>by show sm N (λi=>f i+g i)+(f N+g N)=sm N f+f N+(sm N g+g N);rw[sO f g N];lia
theorem nU (l:Int)(f:Nat->Int):∀n,sm n (λi=>l*f i)=l*sm n f
 |0=>(aU l).symm
 |n+1=>by show sm n (λi=>l*f i)+l*f n=l*(sm n f+f n);rw[nU l f n,fU]
theorem nR (o:Int)(q d:Li)(i:Nat):cm (o::q) d i=o*d.getD i 0+if i=0 then 0 else cm q d (i-1):=by
 unfold cm;rw[qb];have e1:((o::q).getD 0 0:Int)=o:=rfl;rw[e1,f9];congr 1;by_cases c:i=0
 ·subst c;rfl
 ·rw[ae c];obtain⟨k,rfl⟩:∃k,i=k+1:=⟨i-1,by lia⟩;refine jn λj hj=>?_;have e2:((o::q).getD (j+1) 0:Int)=q.getD j 0:=rfl;have e3:k+1-(j+1)=k-j:=by lia
  have e4:k+1-1-j=k-j:=by lia
  rw[e2,e3,e4]
theorem lL (d:Li)(n:Nat):cm [] d n=0:=mO λi _=>by rw[jj (be _),bT]
theorem Dy (h:∀n,f.getD n 0=0)(n:Nat):cm f g n=0:=mO λi _=>by rw[h i,bT]
theorem wC (h:∀n,f.getD n 0=f'.getD n 0)(k:∀n,g.getD n 0=g'.getD n 0)(n:Nat):cm f g n=cm f' g' n:=jn λi _=>by rw[h,k]
theorem V7 (ha:∀i,a.getD i 0=o*g.getD i 0+if i=0 then 0 else u.getD (i-1) 0)(n:Nat):cm a h n=o*cm g h n+if n=0 then 0 else cm u h (n-1):=by
 unfold cm;have e:sm (n+1) (λi=>a.getD i 0*h.getD (n-i) 0)=sm (n+1) λi=>o*(g.getD i 0*h.getD (n-i) 0)+(if i=0 then 0 else u.getD (i-1) 0)*h.getD (n-i) 0:=jn λi _=>by rw[ha,eJ,bM]
 rw[e,sO,nU];congr 1;rw[qb];have e0:(if (0:Nat)=0 then(0:Int) else u.getD (0-1) 0)*h.getD (n-0) 0=0:=by rw[af rfl,bT]
 rw[e0,c6];by_cases c:n=0
 ·subst c;rfl
 ·rw[ae c];obtain⟨k,rfl⟩:∃k,n=k+1:=⟨n-1,by lia⟩;refine jn λj _=>?_;have e3:k+1-(j+1)=k+1-1-j:=by lia
  rw[ae (by lia),e3];rfl
theorem mF (g h:Li):∀(f:Li) (n:Nat),cm (ji f g) h n=cm f (ji g h) n
 |[],n=>by rw[lL,Dy];intro i;rw[jg,lL]
 |o::q,n=>by
  rw[nR,V7 (u:=ji q g) (g:=g) (o:=o) (λi=>by
   rw[jg,nR];congr 1;by_cases c:i=0
   ·rw[af c,af c]
   ·rw[ae c,ae c,jg])]
  rw[jg];congr 1;by_cases c:n=0
  ·rw[af c,af c]
  ·rw[ae c,ae c,mF g h q]
def mu (f g:List Int):List Int:=jY (ji f g)
def kY (p:Int)(d a b:List Int):Prop:=∃Q:List Int,∀n,p ∣ a.getD n 0-b.getD n 0-cm Q d n
theorem kY.refl (p:Int)(d a:Li):kY p d a a:=⟨[],λn=>by rw[lL,cB];exact aV p⟩
theorem kY.of (h:∀n,p ∣ a.getD n 0-b.getD n 0):kY p d a b:=⟨[],λn=>by rw[lL,aS];exact h n⟩
theorem qQ (a b d:Li)(n:Nat):cm (jU a b) d n=cm a d n+cm b d n:=by unfold cm;rw[<- sO];exact jn λi _=>by rw[ju,eJ]
theorem Yj (a d:Li)(n:Nat):cm (a.map λx=>-x) d n = -cm a d n:=by have h:=nU (-1) (λi=>a.getD i 0*d.getD (n-i) 0) (n+1);unfold cm;rw[eW]at h;rw[<- h];exact jn λi _=>by rw[mV _ (by decide),eW,iM]
theorem kY.symm (h:kY p d a b):kY p d b a:=by
 obtain⟨Q,h⟩:=h;refine⟨Q.map λx=>-x,λn=>?_⟩;rw[Yj];have e:b.getD n 0-a.getD n 0 - -cm Q d n = -(a.getD n 0-b.getD n 0-cm Q d n):=by lia
 rw[e];exact bu.mpr (h n)
theorem kY.trans (h:kY p d a b)(k:kY p d b c):kY p d a c:=by
 obtain⟨Q,h⟩:=h;obtain⟨S,k⟩:=k;refine⟨jU Q S,λn=>?_⟩;rw[qQ];have e:a.getD n 0-c.getD n 0-(cm Q d n+cm S d n)=(a.getD n 0-b.getD n 0-cm Q d n)+(b.getD n 0-c.getD n 0-cm S d n):=by lia
 rw[e];exact bE (h n) (k n)
theorem zr (h:∀n,p ∣ a.getD n 0-b.getD n 0)(n:Nat):p ∣ cm a c n-cm b c n:=by rw[<- Ug];exact m8 λi _=>by rw[rM];exact bh (h i)
theorem kY.mul (h:kY p d a b)(c:Li):kY p d (ji a c) (ji b c):=by
 obtain⟨Q,h⟩:=h;refine⟨ji Q c,λn=>?_⟩;have k:=zr (p:=p) (a:=Fi a b) (b:=ji Q d) (c:=c) (λi=>by rw[rM,jg];exact h i) n;rw[Ug]at k;have e:cm (ji Q c) d n=cm (ji Q d) c n:=by rw[mF,mF];exact wC (λ_=>rfl) (λi=>by rw[jg,jg,jA]) n
 rw[jg,jg,e];exact k
theorem kY.comm (p:Int)(d a b:Li):kY p d (ji a b) (ji b a):=.of λn=>by rw[jg,jg,jA,cB];exact aV p
theorem kY.Fl (h:kY p d a b)(k:kY p d c e):kY p d (ji a c) (ji b e):=
 (h.mul c).trans (((kY.comm p d b c).trans (k.mul b)).trans (kY.comm p d e b))
theorem kY.rF (p:Int)(d a b c:Li):kY p d (ji (ji a b) c) (ji a (ji b c)):=.of λn=>by rw[jg,jg,mF,cB];exact aV p
theorem kY.Tz (p:Int)(d a:Li):kY p d a (FM.Tz p a):=.of λn=>by
 rw[j9];have:=ni p (a.getD n 0);have e:a.getD n 0-pl p (a.getD n 0) = -(pl p (a.getD n 0)-a.getD n 0):=by lia
 rw[e];exact bu.mpr this
theorem kY.one (p:Int)(d a:Li):kY p d (ji a [1]) a:=.of λn=>by
 rw[jg,jA,nR];by_cases c:n=0
 ·rw[af c,cj,bH,cB];exact aV p
 ·rw[ae c,lL,cj,bH,cB];exact aV p
structure NQ (p:Int)(d r:List Int):Prop where
 form:j6 r
 red:∀n,pl p (r.getD n 0)=r.getD n 0
 len:r.length<d.length
theorem rH (nz:∀x,p ∣ x*jk d->p ∣ x)(hr:NQ p d r)(hs:NQ p d s)(h:kY p d r s):r=s:=by
 obtain⟨Q,h⟩:=h;have hd:0<d.length:=aQ (be _) hr.len;have l1:=hr.len;have l2:=hs.len;have top:=aaK (z:=p) (E:=Q) (S:=0) hd nz λn hn=>by
  have:=h n;rw[jj (xs:=r) (by lia),jj (xs:=s) (by lia)]at this;have e:(0:Int)-0-cm Q d n = -cm Q d n:=by lia
  rw[e]at this;exact bu.mp this
 refine nH hr.form hs.form λn=>sI (hr.red n) (hs.red n) ?_;have k:=h n;have c:p ∣ cm Q d n:=m8 λi _=>bh (top i (be _));have e:r.getD n 0-s.getD n 0=(r.getD n 0-s.getD n 0-cm Q d n)+cm Q d n:=by lia
 rw[e];exact bE k c
open Classical in
def rm (p:Int)(d a:List Int):List Int:=if h:∃r,NQ p d r/\kY p d a r then Classical.choose h else[]
theorem TF (nz:∀x,p ∣ x*jk d->p ∣ x)(hr:NQ p d r)(h:kY p d a r):rm p d a=r:=by
 have ex:∃r,NQ p d r/\kY p d a r:=⟨r,hr,h⟩;have e:rm p d a=Classical.choose ex:=by unfold rm;rw[iW ex]
 obtain⟨h1,h2⟩:=fw ex;rw[e];exact rH nz h1 hr (h2.symm.trans h)
def pw (a:List Int):Nat->List Int
 |0=>[1]
 |k+1=>ji (pw a k) a
theorem pw_mod (h:kY p d a b):∀k,kY p d (pw a k) (pw b k)
 |0=>.refl p d [1]
 |k+1=>(pw_mod h k).Fl h
theorem pw_sq (p:Int)(d a:Li):∀k,kY p d (pw (ji a a) k) (pw a (2*k))
 |0=>.refl p d [1]
 |k+1=>by
  have e:2*(k+1)=2*k+1+1:=by lia
  rw[e];exact((pw_sq p d a k).mul _).trans (kY.rF p d _ a a).symm
theorem pw_even {p:Int}{d P S S':Li}{h:Nat}(hS:kY p d S' (ji S S)):kY p d (ji P (pw S' h)) (ji P (pw S (2*h))):=
 (kY.refl p d P).Fl ((pw_mod hS h).trans (pw_sq p d S h))
def ZQ:Int->List Int->Prop:=λz ns=>match ns with
 |[a,b]=>2<=z/\z.natAbs<2^9000/\a.natAbs<2^9000
 |_=>False
def Gp (C:Addr):Int->List Int->Int ⊕ Addr:=λz ns=>match ns with
 |[a,b]=>if Int.gcd b z=1 then .inl (pl z (a*tu b z)) else .inr C
 |_=>.inr C
theorem Ws (g:Int.gcd y z=1):Gp C z [x,y]=.inl (pl z (x*tu y z)):=af g
theorem abe (g:¬Int.gcd y z=1):Gp C z [x,y]=.inr C:=ae g
theorem Bb (T:Top K mg cNO cK cR):KME P w K mg base 2 (KR cR) "over" 2 ZQ (Gp cNO):=by
 refine⟨λH a z ka=>?_⟩;obtain⟨q0,dx,fs,e,hz,hm⟩:=id ka;obtain⟨f,fd,Fu,b,m1⟩:=T.I9;refine⟨cR,dx,fs,["self","a","b"],e,hm "over" (by decide +kernel),f,fd,?_,b,m1,T.qp⟩;obtain⟨oc,od,kV,doc,pm,an,cdv,ct,osl,rfl,lk,hcd⟩:=Fu.ex;refine fn_of lk hcd Gn (λvs H Q E h=>?_) λA outer s H vs Q E hr h=>?_
 ·obtain⟨ns,hl,rfl,_⟩:=h;show(ns.map V.int).length+1=3;rw[aa,hl]
 obtain⟨ns,hl,rfl,ka2,hp,k,ke⟩:=h;obtain⟨x,y,rfl⟩:=Z0 hl;obtain⟨hz2,h9,hx⟩:=hp;obtain⟨_,dx2,fs2,e2,hz',_⟩:=id ka2;obtain⟨C3,dx3,fs3,ps3,e3,l3,M3⟩:=(pM (P:=P) (w:=w) (base:=base) T).ex H a z ka2;obtain⟨f3,fd3,F3,b3,mm3,c3⟩:=M3.ex;refine⟨_,(pss_one (ps_ret (pe_meth (pv 0) c3 mm3 F3 hr b3 .nil pass0 (pa_cons (pe_op Fv (mK 1) (RV (N6 T) aae hr (pa_cons (mK 2) (pa_cons (pe_fld (pv 0) rfl) pa_nil)))) pa_nil)))),?_⟩;refine⟨_,rfl,a,dx3,fs3,rfl,e3,l3,rfl,rfl,_,rfl,a,cR,dx2,fs2,_,rfl,e2,T.qp,T.pF,hz',[.int y,.int z],λ_=>false,(λ_ z=>by cases z),⟨_,_,rfl,rfl,_,_,rfl,rfl,rfl⟩,⟨y,z,rfl,hz2,h9⟩,λp hp v H1 s1 a1=>?_,λer her H1 s1=>?_⟩
 ·by_cases g:Int.gcd y z=1
  ·rw[show JF cNO [.int y,.int z]=.val (.int (tu y z)) from af g]at hp;cases hp;subst a1;obtain⟨t0,t1,_⟩:=Ky hz2 (NT hz2 g);have tb:(tu y z).natAbs<2^9000:=by
    generalize 2^9000=B at *
    lia
   refine⟨x,tu y z,rfl,rfl,pP (n:=9000) (m:=9000) hx tb,[x*tu y z],rfl,rfl,ka2.same s1,tJ,?_⟩;exact k _ (Ws g) H1 s1
  ·rw[show JF cNO [.int y,.int z]=.err cNO from ae g]at hp;cases hp
 ·by_cases g:Int.gcd y z=1
  ·rw[show JF cNO [.int y,.int z]=.val (.int (tu y z)) from af g]at her;cases her
  ·rw[show JF cNO [.int y,.int z]=.err cNO from ae g]at her;cases her;exact ke cNO (abe g) H1 s1
def QG (z a b:Int):Option Int:=some (pl z (a*tu b z))
theorem hov (z2:2<=z)(g:Int.gcd b z=1)(a c:Int)(ha:pl z a=a)(h:QG z a b=some c):pl z (c*b)=a/\pl z c=c:=by
 have e:=aB h;subst e;obtain⟨_,_,t⟩:=Ky z2 (NT z2 g);refine⟨?_,uF _ _⟩;rw[z9];have e1:pl z (a*tu b z*b)=pl z (a*pl z (tu b z*b)):=by rw[zq,bM]
 rw[e1,kh (n:=tu b z*b) (by lia),t,bO,ha]
def Ym (z:Int)(fo d:List Int):Option (List Int×List Int):=Pb z (QG z) d (fo.length+1) (List.replicate (fo.length+1-d.length) 0) fo
def uV (z:Int)(fo d:List Int):PV:=match Ym z fo d with
 |none=>.non
 |some p=>.tup [.ints p.1,.ints p.2]
structure Gu (p:Int)(g:List Int):Prop where
 pr:jG p
 len:g.length<=200
 ne:Tz p g≠[]
 gcd:Int.gcd (jk (Tz p g)) p=1
theorem Gu.nz (h:Gu p g)(x:Int)(hx:p ∣ x*jk (Tz p g)):p ∣ x:=by
 obtain⟨t,_,_,ht⟩:=NT h.pr.1 h.gcd;have h1:=fV ht;have h2:p ∣ x*jk (Tz p g)*t:=bh hx;have h3:p ∣ x*(1-t*jk (Tz p g)):=aO h1;have e1:x=x*jk (Tz p g)*t+x*(1-t*jk (Tz p g)):=by rw[cw,bO,cf t,<- bM];lia
 rw[e1];exact bE h2 h3
theorem mC (h:Gu p g)(f:Li):∃q,Ym p (Tz p f) (Tz p g)=some (q,rm p (Tz p g) f)/\NQ p (Tz p g) (rm p (Tz p g) f)/\kY p (Tz p g) f (rm p (Tz p g) f):=by
 have hd:=lP h.ne;have p2:2<=p:=h.pr.1;obtain⟨h1,h2⟩:=Kw (z:=p) (ov:=QG p) (f:=Tz p f) (d:=Tz p g) hd (λa c ha hc=>hov p2 h.gcd a c ha hc) ((Tz p f).length+1) _ _ (yf.start (jX p f) (nY p f)) (dh _);cases o:Pb p (QG p) (Tz p g) ((Tz p f).length+1) (List.replicate ((Tz p f).length+1-(Tz p g).length) 0) (Tz p f) with
 |none=>obtain⟨_,_,_,_,z⟩:=h2 o;cases z
 |some x=>
  obtain⟨q,r⟩:=x;obtain⟨I,hl⟩:=h1 q r o;have ir:NQ p (Tz p g) r:=⟨I.rf,I.rr,hl⟩;have er:kY p (Tz p g) f r:=(kY.Tz p (Tz p g) f).trans ⟨q,λn=>by
   have k:=I.eq n;have e:(Tz p f).getD n 0-r.getD n 0-cm q (Tz p g) n = -(cm q (Tz p g) n+r.getD n 0-(Tz p f).getD n 0):=by lia
   rw[e];exact bu.mpr k⟩
  have em:=TF h.nz ir er;rw[em];exact⟨q,o,ir,er⟩
theorem Uo (h:Gu p g)(e:kY p (Tz p g) a b):rm p (Tz p g) a=rm p (Tz p g) b:=by obtain⟨_,_,h1,h2⟩:=mC h b;exact TF h.nz h1 (e.trans h2)
theorem VR (hl:d.length<=r.length):Pb z (QG z) d (n+1) q r=Pb z (QG z) d n (q.set (r.length-d.length) (pl z (jk r*tu (jk d) z))) (ul z d r (pl z (jk r*tu (jk d) z))):=by
 conv=>lhs;unfold Pb
 rw[ae (by lia)];rfl
theorem Wy (hl:r.length<d.length):Pb z (QG z) d (n+1) q r=some (q,r):=by unfold Pb;rw[af hl]
theorem Ak (hp:jG p)(h:pl p m=m):0<=m/\m<9973:=by have:=zF (z:=p) (n:=m) (by have:=hp.1;lia);have:=hp.2.1;lia
theorem n8 (T:Top K mg cNO cK cR):Ok P w K mg base 3 "divided" ["kind","f","g"] (zc K (pQ cR) (λas=>∃p f g,as=[.ob 0 p,.ints f,.ints g]/\Gu p g/\f.length<=200) λas=>match as with
  |[.ob 0 p,.ints f,.ints g]=>uV p (Tz p f) (Tz p g)
  |_=>.non):=by
 refine xf T.Ov mU (λas ⟨a,b,c,h,_⟩=>by rw[h];rfl) (λf cdv A outer s H E hr=>⟨_,(jd (p6 (i:=3) mU.nd rfl (Or.inl rfl) (vy (jV T) hr (jc (xv 0) (jc (xl 1) jh))))
 (jd (jr (i:=4) mU.nd rfl (Or.inl rfl) (jW (vy (jV T) hr (jc (xv 0) (jc (xl 2) jh)))))
 (jd (j7 (nj (zf 4))
 (jf Du)
 jO)
 (jd (p6 (i:=5) mU.nd rfl (Or.inl rfl) (uq (lQ (jc je jh)) (kO (nZ (jK 3 T.jD) (jK 4 T.jD)) je) (λ_=>rfl)))
 (jd (mY aE (Xn (jK 3 T.jD) (jK 4 T.jD))
 (jd (jq (i:=6) mU.nd rfl (Or.inl rfl) (nZ (jK 3 T.jD) (jK 4 T.jD)))
 (jd (jq (i:=7) mU.nd rfl (Or.inl rfl) (rO (Yy (Ey 0 (Bb T) hr (jc (lZ 3 (sS je) (λ_ _=>rfl)) (jc (lZ 4 (sS je) (λ_ _=>rfl)) jh))))))
 (jd (uO 5 (xn 6) (xn 7))
 (jd (wK (k:=8) (j:=9) aE rfl (by rfl) T.lK (xl 4) (pg_tup rfl (pgs_cons (pg_name (i:=8) mU.nd rfl (Or.inl rfl)) (pgs_cons (pg_name (i:=9) mU.nd rfl (Or.inl rfl)) pgs_nil)))
 (jf (uO 3 (kO (xn 6) (xn 8)) (qH 0 (pM T) hr (jc (nZ (lZ 3 (kO (xn 6) (xn 8)) (λ_ _=>rfl)) (n6 (xn 7) (xn 9))) jh)))))
 (jf (Lr 3 (uG T) hr)))))))
 (kZ 3 (kZ 5 (jf (jo (qY (jc (xl 5) (jc (xl 3) jh)))))))))))),λas hp=>?_⟩)
 obtain⟨z,f,g,rfl,ok,hfl⟩:=hp;have hgl:=ok.len;have p2:2<=z:=ok.pr.1;have h9:z.natAbs<2^9000:=by
  have:z.natAbs<=2^14:=by have:=ok.pr.2.1;lia
  exact aQ this (bj (by decide) (by decide))
 refine⟨⟨⟨rfl,rfl,tJ⟩,z,f,rfl,by lia⟩,λfo efo=>?_⟩;have efo:fo=Tz z f:=efo;refine⟨⟨⟨rfl,rfl,tJ⟩,z,g,rfl,by lia⟩,λd ed=>?_⟩;have ed:d=Tz z g:=ed;have lf:fo.length<=200:=by rw[efo];exact aH (mW _ _) hfl
 have lg:d.length<=200:=by rw[ed];exact aH (mW _ _) hgl
 have ff:j6 fo:=by rw[efo];exact jX z f
 have fr:∀n,pl z (fo.getD n 0)=fo.getD n 0:=by rw[efo];exact nY z f
 have dr:∀n,pl z (d.getD n 0)=d.getD n 0:=by rw[ed];exact nY z g
 have dne:¬d=[]:=by rw[ed];exact ok.ne
 have gc:Int.gcd (jk d) z=1:=by rw[ed];exact ok.gcd
 have hd:=lP dne;have goal:∀q r,Ym z fo d=some (q,r)->PV.tup [.ints q,.ints r]=uV z (Tz z f) (Tz z g):=λq r h=>by rw[<- efo,<- ed];unfold uV;rw[h]
 have pr:=ok.pr;refine jz (Z':=[.fr (.ob 0 z),.fr (.ints f),.fr (.ints g),.ow (.ints fo),.fr (.ints d),.un,.un,.un,.un,.un]) rfl ?_;refine⟨.inl rfl,λq=>?_,λ_=>?_⟩
 ·exact q dne
 refine⟨⟨⟨⟨tJ,tJ⟩,tJ⟩,⟨⟨.inr (.inl rfl),.inl rfl⟩,tJ⟩,?_,?_⟩,λq0 eq0=>?_⟩
 ·show -(2:Int)^63<=(fo.length:Int)-(d.length:Int)+1;lia
 ·show((fo.length:Int)-(d.length:Int)+1).toNat<=1000;lia
 have eq0:q0=List.replicate ((fo.length:Int)-(d.length:Int)+1).toNat 0:=eq0;have en:((fo.length:Int)-(d.length:Int)+1).toNat=fo.length+1-d.length:=by lia
 rw[en]at eq0;refine⟨λZ=>∃q r v6 v7 v8 v9 fuel,Z=[.fr (.ob 0 z),.fr (.ints f),.fr (.ints g),.ow (.ints r),.fr (.ints d),.ow (.ints q),v6,v7,v8,v9]/\yf z fo d q r/\r.length<fuel/\Pb z (QG z) d fuel q r=Ym z fo d,λZ=>(getL Z 3).length,⟨q0,fo,.un,.un,.un,.un,fo.length+1,rfl,by rw[eq0];exact yf.start ff fr,dh _,by rw[eq0];rfl⟩,?_⟩;rintro Z ⟨q,r,v6,v7,v8,v9,fuel,rfl,I,hfu,hdv⟩;refine⟨⟨.inr (.inl rfl),.inl rfl⟩,λk=>?_,λk=>?_⟩
 ·have k:(d.length:Int)<=(r.length:Int):=k;have hl:d.length<=r.length:=by lia
  have rl:=I.rl;obtain⟨fuel,rfl⟩:∃n,fuel=n+1:=⟨fuel-1,by lia⟩;rw[VR hl]at hdv;refine⟨⟨.inr (.inl rfl),.inl rfl⟩,λgap egap=>?_⟩;have egap:gap=(r.length:Int)-(d.length:Int):=egap;have egap:gap=((r.length-d.length:Nat):Int):=by lia
  subst egap;have lr:r.getD (lB r.length (-1)) 0=jk r:=sJ r (by lia);have ld:d.getD (lB d.length (-1)) 0=jk d:=sJ d hd;have fo_r:=Ws (C:=cNO) (z:=z) (x:=jk r) gc;have rs:=Ak pr (I.rr (r.length-1));have r9:(jk r).natAbs<2^9000:=by
   have:(jk r).natAbs<=2^14:=by unfold jk;lia
   exact aQ this (bj (by decide) (by decide))
  have eF:Gp cNO z [r.getD (lB r.length (-1)) 0,d.getD (lB d.length (-1)) 0]=.inl (pl z (jk r*tu (jk d) z)):=by rw[lr,ld];exact fo_r
  obtain⟨c,hc⟩:∃c,c=pl z (jk r*tu (jk d) z):=⟨_,rfl⟩;rw[<- hc]at eF hdv;refine⟨⟨⟨⟨rfl,⟨⟨.inr (.inl rfl),tJ,by show -(r.length:Int) <= -1;lia,by show(-1:Int)<(r.length:Int);lia⟩,⟨.inl rfl,tJ,by show -(d.length:Int) <= -1;lia,by show(-1:Int)<(d.length:Int);lia⟩,tJ⟩,tJ,?_⟩,?_⟩,?_⟩,λc' ec'=>?_⟩
  ·show ZQ z [r.getD (lB r.length (-1)) 0,d.getD (lB d.length (-1)) 0];rw[lr];exact⟨p2,h9,r9⟩
  ·show(xT (Gp cNO z [r.getD (lB r.length (-1)) 0,d.getD (lB d.length (-1)) 0])).isV;rw[eF];exact tJ
  ·show(xT (Gp cNO z [r.getD (lB r.length (-1)) 0,d.getD (lB d.length (-1)) 0])).get=.int (CJ (xT (Gp cNO z [r.getD (lB r.length (-1)) 0,d.getD (lB d.length (-1)) 0])).get);rw[eF];rfl
  have ec':c'=CJ (xT (Gp cNO z [r.getD (lB r.length (-1)) 0,d.getD (lB d.length (-1)) 0])).get:=ec';rw[eF]at ec';have ec':c'=c:=ec';subst ec';obtain⟨h1,h2⟩:=hov p2 gc _ _ (I.rr (r.length-1)) (show QG z (jk r) (jk d)=some c' by rw[hc];rfl);obtain⟨J,hlt⟩:=I.step hd hl h1 h2;have cs:=Ak pr h2;have ql:=I.ql;refine jz (Z':=[.fr (.ob 0 z),.fr (.ints f),.fr (.ints g),.ow (.ints r),.fr (.ints d),.ow (.ints q),.fr (.int ((r.length-d.length:Nat):Int)),.fr (.int c'),v8,v9]) rfl ?_;have ix5:lB q.length ((r.length-d.length:Nat):Int)=r.length-d.length:=by unfold lB;rw[af (by lia)];lia
  refine⟨rfl,rfl,rfl,⟨by show -(q.length:Int)<=((r.length-d.length:Nat):Int);lia,by show((r.length-d.length:Nat):Int)<(q.length:Int);lia⟩,?_⟩;refine jz (Z':=[.fr (.ob 0 z),.fr (.ints f),.fr (.ints g),.ow (.ints r),.fr (.ints d),.ow (.ints (q.set (r.length-d.length) c')),.fr (.int ((r.length-d.length:Nat):Int)),.fr (.int c'),v8,v9]) (by rw[<- ix5];rfl) ?_;refine⟨rfl,λi Z=>∃row v8 v9,Z=[.fr (.ob 0 z),.fr (.ints f),.fr (.ints g),.ow (.ints row),.fr (.ints d),.ow (.ints (q.set (r.length-d.length) c')),.fr (.int ((r.length-d.length:Nat):Int)),.fr (.int c'),v8,v9]/\xR z d r c' i row,⟨r,v8,v9,rfl,JH z d r c'⟩,?_,?_⟩
  ·rintro i n Z hn ⟨row,v8,v9,rfl,ht⟩;have hn:d[i]?=some n:=hn;have hi:=(aj.mp hn).1;have en:d.getD i 0=n:=getD_at' hn;have l1:-(row.length:Int)<=((r.length-d.length:Nat):Int)+(i:Int):=by lia
   have l2:((r.length-d.length:Nat):Int)+(i:Int)<(row.length:Int):=by rw[ht.1];lia
   have ix:lB row.length (((r.length-d.length:Nat):Int)+(i:Int))=r.length-d.length+i:=by unfold lB;rw[af (by lia)];lia
   have ns:=Ak pr (dr i);rw[en]at ns;refine⟨⟨rfl,⟨⟨⟨.inr (.inl rfl),⟨rfl,rfl⟩,l1,l2⟩,rfl,rfl,uN ⟨by show -(2:Int)^64<n;lia,by show n<(2:Int)^64;lia⟩⟩,tJ⟩,tJ,tJ⟩,rfl,⟨rfl,rfl⟩,⟨l1,l2⟩,row.set (r.length-d.length+i) (pl z (row.getD (r.length-d.length+i) 0-c' * n)),.fr (.int i),.fr (.int n),?_,?_⟩
   ·rw[<- ix];rfl
   ·have:=Oa ht hl hi;rw[en]at this;exact this
  ·rintro Z ⟨row,v8,v9,rfl,ht⟩;have ht:xR z d r c' d.length row:=ht;have et:=QM ht hl;refine⟨rfl,tJ,⟨q.set (r.length-d.length) c',ul z d r c',.fr (.int ((r.length-d.length:Nat):Int)),.fr (.int c'),v8,v9,fuel,?_,J,by lia,hdv⟩,?_⟩
   ·rw[<- et];rfl
   ·show(jY row).length<r.length;rw[et];exact hlt
 ·have k:¬(d.length:Int)<=(r.length:Int):=k;obtain⟨fuel,rfl⟩:∃n,fuel=n+1:=⟨fuel-1,by lia⟩;rw[Wy (by lia)]at hdv;exact⟨⟨rfl,rfl,tJ⟩,goal q r hdv.symm⟩
def Bd (r:List Int):Prop:=∀m∈r,m.natAbs<2^9000
theorem Bp {m:Int}(h:0<=m/\m<9973):m.natAbs<2^9000:=by
 have:m.natAbs<=2^14:=by lia
 exact aQ this (bj (by decide) (by decide))
theorem NQ.bd {p:Int}{d r:Li}(hp:jG p)(h:NQ p d r):Bd r:=λm hm=>by obtain⟨n,_,e⟩:=FM.mem_getD hm;have:=Ak hp (h.red n);rw[e]at this;exact Bp this
theorem Dw (h:Gu p g)(f:Li):∃q,uV p (Tz p f) (Tz p g)=.tup [.ints q,.ints (rm p (Tz p g) f)]:=by obtain⟨q,e,_⟩:=mC h f;exact⟨q,by unfold uV;rw[e]⟩
theorem Zc (hp:jG p):0<=p/\p<((2^9000:Nat):Int):=by
 have h1:=hp.1;have h2:=hp.2.1;have h3:(2:Nat)^14<=2^9000:=cJ (by decide) (by decide);generalize (2:Nat)^9000=N at *
 lia
theorem t6 (T:Top K mg cNO cK cR):Ok P w K mg base 4 "times_by" ["kind","one","other","g"] (Vo K (pQ cR) (λas=>∃p a b g,as=[.ob 0 p,.ints a,.ints b,.ints g]/\Gu p g/\a.length+b.length<=200/\Bd a/\Bd b) λas=>match as with
  |[.ob 0 p,.ints a,.ints b,.ints g]=>rm p (Tz p g) (ji a b)
  |_=>[]):=by
 refine xf T.JL G9 (λas ⟨a,b,c,d,h,_⟩=>by rw[h];rfl) (λf cdv A outer s H E hr=>⟨_,(jf (jo (xl_of (jt (xc (n8 T) hr (jc (xv 0) (jc (jW (vy (T9 T) hr (jc (xv 0) (jc (xl 1) (jc (xl 2) jh))))) (jc (xl 3) jh)))) je (λ_ _=>rfl))))),λas hp=>?_⟩);obtain⟨p,a,b,g,rfl,ok,hl,ha,hb⟩:=hp;obtain⟨q0,q9⟩:=Zc ok.pr;have el:(Tz p (ji (Tz p a) (Tz p b))).length<=200:=by rw[Ja];refine aH (mW _ _) ?_;unfold ji;rw[aa,aq];exact hl
 obtain⟨q,e⟩:=Dw ok (Tz p (ji (Tz p a) (Tz p b)));refine⟨⟨⟨⟨⟨rfl,⟨⟨rfl,rfl,rfl,tJ⟩,p,a,b,rfl,q0,q9,by lia,ha,hb⟩,rfl,tJ⟩,p,_,g,rfl,ok,el⟩,tJ,?_⟩,?_⟩,?_⟩
 ·show lM (uV p (Tz p (Tz p (ji (Tz p a) (Tz p b)))) (Tz p g)) 1;rw[e];exact⟨by show(-2:Int)<=1;decide,by show(1:Int)<2;decide⟩
 ·show lq (uV p (Tz p (Tz p (ji (Tz p a) (Tz p b)))) (Tz p g)) 1=.ints (jZ (lq (uV p (Tz p (Tz p (ji (Tz p a) (Tz p b)))) (Tz p g)) 1));rw[e];rfl
 ·show PV.ints (jZ (lq (uV p (Tz p (Tz p (ji (Tz p a) (Tz p b)))) (Tz p g)) 1))=PV.ints (rm p (Tz p g) (ji a b));rw[e];show PV.ints (rm p (Tz p g) (Tz p (ji (Tz p a) (Tz p b))))=PV.ints (rm p (Tz p g) (ji a b));rw[Ja,Uo ok (kY.Tz p (Tz p g) (ji a b)).symm]
theorem pw_odd1 {p:Int}{d P S P':Li}(h:Nat)(hP:kY p d P' (ji P S)):kY p d (ji P' (pw S (2*h))) (ji P (pw S (2*h+1))):=by refine(hP.mul _).trans ((kY.rF p d _ _ _).trans ?_);refine(kY.comm p d _ _).trans (kY.trans ?_ (kY.comm p d _ _));exact(kY.comm p d S (pw S (2*h))).mul P
theorem Df (T:Top K mg cNO cK cR):Ok P w K mg base 5 "raised" ["kind","f","many","g"] (Vo K (pQ cR) (λas=>∃p f,∃m:Nat,∃g,as=[.ob 0 p,.ints f,.int (m:Int),.ints g]/\Gu p g/\f.length<=200/\(Tz p g).length<=100) λas=>match as with
  |[.ob 0 p,.ints f,.int m,.ints g]=>rm p (Tz p g) (pw f m.toNat)
  |_=>[]):=by
 refine xf T.RZ pA (λas ⟨a,b,c,d,h,_⟩=>by rw[h];rfl) (λf cdv A outer s H E hr=>⟨_,(jd (jr (i:=4) pA.nd rfl (Or.inl rfl) (xl_of (jt (xc (n8 T) hr (jc (xv 0) (jc (jW (lQ (jc je jh))) (jc (xl 3) jh)))) je (λ_ _=>rfl))))
 (jd (jr (i:=5) pA.nd rfl (Or.inl rfl) (xl_of (jt (xc (n8 T) hr (jc (xv 0) (jc (xl 1) (jc (xl 3) jh)))) je (λ_ _=>rfl))))
 (jd (jq (i:=6) pA.nd rfl (Or.inl rfl) (xn 2))
 (jd (mY aE (rQ (xn 6) je)
 (tW (j7 (sY (lD (xn 6) je) je)
 (jf (jr (i:=4) pA.nd rfl (Or.inl rfl) (Zy (t6 T) hr (jc (xv 0) (jc (xl 4) (jc (xl 5) (jc (xl 3) jh)))))))
 jO)
 (jd (jr (i:=5) pA.nd rfl (Or.inl rfl) (Zy (t6 T) hr (jc (xv 0) (jc (xl 5) (jc (xl 5) (jc (xl 3) jh))))))
 (jf (zm (i:=6) pA.nd rfl (Or.inl rfl) je iop_fdiv)))))
 (jf (jo (xl 4))))))),λas hp=>?_⟩)
 obtain⟨p,f,m,g,rfl,ok,hl,hd⟩:=hp;have one200:([1]:List Int).length<=200:=by decide
 have item:∀(x:List Int) (q:List Int),uV p (Tz p x) (Tz p g)=.tup [.ints q,.ints (rm p (Tz p g) x)]->lM (uV p (Tz p x) (Tz p g)) 1/\lq (uV p (Tz p x) (Tz p g)) 1=.ints (jZ (lq (uV p (Tz p x) (Tz p g)) 1))/\jZ (lq (uV p (Tz p x) (Tz p g)) 1)=rm p (Tz p g) x:=λx q e=>by rw[e];exact⟨⟨by show(-2:Int)<=1;decide,by show(1:Int)<2;decide⟩,rfl,rfl⟩
 obtain⟨q1,e1⟩:=Dw ok [1];obtain⟨q2,e2⟩:=Dw ok f;obtain⟨a1,a2,a3⟩:=item _ _ e1;obtain⟨b1,b2,b3⟩:=item _ _ e2;refine⟨⟨⟨⟨⟨rfl,⟨⟨tJ,tJ⟩,tJ⟩,rfl,tJ⟩,p,[1],g,rfl,ok,one200⟩,tJ,a1⟩,a2⟩,λP0 eP0=>?_⟩;have eP0:P0=jZ (lq (uV p (Tz p [1]) (Tz p g)) 1):=eP0;rw[a3]at eP0;refine⟨⟨⟨⟨⟨rfl,rfl,rfl,tJ⟩,p,f,g,rfl,ok,hl⟩,tJ,b1⟩,b2⟩,λS0 eS0=>?_⟩;have eS0:S0=jZ (lq (uV p (Tz p f) (Tz p g)) 1):=eS0;rw[b3]at eS0;refine⟨rfl,λl0 el0=>?_⟩;have el0:l0=(m:Int):=el0;refine jz (Z':=[.fr (.ob 0 p),.fr (.ints f),.fr (.int (m:Int)),.fr (.ints g),.fr (.ints P0),.fr (.ints S0),.fr (.int l0)]) rfl ?_;obtain⟨_,_,iP,hP⟩:=mC ok [1];obtain⟨_,_,iS,hS⟩:=mC ok f;rw[<- eP0]at iP hP;rw[<- eS0]at iS hS;refine⟨λZ=>∃(P S:List Int) (L:Nat),Z=[.fr (.ob 0 p),.fr (.ints f),.fr (.int (m:Int)),.fr (.ints g),.fr (.ints P),.fr (.ints S),.fr (.int (L:Int))]/\NQ p (Tz p g) P/\NQ p (Tz p g) S/\kY p (Tz p g) (ji P (pw S L)) (pw f m),λZ=>(xN Z 6).toNat,⟨P0,S0,m,by rw[el0],iP,iS,?_⟩,?_⟩
 ·refine(hP.symm.Fl (pw_mod hS.symm m)).trans ((kY.comm p _ _ _).trans (kY.one p _ _))
 rintro Z ⟨P1,S,L,rfl,iP,iS,hE⟩;have lS:=iS.len;have lP:=iP.len;have bS:=iS.bd ok.pr;have bP:=iP.bd ok.pr;refine⟨⟨rfl,tJ⟩,λk=>?_,λk=>?_⟩
 ·have k:(L:Int) > 0:=k;refine⟨λZ=>∃P',Z=[.fr (.ob 0 p),.fr (.ints f),.fr (.int (m:Int)),.fr (.ints g),.fr (.ints P'),.fr (.ints S),.fr (.int (L:Int))]/\NQ p (Tz p g) P'/\kY p (Tz p g) (ji P' (pw S (2*(L / 2)))) (pw f m),⟨⟨⟨rfl,tJ,by show(0:Int)<2;decide⟩,tJ⟩,λo=>?_,λo=>?_⟩,?_⟩
  ·have o:(L:Int) % 2=1:=o;refine⟨⟨⟨rfl,rfl,rfl,rfl,tJ⟩,p,P1,S,g,rfl,ok,by lia,bP,bS⟩,λP' eP'=>⟨P',rfl,?_,?_⟩⟩
   ·rw[eP'];exact(mC ok (ji P1 S)).choose_spec.2.1
   ·have eP':P'=rm p (Tz p g) (ji P1 S):=eP';have h1:kY p (Tz p g) P' (ji P1 S):=by rw[eP'];exact(mC ok (ji P1 S)).choose_spec.2.2.symm
    have e:L=2*(L / 2)+1:=by lia
    refine(pw_odd1 (L / 2) h1).trans ?_;rw[<- e];exact hE
  ·have o:¬(L:Int) % 2=1:=o;refine⟨P1,rfl,iP,?_⟩;have e:2*(L / 2)=L:=by lia
   rw[e];exact hE
  rintro Z ⟨P',rfl,iP',hE'⟩;refine⟨⟨⟨rfl,rfl,rfl,rfl,tJ⟩,p,S,S,g,rfl,ok,by lia,bS,bS⟩,λS' eS'=>?_⟩;have eS':S'=rm p (Tz p g) (ji S S):=eS';have iS':NQ p (Tz p g) S':=by rw[eS'];exact(mC ok (ji S S)).choose_spec.2.1
  have hS':kY p (Tz p g) S' (ji S S):=by rw[eS'];exact(mC ok (ji S S)).choose_spec.2.2.symm
  refine⟨rfl,tJ,⟨by decide,by decide⟩,λl el=>⟨⟨P',S',L / 2,?_,iP',iS',(pw_even hS').trans hE'⟩,?_⟩⟩
  ·have el:l=(L:Int) / 2:=el;have e:(L:Int) / 2=((L / 2:Nat):Int):=by lia
   rw[e]at el;rw[el];rfl
  ·have el:l=(L:Int) / 2:=el;show l.toNat<((L:Nat):Int).toNat;lia
 ·have k:¬(L:Int) > 0:=k;have e:L=0:=by lia
  subst e;refine⟨rfl,?_⟩;show PV.ints P1=PV.ints (rm p (Tz p g) (pw f ((m:Nat):Int).toNat));rw[aC,TF ok.nz iP (hE.symm.trans (kY.one p _ _))]
theorem UJ (h:jG p){d:Nat}(hd:(d:Int) ∣ p):d=1\/(d:Int)=p:=by
 obtain⟨h2,_,hn⟩:=h;obtain⟨c,hc⟩:=hd;by_cases d1:d=1
 ·exact .inl d1
 have d0:d≠0:=λz=>by rw[z]at hc;simp at hc;lia
 have c0:0<c:=by
  rcases Int.lt_or_le 0 c with h|h
  ·exact h
  ·have:=b7 (show(0:Int)<=d by lia) h;lia
 by_cases c1:c=1
 ·right;rw[hc,c1,bO]
 exfalso;by_cases le:(d:Int)<=c
 ·have sq:(d:Int)*d<=p:=by rw[hc];exact bC le (by lia)
  exact hn d (by lia) sq (by rw[hc];exact Int.mul_emod_right _ _)
 ·have sq:c*c<=p:=by rw[hc];exact Int.mul_le_mul_of_nonneg_right (by lia) (by lia)
  exact hn c (by lia) sq (by rw[hc];exact Int.mul_emod_left _ _)
theorem Gb {p b:Int}(h:jG p)(hb:¬b % p=0)(m:Nat):Int.gcd b (p^m)=1:=by
 have g1:Int.gcd b p=1:=by
  rcases UJ h (d:=Int.gcd b p) (Int.gcd_dvd_right ..) with g|g
  ·exact g
  ·exfalso;have:=Int.gcd_dvd_left b p;rw[g]at this;exact hb (bY this)
 unfold Int.gcd at g1 ⊢;rw[Int.natAbs_pow];exact Nat.Coprime.pow_right m g1
theorem tQ (f:Li)(n:Nat):cm f [1] n=f.getD n 0:=by
 rw[jA,nR];by_cases c:n=0
 ·rw[af c,cj,bH]
 ·rw[ae c,lL,cj,bH]
def Sm (a b:List Int):Prop:=∀n,a.getD n 0=b.getD n 0
theorem Sm.ZF (h:Sm a b):kY p d a b:=.of λn=>by rw[h n,cB];exact aV p
def zb (c:Int)(a:List Int):List Int:=a.map λx=>c*x
theorem jQ (c:Int)(a:Li)(n:Nat):(zb c a).getD n 0=c*a.getD n 0:=mV _ (aU c) a n
theorem kY.add (h:kY p d a b)(k:kY p d c e):kY p d (jU a c) (jU b e):=by
 obtain⟨Q,h⟩:=h;obtain⟨S,k⟩:=k;refine⟨jU Q S,λn=>?_⟩;rw[qQ,ju,ju];have e:a.getD n 0+c.getD n 0-(b.getD n 0+e.getD n 0)-(cm Q d n+cm S d n)=(a.getD n 0-b.getD n 0-cm Q d n)+(c.getD n 0-e.getD n 0-cm S d n):=by lia
 rw[e];exact bE (h n) (k n)
theorem kY.abx (c:Int)(h:kY p d a b):kY p d (zb c a) (zb c b):=by
 obtain⟨Q,h⟩:=h;refine⟨zb c Q,λn=>?_⟩;have e1:cm (zb c Q) d n=c*cm Q d n:=by unfold cm;rw[<- nU];exact jn λi _=>by rw[jQ,bM]
 rw[e1,jQ,jQ,<- cw,<- cw];exact aO (h n)
def Dv (p:Int)(d a:List Int):Prop:=kY p d a []
def Lc (p:Int)(f g r:List Int):Prop:=∃s t:List Int,∀n,p ∣ r.getD n 0-(cm s f n+cm t g n)
theorem Ru (f:Li)(n:Nat):cm [1] f n=f.getD n 0:=by rw[jA,tQ]
theorem U0 (c:Int)(f:Li)(n:Nat):cm [c] f n=c*f.getD n 0:=by
 rw[nR];by_cases h:n=0
 ·rw[af h,bH]
 ·rw[ae h,lL,bH]
theorem Lc.left (p:Int)(f g:Li):Lc p f g f:=⟨[1],[],λn=>by rw[Ru,lL,bH,cB];exact aV p⟩
theorem Lc.right (p:Int)(f g:Li):Lc p f g g:=⟨[],[1],λn=>by rw[Ru,lL,c6,cB];exact aV p⟩
theorem Lc.add (h:Lc p f g r)(k:Lc p f g s):Lc p f g (jU r s):=by
 obtain⟨a,b,h⟩:=h;obtain⟨c,d,k⟩:=k;refine⟨jU a c,jU b d,λn=>?_⟩;rw[qQ,qQ,ju];have e:r.getD n 0+s.getD n 0-(cm a f n+cm c f n+(cm b g n+cm d g n))=(r.getD n 0-(cm a f n+cm b g n))+(s.getD n 0-(cm c f n+cm d g n)):=by lia
 rw[e];exact bE (h n) (k n)
theorem Lc.congr (h:Lc p f g r)(k:∀n,p ∣ s.getD n 0-r.getD n 0):Lc p f g s:=by
 obtain⟨a,b,h⟩:=h;refine⟨a,b,λn=>?_⟩;have e:s.getD n 0-(cm a f n+cm b g n)=(s.getD n 0-r.getD n 0)+(r.getD n 0-(cm a f n+cm b g n)):=by lia
 rw[e];exact bE (k n) (h n)
theorem Lc.mul (q:Li)(h:Lc p f g r):Lc p f g (ji q r):=by obtain⟨a,b,h⟩:=h;refine⟨ji q a,ji q b,λn=>?_⟩;have k:=zr (p:=p) (a:=r) (b:=jU (ji a f) (ji b g)) (c:=q) (λi=>by rw[ju,jg,jg];exact h i) n;rw[qQ,jA r q,jA (ji a f) q,jA (ji b g) q]at k;rw[jg,mF,mF];exact k
theorem Lc.trans (hb:Lc p f g b)(hr:Lc p f g r)(hx:Lc p b r x):Lc p f g x:=by obtain⟨s,t,hx⟩:=hx;refine((hb.mul s).add (hr.mul t)).congr λn=>?_;rw[ju,jg,jg];exact hx n
theorem Dv.KY (hf:Dv p d f)(hg:Dv p d g)(h:Lc p f g r):Dv p d r:=by
 obtain⟨s,t,h⟩:=h;have z:∀s:List Int,kY p d (ji [] s) []:=λs=>Sm.ZF λn=>by rw[jg,lL];rfl
 have k:∀{f:List Int},Dv p d f->∀s,kY p d (ji s f) []:=λ{f} hf s=>(kY.comm p d s f).trans ((kY.mul hf s).trans (z s));have e:kY p d r (jU (ji s f) (ji t g)):=.of λn=>by rw[ju,jg,jg];exact h n
 exact e.trans (((k hf s).add (k hg t)).trans (.refl p d _))
theorem Lc.dv (h:Lc p b [] f):Dv p b f:=by obtain⟨s,t,h⟩:=h;refine⟨s,λn=>?_⟩;have k:=h n;rw[jA t [],lL,bH]at k;show p ∣ f.getD n 0-0-cm s b n;rw[aS];exact k
theorem Dv.self (p:Int)(d:Li):Dv p d d:=(Lc.left p d []).dv
theorem oU:j6 []:=λh=>absurd rfl h
theorem Ek (h:jk r=1):r≠[]:=λe=>by rw[e]at h;exact absurd h (by decide)
theorem Um (fr:j6 r)(rr:∀n,pl p (r.getD n 0)=r.getD n 0)(r1:r=[]\/jk r=1)(fs:j6 s)(rs:∀n,pl p (s.getD n 0)=s.getD n 0)(s1:s=[]\/jk s=1)(h:Dv p r s)(k:Dv p s r):r=s:=by
 have nilE:∀{s:List Int},j6 s->(∀n,pl p (s.getD n 0)=s.getD n 0)->Dv p [] s->s=[]:=λ{s} fs rs h=>by obtain⟨Q,h⟩:=h;refine nH fs oU λn=>sI (rs n) (by show pl p 0=0;exact lH p) ?_;have:=h n;rw[jA,lL,aS]at this;exact this
 rcases r1 with r1|r1
 ·subst r1;exact(nilE fs rs h).symm
 rcases s1 with s1|s1
 ·subst s1;exact nilE fr rr k
 have shorter:∀{r s:List Int},j6 r->(∀n,pl p (r.getD n 0)=r.getD n 0)->jk r=1->jk s=1->Dv p s r->s.length<=r.length:=λ{r s} fr rr r1 s1 k=>by
  by_cases c:s.length<=r.length
  ·exact c
  ·have nz:∀x,p ∣ x*jk s->p ∣ x:=λx h=>by rw[s1,bO]at h;exact h
   exact absurd (rH nz ⟨fr,rr,by lia⟩ ⟨oU,λn=>by show pl p 0=0;exact lH p,by show 0<s.length;lia⟩ k) (Ek r1)
 have l1:=shorter fr rr r1 s1 k;have l2:=shorter fs rs s1 r1 h;have l0:=lP (Ek r1);have nz:∀x,p ∣ x*jk s->p ∣ x:=λx h=>by rw[s1,bO]at h;exact h
 have e0:r.getD (r.length-1) 0=1:=r1;have e1:s.getD (s.length-1) 0=1:=s1;have le:r.length=s.length:=by lia
 have tl:(Tz p (Fi r s)).length<=r.length-1:=mR (jX p _) λn hn=>by
  rw[j9,rM];by_cases c:n=r.length-1
  ·rw[c,e0,le,e1];exact lH p
  ·rw[jj (xs:=r) (by lia),jj (xs:=s) (by lia)];exact lH p
 have d:kY p s (Fi r s) []:=by
  have a:Sm (Fi r s) (jU r (zb (-1) s)):=λn=>by rw[rM,ju,jQ];lia
  exact a.ZF.trans ((kY.add k ((Dv.self p s).abx (-1))).trans (.refl p s _))
 have z:=rH nz ⟨jX p (Fi r s),nY p _,by lia⟩ ⟨oU,λn=>by show pl p 0=0;exact lH p,by show 0<s.length;lia⟩ ((kY.Tz p s _).symm.trans d);refine nH fr fs λn=>sI (rr n) (rs n) ?_;have e2:(Tz p (Fi r s)).getD n 0=0:=by rw[z];rfl
 rw[j9,rM]at e2;have:=ni p (r.getD n 0-s.getD n 0);rw[e2,Int.zero_sub]at this;exact bu.mp this
structure GC (p:Int)(f g r:List Int):Prop where
 form:j6 r
 red:∀n,pl p (r.getD n 0)=r.getD n 0
 one:r=[]\/jk r=1
 lc:Lc p f g r
 d1:Dv p r f
 d2:Dv p r g
theorem GC.abk (h:GC p f g r)(k:GC p f g s):r=s:=
 Um h.form h.red h.one k.form k.red k.one (Dv.KY h.d1 h.d2 k.lc) (Dv.KY k.d1 k.d2 h.lc)
open Classical in
def pick (A:List Int->Prop):List Int:=if h:∃r,A r then Classical.choose h else[]
def gc (p:Int)(f g:List Int):List Int:=pick (GC p f g)
theorem Hq (h:GC p f g r):gc p f g=r:=by
 have ex:∃r,GC p f g r:=⟨r,h⟩;have e:gc p f g=Classical.choose ex:=by unfold gc pick;rw[iW ex]
 rw[e];exact(fw ex).abk h
structure Jb (p:Int)(f g b r:List Int):Prop where
 i1:Lc p f g b
 i2:Lc p f g r
 i3:Lc p b r f
 i4:Lc p b r g
theorem Jb.symm (h:Jb p f g b r):Jb p b r f g:=⟨h.i3,h.i4,h.i1,h.i2⟩
theorem Jb.gc (h:Jb p f g b r)(k:GC p b r x):GC p f g x:=⟨k.form,k.red,k.one,Lc.trans h.i1 h.i2 k.lc,Dv.KY k.d1 k.d2 h.i3,Dv.KY k.d1 k.d2 h.i4⟩
theorem Nh (h:Jb p f g b r):gc p f g=gc p b r:=by have e:GC p f g=GC p b r:=funext λx=>propext ⟨h.symm.gc,h.gc⟩;show pick (GC p f g)=pick (GC p b r);rw[e]
theorem Jb.step (h:kY p r b c):Jb p b r r c:=by
 obtain⟨Q,h⟩:=h;refine⟨.right p b r,⟨[1],zb (-1) Q,λn=>?_⟩,⟨Q,[1],λn=>?_⟩,.left p r c⟩
 ·have e:cm (zb (-1) Q) r n = -cm Q r n:=by have k:=nU (-1) (λi=>Q.getD i 0*r.getD (n-i) 0) (n+1);unfold cm;rw[eW]at k;rw[<- k];exact jn λi _=>by rw[jQ,bM]
  rw[Ru,e];have e2:c.getD n 0-(b.getD n 0 + -cm Q r n) = -(b.getD n 0-c.getD n 0-cm Q r n):=by lia
  rw[e2];exact bu.mpr (h n)
 ·rw[Ru];have e2:b.getD n 0-(cm Q r n+c.getD n 0)=b.getD n 0-c.getD n 0-cm Q r n:=by lia
  rw[e2];exact h n
theorem Jb.pB (h:∀n,p ∣ f.getD n 0-b.getD n 0)(k:∀n,p ∣ g.getD n 0-r.getD n 0):Jb p f g b r:=by
 have neg:∀{x y:Int},p ∣ x-y->p ∣ y-x:=λ{x y} h=>by
  have e:y-x = -(x-y):=by lia
  rw[e];exact bu.mpr h
 exact⟨(Lc.left p f g).congr λn=>neg (h n),(Lc.right p f g).congr λn=>neg (k n),(Lc.left p b r).congr h,(Lc.right p b r).congr k⟩
def yr (p:Int)(b:List Int):Int:=if b=[] then 1 else pl p (1*tu (jk b) p)
def rD (p:Int)(b:List Int):List Int:=Tz p (b.map λm=>yr p b*m)
theorem wI (hp:jG p)(fb:j6 b)(rb:∀n,pl p (b.getD n 0)=b.getD n 0)(hb:b≠[]):Int.gcd (jk b) p=1:=by
 have h1:=fb hb;have h2:=rb (b.length-1);have p2:2<=p:=hp.1;rw[kh (by lia)]at h2;have h3:¬jk b % p=0:=by show ¬b.getD (b.length-1) 0 % p=0;rw[h2];exact h1
 have:=Gb hp h3 1;rw[iN]at this;exact this
theorem wz (fb:j6 b)(rb:∀n,pl p (b.getD n 0)=b.getD n 0):Tz p b=b:=nH (jX p b) fb λn=>by rw[j9,rb n]
theorem zH (hp:jG p)(fb:j6 b)(rb:∀n,pl p (b.getD n 0)=b.getD n 0):GC p b [] (rD p b):=by
 by_cases hb:b=[]
 ·subst hb;have e:rD p []=[]:=rfl;rw[e];exact⟨oU,rb,.inl rfl,.left p [] [],.self p [],.self p []⟩
 have p2:2<=p:=hp.1;have g:=wI hp fb rb hb;have one:pl p 1=1:=by rw[kh (by lia)];exact bx (by decide) (by lia)
 have e0:yr p b=pl p (1*tu (jk b) p):=ae hb;obtain⟨h1,_⟩:=hov p2 g 1 (yr p b) one (by rw[e0];rfl);have ng:∀n,(rD p b).getD n 0=pl p (yr p b*b.getD n 0):=λn=>by unfold rD;rw[j9,mV _ (aU _)]
 have l0:=lP hb;have k1:(rD p b).getD (b.length-1) 0=1:=(ng _).trans h1;have l1:(rD p b).length<=b.length:=by unfold rD;refine aH (mW _ _) ?_;rw[aa];exact ao _
 have l2:b.length<=(rD p b).length:=by
  by_cases c:b.length<=(rD p b).length
  ·exact c
  ·rw[jj (by lia)]at k1;exact absurd k1 (by decide)
 have le:(rD p b).length=b.length:=by lia
 generalize yr p b=t at *
 have ht:p ∣ t*jk b-1:=by
  have:=ni p (t*jk b);rw[h1]at this;have e:t*jk b-1 = -(1-t*jk b):=by lia
  rw[e];exact bu.mpr this
 refine⟨jX p _,nY p _,.inr ?_,⟨[t],[],λn=>?_⟩,⟨[jk b],λn=>?_⟩,.refl p _ _⟩
 ·show(rD p b).getD ((rD p b).length-1) 0=1;rw[le];exact k1
 ·rw[U0,lL,bH,ng];exact ni p _
 ·rw[U0,ng];show p ∣ b.getD n 0-0-jk b*pl p (t*b.getD n 0);have h2:=ni p (t*b.getD n 0);generalize pl p (t*b.getD n 0)=u at *
  generalize b.getD n 0=x at *
  generalize jk b=l at *
  have e:x-0-l*u = -((t*l-1)*x+l*(u-t*x)):=by rw[fS,cw,cj,cf t l,bM];lia
  rw[e];exact bu.mpr (bE (bh ht) (aO h2))
theorem Ie (hp:jG p)(fr:j6 r)(rr:∀n,pl p (r.getD n 0)=r.getD n 0)(hr:r≠[])(hl:r.length<=200):Gu p r:=by have e:=wz fr rr;exact⟨hp,hl,by rw[e];exact hr,by rw[e];exact wI hp fr rr hr⟩
theorem Xk (hp:jG p):∀(k:Nat) (b r:Li),r.length<=k->j6 b->(∀n,pl p (b.getD n 0)=b.getD n 0)->j6 r->(∀n,pl p (r.getD n 0)=r.getD n 0)->r.length<=200->GC p b r (gc p b r)
 |k,b,[],_,fb,rb,_,_,_=>by have h:=zH hp fb rb;rw[Hq h];exact h
 |k+1,b,y::r,hk,fb,rb,fr,rr,hl=>by have ok:=Ie hp fr rr (λz=>by cases z) hl;have e:=wz fr rr;obtain⟨_,_,ir,er⟩:=mC ok b;rw[e]at ir er;have il:=ir.len;have ih:=Xk hp k (y::r) (rm p (y::r) b) (by lia) fr rr ir.form ir.red (by lia);have h:=(Jb.step er).gc ih;rw[Hq h];exact h
theorem Jb.tz (p:Int)(f g:Li):Jb p f g (Tz p f) (Tz p g):=by
 have k:∀(f:List Int) n,p ∣ f.getD n 0-(Tz p f).getD n 0:=λf n=>by
  rw[j9];have:=ni p (f.getD n 0);have e:f.getD n 0-pl p (f.getD n 0) = -(pl p (f.getD n 0)-f.getD n 0):=by lia
  rw[e];exact bu.mpr this
 exact Jb.pB (k f) (k g)
theorem Zk (hp:jG p)(hg:g.length<=200):GC p f g (gc p f g):=by have tl:=mW p g;have h:=Xk hp _ (Tz p f) (Tz p g) (ao _) (jX p f) (nY p f) (jX p g) (nY p g) (by lia);have h:=(Jb.tz p f g).gc h;rw[Hq h];exact h
theorem Bt (T:Top K mg cNO cK cR):Ok P w K mg base 3 "turned_lead" ["kind","f"] (By K (pQ cR) (λas=>∃p b,as=[.ob 0 p,.ints b]/\jG p/\j6 b/\∀n,pl p (b.getD n 0)=b.getD n 0) λas=>match as with
  |[.ob 0 p,.ints b]=>yr p b
  |_=>0):=by
 refine xf T.Cp zN (λas ⟨a,b,h,_⟩=>by rw[h];rfl) (λf cdv A outer s H E hr=>⟨_,(jf (jo (Qp (zf 1) (rO (Yy (Ey 0 (Bb T) hr (jc je (jc (lZ 1 (sS je) (λ_ _=>rfl)) jh))))) je))),λas hp=>?_⟩);obtain⟨p,b,rfl,hp,fb,rb⟩:=hp;have p2:2<=p:=hp.1;have h9:p.natAbs<2^9000:=by
  have:p.natAbs<=2^14:=by have:=hp.2.1;lia
  exact aQ this (bj (by decide) (by decide))
 have o9:(1:Int).natAbs<2^9000:=aQ (show(1:Int).natAbs<=2^14 by decide) (bj (by decide) (by decide));have eF:¬b=[]->Gp cNO p [1,b.getD (lB b.length (-1)) 0]=.inl (yr p b):=λc=>by have l0:=lP c;have ld:b.getD (lB b.length (-1)) 0=jk b:=sJ b l0;have e:yr p b=pl p (1*tu (jk b) p):=ae c;rw[ld,e];exact Ws (wI hp fb rb c)
 refine⟨⟨.inl rfl,λc=>⟨⟨⟨rfl,⟨tJ,⟨.inl rfl,tJ,?_,?_⟩,tJ⟩,tJ,?_⟩,?_⟩,?_⟩,λ_=>tJ⟩,?_⟩
 ·have c:¬b=[]:=c;have l0:=lP c;show -(b.length:Int) <= -1;lia
 ·have l0:=lP c;lia
 ·exact⟨p2,h9,o9⟩
 ·show(xT (Gp cNO p [1,b.getD (lB b.length (-1)) 0])).isV;rw[eF c];exact tJ
 ·have c:¬b=[]:=c;show(xT (Gp cNO p [1,b.getD (lB b.length (-1)) 0])).get=.int (CJ (xT (Gp cNO p [1,b.getD (lB b.length (-1)) 0])).get);rw[eF c];rfl
 ·show(if ¬b=[] then PV.int (CJ (xT (Gp cNO p [1,b.getD (lB b.length (-1)) 0])).get) else .int 1)=.int (yr p b);by_cases c:b=[]
  ·rw[ae (λz=>z c)];subst c;rfl
  ·rw[af c,eF c];rfl
theorem aar (hp:jG p):(yr p b).natAbs<2^9000:=by
 have h:(yr p b).natAbs<=2^14:=by
  unfold yr;split
  ·decide
  ·have:=Ak hp (uF p (1*tu (jk b) p));lia
 exact aQ h (bj (by decide) (by decide))
theorem rY (T:Top K mg cNO cK cR):Ok P w K mg base 4 "with_lead_one" ["kind","f"] (Ed K (pQ cR) (λas=>∃p b,as=[.ob 0 p,.ints b]/\jG p/\b.length<=1000/\j6 b/\∀n,pl p (b.getD n 0)=b.getD n 0) λas=>match as with
  |[.ob 0 p,.ints b]=>rD p b
  |_=>[]):=by
 refine Jk T.yK xG (λas ⟨a,b,h,_⟩=>by rw[h];rfl) (λf cdv A outer s H E hr=>⟨_,(jf (lO (vy (Om T) hr (jc (xv 0) (jc (xl 1) (jc (xci (Bt T) hr (jc (xv 0) (jc (xl 1) jh))) jh)))))),λas hp=>?_⟩);obtain⟨p,b,rfl,hp,hl,fb,rb⟩:=hp;refine⟨⟨⟨rfl,rfl,⟨⟨rfl,rfl,tJ⟩,p,b,rfl,hp,fb,rb⟩,tJ⟩,p,b,yr p b,rfl,hl,aar hp,λm hm=>?_⟩,rfl⟩;obtain⟨n,_,e⟩:=FM.mem_getD hm;have:=Ak hp (rb n);rw[e]at this;exact Bp this
theorem yl (T:Top K mg cNO cK cR):Ok P w K mg base 5 "common" ["kind","f","g"] (Ed K (pQ cR) (λas=>∃p f g,as=[.ob 0 p,.ints f,.ints g]/\jG p/\f.length<=200/\g.length<=200) λas=>match as with
  |[.ob 0 p,.ints f,.ints g]=>gc p f g
  |_=>[]):=by
 refine Jk T.TX qi (λas ⟨a,b,c,h,_⟩=>by rw[h];rfl) (λf cdv A outer s H E hr=>⟨_,(jd (jr (i:=3) qi.nd rfl (Or.inl rfl) (jW (vy (jV T) hr (jc (xv 0) (jc (xl 1) jh)))))
 (jd (jr (i:=4) qi.nd rfl (Or.inl rfl) (jW (vy (jV T) hr (jc (xv 0) (jc (xl 2) jh)))))
 (jd (mY aE (zf 4)
 (jd (jr (i:=5) qi.nd rfl (Or.inl rfl) (xl_of (jt (xc (n8 T) hr (jc (xv 0) (jc (xl 3) (jc (xl 4) jh)))) je (λ_ _=>rfl))))
 (jd (jr (i:=3) qi.nd rfl (Or.inl rfl) (xl 4))
 (jf (jr (i:=4) qi.nd rfl (Or.inl rfl) (xl 5))))))
 (jf (lO (vy (rY T) hr (jc (xv 0) (jc (xl 3) jh)))))))),λas hp=>?_⟩)
 obtain⟨p,f,g,rfl,hp,hf,hg⟩:=hp;refine⟨⟨⟨rfl,rfl,tJ⟩,p,f,rfl,by lia⟩,λb0 eb0=>?_⟩;have eb0:b0=Tz p f:=eb0;refine⟨⟨⟨rfl,rfl,tJ⟩,p,g,rfl,by lia⟩,λr0 er0=>?_⟩;have er0:r0=Tz p g:=er0;have l1:=mW p f;have l2:=mW p g;have i0:gc p b0 r0=gc p f g:=by rw[eb0,er0];exact(Nh (Jb.tz p f g)).symm
 refine jz (Z':=[.fr (.ob 0 p),.fr (.ints f),.fr (.ints g),.fr (.ints b0),.fr (.ints r0),.un]) rfl ?_;refine⟨λZ=>∃b r v5,Z=[.fr (.ob 0 p),.fr (.ints f),.fr (.ints g),.fr (.ints b),.fr (.ints r),v5]/\j6 b/\(∀n,pl p (b.getD n 0)=b.getD n 0)/\b.length<=200/\j6 r/\(∀n,pl p (r.getD n 0)=r.getD n 0)/\r.length<=200/\gc p b r=gc p f g,λZ=>(getL Z 4).length,⟨b0,r0,.un,rfl,by rw[eb0];exact jX p f,by rw[eb0];exact nY p f,by rw[eb0];lia,by rw[er0];exact jX p g,by rw[er0];exact nY p g,by rw[er0];lia,i0⟩,?_⟩;rintro Z ⟨b,r,v5,rfl,fb,rb,bl,fr,rr,rl,eg⟩;refine⟨.inl rfl,λk=>?_,λk=>?_⟩
 ·have ok:=Ie hp fr rr k rl;have et:=wz fr rr;obtain⟨q,e⟩:=Dw ok b;obtain⟨_,_,ir,er⟩:=mC ok b;rw[et]at ir er e;have il:=ir.len;have e:uV p (Tz p b) (Tz p r)=.tup [.ints q,.ints (rm p r b)]:=by rw[et];exact e
  refine⟨⟨⟨⟨⟨rfl,rfl,rfl,tJ⟩,p,b,r,rfl,ok,bl⟩,tJ,?_⟩,?_⟩,λc ec=>?_⟩
  ·show lM (uV p (Tz p b) (Tz p r)) 1;rw[e];exact⟨by show(-2:Int)<=1;decide,by show(1:Int)<2;decide⟩
  ·show lq (uV p (Tz p b) (Tz p r)) 1=.ints (jZ (lq (uV p (Tz p b) (Tz p r)) 1));rw[e];rfl
  have ec:c=jZ (lq (uV p (Tz p b) (Tz p r)) 1):=ec;rw[e]at ec;have ec:c=rm p r b:=ec;rw[<- ec]at ir er il;refine⟨rfl,λb1 eb1=>⟨rfl,λr1 er1=>⟨⟨r,c,.fr (.ints c),?_,fr,rr,rl,ir.form,ir.red,by lia,?_⟩,?_⟩⟩⟩
  ·have eb1:b1=r:=eb1;have er1:r1=c:=er1;rw[eb1,er1];rfl
  ·rw[<- eg];exact(Nh (Jb.step er)).symm
  ·have er1:r1=c:=er1;show r1.length<r.length;rw[er1];exact il
 ·have k:¬¬r=[]:=k;have k:r=[]:=Classical.not_not.mp k;subst k;refine⟨⟨⟨rfl,rfl,tJ⟩,p,b,rfl,hp,by lia,fb,rb⟩,?_⟩;show rD p b=gc p f g;rw[<- eg];exact(Hq (zH hp fb rb)).symm
structure Fo (p:Int)(f:List Int):Prop where
 form:j6 f
 red:∀n,pl p (f.getD n 0)=f.getD n 0
theorem Fo.tz (p:Int)(f:Li):Fo p (Tz p f):=⟨jX p f,nY p f⟩
theorem Fo.bd (hp:jG p)(h:Fo p f):Bd f:=λm hm=>by obtain⟨n,_,e⟩:=FM.mem_getD hm;have:=Ak hp (h.red n);rw[e]at this;exact Bp this
theorem Fo.at (hp:jG p)(h:Fo p f):∀m∈f,0<=m/\m<p:=λm hm=>by obtain⟨n,_,e⟩:=FM.mem_getD hm;have p2:2<=p:=hp.1;have:=h.red n;rw[e,kh (by lia)]at this;have h1:=a9 m (show p≠0 by lia);have h2:=aX m (show 0<p by lia);lia
theorem YB (p:Int)(f:Li)(n:Nat):p ∣ (Tz p f).getD n 0-f.getD n 0:=by rw[j9];exact ni p _
theorem Qg (T:Top K mg cNO cK cR):Ok P w K mg base 3 "slope" ["kind","f"] (Ed K (pQ cR) (λas=>∃z f,as=[.ob 0 z,.ints f]/\f.length<=1000) λas=>match as with
  |[.ob 0 z,.ints f]=>jY (((f.mapIdx λk n=>(k:Int)*n).drop 1).map (pl z))
  |_=>[]):=by
 refine Jk T.Ve R7 (λas ⟨a,b,h,_⟩=>by rw[h];rfl) (λf cdv A outer s H E hr=>⟨_,(jf (lO (vy (jV T) hr (jc (xv 0) (jc (jW (qj (jW (Ti (N':=["at","number"]) (cap:=[]) (oZ rfl rfl rfl rfl tJ tJ rfl) rfl (by rfl) T.lK (xl 1) (λ_ _ _=>(pg_tup rfl (pgs_cons (pO 0) (pgs_cons (pO 1) pgs_nil)))) (λ_ _ _=>(n6 (xn 0) (xn 1))))) (m5 je) pC (λ_ _=>.inl rfl))) jh))))),λas hp=>?_⟩);obtain⟨z,f,rfl,hf⟩:=hp;refine⟨⟨⟨rfl,⟨⟨⟨rfl,hf,λk n e=>⟨rfl,rfl,?_⟩⟩,tJ,tJ⟩,tJ⟩⟩,z,_,rfl,?_⟩,?_⟩
 ·have hk:k<f.length:=(aj.mp e).1;exact yZ ⟨by show -(2:Int)^64<(k:Int);lia,by show(k:Int)<(2:Int)^64;lia⟩
 ·refine aH (zZ _ _ _) ?_;rw[bV];exact hf
 ·show jY ((qI (f.mapIdx λk n=>(k:Int)*n) (some ((1:Nat):Int)) none).map (pl z))=_;rw[uL];rfl
theorem RC (T:Top K mg cNO cK cR):Ok P w K mg base 2 "value" ["kind","f","number"] (By K (pQ cR) (λas=>∃z f n,as=[.ob 0 z,.ints f,.int n]/\0<=z/\z<((2^9000:Nat):Int)/\f.length<=80/\n.natAbs<=2^100/\∀m∈f,m.natAbs<=2^200) λas=>match as with
  |[.ob 0 z,.ints f,.int n]=>pl z (ev f n)
  |_=>0):=by
 refine xf T.V2 uy (λas ⟨a,b,c,h,_⟩=>by rw[h];rfl) (λf cdv A outer s H E hr=>⟨_,(jd (jq (i:=3) uy.nd rfl (Or.inl rfl) (qH 0 (pM T) hr (jc (xn 2) jh)))
 (jd (jq (i:=4) uy.nd rfl (Or.inl rfl) je)
 (jd (S5 (k:=5) aE rfl (by rfl) T.Jx (xl 1) uy.nd rfl (Or.inl rfl)
 (jf (jq (i:=4) uy.nd rfl (Or.inl rfl) (qH 0 (pM T) hr (jc (kO (n6 (xn 4) (xn 3)) (xn 5)) jh)))))
 (jf (jo (xn 4)))))),λas hp=>?_⟩)
 obtain⟨z,f,n,rfl,hz,hz2,hf,hn,hm⟩:=hp;refine⟨⟨rfl,⟨rfl,tJ⟩,tJ,tJ⟩,λpn ep=>?_⟩;have ep:pn=pl z n:=ep;refine⟨tJ,λt0 e0=>?_⟩;refine⟨rfl,λi Z=>∃v,Z=[.fr (.ob 0 z),.fr (.ints f),.fr (.int n),.fr (.int pn),.fr (.int (pl z (ev (f.drop (f.length-i)) n))),v],⟨.un,?_⟩,?_,?_⟩
 ·have e:pl z (ev (f.drop (f.length-0)) n)=t0:=by
   rw[f9,List.drop_length,e0];unfold pl;split
   ·rfl
   ·exact Int.zero_emod z
  rw[e];rfl
 ·rintro i m Z hi he ⟨v,rfl⟩;have hi:i<f.length:=hi;have ed:=Oo hi he;have hs:(ev (f.drop (f.length-i)) n).natAbs<2^9000:=Qn hn (by rw[bp];lia) λk hk=>hm k (io hk);have hs2:n.natAbs<2^9000:=aQ hn (bj (by decide) (by decide));refine⟨⟨rfl,⟨⟨⟨rfl,rfl,?_⟩,rfl⟩,tJ⟩,tJ,tJ⟩,λu e=>?_⟩
  ·rw[ep];exact pP (n:=9000) (m:=9000) (zJ hz hz2 hs) (zJ hz hz2 hs2)
  ·have e:u=pl z (pl z (ev (f.drop (f.length-i)) n)*pn+m):=e;rw[ep,horner]at e;have e':u=pl z (ev (f.drop (f.length-(i+1))) n):=by rw[ed,e];rfl
   subst e';exact⟨_,rfl⟩
 ·rintro Z ⟨v,rfl⟩;refine⟨rfl,?_⟩;show PV.int (pl z (ev (f.drop (f.length-f.length)) n))=PV.int (pl z (ev f n));rw[Nat.sub_self,iA]
def dl (f:List Int):List Int:=(List.range f.length).map λ(n:Nat)=>((n:Int)+1)*f.getD (n+1) 0
theorem sX (f:Li)(n:Nat):(dl f).getD n 0=((n:Int)+1)*f.getD (n+1) 0:=by
 unfold dl;by_cases h:n<f.length
 ·rw[jx (by rw[aa,aq];exact h),bv,bq]
 ·rw[jj (by rw[aa,aq];lia),jj (by lia),aU]
theorem Z7 (u v:Li)(n:Nat):((n:Int)+1)*cm u v (n+1)=cm (dl u) v n+cm u (dl v) n:=by
 have e1:cm (dl u) v n=sm (n+1+1) λi=>(i:Int)*(u.getD i 0*v.getD (n+1-i) 0):=by rw[qb];unfold cm;rw[show((0:Nat):Int)*(u.getD 0 0*v.getD (n+1-0) 0)=0 by rw[Int.natCast_zero,bT],c6];refine jn λi _=>?_;rw[sX,show n+1-(i+1)=n-i by lia,bM];rfl
 have e2:cm u (dl v) n=sm (n+1+1) λi=>((n:Int)+1-(i:Int))*(u.getD i 0*v.getD (n+1-i) 0):=by show sm (n+1) _=sm (n+1) _+((n:Int)+1-((n+1:Nat):Int))*_;rw[show(n:Int)+1-((n+1:Nat):Int)=0 by lia,bT,bH];refine jn λi hi=>?_;rw[sX,show n-i+1=n+1-i by lia,show((n-i:Nat):Int)+1=(n:Int)+1-(i:Int) by lia,gF]
 rw[e1,e2,<- sO];unfold cm;rw[<- nU];refine jn λi _=>?_;rw[<- eJ];congr 1;lia
theorem XN (u v:Li)(n:Nat):(dl (ji u v)).getD n 0=cm (dl u) v n+cm u (dl v) n:=by rw[sX,jg,Z7]
def Co (p:Int)(f g:List Int):Prop:=Lc p f g [1]
def Sq (p:Int)(f:List Int):Prop:=Co p f (dl f)
theorem abl (b a:Int)(f:Li)(n:Nat):cm [b,a] f n=b*f.getD n 0+if n=0 then 0 else a*f.getD (n-1) 0:=by
 rw[nR];congr 1;split
 ·rfl
 ·rw[U0]
def pN:Nat->Nat->Int
 |_,0=>1
 |0,_+1=>0
 |n+1,k+1=>pN n k+pN n (k+1)
theorem uE (n:Nat):pN n 0=1:=by cases n<;>rfl
theorem uP:∀{n k:Nat},n<k->pN n k=0
 |0,k+1,_=>rfl
 |n+1,k+1,h=>by show pN n k+pN n (k+1)=0;rw[uP (by lia),uP (by lia)];rfl
theorem GX:∀n,pN n n=1
 |0=>rfl
 |n+1=>by show pN n n+pN n (n+1)=1;rw[GX n,uP (by lia)];rfl
theorem yU:∀n k:Nat,((k:Int)+1)*pN (n+1) (k+1)=((n:Int)+1)*pN n k
 |0,0=>by rfl
 |0,k+1=>by have e1:pN (0+1) (k+1+1)=0:=uP (by lia);have e2:pN 0 (k+1)=0:=rfl;rw[e1,e2,aU,aU]
 |n+1,0=>by have h:=yU n 0;have e:pN (n+1+1) (0+1)=pN (n+1) 0+pN (n+1) (0+1):=rfl;rw[e,fU,h,uE,uE];lia
 |n+1,j+1=>by
  have h1:=yU n (j+1);have h2:=yU n j;have e:pN (n+1+1) (j+1+1)=pN (n+1) (j+1)+pN (n+1) (j+1+1):=rfl;have e2:pN (n+1) (j+1)=pN n j+pN n (j+1):=rfl;rw[e,fU,h1];have e3:(((j+1:Nat):Int)+1)*pN (n+1) (j+1)=((j:Int)+1)*pN (n+1) (j+1)+pN (n+1) (j+1):=by rw[eJ,cj];rfl
  rw[e3,h2];have e4:(((n+1:Nat):Int)+1)*pN (n+1) (j+1)=((n:Int)+1)*pN (n+1) (j+1)+pN (n+1) (j+1):=by rw[eJ (((n+1:Nat):Int)),cj];rfl
  have e5:((n:Int)+1)*pN (n+1) (j+1)=((n:Int)+1)*pN n j+((n:Int)+1)*pN n (j+1):=by rw[e2,fU]
  rw[e4,e5];lia
theorem VF (hp:jG p){n j:Nat}(hn:(n:Int)+1=p)(hj:j<n):p ∣ pN (n+1) (j+1):=by
 have h:=yU n j;have g:Int.gcd ((j:Int)+1) (p^1)=1:=Gb hp (by rw[bx (by lia) (by lia)];lia) 1;rw[iN]at g;have d:p ∣ ((j:Int)+1)*pN (n+1) (j+1):=by rw[h,hn];exact Int.dvd_mul_right _ _
 have d2:=dQ.mpr d;rw[iz]at d2;have g2:Nat.Coprime p.natAbs ((j:Int)+1).natAbs:=by show Nat.gcd p.natAbs ((j:Int)+1).natAbs=1;rw[Nat.gcd_comm];exact g
 exact dQ.mp (g2.dvd_of_dvd_mul_left d2)
theorem Ri {F:Nat->Nat->Nat->Int}(h:∀i j n,F i j (n+1)=F (i+1) j n+F i (j+1) n):∀n i j,F i j n=sm (n+1) λk=>pN n k*F (i+k) (j+(n-k)) 0
 |0,i,j=>by show F i j 0=0+1*F (i+0) (j+(0-0)) 0;rw[cj,c6];rfl
 |n+1,i,j=>by
  rw[h,Ri h n (i+1) j,Ri h n i (j+1),qb (λk=>pN (n+1) k*F (i+k) (j+(n+1-k)) 0) (n+1)];have e0:sm (n+1) (λk=>pN n k*F (i+k) (j+1+(n-k)) 0)=sm (n+2) (λk=>pN n k*F (i+k) (j+1+(n-k)) 0):=
   (zB (by lia) λk h1 h2=>by rw[uP (by lia),bT]).symm
  rw[e0,qb (λk=>pN n k*F (i+k) (j+1+(n-k)) 0) (n+1)];have e1:pN (n+1) 0*F (i+0) (j+(n+1-0)) 0=pN n 0*F (i+0) (j+1+(n-0)) 0:=by
   rw[uE,uE];have:j+(n+1-0)=j+1+(n-0):=by lia
   rw[this]
  have e2:sm (n+1) (λk=>pN (n+1) (k+1)*F (i+(k+1)) (j+(n+1-(k+1))) 0)=sm (n+1) (λk=>pN n k*F (i+1+k) (j+(n-k)) 0)+sm (n+1) (λk=>pN n (k+1)*F (i+(k+1)) (j+1+(n-(k+1))) 0):=by
   rw[<- sO];refine jn λk hk=>?_;have a1:i+1+k=i+(k+1):=by lia
   have a2:j+(n+1-(k+1))=j+(n-k):=by lia
   have a3:pN (n+1) (k+1)=pN n k+pN n (k+1):=rfl;rw[a1,a2,a3,eJ];by_cases c:k=n
   ·rw[uP (show n<k+1 by lia),bT,bT]
   ·have a4:j+1+(n-(k+1))=j+(n-k):=by lia
    rw[a4]
  rw[e1,e2];lia
theorem Ue (hp:jG p){F:Nat->Nat->Nat->Int}(h:∀i j n,F i j (n+1)=F (i+1) j n+F i (j+1) n):p ∣ F 0 0 p.toNat-(F p.toNat 0 0+F 0 p.toNat 0):=by
 have p2:2<=p:=hp.1;obtain⟨n,hn⟩:∃n,p.toNat=n+1:=⟨p.toNat-1,by lia⟩;have hn2:(n:Int)+1=p:=by lia
 rw[hn,Ri h (n+1) 0 0];have e:sm (n+1+1) (λk=>pN (n+1) k*F (0+k) (0+(n+1-k)) 0)=pN (n+1) 0*F (0+0) (0+(n+1-0)) 0+sm n (λk=>pN (n+1) (k+1)*F (0+(k+1)) (0+(n+1-(k+1))) 0)+pN (n+1) (n+1)*F (0+(n+1)) (0+(n+1-(n+1))) 0:=by show sm (n+1) _+_=_;rw[qb]
 rw[e,uE,GX,cj,cj];have a1:0+(n+1-0)=n+1:=by lia
 have a2:0+(n+1-(n+1))=0:=by lia
 have a3:0+(n+1)=n+1:=by lia
 rw[a1,a2,a3];have d:p ∣ sm n (λk=>pN (n+1) (k+1)*F (0+(k+1)) (0+(n+1-(k+1))) 0):=m8 λk hk=>bh (VF hp hn2 hk);have e2:F (0+0) (n+1) 0=F 0 (n+1) 0:=rfl;rw[e2];generalize sm n (λk=>pN (n+1) (k+1)*F (0+(k+1)) (0+(n+1-(k+1))) 0)=S at *
 have e3:F 0 (n+1) 0+S+F (n+1) 0 0-(F (n+1) 0 0+F 0 (n+1) 0)=S:=by lia
 rw[e3];exact d
theorem Qw {p:Int}(hp:jG p)(d a b:Li):kY p d (pw (jU a b) p.toNat) (jU (pw a p.toNat) (pw b p.toNat)):=.of λx=>by
 have h:=Ue hp (F:=λi j n=>cm (ji (pw a i) (pw b j)) (pw (jU a b) n) x) λi j n=>by
  show cm (ji (pw a i) (pw b j)) (ji (pw (jU a b) n) (jU a b)) x=cm (ji (ji (pw a i) a) (pw b j)) (pw (jU a b) n) x+cm (ji (pw a i) (ji (pw b j) b)) (pw (jU a b) n) x;generalize pw (jU a b) n=W;generalize pw a i=A;generalize pw b j=B;rw[<- mF,jA,qQ];have k1:cm a (ji (ji A B) W) x=cm (ji (ji A a) B) W x:=by rw[<- mF];refine wC (λn=>?_) (λ_=>rfl) x;rw[jg,jg,<- mF];exact wC (λn=>by rw[jg,jg,jA]) (λ_=>rfl) n
  have k2:cm b (ji (ji A B) W) x=cm (ji A (ji B b)) W x:=by rw[<- mF];refine wC (λn=>?_) (λ_=>rfl) x;rw[jg,jg,jA,mF]
  rw[k1,k2]
 have e1:cm (ji (pw a 0) (pw b 0)) (pw (jU a b) p.toNat) x=(pw (jU a b) p.toNat).getD x 0:=by rw[jA,<- tQ (pw (jU a b) p.toNat) x];refine wC (λ_=>rfl) (λn=>?_) x;rw[jg];exact tQ _ n
 have e2:cm (ji (pw a p.toNat) (pw b 0)) (pw (jU a b) 0) x=(pw a p.toNat).getD x 0:=by show cm (ji (pw a p.toNat) [1]) [1] x=_;rw[tQ,jg,tQ]
 have e3:cm (ji (pw a 0) (pw b p.toNat)) (pw (jU a b) 0) x=(pw b p.toNat).getD x 0:=by show cm (ji [1] (pw b p.toNat)) [1] x=_;rw[tQ,jg,jA,tQ]
 rw[e1,e2,e3]at h;rw[ju];exact h
theorem pw_1 (p:Int)(d:Li):∀n,kY p d (pw [1] n) [1]
 |0=>.refl p d _
 |n+1=>(kY.one p d (pw [1] n)).trans (pw_1 p d n)
theorem pw_c (hp:jG p)(d:Li):∀c:Nat,kY p d (pw [(c:Int)] p.toNat) [(c:Int)]
 |0=>by
  have p2:2<=p:=hp.1;obtain⟨n,hn⟩:∃n,p.toNat=n+1:=⟨p.toNat-1,by lia⟩;rw[hn];have z:∀n,([((0:Nat):Int)]:List Int).getD n 0=0:=λn=>by cases n<;>rfl
  refine Sm.ZF λk=>?_;show(ji (pw [((0:Nat):Int)] n) [((0:Nat):Int)]).getD k 0=_;rw[jg,jA,Dy z,z]
 |c+1=>by have e:([((c+1:Nat):Int)]:List Int)=jU [(c:Int)] [1]:=rfl;rw[e];exact(Qw hp d [(c:Int)] [1]).trans ((pw_c hp d c).add (pw_1 p d _))
theorem pw_mul (p:Int)(d a b:Li):∀n,kY p d (pw (ji a b) n) (ji (pw a n) (pw b n))
 |0=>(kY.one p d [1]).symm
 |n+1=>by show kY p d (ji (pw (ji a b) n) (ji a b)) (ji (ji (pw a n) a) (ji (pw b n) b));refine((pw_mul p d a b n).mul _).trans ?_;generalize pw a n=A;generalize pw b n=B;have x:kY p d (ji B (ji a b)) (ji a (ji B b)):=(kY.rF p d B a b).symm.trans (((kY.comm p d B a).mul b).trans (kY.rF p d a B b));exact(kY.rF p d A B (ji a b)).trans (((kY.refl p d A).Fl x).trans (kY.rF p d A a (ji B b)).symm)
def lcb (X:Nat->List Int):List Int->Nat->List Int
 |[],_=>[]
 |c::t,s=>jU (zb c (X s)) (lcb X t (s+1))
theorem MN (X:Nat->List Int)(j:Nat):∀(f:Li) (s:Nat),(lcb X f s).getD j 0=sm f.length λk=>f.getD k 0*(X (s+k)).getD j 0
 |[],s=>by show([]:List Int).getD j 0=0;rfl
 |c::t,s=>by
  show(jU (zb c (X s)) (lcb X t (s+1))).getD j 0=sm (t.length+1) _;rw[ju,jQ,MN X j t (s+1),qb];have e:sm t.length (λk=>t.getD k 0*(X (s+1+k)).getD j 0)=sm t.length λi=>(c::t).getD (i+1) 0*(X (s+(i+1))).getD j 0:=jn λi _=>by
   have a:s+1+i=s+(i+1):=by lia
   rw[a];rfl
  rw[e];rfl
theorem ZR (hp:jG p)(d:Li):∀(f:Li),(∀m∈f,0<=m)->∀s,kY p d (ji (pw (pw [0,1] p.toNat) s) (pw f p.toNat)) (lcb (pw (pw [0,1] p.toNat)) f s)
 |[],_,s=>by
  have p2:2<=p:=hp.1;obtain⟨n,hn⟩:∃n,p.toNat=n+1:=⟨p.toNat-1,by lia⟩;refine Sm.ZF λk=>?_;have z:∀k,(pw [] p.toNat).getD k 0=0:=λk=>by rw[hn];show(ji (pw [] n) []).getD k 0=0;rw[jg,jA,lL]
  rw[jg,jA,Dy z];rfl
 |c::t,h,s=>by
  have hc:0<=c:=h c (ah ..);obtain⟨cn,ec⟩:∃cn:Nat,c=(cn:Int):=⟨c.toNat,by lia⟩;have ih:=ZR hp d t (λm hm=>h m (ad _ hm)) (s+1);have e0:Sm (c::t) (jU [c] (ji [0,1] t)):=λn=>by
   rw[ju,jg,nR,bT,c6]
   match n with
   |0=>rw[af rfl,bH];rfl
   |n+1=>
    have e:([c]:List Int).getD (n+1) 0=0:=by rfl
    rw[ae (by lia),e,c6,jA,Nat.add_sub_cancel,tQ];rfl
  have e1:kY p d (pw (c::t) p.toNat) (jU [c] (ji (pw [0,1] p.toNat) (pw t p.toNat))):=by refine(pw_mod e0.ZF _).trans ((Qw hp d _ _).trans (kY.add ?_ (pw_mul p d _ _ _)));rw[ec];exact pw_c hp d cn
  refine((kY.refl p d (pw (pw [0,1] p.toNat) s)).Fl e1).trans ?_;have e2:Sm (ji (pw (pw [0,1] p.toNat) s) (jU [c] (ji (pw [0,1] p.toNat) (pw t p.toNat)))) (jU (zb c (pw (pw [0,1] p.toNat) s)) (ji (pw (pw [0,1] p.toNat) s) (ji (pw [0,1] p.toNat) (pw t p.toNat)))):=λn=>by
   rw[jg,jA,qQ,ju,jQ,jg,jA (pw (pw [0,1] p.toNat) s),nR];by_cases k:n=0
   ·rw[af k,bH]
   ·rw[ae k,lL,bH]
  refine e2.ZF.trans ?_;exact(kY.refl p d _).add ((kY.rF p d _ _ _).symm.trans ih)
theorem Vd (h:a ∣ b*c)(g:Int.gcd a b=1):a ∣ c:=by have d:=dQ.mpr h;rw[iz]at d;exact dQ.mp (Nat.Coprime.dvd_of_dvd_mul_left g d)
theorem U3 (hp:jG p)(h:p ∣ a*b):p ∣ a\/p ∣ b:=by
 by_cases c:a % p=0
 ·exact .inl (gO c)
 ·right;have g:=hp.LQ c;rw[Int.gcd_comm]at g;exact Vd h g
theorem lJ (hp:jG p)(h:¬p ∣ x):∃t,p ∣ t*x-1:=by
 have g:=hp.LQ (b:=x) λz=>h (gO z);obtain⟨t,_,_,e⟩:=NT hp.1 g;refine⟨t,?_⟩;have e2:=fV e;have:t*x-1 = -(1-t*x):=by lia
 rw[this];exact bu.mpr e2
def Qe (p:Int):Setoid (List Int):=⟨λa b=>∀n,p ∣ a.getD n 0-b.getD n 0,λa n=>by rw[cB];exact aV p,
 λ{a b} h n=>by
  have e:b.getD n 0-a.getD n 0 = -(a.getD n 0-b.getD n 0):=by lia
  rw[e];exact bu.mpr (h n),
 λ{a b c} h k n=>by
  have e:a.getD n 0-c.getD n 0=(a.getD n 0-b.getD n 0)+(b.getD n 0-c.getD n 0):=by lia
  rw[e];exact bE (h n) (k n)⟩
def Pl (p:Int):Type:=Quotient (Qe p)
namespace Pl
variable {p:Int}
def mk (p:Int)(a:List Int):Pl p:=Quotient.mk (Qe p) a
theorem lz:mk p a=mk p b ↔ ∀n,p ∣ a.getD n 0-b.getD n 0:=⟨λh=>Quotient.exact (s:=Qe p) h,λh=>Quotient.sound (s:=Qe p) h⟩
theorem ext (h:∀n,a.getD n 0=b.getD n 0):mk p a=mk p b:=lz.mpr λn=>by rw[h n,cB];exact aV p
theorem rep (x:Pl p):∃a,x=mk p a:=Quotient.inductionOn (s:=Qe p) x λa=>⟨a,rfl⟩
def add (x y:Pl p):Pl p:=Quotient.lift₂ (s₁:=Qe p) (s₂:=Qe p) (λa b=>mk p (jU a b)) (λa b c d h k=>lz.mpr λn=>by
 rw[ju,ju];have e:a.getD n 0+b.getD n 0-(c.getD n 0+d.getD n 0)=(a.getD n 0-c.getD n 0)+(b.getD n 0-d.getD n 0):=by lia
 rw[e];exact bE (h n) (k n)) x y
def mul (x y:Pl p):Pl p:=Quotient.lift₂ (s₁:=Qe p) (s₂:=Qe p) (λa b=>mk p (ji a b)) (λa b c d h k=>lz.mpr λn=>by
 rw[jg,jg];have e:cm a b n-cm c d n=(cm a b n-cm c b n)+(cm b c n-cm d c n):=by rw[jA b c,jA d c];lia
 rw[e];exact bE (zr h n) (zr k n)) x y
def neg (x:Pl p):Pl p:=Quotient.lift (s:=Qe p) (λa=>mk p (zb (-1) a)) (λa b h=>lz.mpr λn=>by
 rw[jQ,jQ];have e:-1*a.getD n 0 - -1*b.getD n 0 = -(a.getD n 0-b.getD n 0):=by lia
 rw[e];exact bu.mpr (h n)) x
def con (p c:Int):Pl p:=mk p [c]
instance:Add (Pl p):=⟨add⟩
instance:Mul (Pl p):=⟨mul⟩
instance:Neg (Pl p):=⟨neg⟩
instance:Sub (Pl p):=⟨λa b=>a + -b⟩
instance:NatCast (Pl p):=⟨λk=>con p (k:Int)⟩
instance:IntCast (Pl p):=⟨con p⟩
instance (k:Nat):OfNat (Pl p) k:=⟨con p (k:Int)⟩
instance:SMul Nat (Pl p):=⟨λk a=>con p (k:Int)*a⟩
instance:SMul Int (Pl p):=⟨λk a=>con p k*a⟩
def pow (a:Pl p):Nat->Pl p
 |0=>con p 1
 |n+1=>pow a n*a
instance:HPow (Pl p) Nat (Pl p):=⟨pow⟩
theorem lV (a b:Li):mk p a+mk p b=mk p (jU a b):=rfl
theorem kj (a b:Li):mk p a*mk p b=mk p (ji a b):=rfl
theorem yc (a:Li):-mk p a=mk p (zb (-1) a):=rfl
theorem UV:(1:Pl p)=mk p [1]:=rfl
theorem tU:(0:Pl p)=mk p [0]:=rfl
theorem mul_comm (x y:Pl p):x*y=y*x:=by obtain⟨a,rfl⟩:=rep x;obtain⟨b,rfl⟩:=rep y;rw[kj,kj];exact ext λn=>by rw[jg,jg,jA]
theorem mul_assoc (x y z:Pl p):x*y*z=x*(y*z):=by obtain⟨a,rfl⟩:=rep x;obtain⟨b,rfl⟩:=rep y;obtain⟨c,rfl⟩:=rep z;rw[kj,kj,kj,kj];exact ext λn=>by rw[jg,jg,mF]
theorem q8 (c:Int)(a:Li):con p c*mk p a=mk p (zb c a):=by unfold con;rw[kj];exact ext λn=>by rw[jg,jQ,U0]
theorem one_mul (x:Pl p):1*x=x:=by obtain⟨a,rfl⟩:=rep x;show con p 1*mk p a=mk p a;rw[q8];exact ext λn=>by rw[jQ,cj]
theorem Cj (n:Nat):([0]:Li).getD n 0=0:=by cases n<;>rfl
theorem zero_mul (x:Pl p):0*x=0:=by obtain⟨a,rfl⟩:=rep x;show con p 0*mk p a=mk p [0];rw[q8];exact ext λn=>by rw[jQ,bT,Cj]
theorem MK (x y z:Pl p):x*(y+z)=x*y+x*z:=by obtain⟨a,rfl⟩:=rep x;obtain⟨b,rfl⟩:=rep y;obtain⟨c,rfl⟩:=rep z;rw[lV,kj,kj,kj,lV];exact ext λn=>by rw[jg,ju,jg,jg,jA,qQ,jA b a,jA c a]
theorem add_comm (x y:Pl p):x+y=y+x:=by obtain⟨a,rfl⟩:=rep x;obtain⟨b,rfl⟩:=rep y;rw[lV,lV];exact ext λn=>by rw[ju,ju,g9]
theorem abj (c d:Int)(n:Nat):([c+d]:Li).getD n 0=([c]:Li).getD n 0+([d]:Li).getD n 0:=by cases n<;>rfl
theorem zp (c d:Int):con p (c+d)=con p c+con p d:=by unfold con;rw[lV];exact ext λn=>by rw[ju,abj]
theorem Ea (c:Int):con p (-c) = -con p c:=by
 unfold con;rw[yc];exact ext λn=>by
  rw[jQ];cases n with
  |zero=>show -c = -1*c;lia
  |succ n=>rfl
instance:Lean.Grind.CommRing (Pl p) where
 add_zero x:=by obtain⟨a,rfl⟩:=rep x;rw[tU,lV];exact ext λn=>by rw[ju,Cj,bH]
 add_comm:=add_comm
 add_assoc x y z:=by obtain⟨a,rfl⟩:=rep x;obtain⟨b,rfl⟩:=rep y;obtain⟨c,rfl⟩:=rep z;rw[lV,lV,lV,lV];exact ext λn=>by rw[ju,ju,ju,ju,Int.add_assoc]
 mul_assoc:=mul_assoc
 mul_one x:=by rw[mul_comm,one_mul]
 one_mul:=one_mul
 left_distrib:=MK
 right_distrib a b c:=by rw[mul_comm,MK,mul_comm c,mul_comm c]
 mul_zero x:=by rw[mul_comm,zero_mul]
 zero_mul:=zero_mul
 pow_zero _:=rfl
 pow_succ _ _:=rfl
 ofNat_succ k:=by show con p ((k+1:Nat):Int)=con p (k:Int)+con p 1;rw[<- zp];rfl
 ofNat_eq_natCast _:=rfl
 nsmul_eq_natCast_mul _ _:=rfl
 neg_add_cancel x:=by obtain⟨a,rfl⟩:=rep x;rw[tU,yc,lV];exact ext λn=>by rw[ju,jQ,Cj];lia
 sub_eq_add_neg _ _:=rfl
 neg_zsmul i x:=by show con p (-i)*x = -(con p i*x);obtain⟨a,rfl⟩:=rep x;rw[q8,q8,yc];exact ext λn=>by rw[jQ,jQ,jQ,<- bM,eW]
 zsmul_natCast_eq_nsmul _ _:=rfl
 intCast_ofNat _:=rfl
 intCast_neg i:=Ea i
 mul_comm:=mul_comm
def dv (x:Pl p):Pl p:=Quotient.lift (s:=Qe p) (λa=>mk p (dl a)) (λa b h=>lz.mpr λn=>by
 rw[sX,sX,<- cw];exact aO (h (n+1))) x
theorem Ao (a:Li):dv (mk p a)=mk p (dl a):=rfl
theorem JQ (x y:Pl p):dv (x*y)=dv x*y+x*dv y:=by obtain⟨a,rfl⟩:=rep x;obtain⟨b,rfl⟩:=rep y;rw[kj,Ao,Ao,Ao,kj,kj,lV];exact ext λn=>by rw[XN,ju,jg,jg]
theorem J3 (c:Int):dv (con p c)=0:=by unfold con;rw[Ao,tU];exact ext λn=>by rw[sX,Cj];exact aU _
theorem Ej (x:Pl p):∀n:Nat,dv (x^(n+1))=con p ((n+1:Nat):Int)*x^n*dv x
 |0=>by show dv (con p 1*x)=con p 1*con p 1*dv x;rw[JQ,J3];have e:con p 1=(1:Pl p):=rfl;rw[e];grind
 |n+1=>by
  have h:=Ej x n;have e1:x^(n+1+1)=x^(n+1)*x:=rfl;have e2:x^(n+1)=x^n*x:=rfl;have e3:con p ((n+1+1:Nat):Int)=con p ((n+1:Nat):Int)+1:=by have z:((n+1+1:Nat):Int)=((n+1:Nat):Int)+1:=rfl;rw[z];exact zp _ 1
  rw[e1,JQ,h,e3,e2];grind
def nG (a b:Pl p):Prop:=∃s t:Pl p,s*a+t*b=1
theorem nG.symm {a b:Pl p}(h:nG a b):nG b a:=by obtain⟨s,t,h⟩:=h;exact⟨t,s,by grind⟩
theorem nG.one (a:Pl p):nG a 1:=⟨0,1,by grind⟩
theorem nG.mul {a b c:Pl p}(h:nG a c)(k:nG b c):nG (a*b) c:=by obtain⟨s,t,h⟩:=h;obtain⟨u,v,k⟩:=k;exact⟨s*u,s*a*v+t*u*b+t*v*c,by grind⟩
theorem nG.pow {a c:Pl p}(h:nG a c):∀n:Nat,nG (a^n) c
 |0=>(nG.one c).symm
 |n+1=>(h.pow n).mul h
theorem nG.pB {a b c:Pl p}(h:nG a b)(e:∃u,c=b+u*a):nG a c:=by obtain⟨s,t,h⟩:=h;obtain⟨u,e⟩:=e;exact⟨s-t*u,t,by grind⟩
structure Gd (a b d:Pl p):Prop where
 lc:∃s t:Pl p,d=s*a+t*b
 d1:∃u,a=u*d
 d2:∃u,b=u*d
theorem nG.gd (h:nG a b)(d:Pl p):Gd (a*d) (b*d) d:=by obtain⟨s,t,h⟩:=h;exact⟨⟨s,t,by grind⟩,⟨a,rfl⟩,⟨b,rfl⟩⟩
def Pr (L:List (Pl p×Nat))(g:Nat->Nat):Pl p:=L.foldr (λq x=>q.1^g q.2*x) 1
theorem jN (q:Pl p×Nat)(L:List (Pl p×Nat))(g:Nat->Nat):Pr (q::L) g=q.1^g q.2*Pr L g:=rfl
theorem pow_add (a:Pl p)(m:Nat):∀n:Nat,a^(m+n)=a^m*a^n
 |0=>by have e:a^0=(1:Pl p):=rfl;rw[e];grind
 |n+1=>by have h:=pow_add a m n;have e1:a^(m+(n+1))=a^(m+n)*a:=rfl;have e2:a^(n+1)=a^n*a:=rfl;rw[e1,e2,h];grind
theorem vN (g h:Nat->Nat):∀L:List (Pl p×Nat),Pr L (λm=>g m+h m)=Pr L g*Pr L h
 |[]=>(one_mul 1).symm
 |q::L=>by rw[jN,jN,jN,vN g h L,pow_add];grind
theorem mD:∀{L:List (Pl p×Nat)},(∀q∈L,g q.2=h q.2)->Pr L g=Pr L h
 |[],_=>rfl
 |q::L,e=>by rw[jN,jN,e q (ah ..),mD λr hr=>e r (ad _ hr)]
theorem Aq {g h:Nat->Nat}{L:List (Pl p×Nat)}(e:∀q∈L,h q.2<=g q.2):Pr L g=Pr L (λm=>g m-h m)*Pr L h:=by rw[<- vN];exact mD λq hq=>by have:=e q hq;show g q.2=g q.2-h q.2+h q.2;lia
def Apart (L:List (Pl p×Nat)):Prop:=L.Pairwise λq r=>nG q.1 r.1
theorem JX (c:Pl p)(g:Nat->Nat):∀{L:List (Pl p×Nat)},(∀q∈L,nG q.1 c\/g q.2=0)->nG (Pr L g) c
 |[],_=>(nG.one c).symm
 |q::L,h=>by
  rw[jN];refine nG.mul ?_ (JX c g λr hr=>h r (ad _ hr));rcases h q (ah ..) with h|h
  ·exact h.pow _
  ·rw[h];exact(nG.one c).symm
theorem RB (d:∀m,g m=0\/h m=0):∀{L:List (Pl p×Nat)},Apart L->nG (Pr L g) (Pr L h)
 |[],_=>nG.one 1
 |q::L,A=>by
  obtain⟨A1,A2⟩:=cG.mp A;have ih:=RB d A2;have a1:∀g':Nat->Nat,nG (Pr L g') q.1:=λg'=>JX q.1 g' λr hr=>.inl (A1 r hr).symm;rw[jN,jN];refine nG.mul ?_ (nG.symm (nG.mul ?_ ih.symm))
  ·refine nG.symm (nG.mul ?_ ((a1 h).symm.pow _).symm);rcases d q.2 with e|e
   ·rw[e];exact nG.one _
   ·rw[e];exact(nG.one _).symm
  ·exact((a1 g).symm.pow _)
theorem ZP {g h:Nat->Nat}{L:List (Pl p×Nat)}(A:Apart L):Gd (Pr L g) (Pr L h) (Pr L λm=>min (g m) (h m)):=by rw[Aq (g:=g) (h:=λm=>min (g m) (h m)) (λq _=>Nat.min_le_left ..),Aq (g:=h) (h:=λm=>min (g m) (h m)) (λq _=>Nat.min_le_right ..)];exact(RB (λm=>by show g m-min (g m) (h m)=0\/h m-min (g m) (h m)=0;lia) A).gd _
def lw (p:Int)(m:Nat):Nat:=if p ∣ (m:Int) then m else m-1
def ly (p:Int)(m:Nat):Nat:=if p ∣ (m:Int) then 0 else 1
theorem Lf (h:p ∣ c):con p c=0:=lz.mpr λn=>by
 cases n with
 |zero=>show p ∣ c-0;rw[aS];exact h
 |succ n=>exact aV p
theorem wO (h:p ∣ t*c-1):con p t*con p c=1:=by
 have e:con p t*con p c=mk p (zb t [c]):=q8 t [c];rw[e,UV];exact lz.mpr λn=>by
  cases n with
  |zero=>exact h
  |succ n=>exact aV p
theorem abn (C D Y E Q W q1:Pl p):C*Q*D*(E*Y)+Q*q1*(E*W)=Q*E*(C*D*Y+q1*W):=by grind
theorem abi {T C q1:Pl p}(h:T*C=1):nG C q1:=⟨T,0,by grind⟩
theorem Jf (hinv:∀x:Int,¬p ∣ x->∃t,p ∣ t*x-1):∀{L:List (Pl p×Nat)},Apart L->(∀q∈L,nG q.1 (dv q.1))->∃W,dv (Pr L g)=Pr L (λm=>lw p (g m))*W/\nG (Pr L λm=>ly p (g m)) W
 |[],_,_=>⟨0,by
   show dv (con p 1)=_;rw[J3];grind,(nG.one _).symm⟩
 |q::L,A,S=>by
  obtain⟨A1,A2⟩:=cG.mp A;obtain⟨W,e,c⟩:=Jf hinv A2 λr hr=>S r (ad _ hr);have a1:∀g':Nat->Nat,nG (Pr L g') q.1:=λg'=>JX q.1 g' λr hr=>.inl (A1 r hr).symm;have spl:Pr L g=Pr L (λm=>lw p (g m))*Pr L λm=>ly p (g m):=by
   rw[<- vN];exact mD λr _=>by
    unfold lw ly;by_cases h:p ∣ (g r.2:Int)
    ·rw[af h,af h];rfl
    ·rw[ae h,ae h];have:g r.2≠0:=λz=>h (by rw[z];exact aV p);lia
  have sq:=S q (ah ..);simp only[jN];rw[JQ,e];by_cases h:p ∣ (g q.2:Int)
  ·refine⟨W,?_,?_⟩
   ·have z:dv (q.1^g q.2)=0:=by
     cases hm:g q.2 with
     |zero=>exact J3 1
     |succ n=>rw[Ej,Lf (by rw[<- hm];exact h)];grind
    rw[z];have e1:lw p (g q.2)=g q.2:=af h;rw[e1];grind
   ·have e1:ly p (g q.2)=0:=af h;rw[e1];have e2:q.1^0=(1:Pl p):=rfl;rw[e2,one_mul];exact c
  ·obtain⟨t,ht⟩:=hinv _ h;have i1:=wO ht;have e1:lw p (g q.2)=g q.2-1:=ae h;have e2:ly p (g q.2)=1:=ae h;have e3:q.1^1=q.1:=one_mul q.1;obtain⟨n,hn⟩:∃n,g q.2=n+1:=⟨g q.2-1,by
    have:g q.2≠0:=λz=>h (by rw[z];exact aV p);lia⟩
   have e4:g q.2-1=n:=by lia
   have e5:q.1^(n+1)=q.1^n*q.1:=rfl;have c1:=a1 λm=>ly p (g m);rw[e1,e2,e3,spl,e4];rw[hn]at i1;rw[hn,Ej,e5];generalize (Pr L λm=>ly p (g m))=Y at *
   generalize (Pr L λm=>lw p (g m))=E at *
   generalize q.1^n=Q at *
   generalize con p ((n+1:Nat):Int)=C at *
   generalize con p t=T at *
   generalize dv q.1=D at *
   generalize q.1=q1 at *
   refine⟨C*D*Y+q1*W,abn ..,?_⟩;refine nG.mul ?_ ?_
   ·have k:nG q1 (C*D*Y):=((nG.mul (nG.mul (abi i1) sq.symm) c1)).symm;exact k.pB ⟨W,by rw[mul_comm W]⟩
   ·have k:nG Y (q1*W):=(nG.mul c1.symm c.symm).symm;exact k.pB ⟨C*D,add_comm _ _⟩
theorem aaI (hinv:∀x:Int,¬p ∣ x->∃t,p ∣ t*x-1){g:Nat->Nat}{L:List (Pl p×Nat)}(A:Apart L)(S:∀q∈L,nG q.1 (dv q.1)):Gd (Pr L g) (dv (Pr L g)) (Pr L λm=>lw p (g m)):=by
 obtain⟨W,e,c⟩:=Jf hinv (g:=g) A S;have spl:Pr L g=Pr L (λm=>ly p (g m))*Pr L λm=>lw p (g m):=by
  rw[<- vN];exact mD λr _=>by
   unfold lw ly;by_cases h:p ∣ (g r.2:Int)
   ·rw[af h,af h];lia
   ·rw[ae h,ae h];have:g r.2≠0:=λz=>h (by rw[z];exact aV p);lia
 rw[e,mul_comm,spl];exact c.gd _
end Pl
namespace Pl
variable {p:Int}
def ls (x:Pl p):List Int:=Quotient.lift (s:=Qe p) (Tz p) (λa b h=>nH (jX p a) (jX p b) λn=>by
 rw[j9,j9];exact(qw p _ _).mpr (h n)) x
theorem pY (a:Li):ls (mk p a)=Tz p a:=rfl
theorem aau (a:Li):mk p (Tz p a)=mk p a:=lz.mpr (YB p a)
theorem jF (x:Pl p):mk p (ls x)=x:=by obtain⟨a,rfl⟩:=rep x;exact aau a
theorem jL (x:Pl p):Fo p (ls x):=by obtain⟨a,rfl⟩:=rep x;exact Fo.tz p a
theorem rR (x:Pl p):Tz p (ls x)=ls x:=wz (jL x).form (jL x).red
theorem tM (h:Fo p f):ls (mk p f)=f:=wz h.form h.red
def Mo (x:Pl p):Prop:=jk (ls x)=1
theorem Mo.ne {x:Pl p}(h:Mo x):ls x≠[]:=Ek h
theorem Mo.pos {x:Pl p}(h:Mo x):0<(ls x).length:=lP h.ne
theorem W2 (p2:2<=p):pl p 1=1:=by rw[kh (by lia)];exact bx (by decide) (by lia)
theorem uh (p2:2<=p):ls (1:Pl p)=[1]:=tM ⟨λ_=>by decide,λn=>by
 cases n with
 |zero=>exact W2 p2
 |succ n=>exact lH p⟩
theorem Mo.one (p2:2<=p):Mo (1:Pl p):=by unfold Mo;rw[uh p2];rfl
theorem Mo.Fl (p2:2<=p){x y:Pl p}(hx:Mo x)(hy:Mo y):Mo (x*y)/\(ls (x*y)).length+1=(ls x).length+(ls y).length:=by
 have lx:=hx.pos;have ly:=hy.pos;have ez:ls (x*y)=Tz p (ji (ls x) (ls y)):=by
  have e:x*y=mk p (ls x)*mk p (ls y):=by rw[jF,jF]
  rw[e,kj];rfl
 have hx:(ls x).getD ((ls x).length-1) 0=1:=hx;have hy':jk (ls y)=1:=hy;have top:(Tz p (ji (ls x) (ls y))).getD ((ls x).length-1+((ls y).length-1)) 0=1:=by
  rw[j9,jg,<- W2 p2];refine(qw p _ _).mpr ?_;have:=JN (z:=p) (E:=ls x) (d:=ls y) (i:=(ls x).length-1) ly λj hj=>by rw[jj (by lia)];exact aV p
  rw[hx,hy',cj]at this;exact this
 have l1:(Tz p (ji (ls x) (ls y))).length<=(ls x).length+(ls y).length-1:=mR (jX p _) λn hn=>by rw[j9,jg,T6 (by lia)];exact lH p
 have l2:(ls x).length-1+((ls y).length-1)<(Tz p (ji (ls x) (ls y))).length:=by refine cV λh=>?_;rw[jj h]at top;exact absurd top (by decide)
 rw[<- ez]at l1 l2 top;refine⟨?_,by lia⟩;show(ls (x*y)).getD ((ls (x*y)).length-1) 0=1;have e:(ls (x*y)).length-1=(ls x).length-1+((ls y).length-1):=by lia
 rw[e];exact top
theorem Mo.mul (p2:2<=p){x y:Pl p}(hx:Mo x)(hy:Mo y):Mo (x*y):=(Mo.Fl p2 hx hy).1
theorem Mo.len (p2:2<=p){x y:Pl p}(hx:Mo x)(hy:Mo y):(ls (x*y)).length+1=(ls x).length+(ls y).length:=(Mo.Fl p2 hx hy).2
theorem Mo.pow (p2:2<=p){x:Pl p}(hx:Mo x):∀n:Nat,Mo (x^n)
 |0=>Mo.one p2
 |n+1=>Mo.mul p2 (hx.pow p2 n) hx
theorem Mo.pr (p2:2<=p):∀{L:List (Pl p×Nat)},(∀q∈L,Mo q.1)->Mo (Pr L g)
 |[],_=>Mo.one p2
 |q::L,h=>Mo.mul p2 ((h q (ah ..)).pow p2 _) (Mo.pr p2 λr hr=>h r (ad _ hr))
theorem Mo.sV (p2:2<=p){x:Pl p}(hx:Mo x):∀n:Nat,(ls (x^n)).length=n*((ls x).length-1)+1
 |0=>by have e:x^0=(1:Pl p):=rfl;rw[e,uh p2];show 1=0*_+1;lia
 |n+1=>by have h:=Mo.len p2 (hx.pow p2 n) hx;have e:x^(n+1)=x^n*x:=rfl;have l:=hx.pos;rw[e];rw[Mo.sV p2 hx n]at h;rw[f8];lia
theorem oK (p2:2<=p):∀{L:List (Pl p×Nat)},(∀q∈L,Mo q.1)->(∀q∈L,1<(ls q.1).length)->(1<(ls (Pr L g)).length ↔ ∃q∈L,g q.2≠0)
 |[],_,_=>by have e:Pr ([]:List (Pl p×Nat)) g=1:=rfl;rw[e,uh p2];refine⟨λh=>absurd h (by decide),λ⟨q,h,_⟩=>by cases h⟩
 |q::L,h,d=>by
  have h1:=h q (ah ..);have d1:=d q (ah ..);have ih:=oK p2 (g:=g) (λr hr=>h r (ad _ hr)) (λr hr=>d r (ad _ hr));have m2:Mo (Pr L g):=Mo.pr p2 λr hr=>h r (ad _ hr);have hl:=Mo.len p2 (h1.pow p2 (g q.2)) m2;have mp:=m2.pos;rw[Mo.sV p2 h1,<- jN]at hl;have nz:g q.2*((ls q.1).length-1)=0 ↔ g q.2=0:=by rw[Nat.mul_eq_zero];lia
  refine⟨λk=>?_,λ⟨r,hr,k⟩=>?_⟩
  ·by_cases c:g q.2=0
   ·rw[nz.mpr c]at hl;obtain⟨r,hr,k⟩:=ih.mp (by lia);exact⟨r,ad _ hr,k⟩
   ·exact⟨q,ah ..,c⟩
  ·rcases aF.mp hr with e|hr
   ·subst e;have:g r.2*((ls r.1).length-1)≠0:=λz=>k (nz.mp z);lia
   ·have:=ih.mpr ⟨r,hr,k⟩;lia
theorem aaH (h:Gd (mk p f) (mk p g) d)(m:Mo d):GC p f g (ls d):=by
 obtain⟨⟨s,t,e⟩,⟨u,e1⟩,⟨v,e2⟩⟩:=h;obtain⟨a,rfl⟩:=rep s;obtain⟨b,rfl⟩:=rep t;obtain⟨c,rfl⟩:=rep u;obtain⟨c2,rfl⟩:=rep v;have z:∀{f c:List Int},mk p f=mk p c*d->Dv p (ls d) f:=λ{f c} e=>by
  refine⟨c,λn=>?_⟩;have e:mk p f=mk p (ji c (ls d)):=by rw[<- kj,jF];exact e
  have:=lz.mp e n;rw[jg]at this;show p ∣ f.getD n 0-0-cm c (ls d) n;rw[aS];exact this
 refine⟨(jL d).form,(jL d).red,.inr m,⟨a,b,λn=>?_⟩,z e1,z e2⟩;have e:mk p (ls d)=mk p (jU (ji a f) (ji b g)):=by rw[jF];exact e
 have:=lz.mp e n;rw[ju,jg,jg]at this;exact this
theorem ZC (p2:2<=p)(I:yf p f d q r)(rl:r.length<d.length)(mu:Mo u)(md:Mo (mk p d))(ff:Fo p f)(fd:Fo p d)(e:mk p f=u*mk p d):q=ls u/\r=[]:=by
 have ed:ls (mk p d)=d:=tM fd;have ef:ls (mk p f)=f:=tM ff;have d1:jk d=1:=by have:=md;unfold Mo at this;rw[ed]at this;exact this
 have nz:∀x,p ∣ x*jk d->p ∣ x:=λx h=>by rw[d1,bO]at h;exact h
 have e1:mk p (jU (ji q d) r)=mk p f:=lz.mpr λn=>by rw[ju,jg];exact I.eq n
 have e2:mk p q*mk p d+mk p r=u*mk p d:=by rw[<- e,<- e1];rfl
 obtain⟨c,ec⟩:=rep (u-mk p q);have e3:mk p r=mk p c*mk p d:=by rw[<- ec];grind
 have e4:=lz.mp (e3.trans (kj c d));have hr:r=[]:=rH nz ⟨I.rf,I.rr,rl⟩ ⟨oU,λn=>by show pl p 0=0;exact lH p,by show 0<d.length;lia⟩ ⟨c,λn=>by
  have:=e4 n;rw[jg]at this;show p ∣ r.getD n 0-0-cm c d n;rw[aS];exact this⟩
 refine⟨?_,hr⟩;have hd:0<d.length:=by lia
 have hc:=aaK (z:=p) (E:=c) (S:=0) hd nz λn _=>by
  have:=e4 n;rw[jg,hr]at this;have e:(([]:List Int).getD n 0)-cm c d n = -cm c d n:=by show 0-cm c d n=_;lia
  rw[e]at this;exact bu.mp this
 have c0:mk p c=0:=lz.mpr λn=>by show p ∣ c.getD n 0-([0]:List Int).getD n 0;rw[Cj,aS];exact hc n (be _)
 have e5:mk p q=u:=by rw[c0]at ec;grind
 have ll:=Mo.len p2 mu md;rw[<- e,ef,ed]at ll;have ql:=I.ql;have up:=mu.pos;have le:q.length=(ls u).length:=by lia
 have gt:∀n,q.getD n 0=(ls u).getD n 0:=λn=>sI (I.qr n) ((jL u).red n) (lz.mp (by rw[e5,jF]) n);refine cu le λn h1 h2=>?_;have:=gt n;rw[jx h1,jx h2]at this;exact this
end Pl
namespace Pl
variable {p:Int}
def qN (p:Int)(g:Nat->Nat)(e m:Nat):Nat:=if p ∣ (g m:Int) then 0 else if e<=g m then 1 else 0
def tK (p:Int)(g:Nat->Nat)(e m:Nat):Nat:=if p ∣ (g m:Int) then g m else g m-e
def WX (p:Int)(g:Nat->Nat)(e m:Nat):Nat:=if p ∣ (g m:Int) then 0 else if g m=e then 1 else 0
theorem Uc {L:List (Pl p×Nat)}(A:Apart L)(g:Nat->Nat)(e:Nat):Gd (Pr L (qN p g e)) (Pr L (tK p g e)) (Pr L (qN p g (e+1))):=by
 have h:=ZP (g:=qN p g e) (h:=tK p g e) A;have c:Pr L (λm=>min (qN p g e m) (tK p g e m))=Pr L (qN p g (e+1)):=mD λq _=>by
  show min (qN p g e q.2) (tK p g e q.2)=qN p g (e+1) q.2;unfold qN tK;by_cases h:p ∣ (g q.2:Int)
  ·rw[af h,af h,af h];lia
  ·rw[ae h,ae h,ae h];by_cases k:e+1<=g q.2
   ·rw[af k,af (by lia)];lia
   ·rw[ae k];by_cases k2:e<=g q.2
    ·rw[af k2];lia
    ·rw[ae k2];lia
 rw[c]at h;exact h
theorem Xe (L:List (Pl p×Nat))(g:Nat->Nat)(e:Nat):Pr L (qN p g e)=Pr L (WX p g e)*Pr L (qN p g (e+1)):=by
 rw[<- vN];exact mD λq _=>by
  unfold qN WX;by_cases h:p ∣ (g q.2:Int)
  ·rw[af h,af h,af h]
  ·rw[ae h,ae h,ae h];by_cases k:g q.2=e
   ·rw[af k,af (by lia),ae (by lia)]
   ·rw[ae k];by_cases k2:e<=g q.2
    ·rw[af k2,af (by lia)]
    ·rw[ae k2,ae (by lia)]
theorem Xp (L:List (Pl p×Nat))(g:Nat->Nat)(e:Nat):Pr L (tK p g e)=Pr L (tK p g (e+1))*Pr L (qN p g (e+1)):=by
 rw[<- vN];exact mD λq _=>by
  unfold qN tK;by_cases h:p ∣ (g q.2:Int)
  ·rw[af h,af h,af h];lia
  ·rw[ae h,ae h,ae h];by_cases k:e+1<=g q.2
   ·rw[af k];lia
   ·rw[ae k];lia
theorem Xw {p:Int}{n:Nat}(h:¬p ∣ (n:Int)):n≠0:=λz=>h (by rw[z];exact aV p)
theorem Xx (L:List (Pl p×Nat))(g:Nat->Nat):Pr L g=Pr L (qN p g 1)*Pr L (tK p g 1):=by
 rw[<- vN];exact mD λq _=>by
  unfold qN tK;by_cases h:p ∣ (g q.2:Int)
  ·rw[af h,af h];lia
  ·have:=Xw h;rw[ae h,ae h,af (by lia)];lia
theorem aaB (hinv:∀x:Int,¬p ∣ x->∃t,p ∣ t*x-1){L:List (Pl p×Nat)}(A:Apart L)(S:∀q∈L,nG q.1 (dv q.1))(g:Nat->Nat):Gd (Pr L g) (dv (Pr L g)) (Pr L (tK p g 1)):=aaI hinv A S
theorem Ni:∀n:Nat,(1:Pl p)^n=1
 |0=>rfl
 |n+1=>by have e:(1:Pl p)^(n+1)=(1:Pl p)^n*1:=rfl;rw[e,Ni n,one_mul]
theorem mul_pow (a b:Pl p):∀n:Nat,(a*b)^n=a^n*b^n
 |0=>(one_mul 1).symm
 |n+1=>by have h:=mul_pow a b n;have e1:(a*b)^(n+1)=(a*b)^n*(a*b):=rfl;have e2:a^(n+1)=a^n*a:=rfl;have e3:b^(n+1)=b^n*b:=rfl;rw[e1,e2,e3,h];grind
theorem pow_mul (a:Pl p)(k:Nat):∀n:Nat,a^(k*n)=(a^k)^n
 |0=>rfl
 |n+1=>by have e1:k*(n+1)=k*n+k:=i5 k n;have e2:(a^k)^(n+1)=(a^k)^n*a^k:=rfl;rw[e1,pow_add,pow_mul a k n,e2]
theorem Rq (h:Nat->Nat)(n:Nat):∀L:List (Pl p×Nat),Pr L (λm=>h m*n)=Pr L h^n
 |[]=>(Ni n).symm
 |q::L=>by rw[jN,jN,mul_pow,Rq h n L,pow_mul]
theorem uo (f:Li):∀n:Nat,mk p (pw f n)=mk p f^n
 |0=>rfl
 |n+1=>by have h:=uo f n;have e1:mk p f^(n+1)=mk p f^n*mk p f:=rfl;rw[e1,<- h,kj];rfl
theorem pw_x (n:Nat):∀j,(pw [0,1] n).getD j 0=if j=n then 1 else 0:=by
 induction n with
 |zero=>
  intro j;cases j with
  |zero=>rfl
  |succ j=>rfl
 |succ n ih=>
  intro j;show(ji (pw [0,1] n) [0,1]).getD j 0=_;rw[jg,jA,abl];cases j with
  |zero=>rw[af rfl,ae (by lia)];lia
  |succ j=>
   rw[ae (by lia),show j+1-1=j from rfl,ih j];by_cases c:j=n
   ·rw[af c,af (by lia)];lia
   ·rw[ae c,ae (by lia)];lia
theorem aaL (hp:jG p)(f:Li)(h0:∀m∈f,0<=m):mk p f^p.toNat=mk p (lcb (pw (pw [0,1] p.toNat)) f 0):=by obtain⟨Q,h⟩:=ZR hp [] f h0 0;rw[<- uo];refine lz.mpr λn=>?_;have h:=h n;rw[jA Q [],lL,aS,jg]at h;have e:cm (pw (pw [0,1] p.toNat) 0) (pw f p.toNat) n=(pw f p.toNat).getD n 0:=Ru _ n;rw[e]at h;exact h
theorem KJ (hp:jG p)(x:Pl p)(j:Nat):(ls (x^p.toNat)).getD (p.toNat*j) 0=(ls x).getD j 0:=by
 have p2:2<=p:=hp.1;have h0:∀m∈ls x,0<=m:=λm hm=>((jL x).at hp m hm).1;have e:=aaL hp (ls x) h0;rw[jF]at e;rw[e,pY,j9];have r:=(jL x).red j;refine jb ?_ r;refine(qw p _ _).mpr ?_;rw[MN];have at':∀k,p ∣ (pw (pw [0,1] p.toNat) (0+k)).getD (p.toNat*j) 0-if k=j then 1 else 0:=λk=>by
  have e2:mk p (pw (pw [0,1] p.toNat) (0+k))=mk p (pw [0,1] (p.toNat*k)):=by rw[uo,uo,uo,hU,<- pow_mul]
  have:=lz.mp e2 (p.toNat*j);rw[pw_x]at this;have e3:(if p.toNat*j=p.toNat*k then(1:Int) else 0)=if k=j then 1 else 0:=by
   by_cases c:k=j
   ·rw[af c,af (by rw[c])]
   ·rw[ae c,ae λz=>c (Nat.eq_of_mul_eq_mul_left (by lia) z).symm]
  rw[e3]at this;exact this
 by_cases hj:j<(ls x).length
 ·have k:=JK (z:=p) (f:=λk=>(ls x).getD k 0*(pw (pw [0,1] p.toNat) (0+k)).getD (p.toNat*j) 0) (i:=j) hj λi _ hi=>by have:=at' i;rw[ae hi,aS]at this;exact aO this
  have t:=at' j;rw[af rfl]at t;generalize (pw (pw [0,1] p.toNat) (0+j)).getD (p.toNat*j) 0=y at *
  generalize sm (ls x).length (λk=>(ls x).getD k 0*(pw (pw [0,1] p.toNat) (0+k)).getD (p.toNat*j) 0)=S at *
  generalize (ls x).getD j 0=z at *
  have e4:S-z=(S-z*y)+z*(y-1):=by rw[cw];lia
  rw[e4];exact bE k (aO t)
 ·rw[jj (by lia),aS];exact m8 λi hi=>by have:=at' i;rw[ae (by lia),aS]at this;exact aO this
theorem O4 (hp:jG p){x:Pl p}(m:Mo x):(List.range (ls x).length).map (λi=>(ls (x^p.toNat)).getD (p.toNat*i) 0)=ls x/\(ls (x^p.toNat)).length=p.toNat*((ls x).length-1)+1:=by refine⟨cu (by rw[aa,aq]) λn h1 h2=>?_,m.sV hp.1 _⟩;rw[bv,bq,KJ hp,jx h2]
end Pl
namespace Pl
variable {p:Int}
theorem Mo.inj {x y:Pl p}(h:ls x=ls y):x=y:=by rw[<- jF x,<- jF y,h]
theorem Mo.Ei (p2:2<=p){x:Pl p}(h:Mo x)(l:(ls x).length<=1):x=1:=by
 refine Mo.inj ?_;rw[uh p2];have k:jk (ls x)=1:=h;have:=h.pos;generalize ls x=a at *
 match a,l,this with
 |[b],_,_=>rw[show b=1 from k]
theorem xX:mk p []=(0:Pl p):=ext λn=>by show([]:Li).getD n 0=([0]:Li).getD n 0;rw[Cj];rfl
theorem O6 (x:Pl p):x*0=0:=by rw[mul_comm,zero_mul]
theorem Mo.ne0 {x:Pl p}(h:Mo x):x≠0:=λz=>by have k:=h.ne;rw[z,<- xX,pY]at k;exact k rfl
theorem aag (hp:jG p)(y:Pl p)(mx:Mo x)(hl:(ls y).length<=200):∃d,Mo d/\Gd x y d:=by
 have G:=Zk hp (f:=ls x) hl;generalize gc p (ls x) (ls y)=r at G;have up:∀{f:Pl p},Dv p r (ls f)->∃u,f=u*mk p r:=λ{f} ⟨Q,h⟩=>⟨mk p Q,by
  rw[kj];refine jb (jF f).symm (lz.mpr λn=>?_);have:=h n;rw[jg];have e:(ls f).getD n 0-([]:List Int).getD n 0-cm Q r n=(ls f).getD n 0-cm Q r n:=by show _-0-_=_;lia
  rw[e]at this;exact this⟩
 have d1:=up G.d1;refine⟨mk p r,?_,?_,d1,up G.d2⟩
 ·rcases G.one with z|z
  ·obtain⟨u,e⟩:=d1;rw[z,xX,O6]at e;exact absurd e mx.ne0
  ·show jk (ls (mk p r))=1;rw[tM ⟨G.form,G.red⟩];exact z
 ·obtain⟨s,t,h⟩:=G.lc;refine⟨mk p s,mk p t,?_⟩;have e1:mk p s*x+mk p t*y=mk p s*mk p (ls x)+mk p t*mk p (ls y):=by rw[jF,jF]
  rw[e1];exact lz.mpr λn=>by rw[ju,jg,jg];exact h n
theorem Mo.ZC (p2:2<=p){x d u:Pl p}(mx:Mo x)(md:Mo d)(e:x=u*d):Mo u:=by
 have hd:=md.pos;have d1:jk (ls d)=1:=md;have u0:ls u≠[]:=λz=>mx.ne0 (by rw[e,<- jF u,z,xX,zero_mul]);have lu:=lP u0;have ez:ls x=Tz p (ji (ls u) (ls d)):=by rw[<- pY,<- kj,jF,jF,e]
 have top:p ∣ cm (ls u) (ls d) ((ls u).length-1+((ls d).length-1))-jk (ls u):=by
  have:=JN (z:=p) (E:=ls u) (d:=ls d) (i:=(ls u).length-1) hd λj hj=>by rw[jj (by lia)];exact aV p
  rw[d1,bO]at this;exact this
 have t2:(ls x).getD ((ls u).length-1+((ls d).length-1)) 0=jk (ls u):=by rw[ez,j9,jg];have r:=(jL u).red ((ls u).length-1);exact((qw p _ _).mpr top).trans r
 have nz:jk (ls u)≠0:=(jL u).form u0;have l1:(ls x).length<=(ls u).length+(ls d).length-1:=by rw[ez];exact mR (jX p _) λn hn=>by rw[j9,jg,T6 (by lia)];exact lH p
 have l2:(ls u).length-1+((ls d).length-1)<(ls x).length:=by refine cV λh=>?_;rw[jj h]at t2;exact nz t2.symm
 have e2:(ls x).length-1=(ls u).length-1+((ls d).length-1):=by lia
 show jk (ls u)=1;rw[<- t2,<- e2];exact mx
structure w6 (q:Pl p):Prop where
 mo:Mo q
 deg:1<(ls q).length
 no:∀a b:Pl p,Mo a->Mo b->q=a*b->a=1\/b=1
theorem w6.or (hp:jG p)(h:w6 q)(y:Pl p)(hl:(ls y).length<=200):nG q y\/∃u,y=u*q:=by
 obtain⟨d,md,⟨s,t,e⟩,⟨u,e1⟩,⟨v,e2⟩⟩:=aag hp y h.mo hl;rcases h.no u d (Mo.ZC hp.1 h.mo md e1) md e1 with z|z
 ·refine .inr ⟨v,?_⟩;rw[z,one_mul]at e1;rw[e1];exact e2
 ·refine .inl ⟨s,t,?_⟩;rw[<- e,z]
theorem w6.cop (hp:jG p){q r:Pl p}(h:w6 q)(k:w6 r)(hl:(ls r).length<=200)(ne:q≠r):nG q r:=by
 rcases h.or hp r hl with c|⟨u,e⟩
 ·exact c
 ·rcases k.no u q (Mo.ZC hp.1 k.mo h.mo e) h.mo e with z|z
  ·rw[z,one_mul]at e;exact absurd e.symm ne
  ·have:=h.deg;rw[z,uh hp.1]at this;exact absurd this (by decide)
theorem Wv (hp:jG p):∀(n:Nat) (x:Pl p),Mo x->(ls x).length<=n->∃l:List (Pl p),(∀q∈l,w6 q/\(ls q).length<=(ls x).length)/\x=l.foldr (λq y=>q*y) 1:=by
 intro n
 induction n with
 |zero=>exact λx mx h=>absurd mx.pos (by lia)
 |succ n ih=>
  intro x mx h;by_cases c:(ls x).length<=1
  ·exact⟨[],(λq hq=>by cases hq),mx.Ei hp.1 c⟩
  by_cases I:∀a b:Pl p,Mo a->Mo b->x=a*b->a=1\/b=1
  ·refine⟨[x],λq hq=>?_,?_⟩
   ·rw[bA.mp hq];exact⟨⟨mx,by lia,I⟩,ao _⟩
   ·show x=x*1;rw[mul_comm,one_mul]
  ·obtain⟨a,ha⟩:=iq.mp I;obtain⟨b,hb⟩:=iq.mp ha;obtain⟨ma,hb⟩:=gG.mp hb;obtain⟨mb,hb⟩:=gG.mp hb;obtain⟨e,hb⟩:=gG.mp hb;have a1:¬(ls a).length<=1:=λz=>hb (.inl (ma.Ei hp.1 z));have b1:¬(ls b).length<=1:=λz=>hb (.inr (mb.Ei hp.1 z));have ll:=Mo.len hp.1 ma mb;rw[<- e]at ll;obtain⟨l,hl,el⟩:=ih a ma (by lia);obtain⟨k,hk,ek⟩:=ih b mb (by lia);refine⟨l++k,λq hq=>?_,?_⟩
   ·rcases c8.mp hq with hq|hq
    ·exact⟨(hl q hq).1,by have:=(hl q hq).2;lia⟩
    ·exact⟨(hk q hq).1,by have:=(hk q hq).2;lia⟩
   ·rw[e,ek,el];clear hl el
    induction l with
    |nil=>exact one_mul _
    |cons q l ih=>show q*_*_=q*_;rw[mul_assoc,ih];rfl
def put [DecidableEq (Pl p)](q:Pl p):List (Pl p×Nat)->List (Pl p×Nat)
 |[]=>[(q,1)]
 |r::L=>if r.1=q then(r.1,r.2+1)::L else r::put q L
theorem SQ [DecidableEq (Pl p)](q:Pl p):∀L:List (Pl p×Nat),Pr (put q L) id=q*Pr L id
 |[]=>by show q^1*1=q*1;have e:q^1=q:=one_mul q;rw[e]
 |r::L=>by
  unfold put;by_cases h:r.1=q
  ·rw[af h,jN,jN];show r.1^(r.2+1)*_=q*(r.1^r.2*_);have e:r.1^(r.2+1)=r.1^r.2*r.1:=rfl;rw[e,h];generalize Pr L id=y;generalize q^r.2=z;grind
  ·rw[ae h,jN,jN,SQ q L];generalize Pr L id=y;generalize r.1^id r.2=z;grind
theorem FN [DecidableEq (Pl p)]:∀{L:List (Pl p×Nat)} {r:Pl p×Nat},r∈put q L->(r.1=q\/∃s∈L,s.1=r.1)/\(r.2=0->∃s∈L,s.2=0)
 |[],r,h=>by rw[bA.mp h];exact⟨.inl rfl,λz=>by cases z⟩
 |s::L,r,h=>by
  unfold put at h;by_cases c:s.1=q
  ·rw[af c]at h;rcases aF.mp h with e|h
   ·rw[e];exact⟨.inl c,λz=>by cases z⟩
   ·exact⟨.inr ⟨r,ad _ h,rfl⟩,λz=>⟨r,ad _ h,z⟩⟩
  ·rw[ae c]at h;rcases aF.mp h with e|h
   ·rw[e];exact⟨.inr ⟨s,ah ..,rfl⟩,λz=>⟨s,ah ..,z⟩⟩
   ·obtain⟨h1,h2⟩:=FN h;refine⟨?_,λz=>?_⟩
    ·rcases h1 with h1|⟨t,ht,e⟩
     ·exact .inl h1
     ·exact .inr ⟨t,ad _ ht,e⟩
    ·obtain⟨t,ht,e⟩:=h2 z;exact⟨t,ad _ ht,e⟩
theorem put_nodup [DecidableEq (Pl p)]:∀{L:List (Pl p×Nat)},(L.Pairwise λa b=>a.1≠b.1)->(put q L).Pairwise λa b=>a.1≠b.1
 |[],_=>List.pairwise_singleton ..
 |s::L,h=>by
  obtain⟨h1,h2⟩:=cG.mp h;unfold put;by_cases c:s.1=q
  ·rw[af c];exact cG.mpr ⟨h1,h2⟩
  ·rw[ae c];refine cG.mpr ⟨λr hr=>?_,put_nodup h2⟩;rcases (FN hr).1 with e|⟨t,ht,e⟩
   ·rw[e];exact c
   ·rw[<- e];exact h1 t ht
theorem MP (hp:jG p)(mx:Mo x):∃L:List (Pl p×Nat),(∀q∈L,w6 q.1/\(ls q.1).length<=(ls x).length/\q.2≠0)/\(L.Pairwise λa b=>a.1≠b.1)/\x=Pr L id:=by
 obtain⟨l,hl,e⟩:=Wv hp _ x mx (ao _);have dd:DecidableEq (Pl p):=λa b=>Classical.propDecidable _;have key:∀(N:Nat) (l:List (Pl p)),(∀q∈l,w6 q/\(ls q).length<=N)->∃L:List (Pl p×Nat),(∀q∈L,w6 q.1/\(ls q.1).length<=N/\q.2≠0)/\(L.Pairwise λa b=>a.1≠b.1)/\l.foldr (λq y=>q*y) 1=Pr L id:=by
  intro N l
  induction l with
  |nil=>exact λ_=>⟨[],(λq hq=>by cases hq),List.Pairwise.nil,rfl⟩
  |cons q l ih=>
   intro h;obtain⟨L,h1,h2,h3⟩:=ih λr hr=>h r (ad _ hr);have hq:=h q (ah ..);refine⟨put q L,λr hr=>?_,put_nodup h2,?_⟩
   ·obtain⟨k1,k2⟩:=FN hr;have nz:r.2≠0:=λz=>by obtain⟨s,hs,e⟩:=k2 z;exact(h1 s hs).2.2 e
    rcases k1 with k1|⟨s,hs,k1⟩
    ·rw[k1];exact⟨hq.1,hq.2,nz⟩
    ·rw[<- k1];exact⟨(h1 s hs).1,(h1 s hs).2.1,nz⟩
   ·rw[SQ,<- h3];rfl
 obtain⟨L,h1,h2,h3⟩:=key _ l hl;exact⟨L,h1,h2,e.trans h3⟩
theorem Sw {x:Pl p}(hx:0<(ls x).length):(ls (dv x)).length<(ls x).length:=by
 have e:ls (dv x)=Tz p (dl (ls x)):=by rw[<- pY,<- Ao,jF]
 rw[e];have:(Tz p (dl (ls x))).length<=(ls x).length-1:=mR (jX p _) λn hn=>by rw[j9,sX,jj (by lia),aU];exact lH p
 lia
theorem Q7 (hp:jG p){y:Pl p}(z:dv y=0)(n:Nat)(hn:¬p ∣ (n:Int)):(ls y).getD n 0=0:=by
 have e2:mk p (dl (ls y))=mk p [0]:=by rw[<- Ao,jF];exact z
 cases n with
 |zero=>exact absurd (aV p) hn
 |succ n=>
  have:=lz.mp e2 n;rw[Cj,aS,sX]at this;rcases U3 hp this with k|k
  ·exact absurd k hn
  ·exact sI ((jL y).red _) (lH p) (by rw[aS];exact k)
theorem Zo (hp:jG p)(z:dv q=0):∃x:Pl p,q=x^p.toNat/\∀j,(ls x).getD j 0=(ls q).getD (p.toNat*j) 0:=by
 have p2:2<=p:=hp.1;obtain⟨m,hm⟩:∃m,p.toNat=m+1:=⟨p.toNat-1,by lia⟩;have xg:∀j,(ls (mk p ((List.range (ls q).length).map λi=>(ls q).getD (p.toNat*i) 0))).getD j 0=(ls q).getD (p.toNat*j) 0:=λj=>by
  rw[pY,j9];by_cases c:j<(ls q).length
  ·rw[jx (by rw[aa,aq];exact c),bv,bq];exact(jL q).red _
  ·rw[jj (by rw[aa,aq];lia),jj (xs:=ls q) (aH (by lia) (Nat.le_mul_of_pos_left j (by lia)))];exact lH p
 generalize mk p ((List.range (ls q).length).map λi=>(ls q).getD (p.toNat*i) 0)=x at xg;refine⟨x,?_,xg⟩;have zx:dv (x^p.toNat)=0:=by rw[hm,Ej,Lf (by rw[<- hm];have e:((p.toNat:Nat):Int)=p:=bJ (by lia);rw[e];exact fj p)];grind
 refine Mo.inj (nH (jL _).form (jL _).form λn=>?_);by_cases c:p ∣ (n:Int)
 ·obtain⟨k,hk⟩:=c;have k0:0<=k:=by refine Int.not_lt.mp λh=>?_;have:=Int.mul_neg_of_pos_of_neg (show 0<p by lia) h;lia
  have en:n=p.toNat*k.toNat:=by
   have e1:((p.toNat:Nat):Int)=p:=bJ (by lia);have e2:((k.toNat:Nat):Int)=k:=bJ k0;have:((p.toNat*k.toNat:Nat):Int)=p*k:=by rw[eX,e1,e2]
   lia
  rw[en,KJ hp,xg]
 ·rw[Q7 hp z n c,Q7 hp zx n c]
theorem K7 (hp:jG p){q:Pl p}(h:w6 q)(hl:(ls q).length<=200):nG q (dv q):=by
 have p2:2<=p:=hp.1;have sh:=Sw h.mo.pos;rcases h.or hp (dv q) (by lia) with c|⟨u,e⟩
 ·exact c
 have z:dv q=0:=by
  have r:=rH (p:=p) (d:=ls q) (r:=ls (dv q)) (s:=[]) (λx hx=>by rw[show jk (ls q)=1 from h.mo,bO]at hx;exact hx) ⟨(jL _).form,(jL _).red,sh⟩ ⟨oU,λn=>by show pl p 0=0;exact lH p,h.mo.pos⟩ ⟨ls u,λn=>by
   have e2:mk p (ls (dv q))=mk p (ji (ls u) (ls q)):=by rw[jF,<- kj,jF,jF];exact e
   have:=lz.mp e2 n;rw[jg]at this;show p ∣ (ls (dv q)).getD n 0-0-cm (ls u) (ls q) n;rw[aS];exact this⟩
  rw[<- jF (dv q),r,xX]
 obtain⟨x,ex,xg⟩:=Zo hp z;have dg:=h.deg;have q1:(ls q).getD ((ls q).length-1) 0=1:=h.mo;have pd:p ∣ (((ls q).length-1:Nat):Int):=by refine cQ λc=>?_;rw[Q7 hp z _ c]at q1;exact absurd q1 (by decide)
 obtain⟨k,hk⟩:=pd;have k0:0<k:=by refine Int.not_le.mp λh=>?_;have:=b7 (show 0<=p by lia) h;lia
 have e1:((p.toNat:Nat):Int)=p:=bJ (by lia);have e2:((k.toNat:Nat):Int)=k:=bJ (by lia);have en:(ls q).length-1=p.toNat*k.toNat:=by
  have:((p.toNat*k.toNat:Nat):Int)=p*k:=by rw[eX,e1,e2]
  lia
 have x1:(ls x).getD k.toNat 0=1:=by rw[xg,<- en];exact q1
 have xl:(ls x).length<=k.toNat+1:=mR (jL x).form λn hn=>by rw[xg];refine jj ?_;have:p.toNat*(k.toNat+1)<=p.toNat*n:=fW _ hn;rw[i5]at this;lia
 have xl2:k.toNat<(ls x).length:=cV λc=>by rw[jj c]at x1;exact absurd x1 (by decide)
 have le:(ls x).length-1=k.toNat:=by lia
 have mx:Mo x:=by show(ls x).getD ((ls x).length-1) 0=1;rw[le];exact x1
 obtain⟨m,hm⟩:∃m,p.toNat=m+1+1:=⟨p.toNat-2,by lia⟩;have l2:=mx.sV p2 (m+1);rw[le]at l2;have e3:q=x^(m+1)*x:=by rw[ex,hm];rfl
 rcases h.no _ _ (mx.pow p2 _) mx e3 with c|c
 ·rw[c,uh p2]at l2;have:1=(m+1)*k.toNat+1:=l2;have:0<(m+1)*k.toNat:=Nat.mul_pos (by lia) (by lia);lia
 ·rw[c,uh p2]at le;have:1-1=k.toNat:=le;lia
end Pl
namespace Pl
variable {p:Int}
structure vU (L:List (Pl p×Nat)):Prop where
 ap:Apart L
 sep:∀q∈L,nG q.1 (dv q.1)
 mo:∀q∈L,Mo q.1
 dg:∀q∈L,1<(ls q.1).length
def qt (p:Int)(f d:List Int):List Int:=((Ym p f d).getD ([],[])).1
theorem QK (hp:jG p){u d:Pl p}(mu:Mo u)(md:Mo d):Ym p (ls (u*d)) (ls d)=some (ls u,[]):=by
 have g1:Int.gcd (jk (ls d)) p=1:=by rw[show jk (ls d)=1 from md];exact gV ..
 obtain⟨h1,h2⟩:=Kw (z:=p) (ov:=QG p) (f:=ls (u*d)) (d:=ls d) md.pos (λa c ha hc=>hov hp.1 g1 a c ha hc) ((ls (u*d)).length+1) _ _ (yf.start (jL (u*d)).form (jL (u*d)).red) (dh _);unfold Ym;cases o:Pb p (QG p) (ls d) ((ls (u*d)).length+1) (List.replicate ((ls (u*d)).length+1-(ls d).length) 0) (ls (u*d)) with
 |none=>obtain⟨_,_,_,_,z⟩:=h2 o;cases z
 |some x=>obtain⟨q,r⟩:=x;obtain⟨I,hl⟩:=h1 q r o;obtain⟨e1,e2⟩:=ZC (u:=u) hp.1 I hl mu (by rw[jF];exact md) (jL _) (jL _) (by rw[jF,jF]);rw[e1,e2]
theorem R9 (hp:jG p){u d:Pl p}(mu:Mo u)(md:Mo d):qt p (ls (u*d)) (ls d)=ls u:=by unfold qt;rw[QK hp mu md];rfl
theorem Io {a b d:Pl p}(h:Gd a b d)(m:Mo d):gc p (ls a) (ls b)=ls d:=Hq (aaH (by rw[jF,jF];exact h) m)
def Ew (p:Int)(f:List Int):Nat->List Int×List Int
 |0=>(gc p f (Tz p (dl f)),qt p f (gc p f (Tz p (dl f))))
 |e+1=>(qt p (Ew p f e).1 (gc p (Ew p f e).2 (Ew p f e).1),gc p (Ew p f e).2 (Ew p f e).1)
def Gs (p:Int)(f:List Int)(e:Nat):List Int:=qt p (Ew p f e).2 (gc p (Ew p f e).2 (Ew p f e).1)
theorem Z6 (x:Pl p):ls (dv x)=Tz p (dl (ls x)):=by rw[<- pY,<- Ao,jF]
theorem vU.pr {L:List (Pl p×Nat)}(F:vU L)(p2:2<=p)(g:Nat->Nat):Mo (Pr L g):=Mo.pr p2 F.mo
theorem Br (hp:jG p)(hinv:∀x:Int,¬p ∣ x->∃t,p ∣ t*x-1){L:List (Pl p×Nat)}(F:vU L)(g:Nat->Nat):∀e,Ew p (ls (Pr L g)) e=(ls (Pr L (tK p g (e+1))),ls (Pr L (qN p g (e+1))))
 |0=>by
  have p2:2<=p:=hp.1;have e1:gc p (ls (Pr L g)) (Tz p (dl (ls (Pr L g))))=ls (Pr L (tK p g 1)):=by rw[<- Z6];exact Io (aaB hinv F.ap F.sep g) (F.pr p2 _)
  have e2:qt p (ls (Pr L g)) (ls (Pr L (tK p g 1)))=ls (Pr L (qN p g 1)):=by
   conv=>lhs;rw[Xx L g]
   exact R9 hp (F.pr p2 _) (F.pr p2 _)
  show(gc p (ls (Pr L g)) (Tz p (dl (ls (Pr L g)))),qt p (ls (Pr L g)) (gc p (ls (Pr L g)) (Tz p (dl (ls (Pr L g))))))=_;rw[e1,e2]
 |e+1=>by
  have p2:2<=p:=hp.1;have ih:=Br hp hinv F g e;have e1:gc p (ls (Pr L (qN p g (e+1)))) (ls (Pr L (tK p g (e+1))))=ls (Pr L (qN p g (e+1+1))):=Io (Uc F.ap g (e+1)) (F.pr p2 _);have e2:qt p (ls (Pr L (tK p g (e+1)))) (ls (Pr L (qN p g (e+1+1))))=ls (Pr L (tK p g (e+1+1))):=by
   conv=>lhs;rw[Xp L g (e+1)]
   exact R9 hp (F.pr p2 _) (F.pr p2 _)
  show(qt p (Ew p (ls (Pr L g)) e).1 (gc p (Ew p (ls (Pr L g)) e).2 (Ew p (ls (Pr L g)) e).1),gc p (Ew p (ls (Pr L g)) e).2 (Ew p (ls (Pr L g)) e).1)=_;rw[ih];rw[e1,e2]
theorem Dz (hp:jG p)(hinv:∀x:Int,¬p ∣ x->∃t,p ∣ t*x-1){L:List (Pl p×Nat)}(F:vU L)(g:Nat->Nat)(e:Nat):Gs p (ls (Pr L g)) e=ls (Pr L (WX p g (e+1))):=by
 have p2:2<=p:=hp.1;unfold Gs;rw[Br hp hinv F g e];rw[Io (Uc F.ap g (e+1)) (F.pr p2 _)]
 conv=>lhs;rw[Xe L g (e+1)]
 exact R9 hp (F.pr p2 _) (F.pr p2 _)
theorem Ro (p2:2<=p){L:List (Pl p×Nat)}(F:vU L){g:Nat->Nat}{e:Nat}(h:(ls (Pr L (qN p g e))).length<=1):(∀q∈L,¬p ∣ (g q.2:Int)->g q.2<e)/\Pr L (tK p g e)=Pr L (λm=>if p ∣ (g m:Int) then g m / p.toNat else 0)^p.toNat:=by
 have k:=mt (oK p2 (g:=qN p g e) F.mo F.dg).mpr (by lia);have lt:∀q∈L,¬p ∣ (g q.2:Int)->g q.2<e:=λq hq hn=>cV λc=>k ⟨q,hq,by
  unfold qN;rw[ae hn,af c];decide⟩
 refine⟨lt,?_⟩;rw[<- Rq];refine mD λq hq=>?_;unfold tK;by_cases c:p ∣ (g q.2:Int)
 ·rw[af c,af c];have e1:((p.toNat:Nat):Int)=p:=bJ (by lia);exact(Nat.div_mul_cancel (eY.mp (by rw[e1];exact c))).symm
 ·rw[ae c,ae c];have:=lt q hq c;lia
end Pl
namespace Pl
variable {p:Int}
theorem xV (p2:2<=p):∀{L:List (Pl p×Nat)},(∀q∈L,Mo q.1)->(∀q∈L,1<(ls q.1).length)->∀q∈L,g q.2<(ls (Pr L g)).length
 |[],_,_=>λq h=>by cases h
 |q::L,h,d=>λr hr=>by
  have h1:=h q (ah ..);have d1:=d q (ah ..);have m2:Mo (Pr L g):=Mo.pr p2 λr hr=>h r (ad _ hr);have hl:=Mo.len p2 (h1.pow p2 (g q.2)) m2;have mp:=m2.pos;rw[Mo.sV p2 h1,<- jN]at hl;rcases aF.mp hr with e|hr
  ·rw[e];have:g q.2*1<=g q.2*((ls q.1).length-1):=fW _ (by lia);lia
  ·have:=xV p2 (g:=g) (λr hr=>h r (ad _ hr)) (λr hr=>d r (ad _ hr)) r hr;lia
def Kq (k:Nat)(f:List Int):List Int:=(List.range ((f.length+k-1) / k)).map λi=>f.getD (k*i) 0
theorem T5 (hp:jG p){x:Pl p}(m:Mo x):Kq p.toNat (ls (x^p.toNat))=ls x:=by
 have p2:2<=p:=hp.1;obtain⟨h1,h2⟩:=O4 hp m;have l:=m.pos;unfold Kq;have e:((ls (x^p.toNat)).length+p.toNat-1) / p.toNat=(ls x).length:=by
  rw[h2];have e1:p.toNat*((ls x).length-1)+1+p.toNat-1=(ls x).length*p.toNat:=by obtain⟨n,hn⟩:∃n,(ls x).length=n+1:=⟨(ls x).length-1,by lia⟩;rw[hn,f8,cZ];show n*p.toNat+1+p.toNat-1=_;lia
  rw[e1];exact gr _ (by lia)
 rw[e];exact h1
def gk (p:Int):Nat->Nat->Nat
 |0,m=>m
 |k+1,m=>if p ∣ (gk p k m:Int) then gk p k m / p.toNat else 0
def lf (p:Int)(f:List Int):Nat->List Int
 |0=>f
 |k+1=>Kq p.toNat (Ew p (lf p f k) (lf p f k).length).1
theorem Rk (p2:2<=p){L:List (Pl p×Nat)}(F:vU L)(g:Nat->Nat){e:Nat}(h:(ls (Pr L g)).length<=e):(ls (Pr L (qN p g e))).length<=1:=by
 refine dB λc=>?_;obtain⟨q,hq,k⟩:=(oK p2 F.mo F.dg).mp c;have b:=xV p2 (g:=g) F.mo F.dg q hq;unfold qN at k;by_cases c1:p ∣ (g q.2:Int)
 ·rw[af c1]at k;exact k rfl
 ·rw[ae c1,ae (by lia)]at k;exact k rfl
theorem vh (hp:jG p)(hinv:∀x:Int,¬p ∣ x->∃t,p ∣ t*x-1){L:List (Pl p×Nat)}(F:vU L):∀k,lf p (ls (Pr L id)) k=ls (Pr L (gk p k))
 |0=>rfl
 |k+1=>by have ih:=vh hp hinv F k;show Kq p.toNat (Ew p (lf p (ls (Pr L id)) k) (lf p (ls (Pr L id)) k).length).1=_;rw[ih,Br hp hinv F];rw[(Ro hp.1 F (Rk hp.1 F (gk p k) (iD _))).2];exact T5 hp (F.pr hp.1 _)
theorem zU (p2:2<=p):∀k m,gk p k m=if p.toNat^k ∣ m then m / p.toNat^k else 0
 |0,m=>by rw[Nat.pow_zero,af (Nat.one_dvd m),Nat.div_one];rfl
 |k+1,m=>by
  have e1:((p.toNat:Nat):Int)=p:=bJ (by lia);have dv':∀n:Nat,p ∣ (n:Int) ↔ p.toNat ∣ n:=λn=>by rw[<- eY,e1]
  show(if p ∣ (gk p k m:Int) then gk p k m / p.toNat else 0)=_;rw[zU p2 k m];have pp:0<p.toNat^k:=dw (by lia);by_cases c:p.toNat^k ∣ m
  ·rw[af c];by_cases c2:p.toNat^(k+1) ∣ m
   ·have c3:p.toNat ∣ m / p.toNat^k:=by rw[eS]at c2;exact(gP c).mpr c2
    rw[af ((dv' _).mpr c3),af c2,Nat.div_div_eq_div_mul,<- eS]
   ·have c3:¬p.toNat ∣ m / p.toNat^k:=λh=>c2 (by
     rw[eS];exact(gP c).mp h)
    rw[ae (λh=>c3 ((dv' _).mp h)),ae c2]
  ·have c2:¬p.toNat^(k+1) ∣ m:=λh=>c (Nat.dvd_trans ⟨p.toNat,eS ..⟩ h);rw[ae c,ae c2];by_cases c3:p ∣ ((0:Nat):Int)
   ·rw[af c3,i6]
   ·rw[ae c3]
def ind (c m:Nat):Nat:=if m=c then 1 else 0
theorem Yb (p2:2<=p){k e:Nat}(he:¬p ∣ (e:Int))(m:Nat):WX p (gk p k) e m=ind (e*p.toNat^k) m:=by
 have pp:0<p.toNat^k:=dw (by lia);have e0:=Xw he;unfold WX ind;rw[zU p2 k m];by_cases c:p.toNat^k ∣ m
 ·rw[af c];have iff:m / p.toNat^k=e ↔ m=e*p.toNat^k:=Nat.div_eq_iff_eq_mul_left pp c;by_cases c2:m / p.toNat^k=e
  ·rw[c2,ae he,af rfl,af (iff.mp c2)]
  ·rw[ae (λh=>c2 (iff.mpr h))];by_cases c3:p ∣ ((m / p.toNat^k:Nat):Int)
   ·rw[af c3]
   ·rw[ae c3,ae c2]
 ·rw[ae c,af (show p ∣ ((0:Nat):Int) from aV p),ae λh=>c ⟨e,by rw[h,cZ]⟩]
theorem UL {k e:Nat}(he:p ∣ (e:Int))(g:Nat->Nat)(m:Nat):WX p g e m=0:=by
 unfold WX;by_cases c:p ∣ (g m:Int)
 ·rw[af c]
 ·rw[ae c];by_cases c2:g m=e
  ·rw[c2]at c;exact absurd he c
  ·rw[ae c2]
theorem R4 (hp:jG p)(hinv:∀x:Int,¬p ∣ x->∃t,p ∣ t*x-1){L:List (Pl p×Nat)}(F:vU L){k e:Nat}(he:¬p ∣ ((e+1:Nat):Int)):Gs p (lf p (ls (Pr L id)) k) e=ls (Pr L (ind ((e+1)*p.toNat^k))):=by rw[vh hp hinv F,Dz hp hinv F];exact congrArg ls (mD λq _=>Yb hp.1 he q.2)
theorem Wi (hp:jG p)(hinv:∀x:Int,¬p ∣ x->∃t,p ∣ t*x-1){L:List (Pl p×Nat)}(F:vU L){k e:Nat}(he:p ∣ ((e+1:Nat):Int)):Gs p (lf p (ls (Pr L id)) k) e=[1]:=by
 rw[vh hp hinv F,Dz hp hinv F,mD (h:=λ_=>0) λq _=>UL (k:=k) he _ q.2];have z:∀L:List (Pl p×Nat),Pr L (λ_=>0)=1:=λL=>by
  induction L with
  |nil=>rfl
  |cons q L ih=>rw[jN,ih];exact one_mul 1
 rw[z,uh hp.1]
end Pl
namespace Pl
variable {p:Int}
theorem Fw (hp:jG p){x:Pl p}(m:Mo x)(l:(ls x).length<=200):Gu p (ls x):=⟨hp,l,by rw[rR];exact m.ne,by rw[rR,show jk (ls x)=1 from m];exact gV ..⟩
theorem Yx (hp:jG p){x u d:Pl p}(e:x=u*d)(mu:Mo u)(md:Mo d):uV p (Tz p (ls x)) (Tz p (ls d))=.tup [.ints (ls u),.ints []]:=by unfold uV;rw[rR,rR,e,QK hp mu md]
def prs (p:Int)(f:List Int)(N:Nat):List PV:=(List.range N).filterMap λe=>if 1<(Gs p f e).length then some (.tup [.ints (Gs p f e),.int ((e:Int)+1)]) else none
def Di (p:Int)(f:List Int):PV:=.tup [.lst (prs p f f.length),.ints (Ew p f f.length).1]
theorem Ag (p:Int)(f:Li)(N:Nat):prs p f (N+1)=prs p f N++if 1<(Gs p f N).length then[.tup [.ints (Gs p f N),.int ((N:Int)+1)]] else[]:=by
 unfold prs;rw[ia,List.filterMap_append];congr 1;rw[bB,List.filterMap_nil];by_cases c:1<(Gs p f N).length
 ·rw[af c,af c]
 ·rw[ae c,ae c]
theorem HR (p2:2<=p){L:List (Pl p×Nat)}(F:vU L){g:Nat->Nat}{e n:Nat}(h:(ls (Pr L (qN p g e))).length<=1)(hn:e<=n):¬1<(ls (Pr L (WX p g n))).length/\Pr L (tK p g n)=Pr L (tK p g e):=by
 have lt:=(Ro p2 F h).1;refine⟨λc=>?_,mD λq hq=>?_⟩
 ·obtain⟨q,hq,k⟩:=(oK p2 F.mo F.dg).mp c;unfold WX at k;by_cases c1:p ∣ (g q.2:Int)
  ·rw[af c1]at k;exact k rfl
  ·have:=lt q hq c1;rw[ae c1,ae (by lia)]at k;exact k rfl
 ·unfold tK;by_cases c1:p ∣ (g q.2:Int)
  ·rw[af c1,af c1]
  ·have:=lt q hq c1;rw[ae c1,ae c1];lia
theorem GF (hp:jG p){L:List (Pl p×Nat)}(F:vU L){g:Nat->Nat}{e:Nat}(h:(ls (Pr L (qN p g (e+1)))).length<=1):∀n,prs p (ls (Pr L g)) (e+n)=prs p (ls (Pr L g)) e
 |0=>rfl
 |n+1=>by rw[<- Nat.add_assoc,Ag,GF hp F h n,Dz hp (λx hx=>lJ hp hx) F,ae (HR hp.1 F h (by lia)).1,a8]
theorem V8 (hp:jG p){L:List (Pl p×Nat)}(F:vU L){g:Nat->Nat}{e:Nat}(h:(ls (Pr L (qN p g (e+1)))).length<=1)(he:e<=(ls (Pr L g)).length):Di p (ls (Pr L g))=.tup [.lst (prs p (ls (Pr L g)) e),.ints (ls (Pr L (tK p g (e+1))))]:=by unfold Di;obtain⟨n,hn⟩:∃n,(ls (Pr L g)).length=e+n:=⟨(ls (Pr L g)).length-e,by lia⟩;rw[hn,GF hp F h,Br hp (λx hx=>lJ hp hx) F];rw[(HR hp.1 F h (show e+1<=e+n+1 by lia)).2]
def scP (c:Int):PV->PV
 | .tup [a,.int e]=>.tup [a,.int (e*c)]
 |q=>q
def Qf (p:Int)(f:List Int)(k:Nat):List PV:=(prs p (lf p f k) (lf p f k).length).map (scP (p^k))
def oY (p:Int)(f:List Int):Nat->List PV
 |0=>[]
 |k+1=>oY p f k++Qf p f k
def TT (L:List (Pl p×Nat))(c:Nat):PV:=.tup [.ints (ls (Pr L (ind c))),.int (c:Int)]
def Hb (L:List (Pl p×Nat)):List PV:=((List.range 31).filter λc=>decide (1<(ls (Pr L (ind c))).length)).map (TT L)
theorem DP (p2:2<=p)(k:Nat):((p.toNat^k:Nat):Int)=p^k:=by rw[Int.natCast_pow,bJ (by lia)]
theorem Fx (hp:jG p){L:List (Pl p×Nat)}(F:vU L){k:Nat}:q∈Qf p (ls (Pr L id)) k ↔ ∃e,e<(lf p (ls (Pr L id)) k).length/\¬p ∣ ((e+1:Nat):Int)/\1<(ls (Pr L (ind ((e+1)*p.toNat^k)))).length/\q=TT L ((e+1)*p.toNat^k):=by
 have hinv:=λx hx=>lJ hp (x:=x) hx;have p2:2<=p:=hp.1;have cast:∀e:Nat,(((e+1)*p.toNat^k:Nat):Int)=((e:Int)+1)*p^k:=λe=>by rw[eX,DP p2];rfl
 unfold Qf prs;rw[aP];constructor
 ·rintro⟨r,hr,rfl⟩;obtain⟨e,he,hq⟩:=cC.mp hr;rw[aY]at he;by_cases c:1<(Gs p (lf p (ls (Pr L id)) k) e).length
  ·rw[af c]at hq;have nd:¬p ∣ ((e+1:Nat):Int):=λz=>by rw[Wi hp hinv F z]at c;exact absurd c (by decide)
   rw[R4 hp hinv F nd]at c hq;refine⟨e,he,nd,c,?_⟩;cases hq;unfold TT;rw[cast];rfl
  ·rw[ae c]at hq;cases hq
 ·rintro⟨e,he,nd,c,rfl⟩;refine⟨.tup [.ints (Gs p (lf p (ls (Pr L id)) k) e),.int ((e:Int)+1)],cC.mpr ⟨e,aY.mpr he,?_⟩,?_⟩
  ·rw[R4 hp hinv F nd,af c]
  ·rw[R4 hp hinv F nd];unfold TT;rw[cast];rfl
theorem zu (hp:jG p){L:List (Pl p×Nat)}(F:vU L):∀{K:Nat},q∈oY p (ls (Pr L id)) K ↔ ∃k e,k<K/\e<(lf p (ls (Pr L id)) k).length/\¬p ∣ ((e+1:Nat):Int)/\1<(ls (Pr L (ind ((e+1)*p.toNat^k)))).length/\q=TT L ((e+1)*p.toNat^k)
 |0=>by
  constructor
  ·intro h;cases h
  ·rintro⟨k,e,h,_⟩;lia
 |K+1=>by
  show q∈oY p (ls (Pr L id)) K++Qf p (ls (Pr L id)) K ↔ _;rw[c8,zu hp F (K:=K),Fx hp F];constructor
  ·rintro (⟨k,e,h,r⟩|⟨e,r⟩)
   ·exact⟨k,e,by lia,r⟩
   ·exact⟨K,e,by lia,r⟩
  ·rintro⟨k,e,h,r⟩;by_cases c:k=K
   ·subst c;exact .inr ⟨e,r⟩
   ·exact .inl ⟨k,e,by lia,r⟩
theorem Fq (L:List (Pl p×Nat))(c:Nat):qy (TT L c)=(c:Int):=rfl
theorem X8 (hp:jG p){L:List (Pl p×Nat)}(F:vU L)(k:Nat):((Qf p (ls (Pr L id)) k).map qy).Nodup:=by
 have p2:2<=p:=hp.1;unfold Qf prs;rw[br,List.Nodup,cA,List.pairwise_filterMap];refine gY.imp λ{a b} hab x hx y hy=>?_;have shape:∀(e:Nat) (z:PV),(if 1<(Gs p (lf p (ls (Pr L id)) k) e).length then some (PV.tup [.ints (Gs p (lf p (ls (Pr L id)) k) e),.int ((e:Int)+1)]) else none)=some z->(qy ∘ scP (p^k)) z=((e:Int)+1)*p^k:=λe z h=>by
  split at h
  ·cases h;rfl
  ·cases h
 rw[shape a x hx,shape b y hy];have pp:p^k≠0:=Int.pow_ne_zero (by lia);intro z;have:=Int.eq_of_mul_eq_mul_right pp z;lia
theorem Jl (hp:jG p){L:List (Pl p×Nat)}(F:vU L):∀K,((oY p (ls (Pr L id)) K).map qy).Nodup
 |0=>List.Pairwise.nil
 |K+1=>by
  show((oY p (ls (Pr L id)) K++Qf p (ls (Pr L id)) K).map qy).Nodup;rw[bF,gH];refine⟨Jl hp F K,X8 hp F K,λa ha b hb z=>?_⟩;obtain⟨x,hx,rfl⟩:=aP.mp ha;obtain⟨y,hy,rfl⟩:=aP.mp hb;obtain⟨k,e,hk,_,nd,_,rfl⟩:=(zu hp F).mp hx;obtain⟨e',_,_,_,rfl⟩:=(Fx hp F).mp hy;rw[Fq,Fq]at z;have z:(e+1)*p.toNat^k=(e' + 1)*p.toNat^K:=Int.ofNat.inj z;have p2:2<=p:=hp.1;have pp:0<p.toNat^k:=dw (by lia);obtain⟨m,rfl⟩:∃m,K=k+(m+1):=⟨K-k-1,by lia⟩;have z2:e+1=(e' + 1)*p.toNat^m*p.toNat:=by refine Nat.eq_of_mul_eq_mul_right pp ?_;rw[z,i9,eS];rw[cZ (p.toNat^k),gL (e' + 1),<- gL (e' + 1) (p.toNat^m*p.toNat)]
  refine nd ?_;rw[z2,eX,bJ (by lia)];exact Int.dvd_mul_left ..
theorem Vh:∀(n:Nat) (p2:2<=p),n≠0->∃e k,n=(e+1)*p.toNat^k/\¬p ∣ ((e+1:Nat):Int):=by
 intro n p2
 induction n using Nat.strongRecOn with
 |ind n ih=>
  intro h;by_cases c:p ∣ (n:Int)
  ·have c2:p.toNat ∣ n:=by rw[<- eY,bJ (by lia)];exact c
   obtain⟨m,hm⟩:=c2;have m0:m≠0:=λz=>h (by rw[hm,z,Nat.mul_zero]);have lt:m<n:=by rw[hm];have:2*m<=p.toNat*m:=cX _ (by lia);lia
   obtain⟨e,k,h1,h2⟩:=ih m lt m0;exact⟨e,k+1,by rw[hm,h1,eS,cZ p.toNat,gL],h2⟩
  ·exact⟨n-1,0,by rw[Nat.pow_zero,Nat.mul_one];lia,by rw[Nat.sub_add_cancel (by lia)];exact c⟩
theorem YQ (hp:jG p){L:List (Pl p×Nat)}(F:vU L)(nz:∀q∈L,q.2≠0)(hl:(ls (Pr L id)).length<=31){K:Nat}(hK:(lf p (ls (Pr L id)) K).length<=1):(Hb L).Perm (oY p (ls (Pr L id)) K)/\(Hb L).Pairwise (λa b=>qy a<qy b):=by
 have hinv:=λx hx=>lJ hp (x:=x) hx;have p2:2<=p:=hp.1;have ord:(Hb L).Pairwise (λa b=>qy a<qy b):=by unfold Hb;rw[cA];exact(gY.filter _).imp λ{a b} h=>by rw[Fq,Fq];lia
 refine⟨?_,ord⟩;have n1:(Hb L).Nodup:=ord.imp λ{a b} h z=>by rw[z]at h;lia
 have n2:(oY p (ls (Pr L id)) K).Nodup:=by have:=Jl hp F K;rw[List.Nodup,cA]at this;exact this.imp λ{a b} h z=>h (by rw[z])
 refine(List.perm_ext_iff_of_nodup n1 n2).mpr λq=>?_;rw[zu hp F];unfold Hb;rw[aP];constructor
 ·rintro⟨c,hc,rfl⟩;obtain⟨hr,hd⟩:=aT.mp hc;have hd:=bI hd;obtain⟨r,hr2,hz⟩:=(oK p2 F.mo F.dg).mp hd;have ec:r.2=c:=by
   unfold ind at hz;by_cases z:r.2=c
   ·exact z
   ·rw[ae z]at hz;exact absurd rfl hz
  have c0:c≠0:=by rw[<- ec];exact nz r hr2
  obtain⟨e,k,h1,h2⟩:=Vh c p2 c0;have pp:0<p.toNat^k:=dw (by lia);have gkc:gk p k r.2=e+1:=by rw[zU p2,ec,h1,af ⟨e+1,cZ ..⟩,gr _ pp]
  have big:=xV p2 (g:=gk p k) F.mo F.dg r hr2;rw[gkc,<- vh hp hinv F]at big;refine⟨k,e,?_,by lia,h2,by rw[<- h1];exact hd,by rw[<- h1]⟩;refine cV λhKk=>?_;rw[vh hp hinv F]at hK;have:=mt (oK p2 (g:=gk p K) F.mo F.dg).mpr (by lia);refine this ⟨r,hr2,?_⟩;have dv':p.toNat^K ∣ r.2:=by rw[ec,h1];exact Nat.dvd_trans (Nat.pow_dvd_pow _ hKk) ⟨e+1,cZ ..⟩
  rw[zU p2,af dv'];have:0<r.2 / p.toNat^K:=Nat.div_pos (Nat.le_of_dvd (by have:=nz r hr2;lia) dv') (dw (by lia));lia
 ·rintro⟨k,e,hk,he,nd,hd,rfl⟩;refine⟨_,aT.mpr ⟨aY.mpr ?_,aK hd⟩,rfl⟩;obtain⟨r,hr2,hz⟩:=(oK p2 F.mo F.dg).mp hd;have ec:r.2=(e+1)*p.toNat^k:=by
   unfold ind at hz;by_cases z:r.2=(e+1)*p.toNat^k
   ·exact z
   ·rw[ae z]at hz;exact absurd rfl hz
  have big:=xV p2 (g:=id) F.mo F.dg r hr2;have big:r.2<(ls (Pr L id)).length:=big;lia
theorem Vt (hp:jG p){L:List (Pl p×Nat)}(F:vU L){k:Nat}(h:(lf p (ls (Pr L id)) k).length<=1):Qf p (ls (Pr L id)) k=[]:=by
 refine List.eq_nil_iff_forall_not_mem.mpr λq hq=>?_;have hinv:=λx hx=>lJ hp (x:=x) hx;obtain⟨e,he,nd,hd,_⟩:=(Fx hp F).mp hq;obtain⟨r,hr2,hz⟩:=(oK hp.1 F.mo F.dg).mp hd;have ec:r.2=(e+1)*p.toNat^k:=by
  unfold ind at hz;by_cases z:r.2=(e+1)*p.toNat^k
  ·exact z
  ·rw[ae z]at hz;exact absurd rfl hz
 have p2:2<=p:=hp.1;rw[vh hp hinv F]at h;have:=mt (oK hp.1 (g:=gk p k) F.mo F.dg).mpr (by lia);refine this ⟨r,hr2,?_⟩;rw[zU hp.1,ec,af ⟨e+1,cZ ..⟩,gr _ (dw (by lia))];lia
theorem Il (hp:jG p){L:List (Pl p×Nat)}(F:vU L){k:Nat}(h:1<(lf p (ls (Pr L id)) k).length):k<(ls (Pr L id)).length:=by
 have hinv:=λx hx=>lJ hp (x:=x) hx;have p2:2<=p:=hp.1;rw[vh hp hinv F]at h;obtain⟨r,hr2,hz⟩:=(oK p2 F.mo F.dg).mp h;have big:r.2<(ls (Pr L id)).length:=xV p2 (g:=id) F.mo F.dg r hr2;rw[zU p2]at hz;by_cases c:p.toNat^k ∣ r.2
 ·by_cases r0:r.2=0
  ·rw[af c,r0,i6]at hz;exact absurd rfl hz
  have h1:=Nat.le_of_dvd (by lia) c;have h2:k<p.toNat^k:=aD Nat.lt_two_pow_self (iO (by lia) k);lia
 ·rw[ae c]at hz;exact absurd rfl hz
theorem Y5 (hp:jG p)(mx:Mo x)(hl:(ls x).length<=100):∃L:List (Pl p×Nat),vU L/\(∀q∈L,q.2≠0)/\x=Pr L id:=by obtain⟨L,h1,h2,h3⟩:=MP hp mx;refine⟨L,⟨?_,λq hq=>K7 hp (h1 q hq).1 (by have:=(h1 q hq).2.1;lia),λq hq=>(h1 q hq).1.mo,λq hq=>(h1 q hq).1.deg⟩,λq hq=>(h1 q hq).2.2,h3⟩;exact gJ (λ{a b} ha hb ne=>(h1 a ha).1.cop hp (h1 b hb).1 (by have:=(h1 b hb).2.1;lia) ne) h2
end Pl
open Pl in
theorem Rb (p:Int)(f:Li):jY (((f.mapIdx λk n=>(k:Int)*n).drop 1).map (pl p))=Tz p (dl f):=by
 unfold Tz;refine Gh λn=>?_;rw[sX];congr 1;have e:((f.mapIdx λk n=>(k:Int)*n).drop 1).getD n 0=(f.mapIdx λk n=>(k:Int)*n).getD (n+1) 0:=by rw[gQ,gQ,dH,g6]
 rw[e];by_cases c:n+1<f.length
 ·rw[jx (by rw[bV];exact c),List.getElem_mapIdx,jx c];congr 1
 ·rw[jj (by rw[bV];lia),jj (by lia),aU]
open Pl in
theorem xq (T:Top K mg cNO cK cR):Ok P w K mg base 6 "seen_by_slope" ["kind","f"] (zc K (pQ cR) (λas=>∃(p:Int) (L:List (Pl p×Nat)) (g:Nat->Nat),as=[.ob 0 p,.ints (ls (Pr L g))]/\jG p/\vU L/\(ls (Pr L g)).length<=100) λas=>match as with
  |[.ob 0 p,.ints f]=>Di p f
  |_=>.non):=by
 refine xf T.yJ jH (λas ⟨a,b,c,h,_⟩=>by rw[h];rfl) (λf cdv A outer s H E hr=>⟨_,(jd (jr (i:=2) jH.nd rfl (Or.inl rfl) (jW (vy (yl T) hr (jc (xv 0) (jc (xl 1) (jc (jW (vy (Qg T) hr (jc (xv 0) (jc (xl 1) jh)))) jh))))))
 (jd (jr (i:=3) jH.nd rfl (Or.inl rfl) (xl_of (jt (xc (n8 T) hr (jc (xv 0) (jc (xl 1) (jc (xl 2) jh)))) je (λ_ _=>rfl))))
 (jd (uw (i:=4) jH.nd rfl (Or.inl rfl) (uc jh))
 (jd (jq (i:=5) jH.nd rfl (Or.inl rfl) je)
 (jd (mY aE (rQ (jK 3 T.jD) je)
 (jd (jr (i:=6) jH.nd rfl (Or.inl rfl) (jW (vy (yl T) hr (jc (xv 0) (jc (xl 3) (jc (xl 2) jh))))))
 (jd (jr (i:=7) jH.nd rfl (Or.inl rfl) (xl_of (jt (xc (n8 T) hr (jc (xv 0) (jc (xl 3) (jc (xl 6) jh)))) je (λ_ _=>rfl))))
 (tW (j7 (rQ (jK 7 T.jD) je)
 (jf (uz 4 (qY (jc (xl 7) (jc (xn 5) jh)))))
 jO)
 (jd (jr (i:=2) jH.nd rfl (Or.inl rfl) (xl_of (jt (xc (n8 T) hr (jc (xv 0) (jc (xl 2) (jc (xl 6) jh)))) je (λ_ _=>rfl))))
 (jd (jr (i:=3) jH.nd rfl (Or.inl rfl) (xl 6))
 (jf (zm (i:=5) jH.nd rfl (Or.inl rfl) je ug))))))))
 (kZ 4 (jf (jo (qY (jc (xv 4) (jc (xl 2) jh))))))))))),λas hp=>?_⟩)
 obtain⟨p,L,g,rfl,hp,F,hl⟩:=hp;have p2:2<=p:=hp.1;have hinv:=λx hx=>lJ hp (x:=x) hx;have st:=Br hp hinv F g;have sg:=Dz hp hinv F g;have fin:=λe=>V8 (e:=e) (g:=g) hp F;have far:=λe=>Rk (e:=e) p2 F g;have mo:=λh:Nat->Nat=>F.pr p2 h;have go:=Xx (p:=p) L g;have gdE:=λe=>Uc F.ap g e;have ly:=λe=>Xe (p:=p) L g e;have dp:=λe=>Xp (p:=p) L g e;have lenD:∀e,(ls (Pr L (tK p g e))).length<=(ls (Pr L g)).length/\(ls (Pr L (qN p g e))).length<=(ls (Pr L g)).length:=by
  have le:∀h:Nat->Nat,(∀q∈L,h q.2<=g q.2)->(ls (Pr L h)).length<=(ls (Pr L g)).length:=λh hh=>by have e:=Aq (L:=L) (g:=g) (h:=h) hh;have:=Mo.len p2 (mo λm=>g m-h m) (mo h);rw[<- e]at this;have:=(mo λm=>g m-h m).pos;lia
  refine λe=>⟨le _ λq _=>?_,le _ λq _=>?_⟩
  ·unfold tK;split<;>lia
  ·unfold qN;split
   ·lia
   ·rename_i c;split
    ·have:g q.2≠0:=λz=>c (by rw[z];exact aV p);lia
    ·lia
 have s0:=st 0;have e1:=(Prod.mk.inj s0).1;generalize hf:ls (Pr L g)=f at *
 have sl:=aH (Ds ((((f.mapIdx λk n=>(k:Int)*n).drop 1).map (pl p)))) (show _<=f.length by rw[aa,bp,bV];lia);refine⟨⟨⟨rfl,rfl,⟨⟨rfl,rfl,tJ⟩,p,f,rfl,by lia⟩,tJ⟩,p,f,jY (((f.mapIdx λk n=>(k:Int)*n).drop 1).map (pl p)),rfl,hp,by lia,by lia⟩,λd ed=>?_⟩;have ed:d=ls (Pr L (tK p g 1)):=by have ed:d=gc p f (jY (((f.mapIdx λk n=>(k:Int)*n).drop 1).map (pl p))):=ed;rw[ed,Rb,e1]
 have l1:=lenD 1;have dvq:∀{x u y:Pl p},x=u*y->Mo u->Mo y->lM (uV p (Tz p (ls x)) (Tz p (ls y))) 0/\lq (uV p (Tz p (ls x)) (Tz p (ls y))) 0=.ints (ls u):=λe mu my=>by rw[Yx hp e mu my];exact⟨⟨by show(-2:Int)<=0;decide,by show(0:Int)<2;decide⟩,rfl⟩
 have q0:=dvq go (mo _) (mo _);rw[hf,<- ed]at q0;refine⟨⟨⟨⟨⟨rfl,rfl,rfl,tJ⟩,p,f,d,rfl,by rw[ed];exact Fw hp (mo _) (by lia),by lia⟩,tJ,q0.1⟩,?_⟩,λy ey=>?_⟩
 ·show lq (uV p (Tz p f) (Tz p d)) 0=.ints (jZ (lq (uV p (Tz p f) (Tz p d)) 0));rw[q0.2];rfl
 have ey:y=ls (Pr L (qN p g 1)):=by have ey:y=jZ (lq (uV p (Tz p f) (Tz p d)) 0):=ey;rw[q0.2]at ey;exact ey
 refine⟨tJ,λl0 el0=>⟨tJ,λo0 eo0=>?_⟩⟩;have eo0:o0=1:=eo0;refine jz (Z':=[.fr (.ob 0 p),.fr (.ints f),.fr (.ints d),.fr (.ints y),.ow (.lst l0),.fr (.int o0),.un,.un]) rfl ?_;refine⟨λZ=>∃(e:Nat) (v6 v7:Sl),Z=[.fr (.ob 0 p),.fr (.ints f),.fr (.ints (ls (Pr L (tK p g (e+1))))),.fr (.ints (ls (Pr L (qN p g (e+1))))),.ow (.lst (prs p f e)),.fr (.int ((e:Int)+1)),v6,v7]/\e<=f.length,λZ=>((f.length:Int)+1-xN Z 5).toNat,⟨0,.un,.un,by rw[ed,ey,el0,eo0];rfl,be _⟩,?_⟩;rintro Z ⟨e,v6,v7,rfl,he⟩;have le1:=lenD (e+1);have le2:=lenD (e+1+1);refine⟨⟨.inl rfl,tJ⟩,λk=>?_,λk=>?_⟩
 ·have k:((ls (Pr L (qN p g (e+1)))).length:Int) > 1:=k;have lt:e+1<f.length:=cV λz=>by have:=far (e+1) z;lia
  refine⟨⟨⟨rfl,rfl,rfl,tJ⟩,p,ls (Pr L (qN p g (e+1))),ls (Pr L (tK p g (e+1))),rfl,hp,by lia,by lia⟩,λnl enl=>?_⟩;have enl:nl=ls (Pr L (qN p g (e+1+1))):=by have enl:nl=gc p (ls (Pr L (qN p g (e+1)))) (ls (Pr L (tK p g (e+1)))):=enl;rw[enl];exact Io (gdE (e+1)) (mo _)
  have q1:=dvq (ly (e+1)) (mo _) (mo _);have q2:=dvq (dp (e+1)) (mo _) (mo _);have ok:=Fw hp (mo (qN p g (e+1+1))) (by lia);rw[<- enl]at q1 q2 ok;refine⟨⟨⟨⟨⟨rfl,rfl,rfl,tJ⟩,p,ls (Pr L (qN p g (e+1))),nl,rfl,ok,by lia⟩,tJ,q1.1⟩,?_⟩,λgg eg=>?_⟩
  ·show lq (uV p (Tz p (ls (Pr L (qN p g (e+1))))) (Tz p nl)) 0=.ints (jZ (lq (uV p (Tz p (ls (Pr L (qN p g (e+1))))) (Tz p nl)) 0));rw[q1.2];rfl
  have eg:gg=Gs p f e:=by have eg:gg=jZ (lq (uV p (Tz p (ls (Pr L (qN p g (e+1))))) (Tz p nl)) 0):=eg;rw[q1.2]at eg;rw[sg];exact eg
  refine jz (Z':=[.fr (.ob 0 p),.fr (.ints f),.fr (.ints (ls (Pr L (tK p g (e+1))))),.fr (.ints (ls (Pr L (qN p g (e+1))))),.ow (.lst (prs p f e)),.fr (.int ((e:Int)+1)),.fr (.ints nl),.fr (.ints gg)]) rfl ?_;have pl1:(prs p f e).length<sizeLine:=by refine small1000 ?_;unfold prs;have:=gK (λe=>if 1<(Gs p f e).length then some (PV.tup [.ints (Gs p f e),.int ((e:Int)+1)]) else none) (List.range e);rw[aq]at this;lia
  refine⟨λZ=>Z=[.fr (.ob 0 p),.fr (.ints f),.fr (.ints (ls (Pr L (tK p g (e+1))))),.fr (.ints (ls (Pr L (qN p g (e+1))))),.ow (.lst (prs p f (e+1))),.fr (.int ((e:Int)+1)),.fr (.ints nl),.fr (.ints gg)],⟨⟨.inl rfl,tJ⟩,λz=>?_,λz=>?_⟩,?_⟩
  ·have z:(gg.length:Int) > 1:=z;refine⟨rfl,⟨rfl,rfl,tJ⟩,pl1,?_⟩;rw[Ag,af (by rw[<- eg];lia),<- eg];rfl
  ·have z:¬(gg.length:Int) > 1:=z;rw[Ag,ae (by rw[<- eg];lia),a8]
  rintro Z rfl;refine⟨⟨⟨⟨⟨rfl,rfl,rfl,tJ⟩,p,ls (Pr L (tK p g (e+1))),nl,rfl,ok,by lia⟩,tJ,q2.1⟩,?_⟩,λd2 ed2=>?_⟩
  ·show lq (uV p (Tz p (ls (Pr L (tK p g (e+1))))) (Tz p nl)) 0=.ints (jZ (lq (uV p (Tz p (ls (Pr L (tK p g (e+1))))) (Tz p nl)) 0));rw[q2.2];rfl
  have ed2:d2=ls (Pr L (tK p g (e+1+1))):=by have ed2:d2=jZ (lq (uV p (Tz p (ls (Pr L (tK p g (e+1))))) (Tz p nl)) 0):=ed2;rw[q2.2]at ed2;exact ed2
  refine⟨rfl,λy2 ey2=>?_⟩;have ey2:y2=nl:=ey2;refine jz (Z':=[.fr (.ob 0 p),.fr (.ints f),.fr (.ints d2),.fr (.ints y2),.ow (.lst (prs p f (e+1))),.fr (.int ((e:Int)+1)),.fr (.ints nl),.fr (.ints gg)]) rfl ?_;refine⟨rfl,tJ,tJ,λo eo=>?_⟩;have eo:o=(e:Int)+1+1:=eo;refine⟨⟨e+1,.fr (.ints nl),.fr (.ints gg),?_,by lia⟩,?_⟩
  ·rw[eo,ed2,ey2,enl];rfl
  ·show((f.length:Int)+1-o).toNat<((f.length:Int)+1-((e:Int)+1)).toNat;lia
 ·have k:¬((ls (Pr L (qN p g (e+1)))).length:Int) > 1:=k;refine⟨⟨rfl,rfl,tJ⟩,?_⟩;show PV.tup [.lst (prs p f e),.ints (ls (Pr L (tK p g (e+1))))]=Di p f;rw[fin e (by lia) he]
theorem QW {α β:Type}{g:α->Option β}{f:α->β}:∀{l:List α},(∀a∈l,g a=some (f a))->l.filterMap g=l.map f
 |[],_=>rfl
 |a::l,h=>by rw[bB,h a ah,bK,QW λb hb=>h b (ad _ hb)]
theorem Pz (f:Li)(k:Nat)(hk:0<k):qL f none none (some (k:Int))=Pl.Kq k f:=by
 have k1:(k:Int) > 0:=by lia
 have eb:sliceBounds none none (some (k:Int)) f.length=(0,(f.length:Int),(k:Int)):=by show((if (k:Int) > 0 then(0:Int) else(f.length:Int)-1),(if (k:Int) > 0 then(f.length:Int) else -1),(k:Int))=_;rw[af k1,af k1]
 unfold qL;rw[eb];have ec:sliceRange 0 (f.length:Int) (k:Int)=(List.range ((f.length+k-1) / k)).map λ(j:Nat)=>((0:Int)+(k:Int)*(j:Int)).toNat:=by
  show(List.range (if (k:Int) > 0 then(if (0:Int)<(f.length:Int) then((f.length:Int)-0+(k:Int)-1) / (k:Int) else 0) else(if (0:Int) > (f.length:Int) then(0-(f.length:Int)-(k:Int)-1) / (-(k:Int)) else 0)).toNat).map _=_;rw[af k1];congr 1;congr 1;by_cases c:(0:Int)<(f.length:Int)
  ·rw[af c];have e2:(f.length:Int)-0+(k:Int)-1=((f.length+k-1:Nat):Int):=by lia
   rw[e2,<- Int.natCast_ediv,aC]
  ·rw[ae c];have z:f.length=0:=by lia
   rw[z,hU,Nat.div_eq_of_lt (by lia)];rfl
 rw[ec,List.filterMap_map];unfold Pl.Kq;refine QW λj hj=>?_;rw[aY]at hj;have lt:k*j<f.length:=by have h1:(j+1)*k<=f.length+k-1:=aH (cX k hj) (Nat.div_mul_le_self _ _);rw[f8,cZ]at h1;lia
 show f[((0:Int)+(k:Int)*(j:Int)).toNat]?=some (f.getD (k*j) 0);have e3:((0:Int)+(k:Int)*(j:Int)).toNat=k*j:=by rw[c6,<- eX,aC]
 rw[e3,ac lt,jx lt]
open Pl in
def Ha (p:Int)(f:List Int):PV:=.lst (vg (oY p (rD p (Tz p f)) 40))
open Pl in
theorem WK (hp:jG p){L:List (Pl p×Nat)}(F:vU L){k:Nat}(h:(lf p (ls (Pr L id)) k).length<=1):(lf p (ls (Pr L id)) (k+1)).length<=1:=by have hinv:=λx hx=>lJ hp (x:=x) hx;rw[vh hp hinv F]at h ⊢;refine dB λc=>?_;obtain⟨q,hq,hz⟩:=(oK hp.1 F.mo F.dg).mp c;have:=mt (oK hp.1 (g:=gk p k) F.mo F.dg).mpr (by lia);refine this ⟨q,hq,λz=>hz ?_⟩;show(if p ∣ (gk p k q.2:Int) then gk p k q.2 / p.toNat else 0)=0;rw[z,i6,ite_self]
open Pl in
theorem Iv (hp:jG p){L:List (Pl p×Nat)}(F:vU L){k:Nat}(h:(lf p (ls (Pr L id)) k).length<=1):∀n,(lf p (ls (Pr L id)) (k+n)).length<=1/\oY p (ls (Pr L id)) (k+n)=oY p (ls (Pr L id)) k
 |0=>⟨h,rfl⟩
 |n+1=>by obtain⟨h1,h2⟩:=Iv hp F h n;refine⟨WK hp F h1,?_⟩;show oY p (ls (Pr L id)) (k+n)++Qf p (ls (Pr L id)) (k+n)=_;rw[h2,Vt hp F h1,a8]
open Pl in
theorem QZ (hp:jG p){L:List (Pl p×Nat)}(F:vU L)(k:Nat):(lf p (ls (Pr L id)) k).length<=(ls (Pr L id)).length:=by
 have hinv:=λx hx=>lJ hp (x:=x) hx;have p2:=hp.1;rw[vh hp hinv F];have e:=Aq (L:=L) (g:=id) (h:=gk p k) λq _=>by
  rw[zU p2];split
  ·exact Nat.div_le_self _ _
  ·exact be _
 have l:=Mo.len p2 (F.pr p2 λm=>id m-gk p k m) (F.pr p2 (gk p k));rw[<- e]at l;have:=(F.pr p2 λm=>id m-gk p k m).pos;lia
open Pl in
theorem Nj (p:Int)(f:Li)(N:Nat):(prs p f N).length<=N:=by unfold prs;have:=gK (λe=>if 1<(Gs p f e).length then some (PV.tup [.ints (Gs p f e),.int ((e:Int)+1)]) else none) (List.range N);rw[aq]at this;exact this
open Pl in
theorem Lh (hp:jG p){L:List (Pl p×Nat)}(F:vU L)(hl:(ls (Pr L id)).length<=31):∀K,(oY p (ls (Pr L id)) K).length<=K*31
 |0=>ao _
 |K+1=>by show(oY p (ls (Pr L id)) K++Qf p (ls (Pr L id)) K).length<=_;have h1:=Lh hp F hl K;have h2:=Nj p (lf p (ls (Pr L id)) K) (lf p (ls (Pr L id)) K).length;have h3:=QZ hp F K;rw[ai];unfold Qf;rw[aa];lia
open Pl in
theorem G5 (hp:jG p){L:List (Pl p×Nat)}(F:vU L)(nz:∀q∈L,q.2≠0)(hl:(ls (Pr L id)).length<=31){K:Nat}(hK:(lf p (ls (Pr L id)) K).length<=1):Mq (oY p (ls (Pr L id)) K)/\vg (oY p (ls (Pr L id)) K)=Hb L:=by
 obtain⟨h1,h2⟩:=YQ hp F nz hl hK;have nd:=Jl hp F K;refine⟨⟨?_,λq hq=>?_,nd⟩,Hx h1 (h2.imp λh=>iZ h) nd⟩
 ·rw[<- h1.length_eq];unfold Hb;rw[aa];have:=cT (λc=>decide (1<(ls (Pr L (ind c))).length)) (List.range 31);rw[aq]at this;lia
 ·obtain⟨k,e,_,_,_,_,rfl⟩:=(zu hp F).mp hq;exact⟨_,rfl⟩
theorem Rx {p:Int}(p2:2<=p)(p3:p<=9973){k:Nat}(hk:k<=40):(p^k).natAbs<2^600:=by rw[Int.natAbs_pow];have h1:p.natAbs^k<=(2^14)^k:=iO (by lia) k;refine aQ h1 ?_;rw[<- Nat.pow_mul];exact bj (by decide) (by lia)
open Pl in
theorem Cm (T:Top K mg cNO cK cR):Ok P w K mg base 8 "free_parts" ["kind","f"] (V9 K (pQ cR) (λas=>∃p f,as=[.ob 0 p,.ints f]/\jG p/\f.length<=100/\(rD p (Tz p f)).length<=31/\Tz p f≠[]) λas=>match as with
  |[.ob 0 p,.ints f]=>Ha p f
  |_=>.non):=by
 refine Xr T.FZ j8 T.Fb (λf cdv A outer s H E hr hl=>⟨_,(jd (jr (i:=2) j8.nd rfl (Or.inl rfl) (jW (vy (rY T) hr (jc (xv 0) (jc (jW (Zz (jV T) hr (jP (vR (xv 0)) (jP (rdR 1) o8)))) jh)))))
 (jd (j7 (nj (zf 2))
 (jf Du)
 jO)
 (jd (uw (i:=3) j8.nd rfl (Or.inl rfl) (uc jh))
 (jd (jq (i:=4) j8.nd rfl (Or.inl rfl) je)
 (jd (mY aE (rQ (jK 2 T.jD) je)
 (jd (lR (i:=5) j8.nd rfl (Or.inl rfl) (xc (xq T) hr (jc (xv 0) (jc (xl 2) jh))))
 (jd (Ba (k:=6) (j:=7) aE rfl (nJ (jt (xv 5) je (λ_ _=>rfl))) (pg_tup rfl (pgs_cons (pg_name (i:=6) j8.nd rfl (Or.inl rfl)) (pgs_cons (pg_name (i:=7) j8.nd rfl (Or.inl rfl)) pgs_nil)))
 (jf (uz 3 (qY (jc (xl 6) (jc (n6 (xn 7) (xn 4)) jh))))))
 (jd (jr (i:=2) j8.nd rfl (Or.inl rfl) (jW (Pq (xl_of (jt (xv 5) je (λ_ _=>rfl))) pC pC (m5 (Fp (ksz T) (xv 0))) (λ_ _=>.inl rfl))))
 (jf (zm (i:=4) j8.nd rfl (Or.inl rfl) (Fp (ksz T) (xv 0)) Qs))))))
 (kZ 3 (jf (jo (um (Q5 hl hr T.Ax (xv 3))))))))))),λq f hp=>?_⟩)
 obtain⟨p,f',e,hp,fl,nl,ne⟩:=hp;cases e;have p2:2<=p:=hp.1;have p3:p<=9973:=hp.2.1;have hinv:=λx hx=>lJ hp (x:=x) hx;have tzl:=mW p f;have G:=zH hp (jX p f) (nY p f);have mN:Mo (mk p (rD p (Tz p f))):=by
  show jk (ls (mk p (rD p (Tz p f))))=1;rw[tM ⟨G.form,G.red⟩];rcases G.one with z|z
  ·exfalso;obtain⟨Q,hQ⟩:=G.d1;rw[z]at hQ;refine ne (nH (jX p f) oU λn=>sI (nY p f n) (by show pl p 0=0;exact lH p) ?_);have:=hQ n;rw[jA,lL,aS]at this;exact this
  ·exact z
 have eN:ls (mk p (rD p (Tz p f)))=rD p (Tz p f):=tM ⟨G.form,G.red⟩;obtain⟨L,F,nz,eL⟩:=Y5 hp mN (by rw[eN];lia);rw[eL]at eN;have mo:=λh:Nat->Nat=>F.pr p2 h;have lfe:=vh hp hinv F;have goal:Ha p f=.lst (vg (oY p (ls (Pr L id)) 40)):=by unfold Ha;rw[eN]
 rw[<- eN]at nl;have llen:=QZ hp F;have alen:=Lh hp F nl;have sh:=λk=>Il (k:=k) hp F;have stop:=λk=>Iv (k:=k) hp F;have pok:=λK=>G5 (K:=K) hp F nz nl;have bits:=λk=>Rx (k:=k) p2 p3;have nx1:∀k,lf p (ls (Pr L id)) (k+1)=Kq p.toNat (Ew p (lf p (ls (Pr L id)) k) (lf p (ls (Pr L id)) k).length).1:=λk=>rfl;have ax1:∀k,oY p (ls (Pr L id)) (k+1)=oY p (ls (Pr L id)) k++(prs p (lf p (ls (Pr L id)) k) (lf p (ls (Pr L id)) k).length).map (scP (p^k)):=λk=>rfl;have pres:∀k,∃(p':Int) (L':List (Pl p'×Nat)) (g':Nat->Nat),[PV.ob 0 p,.ints (lf p (ls (Pr L id)) k)]=[.ob 0 p',.ints (ls (Pr L' g'))]/\jG p'/\vU L'/\(ls (Pr L' g')).length<=100:=λk=>⟨p,L,gk p k,by rw[lfe],hp,F,by rw[<- lfe];have:=llen k;lia⟩;refine⟨⟨⟨rfl,⟨⟨rfl,rfl,tJ⟩,p,f,rfl,by lia⟩,tJ⟩,p,Tz p f,rfl,hp,by lia,jX p f,nY p f⟩,λx ex=>?_⟩;have ex:x=lf p (ls (Pr L id)) 0:=by have ex:x=rD p (Tz p f):=ex;rw[ex,<- eN];rfl
 refine⟨.inl rfl,λq=>?_,λ_=>?_⟩
 ·rw[ex]at q;exact absurd (mo id).ne q
 refine⟨tJ,λl0 el0=>⟨tJ,λc0 ec0=>?_⟩⟩;have el0:l0=oY p (ls (Pr L id)) 0:=el0;have ec0:c0=p^0:=by rw[i7];exact ec0
 refine jz (Z':=[.fr (.ob 0 p),.rd (.ints f),.fr (.ints x),.ow (.lst l0),.fr (.int c0),.un,.un,.un]) rfl ?_;generalize ls (Pr L id)=x0 at *
 refine⟨λZ=>∃(k:Nat) (v5 v6 v7:Sl),Z=[.fr (.ob 0 p),.rd (.ints f),.fr (.ints (lf p x0 k)),.ow (.lst (oY p x0 k)),.fr (.int (p^k)),v5,v6,v7]/\k<=31,λZ=>(p^32-xN Z 4).toNat,⟨0,.un,.un,.un,by rw[ex,el0,ec0],by lia⟩,?_⟩;rintro Z ⟨k,v5,v6,v7,rfl,hk⟩;have ll:=llen k;refine⟨⟨.inl rfl,tJ⟩,λq=>?_,λq=>?_⟩
 ·have q:((lf p x0 k).length:Int) > 1:=q;have hk1:k+1<=31:=by have:=sh k (by lia);lia
  refine⟨⟨⟨rfl,rfl,tJ⟩,pres k⟩,λfo efo=>?_⟩;have efo:fo=Di p (lf p x0 k):=efo;have pl2:=Nj p (lf p x0 k) (lf p x0 k).length;have pm:∀n∈prs p (lf p x0 k) (lf p x0 k).length,∃(G:List Int) (e:Nat),e<(lf p x0 k).length/\n=.tup [.ints G,.int ((e:Int)+1)]:=λn hn=>by
   unfold prs at hn;obtain⟨e,he,h⟩:=cC.mp hn;split at h
   ·cases h;exact⟨_,e,aY.mp he,rfl⟩
   ·cases h
  have nx:=nx1 k;have ax:=ax1 k;unfold Di at efo;generalize prs p (lf p x0 k) (lf p x0 k).length=pr at *
  generalize (Ew p (lf p x0 k) (lf p x0 k).length).1=dp at *
  subst efo;refine jz (Z':=[.fr (.ob 0 p),.rd (.ints f),.fr (.ints (lf p x0 k)),.ow (.lst (oY p x0 k)),.fr (.int (p^k)),.fr (.tup [.lst pr,.ints dp]),v6,v7]) rfl ?_;have it0:lM (.tup [.lst pr,.ints dp]) 0:=⟨by show(-2:Int)<=0;decide,by show(0:Int)<2;decide⟩;have it1:lM (.tup [.lst pr,.ints dp]) 1:=⟨by show(-2:Int)<=1;decide,by show(1:Int)<2;decide⟩;have al:=alen k;refine⟨⟨⟨⟨rfl,tJ,it0⟩,rfl⟩,λn hn=>?_⟩,λi Z=>∃v6 v7,Z=[.fr (.ob 0 p),.rd (.ints f),.fr (.ints (lf p x0 k)),.ow (.lst (oY p x0 k++(pr.take i).map (scP (p^k)))),.fr (.int (p^k)),.fr (.tup [.lst pr,.ints dp]),v6,v7],⟨v6,v7,by rw[iC,dO,a8]⟩,?_,?_⟩
  ·have hn:n∈pr:=hn;obtain⟨G,e,_,rfl⟩:=pm n hn;rfl
  ·rintro i n Z hn ⟨v6,v7,rfl⟩;have hn:pr[i]?=some n:=hn;have hi:i<pr.length:=(aj.mp hn).1;obtain⟨G,e,he,rfl⟩:=pm n (aW hn);refine⟨rfl,⟨rfl,⟨rfl,rfl,?_⟩,tJ⟩,?_,⟨.fr (.ints G),.fr (.int ((e:Int)+1)),?_⟩⟩
   ·exact pP (n:=600) (m:=600) (aD (show((e:Int)+1).natAbs<2^6 by show _<64;lia) (cJ (by decide) (by decide))) (bits k (by lia))
   ·show(oY p x0 k++(pr.take i).map (scP (p^k))).length<sizeLine;refine small1000 ?_;rw[ai,aa,aJ];lia
   ·rw[m7 hn,bF,<- c7];rfl
  rintro Z ⟨v6,v7,rfl⟩;have e3:oY p x0 k++(pr.take pr.length).map (scP (p^k))=oY p x0 (k+1):=by rw[cr,ax]
  refine jz (Z':=[.fr (.ob 0 p),.rd (.ints f),.fr (.ints (lf p x0 k)),.ow (.lst (oY p x0 (k+1))),.fr (.int (p^k)),.fr (.tup [.lst pr,.ints dp]),v6,v7]) (by rw[<- e3];rfl) ?_;refine⟨⟨⟨⟨rfl,tJ,it1⟩,rfl⟩,tJ,tJ,⟨rfl,rfl⟩,?_⟩,λx1 ex1=>?_⟩
  ·show some p≠some 0;intro z;have:=aB z;lia
  have ex1:x1=lf p x0 (k+1):=by
   have ex1:x1=qL dp none none (some p):=ex1;have ep:p=((p.toNat:Nat):Int):=(bJ (by lia)).symm;rw[ex1,nx]
   conv=>lhs;rw[ep]
   exact Pz dp p.toNat (by lia)
  refine jz (Z':=[.fr (.ob 0 p),.rd (.ints f),.fr (.ints x1),.ow (.lst (oY p x0 (k+1))),.fr (.int (p^k)),.fr (.tup [.lst pr,.ints dp]),v6,v7]) rfl ?_;have pb:=bits 1 (by decide);rw[iN]at pb;refine⟨rfl,⟨rfl,rfl⟩,pP (n:=600) (m:=600) (bits k (by lia)) pb,λo eo=>?_⟩;have eo:o=p^(k+1):=by rw[ib];exact eo
  refine⟨⟨k+1,.fr (.tup [.lst pr,.ints dp]),v6,v7,by rw[eo,ex1];rfl,hk1⟩,?_⟩;show(p^32-o).toNat<(p^32-p^k).toNat;have pp:0<p^k:=Int.pow_pos (by lia);have h1:p^k*2<=o:=by rw[eo,ib];exact bC p2 (iZ pp)
  have h2:o<=p^32:=by rw[eo];have:((p.toNat^(k+1):Nat):Int)<=((p.toNat^32:Nat):Int):=Int.ofNat_le.mpr (cJ (by lia) (by lia));rw[DP p2,DP p2]at this;exact this
  generalize p^32=B at *
  generalize p^k=C at *
  lia
 ·have q:¬((lf p x0 k).length:Int) > 1:=q;have h1:(lf p x0 k).length<=1:=by lia
  obtain⟨po,_⟩:=pok k h1;refine⟨⟨rfl,rfl,po⟩,?_⟩;show PV.lst (vg (oY p x0 k))=Ha p f;rw[goal];have:=(stop k h1 (40-k)).2;rw[show k+(40-k)=40 by lia]at this;rw[this]
theorem mL (t:List (List Int)):(t.map PV.ints).map jZ=t:=by rw[br];have:jZ ∘ PV.ints=id:=rfl;rw[this,List.map_id]
theorem Jg {R:List (List Int)}{k:Nat}(h:k<R.length):(R.map PV.ints).getD k .non=.ints (R.getD k []):=by rw[gQ,gQ,aw,ac h];rfl
theorem R3 {t:List (List Int)}{i:Nat}(h:i<t.length):lq (jm t) (i:Int)=.ints (t.getD i []):=by
 show(t.map PV.ints).getD (lB (t.map PV.ints).length (i:Int)) .non=_;have e:lB (t.map PV.ints).length (i:Int)=i:=by unfold lB;rw[af (by lia)];lia
 rw[e,Jg h]
theorem xW {t:List (List Int)}{i:Nat}(h:i<t.length):lM (jm t) (i:Int):=by show -((t.map PV.ints).length:Int)<=(i:Int)/\(i:Int)<((t.map PV.ints).length:Int);rw[aa];lia
theorem Av {t:List (List Int)}{i:Nat}(h:i<t.length):jZ (lq (jm t) (i:Int))=t.getD i []:=by rw[R3 h];rfl
theorem ym {t:List (List Int)}{i:Nat}(h:i<t.length):lq (jm t) (i:Int)=.ints (jZ (lq (jm t) (i:Int))):=by rw[R3 h];rfl
theorem Ma {j:Nat}(h:j<r.length):lM (.ints r) (j:Int):=⟨by show -(r.length:Int)<=(j:Int);lia,by show(j:Int)<(r.length:Int);lia⟩
theorem Vy (h:j<n):lB n (j:Int)=j:=by unfold lB;rw[af (by lia)];lia
theorem XF (h:2<=q):pl q 1=1:=by rw[kh (by lia)];exact bx (by lia) (by lia)
theorem YS (h:Bd r)(k:Nat):(r.getD k 0).natAbs<2^9000:=by
 by_cases c:k<r.length
 ·exact h _ (FM.getD_mem c)
 ·rw[jj (by lia)];exact dw (by decide)
def wd (m:Int)(r:List Int):List Int:=r++List.replicate (m-(r.length:Int)).toNat 0
theorem Y9 (m:Int)(r:Li)(n:Nat):(wd m r).getD n 0=r.getD n 0:=HW r _ n
theorem Rm (h:(r.length:Int)<=m):((wd m r).length:Int)=m:=by unfold wd;rw[ai,aL];lia
def jJ (p:Int)(d f:List Int)(n:Nat):List (List Int):=(List.range n).map λk=>wd ((d.length:Int)-1) (rm p d (pw f k))
theorem Jv (p:Int)(d f:Li)(n:Nat):jJ p d f (n+1)=jJ p d f n++[wd ((d.length:Int)-1) (rm p d (pw f n))]:=by unfold jJ;rw[ia,bF];rfl
theorem oE (p:Int)(d f:Li)(n:Nat):(jJ p d f n).length=n:=by unfold jJ;rw[aa,aq]
theorem KZ (h:k<n):(jJ p d f n).getD k []=wd ((d.length:Int)-1) (rm p d (pw f k)):=by unfold jJ;rw[gQ,aw,cg h];rfl
theorem vf (T:Top K mg cNO cK cR):Ok P w K mg base 6 "power_rows" ["kind","f","count","g"] (zc K (pQ cR) (λas=>∃p f,∃n:Nat,∃g,as=[.ob 0 p,.ints f,.int (n:Int),.ints g]/\Gu p g/\f.length<=50/\Bd f/\(Tz p g).length<=100/\n<=100) λas=>match as with
  |[.ob 0 p,.ints f,.int n,.ints g]=>jm (jJ p (Tz p g) f n.toNat)
  |_=>.non):=by
 refine xf T.DX mJ (λas ⟨a,b,c,d,h,_⟩=>by rw[h];rfl) (λf cdv A outer s H E hr=>⟨_,(jd (jq (i:=4) mJ.nd rfl (Or.inl rfl) (nZ (lG T.jD (jW (vy (jV T) hr (jc (xv 0) (jc (xl 3) jh))))) je))
 (jd (jr (i:=5) mJ.nd rfl (Or.inl rfl) (Zy (Df T) hr (jc (xv 0) (jc (xl 1) (jc je (jc (xl 3) jh))))))
 (jd (uw (i:=6) mJ.nd rfl (Or.inl rfl) (uc jh))
 (jd (pK (k:=7) aE rfl (by rfl) T.oH (xn 2) mJ.nd rfl (Or.inl rfl)
 (jd (uz 6 (jW (tZ (xl 5) (jW (uq (lQ (jc je jh)) (nZ (xn 4) (jK 5 T.jD)) (λ_=>rfl))))))
 (jf (jr (i:=5) mJ.nd rfl (Or.inl rfl) (Zy (t6 T) hr (jc (xv 0) (jc (xl 5) (jc (xl 1) (jc (xl 3) jh)))))))))
 (kZ 6 (jf (jo (xv 6)))))))),λas hp=>?_⟩)
 obtain⟨p,f,n,g,rfl,ok,hl,hb,hd,hn⟩:=hp;have gl:=ok.len;refine⟨⟨⟨⟨⟨rfl,rfl,tJ⟩,p,g,rfl,by lia⟩,tJ⟩,tJ⟩,λdg edg=>?_⟩;subst edg;refine⟨⟨⟨rfl,rfl,tJ,rfl,tJ⟩,p,f,0,g,rfl,ok,by lia,hd⟩,λr0 er0=>?_⟩;refine⟨tJ,λl0 el0=>?_⟩;refine jz (Z':=[.fr (.ob 0 p),.fr (.ints f),.fr (.int (n:Int)),.fr (.ints g),.fr (.int (((Tz p g).length:Int)-1)),.fr (.ints r0),.ow (.lst l0),.un]) rfl ?_;refine⟨rfl,⟨by show -(2:Int)^62<=(n:Int);lia,by show(n:Int)<2^62;lia⟩,λi Z=>∃v7,Z=[.fr (.ob 0 p),.fr (.ints f),.fr (.int (n:Int)),.fr (.ints g),.fr (.int (((Tz p g).length:Int)-1)),.fr (.ints (rm p (Tz p g) (pw f i))),.ow (jm (jJ p (Tz p g) f i)),v7],⟨.un,by rw[er0,el0];rfl⟩,?_,?_⟩
 ·rintro i Z hi ⟨v7,rfl⟩;have hi:i<((n:Nat):Int).toNat:=hi;obtain⟨_,_,ir,er⟩:=mC ok (pw f i);have e1:rm p (Tz p g) (pw f (i+1))=rm p (Tz p g) (ji (rm p (Tz p g) (pw f i)) f):=Uo ok (er.mul f);generalize hR:rm p (Tz p g) (pw f i)=R at *
  have rl:=ir.len;refine⟨rfl,⟨rfl,⟨⟨⟨tJ,tJ⟩,tJ⟩,⟨rfl,.inl rfl⟩,?_,?_⟩,?_⟩,?_,?_⟩
  ·show -(2:Int)^63<=((Tz p g).length:Int)-1-(R.length:Int);lia
  ·show(((Tz p g).length:Int)-1-(R.length:Int)).toNat<=1000;lia
  ·refine bN (small1000 ?_);show R.length+(List.replicate (((Tz p g).length:Int)-1-(R.length:Int)).toNat (0:Int)).length<=1000;rw[aL];lia
  ·show((jJ p (Tz p g) f i).map PV.ints).length<sizeLine;rw[aa,oE];exact small1000 (by lia)
  refine jz (Z':=[.fr (.ob 0 p),.fr (.ints f),.fr (.int (n:Int)),.fr (.ints g),.fr (.int (((Tz p g).length:Int)-1)),.fr (.ints R),.ow (jm (jJ p (Tz p g) f (i+1))),.fr (.int (i:Int))]) ?_ ?_
  ·have e:jm (jJ p (Tz p g) f (i+1))=.lst ((jJ p (Tz p g) f i).map PV.ints++[.ints (wd (((Tz p g).length:Int)-1) R)]):=by rw[Jv,hR];unfold jm;rw[bF];rfl
   rw[e];rfl
  refine⟨⟨⟨rfl,rfl,rfl,rfl,tJ⟩,p,R,f,g,rfl,ok,by lia,ir.bd ok.pr,hb⟩,λr1 er1=>⟨.fr (.int (i:Int)),?_⟩⟩;have er1:r1=rm p (Tz p g) (ji R f):=er1;rw[e1,<- er1];rfl
 ·rintro Z ⟨v7,rfl⟩;exact⟨rfl,rfl⟩
theorem Hv (T:Top K mg cNO cK cR):Ok P w K mg base 7 "powering" ["kind","g"] (zc K (pQ cR) (λas=>∃p g,as=[.ob 0 p,.ints g]/\Gu p g/\(Tz p g).length<=40) λas=>match as with
  |[.ob 0 p,.ints g]=>jm (jJ p (Tz p g) (rm p (Tz p g) (pw [0,1] p.toNat)) ((Tz p g).length-1))
  |_=>.non):=by
 refine xf T.JM yx (λas ⟨a,b,h,_⟩=>by rw[h];rfl) (λf cdv A outer s H E hr=>⟨_,(jd (jq (i:=2) yx.nd rfl (Or.inl rfl) (nZ (lG T.jD (jW (vy (jV T) hr (jc (xv 0) (jc (xl 1) jh))))) je))
 (jf (jo (xc (vf T) hr (jc (xv 0) (jc (Zy (Df T) hr (jc (xv 0) (jc (jW (lQ (jc je (jc je jh)))) (jc (Fp (ksz T) (xv 0)) (jc (xl 1) jh))))) (jc (xn 2) (jc (xl 1) jh)))))))),λas hp=>?_⟩)
 obtain⟨p,g,rfl,ok,hd⟩:=hp;have gl:=ok.len;have p2:2<=p:=ok.pr.1;have d1:=lP ok.ne;refine⟨⟨⟨⟨⟨rfl,rfl,tJ⟩,p,g,rfl,by lia⟩,tJ⟩,tJ⟩,λdg edg=>?_⟩;have edg:dg=((Tz p g).length:Int)-1:=edg;have edg:dg=(((Tz p g).length-1:Nat):Int):=by lia
 subst edg;obtain⟨_,_,ir,er⟩:=mC ok (pw [0,1] p.toNat);have rl:=ir.len;have ep:((p.toNat:Nat):Int)=p:=by lia
 refine⟨⟨⟨rfl,⟨⟨rfl,⟨⟨tJ,tJ,tJ⟩,tJ⟩,⟨rfl,rfl⟩,rfl,tJ⟩,p,[0,1],p.toNat,g,?_,ok,by decide,by lia⟩,rfl,rfl,tJ⟩,p,rm p (Tz p g) (pw [0,1] p.toNat),(Tz p g).length-1,g,rfl,ok,by lia,ir.bd ok.pr,by lia,by lia⟩,rfl⟩;show[PV.ob 0 p,.ints [0,1],.int p,.ints g]=[.ob 0 p,.ints [0,1],.int ((p.toNat:Nat):Int),.ints g];rw[ep]
theorem wR (f:Nat->Nat->Int)(m:Nat):∀n,sm n (λi=>sm m λj=>f i j)=sm m λj=>sm n λi=>f i j
 |0=>by exact(mO λj _=>rfl).symm
 |n+1=>by show sm n (λi=>sm m λj=>f i j)+sm m (λj=>f n j)=_;rw[wR f m n,<- sO];rfl
theorem yW (l:Int)(f:Nat->Int)(n:Nat):sm n (λi=>f i*l)=sm n f*l:=by rw[cf,<- nU];exact jn λi _=>cf _ _
abbrev Mx:=Nat->Nat->Int
def mm (n:Nat)(A B:Mx):Mx:=λi j=>sm n λk=>A i k*B k j
theorem Rc (m n:Nat)(A B C:Mx)(i j:Nat):mm n (mm m A B) C i j=mm m A (mm n B C) i j:=by
 show sm n (λk=>sm m (λl=>A i l*B l k)*C k j)=sm m λl=>A i l*sm n λk=>B l k*C k j;have h1:sm n (λk=>sm m (λl=>A i l*B l k)*C k j)=sm n λk=>sm m λl=>A i l*B l k*C k j:=jn λk _=>(yW _ _ _).symm;have h2:sm m (λl=>A i l*sm n λk=>B l k*C k j)=sm m λl=>sm n λk=>A i l*B l k*C k j:=jn λl _=>by rw[<- nU];exact jn λk _=>(bM _ _ _).symm
 rw[h1,h2];exact wR _ _ _
def ph (i j:Nat):Int:=if i=j then 1 else 0
theorem qR:∀{n:Nat},k<n->(∀i,i<n->i≠k->f i=0)->sm n f=f k
 |0,h,_=>by lia
 |n+1,h,z=>by
  show sm n f+f n=f k;by_cases c:k=n
  ·subst c;rw[mO λi hi=>z i (by lia) (by lia),c6]
  ·rw[qR (by lia) λi hi hne=>z i (by lia) hne,z n (by lia) (λe=>c e.symm),bH]
theorem sG (A:Mx)(h:i<n)(j:Nat):mm n ph A i j=A i j:=by show sm n (λk=>ph i k*A k j)=A i j;rw[qR h λk _ hne=>by unfold ph;rw[ae (λe=>hne e.symm),bT]];unfold ph;rw[af rfl,cj]
theorem K3 (A:Mx)(i:Nat)(h:j<n):mm n A ph i j=A i j:=by show sm n (λk=>A i k*ph k j)=A i j;rw[qR h λk _ hne=>by unfold ph;rw[ae hne,aU]];unfold ph;rw[af rfl,bO]
def Al (p:Int)(n m:Nat)(A B:Mx):Prop:=∀i j,i<n->j<m->p ∣ A i j-B i j
theorem Al.refl (p:Int)(n m:Nat)(A:Mx):Al p n m A A:=λi j _ _=>by rw[cB];exact aV p
theorem Al.symm (h:Al p n m A B):Al p n m B A:=λi j hi hj=>by
 have e:B i j-A i j = -(A i j-B i j):=by lia
 rw[e];exact bu.mpr (h i j hi hj)
theorem Al.trans (h:Al p n m A B)(k:Al p n m B C):Al p n m A C:=λi j hi hj=>by
 have e:A i j-C i j=(A i j-B i j)+(B i j-C i j):=by lia
 rw[e];exact bE (h i j hi hj) (k i j hi hj)
theorem Al.mul (h:Al p n l A B)(k:Al p l m C D):Al p n m (mm l A C) (mm l B D):=λi j hi hj=>by
 show p ∣ sm l (λx=>A i x*C x j)-sm l λx=>B i x*D x j;rw[<- vO];refine m8 λx hx=>?_;have e:A i x*C x j-B i x*D x j=(A i x-B i x)*C x j+B i x*(C x j-D x j):=by rw[fS,cw];lia
 rw[e];exact bE (bh (h i x hi hx)) (aO (k x j hx hj))
theorem Al.of (h:∀i j,i<n->j<m->A i j=B i j):Al p n m A B:=λi j hi hj=>by rw[h i j hi hj,cB];exact aV p
theorem Al.rF (p:Int)(n l x m:Nat)(A B C:Mx):Al p n m (mm x (mm l A B) C) (mm l A (mm x B C)):=.of λi j _ _=>Rc l x A B C i j
structure tY (p:Int)(n:Nat)(A B:Mx):Prop where
 ab:Al p n n (mm n A B) ph
 ba:Al p n n (mm n B A) ph
theorem tY.unit (p:Int)(n:Nat):tY p n ph ph:=⟨.of λi j hi _=>sG ph hi j,.of λi j hi _=>sG ph hi j⟩
theorem tY.mul (h:tY p n A B)(k:tY p n C D):tY p n (mm n A C) (mm n D B):=by
 have key:∀{A B C D:Mx},Al p n n (mm n A B) ph->Al p n n (mm n C D) ph->Al p n n (mm n (mm n A C) (mm n D B)) ph:=λ{A B C D} h k=>by have s1:Al p n n (mm n C (mm n D B)) B:=(Al.rF p n n n n C D B).symm.trans ((Al.mul k (.refl p n n B)).trans (.of λi j hi _=>sG B hi j));exact(Al.rF p n n n n A C (mm n D B)).trans ((Al.mul (.refl p n n A) s1).trans h)
 exact⟨key h.ab k.ab,key k.ba h.ba⟩
theorem tY.left (h:tY p n A B)(k:Al p n n (mm n C A) ph):Al p n n (mm n A C) ph:=by
 have e1:Al p n n C B:=by have s1:Al p n n (mm n (mm n C A) B) B:=(Al.mul k (.refl p n n B)).trans (.of λi j hi _=>sG B hi j);have s2:Al p n n (mm n C (mm n A B)) C:=(Al.mul (.refl p n n C) h.ab).trans (.of λi j _ hj=>K3 C i hj);exact s2.symm.trans ((Al.rF p n n n n C A B).symm.trans s1)
 exact(Al.mul (.refl p n n A) e1).trans h.ab
def Qc (d:Nat)(c:Nat->Int):Mx:=λi k=>(if i=d then 0 else ph i k)+if k=d then c i else 0
theorem RJ (c:Nat->Int)(A:Mx)(hi:i<n)(hd:d<n)(j:Nat):mm n (Qc d c) A i j=(if i=d then 0 else A i j)+c i*A d j:=by
 show sm n (λk=>((if i=d then 0 else ph i k)+if k=d then c i else 0)*A k j)=_;have h:sm n (λk=>((if i=d then 0 else ph i k)+if k=d then c i else 0)*A k j)=sm n (λk=>(if i=d then 0 else ph i k)*A k j)+sm n (λk=>(if k=d then c i else 0)*A k j):=by rw[<- sO];exact jn λk _=>eJ _ _ _
 rw[h,qR (f:=λk=>(if k=d then c i else 0)*A k j) hd λk _ hne=>by show(if k=d then c i else 0)*A k j=0;rw[ae hne,bT],af rfl];congr 1;by_cases e:i=d
 ·rw[af e];exact mO λk _=>by rw[af e,bT]
 ·rw[ae e];have k1:sm n (λk=>(if i=d then 0 else ph i k)*A k j)=mm n ph A i j:=jn λk _=>by rw[ae e]
  rw[k1,sG A hi j]
theorem Le (hd:d<n)(h1:p ∣ c d*e d-1)(h2:∀i,i<n->i≠d->p ∣ e i+c i*e d):Al p n n (mm n (Qc d c) (Qc d e)) ph:=λi j hi hj=>by
 rw[RJ c _ hi hd];have ed:Qc d e d j=if j=d then e d else 0:=by show(if d=d then 0 else ph d j)+(if j=d then e d else 0)=_;rw[af rfl,c6]
 rw[ed];by_cases x:i=d
 ·subst x;rw[af rfl,c6];by_cases y:j=i
  ·subst y;have u:ph j j=1:=af rfl;rw[af rfl,u];exact h1
  ·have u:ph i j=0:=ae λz=>y z.symm;rw[ae y,aU,u];exact aV p
 ·rw[ae x];have ei:Qc d e i j=ph i j+if j=d then e i else 0:=by show(if i=d then 0 else ph i j)+(if j=d then e i else 0)=_;rw[ae x]
  rw[ei];by_cases y:j=d
  ·rw[af y,af y];have z:=h2 i hi x;generalize c i*e d=w at *
   have q:ph i j+e i+w-ph i j=e i+w:=by lia
   rw[q];exact z
  ·rw[ae y,ae y,aU,bH,bH,cB];exact aV p
def Xy (σ:Nat->Nat):Mx:=λi j=>ph (σ i) j
theorem RX (A:Mx)(h:σ i<n)(j:Nat):mm n (Xy σ) A i j=A (σ i) j:=sG A h j
theorem Nm (hs:∀i,i<n->σ i<n)(h:∀i,i<n->τ (σ i)=i):Al p n n (mm n (Xy σ) (Xy τ)) ph:=.of λi j hi _=>by rw[RX _ (hs i hi)];show ph (τ (σ i)) j=ph i j;rw[h i hi]
abbrev Tab:=List (List Int)
def p8 (t:Tab)(found done:Nat):Tab:=t.take done++[t.getD found []]++(t.drop done).take (found-done)++t.drop (found+1)
def yR (found done i:Nat):Nat:=if i<done then i else if i=done then found else if i<=found then i-1 else i
def tau (found done i:Nat):Nat:=if i<done then i else if i=found then done else if i<found then i+1 else i
theorem Wa (h:done<=found)(i:Nat):tau found done (yR found done i)=i:=by
 unfold yR tau
 repeat' split
 all_goals lia
theorem Wf (h:done<=found)(i:Nat):yR found done (tau found done i)=i:=by
 unfold yR tau
 repeat' split
 all_goals lia
theorem Em (h:done<=found)(hf:found<n)(hi:i<n):yR found done i<n:=by
 unfold yR
 repeat' split
 all_goals lia
theorem Y7 (h:done<=found)(hf:found<n)(hi:i<n):tau found done i<n:=by
 unfold tau
 repeat' split
 all_goals lia
theorem Im (h:done<=found)(hf:found<t.length):(p8 t found done).length=t.length:=by unfold p8;simp only[ai,aJ,bp,aR,cH];lia
theorem zA (h:done<=found)(hf:found<t.length)(hi:i<t.length):(p8 t found done).getD i []=t.getD (yR found done i) []:=by
 unfold p8 yR;simp only[gQ];by_cases c1:i<done
 ·rw[af c1,aM (by simp only[ai,aJ,bp,aR,cH];lia),aM (by simp only[ai,aJ,aR,cH];lia),aM (by simp only[aJ];lia),dm c1]
 ·rw[ae c1];by_cases c2:i=done
  ·rw[af c2,aM (by simp only[ai,aJ,bp,aR,cH];lia),aM (by simp only[ai,aJ,aR,cH];lia),a7 (by simp only[aJ];lia)];have e:i-(List.take done t).length=0:=by simp only[aJ];lia
   rw[e];simp
  ·rw[ae c2];by_cases c3:i<=found
   ·rw[af c3,aM (by simp only[ai,aJ,bp,aR,cH];lia),a7 (by simp only[ai,aJ,aR,cH];lia)];have e:i-(List.take done t++[t[found]?.getD []]).length=i-done-1:=by simp only[ai,aJ,aR,cH];lia
    rw[e,dm (by lia),dH];have e2:done+(i-done-1)=i-1:=by lia
    rw[e2]
   ·rw[ae c3,a7 (by simp only[ai,aJ,bp,aR,cH];lia)];have e:i-(List.take done t++[t[found]?.getD []]++List.take (found-done) (List.drop done t)).length=i-found-1:=by simp only[ai,aJ,bp,aR,cH];lia
    rw[e,dH];have e2:found+1+(i-found-1)=i:=by lia
    rw[e2]
def ent (t:Tab):Mx:=λi j=>(t.getD i []).getD j 0
theorem V4 (h:done<=found)(hf:found<t.length):Al p t.length m (ent (p8 t found done)) (mm t.length (Xy (yR found done)) (ent t)):=.of λi j hi _=>by rw[RX _ (Em h hf hi)];unfold ent;rw[zA h hf hi]
def yI (p fac:Int)(row:List Int):List Int:=(row.map λn=>fac*n).map (pl p)
def zM (p:Int)(row first:List Int)(at':Nat):List Int:=List.zipWith (λn o=>pl p (n-row.getD at' 0*o)) row first
def uZ (p fac:Int)(t:Tab)(at' done:Nat):Tab:=t.mapIdx λplace row=>if place=done then yI p fac (t.getD done []) else zM p row (yI p fac (t.getD done [])) at'
theorem Rp (p fac:Int)(t:Tab)(at' done:Nat):(uZ p fac t at' done).length=t.length:=by unfold uZ;rw[bV]
theorem wW (p fac:Int)(row:Li)(j:Nat):(yI p fac row).getD j 0=pl p (fac*row.getD j 0):=by unfold yI;rw[mV _ (lH p),mV _ (aU fac)]
theorem Gy (h1:j<row.length)(h2:j<first.length):(zM p row first at').getD j 0=pl p (row.getD j 0-row.getD at' 0*first.getD j 0):=by unfold zM;rw[jx (by rw[eP];lia),iu,jx h1,jx h2]
theorem Ge (hi:i<t.length):(uZ p fac t at' done).getD i []=if i=done then yI p fac (t.getD done []) else zM p (t.getD i []) (yI p fac (t.getD done [])) at':=by unfold uZ;simp only[gQ,b9,ac hi,dJ,eH]
def BZ (fac:Int)(t:Tab)(at' done:Nat):Nat->Int:=λi=>if i=done then fac else -(ent t i at' * fac)
theorem Uv (hd:done<t.length)(hm:∀i,i<t.length->(t.getD i []).length=m):Al p t.length m (ent (uZ p fac t at' done)) (mm t.length (Qc done (BZ fac t at' done)) (ent t)):=λi j hi hj=>by
 rw[RJ _ _ hi hd];show p ∣ ((uZ p fac t at' done).getD i []).getD j 0-_;rw[Ge hi];have f0:=ni p (fac*(t.getD done []).getD j 0);by_cases c:i=done
 ·rw[af c,af c,wW,c6];unfold BZ;rw[af c];exact f0
 ·rw[ae c,ae c];have l1:=hm i hi;have l2:(yI p fac (t.getD done [])).length=m:=by unfold yI;rw[aa,aa];exact hm done hd
  rw[Gy (by lia) (by lia),wW];unfold BZ;rw[ae c];show p ∣ _-((t.getD i []).getD j 0 + -((t.getD i []).getD at' 0*fac)*(t.getD done []).getD j 0);have f1:=ni p ((t.getD i []).getD j 0-(t.getD i []).getD at' 0*pl p (fac*(t.getD done []).getD j 0));generalize pl p ((t.getD i []).getD j 0-(t.getD i []).getD at' 0*pl p (fac*(t.getD done []).getD j 0))=u at *
  generalize pl p (fac*(t.getD done []).getD j 0)=v at *
  generalize (t.getD i []).getD j 0=x at *
  generalize (t.getD i []).getD at' 0=y at *
  generalize (t.getD done []).getD j 0=z at *
  have e:u-(x + -(y*fac)*z)=(u-(x-y*v)) + -(y*(v-fac*z)):=by rw[iM,bM,cw];lia
  rw[e];exact bE f1 (bu.mpr (aO f0))
theorem Vs (hd:done<t.length)(hf:p ∣ fac*ent t done at'-1):tY p t.length (Qc done (BZ fac t at' done)) (Qc done λi=>ent t i at'):=by
 have c0:BZ fac t at' done done=fac:=af rfl;refine⟨Le hd (by rw[c0];exact hf) λi _ hne=>?_,Le hd (by rw[c0,cf];exact hf) λi _ hne=>?_⟩
 ·have ci:BZ fac t at' done i = -(ent t i at' * fac):=ae hne;rw[ci];generalize ent t i at'=y;generalize ent t done at'=z at *
  have e:y + -(y*fac)*z = -(y*(fac*z-1)):=by rw[iM,bM,cw,bO];lia
  rw[e];exact bu.mpr (aO hf)
 ·have ci:BZ fac t at' done i = -(ent t i at' * fac):=ae hne;rw[ci,c0];have e:-(ent t i at' * fac)+ent t i at' * fac=0:=by lia
  rw[e];exact aV p
def Kc (t:Tab)(at' d:Nat):Option Nat:=((List.range (t.length-d)).map λk=>d+k).find? λi=>decide (ent t i at'≠0)
theorem wQ (h:Kc t at' d=some f):d<=f/\f<t.length/\ent t f at'≠0:=by unfold Kc at h;have h1:=g7 h;have h2:=eC h;obtain⟨k,hk,e⟩:=aP.mp h2;have hk:=aY.mp hk;exact⟨by lia,by lia,bI h1⟩
theorem Hd (h:Kc t at' d=none)(h1:d<=i)(h2:i<t.length):ent t i at'=0:=by unfold Kc at h;have:=List.find?_eq_none.mp h i (aP.mpr ⟨i-d,aY.mpr (by lia),by lia⟩);simpa using this
def Xm (p:Int)(iv:Int->Int)(t:Tab)(at' done:Nat):Tab:=uZ p (iv (ent t done at')) t at' done
def Uu (p:Int)(iv:Int->Int)(at':Nat)(s:Tab×Nat):Tab×Nat:=match Kc s.1 at' s.2 with
 |none=>s
 |some f=>(Xm p iv (p8 s.1 f s.2) at' s.2,s.2+1)
def Nv (p:Int)(iv:Int->Int)(t0:Tab):Nat->Tab×Nat
 |0=>(t0,0)
 |k+1=>Uu p iv k (Nv p iv t0 k)
structure EI (p:Int)(n m:Nat)(t0:Tab)(k:Nat)(t:Tab)(d:Nat):Prop where
 len:t.length=n
 row:∀i,i<n->(t.getD i []).length=m
 red:∀i j,pl p (ent t i j)=ent t i j
 mul:∃A B,tY p n A B/\Al p n m (ent t) (mm n A (ent t0))
 dn:d<=n
 piv:∃v:Nat->Nat,(∀i,i<d->v i<k)/\(∀i j,i<j->j<d->v i<v j)/\(∀i,i<d->ent t i (v i)=1)/\(∀i r,i<d->r<n->r≠i->ent t r (v i)=0)/\∀i c,i<d->c<v i->ent t i c=0
 low:∀i c,d<=i->i<n->c<k->ent t i c=0
theorem Kz (h:done<=found)(hf:found<t.length)(hi:i<t.length):ent (p8 t found done) i j=ent t (yR found done i) j:=by unfold ent;rw[zA h hf hi]
theorem Wb (hi:i<t.length)(hd:done<t.length)(hm:∀i,i<t.length->(t.getD i []).length=m)(hj:j<m):ent (uZ p fac t at' done) i j=if i=done then pl p (fac*ent t done j) else pl p (ent t i j-ent t i at' * pl p (fac*ent t done j)):=by
 unfold ent;rw[Ge hi];split
 ·exact wW _ _ _ _
 ·rw[Gy (by rw[hm i hi];exact hj) (by unfold yI;rw[aa,aa,hm done hd];exact hj),wW]
theorem Mi (hm:∀i,i<t.length->(t.getD i []).length=m)(hj:m<=j):ent t i j=0:=by
 unfold ent;by_cases c:i<t.length
 ·exact jj (by rw[hm i c];exact hj)
 ·rw[dX (l:=t),bG (by lia)];rfl
theorem oJ (h:t.length<=i):ent t i j=0:=by unfold ent;rw[dX (l:=t),bG h];rfl
theorem Nz (hd:done<t.length)(hm:∀i,i<t.length->(t.getD i []).length=m)(hi:i<t.length):((uZ p fac t at' done).getD i []).length=m:=by
 rw[Ge hi];have l2:(yI p fac (t.getD done [])).length=m:=by unfold yI;rw[aa,aa];exact hm done hd
 split
 ·exact l2
 ·unfold zM;rw[eP,l2,hm i hi,i8]
theorem EI.step (hp:2<=p)(hiv:∀x,0<x->x<p->p ∣ iv x*x-1)(hk:k<m)(I:EI p n m t0 k t d):EI p n m t0 (k+1) (Uu p iv k (t,d)).1 (Uu p iv k (t,d)).2:=by
 obtain⟨v,v1,v2,v3,v4,v5⟩:=I.piv;unfold Uu;cases hf:Kc t k d with
 |none=>
  refine⟨I.len,I.row,I.red,I.mul,I.dn,⟨v,λi hi=>Nat.lt_succ_of_lt (v1 i hi),v2,v3,v4,v5⟩,λi c h1 h2 h3=>?_⟩;by_cases c':c=k
  ·rw[c'];exact Hd hf h1 (by rw[I.len];exact h2)
  ·exact I.low i c h1 h2 (by lia)
 |some f=>
  show EI p n m t0 (k+1) (Xm p iv (p8 t f d) k d) (d+1);obtain⟨f1,f2,f3⟩:=wQ hf;have tl:=I.len;have ml:(p8 t f d).length=n:=by rw[Im f1 f2,tl]
  have mr:∀i,i<(p8 t f d).length->((p8 t f d).getD i []).length=m:=λi hi=>by rw[ml]at hi;rw[zA f1 f2 (by lia)];exact I.row _ (by have:=Em (i:=i) f1 f2 (by lia);lia)
  have me:∀i j,i<n->ent (p8 t f d) i j=ent t (yR f d i) j:=λi j hi=>Kz f1 f2 (by lia);have sd:yR f d d=f:=by unfold yR;rw[ae (by lia),af rfl]
  have slo:∀i,i<d->yR f d i=i:=λi hi=>af hi;have shi:∀i,d<=i->d<=yR f d i:=λi hi=>by
   unfold yR;rw[ae (by lia)]
   repeat' split
   all_goals lia
  have sn:∀i,i<n->yR f d i<n:=λi hi=>by rw[<- tl];exact Em f1 f2 (by lia)
  have dn:d<n:=by lia
  have xr:=I.red f k;have x0:0<ent t f k/\ent t f k<p:=by have:=zF (z:=p) (n:=ent t f k) (by lia);rw[xr]at this;lia
  have hx:=hiv _ x0.1 x0.2;unfold Xm;rw[me d k dn,sd];generalize hfac:iv (ent t f k)=fac at hx;generalize hM:p8 t f d=M at *
  have el:(uZ p fac M k d).length=n:=by rw[Rp,ml]
  have ee:∀i j,i<n->j<m->ent (uZ p fac M k d) i j=if i=d then pl p (fac*ent M d j) else pl p (ent M i j-ent M i k*pl p (fac*ent M d j)):=λi j hi hj=>Wb (by lia) (by lia) mr hj;have lowM:∀c,c<k->ent M d c=0:=λc hc=>by rw[me d c dn,sd];exact I.low f c f1 (by lia) hc
  have e1:∀i c,i<n->c<k->ent (uZ p fac M k d) i c=if i=d then 0 else ent t (yR f d i) c:=λi c hi hc=>by rw[ee i c hi (by lia),lowM c hc,aU,lH,aU,aS,me i c hi,I.red]
  have e2:∀i,i<n->ent (uZ p fac M k d) i k=if i=d then 1 else 0:=λi hi=>by
   have one:pl p (fac*ent M d k)=1:=by
    rw[me d k dn,sd];have h1:pl p 1=1:=by rw[kh (by lia)];exact bx (by lia) (by lia)
    rw[<- h1];exact(qw p _ _).mpr hx
   rw[ee i k hi hk,one,bO,cB,lH]
  refine⟨el,λi hi=>Nz (by lia) mr (by lia),λi j=>?_,?_,by lia,⟨λi=>if i<d then v i else k,λi hi=>?_,λi j h1 h2=>?_,λi hi=>?_,λi r h1 h2 h3=>?_,λi c h1 h2=>?_⟩,λi c h1 h2 h3=>?_⟩
  ·by_cases c1:i<n
   ·by_cases c2:j<m
    ·rw[ee i j c1 c2];split<;>exact uF _ _
    ·rw[Mi (m:=m) (λi hi=>Nz (by lia) mr (by rw[el]at hi;lia)) (by lia),lH]
   ·rw[oJ (by lia),lH]
  ·obtain⟨A,B,hi,ha⟩:=I.mul;have i1:tY p n (Xy (yR f d)) (Xy (tau f d)):=⟨Nm sn λi _=>Wa f1 i,Nm (λi h=>by rw[<- tl];exact Y7 f1 f2 (by lia)) λi _=>Wf f1 i⟩;have hxM:p ∣ fac*ent M d k-1:=by rw[me d k dn,sd];exact hx
   have i2:tY p M.length (Qc d (BZ fac M k d)) (Qc d λi=>ent M i k):=Vs (by lia) hxM;rw[ml]at i2;have a1:Al p n m (ent M) (mm n (Xy (yR f d)) (ent t)):=by rw[<- hM,<- tl];exact V4 f1 f2
   have a2:Al p n m (ent (uZ p fac M k d)) (mm n (Qc d (BZ fac M k d)) (ent M)):=by have:=Uv (p:=p) (fac:=fac) (t:=M) (at':=k) (done:=d) (m:=m) (by lia) mr;rw[ml]at this;exact this
   refine⟨mm n (Qc d (BZ fac M k d)) (mm n (Xy (yR f d)) A),_,i2.mul (i1.mul hi),a2.trans ?_⟩;refine((Al.refl p n n _).mul (a1.trans (((Al.refl p n n _).mul ha).trans (Al.rF p n n n m _ _ _).symm))).trans (Al.rF p n n n m _ _ _).symm
  ·show(if i<d then v i else k)<k+1;split
   ·rename_i q;have:=v1 i q;lia
   ·lia
  ·show(if i<d then v i else k)<(if j<d then v j else k);rw[af (by lia)];split
   ·rename_i q;exact v2 i j h1 q
   ·exact v1 i (by lia)
  ·show ent _ i (if i<d then v i else k)=1;split
   ·rename_i q;rw[e1 i _ (by lia) (v1 i q),ae (by lia),slo i q];exact v3 i q
   ·rw[e2 i (by lia),af (by lia)]
  ·show ent _ r (if i<d then v i else k)=0;split
   ·rename_i q;rw[e1 r _ h2 (v1 i q)];split
    ·rfl
    ·refine v4 i _ q (sn r h2) λz=>?_;by_cases c:r<d
     ·rw[slo r c]at z;exact h3 z
     ·have:=shi r (by lia);lia
   ·rw[e2 r h2,ae (by lia)]
  ·have h2:c<(if i<d then v i else k):=h2;by_cases q:i<d
   ·rw[af q]at h2;rw[e1 i c (by lia) (by have:=v1 i q;lia),ae (by lia),slo i q];exact v5 i c q h2
   ·rw[ae q]at h2;rw[e1 i c (by lia) h2,af (by lia)]
  ·by_cases q:c=k
   ·rw[q,e2 i h2,ae (by lia)]
   ·rw[e1 i c h2 (by lia),ae (by lia)];exact I.low _ c (shi i (by lia)) (sn i h2) (by lia)
theorem EI.start (h1:t0.length=n)(h2:∀i,i<n->(t0.getD i []).length=m)(h3:∀i j,pl p (ent t0 i j)=ent t0 i j):EI p n m t0 0 t0 0:=
 ⟨h1,h2,h3,⟨ph,ph,.unit p n,(Al.of λi j hi _=>sG (ent t0) hi j).symm⟩,be n,⟨λ_=>0,λ_ h=>absurd h (dt _),λ_ _ _ h=>absurd h (dt _),λ_ h=>absurd h (dt _),λ_ _ h=>absurd h (dt _),λ_ _ h=>absurd h (dt _)⟩,λ_ _ _ _ h=>absurd h (dt _)⟩
theorem EI.all (hp:2<=p)(hiv:∀x,0<x->x<p->p ∣ iv x*x-1)(h1:t0.length=n)(h2:∀i,i<n->(t0.getD i []).length=m)(h3:∀i j,pl p (ent t0 i j)=ent t0 i j):∀k,k<=m->EI p n m t0 k (Nv p iv t0 k).1 (Nv p iv t0 k).2
 |0,_=>EI.start h1 h2 h3
 |k+1,h=>EI.step hp hiv (by lia) (EI.all hp hiv h1 h2 h3 k (by lia))
def Qa (n i:Nat):List Int:=(List.replicate n (0:Int)).set i 1
theorem Gg (n i:Nat):(Qa n i).length=n:=by unfold Qa;rw[bR,aL]
theorem WM (h:j<n):(Qa n i).getD j 0=ph i j:=by
 unfold Qa ph;rw[jx (by rw[bR,aL];exact h),List.getElem_set];split
 ·rfl
 ·exact cM ..
def JD (n:Nat):Tab:=(List.range n).map λi=>Qa n i
theorem zg (n:Nat):(JD n).length=n:=by unfold JD;rw[aa,aq]
theorem Zm (h:i<n):(JD n).getD i []=Qa n i:=by unfold JD;rw[gQ,aw,cg h];rfl
def oG (p:Int)(rows:Tab):Tab:=List.zipWith (λrow unit=>(row++unit).map (pl p)) rows (JD rows.length)
theorem Af (p:Int)(rows:Tab):(oG p rows).length=rows.length:=by unfold oG;rw[eP,zg,i8]
theorem zz (h:i<rows.length):(oG p rows).getD i []=(rows.getD i []++Qa rows.length i).map (pl p):=by unfold oG;have u:=Zm h;rw[gQ,ac (by rw[zg];exact h)]at u;have u:(JD rows.length)[i]'(by rw[zg];exact h)=Qa rows.length i:=u;rw[gQ,ac (by rw[eP,zg,i8];exact h),eH,iu,u,gQ,ac h,eH]
theorem V6 {a b:Li}{j:Nat}:(a++b).getD j 0=if j<a.length then a.getD j 0 else b.getD (j-a.length) 0:=by
 rw[gQ];split
 ·rename_i h;rw[aM h,gQ]
 ·rename_i h;rw[a7 (by lia),gQ]
theorem I8 {p:Int}{rows:Tab}{w i j:Nat}(hi:i<rows.length)(hw:∀i,i<rows.length->(rows.getD i []).length=w):ent (oG p rows) i j=pl p (if j<w then ent rows i j else(Qa rows.length i).getD (j-w) 0):=by show((oG p rows).getD i []).getD j 0=_;rw[zz hi,mV _ (lH p),V6,hw i hi];rfl
theorem G8:pl p (ent (oG p rows) i j)=ent (oG p rows) i j:=by
 by_cases h:i<rows.length
 ·unfold ent;rw[zz h,mV _ (lH p),uF]
 ·rw[oJ (by rw[Af];lia),lH]
def m6 (p:Int)(iv:Int->Int)(rows:Tab)(w:Nat):Tab:=(Nv p iv (oG p rows) w).1
structure Yk (p:Int)(n w:Nat)(rows t:Tab)(d:Nat):Prop where
 len:t.length=n
 row:∀i,i<n->(t.getD i []).length=w+n
 red:∀i j,pl p (ent t i j)=ent t i j
 inv:∃B,tY p n (λi j=>ent t i (w+j)) B
 mul:Al p n w (ent t) (mm n (λi j=>ent t i (w+j)) (ent rows))
 dn:d<=n
 piv:∃v:Nat->Nat,(∀i,i<d->v i<w)/\(∀i j,i<j->j<d->v i<v j)/\(∀i,i<d->ent t i (v i)=1)/\(∀i r,i<d->r<n->r≠i->ent t r (v i)=0)/\∀i c,i<d->c<v i->ent t i c=0
 low:∀i c,d<=i->i<n->c<w->ent t i c=0
theorem tY.congr (h:tY p n A B)(e:Al p n n A A'):tY p n A' B:=
 ⟨(e.symm.mul (.refl p n n B)).trans h.ab,((Al.refl p n n B).mul e.symm).trans h.ba⟩
theorem Bu {iv:Int->Int}{rows:Tab}{n w:Nat}(hp:2<=p)(hiv:∀x,0<x->x<p->p ∣ iv x*x-1)(hn:rows.length=n)(hw:∀i,i<n->(rows.getD i []).length=w):Yk p n w rows (m6 p iv rows w) (Nv p iv (oG p rows) w).2:=by
 subst hn;have I:=EI.all (m:=w+rows.length) hp hiv (Af p rows) (λi hi=>by rw[zz hi,aa,ai,hw i hi,Gg]) (λi j=>G8) w (by lia);unfold m6;generalize (Nv p iv (oG p rows) w).1=t at *
 generalize (Nv p iv (oG p rows) w).2=d at *
 obtain⟨A,B,hi,ha⟩:=I.mul;have k1:Al p rows.length rows.length A (λi j=>ent t i (w+j)):=λi j hi hj=>by
  have h:=(ha i (w+j) hi (by lia));have e:Al p rows.length rows.length (mm rows.length A (λk l=>ent (oG p rows) k (w+l))) A:=((Al.refl p _ _ A).mul λk l hk hl=>by
   rw[I8 hk hw,ae (by lia),show w+l-w=l by lia,WM hl];exact ni _ _).trans (.of λi j _ hj=>K3 A i hj)
  have h2:=e i j hi hj;have h3:mm rows.length A (ent (oG p rows)) i (w+j)=mm rows.length A (λk l=>ent (oG p rows) k (w+l)) i j:=rfl;rw[h3]at h;generalize mm rows.length A (λk l=>ent (oG p rows) k (w+l)) i j=y at *
  have e2:A i j-ent t i (w+j) = -((ent t i (w+j)-y)+(y-A i j)):=by lia
  rw[e2];exact bu.mpr (bE h h2)
 refine⟨I.len,I.row,I.red,⟨B,hi.congr k1⟩,?_,I.dn,I.piv,I.low⟩;have k2:Al p rows.length w (ent (oG p rows)) (ent rows):=λi j hi hj=>by rw[I8 hi hw,af hj];exact ni _ _
 have k3:Al p rows.length w (ent t) (mm rows.length A (ent (oG p rows))):=λi j hi hj=>ha i j hi (by lia);exact k3.trans (k1.mul k2)
theorem Wk {n:Nat}{v:Nat->Nat}(h1:∀i,i<n->v i<n)(h2:∀i j,i<j->j<n->v i<v j):∀i,i<n->v i=i:=by
 have lo:∀i,i<n->i<=v i:=λi=>by
  induction i with
  |zero=>intro _;exact be _
  |succ i ih=>intro hi;have:=ih (by lia);have:=h2 i (i+1) (by lia) hi;lia
 have hi:∀k i,i+k+1=n->v i<=i:=λk=>by
  induction k with
  |zero=>intro i h;have:=h1 i (by lia);lia
  |succ k ih=>intro i h;have:=ih (i+1) (by lia);have:=h2 i (i+1) (by lia) (by lia);lia
 intro i h;have:=lo i h;have:=hi (n-1-i) i (by lia);lia
theorem Yk.unit {n:Nat}{rows t:Tab}{d:Nat}(hp:2<=p)(c:Yk p n n rows t d)(h:∃B,tY p n (ent rows) B):Al p n n (mm n (λi j=>ent t i (n+j)) (ent rows)) ph:=by
 obtain⟨B,hB⟩:=h;obtain⟨C,hC⟩:=c.inv;obtain⟨v,v1,v2,v3,v4,v5⟩:=c.piv;have iL:=(hC.mul hB).congr c.mul.symm;have dn:d=n:=by
  by_cases e:d=n
  ·exact e
  ·exfalso;have dn:=c.dn;have z:=iL.ab d d (by lia) (by lia);have s:mm n (ent t) (mm n B C) d d=0:=mO λk hk=>by rw[c.low d k (ao _) (by lia) hk,bT]
   have u:ph d d=1:=af rfl;rw[s,u]at z;have:=eZ (by decide) (bu.mpr z);lia
 subst dn;have vi:=Wk v1 v2;refine c.mul.symm.trans (.of λi j hi hj=>?_);have e3:=v3 j hj;rw[vi j hj]at e3;unfold ph;split
 ·rename_i q;rw[q];exact e3
 ·rename_i q;have:=v4 j i hj hi q;rw[vi j hj]at this;exact this
theorem Mf (f:Nat->Int):∀n,((List.range n).map f).sum=sm n f
 |0=>rfl
 |n+1=>by rw[ia,bF,List.sum_append,Mf f n];show sm n f+(f n+0)=sm n f+f n;rw[bH]
def uA (p:Int)(a b:Tab)(w:Nat):Tab:=a.map λrow=>(List.range w).map λj=>((List.range row.length).map λk=>row.getD k 0*ent b k j).sum % p
theorem rC {t:Tab}{i:Nat}(h:i<t.length):t.getD i []=t[i]:=by rw[gQ,ac h];rfl
theorem vH {t:Tab}(f:List Int->List Int){i:Nat}(h:i<t.length):(t.map f).getD i []=f (t.getD i []):=by rw[rC (by rw[aa];exact h),bv,rC h]
theorem Kf (f:Nat->Int){w j:Nat}(h:j<w):((List.range w).map f).getD j 0=f j:=by rw[jx (by rw[aa,aq];exact h),bv,bq]
theorem GK {a b:Tab}{w l i j:Nat}(hi:i<a.length)(hl:(a.getD i []).length=l)(hj:j<w):ent (uA p a b w) i j=mm l (ent a) (ent b) i j % p:=by show((uA p a b w).getD i []).getD j 0=_;unfold uA;rw[vH _ hi,Kf _ hj,Mf,hl];rfl
theorem WP {s t:Tab}{m:Nat}(h1:s.length=t.length)(h2:∀i,i<t.length->(s.getD i []).length=m/\(t.getD i []).length=m)(h3:∀i j,i<t.length->j<m->ent s i j=ent t i j):s=t:=by refine cu h1 λi hi hi'=>?_;have e1:=rC hi;have e2:=rC hi';obtain⟨l1,l2⟩:=h2 i hi';refine cu (by rw[<- e1,<- e2,l1,l2]) λj hj hj'=>?_;have:=h3 i j hi' (by rw[<- l2,e2];exact hj');unfold ent at this;rw[e1,e2,jx hj,jx hj']at this;exact this
theorem Fd {a b t:Tab}{n l w:Nat}(hp:0<p)(ha:a.length=n)(hl:∀i,i<n->(a.getD i []).length=l)(ht:t.length=n)(hw:∀i,i<n->(t.getD i []).length=w)(hr:∀i j,pl p (ent t i j)=ent t i j)(h:Al p n w (ent t) (mm l (ent a) (ent b))):uA p a b w=t:=by
 have hlen:(uA p a b w).length=t.length:=by unfold uA;rw[aa,ha,ht]
 refine WP (m:=w) hlen (λi hi=>⟨?_,hw i (by lia)⟩) λi j hi hj=>?_
 ·unfold uA;rw[vH _ (by lia),aa,aq]
 ·rw[GK (by lia) (hl i (by lia)) hj,<- kh hp,<- hr i j];refine((qw p _ _).mpr ?_).symm;exact h i j (by lia) hj
def u9 (n:Nat):Tab:=(List.range n).map λi=>(List.range n).map λk=>ph i k
theorem uH (n:Nat):(u9 n).length=n:=by unfold u9;rw[aa,aq]
theorem KD {n i:Nat}(h:i<n):(u9 n).getD i []=(List.range n).map λk=>ph i k:=by rw[rC (by rw[uH];exact h)];unfold u9;rw[bv,bq]
theorem wN {n i j:Nat}(h:i<n)(hj:j<n):ent (u9 n) i j=ph i j:=by show((u9 n).getD i []).getD j 0=_;rw[KD h,Kf _ hj]
theorem zY (h:i<n):((u9 n).getD i []).length=n:=by rw[KD h,aa,aq]
theorem Ib (hp:2<=p)(i j:Nat):pl p (ent (u9 n) i j)=ent (u9 n) i j:=by
 by_cases h:i<n
 ·by_cases hj:j<n
  ·rw[wN h hj];unfold ph;split
   ·rw[kh (by lia)];exact bx (by lia) (by lia)
   ·exact lH p
  ·rw[Mi (m:=n) (λi hi=>zY (by rw[uH]at hi;exact hi)) (by lia),lH]
 ·rw[oJ (by rw[uH];lia),lH]
def pU (w:Nat)(t:Tab):Tab:=t.map λrow=>row.take w
def pq (w:Nat)(t:Tab):Tab:=t.map λrow=>row.drop w
theorem rK {w:Nat}{t:Tab}{i j:Nat}(hj:j<w):ent (pU w t) i j=ent t i j:=by
 by_cases h:i<t.length
 ·show((pU w t).getD i []).getD j 0=_;unfold pU;rw[vH _ h,gQ,dm hj,<- gQ];rfl
 ·rw[oJ (by unfold pU;rw[aa];lia),oJ (by lia)]
theorem xU {w:Nat}{t:Tab}{i j:Nat}:ent (pq w t) i j=ent t i (w+j):=by
 by_cases h:i<t.length
 ·show((pq w t).getD i []).getD j 0=_;unfold pq;rw[vH _ h,gQ,dH,<- gQ];rfl
 ·rw[oJ (by unfold pq;rw[aa];lia),oJ (by lia)]
theorem Hh (w:Nat)(t:Tab):(pU w t).length=t.length:=by unfold pU;rw[aa]
theorem Ob (w:Nat)(t:Tab):(pq w t).length=t.length:=by unfold pq;rw[aa]
def mH (p:Int)(iv:Int->Int)(rows:Tab)(w:Nat):Tab:=pU w (m6 p iv rows w)
def turnT (p:Int)(iv:Int->Int)(rows:Tab)(w:Nat):Tab:=pq w (m6 p iv rows w)
def oV (p:Int)(iv:Int->Int)(rows:Tab)(w:Nat):Tab:=pq rows.length (m6 p iv (turnT p iv rows w) rows.length)
structure VN (p:Int)(n m:Nat)(t:Tab):Prop where
 len:t.length=n
 row:∀i,i<n->(t.getD i []).length=m
 red:∀i j,pl p (ent t i j)=ent t i j
structure Q6 (n w:Nat)(t:Tab)(d:Nat)(v:Nat->Nat):Prop where
 dn:d<=n
 lt:∀i,i<d->v i<w
 up:∀i j,i<j->j<d->v i<v j
 one:∀i,i<d->ent t i (v i)=1
 alone:∀i r,i<d->r<n->r≠i->ent t r (v i)=0
 before:∀i c,i<d->c<v i->ent t i c=0
 low:∀i c,d<=i->i<n->c<w->ent t i c=0
theorem Yk.left {n w:Nat}{rows t:Tab}{d:Nat}(c:Yk p n w rows t d):VN p n w (pU w t):=by
 refine⟨by rw[Hh,c.len],λi hi=>?_,λi j=>?_⟩
 ·unfold pU;rw[vH _ (by rw[c.len];exact hi),aJ,c.row i hi];lia
 ·by_cases h:j<w
  ·rw[rK h,c.red]
  ·by_cases hi:i<n
   ·have:ent (pU w t) i j=0:=jj (by
     unfold pU;rw[vH _ (by rw[c.len];exact hi),aJ];lia)
    rw[this,lH]
   ·rw[oJ (by rw[Hh,c.len];lia),lH]
theorem Yk.right {n w:Nat}{rows t:Tab}{d:Nat}(c:Yk p n w rows t d):VN p n n (pq w t):=by refine⟨by rw[Ob,c.len],λi hi=>?_,λi j=>by rw[xU,c.red]⟩;unfold pq;rw[vH _ (by rw[c.len];exact hi),bp,c.row i hi];lia
theorem TJ {iv:Int->Int}{rows:Tab}{n w:Nat}(hp:2<=p)(hiv:∀x,0<x->x<p->p ∣ iv x*x-1)(hn:rows.length=n)(hw:∀i,i<n->(rows.getD i []).length=w) :
  VN p n w (mH p iv rows w)/\VN p n n (turnT p iv rows w)/\VN p n n (oV p iv rows w)/\uA p (turnT p iv rows w) rows w=mH p iv rows w/\(∃d v,Q6 n w (mH p iv rows w) d v) /\
   uA p (turnT p iv rows w) (oV p iv rows w) n=u9 n/\uA p (oV p iv rows w) (turnT p iv rows w) n=u9 n:=by
 have c:=Bu hp hiv hn hw;have tF:VN p n w (mH p iv rows w):=c.left;have tT:VN p n n (turnT p iv rows w):=c.right;have eT:ent (turnT p iv rows w)=λi j=>ent (m6 p iv rows w) i (w+j):=by funext i j;exact xU
 have c2:=Bu (rows:=turnT p iv rows w) hp hiv tT.len tT.row;have eB:oV p iv rows w=pq n (m6 p iv (turnT p iv rows w) n):=by unfold oV;rw[hn]
 have tB:VN p n n (oV p iv rows w):=by rw[eB];exact c2.right
 have eb:ent (oV p iv rows w)=λi j=>ent (m6 p iv (turnT p iv rows w) n) i (n+j):=by rw[eB];funext i j;exact xU
 obtain⟨Bi,hBi⟩:=c.inv;rw[<- eT]at hBi;have bt:Al p n n (mm n (ent (oV p iv rows w)) (ent (turnT p iv rows w))) ph:=by rw[eb];exact c2.unit hp ⟨Bi,hBi⟩
 have tb:Al p n n (mm n (ent (turnT p iv rows w)) (ent (oV p iv rows w))) ph:=hBi.left bt;have p0:0<p:=by lia
 have e1:Al p n n (ent (u9 n)) ph:=.of λi j hi hj=>wN hi hj;refine⟨tF,tT,tB,?_,?_,?_,?_⟩
 ·refine Fd p0 tT.len tT.row tF.len tF.row tF.red ?_;rw[eT];exact(Al.of λi j hi hj=>rK hj:Al p n w (ent (mH p iv rows w)) (ent (m6 p iv rows w))).trans c.mul
 ·obtain⟨v,v1,v2,v3,v4,v5⟩:=c.piv;refine⟨_,v,c.dn,v1,v2,λi hi=>?_,λi r hi hr hne=>?_,λi c' hi hc=>?_,λi c' h1 h2 h3=>?_⟩
  ·rw[show mH p iv rows w=pU w (m6 p iv rows w) from rfl,rK (v1 i hi)];exact v3 i hi
  ·rw[show mH p iv rows w=pU w (m6 p iv rows w) from rfl,rK (v1 i hi)];exact v4 i r hi hr hne
  ·rw[show mH p iv rows w=pU w (m6 p iv rows w) from rfl,rK (by have:=v1 i hi;lia)];exact v5 i c' hi hc
  ·rw[show mH p iv rows w=pU w (m6 p iv rows w) from rfl,rK h3];exact c.low i c' h1 h2 h3
 ·exact Fd p0 tT.len tT.row (uH n) (λi hi=>zY hi) (λi j=>Ib hp i j) (e1.trans tb.symm)
 ·exact Fd p0 tB.len tB.row (uH n) (λi hi=>zY hi) (λi j=>Ib hp i j) (e1.trans bt.symm)
def ofM (n m:Nat)(X:Mx):Tab:=(List.range n).map λi=>(List.range m).map λj=>X i j
theorem NK (n m:Nat)(X:Mx):(ofM n m X).length=n:=by unfold ofM;rw[aa,aq]
theorem RN (h:i<n):(ofM n m X).getD i []=(List.range m).map λj=>X i j:=by rw[rC (by rw[NK];exact h)];unfold ofM;rw[bv,bq]
theorem Uz (h:i<n)(hj:j<m):ent (ofM n m X) i j=X i j:=by show((ofM n m X).getD i []).getD j 0=_;rw[RN h,Kf _ hj]
theorem Va {d w:Nat}{v:Nat->Nat}(h1:∀i,i<d->v i<w)(h2:∀i j,i<j->j<d->v i<v j):d<=w:=by
 have lo:∀i,i<d->i<=v i:=λi=>by
  induction i with
  |zero=>intro _;exact be _
  |succ i ih=>intro hi;have:=ih (by lia);have:=h2 i (i+1) (by lia) hi;lia
 cases d with
 |zero=>exact be _
 |succ d=>have:=lo d (by lia);have:=h1 d (by lia);lia
theorem unit_row (hp:2<=p)(h:Al p n n (mm n A B) ph)(hi:i<n)(hz:∀k,k<n->p ∣ A i k):False:=by
 have z:=h i i hi hi;have s:p ∣ mm n A B i i:=m8 λk hk=>bh (hz k hk);have u:ph i i=1:=af rfl;rw[u]at z;have o:p ∣ 1:=by
  have e:(1:Int)=mm n A B i i-(mm n A B i i-1):=by lia
  rw[e];exact eO s z
 have:=eZ (by decide) o;lia
theorem dep {iv:Int->Int}{r1 r2:Nat}(hp:2<=p)(hiv:∀x,0<x->x<p->p ∣ iv x*x-1)(h:r1<r2)(X:Mx):∃y:Nat->Int,(∃i,i<r2/\¬p ∣ y i)/\∀j,j<r1->p ∣ sm r2 λk=>y k*X k j:=by
 have c:=Bu (iv:=iv) (rows:=ofM r2 r1 X) (w:=r1) hp hiv (NK r2 r1 X) λi hi=>by rw[RN hi,aa,aq]
 generalize m6 p iv (ofM r2 r1 X) r1=t at c;generalize (Nv p iv (oG p (ofM r2 r1 X)) r1).2=d at c;obtain⟨v,v1,v2,_⟩:=c.piv;have dl:=Va v1 v2;obtain⟨B,hB⟩:=c.inv;refine⟨λk=>ent t d (r1+k),?_,λj hj=>?_⟩
 ·by_cases q:∃i,i<r2/\¬p ∣ ent t d (r1+i)
  ·exact q
  ·exfalso;refine unit_row hp hB.ab (i:=d) (by lia) λk hk=>?_;by_cases z:p ∣ ent t d (r1+k)
   ·exact z
   ·exact absurd ⟨k,hk,z⟩ q
 ·have m1:=c.mul d j (by lia) hj;rw[c.low d j (ao _) (by lia) hj]at m1;have e:mm r2 (λi j=>ent t i (r1+j)) (ent (ofM r2 r1 X)) d j=sm r2 λk=>ent t d (r1+k)*X k j:=jn λk hk=>by rw[Uz hk hj]
  rw[e]at m1;have:=bu.mpr m1;have e2:-(0-sm r2 λk=>ent t d (r1+k)*X k j)=sm r2 λk=>ent t d (r1+k)*X k j:=by lia
  rw[e2]at this;exact this
theorem Ik (T:Top K mg cNO cK cR):Ok P w K mg base 1 "unit_row" ["at","length"] (Ed K (pQ cR) (λas=>∃i n:Nat,as=[.int (i:Int),.int (n:Int)]/\i<n/\n<=1000) λas=>match as with
  |[.int i,.int n]=>Qa n.toNat i.toNat
  |_=>[]):=by
 refine Jk T.JC yC (λas ⟨a,b,h,_⟩=>by rw[h];rfl) (λf cdv A outer s H E hr=>⟨_,(jd (p6 (i:=2) yC.nd rfl (Or.inl rfl) (uq (lQ (jc je jh)) (xn 1) (λ_=>rfl)))
 (jd (uO 2 (xn 0) je)
 (jf (zO 2)))),λas hp=>?_⟩)
 obtain⟨i,n,rfl,hi,hn⟩:=hp;refine⟨⟨⟨⟨tJ,tJ⟩,tJ⟩,rfl,by show -(2:Int)^63<=(n:Int);lia,by show((n:Int)).toNat<=1000;lia⟩,λl el=>?_⟩;have el:l=List.replicate n 0:=el;have ll:l.length=n:=by rw[el,aL]
 refine⟨tJ,rfl,rfl,⟨by show -(l.length:Int)<=(i:Int);lia,by show(i:Int)<(l.length:Int);lia⟩,?_⟩;refine⟨rfl,?_⟩;show l.set (lB l.length (i:Int)) 1=Qa ((n:Int)).toNat ((i:Int)).toNat;rw[Vy (by lia),el,aC,aC];rfl
theorem Ce (T:Top K mg cNO cK cR):Ok P w K mg base 2 "unit_table" ["length"] (zc K (pQ cR) (λas=>∃n:Nat,as=[.int (n:Int)]/\n<=1000) λas=>match as with
  |[.int n]=>jm (JD n.toNat)
  |_=>.non):=by
 refine xf T.Es BP (λas ⟨a,h,_⟩=>by rw[h];rfl) (λf cdv A outer s H E hr=>⟨_,(jf (jo (um (Zv (N':=["at","length"]) (cap:=[some 0]) (oZ rfl rfl rfl rfl ⟨⟨rfl,.inr (.inl rfl),BV,.inl rfl,_,rfl,rfl⟩,tJ⟩ ⟨rfl,tJ⟩ rfl) rfl (by rfl) T.oH (xn 0) (λ_ _ _=>(pO 0)) (λ_ _ _=>(jW (vy (Ik T) hr (jc (xn 0) (jc (xn 1) jh))))))))),λas hp=>?_⟩);obtain⟨n,rfl,hn⟩:=hp;refine⟨⟨rfl,⟨by show(0:Int)<=(n:Int);lia,by show(n:Int)<=1000;lia⟩,λk hk=>?_⟩,?_⟩
 ·have hk:k<((n:Int)).toNat:=hk;exact⟨⟨rfl,rfl,tJ⟩,k,n,rfl,by lia,hn⟩
 ·show PV.lst ((List.range ((n:Int)).toNat).map λ(k:Nat)=>PV.ints (Qa ((n:Int)).toNat ((k:Int)).toNat))=jm (JD ((n:Int)).toNat);unfold jm JD;rw[br];rfl
theorem wk (T:Top K mg cNO cK cR):Ok P w K mg base 2 "plain_row" ["kind","row"] (Ed K (pQ cR) (λas=>∃z r,as=[.ob 0 z,.ints r]/\r.length<=1000) λas=>match as with
  |[.ob 0 z,.ints r]=>r.map (pl z)
  |_=>[]):=by
 refine Jk T.Hl Gi (λas ⟨a,b,h,_⟩=>by rw[h];rfl) (λf cdv A outer s H E hr=>⟨_,(jf (lO (Ff (N':=["number","kind"]) (cap:=[some 0]) (oZ rfl rfl rfl rfl ⟨⟨rfl,.inr (.inl rfl),BV,.inl rfl,_,rfl,rfl⟩,tJ⟩ ⟨rfl,tJ⟩ rfl) rfl (xl 1) (λ_ _ _=>(pO 0)) (λ_ _ _=>(qH 1 (pM T) hr (jc (xn 0) jh)))))),λas hp=>?_⟩);obtain⟨z,r,rfl,hr1⟩:=hp;exact⟨⟨rfl,hr1,λn _=>⟨rfl,⟨rfl,tJ⟩,tJ,tJ⟩⟩,rfl⟩
theorem Wg (h1:d<=f)(h2:f<t.length)(h3:ent t f a≠0)(h4:∀j,d<=j->j<f->ent t j a=0):Kc t a d=some f:=by
 cases e:Kc t a d with
 |none=>exact absurd (Hd e h1 h2) h3
 |some g=>
  obtain⟨g1,g2,g3⟩:=wQ e;unfold Kc at e;obtain⟨_,i,hi,ei,hj⟩:=List.find?_eq_some_iff_getElem.mp e;have ei:d+i=g:=by rw[<- ei,bv,bq]
  by_cases c:g<f
  ·exact absurd (h4 g g1 c) g3
  ·by_cases c2:g=f
   ·rw[c2]
   ·exfalso;have q:=hj (f-d) (by lia);rw[bv,bq,show d+(f-d)=f by lia]at q;simp[h3]at q
theorem QL (h:∀j,d<=j->j<t.length->ent t j a=0):Kc t a d=none:=by
 cases e:Kc t a d with
 |none=>rfl
 |some g=>obtain⟨g1,g2,g3⟩:=wQ e;exact absurd (h g g1 g2) g3
def Vm (t:Tab)(a d:Nat):PV:=match Kc t a d with
 |none=>.non
 |some f=>.int (f:Int)
theorem uY (T:Top K mg cNO cK cR):Ok P w K mg base 1 "first_not_nought" ["rows","at","done"] (zc K (pQ cR) (λas=>∃t,∃a d:Nat,as=[jm t,.int (a:Int),.int (d:Int)]/\t.length<=1000/\d<=t.length/\∀i,i<t.length->a<(t.getD i []).length) λas=>match as with
  |[.lst ps,.int a,.int d]=>Vm (ps.map jZ) a.toNat d.toNat
  |_=>.non):=by
 refine xf T.vI pZ (λas ⟨a,b,c,h,_⟩=>by rw[h];rfl) (λf cdv A outer s H E hr=>⟨_,(jd (Ot (k:=3) aE rfl (by rfl) T.oH (xn 2) (lG T.jD (xv 0)) pZ.nd rfl (Or.inl rfl)
 (jf (j7 (vo (rO (jt (xl_of (jt (xv 0) (xn 3) (λ_ _=>rfl))) (xn 1) (λ_ _=>rfl))) je)
 (jf (jo (xn 3)))
 jO)))
 (jf (jo Zu))),λas hp=>?_⟩)
 obtain⟨t,a,d,rfl,ht,hd,ha⟩:=hp;have el:((t.map PV.ints).length:Int)=(t.length:Int):=by rw[aa]
 have goalF:Vm ((t.map PV.ints).map jZ) ((a:Int)).toNat ((d:Int)).toNat=Vm t a d:=by rw[mL,aC,aC]
 refine⟨⟨rfl,rfl,tJ⟩,⟨by show -(2:Int)^62<=(d:Int);lia,by show(d:Int)<2^62;lia,by show -(2:Int)^62<=((t.map PV.ints).length:Int);lia,by show((t.map PV.ints).length:Int)<2^62;lia⟩,λi Z=>∃v,Z=[.fr (jm t),.fr (.int (a:Int)),.fr (.int (d:Int)),v]/\∀j,d<=j->j<d+i->ent t j a=0,⟨.un,rfl,λj h1 h2=>by lia⟩,?_,?_⟩
 ·rintro i Z hi ⟨v,rfl,hz⟩;have hi:i<(((t.map PV.ints).length:Int)-(d:Int)).toNat:=hi;have hi:d+i<t.length:=by lia
  have e1:(d:Int)+(i:Int)=((d+i:Nat):Int):=by lia
  have ev:jZ (lq (jm t) ((d:Int)+(i:Int)))=t.getD (d+i) []:=by rw[e1];exact Av hi
  have ev2:CJ (lq (.ints (jZ (lq (jm t) ((d:Int)+(i:Int))))) (a:Int))=ent t (d+i) a:=by rw[ev];show(t.getD (d+i) []).getD (lB (t.getD (d+i) []).length (a:Int)) 0=_;rw[Vy (ha _ hi)];rfl
  have h1:lM (jm t) ((d:Int)+(i:Int)):=by rw[e1];exact xW hi
  have h2:lq (jm t) ((d:Int)+(i:Int))=.ints (jZ (lq (jm t) ((d:Int)+(i:Int)))):=by rw[e1];exact ym hi
  refine⟨⟨⟨⟨⟨⟨rfl,rfl,h1⟩,h2⟩,rfl,?_⟩,rfl⟩,tJ⟩,λq=>?_,λq=>?_⟩
  ·show lM (.ints (jZ (lq (jm t) ((d:Int)+(i:Int))))) (a:Int);rw[ev];exact Ma (ha _ hi)
  ·have q:¬CJ (lq (.ints (jZ (lq (jm t) ((d:Int)+(i:Int))))) (a:Int))=0:=q;rw[ev2]at q;refine⟨rfl,?_⟩;show PV.int ((d:Int)+(i:Int))=Vm ((t.map PV.ints).map jZ) ((a:Int)).toNat ((d:Int)).toNat;rw[goalF];unfold Vm;rw[Wg (by lia) hi q hz,e1]
  ·have q:¬¬CJ (lq (.ints (jZ (lq (jm t) ((d:Int)+(i:Int))))) (a:Int))=0:=q;rw[ev2]at q;refine⟨_,rfl,λj h1 h2=>?_⟩;by_cases c:j=d+i
   ·rw[c];exact Classical.not_not.mp q
   ·exact hz j h1 (by lia)
 ·rintro Z ⟨v,rfl,hz⟩;have hz:∀j,d<=j->j<d+(((t.map PV.ints).length:Int)-(d:Int)).toNat->ent t j a=0:=hz;refine⟨tJ,?_⟩;show PV.non=Vm ((t.map PV.ints).map jZ) ((a:Int)).toNat ((d:Int)).toNat;rw[goalF];unfold Vm;rw[QL λj h1 h2=>hz j h1 (by lia)]
theorem V5 (xs:List PV)(b:Nat):qZ xs none (some (b:Int))=xs.take b:=by
 unfold qZ;rw[HT.sIx_nat,HT.sIx_none,iA,f9];by_cases h:b<=xs.length
 ·rw[dP h]
 ·rw[fE (by lia),cL (ao _),cL (by lia)]
theorem Ou (xs:List PV)(a:Nat):qZ xs (some (a:Int)) none=xs.drop a:=by
 unfold qZ;rw[HT.sIx_nat,HT.sIx_none];by_cases h:a<=xs.length
 ·rw[dP h,cL (by rw[bp];lia)]
 ·rw[fE (by lia),dE (ao _),dE (by lia),List.take_nil]
theorem Tn (xs:List PV)(hb:b<=xs.length)(h:a<=b):qZ xs (some (a:Int)) (some (b:Int))=(xs.drop a).take (b-a):=by unfold qZ;rw[HT.sIx_nat,HT.sIx_nat,dP hb,dP (by lia)]
theorem wM (T:Top K mg cNO cK cR):Ok P w K mg base 1 "with_row_moved" ["rows","found","done"] (zc K (pQ cR) (λas=>∃t,∃f d:Nat,as=[jm t,.int (f:Int),.int (d:Int)]/\t.length<=300/\d<=f/\f<t.length) λas=>match as with
  |[.lst ps,.int f,.int d]=>jm (p8 (ps.map jZ) f.toNat d.toNat)
  |_=>.non):=by
 refine xf T.yg vX (λas ⟨a,b,c,h,_⟩=>by rw[h];rfl) (λf cdv A outer s H E hr=>⟨_,(jf (jo (um (Jq (um (Jq (um (Jq (um (z7 (nJ (xv 0)) pC (m5 (xn 2)))) (um (uc (jc (xl_of (jt (xv 0) (xn 1) (λ_ _=>rfl))) jh))))) (um (z7 (nJ (xv 0)) (m5 (xn 2)) (m5 (xn 1)))))) (um (z7 (nJ (xv 0)) (m5 (kO (xn 1) je)) pC)))))),λas hp=>?_⟩);obtain⟨t,f,d,rfl,ht,hdf,hf⟩:=hp;have el:(t.map PV.ints).length=t.length:=aa _;have e1:qZ (t.map PV.ints) none (some (d:Int))=(t.take d).map PV.ints:=by rw[V5,iT]
 have e2:qZ (t.map PV.ints) (some (d:Int)) (some (f:Int))=((t.drop d).take (f-d)).map PV.ints:=by rw[Tn _ (by lia) hdf,<- iR,<- iT]
 have e3:qZ (t.map PV.ints) (some ((f:Int)+1)) none=(t.drop (f+1)).map PV.ints:=by rw[show(f:Int)+1=((f+1:Nat):Int) by lia,Ou,iR]
 have e4:jZ (lq (jm t) (f:Int))=t.getD f []:=Av hf;refine⟨⟨⟨⟨⟨⟨rfl,rfl⟩,tJ,rfl⟩,⟨⟨⟨rfl,rfl,xW hf⟩,ym hf⟩,tJ⟩,?_⟩,⟨⟨rfl,rfl⟩,rfl,rfl⟩,?_⟩,⟨⟨rfl,rfl⟩,⟨rfl,tJ⟩,tJ⟩,?_⟩,?_⟩
 ·show(qZ (t.map PV.ints) none (some (d:Int))).length+[PV.ints (jZ (lq (jm t) (f:Int)))].length<=sizeLine;rw[e1,aa,aJ];exact bN (small1000 (by show min d t.length+1<=1000;lia))
 ·show(qZ (t.map PV.ints) none (some (d:Int))++[PV.ints (jZ (lq (jm t) (f:Int)))]).length+(qZ (t.map PV.ints) (some (d:Int)) (some (f:Int))).length<=sizeLine;rw[e1,e2,ai,aa,aa,aJ,aJ,bp];exact bN (small1000 (by show min d t.length+1+min (f-d) (t.length-d)<=1000;lia))
 ·show(qZ (t.map PV.ints) none (some (d:Int))++[PV.ints (jZ (lq (jm t) (f:Int)))]++qZ (t.map PV.ints) (some (d:Int)) (some (f:Int))).length+(qZ (t.map PV.ints) (some ((f:Int)+1)) none).length<=sizeLine;rw[e1,e2,e3,ai,ai,aa,aa,aa,aJ,aJ,bp,bp];exact bN (small1000 (by show min d t.length+1+min (f-d) (t.length-d)+(t.length-(f+1))<=1000;lia))
 ·show PV.lst (qZ (t.map PV.ints) none (some (d:Int))++[PV.ints (jZ (lq (jm t) (f:Int)))]++qZ (t.map PV.ints) (some (d:Int)) (some (f:Int))++qZ (t.map PV.ints) (some ((f:Int)+1)) none)=jm (p8 ((t.map PV.ints).map jZ) ((f:Int)).toNat ((d:Int)).toNat);rw[e1,e2,e3,e4,mL,aC,aC];unfold jm p8;rw[bF,bF,bF];rfl
theorem Rr (z:Int)(row first:Li)(a:Nat):(row.zip first).map (λq=>pl z (q.1-row.getD a 0*q.2))=zM z row first a:=by unfold zM;rw[List.zip,gW]
theorem Bl (T:Top K mg cNO cK cR):Ok P w K mg base 2 "row_without" ["kind","row","at","first"] (Ed K (pQ cR) (λas=>∃z row,∃a:Nat,∃first,as=[.ob 0 z,.ints row,.int (a:Int),.ints first]/\row.length<=1000/\a<row.length/\Bd row/\Bd first) λas=>match as with
  |[.ob 0 z,.ints row,.int a,.ints first]=>zM z row first a.toNat
  |_=>[]):=by
 refine Jk T.Cq Bx (λas ⟨a,b,c,d,h,_⟩=>by rw[h];rfl) (λf cdv A outer s H E hr=>⟨_,(jf (lO (Yw (N':=["number","other","kind","row","at"]) (cap:=[some 0,some 1,some 2]) (oZ rfl rfl rfl rfl ⟨⟨rfl,.inr (.inl rfl),BV,.inl rfl,_,rfl,rfl⟩,⟨⟨rfl,.inr (.inl rfl),BV,.inl rfl,_,rfl,rfl⟩,⟨⟨rfl,.inr (.inl rfl),BV,.inl rfl,_,rfl,rfl⟩,tJ⟩⟩⟩ ⟨rfl,⟨rfl,⟨rfl,tJ⟩⟩⟩ rfl) rfl (by rfl) T.RP (vR (xl 1)) (vR (xl 3)) (λ_ _ _=>(pg_tup rfl (pgs_cons (pO 0) (pgs_cons (pO 1) pgs_nil)))) (λ_ _ _=>(qH 2 (pM T) hr (jc (nZ (xn 0) (n6 (lZ 3 (xn 4) (λ_ _=>rfl)) (xn 1))) jh)))))),λas hp=>?_⟩);obtain⟨z,row,a,first,rfl,hl,ha,hb,hf⟩:=hp
 refine⟨⟨⟨rfl,rfl⟩,hl,λn m h=>⟨rfl,⟨⟨rfl,⟨.inl rfl,rfl,by show -(row.length:Int)<=(a:Int);lia,by show(a:Int)<(row.length:Int);lia⟩,rfl,?_⟩,tJ⟩,tJ,tJ⟩⟩,?_⟩
 ·exact pP (n:=9000) (m:=9000) (YS hb _) (hf m (da h).2)
 ·show(row.zip first).map (λq=>pl z (q.1-row.getD (lB row.length (a:Int)) 0*q.2))=zM z row first ((a:Int)).toNat
  rw[Vy ha,aC];exact Rr z row first a
def lC (p x:Int):Int:=pl p (1*tu x p)
theorem zR (hp:jG p)(x:Int)(h0:0<x)(h1:x<p):Int.gcd x p=1/\p ∣ lC p x*x-1:=by
 have p2:2<=p:=hp.1;have g:Int.gcd x p=1:=by
  have h3:¬x % p=0:=by rw[bx (by lia) h1];lia
  have:=Gb hp h3 1;rw[iN]at this;exact this
 refine⟨g,?_⟩;obtain⟨e1,_⟩:=hov (z:=p) p2 g 1 (lC p x) (by rw[kh (by lia)];exact bx (by lia) (by lia)) rfl;have:pl p (lC p x*x)=pl p 1:=by rw[e1,kh (by lia)];exact(bx (by lia) (by lia)).symm
 exact(qw p _ _).mp this
theorem Qi (hp:jG p)(h:pl p x=x):x.natAbs<2^9000:=by
 have:=zF (z:=p) (n:=x) (by have:=hp.1;lia);rw[h]at this;have h2:=hp.2.1;have:x.natAbs<=2^14:=by lia
 exact aQ this (bj (by decide) (by decide))
theorem WY (hp:jG p)(h:∀i j,pl p (ent t i j)=ent t i j)(i:Nat):Bd (t.getD i []):=λm hm=>by obtain⟨j,_,e⟩:=FM.mem_getD hm;have:=h i j;unfold ent at this;rw[e]at this;exact Qi hp this
theorem sW (T:Top K mg cNO cK cR):Ok P w K mg base 3 "with_column_cleared" ["kind","rows","at","done"] (zc K (pQ cR) (λas=>∃p t,∃a d m:Nat,as=[.ob 0 p,jm t,.int (a:Int),.int (d:Int)]/\jG p/\t.length<=1000/\d<t.length/\m<=1000/\a<m/\(∀i,i<t.length->(t.getD i []).length=m)/\(∀i j,pl p (ent t i j)=ent t i j)/\ent t d a≠0) λas=>match as with
  |[.ob 0 p,.lst ps,.int a,.int d]=>jm (Xm p (lC p) (ps.map jZ) a.toNat d.toNat)
  |_=>.non):=by
 refine xf T.tH lW (λas ⟨a,b,c,d,e,h,_⟩=>by rw[h];rfl) (λf cdv A outer s H E hr=>⟨_,(jd (jq (i:=4) lW.nd rfl (Or.inr rfl) (rO (Yy (Ey 0 (Bb T) hr (jc je (jc (rO (jt (xl_of (jt (xv 1) (xn 3) (λ_ _=>rfl))) (xn 2) (λ_ _=>rfl))) jh))))))
 (jd (jr (i:=5) lW.nd rfl (Or.inr rfl) (jW (vy (wk T) hr (jc (xv 0) (jc (jW (Ff (N':=["number","factor"]) (cap:=[some 4]) (oZ rfl rfl rfl rfl ⟨⟨rfl,.inr (.inl rfl),BV,.inl rfl,_,rfl,rfl⟩,tJ⟩ ⟨rfl,tJ⟩ rfl) rfl (xl_of (jt (xv 1) (xn 3) (λ_ _=>rfl))) (λ_ _ _=>(pO 0)) (λ_ _ _=>(n6 (xn 1) (xn 0))))) jh)))))
 (jf (jo (um (MT (N':=["place","row","first","done","kind","at"]) (cap:=[some 5,some 3,some 0,some 2]) (oZ rfl rfl rfl rfl ⟨⟨rfl,.inr (.inl rfl),BV,.inl rfl,_,rfl,rfl⟩,⟨⟨rfl,.inr (.inl rfl),BV,.inl rfl,_,rfl,rfl⟩,⟨⟨rfl,.inr (.inl rfl),BV,.inl rfl,_,rfl,rfl⟩,⟨⟨rfl,.inr (.inl rfl),BV,.inl rfl,_,rfl,rfl⟩,tJ⟩⟩⟩⟩ ⟨rfl,⟨rfl,⟨rfl,⟨rfl,tJ⟩⟩⟩⟩ rfl) rfl (by rfl) T.lK (nJ (xv 1)) (λ_ _ _=>(pg_tup rfl (pgs_cons (pO 0) (pgs_cons (pO 1) pgs_nil)))) (λ_ _ _=>(Qp (sY (xn 0) (xn 3)) (xl 2) (jW (vy (Bl T) hr (jc (xv 4) (jc (xl 1) (jc (xn 5) (jc (xl 2) jh)))))))))))))),λas hp=>?_⟩)
 obtain⟨p,t,a,d,m,rfl,hp,ht,hd,hm,ha,hrow,hred,hne⟩:=hp;have p2:2<=p:=hp.1;have h9:p.natAbs<2^9000:=by
  have:p.natAbs<=2^14:=by have:=hp.2.1;lia
  exact aQ this (bj (by decide) (by decide))
 have o9:(1:Int).natAbs<2^9000:=aQ (show(1:Int).natAbs<=2^14 by decide) (bj (by decide) (by decide));have x0:0<ent t d a/\ent t d a<p:=by have:=zF (z:=p) (n:=ent t d a) (by lia);rw[hred]at this;lia
 obtain⟨g,_⟩:=zR hp _ x0.1 x0.2;have ev:jZ (lq (jm t) (d:Int))=t.getD d []:=Av hd;have hla:a<(t.getD d []).length:=by rw[hrow d hd];exact ha
 have ev2:CJ (lq (.ints (jZ (lq (jm t) (d:Int)))) (a:Int))=ent t d a:=by rw[ev];show(t.getD d []).getD (lB (t.getD d []).length (a:Int)) 0=_;rw[Vy hla];rfl
 have eF:Gp cNO p [1,CJ (lq (.ints (jZ (lq (jm t) (d:Int)))) (a:Int))]=.inl (lC p (ent t d a)):=by rw[ev2];exact Ws g
 refine⟨⟨⟨⟨rfl,⟨tJ,⟨⟨⟨⟨rfl,rfl,xW hd⟩,ym hd⟩,rfl,?_⟩,rfl⟩,tJ⟩,tJ,?_⟩,?_⟩,?_⟩,λfac efac=>?_⟩
 ·show lM (.ints (jZ (lq (jm t) (d:Int)))) (a:Int);rw[ev];exact Ma hla
 ·exact⟨p2,h9,o9⟩
 ·show(xT (Gp cNO p [1,CJ (lq (.ints (jZ (lq (jm t) (d:Int)))) (a:Int))])).isV;rw[eF];exact tJ
 ·show(xT (Gp cNO p [1,CJ (lq (.ints (jZ (lq (jm t) (d:Int)))) (a:Int))])).get=.int (CJ (xT (Gp cNO p [1,CJ (lq (.ints (jZ (lq (jm t) (d:Int)))) (a:Int))])).get);rw[eF];rfl
 have efac:fac=CJ (xT (Gp cNO p [1,CJ (lq (.ints (jZ (lq (jm t) (d:Int)))) (a:Int))])).get:=efac;rw[eF]at efac;refine jz (Z':=[.fr (.ob 0 p),.fr (jm t),.fr (.int (a:Int)),.fr (.int (d:Int)),.fr (.int fac),.un]) rfl ?_;have fb:fac.natAbs<2^9000:=by rw[efac];exact Qi hp (uF _ _)
 have hBd:=WY hp hred;refine⟨⟨⟨rfl,⟨⟨⟨rfl,rfl,xW hd⟩,ym hd⟩,?_,λn hn=>?_⟩,tJ⟩,?_⟩,λfirst ef=>?_⟩
 ·show(jZ (lq (jm t) (d:Int))).length<=1000;rw[ev,hrow d hd];exact hm
 ·have hn:n∈jZ (lq (jm t) (d:Int)):=hn;rw[ev]at hn;exact⟨rfl,rfl,pP (n:=9000) (m:=9000) fb (hBd d n hn)⟩
 ·refine⟨p,_,rfl,?_⟩;show((jZ (lq (jm t) (d:Int))).map _).length<=1000;rw[aa,ev,hrow d hd];exact hm
 have ef:first=((jZ (lq (jm t) (d:Int))).map λn=>fac*n).map (pl p):=ef
 rw[ev]at ef;have ef:first=yI p fac (t.getD d []):=ef
 refine jz (Z':=[.fr (.ob 0 p),.fr (jm t),.fr (.int (a:Int)),.fr (.int (d:Int)),.fr (.int fac),.fr (.ints first)]) rfl ?_
 have fB:Bd first:=λn hn=>by rw[ef]at hn;obtain⟨y,_,rfl⟩:=aP.mp hn;exact Qi hp (uF _ _)
 have gi:∀i,i<t.length->(t.map PV.ints).getD i .non=.ints (t.getD i []):=λi hi=>Jg hi;refine⟨⟨⟨rfl,rfl⟩,by show(t.map PV.ints).length<=1000;rw[aa];exact ht,λi q hq=>?_⟩,?_⟩
 ·have hq:(t.map PV.ints)[i]?=some q:=hq;rw[aw]at hq;cases ei:t[i]? with
  |none=>rw[ei]at hq;cases hq
  |some r=>
   rw[ei]at hq;cases hq;have hi:i<t.length:=(aj.mp ei).1;have er:t.getD i []=r:=by rw[gQ,ei];rfl
   refine⟨⟨rfl,rfl⟩,λ_=>rfl,λ_=>⟨⟨rfl,rfl,rfl,rfl,tJ⟩,p,r,a,first,rfl,?_,?_,?_,fB⟩⟩
   ·rw[<- er,hrow i hi];exact hm
   ·rw[<- er,hrow i hi];exact ha
   ·rw[<- er];exact hBd i
 ·have fin:jm (Xm p (lC p) ((t.map PV.ints).map jZ) ((a:Int)).toNat ((d:Int)).toNat)=.lst ((uZ p fac t a d).map PV.ints):=by rw[mL,aC,aC,efac];rfl
  show PV.lst (List.mapIdx _ (t.map PV.ints))=jm (Xm p (lC p) ((t.map PV.ints).map jZ) ((a:Int)).toNat ((d:Int)).toNat);rw[fin];refine congrArg PV.lst (dS λi=>?_);unfold uZ;rw[b9,aw,aw,b9,<- ef];cases t[i]? with
  |none=>rfl
  |some r=>
   show some (if (i:Int)=(d:Int) then PV.ints first else PV.ints (zM p r first ((a:Int)).toNat))=some (PV.ints (if i=d then first else zM p r first a))
   by_cases c:i=d
   ·rw[af c,af (by lia)]
   ·rw[ae c,ae (by lia),aC]
theorem ou (T:Top K mg cNO cK cR):Ok P w K mg base 4 "cleared_beside_units" ["kind","rows","width"] (zc K (pQ cR) (λas=>∃p rows,∃wd:Nat,as=[.ob 0 p,jm rows,.int (wd:Int)]/\jG p/\rows.length<=100/\wd<=100/\∀i,i<rows.length->(rows.getD i []).length=wd) λas=>match as with
  |[.ob 0 p,.lst ps,.int wd]=>jm (m6 p (lC p) (ps.map jZ) wd.toNat)
  |_=>.non):=by
 refine xf T.sH jy (λas ⟨a,b,c,h,_⟩=>by rw[h];rfl) (λf cdv A outer s H E hr=>⟨_,(jd (lR (i:=3) jy.nd rfl (Or.inl rfl) (xc (Ce T) hr (jc (lG T.jD (xv 1)) jh)))
 (jd (Jz (i:=4) jy.nd rfl rfl (N':=["row","unit","kind"]) (cap:=[some 0]) (oZ rfl rfl rfl rfl ⟨⟨rfl,.inr (.inl rfl),BV,.inl rfl,_,rfl,rfl⟩,tJ⟩ ⟨rfl,tJ⟩ rfl) rfl (by rfl) T.RP (nJ (xv 1)) (nJ (xv 3)) (λ_ _ _=>(pg_tup rfl (pgs_cons (pO 0) (pgs_cons (pO 1) pgs_nil)))) (λ_ _ _=>(jW (vy (wk T) hr (jc (xv 2) (jc (jW (tZ (xl 0) (xl 1))) jh))))) rfl)
 (jd (jq (i:=5) jy.nd rfl (Or.inl rfl) je)
 (jd (pK (k:=6) aE rfl (by rfl) T.oH (xn 2) jy.nd rfl (Or.inl rfl)
 (jd (lR (i:=7) jy.nd rfl (Or.inl rfl) (xc (uY T) hr (jc (xv 4) (jc (xn 6) (jc (xn 5) jh)))))
 (jf (j7 (WN (xv 7))
 (jd (lR (i:=4) jy.nd rfl (Or.inl rfl) (xc (sW T) hr (jc (xv 0) (jc (xc (wM T) hr (jc (xv 4) (jc (xv 7) (jc (xn 5) jh)))) (jc (xn 6) (jc (xn 5) jh))))))
 (jf (zm (i:=5) jy.nd rfl (Or.inl rfl) je ug)))
 jO))))
 (jf (jo (xv 4))))))),λas hp=>?_⟩)
 obtain⟨p,rows,wd,rfl,hp,hn,hw,hrow⟩:=hp;have p2:2<=p:=hp.1;have el:(rows.map PV.ints).length=rows.length:=aa _;refine⟨⟨⟨⟨rfl,tJ⟩,tJ⟩,rows.length,by show[PV.int ((rows.map PV.ints).length:Int)]=_;rw[el],by lia⟩,λus eus=>?_⟩;have eus:us=jm (JD (((rows.map PV.ints).length:Int)).toNat):=eus;rw[el,aC]at eus;subst eus;refine jz (Z':=[.fr (.ob 0 p),.fr (jm rows),.fr (.int (wd:Int)),.fr (jm (JD rows.length)),.un,.un,.un,.un]) rfl ?_;refine⟨⟨⟨⟨rfl,rfl⟩,⟨rfl,rfl⟩⟩,by show(rows.map PV.ints).length<=1000;lia,λq r hqr=>?_⟩,λt0 et0=>?_⟩
 ·obtain⟨a,ha,rfl⟩:=aP.mp (da hqr).1;obtain⟨b,hb,rfl⟩:=aP.mp (da hqr).2;have la:a.length=wd:=by obtain⟨i,hi,rfl⟩:=b8.mp ha;rw[<- rC hi];exact hrow i hi
  have lb:b.length=rows.length:=by obtain⟨i,_,rfl⟩:=aP.mp hb;exact Gg _ _
  refine⟨⟨rfl,⟨rfl,rfl,?_⟩,tJ⟩,p,a++b,rfl,?_⟩
  ·exact bN (small1000 (by show a.length+b.length<=1000;lia))
  ·rw[ai];lia
 have et0:t0=(oG p rows).map PV.ints:=et0.trans (by
  show List.map _ ((rows.map PV.ints).zip ((JD rows.length).map PV.ints))=_;have e:(oG p rows).map PV.ints=(rows.zip (JD rows.length)).map λq=>PV.ints ((q.1++q.2).map (pl p)):=by unfold oG;rw[List.zip,gW,gW]
  rw[e,List.zip_map,br];exact bZ λ⟨a,b⟩ _=>rfl)
 subst et0;refine⟨tJ,λd0 ed0=>?_⟩;subst ed0;refine jz (Z':=[.fr (.ob 0 p),.fr (jm rows),.fr (.int (wd:Int)),.fr (jm (JD rows.length)),.fr (jm (oG p rows)),.fr (.int 0),.un,.un]) rfl ?_;have I:=EI.all (iv:=lC p) (m:=wd+rows.length) p2 (λx h0 h1=>(zR hp x h0 h1).2) (Af p rows) (λi hi=>by rw[zz hi,aa,ai,hrow i hi,Gg]) (λi j=>G8);refine⟨rfl,⟨by show -(2:Int)^62<=(wd:Int);lia,by show(wd:Int)<2^62;lia⟩,λi Z=>∃v6 v7,Z=[.fr (.ob 0 p),.fr (jm rows),.fr (.int (wd:Int)),.fr (jm (JD rows.length)),.fr (jm (Nv p (lC p) (oG p rows) i).1),.fr (.int ((Nv p (lC p) (oG p rows) i).2:Int)),v6,v7],⟨.un,.un,rfl⟩,?_,?_⟩
 ·rintro i Z hi ⟨v6,v7,rfl⟩;have hi:i<((wd:Int)).toNat:=hi;have hi:i<wd:=by lia
  have Ii:=I i (by lia);generalize hs:Nv p (lC p) (oG p rows) i=st at Ii ⊢;obtain⟨t,d⟩:=st;have Ii:EI p rows.length (wd+rows.length) (oG p rows) i t d:=Ii;have en:Nv p (lC p) (oG p rows) (i+1)=Uu p (lC p) i (t,d):=by show Uu p (lC p) i (Nv p (lC p) (oG p rows) i)=_;rw[hs]
  have tl:=Ii.len;have dn:=Ii.dn;have tr:=Ii.row;refine⟨⟨⟨rfl,rfl,rfl,tJ⟩,t,i,d,rfl,by lia,by lia,λj hj=>by rw[tr j (by lia)];lia⟩,λfo efo=>?_⟩;have efo:fo=Vm ((t.map PV.ints).map jZ) ((i:Int)).toNat ((d:Int)).toNat:=efo;rw[mL,aC,aC]at efo;unfold Vm at efo;cases hf:Kc t i d with
  |none=>
   rw[hf]at efo;have efo:fo=.non:=efo;subst efo;refine⟨⟨rfl,tJ⟩,λq=>absurd rfl q,λ_=>?_⟩;have e2:Uu p (lC p) i (t,d)=(t,d):=by
    unfold Uu;show(match Kc t i d with|none=>(t,d)|some f=>_)=_
    rw[hf]
   refine⟨.fr (.int (i:Int)),.fr .non,?_⟩;rw[en,e2];rfl
  |some f=>
   rw[hf]at efo;have efo:fo=.int (f:Int):=efo;subst efo;obtain⟨f1,f2,f3⟩:=wQ hf;have e2:Uu p (lC p) i (t,d)=(Xm p (lC p) (p8 t f d) i d,d+1):=by
    unfold Uu;show(match Kc t i d with|none=>(t,d)|some f=>_)=_
    rw[hf]
   refine⟨⟨rfl,tJ⟩,λ_=>?_,λq=>absurd (λz=>by cases z) q⟩;have ml:(p8 t f d).length=t.length:=Im f1 f2;have me:∀j k,j<t.length->ent (p8 t f d) j k=ent t (yR f d j) k:=λj k hj=>Kz f1 f2 hj;have sd:yR f d d=f:=by unfold yR;rw[ae (by lia),af rfl]
   have emv:jm (p8 ((t.map PV.ints).map jZ) ((f:Int)).toNat ((d:Int)).toNat)=jm (p8 t f d):=by rw[mL,aC,aC]
   refine⟨⟨⟨rfl,⟨⟨rfl,rfl,rfl,tJ⟩,t,f,d,rfl,by lia,f1,f2⟩,rfl,rfl,tJ⟩,p,p8 t f d,i,d,wd+rows.length,?_,hp,by lia,by lia,by lia,by lia,λj hj=>?_,λj k=>?_,?_⟩,λt2 et2=>?_⟩
   ·show[PV.ob 0 p,jm (p8 ((t.map PV.ints).map jZ) ((f:Int)).toNat ((d:Int)).toNat),.int (i:Int),.int (d:Int)]=_;rw[emv]
   ·rw[zA f1 f2 (by lia)];exact tr _ (by have:=Em (i:=j) f1 f2 (by lia);lia)
   ·by_cases c:j<t.length
    ·rw[me j k c];exact Ii.red _ _
    ·rw[oJ (by lia),lH]
   ·rw[me d i (by lia),sd];exact f3
   have et2:t2=jm (Xm p (lC p) (((p8 ((t.map PV.ints).map jZ) ((f:Int)).toNat ((d:Int)).toNat).map PV.ints).map jZ) ((i:Int)).toNat ((d:Int)).toNat):=et2;rw[mL,mL,aC,aC,aC]at et2;subst et2;refine⟨rfl,tJ,tJ,λd2 ed2=>?_⟩;have ed2:d2=(d:Int)+1:=ed2;subst ed2;refine⟨.fr (.int (i:Int)),.fr (.int (f:Int)),?_⟩;rw[en,e2];rfl
 ·rintro Z ⟨v6,v7,rfl⟩;refine⟨rfl,?_⟩;show jm (Nv p (lC p) (oG p rows) ((wd:Int)).toNat).1=jm (m6 p (lC p) ((rows.map PV.ints).map jZ) ((wd:Int)).toNat);rw[mL,aC];rfl
def jE (rows:Tab):Nat:=(rows.getD 0 []).length
theorem JP (T:Top K mg cNO cK cR):Ok P w K mg base 5 "echelon" ["kind","rows"] (zc K (pQ cR) (λas=>∃p rows,as=[.ob 0 p,jm rows]/\jG p/\rows.length<=100/\jE rows<=100/\∀i,i<rows.length->(rows.getD i []).length=jE rows) λas=>match as with
  |[.ob 0 p,.lst ps]=>.tup [jm (mH p (lC p) (ps.map jZ) (jE (ps.map jZ))),jm (turnT p (lC p) (ps.map jZ) (jE (ps.map jZ))),jm (oV p (lC p) (ps.map jZ) (jE (ps.map jZ)))]
  |_=>.non):=by
 refine xf T.Px qF (λas ⟨a,b,h,_⟩=>by rw[h];rfl) (λf cdv A outer s H E hr=>⟨_,(jd (lR (i:=2) qF.nd rfl (Or.inr rfl) (Qp (aac (nJ (xv 1))) (lG T.jD (xl_of (jt (xv 1) je (λ_ _=>rfl)))) je))
 (jd (lR (i:=3) qF.nd rfl (Or.inl rfl) (xc (ou T) hr (jc (xv 0) (jc (xv 1) (jc (xn 2) jh)))))
 (jd (Dt (i:=4) qF.nd rfl rfl (N':=["row","width"]) (cap:=[some 2]) (oZ rfl rfl rfl rfl ⟨⟨rfl,.inr (.inl rfl),BV,.inl rfl,_,rfl,rfl⟩,tJ⟩ ⟨rfl,tJ⟩ rfl) rfl (nJ (xv 3)) (λ_ _ _=>(pO 0)) (λ_ _ _=>(jW (qj (xl 0) (m5 (xn 1)) pC (λ_ _=>.inl rfl)))) rfl)
 (jd (Dt (i:=5) qF.nd rfl rfl (N':=["row","rows"]) (cap:=[some 1]) (oZ rfl rfl rfl rfl ⟨⟨rfl,.inr (.inl rfl),BV,.inl rfl,_,rfl,rfl⟩,tJ⟩ ⟨rfl,tJ⟩ rfl) rfl (nJ (xc (ou T) hr (jc (xv 0) (jc (xv 4) (jc (lG T.jD (xv 1)) jh))))) (λ_ _ _=>(pO 0)) (λ_ _ _=>(jW (qj (xl 0) (m5 (lG T.jD (xv 1))) pC (λ_ _=>.inl rfl)))) rfl)
 (jf (jo (qY (jc (um (Y6 (N':=["row","width"]) (cap:=[some 2]) (oZ rfl rfl rfl rfl ⟨⟨rfl,.inr (.inl rfl),BV,.inl rfl,_,rfl,rfl⟩,tJ⟩ ⟨rfl,tJ⟩ rfl) rfl (nJ (xv 3)) (λ_ _ _=>(pO 0)) (λ_ _ _=>(jW (qj (xl 0) pC (m5 (xn 1)) (λ_ _=>.inl rfl)))))) (jc (xv 4) (jc (xv 5) jh)))))))))),λas hp=>?_⟩)
 obtain⟨p,rows,rfl,hp,hn,hw,hrow⟩:=hp;have p2:2<=p:=hp.1;have el:(rows.map PV.ints).length=rows.length:=aa _;have hiv:∀x,0<x->x<p->p ∣ lC p x*x-1:=λx h0 h1=>(zR hp x h0 h1).2;have c1:=Bu (iv:=lC p) (w:=jE rows) p2 hiv rfl hrow;have tT:VN p rows.length rows.length (turnT p (lC p) rows (jE rows)):=c1.right;have c2:=Bu (iv:=lC p) (rows:=turnT p (lC p) rows (jE rows)) p2 hiv tT.len tT.row;have ne0:¬rows.map PV.ints=[]->0<rows.length:=λq=>by
  cases rows with
  |nil=>exact absurd rfl q
  |cons a r=>exact gu _
 refine⟨⟨⟨rfl,rfl⟩,λq=>⟨⟨⟨rfl,tJ,xW (i:=0) (ne0 q)⟩,ym (i:=0) (ne0 q)⟩,tJ⟩,λ_=>tJ⟩,λwd ewd=>?_⟩;have ewd:wd=if ¬rows.map PV.ints=[] then PV.int ((jZ (lq (jm rows) 0)).length:Int) else .int 0:=ewd;have ewd:wd=.int (jE rows:Int):=by
  rw[ewd];split
  ·rename_i q;have:=Av (i:=0) (ne0 q);rw[show(0:Int)=((0:Nat):Int) from rfl,this];rfl
  ·rename_i q;cases rows with
   |nil=>rfl
   |cons a r=>exact absurd (λz=>by cases z) q
 subst ewd;refine jz (Z':=[.fr (.ob 0 p),.fr (jm rows),.fr (.int (jE rows:Int)),.un,.un,.un]) rfl ?_;refine⟨⟨⟨rfl,rfl,rfl,tJ⟩,p,rows,jE rows,rfl,hp,hn,hw,hrow⟩,λwi ewi=>?_⟩;have ewi:wi=jm (m6 p (lC p) ((rows.map PV.ints).map jZ) ((jE rows:Int)).toNat):=ewi;rw[mL,aC]at ewi;subst ewi;have wl:(m6 p (lC p) rows (jE rows)).length=rows.length:=c1.len;refine jz (Z':=[.fr (.ob 0 p),.fr (jm rows),.fr (.int (jE rows:Int)),.fr (jm (m6 p (lC p) rows (jE rows))),.un,.un]) rfl ?_;refine⟨⟨⟨rfl,rfl⟩,?_,λq hq=>?_⟩,λtu etu=>?_⟩
 ·show((m6 p (lC p) rows (jE rows)).map PV.ints).length<=1000;rw[aa];lia
 ·obtain⟨r,_,rfl⟩:=aP.mp hq;exact⟨rfl,rfl,tJ⟩
 have etu:tu=(turnT p (lC p) rows (jE rows)).map PV.ints:=etu.trans (by
  show List.map _ ((m6 p (lC p) rows (jE rows)).map PV.ints)=_;rw[br];unfold turnT pq;rw[br];refine bZ λr _=>?_;show PV.ints (qI r (some (jE rows:Int)) none)=PV.ints (r.drop (jE rows));rw[uL])
 subst etu;refine jz (Z':=[.fr (.ob 0 p),.fr (jm rows),.fr (.int (jE rows:Int)),.fr (jm (m6 p (lC p) rows (jE rows))),.fr (jm (turnT p (lC p) rows (jE rows))),.un]) rfl ?_;have ebb:jm (m6 p (lC p) (((turnT p (lC p) rows (jE rows)).map PV.ints).map jZ) (((rows.map PV.ints).length:Int)).toNat)=jm (m6 p (lC p) (turnT p (lC p) rows (jE rows)) rows.length):=by rw[mL,aC,el]
 have el2:(m6 p (lC p) (((turnT p (lC p) rows (jE rows)).map PV.ints).map jZ) (((rows.map PV.ints).length:Int)).toNat)=m6 p (lC p) (turnT p (lC p) rows (jE rows)) rows.length:=by rw[mL,aC,el]
 refine⟨⟨⟨⟨⟨rfl,rfl,⟨rfl,tJ⟩,tJ⟩,p,turnT p (lC p) rows (jE rows),rows.length,?_,hp,by rw[tT.len];exact hn,hn,by rw[tT.len];exact tT.row⟩,rfl⟩,?_,λq hq=>?_⟩,λba eba=>?_⟩
 ·show[PV.ob 0 p,jm (turnT p (lC p) rows (jE rows)),.int ((rows.map PV.ints).length:Int)]=_;rw[el]
 ·show((m6 p (lC p) (((turnT p (lC p) rows (jE rows)).map PV.ints).map jZ) (((rows.map PV.ints).length:Int)).toNat).map PV.ints).length<=1000;rw[el2,aa,c2.len];lia
 ·have hq:q∈(m6 p (lC p) (((turnT p (lC p) rows (jE rows)).map PV.ints).map jZ) (((rows.map PV.ints).length:Int)).toNat).map PV.ints:=hq;obtain⟨r,_,rfl⟩:=aP.mp hq;exact⟨rfl,⟨rfl,tJ⟩,tJ⟩
 have eba:ba=(oV p (lC p) rows (jE rows)).map PV.ints:=eba.trans (by
  show List.map _ ((m6 p (lC p) (((turnT p (lC p) rows (jE rows)).map PV.ints).map jZ) (((rows.map PV.ints).length:Int)).toNat).map PV.ints)=_;rw[el2,br];unfold oV pq;rw[br];refine bZ λr _=>?_;show PV.ints (qI r (some ((rows.map PV.ints).length:Int)) none)=PV.ints (r.drop rows.length);rw[el,uL])
 subst eba;refine jz (Z':=[.fr (.ob 0 p),.fr (jm rows),.fr (.int (jE rows:Int)),.fr (jm (m6 p (lC p) rows (jE rows))),.fr (jm (turnT p (lC p) rows (jE rows))),.fr (jm (oV p (lC p) rows (jE rows)))]) rfl ?_;refine⟨⟨⟨⟨rfl,rfl⟩,?_,λq hq=>?_⟩,rfl,rfl,tJ⟩,?_⟩
 ·show((m6 p (lC p) rows (jE rows)).map PV.ints).length<=1000;rw[aa];lia
 ·have hq:q∈(m6 p (lC p) rows (jE rows)).map PV.ints:=hq;obtain⟨r,_,rfl⟩:=aP.mp hq;exact⟨rfl,tJ,rfl⟩
 ·have e:∀F:PV->PV,(∀r:List Int,F (.ints r)=.ints (r.take (jE rows)))->((m6 p (lC p) rows (jE rows)).map PV.ints).map F=(mH p (lC p) rows (jE rows)).map PV.ints:=λF hF=>by rw[br];unfold mH pU;rw[br];exact bZ λr _=>hF r
  have fin:PV.tup [jm (mH p (lC p) ((rows.map PV.ints).map jZ) (jE ((rows.map PV.ints).map jZ))),jm (turnT p (lC p) ((rows.map PV.ints).map jZ) (jE ((rows.map PV.ints).map jZ))),jm (oV p (lC p) ((rows.map PV.ints).map jZ) (jE ((rows.map PV.ints).map jZ)))]=PV.tup [.lst ((mH p (lC p) rows (jE rows)).map PV.ints),jm (turnT p (lC p) rows (jE rows)),jm (oV p (lC p) rows (jE rows))]:=by rw[mL];rfl
  show PV.tup [.lst (((m6 p (lC p) rows (jE rows)).map PV.ints).map _),jm (turnT p (lC p) rows (jE rows)),jm (oV p (lC p) rows (jE rows))]=_;refine jb ?_ fin.symm;rw[e _ λr=>?_];show PV.ints (qI r none (some (jE rows:Int)))=PV.ints (r.take (jE rows));rw[Lx]
def yO (F T:Tab):Tab:=((F.zip T).filter λq=>decide (q.1=List.replicate q.1.length 0)).map λq=>q.2
theorem Am {pr:List Int->Bool}:∀{F T:Tab} {d:Nat},F.length=T.length->(∀i (h:i<F.length),pr F[i]=decide (d<=i))->((F.zip T).filter λq=>pr q.1).map (λq=>q.2)=T.drop d
 |[],T,d,h,_=>by have:T=[]:=dA.mp h.symm;rw[this,List.drop_nil];rfl
 |a::F,[],d,h,_=>by cases h
 |a::F,b::T,d,h,k=>by
  have h':F.length=T.length:=Nat.succ.inj h;have k0:=k 0 (gu _);have k0:pr a=decide (d<=0):=k0;have kS:∀i (h:i<F.length),pr F[i]=decide (d<=i+1):=λi hi=>k (i+1) (Nat.succ_lt_succ hi);rw[di,List.filter_cons];cases d with
  |zero=>rw[af (by show pr a=true;rw[k0];rfl),bK,Am (d:=0) h' λi hi=>by rw[kS i hi];rfl];rfl
  |succ d=>rw[ae (by show ¬pr a=true;rw[k0,aI (by lia)];decide),Am (d:=d) h' λi hi=>by rw[kS i hi];exact decide_eq_decide.mpr (by lia)];rfl
theorem U7 (hS:Q6 n m F d v)(hF:F.length=n)(hrow:∀i,i<n->(F.getD i []).length=m)(hT:T.length=n):yO F T=T.drop d:=by
 unfold yO;refine Am (pr:=λr=>decide (r=List.replicate r.length 0)) (F:=F) (T:=T) (by lia) λi hi=>?_;have e:=rC hi;have hl:F[i].length=m:=by rw[<- e];exact hrow i (by lia)
 by_cases c:d<=i
 ·rw[aK c];refine aK ?_;refine cu (by rw[aL]) λj h1 h2=>?_;rw[cM];have:=hS.low i j c (by lia) (by lia);unfold ent at this;rw[e,jx h1]at this;exact this
 ·rw[aI c];refine aI λz=>?_;have:=hS.one i (by lia);unfold ent at this;rw[e,z,jx (by rw[aL,hl];exact hS.lt i (by lia)),cM]at this;exact absurd this (by decide)
theorem Dg (T:Top K mg cNO cK cR):Ok P w K mg base 6 "kernel" ["kind","rows"] (zc K (pQ cR) (λas=>∃p rows,as=[.ob 0 p,jm rows]/\jG p/\rows.length<=100/\jE rows<=100/\∀i,i<rows.length->(rows.getD i []).length=jE rows) λas=>match as with
  |[.ob 0 p,.lst ps]=>jm (yO (mH p (lC p) (ps.map jZ) (jE (ps.map jZ))) (turnT p (lC p) (ps.map jZ) (jE (ps.map jZ))))
  |_=>.non):=by
 refine xf T.Tc Dm (λas ⟨a,b,h,_⟩=>by rw[h];rfl) (λf cdv A outer s H E hr=>⟨_,(jd (lR (i:=2) Dm.nd rfl (Or.inl rfl) (xc (JP T) hr (jc (xv 0) (jc (xv 1) jh))))
 (jf (jo (um (T8 (N':=["row","turning"]) (cap:=[]) (oZ rfl rfl rfl rfl tJ tJ rfl) rfl (by rfl) T.RP (nJ (jt (xv 2) je (λ_ _=>rfl))) (nJ (jt (xv 2) je (λ_ _=>rfl))) (λ_ _ _=>(pg_tup rfl (pgs_cons (pO 0) (pgs_cons (pO 1) pgs_nil)))) (λ_ _ _=>(Yh hr.units (vR (xl 0)) (vR (jW (uq (lQ (jc je jh)) (jK 0 T.jD) (λ_=>rfl)))))) (λ_ _ _=>(xl 1))))))),λas hp=>?_⟩)
 obtain⟨p,rows,rfl,hp,hn,hw,hrow⟩:=hp;have p2:2<=p:=hp.1;refine⟨⟨⟨rfl,rfl,tJ⟩,p,rows,rfl,hp,hn,hw,hrow⟩,λtold e=>?_⟩;have e:told=.tup [jm (mH p (lC p) ((rows.map PV.ints).map jZ) (jE ((rows.map PV.ints).map jZ))),jm (turnT p (lC p) ((rows.map PV.ints).map jZ) (jE ((rows.map PV.ints).map jZ))),jm (oV p (lC p) ((rows.map PV.ints).map jZ) (jE ((rows.map PV.ints).map jZ)))]:=e;rw[mL]at e;obtain⟨tF,tT,tB,_,_,_,_⟩:=TJ (iv:=lC p) p2 (λx h0 h1=>(zR hp x h0 h1).2) rfl hrow;have fin:jm (yO (mH p (lC p) ((rows.map PV.ints).map jZ) (jE ((rows.map PV.ints).map jZ))) (turnT p (lC p) ((rows.map PV.ints).map jZ) (jE ((rows.map PV.ints).map jZ))))=.lst ((yO (mH p (lC p) rows (jE rows)) (turnT p (lC p) rows (jE rows))).map PV.ints):=by rw[mL];rfl
 generalize mH p (lC p) rows (jE rows)=fm at *
 generalize turnT p (lC p) rows (jE rows)=tu at *
 generalize oV p (lC p) rows (jE rows)=ba at *
 subst e;have fl:=tF.len;refine jz (Z':=[.fr (.ob 0 p),.fr (jm rows),.fr (.tup [jm fm,jm tu,jm ba])]) rfl ?_;refine⟨⟨⟨⟨⟨rfl,tJ,by show -(3:Int)<=0/\(0:Int)<3;decide⟩,rfl⟩,⟨⟨rfl,tJ,by show -(3:Int)<=1/\(1:Int)<3;decide⟩,rfl⟩⟩,by show(fm.map PV.ints).length<=1000;rw[aa];lia,λq r hqr=>?_⟩,?_⟩
 ·obtain⟨a,ha,rfl⟩:=aP.mp (da hqr).1;obtain⟨b,_,rfl⟩:=aP.mp (da hqr).2;have la:a.length=jE rows:=by obtain⟨i,hi,rfl⟩:=b8.mp ha;rw[<- rC hi];exact tF.row i (by lia)
  exact⟨⟨rfl,⟨⟨⟨tJ,tJ⟩,tJ⟩,.inl rfl,by show -(2:Int)^63<=(a.length:Int);lia,by show((a.length:Int)).toNat<=1000;lia⟩⟩,λ_=>rfl⟩
 ·have key:∀(pr:PV×PV->Bool) (g:PV×PV->PV),(∀a b:List Int,pr (.ints a,.ints b)=decide (a=List.replicate a.length 0))->(∀a b:List Int,g (.ints a,.ints b)=.ints b)->(((fm.map PV.ints).zip (tu.map PV.ints)).filter pr).map g=(yO fm tu).map PV.ints:=λpr g h1 h2=>by
   unfold yO;rw[List.zip_map,hW,br,br];have e1:(λq:List Int×List Int=>decide (q.1=List.replicate q.1.length 0))=pr ∘ Prod.map PV.ints PV.ints:=by funext ⟨a,b⟩;exact(h1 a b).symm
   rw[e1];exact bZ λ⟨a,b⟩ _=>h2 a b
  show PV.lst (List.map _ (List.filter _ ((fm.map PV.ints).zip (tu.map PV.ints))))=_;refine jb ?_ fin.symm;rw[key _ _ (λa b=>?_) λa b=>rfl];exact decide_eq_decide.mpr Iff.rfl
theorem z6 (f:Nat->Int)(a:Nat):∀b,sm (a+b) f=sm a f+sm b λi=>f (a+i)
 |0=>(bH _).symm
 |b+1=>by show sm (a+b) f+f (a+b)=_+(sm b (λi=>f (a+i))+f (a+b));rw[z6 f a b,Int.add_assoc]
structure yu (p:Int)(N W:Nat)(rows t:Tab):Prop where
 len:∀y∈t,y.length=N
 red:∀y∈t,∀j,pl p (y.getD j 0)=y.getD j 0
 nul:∀y∈t,∀j,j<W->p ∣ sm N λk=>y.getD k 0*ent rows k j
 span:∀z:Nat->Int,(∀j,j<W->p ∣ sm N λk=>z k*ent rows k j)->∃c:Nat->Int,∀k,k<N->p ∣ z k-sm t.length λi=>c i*(t.getD i []).getD k 0
 le:t.length<=N
theorem M6 {a b t:Tab}{n l w:Nat}(hp:0<p)(ha:a.length=n)(hl:∀i,i<n->(a.getD i []).length=l)(h:uA p a b w=t):Al p n w (mm l (ent a) (ent b)) (ent t):=λi j hi hj=>by rw[<- h,GK (by lia) (hl i hi) hj];exact⟨mm l (ent a) (ent b) i j / p,by have:=fy (mm l (ent a) (ent b) i j) p;lia⟩
theorem Za (hp:2<=p)(hiv:∀x,0<x->x<p->p ∣ iv x*x-1)(hn:rows.length=N)(hw:∀i,i<N->(rows.getD i []).length=W):yu p N W rows (yO (mH p iv rows W) (turnT p iv rows W)):=by
 obtain⟨tF,tT,tB,e1,⟨d,v,S⟩,_,e3⟩:=TJ (iv:=iv) hp hiv hn hw;have p0:0<p:=by lia
 have m1:=M6 p0 tT.len tT.row e1;have m3:=M6 p0 tB.len tB.row e3;rw[U7 S tF.len tF.row tT.len];generalize mH p iv rows W=F at *
 generalize turnT p iv rows W=T at *
 generalize oV p iv rows W=B at *
 have dn:=S.dn;have tl:=tT.len;have at':∀i,i<N-d->(T.drop d).getD i []=T.getD (d+i) []:=λi hi=>by rw[gQ,dH,<- gQ]
 have mem:∀y∈T.drop d,∃i,d<=i/\i<N/\y=T.getD i []:=λy hy=>by obtain⟨i,hi,rfl⟩:=b8.mp hy;rw[bp]at hi;refine⟨d+i,by lia,by lia,?_⟩;rw[List.getElem_drop,rC]
 have ld:(T.drop d).length=N-d:=by rw[bp,tl]
 refine⟨λy hy=>?_,λy hy j=>?_,λy hy j hj=>?_,λz hz=>?_,by lia⟩
 ·obtain⟨i,_,h2,rfl⟩:=mem y hy;exact tT.row i h2
 ·obtain⟨i,_,h2,rfl⟩:=mem y hy;exact tT.red i j
 ·obtain⟨i,h1,h2,rfl⟩:=mem y hy;have:=m1 i j h2 hj;rw[S.low i j h1 h2 hj,aS]at this;exact this
 ·have w1:∀k,k<N->p ∣ z k-sm N λi=>(sm N λm=>z m*ent B m i)*ent T i k:=λk hk=>by
   have a:sm N (λi=>(sm N λm=>z m*ent B m i)*ent T i k)=sm N λm=>z m*mm N (ent B) (ent T) m k:=by
    have b:sm N (λi=>(sm N λm=>z m*ent B m i)*ent T i k)=sm N λi=>sm N λm=>z m*(ent B m i*ent T i k):=jn λi _=>by rw[<- yW];exact jn λm _=>by rw[bM]
    rw[b,wR];refine jn λm _=>?_;rw[nU];rfl
   have b:sm N (λm=>z m*ent (u9 N) m k)=z k:=by rw[qR (k:=k) hk λm hm hne=>by rw[wN hm hk];unfold ph;rw[ae hne,aU],wN hk hk];unfold ph;rw[af rfl,bO]
   rw[a];have c:p ∣ sm N λm=>z m*(mm N (ent B) (ent T) m k-ent (u9 N) m k):=m8 λm hm=>aO (m3 m k hm hk);have e:(sm N λm=>z m*(mm N (ent B) (ent T) m k-ent (u9 N) m k))+(sm N λm=>z m*ent (u9 N) m k)=sm N λm=>z m*mm N (ent B) (ent T) m k:=by rw[<- sO];exact jn λm _=>by rw[<- fU,dI]
   rw[<- e,b];have:=bu.mpr c;have e2:∀x y:Int,x-(y+x) = -y:=λx y=>by lia
   rw[e2];exact this
  have w2:∀i,i<d->p ∣ sm N λm=>z m*ent B m i:=λi hi=>by
   have vj:=S.lt i hi;have a:p ∣ sm N λr=>(sm N λm=>z m*ent B m r)*ent F r (v i):=by
    have b:p ∣ sm N λr=>(sm N λm=>z m*ent B m r)*(mm N (ent T) (ent rows) r (v i)-ent F r (v i)):=m8 λr hr=>aO (m1 r (v i) hr vj);have c:p ∣ sm N λr=>(sm N λm=>z m*ent B m r)*mm N (ent T) (ent rows) r (v i):=by
     have e:(sm N λr=>(sm N λm=>z m*ent B m r)*mm N (ent T) (ent rows) r (v i))=sm N λk=>(sm N λr=>(sm N λm=>z m*ent B m r)*ent T r k)*ent rows k (v i):=by
      have e1:(sm N λr=>(sm N λm=>z m*ent B m r)*mm N (ent T) (ent rows) r (v i))=sm N λr=>sm N λk=>(sm N λm=>z m*ent B m r)*ent T r k*ent rows k (v i):=jn λr _=>by unfold mm;rw[<- nU];exact jn λk _=>by rw[bM]
      rw[e1,wR];exact jn λk _=>by rw[yW]
     rw[e];have f:p ∣ sm N λk=>(z k-sm N λr=>(sm N λm=>z m*ent B m r)*ent T r k)*ent rows k (v i):=m8 λk hk=>bh (w1 k hk);have g:=eO (hz (v i) vj) f;rw[<- vO]at g;have e2:(sm N λk=>z k*ent rows k (v i)-(z k-sm N λr=>(sm N λm=>z m*ent B m r)*ent T r k)*ent rows k (v i))=sm N λk=>(sm N λr=>(sm N λm=>z m*ent B m r)*ent T r k)*ent rows k (v i):=jn λk _=>by rw[<- fS];congr 1;lia
     rw[e2]at g;exact g
    have g:=eO c b;rw[<- vO]at g;have e:(sm N λr=>(sm N λm=>z m*ent B m r)*mm N (ent T) (ent rows) r (v i)-(sm N λm=>z m*ent B m r)*(mm N (ent T) (ent rows) r (v i)-ent F r (v i)))=sm N λr=>(sm N λm=>z m*ent B m r)*ent F r (v i):=jn λr _=>by rw[<- cw];congr 1;lia
    rw[e]at g;exact g
   rw[qR (k:=i) (by lia) λr hr hne=>by rw[S.alone i r hi hr hne,aU],S.one i hi,bO]at a;exact a
  refine⟨λi=>sm N λm=>z m*ent B m (d+i),λk hk=>?_⟩;have e:sm N (λi=>(sm N λm=>z m*ent B m i)*ent T i k)=sm d (λi=>(sm N λm=>z m*ent B m i)*ent T i k)+sm (N-d) λi=>(sm N λm=>z m*ent B m (d+i))*ent T (d+i) k:=by rw[<- z6,show d+(N-d)=N by lia]
  have a:=w1 k hk;rw[e]at a;have b:p ∣ sm d λi=>(sm N λm=>z m*ent B m i)*ent T i k:=m8 λi hi=>bh (w2 i hi);have c:=bE a b;have e2:∀x y w:Int,x-(y+w)+y=x-w:=λx y w=>by lia
  rw[e2]at c;rw[ld];have e3:(sm (N-d) λi=>(sm N λm=>z m*ent B m (d+i))*((T.drop d).getD i []).getD k 0)=sm (N-d) λi=>(sm N λm=>z m*ent B m (d+i))*ent T (d+i) k:=jn λi hi=>by rw[at' i hi];rfl
  rw[e3];exact c
theorem yu.ne {N W:Nat}{rows t:Tab}(K:yu p N W rows t){z:Nat->Int}(hz:∀j,j<W->p ∣ sm N λk=>z k*ent rows k j){i:Nat}(hi:i<N)(nd:¬p ∣ z i):0<t.length:=by refine Nat.pos_of_ne_zero λe=>?_;obtain⟨c,h⟩:=K.span z hz;have:=h i hi;rw[e]at this;have e2:(sm 0 λi_1=>c i_1*(t.getD i_1 []).getD i 0)=0:=rfl;rw[e2,aS]at this;exact nd this
def pH (p:Int)(t:Tab):Tab:=t.mapIdx λat' row=>row.set at' (pl p (row.getD at' 0-1))
theorem Hy (p:Int)(t:Tab):(pH p t).length=t.length:=by unfold pH;rw[bV]
theorem Lk (hi:i<t.length):(pH p t).getD i []=(t.getD i []).set i (pl p ((t.getD i []).getD i 0-1)):=by unfold pH;rw[gQ,b9,ac hi,gQ,ac hi];rfl
def qT (p:Int)(b:List Int):Tab:=jJ p b (rm p b (pw [0,1] p.toNat)) (b.length-1)
namespace Pl
variable {p:Int}
def Go (a b:Pl p):Prop:=∃u,b=u*a
theorem Go.refl (a:Pl p):Go a a:=⟨1,(one_mul a).symm⟩
theorem Go.trans {a b c:Pl p}(h:Go a b)(k:Go b c):Go a c:=by obtain⟨u,rfl⟩:=h;obtain⟨v,rfl⟩:=k;exact⟨v*u,by rw[mul_assoc]⟩
theorem Go.zero (a:Pl p):Go a 0:=⟨0,(zero_mul a).symm⟩
theorem Go.add {a b c:Pl p}(h:Go a b)(k:Go a c):Go a (b+c):=by obtain⟨u,rfl⟩:=h;obtain⟨v,rfl⟩:=k;exact⟨u+v,by grind⟩
theorem Go.sub {a b c:Pl p}(h:Go a b)(k:Go a c):Go a (b-c):=by obtain⟨u,rfl⟩:=h;obtain⟨v,rfl⟩:=k;exact⟨u-v,by grind⟩
theorem Go.mul (h:Go a b)(c:Pl p):Go a (c*b):=by obtain⟨u,rfl⟩:=h;exact⟨c*u,by rw[mul_assoc]⟩
theorem Go.XD (h:Go a b)(c:Pl p):Go a (b*c):=by rw[mul_comm];exact h.mul c
theorem Go.pB {a b c:Pl p}(h:Go a b)(e:b=c):Go a c:=e ▸ h
theorem Go.cut {a b c:Pl p}(h:Go a (b*c))(k:nG a b):Go a c:=by obtain⟨u,e⟩:=h;obtain⟨s,t,e2⟩:=k;exact⟨s*c+t*u,by grind⟩
theorem Go.both {a b c:Pl p}(h:Go a c)(k:Go b c)(q:nG a b):Go (a*b) c:=by obtain⟨u,rfl⟩:=k;have:Go a (b*u):=h.pB (mul_comm _ _);obtain⟨v,e⟩:=this.cut q;exact⟨v,by rw[e,mul_assoc]⟩
theorem nG.aav {a b c:Pl p}(h:nG a c)(k:Go b c):nG a b:=by obtain⟨u,rfl⟩:=k;obtain⟨s,t,e⟩:=h;exact⟨s,t*u,by grind⟩
theorem Ef (c d:Int):con p (c*d)=con p c*con p d:=by show con p (c*d)=con p c*mk p [d];rw[q8];refine ext λn=>?_;rw[jQ];cases n<;>simp
theorem FJ (c d:Int):con p (c-d)=con p c-con p d:=by rw[Int.sub_eq_add_neg,zp,Ea];rfl
theorem Rw (h:p ∣ c-d):con p c=con p d:=by
 have:=Lf h;rw[FJ]at this;generalize con p c=x at *
 generalize con p d=y at *
 grind
theorem Gz (hp:jG p)(x y:Pl p):(x+y)^p.toNat=x^p.toNat+y^p.toNat:=by obtain⟨a,rfl⟩:=rep x;obtain⟨b,rfl⟩:=rep y;rw[lV,<- uo,<- uo,<- uo,lV];obtain⟨Q,h⟩:=Qw hp [] a b;refine lz.mpr λn=>?_;have h:=h n;rw[jA Q [],lL,aS]at h;exact h
theorem wY (hp:jG p)(c:Int):con p c^p.toNat=con p c:=by
 have p2:=hp.1;have e0:con p c=con p (((c % p).toNat:Nat):Int):=Rw (by
  rw[bJ (a9 _ (by lia))];exact⟨c / p,by have:=fy c p;lia⟩)
 rw[e0];generalize (c % p).toNat=m;show mk p [(m:Int)]^p.toNat=mk p [(m:Int)];rw[<- uo];obtain⟨Q,h⟩:=pw_c hp [] m;refine lz.mpr λn=>?_;have h:=h n;rw[jA Q [],lL,aS]at h;exact h
theorem RQ (hp:jG p)(x y:Pl p):(x-y)^p.toNat=x^p.toNat-y^p.toNat:=by
 have e:x=(x-y)+y:=by grind
 have h:=Gz hp (x-y) y;rw[<- e]at h;rw[h];generalize (x-y)^p.toNat=a;generalize y^p.toNat=b;grind
def fx (x:Pl p):Pl p:=x^p.toNat-x
theorem Yn (hp:jG p)(x y:Pl p):fx (x-y)=fx x-fx y:=by unfold fx;rw[RQ hp];generalize x^p.toNat=a;generalize y^p.toNat=b;grind
theorem Zn (hp:jG p)(c:Int):fx (con p c)=0:=by unfold fx;rw[wY hp];generalize con p c=a;grind
theorem W8 (hp:jG p)(c:Int)(x:Pl p):fx (con p c*x)=con p c*fx x:=by unfold fx;rw[mul_pow,wY hp];generalize x^p.toNat=a;generalize con p c=b;grind
theorem Uq (hp:jG p){a x:Pl p}(h:Go a x):Go a (fx x):=by
 unfold fx;obtain⟨m,hm⟩:∃m,p.toNat=m+1:=⟨p.toNat-1,by have:=hp.1;lia⟩;have e:x^p.toNat-x=(x^m-1)*x:=by rw[hm];show x^m*x-x=_;generalize x^m=y;grind
 rw[e];exact h.mul _
theorem zK (hp:jG p)(x:Pl p)(c:Int):fx (x-con p c)=fx x:=by rw[Yn hp,Zn hp];generalize fx x=y;grind
theorem aas (hp:jG p)(x:Pl p)(c:Int):Go (x-con p c) (fx x):=by rw[<- zK hp x c];exact Uq hp (Go.refl _)
theorem Ui (e:x-y=con p c)(h:p ∣ t*c-1):nG x y:=by have k:=wO h;rw[<- e]at k;exact⟨con p t,-con p t,by generalize con p t=z at *;grind⟩
def PH (h:Pl p):Nat->Pl p
 |0=>1
 |n+1=>PH h n*(h-con p (n:Int))
theorem Q4 (hp:jG p)(h:Pl p){m:Nat}(hm:(m:Int)<p):∀n,n<=m->nG (PH h n) (h-con p (m:Int))
 |0,_=>(nG.one _).symm
 |n+1,hn=>by
  refine(Q4 hp h hm n (by lia)).mul ?_;have nd:¬p ∣ ((m:Int)-(n:Int)):=λz=>by have:=eZ (by lia) z;lia
  obtain⟨t,ht⟩:=lJ hp nd;refine Ui (c:=(m:Int)-(n:Int)) ?_ ht;rw[FJ];generalize con p (m:Int)=a;generalize con p (n:Int)=b;grind
theorem Xu (hp:jG p)(h:Pl p):∀n:Nat,(n:Int)<=p->Go (PH h n) (fx h)
 |0,_=>⟨fx h,by show fx h=fx h*1;rw[mul_comm,one_mul]⟩
 |n+1,hn=>(Xu hp h n (by lia)).both (aas hp h _) (Q4 hp h (by lia) n (ao _))
theorem vA (p2:2<=p)(x y:Pl p)(n:Nat):(ls (x-y)).getD n 0=pl p ((ls x).getD n 0-(ls y).getD n 0):=by
 have e:x-y=mk p (jU (ls x) (zb (-1) (ls y))):=by rw[<- lV,<- yc,jF,jF];rfl
 rw[e,pY,j9,ju,jQ,eW];rfl
theorem RK (p2:2<=p){x y:Pl p}(h:Mo x)(l:(ls y).length<(ls x).length):Mo (x-y)/\(ls (x-y)).length=(ls x).length:=by
 have top:(ls (x-y)).getD ((ls x).length-1) 0=1:=by rw[vA p2,jj (xs:=ls y) (by lia),aS];have e:(ls x).getD ((ls x).length-1) 0=1:=h;rw[e,W2 p2]
 have le:(ls (x-y)).length<=(ls x).length:=mR (jL _).form λn hn=>by rw[vA p2,jj (by lia),jj (by lia),aS,lH]
 have ge:(ls x).length-1<(ls (x-y)).length:=cV λc=>by rw[jj c]at top;exact absurd top (by decide)
 have:=h.pos;have e:(ls (x-y)).length=(ls x).length:=by lia
 refine⟨?_,e⟩;show(ls (x-y)).getD ((ls (x-y)).length-1) 0=1;rw[e];exact top
theorem vC (c:Int):(ls (con p c)).length<=1:=mW p [c]
theorem Xg (p2:2<=p){h:Pl p}(mh:Mo h)(dg:1<(ls h).length):∀n,Mo (PH h n)/\(ls (PH h n)).length=n*((ls h).length-1)+1
 |0=>⟨Mo.one p2,by show(ls (1:Pl p)).length=_;rw[uh p2];simp⟩
 |n+1=>by obtain⟨h1,h2⟩:=Xg p2 mh dg n;have l:=vC (p:=p) (n:Int);obtain⟨h3,h4⟩:=RK p2 mh (show(ls (con p (n:Int))).length<_ by lia);obtain⟨h5,h6⟩:=Mo.Fl p2 h1 h3;refine⟨h5,?_⟩;show(ls (PH h n*(h-con p (n:Int)))).length=_;rw[f8];lia
theorem aaO (hp:jG p){h:Pl p}(mh:Mo h)(dg:1<(ls h).length):fx h=PH h p.toNat:=by
 have p2:=hp.1;have pw:=mh.pow p2 p.toNat;have lp:=mh.sV p2 p.toNat;have big:(ls h).length<(ls (h^p.toNat)).length:=by rw[lp];have:2*((ls h).length-1)<=p.toNat*((ls h).length-1):=cX _ (by lia);lia
 obtain⟨m1,m2⟩:=RK p2 pw big;obtain⟨m3,m4⟩:=Xg p2 mh dg p.toNat;obtain⟨u,e⟩:=Xu hp h p.toNat (by lia);have mu:Mo u:=Mo.ZC p2 (x:=fx h) m1 m3 e;have l:=Mo.len p2 mu m3;rw[<- e]at l;have m2:(ls (fx h)).length=(ls (h^p.toNat)).length:=m2;have u1:u=1:=mu.Ei p2 (by lia);rw[e,u1,one_mul]
theorem w6.R6 (hp:jG p){q:Pl p}(h:w6 q):¬Go q 1:=λ⟨u,e⟩=>by have p2:=hp.1;have mu:=Mo.ZC p2 (Mo.one p2) h.mo e;have l:=Mo.len p2 mu h.mo;rw[<- e,uh p2]at l;have:=mu.pos;have:=h.deg;have l:1+1=(ls u).length+(ls q).length:=l;lia
theorem w6.Jt (hp:jG p)(h:w6 q)(k:Go q (con p c)):p ∣ c:=cQ λnd=>by obtain⟨t,ht⟩:=lJ hp nd;exact h.R6 hp ((k.mul (con p t)).pB (wO ht))
theorem sub_len (p2:2<=p){x y:Pl p}{n:Nat}(hx:(ls x).length<=n)(hy:(ls y).length<=n):(ls (x-y)).length<=n:=mR (jL _).form λk hk=>by rw[vA p2,jj (by lia),jj (by lia),aS,lH]
theorem w6.aaw (hp:jG p)(I:w6 q)(hl:(ls h).length<=200)(h1:1<=(ls h).length):∀n,Go q (PH h n)->∃s:Nat,s<n/\Go q (h-con p (s:Int))
 |0,g=>absurd g (I.R6 hp)
 |n+1,g=>by
  have l:=vC (p:=p) (n:Int);rcases I.or hp (h-con p (n:Int)) (sub_len hp.1 hl (by lia)) with c|c
  ·have g:Go q ((h-con p (n:Int))*PH h n):=g.pB (mul_comm _ _);obtain⟨s,hs,k⟩:=w6.aaw hp I hl h1 n (g.cut c);exact⟨s,by lia,k⟩
  ·exact⟨n,dh n,c⟩
theorem Zr (hp:jG p)(I:w6 q)(hl:(ls h).length<=200)(g:Go q (fx h)):∃s:Int,0<=s/\s<p/\Go q (h-con p s):=by
 have p2:=hp.1;have p0:0<p:=by lia
 have red:∀c:Int,Go q (h-con p c)->∃s:Int,0<=s/\s<p/\Go q (h-con p s):=λc k=>⟨c % p,a9 _ (by lia),aX _ p0,by
  rw[show con p (c % p)=con p c from Rw ⟨-(c / p),by have:=fy c p;rw[iJ];lia⟩];exact k⟩
 by_cases c:(ls h).length<=1
 ·have e:h=con p ((ls h).getD 0 0):=by
   conv=>lhs;rw[<- jF h]
   refine ext λn=>?_
   match n with
   |0=>rfl
   |n+1=>rw[jj (by lia)];rfl
  refine red ((ls h).getD 0 0) ?_;rw[<- e];exact(Go.zero q).pB (by generalize h=x;grind)
 ·have hne:ls h≠[]:=λz=>by rw[z]at c;exact c (by decide)
  have nd:¬p ∣ jk (ls h):=λz=>by have h1:=(jL h).red ((ls h).length-1);have h1:pl p (jk (ls h))=jk (ls h):=h1;rw[kh p0,bY z]at h1;exact(jL h).form hne h1.symm
  obtain⟨t,ht⟩:=lJ hp nd;have e1:con p (jk (ls h))*(con p t*h)=h:=by rw[<- mul_assoc,mul_comm (con p _),wO ht,one_mul]
  have get:∀n,(ls (con p t*h)).getD n 0=pl p (t*(ls h).getD n 0):=λn=>by
   have:con p t*h=mk p (zb t (ls h)):=by rw[<- q8,jF]
   rw[this,pY,j9,jQ]
  have top:(ls (con p t*h)).getD ((ls h).length-1) 0=1:=by rw[get];have:pl p (t*jk (ls h))=pl p 1:=(qw p _ _).mpr ht;exact this.trans (W2 p2)
  have le:(ls (con p t*h)).length<=(ls h).length:=mR (jL _).form λn hn=>by rw[get,jj hn,aU,lH]
  have ge:(ls h).length-1<(ls (con p t*h)).length:=cV λc=>by rw[jj c]at top;exact absurd top (by decide)
  have el:(ls (con p t*h)).length=(ls h).length:=by lia
  have mo:Mo (con p t*h):=by show(ls (con p t*h)).getD ((ls (con p t*h)).length-1) 0=1;rw[el];exact top
  have g2:Go q (Pl.PH (con p t*h) p.toNat):=by rw[<- aaO hp mo (by lia),W8 hp];exact g.mul _
  obtain⟨s,hs,k⟩:=I.aaw hp (h:=con p t*h) (by lia) (by lia) _ g2;refine red (jk (ls h)*(s:Int)) ?_;have k2:=k.mul (con p (jk (ls h)));refine k2.pB ?_;have e3:=Ef (p:=p) (jk (ls h)) (s:Int);rw[e3];generalize con p (jk (ls h))=a at *
  generalize con p (s:Int)=b at *
  generalize con p t*h=d at *
  rw[<- e1];grind
theorem Ez (hp:jG p)(I:w6 q)(a:Go q (h-con p s))(b:Go q (h-con p t)):p ∣ s-t:=by refine I.Jt hp ((b.sub a).pB ?_);rw[FJ];generalize con p s=x;generalize con p t=y;grind
end Pl
namespace Pl
variable {p:Int}
def PL (l:List (Pl p)):Pl p:=l.foldr (λq x=>q*x) 1
theorem qd (q:Pl p)(l:List (Pl p)):PL (q::l)=q*PL l:=rfl
theorem Ju (a b:List (Pl p)):PL (a++b)=PL a*PL b:=by
 induction a with
 |nil=>exact(one_mul _).symm
 |cons q a ih=>rw[List.cons_append,qd,qd,ih,mul_assoc]
theorem LC {a b:List (Pl p)}(h:a.Perm b):PL a=PL b:=by
 induction h with
 |nil=>rfl
 |cons x _ ih=>rw[qd,qd,ih]
 |swap x y l=>rw[qd,qd,qd,qd];generalize PL l=z;grind
 |trans _ _ h1 h2=>exact h1.trans h2
structure vV (l:List (Pl p)):Prop where
 irr:∀q∈l,w6 q
 len:∀q∈l,(ls q).length<=200
 nd:l.Nodup
theorem vV.sub {l m:List (Pl p)}(I:vV l)(h:∀q∈m,q∈l)(nd:m.Nodup):vV m:=⟨λq hq=>I.irr q (h q hq),λq hq=>I.len q (h q hq),nd⟩
theorem Dr (p2:2<=p):∀{l:List (Pl p)},(∀q∈l,Mo q)->Mo (PL l)
 |[],_=>Mo.one p2
 |q::l,h=>Mo.mul p2 (h q ah) (Dr p2 λr hr=>h r (ad _ hr))
theorem vV.mo {l:List (Pl p)}(I:vV l)(p2:2<=p):Mo (PL l):=Dr p2 λq hq=>(I.irr q hq).mo
theorem Aw (p2:2<=p):∀{l:List (Pl p)},(∀q∈l,w6 q)->l.length+1<=(ls (PL l)).length
 |[],_=>by show 1<=(ls (1:Pl p)).length;rw[uh p2];exact ao _
 |q::l,h=>by have ih:=Aw p2 λr hr=>h r (ad _ hr);have hq:=h q ah;have l2:=Mo.len p2 hq.mo (Dr p2 λr hr=>(h r (ad _ hr)).mo);have:=hq.deg;rw[qd,aR];lia
theorem Ep:∀{l:List (Pl p)},(∀r∈l,nG r x)->nG (PL l) x
 |[],_=>(nG.one x).symm
 |q::l,h=>(h q ah).mul (Ep λr hr=>h r (ad _ hr))
theorem vV.cop {l:List (Pl p)}(hp:jG p)(I:vV l)(hq:q∈l)(hr:r∈l)(ne:q≠r):nG q r:=(I.irr q hq).cop hp (I.irr r hr) (I.len r hr) ne
theorem K1 (hp:jG p):∀{l:List (Pl p)},vV l->(∀q∈l,Go q x)->Go (PL l) x
 |[],_,_=>⟨x,by show x=x*1;rw[mul_comm,one_mul]⟩
 |q::l,I,h=>by have nd:=cS.mp I.nd;have I2:vV l:=I.sub (λr hr=>ad _ hr) nd.2;refine(h q ah).both (K1 hp I2 λr hr=>h r (ad _ hr)) ?_;refine(Ep λr hr=>?_).symm;exact I.cop hp (ad _ hr) ah λe=>nd.1 (e ▸ hr)
theorem wA:∀{l:List (Pl p)},q∈l->Go q (PL l)
 |r::l,h=>by
  rcases aF.mp h with rfl|h
  ·exact(Go.refl _).XD _
  ·exact(wA h).mul _
theorem VM (hp:jG p)(mg:Mo g)(hl:(ls g).length<=200)(x:Pl p):∃u r,x=u*g+r/\(ls r).length<(ls g).length:=by
 obtain⟨_,_,ir,Q,hQ⟩:=mC (Fw hp mg hl) (ls x);rw[rR]at ir hQ;refine⟨mk p Q,mk p (rm p (ls g) (ls x)),?_,?_⟩
 ·have e:mk p (ls x)=mk p Q*mk p (ls g)+mk p (rm p (ls g) (ls x)):=by
   rw[kj,lV];refine lz.mpr λn=>?_;rw[ju,jg];have:=hQ n;have e:(ls x).getD n 0-(cm Q (ls g) n+(rm p (ls g) (ls x)).getD n 0)=(ls x).getD n 0-(rm p (ls g) (ls x)).getD n 0-cm Q (ls g) n:=by lia
   rw[e];exact this
  rw[jF,jF]at e;exact e
 ·rw[tM ⟨ir.form,ir.red⟩];exact ir.len
theorem Az {g x:Pl p}(mg:Mo g)(h:Go g x)(l:(ls x).length<(ls g).length):x=0:=by
 obtain⟨u,e⟩:=h;have r:=rH (p:=p) (d:=ls g) (r:=ls x) (s:=[]) (λy hy=>by rw[show jk (ls g)=1 from mg,bO]at hy;exact hy) ⟨(jL _).form,(jL _).red,l⟩ ⟨oU,λn=>by show pl p 0=0;exact lH p,mg.pos⟩ ⟨ls u,λn=>by
  have e2:mk p (ls x)=mk p (ji (ls u) (ls g)):=by rw[jF,<- kj,jF,jF];exact e
  have:=lz.mp e2 n;rw[jg]at this;show p ∣ (ls x).getD n 0-0-cm (ls u) (ls g) n;rw[aS];exact this⟩
 rw[<- jF x,r,xX]
theorem crt (hp:jG p)(I:vV l)(hl:(ls (PL l)).length<=200)(hq:q∈l):∃e:Pl p,Go q (e-con p 1)/\(∀r∈l,r≠q->Go r (e-con p 0))/\Go (PL l) (fx e)/\(ls e).length<(ls (PL l)).length:=by
 have dd:DecidableEq (Pl p):=λa b=>Classical.propDecidable _;have pm:=List.perm_cons_erase hq;have hm:∀r∈l.erase q,r∈l/\r≠q:=λr hr=>⟨List.mem_of_mem_erase hr,λz=>by
  have:=(I.nd.mem_erase_iff (a:=r) (b:=q)).mp hr;exact this.1 z⟩
 obtain⟨s,t,e⟩:nG (PL (l.erase q)) q:=Ep λr hr=>I.cop hp (hm r hr).1 hq (hm r hr).2;obtain⟨u,r,e2,lr⟩:=VM hp (I.mo hp.1) hl (s*PL (l.erase q));have k1:Go q (r-con p 1):=by
  have a:Go q (u*PL l):=(wA hq).mul u;have b:Go q (t*q):=(Go.refl q).mul t;refine(Go.sub (Go.zero q) (a.add b)).pB ?_;show 0-(u*PL l+t*q)=r-1;generalize PL l=x at *
  generalize PL (l.erase q)=y at *
  grind
 have k2:∀o∈l,o≠q->Go o (r-con p 0):=λo ho hne=>by
  have a:Go o (u*PL l):=(wA ho).mul u;have b:Go o (s*PL (l.erase q)):=(wA ((I.nd.mem_erase_iff).mpr ⟨hne,ho⟩)).mul s;refine(b.sub a).pB ?_;show s*PL (l.erase q)-u*PL l=r-0;generalize PL l=x at *
  generalize PL (l.erase q)=y at *
  grind
 refine⟨r,k1,k2,K1 hp I λo ho=>?_,lr⟩;by_cases c:o=q
 ·subst c;rw[<- zK hp r 1];exact Uq hp k1
 ·rw[<- zK hp r 0];exact Uq hp (k2 o ho c)
def oF (c:Nat->Int)(E:Nat->Pl p):Nat->Pl p
 |0=>0
 |n+1=>oF c E n+con p (c n)*E n
theorem Eb (e:x=mk p a)(n:Nat):p ∣ (ls x).getD n 0-a.getD n 0:=by refine lz.mp ?_ n;rw[jF,e]
theorem za (c:Nat->Int)(E:Nat->Pl p)(j:Nat):∀n,p ∣ (ls (oF c E n)).getD j 0-sm n λk=>c k*(ls (E k)).getD j 0
 |0=>by have:=Eb (p:=p) (x:=oF c E 0) (a:=[0]) rfl j;rw[Cj]at this;exact this
 |n+1=>by
  have ih:=za c E j n;have e:oF c E (n+1)=mk p (jU (ls (oF c E n)) (zb (c n) (ls (E n)))):=by rw[<- lV,<- q8,jF,jF];rfl
  have:=Eb e j;rw[ju,jQ]at this;have h:=bE this ih;have e2:∀a b d f:Int,a-(b+d)+(b-f)=a-(f+d):=λa b d f=>by lia
  rw[e2]at h;exact h
theorem yd {c v:Nat->Int}{E:Nat->Pl p}:∀{n:Nat},(∀k,k<n->Go q (E k-con p (v k)))->Go q (oF c E n-con p (sm n λk=>c k*v k))
 |0,_=>(Go.zero q).pB (by show(0:Pl p)=0-0;grind)
 |n+1,h=>by
  have a:=yd (c:=c) (v:=v) (E:=E) (n:=n) λk hk=>h k (by lia);have b:=(h n (dh n)).mul (con p (c n));refine(a.add b).pB ?_;have e:con p (sm (n+1) λk=>c k*v k)=con p (sm n λk=>c k*v k)+con p (c n)*con p (v n):=by rw[<- Ef,<- zp];rfl
  rw[e];show _=oF c E n+con p (c n)*E n-_;generalize con p (sm n λk=>c k*v k)=x;generalize con p (c n)=y;generalize con p (v n)=z;generalize oF c E n=s;generalize E n=t;grind
structure Wd (g:Pl p)(t:Tab):Prop where
 st:∀y∈t,Go g (fx (mk p y))
 len:∀y∈t,y.length<=200
 span:∀e:Pl p,Go g (fx e)->(ls e).length<(ls g).length->∃c:Nat->Int,e=oF c (λk=>mk p (t.getD k [])) t.length
theorem Xf (hp:jG p):∃iv:Int->Int,∀x,0<x->x<p->p ∣ iv x*x-1:=by
 refine⟨λx=>if h:¬p ∣ x then(lJ hp h).choose else 0,λx h0 h1=>?_⟩;have nd:¬p ∣ x:=λz=>by have:=eZ h0 z;lia
 show p ∣ (if h:¬p ∣ x then(lJ hp h).choose else 0)*x-1;rw[iW nd];exact(lJ hp nd).choose_spec
theorem R5 (p2:2<=p){c:Nat->Int}{E:Nat->Pl p}{n:Nat}(h:∀j,p ∣ sm n λk=>c k*(ls (E k)).getD j 0):oF c E n=0:=by rw[<- jF (oF c E n),<- xX];refine lz.mpr λj=>?_;show p ∣ _-0;rw[aS];have:=bE (za c E j n) (h j);rw[dI]at this;exact this
theorem Hi (hp:jG p){l:List (Pl p)}(I:vV l)(hl:(ls (PL l)).length<=200){t:Tab}(K:Wd (PL l) t):l.length<=t.length:=by
 refine dB λlt=>?_;have p2:=hp.1;have ex:∀k:Nat,∃e:Pl p,∃c:Nat->Int,∀h:k<l.length,Go l[k] (e-con p 1)/\(∀r∈l,r≠l[k]->Go r (e-con p 0))/\e=oF c (λk=>mk p (t.getD k [])) t.length:=λk=>by
  by_cases h:k<l.length
  ·obtain⟨e,h1,h2,h3,h4⟩:=crt hp I hl (bD h);obtain⟨c,h5⟩:=K.span e h3 h4;exact⟨e,c,λ_=>⟨h1,h2,h5⟩⟩
  ·exact⟨0,λ_=>0,λz=>absurd z h⟩
 have⟨E,hE⟩:=gR ex;have⟨C,hC⟩:=gR hE;obtain⟨iv,hiv⟩:=Xf hp;obtain⟨y,⟨i,hi,nd⟩,hy⟩:=dep p2 hiv lt λk j=>C k j;have z:oF y E l.length=0:=R5 p2 λj=>by
  have s1:∀k,k<l.length->p ∣ (ls (E k)).getD j 0-sm t.length λi=>C k i*(ls (mk p (t.getD i []))).getD j 0:=λk hk=>by have:=za (C k) (λk=>mk p (t.getD k [])) j t.length;rw[<- (hC k hk).2.2]at this;exact this
  have s2:sm l.length (λk=>y k*sm t.length λi=>C k i*(ls (mk p (t.getD i []))).getD j 0)=sm t.length λi=>(sm l.length λk=>y k*C k i)*(ls (mk p (t.getD i []))).getD j 0:=by
   have a:sm l.length (λk=>y k*sm t.length λi=>C k i*(ls (mk p (t.getD i []))).getD j 0)=sm l.length λk=>sm t.length λi=>y k*C k i*(ls (mk p (t.getD i []))).getD j 0:=jn λk _=>by rw[<- nU];exact jn λi _=>by rw[bM]
   rw[a,wR];exact jn λi _=>by rw[yW]
  have s3:p ∣ sm t.length λi=>(sm l.length λk=>y k*C k i)*(ls (mk p (t.getD i []))).getD j 0:=m8 λi hi=>bh (hy i hi);rw[<- s2]at s3;have s4:p ∣ sm l.length λk=>y k*((ls (E k)).getD j 0-sm t.length λi=>C k i*(ls (mk p (t.getD i []))).getD j 0):=m8 λk hk=>aO (s1 k hk);have s5:=bE s4 s3;rw[<- sO]at s5;have e:(sm l.length λk=>y k*((ls (E k)).getD j 0-sm t.length λi=>C k i*(ls (mk p (t.getD i []))).getD j 0)+y k*sm t.length λi=>C k i*(ls (mk p (t.getD i []))).getD j 0)=sm l.length λk=>y k*(ls (E k)).getD j 0:=jn λk _=>by rw[<- fU,dI]
  rw[e]at s5;exact s5
 have g:=yd (q:=l[i]) (c:=y) (v:=λk=>if k=i then 1 else 0) (E:=E) (n:=l.length) λk hk=>by
  obtain⟨h1,h2,_⟩:=hC k hk;by_cases c:k=i
  ·subst c;rw[af rfl];exact h1
  ·rw[ae c];refine h2 _ (bD hi) λe=>?_;have pw:=cO.mp I.nd;rcases gq c with q|q
   ·exact pw k i hk hi q e.symm
   ·exact pw i k hi hk q e
 have e:(sm l.length λk=>y k*(if k=i then(1:Int) else 0))=y i:=by rw[qR (k:=i) hi λk _ hne=>by rw[ae hne,aU],af rfl,bO]
 rw[z,e]at g;have g2:Go l[i] (con p (-(y i))):=g.pB (by rw[Ea];generalize con p (y i)=x;grind);have:=(I.irr _ (bD hi)).Jt hp g2;exact nd (bu.mp this)
theorem PB (hp:jG p){l:List (Pl p)}(I:vV l)(hl:(ls (PL l)).length<=200){t:Tab}(K:Wd (PL l) t)(hq:q∈l)(hr:r∈l)(ne:q≠r){v:Nat->Int}(h1:∀k,k<t.length->Go q (mk p (t.getD k [])-con p (v k)))(h2:∀k,k<t.length->Go r (mk p (t.getD k [])-con p (v k))):False:=by obtain⟨e,a,b,c,d⟩:=crt hp I hl hq;obtain⟨f,rfl⟩:=K.span e c d;have g1:=yd (q:=q) (c:=f) (v:=v) (E:=λk=>mk p (t.getD k [])) h1;have g2:=yd (q:=r) (c:=f) (v:=v) (E:=λk=>mk p (t.getD k [])) h2;have k1:=Ez hp (I.irr q hq) a g1;have k2:=Ez hp (I.irr r hr) (b r hr (ck ne)) g2;have:=eO k1 k2;rw[show ∀x:Int,1-x-(0-x)=1 from λx=>by lia]at this;have:=eZ (by decide) this;have:=hp.1;lia
end Pl
namespace Pl
variable {p:Int}
open Classical in
def vl (h q:Pl p):Int:=if k:∃s:Int,0<=s/\s<p/\Go q (h-con p s) then k.choose else 0
theorem Xo (k:∃s:Int,0<=s/\s<p/\Go q (h-con p s)):0<=vl h q/\vl h q<p/\Go q (h-con p (vl h q)):=by unfold vl;rw[iW k];exact k.choose_spec
theorem MF (hp:jG p)(I:w6 q)(hl:(ls h).length<=200)(g:Go q (fx h)):0<=vl h q/\vl h q<p/\Go q (h-con p (vl h q)):=Xo (Zr hp I hl g)
theorem aaG (hp:jG p)(I:w6 q)(h0:0<=s)(h1:s<p)(g:Go q (h-con p s)):vl h q=s:=by
 obtain⟨a,b,c⟩:=Xo (h:=h) (q:=q) ⟨s,h0,h1,g⟩;obtain⟨m,hm⟩:=Ez hp I c g;have p2:=hp.1;generalize vl h q=x at *
 have m0:m=0:=by
  rcases Int.lt_trichotomy m 0 with z|z|z
  ·have:p*m<=p*(-1):=bC (by lia) (by lia);rw[iJ,bO]at this;lia
  ·exact z
  ·have:p*1<=p*m:=bC (by lia) (by lia);rw[bO]at this;lia
 rw[m0,aU]at hm;lia
theorem uJ {α:Type}(f:α->Bool):∀l:List α,(l.filter f++l.filter λx=>!f x).Perm l
 |[]=>.nil
 |a::l=>by
  have ih:=uJ f l;cases e:f a with
  |true=>rw[cE e,cF (by rw[e];decide)];exact .cons a ih
  |false=>rw[cF (by rw[e];decide),cE (by rw[e];decide)];exact List.perm_middle.trans (.cons a ih)
theorem Z5 (hp:jG p)(I:vV c)(hl:(ls h).length<=200)(h1:1<=200)(st:∀q∈c,Go q (fx h))(s0:0<=s)(s1:s<p):Gd (PL c) (h-con p s) (PL (c.filter λq=>decide (vl h q=s))):=by
 have e1:PL c=PL (c.filter λq=>decide (vl h q=s))*PL (c.filter λq=>!decide (vl h q=s)):=by rw[<- Ju,LC (uJ _ c)]
 have I1:vV (c.filter λq=>decide (vl h q=s)):=I.sub (λq hq=>(aT.mp hq).1) (I.nd.filter _);obtain⟨w,e2⟩:Go (PL (c.filter λq=>decide (vl h q=s))) (h-con p s):=K1 hp I1 λq hq=>by obtain⟨m1,m2⟩:=aT.mp hq;have:=(MF hp (I.irr q m1) hl (st q m1)).2.2;rw[bI m2]at this;exact this
 have cop:nG (PL (c.filter λq=>!decide (vl h q=s))) (h-con p s):=Ep λq hq=>by
  obtain⟨m1,m2⟩:=aT.mp hq;have l:=vC (p:=p) s;rcases (I.irr q m1).or hp (h-con p s) (sub_len hp.1 hl (by lia)) with k|k
  ·exact k
  ·exfalso;rw[aaG hp (I.irr q m1) s0 s1 k]at m2;simp at m2
 rw[e1];generalize PL (c.filter λq=>decide (vl h q=s))=x at *
 generalize PL (c.filter λq=>!decide (vl h q=s))=y at *
 obtain⟨a,b,e3⟩:nG y w:=cop.aav ⟨x,by rw[e2,mul_comm]⟩;rw[e2];exact⟨⟨a,b,by grind⟩,⟨y,mul_comm x y⟩,⟨w,rfl⟩⟩
def taN (h:Pl p)(c:List (Pl p))(nums:List Int):List (List (Pl p)):=(nums.map λs=>c.filter λq=>decide (vl h q=s)).filter λf=>decide (0<f.length)
def Zx (h:Pl p)(nums:List Int)(cls:List (List (Pl p))):List (List (Pl p)):=cls.flatMap λc=>taN h c nums
theorem DG {α:Type}:∀L:List (List α),(L.filter λf=>decide (0<f.length)).flatten=L.flatten
 |[]=>rfl
 |[]::L=>by rw[cF (by simp),DG L];rfl
 |(a::f)::L=>by rw[cE (by simp),bQ,bQ,DG L]
theorem yj {α:Type}(f:α->Int)(c:List α):∀{nums:Li},nums.Nodup->((nums.map λs=>c.filter λq=>decide (f q=s)).flatten).Perm (c.filter λq=>decide (f q∈nums))
 |[],_=>by
  rw[dO,List.flatten_nil];have:(c.filter λq=>decide (f q∈([]:List Int)))=[]:=List.filter_eq_nil_iff.mpr λq _=>by simp
  rw[this]
 |s::nums,nd=>by
  obtain⟨n1,n2⟩:=cS.mp nd;have ih:=yj f c n2;rw[bK,bQ];have k:=uJ (λq=>decide (f q=s)) (c.filter λq=>decide (f q∈s::nums));rw[List.filter_filter,List.filter_filter]at k;have a1:(c.filter λq=>decide (f q=s) && decide (f q∈s::nums))=c.filter λq=>decide (f q=s):=fg λq _=>by
   by_cases z:f q=s
   ·simp[z]
   ·simp[z]
  have a2:(c.filter λq=>(!decide (f q=s)) && decide (f q∈s::nums))=c.filter λq=>decide (f q∈nums):=fg λq _=>by
   by_cases z:f q=s
   ·simp[z,n1]
   ·simp[z]
  rw[a1,a2]at k;exact(List.Perm.append_left _ ih).trans k
theorem QJ {h:Pl p}{c:List (Pl p)}{nums:Li}(nd:nums.Nodup)(hc:∀q∈c,vl h q∈nums):(taN h c nums).flatten.Perm c:=by unfold taN;rw[DG];have:=yj (vl h) c nd;rw[iQ.mpr λq hq=>aK (hc q hq)]at this;exact this
structure Cls (l H:List (Pl p))(cls:List (List (Pl p))):Prop where
 pm:cls.flatten.Perm l
 ne:∀c∈cls,c≠[]
 al:∀c∈cls,∀h∈H,∀q∈c,∀r∈c,vl h q=vl h r
theorem Cls.start {l:List (Pl p)}(h:l≠[]):Cls l [] [l]:=⟨by simp,λc hc=>by rw[bA.mp hc];exact h,λc _ h hh=>by cases hh⟩
theorem Cls.mem {l H:List (Pl p)}{cls:List (List (Pl p))}(C:Cls l H cls){c:List (Pl p)}(hc:c∈cls){q:Pl p}(hq:q∈c):q∈l:=C.pm.mem_iff.mp (List.mem_flatten.mpr ⟨c,hc,hq⟩)
theorem Hs (nd:nums.Nodup):∀{cls:List (List (Pl p))},(∀c∈cls,∀q∈c,vl h q∈nums)->(Zx h nums cls).flatten.Perm cls.flatten
 |[],_=>.nil
 |c::cls,hc=>by show((taN h c nums)++Zx h nums cls).flatten.Perm _;rw[eQ,bQ];exact(QJ nd (hc c ah)).append (Hs nd λd hd=>hc d (ad _ hd))
theorem Cls.step {l H:List (Pl p)}{cls:List (List (Pl p))}(C:Cls l H cls){h:Pl p}{nums:Li}(nd:nums.Nodup)(hn:∀q∈l,vl h q∈nums):Cls l (h::H) (Zx h nums cls):=by
 refine⟨(Hs nd λc hc q hq=>hn q (C.mem hc hq)).trans C.pm,λd hd=>?_,λd hd k hk q hq r hr=>?_⟩
 ·obtain⟨c,_,hd⟩:=List.mem_flatMap.mp hd;have:=bI (aT.mp hd).2;exact eI.mp this
 ·obtain⟨c,hc,hd⟩:=List.mem_flatMap.mp hd;obtain⟨s,_,rfl⟩:=aP.mp (aT.mp hd).1;obtain⟨q1,q2⟩:=aT.mp hq;obtain⟨r1,r2⟩:=aT.mp hr;rcases aF.mp hk with rfl|hk
  ·rw[bI q2,bI r2]
  ·exact C.al c hc k hk q q1 r r1
theorem Ah {α:Type}:∀{L:List (List α)},(∀c∈L,c≠[])->L.length<=L.flatten.length/\(L.flatten.length<=L.length->∀c∈L,c.length=1)
 |[],_=>⟨ao _,λ_ c hc=>by cases hc⟩
 |c::L,h=>by
  obtain⟨i1,i2⟩:=Ah λd hd=>h d (ad _ hd);have:=lP (h c ah);rw[bQ,ai,aR];refine⟨by lia,λle d hd=>?_⟩;rcases aF.mp hd with rfl|hd
  ·lia
  ·exact i2 (by lia) d hd
theorem ones {L:List (List (Pl p))}(h:∀c∈L,c.length=1):L.map PL=L.flatten:=by
 induction L with
 |nil=>rfl
 |cons c L ih=>
  rw[bK,bQ,ih λd hd=>h d (ad _ hd)];have hc:=h c ah
  match c,hc with
  |[q],_=>show q*1::_=q::L.flatten;rw[mul_comm,one_mul]
theorem Cls.fin (hp:jG p){l H:List (Pl p)}{cls:List (List (Pl p))}(C:Cls l H cls)(I:vV l)(hl:(ls (PL l)).length<=200){t:Tab}(K:Wd (PL l) t)(h:t.length<=cls.length\/∀k,k<t.length->Pl.mk p (t.getD k [])∈H):(cls.map PL).Perm l:=by
 have one:∀c∈cls,c.length=1:=by
  rcases h with h|h
  ·have:=Hi hp I hl K;refine(Ah C.ne).2 ?_;rw[C.pm.length_eq];lia
  ·intro c hc;have c0:=lP (C.ne c hc);refine cQ λne=>?_
   match c,hc,c0,ne with
   |[q],_,_,ne=>exact ne rfl
   |q::r::m,hc,_,_=>
    have nd:(q::r::m).Nodup:=by have:=C.pm.nodup_iff.mpr I.nd;exact(List.pairwise_flatten.mp this).1 _ hc
    have qr:q≠r:=λe=>(cS.mp nd).1 (e ▸ ah);have mq:q∈q::r::m:=ah;have mr:r∈q::r::m:=ad _ ah;have ok:∀k,k<t.length->∀o∈l,Go o (Pl.mk p (t.getD k [])-con p (vl (Pl.mk p (t.getD k [])) o)):=λk hk o ho=>by
     have mt:t.getD k []∈t:=by rw[gQ,ac hk];exact bD hk
     exact(MF hp (I.irr o ho) (aH (by rw[pY];exact mW _ _) (K.len _ mt)) ((wA ho).trans (K.st _ mt))).2.2
    refine PB hp I hl K (C.mem hc mq) (C.mem hc mr) qr (v:=λk=>vl (Pl.mk p (t.getD k [])) q) (λk hk=>ok k hk q (C.mem hc mq)) λk hk=>?_;rw[C.al _ hc _ (h k hk) q mq r mr];exact ok k hk r (C.mem hc mr)
 rw[ones one];exact C.pm
theorem Jy (g:Go q (h-con p s)):∀k:Nat,Go q (h^k-con p (s^k))
 |0=>by
  have e:h^0=1:=rfl;have e2:con p (s^0)=1:=by rw[i7];rfl
  refine(Go.zero q).pB ?_;rw[e,e2];grind
 |k+1=>by
  have ih:=Jy g k;refine((ih.XD h).add (g.mul (con p (s^k)))).pB ?_;have e:con p (s^(k+1))=con p (s^k)*con p s:=by rw[<- Ef,ib]
  rw[e];show _=h^k*h-_;generalize h^k=a;generalize con p (s^k)=b;generalize con p s=c;grind
theorem Wc (hp:jG p)(I:vV l)(g:Go (PL l) (oF y (λi=>h^i) n))(hq:q∈l)(k:Go q (h-con p s)):p ∣ sm n λi=>y i*s^i:=by have a:=yd (q:=q) (c:=y) (v:=λi=>s^i) (E:=λi=>h^i) (n:=n) λi _=>Jy k i;have b:=(wA hq).trans g;refine(I.irr q hq).Jt hp ((b.sub a).pB ?_);generalize oF y (λi=>h^i) n=x;generalize con p (sm n λi=>y i*s^i)=z;grind
theorem X3 (hp:jG p){l:List (Pl p)}(I:vV l)(hl:(ls h).length<=200)(st:Go (PL l) (fx h)){n:Nat}(hn:l.length<n):∃y:Nat->Int,(∃i,i<n/\¬p ∣ y i)/\Go (PL l) (oF y (λi=>h^i) n):=by obtain⟨iv,hiv⟩:=Xf hp;obtain⟨y,h1,h2⟩:=dep hp.1 hiv hn λk j=>vl h (l.getD j 1)^k;refine⟨y,h1,K1 hp I λq hq=>?_⟩;obtain⟨j,hj,rfl⟩:=b8.mp hq;have ok:=(MF hp (I.irr _ hq) hl ((wA hq).trans st)).2.2;have a:=yd (q:=l[j]) (c:=y) (v:=λi=>vl h l[j]^i) (E:=λi=>h^i) (n:=n) λi _=>Jy ok i;have b:=h2 j hj;rw[show l.getD j 1=l[j] by rw[gQ,ac hj];rfl]at b;rw[Lf b]at a;exact a.pB (by generalize oF y (λi=>h^i) n=x;grind)
end Pl
namespace Pl
variable {p:Int}
theorem Mz (x:Pl p):x^0=1:=rfl
theorem wL (x:Pl p)(k:Nat):x^(k+1)=x^k*x:=rfl
theorem YH (h:kY p d a b):Go (mk p d) (mk p a-mk p b):=by
 obtain⟨Q,h⟩:=h;refine⟨mk p Q,?_⟩;show mk p a + -mk p b=mk p Q*mk p d;rw[yc,lV,kj];refine lz.mpr λn=>?_;rw[ju,jQ,jg];have e:a.getD n 0 + -1*b.getD n 0-cm Q d n=a.getD n 0-b.getD n 0-cm Q d n:=by lia
 rw[e];exact h n
theorem Xz (hp:jG p)(mg:Mo G)(hl:(ls G).length<=200)(f:Li):Go G (mk p f-mk p (rm p (ls G) f))/\NQ p (ls G) (rm p (ls G) f):=by obtain⟨_,_,r,e⟩:=mC (Fw hp mg hl) f;rw[rR]at r e;have:=YH e;rw[jF]at this;exact⟨this,r⟩
theorem aaN (m:Int)(r:Li):mk p (wd m r)=mk p r:=ext λn=>Y9 m r n
theorem Go.flip {a b c:Pl p}(h:Go a (b-c)):Go a (c-b):=by obtain⟨u,e⟩:=h;exact⟨-u,by grind⟩
theorem Go.ch {a b c d:Pl p}(h:Go a (b-c))(k:Go a (c-d)):Go a (b-d):=(h.add k).pB (by grind)
theorem Sd (hp:jG p)(mg:Mo G)(hl:(ls G).length<=200)(f:Li)(hk:k<n):Go G (mk p ((jJ p (ls G) f n).getD k [])-mk p f^k)/\((jJ p (ls G) f n).getD k []).length=(ls G).length-1:=by rw[KZ hk,aaN];obtain⟨a,b⟩:=Xz hp mg hl (pw f k);rw[uo]at a;refine⟨a.flip,?_⟩;have:=b.len;have:=Rm (m:=((ls G).length:Int)-1) (r:=rm p (ls G) (pw f k)) (by lia);lia
theorem yS (c:Nat->Int)(E F:Nat->Pl p):∀n,oF c E n-oF c F n=oF c (λk=>E k-F k) n
 |0=>by show(0:Pl p)-0=0;grind
 |n+1=>by have:=yS c E F n;show(oF c E n+con p (c n)*E n)-(oF c F n+con p (c n)*F n)=oF c (λk=>E k-F k) n+con p (c n)*(E n-F n);rw[<- this];generalize oF c E n=a;generalize oF c F n=b;grind
theorem Eo {g:Pl p}{c:Nat->Int}{E:Nat->Pl p}:∀{n:Nat},(∀k,k<n->Go g (E k))->Go g (oF c E n)
 |0,_=>Go.zero g
 |n+1,h=>(Eo λk hk=>h k (by lia)).add ((h n (by lia)).mul _)
theorem HX (hp:jG p)(c:Nat->Int)(E:Nat->Pl p):∀n,oF c E n^p.toNat=oF c (λk=>E k^p.toNat) n
 |0=>by have:=wY hp 0;exact this
 |n+1=>by show(oF c E n+con p (c n)*E n)^p.toNat=oF c (λk=>E k^p.toNat) n+con p (c n)*E n^p.toNat;rw[Gz hp,HX hp c E n,mul_pow,wY hp]
theorem Aj {c:Nat->Int}{r:Nat->List Int}{E:Nat->Pl p}{n:Nat}(h:∀k,k<n->E k=mk p (r k))(j:Nat):p ∣ (ls (oF c E n)).getD j 0-sm n λk=>c k*(r k).getD j 0:=by
 have a:=za c E j n;have b:p ∣ (sm n λk=>c k*(ls (E k)).getD j 0)-sm n λk=>c k*(r k).getD j 0:=by rw[<- vO];refine m8 λk hk=>?_;rw[<- cw];exact aO (Eb (h k hk) j)
 have:=bE a b
 rwa [show ∀x y z:Int,x-y+(y-z)=x-z from λx y z=>by lia]at this
def xx (p:Int):Pl p:=mk p [0,1]
def ux (k:Nat):List Int:=List.replicate k 0++[1]
theorem t8:∀k j:Nat,(ux k).getD j 0=if j=k then 1 else 0
 |0,0=>rfl
 |0,j+1=>by rw[ae (by lia)];rfl
 |k+1,0=>by rw[ae (by lia)];rfl
 |k+1,j+1=>by
  have e:(ux (k+1)).getD (j+1) 0=(ux k).getD j 0:=rfl;rw[e,t8 k j];by_cases c:j=k
  ·rw[af c,af (by lia)]
  ·rw[ae c,ae (by lia)]
theorem JV:∀k:Nat,xx p^k=mk p (ux k)
 |0=>rfl
 |k+1=>by
  rw[wL,JV k];refine ext λn=>?_;rw[jg,jA,nR,t8 (k+1) n];cases n with
  |zero=>rw[af rfl,ae (by lia)];lia
  |succ n=>
   rw[ae (by lia),Nat.add_sub_cancel,nR,lL,t8 k n];by_cases c:n=k
   ·rw[af c,af (show n+1=k+1 by lia)];split<;>lia
   ·rw[ae c,ae (show ¬n+1=k+1 by lia)];split<;>lia
theorem ZZ (c:Nat->Int)(j n:Nat):(sm n λk=>c k*(ux k).getD j 0)=if j<n then c j else 0:=by
 by_cases h:j<n
 ·rw[af h,qR (k:=j) h λi _ hn=>by rw[t8,ae (ck hn),aU],t8,af rfl,bO]
 ·rw[ae h];exact mO λi hi=>by rw[t8,ae (by lia),aU]
theorem TQ (y:Li)(hn:y.length<=n):mk p y=oF (λk=>y.getD k 0) (λk=>xx p^k) n:=by
 have h:=λj=>Aj (p:=p) (c:=λk=>y.getD k 0) (r:=ux) (E:=λk=>xx p^k) (n:=n) (λk _=>JV k) j;rw[<- jF (oF (λk=>y.getD k 0) (λk=>xx p^k) n)];refine lz.mpr λj=>?_;have:=h j;rw[ZZ]at this;by_cases c:j<n
 ·rw[af c]at this;have e:y.getD j 0-(ls (oF (λk=>y.getD k 0) (λk=>xx p^k) n)).getD j 0 = -((ls (oF (λk=>y.getD k 0) (λk=>xx p^k) n)).getD j 0-y.getD j 0):=by lia
  rw[e];exact bu.mpr this
 ·rw[ae c]at this;rw[jj (xs:=y) (by lia)];have e:0-(ls (oF (λk=>y.getD k 0) (λk=>xx p^k) n)).getD j 0 = -((ls (oF (λk=>y.getD k 0) (λk=>xx p^k) n)).getD j 0-0):=by lia
  rw[e];exact bu.mpr this
end Pl
namespace Pl
variable {p:Int}
theorem Rg (p2:2<=p)(h:p ∣ x)(k:pl p x=x):x=0:=by rw[kh (by lia)]at k;rw[<- k];exact bY h
theorem Nf (p2:2<=p){c:Nat->Int}{r:Nat->List Int}{E:Nat->Pl p}{N n:Nat}(h:∀k,k<N->E k=mk p (r k))(z:∀k,k<N->∀j,n<=j->(r k).getD j 0=0):(ls (oF c E N)).length<=n:=mR (jL _).form λj hj=>by have:=Aj h j (c:=c);rw[mO λk hk=>by rw[z k hk j hj,aU],aS]at this;exact Rg p2 this ((jL _).red j)
theorem Nb (p2:2<=p){c:Nat->Int}{r:Nat->List Int}{E:Nat->Pl p}{N:Nat}(h:∀k,k<N->E k=mk p (r k))(z:∀j,p ∣ sm N λk=>c k*(r k).getD j 0):oF c E N=0:=by
 rw[<- jF (oF c E N),tU];refine lz.mpr λj=>?_;rw[Cj,aS];have:=bE (Aj h j (c:=c)) (z j)
 rwa [dI]at this
theorem LR {c:Nat->Int}{r:Nat->List Int}{E:Nat->Pl p}{N:Nat}(h:∀k,k<N->E k=mk p (r k))(e:oF c E N=0)(j:Nat):p ∣ sm N λk=>c k*(r k).getD j 0:=by
 have:=Aj h j (c:=c);rw[e]at this;have z:p ∣ (ls (0:Pl p)).getD j 0:=by have:=Eb (x:=(0:Pl p)) tU j;rw[Cj,aS]at this;exact this
 have:=eO z this
 rwa [show ∀x y:Int,x-(x-y)=y from λx y=>by lia]at this
theorem QB {g a b:Pl p}(h:Go g (a-b)):∀k:Nat,Go g (a^k-b^k)
 |0=>(Go.zero g).pB (by show(0:Pl p)=1-1;grind)
 |k+1=>by have:=QB h k;rw[wL,wL];refine((this.XD a).add (h.mul (b^k))).pB ?_;generalize a^k=x;generalize b^k=y;grind
theorem Ft (x:Pl p)(a:Nat):∀b:Nat,(x^a)^b=x^(a*b)
 |0=>rfl
 |b+1=>by rw[wL,Ft x a b,i5,pow_add]
theorem PN (hp:jG p){G:Pl p}(mg:Mo G)(hl:(ls G).length<=200)(h2:2<=(ls G).length){t:Tab}(K:yu p ((ls G).length-1) ((ls G).length-1) (pH p (qT p (ls G))) t):Wd G t:=by
 have p2:2<=p:=hp.1;have ql:(qT p (ls G)).length=(ls G).length-1:=oE ..;have rg:∀k,k<(ls G).length-1->Go G (mk p ((qT p (ls G)).getD k [])-mk p (rm p (ls G) (pw [0,1] p.toNat))^k)/\((qT p (ls G)).getD k []).length=(ls G).length-1:=λk hk=>Sd hp mg hl _ hk;have xg:Go G (mk p (rm p (ls G) (pw [0,1] p.toNat))-xx p^p.toNat):=by have:=(Xz hp mg hl (pw [0,1] p.toNat)).1.flip;rw[uo]at this;exact this
 have ent':∀k,k<(ls G).length-1->∀j,p ∣ ent (pH p (qT p (ls G))) k j-((jU ((qT p (ls G)).getD k []) (zb (-1) (ux k))).getD j 0):=λk hk j=>by
  unfold ent;rw[Lk (by lia),ju,jQ,t8];have rl:=(rg k hk).2;by_cases c:j=k
  ·subst c;rw[af rfl,gQ,e8 (by lia)];have:=ni p (((qT p (ls G)).getD j []).getD j 0-1)
   rwa [show ∀x y:Int,x-(y + -1*1)=x-(y-1) from λx y=>by lia]
  ·rw[ae c,gQ,d7 (ck c),<- gQ];rw[show ∀x:Int,x-(x + -1*0)=0 from λx=>by lia];exact aV p
 have rE:∀k,k<(ls G).length-1->mk p ((qT p (ls G)).getD k [])-xx p^k=mk p (jU ((qT p (ls G)).getD k []) (zb (-1) (ux k))):=λk _=>by rw[JV,<- lV,<- yc];rfl
 have rz:∀k,k<(ls G).length-1->∀j,(ls G).length-1<=j->(jU ((qT p (ls G)).getD k []) (zb (-1) (ux k))).getD j 0=0:=λk hk j hj=>by rw[ju,jQ,t8,ae (by lia),jj (by rw[(rg k hk).2];exact hj)];rfl
 have key:∀c:Nat->Int,Go G (fx (oF c (λk=>xx p^k) ((ls G).length-1))-oF c (λk=>mk p ((qT p (ls G)).getD k [])-xx p^k) ((ls G).length-1)):=λc=>by
  have e1:fx (oF c (λk=>xx p^k) ((ls G).length-1))-oF c (λk=>mk p ((qT p (ls G)).getD k [])-xx p^k) ((ls G).length-1)=oF c (λk=>(xx p^k)^p.toNat-mk p ((qT p (ls G)).getD k [])) ((ls G).length-1):=by unfold fx;rw[HX hp,<- yS,<- yS];generalize oF c (λk=>xx p^k) ((ls G).length-1)=x;generalize oF c (λk=>(xx p^k)^p.toNat) ((ls G).length-1)=y;generalize oF c (λk=>mk p ((qT p (ls G)).getD k [])) ((ls G).length-1)=z;grind
  rw[e1];refine Eo λk hk=>?_;have a:=(rg k hk).1.ch (QB xg k);rw[Ft,cZ,<- Ft]at a;exact a.flip
 have sums:∀c:Nat->Int,(∀j,j<(ls G).length-1->p ∣ sm ((ls G).length-1) λk=>c k*ent (pH p (qT p (ls G))) k j) ↔ oF c (λk=>mk p ((qT p (ls G)).getD k [])-xx p^k) ((ls G).length-1)=0:=λc=>by
  have both:∀j,p ∣ (sm ((ls G).length-1) λk=>c k*ent (pH p (qT p (ls G))) k j)-sm ((ls G).length-1) λk=>c k*(jU ((qT p (ls G)).getD k []) (zb (-1) (ux k))).getD j 0:=λj=>by rw[<- vO];refine m8 λk hk=>?_;rw[<- cw];exact aO (ent' k hk j)
  constructor
  ·intro h;refine Nb p2 rE λj=>?_;by_cases q:j<(ls G).length-1
   ·have:=eO (h j q) (both j)
    rwa [show ∀x y:Int,x-(x-y)=y from λx y=>by lia]at this
   ·rw[mO λk hk=>by rw[rz k hk j (by lia),aU]];exact aV p
  ·intro h j _;have:=bE (both j) (LR rE h j)
   rwa [dI]at this
 refine⟨λy hy=>?_,λy hy=>by rw[K.len y hy];lia,λe ge le=>?_⟩
 ·have s:=(sums λk=>y.getD k 0).mp (K.nul y hy);have k:=key λk=>y.getD k 0;rw[s,<- TQ y (by rw[K.len y hy];exact ao _)]at k;exact k.pB (by generalize fx (mk p y)=a;grind)
 ·have ee:e=oF (λk=>(ls e).getD k 0) (λk=>xx p^k) ((ls G).length-1):=by rw[<- TQ (ls e) (by lia),jF]
  have k:=key λk=>(ls e).getD k 0;rw[<- ee]at k;have gl:=(ge.sub k).pB (c:=oF (λk=>(ls e).getD k 0) (λk=>mk p ((qT p (ls G)).getD k [])-xx p^k) ((ls G).length-1)) (by
   generalize oF (λk=>(ls e).getD k 0) (λk=>mk p ((qT p (ls G)).getD k [])-xx p^k) ((ls G).length-1)=a;grind)
  have z:=Az mg gl (by
   have:=Nf p2 (c:=λk=>(ls e).getD k 0) rE rz;lia)
  obtain⟨c,hc⟩:=K.span (λk=>(ls e).getD k 0) ((sums _).mpr z);refine⟨c,?_⟩;rw[<- jF e,<- jF (oF c (λk=>mk p (t.getD k [])) t.length)];refine lz.mpr λj=>?_;have lj:=Aj (p:=p) (c:=c) (r:=λk=>t.getD k []) (E:=λk=>mk p (t.getD k [])) (n:=t.length) (λk _=>rfl) j;by_cases q:j<(ls G).length-1
  ·have:=eO (hc j q) lj
   rwa [show ∀x y z:Int,x-y-(z-y)=x-z from λx y z=>by lia]at this
  ·rw[mO λk hk=>by rw[jj (xs:=t.getD k []) (by rw[K.len _ (by rw[gQ,ac hk];exact bD hk)];lia),aU],aS]at lj;rw[jj (xs:=ls e) (by lia),Int.zero_sub];exact bu.mpr lj
theorem Xi (x:Int):∀y:List Int,ev y x=sm y.length λi=>y.getD i 0*x^i
 |[]=>rfl
 |n::r=>by
  rw[aR,g6,z6];have e:(sm r.length λi=>(n::r).getD (1+i) 0*x^(1+i))=x*sm r.length λi=>r.getD i 0*x^i:=by rw[<- nU];refine jn λi _=>?_;rw[g6 1 i,ib];show r.getD i 0*(x^i*x)=_;rw[<- bM,cf]
  have e1:(sm 1 λi=>(n::r).getD i 0*x^i)=n:=by show 0+n*x^0=n;rw[i7];lia
  rw[e,e1,<- Xi x r];rfl
theorem O3 (hp:jG p){l:List (Pl p)}(I:vV l)(hl:(ls (PL l)).length<=200)(hh:h.length<=200)(st:Go (PL l) (fx (mk p h))){N:Nat}(hn:l.length<N){t:Tab}(K:yu p N ((ls (PL l)).length-1) (jJ p (ls (PL l)) h N) t) :
  0<t.length/\∀y∈t,∀q∈l,∀s:Int,Go q (mk p h-con p s)->p ∣ ev y s:=by
 have p2:2<=p:=hp.1;have mg:=I.mo p2;have rg:∀k,k<N->Go (PL l) (mk p ((jJ p (ls (PL l)) h N).getD k [])-mk p h^k)/\((jJ p (ls (PL l)) h N).getD k []).length=(ls (PL l)).length-1:=λk hk=>Sd hp mg hl h hk;have rz:∀k,k<N->∀j,(ls (PL l)).length-1<=j->((jJ p (ls (PL l)) h N).getD k []).getD j 0=0:=λk hk j hj=>jj (by rw[(rg k hk).2];exact hj);have near:∀c:Nat->Int,Go (PL l) (oF c (λk=>mk p ((jJ p (ls (PL l)) h N).getD k [])) N-oF c (λk=>mk p h^k) N):=λc=>by rw[yS];exact Eo λk hk=>(rg k hk).1
 have pos:=mg.pos;constructor
 ·obtain⟨y,⟨i,hi,nd⟩,gy⟩:=X3 hp I (by rw[pY];exact aH (mW p h) hh) st hn;have g2:=((near y).add gy).pB (c:=oF y (λk=>mk p ((jJ p (ls (PL l)) h N).getD k [])) N) (by
   generalize oF y (λk=>mk p ((jJ p (ls (PL l)) h N).getD k [])) N=a;generalize oF y (λk=>mk p h^k) N=b;grind)
  have z:=Az mg g2 (by
   have:=Nf p2 (c:=y) (E:=λk=>mk p ((jJ p (ls (PL l)) h N).getD k [])) (λk _=>rfl) rz;lia)
  exact K.ne (λj _=>LR (E:=λk=>mk p ((jJ p (ls (PL l)) h N).getD k [])) (λk _=>rfl) z j) hi nd
 ·intro y hy q hq s g;have z:oF (λk=>y.getD k 0) (λk=>mk p ((jJ p (ls (PL l)) h N).getD k [])) N=0:=Nb p2 (λk _=>rfl) λj=>by
   by_cases c:j<(ls (PL l)).length-1
   ·exact K.nul y hy j c
   ·rw[mO λk hk=>by rw[rz k hk j (by lia),aU]];exact aV p
  have nr:=near λk=>y.getD k 0;rw[z]at nr;have:=Wc hp I (y:=λk=>y.getD k 0) (nr.flip.pB (by
   generalize oF (λk=>y.getD k 0) (λk=>mk p h^k) N=b;grind)) hq g
  rw[Xi,K.len y hy];exact this
end Pl
def Gr (p:Int)(h nums:List Int)(ps:List (List Int)):List (List Int):=ps.flatMap λc=>(nums.map λs=>gc p c (Tz p (jU h ([s].map λn=>-n)))).filter λf=>decide (1<f.length)
def rZ (p:Int)(t:Tab)(nm:List Int->List Int)(g:List Int):Nat->List (List Int)
 |0=>[g]
 |i+1=>if (rZ p t nm g i).length<t.length then Gr p (t.getD i []) (nm (t.getD i [])) (rZ p t nm g i) else rZ p t nm g i
def Cz (p:Int)(rel:List Int):List Int:=((List.range p.toNat).filter λ(k:Nat)=>decide (pl p (ev rel (k:Int))=0)).map λ(k:Nat)=>(k:Int)
namespace Pl
variable {p:Int}
theorem Vb (h:Li)(s:Int):Tz p (jU h ([s].map λn=>-n))=ls (mk p h-con p s):=by have e:mk p h-con p s=mk p (jU h (zb (-1) [s])):=rfl;rw[e,pY];congr 2;show[-s]=[-1*s];rw[iM,cj]
theorem W3 (p2:2<=p){c:List (Pl p)}(I:∀q∈c,w6 q):(1<(ls (PL c)).length) ↔ 0<c.length:=by
 have d:=Aw p2 I;constructor
 ·intro h;cases c with
  |nil=>
   have:(ls (PL ([]:List (Pl p)))).length=1:=by show(ls (1:Pl p)).length=1;rw[uh p2];rfl
   lia
  |cons _ _=>exact gu _
 ·intro h;lia
theorem Qy (hp:jG p)(I:vV l)(hh:h.length<=200)(st:Go (PL l) (fx (mk p h)))(hn:∀s∈nums,0<=s/\s<p):∀{cls:List (List (Pl p))},(∀c∈cls,(∀q∈c,q∈l)/\c.Nodup) ->
  Gr p h nums (cls.map λc=>ls (PL c))=(Zx (mk p h) nums cls).map λc=>ls (PL c)
 |[],_=>rfl
 |c::cls,hc=>by
  have p2:2<=p:=hp.1;obtain⟨s1,nd⟩:=hc c ah;have Ic:=I.sub s1 nd;have stc:∀q∈c,Go q (fx (mk p h)):=λq hq=>(wA (s1 q hq)).trans st;have lh:(ls (mk p h)).length<=200:=by rw[pY];exact aH (mW p h) hh
  have ih:=Qy hp I hh st hn (cls:=cls) λc' h'=>hc c' (ad _ h');unfold Gr Zx at ih ⊢;rw[bK,cN,cN,bF,<- ih];congr 1;unfold taN;have e1:(nums.map λs=>gc p (ls (PL c)) (Tz p (jU h ([s].map λn=>-n))))=(nums.map λs=>c.filter λq=>decide (vl (mk p h) q=s)).map λf=>ls (PL f):=by rw[br];refine bZ λs hs=>?_;have If:=Ic.sub (m:=c.filter λq=>decide (vl (mk p h) q=s)) (λq hq=>(aT.mp hq).1) (nd.filter _);rw[Vb];exact Io (Z5 hp Ic lh (by decide) stc (hn s hs).1 (hn s hs).2) (If.mo p2)
  rw[e1,hW];congr 1;refine fg λf hf=>?_;obtain⟨s,_,rfl⟩:=aP.mp hf;exact decide_eq_decide.mpr (W3 p2 λq hq=>I.irr q (s1 q (aT.mp hq).1))
structure S9 (l:List (Pl p))(t:Tab)(nm:List Int->List Int):Prop where
 nd:∀h∈t,(nm h).Nodup
 bd:∀h∈t,∀s∈nm h,0<=s/\s<p
 all:∀h∈t,∀q∈l,vl (mk p h) q∈nm h
theorem Et {t:Tab}{k:Nat}(hk:k<t.length):t.getD k []∈t:=by rw[gQ,ac hk];exact bD hk
theorem zT (hp:jG p){l:List (Pl p)}(I:vV l)(ne:l≠[]){t:Tab}(K:Wd (PL l) t){nm:List Int->List Int}(N:S9 l t nm):∀i,i<=t.length ->
  ∃cls H,Cls l H cls/\rZ p t nm (ls (PL l)) i=cls.map (λc=>ls (PL c))/\(t.length<=cls.length\/∀k,k<i->mk p (t.getD k [])∈H)
 |0,_=>⟨[l],[],Cls.start ne,rfl,.inr λk hk=>absurd hk (dt k)⟩
 |i+1,hi=>by
  obtain⟨cls,H,C,e,f⟩:=zT hp I ne K N i (by lia);have ht:t.getD i []∈t:=Et (by lia);have el:(rZ p t nm (ls (PL l)) i).length=cls.length:=by rw[e,aa]
  show ∃cls H,Cls l H cls/\(if (rZ p t nm (ls (PL l)) i).length<t.length then Gr p (t.getD i []) (nm (t.getD i [])) (rZ p t nm (ls (PL l)) i) else rZ p t nm (ls (PL l)) i)=_/\_;by_cases c:(rZ p t nm (ls (PL l)) i).length<t.length
  ·rw[af c];refine⟨Zx (mk p (t.getD i [])) (nm (t.getD i [])) cls,mk p (t.getD i [])::H,C.step (N.nd _ ht) (N.all _ ht),?_,.inr λk hk=>?_⟩
   ·rw[e];refine Qy hp I (K.len _ ht) (K.st _ ht) (N.bd _ ht) λc hc=>⟨λq hq=>C.mem hc hq,?_⟩;have nd:cls.flatten.Nodup:=(C.pm.nodup_iff).mpr I.nd;obtain⟨a,b,ec⟩:=List.append_of_mem hc;rw[ec,eQ,bQ]at nd;exact(gH.mp (gH.mp nd).2.1).1
   ·by_cases z:k=i
    ·rw[z];exact ah
    ·rcases f with f|f
     ·rw[el]at c;lia
     ·exact ad _ (f k (by lia))
  ·rw[ae c];exact⟨cls,H,C,e,.inl (by rw[el]at c;lia)⟩
theorem Sx (hp:jG p){l:List (Pl p)}(I:vV l)(hl:(ls (PL l)).length<=200)(ne:l≠[]){t:Tab}(K:Wd (PL l) t){nm:List Int->List Int}(N:S9 l t nm):(rZ p t nm (ls (PL l)) t.length).Perm (l.map ls):=by
 obtain⟨cls,H,C,e,f⟩:=zT hp I ne K N t.length (ao _);have e2:(cls.map λc=>ls (PL c))=(cls.map PL).map ls:=by rw[br];rfl
 rw[e,e2];exact(C.fin hp I hl K f).map ls
theorem QC (hp:jG p){l:List (Pl p)}(I:vV l)(ne:l≠[]){t:Tab}(K:Wd (PL l) t){nm:List Int->List Int}(N:S9 l t nm){i:Nat}(hi:i<=t.length):(∀f∈rZ p t nm (ls (PL l)) i,Fo p f/\f.length<=(ls (PL l)).length)/\(rZ p t nm (ls (PL l)) i).length<=l.length:=by
 have p2:2<=p:=hp.1;obtain⟨cls,H,C,e,_⟩:=zT hp I ne K N i hi;constructor
 ·intro f hf;rw[e]at hf;obtain⟨c,hc,rfl⟩:=aP.mp hf;refine⟨jL _,?_⟩;obtain⟨a,b,ec⟩:=List.append_of_mem hc;have pm:(c++(a++b).flatten).Perm l:=by refine List.Perm.trans ?_ C.pm;rw[ec,eQ,eQ,bQ];rw[<- c7,<- c7];exact List.Perm.append_right _ List.perm_append_comm
  have e2:PL l=PL (a++b).flatten*PL c:=by rw[<- LC pm,Ju,mul_comm]
  have Ia:∀q∈(a++b).flatten,w6 q:=λq hq=>I.irr q (pm.mem_iff.mp (aN _ hq));have Ic:∀q∈c,w6 q:=λq hq=>I.irr q (pm.mem_iff.mp (cI _ hq));have m1:=Dr p2 λq hq=>(Ia q hq).mo;have:=Mo.len p2 m1 (Dr p2 λq hq=>(Ic q hq).mo);rw[<- e2]at this;have:=m1.pos;lia
 ·rw[e,aa,<- C.pm.length_eq];exact(Ah C.ne).1
theorem aah (hp:jG p){l:List (Pl p)}(I:vV l){t:Tab}(K:Wd (PL l) t){rel:List Int->List Int}(h:∀h∈t,∀q∈l,∀s:Int,Go q (mk p h-con p s)->p ∣ ev (rel h) s):S9 l t λh=>Cz p (rel h):=by
 have p2:2<=p:=hp.1;refine⟨λh _=>?_,λh _ s hs=>?_,λy hy q hq=>?_⟩
 ·unfold Cz;refine dW _ (λa b hab e=>hab ?_) (gU.filter _);lia
 ·obtain⟨k,hk,rfl⟩:=aP.mp hs;have:=aY.mp (aT.mp hk).1;lia
 ·have ly:(ls (mk p y)).length<=200:=by rw[pY];exact aH (mW p y) (K.len y hy)
  obtain⟨v0,v1,v2⟩:=MF hp (I.irr q hq) ly ((wA hq).trans (K.st y hy));have d:=h y hy q hq _ v2;refine aP.mpr ⟨(vl (mk p y) q).toNat,aT.mpr ⟨aY.mpr (by lia),?_⟩,by lia⟩;have e:(((vl (mk p y) q).toNat:Nat):Int)=vl (mk p y) q:=by lia
  rw[e,decide_eq_true_iff,kh (by lia)];exact bY d
end Pl
theorem Wu {k:Nat}(h:k<f.length):qI f none (some (k:Int))++[y]++qI f (some ((k:Int)+1)) none=f.set k y:=by rw[Lx,show((k:Int)+1)=((k+1:Nat):Int) from rfl,uL,c7,List.singleton_append,List.set_eq_take_append_cons_drop,af h]
theorem yG (T:Top K mg cNO cK cR):Ok P w K mg base 3 "row_less_one" ["kind","row","at"] (Ed K (pQ cR) (λas=>∃z row,∃a:Nat,as=[.ob 0 z,.ints row,.int (a:Int)]/\a<row.length/\row.length<=400) λas=>match as with
  |[.ob 0 z,.ints row,.int a]=>row.set a.toNat (pl z (row.getD a.toNat 0-1))
  |_=>[]):=by
 refine Jk T.Bc yL (λas ⟨a,b,c,h,_⟩=>by rw[h];rfl) (λf cdv A outer s H E hr=>⟨_,(jf (lO (tZ (jW (tZ (jW (qj (xl 1) pC (m5 (xn 2)) (λ_ _=>.inl rfl))) (jW (lQ (jc (qH 0 (Vk T) hr (jc (lZ 1 (xn 2) (λ_ _=>rfl)) (jc je jh))) jh))))) (jW (qj (xl 1) (m5 (kO (xn 2) je)) pC (λ_ _=>.inl rfl)))))),λas hp=>?_⟩);obtain⟨z,row,a,rfl,ha,hl⟩:=hp;have c1:=zZ row none (some (a:Int));have c2:=zZ row (some ((a:Int)+1)) none;have ix:lB row.length (a:Int)=a:=by unfold lB;rw[af (by lia)];lia
 refine⟨⟨⟨⟨rfl,tJ,rfl⟩,⟨⟨⟨rfl,⟨⟨.inl rfl,rfl,by show -(row.length:Int)<=(a:Int);lia,by show(a:Int)<(row.length:Int);lia⟩,tJ,tJ⟩,tJ,tJ⟩,tJ⟩,tJ⟩,bN (small1000 (by show(qI row none (some (a:Int))).length+1<=1000;lia))⟩,⟨rfl,⟨rfl,tJ⟩,tJ⟩,bN (small1000 ?_)⟩,?_⟩
 ·show(qI row none (some (a:Int))++[pl z (row.getD (lB row.length (a:Int)) 0-1)]).length+(qI row (some ((a:Int)+1)) none).length<=1000;rw[ai,bw];lia
 ·show qI row none (some (a:Int))++[pl z (row.getD (lB row.length (a:Int)) 0-1)]++qI row (some ((a:Int)+1)) none=row.set a (pl z (row.getD a 0-1));rw[Wu ha,ix]
theorem wX (T:Top K mg cNO cK cR):Ok P w K mg base 1 "order_key" ["g"] (zc K (pQ cR) (λas=>∃g,as=[.ints g]) λas=>match as with
  |[.ints g]=>WR g
  |_=>.non):=by
 refine xf T.HS Gj (λas ⟨a,h⟩=>by rw[h];rfl) (λf cdv A outer s H E hr=>⟨_,(jf (jo (qY (jc (jK 0 T.jD) (jc (xl 0) jh))))),λas hp=>?_⟩);obtain⟨g,rfl⟩:=hp;exact⟨⟨.inl rfl,rfl,tJ⟩,rfl⟩
def PJ (p:Int)(rows:Tab):Tab:=yO (mH p (lC p) rows (jE rows)) (turnT p (lC p) rows (jE rows))
theorem wg (ok:Gu p g)(hk:k<n):((jJ p (Tz p g) f n).getD k []).length=(Tz p g).length-1:=by rw[KZ hk];obtain⟨_,_,ir,_⟩:=mC ok (pw f k);have:=ir.len;have:=Rm (m:=((Tz p g).length:Int)-1) (r:=rm p (Tz p g) (pw f k)) (by lia);lia
theorem Eh (ok:Gu p g)(hk:k<(Tz p g).length-1):((pH p (qT p (Tz p g))).getD k []).length=(Tz p g).length-1:=by have ql:(qT p (Tz p g)).length=(Tz p g).length-1:=oE ..;rw[Lk (by lia),bR];exact wg ok hk
theorem ud (T:Top K mg cNO cK cR):Ok P w K mg base 8 "powering_less_one" ["kind","g"] (zc K (pQ cR) (λas=>∃p g,as=[.ob 0 p,.ints g]/\Gu p g/\(Tz p g).length<=40) λas=>match as with
  |[.ob 0 p,.ints g]=>jm (pH p (qT p (Tz p g)))
  |_=>.non):=by
 refine xf T.u6 tO (λas ⟨a,b,h,_⟩=>by rw[h];rfl) (λf cdv A outer s H E hr=>⟨_,(jf (jo (um (MT (N':=["at","row","kind"]) (cap:=[some 0]) (oZ rfl rfl rfl rfl ⟨⟨rfl,.inr (.inl rfl),BV,.inl rfl,_,rfl,rfl⟩,tJ⟩ ⟨rfl,tJ⟩ rfl) rfl (by rfl) T.lK (nJ (xc (Hv T) hr (jc (xv 0) (jc (xl 1) jh)))) (λ_ _ _=>(pg_tup rfl (pgs_cons (pO 0) (pgs_cons (pO 1) pgs_nil)))) (λ_ _ _=>(jW (vy (yG T) hr (jc (xv 2) (jc (xl 1) (jc (xn 0) jh)))))))))),λas hp=>?_⟩);obtain⟨p,g,rfl,ok,l40⟩:=hp;have ql:(qT p (Tz p g)).length=(Tz p g).length-1:=oE ..;have rowl:∀k,k<(Tz p g).length-1->((qT p (Tz p g)).getD k []).length=(Tz p g).length-1:=λk hk=>wg ok hk;refine⟨⟨⟨⟨⟨rfl,rfl,tJ⟩,p,g,rfl,ok,l40⟩,rfl⟩,?_,λi q hq=>?_⟩,?_⟩
 ·show((qT p (Tz p g)).map PV.ints).length<=1000;rw[aa];lia
 ·have hq:((qT p (Tz p g)).map PV.ints)[i]?=some q:=hq;rw[aw]at hq;obtain⟨x,hx,rfl⟩:=fe.mp hq;have hi:=(aj.mp hx).1;have ex:(qT p (Tz p g)).getD i []=x:=by rw[gQ,hx];rfl
  have:=rowl i (by lia);rw[ex]at this;exact⟨⟨rfl,rfl,rfl,tJ⟩,p,x,i,rfl,by lia,by lia⟩
 ·refine congrArg PV.lst (dS λi=>?_);show(((qT p (Tz p g)).map PV.ints).mapIdx _)[i]?=((pH p (qT p (Tz p g))).map PV.ints)[i]?;unfold pH;rw[b9,aw,aw,b9];cases (qT p (Tz p g))[i]? <;> rfl
theorem X7 (hp:jG p)(hn:rows.length=N)(hN:0<N)(hw:∀i,i<N->(rows.getD i []).length=W):jE rows=W/\yu p N W rows (PJ p rows):=by have e:jE rows=W:=hw 0 hN;refine⟨e,?_⟩;unfold PJ;rw[e];exact Za hp.1 (λx h0 h1=>(zR hp x h0 h1).2) hn hw
def rA (p:Int)(g h:List Int)(n:Nat):List Int:=(PJ p (jJ p (Tz p g) h (n+1))).getD 0 []
theorem vd (T:Top K mg cNO cK cR):Ok P w K mg base 7 "possible_numbers" ["kind","h","count","g"] (Ed K (pQ cR) (λas=>∃p h,∃n:Nat,∃g,as=[.ob 0 p,.ints h,.int (n:Int),.ints g]/\Gu p g/\h.length<=50/\Bd h/\(Tz p g).length<=40/\n<=50/\0<(PJ p (jJ p (Tz p g) h (n+1))).length) λas=>match as with
  |[.ob 0 p,.ints h,.int n,.ints g]=>Cz p (rA p g h n.toNat)
  |_=>[]):=by
 refine Jk T.vD pR (λas ⟨a,b,c,d,h,_⟩=>by rw[h];rfl) (λf cdv A outer s H E hr=>⟨_,(jd (jr (i:=4) pR.nd rfl (Or.inr rfl) (xl_of (jt (xc (Dg T) hr (jc (xv 0) (jc (xc (vf T) hr (jc (xv 0) (jc (xl 1) (jc (kO (xn 2) je) (jc (xl 3) jh))))) jh))) je (λ_ _=>rfl))))
 (jf (lO (Vw (N':=["number","kind","relation"]) (cap:=[some 0,some 4]) (oZ rfl rfl rfl rfl ⟨⟨rfl,.inr (.inl rfl),BV,.inl rfl,_,rfl,rfl⟩,⟨⟨rfl,.inr (.inl rfl),BV,.inl rfl,_,rfl,rfl⟩,tJ⟩⟩ ⟨rfl,⟨rfl,tJ⟩⟩ rfl) rfl (by rfl) T.oH (Fp (ksz T) (xv 0)) (λ_ _ _=>(pO 0)) (λ_ _ _=>(sY (xci (RC T) hr (jc (xv 1) (jc (xl 2) (jc (xn 0) jh)))) je)) (λ_ _ _=>(xn 0)))))),λas hp=>?_⟩)
 obtain⟨p,h,n,g,rfl,ok,hl,hb,gl,nl,pos⟩:=hp;have p2:2<=p:=ok.pr.1;have p3:p<=9973:=ok.pr.2.1;have rl:(jJ p (Tz p g) h (n+1)).length=n+1:=oE ..;have rr:∀i,i<n+1->((jJ p (Tz p g) h (n+1)).getD i []).length=(Tz p g).length-1:=λi hi=>wg ok hi;obtain⟨ew,KO⟩:=X7 ok.pr rl (gu n) rr;have en:((n:Int)+1)=((n+1:Nat):Int):=by lia
 have e1:jm (jJ p (Tz p g) h ((n:Int)+1).toNat)=jm (jJ p (Tz p g) h (n+1)):=by rw[en,aC]
 have e2:jm (yO (mH p (lC p) (((jJ p (Tz p g) h ((n:Int)+1).toNat).map PV.ints).map jZ) (jE (((jJ p (Tz p g) h ((n:Int)+1).toNat).map PV.ints).map jZ))) (turnT p (lC p) (((jJ p (Tz p g) h ((n:Int)+1).toNat).map PV.ints).map jZ) (jE (((jJ p (Tz p g) h ((n:Int)+1).toNat).map PV.ints).map jZ))))=jm (PJ p (jJ p (Tz p g) h (n+1))):=by rw[mL,en,aC];rfl
 have hx:∀t,t=jm (PJ p (jJ p (Tz p g) h (n+1)))->lM t 0:=λt e=>by rw[e];exact xW (i:=0) pos
 have hx2:∀t,t=jm (PJ p (jJ p (Tz p g) h (n+1)))->lq t 0=.ints (jZ (lq t 0)):=λt e=>by rw[e];exact ym (i:=0) pos
 have hx3:∀t,t=jm (PJ p (jJ p (Tz p g) h (n+1)))->jZ (lq t 0)=rA p g h n:=λt e=>by rw[e];exact Av (i:=0) pos
 refine⟨⟨⟨⟨⟨rfl,⟨⟨rfl,rfl,⟨rfl,tJ⟩,rfl,tJ⟩,p,h,n+1,g,?_,ok,hl,hb,by lia,by lia⟩,tJ⟩,p,jJ p (Tz p g) h (n+1),?_,ok.pr,by lia,by lia,λi hi=>?_⟩,tJ,?_⟩,?_⟩,λre ere=>?_⟩
 ·show[PV.ob 0 p,.ints h,.int ((n:Int)+1),.ints g]=_;rw[en]
 ·exact congrArg (λt=>[PV.ob 0 p,t]) e1
 ·rw[ew];exact rr i (by lia)
 ·exact hx _ e2
 ·exact hx2 _ e2
 have ere:re=rA p g h n:=ere.trans (hx3 _ e2);have rm:rA p g h n∈PJ p (jJ p (Tz p g) h (n+1)):=Pl.Et pos;have red:=KO.red _ rm;have rlen:re.length<=80:=by rw[ere,KO.len _ rm];lia
 have rsm:∀m∈re,m.natAbs<=2^200:=λm hm=>by
  obtain⟨i,hi,rfl⟩:=b8.mp hm;have:=red i;rw[<- ere,gQ,ac hi]at this;have b:=zF (z:=p) (n:=re[i]) (by lia);have this:pl p re[i]=re[i]:=this;rw[this]at b;have:re[i].natAbs<=10000:=by lia
  exact aH this (by decide)
 refine jz (Z':=[.fr (.ob 0 p),.fr (.ints h),.fr (.int (n:Int)),.fr (.ints g),.fr (.ints re)]) rfl ?_;refine⟨⟨⟨rfl,rfl⟩,⟨by show(0:Int)<=p;lia,by show p<=(10000:Int);lia⟩,λk hk=>?_⟩,?_⟩
 ·have hk:k<p.toNat:=hk;refine⟨⟨⟨⟨rfl,rfl,rfl,tJ⟩,p,re,(k:Int),rfl,by lia,?_,rlen,?_,rsm⟩,tJ⟩,λ_=>rfl⟩
  ·have:(10000:Int)<((2^9000:Nat):Int):=Int.ofNat_lt.mpr (aD (show 10000<2^14 by decide) (cJ (by decide) (by decide)));generalize ((2^9000:Nat):Int)=B at *
   lia
  ·have:(k:Int).natAbs<=10000:=by lia
   exact aH this (by decide)
 ·show List.map _ (List.filter _ (List.range p.toNat))=Cz p (rA p g h ((n:Int)).toNat);rw[aC,<- ere];rfl
theorem Ci (T:Top K mg cNO cK cR):Ok P w K mg base 6 "told_apart" ["kind","pieces","h","numbers"] (zc K (pQ cR) (λas=>∃p ps h nums,as=[.ob 0 p,jm ps,.ints h,.ints nums]/\jG p/\ps.length<=100/\(∀f∈ps,f.length<=200)/\h.length<=100/\nums.length<=10000) λas=>match as with
  |[.ob 0 p,.lst ps,.ints h,.ints nums]=>jm (Gr p h nums (ps.map jZ))
  |_=>.non):=by
 refine xf T.Eg nM (λas ⟨a,b,c,d,h,_⟩=>by rw[h];rfl) (λf cdv A outer s H E hr=>⟨_,(jd (uw (i:=4) nM.nd rfl (Or.inl rfl) (uc jh))
 (jd (wB (k:=5) aE rfl (nJ (xv 1)) nM.nd rfl (Or.inl rfl)
 (jf (Bj (k:=6) aE rfl (xl 3) nM.nd rfl (Or.inl rfl)
 (jd (jr (i:=7) nM.nd rfl (Or.inl rfl) (jW (vy (yl T) hr (jc (xv 0) (jc (xl 5) (jc (jW (vy (Wx T) hr (jc (xv 0) (jc (xl 2) (jc (jW (lQ (jc (xn 6) jh))) jh))))) jh))))))
 (jf (j7 (rQ (jK 7 T.jD) je)
 (jf (uz 4 (xl 7)))
 jO))))))
 (kZ 4 (jf (jo (xv 4)))))),λas hp=>?_⟩)
 obtain⟨p,ps,h,nums,rfl,hp,pl',pf,hl,nl⟩:=hp;have big:∀{x y:Nat},x<=100->y<=10000->x*10000+y<sizeLine:=λ{x y} a b=>aQ (show x*10000+y<=1010000 by lia) (by decide);have tl:∀i,i<=ps.length->(Gr p h nums (ps.take i)).length<=i*10000:=λi=>by
  induction i with
  |zero=>intro _;exact be _
  |succ i ih=>intro hi;have e:=m7 (ac (show i<ps.length by omega));unfold Gr at ih ⊢;rw[e,eR,ai,cN,fG,a8];have a:=ih (by omega);have b:=cT (λf=>decide (1<f.length)) (nums.map λs=>gc p ps[i] (Tz p (jU h ([s].map λn=>-n))));rw[aa]at b;omega
 refine⟨tJ,λl0 el0=>?_⟩;subst el0;refine jz (Z':=[.fr (.ob 0 p),.fr (jm ps),.fr (.ints h),.fr (.ints nums),.ow (.lst []),.un,.un,.un]) rfl ?_;refine⟨⟨rfl,rfl⟩,λi Z=>∃v5 v6 v7,Z=[.fr (.ob 0 p),.fr (jm ps),.fr (.ints h),.fr (.ints nums),.ow (jm (Gr p h nums (ps.take i))),v5,v6,v7],⟨.un,.un,.un,rfl⟩,?_,?_⟩
 ·rintro i q Z hq ⟨v5,v6,v7,rfl⟩;have hq:(ps.map PV.ints)[i]?=some q:=hq;rw[aw]at hq;obtain⟨x,hx,rfl⟩:=fe.mp hq;have il:i<ps.length:=(aj.mp hx).1;have xl:=pf x (aW hx);have t1:=tl i (by lia);refine⟨rfl,λj Z=>∃v6 v7,Z=[.fr (.ob 0 p),.fr (jm ps),.fr (.ints h),.fr (.ints nums),.ow (jm (Gr p h nums (ps.take i)++((nums.take j).map λs=>gc p x (Tz p (jU h ([s].map λn=>-n)))).filter λf=>decide (1<f.length))),.fr (.ints x),v6,v7],⟨v6,v7,?_⟩,?_,?_⟩
  ·rw[iC,dO,fR,a8];rfl
  ·rintro j m Z hm ⟨v6,v7,rfl⟩;have hm:nums[j]?=some m:=hm;have jl:j<nums.length:=(aj.mp hm).1;have t2:(((nums.take j).map λs=>gc p x (Tz p (jU h ([s].map λn=>-n)))).filter λf=>decide (1<f.length)).length<=j:=by refine aH (cT _ _) ?_;rw[aa,aJ];lia
   have addl:(Tz p (jU h ([m].map λn=>-n))).length<=200:=by refine aH (mW _ _) ?_;unfold jU;rw[aa,aq];show max h.length 1<=200;lia
   refine⟨⟨⟨rfl,rfl,⟨⟨rfl,rfl,⟨⟨rfl,tJ⟩,tJ⟩,tJ⟩,p,h,[m],rfl,by lia,by show 1<=500;decide⟩,tJ⟩,p,x,Tz p (jU h ([m].map λn=>-n)),rfl,hp,xl,addl⟩,λsh esh=>?_⟩;have esh:sh=gc p x (Tz p (jU h ([m].map λn=>-n))):=esh;refine jz (Z':=[.fr (.ob 0 p),.fr (jm ps),.fr (.ints h),.fr (.ints nums),.ow (jm (Gr p h nums (ps.take i)++((nums.take j).map λs=>gc p x (Tz p (jU h ([s].map λn=>-n)))).filter λf=>decide (1<f.length))),.fr (.ints x),.fr (.int m),.fr (.ints sh)]) rfl ?_;have nx:((nums.take (j+1)).map λs=>gc p x (Tz p (jU h ([s].map λn=>-n)))).filter (λf=>decide (1<f.length))=(((nums.take j).map λs=>gc p x (Tz p (jU h ([s].map λn=>-n)))).filter λf=>decide (1<f.length))++if 1<sh.length then[sh] else[]:=by
    rw[m7 hm,bF,gf,bK,dO,<- esh];congr 1;by_cases c:1<sh.length
    ·rw[af c,cE (by exact aK c),fR]
    ·rw[ae c,cF (by simpa using c),fR]
   refine⟨⟨.inl rfl,tJ⟩,λq=>?_,λq=>?_⟩
   ·have q:(sh.length:Int) > 1:=q;refine⟨rfl,rfl,?_,?_⟩
    ·show((Gr p h nums (ps.take i)++(((nums.take j).map λs=>gc p x (Tz p (jU h ([s].map λn=>-n)))).filter λf=>decide (1<f.length))).map PV.ints).length<sizeLine;rw[aa,ai];exact aQ (Nat.add_le_add t1 t2) (big (by lia) (by lia))
    ·refine⟨.fr (.int m),.fr (.ints sh),?_⟩;rw[nx,af (by lia),<- c7];unfold jm;rw[bF (l₂:=[sh])];rfl
   ·have q:¬(sh.length:Int) > 1:=q;refine⟨.fr (.int m),.fr (.ints sh),?_⟩;rw[nx,ae (by lia),a8]
  ·rintro Z ⟨v6,v7,rfl⟩;refine⟨.fr (.ints x),v6,v7,?_⟩;have e:Gr p h nums (ps.take (i+1))=Gr p h nums (ps.take i)++((nums.take nums.length).map λs=>gc p x (Tz p (jU h ([s].map λn=>-n)))).filter λf=>decide (1<f.length):=by unfold Gr;rw[m7 hx,eR,cr,cN,fG,a8]
   rw[e];rfl
 ·rintro Z ⟨v5,v6,v7,rfl⟩;refine⟨rfl,?_⟩;show jm (Gr p h nums (ps.take (ps.map PV.ints).length))=jm (Gr p h nums ((ps.map PV.ints).map jZ));rw[aa,cr,mL]
theorem NB (kf:PV->List Int):∀ps:List PV,(ps.map kf).Nodup->∃l:List PV,l.Perm ps/\l.Pairwise λa b=>mX (kf a) (kf b)=true
 |[],_=>⟨[],.nil,.nil⟩
 |q::ps,nd=>by
  rw[bK,cS]at nd;obtain⟨l,pm,so⟩:=NB kf ps nd.2;have ne:∀x∈l,kf x≠kf q:=λx hx z=>nd.1 (aP.mpr ⟨x,pm.mem_iff.mp hx,z⟩);refine⟨(l.filter λx=>mX (kf x) (kf q))++q::l.filter (λx=>!mX (kf x) (kf q)),?_,?_⟩
  ·refine List.perm_middle.trans (List.Perm.cons q ?_);exact(Pl.uJ (λx=>mX (kf x) (kf q)) l).trans pm
  ·refine List.pairwise_append.mpr ⟨so.filter _,cG.mpr ⟨λb hb=>?_,so.filter _⟩,λa ha b hb=>?_⟩
   ·obtain⟨h1,h2⟩:=aT.mp hb;exact Bf (ne b h1) (by simpa using h2)
   ·have h1:=(aT.mp ha).2;rcases aF.mp hb with rfl|hb
    ·exact h1
    ·obtain⟨h3,h2⟩:=aT.mp hb;exact Mu h1 (Bf (ne b h3) (by simpa using h2))
theorem uB (nd:(ps.map kf).Nodup):(jT kf ps).Perm ps/\(jT kf ps).Pairwise λa b=>mX (kf a) (kf b)=true:=by obtain⟨l,a,b⟩:=NB kf ps nd;rw[w5 a b];exact⟨a,b⟩
theorem Kl (nd:(qs.map kf).Nodup)(h:ps.Perm qs):jT kf ps=jT kf qs:=w5 ((uB nd).1.trans h.symm) (uB nd).2
def stI (p:Int)(g:List Int):Tab:=PJ p (pH p (qT p (Tz p g)))
def mZ (p:Int)(g:List Int):List (List Int):=rZ p (stI p g) (λh=>Cz p (rA p g h (stI p g).length)) (Tz p g) (stI p g).length
open Pl in
theorem yt (hp:jG p){l:List (Pl p)}(I:vV l)(ne:l≠[])(e:Tz p g=ls (PL l))(gl:g.length<=200)(hl:(Tz p g).length<=40) :
  Gu p g/\Wd (PL l) (stI p g)/\(stI p g).length<=39/\(∀h∈stI p g,h.length<=39/\(∀j,pl p (h.getD j 0)=h.getD j 0)/\0<(PJ p (jJ p (Tz p g) h ((stI p g).length+1))).length)/\S9 l (stI p g) (λh=>Cz p (rA p g h (stI p g).length)):=by
 have p2:2<=p:=hp.1;have mg:=I.mo p2;have d:=Aw p2 I.irr;have l1:=lP ne;have le:(ls (PL l)).length<=40:=by rw[<- e];exact hl
 have ok:Gu p g:=⟨hp,gl,by rw[e];exact mg.ne,by rw[e,show jk (ls (PL l))=1 from mg];exact gV ..⟩;have n0:(Tz p g).length=(ls (PL l)).length:=by rw[e]
 have pl0:(pH p (qT p (Tz p g))).length=(Tz p g).length-1:=by rw[Hy];exact oE ..
 obtain⟨_,KO⟩:=X7 hp pl0 (by lia) λi hi=>Eh ok hi;have KO':yu p ((ls (PL l)).length-1) ((ls (PL l)).length-1) (pH p (qT p (ls (PL l)))) (stI p g):=by rw[<- e];exact KO
 have K:=PN hp mg (by lia) (by lia) KO';have km:=Hi hp I (by lia) K;have rel:∀h∈stI p g,0<(PJ p (jJ p (Tz p g) h ((stI p g).length+1))).length/\∀q∈l,∀s:Int,Go q (mk p h-con p s)->p ∣ ev (rA p g h (stI p g).length) s:=λh hh=>by
  obtain⟨_,KR⟩:=X7 hp (rows:=jJ p (Tz p g) h ((stI p g).length+1)) (oE ..) (gu _) λi hi=>wg ok hi;have KR':yu p ((stI p g).length+1) ((ls (PL l)).length-1) (jJ p (ls (PL l)) h ((stI p g).length+1)) (PJ p (jJ p (Tz p g) h ((stI p g).length+1))):=by rw[<- e];exact KR
  obtain⟨a,b⟩:=O3 hp I (by lia) (K.len h hh) (K.st h hh) (by lia) KR';exact⟨a,λq hq s gs=>b _ (Et a) q hq s gs⟩
 exact⟨ok,K,aH KO.le (by lia),λh hh=>⟨by rw[KO.len h hh];lia,KO.red h hh,(rel h hh).1⟩,aah hp I K λh hh=>(rel h hh).2⟩
open Pl in
theorem zP {l:List (Pl p)}(nd:l.Nodup):(l.map ls).Nodup:=dW _ (λ_ _ h e=>h (Mo.inj e)) nd
open Pl in
theorem uI (hp:jG p){l:List (Pl p)}(I:vV l)(ne:l≠[])(e:Tz p g=ls (PL l))(gl:g.length<=200)(hl:(Tz p g).length<=40):(mZ p g).Perm (l.map ls):=by obtain⟨_,K,_,_,N⟩:=yt hp I ne e gl hl;unfold mZ;rw[e];exact Sx hp I (by rw[<- e];lia) ne K N
theorem xZ (t:List (List Int)):(t.map PV.ints).map kJ=t:=Pa t
theorem Wn (p:Int)(r:Li):(Cz p r).length<=p.toNat:=by unfold Cz;rw[aa];refine aH (cT _ _) ?_;rw[aq];exact ao _
theorem Yg (hp:jG p)(r:∀j,pl p (h.getD j 0)=h.getD j 0):Bd h:=λx hx=>by
 obtain⟨i,hi,rfl⟩:=b8.mp hx;have:=r i;rw[gQ,ac hi]at this;have this:pl p h[i]=h[i]:=this;have b:=zF (z:=p) (n:=h[i]) (by have:=hp.1;lia);rw[this]at b;have:h[i].natAbs<2^14:=by have:=hp.2.1;lia
 exact aD this (cJ (by decide) (by decide))
open Pl in
theorem Gv (T:Top K mg cNO cK cR):Ok P w K mg base 9 "split" ["kind","g"] (zc K (pQ cR) (λas=>∃p g,as=[.ob 0 p,.ints g]/\jG p/\g.length<=200/\(Tz p g).length<=40/\∃l:List (Pl p),vV l/\l≠[]/\Tz p g=ls (PL l)) λas=>match as with
  |[.ob 0 p,.ints g]=>.lst (jT kJ ((mZ p g).map PV.ints))
  |_=>.non):=by
 refine xf T.Ww uf (λas ⟨a,b,h,_⟩=>by rw[h];rfl) (λf cdv A outer s H E hr=>⟨_,(jd (lR (i:=2) uf.nd rfl (Or.inl rfl) (um (uc (jc (jW (vy (jV T) hr (jc (xv 0) (jc (xl 1) jh)))) jh))))
 (jd (lR (i:=3) uf.nd rfl (Or.inl rfl) (xc (Dg T) hr (jc (xv 0) (jc (xc (ud T) hr (jc (xv 0) (jc (xl 1) jh))) jh))))
 (jd (wB (k:=4) aE rfl (nJ (xv 3)) uf.nd rfl (Or.inl rfl)
 (jf (j7 (Hu (lG T.jD (xv 2)) (lG T.jD (xv 3)))
 (jf (lR (i:=2) uf.nd rfl (Or.inl rfl) (xc (Ci T) hr (jc (xv 0) (jc (xv 2) (jc (xl 4) (jc (jW (vy (vd T) hr (jc (xv 0) (jc (xl 4) (jc (lG T.jD (xv 3)) (jc (xl 1) jh)))))) jh)))))))
 jO)))
 (jf (jo (um (Tw kJ (wX T) hr T.Ax (xv 2)))))))),λas hp=>?_⟩)
 obtain⟨p,g,rfl,hp,gl,hl,l,I,ne,e⟩:=hp;have p2:2<=p:=hp.1;have p3:p<=9973:=hp.2.1;obtain⟨ok,K,tl,tr,N⟩:=yt hp I ne e gl hl;have pe:=uI hp I ne e gl hl;have SL:=λi hi=>QC hp I ne K N (i:=i) hi;rw[<- e]at SL;have d:=Aw p2 I.irr;rw[<- e]at d;have pl0:(pH p (qT p (Tz p g))).length=(Tz p g).length-1:=by rw[Hy];exact oE ..
 have w0:jE (pH p (qT p (Tz p g)))=(Tz p g).length-1:=Eh ok (by have:=lP ne;lia);have e2:jm (yO (mH p (lC p) (((pH p (qT p (Tz p g))).map PV.ints).map jZ) (jE (((pH p (qT p (Tz p g))).map PV.ints).map jZ))) (turnT p (lC p) (((pH p (qT p (Tz p g))).map PV.ints).map jZ) (jE (((pH p (qT p (Tz p g))).map PV.ints).map jZ))))=jm (stI p g):=by rw[mL];rfl
 unfold mZ at pe;refine⟨⟨⟨⟨rfl,rfl,tJ⟩,p,g,rfl,by lia⟩,tJ⟩,λpc epc=>?_⟩;replace epc:pc=jm [Tz p g]:=epc;refine⟨⟨⟨rfl,⟨⟨rfl,rfl,tJ⟩,p,g,rfl,ok,hl⟩,tJ⟩,p,pH p (qT p (Tz p g)),rfl,hp,by lia,by lia,λi hi=>by rw[w0];exact Eh ok (by lia)⟩,λst est=>?_⟩;replace est:st=jm (yO (mH p (lC p) (((pH p (qT p (Tz p g))).map PV.ints).map jZ) (jE (((pH p (qT p (Tz p g))).map PV.ints).map jZ))) (turnT p (lC p) (((pH p (qT p (Tz p g))).map PV.ints).map jZ) (jE (((pH p (qT p (Tz p g))).map PV.ints).map jZ)))):=est;rw[e2]at est;refine jz (Z':=[.fr (.ob 0 p),.fr (.ints g),.fr pc,.fr st,.un]) rfl ?_;subst epc est;have N1:∀i h,(stI p g)[i]?=some h->rZ p (stI p g) (λh=>Cz p (rA p g h (stI p g).length)) (Tz p g) (i+1)=if (rZ p (stI p g) (λh=>Cz p (rA p g h (stI p g).length)) (Tz p g) i).length<(stI p g).length then Gr p h (Cz p (rA p g h (stI p g).length)) (rZ p (stI p g) (λh=>Cz p (rA p g h (stI p g).length)) (Tz p g) i) else rZ p (stI p g) (λh=>Cz p (rA p g h (stI p g).length)) (Tz p g) i:=λi h hx=>by
  have eh:(stI p g).getD i []=h:=by rw[gQ,hx];rfl
  rw[<- eh];rfl
 have N0:[Tz p g]=rZ p (stI p g) (λh=>Cz p (rA p g h (stI p g).length)) (Tz p g) 0:=rfl;have NE:rZ p (stI p g) (λh=>Cz p (rA p g h (stI p g).length)) (Tz p g) (stI p g).length=mZ p g:=rfl;rw[NE]at pe;generalize rZ p (stI p g) (λh=>Cz p (rA p g h (stI p g).length)) (Tz p g)=S at *
 generalize hSp:mZ p g=Sp at pe NE;generalize hnm:(λh=>Cz p (rA p g h (stI p g).length))=nm at *
 generalize stI p g=t at *
 have lT:(t.map PV.ints).length=t.length:=aa _;refine⟨⟨rfl,rfl⟩,λi Z=>∃v4,Z=[.fr (.ob 0 p),.fr (.ints g),.fr (jm (S i)),.fr (jm t),v4],⟨.un,by rw[<- N0]⟩,?_,?_⟩
 ·rintro i q Z hq ⟨v4,rfl⟩;have hq:(t.map PV.ints)[i]?=some q:=hq;rw[aw]at hq;obtain⟨h,hx,rfl⟩:=fe.mp hq;have il:i<t.length:=(aj.mp hx).1;obtain⟨h1,h2,h3⟩:=tr h (aW hx);obtain⟨s1,s2⟩:=SL i (by lia);have nx:=N1 i h hx;have lS:((S i).map PV.ints).length=(S i).length:=aa _;refine⟨⟨⟨rfl,tJ⟩,rfl,tJ⟩,λq=>?_,λq=>?_⟩
  ·have q:(((S i).map PV.ints).length:Int)<((t.map PV.ints).length:Int):=q;refine⟨⟨⟨rfl,rfl,rfl,⟨⟨rfl,rfl,⟨rfl,tJ⟩,rfl,tJ⟩,p,h,t.length,g,?_,ok,by lia,Yg hp h2,hl,by lia,h3⟩,tJ⟩,p,S i,h,Cz p (rA p g h t.length),?_,hp,by lia,λf hf=>by have:=(s1 f hf).2;lia,by lia,?_⟩,λnw enw=>?_⟩
   ·show[PV.ob 0 p,.ints h,.int ((t.map PV.ints).length:Int),.ints g]=_;rw[lT]
   ·show[PV.ob 0 p,jm (S i),.ints h,.ints (Cz p (rA p g h (((t.map PV.ints).length:Int)).toNat))]=_;rw[lT,aC]
   ·have:=Wn p (rA p g h t.length);lia
   ·have enw:nw=jm (Gr p h (Cz p (rA p g h (((t.map PV.ints).length:Int)).toNat)) (((S i).map PV.ints).map jZ)):=enw;rw[lT,aC,mL]at enw;refine⟨.fr (.ints h),?_⟩;rw[nx,af (by lia),enw];rfl
  ·have q:¬(((S i).map PV.ints).length:Int)<((t.map PV.ints).length:Int):=q;refine⟨.fr (.ints h),?_⟩;rw[nx,ae (by lia)];rfl
 ·rintro Z ⟨v4,rfl⟩;have eL:S (t.map PV.ints).length=Sp:=by rw[lT];exact NE
  have nd:Sp.Nodup:=pe.nodup_iff.mpr (zP I.nd);have ll:Sp.length<=40:=by rw[pe.length_eq,aa];lia
  refine⟨⟨rfl,rfl,⟨?_,?_⟩,λq hq=>?_⟩,?_⟩
  ·show((S (t.map PV.ints).length).map PV.ints).length<64;rw[eL,aa];lia
  ·show(((S (t.map PV.ints).length).map PV.ints).map kJ).Nodup;rw[eL,xZ];exact nd
  ·have hq:q∈(S (t.map PV.ints).length).map PV.ints:=hq;obtain⟨x,_,rfl⟩:=aP.mp hq;exact⟨⟨x,rfl⟩,rfl⟩
  ·show PV.lst (jT kJ ((S (t.map PV.ints).length).map PV.ints))=PV.lst (jT kJ ((mZ p g).map PV.ints));rw[eL,hSp]
def Ph (q:PV):List Int:=kJ (KC q)
def Oi (p:Int)(f:List Int):List PV:=(rP (Ha p f)).flatMap λq=>(jT kJ ((mZ p (kJ (u5 q))).map PV.ints)).map λr=>.tup [r,vQ q]
open Pl in
def qP {p:Int}(r:Pl p×Nat):PV:=.tup [.ints (ls r.1),.int (r.2:Int)]
open Pl in
structure Cg {p:Int}(f:List Int)(L:List (Pl p×Nat)):Prop where
 irr:∀q∈L,w6 q.1/\(ls q.1).length<=31/\q.2≠0/\q.2<31
 ne:L.Pairwise λa b=>a.1≠b.1
 eN:ls (Pr L id)=rD p (Tz p f)
 fp:Ha p f=.lst (Hb L)
 fam:vU L
open Pl in
theorem Ys (hp:jG p)(ne:Tz p f≠[]):ls (mk p (rD p (Tz p f)))=rD p (Tz p f)/\Mo (mk p (rD p (Tz p f))):=by
 have G:=zH hp (jX p f) (nY p f);have eN:ls (mk p (rD p (Tz p f)))=rD p (Tz p f):=tM ⟨G.form,G.red⟩;refine⟨eN,?_⟩;show jk (ls (mk p (rD p (Tz p f))))=1;rw[eN];rcases G.one with z|z
 ·exfalso;obtain⟨Q,hQ⟩:=G.d1;rw[z]at hQ;refine ne (nH (jX p f) oU λn=>sI (nY p f n) (by show pl p 0=0;exact lH p) ?_);have:=hQ n;rw[jA,lL,aS]at this;exact this
 ·exact z
open Pl in
theorem Lz (hp:jG p)(ne:Tz p f≠[])(nl:(rD p (Tz p f)).length<=31):∃L:List (Pl p×Nat),Cg f L:=by
 have p2:2<=p:=hp.1;obtain⟨eN,mN⟩:=Ys hp ne;obtain⟨L,h1,h2,h3⟩:=MP hp mN;rw[eN]at h1;have F:vU L:=⟨gJ (λ{a b} ha hb n=>(h1 a ha).1.cop hp (h1 b hb).1 (by have:=(h1 b hb).2.1;lia) n) h2,λq hq=>K7 hp (h1 q hq).1 (by have:=(h1 q hq).2.1;lia),λq hq=>(h1 q hq).1.mo,λq hq=>(h1 q hq).1.deg⟩;have nz:∀q∈L,q.2≠0:=λq hq=>(h1 q hq).2.2;rw[h3]at eN;refine⟨L,λq hq=>⟨(h1 q hq).1,by have:=(h1 q hq).2.1;lia,nz q hq,?_⟩,h2,eN,?_,F⟩
 ·have big:q.2<(ls (Pr L id)).length:=xV p2 (g:=id) F.mo F.dg q hq;rw[eN]at big;lia
 ·unfold Ha;rw[<- eN]at nl ⊢;have h:(lf p (ls (Pr L id)) 40).length<=1:=dB λc=>by have:=Il hp F c;lia
  rw[(G5 hp F nz nl h).2]
open Pl in
theorem RM (c:Nat):∀L:List (Pl p×Nat),PL ((L.filter λr=>decide (r.2=c)).map λr=>r.1)=Pr L (ind c)
 |[]=>rfl
 |q::L=>by
  rw[jN,<- RM c L];unfold ind;by_cases h:q.2=c
  ·rw[cE (by exact aK h),af h];show q.1*PL _=q.1^0*q.1*PL _;rw[Mz,one_mul]
  ·rw[cF (by simpa using h),ae h,Mz,one_mul]
open Pl in
theorem Oe (p2:2<=p){L:List (Pl p×Nat)}(F:vU L)(nz:∀q∈L,q.2≠0)(c:Nat):(ls (Pr L (ind c))).length<=(ls (Pr L id)).length:=by
 have e:=Aq (L:=L) (g:=id) (h:=ind c) λq hq=>by
  unfold ind;split
  ·have:=nz q hq;show 1<=q.2;lia
  ·exact be _
 have l:=Mo.len p2 (F.pr p2 λm=>id m-ind c m) (F.pr p2 (ind c));rw[<- e]at l;have:=(F.pr p2 λm=>id m-ind c m).pos;lia
open Pl in
theorem G7 (p2:2<=p):∀{L:List (Pl p×Nat)},(∀q∈L,Mo q.1/\1<(ls q.1).length/\q.2≠0)->L.length+1<=(ls (Pr L id)).length/\Mo (Pr L id)
 |[],_=>by have e:Pr ([]:List (Pl p×Nat)) id=1:=rfl;rw[e,uh p2];exact⟨ao _,Mo.one p2⟩
 |q::L,h=>by obtain⟨a,b⟩:=G7 p2 (L:=L) λr hr=>h r (ad _ hr);obtain⟨m,d,z⟩:=h q ah;have mp:=Mo.pow p2 m (id q.2);have e:=Mo.len p2 mp b;have el:=Mo.sV p2 m (id q.2);rw[<- jN]at e;refine⟨?_,by rw[jN];exact Mo.mul p2 mp b⟩;have z:id q.2≠0:=z;have:1*1<=id q.2*((ls q.1).length-1):=gw (by lia) (by lia);rw[aR];lia
open Pl in
def Zq {p:Int}(L:List (Pl p×Nat))(c:Nat):List (Pl p):=(L.filter λr=>decide (r.2=c)).map λr=>r.1
open Pl in
theorem Cg.irs {p:Int}{f:Li}{L:List (Pl p×Nat)}(F:Cg f L)(c:Nat):vV (Zq L c):=by
 refine⟨λq hq=>?_,λq hq=>?_,?_⟩
 ·obtain⟨r,hr,rfl⟩:=aP.mp hq;exact(F.irr r (aT.mp hr).1).1
 ·obtain⟨r,hr,rfl⟩:=aP.mp hq;have:=(F.irr r (aT.mp hr).1).2.1;lia
 ·exact dW _ (λ_ _ h=>h) (F.ne.filter _)
open Pl in
theorem Cg.part (hp:jG p){L:List (Pl p×Nat)}(F:Cg f L)(nl:(rD p (Tz p f)).length<=31){c:Nat}(hc:1<(ls (Pr L (ind c))).length) :
  vV (Zq L c)/\Zq L c≠[]/\Tz p (ls (Pr L (ind c)))=ls (PL (Zq L c))/\(ls (Pr L (ind c))).length<=31:=by
 have p2:2<=p:=hp.1;refine⟨F.irs c,λz=>?_,by rw[rR];unfold Zq;rw[RM],?_⟩
 ·obtain⟨r,hr,hz⟩:=(oK p2 F.fam.mo F.fam.dg).mp hc;unfold ind at hz;by_cases y:r.2=c
  ·have:r.1∈Zq L c:=aP.mpr ⟨r,aT.mpr ⟨hr,aK y⟩,rfl⟩;rw[z]at this;cases this
  ·rw[ae y]at hz;exact hz rfl
 ·have:=Oe p2 F.fam (λq hq=>(F.irr q hq).2.2.1) c;rw[F.eN]at this;lia
open Pl in
theorem Dc {α β:Type}{f g:α->List β}:∀{l:List α},(∀x∈l,(f x).Perm (g x))->(l.flatMap f).Perm (l.flatMap g)
 |[],_=>.nil
 |x::l,h=>by rw[cN,cN];exact(h x ah).append (Dc λy hy=>h y (ad _ hy))
open Pl in
theorem Iu (hp:jG p){L:List (Pl p×Nat)}(F:Cg f L)(nl:(rD p (Tz p f)).length<=31):(Oi p f).Perm (L.map qP):=by
 have p2:2<=p:=hp.1;unfold Oi;rw[F.fp];show((Hb L).flatMap _).Perm _;unfold Hb;rw[List.flatMap_map];have csA:∀c∈(List.range 31).filter (λc=>decide (1<(ls (Pr L (ind c))).length)),1<(ls (Pr L (ind c))).length:=λc hc=>bI (aT.mp hc).2;have csN:((List.range 31).filter λc=>decide (1<(ls (Pr L (ind c))).length)).Nodup:=gU.filter _;have csM:∀r∈L,r.2∈(List.range 31).filter λc=>decide (1<(ls (Pr L (ind c))).length):=λr hr=>aT.mpr ⟨aY.mpr (F.irr r hr).2.2.2,aK ((oK p2 F.fam.mo F.fam.dg).mpr ⟨r,hr,by unfold ind;rw[af rfl];decide⟩)⟩;generalize (List.range 31).filter (λc=>decide (1<(ls (Pr L (ind c))).length))=cs at *
 have st:(cs.flatMap λc=>(jT kJ ((mZ p (kJ (u5 (TT L c)))).map PV.ints)).map λr=>PV.tup [r,vQ (TT L c)]).Perm (cs.flatMap λc=>(L.filter λr=>decide (r.2=c)).map qP):=Dc λc hc=>by
  obtain⟨I,ne,e,le⟩:=F.part hp nl (csA c hc);have pe:=uI hp I ne e (by lia) (by rw[rR];lia);have nd:(((mZ p (ls (Pr L (ind c)))).map PV.ints).map kJ).Nodup:=by rw[xZ];exact pe.nodup_iff.mpr (zP I.nd)
  have a:=((uB nd).1.trans (pe.map PV.ints)).map λr=>PV.tup [r,PV.int (c:Int)];refine a.trans (.of_eq ?_);unfold Zq;rw[br,br,br];refine bZ λr hr=>?_;have:r.2=c:=bI (aT.mp hr).2;show PV.tup [.ints (ls r.1),.int (c:Int)]=PV.tup [.ints (ls r.1),.int (r.2:Int)];rw[this]
 refine st.trans ?_;have e1:(cs.flatMap λc=>(L.filter λr=>decide (r.2=c)).map qP)=((cs.map λ(c:Nat)=>(c:Int)).map λs=>L.filter λr=>decide ((r.2:Int)=s)).flatten.map qP:=by rw[List.flatMap_def,List.map_flatten,br,br];congr 1;refine bZ λc _=>?_;show List.map qP _=List.map qP (L.filter λr=>decide ((r.2:Int)=(c:Int)));congr 1;refine fg λr _=>decide_eq_decide.mpr ?_;lia
 rw[e1];refine((yj (λr:Pl p×Nat=>(r.2:Int)) L ?_).map qP).trans (.of_eq ?_)
 ·exact dW _ (λ(a b:Nat) (h:a≠b) z=>h (by lia)) csN
 ·congr 1;refine iQ.mpr λr hr=>aK (aP.mpr ⟨r.2,csM r hr,rfl⟩)
open Pl in
theorem XM (L:List (Pl p×Nat)):(L.map qP).map Ph=L.map λr=>ls r.1:=by rw[br];exact bZ λr _=>rfl
open Pl in
theorem Cg.nd {p:Int}{f:Li}{L:List (Pl p×Nat)}(F:Cg f L):((L.map qP).map Ph).Nodup:=by rw[XM];exact dW _ (λ_ _ h e=>h (Mo.inj e)) F.ne
open Pl in
theorem Cg.len (hp:jG p){L:List (Pl p×Nat)}(F:Cg f L):L.length+1<=(rD p (Tz p f)).length:=by rw[<- F.eN];exact(G7 hp.1 λq hq=>⟨F.fam.mo q hq,F.fam.dg q hq,(F.irr q hq).2.2.1⟩).1
def Ai (p:Int)(f:List Int):PV:=.tup [.int (jk (Tz p f)),.lst (jT Ph (Oi p f))]
open Pl in
theorem S7 (T:Top K mg cNO cK cR):Ok P w K mg base 10 "parts" ["kind","f"] (V9 K (pQ cR) (λas=>∃p f,as=[.ob 0 p,.ints f]/\jG p/\f.length<=100/\(rD p (Tz p f)).length<=31/\Tz p f≠[]) λas=>match as with
  |[.ob 0 p,.ints f]=>Ai p f
  |_=>.non):=by
 refine Xr T.Vr uv T.Uy (λf cdv A outer s H E hr hl=>⟨_,(jd (uw (i:=2) uv.nd rfl (Or.inl rfl) (uc jh))
 (jd (Ba (k:=3) (j:=4) aE rfl (nJ (rcO (Cm T) hr (xv 0) (rdR 1))) (pg_tup rfl (pgs_cons (pg_name (i:=3) uv.nd rfl (Or.inl rfl)) (pgs_cons (pg_name (i:=4) uv.nd rfl (Or.inl rfl)) pgs_nil))) (jf (wB (k:=5) aE rfl (nJ (xc (Gv T) hr (jc (xv 0) (jc (xl 3) jh)))) uv.nd rfl (Or.inl rfl) (jf (uz 2 (qY (jc (xl 5) (jc (xn 4) jh))))))))
 (kZ 2 (jf (jo (qY (jc (rO (jt (jW (Zz (jV T) hr (jP (vR (xv 0)) (jP (rdR 1) o8)))) (sS je) (λ_ _=>rfl))) (jc (um (QT Ph (wX T) hl hr T.Ax (xv 2))) jh)))))))),λq f hp=>?_⟩)
 obtain⟨p,f',e,hp,fl,nl,ne⟩:=hp;cases e;have p2:2<=p:=hp.1;obtain⟨L,F⟩:=Lz hp ne nl;have pp:=Iu hp F nl;have Ll:=F.len hp;have nd:=F.nd;have FQ:∀q∈Hb L,∃x:List Int,∃c:Nat,q=.tup [.ints x,.int (c:Int)]/\x.length<=31/\(Tz p x).length<=40/\(∃l:List (Pl p),vV l/\l≠[]/\Tz p x=ls (PL l))/\(jT kJ ((mZ p x).map PV.ints)).length<=31/\∀r∈jT kJ ((mZ p x).map PV.ints),∃y,r=.ints y:=λq hq=>by
  obtain⟨c,hc,rfl⟩:=aP.mp hq;obtain⟨I,n0,e,le⟩:=F.part hp nl (bI (aT.mp hc).2);have pe:=uI hp I n0 e (by lia) (by rw[rR];lia);have nd:(((mZ p (ls (Pr L (ind c)))).map PV.ints).map kJ).Nodup:=by rw[xZ];exact pe.nodup_iff.mpr (zP I.nd)
  have so:=(uB nd).1;refine⟨ls (Pr L (ind c)),c,rfl,le,by rw[rR];lia,⟨_,I,n0,e⟩,?_,λr hr=>?_⟩
  ·rw[so.length_eq,aa,pe.length_eq,aa];have d:=Aw p2 I.irr;rw[<- e,rR]at d;lia
  ·obtain⟨y,_,rfl⟩:=aP.mp (so.mem_iff.mp hr);exact⟨y,rfl⟩
 have ep:Oi p f=(Hb L).flatMap λq=>(jT kJ ((mZ p (kJ (u5 q))).map PV.ints)).map λr=>.tup [r,vQ q]:=by unfold Oi;rw[F.fp];rfl
 have fl31:(Hb L).length<=31:=by unfold Hb;rw[aa];refine aH (cT _ _) ?_;rw[aq];exact ao _
 have eF:Ha p f=.lst (Hb L):=F.fp;generalize Hb L=FP at *
 have M0:∀i,i<=FP.length->((FP.take i).flatMap λq=>(jT kJ ((mZ p (kJ (u5 q))).map PV.ints)).map λr=>PV.tup [r,vQ q]).length<=i*31:=λi=>by
  induction i with
  |zero=>intro _;exact ao 0
  |succ i ih=>
   intro hi;have a:=ih (by lia);have il:i<FP.length:=by lia
   rw[m7 (ac il),eR,ai,cN,fG,a8,aa];obtain⟨x,c,e,_,_,_,sl,_⟩:=FQ FP[i] (bD il);rw[e];have sl:(jT kJ ((mZ p (kJ (u5 (PV.tup [.ints x,.int (c:Int)])))).map PV.ints)).length<=31:=sl;lia
 refine⟨tJ,λl0 el0=>?_⟩;subst el0;refine jz (Z':=[.fr (.ob 0 p),.rd (.ints f),.ow (.lst []),.un,.un,.un]) rfl ?_;have hF:∀v,v=Ha p f->v=.lst (rP v)/\rP v=FP:=λv e=>by rw[e,eF];exact⟨rfl,rfl⟩
 obtain⟨hF1,hF2⟩:=hF (Ha p f) rfl;refine⟨⟨⟨⟨rfl,rfl,p,f,rfl,hp,fl,nl,ne⟩,hF1⟩,λq hq=>?_⟩,λi Z=>∃v3 v4 v5,Z=[.fr (.ob 0 p),.rd (.ints f),.ow (.lst ((FP.take i).flatMap λq=>(jT kJ ((mZ p (kJ (u5 q))).map PV.ints)).map λr=>PV.tup [r,vQ q])),v3,v4,v5],⟨.un,.un,.un,rfl⟩,?_,?_⟩
 ·have hq:q∈rP (Ha p f):=hq;rw[hF2]at hq;obtain⟨x,c,rfl,_⟩:=FQ q hq;exact rfl
 ·rintro i q Z hq ⟨v3,v4,v5,rfl⟩;have hq:(rP (Ha p f))[i]?=some q:=hq;rw[hF2]at hq;have il:i<FP.length:=(aj.mp hq).1;obtain⟨x,c,eq,xl,tl,ex,sl,sr⟩:=FQ q (aW hq);have m0:=M0 i (by lia);have nx:(FP.take (i+1)).flatMap (λq=>(jT kJ ((mZ p (kJ (u5 q))).map PV.ints)).map λr=>PV.tup [r,vQ q])=(FP.take i).flatMap (λq=>(jT kJ ((mZ p (kJ (u5 q))).map PV.ints)).map λr=>PV.tup [r,vQ q])++(jT kJ ((mZ p x).map PV.ints)).map λr=>PV.tup [r,PV.int (c:Int)]:=by rw[m7 hq,eR,cN,fG,a8,eq];rfl
  generalize (FP.take i).flatMap (λq=>(jT kJ ((mZ p (kJ (u5 q))).map PV.ints)).map λr=>PV.tup [r,vQ q])=B at *
  generalize hX:jT kJ ((mZ p x).map PV.ints)=X at *
  subst eq;have hX2:∀v,v=PV.lst (jT kJ ((mZ p x).map PV.ints))->v=.lst (rP v)/\rP v=X:=λv e=>by rw[e,hX];exact⟨rfl,rfl⟩
  obtain⟨hX3,hX4⟩:=hX2 _ rfl;refine⟨⟨⟨⟨rfl,rfl,tJ⟩,p,x,rfl,hp,by lia,tl,ex⟩,hX3⟩,λj Z=>∃v5,Z=[.fr (.ob 0 p),.rd (.ints f),.ow (.lst (B++(X.take j).map λr=>PV.tup [r,PV.int (c:Int)])),.fr (.ints x),.fr (.int (c:Int)),v5],⟨v5,?_⟩,?_,?_⟩
  ·rw[iC,dO,a8];rfl
  ·rintro j r Z hr' ⟨v5,rfl⟩;have hr':(rP (PV.lst (jT kJ ((mZ p x).map PV.ints))))[j]?=some r:=hr';rw[hX4]at hr';have jl:j<X.length:=(aj.mp hr').1;obtain⟨y,rfl⟩:=sr r (aW hr');refine⟨rfl,⟨rfl,rfl,tJ⟩,?_,.fr (.ints y),?_⟩
   ·show(B++(X.take j).map λr=>PV.tup [r,PV.int (c:Int)]).length<sizeLine;rw[ai,aa,aJ];refine aQ (show _<=2000 by lia) (by decide)
   ·rw[m7 hr',bF,<- c7];rfl
  ·rintro Z ⟨v5,rfl⟩;refine⟨.fr (.ints x),.fr (.int (c:Int)),v5,?_⟩;have e:(X.take (rP (PV.lst (jT kJ ((mZ p x).map PV.ints)))).length)=X:=by rw[hX4,cr]
   show[Sl.fr (.ob 0 p),.rd (.ints f),.ow (.lst (B++(X.take (rP (PV.lst (jT kJ ((mZ p x).map PV.ints)))).length).map λr=>PV.tup [r,PV.int (c:Int)])),.fr (.ints x),.fr (.int (c:Int)),v5]=_;rw[e,nx]
 ·rintro Z ⟨v3,v4,v5,rfl⟩;have eL:(FP.take (rP (Ha p f)).length).flatMap (λq=>(jT kJ ((mZ p (kJ (u5 q))).map PV.ints)).map λr=>PV.tup [r,vQ q])=Oi p f:=by rw[hF2,cr,ep]
  have lT:=lP ne;refine⟨⟨⟨⟨⟨⟨rfl,rfl,tJ⟩,p,f,rfl,by lia⟩,tJ,?_⟩,?_⟩,⟨rfl,rfl,⟨?_,?_⟩,λq hq=>?_⟩,tJ⟩,?_⟩
  ·show -((Tz p f).length:Int) <= -1/\(-1:Int)<((Tz p f).length:Int);lia
  ·exact rfl
  ·show(List.flatMap (λq=>(jT kJ ((mZ p (kJ (u5 q))).map PV.ints)).map λr=>PV.tup [r,vQ q]) (FP.take (rP (Ha p f)).length)).length<64;rw[eL,pp.length_eq,aa];lia
  ·show(List.map Ph (List.flatMap (λq=>(jT kJ ((mZ p (kJ (u5 q))).map PV.ints)).map λr=>PV.tup [r,vQ q]) (FP.take (rP (Ha p f)).length))).Nodup;rw[eL];exact(pp.map Ph).nodup_iff.mpr nd
  ·have hq:q∈List.flatMap (λq=>(jT kJ ((mZ p (kJ (u5 q))).map PV.ints)).map λr=>PV.tup [r,vQ q]) (FP.take (rP (Ha p f)).length):=hq;rw[eL]at hq;obtain⟨r,_,rfl⟩:=aP.mp (pp.mem_iff.mp hq);exact⟨⟨[PV.int (r.2:Int)],rfl⟩,⟨ls r.1,rfl⟩,rfl⟩
  ·show PV.tup [.int ((Tz p f).getD (lB (Tz p f).length (-1)) 0),.lst (jT Ph (List.flatMap (λq=>(jT kJ ((mZ p (kJ (u5 q))).map PV.ints)).map λr=>PV.tup [r,vQ q]) (FP.take (rP (Ha p f)).length)))]=Ai p f;rw[eL,sJ _ lT];rfl
def Iz (c:Int):Int:=((c % 10^9)*(c % 10^9)+40503)*1103515245982451653 % (10^18+9)
theorem Ss (c:Int):0<=Iz c:=by unfold Iz;exact a9 _ (by decide)
theorem WF (T:Top K mg cNO cK cR):Ok P w K mg base 2 "_law_head" ["_law_script"] (By K (pQ cR) (λas=>∃ns,as=[.scr ns]) λas=>match as with
  |[.scr ns]=>Iz (ns.getD 0 0)
  |_=>0):=by
 refine xf T.Zd Mm (λas ⟨a,h⟩=>by rw[h];rfl) (λf cdv A outer s H E hr=>⟨_,(jd (jq (i:=1) Mm.nd rfl (Or.inl rfl) (lD (xci (Kh T) hr (jc (xr 0) (jc je jh))) (vP je je)))
 (jf (jo (lD (n6 (kO (n6 (xn 1) (xn 1)) je) je) (kO (vP je je) je))))),λas hp=>?_⟩)
 obtain⟨ns,rfl⟩:=hp;refine⟨⟨⟨⟨rfl,tJ,tJ⟩,tJ,rfl,by show(0:Int)<=0;decide⟩,by walk_at "xs",by show(0:Int)<10^9;decide⟩,λn e=>?_⟩;have e:n=ns.getD 0 0 % 10^9:=e;have n0:0<=n/\n<10^9:=by rw[e];exact⟨a9 _ (by decide),aX _ (by decide)⟩
 refine⟨⟨⟨⟨⟨rfl,rfl,uN ⟨by show -(2:Int)^64<n;lia,by show n<(2:Int)^64;lia⟩⟩,tJ⟩,tJ,uN (by decide)⟩,by walk_at "xs",by show(0:Int)<10^18+9;decide⟩,?_⟩;show PV.int ((n*n+40503)*1103515245982451653 % (10^18+9))=PV.int (Iz (ns.getD 0 0));unfold Iz;rw[<- e]
theorem Sg (T:Top K mg cNO cK cR):Ok P w K mg base 1 "_law_plain" ["_law_number","_law_size"] (By K (pQ cR) (λas=>∃n z,as=[.int n,.int z]/\0<z) λas=>match as with
  |[.int n,.int z]=>pl z n
  |_=>0):=by
 refine xf T.UW RD (λas ⟨a,b,h,_⟩=>by rw[h];rfl) (λf cdv A outer s H E hr=>⟨_,(jf (jo (lD (xn 0) (xn 1)))),λas hp=>?_⟩);obtain⟨n,z,rfl,hz⟩:=hp;refine⟨⟨rfl,rfl,hz⟩,?_⟩;show PV.int (n % z)=PV.int (pl z n);rw[kh hz]
theorem Vx (T:Top K mg cNO cK cR):Ok P w K mg base 2 "_law_trim" ["_law_row","_law_size"] (Ed K (pQ cR) (λas=>∃f z,as=[.ints f,.int z]/\0<z/\f.length<=1000) λas=>match as with
  |[.ints f,.int z]=>Tz z f
  |_=>[]):=by
 refine Jk T.Yi Nk (λas ⟨a,b,h,_⟩=>by rw[h];rfl) (λf cdv A outer s H E hr=>⟨_,(jd (Mh (i:=0) Nk.nd rfl rfl (N':=["_law_number","_law_size"]) (cap:=[some 1]) (oZ rfl rfl rfl rfl ⟨⟨rfl,.inr (.inl rfl),BV,.inl rfl,_,rfl,rfl⟩,tJ⟩ ⟨rfl,tJ⟩ rfl) rfl (xl 0) (λ_ _ _=>(pO 0)) (λ_ _ _=>(xci (Sg T) hr (jc (xn 0) (jc (xn 1) jh)))) rfl)
 (jd (mY aE (L2.PW.pt (xu (rQ (jK 0 T.jD) je) (uT (sY (lZ 0 (sS je) (λ_ _=>rfl)) je))))
 (jf (WW 0)))
 (jf (zO 0)))),λas hp=>?_⟩)
 obtain⟨f,z,rfl,hz,hf⟩:=hp;refine⟨⟨rfl,hf,λn _=>⟨⟨rfl,rfl,tJ⟩,n,z,rfl,hz⟩⟩,λns e=>?_⟩;have e:ns=f.map (pl z):=e;refine⟨λZ=>∃ms,Z=[.ow (.ints ms),.fr (.int z)]/\jY ms=jY ns,λZ=>(getL Z 0).length,⟨ns,rfl,rfl⟩,?_⟩;rintro Z ⟨ms,rfl,hm⟩;refine⟨⟨⟨.inr (.inl rfl),tJ⟩,λh=>⟨⟨.inr (.inl rfl),tJ,?_,?_⟩,tJ⟩⟩,λq=>?_,λq=>?_⟩
 ·have h:0<(ms.length:Int):=h;lia
 ·lia
 ·have q:0<(ms.length:Int)/\ms.getD (lB ms.length (-1)) 0=0:=q;have hne:ms≠[]:=eI.mp (by lia);rw[Mw ms hne]at q;refine⟨rfl,hne,⟨_,rfl,?_⟩,?_⟩
  ·rw[<- hm];exact Ad hne q.2
  ·show ms.dropLast.length<ms.length;rw[fH];lia
 ·have q:¬(0<(ms.length:Int)/\ms.getD (lB ms.length (-1)) 0=0):=q;refine⟨rfl,?_⟩;show ms=jY (f.map (pl z));rw[<- e,<- hm,Ar];rintro⟨a,b⟩;have:=lP a;exact q ⟨by lia,by rw[Mw ms a];exact b⟩
theorem oW (T:Top K mg cNO cK cR):Ok P w K mg base 3 "_law_times" ["_law_f","_law_g","_law_size"] (Ed K (pQ cR) (λas=>∃f g z,as=[.ints f,.ints g,.int z]/\0<z/\f.length+g.length<=1000/\(∀m∈f,m.natAbs<2^9000)/\(∀m∈g,m.natAbs<2^9000)) λas=>match as with
  |[.ints f,.ints g,.int z]=>Tz z (ji f g)
  |_=>[]):=by
 refine Jk T.Hw p7 (λas ⟨a,b,c,h,_⟩=>by rw[h];rfl) (λf cdv A outer s H E hr=>⟨_,(jd (p6 (i:=3) p7.nd rfl (Or.inl rfl) (uq (lQ (jc je jh)) (kO (jK 0 T.jD) (jK 1 T.jD)) (λ_=>rfl)))
 (jd (pK (k:=4) aE rfl (by rfl) T.oH (jK 0 T.jD) p7.nd rfl (Or.inl rfl)
 (jf (pK (k:=5) aE rfl (by rfl) T.oH (jK 1 T.jD) p7.nd rfl (Or.inl rfl)
 (jf (uO 3 (kO (xn 4) (xn 5)) (kO (lZ 3 (kO (xn 4) (xn 5)) (λ_ _=>rfl)) (n6 (lZ 0 (xn 4) (λ_ _=>rfl)) (lZ 1 (xn 5) (λ_ _=>rfl)))))))))
 (kZ 3 (jf (lO (vy (Vx T) hr (jc (xl 3) (jc (xn 2) jh)))))))),λas hp=>?_⟩)
 obtain⟨f,g,z,rfl,hz,hl,hf,hg⟩:=hp;have en:((f.length:Int)+(g.length:Int)).toNat=f.length+g.length:=by lia
 refine⟨⟨⟨⟨tJ,tJ⟩,tJ⟩,⟨.inl rfl,.inl rfl⟩,?_,?_⟩,λr0 er0=>?_⟩
 ·lia
 ·show((f.length:Int)+(g.length:Int)).toNat<=1000;lia
 have er0:r0=List.replicate (f.length+g.length) 0:=by rw[<- en];exact er0
 refine⟨.inl rfl,⟨by show -(2:Int)^62<=(f.length:Int);lia,by show(f.length:Int)<2^62;lia⟩,λi Z=>∃row v1 v2,Z=[.fr (.ints f),.fr (.ints g),.fr (.int z),.ow (.ints row),v1,v2]/\tE f g i 0 row,⟨r0,.un,.un,rfl,by rw[er0];exact Dq f g⟩,?_,?_⟩
 ·rintro i Z hi ⟨row,v1,v2,rfl,hr⟩;have hi:i<f.length:=by have hi:i<(f.length:Int).toNat:=hi;lia
  refine⟨.inl rfl,⟨by show -(2:Int)^62<=(g.length:Int);lia,by show(g.length:Int)<2^62;lia⟩,λj Z=>∃row v2,Z=[.fr (.ints f),.fr (.ints g),.fr (.int z),.ow (.ints row),.fr (.int i),v2]/\tE f g i j row,⟨row,v2,rfl,hr⟩,?_,?_⟩
  ·rintro j Z hj ⟨row,v2,rfl,hr⟩;have hj:j<g.length:=by have hj:j<(g.length:Int).toNat:=hj;lia
   have l1:-(row.length:Int)<=(i:Int)+(j:Int):=by lia
   have l2:(i:Int)+(j:Int)<(row.length:Int):=by have:=hr.1;lia
   have ix:lB row.length ((i:Int)+(j:Int))=i+j:=by unfold lB;rw[af (by lia)];lia
   have xi:lB f.length (i:Int)=i:=by unfold lB;rw[af (by lia)];lia
   have xj:lB g.length (j:Int)=j:=by unfold lB;rw[af (by lia)];lia
   have mi:f.getD i 0∈f:=FM.getD_mem hi;have mj:g.getD j 0∈g:=FM.getD_mem hj;refine⟨⟨⟨.inr (.inl rfl),⟨rfl,rfl⟩,l1,l2⟩,⟨.inl rfl,rfl,by show -(f.length:Int)<=(i:Int);lia,by show(i:Int)<(f.length:Int);lia⟩,⟨.inl rfl,rfl,by show -(g.length:Int)<=(j:Int);lia,by show(j:Int)<(g.length:Int);lia⟩,?_⟩,rfl,⟨rfl,rfl⟩,⟨l1,l2⟩,row.set (i+j) (row.getD (i+j) 0+f.getD i 0*g.getD j 0),.fr (.int j),?_,HB hr hi hj⟩
   ·show IntMulOk (f.getD (lB f.length (i:Int)) 0) (g.getD (lB g.length (j:Int)) 0);rw[xi,xj];exact pP (n:=9000) (m:=9000) (hf _ mi) (hg _ mj)
   ·show[Sl.fr (.ints f),.fr (.ints g),.fr (.int z),.ow (.ints (row.set (lB row.length ((i:Int)+(j:Int))) (row.getD (lB row.length ((i:Int)+(j:Int))) 0+f.getD (lB f.length (i:Int)) 0*g.getD (lB g.length (j:Int)) 0))),.fr (.int i),.fr (.int j)]=_;rw[ix,xi,xj]
  ·rintro Z ⟨row,v2,rfl,hr⟩;have e:(g.length:Int).toNat=g.length:=by lia
   have hr:tE f g i (g.length:Int).toNat row:=hr;rw[e]at hr;exact⟨row,_,v2,rfl,HH hr⟩
 ·rintro Z ⟨row,v1,v2,rfl,hr⟩;have e:(f.length:Int).toNat=f.length:=by lia
  have hr:tE f g (f.length:Int).toNat 0 row:=hr;rw[e]at hr;have er:=row_end hr;refine⟨⟨⟨rfl,rfl,tJ⟩,row,z,rfl,hz,?_⟩,?_⟩
  ·rw[hr.1];lia
  ·show jY (row.map (pl z))=_;rw[er];rfl
def UG (n:Int):Prop:=(n % 2=0/\2<n)\/(n % 3=0/\3<n)\/(n % 5=0/\5<n)
open Classical in
def ZJ:Nat->Int->Int
 |0,n=>n
 |k+1,n=>if UG n then ZJ k (n-1) else n
theorem QQ (h:¬UG n):∀k,ZJ k n=n
 |0=>rfl
 |k+1=>ae h
theorem La:∀(k:Nat) (n:Int),2<=n->n<=31->n<=(k:Int)+2->jG (ZJ k n)
 |0,n,h1,_,h3=>by
  have e:n=2:=by lia
  rw[e];exact YF
 |k+1,n,h1,h2,h3=>by
  unfold ZJ;split
  ·rename_i b;have:2<n:=by
    rcases b with b|b|b
    ·exact b.2
    ·have:=b.2;lia
    ·have:=b.2;lia
   exact La k (n-1) (by lia) (by lia) (by lia)
  ·rename_i b;refine⟨h1,by lia,λd d1 d2 z=>b ?_⟩;have d5:d<=5:=by refine cQ λc=>?_;have:=uU (d:=6) (e:=d) (by lia) (by lia);lia
   have e:d=2\/d=3\/d=4\/d=5:=by lia
   rcases e with e|e|e|e<;>subst e
   ·exact .inl ⟨z,by lia⟩
   ·exact .inr (.inl ⟨z,by lia⟩)
   ·exact .inl ⟨by lia,by lia⟩
   ·exact .inr (.inr ⟨z,by lia⟩)
def smF (c:Int):Int:=ZJ 31 (2+c % 30)
theorem W7 (c:Int):jG (smF c):=by have h1:=a9 c (show(30:Int)≠0 by decide);have h2:=aX c (show(0:Int)<30 by decide);exact La 31 _ (by lia) (by lia) (by lia)
theorem Bm (T:Top K mg cNO cK cR):Ok P w K mg base 1 "_law_small_prime" ["_law_cell"] (By K (pQ cR) (λas=>∃c,as=[.int c]) λas=>match as with
  |[.int c]=>smF c
  |_=>0):=by
 refine xf T.BK qm (λas ⟨a,h⟩=>by rw[h];rfl) (λf cdv A outer s H E hr=>⟨_,(jd (jq (i:=1) qm.nd rfl (Or.inl rfl) (kO je (lD (xn 0) je)))
 (jd (mY aE (L2.PW.pt (oN (L2.PW.pt (xu (sY (lD (xn 1) je) je) (uT (rQ (xn 1) je)))) (oN (L2.PW.pt (xu (sY (lD (xn 1) je) je) (uT (rQ (xn 1) je)))) (qD (L2.PW.pt (xu (sY (lD (xn 1) je) je) (uT (rQ (xn 1) je))))))))
 (jf (jq (i:=1) qm.nd rfl (Or.inl rfl) (nZ (xn 1) je))))
 (jf (jo (xn 1))))),λas hp=>?_⟩)
 obtain⟨c,rfl⟩:=hp;have h1:=a9 c (show(30:Int)≠0 by decide);have h2:=aX c (show(0:Int)<30 by decide);refine⟨⟨tJ,rfl,tJ,by show(0:Int)<30;decide⟩,λn en=>?_⟩;refine⟨λZ=>∃n,∃k:Nat,Z=[.fr (.int c),.fr (.int n)]/\(2<=n/\n<=31)/\n<=(k:Int)/\ZJ k n=smF c,λZ=>(xN Z 1).toNat,⟨n,31,rfl,⟨by lia,by lia⟩,by lia,by rw[en];rfl⟩,?_⟩;rintro Z ⟨n,k,rfl,⟨n1,n2⟩,nk,ek⟩;refine⟨⟨⟨⟨⟨rfl,tJ,by show(0:Int)<2;decide⟩,tJ⟩,λ_=>⟨rfl,tJ⟩⟩,λ_=>⟨⟨⟨⟨rfl,tJ,by show(0:Int)<3;decide⟩,tJ⟩,λ_=>⟨rfl,tJ⟩⟩,λ_=>⟨⟨⟨rfl,tJ,by show(0:Int)<5;decide⟩,tJ⟩,λ_=>⟨rfl,tJ⟩⟩⟩⟩,λq=>?_,λq=>?_⟩
 ·have q:UG n:=q;have n3:2<n:=by
   rcases q with b|b|b
   ·exact b.2
   ·have:=b.2;lia
   ·have:=b.2;lia
  obtain⟨k,rfl⟩:∃j,k=j+1:=⟨k-1,by lia⟩;refine⟨⟨rfl,tJ⟩,λm em=>⟨⟨m,k,rfl,?_⟩,?_⟩⟩
  ·have em:m=n-1:=em;rw[em];refine⟨⟨by lia,by lia⟩,by lia,?_⟩;rw[<- ek];exact(af q).symm
  ·have em:m=n-1:=em;show m.toNat<n.toNat;lia
 ·have q:¬UG n:=q;refine⟨rfl,?_⟩;show PV.int n=PV.int (smF c);rw[<- ek,QQ q]
def stP (p n:Int):Nat->List Int×Int
 |0=>([],n)
 |i+1=>((stP p n i).1++[(stP p n i).2 / 3 % p],(stP p n i).2 / p)
theorem zj (p n:Int):∀i,(stP p n i).1.length=i
 |0=>rfl
 |i+1=>by show((stP p n i).1++[_]).length=i+1;rw[ai,zj p n i];rfl
theorem K4 (hp:2<=p)(n:Int):∀i,∀m∈(stP p n i).1,pl p m=m
 |0,m,hm=>by cases hm
 |i+1,m,hm=>by
  rcases c8.mp hm with h|h
  ·exact K4 hp n i m h
  ·rw[bA.mp h,kh (by lia)];exact d9 _ (fj p)
def Gq (p c:Int):List Int:=(stP p (c % 10^60) (1+c % 10^60 % 3).toNat).1++[1]
structure aa5 (p:Int)(x:List Int):Prop where
 fo:Fo p x
 one:jk x=1
 l2:2<=x.length
 l4:x.length<=4
theorem R8 (hp:2<=p)(c:Int):aa5 p (Gq p c):=by
 unfold Gq;have h1:=a9 (c % 10^60) (show(3:Int)≠0 by decide);have h2:=aX (c % 10^60) (show(0:Int)<3 by decide);generalize c % 10^60=n at *
 have sl:=zj p n (1+n % 3).toNat;have sr:=K4 hp n (1+n % 3).toNat;generalize (stP p n (1+n % 3).toNat).1=l at *
 have one:jk (l++[1])=1:=by show(l++[1]).getD ((l++[1]).length-1) 0=1;rw[wF,af (by rw[ai,bw];lia)]
 refine⟨⟨λ_=>by show jk (l++[1])≠0;rw[one];decide,λn=>?_⟩,one,by rw[ai,bw];lia,by rw[ai,bw];lia⟩;rw[wF];split
 ·exact XF hp
 ·by_cases d:n<l.length
  ·exact sr _ (FM.getD_mem d)
  ·rw[jj (by lia),lH]
theorem ZW (hp:jG p):p.natAbs.log2<9000:=by have p2:=hp.1;have p3:=hp.2.1;refine(iG (by lia)).mpr ?_;exact aQ (show p.natAbs<=2^14 by lia) (bj (by decide) (by decide))
theorem Tt (T:Top K mg cNO cK cR):Ok P w K mg base 1 "_law_piece" ["_law_cell","_law_prime_here"] (Ed K (pQ cR) (λas=>∃c p,as=[.int c,.int p]/\jG p) λas=>match as with
  |[.int c,.int p]=>Gq p c
  |_=>[]):=by
 refine Jk T.U5 uC (λas ⟨a,b,h,_⟩=>by rw[h];rfl) (λf cdv A outer s H E hr=>⟨_,(jd (jq (i:=2) uC.nd rfl (Or.inl rfl) (lD (xn 0) (vP je je)))
 (jd (p6 (i:=3) uC.nd rfl (Or.inl rfl) (lQ jh))
 (jd (pK (k:=4) aE rfl (by rfl) T.oH (kO je (lD (xn 2) je)) uC.nd rfl (Or.inl rfl)
 (jd (vB 3 (lD (rB (xn 2) je) (xn 1)))
 (jf (jq (i:=2) uC.nd rfl (Or.inl rfl) (rB (xn 2) (xn 1))))))
 (kZ 3 (jf (lO (tZ (xl 3) (jW (lQ (jc je jh)))))))))),λas hp=>?_⟩)
 obtain⟨c,p,rfl,hp⟩:=hp;have p0:0<p:=by have:=hp.1;lia
 have lp:=ZW hp;refine⟨⟨rfl,⟨tJ,tJ,by decide,by decide,by decide⟩,by show(0:Int)<10^60;decide⟩,λn en=>?_⟩;have goal:Gq p c=(stP p n (1+n % 3).toNat).1++[1]:=by rw[en];rfl
 have h1:=a9 n (show(3:Int)≠0 by decide);have h2:=aX n (show(0:Int)<3 by decide);refine⟨⟨tJ,tJ⟩,λr0 er0=>?_⟩;refine jz (Z':=[.fr (.int c),.fr (.int p),.fr (.int n),.ow (.ints r0),.un]) rfl ?_;refine⟨⟨tJ,rfl,tJ,by show(0:Int)<3;decide⟩,⟨by show -(2:Int)^62<=1+n % 3;lia,by show 1+n % 3<(2:Int)^62;lia⟩,λi Z=>∃v4,Z=[.fr (.int c),.fr (.int p),.fr (.int (stP p n i).2),.ow (.ints (stP p n i).1),v4],⟨.un,by rw[er0];rfl⟩,?_,?_⟩
 ·rintro i Z hi ⟨v4,rfl⟩;have sl:=zj p n i;refine⟨rfl,⟨⟨rfl,tJ,by decide,by show(3:Int).natAbs.log2<9000;decide +kernel⟩,rfl,p0⟩,?_,⟨⟨rfl,rfl,p0,lp⟩,λm em=>⟨.fr (.int (i:Int)),?_⟩⟩⟩
  ·show(stP p n i).1.length<sizeLine;rw[sl];exact small1000 (by lia)
  ·rw[em];rfl
 ·rintro Z ⟨v4,rfl⟩;have sl:=zj p n (1+n % 3).toNat;refine⟨⟨rfl,⟨⟨tJ,tJ⟩,tJ⟩,bN (small1000 (by show(stP p n (1+n % 3).toNat).1.length+1<=1000;lia))⟩,?_⟩;exact goal.symm
open Classical in
def YT:Nat->Int->Int
 |0,n=>n
 |k+1,n=>if jG n then n else YT k (n-1)
theorem Hc (h:jG n):∀k,YT k n=n
 |0=>rfl
 |k+1=>af h
theorem K6:∀(k:Nat) (n:Int),2<=n->n<=9973->n<=(k:Int)+2->jG (YT k n)
 |0,n,h1,_,h3=>by
  have e:n=2:=by lia
  rw[e];exact YF
 |k+1,n,h1,h2,h3=>by
  by_cases b:jG n
  ·rw[Hc b];exact b
  ·have e:YT (k+1) n=YT k (n-1):=ae b;rw[e];have:n≠2:=λz=>b (by rw[z];exact YF);exact K6 k (n-1) (by lia) (by lia) (by lia)
def pgF (c:Int):Int:=YT 9973 (2+c)
theorem Tf (T:Top K mg cNO cK cR):Ok P w K mg base 1 "_law_prime" ["_law_cell"] (By K (pQ cR) (λas=>∃c,as=[.int c]/\0<=c/\c<=9971) λas=>match as with
  |[.int c]=>pgF c
  |_=>0):=by
 refine xf T.WQ su (λas ⟨a,h,_⟩=>by rw[h];rfl) (λf cdv A outer s H E hr=>⟨_,(jd (jq (i:=1) su.nd rfl (Or.inl rfl) (kO je (xn 0)))
 (jd (jq (i:=2) su.nd rfl (Or.inl rfl) je)
 (jd (mY aE (Xq (n6 (xn 2) (xn 2)) (xn 1))
 (tW (j7 (sY (lD (xn 1) (xn 2)) je)
 (jd (jq (i:=1) su.nd rfl (Or.inl rfl) (nZ (xn 1) je))
 (jf (jq (i:=2) su.nd rfl (Or.inl rfl) je)))
 jO)
 (jf (jq (i:=2) su.nd rfl (Or.inl rfl) (kO (xn 2) je)))))
 (jf (jo (xn 1)))))),λas hp=>?_⟩)
 obtain⟨c,rfl,c0,c1⟩:=hp;refine⟨⟨tJ,rfl⟩,λn en=>⟨tJ,λa ea=>?_⟩⟩;have en:n=2+c:=en;refine⟨λZ=>∃n a,∃k:Nat,Z=[.fr (.int c),.fr (.int n),.fr (.int a)]/\(2<=n/\n<=9973)/\(2<=a/\a<=10000)/\(∀d,2<=d->d<a->¬n % d=0)/\n<=(k:Int)/\YT k n=pgF c,λZ=>(xN Z 1).toNat*20000+(20000-xN Z 2).toNat,⟨n,a,9973,rfl,⟨by lia,by lia⟩,⟨by lia,by lia⟩,λd d1 d2=>by lia,by lia,by rw[en];rfl⟩,?_⟩;rintro Z ⟨n,a,k,rfl,⟨n1,n2⟩,⟨a1,a2⟩,nd,nk,ek⟩;have small:∀x:Int,0<=x->x<=10000->x.natAbs<2^14:=λx h1 h2=>by lia
 refine⟨⟨⟨rfl,rfl,pP (small a (by lia) (by lia)) (small a (by lia) (by lia))⟩,rfl⟩,λq=>?_,λq=>?_⟩
 ·have q:a*a<=n:=q;have a3:a<=100:=by refine cQ λz=>?_;have:=uU (d:=101) (e:=a) (by lia) (by lia);lia
  have n4:4<=n:=by have:=uU (d:=2) (e:=a) (by lia) (by lia);lia
  refine⟨λZ=>∃n' a',Z=[.fr (.int c),.fr (.int n'),.fr (.int a')]/\((n'=n/\a'=a/\¬n % a=0)\/(n'=n-1/\a'=1/\n % a=0)),⟨⟨⟨rfl,rfl,by show 0<a;lia⟩,tJ⟩,λz=>?_,λz=>⟨n,a,rfl,.inl ⟨rfl,rfl,z⟩⟩⟩,?_⟩
  ·exact⟨⟨rfl,tJ⟩,λm em=>⟨tJ,λb eb=>⟨m,b,rfl,.inr ⟨em,eb,z⟩⟩⟩⟩
  ·rintro Z' ⟨n',a',rfl,h⟩;refine⟨⟨rfl,tJ⟩,λb eb=>?_⟩;have eb:b=a' + 1:=eb;have gm:∀x y:Int,(xN [Sl.fr (.int c),.fr (.int x),.fr (.int y)] 1).toNat*20000+(20000-xN [Sl.fr (.int c),.fr (.int x),.fr (.int y)] 2).toNat=x.toNat*20000+(20000-y).toNat:=λ_ _=>rfl;rcases h with⟨rfl,rfl,z⟩|⟨rfl,rfl,z⟩
   ·refine⟨⟨n',b,k,rfl,⟨n1,n2⟩,⟨by lia,by lia⟩,λd d1 d2=>?_,nk,ek⟩,?_⟩
    ·by_cases e:d=a'
     ·rw[e];exact z
     ·exact nd d d1 (by lia)
    ·show n'.toNat*20000+(20000-b).toNat<n'.toNat*20000+(20000-a').toNat;lia
   ·obtain⟨k,rfl⟩:∃j,k=j+1:=⟨k-1,by lia⟩;refine⟨⟨n-1,b,k,rfl,⟨by lia,by lia⟩,⟨by lia,by lia⟩,λd d1 d2=>by lia,by lia,?_⟩,?_⟩
    ·rw[<- ek];exact(ae λip=>ip.2.2 a a1 q z).symm
    ·show(n-1).toNat*20000+(20000-b).toNat<n.toNat*20000+(20000-a).toNat;lia
 ·have q:¬a*a<=n:=q;refine⟨rfl,?_⟩;show PV.int n=PV.int (pgF c);have ip:jG n:=⟨n1,n2,λd d1 d2=>nd d d1 (Int.not_le.mp λz=>q (Int.le_trans (uU (by lia) z) d2))⟩;rw[<- ek,Hc ip]
open Pl in
theorem Ub (hp:jG p)(fb:Fo p b)(hb:b≠[]):mk p b=con p (jk b)*mk p (rD p b):=by
 have p2:2<=p:=hp.1;have g:=wI hp fb.form fb.red hb;have one:pl p 1=1:=by rw[kh (by lia)];exact bx (by decide) (by lia)
 have e0:yr p b=pl p (1*tu (jk b) p):=ae hb;obtain⟨h1,_⟩:=hov p2 g 1 (yr p b) one (by rw[e0];rfl);have h2:p ∣ yr p b*jk b-1:=by
  have:=ni p (yr p b*jk b);rw[h1]at this;have e:yr p b*jk b-1 = -(1-yr p b*jk b):=by lia
  rw[e];exact bu.mpr this
 rw[q8];refine lz.mpr λn=>?_;rw[jQ];unfold rD;rw[j9,mV (λm=>yr p b*m) (aU _)];have h3:=aO (a:=p) (b:=jk b) (ni p (yr p b*b.getD n 0));have h4:=bh (c:=b.getD n 0) h2;have e:b.getD n 0-jk b*pl p (yr p b*b.getD n 0) = -((yr p b*jk b-1)*b.getD n 0) + -(jk b*(pl p (yr p b*b.getD n 0)-yr p b*b.getD n 0)):=by rw[fS,cw,cj,cf (yr p b) (jk b),bM];lia
 rw[e];exact bE (bu.mpr h4) (bu.mpr h3)
open Pl in
theorem Fz (x y:Pl p):Tz p (ji (ls x) (ls y))=ls (x*y):=by rw[<- pY,<- kj,jF,jF]
def ZG (p most:Int)(made:List Int)(c:Int):List Int:=if (made.length:Int)+((Gq p c).length:Int)<=most+2 then Tz p (ji made (Gq p c)) else made
def prodF (p most:Int)(cells:List Int):List Int:=cells.foldl (ZG p most) [1]
open Pl in
theorem Jh (hp:jG p)(hm:0<=most)(cells:Li):∃x:Pl p,Mo x/\prodF p most cells=ls x/\((ls x).length:Int)<=most+1:=by
 have p2:2<=p:=hp.1;have go:∀(cells:List Int) (made:List Int),(∃x:Pl p,Mo x/\made=ls x/\((ls x).length:Int)<=most+1)->∃x:Pl p,Mo x/\cells.foldl (ZG p most) made=ls x/\((ls x).length:Int)<=most+1:=λcells=>by
  induction cells with
  |nil=>exact λ_ h=>h
  |cons c cells ih=>
   rintro made ⟨x,mx,rfl,lx⟩;refine ih _ ?_;unfold ZG;have pc:=R8 p2 c;have ey:ls (mk p (Gq p c))=Gq p c:=tM pc.fo;have my:Mo (mk p (Gq p c)):=by show jk (ls (mk p (Gq p c)))=1;rw[ey];exact pc.one
   by_cases q:((ls x).length:Int)+((Gq p c).length:Int)<=most+2
   ·rw[af q];have e:=Mo.len p2 mx my;rw[ey]at e;refine⟨x*mk p (Gq p c),Mo.mul p2 mx my,?_,by lia⟩;rw[<- ey,Fz,jF]
   ·rw[ae q];exact⟨x,mx,rfl,lx⟩
 refine go cells [1] ⟨1,Mo.one p2,(uh p2).symm,?_⟩;rw[uh p2];show(1:Int)<=most+1;lia
open Pl in
theorem JG (T:Top K mg cNO cK cR):Ok P w K mg base 4 "_law_product" ["_law_cells","_law_prime_here","_law_most"] (Vo K (pQ cR) (λas=>∃cells p most,as=[.ints cells,.int p,.int most]/\jG p/\0<=most/\most<=100) λas=>match as with
  |[.ints cells,.int p,.int most]=>prodF p most cells
  |_=>[]):=by
 refine xf T.Pj qx (λas ⟨a,b,c,h,_⟩=>by rw[h];rfl) (λf cdv A outer s H E hr=>⟨_,(jd (jr (i:=3) qx.nd rfl (Or.inl rfl) (jW (lQ (jc je jh))))
 (jd (Bj (k:=4) aE rfl (xl 0) qx.nd rfl (Or.inl rfl)
 (jd (jr (i:=5) qx.nd rfl (Or.inl rfl) (jW (vy (Tt T) hr (jc (xn 4) (jc (xn 1) jh)))))
 (jf (j7 (Xq (kO (jK 3 T.jD) (jK 5 T.jD)) (kO (xn 2) je))
 (jf (jr (i:=3) qx.nd rfl (Or.inl rfl) (jW (vy (oW T) hr (jc (xl 3) (jc (xl 5) (jc (xn 1) jh)))))))
 jO))))
 (jf (jo (xl 3))))),λas hp=>?_⟩)
 obtain⟨cells,p,most,rfl,hp,m0,m1⟩:=hp;have p2:2<=p:=hp.1;refine⟨⟨⟨tJ,tJ⟩,tJ⟩,λl0 el0=>?_⟩;refine jz (Z':=[.fr (.ints cells),.fr (.int p),.fr (.int most),.fr (.ints l0),.un,.un]) rfl ?_;subst el0;refine⟨rfl,λi Z=>∃v4 v5,Z=[.fr (.ints cells),.fr (.int p),.fr (.int most),.fr (.ints (prodF p most (cells.take i))),v4,v5],⟨.un,.un,rfl⟩,?_,?_⟩
 ·rintro i c Z hc ⟨v4,v5,rfl⟩;have hc:cells[i]?=some c:=hc;obtain⟨x,mx,ex,lx⟩:=Jh hp m0 (cells.take i);have nx:prodF p most (cells.take (i+1))=ZG p most (prodF p most (cells.take i)) c:=by unfold prodF;rw[m7 hc,List.foldl_append];rfl
  rw[ex]at nx ⊢;have pc:=R8 p2 c;refine⟨⟨⟨rfl,rfl,tJ⟩,c,p,rfl,hp⟩,λpe epe=>?_⟩;replace epe:pe=Gq p c:=epe;refine jz (Z':=[.fr (.ints cells),.fr (.int p),.fr (.int most),.fr (.ints (ls x)),.fr (.int c),.fr (.ints pe)]) rfl ?_;subst epe;have l4:=pc.l4;refine⟨⟨⟨.inl rfl,.inl rfl⟩,rfl,tJ⟩,λq=>?_,λq=>?_⟩
  ·have q:((ls x).length:Int)+((Gq p c).length:Int)<=most+2:=q;refine⟨⟨⟨rfl,rfl,rfl,tJ⟩,ls x,Gq p c,p,rfl,by lia,by lia,(jL x).bd hp,pc.fo.bd hp⟩,λr er=>⟨.fr (.int c),.fr (.ints (Gq p c)),?_⟩⟩;rw[nx,er];unfold ZG;rw[af q];rfl
  ·have q:¬((ls x).length:Int)+((Gq p c).length:Int)<=most+2:=q;refine⟨.fr (.int c),.fr (.ints (Gq p c)),?_⟩;rw[nx];unfold ZG;rw[ae q]
 ·rintro Z ⟨v4,v5,rfl⟩;refine⟨rfl,?_⟩;show PV.ints (prodF p most (cells.take cells.length))=PV.ints (prodF p most cells);rw[cr]
namespace Pl
variable {p:Int}
structure yH (L:List (Pl p×Nat)):Prop where
 irr:∀q∈L,w6 q.1/\(ls q.1).length<=31/\q.2≠0
 ne:L.Pairwise λa b=>a.1≠b.1
theorem yH.perm {L M:List (Pl p×Nat)}(h:yH L)(e:L.Perm M):yH M:=⟨λq hq=>h.irr q (e.mem_iff.mpr hq),(e.pairwise_iff (λh=>ck h)).mp h.ne⟩
theorem VG {g:Nat->Nat}{L M:List (Pl p×Nat)}(h:L.Perm M):Pr L g=Pr M g:=by
 induction h with
 |nil=>rfl
 |cons x _ ih=>rw[jN,jN,ih]
 |swap x y l=>rw[jN,jN,jN,jN];generalize Pr l g=z;generalize x.1^g x.2=a;generalize y.1^g y.2=b;grind
 |trans _ _ a b=>exact a.trans b
def LtP (a b:Pl p×Nat):Prop:=mX (ls a.1) (ls b.1)=true
end Pl
open Pl in
theorem Lg (hp:jG p)(mx:Mo x)(a0:0<a)(a1:a<p):ls (con p a*x)≠[]/\jk (ls (con p a*x))=a/\(ls (con p a*x)).length=(ls x).length/\rD p (ls (con p a*x))=ls x:=by
 have p2:2<=p:=hp.1;have nd:¬p ∣ a:=λz=>by have:=eZ a0 z;lia
 have get:∀n,(ls (con p a*x)).getD n 0=pl p (a*(ls x).getD n 0):=λn=>by
  have e:con p a*x=mk p (zb a (ls x)):=by have:=q8 (p:=p) a (ls x);rw[jF]at this;exact this
  rw[e,pY,j9,jQ]
 have pos:=mx.pos;have top:(ls (con p a*x)).getD ((ls x).length-1) 0=a:=by have l1:(ls x).getD ((ls x).length-1) 0=1:=mx;rw[get,l1,bO,kh (by lia)];exact bx (by lia) a1
 have le:(ls (con p a*x)).length<=(ls x).length:=mR (jL _).form λn hn=>by rw[get,jj (xs:=ls x) hn,aU,lH]
 have ge:(ls x).length<=(ls (con p a*x)).length:=dB λh=>by rw[jj (xs:=ls (con p a*x)) (by lia)]at top;lia
 have el:(ls (con p a*x)).length=(ls x).length:=by lia
 have ne:ls (con p a*x)≠[]:=eI.mp (by lia);have la:jk (ls (con p a*x))=a:=by show(ls (con p a*x)).getD ((ls (con p a*x)).length-1) 0=a;rw[el];exact top
 refine⟨ne,la,el,?_⟩;have nl:=Ub hp (jL (con p a*x)) ne;rw[jF,la]at nl;obtain⟨t,ht⟩:=lJ hp nd;have ci:=wO ht;have e:x=mk p (rD p (ls (con p a*x))):=by have:=congrArg (λy=>con p t*y) nl;rw[<- mul_assoc,<- mul_assoc,ci,one_mul,one_mul]at this;exact this
 have G:=zH hp (jL (con p a*x)).form (jL (con p a*x)).red;have eN:ls (mk p (rD p (ls (con p a*x))))=rD p (ls (con p a*x)):=tM ⟨G.form,G.red⟩;rw[<- eN,<- e]
open Pl in
theorem Jo (hp:jG p)(ne:Tz p f≠[])(nl:(rD p (Tz p f)).length<=31):∃A:List (Pl p×Nat),yH A/\A.Pairwise LtP/\Ai p f=.tup [.int (jk (Tz p f)),.lst (A.map qP)]/\ls (Pr A id)=rD p (Tz p f)/\A.length+1<=(rD p (Tz p f)).length:=by
 obtain⟨L,F⟩:=Lz hp ne nl;have pp:=Iu hp F nl;obtain⟨so1,so2⟩:=uB F.nd;obtain⟨A,pa,ea⟩:=wZ so1 rfl;have IL:yH L:=⟨λq hq=>⟨(F.irr q hq).1,(F.irr q hq).2.1,(F.irr q hq).2.2.1⟩,F.ne⟩;refine⟨A,IL.perm pa.symm,?_,?_,?_,?_⟩
 ·rw[<- ea,cA]at so2;exact so2
 ·unfold Ai;rw[Kl F.nd pp,ea]
 ·rw[VG pa];exact F.eN
 ·rw[pa.length_eq];exact F.len hp
section
variable {p:Int}
open Pl
theorem Kg:∀(A B:List (Pl p×Nat)),Pr (A++B) g=Pr A g*Pr B g
 |[],B=>(one_mul _).symm
 |q::A,B=>by show q.1^g q.2*Pr (A++B) g=q.1^g q.2*Pr A g*Pr B g;rw[Kg A B,mul_assoc]
theorem Fe (A:List (Pl p×Nat))(h:A[i]?=some r):Pr (A.take (i+1)) id=Pr (A.take i) id*r.1^r.2:=by rw[m7 h,Kg];show _*(r.1^r.2*1)=_;rw[mul_comm (r.1^r.2) 1,one_mul]
theorem Mp (A:List (Pl p×Nat))(h:A[i]?=some r):PL ((A.take (i+1)).map Prod.fst)=PL ((A.take i).map Prod.fst)*r.1:=by rw[m7 h,bF,Ju];show _*(r.1*1)=_;rw[mul_comm r.1 1,one_mul]
theorem El (p2:2<=p){A:List (Pl p×Nat)}(F:yH A)(i:Nat):Mo (Pr (A.take i) id):=Mo.pr p2 λq hq=>(F.irr q (iw hq)).1.mo
theorem Zg (p2:2<=p){A:List (Pl p×Nat)}(F:yH A)(i:Nat):Mo (PL ((A.take i).map Prod.fst)):=Dr p2 λq hq=>by obtain⟨r,hr,rfl⟩:=aP.mp hq;exact(F.irr r (iw hr)).1.mo
theorem Ra (p2:2<=p){A:List (Pl p×Nat)}(F:yH A)(i:Nat):(ls (Pr (A.take i) id)).length<=(ls (Pr A id)).length:=by
 have e:Pr A id=Pr (A.take i) id*Pr (A.drop i) id:=by rw[<- Kg,List.take_append_drop]
 have md:Mo (Pr (A.drop i) id):=Mo.pr p2 λq hq=>(F.irr q (io hq)).1.mo;have l:=Mo.len p2 (El p2 F i) md;rw[<- e]at l;have:=md.pos;lia
theorem Qk (p2:2<=p){A:List (Pl p×Nat)}(F:yH A){i j:Nat}{r:Pl p×Nat}(h:A[i]?=some r)(hj:j<=r.2):(ls (Pr (A.take i) id*r.1^j)).length<=(ls (Pr A id)).length/\(ls r.1).length<=(ls (Pr A id)).length/\r.2+1<=(ls (Pr A id)).length:=by
 obtain⟨I,_,z⟩:=F.irr r (aW h);have le:=Ra p2 F (i+1);rw[Fe A h]at le;have m:=El p2 F i;have l1:=Mo.len p2 m (Mo.pow p2 I.mo j);have l2:=Mo.len p2 m (Mo.pow p2 I.mo r.2);rw[Mo.sV p2 I.mo]at l1 l2;have d:=I.deg;have mp:=m.pos;obtain⟨e,he⟩:∃e,(ls r.1).length=e+2:=⟨(ls r.1).length-2,by lia⟩;rw[he]at l1 l2 ⊢;have k1:j*(e+2-1)<=r.2*(e+2-1):=cX _ hj;have k2:1*(e+2-1)<=r.2*(e+2-1):=cX _ (by lia);have k3:r.2*1<=r.2*(e+2-1):=fW _ (by lia);generalize r.2*(e+2-1)=u at *
 generalize j*(e+2-1)=w at *
 refine⟨?_,?_,?_⟩<;>lia
theorem ye (p2:2<=p){A:List (Pl p×Nat)}(F:yH A):∀{i:Nat},i<=A.length->(ls (PL ((A.take i).map Prod.fst))).length<=(ls (Pr (A.take i) id)).length
 |0,_=>ao _
 |i+1,h=>by
  have e:=ac (show i<A.length by lia);have ih:=ye p2 F (i:=i) (by lia);obtain⟨I,_,z⟩:=F.irr _ (bD (show i<A.length by lia));rw[Mp A e,Fe A e];have l1:=Mo.len p2 (Zg p2 F i) I.mo;have l2:=Mo.len p2 (El p2 F i) (Mo.pow p2 I.mo A[i].2);rw[Mo.sV p2 I.mo]at l2;have d:=I.deg;have k2:1*((ls A[i].1).length-1)<=A[i].2*((ls A[i].1).length-1):=cX _ (by lia);generalize A[i].2*((ls A[i].1).length-1)=u at *
  lia
theorem EY {A:List (Pl p×Nat)}(F:yH A):vV (A.map Prod.fst):=⟨λq hq=>by
 obtain⟨r,hr,rfl⟩:=aP.mp hq;exact(F.irr r hr).1,λq hq=>by
 obtain⟨r,hr,rfl⟩:=aP.mp hq;have:=(F.irr r hr).2.1;lia,by
 show((A.map Prod.fst).Pairwise (· ≠ ·));rw[cA];exact F.ne⟩
theorem Vp (p2:2<=p)(a0:0<a)(a1:a<p):ls (con p a*(1:Pl p))=[a]:=by
 rw[mul_comm,one_mul];refine tM ⟨λ_=>by show a≠0;lia,λn=>?_⟩
 match n with
 |0=>show pl p a=a;rw[kh (by lia)];exact bx (by lia) a1
 |n+1=>exact lH p
theorem OD (a:Int)(x q:Pl p)(j:Nat):Tz p (ji (ls (con p a*(x*q^j))) (ls q))=ls (con p a*(x*q^(j+1))):=by rw[Fz];congr 1;have e:q^(j+1)=q^j*q:=rfl;rw[e];generalize q^j=y;generalize con p a=z;grind
theorem Oj (hp:jG p){A:List (Pl p×Nat)}(F:yH A)(so:A.Pairwise LtP)(ne:A≠[])(e:Tz p g=ls (PL (A.map Prod.fst)))(gl:g.length<=200)(hl:(Tz p g).length<=40):jT kJ ((mZ p g).map PV.ints)=A.map λr=>PV.ints (ls r.1):=by
 have pe:=uI hp (EY F) (λz=>ne (eK.mp z)) e gl hl;refine w5 ?_ ?_
 ·have:=(pe.map PV.ints).symm;rw[br,br]at this;exact this
 ·rw[cA];exact so
theorem Vn (p2:2<=p)(f:Li)(m:Nat):Tz p (f.mapIdx (λk n=>n+p*((k:Int) % 5-2))++List.replicate m p)=Tz p f:=by
 refine nH (jX p _) (jX p f) λn=>?_;rw[j9,j9];have key:p ∣ (f.mapIdx (λk n=>n+p*((k:Int) % 5-2))++List.replicate m p).getD n 0-f.getD n 0:=by
  rw[gQ,gQ,List.getElem?_append];by_cases h:n<f.length
  ·rw[af (by rw[bV];exact h),b9,ac h];show p ∣ f[n]+p*((n:Int) % 5-2)-f[n];exact⟨(n:Int) % 5-2,by lia⟩
  ·rw[ae (by rw[bV];exact h),bG (l:=f) (by lia),bX];split
   ·exact⟨1,by show p-0=p*1;lia⟩
   ·exact⟨0,by show(0:Int)-0=p*0;lia⟩
 rw[kh (by lia),kh (by lia)];obtain⟨t,ht⟩:=key;have e:(f.mapIdx (λk n=>n+p*((k:Int) % 5-2))++List.replicate m p).getD n 0=f.getD n 0+p*t:=by lia
 rw[e,Int.add_mul_emod_self_left]
end
def abf:R2:=λx y H Q=>∃a b ns ms,x=.ref a/\y=.ref b/\Rd H a (.lst (ns.map V.int))/\Rd H b (.lst (ms.map V.int))/\ns.length=ms.length/\Q (.bl (decide (nu ns ms=true))) H
theorem Vq (hu:X.A.units+64<cLine):OpR X (compareOp .Lt) abf:=by intro pins s σ H x y v u Q I rx ry h;obtain⟨a,b,ns,ms,rfl,rfl,ha,hb,hl,q⟩:=h;cases rx;cases ry;obtain⟨_,its,n,r,_,e⟩:=L3.Inv.Bw I ha;obtain⟨_,its2,n2,r2,_,e2⟩:=L3.Inv.Bw I hb;have l1:=(nQ r).length;have l2:=(nQ r2).length;rw[du]at q;exact Lb ⟨_,e,rfl,_,rfl⟩ ⟨_,e2,rfl,_,rfl⟩ (nQ r) (nQ r2) (by lia) (by lia) ⟨.bl _,H,I,rfl,q⟩
theorem XH {G:Gx}{Ca Cb:En->Prop}{gl hl:En->List Int}(hu:X.A.units+64<cLine)(ha:PE X a (HN X.K G Ca λZ=>.ints (gl Z)))(hb:PE X b (HN X.K G Cb λZ=>.ints (hl Z))):PT X (.Compare a [.Lt] [b] pos) (uR X.K G (λZ=>Ca Z/\Cb Z/\(gl Z).length=(hl Z).length) λZ=>nu (gl Z) (hl Z)=true):=
 λpins s σ H Q I ⟨_,_,_,R,c,q⟩=>pt_cmpR (Vq hu) ha hb (nomark _) pins s σ H Q I (Rj R c.1 c.2.1 λl m _ H2 s1 s2 r1 r2=>⟨l,m,_,_,rfl,rfl,r1,r2,c.2.2,_,rfl,q H2 (s1.trans s2)⟩)
def shP (p:Int)(q:PV):Prop:=∃(x:List Int) (c:Int),q=.tup [.ints x,.int c]/\(2<=x.length/\x.length<=13/\jk x=1)/\(∀m∈x,0<=m/\m<p)/\1<=c/\c<=12
theorem Ko (h:mX a b=true):¬b.length<a.length/\(a.length=b.length->nu a b=true):=by
 unfold mX at h;by_cases e:(a.length:Int)=(b.length:Int)
 ·rw[af e]at h;refine⟨by lia,λ_=>?_⟩;by_cases z:a=b
  ·rw[af z]at h;cases h
  ·rw[ae z]at h;exact h
 ·rw[ae e]at h;have:=bI h;exact⟨by lia,λz=>absurd (by rw[z]) e⟩
theorem DY {i:Nat}(h:ps[i]?=some q):lq (.lst ps) (i:Int)=q:=by
 have e:lB ps.length (i:Int)=i:=by unfold lB;rw[af (by lia)];exact aC i
 show ps.getD (lB ps.length (i:Int)) .non=q;rw[e,gQ,h];rfl
theorem Jm (T:Top K mg cNO cK cR):Ok P w K mg base 1 "_law_ordered" ["_law_found"] (Py K (pQ cR) (λas=>∃p ps,as=[.lst ps]/\ps.length<=1000/\(∀q∈ps,shP p q)/\ps.Pairwise λa b=>mX (Ph a) (Ph b)=true) λ_=>true):=by
 refine xf T.NZ sU (λas ⟨_,_,h,_⟩=>by rw[h];rfl) (λf cdv A outer s H E hr=>⟨_,(jd (pK (k:=1) aE rfl (by rfl) T.oH (nZ (lG T.jD (xv 0)) je) sU.nd rfl (Or.inl rfl)
 (jd (jr (i:=2) sU.nd rfl (Or.inl rfl) (xl_of (jt (jt (xv 0) (xn 1) (λ_ _=>rfl)) je (λ_ _=>rfl))))
 (jd (jr (i:=3) sU.nd rfl (Or.inl rfl) (xl_of (jt (jt (xv 0) (kO (xn 1) je) (λ_ _=>rfl)) je (λ_ _=>rfl))))
 (jf (j7 (L2.PW.pt (oN (rQ (jK 2 T.jD) (jK 3 T.jD)) (qD (L2.PW.pt (xu (sY (jK 2 T.jD) (jK 3 T.jD)) (uT (nj (XH hr.units (vR (xl 2)) (vR (xl 3))))))))))
 (jf (jo pL))
 jO)))))
 (jf (jo pL))),λas hp=>?_⟩)
 obtain⟨p,ps,rfl,pl,sh,so⟩:=hp;refine⟨⟨⟨rfl,tJ⟩,tJ⟩,⟨?_,?_⟩,λi Z=>∃v1 v2 v3,Z=[.fr (.lst ps),v1,v2,v3],⟨.un,.un,.un,rfl⟩,?_,?_⟩
 ·show -(2:Int)^62<=((ps.length:Nat):Int)-1;lia
 ·show((ps.length:Nat):Int)-1<(2:Int)^62;lia
 ·rintro i Z hi ⟨v1,v2,v3,rfl⟩;have hi:i<(((ps.length:Nat):Int)-1).toNat:=hi;have e1:=ac (show i<ps.length by lia);have e2:=ac (show i+1<ps.length by lia);obtain⟨x,c,ex,lx,_⟩:=sh _ (bD (show i<ps.length by lia));obtain⟨y,d,ey,ly,_⟩:=sh _ (bD (show i+1<ps.length by lia));have lt:=cO.mp so i (i+1) (by lia) (by lia) (by lia);rw[ex,ey]at lt;have lt:mX x y=true:=lt;have h0:∀a b:PV,lM (.tup [a,b]) 0:=λa b=>⟨by show -(2:Int)<=0;decide,by show(0:Int)<2;decide⟩;have i1:lq (.lst ps) (i:Int)=.tup [.ints x,.int c]:=by rw[<- ex];exact DY e1
  have i2:lq (.lst ps) ((i:Int)+1)=.tup [.ints y,.int d]:=by rw[<- ey];exact DY e2
  have b1:lM (.lst ps) (i:Int):=⟨by show -((ps.length:Nat):Int)<=(i:Int);lia,by show(i:Int)<((ps.length:Nat):Int);lia⟩;have b2:lM (.lst ps) ((i:Int)+1):=⟨by show -((ps.length:Nat):Int)<=(i:Int)+1;lia,by show(i:Int)+1<((ps.length:Nat):Int);lia⟩;refine⟨⟨⟨⟨rfl,rfl,b1⟩,tJ,?_⟩,?_⟩,λone eone=>⟨⟨⟨⟨rfl,⟨rfl,tJ⟩,b2⟩,tJ,?_⟩,?_⟩,λoth eoth=>?_⟩⟩
  ·show lM (lq (.lst ps) (i:Int)) 0;rw[i1];exact h0 _ _
  ·show lq (lq (.lst ps) (i:Int)) 0=.ints (jZ (lq (lq (.lst ps) (i:Int)) 0));rw[i1];rfl
  ·show lM (lq (.lst ps) ((i:Int)+1)) 0;rw[i2];exact h0 _ _
  ·show lq (lq (.lst ps) ((i:Int)+1)) 0=.ints (jZ (lq (lq (.lst ps) ((i:Int)+1)) 0));rw[i2];rfl
  replace eone:one=x:=by have eone:one=jZ (lq (lq (.lst ps) (i:Int)) 0):=eone;rw[eone,i1];rfl
  replace eoth:oth=y:=by have eoth:oth=jZ (lq (lq (.lst ps) ((i:Int)+1)) 0):=eoth;rw[eoth,i2];rfl
  subst eone;subst eoth;obtain⟨n1,n2⟩:=Ko lt;refine jz (Z':=[.fr (.lst ps),.fr (.int (i:Int)),.fr (.ints one),.fr (.ints oth)]) rfl ?_;refine⟨⟨⟨.inl rfl,.inl rfl⟩,λ_=>⟨⟨.inl rfl,.inl rfl⟩,λz=>⟨rfl,rfl,?_⟩⟩⟩,λq=>?_,λ_=>⟨_,_,_,rfl⟩⟩
  ·replace z:(one.length:Int)=(oth.length:Int):=z;show one.length=oth.length;lia
  ·exfalso;replace q:(oth.length:Int)<(one.length:Int)\/((one.length:Int)=(oth.length:Int)/\¬nu one oth=true):=q;rcases q with q|⟨q1,q2⟩
   ·lia
   ·exact q2 (n2 (by lia))
 ·rintro Z ⟨v1,v2,v3,rfl⟩;exact⟨tJ,rfl⟩
theorem N7 (T:Top K mg cNO cK cR):Ok P w K mg base 2 "_law_shaped" ["_law_found","_law_prime_here"] (Py K (pQ cR) (λas=>∃p ps,as=[.lst ps,.int p]/\ps.length<=1000/\(∀q∈ps,shP p q)/\ps.Pairwise λa b=>mX (Ph a) (Ph b)=true) λ_=>true):=by
 refine xf T.S6 xP (λas ⟨_,_,h,_⟩=>by rw[h];rfl) (λf cdv A outer s H E hr=>⟨_,(jd (j7 (nj (xH (oA T.lF (xv 0) (qW (by rfl) T.xY wD))))
 (jf (jo pL))
 jO)
 (jd (wB (k:=2) aE rfl (nJ (xv 0)) xP.nd rfl (Or.inl rfl)
 (jd (j7 (L2.PW.pt (oN (nj (xH (oA T.lF (xv 2) (qW (by rfl) T.Nr Hm)))) (oN (vo (lG T.jD (xv 2)) je) (qD (nj (xH (oA T.lF (xl_of (jt (xv 2) je (λ_ _=>rfl))) (qW (by rfl) T.xY wD))))))))
 (jf (jo pL))
 jO)
 (jd (j7 (L2.PW.pt (oN (Hu (lG T.jD (xl_of (jt (xv 2) je (λ_ _=>rfl)))) je) (oN (rQ (lG T.jD (xl_of (jt (xv 2) je (λ_ _=>rfl)))) je) (oN (vo (rO (jt (xl_of (jt (xv 2) je (λ_ _=>rfl))) (sS je) (λ_ _=>rfl))) je) (qD (nj (xH (xcb (wH T) hr (jc (rO (jt (xv 2) je (λ_ _=>rfl))) jh)))))))))
 (jf (jo pL))
 jO)
 (jd (Bj (k:=3) aE rfl (xl_of (jt (xv 2) je (λ_ _=>rfl))) xP.nd rfl (Or.inl rfl)
 (jf (j7 (L2.PW.pt (oN (nj (xH (xcb (wH T) hr (jc (xn 3) jh)))) (oN (Hu (xn 3) je) (qD (Xn (xn 3) (xn 1))))))
 (jf (jo pL))
 jO)))
 (jf (j7 (L2.PW.pt (oN (Hu (rO (jt (xv 2) je (λ_ _=>rfl))) je) (qD (rQ (rO (jt (xv 2) je (λ_ _=>rfl))) je))))
 (jf (jo pL))
 jO))))))
 (jf (jo (xcb (Jm T) hr (jc (xv 0) jh)))))),λas hp=>?_⟩)
 obtain⟨p,ps,rfl,pl,sh,so⟩:=hp;have i1:∀xs,oO K (.tup xs) (.ty "tuple")=true:=λxs=>oR rfl rfl T.pD;have i2:∀xs,oO K (.lst xs) (.ty "list")=true:=λxs=>oR rfl rfl T.lU;have i3:∀xs,oO K (.ints xs) (.ty "list")=true:=λxs=>oR rfl rfl T.lU;have h0:∀a b:PV,lM (.tup [a,b]) 0:=λa b=>⟨by show -(2:Int)<=0;decide,by show(0:Int)<2;decide⟩;have h1:∀a b:PV,lM (.tup [a,b]) 1:=λa b=>⟨by show -(2:Int)<=1;decide,by show(1:Int)<2;decide⟩;refine⟨⟨rfl,tJ,_,_,_,rfl,rfl,T.lU⟩,λq=>absurd (i2 ps) q,λ_=>?_⟩;refine⟨⟨rfl,rfl⟩,λi Z=>∃v2 v3,Z=[.fr (.lst ps),.fr (.int p),v2,v3],⟨.un,.un,rfl⟩,?_,?_⟩
 ·rintro i q Z hq' ⟨v2,v3,rfl⟩;obtain⟨x,c,rfl,⟨x2,x13,x1⟩,xm,c1,c12⟩:=sh q (aW hq');refine⟨⟨⟨rfl,tJ,_,_,_,rfl,rfl,T.pD⟩,λ_=>⟨⟨⟨rfl,tJ⟩,tJ⟩,λ_=>⟨⟨⟨rfl,tJ,h0 _ _⟩,rfl⟩,tJ,_,_,_,rfl,rfl,T.lU⟩⟩⟩,λq=>?_,λ_=>?_⟩
  ·exfalso;rcases q with q|q|q
   ·exact q (i1 _)
   ·exact q rfl
   ·exact q (i3 _)
  have hm:lM (.ints x) (-1):=⟨by show -((x.length:Nat):Int) <= -1;lia,by show(-1:Int)<((x.length:Nat):Int);lia⟩;refine⟨⟨⟨⟨⟨⟨rfl,tJ,h0 _ _⟩,rfl⟩,tJ⟩,tJ⟩,λ_=>⟨⟨⟨⟨⟨rfl,tJ,h0 _ _⟩,rfl⟩,tJ⟩,tJ⟩,λ_=>⟨⟨⟨⟨⟨⟨rfl,tJ,h0 _ _⟩,rfl⟩,tJ,hm⟩,rfl⟩,tJ⟩,λ_=>⟨⟨⟨⟨rfl,tJ,h1 _ _⟩,rfl⟩,tJ⟩,c,rfl⟩⟩⟩⟩,λq=>?_,λ_=>?_⟩
  ·exfalso;have q:((x.length:Nat):Int)<2\/13<((x.length:Nat):Int)\/¬x.getD (lB x.length (-1)) 0=1\/¬true=true:=q;rw[sJ x (by lia)]at q;rcases q with q|q|q|q
   ·lia
   ·lia
   ·exact q x1
   ·exact q rfl
  refine⟨⟨⟨rfl,tJ,h0 _ _⟩,rfl⟩,λj Z=>∃v3,Z=[.fr (.lst ps),.fr (.int p),.fr (.tup [.ints x,.int c]),v3],⟨_,rfl⟩,?_,?_⟩
  ·rintro j n Z hn ⟨v3,rfl⟩;obtain⟨n0,n1⟩:=xm n (aW hn);refine⟨⟨⟨⟨rfl,tJ⟩,n,rfl⟩,λ_=>⟨⟨rfl,tJ⟩,λ_=>⟨rfl,rfl⟩⟩⟩,λq=>?_,λ_=>⟨_,rfl⟩⟩;exfalso;have q:¬true=true\/n<0\/p<=n:=q;rcases q with q|q|q
   ·exact q rfl
   ·lia
   ·lia
  ·rintro Z ⟨v3,rfl⟩;refine⟨⟨⟨⟨⟨rfl,tJ,h1 _ _⟩,rfl⟩,tJ⟩,λ_=>⟨⟨⟨rfl,tJ,h1 _ _⟩,rfl⟩,tJ⟩⟩,λq=>?_,λ_=>⟨_,_,rfl⟩⟩;exfalso;have q:c<1\/12<c:=q;lia
 ·rintro Z ⟨v2,v3,rfl⟩;exact⟨⟨⟨rfl,tJ⟩,p,ps,rfl,pl,sh,so⟩,rfl⟩
set_option maxHeartbeats 3000000 in
open Pl in
theorem Y0 (T:Top K mg cNO cK cR)(F:Fun K "law" "law" De f fd):FnOk P w K mg base CX0 14 f fd ["_law_script"] (xF K):=by
 refine aab (G:=pQ cR) F kW (λcdv A outer s H E hr=>⟨_,(jd (jq (i:=1) kW.nd rfl (Or.inl rfl) (rci (WF T) hr (jP (vR (xr 0)) o8)))
 (jd (jq (i:=2) kW.nd rfl (Or.inr rfl) (rci (Bm T) hr (jP (vR (rB (xn 1) je)) o8)))
 (jd (jq (i:=3) kW.nd rfl (Or.inl rfl) (rO (jt (jW (lQ (jc je (jc je jh)))) (K9 T.Tr (Xl (lD (xn 1) je) je)) (λ_ _=>rfl))))
 (tW (j7 (sY (lD (rB (xn 1) (vP je je)) je) je)
 (jd (U9 (jt (um (uc (jc (qY (jc je (jc je jh))) (jc (qY (jc je (jc je jh))) jh)))) (K9 T.Tr (Xl (lD (rB (xn 1) (vP je je)) je) je)) (λ_ _=>rfl)) (pg_tup rfl (pgs_cons (pg_name (i:=3) kW.nd rfl (Or.inl rfl)) (pgs_cons (pg_name (i:=4) kW.nd rfl (Or.inl rfl)) pgs_nil))))
 (jf (jq (i:=2) kW.nd rfl (Or.inr rfl) (rci (Tf T) hr (jP (vR (lD (rB (xn 1) (vP je je)) (xn 4))) o8)))))
 jO)
 (jd (lR (i:=5) kW.nd rfl (Or.inl rfl) (abv (Uj T) hr gkR (xn 2)))
 (jd (jr (i:=6) kW.nd rfl (Or.inl rfl) (Zy (JG T) hr (jc (jW (qj (xr 0) (m5 je) (m5 je) (λ_ _=>.inr rfl))) (jc (xn 2) (jc (xn 3) jh)))))
 (tW (j7 (L2.PW.pt (xu (sY (lD (rB (xn 1) je) je) je) (uT (Hu (jK 6 T.jD) je))))
 (jf (jr (i:=6) kW.nd rfl (Or.inl rfl) (jW (Zz (oW T) hr (jP (vR (xl 6)) (jP (vR (xl 6)) (jP (vR (xn 2)) o8)))))))
 jO)
 (jd (jr (i:=6) kW.nd rfl (Or.inl rfl) (jW (Zz (oW T) hr (jP (vR (xl 6)) (jP (vR (jW (lQ (jc (kO je (lD (rB (xn 1) je) (nZ (xn 2) je))) jh)))) (jP (vR (xn 2)) o8))))))
 (jd (p6 (i:=7) kW.nd rfl (Or.inl rfl) (LK T.xY (xl 6) (λ_=>.inl rfl)))
 (jd (lR (i:=8) kW.nd rfl (Or.inl rfl) (rcO (S7 T) hr (xv 5) (rdO 7)))
 (jd (vB 7 je)
 (jd (j7 (L2.PW.pt (oN (nj (xH (oA T.lF (xv 8) (qW (by rfl) T.Nr Hm)))) (oN (vo (lG T.jD (xv 8)) je) (qD (nj (xH (rcb (N7 T) hr (jP (vR (jt (xv 8) je (λ_ _=>rfl))) (jP (vR (xn 2)) o8)))))))))
 (jf (jo pL))
 jO)
 (jd (jr (i:=9) kW.nd rfl (Or.inl rfl) (jW (lQ (jc (lZ 6 (sS je) (λ_ _=>rfl)) jh))))
 (jd (jr (i:=10) kW.nd rfl (Or.inl rfl) (jW (lQ (jc je jh))))
 (jd (Ba (k:=11) (j:=12) aE rfl (nJ (jt (xv 8) je (λ_ _=>rfl))) (pg_tup rfl (pgs_cons (pg_name (i:=11) kW.nd rfl (Or.inl rfl)) (pgs_cons (pg_name (i:=12) kW.nd rfl (Or.inl rfl)) pgs_nil)))
 (jd (jr (i:=10) kW.nd rfl (Or.inl rfl) (jW (Zz (oW T) hr (jP (vR (xl 10)) (jP (vR (xl 11)) (jP (vR (xn 2)) o8))))))
 (jf (pK (k:=13) aE rfl (by rfl) T.oH (xn 12) kW.nd rfl (Or.inl rfl)
 (jd (jr (i:=9) kW.nd rfl (Or.inl rfl) (jW (Zz (oW T) hr (jP (vR (xl 9)) (jP (vR (xl 11)) (jP (vR (xn 2)) o8))))))
 (jf (j7 (rQ (jK 9 T.jD) (jK 6 T.jD))
 (jf (jo pL))
 jO)))))))
 (jd (j7 (L2.PW.pt (oN (nj (xH (rcb (wH T) hr (jP (vR (rO (jt (xv 8) je (λ_ _=>rfl)))) o8)))) (oN (vo (rO (jt (xv 8) je (λ_ _=>rfl))) (lZ 6 (sS je) (λ_ _=>rfl))) (oN (Zh hr.units (vR (xl 9)) (vR (xl 6))) (qD (nj (xH (rcb (IW T) hr (jP (rdO 7) (jP (vR (jW (tZ (xl 6) (jW (lQ (jc je jh)))))) o8))))))))))
 (jf (jo pL))
 jO)
 (jd (j7 (sY (jK 10 T.jD) je)
 (jf (jo pL))
 jO)
 (jd (p6 (i:=7) kW.nd rfl (Or.inl rfl) (tZ (jW (Ti (N':=["_law_k","_law_number","_law_prime_here"]) (cap:=[some 2]) (oZ rfl rfl rfl rfl ⟨⟨rfl,.inr (.inl rfl),BV,.inl rfl,_,rfl,rfl⟩,tJ⟩ ⟨rfl,tJ⟩ rfl) rfl (by rfl) T.lK (xl 10) (λ_ _ _=>(pg_tup rfl (pgs_cons (pO 0) (pgs_cons (pO 1) pgs_nil)))) (λ_ _ _=>(kO (xn 1) (n6 (xn 2) (nZ (lD (xn 0) je) je)))))) (jW (uq (lQ (jc (xn 2) jh)) (lD (rB (xn 1) (vP je je)) je) (λ_=>rfl)))))
 (jd (lR (i:=14) kW.nd rfl (Or.inl rfl) (rcC 7 (Gv T) hr (xv 5)))
 (jd (vB 7 je)
 (jd (j7 (L2.PW.pt (oN (nj (xH (oA T.lF (xv 14) (qW (by rfl) T.xY wD)))) (qD (vo (lG T.jD (xv 14)) (lG T.jD (jt (xv 8) je (λ_ _=>rfl)))))))
 (jf (jo pL))
 jO)
 (jd (Pk (k:=15) (j:=11) aE rfl (by rfl) T.lK (nJ (xv 14)) (pg_tup rfl (pgs_cons (pg_name (i:=15) kW.nd rfl (Or.inl rfl)) (pgs_cons (pg_name (i:=11) kW.nd rfl (Or.inl rfl)) pgs_nil)))
 (jf (j7 (nj (xH (rcb (IW T) hr (jP (vR (xl 11)) (jP (vR (xl_of (jt (jt (jt (xv 8) je (λ_ _=>rfl)) (xn 15) (λ_ _=>rfl)) je (λ_ _=>rfl)))) o8)))))
 (jf (jo pL))
 jO)))
 (jf (jo pL)))))))))))))))))))))))),λns h63 hbits=>?_⟩)
 refine⟨⟨⟨rfl,tJ⟩,ns,rfl⟩,λhd ehd=>?_⟩;have hd0:0<=hd:=by rw[ehd];exact Ss _
 have dv:∀k:Int,0<k->k<=10000000000000->Tp hd k:=λk k0 k1=>⟨k0,(iG (by lia)).mpr (aQ (show k.natAbs<=2^44 by lia) (bj (by decide) (by decide)))⟩;refine⟨⟨⟨⟨rfl,tJ,dv 32 (by decide) (by decide)⟩,tJ⟩,_,rfl⟩,λp1 ep1=>?_⟩;have hp1:jG p1:=by rw[ep1];exact W7 _
 clear ep1;have fit:∀(a b:Int) (c:Prop) [Decidable c],lM (.ints [a,b]) (if c then 1 else 0)/\(CJ (lq (.ints [a,b]) (if c then 1 else 0))=a\/CJ (lq (.ints [a,b]) (if c then 1 else 0))=b):=λa b c _=>by
  by_cases h:c
  ·rw[af h];exact⟨⟨by show -(2:Int)<=1;decide,by show(1:Int)<2;decide⟩,.inr rfl⟩
  ·rw[ae h];exact⟨⟨by show -(2:Int)<=0;decide,by show(0:Int)<2;decide⟩,.inl rfl⟩
 obtain⟨ft,fv⟩:=fit 6 12 (hd % 8=5);refine⟨⟨⟨⟨⟨tJ,tJ,tJ⟩,tJ⟩,⟨⟨rfl,tJ,by show(0:Int)<8;decide⟩,tJ⟩,ft⟩,rfl⟩,λm1 em1=>?_⟩;have m3:0<=m1/\m1<=12:=by have em1:m1=CJ (lq (.ints [6,12]) (if hd % 8=5 then 1 else 0)):=em1;rcases fv with z|z<;>rw[em1,z]<;>decide
 clear em1 ft fv fit;refine jz (Z':=[.fr (.scr ns),.fr (.int hd),.fr (.int p1),.fr (.int m1),.un,.un,.un,.un,.un,.un,.un,.un,.un,.un,.un,.un]) rfl ?_;have c12:CPow (10:Int) 12:=⟨by decide,by decide,by decide⟩;have c13:CPow (10:Int) 13:=⟨by decide,by decide,by decide⟩;refine⟨λZ=>∃p mo v4,Z=[.fr (.scr ns),.fr (.int hd),.fr (.int p),.fr (.int mo),v4,.un,.un,.un,.un,.un,.un,.un,.un,.un,.un,.un]/\jG p/\0<=mo/\mo<=12,⟨⟨⟨⟨rfl,⟨tJ,tJ,c12⟩,dv (10^12) (by decide) (by decide)⟩,tJ,by show(0:Int)<6;decide⟩,tJ⟩,λ_=>?_,λ_=>⟨p1,m1,.un,rfl,hp1,m3.1,m3.2⟩⟩,?_⟩
 ·have tw:∃i:Int,i=(if hd / 10^12 % 48=7 then 1 else 0)/\(i=0\/i=1):=by
   by_cases h:hd / 10^12 % 48=7
   ·exact⟨1,by rw[af h],.inr rfl⟩
   ·exact⟨0,by rw[ae h],.inl rfl⟩
  obtain⟨i,ei,hi⟩:=tw;have main:∃u v:Int,lq (.lst [.tup [.int 5,.int 996],.tup [.int 4,.int 9972]]) i=.tup [.int u,.int v]/\0<=u/\u<=12/\0<v/\v<=9972:=by
   rcases hi with rfl|rfl
   ·exact⟨5,996,rfl,by decide,by decide,by decide,by decide⟩
   ·exact⟨4,9972,rfl,by decide,by decide,by decide,by decide⟩
  obtain⟨u,v,e,u0,u1,v0,v1⟩:=main;have hit:lM (.lst [.tup [.int 5,.int 996],.tup [.int 4,.int 9972]]) i:=by
   rcases hi with rfl|rfl
   ·exact⟨by show -(2:Int)<=0;decide,by show(0:Int)<2;decide⟩
   ·exact⟨by show -(2:Int)<=1;decide,by show(1:Int)<2;decide⟩
  refine⟨⟨⟨⟨tJ,tJ,tJ⟩,⟨tJ,tJ,tJ⟩,tJ⟩,⟨⟨⟨rfl,⟨tJ,tJ,c12⟩,dv (10^12) (by decide) (by decide)⟩,tJ,by show(0:Int)<48;decide⟩,tJ⟩,?_⟩,.int u,.int v,?_,?_⟩
  ·show lM (.lst [.tup [.int 5,.int 996],.tup [.int 4,.int 9972]]) (if hd / 10^12 % 48=7 then 1 else 0);rw[<- ei];exact hit
  ·show lq (.lst [.tup [.int 5,.int 996],.tup [.int 4,.int 9972]]) (if hd / 10^12 % 48=7 then 1 else 0)=_;rw[<- ei];exact e
  ·have w0:=a9 (hd / 10^13) (show v≠0 by lia);have w1:=aX (hd / 10^13) v0;refine⟨⟨⟨⟨⟨rfl,⟨tJ,tJ,c13⟩,dv (10^13) (by decide) (by decide)⟩,rfl,v0⟩,tJ⟩,hd / 10^13 % v,rfl,w0,by lia⟩,λp ep=>⟨p,u,.fr (.int v),rfl,?_,u0,u1⟩⟩;replace ep:p=pgF (hd / 10^13 % v):=ep;rw[ep];exact K6 _ _ (by lia) (by lia) (by lia)
 clear hp1 m3 m1 p1 c12 c13;rintro Z ⟨p,mo,v4,rfl,hp,mo0,mo1⟩;have p2:2<=p:=hp.1;have p9:p<=9973:=hp.2.1;refine⟨⟨rfl,hp⟩,λkd ekd=>?_⟩;replace ekd:kd=.ob 0 p:=ekd;subst ekd;refine jz (Z':=[.fr (.scr ns),.fr (.int hd),.fr (.int p),.fr (.int mo),v4,.fr (.ob 0 p),.un,.un,.un,.un,.un,.un,.un,.un,.un,.un]) rfl ?_;obtain⟨x0,mx0,ex0,lx0⟩:=Jh hp mo0 (qI ns (some 1) (some 63));refine⟨⟨⟨⟨rfl,tJ,tJ⟩,rfl,rfl,tJ⟩,_,p,mo,rfl,hp,by lia,by lia⟩,λf0 ef0=>?_⟩;replace ef0:f0=ls x0:=by have ef0:f0=prodF p mo (qI ns (some 1) (some 63)):=ef0;rw[ef0,ex0]
 refine jz (Z':=[.fr (.scr ns),.fr (.int hd),.fr (.int p),.fr (.int mo),v4,.fr (.ob 0 p),.fr (.ints f0),.un,.un,.un,.un,.un,.un,.un,.un,.un]) rfl ?_;refine⟨λZ=>∃x:Pl p,Z=[.fr (.scr ns),.fr (.int hd),.fr (.int p),.fr (.int mo),v4,.fr (.ob 0 p),.fr (.ints (ls x)),.un,.un,.un,.un,.un,.un,.un,.un,.un]/\Mo x/\(ls x).length<=13,⟨⟨⟨⟨⟨rfl,tJ,dv 8 (by decide) (by decide)⟩,tJ,by show(0:Int)<4;decide⟩,tJ⟩,λ_=>⟨.inl rfl,tJ⟩⟩,λq=>?_,λ_=>⟨x0,by rw[ef0],mx0,by lia⟩⟩,?_⟩
 ·have q:_/\((f0.length:Nat):Int)<8:=q;have q:=q.2;have l2:=Mo.len p2 mx0 mx0;rw[ef0]at q;refine⟨⟨⟨rfl,rfl,rfl,tJ⟩,f0,f0,p,rfl,by lia,by rw[ef0];lia,by rw[ef0];exact(jL _).bd hp,by rw[ef0];exact(jL _).bd hp⟩,λf1 ef1=>⟨x0*x0,?_,Mo.mul p2 mx0 mx0,by lia⟩⟩;replace ef1:f1=ls (x0*x0):=by have ef1:f1=Tz p (ji f0 f0):=ef1;rw[ef1,ef0,Fz]
  rw[ef1];rfl
 clear ef0 ex0 lx0 mx0;rintro Z ⟨x,rfl,mx,lx⟩;have LD:∃a:Int,a=1+hd / 960 % (p-1)/\0<a/\a<p/\Tz p (ji (ls x) [a])=ls (con p a*x):=by
  have h1:=a9 (hd / 960) (show p-1≠0 by lia);have h2:=aX (hd / 960) (show 0<p-1 by lia);refine⟨_,rfl,by lia,by lia,?_⟩;generalize 1+hd / 960 % (p-1)=a at *
  rw[<- pY,<- kj,jF,mul_comm];rfl
 obtain⟨a,ea,a0,a1,eo⟩:=LD;have sm:∀m∈[a],m.natAbs<2^9000:=λm hm=>by
  rw[bA.mp hm];have:a.natAbs<2^14:=by lia
  exact aD this (cJ (by decide) (by decide))
 refine⟨⟨⟨rfl,⟨⟨⟨tJ,⟨rfl,tJ,dv 960 (by decide) (by decide)⟩,⟨rfl,tJ⟩,by show(0:Int)<p-1;lia⟩,tJ⟩,tJ⟩,rfl,tJ⟩,ls x,[1+hd / 960 % (p-1)],p,rfl,by lia,by show(ls x).length+1<=1000;lia,(jL x).bd hp,by rw[<- ea];exact sm⟩,λff eff=>?_⟩;replace eff:ff=ls (con p a*x):=by have eff:ff=Tz p (ji (ls x) [1+hd / 960 % (p-1)]):=eff;rw[eff,<- ea];exact eo
 clear eo ea sm;obtain⟨o1,o2,o3,o4⟩:=Lg hp mx a0 a1;have tz:Tz p ff=ff:=by rw[eff];exact rR _
 have fbd:∀m∈ff,m.natAbs<2^9000:=by rw[eff];exact(jL _).bd hp
 rw[<- eff]at o1 o2 o3 o4;obtain⟨A,FA,SA,E1,N1,B1⟩:=Jo hp (f:=ff) (by rw[tz];exact o1) (by rw[tz,o4];lia);rw[tz]at E1 N1 B1;rw[o4]at N1 B1;rw[o2]at E1;have eA:Pr A id=x:=Mo.inj N1;have fl:ff.length<=13:=by lia
 refine jz (Z':=[.fr (.scr ns),.fr (.int hd),.fr (.int p),.fr (.int mo),v4,.fr (.ob 0 p),.fr (.ints ff),.un,.un,.un,.un,.un,.un,.un,.un,.un]) rfl ?_;refine⟨rfl,λh0 eh0=>?_⟩;replace eh0:h0=ff:=eh0;subst eh0;refine jz (Z':=[.fr (.scr ns),.fr (.int hd),.fr (.int p),.fr (.int mo),v4,.fr (.ob 0 p),.fr (.ints h0),.ow (.ints h0),.un,.un,.un,.un,.un,.un,.un,.un]) rfl ?_;refine⟨⟨rfl,rfl,p,h0,rfl,hp,by lia,by rw[tz,o4];lia,by rw[tz];exact o1⟩,λfo efo=>?_⟩;replace efo:fo=Ai p h0:=efo;rw[E1]at efo;refine jz (Z':=[.fr (.scr ns),.fr (.int hd),.fr (.int p),.fr (.int mo),v4,.fr (.ob 0 p),.fr (.ints h0),.ow (.ints h0),.fr fo,.un,.un,.un,.un,.un,.un,.un]) rfl ?_;subst efo;refine⟨rfl,tJ,small1000 (by show h0.length<=1000;lia),?_⟩;refine jz (Z':=[.fr (.scr ns),.fr (.int hd),.fr (.int p),.fr (.int mo),v4,.fr (.ob 0 p),.fr (.ints h0),.ow (.ints (h0++[1])),.fr (.tup [.int a,.lst (A.map qP)]),.un,.un,.un,.un,.un,.un,.un]) rfl ?_;have i1:oO K (.tup [.int a,.lst (A.map qP)]) (.ty "tuple")=true:=oR rfl rfl T.pD;have it0:∀a b:PV,lM (.tup [a,b]) 0:=λa b=>⟨by show -(2:Int)<=0;decide,by show(0:Int)<2;decide⟩;have it1:∀a b:PV,lM (.tup [a,b]) 1:=λa b=>⟨by show -(2:Int)<=1;decide,by show(1:Int)<2;decide⟩;have Al:(A.map qP).length<=1000:=by rw[aa];lia
 have shA:∀q∈A.map qP,shP p q:=λq hq=>by obtain⟨r,hr,rfl⟩:=aP.mp hq;obtain⟨i,hi,ei⟩:=iI hr;obtain⟨I,_,z⟩:=FA.irr r hr;obtain⟨_,l2,l3⟩:=Qk p2 FA (j:=0) (aj.mpr ⟨hi,ei⟩) (be _);rw[eA]at l2 l3;refine⟨ls r.1,(r.2:Int),rfl,⟨I.deg,by lia,I.mo⟩,λm hm=>?_,by lia,by lia⟩;obtain⟨n,_,e⟩:=FM.mem_getD hm;have rd:=(jL r.1).red n;rw[e,kh (by lia)]at rd;rw[<- rd];exact⟨a9 m (by lia),aX m (by lia)⟩
 have soA:(A.map qP).Pairwise λa b=>mX (Ph a) (Ph b)=true:=by rw[cA];exact SA
 refine⟨⟨⟨rfl,tJ,_,_,_,rfl,rfl,T.pD⟩,λ_=>⟨⟨⟨rfl,tJ⟩,tJ⟩,λ_=>⟨⟨⟨rfl,tJ,it1 _ _⟩,rfl,tJ⟩,p,A.map qP,rfl,Al,shA,soA⟩⟩⟩,λq=>?_,λ_=>?_⟩
 ·exfalso;have q:¬oO K (.tup [.int a,.lst (A.map qP)]) (.ty "tuple")=true\/¬(2:Int)=2\/¬true=true:=q;rcases q with q|q|q
  ·exact q i1
  ·exact q rfl
  ·exact q rfl
 clear i1 soA;have hpos:=lP o1;refine⟨⟨⟨⟨.inl rfl,tJ,by show -((h0.length:Nat):Int) <= -1;lia,by show(-1:Int)<((h0.length:Nat):Int);lia⟩,tJ⟩,tJ⟩,λmd emd=>⟨⟨⟨tJ,tJ⟩,tJ⟩,λfr efr=>?_⟩⟩;replace emd:md=ls (con p a*Pr (A.take 0) id):=by have emd:md=[h0.getD (lB h0.length (-1)) 0]:=emd;rw[emd,sJ _ hpos,o2];exact(Vp p2 a0 a1).symm
 replace efr:fr=ls (PL ((A.take 0).map Prod.fst)):=by have efr:fr=[1]:=efr;rw[efr];exact(uh p2).symm
 refine jz (Z':=[.fr (.scr ns),.fr (.int hd),.fr (.int p),.fr (.int mo),v4,.fr (.ob 0 p),.fr (.ints h0),.ow (.ints (h0++[1])),.fr (.tup [.int a,.lst (A.map qP)]),.fr (.ints md),.fr (.ints fr),.un,.un,.un,.un,.un]) rfl ?_;subst emd;subst efr;have hle:∀{y:Pl p},Mo y->(ls (con p a*y)).length=(ls y).length:=λmy=>(Lg hp my a0 a1).2.2.1;refine⟨⟨⟨⟨rfl,tJ,it1 _ _⟩,rfl⟩,λq hq=>?_⟩,λi Z=>∃v11 v12 v13,Z=[.fr (.scr ns),.fr (.int hd),.fr (.int p),.fr (.int mo),v4,.fr (.ob 0 p),.fr (.ints h0),.ow (.ints (h0++[1])),.fr (.tup [.int a,.lst (A.map qP)]),.fr (.ints (ls (con p a*Pr (A.take i) id))),.fr (.ints (ls (PL ((A.take i).map Prod.fst)))),v11,v12,v13,.un,.un],⟨.un,.un,.un,rfl⟩,?_,?_⟩
 ·have hq:q∈A.map qP:=hq;obtain⟨r,_,rfl⟩:=aP.mp hq;exact rfl
 ·rintro i q Z hq ⟨v11,v12,v13,rfl⟩;have hq:(A.map qP)[i]?=some q:=hq;rw[aw]at hq;obtain⟨r,hr,rfl⟩:∃r,A[i]?=some r/\qP r=q:=by
   cases e:A[i]? with
   |none=>rw[e]at hq;cases hq
   |some r=>rw[e]at hq;exact⟨r,rfl,aB hq⟩
  have il:i<A.length:=(aj.mp hr).1;obtain⟨I,_,rz⟩:=FA.irr r (aW hr);have fin:∀j,j<=r.2->(ls (Pr (A.take i) id*r.1^j)).length<=h0.length/\(ls r.1).length<=h0.length/\r.2+1<=h0.length:=λj hj=>by have:=Qk p2 FA hr hj;rw[eA]at this;rw[o3];exact this
  obtain⟨_,rl,rc⟩:=fin 0 (be _);have pll:(ls (PL ((A.take i).map Prod.fst))).length<=13:=by have u1:=ye p2 FA (i:=i) (by lia);have u2:=Ra p2 FA i;rw[eA]at u2;lia
  refine⟨⟨⟨rfl,rfl,rfl,tJ⟩,ls (PL ((A.take i).map Prod.fst)),ls r.1,p,rfl,by lia,by lia,(jL _).bd hp,(jL _).bd hp⟩,λfr2 efr2=>?_⟩;replace efr2:fr2=ls (PL ((A.take (i+1)).map Prod.fst)):=by have efr2:fr2=Tz p (ji (ls (PL ((A.take i).map Prod.fst))) (ls r.1)):=efr2;rw[efr2,Fz,Mp A hr]
  refine jz (Z':=[.fr (.scr ns),.fr (.int hd),.fr (.int p),.fr (.int mo),v4,.fr (.ob 0 p),.fr (.ints h0),.ow (.ints (h0++[1])),.fr (.tup [.int a,.lst (A.map qP)]),.fr (.ints (ls (con p a*Pr (A.take i) id))),.fr (.ints fr2),.fr (.ints (ls r.1)),.fr (.int (r.2:Int)),v13,.un,.un]) rfl ?_;refine⟨rfl,⟨by show -(2:Int)^62<=(r.2:Int);lia,by show(r.2:Int)<(2:Int)^62;lia⟩,λj Z=>∃v13,Z=[.fr (.scr ns),.fr (.int hd),.fr (.int p),.fr (.int mo),v4,.fr (.ob 0 p),.fr (.ints h0),.ow (.ints (h0++[1])),.fr (.tup [.int a,.lst (A.map qP)]),.fr (.ints (ls (con p a*(Pr (A.take i) id*r.1^j)))),.fr (.ints fr2),.fr (.ints (ls r.1)),.fr (.int (r.2:Int)),v13,.un,.un],⟨v13,?_⟩,?_,?_⟩
  ·have e:Pr (A.take i) id*r.1^0=Pr (A.take i) id:=by show Pr (A.take i) id*1=_;rw[mul_comm,one_mul]
   rw[e]
  ·rintro j Z hj ⟨v13,rfl⟩;have hj:j<((r.2:Nat):Int).toNat:=hj;rw[aC]at hj;have mj:∀j,Mo (Pr (A.take i) id*r.1^j):=λj=>Mo.mul p2 (El p2 FA i) (Mo.pow p2 I.mo j);have k1:=(fin j (by lia)).1;have k2:=(fin (j+1) (by lia)).1;refine⟨⟨⟨rfl,rfl,rfl,tJ⟩,ls (con p a*(Pr (A.take i) id*r.1^j)),ls r.1,p,rfl,by lia,by rw[hle (mj j)];lia,(jL _).bd hp,(jL _).bd hp⟩,λmd2 emd2=>?_⟩;replace emd2:md2=ls (con p a*(Pr (A.take i) id*r.1^(j+1))):=by have emd2:md2=Tz p (ji (ls (con p a*(Pr (A.take i) id*r.1^j))) (ls r.1)):=emd2;rw[emd2,OD]
   refine⟨⟨.inl rfl,.inl rfl⟩,λq=>?_,λ_=>⟨.fr (.int (j:Int)),by rw[emd2];rfl⟩⟩;exfalso;have q:((h0.length:Nat):Int)<((md2.length:Nat):Int):=q;rw[emd2,hle (mj (j+1))]at q;lia
  ·rintro Z ⟨v13,rfl⟩;refine⟨.fr (.ints (ls r.1)),.fr (.int (r.2:Int)),v13,?_⟩;rw[Fe A hr,<- efr2];rfl
 rintro Z ⟨v11,v12,v13,rfl⟩;have eT:A.take (A.map qP).length=A:=by rw[aa,cr]
 refine jz (Z':=[.fr (.scr ns),.fr (.int hd),.fr (.int p),.fr (.int mo),v4,.fr (.ob 0 p),.fr (.ints h0),.ow (.ints (h0++[1])),.fr (.tup [.int a,.lst (A.map qP)]),.fr (.ints h0),.fr (.ints (ls (PL (A.map Prod.fst)))),v11,v12,v13,.un,.un]) ?_ ?_
 ·show[Sl.fr (.scr ns),.fr (.int hd),.fr (.int p),.fr (.int mo),v4,.fr (.ob 0 p),.fr (.ints h0),.ow (.ints (h0++[1])),.fr (.tup [.int a,.lst (A.map qP)]),.fr (.ints (ls (con p a*Pr (A.take (A.map qP).length) id))),.fr (.ints (ls (PL ((A.take (A.map qP).length).map Prod.fst)))),v11,v12,v13,.un,.un]=_;rw[eT,eA,<- eff]
 clear eT;have bnd:-((h0.length:Nat):Int) <= -1/\(-1:Int)<((h0.length:Nat):Int):=by lia
 refine⟨⟨⟨⟨⟨⟨rfl,tJ,it0 _ _⟩,rfl⟩,tJ⟩,a,rfl⟩,λ_=>⟨⟨⟨⟨rfl,tJ,it0 _ _⟩,rfl⟩,.inl rfl,tJ,bnd⟩,λ_=>⟨⟨rfl,rfl⟩,λ_=>⟨⟨rfl,⟨rfl,⟨⟨tJ,tJ⟩,tJ⟩,?_⟩,tJ⟩,h0++[1],h0++[1],rfl,?_⟩⟩⟩⟩,λq=>?_,λ_=>?_⟩
 ·show h0.length+1<=sizeLine;exact bN (small1000 (by lia))
 ·rw[ai];show h0.length+1<=1000;lia
 ·exfalso;have q:¬true=true\/¬a=h0.getD (lB h0.length (-1)) 0\/¬h0=h0\/¬decide (h0++[1]=h0++[1])=true:=q;rw[sJ _ hpos,o2]at q;rcases q with q|q|q|q
  ·exact q rfl
  ·exact q rfl
  ·exact q rfl
  ·exact q (aK rfl)
 refine⟨⟨.inl rfl,tJ⟩,λ_=>⟨tJ,rfl⟩,λq=>?_⟩;have q:¬((ls (PL (A.map Prod.fst))).length:Int)=1:=q;have nA:A≠[]:=λz=>by rw[z]at q;refine q ?_;show((ls (1:Pl p)).length:Int)=1;rw[uh p2];rfl
 clear q;have u1:=ye p2 FA (i:=A.length) (ao _);rw[cr,eA]at u1;have gl:(ls (PL (A.map Prod.fst))).length<=13:=by lia
 have g0:∀n,0<=(ls (PL (A.map Prod.fst))).getD n 0/\(ls (PL (A.map Prod.fst))).getD n 0<p:=λn=>by have rd:=(jL (PL (A.map Prod.fst))).red n;rw[kh (by lia)]at rd;rw[<- rd];exact⟨a9 _ (by lia),aX _ (by lia)⟩
 have gpos:0<(ls (PL (A.map Prod.fst))).length:=((EY FA).mo p2).pos;have gz:Tz p (ls (PL (A.map Prod.fst)))=ls (PL (A.map Prod.fst)):=rR _;generalize eg:ls (PL (A.map Prod.fst))=gg at *
 have t0:=a9 (hd / 10^9) (show(3:Int)≠0 by decide);have t1:=aX (hd / 10^9) (show(0:Int)<3 by decide);have hz:=Vn p2 gg (hd / 10^9 % 3).toNat;rw[gz]at hz;refine⟨⟨⟨rfl,by show gg.length<=1000;lia,λk n hn=>⟨rfl,rfl,⟨⟨rfl,tJ,by show(0:Int)<5;decide⟩,tJ⟩,yZ ⟨by show -(2:Int)^64<p;lia,by show p<(2:Int)^64;lia⟩⟩⟩,⟨⟨⟨rfl,tJ⟩,tJ⟩,⟨⟨rfl,⟨tJ,tJ,by decide,by decide,by decide⟩,dv (10^9) (by decide) (by decide)⟩,tJ,by show(0:Int)<3;decide⟩,by show -(2:Int)^63<=hd / 10^9 % 3;lia,by show(hd / 10^9 % 3).toNat<=1000;lia⟩,?_⟩,λh2 eh2=>?_⟩
 ·show(gg.mapIdx (λk n=>n+p*((k:Int) % 5-2))).length+(List.replicate (hd / 10^9 % 3).toNat p).length<=sizeLine;rw[bV,aL];exact bN (small1000 (by lia))
 replace eh2:h2=gg.mapIdx (λk n=>n+p*((k:Int) % 5-2))++List.replicate (hd / 10^9 % 3).toNat p:=eh2;have hlen:h2.length<=100:=by rw[eh2,ai,bV,aL];lia
 have hneg:h2.getD 0 0<0:=by
  have e:h2.getD 0 0=gg.getD 0 0+p*(((0:Nat):Int) % 5-2):=by rw[eh2,gQ,aM (by rw[bV];exact gpos),b9,gQ,ac gpos];rfl
  have e2:((0:Nat):Int) % 5-2 = -2:=by decide
  rw[e,e2];have:=g0 0;lia
 rw[<- eh2]at hz;clear eh2;have hne:h2≠[]:=λz=>by rw[z]at hneg;exact absurd hneg (by decide)
 have sp:=Oj hp FA SA nA (g:=h2) (by rw[hz,eg]) (by lia) (by rw[hz];lia);have qn:∀q∈A.map (λr=>PV.ints (ls r.1)),∃g,q=.ints g/\g≠h2:=λq hq=>by obtain⟨r,hr,rfl⟩:=aP.mp hq;refine⟨ls r.1,rfl,λz=>?_⟩;have rd:=(jL r.1).red 0;rw[z,kh (by lia)]at rd;have:=a9 (h2.getD 0 0) (show p≠0 by lia);lia
 refine jz (Z':=[.fr (.scr ns),.fr (.int hd),.fr (.int p),.fr (.int mo),v4,.fr (.ob 0 p),.fr (.ints h0),.ow (.ints h2),.fr (.tup [.int a,.lst (A.map qP)]),.fr (.ints h0),.fr (.ints gg),v11,v12,v13,.un,.un]) rfl ?_;refine⟨⟨rfl,rfl,⟨p,h2,rfl,hp,by lia,by rw[hz];lia,A.map Prod.fst,EY FA,λz=>nA (eK.mp z),by rw[hz,eg]⟩,hne,A.map (λr=>PV.ints (ls r.1)),?_,qn⟩,λag eag=>?_⟩
 ·show PV.lst (jT kJ ((mZ p h2).map PV.ints))=_;rw[sp]
 replace eag:ag=.lst (A.map λr=>PV.ints (ls r.1)):=by have eag:ag=PV.lst (jT kJ ((mZ p h2).map PV.ints)):=eag;rw[eag,sp]
 refine jz (Z':=[.fr (.scr ns),.fr (.int hd),.fr (.int p),.fr (.int mo),v4,.fr (.ob 0 p),.fr (.ints h0),.ow (.ints h2),.fr (.tup [.int a,.lst (A.map qP)]),.fr (.ints h0),.fr (.ints gg),v11,v12,v13,.fr ag,.un]) rfl ?_;subst eag;refine⟨rfl,tJ,small1000 (by show h2.length<=1000;lia),?_⟩;have i2:oO K (.lst (A.map λr=>PV.ints (ls r.1))) (.ty "list")=true:=oR rfl rfl T.lU;have eL:(((A.map λr=>PV.ints (ls r.1)).length:Nat):Int)=(((A.map qP).length:Nat):Int):=by rw[aa,aa]
 refine jz (Z':=[.fr (.scr ns),.fr (.int hd),.fr (.int p),.fr (.int mo),v4,.fr (.ob 0 p),.fr (.ints h0),.ow (.ints (h2++[1])),.fr (.tup [.int a,.lst (A.map qP)]),.fr (.ints h0),.fr (.ints gg),v11,v12,v13,.fr (.lst (A.map λr=>PV.ints (ls r.1))),.un]) rfl ?_;refine⟨⟨⟨rfl,tJ,_,_,_,rfl,rfl,T.lU⟩,λ_=>⟨⟨rfl,tJ⟩,⟨rfl,tJ,it1 _ _⟩,tJ⟩⟩,λq=>?_,λ_=>?_⟩
 ·exfalso;have q:¬oO K (.lst (A.map λr=>PV.ints (ls r.1))) (.ty "list")=true\/¬(((A.map λr=>PV.ints (ls r.1)).length:Nat):Int)=(((A.map qP).length:Nat):Int):=q;rcases q with q|q
  ·exact q i2
  ·exact q eL
 refine⟨⟨rfl,rfl⟩,λi Z=>∃v11 v15,Z=[.fr (.scr ns),.fr (.int hd),.fr (.int p),.fr (.int mo),v4,.fr (.ob 0 p),.fr (.ints h0),.ow (.ints (h2++[1])),.fr (.tup [.int a,.lst (A.map qP)]),.fr (.ints h0),.fr (.ints gg),v11,v12,v13,.fr (.lst (A.map λr=>PV.ints (ls r.1))),v15],⟨v11,.un,rfl⟩,?_,?_⟩
 ·rintro i q Z hq ⟨v11,v15,rfl⟩;have hq:(A.map λr=>PV.ints (ls r.1))[i]?=some q:=hq;rw[aw]at hq;obtain⟨r,hr,rfl⟩:∃r,A[i]?=some r/\PV.ints (ls r.1)=q:=by
   cases e:A[i]? with
   |none=>rw[e]at hq;cases hq
   |some r=>rw[e]at hq;exact⟨r,rfl,aB hq⟩
  have il:i<A.length:=(aj.mp hr).1;have ei:lq (.lst (A.map qP)) (i:Int)=.tup [.ints (ls r.1),.int (r.2:Int)]:=DY (by rw[aw,hr];rfl);have bi:lM (.lst (A.map qP)) (i:Int):=⟨by show -(((A.map qP).length:Nat):Int)<=(i:Int);lia,by show(i:Int)<(((A.map qP).length:Nat):Int);rw[aa];lia⟩;have rl:=(FA.irr r (aW hr)).2.1;refine⟨⟨⟨rfl,⟨⟨⟨⟨rfl,tJ,it1 _ _⟩,rfl,bi⟩,tJ,?_⟩,?_⟩,tJ⟩,ls r.1,ls r.1,?_,by lia⟩,λq=>?_,λ_=>⟨_,_,rfl⟩⟩
  ·show lM (lq (.lst (A.map qP)) (i:Int)) 0;rw[ei];exact it0 _ _
  ·show lq (lq (.lst (A.map qP)) (i:Int)) 0=.ints (jZ (lq (lq (.lst (A.map qP)) (i:Int)) 0));rw[ei];rfl
  ·show[PV.ints (ls r.1),PV.ints (jZ (lq (lq (.lst (A.map qP)) (i:Int)) 0))]=_;rw[ei];rfl
  ·exfalso;have q:¬decide (ls r.1=jZ (lq (lq (.lst (A.map qP)) (i:Int)) 0))=true:=q;rw[ei]at q;exact q (aK rfl)
 ·rintro Z ⟨v11,v15,rfl⟩;exact⟨tJ,rfl⟩
end
end kI
theorem PySem.Challenge.cw_factorforge_k42_multiplied_in_order_holds : PySem.Challenge.rw_factorforge_k42_multiplied_in_order.Holds :=
  kI.pre fun T => kI.Y0 T
