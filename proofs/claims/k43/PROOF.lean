import PyProof.Rows.All
import Wide.All
import KE.KNestM
import KE.KUnpack
import KE.KEqDeep
import KE.KPassesOwn
import KE.RegKIsAll
import KE.RegKTryMore
import OpenK.KOwn
import KE.KItem
import KE.KNest
import KE.KLam
import KE.KSortKey
import KE.KSortTup
import KE.KRevIter
import Wide.FinOn
import Lean
import PyProof.EqAt
import PyProof.EqKinds
import PyProof.TupleCall
import PySem.Challenge.RW_factorforge_k43_whole_each_part_papered
set_option Elab.async false
set_option linter.all false
set_option maxRecDepth 100000
set_option maxHeartbeats 4000000
local macro_rules | `(tactic| omega) => `(tactic| lia)
noncomputable section
theorem k4 {a:α}:a=a\/b:=Or.inl rfl
abbrev Li:=List Int
abbrev Fg:=PySem.W.Frag
abbrev Mg:=PySem.Str->Option PySem.Value
abbrev Lv:=List PySem.Value
abbrev Ls:=List PySem.Str
def aa:=@List.length_map
def ac:=@List.getElem?_eq_getElem
def ad:=@List.mem_cons_of_mem
def ae:=@if_neg
def af:=@if_pos
def ag:=@List.length_range
def ah:=@List.mem_cons_self
def ai:=@List.length_append
def aj:=@Nat.le_refl
def ao:=@List.getElem?_eq_some_iff
def aq:=@List.getElem?_map
def aw:=@List.size_toArray
def ay:=@PySem.Heap.get?_push_of_some
def az:=@PySem.Heap.lt_size
def aA:=@Nat.le_trans
def aB:=@PySem.PassesOwn.never
def aC:=@List.length_replicate
def aD:=@Int.toNat_natCast
def aE:=@Option.some.inj
def aF:=@Nat.lt_of_lt_of_le
def aG:=@List.mem_cons
def aH:=@PySem.wpAny_bind
def aI:=@List.length_take
def aJ:=@Int.sub_zero
def aK:=@decide_eq_true
def aL:=@Int.dvd_mul_of_dvd_right
def aM:=@decide_eq_false
def aN:=@Bool.false_ne_true
def aO:=@Nat.lt_of_le_of_lt
def aP:=@List.mem_append_right
def aQ:=@Int.mul_zero
def aR:=@List.length_cons
def aS:=@Int.dvd_zero
def aT:=@List.getElem?_append_left
def aU:=@Int.dvd_add
def aV:=@Int.dvd_neg
def aW:=@List.mem_filter
def aX:=@List.mem_range
def aY:=@List.mem_map
def aZ:=@List.length_drop
def a7:=@Nat.pow_lt_pow_right
def a8:=@PySem.Heap.get?_push_size
def a9:=@Nat.zero_le
def bc:=@Int.emod_lt_of_pos
def be:=@Int.dvd_mul_of_dvd_left
def bh:=@Nat.ne_of_lt
def bi:=@List.getElem_map
def bj:=@List.getElem?_append_right
def bn:=@List.length_set
def bp:=@List.getElem_range
def br:=@Int.emod_eq_of_lt
def bu:=@List.append_nil
def bv:=@List.length_singleton
def bw:=@Int.emod_nonneg
def bx:=@List.mem_singleton
def bA:=@List.filterMap_cons
def bB:=@Int.mul_le_mul_of_nonneg_left
def bC:=@Int.add_zero
def bD:=@List.map_map
def bE:=@List.mem_of_getElem?
def bF:=@List.map_append
def bG:=@Int.mul_one
def bH:=@Int.mul_assoc
def bI:=@Nat.le_of_lt
def bJ:=@Int.zero_mul
def bK:=@List.getElem_mem
def bM:=@Int.toNat_of_nonneg
def bN:=@List.map_cons
def bO:=@List.mem_iff_getElem
def bQ:=@of_decide_eq_true
def bR:=@List.flatten_cons
def bT:=@List.getElem?_eq_none
def bU:=@Int.emod_eq_zero_of_dvd
def bV:=@List.map_congr_left
def bW:=@PySem.Heap.get?_update_other
def bX:=@Option.map_eq_some_iff
def bY:=@PySem.wpAny_pure
def bZ:=@List.getElem?_range
def b7:=@List.ext_getElem
def b8:=@Int.mul_nonpos_of_nonneg_of_nonpos
def b9:=@List.take_of_length_le
def ce:=@List.getElem_replicate
def cf:=@PyProof.Rows.callWith_type1
def cg:=@Int.mul_comm
def cj:=@Int.one_mul
def ck:=@Int.sub_self
def cq:=@List.getElem?_replicate
def cr:=@Int.mul_sub
def cu:=@List.getElem?_mapIdx
def cw:=@Ne.symm
def cA:=@PySem.W.kia_one
def cB:=@Classical.byContradiction
def cC:=@Nat.lt_succ_self
def cD:=@Int.zero_add
def cE:=@List.mem_filterMap
def cF:=@PySem.wpAny_Call_Name_kw
def cG:=@PySem.F.plainAttrs_list
def cH:=@List.filter_cons_of_pos
def cI:=@List.filter_cons_of_neg
def cJ:=@Nat.not_lt_zero
def cL:=@List.pairwise_cons
def cM:=@List.length_mapIdx
def cN:=@List.getElem?_drop
def cO:=@List.length_nil
def cQ:=@List.mem_append_left
def cS:=@Nat.pow_le_pow_right
def cT:=@Nat.le_of_not_lt
def cU:=@List.take_length
def cV:=@List.append_assoc
def cX:=@List.flatMap_cons
def cY:=@List.mem_append
def cZ:=@List.nodup_cons
def c6:=@List.length_filter_le
def c7:=@Option.isSome_iff_exists
def c8:=@Nat.lt_of_not_le
def c9:=@Nat.lt_irrefl
def da:=@Nat.mul_comm
def de:=@Array.length_toList
def df:=@List.of_mem_zip
def dh:=@PySem.mem_of_lookup
def di:=@List.replicate_succ
def dj:=@Int.dvd_sub
def dm:=@List.all_eq_true
def dq:=@List.zip_cons_cons
def dt:=@PySem.sizeLine_eq
def du:=@Nat.pow_pos
def dw:=@List.pairwise_iff_getElem
def dz:=@PySem.wpAny_passesOwn
def dA:=@List.getElem?_take_of_lt
def dB:=@List.length_zip
def dC:=@List.pairwise_map
def dD:=@PySem.W.mg_of
def dE:=@List.length_eq_zero_iff
def dF:=@PyProof.Rows.subscriptTail_builtinR
def dG:=@List.drop_eq_nil_of_le
def dH:=@PySem.W.callWith_K
def dI:=@List.dropLast_concat_getLast
def dJ:=@Int.sub_add_cancel
def dM:=@List.map_nil
def dO:=@Option.map_some
def dP:=@Nat.ne_of_gt
def dQ:=@PySem.Heap.get?_update_self
def dR:=@Nat.add_comm
def dS:=@Nat.min_eq_left
def dU:=@Int.natAbs_dvd_natAbs
def dW:=@PySem.wpAny_truthy_bool
def dX:=@List.getElem?_set
def dY:=@List.ext_getElem?
def dZ:=@List.Pairwise.map
def d6:=@List.getD_eq_getElem?_getD
def d7:=@PySem.Calls.Name_function_global
def d8:=@Array.getElem?_eq_some_iff
def d9:=@Bool.and_eq_true_iff
def eC:=@List.getElem?_set_ne
def eE:=@PySem.wpAny_loadName_local
def eG:=@List.length_dropLast
def eH:=@Int.emod_emod_of_dvd
def eI:=@Int.emod_eq_emod_iff_emod_sub_eq_zero
def eJ:=@List.mem_of_find?_eq_some
def eK:=@List.mapIdx_eq_zipIdx_map
def eM:=@List.drop_eq_getElem_cons
def eO:=@Bool.and_eq_true
def eQ:=@Option.getD_some
def eR:=@List.length_pos_iff
def eS:=@Int.add_mul
def eU:=@PySem.Heap.SameBut.update
def eV:=@List.length_zipWith
def eW:=@List.flatten_append
def eY:=@List.flatMap_append
def eZ:=@Nat.pow_succ
def e8:=@PyProof.Rows.callWith_kw
def fe:=@Nat.succ_pos
def fg:=@Bool.eq_iff_iff
def fh:=@PySem.Obj.data_mapFields
def fj:=@Nat.lt_or_gt_of_ne
def fk:=@Int.neg_one_mul
def fq:=@Nat.add_sub_cancel
def ft:=@Int.natCast_mul
def fv:=@Int.natCast_dvd_natCast
def fw:=@Int.le_of_dvd
def fA:=@List.getElem?_set_self
def fE:=@Int.mul_add
def fG:=@List.filter_congr
def fH:=@Nat.mul_le_mul
def fI:=@PySem.Obj.isFreed_of_fields
def fJ:=@Int.dvd_refl
def fM:=@Int.mul_emod
def fN:=@Nat.le_of_ble_eq_true
def fO:=@PySem.F.slot_list_pop
def fP:=@PySem.F.type_list_pop
def fQ:=@Classical.choose_spec
def fR:=@Int.mul_ediv_add_emod
def fS:=@Nat.min_eq_right
def fU:=@List.flatMap_nil
def fV:=@PySem.wpAny_newFunctionEnv
def fW:=@List.map_eq_cons_iff
def fX:=@Nat.mul_le_mul_right
def fY:=@PySem.wpAny_holding
def fZ:=@PySem.wpAny_mono
def f6:=@PySem.wpAny_execs_nil
def f7:=@PySem.W.plainGet_of
def f8:=@Bool.decide_eq_true
def f9:=@List.filter_nil
def gf:=@Int.sub_mul
def gq:=@Int.dvd_sub_self_of_emod_eq
def gr:=@Int.fdiv_eq_ediv_of_nonneg
def gu:=@PySem.F.excBase_ValueError
def gv:=@Array.perm_iff_toList_perm
def gw:=@PySem.codeAny_mono
def gz:=@PySem.wpAny_Constant_int
def gA:=@Nat.succ_mul
def gB:=@Int.add_comm
def gC:=@Nat.sub_zero
def gD:=@List.filter_append
def gE:=@decide_eq_true_iff
def gF:=@Nat.mul_div_cancel
def gG:=@List.getElem?_eq_none_iff
def gH:=@Int.natAbs_mul
def gJ:=@List.getElem_append_right
def gK:=@decide_not
def gL:=@List.take_add_one
def gM:=@PySem.F.slot_list_append
def gN:=@PySem.F.type_list_append
def gO:=@List.map_dropLast
def gP:=@List.getElem_append_left
def gR:=@Int.mul_left_comm
def gS:=@Classical.not_not
def gT:=@Classical.not_imp
def gU:=@List.nodup_append
def gV:=@List.Pairwise.imp_of_mem
def gW:=@List.length_filterMap_le
def gX:=@Nat.mul_assoc
def gY:=@List.map_drop
def gZ:=@PySem.F.slot_list_index
def g5:=@PyProof.Rows.listUpdate_at
def g6:=@List.getLast_eq_getElem
def g7:=@Int.dvd_of_emod_eq_zero
def g8:=@Nat.dvd_div_iff_mul_dvd
def g9:=@Classical.axiomOfChoice
def hJ:=@Nat.add_sub_cancel_left
def hO:=@PySem.wpAny_eqBool_int
def hU:=@List.getElem_zip
def hV:=@List.nodup_range
def hW:=@Int.gcd_one_left
def hZ:=@List.map_zipWith
def ia:=@PySem.W.cellsFrom_some
def ib:=@List.not_of_lt_findIdx
def ie:=@List.pairwise_lt_range
def ig:=@List.find?_some
def ii:=@PySem.W.methodCall_KW
def ij:=@PySem.seqIndex_neg
def ik:=@Bool.beq_eq_decide_eq
def im:=@Nat.zero_add
def io:=@List.getElem?_toArray
def iq:=@Nat.le_antisymm
def iu:=@List.filter_map
def iw:=@PySem.W.ke_canLayAll0
def iz:=@List.range_succ
def iA:=@Int.pow_succ
def iB:=@Nat.min_self
def iC:=@PySem.wpAny_Name
def iD:=@PySem.wpAny_call
def iE:=@PySem.call_meets
def iF:=@List.getElem?_zipIdx
def iG:=@List.getElem_toArray
def iH:=@PySem.W.kla_callFunE
def iI:=@PySem.W.kla_codeExpr
def iJ:=@List.mem_of_mem_drop
def iK:=@Classical.not_forall
def iM:=@List.getElem_zipWith
def iN:=@List.drop_zero
def iO:=@Int.mul_nonneg
def iQ:=@List.take_zero
def iR:=@PySem.W.codeHd_of_K
def iT:=@Nat.le_succ
def iU:=@PySem.seqIndex_of
def iV:=@Nat.log2_lt
def iW:=@List.reverse_append
def iX:=@Int.mul_neg
def iY:=@Array.toList_append
def iZ:=@Int.neg_mul
def i5:=@Int.pow_one
def i6:=@Nat.mul_le_mul_left
def i7:=@Nat.pow_le_pow_left
def i8:=@List.getElem_mapIdx
def i9:=@List.filter_eq_self
def ja:=@List.map_take
def jb:=@Int.zero_emod
def jc:=@Eq.trans
def jd:=@beq_iff_eq
def je:=@dif_pos
def jf:=@Nat.le_of_eq
def jg:=@List.map_set
def jh:=@Int.emod_def
def ji:=@Int.le_of_lt
def jj:=@Nat.mul_succ
def jk:=@Nat.zero_div
def jm:=@Int.pow_zero
def jn:=@Nat.pow_add
def jo:=@List.map_id
local macro_rules | `(tactic| walk_at "v") => `(tactic| first|exact Or.inl rfl|exact Or.inr k4|exact Or.inr (Or.inr rfl))
local macro_rules | `(tactic| walk_at "w") => `(tactic| first|exact .inl rfl|exact .inr rfl|assumption)
def tJ:True:=True.intro
def gQ {A:Type _}{l:List A}{i:Nat}{a:A}:l.getD i a=l[i]?.getD a:=d6 ..
def lP {A:Type _}{l:List A}(h:l≠[]):0<l.length:=eR.mpr h
section
open PySem PySem.W PyProof.Rows
abbrev k8:=PySem.Challenge.rw_factorforge_k43_whole_each_part_papered.row.toRowW
namespace lz
def top (i:Nat):Stmt:=PySem.Challenge.pw_factorforge_k43_whole_each_part_papered.main.body.getD i (.Pass ⟨0,0,0,0⟩)
end lz
def lz.view:PySem.Program:={ k8.prog with main:={ k8.prog.main with body:=[lz.top 0,lz.top 2,lz.top 3,lz.top 4,lz.top 5,lz.top 6,lz.top 8,lz.top 9,lz.top 10,lz.top 11,lz.top 12,lz.top 13,lz.top 14,lz.top 15,lz.top 16,lz.top 18,lz.top 19,lz.top 20,lz.top 21,lz.top 22,lz.top 24,lz.top 25,lz.top 26,lz.top 27,lz.top 29,lz.top 30,lz.top 32,lz.top 33,lz.top 34,lz.top 35,lz.top 36,lz.top 37,lz.top 38,lz.top 39,lz.top 40,lz.top 41,lz.top 43,lz.top 44,lz.top 45,lz.top 46,lz.top 47,lz.top 48,lz.top 49,lz.top 51,lz.top 52,lz.top 54,lz.top 55,lz.top 56,lz.top 57,lz.top 58,lz.top 59,lz.top 61,lz.top 62,lz.top 63,lz.top 64,lz.top 65,lz.top 66,lz.top 67,lz.top 68,lz.top 69,lz.top 70,lz.top 71,lz.top 72,lz.top 73,lz.top 74,lz.top 75,lz.top 76,lz.top 77,lz.top 78,lz.top 79,lz.top 80,lz.top 81,lz.top 82] } }
def X.trT (c:String->Option Builtin)(p:Program)(w:World)(a:Nat)(b:Option Value):Nat->SharedT->Thread->Option SharedT
 |0,_,_=>none
 |n+1,s,t=>match through t with
  |true=>some s
  |false=>match stepOk a b t with
   |false=>none
   |true=>match stepT (denote c) p w s t with
    |some (s',t')=>X.trT c p w a b n s' t'
    |none=>none
def X.Vb {d:String->Option Builtin}{p:Program}{w:World}{a:Nat}{b:Option Value}:∀{n:Nat} {s s':SharedT} {t:Thread},X.trT d p w a b n s t=some s' -> topRun d p w a b n s.abs t=some s'.abs
 |0,_,_,_,h=>by cases h
 |n+1,s,s',t,h=>by
  unfold X.trT at h;unfold topRun;cases f:through t with
  |true=>rw[f]at h;cases h;rfl
  |false=>
   rw[f]at h;cases e:stepOk a b t with
   |false=>rw[e]at h;cases h
   |true=>
    rw[e]at h;cases c:stepT (denote d) p w s t with
    |none=>rw[c]at h;cases h
    |some r=>obtain⟨g,i⟩:=r;rw[c]at h;rw[stepT_spec c];exact X.Vb h
def X.toT (s:Shared):SharedT:=⟨(s.heap.objs.toList.foldl (λ(x:BT×Nat) o=>(x.1.ins x.2 o,x.2+1)) (BT.nil,0)).1,s.heap.objs.size,s.heap.life,s.gens,s.drawn,s.toks,s.os⟩
def X.RT (t:String->Option Builtin)(p:Program)(w:World)(N:Nat):Option (Shared×SharedT):=(fencedOpening t p w N).bind λs=>(X.trT t p w s.heap.objs.size (s.heap.nsMap mainGlobals "__annotations__") N (X.toT s) (topStub p)).map λa=>(s,a)
def X.chk (p:Program)(s a:Shared):Bool:=(s.heap.isNs mainGlobals && s.gens.size == 0) && (staticsOk (importedModules p.main.body) s.heap a.heap && namesBound p a.heap && gensDone a && laidKept s.heap a.heap)
def X.HW {p:Program}{w:World}{N:Nat}{A:Type}{f:Shared->A}{a:A}(h0:(fencedOpening treeTable p w N).map (λs=>(X.toT s).tree.list s.heap.objs.size)=(fencedOpening treeTable p w N).map (λs=>s.heap.objs.toList))
  (h1:(X.RT treeTable p w N).map (λx=>(X.chk p x.1 x.2.abs,f x.2.abs))=some (true,a)):(openEnds treeTable p w N).map f=some a:=by
 unfold X.RT at h1;unfold openEnds;cases e:fencedOpening treeTable p w N with
 |none=>rw[e]at h1;cases h1
 |some b=>
  rw[e]at h0 h1;have u:(X.toT b).tree.list b.heap.objs.size=b.heap.objs.toList:=aE h0;have q:(X.toT b).abs=b:=by obtain⟨⟨o,l⟩,i,g,t,k⟩:=b;show(⟨⟨((X.toT ⟨⟨o,l⟩,i,g,t,k⟩).tree.list o.size).toArray,l⟩,i,g,t,k⟩:Shared)=_;rw[u]
  have h1:((X.trT treeTable p w b.heap.objs.size (b.heap.nsMap mainGlobals "__annotations__") N (X.toT b) (topStub p)).map λh=>(b,h)).map (λx=>(X.chk p x.1 x.2.abs,f x.2.abs))=some (true,a):=h1;cases j:X.trT treeTable p w b.heap.objs.size (b.heap.nsMap mainGlobals "__annotations__") N (X.toT b) (topStub p) with
  |none=>rw[j]at h1;cases h1
  |some h=>
   rw[j]at h1;have h1:=aE h1;have c:=congrArg Prod.fst h1;have d:=congrArg Prod.snd h1;have c:X.chk p b h.abs=true:=c;have d:f h.abs=a:=d;have r:=X.Vb j;rw[q]at r;obtain⟨m,n⟩:=d9.mp c;show(topFrom treeTable p w N b).map f=some a;unfold topFrom;rw[m,r];show(match staticsOk (importedModules p.main.body) b.heap h.abs.heap && namesBound p h.abs.heap && gensDone h.abs && laidKept b.heap h.abs.heap with|true=>some h.abs|false=>none).map f=some a
   rw[n];exact congrArg some d
def X.both {S A B:Type}{o:Option S}{c:S->Bool}{f:S->A}{y:S->B}{g:A}{a:B}(h1:o.map (λx=>(c x,f x))=some (true,g))(h2:o.map y=some a):o.map (λx=>(c x,(f x,y x)))=some (true,(g,a)):=by
 cases o with
 |none=>cases h2
 |some s=>have e:=aE h1;have b:=aE h2;have d:c s=true:=congrArg Prod.fst e;have h:f s=g:=congrArg Prod.snd e;show some (c s,(f s,y s))=_;rw[d,h,b]
def X.two {S A B:Type}{o:Option S}{f:S->A×B}{g:A×B}{c:S->Bool}(h1:o.map (λx=>(c x,(f x).1))=some (true,g.1))(h2:o.map (λx=>(f x).2)=some g.2):o.map (λx=>(c x,f x))=some (true,g):=by
 cases o with
 |none=>cases h2
 |some s=>have e:=aE h1;have a:=aE h2;have b:c s=true:=congrArg Prod.fst e;have d:(f s).1=g.1:=congrArg Prod.snd e;show some (c s,((f s).1,(f s).2))=some (true,(g.1,g.2));rw[b,d];exact congrArg (λz=>some (true,(g.1,z))) a
abbrev lz.Qd (s:Shared):=openSeen lz.view [] (importedModules k8.prog.main.body) (λs=>xlAt lz.view [] s && recOk (RowW.records k8) s) true s
theorem lz.h0:∀w,(fencedOpening treeTable k8.prog w 20000).map (λs=>(X.toT s).tree.list s.heap.objs.size)=(fencedOpening treeTable k8.prog w 20000).map (λs=>s.heap.objs.toList):=by intro w;kernel_rfl
theorem lz.h1:∀w,(X.RT treeTable k8.prog w 20000).map (λx=>(X.chk k8.prog x.1 x.2.abs,(lz.Qd x.2.abs).1))=some (true,(openGood lz.view []).1):=by intro w;kernel_rfl
theorem lz.h2:∀w,(X.RT treeTable k8.prog w 20000).map (λx=>(lz.Qd x.2.abs).2)=some (openGood lz.view []).2:=by intro w;kernel_rfl
theorem lz.fin {A:Type}{y:Shared->A}{a:A}(w:World)(h:(X.RT treeTable k8.prog w 20000).map (λx=>y x.2.abs)=some a):(openEnds treeTable k8.prog w 20000).map (λs=>(lz.Qd s,y s))=some (openGood lz.view [],a):=
 X.HW (f:=λs=>(lz.Qd s,y s)) (lz.h0 w) (X.both (X.two (lz.h1 w) (lz.h2 w)) h)
end
namespace L2
open PySem PySem.Spec PyProof.Rows
abbrev Key:=Sum Int Str
def keyIs:Key->Value->Bool
 | .inl k,v=>Value.isInt k v
 | .inr x,v=>Value.isStrOf x v
def keyH (w:World):Key->Int
 | .inl k=>hashInt k
 | .inr x=>hashStr w x
def keyIs_shape:∀{k:Key} {v:Value},keyIs k v=true->(∃i t,k=Sum.inl i/\v=Value.int i t)\/(∃x t,k=Sum.inr x/\v=Value.str x t)
 | .inl i,v,h=>by obtain⟨t,e⟩:=Value.isInt_shape (k:=i) (v:=v) h;exact .inl ⟨i,t,rfl,e⟩
 | .inr x,v,h=>by obtain⟨t,e⟩:=Value.isStrOf_shape (x:=x) (v:=v) h;exact .inr ⟨x,t,rfl,e⟩
def key_ll (a b:Int):decide ((Sum.inl a:Key)=Sum.inl b)=(a == b):=by
 by_cases e:a=b
 .subst e;simp
 .have h:¬(Sum.inl a:Key)=Sum.inl b:=λq=>e (Sum.inl.inj q);rw[aM h];exact(beq_eq_false_iff_ne.mpr e).symm
def key_rr (a b:Str):decide ((Sum.inr a:Key)=Sum.inr b)=decide (a=b):=by
 by_cases e:a=b
 .subst e;simp
 .have h:¬(Sum.inr a:Key)=Sum.inr b:=λq=>e (Sum.inr.inj q);rw[aM h,aM e]
def key_lr (a:Int)(b:Str):decide ((Sum.inl a:Key)=Sum.inr b)=false:=aM (λq=>nomatch q)
def key_rl (a:Str)(b:Int):decide ((Sum.inr a:Key)=Sum.inl b)=false:=aM (λq=>nomatch q)
def mixKind (prog:Program)(w:World):PySem.KeyKind prog w Key where
 is:=keyIs
 hash:=keyH w
 inj:=λv a b f d=>by
  rcases keyIs_shape f with⟨i,t,rfl,rfl⟩|⟨x,t,rfl,rfl⟩
  .rcases keyIs_shape d with⟨j,u,rfl,e⟩|⟨y,u,rfl,e⟩
   .injection e with e1 _;rw[e1]
   .exact nomatch e
  .rcases keyIs_shape d with⟨j,u,rfl,e⟩|⟨y,u,rfl,e⟩
   .exact nomatch e
   .injection e with e1 _;rw[e1]
 byValue:=λk v h=>by rcases keyIs_shape h with⟨i,t,rfl,rfl⟩|⟨x,t,rfl,rfl⟩<;>rfl
 pyHash:=λc h=>by
  rcases keyIs_shape c with⟨i,t,rfl,rfl⟩|⟨x,t,rfl,rfl⟩
  .exact wpAny_pyHash_int h
  .exact wpAny_pyHash_str h
 eqBool:=λg c h=>by
  rcases keyIs_shape g with⟨i,t,rfl,rfl⟩|⟨x,t,rfl,rfl⟩
  .rcases keyIs_shape c with⟨j,u,rfl,rfl⟩|⟨y,u,rfl,rfl⟩
   .rw[key_ll]at h;exact hO h
   .rw[key_lr]at h;exact SeqAt.EqAt.int_str i t y u _ _ _ _ h
  .rcases keyIs_shape c with⟨j,u,rfl,rfl⟩|⟨y,u,rfl,rfl⟩
   .rw[key_rl]at h;exact SeqAt.EqAt.str_int x t j u _ _ _ _ h
   .rw[key_rr]at h;exact wpAny_eqBool_str h
 «strs»:=λk x t v h=>by
  rcases keyIs_shape h with⟨i,u,rfl,e⟩|⟨y,u,rfl,e⟩
  .exact nomatch e
  .injection e with e1 _;subst e1;cases v<;>rfl
inductive V where
 |non|bl (b:Bool)|int (i:Int)|str (x:Str)|byt (b:Array UInt8)|flt (b:UInt64)|ref (a:Addr)|ty (n:String)
 deriving DecidableEq
def RelV:V->Value->Prop
 | .non,u=>u=Value.none
 | .bl b,u=>u=Value.bool b
 | .int i,u=>∃t,u=Value.int i t
 | .str x,u=>∃t,u=Value.str x t
 | .byt b,u=>∃t,u=Value.bytes b t
 | .flt b,u=>∃t,u=Value.float b t
 | .ref a,u=>u=Value.ref a
 | .ty n,u=>u=Value.type n
abbrev Vals:List V->List Value->Prop:=Paired RelV
def RelO:Option V->Option Value->Prop
 |some v,some u=>RelV v u
 |none,none=>True
 |_,_=>False
def KV {a:Type}:List (a×V)->List (a×Value)->Prop:=Paired λ(p:a×V) (q:a×Value)=>p.1=q.1/\RelV p.2 q.2
def kV:Key->V
 | .inl i=>.int i
 | .inr x=>.str x
structure zT where
 q:Str
 ps:Array Value
instance:HAppend zT (Array Value) zT:=⟨λt m=>⟨t.q,t.ps++m⟩⟩
def Cz (o:Obj)(q:Str):Prop:=∃v t,o.data=.fields v/\v[1]?=some (.str q t)
inductive HO where
 |lst (xs:List V)
 |tup (xs:List V)
 |dK (kvs:List (Key×V))|dT (kvs:List (List Key×V))
 |set (S:Int->Bool) (n:Nat)
 |ins (C dx:Addr) (fs:List (Str×V))
 |own (x:Addr)
 |xd (fs:List (Str×V))
 |met (f x:Addr)
 |rng (lo hi:Int)
 |frz (o:Obj) (u:HO)
 |tbl (ps:zT)
 |ext (φ:Heap->Prop)
abbrev Hp:=Addr->Option HO
section
variable (P:Program)(w:World)
def ObjOk (H:Hp)(h:Heap)(a:Addr):HO->Prop
 | .lst b=>b.length<=sizeLine/\∃(i:List Value) (n:Nat),Vals b i/\h.get? a=some { cls:=.type "list",data:=.seq i.toArray n }
 | .tup b=>b.length<=sizeLine/\∃i:List Value,Vals b i/\IsTup h a i.toArray
 | .dK k=>k.length<=sizeLine/\(a == sysModules)=false/\∃s,KV k s/\h.DictOf (mixKind P w) a s
 | .dT k=>k.length<=sizeLine/\(a == sysModules)=false/\∃b:List (List Key×Addr×Value),
   Paired (λ(p:List Key×V) (q:List Key×Addr×Value)=>p.1=q.1/\H q.2.1=some (.tup (p.1.map kV))/\RelV p.2 q.2.2) k b /\
   ∃o l y,h.get? a=some o/\o.ExactDict/\o.data=.dict l y/\l.toList=b.map (entryOfKey (tupleKind (mixKind P w)))/\(b.map (·.1)).Nodup
 | .set S n=>h.SetOf (intKind P w) a S n
 | .ins C d fs=>H d=some (.own a)/\fs.length<=1000/\d≠a/\h.get? a=some (W.instObj C d) /\
   ∃m,h.Ns1 d m/\(∀f,RelO (fs.lookup f) (m f))/\PySem.Within m (fs.map (·.1))
 | .own _=>∃o,h.get? a=some o
 | .xd fs=>∃m,h.Ns1 a m/\∀f,RelO (fs.lookup f) (m f)
 | .rng A z=>∃t u v,h.get? a=some { cls:=.type "range",data:=.fields #[.int A t,.int z u,.int 1 v] }
 | .frz o u=>h.get? a=some o/\ObjOk H h a u
 | .tbl e=>h.get? a=some { cls:=.none,data:=.fields e.ps }/\TriplesOk e.ps.toList/\∀p j,codeAmong p e.ps.toList=some j->∃c r u,j=Value.ref c/\H c=some (.frz r u)/\Cz r e.q
 | .met f x=>h.get? a=some (W.methodObj (.ref f) (.ref x))
 | .ext g=>g h/\(∃o,h.get? a=some o)/\∀h1 h2:Heap,g h1->(∀o,h1.get? a=some o->h2.get? a=some o)->g h2
def HOk (H:Hp)(h:Heap):Prop:=∀a o,H a=some o->ObjOk P w H h a o
end
def Rd (H:Hp)(a:Addr)(u:HO):Prop:=H a=some u\/∃o,H a=some (.frz o u)
structure Un (fs ex:List Addr)(H H':Hp)(h h':Heap):Prop where
 keep:∀b o,h.get? b=some o->H b=none->b∉fs->b∉ex->h'.get? b=some o
 slot:∀b o,h.get? b=some o->H b=none->b∈fs->b∉ex->∃sl,h'.get? b=some { o with slots:=sl }
 free:∀b o,h.get? b=some o->H b=none->b∉ex->H' b=none
 there:∀b o,h.get? b=some o->b∉ex->∃o',h'.get? b=some o'
 tups:∀b xs,H b=some (.tup xs)->H' b=some (.tup xs)
 frzs:∀b o u,H b=some (.frz o u)->H' b=some (.frz o u)
 tbls:∀b ps,H b=some (.tbl ps)->∃more:Array Value,H' b=some (.tbl (ps++more))
def trk (h:Heap)(H:Hp):List Addr:=(List.range h.objs.size).filter λa=>(H a).isSome
def hidT (h:Heap)(H:Hp):Heap:=W.hideAll h (trk h H)
def hidT_size (h:Heap)(H:Hp):(hidT h H).objs.size=h.objs.size:=W.hideAll_size _ _
def hidT_get (e:h.get? b=some o)(n:H b=none):(hidT h H).get? b=some o:=
 W.hideAll_get _ e λa=>by have q:(H b).isSome=true:=(aW.mp a).2;rw[n]at q;simp at q
def of_hidT (e:(hidT h H).get? b=some o):h.get? b=some o/\H b=none:=by
 have a:h.get? b=some o:=W.of_hideAll (trk h H) e;refine⟨a,?_⟩;cases q:H b with
 |none=>rfl
 |some x=>have c:b∈trk h H:=aW.mpr ⟨aX.mpr (az a),by simp[q]⟩;have z:(hidT h H).get? b=none:=W.hideAll_none (trk h H) c;rw[z]at e;cases e
def acq (mg:Mg)(h:Heap):Prop:=∃b ob,mg "__builtins__"=some (.ref b)/\b≠builtinsNs/\h.get? b=some ob/\ob.cls=.type "module"/\ob.dict=some builtinsNs/\ob.data=.plain
structure Mod (K:Fg)(mg:Mg)(base:Heap):Prop where
 kin:K.In base
 glob:base.Ns mainGlobals mg
 blt:∃mb,base.Ns builtinsNs mb/\∀x:Str,x≠"__name__"->mb x=bootBuiltins x
 nolimit:base.NoLimit
 bm:acq mg base
def frs (l:List Env):List Addr:=l.filterMap (·.frame)
def Xl:Stmt->Bool
 | .Return (some (.Call _ _ [⟨_,.Lambda _ _ _ _,_⟩] _)) _=>true
 | .Return (some (.Tuple [_,.Call _ _ [⟨_,.Lambda _ _ _ _,_⟩] _] _ _)) _=>true
 |_=>false
def Y4:FuncBody->Bool
 | .stmts s=>s.any Xl
 |_=>false
def oX (K:Fg):List (Addr×Addr×Str):=K.filterMap λx=>match x.2.data with
 | .func f=>if Y4 f.body=true then(match f.code with
   | .ref c=>(match K.lookup c with
    |some ⟨_,_,.fields vs,_⟩=>(match (vs[11]?:Option Value) with
     |some (.ref P)=>if W.codeHdIn K c P=true then some (c,P,f.qualname++".<locals>."++"<lambda>") else none
     |_=>none)
    |_=>none)
   |_=>none) else none
 |_=>none
structure Frf (K:Fg)(H:Hp)(fs:List Addr):Prop where
 f:∀b∈fs,H b=none
 t:∀x∈oX K,∃ps,H x.2.1=some (.tbl ⟨x.2.2,ps⟩)
abbrev XK:=Value->Option Addr->Hp->Prop
abbrev VK:=V->Hp->Prop
def SqL (K:Fg)(H:Hp)(a:Addr)(xs:List V):Prop:=
 Rd H a (.lst xs) \/
  ∃(o:Obj) (i:Array Value) (n:Nat),K.lookup a=some o/\o.cls=.type "list"/\o.dict=none/\o.data=.seq i n/\i.size<=sizeLine/\Vals xs i.toList
structure Cls (K:Fg)(C:Addr):Prop where
 pg:W.plainGet K C Str.empty=true
 hd:W.hasDictIn K C=true
 po:W.plainOver K C=true
 sa:W.findIn K (.ref C) "__setattr__"=some (some (.builtin "object.__setattr__"))
def NoAttr (K:Fg)(C:Addr)(f:Str):Prop:=W.findIn K (.ref C) f=some none
structure Meth (K:Fg)(C:Addr)(m:Str)(f:Addr):Prop where
 at_:W.findIn K (.ref C) m=some (some (.ref f))
 fn:W.isFn K (.ref f)=true
 kp:W.keepIn K (.ref f)=true
structure Room (k:Nat)(A:Around):Prop where
 hd:A.handled=none
 dp:A.depth+3*k+5<recursionLimit
 un:A.units+16*k+200<cLine
abbrev Sp:=List V->Hp->VK->XK->Prop
abbrev CXT:=List Env->Hp->Shared->XK->Value->Shared->Prop
structure Env0 (P:Program)(w:World)(K:Fg)(mg:Mg)(base:Heap)(A:Around)(outer:List Env)(s:Shared)(H:Hp):Prop where
 frames:A.frames=some outer
 mod:Mod K mg base
 bs:∀b o,base.get? b=some o->s.heap.get? b=some o/\H b=none
 bsz:base.objs.size<=s.heap.objs.size
 funs:s.heap.FunFrames base outer
 frf:Frf K H (frs outer)
 hok:HOk P w H s.heap
 bare:AllBare s.gens
def CE (outer:List Env)(P:Program)(w:World)(H:Hp)(s:Shared)(Q:VK)(u:Value)(s':Shared):Prop:=
 ∃v h,s'.os=s.os/\AllBare s'.gens/\Un (frs outer) [] H h s.heap s'.heap/\HOk P w h s'.heap/\RelV v u/\Q v h
def CR (CX:CXT)(outer:List Env)(P:Program)(w:World)(H:Hp)(s:Shared)(Q:VK)(E:XK)(r:Result)(s':Shared):Prop:=
 match r with
 | .ok (.ret u)=>CE outer P w H s Q u s'
 | .ok _=>False
 | .error e=>CX outer H s E e s'
structure FnOk (P:Program)(w:World)(K:Fg)(mg:Mg)(base:Heap)(CX:CXT)(k:Nat)(f:Addr)(fd:FuncData)(ps:List Str)(sp:Sp):Prop where
 len:∀vs H Q E,sp vs H Q E->vs.length=ps.length
 run:∀(A:Around) (outer:List Env) (s:Shared) (H:Hp) (args:Args) (us:List Value) (vs:List V) (Q:VK) (E:XK),Room k A->Env0 P w K mg base A outer s H->BindsTo s fd args (ps.zip us)->Vals vs us->sp vs H Q E ->
  codeAny (model P w) A (.call (.ref f) args) (CR CX outer P w H s Q E) s
def Binds (K:Fg)(f:FuncData)(p:List Str)(d:List Value):Prop:=
 ∀(s:Shared) (u:List Value),K.In s.heap->(u++d).length=p.length->BindsTo s f ⟨u,[]⟩ (p.zip (u++d))
def Binds.all {K:Fg}{f:FuncData}{p:Ls}(h:∀us:List Value,us.length=p.length->bindArgs f ⟨us,[]⟩=pure (p.zip us)):Binds K f p []:=λs us _ a=>by rw[bu]at a ⊢;exact .of_eq (h us a)
section
variable {X:Cx}{CX:CXT}{k:Nat}{f C:Addr}{F:FuncData}{P:List Str}{sp:Sp}{d:List V}{D:List Value}{E:XK}{x m:Str}{p pos a:Pos}{e o:Expr}{b:List Expr}{T:TE}{t:TA}
structure Mk (K:Fg)(C f:Addr):Prop where
 makes:W.makesIn K C=true
 init:W.findIn K (.ref C) "__init__"=some (some (.ref f))
 fn:W.isFn K (.ref f)=true
 kp:W.keepIn K (.ref C)=true
end
end L2
namespace Att
open PySem PySem.W PySem.Calls PyProof.Rows
def ints_of_wellAll:∀(ns:Li) (vs:Lv),WellAll P h vs (ns.map WData.int)->IntsAre vs ns:=by
 intro ns
 induction ns with
 |nil=>intro vs w;rw[dM]at w;cases w;exact .nil
 |cons n ns i=>
  intro vs w;rw[bN]at w;cases w with
  |cons a b=>cases a;exact .cons _ _ (i _ b)
def script_of {l:OpenLaw}{n:Nat}(o:l.most=some n){P:Params}{args:List WData}
  (b:l.row.toRowW.claim.pre args=true) (j:WellAll P h vals args) :
  ∃a vs ns,vals=[Value.ref a]/\args=[WData.list (ns.map WData.int)]/\h.get? a=some { cls:=.type "list",data:=.seq vs.toArray }/\IntsAre vs ns/\ns.length<=n:=by
 have i:WShape.hasAll [] args [.list .int]=true:=(pre_splitW b).1;have k:l.pre.holds [] { args:=args }=true:=(pre_splitW b).2;obtain⟨d,r,rfl,h1,h2⟩:=hasAllW_cons i;obtain rfl:=hasAllW_nil h2;obtain⟨x,rfl,m⟩:=hasW_list h1;obtain⟨ns,rfl⟩:=items_int m;have e:ns.length<=n:=by
  unfold OpenLaw.pre at k;have f:(WTm.not (.lt (.lit (.int (n:Int))) (.len (.arg 0)))).holds [] { args:=[.list (ns.map .int)] }=true:=by have f:=(holds_andW k).1;rw[o]at f;exact f
  have g:=condW_of f (w_not (w_lt w_lit (w_len_list (w_arg rfl))));rw[aa]at g;refine cT λq=>?_;have s:(n:Int)<((ns.length:Nat):Int):=by lia
  first
   |(rw[aK s]at g;exact absurd g (by decide))
   |(simp at g;lia)
 cases j with
 |cons w t=>
  cases t;cases w with
  |list p c=>exact⟨_,_,ns,rfl,rfl,p,ints_of_wellAll ns _ c,e⟩
def post_true (l:OpenLaw)(args:List WData):l.row.toRowW.claim.post args (.bool true) args=true:=
 postW_of (r:=l.row.toRowW) (X:=(true == true))
  (show WShape.has [] (.bool true) .bool=true by first|rfl|decide|simp[WShape.has,WShape.arms,WShape.armsAll])
  (show(WTm.eq .res (.lit (.bool true))).value [] { args:=args,res:=some (.bool true),after:=args }=some (.bool (true == true)) from w_eq_bool (w_res rfl) w_lit) rfl
end Att
namespace L2
open PySem PySem.Spec PyProof.Rows
def vals_ints:∀{vs:Lv} {ns:Li},IntsAre vs ns->Vals (ns.map V.int) vs
 |_,_,.nil=>.nil
 |_,_,.cons n t h=>.cons ⟨t,rfl⟩ (vals_ints h)
def rP (K:Fg):Hp:=λb=>match (oX K).find? λx=>x.2.1 == b with
 |some x=>some (.tbl ⟨x.2.2,#[]⟩)
 |none=>none
def tO {K:Fg}{b:Addr}{o:HO}(h:rP K b=some o):∃x∈oX K,x.2.1=b/\o=.tbl ⟨x.2.2,#[]⟩:=by
 unfold rP at h;split at h
 .rename_i x e;exact⟨x,eJ e,by simpa using ig e,(aE h).symm⟩
 .cases h
structure Ju (K:Fg)(h:Heap):Prop where
 e:∀x∈oX K,h.get? x.2.1=some (W.tabObj #[])
 n:∀x∈oX K,K.lookup x.2.1=none
 u:∀x∈oX K,∀y∈oX K,x.2.1=y.2.1->x.2.2=y.2.2
def Gk {K:Fg}{x:Addr×Addr×Str}(h:x∈oX K):W.codeHdIn K x.1 x.2.1=true:=by
 obtain⟨y,_,e⟩:=cE.mp h
 repeat' split at e
 all_goals first
  |(cases e;assumption)
  |cases e
def Jd {K:Fg}{h:Heap}(L:Ju K h){x:Addr×Addr×Str}(a:x∈oX K):rP K x.2.1=some (.tbl ⟨x.2.2,#[]⟩):=by
 unfold rP;split
 .rename_i y e;have b:y.2.1=x.2.1:=by simpa using ig e
  rw[L.u y (eJ e) x a b]
 .rename_i e;have:=List.find?_eq_none.mp e x a;simp at this
def law_call {P:Program}{w:World}{K:Fg}{mg mb:Mg}{CX:CXT}{k:Nat}{fa a:Addr}{fd:FuncData}{x:Str}{sp:Sp}{s₁:Shared}{vs:Lv}{ns:Li}
  (Z:K.In s₁.heap) (S:s₁.heap.Ns mainGlobals mg) (y:s₁.heap.Ns builtinsNs mb) (hbb:∀x:Str,x≠"__name__"->mb x=bootBuiltins x) (R:s₁.heap.NoLimit) (hg:s₁.gens = #[])
  (J:s₁.heap.get? a=some { cls:=.type "list",data:=.seq vs.toArray }) (hi:IntsAre vs ns) (hl:ns.length<=sizeLine) (hr:Room k callerA) (l:Ju K s₁.heap) (BM:acq mg s₁.heap)
  (F:∀base:Heap,K.In base->base.Ns mainGlobals mg->FnOk P w K mg base CX k fa fd [x] sp) (G:∀(s:Shared) (u:Value),BindsTo s fd ⟨[u],[]⟩ [(x,u)])
  (hsp:∀H:Hp,SqL K H a (ns.map V.int)->sp [.ref a] H (λv _=>v=.bl true) λ_ _ _=>False)
  (hCX:∀H e s',CX [] H s₁ (λ_ _ _=>False) e s' -> False) :
  codeAny (model P w) callerA (.call (.ref fa) ⟨[.ref a],[]⟩) (λr s'=>r=.ok (.ret (.bool true))/\OldK s₁.heap s'.heap/\s'.os=s₁.os/\AllBare s'.gens) s₁:=by
 have rv:=vals_ints hi;have U:=hi.length;have Y:∀{b:Addr} {o:HO},rP K b=some o->b≠a:=λ{b o} h z=>by obtain⟨x,i,e,_⟩:=tO h;have:=l.e x i;rw[e,z,J]at this;cases this
 have B:∀H:Hp,(∀b,b≠a->H b=rP K b)->SqL K H a (ns.map V.int)->HOk P w H s₁.heap->(H a≠none->K.lookup a=none/\∃o xs,H a=some (.frz o (.lst xs))) ->
   codeAny (model P w) callerA (.call (.ref fa) ⟨[.ref a],[]⟩) (λr s'=>r=.ok (.ret (.bool true))/\OldK s₁.heap s'.heap/\s'.os=s₁.os/\AllBare s'.gens) s₁:=by
  intro H I hS T hK;have f:∀{b:Addr} {o:Obj},s₁.heap.get? b=some o->H b=none->(hidT s₁.heap H).get? b=some o:=λe n=>hidT_get e n;have noA:∀{b:Addr} {o:Obj} {O:Array DictEntry} {N:Nat},s₁.heap.get? b=some o->o.data=.dict O N->H b=none:=λ{b o O N} e d=>by
   by_cases c:b=a
   .subst c;rw[J]at e;cases e;have d':Data.seq vs.toArray _=Data.dict O N:=d;cases d'
   .rw[I b c];cases q:rP K b with
    |none=>rfl
    |some u=>obtain⟨x,i,j,_⟩:=tO q;have:=l.e x i;rw[j,e]at this;cases this;cases d
  have noB:∀{b:Addr} {o:Obj},s₁.heap.get? b=some o->o.cls=.type "module"->H b=none:=λ{b o} e d=>by
   by_cases c:b=a
   .subst c;rw[J]at e;cases e;injection d with z;exact absurd z (by decide)
   .rw[I b c];cases q:rP K b with
    |none=>rfl
    |some u=>obtain⟨x,i,j,_⟩:=tO q;have:=l.e x i;rw[j,e]at this;cases this;cases d
  have A:∀{b:Addr} {m:Mg},s₁.heap.Ns b m->(hidT s₁.heap H).Ns b m:=λ{b m} ⟨o,O,N,e,d,r⟩=>⟨o,O,N,f e (noA e d),d,r⟩;have Q:K.In (hidT s₁.heap H):=λb o e=>f (Z b o e) (by
   by_cases c:b=a
   .subst c;cases q:H b with
    |none=>rfl
    |some u=>rw[(hK (by rw[q];simp)).1]at e;cases e
   .rw[I b c];cases q:rP K b with
    |none=>rfl
    |some u=>
     obtain⟨x,i,j,_⟩:=tO q;have:=l.n x i;rw[j,e]at this;cases this)
  have hM:Mod K mg (hidT s₁.heap H):=⟨Q,A S,⟨mb,A y,hbb⟩,let ⟨mc,h1,h2⟩:=R;⟨mc,A h1,h2⟩,let ⟨bm,ob,b1,b2,b3,b4,b5⟩:=BM;⟨bm,ob,b1,b2,f b3 (noB b3 b4),b4,b5⟩⟩
  have e0:Env0 P w K mg (hidT s₁.heap H) callerA [] s₁ H:=⟨rfl,hM,λb o e=>of_hidT e,jf (hidT_size _ _),trivial,⟨λb y=>absurd (show b∈([]:List Addr) from y) (by simp),λx i=>⟨#[],by rw[I _ (Y (Jd l i))];exact Jd l i⟩⟩,T,.of_eq hg⟩;refine gw ((F _ Q (A S)).run callerA [] s₁ H ⟨[.ref a],[]⟩ [.ref a] [.ref a] _ _ hr e0 (G s₁ (.ref a)) (.cons rfl .nil) (hsp H hS)) λr s' h=>?_;cases r with
  |error e=>exact(hCX H e s' h).elim
  |ok fl=>
   cases fl with
   |next=>exact False.elim h
   |brk=>exact False.elim h
   |cont=>exact False.elim h
   |ret u=>
    obtain⟨v,H',os,L,un,D,r',q⟩:=h;have q':v=.bl true:=q;subst q';obtain rfl:u=Value.bool true:=r';have all:∀b o,s₁.heap.get? b=some o->s'.heap.get? b=some o\/∃x∈oX K,x.2.1=b/\o=W.tabObj #[]/\∃g,s'.heap.get? b=some (W.tabObj (#[]++g)):=λb o e=>by
     by_cases c:b=a
     .subst c;cases q:H b with
      |none=>exact .inl (un.keep b o e q (by intro z;exact absurd (show b∈([]:List Addr) from z) (by simp)) (by simp))
      |some u=>obtain⟨_,ob,xs,z⟩:=hK (by rw[q];simp);have z2:=un.frzs b ob _ z;obtain⟨j,_⟩:=T b _ z;obtain⟨E,_⟩:=D b _ z2;rw[e]at j;cases j;exact .inl E
     .cases q:rP K b with
      |none=>exact .inl (un.keep b o e (by rw[I b c];exact q) (by intro z;exact absurd (show b∈([]:List Addr) from z) (by simp)) (by simp))
      |some u=>obtain⟨x,i,j,rfl⟩:=tO q;obtain⟨g,E⟩:=un.tbls b _ (by rw[I b c];exact q);obtain⟨e3,_⟩:=D b _ E;have M:=l.e x i;rw[j,e]at M;exact .inr ⟨x,i,j,aE M,g,e3⟩
    refine⟨rfl,⟨λb o e=>?_,λb o e=>?_⟩,os,L⟩
    .rcases all b o e with z|⟨x,i,j,rfl,g,E⟩
     .exact .inl z
     .have C:W.CodeHd s₁.heap x.1 x.2.1:=iR Z (Gk i);exact .inr (.inl ⟨j ▸ (C.tab (l.e x i)).isCodeTable,rfl,#[],g,rfl,E⟩)
    .rcases all b o e with z|⟨x,i,j,rfl,g,E⟩
     .exact⟨_,z⟩
     .exact⟨_,E⟩
 have t:∀(H:Hp) b u,rP K b=some u->ObjOk P w H s₁.heap b u:=λH b u q=>by obtain⟨x,i,j,rfl⟩:=tO q;have M:=l.e x i;rw[j]at M;exact⟨M,trivial,λp cv hc=>by cases hc⟩
 cases hk:K.lookup a with
 |some o=>
  have e:=Z a o hk;rw[J]at e;cases e;refine B (rP K) (λ_ _=>rfl) (.inr ⟨_,vs.toArray,_,hk,rfl,rfl,rfl,by rw[aw,U];exact hl,by simpa using rv⟩) (λb u z=>t _ b u z) λz=>?_;cases q:rP K a with
  |none=>exact absurd q z
  |some u=>exact absurd rfl (Y q)
 |none=>
  refine B (λb=>if b=a then some (.frz { cls:=.type "list",data:=.seq vs.toArray } (.lst (ns.map V.int))) else rP K b) (λb y=>ae y) (.inl (.inr ⟨{ cls:=.type "list",data:=.seq vs.toArray },af rfl⟩)) (λb u z=>?_) λ_=>⟨hk,_,_,af rfl⟩;by_cases y:b=a
  .have z':=(af y).symm.trans z;cases z';subst y;exact⟨J,by rw[aa];exact hl,vs,_,rv,J⟩
  .exact t _ b u ((ae y).symm.trans z)
def inClass (s:Stmt)(j:Nat):Stmt:=match s with
 | .ClassDef _ _ _ b _ _ _ _ _ _ _=>b.getD j (.Pass ⟨0,0,0,0⟩)
 |_=>.Pass ⟨0,0,0,0⟩
def defArgs (s:Stmt):Arguments:=match s with
 | .FunctionDef _ a _ _ _ _ _ _ _ _=>a
 |_=>{ posonlyargs:=[],args:=[],vararg:=none,kwonlyargs:=[],kw_defaults:=[],kwarg:=none,defaults:=[] }
def defBody (s:Stmt):List Stmt:=match s with
 | .FunctionDef _ _ b _ _ _ _ _ _ _=>b
 |_=>[]
def defScope (s:Stmt):Scope:=match s with
 | .FunctionDef _ _ _ _ _ _ a _ _ _=>a
 |_=>{ kind:=.function,names:=[],isGenerator:=false,isCoroutine:=false }
abbrev CX0:CXT:=λ_ _ _ _ _ _=>False
structure Fun (K:Fg)(x qual:Str)(st:Stmt)(f:Addr)(fd:FuncData):Prop where
 ex:∃(oc:Value) (od:Option Addr) (kV doc pm:Value) (an:Option Addr) (cdv ct:Value) (osl:Array (Option Value)),
  fd=W.fnOf x qual (defArgs st) (defBody st) (defScope st) .none kV doc pm an cdv ct/\K.lookup f=some ⟨oc,od,.func fd,osl⟩/\W.codeIn K cdv qual=true
 kp:W.keepIn K (.ref f)=true
section
variable {P:Program}{w:World}{K:Fg}{mg:Mg}{base:Heap}
def Fun.binds {x q:Str}{s:Stmt}{f:Addr}{e:FuncData}{b:Ls}(F:Fun K x q s f e)
  (h:∀(kV d p:Value) (a:Option Addr) (c ct:Value) (us:List Value),us.length=b.length->bindArgs (W.fnOf x q (defArgs s) (defBody s) (defScope s) .none kV d p a c ct) ⟨us,[]⟩=pure (b.zip us)):Binds K e b []:=by
 obtain⟨i,j,kV,d,p,a,c,ct,o,rfl,l,g⟩:=F.ex;exact .all (h kV d p a c ct)
def fun_mk {x q:Str}{s:Stmt}{f:Addr}{oc:Value}{e b:Option Addr}{o:Array (Option Value)}{kV d p a ct:Value}(l:K.lookup f=some ⟨oc,e,.func (W.fnOf x q (defArgs s) (defBody s) (defScope s) .none kV d p b a ct),o⟩)
  (c:W.codeIn K a q=true) (k:W.keepIn K (.ref f)=true):Fun K x q s f (W.fnOf x q (defArgs s) (defBody s) (defScope s) .none kV d p b a ct):=⟨⟨oc,e,kV,d,p,b,a,ct,o,rfl,l,c⟩,k⟩
end
structure nj (K:Fg)(mg:Mg)(x:Str)(st:Stmt)(ps:List Str):Prop where
 ex:∃f fd,Fun K x x st f fd/\Binds K fd ps []/\mg x=some (.ref f)
section
variable {P:Program}{w:World}{K:Fg}{mg:Mg}{base:Heap}
def nj.mk' {x:Str}{s:Stmt}{p:Ls}{f:Addr}{a:FuncData}(F:Fun K x x s f a)(b:Binds K a p [])(m:mg x=some (.ref f)):nj K mg x s p:=⟨f,a,F,b,m⟩
end
abbrev bmV:List Value:=[.type "ValueError",.type "Exception",.type "BaseException",.type "object"]
abbrev Jb (K:Fg)(C:Addr):Prop:=W.excIn K C bmV "ValueError.__new__"=true
structure Qs (K:Fg)(C:Addr)(m:Str)(f:Addr):Prop where
 ga:W.specialIn K (.ref C) "__getattribute__"=some (some (.builtin "type.__getattribute__"))
 rd:W.readsIn K C (.type "type")=true
 fc:W.findCls K (.ref C) (.type "type") m=some (.val (.ref f))
 kp:W.keepIn K (.ref f)=true
end L2
namespace L2
open PySem PySem.Spec PyProof.Rows PySem.W PySem.Calls
def Vz:∀(ns:Li),∀n∈ns,WData.weight (.int n)<=WData.weightAll (ns.map WData.int)
 |[],n,h=>by cases h
 |m::r,n,h=>by
  rw[bN];simp only[WData.weightAll];rcases aG.mp h with rfl|h
  .lia
  .have:=Vz r n h;lia
def Xv {ns:Li}(h:WData.layableAll [WData.list (ns.map WData.int)]=true){n:Int}(b:n∈ns):Builtin.Int.intBits n<=2^20:=by have h1:WData.layable (WData.list (ns.map WData.int))=true:=dm.mp h _ ah;unfold WData.layable at h1;rw[eO]at h1;have h2:=bQ h1.2;have a:=Vz ns n b;simp only[WData.weight]at h2 a;exact aA a h2
def Tn {l:W.OpenLaw}{n k:Nat}{XP:(Str->Option Value)->Heap->Prop}{YP:World->Heap->Prop}{d:DefRec}{K:Params->Fg}{CX:World->CXT}{sp:World->Sp}
  (hn:l.most=some n) (D:n<=sizeLine) (A:d.params.defaults=[]) (hr:Room k callerA) (hY:∀(w:World) (h:Heap),YP w h->(K w.params).In h)
  (F:∀(w:World) (mg:Mg) (t:Addr) (h:Heap),(K w.params).In h->h.Ns mainGlobals mg->mg d.name=some (.ref t) -> ∃y:FuncData,(∀(s:Shared) (u:Value),BindsTo s y ⟨[u],[]⟩ [(x,u)])/\∀base:Heap,(K w.params).In base->base.Ns mainGlobals mg->FnOk l.prog w (K w.params) mg base (CX w) k t y [x] (sp w))
  (P:∀(w:World) (h:Heap),YP w h->Ju (K w.params) h)
  (E:∀(w:World) (H:Hp) (a:Addr) (ns:List Int),ns.length<=n->(∀m∈ns,Builtin.Int.intBits m<=2^20)->SqL (K w.params) H a (ns.map V.int)->sp w [.ref a] H (λv _=>v=.bl true) λ_ _ _=>False)
  (z:∀(w:World) (H:Hp) (s:Shared) (e:Value) (s':Shared),CX w [] H s (λ_ _ _=>False) e s' -> False):W.WalkO q loose XP YP l.row.toRowW d [] (λf vs=>PySem.call f vs):=by
 intro w N p mg mb G Y t o pm cd R Q kV ho hd hcd M C hg L O as j g hrd I hlo;obtain rfl:Q=.none:=Dflts.none M A;obtain rfl:kV=.none:=Dflts.noKw M;obtain⟨a,vs,ns,rfl,rfl,i,c,b⟩:=Att.script_of hn j I;have J:=hY w _ Y;obtain⟨y,hb,U⟩:=F w mg t _ J G.T.g C;refine enter_call (gw (law_call J G.T.g G.T.b G.T.builtins G.T.nolimit hg i c (aA b D) hr (P w _ Y) G.T.bmain U hb (λH Z=>E w H a ns b (λm B=>Xv g B) Z) λH e s'=>z w H p e s') λr s' hq=>?_);obtain⟨rfl,h2,S,T⟩:=hq;exact⟨.inl ⟨.bool true,.bool true,[],rfl,λ_=>rfl,.bool true,Att.post_true l _,λ_=>⟨List.Pairwise.nil,λ_ B=>(nomatch B)⟩⟩,h2,S,T⟩
def zp (K:Fg):Sp:=λv H Q _=>∃(a:Addr) (n:List Int),v=[.ref a]/\SqL K H a (n.map V.int)/\n.length<=63/\(∀m∈n,Builtin.Int.intBits m<=2^20)/\∀h,Q (.bl true) h
end L2
namespace L3
open PySem PySem.Spec PyProof.Rows L2
open Classical in
def QD (K:Fg)(a:Value)(q:Str):Prop:=∃c P,a=.ref c/\(c,P,q)∈oX K
def HN (K:Fg)(mg:Mg)(x:Str):Prop:=∃f o b a s,mg x=some (.ref f)/\K.lookup f=some ⟨o,b,.func a,s⟩/\QD K a.code (x++".<locals>."++"<lambda>")
def MT (K:Fg)(a:Value)(q:Str):Bool:=match a with
 | .ref c=>(oX K).any λx=>x.1 == c && x.2.2 == q
 |_=>false
def QM {K:Fg}{f:Value}{q:Str}(h:MT K f q=true):QD K f q:=by
 unfold MT at h;split at h
 .rename_i c;obtain⟨x,j,e⟩:=List.any_eq_true.mp h;rw[eO,jd,jd]at e;obtain⟨a,b,d⟩:=x;obtain⟨g,i⟩:=e;subst g i;exact⟨a,b,rfl,j⟩
 .cases h
def abm (K:Fg)(ts:List Addr):Bool:=(oX K).all λx=>(ts.contains x.2.1 && (K.lookup x.2.1).isNone) && (oX K).all λy=>x.2.1 != y.2.1 || x.2.2 == y.2.2
def Vc {K:Fg}{h:Heap}{ts:List Addr}(e:abm K ts=true)(t:∀P∈ts,h.get? P=some (W.tabObj #[])):Ju K h:=by
 have a:=λx b=>d9.mp (dm.mp e x b);refine⟨λx b=>t _ ?_,λx b=>?_,λx b y c z=>?_⟩
 .exact List.contains_iff_mem.mp (d9.mp (a x b).1).1
 .exact Option.isNone_iff_eq_none.mp (d9.mp (a x b).1).2
 .have:=dm.mp (a x b).2 y c;rw[Bool.or_eq_true,bne_iff_ne,jd]at this;exact this.resolve_left λn=>n z
end L3
namespace lz
open PySem L2 L3 PyProof.Rows
abbrev wy:Stmt:=top 8
abbrev Fv:Stmt:=top 9
abbrev V9:Stmt:=top 10
abbrev Vv:Stmt:=top 11
abbrev NZ:Stmt:=top 12
abbrev Jv:Stmt:=top 13
abbrev Ot:Stmt:=top 14
abbrev Ge:Stmt:=top 15
abbrev Oa:Stmt:=top 16
abbrev Ku:Stmt:=top 18
abbrev uC:Stmt:=top 19
abbrev wu:Stmt:=top 20
abbrev JV:Stmt:=top 21
abbrev Dq:Stmt:=top 22
abbrev Dk:Stmt:=top 24
abbrev Jf:Stmt:=top 25
abbrev yj:Stmt:=top 26
abbrev BV:Stmt:=top 27
abbrev yE:Stmt:=top 29
abbrev uD:Stmt:=top 30
abbrev yo:Stmt:=top 32
abbrev By:Stmt:=top 33
abbrev Gn:Stmt:=top 34
abbrev pH:Stmt:=top 35
abbrev zM:Stmt:=top 36
abbrev qY:Stmt:=top 37
abbrev tQ:Stmt:=top 38
abbrev pQ:Stmt:=top 39
abbrev wA:Stmt:=top 40
abbrev KY:Stmt:=top 41
abbrev zB:Stmt:=top 43
abbrev qz:Stmt:=top 44
abbrev vo:Stmt:=top 45
abbrev s_split:Stmt:=top 46
abbrev q8:Stmt:=top 47
abbrev xT:Stmt:=top 48
abbrev OD:Stmt:=top 49
abbrev Ov:Stmt:=top 51
abbrev wg:Stmt:=top 52
abbrev CJ:Stmt:=top 55
abbrev Kg:Stmt:=top 56
abbrev rZ:Stmt:=top 57
abbrev FJ:Stmt:=top 61
abbrev U6:Stmt:=top 62
abbrev Uw:Stmt:=top 63
abbrev Py:Stmt:=top 64
abbrev ww:Stmt:=top 66
abbrev Qk:Stmt:=top 67
abbrev zz:Stmt:=top 68
abbrev Ny:Stmt:=top 69
abbrev Eo:Stmt:=top 70
abbrev Vf:Stmt:=top 71
abbrev yr:Stmt:=top 72
abbrev We:Stmt:=top 73
abbrev zN:Stmt:=top 74
abbrev Ks:Stmt:=top 75
abbrev Gi:Stmt:=top 76
abbrev Wj:Stmt:=top 77
abbrev uG:Stmt:=top 78
abbrev vf:Stmt:=top 79
abbrev Od:Stmt:=top 80
abbrev Fl:Stmt:=top 81
abbrev Fi:Stmt:=top 82
abbrev zQ:Stmt:=inClass (top 58) 0
abbrev xJ:Stmt:=inClass (top 58) 1
abbrev zF:Stmt:=inClass (top 58) 3
abbrev zP:Stmt:=inClass (top 58) 5
abbrev yz:Stmt:=inClass (top 59) 0
structure Top (K:Fg)(mg:Mg)(cNO:Addr)(cHP:Addr)(cK:Addr)(cR:Addr):Prop where
 DX:nj K mg "cut_noughts" wy ["numbers"]
 QX:nj K mg "trimmed" Fv ["kind","f"]
 aa9:nj K mg "plus" V9 ["kind","f","g"]
 Z6:nj K mg "less" Vv ["kind","f","g"]
 Ww:nj K mg "times" NZ ["kind","f","g"]
 Tc:nj K mg "scaled" Jv ["kind","f","number"]
 WD:nj K mg "slope" Ot ["kind","f"]
 Rz:nj K mg "divided" Ge ["kind","f","g"]
 Yl:nj K mg "value" Oa ["kind","f","number"]
 Tq:nj K mg "common" Ku ["kind","f","g"]
 zV:nj K mg "with_lead_one" uC ["kind","f"]
 DG:nj K mg "turned_lead" wu ["kind","f"]
 U4:nj K mg "shares" JV ["kind","f","g"]
 Nr:nj K mg "row_less" Dq ["kind","row","often","other"]
 LR:nj K mg "times_by" Dk ["kind","one","other","g"]
 Ss:nj K mg "raised" Jf ["kind","f","many","g"]
 Gp:nj K mg "power_rows" yj ["kind","f","count","g"]
 Nb:nj K mg "powering" BV ["kind","g"]
 Ij:nj K mg "free_parts" yE ["kind","f"]
 zZ:nj K mg "seen_by_slope" uD ["kind","f"]
 Ho:nj K mg "unit_table" yo ["length"]
 MK:nj K mg "unit_row" By ["at","length"]
 Rj:nj K mg "echelon" Gn ["kind","rows"]
 uf:nj K mg "cleared_beside_units" pH ["kind","rows","width"]
 JB:nj K mg "plain_row" zM ["kind","row"]
 xf:nj K mg "first_not_nought" qY ["rows","at","done"]
 yQ:nj K mg "with_row_moved" tQ ["rows","found","done"]
 uL:nj K mg "with_column_cleared" pQ ["kind","rows","at","done"]
 Ek:nj K mg "row_without" wA ["kind","row","at","first"]
 U0:nj K mg "kernel" KY ["kind","rows"]
 K4:nj K mg "order_key" zB ["g"]
 vQ:nj K mg "powering_less_one" qz ["kind","g"]
 Ds:nj K mg "row_less_one" vo ["kind","row","at"]
 Yu:nj K mg "split" s_split ["kind","g"]
 wQ:nj K mg "possible_numbers" q8 ["kind","h","count","g"]
 IK:nj K mg "told_apart" xT ["kind","pieces","h","numbers"]
 YG:nj K mg "parts" OD ["kind","f"]
 WQ:nj K mg "paper" Ov ["kind","g"]
 DY:nj K mg "turned_back" wg ["kind","rows"]
 Mh:nj K mg "is_prime" CJ ["number"]
 Vp:nj K mg "turned" Kg ["number","size"]
 xK:nj K mg "refuse_no_prime" rZ ["number"]
 Rv:nj K mg "_law_cell_at" FJ ["_law_script","_law_k"]
 aaE:nj K mg "_law_head" U6 ["_law_script"]
 aaR:nj K mg "_law_trim" Uw ["_law_row","_law_size"]
 Yp:nj K mg "_law_whole" Py ["_law_found"]
 Ed:nj K mg "_law_small_prime" ww ["_law_cell"]
 YK:nj K mg "_law_prime" Qk ["_law_cell"]
 K7:nj K mg "_law_times" zz ["_law_f","_law_g","_law_size"]
 Xo:nj K mg "_law_piece" Ny ["_law_cell","_law_prime_here"]
 Q8:nj K mg "_law_product" Eo ["_law_cells","_law_prime_here","_law_most"]
 Z2:nj K mg "_law_rest" Vf ["_law_row","_law_g","_law_prime_here"]
 Hi:nj K mg "_law_raised" yr ["_law_g","_law_prime_here"]
 aaH:nj K mg "_law_left" We ["_law_g","_law_prime_here"]
 Km:nj K mg "_law_slope" zN ["_law_f"]
 T6:nj K mg "_law_opened" Ks ["_law_g","_law_a","_law_b","_law_prime_here"]
 Rk:nj K mg "_law_righted" Gi ["_law_g","_law_right","_law_prime_here"]
 Z8:nj K mg "_law_good" Wj ["_law_g","_law_a","_law_b","_law_right","_law_prime_here"]
 z6:nj K mg "_law_row_of_wholes" uG ["_law_found"]
 Dl:nj K mg "_law_paper_shaped" vf ["_law_found"]
 YM:nj K mg "_law_plain" Od ["_law_number","_law_size"]
 QT:nj K mg "_law_papered" Fl ["_law_kind","_law_g","_law_prime_here"]
 G9:HN K mg "free_parts"
 YZ:HN K mg "parts"
 jQ:mg "len"=none
 mZ:mg "range"=none
 mR:mg "isinstance"=none
 aaq:mg "bool"=none
 JL:mg "int"=none
 yN:mg "list"=none
 acg:mg "max"=none
 acI:mg "min"=none
 mO:mg "enumerate"=none
 GX:mg "tuple"=none
 BZ:mg "sorted"=none
 MF:mg "reversed"=none
 abO:mg "sum"=none
 Qf:mg "zip"=none
 zR:∃tk,mg "LARGEST_PRIME"=some (.int 9973 tk)
 Ey:W.kitOne K (.type "int") (.type "int")=some true
 CV:W.kitOne K (.type "int") (.type "bool")=some false
 o7:W.kitOne K (.type "list") (.type "list")=some true
 oN:W.kitOne K (.type "tuple") (.type "tuple")=some true
 K6:mg "NoOver"=some (.ref cNO)
 Wq:Jb K cNO
 Ml:mg "HasParts"=some (.ref cHP)
 aab:Jb K cHP
 Vl:mg "Kind"=some (.ref cK)
 Qm:mg "Rests"=some (.ref cR)
 rG:Cls K cR
 pX:NoAttr K cR "size"
 Ld:∃f fd,Fun K "__init__" "Kind.__init__" zQ f fd/\Binds K fd ["self","size"] []/\Qs K cK "__init__" f
 Im:∃f fd,Fun K "plain" "Kind.plain" xJ f fd/\Binds K fd ["self","number"] []/\Meth K cR "plain" f
 JG:∃f fd,Fun K "less" "Kind.less" zF f fd/\Binds K fd ["self","a","b"] []/\Meth K cR "less" f
 Jc:∃f fd,Fun K "over" "Kind.over" zP f fd/\Binds K fd ["self","a","b"] []/\Meth K cR "over" f
 Hc:∃f fd,Fun K "__init__" "Rests.__init__" yz f fd/\Binds K fd ["self","prime"] []/\Mk K cR f
section
variable {w:World}{K:Fg}{h:Heap}{mg:Mg}{F f C:Addr}{O A:Option Addr}{u:Array (Option Value)}{oc kV D p i ct:Value}{x q:Str}{S:Stmt}{j:List Str}{t:Addr}{o:Addr}{y:Addr}{z:Addr}
def aca (X:K.In h)(G:h.Ns mainGlobals mg)(a:W.nsIn K mainGlobals x=some (some (.ref f)))(l:K.lookup f=some ⟨oc,O,.func (W.fnOf x x (defArgs S) (defBody S) (defScope S) .none kV D p A i ct),u⟩)(c:W.codeIn K i x=true)(k:W.keepIn K (.ref f)=true)(b:∀(kV D p:Value) (A:Option Addr) (i ct:Value) (us:Lv),us.length=j.length->bindArgs (W.fnOf x x (defArgs S) (defBody S) (defScope S) .none kV D p A i ct) ⟨us,[]⟩=pure (j.zip us)):nj K mg x S j:=.mk' (fun_mk l c k) ((fun_mk l c k).binds b) (dD X G a)
def acr {b:Arguments}{d:List Stmt}{sc:Scope}{dv:Value}(X:K.In h)(G:h.Ns mainGlobals mg)(a:W.nsIn K mainGlobals x=some (some (.ref f)))(l:K.lookup f=some ⟨oc,O,.func (W.fnOf x x b d sc dv kV D p A i ct),u⟩)(c:MT K i (x++".<locals>."++"<lambda>")=true):HN K mg x:=⟨f,oc,O,_,u,dD X G a,l,QM c⟩
def abP {v:Int}{tk:Tok}(X:K.In h)(G:h.Ns mainGlobals mg)(a:W.nsIn K mainGlobals x=some (some (.int v tk))):∃tk,mg x=some (.int v tk):=⟨_,dD X G a⟩
def aa6 {a:Addr}(g:W.findIn K (.ref a) x=some (some (.ref f)))(l:K.lookup f=some ⟨oc,O,.func (W.fnOf x q (defArgs S) (defBody S) (defScope S) .none kV D p A i ct),u⟩)(c:W.codeIn K i q=true)(k:W.keepIn K (.ref f)=true)(n:W.isFn K (.ref f)=true)(b:∀(kV D p:Value) (A:Option Addr) (i ct:Value) (us:Lv),us.length=j.length->bindArgs (W.fnOf x q (defArgs S) (defBody S) (defScope S) .none kV D p A i ct) ⟨us,[]⟩=pure (j.zip us)):∃f d,Fun K x q S f d/\Binds K d j []/\Meth K a x f:=⟨_,_,fun_mk l c k,(fun_mk l c k).binds b,⟨g,n,k⟩⟩
def acv (g:W.findIn K (.ref C) "__init__"=some (some (.ref f)))(l:K.lookup f=some ⟨oc,O,.func (W.fnOf x q (defArgs S) (defBody S) (defScope S) .none kV D p A i ct),u⟩)(c:W.codeIn K i q=true)(k:W.keepIn K (.ref f)=true)(m:W.makesIn K C=true)(n:W.isFn K (.ref f)=true)(d:W.keepIn K (.ref C)=true)(b:∀(kV D p:Value) (A:Option Addr) (i ct:Value) (us:Lv),us.length=j.length->bindArgs (W.fnOf x q (defArgs S) (defBody S) (defScope S) .none kV D p A i ct) ⟨us,[]⟩=pure (j.zip us)):∃f a,Fun K x q S f a/\Binds K a j []/\Mk K C f:=⟨_,_,fun_mk l c k,(fun_mk l c k).binds b,m,g,n,d⟩
def ab3 (g:W.findCls K (.ref C) (.type "type") "__init__"=some (.val (.ref f)))(l:K.lookup f=some ⟨oc,O,.func (W.fnOf x q (defArgs S) (defBody S) (defScope S) .none kV D p A i ct),u⟩)(c:W.codeIn K i q=true)(k:W.keepIn K (.ref f)=true)(m:W.specialIn K (.ref C) "__getattribute__"=some (some (.builtin "type.__getattribute__")))(n:W.readsIn K C (.type "type")=true)(b:∀(kV D p:Value) (A:Option Addr) (i ct:Value) (us:Lv),us.length=j.length->bindArgs (W.fnOf x q (defArgs S) (defBody S) (defScope S) .none kV D p A i ct) ⟨us,[]⟩=pure (j.zip us)):∃f a,Fun K x q S f a/\Binds K a j []/\Qs K C "__init__" f:=⟨_,_,fun_mk l c k,(fun_mk l c k).binds b,m,n,g,k⟩
def abR (h:W.findIn K (.ref C) x=some none):NoAttr K C x:=h
def abE (h:W.excIn K C bmV "ValueError.__new__"=true):Jb K C:=h
def AMk:Prop:=∀{P:Program} {w:World} {K:Fg} {mg:Mg} {b:Heap} {t:Addr} {o:Addr} {y:Addr} {z:Addr},Top K mg t o y z->∀{f:Addr} {a:FuncData},Fun K "law" "law" Fi f a->FnOk P w K mg b CX0 14 f a ["_law_script"] (zp K)
def am {r:W.OpenLaw}(g:AMk)(X:K.In h)(G:h.Ns mainGlobals mg)(b:mg "law"=some (.ref F))(T:Top K mg t o y z)(a:W.nsIn K mainGlobals "law"=some (some (.ref f)))(l:K.lookup f=some ⟨oc,O,.func (W.fnOf "law" "law" (defArgs Fi) (defBody Fi) (defScope Fi) .none kV D p A i ct),u⟩)(c:W.codeIn K i "law"=true)(k:W.keepIn K (.ref f)=true):∃d:FuncData,(∀(s:Shared) (v:Value),BindsTo s d ⟨[v],[]⟩ [("_law_script",v)])/\∀base:Heap,K.In base->base.Ns mainGlobals mg->FnOk r.prog w K mg base CX0 14 F d ["_law_script"] (zp K):=by have e:=b.symm.trans (dD X G a);cases e;exact⟨_,λs v=>.of_eq rfl,λbase _ _=>g T (fun_mk l c k)⟩
def bnS {Q:List Value->Prop}(h:∀a,∀us:List Value,us.length=n->Q (a::us)):∀us:List Value,us.length=n+1->Q us|a::t,e=>h a t (Nat.succ.inj e)
def bn1 {Q:List Value->Prop}(h:∀a,Q [a]):∀us:List Value,us.length=1->Q us:=bnS λa u e=>List.eq_nil_of_length_eq_zero e▸h a
def bn2 {Q:List Value->Prop}(h:∀a b,Q [a,b]):∀us:List Value,us.length=2->Q us:=bnS λa=>bn1 (h a)
def bn3 {Q:List Value->Prop}(h:∀a b c,Q [a,b,c]):∀us:List Value,us.length=3->Q us:=bnS λa=>bn2 (h a)
def bn4 {Q:List Value->Prop}(h:∀a b c d,Q [a,b,c,d]):∀us:List Value,us.length=4->Q us:=bnS λa=>bn3 (h a)
def bn5 {Q:List Value->Prop}(h:∀a b c d e,Q [a,b,c,d,e]):∀us:List Value,us.length=5->Q us:=bnS λa=>bn4 (h a)
end
def walk {l:W.OpenLaw}{q:Program}{loose:Ls}{XP:(Str->Option Value)->Heap->Prop}{YP:World->Heap->Prop}{d:DefRec}{K:Params->Fg}(p:l.most=some 63)(b:d.params.defaults=[])
  (j:∀(w:World) (h:Heap),YP w h->(K w.params).In h) (g:∀(w:World) (h:Heap),YP w h->Ju (K w.params) h)
  (F:∀(w:World) (mg:Mg) (c:Addr) (h:Heap),(K w.params).In h->h.Ns mainGlobals mg->mg d.name=some (.ref c) -> ∃e:FuncData,(∀(s:Shared) (u:Value),BindsTo s e ⟨[u],[]⟩ [("_law_script",u)])/\∀base:Heap,(K w.params).In base->base.Ns mainGlobals mg->FnOk l.prog w (K w.params) mg base CX0 14 c e ["_law_script"] (zp (K w.params))) :
  W.WalkO q loose XP YP l.row.toRowW d [] (λf vs=>PySem.call f vs):=
 L2.Tn (n:=63) (k:=14) (x:="_law_script") (CX:=λ_=>CX0) (sp:=λw=>zp (K w.params)) p (by decide) b ⟨rfl,by decide,by decide⟩ j F g (λ_ _ a r o m i=>⟨a,r,rfl,i,o,m,λ_=>rfl⟩) λ_ _ _ _ _ z=>z
end lz
section
open PySem PySem.W PyProof.Rows
local macro_rules | `(tactic| o_head $H) => `(tactic| (refine W.holds_open (q:=lz.view) (loose:=[]) (Xt:=λs=>W.xlAt lz.view [] s && W.recOk (W.RowW.records k8) s) (XP:=W.XL lz.view []) (Yf:=W.Hook.obs $H) (Ya:=W.Hook.val $H) (YP:=W.Hook.says $H) (N:=20000) ?hl (W.Hook.of $H) (W.Hook.keeps $H) (λs e=>W.xl_of s (Bool.and_eq_true_iff.mp e).1) W.XL.keeps (by rfl) (by rfl) (by rfl) (λs e=>W.recFacts_of (Bool.and_eq_true_iff.mp e).2) (by rfl) (by first|assumption|decide +kernel) (by decide +kernel) ⟨rfl,rfl,rfl,rfl,rfl,by decide +kernel⟩ ?hw ?hc;(case hl=>(intro w;exact lz.fin w (by kernel_rfl)))))
local macro_rules | `(tactic| walk_at "b") => `(tactic| (first|exact λ_ _ _ _ _ _=>lz.bn1 λ_=>rfl|exact λ_ _ _ _ _ _=>lz.bn2 λ_ _=>rfl|exact λ_ _ _ _ _ _=>lz.bn3 λ_ _ _=>rfl|exact λ_ _ _ _ _ _=>lz.bn4 λ_ _ _ _=>rfl|exact λ_ _ _ _ _ _=>lz.bn5 λ_ _ _ _ _=>rfl))
def PySem.W.Fast.tw4409051990572047459:=PySem.Challenge.pw_factorforge_k43_whole_each_part_papered
def PySem.W.Fast.te4409051990572047459:PySem.Challenge.pw_factorforge_k43_whole_each_part_papered=PySem.W.Fast.tw4409051990572047459:=rfl
set_option maxHeartbeats 0 in
theorem lz.pre (A:lz.AMk):PySem.Challenge.rw_factorforge_k43_whole_each_part_papered.Holds:=by
 w_on;o_law;k_head;(rotate_left;rotate_right);(· w_witness2)
 k_fill
 refine lz.walk (l:=PySem.Challenge.rw_factorforge_k43_whole_each_part_papered) rfl rfl (λw h Y=>PySem.W.km_in_of Y) (λw h Y=>L3.Vc (by kernel_rfl) (PySem.W.km_tabs_of Y)) ?F
 case F=>
  intro w i f h d G e
  refine' lz.am A d G e ?T ?a ?l ?c ?k
  case a=>k_is
  case l=>k_is
  case c=>k_is
  case k=>k_is
  case T=>
   constructor
   case K6=>(refine' dD d G ?a;(case a=>k_is))
   case Ml=>(refine' dD d G ?a;(case a=>k_is))
   case Vl=>(refine' dD d G ?a;(case a=>k_is))
   case Qm=>(refine' dD d G ?a;(case a=>k_is))
   all_goals first|(refine' lz.aca d G ?a ?l ?c ?k ?b;(case a=>k_is);(case l=>k_is);(case c=>k_is);(case k=>k_is);(case b=>walk_at "b"))|(refine' lz.acr d G ?a ?l ?c;(case a=>k_is);(case l=>k_is);(case c=>kernel_rfl))|(refine' PySem.W.mg_none_of d G ?a;(case a=>k_is))|(refine' lz.abP d G ?a;(case a=>k_is))|(refine' lz.aa6 ?g0 ?l ?c ?k ?n ?b;(case g0=>k_is);(case l=>k_is);(case c=>k_is);(case k=>k_is);(case n=>k_is);(case b=>walk_at "b"))|(refine' lz.acv ?g ?l ?c ?k ?m ?n ?kc ?b;(case g=>k_is);(case l=>k_is);(case c=>k_is);(case k=>k_is);(case m=>k_is);(case n=>k_is);(case kc=>k_is);(case b=>walk_at "b"))|(refine' lz.ab3 ?g ?l ?c ?k ?m ?n ?b;(case g=>k_is);(case l=>k_is);(case c=>k_is);(case k=>k_is);(case m=>k_is);(case n=>k_is);(case b=>walk_at "b"))|(refine' lz.abR ?a;(case a=>k_is))|(refine' lz.abE ?a;(case a=>k_exc))|kit_is|(constructor<;>k_is)
end
namespace L2
open PySem PySem.Spec PyProof.Rows
def Vals.length (r:Vals xs us):xs.length=us.length:=Paired.length r
def Vals.get:∀{xs:List V} {us:Lv} {i:Nat} {x:V},Vals xs us->xs[i]?=some x->∃u,us[i]?=some u/\RelV x u
 |_,_,_,_,.nil,e=>by simp at e
 |_,_,0,_,.cons r _,e=>by simp at e;subst e;exact⟨_,rfl,r⟩
 |_,_,i+1,x,.cons _ t,e=>by obtain⟨u,h1,h2⟩:=Vals.get (i:=i) (x:=x) t (by simpa using e);exact⟨u,by simpa using h1,h2⟩
def Vals.set (r:RelV x u):∀{xs:List V} {us:Lv} (i:Nat),Vals xs us->Vals (xs.set i x) (us.set i u)
 |_,_,_,.nil=>.nil
 |_,_,0,.cons _ t=>.cons r t
 |_,_,i+1,.cons q t=>.cons q (Vals.set r i t)
def Vals.append:∀{xs ys:List V} {us w:Lv},Vals xs us->Vals ys w->Vals (xs++ys) (us++w)
 |_,_,_,_,.nil,s=>s
 |_,_,_,_,.cons r t,s=>.cons r (Vals.append t s)
def Vals.take:∀{xs:List V} {us:Lv} (n:Nat),Vals xs us->Vals (xs.take n) (us.take n)
 |_,_,0,_=>.nil
 |_,_,_+1,.nil=>.nil
 |_,_,n+1,.cons r t=>.cons r (Vals.take n t)
def Vals.drop:∀{xs:List V} {us:Lv} (n:Nat),Vals xs us->Vals (xs.drop n) (us.drop n)
 |_,_,0,r=>r
 |_,_,_+1,.nil=>.nil
 |_,_,n+1,.cons _ t=>Vals.drop n t
def Vals.none_of:∀{xs:List V} {us:Lv} {i:Nat},Vals xs us->xs[i]?=none->us[i]?=none:=λ{xs us i} r e=>by have h1:=r.length;have h2:xs.length<=i:=gG.mp e;exact gG.mpr (by lia)
@[simp] theorem zT.append_nil (t:zT):t++(#[]:Array Value)=t:=by obtain⟨q,p⟩:=t;show zT.mk q (p ++ #[])=⟨q,p⟩;rw[Array.append_empty]
def zT.append_assoc (t:zT)(a b:Array Value):t++a++b=t++(a++b):=by obtain⟨q,p⟩:=t;show zT.mk q (p++a++b)=⟨q,p++(a++b)⟩;rw[Array.append_assoc]
def upd (H:Hp)(a:Addr)(o:HO):Hp:=λb=>if b=a then some o else H b
def upd_same:upd H a o a=some o:=by unfold upd;rw[af rfl]
def upd_ne (h:b≠a):upd H a o b=H b:=by unfold upd;rw[ae h]
def upd_upd:upd (upd H a o) a u=upd H a u:=by funext b;unfold upd;split<;>rfl
def ne_of_none {H:Hp}{a b:Addr}{o:HO}(h:H a=some o)(h':H b=none):a≠b:=by intro e;subst e;rw[h]at h';cases h'
section
variable {P:Program}{w:World}{H i:Hp}{h h':Heap}{a:Addr}{o:HO}
def ObjOk.lt (x:ObjOk P w H h a o):a<h.objs.size:=by
 cases o with
 |lst b=>obtain⟨_,_,_,_,e⟩:=x;exact az e
 |tup b=>obtain⟨_,_,_,p⟩:=x;exact p.lt
 |dK k=>obtain⟨_,_,_,_,o,_,_,e,_⟩:=x;exact az e
 |dT k=>obtain⟨_,_,_,_,o,_,_,e,_⟩:=x;exact az e
 |set S n=>obtain⟨o,_,_,_,e,_⟩:=x;exact az e
 |ins C d fs=>obtain⟨_,_,_,e,_⟩:=x;exact az e
 |own y=>obtain⟨_,e⟩:=x;exact az e
 |xd fs=>obtain⟨_,⟨_,_,_,e,_⟩,_⟩:=x;exact az e
 |rng l c=>obtain⟨_,_,_,e⟩:=x;exact az e
 |frz ob u=>obtain⟨e,_⟩:=x;exact az e
 |tbl g=>exact az x.1
 |met f y=>exact az (show h.get? a=some _ from x)
 |ext j=>obtain⟨_,⟨_,e⟩,_⟩:=x;exact az e
def Paired.mapP:∀{l:List c} {l₂:List β},Paired F l l₂->(∀a b,F a b->G a b)->Paired G l l₂
 |_,_,.nil,_=>.nil
 |_,_,.cons r t,f=>.cons (f _ _ r) (Paired.mapP t f)
def ObjOk.stay (x:ObjOk P w H h a o)(k:∀b u,(b=a\/H b=some (.own a))->h.get? b=some u->h'.get? b=some u)
  (I:∀b,H b=some (.own a)->i b=some (.own a)) (J:∀b xs,H b=some (.tup xs)->i b=some (.tup xs)) (L:∀b o u,H b=some (.frz o u)->i b=some (.frz o u):=by intro _ _ _ q;exact q):ObjOk P w i h' a o:=by
 induction o with
 |lst xs=>obtain⟨z,m,n,r,e⟩:=x;exact⟨z,m,n,r,k _ _ (.inl rfl) e⟩
 |tup xs=>obtain⟨z,m,r,ob,e,c⟩:=x;exact⟨z,m,r,ob,k _ _ (.inl rfl) e,c⟩
 |dK s=>obtain⟨z,y,N,r,ob,l,j,e,c⟩:=x;exact⟨z,y,N,r,ob,l,j,k _ _ (.inl rfl) e,c⟩
 |dT s=>obtain⟨z,y,xs,r,ob,l,j,e,c⟩:=x;exact⟨z,y,xs,Paired.mapP r λp q z=>⟨z.1,J _ _ z.2.1,z.2.2⟩,ob,l,j,k _ _ (.inl rfl) e,c⟩
 |set S n=>obtain⟨ob,l,j,t,e,c⟩:=x;exact⟨ob,l,j,t,k _ _ (.inl rfl) e,c⟩
 |ins C O fs=>obtain⟨d,z,ne,e,A,⟨B,l,j,F,c⟩,r⟩:=x;exact⟨I _ d,z,ne,k _ _ (.inl rfl) e,A,⟨B,l,j,k _ _ (.inr d) F,c⟩,r⟩
 |own y=>obtain⟨ob,e⟩:=x;exact⟨ob,k _ _ (.inl rfl) e⟩
 |xd fs=>obtain⟨A,⟨B,l,j,e,c⟩,r⟩:=x;exact⟨A,⟨B,l,j,k _ _ (.inl rfl) e,c⟩,r⟩
 |rng R Q=>obtain⟨t,u,v,e⟩:=x;exact⟨t,u,v,k _ _ (.inl rfl) e⟩
 |frz ob u M=>obtain⟨e,q⟩:=x;exact⟨k _ _ (.inl rfl) e,M q⟩
 |tbl T=>obtain⟨e,t,g⟩:=x;exact⟨k a _ (.inl rfl) e,t,λp E G=>let ⟨c,oc,u,y,z,q⟩:=g p E G;⟨c,oc,u,y,L _ _ _ z,q⟩⟩
 |met f y=>have e:h.get? a=some (W.methodObj (.ref f) (.ref y)):=x;show h'.get? a=some (W.methodObj (.ref f) (.ref y));exact k a _ (.inl rfl) e
 |ext U=>obtain⟨p,⟨o,e⟩,D⟩:=x;exact⟨D _ _ p λo q=>k _ _ (.inl rfl) q,⟨o,k _ _ (.inl rfl) e⟩,D⟩
def HOk.lt (x:HOk P w H h)(e:H a=some o):a<h.objs.size:=(x a o e).lt
def HOk.fresh (x:HOk P w H h)(e:h.objs.size<=a):H a=none:=by
 cases q:H a with
 |none=>rfl
 |some u=>exact absurd (aF (x.lt q) e) (c9 _)
def HOk.kept (x:HOk P w H h)(k:∀b u,h.get? b=some u->h'.get? b=some u):HOk P w H h':=λa o e=>
 (x a o e).stay (λb u _ q=>k b u q) (λ_ q=>q) λ_ _ q=>q
def HOk.laid (x:HOk P w H h)(k:∀b u,h.get? b=some u->h'.get? b=some u)(g:h.objs.size<=a)(new:ObjOk P w (upd H a o) h' a o):HOk P w (upd H a o) h':=λb u e=>by
 have d:=x.fresh g;by_cases f:b=a
 .subst f;rw[upd_same]at e;cases e;exact new
 .rw[upd_ne f]at e;exact(x b u e).stay (λc v _ q=>k c v q) (λc q=>by rw[upd_ne (ne_of_none q d)];exact q) (λc j q=>by rw[upd_ne (ne_of_none q d)];exact q) λc _ _ q=>by rw[upd_ne (ne_of_none q d)];exact q
end
def Rd.ok (r:Rd H a u)(x:HOk P w H h):ObjOk P w H h a u:=by
 rcases r with r|⟨o,r⟩
 .exact x a u r
 .obtain⟨_,q⟩:=x a _ r;exact q
def Mut:Option HO->Prop
 |some (.lst _)=>True
 |some (.dK _)=>True
 |some (.dT _)=>True
 |some (.set _ _)=>True
 |some (.ins _ _ _)=>True
 |some (.ext _)=>True
 |_=>False
section
variable {P:Program}{w:World}{H:Hp}{h h':Heap}{x e:Addr}{O:HO}
def HOk.write (ok:HOk P w H h)(mu:Mut (H x))(m:e=x\/H e=some (.own x))(k:∀b u,b≠e->h.get? b=some u->h'.get? b=some u)(l:∃u,h'.get? e=some u)
  (new:ObjOk P w (upd H x O) h' x O):HOk P w (upd H x O) h':=λb u q=>by
 have n:∀c y,H c=some (.own y)->c≠x:=λc y r z=>by subst z;rw[r]at mu;exact mu
 have f:∀c j,H c=some (.tup j)->c≠x:=λc j r z=>by subst z;rw[r]at mu;exact mu
 have d:∀c o u,H c=some (.frz o u)->c≠x:=λc o u r z=>by subst z;rw[r]at mu;exact mu
 by_cases g:b=x
 .subst g;rw[upd_same]at q;cases q;exact new
 .rw[upd_ne g]at q;by_cases a:b=e
  .have p:H b=some (.own x):=by
    rcases m with z|z
    .exact absurd (a.trans z) g
    .rw[a];exact z
   rw[q]at p;cases p;obtain⟨v,s⟩:=l;exact⟨v,by rw[a];exact s⟩
  .refine(ok b u q).stay (λc v i r=>k c v ?_ r) (λc r=>by rw[upd_ne (n c b r)];exact r) (λc j r=>by rw[upd_ne (f c j r)];exact r) λc o u r=>by rw[upd_ne (d c o u r)];exact r
   rcases i with rfl|i
   .exact a
   .rintro rfl;rcases m with z|z
    .exact n c b i z
    .rw[i]at z;cases z;exact g rfl
end
section
variable {fs f ex E:List Addr}{H c d:Hp}{h h1 h2 h':Heap}{a x e:Addr}{o:HO}
def Un.any (u:Un fs ex H c h h1)(q:h.get? b=some ob)(n:H b=none)(i:b∉ex):∃s,h1.get? b=some { ob with slots:=s }:=by
 by_cases g:b∈fs
 .exact u.slot b ob q n g i
 .exact⟨ob.slots,u.keep b ob q n g i⟩
def Un.kept (k:∀b u,h.get? b=some u->h'.get? b=some u):Un fs ex H H h h':=
 ⟨λb ob q _ _ _=>k b ob q,λb ob q _ _ _=>⟨ob.slots,k b ob q⟩,λ_ _ _ n _=>n,λb ob q _=>⟨ob,k b ob q⟩,λ_ _ q=>q,λ_ _ _ q=>q,λ_ p q=>⟨#[],by rw[q];simp⟩⟩
def Un.refl:Un fs ex H H h h:=Un.kept λ_ _ q=>q
def Un.laid (k:∀b u,h.get? b=some u->h'.get? b=some u)(i:h.objs.size<=a)(g:H a=none):Un fs ex H (upd H a o) h h' where
 keep:=λb u q _ _ _=>k b u q
 slot:=λb u q _ _ _=>⟨u.slots,k b u q⟩
 free:=λb u q n _=>by rw[upd_ne (bh (aF (az q) i))];exact n
 there:=λb u q _=>⟨u,k b u q⟩
 tups:=λb j q=>by rw[upd_ne (ne_of_none q g)];exact q
 frzs:=λb u j q=>by rw[upd_ne (ne_of_none q g)];exact q
 tbls:=λb p q=>⟨#[],by rw[upd_ne (ne_of_none q g),q];simp⟩
def Un.write (mu:Mut (H x))(p:e=x\/H e=some (.own x))(k:∀b u,b≠e->h.get? b=some u->h'.get? b=some u)(i:∃u,h'.get? e=some u):Un fs ex H (upd H x o) h h':=by
 have m:∀b,H b=none->b≠x:=λb n z=>by subst z;rw[n]at mu;exact mu
 have l:∀b,H b=none->b≠e:=λb n z=>by
  subst z;rcases p with r|r
  .exact m b n r
  .rw[n]at r;cases r
 have j:∀b u,H b=some u->¬Mut (some u)->b≠x:=λb u q s z=>by subst z;rw[q]at mu;exact s mu
 refine⟨λb u q n _ _=>k b u (l b n) q,λb u q n _ _=>⟨u.slots,k b u (l b n) q⟩,λb u q n _=>by rw[upd_ne (m b n)];exact n,λb u q _=>?_,
  λb t q=>by rw[upd_ne (j b _ q λz=>z)];exact q,λb u t q=>by rw[upd_ne (j b _ q λz=>z)];exact q,λb v q=>⟨#[],by rw[upd_ne (j b _ q λz=>z),q];simp⟩⟩
 by_cases g:b=e
 .subst g;exact i
 .exact⟨u,k b u g q⟩
end
def allNews (g h:Heap)(L:Addr):List (Addr×Obj):=(List.range h.objs.size).filterMap λa=>if a=L\/(g.get? a).isSome=true then none else(h.get? a).map λo=>(a,o)
def mem_allNews (h1:a≠L)(h2:g.get? a=none)(b:h.get? a=some o):(a,o)∈allNews g h L:=
 cE.mpr ⟨a,aX.mpr (az b),by simp[h1,h2,b]⟩
def of_mem_allNews (c:p∈allNews g h L):p.1≠L/\g.get? p.1=none/\h.get? p.1=some p.2:=by
 obtain⟨b,_,e⟩:=cE.mp c;split at e
 .cases e
 .rename_i a;cases q:h.get? b with
  |none=>rw[q]at e;simp at e
  |some u=>
   rw[q]at e;simp only[dO,Option.some.injEq]at e;subst e;refine⟨λz=>a (.inl z),?_,q⟩;show g.get? b=none;cases r:g.get? b with
   |none=>rfl
   |some v=>exact(a (.inr (by simp[r]))).elim
def rest (g h:Heap)(L d:Addr):List (Addr×Obj):=(allNews g h L).filter λp=>decide (p.1≠d)
def news_all:News g L h (allNews g h L):=λp d=>let ⟨a,b,c⟩:=of_mem_allNews d;⟨c,a,b⟩
structure Cx where
 prog:Program
 w:World
 K:Fg
 mg:Str->Option Value
 base:Heap
 A:Around
 N:List Str
 s₀:Shared
 H₀:Hp
 env:Env
 outer:List Env
 stack:List Env
 ex:List Addr
 fn:Str->Bool
 calm:Bool
 pn:List (Addr×Obj)
 xe:Value->Shared->Prop
abbrev Cx.fs (X:Cx):List Addr:=frs X.outer
def Vis (sc:Scope)(x:Str):Prop:=sc.names.lookup x=some .local\/sc.names.lookup x=some .cell\/sc.names.lookup x=some .free
def Loc (sc:Scope)(x:Str):Prop:=sc.names.lookup x=some .local\/sc.names.lookup x=some .cell
def Look (env:Env)(h:Heap)(m:Mg)(x:Str)(u:Value):Prop:=
 (env.kindOf x=some .local/\m x=some u)\/((env.kindOf x=some .cell\/env.kindOf x=some .free)/\∃c,env.cells.lookup x=some c/\h.IsCell c (some u))
structure Cx.Ok (X:Cx):Prop where
 mod:Mod X.K X.mg X.base
 kind:X.env.scope.kind=.function
 glob:X.env.globals=mainGlobals
 blt:X.env.builtins=builtinsNs
 above:X.s₀.heap.objs.size<=X.env.locals
 inj:∀x y c,X.env.cells.lookup x=some c->X.env.cells.lookup y=some c->x=y
 has:∀x,(X.env.kindOf x=some .cell\/X.env.kindOf x=some .free)->∃c,X.env.cells.lookup x=some c
 cab:∀x c,X.fn x=true->X.env.cells.lookup x=some c->X.s₀.heap.objs.size<=c
 hd:X.calm=true->X.A.handled=none
 frames:X.A.frames=some X.stack
 stk:X.stack=X.outer\/(X.stack=X.env::X.outer/\X.env.frame=some X.env.locals)
 exf:∀b∈X.ex,b≠X.env.locals/\∀x c,X.env.cells.lookup x=some c->c≠b
 bs:∀b o,X.base.get? b=some o->X.s₀.heap.get? b=some o/\X.H₀ b=none
 bsz:X.base.objs.size<=X.s₀.heap.objs.size
 noex:∀b o,X.base.get? b=some o->b∉X.ex
 exfs:∀b∈X.ex,b∉X.fs
 funs:X.s₀.heap.FunFrames X.base X.outer
 frf:Frf X.K X.H₀ X.fs
structure Inv (X:Cx)(pins:List (Addr×Obj))(σ:List (Option V))(H:Hp)(s:Shared):Prop where
 ok:X.Ok
 os:s.os=X.s₀.os
 bare:AllBare s.gens
 base:Un X.fs X.ex X.H₀ H X.s₀.heap s.heap
 loc:∃m,s.heap.Ns X.env.locals m/\∀(i:Nat) (x:Str) (v:V),X.N[i]?=some x->σ[i]?=some (some v)->Vis X.env.scope x->∃u,RelV v u/\Look X.env s.heap m x u
 cell:∀x c,X.env.cells.lookup x=some c->∃v,s.heap.IsCell c v
 free:H X.env.locals=none
 freeC:∀x c,X.env.cells.lookup x=some c->H c=none
 pin:∀p∈X.pn++pins,s.heap.get? p.1=some p.2/\H p.1=none/\p.1≠X.env.locals/\p.1∉X.fs/\∀v,p.2.data ≠ .cell v
 hok:HOk X.prog X.w H s.heap
 len:σ.length=X.N.length
section
variable {X:Cx}{P:List (Addr×Obj)}{f:List (Option V)}{H g:Hp}{s:Shared}{h':Heap}
def Cx.Ok.nofr (ok:X.Ok)(e:X.base.get? b=some o):b∉X.fs:=λh=>by have:=(ok.funs.mem h).1;rw[e]at this;cases this
def Inv.bs (I:Inv X P f H s):∀b o,X.base.get? b=some o->s.heap.get? b=some o/\H b=none:=λb o e=>
 ⟨I.base.keep b o (I.ok.bs b o e).1 (I.ok.bs b o e).2 (I.ok.nofr e) (I.ok.noex b o e),I.base.free b o (I.ok.bs b o e).1 (I.ok.bs b o e).2 (I.ok.noex b o e)⟩
def Inv.bk (I:Inv X P f H s):∀b o,X.base.get? b=some o->s.heap.get? b=some o:=λb o e=>(I.bs b o e).1
def Inv.mod (I:Inv X P f H s):Mod X.K X.mg X.base:=I.ok.mod
def Inv.kIn (I:Inv X P f H s):X.K.In s.heap:=I.ok.mod.kin.keeps I.bk
def Inv.fr (I:Inv X P f H s):∃m,Fr X.base X.env.locals s.heap m:=
 let ⟨m,hn,_⟩:=I.loc
 ⟨m,hn,I.bk,aA I.ok.bsz I.ok.above⟩
def Inv.lt (I:Inv X P f H s):X.env.locals<s.heap.objs.size:=let ⟨_,hn,_⟩:=I.loc;hn.lt
def Inv.sz (I:Inv X P f H s):X.s₀.heap.objs.size<=s.heap.objs.size:=aA I.ok.above (bI I.lt)
def Inv.nofs (I:Inv X P f H s){a:Addr}(h:s.heap.objs.size<=a):a∉X.fs:=λb=>by obtain⟨_,o,c,_⟩:=I.ok.funs.mem b;exact absurd (aF (az c) (aA I.sz h)) (c9 _)
def Inv.cne (I:Inv X P f H s):∀x c,X.env.cells.lookup x=some c->c≠X.env.locals:=λx c e z=>by obtain⟨v,o,d,b⟩:=I.cell x c e;obtain⟨m,⟨k,j,i,a,h,_⟩,_⟩:=I.loc;rw[z,a]at d;cases d;rw[h]at b;cases b
def Inv.funs (I:Inv X P f H s):s.heap.FunFrames X.base X.outer:=by
 have all:∀(l:List Env),(∀b∈frs l,b∈X.fs)->X.s₀.heap.FunFrames X.base l->s.heap.FunFrames X.base l:=by
  intro l
  induction l with
  |nil=>intro _ _;trivial
  |cons i r t=>rintro d ⟨k,⟨L,o,c,n,p,j⟩,q⟩;have h:L∈X.fs:=d L (by unfold frs;rw[bA,c];exact ah);obtain⟨u,e⟩:=I.base.slot L o p (I.ok.frf.f L h) h λz=>I.ok.exfs L z h;exact⟨k,⟨L,_,c,n,e,j⟩,t (λb a=>d b (by unfold frs;rw[bA,c];exact ad _ a)) q⟩
 exact all X.outer (λ_ a=>a) I.ok.funs
def Inv.stack (I:Inv X P f H s):s.heap.FunFrames X.base X.stack:=by
 rcases I.ok.stk with e|⟨e,hf⟩
 .rw[e];exact I.funs
 .rw[e];obtain⟨m,h,_⟩:=I.loc;refine .cons (by rw[I.ok.kind];decide) hf h ?_ I.funs;exact Heap.get?_none_of_le (aA I.ok.bsz I.ok.above)
def Inv.stkSub (I:Inv X P f H s):∀b∈frs X.stack,b∈X.env.locals::X.fs:=λb h=>by
 rcases I.ok.stk with e|⟨e,hf⟩
 .rw[e]at h;exact ad _ h
 .rw[e]at h;unfold frs at h;rw[bA,hf]at h;exact h
def Inv.stkFree (I:Inv X P f H s):∀b∈frs X.stack,H b=none:=λb h=>by
 rcases aG.mp (I.stkSub b h) with e|h
 .rw[e];exact I.free
 .obtain⟨_,o,a,_⟩:=I.ok.funs.mem h;exact I.base.free b o a (I.ok.frf.f b h) λz=>I.ok.exfs b z h
def Inv.step {g':Array GenState}{t':Nat}{d':Drawn}{ch:List Addr}(I:Inv X P f H s)
  (j:∀b∈ch,(b∈X.ex\/X.s₀.heap.objs.size<=b)/\b≠X.env.locals/\(∀x c,X.env.cells.lookup x=some c->c≠b)/\∀p∈X.pn++P,p.1≠b)
  (t:∀b o,b≠X.env.locals->b∉X.fs->b∉ch->s.heap.get? b=some o->H b=none->h'.get? b=some o)
  (B:∀b o,b≠X.env.locals->b∈X.fs->b∉ch->s.heap.get? b=some o->H b=none->∃S,h'.get? b=some { o with slots:=S }) (free:∀b o,b∉ch->s.heap.get? b=some o->H b=none->g b=none)
  (D:∀b o,b∉ch->s.heap.get? b=some o->∃L,h'.get? b=some L)
  (N:∀b xs,H b=some (.tup xs)->g b=some (.tup xs)) (G:∀b o u,H b=some (.frz o u)->g b=some (.frz o u)) (M:∀b O,H b=some (.tbl O)->∃more:Array Value,g b=some (.tbl (O++more)))
  (ns:∀m,s.heap.Ns X.env.locals m->h'.Ns X.env.locals m) (R:HOk X.prog X.w g h') (hg:AllBare g') :
  Inv X P f g { s with heap:=h',gens:=g',drawn:=d',toks:=t' }:=by
 have J:∀b o,X.s₀.heap.get? b=some o->b≠X.env.locals:=λb o e=>bh (aF (az e) I.ok.above);have A:∀b o,X.s₀.heap.get? b=some o->b∉X.ex->b∉ch:=λb o e h C=>by
  rcases (j b C).1 with z|z
  .exact h z
  .exact absurd (aF (az e) z) (c9 _)
 have a:∀x c,X.env.cells.lookup x=some c->∀v,s.heap.IsCell c v->h'.IsCell c v:=λx c e v ⟨o,E,Q⟩=>by
  have w:c∉ch:=λz=>(j c z).2.2.1 x c e rfl;by_cases U:c∈X.fs
  .obtain⟨S,q⟩:=B c o (I.cne x c e) U w E (I.freeC x c e);exact⟨_,q,Q⟩
  .exact⟨o,t c o (I.cne x c e) U w E (I.freeC x c e),Q⟩
 refine⟨I.ok,I.os,hg,⟨λb o e n C h=>?_,λb o e n C h=>?_,λb o e n h=>?_,λb o e h=>?_,λb xs e=>N b xs (I.base.tups b xs e),λb o xs e=>G b o xs (I.base.frzs b o xs e),λb O e=>?_⟩,?_,λx c e=>?_,?_,λx c e=>?_,λp Y=>?_,R,I.len⟩
 .exact t b o (J b o e) C (A b o e h) (I.base.keep b o e n C h) (I.base.free b o e n h)
 .obtain⟨S,y⟩:=I.base.slot b o e n C h;obtain⟨T,F⟩:=B b _ (J b o e) C (A b o e h) y (I.base.free b o e n h);exact⟨T,F⟩
 .obtain⟨L,y⟩:=I.base.there b o e h;exact free b L (A b o e h) y (I.base.free b o e n h)
 .obtain⟨L,y⟩:=I.base.there b o e h;exact D b L (A b o e h) y
 .obtain⟨m1,y⟩:=I.base.tbls b O e;obtain⟨m2,F⟩:=M b _ y;exact⟨m1++m2,by rw[F,zT.append_assoc]⟩
 .obtain⟨m,hn,hl⟩:=I.loc;refine⟨m,ns m hn,λi x v y F e3=>?_⟩;obtain⟨u,r,l⟩:=hl i x v y F e3;refine⟨u,r,?_⟩;rcases l with l|⟨k,c,e,z⟩
  .exact .inl l
  .exact .inr ⟨k,c,e,a x c e _ z⟩
 .obtain⟨v,z⟩:=I.cell x c e;exact⟨v,a x c e v z⟩
 .obtain⟨m,⟨o,_,_,E,_⟩,_⟩:=I.loc;exact free _ o (λz=>(j _ z).2.1 rfl) E I.free
 .obtain⟨v,o,E,Q⟩:=I.cell x c e;exact free c o (λz=>(j c z).2.2.1 x c e rfl) E (I.freeC x c e)
 .obtain⟨e,n,ne,Z,d⟩:=I.pin p Y;have w:p.1∉ch:=λz=>(j p.1 z).2.2.2 p Y rfl;exact⟨t p.1 p.2 ne Z w e n,free p.1 p.2 w e n,ne,Z,d⟩
def Inv.un {t':Nat}(I:Inv X P f H s)(u:Un X.fs [] H g s.heap h')(i:HOk X.prog X.w g h'):Inv X P f g { s with heap:=h',toks:=t' }:=by
 obtain⟨m,⟨o,t,q,j,r⟩,_⟩:=id I.loc;obtain⟨x,k⟩:=u.any j I.free (by simp);exact I.step (g':=s.gens) (d':=s.drawn) (ch:=[]) (λ_ z=>nomatch z) (λb o _ d _ e n=>u.keep b o e n d (by simp)) (λb o _ d _ e n=>u.slot b o e n d (by simp)) (λb o _ e n=>u.free b o e n (by simp)) (λb o _ e=>u.there b o e (by simp)) u.tups u.frzs u.tbls (λv l=>by
  obtain⟨w,c,a,h,p⟩:=l;rw[j]at h;cases h;exact⟨_,c,a,k,p⟩) i I.bare
def Inv.call {g':Array GenState}{t':Nat}{d':Drawn}{ch:List Addr}(I:Inv X P f H s)(u:Un (frs X.stack) ch H g s.heap h')(l:HOk X.prog X.w g h')(v:AllBare g')
  (a:∀b∈ch,(b∈X.ex\/X.s₀.heap.objs.size<=b)/\b≠X.env.locals/\(∀x c,X.env.cells.lookup x=some c->c≠b)/\∀p∈X.pn++P,p.1≠b) :
  Inv X P f g { s with heap:=h',gens:=g',drawn:=d',toks:=t' }:=by
 obtain⟨m,⟨o,B,A,q,r⟩,_⟩:=id I.loc;obtain⟨E,k⟩:=u.any q I.free λz=>(a _ z).2.1 rfl;exact I.step (ch:=ch) a (λb o k t h e n=>u.keep b o e n (λz=>(aG.mp (I.stkSub b z)).elim k t) h) (λb o _ _ h e n=>u.any e n h) (λb o h e n=>u.free b o e n h) (λb o h e=>u.there b o e h) u.tups u.frzs u.tbls (λC w=>by
  obtain⟨D,j,i,d,y⟩:=w;rw[q]at d;cases d;exact⟨_,j,i,k,y⟩) l v
def Inv.turned {t':Nat}{i:Addr}(I:Inv X P f H s)(k:∀b o,b≠i->s.heap.get? b=some o->h'.get? b=some o)(A:H i=none)(d:i≠X.env.locals)
  (h1:i∈X.ex\/X.s₀.heap.objs.size<=i) (h2:∀x c,X.env.cells.lookup x=some c->c≠i) (t:∀p∈X.pn++P,p.1≠i):Inv X P f H { s with heap:=h',toks:=t' }:=by
 have a:∀b u,H b=some u->b≠i:=λb u e z=>by rw[z,A]at e;cases e
 refine I.step (g':=s.gens) (d':=s.drawn) (ch:=[i]) (λb w=>?_) (λb o _ _ h e _=>k b o (λz=>h (by simp[z])) e) (λb o _ _ h e _=>⟨o.slots,k b o (λz=>h (by simp[z])) e⟩) (λ_ _ _ _ n=>n)
  (λb o h e=>⟨o,k b o (λz=>h (by simp[z])) e⟩) (λ_ _ e=>e) (λ_ _ _ e=>e) (λb C e=>⟨#[],by rw[e];simp⟩) (λm y=>?_) (λb u e=>?_) I.bare
 .have e:b=i:=by simpa using w
  subst e;exact⟨h1,d,h2,t⟩
 .obtain⟨o,l,j,B,r⟩:=y;exact⟨o,l,j,k _ o (cw d) B,r⟩
 .refine(I.hok b u e).stay (λc v h q=>k c v ?_ q) (λ_ q=>q) λ_ _ q=>q;rcases h with z|z
  .rw[z];exact a b u e
  .exact a c _ z
def Inv.tok (I:Inv X P f H s)(t:Nat):Inv X P f H { s with toks:=t }:=I.un (h':=s.heap) (t':=t) Un.refl I.hok
def Inv.kept (I:Inv X P f H s)(k:∀b u,s.heap.get? b=some u->h'.get? b=some u):Inv X P f H { s with heap:=h',toks:=t' }:=I.un (Un.kept k) (I.hok.kept k)
def Inv.laid {a:Addr}{o:HO}{t':Nat}(I:Inv X P f H s)(k:∀b u,s.heap.get? b=some u->h'.get? b=some u)(h:s.heap.objs.size<=a)(new:ObjOk X.prog X.w (upd H a o) h' a o) :
  Inv X P f (upd H a o) { s with heap:=h',toks:=t' }:=I.un (Un.laid k h (I.hok.fresh h)) (I.hok.laid k h new)
def Inv.write (I:Inv X P f H s)(mu:Mut (H x))(a:e=x\/H e=some (.own x))(k:∀b u,b≠e->s.heap.get? b=some u->h'.get? b=some u)(h:∃u,h'.get? e=some u)
  (new:ObjOk X.prog X.w (upd H x o) h' x o):Inv X P f (upd H x o) { s with heap:=h',toks:=t' }:=I.un (Un.write mu a k h) (I.hok.write mu a k h new)
def Inv.weak (I:Inv X P f H s)(h:σ'.length=f.length)(w:∀(i:Nat) v,σ'[i]?=some (some v)->f[i]?=some (some v)):Inv X P σ' H s:=
 ⟨I.ok,I.os,I.bare,I.base,let ⟨m,hn,hl'⟩:=I.loc;⟨m,hn,λi x v e a b=>hl' i x v e (w i v a) b⟩,I.cell,I.free,I.freeC,I.pin,I.hok,h.trans I.len⟩
def Inv.pins_of (I:Inv X P f H s)(h:∀p∈pins',s.heap.get? p.1=some p.2/\H p.1=none/\p.1≠X.env.locals/\p.1∉X.fs/\∀v,p.2.data ≠ .cell v):Inv X pins' f H s:=
 ⟨I.ok,I.os,I.bare,I.base,I.loc,I.cell,I.free,I.freeC,λp a=>(cY.mp a).elim (λz=>I.pin p (cQ _ z)) (h p),I.hok,I.len⟩
def nodup_ix {N:Ls}(h:N.Nodup){i j:Nat}{x:Str}(a:N[i]?=some x)(b:N[j]?=some x):i=j:=by obtain⟨h1,e⟩:=ao.mp a;obtain⟨h2,c⟩:=ao.mp b;exact(List.getElem_inj h).mp (e.trans c.symm)
def store_ok2 {M:Model}{A:Around}{E:Value->Shared->Prop}{i:Nat}{x:Str}{v:V}{u:Value}{Q:Unit->Shared->Prop}(I:Inv X P f H s)(hN:X.N.Nodup)(T:X.N[i]?=some x)(C:Loc X.env.scope x)(r:RelV v u)
  (h:∀s',Inv X P (f.set i (some v)) H s' -> (∃a,Heap.SameBut a s.heap s'.heap/\(a=X.env.locals\/X.env.cells.lookup x=some a))->Q () s') (hf:X.fn x=true\/X.env.scope.names.lookup x=some .local:=by walk_at "w"):wpAny M A (storeName X.env x u) Q E s:=by
 obtain⟨m,hn,hl⟩:=id I.loc;have S:(X.env.scope.kind == .class || (X.env.scope.kind == .module && X.env.locals != X.env.globals))=false:=by rw[I.ok.kind];rfl
 have G:i<f.length:=by rw[I.len];exact(ao.mp T).1
 have cne:=I.cne;have w:∀{a:Addr} {h':Heap},(∃o,s.heap.get? a=some o/\H a=none)->Heap.SameBut a s.heap h' -> HOk X.prog X.w H h':=λ{a h'} ha l b ob e=>by
  obtain⟨_,_,D⟩:=ha;refine(I.hok b ob e).stay (λc w' B q=>(l.2 c ?_).trans q) (λ_ q=>q) λ_ _ q=>q;rintro rfl;rcases B with rfl|B
  .rw[D]at e;cases e
  .rw[D]at B;cases B
 rcases C with hk|hk
 .refine wpAny_storeName_local hk hn (λh' hn' l=>?_) S;obtain⟨oL,_,_,hoL,_⟩:=id hn;refine h _ ⟨I.ok,I.os,I.bare,⟨λb o e n J C=>?_,λb o e n J C=>?_,I.base.free,λb o e C=>?_,I.base.tups,I.base.frzs,I.base.tbls⟩,⟨_,hn',λj y v' t F e3=>?_⟩,λy c e=>?_,I.free,I.freeC,λp hp=>?_,w ⟨oL,hoL,I.free⟩ l,by simpa using I.len⟩ ⟨_,l,.inl rfl⟩
  .exact(l.2 b (bh (aF (az e) I.ok.above))).trans (I.base.keep b o e n J C)
  .obtain⟨sl,t⟩:=I.base.slot b o e n J C;exact⟨sl,(l.2 b (bh (aF (az e) I.ok.above))).trans t⟩
  .obtain⟨o',t⟩:=I.base.there b o e C;exact⟨o',(l.2 b (bh (aF (az e) I.ok.above))).trans t⟩
  .by_cases N:j=i
   .subst N;rw[T]at t;cases t;rw[fA G]at F;cases F;exact⟨u,r,.inl ⟨hk,by simp⟩⟩
   .rw[eC (cw N)]at F;obtain⟨u',r',q⟩:=hl j y v' t F e3;refine⟨u',r',?_⟩;rcases q with⟨k,e⟩|⟨k,c,e,z⟩
    .refine .inl ⟨k,?_⟩;have:y≠x:=λe=>N (nodup_ix hN t (e ▸ T));simp[this,e]
    .exact .inr ⟨k,c,e,z.sameBut l (cne y c e)⟩
  .obtain⟨w',z⟩:=I.cell y c e;exact⟨w',z.sameBut l (cne y c e)⟩
  .obtain⟨e,n,ne,nf,d⟩:=I.pin p hp;exact⟨(l.2 p.1 ne).trans e,n,ne,nf,d⟩
 .have L:X.fn x=true:=by
   rcases hf with z|z
   .exact z
   .rw[z]at hk;cases hk
  obtain⟨c,B⟩:=I.ok.has x (.inl hk);obtain⟨w',z⟩:=I.cell x c B;refine wpAny_storeName_cell I.ok.kind hk B z (λh' O l=>?_);obtain⟨oc,U,Y⟩:=id z;refine h { s with heap:=h' } ⟨I.ok,I.os,I.bare,⟨λb o e n J C=>?_,λb o e n J C=>?_,I.base.free,λb o e C=>?_,I.base.tups,I.base.frzs,I.base.tbls⟩,⟨m,hn.sameBut l (cw (cne x c B)),λj y v' t F e3=>?_⟩,λy Z e=>?_,I.free,I.freeC,λp hp=>?_,w ⟨oc,U,I.freeC x c B⟩ l,by simpa using I.len⟩ ⟨c,l,.inr B⟩
  .exact(l.2 b (bh (aF (az e) (I.ok.cab x c L B)))).trans (I.base.keep b o e n J C)
  .obtain⟨sl,t⟩:=I.base.slot b o e n J C;exact⟨sl,(l.2 b (bh (aF (az e) (I.ok.cab x c L B)))).trans t⟩
  .obtain⟨o',t⟩:=I.base.there b o e C;exact⟨o',(l.2 b (bh (aF (az e) (I.ok.cab x c L B)))).trans t⟩
  .by_cases N:j=i
   .subst N;rw[T]at t;cases t;rw[fA G]at F;cases F;exact⟨u,r,.inr ⟨.inl hk,c,B,O⟩⟩
   .rw[eC (cw N)]at F;obtain⟨u',r',q⟩:=hl j y v' t F e3;refine⟨u',r',?_⟩;rcases q with q|⟨k,Z,e,z'⟩
    .exact .inl q
    .refine .inr ⟨k,Z,e,z'.sameBut l ?_⟩;rintro rfl;exact N (nodup_ix hN t (I.ok.inj _ _ _ e B ▸ T))
  .by_cases R:Z=c
   .subst R;exact⟨_,O⟩
   .obtain⟨w2,z2⟩:=I.cell y Z e;exact⟨w2,z2.sameBut l R⟩
  .obtain⟨e,n,ne,nf,d⟩:=I.pin p hp;refine⟨(l.2 p.1 ?_).trans e,n,ne,nf,d⟩;intro q;rw[q,U]at e;have q':oc=p.2:=aE e;exact d w' (by rw[<- q'];exact Y)
def store_ok (I:Inv X P f H s)(b:X.N.Nodup)(d:X.N[i]?=some x)(e:Loc X.env.scope x)(r:RelV v u)
  (h:∀s',Inv X P (f.set i (some v)) H s' -> Q () s') (c:X.fn x=true\/X.env.scope.names.lookup x=some .local:=by walk_at "w"):wpAny M A (storeName X.env x u) Q E s:=
 store_ok2 I b d e r (λs' a _=>h s' a) c
def Inv.call' (I:Inv X P f H s)(i:s'.os=s.os)(u:Un (frs X.stack) ch H g s.heap s'.heap)(a:HOk X.prog X.w g s'.heap)(d:AllBare s'.gens)
  (h:∀b∈ch,(b∈X.ex\/X.s₀.heap.objs.size<=b)/\b≠X.env.locals/\(∀x c,X.env.cells.lookup x=some c->c≠b)/\∀p∈X.pn++P,p.1≠b):Inv X P f g s':=by
 obtain⟨h',g',d',t',o⟩:=s';have e:o=s.os:=i;subst e;exact I.call (g':=g') (t':=t') (d':=d') u a d h
end
abbrev St:=List (Option V)
abbrev TE:=St->Hp->VK->Prop
abbrev TT:=St->Hp->(Bool->Hp->Prop)->Prop
abbrev TA:=St->Hp->(List V->Hp->Prop)->Prop
structure Ends where
 nx:St->Hp->Prop
 rt:VK
 bk:St->Hp->Prop:=λ_ _=>False
 ct:St->Hp->Prop:=λ_ _=>False
abbrev TS:=Ends->St->Hp->Prop
def EP (X:Cx)(p:List (Addr×Obj))(a:St)(Q:VK)(u:Value)(s':Shared):Prop:=∃v h,Inv X p a h s'/\RelV v u/\Q v h
def TP (X:Cx)(p:List (Addr×Obj))(a:St)(Q:Bool->Hp->Prop)(b:Bool)(s':Shared):Prop:=∃h,Inv X p a h s'/\Q b h
def AP (X:Cx)(p:List (Addr×Obj))(a:St)(Q:List V->Hp->Prop)(us:List Value)(s':Shared):Prop:=∃v h,Inv X p a h s'/\Vals v us/\Q v h
def SP (X:Cx)(p:List (Addr×Obj))(D:Ends)(f:Flow)(s':Shared):Prop:=
 match f with
 | .next=>∃a h,Inv X p a h s'/\D.nx a h
 | .brk=>∃a h,Inv X p a h s'/\D.bk a h
 | .cont=>∃a h,Inv X p a h s'/\D.ct a h
 | .ret u=>∃v a h,Inv X p a h s'/\RelV v u/\D.rt v h
def PE (X:Cx)(e:Expr)(t:TE):Prop:=
 ∀(p:List (Addr×Obj)) (s:Shared) (σ:St) (H:Hp) (Q:VK),Inv X p σ H s->t σ H Q->wpAny (model X.prog X.w) X.A (eval e X.env) (EP X p σ Q) X.xe s
def PT (X:Cx)(e:Expr)(t:TT):Prop:=
 ∀(p:List (Addr×Obj)) (s:Shared) (σ:St) (H:Hp) (Q:Bool->Hp->Prop),Inv X p σ H s->t σ H Q->wpAny (model X.prog X.w) X.A (isTrue e X.env (eval e X.env)) (TP X p σ Q) X.xe s
def PW (X:Cx)(e:Expr)(t:TT):Prop:=
 ∀(w:Sem Value) (pins:List (Addr×Obj)) (s:Shared) (σ:St) (H:Hp) (Q:Bool->Hp->Prop),Inv X pins σ H s->t σ H Q->wpAny (model X.prog X.w) X.A (isTrue e X.env w) (TP X pins σ Q) X.xe s
def PW.pt (h:PW X e t):PT X e t:=h _
def PA (X:Cx)(e:List Expr)(t:TA):Prop:=
 ∀(pos:Pos) (pins:List (Addr×Obj)) (s:Shared) (σ:St) (H:Hp) (Q:List V->Hp->Prop),Inv X pins σ H s->t σ H Q->wpAny (model X.prog X.w) X.A (spliced (backTo pos (starEach e X.env))) (AP X pins σ Q) X.xe s
def PS (X:Cx)(a:Stmt)(t:TS):Prop:=
 ∀(p:List (Addr×Obj)) (s:Shared) (σ:St) (H:Hp) (D:Ends),Inv X p σ H s->t D σ H->wpAny (model X.prog X.w) X.A (exec a X.env) (SP X p D) X.xe s
def PSs (X:Cx)(a:List Stmt)(t:TS):Prop:=
 ∀(p:List (Addr×Obj)) (s:Shared) (σ:St) (H:Hp) (D:Ends),Inv X p σ H s->t D σ H->wpAny (model X.prog X.w) X.A (execs a X.env) (SP X p D) X.xe s
def thn {b:Type}{t:Sem b}{Q q:b->Shared->Prop}{M:Model}{A:Around}{E:Value->Shared->Prop}{s:Shared}(h:wpAny M A t Q E s)(c:∀a s,Q a s->q a s):wpAny M A t q E s:=fZ h c λ_ _ x=>x
section
variable {X:Cx}
def tVar (i:Nat):TE:=λa H Q=>∃v,a[i]?=some (some v)/\Q v H
def tC (v:V):TE:=λ_ H Q=>Q v H
def pe_var (j:X.N[i]?=some x)(q:Vis X.env.scope x)(f:(x == ("__debug__":Str))=false:=by decide)(d:(x == ("__classdict__":Str))=false:=by decide):PE X (.Name x pos) (tVar i):=by
 rintro p s t H Q I ⟨v,e,h⟩;obtain⟨m,o,k⟩:=I.loc;obtain⟨u,r,l⟩:=k i x v j e q;have fin:EP X p t Q u s:=⟨v,H,I,r,h⟩;rcases l with⟨b,n⟩|⟨b,c,g,a⟩
 .exact iC (eE I.ok.kind b o n fin) f
 .rcases b with b|b
  .exact iC (wpAny_loadName_cell I.ok.kind b g a fin) f
  .exact iC (wpAny_loadName_free I.ok.kind b g a fin d) f
def pe_int:PE X (.Constant (.int i) j pos) (tC (.int i)):=λ_ _ _ H _ I h=>gz ⟨.int i,H,I.tok _,⟨_,rfl⟩,h⟩
def pe_bl:PE X (.Constant (.bool b) j pos) (tC (.bl b)):=λ_ _ _ H _ I h=>Constant_bool ⟨.bl b,H,I,rfl,h⟩
def pe_non:PE X (.Constant .none j pos) (tC .non):=λ_ _ _ H _ I h=>Constant_none ⟨.non,H,I,rfl,h⟩
def pe_str:PE X (.Constant (.str x) j pos) (tC (.str x)):=λ_ _ _ H _ I h=>Calls.Constant_str ⟨.str x,H,I.tok _,⟨_,rfl⟩,h⟩
def Gl (X:Cx)(x:Str):Prop:=X.env.kindOf x=some .globalImplicit
def ld_glob (I:Inv X p d H s)(b:Gl X x)(c:X.mg x=some u)(h:Q u s)
  (a:(x == ("__debug__":Str))=false:=by decide):wpAny (model X.prog X.w) X.A (eval (.Name x pos) X.env) Q E s:=
 d7 I.ok.kind b (Calls.loadGlobal_global (by rw[I.ok.glob];exact I.mod.glob.keeps I.bk) c h) a
def ld_blt (I:Inv X p f H s)(b:Gl X x)(c:X.mg x=none)(e:bootBuiltins x=some u)(h:Q u s)
  (d:x≠"__name__":=by decide) (a:(x == ("__debug__":Str))=false:=by decide):wpAny (model X.prog X.w) X.A (eval (.Name x pos) X.env) Q E s:=by
 obtain⟨m,h1,h2⟩:=I.mod.blt;exact d7 I.ok.kind b (Calls.loadGlobal_builtin (by rw[I.ok.glob];exact I.mod.glob.keeps I.bk) c (by rw[I.ok.blt];exact h1.keeps I.bk) ((h2 x d).trans e) h) a
def pe_glob (b:Gl X x)(c:X.mg x=some u)(r:RelV v u)(a:(x == ("__debug__":Str))=false:=by decide):PE X (.Name x pos) (tC v):=
 λ_ _ _ H _ I h=>ld_glob I b c ⟨v,H,I,r,h⟩ a
def pe_bltn (b:Gl X x)(c:X.mg x=none)(e:bootBuiltins x=some u)(r:RelV v u)(d:x≠"__name__":=by decide)(a:(x == ("__debug__":Str))=false:=by decide):PE X (.Name x pos) (tC v):=
 λ_ _ _ H _ I h=>ld_blt I b c e ⟨v,H,I,r,h⟩ d a
variable {a b:Expr}{f k:TE}{pos:Pos}
def tB (t:TE):TT:=λd H Q=>t d H λx h=>∃c,x=.bl c/\Q c h
def pt_val (h:PE X e t)(g:∀w,isTrue e X.env w=(do let v <- w;standAt e.pos;holding [v] (truthy v)):=by intro _;rfl):PT X e (tB t):=by intro p s m H Q I j;refine isTrue_plain (thn (h p s m H _ I j) λv n ⟨x,c,i,r,l⟩=>?_) (g _);obtain⟨d,rfl,q⟩:=l;cases r;exact dW ⟨c,i,q⟩
variable {T g:TT}{rest:List Expr}
def tAnd (t u:TT):TT:=λd H Q=>t d H λc h=>if c=true then u d h Q else Q false h
def tOr (t u:TT):TT:=λd H Q=>t d H λc h=>if c=true then Q true h else u d h Q
def tNot (t:TT):TT:=λd H Q=>t d H λc h=>Q (!c) h
def pw_and1 (d:PT X a T):PW X (.BoolOp .And [a] pos) T:=by
 intro w p s i H Q I h;refine isTrue_and (thn (d p s i H Q I h) λc j e=>?_);cases c with
 |true=>exact isTrue_and_nil e
 |false=>exact e
def pw_or1 (d:PT X a T):PW X (.BoolOp .Or [a] pos) T:=by
 intro w p s i H Q I h;refine isTrue_or (thn (d p s i H Q I h) λc j e=>?_);cases c with
 |false=>exact isTrue_or_nil e
 |true=>exact e
def pw_and (j:PT X a T)(l:PW X (.BoolOp .And (b::rest) pos) g):PW X (.BoolOp .And (a::b::rest) pos) (tAnd T g):=by
 intro w p s e H Q I h;refine isTrue_and (thn (j p s e H _ I h) λc m ⟨d,i,q⟩=>?_);cases c with
 |true=>exact l w p m e d Q i q
 |false=>exact⟨d,i,q⟩
def pw_or (j:PT X a T)(l:PW X (.BoolOp .Or (b::rest) pos) g):PW X (.BoolOp .Or (a::b::rest) pos) (tOr T g):=by
 intro w p s e H Q I h;refine isTrue_or (thn (j p s e H _ I h) λc m ⟨d,i,q⟩=>?_);cases c with
 |true=>exact⟨d,i,q⟩
 |false=>exact l w p m e d Q i q
def pt_not (e:PT X a T):PT X (.UnaryOp .Not a pos) (tNot T):=by intro p s i H Q I h;exact isTrue_not (e p s i H (λc d=>Q (!c) d) I h)
def tAndV (f k:TE):TE:=λd H Q=>f d H λx h=>∃c,x=.bl c/\if c=true then k d h Q else Q (.bl false) h
def tNotV (f:TE):TE:=λd H Q=>f d H λx h=>∃c,x=.bl c/\Q (.bl (!c)) h
def pe_one (h:PE X a t):PE X (.BoolOp op [a] pos) t:=λp s d H Q I c=>BoolOp_one (h p s d H Q I c)
def pe_and (j:PE X a f)(l:PE X (.BoolOp .And (b::rest) pos) k):PE X (.BoolOp .And (a::b::rest) pos) (tAndV f k):=by
 intro p s e H Q I h;refine BoolOp_and (thn (j p s e H _ I h) λv m ⟨x,d,i,r,q⟩=>?_);obtain⟨c,rfl,q⟩:=q;cases r;refine dW ?_;cases c with
 |true=>exact l p m e d Q i q
 |false=>exact⟨.bl false,d,i,rfl,q⟩
def pe_not (e:PE X a f):PE X (.UnaryOp .Not a pos) (tNotV f):=by intro p s j H Q I h;refine UnaryOp_ (thn (e p s j H _ I h) λv l ⟨x,d,i,r,q⟩=>?_);obtain⟨c,rfl,q⟩:=q;cases r;exact not_of (dW ⟨.bl (!c),d,i,rfl,q⟩)
def tIf (t:TT)(f k:TE):TE:=λd H Q=>t d H λc h=>if c=true then f d h Q else k d h Q
def pe_ifExp (o:PT X c T)(m:PE X a f)(n:PE X b k):PE X (.IfExp c a b pos) (tIf T f k):=by
 intro p s e H Q I h;refine wpAny_IfExp (thn (o p s e H _ I h) λd l ⟨i,j,q⟩=>?_);cases d with
 |true=>exact m p l e i Q j q
 |false=>exact n p l e i Q j q
end
def SqT (K:Fg)(H:Hp)(a:Addr)(xs:List V):Prop:=
 Rd H a (.tup xs) \/
  ∃(o:Obj) (i:Array Value) (n:Nat),K.lookup a=some o/\o.cls=.type "tuple"/\o.data=.seq i n/\i.size<=sizeLine/\Vals xs i.toList
def absV:Value->Option V
 | .none=>some .non
 | .bool b=>some (.bl b)
 | .int i _=>some (.int i)
 | .str x _=>some (.str x)
 | .bytes b _=>some (.byt b)
 | .float b _=>some (.flt b)
 | .ref a=>some (.ref a)
 | .type n=>some (.ty n)
 |_=>none
def RelV.abs (r:RelV x u):absV u=some x:=by
 cases x with
 |non=>cases r;rfl
 |bl _=>cases r;rfl
 |int _=>obtain⟨t,rfl⟩:=r;rfl
 |str _=>obtain⟨t,rfl⟩:=r;rfl
 |byt _=>obtain⟨t,rfl⟩:=r;rfl
 |flt _=>obtain⟨t,rfl⟩:=r;rfl
 |ref _=>cases r;rfl
 |ty _=>cases r;rfl
def RelV.inj (r:RelV x u)(q:RelV y u):x=y:=aE (r.abs.symm.trans q.abs)
def Vals.inj:∀{xs ys:List V} {us:Lv},Vals xs us->Vals ys us->xs=ys
 |_,_,_,.nil,.nil=>rfl
 |_,_,_,.cons r t,.cons r' t'=>by rw[r.inj r',Vals.inj t t']
section
variable {X:Cx}{P:List (Addr×Obj)}{b:St}{H:Hp}{s:Shared}{a:Addr}{xs ys:List V}
def SqL.of {K:Fg}(h:H a=some (.lst xs)):SqL K H a xs:=.inl (.inl h)
def SqT.of {K:Fg}(h:H a=some (.tup xs)):SqT K H a xs:=.inl (.inl h)
def Inv.list (I:Inv X P b H s)(h:SqL X.K H a xs):∃its:List Value,Vals xs its/\PlainL s.heap a its.toArray/\xs.length<=sizeLine:=by
 rcases h with h|⟨o,its,n,hk,hc,hd,hs,hz,r⟩
 .obtain⟨z,its,n,r,e⟩:=h.ok I.hok;exact⟨its,r,⟨_,n,e,rfl,rfl,rfl⟩,z⟩
 .refine⟨its.toList,r,⟨o,n,I.kIn a o hk,hc,hd,by simpa using hs⟩,?_⟩;have e:=r.length;simp only[de]at e;lia
def Inv.tuple (I:Inv X P b H s)(h:SqT X.K H a xs):∃its:List Value,Vals xs its/\IsTup s.heap a its.toArray/\xs.length<=sizeLine:=by
 rcases h with h|⟨o,its,n,hk,hc,hs,hz,r⟩
 .obtain⟨z,its,r,p⟩:=h.ok I.hok;exact⟨its,r,p,z⟩
 .refine⟨its.toList,r,⟨o,I.kIn a o hk,hc,n,by simpa using hs⟩,?_⟩;have e:=r.length;simp only[de]at e;lia
def Inv.list_inj (I:Inv X P b H s)(h:SqL X.K H a xs)(h':SqL X.K H a ys):xs=ys:=by
 obtain⟨c,r,⟨o,n,e,_,_,d⟩,_⟩:=I.list h;obtain⟨i,j,⟨l,k,g,_,_,f⟩,_⟩:=I.list h';rw[e]at g;cases g;rw[d]at f;injection f with d1 _;have:c=i:=by simpa using congrArg Array.toList d1
 subst this;exact r.inj j
end
abbrev Cx.wish (X:Cx)(E:Value->Shared->Prop):Cx:={ X with xe:=E }
abbrev Cx.nox (X:Cx):Cx:=X.wish λ_ _=>False
def Cx.Ok.wish {X:Cx}(ok:X.Ok)(E:Value->Shared->Prop):(X.wish E).Ok:=
 ⟨ok.mod,ok.kind,ok.glob,ok.blt,ok.above,ok.inj,ok.has,ok.cab,ok.hd,ok.frames,ok.stk,ok.exf,ok.bs,ok.bsz,ok.noex,ok.exfs,ok.funs,ok.frf⟩
def Cx.Ok.unwish {X:Cx}{E:Value->Shared->Prop}(ok:(X.wish E).Ok):X.Ok:=
 ⟨ok.mod,ok.kind,ok.glob,ok.blt,ok.above,ok.inj,ok.has,ok.cab,ok.hd,ok.frames,ok.stk,ok.exf,ok.bs,ok.bsz,ok.noex,ok.exfs,ok.funs,ok.frf⟩
section
variable {X:Cx}{p:List (Addr×Obj)}{a:St}{H:Hp}{s:Shared}{E:Value->Shared->Prop}
def Inv.wish (I:Inv X p a H s)(E:Value->Shared->Prop):Inv (X.wish E) p a H s:=⟨I.ok.wish E,I.os,I.bare,I.base,I.loc,I.cell,I.free,I.freeC,I.pin,I.hok,I.len⟩
def Inv.unwish (I:Inv (X.wish E) p a H s):Inv X p a H s:=⟨I.ok.unwish,I.os,I.bare,I.base,I.loc,I.cell,I.free,I.freeC,I.pin,I.hok,I.len⟩
def SP.unwish (h:SP (X.wish E) p D f s'):SP X p D f s':=by
 cases f with
 |next=>obtain⟨b,c,I,q⟩:=h;exact⟨b,c,I.unwish,q⟩
 |brk=>obtain⟨b,c,I,q⟩:=h;exact⟨b,c,I.unwish,q⟩
 |cont=>obtain⟨b,c,I,q⟩:=h;exact⟨b,c,I.unwish,q⟩
 |ret u=>obtain⟨v,b,c,I,r,q⟩:=h;exact⟨v,b,c,I.unwish,r,q⟩
def PSs.nox {b:List Stmt}{t:TS}(h:PSs X.nox b t):PSs X b t:=λp s a H D I c=>
 fZ (h p s a H D (I.wish _) c) (λ_ _ q=>q.unwish) λ_ _ z=>False.elim z
end
section
variable {X:Cx}{S:Stmt}{rest:List Stmt}{t u:TS}{e:Expr}{T:TE}{pos:Pos}
def tNext:TS:=λD a H=>D.nx a H
def tSeq (t u:TS):TS:=λD a H=>t { D with nx:=u D } a H
def pss_nil:PSs X [] tNext:=λ_ _ a H _ I h=>f6 ⟨a,H,I,h⟩
def pss_cons (h1:PS X S t)(h2:PSs X rest u):PSs X (S::rest) (tSeq t u):=by
 intro p s d H D I h;refine wpAny_execs_cons (thn (h1 p s d H { D with nx:=u D } I h) λf c q=>?_);cases f with
 |next=>obtain⟨a,b,i,q⟩:=q;exact h2 p c a b D i q
 |ret v=>exact q
 |brk=>exact q
 |cont=>exact q
def pss_one (h1:PS X S t):PSs X [S] t:=by
 intro p s a H D I h;refine wpAny_execs_cons (thn (h1 p s a H D I h) λf b q=>?_);cases f with
 |next=>exact f6 q
 |ret v=>exact q
 |brk=>exact q
 |cont=>exact q
def Inv.quiet (I:Inv X p a H s):interactive X.env=false:=by simp[interactive,I.ok.kind]
def tDrop (T:TE):TS:=λD a H=>T a H λ_ h=>D.nx a h
def ps_expr (c:PE X e T)(d:swapsWith e none pos.line X.env=pure false:=by rfl):PS X (.Expr e pos) (tDrop T):=by intro p s a H D I h;exact wpAny_Expr_any (thn (c p s a H _ I h) λv f ⟨x,b,i,r,q⟩=>⟨a,b,i,q⟩) I.quiet d
def tRet (T:TE):TS:=λD a H=>T a H D.rt
def ps_ret (c:PE X e T):PS X (.Return (some e) pos) (tRet T):=by intro p s a H D I h;exact wpAny_Return_some (thn (c p s a H _ I h) λv d ⟨x,b,i,r,q⟩=>⟨x,a,b,i,r,q⟩)
def tIfS (c:TT)(t u:TS):TS:=λD a H=>c a H λb h=>if b=true then t D a h else u D a h
def ps_if (m:PT X c tc)(k:PSs X a t)(l:PSs X b u):PS X (.If c a b pos) (tIfS tc t u):=by
 intro p s f H D I h;refine wpAny_If (thn (m p s f H _ I h) λd j ⟨g,i,q⟩=>?_);cases d with
 |true=>exact k p j f g D i q
 |false=>exact l p j f g D i q
def tNever:TS:=λ_ _ _=>False
def ps_never:PS X S tNever:=λ_ _ _ _ _ _ h=>h.elim
end
abbrev TG:=V->St->Hp->(St->Hp->Prop)->Prop
abbrev TGs:=List V->St->Hp->(St->Hp->Prop)->Prop
def PG (X:Cx)(a:Expr)(t:TG):Prop:=
 ∀(p:List (Addr×Obj)) (s:Shared) (σ:St) (H:Hp) (v:V) (u:Value) (Q:St->Hp->Prop),Inv X p σ H s->RelV v u->t v σ H Q ->
  wpAny (model X.prog X.w) X.A (assign a X.env u) (λ_ c=>∃b h,Inv X p b h c/\Q b h) X.xe s
def PGs (X:Cx)(ts:List Expr)(t:TGs):Prop:=
 ∀(p:List (Addr×Obj)) (s:Shared) (σ:St) (H:Hp) (vs:List V) (us:List Value) (Q:St->Hp->Prop),Inv X p σ H s->Vals vs us->t vs σ H Q ->
  wpAny (model X.prog X.w) X.A (assignInOrder ((assignEach ts X.env).map (·.2)) us) (λ_ b=>∃a h,Inv X p a h b/\Q a h) X.xe s
abbrev TSet:=V->V->V->Hp->(Hp->Prop)->Prop
def PSet (X:Cx)(t:TSet):Prop:=
 ∀(p:List (Addr×Obj)) (s:Shared) (σ:St) (H:Hp) (o i v:V) (ov iv u:Value) (Q:Hp->Prop),Inv X p σ H s->RelV o ov->RelV i iv->RelV v u->t o i v H Q ->
  wpAny (model X.prog X.w) X.A (setItem ov iv u) (λ_ a=>∃h,Inv X p σ h a/\Q h) X.xe s
abbrev TIp:=V->V->Hp->VK->Prop
def PIp (X:Cx)(op:Operator)(t:TIp):Prop:=
 ∀(p:List (Addr×Obj)) (s:Shared) (σ:St) (H:Hp) (x y:V) (v u:Value) (Q:VK),Inv X p σ H s->RelV x v->RelV y u->t x y H Q ->
  wpAny (model X.prog X.w) X.A (inplaceOp op v u) (EP X p σ Q) X.xe s
section
variable {X:Cx}{pos:Pos}
def gName (i:Nat):TG:=λv a H Q=>Q (a.set i (some v)) H
def pg_name (b:X.N.Nodup)(d:X.N[i]?=some x)(e:Loc X.env.scope x)(c:X.fn x=true\/X.env.scope.names.lookup x=some .local:=by walk_at "w"):PG X (.Name x pos) (gName i):=by intro p s g H v u Q I r h;exact wpAny_assign_Name (store_ok I b d e r (λf a=>⟨_,H,a,h⟩) c)
def gNil:TGs:=λv a H Q=>v=[]/\Q a H
def gCons (t:TG)(u:TGs):TGs:=λb c H Q=>∃v r,b=v::r/\t v c H λa h=>u r a h Q
def pgs_nil:PGs X [] gNil:=by rintro p s a H v u Q I r ⟨e,h⟩;subst e;cases r;exact assignInOrder_nil ⟨a,H,I,h⟩
def pgs_cons (h1:PG X e t)(h2:PGs X a u)
  (f:(assignEach (e::a) X.env).map (·.2)=assign e X.env::(assignEach a X.env).map (·.2):=by rfl):PGs X (e::a) (gCons t u):=by
 rintro p s k H n l Q I r ⟨v,m,d,h⟩;subst d;cases r with
 |cons r g=>rw[f];refine assignInOrder_cons (thn (h1 p s k H _ _ _ I r h) λ_ j ⟨b,c,i,q⟩=>?_);exact h2 p j b c _ _ Q i g q
def gTup (K:Fg)(n:Nat)(t:TGs):TG:=λv b H Q=>∃a x,v=.ref a/\SqT K H a x/\x.length=n/\t x b H Q
def pg_tup (q:X.calm=true)(h:PGs X c t)
  (x:(assignEach c X.env).length=n:=by rfl) (d:(assignEach c X.env).findIdx? (·.1)=none:=by rfl):PG X (.Tuple c k pos) (gTup X.K n t):=by
 rintro p s i H v u Q I r ⟨a,C,l,y,w,f⟩;subst l;cases r;obtain⟨B,g,z,D⟩:=I.tuple y;refine assign_Tuple_tuple (I.ok.hd q) z (by simp[x,<- w,g.length]) d λm A=>?_;have j:Inv X p i H { s with heap:=m }:=I.kept (t':=s.toks) λb o e=>A b o (bh (az e)) e;exact h p _ i H C _ Q j (by simpa using g) f
def gSub (e d:TE)(t:TSet):TG:=λv a H Q=>e a H λo h=>d a h λi b=>t o i v b λc=>Q a c
def pg_sub (l:PE X o to)(k:PE X i ti)(m:PSet X t)
  (j:∀v,assign (.Subscript o i pos) X.env v=(do
   let ov <- holding [v] (eval o X.env)
   let iv <- holding [v,ov] (eval i X.env)
   standAt pos
   holding [v,ov,iv] (setItem ov iv v)
   release [v,ov,iv] []):=by intro _;rfl):PG X (.Subscript o i pos) (gSub to ti t):=by
 intro p s a H v u Q I r h;rw[j];refine aH (fY (thn (l p s a H _ I h) λov B ⟨x,b,e,z,q⟩=>?_));refine aH (fY (thn (k p B a b _ e q) λiv C ⟨y,c,f,A,n⟩=>?_));refine aH (wpAny_standAt (aH (fY (thn (m p C a c x y v ov iv u _ f z A r n) λ_ D ⟨d,g,w⟩=>?_))));exact wpAny_release ⟨a,d,g,w⟩
def tAsg (t:TE)(g:TG):TS:=λD a H=>t a H λx h=>g x a h D.nx
def ps_asg (c:PE X e m)(d:PG X t g)(f:swapsWithSole [t] e pos.line X.env=pure false:=by rfl)(j:swappedStores [t] e X.env=pure none:=by rfl)
  (h1:(assignEach [t] X.env).map (·.2)=[assign t X.env]:=by rfl):PS X (.Assign [t] e pos) (tAsg m g):=by
 intro p s a H D I h;refine wpAny_Assign_stores (thn (c p s a H _ I h) λv l ⟨x,b,i,r,k⟩=>?_) f j;rw[h1];exact thn (d p l a b x v _ i r k) λ_ n q=>q
def ps_set (f:X.N.Nodup)(k:X.N[i]?=some x)(m:Loc X.env.scope x)(g:PE X e t)(l:swapsWith e (some (.Name x a)) pos.line X.env=pure false:=by rfl)(j:X.fn x=true\/X.env.scope.names.lookup x=some .local:=by walk_at "w") :
  PS X (.Assign [.Name x a] e pos) (tAsg t (gName i)):=by
 intro p s n H D I h;refine wpAny_Assign_Name (thn (g p s n H _ I h) λv o ⟨y,b,c,r,q⟩=>?_) l;exact store_ok c f k m r (λu d=>⟨_,b,d,q⟩) j
def tAug (i:Nat)(t:TE)(c:TIp):TS:=λD a H=>∃x,a[i]?=some (some x)/\t a H λy h=>c x y h λz b=>D.nx (a.set i (some z)) b
def ps_aug (J:X.N.Nodup)(o:X.N[i]?=some x)(g:Loc X.env.scope x)(M:PE X e te)(R:PIp X op ti)(N:X.fn x=true\/X.env.scope.names.lookup x=some .local:=by walk_at "w") :
  PS X (.AugAssign (.Name x q) op e pos) (tAug i te ti):=by
 rintro p s t H D I ⟨v,G,h⟩;obtain⟨m,Q,O⟩:=I.loc;have j:Vis X.env.scope x:=by rcases g with k|k;exact .inl k;exact .inr (.inl k)
 obtain⟨u,r,l⟩:=O i x v o G j;refine wpAny_AugAssign_Name ?_;have n:wpAny (model X.prog X.w) X.A (eval e X.env) (λw d=>wpAny (model X.prog X.w) X.A (inplaceOp op u w) (λr f=>wpAny (model X.prog X.w) X.A (storeName X.env x r) (λ_=>SP X p D .next) X.xe f) X.xe d) X.xe s:=by refine thn (M p s t H _ I h) λw Z ⟨y,A,C,U,S⟩=>?_;refine thn (R p Z t A v y u w _ C r U S) λz s2 ⟨zv,B,E,Y,T⟩=>?_;exact store_ok E J o g Y (λs3 F=>⟨_,B,F,T⟩) N
 rcases l with⟨a,P⟩|⟨a,c,L,b⟩
 .exact eE I.ok.kind a Q P n
 .rcases a with a|a
  .exact wpAny_loadName_cell I.ok.kind a L b n
  .rcases g with k|k
   .have:X.env.scope.names.lookup x=some .free:=a;rw[k]at this;cases this
   .have:X.env.scope.names.lookup x=some .free:=a;rw[k]at this;cases this
def tAugS (m l k:TE)(t:V->V->Hp->VK->Prop)(c:TIp)(a:TSet):TS:=λD b H=>m b H λo h=>l b h λi d=>t o i d λx e=>k b e λy f=>c x y f λz g=>a o i z g λj=>D.nx b j
def PGet (X:Cx)(t:V->V->Hp->VK->Prop):Prop:=
 ∀(p:List (Addr×Obj)) (s:Shared) (σ:St) (H:Hp) (o i:V) (ov iv:Value) (Q:VK),Inv X p σ H s->RelV o ov->RelV i iv->t o i H Q ->
  wpAny (model X.prog X.w) X.A (getItem ov iv) (EP X p σ Q) X.xe s
def ps_augS (E:PE X o to)(C:PE X i ti)(B:PGet X tget)(A:PE X e te)(F:PIp X op tip)(G:PSet X tset)
  (z:∀ov iv new,augStore i ov iv new=(do holding [new,ov,iv] (setItem ov iv new);release [new,ov,iv] [];pure .next):=by intros;rfl):PS X (.AugAssign (.Subscript o i tpos) op e pos) (tAugS to ti te tget tip tset):=by
 intro p s a H D I h;refine wpAny_AugAssign_SubscriptAny (thn (E p s a H _ I h) λov T ⟨x,f,n,r,J⟩=>?_) z;refine thn (C p T a f _ n J) λiv U ⟨d,g,q,c,L⟩=>?_;refine thn (B p U a g x d ov iv _ q r c L) λb Y ⟨x3,j,t,Q,M⟩=>?_;refine thn (A p Y a j _ t M) λv Z ⟨x4,k,u,R,N⟩=>?_;refine thn (F p Z a k x3 x4 b v _ u Q R N) λnew s5 ⟨x5,l,w,S,O⟩=>?_;exact thn (G p s5 a l x d x5 ov iv new _ w r c S O) λ_ s6 ⟨m,y,P⟩=>⟨a,m,y,P⟩
end
section
variable {X:Cx}{pos:Pos}
def tWhile (c:TT)(t:TS):TS:=λD a H=>∃W:Nat->St->Hp->Prop,(∃m,W m a H)/\∀m a H,W m a H ->
 c a H λb e=>if b=true then ∃N:St->Hp->Prop,(∀d h,N d h -> ∃f,f<m/\W f d h)/\t { D with nx:=N,ct:=N,bk:=D.nx } a e else D.nx a e
def ps_while (z:PassesOwn (model X.prog X.w) X.A X.env X.xe)(C:PT X c tc)(B:PSs X body tb):PS X (.While c body [] pos) (tWhile tc tb):=by
 rintro p s O H D I ⟨W,⟨E,L⟩,t⟩;refine wpAny_While (codeAny_whileLoop (λn F=>∃g o,Inv X p g o F/\W n g o) ?_ E ⟨O,H,I,L⟩);rintro n G ⟨d,r,A,M⟩;refine dz z (thn (C p G d r _ A (t n d r M)) λb J ⟨u,x,q⟩=>?_);cases b with
 |true=>
  obtain⟨N,y,q⟩:=q;rw[af rfl];refine dz z (thn (B p J d u _ x q) λf P i=>?_);cases f with
  |next=>obtain⟨a,e,j,l⟩:=i;obtain⟨m,k,w⟩:=y a e l;exact⟨m,k,a,e,j,w⟩
  |cont=>obtain⟨a,e,j,l⟩:=i;obtain⟨m,k,w⟩:=y a e l;exact⟨m,k,a,e,j,w⟩
  |brk=>exact i
  |ret v=>exact i
 |false=>rw[ae aN];exact f6 ⟨d,u,x,q⟩
end
structure It where
 go:Nat->Hp->Prop
 yld:Nat->Hp->V->Hp->Prop
 stop:Nat->Hp->Prop
def FpOk (X:Cx)(a:List (Addr×Obj))(H:Hp)(b:Addr):Prop:=
 H b=none/\b≠X.env.locals/\b∉X.fs/\(b∈X.ex\/X.s₀.heap.objs.size<=b)/\(∀x c,X.env.cells.lookup x=some c->c≠b)/\∀p∈X.pn++a,p.1≠b
def Inv.fpOk {X:Cx}{a:List (Addr×Obj)}{i:St}{H d:Hp}{s:Shared}{b:Addr}(I:Inv X a i H s)(h:s.heap.objs.size<=b)(f:d b=none):FpOk X a d b:=by
 refine⟨f,dP (aF I.lt h),I.nofs h,.inr (aA I.sz h),λx c e z=>?_,λp g z=>?_⟩
 .obtain⟨v,q⟩:=I.cell x c e;exact absurd (aF q.lt (by rw[z];exact h)) (c9 _)
 .exact absurd (aF (az (I.pin p g).1) (by rw[z];exact h)) (c9 _)
structure Turn (P:Program)(w:World)(K:Fg)(tg:Expr)(J:It)(fp:List Addr)(it:Addr)(tn:Nat->Heap->Prop):Prop where
 mem:it∈fp
 obj:∀i h,tn i h->∀b∈fp,∃o,h.get? b=some o/\∀v,o.data ≠ .cell v
 keep:∀i h h',tn i h->(∀b∈fp,∀o,h.get? b=some o->h'.get? b=some o)->tn i h'
 item:∀(X:Cx),X.prog=P->X.w=w->X.K=K->X.calm=true->∀(i:Nat) (pins:List (Addr×Obj)) (s:Shared) (σ:St) (H:Hp) (E:Value->Shared->Prop),Inv X pins σ H s->(∀b∈fp,FpOk X pins H b)->tn i s.heap->J.go i H ->
  wpAny (model P w) X.A (pyNext (.ref it)) (λr s1=>∃u,r=some u /\
   wpAny (model P w) X.A (letOwnedTupleGo tg (.ref it) u) (λ_ s2=>∃x H',Inv X pins σ H' s2/\RelV x u/\J.yld i H x H'/\tn (i+1) s2.heap/\∀b∈fp,H' b=none) E s1) E s
 done:∀(X:Cx),X.prog=P->X.w=w->X.K=K->X.calm=true->∀(i:Nat) (pins:List (Addr×Obj)) (s:Shared) (σ:St) (H:Hp) (E:Value->Shared->Prop),Inv X pins σ H s->(∀b∈fp,FpOk X pins H b)->tn i s.heap->J.stop i H ->
  wpAny (model P w) X.A (pyNext (.ref it)) (λr s1=>r=none/\Inv X pins σ H s1) E s
 self:∀(A:Around) (i:Nat) (s:Shared) (Q:Value->Shared->Prop) (E:Value->Shared->Prop),tn i s.heap->Q (.ref it) s->wpAny (model P w) A (pyIter (.ref it)) Q E s
abbrev TI:=St->Hp->(It->Hp->Prop)->Prop
def PIE (X:Cx)(p:List (Addr×Obj))(d:St)(c:Expr)(R:It->Hp->Prop)(i:Value)(s:Shared):Prop:=
 ∃(a:Addr) (f:List Addr) (t:Nat->Heap->Prop) (J:It) (h:Hp),i=.ref a/\Inv X p d h s/\Turn X.prog X.w X.K c J f a t/\t 0 s.heap/\(∀b∈f,FpOk X p h b)/\R J h
def PI (X:Cx)(t i:Expr)(w:TI):Prop:=
 ∀(p:List (Addr×Obj)) (s:Shared) (σ:St) (H:Hp) (R:It->Hp->Prop),Inv X p σ H s->w σ H R ->
  wpAny (model X.prog X.w) X.A (eval i X.env) (λv a=>wpAny (model X.prog X.w) X.A (pyIter v) (PIE X p σ t R) X.xe a) X.xe s
def go_of (e:s.heap.get? i=some o)(b:o.cls=.type n)(c:o.data=.fields vs)
    (d:["enumerate","zip","dict_itemiterator","dict_reverseitemiterator","odict_iterator","itertools.zip_longest","itertools.pairwise"].contains n=false) (a:Q () s):wpAny M A (letOwnedTupleGo t (.ref i) u) Q E s:=by
  unfold letOwnedTupleGo;cases t<;>first
    |exact bY a
    | (cases u <;> first
        |exact bY a
        | (refine aH (wpAny_load e ?_)
           rw[b,c];show wpAny M A (if (["enumerate","zip","dict_itemiterator","dict_reverseitemiterator","odict_iterator","itertools.zip_longest","itertools.pairwise"].contains n && vs[0]? == some (rawInt _))=true then _ else _) Q E s;rw[ae (by intro h;rw[d,Bool.false_and]at h;cases h)];exact bY a))
def Itl (K:Fg)(a:Addr):It:=
 ⟨λi H=>∃b x,SqL K H a b/\b[i]?=some x,λi H x h=>h=H/\∀b,SqL K H a b->b[i]?=some x,λi H=>∃b,SqL K H a b/\b.length<=i⟩
def Itr (l:Int)(n:Nat):It:=⟨λi _=>i<n,λi H x h=>h=H/\x=.int (l+i),λi _=>n<=i⟩
def turn_list {P:Program}{w:World}{K:Fg}{tg:Expr}(a l:Addr):Turn P w K tg (Itl K a) [l] l (λi h=>h.IsListIter l a i) where
 mem:=by simp
 obj:=λi h f b j=>by
  have e:b=l:=by simpa using j
  subst e;obtain⟨o,e,c,d⟩:=f;exact⟨o,e,λv z=>by rw[d]at z;cases z⟩
 keep:=λi h n f k=>f.at λo e=>k l (by simp) o e
 item:=by intro X F J D O i g s Q H E I q f G;subst F J D;obtain⟨xs,x,r,L⟩:=G;obtain⟨M,N,p,Z⟩:=I.list r;obtain⟨u,U,ru⟩:=N.get L;obtain⟨t,y,T,A,B,C⟩:=q l (by simp);refine wpAny_pyNext_list_item f p.isList (x:=u) (by simpa using U) λn m sb=>?_;have R:Inv X g Q H { s with heap:=n }:=I.turned (t':=s.toks) (λb o j e=>(sb.2 b j).trans e) t y A B C;obtain⟨o,e,c,d⟩:=id m;exact⟨u,rfl,go_of (s:={ s with heap:=n }) e c d (by decide) ⟨x,H,R,ru,⟨rfl,λys Y=>by rw[I.list_inj Y r];exact L⟩,m,λb j=>(q b j).1⟩⟩
 done:=by intro X F J D O i g s Q H E I q f G;subst F J D;obtain⟨xs,r,L⟩:=G;obtain⟨M,N,p,Z⟩:=I.list r;obtain⟨t,y,T,A,B,C⟩:=q l (by simp);have hl:=N.length;exact wpAny_pyNext_list_end (I.ok.hd O) f p.isList (by simp;lia) λn S=>⟨rfl,I.turned (t':=s.toks) (λb o j e=>S b o j e) t y A B C⟩
 self:=λ_ _ _ _ _ f h=>wpAny_pyIter_listiter f h
def turn_range {P:Program}{w:World}{K:Fg}{Q:Expr}(c:Addr)(l:Int)(n:Nat):Turn P w K Q (Itr l n) [c] c (λi h=>IsRangeIter h c (l+(i:Nat)*1) ((n:Int)-(i:Nat)) 1) where
 mem:=by simp
 obj:=λi h a b d=>by
  have e:b=c:=by simpa using d
  subst e;exact⟨_,a,λv z=>by
   have R:Data.fields _=Data.cell v:=z;cases R⟩
 keep:=λi h g a k=>k c (by simp) _ a
 item:=by intro X A D y B i p s G H E I j a C;subst A D y;obtain⟨m,q,M,r,u,x⟩:=j c (by simp);have W:=Walks.range (prog:=X.prog) (w:=X.w) (I.ok.hd B) c l 1 n;refine W.item i s _ _ C a λv g F N f O=>?_;obtain⟨t,rfl⟩:=N;have J:Inv X p G H { s with heap:=g,toks:=F }:=I.turned (λb o d e=>O b o (by simpa using d) e) m q r u x;refine⟨_,rfl,go_of (s:={ s with heap:=g,toks:=F }) (n:="range_iterator") f rfl rfl (by decide) ⟨.int (l+i),H,J,⟨t,?_⟩,⟨rfl,rfl⟩,f,λb d=>(j b d).1⟩⟩;rw[bG]
 done:=by intro X A D y B i p s G H E I j a C;subst A D y;obtain⟨m,q,M,r,u,x⟩:=j c (by simp);exact wpAny_pyNext_range_end (I.ok.hd B) a (by have:n<=i:=C;lia) λg L=>⟨rfl,I.turned (t':=s.toks) (λb o d e=>L b o d e) m q r u x⟩
 self:=λ_ _ _ _ _ a h=>wpAny_pyIter_rangeiter a h
section
variable {X:Cx}{c:Expr}
def iList (K:Fg)(t:TE):TI:=λd H R=>t d H λx h=>∃a,x=.ref a/\(∃b,SqL K h a b)/\R (Itl K a) h
def pi_list {l:Expr}{t:TE}(k:PE X l t):PI X c l (iList X.K t):=by
 intro d s w H R I h;refine thn (k d s w H _ I h) λv f ⟨x,g,i,u,r⟩=>?_;obtain⟨a,e,⟨A,m⟩,q⟩:=r;subst e;cases u;obtain⟨n,z,p,y⟩:=i.list m;refine wpAny_pyIter_list p.isList ?_;refine⟨f.heap.objs.size,[f.heap.objs.size],_,_,g,rfl,i.kept (t':=f.toks) λb o e=>ay _ e,turn_list a _,⟨_,a8 _ rfl,rfl,rfl⟩,λb j=>?_,q⟩;have e:b=f.heap.objs.size:=by simpa using j
 subst e;exact i.fpOk (aj _) (i.hok.fresh (aj _))
def range_it {p:List (Addr×Obj)}{a:St}{H:Hp}{s:Shared}{R:It->Hp->Prop}{E:Value->Shared->Prop}{l h:Int}{t u v:Tok}{tk:Nat}(I:Inv X p a H s)(h1:-(2^62)<=l)(h2:l<2^62)(g:-(2^62)<=h)(j:h<2^62)
  (q:R (Itr l (h-l).toNat) H):wpAny (model X.prog X.w) X.A (pyIter (.ref s.heap.objs.size)) (PIE X p a c R) E { s with heap:=s.heap.push { cls:=.type "range",data:=.fields #[.int l t,.int h u,.int 1 v] },toks:=tk }:=by
 refine wpAny_pyIter_range (IsRange.new ..) (small_one h1 h2 g j) ?_;have i:Inv X p a H { s with heap:=s.heap.push { cls:=.type "range",data:=.fields #[.int l t,.int h u,.int 1 v] },toks:=tk }:=I.kept λb o e=>ay _ e;refine⟨(s.heap.push { cls:=.type "range",data:=.fields #[.int l t,.int h u,.int 1 v] }).objs.size,[(s.heap.push { cls:=.type "range",data:=.fields #[.int l t,.int h u,.int 1 v] }).objs.size],_,_,H,rfl,i.kept (t':=tk) λb o e=>ay _ e,turn_range _ l (h-l).toNat,?_,λb k=>?_,q⟩
 .have d:l+((0:Nat):Int)*1=l:=by simp
  have f:(((h-l).toNat:Nat):Int)-((0:Nat):Int)=Builtin.Range.rangeSize l h 1:=by rw[rangeSize_one];split<;>lia
  show IsRangeIter _ _ (l+((0:Nat):Int)*1) ((((h-l).toNat:Nat):Int)-((0:Nat):Int)) 1;rw[d,f];exact a8 _ rfl
 .have e:b=(s.heap.push { cls:=.type "range",data:=.fields #[.int l t,.int h u,.int 1 v] }).objs.size:=by simpa using k
  subst e;exact i.fpOk (aj _) (i.hok.fresh (aj _))
def iRng1 (t:TA):TI:=λa H R=>t a H λv h=>∃j:Int,v=[.int j] /\ -(2^62)<=j/\j<2^62/\R (Itr 0 j.toNat) h
def iRng2 (t:TA):TI:=λa H R=>t a H λv h=>∃i j:Int,v=[.int i,.int j]/\(-(2^62)<=i/\i<2^62 /\ -(2^62)<=j/\j<2^62)/\R (Itr i (j-i).toNat) h
def pi_range1 {a:Expr}{f:TA}{p pos:Pos}(k:Gl X "range")(l:X.mg "range"=none)(g:PA X [a] f)(m:starEach [a] X.env=[(false,eval a X.env)]:=by rfl):PI X c (.Call (.Name "range" p) [a] [] pos) (iRng1 f):=by
 intro b s v H R I h;refine Call_ (ld_blt I k l boot_range (cf (thn (g pos b s v H _ I h) λy x ⟨z,w,i,o,d⟩=>?_) m rfl));obtain⟨j,e,d,n,q⟩:=d;subst e;cases o with
 |cons r u=>cases u;obtain⟨t,rfl⟩:=r;exact call_range_1 (range_it i (by lia) (by lia) d n (by simpa using q))
def pi_range2 (n:Gl X "range")(o:X.mg "range"=none)(m:PA X [a,b] A)(u:starEach [a,b] X.env=[(false,eval a X.env),(false,eval b X.env)]:=by rfl)(d:starEach [b] X.env=[(false,eval b X.env)]:=by rfl) :
  PI X c (.Call (.Name "range" p) [a,b] [] pos) (iRng2 A):=by
 intro f s B H R I h;refine Call_ (ld_blt I n o boot_range (cf (thn (m pos f s B H _ I h) λF D ⟨G,C,l,z,g⟩=>?_) (by rw[u,d]) (by rw[d];rfl)));obtain⟨i,j,e,⟨g,v,w,x⟩,q⟩:=g;subst e;cases z with
 |cons r k=>
  cases k with
  |cons y k=>cases k;obtain⟨t,rfl⟩:=r;obtain⟨E,rfl⟩:=y;exact call_range_2 (range_it l g v w x q)
def tFor (w:TI)(g:TG)(t:TS):TS:=λD a H=>w a H λJ f=>∃W:Nat->Nat->St->Hp->Prop,(∃m,W 0 m a f)/\∀i m a H,W i m a H ->
 (J.stop i H/\D.nx a H)\/(J.go i H/\∃N:St->Hp->Prop,(∀b h,N b h -> ∃e,e<m/\W (i+1) e b h)/\∀x h,J.yld i H x h -> g x a h λd j=>t { D with nx:=N,ct:=N,bk:=D.nx } d j)
def pinsAt (fp:List Addr)(h:Heap):List (Addr×Obj):=fp.filterMap λb=>(h.get? b).map λo=>(b,o)
def mem_pinsAt (a:b∈fp)(e:h.get? b=some o):(b,o)∈pinsAt fp h:=cE.mpr ⟨b,a,by rw[e];rfl⟩
def of_pinsAt (f:p∈pinsAt fp h):p.1∈fp/\h.get? p.1=some p.2:=by
 obtain⟨b,d,e⟩:=cE.mp f;cases q:h.get? b with
 |none=>rw[q]at e;cases e
 |some o=>rw[q]at e;have a:(b,o)=p:=aE e;subst a;exact⟨d,q⟩
def Inv.pinned (I:Inv X a n H s)(k:∀b∈fp,FpOk X a H b)(l:∀b∈fp,∃o,s.heap.get? b=some o/\∀v,o.data ≠ .cell v):Inv X (a++pinsAt fp s.heap) n H s:=
 I.pins_of λp m=>(cY.mp m).elim (λz=>I.pin p (aP _ z)) λz=>by obtain⟨h,e⟩:=of_pinsAt z;obtain⟨g,i,j,_⟩:=k p.1 h;obtain⟨o,f,d⟩:=l p.1 h;rw[e]at f;cases f;exact⟨e,g,i,j,d⟩
def Inv.unpinned (I:Inv X (a++pl) b H s):Inv X a b H s:=I.pins_of λp h=>I.pin p (aP _ (cQ _ h))
def ps_for (F:PassesOwn (model X.prog X.w) X.A X.env X.xe)(hc:X.calm=true)(hi:PI X c iter wi)(hg:PG X c g)(q:PSs X body tb)
  (hs:∀x,foldedSetIterable iter X.env x=pure x:=by intro _;rfl):PS X (.For c iter body [] pos) (tFor wi g tb):=by
 intro p s σ H D I h;refine wpAny_For (thn (hi p s σ H _ I h) λv s1 h1=>thn h1 λitv s2 h2=>?_) hs;obtain⟨it,C,tn,J,H2,e,I2,T,Y,f2,W,⟨m0,w0⟩,O⟩:=h2;subst e;have t:∀{z:Hp},(∀b∈C,z b=none)->∀b∈C,FpOk X p z b:=λhn b q=>⟨hn b q,(f2 b q).2⟩;refine codeAny_forLoop_any (λn s'=>∃i w z,Inv X p w z s'/\tn i s'.heap/\(∀b∈C,z b=none)/\W i n w z) ?_ m0 ⟨0,σ,H2,I2,Y,λb q=>(f2 b q).1,w0⟩;rintro n s3 ⟨i,y,P,I3,L,E,w3⟩;rcases O i n y P w3 with⟨M,qn⟩|⟨go,N,hN,step⟩
 .refine dz F (thn (T.done X rfl rfl rfl hc i p s3 y P X.xe I3 (t E) L M) λr s4 ⟨S,I4⟩=>?_);subst S;exact f6 ⟨y,P,I4,qn⟩
 .refine dz F (thn (T.item X rfl rfl rfl hc i p s3 y P X.xe I3 (t E) L go) λr s4 ⟨u,S,h4⟩=>?_);subst S;refine dz F (thn h4 λ_ s5 ⟨x,H5,I5,r5,y5,B,R⟩=>?_);have Q:=I5.pinned (t R) (T.obj _ _ B);refine dz F (thn (hg _ s5 y H5 x u _ Q r5 (step x H5 y5)) λ_ s6 ⟨Z,H6,I6,q6⟩=>?_);refine dz F (thn (q _ s6 Z H6 _ I6 q6) λf U A=>?_);have l:∀{a:St} {j:Hp},Inv X (p++pinsAt C s5.heap) a j U->N a j->∃m,m<n/\∃i w z,Inv X p w z U/\tn i U.heap/\(∀b∈C,z b=none)/\W i m w z:=λ{a j} k G=>by obtain⟨m',hm,w7⟩:=hN a j G;refine⟨m',hm,i+1,a,j,k.unpinned,T.keep _ _ _ B λb q o e=>(k.pin (b,o) (aP _ (aP _ (mem_pinsAt q e)))).1,λb q=>?_,w7⟩;obtain⟨o,e,d⟩:=T.obj _ _ B b q;exact(k.pin (b,o) (aP _ (aP _ (mem_pinsAt q e)))).2.1
  cases f with
  |next=>obtain⟨a,j,k,G⟩:=A;exact l k G
  |cont=>obtain⟨a,j,k,G⟩:=A;exact l k G
  |brk=>obtain⟨a,j,k,A⟩:=A;exact⟨a,j,k.unpinned,A⟩
  |ret v=>obtain⟨x7,a,j,k,r7,A⟩:=A;exact⟨x7,a,j,k.unpinned,r7,A⟩
end
def for_list {K:Fg}{a:Addr}{xs:List V}{g:TG}{t:TS}{D:Ends}{b:St}{H:Hp}(P:Nat->St->Hp->Prop)(h0:P 0 b H)(o:∀i b H,i<=xs.length->P i b H->SqL K H a xs)
  (r:∀i x b H,xs[i]?=some x->P i b H->g x b H λd j=>t { D with nx:=P (i+1),ct:=P (i+1),bk:=D.nx } d j) (l:∀b H,P xs.length b H->D.nx b H) :
  ∃W:Nat->Nat->St->Hp->Prop,(∃m,W 0 m b H)/\∀i m b H,W i m b H ->
   ((Itl K a).stop i H/\D.nx b H)\/((Itl K a).go i H/\∃N:St->Hp->Prop,(∀c h,N c h -> ∃k,k<m/\W (i+1) k c h)/\∀x h,(Itl K a).yld i H x h -> g x b h λd j=>t { D with nx:=N,ct:=N,bk:=D.nx } d j):=by
 refine⟨λi m b H=>m=xs.length-i/\i<=xs.length/\P i b H,⟨xs.length,by simp,a9 _,h0⟩,?_⟩;rintro i m b H ⟨rfl,n,p⟩;have q:=o i b H n p;by_cases f:i<xs.length
 .refine .inr ⟨⟨xs,xs[i],q,by simp[f]⟩,P (i+1),λc h s=>⟨xs.length-(i+1),by lia,rfl,f,s⟩,λx h y=>?_⟩;obtain⟨e,y⟩:=y;subst e;exact r i x b _ (y xs q) p
 .have e:i=xs.length:=by lia
  subst e;exact .inl ⟨⟨xs,q,aj _⟩,l b H p⟩
def for_range {l:Int}{n:Nat}{g:TG}{t:TS}{D:Ends}{a:St}{H:Hp}(P:Nat->St->Hp->Prop)(h0:P 0 a H)
  (o:∀i a H,i<n->P i a H->g (.int (l+i)) a H λd f=>t { D with nx:=P (i+1),ct:=P (i+1),bk:=D.nx } d f) (k:∀a H,P n a H->D.nx a H) :
  ∃W:Nat->Nat->St->Hp->Prop,(∃m,W 0 m a H)/\∀i m a H,W i m a H ->
   ((Itr l n).stop i H/\D.nx a H)\/((Itr l n).go i H/\∃N:St->Hp->Prop,(∀c h,N c h -> ∃j,j<m/\W (i+1) j c h)/\∀x h,(Itr l n).yld i H x h -> g x a h λd f=>t { D with nx:=N,ct:=N,bk:=D.nx } d f):=by
 refine⟨λi m a H=>m=n-i/\i<=n/\P i a H,⟨n,by simp,a9 _,h0⟩,?_⟩;rintro i m a H ⟨rfl,r,p⟩;by_cases b:i<n
 .refine .inr ⟨b,P (i+1),λc h q=>⟨n-(i+1),by lia,rfl,b,q⟩,λx h y=>?_⟩;obtain⟨e,y⟩:=y;subst e y;exact o i a _ b p
 .have e:i=n:=by lia
  subst e;exact .inl ⟨aj _,k a H p⟩
def while_by (P:St->Hp->Prop)(f:St->Hp->Nat)(h0:P a H)
  (i:∀a H,P a H->c a H λb e=>if b=true then tb { D with nx:=λd h=>P d h/\f d h<f a H,ct:=λd h=>P d h/\f d h<f a H,bk:=D.nx } a e else D.nx a e)
  (mono:∀a H Q g,(∀b e,Q b e->g b e)->c a H Q->c a H g):tWhile c tb D a H:=by
 refine⟨λm a H=>m=f a H/\P a H,⟨_,rfl,h0⟩,?_⟩;rintro m a H ⟨rfl,p⟩;refine mono a H _ _ (λb e q=>?_) (i a H p);cases b with
 |true=>exact⟨_,λd h ⟨j,l⟩=>⟨_,l,rfl,j⟩,q⟩
 |false=>exact q
abbrev R2:=V->V->Hp->VK->Prop
def OpR (X:Cx)(f:Value->Value->Sem Value)(r:R2):Prop:=
 ∀(p:List (Addr×Obj)) (s:Shared) (σ:St) (H:Hp) (x y:V) (v u:Value) (Q:VK),Inv X p σ H s->RelV x v->RelV y u->r x y H Q ->
  wpAny (model X.prog X.w) X.A (f v u) (EP X p σ Q) X.xe s
def UnR (X:Cx)(f:Value->Sem Value)(r:V->Hp->VK->Prop):Prop:=
 ∀(p:List (Addr×Obj)) (s:Shared) (σ:St) (H:Hp) (x:V) (v:Value) (Q:VK),Inv X p σ H s->RelV x v->r x H Q ->
  wpAny (model X.prog X.w) X.A (f v) (EP X p σ Q) X.xe s
def CallR (X:Cx)(f:Value)(r:List V->Hp->VK->Prop):Prop:=
 ∀(p:List (Addr×Obj)) (s:Shared) (σ:St) (H:Hp) (xs:List V) (us:List Value) (Q:VK),Inv X p σ H s->Vals xs us->r xs H Q ->
  wpAny (model X.prog X.w) X.A (call f us) (EP X p σ Q) X.xe s
def TruR (X:Cx)(r:V->Hp->(Bool->Hp->Prop)->Prop):Prop:=
 ∀(p:List (Addr×Obj)) (s:Shared) (σ:St) (H:Hp) (x:V) (v:Value) (Q:Bool->Hp->Prop),Inv X p σ H s->RelV x v->r x H Q ->
  wpAny (model X.prog X.w) X.A (truthy v) (TP X p σ Q) X.xe s
def tOp (r:R2)(t c:TE):TE:=λa H Q=>t a H λx h=>c a h λy b=>r x y b Q
def tUn (r:V->Hp->VK->Prop)(t:TE):TE:=λa H Q=>t a H λx h=>r x h Q
def rI (C:Int->Int->Prop)(g:Int->Int->V):R2:=λx y H Q=>∃i j,x=.int i/\y=.int j/\C i j/\Q (g i j) H
def rI0 (g:Int->Int->V):R2:=λx y H Q=>∃i j,x=.int i/\y=.int j/\Q (g i j) H
def rU (g:Int->V):V->Hp->VK->Prop:=λx H Q=>∃i,x=.int i/\Q (g i) H
section
variable {X:Cx}{a b c:Expr}{T d e:TE}{pos:Pos}
def binT (n:PE X a T)(o:PE X b d){p:List (Addr×Obj)}{R:V->V->Hp->Prop}(I:Inv X p i H s)
  (h:T i H λx k=>d i k λy g=>R x y g) {Q:Value->Shared->Prop} {f:Value->Value->Sem Value}
  (q:∀v u j x y g,Inv X p i g j->RelV x v->RelV y u->R x y g->wpAny (model X.prog X.w) X.A (f v u) Q X.xe j) :
  wpAny (model X.prog X.w) X.A (eval a X.env) (λv s₁=>wpAny (model X.prog X.w) X.A (eval b X.env) (λu s₂=>wpAny (model X.prog X.w) X.A (f v u) Q X.xe s₂) X.xe s₁) X.xe s:=by
 refine thn (n p s i H _ I h) λv A ⟨x,k,l,w,r⟩=>?_;refine thn (o p A i k _ l r) λu j ⟨y,g,m,z,t⟩=>?_;exact q v u j x y g m w z t
def pe_op {op:Operator}{r:R2}(k:OpR X (binaryOp op) r)(g:PE X a T)(j:PE X b d):PE X (.BinOp a op b pos) (tOp r T d):=by intro p s o H Q I h;exact wpAny_BinOp (binT g j I h λv u n x y f i l m q=>k p n o f x y v u Q i l m q)
def pe_un (k:UnR X (unaryOp op) r)(j:PE X a T):PE X (.UnaryOp op a pos) (tUn r T):=by intro p s f H Q I h;exact UnaryOp_ (thn (j p s f H _ I h) λv m ⟨x,g,i,l,q⟩=>k p m f g x v Q i l q)
def opI {f:Value->Value->Sem Value}{C:Int->Int->Prop}{g:Int->Int->Int}
  (r:∀(i j:Int) (t u:Tok) (s:Shared) (Q:Value->Shared->Prop) (E:Value->Shared->Prop),C i j->Q (.int (g i j) s.toks) { s with toks:=s.toks+1 }->wpAny (model X.prog X.w) X.A (f (.int i t) (.int j u)) Q E s) :
  OpR X f (rI C λi j=>.int (g i j)):=by
 rintro p s o H x y v u Q I l m ⟨i,j,rfl,rfl,k,q⟩;obtain⟨t,rfl⟩:=l;obtain⟨n,rfl⟩:=m;exact r i j t n s _ _ k ⟨.int (g i j),H,I.tok _,⟨_,rfl⟩,q⟩
def opI0 {f:Value->Value->Sem Value}{g:Int->Int->Int}
  (r:∀(i j:Int) (t u:Tok) (s:Shared) (Q:Value->Shared->Prop) (E:Value->Shared->Prop),Q (.int (g i j) s.toks) { s with toks:=s.toks+1 }->wpAny (model X.prog X.w) X.A (f (.int i t) (.int j u)) Q E s) :
  OpR X f (rI0 λi j=>.int (g i j)):=by
 rintro p s n H x y v u Q I k l ⟨i,j,rfl,rfl,q⟩;obtain⟨t,rfl⟩:=k;obtain⟨m,rfl⟩:=l;exact r i j t m s _ _ ⟨.int (g i j),H,I.tok _,⟨_,rfl⟩,q⟩
def opB0 {f:Value->Value->Sem Value}{g:Int->Int->Bool}
  (r:∀(i j:Int) (t u:Tok) (s:Shared) (Q:Value->Shared->Prop) (E:Value->Shared->Prop),Q (.bool (g i j)) s->wpAny (model X.prog X.w) X.A (f (.int i t) (.int j u)) Q E s) :
  OpR X f (rI0 λi j=>.bl (g i j)):=by
 rintro p s n H x y v u Q I k l ⟨i,j,rfl,rfl,q⟩;obtain⟨t,rfl⟩:=k;obtain⟨m,rfl⟩:=l;exact r i j t m s _ _ ⟨.bl (g i j),H,I,rfl,q⟩
def CDiv (i j:Int):Prop:=0<j/\j<1073741824
def CPow (i j:Int):Prop:=0<=j/\j<=1000000/\i.natAbs<2^64
def CMul (i j:Int):Prop:=(-(2^64)<i/\i<2^64)\/(-(2^64)<j/\j<2^64)
def op_add:OpR X (binaryOp .Add) (rI0 λi j=>.int (i+j)):=opI0 λ_ _ _ _ _ _ _ q=>add_int q
def op_sub:OpR X (binaryOp .Sub) (rI0 λi j=>.int (i-j)):=opI0 λ_ _ _ _ _ _ _ q=>sub_int q
def op_mod:OpR X (binaryOp .Mod) (rI (λ_ j=>0<j) λi j=>.int (i % j)):=opI λi j _ _ _ _ _ h q=>by have h1:(0:Int)<j:=h;exact mod_int' (by lia) (by rw[Int.fmod_eq_emod_of_nonneg i (by lia)];exact q)
def op_pow:OpR X (binaryOp .Pow) (rI CPow λi j=>.int (i^j.toNat)):=opI λ_ _ _ _ _ _ _ h q=>pow_int_small h.1 h.2.1 h.2.2 q
def iop_add:OpR X (inplaceOp .Add) (rI0 λi j=>.int (i+j)):=opI0 λ_ _ _ _ _ _ _ q=>iadd_int q
def iop_fdiv:OpR X (inplaceOp .FloorDiv) (rI CDiv λi j=>.int (i / j)):=opI λi j _ _ _ _ _ h q=>by have h1:(0:Int)<j:=h.1;have h2:j<1073741824:=h.2;exact ifloordiv_int (by lia) (by rw[gr i (by lia)];exact q) (.inl (PyProof.noPylong_small (by lia)))
def unI {f:Value->Sem Value}{g:Int->Int}
  (r:∀(i:Int) (t:Tok) (s:Shared) (Q:Value->Shared->Prop) (E:Value->Shared->Prop),Q (.int (g i) s.toks) { s with toks:=s.toks+1 }->wpAny (model X.prog X.w) X.A (f (.int i t)) Q E s) :
  UnR X f (rU λi=>.int (g i)):=by
 rintro p s k H x v Q I j ⟨i,rfl,q⟩;obtain⟨t,rfl⟩:=j;exact r i t s _ _ ⟨.int (g i),H,I.tok _,⟨_,rfl⟩,q⟩
def un_neg:UnR X (unaryOp .USub) (rU λi=>.int (-i)):=unI λ_ _ _ _ _ q=>neg_int q
end
def scal:V->V->Bool
 | .non,.non=>true | .non,.int _=>true | .int _,.non=>true | .non,.bl _=>true | .bl _,.non=>true | .non,.str _=>true | .str _,.non=>true
 | .int _,.int _=>true | .bl _,.bl _=>true | .str _,.str _=>true | .byt _,.byt _=>true
 | .int _,.str _=>true | .str _,.int _=>true | .bl _,.str _=>true | .str _,.bl _=>true
 |_,_=>false
def rEq:R2:=λx y H Q=>scal x y=true/\Q (.bl (decide (x=y))) H
def rNe:R2:=λx y H Q=>scal x y=true/\Q (.bl (!decide (x=y))) H
def dec_int:decide (V.int i=V.int j)=(i == j):=by rw[fg];simp
def dec_bl:decide (V.bl i=V.bl j)=(i == j):=by rw[fg];simp
def dec_str:decide (V.str i=V.str j)=(i == j):=by rw[fg];simp
def dec_byt:decide (V.byt i=V.byt j)=(i.toList == j.toList):=by rw[fg];cases i;cases j;simp
section
variable {X:Cx}{a b c:Expr}{T d f:TE}{pos:Pos}
def fin_bl (I:Inv X p g H s)(q:Q (.bl k) H)(e:k=k'):EP X p g Q (.bool k') s:=by subst e;exact⟨.bl k,H,I,rfl,q⟩
def op_eq:OpR X (compareOp .Eq) rEq:=by
 rintro p s l H x y v u Q I k r ⟨g,q⟩;cases x with
 |non=>
  cases k;cases y with
  |non=>cases r;exact PySem.EqNone.eq_none_none (fin_bl I q (by simp))
  |bl j=>cases r;exact PySem.EqNone.eq_none_bool (fin_bl I q (by simp))
  |int j=>obtain⟨e,rfl⟩:=r;exact PySem.EqNone.eq_none_int (fin_bl I q (by simp))
  |str j=>obtain⟨e,rfl⟩:=r;exact PySem.EqNone.eq_none_str (fin_bl I q (by simp))
  |_=>exact absurd (show false=true from g) aN
 |bl i=>
  cases k;cases y with
  |non=>cases r;exact PySem.EqNone.eq_bool_none (fin_bl I q (by simp))
  |bl j=>cases r;exact eq_bool (fin_bl I q dec_bl)
  |str j=>obtain⟨e,rfl⟩:=r;exact PySem.EqMixed.eq_bool_str (fin_bl I q (by simp))
  |_=>exact absurd (show false=true from g) aN
 |int i=>
  obtain⟨t,rfl⟩:=k;cases y with
  |non=>cases r;exact PySem.EqNone.eq_int_none (fin_bl I q (by simp))
  |int j=>obtain⟨e,rfl⟩:=r;exact eq_int (fin_bl I q dec_int)
  |str j=>obtain⟨e,rfl⟩:=r;exact PySem.EqMixed.eq_int_str (fin_bl I q (by simp))
  |_=>exact absurd (show false=true from g) aN
 |str i=>
  obtain⟨t,rfl⟩:=k;cases y with
  |non=>cases r;exact PySem.EqNone.eq_str_none (fin_bl I q (by simp))
  |bl j=>cases r;exact PySem.EqMixed.eq_str_bool (fin_bl I q (by simp))
  |int j=>obtain⟨e,rfl⟩:=r;exact PySem.EqMixed.eq_str_int (fin_bl I q (by simp))
  |str j=>obtain⟨e,rfl⟩:=r;exact eq_str (fin_bl I q dec_str)
  |_=>exact absurd (show false=true from g) aN
 |byt i=>
  obtain⟨t,rfl⟩:=k;cases y with
  |byt j=>obtain⟨e,rfl⟩:=r;exact W.eq_bytes (fin_bl I q dec_byt)
  |_=>exact absurd (show false=true from g) aN
 |_=>cases y<;>exact absurd (show false=true from g) aN
def op_ne:OpR X (compareOp .NotEq) rNe:=by
 rintro p s l H x y v u Q I k r ⟨g,q⟩;cases x with
 |non=>
  cases k;cases y with
  |non=>cases r;exact PySem.EqNone.ne_none_none (fin_bl I q (by simp))
  |bl j=>cases r;exact PySem.EqNone.ne_none_bool (fin_bl I q (by simp))
  |int j=>obtain⟨e,rfl⟩:=r;exact PySem.EqNone.ne_none_int (fin_bl I q (by simp))
  |str j=>obtain⟨e,rfl⟩:=r;exact PySem.EqNone.ne_none_str (fin_bl I q (by simp))
  |_=>exact absurd (show false=true from g) aN
 |bl i=>
  cases k;cases y with
  |non=>cases r;exact PySem.EqNone.ne_bool_none (fin_bl I q (by simp))
  |bl j=>cases r;exact ne_bool (fin_bl I q (congrArg not dec_bl))
  |str j=>obtain⟨e,rfl⟩:=r;exact PySem.EqMixed.ne_bool_str (fin_bl I q (by simp))
  |_=>exact absurd (show false=true from g) aN
 |int i=>
  obtain⟨t,rfl⟩:=k;cases y with
  |non=>cases r;exact PySem.EqNone.ne_int_none (fin_bl I q (by simp))
  |int j=>obtain⟨e,rfl⟩:=r;exact ne_int (fin_bl I q (congrArg not dec_int))
  |str j=>obtain⟨e,rfl⟩:=r;exact PySem.EqMixed.ne_int_str (fin_bl I q (by simp))
  |_=>exact absurd (show false=true from g) aN
 |str i=>
  obtain⟨t,rfl⟩:=k;cases y with
  |non=>cases r;exact PySem.EqNone.ne_str_none (fin_bl I q (by simp))
  |bl j=>cases r;exact PySem.EqMixed.ne_str_bool (fin_bl I q (by simp))
  |int j=>obtain⟨e,rfl⟩:=r;exact PySem.EqMixed.ne_str_int (fin_bl I q (by simp))
  |str j=>obtain⟨e,rfl⟩:=r;exact ne_str (fin_bl I q (congrArg not dec_str))
  |_=>exact absurd (show false=true from g) aN
 |byt i=>
  obtain⟨t,rfl⟩:=k;cases y with
  |byt j=>obtain⟨e,rfl⟩:=r;exact W.ne_bytes (fin_bl I q (congrArg not dec_byt))
  |_=>exact absurd (show false=true from g) aN
 |_=>cases y<;>exact absurd (show false=true from g) aN
def op_lt:OpR X (compareOp .Lt) (rI0 λi j=>.bl (decide (i<j))):=opB0 λ_ _ _ _ _ _ _ q=>lt_int q
def op_le:OpR X (compareOp .LtE) (rI0 λi j=>.bl (decide (i<=j))):=opB0 λ_ _ _ _ _ _ _ q=>le_int q
def op_gt:OpR X (compareOp .Gt) (rI0 λi j=>.bl (decide (j<i))):=opB0 λ_ _ _ _ _ _ _ q=>gt_int q
def op_ge:OpR X (compareOp .GtE) (rI0 λi j=>.bl (decide (j<=i))):=opB0 λ_ _ _ _ _ _ _ q=>ge_int q
def op_notN:OpR X (compareOp .IsNot) (λx y H Q=>y=.non/\Q (.bl (!decide (x=.non))) H):=by
 rintro p s g H x y v u Q I r e ⟨rfl,q⟩;cases e;refine isnot_none_gen (fin_bl I q ?_);cases x<;>first
  |(cases r;rfl)
  |(obtain⟨t,rfl⟩:=r;rfl)
def nomark (b:Expr)(h:op ≠ .In:=by decide)(h2:op ≠ .NotIn:=by decide):behindInMarks op b=false:=by
 have e:(op == CmpOp.In)=false:=by cases op<;>first|rfl|exact absurd rfl h
 have g:(op == CmpOp.NotIn)=false:=by cases op<;>first|rfl|exact absurd rfl h2
 cases b<;>simp[behindInMarks,e,g]
def pe_cmpR {op:CmpOp}{r:R2}(l:OpR X (compareOp op) r)(g:PE X a T)(j:PE X b d)(k:behindInMarks op b=false):PE X (.Compare a [op] [b] pos) (tOp r T d):=by intro p s t H Q I h;exact wpAny_Compare1 (binT g j I h λv u o x y e i m n q=>l p o t e x y v u Q i m n q) k
def tTest (t:TE):TT:=λe H Q=>t e H λx h=>∃k,x=.bl k/\Q k h
def pt_cmpR (A:OpR X (compareOp op) r)(q:PE X a T)(t:PE X b d)(w:behindInMarks op b=false):PT X (.Compare a [op] [b] pos) (tTest (tOp r T d)):=by
 intro p s g H Q I h;refine wpAny_isTrue_Compare1 (thn (q p s g H _ I h) λv J ⟨x,i,m,E,B⟩=>thn (t p J g i _ m B) λu L ⟨y,j,n,F,C⟩=> thn (A p L g j x y v u _ n E F C) λc M ⟨z,l,o,G,k,e,D⟩=>?_) w
 subst e;cases G;exact dW ⟨l,o,D⟩
def TruV (K:Fg)(x:V)(H:Hp)(k:Bool):Prop:=
 match x with
 | .non=>k=false
 | .bl b=>k=b
 | .int i=>k=(i != 0)
 | .str y=>y.length<=sizeLine/\k=((y.length:Int) != 0)
 | .byt y=>y.size<=sizeLine/\k=((y.size:Int) != 0)
 | .ref p=>(∃g,SqL K H p g/\k = !g.isEmpty)\/(∃g,SqT K H p g/\k = !g.isEmpty)\/∃e,H p=some (.dK e)/\k = !e.isEmpty
 |_=>False
def isEmpty_kv {e:Type}{k:List (e×V)}{vs:List (e×Value)}(r:KV k vs):(!vs.isEmpty) = !k.isEmpty:=by cases r<;>rfl
def isEmpty_of (r:Vals xs its):(!its.toArray.isEmpty) = !xs.isEmpty:=by cases r<;>simp
def line63:(sizeLine:Nat)<2^63:=by rw[dt];decide
def tru_ok:TruR X (λx H Q=>∃k,TruV X.K x H k/\Q k H):=by
 rintro B s E H x v Q I o ⟨k,e,q⟩;have C:=line63;have D:sizeLine=16777216:=dt;cases x with
 |non=>cases o;have g:k=false:=e;subst g;exact truthy_none ⟨H,I,q⟩
 |bl b=>cases o;have g:k=b:=e;subst g;exact dW ⟨H,I,q⟩
 |int i=>obtain⟨t,rfl⟩:=o;have g:k=(i != 0):=e;subst g;exact PySem.P.truthy_int ⟨H,I,q⟩
 |str y=>obtain⟨t,rfl⟩:=o;obtain⟨hy,g⟩:y.length<=sizeLine/\k=((y.length:Int) != 0):=e;subst g;exact PySem.P.truthy_str (by lia) ⟨H,I.tok _,q⟩
 |byt y=>obtain⟨t,rfl⟩:=o;obtain⟨hy,g⟩:y.size<=sizeLine/\k=((y.size:Int) != 0):=e;subst g;exact W.truthy_bytes (by lia) ⟨H,I.tok _,q⟩
 |ref p=>
  cases o;have g:(∃n,SqL X.K H p n/\k = !n.isEmpty)\/(∃n,SqT X.K H p n/\k = !n.isEmpty)\/∃j,H p=some (.dK j)/\k = !j.isEmpty:=e;rcases g with⟨n,u,g⟩|⟨n,u,g⟩|⟨j,u,g⟩
  .subst g;obtain⟨z,r,pl,A⟩:=I.list u;have l:=r.length;exact wpAny_truthy_list pl.isList (by simp only[aw];lia) ⟨H,I.tok _,by rw[isEmpty_of r];exact q⟩
  .subst g;obtain⟨z,r,pl,A⟩:=I.tuple u;have l:=r.length;exact truthy_tuple pl (by simp only[aw];lia) ⟨H,I.tok _,by rw[isEmpty_of r];exact q⟩
  .subst g;obtain⟨A,hS,w,r,m⟩:j.length<=sizeLine/\(p == sysModules)=false/\∃w,KV j w/\s.heap.DictOf (mixKind X.prog X.w) p w:=I.hok p _ u;have l:j.length=w.length:=Paired.length r;exact wpAny_truthy_dict hS m (by lia) ⟨H,I.tok _,by rw[isEmpty_kv r];exact q⟩
 |_=>exact(show False from e).elim
def pt_truth (l:PE X a T)(m:∀w,isTrue a X.env w=(do let v <- w;standAt a.pos;holding [v] (truthy v))) :
  PT X a (λe H Q=>T e H λx g=>∃k,TruV X.K x g k/\Q k g):=by
 intro p s e H Q I h;exact isTrue_plain (thn (l p s e H _ I h) λv n ⟨x,i,j,r,q⟩=>tru_ok p n e i x v Q j r q) (m _)
def vals1 (r:Vals [x] us):∃u,us=[u]/\RelV x u:=by
 cases r with
 |cons e g=>cases g;exact⟨_,rfl,e⟩
def vals2 (r:Vals [x,y] us):∃u w,us=[u,w]/\RelV x u/\RelV y w:=by
 cases r with
 |cons e g=>
  cases g with
  |cons h i=>cases i;exact⟨_,_,rfl,e,h⟩
def call_max2 (g:X.calm=true):CallR X (.builtin "max") (λxs H Q=>∃i j,xs=[.int i,.int j]/\Q (.int (if j > i then j else i)) H):=by
 rintro p s v H xs o Q I r ⟨i,j,rfl,q⟩;obtain⟨u,w,rfl,⟨t,rfl⟩,⟨m,rfl⟩⟩:=vals2 r;refine max_two_ints (I.ok.hd g) λl n k=>⟨_,H,I.kept k,?_,q⟩;by_cases e:j > i
 .rw[af e,af e];exact⟨_,rfl⟩
 .rw[ae e,ae e];exact⟨_,rfl⟩
def call_min2 (g:X.calm=true):CallR X (.builtin "min") (λxs H Q=>∃i j,xs=[.int i,.int j]/\Q (.int (if j<i then j else i)) H):=by
 rintro p s v H xs o Q I r ⟨i,j,rfl,q⟩;obtain⟨u,w,rfl,⟨t,rfl⟩,⟨m,rfl⟩⟩:=vals2 r;refine min_two_ints (I.ok.hd g) λl n k=>⟨_,H,I.kept k,?_,q⟩;by_cases e:j<i
 .rw[af e,af e];exact⟨_,rfl⟩
 .rw[ae e,ae e];exact⟨_,rfl⟩
def call_int1:CallR X (.type "int") (λxs H Q=>(∃i,xs=[.int i]/\Q (.int i) H)\/∃k,xs=[.bl k]/\Q (.int (if k then 1 else 0)) H):=by
 intro p s j H xs g Q I r h;rcases h with⟨i,rfl,q⟩|⟨k,rfl,q⟩
 .obtain⟨u,rfl,t,rfl⟩:=vals1 r;exact call_int_int ⟨.int i,H,I,⟨_,rfl⟩,q⟩
 .obtain⟨u,rfl,e⟩:=vals1 r;cases e;exact call_int_bool ⟨.int (if k then 1 else 0),H,I.tok _,⟨_,rfl⟩,q⟩
end
structure ObjM (h:Heap)(x dx C:Addr)(mA:Mg):Prop where
 obj:h.get? x=some (W.instObj C dx)
 ns:h.Ns1 dx mA
 ne:dx≠x
def lookIn_ns {h:Heap}{d:Addr}{m:Mg}(n:h.Ns1 d m):∃g,h.get? d=some g/\∀b,W.lookIn b g=some (m b):=by
 obtain⟨o,f,s,p,j,k,_,l⟩:=n;refine⟨o,p,λb=>?_⟩;have e:=l b;unfold nsFind findBy at e;rw[<- Array.find?_toList]at e;unfold W.lookIn;rw[j];dsimp only;split
 .rename_i y q;rw[q]at e;exact congrArg some e
 .rename_i q;rw[q]at e;have a:f.toList.any (·.refKey)=false:=by rw[List.any_eq_false];intro y r;obtain⟨z,t,c⟩:=k y (Array.mem_toList_iff.mp r);simp[DictEntry.refKey,c]
  have i:¬f.toList.any (·.refKey)=true:=by rw[a];exact aN
  rw[ae i];exact congrArg some e
def ObjM.look (I:ObjM h x dx C mA):∃o,W.InstAt h x (W.instObj C dx) C (some o)/\∀n,W.lookIn n o=some (mA n):=
 let ⟨o,ho,hl⟩:=lookIn_ns I.ns
 ⟨o,⟨I.obj,rfl,rfl,ho⟩,hl⟩
section
variable {prog:Program}{w:World}{A:Around}{E:Value->Shared->Prop}{s:Shared}{K:Fg}{x D C f:Addr}{m:Mg}{n:Str}{v:Value}
def get_map (X:K.In s.heap)(I:ObjM s.heap x D C m)(c:W.plainGet K C n=true)(d:W.hasDictIn K C=true)
  (b:W.findIn K (.ref C) n=some none) (g:m n=some v) (a:W.handedIn v=true) (h:Q v { s with toks:=s.toks+1 }) :
  wpAny (model prog w) A (getAttr (.ref x) n expr) Q E s:=by
 obtain⟨o,J,e⟩:=I.look;exact W.get_value X J (f7 c).1 (W.findObj_own d b rfl (by rw[e,g])) a h
def get_meth (X:K.In s.heap)(I:ObjM s.heap x D C m)(a:W.plainGet K C n=true)
  (b:W.findIn K (.ref C) n=some (some (.ref f))) (d:W.isFn K (.ref f)=true) (e:m n=none) (h:Q (.ref f,[.ref x]) s) :
  wpAny (model prog w) A (getMethod (.ref x) n pl) Q E s:=by
 obtain⟨o,J,c⟩:=I.look;exact W.method_fn X J (f7 a).1 (f7 a).2 b (beq_iff_eq.mp d) (by show(W.lookIn n o).map (·.isSome)=some false;rw[c,e];rfl) h
def set_map (X:K.In s.heap)(I:ObjM s.heap x D C m)
  (t:W.findIn K (.ref C) "__setattr__"=some (some (.builtin "object.__setattr__"))) (q:W.plainOver K C=true) (z:W.takerIn K C n=some none) (p:W.hasDictIn K C=true)
  (B:PySem.Within m ns) (u:ns.length<=sizeLine)
  (h:∀h',ObjM h' x D C (λy=>if y=n then some v else m y)->Heap.SameBut D s.heap h' -> Q () { s with heap:=h',toks:=s.toks+2 }) :
  wpAny (model prog w) A (setAttr (.ref x) n v) Q E s:=by
 obtain⟨M,J,H⟩:=I.look;refine W.set_plain X J t (W.osa_open (s:={ s with toks:=s.toks+1 }) (r:=none) X J q z λb=>?_);obtain⟨G,o,g⟩:=W.any_some p;have F:s.heap.get? x=some ⟨.ref C,some D,.plain,#[]⟩:=I.obj;refine aH (bY (aH (aH (wpAny_loadPart F (aH (W.Looks.here (s:={ s with toks:=s.toks+1 }) (W.looks_clsIn X o) ?_))))));rw[g];refine bY (a:=some D) (aH (bY (aH ?_)));refine wpAny_nsSet1 (s:={ s with toks:=s.toks+1 }) I.ns λh' c d=>?_;obtain⟨L,l,k,j,i,e⟩:=c.count (PySem.Within.cons n v B);refine aH (wpAny_lookBehind j (by rw[i];exact pastItsLine_dict (aA e (by rw[aR];lia))) ?_);exact bY (h _ ⟨(d.2 _ (cw I.ne)).trans I.obj,c,I.ne⟩ d)
def make_map (X:K.In s.heap)(c:W.makesIn K C=true)
  (b:W.findIn K (.ref C) "__init__"=some (some (.ref f))) (a:W.typeIn K (.ref f)=some (.type "function"))
  (h:codeAny (model prog w) (A.under (.builtin "type.__call__" ⟨.ref C::vs,kw⟩)) (.call (.ref f) ⟨.ref (s.heap.objs.size+1)::vs,kw⟩) (W.InitBack (s.heap.objs.size+1) R) { s with heap:=(s.heap.push W.emptyDict).push (W.instObj C s.heap.objs.size) }) :
  codeAny (model prog w) A (.call (.ref C) ⟨vs,kw⟩) R s:=by
 obtain⟨e,g,d,t,o⟩:=s;exact W.make_core (W.makes_of X c) (W.looks_findIn X b) (λself=>W.bind_fn X self a) (.inl rfl) h
end
def putF (f:Str)(v:V):List (Str×V)->List (Str×V)
 |[]=>[(f,v)]
 |(g,x)::r=>if g=f then(g,v)::r else(g,x)::putF f v r
def lookup_putF (f g:Str)(v:V):∀fs:List (Str×V),(putF f v fs).lookup g=if g=f then some v else fs.lookup g
 |[]=>by
  show List.lookup g [(f,v)]=_;by_cases h:g=f
  .have a:(g == f)=true:=beq_iff_eq.mpr h;simp only[List.lookup,a,af h]
  .have a:(g == f)=false:=beq_eq_false_iff_ne.mpr h;simp only[List.lookup,a,ae h]
 |(k,x)::r=>by
  have i:=lookup_putF f g v r;rw[show putF f v ((k,x)::r)=(if k=f then(k,v)::r else(k,x)::putF f v r) from rfl];by_cases b:k=f
  .rw[af b];by_cases h:g=k
   .have a:(g == k)=true:=beq_iff_eq.mpr h;simp only[List.lookup,a,af (h.trans b)]
   .have a:(g == k)=false:=beq_eq_false_iff_ne.mpr h;simp only[List.lookup,a,ae (λe:g=f=>h (e.trans b.symm))]
  .rw[ae b];by_cases h:g=k
   .have a:(g == k)=true:=beq_iff_eq.mpr h;simp only[List.lookup,a,ae (λe:g=f=>b (h.symm.trans e))]
   .have a:(g == k)=false:=beq_eq_false_iff_ne.mpr h;simp only[List.lookup,a];exact i
def keys_putF (f:Str)(v:V):∀fs:List (Str×V),f∈(putF f v fs).map (·.1)/\∀g,g∈fs.map (·.1)->g∈(putF f v fs).map (·.1)
 |[]=>⟨by simp[putF],λg h=>by simp at h⟩
 |(k,x)::r=>by
  obtain⟨i,b⟩:=keys_putF f v r;rw[show putF f v ((k,x)::r)=(if k=f then(k,v)::r else(k,x)::putF f v r) from rfl];by_cases a:k=f
  .rw[af a];subst a;exact⟨by simp,λg h=>by simpa using h⟩
  .rw[ae a];refine⟨?_,λg h=>?_⟩
   .rw[bN];exact ad _ i
   .rw[bN]at h ⊢;rcases aG.mp h with e|e
    .exact aG.mpr (.inl e)
    .exact ad _ (b g e)
def length_putF (f:Str)(v:V):∀fs:List (Str×V),(putF f v fs).length<=fs.length+1
 |[]=>by simp[putF]
 |(k,x)::r=>by
  have i:=length_putF f v r;rw[show putF f v ((k,x)::r)=(if k=f then(k,v)::r else(k,x)::putF f v r) from rfl];by_cases h:k=f
  .rw[af h,aR,aR];lia
  .rw[ae h,aR,aR];lia
def RelO.some_of (r:RelO (some v) o):∃u,o=some u/\RelV v u:=by
 cases o with
 |none=>exact(show False from r).elim
 |some u=>exact⟨u,rfl,r⟩
def RelO.none_of (r:RelO none o):o=none:=by
 cases o with
 |none=>rfl
 |some u=>exact(show False from r).elim
def handed_of (r:RelV v u):W.handedIn u=true:=by
 cases v with
 |non=>cases (show u=Value.none from r);rfl
 |bl b=>cases (show u=Value.bool b from r);rfl
 |int i=>obtain⟨t,e⟩:=(show ∃t,u=Value.int i t from r);cases e;rfl
 |str x=>obtain⟨t,e⟩:=(show ∃t,u=Value.str x t from r);cases e;rfl
 |byt b=>obtain⟨t,e⟩:=(show ∃t,u=Value.bytes b t from r);cases e;rfl
 |flt b=>obtain⟨t,e⟩:=(show ∃t,u=Value.float b t from r);cases e;rfl
 |ref a=>cases (show u=Value.ref a from r);rfl
 |ty n=>cases (show u=Value.type n from r);rfl
section
variable {P:Program}{w:World}{H b:Hp}{h h':Heap}{a C D:Addr}{fs F:List (Str×V)}
def ins_get (c:HOk P w H h)(e:H a=some (.ins C D fs)):∃m,ObjM h a D C m/\(∀f,RelO (fs.lookup f) (m f))/\PySem.Within m (fs.map (·.1))/\fs.length<=1000/\H D=some (.own a):=by obtain⟨d,z,ne,ob,m,n,r,q⟩:=(show ObjOk P w H h a (.ins C D fs) from c a _ e);exact⟨m,⟨ob,n,ne⟩,r,q,z,d⟩
end
def Cls.get {K:Fg}{C:Addr}(c:Cls K C)(f:Str):W.plainGet K C f=true:=c.pg
def NoAttr.taker {K:Fg}{C:Addr}{f:Str}(n:NoAttr K C f):W.takerIn K C f=some none:=by unfold W.takerIn;rw[show W.findIn K (.ref C) f=some none from n];rfl
section
variable {X:Cx}{p:List (Addr×Obj)}{d:St}{H:Hp}{s:Shared}{a C D:Addr}{fs:List (Str×V)}{f:Str}{v:V}{A:Around}{E:Value->Shared->Prop}
def getattr_ok (I:Inv X p d H s)(e:H a=some (.ins C D fs))(c:Cls X.K C)(n:NoAttr X.K C f)(l:fs.lookup f=some v)
  (h:∀u s',Inv X p d H s' -> RelV v u->Q u s'):wpAny (model X.prog X.w) A (getAttr (.ref a) f b) Q E s:=by
 obtain⟨m,O,r,_,_,_⟩:=ins_get I.hok e;obtain⟨u,i,g⟩:=RelO.some_of (v:=v) (o:=m f) (by rw[<- l];exact r f);exact get_map I.kIn O (c.get f) c.hd n i (handed_of g) (h u _ (I.tok _) g)
def getmeth_ok (I:Inv X p d H s)(e:H a=some (.ins C D fs))(c:Cls X.K C)(k:Meth X.K C m g)(l:fs.lookup m=none)
  (h:Q (.ref g,[.ref a]) s):wpAny (model X.prog X.w) A (getMethod (.ref a) m pl) Q E s:=by
 obtain⟨i,O,r,_,_,_⟩:=ins_get I.hok e;have b:i m=none:=RelO.none_of (by rw[<- l];exact r m);exact get_meth I.kIn O (c.get m) k.at_ k.fn b h
def setattr_ok (I:Inv X p d H s)(e:H a=some (.ins C D fs))(c:Cls X.K C)(n:NoAttr X.K C f)(L:fs.length<1000)(G:RelV y u)
  (h:∀s',Inv X p d (upd H a (.ins C D (putF f y fs))) s' -> Q () s'):wpAny (model X.prog X.w) A (setAttr (.ref a) f u) Q E s:=by
 obtain⟨m,O,r,w,_,j⟩:=ins_get I.hok e;have F:(fs.map (·.1)).length<=sizeLine:=by rw[aa,dt];lia
 refine set_map I.kIn O c.sa c.po n.taker c.hd w F λk i J=>h _ ?_;have t:∃o,k.get? D=some o:=let ⟨o,_,_,e',_⟩:=i.ns;⟨o,e'⟩
 refine I.write (x:=a) (e:=D) (by rw[e];exact tJ) (.inr j) (λb q l z=>(J.2 b l).trans z) t ?_;refine⟨by rw[upd_ne O.ne];exact j,?_,O.ne,i.obj,_,i.ns,λg=>?_,λg B=>?_⟩
 .have:=length_putF f y fs;lia
 .show RelO ((putF f y fs).lookup g) (if g=f then some u else m g);rw[lookup_putF];by_cases q:g=f
  .rw[af q,af q];exact G
  .rw[ae q,ae q];exact r g
 .by_cases q:g=f
  .rw[q];exact(keys_putF f y fs).1
  .refine(keys_putF f y fs).2 g (w g λz=>B ?_);show(if g=f then some u else m g)=none;rw[ae q];exact z
def Inv.made (I:Inv X p d H s):Inv X p d (upd (upd H s.heap.objs.size (.own (s.heap.objs.size+1))) (s.heap.objs.size+1) (.ins C s.heap.objs.size []))
  { s with heap:=(s.heap.push W.emptyDict).push (W.instObj C s.heap.objs.size) }:=by
 have c:(s.heap.push W.emptyDict).get? s.heap.objs.size=some W.emptyDict:=a8 s.heap rfl;have g:((s.heap.push W.emptyDict).push (W.instObj C s.heap.objs.size)).get? (s.heap.objs.size+1)=some (W.instObj C s.heap.objs.size):=by
  have:=a8 (s.heap.push W.emptyDict) (o:=W.instObj C s.heap.objs.size) rfl
  rwa [Heap.size_push]at this
 have h:(s.heap.push W.emptyDict).Ns s.heap.objs.size (λ_=>none):=⟨W.emptyDict,#[],_,c,rfl,(λe j=>absurd j (by simp)),λ_=>rfl⟩;have i:=I.laid (a:=s.heap.objs.size) (o:=.own (s.heap.objs.size+1)) (h':=s.heap.push W.emptyDict) (t':=s.toks) (λb u q=>ay _ q) (aj _) ⟨_,c⟩;refine i.laid (a:=s.heap.objs.size+1) (o:=.ins C s.heap.objs.size []) (t':=s.toks) (λb u q=>ay _ q) (jf (Heap.size_push _ _)) ?_;have ne:s.heap.objs.size≠s.heap.objs.size+1:=bh (cC _);refine⟨by rw[upd_ne ne,upd_same],a9 _,ne,g,λ_=>none,(Heap.Ns1.of_empty h).at λo q=>ay _ q,λ_=>tJ,λy k=>absurd rfl k⟩
def attr_of (b:attributeBase e f env (eval e env)=eval e env)
  (h:wpAny (model prog w) A (eval e env) (λo s₁=>wpAny (model prog w) A (getAttr o f true) Q E s₁) E s):wpAny (model prog w) A (eval (.Attribute e f pos) env) Q E s:=
 Attribute_any_ h (by rw[arm_eval_Attribute,b])
end
def tFld (K:Fg)(t:TE)(f:Str):TE:=λb H Q=>t b H λx h=>∃a C d fs v,x=.ref a/\h a=some (.ins C d fs)/\Cls K C/\NoAttr K C f/\fs.lookup f=some v/\Q v h
def sFld (K:Fg)(t e:TE)(f:Str):TS:=λD b H=>e b H λy c=>t b c λx h=>∃a C d fs,x=.ref a/\h a=some (.ins C d fs)/\Cls K C/\NoAttr K C f/\fs.length<1000 /\
 D.nx b (upd h a (.ins C d (putF f y fs)))
section
variable {X:Cx}{o e b:Expr}{f:Str}{pos p T:Pos}{t d:TE}
def pe_fld (y:PE X e t)(w:attributeBase e f X.env (eval e X.env)=eval e X.env):PE X (.Attribute e f pos) (tFld X.K t f):=by intro g s B H Q I h;refine attr_of w (thn (y g s B H _ I h) λu E ⟨x,i,j,A,a,C,D,fs,v,r,m,c,n,l,q⟩=>?_);subst r;obtain rfl:u=Value.ref a:=A;exact getattr_ok j m c n l λG F k z=>⟨v,i,k,z,q⟩
def ps_fld (z:PE X o t)(B:PE X b d)(A:swapsWith b (some (.Attribute o f p)) pos.line X.env=pure false):PS X (.Assign [.Attribute o f p] b pos) (sFld X.K t d f):=by intro g s i H D I h;refine plainObj_wpAny_Assign_Attribute (thn (B g s i H _ I h) λu L ⟨y,j,k,J,q⟩=>thn (z g L i j _ k q) λE O ⟨x,M,m,G,a,C,N,fs,w,v,c,n,l,F⟩=>?_) A;subst w;obtain rfl:E=Value.ref a:=G;exact setattr_ok m v c n l J λP r=>⟨i,_,r,F⟩
end
section
variable {X:Cx}{P:List (Addr×Obj)}{d:St}{H:Hp}{s:Shared}{A:Around}{E:Value->Shared->Prop}{Q:Value->Shared->Prop}{c:Value}{b:Bool}
inductive TyOf (K:Fg)(H:Hp):V->Value->Prop where
 |non:TyOf K H .non (.type "NoneType")
 |bl (x:Bool):TyOf K H (.bl x) (.type "bool")
 |int (i:Int):TyOf K H (.int i) (.type "int")
 |str (x:Str):TyOf K H (.str x) (.type "str")
 |flt (x:UInt64):TyOf K H (.flt x) (.type "float")
 |lst {a:Addr} {xs:List V} (e:H a=some (.lst xs)):TyOf K H (.ref a) (.type "list")
 |frz {a:Addr} {o:Obj} {xs:List V} (e:H a=some (.frz o (.lst xs))):TyOf K H (.ref a) (.type "list")
 |tup {a:Addr} {xs:List V} (e:H a=some (.tup xs)):TyOf K H (.ref a) (.type "tuple")
 |dK {a:Addr} {kvs:List (Key×V)} (e:H a=some (.dK kvs)):TyOf K H (.ref a) (.type "dict")
 |dT {a:Addr} {kvs:List (List Key×V)} (e:H a=some (.dT kvs)):TyOf K H (.ref a) (.type "dict")
 |ins {a C dx:Addr} {fs:List (Str×V)} (e:H a=some (.ins C dx fs)) (cl:Cls K C) (ha:W.findIn K (.ref C) "__class__"=some (some (.builtin "object.__class__")))
   (hn:W.specialIn K (.builtin "object.__class__") "__get__"=some (some (.builtin "getset_descriptor.__get__"))) (htk:W.takesIn K (.builtin "object.__class__")=some true)
   (hm:W.mroIn K C (.type "object")=some true):TyOf K H (.ref a) (.ref C)
def isinst_ok (I:Inv X P d H s)(r:RelV x u)(ty:TyOf X.K H x t)(e:W.kitOne X.K t c=some b)(h:∀tk,Q (.bool b) { s with toks:=tk }) :
  wpAny (model X.prog X.w) A (call (.builtin "isinstance") [u,c]) Q E s:=by
 cases ty with
 |non=>cases (show u=Value.none from r);exact cA W.kitx_none I.kIn tJ e (λz=>nomatch z) h
 |bl y=>cases (show u=Value.bool y from r);exact cA W.kitx_bool I.kIn tJ e (λz=>nomatch z) h
 |int i=>obtain⟨t,q⟩:=(show ∃t,u=Value.int i t from r);cases q;exact cA W.kitx_int I.kIn tJ e (λz=>nomatch z) h
 |str y=>obtain⟨t,q⟩:=(show ∃t,u=Value.str y t from r);cases q;exact cA W.kitx_str I.kIn tJ e (λz=>nomatch z) h
 |flt y=>obtain⟨t,q⟩:=(show ∃t,u=Value.float y t from r);cases q;exact cA W.kitx_float I.kIn tJ e (λz=>nomatch z) h
 |@lst a f ea=>cases (show u=Value.ref a from r);obtain⟨_,_,n,_,h1⟩:=(show ObjOk X.prog X.w H s.heap a (.lst f) from I.hok a _ ea);exact cA W.kitx_list I.kIn ⟨_,h1,rfl⟩ e (λz=>nomatch z) h
 |@frz a ob f ea=>cases (show u=Value.ref a from r);obtain⟨_,_,_,n,_,h1⟩:=(show ObjOk X.prog X.w H s.heap a (.frz ob (.lst f)) from I.hok a _ ea);exact cA W.kitx_list I.kIn ⟨_,h1,rfl⟩ e (λz=>nomatch z) h
 |@tup a f ea=>cases (show u=Value.ref a from r);obtain⟨_,_,_,p⟩:=(show ObjOk X.prog X.w H s.heap a (.tup f) from I.hok a _ ea);obtain⟨o,h1,h2,_⟩:=p;exact cA W.kitx_tuple I.kIn ⟨o,h1,h2⟩ e (λz=>nomatch z) h
 |@dK a kvs ea=>cases (show u=Value.ref a from r);obtain⟨_,_,v,_,p⟩:=(show ObjOk X.prog X.w H s.heap a (.dK kvs) from I.hok a _ ea);obtain⟨o,j,g,h1,h2,_⟩:=p;exact cA W.kitx_dict I.kIn ⟨o,h1,h2.1⟩ e (λz=>nomatch z) h
 |@dT a kvs ea=>cases (show u=Value.ref a from r);obtain⟨_,_,f,_,o,j,g,h1,h2,_⟩:=(show ObjOk X.prog X.w H s.heap a (.dT kvs) from I.hok a _ ea);exact cA W.kitx_dict I.kIn ⟨o,h1,h2.1⟩ e (λz=>nomatch z) h
 |@ins a C dx fs ea cl ha hn htk hm=>cases (show u=Value.ref a from r);obtain⟨m,O,_⟩:=ins_get I.hok ea;obtain⟨k,J,_⟩:=O.look;exact cA (W.kitx_own (cl.get _) cl.hd ha hn htk hm) I.kIn J e (λz=>nomatch z) h
end
def Room.mono (r:Room k A)(h:j<=k):Room j A:=⟨r.hd,by have:=r.dp;lia,by have:=r.un;lia⟩
def Room.deeper (r:Room (k+1) A)(env:Env):Room k (A.deeper env):=
 ⟨r.hd,by have:=r.dp;show A.depth+1+3*k+5<_;lia,by have:=r.un;show A.units+3+16*k+200<_;lia⟩
def Room.in1 (r:Room (k+1) A):Room k A.in1:=
 ⟨r.hd,by have:=r.dp;show A.depth+3*k+5<_;lia,by have:=r.un;show A.units+1+16*k+200<_;lia⟩
def make_depth {A:Around}{C:Addr}{us:Lv}{k:List (Str×Value)}:(A.under (.builtin "type.__call__" ⟨.ref C::us,k⟩)).depth=A.depth+1:=by
 first|rfl|simp[Around.under,Code.weight,Code.isCreation,Code.isGuard,Code.isCaller,Code.frames,Code.isFrame,guardIds]
def make_units {A:Around}{C:Addr}{us:Lv}{k:List (Str×Value)}:(A.under (.builtin "type.__call__" ⟨.ref C::us,k⟩)).units=A.units+1:=by
 first|rfl|simp[Around.under,Code.cUnits,Code.frames,Code.isFrame]
def Room.make (r:Room (k+1) A)(C:Addr)(us:Lv)(a:List (Str×Value)):Room k (A.under (.builtin "type.__call__" ⟨.ref C::us,a⟩)):=
 ⟨r.hd,by have:=r.dp;rw[make_depth];lia,by have:=r.un;rw[make_units];lia⟩
def Room.depth (r:Room k A):A.depth<recursionLimit:=by have:=r.dp;lia
def Room.units (r:Room k A):A.units+64<cLine:=by have:=r.un;lia
def tNil:TA:=λ_ H Q=>Q [] H
def tCons (t:TE)(c:TA):TA:=λa H Q=>t a H λx h=>c a h λd b=>Q (x::d) b
section
variable {X:Cx}{e:Expr}{E:List Expr}{T:TE}{t:TA}{pos:Pos}
def pa_nil:PA X [] tNil:=λ_ _ _ _ H Q I h=>Calls.spliced_nil ⟨[],H,I,.nil,h⟩
def pa_cons (f:PE X e T)(g:PA X E t)(j:starEach (e::E) X.env=(false,eval e X.env)::starEach E X.env:=by rfl):PA X (e::E) (tCons T t):=by intro pos p s a H Q I h;rw[j];show wpAny _ _ (spliced ((false,eval e X.env)::backTo pos (starEach E X.env))) _ _ s;refine Calls.spliced_cons (thn (f p s a H _ I h) λu m ⟨x,b,i,r,q⟩=>?_);exact thn (g pos p m a b _ i q) λv o ⟨n,c,d,l,k⟩=>⟨x::n,c,d,.cons r l,k⟩
def tTup (t:TA):TE:=λa H Q=>t a H λx h=>x.length<=sizeLine/\∀p,h p=none->Q (.ref p) (upd h p (.tup x))
def tLst (t:TA):TE:=λa H Q=>t a H λx h=>x.length<=sizeLine/\∀p,h p=none->Q (.ref p) (upd h p (.lst x))
def pe_tup (h:PA X E t):PE X (.Tuple E x1 pos) (tTup t):=by intro p s j H Q I f;refine wpAny_Tuple_spliced (thn (h pos p s j H _ I f) λg a ⟨x,c,i,r,z,q⟩=>⟨by rw[<- r.length];exact z,?_⟩);have d:c a.heap.objs.size=none:=i.hok.fresh (aj _);refine⟨.ref a.heap.objs.size,upd c a.heap.objs.size (.tup x),i.laid (t':=a.toks) (λb u e=>ay _ e) (aj _) ?_,rfl,q _ d⟩;exact⟨z,g,r,⟨_,a8 _ rfl,rfl,_,rfl⟩⟩
def pe_lst (h:PA X E t):PE X (.List E pos) (tLst t):=by intro p s j H Q I f;refine wpAny_List_spliced (thn (h pos p s j H _ I f) λg a ⟨x,c,i,r,z,q⟩=>⟨by rw[<- r.length];exact z,?_⟩);have d:c a.heap.objs.size=none:=i.hok.fresh (aj _);refine⟨.ref a.heap.objs.size,upd c a.heap.objs.size (.lst x),i.laid (t':=a.toks) (λb u e=>ay _ e) (aj _) ?_,rfl,q _ d⟩;exact⟨z,g,0,r,a8 _ rfl⟩
end
def FnOk.mono {P:Program}{w:World}{K:Fg}{mg:Mg}{base:Heap}{CX:CXT}{j k:Nat}{f:Addr}{b:FuncData}{p:Ls}{sp:Sp}(F:FnOk P w K mg base CX j f b p sp)(h:j<=k) :
  FnOk P w K mg base CX k f b p sp:=⟨F.len,λA o s H a u v Q E c=>F.run A o s H a u v Q E (c.mono h)⟩
def FnOk.imp {P:Program}{w:World}{K:Fg}{mg:Mg}{base:Heap}{CX:CXT}{k:Nat}{f:Addr}{c:FuncData}{p:Ls}{sp b:Sp}(F:FnOk P w K mg base CX k f c p sp)
  (h:∀vs H Q E,b vs H Q E->sp vs H Q E):FnOk P w K mg base CX k f c p b:=
 ⟨λvs H Q E q=>F.len vs H Q E (h _ _ _ _ q),λA o s H a u vs Q E g e d j i=>F.run A o s H a u vs Q E g e d j (h _ _ _ _ i)⟩
def Env0.make {P:Program}{w:World}{K:Fg}{mg:Mg}{base:Heap}{A:Around}{outer:List Env}{s:Shared}{H:Hp}(e:Env0 P w K mg base A outer s H)(C:Addr)(us:Lv)(k:List (Str×Value)) :
  Env0 P w K mg base (A.under (.builtin "type.__call__" ⟨.ref C::us,k⟩)) outer s H:=⟨by first|exact e.frames|(simpa [Around.under,Code.envs,Code.isFrame,pushEnvs] using e.frames),e.mod,e.bs,e.bsz,e.funs,e.frf,e.hok,e.bare⟩
def Env0.in1 {P:Program}{w:World}{K:Fg}{mg:Mg}{base:Heap}{A:Around}{outer:List Env}{s:Shared}{H:Hp}(e:Env0 P w K mg base A outer s H) :
  Env0 P w K mg base A.in1 outer s H:=⟨e.frames,e.mod,e.bs,e.bsz,e.funs,e.frf,e.hok,e.bare⟩
section
variable {X:Cx}{p:List (Addr×Obj)}{a:St}{H:Hp}{s s':Shared}
def Inv.env0 (I:Inv X p a H s):Env0 X.prog X.w X.K X.mg X.base X.A X.stack s H:=
 ⟨I.ok.frames,I.ok.mod,I.bs,aA I.ok.bsz I.sz,I.stack,⟨I.stkFree,λx h=>let ⟨ps,e⟩:=I.ok.frf.t x h;let ⟨more,e'⟩:=I.base.tbls x.2.1 _ e;⟨ps++more,e'⟩⟩,I.hok,I.bare⟩
def Inv.after (I:Inv X p a H s)(h:CE X.stack X.prog X.w H s Q u s'):EP X p a Q u s':=by obtain⟨v,f,j,c,un,e,r,q⟩:=h;obtain⟨i,g,d,t,o⟩:=s';obtain rfl:o=s.os:=j;exact⟨v,f,I.call (h':=i) (g':=g) (d':=d) (t':=t) (ch:=[]) un e c (λb z=>absurd z (by simp)),r,q⟩
end
def tCall (sp:Sp)(d:List V)(E:XK)(t:TA):TE:=λa H Q=>t a H λv h=>sp (v++d) h Q E
def tMeth (C:Addr)(m:Str)(sp:Sp)(d:List V)(E:XK)(f:TE)(t:TA):TE:=λb H Q=>f b H λx h=>∃a e fs,x=.ref a/\h a=some (.ins C e fs)/\fs.lookup m=none /\
 t b h λv c=>sp (x::(v++d)) c Q E
def tMake (C:Addr)(sp:Sp)(a:List V)(E:XK)(t:TA):TE:=λe H Q=>t e H λc h=>∀x d,h x=none->h d=none->d≠x ->
 sp (.ref x::(c++a)) (upd (upd h d (.own x)) x (.ins C d [])) (λv b=>v=.non/\Q (.ref x) b) E
def Passes (CX:CXT)(X:Cx)(E:XK):Prop:=∀(p:List (Addr×Obj)) (σ:St) (H:Hp) (s:Shared) (e:Value) (s':Shared),Inv X p σ H s->CX X.stack H s E e s' -> X.xe e s'
section
variable {X:Cx}{CX:CXT}{k:Nat}{f C:Addr}{g:FuncData}{P:List Str}{sp:Sp}{d:List V}{D:List Value}{E:XK}{x m:Str}{p pos A:Pos}{e o:Expr}{b:List Expr}{T:TE}{t:TA}
def run_fn (F:FnOk X.prog X.w X.K X.mg X.base CX k f g P sp)(w:Room k X.A)(n:Binds X.K g P D)(q:Vals d D)(y:Passes CX X E)
  (I:Inv X a j H s) (r:Vals vs us) (h:sp (vs++d) H Q E):wpAny (model X.prog X.w) X.A (call (.ref f) us) (EP X a j Q) X.xe s:=by
 have i:Vals (vs++d) (us++D):=r.append q;have v:(us++D).length=P.length:=by rw[<- i.length];exact F.len _ _ _ _ h
 refine iD (gw (F.run X.A X.stack s H ⟨us,[]⟩ (us++D) (vs++d) Q E w I.env0 (n s us I.kIn v) i h) λr z c=>?_);cases r with
 |error e=>exact y a j H s e z I c
 |ok l=>
  cases l with
  |ret u=>exact I.after c
  |next=>exact False.elim c
  |brk=>exact False.elim c
  |cont=>exact False.elim c
def pe_call (F:FnOk X.prog X.w X.K X.mg X.base CX k f g P sp)(B:Room k X.A)(w:Gl X x)(z:X.mg x=some (.ref f))(y:W.keepIn X.K (.ref f)=true)(n:Binds X.K g P D)(u:Vals d D)(G:Passes CX X E)
  (l:PA X (e::b) t) (c:(x == ("__debug__":Str))=false:=by decide) (v:starEach (e::b) X.env=(false,eval e X.env)::starEach b X.env:=by rfl) (i:(backTo pos (starEach b X.env)).any (·.1)=false:=by rfl) :
  PE X (.Call (.Name x p) (e::b) [] pos) (tCall sp d E t):=by
 intro a s J H Q I h;refine cF (ld_glob I w z ?_ c);refine dH (h₀:=X.base) I.ok.mod.kin y (thn (l pos a s J H _ I h) λN M ⟨O,L,j,r,q⟩=>⟨j.kIn,?_⟩) v i;exact run_fn F B n u G j r q
def pe_meth (O:PE X o T)(c:Cls X.K C)(y:Meth X.K C m f)(F:FnOk X.prog X.w X.K X.mg X.base CX k f g P sp)(R:Room k X.A)(M:Binds X.K g P D)(N:Vals d D)(U:Passes CX X E)(L:PA X (e::b) t)
  (n:starEach (e::b) X.env=(false,eval e X.env)::starEach b X.env:=by rfl) (j:(backTo pos (starEach b X.env)).any (·.1)=false:=by rfl)
  (S:eval (.Call (.Attribute o m A) (e::b) [] pos) X.env=(do
   let ov <- eval o X.env
   standAt A.atName
   let (f,first) <- holding [ov] (getMethod ov m pl)
   callWith pos f first (backTo pos (starEach (e::b) X.env)) (backToKw pos (keywordEach [] X.env))):=by rfl) :
  PE X (.Call (.Attribute o m A) (e::b) [] pos) (tMeth C m sp d E T t):=by
 intro i s z H Q I h;refine ii (pl:=pl) (thn (O i s z H _ I h) λu s1 ⟨x,B,v,Z,a,dx,fs,J,G,l,q⟩=>?_) S;subst J;obtain rfl:u=Value.ref a:=Z;refine getmeth_ok v G c y l ?_;refine dH (first:=[.ref a]) (h₀:=X.base) I.ok.mod.kin y.kp (thn (L pos i s1 z B _ v q) λus s2 ⟨vs,H2,w,r,Y⟩=>⟨w.kIn,?_⟩) n j
 exact run_fn (us:=.ref a::us) (vs:=.ref a::vs) F R M N U w (.cons rfl r) Y
def run_make (M:Mk X.K C f)(F:FnOk X.prog X.w X.K X.mg X.base CX k f g P sp)(N:Room (k+1) X.A)(G:Binds X.K g P D)(J:Vals d D)
  (O:Passes CX X E) (I:Inv X c q H s) (r:Vals vs us)
  (h:∀x j,H x=none->H j=none->j≠x->sp (.ref x::(vs++d)) (upd (upd H j (.own x)) x (.ins C j [])) (λv y=>v=.non/\Q (.ref x) y) E) :
  wpAny (model X.prog X.w) X.A (call (.ref C) us) (EP X c q Q) X.xe s:=by
 have l:=h (s.heap.objs.size+1) s.heap.objs.size (I.hok.fresh (iT _)) (I.hok.fresh (aj _)) (bh (cC _));have i:=Inv.made (C:=C) I;have n:Vals (V.ref (s.heap.objs.size+1)::(vs++d)) (Value.ref (s.heap.objs.size+1)::(us++D)):=.cons rfl (r.append J);have L:(Value.ref (s.heap.objs.size+1)::us++D).length=P.length:=by have e:=n.length;rw[F.len _ _ _ _ l]at e;exact e.symm
 refine iD (make_map (f:=f) I.kIn M.makes M.init (beq_iff_eq.mp M.fn) (gw (F.run _ X.stack _ _ ⟨Value.ref (s.heap.objs.size+1)::us,[]⟩ (Value.ref (s.heap.objs.size+1)::(us++D)) _ _ E (N.make C us []) (i.env0.make C us []) (G _ (Value.ref (s.heap.objs.size+1)::us) i.kIn L) n l) λr U a=>?_))
 cases r with
 |error e=>exact O c q _ _ e U i a
 |ok B=>
  cases B with
  |ret u=>obtain⟨v,w,z,S,ev,R⟩:=i.after a;subst ev;exact⟨S,⟨V.ref (s.heap.objs.size+1),w,z,rfl,R⟩⟩
  |next=>exact False.elim a
  |brk=>exact False.elim a
  |cont=>exact False.elim a
def pe_make (M:Mk X.K C f)(F:FnOk X.prog X.w X.K X.mg X.base CX k f g P sp)(z:Room (k+1) X.A)(w:Gl X x)(y:X.mg x=some (.ref C))(n:Binds X.K g P D)(u:Vals d D)(B:Passes CX X E)
  (l:PA X (e::b) t) (c:(x == ("__debug__":Str))=false:=by decide) (v:starEach (e::b) X.env=(false,eval e X.env)::starEach b X.env:=by rfl) (i:(backTo pos (starEach b X.env)).any (·.1)=false:=by rfl) :
  PE X (.Call (.Name x p) (e::b) [] pos) (tMake C sp d E t):=by
 intro a s G H Q I h;refine cF (ld_glob I w y ?_ c);refine dH (h₀:=X.base) I.ok.mod.kin M.kp (thn (l pos a s G H _ I h) λN L ⟨O,J,j,r,q⟩=>⟨j.kIn,?_⟩) v i;exact run_make M F z n u B j r q
end
structure FnScope (N P:List Str)(sc:Scope):Prop where
 kind:sc.kind=.function
 co:sc.isCoroutine=false
 gen:sc.isGenerator=false
 nd:N.Nodup
 pre:N.take P.length=P
 par:∀x∈P,sc.names.lookup x=some .local\/sc.names.lookup x=some .cell
 nofree:∀y∈sc.names,y.2 ≠ .free
def bindL_out {k:Str->Option NameKind}:∀{binds:List (Str×Value)} {m:Mg},(∀v,(x,v)∉binds)->bindL k binds m x=m x
 |[],_,_=>rfl
 |(n,v)::r,m,h=>by
  unfold bindL;rw[bindL_out λw a=>h w (ad _ a)];split
  .have:x≠n:=by rintro rfl;exact h v ah
   simp[this]
  .rfl
def bindC_out {k:Str->Option NameKind}:∀{binds:List (Str×Value)} {m:Mg},(∀v,(x,v)∉binds)->bindC k binds m x=m x
 |[],_,_=>rfl
 |(n,v)::r,m,h=>by
  unfold bindC;rw[bindC_out λw a=>h w (ad _ a)];split
  .rfl
  .have:x≠n:=by rintro rfl;exact h v ah
   simp[this]
def bindL_get {k:Str->Option NameKind}:∀{P:Ls} {vs:Lv} {i:Nat} {m:Mg},P.Nodup->P[i]?=some x->vs[i]?=some v->k x=some .local ->
  bindL k (P.zip vs) m x=some v
 |[],_,_,_,_,h,_,_=>by simp at h
 |_::_,[],_,_,_,_,h,_=>by simp at h
 |p::P,w::vs,0,m,nd,h1,h2,hk=>by simp at h1 h2;subst h1;subst h2;show bindL k ((p,w)::P.zip vs) m p=_;unfold bindL;rw[bindL_out λv a=>(cZ.mp nd).1 (df a).1,af hk];simp
 |p::P,w::vs,i+1,m,nd,h1,h2,hk=>by show bindL k ((p,w)::P.zip vs) m x=_;unfold bindL;exact bindL_get (i:=i) (cZ.mp nd).2 (by simpa using h1) (by simpa using h2) hk
def bindC_get {k:Str->Option NameKind}:∀{P:Ls} {vs:Lv} {i:Nat} {m:Mg},P.Nodup->P[i]?=some x->vs[i]?=some v->k x≠some .local ->
  bindC k (P.zip vs) m x=some v
 |[],_,_,_,_,h,_,_=>by simp at h
 |_::_,[],_,_,_,_,h,_=>by simp at h
 |p::P,w::vs,0,m,nd,h1,h2,hk=>by simp at h1 h2;subst h1;subst h2;show bindC k ((p,w)::P.zip vs) m p=_;unfold bindC;rw[bindC_out λv a=>(cZ.mp nd).1 (df a).1,ae hk];simp
 |p::P,w::vs,i+1,m,nd,h1,h2,hk=>by show bindC k ((p,w)::P.zip vs) m x=_;unfold bindC;exact bindC_get (i:=i) (cZ.mp nd).2 (by simpa using h1) (by simpa using h2) hk
def start (N:List Str)(vs:List V):St:=vs.map some++List.replicate (N.length-vs.length) none
def cxOf (CX:CXT)(P:Program)(w:World)(K:Fg)(mg:Mg)(base:Heap)(N:List Str)(q:Str)(scope:Scope)(f:Addr)(c:Value)(A:Around)(outer:List Env)(s:Shared)(H:Hp)(E:XK):Cx where
 prog:=P
 w:=w
 K:=K
 mg:=mg
 base:=base
 A:=A.deeper (envOfC q scope s.heap.objs.size f c)
 N:=N
 s₀:=s
 H₀:=H
 env:=envOfC q scope s.heap.objs.size f c
 outer:=outer
 stack:=envOfC q scope s.heap.objs.size f c::outer
 ex:=[]
 calm:=true
 fn:=λ_=>true
 pn:=[]
 xe:=λe d=>wpAny (model P w) (A.deeper (envOfC q scope s.heap.objs.size f c)) (leaving (envOfC q scope s.heap.objs.size f c) e) (λ_ a=>CX outer H s E e a) (λb a=>CX outer H s E b a) d
def cell_has {sc:Scope}{n:Nat}{x:Str}(h:sc.names.lookup x=some .cell):∃c,(cellsFrom n sc.names []).lookup x=some c:=by have q:=ia sc.names n [] (.inl h);exact c7.mp q
def inv_start {CX:CXT}{P:Program}{w:World}{K:Fg}{mg:Mg}{base:Heap}{N m:Ls}{d:Str}{scope:Scope}{f:Addr}{B:Value}{A:Around}{outer:List Env}{s G:Shared}{H:Hp}{E:XK}{us:Lv}{vs:List V}
  (S:FnScope N m scope) (J:A.handled=none) (g:Env0 P w K mg base A outer s H) (Q:vs.length=m.length) (r:Vals vs us)
  (x:InCallC s s.heap.objs.size (bindL (envOfC d scope s.heap.objs.size f B).kindOf (m.zip us) λ_=>none) (cellsFrom (s.heap.objs.size+1) scope.names []) (bindC (envOfC d scope s.heap.objs.size f B).kindOf (m.zip us) λ_=>none) G) :
  Inv (cxOf CX P w K mg base N d scope f B A outer s H E) [] (start N vs) H G:=by
 have L:m.length<=N.length:=by have:=congrArg List.length S.pre;rw[aI]at this;lia
 obtain⟨h1,R,rfl,D⟩:=x.done;have l:∀b:Addr,b∉(cxOf CX P w K mg base N d scope f B A outer s H E).ex:=λb z=>absurd (show b∈([]:List Addr) from z) (by simp);refine⟨⟨g.mod,S.kind,rfl,rfl,aj _,λy z c h1 h2=>?_,λy j=>?_,λy c _ h=>?_,λ_=>J,Around.frames_deeper g.frames,.inr ⟨rfl,rfl⟩,λb z=>absurd z (l b),g.bs,g.bsz,λb _ _=>l b,λb z=>absurd z (l b),g.funs,g.frf⟩,rfl,g.bare,Un.kept D,⟨_,x.toInCall.ns,λi y v h1 h2 O=>?_⟩,λy c h=>⟨_,x.cell y c h⟩,g.hok.fresh (aj _),λy c h=>?_,λp o=>absurd (show p∈([]:List (Addr×Obj)) from o) (by simp),g.hok.kept D,?_⟩
 .exact name_of_addr x.apart (dh h1) (dh h2)
 .have j:scope.names.lookup y=some .cell\/scope.names.lookup y=some .free:=j;rcases j with j|j
  .exact cell_has j
  .exact absurd rfl (S.nofree _ (dh j))
 .exact bI (x.above y c (dh h))
 .have C:i<vs.length:=by
   unfold start at h2;by_cases C:i<vs.length
   .exact C
   .rw[bj (by simpa using C)]at h2;rw[cq]at h2;split at h2<;>cases h2
  have I:vs[i]?=some v:=by
   unfold start at h2;rw[aT (by simpa using C),aq]at h2;cases e:vs[i]? with
   |none=>rw[e]at h2;cases h2
   |some a=>rw[e]at h2;cases h2;rfl
  obtain⟨u,F,M⟩:=r.get I;have o:m[i]?=some y:=by rw[<- S.pre,dA (by lia)];exact h1
  have t:m.Nodup:=by rw[<- S.pre];exact S.nd.sublist (List.take_sublist _ _)
  refine⟨u,M,?_⟩;rcases S.par y (bE o) with k|k
  .exact .inl ⟨k,bindL_get t o F k⟩
  .obtain⟨c,e⟩:=cell_has (n:=s.heap.objs.size+1) k;refine .inr ⟨.inl k,c,e,?_⟩;have q:=x.cell y c e;rw[bindC_get t o F (by show scope.names.lookup y≠_;rw[k];decide)]at q;exact q
 .exact g.hok.fresh (bI (x.above y c (dh h)))
 .unfold start;show _=N.length;rw[ai,aa,aC];lia
def fn_of {CX:CXT}{P:Program}{w:World}{K:Fg}{mg:Mg}{base:Heap}{k:Nat}{f:Addr}{g a:Str}{p:Arguments}{body:List Stmt}{scope:Scope}{Y kV m Z c ct oc:Value}{T od:Option Addr}
  {L:Array (Option Value)} {N C:List Str} {sp:Sp} (lk:K.lookup f=some ⟨oc,od,.func (W.fnOf g a p body scope Y kV m Z T c ct),L⟩) (D:W.codeIn K c a=true) (S:FnScope N C scope)
  (len:∀vs H Q E,sp vs H Q E->vs.length=C.length)
  (i:∀(A:Around) (outer:List Env) (s:Shared) (H:Hp) (vs:List V) (Q:VK) (E:XK),Room k (A.deeper (envOfC a scope s.heap.objs.size f c))->sp vs H Q E -> ∃t,PSs (cxOf CX P w K mg base N a scope f c A outer s H E) body t/\t { nx:=λ_ h=>Q .non h,rt:=Q } (start N vs) H) :
  FnOk P w K mg base CX (k+1) f (W.fnOf g a p body scope Y kV m Z T c ct) C sp:=by
 refine⟨len,λA outer s H U us vs Q E F z hb r B=>?_⟩;have hl:=len _ _ _ _ B;have R:K.In s.heap:=z.mod.kin.keeps λb o e=>(z.bs b o e).1;have G:s.heap.NoLimit:=z.mod.nolimit.keeps λb o e=>(z.bs b o e).1;have j:∀y∈C.zip us,scope.names.lookup y.1=some .local\/(scope.names.lookup y.1=some .cell/\((cellsFrom (s.heap.objs.size+1) scope.names []).lookup y.1).isSome=true):=λ⟨n,v⟩ hy=>by
  rcases S.par n (df hy).1 with q|q
  .exact .inl q
  .exact .inr ⟨q,ia _ _ _ (.inl q)⟩
 refine codeAny_call_function F.depth (R _ _ lk) rfl S.co S.gen rfl (W.codeRec_of R D) (hb _ _ _ _ ?_);refine wpAny_newFunctionEnv_cells S.kind j λenv he s1 x=>?_;subst he;refine⟨G.keeps x.toInCall.keep,codeAny_func ?_⟩;obtain⟨t,ht,hq⟩:=i A outer s H vs Q E (F.deeper _) B;have I:Inv (cxOf CX P w K mg base N a scope f c A outer s H E) [] (start N vs) H s1:=inv_start S F.hd z hl r x;refine fZ (ht [] s1 (start N vs) H _ I hq) (λfl O l=>?_) λe O l=>l;have fin:∀{d:St} {h:Hp} {v:V} {u:Value},Inv (cxOf CX P w K mg base N a scope f c A outer s H E) [] d h O -> RelV v u->Q v h -> CE outer P w H s Q u O:=
  λ{d h v u} J M q=>⟨v,h,J.os,J.bare,J.base,J.hok,M,q⟩
 cases fl with
 |ret u=>obtain⟨v,d,h,J,M,q⟩:=l;exact fin J M q
 |next=>obtain⟨d,h,J,q⟩:=l;exact fin (v:=V.non) (u:=Value.none) J rfl q
 |brk=>obtain⟨_,_,_,q⟩:=l;exact False.elim q
 |cont=>obtain⟨_,_,_,q⟩:=l;exact False.elim q
section
variable {X:Cx}{x:Str}{p pos:Pos}{e:Expr}{E:List Expr}{t:TA}{id T:String}{r:List V->Hp->VK->Prop}
def tCB (r:List V->Hp->VK->Prop)(t:TA):TE:=λa H Q=>t a H λv h=>r v h Q
def pe_callB (j:CallR X (.builtin id) r)(l:Gl X x)(m:X.mg x=none)(o:bootBuiltins x=some (.builtin id))(g:PA X (e::E) t)(n:x≠"__name__":=by decide)(b:(x == ("__debug__":Str))=false:=by decide)
  (k:starEach (e::E) X.env=(false,eval e X.env)::starEach E X.env:=by rfl) (c:(backTo pos (starEach E X.env)).any (·.1)=false:=by rfl):PE X (.Call (.Name x p) (e::E) [] pos) (tCB r t):=by
 intro a s d H Q I h;refine cF (ld_blt I l m o ?_ n b);exact PyProof.Rows.callWith_builtin1 (thn (g pos a s d H _ I h) λw v ⟨y,f,i,u,q⟩=>j a v d f y w Q i u q) k c
def pe_callTy (j:CallR X (.type T) r)(l:Gl X x)(m:X.mg x=none)(o:bootBuiltins x=some (.type T))(g:PA X (e::E) t)(n:x≠"__name__":=by decide)(b:(x == ("__debug__":Str))=false:=by decide)
  (k:starEach (e::E) X.env=(false,eval e X.env)::starEach E X.env:=by rfl) (c:(backTo pos (starEach E X.env)).any (·.1)=false:=by rfl):PE X (.Call (.Name x p) (e::E) [] pos) (tCB r t):=by
 intro a s d H Q I h;refine cF (ld_blt I l m o ?_ n b);exact cf (thn (g pos a s d H _ I h) λw v ⟨y,f,i,u,q⟩=>j a v d f y w Q i u q) k c
end
end L2
namespace HT
open PySem PyProof.Rows
section
variable {prog:Program}{w:World}{A:Around}{E:Value->Shared->Prop}{s:Shared}
def sIx (n d:Nat):Option Int->Nat
 |none=>d
 |some v=>if v<0 then(v+(n:Int)).toNat else min v.toNat n
def sIx_none (n d:Nat):sIx n d none=d:=rfl
def sIx_nat (n d k:Nat):sIx n d (some (k:Int))=min k n:=by show(if (k:Int)<0 then((k:Int)+(n:Int)).toNat else min (k:Int).toNat n)=min k n;rw[ae (by lia),aD]
end
end HT
namespace L2
open PySem PySem.Spec PyProof.Rows
abbrev TO:=St->Hp->(Option Int->Hp->Prop)->Prop
def PO (X:Cx)(e:Option Expr)(t:TO):Prop:=
 ∀(p:List (Addr×Obj)) (s:Shared) (σ:St) (H:Hp) (Q:Option Int->Hp->Prop),Inv X p σ H s->t σ H Q ->
  wpAny (model X.prog X.w) X.A (evalPart e X.env) (λu a=>∃o h,Inv X p σ h a/\IsPart u o/\Q o h) X.xe s
def tNoPart:TO:=λ_ H Q=>Q none H
def tPart (t:TE):TO:=λa H Q=>t a H λx h=>∃i,x=.int i/\Q (some i) h
section
variable {X:Cx}{e:Expr}{c:TE}{L a:Option Expr}{f d:TO}{pos p:Pos}
def po_none:PO X none tNoPart:=by intro b s g H Q I h;rw[evalPart_none];exact bY ⟨none,H,I,.none,h⟩
def po_some (h:PE X e c):PO X (some e) (tPart c):=by intro b s m H Q I k;rw[evalPart_some];refine thn (h b s m H _ I k) λu n ⟨x,g,j,r,l⟩=>?_;obtain⟨i,rfl,q⟩:=l;obtain⟨t,rfl⟩:=r;exact⟨some i,g,j,.int i t,q⟩
def SlR (X:Cx)(r:V->Option Int->Option Int->Hp->VK->Prop):Prop:=
 ∀(b:List (Addr×Obj)) (s:Shared) (σ:St) (H:Hp) (x:V) (v vl vu:Value) (L a:Option Int) (sl:Addr) (Q:VK),Inv X b σ H s->RelV x v->s.heap.IsSliceOf sl vl vu .none->IsPart vl L->IsPart vu a->r x L a H Q ->
  ∃T id,typeLookup (.type T) "__getitem__"=pure (some (.builtin id))/\s.TypeIs v T/\wpAny (model X.prog X.w) X.A (getItem v (.ref sl)) (EP X b σ Q) X.xe s
def tSl (r:V->Option Int->Option Int->Hp->VK->Prop)(c:TE)(f d:TO):TE:=λb H Q=>c b H λx h=>f b h λl g=>d b g λu i=>r x l u i Q
def pe_slice (E:SlR X r)(B:PE X e c)(D:PO X L f)(G:PO X a d):PE X (.Subscript e (.Slice L a none p) pos) (tSl r c f d):=by intro g s j H Q I h;refine Subscript_ (thn (B g s j H _ I h) λv R ⟨x,n,t,P,M⟩=>?_);refine wpAny_Slice (thn (D g R j n _ t M) λvl S ⟨l,o,w,pl,N⟩=>thn (G g S j o _ w N) λk i ⟨u,m,y,J,O⟩=>?_);rw[evalPart_none];refine bY ?_;have z:Inv X g j m { i with heap:=i.heap.push { cls:=.type "slice",data:=.fields #[vl,k,.none] } }:=y.kept (t':=i.toks) λb ob q=>ay _ q;obtain⟨T,id,A,F,C⟩:=E g { i with heap:=i.heap.push { cls:=.type "slice",data:=.fields #[vl,k,.none] } } j m x v vl k l u i.heap.objs.size Q z P (Heap.IsSliceOf.new ..) pl J O;show wpAny (model X.prog X.w) X.A (subscriptTail e (.Slice L a none p) v (.ref i.heap.objs.size)) (EP X g j Q) X.xe { i with heap:=i.heap.push { cls:=.type "slice",data:=.fields #[vl,k,.none] } };exact tail_any (ops:=[.ref i.heap.objs.size,v]) F A C (by with_unfolding_all rfl)
def cutV (xs:List V)(L a:Option Int):List V:=(xs.drop (HT.sIx xs.length 0 L)).take (HT.sIx xs.length xs.length a-HT.sIx xs.length 0 L)
def cutV_length (xs:List V)(L a:Option Int):(cutV xs L a).length<=xs.length:=by unfold cutV;rw[aI,aZ];lia
end
def ixN (n:Nat)(i:Int):Option Nat:=if 0<=i then(if i<n then some i.toNat else none) else if -(n:Int)<=i then some (i+n).toNat else none
def atI {a:Type}(xs:List a)(i:Int):Option a:=(ixN xs.length i).bind λj=>xs[j]?
def ixN_seq (h:ixN n i=some j):seqIndex? i n=some j/\j<n /\ -(n:Int)<=i/\i<n:=by
 unfold ixN at h;by_cases h0:0<=i
 .rw[af h0]at h;by_cases h1:i<n
  .rw[af h1]at h;have e:i.toNat=j:=aE h;exact⟨by rw[iU h0 h1,e],by lia,by lia,h1⟩
  .rw[ae h1]at h;cases h
 .rw[ae h0]at h;by_cases h1:-(n:Int)<=i
  .rw[af h1]at h;have e:(i+n).toNat=j:=aE h;exact⟨by rw[ij (by lia) h1,e],by lia,h1,by lia⟩
  .rw[ae h1]at h;cases h
def atI_get {a:Type}{xs:List a}{i:Int}{v:a}(h:atI xs i=some v):∃j,seqIndex? i xs.length=some j/\xs[j]?=some v/\j<xs.length /\ -(xs.length:Int)<=i/\i<xs.length:=by
 unfold atI at h;cases e:ixN xs.length i with
 |none=>rw[e]at h;cases h
 |some j=>rw[e]at h;obtain⟨h1,h2,b,c⟩:=ixN_seq e;exact⟨j,h1,h,h2,b,c⟩
def atI_nat {a:Type}{xs:List a}{j:Nat}{v:a}(h:xs[j]?=some v):atI xs (j:Int)=some v:=by
 have b:j<xs.length:=(ao.mp h).1;have e:ixN xs.length (j:Int)=some j:=by unfold ixN;rw[af (by lia),af (by lia)];simp
 unfold atI;rw[e];exact h
def PlainIx (b:Expr):Prop:=∀o i,subscripted b false o i=operate [o,i] (getItem o i)
def IxR (X:Cx)(r:R2):Prop:=
 ∀(b a:Expr) (pins:List (Addr×Obj)) (s:Shared) (σ:St) (H:Hp) (x y:V) (v u:Value) (Q:VK),Inv X pins σ H s->RelV x v->RelV y u->r x y H Q ->
  subscripted a false v u=operate [v,u] (getItem v u)->wpAny (model X.prog X.w) X.A (subscriptTail b a v u) (EP X pins σ Q) X.xe s
def MtR (X:Cx)(id:String)(r:V->List V->Hp->VK->Prop):Prop:=
 ∀(p:List (Addr×Obj)) (s:Shared) (σ:St) (H:Hp) (x:V) (xs:List V) (v:Value) (us:List Value) (Q:VK),Inv X p σ H s->RelV x v->Vals xs us->r x xs H Q ->
  wpAny (model X.prog X.w) X.A (call (.builtin id) (v::us)) (EP X p σ Q) X.xe s
section
variable {X:Cx}{a b:Expr}{m B:TE}{pos:Pos}
def IxR.or (h:IxR X r)(h':IxR X r'):IxR X (λx y H Q=>r x y H Q\/r' x y H Q):=by
 intro d c p s i H x y v u Q I f g q e;rcases q with q|q
 .exact h d c p s i H x y v u Q I f g q e
 .exact h' d c p s i H x y v u Q I f g q e
def pe_ix (f:IxR X r)(d:PE X a m)(e:PE X b B)(g:PlainIx b):PE X (.Subscript a b pos) (tOp r m B):=by intro p s n H Q I h;exact Subscript_ (binT d e I h λv u l x y c i j k q=>f a b p l n c x y v u Q i j k q (g _ _))
def rIxL (K:Fg):R2:=λx y H Q=>∃p c i v,x=.ref p/\y=.int i/\SqL K H p c/\atI c i=some v/\Q v H
def rIxT (K:Fg):R2:=λx y H Q=>∃p c i v,x=.ref p/\y=.int i/\SqT K H p c/\atI c i=some v/\Q v H
def rIxS:R2:=λx y H Q=>∃z i c,x=.str z/\y=.int i/\z.length<=sizeLine/\atI z.cps.toList i=some c/\Q (.str ⟨#[c]⟩) H
def ix_list:IxR X (rIxL X.K):=by
 intro k g c s o H x y v u Q I G J h n;obtain⟨p,P,i,z,rfl,rfl,F,D,q⟩:=h;cases G;obtain⟨t,rfl⟩:=J;obtain⟨e,r,pl,O⟩:=I.list F;obtain⟨j,h1,h2,M,A,C⟩:=atI_get D;obtain⟨w,l,f⟩:=r.get h2;have E:=r.length;have N:=line63;have fin:EP X c o Q w s:=⟨z,H,I,f,q⟩;by_cases h0:0<=i
 .have d:i.toNat=j:=by rw[iU h0 C]at h1;exact aE h1
  exact item_listR pl.isList h0 (by lia) (by rw[d];simpa using l) fin n
 .have d:(i+(e.toArray.size:Int)).toNat=j:=by rw[ij (by lia) A]at h1;rw[aw,<- E];exact aE h1
  exact dF (x:=w) pl.isList.typeIs slot_list_getitem.lookup
   (wpAny_getItem_list_neg (Q:=λr L=>r=w/\EP X c o Q r L) pl.isList (by lia) (by rw[aw]<;>lia) (by lia) (by rw[d];simpa using l) ⟨rfl,fin⟩) n
def ix_tup:IxR X (rIxT X.K):=by
 intro f e c s g H x y v u Q I D E h A;obtain⟨p,O,i,z,rfl,rfl,o,l,q⟩:=h;cases D;obtain⟨t,rfl⟩:=E;obtain⟨C,r,pl,N⟩:=I.tuple o;obtain⟨j,h1,h2,G,J,L⟩:=atI_get l;obtain⟨w,k,d⟩:=r.get h2;have n:=r.length;have M:=line63;have fin:EP X c g Q w s:=⟨z,H,I,d,q⟩;exact dF (x:=w) pl.typeIs slot_tuple_getitem.lookup
  (getItem_tuple (j:=j) (Q:=λr F=>r=w/\EP X c g Q r F) pl (by lia) (by lia) (by rw[aw,<- n];exact h1) (by simpa using k) ⟨rfl,fin⟩) A
def ix_str:IxR X rIxS:=by
 intro e d p s G H x y v u Q I w A h r;obtain⟨z,i,c,rfl,rfl,E,n,q⟩:=h;obtain⟨t,rfl⟩:=w;obtain⟨F,rfl⟩:=A;obtain⟨j,h1,h2,C,k,l⟩:=atI_get n;have o:z.cps.toList.length=z.length:=by simp[Str.length]
 rw[o]at h1 k l;have D:=line63;exact tail_any (typeIs_str s z t) slot_str_getitem.lookup (getItem_str (c:=c) (by
  have f:decide (i < -(2^63:Int))=false:=aM (by lia);have g:decide (i ≥ 2^63)=false:=aM (by lia);rw[f,g,Bool.or_false]) (by rw[h1];simpa using h2) ⟨.str ⟨#[c]⟩,H,I.tok _,⟨_,rfl⟩,q⟩) r
def rIx (K:Fg):R2:=λx y H Q=>rIxL K x y H Q\/rIxT K x y H Q\/rIxS x y H Q
def ix_seq:IxR X (rIx X.K):=ix_list.or (ix_tup.or ix_str)
def mapSeq_set (its:Lv)(n j:Nat)(u:Value):Obj.mapSeq (·.setIfInBounds j u) { cls:=.type "list",data:=.seq its.toArray n }={ cls:=.type "list",data:=.seq (its.set j u).toArray n }:=by simp[Obj.mapSeq]
def Inv.lst (I:Inv X c d H s)(h:H p=some (.lst xs)) :
  ∃(its:List Value) (n:Nat),Vals xs its/\s.heap.get? p=some { cls:=.type "list",data:=.seq its.toArray n }/\xs.length<=sizeLine:=by
 obtain⟨z,its,n,r,e⟩:=I.hok p _ h;exact⟨its,n,r,e,z⟩
def Inv.lstUpd {c:List (Addr×Obj)}{i:St}{H:Hp}{s:Shared}{p:Addr}{xs ys:List V}{its its':Lv}{n d:Nat}{f:Obj->Obj}(I:Inv X c i H s)(h:H p=some (.lst xs))
  (k:s.heap.get? p=some { cls:=.type "list",data:=.seq its.toArray n }) (g:f { cls:=.type "list",data:=.seq its.toArray n }={ cls:=.type "list",data:=.seq its'.toArray d }) (r:Vals ys its') (l:ys.length<=sizeLine) (t:Nat) :
  Inv X c i (upd H p (.lst ys)) { s with heap:=s.heap.update p f,toks:=t }:=by
 have e:(s.heap.update p f).get? p=some { cls:=.type "list",data:=.seq its'.toArray d }:=by rw[dQ f k (by rw[g]<;>rfl),g]
 refine I.write (x:=p) (e:=p) (by rw[h];trivial) (.inl rfl) (λb u j q=>(bW _ _ (cw j)).trans q) ⟨_,e⟩ ?_;exact⟨l,its',d,r,e⟩
def rSetL:V->V->V->Hp->(Hp->Prop)->Prop:=λo i v H Q=>∃p x k j,o=.ref p/\i=.int k/\H p=some (.lst x)/\ixN x.length k=some j/\Q (upd H p (.lst (x.set j v)))
def set_list:PSet X rSetL:=by
 rintro d s G H o i v M L u Q I D C E ⟨p,F,k,j,rfl,rfl,y,z,q⟩;cases D;obtain⟨t,rfl⟩:=C;obtain⟨c,n,r,g,A⟩:=I.lst y;obtain⟨h1,h2,w,x⟩:=ixN_seq z;have f:=r.length;have J:=line63;have l:Inv X d G (upd H p (.lst (F.set j v))) { s with heap:=s.heap.update p (Obj.mapSeq (·.setIfInBounds j u)) } :=
  I.lstUpd y g (mapSeq_set c n j u) (r.set E j) (by rw[bn];exact A) s.toks
 by_cases h0:0<=k
 .have e:k.toNat=j:=by rw[iU h0 x]at h1;exact aE h1
  exact W.ki_setAt g h0 (by lia) (by rw[aw,<- f];exact x) (by rw[e];exact⟨_,l,q⟩)
 .have e:(k+(c.toArray.size:Int)).toNat=j:=by rw[ij (by lia) w]at h1;rw[aw,<- f];exact aE h1
  exact W.ki_setBack g (by lia) (by rw[aw,<- f];exact w) (by lia) (by rw[e];exact⟨_,l,q⟩)
def slice_bounds (l c:Option Int)(n:Nat):(sliceBounds l c none n).1=((HT.sIx n 0 l:Nat):Int)/\(sliceBounds l c none n).2.1=((HT.sIx n n c:Nat):Int)/\(sliceBounds l c none n).2.2=1:=by
 refine⟨?_,?_,rfl⟩
 .cases l with
  |none=>simp[sliceBounds,HT.sIx]
  |some i=>
   simp only[sliceBounds,HT.sIx,Option.getD_none,show(1:Int) > 0 by decide,if_true];by_cases h:i<0
   .simp only[h,if_true]<;>lia
   .simp only[h,if_false]<;>lia
 .cases c with
  |none=>simp[sliceBounds,HT.sIx]
  |some i=>
   simp only[sliceBounds,HT.sIx,Option.getD_none,show(1:Int) > 0 by decide,if_true];by_cases h:i<0
   .simp only[h,if_true]<;>lia
   .simp only[h,if_false]<;>lia
def slicePick_cut (its:Lv)(l h:Option Int):slicePick its.toArray l h none=((its.drop (HT.sIx its.length 0 l)).take (HT.sIx its.length its.length h-HT.sIx its.length 0 l)).toArray:=by obtain⟨h1,h2,c⟩:=slice_bounds l h its.toArray.size;unfold slicePick;rw[h1,h2,c];simp only[sliceRange_one,pick_run,aw]<;>rfl
def rSlL (K:Fg):V->Option Int->Option Int->Hp->VK->Prop:=λx l h H Q=>∃a c,x=.ref a/\SqL K H a c/\∀p,H p=none->Q (.ref p) (upd H p (.lst (cutV c l h)))
def sl_list:SlR X (rSlL X.K):=by rintro p s y H x v vl w l e u Q I t g pl n ⟨a,c,rfl,i,q⟩;cases t;obtain⟨k,r,f,j⟩:=I.list i;have d:=r.length;refine⟨"list",_,slot_list_getitem.lookup,f.isList.typeIs,?_⟩;refine wpAny_getItem_list_slice f.isList g pl n .none (by simp) ?_ (by rw[aw]<;>lia);rw[slicePick_cut,<- d];refine⟨.ref s.heap.objs.size,_,I.laid (t':=s.toks) (o:=.lst (cutV c l e)) (λb ob q=>ay _ q) (aj _) ?_,rfl,q _ (I.hok.fresh (aj _))⟩;exact⟨aA (cutV_length c l e) j,_,0,(r.drop (HT.sIx c.length 0 l)).take (HT.sIx c.length c.length e-HT.sIx c.length 0 l),a8 _ rfl⟩
def flatV:V->Bool
 | .non=>true
 | .bl _=>true
 | .int _=>true
 | .str _=>true
 |_=>false
def eqV:V->V->Bool
 | .non,.non=>true
 | .bl a,.bl b=>a == b
 | .bl a,.int b=>(if a then 1 else 0) == b
 | .int a,.bl b=>a == (if b then 1 else 0)
 | .int a,.int b=>a == b
 | .str a,.str b=>a == b
 |_,_=>false
def eqAt_V (d:RelV y u)(r:RelV x v)(f:flatV y=true)(fx:flatV x=true):SeqAt.EqAt A s u v (eqV y x):=by
 cases y with
 |non=>
  cases d;cases x with
  |non=>cases r;exact SeqAt.EqAt.same _
  |bl b=>cases r;exact SeqAt.EqAt.none_bool b
  |int b=>obtain⟨t,rfl⟩:=r;exact SeqAt.EqAt.none_int b t
  |str b=>obtain⟨t,rfl⟩:=r;exact SeqAt.EqAt.none_str b t
  |_=>exact absurd (show false=true from fx) aN
 |bl a=>
  cases d;cases x with
  |non=>cases r;exact SeqAt.EqAt.bool_none a
  |bl b=>cases r;exact SeqAt.EqAt.bool_bool a b
  |int b=>obtain⟨t,rfl⟩:=r;exact SeqAt.EqAt.bool_int a b t
  |str b=>obtain⟨t,rfl⟩:=r;exact SeqAt.EqAt.bool_str a b t
  |_=>exact absurd (show false=true from fx) aN
 |int a=>
  obtain⟨c,rfl⟩:=d;cases x with
  |non=>cases r;exact SeqAt.EqAt.int_none a c
  |bl b=>cases r;exact SeqAt.EqAt.int_bool a c b
  |int b=>obtain⟨t,rfl⟩:=r;exact SeqAt.EqAt.int_int a c b t
  |str b=>obtain⟨t,rfl⟩:=r;exact SeqAt.EqAt.int_str a c b t
  |_=>exact absurd (show false=true from fx) aN
 |str a=>
  obtain⟨c,rfl⟩:=d;cases x with
  |non=>cases r;exact SeqAt.EqAt.str_none a c
  |bl b=>cases r;exact SeqAt.EqAt.str_bool a c b
  |int b=>obtain⟨t,rfl⟩:=r;exact SeqAt.EqAt.str_int a c b t
  |str b=>obtain⟨t,rfl⟩:=r;exact SeqAt.EqAt.str_str a c b t
  |_=>exact absurd (show false=true from fx) aN
 |_=>exact absurd (show false=true from f) aN
def eqU (x:V)(u:Value):Bool:=match u with
 | .none=>eqV .non x
 | .bool b=>eqV (.bl b) x
 | .int i _=>eqV (.int i) x
 | .str z _=>eqV (.str z) x
 |_=>false
def eqU_of (r:RelV y u)(f:flatV y=true):eqU x u=eqV y x:=by
 cases y with
 |non=>cases r;rfl
 |bl b=>cases r;rfl
 |int i=>obtain⟨t,rfl⟩:=r;rfl
 |str z=>obtain⟨t,rfl⟩:=r;rfl
 |_=>exact absurd (show false=true from f) aN
def any_eqU:∀{xs:List V} {us:Lv},Vals xs us->xs.all flatV=true->us.any (eqU x)=xs.any λy=>eqV y x
 |_,_,.nil,_=>rfl
 |y::xs,u::us,.cons r t,f=>by rw[List.all_cons,eO]at f;rw[List.any_cons,List.any_cons,eqU_of r f.1,any_eqU t f.2]
def mem_eqAt (c:RelV x v)(fx:flatV x=true):∀{xs:List V} {us:Lv},Vals xs us->xs.all flatV=true->∀u∈us,SeqAt.EqAt A s u v (eqU x u)
 |_,_,.nil,_=>λu h=>by cases h
 |y::xs,u::us,.cons r t,f=>λd h=>by
  rw[List.all_cons,eO]at f;rcases aG.mp h with rfl|h
  .rw[eqU_of r f.1];exact eqAt_V r c f.1 fx
  .exact mem_eqAt c fx t f.2 d h
def inV (x:V)(xs:List V):Bool:=xs.any λy=>eqV y x
def rIn (K:Fg)(neg:Bool):R2:=λx y H Q=>∃p c,y=.ref p/\(SqL K H p c\/SqT K H p c)/\flatV x=true/\c.all flatV=true/\Q (.bl (if neg then !inV x c else inV x c)) H
def op_notIn_seq:OpR X (compareOp .NotIn) (rIn X.K true):=by
 rintro e s l H x y v u Q I f j ⟨p,k,rfl,c,fx,fs,q⟩;cases j;rcases c with c|c
 .obtain⟨i,r,pl,g⟩:=I.list c;refine SeqAt.notIn_listAt (eqU x) pl.isList (λw d=>mem_eqAt f fx r fs w (by simpa using d)) ⟨.bl _,H,I,rfl,?_⟩;rw[show i.toArray.any (eqU x)=i.any (eqU x) by simp,any_eqU r fs];exact q
 .obtain⟨i,r,pl,g⟩:=I.tuple c;refine SeqAt.notIn_tupleAt (eqU x) pl (λw d=>mem_eqAt f fx r fs w (by simpa using d)) ⟨.bl _,H,I,rfl,?_⟩;rw[show i.toArray.any (eqU x)=i.any (eqU x) by simp,any_eqU r fs];exact q
def call_len_seq:CallR X (.builtin "len") (λxs H Q=>∃p ys,xs=[.ref p]/\(SqL X.K H p ys\/SqT X.K H p ys)/\Q (.int ys.length) H):=by
 rintro f s n H xs l Q I r ⟨p,ys,rfl,d,q⟩;obtain⟨u,rfl,j⟩:=vals1 r;cases j;have k:=line63;rcases d with d|d
 .obtain⟨i,e,pl,g⟩:=I.list d;have c:=e.length;exact Calls.call_len_list pl.isList (by simp only[aw]<;>lia) ⟨.int ys.length,H,I.tok _,⟨s.toks+1,by rw[aw,c]⟩,q⟩
 .obtain⟨i,e,pl,g⟩:=I.tuple d;have c:=e.length;exact len_tuple pl (by simp only[aw]<;>lia) ⟨.int ys.length,H,I.tok _,⟨s.toks+1,by rw[aw,c]⟩,q⟩
def call_list_of:CallR X (.type "list") (λxs H Q=>∃p ys,xs=[.ref p]/\(SqL X.K H p ys\/SqT X.K H p ys)/\∀l,H l=none->Q (.ref l) (upd H l (.lst ys))):=by
 rintro v s C H xs D Q I r ⟨p,ys,rfl,j,q⟩;obtain⟨u,rfl,A⟩:=vals1 r;cases A;have fin:∀(i:List Value),Vals ys i->ys.length<=sizeLine->∀(c:Heap) (d:Nat),(∀b z,s.heap.get? b=some z -> c.get? b=some z) ->
   c.get? s.heap.objs.size=some { cls:=.type "list",dict:=none,data:=.seq i.toArray d,slots:=#[] }->EP X v C Q (.ref s.heap.objs.size) { s with heap:=c }:=λi f k c d t e=>
  ⟨.ref s.heap.objs.size,_,I.laid (t':=s.toks) t (aj _) (show ObjOk X.prog X.w _ c _ (.lst ys) from⟨k,i,d,f,e⟩),rfl,q _ (I.hok.fresh (aj _))⟩
 rcases j with j|j
 .obtain⟨i,f,pl,k⟩:=I.list j;have g:=f.length;obtain⟨o,y,w,n,x⟩:=pl.isList;exact call_list_seq p (.inl rfl) y w x (λc d t e=>fin i f k c d t e) (by simp only[aw]<;>lia)
 .obtain⟨i,f,pl,k⟩:=I.tuple j;have g:=f.length;obtain⟨o,y,w,n,x⟩:=pl;exact call_list_seq p (.inr rfl) y w x (λc d t e=>fin i f k c d t e) (by simp only[aw]<;>lia)
def tyV (K:Fg)(T:String)(x:V)(H:Hp):Prop:=match x with
 | .str _=>T="str"
 | .int _=>T="int"
 | .ref p=>(T="list"/\∃c,SqL K H p c)\/(T="tuple"/\∃o,K.lookup p=some o/\o.cls=.type "tuple"/\o.dict=none) \/
   (T="dict"/\((∃k,H p=some (.dK k))\/∃k,H p=some (.dT k)))\/(T="set"/\∃S n,H p=some (.set S n))
 |_=>False
def tyV_is (I:Inv X j y H s)(r:RelV x v)(ty:tyV X.K T x H) :
  s.TypeIs v T/\∀a,v=.ref a->∃ob,s.heap.get? a=some ob/\ob.dict=none:=by
 cases x with
 |str z=>obtain⟨t,rfl⟩:=r;cases (show T="str" from ty);exact⟨typeIs_str s z t,λ_ e=>nomatch e⟩
 |int i=>obtain⟨t,rfl⟩:=r;cases (show T="int" from ty);exact⟨typeIs_int s i t,λ_ e=>nomatch e⟩
 |ref p=>
  cases r;rcases ty with⟨rfl,w,q⟩|⟨rfl,o,h,l,g⟩|⟨rfl,h⟩|⟨rfl,S,n,h⟩
  .obtain⟨u,_,pl,_⟩:=I.list q;refine⟨pl.isList.typeIs,λa e=>?_⟩;cases e;obtain⟨o,n,e,c,g,_⟩:=pl;exact⟨o,e,g⟩
  .refine⟨⟨o,I.kIn p o h,l⟩,λa e=>?_⟩;cases e;exact⟨o,I.kIn _ o h,g⟩
  .have z:∃o,s.heap.get? p=some o/\o.ExactDict:=by
    rcases h with⟨k,h⟩|⟨k,h⟩
    .obtain⟨_,_,_,_,o,_,_,e,d,_⟩:=I.hok p _ h;exact⟨o,e,d⟩
    .obtain⟨_,_,_,_,o,_,_,e,d,_⟩:=I.hok p _ h;exact⟨o,e,d⟩
   obtain⟨o,e,d⟩:=z;refine⟨⟨o,e,d.1⟩,λa f=>?_⟩;cases f;exact⟨o,e,d.2.1⟩
  .obtain⟨o,_,_,_,e,d,_⟩:=I.hok p _ h;refine⟨⟨o,e,d.1⟩,λa f=>?_⟩;cases f;exact⟨o,e,d.2.1⟩
 |_=>exact False.elim ty
def tBM0 (K:Fg)(T:String)(r:V->List V->Hp->VK->Prop)(g:TE):TE:=λc H Q=>g c H λx h=>tyV K T x h/\r x [] h Q
def tBM (K:Fg)(T:String)(r:V->List V->Hp->VK->Prop)(g:TE)(t:TA):TE:=λc H Q=>g c H λx h=>tyV K T x h/\t c h λe d=>r x e d Q
variable {o e:Expr}{E:List Expr}{g:TE}{t:TA}{N:Str}{d C:Pos}{T id:String}{r:V->List V->Hp->VK->Prop}
def pe_bm0 (y:PlainAttrs T)(i:Slot T N id)(j:typeOf (.builtin id)=pure (.type "method_descriptor"))(u:MtR X id r)(w:PE X o g)
  (c:attributeBase o N X.env (eval o X.env)=eval o X.env:=by rfl) (f:(d.endLine == C.line)=true:=by rfl):PE X (.Call (.Attribute o N d) [] [] C) (tBM0 X.K T r g):=by
 intro p s n H Q I h;refine wpAny_Call_method0_late c f (thn (w p s n H _ I h) λv A ⟨x,q,k,l,ty,z⟩=>?_);obtain⟨h1,h2⟩:=tyV_is k l ty;exact⟨T,id,y,i,j,h1,h2,Calls.callWith_builtin rfl (PySem.evalArgs_none (u p A n q x [] v [] Q k l .nil z))⟩
def pe_bm (L:PlainAttrs T)(k:Slot T N id)(l:typeOf (.builtin id)=pure (.type "method_descriptor"))(F:MtR X id r)(G:PE X o g)(D:PA X (e::E) t)
  (f:attributeBase o N X.env (eval o X.env)=eval o X.env:=by rfl)
  (j:((backTo C (starEach (e::E) X.env)).all (λx=>!x.1) && (backToKw C (keywordEach [] X.env)).all (λx=>x.1.isSome) && decide ((e::E).length+([]:List Keyword).length+(if ([]:List Keyword).isEmpty then 0 else 1)<30))=true:=by rfl)
  (i:(d.endLine == C.line)=true:=by rfl) (J:starEach (e::E) X.env=(false,eval e X.env)::starEach E X.env:=by rfl) (c:(backTo C (starEach E X.env)).any (·.1)=false:=by rfl) :
  PE X (.Call (.Attribute o N d) (e::E) [] C) (tBM X.K T r g t):=by
 intro p s n H Q I h;refine wpAny_Call_method_late f j i rfl (thn (G p s n H _ I h) λv R ⟨x,y,q,w,ty,M⟩=>?_);obtain⟨h1,h2⟩:=tyV_is q w ty;refine⟨T,id,L,k,l,h1,h2,?_⟩;have u:=D C p R n y _ q M;rw[J]at u ⊢;refine Calls.callWith_builtin (by show(false || (backTo C (starEach E X.env)).any (·.1))=false;rw[c]<;>rfl) (Calls.evalArgs_plain ?_);exact thn u λU S ⟨Y,z,A,P,O⟩=>F p S n z x Y v U Q A w P O
end
def MtM (X:Cx)(id:String)(r:V->List V->Hp->VK->Prop):Prop:=
 ∀(p:List (Addr×Obj)) (s:Shared) (σ:St) (H:Hp) (x:V) (xs:List V) (v:Value) (us:List Value) (Q:VK),Inv X p σ H s->RelV x v->Vals xs us->r x xs H Q ->
  wpAny (model X.prog X.w) X.A (call (.builtin id) (v::us)) (EP X p σ Q) X.xe s
def Vals.one:∀{x:V} {us:Lv},Vals [x] us->∃u,us=[u]/\RelV x u
 |_,_,.cons r .nil=>⟨_,rfl,r⟩
def Vals.zero:∀{us:Lv},Vals [] us->us=[]
 |_,.nil=>rfl
def Vals.dropLast (h:Vals xs us):Vals xs.dropLast us.dropLast:=by
 induction h with
 |nil=>exact .nil
 |cons r t i=>
  cases t with
  |nil=>exact .nil
  |cons q a=>exact .cons r i
def Vals.rep (h:Vals xs us):∀k:Nat,Vals (List.replicate k xs).flatten (List.replicate k us).flatten
 |0=>.nil
 |k+1=>by rw[di,di,bR,bR];exact Vals.append h (Vals.rep h k)
def erase_last {c:Type}(l:List c):l.eraseIdx (l.length-1)=l.dropLast:=by
 induction l with
 |nil=>rfl
 |cons a r i=>
  cases r with
  |nil=>rfl
  |cons b r=>
   have e:(a::b::r).length-1=((b::r).length-1)+1:=by have h1:(a::b::r).length=r.length+2:=rfl;have h2:(b::r).length=r.length+1:=rfl;lia
   rw[e,List.eraseIdx_cons_succ,i]
   all_goals rfl
def foldl_rep (its:Lv):∀(k:Nat) (a:Lv),
  List.foldl (λx c=>x++c) a.toArray (List.replicate k its.toArray)=(a++(List.replicate k its).flatten).toArray
 |0,a=>by simp
 |k+1,a=>by
  have e:a.toArray++its.toArray=(a++its).toArray:=by simp
  have b:(a++its)++(List.replicate k its).flatten=a++(List.replicate (k+1) its).flatten:=by rw[di,bR,cV]
  rw[<- b,<- foldl_rep its k (a++its),<- e,di,List.foldl_cons]
section
variable {X:Cx}{p:List (Addr×Obj)}{a:St}{H:Hp}{s:Shared}{l b:Addr}{xs ys Z:List V}
def Inv.lset {its its':Lv}{n:Nat}{f:Array Value->Array Value}{t':Nat}(I:Inv X p a H s)(h:H l=some (.lst xs))
  (e:s.heap.get? l=some { cls:=.type "list",data:=.seq its.toArray n }) (d:f its.toArray=its'.toArray) (i:Vals ys its') (j:ys.length<=sizeLine) :
  Inv X p a (upd H l (.lst ys)) { s with heap:=s.heap.update l (Obj.mapSeq f),toks:=t' }:=by
 have q:=PySem.IsL.update e f;rw[d]at q;refine I.write (x:=l) (e:=l) (by rw[h];exact trivial) (.inl rfl) (λk u c g=>(bW s.heap (Obj.mapSeq f) (cw c)).trans g) ⟨_,q⟩ ?_;exact⟨j,its',_,i,q⟩
def Inv.lnew (I:Inv X p a H s)(h:Vals ys its)(c:ys.length<=sizeLine) :
  Inv X p a (upd H s.heap.objs.size (.lst ys)) { s with heap:=s.heap.push { cls:=.type "list",data:=.seq its.toArray },toks:=t' } :=
 I.laid (λ_ _ q=>ay _ q) (aj _) ⟨c,its,0,h,a8 _ rfl⟩
def Inv.fresh (I:Inv X p a H s):H s.heap.objs.size=none:=I.hok.fresh (aj _)
def Inv.lstM (I:Inv X p a H s)(h:H l=some (.lst xs)):xs.length<=sizeLine/\∃(its:Lv) (n:Nat),Vals xs its/\xs.length=its.length/\s.heap.get? l=some { cls:=.type "list",data:=.seq its.toArray n }:=by obtain⟨z,its,n,r,e⟩:=I.hok l _ h;exact⟨z,its,n,r,r.length,e⟩
def notLongL (h:n<=sizeLine):Builtin.List.listTooLong n=false:=by unfold Builtin.List.listTooLong;exact aM (by lia)
end
section
variable {X:Cx}
def rAppend:V->List V->Hp->VK->Prop:=λx v H Q=>∃l a y,x=.ref l/\v=[y]/\H l=some (.lst a)/\a.length<sizeLine/\Q .non (upd H l (.lst (a++[y])))
def mt_append:MtM X "list.append" rAppend:=by rintro p s o H x k v j Q I d c ⟨l,m,y,rfl,rfl,a,g,q⟩;cases d;obtain⟨u,rfl,b⟩:=c.one;obtain⟨z,i,n,r,f,e⟩:=I.lstM a;refine iE F.slot_list_append ⟨_,e,rfl⟩ F.entry_list_append (F.args_list_append_2 _ _) (PySem.list_append l i.toArray n u (by rw[aw];lia)) ⟨e,?_⟩;refine⟨.non,_,I.lset (its':=i++[u]) a e (by simp) (r.append (.cons b .nil)) ?_,rfl,q⟩;rw[ai,bv];lia
def rPop:V->List V->Hp->VK->Prop:=λx v H Q=>∃l a y,x=.ref l/\v=[]/\H l=some (.lst a)/\a[a.length-1]?=some y/\Q y (upd H l (.lst a.dropLast))
def mt_pop:MtM X "list.pop" rPop:=by
 rintro p s A H x t v o Q I m k ⟨l,w,y,rfl,rfl,c,g,q⟩;cases m;have a:=k.zero;subst a;obtain⟨z,i,n,r,d,e⟩:=I.lstM c;obtain⟨u,f,j⟩:=r.get g;have b:i.toArray[i.toArray.size-1]?=some u:=by show i.toArray[i.length-1]?=some u;rw[<- Array.getElem?_toList,<- d];exact f
 refine iE F.slot_list_pop ⟨_,e,rfl⟩ F.entry_list_pop (F.args_list_pop_1 _) (MeetsSeq.list_pop_last l i.toArray n u b (by rw[aw];lia)) ⟨e,?_⟩;refine⟨y,_,I.lset (its':=i.dropLast) c e ?_ r.dropLast ?_,j,q⟩
 .show i.toArray.eraseIdxIfInBounds (i.toArray.size-1)=i.dropLast.toArray;rw[aw,List.eraseIdxIfInBounds_toArray,erase_last]
 .rw[eG];lia
def rRep:R2:=λx y H Q=>∃l k a,x=.ref l/\y=.int k/\H l=some (.lst a) /\ -(2^63)<=k/\k<2^63/\a.length*k.toNat<=sizeLine /\
 ∀p,H p=none->Q (.ref p) (upd H p (.lst (List.replicate k.toNat a).flatten))
def len_rep {a:Type}(xs:List a)(k:Nat):(List.replicate k xs).flatten.length=k*xs.length:=by
 induction k with
 |zero=>simp
 |succ k i=>rw[di,bR,ai,i,gA,dR]
def op_rep:OpR X (binaryOp .Mult) rRep:=by
 rintro w s M H x y v u Q I D E ⟨l,k,L,rfl,rfl,B,h1,h2,p,q⟩;cases D;obtain⟨t,rfl⟩:=E;obtain⟨z,i,n,r,C,e⟩:=I.lstM B;have f:i.toArray.size*k.toNat<=sizeLine:=by rw[aw,<- C];exact p
 have c:¬i.toArray.size*k.toNat > (2^63-1) / 8:=by
  have:(sizeLine:Nat)<=(2^63-1) / 8:=by decide
  lia
 have d:¬(!Builtin.List.listFitsIndex k)=true:=by rw[fitsIndex_both h1 h2];exact aN
 have b:¬Builtin.List.listTooLong (i.toArray.size*k.toNat)=true:=by rw[notLongL f];exact aN
 have g:List.foldl (λj o=>j++o) #[] (List.replicate (if i.toArray.isEmpty=true then 0 else k.toNat) i.toArray)=(List.replicate k.toNat i).flatten.toArray:=by
  have A:∀m:Nat,List.foldl (λj o=>j++o) #[] (List.replicate m i.toArray)=(List.replicate m i).flatten.toArray:=λm=>by have:=foldl_rep i m [];rw[List.nil_append]at this;exact this
  rw[A];cases i with
  |nil=>simp
  |cons a J=>rw[ae (by simp)]
 refine wpAny_binaryOp_repeat_ref (T:="list") (U:="int") (by decide) ⟨_,e,rfl⟩ (λG=>typeIs_int G k t) noFill_list_mul F.fills_int_mul F.slot_int_rmul repeat_list F.slot_int_index.lookup
  (iE F.slot_int_rmul (typeIs_int s k t) F.entry_int_rmul (F.args_int_rmul_2 _ _) (int___rmul___int_list k t l i.toArray n) ⟨e,rfl,⟨_,e,rfl⟩,iE F.slot_list_mul ⟨_,e,rfl⟩ F.entry_list_mul (F.args_list_mul_2 _ _) (AutoListH.list___mul___list_int_3 l i.toArray n k t d c b) ⟨e,?_⟩⟩)
 rw[g];exact⟨.ref _,_,I.lnew (t':=s.toks) (r.rep k.toNat) (by rw[len_rep,da];exact p),rfl,q _ I.fresh⟩
end
end L2
namespace Att
open PySem PySem.W PySem.Calls PyProof.Rows
section
variable {prog:Program}{w:World}{A:Around}{E:Value->Shared->Prop}{s:Shared}{K:Frag}
def ledger (h:Heap)(L d:Addr):List (Addr×Obj):=(List.range h.objs.size).filterMap λa=>if a=L\/a=d then none else(h.get? a).map λo=>(a,o)
end
end Att
namespace L2
open PySem PySem.Spec PyProof.Rows
abbrev KOf {K:Fg}{h:Heap}(_:K.In h):Fg:=K
abbrev E0:XK:=λ_ _ _=>False
def pass0:Passes CX0 X E0:=λ_ _ _ _ _ _ _ h=>h.elim
section
variable {P:Program}{w:World}{K:Fg}{mg:Mg}{base:Heap}
def Fun.ok {x a:Str}{d:Stmt}{f:Addr}{i:FuncData}{N p:Ls}{k:Nat}{sp:Sp}(F:Fun K x a d f i)(S:FnScope N p (defScope d))(len:∀vs H Q E,sp vs H Q E->vs.length=p.length)
  (b:∀(c:Value) (A:Around) (outer:List Env) (s:Shared) (H:Hp) (vs:List V) (Q:VK) (E:XK),Room k (A.deeper (envOfC a (defScope d) s.heap.objs.size f c))->sp vs H Q E -> ∃t,PSs (cxOf CX0 P w K mg base N a (defScope d) f c A outer s H E).nox (defBody d) t/\t { nx:=λ_ j=>Q .non j,rt:=Q } (start N vs) H):FnOk P w K mg base CX0 (k+1) f i p sp:=by
 obtain⟨v,y,kV,l,z,r,c,u,o,rfl,n,e⟩:=F.ex;refine fn_of n e S len λA outer s H vs Q E m g=>?_;obtain⟨t,h,q⟩:=b c A outer s H vs Q E m g;exact⟨t,h.nox,q⟩
end
def small1000 (h:n<=1000):n<sizeLine:=aO h (by decide)
section
variable {X:Cx}
def pv (i:Nat)(a:X.N[i]?=some x:=by rfl)(c:Vis X.env.scope x:=by walk_at "v")(b:(x == ("__debug__":Str))=false:=by decide)
  (h:(x == ("__classdict__":Str))=false:=by decide):PE X (.Name x pos) (tVar i):=pe_var a c b h
end
def iteF {A B:Prop}(h:B):if false=true then A else B:=by rw[ae aN];exact h
def iteT {A B:Prop}(h:A):if true=true then A else B:=by rw[af rfl];exact h
def Nx (x:Option HO):HO->Prop
 | .tbl t=>∃p,x=some (.tbl ⟨t.q,p⟩)
 |o=>x=some o
def Same (H h:Hp):Prop:=∀b o,H b=some o->Nx (h b) o
def Nx.of (h:x=some o):Nx x o:=by cases o<;>first|exact h|exact⟨_,h⟩
def Nx.some (h:Nx x o):∃u,x=some u:=by cases o<;>first|exact⟨_,h⟩|(obtain⟨p,h⟩:=h;exact⟨_,h⟩)
def um (h:∀b o,H b=some o->a b=some o):Same H a:=λb o e=>.of (h b o e)
def Same.refl (H:Hp):Same H H:=um λ_ _ h=>h
def Same.trans (a:Same H d)(b:Same d H2):Same H H2:=λc o h=>by have q:=a c o h;cases o<;>first|exact b c _ q|(obtain⟨p,q⟩:=q;have z:=b c _ q;exact z)
def Same.free (e:Same H a)(h:a l=Option.none):H l=Option.none:=by
 cases q:H l with
 |none=>rfl
 |some o=>obtain⟨u,z⟩:=(e l o q).some;rw[z]at h;cases h
def Same.seq {K:Fg}{H b:Hp}{a:Addr}{xs:List V}(e:Same H b)(h:SqL K H a xs):SqL K b a xs:=by
 rcases h with (h|⟨o,h⟩)|h
 .exact .inl (.inl (e _ _ h))
 .exact .inl (.inr ⟨o,e _ _ h⟩)
 .exact .inr h
def gI (a:St)(i:Nat):Int:=match a[i]? with
 |some (some (.int n))=>n
 |_=>0
def hI (a:St)(i:Nat):Prop:=a[i]?=some (some (.int (gI a i)))
def tN (C:St->Hp->Prop)(g:St->Int):TE:=λa H Q=>C a H/\Q (.int (g a)) H
def tP (C:St->Hp->Prop)(p:St->Prop)[∀a,Decidable (p a)]:TT:=λa H Q=>C a H/\Q (decide (p a)) H
def tV (C:St->Hp->Prop)(p:St->Prop)[∀a,Decidable (p a)]:TE:=λa H Q=>C a H/\Q (.bl (decide (p a))) H
def tNs (C:St->Hp->Prop)(g:St->List Int):TA:=λa H Q=>C a H/\Q ((g a).map V.int) H
section
def nJ (i:Nat)(c:X.N[i]?=some x:=by rfl)(e:Vis X.env.scope x:=by walk_at "v")
  (d:(x == ("__debug__":Str))=false:=by decide) (b:(x == ("__classdict__":Str))=false:=by decide):PE X (.Name x pos) (tN (λa _=>hI a i) (λa=>gI a i)):=
 λp s a H Q I h=>pe_var c e d b p s a H Q I ⟨_,h.1,h.2⟩
def wG:PE X (.Constant (.int i) j pos) (tN (λ_ _=>True) (λ_=>i)):=λp s a H Q I h=>pe_int p s a H Q I h.2
def Y6 (c:Gl X x)(a:∃tk,X.mg x=some (.int i tk))(b:(x == ("__debug__":Str))=false:=by decide):PE X (.Name x pos) (tN (λ_ _=>True) (λ_=>i)):=
 λp s d H Q I h=>let ⟨_,a⟩:=a;pe_glob c a (v:=.int i) ⟨_,rfl⟩ b p s d H Q I h.2
def ZR {op:Operator}{C:Int->Int->Prop}{g:Int->Int->Int}(n:OpR X (binaryOp op) (rI C λi j=>.int (g i j)))(l:PE X a (tN f d))(m:PE X b (tN k e)) :
  PE X (.BinOp a op b pos) (tN (λc H=>f c H/\k c H/\C (d c) (e c)) (λc=>g (d c) (e c))):=
 λp s c H Q I h=>pe_op n l m p s c H Q I ⟨h.1.1,h.1.2.1,_,_,rfl,rfl,h.1.2.2,h.2⟩
def aat {op:Operator}{g:Int->Int->Int}(m:OpR X (binaryOp op) (rI0 λi j=>.int (g i j)))(k:PE X a (tN C e))(l:PE X b (tN d f)) :
  PE X (.BinOp a op b pos) (tN (λc H=>C c H/\d c H) (λc=>g (e c) (f c))):=
 λp s c H Q I h=>pe_op m k l p s c H Q I ⟨h.1.1,h.1.2,_,_,rfl,rfl,h.2⟩
def Hj:OpR X (binaryOp .Mult) (rI IntMulOk λi j=>.int (i*j)):=opI λ_ _ _ _ _ _ _ h q=>mul_int q h
def U8:OpR X (inplaceOp .Mult) (rI IntMulOk λi j=>.int (i*j)):=opI λ_ _ _ _ _ _ _ h q=>imul_int q h
def K9 (_ j:Int):Prop:=0<j/\j.natAbs.log2<9000
def Wh:OpR X (binaryOp .FloorDiv) (rI K9 λi j=>.int (i / j)):=opI λi j _ _ _ _ _ h q=>by have h1:(0:Int)<j:=h.1;exact floordiv_int (by lia) (by rw[gr i (by lia)];exact q) (.inl (PyProof.noPylong_of_log2 h.2))
def aag (h:PE X a (tN C g))(f:PE X b (tN e d)):PE X (.BinOp a .Mult b pos) (tN (λc H=>C c H/\e c H/\IntMulOk (g c) (d c)) (λc=>g c*d c)):=ZR Hj h f
def aaC (h:PE X a (tN C e))(f:PE X b (tN d g)):PE X (.BinOp a .Mod b pos) (tN (λc H=>C c H/\d c H/\0<g c) (λc=>e c % g c)):=ZR op_mod h f
def ZX (d:PE X a (tN c g)):PE X (.UnaryOp .USub a pos) (tN c (λb=>-g b)):=
 λp s b H Q I h=>pe_un un_neg d p s b H Q I ⟨h.1,_,rfl,h.2⟩
def z7 {op:CmpOp}{p:Int->Int->Prop}[∀i j,Decidable (p i j)](n:OpR X (compareOp op) (rI0 λi j=>.bl (decide (p i j))))(m:behindInMarks op b=false)(k:PE X a (tN C g))(l:PE X b (tN e f)) :
  PT X (.Compare a [op] [b] pos) (tP (λc H=>C c H/\e c H) (λc=>p (g c) (f c))):=
 λd s c H Q I h=>pt_cmpR n k l m d s c H Q I ⟨h.1.1,h.1.2,_,_,rfl,rfl,_,rfl,h.2⟩
def Mz:OpR X (compareOp .Eq) (rI0 λi j=>.bl (decide (i=j))):=λp s b H x y v u Q I r a h=>by obtain⟨i,j,rfl,rfl,q⟩:=h;refine op_eq p s b H _ _ v u Q I r a ⟨rfl,?_⟩;rw[dec_int,ik];exact q
def aba:OpR X (compareOp .NotEq) (rI0 λi j=>.bl (decide (¬i=j))):=λp s b H x y v u Q I r a h=>by obtain⟨i,j,rfl,rfl,q⟩:=h;have q:Q (.bl (decide (¬i=j))) H:=q;rw[gK]at q;refine op_ne p s b H _ _ v u Q I r a ⟨rfl,?_⟩;rw[dec_int,ik];exact q
def Tg (h:PE X a (tN C g))(f:PE X b (tN d e)):PT X (.Compare a [.Lt] [b] pos) (tP (λc H=>C c H/\d c H) (λc=>g c<e c)):=z7 op_lt (nomark _) h f
def abh (h:PE X a (tN C g))(f:PE X b (tN d e)):PT X (.Compare a [.LtE] [b] pos) (tP (λc H=>C c H/\d c H) (λc=>g c<=e c)):=z7 op_le (nomark _) h f
def aaw (h:PE X a (tN C g))(f:PE X b (tN d e)):PT X (.Compare a [.Gt] [b] pos) (tP (λc H=>C c H/\d c H) (λc=>e c<g c)):=z7 (p:=λi j=>j<i) op_gt (nomark _) h f
def aaA (h:PE X a (tN C g))(f:PE X b (tN d e)):PT X (.Compare a [.Eq] [b] pos) (tP (λc H=>C c H/\d c H) (λc=>g c=e c)):=z7 Mz (nomark _) h f
variable {d k:St->Prop}[∀σ,Decidable (d σ)][∀σ,Decidable (k σ)]{rest:List Expr}
def YD (b:PT X a (tP c d)):PT X (.UnaryOp .Not a pos) (tP c (λσ=>¬d σ)):=
 λp s σ H Q I h=>pt_not b p s σ H Q I ⟨h.1,by have q:=h.2;rw[gK]at q;exact q⟩
def pw_or1P (h:PT X a (tP c d)):PW X (.BoolOp .Or [a] pos) (tP c d):=pw_or1 h
def pw_orP (g:PT X a (tP C d))(i:PW X (.BoolOp .Or (b::rest) pos) (tP f k)):PW X (.BoolOp .Or (a::b::rest) pos) (tP (λσ H=>C σ H/\(¬d σ->f σ H)) (λσ=>d σ\/k σ)):=
 λw p s σ H Q I h=>pw_or g i w p s σ H Q I ⟨h.1.1,by
  have q:=h.2;by_cases c:d σ
  .rw[aK (Or.inl c:d σ\/k σ)]at q;rw[aK c];refine iteT ?_;exact q
  .rw[aM c];refine iteF ?_;refine⟨h.1.2 c,?_⟩;have e:decide (d σ\/k σ)=decide (k σ):=by simp[c]
   rw[e]at q;exact q⟩
def acX (h:PE X e (tV c d))(a:∀w,isTrue e X.env w=(do let v <- w;standAt e.pos;holding [v] (truthy v)):=by intro _;rfl):PT X e (tP c d):=
 λp s σ H Q I q=>pt_val h a p s σ H Q I ⟨q.1,_,rfl,q.2⟩
def ade (C:St->Hp->Prop)(p:St->Prop)(t u:TS):TS:=λD σ H=>C σ H/\(p σ->t D σ H)/\(¬p σ->u D σ H)
def HQ (a:PT X c (tP C d))(b:PSs X x t)(e:PSs X y u):PS X (.If c x y pos) (ade C d t u):=
 λp s σ H D I h=>ps_if a b e p s σ H D I ⟨h.1,by
  by_cases c:d σ
  .rw[aK c];refine iteT ?_;exact h.2.1 c
  .rw[aM c];refine iteF ?_;exact h.2.2 c⟩
def acn (i:Nat)(C:St->Hp->Prop)(g:St->Int):TS:=λD σ H=>C σ H/\∀n,n=g σ->D.nx (σ.set i (some (.int n))) H
def XM (b:X.N.Nodup)(l:X.N[i]?=some x)(n:Loc X.env.scope x)(f:PE X e (tN c g))(m:swapsWith e (some (.Name x a)) pos.line X.env=pure false:=by rfl)
  (j:X.fn x=true\/X.env.scope.names.lookup x=some .local:=by walk_at "w"):PS X (.Assign [.Name x a] e pos) (acn i c g):=
 λp s σ H D I h=>ps_set b l n f m j p s σ H D I ⟨h.1,h.2 _ rfl⟩
def acw (i:Nat)(C:St->Hp->Prop)(g:St->Int)(P:Int->Int->Prop)(f:Int->Int->Int):TS:=λD σ H=>hI σ i/\C σ H/\P (gI σ i) (g σ)/\∀n,n=f (gI σ i) (g σ)->D.nx (σ.set i (some (.int n))) H
def Yx (b:X.N.Nodup)(n:X.N[i]?=some x)(q:Loc X.env.scope x)(l:PE X e (tN c g))(o:OpR X (inplaceOp op) (rI P λi j=>.int (f i j)))
  (m:X.fn x=true\/X.env.scope.names.lookup x=some .local:=by walk_at "w"):PS X (.AugAssign (.Name x a) op e pos) (acw i c g P f):=
 λp s σ H D I h=>ps_aug b n q l o m p s σ H D I ⟨_,h.1,h.2.1,_,_,rfl,rfl,h.2.2.1,h.2.2.2 _ rfl⟩
def uY:OpR X (inplaceOp .Add) (rI (λ_ _=>True) λi j=>.int (i+j)):=λp s σ H x y v u Q I r b h=>by obtain⟨i,j,e,a,_,q⟩:=h;exact iop_add p s σ H x y v u Q I r b ⟨i,j,e,a,q⟩
def YJ (C:St->Hp->Prop)(p:St->Prop)(t:TS):TS:=λD σ H=>∃(W:St->Hp->Prop) (b:St->Hp->Nat),W σ H /\
 ∀σ H,W σ H->C σ H/\(p σ->t { D with nx:=λa h=>W a h/\b a h<b σ H,ct:=λa h=>W a h/\b a h<b σ H,bk:=D.nx } σ H)/\(¬p σ->D.nx σ H)
def Rn (i:PassesOwn (model X.prog X.w) X.A X.env X.xe)(g:PT X c (tP C d))(f:PSs X body tb):PS X (.While c body [] pos) (YJ C d tb):=
 λp s σ H D I h=>ps_while i g f p s σ H D I (by
  obtain⟨W,n,l,j⟩:=h;refine while_by W n l (λσ H w=>?_) (λσ H Q o m q=>⟨q.1,m _ _ q.2⟩);obtain⟨a,b,e⟩:=j σ H w;refine⟨a,?_⟩;by_cases c:d σ
  .rw[aK c];refine iteT ?_;exact b c
  .rw[aM c];refine iteF ?_;exact e c)
end
def Ae {ns:Li}{i:Int}(h0:0<=i)(h1:i<(ns.length:Int)):atI (ns.map V.int) i=some (V.int (ns.getD i.toNat 0)):=by
 have e:i=((i.toNat:Nat):Int):=by lia
 have l:i.toNat<ns.length:=by lia
 have q:atI (ns.map V.int) ((i.toNat:Nat):Int)=some (V.int (ns.getD i.toNat 0)):=atI_nat (by rw[aq,ac l,gQ,ac l];rfl);rw[<- e]at q;exact q
def aco (K:Fg)(j:Nat)(C:St->Hp->Prop)(g:St->Int):TE:=λb H Q=>C b H/\∃(a:Addr) (c:List Int) (n:Int),b[j]?=some (some (.ref a))/\SqL K H a (c.map V.int)/\atI (c.map V.int) (g b)=some (.int n)/\Q (.int n) H
def YW (j:Nat)(l:PE X b (tN C i))(o:PlainIx b)(k:X.N[j]?=some x:=by rfl)(r:Vis X.env.scope x:=by walk_at "v")
  (m:(x == ("__debug__":Str))=false:=by decide) (d:(x == ("__classdict__":Str))=false:=by decide):PE X (.Subscript (.Name x v) b pos) (aco X.K j C i):=by
 rintro p s t H Q I ⟨c,a,u,n,e,f,g,q⟩;exact pe_ix ix_list (pe_var k r m d) l o p s t H Q I ⟨_,e,c,a,_,_,_,rfl,rfl,f,g,q⟩
def Xw (j:Nat)(a:Addr)(ns:Li){x:Str}{y:Pos}(t:PE X b (tN C g))(v:PlainIx b)(r:X.N[j]?=some x:=by rfl)(w:Vis X.env.scope x:=by walk_at "v")
  (u:(x == ("__debug__":Str))=false:=by decide) (k:(x == ("__classdict__":Str))=false:=by decide) :
  PE X (.Subscript (.Name x y) b pos) (tN (λd H=>C d H/\d[j]?=some (some (.ref a))/\SqL X.K H a (ns.map V.int) /\ -(ns.length:Int)<=g d/\g d<(ns.length:Int)) (λd=>ns.getD (if 0<=g d then g d else g d+ns.length).toNat 0)):=by
 rintro p s d H Q I ⟨⟨c,n,o,l,m⟩,q⟩;refine pe_ix ix_list (pe_var r w u k) t v p s d H Q I ⟨_,n,c,a,_,_,_,rfl,rfl,o,?_,q⟩;show atI (ns.map V.int) (g d)=some (V.int (ns.getD (if 0<=g d then g d else g d+ns.length).toNat 0));by_cases e:0<=g d
 .rw[af e];exact Ae e m
 .rw[ae e];have f:=Ae (ns:=ns) (i:=g d+ns.length) (by lia) (by lia);unfold atI ixN at f ⊢;rw[aa]at f ⊢;rw[af (show 0<=g d+(ns.length:Int) by lia),af (show g d+(ns.length:Int)<(ns.length:Int) by lia)]at f;rw[ae e,af l];exact f
def abi (j:Nat)(a:Addr)(xs:List V)(l:X.mg "len"=none)(g:X.N[j]?=some x:=by rfl)(k:Gl X "len":=by rfl)(m:Vis X.env.scope x:=by walk_at "v")
  (i:(x == ("__debug__":Str))=false:=by decide) (c:(x == ("__classdict__":Str))=false:=by decide) (e:starEach [.Name x f] X.env=[(false,eval (.Name x f) X.env)]:=by rfl) :
  PE X (.Call (.Name "len" p) [.Name x f] [] pos) (tN (λd H=>d[j]?=some (some (.ref a))/\SqL X.K H a xs) (λ_=>(xs.length:Int))):=by
 intro b s d H Q I h;exact pe_callB call_len_seq k l PySem.boot_len (pa_cons (pe_var g m i c) pa_nil e) (by decide) (by decide) e rfl b s d H Q I ⟨_,h.1.1,a,_,rfl,.inl h.1.2,h.2⟩
def YB:PA X [] (tNs (λ_ _=>True) (λ_=>[])):=λpos p s a H Q I h=>pa_nil pos p s a H Q I h.2
def VM (f:PE X e (tN c g))(i:PA X b (tNs C d))(j:starEach (e::b) X.env=(false,eval e X.env)::starEach b X.env:=by rfl):PA X (e::b) (tNs (λa H=>c a H/\C a H) (λa=>g a::d a)):=
 λpos p s a H Q I h=>pa_cons f i j pos p s a H Q I ⟨h.1.1,h.1.2,h.2⟩
def spB (n:Nat)(pre:List Int->Prop)(F:List Int->Bool):Sp:=λv H Q _=>∃a:List Int,a.length=n/\v=a.map V.int/\pre a/\Q (.bl (F a)) H
structure Ok (P:Program)(w:World)(K:Fg)(mg:Mg)(base:Heap)(k:Nat)(x:Str)(ps:List Str)(sp:Sp):Prop where
 ex:∃f fd,FnOk P w K mg base CX0 k f fd ps sp/\Binds K fd ps []/\W.keepIn K (.ref f)=true/\mg x=some (.ref f)
def Ok.imp {P:Program}{w:World}{K:Fg}{mg:Mg}{base:Heap}{k:Nat}{x:Str}{p:Ls}{sp s:Sp}(o:Ok P w K mg base k x p sp)(h:∀vs H Q E,s vs H Q E->sp vs H Q E):Ok P w K mg base k x p s:=by obtain⟨f,c,a,b⟩:=o.ex;exact⟨f,c,a.imp h,b⟩
def vq (o:Ok X.prog X.w X.K X.mg X.base j x s sp)(n:Room k X.A)(d:PA X (e::a) t)(l:j<=k:=by decide)(i:Gl X x:=by rfl)(h:(x == ("__debug__":Str))=false:=by decide)
  (g:starEach (e::a) X.env=(false,eval e X.env)::starEach a X.env:=by rfl) (c:(backTo pos (starEach a X.env)).any (·.1)=false:=by rfl):PE X (.Call (.Name x p) (e::a) [] pos) (tCall sp [] E0 t):=by
 obtain⟨f,r,F,b,q,m⟩:=o.ex;exact pe_call (F.mono l) n i m q b .nil pass0 d h g c
def Y5 (o:Ok X.prog X.w X.K X.mg X.base j x v (spB n pre F))(u:Room k X.A)(i:PA X (e::c) (tNs C g))(t:∀a,(g a).length=n:=by intro _;rfl)(r:j<=k:=by decide)(m:Gl X x:=by rfl)
  (d:(x == ("__debug__":Str))=false:=by decide) (l:starEach (e::c) X.env=(false,eval e X.env)::starEach c X.env:=by rfl) (f:(backTo pos (starEach c X.env)).any (·.1)=false:=by rfl) :
  PE X (.Call (.Name x p) (e::c) [] pos) (tV (λa H=>C a H/\pre (g a)) (λa=>F (g a)=true)):=
 λb s a H Q I h=>vq o u i r m d l f b s a H Q I ⟨h.1.1,g a,t a,by rw[bu],h.1.2,by have q:=h.2;rw[f8]at q;exact q⟩
section
variable {P:Program}{w:World}{K:Fg}{mg:Mg}{base:Heap}
def nj.ok {x:Str}{e:Stmt}{N p:Ls}{k:Nat}{sp:Sp}(d:nj K mg x e p)(S:FnScope N p (defScope e))(len:∀vs H Q E,sp vs H Q E->vs.length=p.length)
  (a:∀(f:Addr) (c:Value) (A:Around) (outer:List Env) (s:Shared) (H:Hp) (vs:List V) (Q:VK) (E:XK),Room k (A.deeper (envOfC x (defScope e) s.heap.objs.size f c))->sp vs H Q E -> ∃t,PSs (cxOf CX0 P w K mg base N x (defScope e) f c A outer s H E).nox (defBody e) t/\t { nx:=λ_ g=>Q .non g,rt:=Q } (start N vs) H):Ok P w K mg base (k+1) x p sp:=by
 obtain⟨f,i,F,b,m⟩:=d.ex;exact⟨f,i,F.ok S len λc A outer s H vs Q E j h=>a f c A outer s H vs Q E j h,b,F.kp,m⟩
end
def U5:bootBuiltins "int"=some (.type "int"):=by decide +kernel
def Yi:bootBuiltins "bool"=some (.type "bool"):=by decide +kernel
def Af:bootBuiltins "list"=some (.type "list"):=by decide +kernel
def Bo:bootBuiltins "tuple"=some (.type "tuple"):=by decide +kernel
def SQ:bootBuiltins "len"=some (.builtin "len"):=by decide +kernel
def DK:bootBuiltins "isinstance"=some (.builtin "isinstance"):=by decide +kernel
def aae:bootBuiltins "min"=some (.builtin "min"):=by decide +kernel
def aan:bootBuiltins "max"=some (.builtin "max"):=by decide +kernel
def aai:V->Option Value
 | .ty n=>some (.type n)
 | .ref a=>some (.ref a)
 |_=>none
def Td (h:aai c=some cv)(r:RelV c u):u=cv:=by
 cases c with
 |ty n=>cases h;exact r
 |ref a=>cases h;exact r
 |non=>cases h
 |bl _=>cases h
 |int _=>cases h
 |str _=>cases h
 |byt _=>cases h
 |flt _=>cases h
section
variable {X:Cx}
def KC:CallR X (.builtin "isinstance") (λxs H Q=>∃x c t a b,xs=[x,c]/\aai c=some a/\TyOf X.K H x t/\W.kitOne X.K t a=some b/\Q (.bl b) H):=by rintro p s k H xs j Q I r ⟨x,c,t,a,b,rfl,d,ty,e,q⟩;obtain⟨u,w,rfl,f,g⟩:=vals2 r;obtain rfl:=Td d g;exact isinst_ok I f ty e λi=>⟨.bl b,H,I.tok i,rfl,q⟩
end
def aaF {ns:Li}(h:ns.length=1):∃a,ns=[a]:=match ns,h with | [a],_=>⟨a,rfl⟩
def acE {ns:Li}(h:ns.length=2):∃a b,ns=[a,b]:=match ns,h with | [a,b],_=>⟨a,b,rfl⟩
def same_new (h:H p=none)(o:HO):Same H (upd H p o):=um λb u q=>by rw[upd_ne (ne_of_none q h)];exact q
def bits_le (h:k.natAbs<2^n):Builtin.Int.intBits k<=n:=by
  unfold Builtin.Int.intBits;split
  . exact a9 _
  . have a:k.natAbs≠0:=by
      rename_i c;intro z;apply c
      first | exact z | (have:k=0:=by omega
                         simp[this])|lia
    have:=(iV a).mpr h;lia
def qx (h:a.natAbs<2^n)(c:b.natAbs<2^m)(e:n<=1048576:=by decide)(d:m<=1048576:=by decide):IntMulOk a b:=
 .of_bits (aA (bits_le h) (aA e (by decide))) (aA (bits_le c) (aA d (by decide)))
def t6 (h:-(2^64)<b/\b<2^64):IntMulOk a b:=.of_right (intBits_le_64 h.1 h.2)
def xZ (h:-(2^64)<a/\a<2^64):IntMulOk a b:=.of_left (intBits_le_64 h.1 h.2)
abbrev Yo:Value->Shared->Prop:=λ_ _=>False
def Fd (a:List Expr)(ev:Env):Sem Bool:=forIn a true λc r=>if r=true then do let ok <- isTrue c ev (eval c ev);pure (ForInStep.yield ok) else pure (ForInStep.yield r)
def Ra (I:Nat->Shared->Prop)
  (t:∀n s,I n s->wpAny (model P w) A (pyNext i) (λr a=>(r=none/\R (.ok .next) a)\/∃v,r=some v /\ wpAny (model P w) A (letOwnedTupleGo j i v) (λ_ d=>wpAny (model P w) A (assign j ev v) (λ_ e=>wpAny (model P w) A (Fd k ev) (λok b=> if ok=true then wpAny (model P w) A (eval l ev) (λx f=>wpAny (model P w) A (call (.builtin "list.append") [acc,x]) (λ_ g=>∃m,m<n/\I m g) Yo f) Yo b else ∃m,m<n/\I m b) Yo e) Yo d) Yo a) Yo s)
  (n:Nat) (h:I n s):codeAny (model P w) A (.compLoop (.ListComp l [⟨j,u,k,0⟩] sc at') 0 i acc ev) R s:=by
 refine codeAny_loop rfl I (λn s hI=>?_) n h;refine wpAny_noted (wpAny_noRaise ?_);rw[compTurn_list];refine aH (wpAny_standAt (aH (thn (t n s hI) λr a h1=>?_)));rcases h1 with⟨rfl,h1⟩|⟨v,rfl,h1⟩
 .exact bY h1
 .refine aH (thn h1 λ_ d h2=>aH (thn h2 λ_ e o=>aH (thn o λok b c=>?_)));cases ok with
  |false=>exact bY ⟨rfl,c⟩
  |true=>exact aH (aH (thn c λx f p=>aH (thn p λ_ g q=>bY (bY ⟨rfl,q⟩))))
def sW (X:Cx)(sc:Scope)(cl:List (Str×Addr)):List Str->List (Option Nat)->Prop
 |[],[]=>True
 |_::xs,none::cs=>sW X sc cl xs cs
 |x::xs,some i::cs=>(X.N[i]?=some x/\Vis X.env.scope x/\X.env.kindOf x≠some .local/\((relabel sc X.env).names.lookup x=some .cell\/(relabel sc X.env).names.lookup x=some .free)/\∃c,cl.lookup x=some c/\X.env.cells.lookup x=some c)/\sW X sc cl xs cs
 |_,_=>False
def Mm (ev:Env):List (Str×Addr)->Prop
 |[]=>True
 |(x,c)::r=>ev.cells.lookup x=some c/\Mm ev r
def Mm.look:∀{cl:List (Str×Addr)},Mm ev cl->∀{x:Str} {c:Addr},cl.lookup x=some c->ev.cells.lookup x=some c
 |[],_,x,c,h=>by simp at h
 |(y,d)::r,q,x,c,h=>by
  rw[List.lookup_cons]at h;cases e:x == y with
  |true=>
   rw[e]at h;have a:x=y:=by simpa using e
   subst a;cases h;exact q.1
  |false=>rw[e]at h;exact Mm.look q.2 h
def pK (cap:List (Option Nat))(a:St):St:=cap.map λo=>match o with
 |some i=>(a[i]?).join
 |none=>none
def jO (X:Cx)(N':List Str)(sc:Scope)(cl:List (Str×Addr))(s:Shared)(H:Hp)(fp:List Addr):Cx:=
 { X with N:=N',s₀:=s,H₀:=H,env:=compEnvC sc cl s.heap.objs.size X.env,outer:=X.stack,ex:=fp,fn:=λ_=>false,pn:=[],xe:=Yo }
section
variable {X:Cx}{P:List (Addr×Obj)}{a:St}{H:Hp}{s:Shared}{N':List Str}{sc:Scope}{cl:List (Str×Addr)}{cap:List (Option Nat)}{fp:List Addr}
def sW.length {X:Cx}{sc:Scope}{cl:List (Str×Addr)}:∀{N':Ls} {cap:List (Option Nat)},sW X sc cl N' cap->cap.length=N'.length
 |[],[],_=>rfl
 |_::xs,none::cs,h=>by have:=sW.length (X:=X) (sc:=sc) (cl:=cl) (N':=xs) (cap:=cs) h;simp[this]
 |_::xs,some i::cs,h=>by have:=sW.length (X:=X) (sc:=sc) (cl:=cl) (N':=xs) (cap:=cs) h.2;simp[this]
 |[],_::_,h=>h.elim
 |_::_,[],h=>h.elim
def sW.at:∀{N':Ls} {cap:List (Option Nat)} {j:Nat},sW X sc cl N' cap->N'[j]?=some x->cap[j]?=some (some i) ->
  X.N[i]?=some x/\Vis X.env.scope x/\X.env.kindOf x≠some .local/\((relabel sc X.env).names.lookup x=some .cell\/(relabel sc X.env).names.lookup x=some .free)/\∃c,cl.lookup x=some c/\X.env.cells.lookup x=some c
 |[],[],j,_,h,_=>by simp at h
 |_::xs,none::cs,0,_,_,h=>by simp at h
 |_::xs,none::cs,j+1,q,h1,h2=>sW.at (N':=xs) (cap:=cs) (j:=j) q (by simpa using h1) (by simpa using h2)
 |y::xs,some k::cs,0,q,h1,h2=>by
  have e:y=x:=by simpa using h1
  have b:k=i:=by simpa using h2
  subst e b;exact q.1
 |_::xs,some _::cs,j+1,q,h1,h2=>sW.at (N':=xs) (cap:=cs) (j:=j) q.2 (by simpa using h1) (by simpa using h2)
 |[],_::_,_,h,_,_=>h.elim
 |_::_,[],_,h,_,_=>h.elim
def Inv.block (I:Inv X P a H s)(U:sc.kind=.function)(g:sW X sc cl N' cap)(sub:Mm X.env cl)
  (B:∀x,((relabel sc X.env).names.lookup x=some .cell\/(relabel sc X.env).names.lookup x=some .free)->∃c,cl.lookup x=some c)
  (t:∀b∈fp,FpOk X P H b) (D:∀b∈fp,∃o,s.heap.get? b=some o) (F:h'.Ns s.heap.objs.size m) (G:Heap.SameBut s.heap.objs.size (s.heap.push o) h') :
  Inv (jO X N' sc cl s H fp) [] (pK cap a) H { s with heap:=h',toks:=tk }:=by
 have d:∀b u,s.heap.get? b=some u->h'.get? b=some u:=λb u e=>
  (G.2 b (bh (az e))).trans (ay _ e)
 refine⟨⟨I.ok.mod,U,I.ok.glob,I.ok.blt,aj _,λx y c h1 h2=>I.ok.inj x y c (sub.look h1) (sub.look h2),B,(λx c h _=>nomatch h),I.ok.hd,I.ok.frames,.inl rfl,λb n=>⟨?_,λx c e=>(t b n).2.2.2.2.1 x c (sub.look e)⟩,I.bs,aA I.ok.bsz I.sz,λb u e n=>?_,λb n C=>?_,I.stack,I.env0.frf⟩,rfl,I.bare,Un.kept d,⟨m,F,λj x v h1 h2 h3=>?_⟩,λx c e=>?_,I.hok.fresh (aj _),λx c e=>I.freeC x c (sub.look e),λp Z=>absurd (show p∈([]:List (Addr×Obj)) from Z) (by simp),I.hok.kept d,?_⟩
 .obtain⟨u,e⟩:=D b n;exact bh (az e)
 .rcases (t b n).2.2.2.1 with z|z
  .exact I.ok.noex b u e z
  .exact absurd (aF (az e) (aA I.ok.bsz z)) (c9 _)
 .rcases aG.mp (I.stkSub b C) with z|z
  .exact(t b n).2.1 z
  .exact(t b n).2.2.1 z
 .obtain⟨m0,Y,E⟩:=I.loc;have f:((cap.map λo=>match o with|some i=>(a[i]?).join|none=>none):St)[j]?=some (some v):=h2
  rw[aq]at f;cases e:cap[j]? with
  |none=>rw[e]at f;cases f
  |some oi=>
   rw[e]at f;cases oi with
   |none=>cases f
   |some i=>
    have q:(a[i]?).join=some v:=aE f;have T:a[i]?=some (some v):=by
     cases z:a[i]? with
     |none=>rw[z]at q;cases q
     |some y=>rw[z]at q;cases q;rfl
    obtain⟨M,N,O,Q,c,R,S⟩:=g.at h1 e;obtain⟨u,r,l⟩:=E i x v M T N;refine⟨u,r,.inr ⟨Q,c,R,?_⟩⟩;rcases l with⟨k,_⟩|⟨_,c',L,ic⟩
    .exact absurd k O
    .rw[S]at L;cases L;obtain⟨J,w,A⟩:=ic;exact⟨J,d _ _ w,A⟩
 .obtain⟨v,J,w,A⟩:=I.cell x c (sub.look e);exact⟨v,J,d _ _ w,A⟩
 .unfold pK;rw[aa];exact g.length
def Inv.X6 (I:Inv X P a H s)(c:∀b∈fp,FpOk X P H b)(J:Inv (jO X N' sc cl s H fp) pins' σ' d s'):Inv X P a d s':=
 I.call' (ch:=fp) J.os J.base J.hok J.bare λb h=>⟨(c b h).2.2.2.1,(c b h).2.1,(c b h).2.2.2.2.1,(c b h).2.2.2.2.2⟩
end
def Bq:St->St->Prop
 |[],[]=>True
 |none::a,_::b=>Bq a b
 |some v::a,y::b=>y=some v/\Bq a b
 |_,_=>False
def Bq.at:∀{a b:St},Bq a b->∀(i:Nat) (v:V),a[i]?=some (some v)->b[i]?=some (some v)
 |[],[],_,i,v,h=>by simp at h
 |none::a,_::b,q,0,v,h=>by simp at h
 |none::a,_::b,q,i+1,v,h=>by have:=Bq.at (a:=a) (b:=b) q i v (by simpa using h);simpa using this
 |some u::a,y::b,q,0,v,h=>by
  have e:u=v:=by simpa using h
  rw[q.1,e];rfl
 |some u::a,y::b,q,i+1,v,h=>by have:=Bq.at (a:=a) (b:=b) q.2 i v (by simpa using h);simpa using this
 |[],_::_,q,_,_,_=>q.elim
 |none::_,[],q,_,_,_=>q.elim
 |some _::_,[],q,_,_,_=>q.elim
def PTs (X:Cx)(c:List Expr)(t:TT):Prop:=
 ∀(p:List (Addr×Obj)) (s:Shared) (σ:St) (H:Hp) (Q:Bool->Hp->Prop),Inv X p σ H s->t σ H Q->wpAny (model X.prog X.w) X.A (Fd c X.env) (TP X p σ Q) X.xe s
def oR:PTs X [] (λ_ H Q=>Q true H):=λ_ _ _ H _ I h=>wpAny_tests_nil ⟨H,I,h⟩
def Ql (h:PT X c t):PTs X [c] t:=λp s a H Q I q=>wpAny_tests_one (h p s a H Q I q)
def lcW (D:Addr)(J:It)(f:St)(g:TG)(k:TT)(t:TE)(Q:VK)(W:Nat->Nat->List V->Hp->Prop):Prop:=
 ∀i m a H,W i m a H->H D=some (.lst a)/\a.length<sizeLine /\
  ((J.stop i H/\Q (.ref D) H)\/(J.go i H/\∀x h,J.yld i H x h -> g x f h λb j=>Bq f b/\k b j λok d=> if ok=true then t b d λy e=>e D=some (.lst a)/\∃c,c<m/\W (i+1) c (a++[y]) (upd e D (.lst (a++[y]))) else ∃c,c<m/\W (i+1) c a d))
def RG (cap:List (Option Nat))(w:TI)(g:TG)(b:TT)(t:TE):TE:=λa H Q=>w a H λJ h=>∀D,h D=none->∃W:Nat->Nat->List V->Hp->Prop,(∃m,W 0 m [] (upd h D (.lst [])))/\lcW D J (pK cap a) g b t Q W
section
variable {X:Cx}{P:List (Addr×Obj)}{a:St}{H:Hp}{s:Shared}{N':List Str}{sc:Scope}{cl:List (Str×Addr)}{cap:List (Option Nat)}{fp:List Addr}
 {E t S:Expr} {d:List Expr} {at':Pos} {g:TG} {w:TT} {l:TE} {J:It} {A:Addr} {f:Nat->Heap->Prop} {Q:VK}
structure uH (X:Cx)(N':List Str)(sc:Scope)(cl:List (Str×Addr))(cap:List (Option Nat)):Prop where
 kind:sc.kind=.function
 clos:closureFor sc X.env=pure cl
 nocell:∀y∈sc.names,y.2 ≠ .cell
 names:∀y∈sc.names,y.2=.local->sc.names.lookup y.1=some .local
 cap:sW X sc cl N' cap
 sub:Mm X.env cl
 has:∀x,((relabel sc X.env).names.lookup x=some .cell\/(relabel sc X.env).names.lookup x=some .free)->∃c,cl.lookup x=some c
def nQ (kind:sc.kind=.function)(b:closureFor sc X.env=pure cl)(h1:(sc.names.all λy=>y.2 != .cell)=true)(h2:(sc.names.all λy=>y.2 != .local || sc.names.lookup y.1 == some .local)=true)
  (h:sW X sc cl N' cap) (sub:Mm X.env cl) (m:((relabel sc X.env).names.all λy=>(y.2 != .cell && y.2 != .free) || (cl.lookup y.1).isSome)=true):uH X N' sc cl cap:=by
 refine⟨kind,b,λy j e=>?_,λy j e=>?_,h,sub,λx o=>?_⟩
 .have q:=dm.mp h1 y j;rw[e]at q;exact absurd q (by decide)
 .have q:=dm.mp h2 y j;rw[e]at q;simpa using q
 .have i:∀k,(k=NameKind.cell\/k=NameKind.free)->(relabel sc X.env).names.lookup x=some k->∃c,cl.lookup x=some c:=λk n e=>by
   have q:=dm.mp m _ (dh e);rcases n with rfl|rfl
   .exact c7.mp (by simpa using q)
   .exact c7.mp (by simpa using q)
  rcases o with e|e
  .exact i _ (.inl rfl) e
  .exact i _ (.inr rfl) e
def Fj (L:uH X N' sc cl cap)(hc:X.calm=true)(I:Inv X P a H s)(T:Turn X.prog X.w X.K t J fp A f)(st:f 0 s.heap)(hf:∀b∈fp,FpOk X P H b)
  (hg:∀s H fp,PG (jO X N' sc cl s H fp) t g) (ht:∀s H fp,PTs (jO X N' sc cl s H fp) d w) (he:∀s H fp,PE (jO X N' sc cl s H fp) E l)
  (rd:∀D,H D=none->∃W:Nat->Nat->List V->Hp->Prop,(∃m,W 0 m [] (upd H D (.lst [])))/\lcW D J (pK cap a) g w l Q W)
  {Ex:Value->Shared->Prop} {RR:Value->Addr->Result->Shared->Prop} (hR:∀D C m k s',Inv X P a k s' -> s'.heap.Ns C m->FpOk X P k C->Q (.ref D) k -> RR (.ref D) C (.ok .next) s') :
  wpAny (model X.prog X.w) X.A (newList []) (λacc B=>wpAny (model X.prog X.w) X.A (newFunctionEnv sc X.env.globals cl [] X.env.qual none .none (some X.env)) (λcv s4=> codeAny (model X.prog X.w) X.A (.compStart (.ListComp E [⟨t,S,d,0⟩] sc at') 0 (.ref A) acc { cv with scope:=relabel sc X.env }) (RR acc cv.locals) s4) Ex B) Ex s:=by
 obtain⟨W,⟨m0,w0⟩,step⟩:=rd _ I.fresh;refine wpAny_newObj_type (fV L.nocell (by intro y hy;simp at hy) (λh1 G F=>?_) L.kind);have I3:Inv X P a (upd H s.heap.objs.size (.lst [])) { s with heap:=s.heap.push { cls:=.type "list",dict:=none,data:=.seq ([]:List Value).toArray } }:=I.lnew (its:=[]) (t':=s.toks) .nil (by show 0<=sizeLine;decide);have hfo:∀b∈fp,∃o,s.heap.get? b=some o:=λb h=>let ⟨o,e,_⟩:=T.obj 0 s.heap st b h;⟨o,e⟩
 have Z:∀b∈fp,FpOk X P (upd H s.heap.objs.size (.lst [])) b:=λb h=>by obtain⟨o,e⟩:=hfo b h;exact⟨by rw[upd_ne (bh (az e))];exact(hf b h).1,(hf b h).2⟩
 dsimp only at G F ⊢;generalize hs3:({ s with heap:=s.heap.push { cls:=.type "list",dict:=none,data:=.seq ([]:List Value).toArray } }:Shared)=B at I3 G F ⊢;have hh3:B.heap=s.heap.push { cls:=.type "list",dict:=none,data:=.seq ([]:List Value).toArray }:=by rw[<- hs3]
 have G:h1.Ns B.heap.objs.size (λx=>List.lookup x ([]:List (Str×Value)).reverse):=by rw[hh3];exact G
 have F:Heap.SameBut B.heap.objs.size (B.heap.push { cls:=.type (if (some X.env).isSome=true then "dict" else "frame"),data:=.dict #[] }) h1:=by rw[hh3];exact F
 have M:∀b o,s.heap.get? b=some o->B.heap.get? b=some o:=λb o e=>by rw[hh3];exact ay _ e
 have J0:=I3.block (N':=N') (cap:=cap) (fp:=fp) (tk:=B.toks+([]:List (Str×Value)).length) L.kind L.cap L.sub L.has Z (λb h=>let ⟨o,e⟩:=hfo b h;⟨o,M b o e⟩) G F
 have st1:f 0 h1:=T.keep 0 s.heap h1 st λb h o e=>(F.2 b (bh (az (M b o e)))).trans (ay _ (M b o e));have U:∀{k:Hp},(∀b∈fp,k b=none)->∀b∈fp,FpOk (jO X N' sc cl B (upd H s.heap.objs.size (.lst [])) fp) [] k b:=λhn b h=>by
  obtain⟨o,e⟩:=hfo b h;refine⟨hn b h,bh (az (M b o e)),λhb'=>?_,.inl h,λx c q=>(hf b h).2.2.2.2.1 x c (L.sub.look q),λp hp=>absurd (show p∈([]:List (Addr×Obj)) from hp) (by simp)⟩;rcases aG.mp (I.stkSub b hb') with z|z
  .exact(hf b h).2.1 z
  .exact(hf b h).2.2.1 z
 have O:∀s4:Shared,s4={ B with heap:=h1,toks:=B.toks+([]:List (Str×Value)).length } ->
   codeAny (model X.prog X.w) X.A (.compLoop (.ListComp E [⟨t,S,d,0⟩] sc at') 0 (.ref A) (.ref s.heap.objs.size) (compEnvC sc cl B.heap.objs.size X.env)) (RR (.ref s.heap.objs.size) B.heap.objs.size) s4:=by
  rintro s4 rfl;refine Ra (λn s'=>∃i ys k,Inv (jO X N' sc cl B (upd H s.heap.objs.size (.lst [])) fp) [] (pK cap a) k s'/\f i s'.heap/\(∀b∈fp,k b=none)/\W i n ys k) ?_ m0 ⟨0,[],_,J0,st1,λb h=>(Z b h).1,w0⟩;rintro n s' ⟨i,ys,k,Ji,sti,fri,wi⟩;obtain⟨hD,hlen,hgo⟩:=step i n ys k wi;rcases hgo with⟨hstop,hq⟩|⟨hgo,Y⟩
  .refine thn (T.done (jO X N' sc cl B (upd H s.heap.objs.size (.lst [])) fp) rfl rfl rfl hc i [] s' _ k Yo Ji (U fri) sti hstop) λr s1 ⟨hr,J1⟩=>.inl ⟨hr,?_⟩;obtain⟨m1,hm1,_⟩:=J1.loc;exact hR _ _ m1 k s1 (I3.X6 Z J1) hm1 (I3.fpOk (aj _) J1.free) hq
  .refine thn (T.item (jO X N' sc cl B (upd H s.heap.objs.size (.lst [])) fp) rfl rfl rfl hc i [] s' _ k Yo Ji (U fri) sti hgo) λr s1 ⟨u,hr,h4⟩=>.inr ⟨u,hr,thn h4 λ_ s5 ⟨x,H5,J5,r5,y5,st5,fr5⟩=>?_⟩;have J5':=J5.pinned (U fr5) (T.obj _ _ st5);refine thn (hg _ _ _ _ s5 _ H5 x u _ J5' r5 (Y x H5 y5)) λ_ s6 ⟨σ6,H6,J6,ext,q6⟩=>?_;have N:∀{ys':List V} {H7:Hp} {s7:Shared} {m':Nat},Inv (jO X N' sc cl B (upd H s.heap.objs.size (.lst [])) fp) ([]++pinsAt fp s5.heap) σ6 H7 s7->m'<n->W (i+1) m' ys' H7 ->
     ∃m,m<n/\∃i ys k,Inv (jO X N' sc cl B (upd H s.heap.objs.size (.lst [])) fp) [] (pK cap a) k s7/\f i s7.heap/\(∀b∈fp,k b=none)/\W i m ys k:=λ{ys' H7 s7 m'} R hm w7=>by
    refine⟨m',hm,i+1,ys',H7,(R.unpinned).weak ?_ λj v z=>ext.at j v z,T.keep _ _ _ st5 λb h o e=>(R.pin (b,o) (aP _ (aP _ (mem_pinsAt h e)))).1,λb h=>?_,w7⟩
    .rw[R.len,Ji.len]
    .obtain⟨o,e,_⟩:=T.obj _ _ st5 b h;exact(R.pin (b,o) (aP _ (aP _ (mem_pinsAt h e)))).2.1
   refine thn (ht _ _ _ _ s6 _ H6 _ J6 q6) λok s7 ⟨H7,R,q7⟩=>?_;cases ok with
   |false=>obtain⟨m',hm,w7⟩:=q7;exact N R hm w7
   |true=>refine thn (he _ _ _ _ s7 _ H7 _ R q7) λy s8 ⟨yv,H8,J8,r8,hD8,m',hm,w8⟩=>?_;exact thn (mt_append _ s8 _ H8 (.ref s.heap.objs.size) [yv] (.ref s.heap.objs.size) [y] (λv H9=>H9=upd H8 s.heap.objs.size (.lst (ys++[yv]))) J8 rfl (.cons r8 .nil) ⟨_,ys,yv,rfl,rfl,hD8,hlen,rfl⟩) λ_ s9 ⟨_,H9,J9,_,e9⟩=>by subst e9;exact N J9 hm w8
 subst hs3;exact codeAny_compStart_list (O _ rfl) (T.self _ 0 _ _ _ st1 (O _ rfl))
def vY (L:uH X N' sc cl cap)(y:X.calm=true)(F:PI X t S wi)(B:∀s H fp,PG (jO X N' sc cl s H fp) t g)(N:∀s H fp,PTs (jO X N' sc cl s H fp) d w)(z:∀s H fp,PE (jO X N' sc cl s H fp) E l)
  (M:∀x,foldedSetIterable S X.env x=pure x:=by intro _;rfl):PE X (.ListComp E [⟨t,S,d,0⟩] sc at') (RG cap wi g w l):=by
 intro P s a H Q I h;rw[eval_ListComp];refine wpAny_comprehension_free (use:=none) rfl M L.clos L.kind L.names (thn (F P s a H _ I h) λv s1 h1=>thn h1 λO s2 h2=>?_);obtain⟨A,fp,f,J,Z,rfl,n,T,j,r,R⟩:=h2;refine Fj L y n T j r B N z R (RR:=λi C=>compPost (model X.prog X.w) X.A X.xe none (EP X P a Q) i C) λD C m k U p G c q=>?_;refine⟨m,G,λh' Y=>⟨.ref D,k,p.turned (t':=U.toks) (λb o u e=>(Y.2 b u).trans e) c.1 c.2.1 c.2.2.2.1 c.2.2.2.2.1 c.2.2.2.2.2,rfl,q⟩⟩
def Qw (hN:X.N.Nodup)(G:X.N[i]?=some x)(hx:X.env.scope.names.lookup x=some .local)(L:uH X N' sc cl cap)(hc:X.calm=true)(hi:PI X t S wi)(hg:∀s H fp,PG (jO X N' sc cl s H fp) t g)
  (ht:∀s H fp,PTs (jO X N' sc cl s H fp) d w) (he:∀s H fp,PE (jO X N' sc cl s H fp) E l) (O:swapsWith (.ListComp E [⟨t,S,d,0⟩] sc at') (some (.Name x R)) u.line X.env=pure true)
  (hs:∀x,foldedSetIterable S X.env x=pure x:=by intro _;rfl):PS X (.Assign [.Name x R] (.ListComp E [⟨t,S,d,0⟩] sc at') u) (tAsg (RG cap wi g w l) (gName i)):=by
 intro P s a H D I h;rw[exec_Assign_Name_used _ _ _ _ O];refine aH (wpAny_standAt (aH ?_));refine aH (thn (wpAny_comprehension_free (use:=some (assign (.Name x R) X.env)) (Q:=λ_ k=>SP X P D .next k) rfl hs L.clos L.kind L.names (thn (hi P s a H _ I h) λv s1 h1=>thn h1 λitv s2 h2=>?_)) λ_ k q=>bY (bY q));obtain⟨A,fp,f,J,H2,rfl,I2,T,Y,f2,rd⟩:=h2;refine Fj L hc I2 T Y f2 hg ht he rd (RR:=λF C=>compPost (model X.prog X.w) X.A X.xe (some (assign (.Name x R) X.env)) (λ_ k=>SP X P D .next k) F C) λZ C m H' k J' hn j q=>?_;obtain⟨y,es,ep,M,r,hr⟩:=hn;have Jp:Inv X (P++[(C,y)]) a H' k:=J'.pins_of λp N=>by
  rcases cY.mp N with z|z
  .exact J'.pin p (aP _ z)
  .have e:p=(C,y):=by simpa using z
   subst e;exact⟨M,j.1,j.2.1,j.2.2.1,λv z=>by rw[r]at z;cases z⟩
 refine thn (pg_name (i:=i) hN G (.inl hx) (.inr hx) _ k a H' (.ref Z) (.ref Z) (λn c=>D.nx n c) Jp rfl q) λ_ U ⟨n,c,B,q2⟩=>?_;obtain⟨p1,p2,p3,p4,p5⟩:=B.pin (C,y) (aP _ (aP _ (by simp)));refine⟨m,⟨y,es,ep,p1,r,hr⟩,λh' sb=>⟨n,c,(B.pins_of (pins':=P) λp N=>B.pin p (aP _ (cQ _ N))).turned (t':=U.toks) (λb o hb e=>(sb.2 b hb).trans e) p2 j.2.1 j.2.2.2.1 j.2.2.2.2.1 j.2.2.2.2.2,q2⟩⟩
end
def ObjOk.get (x:ObjOk P w H h a o):∃ob,h.get? a=some ob:=by
 cases o with
 |lst b=>obtain⟨_,_,_,_,e⟩:=x;exact⟨_,e⟩
 |tup b=>obtain⟨_,_,_,ob,e,_⟩:=x;exact⟨ob,e⟩
 |dK k=>obtain⟨_,_,_,_,o,_,_,e,_⟩:=x;exact⟨o,e⟩
 |dT k=>obtain⟨_,_,_,_,o,_,_,e,_⟩:=x;exact⟨o,e⟩
 |set S n=>obtain⟨o,_,_,_,e,_⟩:=x;exact⟨o,e⟩
 |ins C d fs=>obtain⟨_,_,_,e,_⟩:=x;exact⟨_,e⟩
 |own y=>exact x
 |xd fs=>obtain⟨_,⟨o,_,_,e,_⟩,_⟩:=x;exact⟨o,e⟩
 |rng l c=>obtain⟨_,_,_,e⟩:=x;exact⟨_,e⟩
 |frz ob u=>obtain⟨e,_⟩:=x;exact⟨ob,e⟩
 |tbl p=>exact⟨_,x.1⟩
 |met f y=>exact⟨_,(show h.get? a=some _ from x)⟩
 |ext g=>obtain⟨_,e,_⟩:=x;exact e
structure Lft (fr as:List Addr)(h h2:Heap)(a:Addr)(cls:Value):Prop where
 keep:∀b o,h.get? b=some o->b∉as->h2.get? b=some o
 slot:∀b o,b∈fr->h.get? b=some o->∃sl,h2.get? b=some { o with slots:=sl }
 ex:∃oe vs T oT ts,h2.get? a=some oe/\oe.cls=cls/\oe.dict=none/\oe.data=.fields vs/\vs[1]?=some (.ref T)/\h.get? T=none/\T≠a/\h2.get? T=some oT/\oT.data=.fields ts/\ts[3]?=some .none
def Cy (f:Array Value->Array Value)(o:Obj):(Obj.mapFields f o).dict=o.dict:=by unfold Obj.mapFields;split<;>rfl
def Fb (t:A.frames=some (env::outer))(G:s.heap.FunFrames base (env::outer))(O:env.frame=some L)(F:s.heap.get? a=some i)(r:i.dict=none)(p:i.data=.fields vs)(c:1<vs.size)
  (n:a∈as) (u:∀b∈frs (env::outer),b∈as) (h:∀h',Lft (frs (env::outer)) as s.heap h' a i.cls->Q () { s with heap:=h' }) :
  wpAny M A (do let x <- frameOf env;let pl <- entryPlaceOf L hadNext;let b <- EntryCells.newEntry head x .none (rawInt L) .none pl;setField (.ref a) 1 b) (λ_ s'=>wpAny M A (setFlight (.ref a) none) Q E s') E s:=by
 have g:a∉frs (env::outer):=λz=>by obtain⟨_,o,e,d⟩:=G.mem z;rw[F]at e;cases e;exact d vs p
 refine aH (wpAny_frameOf_fun t G O λh1 j=>aH (wpAny_entryPlaceOf λpl v=>?_));unfold EntryCells.newEntry newFields;refine aH (wpAny_newObj_type ?_ (v.sizeOk5 _ _ _ _ _));have B:h1.get? a=some i:=(j.2.1 a g).trans F;have y:h1.objs.size≠a:=dP (az B);generalize w:([head,Value.ref L,Value.none,rawInt L,Value.none]++(if pl.isEmpty then List.replicate 6 Value.none else pl)).toArray=ts;have l:3<ts.size:=by rw[<- w];simp
 have C:=ay (h:=h1) { cls:=.type "traceback",dict:=none,data:=.fields ts } B;have P:=a8 h1 (o:={ cls:=.type "traceback",dict:=none,data:=.fields ts }) rfl;refine wpAny_setField C p c ?_;have m:=fh p (·.setIfInBounds 1 (Value.ref h1.objs.size));have D:=dQ (Obj.mapFields (·.setIfInBounds 1 (Value.ref h1.objs.size))) C (fI m);have J:=(bW (h1.push { cls:=.type "traceback",dict:=none,data:=.fields ts }) (Obj.mapFields (·.setIfInBounds 1 (Value.ref h1.objs.size))) (cw y)).trans P;refine wpAny_setFlight_none (vs:=vs.setIfInBounds 1 (.ref h1.objs.size)) D m (by simp[c]) J rfl l (h _ ⟨λb o q H=>?_,λb o q N=>?_,?_⟩)
 .have f:h1.get? b=some o:=(j.2.1 b λz=>H (u b z)).trans q;have k:b≠a:=λz=>H (z ▸ n);rw[bW _ _ (dP (az f)),bW _ _ (cw k)];exact ay _ f
 .obtain⟨I,f⟩:=j.2.2 b o N;have k:b≠a:=λz=>g (z ▸ q);refine⟨I,?_⟩;rw[bW _ _ (dP (az f)),bW _ _ (cw k)];exact ay _ f
 .refine⟨_,_,h1.objs.size,_,_,(bW _ _ y).trans D,Obj.cls_mapFields _ _,?_,m,by simp[c],?_,y,dQ _ J (fI (fh rfl _)),fh rfl _,by simp[l]⟩
  .rw[Cy];exact r
  .cases q:s.heap.get? h1.objs.size with
   |none=>rfl
   |some o=>obtain⟨I,f⟩:=j.2.2 _ o q;exact absurd (az f) (c9 _)
def LC (e:A.frames=some (env::outer))(k:s.heap.FunFrames base (env::outer))(j:env.frame=some L)(i:s.heap.get? a=some o)(d:o.dict=none)(g:o.data=.fields vs)(h1:vs[1]?=some .none)
  (c:a∈as) (f:∀b∈frs (env::outer),b∈as) (h:∀h',Lft (frs (env::outer)) as s.heap h' a o.cls->Q () { s with heap:=h' }) :
  wpAny M A (noteFrame (.ref a) env) (λ_ s'=>wpAny M A (setFlight (.ref a) none) Q E s') E s:=by
 unfold noteFrame;simp only[j];refine aH (wpAny_field i g h1 ?_);rw[ae (by decide)];exact Fb e k j i d g (d8.mp h1).1 c f h
def QW (p:A.frames=some (env::outer))(J:s.heap.FunFrames base (env::outer))(I:env.frame=some L)(H:s.heap.get? a=some v)(n:v.dict=none)(G:v.data=.fields vs)(h1:vs[1]?=some (.ref T))
  (l:T≠a) (i:s.heap.get? T=some oT) (c:oT.data=.fields ts) (F:ts[3]?=some .none)
  (m:a∈as) (k:T∈as) (r:∀b∈frs (env::outer),b∈as) (h:∀h',Lft (frs (env::outer)) as s.heap h' a v.cls->Q () { s with heap:=h' }) :
  wpAny M A (noteFrame (.ref a) env) (λ_ s'=>wpAny M A (setFlight (.ref a) none) Q E s') E s:=by
 unfold noteFrame;simp only[I];refine aH (wpAny_field H G h1 ?_);rw[af (show(Value.ref T != Value.none)=true from by simp)];refine aH (wpAny_field i c F ?_);rw[ae (show ¬((Value.none == rawInt L)=true) from by simp[rawInt])];refine aH (wpAny_setField i c (d8.mp F).1 ?_);have O:T∉frs (env::outer):=λz=>by obtain⟨_,o,e,d⟩:=J.mem z;rw[i]at e;cases e;exact d ts c
 have f:∀b,b≠T->(s.heap.update T (Obj.mapFields (·.setIfInBounds 3 Value.none))).get? b=s.heap.get? b:=λb j=>bW _ _ (cw j);have g:=dQ (Obj.mapFields (·.setIfInBounds 3 Value.none)) i (fI (fh c _));refine Fb p (J.of_keeps λb o j t=>⟨o,(f b (λz=>by rw[z,i]at j;cases j;exact t ts c)).trans j,rfl⟩) I ((f a (cw l)).trans H) n G (d8.mp h1).1 m r λh' q=>h h' ⟨λb o e N=>?_,λb o z e=>?_,?_⟩
 .exact q.keep b o ((f b λz=>N (z ▸ k)).trans e) N
 .exact q.slot b o z ((f b λy=>O (y ▸ z)).trans e)
 .obtain⟨w,B,D,u,x,P,R,S,U,Y,C,Z⟩:=q.ex;refine⟨w,B,D,u,x,P,R,S,U,Y,?_,Z⟩;rw[<- f D (λz=>by rw[z,g]at C;cases C)];exact C
structure Fly (h0:Heap)(H:Hp)(h:Heap)(a:Addr)(cls:Value):Prop where
 ex:∃oe vs T oT ts,h.get? a=some oe/\oe.cls=cls/\oe.dict=none/\oe.data=.fields vs/\vs[1]?=some (.ref T)/\T≠a/\h.get? T=some oT/\oT.data=.fields ts/\ts[3]?=some .none/\H T=none/\h0.get? T=none
 un:H a=none
 new:h0.get? a=none
def Oq (P:Program)(w:World):CXT:=λo H s E e b=>∃a cls h,e=.ref a/\b.os=s.os/\AllBare b.gens/\Un (frs o) [] H h s.heap b.heap/\HOk P w h b.heap/\Fly s.heap h b.heap a cls/\E cls none h
section
variable {s s':Shared}
def uF {base h h':Heap}:∀{l:List Env},h.FunFrames base l->(∀b∈frs l,∀o,h.get? b=some o->∃c,h'.get? b=some { o with slots:=c })->h'.FunFrames base l
 |[],_,_=>tJ
 |ev::r,hl,k=>by
  obtain⟨g,⟨L,o,a,i,j,f⟩,m⟩:=hl;have e:frs (ev::r)=L::frs r:=by unfold frs;rw[bA,a]
  obtain⟨c,q⟩:=k L (by rw[e];exact ah) o j;exact⟨g,⟨L,_,a,i,q,f⟩,uF m λb d=>k b (by rw[e];exact ad _ d)⟩
def Inv.M9 (I:Inv X p c H s)(u:Un (frs X.stack) [] H a s.heap s'.heap):s'.heap.FunFrames X.base X.stack:=
 uF I.stack λb h o e=>u.slot b o e (I.stkFree b h) h (by simp)
def Gg (I:Inv X Y σ H1 s)(P:X.stack=X.env::X.outer)(N:X.env.frame=some X.env.locals)(M:X.ex=[])(ho:s'.os=s.os)(hb:AllBare s'.gens)
  (u:Un (frs X.stack) [] H1 H s.heap s'.heap) (D:HOk X.prog X.w H s'.heap) (y:∀b∈as,b∈frs X.stack\/(H b=none/\s.heap.get? b=none)) (hfs:∀b∈frs X.stack,b∈as) (haa:a∈as) (C:H a=none/\s.heap.get? a=none)
  (L:Lft (frs X.stack) as s'.heap h2 a cls) (hE:E cls none H):Oq X.prog X.w X.outer X.H₀ X.s₀ E (.ref a) { s' with heap:=h2 }:=by
 have p:frs X.stack=X.env.locals::frs X.outer:=by rw[P];unfold frs;rw[bA,N]
 have d:∀b:Addr,b∉X.ex:=λb=>by rw[M];simp
 have FF:=I.M9 u;have k:=L.keep;have g:=L.slot;have r:∀b o,X.s₀.heap.get? b=some o->b≠X.env.locals:=λb o e=>bh (aF (az e) I.ok.above);have out:∀b o,s.heap.get? b=some o->b∈as->b∈frs X.stack:=λb o e z=>by
  rcases y b z with q|⟨_,q⟩
  .exact q
  .rw[e]at q;cases q
 have i:∀b o,X.s₀.heap.get? b=some o->∃o',s.heap.get? b=some o':=λb o e=>I.base.there b o e (d b);obtain⟨oe,vs,T,oT,ts,he,A,J,hd,h1,O,G,U,B,h3⟩:=L.ex;have x:T∈as\/s'.heap.get? T=none:=.inr O;have h:∀b∈as,H b=none:=λb z=>by
  rcases y b z with q|⟨q,_⟩
  .obtain⟨_,o,e,_⟩:=I.stack.mem q;exact u.free b o e (I.stkFree b q) (by simp)
  .exact q
 refine⟨a,cls,H,rfl,ho.trans I.os,hb,⟨λb o e n l _=>?_,λb o e n l _=>?_,λb o e n _=>?_,λb o e _=>?_,λb Z e=>u.tups b Z (I.base.tups b Z e),λb o v e=>u.frzs b o v (I.base.frzs b o v e),λb ps e=>?_⟩,λb o e=>?_,⟨⟨oe,vs,T,oT,ts,he,A,J,hd,h1,G,U,B,h3,?_,?_⟩,C.1,?_⟩,hE⟩
 .have f:=I.base.keep b o e n l (d b);have Q:=I.base.free b o e n (d b);have w:b∉frs X.stack:=λz=>by rw[p]at z;exact(aG.mp z).elim (r b o e) l
  exact k b o (u.keep b o f Q w (by simp)) λz=>w (out b o f z)
 .obtain⟨sl1,f⟩:=I.base.slot b o e n l (d b);have Q:=I.base.free b o e n (d b);have w:b∈frs X.stack:=by rw[p];exact ad _ l
  obtain⟨sl2,j⟩:=u.slot b _ f Q w (by simp);obtain⟨R,t⟩:=g b _ w j;exact⟨R,t⟩
 .obtain⟨m,f⟩:=i b o e;exact u.free b m f (I.base.free b o e n (d b)) (by simp)
 .obtain⟨m,f⟩:=i b o e;obtain⟨o2,j⟩:=u.there b m f (by simp);by_cases z:b∈as
  .obtain⟨sl,t⟩:=g b o2 (out b m f z) j;exact⟨_,t⟩
  .exact⟨o2,k b o2 j z⟩
 .obtain⟨m1,f⟩:=I.base.tbls b ps e;obtain⟨m2,j⟩:=u.tbls b _ f;exact⟨m1++m2,by rw[j,zT.append_assoc]⟩
 .refine(D b o e).stay (λc v F q=>k c v q λz=>?_) (λ_ q=>q) λ_ _ q=>q;have:=h c z;rcases F with rfl|F
  .rw[this]at e;cases e
  .rw[this]at F;cases F
 .rcases x with z|z
  .exact h T z
  .cases q:H T with
   |none=>rfl
   |some v=>obtain⟨ob,e⟩:=(D T v q).get;rw[z]at e;cases e
 .cases q:X.s₀.heap.get? T with
  |none=>rfl
  |some o=>
   obtain⟨m,f⟩:=i T o q;obtain⟨o2,j⟩:=u.there T m f (by simp);rcases x with z|z
   .obtain⟨sl,t⟩:=g T o2 (out T m f z) j;obtain⟨_,o4,S,d4⟩:=FF.mem (out T m f z);rw[j]at S;cases S;rw[U]at t;cases t;exact absurd B (d4 ts)
   .rw[z]at j;cases j
 .cases q:X.s₀.heap.get? a with
  |none=>rfl
  |some o=>obtain⟨m,f⟩:=i a o q;rw[C.2]at f;cases f
def leave_new (I:Inv X p x j s)(h:X.stack=X.env::X.outer)(c:X.env.frame=some X.env.locals)(f:X.ex=[])(w:s'.os=s.os)(n:AllBare s'.gens)
  (u:Un (frs X.stack) [] j H s.heap s'.heap) (g:HOk X.prog X.w H s'.heap) (d:H a=none/\s.heap.get? a=none) (v:s'.heap.get? a=some o) (r:o.cls=cls) (e:o.dict=none) (t:o.data=.fields vs) (h1:vs[1]?=some .none) (l:E cls none H)
  (m:∀i,Oq X.prog X.w X.outer X.H₀ X.s₀ E (.ref a) i->Q () i):wpAny M X.A (leaving X.env (.ref a)) Q E' s':=by
 subst r;have k:X.A.frames=some (X.env::X.outer):=by rw[<- h];exact I.ok.frames
 have F:=I.M9 u;refine aH (LC (as:=a::frs X.stack) k (by rw[<- h];exact F) c v e t h1 ah (λb z=>ad _ (by rw[h];exact z)) λh2 L=>m _ ?_);rw[<- h]at L;exact Gg I h c f w n u g (λb z=>(aG.mp z).elim (λq=>.inr (by rw[q];exact d)) .inl) (λb z=>ad _ z) ah d L l
def Vs (I:Inv X p N o s)(h:X.stack=X.env::X.outer)(d:X.env.frame=some X.env.locals)(j:X.ex=[])(C:s'.os=s.os)(y:AllBare s'.gens)
  (u:Un (frs X.stack) [] o H s.heap s'.heap) (k:HOk X.prog X.w H s'.heap) (F:Fly s.heap H s'.heap a cls) (v:E cls none H)
  (w:∀m,Oq X.prog X.w X.outer X.H₀ X.s₀ E (.ref a) m->Q () m):wpAny M X.A (leaving X.env (.ref a)) Q E' s':=by
 obtain⟨G,J,T,D,ts,B,c,i,A,h1,f,x,g,r,e,l⟩:=F.ex;subst c;have t:X.A.frames=some (X.env::X.outer):=by rw[<- h];exact I.ok.frames
 have n:=I.M9 u;refine aH (QW (as:=a::T::frs X.stack) t (by rw[<- h];exact n) d B i A h1 f x g r ah (ad _ ah) (λb z=>ad _ (ad _ (by rw[h];exact z))) λh2 L=>w _ ?_);rw[<- h]at L;refine Gg I h d j C y u k (λb z=>?_) (λb z=>ad _ (ad _ z)) ah ⟨F.un,F.new⟩ L v;rcases aG.mp z with q|z
 .exact .inr (by rw[q];exact⟨F.un,F.new⟩)
 .rcases aG.mp z with q|z
  .exact .inr (by rw[q];exact⟨e,l⟩)
  .exact .inl z
end
def abB {P:Program}{w:World}{K:Fg}{mg:Mg}{base:Heap}{N:Ls}{b:Str}{scope:Scope}{f:Addr}{g:Value}{A:Around}{outer:List Env}{s:Shared}{H:Hp}{E:XK} :
  Passes (Oq P w) (cxOf (Oq P w) P w K mg base N b scope f g A outer s H E) E:=λp t n r e o I h=>by
 obtain⟨a,cls,m,rfl,l,k,u,c,F,j⟩:=h;exact Vs I rfl rfl rfl l k u c F j (M:=model P w) (E':=λi d=>Oq P w outer H s E i d) λd q=>q
def Jb.facts {K:Fg}{h:Heap}{C:Addr}(X:K.In h)(q:Jb K C):∃nm g N bs bm a sn sub ab col dd k0 k1 k2 k3 k5 mN,
  h.get? C=some (excClassObj nm g C N bs bm a sn sub ab col dd k0 k1 k2 k3 k5 "ValueError.__new__")/\h.Ns N mN/\mN "__init__"=none/\OwnTail h bmV bm:=by
 unfold Jb W.excIn at q;split at q
 .rename_i d c s f;split at q
  .rename_i A b n o p r D t k m;simp only[eO,jd,Bool.not_eq_true']at q;obtain⟨⟨⟨⟨⟨v,w⟩,i⟩,x⟩,e⟩,j⟩:=q;subst v w;obtain⟨nm,bs,B,z,g,a,sn,sub,ab,col,u⟩:=c;dsimp only at k i e j;subst k i;have y:s = #[n,o,p,r,some (.builtin "ValueError.__new__"),t]:=by obtain⟨l⟩:=s;simp only at m;rw[m]
   subst y;exact⟨nm,g,z,bs,b,a,sn,sub,ab,col,d,n,o,p,r,t,_,X _ _ f,.of_isNs (W.isNs_of_in X e),W.nsMap_none_of_in X e j,W.tail_of_in X x⟩
  .cases q
 .cases q
def T5 (X:Cx)(E:XK):Prop:=∀(p:List (Addr×Obj)) (σ:St) (H:Hp) (s:Shared) (a:Addr) (cls:Value) (vs:List Value) (h':Heap),Inv X p σ H s->Heap.MadeExcOf s.heap h' a cls vs->E cls none H->X.xe (.ref a) { s with heap:=h' }
def Inv.untracked (I:Inv X p b H s)(h:s.heap.get? a=none):H a=none:=by
 cases q:H a with
 |none=>rfl
 |some o=>obtain⟨ob,e⟩:=(I.hok a o q).get;rw[h]at e;cases e
def ac7 {P:Program}{w:World}{K:Fg}{mg:Mg}{base:Heap}{N:Ls}{b:Str}{scope:Scope}{f:Addr}{d:Value}{A:Around}{outer:List Env}{s:Shared}{H:Hp}{E:XK} :
  T5 (cxOf (Oq P w) P w K mg base N b scope f d A outer s H E) E:=λp m l k a cls v i I h j=>by
 obtain⟨t,e,_⟩:=h.there;exact leave_new (s':={ k with heap:=i }) I rfl rfl rfl rfl I.bare (Un.kept h.keeps) (I.hok.kept h.keeps) ⟨I.untracked h.new,h.new⟩ e rfl rfl rfl rfl j (M:=model P w) (E':=λg c=>Oq P w outer H s E g c) λc q=>q
def aaZ (C:Addr)(E:XK)(t:TA):TS:=λ_ a H=>t a H λ_ h=>E (.ref C) none h
def S7 {X:Cx}{E:XK}{x:Str}{O c pos:Pos}{e:Expr}{b:List Expr}{C:Addr}{t:TA}(J:T5 X E)(y:X.calm=true)(q:Jb X.K C)(B:Gl X x)(G:X.mg x=some (.ref C))(w:PA X (e::b) t)(L:(e::b).length<=1000:=by decide)
  (j:(x == ("__debug__":Str))=false:=by decide) (A:starEach (e::b) X.env=(false,eval e X.env)::starEach b X.env:=by rfl) (n:(backTo c (starEach (e::b) X.env)).any (·.1)=false:=by rfl)
  (F:∀f H Q,t f H Q->t f H λvs g=>vs.length=(e::b).length/\Q vs g):PS X (.Raise (some (.Call (.Name x O) (e::b) [] c)) none pos) (aaZ C E t):=by
 intro p s f H D I h;obtain⟨nm,R,N,bs,bm,z,sn,sub,ab,col,dd,k0,k1,k2,k3,k5,mN,v,m,l,o⟩:=q.facts I.ok.mod.kin;have d:bm.contains (.type "BaseException")=true:=o.hasType (by decide +kernel);refine wpAny_Raise_call_subU (nm:=nm) (q:=R) (C:=C) (N:=N) (bs:=bs) (bm:=bm) (hdct:=z) (sn:=sn) (sub:=sub) (ab:=ab) (col:=col) (dd:=dd) (k0:=k0) (k1:=k1) (k2:=k2) (k3:=k3) (k5:=k5) (mN:=mN)
  gu (by decide +kernel) gu d (I.ok.hd y) n l (ld_glob I B G ⟨rfl,?_⟩ j)
 have ev:wpAny (model X.prog X.w) X.A (spliced (backTo c (starEach (e::b) X.env))) (AP X p f λvs g=>vs.length=(e::b).length/\E (.ref C) none g) X.xe s:=w c p s f H _ I (F f H _ h);rw[A]at ev ⊢;refine Calls.evalArgs_plain (thn ev λT S ⟨vs,g,i,r,M,P⟩=>⟨rfl,?_,?_⟩)
 .rw[<- r.length,M];exact bI (small1000 L)
 .exact⟨i.bk _ _ v,m.keeps i.bk,o.keeps i.bk,λu a k=>J p f g S a (.ref C) _ u i k P⟩
section
variable {X:Cx}{CX:CXT}{k:Nat}{f C:Addr}{g:FuncData}{P:List Str}{sp:Sp}{d:List V}{D:List Value}{E:XK}{x m:Str}{p pos a:Pos}{e o:Expr}{b:List Expr}{T:TE}{t:TA}
def YS (A:Gl X x)(B:X.mg x=some (.ref C))(c:Qs X.K C m f)(F:FnOk X.prog X.w X.K X.mg X.base CX k f g P sp)(G:Room k X.A)(y:Binds X.K g P D)(z:Vals d D)(L:Passes CX X E)(w:PA X (e::b) t)
  (j:(x == ("__debug__":Str))=false:=by decide) (n:starEach (e::b) X.env=(false,eval e X.env)::starEach b X.env:=by rfl) (l:(backTo pos (starEach b X.env)).any (·.1)=false:=by rfl)
  (J:eval (.Call (.Attribute (.Name x p) m a) (e::b) [] pos) X.env=(do
   let ov <- eval (.Name x p) X.env
   standAt a.atName
   let (f,first) <- holding [ov] (getMethod ov m pl)
   callWith pos f first (backTo pos (starEach (e::b) X.env)) (backToKw pos (keywordEach [] X.env))):=by rfl):PE X (.Call (.Attribute (.Name x p) m a) (e::b) [] pos) (tCall sp d E t):=by
 intro i s M H Q I h;refine ii (pl:=pl) (ld_glob I A B ?_ j) J;refine W.method_cls I.kIn c.ga (W.cls_value I.kIn c.rd c.fc rfl ?_);have v:=I.tok (s.toks+1);refine dH (first:=[]) (h₀:=X.base) I.ok.mod.kin c.kp (thn (w pos i _ M H _ v h) λR O ⟨S,N,u,r,q⟩=>⟨u.kIn,?_⟩) n l
 exact run_fn F G y z L u r q
end
structure OkM (P:Program)(w:World)(K:Fg)(mg:Mg)(base:Heap)(CX:CXT)(k:Nat)(C:Addr)(m:Str)(ps:List Str)(sp:Sp):Prop where
 ex:∃f fd,FnOk P w K mg base CX k f fd ps sp/\Binds K fd ps []/\Meth K C m f/\Cls K C
def ac3 (k:Hp->Addr->Int->Prop)(a:Addr)(z:Int)(n:Nat)(pre:Int->List Int->Prop)(F:Int->List Int->Int):Sp:=λv H Q _=>∃b:List Int,b.length=n/\v=.ref a::b.map V.int/\k H a z/\pre z b/\Q (.int (F z b)) H
structure KM (P:Program)(w:World)(K:Fg)(mg:Mg)(base:Heap)(k:Nat)(KA:Hp->Addr->Int->Prop)(m:Str)(n:Nat)(pre:Int->List Int->Prop)(F:Int->List Int->Int):Prop where
 ex:∀H a z,KA H a z->∃C dx fs ps,H a=some (.ins C dx fs)/\fs.lookup m=none/\OkM P w K mg base CX0 k C m ps (ac3 KA a z n pre F)
structure OkC (P:Program)(w:World)(K:Fg)(mg:Mg)(base:Heap)(CX:CXT)(k:Nat)(x:Str)(C:Addr)(m:Str)(ps:List Str)(sp:Sp):Prop where
 ex:∃f fd,FnOk P w K mg base CX k f fd ps sp/\Binds K fd ps []/\Qs K C m f/\mg x=some (.ref C)
structure OkI (P:Program)(w:World)(K:Fg)(mg:Mg)(base:Heap)(CX:CXT)(k:Nat)(x:Str)(C:Addr)(ps:List Str)(sp:Sp):Prop where
 ex:∃f fd,FnOk P w K mg base CX k f fd ps sp/\Binds K fd ps []/\Mk K C f/\mg x=some (.ref C)
def Xx (o:OkC X.prog X.w X.K X.mg X.base CX j x C m w sp)(r:Room k X.A)(u:Passes CX X E)(l:PA X (e::d) t)(q:j<=k:=by decide)(n:Gl X x:=by rfl)
  (h:(x == ("__debug__":Str))=false:=by decide) (i:starEach (e::d) X.env=(false,eval e X.env)::starEach d X.env:=by rfl) (g:(backTo pos (starEach d X.env)).any (·.1)=false:=by rfl)
  (s:eval (.Call (.Attribute (.Name x p) m a) (e::d) [] pos) X.env=(do
   let ov <- eval (.Name x p) X.env
   standAt a.atName
   let (f,first) <- holding [ov] (getMethod ov m pl)
   callWith pos f first (backTo pos (starEach (e::d) X.env)) (backToKw pos (keywordEach [] X.env))):=by rfl):PE X (.Call (.Attribute (.Name x p) m a) (e::d) [] pos) (tCall sp [] E t):=by
 obtain⟨f,v,F,b,c,mm⟩:=o.ex;exact YS n mm c (F.mono q) r b .nil u l h i g s
def Tv (o:OkI X.prog X.w X.K X.mg X.base CX j x C s sp)(n:Room k X.A)(q:Passes CX X E)(g:PA X (e::a) t)(m:j+1<=k:=by decide)(l:Gl X x:=by rfl)(h:(x == ("__debug__":Str))=false:=by decide)
  (i:starEach (e::a) X.env=(false,eval e X.env)::starEach a X.env:=by rfl) (d:(backTo pos (starEach a X.env)).any (·.1)=false:=by rfl):PE X (.Call (.Name x p) (e::a) [] pos) (tMake C sp [] E t):=by
 obtain⟨f,r,F,b,c,mm⟩:=o.ex;exact pe_make c F (n.mono m) l mm b .nil q g h i d
def spS (K:Fg)(n:Nat)(pre:List Int->List Int->Prop)(F:List Int->List Int->Int):Sp:=λv H Q _=>∃(a:Addr) (x i:List Int),i.length=n/\v=.ref a::i.map V.int/\SqL K H a (x.map V.int)/\pre x i/\Q (.int (F x i)) H
def Df:List Str:=["plain","plus","less","times","over"]
def KAt (d b c:Addr)(H:Hp)(a:Addr)(z:Int):Prop:=∃C e fs,H a=some (.ins C e fs)/\((C=d/\z=0)\/((C=b\/C=c)/\0<z))/\fs.lookup ("size":Str)=some (.int z)/\∀m∈Df,fs.lookup m=none
def pl (z n:Int):Int:=if z=0 then n else n % z
def lJ (h:0<z):pl z n=n % z:=by unfold pl;rw[ae (by lia)]
def Inv.vD {ch:List Addr}{t':Nat}(I:Inv X p t H s)(a:∀b∈ch,FpOk X p H b)(k:∀b o,b∉ch->s.heap.get? b=some o->h'.get? b=some o):Inv X p t H { s with heap:=h',toks:=t' }:=by
 have d:∀b u,H b=some u->b∉ch:=λb u e z=>by rw[(a b z).1]at e;cases e
 refine I.step (g':=s.gens) (d':=s.drawn) (ch:=ch) (λb f=>⟨(a b f).2.2.2.1,(a b f).2.1,(a b f).2.2.2.2.1,(a b f).2.2.2.2.2⟩) (λb o _ _ h e _=>k b o h e) (λb o _ _ h e _=>⟨o.slots,k b o h e⟩) (λ_ _ _ _ n=>n)
  (λb o h e=>⟨o,k b o h e⟩) (λ_ _ e=>e) (λ_ _ _ e=>e) (λb w e=>⟨#[],by rw[e];simp⟩) (λm j=>?_) (λb u e=>?_) I.bare
 .obtain⟨o,i,g,l,r⟩:=j;exact⟨o,i,g,k _ o (λz=>(a _ z).2.1 rfl) l,r⟩
 .refine(I.hok b u e).stay (λc v h q=>k c v ?_ q) (λ_ q=>q) λ_ _ q=>q;rcases h with z|z
  .rw[z];exact d b u e
  .exact d c _ z
def Inv.track (I:Inv X a B H s)(f:FpOk X a H T)(new:ObjOk X.prog X.w (upd H T o) s.heap T o):Inv X a B (upd H T o) s:=by
 obtain⟨l,r,C,t,v,w⟩:=f;have ne:∀{b:Addr} {u:HO},H b=some u->b≠T:=λe=>ne_of_none e l;refine⟨I.ok,I.os,I.bare,⟨I.base.keep,I.base.slot,λb ob e n x=>?_,I.base.there,λb g e=>?_,λb ob u e=>?_,λb A e=>?_⟩,I.loc,I.cell,by rw[upd_ne (cw r)];exact I.free,λx c e=>?_,λp h=>?_,λb u e=>?_,I.len⟩
 .have y:b≠T:=λz=>by
   subst z;rcases t with z|z
   .exact x z
   .exact absurd (aF (az e) z) (c9 _)
  rw[upd_ne y];exact I.base.free b ob e n x
 .have q:=I.base.tups b g e;rw[upd_ne (ne q)];exact q
 .have q:=I.base.frzs b ob u e;rw[upd_ne (ne q)];exact q
 .obtain⟨m,q⟩:=I.base.tbls b A e;exact⟨m,by rw[upd_ne (ne q)];exact q⟩
 .rw[upd_ne (v x c e)];exact I.freeC x c e
 .obtain⟨i,j,k⟩:=I.pin p h;exact⟨i,by rw[upd_ne (w p h)];exact j,k⟩
 .by_cases c:b=T
  .subst c;rw[upd_same]at e;cases e;exact new
  .rw[upd_ne c]at e;exact(I.hok b u e).stay (λ_ _ _ q=>q) (λd q=>by rw[upd_ne (ne q)];exact q) (λd g q=>by rw[upd_ne (ne q)];exact q) λd _ _ q=>by rw[upd_ne (ne q)];exact q
def Ite (K:Fg)(a:Addr):It:=
 ⟨λi H=>∃b x,SqL K H a b/\b[i]?=some x,λi H v h=>∃T y,v=.ref T/\H T=none/\h=upd H T (.tup [.int i,y])/\∀b,SqL K H a b->b[i]?=some y,λi H=>∃b,SqL K H a b/\b.length<=i⟩
def Rg {P:Program}{w:World}{K:Fg}{F:List Expr}{kk:Nat}{tp:Pos}(a e l:Addr)(B:e≠l):Turn P w K (.Tuple F kk tp) (Ite K a) [e,l] e (λi h=>(∃c,IsEnum h e l i c)/\h.IsListIter l a i) where
 mem:=by simp
 obj:=λi h m b d=>by
  obtain⟨⟨c,j⟩,o,N,_,hd⟩:=m;rcases aG.mp d with rfl|d
  .exact⟨_,j,λv z=>by cases z⟩
  .have q:b=l:=by simpa using d
   subst q;exact⟨o,N,λv z=>by rw[hd]at z;cases z⟩
 keep:=λi h h' m k=>by obtain⟨⟨c,j⟩,f⟩:=m;exact⟨⟨c,k e (by simp) _ j⟩,f.at λo q=>k l (by simp) o q⟩
 item:=by
  intro X J O G hc i g s σ H E I C m M;subst J O G;obtain⟨xs,x,D,R⟩:=M;obtain⟨⟨c,j⟩,f⟩:=m;obtain⟨S,T,p,hz⟩:=I.list D;obtain⟨u,hu,ru⟩:=T.get R;refine wpAny_pyNext_enum_item j f p.isList (x:=u) (by simpa using hu) B λh1 N y hT hsz hk=>⟨_,rfl,?_⟩;refine wpAny_letOwnedTupleGo_enum N λh2 L n=>?_;have U:s.heap.objs.size≠e:=dP (az j);have t:∀b o,b∉[e,l]->s.heap.get? b=some o->h2.get? b=some o:=λb o d q=>by have Y:b≠e:=λz=>d (by simp[z]);have b2:b≠l:=λz=>d (by simp[z]);exact(n.2 b Y).trans (hk b o Y b2 q)
  have I1:Inv X g σ H { s with heap:=h2,toks:=s.toks+1 }:=I.vD C t;have Z:FpOk X g H s.heap.objs.size:=I.fpOk (aj _) (I.hok.fresh (aj _));have I2:=I1.track (o:=.tup [.int i,x]) Z ⟨by show 2<=sizeLine;decide,[.int i s.toks,u],.cons ⟨_,rfl⟩ (.cons ru .nil),⟨_,(n.2 _ U).trans hT,rfl,_,rfl⟩⟩;refine⟨.ref s.heap.objs.size,_,I2,rfl,⟨_,x,rfl,Z.1,rfl,λys hy=>by rw[I.list_inj hy D];exact R⟩,⟨⟨_,by exact_mod_cast L⟩,?_⟩,λb d=>?_⟩
  .obtain⟨o,q,r⟩:=y;exact⟨o,(n.2 l (cw B)).trans q,r⟩
  .rw[upd_ne]
   .exact(C b d).1
   .rcases aG.mp d with rfl|d
    .exact cw U
    .have q:b=l:=by simpa using d
     subst q;obtain⟨o,q,_⟩:=f;exact bh (az q)
 done:=by intro X J O G hc i g s σ H E I C m M;subst J O G;obtain⟨xs,D,R⟩:=M;obtain⟨⟨c,j⟩,f⟩:=m;obtain⟨S,T,p,hz⟩:=I.list D;have hl:=T.length;exact wpAny_pyNext_enum_end (I.ok.hd hc) j f p.isList (by simp;lia) λh1 eb=>⟨rfl,I.vD C λb o d q=>eb b o (λz=>d (by simp[z])) q⟩
 self:=λA i s Q E m h=>by obtain⟨⟨c,j⟩,_⟩:=m;exact wpAny_pyIter_enum j h
def GR:bootBuiltins "enumerate"=some (.type "enumerate"):=by decide +kernel
def Kp:bootBuiltins "reversed"=some (.type "reversed"):=by decide +kernel
def S5 (K:Fg)(t:TA):TI:=λb H R=>t b H λv h=>∃a,v=[.ref a]/\(∃x,SqL K h a x)/\R (Ite K a) h
def Bb {X:Cx}{f:List Expr}{C:Nat}{J:Pos}{l:Expr}{t:TA}{p pos:Pos}(v:Gl X "enumerate")(x:X.mg "enumerate"=none)(r:PA X [l] t)(z:starEach [l] X.env=[(false,eval l X.env)]:=by rfl) :
  PI X (.Tuple f C J) (.Call (.Name "enumerate" p) [l] [] pos) (S5 X.K t):=by
 intro c s n H R I h;refine Call_ (ld_blt I v x GR (cf (thn (r pos c s n H _ I h) λN d ⟨O,k,i,F,E⟩=>?_) z rfl));obtain⟨a,rfl,⟨P,y⟩,q⟩:=E;obtain⟨u,rfl,G⟩:=vals1 F;cases G;obtain⟨B,M,D,L⟩:=i.list y;refine call_enumerate_list D.isList λh1 m j A w=>?_;refine wpAny_pyIter_enum m ?_;have o:Inv X c n k { d with heap:=h1 }:=i.kept (t':=d.toks) w;refine⟨_,[d.heap.objs.size+1,d.heap.objs.size],_,_,k,rfl,o,Rg a (d.heap.objs.size+1) d.heap.objs.size (Nat.succ_ne_self _),⟨⟨_,m⟩,j⟩,λb g=>?_,q⟩;rcases aG.mp g with rfl|g
 .exact i.fpOk (iT _) (i.hok.fresh (iT _))
 .have e:b=d.heap.objs.size:=by simpa using g
  subst e;exact i.fpOk (aj _) (i.hok.fresh (aj _))
def Itv (K:Fg)(a:Addr)(n:Nat):It:=
 ⟨λi H=>i<n/\∃b x,SqL K H a b/\b.length=n/\b[n-1-i]?=some x,λi H v h=>h=H/\∀b,SqL K H a b->b[n-1-i]?=some v,λi _=>i=n⟩
def Vo {P:Program}{w:World}{K:Fg}{tg:Expr}(a m:Addr)(n:Nat):Turn P w K tg (Itv K a n) [m] m (λi h=>h.IsRevIter m a ((n:Int)-1-i)) where
 mem:=by simp
 obj:=λi h f b j=>by
  have e:b=m:=by simpa using j
  subst e;obtain⟨o,R,_,O⟩:=f;exact⟨o,R,λv z=>by rw[O]at z;cases z⟩
 keep:=λi h h' f k=>f.at λo e=>k m (by simp) o e
 item:=by
  intro X y B t D i g s J H E I q f A;subst y B t;obtain⟨Q,xs,x,F,hn,G⟩:=A;obtain⟨U,Z,p,hz⟩:=I.list F;obtain⟨u,S,Y⟩:=Z.get G;have r:((n:Int)-1-(i:Nat))=((n-1-i:Nat):Int):=by lia
  have C:s.heap.IsRevIter m a ((n-1-i:Nat):Int):=by rw[<- r];exact f
  refine wpAny_pyNext_rev_item C p.isList (x:=u) (by simpa using S) λh1 l sb=>?_;have L:Inv X g J H { s with heap:=h1 }:=I.vD (t':=s.toks) q λb o j e=>(sb.2 b (λz=>j (by simp[z]))).trans e;obtain⟨o,e,c,d⟩:=id l;refine⟨u,rfl,go_of (s:={ s with heap:=h1 }) e c d (by decide) ⟨x,H,L,Y,⟨rfl,λys T=>by rw[I.list_inj T F];exact G⟩,?_,λb j=>(q b j).1⟩⟩;have M:((n-1-i:Nat):Int)-1=(n:Int)-1-((i+1:Nat):Int):=by lia
  rw[M]at l;exact l
 done:=by
  intro X y B t D i g s J H E I q f A;subst y B t;subst A;have r:((i:Nat):Int)-1-(i:Nat) = -1:=by lia
  rw[r]at f;exact wpAny_pyNext_rev_end (I.ok.hd D) f λh1 N=>⟨rfl,I.vD (t':=s.toks) q λb o j e=>N b o (λz=>j (by simp[z])) e⟩
 self:=λ_ _ _ _ _ f h=>wpAny_pyIter_revIter f h
def adi (K:Fg)(t:TA):TI:=λb H R=>t b H λv h=>∃a x,v=[.ref a]/\SqL K h a x/\R (Itv K a x.length) h
def aaa (t:Gl X "reversed")(v:X.mg "reversed"=none)(n:PA X [l] E)(y:starEach [l] X.env=[(false,eval l X.env)]:=by rfl) :
  PI X J (.Call (.Name "reversed" p) [l] [] pos) (adi X.K E):=by
 intro c s k H R I h;refine Call_ (ld_blt I t v Kp (cf (thn (n pos c s k H _ I h) λL d ⟨M,j,g,B,A⟩=>?_) y rfl));obtain⟨a,x,rfl,w,q⟩:=A;obtain⟨u,rfl,C⟩:=vals1 B;cases C;obtain⟨i,D,z,G⟩:=g.list w;have F:=D.length;have f:(d.heap.push (revObj a ((i.toArray.size:Int)-1))).IsRevIter d.heap.objs.size a ((i.toArray.size:Int)-1):=⟨_,a8 _ rfl,rfl,rfl⟩;refine call_reversed_list z.isList (wpAny_pyIter_revIter f ?_);have m:Inv X c k j { d with heap:=d.heap.push (revObj a ((i.toArray.size:Int)-1)) }:=g.kept (t':=d.toks) λb o e=>ay _ e;refine⟨_,[d.heap.objs.size],_,_,j,rfl,m,Vo a _ x.length,?_,λb r=>?_,q⟩
 .have e:((x.length:Int)-1-((0:Nat):Int))=(i.toArray.size:Int)-1:=by rw[aw];lia
  rw[e];exact f
 .have e:b=d.heap.objs.size:=by simpa using r
  subst e;exact g.fpOk (aj _) (g.hok.fresh (aj _))
def Jk {K:Fg}{a:Addr}{xs:List V}{g:TG}{t:TS}{D:Ends}{b:St}{H:Hp}(P:Nat->St->Hp->Prop)(h0:P 0 b H)(r:∀i b H,i<=xs.length->P i b H->SqL K H a xs)
  (s:∀i x b H T,xs[i]?=some x->P i b H->H T=none->g (.ref T) b (upd H T (.tup [.int i,x])) λd j=>t { D with nx:=P (i+1),ct:=P (i+1),bk:=D.nx } d j) (n:∀b H,P xs.length b H->D.nx b H) :
  ∃W:Nat->Nat->St->Hp->Prop,(∃m,W 0 m b H)/\∀i m b H,W i m b H ->
   ((Ite K a).stop i H/\D.nx b H)\/((Ite K a).go i H/\∃N:St->Hp->Prop,(∀c h,N c h -> ∃k,k<m/\W (i+1) k c h)/\∀x h,(Ite K a).yld i H x h -> g x b h λd j=>t { D with nx:=N,ct:=N,bk:=D.nx } d j):=by
 refine⟨λi m b H=>m=xs.length-i/\i<=xs.length/\P i b H,⟨xs.length,by simp,a9 _,h0⟩,?_⟩;rintro i m b H ⟨rfl,o,p⟩;have q:=r i b H o p;by_cases f:i<xs.length
 .refine .inr ⟨⟨xs,xs[i],q,by simp[f]⟩,P (i+1),λc h v=>⟨xs.length-(i+1),by lia,rfl,f,v⟩,λx h y=>?_⟩;obtain⟨T,z,rfl,l,rfl,u⟩:=y;exact s i z b H T (u xs q) p l
 .have e:i=xs.length:=by lia
  subst e;exact .inl ⟨⟨xs,q,aj _⟩,n b H p⟩
def W8 {K:Fg}{a:Addr}{xs:List V}{g:TG}{t:TS}{D:Ends}{b:St}{H:Hp}(P:Nat->St->Hp->Prop)(h0:P 0 b H)(o:∀i b H,i<=xs.length->P i b H->SqL K H a xs)
  (r:∀i x b H,i<xs.length->xs[xs.length-1-i]?=some x->P i b H->g x b H λf j=>t { D with nx:=P (i+1),ct:=P (i+1),bk:=D.nx } f j) (l:∀b H,P xs.length b H->D.nx b H) :
  ∃W:Nat->Nat->St->Hp->Prop,(∃m,W 0 m b H)/\∀i m b H,W i m b H ->
   ((Itv K a xs.length).stop i H/\D.nx b H)\/((Itv K a xs.length).go i H/\∃N:St->Hp->Prop,(∀d h,N d h -> ∃k,k<m/\W (i+1) k d h)/\∀x h,(Itv K a xs.length).yld i H x h -> g x b h λf j=>t { D with nx:=N,ct:=N,bk:=D.nx } f j):=by
 refine⟨λi m b H=>m=xs.length-i/\i<=xs.length/\P i b H,⟨xs.length,by simp,a9 _,h0⟩,?_⟩;rintro i m b H ⟨rfl,n,p⟩;have q:=o i b H n p;by_cases c:i<xs.length
 .refine .inr ⟨⟨c,xs,xs[xs.length-1-i],q,rfl,by rw[ac (by lia)]⟩,P (i+1),λd h u=>⟨xs.length-(i+1),by lia,rfl,c,u⟩,λx h y=>?_⟩;obtain⟨rfl,s⟩:=y;exact r i x b _ c (s xs q) p
 .have e:i=xs.length:=by lia
  subst e;exact .inl ⟨rfl,l b H p⟩
def int_at {ns:Li}{i:Nat}{x:V}(h:(ns.map V.int)[i]?=some x):∃n,x=.int n/\ns[i]?=some n:=by
 rw[aq]at h;cases e:ns[i]? with
 |none=>rw[e]at h;cases h
 |some n=>rw[e]at h;exact⟨n,(aE h).symm,rfl⟩
def V3 {ns:Li}{i:Nat}{n:Int}(h:ns[i]?=some n):n∈ns:=bE h
def Uh {a:Type}{ns:List a}{i:Nat}{n:a}(h:ns[i]?=some n):i<ns.length:=(ao.mp h).1
def pJ {a:Type}{ns:List a}{i:Nat}{n:a}(h:ns[i]?=some n):ns.take (i+1)=ns.take i++[n]:=by rw[gL,h];rfl
abbrev ul:TT:=λ_ H Q=>Q true H
end L2
namespace FM
open L2
def jR (n:Int):Prop:=2<=n/\n<=9973/\∀d:Int,2<=d->d*d<=n->¬n % d=0
open Classical in
def isP (n:Int):Bool:=decide (jR n)
open Classical in
def JQ (h:jR n):isP n=true:=by unfold isP;exact aK h
open Classical in
def Ft (h:¬jR n):isP n=false:=by unfold isP;exact aM h
open Classical in
def JD (n d:Int):Prop:=∀e:Int,2<=e->e<d->¬n % e=0
def JD.next (h:JD n d)(a:¬n % d=0):JD n (d+1):=λe h1 h2=>by
 by_cases c:e=d
 .rw[c];exact a
 .exact h e h1 (by lia)
def abU {d:Int}(h:2<=d):d<=d*d:=by have:=bB (show(1:Int)<=d by lia) (show(0:Int)<=d by lia);lia
def vH {d e:Int}(h0:0<=d)(h:d<=e):d*d<=e*e:=Int.mul_le_mul h h h0 (by lia)
def jR.out {n d:Int}(h:JD n d)(h2:2<=d)(l:2<=n)(a:n<=9973)(b:¬d*d<=n):jR n:=⟨l,a,λe h1 f=>by
 by_cases c:e<d
 .exact h e h1 c
 .have:=vH (d:=d) (e:=e) (by lia) (by lia);lia⟩
def abj:jR 2:=⟨by lia,by lia,λd h1 h2=>by have:=vH (d:=2) (e:=d) (by lia) h1;lia⟩
def F_P:List Int->Bool:=λa=>match a with
 |[n]=>isP n
 |_=>false
def yes:List Int->Prop:=λ_=>True
def qQ (z n:Int):pl z (pl z n)=pl z n:=by
 unfold pl;by_cases h:z=0
 .rw[af h,af h]
 .rw[ae h,ae h,eH _ (fJ z)]
def BR (z a b:Int):pl z (pl z a+b)=pl z (a+b):=by
 unfold pl;by_cases h:z=0
 .rw[af h,af h,af h]
 .rw[ae h,ae h,ae h,Int.emod_add_emod]
def Bg (z a b:Int):pl z (pl z a*b)=pl z (a*b):=by
 unfold pl;by_cases h:z=0
 .rw[af h,af h,af h]
 .rw[ae h,ae h,ae h,fM,eH _ (fJ z),<- fM]
def Aq (z a b:Int):pl z (a*pl z b)=pl z (a*b):=by rw[cg,Bg,cg]
def Oj (z a b:Int):pl z (a+pl z b)=pl z (a+b):=by rw[gB,BR,gB]
def BW (h:0<z):0<=pl z n/\pl z n<z:=by rw[lJ h];exact⟨bw _ (by lia),bc _ h⟩
def lq (xs:List Int):List Int:=(xs.reverse.dropWhile (· == 0)).reverse
def wO (xs:Li):lq (xs++[0])=lq xs:=by unfold lq;rw[iW];simp
def Bh (xs:Li)(h:x≠0):lq (xs++[x])=xs++[x]:=by unfold lq;rw[iW];simp[h]
def EY (xs:Li):(lq xs).length<=xs.length:=by unfold lq;have:=(List.dropWhile_sublist (· == 0) (l:=xs.reverse)).length_le;simpa using this
def ev:List Int->Int->Int
 |[],_=>0
 |n::r,x=>n+x*ev r x
def RZ (a:x.natAbs<=X)(b:1<=X):∀xs:List Int,(∀n∈xs,n.natAbs<=M)->(ev xs x).natAbs<=xs.length*M*X^xs.length
 |[],_=>by simp[ev]
 |n::r,h=>by
  have i:=RZ a b r λm c=>h m (ad _ c);have g:=h n ah;show(n+x*ev r x).natAbs<=(r.length+1)*M*X^(r.length+1);have h1:(n+x*ev r x).natAbs<=n.natAbs+(x*ev r x).natAbs:=Int.natAbs_add_le _ _;have h2:(x*ev r x).natAbs<=X*(r.length*M*X^r.length):=by rw[gH];exact fH a i
  have d:M<=M*X^(r.length+1):=Nat.le_mul_of_pos_right _ (du (by lia));have e:X*(r.length*M*X^r.length)=r.length*M*X^(r.length+1):=by rw[eZ,da X,gX]
  have f:(r.length+1)*M*X^(r.length+1)=r.length*M*X^(r.length+1)+M*X^(r.length+1):=by rw[Nat.add_mul,Nat.one_mul,Nat.add_mul]
  lia
def horner (z x n e:Int):pl z (pl z e*pl z x+n)=pl z (n+x*e):=by rw[<- BR z (pl z e*pl z x) n,Bg,Aq,BR,cg e x,gB]
end FM
namespace L3
open PySem PySem.Spec PyProof.Rows L2
inductive PV where
 |int (n:Int)|bl (b:Bool)|non|str (s:Str)|ints (ns:List Int)|scr (ns:List Int)|lst (xs:List PV)|tup (xs:List PV)|ob (k:Nat) (z:Int)|ty (n:String)|cls (a:Addr)
structure Gx where
 ob:Nat->Hp->Addr->Int->Prop
 mono:∀k H H' a z,Same H H' -> ob k H a z->ob k H' a z
mutual
def At (K:Fg)(G:Gx)(H:Hp):PV->V->Prop
 | .int n,v=>v=.int n
 | .bl b,v=>v=.bl b
 | .non,v=>v=.non
 | .str s,v=>v=.str s
 | .ints ns,v=>∃a,v=.ref a/\Rd H a (.lst (ns.map V.int))
 | .scr ns,v=>∃a,v=.ref a/\SqL K H a (ns.map V.int)
 | .lst xs,v=>∃a c,v=.ref a/\Rd H a (.lst c)/\mX K G H xs c
 | .tup xs,v=>∃a c,v=.ref a/\H a=some (.tup c)/\mX K G H xs c
 | .ob k z,v=>∃a,v=.ref a/\G.ob k H a z
 | .ty n,v=>v=.ty n
 | .cls a,v=>v=.ref a
def mX (K:Fg)(G:Gx)(H:Hp):List PV->List V->Prop
 |[],vs=>vs=[]
 |p::ps,vs=>∃v r,vs=v::r/\At K G H p v/\mX K G H ps r
end
def jF (e:Same H b)(h:Rd H a (.lst xs)):Rd b a (.lst xs):=by
 rcases h with h|⟨o,h⟩
 .exact .inl (e _ _ h)
 .exact .inr ⟨o,e _ _ h⟩
def ZC {K:Fg}{H:Hp}{a:Addr}{xs:List V}(h:Rd H a (.lst xs)):SqL K H a xs:=.inl h
def Uk {K:Fg}{H b:Hp}{a:Addr}{xs:List V}(e:Same H b)(h:SqT K H a xs):SqT K b a xs:=by
 rcases h with (h|⟨o,h⟩)|h
 .exact .inl (.inl (e _ _ h))
 .exact .inl (.inr ⟨o,e _ _ h⟩)
 .exact .inr h
mutual
def At.mono {K:Fg}{G:Gx}{H c:Hp}(s:Same H c):∀(p:PV) (v:V),At K G H p v->At K G c p v
 | .int _,_,h=>h
 | .bl _,_,h=>h
 | .non,_,h=>h
 | .str _,_,h=>h
 | .ints _,_,h=>by obtain⟨a,e,q⟩:=h;exact⟨a,e,jF s q⟩
 | .scr _,_,h=>by obtain⟨a,e,q⟩:=h;exact⟨a,e,s.seq q⟩
 | .lst xs,_,h=>by obtain⟨a,b,e,q,r⟩:=h;exact⟨a,b,e,jF s q,mX.mono s xs b r⟩
 | .tup xs,_,h=>by obtain⟨a,b,e,q,r⟩:=h;exact⟨a,b,e,s _ _ q,mX.mono s xs b r⟩
 | .ob _ _,_,h=>by obtain⟨a,e,q⟩:=h;exact⟨a,e,G.mono _ _ _ _ _ s q⟩
 | .ty _,_,h=>h
 | .cls _,_,h=>h
def mX.mono {K:Fg}{G:Gx}{H b:Hp}(s:Same H b):∀(a:List PV) (vs:List V),mX K G H a vs->mX K G b a vs
 |[],_,h=>h
 |p::a,_,h=>by obtain⟨v,r,e,q,t⟩:=h;exact⟨v,r,e,At.mono s p v q,mX.mono s a r t⟩
end
def mX.length {K:Fg}{G:Gx}{H:Hp}:∀{a:List PV} {vs:List V},mX K G H a vs->a.length=vs.length
 |[],_,h=>by cases h;rfl
 |p::a,_,h=>by obtain⟨v,r,rfl,_,t⟩:=h;rw[aR,aR,mX.length t]
def mX.get {K:Fg}{G:Gx}{H:Hp}:∀{a:List PV} {vs:List V} {i:Nat} {v:V},mX K G H a vs->vs[i]?=some v->∃p,a[i]?=some p/\At K G H p v
 |[],_,i,v,h,e=>by cases h;simp at e
 |p::a,_,0,v,h,e=>by obtain⟨w,r,rfl,q,t⟩:=h;simp at e;subst e;exact⟨p,rfl,q⟩
 |p::a,_,i+1,v,h,e=>by obtain⟨w,r,rfl,q,t⟩:=h;obtain⟨c,b,d⟩:=mX.get (i:=i) (v:=v) t (by simpa using e);exact⟨c,by simpa using b,d⟩
def mX.at {K:Fg}{G:Gx}{H:Hp}:∀{a:List PV} {vs:List V} {i:Nat} {p:PV},mX K G H a vs->a[i]?=some p->∃v,vs[i]?=some v/\At K G H p v
 |[],_,i,v,h,e=>by simp at e
 |p::a,_,0,v,h,e=>by obtain⟨w,r,rfl,q,t⟩:=h;simp at e;subst e;exact⟨w,rfl,q⟩
 |p::a,_,i+1,v,h,e=>by obtain⟨w,r,rfl,q,t⟩:=h;obtain⟨d,b,c⟩:=mX.at (i:=i) (p:=v) t (by simpa using e);exact⟨d,by simpa using b,c⟩
def mX.snoc {K:Fg}{G:Gx}{H:Hp}{p:PV}{v:V}:∀{a:List PV} {vs:List V},mX K G H a vs->At K G H p v->mX K G H (a++[p]) (vs++[v])
 |[],_,h,q=>by cases h;exact⟨v,[],rfl,q,rfl⟩
 |p'::a,_,h,q=>by obtain⟨w,r,rfl,b,t⟩:=h;exact⟨w,_,rfl,b,mX.snoc t q⟩
def mn (H:Hp)(O:Addr->Bool):Hp:=λb=>if O b=true then none else H b
def uy (h:mn H O b=some o):O b=false/\H b=some o:=by
 unfold mn at h;by_cases c:O b=true
 .rw[af c]at h;cases h
 .rw[ae c]at h;exact⟨by simpa using c,h⟩
def rO (h:O b=false):mn H O b=H b:=by unfold mn;rw[ae (by rw[h];decide)]
def jX:Same (mn H O) H:=um λ_ _ h=>(uy h).2
def lQ (s:Same H a):Same (mn H O) (mn a O):=λb o h=>by obtain⟨c,e⟩:=uy h;rw[rO c];exact s b o e
def xX (k:∀a,O a=true->O' a=true):Same (mn H O') (mn H O):=um λb o h=>by
 obtain⟨c,e⟩:=uy h;have:O b=false:=by
  cases z:O b with
  |false=>rfl
  |true=>rw[k b z]at c;cases c
 rw[rO this];exact e
def hide (a:Addr)(O:Addr->Bool):Addr->Bool:=λb=>b == a || O b
def hide_ne (h:b≠a):hide a O b=O b:=by unfold hide;simp[h]
def hide_self:hide a O a=true:=by unfold hide;simp
def rQ:∀b,O b=true->hide a O b=true:=λb h=>by unfold hide;simp[h]
def nO (s:Same H d)(f:H a=none):Same (mn H O) (mn d (hide a O)):=λb o h=>by obtain⟨c,e⟩:=uy h;rw[rO (by rw[hide_ne (ne_of_none e f)];exact c)];exact s b o e
def Iv (h:O a=true):mn (upd H a o) O=mn H O:=by
 funext b;unfold mn;by_cases c:O b=true
 .rw[af c,af c]
 .rw[ae c,ae c,upd_ne (λz=>c (by rw[z];exact h))]
inductive Sl where
 |un|fr (p:PV)|ow (p:PV)|o2 (xs ys:List Int)
abbrev En:=List Sl
structure Bs where
 H0:Hp
 Oc:Addr->Bool
def Ep (K:Fg)(G:Gx)(H:Hp):PV->List V->Prop
 | .ints ns,vs=>vs=ns.map V.int
 | .lst xs,vs=>mX K G H xs vs
 |_,_=>False
def Ep.mono {K:Fg}{G:Gx}{H a:Hp}(s:Same H a){p:PV}{vs:List V}(h:Ep K G H p vs):Ep K G a p vs:=by cases p<;>first|exact h|exact mX.mono s _ _ h
structure adk (B:Bs)(σ:L2.St)(H:Hp)(Z:En)(O:Addr->Bool)(i:Nat)(xs ys:List Int)(D a b:Addr):Prop where
 at_:σ[i]?=some (some (.ref D))
 oD:O D=true
 oa:O a=true
 ob:O b=true
 nD:B.H0 D=none
 na:B.H0 a=none
 nb:B.H0 b=none
 hD:H D=some (.lst [.ref a,.ref b])
 ha:H a=some (.lst (xs.map V.int))
 hb:H b=some (.lst (ys.map V.int))
 ab:a≠b
 un:∀(j:Nat) q c,Z[j]?=some (.ow q)->σ[j]?=some (some (.ref c))->c≠D/\c≠a/\c≠b
 one:∀(j:Nat) xs' ys',Z[j]?=some (.o2 xs' ys')->j=i
structure Rep (K:Fg)(G:Gx)(B:Bs)(σ:L2.St)(H:Hp)(Z:En)(O:Addr->Bool):Prop where
 same:Same B.H0 H
 cd:∀a,B.Oc a=true->B.H0 a≠none
 hid:∀a,B.Oc a=true->O a=true
 dom:∀a,O a=true->H a≠none
 vis:∀a,O a=true->B.Oc a=true\/B.H0 a=none
 fr:∀(i:Nat) p,Z[i]?=some (.fr p)->∃v,σ[i]?=some (some v)/\At K G (mn H O) p v
 ow:∀(i:Nat) p,Z[i]?=some (.ow p)->∃a vs,σ[i]?=some (some (.ref a))/\O a=true/\B.H0 a=none/\H a=some (.lst vs)/\Ep K G (mn H O) p vs
 inj:∀(i j:Nat) p q a,Z[i]?=some (.ow p)->Z[j]?=some (.ow q)->σ[i]?=some (some (.ref a))->σ[j]?=some (some (.ref a))->i=j
 len:σ.length=Z.length
 o2:∀(i:Nat) xs ys,Z[i]?=some (.o2 xs ys)->∃D a b,adk B σ H Z O i xs ys D a b
section
variable {K:Fg}{G:Gx}{B:Bs}{d:L2.St}{H f:Hp}{Z:En}{O:Addr->Bool}{i:Nat}
def Rep.grow (R:Rep K G B d H Z O)(s:Same H f):Rep K G B d f Z O:=by
 refine⟨R.same.trans s,R.cd,R.hid,λa h z=>R.dom a h (s.free z),R.vis,λi p e=>?_,λi p e=>?_,R.inj,R.len,λi x y e=>let ⟨D,a,b,q⟩:=R.o2 i x y e;⟨D,a,b,q.at_,q.oD,q.oa,q.ob,q.nD,q.na,q.nb,s _ _ q.hD,s _ _ q.ha,s _ _ q.hb,q.ab,q.un,q.one⟩⟩
 .obtain⟨v,c,g⟩:=R.fr i p e;exact⟨v,c,At.mono (lQ s) _ _ g⟩
 .obtain⟨a,m,c,g,j,k,l⟩:=R.ow i p e;exact⟨a,m,c,g,j,s _ _ k,l.mono (lQ s)⟩
def lH {b:Type}{l:List b}{i j:Nat}{x y:b}(h:(l.set i x)[j]?=some y):(i=j/\y=x/\i<l.length)\/(i≠j/\l[j]?=some y):=by
 rw[dX]at h;by_cases c:i=j
 .rw[af c]at h;by_cases a:i<l.length
  .rw[af a]at h;exact .inl ⟨c,(aE h).symm,a⟩
  .rw[ae a]at h;cases h
 .rw[ae c]at h;exact .inr ⟨c,h⟩
def pL {a:Type}{l:List a}{i j:Nat}{x:a}(h:i≠j):(l.set i x)[j]?=l[j]?:=by rw[dX,ae h]
def Bx {a:Type}{l:List a}{i:Nat}{x:a}(h:i<l.length):(l.set i x)[i]?=some x:=by rw[dX,af rfl,af h]
def Rep.set (R:Rep K G B d H Z O){p:PV}{v:V}(h:At K G (mn H O) p v):Rep K G B (d.set i (some v)) H (Z.set i (.fr p)) O:=by
 refine⟨R.same,R.cd,R.hid,R.dom,R.vis,λj q e=>?_,λj q e=>?_,λj k q r a m o t u=>?_,by rw[bn,bn];exact R.len,λj w z e=>?_⟩
 .rcases lH e with⟨rfl,e,l⟩|⟨n,e⟩
  .cases e;exact⟨v,Bx (by rw[R.len];exact l),h⟩
  .rw[pL n];exact R.fr j q e
 .rcases lH e with⟨rfl,e,l⟩|⟨n,e⟩
  .cases e
  .rw[pL n];exact R.ow j q e
 .rcases lH m with⟨rfl,e,l⟩|⟨n,e⟩
  .cases e
  .rcases lH o with⟨rfl,g,A⟩|⟨s,g⟩
   .cases g
   .rw[pL n]at t;rw[pL s]at u;exact R.inj j k q r a e g t u
 .rcases lH e with⟨rfl,e,l⟩|⟨n,e⟩
  .cases e
  .obtain⟨D,a,b,q⟩:=R.o2 j w z e;refine⟨D,a,b,by rw[pL n];exact q.at_,q.oD,q.oa,q.ob,q.nD,q.na,q.nb,q.hD,q.ha,q.hb,q.ab,λk r c m o=>?_,λk x y m=>?_⟩
   .rcases lH m with⟨_,g,_⟩|⟨s,g⟩
    .cases g
    .rw[pL s]at o;exact q.un k r c g o
   .rcases lH m with⟨_,g,_⟩|⟨s,g⟩
    .cases g
    .exact q.one k x y g
def Rep.new (R:Rep K G B d H Z O){p:PV}{a:Addr}{vs:List V}(s:Same H f)(x:H a=none)(J:f a=some (.lst vs))(h:Ep K G (mn f (hide a O)) p vs):Rep K G B (d.set i (some (.ref a))) f (Z.set i (.ow p)) (hide a O):=by
 refine⟨R.same.trans s,R.cd,λb z=>rQ b (R.hid b z),λb z y=>?_,λb z=>?_,λj q e=>?_,λj q e=>?_,λj k q r b o t w u=>?_,by rw[bn,bn];exact R.len,λj Q S e=>?_⟩
 .by_cases c:b=a
  .subst c;rw[J]at y;cases y
  .rw[hide_ne c]at z;exact R.dom b z (s.free y)
 .by_cases c:b=a
  .subst c;exact .inr (R.same.free x)
  .rw[hide_ne c]at z;exact R.vis b z
 .rcases lH e with⟨rfl,e,l⟩|⟨n,e⟩
  .cases e
  .obtain⟨v,o,t⟩:=R.fr j q e;exact⟨v,by rw[pL n];exact o,At.mono (nO s x) _ _ t⟩
 .rcases lH e with⟨rfl,e,l⟩|⟨n,e⟩
  .cases e;exact⟨a,vs,Bx (by rw[R.len];exact l),hide_self,R.same.free x,J,h⟩
  .obtain⟨b,L,o,t,w,u,P⟩:=R.ow j q e;exact⟨b,L,by rw[pL n];exact o,rQ b t,w,s _ _ u,P.mono (nO s x)⟩
 .have C:∀(m:Nat) q,Z[m]?=some (.ow q)->d[m]?=some (some (.ref a))->False:=λm q e z=>by obtain⟨b,L,o,_,_,u,_⟩:=R.ow m q e;rw[z]at o;cases o;rw[x]at u;cases u
  rcases lH o with⟨rfl,e,l⟩|⟨n,e⟩
  .rcases lH t with⟨rfl,g,E⟩|⟨A,g⟩
   .rfl
   .rw[Bx (by rw[R.len];exact l)]at w;cases w;rw[pL A]at u;exact(C k r g u).elim
  .rcases lH t with⟨rfl,g,E⟩|⟨A,g⟩
   .rw[Bx (by rw[R.len];exact E)]at u;cases u;rw[pL n]at w;exact(C j q e w).elim
   .rw[pL n]at w;rw[pL A]at u;exact R.inj j k q r b e g w u
 .rcases lH e with⟨rfl,e,l⟩|⟨n,e⟩
  .cases e
  .obtain⟨D,M,N,q⟩:=R.o2 j Q S e;refine⟨D,M,N,by rw[pL n];exact q.at_,rQ _ q.oD,rQ _ q.oa,rQ _ q.ob,q.nD,q.na,q.nb,s _ _ q.hD,s _ _ q.ha,s _ _ q.hb,q.ab,λk r c o t=>?_,λk F I o=>?_⟩
   .rcases lH o with⟨rfl,g,E⟩|⟨A,g⟩
    .rw[Bx (by rw[R.len];exact E)]at t;cases t;exact⟨cw (ne_of_none q.hD x),cw (ne_of_none q.ha x),cw (ne_of_none q.hb x)⟩
    .rw[pL A]at t;exact q.un k r c g t
   .rcases lH o with⟨_,g,_⟩|⟨A,g⟩
    .cases g
    .exact q.one k F I g
def Rep.change (R:Rep K G B d H Z O){p p':PV}{a:Addr}{vs:List V}(e:Z[i]?=some (.ow p))(v:d[i]?=some (some (.ref a)))(h:Ep K G (mn H O) p' vs):Rep K G B d (upd H a (.lst vs)) (Z.set i (.ow p')) O:=by
 obtain⟨a',us,s,t,C,e4,e5⟩:=R.ow i p e;rw[v]at s;cases s;have hl:i<Z.length:=(ao.mp e).1;refine⟨λb o z=>?_,R.cd,R.hid,λb z y=>?_,R.vis,λj q u=>?_,λj q u=>?_,λj k q r b P Q S T=>?_,by rw[bn];exact R.len,λj xs ys u=>?_⟩
 .rw[upd_ne (ne_of_none z C)];exact R.same b o z
 .by_cases c:b=a
  .subst c;rw[upd_same]at y;cases y
  .rw[upd_ne c]at y;exact R.dom b z y
 .rw[Iv t];rcases lH u with⟨_,g,_⟩|⟨_,g⟩
  .cases g
  .exact R.fr j q g
 .rw[Iv t];rcases lH u with⟨rfl,g,_⟩|⟨n,g⟩
  .cases g;exact⟨a,vs,v,t,C,upd_same,h⟩
  .obtain⟨b,ws,E,J,L,M,N⟩:=R.ow j q g;refine⟨b,ws,E,J,L,?_,N⟩;rw[upd_ne]
   .exact M
   .intro z;subst z;exact n (R.inj i j p q b e g v E)
 .have l:∀(m:Nat) q,(Z.set i (.ow p'))[m]?=some (.ow q)->∃w,Z[m]?=some (.ow w):=λm q z=>by
   rcases lH z with⟨rfl,_,_⟩|⟨_,z⟩
   .exact⟨p,e⟩
   .exact⟨q,z⟩
  obtain⟨w,y1⟩:=l j q P;obtain⟨U,y2⟩:=l k r Q;exact R.inj j k w U b y1 y2 S T
 .rcases lH u with⟨rfl,g,_⟩|⟨n,g⟩
  .cases g
  .obtain⟨D,F,I,q⟩:=R.o2 j xs ys g;obtain⟨Y,u2,u3⟩:=q.un i p a e v;refine⟨D,F,I,q.at_,q.oD,q.oa,q.ob,q.nD,q.na,q.nb,by rw[upd_ne (cw Y)];exact q.hD,by rw[upd_ne (cw u2)];exact q.ha,by rw[upd_ne (cw u3)];exact q.hb,q.ab,λk r c s t=>?_,λk x A s=>?_⟩
   .rcases lH s with⟨rfl,_,_⟩|⟨_,s⟩
    .exact q.un i p c e t
    .exact q.un k r c s t
   .rcases lH s with⟨_,g,_⟩|⟨n',g⟩
    .cases g
    .exact q.one k x A g
def xN (a:Addr)(O:Addr->Bool):Addr->Bool:=λb=>if b=a then false else O b
def vP (h:b≠a):xN a O b=O b:=by unfold xN;rw[ae h]
def Fw:xN a O a=false:=by unfold xN;rw[af rfl]
def G6:∀b,xN a O b=true->O b=true:=λb h=>by
 by_cases c:b=a
 .subst c;rw[Fw]at h;cases h
 .rw[vP c]at h;exact h
def frz (Z:En)(i:Nat):En:=match Z[i]? with
 |some (.ow p)=>Z.set i (.fr p)
 |_=>Z
def Rep.freeze (R:Rep K G B d H Z O)(i:Nat):∃E,Rep K G B d H (frz Z i) E:=by
 unfold frz;split
 .rename_i p e;obtain⟨a,w,h,C,J,L,l⟩:=R.ow i p e;have sub:Same (mn H O) (mn H (xN a O)):=xX G6;have s:Rd (mn H (xN a O)) a (.lst w):=.inl (by rw[rO Fw];exact L);have Q:At K G (mn H (xN a O)) p (.ref a):=by
   cases p<;>first
    |exact False.elim l
    |(have l:=l.mono sub;exact⟨a,w,rfl,s,l⟩)
    |(have t:w=_:=l;subst t;exact⟨a,rfl,s⟩)
  refine⟨xN a O,R.same,R.cd,λb z=>?_,λb z=>R.dom b (G6 b z),λb z=>R.vis b (G6 b z),λj q m=>?_,λj q m=>?_,λj k q r b S T U Y=>?_,by rw[bn];exact R.len,λj xs ys m=>?_⟩
  .rw[vP]
   .exact R.hid b z
   .intro y;subst y;exact R.cd b z J
  .rcases lH m with⟨rfl,g,_⟩|⟨n,g⟩
   .cases g;exact⟨.ref a,h,Q⟩
   .obtain⟨v,o,u⟩:=R.fr j q g;exact⟨v,o,At.mono sub _ _ u⟩
  .rcases lH m with⟨rfl,g,_⟩|⟨n,g⟩
   .cases g
   .obtain⟨b,ws,o,u,M,N,P⟩:=R.ow j q g;refine⟨b,ws,o,?_,M,N,P.mono sub⟩;rw[vP]
    .exact u
    .intro z;subst z;exact n (R.inj i j p q b e g h o)
  .rcases lH S with⟨_,g,_⟩|⟨_,y1⟩
   .cases g
   .rcases lH T with⟨_,g,_⟩|⟨_,y2⟩
    .cases g
    .exact R.inj j k q r b y1 y2 U Y
  .rcases lH m with⟨rfl,g,_⟩|⟨n,g⟩
   .cases g
   .obtain⟨D,F,I,q⟩:=R.o2 j xs ys g;obtain⟨u1,u2,u3⟩:=q.un i p a e h;refine⟨D,F,I,q.at_,by rw[vP (cw u1)];exact q.oD,by rw[vP (cw u2)];exact q.oa,by rw[vP (cw u3)];exact q.ob,q.nD,q.na,q.nb,q.hD,q.ha,q.hb,q.ab,λk r c h C=>?_,λk x A h=>?_⟩
    .rcases lH h with⟨_,g,_⟩|⟨_,h⟩
     .cases g
     .exact q.un k r c h C
    .rcases lH h with⟨_,g,_⟩|⟨n',g⟩
     .cases g
     .exact q.one k x A g
 .exact⟨O,R⟩
def Bs.at (B:Bs)(H:Hp)(O:Addr->Bool):Bs:=⟨λb=>if (O b && (B.H0 b).isNone)=true then none else H b,B.Oc⟩
def Bs.at_of (h:O b=false\/B.H0 b≠none):(B.at H O).H0 b=H b:=by
 show(if (O b && (B.H0 b).isNone)=true then none else H b)=H b;rw[ae];rcases h with h|h
 .rw[h];simp
 .cases e:B.H0 b with
  |none=>exact absurd e h
  |some o=>simp
def Rep.rebase (R:Rep K G B d H Z O):Rep K G (B.at H O) d H Z O:=by
 refine⟨λb o z=>?_,λa z=>?_,R.hid,R.dom,λa z=>?_,R.fr,λi p e=>?_,R.inj,R.len,λi x m e=>?_⟩
 .have z:(if (O b && (B.H0 b).isNone)=true then none else H b)=some o:=z;by_cases c:(O b && (B.H0 b).isNone)=true
  .rw[af c]at z;cases z
  .rw[ae c]at z;exact .of z
 .rw[Bs.at_of (.inr (R.cd a z))];exact R.dom a (R.hid a z)
 .rcases R.vis a z with y|y
  .exact .inl y
  .refine .inr ?_;show(if (O a && (B.H0 a).isNone)=true then none else H a)=none;rw[af (by rw[z,y];rfl)]
 .obtain⟨a,v,h,g,j,k,l⟩:=R.ow i p e;refine⟨a,v,h,g,?_,k,l⟩;show(if (O a && (B.H0 a).isNone)=true then none else H a)=none;rw[af (by rw[g,j];rfl)]
 .obtain⟨D,a,b,q⟩:=R.o2 i x m e;have z:∀c,O c=true->B.H0 c=none->(B.at H O).H0 c=none:=λc h1 h2=>by show(if (O c && (B.H0 c).isNone)=true then none else H c)=none;rw[af (by rw[h1,h2];rfl)]
  exact⟨D,a,b,q.at_,q.oD,q.oa,q.ob,z D q.oD q.nD,z a q.oa q.na,z b q.ob q.nb,q.hD,q.ha,q.hb,q.ab,q.un,q.one⟩
def Rep.oU (R:Rep K G B d H Z O):Same B.H0 (B.at H O).H0:=λb o z=>by rw[Bs.at_of (.inr (by rw[z];exact λy=>by cases y))];exact R.same b o z
def Rep.rN (B:Bs)(H:Hp)(O:Addr->Bool):Same (mn H O) (B.at H O).H0:=um λb o z=>by obtain⟨c,e⟩:=uy z;rw[Bs.at_of (.inl c)];exact e
def Rep.Mp (R:Rep K G B d H Z O)(r:Rep K G (B.at H O) σ' f Z' O'):Rep K G B σ' f Z' O':=by
 refine⟨R.oU.trans r.same,R.cd,r.hid,r.dom,λa z=>(r.vis a z).imp id λy=>R.oU.free y,r.fr,λi p e=>?_,r.inj,r.len,λi x l e=>?_⟩
 .obtain⟨a,v,c,g,h,j,k⟩:=r.ow i p e;exact⟨a,v,c,g,R.oU.free h,j,k⟩
 .obtain⟨D,a,b,q⟩:=r.o2 i x l e;exact⟨D,a,b,q.at_,q.oD,q.oa,q.ob,R.oU.free q.nD,R.oU.free q.na,R.oU.free q.nb,q.hD,q.ha,q.hb,q.ab,q.un,q.one⟩
def Rep.seen (R:Rep K G B d H Z O)(r:Rep K G (B.at H O) σ' f Z' O'):Same (mn H O) (mn f O'):=λb o z=>by
 obtain⟨c,e⟩:=uy z;have a:(B.at H O).H0 b=some o:=by rw[Bs.at_of (.inl c)];exact e
 rw[rO]
 .exact r.same b o a
 .cases y:O' b with
  |false=>rfl
  |true=>
   rcases r.vis b y with y|y
   .rw[R.hid b y]at c;cases c
   .rw[a]at y;cases y
end
def wK (Z:En)(i:Nat):Int:=match Z[i]? with
 |some (.fr (.int n))=>n
 |_=>0
def isI (Z:En)(i:Nat):Prop:=Z[i]?=some (.fr (.int (wK Z i)))
def getL (Z:En)(i:Nat):List Int:=match Z[i]? with
 |some (.fr (.ints ns))=>ns
 |some (.ow (.ints ns))=>ns
 |some (.fr (.scr ns))=>ns
 |_=>[]
def isL (Z:En)(i:Nat):Prop:=Z[i]?=some (.fr (.ints (getL Z i)))
def Yn (Z:En)(i:Nat):Prop:=Z[i]?=some (.ow (.ints (getL Z i)))
def Mf (Z:En)(i:Nat):Prop:=isL Z i\/Yn Z i\/Z[i]?=some (.fr (.scr (getL Z i)))
def BX (Z:En)(i:Nat):PV:=match Z[i]? with
 |some (.fr p)=>p
 |some (.ow p)=>p
 |_=>.non
def isF (Z:En)(i:Nat):Prop:=Z[i]?=some (.fr (BX Z i))
def ac6 (Z:En)(i:Nat):Str:=match Z[i]? with
 |some (.fr (.str s))=>s
 |_=>Str.empty
def isS (Z:En)(i:Nat):Prop:=Z[i]?=some (.fr (.str (ac6 Z i)))
section
variable {K:Fg}{G:Gx}{B:Bs}{b:L2.St}{H c:Hp}{Z:En}{O:Addr->Bool}{i:Nat}
def Rep.S9 (R:Rep K G B b H Z O)(h:Mf Z i):∃a,b[i]?=some (some (.ref a))/\SqL K H a ((getL Z i).map V.int):=by
 rcases h with h|h|h
 .obtain⟨v,e,a,d,f⟩:=R.fr i _ h;subst d;exact⟨a,e,.inl (jF jX f)⟩
 .obtain⟨a,k,e,d,f,g,j⟩:=R.ow i _ h;subst j;exact⟨a,e,.inl (.inl g)⟩
 .obtain⟨v,e,a,d,f⟩:=R.fr i _ h;subst d;exact⟨a,e,jX.seq f⟩
end
def tX (K:Fg)(G:Gx)(C:En->Prop)(g:En->PV):TE:=λa H Q=>∃B Z O,Rep K G B a H Z O/\C Z/\∀v h,Same H h -> At K G (mn h O) (g Z) v->Q v h
def DN (K:Fg)(G:Gx)(C:En->Prop)(g:En->List Int):TE:=λb H Q=>∃B Z O,Rep K G B b H Z O/\C Z/\∀a h,Same H h -> H a=none->h a=some (.lst ((g Z).map V.int))->Q (.ref a) h
def zE (K:Fg)(G:Gx)(C:En->Prop)(g:En->List PV):TE:=λb H Q=>∃B Z O,Rep K G B b H Z O/\C Z/\∀a v h,Same H h -> H a=none->h a=some (.lst v)->mX K G (mn h (hide a O)) (g Z) v->Q (.ref a) h
def O9 (K:Fg)(G:Gx)(C:En->Prop)(g:En->List PV):TA:=λa H Q=>∃B Z O,Rep K G B a H Z O/\C Z/\∀v h,Same H h -> mX K G (mn h O) (g Z) v->Q v h
def vB (K:Fg)(G:Gx)(C:En->Prop)(p:En->Prop)[∀Z,Decidable (p Z)]:TT:=λa H Q=>∃B Z O,Rep K G B a H Z O/\C Z/\∀h,Same H h -> Q (decide (p Z)) h
abbrev mC (K:Fg)(G:Gx)(C:En->Prop)(g:En->Int):TE:=tX K G C λZ=>.int (g Z)
abbrev GF (K:Fg)(G:Gx)(C:En->Prop)(g:En->List Int):TE:=tX K G C λZ=>.ints (g Z)
abbrev RK (K:Fg)(G:Gx)(C:En->Prop)(p:En->Prop)[∀Z,Decidable (p Z)]:TE:=tX K G C λZ=>.bl (decide (p Z))
abbrev tXS (K:Fg)(G:Gx)(C:En->Prop)(g:En->Str):TE:=tX K G C λZ=>.str (g Z)
section
variable {X:Cx}
def uI (h:PE X e t)(k:∀B a H Z O Q,Rep X.K G B a H Z O->C Z->(∀v b,Same H b -> At X.K G (mn b O) (g Z) v->Q v b)->t a H Q):PE X e (tX X.K G C g):=
 λp s a H Q I ⟨B,Z,O,R,c,q⟩=>h p s a H Q I (k B a H Z O Q R c q)
def Nm (h:PE X e t)(k:∀B b H Z O Q,Rep X.K G B b H Z O->C Z->(∀a d,Same H d -> H a=none->d a=some (.lst ((g Z).map V.int))->Q (.ref a) d)->t b H Q):PE X e (DN X.K G C g):=
 λp s b H Q I ⟨B,Z,O,R,c,q⟩=>h p s b H Q I (k B b H Z O Q R c q)
def jM (h:PE X e (DN X.K G C g)):PE X e (GF X.K G C g):=uI h λB d H Z O Q R c q=>⟨B,Z,O,R,c,λa b s n e=>q _ b s ⟨a,rfl,.inl (by
 rw[rO]
 .exact e
 .cases z:O a with
  |false=>rfl
  |true=>exact absurd n (R.dom a z))⟩⟩
def uJ (h:PE X e (zE X.K G C g)):PE X e (tX X.K G C λZ=>.lst (g Z)):=uI h λB f H Z O Q R c q=>⟨B,Z,O,R,c,λa v b s n e d=>q _ b s ⟨a,v,rfl,.inl (by
 rw[rO]
 .exact e
 .cases z:O a with
  |false=>rfl
  |true=>exact absurd n (R.dom a z)),mX.mono (xX rQ) _ _ d⟩⟩
def jt:PE X (.Constant (.int n) j pos) (mC X.K G (λ_=>True) λ_=>n):=uI pe_int λ_ _ H _ _ _ _ _ q=>q _ H (Same.refl H) rfl
def rB:PE X (.Constant (.bool n) j pos) (tX X.K G (λ_=>True) λ_=>.bl n):=uI pe_bl λ_ _ H _ _ _ _ _ q=>q _ H (Same.refl H) rfl
def aaP:PE X (.Constant .none j pos) (tX X.K G (λ_=>True) λ_=>.non):=uI pe_non λ_ _ H _ _ _ _ _ q=>q _ H (Same.refl H) rfl
def aay:PE X (.Constant (.str n) j pos) (tXS X.K G (λ_=>True) λ_=>n):=uI pe_str λ_ _ H _ _ _ _ _ q=>q _ H (Same.refl H) rfl
def rT (a:Gl X x)(b:X.mg x=none)(d:bootBuiltins x=some (.type u))(c:x≠"__name__":=by decide)(h:(x == ("__debug__":Str))=false:=by decide):PE X (.Name x pos) (tX X.K G (λ_=>True) λ_=>.ty u):=
 uI (pe_bltn (v:=.ty u) a b d rfl c h) λ_ _ H _ _ _ _ _ q=>q _ H (Same.refl H) rfl
def xv (i:Nat)(b:X.N[i]?=some x:=by rfl)(f:Vis X.env.scope x:=by walk_at "v")
  (d:(x == ("__debug__":Str))=false:=by decide) (a:(x == ("__classdict__":Str))=false:=by decide):PE X (.Name x pos) (tX X.K G (λZ=>isF Z i) λZ=>BX Z i):=
 uI (pe_var b f d a) λ_ _ H _ _ _ R c q=>let ⟨v,e,h⟩:=R.fr i _ c;⟨v,e,q v H (Same.refl H) h⟩
def xn (i:Nat)(b:X.N[i]?=some x:=by rfl)(f:Vis X.env.scope x:=by walk_at "v")
  (d:(x == ("__debug__":Str))=false:=by decide) (a:(x == ("__classdict__":Str))=false:=by decide):PE X (.Name x pos) (mC X.K G (λZ=>isI Z i) λZ=>wK Z i):=
 uI (pe_var b f d a) λ_ _ H _ _ _ R c q=>let ⟨v,e,h⟩:=R.fr i _ c;⟨v,e,q v H (Same.refl H) h⟩
def xl (i:Nat)(b:X.N[i]?=some x:=by rfl)(f:Vis X.env.scope x:=by walk_at "v")
  (d:(x == ("__debug__":Str))=false:=by decide) (a:(x == ("__classdict__":Str))=false:=by decide):PE X (.Name x pos) (GF X.K G (λZ=>isL Z i) λZ=>getL Z i):=
 uI (pe_var b f d a) λ_ _ H _ _ _ R c q=>let ⟨v,e,h⟩:=R.fr i _ c;⟨v,e,q v H (Same.refl H) h⟩
def xr (i:Nat)(b:X.N[i]?=some x:=by rfl)(f:Vis X.env.scope x:=by walk_at "v")
  (d:(x == ("__debug__":Str))=false:=by decide) (a:(x == ("__classdict__":Str))=false:=by decide):PE X (.Name x pos) (tX X.K G (λZ=>Z[i]?=some (.fr (.scr (getL Z i)))) λZ=>.scr (getL Z i)):=
 uI (pe_var b f d a) λ_ _ H _ _ _ R c q=>let ⟨v,e,h⟩:=R.fr i _ c;⟨v,e,q v H (Same.refl H) h⟩
def two {r:R2}{g b:En->PV}{d:L2.St}{B:Bs}{O:Addr->Bool}(R:Rep X.K G B d H Z O)(j:C Z)(k:e Z)(q:∀v u a h,Same H a->Same a h->At X.K G (mn h O) (g Z) v->At X.K G (mn h O) (b Z) u->r v u h Q) :
  tOp r (tX X.K G C g) (tX X.K G e b) d H Q:=
 ⟨B,Z,O,R,j,λv a s f=>⟨B,Z,O,R.grow s,k,λu h c i=>q v u a h s c (At.mono (lQ c) _ _ f) i⟩⟩
def NB {op:Operator}{C:Int->Int->Prop}{g:Int->Int->Int}(o:OpR X (binaryOp op) (rI C λi j=>.int (g i j)))(m:PE X a (mC X.K G f d))(n:PE X b (mC X.K G h e)) :
  PE X (.BinOp a op b pos) (mC X.K G (λZ=>f Z/\h Z/\C (d Z) (e Z)) λZ=>g (d Z) (e Z)):=
 uI (pe_op o m n) λ_ _ _ _ _ _ R c q=>two R c.1 c.2.1 λ_ _ _ H s p k l=>⟨_,_,k,l,c.2.2,q _ H (s.trans p) rfl⟩
def Wk {op:Operator}{g:Int->Int->Int}(o:OpR X (binaryOp op) (rI0 λi j=>.int (g i j)))(m:PE X a (mC X.K G C k))(n:PE X b (mC X.K G d l)) :
  PE X (.BinOp a op b pos) (mC X.K G (λZ=>C Z/\d Z) λZ=>g (k Z) (l Z)):=
 uI (pe_op o m n) λ_ _ _ _ _ _ R c q=>two R c.1 c.2 λ_ _ _ h s p e f=>⟨_,_,e,f,q _ h (s.trans p) rfl⟩
def lO (h:PE X a (mC X.K G c g))(e:PE X b (mC X.K G C d)):PE X (.BinOp a .Add b pos) (mC X.K G (λZ=>c Z/\C Z) λZ=>g Z+d Z):=Wk op_add h e
def lN (h:PE X a (mC X.K G c g))(e:PE X b (mC X.K G C d)):PE X (.BinOp a .Sub b pos) (mC X.K G (λZ=>c Z/\C Z) λZ=>g Z-d Z):=Wk op_sub h e
def nW (h:PE X a (mC X.K G C g))(e:PE X b (mC X.K G d c)):PE X (.BinOp a .Mult b pos) (mC X.K G (λZ=>C Z/\d Z/\IntMulOk (g Z) (c Z)) λZ=>g Z*c Z):=NB Hj h e
def lV (h:PE X a (mC X.K G c d))(e:PE X b (mC X.K G C g)):PE X (.BinOp a .Mod b pos) (mC X.K G (λZ=>c Z/\C Z/\0<g Z) λZ=>d Z % g Z):=NB op_mod h e
def tY (h:PE X a (mC X.K G C g))(e:PE X b (mC X.K G d c)):PE X (.BinOp a .FloorDiv b pos) (mC X.K G (λZ=>C Z/\d Z/\K9 (g Z) (c Z)) λZ=>g Z / c Z):=NB Wh h e
def yL (h:PE X a (mC X.K G C g))(e:PE X b (mC X.K G d c)):PE X (.BinOp a .Pow b pos) (mC X.K G (λZ=>C Z/\d Z/\CPow (g Z) (c Z)) λZ=>g Z^(c Z).toNat):=NB op_pow h e
def uc (d:PE X a (mC X.K G C g)):PE X (.UnaryOp .USub a pos) (mC X.K G C λZ=>-g Z):=
 uI (pe_un un_neg d) λB _ _ Z O _ R c q=>⟨B,Z,O,R,c,λ_ h s b=>⟨_,b,q _ h s rfl⟩⟩
def zb {op:CmpOp}{p:Int->Int->Prop}[∀i j,Decidable (p i j)](r:OpR X (compareOp op) (rI0 λi j=>.bl (decide (p i j))))(o:behindInMarks op b=false)(m:PE X a (mC X.K G C k))(n:PE X b (mC X.K G e l)) :
  PT X (.Compare a [op] [b] pos) (vB X.K G (λZ=>C Z/\e Z) λZ=>p (k Z) (l Z)):=
 λd s v H Q I ⟨_,_,_,R,c,q⟩=>pt_cmpR r m n o d s v H Q I (two R c.1 c.2 λ_ _ _ h t u f g=>⟨_,_,f,g,_,rfl,q h (t.trans u)⟩)
def Z7 {op:CmpOp}{p:Int->Int->Prop}[∀i j,Decidable (p i j)](o:OpR X (compareOp op) (rI0 λi j=>.bl (decide (p i j))))(n:behindInMarks op b=false)(l:PE X a (mC X.K G C g))(m:PE X b (mC X.K G d k)) :
  PE X (.Compare a [op] [b] pos) (RK X.K G (λZ=>C Z/\d Z) λZ=>p (g Z) (k Z)):=
 uI (pe_cmpR o l m n) λ_ _ _ _ _ _ R c q=>two R c.1 c.2 λ_ _ _ h s r e f=>⟨_,_,e,f,q _ h (s.trans r) rfl⟩
def R9 (h:PE X a (mC X.K G c g))(e:PE X b (mC X.K G C d)):PT X (.Compare a [.Lt] [b] pos) (vB X.K G (λZ=>c Z/\C Z) λZ=>g Z<d Z):=zb op_lt (nomark _) h e
def Zu (h:PE X a (mC X.K G c g))(e:PE X b (mC X.K G C d)):PT X (.Compare a [.LtE] [b] pos) (vB X.K G (λZ=>c Z/\C Z) λZ=>g Z<=d Z):=zb op_le (nomark _) h e
def uM (h:PE X a (mC X.K G c g))(e:PE X b (mC X.K G C d)):PT X (.Compare a [.Gt] [b] pos) (vB X.K G (λZ=>c Z/\C Z) λZ=>d Z<g Z):=zb (p:=λi j=>j<i) op_gt (nomark _) h e
def ZG (h:PE X a (mC X.K G c g))(e:PE X b (mC X.K G C d)):PT X (.Compare a [.GtE] [b] pos) (vB X.K G (λZ=>c Z/\C Z) λZ=>d Z<=g Z):=zb (p:=λi j=>j<=i) op_ge (nomark _) h e
def vZ (h:PE X a (mC X.K G c g))(e:PE X b (mC X.K G C d)):PT X (.Compare a [.Eq] [b] pos) (vB X.K G (λZ=>c Z/\C Z) λZ=>g Z=d Z):=zb Mz (nomark _) h e
def wk (h:PE X a (mC X.K G c g))(e:PE X b (mC X.K G C d)):PT X (.Compare a [.NotEq] [b] pos) (vB X.K G (λZ=>c Z/\C Z) λZ=>¬g Z=d Z):=zb (p:=λi j=>¬i=j) aba (nomark _) h e
def K1 (h:PE X a (mC X.K G c g))(e:PE X b (mC X.K G C d)):PE X (.Compare a [.Eq] [b] pos) (RK X.K G (λZ=>c Z/\C Z) λZ=>g Z=d Z):=Z7 Mz (nomark _) h e
variable {P f:En->Prop}[∀Z,Decidable (P Z)][∀Z,Decidable (f Z)]{rest:List Expr}
def yZ (h:PE X e (RK X.K G C P))(d:∀w,isTrue e X.env w=(do let v <- w;standAt e.pos;holding [v] (truthy v)):=by intro _;rfl):PT X e (vB X.K G C P):=
 λp s i H Q I ⟨B,Z,O,R,c,q⟩=>pt_val h d p s i H Q I ⟨B,Z,O,R,c,λ_ a g b=>⟨_,b,q a g⟩⟩
def oY (b:PT X a (vB X.K G C P)):PT X (.UnaryOp .Not a pos) (vB X.K G C λZ=>¬P Z):=
 λp s e H Q I ⟨B,Z,O,R,c,q⟩=>L2.pt_not b p s e H Q I ⟨B,Z,O,R,c,λh d=>by have z:=q h d;rw[gK]at z;exact z⟩
def zf (h:PT X a (vB X.K G c P)):PW X (.BoolOp .Or [a] pos) (vB X.K G c P):=pw_or1 h
def Ad (h:PT X a (vB X.K G c P)):PW X (.BoolOp .And [a] pos) (vB X.K G c P):=pw_and1 h
def uA (k:PT X a (vB X.K G C P))(l:PW X (.BoolOp .Or (b::rest) pos) (vB X.K G h f)):PW X (.BoolOp .Or (a::b::rest) pos) (vB X.K G (λZ=>C Z/\(¬P Z->h Z)) λZ=>P Z\/f Z):=
 λw p s n H Q I ⟨B,Z,O,R,c,q⟩=>pw_or k l w p s n H Q I ⟨B,Z,O,R,c.1,λi g=>by
  by_cases d:P Z
  .have z:=q i g;rw[aK (Or.inl d:P Z\/f Z)]at z;rw[aK d];refine iteT ?_;exact z
  .rw[aM d];refine iteF ?_;refine⟨B,Z,O,R.grow g,c.2 d,λj m=>?_⟩;have z:=q j (g.trans m);have e:decide (P Z\/f Z)=decide (f Z):=by simp[d]
   rw[e]at z;exact z⟩
def HH (k:PT X a (vB X.K G C P))(l:PW X (.BoolOp .And (b::rest) pos) (vB X.K G h f)):PW X (.BoolOp .And (a::b::rest) pos) (vB X.K G (λZ=>C Z/\(P Z->h Z)) λZ=>P Z/\f Z):=
 λw p s n H Q I ⟨B,Z,O,R,c,q⟩=>pw_and k l w p s n H Q I ⟨B,Z,O,R,c.1,λi g=>by
  by_cases d:P Z
  .rw[aK d];refine iteT ?_;refine⟨B,Z,O,R.grow g,c.2 d,λj m=>?_⟩;have z:=q j (g.trans m);have e:decide (P Z/\f Z)=decide (f Z):=by simp[d]
   rw[e]at z;exact z
  .have z:=q i g;rw[aM (λy=>d y.1:¬(P Z/\f Z))]at z;rw[aM d];refine iteF ?_;exact z⟩
def abn (d:PE X a (RK X.K G C P)):PE X (.UnaryOp .Not a pos) (RK X.K G C λZ=>¬P Z):=
 uI (pe_not d) λB _ _ Z O _ R c q=>⟨B,Z,O,R,c,λ_ h s b=>⟨_,b,q _ h s (by rw[gK];rfl)⟩⟩
def Ik (k:PE X a (RK X.K G C P))(l:PE X (.BoolOp .And (b::rest) pos) (RK X.K G g f)):PE X (.BoolOp .And (a::b::rest) pos) (RK X.K G (λZ=>C Z/\(P Z->g Z)) λZ=>P Z/\f Z):=
 uI (pe_and k l) λB _ _ Z O _ R c q=>⟨B,Z,O,R,c.1,λ_ h s i=>⟨_,i,by
  by_cases d:P Z
  .rw[aK d];refine iteT ?_;refine⟨B,Z,O,R.grow s,c.2 d,λv H m j=>q v H (s.trans m) ?_⟩;have e:decide (P Z/\f Z)=decide (f Z):=by simp[d]
   rw[e];exact j
  .have z:=q (.bl false) h s (by rw[aM (λy=>d y.1:¬(P Z/\f Z))];rfl);rw[aM d];refine iteF ?_;exact z⟩⟩
def ju:PA X [] (O9 X.K G (λ_=>True) λ_=>[]):=λpos p s a H Q I ⟨_,_,_,_,_,q⟩=>pa_nil pos p s a H Q I (q [] H (Same.refl H) rfl)
def jq (m:PE X e (tX X.K G C g))(n:PA X a (O9 X.K G h l))(o:starEach (e::a) X.env=(false,eval e X.env)::starEach a X.env:=by rfl):PA X (e::a) (O9 X.K G (λZ=>C Z/\h Z) λZ=>g Z::l Z):=
 λpos p s t H Q I ⟨B,Z,O,R,c,q⟩=>pa_cons m n o pos p s t H Q I ⟨B,Z,O,R,c.1,λv u b j=>⟨B,Z,O,R.grow b,c.2,λr i d k=>q _ i (b.trans d) ⟨v,r,rfl,At.mono (lQ d) _ _ j,k⟩⟩⟩
end
structure Ps where
 nx:En->Prop
 rt:PV->Prop
 rl:List Int->Prop:=λ_=>False
 rn:PV->Prop:=λ_=>False
 bk:En->Prop:=λ_=>False
 ct:En->Prop:=λ_=>False
 er:Addr->Prop:=λ_=>False
abbrev Ps.sq (P:Ps)(k:En->Prop):Ps:={ P with nx:=k }
abbrev Ps.lp (P:Ps)(k:En->Prop):Ps:={ P with nx:=k,ct:=k,bk:=P.nx }
abbrev ER:=Addr->Hp->Prop
abbrev ER0:ER:=λ_ _=>False
abbrev FS:=Ps->En->Prop
def wU (K:Fg)(G:Gx)(B:Bs)(a:L2.St)(H:Hp)(Z:En):Prop:=∃O,Rep K G B a H Z O
structure Owe (K:Fg)(G:Gx)(Er:ER)(B:Bs)(P:Ps)(D:Ends):Prop where
 nx:∀σ H Z,wU K G B σ H Z->P.nx Z->D.nx σ H
 rt:∀v H p,Same B.H0 H->At K G (mn H B.Oc) p v->P.rt p->D.rt v H
 rl:∀a H ns,Same B.H0 H->B.H0 a=none->H a=some (.lst (ns.map V.int))->P.rl ns->D.rt (.ref a) H
 rn:∀v H p,Same B.H0 H->At K G (mn H λa=>(B.H0 a).isSome) p v->P.rn p->D.rt v H
 bk:∀σ H Z,wU K G B σ H Z->P.bk Z->D.bk σ H
 ct:∀σ H Z,wU K G B σ H Z->P.ct Z->D.ct σ H
 er:∀H C,Same B.H0 H->P.er C->Er C H
def ts (K:Fg)(G:Gx)(e:ER)(f:FS):TS:=λD a H=>∃B Z P,wU K G B a H Z/\f P Z/\Owe K G e B P D
section
variable {S:Stmt}
def toS (h:PS X S t)(k:∀B a H Z O P D,Rep X.K G B a H Z O->f P Z->Owe X.K G e B P D->t D a H):PS X S (ts X.K G e f):=
 λp s a H D I ⟨B,Z,P,⟨O,R⟩,c,w⟩=>h p s a H D I (k B a H Z O P D R c w)
def j6:PSs X [] (ts X.K G e λP Z=>P.nx Z):=λp s a H D I ⟨_,Z,_,R,c,w⟩=>pss_nil p s a H D I (w.nx a H Z R c)
def jw (h:PS X S (ts X.K G e f)):PSs X [S] (ts X.K G e f):=pss_one h
def jr (h1:PS X S (ts X.K G e d))(h2:PSs X a (ts X.K G e f)):PSs X (S::a) (ts X.K G e λP Z=>d (P.sq (f P)) Z):=
 λp s g H D I ⟨B,Z,P,R,c,w⟩=>pss_cons h1 h2 p s g H D I ⟨B,Z,{ P with nx:=f P },R,c,⟨λ_ _ z r b=>⟨B,z,P,r,b,w⟩,w.rt,w.rl,w.rn,w.bk,w.ct,w.er⟩⟩
def uU (h1:PS X S (ts X.K G e f))(h2:PSs X a (ts X.K G e d)):PSs X (S::a) (ts X.K G e λP Z=>∃J:En->Prop,f (P.sq J) Z/\∀Z',J Z' -> d P Z'):=
 λp s g H D I ⟨B,Z,P,R,⟨J,c,k⟩,w⟩=>pss_cons h1 h2 p s g H D I ⟨B,Z,{ P with nx:=J },R,c,⟨λ_ _ Z' r b=>⟨B,Z',P,r,k Z' b,w⟩,w.rt,w.rl,w.rn,w.bk,w.ct,w.er⟩⟩
def lB (i:Nat)(h:PSs X a (ts X.K G e f)):PSs X a (ts X.K G e λP Z=>f P (frz Z i)):=
 λp s b H D I ⟨B,Z,P,⟨_,R⟩,c,w⟩=>h p s b H D I ⟨B,frz Z i,P,R.freeze i,c,w⟩
def vJ:PS X S (ts X.K G e λ_ _=>False):=toS ps_never λ_ _ _ _ _ _ _ _ c _=>c
def jD (h:PE X e (tX X.K G C g)):PS X (.Return (some e) pos) (ts X.K G E λP Z=>C Z/\P.rt (g Z)):=
 toS (ps_ret h) λB _ _ Z O _ _ R c w=>⟨B,Z,O,R,c.1,λv H s a=>w.rt v H _ (R.same.trans s) (At.mono (xX R.hid) _ _ a) c.2⟩
def mD (h:PE X e (DN X.K G C g)):PS X (.Return (some e) pos) (ts X.K G E λP Z=>C Z/\P.rl (g Z)):=
 toS (ps_ret h) λB _ _ Z O _ _ R c w=>⟨B,Z,O,R,c.1,λa H s n b=>w.rl a H _ (R.same.trans s) (R.same.free n) b c.2⟩
def Bp (i:Nat)(g:X.N[i]?=some x:=by rfl)(k:Vis X.env.scope x:=by walk_at "v")
  (j:(x == ("__debug__":Str))=false:=by decide) (h:(x == ("__classdict__":Str))=false:=by decide):PS X (.Return (some (.Name x p)) pos) (ts X.K G E λP Z=>Yn Z i/\P.rl (getL Z i)):=
 toS (ps_ret (pe_var g k j h)) λB _ H Z O _ _ R c w=>by obtain⟨a,v,b,l,d,f,e⟩:=R.ow i _ c.1;have e:v=(getL Z i).map V.int:=e;subst e;exact⟨_,b,w.rl a H _ R.same d f c.2⟩
def GJ (b:X.N.Nodup)(j:X.N[i]?=some x)(l:Loc X.env.scope x)(d:PE X e (tX X.K G C g))(k:swapsWith e (some (.Name x p)) pos.line X.env=pure false:=by rfl)
  (f:X.fn x=true\/X.env.scope.names.lookup x=some .local:=by walk_at "w"):PS X (.Assign [.Name x p] e pos) (ts X.K G E λP Z=>C Z/\P.nx (Z.set i (.fr (g Z)))):=
 toS (ps_set b j l d k f) λB m _ Z O _ _ R c w=>⟨B,Z,O,R,c.1,λ_ h s a=>w.nx _ h _ ⟨O,(R.grow s).set a⟩ c.2⟩
def kY (h:X.N.Nodup)(f:X.N[i]?=some x)(k:Loc X.env.scope x)(b:PE X e (tX X.K G C g))(j:swapsWith e (some (.Name x a)) pos.line X.env=pure false:=by rfl)
  (d:X.fn x=true\/X.env.scope.names.lookup x=some .local:=by walk_at "w"):PS X (.Assign [.Name x a] e pos) (ts X.K G E λP Z=>C Z/\∀p,p=g Z->P.nx (Z.set i (.fr p))):=
 toS (GJ h f k b j d) λB l _ Z O P D R c w=>⟨B,Z,P,⟨O,R⟩,⟨c.1,c.2 _ rfl⟩,w⟩
def jH (h:X.N.Nodup)(d:X.N[i]?=some x)(j:Loc X.env.scope x)(a:PE X e (mC X.K G C g))(f:swapsWith e (some (.Name x p)) pos.line X.env=pure false:=by rfl)
  (b:X.fn x=true\/X.env.scope.names.lookup x=some .local:=by walk_at "w"):PS X (.Assign [.Name x p] e pos) (ts X.K G E λP Z=>C Z/\∀n,n=g Z->P.nx (Z.set i (.fr (.int n)))):=
 toS (GJ h d j a f b) λB k _ Z O P D R c w=>⟨B,Z,P,⟨O,R⟩,⟨c.1,c.2 _ rfl⟩,w⟩
def jE (h:X.N.Nodup)(d:X.N[i]?=some x)(j:Loc X.env.scope x)(a:PE X e (GF X.K G C g))(f:swapsWith e (some (.Name x p)) pos.line X.env=pure false:=by rfl)
  (b:X.fn x=true\/X.env.scope.names.lookup x=some .local:=by walk_at "w"):PS X (.Assign [.Name x p] e pos) (ts X.K G E λP Z=>C Z/\∀ns,ns=g Z->P.nx (Z.set i (.fr (.ints ns)))):=
 toS (GJ h d j a f b) λB k _ Z O P D R c w=>⟨B,Z,P,⟨O,R⟩,⟨c.1,c.2 _ rfl⟩,w⟩
def ue (f:X.N.Nodup)(l:X.N[i]?=some x)(n:Loc X.env.scope x)(j:PE X e (DN X.K G C g))(m:swapsWith e (some (.Name x b)) pos.line X.env=pure false:=by rfl)
  (k:X.fn x=true\/X.env.scope.names.lookup x=some .local:=by walk_at "w"):PS X (.Assign [.Name x b] e pos) (ts X.K G E λP Z=>C Z/\∀ns,ns=g Z->P.nx (Z.set i (.ow (.ints ns)))):=
 toS (ps_set f l n j m k) λB q _ Z O _ _ R c w=>⟨B,Z,O,R,c.1,λa h s o d=>w.nx _ h _ ⟨hide a O,R.new (p:=.ints (g Z)) s o d rfl⟩ (c.2 _ rfl)⟩
def sY (j:X.N.Nodup)(m:X.N[i]?=some x)(o:Loc X.env.scope x)(k:PE X e (zE X.K G C g))(n:swapsWith e (some (.Name x b)) pos.line X.env=pure false:=by rfl)
  (l:X.fn x=true\/X.env.scope.names.lookup x=some .local:=by walk_at "w"):PS X (.Assign [.Name x b] e pos) (ts X.K G E λP Z=>C Z/\∀ns,ns=g Z->P.nx (Z.set i (.ow (.lst ns)))):=
 toS (ps_set j m o k n l) λB r _ Z O _ _ R c w=>⟨B,Z,O,R,c.1,λa v h s q f d=>w.nx _ h _ ⟨hide a O,R.new (p:=.lst (g Z)) s q f d⟩ (c.2 _ rfl)⟩
def Aj {i:Nat}{op:Operator}{g:En->Int}{Pr:Int->Int->Prop}{h:Int->Int->Int}(r:X.N.Nodup)(u:X.N[i]?=some x)(A:Loc X.env.scope x)(s:PE X e (mC X.K G C g))(z:OpR X (inplaceOp op) (rI Pr λi j=>.int (h i j)))
  (t:X.fn x=true\/X.env.scope.names.lookup x=some .local:=by walk_at "w"):PS X (.AugAssign (.Name x b) op e pos) (ts X.K G E λP Z=>isI Z i/\C Z/\Pr (wK Z i) (g Z)/\∀n,n=h (wK Z i) (g Z)->P.nx (Z.set i (.fr (.int n)))):=
 toS (ps_aug r u A s z t) λB F H Z O _ _ R c w=>by obtain⟨k,l,m,o⟩:=c;obtain⟨v,q,a⟩:=R.fr i _ k;have a:v=.int (wK Z i):=a;subst a;exact⟨_,q,B,Z,O,R,l,λy d D f=>⟨_,_,rfl,f,m,w.nx _ d _ ⟨O,(R.grow D).set (p:=.int _) rfl⟩ (o _ rfl)⟩⟩
def lF [∀Z,Decidable (p Z)](j:PT X c (vB X.K G C p))(h:PSs X a (ts X.K G e f))(i:PSs X b (ts X.K G e g)):PS X (.If c a b pos) (ts X.K G e λP Z=>C Z/\(p Z->f P Z)/\(¬p Z->g P Z)):=
 toS (ps_if j h i) λB k _ Z O P D R c w=>⟨B,Z,O,R,c.1,λH s=>by
  by_cases d:p Z
  .rw[aK d];refine iteT ?_;exact⟨B,Z,P,⟨O,R.grow s⟩,c.2.1 d,w⟩
  .rw[aM d];refine iteF ?_;exact⟨B,Z,P,⟨O,R.grow s⟩,c.2.2 d,w⟩⟩
def mJ [∀Z,Decidable (p Z)](q:PassesOwn (model X.prog X.w) X.A X.env X.xe)(o:PT X c (vB X.K G C p))(n:PSs X body (ts X.K G E f)) :
  PS X (.While c body [] pos) (ts X.K G E λP Z=>∃(W:En->Prop) (b:En->Nat),W Z/\∀Z,W Z->C Z/\(p Z->f (P.lp λZ'=>W Z'/\b Z'<b Z) Z)/\(¬p Z->P.nx Z)):=
 toS (ps_while q o n) λB g H Z O P D R c w=>by
  obtain⟨W,b,u,S⟩:=c;refine⟨λm g H=>∃Z,wU X.K G B g H Z/\W Z/\m=b Z,⟨b Z,Z,⟨O,R⟩,u,rfl⟩,?_⟩;rintro m g H ⟨Z,⟨O,R⟩,t,rfl⟩;obtain⟨j,k,l⟩:=S Z t;refine⟨B,Z,O,R,j,λi s=>?_⟩;by_cases d:p Z
  .rw[aK d];refine iteT ?_;refine⟨λa e=>∃Z',wU X.K G B a e Z'/\W Z'/\b Z'<b Z,λa e ⟨Z',r,h1,h2⟩=>⟨_,h2,Z',r,h1,rfl⟩,B,Z,_,⟨O,R.grow s⟩,k d,⟨λa e Z' r h=>⟨Z',r,h⟩,w.rt,w.rl,w.rn,w.nx,λa e Z' r h=>⟨Z',r,h⟩,w.er⟩⟩
  .rw[aM d];refine iteF ?_;exact w.nx g i Z ⟨O,R.grow s⟩ (l d)
def qd (M:PassesOwn (model X.prog X.w) X.A X.env X.xe)(F:X.calm=true)(J:Gl X "range")(L:X.mg "range"=none)(z:PE X a (mC X.K G C g))(y:X.N.Nodup)(m:X.N[k]?=some x)(N:Loc X.env.scope x)
  (A:PSs X body (ts X.K G E f)) (q:starEach [a] X.env=[(false,eval a X.env)]:=by rfl) (l:∀x,foldedSetIterable (.Call (.Name "range" p) [a] [] b) X.env x=pure x:=by intro _;rfl)
  (I:X.fn x=true\/X.env.scope.names.lookup x=some .local:=by walk_at "w") :
  PS X (.For (.Name x px) (.Call (.Name "range" p) [a] [] b) body [] pos) (ts X.K G E λP Z=>C Z/\(-(2^62)<=g Z/\g Z<2^62)/\∃W:Nat->En->Prop,W 0 Z/\(∀i Z',i<(g Z).toNat->W i Z' -> f (P.lp (W (i+1))) (Z'.set k (.fr (.int i))))/\∀Z',W (g Z).toNat Z' -> P.nx Z'):=
 toS (ps_for M F (pi_range1 J L (pa_cons z pa_nil q) q) (pg_name y m N I) A l) λB d H Z O P D R c w=>by
  obtain⟨u,⟨Q,T⟩,W,Y,S,nd⟩:=c;refine⟨B,Z,O,R,u,λv H1 U j=>?_⟩;have j:v=.int (g Z):=j;subst j;refine⟨g Z,rfl,Q,T,for_range (λi d H=>∃Z',wU X.K G B d H Z'/\W i Z') ⟨Z,⟨O,R.grow U⟩,Y⟩ ?_ ?_⟩
  .rintro i d H m ⟨Z',⟨t,r⟩,n⟩;have e:(0:Int)+i=i:=by lia
   rw[e];exact⟨B,_,_,⟨t,r.set (p:=.int i) rfl⟩,S i Z' m n,⟨λo s Z' r h=>⟨Z',r,h⟩,w.rt,w.rl,w.rn,w.nx,λo s Z' r h=>⟨Z',r,h⟩,w.er⟩⟩
  .rintro d H ⟨Z',r,n⟩;exact w.nx d H Z' r (nd Z' n)
def Fy (hp:PassesOwn (model X.prog X.w) X.A X.env X.xe)(U:X.calm=true)(hg:Gl X "range")(hm:X.mg "range"=none)(Q:PE X a (mC X.K G C g))(o:PE X b (mC X.K G E h))(N:X.N.Nodup)(s:X.N[k]?=some x)(hx:Loc X.env.scope x)
  (T:PSs X body (ts X.K G F f)) (z:starEach [a,b] X.env=[(false,eval a X.env),(false,eval b X.env)]:=by rfl) (d:starEach [b] X.env=[(false,eval b X.env)]:=by rfl) (q:∀x,foldedSetIterable (.Call (.Name "range" p) [a,b] [] e) X.env x=pure x:=by intro _;rfl)
  (Y:X.fn x=true\/X.env.scope.names.lookup x=some .local:=by walk_at "w") :
  PS X (.For (.Name x px) (.Call (.Name "range" p) [a,b] [] e) body [] pos) (ts X.K G F λP Z=>(C Z/\E Z)/\(-(2^62)<=g Z/\g Z<2^62 /\ -(2^62)<=h Z/\h Z<2^62) /\ ∃W:Nat->En->Prop,W 0 Z/\(∀i Z',i<(h Z-g Z).toNat->W i Z' -> f (P.lp (W (i+1))) (Z'.set k (.fr (.int (g Z+i)))))/\∀Z',W (h Z-g Z).toNat Z' -> P.nx Z'):=
 toS (ps_for hp U (pi_range2 hg hm (pa_cons Q (pa_cons o pa_nil d) (by rw[z,d])) z d) (pg_name N s hx Y) T q) λB j H Z O P D R c w=>by
  obtain⟨⟨L,M⟩,l,W,w0,S,nd⟩:=c;refine⟨B,Z,O,R,L,λv H1 A m=>⟨B,Z,O,R.grow A,M,λu H2 s2 n=>?_⟩⟩;have m:v=.int (g Z):=m;have n:u=.int (h Z):=n;subst m n;refine⟨g Z,h Z,rfl,l,for_range (λi j H=>∃Z',wU X.K G B j H Z'/\W i Z') ⟨Z,⟨O,(R.grow A).grow s2⟩,w0⟩ ?_ ?_⟩
  .rintro i j H s ⟨Z',⟨J,r⟩,t⟩;exact⟨B,_,_,⟨J,r.set (p:=.int _) rfl⟩,S i Z' s t,⟨λy I Z' r h=>⟨Z',r,h⟩,w.rt,w.rl,w.rn,w.nx,λy I Z' r h=>⟨Z',r,h⟩,w.er⟩⟩
  .rintro j H ⟨Z',r,t⟩;exact w.nx j H Z' r (nd Z' t)
def rC {B:Bs}{j:L2.St}{H:Hp}{Z:En}{O:Addr->Bool}{K:Fg}{P:Ps}{D:Ends}(R:Rep K G B j H Z O)(w:Owe K G E B P D):Owe K G E (B.at H O) P D:=
 ⟨λd c g ⟨f,r⟩ h=>w.nx d c g ⟨f,R.Mp r⟩ h,λv c p s a h=>w.rt v c p (R.oU.trans s) a h,λa c i s n e h=>w.rl a c i (R.oU.trans s) (R.oU.free n) e h,λv c p s a h=>w.rn v c p (R.oU.trans s) (At.mono (xX λb z=>by
  obtain⟨o,e⟩:=c7.mp z;exact c7.mpr (R.oU _ _ e).some) _ _ a) h,λd c g ⟨f,r⟩ h=>w.bk d c g ⟨f,R.Mp r⟩ h,λd c g ⟨f,r⟩ h=>w.ct d c g ⟨f,R.Mp r⟩ h,λc C s h=>w.er c C (R.oU.trans s) h⟩
def Bl {k:Nat}{x:Str}{l:Expr}{body:List Stmt}{g:En->List Int}{px:Pos}(Y:PassesOwn (model X.prog X.w) X.A X.env X.xe)(N:X.calm=true)(U:PE X l (GF X.K G C g))(L:X.N.Nodup)(T:X.N[k]?=some x)(hx:Loc X.env.scope x)
  (M:PSs X body (ts X.K G E f)) (q:∀x,foldedSetIterable l X.env x=pure x:=by intro _;rfl) (Q:X.fn x=true\/X.env.scope.names.lookup x=some .local:=by walk_at "w") :
  PS X (.For (.Name x px) l body [] pos) (ts X.K G E λP Z=>C Z/\∃W:Nat->En->Prop,W 0 Z/\(∀i n Z',(g Z)[i]?=some n->W i Z' -> f (P.lp (W (i+1))) (Z'.set k (.fr (.int n))))/\∀Z',W (g Z).length Z' -> P.nx Z'):=
 toS (ps_for Y N (pi_list U) (pg_name L T hx Q) M q) λB j H Z O P D R c w=>by
  obtain⟨J,W,w0,S,nd⟩:=c;refine⟨B,Z,O,R,J,λv t s1 I=>?_⟩;obtain⟨a,e,A⟩:=I;have z:=R.grow s1;have d:=rC z w;refine⟨a,e,⟨_,.inl (jF jX A)⟩,for_list (xs:=(g Z).map V.int) (λi j H=>∃Z',wU X.K G (B.at t O) j H Z'/\W i Z') ⟨Z,⟨O,z.rebase⟩,w0⟩ ?_ ?_ ?_⟩
  .rintro i j H _ ⟨Z',⟨u,r⟩,_⟩;exact .inl (jF ((Rep.rN B t O).trans r.same) A)
  .rintro i y j H b ⟨Z',⟨u,r⟩,m⟩;rw[aq]at b;cases o:(g Z)[i]? with
   |none=>rw[o]at b;cases b
   |some n=>rw[o]at b;have b:V.int n=y:=aE b;subst b;exact⟨_,_,_,⟨u,r.set (p:=.int n) rfl⟩,S i n Z' o m,⟨λs F Z' r h=>⟨Z',r,h⟩,d.rt,d.rl,d.rn,d.nx,λs F Z' r h=>⟨Z',r,h⟩,d.er⟩⟩
  .rintro j H ⟨Z',r,m⟩;rw[aa]at m;exact d.nx j H Z' r (nd Z' m)
def tE {k:Nat}{x:Str}{l:Expr}{body:List Stmt}{g:En->List PV}{px:Pos}(hp:PassesOwn (model X.prog X.w) X.A X.env X.xe)(Q:X.calm=true)(Y:PE X l (tX X.K G C λZ=>.lst (g Z)))(M:X.N.Nodup)(U:X.N[k]?=some x)(hx:Loc X.env.scope x)
  (N:PSs X body (ts X.K G E f)) (p:∀x,foldedSetIterable l X.env x=pure x:=by intro _;rfl) (T:X.fn x=true\/X.env.scope.names.lookup x=some .local:=by walk_at "w") :
  PS X (.For (.Name x px) l body [] pos) (ts X.K G E λP Z=>C Z/\∃W:Nat->En->Prop,W 0 Z/\(∀i n Z',(g Z)[i]?=some n->W i Z' -> f (P.lp (W (i+1))) (Z'.set k (.fr n)))/\∀Z',W (g Z).length Z' -> P.nx Z'):=
 toS (ps_for hp Q (pi_list Y) (pg_name M U hx T) N p) λB d H Z O P D R c w=>by
  obtain⟨I,W,w0,S,nd⟩:=c;refine⟨B,Z,O,R,I,λv s s1 A=>?_⟩;obtain⟨a,vs,e,u,j⟩:=A;have o:=R.grow s1;have b:=rC o w;have J:=j.length;refine⟨a,e,⟨_,.inl (jF jX u)⟩,for_list (xs:=vs) (λi d H=>∃Z',wU X.K G (B.at s O) d H Z'/\W i Z') ⟨Z,⟨O,o.rebase⟩,w0⟩ ?_ ?_ ?_⟩
  .rintro i d H _ ⟨Z',⟨t,r⟩,_⟩;exact .inl (jF ((Rep.rN B s O).trans r.same) u)
  .rintro i y d H hy ⟨Z',⟨t,r⟩,m⟩;obtain⟨n,L,F⟩:=j.get hy;exact⟨_,_,_,⟨t,r.set (At.mono (o.seen r) _ _ F)⟩,S i n Z' L m,⟨λq z Z' r h=>⟨Z',r,h⟩,b.rt,b.rl,b.rn,b.nx,λq z Z' r h=>⟨Z',r,h⟩,b.er⟩⟩
  .rintro d H ⟨Z',r,m⟩;rw[<- J]at m;exact b.nx d H Z' r (nd Z' m)
def yq {k j:Nat}{x y:Str}{l:Expr}{body:List Stmt}{g:En->List Int}{J L p b M:Pos}{I:Nat}(hp:PassesOwn (model X.prog X.w) X.A X.env X.xe)(hc:X.calm=true)(hg:Gl X "enumerate")(hm:X.mg "enumerate"=none)(hl:PE X l (GF X.K G C g))
  (s:PG X (.Tuple [.Name x J,.Name y L] I M) (gTup X.K 2 (gCons (gName k) (gCons (gName j) gNil)))) (hb:PSs X body (ts X.K G N f)) (F:starEach [l] X.env=[(false,eval l X.env)]:=by rfl)
  (q:∀x,foldedSetIterable (.Call (.Name "enumerate" p) [l] [] b) X.env x=pure x:=by intro _;rfl) :
  PS X (.For (.Tuple [.Name x J,.Name y L] I M) (.Call (.Name "enumerate" p) [l] [] b) body [] pos) (ts X.K G N λP Z=>C Z/\∃W:Nat->En->Prop,W 0 Z /\ (∀i n Z',(g Z)[i]?=some n->W i Z' -> f (P.lp (W (i+1))) ((Z'.set k (.fr (.int i))).set j (.fr (.int n))))/\∀Z',W (g Z).length Z' -> P.nx Z'):=
 toS (ps_for hp hc (Bb hg hm (pa_cons hl pa_nil F) F) s hb q) λB m H Z O P D R c w=>by
  obtain⟨Y,W,w0,S,nd⟩:=c;refine⟨B,Z,O,R,Y,λv u s1 U=>?_⟩;obtain⟨a,e,E⟩:=U;subst e;have A:=R.grow s1;have d:=rC A w;refine⟨a,rfl,⟨_,.inl (jF jX E)⟩,Jk (xs:=(g Z).map V.int) (λi m H=>∃Z',wU X.K G (B.at u O) m H Z'/\W i Z') ⟨Z,⟨O,A.rebase⟩,w0⟩ ?_ ?_ ?_⟩
  .rintro i m H _ ⟨Z',⟨z,r⟩,_⟩;exact .inl (jF ((Rep.rN B u O).trans r.same) E)
  .rintro i y m H T hy ⟨Z',⟨z,r⟩,o⟩ hT;obtain⟨n,rfl,en⟩:=int_at hy;refine⟨T,_,rfl,SqT.of upd_same,rfl,_,_,rfl,_,_,rfl,rfl,?_⟩;exact⟨_,_,_,⟨z,((r.grow (same_new hT _)).set (p:=.int i) rfl).set (p:=.int n) rfl⟩,S i n Z' en o,⟨λt Q Z' r h=>⟨Z',r,h⟩,d.rt,d.rl,d.rn,d.nx,λt Q Z' r h=>⟨Z',r,h⟩,d.er⟩⟩
  .rintro m H ⟨Z',r,o⟩;rw[aa]at o;exact d.nx m H Z' r (nd Z' o)
def VL {k:Nat}{x:Str}{l:Expr}{body:List Stmt}{g:En->List Int}{px p b:Pos}(hp:PassesOwn (model X.prog X.w) X.A X.env X.xe)(T:X.calm=true)(Y:Gl X "reversed")(hm:X.mg "reversed"=none)(hl:PE X l (GF X.K G C g))(N:X.N.Nodup)(hi:X.N[k]?=some x)(hx:Loc X.env.scope x)
  (Q:PSs X body (ts X.K G I f)) (F:starEach [l] X.env=[(false,eval l X.env)]:=by rfl) (q:∀x,foldedSetIterable (.Call (.Name "reversed" p) [l] [] b) X.env x=pure x:=by intro _;rfl) (U:X.fn x=true\/X.env.scope.names.lookup x=some .local:=by walk_at "w") :
  PS X (.For (.Name x px) (.Call (.Name "reversed" p) [l] [] b) body [] pos) (ts X.K G I λP Z=>C Z/\∃W:Nat->En->Prop,W 0 Z /\ (∀i n Z',i<(g Z).length->(g Z)[(g Z).length-1-i]?=some n->W i Z' -> f (P.lp (W (i+1))) (Z'.set k (.fr (.int n))))/\∀Z',W (g Z).length Z' -> P.nx Z'):=
 toS (ps_for hp T (aaa Y hm (pa_cons hl pa_nil F) F) (pg_name N hi hx U) Q q) λB j H Z O P D R c w=>by
  obtain⟨M,W,w0,S,nd⟩:=c;refine⟨B,Z,O,R,M,λv t s1 L=>?_⟩;obtain⟨a,e,E⟩:=L;subst e;have z:=R.grow s1;have d:=rC z w;refine⟨a,(g Z).map V.int,rfl,.inl (jF jX E),W8 (xs:=(g Z).map V.int) (λi j H=>∃Z',wU X.K G (B.at t O) j H Z'/\W i Z') ⟨Z,⟨O,z.rebase⟩,w0⟩ ?_ ?_ ?_⟩
  .rintro i j H _ ⟨Z',⟨u,r⟩,_⟩;exact .inl (jF ((Rep.rN B t O).trans r.same) E)
  .rintro i y j H m hy ⟨Z',⟨u,r⟩,o⟩;obtain⟨n,rfl,A⟩:=int_at hy;rw[aa]at m A;exact⟨_,_,_,⟨u,r.set (p:=.int n) rfl⟩,S i n Z' m A o,⟨λs J Z' r h=>⟨Z',r,h⟩,d.rt,d.rl,d.rn,d.nx,λs J Z' r h=>⟨Z',r,h⟩,d.er⟩⟩
  .rintro j H ⟨Z',r,o⟩;rw[aa]at o;exact d.nx j H Z' r (nd Z' o)
end
def getD_at {ns:Li}{i:Int}(h1:-(ns.length:Int)<=i)(h2:i<ns.length):atI (ns.map V.int) i=some (V.int (ns.getD (if 0<=i then i else i+ns.length).toNat 0)):=by
 by_cases c:0<=i
 .rw[af c];exact Ae c h2
 .rw[ae c];have q:=Ae (ns:=ns) (i:=i+ns.length) (by lia) (by lia);unfold atI ixN at q ⊢;rw[aa]at q ⊢;rw[af (show 0<=i+(ns.length:Int) by lia),af (show i+(ns.length:Int)<(ns.length:Int) by lia)]at q;rw[ae c,af h1];exact q
def lD (n:Nat)(i:Int):Nat:=(if 0<=i then i else i+n).toNat
def Hy {n:Nat}(h1:-(n:Int)<=i)(h2:i<n):ixN n i=some (lD n i):=by
 unfold ixN lD;by_cases c:0<=i
 .rw[af c,af h2,af c]
 .rw[ae c,af h1,ae c]
def aau {n:Nat}(h1:-(n:Int)<=i)(h2:i<n):lD n i<n:=by
 unfold lD;by_cases c:0<=i
 .rw[af c];lia
 .rw[ae c];lia
def lW (i:Nat)(l:PE X b (mC X.K G C g))(n:PlainIx b)(k:X.N[i]?=some x:=by rfl)(o:Vis X.env.scope x:=by walk_at "v")
  (m:(x == ("__debug__":Str))=false:=by decide) (h:(x == ("__classdict__":Str))=false:=by decide) :
  PE X (.Subscript (.Name x p) b pos) (mC X.K G (λZ=>Mf Z i/\C Z /\ -((getL Z i).length:Int)<=g Z/\g Z<((getL Z i).length:Int)) λZ=>(getL Z i).getD (lD (getL Z i).length (g Z)) 0):=
 uI (pe_ix ix_list (pe_var k o m h) l n) λB r H Z O Q R c q=>by obtain⟨a,f,j⟩:=R.S9 c.1;exact⟨_,f,B,Z,O,R,c.2.1,λu d s e=>⟨a,_,_,_,rfl,e,s.seq j,getD_at c.2.2.1 c.2.2.2,q _ d s rfl⟩⟩
def jU (i:Nat)(l:X.mg "len"=none)(g:X.N[i]?=some x:=by rfl)(k:Gl X "len":=by rfl)(m:Vis X.env.scope x:=by walk_at "v")
  (j:(x == ("__debug__":Str))=false:=by decide) (h:(x == ("__classdict__":Str))=false:=by decide) (b:starEach [.Name x d] X.env=[(false,eval (.Name x d) X.env)]:=by rfl) :
  PE X (.Call (.Name "len" p) [.Name x d] [] pos) (mC X.K G (λZ=>Mf Z i) λZ=>((getL Z i).length:Int)):=
 uI (pe_callB call_len_seq k l SQ (pa_cons (pe_var g m j h) pa_nil b) (by decide) (by decide) b rfl) λB n H Z O Q R c q=>by obtain⟨a,e,f⟩:=R.S9 c;exact⟨_,e,a,_,rfl,.inl f,by rw[aa];exact q _ H (Same.refl H) rfl⟩
def abI:PV->Int
 | .ints n=>(n.length:Int)
 | .scr n=>(n.length:Int)
 | .lst x=>(x.length:Int)
 | .tup x=>(x.length:Int)
 |_=>0
def Wb:PV->Prop
 | .ints _=>True
 | .scr _=>True
 | .lst _=>True
 | .tup _=>True
 |_=>False
def At.len {K:Fg}{H:Hp}{p:PV}{v:V}(h:At K G H p v)(c:Wb p):∃a ys,v=.ref a/\(SqL K H a ys\/SqT K H a ys)/\(ys.length:Int)=abI p:=by
 cases p<;>first|exact c.elim|skip
 .obtain⟨a,e,q⟩:=h;exact⟨a,_,e,.inl (.inl q),by rw[aa];rfl⟩
 .obtain⟨a,e,q⟩:=h;exact⟨a,_,e,.inl q,by rw[aa];rfl⟩
 .obtain⟨a,b,e,q,r⟩:=h;exact⟨a,b,e,.inl (.inl q),by rw[<- r.length];rfl⟩
 .obtain⟨a,b,e,q,r⟩:=h;exact⟨a,b,e,.inr (SqT.of q),by rw[<- r.length];rfl⟩
def mY {g:En->PV}(j:X.mg "len"=none)(f:PE X a (tX X.K G C g))(i:Gl X "len":=by rfl)(h:starEach [a] X.env=[(false,eval a X.env)]:=by rfl) :
  PE X (.Call (.Name "len" p) [a] [] pos) (mC X.K G (λZ=>C Z/\Wb (g Z)) λZ=>abI (g Z)):=
 uI (pe_callB call_len_seq i j SQ (pa_cons f pa_nil h) (by decide) (by decide) h rfl) λB m H Z O Q R c q=>⟨B,Z,O,R,c.1,λv b k d=>by
  obtain⟨a,y,e,s,l⟩:=d.len c.2;exact⟨a,y,by rw[e],s.imp (λz=>jX.seq z) (λz=>Uk jX z),by rw[l];exact q _ b k rfl⟩⟩
def m7:PV->Int->PV
 | .lst xs,k=>xs.getD (lD xs.length k) .non
 | .tup xs,k=>xs.getD (lD xs.length k) .non
 | .ints ns,k=>.int (ns.getD (lD ns.length k) 0)
 |_,_=>.non
def nF:PV->Int->Prop
 | .lst xs,k=>-(xs.length:Int)<=k/\k<xs.length
 | .tup xs,k=>-(xs.length:Int)<=k/\k<xs.length
 | .ints xs,k=>-(xs.length:Int)<=k/\k<xs.length
 |_,_=>False
def mX.item {K:Fg}{H:Hp}{p:List PV}{vs:List V}{k:Int}(h:mX K G H p vs)(h1:-(p.length:Int)<=k)(h2:k<p.length):∃v,atI vs k=some v/\At K G H (p.getD (lD p.length k) .non) v:=by
 have l:=aau h1 h2;have e:p[lD p.length k]?=some (p.getD (lD p.length k) .non):=by rw[gQ,ac l];rfl
 obtain⟨v,ev,a⟩:=h.at e;refine⟨v,?_,a⟩;unfold atI;rw[<- h.length,Hy h1 h2];exact ev
def jC {g:En->PV}(x:PE X a (tX X.K G C g))(y:PE X b (mC X.K G w o))(z:PlainIx b):PE X (.Subscript a b pos) (tX X.K G (λZ=>C Z/\w Z/\nF (g Z) (o Z)) λZ=>m7 (g Z) (o Z)):=
 uI (pe_ix ix_seq x y z) λB E H Z O Q R c q=>two R c.1 c.2.1 λv u D f s l d j=>by
  have h:=c.2.2;revert d h q;generalize g Z=A;intro q d h;cases A<;>first|exact h.elim|skip
  .obtain⟨p,e,r⟩:=d;exact .inl ⟨p,_,_,_,e,j,.inl (jF jX r),getD_at h.1 h.2,q _ f (s.trans l) rfl⟩
  .obtain⟨p,n,e,r,t⟩:=d;obtain⟨m,k,i⟩:=t.item h.1 h.2;exact .inl ⟨p,n,_,m,e,j,.inl (jF jX r),k,q _ f (s.trans l) i⟩
  .obtain⟨p,n,e,r,t⟩:=d;obtain⟨m,k,i⟩:=t.item h.1 h.2;exact .inr (.inl ⟨p,n,_,m,e,j,SqT.of (jX _ _ r),k,q _ f (s.trans l) i⟩)
def Am (i:Nat)(f:X.N[i]?=some x:=by rfl)(j:Vis X.env.scope x:=by walk_at "v")
  (g:(x == ("__debug__":Str))=false:=by decide) (h:(x == ("__classdict__":Str))=false:=by decide):PT X (.Name x pos) (vB X.K G (λZ=>Mf Z i) λZ=>¬getL Z i=[]):=
 λp s k H Q I ⟨B,Z,O,R,c,q⟩=>pt_truth (pe_var f j g h) (λ_=>rfl) p s k H Q I (by
  obtain⟨a,b,d⟩:=R.S9 c;refine⟨_,b,_,.inl ⟨_,d,rfl⟩,?_⟩;have z:=q H (Same.refl H);have e:(!((getL Z i).map V.int).isEmpty)=decide (¬getL Z i=[]):=by cases getL Z i<;>simp
  rw[e];exact z)
def uT:List PV->List Int
 | .int n::r=>n::uT r
 |_=>[]
def Ma:List PV->Prop
 |[]=>True
 | .int _::r=>Ma r
 |_=>False
def mX.ints {K:Fg}{H:Hp}:∀{a:List PV} {vs:List V},mX K G H a vs->Ma a->vs=(uT a).map V.int
 |[],_,h,_=>h
 |p::a,_,h,c=>by
  cases p<;>first|exact c.elim|skip
  obtain⟨v,r,rfl,e,t⟩:=h;rw[e,mX.ints t c];rfl
def kZ {g:En->List PV}(h:PA X f (O9 X.K G C g))(i:∀Z,(g Z).length<=1000:=by intro _;exact fN rfl):PE X (.List f pos) (DN X.K G (λZ=>C Z/\Ma (g Z)) λZ=>uT (g Z)):=
 Nm (pe_lst h) λB k H Z O Q R c q=>⟨B,Z,O,R,c.1,λv j s b=>⟨by rw[<- b.length];exact bI (small1000 (i Z)),λa d=>by
  have e:=b.ints c.2;refine q a _ (s.trans (same_new d _)) (s.free d) ?_;rw[upd_same,e]⟩⟩
def ut (h:PA X f (O9 X.K G C g))(i:∀Z,(g Z).length<=1000:=by intro _;exact fN rfl):PE X (.List f pos) (zE X.K G C g):=
 λp s j H Q I ⟨B,Z,O,R,c,q⟩=>pe_lst h p s j H Q I ⟨B,Z,O,R,c,λv k e d=>⟨by rw[<- d.length];exact bI (small1000 (i Z)),λa b=>
  q a v _ (e.trans (same_new b _)) (e.free b) upd_same (mX.mono (nO (same_new b _) b) _ _ d)⟩⟩
def oZ (h:PA X e (O9 X.K G C g))(f:∀Z,(g Z).length<=1000:=by intro _;exact fN rfl):PE X (.Tuple e x1 pos) (tX X.K G C λZ=>.tup (g Z)):=
 uI (pe_tup h) λB j H Z O Q R c q=>⟨B,Z,O,R,c,λv i s d=>⟨by rw[<- d.length];exact bI (small1000 (f Z)),λa b=>by
  have o:O a=false:=by
   cases z:O a with
   |false=>rfl
   |true=>exact absurd (s.free b) (R.dom a z)
  refine q (.ref a) _ (s.trans (same_new b _)) ⟨a,v,rfl,by rw[rO o];exact upd_same,mX.mono (lQ (same_new b _)) _ _ d⟩⟩⟩
def HS (m:X.mg "list"=none)(i:PE X a (tX X.K G C g))(n:∀Z,g Z=.ints (ns Z)\/g Z=.scr (ns Z))(j:Gl X "list":=by rfl)(h:starEach [a] X.env=[(false,eval a X.env)]:=by rfl) :
  PE X (.Call (.Name "list" p) [a] [] pos) (DN X.K G C ns):=
 Nm (pe_callTy call_list_of j m Af (pa_cons i pa_nil h) (by decide) (by decide) h rfl) λB o H Z O Q R c q=>⟨B,Z,O,R,c,λv f s b=>by
  have k:∃p,v=.ref p/\SqL X.K f p ((ns Z).map V.int):=by
   rcases n Z with z|z
   .rw[z]at b;obtain⟨p,e,r⟩:=b;exact⟨p,e,.inl (jF jX r)⟩
   .rw[z]at b;obtain⟨p,e,r⟩:=b;exact⟨p,e,jX.seq r⟩
  obtain⟨p,rfl,r⟩:=k;exact⟨p,_,rfl,.inl r,λl d=>q l _ (s.trans (same_new d _)) (s.free d) upd_same⟩⟩
def qU (xs:List Int)(l h:Option Int):List Int:=(xs.drop (HT.sIx xs.length 0 l)).take (HT.sIx xs.length xs.length h-HT.sIx xs.length 0 l)
def Ub (xs:Li)(l h:Option Int):cutV (xs.map V.int) l h=(qU xs l h).map V.int:=by unfold cutV qU;rw[aa,<- gY,<- ja]
def WW (K:Fg)(G:Gx)(C:En->Prop)(g:En->Option Int):TO:=λa H Q=>∃B Z O,Rep K G B a H Z O/\C Z/\∀h,Same H h -> Q (g Z) h
def pG:PO X none (WW X.K G (λ_=>True) λ_=>none):=λp s a H Q I ⟨_,_,_,_,_,q⟩=>po_none p s a H Q I (q H (Same.refl H))
def nR (h:PE X e (mC X.K G C g)):PO X (some e) (WW X.K G C λZ=>some (g Z)):=λp s f H Q I ⟨B,Z,O,R,c,q⟩=>po_some h p s f H Q I ⟨B,Z,O,R,c,λ_ a d b=>⟨_,b,q a d⟩⟩
def rH {t o:Option Expr}{g:En->PV}{ns:En->List Int}{j i:En->Prop}{n m:En->Option Int}(w:PE X a (tX X.K G C g))(h:PO X t (WW X.K G j n))(x:PO X o (WW X.K G i m))(y:∀Z,C Z->g Z=.ints (ns Z)\/g Z=.scr (ns Z)) :
  PE X (.Subscript a (.Slice t o none E) pos) (DN X.K G (λZ=>C Z/\j Z/\i Z) λZ=>qU (ns Z) (n Z) (m Z)):=
 Nm (pe_slice sl_list w h x) λB F H Z O Q R c q=>⟨B,Z,O,R,c.1,λv u s b=>⟨B,Z,O,R.grow s,c.2.1,λA d=>⟨B,Z,O,(R.grow s).grow d,c.2.2,λD f=>by
  have k:∃p,v=.ref p/\SqL X.K u p ((ns Z).map V.int):=by
   rcases y Z c.1 with z|z
   .rw[z]at b;obtain⟨p,e,r⟩:=b;exact⟨p,e,.inl (jF jX r)⟩
   .rw[z]at b;obtain⟨p,e,r⟩:=b;exact⟨p,e,jX.seq r⟩
  obtain⟨p,rfl,r⟩:=k;refine⟨p,_,rfl,(d.trans f).seq r,λl h=>q l _ (((s.trans d).trans f).trans (same_new h _)) (((s.trans d).trans f).free h) ?_⟩;rw[upd_same,Ub]⟩⟩⟩
def Inv.Dw {X:Cx}{p:List (Addr×Obj)}{a:L2.St}{H:Hp}{s:Shared}{l:Addr}{xs:List V}(I:Inv X p a H s)(h:Rd H l (.lst xs)):xs.length<=sizeLine/\∃(its:Lv) (n:Nat),Vals xs its/\xs.length=its.length/\s.heap.get? l=some { cls:=.type "list",data:=.seq its.toArray n }:=by obtain⟨z,its,n,r,e⟩:=h.ok I.hok;exact⟨z,its,n,r,r.length,e⟩
def ab6:R2:=λx y H Q=>∃l b a z,x=.ref l/\y=.ref b/\Rd H l (.lst a)/\Rd H b (.lst z)/\a.length+z.length<=sizeLine/\∀p,H p=none->Q (.ref p) (upd H p (.lst (a++z)))
def Ph:OpR X (binaryOp .Add) ab6:=by
 rintro p s E H x y v u Q I m o ⟨l,b,B,D,rfl,rfl,g,f,w,q⟩;cases m;cases o;obtain⟨z,a,n,r,t,e⟩:=Inv.Dw I g;obtain⟨C,i,A,k,j,c⟩:=Inv.Dw I f;refine PySem.P.add_list e c ?_ (by rw[aw,aw];lia);have d:a.toArray++i.toArray=(a++i).toArray:=by simp
 rw[d];exact⟨.ref _,_,I.lnew (t':=s.toks) (r.append k) (by rw[ai];lia),rfl,q _ I.fresh⟩
def uq (k:PE X a (GF X.K G C g))(m:PE X b (GF X.K G f h)):PE X (.BinOp a .Add b pos) (DN X.K G (λZ=>C Z/\f Z/\(g Z).length+(h Z).length<=sizeLine) λZ=>g Z++h Z):=
 Nm (pe_op Ph k m) λB w H Z O Q R c q=>two R c.1 c.2.1 λv u o t s e i j=>by obtain⟨l,rfl,r⟩:=i;obtain⟨b,rfl,n⟩:=j;refine⟨l,b,_,_,rfl,rfl,jF jX r,jF jX n,by rw[aa,aa];exact c.2.2,λp d=>q p _ ((s.trans e).trans (same_new d _)) ((s.trans e).free d) ?_⟩;rw[upd_same,bF]
def Kv {a:Type}(x:a):∀k:Nat,(List.replicate k [x]).flatten=List.replicate k x
 |0=>rfl
 |k+1=>by rw[di,bR,Kv x k];rfl
def rJ {f:En->List Int}{n:En->Int}(k:PE X a (DN X.K G C f))(m:PE X b (mC X.K G i g))(o:∀Z,f Z=[n Z]):PE X (.BinOp a .Mult b pos) (DN X.K G (λZ=>C Z/\i Z /\ -(2^63)<=g Z/\(g Z).toNat<=1000) λZ=>List.replicate (g Z).toNat (n Z)):=
 Nm (pe_op op_rep k m) λB w H Z O Q R c q=>⟨B,Z,O,R,c.1,λl r s v e=>⟨B,Z,O,R.grow s,c.2.1,λu t d j=>by
  rw[o Z]at e;refine⟨l,_,_,rfl,j,d _ _ e,c.2.2.1,by have:=c.2.2.2;lia,?_,λp h=>q p _ ((s.trans d).trans (same_new h _)) ((s.trans d).free h) ?_⟩
  .rw[bN,dM,bv,Nat.one_mul];exact bI (small1000 c.2.2.2)
  .rw[upd_same,bN,dM,Kv,List.map_replicate]⟩⟩
def wV (K:Fg)(G:Gx)(pre:List PV->Prop)(F:List PV->PV):Sp:=λc H Q _=>∃b O,(∀a,O a=true->H a≠none)/\mX K G (mn H O) b c/\pre b/\∀v h,Same H h -> At K G (mn h O) (F b) v->Q v h
def Ew (K:Fg)(G:Gx)(pre:List PV->Prop)(F:List PV->List Int):Sp:=λv H Q _=>∃b O,(∀a,O a=true->H a≠none)/\mX K G (mn H O) b v/\pre b/\∀a h,Same H h -> H a=none->h a=some (.lst ((F b).map V.int))->Q (.ref a) h
def xc (o:Ok X.prog X.w X.K X.mg X.base j x y (wV X.K G pre F))(t:Room k X.A)(l:PA X (e::a) (O9 X.K G C g))(r:j<=k:=by decide)(n:Gl X x:=by rfl)(h:(x == ("__debug__":Str))=false:=by decide)
  (m:starEach (e::a) X.env=(false,eval e X.env)::starEach a X.env:=by rfl) (b:(backTo pos (starEach a X.env)).any (·.1)=false:=by rfl) :
  PE X (.Call (.Name x p) (e::a) [] pos) (tX X.K G (λZ=>C Z/\pre (g Z)) λZ=>F (g Z)):=
 uI (vq o t l r n h m b) λB A H Z O Q R c q=>⟨B,Z,O,R,c.1,λz w s f=>by
  dsimp only;rw[bu];exact⟨g Z,O,(R.grow s).dom,f,c.2,λv d u i=>q v d (s.trans u) i⟩⟩
def pD (o:Ok X.prog X.w X.K X.mg X.base j x z (Ew X.K G pre F))(u:Room k X.A)(m:PA X (e::b) (O9 X.K G C g))(t:j<=k:=by decide)(r:Gl X x:=by rfl)(h:(x == ("__debug__":Str))=false:=by decide)
  (n:starEach (e::b) X.env=(false,eval e X.env)::starEach b X.env:=by rfl) (d:(backTo pos (starEach b X.env)).any (·.1)=false:=by rfl) :
  PE X (.Call (.Name x p) (e::b) [] pos) (DN X.K G (λZ=>C Z/\pre (g Z)) λZ=>F (g Z)):=
 Nm (vq o u m t r h n d) λB D H Z O Q R c q=>⟨B,Z,O,R,c.1,λA y s i=>by
  dsimp only;rw[bu];exact⟨g Z,O,(R.grow s).dom,i,c.2,λa f w v l=>q a f (s.trans w) (s.free v) l⟩⟩
def oH (N:List Str)(as:List PV):En:=as.map Sl.fr++List.replicate (N.length-as.length) .un
def tW {K:Fg}{G:Gx}{H:Hp}{O:Addr->Bool}{as:List PV}{vs:List V}{N:Ls}(d:∀a,O a=true->H a≠none)(h:mX K G (mn H O) as vs):Rep K G ⟨H,O⟩ (L2.start N vs) H (oH N as) O:=by
 have f:=h.length;refine⟨Same.refl H,d,λ_ z=>z,d,λ_ z=>.inl z,λi p e=>?_,λi p e=>?_,λi j p q a e=>?_,by unfold L2.start oH;simp[f],λi x y e=>?_⟩
 .unfold oH at e;by_cases c:i<as.length
  .rw[aT (by rw[aa];exact c),aq]at e;cases b:as[i]? with
   |none=>rw[b]at e;cases e
   |some k=>rw[b]at e;cases e;obtain⟨v,ev,g⟩:=h.at b;refine⟨v,?_,g⟩;unfold L2.start;rw[aT (by rw[aa,<- f];exact c),aq,ev];rfl
  .rw[bj (by rw[aa];lia),cq]at e;split at e<;>cases e
 .exfalso;unfold oH at e;by_cases c:i<as.length
  .rw[aT (by rw[aa];exact c),aq]at e;cases b:as[i]? <;> rw[b]at e<;>cases e
  .rw[bj (by rw[aa];lia),cq]at e;split at e<;>cases e
 .exfalso;unfold oH at e;by_cases c:i<as.length
  .rw[aT (by rw[aa];exact c),aq]at e;cases b:as[i]? <;> rw[b]at e<;>cases e
  .rw[bj (by rw[aa];lia),cq]at e;split at e<;>cases e
 .exfalso;unfold oH at e;by_cases c:i<as.length
  .rw[aT (by rw[aa];exact c),aq]at e;cases b:as[i]? <;> rw[b]at e<;>cases e
  .rw[bj (by rw[aa];lia),cq]at e;split at e<;>cases e
section
variable {P:Program}{K:Fg}
def uK {x:Str}{l:Stmt}{N m:Ls}{k:Nat}{pre:List PV->Prop}{F:List PV->PV}(d:nj K mg x l m)(S:FnScope N m (defScope l))(len:∀as,pre as->as.length=m.length)
  (i:∀(f:Addr) (g:Value) (A:Around) (outer:List Env) (s:Shared) (H:Hp) (E:XK),Room k (A.deeper (envOfC x (defScope l) s.heap.objs.size f g)) -> ∃fs,PSs (cxOf CX0 P w K mg base N x (defScope l) f g A outer s H E).nox (defBody l) (ts K G ER0 fs)/\∀as,pre as->fs { nx:=λ_=>F as=.non,rt:=λp=>p=F as,rl:=λns=>F as=.ints ns } (oH N as)):Ok P w K mg base (k+1) x m (wV K G pre F):=by
 refine nj.ok d S (λD H Q E h=>?_) λf g A outer s H D Q E C h=>?_
 .obtain⟨as,O,_,o,t,_⟩:=h;rw[<- o.length];exact len as t
 obtain⟨as,O,y,o,t,q⟩:=h;obtain⟨fs,b,c⟩:=i f g A outer s H E C;refine⟨_,b,⟨H,O⟩,oH N as,_,⟨O,tW y o⟩,c as t,⟨λI j Z r h=>?_,λv j p u B h=>?_,λa j ns u n e h=>?_,λ_ _ _ _ _ h=>h.elim,λ_ _ _ _ h=>h,λ_ _ _ _ h=>h,λ_ _ _ h=>h⟩⟩
 .obtain⟨J,r⟩:=r;exact q .non j r.same (by rw[show F as=.non from h];rfl)
 .subst h;exact q v j u B
 .refine q _ j u ?_;rw[h];exact⟨a,rfl,.inl (by
   rw[rO]
   .exact e
   .cases z:O a with
    |false=>rfl
    |true=>exact absurd n (y a z))⟩
def IV {x:Str}{j:Stmt}{N p:Ls}{k:Nat}{pre:List PV->Prop}{F:List PV->List Int}(d:nj K mg x j p)(S:FnScope N p (defScope j))(len:∀as,pre as->as.length=p.length)
  (i:∀(f:Addr) (g:Value) (A:Around) (outer:List Env) (s:Shared) (H:Hp) (E:XK),Room k (A.deeper (envOfC x (defScope j) s.heap.objs.size f g)) -> ∃fs,PSs (cxOf CX0 P w K mg base N x (defScope j) f g A outer s H E).nox (defBody j) (ts K G ER0 fs)/\∀as,pre as->fs { nx:=λ_=>False,rt:=λ_=>False,rl:=λns=>ns=F as } (oH N as)):Ok P w K mg base (k+1) x p (Ew K G pre F):=by
 refine nj.ok d S (λv H Q E h=>?_) λf g A outer s H v Q E t h=>?_
 .obtain⟨as,O,_,l,m,_⟩:=h;rw[<- l.length];exact len as m
 obtain⟨as,O,r,l,m,q⟩:=h;obtain⟨fs,b,c⟩:=i f g A outer s H E t;refine⟨_,b,⟨H,O⟩,oH N as,_,⟨O,tW r l⟩,c as m,⟨λ_ _ _ _ h=>h.elim,λ_ _ _ _ _ h=>h.elim,λa o ns u n e h=>?_,λ_ _ _ _ _ h=>h.elim,λ_ _ _ _ h=>h,λ_ _ _ _ h=>h,λ_ _ _ h=>h⟩⟩;subst h;exact q a o u n e
end
def spM (pre:List Int->Prop)(F:List Int->List Int):Sp:=λv H Q _=>∃a n,v=[.ref a]/\H a=some (.lst (n.map V.int))/\pre n/\∀h,(∀b o,b≠a->H b=some o->h b=some o)->h a=some (.lst ((F n).map V.int))->Q .non h
def aaG (h:∀b o,b≠a->H b=some o->d b=some o)(e:d a=some o):Same (upd H a o) d:=um λb u z=>by
 by_cases c:b=a
 .subst c;rw[upd_same]at z;cases z;exact e
 .rw[upd_ne c]at z;exact h b u c z
def Lp (i:Nat)(I:PE X e (mC X.K G C g))(E:X.N[i]?=some x:=by rfl)(J:Vis X.env.scope x:=by walk_at "v")
  (F:(x == ("__debug__":Str))=false:=by decide) (k:(x == ("__classdict__":Str))=false:=by decide)
  (b:attributeBase (.Name x j) "append" X.env (eval (.Name x j) X.env)=eval (.Name x j) X.env:=by rfl)
  (f:((backTo p (starEach (e::[]) X.env)).all (λx=>!x.1) && (backToKw p (keywordEach [] X.env)).all (λx=>x.1.isSome) && decide ((e::[]).length+([]:List Keyword).length+(if ([]:List Keyword).isEmpty then 0 else 1)<30))=true:=by rfl)
  (d:(r.endLine == p.line)=true:=by rfl) (q:starEach (e::[]) X.env=(false,eval e X.env)::starEach [] X.env:=by rfl) (h:(backTo p (starEach [] X.env)).any (·.1)=false:=by rfl)
  (l:swapsWith (.Call (.Attribute (.Name x j) "append" r) [e] [] p) none pos.line X.env=pure false:=by rfl) :
  PS X (.Expr (.Call (.Attribute (.Name x j) "append" r) [e] [] p) pos) (ts X.K G M λP Z=>Yn Z i/\C Z/\(getL Z i).length<sizeLine/\P.nx (Z.set i (.ow (.ints (getL Z i++[g Z]))))):=
 toS (ps_expr (pe_bm cG gM gN mt_append (pe_var E J F k) (pa_cons I pa_nil q) b f d q h) l) λB L H Z O P D R c w=>by obtain⟨m,u,y,z⟩:=c;obtain⟨a,T,n,Q,S,o,A⟩:=R.ow i _ m;subst A;refine⟨_,n,.inl ⟨rfl,_,SqL.of o⟩,B,Z,O,R,u,λv N s t=>?_⟩;subst t;refine⟨a,_,_,rfl,rfl,s _ _ o,by rw[aa];exact y,w.nx L _ _ ⟨O,(R.grow s).change m n (p':=.ints (getL Z i++[g Z])) ?_⟩ z⟩;show _=(getL Z i++[g Z]).map V.int;rw[bF];rfl
def Yh (i:Nat)(q:X.N[i]?=some x:=by rfl)(s:Vis X.env.scope x:=by walk_at "v")
  (r:(x == ("__debug__":Str))=false:=by decide) (d:(x == ("__classdict__":Str))=false:=by decide)
  (h:attributeBase (.Name x p) "pop" X.env (eval (.Name x p) X.env)=eval (.Name x p) X.env:=by rfl) (b:(k.endLine == l.line)=true:=by rfl)
  (e:swapsWith (.Call (.Attribute (.Name x p) "pop" k) [] [] l) none pos.line X.env=pure false:=by rfl) :
  PS X (.Expr (.Call (.Attribute (.Name x p) "pop" k) [] [] l) pos) (ts X.K G E λP Z=>Yn Z i/\getL Z i≠[]/\P.nx (Z.set i (.ow (.ints (getL Z i).dropLast)))):=
 toS (ps_expr (pe_bm0 cG fO fP mt_pop (pe_var q s r d) h b) e) λB t H Z O P D R c w=>by
  obtain⟨f,m,n⟩:=c;obtain⟨a,z,g,u,v,j,o⟩:=R.ow i _ f;subst o;have y:0<(getL Z i).length:=lP m;refine⟨_,g,.inl ⟨rfl,_,SqL.of j⟩,a,_,V.int ((getL Z i)[(getL Z i).length-1]'(by lia)),rfl,rfl,j,?_,w.nx t _ _ ⟨O,R.change f g (p':=.ints (getL Z i).dropLast) ?_⟩ n⟩
  .rw[aa,aq,ac (by lia)];rfl
  .show _=(getL Z i).dropLast.map V.int;rw[gO]
def tG (i:Nat)(L:PE X b (mC X.K G m f))(J:PE X e (mC X.K G C g))(E:X.N[i]?=some x:=by rfl)(N:Vis X.env.scope x:=by walk_at "v")
  (I:(x == ("__debug__":Str))=false:=by decide) (h:(x == ("__classdict__":Str))=false:=by decide)
  (F:∀v,assign (.Subscript (.Name x d) b p) X.env v=(do
   let ov <- holding [v] (eval (.Name x d) X.env)
   let iv <- holding [v,ov] (eval b X.env)
   standAt p
   holding [v,ov,iv] (setItem ov iv v)
   release [v,ov,iv] []):=by intro _;rfl)
  (M:swapsWithSole [.Subscript (.Name x d) b p] e pos.line X.env=pure false:=by rfl) (Q:swappedStores [.Subscript (.Name x d) b p] e X.env=pure none:=by rfl)
  (h1:(assignEach [.Subscript (.Name x d) b p] X.env).map (·.2)=[assign (.Subscript (.Name x d) b p) X.env]:=by rfl) :
  PS X (.Assign [.Subscript (.Name x d) b p] e pos) (ts X.K G U λP Z=>C Z/\Yn Z i/\m Z/\(-((getL Z i).length:Int)<=f Z/\f Z<((getL Z i).length:Int))/\P.nx (Z.set i (.ow (.ints ((getL Z i).set (lD (getL Z i).length (f Z)) (g Z)))))):=
 toS (ps_asg J (pg_sub (pe_var E N I h) L set_list F) M Q h1) λB T H Z O P D R c w=>by obtain⟨q,j,t,k,y⟩:=c;refine⟨B,Z,O,R,q,λv Y S n=>?_⟩;subst n;have r:=R.grow S;obtain⟨a,vs,l,e2,e3,z,A⟩:=r.ow i _ j;subst A;refine⟨_,l,B,Z,O,r,t,λu H2 s o=>?_⟩;subst o;refine⟨a,_,_,_,rfl,rfl,s _ _ z,by rw[aa];exact Hy k.1 k.2,w.nx T _ _ ⟨O,(r.grow s).change j l (p':=.ints _) ?_⟩ y⟩;show _=((getL Z i).set _ _).map V.int;rw[jg]
def Qh (i:Nat)(o:Ok X.prog X.w X.K X.mg X.base j y T (spM pre F))(C:Room k X.A)(A:j<=k:=by decide)(z:Gl X y:=by rfl)
  (u:X.N[i]?=some x:=by rfl) (E:Vis X.env.scope x:=by walk_at "v") (v:(x == ("__debug__":Str))=false:=by decide) (h:(x == ("__classdict__":Str))=false:=by decide)
  (b:(y == ("__debug__":Str))=false:=by decide) (l:starEach (.Name x p::[]) X.env=(false,eval (.Name x p) X.env)::starEach [] X.env:=by rfl) (d:(backTo m (starEach [] X.env)).any (·.1)=false:=by rfl)
  (e:swapsWith (.Call (.Name y L) [.Name x p] [] m) none pos.line X.env=pure false:=by rfl) :
  PS X (.Expr (.Call (.Name y L) [.Name x p] [] m) pos) (ts X.K G N λP Z=>Yn Z i/\pre (getL Z i)/\P.nx (Z.set i (.ow (.ints (F (getL Z i)))))):=
 toS (ps_expr (vq o C (pa_cons (pe_var u E v h) pa_nil l) A z b l d) e) λB M H Z O P D R c w=>by obtain⟨f,q,r⟩:=c;obtain⟨a,U,g,Q,S,s,t⟩:=R.ow i _ f;subst t;exact⟨_,g,a,_,rfl,s,q,λn I J=>w.nx M n _ ⟨O,(R.change f g (p':=.ints _) rfl).grow (aaG I J)⟩ r⟩
def jW (cap:List (Option Nat))(Z:En):En:=cap.map λo=>match o with
 |some i=>(match Z[i]? with
  |some (.fr p)=>.fr p
  |_=>.un)
 |none=>.un
section
variable {K:Fg}
def Ga (R:Rep K G B f h Z O)(d:h D=none)(s:Same h H)(m:H D≠none):Rep K G ⟨h,O⟩ (pK cap f) H (jW cap Z) (hide D O):=by
 refine⟨s,R.dom,rQ,λa z y=>?_,λa z=>?_,λj p e=>?_,λj p e=>?_,λi j p q a e=>?_,by unfold pK jW;rw[aa,aa],λj x r e=>?_⟩
 .by_cases c:a=D
  .subst c;exact m y
  .rw[hide_ne c]at z;exact R.dom a z (s.free y)
 .by_cases c:a=D
  .subst c;exact .inr d
  .rw[hide_ne c]at z;exact .inl z
 .unfold jW at e;rw[aq]at e;cases b:cap[j]? with
  |none=>rw[b]at e;cases e
  |some o=>
   rw[b]at e;cases o with
   |none=>cases e
   |some i=>
    have e:=aE e;dsimp only at e;split at e
    .rename_i n l;cases e;obtain⟨v,g,k⟩:=R.fr i p l;refine⟨v,?_,At.mono (nO s d) _ _ k⟩;unfold pK;rw[aq,b];show some ((f[i]?).join)=some (some v);rw[g];rfl
    .cases e
 .exfalso;unfold jW at e;rw[aq]at e;cases b:cap[j]? with
  |none=>rw[b]at e;cases e
  |some o=>
   rw[b]at e;cases o with
   |none=>cases e
   |some i=>have e:=aE e;dsimp only at e;split at e<;>cases e
 .exfalso;unfold jW at e;rw[aq]at e;cases b:cap[i]? with
  |none=>rw[b]at e;cases e
  |some o=>
   rw[b]at e;cases o with
   |none=>cases e
   |some i=>have e:=aE e;dsimp only at e;split at e<;>cases e
 .exfalso;unfold jW at e;rw[aq]at e;cases b:cap[j]? with
  |none=>rw[b]at e;cases e
  |some o=>
   rw[b]at e;cases o with
   |none=>cases e
   |some i=>have e:=aE e;dsimp only at e;split at e<;>cases e
def nq:∀a:L2.St,Bq a a
 |[]=>tJ
 |none::r=>nq r
 |some _::r=>⟨rfl,nq r⟩
variable {d:Type}
def rY (a:List d)(s:d->V->L2.St)(f:d->En)(q:d->V)(R:Rep K G B E l Z O)(F:l D=none)(S:a.length<=1000)(L:∀i H,i<a.length->Same l H->J.go i H)
  (w:∀i c x H h,a[i]?=some c->Same l H->J.yld i H x h -> Same H h/\∀k:L2.St->Hp->Prop,k (s c (q c)) h -> g x (pK cap E) h k) (p:∀H,Same l H->J.stop a.length H)
  (u:∀c H,c∈a->Same l H->Rep K G ⟨l,O⟩ (pK cap E) H (jW cap Z) (hide D O)->Rep K G ⟨l,O⟩ (s c (q c)) H (f c) (hide D O)) (t:∀c,Bq (pK cap E) (s c (q c))) (U:∀c∈a,C (f c))
  (Y:∀h ys,Same l h -> h D=some (.lst ys)->mX K G (mn h (hide D O)) (a.map λc=>P (f c)) ys->Q (.ref D) h) :
  ∃W:Nat->Nat->List V->Hp->Prop,(∃m,W 0 m [] (upd l D (.lst [])))/\lcW D J (pK cap E) g ul (tX K G C P) Q W:=by
 refine⟨λi m ys H=>m=a.length-i/\i<=a.length/\Same l H/\H D=some (.lst ys)/\mX K G (mn H (hide D O)) ((a.take i).map λc=>P (f c)) ys,⟨a.length,by simp,a9 _,same_new F _,upd_same,rfl⟩,?_⟩;rintro i m ys H ⟨rfl,hi,n,I,A⟩;have hl:ys.length=i:=by rw[<- A.length,aa,aI];lia
 refine⟨I,small1000 (by lia),?_⟩;by_cases j:i<a.length
 .refine .inr ⟨L i H j n,?_⟩;intro x h hy;have N:a[i]?=some a[i]:=ac j;obtain⟨y,kk⟩:=w i _ x H h N n hy;refine kk _ ⟨t _,?_⟩;refine iteT ?_;have r:=y _ _ I;have R2:=u a[i] h (bK j) (n.trans y) (Ga R F (n.trans y) (by rw[r];exact λz=>by cases z));refine⟨_,_,_,R2,U _ (bK j),λv H2 M T=>⟨M _ _ r,a.length-(i+1),by lia,rfl,j,?_,upd_same,?_⟩⟩
  .intro b o z;rw[upd_ne (ne_of_none z F)];exact((n.trans y).trans M) b o z
  .rw[Iv hide_self,pJ N,bF];exact mX.snoc (mX.mono (lQ (y.trans M)) _ _ A) T
 .have e:i=a.length:=by lia
  subst e;refine .inl ⟨p H n,Y H ys n I ?_⟩;rw[cU]at A;exact A
def BK:∀{l:List d} {ys:List V},mX K G H (l.map λx=>.int (gi x)) ys->ys=(l.map gi).map V.int
 |[],_,h=>h
 |x::r,_,h=>by obtain⟨v,t,rfl,e,q⟩:=h;rw[e,BK q];rfl
end
section
variable {K:Fg}
def acG (h:zE K G (λZ=>l Z/\(g Z).length<=1000/\∀n∈g Z,C ((jW (none::cap) Z).set 0 (.fr (.int n)))) (λZ=>(g Z).map λn=>z ((jW (none::cap) Z).set 0 (.fr (.int n)))) j H Q) :
  RG (none::cap) (iList K (GF K G l g)) (gName 0) ul (tX K G C z) j H Q:=by
 obtain⟨B,Z,O,R,⟨u,w,y⟩,q⟩:=h;refine⟨B,Z,O,R,u,λv m c o=>?_⟩;obtain⟨a,rfl,J⟩:=o;have b:SqL K m a ((g Z).map V.int):=.inl (jF jX J);refine⟨a,rfl,⟨_,b⟩,λD f=>?_⟩;refine rY (g Z) (λ_ v=>(pK (none::cap) j).set 0 (some v)) (λn=>(jW (none::cap) Z).set 0 (.fr (.int n))) V.int (R.grow c) f w (λi H E s=>⟨_,.int (g Z)[i],s.seq b,by simp[E]⟩) ?_ (λH s=>⟨_,s.seq b,by simp⟩) (λn H _ s r=>r.set (p:=.int n) rfl) ?_ y ?_
 .rintro i n x H d e s ⟨rfl,L⟩;obtain⟨N,rfl,I⟩:=int_at (L _ (s.seq b));rw[I]at e;cases e;exact⟨Same.refl _,λk F=>F⟩
 .intro n;exact nq _
 .intro d M s A t;exact q D M d (c.trans s) (c.free f) A t
def ac2 (h:zE K G (λZ=>u Z/\(g Z).length<=1000/\∀k:Nat,∀n,(g Z)[k]?=some n->C (((jW (none::none::cap) Z).set 0 (.fr (.int k))).set 1 (.fr (.int n)))) (λZ=>(g Z).mapIdx λk n=>f (((jW (none::none::cap) Z).set 0 (.fr (.int k))).set 1 (.fr (.int n)))) t H Q) :
  RG (none::none::cap) (S5 K (tCons (GF K G u g) tNil)) (gTup K 2 (gCons (gName 0) (gCons (gName 1) gNil))) ul (tX K G C f) t H Q:=by
 obtain⟨B,Z,O,R,⟨F,I,J⟩,q⟩:=h;refine⟨B,Z,O,R,F,λv w l A=>?_⟩;obtain⟨a,rfl,P⟩:=A;have b:SqL K w a ((g Z).map V.int):=.inl (jF jX P);refine⟨a,rfl,⟨_,b⟩,λD o=>?_⟩;have j:((g Z).zipIdx).length=(g Z).length:=List.length_zipIdx;refine rY ((g Z).zipIdx) (λp _=>((pK (none::none::cap) t).set 0 (some (.int p.2))).set 1 (some (.int p.1))) (λp=>((jW (none::none::cap) Z).set 0 (.fr (.int p.2))).set 1 (.fr (.int p.1))) (λp=>.int p.1) (R.grow l) o (by rw[j];exact I)
  (λi H d s=>⟨_,.int ((g Z)[i]'(by rw[j]at d;exact d)),s.seq b,by rw[j]at d;simp[d]⟩) ?_ (λH s=>⟨_,s.seq b,by simp⟩) (λp H _ s z=>(z.set (p:=.int p.2) rfl).set (p:=.int p.1) rfl) ?_ ?_ ?_
 .rintro i ⟨n,k⟩ x H m c s ⟨T,y,rfl,L,rfl,S⟩;obtain⟨U,rfl,N⟩:=int_at (S _ (s.seq b));rw[iF,N]at c;have c:(U,0+i)=(n,k):=aE c;cases c;refine⟨same_new L _,λkk r=>⟨T,_,rfl,SqT.of upd_same,rfl,_,_,rfl,_,_,rfl,rfl,?_⟩⟩;rw[im]at r;exact r
 .rintro⟨n,k⟩;exact nq _
 .rintro⟨n,k⟩ hm;have:=List.mem_zipIdx_iff_getElem?.mp hm;exact J k n this
 .intro m Y s M E;refine q D Y m (l.trans s) (l.free o) M ?_;have e:((g Z).mapIdx λk n=>f (((jW (none::none::cap) Z).set 0 (.fr (.int k))).set 1 (.fr (.int n))))=(g Z).zipIdx.map λp=>f (((jW (none::none::cap) Z).set 0 (.fr (.int p.2))).set 1 (.fr (.int p.1))):=by rw[eK]
  dsimp only;rw[e];exact E
def aaB (h:zE K G (λZ=>o Z/\(0<=g Z/\g Z<=1000)/\∀k:Nat,k<(g Z).toNat->C ((jW (none::cap) Z).set 0 (.fr (.int k)))) (λZ=>(List.range (g Z).toNat).map λ(k:Nat)=>z ((jW (none::cap) Z).set 0 (.fr (.int k)))) n H Q) :
  RG (none::cap) (iRng1 (tCons (mC K G o g) tNil)) (gName 0) ul (tX K G C z) n H Q:=by
 obtain⟨B,Z,O,R,⟨w,I,y⟩,q⟩:=h;refine⟨B,Z,O,R,w,λv F f t=>?_⟩;subst t;have a:(List.range (g Z).toNat).length=(g Z).toNat:=ag;refine⟨g Z,rfl,by lia,by lia,λD l=>?_⟩;refine rY (List.range (g Z).toNat) (λ_ v=>(pK (none::cap) n).set 0 (some v)) (λ(k:Nat)=>(jW (none::cap) Z).set 0 (.fr (.int k))) (λ(k:Nat)=>.int k) (R.grow f) l (by rw[a];lia) (λi H m s=>by rw[a]at m;exact m) ?_ (λH s=>by rw[a];exact aj _) (λk H _ s r=>r.set (p:=.int k) rfl) ?_ ?_ ?_
 .rintro i k x H j b s ⟨rfl,rfl⟩;have d:i<(g Z).toNat:=by have:=(ao.mp b).1;rw[a]at this;exact this
  rw[bZ d]at b;cases b;refine⟨Same.refl _,λJ c=>?_⟩;have e:(0:Int)+(i:Nat)=i:=by lia
  rw[e];exact c
 .intro k;exact nq _
 .intro k c;exact y k (aX.mp c)
 .intro j E s A u;exact q D E j (f.trans s) (f.free l) A u
def zg {C:En->Prop}{d:Type}{b:En->List d}{gi:En->d->Int}(h:DN K G C (λZ=>(b Z).map (gi Z)) i H Q):zE K G C (λZ=>(b Z).map λx=>.int (gi Z x)) i H Q:=by obtain⟨B,Z,O,R,c,q⟩:=h;refine⟨B,Z,O,R,c,λa v f s n e g=>q a f s n ?_⟩;rw[e,BK g]
def Xq {C:En->Prop}{b:En->List Int}{gi:En->Nat->Int->Int}(h:DN K G C (λZ=>(b Z).mapIdx (gi Z)) g H Q):zE K G C (λZ=>(b Z).mapIdx λk x=>.int (gi Z k x)) g H Q:=by obtain⟨B,Z,O,R,c,q⟩:=h;refine⟨B,Z,O,R,c,λa v f s n e d=>q a f s n ?_⟩;dsimp only at d ⊢;rw[eK]at d;rw[e,BK (gi:=λp:Int×Nat=>gi Z p.2 p.1) d,eK]
end
def Dc (L:uH X N' sc cl (none::cap))(b:X.calm=true)(i:PE X a (GF X.K G C g))(f:∀s H fp,PG (jO X N' sc cl s H fp) t (gName 0))(d:∀s H fp,PE (jO X N' sc cl s H fp) e (mC X.K G c gi))(j:∀x,foldedSetIterable a X.env x=pure x:=by intro _;rfl) :
  PE X (.ListComp e [⟨t,a,[],0⟩] sc at') (DN X.K G (λZ=>C Z/\(g Z).length<=1000/\∀n∈g Z,c ((jW (none::cap) Z).set 0 (.fr (.int n)))) λZ=>(g Z).map λn=>gi ((jW (none::cap) Z).set 0 (.fr (.int n)))):=
 λp s k H Q I h=>vY L b (pi_list i) f (λ_ _ _=>oR) d j p s k H Q I (acG (zg h))
def UV (L:uH X N' sc cl (none::none::cap))(j:X.calm=true)(e:Gl X "enumerate")(q:X.mg "enumerate"=none)(o:PE X a (GF X.K G f g))
  (m:∀s H fp,PG (jO X N' sc cl s H fp) (.Tuple els kk tp) (gTup X.K 2 (gCons (gName 0) (gCons (gName 1) gNil)))) (l:∀s H fp,PE (jO X N' sc cl s H fp) i (mC X.K G C gi)) (b:starEach [a] X.env=[(false,eval a X.env)]:=by rfl)
  (r:∀x,foldedSetIterable (.Call (.Name "enumerate" p) [a] [] d) X.env x=pure x:=by intro _;rfl) :
  PE X (.ListComp i [⟨.Tuple els kk tp,.Call (.Name "enumerate" p) [a] [] d,[],0⟩] sc at') (DN X.K G (λZ=>f Z/\(g Z).length<=1000/\∀k:Nat,∀n,(g Z)[k]?=some n->C (((jW (none::none::cap) Z).set 0 (.fr (.int k))).set 1 (.fr (.int n)))) λZ=>(g Z).mapIdx λk n=>gi (((jW (none::none::cap) Z).set 0 (.fr (.int k))).set 1 (.fr (.int n)))):=
 λc s t H Q I h=>vY L j (Bb e q (pa_cons o pa_nil b) b) m (λ_ _ _=>oR) l r c s t H Q I (ac2 (Xq h))
def SM (L:uH X N' sc cl (none::cap))(j:X.calm=true)(e:Gl X "range")(o:X.mg "range"=none)(n:PE X a (mC X.K G f g))(m:∀s H fp,PG (jO X N' sc cl s H fp) t (gName 0))(l:∀s H fp,PE (jO X N' sc cl s H fp) i (mC X.K G C gi))
  (b:starEach [a] X.env=[(false,eval a X.env)]:=by rfl) (q:∀x,foldedSetIterable (.Call (.Name "range" p) [a] [] d) X.env x=pure x:=by intro _;rfl) :
  PE X (.ListComp i [⟨t,.Call (.Name "range" p) [a] [] d,[],0⟩] sc at') (DN X.K G (λZ=>f Z/\(0<=g Z/\g Z<=1000)/\∀k:Nat,k<(g Z).toNat->C ((jW (none::cap) Z).set 0 (.fr (.int k)))) λZ=>(List.range (g Z).toNat).map λ(k:Nat)=>gi ((jW (none::cap) Z).set 0 (.fr (.int k)))):=
 λc s r H Q I h=>vY L j (pi_range1 e o (pa_cons n pa_nil b) b) m (λ_ _ _=>oR) l q c s r H Q I (aaB (zg h))
def aaI {t:TE}{s:Stmt}{C:En->Prop}{g:En->List Int}(h:PS X s (tAsg t (gName i)))(k:∀b H Q,DN X.K G C g b H Q->t b H Q):PS X s (ts X.K G E λP Z=>C Z/\∀ns,ns=g Z->P.nx (Z.set i (.ow (.ints ns)))):=
 toS h λB b H Z O P D R c w=>k b H _ ⟨B,Z,O,R,c.1,λa d f n e=>w.nx _ d _ ⟨hide a O,R.new (p:=.ints (g Z)) f n e rfl⟩ (c.2 _ rfl)⟩
def HR (j:X.N.Nodup)(c:X.N[i]?=some x)(q:X.env.scope.names.lookup x=some .local)(L:uH X N' sc cl (none::cap))(k:X.calm=true)(o:PE X a (GF X.K G f g))(m:∀s H fp,PG (jO X N' sc cl s H fp) t (gName 0))(l:∀s H fp,PE (jO X N' sc cl s H fp) e (mC X.K G C gi))
  (d:swapsWith (.ListComp e [⟨t,a,[],0⟩] sc at') (some (.Name x r)) b.line X.env=pure true) (p:∀x,foldedSetIterable a X.env x=pure x:=by intro _;rfl) :
  PS X (.Assign [.Name x r] (.ListComp e [⟨t,a,[],0⟩] sc at') b) (ts X.K G E λP Z=>(f Z/\(g Z).length<=1000/\∀n∈g Z,C ((jW (none::cap) Z).set 0 (.fr (.int n))))/\∀ns,ns=((g Z).map λn=>gi ((jW (none::cap) Z).set 0 (.fr (.int n))))->P.nx (Z.set i (.ow (.ints ns)))):=
 aaI (Qw j c q L k (pi_list o) m (λ_ _ _=>oR) l d p) λu H Q h=>acG (zg h)
def jL {k:En->Prop}(h:Z=Z')(q:k Z'):k Z:=by rw[h];exact q
def tyP:PV->Option Value
 | .int _=>some (.type "int")
 | .bl _=>some (.type "bool")
 | .non=>some (.type "NoneType")
 | .str _=>some (.type "str")
 | .ints _=>some (.type "list")
 | .lst _=>some (.type "list")
 | .tup _=>some (.type "tuple")
 |_=>none
def WR:PV->Option Value
 | .ty n=>some (.type n)
 | .cls a=>some (.ref a)
 |_=>none
def At.ty {K:Fg}{G:Gx}{H:Hp}{p:PV}{v:V}{t:Value}(h:At K G H p v)(e:tyP p=some t):TyOf K H v t:=by
 cases p<;>first|cases e|skip
 .cases (show v=_ from h);exact .int _
 .cases (show v=_ from h);exact .bl _
 .cases (show v=_ from h);exact .non
 .cases (show v=_ from h);exact .str _
 .obtain⟨a,rfl,r|⟨o,r⟩⟩:=h
  .exact .lst r
  .exact .frz r
 .obtain⟨a,b,rfl,r|⟨o,r⟩,_⟩:=h
  .exact .lst r
  .exact .frz r
 .obtain⟨a,b,rfl,r,_⟩:=h;exact .tup r
def At.cls {K:Fg}{G:Gx}{H:Hp}{p:PV}{v:V}{t:Value}(h:At K G H p v)(e:WR p=some t):aai v=some t:=by
 cases p<;>first|cases e|skip
 .cases (show v=_ from h);rfl
 .cases (show v=_ from h);rfl
def pZ (K:Fg)(p c:PV):Bool:=match tyP p,WR c with
 |some t,some cv=>W.kitOne K t cv == some true
 |_,_=>false
def abq (K:Fg)(p c:PV):Prop:=∃t a b,tyP p=some t/\WR c=some a/\W.kitOne K t a=some b
def pY {K:Fg}{p c:PV}{t a:Value}{b:Bool}(h1:tyP p=some t)(h2:WR c=some a)(h:W.kitOne K t a=some b):pZ K p c=b:=by unfold pZ;rw[h1,h2];show(W.kitOne K t a == some true)=b;rw[h];cases b<;>rfl
def TyOf.up {K:Fg}{H g:Hp}{v:V}{t:Value}(s:Same H g)(h:TyOf K H v t):TyOf K g v t:=by
 cases h with
 |non=>exact .non
 |bl x=>exact .bl x
 |int x=>exact .int x
 |str x=>exact .str x
 |flt x=>exact .flt x
 |lst e=>exact .lst (s _ _ e)
 |frz e=>exact .frz (s _ _ e)
 |tup e=>exact .tup (s _ _ e)
 |dK e=>exact .dK (s _ _ e)
 |dT e=>exact .dT (s _ _ e)
 |ins e a b c d f=>exact .ins (s _ _ e) a b c d f
def pA (D:X.mg "isinstance"=none)(x:PE X a (tX X.K G C g))(y:PE X c (tX X.K G m gc))(A:Gl X "isinstance":=by rfl)(k:starEach [a,c] X.env=(false,eval a X.env)::starEach [c] X.env:=by rfl)(h:starEach [c] X.env=[(false,eval c X.env)]:=by rfl)(e:(backTo pos (starEach [c] X.env)).any (·.1)=false:=by rfl) :
  PE X (.Call (.Name "isinstance" p) [a,c] [] pos) (RK X.K G (λZ=>C Z/\m Z/\abq X.K (g Z) (gc Z)) λZ=>pZ X.K (g Z) (gc Z)=true):=
 uI (pe_callB KC A D DK (pa_cons x (pa_cons y pa_nil h) k) (by decide) (by decide) k e) λB F H Z O Q R d q=>⟨B,Z,O,R,d.1,λv E s o=>⟨B,Z,O,R.grow s,d.2.1,λu n l r=>by
  obtain⟨t,w,b,f,i,j⟩:=d.2.2;refine⟨v,u,t,w,b,rfl,r.cls i,TyOf.up (jX.trans l) (o.ty f),j,q _ n (s.trans l) ?_⟩;have z:pZ X.K (g Z) (gc Z)=b:=pY f i j;show V.bl b=V.bl (decide (pZ X.K (g Z) (gc Z)=true));rw[z,f8]⟩⟩
def aa7 (h:X.calm=true)(r:X.mg "max"=none)(m:PE X a (mC X.K G C gi))(n:PE X b (mC X.K G i g))(o:Gl X "max":=by rfl)(f:starEach [a,b] X.env=(false,eval a X.env)::starEach [b] X.env:=by rfl)(d:starEach [b] X.env=[(false,eval b X.env)]:=by rfl)(e:(backTo pos (starEach [b] X.env)).any (·.1)=false:=by rfl) :
  PE X (.Call (.Name "max" p) [a,b] [] pos) (mC X.K G (λZ=>C Z/\i Z) λZ=>if g Z > gi Z then g Z else gi Z):=
 uI (pe_callB (call_max2 h) o r aan (pa_cons m (pa_cons n pa_nil d) f) (by decide) (by decide) f e) λB x H Z O Q R c q=>⟨B,Z,O,R,c.1,λv w s k=>⟨B,Z,O,R.grow s,c.2,λu j t l=>by
  subst k l;exact⟨_,_,rfl,q _ j (s.trans t) rfl⟩⟩⟩
def abo (h:X.calm=true)(r:X.mg "min"=none)(m:PE X a (mC X.K G C gi))(n:PE X b (mC X.K G i g))(o:Gl X "min":=by rfl)(f:starEach [a,b] X.env=(false,eval a X.env)::starEach [b] X.env:=by rfl)(d:starEach [b] X.env=[(false,eval b X.env)]:=by rfl)(e:(backTo pos (starEach [b] X.env)).any (·.1)=false:=by rfl) :
  PE X (.Call (.Name "min" p) [a,b] [] pos) (mC X.K G (λZ=>C Z/\i Z) λZ=>if g Z<gi Z then g Z else gi Z):=
 uI (pe_callB (call_min2 h) o r aae (pa_cons m (pa_cons n pa_nil d) f) (by decide) (by decide) f e) λB x H Z O Q R c q=>⟨B,Z,O,R,c.1,λv w s k=>⟨B,Z,O,R.grow s,c.2,λu j t l=>by
  subst k l;exact⟨_,_,rfl,q _ j (s.trans t) rfl⟩⟩⟩
abbrev Hw (K:Fg)(G:Gx)(pre:List PV->Prop)(F:List PV->Int):Sp:=wV K G pre λa=>.int (F a)
abbrev Jo (K:Fg)(G:Gx)(pre:List PV->Prop)(F:List PV->Bool):Sp:=wV K G pre λa=>.bl (F a)
abbrev Sv (K:Fg)(G:Gx)(pre:List PV->Prop)(F:List PV->List Int):Sp:=wV K G pre λa=>.ints (F a)
def xcL (o:Ok X.prog X.w X.K X.mg X.base j x m (Sv X.K G pre F))(l:Room k X.A)(c:PA X (e::a) (O9 X.K G C g))(i:j<=k:=by decide)(f:Gl X x:=by rfl)(h:(x == ("__debug__":Str))=false:=by decide)
  (d:starEach (e::a) X.env=(false,eval e X.env)::starEach a X.env:=by rfl) (b:(backTo pos (starEach a X.env)).any (·.1)=false:=by rfl) :
  PE X (.Call (.Name x p) (e::a) [] pos) (GF X.K G (λZ=>C Z/\pre (g Z)) λZ=>F (g Z)):=xc o l c i f h d b
def Zy (o:Ok X.prog X.w X.K X.mg X.base j x m (Hw X.K G pre F))(l:Room k X.A)(c:PA X (e::a) (O9 X.K G C g))(i:j<=k:=by decide)(f:Gl X x:=by rfl)(h:(x == ("__debug__":Str))=false:=by decide)
  (d:starEach (e::a) X.env=(false,eval e X.env)::starEach a X.env:=by rfl) (b:(backTo pos (starEach a X.env)).any (·.1)=false:=by rfl) :
  PE X (.Call (.Name x p) (e::a) [] pos) (mC X.K G (λZ=>C Z/\pre (g Z)) λZ=>F (g Z)):=xc o l c i f h d b
def RN (o:Ok X.prog X.w X.K X.mg X.base j x t (Jo X.K G pre F))(r:Room k X.A)(i:PA X (e::b) (O9 X.K G C g))(n:j<=k:=by decide)(m:Gl X x:=by rfl)(h:(x == ("__debug__":Str))=false:=by decide)
  (l:starEach (e::b) X.env=(false,eval e X.env)::starEach b X.env:=by rfl) (d:(backTo pos (starEach b X.env)).any (·.1)=false:=by rfl) :
  PE X (.Call (.Name x p) (e::b) [] pos) (RK X.K G (λZ=>C Z/\pre (g Z)) λZ=>F (g Z)=true):=
 uI (xc o r i n m h l d) λB u H Z O Q R c q=>⟨B,Z,O,R,c,λv f s a=>q v f s (by dsimp only;rw[f8];exact a)⟩
def Lx (Z:En)(i:Nat):Int:=match Z[i]? with
 |some (.fr (.ob 0 z))=>z
 |_=>0
def isK (Z:En)(i:Nat):Prop:=Z[i]?=some (.fr (.ob 0 (Lx Z i)))
def qR {d:Hp->Addr->Int->Prop}{p:Int->List Int->Prop}{F:Int->List Int->Int}{pl:Sem Bool}(i:Nat)(M:KM X.prog X.w X.K X.mg X.base j d m n p F)(hr:Room k X.A)(ha:PA X (e::c) (O9 X.K G C g))(hn:∀Z,(g Z).length=n:=by intro _;rfl)(hG:∀H a z,G.ob 0 H a z->d H a z:=by first|exact λ_ _ _ h=>h.2|exact λ_ _ _ h=>h.elim (λz=>z.2) λz=>absurd z.1 (by decide))(l:∀{H y:Hp} {a:Addr} {z:Int},d H a z->Same H y -> d y a z:=by first|exact λh s=>KAt.same h s|exact λh s=>h.same s)(hj:j<=k:=by decide)
  (hN:X.N[i]?=some x:=by rfl) (hv:Vis X.env.scope x:=by walk_at "v") (hd:(x == ("__debug__":Str))=false:=by decide) (t:(x == ("__classdict__":Str))=false:=by decide)
  (w:starEach (e::c) X.env=(false,eval e X.env)::starEach c X.env:=by rfl) (u:(backTo pos (starEach c X.env)).any (·.1)=false:=by rfl)
  (ht:eval (.Call (.Attribute (.Name x D) m b) (e::c) [] pos) X.env=(do
   let ov <- eval (.Name x D) X.env
   standAt b.atName
   let (f,first) <- holding [ov] (getMethod ov m pl)
   callWith pos f first (backTo pos (starEach (e::c) X.env)) (backToKw pos (keywordEach [] X.env))):=by rfl) :
  PE X (.Call (.Attribute (.Name x D) m b) (e::c) [] pos) (mC X.K G (λZ=>isK Z i/\C Z/\Ma (g Z)/\p (Lx Z i) (uT (g Z))) λZ=>F (Lx Z i) (uT (g Z))):=by
 rintro r s σ H Q I ⟨B,Z,O,R,⟨S,T,U,Y⟩,q⟩;obtain⟨v,e1,a,rfl,ka⟩:=R.fr i _ S;have o:d H a (Lx Z i):=l (hG _ _ _ ka) jX;obtain⟨Cl,dx,fs,ps,f1,f2,N⟩:=M.ex H a _ o;obtain⟨f,fd,J,P,mm,cc⟩:=N.ex;refine pe_meth (pe_var hN hv hd t) cc mm (J.mono hj) hr P .nil pass0 ha w u ht r s σ H Q I ⟨_,e1,a,dx,fs,rfl,f1,f2,B,Z,O,R,T,λvs L E A=>?_⟩;have ev:=A.ints U;have el:(uT (g Z)).length=n:=by rw[<- hn Z,A.length,ev,aa]
 exact⟨uT (g Z),el,by rw[bu,ev],l o E,Y,q _ L E rfl⟩
def JW:∀{as:List PV},Ma as->(uT as).length=as.length
 |[],_=>rfl
 |p::r,h=>by
  cases p<;>first|exact h.elim|skip
  show(uT r).length+1=r.length+1;rw[JW (as:=r) h]
section
variable {K:Fg}
def acB:List PV->List Int
 | .scr ns::_=>ns
 |_=>[]
def abL (n:Nat)(pre:List Int->List Int->Prop):List PV->Prop
 | .scr ns::r=>Ma r/\r.length=n/\pre ns (uT r)
 |_=>False
def acC (o:Ok P w K mg base k x p (spS K n pre F)):Ok P w K mg base k x p (Hw K G (abL n pre) λas=>F (acB as) (uT as.tail)):=
 o.imp λe H Q E ⟨as,O,_,b,h,q⟩=>by
  match as,h,b,q with
  | .scr ns::r,⟨h1,h2,h3⟩,b,q=>obtain⟨v,t,rfl,⟨a,rfl,d⟩,c⟩:=b;exact⟨a,ns,uT r,by rw[JW h1,h2],by rw[c.ints h1],jX.seq d,h3,q _ H (Same.refl H) rfl⟩
end
def Sw:PGet X (rIxL X.K):=by
 rintro a s A H x y v u Q I n o ⟨p,E,i,z,rfl,rfl,m,k,q⟩;cases n;obtain⟨t,rfl⟩:=o;obtain⟨c,r,pl,D⟩:=I.list m;obtain⟨j,h1,h2,B,f,g⟩:=atI_get k;obtain⟨w,e,d⟩:=r.get h2;have l:=r.length;have C:=line63;have fin:EP X a A Q w s:=⟨z,H,I,d,q⟩;by_cases h0:0<=i
 .have b:i.toNat=j:=by rw[iU h0 g]at h1;exact aE h1
  exact wpAny_getItem_list pl.isList h0 (by lia) (by rw[b];simpa using e) fin
 .have b:(i+(c.toArray.size:Int)).toNat=j:=by rw[ij (by lia) f]at h1;rw[aw,<- l];exact aE h1
  exact wpAny_getItem_list_neg pl.isList (by lia) (by rw[aw]<;>lia) (by lia) (by rw[b];simpa using e) fin
def Fx (i:Nat){op:Operator}{Pr:Int->Int->Prop}{h:Int->Int->Int}(M:PE X b (mC X.K G p d))(L:PE X e (mC X.K G C g))(N:OpR X (inplaceOp op) (rI Pr λi j=>.int (h i j)))(F:X.N[i]?=some x:=by rfl)(Q:Vis X.env.scope x:=by walk_at "v")
  (J:(x == ("__debug__":Str))=false:=by decide) (k:(x == ("__classdict__":Str))=false:=by decide)
  (I:∀ov iv new,augStore b ov iv new=(do holding [new,ov,iv] (setItem ov iv new);release [new,ov,iv] [];pure .next):=by intros;rfl) :
  PS X (.AugAssign (.Subscript (.Name x px) b ps) op e pos) (ts X.K G T λP Z=>Yn Z i/\p Z/\(-((getL Z i).length:Int)<=d Z/\d Z<((getL Z i).length:Int))/\C Z/\Pr ((getL Z i).getD (lD (getL Z i).length (d Z)) 0) (g Z) /\ P.nx (Z.set i (.ow (.ints ((getL Z i).set (lD (getL Z i).length (d Z)) (h ((getL Z i).getD (lD (getL Z i).length (d Z)) 0) (g Z))))))):=
 toS (ps_augS (pe_var F Q J k) M Sw L N set_list I) λB S H Z O P D R c w=>by obtain⟨l,t,f,y,A,z⟩:=c;obtain⟨a,vs,m,e2,e3,n,E⟩:=R.ow i _ l;subst E;refine⟨_,m,B,Z,O,R,t,λu U s q=>?_⟩;subst q;refine⟨a,_,_,_,rfl,rfl,SqL.of (s _ _ n),getD_at f.1 f.2,B,Z,O,R.grow s,y,λv Y o r=>?_⟩;subst r;refine⟨_,_,rfl,rfl,A,a,_,_,_,rfl,rfl,o _ _ (s _ _ n),by rw[aa];exact Hy f.1 f.2,w.nx S _ _ ⟨O,((R.grow s).grow o).change l m (p':=.ints _) ?_⟩ z⟩;show _=((getL Z i).set _ _).map V.int;rw[jg];rfl
end L3
namespace L3
open PySem PyProof.Rows L2 FM
def Do (xs:Li)(l h:Option Int):(qU xs l h).length<=xs.length:=by unfold qU;rw[aI,aZ];lia
def vL (xs:Li)(a:Nat):qU xs (some (a:Int)) none=xs.drop a:=by
 unfold qU;rw[HT.sIx_nat,HT.sIx_none];by_cases h:a<=xs.length
 .rw[dS h,b9 (by rw[aZ];lia)]
 .rw[fS (by lia),dG (aj _),dG (by lia),List.take_nil]
def Ow (xs:Li)(b:Nat):qU xs none (some (b:Int))=xs.take b:=by
 unfold qU;rw[HT.sIx_nat,HT.sIx_none,iN,gC];by_cases h:b<=xs.length
 .rw[dS h]
 .rw[fS (by lia),b9 (aj _),b9 (by lia)]
def Dh {z a:Int}{B:Nat}(d:0<=z)(c:z<(B:Int))(b:a.natAbs<B):(pl z a).natAbs<B:=by
 by_cases h:z=0
 .subst h;exact b
 .have:=BW (z:=z) (n:=a) (by lia);lia
def YT (h:a*b+c<9000):2^c*(2^a)^b<2^9000:=by rw[<- Nat.pow_mul,<- jn];exact a7 (by decide) (by lia)
def VF {x:Int}{xs:Li}(b:x.natAbs<=2^100)(h:xs.length<=80)(a:∀n∈xs,n.natAbs<=2^200):(ev xs x).natAbs<2^9000:=by refine aO (RZ b (du (by decide)) xs a) ?_;refine aO (fH (fH (aA h (show 80<=2^7 by decide)) (aj _)) (cS (du (by decide)) h)) ?_;rw[<- jn];exact YT (by decide)
def Q0 {a:Type}{xs:List a}{i:Nat}{n:a}(h:i<xs.length)(e:xs[xs.length-1-i]?=some n):xs.drop (xs.length-(i+1))=n::xs.drop (xs.length-i):=by
 have l:xs.length-(i+1)<xs.length:=by lia
 have b:xs.length-1-i=xs.length-(i+1):=by lia
 have c:xs.length-(i+1)+1=xs.length-i:=by lia
 rw[b,ac l]at e;rw[eM l,c,aE e]
end L3
namespace L2
open PySem PySem.Spec PyProof.Rows
def sG {a:Type}(xs:List a)(l h s:Option Int):List a:=(sliceRange (sliceBounds l h s xs.length).1 (sliceBounds l h s xs.length).2.1 (sliceBounds l h s xs.length).2.2).filterMap λk=>xs[k]?
def yH (r:Vals xs its):∀l:List Nat,Vals (l.filterMap λk=>xs[k]?) (l.filterMap λk=>its[k]?)
 |[]=>.nil
 |k::l=>by
  rw[bA,bA];cases e:xs[k]? with
  |none=>rw[r.none_of e];exact yH r l
  |some x=>obtain⟨u,a,b⟩:=r.get e;rw[a];exact .cons b (yH r l)
def VJ (xs:List c)(b a s:Option Int):(sG xs b a s).length<=xs.length:=by
 unfold sG;have h:=slicePick_size_le (xs.map λ_=>Value.none).toArray b a s;unfold slicePick at h;rw[aw,aw,aa]at h;refine aA (jf ?_) h;generalize sliceRange _ _ _=l
 induction l with
 |nil=>rfl
 |cons k l i=>
  rw[bA,bA,io,aq];cases xs[k]? with
  |none=>exact i
  |some x=>simp only[dO,aR,i]
def Vk (f:b->β)(xs:List b)(a h s:Option Int):sG (xs.map f) a h s=(sG xs a h s).map f:=by
 unfold sG;rw[aa];generalize sliceRange _ _ _=l
 induction l with
 |nil=>rfl
 |cons k l i=>
  rw[bA,bA,aq];cases xs[k]? with
  |none=>exact i
  |some x=>simp only[dO,bN,i]
section
variable {e S:Expr}{L c:Option Expr}
def ac1 (K:Fg)(t:TE)(m j n:TO):TE:=λb H Q=>t b H λx f=>m b f λl g=>j b g λu i=>n b i λk h=>∃a d,x=.ref a/\SqL K h a d/\k≠some 0/\∀p,h p=none->Q (.ref p) (upd h p (.lst (sG d l u k)))
def Q5 (G:PE X e te)(J:PO X L tl)(N:PO X c th)(M:PO X (some S) tt):PE X (.Subscript e (.Slice L c (some S) p2) pos) (ac1 X.K te tl th tt):=by
 intro p s m H Q I h;refine Subscript_ (thn (G p s m H _ I h) λv s1 ⟨x,w,B,r1,U⟩=>?_);refine wpAny_Slice (thn (J p s1 m w _ B U) λvl s2 ⟨l,y,C,pl,Y⟩=>thn (N p s2 m y _ C Y) λvu s3 ⟨u,z,D,T,Z⟩=>thn (M p s3 m z _ D Z) λvs g ⟨k,A,E,R,q4⟩=>?_);obtain⟨a,t,rfl,O,h0,q⟩:=q4;cases r1;have n:Inv X p m A { g with heap:=g.heap.push { cls:=.type "slice",data:=.fields #[vl,vu,vs] } }:=E.kept (t':=g.toks) λb ob q=>ay _ q;obtain⟨i,r,f,P⟩:=n.list O;have d:=r.length;refine tail_any (ops:=[.ref a,.ref g.heap.objs.size]) f.isList.typeIs slot_list_getitem.lookup ?_ (by with_unfolding_all rfl);refine wpAny_getItem_list_slice f.isList (Heap.IsSliceOf.new ..) pl T R h0 ?_ (by rw[aw]<;>lia);have F:slicePick i.toArray l u k=(sG i l u k).toArray:=by unfold slicePick sG;rw[aw];congr 1;congr 1;funext j;exact io
 rw[F];refine⟨.ref _,_,n.laid (t':=g.toks) (o:=.lst (sG t l u k)) (λb ob q=>ay _ q) (aj _) ?_,rfl,q _ (n.hok.fresh (aj _))⟩;refine⟨aA (VJ t l u k) P,_,0,?_,a8 _ rfl⟩;unfold sG;rw[<- d];exact yH r _
end
end L2
namespace L3
open PySem PySem.Spec PyProof.Rows L2
def QZ {x:Expr}{w u:Option Expr}{g:En->PV}{ns:En->List Int}{m j n:En->Prop}{t o gk:En->Option Int}(A:PE X a (tX X.K G C g))(h:PO X w (WW X.K G m t))(D:PO X u (WW X.K G j o))(F:PO X (some x) (WW X.K G n gk))(E:∀Z,C Z->g Z=.ints (ns Z)\/g Z=.scr (ns Z)) :
  PE X (.Subscript a (.Slice w u (some x) M) pos) (DN X.K G (λZ=>C Z/\m Z/\j Z/\n Z/\gk Z≠some 0) λZ=>sG (ns Z) (t Z) (o Z) (gk Z)):=
 Nm (Q5 A h D F) λB N H Z O Q R c q=>⟨B,Z,O,R,c.1,λv y s d=>⟨B,Z,O,R.grow s,c.2.1,λI b=>⟨B,Z,O,(R.grow s).grow b,c.2.2.1,λJ f=>⟨B,Z,O,((R.grow s).grow b).grow f,c.2.2.2.1,λL i=>by
  have k:∃p,v=.ref p/\SqL X.K y p ((ns Z).map V.int):=by
   rcases E Z c.1 with z|z
   .rw[z]at d;obtain⟨p,e,r⟩:=d;exact⟨p,e,.inl (jF jX r)⟩
   .rw[z]at d;obtain⟨p,e,r⟩:=d;exact⟨p,e,jX.seq r⟩
  obtain⟨p,rfl,r⟩:=k;refine⟨p,_,rfl,((b.trans f).trans i).seq r,c.2.2.2.2,λl h=>q l _ ((((s.trans b).trans f).trans i).trans (same_new h _)) ((((s.trans b).trans f).trans i).free h) ?_⟩;rw[upd_same,Vk]⟩⟩⟩⟩
end L3
namespace FM
open L2
def jz {xs:Li}{n:Nat}(h:xs.length<=n):xs.getD n 0=0:=by rw[gQ,bT h];rfl
def jK {xs:Li}{n:Nat}(h:n<xs.length):xs.getD n 0=xs[n]:=by rw[gQ,ac h];rfl
def getD_at' {xs:Li}{n:Nat}{x:Int}(h:xs[n]?=some x):xs.getD n 0=x:=by rw[gQ,h];rfl
def getD_mem {xs:Li}{n:Nat}(h:n<xs.length):xs.getD n 0∈xs:=by rw[jK h];exact bK h
def mK (f:Int->Int)(h0:f 0=0)(xs:Li)(n:Nat):(xs.map f).getD n 0=f (xs.getD n 0):=by
 by_cases h:n<xs.length
 .rw[jK (by rw[aa];exact h),bi,jK h]
 .rw[jz (by rw[aa];lia),jz (by lia),h0]
def lU (z:Int):pl z 0=0:=by
 unfold pl;split
 .rfl
 .exact jb z
def xP (xs:Li)(x:Int)(n:Nat):(xs++[x]).getD n 0=if n=xs.length then x else xs.getD n 0:=by
 by_cases h:n<xs.length
 .rw[jK (by rw[ai];lia),gP h,ae (by lia),jK h]
 .by_cases h2:n=xs.length
  .subst h2;rw[af rfl,jK (by rw[ai,bv];lia),gJ (aj _)];simp
  .rw[ae h2,jz (by rw[ai,bv];lia),jz (by lia)]
def Qt (xs:Li):xs=[]\/∃ys x,xs=ys++[x]:=by
 by_cases h:xs=[]
 .exact .inl h
 .exact .inr ⟨_,_,(dI h).symm⟩
def FW:∀(k:Nat) (xs:Li),xs.length=k->∀n,(lq xs).getD n 0=xs.getD n 0
 |0,xs,h,n=>by have:xs=[]:=dE.mp h;subst this;rfl
 |k+1,xs,h,n=>by
  rcases Qt xs with rfl|⟨ys,x,rfl⟩
  .rfl
  .by_cases a:x=0
   .subst a;have b:ys.length=k:=by rw[ai,bv]at h;lia
    rw[wO,FW k ys b n,xP];by_cases h2:n=ys.length
    .rw[af h2,jz (by lia)]
    .rw[ae h2]
   .rw[Bh _ a]
def xV (xs:Li)(n:Nat):(lq xs).getD n 0=xs.getD n 0:=FW _ xs rfl n
def lG (xs:List Int):Prop:=xs≠[]->xs.getD (xs.length-1) 0≠0
def CN:∀(k:Nat) (xs:Li),xs.length=k->lG (lq xs)
 |0,xs,h=>by have:xs=[]:=dE.mp h;subst this;intro h;exact absurd rfl h
 |k+1,xs,h=>by
  rcases Qt xs with rfl|⟨ys,x,rfl⟩
  .intro h;exact absurd rfl h
  .by_cases a:x=0
   .subst a;rw[wO];exact CN k ys (by rw[ai,bv]at h;lia)
   .rw[Bh _ a];intro _;rw[xP,af (by rw[ai,bv];lia)];exact a
def tU (xs:Li):lG (lq xs):=CN _ xs rfl
def oh {a b:Li}(d:lG a)(f:lG b)(h:∀n,a.getD n 0=b.getD n 0):a=b:=by
 have l:∀{a b:List Int},lG a->(∀n,a.getD n 0=b.getD n 0)->a.length<=b.length:=λ{a b} d h=>by
  by_cases c:a.length<=b.length
  .exact c
  .have e:a≠[]:=λz=>by subst z;exact c (a9 _)
   exact absurd (by rw[h,jz (by lia)]) (d e)
 have g:a.length=b.length:=iq (l d h) (l f λn=>(h n).symm);refine b7 g λi h1 h2=>?_;have:=h i;rw[jK h1,jK h2]at this;exact this
def J3 (h:∀n,a.getD n 0=b.getD n 0):lq a=lq b:=
 oh (tU a) (tU b) λn=>by rw[xV,xV,h]
def GK {z:Int}{a b:Li}(h:∀n,pl z (a.getD n 0)=pl z (b.getD n 0)):lq (a.map (pl z))=lq (b.map (pl z)):=
 J3 λn=>by rw[mK _ (lU z),mK _ (lU z),h]
def Tz (z:Int)(f:List Int):List Int:=lq (f.map (pl z))
def kh (z:Int)(f:Li)(n:Nat):(Tz z f).getD n 0=pl z (f.getD n 0):=by unfold Tz;rw[xV,mK _ (lU z)]
def lA (z:Int)(f:Li):(Tz z f).length<=f.length:=by unfold Tz;refine aA (EY _) ?_;rw[aa];exact aj _
def mem_getD {xs:Li}{m:Int}(h:m∈xs):∃n,n<xs.length/\xs.getD n 0=m:=by obtain⟨n,h1,h2⟩:=List.getElem_of_mem h;exact⟨n,h1,by rw[jK h1,h2]⟩
def abk {z:Int}{f:Li}{m:Int}(h:m∈Tz z f):∃k∈f,m=pl z k:=by obtain⟨n,h1,h2⟩:=mem_getD h;rw[kh]at h2;exact⟨f.getD n 0,getD_mem (aF h1 (lA z f)),h2.symm⟩
def sm:Nat->(Nat->Int)->Int
 |0,_=>0
 |n+1,f=>sm n f+f n
def jG:∀{n:Nat},(∀i,i<n->f i=g i)->sm n f=sm n g
 |0,_=>rfl
 |n+1,h=>by show sm n f+f n=sm n g+g n;rw[jG λi a=>h i (by lia),h n (by lia)]
def m9:∀{n:Nat},(∀i,i<n->f i=0)->sm n f=0
 |0,_=>rfl
 |n+1,h=>by show sm n f+f n=0;rw[m9 λi a=>h i (by lia),h n (by lia)];rfl
def Ax:∀{m:Nat},n<=m->(∀i,n<=i->i<m->f i=0)->sm m f=sm n f
 |0,h,_=>by
  have:n=0:=by lia
  subst this;rfl
 |m+1,h,z=>by
  by_cases c:n=m+1
  .subst c;rfl
  .show sm m f+f m=sm n f;rw[z m (by lia) (by lia),bC];exact Ax (by lia) λi h1 h2=>z i h1 (by lia)
def qK (f:Nat->Int):∀n,sm (n+1) f=f 0+sm n λi=>f (i+1)
 |0=>by show 0+f 0=f 0+0;lia
 |n+1=>by show sm (n+1) f+f (n+1)=f 0+(sm n (λi=>f (i+1))+f (n+1));rw[qK f n];lia
def Uj (f:Nat->Int):∀n,sm (n+1) f=sm (n+1) λi=>f (n-i)
 |0=>rfl
 |n+1=>by
  rw[qK (λi=>f (n+1-i)) (n+1)];show sm (n+1) f+f (n+1)=f (n+1-0)+sm (n+1) λi=>f (n+1-(i+1));rw[Uj f n,gC];have:sm (n+1) (λi=>f (n-i))=sm (n+1) λi=>f (n+1-(i+1)):=jG λi _=>by rw[Nat.add_sub_add_right]
  lia
def ZL:∀{n:Nat},(∀i,i<n->pl z (f i)=pl z (g i))->pl z (sm n f)=pl z (sm n g)
 |0,_=>rfl
 |n+1,h=>by show pl z (sm n f+f n)=pl z (sm n g+g n);rw[<- BR,<- Oj,ZL λi a=>h i (by lia),h n (by lia),BR,Oj]
def cm (f g:List Int)(n:Nat):Int:=sm (n+1) λi=>f.getD i 0*g.getD (n-i) 0
def jN (f g:Li)(n:Nat):cm f g n=cm g f n:=by unfold cm;rw[Uj];refine jG λi h=>?_;rw[cg,show n-(n-i)=i by lia]
def Zq (h:∀n,pl z (f.getD n 0)=pl z (f'.getD n 0))(a:∀n,pl z (g.getD n 0)=pl z (g'.getD n 0))(n:Nat):pl z (cm f g n)=pl z (cm f' g' n):=
 ZL λi _=>by rw[<- Bg,<- Aq,h,a,Bg,Aq]
def Jt (f g:List Int)(n i:Nat):Int:=sm i λj=>if j<=n then f.getD j 0*g.getD (n-j) 0 else 0
def QG (f g:Li)(n:Nat){i:Nat}(h:f.length<=i):Jt f g n i=cm f g n:=by
 have e:cm f g n=Jt f g n (n+1):=jG λj a=>by rw[af (by lia)]
 rw[e];unfold Jt;rcases Nat.le_total i (n+1) with c|c
 .refine(Ax c λj h1 h2=>?_).symm;rw[jz (show f.length<=j by lia),bJ];split<;>rfl
 .refine Ax c λj h1 h2=>?_;rw[ae (by lia)]
def Qq {n:Nat}(h:f.length+g.length<=n+1):cm f g n=0:=by
 unfold cm;refine m9 λi a=>?_;by_cases c:i<f.length
 .rw[jz (show g.length<=n-i by lia),aQ]
 .rw[jz (show f.length<=i by lia),bJ]
def jy (f g:List Int):List Int:=(List.range (f.length+g.length)).map (cm f g)
def jx (f g:Li)(n:Nat):(jy f g).getD n 0=cm f g n:=by
 unfold jy;by_cases h:n<f.length+g.length
 .rw[jK (by rw[aa,ag];exact h),bi,bp]
 .rw[jz (by rw[aa,ag];lia),Qq (by lia)]
def R5 {a b:Li}(c:a.length=b.length)(h:∀n,a.getD n 0=b.getD n 0):a=b:=by refine b7 c λi h1 h2=>?_;have:=h i;rw[jK h1,jK h2]at this;exact this
def uE (f g:List Int)(i k:Nat)(r:List Int):Prop:=r.length=f.length+g.length/\∀n,r.getD n 0=Jt f g n i+if i<=n/\n-i<k then f.getD i 0*g.getD (n-i) 0 else 0
def Es (f g:Li):uE f g 0 0 (List.replicate (f.length+g.length) 0):=by
 refine⟨aC,λn=>?_⟩;rw[ae (by lia)];by_cases h:n<f.length+g.length
 .rw[jK (by rw[aC];exact h),ce];rfl
 .rw[jz (by rw[aC];lia)];rfl
def rR (r:Li)(j:Nat)(x:Int)(n:Nat)(h:j<r.length):(r.set j x).getD n 0=if n=j then x else r.getD n 0:=by
 by_cases c:n=j
 .subst c;rw[af rfl,jK (by rw[bn];exact h),List.getElem_set_self]
 .rw[ae c,gQ,eC (by lia),<- gQ]
def Lf (h:uE f g i k row)(e:i<f.length)(j:k<g.length):uE f g i (k+1) (row.set (i+k) (row.getD (i+k) 0+f.getD i 0*g.getD k 0)):=by
 obtain⟨b,a⟩:=h;refine⟨by rw[bn];exact b,λn=>?_⟩;rw[rR _ _ _ _ (by lia)];by_cases c:n=i+k
 .subst c;rw[af rfl,a,ae (by lia),af (by lia),show i+k-i=k by lia];lia
 .rw[ae c,a];by_cases d:i<=n/\n-i<k
  .rw[af d,af (by lia)]
  .rw[ae d,ae (by lia)]
def Js {i:Nat}(h:uE f g i g.length row):uE f g (i+1) 0 row:=by
 obtain⟨a,b⟩:=h;refine⟨a,λn=>?_⟩;rw[b,ae (show ¬(i+1<=n/\n-(i+1)<0) by lia)];show _=Jt f g n i+(if i<=n then f.getD i 0*g.getD (n-i) 0 else 0)+0;by_cases c:i<=n
 .rw[af c];by_cases d:n-i<g.length
  .rw[af ⟨c,d⟩];lia
  .rw[ae (by lia),jz (show g.length<=n-i by lia),aQ];lia
 .rw[ae (by lia),ae c];lia
def row_end {f g r:Li}(h:uE f g f.length 0 r):r=jy f g:=by obtain⟨a,b⟩:=h;refine R5 (by rw[a];unfold jy;rw[aa,ag]) λn=>?_;rw[b,ae (by lia),jx,QG f g n (aj _)];lia
def KJ (z:Int)(f g:Li):Tz z (jy (Tz z f) (Tz z g))=Tz z (jy f g):=
 GK λn=>by rw[jx,jx];exact Zq (λk=>by rw[kh,qQ]) (λk=>by rw[kh,qQ]) n
end FM
section
open PySem PySem.Spec PyProof.Rows
namespace L3
open L2
def abQ (H:Hp):mn H (λ_=>false)=H:=by funext b;exact rO rfl
def QC (K:Fg)(G:Gx)(C:En->Prop)(g:En->PV):TE:=λa H Q=>∃B Z O,Rep K G B a H Z O/\C Z/\∀v h,Same H h -> At K G h (g Z) v->Q v h
section
variable {pl:List Str}
def Wv (h:PE X e (tX X.K G C g)):PE X e (QC X.K G C g):=λp s d H Q I ⟨B,Z,O,R,c,q⟩=>h p s d H Q I ⟨B,Z,O,R,c,λv b s a=>q v b s (At.mono jX _ _ a)⟩
end
end L3
namespace L2
def rF:∀{ns:Li} {its:Lv},Vals (ns.map V.int) its->IntsAre its ns
 |[],_,h=>by cases h;exact .nil
 |n::r,_,h=>by
  cases h with
  |cons a b=>obtain⟨t,rfl⟩:=a;exact .cons n t (rF b)
def abM (g:List Int->List Int->Bool):R2:=λx y H Q=>∃a b n m,x=.ref a/\y=.ref b/\Rd H a (.lst (n.map V.int))/\Rd H b (.lst (m.map V.int))/\Q (.bl (g n m)) H
section
variable {X:Cx}
def Qj (g:X.A.units+64<cLine):OpR X (compareOp .Eq) (abM λns m=>decide (ns=m)):=by rintro p s w H x y v u Q I l o ⟨a,b,ns,m,rfl,rfl,d,f,q⟩;cases l;cases o;obtain⟨_,j,n,r,_,e⟩:=L3.Inv.Dw I d;obtain⟨_,i,t,k,_,c⟩:=L3.Inv.Dw I f;exact W.ke_eq_ints ⟨_,e,rfl,_,rfl⟩ ⟨_,c,rfl,_,rfl⟩ (rF r) (rF k) g ⟨.bl _,H,I,rfl,q⟩
def Yz (g:X.A.units+64<cLine):OpR X (compareOp .NotEq) (abM λns m=>decide (¬ns=m)):=by rintro p s w H x y v u Q I l o ⟨a,b,ns,m,rfl,rfl,d,f,q⟩;cases l;cases o;obtain⟨_,j,n,r,_,e⟩:=L3.Inv.Dw I d;obtain⟨_,i,t,k,_,c⟩:=L3.Inv.Dw I f;have q:Q (.bl (decide (¬ns=m))) H:=q;rw[gK]at q;exact W.ke_ne_ints ⟨_,e,rfl,_,rfl⟩ ⟨_,c,rfl,_,rfl⟩ (rF r) (rF k) g ⟨.bl _,H,I,rfl,q⟩
def aaY:bootBuiltins "sum"=some (.builtin "sum"):=by decide +kernel
def Q9 (g:X.calm=true):CallR X (.builtin "sum") (λxs H Q=>∃(a:Addr) (ns:Li),xs=[.ref a]/\Rd H a (.lst (ns.map V.int))/\Q (.int ns.sum) H):=by
 rintro p s v H xs o Q I l ⟨a,ns,rfl,f,q⟩;obtain⟨u,rfl,k⟩:=vals1 l;cases k;obtain⟨_,i,n,r,_,e⟩:=L3.Inv.Dw I f;have d:=rF r;obtain⟨xs,c⟩:=d.allInts.items;have b:(numsOf i.toArray.toList).sum=ns.sum:=by rw[show i.toArray.toList=i from rfl,d.numsOf]
 rw[c,nums_intItems]at b;refine sum_intListG (xs:=xs) (I.ok.hd g) ⟨_,e,rfl,_,by rw[c]⟩ λm t t' j=>?_;refine⟨.int ns.sum,H,I.kept (t':=t) j,⟨t',?_⟩,q⟩;rw[preSum_eq,b9 (by simp),b]
end
def Itz (K:Fg)(a b:Addr):It:=
 ⟨λi H=>∃c d x y,SqL K H a c/\SqL K H b d/\c[i]?=some x/\d[i]?=some y,λi H v h=>∃T x y,v=.ref T/\H T=none/\h=upd H T (.tup [x,y])/\(∀c,SqL K H a c->c[i]?=some x)/\∀d,SqL K H b d->d[i]?=some y,λi H=>∃c d,SqL K H a c/\SqL K H b d/\(c.length<=i\/d.length<=i)⟩
def Vh {P:Program}{w:World}{K:Fg}{S:List Expr}{kk:Nat}{tp:Pos}(a b z TI TO G r:Addr)(D:ZipApart z TI TO G r a b) :
  Turn P w K (.Tuple S kk tp) (Itz K a b) [z,TI,TO,G,r] z (λi h=>IsZip h z TI TO .none/\IsPair h TI (.ref G) (.ref r)/\(∃u v,IsPair h TO u v)/\h.IsListIter G a i/\h.IsListIter r b i) where
 mem:=by simp
 obj:=λi h n c d=>by
  obtain⟨m,f,⟨u,v,g⟩,⟨o1,q1,_,d1⟩,⟨o2,q2,_,d2⟩⟩:=n;rcases aG.mp d with rfl|d
  .exact⟨_,m,λv y=>by cases y⟩
  rcases aG.mp d with rfl|d
  .exact⟨_,f,λv y=>by cases y⟩
  rcases aG.mp d with rfl|d
  .exact⟨_,g,λv y=>by cases y⟩
  rcases aG.mp d with rfl|d
  .exact⟨o1,q1,λv y=>by rw[d1]at y;cases y⟩
  .have e:c=r:=by simpa using d
   subst e;exact⟨o2,q2,λv y=>by rw[d2]at y;cases y⟩
 keep:=λi h T n k=>by obtain⟨m,f,⟨u,v,g⟩,h1,h2⟩:=n;exact⟨k z (by simp) _ m,k TI (by simp) _ f,⟨u,v,k TO (by simp) _ g⟩,h1.at λo q=>k G (by simp) o q,h2.at λo q=>k r (by simp) o q⟩
 item:=by
  intro X hP hw Z d i p s σ H E I N n hg;subst hP hw Z;obtain⟨xs,ys,x,y,j,l,R,hy⟩:=hg;obtain⟨m,f,⟨p0,q0,g⟩,h1,h2⟩:=n;obtain⟨its,rv,pa,hza⟩:=I.list j;obtain⟨u,hu,ru⟩:=rv.get R;obtain⟨L,F,pb,hzb⟩:=I.list l;obtain⟨u2,hu2,ru2⟩:=F.get hy;refine wpAny_pyNext_zip_item D m f g h1 h2 pa.isList pb.isList (x:=u) (y:=u2) (by simpa using hu) (by simpa using hu2) λT hz' J U Y hT hsz O=>⟨_,rfl,?_⟩;refine wpAny_letOwnedTupleGo_zip hz' λt hz2 B=>?_;have Tz:s.heap.objs.size≠z:=dP (az m);have C:∀c o,c∉[z,TI,TO,G,r]->s.heap.get? c=some o->t.get? c=some o:=λc o d q=>by have M:c≠z:=λe=>d (by simp[e]);exact(B.2 c M).trans (O c o M (λe=>d (by simp[e])) (λe=>d (by simp[e])) (λe=>d (by simp[e])) q)
  have I1:Inv X p σ H { s with heap:=t,toks:=s.toks }:=I.vD N C;have fT:FpOk X p H s.heap.objs.size:=I.fpOk (aj _) (I.hok.fresh (aj _));have I2:=I1.track (o:=.tup [x,y]) fT ⟨by show 2<=sizeLine;decide,[u,u2],.cons ru (.cons ru2 .nil),⟨_,(B.2 _ Tz).trans hT,rfl,_,rfl⟩⟩;have up:∀c o,c≠z->T.get? c=some o->t.get? c=some o:=λc o M q=>(B.2 c M).trans q;refine⟨.ref s.heap.objs.size,_,I2,rfl,⟨_,x,y,rfl,fT.1,rfl,λzs hq=>by rw[I.list_inj hq j];exact R,λzs hq=>by rw[I.list_inj hq l];exact hy⟩,⟨hz2,?_,⟨u,u2,up _ _ D.TOz J⟩,U.at λo q=>up _ o D.i1z q,Y.at λo q=>up _ o D.i2z q⟩,λc d=>?_⟩
  .exact up _ _ D.TIz (O _ _ D.TIz D.TITO D.TIi1 D.TIi2 f)
  .have lt:c<s.heap.objs.size:=by
    rcases aG.mp d with rfl|d
    .exact az m
    rcases aG.mp d with rfl|d
    .exact az f
    rcases aG.mp d with rfl|d
    .exact az g
    rcases aG.mp d with rfl|d
    .obtain⟨o,q,_⟩:=h1;exact az q
    .have e:c=r:=by simpa using d
     subst e;obtain⟨o,q,_⟩:=h2;exact az q
   rw[upd_ne (bh lt)];exact(N c d).1
 done:=by
  intro X hP hw Z d i p s σ H E I N n hg;subst hP hw Z;obtain⟨xs,ys,j,l,R⟩:=hg;obtain⟨m,f,⟨p0,q0,g⟩,h1,h2⟩:=n;obtain⟨its,rv,pa,hza⟩:=I.list j;obtain⟨L,F,pb,hzb⟩:=I.list l;have hl:=rv.length;have hl2:=F.length;refine wpAny_pyNext_zip_end (I.ok.hd d) D m f g h1 h2 pa.isList pb.isList ?_ λT O=>⟨rfl,I.vD (t':=s.toks) N λc o d q=>O c o (λe=>d (by simp[e])) (λe=>d (by simp[e])) (λe=>d (by simp[e])) (λe=>d (by simp[e])) q⟩;rcases R with h|h
  .exact .inl (by simp;lia)
  .exact .inr (by simp;lia)
 self:=λA i s Q E n h=>wpAny_pyIter_zip n.1 h
def Z9:bootBuiltins "zip"=some (.type "zip"):=by decide +kernel
def W0 (K:Fg)(t:TA):TI:=λc H R=>t c H λv h=>∃a b,v=[.ref a,.ref b]/\(∃x,SqL K h a x)/\(∃x,SqL K h b x)/\R (Itz K a b) h
def GD {X:Cx}{j:List Expr}{Z:Nat}{tp:Pos}{l g:Expr}{G:TA}{p pos:Pos}(N:Gl X "zip")(P:X.mg "zip"=none)(M:PA X [l,g] G)(Q:starEach [l,g] X.env=(false,eval l X.env)::starEach [g] X.env:=by rfl)(t:(backTo pos (starEach [g] X.env)).any (·.1)=false:=by rfl) :
  PI X (.Tuple j Z tp) (.Call (.Name "zip" p) [l,g] [] pos) (W0 X.K G):=by
 intro f s J H R I h;refine Call_ (ld_blt I N P Z9 (cf (thn (M pos f s J H _ I h) λus d ⟨vs,y,i,r1,q1⟩=>?_) Q t));obtain⟨a,b,rfl,⟨xs,v⟩,⟨ys,w⟩,q⟩:=q1;obtain⟨u,u2,rfl,ru,x⟩:=vals2 r1;cases ru;cases x;obtain⟨Y,rv,E,T⟩:=i.list v;obtain⟨B,rv2,F,U⟩:=i.list w;have la:a<d.heap.objs.size:=by obtain⟨o,e,_⟩:=E.isList;exact az e
 have lb:b<d.heap.objs.size:=by obtain⟨o,e,_⟩:=F.isList;exact az e
 refine call_zip_2 E.isList F.isList λh1 A n r k m S O=>?_;refine wpAny_pyIter_zip A ?_;have L:Inv X f J y { d with heap:=h1 }:=i.kept (t':=d.toks) O;have D:ZipApart (d.heap.objs.size+4) (d.heap.objs.size+2) (d.heap.objs.size+3) d.heap.objs.size (d.heap.objs.size+1) a b:=by have la':@LT.lt Nat _ a d.heap.objs.size:=la;have lb':@LT.lt Nat _ b d.heap.objs.size:=lb;constructor<;>(show @Ne Nat _ _)<;>lia
 refine⟨_,[d.heap.objs.size+4,d.heap.objs.size+2,d.heap.objs.size+3,d.heap.objs.size,d.heap.objs.size+1],_,_,y,rfl,L,Vh a b _ _ _ _ _ D,⟨A,n,⟨_,_,r⟩,k,m⟩,λc z=>?_,q⟩;have C:d.heap.objs.size<=c:=by simp only[aG,List.not_mem_nil,or_false]at z;rcases z with h|h|h|h|h<;>rw[h]<;>first|exact aj _|exact Nat.le_add_right _ _
 exact i.fpOk C (i.hok.fresh C)
end L2
namespace L3
open L2
section
variable {X:Cx}{d f:En->List Int}
def Sd (R:Rep X.K G B o H Z O)(i:c Z)(j:C Z)(q:∀l m a h,Same H a->Same a h->Rd h l (.lst ((d Z).map V.int))->Rd h m (.lst ((f Z).map V.int))->r (.ref l) (.ref m) h Q) :
  tOp r (QC X.K G c λZ=>.ints (d Z)) (QC X.K G C λZ=>.ints (f Z)) o H Q:=
 ⟨B,Z,O,R,i,λv a s e=>⟨B,Z,O,R.grow s,j,λu h b g=>by
  obtain⟨l,rfl,k⟩:=e;obtain⟨m,rfl,n⟩:=g;exact q l m a h s b (jF b k) n⟩⟩
def Wg (j:X.A.units+64<cLine)(g:PE X a (QC X.K G C λZ=>.ints (d Z)))(i:PE X b (QC X.K G e λZ=>.ints (f Z))):PE X (.Compare a [.Eq] [b] pos) (RK X.K G (λZ=>C Z/\e Z) λZ=>d Z=f Z):=
 uI (pe_cmpR (Qj j) g i (nomark _)) λ_ _ _ _ _ _ R c q=>Sd R c.1 c.2 λl m _ h s n r k=>⟨l,m,_,_,rfl,rfl,r,k,q _ h (s.trans n) rfl⟩
def aaf (j:X.A.units+64<cLine)(g:PE X a (QC X.K G C λZ=>.ints (d Z)))(i:PE X b (QC X.K G e λZ=>.ints (f Z))):PT X (.Compare a [.Eq] [b] pos) (vB X.K G (λZ=>C Z/\e Z) λZ=>d Z=f Z):=
 λp s t H Q I ⟨_,_,_,R,c,q⟩=>pt_cmpR (Qj j) g i (nomark _) p s t H Q I (Sd R c.1 c.2 λl m _ h n o r k=>⟨l,m,_,_,rfl,rfl,r,k,_,rfl,q h (n.trans o)⟩)
def aaM (j:X.A.units+64<cLine)(g:PE X a (QC X.K G C λZ=>.ints (d Z)))(i:PE X b (QC X.K G e λZ=>.ints (f Z))):PT X (.Compare a [.NotEq] [b] pos) (vB X.K G (λZ=>C Z/\e Z) λZ=>¬d Z=f Z):=
 λp s t H Q I ⟨_,_,_,R,c,q⟩=>pt_cmpR (Yz j) g i (nomark _) p s t H Q I (Sd R c.1 c.2 λl m _ h n o r k=>⟨l,m,_,_,rfl,rfl,r,k,_,rfl,q h (n.trans o)⟩)
def aaz (h:X.calm=true)(k:X.mg "sum"=none)(i:PE X a (GF X.K G C d))(j:Gl X "sum":=by rfl)(b:starEach [a] X.env=[(false,eval a X.env)]:=by rfl):PE X (.Call (.Name "sum" p) [a] [] pos) (mC X.K G C λZ=>(d Z).sum):=
 uI (pe_callB (Q9 h) j k aaY (pa_cons i pa_nil b) (by decide) (by decide) b rfl) λB m H Z O Q R c q=>⟨B,Z,O,R,c,λv e s g=>by
  obtain⟨l,rfl,r⟩:=g;exact⟨l,_,rfl,jF jX r,q _ e s rfl⟩⟩
def Dz:PV->Int
 | .int n=>n
 |_=>0
def kW:PV->List Int
 | .ints n=>n
 |_=>[]
def sU (h:PE X e (tX X.K G C g)):PE X e (mC X.K G (λZ=>C Z/\g Z=.int (Dz (g Z))) λZ=>Dz (g Z)):=
 uI h λB i H Z O Q R c q=>⟨B,Z,O,R,c.1,λv b s a=>q v b s (by rw[<- c.2];exact a)⟩
def xl_of (h:PE X e (tX X.K G C g)):PE X e (GF X.K G (λZ=>C Z/\g Z=.ints (kW (g Z))) λZ=>kW (g Z)):=
 uI h λB i H Z O Q R c q=>⟨B,Z,O,R,c.1,λv b s a=>q v b s (by rw[<- c.2];exact a)⟩
def rM:PV->List PV
 | .lst x=>x
 |_=>[]
def nA (h:PE X e (tX X.K G C g)):PE X e (tX X.K G (λZ=>C Z/\g Z=.lst (rM (g Z))) λZ=>.lst (rM (g Z))):=
 uI h λB i H Z O Q R c q=>⟨B,Z,O,R,c.1,λv b s a=>q v b s (by rw[<- c.2];exact a)⟩
def Y0 (s:PE X e (tX X.K G C g))(h:PG X (.Tuple [.Name x p,.Name y a] kk tp) (gTup X.K 2 (gCons (gName i) (gCons (gName j) gNil))))
  (z:swapsWithSole [.Tuple [.Name x p,.Name y a] kk tp] e pos.line X.env=pure false:=by rfl) (A:swappedStores [.Tuple [.Name x p,.Name y a] kk tp] e X.env=pure none:=by rfl)
  (h1:(assignEach [.Tuple [.Name x p,.Name y a] kk tp] X.env).map (·.2)=[assign (.Tuple [.Name x p,.Name y a] kk tp) X.env]:=by rfl) :
  PS X (.Assign [.Tuple [.Name x p,.Name y a] kk tp] e pos) (ts X.K G F λP Z=>C Z/\∃u v,g Z=.tup [u,v]/\P.nx ((Z.set i (.fr u)).set j (.fr v))):=
 toS (ps_asg s h z A h1) λB Q H Z O P D R c w=>by obtain⟨o,u,v,r,q⟩:=c;refine⟨B,Z,O,R,o,λt k E b=>?_⟩;rw[r]at b;obtain⟨l,N,rfl,f,L,I,rfl,m,M,J,rfl,n,rfl⟩:=b;exact⟨l,_,rfl,SqT.of (jX _ _ f),rfl,_,_,rfl,_,_,rfl,rfl,w.nx _ k _ ⟨O,((R.grow E).set m).set n⟩ q⟩
end
def XD {H:Hp}{O:Addr->Bool}{x:Addr}(b:∀a,O a=true->H a≠none)(c:H x=none){h:Hp}:mn h O x=h x:=rO (by
 cases z:O x with
 |false=>rfl
 |true=>exact absurd c (b x z))
def Xe (h:H x=none)(a:H dx=none):Same H (upd (upd (upd H dx (.own x)) x (.ins C dx [])) x (.ins C dx fs)):=um λb o e=>by rw[upd_ne (ne_of_none e h),upd_ne (ne_of_none e h),upd_ne (ne_of_none e a)];exact e
def KW (c:Addr)(H:Hp)(a:Addr)(z:Int):Prop:=z=0/\∃d fs,H a=some (.ins c d fs)/\fs.lookup ("size":Str)=some (.int 0)/\∀m∈Df,fs.lookup m=none
section
variable {K:Fg}
variable {a:Type}{pt:En->Prop}[∀Z,Decidable (pt Z)]
def Jx (c:List a)(j:a->V->L2.St)(s:a->En)(w:a->V)(R:Rep K G B I n Z O)(N:n D=none)(Y:c.length<=10000)(S:∀i H,i<c.length->Same n H->J.go i H)
  (F:∀i f x H l,c[i]?=some f->Same n H->J.yld i H x l -> Same H l/\∀k:L2.St->Hp->Prop,k (j f (w f)) l -> g x (pK cap I) l k) (r:∀H,Same n H->J.stop c.length H)
  (E:∀f H,f∈c->Same n H->Rep K G ⟨n,O⟩ (pK cap I) H (jW cap Z) (hide D O)->Rep K G ⟨n,O⟩ (j f (w f)) H (s f) (hide D O)) (A:∀f,Bq (pK cap I) (j f (w f))) (M:∀f∈c,Ct (s f)) (hC:∀f∈c,pt (s f)->C (s f))
  (hQ:∀l ys,Same n l -> l D=some (.lst ys)->mX K G (mn l (hide D O)) ((c.filter λf=>decide (pt (s f))).map λf=>U (s f)) ys->Q (.ref D) l) :
  ∃W:Nat->Nat->List V->Hp->Prop,(∃m,W 0 m [] (upd n D (.lst [])))/\lcW D J (pK cap I) g (vB K G Ct pt) (tX K G C U) Q W:=by
 refine⟨λi m ys H=>m=c.length-i/\i<=c.length/\Same n H/\H D=some (.lst ys)/\mX K G (mn H (hide D O)) (((c.take i).filter λf=>decide (pt (s f))).map λf=>U (s f)) ys,⟨c.length,by simp,a9 _,same_new N _,upd_same,rfl⟩,?_⟩;rintro i m ys H ⟨rfl,hi,p,P,y⟩;have hl:ys.length<=i:=by rw[<- y.length,aa];refine aA (c6 _ _) ?_;rw[aI];lia
 refine⟨P,aO (show ys.length<=10000 by lia) (by decide),?_⟩;by_cases h:i<c.length
 .refine .inr ⟨S i H h p,?_⟩;intro x l hy;have L:c[i]?=some c[i]:=ac h;obtain⟨t,kk⟩:=F i _ x H l L p hy;refine kk _ ⟨A _,?_⟩;have q:=t _ _ P;have R2:=E c[i] l (bK h) (p.trans t) (Ga R N (p.trans t) (by rw[q];exact λz=>by cases z));refine⟨_,_,_,R2,M _ (bK h),λH3 u=>?_⟩;by_cases d:pt (s c[i])
  .rw[aK d];refine iteT ?_;refine⟨_,_,_,R2.grow u,hC _ (bK h) d,λv H2 T a2=>⟨T _ _ (u _ _ q),c.length-(i+1),by lia,rfl,h,?_,upd_same,?_⟩⟩
   .intro b o z;rw[upd_ne (ne_of_none z N)];exact(((p.trans t).trans u).trans T) b o z
   .rw[Iv hide_self,pJ L,gD,cH (by exact aK d),bF];exact mX.snoc (mX.mono (lQ ((t.trans u).trans T)) _ _ y) a2
  .rw[aM d];refine iteF ?_;refine⟨c.length-(i+1),by lia,rfl,h,p.trans (t.trans u),u _ _ q,?_⟩;rw[pJ L,gD,cI (by simpa using d),f9,bu];exact mX.mono (lQ (t.trans u)) _ _ y
 .have e:i=c.length:=by lia
  subst e;refine .inl ⟨r H p,hQ H ys p P ?_⟩;rw[cU]at y;exact y
end
section
variable {K:Fg}{pt:En->Prop}[∀Z,Decidable (pt Z)]{g c:En->List Int}
def adb (h:zE K G (λZ=>(P Z/\C Z)/\(g Z).length<=1000/\∀n m,(n,m)∈(g Z).zip (c Z)->N (((jW (none::none::cap) Z).set 0 (.fr (.int n))).set 1 (.fr (.int m)))) (λZ=>((g Z).zip (c Z)).map λp=>gp (((jW (none::none::cap) Z).set 0 (.fr (.int p.1))).set 1 (.fr (.int p.2)))) M H Q) :
  RG (none::none::cap) (W0 K (tCons (QC K G P λZ=>.ints (g Z)) (tCons (QC K G C λZ=>.ints (c Z)) tNil))) (gTup K 2 (gCons (gName 0) (gCons (gName 1) gNil))) ul (tX K G N gp) M H Q:=by
 obtain⟨B,Z,O,R,⟨⟨c1,r⟩,c2,c3⟩,q⟩:=h;refine⟨B,Z,O,R,c1,λv H1 l U=>⟨B,Z,O,R.grow l,r,λu F o Y=>?_⟩⟩;obtain⟨a,rfl,hq⟩:=U;obtain⟨b,rfl,w⟩:=Y;have e:SqL K F a ((g Z).map V.int):=.inl (jF o hq);have f:SqL K F b ((c Z).map V.int):=.inl w;refine⟨a,b,rfl,⟨_,e⟩,⟨_,f⟩,λD L=>?_⟩;have A:((g Z).zip (c Z)).length=min (g Z).length (c Z).length:=dB;have d:∀i,i<((g Z).zip (c Z)).length->i<(g Z).length/\i<(c Z).length:=λi h=>by rw[A]at h;lia
 refine rY ((g Z).zip (c Z)) (λp _=>((pK (none::none::cap) M).set 0 (some (.int p.1))).set 1 (some (.int p.2))) (λp=>((jW (none::none::cap) Z).set 0 (.fr (.int p.1))).set 1 (.fr (.int p.2))) (λp=>.int p.1) ((R.grow l).grow o) L (by rw[A];lia)
  (λi H k s=>⟨_,_,.int ((g Z)[i]'(d i k).1),.int ((c Z)[i]'(d i k).2),s.seq e,s.seq f,by simp[(d i k).1],by simp[(d i k).2]⟩) ?_ (λH s=>⟨_,_,s.seq e,s.seq f,by rw[A,aa,aa];lia⟩) (λp H _ s S=>(S.set (p:=.int p.1) rfl).set (p:=.int p.2) rfl) ?_ ?_ ?_
 .rintro i ⟨n,m⟩ x H E j s ⟨T,y,y',rfl,hT,rfl,hx,z⟩;obtain⟨n',rfl,hn⟩:=int_at (hx _ (s.seq e));obtain⟨m',rfl,t⟩:=int_at (z _ (s.seq f));have j:(n',m')=(n,m):=by rw[List.getElem?_zip_eq_some]at j;have I:=j.1;have J:=j.2;rw[hn]at I;rw[t]at J;rw[aE I,aE J]
  cases j;exact⟨same_new hT _,λkk hk=>⟨T,_,rfl,SqT.of upd_same,rfl,_,_,rfl,_,_,rfl,rfl,hk⟩⟩
 .rintro⟨n,m⟩;exact nq _
 .rintro⟨n,m⟩ t;exact c3 n m t
 .intro E ys s hd al;exact q D ys E ((l.trans o).trans s) ((l.trans o).free L) hd al
end
section
variable {pt:En->Prop}[∀Z,Decidable (pt Z)]{g a:En->List Int}
def aar (L:uH X N' sc cl (none::none::cap))(t:X.calm=true)(j:Gl X "zip")(w:X.mg "zip"=none)(h1:PE X l (QC X.K G q λZ=>.ints (g Z)))(h2:PE X c (QC X.K G C λZ=>.ints (a Z)))(v:∀s H fp,PG (jO X N' sc cl s H fp) (.Tuple els kk tp) (gTup X.K 2 (gCons (gName 0) (gCons (gName 1) gNil))))(u:∀s H fp,PE (jO X N' sc cl s H fp) r (mC X.K G o gi))
  (d:starEach [l,c] X.env=(false,eval l X.env)::starEach [c] X.env:=by rfl) (e:starEach [c] X.env=[(false,eval c X.env)]:=by rfl) (k:(backTo b (starEach [c] X.env)).any (·.1)=false:=by rfl) (i:∀x,foldedSetIterable (.Call (.Name "zip" p) [l,c] [] b) X.env x=pure x:=by intro _;rfl) :
  PE X (.ListComp r [⟨.Tuple els kk tp,.Call (.Name "zip" p) [l,c] [] b,[],0⟩] sc at') (DN X.K G (λZ=>(q Z/\C Z)/\(g Z).length<=1000/\∀n m,(n,m)∈(g Z).zip (a Z)->o (((jW (none::none::cap) Z).set 0 (.fr (.int n))).set 1 (.fr (.int m)))) λZ=>((g Z).zip (a Z)).map λp=>gi (((jW (none::none::cap) Z).set 0 (.fr (.int p.1))).set 1 (.fr (.int p.2)))):=
 λf s y H Q I h=>vY L t (GD j w (pa_cons h1 (pa_cons h2 pa_nil e) d) d k) v (λ_ _ _=>oR) u i f s y H Q I (adb (zg h))
end
def abS {P:Program}{w:World}{K:Fg}{mg:Mg}{base:Heap}{G:Gx}{k:Nat}{x:Str}{g:Stmt}{N:Ls}{f:Addr}{i:FuncData}{y:Str}(F:Fun K x x g f i)(S:FnScope N [y] (defScope g))
  (e:∀(d:Value) (A:Around) (outer:List Env) (s:Shared) (H:Hp) (E:XK),Room k (A.deeper (envOfC x (defScope g) s.heap.objs.size f d)) -> ∃fs,PSs (cxOf CX0 P w K mg base N x (defScope g) f d A outer s H E).nox (defBody g) (ts K G ER0 fs)/\∀ns:List Int,ns.length<=63->(∀m∈ns,Builtin.Int.intBits m<=2^20)->fs { nx:=λ_=>False,rt:=λp=>p=.bl true } (oH N [.scr ns])):FnOk P w K mg base CX0 (k+1) f i [y] (zp K):=by
 refine F.ok S (λB H Q E h=>?_) λd A outer s H B Q E u h=>?_
 .obtain⟨a,ns,rfl,_⟩:=h;rfl
 obtain⟨a,ns,rfl,o,t,r,q⟩:=h;obtain⟨fs,b,c⟩:=e d A outer s H E u;have n:mX K G (mn H λ_=>false) [.scr ns] [.ref a]:=⟨_,_,rfl,⟨a,rfl,by rw[abQ];exact o⟩,rfl⟩;refine⟨_,b,⟨H,λ_=>false⟩,oH N [.scr ns],_,⟨_,tW (λ_ z=>by cases z) n⟩,c ns t r,⟨λ_ _ _ _ h=>h.elim,λv j p C l h=>?_,λ_ _ _ _ _ _ h=>h.elim,λ_ _ _ _ _ h=>h.elim,λ_ _ _ _ h=>h,λ_ _ _ _ h=>h,λ_ _ _ h=>h⟩⟩;subst h;subst l;exact q j
end L3
end
namespace FM
open L2
structure Eu (n z b r sb s:Int):Prop where
 r0:0<=r
 rb:r<b
 bz:b<=z
 db:z ∣ b-sb*n
 dr:z ∣ r-s*n
 gc:Int.gcd b r=Int.gcd n z
 sg:(sb<=0/\0<=s)\/(0<=sb/\s<=0)
 id:(s.natAbs:Int)*b+(sb.natAbs:Int)*r=z
def PX (n z:Int):Int.gcd z (n % z)=Int.gcd n z:=by rw[jh,Int.gcd_sub_mul_left_right,Int.gcd_comm]
def Eu.start (h:2<=z):Eu n z z (n % z) 0 1:=by
 refine⟨bw _ (by lia),bc _ (by lia),Int.le_refl _,?_,?_,PX n z,.inl ⟨by lia,by lia⟩,?_⟩
 .rw[bJ,aJ];exact fJ z
 .rw[cj,jh];exact⟨-(n / z),by rw[iX];lia⟩
 .show(1:Int)*z+((0:Int).natAbs:Int)*(n % z)=z;rw[cj];show z+(0:Int)*(n % z)=z;rw[bJ];lia
def Eu.rest {b r:Int}(h:0<r):b-b / r*r=b % r:=by rw[jh,cg]
def Eu.step {n z b r a s:Int}(h:Eu n z b r a s)(k:r≠0):Eu n z r (b-b / r*r) s (a-b / r*s):=by
 have f:0<r:=by have:=h.r0;lia
 have q:0<=b / r:=Int.ediv_nonneg (by have:=h.rb;lia) (by lia);have d:=Eu.rest (b:=b) f;have abs:((a-b / r*s).natAbs:Int)=(a.natAbs:Int)+b / r*(s.natAbs:Int):=by
  rcases h.sg with⟨h1,h2⟩|⟨h1,h2⟩
  .have g:0<=b / r*s:=iO q h2;have c:(s.natAbs:Int)=s:=by lia
   rw[c];lia
  .have g:b / r*s<=0:=b8 q h2;have c:(s.natAbs:Int) = -s:=by lia
   rw[c,iX];lia
 refine⟨?_,?_,by have:=h.rb;have:=h.bz;lia,h.dr,?_,?_,?_,?_⟩
 .rw[d];exact bw _ (by lia)
 .rw[d];exact bc _ f
 .obtain⟨u,i⟩:=h.db;obtain⟨v,j⟩:=h.dr;refine⟨u-b / r*v,?_⟩;have e:b-b / r*r-(a-b / r*s)*n=(b-a*n)-b / r*(r-s*n):=by rw[gf,cr,bH];lia
  rw[e,i,j,cr,gR]
 .rw[d,<- h.gc,PX]
 .rcases h.sg with⟨h1,h2⟩|⟨h1,h2⟩
  .exact .inr ⟨h2,by have:=iO q h2;lia⟩
  .exact .inl ⟨h2,by have:=b8 q h2;lia⟩
 .rw[abs,<- h.id,eS,cr,bH,cg (b / r) ((s.natAbs:Int)*r),bH,cg r (b / r)];lia
def Eu.end (h:Eu n z b 0 sb s):b=(Int.gcd n z:Int):=by have:=h.gc;rw[Int.gcd_zero_right]at this;have:=h.rb;lia
def Eu.one (f:2<=z)(h:Eu n z b 0 sb s)(h1:b=1):(sb % z*n) % z=1:=by
 have a:=h.db;rw[h1]at a;have e:(sb % z*n) % z=(sb*n) % z:=by rw[fM,eH _ (fJ z),<- fM]
 rw[e];have c:(1-sb*n) % z=0:=bU a;have d:=(eI (m:=1) (n:=z) (k:=sb*n)).mpr c;rw[<- d];exact br (by lia) (by lia)
def jR.dvd (b:jR p)(h0:0<d)(h:d ∣ p):d=1\/d=p:=by
 obtain⟨k,a⟩:=h;have g:=b.1;have i:0<k:=by
  rcases Int.lt_or_le 0 k with c|c
  .exact c
  .have:=b8 (ji h0) c;lia
 by_cases e:d=1
 .exact .inl e
 .by_cases f:k=1
  .right;rw[a,f,bG]
  .exfalso;rcases Int.le_total d k with c|c
   .refine b.2.2 d (by lia) ?_ (bU ⟨k,a⟩);rw[a];exact bB c (by lia)
   .refine b.2.2 k (by lia) ?_ (bU ⟨d,by rw[a,cg]⟩);rw[a,cg d k];exact bB c (by lia)
def jR.PB (a:jR p)(h:¬b % p=0):Int.gcd b p=1:=by
 have h1:((Int.gcd b p:Nat):Int) ∣ p:=Int.gcd_dvd_right b p;have h2:((Int.gcd b p:Nat):Int) ∣ b:=Int.gcd_dvd_left b p;have d:0<Int.gcd b p:=Int.gcd_pos_of_ne_zero_right _ (by have:=a.1;lia);rcases a.dvd (by lia) h1 with c|c
 .lia
 .rw[c]at h2;exact absurd (bU h2) h
end FM
section
open PySem PySem.Spec PyProof.Rows
namespace L3
open L2
inductive Rs where
 |val (p:PV)|err (C:Addr)
def spE (K:Fg)(G:Gx)(pre:List PV->Prop)(F:List PV->Rs):Sp:=λc H Q E=>∃b O,(∀a,O a=true->H a≠none)/\mX K G (mn H O) b c/\pre b/\(∀p,F b=.val p->∀v h,Same H h -> At K G (mn h O) p v->Q v h)/\∀C,F b=.err C->∀h,Same H h -> E (.ref C) none h
structure OkE (P:Program)(w:World)(K:Fg)(mg:Mg)(base:Heap)(k:Nat)(x:Str)(ps:List Str)(sp:Sp):Prop where
 ex:∃f fd,FnOk P w K mg base (Oq P w) k f fd ps sp/\Binds K fd ps []/\W.keepIn K (.ref f)=true/\mg x=some (.ref f)
abbrev erE (E:XK):ER:=λC H=>E (.ref C) none H
section
variable {P:Program}{K:Fg}
def okE {x:Str}{o:Stmt}{N r:Ls}{k:Nat}{pre:List PV->Prop}{F:List PV->Rs}(d:nj K mg x o r)(S:FnScope N r (defScope o))(len:∀as,pre as->as.length=r.length)
  (j:∀(f:Addr) (g:Value) (A:Around) (outer:List Env) (s:Shared) (H:Hp) (E:XK),Room k (A.deeper (envOfC x (defScope o) s.heap.objs.size f g)) -> ∃fs,PSs (cxOf (Oq P w) P w K mg base N x (defScope o) f g A outer s H E) (defBody o) (ts K G (erE E) fs)/\∀as,pre as->fs { nx:=λ_=>F as=.val .non,rt:=λp=>F as=.val p,rl:=λns=>F as=.val (.ints ns),er:=λC=>F as=.err C } (oH N as)):OkE P w K mg base (k+1) x r (spE K G pre F):=by
 obtain⟨f,L,B,b,m⟩:=d.ex;refine⟨f,L,?_,b,B.kp,m⟩;obtain⟨oc,od,kV,J,pm,an,g,ct,U,rfl,T,u⟩:=B.ex;refine fn_of T u S (λZ H Q E h=>?_) λA outer s H Z Q E M h=>?_
 .obtain⟨as,O,_,t,y,_⟩:=h;rw[<- t.length];exact len as y
 obtain⟨as,O,D,t,y,q,Y⟩:=h;obtain⟨fs,b,c⟩:=j f g A outer s H E M;refine⟨_,b,⟨H,O⟩,oH N as,_,⟨O,tW D t⟩,c as y,⟨λσ' i Z' R h=>?_,λv i p l I h=>q p h v i l I,λa i ns l n e h=>?_,λ_ _ _ _ _ h=>h.elim,λ_ _ _ _ h=>h,λ_ _ _ _ h=>h,λi C l h=>Y C h i l⟩⟩
 .obtain⟨O',R⟩:=R;exact q _ h .non i R.same rfl
 .refine q _ h _ i l ⟨a,rfl,.inl ?_⟩;rw[rO]
  .exact e
  .cases z:O a with
   |false=>rfl
   |true=>exact absurd n (D a z)
end
section
variable {X:Cx}{g:En->List PV}
def Ut (o:OkE X.prog X.w X.K X.mg X.base j x v sp)(r:Passes (Oq X.prog X.w) X E)(q:Room k X.A)(d:PA X (e::a) t)(n:j<=k:=by decide)(l:Gl X x:=by rfl)(h:(x == ("__debug__":Str))=false:=by decide)
  (i:starEach (e::a) X.env=(false,eval e X.env)::starEach a X.env:=by rfl) (c:(backTo pos (starEach a X.env)).any (·.1)=false:=by rfl):PE X (.Call (.Name x p) (e::a) [] pos) (tCall sp [] E t):=by
 obtain⟨f,u,F,b,s,m⟩:=o.ex;exact pe_call (F.mono n) q l m s b .nil r d h i c
def abl:Passes (Oq X.prog X.w) X E0:=λ_ _ _ _ _ _ _ h=>by obtain⟨_,_,_,_,_,_,_,_,_,q⟩:=h;exact q.elim
def Rs.get:Rs->PV
 | .val p=>p
 | .err _=>.non
def Rs.isV:Rs->Prop
 | .val _=>True
 | .err _=>False
def Q3 (r:T5 X E)(m:X.calm=true)(q:Jb X.K d)(o:Gl X x)(p:X.mg x=some (.ref d))(l:PA X (e::a) (O9 X.K G C g))(h:∀Z,(g Z).length=(e::a).length:=by intro _;rfl)(t:(e::a).length<=1000:=by decide)
  (i:(x == ("__debug__":Str))=false:=by decide) (n:starEach (e::a) X.env=(false,eval e X.env)::starEach a X.env:=by rfl) (j:(backTo b (starEach (e::a) X.env)).any (·.1)=false:=by rfl) :
  PS X (.Raise (some (.Call (.Name x y) (e::a) [] b)) none pos) (ts X.K G (erE E) λP Z=>C Z/\P.er d):=
 toS (S7 r m q o p l t i n j λu H Q ⟨B,Z,O,R,c,q⟩=>⟨B,Z,O,R,c,λv f s k=>⟨by rw[<- k.length];exact h Z,q v f s k⟩⟩) λB u H Z O P D R c w=>⟨B,Z,O,R,c.1,λ_ f s _=>w.er f d (R.same.trans s) c.2⟩
end
end L3
namespace L2
structure adQ (K:Fg)(C:Addr):Prop where
 hg:W.findIn K (.ref C) "__getattribute__"=some (some (.builtin "BaseException.__getattribute__"))
 hk:W.findIn K (.ref C) "__getattr__"=some none
 hb:W.mroIn K C (.type "BaseException")=some true
 hd:W.hasDictIn K C=true
 ha:W.findIn K (.ref C) "__class__"=some (some (.builtin "object.__class__"))
 hn:W.specialIn K (.builtin "object.__class__") "__get__"=some (some (.builtin "getset_descriptor.__get__"))
 htk:W.takesIn K (.builtin "object.__class__")=some true
 hm:W.mroIn K C (.type "object")=some true
end L2
namespace L3
open L2
mutual
def dat:PV->PyData
 | .int n=>.int n
 | .bl b=>.bool b
 | .non=>.none
 | .str s=>.str s
 | .ints a=>.list (a.map PyData.int)
 | .lst x=>.list (abp x)
 | .tup x=>.tuple (abp x)
 |_=>.none
def abp:List PV->List PyData
 |[]=>[]
 |p::ps=>dat p::abp ps
end
def eqD (p q:PV):Prop:=PySem.Spec.same (dat p) (dat q)=true
instance (p q:PV):Decidable (eqD p q):=inferInstanceAs (Decidable (_=true))
def tR (K:Fg)(G:Gx)(C:En->Prop)(F:En->Rs)(E:XK):TE:=λa H Q=>∃B Z O,Rep K G B a H Z O/\C Z/\(∀p,F Z=.val p->∀v h,Same H h -> At K G (mn h O) p v->Q v h)/\∀c,F Z=.err c->∀h,Same H h -> E (.ref c) none h
abbrev PR (X:Cx)(G:Gx)(e:Expr)(C:En->Prop)(F:En->Rs):Prop:=∀E,Passes (Oq X.prog X.w) X E->PE X e (tR X.K G C F E)
section
variable {b f:Addr}
def aax (h:PR X G e C F):PE X e (tX X.K G (λZ=>C Z/\(F Z).isV) λZ=>(F Z).get):=
 λd s k H Q I ⟨B,Z,O,R,c,q⟩=>h E0 abl d s k H Q I ⟨B,Z,O,R,c.1,λp j v i s a=>q v i s (by dsimp only;rw[j];exact a),λl g=>by
  have z:=c.2;rw[g]at z;exact z.elim⟩
structure KSz (K:Fg)(G:Gx):Prop where
 sz:∀(H:Hp) (a:Addr) (z:Int),G.ob 0 H a z->∃C dx fs,H a=some (.ins C dx fs)/\Cls K C/\NoAttr K C "size"/\fs.lookup ("size":Str)=some (.int z)
def pvZ:PV->Int
 | .ob _ z=>z
 |_=>0
def Hs (o:KSz X.K G)(r:PE X e (tX X.K G C g))(p:attributeBase e "size" X.env (eval e X.env)=eval e X.env:=by rfl):PE X (.Attribute e "size" pos) (mC X.K G (λZ=>C Z/\g Z=.ob 0 (pvZ (g Z))) λZ=>pvZ (g Z)):=
 uI (pe_fld r p) λB t H Z O Q R c q=>⟨B,Z,O,R,c.1,λv i s d=>by
  rw[c.2]at d;obtain⟨a,rfl,ob⟩:=d;obtain⟨h,j,fs,k,l,m,n⟩:=o.sz _ _ _ ob;exact⟨a,h,j,fs,_,rfl,jX _ _ k,l,m,n,q _ i s rfl⟩⟩
def Vw:PV->Bool
 | .non=>true
 |_=>false
def Ao [∀Z,Decidable (pb Z)](k:X.mg "int"=none)(i:PE X e (RK X.K G C pb))(j:Gl X "int":=by rfl)(h:starEach [e] X.env=[(false,eval e X.env)]:=by rfl):PE X (.Call (.Name "int" p) [e] [] pos) (mC X.K G C λZ=>if pb Z then 1 else 0):=
 uI (pe_callTy call_int1 j k U5 (pa_cons i pa_nil h) (by decide) (by decide) h rfl) λB l H Z O Q R c q=>⟨B,Z,O,R,c,λv a s g=>by
  subst g;refine .inr ⟨_,rfl,q _ a s ?_⟩;show V.int (if decide (pb Z)=true then 1 else 0)=V.int (if pb Z then 1 else 0);by_cases d:pb Z
  .rw[af d,af (aK d)]
  .rw[ae d,ae (by rw[aM d];decide)]⟩
end
end L3
namespace L2
def abF (k:Hp->Addr->Int->Prop)(a:Addr)(z:Int)(n:Nat)(pre:Int->List Int->Prop)(F:Int->List Int->Int ⊕ Addr):Sp:=λv H Q E=>∃b:List Int,b.length=n/\v=.ref a::b.map V.int/\k H a z/\pre z b/\(∀c,F z b=.inl c->∀h,Same H h -> Q (.int c) h)/\∀e,F z b=.inr e->∀h,Same H h -> E (.ref e) none h
structure KME (P:Program)(w:World)(K:Fg)(mg:Mg)(base:Heap)(k:Nat)(KA:Hp->Addr->Int->Prop)(m:Str)(n:Nat)(pre:Int->List Int->Prop)(F:Int->List Int->Int ⊕ Addr):Prop where
 ex:∀H a z,KA H a z->∃C dx fs ps,H a=some (.ins C dx fs)/\fs.lookup m=none/\OkM P w K mg base (Oq P w) k C m ps (abF KA a z n pre F)
end L2
namespace L3
open L2
def yJ:Int ⊕ Addr->Rs
 | .inl c=>.val (.int c)
 | .inr e=>.err e
def G4 {o:Hp->Addr->Int->Prop}{p:Int->List Int->Prop}{F:Int->List Int->Int ⊕ Addr}{pl:Sem Bool}(i:Nat)(M:KME X.prog X.w X.K X.mg X.base j o m n p F)(hr:Room k X.A)(ha:PA X (e::g) (O9 X.K G C l))(hn:∀Z,(l Z).length=n:=by intro _;rfl)(hG:∀H a z,G.ob 0 H a z->o H a z:=by first|exact λ_ _ _ h=>h.2|exact λ_ _ _ h=>h.elim (λz=>z.2) λz=>absurd z.1 (by decide))(r:∀{H d:Hp} {a:Addr} {z:Int},o H a z->Same H d -> o d a z:=by first|exact λh s=>KAt.same h s|exact λh s=>h.same s)(hj:j<=k:=by decide)
  (hN:X.N[i]?=some x:=by rfl) (hv:Vis X.env.scope x:=by walk_at "v") (hd:(x == ("__debug__":Str))=false:=by decide) (w:(x == ("__classdict__":Str))=false:=by decide)
  (D:starEach (e::g) X.env=(false,eval e X.env)::starEach g X.env:=by rfl) (A:(backTo pos (starEach g X.env)).any (·.1)=false:=by rfl)
  (ht:eval (.Call (.Attribute (.Name x P) m b) (e::g) [] pos) X.env=(do
   let ov <- eval (.Name x P) X.env
   standAt b.atName
   let (f,first) <- holding [ov] (getMethod ov m pl)
   callWith pos f first (backTo pos (starEach (e::g) X.env)) (backToKw pos (keywordEach [] X.env))):=by rfl) :
  PR X G (.Call (.Attribute (.Name x P) m b) (e::g) [] pos) (λZ=>isK Z i/\C Z/\Ma (l Z)/\p (Lx Z i) (uT (l Z))) λZ=>yJ (F (Lx Z i) (uT (l Z))):=by
 rintro E hx u s σ H Q I ⟨B,Z,O,R,⟨Y,c1,c2,c3⟩,q,qe⟩;obtain⟨v,e1,a,rfl,ka⟩:=R.fr i _ Y;have t:o H a (Lx Z i):=r (hG _ _ _ ka) jX;obtain⟨Cl,dx,fs,ps,f1,f2,T⟩:=M.ex H a _ t;obtain⟨f,fd,S,U,mm,cc⟩:=T.ex;refine pe_meth (pe_var hN hv hd w) cc mm (S.mono hj) hr U .nil hx ha D A ht u s σ H Q I ⟨_,e1,a,dx,fs,rfl,f1,f2,B,Z,O,R,c1,λvs H1 L N=>?_⟩;have ev:=N.ints c2;have el:(uT (l Z)).length=n:=by rw[<- hn Z,N.length,ev,aa]
 exact⟨uT (l Z),el,by rw[bu,ev],r t L,c3,λc hc d J=>q (.int c) (by dsimp only;rw[hc];rfl) _ d (L.trans J) rfl,λer y d J=>qe er (by dsimp only;rw[y];rfl) d (L.trans J)⟩
end L3
namespace L2
def YL {K:Fg}{a b:Addr}{xs ys:List V}{g:TG}{t:TS}{D:Ends}{c:St}{H:Hp}(P:Nat->St->Hp->Prop)(h0:P 0 c H)(s:∀i c H,P i c H->SqL K H a xs/\SqL K H b ys)
  (u:∀i x y c H T,xs[i]?=some x->ys[i]?=some y->P i c H->H T=none->g (.ref T) c (upd H T (.tup [x,y])) λf j=>t { D with nx:=P (i+1),ct:=P (i+1),bk:=D.nx } f j) (r:∀c H,P (min xs.length ys.length) c H->D.nx c H) :
  ∃W:Nat->Nat->St->Hp->Prop,(∃m,W 0 m c H)/\∀i m c H,W i m c H ->
   ((Itz K a b).stop i H/\D.nx c H)\/((Itz K a b).go i H/\∃N:St->Hp->Prop,(∀d h,N d h -> ∃n,n<m/\W (i+1) n d h)/\∀x h,(Itz K a b).yld i H x h -> g x c h λf j=>t { D with nx:=N,ct:=N,bk:=D.nx } f j):=by
 refine⟨λi m c H=>m=min xs.length ys.length-i/\i<=min xs.length ys.length/\P i c H,⟨min xs.length ys.length,by simp,a9 _,h0⟩,?_⟩;rintro i m c H ⟨rfl,F,p⟩;obtain⟨q,l⟩:=s i c H p;by_cases k:i<min xs.length ys.length
 .have z:i<xs.length:=by lia
  have A:i<ys.length:=by lia
  refine .inr ⟨⟨xs,ys,xs[i],ys[i],q,l,by simp[z],by simp[A]⟩,P (i+1),λd h B=>⟨min xs.length ys.length-(i+1),by lia,rfl,k,B⟩,λx h y=>?_⟩;obtain⟨T,C,E,rfl,o,rfl,v,w⟩:=y;exact u i C E c H T (v xs q) (w ys l) p o
 .have e:i=min xs.length ys.length:=by lia
  subst e;exact .inl ⟨⟨xs,ys,q,l,by lia⟩,r c H p⟩
end L2
namespace L3
open L2
def acD (b:PE X e (GF X.K G C g))(f:∀w,isTrue e X.env w=(do let v <- w;standAt e.pos;holding [v] (truthy v)):=by intro _;rfl):PT X e (vB X.K G C λZ=>¬g Z=[]):=
 λp s j H Q I ⟨B,Z,O,R,c,q⟩=>pt_truth b f p s j H Q I ⟨B,Z,O,R,c,λv h i a=>by
  obtain⟨l,rfl,d⟩:=a;refine⟨_,.inl ⟨_,.inl (jF jX d),rfl⟩,?_⟩;have z:=q h i;have e:(!((g Z).map V.int).isEmpty)=decide (¬g Z=[]):=by cases g Z<;>simp
  rw[e];exact z⟩
def TF [∀Z,Decidable (pt Z)](n:PT X c (vB X.K G i pt))(l:PE X a (tX X.K G C j))(m:PE X b (tX X.K G g k)):PE X (.IfExp c a b pos) (tX X.K G (λZ=>i Z/\(pt Z->C Z)/\(¬pt Z->g Z)) λZ=>if pt Z then j Z else k Z):=
 uI (pe_ifExp n l m) λB p H Z O Q R c q=>⟨B,Z,O,R,c.1,λo s=>by
  by_cases d:pt Z
  .rw[aK d];refine iteT ⟨B,Z,O,R.grow s,c.2.1 d,λv h f e=>q v h (s.trans f) ?_⟩;rw[af d];exact e
  .rw[aM d];refine iteF ⟨B,Z,O,R.grow s,c.2.2 d,λv h f e=>q v h (s.trans f) ?_⟩;rw[ae d];exact e⟩
def vU:PV->PV
 | .tup [a,_]=>a
 |_=>.non
def wM:PV->PV
 | .tup [_,b]=>b
 |_=>.non
def aav (q:PV):Prop:=q=.tup [vU q,wM q]
def Kw {k j:Nat}{g:En->List PV}{J:Nat}(hp:PassesOwn (model X.prog X.w) X.A X.env X.xe)(hc:X.calm=true)(hl:PE X l (tX X.K G C λZ=>.lst (g Z)))
  (u:PG X (.Tuple [.Name x px,.Name y py] J tp) (gTup X.K 2 (gCons (gName k) (gCons (gName j) gNil)))) (hb:PSs X body (ts X.K G L f)) (t:∀x,foldedSetIterable l X.env x=pure x:=by intro _;rfl) :
  PS X (.For (.Tuple [.Name x px,.Name y py] J tp) l body [] pos) (ts X.K G L λP Z=>(C Z/\∀q∈g Z,aav q)/\∃W:Nat->En->Prop,W 0 Z /\ (∀i n Z',(g Z)[i]?=some n->W i Z' -> f (P.lp (W (i+1))) ((Z'.set k (.fr (vU n))).set j (.fr (wM n))))/\∀Z',W (g Z).length Z' -> P.nx Z'):=
 toS (ps_for hp hc (pi_list hl) u hb t) λB d H Z O P D R c w=>by
  obtain⟨⟨U,Y⟩,W,w0,st,nd⟩:=c;refine⟨B,Z,O,R,U,λv A s1 N=>?_⟩;obtain⟨a,vs,e,I,o⟩:=N;have s:=R.grow s1;have b:=rC s w;have el:=o.length;refine⟨a,e,⟨_,.inl (jF jX I)⟩,for_list (xs:=vs) (λi d H=>∃Z',wU X.K G (B.at A O) d H Z'/\W i Z') ⟨Z,⟨O,s.rebase⟩,w0⟩ ?_ ?_ ?_⟩
  .rintro i d H _ ⟨Z',⟨E,r⟩,_⟩;exact .inl (jF ((Rep.rN B A O).trans r.same) I)
  .rintro i y d H hy ⟨Z',⟨E,r⟩,p⟩;obtain⟨n,F,S⟩:=o.get hy;have ip:=Y n (bE F);have m:=At.mono (s.seen r) _ _ S;rw[ip]at m;obtain⟨T,us,rfl,hT,Q⟩:=m;obtain⟨v1,r1,rfl,x1,v2,r2,rfl,x2,rfl⟩:=Q;refine⟨T,_,rfl,SqT.of (jX _ _ hT),rfl,_,_,rfl,_,_,rfl,rfl,?_⟩;exact⟨_,_,_,⟨E,(r.set x1).set x2⟩,st i n Z' F p,⟨λz M Z' r h=>⟨Z',r,h⟩,b.rt,b.rl,b.rn,b.nx,λz M Z' r h=>⟨Z',r,h⟩,b.er⟩⟩
  .rintro d H ⟨Z',r,p⟩;rw[<- el]at p;exact b.nx d H Z' r (nd Z' p)
section
variable {K:Fg}
def abG (h:zE K G (λZ=>(y Z/\C Z)/\(-(2^62)<=g Z/\g Z<2^62 /\ -(2^62)<=a Z/\a Z<2^62)/\(a Z-g Z).toNat<=1000/\∀k:Nat,k<(a Z-g Z).toNat->z ((jW (none::cap) Z).set 0 (.fr (.int (g Z+k))))) (λZ=>(List.range (a Z-g Z).toNat).map λ(k:Nat)=>M ((jW (none::cap) Z).set 0 (.fr (.int (g Z+k))))) d H Q) :
  RG (none::cap) (iRng2 (tCons (mC K G y g) (tCons (mC K G C a) tNil))) (gName 0) ul (tX K G z M) d H Q:=by
 obtain⟨B,Z,O,R,⟨⟨F,I⟩,l,J,L⟩,q⟩:=h;refine⟨B,Z,O,R,F,λv S c e=>⟨B,Z,O,R.grow c,I,λu T o f=>?_⟩⟩;have e:v=.int (g Z):=e;have f:u=.int (a Z):=f;subst e f;have b:(List.range (a Z-g Z).toNat).length=(a Z-g Z).toNat:=ag;refine⟨g Z,a Z,rfl,l,λD t=>?_⟩;refine rY (List.range (a Z-g Z).toNat) (λ_ v=>(pK (none::cap) d).set 0 (some v)) (λ(k:Nat)=>(jW (none::cap) Z).set 0 (.fr (.int (g Z+k)))) (λ(k:Nat)=>.int (g Z+k)) ((R.grow c).grow o) t (by rw[b];exact J) (λi H w s=>by rw[b]at w;exact w) ?_ (λH s=>by rw[b];exact aj _) (λk H _ s A=>A.set (p:=.int _) rfl) ?_ ?_ ?_
 .rintro i k x H r j s ⟨rfl,rfl⟩;have n:i<(a Z-g Z).toNat:=by have:=(ao.mp j).1;rw[b]at this;exact this
  rw[bZ n]at j;cases j;exact⟨Same.refl _,λU m=>m⟩
 .intro k;show Bq (none::pK cap d) (some (.int _)::pK cap d);exact nq _
 .intro k m;exact L k (aX.mp m)
 .intro r P s N E;exact q D P r ((c.trans o).trans s) ((c.trans o).free t) N E
end
def VH {t:TE}{s:Stmt}{C:En->Prop}{g:En->List PV}(h:PS X s (tAsg t (gName i)))(k:∀b H Q,zE X.K G C g b H Q->t b H Q):PS X s (ts X.K G E λP Z=>C Z/\∀ns,ns=g Z->P.nx (Z.set i (.fr (.lst ns)))):=
 toS h λB b H Z O P D R c w=>k b H _ ⟨B,Z,O,R,c.1,λa v d j n f e=>w.nx _ d _ ⟨O,(R.grow j).set (p:=.lst _) ⟨a,v,rfl,.inl (by
  rw[rO]
  .exact f
  .cases z:O a with
   |false=>rfl
   |true=>exact absurd n (R.dom a z)),by
  refine mX.mono ?_ _ _ e;exact xX rQ⟩⟩ (c.2 _ rfl)⟩
def adL (q:PV):Prop:=∃g o,q=.tup [.ints g,.int o]
section
variable {b:En->List PV}
def abX (Z:En)(i:Nat):Prop:=Z[i]?=some (.ow (.lst (rM (BX Z i))))
def sX (i:Nat)(L:PE X e (tX X.K G C g))(I:X.N[i]?=some x:=by rfl)(M:Vis X.env.scope x:=by walk_at "v")
  (J:(x == ("__debug__":Str))=false:=by decide) (l:(x == ("__classdict__":Str))=false:=by decide)
  (d:attributeBase (.Name x k) "append" X.env (eval (.Name x k) X.env)=eval (.Name x k) X.env:=by rfl)
  (j:((backTo p (starEach (e::[]) X.env)).all (λx=>!x.1) && (backToKw p (keywordEach [] X.env)).all (λx=>x.1.isSome) && decide ((e::[]).length+([]:List Keyword).length+(if ([]:List Keyword).isEmpty then 0 else 1)<30))=true:=by rfl)
  (f:(u.endLine == p.line)=true:=by rfl) (t:starEach (e::[]) X.env=(false,eval e X.env)::starEach [] X.env:=by rfl) (h:(backTo p (starEach [] X.env)).any (·.1)=false:=by rfl)
  (m:swapsWith (.Call (.Attribute (.Name x k) "append" u) [e] [] p) none pos.line X.env=pure false:=by rfl) :
  PS X (.Expr (.Call (.Attribute (.Name x k) "append" u) [e] [] p) pos) (ts X.K G Q λP Z=>abX Z i/\C Z/\(rM (BX Z i)).length<sizeLine/\P.nx (Z.set i (.ow (.lst (rM (BX Z i)++[g Z]))))):=
 toS (ps_expr (pe_bm cG gM gN mt_append (pe_var I M J l) (pa_cons L pa_nil t) d j f t h) m) λB N H Z O P D R c w=>by obtain⟨n,z,A,E⟩:=c;obtain⟨a,Y,o,T,U,q,r⟩:=R.ow i _ n;have F:=r.length;refine⟨_,o,.inl ⟨rfl,_,SqL.of q⟩,B,Z,O,R,z,λv S s y=>?_⟩;refine⟨a,_,_,rfl,rfl,s _ _ q,by rw[<- F];exact A,w.nx N _ _ ⟨O,(R.grow s).change n o (p':=.lst (rM (BX Z i)++[g Z])) ?_⟩ E⟩;exact mX.snoc (mX.mono (lQ s) _ _ r) y
end
section
variable {K:Fg}
def ab8 {g:En->List PV}(h:zE K G (λZ=>T Z/\(g Z).length<=1000/\∀q∈g Z,S ((jW (none::cap) Z).set 0 (.fr q))) (λZ=>(g Z).map λq=>A ((jW (none::cap) Z).set 0 (.fr q))) P H Q) :
  RG (none::cap) (iList K (tX K G T λZ=>.lst (g Z))) (gName 0) ul (tX K G S A) P H Q:=by
 obtain⟨B,Z,O,R,⟨c1,c2,c4⟩,q⟩:=h;refine⟨B,Z,O,R,c1,λv I E a1=>?_⟩;obtain⟨a,m,rfl,hq,p⟩:=a1;have j:SqL K I a m:=.inl (jF jX hq);have y:=p.length;have Y:=R.grow E;refine⟨a,rfl,⟨_,j⟩,λD C=>?_⟩;have one:∀i n,(g Z)[i]?=some n->At K G (mn I O) n (m.getD i .non):=λi n u=>by
  have w:i<m.length:=by rw[<- y];exact(ao.mp u).1
  obtain⟨n',o,an⟩:=p.get (ac w);rw[u]at o;cases o;rw[gQ,ac w];exact an
 obtain⟨b,hit⟩:∃b:List (Nat×PV),b=(g Z).zipIdx.map λz=>(z.2,z.1):=⟨_,rfl⟩;have f:b.length=(g Z).length:=by rw[hit,aa,List.length_zipIdx]
 have l:∀(i:Nat) (d:Nat×PV),b[i]?=some d->d.1=i/\(g Z)[i]?=some d.2:=λi d e=>by
  rw[hit,aq,iF]at e;cases M:(g Z)[i]? with
  |none=>rw[M]at e;cases e
  |some n=>rw[M]at e;have e:=aE e;subst e;exact⟨im i,rfl⟩
 have k:∀d∈b,(g Z)[d.1]?=some d.2:=λd r=>by obtain⟨i,e⟩:=List.mem_iff_getElem?.mp r;obtain⟨h1,h2⟩:=l i d e;rw[h1];exact h2
 have t:b.map (λd=>A ((jW (none::cap) Z).set 0 (.fr d.2)))=(g Z).map λq=>A ((jW (none::cap) Z).set 0 (.fr q)):=by
  refine dY λi=>?_;rw[aq,aq];by_cases c:i<(g Z).length
  .have L:i<b.length:=by lia
   obtain⟨h1,h2⟩:=l i b[i] (ac L);rw[ac L,h2];rfl
  .rw[bT (show b.length<=i by lia),bT (show(g Z).length<=i by lia)];rfl
 refine rY b (λ_ v=>(pK (none::cap) P).set 0 (some v)) (λd=>(jW (none::cap) Z).set 0 (.fr d.2)) (λd=>m.getD d.1 .non) Y C (by rw[f];exact c2)
  (λi H w s=>⟨m,m[i]'(by rw[<- y,<- f];exact w),s.seq j,by rw[ac]⟩) ?_ (λH s=>⟨_,s.seq j,by rw[f,y];exact aj _⟩) (λd H r s U=>?_) ?_ ?_ ?_
 .rintro i d x H F u s ⟨rfl,hx⟩;obtain⟨h1,h2⟩:=l i d u;have e3:=hx _ (s.seq j);refine⟨Same.refl _,λkk N=>?_⟩;rw[h1,gQ,e3]at N;exact N
 .exact U.set (At.mono (nO (O:=O) s C) _ _ (one _ _ (k d r)))
 .intro d;exact nq _
 .intro d r;exact c4 d.2 (bE (k d r))
 .intro F ys s hd J;refine q D ys F (E.trans s) (E.free C) hd ?_;rw[t]at J;exact J
end
section
variable {g:En->List PV}
def ZV (L:uH X N' sc cl (none::cap))(d:X.calm=true)(j:PE X a (tX X.K G C λZ=>.lst (g Z)))(i:∀s H fp,PG (jO X N' sc cl s H fp) t (gName 0))(f:∀s H fp,PE (jO X N' sc cl s H fp) e (tX X.K G c b))(k:∀x,foldedSetIterable a X.env x=pure x:=by intro _;rfl) :
  PE X (.ListComp e [⟨t,a,[],0⟩] sc at') (zE X.K G (λZ=>C Z/\(g Z).length<=1000/\∀q∈g Z,c ((jW (none::cap) Z).set 0 (.fr q))) λZ=>(g Z).map λq=>b ((jW (none::cap) Z).set 0 (.fr q))):=
 λp s l H Q I h=>vY L d (pi_list j) i (λ_ _ _=>oR) f k p s l H Q I (ab8 h)
def abf (L:uH X N' sc cl (none::cap))(m:X.calm=true)(f:Gl X "range")(r:X.mg "range"=none)(q:PE X a (mC X.K G i e))(o:∀s H fp,PG (jO X N' sc cl s H fp) u (gName 0))(n:∀s H fp,PE (jO X N' sc cl s H fp) j (tX X.K G C l))
  (b:starEach [a] X.env=[(false,eval a X.env)]:=by rfl) (t:∀x,foldedSetIterable (.Call (.Name "range" p) [a] [] d) X.env x=pure x:=by intro _;rfl) :
  PE X (.ListComp j [⟨u,.Call (.Name "range" p) [a] [] d,[],0⟩] sc at') (zE X.K G (λZ=>i Z/\(0<=e Z/\e Z<=1000)/\∀k:Nat,k<(e Z).toNat->C ((jW (none::cap) Z).set 0 (.fr (.int k)))) λZ=>(List.range (e Z).toNat).map λ(k:Nat)=>l ((jW (none::cap) Z).set 0 (.fr (.int k)))):=
 λc s v H Q I h=>vY L m (pi_range1 f r (pa_cons q pa_nil b) b) o (λ_ _ _=>oR) n t c s v H Q I (aaB h)
end
section
variable {K:Fg}
def Pz:∀{b:List PV} {vs:List V} {k:Nat} {q:PV} {v:V},mX K G H b vs->At K G H q v->mX K G H (b.set k q) (vs.set k v)
 |[],_,k,_,_,h,_=>by rw[h];rfl
 |p::r,_,0,q,v,h,a=>by obtain⟨u,t,rfl,e,z⟩:=h;exact⟨v,t,rfl,a,z⟩
 |p::r,_,k+1,q,v,h,a=>by obtain⟨u,t,rfl,e,z⟩:=h;exact⟨u,t.set k v,rfl,e,Pz z a⟩
def KN:∀{a:List PV} {vs:List V},mX K G H a vs->∀k:Nat,mX K G H (a.drop k) (vs.drop k)
 |_,_,h,0=>h
 |[],_,h,k+1=>by rw[h];rfl
 |p::r,_,h,k+1=>by obtain⟨u,t,rfl,e,z⟩:=h;exact KN z k
def KH:∀{a:List PV} {vs:List V},mX K G H a vs->∀k:Nat,mX K G H (a.take k) (vs.take k)
 |_,_,_,0=>rfl
 |[],_,h,k+1=>by rw[h];rfl
 |p::r,_,h,k+1=>by obtain⟨u,t,rfl,e,z⟩:=h;exact⟨u,t.take k,rfl,e,KH z k⟩
end
section
variable {d:En->List PV}
def LK (i:Nat)(N:PE X b (mC X.K G q f))(M:PE X e (tX X.K G C g))(I:X.N[i]?=some x:=by rfl)(S:Vis X.env.scope x:=by walk_at "v")
  (L:(x == ("__debug__":Str))=false:=by decide) (h:(x == ("__classdict__":Str))=false:=by decide)
  (J:∀v,assign (.Subscript (.Name x a) b p) X.env v=(do
   let ov <- holding [v] (eval (.Name x a) X.env)
   let iv <- holding [v,ov] (eval b X.env)
   standAt p
   holding [v,ov,iv] (setItem ov iv v)
   release [v,ov,iv] []):=by intro _;rfl)
  (Q:swapsWithSole [.Subscript (.Name x a) b p] e pos.line X.env=pure false:=by rfl) (T:swappedStores [.Subscript (.Name x a) b p] e X.env=pure none:=by rfl)
  (h1:(assignEach [.Subscript (.Name x a) b p] X.env).map (·.2)=[assign (.Subscript (.Name x a) b p) X.env]:=by rfl) :
  PS X (.Assign [.Subscript (.Name x a) b p] e pos) (ts X.K G Er λP Z=>C Z/\abX Z i/\q Z/\(-((rM (BX Z i)).length:Int)<=f Z/\f Z<((rM (BX Z i)).length:Int))/\P.nx (Z.set i (.ow (.lst ((rM (BX Z i)).set (lD (rM (BX Z i)).length (f Z)) (g Z)))))):=
 toS (ps_asg M (pg_sub (pe_var I S L h) N set_list J) Q T h1) λB Y H Z O P D R c w=>by obtain⟨z,j,A,k,E⟩:=c;refine⟨B,Z,O,R,z,λv H1 U t=>?_⟩;have r:=R.grow U;obtain⟨l,vs,m,e2,e3,F,n⟩:=r.ow i _ j;have o:=n.length;refine⟨_,m,B,Z,O,r,A,λu H2 s y=>?_⟩;subst y;refine⟨l,_,_,_,rfl,rfl,s _ _ F,by rw[<- o];exact Hy k.1 k.2,w.nx Y _ _ ⟨O,(r.grow s).change j m (p':=.lst _) ?_⟩ E⟩;rw[o];exact Pz (mX.mono (lQ s) _ _ n) (At.mono (lQ s) _ _ t)
def qJ (xs:List PV)(l h:Option Int):List PV:=(xs.drop (HT.sIx xs.length 0 l)).take (HT.sIx xs.length xs.length h-HT.sIx xs.length 0 l)
def xF {u t:Option Expr}{n m:En->Prop}{e g:En->Option Int}(z:PE X a (tX X.K G C λZ=>.lst (d Z)))(D:PO X u (WW X.K G n e))(A:PO X t (WW X.K G m g)) :
  PE X (.Subscript a (.Slice u t none M) pos) (zE X.K G (λZ=>C Z/\n Z/\m Z) λZ=>qJ (d Z) (e Z) (g Z)):=
 λp s F H Q I ⟨B,Z,O,R,c,q⟩=>pe_slice sl_list z D A p s F H Q I ⟨B,Z,O,R,c.1,λv J f x=>⟨B,Z,O,R.grow f,c.2.1,λL b=>⟨B,Z,O,(R.grow f).grow b,c.2.2,λw i=>by
  obtain⟨l,E,rfl,r,o⟩:=x;have j:=mX.mono (lQ (b.trans i)) _ _ o;have k:=o.length;refine⟨l,_,rfl,(b.trans i).seq (.inl (jF jX r)),λy h=>q y _ _ (((f.trans b).trans i).trans (same_new h _)) (((f.trans b).trans i).free h) upd_same (mX.mono (nO (same_new h _) h) _ _ ?_)⟩;show mX X.K G (mn w O) (qJ (d Z) (e Z) (g Z)) (cutV E (e Z) (g Z));unfold qJ cutV;rw[k];exact KH (KN j _) _⟩⟩⟩
end
def Vx (C:Addr):Sp:=λv H Q _=>∃(x d:Addr) (p:Int),v=[.ref x,.int p]/\FM.jR p/\H x=some (.ins C d [])/\Q .non (upd H x (.ins C d [("size",.int p)]))
def KR (c:Addr)(H:Hp)(a:Addr)(z:Int):Prop:=0<z/\∃d fs,H a=some (.ins c d fs)/\fs.lookup ("size":Str)=some (.int z)/\∀m∈Df,fs.lookup m=none
def KR.same (k:KR cR H a z)(s:Same H h):KR cR h a z:=by obtain⟨b,d,fs,e,r⟩:=k;exact⟨b,d,fs,s _ _ e,r⟩
def ph (c:Addr):Gx:=⟨λk H a z=>k=0/\KR c H a z,λ_ _ _ _ _ s h=>⟨h.1,h.2.same s⟩⟩
def gkR (H:Hp)(a d:Addr)(p:Int)(c:FM.jR p)(h:H a=some (.ins cR d [("size",.int p)])):(ph cR).ob 0 H a p:=by
 have b:∀m∈Df,List.lookup m [("size",V.int p)]=none:=λm b=>by
  have k:∀m∈Df,(m == ("size":Str))=false:=by decide +kernel
  rw[List.lookup_cons,k m b];rfl
 exact⟨rfl,by have:=c.1;lia,d,_,h,rfl,b⟩
def ac0 (o:OkI X.prog X.w X.K X.mg X.base CX0 j x C ["self",y] (Vx C))(A:Room k X.A)(n:∀(H:Hp) (a d:Addr) (p:Int),FM.jR p->H a=some (.ins C d [("size",.int p)])->G.ob 0 H a p)(r:PE X e (mC X.K G l g))(w:j+1<=k:=by decide)(u:Gl X x:=by rfl)(h:(x == ("__debug__":Str))=false:=by decide)
  (f:starEach [e] X.env=[(false,eval e X.env)]:=by rfl) (b:(backTo pos (starEach [] X.env)).any (·.1)=false:=by rfl):PE X (.Call (.Name x p) [e] [] pos) (tX X.K G (λZ=>l Z/\FM.jR (g Z)) λZ=>.ob 0 (g Z)):=
 uI (Tv o A pass0 (pa_cons r pa_nil f) w u h f b) λB E H Z O Q R c q=>⟨B,Z,O,R,c.1,λv D s m=>λy d i t z=>by
  subst m;refine⟨y,d,g Z,rfl,c.2,upd_same,rfl,q (.ref y) _ (s.trans (Xe i t)) ⟨y,rfl,n _ _ d _ c.2 ?_⟩⟩;rw[XD (R.grow s).dom i];exact upd_same⟩
def jA (t:List (List Int)):PV:=.lst (t.map PV.ints)
section
variable {f d:En->List PV}
def aal:PV->Prop
 | .non=>True
 | .int _=>True
 |_=>False
def Y9 (j:PE X e (tX X.K G C g)):PT X (.Compare e [.IsNot] [.Constant .none k2 p] pos) (vB X.K G (λZ=>C Z/\aal (g Z)) λZ=>¬Vw (g Z)=true):=
 λa s n H Q I ⟨B,Z,O,R,c,q⟩=>pt_cmpR op_notN j pe_non (nomark _) a s n H Q I ⟨B,Z,O,R,c.1,λv i m b=>⟨rfl,_,rfl,by
  have z:=q i m;have k:(!decide (v=V.non))=decide (¬Vw (g Z)=true):=by
   have h:=c.2;revert b h;generalize g Z=l;intro b h;cases l<;>first|exact h.elim|skip
   .rw[b];rfl
   .rw[b];rfl
  rw[k];exact z⟩⟩
def Du {K:Fg}{H:Hp}:∀{a q:List PV} {vs us:List V},mX K G H a vs->mX K G H q us->mX K G H (a++q) (vs++us)
 |[],_,_,_,h,k=>by rw[h];exact k
 |p::r,_,_,_,h,k=>by obtain⟨u,t,rfl,e,z⟩:=h;exact⟨u,_,rfl,e,Du z k⟩
def Nk (o:PE X a (tX X.K G C λZ=>.lst (f Z)))(r:PE X b (tX X.K G k λZ=>.lst (d Z))):PE X (.BinOp a .Add b pos) (zE X.K G (λZ=>C Z/\k Z/\(f Z).length+(d Z).length<=sizeLine) λZ=>f Z++d Z):=
 λh s z H Q I ⟨B,Z,O,R,c,q⟩=>pe_op Ph o r h s z H Q I (two R c.1 c.2.1 λv u A D i j m n=>by
  obtain⟨l,F,rfl,x,e⟩:=m;obtain⟨b,E,rfl,y,g⟩:=n;have t:=e.length;have w:=g.length;refine⟨l,b,_,_,rfl,rfl,jF jX x,jF jX y,by rw[<- t,<- w];exact c.2.2,λp d=>q p _ _ ((i.trans j).trans (same_new d _)) ((i.trans j).free d) upd_same ?_⟩;exact mX.mono (nO (same_new d _) d) _ _ (Du e g))
def ab9 (n:PE X e (tX X.K G C λZ=>.lst (f Z)))(u:∀w,isTrue e X.env w=(do let v <- w;standAt e.pos;holding [v] (truthy v)):=by intro _;rfl):PT X e (vB X.K G C λZ=>¬f Z=[]):=
 λp s y H Q I ⟨B,Z,O,R,c,q⟩=>pt_truth n u p s y H Q I ⟨B,Z,O,R,c,λv j x k=>by
  obtain⟨l,h,rfl,o,m⟩:=k;refine⟨_,.inl ⟨_,.inl (jF jX o),rfl⟩,?_⟩;have z:=q j x;have g:=m.length;have e:(!h.isEmpty)=decide (¬f Z=[]):=by
   cases i:f Z with
   |nil=>rw[i]at g;have:h=[]:=dE.mp g.symm;rw[this];simp
   |cons a r=>
    rw[i]at g;cases h with
    |nil=>cases g
    |cons b t=>simp
  rw[e];exact z⟩
end
section
variable {K:Fg}{pt:En->Prop}[∀Z,Decidable (pt Z)]{g d:En->List PV}
def yC (a:mX K G (mn H O) p vs)(h:i<p.length):At K G (mn H O) (p.getD i .non) (vs.getD i .non):=by
 have f:=a.length;have b:i<vs.length:=by lia
 obtain⟨n,e,c⟩:=a.get (ac b);rw[gQ,gQ,e,ac b];exact c
def Qy {e h o:Type}(f:e->h->o)(a:e)(b:h)(l:List e)(m:List h):(List.range (min l.length m.length)).map (λi=>f (l.getD i a) (m.getD i b))=(l.zip m).map λp=>f p.1 p.2:=by
 refine dY λi=>?_;rw[aq,aq];by_cases c:i<min l.length m.length
 .have j:i<l.length:=by lia
  have k:i<m.length:=by lia
  have n:(l.zip m)[i]?=some (l[i],m[i]):=by rw[ac (by rw[dB];exact c),hU]
  rw[bZ c,n];simp only[dO,gQ,ac j,ac k,eQ]
 .rw[bT (by rw[ag];lia),bT (by rw[dB];lia)];rfl
def ab0 (h:zE K G (λZ=>(Cs Z/\E Z)/\(g Z).length<=1000/\∀q r,(q,r)∈(g Z).zip (d Z)->Cb (((jW (none::none::cap) Z).set 0 (.fr q)).set 1 (.fr r))) (λZ=>((g Z).zip (d Z)).map λp=>U (((jW (none::none::cap) Z).set 0 (.fr p.1)).set 1 (.fr p.2))) σ H Q) :
  RG (none::none::cap) (W0 K (tCons (tX K G Cs λZ=>.lst (g Z)) (tCons (tX K G E λZ=>.lst (d Z)) tNil))) (gTup K 2 (gCons (gName 0) (gCons (gName 1) gNil))) ul (tX K G Cb U) σ H Q:=by
 obtain⟨B,Z,O,R,⟨⟨c1,F⟩,c2,c3⟩,q⟩:=h;refine⟨B,Z,O,R,c1,λv H1 z a1=>⟨B,Z,O,R.grow z,F,λu P o a2=>?_⟩⟩;obtain⟨a,C,rfl,hq,c⟩:=a1;obtain⟨b,A,rfl,L,l⟩:=a2;have c:=mX.mono (lQ (O:=O) o) _ _ c;have f:SqL K P a C:=.inl (jF o (jF jX hq));have j:SqL K P b A:=.inl (jF jX L);have el:=c.length;have el':=l.length;refine⟨a,b,rfl,⟨_,f⟩,⟨_,j⟩,λD t=>?_⟩;have w:(List.range (min (g Z).length (d Z).length)).length=min (g Z).length (d Z).length:=ag;have n:∀i,i<(List.range (min (g Z).length (d Z).length)).length->i<C.length/\i<A.length:=λi h=>by rw[w]at h;lia
 refine rY (List.range (min (g Z).length (d Z).length)) (λi _=>((pK (none::none::cap) σ).set 0 (some (C.getD i .non))).set 1 (some (A.getD i .non))) (λi=>((jW (none::none::cap) Z).set 0 (.fr ((g Z).getD i .non))).set 1 (.fr ((d Z).getD i .non))) (λ_=>.non) ((R.grow z).grow o) t (by rw[w];lia)
  (λi H e s=>⟨_,_,C[i]'(n i e).1,A[i]'(n i e).2,s.seq f,s.seq j,by rw[ac],by rw[ac]⟩) ?_ (λH s=>⟨_,_,s.seq f,s.seq j,by rw[w];lia⟩) (λi H e s R'=>?_) ?_ ?_ ?_
 .rintro i k x H N I s ⟨T,y,y',rfl,hT,rfl,M,m⟩;have M:=M _ (s.seq f);have m:=m _ (s.seq j);have J:i<min (g Z).length (d Z).length:=by have:=(ao.mp I).1;rw[w]at this;exact this
  rw[bZ J]at I;cases I;refine⟨same_new hT _,λkk Y=>⟨T,_,rfl,SqT.of upd_same,rfl,_,_,rfl,_,_,rfl,rfl,?_⟩⟩;rw[gQ,gQ,M,m]at Y;exact Y
 .have e:=aX.mp e;exact(R'.set (At.mono (nO (O:=O) s t) _ _ (yC c (by lia)))).set (At.mono (nO (O:=O) s t) _ _ (yC l (by lia)))
 .intro i;exact nq _
 .intro i e;have e:=aX.mp e;refine c3 _ _ ?_;rw[gQ,gQ,ac (show i<(g Z).length by lia),ac (show i<(d Z).length by lia)];refine bO.mpr ⟨i,by rw[dB];exact e,?_⟩;rw[hU];rfl
 .intro N ys s hd S;refine q D ys N ((z.trans o).trans s) ((z.trans o).free t) hd ?_;rw[Qy (λp r=>U (((jW (none::none::cap) Z).set 0 (.fr p)).set 1 (.fr r)))]at S;exact S
def YF {b e:Type}(f:Nat->b->e)(a:b)(l:List b):(List.range l.length).map (λi=>f i (l.getD i a))=l.mapIdx f:=by
 refine dY λi=>?_;rw[aq,cu];by_cases c:i<l.length
 .rw[bZ c];simp only[dO,gQ,ac c,eQ]
 .rw[bT (by rw[ag];lia),bT (by lia)];rfl
def ab1 (h:zE K G (λZ=>E Z/\(g Z).length<=1000/\∀(i:Nat) (q:PV),(g Z)[i]?=some q->C (((jW (none::none::cap) Z).set 0 (.fr (.int i))).set 1 (.fr q))) (λZ=>(g Z).mapIdx λi p=>w (((jW (none::none::cap) Z).set 0 (.fr (.int i))).set 1 (.fr p))) A H Q) :
  RG (none::none::cap) (S5 K (tCons (tX K G E λZ=>.lst (g Z)) tNil)) (gTup K 2 (gCons (gName 0) (gCons (gName 1) gNil))) ul (tX K G C w) A H Q:=by
 obtain⟨B,Z,O,R,⟨L,c2,M⟩,q⟩:=h;refine⟨B,Z,O,R,L,λv F o J=>?_⟩;obtain⟨a,r,rfl,U,e⟩:=J;have c:SqL K F a r:=.inl (jF jX U);have N:=e.length;refine⟨a,rfl,⟨_,c⟩,λD l=>?_⟩;have f:(List.range (g Z).length).length=(g Z).length:=ag;refine rY (List.range (g Z).length) (λ(i:Nat) _=>((pK (none::none::cap) A).set 0 (some (.int i))).set 1 (some (r.getD i .non))) (λ(i:Nat)=>((jW (none::none::cap) Z).set 0 (.fr (.int i))).set 1 (.fr ((g Z).getD i .non))) (λ_=>.non) (R.grow o) l (by rw[f];lia)
  (λi H b s=>⟨_,r[i]'(by rw[f]at b;lia),s.seq c,by rw[ac]⟩) ?_ (λH s=>⟨_,s.seq c,by rw[f,N];exact aj _⟩) (λi H b s I=>?_) ?_ ?_ ?_
 .rintro i k x H t j s ⟨T,y,rfl,P,rfl,n⟩;have n:=n _ (s.seq c);have m:i<(g Z).length:=by have:=(ao.mp j).1;rw[f]at this;exact this
  rw[bZ m]at j;cases j;refine⟨same_new P _,λkk z=>⟨T,_,rfl,SqT.of upd_same,rfl,_,_,rfl,_,_,rfl,rfl,?_⟩⟩;rw[gQ,n]at z;exact z
 .have b:=aX.mp b;exact(I.set (p:=.int i) rfl).set (At.mono (nO (O:=O) s l) _ _ (yC e b))
 .intro i;exact nq _
 .intro i b;have b:=aX.mp b;refine M i _ ?_;rw[gQ,ac b];rfl
 .intro t Y s S u;refine q D Y t (o.trans s) (o.free l) S ?_;rw[YF (λ(i:Nat) p=>w (((jW (none::none::cap) Z).set 0 (.fr (.int i))).set 1 (.fr p)))]at u;exact u
end
section
variable {pt:En->Prop}[∀Z,Decidable (pt Z)]{g a:En->List PV}
def Gj (l:X.N.Nodup)(d:X.N[i]?=some x)(u:X.env.scope.names.lookup x=some .local)(L:uH X N' sc cl (none::cap))(m:X.calm=true)(p:PE X b (tX X.K G j λZ=>.lst (g Z)))(o:∀s H fp,PG (jO X N' sc cl s H fp) t (gName 0))(n:∀s H fp,PE (jO X N' sc cl s H fp) f (tX X.K G C k))
  (e:swapsWith (.ListComp f [⟨t,b,[],0⟩] sc at') (some (.Name x v)) c.line X.env=pure true) (r:∀x,foldedSetIterable b X.env x=pure x:=by intro _;rfl) :
  PS X (.Assign [.Name x v] (.ListComp f [⟨t,b,[],0⟩] sc at') c) (ts X.K G E λP Z=>(j Z/\(g Z).length<=1000/\∀q∈g Z,C ((jW (none::cap) Z).set 0 (.fr q)))/\∀ns,ns=((g Z).map λq=>k ((jW (none::cap) Z).set 0 (.fr q)))->P.nx (Z.set i (.fr (.lst ns)))):=
 VH (Qw l d u L m (pi_list p) o (λ_ _ _=>oR) n e r) λw H Q h=>ab8 h
def Lz (y:X.N.Nodup)(m:X.N[i]?=some x)(E:X.env.scope.names.lookup x=some .local)(L:uH X N' sc cl (none::none::cap))(z:X.calm=true)(k:Gl X "zip")(D:X.mg "zip"=none)(h1:PE X l (tX X.K G v λZ=>.lst (g Z)))(h2:PE X c (tX X.K G C λZ=>.lst (a Z)))(B:∀s H fp,PG (jO X N' sc cl s H fp) (.Tuple els kk tp) (gTup X.K 2 (gCons (gName 0) (gCons (gName 1) gNil))))(A:∀s H fp,PE (jO X N' sc cl s H fp) t (tX X.K G u w))
  (o:swapsWith (.ListComp t [⟨.Tuple els kk tp,.Call (.Name "zip" p) [l,c] [] b,[],0⟩] sc at') (some (.Name x F)) f.line X.env=pure true) (d:starEach [l,c] X.env=(false,eval l X.env)::starEach [c] X.env:=by rfl) (e:starEach [c] X.env=[(false,eval c X.env)]:=by rfl) (n:(backTo b (starEach [c] X.env)).any (·.1)=false:=by rfl) (j:∀x,foldedSetIterable (.Call (.Name "zip" p) [l,c] [] b) X.env x=pure x:=by intro _;rfl) :
  PS X (.Assign [.Name x F] (.ListComp t [⟨.Tuple els kk tp,.Call (.Name "zip" p) [l,c] [] b,[],0⟩] sc at') f) (ts X.K G I λP Z=>((v Z/\C Z)/\(g Z).length<=1000/\∀q r,(q,r)∈(g Z).zip (a Z)->u (((jW (none::none::cap) Z).set 0 (.fr q)).set 1 (.fr r)))/\∀ns,ns=(((g Z).zip (a Z)).map λp=>w (((jW (none::none::cap) Z).set 0 (.fr p.1)).set 1 (.fr p.2)))->P.nx (Z.set i (.fr (.lst ns)))):=
 VH (Qw y m E L z (GD k D (pa_cons h1 (pa_cons h2 pa_nil e) d) d n) B (λ_ _ _=>oR) A o j) λJ H Q h=>ab0 h
def N7 (L:uH X N' sc cl (none::none::cap))(n:X.calm=true)(j:Gl X "enumerate")(u:X.mg "enumerate"=none)(t:PE X b (tX X.K G k λZ=>.lst (g Z)))(r:∀s H fp,PG (jO X N' sc cl s H fp) (.Tuple els kk tp) (gTup X.K 2 (gCons (gName 0) (gCons (gName 1) gNil))))(o:∀s H fp,PE (jO X N' sc cl s H fp) l (tX X.K G C m))
  (c:starEach [b] X.env=[(false,eval b X.env)]:=by rfl) (f:∀x,foldedSetIterable (.Call (.Name "enumerate" p) [b] [] e) X.env x=pure x:=by intro _;rfl) :
  PE X (.ListComp l [⟨.Tuple els kk tp,.Call (.Name "enumerate" p) [b] [] e,[],0⟩] sc at') (zE X.K G (λZ=>k Z/\(g Z).length<=1000/\∀(i:Nat) (q:PV),(g Z)[i]?=some q->C (((jW (none::none::cap) Z).set 0 (.fr (.int i))).set 1 (.fr q))) λZ=>(g Z).mapIdx λi p=>m (((jW (none::none::cap) Z).set 0 (.fr (.int i))).set 1 (.fr p))):=
 λd s v H Q I h=>vY L n (Bb j u (pa_cons t pa_nil c) c) r (λ_ _ _=>oR) o f d s v H Q I (ab1 h)
end
def Za {t:TE}{s:Stmt}{C:En->Prop}{g:En->List PV}(h:PS X s (tAsg t (gName i)))(k:∀b H Q,zE X.K G C g b H Q->t b H Q):PS X s (ts X.K G E λP Z=>C Z/\∀ns,ns=g Z->P.nx (Z.set i (.ow (.lst ns)))):=
 toS h λB b H Z O P D R c w=>k b H _ ⟨B,Z,O,R,c.1,λa v d j n f e=>w.nx _ d _ ⟨hide a O,R.new (p:=.lst (g Z)) j n f e⟩ (c.2 _ rfl)⟩
section
variable {K:Fg}{pt:En->Prop}[∀Z,Decidable (pt Z)]{g c:En->List PV}
def aaL (h:zE K G (λZ=>(Cs Z/\J Z)/\(g Z).length<=1000/\∀q r,(q,r)∈(g Z).zip (c Z)->Ct (((jW (none::none::cap) Z).set 0 (.fr q)).set 1 (.fr r))/\(pt (((jW (none::none::cap) Z).set 0 (.fr q)).set 1 (.fr r))->Cb (((jW (none::none::cap) Z).set 0 (.fr q)).set 1 (.fr r)))) (λZ=>(((g Z).zip (c Z)).filter λp=>decide (pt (((jW (none::none::cap) Z).set 0 (.fr p.1)).set 1 (.fr p.2)))).map λp=>N (((jW (none::none::cap) Z).set 0 (.fr p.1)).set 1 (.fr p.2))) σ H Q) :
  RG (none::none::cap) (W0 K (tCons (tX K G Cs λZ=>.lst (g Z)) (tCons (tX K G J λZ=>.lst (c Z)) tNil))) (gTup K 2 (gCons (gName 0) (gCons (gName 1) gNil))) (vB K G Ct pt) (tX K G Cb N) σ H Q:=by
 obtain⟨B,Z,O,R,⟨⟨c1,L⟩,c2,c3⟩,q⟩:=h;refine⟨B,Z,O,R,c1,λv H1 E a1=>⟨B,Z,O,R.grow E,L,λu H2 z a2=>?_⟩⟩;obtain⟨a,I,rfl,hq,e⟩:=a1;obtain⟨b,F,rfl,S,n⟩:=a2;have e:=mX.mono (lQ (O:=O) z) _ _ e;have j:SqL K H2 a I:=.inl (jF z (jF jX hq));have m:SqL K H2 b F:=.inl (jF jX S);have el:=e.length;have el':=n.length;refine⟨a,b,rfl,⟨_,j⟩,⟨_,m⟩,λD A=>?_⟩;have C:(List.range (min (g Z).length (c Z).length)).length=min (g Z).length (c Z).length:=ag;have w:∀i,i<(List.range (min (g Z).length (c Z).length)).length->i<I.length/\i<F.length:=λi h=>by rw[C]at h;lia
 have o:∀i,i<min (g Z).length (c Z).length->((g Z).getD i .non,(c Z).getD i .non)∈(g Z).zip (c Z):=λi d=>by rw[gQ,gQ,ac (show i<(g Z).length by lia),ac (show i<(c Z).length by lia)];refine bO.mpr ⟨i,by rw[dB];exact d,?_⟩;rw[hU];rfl
 refine Jx (List.range (min (g Z).length (c Z).length)) (λi _=>((pK (none::none::cap) σ).set 0 (some (I.getD i .non))).set 1 (some (F.getD i .non))) (λi=>((jW (none::none::cap) Z).set 0 (.fr ((g Z).getD i .non))).set 1 (.fr ((c Z).getD i .non))) (λ_=>.non) ((R.grow E).grow z) A (by rw[C];lia)
  (λi H d s=>⟨_,_,I[i]'(w i d).1,F[i]'(w i d).2,s.seq j,s.seq m,by rw[ac],by rw[ac]⟩) ?_ (λH s=>⟨_,_,s.seq j,s.seq m,by rw[C];lia⟩) (λi H d s R'=>?_) ?_ (λi d=>(c3 _ _ (o i (aX.mp d))).1) (λi d=>(c3 _ _ (o i (aX.mp d))).2) ?_
 .rintro i k x H H' M s ⟨T,y,y',rfl,hT,rfl,U,t⟩;have U:=U _ (s.seq j);have t:=t _ (s.seq m);have P:i<min (g Z).length (c Z).length:=by have:=(ao.mp M).1;rw[C]at this;exact this
  rw[bZ P]at M;cases M;refine⟨same_new hT _,λkk hk=>⟨T,_,rfl,SqT.of upd_same,rfl,_,_,rfl,_,_,rfl,rfl,?_⟩⟩;rw[gQ,gQ,U,t]at hk;exact hk
 .have d:=aX.mp d;exact(R'.set (At.mono (nO (O:=O) s A) _ _ (yC e (by lia)))).set (At.mono (nO (O:=O) s A) _ _ (yC n (by lia)))
 .intro i;exact nq _
 .intro H' ys s hd al;refine q D ys H' ((E.trans z).trans s) ((E.trans z).free A) hd ?_;have ez:(g Z).zip (c Z)=(List.range (min (g Z).length (c Z).length)).map λi=>((g Z).getD i .non,(c Z).getD i .non):=by rw[Qy (λp r=>(p,r)) PV.non PV.non (g Z) (c Z)];simp
  have Y:∀(l:List (PV×PV)) (r:List Nat) (f:Nat->PV×PV),l=r.map f->(l.filter λp=>decide (pt (((jW (none::none::cap) Z).set 0 (.fr p.1)).set 1 (.fr p.2)))).map (λp=>N (((jW (none::none::cap) Z).set 0 (.fr p.1)).set 1 (.fr p.2)))=(r.filter λi=>decide (pt (((jW (none::none::cap) Z).set 0 (.fr (f i).1)).set 1 (.fr (f i).2)))).map λi=>N (((jW (none::none::cap) Z).set 0 (.fr (f i).1)).set 1 (.fr (f i).2)):=λl r f c=>by rw[c,iu,bD];rfl
  dsimp only;rw[Y _ _ _ ez];exact al
end
section
variable {pt:En->Prop}[∀Z,Decidable (pt Z)]{g a:En->List PV}
def T3 (L:uH X N' sc cl (none::none::cap))(w:X.calm=true)(j:Gl X "zip")(A:X.mg "zip"=none)(h1:PE X l (tX X.K G n λZ=>.lst (g Z)))(h2:PE X c (tX X.K G C λZ=>.lst (a Z)))(z:∀s H fp,PG (jO X N' sc cl s H fp) (.Tuple els kk tp) (gTup X.K 2 (gCons (gName 0) (gCons (gName 1) gNil))))(B:∀s H fp,PT (jO X N' sc cl s H fp) t (vB X.K G o pt))(y:∀s H fp,PE (jO X N' sc cl s H fp) u (tX X.K G m v))
  (d:starEach [l,c] X.env=(false,eval l X.env)::starEach [c] X.env:=by rfl) (e:starEach [c] X.env=[(false,eval c X.env)]:=by rfl) (k:(backTo b (starEach [c] X.env)).any (·.1)=false:=by rfl) (i:∀x,foldedSetIterable (.Call (.Name "zip" p) [l,c] [] b) X.env x=pure x:=by intro _;rfl) :
  PE X (.ListComp u [⟨.Tuple els kk tp,.Call (.Name "zip" p) [l,c] [] b,[t],0⟩] sc at') (zE X.K G (λZ=>(n Z/\C Z)/\(g Z).length<=1000/\∀q r,(q,r)∈(g Z).zip (a Z)->o (((jW (none::none::cap) Z).set 0 (.fr q)).set 1 (.fr r))/\(pt (((jW (none::none::cap) Z).set 0 (.fr q)).set 1 (.fr r))->m (((jW (none::none::cap) Z).set 0 (.fr q)).set 1 (.fr r)))) λZ=>(((g Z).zip (a Z)).filter λp=>decide (pt (((jW (none::none::cap) Z).set 0 (.fr p.1)).set 1 (.fr p.2)))).map λp=>v (((jW (none::none::cap) Z).set 0 (.fr p.1)).set 1 (.fr p.2))):=
 λf s D H Q I h=>vY L w (GD j A (pa_cons h1 (pa_cons h2 pa_nil e) d) d k) z (λs H fp=>Ql (B s H fp)) y i f s D H Q I (aaL h)
end
def mF:PV->List Int
 | .ints l=>l
 |_=>[]
def ZQ (p:List PV):List (List Int):=p.map mF
def Rm (t:List (List Int)):ZQ (t.map PV.ints)=t:=by unfold ZQ;rw[bD];exact(bV λ_ _=>rfl).trans (jo t)
def KWR (b c:Addr)(H:Hp)(a:Addr)(z:Int):Prop:=KW b H a z\/KR c H a z
def Ro {k j:Nat}{g:En->List PV}{I:Nat}(hp:PassesOwn (model X.prog X.w) X.A X.env X.xe)(hc:X.calm=true)(hg:Gl X "enumerate")(hm:X.mg "enumerate"=none)(hl:PE X l (tX X.K G C λZ=>.lst (g Z)))
  (t:PG X (.Tuple [.Name x px,.Name y py] I tp) (gTup X.K 2 (gCons (gName k) (gCons (gName j) gNil)))) (hb:PSs X body (ts X.K G J f)) (F:starEach [l] X.env=[(false,eval l X.env)]:=by rfl)
  (s:∀x,foldedSetIterable (.Call (.Name "enumerate" p) [l] [] m) X.env x=pure x:=by intro _;rfl) :
  PS X (.For (.Tuple [.Name x px,.Name y py] I tp) (.Call (.Name "enumerate" p) [l] [] m) body [] pos) (ts X.K G J λP Z=>C Z/\∃W:Nat->En->Prop,W 0 Z /\ (∀i n Z',(g Z)[i]?=some n->W i Z' -> f (P.lp (W (i+1))) ((Z'.set k (.fr (.int i))).set j (.fr n)))/\∀Z',W (g Z).length Z' -> P.nx Z'):=
 toS (ps_for hp hc (Bb hg hm (pa_cons hl pa_nil F) F) t hb s) λB d H Z O P D R c w=>by
  obtain⟨Q,W,w0,st,nd⟩:=c;refine⟨B,Z,O,R,Q,λv z s1 M=>?_⟩;obtain⟨a,vs,rfl,E,e⟩:=M;have q:=R.grow s1;have b:=rC q w;have S:=e.length;refine⟨a,rfl,⟨_,.inl (jF jX E)⟩,Jk (xs:=vs) (λi d H=>∃Z',wU X.K G (B.at z O) d H Z'/\W i Z') ⟨Z,⟨O,q.rebase⟩,w0⟩ ?_ ?_ ?_⟩
  .rintro i d H _ ⟨Z',⟨A,r⟩,_⟩;exact .inl (jF ((Rep.rN B z O).trans r.same) E)
  .rintro i y d H T hy ⟨Z',⟨A,r⟩,o⟩ Y;obtain⟨n,U,N⟩:=e.get hy;have R2:=r.grow (same_new Y (.tup [.int i,y]));refine⟨T,_,rfl,SqT.of upd_same,rfl,_,_,rfl,_,_,rfl,rfl,?_⟩;exact⟨_,_,_,⟨A,(R2.set (p:=.int i) rfl).set (At.mono (q.seen R2) _ _ N)⟩,st i n Z' U o,⟨λu L Z' r h=>⟨Z',r,h⟩,b.rt,b.rl,b.rn,b.nx,λu L Z' r h=>⟨Z',r,h⟩,b.er⟩⟩
  .rintro d H ⟨Z',r,o⟩;rw[<- S]at o;exact b.nx d H Z' r (nd Z' o)
def Ru {k j:Nat}{g h:En->List PV}{kk:Nat}(hp:PassesOwn (model X.prog X.w) X.A X.env X.xe)(hc:X.calm=true)(hg:Gl X "zip")(hm:X.mg "zip"=none)(hl:PE X l (tX X.K G C λZ=>.lst (g Z)))(S:PE X e (tX X.K G C2 λZ=>.lst (h Z)))
  (Q:PG X (.Tuple [.Name x px,.Name y py] kk tp) (gTup X.K 2 (gCons (gName k) (gCons (gName j) gNil)))) (hb:PSs X body (ts X.K G Er f))
  (F:starEach [l,e] X.env=(false,eval l X.env)::starEach [e] X.env:=by rfl) (I:starEach [e] X.env=[(false,eval e X.env)]:=by rfl) (U:(backTo d (starEach [e] X.env)).any (·.1)=false:=by rfl) (N:∀x,foldedSetIterable (.Call (.Name "zip" p) [l,e] [] d) X.env x=pure x:=by intro _;rfl) :
  PS X (.For (.Tuple [.Name x px,.Name y py] kk tp) (.Call (.Name "zip" p) [l,e] [] d) body [] pos) (ts X.K G Er λP Z=>(C Z/\C2 Z)/\∃W:Nat->En->Prop,W 0 Z /\ (∀i n m Z',(g Z)[i]?=some n->(h Z)[i]?=some m->W i Z' -> f (P.lp (W (i+1))) ((Z'.set k (.fr n)).set j (.fr m)))/\∀Z',W (min (g Z).length (h Z).length) Z' -> P.nx Z'):=
 toS (ps_for hp hc (GD hg hm (pa_cons hl (pa_cons S pa_nil I) F) F U) Q hb N) λB q H Z O P D R c w=>by
  obtain⟨⟨c1,c2⟩,W,w0,st,nd⟩:=c;refine⟨B,Z,O,R,c1,λv H1 s1 a1=>⟨B,Z,O,R.grow s1,c2,λu J Y a2=>?_⟩⟩;obtain⟨a,vs,rfl,hq,s⟩:=a1;obtain⟨b,us,rfl,A,z⟩:=a2;have L:=(R.grow s1).grow Y;have o:=rC L w;have el:=s.length;have eu:=z.length;have E:Rd (mn J O) a (.lst vs):=jF (lQ Y) hq;have t:=mX.mono (lQ Y) _ _ s;refine⟨a,b,rfl,⟨_,.inl (jF jX E)⟩,⟨_,.inl (jF jX A)⟩,YL (xs:=vs) (ys:=us) (λi q H=>∃Z',wU X.K G (B.at J O) q H Z'/\W i Z') ⟨Z,⟨O,L.rebase⟩,w0⟩ ?_ ?_ ?_⟩
  .rintro i q H ⟨Z',⟨O',r⟩,_⟩;exact⟨.inl (jF ((Rep.rN B J O).trans r.same) E),.inl (jF ((Rep.rN B J O).trans r.same) A)⟩
  .rintro i x y q H T hx hy ⟨Z',⟨O',r⟩,M⟩ hT;obtain⟨n,en,an⟩:=t.get hx;obtain⟨m,em,am⟩:=z.get hy;have R2:=r.grow (same_new hT (.tup [x,y]));refine⟨T,_,rfl,SqT.of upd_same,rfl,_,_,rfl,_,_,rfl,rfl,?_⟩;exact⟨_,_,_,⟨O',(R2.set (At.mono (L.seen R2) _ _ an)).set (At.mono (L.seen R2) _ _ am)⟩,st i n m Z' en em M,⟨λσ' H' Z' r h=>⟨Z',r,h⟩,o.rt,o.rl,o.rn,o.nx,λσ' H' Z' r h=>⟨Z',r,h⟩,o.er⟩⟩
  .rintro q H ⟨Z',r,M⟩;rw[<- el,<- eu]at M;exact o.nx q H Z' r (nd Z' M)
end L3
namespace L2
section
variable {X:Cx}
def Ry (l:Li):(l.map V.int).all flatV=true:=by rw[List.all_map];exact dm.mpr λ_ _=>rfl
def Tj (n:Int)(l:Li):inV (.int n) (l.map V.int)=decide (n∈l):=by
 unfold inV;rw[List.any_map];have:∀y:Int,eqV (.int y) (.int n)=(y == n):=λy=>rfl;rw[fg,List.any_eq_true,gE];refine⟨λ⟨y,a,e⟩=>?_,λh=>⟨n,h,?_⟩⟩
 .rw[<- eq_of_beq e];exact a
 .exact beq_self_eq_true n
def aaO (k:Int):Value->Bool
 | .int n _=>n == k
 |_=>false
def Kd:∀{l:Li} {us:Lv},Vals (l.map V.int) us->us.length=l.length/\∀(i:Nat) (h:i<us.length) (h2:i<l.length),∃t,us[i]=Value.int l[i] t
 |[],_,.nil=>⟨rfl,λi h=>absurd h (cJ _)⟩
 |n::l,_,.cons r t=>by
  obtain⟨e,k⟩:=Kd t;obtain⟨a,rfl⟩:=r;refine⟨by rw[aR,aR,e],λi h h2=>?_⟩;cases i with
  |zero=>exact⟨a,rfl⟩
  |succ i=>exact k i (by simpa using h) (by simpa using h2)
def WX:V->List V->Hp->VK->Prop:=λx v H Q=>∃(l:Addr) (n:List Int) (k:Int),x=.ref l/\v=[.int k]/\Rd H l (.lst (n.map V.int))/\k∈n/\n.length<=1000/\Q (.int (n.idxOf k:Nat)) H
def Rb:MtM X "list.index" WX:=by
 rintro j s P H x O v N Q I G F ⟨l,b,k,rfl,rfl,w,B,M,q⟩;cases G;obtain⟨u,rfl,E⟩:=F.one;obtain⟨o,rfl⟩:=E;obtain⟨z,a,n,r,L,e⟩:=L3.Inv.Dw I w;obtain⟨J,ev⟩:=Kd r;have g:b.idxOf k<b.length:=List.idxOf_lt_length_iff.mpr B;have D:a.toArray.size=a.length:=aw;refine iE gZ ⟨_,e,rfl⟩ PySem.F.entry_list_index (PySem.F.args_list_index_2 _ _) (PySem.SeqAt.list_indexAt l _ n _ _ (.int k o) (aaO k) (b.idxOf k) (by lia) (by lia) ?_ ?_) ⟨e,λy f=>?_,?_⟩
 .obtain⟨t,c⟩:=ev (b.idxOf k) (by lia) g;rw[iG,c];rw[List.getElem_idxOf g];exact beq_self_eq_true k
 .intro m C d;obtain⟨t,c⟩:=ev m (by lia) (by lia);rw[iG,c];exact ib (p:=λx=>x == k) (xs:=b) d
 .have f:y∈a:=by simpa using f
  obtain⟨i,A,rfl⟩:=bO.mp f;obtain⟨t,c⟩:=ev i A (by lia);rw[c];exact SeqAt.EqAt.int_int _ t k o
 .exact⟨.int (b.idxOf k:Nat),H,I.tok _,⟨s.toks,rfl⟩,q⟩
end
end L2
namespace L3
open L2
def Xf (j:PE X a (mC X.K G C g))(k:PE X b (GF X.K G d i))(m:behindInMarks .NotIn b=false:=by rfl):PT X (.Compare a [.NotIn] [b] pos) (vB X.K G (λZ=>C Z/\d Z) λZ=>g Z∉i Z):=
 λp s t H Q I ⟨_,_,_,R,c,q⟩=>pt_cmpR op_notIn_seq j k m p s t H Q I (two R c.1 c.2 λv u w h o r e f=>by
  subst e;obtain⟨l,rfl,n⟩:=f;refine⟨l,_,rfl,.inl (ZC (jF jX n)),rfl,Ry _,_,rfl,?_⟩;have z:=q h (o.trans r);rw[af rfl,Tj,<- gK];exact z)
def Ri (z:PE X e (GF X.K G C k))(y:PE X a (mC X.K G p m))(d:attributeBase e "index" X.env (eval e X.env)=eval e X.env:=by rfl)
  (i:((backTo b (starEach [a] X.env)).all (λx=>!x.1) && (backToKw b (keywordEach [] X.env)).all (λx=>x.1.isSome) && decide ([a].length+([]:List Keyword).length+(if ([]:List Keyword).isEmpty then 0 else 1)<30))=true:=by rfl)
  (f:(g.endLine == b.line)=true:=by rfl) (n:starEach [a] X.env=(false,eval a X.env)::starEach [] X.env:=by rfl) (h:(backTo b (starEach [] X.env)).any (·.1)=false:=by rfl) :
  PE X (.Call (.Attribute e "index" g) [a] [] b) (mC X.K G (λZ=>C Z/\p Z/\m Z∈k Z/\(k Z).length<=1000) λZ=>((k Z).idxOf (m Z):Nat)):=
 uI (pe_bm cG gZ PySem.F.type_list_index Rb z (pa_cons y pa_nil n) d i f n h) λB E H Z O Q R c q=>⟨B,Z,O,R,c.1,λv D s t=>by
  obtain⟨l,rfl,A⟩:=t;have j:=jF jX A;refine⟨.inl ⟨rfl,_,ZC j⟩,B,Z,O,R.grow s,c.2.1,λu r o w=>?_⟩;subst w;exact⟨l,_,_,rfl,rfl,jF o j,c.2.2.1,c.2.2.2,q _ r (s.trans o) rfl⟩⟩
end L3
namespace L2
def yF {j k:Type}{f:j->k}{l m:List k}(h:l.Perm m):∀{L:List j},L.map f=m->∃c:List j,c.Perm L/\c.map f=l:=by
 induction h with
 |nil=>intro L e;have:L=[]:=List.map_eq_nil_iff.mp e;subst this;exact⟨[],.nil,rfl⟩
 |cons x _ o=>intro L e;obtain⟨a,r,rfl,rfl,d⟩:=fW.mp e;obtain⟨c,p,q⟩:=o d;exact⟨a::c,.cons a p,by rw[bN,q]⟩
 |swap x y l=>intro L e;obtain⟨a,z,rfl,rfl,d⟩:=fW.mp e;obtain⟨b,r,rfl,rfl,rfl⟩:=fW.mp d;exact⟨b::a::r,.swap a b r,rfl⟩
 |trans _ _ i g=>intro L e;obtain⟨w,s,u⟩:=g e;obtain⟨n,t,v⟩:=i u;exact⟨n,t.trans s,v⟩
def Je {c:Type}(k:c->Int):∀{a b:List c},a.Perm b->a.Pairwise (λx y=>k x<=k y)->b.Pairwise (λx y=>k x<=k y)->(b.map k).Nodup->a=b
 |[],b,p,_,_,_=>(List.Perm.nil_eq p)
 |x::a,[],p,_,_,_=>absurd p.length_eq (by simp)
 |x::a,y::b,p,sa,sb,nd=>by
  rw[cL]at sa sb;rw[bN,cZ]at nd;have e:x=y:=by
   have h1:x∈y::b:=p.mem_iff.mp ah;have h2:y∈x::a:=p.mem_iff.mpr ah;rcases aG.mp h1 with h1|h1
   .exact h1
   rcases aG.mp h2 with h2|h2
   .exact h2.symm
   have d:=sb.1 x h1;have f:=sa.1 y h2;have g:k y=k x:=Int.le_antisymm d f;exact absurd (aY.mpr ⟨x,h1,g.symm⟩) nd.1
  subst e;rw[Je k (List.Perm.cons_inv p) sa.2 sb.2 nd.2]
def zL:∀{l m:Lv},TriplesOk l->TriplesOk m->TriplesOk (l++m)
 |[],_,_,h=>h
 | .int _ _ :: .int _ _::_::rest,m,h1,h2=>by exact zL (l:=rest) h1 h2
def FN:∀{l:Lv},TriplesOk l->codeAmong pos (l++m)=some cv->codeAmong pos l=some cv\/codeAmong pos m=some cv
 |[],_,h=>.inr h
 | .int line t :: .int col u::c::rest,ht,h=>by
  have h:(if line == pos.line && col == pos.col then some c else codeAmong pos (rest++m))=some cv:=h;show(if line == pos.line && col == pos.col then some c else codeAmong pos rest)=some cv\/_;split at h
  .rename_i g;rw[af g];exact .inl h
  .rename_i g;rw[ae g];exact FN (l:=rest) ht h
def Inv.grown {P c':Addr}{t:zT}{oc:Obj}{more:Array Value}{h':Heap}{tk:Nat}(I:Inv X k Q H s)(e:H P=some (.tbl t))(l:∀b o,b≠P->s.heap.get? b=some o->h'.get? b=some o)(j:s.heap.objs.size<=c')
  (C:h'.get? c'=some oc) (J:Cz oc t.q) (B:h'.get? P=some (W.tabObj (t.ps++more))) (L:TriplesOk more.toList) (G:∀p i,codeAmong p more.toList=some i->i=.ref c') :
  Inv X k Q (upd (upd H c' (.frz oc (.ext λ_=>True))) P (.tbl (t++more))) { s with heap:=h',toks:=tk }:=by
 have fr:H c'=none:=I.hok.fresh j;have m:c'≠P:=λz=>by rw[z,e]at fr;cases fr
 have d:∀b u,H b=some u->b≠c':=λb u q z=>by rw[z,fr]at q;cases q
 have x:∀b,H b=none->b≠P:=λb q z=>by rw[z,e]at q;cases q
 refine I.un ⟨λb o q n _ _=>l b o (x b n) q,λb o q n _ _=>⟨o.slots,l b o (x b n) q⟩,λb o q n _=>?_,λb o q _=>?_,λb O q=>?_,λb o u q=>?_,λb S q=>?_⟩ λb u q=>?_
 .rw[upd_ne (x b n),upd_ne (bh (aF (az q) j))];exact n
 .by_cases z:b=P
  .subst z;exact⟨_,B⟩
  .exact⟨o,l b o z q⟩
 .rw[upd_ne (λz=>by rw[z,e]at q;cases q),upd_ne (d b _ q)];exact q
 .rw[upd_ne (λz=>by rw[z,e]at q;cases q),upd_ne (d b _ q)];exact q
 .by_cases z:b=P
  .subst z;rw[e]at q;cases q;exact⟨more,upd_same⟩
  .exact⟨#[],by rw[upd_ne z,upd_ne (d b _ q),q];simp⟩
 .have g:∀c o u,H c=some (.frz o u)->(upd (upd H c' (.frz oc (.ext λ_=>True))) P (.tbl (t++more))) c=some (.frz o u):=λc o u q=>by rw[upd_ne (λz=>by rw[z,e]at q;cases q),upd_ne (d c _ q)];exact q
  by_cases z:b=P
  .subst z;rw[upd_same]at q;cases q;obtain⟨R,A,F⟩:=I.hok b _ e;refine⟨B,?_,λp i a=>?_⟩
   .show TriplesOk (t.ps++more).toList;rw[iY];exact zL A L
   .have a:codeAmong p (t.ps++more).toList=some i:=a;rw[iY]at a;rcases FN A a with a|a
    .obtain⟨c,D,E,y,M,N⟩:=F p i a;exact⟨c,D,E,y,g c D E M,N⟩
    .exact⟨c',oc,_,G p i a,by rw[upd_ne m,upd_same],J⟩
  .rw[upd_ne z]at q;by_cases y:b=c'
   .subst y;rw[upd_same]at q;cases q;exact⟨C,tJ,⟨_,C⟩,λ_ _ h _=>h⟩
   .rw[upd_ne y]at q;have up:∀c o,H c=some o->c≠P->(upd (upd H c' (.frz oc (.ext λ_=>True))) P (.tbl (t++more))) c=some o:=λc o q n=>by rw[upd_ne n,upd_ne (d c _ q)];exact q
    refine(I.hok b u q).stay (λc v f r=>l c v ?_ r) (λc r=>up c _ r λw=>by rw[w,e]at r;cases r) (λc O r=>up c _ r λw=>by rw[w,e]at r;cases r) λc o u r=>g c o u r;rcases f with rfl|f
    .exact z
    .exact λw=>by rw[w,e]at f;cases f
def Cz.rec {h:Heap}{c:Addr}{oc:Obj}{q:Str}(e:h.get? c=some oc)(k:Cz oc q):h.CodeRec (.ref c) q:=let ⟨vs,t,a,b⟩:=k;⟨c,oc,vs,t,rfl,e,a,b⟩
def Jm (I:Inv X D σ H s)(i:X.env.code=.ref c)(hx:(c,P,q)∈oX X.K)(hq:X.env.qual++"<lambda>"=q)
  (v:defaultsOf a X.env=([],[])) (r:closureFor scope X.env=pure [])
  (Q:Value->Shared->Prop)
  (h:∀f c' g l s',Inv X D σ l s' -> (∀b o,H b=some o->(∀t,o ≠ .tbl t)->l b=some o)->(∀b t,H b=some (.tbl t)->∃Z,l b=some (.tbl ⟨t.q,Z⟩))->s'.heap.get? f=some (W.kla_obj "<lambda>" q a body scope [] ((X.mg "__name__").getD .none) c' g)->l f=none -> (∃oc u,l c'=some (.frz oc u)/\Cz oc q)->s'.os=s.os->s.heap.objs.size<=f->Q (.ref f) s') :
  wpAny (model X.prog X.w) X.A (eval (.Lambda a body scope d) X.env) Q E s:=by
 obtain⟨F,e0⟩:=I.ok.frf.t _ hx;obtain⟨m1,j⟩:=I.base.tbls _ _ e0;have j:H P=some (.tbl ⟨q,F++m1⟩):=j;generalize F++m1=Z at j;obtain⟨hP,ht,hr⟩:=I.hok P _ j;have C:W.CodeHd s.heap c P:=iR I.kIn (Gk hx);have hg:s.heap.Ns mainGlobals X.mg:=I.mod.glob.keeps I.bk;have A:∀b o,X.base.get? b=some o->b≠P:=λb o e z=>by have:=(I.bs b o e).2;rw[z,j]at this;cases this
 have T:mainGlobals≠P:=by obtain⟨o,es,ep,e,_⟩:=I.mod.glob;exact A _ _ e
 obtain⟨bm,ob,b1,b2,G,b4,b5,M⟩:=I.mod.bm;have O:bm≠mainGlobals:=λz=>by obtain⟨o,es,ep,e,J,_⟩:=I.mod.glob;rw[z,e]at G;cases G;rw[J]at M;cases M
 have hb:s.heap.BuiltinsAt X.mg P:=⟨bm,ob,b1,b2,O,A _ _ G,I.bk _ _ G,b4,b5,M⟩;refine W.kla_eval v ?_;rw[hq];cases S:codeAmong d Z.toList with
 |none=>
  refine W.kla_makeFunction (mg:=X.mg) r I.ok.glob hg i C hP ht S T hb λc' g h' tk Y k hlt x U=>?_;obtain⟨c2,oc,vs,t,ec,w,J,hv⟩:=x;cases ec;have I2:=I.grown (c':=c') (oc:=oc) (more:=#[rawInt d.line,rawInt d.col,.ref c']) (h':=h') (tk:=tk) j (λb o n e=>Y b o n e) k w ⟨vs,t,J,hv⟩ U trivial (λp N m=>by
   have m:(if (d.line:Int) == p.line && (d.col:Int) == p.col then some (Value.ref c') else none)=some N:=m;split at m
   .exact(aE m).symm
   .cases m)
  have L:=I2.kept (h':=h'.push (W.kla_obj "<lambda>" q a body scope [] ((X.mg "__name__").getD .none) c' g)) (t':=tk) λb u e=>ay _ e;have fr:H c'=none:=I.hok.fresh k;have B:∀b u,H b=some u->b≠c':=λb u q z=>by rw[z,fr]at q;cases q
  have R:c'≠P:=λz=>by rw[z,j]at fr;cases fr
  refine h h'.objs.size c' g _ _ L (λb o q n=>?_) (λb t q=>?_) (a8 _ rfl) (I2.hok.fresh (aj _)) ⟨oc,_,by rw[upd_ne R,upd_same],vs,t,J,hv⟩ rfl (aA k (bI (az w)))
  .rw[upd_ne (λz=>by rw[z,j]at q;cases q;exact n _ rfl),upd_ne (B b _ q)];exact q
  .by_cases z:b=P
   .subst z;rw[j]at q;cases q;exact⟨_,upd_same⟩
   .exact⟨t.ps,by rw[upd_ne z,upd_ne (B b _ q),q]⟩
 |some N=>obtain⟨c',oc,u,rfl,g1,g2⟩:=hr d N S;refine W.kla_makeFunctionHit (mg:=X.mg) r I.ok.glob hg i C hP ht S hb λg h' tk hk y=>?_;have L:=I.kept (h':=h'.push (W.kla_obj "<lambda>" q a body scope [] ((X.mg "__name__").getD .none) c' g)) (t':=tk) λb u e=>ay _ (hk b u e);exact h h'.objs.size c' g _ _ L (λb o q _=>q) (λb t q=>⟨t.ps,q⟩) (a8 _ rfl) (I.hok.fresh y) ⟨oc,u,g1,g2⟩ rfl y
def zj:bootBuiltins "sorted"=some (.builtin "sorted"):=by decide +kernel
def aa0 {h:Heap}{a:Addr}{m f:Mg}(x:h.Ns a m)(y:h.Ns a f):m=f:=by obtain⟨o,p,l,e,d,_,k⟩:=x;obtain⟨q,i,g,c,b,_,j⟩:=y;rw[e]at c;cases c;rw[d]at b;injection b with d1 _;subst d1;funext n;rw[<- k n,<- j n]
def Rf {f c' t:Addr}{its:Lv}{B O l:Value}{y q:Str}{p:Arguments}{scope:Scope}{L M N:Pos}{j:Nat}
  (P:s.heap.get? f=some (W.kla_obj "<lambda>" q p (.Subscript (.Name y L) (.Constant (.int 1) j M) N) scope [] O c' l)) (C:s.heap.CodeRec (.ref c') q) (k:A.depth<recursionLimit) (n:s.heap.NoLimit)
  (i:bindArgs (W.kla_fn "<lambda>" q p (.Subscript (.Name y L) (.Constant (.int 1) j M) N) scope [] O (.ref c') l) ⟨[.ref t],[]⟩=pure [(y,.ref t)])
  (c:scope.names.lookup y=some .local) (F:∀z∈scope.names,z.2 ≠ .cell) (J:scope.kind=.function) (D:scope.isCoroutine=false) (m:scope.isGenerator=false) (H:(y == ("__debug__":Str))=false)
  (tup:IsTup s.heap t its.toArray) (I:its[1]?=some B)
  (h:∀h' tk,(∀b o,s.heap.get? b=some o->h'.get? b=some o)->Q B { s with heap:=h',toks:=tk }) :
  wpAny (model prog w) A (call (.ref f) [.ref t]) Q E s:=by
 refine iD (iH k P rfl D m rfl C ?_);rw[i];refine bY (fV F (λz R=>?_) (λd G u=>⟨n.fresh _ u,?_⟩) J)
 .rw[bx.mp R];exact c
 have a:∀b o,s.heap.get? b=some o->d.get? b=some o:=λb o e=>u.extBut b o (bh (az e)) (ay _ e);refine iI ?_;have g:IsTup d t its.toArray:=by obtain⟨o,e,r⟩:=tup;exact⟨o,a _ _ e,r⟩
 have len:1<its.length:=(ao.mp I).1;refine Subscript_ (iC (eE J c G (v:=.ref t) ?_ ?_) H)
 .simp
 refine gz ?_;refine dF (x:=B) g.typeIs slot_tuple_getitem.lookup (getItem_tuple (j:=1) (Q:=λr S=>r=B/\_) g (by decide) (by decide) ?_ (by simpa using I) ⟨rfl,?_⟩) rfl
 .rw[aw];unfold seqIndex?;have:(1:Int)<(its.length:Int):=by lia
  simp[this]
 .exact h _ _ a
end L2
namespace L3
open L2
def qX:PV->Int
 | .tup [_,.int k]=>k
 |_=>0
open Classical in
def wj (p:List PV):List PV:=if h:∃l:List PV,l.Perm p/\l.Pairwise (λa b=>qX a<=qX b) then h.choose else[]
def Jl (p:l.Perm c)(o:l.Pairwise λa b=>qX a<=qX b)(nd:(c.map qX).Nodup):wj c=l:=by have h:∃l:List PV,l.Perm c/\l.Pairwise (λa b=>qX a<=qX b):=⟨l,p,o⟩;unfold wj;rw[je h];have s:=h.choose_spec;exact Je qX (s.1.trans p.symm) s.2 o ((p.map qX).nodup_iff.mpr nd)
structure NK (ps:List PV):Prop where
 len:ps.length<64
 two:∀p∈ps,∃x,p=.tup [x,.int (qX p)]
 nd:(ps.map qX).Nodup
def acH {d i j l:Type}(f:d->l):∀(a:List d) (b:List i) (c:List j),a.length=b.length->b.length=c.length->((a.zip (b.zip c)).map λt=>(f t.1,t.2.2))=(a.map f).zip c/\(a.zip (b.zip c)).map (λt=>t.1)=a
 |[],_,_,_,_=>⟨rfl,rfl⟩
 |x::a,[],_,h,_=>absurd h (by simp)
 |x::a,y::b,[],_,h=>absurd h (by simp)
 |x::a,y::b,z::c,h,k=>by
  obtain⟨e,g⟩:=acH f a b c (by simpa using h) (by simpa using k);refine⟨?_,?_⟩
  .rw[dq,dq,bN,e,bN,dq]
  .rw[dq,dq,bN,g]
section
variable {K:Fg}
def Sh:∀{a:List PV} {xs:List V} {its:Lv},mX K G H a xs->Vals xs its->∀t∈a.zip (xs.zip its),At K G H t.1 t.2.1/\RelV t.2.1 t.2.2
 |[],_,_,_,_,t,ht=>by simp at ht
 |p::a,_,_,h,r,t,ht=>by
  obtain⟨v,e,rfl,q,b⟩:=h;cases r with
  |cons c d=>
   rcases aG.mp ht with rfl|ht
   .exact⟨q,c⟩
   .exact Sh b d t ht
def O2:∀{T:List (PV×V×Value)},(∀t∈T,At K G H t.1 t.2.1)->mX K G H (T.map λt=>t.1) (T.map λt=>t.2.1)
 |[],_=>rfl
 |t::T,h=>⟨_,_,rfl,h t ah,O2 λx a=>h x (ad _ a)⟩
def K3:∀{T:List (PV×V×Value)},(∀t∈T,RelV t.2.1 t.2.2)->Vals (T.map λt=>t.2.1) (T.map λt=>t.2.2)
 |[],_=>.nil
 |t::T,h=>.cons (h t ah) (K3 λx a=>h x (ad _ a))
end
def Up (hl:QD X.K X.env.code (X.env.qual++"<lambda>"))(hr:Room k X.A)(hm:X.mg "sorted"=none)(ha:PE X a (tX X.K G Ca ga))(hg:Gl X "sorted":=by rfl)(he:starEach [a] X.env=[(false,eval a X.env)]:=by rfl)
  (hdef:defaultsOf A X.env=([],[]):=by rfl) (hcl:closureFor scope X.env=pure []:=by rfl)
  (hbind:∀(pm ctv:Value) (c' t:Addr),bindArgs (W.kla_fn "<lambda>" (X.env.qual++"<lambda>") A (.Subscript (.Name y p1) (.Constant (.int 1) j p2) p3) scope [] pm (.ref c') ctv) ⟨[.ref t],[]⟩=pure [(y,.ref t)]:=by intros;rfl)
  (hloc:scope.names.lookup y=some .local:=by rfl) (hnc:∀z∈scope.names,z.2 ≠ .cell:=by decide) (hk:scope.kind=.function:=by rfl) (hco:scope.isCoroutine=false:=by rfl) (hgen:scope.isGenerator=false:=by rfl) (hyd:(y == ("__debug__":Str))=false:=by decide) :
  PE X (.Call (.Name "sorted" p) [a] [⟨some "key",.Lambda A (.Subscript (.Name y p1) (.Constant (.int 1) j p2) p3) scope posL,kp⟩] pos) (zE X.K G (λZ=>Ca Z/\ga Z=.lst (rM (ga Z))/\NK (rM (ga Z))) λZ=>wj (rM (ga Z))):=by
 intro pins s σ H Q I ⟨B,Z,O,R,c,q⟩;refine cF (ld_blt I hg hm zj ?_ (by decide) (by decide));refine e8 (thn (pa_cons ha pa_nil he pos pins s σ H (λvs H'=>∃l xs,vs=[.ref l]/\Same H H'/\Rd (mn H' O) l (.lst xs)/\mX X.K G (mn H' O) (rM (ga Z)) xs) I ⟨B,Z,O,R,c.1,λv H1 s1 a1=>?_⟩) λus t1 h=>?_) (by rw[he];rfl) (by rw[he];rfl)
 .rw[c.2.1]at a1;obtain⟨l,xs,rfl,r1,al⟩:=a1;exact⟨l,xs,rfl,s1,r1,al⟩
 obtain⟨vs,H1,I1,rv,l,xs,rfl,s1,rd,al⟩:=h;obtain⟨u,rfl,ru⟩:=vals1 rv;cases ru;obtain⟨cc,P,hcode,hx⟩:=hl;obtain⟨_,_,PO⟩:=c;have q:∀(a:Addr) (vs:List V) (H':Hp),Same H H' -> H a=none->H' a=some (HO.lst vs)->mX X.K G (mn H' (hide a O)) (wj (rM (ga Z))) vs->Q (V.ref a) H':=q;generalize rM (ga Z)=ps at *
 refine kws_cons (Jm I1 hcode hx rfl hdef hcl _ λf c' ctv H2 t2 C kp2 tb2 hf fn fz os _=>kws_nil ?_);have s2:Same H1 H2:=λb o e=>by cases o<;>first|exact kp2 b _ e (λt z=>by cases z)|(obtain⟨ps',z⟩:=tb2 b _ e;exact⟨ps',z⟩)
 obtain⟨_,its,n,r,S,e⟩:=L3.Inv.Dw C (jF (jX.trans s2) rd);have al2:=mX.mono (lQ s2) _ _ al;have lps:ps.length=xs.length:=al2.length;obtain⟨m,F⟩:=C.fr;have N:=news_all (g:=X.base) (h:=t2.heap) (L:=X.env.locals);have hfL:f≠X.env.locals:=λz=>by obtain⟨m',⟨o,es,ep,ho,hd,_⟩,_⟩:=C.loc;rw[<- z,hf]at ho;cases ho;cases hd
 have kept:∀{h:Heap} {own:List (Addr×Obj)},Fr X.base X.env.locals h m->News X.base X.env.locals h (allNews X.base t2.heap X.env.locals++own)->∀b o,b≠X.env.locals->t2.heap.get? b=some o->h.get? b=some o:=λ{h own} J N' b o hb eb=>by
  cases z:X.base.get? b with
  |some u=>have:=C.bk b u z;rw[eb]at this;cases this;exact J.keep b _ z
  |none=>exact(N' (b,o) (cQ _ (mem_allNews hb z eb))).1
 have tr:∀b u,H2 b=some u->b≠X.env.locals:=λb u z w=>by rw[w,C.free]at z;cases z
 obtain⟨oc,fu,fz1,fz2⟩:=fz;have hoc:=(C.hok c' _ fz1).1;refine PyProof.Rows.ksk_sorted (b:=false) (kz:=ps.map qX) (f:=.ref f) F N (vs:=its) ⟨_,e,rfl,n,rfl⟩ (by rw[aa,lps,S]) (by rw[<- S,<- lps];exact PO.len) (PyProof.Rows.ksk_s1 _ _) (λx=>PyProof.Rows.ksk_l1 _ _) (λx=>PyProof.Rows.ksk_t1 _ _) (λi v kk hv M h tk own J N'=>?_) (λD h' tk out cz J N' lt ko=>?_)
 .rw[aq]at M;cases hp:ps[i]? with
  |none=>rw[hp]at M;cases M
  |some pp=>
   rw[hp]at M;cases M;obtain⟨xv,hxv,at1⟩:=al2.at hp;obtain⟨v',hv',rl⟩:=r.get hxv;rw[hv]at hv';cases hv';obtain⟨x,ex⟩:=PO.two pp (bE hp);rw[ex]at at1;obtain⟨t,us,rfl,ht,ux,ur,rfl,_,ui,un,rfl,hui,hun⟩:=at1;cases rl;subst hun hui;have ht2:H2 t=some (.tup [ux,.int (qX pp)]):=(uy ht).2;obtain⟨_,its2,r2,tup⟩:=C.hok t _ ht2;cases r2 with
   |cons q0 q1=>
    cases q1 with
    |cons q2 q3=>cases q3;obtain⟨tok,rfl⟩:=q2;obtain⟨o,E,ro⟩:=tup;have tup':IsTup h t _:=⟨o,kept J N' _ _ (tr t _ ht2) E,ro⟩;refine Rf (s:={ t2 with heap:=h,toks:=tk }) (kept J N' _ _ hfL hf) (Cz.rec (kept J N' _ _ (tr c' _ fz1) hoc) fz2) hr.depth (C.ok.mod.nolimit.keeps J.keep) (hbind _ _ _ _) hloc hnc hk hco hgen hyd tup' rfl λh'' tk' kk=>?_;exact⟨h'',tk',tok,rfl,rfl,J.kept kk,λp hp=>⟨kk _ _ (N' p hp).1,(N' p hp).2⟩⟩
 .have d:∀b o,b≠X.env.locals->t2.heap.get? b=some o->h'.get? b=some o:=λb o hb eb=>by
   cases z:X.base.get? b with
   |some u=>have:=C.bk b u z;rw[eb]at this;cases this;exact J.keep b _ z
   |none=>exact(N' (b,o) (ad _ (mem_allNews hb z eb))).1
  obtain⟨hD,DL,Db⟩:=N' (D,_) ah;have Dn:t2.heap.get? D=none:=by
   cases z:t2.heap.get? D with
   |none=>rfl
   |some o=>exact absurd (lt (D,o) (mem_allNews DL Db z)) (c9 _)
  have HD:H2 D=none:=by
   cases z:H2 D with
   |none=>rfl
   |some u=>obtain⟨o,E⟩:=ObjOk.get (C.hok D u z);rw[Dn]at E;cases E
  obtain⟨pz,Y,hout,U⟩:=ko;obtain⟨z1,z2⟩:=acH qX ps xs its lps S;rw[<- z1]at Y;obtain⟨T,tp,te⟩:=yF Y rfl;have mem:=Sh al2 r;have eps:T.map (λt=>t.1)=wj ps:=by
   refine(Jl ?_ ?_ PO.nd).symm
   .have:=tp.map λt=>t.1;rw[z2]at this;exact this
   .rw[<- te]at U;rw[dC]at U ⊢;exact U
  have eout:out.toList=T.map λt=>t.2.2:=by rw[hout,<- te,bD];rfl
  have rv:Vals (T.map λt=>t.2.1) out.toList:=by rw[eout];exact K3 λt ht=>(mem t (tp.mem_iff.mp ht)).2
  have alT:mX X.K G (mn H2 O) (wj ps) (T.map λt=>t.2.1):=by rw[<- eps];exact O2 λt ht=>(mem t (tp.mem_iff.mp ht)).1
  have lT:(T.map λt=>t.2.1).length<=sizeLine:=by rw[aa,tp.length_eq,dB,dB];have h1:=PO.len;exact bI (small1000 (by lia))
  have hobj:h'.get? D=some { cls:=.type "list",data:=.seq out.toList.toArray cz }:=by
   rw[hD]
   all_goals simp[seqObj]
  have I3:Inv X pins σ (upd H2 D (.lst (T.map λt=>t.2.1))) { t2 with heap:=h',gens:=t2.gens,drawn:=t2.drawn,toks:=tk }:=by
   refine C.step (ch:=[]) (λb hb=>absurd hb (by simp)) (λb o hb _ _ E _=>d b o hb E) (λb o hb _ _ E _=>⟨o.slots,d b o hb E⟩) (λb o _ E no=>?_) (λb o _ E=>?_) (λb xs z=>?_) (λb o u z=>?_) (λb ps z=>⟨#[],?_⟩) (λm0 hm0=>?_) (λb u z=>?_) C.bare
   .rw[upd_ne (λw=>by rw[w,Dn]at E;cases E)];exact no
   .by_cases w:b=X.env.locals
    .obtain⟨o',es,ep,ho,_⟩:=J.ns;rw[w];exact⟨o',ho⟩
    .exact⟨o,d b o w E⟩
   .rw[upd_ne (ne_of_none z HD)];exact z
   .rw[upd_ne (ne_of_none z HD)];exact z
   .rw[upd_ne (ne_of_none z HD),z];simp
   .have:=aa0 hm0 F.ns;subst this;exact J.ns
   .by_cases w:b=D
    .subst w;rw[upd_same]at z;cases z;exact⟨lT,out.toList,cz,rv,hobj⟩
    .rw[upd_ne w]at z;refine(C.hok b u z).stay (λc v hcb rr=>d c v ?_ rr) (λc rr=>by rw[upd_ne (ne_of_none rr HD)];exact rr) (λc _ rr=>by rw[upd_ne (ne_of_none rr HD)];exact rr) λc _ _ rr=>by rw[upd_ne (ne_of_none rr HD)];exact rr
     rcases hcb with rfl|hcb
     .exact tr c _ z
     .exact tr c _ hcb
  have sD:Same H2 (upd H2 D (.lst (T.map λt=>t.2.1))):=same_new HD _;exact⟨.ref D,_,I3,rfl,q D _ _ ((s1.trans s2).trans sD) ((s1.trans s2).free HD) upd_same (mX.mono (nO sD HD) _ _ alT)⟩
section
variable {P:Program}{K:Fg}
def abH {x:Str}{o:Stmt}{N r:Ls}{k:Nat}{pre:List PV->Prop}{F:List PV->PV}(d:nj K mg x o r)(S:FnScope N r (defScope o))(M:HN K mg x)(len:∀as,pre as->as.length=r.length)
  (i:∀(f:Addr) (g:Value) (A:Around) (outer:List Env) (s:Shared) (H:Hp) (E:XK),Room k (A.deeper (envOfC x (defScope o) s.heap.objs.size f g))->QD K g (x++".<locals>."++"<lambda>") -> ∃fs,PSs (cxOf CX0 P w K mg base N x (defScope o) f g A outer s H E).nox (defBody o) (ts K G ER0 fs)/\∀as,pre as->fs { nx:=λ_=>F as=.non,rt:=λp=>p=F as,rl:=λns=>F as=.ints ns } (oH N as)):Ok P w K mg base (k+1) x r (wV K G pre F):=by
 obtain⟨f,Y,D,b,m⟩:=d.ex;refine⟨f,Y,?_,b,D.kp,m⟩;obtain⟨oc,od,kV,U,pm,an,g,ct,osl,rfl,J,u⟩:=D.ex;have y:QD K g (x++".<locals>."++"<lambda>"):=by obtain⟨f',oc',od',Z,sl',L,l,y⟩:=M;rw[m]at L;cases L;rw[J]at l;cases l;exact y
 refine fn_of J u S (λvs H Q E h=>?_) λA outer s H vs Q E hr h=>?_
 .obtain⟨as,O,_,t,B,_⟩:=h;rw[<- t.length];exact len as B
 obtain⟨as,O,I,t,B,q⟩:=h;obtain⟨fs,b,c⟩:=i f g A outer s H E hr y;refine⟨_,b.nox,⟨H,O⟩,oH N as,_,⟨O,tW I t⟩,c as B,⟨λσ' j Z' R h=>?_,λv j p C T h=>?_,λa j ns C n e h=>?_,λ_ _ _ _ _ h=>h.elim,λ_ _ _ _ h=>h,λ_ _ _ _ h=>h,λ_ _ _ h=>h⟩⟩
 .obtain⟨O',R⟩:=R;exact q .non j R.same (by rw[show F as=.non from h];rfl)
 .subst h;exact q v j C T
 .refine q _ j C ?_;rw[h];exact⟨a,rfl,.inl (by
   rw[rO]
   .exact e
   .cases z:O a with
    |false=>rfl
    |true=>exact absurd n (I a z))⟩
end
end L3
namespace L2
open PySem.AutoSeq1 (wpAny_loadPart')
open PySem.MeetsSeq PySem.MeetsSeq2 PySem.MeetsSeq3 PySem.SeqAt
def pI:List Int->List Int->Bool
 |a::r,b::t=>if a=b then pI r t else decide (a<b)
 |_,_=>false
def Hl:∀{vs:Lv} {ns:Li},IntsAre vs ns->∀i,i<vs.length->∃t,vs[i]?=some (.int (ns.getD i 0) t)
 |_,_,.nil,i,h=>absurd h (by simp)
 |_,_,.cons n t r,0,h=>⟨t,rfl⟩
 |_,_,.cons n t r,i+1,h=>by obtain⟨u,e⟩:=Hl r i (by simpa using h);exact⟨u,e⟩
def Tt {ns m:Li}{i:Nat}(h1:i<ns.length)(h2:i<m.length):pI (ns.drop i) (m.drop i)=if ns.getD i 0=m.getD i 0 then pI (ns.drop (i+1)) (m.drop (i+1)) else decide (ns.getD i 0<m.getD i 0):=by rw[eM h1,eM h2];simp[pI,gQ,h1,h2]
def Rh {xs ys:Lv}{ns m:Li}(l b:Addr)(n H:Nat)(dd q:Option Addr)(J r:Array (Option Value))(v:IntsAre xs ns)(x:IntsAre ys m)(F:xs.length=ys.length)(k:Nat) :
  ∀i:Nat,xs.length-i=k->Meets (Builtin.«list.__eq__.loop» ⟨[.ref l,.ref b,rawInt i,rawInt 0],[]⟩)
   (λA R s=>s.heap.get? l=some { cls:=.type "list",dict:=dd,data:=.seq xs.toArray n,slots:=J }/\s.heap.get? b=some { cls:=.type "list",dict:=q,data:=.seq ys.toArray H,slots:=r } /\ R (.ok (.ret (.bool (pI (ns.drop i) (m.drop i))))) s):=by
 have N:=v.length;have M:=x.length
 induction k with
 |zero=>
  intro i D p w A R s h;obtain⟨E,g,d,L,I⟩:=s;obtain⟨j,f,h⟩:=h
  wp_walk using wpAny_loadPart' j,wpAny_loadPart' f
  have a:xs.toArray[((i:Nat):Int).toNat]?=none:=by simp;lia
  have c:ys.toArray[((i:Nat):Int).toNat]?=none:=by simp;lia
  have C:pI (ns.drop i) (m.drop i)=false:=by rw[List.drop_of_length_le (by lia)];rfl
  rw[C]at h;rw[a,c]
  wp_walk using wpAny_loadPart' j,wpAny_loadPart' f
  show R (.ok (.ret (.bool (decide (xs.toArray.size<ys.toArray.size))))) _;have:¬xs.toArray.size<ys.toArray.size:=by simp;lia
  rw[aM this];exact h
 |succ k G=>
  intro i D p w A R s h;obtain⟨E,g,d,L,I⟩:=s;obtain⟨j,f,h⟩:=h
  wp_walk using wpAny_loadPart' j,wpAny_loadPart' f
  obtain⟨t,y⟩:=Hl v i (by lia);obtain⟨u,z⟩:=Hl x i (by lia);have a:xs.toArray[((i:Nat):Int).toNat]?=some (.int (ns.getD i 0) t):=by simpa using y
  have c:ys.toArray[((i:Nat):Int).toNat]?=some (.int (m.getD i 0) u):=by simpa using z
  have B:((i:Int)+1)=((i+1:Nat):Int):=by push_cast;rfl
  rw[Tt (by lia) (by lia)]at h;rw[a,c];refine aH (hO ?_);by_cases o:ns.getD i 0=m.getD i 0
  .rw[af o]at h;have e:(ns.getD i 0 == m.getD i 0)=true:=by simpa using o
   rw[e]
   wp_walk
   rw[B];exact⟨plainId_quiet plain_eq_loop _,codeAny_builtin entry_eq_loop (by
    rw[Around.under_plainId plain_eq_loop _];exact G (i+1) (by lia) p w A R _ ⟨j,f,h⟩)⟩
  .rw[ae o]at h;have e:(ns.getD i 0 == m.getD i 0)=false:=by simpa using o
   rw[e]
   wp_walk using wpAny_loadPart' j,wpAny_loadPart' f
   rw[a,c];refine aH (wpAny_lt_int ?_)
   wp_walk
   exact h
def QL (l b:Addr)(n j:Nat)(dd a:Option Addr)(k c:Array (Option Value))(m:IntsAre xs ns)(o:IntsAre ys q)(e:xs.length=ys.length) :
  Meets (Builtin.«list.__lt__» ⟨[.ref l,.ref b],[]⟩)
   (λA R s=>s.heap.get? l=some { cls:=.type "list",dict:=dd,data:=.seq xs.toArray n,slots:=k }/\s.heap.get? b=some { cls:=.type "list",dict:=a,data:=.seq ys.toArray j,slots:=c } /\ R (.ok (.ret (.bool (pI ns q)))) s):=by
 intro p w A R s h;obtain⟨t,g,d,v,u⟩:=s;obtain⟨i,f,h⟩:=h;have r:=PySem.AutoSeq1.sub_list_list
 wp_walk using wpAny_loadPart' i,wpAny_loadPart' f
 exact⟨plainId_quiet plain_eq_loop _,codeAny_builtin entry_eq_loop (by
  rw[Around.under_plainId plain_eq_loop _];exact Rh l b n j dd a k c m o e _ 0 rfl p w A R _ ⟨i,f,by simpa using h⟩)⟩
def X7 (y:s.heap.IsList a xs.toArray)(t:s.heap.IsList b ys.toArray)(u:IntsAre xs ns)(v:IntsAre ys m)(i:xs.length=ys.length)(z:A.units<cLine)(h:Q (.bool (pI ns m)) s) :
  wpAny (model prog w) A (compareOp .Lt (.ref a) (.ref b)) Q E s:=by
 obtain⟨⟨cls,r,l,C⟩,q,o,n,p⟩:=id y;obtain⟨⟨k,g,f,j⟩,e,c,B,d⟩:=id t;simp only at o p c d;subst o p c d;exact richCompare_meets_room (op:=.Lt) ⟨_,q,rfl⟩ ⟨_,e,rfl⟩ F.slot_list_lt F.entry_list_lt (F.args_list_lt_2 _ _) (QL a b n B r g C j u v i)
  ⟨q,e,show Value.bool (pI ns m)≠Value.notImplemented/\Q (.bool (pI ns m)) s from⟨(λx=>nomatch x),h⟩⟩ z
def pM (a b:List Int):Bool:=if (a.length:Int)=(b.length:Int) then(if a=b then false else pI a b) else decide ((a.length:Int)<(b.length:Int))
def aaQ (o:IsTup s.heap x #[.int (ns.length:Int) tx,.ref gx])(p:IsTup s.heap y #[.int (m.length:Int) ty,.ref gy])(l:s.heap.IsList gx xs.toArray)(ly:s.heap.IsList gy ys.toArray)
  (i:IntsAre xs ns) (a:IntsAre ys m) (t:A.units+64<cLine) (h:Q (pM ns m) s):wpAny (model prog w) A (keyLt' (tuples' true) (.ref x) (.ref y)) Q E s:=by
 obtain⟨z,j,q,u,b⟩:=o;obtain⟨B,k,r,v,f⟩:=p;refine W.kat_lt j b k f (W.kat_cons (hO ?_));by_cases c:(ns.length:Int)=(m.length:Int)
 .have e:((ns.length:Int) == (m.length:Int))=true:=by simpa using c
  rw[e];have n:xs.length=ys.length:=by have:=i.length;have:=a.length;lia
  refine W.kat_yes (W.kat_cons (SeqAt.eqAt_reads _ _ _ _ _ _ _ _ (reads_newData l (W.ke_carried i)) (reads_newData ly (W.ke_carried a)) (by simp[PyData.canLay0,iw]) (by simp[PyData.canLay0,iw]) (by
   simp only[PyData.depth,W.ke_depthAll];lia) _ _ _ _ ?_))
  have g:PyData.eqv (.list (ns.map PyData.int)) (.list (m.map PyData.int))=decide (ns=m):=W.ked_eqvAll ns m;rw[g];unfold pM at h;rw[af c]at h;by_cases d:ns=m
  .rw[aK d];rw[af d]at h;exact W.kat_yes (W.kat_nil h)
  .rw[aM d];rw[ae d]at h;exact W.kat_no (W.kat_one _ _ (X7 l ly i a n (by lia) h))
 .have e:((ns.length:Int) == (m.length:Int))=false:=by simpa using c
  rw[e];unfold pM at h;rw[ae c]at h;exact W.kat_no (oneLt_int h)
end L2
end
namespace L2
open PySem PySem.Spec PyProof.Rows PySem.W
def vW (n:Nat)(lt:Nat->Nat->Bool){b:Type}(Post:b->Prop):KasT b->Prop
 | .ret a=>Post a
 | .ask i j k=>i<n/\j<n/\vW n lt Post (k (lt i j))
section
variable {n:Nat}{lt:Nat->Nat->Bool}{g o:Type}
def vW.mono (h:∀a,P a->Q a):∀(t:KasT g),vW n lt P t->vW n lt Q t
 | .ret a,k=>h a k
 | .ask _ _ k,⟨a,b,c⟩=>⟨a,b,vW.mono h (k _) c⟩
def vW.bind {f:g->KasT o}{Q:o->Prop}:∀(t:KasT g),vW n lt (λa=>vW n lt Q (f a)) t->vW n lt Q (t.bind f)
 | .ret _,k=>k
 | .ask _ _ k,⟨a,b,c⟩=>⟨a,b,vW.bind (k _) c⟩
def vW.wp (h:∀i j C,i<n->j<n->C (lt i j) s->cmp i j C s)(d:∀a,P a->Q a s):∀(t:KasT g),vW n lt P t->t.kasWp cmp Q s
 | .ret a,k=>d a k
 | .ask _ _ k,⟨a,b,c⟩=>h _ _ _ a b (vW.wp h d (k _) c)
structure Ye (n:Nat)(lt:Nat->Nat->Bool):Prop where
 asy:∀i j,i<n->j<n->lt i j=true->lt j i=false
 tot:∀i j,i<n->j<n->i≠j->lt i j=false->lt j i=true
 tr:∀i j k,i<n->j<n->k<n->lt i j=true->lt j k=true->lt i k=true
def PR (n:Nat)(p:Array Nat):Prop:=p.toList.Perm (List.range n)
def PR.size (h:PR n p):p.size=n:=by have:=List.Perm.length_eq h;rw[ag,de]at this;exact this
def Bv {p:Array Nat}{i:Nat}(h:i<p.size):p.getD i 0=p[i]:=by simp[Array.getD,h]
def PR.bd {p:Array Nat}(h:PR n p){i:Nat}(a:i<n):p.getD i 0<n:=by
 rw[Bv (by rw[h.size];exact a)];have:p[i]'(by rw[h.size];exact a)∈p.toList:=by simp
 exact aX.mp (List.Perm.mem_iff h |>.mp this)
def PR.ne {p:Array Nat}(h:PR n p){i j:Nat}(c:i<n)(d:j<n)(b:i≠j):p.getD i 0≠p.getD j 0:=by
 have s:=h.size;rw[Bv (by lia),Bv (by lia)];have nd:p.toList.Nodup:=(List.Perm.nodup_iff h).mpr hV;intro e;have l:i<p.toList.length:=by rw[de];lia
 have a:j<p.toList.length:=by rw[de];lia
 have:=(List.nodup_iff_pairwise_ne.mp nd |> dw.mp);rcases fj b with q|q
 .exact this i j l a q (by simpa using e)
 .exact this j i a l q (by simpa using e.symm)
def Rt (lt:Nat->Nat->Bool)(p:Array Nat)(m:Nat):Prop:=∀i j,i<j->j<m->lt (p.getD i 0) (p.getD j 0)=true
def Rt.step (O:Ye n lt)(R:PR n p)(S:Rt lt p m)(b:m<n)(h0:0<m)(h:lt (p.getD m 0) (p.getD (m-1) 0)=false):Rt lt p (m+1):=by
 have l:lt (p.getD (m-1) 0) (p.getD m 0)=true:=O.tot _ _ (R.bd b) (R.bd (by lia)) (R.ne b (by lia) (by lia)) h;intro i j a e;by_cases c:j<m
 .exact S i j a c
 .have:j=m:=by lia
  subst this;by_cases d:i=j-1
  .rw[d];exact l
  .exact O.tr _ _ _ (R.bd (by lia)) (R.bd (by lia)) (R.bd b) (S i (j-1) (by lia) (by lia)) l
def Nu (O:Ye n lt)(R:PR n p):∀(f m:Nat),0<m->m+f=n->Rt lt p m->vW n lt (λk=>m<=k/\k<=n/\Rt lt p k/\(k<n->lt (p.getD k 0) (p.getD (k-1) 0)=true)) (kas_asc p f m)
 |0,m,h0,hm,S=>⟨aj _,by lia,S,λh=>by lia⟩
 |f+1,m,h0,hm,S=>by
  refine⟨R.bd (by lia),R.bd (by lia),?_⟩;cases c:lt (p.getD m 0) (p.getD (m-1) 0) with
  |true=>dsimp only;rw[af rfl];exact⟨aj _,by lia,S,λ_=>c⟩
  |false=>dsimp only;rw[ae (by decide)];exact vW.mono (λk h=>⟨by lia,h.2⟩) _ (Nu O R f (m+1) (by lia) (by lia) (S.step O R (by lia) h0 c))
def Dsc (lt:Nat->Nat->Bool)(p:Array Nat)(m:Nat):Prop:=∀i j,i<j->j<m->lt (p.getD j 0) (p.getD i 0)=true
def Dsc.step (O:Ye n lt)(R:PR n p)(S:Dsc lt p m)(a:m<n)(h0:0<m)(l:lt (p.getD m 0) (p.getD (m-1) 0)=true):Dsc lt p (m+1):=by
 intro i j h b;by_cases c:j<m
 .exact S i j h c
 .have:j=m:=by lia
  subst this;by_cases d:i=j-1
  .rw[d];exact l
  .exact O.tr _ _ _ (R.bd a) (R.bd (by lia)) (R.bd (by lia)) l (S i (j-1) (by lia) (by lia))
def Og (O:Ye n lt)(R:PR n p):∀(f m:Nat),0<m->m+f=n->Dsc lt p m->vW n lt (λr=>r.1=p/\r.2.2=0/\m<=r.2.1/\r.2.1<=n/\Dsc lt p r.2.1) (kas_desc f p m 0)
 |0,m,h0,hm,S=>⟨rfl,rfl,aj _,by show m<=n;lia,S⟩
 |f+1,m,h0,hm,S=>by
  refine⟨R.bd (by lia),R.bd (by lia),?_⟩;cases c:lt (p.getD m 0) (p.getD (m-1) 0) with
  |true=>dsimp only;rw[af rfl,ae (by decide)];exact vW.mono (λr h=>⟨h.1,h.2.1,by have:=h.2.2.1;lia,h.2.2.2⟩) _ (Og O R f (m+1) (by lia) (by lia) (S.step O R (by lia) h0 c))
  |false=>dsimp only;rw[ae (by decide)];have d:lt (p.getD (m-1) 0) (p.getD m 0)=true:=O.tot _ _ (R.bd (by lia)) (R.bd (by lia)) (R.ne (by lia) (by lia) (by lia)) c;refine⟨R.bd (by lia),R.bd (by lia),?_⟩;dsimp only;rw[d,af rfl];exact⟨rfl,rfl,aj _,by show m<=n;lia,S⟩
def getD_get {p:Array Nat}{i:Nat}:p.getD i 0=(p[i]?).getD 0:=by simp
def Ug {p:Array Nat}{m i:Nat}(a:m<=p.size):(kas_rev p 0 m).getD i 0=if i<m then p.getD (m-1-i) 0 else p.getD i 0:=by
 rw[getD_get,getD_get,getD_get];unfold kas_rev;rw[getElem?_mirror_all a];by_cases c:i<m
 .rw[af ⟨a9 _,c⟩,af c];congr 2;lia
 .rw[ae (λh=>c h.2),ae c]
def abe (R:PR n p):PR n (kas_rev p 0 m):=by have:=mirror_perm p 0 m ((m-0) / 2);exact(gv.mp this).trans R
def Sg (O:Ye n lt)(R:PR n p)(h2:2<=n):vW n lt (λr=>PR n r.2/\1<=r.1/\r.1<=n/\Rt lt r.2 r.1) (kas_count n p):=by
 refine vW.bind _ (vW.mono (λk h=>?_) _ (Nu O R (n-1) 1 (by decide) (by lia) λi j a b=>by lia));obtain⟨h1,y,S,L⟩:=h;by_cases c:k=n
 .subst c;rw[af (by simp)];exact⟨R,by lia,aj _,S⟩
 .rw[ae (by simpa using c)];by_cases d:k > 1
  .rw[af d];refine⟨R.bd (by lia),R.bd (by lia),?_⟩;dsimp only;rw[S 0 (k-1) (by lia) (by lia),af rfl];exact⟨R,h1,y,S⟩
  .rw[ae d];have e:k=1:=by lia
   subst e;have w:Dsc lt p 2:=λi j a b=>by
    have l:i=0:=by lia
    have s:j=1:=by lia
    subst l s;exact L (by lia)
   refine vW.bind _ (vW.mono (λr h=>?_) _ (Og O R (n-2) 2 (by decide) (by lia) w));obtain⟨v,m,q⟩:=r;obtain⟨l,s,u,f,D⟩:=h;have u:2<=m:=u;have f:m<=n:=f;subst l s;show vW _ _ _ (if 0 > 0 then _ else kas_tail3 m n v);rw[ae (by decide)];have t:=abe (m:=m) R;have x:Rt lt (kas_rev v 0 m) m:=λi j a b=>by rw[Ug (by rw[R.size];exact f),Ug (by rw[R.size];exact f),af (by lia),af b];exact D (m-1-j) (m-1-i) (by lia) (by show m-1-i<m;lia)
   refine vW.bind _ (vW.mono (λk h=>?_) _ (Nu O t (n-m) m (by lia) (by lia) x));exact⟨t,by show 1<=k;lia,h.2.1,h.2.2.1⟩
def Cd (O:Ye n lt)(R:PR n p)(h:k<n)(S:Rt lt p k):∀(f l r:Nat),l<=r->r<=k->r-l<=f->(∀i,i<l->lt (p.getD i 0) (p.getD k 0)=true)->(∀i,r<=i->i<k->lt (p.getD k 0) (p.getD i 0)=true) ->
  vW n lt (λl=>l<=k/\(∀i,i<l->lt (p.getD i 0) (p.getD k 0)=true)/\∀i,l<=i->i<k->lt (p.getD k 0) (p.getD i 0)=true) (kas_place p k f l r)
 |0,l,r,h1,h2,h3,A,B=>by
  have:l=r:=by lia
  subst this;exact⟨h2,A,B⟩
 |f+1,l,r,h1,h2,h3,A,B=>by
  unfold kas_place;by_cases c:l ≥ r
  .rw[af c];have:l=r:=by lia
   subst this;exact⟨h2,A,B⟩
  .rw[ae c];refine⟨R.bd h,R.bd (by lia),?_⟩;cases d:lt (p.getD k 0) (p.getD ((l+r) / 2) 0) with
   |true=>
    dsimp only;rw[af rfl];refine Cd O R h S f l ((l+r) / 2) (by lia) (by lia) (by lia) A λi a b=>?_;by_cases e:i=(l+r) / 2
    .rw[e];exact d
    .exact O.tr _ _ _ (R.bd h) (R.bd (by lia)) (R.bd (by lia)) d (S _ _ (by lia) b)
   |false=>
    dsimp only;rw[ae (by decide)];have j:=O.tot _ _ (R.bd h) (R.bd (by lia)) (R.ne h (by lia) (by lia)) d;refine Cd O R h S f ((l+r) / 2+1) r (by lia) h2 (by lia) (λi a=>?_) B;by_cases e:i=(l+r) / 2
    .rw[e];exact j
    .exact O.tr _ _ _ (R.bd (by lia)) (R.bd (by lia)) (R.bd h) (S i ((l+r) / 2) (by lia) (by lia)) j
def UT {p:Array Nat}{k l i:Nat}(h:k<p.size)(a:l<=k):(bubble p k (k-l)).getD i 0=if i=l then p.getD k 0 else if l<i/\i<=k then p.getD (i-1) 0 else p.getD i 0:=by
 rw[getD_get,getElem?_bubble h _ (by lia)];have e:k-(k-l)=l:=by lia
 rw[e];by_cases c:i=l
 .rw[af c,af c,getD_get]
 .rw[ae c,ae c];by_cases d:l<i/\i<=k
  .rw[af d,af d,getD_get]
  .rw[ae d,ae d,getD_get]
def Ul (O:Ye n lt):∀(f:Nat) (p:Array Nat) (k:Nat),PR n p->k+f=n->Rt lt p k->vW n lt (λp=>PR n p/\Rt lt p n) (kas_bin f p k)
 |0,p,k,R,hk,S=>by
  have:k=n:=by lia
  subst this;exact⟨R,S⟩
 |f+1,p,k,R,hk,S=>by
  have sz:=R.size;refine vW.bind _ (vW.mono (λl h=>?_) _ (Cd O R (by lia) S k 0 k (a9 _) (aj _) (by lia) (λi a=>by lia) λi a b=>by lia));obtain⟨h1,A,B⟩:=h;have r:PR n (bubble p k (k-l)):=(gv.mp (bubble_perm p k (k-l))).trans R;refine Ul O f _ (k+1) r (by lia) λi j a b=>?_;rw[UT (by lia) h1,UT (by lia) h1];by_cases c:i=l
  .rw[af c,ae (by lia),af (by lia)];exact B _ (by lia) (by lia)
  .rw[ae c];by_cases d:j=l
   .rw[af d,ae (by lia)];exact A _ (by lia)
   .rw[ae d];by_cases e:l<i/\i<=k
    .rw[af e,af (by lia)];exact S _ _ (by lia) (by lia)
    .rw[ae e];by_cases m:l<j/\j<=k
     .rw[af m];exact S _ _ (by lia) (by lia)
     .rw[ae m];exact S _ _ a (by lia)
def Wy (O:Ye n lt)(h2:2<=n):vW n lt (λp=>PR n p/\Rt lt p n) (kas_sort n):=by
 have a:PR n (List.toArray (List.range n)):=List.Perm.refl _;refine vW.bind _ (vW.mono (λr h=>?_) _ (Sg O a h2));obtain⟨R,h1,b,S⟩:=h;by_cases c:r.1<n
 .rw[af c];have e:max r.1 1=r.1:=by lia
  rw[e];exact Ul O _ _ _ R (by lia) S
 .rw[ae c];have e:r.1=n:=by lia
  rw[e]at S;exact⟨R,S⟩
end
end L2
section
open PySem PySem.Spec PyProof.Rows
namespace L3
open L2
def Yk (g:List Int):PV:=.tup [.int (g.length:Int),.ints g]
def Kl:∀a:List Int,pI a a=false
 |[]=>rfl
 |x::a=>by show(if x=x then pI a a else _)=false;rw[af rfl,Kl a]
def Jr:∀a b:List Int,pI a b=true->pI b a=false
 |[],_,h=>by cases h
 |x::a,[],h=>by cases h
 |x::a,y::b,h=>by
  have h:(if x=y then pI a b else decide (x<y))=true:=h;show(if y=x then pI b a else decide (y<x))=false;by_cases c:x=y
  .rw[af c]at h;rw[af c.symm];exact Jr a b h
  .rw[ae c]at h;have h:=bQ h;rw[ae (cw c),aM (by lia)]
def JS:∀a b:List Int,a.length=b.length->a≠b->pI a b=false->pI b a=true
 |[],[],_,h,_=>absurd rfl h
 |[],_::_,h,_,_=>by cases h
 |_::_,[],h,_,_=>by cases h
 |x::a,y::b,l,n,h=>by
  have h:(if x=y then pI a b else decide (x<y))=false:=h;show(if y=x then pI b a else decide (y<x))=true;by_cases c:x=y
  .rw[af c]at h;rw[af c.symm];exact JS a b (by simpa using l) (λz=>n (by rw[c,z])) h
  .rw[ae c]at h;have h:=of_decide_eq_false h;rw[ae (cw c),aK (by lia)]
def Oh:∀a b c:List Int,pI a b=true->pI b c=true->pI a c=true
 |[],_,_,h,_=>by cases h
 |_::_,[],_,h,_=>by cases h
 |_::_,_::_,[],_,h=>by cases h
 |x::a,y::b,z::c,h,k=>by
  have h:(if x=y then pI a b else decide (x<y))=true:=h;have k:(if y=z then pI b c else decide (y<z))=true:=k;show(if x=z then pI a c else decide (x<z))=true;by_cases d:x=y
  .subst d;rw[af rfl]at h;by_cases e:x=z
   .rw[af e]at k ⊢;exact Oh a b c h k
   .rw[ae e]at k ⊢;exact k
  .rw[ae d]at h;have h:=bQ h;by_cases e:y=z
   .subst e;rw[ae d,aK h]
   .rw[ae e]at k;have k:=bQ k;rw[ae (by lia),aK (by lia)]
def p8:pM a b=true ↔ a.length<b.length\/(a.length=b.length/\pI a b=true):=by
 unfold pM;by_cases c:(a.length:Int)=(b.length:Int)
 .rw[af c];by_cases d:a=b
  .subst d;rw[af rfl,Kl];simp
  .rw[ae d];constructor
   .exact λh=>.inr ⟨by lia,h⟩
   .rintro (h|h)
    .lia
    .exact h.2
 .rw[ae c,gE];constructor
  .exact λh=>.inl (by lia)
  .rintro (h|h)<;>lia
def Ke (h:pM a b=true):pM b a=false:=by
 cases k:pM b a with
 |false=>rfl
 |true=>
  rcases p8.mp h with h|h<;>rcases p8.mp k with k|k
  .lia
  .lia
  .lia
  .have:=Jr _ _ h.2;rw[k.2]at this;cases this
def Cg (n:a≠b)(h:pM a b=false):pM b a=true:=by
 refine p8.mpr ?_;by_cases c:b.length<a.length
 .exact .inl c
 .right;by_cases d:a.length<b.length
  .rw[p8.mpr (.inl d)]at h;cases h
  .refine⟨by lia,JS a b (by lia) n ?_⟩;cases k:pI a b with
   |false=>rfl
   |true=>rw[p8.mpr (.inr ⟨by lia,k⟩)]at h;cases h
def NT (h:pM a b=true)(k:pM b c=true):pM a c=true:=by
 refine p8.mpr ?_;rcases p8.mp h with h|h<;>rcases p8.mp k with k|k
 .left;lia
 .left;lia
 .left;lia
 .exact .inr ⟨by lia,Oh _ _ _ h.2 k.2⟩
def Zg {g:List (List Int)}(nd:g.Nodup):Ye g.length λi j=>pM (g.getD i []) (g.getD j []) where
 asy:=λ_ _ _ _ h=>Ke h
 tot:=λi j a b n h=>Cg (λz=>n (by
  rw[gQ,gQ,ac a,ac b]at z;exact(List.getElem_inj nd).mp z)) h
 tr:=λ_ _ _ _ _ _ h k=>NT h k
def Ib (I:Inv X a b H s)(e:s.heap.get? D=some o)(n:H D=none)(dl:D≠X.env.locals)(fs:D∉X.fs)(d:∀v,o.data ≠ .cell v):Inv X ((D,o)::a) b H s:=
 { I with pin:=λp h=>(cY.mp h).elim (λh=>I.pin p (cQ _ h)) λh=>(aG.mp h).elim (λz=>z ▸ ⟨e,n,dl,fs,d⟩) λh=>I.pin p (aP _ h) }
def yK (I:Inv X (q::c) d H s):Inv X c d H s/\s.heap.get? q.1=some q.2/\H q.1=none:=by obtain⟨a,b,_⟩:=I.pin q (aP _ ah);exact⟨{ I with pin:=λp h=>I.pin p ((cY.mp h).elim (λh=>cQ _ h) λh=>aP _ (ad _ h)) },a,b⟩
structure pR (X:Cx)(pins:List (Addr×Obj))(D:Addr):Prop where
 big:X.s₀.heap.objs.size<=D
 loc:D≠X.env.locals
 cel:∀x c,X.env.cells.lookup x=some c->c≠D
 pin:∀p∈X.pn++pins,p.1≠D
 fs:D∉X.fs
def pR.of (I:Inv X a f H t)(h:t.heap.objs.size<=D):pR X a D where
 big:=aA I.sz h
 loc:=dP (aF I.lt h)
 cel:=λx c e=>by obtain⟨v,o,b,_⟩:=I.cell x c e;exact bh (aF (az b) h)
 pin:=λp d=>bh (aF (az (I.pin p d).1) h)
 fs:=I.nofs h
def yp (I:Inv X p w H s)(F:pR X p D)(t:Heap.SameBut D s.heap h')(e:h'.get? D=some o')(n:H D=none):Inv X p w H { s with heap:=h' }:=by
 have k:∀b o,b≠D->s.heap.get? b=some o->h'.get? b=some o:=λb o h q=>by rw[t.2 b h];exact q
 have f:∀b u,H b=some u->b≠D:=λb u q z=>by rw[z,n]at q;cases q
 refine I.step (ch:=[D]) (g':=s.gens) (d':=s.drawn) (t':=s.toks) (λb h=>?_) (λb o _ _ h q _=>k b o (λz=>h (bx.mpr z)) q) (λb o _ _ h q _=>⟨o.slots,k b o (λz=>h (bx.mpr z)) q⟩) (λb o _ _ q=>q) (λb o _ q=>?_) (λb _ q=>q) (λb _ _ q=>q) (λb x q=>⟨#[],by rw[q];simp⟩) (λm j=>?_) (λb u q=>?_) I.bare
 .rw[bx.mp h];exact⟨.inr F.big,F.loc,F.cel,F.pin⟩
 .by_cases z:b=D
  .rw[z];exact⟨o',e⟩
  .exact⟨o,k b o z q⟩
 .obtain⟨o,i,g,l,r⟩:=j;exact⟨o,i,g,k _ _ (cw F.loc) l,r⟩
 .refine(I.hok b u q).stay (λc v a d=>k c v ?_ d) (λc d=>d) (λc _ d=>d) λc _ _ d=>d;rcases a with rfl|a
  .exact f _ _ q
  .exact f _ _ a
def QQ (I:Inv X p B H s)(a:At X.K G (mn H O) (Yk g) kv)(r:RelV kv k) :
  ∃x b u xs,k=.ref x/\IsTup s.heap x #[.int (g.length:Int) u,.ref b]/\s.heap.IsList b xs.toArray/\IntsAre xs g:=by
 obtain⟨x,A,rfl,d,y,v,rfl,h1,z,w,rfl,⟨b,rfl,o⟩,h⟩:=a;subst h h1;cases r;obtain⟨_,c,t,tup⟩:=I.hok x _ (uy d).2;obtain⟨_,i,n,m,_,e⟩:=L3.Inv.Dw I (jF jX o);cases t with
 |cons q f=>
  cases f with
  |cons j l=>cases l;cases j;obtain⟨tok,rfl⟩:=q;exact⟨x,b,tok,i,rfl,tup,⟨_,e,rfl,n,rfl⟩,rF m⟩
def DP (its:List Value)(p:List Nat):List Value:=p.map λi=>its.getD i Value.none
def Ti (X:Cx)(a:List (Addr×Obj))(b:L2.St)(H:Hp)(D:Addr)(its:List Value)(g:List (List Int))(R:Shared->Prop):Prop:=
 ∀(h:Hp) (p:List Nat) (c:Nat) (s:Shared),Inv X a b h s -> Same H h -> h D=none->s.heap.get? D=some (seqObj "list" (DP its p).toArray c)->p.Perm (List.range its.length)->p.Pairwise (λi j=>pM (g.getD i []) (g.getD j [])=true)->R s
def Pu {b:SortSt}{ks:Lv}{p:List Nat}{e:Nat}(I:Inv X a B H s)(t:pR X a D)(u:pR X a k)(ne:k≠D)(w:s.heap.get? D=some (seqObj "list" #[] d))(l:s.heap.get? k=some (seqObj "list" ks.toArray e))(c:H D=none)(o:H k=none)
  (h1:(arrOf b).map (·.2)=(DP its p).toArray) (h2:failedOf b=none) (m:p.Perm (List.range its.length)) (x:p.Pairwise (λi j=>pM (f.getD i []) (f.getD j [])=true)) (C:ks.length<64) (y:its.length<64) (fin:Ti X a B H D its f λs'=>P (.done (.ret .none)) s') :
  wpAny (model X.prog X.w) A (ksk_tail D false d (.ref k) b) P E s:=by
 have n:=eU s.heap k (Obj.mapSeq λ_=>(#[]:Array Value));have v:=get?_update_seq l λ_=>(#[]:Array Value);have q:=yp I u n v o;have h:(s.heap.update k (Obj.mapSeq λ_=>(#[]:Array Value))).get? D=some (seqObj "list" #[] d):=by rw[n.2 D (cw ne)];exact w
 have z:=eU (s.heap.update k (Obj.mapSeq λ_=>(#[]:Array Value))) D (Obj.mapSeq λ_=>(DP its p).toArray);have g:=get?_update_seq h λ_=>(DP its p).toArray;have r:=yp q t z g c;have lp:(DP its p).length<64:=by unfold DP;rw[aa,m.length_eq,ag];exact y
 unfold ksk_tail;dsimp only;rw[h1];refine aH (g5 l rfl (aH (wpAny_letGo (aH (seqEpoch_at h rfl (aH (g5 h rfl ?_ (a9 _) (by
  rw[ae (by decide),aw,dt];lia))))))) (by rw[aw,dt];lia) (a9 _))
 rw[h2];simp only[bne_self_eq_false,Bool.false_eq_true,if_false];exact bY (fin H p _ _ r (Same.refl H) c g m x)
def Qo:∀{ks:Lv},(∀k∈ks,∃x n t g,k=.ref x/\IsTup h x #[.int n t,.ref g])->∃fs,W.KatTups h ks fs/\fs.length=ks.length/\∀v∈fs,∃n t,v=Value.int n t
 |[],_=>⟨[],tJ,rfl,λ_ h=>by cases h⟩
 |k::ks,hk=>by
  obtain⟨fs,a,b,c⟩:=Qo λl j=>hk l (ad _ j);obtain⟨x,n,t,g,rfl,o,i,e,m,f⟩:=hk k ah;refine⟨.int n t::fs,W.KatTups.cons i e f rfl a,by rw[aR,aR,b],λv d=>?_⟩;rcases aG.mp d with rfl|d
  .exact⟨n,t,rfl⟩
  .exact c v d
def W7 (its:Lv):DP its (List.range its.length)=its:=by unfold DP;refine b7 (by rw[aa,ag]) λi h1 h2=>?_;rw[bi,bp,gQ,ac h2];rfl
def Zz (X:Cx)(G:Gx)(O:Addr->Bool)(H:Hp)(g:List (List Int))(ks:List Value):Prop:=∀j,j<ks.length->∃a k,ks[j]?=some k/\RelV a k/\At X.K G (mn H O) (Yk (g.getD j [])) a
def aaV {e:Nat}(I:Inv X d σ H s)(U:pR X d D)(Y:pR X d z)(ne:z≠D)(Z:s.heap.get? D=some (seqObj "list" #[] J))(hK:s.heap.get? z=some (seqObj "list" ks.toArray e))(M:H D=none)(N:H z=none)
  (kl:ks.length=its.length) (gl:g.length=its.length) (kg:Zz X G O H g ks) (nd:g.Nodup) (w:its.length<64) (hu:A.units+64<cLine) (fin:Ti X d σ H D its g λs'=>P (.done (.ret .none)) s') :
  wpAny (model X.prog X.w) A (ksk_end D false its.toArray J (.ref z) ks.toArray) P E s:=by
 unfold ksk_end;simp only[Bool.false_eq_true,if_false];by_cases B:its.length<2
 .rw[af (by rw[aw];exact B),af (by rw[aw];exact B)];refine aH (bY (aH (bY ?_)));refine Pu (p:=List.range its.length) I U Y ne Z hK M N ?_ rfl (List.Perm.refl _) ?_ (by lia) w fin
  .rw[W7];apply Array.toList_inj.mp;rw[Array.toList_map,ksk_zip];show List.map Prod.snd (ks.zip its)=its;exact List.map_snd_zip (by lia)
  .refine dw.mpr λi j q f h=>?_;rw[ag]at f;lia
 .rw[ae (by rw[aw];exact B),ae (by rw[aw];exact B)];have facts:∀j,j<its.length->∃x l m o,ks.getD j Value.none=.ref x/\IsTup s.heap x #[.int ((g.getD j []).length:Int) m,.ref l]/\s.heap.IsList l o.toArray/\IntsAre o (g.getD j []):=λj f=>by obtain⟨kv,k,ek,rk,ak⟩:=kg j (by lia);obtain⟨x,l,m,o,rfl,r⟩:=QQ I ak rk;exact⟨x,l,m,o,by rw[gQ,ek];rfl,r⟩
  obtain⟨fs,tu,fl,fi⟩:=Qo (h:=s.heap) (ks:=ks) λk hk=>by obtain⟨j,f,rfl⟩:=bO.mp hk;obtain⟨x,l,m,o,S,t,_⟩:=facts j (by lia);rw[gQ,ac f]at S;exact⟨x,_,m,l,S,t⟩
  refine aH (W.kat_kind (T:=.type "int") tu (by lia) (λv hv=>?_) (by decide) ?_)
  .obtain⟨n,m,rfl⟩:=fi v hv;exact W.Looks.of_pure rfl
  have hn:g.length=its.length:=gl;have R:=Zg nd;rw[hn]at R;have ok:=Wy R (by lia);refine aH (fZ (W.kat_run (G:=λp s'=>s'=s/\L2.PR its.length p/\L2.Rt (λi j=>pM (g.getD i []) (g.getD j [])) p its.length) (Q:=λF s'=>s'=s/\∃p:Array Nat,L2.PR its.length p/\L2.Rt (λi j=>pM (g.getD i []) (g.getD j [])) p its.length/\arrOf F=p.map (W.kas_item (ks.toArray.zip its.toArray))/\failedOf F=none) kl (by lia) w (λp F s' _ a b c=>⟨c.1,p,c.2.1,c.2.2,a,b⟩) ?_) (λr s' h=>?_) λ_ _ x=>x)
  .refine vW.wp (λi j C q f hc=>?_) (λp hp=>⟨rfl,hp⟩) _ ok;obtain⟨x,l,m,o,J,t1,l1,i1⟩:=facts i q;obtain⟨y,gy,ty,ys,e2,t2,w,i2⟩:=facts j f;show wpAny (model X.prog X.w) A (keyLt' (tuples' true) (ks.getD i Value.none) (ks.getD j Value.none)) C _ s;rw[J,e2];exact aaQ t1 t2 l1 w i1 i2 hu hc
  .obtain⟨u,F⟩:=r;obtain⟨es,p,pr,L,ar,nf⟩:=h;subst es;refine Pu (p:=p.toList) I U Y ne Z hK M N ?_ nf pr ?_ (by lia) w fin
   .exact W.kat_snds kl ar
   .refine dw.mpr λi j q f h=>?_;have sz:=pr.size;rw[de]at q f;have:=L i j h (by lia);rw[Bv q,Bv f]at this;simpa using this
def X5 (I:Inv X l C H s)(R:pR X l D)(u:pR X l o)(ne:o≠D)(hD:s.heap.get? D=some (seqObj "list" #[] Q))(hK:s.heap.get? o=some (seqObj "list" #[] 0))(HD:H D=none)(HK:H o=none)
  (gl:y.length=its.length) (nd:y.Nodup) (l2:its.length<64) (hu:A.units+64<cLine)
  (S:∀(pins':List (Addr×Obj)) (F:Hp) (r:Shared) (i:Nat) (v:Value),its[i]?=some v->Inv X pins' C F r->(∀q∈l,q∈pins')->Same H F->wpAny (model X.prog X.w) A (call f [v]) (λk s'=>∃B n,Inv X pins' C n s'/\Same F n/\RelV B k/\At X.K G (mn n O) (Yk (y.getD i [])) B) (λ_ _=>False) r)
  (fin:Ti X l C H D its y λs'=>P (.done (.ret .none)) s') :
  wpAny (model X.prog X.w) A (ksk_rest D f false its.toArray Q (.ref o)) P E s:=by
 unfold ksk_rest;refine aH (wpAny_rule ?_)
 first
  |rw[List.forIn_toArray]
  |(rw[<- Array.forIn_toList];simp only[List.toList_toArray])
 refine aH (ksk_fold (λi s'=>∃m n e,Inv X l C n s'/\Same H n/\n D=none/\n o=none/\s'.heap.get? D=some (seqObj "list" #[] Q)/\s'.heap.get? o=some (seqObj "list" (List.toArray m) e)/\m.length=i/\Zz X G O n y m) its 0 s ⟨[],H,0,I,Same.refl H,HD,HK,hD,hK,rfl,λj hj=>by cases hj⟩ ?_ ?_)
 .rintro j x s' hx ⟨m,n,e,L,r,M,N,Y,o2,lk,T⟩;have jl:j<its.length:=(ao.mp hx).1;have Ip:=Ib (Ib L o2 N u.loc u.fs λv z=>by cases z) Y M R.loc R.fs λv z=>by cases z
  refine aH (wpAny_attempt (fZ (S _ n s' j x hx Ip (λq hq=>ad _ (ad _ hq)) r) (λk t h=>?_) λ_ _ z=>z.elim));obtain⟨B,J,I2,q2,rk,ak⟩:=h;obtain⟨I3,o3,d3⟩:=yK I2;obtain⟨I4,o4,Z⟩:=yK I3;have sb:=eU t.heap o (Obj.mapSeq (·.push k));have w:=get?_update_seq o4 (·.push k);have w:(t.heap.update o (Obj.mapSeq (·.push k))).get? o=some (seqObj "list" (List.toArray (m++[k])) (if (((List.toArray m).push k).size == (List.toArray m).size)=true then e else e+1)):=w.trans (by rw[show(List.toArray m).push k=List.toArray (m++[k]) by simp]);have I5:=yp I4 u sb w Z;have o5:(t.heap.update o (Obj.mapSeq (·.push k))).get? D=some (seqObj "list" #[] Q):=by rw[sb.2 D (cw ne)];exact o3
  refine aH (g5 o4 rfl (bY ⟨rfl,m++[k],J,_,I5,r.trans q2,d3,Z,o5,w,by rw[ai,lk];rfl,λi hi=>?_⟩) (by rw[aw,dt];lia) (by
   rw[Array.size_push,aw,dt];lia))
  rw[ai,bv]at hi;by_cases c:i<m.length
  .obtain⟨U,k',a1,a2,a3⟩:=T i c;exact⟨U,k',by rw[aT c];exact a1,a2,At.mono (lQ q2) _ _ a3⟩
  .have:i=j:=by lia
   subst this;exact⟨B,k,by rw[bj (by lia),show i-m.length=0 by lia];rfl,rk,ak⟩
 .rintro s' ⟨m,n,e,L,r,M,N,Y,o2,lk,T⟩;refine aH (listItems_at o2 rfl ?_);exact aaV L R u ne Y o2 M N (by lia) gl T nd l2 hu λJ p c t a b d e f g=>fin J p c t a (r.trans b) d e f g
def Ys (I:Inv X p t H s)(w:pR X p D)(l:s.heap.get? D=some (seqObj "list" its.toArray n0))(u:H D=none)
  (C:j.length=its.length) (nd:j.Nodup) (J:its.length<64) (F:A.units+64<cLine)
  (n:∀(pins':List (Addr×Obj)) (c:Hp) (a:Shared) (i:Nat) (v:Value),its[i]?=some v->Inv X pins' t c a->(∀q∈p,q∈pins')->Same H c->wpAny (model X.prog X.w) A (call f [v]) (λk s'=>∃x h,Inv X pins' t h s'/\Same c h/\RelV x k/\At X.K G (mn h O) (Yk (j.getD i [])) x) (λ_ _=>False) a)
  (fin:Ti X p t H D its j λs'=>P (.done (.ret .none)) s') :
  wpAny (model X.prog X.w) A (ksk_tree D f false) P E s:=by
 have a:=eU s.heap D (Obj.mapSeq λ_=>(#[]:Array Value));have g:=get?_update_seq l λ_=>(#[]:Array Value);have d:=yp I w a g u;have m:(s.heap.update D (Obj.mapSeq λ_=>(#[]:Array Value))).objs.size<=((s.heap.update D (Obj.mapSeq λ_=>(#[]:Array Value))).push (seqObj "tuple" its.toArray 0)).objs.size:=by rw[size_push'];lia
 have z:=d.kept (h':=((s.heap.update D (Obj.mapSeq λ_=>(#[]:Array Value))).push (seqObj "tuple" its.toArray 0)).push (seqObj "list" #[] 0)) (t':=s.toks) λb o e=>ay _ (ay _ e);have B:pR X p ((s.heap.update D (Obj.mapSeq λ_=>(#[]:Array Value))).push (seqObj "tuple" its.toArray 0)).objs.size:=pR.of d m;have y:H ((s.heap.update D (Obj.mapSeq λ_=>(#[]:Array Value))).push (seqObj "tuple" its.toArray 0)).objs.size=none:=d.hok.fresh m;have r:((s.heap.update D (Obj.mapSeq λ_=>(#[]:Array Value))).push (seqObj "tuple" its.toArray 0)).objs.size≠D:=dP (aF (az g) m);unfold ksk_tree;refine aH (listItems_at l rfl (aH (g5 l rfl (aH (seqEpoch_at g rfl (aH (wpAny_newTuple (aH (wpAny_newList (fY ?_) (a9 _))) (by show its.length<=_;rw[dt];lia))))) (by rw[aw,dt];lia) (a9 _))));exact X5 (s:={ s with heap:=((s.heap.update D (Obj.mapSeq λ_=>(#[]:Array Value))).push (seqObj "tuple" its.toArray 0)).push (seqObj "list" #[] 0) }) z w B r (ay _ (ay _ g)) (a8 _ rfl) u y C nd J F n fin
open Classical in
def lC (k:PV->List Int)(p:List PV):List PV:=if h:∃l:List PV,l.Perm p/\l.Pairwise (λa b=>pM (k a) (k b)=true) then h.choose else[]
def PJ (k:PV->List Int):∀{a b:List PV},a.Perm b->a.Pairwise (λx y=>pM (k x) (k y)=true)->b.Pairwise (λx y=>pM (k x) (k y)=true)->a=b
 |[],b,p,_,_=>(List.Perm.nil_eq p)
 |x::a,[],p,_,_=>absurd p.length_eq (by simp)
 |x::a,y::b,p,sa,sb=>by
  rw[cL]at sa sb;have e:x=y:=by
   have h1:x∈y::b:=p.mem_iff.mp ah;have h2:y∈x::a:=p.mem_iff.mpr ah;rcases aG.mp h1 with h1|h1
   .exact h1
   rcases aG.mp h2 with h2|h2
   .exact h2.symm
   have:=Ke (sb.1 x h1);rw[sa.1 y h2]at this;cases this
  subst e;rw[PJ k (List.Perm.cons_inv p) sa.2 sb.2]
def Dy (p:l.Perm c)(o:l.Pairwise λa b=>pM (kf a) (kf b)=true):lC kf c=l:=by have h:∃l:List PV,l.Perm c/\l.Pairwise (λa b=>pM (kf a) (kf b)=true):=⟨l,p,o⟩;unfold lC;rw[je h];have s:=h.choose_spec;exact PJ kf (s.1.trans p.symm) s.2 o
def Q7 (I:Inv X p i H s)(F:pR X p D)(n:H D=none)(e:s.heap.get? D=some (seqObj "list" its.toArray c))(g:Vals vs its)(d:vs.length<=sizeLine):Inv X p i (upd H D (.lst vs)) s:=by
 have a:∀b u,H b=some u->b≠D:=λb u q z=>by rw[z,n]at q;cases q
 refine I.step (ch:=[D]) (h':=s.heap) (g':=s.gens) (d':=s.drawn) (t':=s.toks) (λb h=>?_) (λb o _ _ _ q _=>q) (λb o _ _ _ q _=>⟨o.slots,q⟩) (λb o h _ q=>?_) (λb o _ q=>⟨o,q⟩) (λb _ q=>?_) (λb _ _ q=>?_) (λb j q=>⟨#[],?_⟩) (λm f=>f) (λb u q=>?_) I.bare
 .rw[bx.mp h];exact⟨.inr F.big,F.loc,F.cel,F.pin⟩
 .rw[upd_ne (λz=>h (bx.mpr z))];exact q
 .rw[upd_ne (a _ _ q)];exact q
 .rw[upd_ne (a _ _ q)];exact q
 .rw[upd_ne (a _ _ q),q];simp
 .by_cases z:b=D
  .subst z;rw[upd_same]at q;cases q;exact⟨d,its,c,g,e⟩
  .rw[upd_ne z]at q;exact(I.hok b u q).stay (λc v _ r=>r) (λc r=>by rw[upd_ne (a _ _ r)];exact r) (λc _ r=>by rw[upd_ne (a _ _ r)];exact r) λc _ _ r=>by rw[upd_ne (a _ _ r)];exact r
def Ws (I:Inv X h y H t)(P:t.heap.IsList l its.toArray)(N:u.length=its.length)(nd:u.Nodup)(U:its.length<64)(S:X.A.in1.in1.units+64<cLine)
  (R:∀x,Builtin.«list.sort» ⟨[.ref x],[(Str.ofString "key",f)]⟩=ksk_tree x f false)
  (w:∀(pins':List (Addr×Obj)) (r:Hp) (L:Shared) (i:Nat) (v:Value),its[i]?=some v->Inv X pins' y r L->(∀q∈h,q∈pins')->Same H r->wpAny (model X.prog X.w) X.A.in1.in1 (call f [v]) (λk s'=>∃F n,Inv X pins' y n s'/\Same r n/\RelV F k/\At X.K G (mn n O) (Yk (u.getD i [])) F) (λ_ _=>False) L)
  (fin:∀D,H D=none->pR X h D->Ti X h y H D its u λs'=>Q (.ref D) s') :
  wpAny (model X.prog X.w) X.A (call (.builtin "sorted") [.ref l] [(Str.ofString "key",f)]) Q E t:=by
 refine call_function_entry_kw kind_sorted plain_sorted entry_sorted (ksk_s1 _ _) ?_;unfold Builtin.«sorted»;have j:its.length<=sizeLine:=by rw[dt];lia
 refine aH (m:=checkCount "sorted" 1 1 _) (bY (aH (collect_list P (aH (wpAny_newList ?_ j)) j)));generalize C:(t.heap.push (seqObj "list" #[] 0)).update t.heap.objs.size (Obj.mapSeq (· ++ its.toArray))=h1;have sz:h1.objs.size=t.heap.objs.size+1:=by rw[<- C,Heap.size_update,size_push']
 have T:∀b o,t.heap.get? b=some o->h1.get? b=some o:=λb o q=>by have:=az q;rw[<- C,Heap.get?_update_ne _ _ _ _ (bh this),Heap.get?_push_ne _ _ _ (bh this)];exact q
 have M:=I.kept (h':=h1.push (seqObj "list" its.toArray 0)) (t':=t.toks) λb o q=>ay _ (T b o q);have J:t.heap.objs.size<=h1.objs.size:=by lia
 have B:(h1.push (seqObj "list" its.toArray 0)).get? h1.objs.size=some (seqObj "list" its.toArray 0):=a8 _ rfl;have z:H h1.objs.size=none:=I.hok.fresh J;have A:=pR.of I J;refine aH (fY (wpAny_call_entry_kw slot_list_sort ⟨_,B,rfl⟩ entry_list_sort ?_ (ksk_l1 _ _)));rw[R];exact Ys (s:={ t with heap:=h1.push (seqObj "list" its.toArray 0) }) M A B z N nd U S w λn p c s' a b d e f g=>⟨_,rfl,bY ⟨_,rfl,fin _ z A n p c s' a b d e f g⟩⟩
def FZ {g:List PV}{xs:List V}{Q:VK}(C:PV->List Int)(I:Inv X z Z H t)(rd:Rd H l (.lst xs))(N:mX X.K G (mn H O) g xs)(l64:g.length<64)(nd:(g.map C).Nodup)(hu:X.A.in1.in1.units+64<cLine)
  (ht:∀x,Builtin.«list.sort» ⟨[.ref x],[(Str.ofString "key",f)]⟩=ksk_tree x f false)
  (S:∀(pins':List (Addr×Obj)) (F:Hp) (M:Shared) (p:PV) (v:V) (u:Value),p∈g->At X.K G (mn F O) p v->RelV v u->Inv X pins' Z F M->(∀q∈z,q∈pins')->Same H F -> wpAny (model X.prog X.w) X.A.in1.in1 (call f [u]) (λk s'=>∃kv o,Inv X pins' Z o s'/\Same F o/\RelV kv k/\At X.K G (mn o O) (Yk (C p)) kv) (λ_ _=>False) M)
  (q:∀(a:Addr) (vs:List V) (o:Hp),Same H o -> H a=none->o a=some (.lst vs)->mX X.K G (mn o (hide a O)) (lC C g) vs->Q (V.ref a) o) :
  wpAny (model X.prog X.w) X.A (call (.builtin "sorted") [.ref l] [(Str.ofString "key",f)]) (EP X z Z Q) E t:=by
 obtain⟨_,j,n,r,hlen,e⟩:=L3.Inv.Dw I rd;have lps:g.length=xs.length:=N.length;have gl:(g.map C).length=j.length:=by rw[aa];lia
 have s:∀i,i<g.length->∃p,g[i]?=some p/\(g.map C).getD i []=C p:=λi m=>⟨g[i],ac m,by rw[gQ,aq,ac m];rfl⟩;refine Ws (G:=G) (O:=O) I ⟨_,e,rfl,n,rfl⟩ gl nd (by lia) hu ht (λpins' F M i v hv I1 ip L=>?_) λD nD fD o p c s' I' sm hD P pr Y=>?_
 .have il:i<j.length:=(ao.mp hv).1;obtain⟨A,J,eg⟩:=s i (by lia);obtain⟨xv,y,B⟩:=N.at J;obtain⟨v',w,T⟩:=r.get y;rw[hv]at w;cases w;rw[eg];exact S pins' F M A xv v (bE J) (At.mono (lQ L) _ _ B) T I1 ip L
 .have pl:∀i∈p,i<j.length:=λi m=>aX.mp (pr.mem_iff.mp m);have get:∀i∈p,∃A xv v,g[i]?=some A/\xs[i]?=some xv/\j[i]?=some v/\At X.K G (mn H O) A xv/\RelV xv v:=λi m=>by obtain⟨A,J,_⟩:=s i (by have:=pl i m;lia);obtain⟨xv,y,B⟩:=N.at J;obtain⟨v',w,T⟩:=r.get y;exact⟨A,xv,v',J,y,w,B,T⟩
  have rv:Vals (p.map λi=>xs.getD i .non) (DP j p):=by
   unfold DP;clear Y pr P
   induction p with
   |nil=>exact .nil
   |cons i p R=>obtain⟨A,xv,v,a,b,c',d,e'⟩:=get i ah;refine .cons ?_ (R (λi m=>pl i (ad _ m)) λi m=>get i (ad _ m));dsimp only;rw[gQ,gQ,b,c'];exact e'
  have sl:(p.map λi=>xs.getD i .non).length<=sizeLine:=by rw[aa,pr.length_eq,ag,dt];lia
  have I3:=Q7 I' fD hD P rv sl;have U:Same o (upd o D (.lst (p.map λi=>xs.getD i .non))):=same_new hD _;have es:lC C g=p.map λi=>g.getD i .non:=by
   refine Dy ?_ ?_
   .have h1:(p.map λi=>g.getD i .non).Perm ((List.range j.length).map λi=>g.getD i .non):=pr.map _;have h2:((List.range j.length).map λi=>g.getD i .non)=g:=by refine b7 (by rw[aa,ag];lia) λi h1 h2=>?_;rw[bi,bp,gQ,ac h2];rfl
    rw[h2]at h1;exact h1
   .rw[dC];refine Y.imp_of_mem λ{a b} ha hb h=>?_;obtain⟨pa,ea,ga⟩:=s a (by have:=pl a ha;lia);obtain⟨pb,eb,gb⟩:=s b (by have:=pl b hb;lia);rw[ga,gb]at h;rw[gQ,gQ,ea,eb];exact h
  refine⟨.ref D,_,I3,rfl,q D _ _ (sm.trans U) nD upd_same ?_⟩;rw[es];refine mX.mono (nO (sm.trans U) nD) _ _ ?_;clear Y pr P es sl I3 U rv
  induction p with
  |nil=>exact rfl
  |cons i p R=>obtain⟨A,xv,v,a,b,c',d,e'⟩:=get i ah;refine⟨_,_,rfl,?_,R (λi m=>pl i (ad _ m)) λi m=>get i (ad _ m)⟩;dsimp only;rw[gQ,gQ,a,b];exact d
end L3
namespace L2
def RD {f c' t N:Addr}{its:Lv}{J pm u:Value}{y q fn:Str}{p:Arguments}{scope:Scope}{G H I pf pc:Pos}{j:Nat}{K:Fg}{mg:Mg}{base:Heap}
  (ho:s.heap.get? f=some (W.kla_obj "<lambda>" q p (.Call (.Name fn pf) [.Subscript (.Name y G) (.Constant (.int 0) j H) I] [] pc) scope [] pm c' u)) (P:s.heap.CodeRec (.ref c') q) (n:A.depth<recursionLimit) (C:s.heap.NoLimit)
  (k:bindArgs (W.kla_fn "<lambda>" q p (.Call (.Name fn pf) [.Subscript (.Name y G) (.Constant (.int 0) j H) I] [] pc) scope [] pm (.ref c') u) ⟨[.ref t],[]⟩=pure [(y,.ref t)])
  (g:scope.names.lookup y=some .local) (Z:∀z∈scope.names,z.2 ≠ .cell) (U:scope.kind=.function) (R:scope.isCoroutine=false) (B:scope.isGenerator=false) (hyd:(y == ("__debug__":Str))=false)
  (T:scope.names.lookup fn=some .globalImplicit) (S:(fn == ("__debug__":Str))=false) (D:s.heap.Ns mainGlobals mg) (hm:mg fn=some (.ref N)) (O:K.In base) (l:W.keepIn K (.ref N)=true)
  (he:starEach [.Subscript (.Name y G) (.Constant (.int 0) j H) I] (W.envX q scope s.heap.objs.size f (.ref c') [])=(false,eval (.Subscript (.Name y G) (.Constant (.int 0) j H) I) (W.envX q scope s.heap.objs.size f (.ref c') []))::starEach [] (W.envX q scope s.heap.objs.size f (.ref c') []))
  (tup:IsTup s.heap t its.toArray) (hi:its[0]?=some J) (kin:∀h',(∀b o,s.heap.get? b=some o->h'.get? b=some o)->K.In h')
  (h:∀h' tk o M L,(∀b o,s.heap.get? b=some o->h'.get? b=some o)->h'.get? s.heap.objs.size=some o->o.data=.dict M L->s.heap.objs.size<h'.objs.size->wpAny (model prog w) (A.deeper (W.envX q scope s.heap.objs.size f (.ref c') [])) (call (.ref N) [J]) Q (λ_ _=>False) { s with heap:=h',toks:=tk }) :
  wpAny (model prog w) A (call (.ref f) [.ref t]) Q E s:=by
 refine iD (iH n ho rfl R B rfl P ?_);rw[k];refine bY (fV Z (λz hz=>?_) (λc m F=>⟨C.fresh _ F,?_⟩) U)
 .rw[bx.mp hz];exact g
 have a:∀b o,s.heap.get? b=some o->c.get? b=some o:=λb o e=>F.extBut b o (bh (az e)) (ay _ e);refine iI ?_;have i:IsTup c t its.toArray:=by obtain⟨o,e,r⟩:=tup;exact⟨o,a _ _ e,r⟩
 have len:0<its.length:=(ao.mp hi).1;have Y:=m.lt;refine cF (d7 U T (Calls.loadGlobal_global (D.keeps a) hm ?_) S);refine dH (h₀:=base) O l ?_ he rfl;refine args_cons (Subscript_ (iC (eE U g m (v:=.ref t) ?_ ?_) hyd)) he
 .simp
 refine gz ?_;refine dF (x:=J) i.typeIs slot_tuple_getitem.lookup (getItem_tuple (j:=0) (Q:=λr s'=>r=J/\_) i (by decide) (by decide) ?_ (by simpa using hi) ⟨rfl,?_⟩) rfl
 .rw[aw];unfold seqIndex?;have:(0:Int)<(its.length:Int):=by lia
  simp[this];exact λz=>by rw[z]at len;cases len
 .obtain⟨o,M,L,e,d,_⟩:=m;refine args_nil ⟨kin c a,?_⟩;exact fZ (h _ _ o M L a e d Y) (λ_ _ x=>x) λ_ _ x=>x.elim
end L2
namespace L3
open L2
def Qx {outer:List Env}{ch:List Addr}{w:Addr}{y:FuncData}{p:PV}{v:V}{u:Value}(B:FnOk X.prog X.w X.K X.mg X.base CX0 j w y [x] (wV X.K G pre F))(m:Binds X.K y [x] [])(L:Room j A)(C:Env0 X.prog X.w X.K X.mg X.base A outer s H)(I:Inv X c Q H s)
  (E:∀b∈frs outer,b∈frs X.stack\/b∈ch) (q:∀b∈ch,pR X c b) (l:∀a,O a=true->H a≠none) (i:At X.K G (mn H O) p v) (rl:RelV v u) (J:pre [p]) :
  wpAny (model X.prog X.w) A (call (.ref w) [u]) (λk s'=>∃d h,Inv X c Q h s'/\Same H h/\RelV d k/\At X.K G (mn h O) (F [p]) d) (λ_ _=>False) s:=by
 refine iD (gw (B.run A outer s H ⟨[u],[]⟩ [u] [v] (λd h=>Same H h/\At X.K G (mn h O) (F [p]) d) (λ_ _ _=>False) L C (m s [u] I.kIn rfl) (.cons rl .nil) ⟨[p],O,l,⟨v,[],rfl,i,rfl⟩,J,λd h a b=>⟨a,b⟩⟩) λr s' g=>?_);cases r with
 |error e=>exact False.elim g
 |ok D=>
  cases D with
  |ret u=>
   obtain⟨d,h,M,f,un,t,r,N,P⟩:=g;refine⟨d,h,I.call' (ch:=ch) M ⟨λb o e n h1 h2=>un.keep b o e n (λz=>(E b z).elim h1 h2) (by simp),λb o e n h1 h2=>?_,λb o e n _=>un.free b o e n (by simp),λb o e _=>un.there b o e (by simp),un.tups,un.frzs,un.tbls⟩ t f λb m=>?_,N,r,P⟩
   .exact un.any e n (by simp)
   .have F:=q b m;exact⟨.inr F.big,F.loc,F.cel,F.pin⟩
  |next=>exact False.elim g
  |brk=>exact False.elim g
  |cont=>exact False.elim g
structure acd (kf:PV->List Int)(ps:List PV):Prop where
 len:ps.length<64
 nd:(ps.map kf).Nodup
def Oe:PV->PV
 | .tup (x::_)=>x
 |_=>.non
def Ve (m:PV->List Int)(o:Ok X.prog X.w X.K X.mg X.base j fn [x] (wV X.K G pre F))(hr:Room k X.A)(hm:X.mg "sorted"=none)(ha:PE X a (tX X.K G Ca g))(hj:j+2<=k:=by decide)(M:Gl X fn:=by rfl)(J:(fn == ("__debug__":Str))=false:=by decide)(hg:Gl X "sorted":=by rfl)(L:starEach [a] X.env=[(false,eval a X.env)]:=by rfl) :
  PE X (.Call (.Name "sorted" p) [a] [⟨some "key",.Name fn pk,kp⟩] pos) (zE X.K G (λZ=>Ca Z/\g Z=.lst (rM (g Z))/\acd m (rM (g Z))/\∀q∈rM (g Z),pre [q]/\F [q]=Yk (m q)) λZ=>lC m (rM (g Z))):=by
 intro r s σ H Q I ⟨B,Z,O,R,c,q⟩;refine cF (ld_blt I hg hm zj ?_ (by decide) (by decide));refine e8 (thn (pa_cons ha pa_nil L pos r s σ H (λf d=>∃l w,f=[.ref l]/\Same H d/\Rd (mn d O) l (.lst w)/\mX X.K G (mn d O) (rM (g Z)) w) I ⟨B,Z,O,R,c.1,λv S t Y=>?_⟩) λus t1 h=>?_) (by rw[L];rfl) (by rw[L];rfl)
 .rw[c.2.1]at Y;obtain⟨l,w,rfl,r1,A⟩:=Y;exact⟨l,w,rfl,t,r1,A⟩
 obtain⟨f,S,T,rv,l,w,rfl,t,rd,A⟩:=h;obtain⟨u,rfl,ru⟩:=vals1 rv;cases ru;obtain⟨_,_,PO,PF⟩:=c;have q:∀(a:Addr) (f:List V) (d:Hp),Same H d -> H a=none->d a=some (HO.lst f)->mX X.K G (mn d (hide a O)) (lC m (rM (g Z))) f->Q (V.ref a) d:=q;generalize rM (g Z)=ps at *
 obtain⟨fa,fd,FF,hb,hkp,N⟩:=o.ex;refine kws_cons (ld_glob T M N (kws_nil ?_) J);have i:Room (j+2) X.A:=hr.mono hj;have E:∀a,O a=true->S a≠none:=(R.grow t).dom;refine FZ m T (jF jX rd) A PO.len PO.nd i.in1.in1.units (λx=>ksk_t1 _ _) (λP H2 s2 pp v u hp D rl U _ sm=>?_) λa f d sm n e C=>q a f d (t.trans sm) (t.free n) e C;obtain⟨g1,g2⟩:=PF pp hp;have:=Qx (O:=O) (ch:=[]) FF hb i.in1.in1 U.env0.in1.in1 U (λb z=>.inl z) (λb z=>absurd z (by simp)) (λa z y=>E a z (sm.free y)) D rl g1;rw[g2]at this;exact this
def Vd (kf:PV->List Int)(o:Ok X.prog X.w X.K X.mg X.base j fn [x] (wV X.K G pre F))(hl:QD X.K X.env.code (X.env.qual++"<lambda>"))(hr:Room k X.A)(hm:X.mg "sorted"=none)(ha:PE X a (tX X.K G Ca C))(hj:j+3<=k:=by decide)(hdb:(fn == ("__debug__":Str))=false:=by decide)(hg:Gl X "sorted":=by rfl)(he:starEach [a] X.env=[(false,eval a X.env)]:=by rfl)
  (T:defaultsOf d X.env=([],[]):=by rfl) (hcl:closureFor scope X.env=pure []:=by rfl)
  (E:∀(pm N:Value) (c' t:Addr),bindArgs (W.kla_fn "<lambda>" (X.env.qual++"<lambda>") d (.Call (.Name fn pf) [.Subscript (.Name y p1) (.Constant (.int 0) i p2) p3] [] pc) scope [] pm (.ref c') N) ⟨[.ref t],[]⟩=pure [(y,.ref t)]:=by intros;rfl)
  (hse:∀env:Env,starEach [.Subscript (.Name y p1) (.Constant (.int 0) i p2) p3] env=(false,eval (.Subscript (.Name y p1) (.Constant (.int 0) i p2) p3) env)::starEach [] env:=by intros;rfl)
  (Y:scope.names.lookup y=some .local:=by rfl) (hnc:∀z∈scope.names,z.2 ≠ .cell:=by decide) (hk:scope.kind=.function:=by rfl) (hco:scope.isCoroutine=false:=by rfl) (U:scope.isGenerator=false:=by rfl) (hyd:(y == ("__debug__":Str))=false:=by decide) (hgl:scope.names.lookup fn=some .globalImplicit:=by rfl) :
  PE X (.Call (.Name "sorted" p) [a] [⟨some "key",.Lambda d (.Call (.Name fn pf) [.Subscript (.Name y p1) (.Constant (.int 0) i p2) p3] [] pc) scope posL,kp⟩] pos) (zE X.K G (λZ=>Ca Z/\C Z=.lst (rM (C Z))/\acd kf (rM (C Z))/\∀q∈rM (C Z),(∃r,q=.tup (Oe q::r))/\pre [Oe q]/\F [Oe q]=Yk (kf q)) λZ=>lC kf (rM (C Z))):=by
 intro pins s σ H Q I ⟨B,Z,O,R,c,q⟩;refine cF (ld_blt I hg hm zj ?_ (by decide) (by decide));refine e8 (thn (pa_cons ha pa_nil he pos pins s σ H (λD m=>∃l xs,D=[.ref l]/\Same H m/\Rd (mn m O) l (.lst xs)/\mX X.K G (mn m O) (rM (C Z)) xs) I ⟨B,Z,O,R,c.1,λv H1 s1 a1=>?_⟩) λus t1 h=>?_) (by rw[he];rfl) (by rw[he];rfl)
 .rw[c.2.1]at a1;obtain⟨l,xs,rfl,r1,al⟩:=a1;exact⟨l,xs,rfl,s1,r1,al⟩
 obtain⟨D,H1,I1,rv,l,xs,rfl,s1,rd,al⟩:=h;obtain⟨u,rfl,ru⟩:=vals1 rv;cases ru;obtain⟨cc,P,J,hx⟩:=hl;obtain⟨_,_,PO,PF⟩:=c;have q:∀(a:Addr) (D:List V) (m:Hp),Same H m -> H a=none->m a=some (HO.lst D)->mX X.K G (mn m (hide a O)) (lC kf (rM (C Z))) D->Q (V.ref a) m:=q;generalize rM (C Z)=ps at *
 obtain⟨fa,fd,FF,hb,hkp,hmg⟩:=o.ex;refine kws_cons (Jm I1 J hx rfl T hcl _ λf c' N H2 t2 I2 kp2 tb2 hf fn0 fz os S=>kws_nil ?_);have s2:Same H1 H2:=λb o e=>by cases o<;>first|exact kp2 b _ e (λt z=>by cases z)|(obtain⟨ps',z⟩:=tb2 b _ e;exact⟨ps',z⟩)
 have hr2:Room (j+3) X.A:=hr.mono hj;have dom:∀a,O a=true->H2 a≠none:=λa z y=>(R.grow s1).dom a z (s2.free y);have fF:=pR.of I1 S;have Ip:=Ib I2 hf fn0 fF.loc fF.fs λv z=>by cases z
 obtain⟨oc,fu,fz1,fz2⟩:=fz;refine fZ (FZ (Q:=Q) kf Ip (jF (jX.trans s2) rd) (mX.mono (lQ s2) _ _ al) PO.len PO.nd (hr2.mono (by lia:j+2<=j+3)).in1.in1.units (λx=>ksk_t1 _ _) (λpins' H3 L pp v u hp M rl g ip sm=>?_) λa D m sm n e alv=>q a D m ((s1.trans s2).trans sm) ((s1.trans s2).free n) e alv) (λr s' h=>?_) λ_ _ z=>z
 .obtain⟨⟨rr,er⟩,g1,g2⟩:=PF pp hp;rw[er]at M;obtain⟨t,us,rfl,ht,ux,ur,rfl,ax,au⟩:=M;cases rl;obtain⟨_,its2,r2,tup⟩:=g.hok t _ (uy ht).2;cases r2 with
  |cons q0 q1=>
   have hf3:=(g.pin (f,_) (aP _ (ip _ ah))).1;have hc3:H3 c'=some (.frz oc fu):=by have:=sm c' _ fz1;exact this
   have A1:Room (j+1) X.A.in1.in1:=hr2.in1.in1;refine RD (mg:=X.mg) (K:=X.K) (base:=X.base) hf3 (Cz.rec (g.hok c' _ hc3).1 fz2) A1.depth (g.ok.mod.nolimit.keeps g.bk) (E _ _ _ _) Y hnc hk hco U hyd hgl hdb (g.mod.glob.keeps g.bk) hmg g.mod.kin hkp (hse _) tup rfl (λh' kk=>λb o e=>kk b o (g.kIn b o e)) λh' tk o es ep kk eL dL lt=>?_;have I4:=g.kept (h':=h') (t':=tk) kk;have fL:=pR.of g (aj L.heap.objs.size);have HL:H3 L.heap.objs.size=none:=g.hok.fresh (aj _);have bL:X.base.get? L.heap.objs.size=none:=Heap.get?_none_of_le (aA g.env0.bsz (aj _));have w:=I4.env0.in1.in1;have:=Qx (O:=O) (ch:=[L.heap.objs.size]) (outer:=W.envX (X.env.qual++"<lambda>") scope L.heap.objs.size f (.ref c') []::X.stack) (A:=X.A.in1.in1.deeper (W.envX (X.env.qual++"<lambda>") scope L.heap.objs.size f (.ref c') [])) FF hb (A1.deeper _)
    ⟨by
     show Option.map _ X.A.in1.in1.frames=_;rw[w.frames];rfl,w.mod,w.bs,w.bsz,⟨(λz=>nomatch hk.symm.trans (show scope.kind=.module from z)),⟨L.heap.objs.size,o,rfl,bL,eL,λD z=>by rw[dL]at z;cases z⟩,w.funs⟩,⟨λb hb=>(aG.mp hb).elim (λz=>by rw[z];exact HL) λz=>w.frf.f b z,w.frf.t⟩,w.hok,w.bare⟩
    I4 (λb z=>(aG.mp z).elim (λz=>.inr (by rw[z];exact bx.mpr rfl)) λz=>.inl z) (λb z=>by rw[bx.mp z];exact fL) (λa z y=>dom a z (sm.free y)) ax q0 g1
   rw[g2]at this;exact this
 .obtain⟨v,m,I',rv,qv⟩:=h;exact⟨v,m,(yK I').1,rv,qv⟩
section
variable {K:Fg}{pt:En->Prop}[∀Z,Decidable (pt Z)]
def ack (h:zE K G (λZ=>r Z/\(0<=g Z/\g Z<=10000)/\∀k:Nat,k<(g Z).toNat->t ((jW (none::cap) Z).set 0 (.fr (.int k)))/\(pt ((jW (none::cap) Z).set 0 (.fr (.int k)))->C ((jW (none::cap) Z).set 0 (.fr (.int k))))) (λZ=>((List.range (g Z).toNat).filter λ(k:Nat)=>decide (pt ((jW (none::cap) Z).set 0 (.fr (.int k))))).map λ(k:Nat)=>A ((jW (none::cap) Z).set 0 (.fr (.int k)))) o H Q) :
  RG (none::cap) (iRng1 (tCons (mC K G r g) tNil)) (gName 0) (vB K G t pt) (tX K G C A) o H Q:=by
 obtain⟨B,Z,O,R,⟨z,J,l⟩,q⟩:=h;refine⟨B,Z,O,R,z,λv I f w=>?_⟩;subst w;have b:(List.range (g Z).toNat).length=(g Z).toNat:=ag;refine⟨g Z,rfl,by lia,by lia,λD m=>?_⟩;refine Jx (List.range (g Z).toNat) (λ_ v=>(pK (none::cap) o).set 0 (some v)) (λ(k:Nat)=>(jW (none::cap) Z).set 0 (.fr (.int k))) (λ(k:Nat)=>.int k) (R.grow f) m (by rw[b];lia) (λi H n s=>by rw[b]at n;exact n) ?_ (λH s=>by rw[b];exact aj _) (λk H _ s u=>u.set (p:=.int k) rfl) ?_ (λk a=>(l k (aX.mp a)).1) (λk a=>(l k (aX.mp a)).2) ?_
 .rintro i k x H j c s ⟨rfl,rfl⟩;have d:i<(g Z).toNat:=by have:=(ao.mp c).1;rw[b]at this;exact this
  rw[bZ d]at c;cases c;refine⟨Same.refl _,λL a=>?_⟩;have e:(0:Int)+(i:Nat)=i:=by lia
  rw[e];exact a
 .intro k;exact nq _
 .intro j F s E y;exact q D F j (f.trans s) (f.free m) E y
end
section
variable {pt:En->Prop}[∀Z,Decidable (pt Z)]
def WK (L:uH X N' sc cl (none::cap))(l:X.calm=true)(e:Gl X "range")(q:X.mg "range"=none)(o:PE X a (mC X.K G f g))(n:∀s H fp,PG (jO X N' sc cl s H fp) v (gName 0))(u:∀s H fp,PT (jO X N' sc cl s H fp) t (vB X.K G i pt))(m:∀s H fp,PE (jO X N' sc cl s H fp) j (mC X.K G C gi))
  (b:starEach [a] X.env=[(false,eval a X.env)]:=by rfl) (r:∀x,foldedSetIterable (.Call (.Name "range" p) [a] [] d) X.env x=pure x:=by intro _;rfl) :
  PE X (.ListComp j [⟨v,.Call (.Name "range" p) [a] [] d,[t],0⟩] sc at') (DN X.K G (λZ=>f Z/\(0<=g Z/\g Z<=10000)/\∀k:Nat,k<(g Z).toNat->i ((jW (none::cap) Z).set 0 (.fr (.int k)))/\(pt ((jW (none::cap) Z).set 0 (.fr (.int k)))->C ((jW (none::cap) Z).set 0 (.fr (.int k))))) λZ=>((List.range (g Z).toNat).filter λ(k:Nat)=>decide (pt ((jW (none::cap) Z).set 0 (.fr (.int k))))).map λ(k:Nat)=>gi ((jW (none::cap) Z).set 0 (.fr (.int k)))):=
 λc s w H Q I h=>vY L l (pi_range1 e q (pa_cons o pa_nil b) b) n (λs H fp=>Ql (u s H fp)) m r c s w H Q I (ack (zg h))
end
def w5:¬(some NameKind.cell:Option NameKind)=some NameKind.local:=nofun
def oE {N p:Ls}{sc:Scope}(a:sc.kind=.function:=by rfl)(b:sc.isCoroutine=false:=by rfl)(c:sc.isGenerator=false:=by rfl)(d:N.Nodup:=by decide +kernel)(e:N.take p.length=p:=by rfl)(f:∀x∈p,sc.names.lookup x=some .local\/sc.names.lookup x=some .cell:=by decide +kernel)(g:∀y∈sc.names,y.2 ≠ .free:=by decide +kernel):FnScope N p sc:=⟨a,b,c,d,e,f,g⟩
def oW (i:Nat){X:Cx}{x:Str}{pos:Pos}(h:X.N.Nodup:=by(dsimp only[jO];decide +kernel))(b:X.N[i]?=some x:=by rfl)(c:Loc X.env.scope x:=by exact Or.inl rfl)(a:X.fn x=true\/X.env.scope.names.lookup x=some .local:=by exact .inr rfl):PG X (.Name x pos) (gName i):=pg_name h b c a
end L3
end
namespace lz
open PySem L2 L3 PyProof.Rows FM
def Dd:FnScope ["numbers"] ["numbers"] (defScope wy):=oE
def Bm:FnScope ["kind","f","numbers"] ["kind","f"] (defScope Fv):=oE
def Ac:FnScope ["kind","f","g","sums","at","number"] ["kind","f","g"] (defScope V9):=oE
def Yy:FnScope ["kind","f","g"] ["kind","f","g"] (defScope Vv):=oE
def qi:FnScope ["kind","f","g","ones","others","sums","at","one","behind","other"] ["kind","f","g"] (defScope NZ):=oE
def QF:FnScope ["kind","f","number"] ["kind","f","number"] (defScope Jv):=oE
def Sx:FnScope ["kind","f"] ["kind","f"] (defScope Ot):=oE
def n6:FnScope ["kind","f","g","rest","divisor","quotient","gap","often","at","number"] ["kind","f","g"] (defScope Ge):=oE
def uR:FnScope ["kind","f","number","place","total","one"] ["kind","f","number"] (defScope Oa):=oE
def qM:FnScope ["kind","f","g","before","rest","behind"] ["kind","f","g"] (defScope Ku):=oE
def zq:FnScope ["kind","f"] ["kind","f"] (defScope uC):=oE
def CW:FnScope ["kind","f"] ["kind","f"] (defScope wu):=oE
def o8:FnScope ["kind","f","g","before","row","often","behind","factor"] ["kind","f","g"] (defScope JV):=oE
def KQ:FnScope ["kind","row","often","other"] ["kind","row","often","other"] (defScope Dq):=oE
def Jw:FnScope ["kind","one","other","g"] ["kind","one","other","g"] (defScope Dk):=oE
def pU:FnScope ["kind","f","many","g","product","square","left"] ["kind","f","many","g"] (defScope Jf):=oE
def nH:FnScope ["kind","f","count","g","degree","rest","rows","step"] ["kind","f","count","g"] (defScope yj):=oE
def zH:FnScope ["kind","g","degree"] ["kind","g"] (defScope BV):=oE
def lL:FnScope ["kind","f","left","pairs","factor","found","g","often"] ["kind","f"] (defScope yE):=oE
def jY:FnScope ["kind","f","deeper","layer","pairs","often","next_layer","g"] ["kind","f"] (defScope uD):=oE
def El:FnScope ["length"] ["length"] (defScope yo):=oE
def zA:FnScope ["at","length","row"] ["at","length"] (defScope By):=oE
def qW:FnScope ["kind","rows","width","wide","turn","back"] ["kind","rows"] (defScope Gn):=oE
def jP:FnScope ["kind","rows","width","units","table","done","at","found"] ["kind","rows","width"] (defScope pH):=oE
def Hf:FnScope ["kind","row"] ["kind","row"] (defScope zM):=oE
def qD:FnScope ["rows","at","done","place"] ["rows","at","done"] (defScope qY):=oE
def yG:FnScope ["rows","found","done"] ["rows","found","done"] (defScope tQ):=oE
def ni:FnScope ["kind","rows","at","done","factor","first"] ["kind","rows","at","done"] (defScope pQ):=oE
def Cm:FnScope ["kind","row","at","first"] ["kind","row","at","first"] (defScope wA):=oE
def Ez:FnScope ["kind","rows","told"] ["kind","rows"] (defScope KY):=oE
def Iu:FnScope ["g"] ["g"] (defScope zB):=oE
def vy:FnScope ["kind","g"] ["kind","g"] (defScope qz):=oE
def zW:FnScope ["kind","row","at"] ["kind","row","at"] (defScope vo):=oE
def uX:FnScope ["kind","g","pieces","staying","h"] ["kind","g"] (defScope s_split):=oE
def qC:FnScope ["kind","h","count","g","relation"] ["kind","h","count","g"] (defScope q8):=oE
def oO:FnScope ["kind","pieces","h","numbers","finer","piece","number","shared"] ["kind","pieces","h","numbers"] (defScope xT):=oE
def vg:FnScope ["kind","f","pairs","free","often","g"] ["kind","f"] (defScope OD):=oE
def JK:FnScope ["kind","g","shared"] ["kind","g"] (defScope Ov):=oE
def nZ:FnScope ["kind","rows","told","r","row","turning"] ["kind","rows"] (defScope wg):=oE
def vm:FnScope ["number","divisor"] ["number"] (defScope CJ):=oE
def mH:FnScope ["number","size","before","rest","share_before","share","often","rest_behind","share_behind"] ["number","size"] (defScope Kg):=oE
def w6:FnScope ["number"] ["number"] (defScope rZ):=oE
def MJ:FnScope ["_law_script","_law_k"] ["_law_script","_law_k"] (defScope FJ):=oE
def PN:FnScope ["_law_script","_law_number"] ["_law_script"] (defScope U6):=oE
def Qi:FnScope ["_law_row","_law_size"] ["_law_row","_law_size"] (defScope Uw):=oE
def R6:FnScope ["_law_found"] ["_law_found"] (defScope Py):=oE
def qZ:FnScope ["_law_cell","_law_number"] ["_law_cell"] (defScope ww):=oE
def tL:FnScope ["_law_cell","_law_number","_law_at"] ["_law_cell"] (defScope Qk):=oE
def qH:FnScope ["_law_f","_law_g","_law_size","_law_row","_law_i","_law_k"] ["_law_f","_law_g","_law_size"] (defScope zz):=oE
def u5:FnScope ["_law_cell","_law_prime_here","_law_number","_law_row","_law_k"] ["_law_cell","_law_prime_here"] (defScope Ny):=oE
def qO:FnScope ["_law_cells","_law_prime_here","_law_most","_law_made","_law_cell","_law_piece_here"] ["_law_cells","_law_prime_here","_law_most"] (defScope Eo):=oE
def xW:FnScope ["_law_row","_law_g","_law_prime_here","_law_lead","_law_k","_law_at"] ["_law_row","_law_g","_law_prime_here"] (defScope Vf):=oE
def mV:FnScope ["_law_g","_law_prime_here","_law_made","_law_by","_law_many"] ["_law_g","_law_prime_here"] (defScope yr):=oE
def vO:FnScope ["_law_g","_law_prime_here","_law_step","_law_row","_law_made","_law_i"] ["_law_g","_law_prime_here"] (defScope We):=oE
def Iw:FnScope ["_law_f"] ["_law_f"] (defScope zN):=oE
def qN:FnScope ["_law_g","_law_a","_law_b","_law_prime_here","_law_one","_law_other","_law_many"] ["_law_g","_law_a","_law_b","_law_prime_here"] (defScope Ks):=oE
def uh:FnScope ["_law_g","_law_right","_law_prime_here","_law_i","_law_row","_law_j"] ["_law_g","_law_right","_law_prime_here"] (defScope Gi):=oE
def O3:FnScope ["_law_g","_law_a","_law_b","_law_right","_law_prime_here","_law_row"] ["_law_g","_law_a","_law_b","_law_right","_law_prime_here"] (defScope Wj):=oE
def sV:FnScope ["_law_found","_law_number"] ["_law_found"] (defScope uG):=oE
def uB:FnScope ["_law_found","_law_row"] ["_law_found"] (defScope vf):=oE
def Su:FnScope ["_law_number","_law_size"] ["_law_number","_law_size"] (defScope Od):=oE
def Cv:FnScope ["_law_kind","_law_g","_law_prime_here","_law_found"] ["_law_kind","_law_g","_law_prime_here"] (defScope Fl):=oE
def oV:FnScope ["_law_script","_law_head_here","_law_prime_here","_law_most","_law_wide","_law_kind","_law_f","_law_found","_law_made","_law_pair","_law_turn"] ["_law_script"] (defScope Fi):=oE
def Il:FnScope ["self","size"] ["self","size"] (defScope zQ):=oE
def Eh:FnScope ["self","number"] ["self","number"] (defScope xJ):=oE
def Ig:FnScope ["self","a","b"] ["self","a","b"] (defScope zF):=oE
def Hq:FnScope ["self","a","b"] ["self","a","b"] (defScope zP):=oE
def Ef:FnScope ["self","prime"] ["self","prime"] (defScope yz):=oE
local macro_rules | `(tactic| walk_at "0") => `(tactic| first|omega|(dsimp only;omega)|(dsimp only [List.length_cons,List.length_nil];omega)|(simp [L2.gI,L2.start] <;> omega))
local macro_rules | `(tactic| walk_at "1") => `(tactic| first|exact tJ|rfl|assumption|decide|decide +kernel|exact L2.t6 (by decide)|exact L2.xZ (by decide)|exact ⟨by decide,by decide +kernel⟩|exact ⟨by decide,by decide,by decide⟩|walk_at "0"|exact L2.t6 ⟨by walk_at "0",by walk_at "0"⟩|exact L2.xZ ⟨by walk_at "0",by walk_at "0"⟩)
local macro_rules | `(tactic| walk_at "p") => `(tactic| first|(refine ⟨?_,?_⟩ <;> walk_at "p")|walk_at "1"|(intro _;walk_at "p"))
local macro_rules | `(tactic| walk_at "2") => `(tactic| first|exact tJ|exact (rfl:_ = some _)|exact (rfl:L3.isI _ _)|exact (rfl:L3.isL _ _)|exact (rfl:L3.isF _ _)|exact (rfl:L3.isK _ _)|exact (rfl:L3.Yn _ _)|exact (Or.inl rfl:L3.Mf _ _)|exact (Or.inr k4:L3.Mf _ _)|exact (Or.inr (Or.inr rfl):L3.Mf _ _)|walk_at "1")
local macro_rules | `(tactic| walk_at "x") => `(tactic| first|(refine And.intro ?_ ?_ <;> walk_at "x")|walk_at "2")
section
variable {P:Program}{w:World}{K:Fg}{mg:Mg}{base:Heap}{cNO cHP cK U:Addr}
variable (T:Top K mg cNO cHP cK U)
open _root_.List renaming length → ln
abbrev k6 z:=L3.Sl.fr (.int z)
abbrev k7 l:=L3.Sl.fr (.ints l)
def K5:Ok P w K mg base 1 "is_prime" ["number"] (spB 1 yes F_P):=by
 refine nj.ok T.Mh vm (λv H Q E h=>?_) (λf r A o s H v Q E z h=>?_)
 .obtain⟨u,j,rfl,_⟩:=h;rw[aa,j];rfl
 obtain⟨u,j,rfl,y,k⟩:=h;obtain⟨n,rfl⟩:=aaF j;refine⟨_,(pss_cons (HQ (pw_orP (Tg (nJ 0) wG) (pw_or1P (aaw (nJ 0) (Y6 (by rfl) T.zR)))).pt (pss_one (ps_ret pe_bl)) pss_nil) (pss_cons (XM (i:=1) vm.nd rfl k4 wG) (pss_cons (Rn aB (abh (aag (nJ 1) (nJ 1)) (nJ 0)) (pss_cons (HQ (aaA (aaC (nJ 0) (nJ 1)) wG) (pss_one (ps_ret pe_bl)) pss_nil) (pss_one (Yx (i:=1) vm.nd rfl k4 wG uY)))) (pss_one (ps_ret pe_bl))))),?_⟩
 have k:Q (.bl (isP n)) H:=k;refine⟨by walk_at "p",λh=>?_,λh=>?_⟩
 .have h:n<2\/9973<n:=h;rw[Ft (λq=>by have:=q.1;have:=q.2.1;lia)]at k;exact k
 have h:¬(n<2\/9973<n):=h;refine⟨by walk_at "p",λt g=>?_⟩;have g:t=2:=g;subst g;refine⟨λb l=>∃d,b=[some (.int n),some (.int d)]/\l=H/\2<=d/\d<=10000/\JD n d,λb _=>(10001-gI b 1).toNat,⟨2,rfl,rfl,by lia,by lia,λe h1 h2=>by lia⟩,?_⟩;rintro b l ⟨d,rfl,rfl,h2,x,p⟩;refine⟨⟨⟨rfl,rfl,t6 ⟨?_,?_⟩⟩,rfl⟩,λc=>?_,λc=>?_⟩
 .show -(2:Int)^64<d;lia
 .show d<(2:Int)^64;lia
 .have c:d*d<=n:=c;have:=abU h2;refine⟨⟨⟨rfl,rfl,by show(0:Int)<d;lia⟩,tJ⟩,λa=>?_,λa=>?_⟩
  .have a:n % d=0:=a;rw[Ft (λq=>q.2.2 d h2 c a)]at k;exact k
  .have a:¬n % d=0:=a;refine⟨rfl,tJ,tJ,λm e=>?_⟩;have e:m=d+1:=e;subst e;exact⟨⟨d+1,rfl,rfl,by lia,by lia,p.next a⟩,by show(10001-(d+1)).toNat<(10001-d).toNat;lia⟩
 .have c:¬d*d<=n:=c;rw[JQ (.out p h2 (by lia) (by lia) c)]at k;exact k
def UG:Sp:=λv H Q _=>∃n:Int,v=[.int n]/\jR n/\Q .non H
def wI:Ok P w K mg base 2 "refuse_no_prime" ["number"] UG:=by
 refine nj.ok T.xK w6 (λv H Q E h=>?_) (λf a A o s H v Q E d h=>?_)
 .obtain⟨c,rfl,_⟩:=h;rfl
 obtain⟨n,rfl,b,k⟩:=h;refine⟨_,(pss_one (HQ (YD (acX (Y5 (K5 T) d (VM (nJ 0) YB)))) (pss_one ps_never) pss_nil)),?_⟩
 refine⟨⟨⟨rfl,tJ⟩,tJ⟩,λq=>?_,λq=>?_⟩
 .have q:¬isP n=true:=q;exact(q (JQ b)).elim
 .exact k
def Yv (K:Fg):Sp:=λv H Q _=>∃(p C d:Addr) (z:Int),v=[.ref p,.int z]/\H p=some (.ins C d [])/\Cls K C/\NoAttr K C "size"/\Q .non (upd H p (.ins C d [("size",.int z)]))
def Hb:OkC P w K mg base CX0 1 "Kind" cK "__init__" ["self","size"] (Yv K):=by
 obtain⟨f,g,F,b,c⟩:=T.Ld;refine⟨f,g,F.ok Il (λv H Q E h=>?_) (λa A o s H v Q E j h=>?_),b,c,T.Vl⟩
 .obtain⟨p,C,d,z,rfl,_⟩:=h;rfl
 obtain⟨p,C,d,z,rfl,i,e,n,k⟩:=h;refine⟨_,(pss_one (ps_fld (pv 0) (nJ 1) rfl)),?_⟩;exact⟨rfl,_,rfl,p,C,d,[],rfl,i,e,n,by decide,k⟩
def V0:OkI P w K mg base CX0 3 "Rests" U ["self","prime"] (Vx U):=by
 obtain⟨f,g,F,b,c⟩:=T.Hc;refine⟨f,g,F.ok Ef (λv H Q E h=>?_) (λe A o s H v Q E a h=>?_),b,c,T.Qm⟩
 .obtain⟨x,d,p,rfl,_⟩:=h;rfl
 obtain⟨x,d,p,rfl,i,j,k⟩:=h;refine⟨_,(pss_cons (ps_expr (vq (wI T) a (pa_cons (nJ 1) pa_nil))) (pss_one (ps_expr (Xx (Hb T) a pass0 (pa_cons (pv 0) (pa_cons (nJ 1) pa_nil)))))),?_⟩
 exact⟨rfl,p,rfl,i,_,rfl,rfl,x,U,d,p,rfl,j,T.rG,T.pX,k⟩
def XN:Int->List Int->Int:=λz a=>match a with
 |[n]=>pl z n
 |_=>0
abbrev abD:Int->List Int->Prop:=λ_ _=>True
def p7:KM P w K mg base 1 (KR U) "plain" 1 abD XN:=by
 refine⟨λH a z u=>?_⟩;obtain⟨q,m,fs,e,B,t⟩:=u;refine⟨U,m,fs,["self","number"],e,t "plain" (by decide +kernel),?_⟩;obtain⟨f,r,F,b,v⟩:=T.Im;refine⟨f,r,F.ok Eh (λx H Q E h=>?_) (λl A o s H x Q E y h=>?_),b,v,T.rG⟩
 .obtain⟨j,g,rfl,_⟩:=h;show ln (j.map V.int)+1=2;rw[aa,g]
 .obtain⟨j,g,rfl,⟨_,d,c,p,i,_⟩,_,k⟩:=h;obtain⟨n,rfl⟩:=aaF g;have k:Q (.int (pl z n)) H:=k;rw[lJ q]at k;refine⟨_,(pss_one (ps_ret (pe_op op_mod (nJ 1) (pe_fld (pv 0) rfl)))),?_⟩;exact⟨rfl,_,rfl,a,U,d,c,_,rfl,p,T.rG,T.pX,i,_,_,rfl,rfl,q,k⟩
def ksz:KSz K (ph U):=by refine⟨λH a z h=>?_⟩;obtain⟨_,_,d,fs,e,b,_⟩:=h;exact⟨U,d,fs,e,T.rG,T.pX,b⟩
def aa5:Int->List Int->Int:=λz n=>match n with
 |[a,b]=>pl z (a-b)
 |_=>0
def WL:KM P w K mg base 2 (KR U) "less" 2 abD aa5:=by
 refine⟨λH a z D=>?_⟩;obtain⟨S,r,fs,e,R,B⟩:=id D;obtain⟨f,u,j,b,I⟩:=T.JG;refine⟨U,r,fs,["self","a","b"],e,B "less" (by decide +kernel),f,u,j.ok Ig (λL H Q E h=>?_) (λq A o s H L Q E C h=>?_),b,I,T.rG⟩
 .obtain⟨n,i,rfl,_⟩:=h;show ln (n.map V.int)+1=3;rw[aa,i]
 obtain⟨n,i,rfl,c,_,k⟩:=h;obtain⟨x,y,rfl⟩:=acE i;have k:Q (.int (pl z (x-y))) H:=k;obtain⟨N,d,g,J,t,G,M⟩:=(p7 (P:=P) (w:=w) (base:=base) T).ex H a z c;obtain⟨O,v,F,l,m,p⟩:=M.ex;refine⟨_,(pss_one (ps_ret (pe_meth (pv 0) p m F C l .nil pass0 (pa_cons (aat op_sub (nJ 1) (nJ 2)) pa_nil)))),?_⟩;exact⟨_,rfl,a,d,g,rfl,t,G,⟨rfl,rfl⟩,[x-y],rfl,rfl,c,tJ,k⟩
def O7:List Int->List Int->Prop:=λ_ i=>match i with
 |[k]=>0<=k
 |_=>False
def VP:List Int->List Int->Int:=λx i=>match i with
 |[k]=>x.getD k.toNat 0
 |_=>0
def Nf:Ok P w K mg base 1 "_law_cell_at" ["_law_script","_law_k"] (spS K 1 O7 VP):=by
 refine nj.ok T.Rv MJ (λv H Q E h=>?_) (λf l A o s H v Q E p h=>?_)
 .obtain⟨a,x,g,b,rfl,_⟩:=h;show ln (g.map V.int)+1=2;rw[aa,b]
 obtain⟨j,n,g,b,rfl,d,c,k⟩:=h;obtain⟨i,rfl⟩:=aaF b;have c:0<=i:=c;have k:Q (.int (n.getD i.toNat 0)) H:=k;refine⟨_,(pss_cons (HQ (Tg (nJ 1) (abi 0 j (n.map V.int) T.jQ)) (pss_one (ps_ret (Xw 0 j n (nJ 1) (λ_ _=>rfl)))) pss_nil) (pss_one (ps_ret wG))),?_⟩
 have m:ln (n.map V.int)=ln n:=aa _;refine⟨⟨rfl,⟨rfl,d⟩⟩,λq=>?_,λq=>?_⟩
 .have q:i<(ln (n.map V.int):Int):=q;refine⟨⟨rfl,rfl,d,?_,?_⟩,?_⟩
  .show -(ln n:Int)<=i;lia
  .show i<(ln n:Int);lia
  .show Q (.int (n.getD (if 0<=i then i else i+ln n).toNat 0)) H;rw[af c];exact k
 .have q:¬i<(ln (n.map V.int):Int):=q;have e:n.getD i.toNat 0=0:=by rw[gQ,bT (by lia)];rfl
  rw[e]at k;exact⟨tJ,k⟩
def Np:Ok P w K mg base 1 "_law_cell_at" ["_law_script","_law_k"] (Hw K (ph U) (L3.abL 1 O7) λas=>VP (acB as) (uT as.tail)):=acC (Nf T)
def CK:Ok P w K mg base 1 "_law_whole" ["_law_found"] (Jo K (ph U) (λas=>∃n,as=[.int n]) λ_=>true):=by refine uK T.Yp R6 (λ_ ⟨c,h⟩=>h▸rfl) (λf a A o s H E d=>⟨_,(jw (jD (Ik (pA T.mR (xv 0) (rT (by rfl) T.JL U5)) (pe_one (abn (pA T.mR (xv 0) (rT (by rfl) T.aaq Yi))))))),λas b=>?_⟩);obtain⟨n,rfl⟩:=b;have h1:pZ K (.int n) (.ty "int")=true:=pY rfl rfl T.Ey;have h2:pZ K (.int n) (.ty "bool")=false:=pY rfl rfl T.CV;refine⟨⟨⟨rfl,tJ,_,_,_,rfl,rfl,T.Ey⟩,λ_=>⟨rfl,tJ,_,_,_,rfl,rfl,T.CV⟩⟩,?_⟩;show PV.bl (decide (pZ K (.int n) (.ty "int")=true/\¬pZ K (.int n) (.ty "bool")=true))=PV.bl true;rw[h1,h2];rfl
def Cw (h:ns≠[])(h0:ns.getD (ln ns-1) 0=0):lq ns.dropLast=lq ns:=by
 have e:ns=ns.dropLast++[0]:=by
  have a:=dI h;have b:ns.getLast h=0:=by rw[g6];rw[gQ,ac (by have:=lP h;lia)]at h0;exact h0
  rw[b]at a;exact a.symm
 rw[e,wO,List.dropLast_concat]
def CP (h:¬(ns≠[]/\ns.getD (ln ns-1) 0=0)):lq ns=ns:=by
 by_cases c:ns=[]
 .rw[c];rfl
 .have h0:¬ns.getD (ln ns-1) 0=0:=λz=>h ⟨c,z⟩;have e:=dI c;have a:ns.getLast c≠0:=by rw[g6];rw[gQ,ac (by have:=lP c;lia)]at h0;exact h0
  rw[<- e,Bh _ a]
def Px (ns:Li)(h:ns≠[]):lD (ln ns) (-1)=ln ns-1:=by have:=lP h;unfold lD;rw[ae (by lia)];lia
def u6:Ok P w K mg base 1 "cut_noughts" ["numbers"] (spM (λ_=>True) lq):=by
 refine nj.ok T.DX Dd (λy H Q E h=>?_) (λf u A r s H y Q E C h=>?_)
 .obtain⟨a,ns,rfl,_⟩:=h;rfl
 obtain⟨a,ns,rfl,x,_,q⟩:=h;refine⟨_,(pss_one (ps_while aB (pw_and (pt_truth (pv 0) (λ_=>rfl)) (pw_and1 (pt_cmpR op_eq (YW 0 (ZX wG) (λ_ _=>rfl)) wG (nomark _)))).pt (pss_one (ps_expr (pe_bm0 cG fO fP mt_pop (pv 0)))))),?_⟩
 refine⟨λm k j=>k=[some (.ref a)]/\∃g,m=ln g/\j=upd H a (.lst (g.map V.int))/\lq g=lq ns,⟨ln ns,rfl,ns,rfl,?_,rfl⟩,?_⟩
 .funext b;by_cases c:b=a
  .rw[c,upd_same,x]
  .rw[upd_ne c]
 rintro m k j ⟨rfl,g,rfl,rfl,p⟩;refine⟨_,rfl,_,.inl ⟨_,SqL.of upd_same,rfl⟩,?_⟩;by_cases c:g=[]
 .subst c;refine iteF ?_;refine iteF ?_;refine q _ (λb o n e=>?_) ?_
  .rw[upd_ne n];exact e
  .rw[upd_same,<- p];rfl
 .have t:=lP c;have v:(!(g.map V.int).isEmpty)=true:=by cases g<;>simp at c ⊢
  rw[v];refine iteT ?_;refine⟨tJ,a,g,g.getD (ln g-1) 0,rfl,SqL.of upd_same,?_,?_⟩
  .have z:=getD_at (ns:=g) (i:=-1) (by lia) (by lia);show atI (g.map V.int) (-1)=_;rw[z,ae (by lia)];have:(-1+(ln g:Int)).toNat=ln g-1:=by lia
   rw[this]
  refine⟨tJ,rfl,_,rfl,?_⟩;by_cases d:g.getD (ln g-1) 0=0
  .have l:decide (V.int (g.getD (ln g-1) 0)=V.int 0)=true:=aK (by rw[d]);rw[l];refine iteT ?_;refine⟨λk j=>k=[some (.ref a)]/\j=upd H a (.lst (g.dropLast.map V.int)),?_,?_⟩
   .rintro B j ⟨rfl,rfl⟩;refine⟨ln g.dropLast,by rw[eG];lia,rfl,_,rfl,rfl,?_⟩;rw[<- p];exact Cw c d
   .refine⟨_,rfl,.inl ⟨rfl,_,SqL.of upd_same⟩,a,_,V.int (g[ln g-1]'(by lia)),rfl,rfl,upd_same,?_,rfl,?_⟩
    .rw[aa,aq,ac (by lia)];rfl
    .rw[upd_upd,gO]
  .have l:decide (V.int (g.getD (ln g-1) 0)=V.int 0)=false:=aM (by intro z;exact d (by injection z));rw[l];refine iteF ?_;refine q _ (λb o n e=>?_) ?_
   .rw[upd_ne n];exact e
   .rw[upd_same,<- p,CP λz=>d z.2]
def F00:List PV->Li|[.ob 0 z,.ints f]=>lq (f.map (pl z))|_=>[]
def kj:Ok P w K mg base 2 "trimmed" ["kind","f"] (Ew K (ph U) (λas=>∃z f,as=[.ob 0 z,.ints f]/\ln f<=1000) F00):=by
 refine IV T.QX Bm (λ_ ⟨a,b,h,_⟩=>h▸rfl) (λf g A o s H E c=>⟨_,(jr (HR (i:=2) Bm.nd rfl rfl (N':=["number","kind"]) (cap:=[some 0]) (nQ rfl rfl rfl rfl ⟨⟨rfl,.inr (.inl rfl),w5,.inl rfl,_,rfl,rfl⟩,tJ⟩ ⟨rfl,tJ⟩ rfl) rfl (xl 1) (λ_ _ _=>(oW 0)) (λ_ _ _=>(qR 1 (p7 T) c (jq (xn 0) ju))) rfl) (jr (Qh 2 (u6 T) c) (jw (Bp 2)))),λas k=>?_⟩)
 obtain⟨z,f,rfl,j⟩:=k;refine⟨⟨rfl,j,λn _=>⟨rfl,⟨rfl,tJ⟩,tJ,tJ⟩⟩,λd e=>?_⟩;have e:d=f.map (pl z):=e;refine⟨rfl,tJ,rfl,?_⟩;show lq d=lq (f.map (pl z));rw[e]
def kJ (f g:List Int):List Int:=(List.range (max (ln f) (ln g))).map λn=>f.getD n 0+g.getD n 0
def jJ (f g:Li)(n:Nat):(kJ f g).getD n 0=f.getD n 0+g.getD n 0:=by
 unfold kJ;by_cases h:n<max (ln f) (ln g)
 .rw[jK (by rw[aa,ag];exact h),bi,bp]
 .rw[jz (by rw[aa,ag];lia),jz (by lia),jz (by lia)];rfl
def JH (f:Li)(k n:Nat):(f++List.replicate k 0).getD n 0=f.getD n 0:=by
 by_cases h:n<ln f
 .rw[jK (by rw[ai];lia),gP h,jK h]
 .rw[jz (xs:=f) (by lia)];by_cases h2:n<ln f+k
  .rw[jK (by rw[ai,aC];exact h2),gJ (by lia),ce]
  .rw[jz (by rw[ai,aC];lia)]
def JM (f g:List Int)(i:Nat)(r:List Int):Prop:=ln r=ln f+(ln g-ln f)/\∀n,r.getD n 0=f.getD n 0+if n<i then g.getD n 0 else 0
def Tp (h:JM f g i row)(e:i<ln g):JM f g (i+1) (row.set i (row.getD i 0+g.getD i 0)):=by
 obtain⟨b,a⟩:=h;refine⟨by rw[bn];exact b,λn=>?_⟩;rw[rR _ _ _ _ (by lia)];by_cases c:n=i
 .subst c;rw[af rfl,a,ae (by lia),af (by lia)];lia
 .rw[ae c,a];by_cases d:n<i
  .rw[af d,af (by lia)]
  .rw[ae d,ae (by lia)]
def WP (h:JM f g (ln g) row):Tz z row=Tz z (kJ f g):=by
 refine GK λn=>?_;rw[h.2,jJ];by_cases d:n<ln g
 .rw[af d]
 .rw[ae d,jz (xs:=g) (by lia)]
def F01:List PV->Li|[.ob 0 z,.ints f,.ints g]=>Tz z (kJ f g)|_=>[]
def WT:Ok P w K mg base 3 "plus" ["kind","f","g"] (Ew K (ph U) (λas=>∃z f g,as=[.ob 0 z,.ints f,.ints g]/\ln f<=500/\ln g<=500) F01):=by
 refine IV T.aa9 Ac (λ_ ⟨a,b,c,h,_⟩=>h▸rfl) (λf t A o s H E d=>⟨_,(jr (ue (i:=3) Ac.nd rfl k4 (uq (jM (HS T.yN (xl 1) (λ_=>.inl rfl))) (jM (rJ (kZ (jq jt ju)) (lN (jU 2 T.jQ) (jU 1 T.jQ)) (λ_=>rfl))))) (jr (yq (k:=4) (j:=5) aB rfl (by rfl) T.mO (xl 2) (pg_tup rfl (pgs_cons (pg_name (i:=4) Ac.nd rfl k4) (pgs_cons (pg_name (i:=5) Ac.nd rfl k4) pgs_nil))) (jw (Fx 3 (xn 4) (xn 5) uY))) (lB 3 (jw (mD (pD (kj T) d (jq (xv 0) (jq (xl 3) ju)))))))),λas y=>?_⟩)
 obtain⟨z,f,g,rfl,F,G⟩:=y;have u:((ln g:Int)-(ln f:Int)).toNat=ln g-ln f:=by lia
 refine⟨⟨rfl,⟨⟨⟨tJ,tJ⟩,tJ⟩,⟨.inl rfl,.inl rfl⟩,?_,?_⟩,?_⟩,λp e=>?_⟩
 .show -(2:Int)^63<=(ln g:Int)-(ln f:Int);lia
 .show((ln g:Int)-(ln f:Int)).toNat<=1000;lia
 .refine bI (small1000 ?_);show ln f+(List.replicate ((ln g:Int)-(ln f:Int)).toNat (0:Int)).length<=1000;rw[aC];lia
 have e:p=f++List.replicate (ln g-ln f) 0:=by rw[<- u];exact e
 refine⟨rfl,λi Z=>∃r v m,Z=[.fr (.ob 0 z),k7 f,k7 g,.ow (.ints r),v,m]/\JM f g i r,⟨p,.un,.un,rfl,?_⟩,?_,?_⟩
 .rw[e];refine⟨by rw[ai,aC],λn=>?_⟩;rw[JH,ae (by lia),bC]
 .rintro i n Z l ⟨r,v,m,rfl,d⟩;have l:g[i]?=some n:=l;have x:=Uh l;have C:-(ln r:Int)<=(i:Int):=by lia
  have D:(i:Int)<(ln r:Int):=by have:=d.1;lia
  have B:lD (ln r) (i:Int)=i:=by unfold lD;rw[af (by lia)];lia
  refine⟨rfl,rfl,⟨C,D⟩,rfl,tJ,r.set i (r.getD i 0+n),k6 i,k6 n,?_,?_⟩
  .show[Sl.fr (.ob 0 z),k7 f,k7 g,.ow (.ints (r.set (lD (ln r) (i:Int)) (r.getD (lD (ln r) (i:Int)) 0+n))),k6 i,k6 n]=_;rw[B]
  .have q:=Tp d x;rw[getD_at' l]at q;exact q
 .rintro Z ⟨r,v,m,rfl,d⟩;have d:JM f g (ln g) r:=d;refine⟨⟨⟨rfl,rfl,tJ⟩,z,r,rfl,?_⟩,?_⟩
  .rw[d.1];lia
  .show Tz z r=Tz z (kJ f g);exact WP d
def Ak:Ok P w K mg base 4 "less" ["kind","f","g"] (Ew K (ph U) (λas=>∃z f g,as=[.ob 0 z,.ints f,.ints g]/\ln f<=500/\ln g<=500) λas=>match as with|[.ob 0 z,.ints f,.ints g]=>Tz z (kJ f (g.map λn=>-n))|_=>[]):=by
 refine IV T.Z6 Yy (λ_ ⟨a,b,c,h,_⟩=>h▸rfl) (λf d A o s H E k=>⟨_,(jw (mD (pD (WT T) k (jq (xv 0) (jq (xl 1) (jq (jM (Dc (N':=["number"]) (cap:=[]) (nQ rfl rfl rfl rfl tJ tJ rfl) rfl (xl 2) (λ_ _ _=>(oW 0)) (λ_ _ _=>(uc (xn 0))))) ju)))))),λas j=>?_⟩);obtain⟨z,f,g,rfl,e,i⟩:=j;refine⟨⟨⟨rfl,rfl,⟨rfl,by show ln g<=1000;lia,λn _=>rfl⟩,tJ⟩,z,f,_,rfl,e,?_⟩,rfl⟩;show ln (g.map λn=>-n)<=500;rw[aa];exact i
def vN:Ok P w K mg base 3 "scaled" ["kind","f","number"] (Ew K (ph U) (λas=>∃z f n,as=[.ob 0 z,.ints f,.int n]/\ln f<=1000/\n.natAbs<2^9000/\∀m∈f,m.natAbs<2^9000) λas=>match as with|[.ob 0 z,.ints f,.int n]=>Tz z (f.map λm=>n*m)|_=>[]):=by
 refine IV T.Tc QF (λ_ ⟨a,b,c,h,_⟩=>h▸rfl) (λf g A o s H E l=>⟨_,(jw (mD (pD (kj T) l (jq (xv 0) (jq (jM (Dc (N':=["one","number"]) (cap:=[some 2]) (nQ rfl rfl rfl rfl ⟨⟨rfl,.inr (.inl rfl),w5,.inl rfl,_,rfl,rfl⟩,tJ⟩ ⟨rfl,tJ⟩ rfl) rfl (xl 1) (λ_ _ _=>(oW 0)) (λ_ _ _=>(nW (xn 1) (xn 0))))) ju))))),λas k=>?_⟩);obtain⟨z,f,n,rfl,e,j,i⟩:=k;refine⟨⟨⟨rfl,⟨rfl,e,λm d=>⟨rfl,rfl,qx (n:=9000) (m:=9000) j (i m d)⟩⟩,tJ⟩,z,_,rfl,?_⟩,rfl⟩;show ln (f.map λm=>n*m)<=1000;rw[aa];exact e
def ab7 (d:0<=z)(h:z<((2^9000:Nat):Int))(a:∀m∈f,m.natAbs<2^9000):∀m∈Tz z f,m.natAbs<2^9000:=λm c=>by obtain⟨k,b,rfl⟩:=abk c;exact Dh d h (a k b)
def yc:Ok P w K mg base 3 "times" ["kind","f","g"] (Ew K (ph U) (λas=>∃z f g,as=[.ob 0 z,.ints f,.ints g]/\0<=z/\z<((2^9000:Nat):Int)/\ln f+ln g<=1000/\(∀m∈f,m.natAbs<2^9000)/\(∀m∈g,m.natAbs<2^9000)) λas=>match as with|[.ob 0 z,.ints f,.ints g]=>Tz z (jy (Tz z f) (Tz z g))|_=>[]):=by
 refine IV T.Ww qi (λ_ ⟨a,b,c,h,_⟩=>h▸rfl) (λf M A C s H E l=>⟨_,(jr (jE (i:=3) qi.nd rfl k4 (jM (pD (kj T) l (jq (xv 0) (jq (xl 1) ju))))) (jr (jE (i:=4) qi.nd rfl k4 (jM (pD (kj T) l (jq (xv 0) (jq (xl 2) ju))))) (jr (ue (i:=5) qi.nd rfl k4 (rJ (kZ (jq jt ju)) (lO (jU 3 T.jQ) (jU 4 T.jQ)) (λ_=>rfl))) (jr (yq (k:=6) (j:=7) aB rfl (by rfl) T.mO (xl 3) (pg_tup rfl (pgs_cons (pg_name (i:=6) qi.nd rfl k4) (pgs_cons (pg_name (i:=7) qi.nd rfl k4) pgs_nil))) (jw (yq (k:=8) (j:=9) aB rfl (by rfl) T.mO (xl 4) (pg_tup rfl (pgs_cons (pg_name (i:=8) qi.nd rfl k4) (pgs_cons (pg_name (i:=9) qi.nd rfl k4) pgs_nil))) (jw (Fx 5 (lO (xn 6) (xn 8)) (nW (xn 7) (xn 9)) uY))))) (lB 5 (jw (mD (pD (kj T) l (jq (xv 0) (jq (xl 5) ju)))))))))),λas hp=>?_⟩)
 obtain⟨z,f,g,rfl,G,B,hl,Q,R⟩:=hp;refine⟨⟨⟨rfl,rfl,tJ⟩,z,f,rfl,by lia⟩,λd o=>?_⟩;have o:d=Tz z f:=o;refine⟨⟨⟨rfl,rfl,tJ⟩,z,g,rfl,by lia⟩,λe p=>?_⟩;have p:e=Tz z g:=p;have lf:ln d<=ln f:=by rw[o];exact lA _ _
 have lg:ln e<=ln g:=by rw[p];exact lA _ _
 have J:∀m∈d,m.natAbs<2^9000:=by rw[o];exact ab7 G B Q
 have L:∀m∈e,m.natAbs<2^9000:=by rw[p];exact ab7 G B R
 have N:((ln d:Int)+(ln e:Int)).toNat=ln d+ln e:=by lia
 refine⟨⟨⟨⟨tJ,tJ⟩,tJ⟩,⟨.inl rfl,.inl rfl⟩,?_,?_⟩,λI u=>?_⟩
 .show -(2:Int)^63<=(ln d:Int)+(ln e:Int);lia
 .show((ln d:Int)+(ln e:Int)).toNat<=1000;lia
 have u:I=List.replicate (ln d+ln e) 0:=by rw[<- N];exact u
 refine⟨rfl,λi Z=>∃r D F v t,Z=[.fr (.ob 0 z),k7 f,k7 g,k7 d,k7 e,.ow (.ints r),D,F,v,t]/\uE d e i 0 r,⟨I,.un,.un,.un,.un,rfl,by rw[u];exact Es d e⟩,?_,?_⟩
 .rintro i n Z y ⟨r,D,F,v,t,rfl,l⟩;have y:d[i]?=some n:=y;have S:=Uh y;refine⟨rfl,λj Z=>∃r v t,Z=[.fr (.ob 0 z),k7 f,k7 g,k7 d,k7 e,.ow (.ints r),k6 i,k6 n,v,t]/\uE d e i j r,⟨r,v,t,rfl,l⟩,?_,?_⟩
  .rintro j m Z x ⟨r,v,t,rfl,l⟩;have x:e[j]?=some m:=x;have Y:=Uh x;have l1:-(ln r:Int)<=(i:Int)+(j:Int):=by lia
   have l2:(i:Int)+(j:Int)<(ln r:Int):=by have:=l.1;lia
   have ix:lD (ln r) ((i:Int)+(j:Int))=i+j:=by unfold lD;rw[af (by lia)];lia
   refine⟨rfl,⟨rfl,rfl⟩,⟨l1,l2⟩,⟨rfl,rfl,?_⟩,tJ,r.set (i+j) (r.getD (i+j) 0+n*m),k6 j,k6 m,?_,?_⟩
   .exact qx (n:=9000) (m:=9000) (J n (V3 y)) (L m (V3 x))
   .rw[<- ix];rfl
   .have q:=Lf l S Y;rw[getD_at' y,getD_at' x]at q;exact q
  .rintro Z ⟨r,v,t,rfl,l⟩;exact⟨r,_,_,v,t,rfl,Js l⟩
 .rintro Z ⟨r,D,F,v,t,rfl,l⟩;have O:=row_end l;refine⟨⟨⟨rfl,rfl,tJ⟩,z,r,rfl,?_⟩,?_⟩
  .rw[l.1];lia
  .show lq (r.map (pl z))=_;rw[O,o,p];rfl
open Classical in
def tu (n z:Int):Int:=if h:∃x:Int,0<=x/\x<z/\x*n % z=1 then Classical.choose h else 0
def U7 (h:2<=z)(h0:0<=x)(h1:x<z)(h2:x*n % z=1):tu n z=x:=by
 have a:∃x:Int,0<=x/\x<z/\x*n % z=1:=⟨x,h0,h1,h2⟩;have e:tu n z=Classical.choose a:=by unfold tu;rw[je a]
 obtain⟨b,c,d⟩:=fQ a;rw[e];generalize Classical.choose a=y at b c d;have f:(y*(x*n)) % z=y:=by rw[fM,h2,bG,Int.emod_emod,br b c]
 have g:(x*(y*n)) % z=x:=by rw[fM,d,bG,Int.emod_emod,br h0 h1]
 exact(f.symm.trans (by rw[gR y x n])).trans g
def N8 (a:2<=z)(h:∃x:Int,0<=x/\x<z/\x*n % z=1):0<=tu n z/\tu n z<z/\tu n z*n % z=1:=by obtain⟨x,h0,h1,h2⟩:=h;rw[U7 a h0 h1 h2];exact⟨h0,h1,h2⟩
def NQ (d:2<=z)(h:Int.gcd n z=1):∃x:Int,0<=x/\x<z/\x*n % z=1:=by
 have f:∀(m:Nat) (b r a s:Int),r.toNat<=m->Eu n z b r a s->∃x:Int,0<=x/\x<z/\x*n % z=1:=by
  intro m
  induction m with
  |zero=>
   intro b r a s g I;have:=I.r0;have e:r=0:=by lia
   subst e;have gc:=I.end;exact⟨a % z,bw _ (by lia),bc _ (by lia),I.one d (by lia)⟩
  |succ m j=>
   intro b r a s g I;by_cases c:r=0
   .subst c;have gc:=I.end;exact⟨a % z,bw _ (by lia),bc _ (by lia),I.one d (by lia)⟩
   .have i:=I.step c;have:=i.rb;have:=i.r0;have:=I.r0;exact j _ _ _ _ (by lia) i
 exact f _ _ _ _ _ (aj _) (Eu.start d)
def HF (C:Addr):List PV->Rs:=λa=>match a with
 |[.int n,.int z]=>if Int.gcd n z=1 then .val (.int (tu n z)) else .err C
 |_=>.err C
def Ms {x z:Int}(h:(x.natAbs:Int)<=z)(a:z.natAbs<2^9000):x.natAbs<2^9000:=by
 generalize 2^9000=B at *
 lia
def QK:OkE P w K mg base 1 "turned" ["number","size"] (spE K (ph U) (λas=>∃n z,as=[.int n,.int z]/\2<=z/\z.natAbs<2^9000) (HF cNO)):=by
 refine okE T.Vp mH (λ_ ⟨n,z,h,_⟩=>h▸rfl) (λf cdv A D s H E hr=>⟨_,(jr (jH (i:=2) mH.nd rfl k4 (xn 1)) (jr (jH (i:=3) mH.nd rfl k4 (lV (xn 0) (xn 1))) (jr (jH (i:=4) mH.nd rfl k4 jt) (jr (jH (i:=5) mH.nd rfl k4 jt) (jr (mJ PassesOwn.leaving (wk (xn 3) jt) (jr (jH (i:=6) mH.nd rfl k4 (tY (xn 2) (xn 3))) (jr (jH (i:=7) mH.nd rfl k4 (lN (xn 2) (nW (xn 6) (xn 3)))) (jr (jH (i:=8) mH.nd rfl k4 (lN (xn 4) (nW (xn 6) (xn 5)))) (jr (jH (i:=2) mH.nd rfl k4 (xn 3)) (jr (jH (i:=3) mH.nd rfl k4 (xn 7)) (jr (jH (i:=4) mH.nd rfl k4 (xn 5)) (jw (jH (i:=5) mH.nd rfl k4 (xn 8)))))))))) (jr (lF (wk (xn 2) jt) (jw (Q3 ac7 rfl T.Wq (by rfl) T.K6 (jq aay ju))) j6) (jw (jD (lV (xn 4) (xn 1)))))))))),λas hp=>?_⟩)
 obtain⟨n,z,rfl,C,e⟩:=hp;refine⟨rfl,λa l=>?_⟩;have l:a=z:=l;subst l;refine⟨⟨rfl,rfl,by show 0<a;lia⟩,λN y=>?_⟩;have y:N=n % a:=y;refine⟨tJ,λz0 B=>?_⟩;have B:z0=0:=B;subst B;refine⟨tJ,λo0 v=>?_⟩;have v:o0=1:=v;subst v;refine⟨λZ=>∃b r g s o S j,Z=[k6 n,k6 a,k6 b,k6 r,k6 g,k6 s,o,S,j]/\Eu n a b r g s,λZ=>(wK Z 3).toNat,⟨a,N,0,1,.un,.un,.un,rfl,by rw[y];exact Eu.start C⟩,?_⟩;rintro Z ⟨b,r,g,s,o,S,j,rfl,I⟩;have sm:=I.id;have sbz:=I.bz;have rlt:=I.rb;have F:=I.r0;have s9:s.natAbs<2^9000:=Ms (z:=a) (by
  have h1:(s.natAbs:Int)*1<=(s.natAbs:Int)*b:=bB (by lia) (by lia);have h2:0<=(g.natAbs:Int)*r:=iO (by lia) F;lia) e
 have R:r.natAbs<2^9000:=Ms (z:=a) (by lia) e;refine⟨⟨rfl,tJ⟩,λc=>?_,λc=>?_⟩
 .have c:¬r=0:=c;have q0:0<=b / r:=Int.ediv_nonneg (by lia) (by lia);have q1:b / r<=b:=Int.ediv_le_self _ (by lia);have M:(b / r).natAbs<2^9000:=Ms (z:=a) (by lia) e;refine⟨⟨rfl,rfl,by show 0<r;lia,(iV (by show r.natAbs≠0;lia)).mpr R⟩,λq x=>?_⟩;have x:q=b / r:=x;subst x;refine⟨⟨rfl,rfl,rfl,qx M R⟩,λO J=>?_⟩;refine⟨⟨rfl,rfl,rfl,qx M s9⟩,λY L=>?_⟩;have f1:O=b-b / r*r:=J;have f2:Y=g-b / r*s:=L;clear J L;refine⟨rfl,λG u=>?_⟩;have u:G=r:=u;subst u;refine⟨rfl,λQ m=>?_⟩;have m:Q=O:=m;subst m;refine⟨rfl,λs2 p=>?_⟩;have p:s2=s:=p;subst p;refine⟨rfl,λs3 t=>?_⟩;have t:s3=Y:=t;subst t;have k:=I.step c;rw[<- f1,<- f2]at k;refine⟨⟨_,_,_,_,_,_,_,rfl,k⟩,?_⟩;show Q.toNat<G.toNat;have:=k.rb;have:=k.r0;lia
 .have c:¬¬r=0:=c;have c:r=0:=by lia
  subst c;have gc:=I.end;refine⟨⟨rfl,tJ⟩,λd=>?_,λd=>?_⟩
  .have d:¬b=1:=d;refine⟨⟨tJ,tJ⟩,?_⟩;show HF cNO [.int n,.int a]=.err cNO;show(if Int.gcd n a=1 then _ else _)=_;rw[ae (by lia)]
  .have d:¬¬b=1:=d;have d:b=1:=by lia
   refine⟨⟨rfl,rfl,by show 0<a;lia⟩,?_⟩;show HF cNO [.int n,.int a]=.val (.int (g % a));show(if Int.gcd n a=1 then _ else _)=_;rw[af (by lia),U7 C (bw _ (by lia)) (bc _ (by lia)) (I.one C d)]
def qu (z a b:Int):pl z a=pl z b ↔ z ∣ a-b:=by
 unfold pl;split
 .rename_i h;subst h;rw[Int.zero_dvd];lia
 .rw[eI,Int.dvd_iff_emod_eq_zero]
def sH (c:pl z a=a)(d:pl z b=b)(h:z ∣ a-b):a=b:=by rw[<- c,<- d];exact(qu z a b).mpr h
def lR (z a:Int):z ∣ pl z a-a:=(qu z _ _).mp (qQ z a)
def jB (xs:List Int):Int:=xs.getD (ln xs-1) 0
def oG:∀{N:Nat},(∀j,j<N->z ∣ f j)->z ∣ sm N f
 |0,_=>aS z
 |N+1,h=>aU (oG λj a=>h j (by lia)) (h N (by lia))
def Nq:∀{N:Nat},i<N->(∀j,j<N->j≠i->z ∣ f j)->z ∣ sm N f-f i
 |0,h,_=>by lia
 |N+1,h,k=>by
  show z ∣ sm N f+f N-f i;by_cases c:i=N
  .subst c;have e:sm i f+f i-f i=sm i f:=by lia
   rw[e];exact oG λj b=>k j (by lia) (by lia)
  .have e:sm N f+f N-f i=(sm N f-f i)+f N:=by lia
   rw[e];exact aU (Nq (by lia) λj b a=>k j (by lia) a) (k N (by lia) (by lia))
def UW:∀{N:Nat},(∀i,i<N->i≠k->f i=g i)->sm N f=sm N g+if k<N then f k-g k else 0
 |0,_=>by rw[ae (by lia)];rfl
 |N+1,h=>by
  show sm N f+f N=sm N g+g N+_;rw[UW (f:=f) (g:=g) (k:=k) λi b a=>h i (by lia) a];by_cases c:k=N
  .subst c;rw[ae (by lia),af (by lia)];lia
  .rw[h N (by lia) (by lia)];by_cases d:k<N
   .rw[af d,af (by lia)];lia
   .rw[ae d,ae (by lia)];lia
def Ln (b:0<ln d)(up:∀j,i<j->z ∣ E.getD j 0):z ∣ cm E d (i+(ln d-1))-E.getD i 0*jB d:=by
 have h:=Nq (z:=z) (f:=λj=>E.getD j 0*d.getD (i+(ln d-1)-j) 0) (i:=i) (N:=i+(ln d-1)+1) (by lia) λj g a=>by
  rcases fj a with c|c
  .rw[jz (show ln d<=i+(ln d-1)-j by lia),aQ];exact aS z
  .exact be (up j c)
 have e:i+(ln d-1)-i=ln d-1:=by lia
 rw[e]at h;exact h
def abN (c:0<ln d)(nz:∀x,z ∣ x*jB d->z ∣ x)(h:∀n,S+(ln d-1)<=n->z ∣ cm E d n):∀i,S<=i->z ∣ E.getD i 0:=by
 have a:∀k i,S<=i->ln E<=i+k->z ∣ E.getD i 0:=by
  intro k
  induction k with
  |zero=>intro i _ e;rw[jz (by lia)];exact aS z
  |succ k f=>intro i b e;have one:=Ln (z:=z) (E:=E) c (i:=i) λj g=>f j (by lia) (by lia);refine nz _ ?_;have:=dj (h (i+(ln d-1)) (by lia)) one;rw[Int.sub_sub_self]at this;exact this
 exact λi b=>a (ln E) i b (by lia)
def Vu (a:g<ln q)(h0:q.getD g 0=0)(n:Nat):cm (q.set g c) d n=cm q d n+if g<=n then c*d.getD (n-g) 0 else 0:=by
 unfold cm;rw[UW (f:=λi=>(q.set g c).getD i 0*d.getD (n-i) 0) (g:=λi=>q.getD i 0*d.getD (n-i) 0) (k:=g) λi b h=>by
  rw[rR _ _ _ _ a,ae h]]
 congr 1;by_cases k:g<n+1
 .rw[af k,af (by lia)];rw[rR _ _ _ _ a,af rfl,h0];lia
 .rw[ae k,ae (by lia)]
def Ea (a b:List Int):List Int:=(List.range (max (ln a) (ln b))).map λi=>a.getD i 0-b.getD i 0
def qP (a b:Li)(n:Nat):(Ea a b).getD n 0=a.getD n 0-b.getD n 0:=by
 unfold Ea;by_cases h:n<max (ln a) (ln b)
 .rw[jK (by rw[aa,ag];exact h),bi,bp]
 .rw[jz (by rw[aa,ag];lia),jz (xs:=a) (by lia),jz (xs:=b) (by lia)];rfl
def wZ (f g:Nat->Int):∀N,sm N (λi=>f i-g i)=sm N f-sm N g
 |0=>rfl
 |N+1=>by show sm N (λi=>f i-g i)+(f N-g N)=sm N f+f N-(sm N g+g N);rw[wZ f g N];lia
def Mv (a b d:Li)(n:Nat):cm (Ea a b) d n=cm a d n-cm b d n:=by unfold cm;rw[<- wZ];exact jG λi _=>by rw[qP,gf]
def m5 {xs:Li}{L:Nat}(a:lG xs)(h:∀n,L<=n->xs.getD n 0=0):ln xs<=L:=by
 by_cases c:ln xs<=L
 .exact c
 .exact absurd (h (ln xs-1) (by lia)) (a λe=>by rw[e]at c;exact c (a9 _))
def vh (z:Int)(d r:List Int)(c:Int):List Int:=lq ((List.range (ln r)).map λn=>if ln r-ln d<=n then pl z (r.getD n 0-c*d.getD (n-(ln r-ln d)) 0) else r.getD n 0)
def yP (a:ln d<=ln r)(n:Nat):(vh z d r c).getD n 0=if ln r-ln d<=n then pl z (r.getD n 0-c*d.getD (n-(ln r-ln d)) 0) else r.getD n 0:=by
 unfold vh;rw[xV];by_cases h:n<ln r
 .rw[jK (by rw[aa,ag];exact h),bi,bp]
 .rw[jz (by rw[aa,ag];lia),af (by lia),jz (xs:=r) (by lia),jz (xs:=d) (by lia),aQ,aJ,lU]
def QH (z:Int)(ov:Int->Int->Option Int)(d:List Int):Nat->List Int->List Int->Option (List Int×List Int)
 |0,q,r=>some (q,r)
 |n+1,q,r=>if ln r<ln d then some (q,r) else match ov (jB r) (jB d) with
  |none=>none
  |some c=>QH z ov d n (q.set (ln r-ln d) c) (vh z d r c)
structure wR (z:Int)(f d q r:List Int):Prop where
 eq:∀n,z ∣ cm q d n+r.getD n 0-f.getD n 0
 rr:∀n,pl z (r.getD n 0)=r.getD n 0
 rf:lG r
 qr:∀n,pl z (q.getD n 0)=q.getD n 0
 ql:ln q=ln f+1-ln d
 rl:ln r<=ln f
 q0:∀n,n+ln d<=ln r->q.getD n 0=0
 qt:ln r<ln f->q.getD (ln f-ln d) 0≠0
def wR.start (a:lG f)(b:∀n,pl z (f.getD n 0)=f.getD n 0):wR z f d (List.replicate (ln f+1-ln d) 0) f:=by
 have g:∀n,(List.replicate (ln f+1-ln d) (0:Int)).getD n 0=0:=λn=>by
  by_cases h:n<ln f+1-ln d
  .rw[jK (by rw[aC];exact h),ce]
  .rw[jz (by rw[aC];lia)]
 refine⟨λn=>?_,b,a,λn=>?_,aC,aj _,λn _=>g n,λh=>absurd h (c9 _)⟩
 .have e:cm (List.replicate (ln f+1-ln d) 0) d n=0:=m9 λi _=>by rw[g,bJ]
  rw[e];have:(0:Int)+f.getD n 0-f.getD n 0=0:=by lia
  rw[this];exact aS z
 .rw[g,lU]
def wR.step {z:Int}{f d q r:Li}{c:Int}(I:wR z f d q r)(x:0<ln d)(h:ln d<=ln r)(g:pl z (c*jB d)=jB r)(o:pl z c=c):wR z f d (q.set (ln r-ln d) c) (vh z d r c)/\ln (vh z d r c)<ln r:=by
 have b:ln r-ln d<ln q:=by rw[I.ql];have:=I.rl;lia
 have h0:q.getD (ln r-ln d) 0=0:=I.q0 _ (by lia);have j:r≠[]:=λe=>by rw[e]at h;exact absurd h (by show ¬ln d<=0;lia)
 have t:jB r≠0:=I.rf j;have i:c≠0:=λe=>by rw[e,bJ,lU]at g;exact t g.symm
 have a:ln (vh z d r c)<ln r:=by
  have:ln (vh z d r c)<=ln r-1:=by
   refine m5 (tU _) λn m=>?_;rw[yP h,af (by lia)];by_cases k:n=ln r-1
   .subst k;have l:ln r-1-(ln r-ln d)=ln d-1:=by lia
    rw[l];show pl z (jB r-c*jB d)=0;rw[<- lU z];refine(qu z _ _).mpr ?_;have h1:=lR z (c*jB d);rw[g]at h1;rw[aJ];exact h1
   .rw[jz (xs:=r) (by lia),jz (xs:=d) (by lia),aQ,aJ,lU]
  lia
 refine⟨⟨λn=>?_,λn=>?_,tU _,λn=>?_,by rw[bn];exact I.ql,by have:=I.rl;lia,λn m=>?_,λ_=>?_⟩,a⟩
 .rw[Vu b h0,yP h];have e:=I.eq n;by_cases k:ln r-ln d<=n
  .rw[af k,af k];have p:=lR z (r.getD n 0-c*d.getD (n-(ln r-ln d)) 0);have s:=aU e p;generalize pl z (r.getD n 0-c*d.getD (n-(ln r-ln d)) 0)=u at s ⊢;generalize c*d.getD (n-(ln r-ln d)) 0=v at s ⊢;have q:cm q d n+v+u-f.getD n 0=cm q d n+r.getD n 0-f.getD n 0+(u-(r.getD n 0-v)):=by lia
   rw[q];exact s
  .rw[ae k,ae k,bC];exact e
 .rw[yP h];split
  .exact qQ z _
  .exact I.rr n
 .rw[rR _ _ _ _ b];split
  .exact o
  .exact I.qr n
 .rw[rR _ _ _ _ b,ae (by lia)];exact I.q0 n (by lia)
 .rw[rR _ _ _ _ b];split
  .exact i
  .have:=I.rl;exact I.qt (by lia)
def Gz (i:0<ln d)(hov:∀a c,pl z a=a->ov a (jB d)=some c->pl z (c*jB d)=a/\pl z c=c):∀(b:Nat) (q r:Li),wR z f d q r->ln r<b ->
  (∀Q R,QH z ov d b q r=some (Q,R)->wR z f d Q R/\ln R<ln d)/\(QH z ov d b q r=none->∃j g,wR z f d j g/\ln d<=ln g/\ov (jB g) (jB d)=none)
 |0,_,_,_,h=>by lia
 |n+1,q,r,I,h=>by
  unfold QH;by_cases c:ln r<ln d
  .rw[af c];refine⟨λQ R e=>?_,λe=>by cases e⟩;cases e;exact⟨I,c⟩
  .rw[ae c];cases o:ov (jB r) (jB d) with
   |none=>exact⟨(λQ R e=>by cases e),λ_=>⟨q,r,I,by lia,o⟩⟩
   |some x=>obtain⟨h1,h2⟩:=hov (jB r) x (I.rr _) o;obtain⟨J,k⟩:=I.step i (by lia) h1 h2;exact Gz i hov n _ _ J (by lia)
def zu (z:Int)(d r:List Int)(c:Int)(i:Nat)(a:List Int):Prop:=ln a=ln r/\∀n,a.getD n 0=if ln r-ln d<=n/\n-(ln r-ln d)<i then pl z (r.getD n 0-c*d.getD (n-(ln r-ln d)) 0) else r.getD n 0
def Mq (z:Int)(d r:Li)(c:Int):zu z d r c 0 r:=⟨rfl,λn=>by rw[ae (by lia)]⟩
def Rp (h:zu z d r c i row)(b:ln d<=ln r)(a:i<ln d):zu z d r c (i+1) (row.set (ln r-ln d+i) (pl z (row.getD (ln r-ln d+i) 0-c*d.getD i 0))):=by
 obtain⟨h1,h2⟩:=h;refine⟨by rw[bn];exact h1,λn=>?_⟩;rw[rR _ _ _ _ (by lia)];by_cases k:n=ln r-ln d+i
 .subst k;rw[af rfl,af (by lia),h2,ae (by lia),show ln r-ln d+i-(ln r-ln d)=i by lia]
 .rw[ae k,h2];by_cases q:ln r-ln d<=n/\n-(ln r-ln d)<i
  .rw[af q,af (by lia)]
  .rw[ae q,ae (by lia)]
def TY (h:zu z d r c (ln d) row)(a:ln d<=ln r):lq row=vh z d r c:=by
 unfold vh;refine J3 λn=>?_;rw[h.2 n];by_cases k:n<ln r
 .rw[jK (xs:=(List.range (ln r)).map _) (by rw[aa,ag];exact k),bi,bp];by_cases q:ln r-ln d<=n
  .rw[af ⟨q,by lia⟩,af q]
  .rw[ae (by lia),ae q]
 .rw[jz (xs:=(List.range (ln r)).map _) (by rw[aa,ag];lia),ae (by lia),jz (by lia)]
def j7 (z:Int)(f:Li):lG (Tz z f):=tU _
def nM (z:Int)(f:Li)(n:Nat):pl z ((Tz z f).getD n 0)=(Tz z f).getD n 0:=by rw[kh,qQ]
def vK (ns:Li)(h:0<ln ns):ns.getD (lD (ln ns) (-1)) 0=jB ns:=by
 have e:lD (ln ns) (-1)=ln ns-1:=by unfold lD;rw[ae (by lia)];lia
 rw[e];rfl
def tZ (f g:Nat->Int):∀N,sm N (λi=>f i+g i)=sm N f+sm N g
 |0=>rfl
 |N+1=>by show sm N (λi=>f i+g i)+(f N+g N)=sm N f+f N+(sm N g+g N);rw[tZ f g N];lia
def oA (l:Int)(f:Nat->Int):∀n,sm n (λi=>l*f i)=l*sm n f
 |0=>(aQ l).symm
 |n+1=>by show sm n (λi=>l*f i)+l*f n=l*(sm n f+f n);rw[oA l f n,fE]
def oK (o:Int)(q d:Li)(i:Nat):cm (o::q) d i=o*d.getD i 0+if i=0 then 0 else cm q d (i-1):=by
 unfold cm;rw[qK];have e:((o::q).getD 0 0:Int)=o:=rfl;rw[e,gC];congr 1;by_cases c:i=0
 .subst c;rfl
 .rw[ae c];obtain⟨k,rfl⟩:∃k,i=k+1:=⟨i-1,by lia⟩;refine jG λj h=>?_;have a:((o::q).getD (j+1) 0:Int)=q.getD j 0:=rfl;have b:k+1-(j+1)=k-j:=by lia
  have f:k+1-1-j=k-j:=by lia
  rw[a,b,f]
def lY (d:Li)(n:Nat):cm [] d n=0:=m9 λi _=>by rw[jz (a9 _),bJ]
def z8 (h:∀n,f.getD n 0=0)(n:Nat):cm f g n=0:=m9 λi _=>by rw[h i,bJ]
def xM (h:∀n,f.getD n 0=f'.getD n 0)(k:∀n,g.getD n 0=g'.getD n 0)(n:Nat):cm f g n=cm f' g' n:=jG λi _=>by rw[h,k]
def WY (f:∀i,a.getD i 0=o*g.getD i 0+if i=0 then 0 else u.getD (i-1) 0)(n:Nat):cm a h n=o*cm g h n+if n=0 then 0 else cm u h (n-1):=by
 unfold cm;have e:sm (n+1) (λi=>a.getD i 0*h.getD (n-i) 0)=sm (n+1) λi=>o*(g.getD i 0*h.getD (n-i) 0)+(if i=0 then 0 else u.getD (i-1) 0)*h.getD (n-i) 0:=jG λi _=>by rw[f,eS,bH]
 rw[e,tZ,oA];congr 1;rw[qK];have b:(if (0:Nat)=0 then(0:Int) else u.getD (0-1) 0)*h.getD (n-0) 0=0:=by rw[af rfl,bJ]
 rw[b,cD];by_cases c:n=0
 .subst c;rfl
 .rw[ae c];obtain⟨k,rfl⟩:∃k,n=k+1:=⟨n-1,by lia⟩;refine jG λj _=>?_;have d:k+1-(j+1)=k+1-1-j:=by lia
  rw[ae (by lia),d];rfl
def m6 (g h:Li):∀(f:Li) (n:Nat),cm (jy f g) h n=cm f (jy g h) n
 |[],n=>by rw[lY,z8];intro i;rw[jx,lY]
 |o::q,n=>by
  rw[oK,WY (u:=jy q g) (g:=g) (o:=o) (λi=>by
   rw[jx,oK];congr 1;by_cases c:i=0
   .rw[af c,af c]
   .rw[ae c,ae c,jx])]
  rw[jx];congr 1;by_cases c:n=0
  .rw[af c,af c]
  .rw[ae c,ae c,m6 g h q]
def mu (f g:List Int):List Int:=lq (jy f g)
def lX (p:Int)(d a b:List Int):Prop:=∃Q:List Int,∀n,p ∣ a.getD n 0-b.getD n 0-cm Q d n
def lX.refl (p:Int)(d a:Li):lX p d a a:=⟨[],λn=>by rw[lY,ck];exact aS p⟩
def lX.of (h:∀n,p ∣ a.getD n 0-b.getD n 0):lX p d a b:=⟨[],λn=>by rw[lY,aJ];exact h n⟩
def qF (a b d:Li)(n:Nat):cm (kJ a b) d n=cm a d n+cm b d n:=by unfold cm;rw[<- tZ];exact jG λi _=>by rw[jJ,eS]
def aaS (a d:Li)(n:Nat):cm (a.map λx=>-x) d n = -cm a d n:=by have h:=oA (-1) (λi=>a.getD i 0*d.getD (n-i) 0) (n+1);unfold cm;rw[fk]at h;rw[<- h];exact jG λi _=>by rw[mK _ (by decide),fk,iZ]
def lX.symm (h:lX p d a b):lX p d b a:=by
 obtain⟨Q,h⟩:=h;refine⟨Q.map λx=>-x,λn=>?_⟩;rw[aaS];have e:b.getD n 0-a.getD n 0 - -cm Q d n = -(a.getD n 0-b.getD n 0-cm Q d n):=by lia
 rw[e];exact aV.mpr (h n)
def lX.trans (h:lX p d a b)(k:lX p d b c):lX p d a c:=by
 obtain⟨Q,h⟩:=h;obtain⟨S,k⟩:=k;refine⟨kJ Q S,λn=>?_⟩;rw[qF];have e:a.getD n 0-c.getD n 0-(cm Q d n+cm S d n)=(a.getD n 0-b.getD n 0-cm Q d n)+(b.getD n 0-c.getD n 0-cm S d n):=by lia
 rw[e];exact aU (h n) (k n)
def su (h:∀n,p ∣ a.getD n 0-b.getD n 0)(n:Nat):p ∣ cm a c n-cm b c n:=by rw[<- Mv];exact oG λi _=>by rw[qP];exact be (h i)
def lX.mul (h:lX p d a b)(c:Li):lX p d (jy a c) (jy b c):=by
 obtain⟨Q,h⟩:=h;refine⟨jy Q c,λn=>?_⟩;have k:=su (p:=p) (a:=Ea a b) (b:=jy Q d) (c:=c) (λi=>by rw[qP,jx];exact h i) n;rw[Mv]at k;have e:cm (jy Q c) d n=cm (jy Q d) c n:=by rw[m6,m6];exact xM (λ_=>rfl) (λi=>by rw[jx,jx,jN]) n
 rw[jx,jx,e];exact k
def lX.comm (p:Int)(d a b:Li):lX p d (jy a b) (jy b a):=.of λn=>by rw[jx,jx,jN,ck];exact aS p
def lX.Hk (h:lX p d a b)(k:lX p d c e):lX p d (jy a c) (jy b e):=
 (h.mul c).trans (((lX.comm p d b c).trans (k.mul b)).trans (lX.comm p d e b))
def lX.rA (p:Int)(d a b c:Li):lX p d (jy (jy a b) c) (jy a (jy b c)):=.of λn=>by rw[jx,jx,m6,ck];exact aS p
def lX.Tz (p:Int)(d a:Li):lX p d a (FM.Tz p a):=.of λn=>by
 rw[kh];have:=lR p (a.getD n 0);have e:a.getD n 0-pl p (a.getD n 0) = -(pl p (a.getD n 0)-a.getD n 0):=by lia
 rw[e];exact aV.mpr this
def lX.one (p:Int)(d a:Li):lX p d (jy a [1]) a:=.of λn=>by
 rw[jx,jN,oK];by_cases c:n=0
 .rw[af c,cj,bC,ck];exact aS p
 .rw[ae c,lY,cj,bC,ck];exact aS p
structure Oo (p:Int)(d r:List Int):Prop where
 form:lG r
 red:∀n,pl p (r.getD n 0)=r.getD n 0
 len:ln r<ln d
def tK (nz:∀x,p ∣ x*jB d->p ∣ x)(a:Oo p d r)(b:Oo p d s)(h:lX p d r s):r=s:=by
 obtain⟨Q,h⟩:=h;have f:0<ln d:=aO (a9 _) a.len;have l:=a.len;have j:=b.len;have top:=abN (z:=p) (E:=Q) (S:=0) f nz λn g=>by
  have:=h n;rw[jz (xs:=r) (by lia),jz (xs:=s) (by lia)]at this;have e:(0:Int)-0-cm Q d n = -cm Q d n:=by lia
  rw[e]at this;exact aV.mp this
 refine oh a.form b.form λn=>sH (a.red n) (b.red n) ?_;have k:=h n;have c:p ∣ cm Q d n:=oG λi _=>be (top i (a9 _));have e:r.getD n 0-s.getD n 0=(r.getD n 0-s.getD n 0-cm Q d n)+cm Q d n:=by lia
 rw[e];exact aU k c
open Classical in
def rm (p:Int)(d a:List Int):List Int:=if h:∃r,Oo p d r/\lX p d a r then Classical.choose h else[]
def Qp (nz:∀x,p ∣ x*jB d->p ∣ x)(c:Oo p d r)(h:lX p d a r):rm p d a=r:=by
 have b:∃r,Oo p d r/\lX p d a r:=⟨r,c,h⟩;have e:rm p d a=Classical.choose b:=by unfold rm;rw[je b]
 obtain⟨h1,h2⟩:=fQ b;rw[e];exact tK nz h1 c (h2.symm.trans h)
def pw (a:List Int):Nat->List Int
 |0=>[1]
 |k+1=>jy (pw a k) a
def pw_mod (h:lX p d a b):∀k,lX p d (pw a k) (pw b k)
 |0=>.refl p d [1]
 |k+1=>(pw_mod h k).Hk h
def pw_sq (p:Int)(d a:Li):∀k,lX p d (pw (jy a a) k) (pw a (2*k))
 |0=>.refl p d [1]
 |k+1=>by
  have e:2*(k+1)=2*k+1+1:=by lia
  rw[e];exact((pw_sq p d a k).mul _).trans (lX.rA p d _ a a).symm
def pw_even {p:Int}{d P S s:Li}{h:Nat}(a:lX p d s (jy S S)):lX p d (jy P (pw s h)) (jy P (pw S (2*h))):=
 (lX.refl p d P).Hk ((pw_mod a h).trans (pw_sq p d S h))
def abd:Int->List Int->Prop:=λz n=>match n with
 |[a,b]=>2<=z/\z.natAbs<2^9000/\a.natAbs<2^9000
 |_=>False
def Ja (C:Addr):Int->List Int->Int ⊕ Addr:=λz n=>match n with
 |[a,b]=>if Int.gcd b z=1 then .inl (pl z (a*tu b z)) else .inr C
 |_=>.inr C
def Xu (g:Int.gcd y z=1):Ja C z [x,y]=.inl (pl z (x*tu y z)):=af g
def acY (g:¬Int.gcd y z=1):Ja C z [x,y]=.inr C:=ae g
def Bj:KME P w K mg base 2 (KR U) "over" 2 abd (Ja cNO):=by
 refine⟨λH a z ka=>?_⟩;obtain⟨q0,dx,fs,e,hz,hm⟩:=id ka;obtain⟨f,fd,O,b,m1⟩:=T.Jc;refine⟨U,dx,fs,["self","a","b"],e,hm "over" (by decide +kernel),f,fd,?_,b,m1,T.rG⟩;obtain⟨oc,od,kV,doc,pm,an,Z,ct,osl,rfl,lk,D⟩:=O.ex;refine fn_of lk D Hq (λvs H Q E h=>?_) λA J s H vs Q E L h=>?_
 .obtain⟨M,F,rfl,_⟩:=h;show ln (M.map V.int)+1=3;rw[aa,F]
 obtain⟨M,F,rfl,j,d,k,ke⟩:=h;obtain⟨x,y,rfl⟩:=acE F;obtain⟨i,h9,hx⟩:=d;obtain⟨_,r,u,e2,G,_⟩:=id j;obtain⟨C3,t,C,ps3,e3,l3,R⟩:=(p7 (P:=P) (w:=w) (base:=base) T).ex H a z j;obtain⟨f3,fd3,N,S,I,Y⟩:=R.ex;refine⟨_,(pss_one (ps_ret (pe_meth (pv 0) Y I N L S .nil pass0 (pa_cons (pe_op Hj (nJ 1) (Ut (QK T) abB L (pa_cons (nJ 2) (pa_cons (pe_fld (pv 0) rfl) pa_nil)))) pa_nil)))),?_⟩;refine⟨_,rfl,a,t,C,rfl,e3,l3,rfl,rfl,_,rfl,a,U,r,u,_,rfl,e2,T.rG,T.pX,G,[.int y,.int z],λ_=>false,(λ_ z=>by cases z),⟨_,_,rfl,rfl,_,_,rfl,rfl,rfl⟩,⟨y,z,rfl,i,h9⟩,λp d v o l q=>?_,λer c o l=>?_⟩
 .have d:HF cNO [.int y,.int z]=.val p:=d;by_cases g:Int.gcd y z=1
  .rw[show HF cNO [.int y,.int z]=.val (.int (tu y z)) from af g]at d;cases d;have q:v=.int (tu y z):=q;subst q;obtain⟨t0,t1,_⟩:=N8 i (NQ i g);have tb:(tu y z).natAbs<2^9000:=by
    generalize 2^9000=B at *
    lia
   refine⟨x,tu y z,rfl,rfl,qx (n:=9000) (m:=9000) hx tb,[x*tu y z],rfl,rfl,j.same l,tJ,?_⟩;exact k _ (Xu g) o l
  .rw[show HF cNO [.int y,.int z]=.err cNO from ae g]at d;cases d
 .have c:HF cNO [.int y,.int z]=.err er:=c;by_cases g:Int.gcd y z=1
  .rw[show HF cNO [.int y,.int z]=.val (.int (tu y z)) from af g]at c;cases c
  .rw[show HF cNO [.int y,.int z]=.err cNO from ae g]at c;cases c;exact ke cNO (acY g) o l
def RP (z a b:Int):Option Int:=some (pl z (a*tu b z))
def hov (d:2<=z)(g:Int.gcd b z=1)(a c:Int)(i:pl z a=a)(h:RP z a b=some c):pl z (c*b)=a/\pl z c=c:=by
 have e:=aE h;subst e;obtain⟨_,_,t⟩:=N8 d (NQ d g);refine⟨?_,qQ _ _⟩;rw[Bg];have f:pl z (a*tu b z*b)=pl z (a*pl z (tu b z*b)):=by rw[Aq,bH]
 rw[f,lJ (n:=tu b z*b) (by lia),t,bG,i]
def dvT (z:Int)(f d:List Int):Option (List Int×List Int):=QH z (RP z) d (ln f+1) (List.replicate (ln f+1-ln d) 0) f
def sS (z:Int)(f d:List Int):PV:=match dvT z f d with
 |none=>.non
 |some p=>.tup [.ints p.1,.ints p.2]
structure Em (p:Int)(g:List Int):Prop where
 pr:jR p
 len:ln g<=200
 ne:Tz p g≠[]
 gcd:Int.gcd (jB (Tz p g)) p=1
def Em.nz (h:Em p g)(x:Int)(c:p ∣ x*jB (Tz p g)):p ∣ x:=by
 obtain⟨t,_,_,b⟩:=NQ h.pr.1 h.gcd;have h1:=gq b;have h2:p ∣ x*jB (Tz p g)*t:=be c;have a:p ∣ x*(1-t*jB (Tz p g)):=aL h1;have e:x=x*jB (Tz p g)*t+x*(1-t*jB (Tz p g)):=by rw[cr,bG,cg t,<- bH];lia
 rw[e];exact aU h2 a
def mU (h:Em p g)(f:Li):∃q,dvT p (Tz p f) (Tz p g)=some (q,rm p (Tz p g) f)/\Oo p (Tz p g) (rm p (Tz p g) f)/\lX p (Tz p g) f (rm p (Tz p g) f):=by
 have s:=lP h.ne;have u:2<=p:=h.pr.1;obtain⟨h1,h2⟩:=Gz (z:=p) (ov:=RP p) (f:=Tz p f) (d:=Tz p g) s (λa c l m=>hov u h.gcd a c l m) (ln (Tz p f)+1) _ _ (wR.start (j7 p f) (nM p f)) (cC _);cases o:QH p (RP p) (Tz p g) (ln (Tz p f)+1) (List.replicate (ln (Tz p f)+1-ln (Tz p g)) 0) (Tz p f) with
 |none=>obtain⟨_,_,_,_,z⟩:=h2 o;cases z
 |some x=>
  obtain⟨q,r⟩:=x;obtain⟨I,t⟩:=h1 q r o;have i:Oo p (Tz p g) r:=⟨I.rf,I.rr,t⟩;have b:lX p (Tz p g) f r:=(lX.Tz p (Tz p g) f).trans ⟨q,λn=>by
   have k:=I.eq n;have e:(Tz p f).getD n 0-r.getD n 0-cm q (Tz p g) n = -(cm q (Tz p g) n+r.getD n 0-(Tz p f).getD n 0):=by lia
   rw[e];exact aV.mpr k⟩
  have j:=Qp h.nz i b;rw[j];exact⟨q,o,i,b⟩
def Tr (h:Em p g)(e:lX p (Tz p g) a b):rm p (Tz p g) a=rm p (Tz p g) b:=by obtain⟨_,_,h1,h2⟩:=mU h b;exact Qp h.nz h1 (e.trans h2)
def XX (h:ln d<=ln r):QH z (RP z) d (n+1) q r=QH z (RP z) d n (q.set (ln r-ln d) (pl z (jB r*tu (jB d) z))) (vh z d r (pl z (jB r*tu (jB d) z))):=by
 conv=>lhs;unfold QH
 rw[ae (by lia)];rfl
def W6 (h:ln r<ln d):QH z (RP z) d (n+1) q r=some (q,r):=by unfold QH;rw[af h]
def wD (a:jR p)(h:pl p m=m):0<=m/\m<9973:=by have:=BW (z:=p) (n:=m) (by have:=a.1;lia);have:=a.2.1;lia
def nY:Ok P w K mg base 3 "divided" ["kind","f","g"] (wV K (ph U) (λas=>∃p f g,as=[.ob 0 p,.ints f,.ints g]/\Em p g/\ln f<=200) λas=>match as with|[.ob 0 p,.ints f,.ints g]=>sS p (Tz p f) (Tz p g)|_=>.non):=by
 refine uK T.Rz n6 (λ_ ⟨a,b,c,h,_⟩=>h▸rfl) (λf cdv A outer s H E R=>⟨_,(jr (ue (i:=3) n6.nd rfl k4 (pD (kj T) R (jq (xv 0) (jq (xl 1) ju)))) (jr (jE (i:=4) n6.nd rfl k4 (jM (pD (kj T) R (jq (xv 0) (jq (xl 2) ju))))) (jr (lF (oY (Am 4)) (jw vJ) j6) (jr (ue (i:=5) n6.nd rfl k4 (rJ (kZ (jq jt ju)) (lO (lN (jU 3 T.jQ) (jU 4 T.jQ)) jt) (λ_=>rfl))) (jr (mJ aB (ZG (jU 3 T.jQ) (jU 4 T.jQ)) (jr (jH (i:=6) n6.nd rfl k4 (lN (jU 3 T.jQ) (jU 4 T.jQ))) (jr (jH (i:=7) n6.nd rfl k4 (sU (aax (G4 0 (Bj T) R (jq (lW 3 (uc jt) (λ_ _=>rfl)) (jq (lW 4 (uc jt) (λ_ _=>rfl)) ju)))))) (jr (tG 5 (xn 6) (xn 7)) (jr (yq (k:=8) (j:=9) aB rfl (by rfl) T.mO (xl 4) (pg_tup rfl (pgs_cons (pg_name (i:=8) n6.nd rfl k4) (pgs_cons (pg_name (i:=9) n6.nd rfl k4) pgs_nil))) (jw (tG 3 (lO (xn 6) (xn 8)) (qR 0 (p7 T) R (jq (lN (lW 3 (lO (xn 6) (xn 8)) (λ_ _=>rfl)) (nW (xn 7) (xn 9))) ju))))) (jw (Qh 3 (u6 T) R))))))) (lB 3 (lB 5 (jw (jD (oZ (jq (xl 5) (jq (xl 3) ju)))))))))))),λas hp=>?_⟩)
 obtain⟨z,f,g,rfl,ok,hfl⟩:=hp;have hgl:=ok.len;have p2:2<=z:=ok.pr.1;have h9:z.natAbs<2^9000:=by
  have:z.natAbs<=2^14:=by have:=ok.pr.2.1;lia
  exact aO this (a7 (by decide) (by decide))
 refine⟨⟨⟨rfl,rfl,tJ⟩,z,f,rfl,by lia⟩,λm t=>?_⟩;have t:m=Tz z f:=t;refine⟨⟨⟨rfl,rfl,tJ⟩,z,g,rfl,by lia⟩,λd G=>?_⟩;have G:d=Tz z g:=G;have lf:ln m<=200:=by rw[t];exact aA (lA _ _) hfl
 have lg:ln d<=200:=by rw[G];exact aA (lA _ _) hgl
 have ff:lG m:=by rw[t];exact j7 z f
 have fr:∀n,pl z (m.getD n 0)=m.getD n 0:=by rw[t];exact nM z f
 have dr:∀n,pl z (d.getD n 0)=d.getD n 0:=by rw[G];exact nM z g
 have M:¬d=[]:=by rw[G];exact ok.ne
 have gc:Int.gcd (jB d) z=1:=by rw[G];exact ok.gcd
 have hd:=lP M;have Q:∀q r,dvT z m d=some (q,r)->PV.tup [.ints q,.ints r]=sS z (Tz z f) (Tz z g):=λq r h=>by rw[<- t,<- G];unfold sS;rw[h]
 have pr:=ok.pr;clear t G ok;refine jL (Z':=[.fr (.ob 0 z),k7 f,k7 g,.ow (.ints m),k7 d,.un,.un,.un,.un,.un]) rfl ?_;refine⟨.inl rfl,λq=>?_,λ_=>?_⟩
 .have q:¬¬d=[]:=q;exact q M
 refine⟨⟨⟨⟨tJ,tJ⟩,tJ⟩,⟨⟨.inr (.inl rfl),.inl rfl⟩,tJ⟩,?_,?_⟩,λq0 y=>?_⟩
 .show -(2:Int)^63<=(ln m:Int)-(ln d:Int)+1;lia
 .show((ln m:Int)-(ln d:Int)+1).toNat<=1000;lia
 have y:q0=List.replicate ((ln m:Int)-(ln d:Int)+1).toNat 0:=y;have Y:((ln m:Int)-(ln d:Int)+1).toNat=ln m+1-ln d:=by lia
 rw[Y]at y;refine⟨λZ=>∃q r v6 v7 D F e,Z=[.fr (.ob 0 z),k7 f,k7 g,.ow (.ints r),k7 d,.ow (.ints q),v6,v7,D,F]/\wR z m d q r/\ln r<e/\QH z (RP z) d e q r=dvT z m d,λZ=>ln (getL Z 3),⟨q0,m,.un,.un,.un,.un,ln m+1,rfl,by rw[y];exact wR.start ff fr,cC _,by rw[y];rfl⟩,?_⟩;rintro Z ⟨q,r,v6,v7,D,F,e,rfl,I,hfu,B⟩;refine⟨⟨.inr (.inl rfl),.inl rfl⟩,λk=>?_,λk=>?_⟩
 .have k:(ln d:Int)<=(ln r:Int):=k;have hl:ln d<=ln r:=by lia
  have rl:=I.rl;obtain⟨e,rfl⟩:∃n,e=n+1:=⟨e-1,by lia⟩;rw[XX hl]at B;refine⟨⟨.inr (.inl rfl),.inl rfl⟩,λO u=>?_⟩;have u:O=(ln r:Int)-(ln d:Int):=u;have u:O=((ln r-ln d:Nat):Int):=by lia
  subst u;have lr:r.getD (lD (ln r) (-1)) 0=jB r:=vK r (by lia);have ld:d.getD (lD (ln d) (-1)) 0=jB d:=vK d hd;have N:=Xu (C:=cNO) (z:=z) (x:=jB r) gc;have rs:=wD pr (I.rr (ln r-1));have r9:(jB r).natAbs<2^9000:=by
   have:(jB r).natAbs<=2^14:=by unfold jB;lia
   exact aO this (a7 (by decide) (by decide))
  have S:Ja cNO z [r.getD (lD (ln r) (-1)) 0,d.getD (lD (ln d) (-1)) 0]=.inl (pl z (jB r*tu (jB d) z)):=by rw[lr,ld];exact N
  obtain⟨c,hc⟩:∃c,c=pl z (jB r*tu (jB d) z):=⟨_,rfl⟩;rw[<- hc]at S B;refine⟨⟨⟨⟨rfl,⟨⟨.inr (.inl rfl),tJ,by show -(ln r:Int) <= -1;lia,by show(-1:Int)<(ln r:Int);lia⟩,⟨.inl rfl,tJ,by show -(ln d:Int) <= -1;lia,by show(-1:Int)<(ln d:Int);lia⟩,tJ⟩,tJ,?_⟩,?_⟩,?_⟩,λo v=>?_⟩
  .show abd z [r.getD (lD (ln r) (-1)) 0,d.getD (lD (ln d) (-1)) 0];rw[lr];exact⟨p2,h9,r9⟩
  .show(yJ (Ja cNO z [r.getD (lD (ln r) (-1)) 0,d.getD (lD (ln d) (-1)) 0])).isV;rw[S];exact tJ
  .show(yJ (Ja cNO z [r.getD (lD (ln r) (-1)) 0,d.getD (lD (ln d) (-1)) 0])).get=.int (Dz (yJ (Ja cNO z [r.getD (lD (ln r) (-1)) 0,d.getD (lD (ln d) (-1)) 0])).get);rw[S];rfl
  have v:o=Dz (yJ (Ja cNO z [r.getD (lD (ln r) (-1)) 0,d.getD (lD (ln d) (-1)) 0])).get:=v;rw[S]at v;have v:o=c:=v;subst v;obtain⟨h1,h2⟩:=hov p2 gc _ _ (I.rr (ln r-1)) (show RP z (jB r) (jB d)=some o by rw[hc];rfl);obtain⟨J,hlt⟩:=I.step hd hl h1 h2;have cs:=wD pr h2;have ql:=I.ql;refine jL (Z':=[.fr (.ob 0 z),k7 f,k7 g,.ow (.ints r),k7 d,.ow (.ints q),k6 ((ln r-ln d:Nat):Int),k6 o,D,F]) rfl ?_;have ix5:lD (ln q) ((ln r-ln d:Nat):Int)=ln r-ln d:=by unfold lD;rw[af (by lia)];lia
  refine⟨rfl,rfl,rfl,⟨by show -(ln q:Int)<=((ln r-ln d:Nat):Int);lia,by show((ln r-ln d:Nat):Int)<(ln q:Int);lia⟩,?_⟩;refine jL (Z':=[.fr (.ob 0 z),k7 f,k7 g,.ow (.ints r),k7 d,.ow (.ints (q.set (ln r-ln d) o)),k6 ((ln r-ln d:Nat):Int),k6 o,D,F]) (by rw[<- ix5];rfl) ?_;refine⟨rfl,λi Z=>∃l D F,Z=[.fr (.ob 0 z),k7 f,k7 g,.ow (.ints l),k7 d,.ow (.ints (q.set (ln r-ln d) o)),k6 ((ln r-ln d:Nat):Int),k6 o,D,F]/\zu z d r o i l,⟨r,D,F,rfl,Mq z d r o⟩,?_,?_⟩
  .rintro i n Z hn ⟨l,D,F,rfl,L⟩;have hn:d[i]?=some n:=hn;have hi:=(ao.mp hn).1;have Y:d.getD i 0=n:=getD_at' hn;have l1:-(ln l:Int)<=((ln r-ln d:Nat):Int)+(i:Int):=by lia
   have l2:((ln r-ln d:Nat):Int)+(i:Int)<(ln l:Int):=by rw[L.1];lia
   have ix:lD (ln l) (((ln r-ln d:Nat):Int)+(i:Int))=ln r-ln d+i:=by unfold lD;rw[af (by lia)];lia
   have ns:=wD pr (dr i);rw[Y]at ns;refine⟨⟨rfl,⟨⟨⟨.inr (.inl rfl),⟨rfl,rfl⟩,l1,l2⟩,rfl,rfl,t6 ⟨by show -(2:Int)^64<n;lia,by show n<(2:Int)^64;lia⟩⟩,tJ⟩,tJ,tJ⟩,rfl,⟨rfl,rfl⟩,⟨l1,l2⟩,l.set (ln r-ln d+i) (pl z (l.getD (ln r-ln d+i) 0-o * n)),k6 i,k6 n,?_,?_⟩
   .rw[<- ix];rfl
   .have:=Rp L hl hi;rw[Y]at this;exact this
  .rintro Z ⟨l,D,F,rfl,L⟩;have L:zu z d r o (ln d) l:=L;have et:=TY L hl;refine⟨rfl,tJ,⟨q.set (ln r-ln d) o,vh z d r o,k6 ((ln r-ln d:Nat):Int),k6 o,D,F,e,?_,J,by lia,B⟩,?_⟩
   .rw[<- et];rfl
   .show ln (lq l)<ln r;rw[et];exact hlt
 .have k:¬(ln d:Int)<=(ln r:Int):=k;obtain⟨e,rfl⟩:∃n,e=n+1:=⟨e-1,by lia⟩;rw[W6 (by lia)]at B;exact⟨⟨rfl,rfl,tJ⟩,Q q r B.symm⟩
def Bd (r:List Int):Prop:=∀m∈r,m.natAbs<2^9000
def yl {m:Int}(h:0<=m/\m<9973):m.natAbs<2^9000:=by
 have:m.natAbs<=2^14:=by lia
 exact aO this (a7 (by decide) (by decide))
def Oo.bd {p:Int}{d r:Li}(b:jR p)(h:Oo p d r):Bd r:=λm a=>by obtain⟨n,_,e⟩:=FM.mem_getD a;have:=wD b (h.red n);rw[e]at this;exact yl this
def Hd (h:Em p g)(f:Li):∃q,sS p (Tz p f) (Tz p g)=.tup [.ints q,.ints (rm p (Tz p g) f)]:=by obtain⟨q,e,_⟩:=mU h f;exact⟨q,by unfold sS;rw[e]⟩
def V1 (h:jR p):0<=p/\p<((2^9000:Nat):Int):=by
 have h1:=h.1;have h2:=h.2.1;have a:(2:Nat)^14<=2^9000:=cS (by decide) (by decide);generalize (2:Nat)^9000=N at *
 lia
def F02:List PV->Li|[.ob 0 p,.ints a,.ints b,.ints g]=>rm p (Tz p g) (jy a b)|_=>[]
def uV:Ok P w K mg base 4 "times_by" ["kind","one","other","g"] (Sv K (ph U) (λas=>∃p a b g,as=[.ob 0 p,.ints a,.ints b,.ints g]/\Em p g/\ln a+ln b<=200/\Bd a/\Bd b) F02):=by
 refine uK T.LR Jw (λ_ ⟨a,b,c,d,h,_⟩=>h▸rfl) (λf j A o s H E i=>⟨_,(jw (jD (xl_of (jC (xc (nY T) i (jq (xv 0) (jq (jM (pD (yc T) i (jq (xv 0) (jq (xl 1) (jq (xl 2) ju))))) (jq (xl 3) ju)))) jt (λ_ _=>rfl))))),λas r=>?_⟩);obtain⟨p,a,b,g,rfl,ok,n,l,m⟩:=r;obtain⟨t,u⟩:=V1 ok.pr;have k:ln (Tz p (jy (Tz p a) (Tz p b)))<=200:=by rw[KJ];refine aA (lA _ _) ?_;unfold jy;rw[aa,ag];exact n
 obtain⟨q,e⟩:=Hd ok (Tz p (jy (Tz p a) (Tz p b)));refine⟨⟨⟨⟨⟨rfl,⟨⟨rfl,rfl,rfl,tJ⟩,p,a,b,rfl,t,u,by lia,l,m⟩,rfl,tJ⟩,p,_,g,rfl,ok,k⟩,tJ,?_⟩,?_⟩,?_⟩
 .show nF (sS p (Tz p (Tz p (jy (Tz p a) (Tz p b)))) (Tz p g)) 1;rw[e];exact⟨by show(-2:Int)<=1;decide,by show(1:Int)<2;decide⟩
 .show m7 (sS p (Tz p (Tz p (jy (Tz p a) (Tz p b)))) (Tz p g)) 1=.ints (kW (m7 (sS p (Tz p (Tz p (jy (Tz p a) (Tz p b)))) (Tz p g)) 1));rw[e];rfl
 .show PV.ints (kW (m7 (sS p (Tz p (Tz p (jy (Tz p a) (Tz p b)))) (Tz p g)) 1))=PV.ints (rm p (Tz p g) (jy a b));rw[e];show PV.ints (rm p (Tz p g) (Tz p (jy (Tz p a) (Tz p b))))=PV.ints (rm p (Tz p g) (jy a b));rw[KJ,Tr ok (lX.Tz p (Tz p g) (jy a b)).symm]
def pw_odd1 {p:Int}{d P S a:Li}(h:Nat)(b:lX p d a (jy P S)):lX p d (jy a (pw S (2*h))) (jy P (pw S (2*h+1))):=by refine(b.mul _).trans ((lX.rA p d _ _ _).trans ?_);refine(lX.comm p d _ _).trans (lX.trans ?_ (lX.comm p d _ _));exact(lX.comm p d S (pw S (2*h))).mul P
def F03:List PV->Li|[.ob 0 p,.ints f,.int m,.ints g]=>rm p (Tz p g) (pw f m.toNat)|_=>[]
def Fq:Ok P w K mg base 5 "raised" ["kind","f","many","g"] (Sv K (ph U) (λas=>∃p f,∃m:Nat,∃g,as=[.ob 0 p,.ints f,.int (m:Int),.ints g]/\Em p g/\ln f<=200/\ln (Tz p g)<=100) F03):=by
 refine uK T.Ss pU (λ_ ⟨a,b,c,d,h,_⟩=>h▸rfl) (λf cdv A outer s H E G=>⟨_,(jr (jE (i:=4) pU.nd rfl k4 (xl_of (jC (xc (nY T) G (jq (xv 0) (jq (jM (kZ (jq jt ju))) (jq (xl 3) ju)))) jt (λ_ _=>rfl)))) (jr (jE (i:=5) pU.nd rfl k4 (xl_of (jC (xc (nY T) G (jq (xv 0) (jq (xl 1) (jq (xl 3) ju)))) jt (λ_ _=>rfl)))) (jr (jH (i:=6) pU.nd rfl k4 (xn 2)) (jr (mJ aB (uM (xn 6) jt) (uU (lF (vZ (lV (xn 6) jt) jt) (jw (jE (i:=4) pU.nd rfl k4 (xcL (uV T) G (jq (xv 0) (jq (xl 4) (jq (xl 5) (jq (xl 3) ju))))))) j6) (jr (jE (i:=5) pU.nd rfl k4 (xcL (uV T) G (jq (xv 0) (jq (xl 5) (jq (xl 5) (jq (xl 3) ju)))))) (jw (Aj (i:=6) pU.nd rfl k4 jt iop_fdiv))))) (jw (jD (xl 4))))))),λas hp=>?_⟩)
 obtain⟨p,f,m,g,rfl,ok,hl,hd⟩:=hp;have v:ln ([1]:List Int)<=200:=by decide
 have item:∀(x:List Int) (q:List Int),sS p (Tz p x) (Tz p g)=.tup [.ints q,.ints (rm p (Tz p g) x)]->nF (sS p (Tz p x) (Tz p g)) 1/\m7 (sS p (Tz p x) (Tz p g)) 1=.ints (kW (m7 (sS p (Tz p x) (Tz p g)) 1))/\kW (m7 (sS p (Tz p x) (Tz p g)) 1)=rm p (Tz p g) x:=λx q e=>by rw[e];exact⟨⟨by show(-2:Int)<=1;decide,by show(1:Int)<2;decide⟩,rfl,rfl⟩
 obtain⟨q1,e1⟩:=Hd ok [1];obtain⟨q2,e2⟩:=Hd ok f;obtain⟨a1,a2,a3⟩:=item _ _ e1;obtain⟨b1,b2,b3⟩:=item _ _ e2;refine⟨⟨⟨⟨⟨rfl,⟨⟨tJ,tJ⟩,tJ⟩,rfl,tJ⟩,p,[1],g,rfl,ok,v⟩,tJ,a1⟩,a2⟩,λI r=>?_⟩;have r:I=kW (m7 (sS p (Tz p [1]) (Tz p g)) 1):=r;rw[a3]at r;refine⟨⟨⟨⟨⟨rfl,rfl,rfl,tJ⟩,p,f,g,rfl,ok,hl⟩,tJ,b1⟩,b2⟩,λJ u=>?_⟩;have u:J=kW (m7 (sS p (Tz p f) (Tz p g)) 1):=u;rw[b3]at u;refine⟨rfl,λl0 z=>?_⟩;have z:l0=(m:Int):=z;refine jL (Z':=[.fr (.ob 0 p),k7 f,k6 (m:Int),k7 g,k7 I,k7 J,k6 l0]) rfl ?_;obtain⟨_,_,B,hP⟩:=mU ok [1];obtain⟨_,_,D,hS⟩:=mU ok f;rw[<- r]at B hP;rw[<- u]at D hS;refine⟨λZ=>∃(P S:List Int) (L:Nat),Z=[.fr (.ob 0 p),k7 f,k6 (m:Int),k7 g,k7 P,k7 S,k6 (L:Int)]/\Oo p (Tz p g) P/\Oo p (Tz p g) S/\lX p (Tz p g) (jy P (pw S L)) (pw f m),λZ=>(wK Z 6).toNat,⟨I,J,m,by rw[z],B,D,?_⟩,?_⟩
 .refine(hP.symm.Hk (pw_mod hS.symm m)).trans ((lX.comm p _ _ _).trans (lX.one p _ _))
 rintro Z ⟨y,S,L,rfl,B,D,N⟩;have lS:=D.len;have lP:=B.len;have M:=D.bd ok.pr;have bP:=B.bd ok.pr;refine⟨⟨rfl,tJ⟩,λk=>?_,λk=>?_⟩
 .have k:(L:Int) > 0:=k;refine⟨λZ=>∃n,Z=[.fr (.ob 0 p),k7 f,k6 (m:Int),k7 g,k7 n,k7 S,k6 (L:Int)]/\Oo p (Tz p g) n/\lX p (Tz p g) (jy n (pw S (2*(L / 2)))) (pw f m),⟨⟨⟨rfl,tJ,by decide⟩,tJ⟩,λo=>?_,λo=>?_⟩,?_⟩
  .have o:(L:Int) % 2=1:=o;refine⟨⟨⟨rfl,rfl,rfl,rfl,tJ⟩,p,y,S,g,rfl,ok,by lia,bP,M⟩,λn j=>⟨n,rfl,?_,?_⟩⟩
   .have j:n=rm p (Tz p g) (jy y S):=j;rw[j];exact(mU ok (jy y S)).choose_spec.2.1
   .have j:n=rm p (Tz p g) (jy y S):=j;have h1:lX p (Tz p g) n (jy y S):=by rw[j];exact(mU ok (jy y S)).choose_spec.2.2.symm
    have e:L=2*(L / 2)+1:=by lia
    refine(pw_odd1 (L / 2) h1).trans ?_;rw[<- e];exact N
  .have o:¬(L:Int) % 2=1:=o;refine⟨y,rfl,B,?_⟩;have e:2*(L / 2)=L:=by lia
   rw[e];exact N
  rintro Z ⟨n,rfl,R,O⟩;refine⟨⟨⟨rfl,rfl,rfl,rfl,tJ⟩,p,S,S,g,rfl,ok,by lia,M,M⟩,λF t=>?_⟩;have t:F=rm p (Tz p g) (jy S S):=t;have Y:Oo p (Tz p g) F:=by rw[t];exact(mU ok (jy S S)).choose_spec.2.1
  have Q:lX p (Tz p g) F (jy S S):=by rw[t];exact(mU ok (jy S S)).choose_spec.2.2.symm
  refine⟨rfl,tJ,⟨by decide,by decide⟩,λl C=>⟨⟨n,F,L / 2,?_,R,Y,(pw_even Q).trans O⟩,?_⟩⟩
  .have C:l=(L:Int) / 2:=C;have e:(L:Int) / 2=((L / 2:Nat):Int):=by lia
   rw[e]at C;rw[C];rfl
  .have C:l=(L:Int) / 2:=C;show l.toNat<((L:Nat):Int).toNat;lia
 .have k:¬(L:Int) > 0:=k;have e:L=0:=by lia
  subst e;refine⟨rfl,?_⟩;show PV.ints y=PV.ints (rm p (Tz p g) (pw f ((m:Nat):Int).toNat));rw[aD,Qp ok.nz B (N.symm.trans (lX.one p _ _))]
def Yg (h:jR p){d:Nat}(g:(d:Int) ∣ p):d=1\/(d:Int)=p:=by
 obtain⟨h2,_,b⟩:=h;obtain⟨c,a⟩:=g;by_cases f:d=1
 .exact .inl f
 have j:d≠0:=λz=>by rw[z]at a;simp at a;lia
 have i:0<c:=by
  rcases Int.lt_or_le 0 c with h|h
  .exact h
  .have:=b8 (show(0:Int)<=d by lia) h;lia
 by_cases e:c=1
 .right;rw[a,e,bG]
 exfalso;by_cases l:(d:Int)<=c
 .have sq:(d:Int)*d<=p:=by rw[a];exact bB l (by lia)
  exact b d (by lia) sq (by rw[a];exact Int.mul_emod_right _ _)
 .have sq:c*c<=p:=by rw[a];exact Int.mul_le_mul_of_nonneg_right (by lia) (by lia)
  exact b c (by lia) sq (by rw[a];exact Int.mul_emod_left _ _)
def Gr {p b:Int}(h:jR p)(c:¬b % p=0)(m:Nat):Int.gcd b (p^m)=1:=by
 have a:Int.gcd b p=1:=by
  rcases Yg h (d:=Int.gcd b p) (Int.gcd_dvd_right ..) with g|g
  .exact g
  .exfalso;have:=Int.gcd_dvd_left b p;rw[g]at this;exact c (bU this)
 unfold Int.gcd at a ⊢;rw[Int.natAbs_pow];exact Nat.Coprime.pow_right m a
def u9 (f:Li)(n:Nat):cm f [1] n=f.getD n 0:=by
 rw[jN,oK];by_cases c:n=0
 .rw[af c,cj,bC]
 .rw[ae c,lY,cj,bC]
def Sm (a b:List Int):Prop:=∀n,a.getD n 0=b.getD n 0
def Sm.eqm (h:Sm a b):lX p d a b:=.of λn=>by rw[h n,ck];exact aS p
def zJ (c:Int)(a:List Int):List Int:=a.map λx=>c*x
def j8 (c:Int)(a:Li)(n:Nat):(zJ c a).getD n 0=c*a.getD n 0:=mK _ (aQ c) a n
def lX.add (h:lX p d a b)(k:lX p d c e):lX p d (kJ a c) (kJ b e):=by
 obtain⟨Q,h⟩:=h;obtain⟨S,k⟩:=k;refine⟨kJ Q S,λn=>?_⟩;rw[qF,jJ,jJ];have e:a.getD n 0+c.getD n 0-(b.getD n 0+e.getD n 0)-(cm Q d n+cm S d n)=(a.getD n 0-b.getD n 0-cm Q d n)+(c.getD n 0-e.getD n 0-cm S d n):=by lia
 rw[e];exact aU (h n) (k n)
def lX.ac4 (c:Int)(h:lX p d a b):lX p d (zJ c a) (zJ c b):=by
 obtain⟨Q,h⟩:=h;refine⟨zJ c Q,λn=>?_⟩;have e:cm (zJ c Q) d n=c*cm Q d n:=by unfold cm;rw[<- oA];exact jG λi _=>by rw[j8,bH]
 rw[e,j8,j8,<- cr,<- cr];exact aL (h n)
def Dv (p:Int)(d a:List Int):Prop:=lX p d a []
def Lc (p:Int)(f g r:List Int):Prop:=∃s t:List Int,∀n,p ∣ r.getD n 0-(cm s f n+cm t g n)
def Mr (f:Li)(n:Nat):cm [1] f n=f.getD n 0:=by rw[jN,u9]
def X4 (c:Int)(f:Li)(n:Nat):cm [c] f n=c*f.getD n 0:=by
 rw[oK];by_cases h:n=0
 .rw[af h,bC]
 .rw[ae h,lY,bC]
def Lc.left (p:Int)(f g:Li):Lc p f g f:=⟨[1],[],λn=>by rw[Mr,lY,bC,ck];exact aS p⟩
def Lc.right (p:Int)(f g:Li):Lc p f g g:=⟨[],[1],λn=>by rw[Mr,lY,cD,ck];exact aS p⟩
def Lc.add (h:Lc p f g r)(k:Lc p f g s):Lc p f g (kJ r s):=by
 obtain⟨a,b,h⟩:=h;obtain⟨c,d,k⟩:=k;refine⟨kJ a c,kJ b d,λn=>?_⟩;rw[qF,qF,jJ];have e:r.getD n 0+s.getD n 0-(cm a f n+cm c f n+(cm b g n+cm d g n))=(r.getD n 0-(cm a f n+cm b g n))+(s.getD n 0-(cm c f n+cm d g n)):=by lia
 rw[e];exact aU (h n) (k n)
def Lc.congr (h:Lc p f g r)(k:∀n,p ∣ s.getD n 0-r.getD n 0):Lc p f g s:=by
 obtain⟨a,b,h⟩:=h;refine⟨a,b,λn=>?_⟩;have e:s.getD n 0-(cm a f n+cm b g n)=(s.getD n 0-r.getD n 0)+(r.getD n 0-(cm a f n+cm b g n)):=by lia
 rw[e];exact aU (k n) (h n)
def Lc.mul (q:Li)(h:Lc p f g r):Lc p f g (jy q r):=by obtain⟨a,b,h⟩:=h;refine⟨jy q a,jy q b,λn=>?_⟩;have k:=su (p:=p) (a:=r) (b:=kJ (jy a f) (jy b g)) (c:=q) (λi=>by rw[jJ,jx,jx];exact h i) n;rw[qF,jN r q,jN (jy a f) q,jN (jy b g) q]at k;rw[jx,m6,m6];exact k
def Lc.trans (a:Lc p f g b)(c:Lc p f g r)(h:Lc p b r x):Lc p f g x:=by obtain⟨s,t,h⟩:=h;refine((a.mul s).add (c.mul t)).congr λn=>?_;rw[jJ,jx,jx];exact h n
def Dv.Pk (a:Dv p d f)(b:Dv p d g)(h:Lc p f g r):Dv p d r:=by
 obtain⟨s,t,h⟩:=h;have z:∀s:List Int,lX p d (jy [] s) []:=λs=>Sm.eqm λn=>by rw[jx,lY];rfl
 have k:∀{f:List Int},Dv p d f->∀s,lX p d (jy s f) []:=λ{f} a s=>(lX.comm p d s f).trans ((lX.mul a s).trans (z s));have e:lX p d r (kJ (jy s f) (jy t g)):=.of λn=>by rw[jJ,jx,jx];exact h n
 exact e.trans (((k a s).add (k b t)).trans (.refl p d _))
def Lc.dv (h:Lc p b [] f):Dv p b f:=by obtain⟨s,t,h⟩:=h;refine⟨s,λn=>?_⟩;have k:=h n;rw[jN t [],lY,bC]at k;show p ∣ f.getD n 0-0-cm s b n;rw[aJ];exact k
def Dv.self (p:Int)(d:Li):Dv p d d:=(Lc.left p d []).dv
def oM:lG []:=λh=>absurd rfl h
def HY (h:jB r=1):r≠[]:=λe=>by rw[e]at h;exact absurd h (by decide)
def Tu (fr:lG r)(i:∀n,pl p (r.getD n 0)=r.getD n 0)(e:r=[]\/jB r=1)(fs:lG s)(j:∀n,pl p (s.getD n 0)=s.getD n 0)(f:s=[]\/jB s=1)(h:Dv p r s)(k:Dv p s r):r=s:=by
 have g:∀{s:List Int},lG s->(∀n,pl p (s.getD n 0)=s.getD n 0)->Dv p [] s->s=[]:=λ{s} fs j h=>by obtain⟨Q,h⟩:=h;refine oh fs oM λn=>sH (j n) (by exact lU p) ?_;have:=h n;rw[jN,lY,aJ]at this;exact this
 rcases e with e|e
 .subst e;exact(g fs j h).symm
 rcases f with f|f
 .subst f;exact g fr i k
 have b:∀{r s:List Int},lG r->(∀n,pl p (r.getD n 0)=r.getD n 0)->jB r=1->jB s=1->Dv p s r->ln s<=ln r:=λ{r s} fr i e f k=>by
  by_cases c:ln s<=ln r
  .exact c
  .have nz:∀x,p ∣ x*jB s->p ∣ x:=λx h=>by rw[f,bG]at h;exact h
   exact absurd (tK nz ⟨fr,i,by lia⟩ ⟨oM,λn=>by show pl p 0=0;exact lU p,by show 0<ln s;lia⟩ k) (HY e)
 have v:=b fr i e f k;have y:=b fs j f e h;have u:=lP (HY e);have nz:∀x,p ∣ x*jB s->p ∣ x:=λx h=>by rw[f,bG]at h;exact h
 have m:r.getD (ln r-1) 0=1:=e;have o:s.getD (ln s-1) 0=1:=f;have q:ln r=ln s:=by lia
 have A:ln (Tz p (Ea r s))<=ln r-1:=m5 (j7 p _) λn t=>by
  rw[kh,qP];by_cases c:n=ln r-1
  .rw[c,m,q,o];exact lU p
  .rw[jz (xs:=r) (by lia),jz (xs:=s) (by lia)];exact lU p
 have d:lX p s (Ea r s) []:=by
  have a:Sm (Ea r s) (kJ r (zJ (-1) s)):=λn=>by rw[qP,jJ,j8];lia
  exact a.eqm.trans ((lX.add k ((Dv.self p s).ac4 (-1))).trans (.refl p s _))
 have z:=tK nz ⟨j7 p (Ea r s),nM p _,by lia⟩ ⟨oM,λn=>by show pl p 0=0;exact lU p,by show 0<ln s;lia⟩ ((lX.Tz p s _).symm.trans d);refine oh fr fs λn=>sH (i n) (j n) ?_;have l:(Tz p (Ea r s)).getD n 0=0:=by rw[z];rfl
 rw[kh,qP]at l;have:=lR p (r.getD n 0-s.getD n 0);rw[l,Int.zero_sub]at this;exact aV.mp this
structure GC (p:Int)(f g r:List Int):Prop where
 form:lG r
 red:∀n,pl p (r.getD n 0)=r.getD n 0
 one:r=[]\/jB r=1
 lc:Lc p f g r
 d1:Dv p r f
 d2:Dv p r g
def GC.ac5 (h:GC p f g r)(k:GC p f g s):r=s:=
 Tu h.form h.red h.one k.form k.red k.one (Dv.Pk h.d1 h.d2 k.lc) (Dv.Pk k.d1 k.d2 h.lc)
open Classical in
def pick (A:List Int->Prop):List Int:=if h:∃r,A r then Classical.choose h else[]
def gc (p:Int)(f g:List Int):List Int:=pick (GC p f g)
def Fz (h:GC p f g r):gc p f g=r:=by
 have a:∃r,GC p f g r:=⟨r,h⟩;have e:gc p f g=Classical.choose a:=by unfold gc pick;rw[je a]
 rw[e];exact(fQ a).ac5 h
structure GQ (p:Int)(f g b r:List Int):Prop where
 i1:Lc p f g b
 i2:Lc p f g r
 i3:Lc p b r f
 i4:Lc p b r g
def GQ.symm (h:GQ p f g b r):GQ p b r f g:=⟨h.i3,h.i4,h.i1,h.i2⟩
def GQ.gc (h:GQ p f g b r)(k:GC p b r x):GC p f g x:=⟨k.form,k.red,k.one,Lc.trans h.i1 h.i2 k.lc,Dv.Pk k.d1 k.d2 h.i3,Dv.Pk k.d1 k.d2 h.i4⟩
def Ah (h:GQ p f g b r):gc p f g=gc p b r:=by have e:GC p f g=GC p b r:=funext λx=>propext ⟨h.symm.gc,h.gc⟩;show pick (GC p f g)=pick (GC p b r);rw[e]
def GQ.step (h:lX p r b c):GQ p b r r c:=by
 obtain⟨Q,h⟩:=h;refine⟨.right p b r,⟨[1],zJ (-1) Q,λn=>?_⟩,⟨Q,[1],λn=>?_⟩,.left p r c⟩
 .have e:cm (zJ (-1) Q) r n = -cm Q r n:=by have k:=oA (-1) (λi=>Q.getD i 0*r.getD (n-i) 0) (n+1);unfold cm;rw[fk]at k;rw[<- k];exact jG λi _=>by rw[j8,bH]
  rw[Mr,e];have a:c.getD n 0-(b.getD n 0 + -cm Q r n) = -(b.getD n 0-c.getD n 0-cm Q r n):=by lia
  rw[a];exact aV.mpr (h n)
 .rw[Mr];have a:b.getD n 0-(cm Q r n+c.getD n 0)=b.getD n 0-c.getD n 0-cm Q r n:=by lia
  rw[a];exact h n
def GQ.pO (h:∀n,p ∣ f.getD n 0-b.getD n 0)(k:∀n,p ∣ g.getD n 0-r.getD n 0):GQ p f g b r:=by
 have neg:∀{x y:Int},p ∣ x-y->p ∣ y-x:=λ{x y} h=>by
  have e:y-x = -(x-y):=by lia
  rw[e];exact aV.mpr h
 exact⟨(Lc.left p f g).congr λn=>neg (h n),(Lc.right p f g).congr λn=>neg (k n),(Lc.left p b r).congr h,(Lc.right p b r).congr k⟩
def wF (p:Int)(b:List Int):Int:=if b=[] then 1 else pl p (1*tu (jB b) p)
def sE (p:Int)(b:List Int):List Int:=Tz p (b.map λm=>wF p b*m)
def yt (h:jR p)(f:lG b)(r:∀n,pl p (b.getD n 0)=b.getD n 0)(c:b≠[]):Int.gcd (jB b) p=1:=by
 have h1:=f c;have h2:=r (ln b-1);have d:2<=p:=h.1;rw[lJ (by lia)]at h2;have a:¬jB b % p=0:=by show ¬b.getD (ln b-1) 0 % p=0;rw[h2];exact h1
 have:=Gr h a 1;rw[i5]at this;exact this
def ug (f:lG b)(r:∀n,pl p (b.getD n 0)=b.getD n 0):Tz p b=b:=oh (j7 p b) f λn=>by rw[kh,r n]
def zy (d:jR p)(i:lG b)(r:∀n,pl p (b.getD n 0)=b.getD n 0):GC p b [] (sE p b):=by
 by_cases h:b=[]
 .subst h;have e:sE p []=[]:=rfl;rw[e];exact⟨oM,r,.inl rfl,.left p [] [],.self p [],.self p []⟩
 have o:2<=p:=d.1;have g:=yt d i r h;have one:pl p 1=1:=by rw[lJ (by lia)];exact br (by decide) (by lia)
 have f:wF p b=pl p (1*tu (jB b) p):=ae h;obtain⟨h1,_⟩:=hov o g 1 (wF p b) one (by rw[f];rfl);have a:∀n,(sE p b).getD n 0=pl p (wF p b*b.getD n 0):=λn=>by unfold sE;rw[kh,mK _ (aQ _)]
 have q:=lP h;have k:(sE p b).getD (ln b-1) 0=1:=(a _).trans h1;have s:ln (sE p b)<=ln b:=by unfold sE;refine aA (lA _ _) ?_;rw[aa];exact aj _
 have v:ln b<=ln (sE p b):=by
  by_cases c:ln b<=ln (sE p b)
  .exact c
  .rw[jz (by lia)]at k;exact absurd k (by decide)
 have m:ln (sE p b)=ln b:=by lia
 generalize wF p b=t at *
 have j:p ∣ t*jB b-1:=by
  have:=lR p (t*jB b);rw[h1]at this;have e:t*jB b-1 = -(1-t*jB b):=by lia
  rw[e];exact aV.mpr this
 refine⟨j7 p _,nM p _,.inr ?_,⟨[t],[],λn=>?_⟩,⟨[jB b],λn=>?_⟩,.refl p _ _⟩
 .show(sE p b).getD (ln (sE p b)-1) 0=1;rw[m];exact k
 .rw[X4,lY,bC,a];exact lR p _
 .rw[X4,a];show p ∣ b.getD n 0-0-jB b*pl p (t*b.getD n 0);have h2:=lR p (t*b.getD n 0);generalize pl p (t*b.getD n 0)=u at *
  generalize b.getD n 0=x at *
  generalize jB b=l at *
  have e:x-0-l*u = -((t*l-1)*x+l*(u-t*x)):=by rw[gf,cr,cj,cg t l,bH];lia
  rw[e];exact aV.mpr (aU (be j) (aL h2))
def xQ (h:jR p)(fr:lG r)(b:∀n,pl p (r.getD n 0)=r.getD n 0)(a:r≠[])(c:ln r<=200):Em p r:=by have e:=ug fr b;exact⟨h,c,by rw[e];exact a,by rw[e];exact yt h fr b a⟩
def ZS (a:jR p):∀(k:Nat) (b r:Li),ln r<=k->lG b->(∀n,pl p (b.getD n 0)=b.getD n 0)->lG r->(∀n,pl p (r.getD n 0)=r.getD n 0)->ln r<=200->GC p b r (gc p b r)
 |k,b,[],_,fb,rb,_,_,_=>by have h:=zy a fb rb;rw[Fz h];exact h
 |k+1,b,y::r,hk,fb,rb,fr,rr,hl=>by have ok:=xQ a fr rr (λz=>by cases z) hl;have e:=ug fr rr;obtain⟨_,_,i,c⟩:=mU ok b;rw[e]at i c;have f:=i.len;have d:=ZS a k (y::r) (rm p (y::r) b) (by lia) fr rr i.form i.red (by lia);have h:=(GQ.step c).gc d;rw[Fz h];exact h
def GQ.tz (p:Int)(f g:Li):GQ p f g (Tz p f) (Tz p g):=by
 have k:∀(f:List Int) n,p ∣ f.getD n 0-(Tz p f).getD n 0:=λf n=>by
  rw[kh];have:=lR p (f.getD n 0);have e:f.getD n 0-pl p (f.getD n 0) = -(pl p (f.getD n 0)-f.getD n 0):=by lia
  rw[e];exact aV.mpr this
 exact GQ.pO (k f) (k g)
def abr (a:jR p)(b:ln g<=200):GC p f g (gc p f g):=by have t:=lA p g;have h:=ZS a _ (Tz p f) (Tz p g) (aj _) (j7 p f) (nM p f) (j7 p g) (nM p g) (by lia);have h:=(GQ.tz p f g).gc h;rw[Fz h];exact h
def uN:Ok P w K mg base 3 "turned_lead" ["kind","f"] (Hw K (ph U) (λas=>∃p b,as=[.ob 0 p,.ints b]/\jR p/\lG b/\∀n,pl p (b.getD n 0)=b.getD n 0) λas=>match as with|[.ob 0 p,.ints b]=>wF p b|_=>0):=by
 refine uK T.DG CW (λ_ ⟨a,b,h,_⟩=>h▸rfl) (λf i A o s H E m=>⟨_,(jw (jD (TF (Am 1) (sU (aax (G4 0 (Bj T) m (jq jt (jq (lW 1 (uc jt) (λ_ _=>rfl)) ju))))) jt))),λas d=>?_⟩);obtain⟨p,b,rfl,d,j,u⟩:=d;have t:2<=p:=d.1;have k:p.natAbs<2^9000:=by
  have:p.natAbs<=2^14:=by have:=d.2.1;lia
  exact aO this (a7 (by decide) (by decide))
 have r:(1:Int).natAbs<2^9000:=aO (show(1:Int).natAbs<=2^14 by decide) (a7 (by decide) (by decide));have g:¬b=[]->Ja cNO p [1,b.getD (lD (ln b) (-1)) 0]=.inl (wF p b):=λc=>by have l:=lP c;have q:b.getD (lD (ln b) (-1)) 0=jB b:=vK b l;have e:wF p b=pl p (1*tu (jB b) p):=ae c;rw[q,e];exact Xu (yt d j u c)
 refine⟨⟨.inl rfl,λc=>⟨⟨⟨rfl,⟨tJ,⟨.inl rfl,tJ,?_,?_⟩,tJ⟩,tJ,?_⟩,?_⟩,?_⟩,λ_=>tJ⟩,?_⟩
 .have c:¬b=[]:=c;have l:=lP c;show -(ln b:Int) <= -1;lia
 .have c:¬b=[]:=c;have l:=lP c;show(-1:Int)<(ln b:Int);lia
 .show abd p [1,b.getD (lD (ln b) (-1)) 0];exact⟨t,k,r⟩
 .have c:¬b=[]:=c;show(yJ (Ja cNO p [1,b.getD (lD (ln b) (-1)) 0])).isV;rw[g c];exact tJ
 .have c:¬b=[]:=c;show(yJ (Ja cNO p [1,b.getD (lD (ln b) (-1)) 0])).get=.int (Dz (yJ (Ja cNO p [1,b.getD (lD (ln b) (-1)) 0])).get);rw[g c];rfl
 .show(if ¬b=[] then PV.int (Dz (yJ (Ja cNO p [1,b.getD (lD (ln b) (-1)) 0])).get) else .int 1)=.int (wF p b);by_cases c:b=[]
  .rw[ae (λz=>z c)];subst c;rfl
  .rw[af c,g c];rfl
def Zk (a:jR p):(wF p b).natAbs<2^9000:=by
 have h:(wF p b).natAbs<=2^14:=by
  unfold wF;split
  .decide
  .have:=wD a (qQ p (1*tu (jB b) p));lia
 exact aO h (a7 (by decide) (by decide))
def sZ:Ok P w K mg base 4 "with_lead_one" ["kind","f"] (Ew K (ph U) (λas=>∃p b,as=[.ob 0 p,.ints b]/\jR p/\ln b<=1000/\lG b/\∀n,pl p (b.getD n 0)=b.getD n 0) λas=>match as with|[.ob 0 p,.ints b]=>sE p b|_=>[]):=by
 refine IV T.zV zq (λ_ ⟨a,b,h,_⟩=>h▸rfl) (λf g A o s H E d=>⟨_,(jw (mD (pD (vN T) d (jq (xv 0) (jq (xl 1) (jq (Zy (uN T) d (jq (xv 0) (jq (xl 1) ju))) ju)))))),λas c=>?_⟩);obtain⟨p,b,rfl,c,j,i,r⟩:=c;refine⟨⟨⟨rfl,rfl,⟨⟨rfl,rfl,tJ⟩,p,b,rfl,c,i,r⟩,tJ⟩,p,b,wF p b,rfl,j,Zk c,λm k=>?_⟩,rfl⟩;obtain⟨n,_,e⟩:=FM.mem_getD k;have:=wD c (r n);rw[e]at this;exact yl this
def yS:Ok P w K mg base 5 "common" ["kind","f","g"] (Ew K (ph U) (λas=>∃p f g,as=[.ob 0 p,.ints f,.ints g]/\jR p/\ln f<=200/\ln g<=200) λas=>match as with|[.ob 0 p,.ints f,.ints g]=>gc p f g|_=>[]):=by
 refine IV T.Tq qM (λ_ ⟨a,b,c,h,_⟩=>h▸rfl) (λf Q A B s H E x=>⟨_,(jr (jE (i:=3) qM.nd rfl k4 (jM (pD (kj T) x (jq (xv 0) (jq (xl 1) ju))))) (jr (jE (i:=4) qM.nd rfl k4 (jM (pD (kj T) x (jq (xv 0) (jq (xl 2) ju))))) (jr (mJ aB (Am 4) (jr (jE (i:=5) qM.nd rfl k4 (xl_of (jC (xc (nY T) x (jq (xv 0) (jq (xl 3) (jq (xl 4) ju)))) jt (λ_ _=>rfl)))) (jr (jE (i:=3) qM.nd rfl k4 (xl 4)) (jw (jE (i:=4) qM.nd rfl k4 (xl 5)))))) (jw (mD (pD (sZ T) x (jq (xv 0) (jq (xl 3) ju)))))))),λas t=>?_⟩)
 obtain⟨p,f,g,rfl,t,S,Y⟩:=t;refine⟨⟨⟨rfl,rfl,tJ⟩,p,f,rfl,by lia⟩,λv d=>?_⟩;have d:v=Tz p f:=d;refine⟨⟨⟨rfl,rfl,tJ⟩,p,g,rfl,by lia⟩,λy j=>?_⟩;have j:y=Tz p g:=j;have l1:=lA p f;have l2:=lA p g;have R:gc p v y=gc p f g:=by rw[d,j];exact(Ah (GQ.tz p f g)).symm
 refine jL (Z':=[.fr (.ob 0 p),k7 f,k7 g,k7 v,k7 y,.un]) rfl ?_;refine⟨λZ=>∃b r N,Z=[.fr (.ob 0 p),k7 f,k7 g,k7 b,k7 r,N]/\lG b/\(∀n,pl p (b.getD n 0)=b.getD n 0)/\ln b<=200/\lG r/\(∀n,pl p (r.getD n 0)=r.getD n 0)/\ln r<=200/\gc p b r=gc p f g,λZ=>ln (getL Z 4),⟨v,y,.un,rfl,by rw[d];exact j7 p f,by rw[d];exact nM p f,by rw[d];lia,by rw[j];exact j7 p g,by rw[j];exact nM p g,by rw[j];lia,R⟩,?_⟩;rintro Z ⟨b,r,N,rfl,I,L,bl,fr,D,M,F⟩;refine⟨.inl rfl,λk=>?_,λk=>?_⟩
 .have k:¬r=[]:=k;have ok:=xQ t fr D k M;have G:=ug fr D;obtain⟨q,e⟩:=Hd ok b;obtain⟨_,_,u,z⟩:=mU ok b;rw[G]at u z e;have J:=u.len;have e:sS p (Tz p b) (Tz p r)=.tup [.ints q,.ints (rm p r b)]:=by rw[G];exact e
  refine⟨⟨⟨⟨⟨rfl,rfl,rfl,tJ⟩,p,b,r,rfl,ok,bl⟩,tJ,?_⟩,?_⟩,λc o=>?_⟩
  .show nF (sS p (Tz p b) (Tz p r)) 1;rw[e];exact⟨by show(-2:Int)<=1;decide,by show(1:Int)<2;decide⟩
  .show m7 (sS p (Tz p b) (Tz p r)) 1=.ints (kW (m7 (sS p (Tz p b) (Tz p r)) 1));rw[e];rfl
  have o:c=kW (m7 (sS p (Tz p b) (Tz p r)) 1):=o;rw[e]at o;have o:c=rm p r b:=o;rw[<- o]at u z J;refine⟨rfl,λO m=>⟨rfl,λC l=>⟨⟨r,c,k7 c,?_,fr,D,M,u.form,u.red,by lia,?_⟩,?_⟩⟩⟩
  .have m:O=r:=m;have l:C=c:=l;rw[m,l];rfl
  .rw[<- F];exact(Ah (GQ.step z)).symm
  .have l:C=c:=l;show ln C<ln r;rw[l];exact J
 .have k:¬¬r=[]:=k;have k:r=[]:=gS.mp k;subst k;refine⟨⟨⟨rfl,rfl,tJ⟩,p,b,rfl,t,by lia,I,L⟩,?_⟩;show sE p b=gc p f g;rw[<- F];exact(Fz (zy t I L)).symm
structure Fo (p:Int)(f:List Int):Prop where
 form:lG f
 red:∀n,pl p (f.getD n 0)=f.getD n 0
def Fo.tz (p:Int)(f:Li):Fo p (Tz p f):=⟨j7 p f,nM p f⟩
def Fo.bd (b:jR p)(h:Fo p f):Bd f:=λm a=>by obtain⟨n,_,e⟩:=FM.mem_getD a;have:=wD b (h.red n);rw[e]at this;exact yl this
def Fo.at (b:jR p)(h:Fo p f):∀m∈f,0<=m/\m<p:=λm a=>by obtain⟨n,_,e⟩:=FM.mem_getD a;have c:2<=p:=b.1;have:=h.red n;rw[e,lJ (by lia)]at this;have h1:=bw m (show p≠0 by lia);have h2:=bc m (show 0<p by lia);lia
def Mi (p:Int)(f:Li)(n:Nat):p ∣ (Tz p f).getD n 0-f.getD n 0:=by rw[kh];exact lR p _
abbrev Row3:=List Int×List Int×List Int
def Eg (x:Row3):PV:=.tup [.ints x.1,.ints x.2.1,.ints x.2.2]
def X8 {p:Int}{g:Li}(h:Em p g)(f:Li):∃q,sS p (Tz p f) (Tz p g)=.tup [.ints q,.ints (rm p (Tz p g) f)]/\wR p (Tz p f) (Tz p g) q (rm p (Tz p g) f)/\ln (rm p (Tz p g) f)<ln (Tz p g):=by have j:=lP h.ne;have l:2<=p:=h.pr.1;obtain⟨h1,_⟩:=Gz (z:=p) (ov:=RP p) (f:=Tz p f) (d:=Tz p g) j (λa c b i=>hov l h.gcd a c b i) (ln (Tz p f)+1) _ _ (wR.start (j7 p f) (nM p f)) (cC _);obtain⟨q,e,_,_⟩:=mU h f;obtain⟨I,k⟩:=h1 _ _ e;exact⟨q,by unfold sS;rw[e],I,k⟩
def Av (p:Int)(a q b:List Int):List Int:=Tz p (kJ a ((Tz p (jy (Tz p q) (Tz p b))).map λn=>-n))
def Zc (p:Int)(q b:Li)(n:Nat):(Tz p (jy (Tz p q) (Tz p b))).getD n 0=pl p (cm q b n):=by rw[kh,jx];exact Zq (λn=>by rw[kh,qQ]) (λn=>by rw[kh,qQ]) n
def Lr (p:Int)(a q b:Li)(n:Nat):(Av p a q b).getD n 0=pl p (a.getD n 0 + -pl p (cm q b n)):=by unfold Av;rw[kh,jJ,mK _ (by decide),Zc]
def uv (p:Int)(a q b:Li)(n:Nat):p ∣ (Av p a q b).getD n 0-(a.getD n 0-cm q b n):=by
 rw[Lr];have h1:=lR p (a.getD n 0 + -pl p (cm q b n));have h2:=lR p (cm q b n);generalize pl p (a.getD n 0 + -pl p (cm q b n))=u at *
 generalize pl p (cm q b n)=y at *
 have e:u-(a.getD n 0-cm q b n)=(u-(a.getD n 0 + -y)) + -(y-cm q b n):=by lia
 rw[e];exact aU h1 (aV.mpr h2)
def aaW (p:Int)(a q b:Li):ln (Av p a q b)<=max (ln a) (ln q+ln b-1):=m5 (j7 p _) λn h=>by rw[Lr,jz (xs:=a) (by lia),Qq (by lia),lU];exact lU p
def Xp (p:Int)(a b:Li):ln (Av p a [] b)<=ln a:=m5 (j7 p _) λn h=>by rw[Lr,jz (xs:=a) h,lY,lU];exact lU p
def Zr (p:Int)(x:Row3)(q:List Int)(y:Row3):Row3:=(Av p x.1 q y.1,Av p x.2.1 q y.2.1,Av p x.2.2 q y.2.2)
def Wt (p:Int)(b r:List Int):List Int:=kW (m7 (sS p (Tz p b) (Tz p r)) 0)
open Classical in
def RJ (p:Int):Nat->Row3->Row3->Row3
 |0,b,_=>b
 |n+1,b,r=>if r.1=[] then b else RJ p n r (Zr p b (Wt p b.1 r.1) r)
structure RI (p:Int)(f g:List Int)(x:Row3):Prop where
 f1:Fo p x.1
 f2:Fo p x.2.1
 f3:Fo p x.2.2
 eq:∀n,p ∣ x.1.getD n 0-(cm x.2.1 f n+cm x.2.2 g n)
def ZJ (p:Int)(a q b f:Li)(n:Nat):p ∣ cm (Av p a q b) f n-(cm a f n-cm q (jy b f) n):=by have h:=su (p:=p) (a:=Av p a q b) (b:=Ea a (jy q b)) (c:=f) (λi=>by rw[qP,jx];exact uv p a q b i) n;rw[Mv,m6]at h;exact h
def RI.step {p:Int}{f g:Li}{b r:Row3}(u:RI p f g b)(v:RI p f g r)(q:Li):RI p f g (Zr p b q r):=by
 refine⟨.tz p _,.tz p _,.tz p _,λn=>?_⟩;have h1:=uv p b.1 q r.1 n;have h2:=ZJ p b.2.1 q r.2.1 f n;have s:=ZJ p b.2.2 q r.2.2 g n;have t:=u.eq n;have h:=su (p:=p) (a:=r.1) (b:=kJ (jy r.2.1 f) (jy r.2.2 g)) (c:=q) (λi=>by rw[jJ,jx,jx];exact v.eq i) n;rw[qF,jN r.1 q,jN (jy r.2.1 f) q,jN (jy r.2.2 g) q]at h;show p ∣ (Av p b.1 q r.1).getD n 0-(cm (Av p b.2.1 q r.2.1) f n+cm (Av p b.2.2 q r.2.2) g n);generalize (Av p b.1 q r.1).getD n 0=x at *
 generalize cm (Av p b.2.1 q r.2.1) f n=d at *
 generalize cm (Av p b.2.2 q r.2.2) g n=j at *
 generalize b.1.getD n 0=y at *
 generalize cm b.2.1 f n=k at *
 generalize cm b.2.2 g n=l at *
 generalize cm q r.1 n=z at *
 generalize cm q (jy r.2.1 f) n=m at *
 generalize cm q (jy r.2.2 g) n=o at *
 have e:x-(d+j)=(x-(y-z)) + -(d-(k-m)) + -(j-(l-o))+(y-(k+l)) + -(z-(m+o)):=by lia
 rw[e];exact aU (aU (aU (aU h1 (aV.mpr h2)) (aV.mpr s)) t) (aV.mpr h)
structure SI (p:Int)(f g:List Int)(N:Nat)(b r:Row3):Prop where
 rb:RI p f g b
 rr:RI p f g r
 gcd:gc p b.1 r.1=gc p f g
 l1:ln r.2.1+ln b.1<=N
 l2:ln b.2.1+ln r.1<=N
 l3:ln r.2.2+ln b.1<=N
 l4:ln b.2.2+ln r.1<=N
def SI.step {p:Int}{f g:Li}{N:Nat}{b r:Row3}(t:jR p)(h:SI p f g N b r)(d:r.1≠[])(G:N<=200):SI p f g N r (Zr p b (Wt p b.1 r.1) r)/\ln (Zr p b (Wt p b.1 r.1) r).1<ln r.1/\sS p (Tz p b.1) (Tz p r.1)=.tup [.ints (Wt p b.1 r.1),.ints (rm p r.1 b.1)]/\ln (Wt p b.1 r.1)<=ln b.1/\Bd (Wt p b.1 r.1):=by
 have A:=h.l1;have B:=h.l2;have C:=h.l3;have D:=h.l4;have ok:=xQ t h.rr.f1.form h.rr.f1.red d (by lia);have l:=ug h.rr.f1.form h.rr.f1.red;have E:=ug h.rb.f1.form h.rb.f1.red;obtain⟨q,e,I,s⟩:=X8 ok b.1;have j:Wt p b.1 r.1=q:=by unfold Wt;rw[e];rfl
 rw[j];rw[l]at I s;rw[E]at I;have e:sS p (Tz p b.1) (Tz p r.1)=.tup [.ints q,.ints (rm p r.1 b.1)]:=by rw[e,l]
 obtain⟨_,_,_,o⟩:=mU ok b.1;rw[l]at o;have i:Av p b.1 q r.1=rm p r.1 b.1:=oh (j7 p _) I.rf λn=>sH (nM p _ n) (I.rr n) (by
  have u:=uv p b.1 q r.1 n;have v:=I.eq n;show p ∣ (Av p b.1 q r.1).getD n 0-(rm p r.1 b.1).getD n 0;generalize (Av p b.1 q r.1).getD n 0=x at *
  generalize (rm p r.1 b.1).getD n 0=y at *
  generalize cm q r.1 n=z at *
  have e:x-y=(x-(b.1.getD n 0-z)) + -(z+y-b.1.getD n 0):=by lia
  rw[e];exact aU u (aV.mpr v))
 have J:=lP d;have H:=I.ql;have L:=I.rl;have len:∀{a c:List Int},ln c+ln b.1<=N->ln a+ln r.1<=N->ln (Av p a q c)+ln r.1<=N:=λ{a c} u v=>by
  by_cases z:q=[]
  .subst z;have:=Xp p a c;lia
  .have:=lP z;have:=aaW p a q c;lia
 refine⟨⟨h.rr,h.rb.step h.rr q,?_,len A B,?_,len C D,?_⟩,?_,e,by lia,λm F=>?_⟩
 .show gc p r.1 (Av p b.1 q r.1)=gc p f g;rw[i,<- h.gcd];exact(Ah (GQ.step o)).symm
 .show ln r.2.1+ln (Av p b.1 q r.1)<=N;rw[i];lia
 .show ln r.2.2+ln (Av p b.1 q r.1)<=N;rw[i];lia
 .show ln (Av p b.1 q r.1)<ln r.1;rw[i];exact s
 .obtain⟨n,_,k⟩:=FM.mem_getD F;have:=wD t (I.qr n);rw[k]at this;exact yl this
def SI.start {p:Int}{f g:Li}{N:Nat}(h:jR p)(a:ln f+1<=N)(b:ln g+1<=N):SI p f g N (Tz p f,[1],[]) (Tz p g,[],[1]):=by
 have d:2<=p:=h.1;have one:Fo p [1]:=by
  refine⟨λ_=>by decide,λn=>?_⟩
  match n with
  |0=>show pl p 1=1;rw[lJ (by lia)];exact br (by decide) (by lia)
  |n+1=>have e:([1]:List Int).getD (n+1) 0=0:=jz (by show 1<=n+1;lia);rw[e,lU]
 have nil:Fo p []:=⟨oM,λn=>by exact lU p⟩;have l:=lA p f;have c:=lA p g;refine⟨⟨.tz p f,one,nil,λn=>?_⟩,⟨.tz p g,nil,one,λn=>?_⟩,(Ah (GQ.tz p f g)).symm,?_,?_,?_,?_⟩
 .show p ∣ (Tz p f).getD n 0-(cm [1] f n+cm [] g n);rw[Mr,lY,bC];exact Mi p f n
 .show p ∣ (Tz p g).getD n 0-(cm [] f n+cm [1] g n);rw[Mr,lY,cD];exact Mi p g n
 .show 0+ln (Tz p f)<=N;lia
 .show 1+ln (Tz p g)<=N;lia
 .show 1+ln (Tz p f)<=N;lia
 .show 0+ln (Tz p g)<=N;lia
def Wn {p:Int}{f g:Li}{N:Nat}(a:jR p)(d:N<=200):∀(k:Nat) (b r:Row3),SI p f g N b r->ln r.1<k->RI p f g (RJ p k b r)/\gc p f g=sE p (RJ p k b r).1/\ln (RJ p k b r).1<=N/\ln (RJ p k b r).2.1<=N/\ln (RJ p k b r).2.2<=N
 |0,_,_,_,h=>by lia
 |k+1,b,r,h,hk=>by
  unfold RJ;by_cases c:r.1=[]
  .rw[af c];have e:=h.gcd;have i:=h.l1;have j:=h.l2;have l:=h.l4;rw[c,Fz (zy a h.rb.f1.form h.rb.f1.red)]at e;exact⟨h.rb,e.symm,by lia,by lia,by lia⟩
  .rw[ae c];obtain⟨h2,m,_⟩:=h.step a c d;exact Wn a d k _ _ h2 (by lia)
def HJ (t p:Int)(x:List Int):List Int:=Tz p (x.map λm=>t*m)
def Nv (p:Int)(f g:List Int):Row3:=RJ p (ln (Tz p g)+1) (Tz p f,[1],[]) (Tz p g,[],[1])
def I9 (p:Int)(f g:List Int):Row3:=(HJ (wF p (Nv p f g).1) p (Nv p f g).1,HJ (wF p (Nv p f g).1) p (Nv p f g).2.1,HJ (wF p (Nv p f g).1) p (Nv p f g).2.2)
def Pj (t p:Int)(x:Li)(n:Nat):(HJ t p x).getD n 0=pl p (t*x.getD n 0):=by unfold HJ;rw[kh,mK _ (aQ t)]
def Ht (t p:Int)(x:Li):ln (HJ t p x)<=ln x:=by unfold HJ;refine aA (lA _ _) ?_;rw[aa];exact aj _
def Uy {p:Int}{f g:Li}{N:Nat}(l:jR p)(v:N<=200)(A:ln f+1<=N)(B:ln g+1<=N):RI p f g (I9 p f g)/\(I9 p f g).1=gc p f g/\ln (I9 p f g).1<=N/\ln (I9 p f g).2.1<=N/\ln (I9 p f g).2.2<=N:=by
 obtain⟨h1,h2,d,j,k⟩:=Wn l v (ln (Tz p g)+1) _ _ (SI.start l A B) (cC _);have h1:RI p f g (Nv p f g):=h1;have h2:gc p f g=sE p (Nv p f g).1:=h2;have d:ln (Nv p f g).1<=N:=d;have j:ln (Nv p f g).2.1<=N:=j;have k:ln (Nv p f g).2.2<=N:=k;refine⟨?_,h2.symm,aA (Ht _ _ _) d,aA (Ht _ _ _) j,aA (Ht _ _ _) k⟩;unfold I9;generalize Nv p f g=x at *
 generalize wF p x.1=t at *
 refine⟨.tz p _,.tz p _,.tz p _,λn=>?_⟩;have s:∀(a f:List Int),p ∣ cm (HJ t p a) f n-t*cm a f n:=λa f=>by
  have h:=su (p:=p) (a:=HJ t p a) (b:=zJ t a) (c:=f) (λi=>by rw[Pj,j8];exact lR p _) n;have e:cm (zJ t a) f n=t*cm a f n:=by unfold cm;rw[<- oA];exact jG λi _=>by rw[j8,bH]
  rw[e]at h;exact h
 have C:p ∣ (HJ t p x.1).getD n 0-t*x.1.getD n 0:=by rw[Pj];exact lR p _
 have D:=s x.2.1 f;have E:=s x.2.2 g;have m:p ∣ t*(x.1.getD n 0-(cm x.2.1 f n+cm x.2.2 g n)):=aL (h1.eq n);rw[cr,fE]at m;show p ∣ (HJ t p x.1).getD n 0-(cm (HJ t p x.2.1) f n+cm (HJ t p x.2.2) g n);generalize (HJ t p x.1).getD n 0=y at *
 generalize cm (HJ t p x.2.1) f n=o at *
 generalize cm (HJ t p x.2.2) g n=q at *
 generalize t*x.1.getD n 0=z at *
 generalize t*cm x.2.1 f n=r at *
 generalize t*cm x.2.2 g n=u at *
 have e:y-(o+q)=(y-z) + -(o-r) + -(q-u)+(z-(r+u)):=by lia
 rw[e];exact aU (aU (aU C (aV.mpr D)) (aV.mpr E)) m
def K8 (x:Row3):nF (Eg x) 0:=⟨by show -(3:Int)<=0;decide,by show(0:Int)<3;decide⟩
def Wx (x:Row3):nF (Eg x) 1:=⟨by show -(3:Int)<=1;decide,by show(1:Int)<3;decide⟩
def Y8 (x:Row3):nF (Eg x) 2:=⟨by show -(3:Int)<=2;decide,by show(2:Int)<3;decide⟩
def F04:List PV->PV|[.ob 0 p,.tup [.ints a,.ints b,.ints c],.ints q,.tup [.ints d,.ints e,.ints f]]=>Eg (Zr p (a,b,c) q (d,e,f))|_=>.non
def Jy:Ok P w K mg base 5 "row_less" ["kind","row","often","other"] (wV K (ph U) (λas=>∃p x q y,as=[.ob 0 p,Eg x,.ints q,Eg y]/\jR p/\(ln x.1<=400/\ln x.2.1<=400/\ln x.2.2<=400)/\(ln q+ln y.1<=400/\ln q+ln y.2.1<=400/\ln q+ln y.2.2<=400)/\Bd q/\Bd y.1/\Bd y.2.1/\Bd y.2.2) F04):=by
 refine uK T.Nr KQ (λ_ ⟨a,b,c,d,h,_⟩=>h▸rfl) (λf r A o s H E g=>⟨_,(jw (jD (oZ (jq (jM (pD (Ak T) g (jq (xv 0) (jq (xl_of (jC (xv 1) jt (λ_ _=>rfl))) (jq (jM (pD (yc T) g (jq (xv 0) (jq (xl 2) (jq (xl_of (jC (xv 3) jt (λ_ _=>rfl))) ju))))) ju))))) (jq (jM (pD (Ak T) g (jq (xv 0) (jq (xl_of (jC (xv 1) jt (λ_ _=>rfl))) (jq (jM (pD (yc T) g (jq (xv 0) (jq (xl 2) (jq (xl_of (jC (xv 3) jt (λ_ _=>rfl))) ju))))) ju))))) (jq (jM (pD (Ak T) g (jq (xv 0) (jq (xl_of (jC (xv 1) jt (λ_ _=>rfl))) (jq (jM (pD (yc T) g (jq (xv 0) (jq (xl 2) (jq (xl_of (jC (xv 3) jt (λ_ _=>rfl))) ju))))) ju))))) ju)))))),λas k=>?_⟩);obtain⟨p,x,q,y,rfl,k,⟨F,G,I⟩,⟨t,u,v⟩,i,l,m,n⟩:=k;obtain⟨h0,j⟩:=V1 k;have len:∀d:List Int,ln q+ln d<=400->ln (Tz p (jy (Tz p q) (Tz p d)))<=500:=λd h=>by
  have z:=lA p (jy (Tz p q) (Tz p d));have B:=lA p q;have C:=lA p d;have D:ln (jy (Tz p q) (Tz p d))=ln (Tz p q)+ln (Tz p d):=by unfold jy;rw[aa,ag]
  lia
 exact⟨⟨⟨⟨rfl,⟨⟨rfl,tJ,K8 x⟩,rfl⟩,⟨⟨rfl,rfl,⟨⟨rfl,tJ,K8 y⟩,rfl⟩,tJ⟩,p,q,y.1,rfl,h0,j,by lia,i,l⟩,tJ⟩,p,x.1,_,rfl,by lia,len _ t⟩,⟨⟨rfl,⟨⟨rfl,tJ,Wx x⟩,rfl⟩,⟨⟨rfl,rfl,⟨⟨rfl,tJ,Wx y⟩,rfl⟩,tJ⟩,p,q,y.2.1,rfl,h0,j,by lia,i,m⟩,tJ⟩,p,x.2.1,_,rfl,by lia,len _ u⟩,⟨⟨rfl,⟨⟨rfl,tJ,Y8 x⟩,rfl⟩,⟨⟨rfl,rfl,⟨⟨rfl,tJ,Y8 y⟩,rfl⟩,tJ⟩,p,q,y.2.2,rfl,h0,j,by lia,i,n⟩,tJ⟩,p,x.2.2,_,rfl,by lia,len _ v⟩,tJ⟩,rfl⟩
def Rq:Ok P w K mg base 6 "shares" ["kind","f","g"] (wV K (ph U) (λas=>∃p f g,as=[.ob 0 p,.ints f,.ints g]/\jR p/\ln f<=150/\ln g<=150) λas=>match as with|[.ob 0 p,.ints f,.ints g]=>Eg (I9 p f g)|_=>.non):=by
 refine uK T.U4 o8 (λ_ ⟨a,b,c,h,_⟩=>h▸rfl) (λf cdv A C s H E m=>⟨_,(jr (kY (i:=3) o8.nd rfl k4 (oZ (jq (jM (pD (kj T) m (jq (xv 0) (jq (xl 1) ju)))) (jq (jM (kZ (jq jt ju))) (jq (jM (kZ ju)) ju))))) (jr (kY (i:=4) o8.nd rfl k4 (oZ (jq (jM (pD (kj T) m (jq (xv 0) (jq (xl 2) ju)))) (jq (jM (kZ ju)) (jq (jM (kZ (jq jt ju))) ju))))) (jr (mJ aB (acD (xl_of (jC (xv 4) jt (λ_ _=>rfl)))) (jr (jE (i:=5) o8.nd rfl k4 (xl_of (jC (xc (nY T) m (jq (xv 0) (jq (xl_of (jC (xv 3) jt (λ_ _=>rfl))) (jq (xl_of (jC (xv 4) jt (λ_ _=>rfl))) ju)))) jt (λ_ _=>rfl)))) (jr (kY (i:=6) o8.nd rfl k4 (xc (Jy T) m (jq (xv 0) (jq (xv 3) (jq (xl 5) (jq (xv 4) ju)))))) (jr (kY (i:=3) o8.nd rfl k4 (xv 4)) (jw (kY (i:=4) o8.nd rfl k4 (xv 6))))))) (jr (jH (i:=7) o8.nd rfl k4 (Zy (uN T) m (jq (xv 0) (jq (xl_of (jC (xv 3) jt (λ_ _=>rfl))) ju)))) (jw (jD (oZ (jq (jM (pD (vN T) m (jq (xv 0) (jq (xl_of (jC (xv 3) jt (λ_ _=>rfl))) (jq (xn 7) ju))))) (jq (jM (pD (vN T) m (jq (xv 0) (jq (xl_of (jC (xv 3) jt (λ_ _=>rfl))) (jq (xn 7) ju))))) (jq (jM (pD (vN T) m (jq (xv 0) (jq (xl_of (jC (xv 3) jt (λ_ _=>rfl))) (jq (xn 7) ju))))) ju)))))))))),λas d=>?_⟩)
 obtain⟨p,f,g,rfl,d,hf,hg⟩:=d;obtain⟨N,hN⟩:∃N,N=max (ln f) (ln g)+1:=⟨_,rfl⟩;have R:N<=200:=by lia
 have Y:SI p f g N (Tz p f,[1],[]) (Tz p g,[],[1]):=SI.start d (by lia) (by lia);refine⟨⟨⟨⟨rfl,rfl,tJ⟩,p,f,rfl,by lia⟩,⟨⟨tJ,tJ⟩,tJ⟩,⟨tJ,tJ⟩,tJ⟩,λJ o=>?_⟩;have o:J=Eg (Tz p f,[1],[]):=o;refine⟨⟨⟨⟨rfl,rfl,tJ⟩,p,g,rfl,by lia⟩,⟨tJ,tJ⟩,⟨⟨tJ,tJ⟩,tJ⟩,tJ⟩,λQ v=>?_⟩;have v:Q=Eg (Tz p g,[],[1]):=v;refine jL (Z':=[.fr (.ob 0 p),k7 f,k7 g,.fr J,.fr Q,.un,.un,.un]) rfl ?_;refine⟨λZ=>∃b r G B k,Z=[.fr (.ob 0 p),k7 f,k7 g,.fr (Eg b),.fr (Eg r),G,B,.un]/\SI p f g N b r/\ln r.1<k/\RJ p k b r=Nv p f g,λZ=>ln (kW (m7 (BX Z 4) 0)),⟨_,_,.un,.un,ln (Tz p g)+1,by rw[o,v],Y,cC _,rfl⟩,?_⟩;rintro Z ⟨b,r,G,B,k,rfl,S,hk,L⟩;refine⟨⟨⟨rfl,tJ,K8 r⟩,rfl⟩,λc=>?_,λc=>?_⟩
 .have c:¬r.1=[]:=c;obtain⟨I,M,e,ql,O⟩:=S.step d c R;have a1:=S.l1;have a2:=S.l2;have a3:=S.l3;have a4:=S.l4;have ok:=xQ d S.rr.f1.form S.rr.f1.red c (by lia);obtain⟨k,rfl⟩:∃n,k=n+1:=⟨k-1,by lia⟩;have l:RJ p k r (Zr p b (Wt p b.1 r.1) r)=Nv p f g:=by
   rw[<- L]
   conv=>rhs;unfold RJ
   rw[ae c]
  refine⟨⟨⟨⟨⟨rfl,⟨⟨rfl,tJ,K8 b⟩,rfl⟩,⟨⟨rfl,tJ,K8 r⟩,rfl⟩,tJ⟩,p,b.1,r.1,rfl,ok,by lia⟩,tJ,?_⟩,?_⟩,λq y=>?_⟩
  .show nF (sS p (Tz p b.1) (Tz p r.1)) 0;rw[e];exact⟨by show(-2:Int)<=0;decide,by show(0:Int)<2;decide⟩
  .show m7 (sS p (Tz p b.1) (Tz p r.1)) 0=.ints (kW (m7 (sS p (Tz p b.1) (Tz p r.1)) 0));rw[e];rfl
  have y:q=Wt p b.1 r.1:=y;rw[<- y]at I M ql O l;clear e y;refine jL (Z':=[.fr (.ob 0 p),k7 f,k7 g,.fr (Eg b),.fr (Eg r),k7 q,B,.un]) rfl ?_;refine⟨⟨⟨rfl,rfl,rfl,rfl,tJ⟩,p,b,q,r,rfl,d,⟨by lia,by lia,by lia⟩,⟨by lia,by lia,by lia⟩,O,S.rr.f1.bd d,S.rr.f2.bd d,S.rr.f3.bd d⟩,λn x=>?_⟩;have x:n=Eg (Zr p b q r):=x;refine jL (Z':=[.fr (.ob 0 p),k7 f,k7 g,.fr (Eg b),.fr (Eg r),k7 q,.fr n,.un]) rfl ?_;refine⟨rfl,λb1 u=>⟨rfl,λD j=>⟨⟨r,Zr p b q r,k7 q,.fr n,k,?_,I,by lia,l⟩,?_⟩⟩⟩
  .have u:b1=Eg r:=u;have j:D=n:=j;rw[u,j,x];rfl
  .have j:D=n:=j;show ln (kW (m7 D 0))<ln r.1;rw[j,x];exact M
 .have c:¬¬r.1=[]:=c;have c:r.1=[]:=gS.mp c;have a1:=S.l1;have a2:=S.l2;have a4:=S.l4;obtain⟨k,rfl⟩:∃n,k=n+1:=⟨k-1,by lia⟩;have l:b=Nv p f g:=by rw[<- L];unfold RJ;rw[af c]
  refine⟨⟨⟨rfl,⟨⟨rfl,tJ,K8 b⟩,rfl⟩,tJ⟩,p,b.1,rfl,d,S.rb.f1.form,S.rb.f1.red⟩,λt z=>?_⟩;have z:t=wF p b.1:=z;have F:t.natAbs<2^9000:=by rw[z];exact Zk d
  refine jL (Z':=[.fr (.ob 0 p),k7 f,k7 g,.fr (Eg b),.fr (Eg r),G,B,k6 t]) rfl ?_;refine⟨⟨⟨⟨rfl,⟨⟨rfl,tJ,K8 b⟩,rfl⟩,rfl,tJ⟩,p,b.1,t,rfl,by lia,F,S.rb.f1.bd d⟩,⟨⟨rfl,⟨⟨rfl,tJ,Wx b⟩,rfl⟩,rfl,tJ⟩,p,b.2.1,t,rfl,by lia,F,S.rb.f2.bd d⟩,⟨⟨rfl,⟨⟨rfl,tJ,Y8 b⟩,rfl⟩,rfl,tJ⟩,p,b.2.2,t,rfl,by lia,F,S.rb.f3.bd d⟩,tJ⟩,?_⟩;show PV.tup [.ints (HJ t p b.1),.ints (HJ t p b.2.1),.ints (HJ t p b.2.2)]=Eg (I9 p f g);unfold I9;rw[<- l,z];rfl
def Lj:Ok P w K mg base 3 "slope" ["kind","f"] (Ew K (ph U) (λas=>∃z f,as=[.ob 0 z,.ints f]/\ln f<=1000) λas=>match as with|[.ob 0 z,.ints f]=>lq (((f.mapIdx λk n=>(k:Int)*n).drop 1).map (pl z))|_=>[]):=by
 refine IV T.WD Sx (λ_ ⟨a,b,h,_⟩=>h▸rfl) (λf d A o s H E i=>⟨_,(jw (mD (pD (kj T) i (jq (xv 0) (jq (jM (rH (jM (UV (N':=["at","number"]) (cap:=[]) (nQ rfl rfl rfl rfl tJ tJ rfl) rfl (by rfl) T.mO (xl 1) (λ_ _ _=>(pg_tup rfl (pgs_cons (oW 0) (pgs_cons (oW 1) pgs_nil)))) (λ_ _ _=>(nW (xn 0) (xn 1))))) (nR jt) pG (λ_ _=>.inl rfl))) ju))))),λas g=>?_⟩);obtain⟨z,f,rfl,c⟩:=g;refine⟨⟨⟨rfl,⟨⟨⟨rfl,c,λk n e=>⟨rfl,rfl,?_⟩⟩,tJ,tJ⟩,tJ⟩⟩,z,_,rfl,?_⟩,?_⟩
 .have j:k<ln f:=(ao.mp e).1;exact xZ ⟨by show -(2:Int)^64<(k:Int);lia,by show(k:Int)<(2:Int)^64;lia⟩
 .refine aA (Do _ _ _) ?_;rw[cM];exact c
 .show lq ((qU (f.mapIdx λk n=>(k:Int)*n) (some ((1:Nat):Int)) none).map (pl z))=_;rw[vL];rfl
def S8:Ok P w K mg base 2 "value" ["kind","f","number"] (Hw K (ph U) (λas=>∃z f n,as=[.ob 0 z,.ints f,.int n]/\0<=z/\z<((2^9000:Nat):Int)/\ln f<=80/\n.natAbs<=2^100/\∀m∈f,m.natAbs<=2^200) λas=>match as with|[.ob 0 z,.ints f,.int n]=>pl z (ev f n)|_=>0):=by
 refine uK T.Yl uR (λ_ ⟨a,b,c,h,_⟩=>h▸rfl) (λf C A r s H E x=>⟨_,(jr (jH (i:=3) uR.nd rfl k4 (qR 0 (p7 T) x (jq (xn 2) ju))) (jr (jH (i:=4) uR.nd rfl k4 jt) (jr (VL (k:=5) aB rfl (by rfl) T.MF (xl 1) uR.nd rfl k4 (jw (jH (i:=4) uR.nd rfl k4 (qR 0 (p7 T) x (jq (lO (nW (xn 4) (xn 3)) (xn 5)) ju))))) (jw (jD (xn 4)))))),λas J=>?_⟩)
 obtain⟨z,f,n,rfl,y,d,M,t,I⟩:=J;refine⟨⟨rfl,⟨rfl,tJ⟩,tJ,tJ⟩,λp g=>?_⟩;have g:p=pl z n:=g;refine⟨tJ,λB j=>?_⟩;have j:B=0:=j;refine⟨rfl,λi Z=>∃v,Z=[.fr (.ob 0 z),k7 f,k6 n,k6 p,k6 (pl z (ev (f.drop (ln f-i)) n)),v],⟨.un,?_⟩,?_,?_⟩
 .have e:pl z (ev (f.drop (ln f-0)) n)=B:=by
   rw[gC,List.drop_length,j];show pl z 0=0;unfold pl;split
   .rfl
   .exact jb z
  rw[e];rfl
 .rintro i m Z o l ⟨v,rfl⟩;have o:i<ln f:=o;have l:f[ln f-1-i]?=some m:=l;have F:=Q0 o l;have L:(ev (f.drop (ln f-i)) n).natAbs<2^9000:=VF t (by rw[aZ];lia) λk G=>I k (iJ G);have q:n.natAbs<2^9000:=aO t (a7 (by decide) (by decide));refine⟨⟨rfl,⟨⟨⟨rfl,rfl,?_⟩,rfl⟩,tJ⟩,tJ,tJ⟩,λu e=>?_⟩
  .show IntMulOk (pl z (ev (f.drop (ln f-i)) n)) p;rw[g];exact qx (n:=9000) (m:=9000) (Dh y d L) (Dh y d q)
  .have e:u=pl z (pl z (ev (f.drop (ln f-i)) n)*p+m):=e;rw[g,horner]at e;have D:u=pl z (ev (f.drop (ln f-(i+1))) n):=by rw[F,e];rfl
   subst D;exact⟨_,rfl⟩
 .rintro Z ⟨v,rfl⟩;refine⟨rfl,?_⟩;show PV.int (pl z (ev (f.drop (ln f-ln f)) n))=PV.int (pl z (ev f n));rw[Nat.sub_self,iN]
def dl (f:List Int):List Int:=(List.range (ln f)).map λ(n:Nat)=>((n:Int)+1)*f.getD (n+1) 0
def t7 (f:Li)(n:Nat):(dl f).getD n 0=((n:Int)+1)*f.getD (n+1) 0:=by
 unfold dl;by_cases h:n<ln f
 .rw[jK (by rw[aa,ag];exact h),bi,bp]
 .rw[jz (by rw[aa,ag];lia),jz (by lia),aQ]
def ab2 (u v:Li)(n:Nat):((n:Int)+1)*cm u v (n+1)=cm (dl u) v n+cm u (dl v) n:=by
 have e:cm (dl u) v n=sm (n+1+1) λi=>(i:Int)*(u.getD i 0*v.getD (n+1-i) 0):=by rw[qK];unfold cm;rw[show((0:Nat):Int)*(u.getD 0 0*v.getD (n+1-0) 0)=0 by rw[Int.natCast_zero,bJ],cD];refine jG λi _=>?_;rw[t7,show n+1-(i+1)=n-i by lia,bH];rfl
 have a:cm u (dl v) n=sm (n+1+1) λi=>((n:Int)+1-(i:Int))*(u.getD i 0*v.getD (n+1-i) 0):=by show sm (n+1) _=sm (n+1) _+((n:Int)+1-((n+1:Nat):Int))*_;rw[show(n:Int)+1-((n+1:Nat):Int)=0 by lia,bJ,bC];refine jG λi h=>?_;rw[t7,show n-i+1=n+1-i by lia,show((n-i:Nat):Int)+1=(n:Int)+1-(i:Int) by lia,gR]
 rw[e,a,<- tZ];unfold cm;rw[<- oA];refine jG λi _=>?_;rw[<- eS];congr 1;lia
def ZZ (u v:Li)(n:Nat):(dl (jy u v)).getD n 0=cm (dl u) v n+cm u (dl v) n:=by rw[t7,jx,ab2]
def Co (p:Int)(f g:List Int):Prop:=Lc p f g [1]
def Sq (p:Int)(f:List Int):Prop:=Co p f (dl f)
def acV (b a:Int)(f:Li)(n:Nat):cm [b,a] f n=b*f.getD n 0+if n=0 then 0 else a*f.getD (n-1) 0:=by
 rw[oK];congr 1;split
 .rfl
 .rw[X4]
def qj:Nat->Nat->Int
 |_,0=>1
 |0,_+1=>0
 |n+1,k+1=>qj n k+qj n (k+1)
def vA (n:Nat):qj n 0=1:=by cases n<;>rfl
def vM:∀{n k:Nat},n<k->qj n k=0
 |0,k+1,_=>rfl
 |n+1,k+1,h=>by show qj n k+qj n (k+1)=0;rw[vM (by lia),vM (by lia)];rfl
def Lh:∀n,qj n n=1
 |0=>rfl
 |n+1=>by show qj n n+qj n (n+1)=1;rw[Lh n,vM (by lia)];rfl
def Ag:∀n k:Nat,((k:Int)+1)*qj (n+1) (k+1)=((n:Int)+1)*qj n k
 |0,0=>by rfl
 |0,k+1=>by have b:qj (0+1) (k+1+1)=0:=vM (by lia);have a:qj 0 (k+1)=0:=rfl;rw[b,a,aQ,aQ]
 |n+1,0=>by have h:=Ag n 0;have e:qj (n+1+1) (0+1)=qj (n+1) 0+qj (n+1) (0+1):=rfl;rw[e,fE,h,vA,vA];lia
 |n+1,j+1=>by
  have h1:=Ag n (j+1);have h2:=Ag n j;have e:qj (n+1+1) (j+1+1)=qj (n+1) (j+1)+qj (n+1) (j+1+1):=rfl;have a:qj (n+1) (j+1)=qj n j+qj n (j+1):=rfl;rw[e,fE,h1];have c:(((j+1:Nat):Int)+1)*qj (n+1) (j+1)=((j:Int)+1)*qj (n+1) (j+1)+qj (n+1) (j+1):=by rw[eS,cj];rfl
  rw[c,h2];have d:(((n+1:Nat):Int)+1)*qj (n+1) (j+1)=((n:Int)+1)*qj (n+1) (j+1)+qj (n+1) (j+1):=by rw[eS (((n+1:Nat):Int)),cj];rfl
  have f:((n:Int)+1)*qj (n+1) (j+1)=((n:Int)+1)*qj n j+((n:Int)+1)*qj n (j+1):=by rw[a,fE]
  rw[d,f];lia
def Yc (e:jR p){n j:Nat}(c:(n:Int)+1=p)(f:j<n):p ∣ qj (n+1) (j+1):=by
 have h:=Ag n j;have g:Int.gcd ((j:Int)+1) (p^1)=1:=Gr e (by rw[br (by lia) (by lia)];lia) 1;rw[i5]at g;have d:p ∣ ((j:Int)+1)*qj (n+1) (j+1):=by rw[h,c];exact Int.dvd_mul_right _ _
 have a:=dU.mpr d;rw[gH]at a;have b:Nat.Coprime p.natAbs ((j:Int)+1).natAbs:=by show Nat.gcd p.natAbs ((j:Int)+1).natAbs=1;rw[Nat.gcd_comm];exact g
 exact dU.mp (b.dvd_of_dvd_mul_left a)
def Wf {F:Nat->Nat->Nat->Int}(h:∀i j n,F i j (n+1)=F (i+1) j n+F i (j+1) n):∀n i j,F i j n=sm (n+1) λk=>qj n k*F (i+k) (j+(n-k)) 0
 |0,i,j=>by show F i j 0=0+1*F (i+0) (j+(0-0)) 0;rw[cj,cD];rfl
 |n+1,i,j=>by
  rw[h,Wf h n (i+1) j,Wf h n i (j+1),qK (λk=>qj (n+1) k*F (i+k) (j+(n+1-k)) 0) (n+1)];have f:sm (n+1) (λk=>qj n k*F (i+k) (j+1+(n-k)) 0)=sm (n+2) (λk=>qj n k*F (i+k) (j+1+(n-k)) 0):=
   (Ax (by lia) λk h1 h2=>by rw[vM (by lia),bJ]).symm
  rw[f,qK (λk=>qj n k*F (i+k) (j+1+(n-k)) 0) (n+1)];have g:qj (n+1) 0*F (i+0) (j+(n+1-0)) 0=qj n 0*F (i+0) (j+1+(n-0)) 0:=by
   rw[vA,vA];have:j+(n+1-0)=j+1+(n-0):=by lia
   rw[this]
  have l:sm (n+1) (λk=>qj (n+1) (k+1)*F (i+(k+1)) (j+(n+1-(k+1))) 0)=sm (n+1) (λk=>qj n k*F (i+1+k) (j+(n-k)) 0)+sm (n+1) (λk=>qj n (k+1)*F (i+(k+1)) (j+1+(n-(k+1))) 0):=by
   rw[<- tZ];refine jG λk m=>?_;have a:i+1+k=i+(k+1):=by lia
   have b:j+(n+1-(k+1))=j+(n-k):=by lia
   have d:qj (n+1) (k+1)=qj n k+qj n (k+1):=rfl;rw[a,b,d,eS];by_cases c:k=n
   .rw[vM (show n<k+1 by lia),bJ,bJ]
   .have e:j+1+(n-(k+1))=j+(n-k):=by lia
    rw[e]
  rw[g,l];lia
def Tw (b:jR p){F:Nat->Nat->Nat->Int}(h:∀i j n,F i j (n+1)=F (i+1) j n+F i (j+1) n):p ∣ F 0 0 p.toNat-(F p.toNat 0 0+F 0 p.toNat 0):=by
 have q:2<=p:=b.1;obtain⟨n,hn⟩:∃n,p.toNat=n+1:=⟨p.toNat-1,by lia⟩;have a:(n:Int)+1=p:=by lia
 rw[hn,Wf h (n+1) 0 0];have e:sm (n+1+1) (λk=>qj (n+1) k*F (0+k) (0+(n+1-k)) 0)=qj (n+1) 0*F (0+0) (0+(n+1-0)) 0+sm n (λk=>qj (n+1) (k+1)*F (0+(k+1)) (0+(n+1-(k+1))) 0)+qj (n+1) (n+1)*F (0+(n+1)) (0+(n+1-(n+1))) 0:=by show sm (n+1) _+_=_;rw[qK]
 rw[e,vA,Lh,cj,cj];have c:0+(n+1-0)=n+1:=by lia
 have f:0+(n+1-(n+1))=0:=by lia
 have g:0+(n+1)=n+1:=by lia
 rw[c,f,g];have d:p ∣ sm n (λk=>qj (n+1) (k+1)*F (0+(k+1)) (0+(n+1-(k+1))) 0):=oG λk o=>be (Yc b a o);have l:F (0+0) (n+1) 0=F 0 (n+1) 0:=rfl;rw[l];generalize sm n (λk=>qj (n+1) (k+1)*F (0+(k+1)) (0+(n+1-(k+1))) 0)=S at *
 have m:F 0 (n+1) 0+S+F (n+1) 0 0-(F (n+1) 0 0+F 0 (n+1) 0)=S:=by lia
 rw[m];exact d
def V5 {p:Int}(g:jR p)(d a b:Li):lX p d (pw (kJ a b) p.toNat) (kJ (pw a p.toNat) (pw b p.toNat)):=.of λx=>by
 have h:=Tw g (F:=λi j n=>cm (jy (pw a i) (pw b j)) (pw (kJ a b) n) x) λi j n=>by
  show cm (jy (pw a i) (pw b j)) (jy (pw (kJ a b) n) (kJ a b)) x=cm (jy (jy (pw a i) a) (pw b j)) (pw (kJ a b) n) x+cm (jy (pw a i) (jy (pw b j) b)) (pw (kJ a b) n) x;generalize pw (kJ a b) n=W;generalize pw a i=A;generalize pw b j=B;rw[<- m6,jN,qF];have k:cm a (jy (jy A B) W) x=cm (jy (jy A a) B) W x:=by rw[<- m6];refine xM (λn=>?_) (λ_=>rfl) x;rw[jx,jx,<- m6];exact xM (λn=>by rw[jx,jx,jN]) (λ_=>rfl) n
  have l:cm b (jy (jy A B) W) x=cm (jy A (jy B b)) W x:=by rw[<- m6];refine xM (λn=>?_) (λ_=>rfl) x;rw[jx,jx,jN,m6]
  rw[k,l]
 have e:cm (jy (pw a 0) (pw b 0)) (pw (kJ a b) p.toNat) x=(pw (kJ a b) p.toNat).getD x 0:=by rw[jN,<- u9 (pw (kJ a b) p.toNat) x];refine xM (λ_=>rfl) (λn=>?_) x;rw[jx];exact u9 _ n
 have c:cm (jy (pw a p.toNat) (pw b 0)) (pw (kJ a b) 0) x=(pw a p.toNat).getD x 0:=by show cm (jy (pw a p.toNat) [1]) [1] x=_;rw[u9,jx,u9]
 have f:cm (jy (pw a 0) (pw b p.toNat)) (pw (kJ a b) 0) x=(pw b p.toNat).getD x 0:=by show cm (jy [1] (pw b p.toNat)) [1] x=_;rw[u9,jx,jN,u9]
 rw[e,c,f]at h;rw[jJ];exact h
def pw_1 (p:Int)(d:Li):∀n,lX p d (pw [1] n) [1]
 |0=>.refl p d _
 |n+1=>(lX.one p d (pw [1] n)).trans (pw_1 p d n)
def pw_c (h:jR p)(d:Li):∀c:Nat,lX p d (pw [(c:Int)] p.toNat) [(c:Int)]
 |0=>by
  have a:2<=p:=h.1;obtain⟨n,hn⟩:∃n,p.toNat=n+1:=⟨p.toNat-1,by lia⟩;rw[hn];have z:∀n,([((0:Nat):Int)]:List Int).getD n 0=0:=λn=>by cases n<;>rfl
  refine Sm.eqm λk=>?_;show(jy (pw [((0:Nat):Int)] n) [((0:Nat):Int)]).getD k 0=_;rw[jx,jN,z8 z,z]
 |c+1=>by have e:([((c+1:Nat):Int)]:List Int)=kJ [(c:Int)] [1]:=rfl;rw[e];exact(V5 h d [(c:Int)] [1]).trans ((pw_c h d c).add (pw_1 p d _))
def pw_mul (p:Int)(d a b:Li):∀n,lX p d (pw (jy a b) n) (jy (pw a n) (pw b n))
 |0=>(lX.one p d [1]).symm
 |n+1=>by show lX p d (jy (pw (jy a b) n) (jy a b)) (jy (jy (pw a n) a) (jy (pw b n) b));refine((pw_mul p d a b n).mul _).trans ?_;generalize pw a n=A;generalize pw b n=B;have x:lX p d (jy B (jy a b)) (jy a (jy B b)):=(lX.rA p d B a b).symm.trans (((lX.comm p d B a).mul b).trans (lX.rA p d a B b));exact(lX.rA p d A B (jy a b)).trans (((lX.refl p d A).Hk x).trans (lX.rA p d A a (jy B b)).symm)
def lcb (X:Nat->List Int):List Int->Nat->List Int
 |[],_=>[]
 |c::t,s=>kJ (zJ c (X s)) (lcb X t (s+1))
def Ol (X:Nat->List Int)(j:Nat):∀(f:Li) (s:Nat),(lcb X f s).getD j 0=sm (ln f) λk=>f.getD k 0*(X (s+k)).getD j 0
 |[],s=>by show([]:List Int).getD j 0=0;rfl
 |c::t,s=>by
  show(kJ (zJ c (X s)) (lcb X t (s+1))).getD j 0=sm (ln t+1) _;rw[jJ,j8,Ol X j t (s+1),qK];have e:sm (ln t) (λk=>t.getD k 0*(X (s+1+k)).getD j 0)=sm (ln t) λi=>(c::t).getD (i+1) 0*(X (s+(i+1))).getD j 0:=jG λi _=>by
   have a:s+1+i=s+(i+1):=by lia
   rw[a];rfl
  rw[e];rfl
def acy (a:jR p)(d:Li):∀(f:Li),(∀m∈f,0<=m)->∀s,lX p d (jy (pw (pw [0,1] p.toNat) s) (pw f p.toNat)) (lcb (pw (pw [0,1] p.toNat)) f s)
 |[],_,s=>by
  have r:2<=p:=a.1;obtain⟨n,hn⟩:∃n,p.toNat=n+1:=⟨p.toNat-1,by lia⟩;refine Sm.eqm λk=>?_;have z:∀k,(pw [] p.toNat).getD k 0=0:=λk=>by rw[hn];show(jy (pw [] n) []).getD k 0=0;rw[jx,jN,lY]
  rw[jx,jN,z8 z];rfl
 |c::t,h,s=>by
  have q:0<=c:=h c (ah ..);obtain⟨b,ec⟩:∃b:Nat,c=(b:Int):=⟨c.toNat,by lia⟩;have o:=acy a d t (λm l=>h m (ad _ l)) (s+1);have g:Sm (c::t) (kJ [c] (jy [0,1] t)):=λn=>by
   rw[jJ,jx,oK,bJ,cD]
   match n with
   |0=>rw[af rfl,bC];rfl
   |n+1=>
    have e:([c]:List Int).getD (n+1) 0=0:=by rfl
    rw[ae (by lia),e,cD,jN,fq,u9];rfl
  have i:lX p d (pw (c::t) p.toNat) (kJ [c] (jy (pw [0,1] p.toNat) (pw t p.toNat))):=by refine(pw_mod g.eqm _).trans ((V5 a d _ _).trans (lX.add ?_ (pw_mul p d _ _ _)));rw[ec];exact pw_c a d b
  refine((lX.refl p d (pw (pw [0,1] p.toNat) s)).Hk i).trans ?_;have j:Sm (jy (pw (pw [0,1] p.toNat) s) (kJ [c] (jy (pw [0,1] p.toNat) (pw t p.toNat)))) (kJ (zJ c (pw (pw [0,1] p.toNat) s)) (jy (pw (pw [0,1] p.toNat) s) (jy (pw [0,1] p.toNat) (pw t p.toNat)))):=λn=>by
   rw[jx,jN,qF,jJ,j8,jx,jN (pw (pw [0,1] p.toNat) s),oK];by_cases k:n=0
   .rw[af k,bC]
   .rw[ae k,lY,bC]
  refine j.eqm.trans ?_;exact(lX.refl p d _).add ((lX.rA p d _ _ _).symm.trans o)
def W2 (h:a ∣ b*c)(g:Int.gcd a b=1):a ∣ c:=by have d:=dU.mpr h;rw[gH]at d;exact dU.mp (Nat.Coprime.dvd_of_dvd_mul_left g d)
def Yw (d:jR p)(h:p ∣ a*b):p ∣ a\/p ∣ b:=by
 by_cases c:a % p=0
 .exact .inl (g7 c)
 .right;have g:=d.PB c;rw[Int.gcd_comm]at g;exact W2 h g
def mL (a:jR p)(h:¬p ∣ x):∃t,p ∣ t*x-1:=by
 have g:=a.PB (b:=x) λz=>h (g7 z);obtain⟨t,_,_,e⟩:=NQ a.1 g;refine⟨t,?_⟩;have c:=gq e;have:t*x-1 = -(1-t*x):=by lia
 rw[this];exact aV.mpr c
def RL (p:Int):Setoid (List Int):=⟨λa b=>∀n,p ∣ a.getD n 0-b.getD n 0,λa n=>by rw[ck];exact aS p,
 λ{a b} h n=>by
  have e:b.getD n 0-a.getD n 0 = -(a.getD n 0-b.getD n 0):=by lia
  rw[e];exact aV.mpr (h n),
 λ{a b c} h k n=>by
  have e:a.getD n 0-c.getD n 0=(a.getD n 0-b.getD n 0)+(b.getD n 0-c.getD n 0):=by lia
  rw[e];exact aU (h n) (k n)⟩
def Pl (p:Int):Type:=Quotient (RL p)
namespace Pl
variable {p:Int}
def mk (p:Int)(a:List Int):Pl p:=Quotient.mk (RL p) a
def lZ:mk p a=mk p b ↔ ∀n,p ∣ a.getD n 0-b.getD n 0:=⟨λh=>Quotient.exact (s:=RL p) h,λh=>Quotient.sound (s:=RL p) h⟩
def ext (h:∀n,a.getD n 0=b.getD n 0):mk p a=mk p b:=lZ.mpr λn=>by rw[h n,ck];exact aS p
def rep (x:Pl p):∃a,x=mk p a:=Quotient.inductionOn (s:=RL p) x λa=>⟨a,rfl⟩
def add (x y:Pl p):Pl p:=Quotient.lift₂ (s₁:=RL p) (s₂:=RL p) (λa b=>mk p (kJ a b)) (λa b c d h k=>lZ.mpr λn=>by
 rw[jJ,jJ];have e:a.getD n 0+b.getD n 0-(c.getD n 0+d.getD n 0)=(a.getD n 0-c.getD n 0)+(b.getD n 0-d.getD n 0):=by lia
 rw[e];exact aU (h n) (k n)) x y
def mul (x y:Pl p):Pl p:=Quotient.lift₂ (s₁:=RL p) (s₂:=RL p) (λa b=>mk p (jy a b)) (λa b c d h k=>lZ.mpr λn=>by
 rw[jx,jx];have e:cm a b n-cm c d n=(cm a b n-cm c b n)+(cm b c n-cm d c n):=by rw[jN b c,jN d c];lia
 rw[e];exact aU (su h n) (su k n)) x y
def neg (x:Pl p):Pl p:=Quotient.lift (s:=RL p) (λa=>mk p (zJ (-1) a)) (λa b h=>lZ.mpr λn=>by
 rw[j8,j8];have e:-1*a.getD n 0 - -1*b.getD n 0 = -(a.getD n 0-b.getD n 0):=by lia
 rw[e];exact aV.mpr (h n)) x
def con (p c:Int):Pl p:=mk p [c]
instance:Add (Pl p):=⟨add⟩
instance:Mul (Pl p):=⟨mul⟩
instance:Neg (Pl p):=⟨neg⟩
instance:Sub (Pl p):=⟨λa b=>a + -b⟩
instance:NatCast (Pl p):=⟨λk=>con p (k:Int)⟩
instance:IntCast (Pl p):=⟨con p⟩
instance (k:Nat):OfNat (Pl p) k:=⟨con p (k:Int)⟩
instance:SMul Nat (Pl p):=⟨λk a=>con p (k:Int)*a⟩
instance:SMul Int (Pl p):=⟨λk a=>con p k*a⟩
def pow (a:Pl p):Nat->Pl p
 |0=>con p 1
 |n+1=>pow a n*a
instance:HPow (Pl p) Nat (Pl p):=⟨pow⟩
def m8 (a b:Li):mk p a+mk p b=mk p (kJ a b):=rfl
def lM (a b:Li):mk p a*mk p b=mk p (jy a b):=rfl
def yV (a:Li):-mk p a=mk p (zJ (-1) a):=rfl
def X3:(1:Pl p)=mk p [1]:=rfl
def uW:(0:Pl p)=mk p [0]:=rfl
def mul_comm (x y:Pl p):x*y=y*x:=by obtain⟨a,rfl⟩:=rep x;obtain⟨b,rfl⟩:=rep y;rw[lM,lM];exact ext λn=>by rw[jx,jx,jN]
def mul_assoc (x y z:Pl p):x*y*z=x*(y*z):=by obtain⟨a,rfl⟩:=rep x;obtain⟨b,rfl⟩:=rep y;obtain⟨c,rfl⟩:=rep z;rw[lM,lM,lM,lM];exact ext λn=>by rw[jx,jx,m6]
def sJ (c:Int)(a:Li):con p c*mk p a=mk p (zJ c a):=by unfold con;rw[lM];exact ext λn=>by rw[jx,j8,X4]
def one_mul (x:Pl p):1*x=x:=by obtain⟨a,rfl⟩:=rep x;show con p 1*mk p a=mk p a;rw[sJ];exact ext λn=>by rw[j8,cj]
def DQ (n:Nat):([0]:Li).getD n 0=0:=by cases n<;>rfl
def zero_mul (x:Pl p):0*x=0:=by obtain⟨a,rfl⟩:=rep x;show con p 0*mk p a=mk p [0];rw[sJ];exact ext λn=>by rw[j8,bJ,DQ]
def O5 (x y z:Pl p):x*(y+z)=x*y+x*z:=by obtain⟨a,rfl⟩:=rep x;obtain⟨b,rfl⟩:=rep y;obtain⟨c,rfl⟩:=rep z;rw[m8,lM,lM,lM,m8];exact ext λn=>by rw[jx,jJ,jx,jx,jN,qF,jN b a,jN c a]
def add_comm (x y:Pl p):x+y=y+x:=by obtain⟨a,rfl⟩:=rep x;obtain⟨b,rfl⟩:=rep y;rw[m8,m8];exact ext λn=>by rw[jJ,jJ,gB]
def acW (c d:Int)(n:Nat):([c+d]:Li).getD n 0=([c]:Li).getD n 0+([d]:Li).getD n 0:=by cases n<;>rfl
def Ab (c d:Int):con p (c+d)=con p c+con p d:=by unfold con;rw[m8];exact ext λn=>by rw[jJ,acW]
def HB (c:Int):con p (-c) = -con p c:=by
 unfold con;rw[yV];exact ext λn=>by
  rw[j8];cases n with
  |zero=>show -c = -1*c;lia
  |succ n=>rfl
instance:Lean.Grind.CommRing (Pl p) where
 add_zero x:=by obtain⟨a,rfl⟩:=rep x;rw[uW,m8];exact ext λn=>by rw[jJ,DQ,bC]
 add_comm:=add_comm
 add_assoc x y z:=by obtain⟨a,rfl⟩:=rep x;obtain⟨b,rfl⟩:=rep y;obtain⟨c,rfl⟩:=rep z;rw[m8,m8,m8,m8];exact ext λn=>by rw[jJ,jJ,jJ,jJ,Int.add_assoc]
 mul_assoc:=mul_assoc
 mul_one x:=by rw[mul_comm,one_mul]
 one_mul:=one_mul
 left_distrib:=O5
 right_distrib a b c:=by rw[mul_comm,O5,mul_comm c,mul_comm c]
 mul_zero x:=by rw[mul_comm,zero_mul]
 zero_mul:=zero_mul
 pow_zero _:=rfl
 pow_succ _ _:=rfl
 ofNat_succ k:=by show con p ((k+1:Nat):Int)=con p (k:Int)+con p 1;rw[<- Ab];rfl
 ofNat_eq_natCast _:=rfl
 nsmul_eq_natCast_mul _ _:=rfl
 neg_add_cancel x:=by obtain⟨a,rfl⟩:=rep x;rw[uW,yV,m8];exact ext λn=>by rw[jJ,j8,DQ];lia
 sub_eq_add_neg _ _:=rfl
 neg_zsmul i x:=by show con p (-i)*x = -(con p i*x);obtain⟨a,rfl⟩:=rep x;rw[sJ,sJ,yV];exact ext λn=>by rw[j8,j8,j8,<- bH,fk]
 zsmul_natCast_eq_nsmul _ _:=rfl
 intCast_ofNat _:=rfl
 intCast_neg i:=HB i
 mul_comm:=mul_comm
def dv (x:Pl p):Pl p:=Quotient.lift (s:=RL p) (λa=>mk p (dl a)) (λa b h=>lZ.mpr λn=>by
 rw[t7,t7,<- cr];exact aL (h (n+1))) x
def Bw (a:Li):dv (mk p a)=mk p (dl a):=rfl
def Nh (x y:Pl p):dv (x*y)=dv x*y+x*dv y:=by obtain⟨a,rfl⟩:=rep x;obtain⟨b,rfl⟩:=rep y;rw[lM,Bw,Bw,Bw,lM,lM,m8];exact ext λn=>by rw[ZZ,jJ,jx,jx]
def LQ (c:Int):dv (con p c)=0:=by unfold con;rw[Bw,uW];exact ext λn=>by rw[t7,DQ];exact aQ _
def Hz (x:Pl p):∀n:Nat,dv (x^(n+1))=con p ((n+1:Nat):Int)*x^n*dv x
 |0=>by show dv (con p 1*x)=con p 1*con p 1*dv x;rw[Nh,LQ];have e:con p 1=(1:Pl p):=rfl;rw[e];grind
 |n+1=>by
  have h:=Hz x n;have a:x^(n+1+1)=x^(n+1)*x:=rfl;have b:x^(n+1)=x^n*x:=rfl;have c:con p ((n+1+1:Nat):Int)=con p ((n+1:Nat):Int)+1:=by have z:((n+1+1:Nat):Int)=((n+1:Nat):Int)+1:=rfl;rw[z];exact Ab _ 1
  rw[a,Nh,h,c,b];grind
def oJ (a b:Pl p):Prop:=∃s t:Pl p,s*a+t*b=1
def oJ.symm {a b:Pl p}(h:oJ a b):oJ b a:=by obtain⟨s,t,h⟩:=h;exact⟨t,s,by grind⟩
def oJ.one (a:Pl p):oJ a 1:=⟨0,1,by grind⟩
def oJ.mul {a b c:Pl p}(h:oJ a c)(k:oJ b c):oJ (a*b) c:=by obtain⟨s,t,h⟩:=h;obtain⟨u,v,k⟩:=k;exact⟨s*u,s*a*v+t*u*b+t*v*c,by grind⟩
def oJ.pow {a c:Pl p}(h:oJ a c):∀n:Nat,oJ (a^n) c
 |0=>(oJ.one c).symm
 |n+1=>(h.pow n).mul h
def oJ.pO {a b c:Pl p}(h:oJ a b)(e:∃u,c=b+u*a):oJ a c:=by obtain⟨s,t,h⟩:=h;obtain⟨u,e⟩:=e;exact⟨s-t*u,t,by grind⟩
structure Gd (a b d:Pl p):Prop where
 lc:∃s t:Pl p,d=s*a+t*b
 d1:∃u,a=u*d
 d2:∃u,b=u*d
def oJ.gd (h:oJ a b)(d:Pl p):Gd (a*d) (b*d) d:=by obtain⟨s,t,h⟩:=h;exact⟨⟨s,t,by grind⟩,⟨a,rfl⟩,⟨b,rfl⟩⟩
def Pr (L:List (Pl p×Nat))(g:Nat->Nat):Pl p:=L.foldr (λq x=>q.1^g q.2*x) 1
def kI (q:Pl p×Nat)(L:List (Pl p×Nat))(g:Nat->Nat):Pr (q::L) g=q.1^g q.2*Pr L g:=rfl
def pow_add (a:Pl p)(m:Nat):∀n:Nat,a^(m+n)=a^m*a^n
 |0=>by have e:a^0=(1:Pl p):=rfl;rw[e];grind
 |n+1=>by have h:=pow_add a m n;have b:a^(m+(n+1))=a^(m+n)*a:=rfl;have c:a^(n+1)=a^n*a:=rfl;rw[b,c,h];grind
def wY (g h:Nat->Nat):∀L:List (Pl p×Nat),Pr L (λm=>g m+h m)=Pr L g*Pr L h
 |[]=>(one_mul 1).symm
 |q::L=>by rw[kI,kI,kI,wY g h L,pow_add];grind
def nu:∀{L:List (Pl p×Nat)},(∀q∈L,g q.2=h q.2)->Pr L g=Pr L h
 |[],_=>rfl
 |q::L,e=>by rw[kI,kI,e q (ah ..),nu λr a=>e r (ad _ a)]
def BJ {g h:Nat->Nat}{L:List (Pl p×Nat)}(e:∀q∈L,h q.2<=g q.2):Pr L g=Pr L (λm=>g m-h m)*Pr L h:=by rw[<- wY];exact nu λq a=>by have:=e q a;show g q.2=g q.2-h q.2+h q.2;lia
def Apart (L:List (Pl p×Nat)):Prop:=L.Pairwise λq r=>oJ q.1 r.1
def Ly (c:Pl p)(g:Nat->Nat):∀{L:List (Pl p×Nat)},(∀q∈L,oJ q.1 c\/g q.2=0)->oJ (Pr L g) c
 |[],_=>(oJ.one c).symm
 |q::L,h=>by
  rw[kI];refine oJ.mul ?_ (Ly c g λr a=>h r (ad _ a));rcases h q (ah ..) with h|h
  .exact h.pow _
  .rw[h];exact(oJ.one c).symm
def TQ (d:∀m,g m=0\/h m=0):∀{L:List (Pl p×Nat)},Apart L->oJ (Pr L g) (Pr L h)
 |[],_=>oJ.one 1
 |q::L,A=>by
  obtain⟨c,f⟩:=cL.mp A;have j:=TQ d f;have b:∀a:Nat->Nat,oJ (Pr L a) q.1:=λa=>Ly q.1 a λr i=>.inl (c r i).symm;rw[kI,kI];refine oJ.mul ?_ (oJ.symm (oJ.mul ?_ j.symm))
  .refine oJ.symm (oJ.mul ?_ ((b h).symm.pow _).symm);rcases d q.2 with e|e
   .rw[e];exact oJ.one _
   .rw[e];exact(oJ.one _).symm
  .exact((b g).symm.pow _)
def acj {g h:Nat->Nat}{L:List (Pl p×Nat)}(A:Apart L):Gd (Pr L g) (Pr L h) (Pr L λm=>min (g m) (h m)):=by rw[BJ (g:=g) (h:=λm=>min (g m) (h m)) (λq _=>Nat.min_le_left ..),BJ (g:=h) (h:=λm=>min (g m) (h m)) (λq _=>Nat.min_le_right ..)];exact(TQ (λm=>by lia) A).gd _
def lw (p:Int)(m:Nat):Nat:=if p ∣ (m:Int) then m else m-1
def ly (p:Int)(m:Nat):Nat:=if p ∣ (m:Int) then 0 else 1
def N6 (h:p ∣ c):con p c=0:=lZ.mpr λn=>by
 cases n with
 |zero=>show p ∣ c-0;rw[aJ];exact h
 |succ n=>exact aS p
def xR (h:p ∣ t*c-1):con p t*con p c=1:=by
 have e:con p t*con p c=mk p (zJ t [c]):=sJ t [c];rw[e,X3];exact lZ.mpr λn=>by
  cases n with
  |zero=>exact h
  |succ n=>exact aS p
def acZ (C D Y E Q W q:Pl p):C*Q*D*(E*Y)+Q*q*(E*W)=Q*E*(C*D*Y+q*W):=by grind
def ac9 {T C q:Pl p}(h:T*C=1):oJ C q:=⟨T,0,by grind⟩
def Kz (a:∀x:Int,¬p ∣ x->∃t,p ∣ t*x-1):∀{L:List (Pl p×Nat)},Apart L->(∀q∈L,oJ q.1 (dv q.1))->∃W,dv (Pr L g)=Pr L (λm=>lw p (g m))*W/\oJ (Pr L λm=>ly p (g m)) W
 |[],_,_=>⟨0,by
   show dv (con p 1)=_;rw[LQ];grind,(oJ.one _).symm⟩
 |q::L,A,S=>by
  obtain⟨u,v⟩:=cL.mp A;obtain⟨W,e,c⟩:=Kz a v λr i=>S r (ad _ i);have y:∀f:Nat->Nat,oJ (Pr L f) q.1:=λf=>Ly q.1 f λr i=>.inl (u r i).symm;have s:Pr L g=Pr L (λm=>lw p (g m))*Pr L λm=>ly p (g m):=by
   rw[<- wY];exact nu λr _=>by
    unfold lw ly;by_cases h:p ∣ (g r.2:Int)
    .rw[af h,af h];rfl
    .rw[ae h,ae h];have:g r.2≠0:=λz=>h (by rw[z];exact aS p);lia
  have sq:=S q (ah ..);simp only[kI];rw[Nh,e];by_cases h:p ∣ (g q.2:Int)
  .refine⟨W,?_,?_⟩
   .have z:dv (q.1^g q.2)=0:=by
     cases H:g q.2 with
     |zero=>exact LQ 1
     |succ n=>rw[Hz,N6 (by rw[<- H];exact h)];grind
    rw[z];have b:lw p (g q.2)=g q.2:=af h;rw[b];grind
   .have b:ly p (g q.2)=0:=af h;rw[b];have d:q.1^0=(1:Pl p):=rfl;rw[d,one_mul];exact c
  .obtain⟨t,I⟩:=a _ h;have o:=xR I;have b:lw p (g q.2)=g q.2-1:=ae h;have d:ly p (g q.2)=1:=ae h;have B:q.1^1=q.1:=one_mul q.1;obtain⟨n,hn⟩:∃n,g q.2=n+1:=⟨g q.2-1,by
    have:g q.2≠0:=λz=>h (by rw[z];exact aS p);lia⟩
   have F:g q.2-1=n:=by lia
   have G:q.1^(n+1)=q.1^n*q.1:=rfl;have l:=y λm=>ly p (g m);rw[b,d,B,s,F];rw[hn]at o;rw[hn,Hz,G];generalize (Pr L λm=>ly p (g m))=Y at *
   generalize (Pr L λm=>lw p (g m))=E at *
   generalize q.1^n=Q at *
   generalize con p ((n+1:Nat):Int)=C at *
   generalize con p t=T at *
   generalize dv q.1=D at *
   generalize q.1=j at *
   refine⟨C*D*Y+j*W,acZ ..,?_⟩;refine oJ.mul ?_ ?_
   .have k:oJ j (C*D*Y):=((oJ.mul (oJ.mul (ac9 o) sq.symm) l)).symm;exact k.pO ⟨W,by rw[mul_comm W]⟩
   .have k:oJ Y (j*W):=(oJ.mul l.symm c.symm).symm;exact k.pO ⟨C*D,add_comm _ _⟩
def acf (a:∀x:Int,¬p ∣ x->∃t,p ∣ t*x-1){g:Nat->Nat}{L:List (Pl p×Nat)}(A:Apart L)(S:∀q∈L,oJ q.1 (dv q.1)):Gd (Pr L g) (dv (Pr L g)) (Pr L λm=>lw p (g m)):=by
 obtain⟨W,e,c⟩:=Kz a (g:=g) A S;have s:Pr L g=Pr L (λm=>ly p (g m))*Pr L λm=>lw p (g m):=by
  rw[<- wY];exact nu λr _=>by
   unfold lw ly;by_cases h:p ∣ (g r.2:Int)
   .rw[af h,af h];lia
   .rw[ae h,ae h];have:g r.2≠0:=λz=>h (by rw[z];exact aS p);lia
 rw[e,mul_comm,s];exact c.gd _
def ls (x:Pl p):List Int:=Quotient.lift (s:=RL p) (Tz p) (λa b h=>oh (j7 p a) (j7 p b) λn=>by
 rw[kh,kh];exact(qu p _ _).mpr (h n)) x
def qg (a:Li):ls (mk p a)=Tz p a:=rfl
def ZK (a:Li):mk p (Tz p a)=mk p a:=lZ.mpr (Mi p a)
def jV (x:Pl p):mk p (ls x)=x:=by obtain⟨a,rfl⟩:=rep x;exact ZK a
def kO (x:Pl p):Fo p (ls x):=by obtain⟨a,rfl⟩:=rep x;exact Fo.tz p a
def rW (x:Pl p):Tz p (ls x)=ls x:=ug (kO x).form (kO x).red
def rD (h:Fo p f):ls (mk p f)=f:=ug h.form h.red
def Mo (x:Pl p):Prop:=jB (ls x)=1
def Mo.ne {x:Pl p}(h:Mo x):ls x≠[]:=HY h
def Mo.pos {x:Pl p}(h:Mo x):0<ln (ls x):=lP h.ne
def XJ (a:2<=p):pl p 1=1:=by rw[lJ (by lia)];exact br (by decide) (by lia)
def uO (a:2<=p):ls (1:Pl p)=[1]:=rD ⟨λ_=>by decide,λn=>by
 cases n with
 |zero=>exact XJ a
 |succ n=>exact lU p⟩
def Mo.one (a:2<=p):Mo (1:Pl p):=by unfold Mo;rw[uO a];rfl
def Mo.Hk (k:2<=p){x y:Pl p}(a:Mo x)(c:Mo y):Mo (x*y)/\ln (ls (x*y))+1=ln (ls x)+ln (ls y):=by
 have q:=a.pos;have ly:=c.pos;have f:ls (x*y)=Tz p (jy (ls x) (ls y)):=by
  have e:x*y=mk p (ls x)*mk p (ls y):=by rw[jV,jV]
  rw[e,lM];rfl
 have a:(ls x).getD (ln (ls x)-1) 0=1:=a;have b:jB (ls y)=1:=c;have top:(Tz p (jy (ls x) (ls y))).getD (ln (ls x)-1+(ln (ls y)-1)) 0=1:=by
  rw[kh,jx,<- XJ k];refine(qu p _ _).mpr ?_;have:=Ln (z:=p) (E:=ls x) (d:=ls y) (i:=ln (ls x)-1) ly λj m=>by rw[jz (by lia)];exact aS p
  rw[a,b,cj]at this;exact this
 have l:ln (Tz p (jy (ls x) (ls y)))<=ln (ls x)+ln (ls y)-1:=m5 (j7 p _) λn o=>by rw[kh,jx,Qq (by lia)];exact lU p
 have g:ln (ls x)-1+(ln (ls y)-1)<ln (Tz p (jy (ls x) (ls y))):=by refine c8 λh=>?_;rw[jz h]at top;exact absurd top (by decide)
 rw[<- f]at l g top;refine⟨?_,by lia⟩;show(ls (x*y)).getD (ln (ls (x*y))-1) 0=1;have e:ln (ls (x*y))-1=ln (ls x)-1+(ln (ls y)-1):=by lia
 rw[e];exact top
def Mo.mul (b:2<=p){x y:Pl p}(h:Mo x)(a:Mo y):Mo (x*y):=(Mo.Hk b h a).1
def Mo.len (b:2<=p){x y:Pl p}(h:Mo x)(a:Mo y):ln (ls (x*y))+1=ln (ls x)+ln (ls y):=(Mo.Hk b h a).2
def Mo.pow (a:2<=p){x:Pl p}(h:Mo x):∀n:Nat,Mo (x^n)
 |0=>Mo.one a
 |n+1=>Mo.mul a (h.pow a n) h
def Mo.pr (a:2<=p):∀{L:List (Pl p×Nat)},(∀q∈L,Mo q.1)->Mo (Pr L g)
 |[],_=>Mo.one a
 |q::L,h=>Mo.mul a ((h q (ah ..)).pow a _) (Mo.pr a λr b=>h r (ad _ b))
def Mo.wW (b:2<=p){x:Pl p}(a:Mo x):∀n:Nat,ln (ls (x^n))=n*(ln (ls x)-1)+1
 |0=>by have e:x^0=(1:Pl p):=rfl;rw[e,uO b];show 1=0*_+1;lia
 |n+1=>by have h:=Mo.len b (a.pow b n) a;have e:x^(n+1)=x^n*x:=rfl;have l:=a.pos;rw[e];rw[Mo.wW b a n]at h;rw[gA];lia
def pN (b:2<=p):∀{L:List (Pl p×Nat)},(∀q∈L,Mo q.1)->(∀q∈L,1<ln (ls q.1))->(1<ln (ls (Pr L g)) ↔ ∃q∈L,g q.2≠0)
 |[],_,_=>by have e:Pr ([]:List (Pl p×Nat)) g=1:=rfl;rw[e,uO b];refine⟨λh=>absurd h (by decide),λ⟨q,h,_⟩=>by cases h⟩
 |q::L,h,d=>by
  have h1:=h q (ah ..);have j:=d q (ah ..);have i:=pN b (g:=g) (λr a=>h r (ad _ a)) (λr a=>d r (ad _ a));have m:Mo (Pr L g):=Mo.pr b λr a=>h r (ad _ a);have f:=Mo.len b (h1.pow b (g q.2)) m;have l:=m.pos;rw[Mo.wW b h1,<- kI]at f;have nz:g q.2*(ln (ls q.1)-1)=0 ↔ g q.2=0:=by rw[Nat.mul_eq_zero];lia
  refine⟨λk=>?_,λ⟨r,a,k⟩=>?_⟩
  .by_cases c:g q.2=0
   .rw[nz.mpr c]at f;obtain⟨r,a,k⟩:=i.mp (by lia);exact⟨r,ad _ a,k⟩
   .exact⟨q,ah ..,c⟩
  .rcases aG.mp a with e|a
   .subst e;have:g r.2*(ln (ls r.1)-1)≠0:=λz=>k (nz.mp z);lia
   .have:=i.mpr ⟨r,a,k⟩;lia
def ab5 (h:Gd (mk p f) (mk p g) d)(m:Mo d):GC p f g (ls d):=by
 obtain⟨⟨s,t,e⟩,⟨u,i⟩,⟨v,j⟩⟩:=h;obtain⟨a,rfl⟩:=rep s;obtain⟨b,rfl⟩:=rep t;obtain⟨c,rfl⟩:=rep u;obtain⟨k,rfl⟩:=rep v;have z:∀{f c:List Int},mk p f=mk p c*d->Dv p (ls d) f:=λ{f c} e=>by
  refine⟨c,λn=>?_⟩;have e:mk p f=mk p (jy c (ls d)):=by rw[<- lM,jV];exact e
  have:=lZ.mp e n;rw[jx]at this;show p ∣ f.getD n 0-0-cm c (ls d) n;rw[aJ];exact this
 refine⟨(kO d).form,(kO d).red,.inr m,⟨a,b,λn=>?_⟩,z i,z j⟩;have e:mk p (ls d)=mk p (kJ (jy a f) (jy b g)):=by rw[jV];exact e
 have:=lZ.mp e n;rw[jJ,jx,jx]at this;exact this
def quo (G:2<=p)(I:wR p f d q r)(rl:ln r<ln d)(mu:Mo u)(m:Mo (mk p d))(y:Fo p f)(v:Fo p d)(e:mk p f=u*mk p d):q=ls u/\r=[]:=by
 have g:ls (mk p d)=d:=rD v;have t:ls (mk p f)=f:=rD y;have k:jB d=1:=by have:=m;unfold Mo at this;rw[g]at this;exact this
 have nz:∀x,p ∣ x*jB d->p ∣ x:=λx h=>by rw[k,bG]at h;exact h
 have l:mk p (kJ (jy q d) r)=mk p f:=lZ.mpr λn=>by rw[jJ,jx];exact I.eq n
 have H:mk p q*mk p d+mk p r=u*mk p d:=by rw[<- e,<- l];rfl
 obtain⟨c,b⟩:=rep (u-mk p q);have o:mk p r=mk p c*mk p d:=by rw[<- b];grind
 have a:=lZ.mp (o.trans (lM c d));have i:r=[]:=tK nz ⟨I.rf,I.rr,rl⟩ ⟨oM,λn=>by show pl p 0=0;exact lU p,by show 0<ln d;lia⟩ ⟨c,λn=>by
  have:=a n;rw[jx]at this;show p ∣ r.getD n 0-0-cm c d n;rw[aJ];exact this⟩
 refine⟨?_,i⟩;have C:0<ln d:=by lia
 have B:=abN (z:=p) (E:=c) (S:=0) C nz λn _=>by
  have:=a n;rw[jx,i]at this;have e:(([]:List Int).getD n 0)-cm c d n = -cm c d n:=by show 0-cm c d n=_;lia
  rw[e]at this;exact aV.mp this
 have j:mk p c=0:=lZ.mpr λn=>by show p ∣ c.getD n 0-([0]:List Int).getD n 0;rw[DQ,aJ];exact B n (a9 _)
 have s:mk p q=u:=by rw[j]at b;grind
 have F:=Mo.len G mu m;rw[<- e,t,g]at F;have J:=I.ql;have up:=mu.pos;have D:ln q=ln (ls u):=by lia
 have A:∀n,q.getD n 0=(ls u).getD n 0:=λn=>sH (I.qr n) ((kO u).red n) (lZ.mp (by rw[s,jV]) n);refine b7 D λn h1 h2=>?_;have:=A n;rw[jK h1,jK h2]at this;exact this
def rK (p:Int)(g:Nat->Nat)(e m:Nat):Nat:=if p ∣ (g m:Int) then 0 else if e<=g m then 1 else 0
def uz (p:Int)(g:Nat->Nat)(e m:Nat):Nat:=if p ∣ (g m:Int) then g m else g m-e
def XF (p:Int)(g:Nat->Nat)(e m:Nat):Nat:=if p ∣ (g m:Int) then 0 else if g m=e then 1 else 0
def T9 {L:List (Pl p×Nat)}(A:Apart L)(g:Nat->Nat)(e:Nat):Gd (Pr L (rK p g e)) (Pr L (uz p g e)) (Pr L (rK p g (e+1))):=by
 have h:=acj (g:=rK p g e) (h:=uz p g e) A;have c:Pr L (λm=>min (rK p g e m) (uz p g e m))=Pr L (rK p g (e+1)):=nu λq _=>by
  show min (rK p g e q.2) (uz p g e q.2)=rK p g (e+1) q.2;unfold rK uz;by_cases h:p ∣ (g q.2:Int)
  .rw[af h,af h,af h];lia
  .rw[ae h,ae h,ae h];by_cases k:e+1<=g q.2
   .rw[af k,af (by lia)];lia
   .rw[ae k];by_cases a:e<=g q.2
    .rw[af a];lia
    .rw[ae a];lia
 rw[c]at h;exact h
def ZM (L:List (Pl p×Nat))(g:Nat->Nat)(e:Nat):Pr L (rK p g e)=Pr L (XF p g e)*Pr L (rK p g (e+1)):=by
 rw[<- wY];exact nu λq _=>by
  unfold rK XF;by_cases h:p ∣ (g q.2:Int)
  .rw[af h,af h,af h]
  .rw[ae h,ae h,ae h];by_cases k:g q.2=e
   .rw[af k,af (by lia),ae (by lia)]
   .rw[ae k];by_cases a:e<=g q.2
    .rw[af a,af (by lia)]
    .rw[ae a,ae (by lia)]
def ZP (L:List (Pl p×Nat))(g:Nat->Nat)(e:Nat):Pr L (uz p g e)=Pr L (uz p g (e+1))*Pr L (rK p g (e+1)):=by
 rw[<- wY];exact nu λq _=>by
  unfold rK uz;by_cases h:p ∣ (g q.2:Int)
  .rw[af h,af h,af h];lia
  .rw[ae h,ae h,ae h];by_cases k:e+1<=g q.2
   .rw[af k];lia
   .rw[ae k];lia
def ZD {p:Int}{n:Nat}(h:¬p ∣ (n:Int)):n≠0:=λz=>h (by rw[z];exact aS p)
def Zn (L:List (Pl p×Nat))(g:Nat->Nat):Pr L g=Pr L (rK p g 1)*Pr L (uz p g 1):=by
 rw[<- wY];exact nu λq _=>by
  unfold rK uz;by_cases h:p ∣ (g q.2:Int)
  .rw[af h,af h];lia
  .have:=ZD h;rw[ae h,ae h,af (by lia)];lia
def acz (h:∀x:Int,¬p ∣ x->∃t,p ∣ t*x-1){L:List (Pl p×Nat)}(A:Apart L)(S:∀q∈L,oJ q.1 (dv q.1))(g:Nat->Nat):Gd (Pr L g) (dv (Pr L g)) (Pr L (uz p g 1)):=acf h A S
def Pq:∀n:Nat,(1:Pl p)^n=1
 |0=>rfl
 |n+1=>by have e:(1:Pl p)^(n+1)=(1:Pl p)^n*1:=rfl;rw[e,Pq n,one_mul]
def mul_pow (a b:Pl p):∀n:Nat,(a*b)^n=a^n*b^n
 |0=>(one_mul 1).symm
 |n+1=>by have h:=mul_pow a b n;have e:(a*b)^(n+1)=(a*b)^n*(a*b):=rfl;have c:a^(n+1)=a^n*a:=rfl;have d:b^(n+1)=b^n*b:=rfl;rw[e,c,d,h];grind
def pow_mul (a:Pl p)(k:Nat):∀n:Nat,a^(k*n)=(a^k)^n
 |0=>rfl
 |n+1=>by have e:k*(n+1)=k*n+k:=jj k n;have b:(a^k)^(n+1)=(a^k)^n*a^k:=rfl;rw[e,pow_add,pow_mul a k n,b]
def Vq (h:Nat->Nat)(n:Nat):∀L:List (Pl p×Nat),Pr L (λm=>h m*n)=Pr L h^n
 |[]=>(Pq n).symm
 |q::L=>by rw[kI,kI,mul_pow,Vq h n L,pow_mul]
def tM (f:Li):∀n:Nat,mk p (pw f n)=mk p f^n
 |0=>rfl
 |n+1=>by have h:=tM f n;have e:mk p f^(n+1)=mk p f^n*mk p f:=rfl;rw[e,<- h,lM];rfl
def pw_x (n:Nat):∀j,(pw [0,1] n).getD j 0=if j=n then 1 else 0:=by
 induction n with
 |zero=>
  intro j;cases j with
  |zero=>rfl
  |succ j=>rfl
 |succ n i=>
  intro j;show(jy (pw [0,1] n) [0,1]).getD j 0=_;rw[jx,jN,acV];cases j with
  |zero=>rw[af rfl,ae (by lia)];lia
  |succ j=>
   rw[ae (by lia),show j+1-1=j from rfl,i j];by_cases c:j=n
   .rw[af c,af (by lia)];lia
   .rw[ae c,ae (by lia)];lia
def abC (a:jR p)(f:Li)(h0:∀m∈f,0<=m):mk p f^p.toNat=mk p (lcb (pw (pw [0,1] p.toNat)) f 0):=by obtain⟨Q,h⟩:=acy a [] f h0 0;rw[<- tM];refine lZ.mpr λn=>?_;have h:=h n;rw[jN Q [],lY,aJ,jx]at h;have e:cm (pw (pw [0,1] p.toNat) 0) (pw f p.toNat) n=(pw f p.toNat).getD n 0:=Mr _ n;rw[e]at h;exact h
def Nz (h:jR p)(x:Pl p)(j:Nat):(ls (x^p.toNat)).getD (p.toNat*j) 0=(ls x).getD j 0:=by
 have q:2<=p:=h.1;have h0:∀m∈ls x,0<=m:=λm o=>((kO x).at h m o).1;have e:=abC h (ls x) h0;rw[jV]at e;rw[e,qg,kh];have r:=(kO x).red j;refine jc ?_ r;refine(qu p _ _).mpr ?_;rw[Ol];have a:∀k,p ∣ (pw (pw [0,1] p.toNat) (0+k)).getD (p.toNat*j) 0-if k=j then 1 else 0:=λk=>by
  have d:mk p (pw (pw [0,1] p.toNat) (0+k))=mk p (pw [0,1] (p.toNat*k)):=by rw[tM,tM,tM,im,<- pow_mul]
  have:=lZ.mp d (p.toNat*j);rw[pw_x]at this;have g:(if p.toNat*j=p.toNat*k then(1:Int) else 0)=if k=j then 1 else 0:=by
   by_cases c:k=j
   .rw[af c,af (by rw[c])]
   .rw[ae c,ae λz=>c (Nat.eq_of_mul_eq_mul_left (by lia) z).symm]
  rw[g]at this;exact this
 by_cases n:j<ln (ls x)
 .have k:=Nq (z:=p) (f:=λk=>(ls x).getD k 0*(pw (pw [0,1] p.toNat) (0+k)).getD (p.toNat*j) 0) (i:=j) n λi _ b=>by have:=a i;rw[ae b,aJ]at this;exact aL this
  have t:=a j;rw[af rfl]at t;generalize (pw (pw [0,1] p.toNat) (0+j)).getD (p.toNat*j) 0=y at *
  generalize sm (ln (ls x)) (λk=>(ls x).getD k 0*(pw (pw [0,1] p.toNat) (0+k)).getD (p.toNat*j) 0)=S at *
  generalize (ls x).getD j 0=z at *
  have l:S-z=(S-z*y)+z*(y-1):=by rw[cr];lia
  rw[l];exact aU k (aL t)
 .rw[jz (by lia),aJ];exact oG λi b=>by have:=a i;rw[ae (by lia),aJ]at this;exact aL this
def RC (h:jR p){x:Pl p}(m:Mo x):(List.range (ln (ls x))).map (λi=>(ls (x^p.toNat)).getD (p.toNat*i) 0)=ls x/\ln (ls (x^p.toNat))=p.toNat*(ln (ls x)-1)+1:=by refine⟨b7 (by rw[aa,ag]) λn h1 h2=>?_,m.wW h.1 _⟩;rw[bi,bp,Nz h,jK h2]
def Mo.inj {x y:Pl p}(h:ls x=ls y):x=y:=by rw[<- jV x,<- jV y,h]
def Mo.Hv (c:2<=p){x:Pl p}(h:Mo x)(l:ln (ls x)<=1):x=1:=by
 refine Mo.inj ?_;rw[uO c];have k:jB (ls x)=1:=h;have:=h.pos;generalize ls x=a at *
 match a,l,this with
 |[b],_,_=>rw[show b=1 from k]
def yW:mk p []=(0:Pl p):=ext λn=>by show([]:Li).getD n 0=([0]:Li).getD n 0;rw[DQ];rfl
def QS (x:Pl p):x*0=0:=by rw[mul_comm,zero_mul]
def Mo.ne0 {x:Pl p}(h:Mo x):x≠0:=λz=>by have k:=h.ne;rw[z,<- yW,qg]at k;exact k rfl
def acF (g:jR p)(y:Pl p)(m:Mo x)(c:ln (ls y)<=200):∃d,Mo d/\Gd x y d:=by
 have G:=abr g (f:=ls x) c;generalize gc p (ls x) (ls y)=r at G;have up:∀{f:Pl p},Dv p r (ls f)->∃u,f=u*mk p r:=λ{f} ⟨Q,h⟩=>⟨mk p Q,by
  rw[lM];refine jc (jV f).symm (lZ.mpr λn=>?_);have:=h n;rw[jx];have e:(ls f).getD n 0-([]:List Int).getD n 0-cm Q r n=(ls f).getD n 0-cm Q r n:=by show _-0-_=_;lia
  rw[e]at this;exact this⟩
 have a:=up G.d1;refine⟨mk p r,?_,?_,a,up G.d2⟩
 .rcases G.one with z|z
  .obtain⟨u,e⟩:=a;rw[z,yW,QS]at e;exact absurd e m.ne0
  .show jB (ls (mk p r))=1;rw[rD ⟨G.form,G.red⟩];exact z
 .obtain⟨s,t,h⟩:=G.lc;refine⟨mk p s,mk p t,?_⟩;have b:mk p s*x+mk p t*y=mk p s*mk p (ls x)+mk p t*mk p (ls y):=by rw[jV,jV]
  rw[b];exact lZ.mpr λn=>by rw[jJ,jx,jx];exact h n
def Mo.quo (y:2<=p){x d u:Pl p}(b:Mo x)(m:Mo d)(e:x=u*d):Mo u:=by
 have k:=m.pos;have f:jB (ls d)=1:=m;have c:ls u≠[]:=λz=>b.ne0 (by rw[e,<- jV u,z,yW,zero_mul]);have v:=lP c;have a:ls x=Tz p (jy (ls u) (ls d)):=by rw[<- qg,<- lM,jV,jV,e]
 have top:p ∣ cm (ls u) (ls d) (ln (ls u)-1+(ln (ls d)-1))-jB (ls u):=by
  have:=Ln (z:=p) (E:=ls u) (d:=ls d) (i:=ln (ls u)-1) k λj l=>by rw[jz (by lia)];exact aS p
  rw[f,bG]at this;exact this
 have t:(ls x).getD (ln (ls u)-1+(ln (ls d)-1)) 0=jB (ls u):=by rw[a,kh,jx];have r:=(kO u).red (ln (ls u)-1);exact((qu p _ _).mpr top).trans r
 have nz:jB (ls u)≠0:=(kO u).form c;have q:ln (ls x)<=ln (ls u)+ln (ls d)-1:=by rw[a];exact m5 (j7 p _) λn o=>by rw[kh,jx,Qq (by lia)];exact lU p
 have s:ln (ls u)-1+(ln (ls d)-1)<ln (ls x):=by refine c8 λh=>?_;rw[jz h]at t;exact nz t.symm
 have g:ln (ls x)-1=ln (ls u)-1+(ln (ls d)-1):=by lia
 show jB (ls u)=1;rw[<- t,<- g];exact b
structure wC (q:Pl p):Prop where
 mo:Mo q
 deg:1<ln (ls q)
 no:∀a b:Pl p,Mo a->Mo b->q=a*b->a=1\/b=1
def wC.or (b:jR p)(h:wC q)(y:Pl p)(f:ln (ls y)<=200):oJ q y\/∃u,y=u*q:=by
 obtain⟨d,m,⟨s,t,e⟩,⟨u,a⟩,⟨v,c⟩⟩:=acF b y h.mo f;rcases h.no u d (Mo.quo b.1 h.mo m a) m a with z|z
 .refine .inr ⟨v,?_⟩;rw[z,one_mul]at a;rw[a];exact c
 .refine .inl ⟨s,t,?_⟩;rw[<- e,z]
def wC.cop (a:jR p){q r:Pl p}(h:wC q)(k:wC r)(b:ln (ls r)<=200)(ne:q≠r):oJ q r:=by
 rcases h.or a r b with c|⟨u,e⟩
 .exact c
 .rcases k.no u q (Mo.quo a.1 k.mo h.mo e) h.mo e with z|z
  .rw[z,one_mul]at e;exact absurd e.symm ne
  .have:=h.deg;rw[z,uO a.1]at this;exact absurd this (by decide)
def Xy (g:jR p):∀(n:Nat) (x:Pl p),Mo x->ln (ls x)<=n->∃l:List (Pl p),(∀q∈l,wC q/\ln (ls q)<=ln (ls x))/\x=l.foldr (λq y=>q*y) 1:=by
 intro n
 induction n with
 |zero=>exact λx m h=>absurd m.pos (by lia)
 |succ n i=>
  intro x m h;by_cases c:ln (ls x)<=1
  .exact⟨[],(λq d=>by cases d),m.Hv g.1 c⟩
  by_cases I:∀a b:Pl p,Mo a->Mo b->x=a*b->a=1\/b=1
  .refine⟨[x],λq d=>?_,?_⟩
   .rw[bx.mp d];exact⟨⟨m,by lia,I⟩,aj _⟩
   .show x=x*1;rw[mul_comm,one_mul]
  .obtain⟨a,v⟩:=iK.mp I;obtain⟨b,f⟩:=iK.mp v;obtain⟨o,f⟩:=gT.mp f;obtain⟨r,f⟩:=gT.mp f;obtain⟨e,f⟩:=gT.mp f;have B:¬ln (ls a)<=1:=λz=>f (.inl (o.Hv g.1 z));have C:¬ln (ls b)<=1:=λz=>f (.inr (r.Hv g.1 z));have A:=Mo.len g.1 o r;rw[<- e]at A;obtain⟨l,j,s⟩:=i a o (by lia);obtain⟨k,t,u⟩:=i b r (by lia);refine⟨l++k,λq d=>?_,?_⟩
   .rcases cY.mp d with d|d
    .exact⟨(j q d).1,by have:=(j q d).2;lia⟩
    .exact⟨(t q d).1,by have:=(t q d).2;lia⟩
   .rw[e,u,s];clear j s
    induction l with
    |nil=>exact one_mul _
    |cons q l i=>show q*_*_=q*_;rw[mul_assoc,i];rfl
def put [DecidableEq (Pl p)](q:Pl p):List (Pl p×Nat)->List (Pl p×Nat)
 |[]=>[(q,1)]
 |r::L=>if r.1=q then(r.1,r.2+1)::L else r::put q L
def VR [DecidableEq (Pl p)](q:Pl p):∀L:List (Pl p×Nat),Pr (put q L) id=q*Pr L id
 |[]=>by show q^1*1=q*1;have e:q^1=q:=one_mul q;rw[e]
 |r::L=>by
  unfold put;by_cases h:r.1=q
  .rw[af h,kI,kI];show r.1^(r.2+1)*_=q*(r.1^r.2*_);have e:r.1^(r.2+1)=r.1^r.2*r.1:=rfl;rw[e,h];generalize Pr L id=y;generalize q^r.2=z;grind
  .rw[ae h,kI,kI,VR q L];generalize Pr L id=y;generalize r.1^id r.2=z;grind
def Gv [DecidableEq (Pl p)]:∀{L:List (Pl p×Nat)} {r:Pl p×Nat},r∈put q L->(r.1=q\/∃s∈L,s.1=r.1)/\(r.2=0->∃s∈L,s.2=0)
 |[],r,h=>by rw[bx.mp h];exact⟨.inl rfl,λz=>by cases z⟩
 |s::L,r,h=>by
  unfold put at h;by_cases c:s.1=q
  .rw[af c]at h;rcases aG.mp h with e|h
   .rw[e];exact⟨.inl c,λz=>by cases z⟩
   .exact⟨.inr ⟨r,ad _ h,rfl⟩,λz=>⟨r,ad _ h,z⟩⟩
  .rw[ae c]at h;rcases aG.mp h with e|h
   .rw[e];exact⟨.inr ⟨s,ah ..,rfl⟩,λz=>⟨s,ah ..,z⟩⟩
   .obtain⟨h1,h2⟩:=Gv h;refine⟨?_,λz=>?_⟩
    .rcases h1 with h1|⟨t,a,e⟩
     .exact .inl h1
     .exact .inr ⟨t,ad _ a,e⟩
    .obtain⟨t,a,e⟩:=h2 z;exact⟨t,ad _ a,e⟩
def put_nodup [DecidableEq (Pl p)]:∀{L:List (Pl p×Nat)},(L.Pairwise λa b=>a.1≠b.1)->(put q L).Pairwise λa b=>a.1≠b.1
 |[],_=>List.pairwise_singleton ..
 |s::L,h=>by
  obtain⟨h1,h2⟩:=cL.mp h;unfold put;by_cases c:s.1=q
  .rw[af c];exact cL.mpr ⟨h1,h2⟩
  .rw[ae c];refine cL.mpr ⟨λr d=>?_,put_nodup h2⟩;rcases (Gv d).1 with e|⟨t,ht,e⟩
   .rw[e];exact c
   .rw[<- e];exact h1 t ht
def Om (m:jR p)(t:Mo x):∃L:List (Pl p×Nat),(∀q∈L,wC q.1/\ln (ls q.1)<=ln (ls x)/\q.2≠0)/\(L.Pairwise λa b=>a.1≠b.1)/\x=Pr L id:=by
 obtain⟨l,j,e⟩:=Xy m _ x t (aj _);have u:DecidableEq (Pl p):=λa b=>Classical.propDecidable _;have i:∀(N:Nat) (l:List (Pl p)),(∀q∈l,wC q/\ln (ls q)<=N)->∃L:List (Pl p×Nat),(∀q∈L,wC q.1/\ln (ls q.1)<=N/\q.2≠0)/\(L.Pairwise λa b=>a.1≠b.1)/\l.foldr (λq y=>q*y) 1=Pr L id:=by
  intro N l
  induction l with
  |nil=>exact λ_=>⟨[],(λq c=>by cases c),List.Pairwise.nil,rfl⟩
  |cons q l n=>
   intro h;obtain⟨L,h1,h2,f⟩:=n λr g=>h r (ad _ g);have c:=h q (ah ..);refine⟨put q L,λr g=>?_,put_nodup h2,?_⟩
   .obtain⟨k,o⟩:=Gv g;have nz:r.2≠0:=λz=>by obtain⟨s,d,e⟩:=o z;exact(h1 s d).2.2 e
    rcases k with k|⟨s,d,k⟩
    .rw[k];exact⟨c.1,c.2,nz⟩
    .rw[<- k];exact⟨(h1 s d).1,(h1 s d).2.1,nz⟩
   .rw[VR,<- f];rfl
 obtain⟨L,h1,h2,f⟩:=i _ l j;exact⟨L,h1,h2,e.trans f⟩
def V8 {x:Pl p}(a:0<ln (ls x)):ln (ls (dv x))<ln (ls x):=by
 have e:ls (dv x)=Tz p (dl (ls x)):=by rw[<- qg,<- Bw,jV]
 rw[e];have:ln (Tz p (dl (ls x)))<=ln (ls x)-1:=m5 (j7 p _) λn h=>by rw[kh,t7,jz (by lia),aQ];exact lU p
 lia
def Sy (a:jR p){y:Pl p}(z:dv y=0)(n:Nat)(h:¬p ∣ (n:Int)):(ls y).getD n 0=0:=by
 have e:mk p (dl (ls y))=mk p [0]:=by rw[<- Bw,jV];exact z
 cases n with
 |zero=>exact absurd (aS p) h
 |succ n=>
  have:=lZ.mp e n;rw[DQ,aJ,t7]at this;rcases Yw a this with k|k
  .exact absurd k h
  .exact sH ((kO y).red _) (lU p) (by rw[aJ];exact k)
def aaN (a:jR p)(z:dv q=0):∃x:Pl p,q=x^p.toNat/\∀j,(ls x).getD j 0=(ls q).getD (p.toNat*j) 0:=by
 have s:2<=p:=a.1;obtain⟨m,hm⟩:∃m,p.toNat=m+1:=⟨p.toNat-1,by lia⟩;have b:∀j,(ls (mk p ((List.range (ln (ls q))).map λi=>(ls q).getD (p.toNat*i) 0))).getD j 0=(ls q).getD (p.toNat*j) 0:=λj=>by
  rw[qg,kh];by_cases c:j<ln (ls q)
  .rw[jK (by rw[aa,ag];exact c),bi,bp];exact(kO q).red _
  .rw[jz (by rw[aa,ag];lia),jz (xs:=ls q) (aA (by lia) (Nat.le_mul_of_pos_left j (by lia)))];exact lU p
 generalize mk p ((List.range (ln (ls q))).map λi=>(ls q).getD (p.toNat*i) 0)=x at b;refine⟨x,?_,b⟩;have o:dv (x^p.toNat)=0:=by rw[hm,Hz,N6 (by rw[<- hm];have e:((p.toNat:Nat):Int)=p:=bM (by lia);rw[e];exact fJ p)];grind
 refine Mo.inj (oh (kO _).form (kO _).form λn=>?_);by_cases c:p ∣ (n:Int)
 .obtain⟨k,r⟩:=c;have l:0<=k:=by refine Int.not_lt.mp λh=>?_;have:=Int.mul_neg_of_pos_of_neg (show 0<p by lia) h;lia
  have g:n=p.toNat*k.toNat:=by
   have d:((p.toNat:Nat):Int)=p:=bM (by lia);have f:((k.toNat:Nat):Int)=k:=bM l;have:((p.toNat*k.toNat:Nat):Int)=p*k:=by rw[ft,d,f]
   lia
  rw[g,Nz a,b]
 .rw[Sy a z n c,Sy a o n c]
def Hh (a:jR p){q:Pl p}(h:wC q)(J:ln (ls q)<=200):oJ q (dv q):=by
 have b:2<=p:=a.1;have F:=V8 h.mo.pos;rcases h.or a (dv q) (by lia) with c|⟨u,e⟩
 .exact c
 have z:dv q=0:=by
  have r:=tK (p:=p) (d:=ls q) (r:=ls (dv q)) (s:=[]) (λx t=>by rw[show jB (ls q)=1 from h.mo,bG]at t;exact t) ⟨(kO _).form,(kO _).red,F⟩ ⟨oM,λn=>by exact lU p,h.mo.pos⟩ ⟨ls u,λn=>by
   have f:mk p (ls (dv q))=mk p (jy (ls u) (ls q)):=by rw[jV,<- lM,jV,jV];exact e
   have:=lZ.mp f n;rw[jx]at this;show p ∣ (ls (dv q)).getD n 0-0-cm (ls u) (ls q) n;rw[aJ];exact this⟩
  rw[<- jV (dv q),r,yW]
 obtain⟨x,C,v⟩:=aaN a z;have H:=h.deg;have j:(ls q).getD (ln (ls q)-1) 0=1:=h.mo;have E:p ∣ ((ln (ls q)-1:Nat):Int):=by refine cB λc=>?_;rw[Sy a z _ c]at j;exact absurd j (by decide)
 obtain⟨k,I⟩:=E;have L:0<k:=by refine Int.not_le.mp λh=>?_;have:=b8 (show 0<=p by lia) h;lia
 have y:((p.toNat:Nat):Int)=p:=bM (by lia);have f:((k.toNat:Nat):Int)=k:=bM (by lia);have B:ln (ls q)-1=p.toNat*k.toNat:=by
  have:((p.toNat*k.toNat:Nat):Int)=p*k:=by rw[ft,y,f]
  lia
 have o:(ls x).getD k.toNat 0=1:=by rw[v,<- B];exact j
 have xl:ln (ls x)<=k.toNat+1:=m5 (kO x).form λn D=>by rw[v];refine jz ?_;have:p.toNat*(k.toNat+1)<=p.toNat*n:=i6 _ D;rw[jj]at this;lia
 have G:k.toNat<ln (ls x):=c8 λc=>by rw[jz c]at o;exact absurd o (by decide)
 have l:ln (ls x)-1=k.toNat:=by lia
 have i:Mo x:=by show(ls x).getD (ln (ls x)-1) 0=1;rw[l];exact o
 obtain⟨m,hm⟩:∃m,p.toNat=m+1+1:=⟨p.toNat-2,by lia⟩;have g:=i.wW b (m+1);rw[l]at g;have A:q=x^(m+1)*x:=by rw[C,hm];rfl
 rcases h.no _ _ (i.pow b _) i A with c|c
 .rw[c,uO b]at g;have:1=(m+1)*k.toNat+1:=g;have:0<(m+1)*k.toNat:=Nat.mul_pos (by lia) (by lia);lia
 .rw[c,uO b]at l;have:1-1=k.toNat:=l;lia
structure xu (L:List (Pl p×Nat)):Prop where
 ap:Apart L
 sep:∀q∈L,oJ q.1 (dv q.1)
 mo:∀q∈L,Mo q.1
 dg:∀q∈L,1<ln (ls q.1)
def qt (p:Int)(f d:List Int):List Int:=((dvT p f d).getD ([],[])).1
def TV (h:jR p){u d:Pl p}(mu:Mo u)(m:Mo d):dvT p (ls (u*d)) (ls d)=some (ls u,[]):=by
 have g:Int.gcd (jB (ls d)) p=1:=by rw[show jB (ls d)=1 from m];exact hW ..
 obtain⟨h1,h2⟩:=Gz (z:=p) (ov:=RP p) (f:=ls (u*d)) (d:=ls d) m.pos (λa c i j=>hov h.1 g a c i j) (ln (ls (u*d))+1) _ _ (wR.start (kO (u*d)).form (kO (u*d)).red) (cC _);unfold dvT;cases o:QH p (RP p) (ls d) (ln (ls (u*d))+1) (List.replicate (ln (ls (u*d))+1-ln (ls d)) 0) (ls (u*d)) with
 |none=>obtain⟨_,_,_,_,z⟩:=h2 o;cases z
 |some x=>obtain⟨q,r⟩:=x;obtain⟨I,k⟩:=h1 q r o;obtain⟨e,b⟩:=quo (u:=u) h.1 I k mu (by rw[jV];exact m) (kO _) (kO _) (by rw[jV,jV]);rw[e,b]
def VB (h:jR p){u d:Pl p}(mu:Mo u)(m:Mo d):qt p (ls (u*d)) (ls d)=ls u:=by unfold qt;rw[TV h mu m];rfl
def Fp {a b d:Pl p}(h:Gd a b d)(m:Mo d):gc p (ls a) (ls b)=ls d:=Fz (ab5 (by rw[jV,jV];exact h) m)
def Iz (p:Int)(f:List Int):Nat->List Int×List Int
 |0=>(gc p f (Tz p (dl f)),qt p f (gc p f (Tz p (dl f))))
 |e+1=>(qt p (Iz p f e).1 (gc p (Iz p f e).2 (Iz p f e).1),gc p (Iz p f e).2 (Iz p f e).1)
def IW (p:Int)(f:List Int)(e:Nat):List Int:=qt p (Iz p f e).2 (gc p (Iz p f e).2 (Iz p f e).1)
def Zj (x:Pl p):ls (dv x)=Tz p (dl (ls x)):=by rw[<- qg,<- Bw,jV]
def xu.pr {L:List (Pl p×Nat)}(F:xu L)(a:2<=p)(g:Nat->Nat):Mo (Pr L g):=Mo.pr a F.mo
def Br (b:jR p)(h:∀x:Int,¬p ∣ x->∃t,p ∣ t*x-1){L:List (Pl p×Nat)}(F:xu L)(g:Nat->Nat):∀e,Iz p (ls (Pr L g)) e=(ls (Pr L (uz p g (e+1))),ls (Pr L (rK p g (e+1))))
 |0=>by
  have a:2<=p:=b.1;have c:gc p (ls (Pr L g)) (Tz p (dl (ls (Pr L g))))=ls (Pr L (uz p g 1)):=by rw[<- Zj];exact Fp (acz h F.ap F.sep g) (F.pr a _)
  have d:qt p (ls (Pr L g)) (ls (Pr L (uz p g 1)))=ls (Pr L (rK p g 1)):=by
   conv=>lhs;rw[Zn L g]
   exact VB b (F.pr a _) (F.pr a _)
  show(gc p (ls (Pr L g)) (Tz p (dl (ls (Pr L g)))),qt p (ls (Pr L g)) (gc p (ls (Pr L g)) (Tz p (dl (ls (Pr L g))))))=_;rw[c,d]
 |e+1=>by
  have a:2<=p:=b.1;have i:=Br b h F g e;have c:gc p (ls (Pr L (rK p g (e+1)))) (ls (Pr L (uz p g (e+1))))=ls (Pr L (rK p g (e+1+1))):=Fp (T9 F.ap g (e+1)) (F.pr a _);have d:qt p (ls (Pr L (uz p g (e+1)))) (ls (Pr L (rK p g (e+1+1))))=ls (Pr L (uz p g (e+1+1))):=by
   conv=>lhs;rw[ZP L g (e+1)]
   exact VB b (F.pr a _) (F.pr a _)
  show(qt p (Iz p (ls (Pr L g)) e).1 (gc p (Iz p (ls (Pr L g)) e).2 (Iz p (ls (Pr L g)) e).1),gc p (Iz p (ls (Pr L g)) e).2 (Iz p (ls (Pr L g)) e).1)=_;rw[i];rw[c,d]
def G5 (a:jR p)(h:∀x:Int,¬p ∣ x->∃t,p ∣ t*x-1){L:List (Pl p×Nat)}(F:xu L)(g:Nat->Nat)(e:Nat):IW p (ls (Pr L g)) e=ls (Pr L (XF p g (e+1))):=by
 have b:2<=p:=a.1;unfold IW;rw[Br a h F g e];rw[Fp (T9 F.ap g (e+1)) (F.pr b _)]
 conv=>lhs;rw[ZM L g (e+1)]
 exact VB a (F.pr b _) (F.pr b _)
def Uq (f:2<=p){L:List (Pl p×Nat)}(F:xu L){g:Nat->Nat}{e:Nat}(h:ln (ls (Pr L (rK p g e)))<=1):(∀q∈L,¬p ∣ (g q.2:Int)->g q.2<e)/\Pr L (uz p g e)=Pr L (λm=>if p ∣ (g m:Int) then g m / p.toNat else 0)^p.toNat:=by
 have k:=mt (pN f (g:=rK p g e) F.mo F.dg).mpr (by lia);have lt:∀q∈L,¬p ∣ (g q.2:Int)->g q.2<e:=λq a d=>c8 λc=>k ⟨q,a,by
  unfold rK;rw[ae d,af c];decide⟩
 refine⟨lt,?_⟩;rw[<- Vq];refine nu λq a=>?_;unfold uz;by_cases c:p ∣ (g q.2:Int)
 .rw[af c,af c];have b:((p.toNat:Nat):Int)=p:=bM (by lia);exact(Nat.div_mul_cancel (fv.mp (by rw[b];exact c))).symm
 .rw[ae c,ae c];have:=lt q a c;lia
def xm (b:2<=p):∀{L:List (Pl p×Nat)},(∀q∈L,Mo q.1)->(∀q∈L,1<ln (ls q.1))->∀q∈L,g q.2<ln (ls (Pr L g))
 |[],_,_=>λq h=>by cases h
 |q::L,h,d=>λr a=>by
  have h1:=h q (ah ..);have f:=d q (ah ..);have m:Mo (Pr L g):=Mo.pr b λr a=>h r (ad _ a);have c:=Mo.len b (h1.pow b (g q.2)) m;have i:=m.pos;rw[Mo.wW b h1,<- kI]at c;rcases aG.mp a with e|a
  .rw[e];have:g q.2*1<=g q.2*(ln (ls q.1)-1):=i6 _ (by lia);lia
  .have:=xm b (g:=g) (λr a=>h r (ad _ a)) (λr a=>d r (ad _ a)) r a;lia
def Ng (k:Nat)(f:List Int):List Int:=(List.range ((ln f+k-1) / k)).map λi=>f.getD (k*i) 0
def Va (h:jR p){x:Pl p}(m:Mo x):Ng p.toNat (ls (x^p.toNat))=ls x:=by
 have b:2<=p:=h.1;obtain⟨h1,h2⟩:=RC h m;have l:=m.pos;unfold Ng;have e:(ln (ls (x^p.toNat))+p.toNat-1) / p.toNat=ln (ls x):=by
  rw[h2];have a:p.toNat*(ln (ls x)-1)+1+p.toNat-1=ln (ls x)*p.toNat:=by obtain⟨n,hn⟩:∃n,ln (ls x)=n+1:=⟨ln (ls x)-1,by lia⟩;rw[hn,gA,da];show n*p.toNat+1+p.toNat-1=_;lia
  rw[a];exact gF _ (by lia)
 rw[e];exact h1
def gk (p:Int):Nat->Nat->Nat
 |0,m=>m
 |k+1,m=>if p ∣ (gk p k m:Int) then gk p k m / p.toNat else 0
def lf (p:Int)(f:List Int):Nat->List Int
 |0=>f
 |k+1=>Ng p.toNat (Iz p (lf p f k) (ln (lf p f k))).1
def Wo (d:2<=p){L:List (Pl p×Nat)}(F:xu L)(g:Nat->Nat){e:Nat}(h:ln (ls (Pr L g))<=e):ln (ls (Pr L (rK p g e)))<=1:=by
 refine cT λc=>?_;obtain⟨q,f,k⟩:=(pN d F.mo F.dg).mp c;have b:=xm d (g:=g) F.mo F.dg q f;unfold rK at k;by_cases a:p ∣ (g q.2:Int)
 .rw[af a]at k;exact k rfl
 .rw[ae a,ae (by lia)]at k;exact k rfl
def wz (a:jR p)(h:∀x:Int,¬p ∣ x->∃t,p ∣ t*x-1){L:List (Pl p×Nat)}(F:xu L):∀k,lf p (ls (Pr L id)) k=ls (Pr L (gk p k))
 |0=>rfl
 |k+1=>by have i:=wz a h F k;show Ng p.toNat (Iz p (lf p (ls (Pr L id)) k) (ln (lf p (ls (Pr L id)) k))).1=_;rw[i,Br a h F];rw[(Uq a.1 F (Wo a.1 F (gk p k) (iT _))).2];exact Va a (F.pr a.1 _)
def BL (f:2<=p):∀k m,gk p k m=if p.toNat^k ∣ m then m / p.toNat^k else 0
 |0,m=>by rw[Nat.pow_zero,af (Nat.one_dvd m),Nat.div_one];rfl
 |k+1,m=>by
  have e:((p.toNat:Nat):Int)=p:=bM (by lia);have d:∀n:Nat,p ∣ (n:Int) ↔ p.toNat ∣ n:=λn=>by rw[<- fv,e]
  show(if p ∣ (gk p k m:Int) then gk p k m / p.toNat else 0)=_;rw[BL f k m];have g:0<p.toNat^k:=du (by lia);by_cases c:p.toNat^k ∣ m
  .rw[af c];by_cases a:p.toNat^(k+1) ∣ m
   .have b:p.toNat ∣ m / p.toNat^k:=by rw[eZ]at a;exact(g8 c).mpr a
    rw[af ((d _).mpr b),af a,Nat.div_div_eq_div_mul,<- eZ]
   .have b:¬p.toNat ∣ m / p.toNat^k:=λh=>a (by
     rw[eZ];exact(g8 c).mp h)
    rw[ae (λh=>b ((d _).mp h)),ae a]
  .have a:¬p.toNat^(k+1) ∣ m:=λh=>c (Nat.dvd_trans ⟨p.toNat,eZ ..⟩ h);rw[ae c,ae a];by_cases b:p ∣ ((0:Nat):Int)
   .rw[af b,jk]
   .rw[ae b]
def ind (c m:Nat):Nat:=if m=c then 1 else 0
def Z1 (f:2<=p){k e:Nat}(d:¬p ∣ (e:Int))(m:Nat):XF p (gk p k) e m=ind (e*p.toNat^k) m:=by
 have g:0<p.toNat^k:=du (by lia);have j:=ZD d;unfold XF ind;rw[BL f k m];by_cases c:p.toNat^k ∣ m
 .rw[af c];have i:m / p.toNat^k=e ↔ m=e*p.toNat^k:=Nat.div_eq_iff_eq_mul_left g c;by_cases a:m / p.toNat^k=e
  .rw[a,ae d,af rfl,af (i.mp a)]
  .rw[ae (λh=>a (i.mpr h))];by_cases b:p ∣ ((m / p.toNat^k:Nat):Int)
   .rw[af b]
   .rw[ae b,ae a]
 .rw[ae c,af (show p ∣ ((0:Nat):Int) from aS p),ae λh=>c ⟨e,by rw[h,da]⟩]
def WN {k e:Nat}(h:p ∣ (e:Int))(g:Nat->Nat)(m:Nat):XF p g e m=0:=by
 unfold XF;by_cases c:p ∣ (g m:Int)
 .rw[af c]
 .rw[ae c];by_cases a:g m=e
  .rw[a]at c;exact absurd h c
  .rw[ae a]
def Wa (a:jR p)(h:∀x:Int,¬p ∣ x->∃t,p ∣ t*x-1){L:List (Pl p×Nat)}(F:xu L){k e:Nat}(b:¬p ∣ ((e+1:Nat):Int)):IW p (lf p (ls (Pr L id)) k) e=ls (Pr L (ind ((e+1)*p.toNat^k))):=by rw[wz a h F,G5 a h F];exact congrArg ls (nu λq _=>Z1 a.1 b q.2)
def Xg (b:jR p)(a:∀x:Int,¬p ∣ x->∃t,p ∣ t*x-1){L:List (Pl p×Nat)}(F:xu L){k e:Nat}(c:p ∣ ((e+1:Nat):Int)):IW p (lf p (ls (Pr L id)) k) e=[1]:=by
 rw[wz b a F,G5 b a F,nu (h:=λ_=>0) λq _=>WN (k:=k) c _ q.2];have z:∀L:List (Pl p×Nat),Pr L (λ_=>0)=1:=λL=>by
  induction L with
  |nil=>rfl
  |cons q L i=>rw[kI,i];exact one_mul 1
 rw[z,uO b.1]
def Di (h:jR p){x:Pl p}(m:Mo x)(l:ln (ls x)<=200):Em p (ls x):=⟨h,l,by rw[rW];exact m.ne,by rw[rW,show jB (ls x)=1 from m];exact hW ..⟩
def abg (h:jR p){x u d:Pl p}(e:x=u*d)(mu:Mo u)(m:Mo d):sS p (Tz p (ls x)) (Tz p (ls d))=.tup [.ints (ls u),.ints []]:=by unfold sS;rw[rW,rW,e,TV h mu m]
def prs (p:Int)(f:List Int)(N:Nat):List PV:=(List.range N).filterMap λe=>if 1<ln (IW p f e) then some (.tup [.ints (IW p f e),.int ((e:Int)+1)]) else none
def Gb (p:Int)(f:List Int):PV:=.tup [.lst (prs p f (ln f)),.ints (Iz p f (ln f)).1]
def Dm (p:Int)(f:Li)(N:Nat):prs p f (N+1)=prs p f N++if 1<ln (IW p f N) then[.tup [.ints (IW p f N),.int ((N:Int)+1)]] else[]:=by
 unfold prs;rw[iz,List.filterMap_append];congr 1;rw[bA,List.filterMap_nil];by_cases c:1<ln (IW p f N)
 .rw[af c,af c]
 .rw[ae c,ae c]
def JX (d:2<=p){L:List (Pl p×Nat)}(F:xu L){g:Nat->Nat}{e n:Nat}(h:ln (ls (Pr L (rK p g e)))<=1)(f:e<=n):¬1<ln (ls (Pr L (XF p g n)))/\Pr L (uz p g n)=Pr L (uz p g e):=by
 have lt:=(Uq d F h).1;refine⟨λc=>?_,nu λq b=>?_⟩
 .obtain⟨q,b,k⟩:=(pN d F.mo F.dg).mp c;unfold XF at k;by_cases a:p ∣ (g q.2:Int)
  .rw[af a]at k;exact k rfl
  .have:=lt q b a;rw[ae a,ae (by lia)]at k;exact k rfl
 .unfold uz;by_cases a:p ∣ (g q.2:Int)
  .rw[af a,af a]
  .have:=lt q b a;rw[ae a,ae a];lia
def JP (a:jR p){L:List (Pl p×Nat)}(F:xu L){g:Nat->Nat}{e:Nat}(h:ln (ls (Pr L (rK p g (e+1))))<=1):∀n,prs p (ls (Pr L g)) (e+n)=prs p (ls (Pr L g)) e
 |0=>rfl
 |n+1=>by rw[<- Nat.add_assoc,Dm,JP a F h n,G5 a (λx b=>mL a b) F,ae (JX a.1 F h (by lia)).1,bu]
def W3 (a:jR p){L:List (Pl p×Nat)}(F:xu L){g:Nat->Nat}{e:Nat}(h:ln (ls (Pr L (rK p g (e+1))))<=1)(c:e<=ln (ls (Pr L g))):Gb p (ls (Pr L g))=.tup [.lst (prs p (ls (Pr L g)) e),.ints (ls (Pr L (uz p g (e+1))))]:=by unfold Gb;obtain⟨n,hn⟩:∃n,ln (ls (Pr L g))=e+n:=⟨ln (ls (Pr L g))-e,by lia⟩;rw[hn,JP a F h,Br a (λx b=>mL a b) F];rw[(JX a.1 F h (show e+1<=e+n+1 by lia)).2]
def scP (c:Int):PV->PV
 | .tup [a,.int e]=>.tup [a,.int (e*c)]
 |q=>q
def Vg (p:Int)(f:List Int)(k:Nat):List PV:=(prs p (lf p f k) (ln (lf p f k))).map (scP (p^k))
def pP (p:Int)(f:List Int):Nat->List PV
 |0=>[]
 |k+1=>pP p f k++Vg p f k
def TT (L:List (Pl p×Nat))(c:Nat):PV:=.tup [.ints (ls (Pr L (ind c))),.int (c:Int)]
def Jj (L:List (Pl p×Nat)):List PV:=((List.range 31).filter λc=>decide (1<ln (ls (Pr L (ind c))))).map (TT L)
def Gw (a:2<=p)(k:Nat):((p.toNat^k:Nat):Int)=p^k:=by rw[Int.natCast_pow,bM (by lia)]
def Hg (b:jR p){L:List (Pl p×Nat)}(F:xu L){k:Nat}:q∈Vg p (ls (Pr L id)) k ↔ ∃e,e<ln (lf p (ls (Pr L id)) k)/\¬p ∣ ((e+1:Nat):Int)/\1<ln (ls (Pr L (ind ((e+1)*p.toNat^k))))/\q=TT L ((e+1)*p.toNat^k):=by
 have h:=λx i=>mL b (x:=x) i;have j:2<=p:=b.1;have a:∀e:Nat,(((e+1)*p.toNat^k:Nat):Int)=((e:Int)+1)*p^k:=λe=>by rw[ft,Gw j];rfl
 unfold Vg prs;rw[aY];constructor
 .rintro⟨r,g,rfl⟩;obtain⟨e,f,d⟩:=cE.mp g;rw[aX]at f;by_cases c:1<ln (IW p (lf p (ls (Pr L id)) k) e)
  .rw[af c]at d;have nd:¬p ∣ ((e+1:Nat):Int):=λz=>by rw[Xg b h F z]at c;exact absurd c (by decide)
   rw[Wa b h F nd]at c d;refine⟨e,f,nd,c,?_⟩;cases d;unfold TT;rw[a];rfl
  .rw[ae c]at d;cases d
 .rintro⟨e,f,nd,c,rfl⟩;refine⟨.tup [.ints (IW p (lf p (ls (Pr L id)) k) e),.int ((e:Int)+1)],cE.mpr ⟨e,aX.mpr f,?_⟩,?_⟩
  .rw[Wa b h F nd,af c]
  .rw[Wa b h F nd];unfold TT;rw[a];rfl
def Aw (a:jR p){L:List (Pl p×Nat)}(F:xu L):∀{K:Nat},q∈pP p (ls (Pr L id)) K ↔ ∃k e,k<K/\e<ln (lf p (ls (Pr L id)) k)/\¬p ∣ ((e+1:Nat):Int)/\1<ln (ls (Pr L (ind ((e+1)*p.toNat^k))))/\q=TT L ((e+1)*p.toNat^k)
 |0=>by
  constructor
  .intro h;cases h
  .rintro⟨k,e,h,_⟩;lia
 |K+1=>by
  show q∈pP p (ls (Pr L id)) K++Vg p (ls (Pr L id)) K ↔ _;rw[cY,Aw a F (K:=K),Hg a F];constructor
  .rintro (⟨k,e,h,r⟩|⟨e,r⟩)
   .exact⟨k,e,by lia,r⟩
   .exact⟨K,e,by lia,r⟩
  .rintro⟨k,e,h,r⟩;by_cases c:k=K
   .subst c;exact .inr ⟨e,r⟩
   .exact .inl ⟨k,e,by lia,r⟩
def Gy (L:List (Pl p×Nat))(c:Nat):qX (TT L c)=(c:Int):=rfl
def aac (d:jR p){L:List (Pl p×Nat)}(F:xu L)(k:Nat):((Vg p (ls (Pr L id)) k).map qX).Nodup:=by
 have j:2<=p:=d.1;unfold Vg prs;rw[bD,List.Nodup,dC,List.pairwise_filterMap];refine ie.imp λ{a b} c x f y g=>?_;have s:∀(e:Nat) (z:PV),(if 1<ln (IW p (lf p (ls (Pr L id)) k) e) then some (PV.tup [.ints (IW p (lf p (ls (Pr L id)) k) e),.int ((e:Int)+1)]) else none)=some z->(qX ∘ scP (p^k)) z=((e:Int)+1)*p^k:=λe z h=>by
  split at h
  .cases h;rfl
  .cases h
 rw[s a x f,s b y g];have i:p^k≠0:=Int.pow_ne_zero (by lia);intro z;have:=Int.eq_of_mul_eq_mul_right i z;lia
def M7 (h:jR p){L:List (Pl p×Nat)}(F:xu L):∀K,((pP p (ls (Pr L id)) K).map qX).Nodup
 |0=>List.Pairwise.nil
 |K+1=>by
  show((pP p (ls (Pr L id)) K++Vg p (ls (Pr L id)) K).map qX).Nodup;rw[bF,gU];refine⟨M7 h F K,aac h F K,λa d b f z=>?_⟩;obtain⟨x,g,rfl⟩:=aY.mp d;obtain⟨y,i,rfl⟩:=aY.mp f;obtain⟨k,e,n,_,nd,_,rfl⟩:=(Aw h F).mp g;obtain⟨c,_,_,_,rfl⟩:=(Hg h F).mp i;rw[Gy,Gy]at z;have z:(e+1)*p.toNat^k=(c + 1)*p.toNat^K:=Int.ofNat.inj z;have o:2<=p:=h.1;have j:0<p.toNat^k:=du (by lia);obtain⟨m,rfl⟩:∃m,K=k+(m+1):=⟨K-k-1,by lia⟩;have l:e+1=(c + 1)*p.toNat^m*p.toNat:=by refine Nat.eq_of_mul_eq_mul_right j ?_;rw[z,jn,eZ];rw[da (p.toNat^k),gX (c + 1),<- gX (c + 1) (p.toNat^m*p.toNat)]
  refine nd ?_;rw[l,ft,bM (by lia)];exact Int.dvd_mul_left ..
def XQ:∀(n:Nat) (f:2<=p),n≠0->∃e k,n=(e+1)*p.toNat^k/\¬p ∣ ((e+1:Nat):Int):=by
 intro n f
 induction n using Nat.strongRecOn with
 |ind n i=>
  intro h;by_cases c:p ∣ (n:Int)
  .have b:p.toNat ∣ n:=by rw[<- fv,bM (by lia)];exact c
   obtain⟨m,a⟩:=b;have d:m≠0:=λz=>h (by rw[a,z,Nat.mul_zero]);have lt:m<n:=by rw[a];have:2*m<=p.toNat*m:=fX _ (by lia);lia
   obtain⟨e,k,h1,h2⟩:=i m lt d;exact⟨e,k+1,by rw[a,h1,eZ,da p.toNat,gX],h2⟩
  .exact⟨n-1,0,by rw[Nat.pow_zero,Nat.mul_one];lia,by rw[Nat.sub_add_cancel (by lia)];exact c⟩
def aa4 (n:jR p){L:List (Pl p×Nat)}(F:xu L)(nz:∀q∈L,q.2≠0)(J:ln (ls (Pr L id))<=31){K:Nat}(A:ln (lf p (ls (Pr L id)) K)<=1):(Jj L).Perm (pP p (ls (Pr L id)) K)/\(Jj L).Pairwise (λa b=>qX a<qX b):=by
 have i:=λx C=>mL n (x:=x) C;have j:2<=p:=n.1;have s:(Jj L).Pairwise (λa b=>qX a<qX b):=by unfold Jj;rw[dC];exact(ie.filter _).imp λ{a b} h=>by rw[Gy,Gy];lia
 refine⟨?_,s⟩;have D:(Jj L).Nodup:=s.imp λ{a b} h z=>by rw[z]at h;lia
 have E:(pP p (ls (Pr L id)) K).Nodup:=by have:=M7 n F K;rw[List.Nodup,dC]at this;exact this.imp λ{a b} h z=>h (by rw[z])
 refine(List.perm_ext_iff_of_nodup D E).mpr λq=>?_;rw[Aw n F];unfold Jj;rw[aY];constructor
 .rintro⟨c,B,rfl⟩;obtain⟨M,l⟩:=aW.mp B;have l:=bQ l;obtain⟨r,d,m⟩:=(pN j F.mo F.dg).mp l;have t:r.2=c:=by
   unfold ind at m;by_cases z:r.2=c
   .exact z
   .rw[ae z]at m;exact absurd rfl m
  have y:c≠0:=by rw[<- t];exact nz r d
  obtain⟨e,k,h1,h2⟩:=XQ c j y;have G:0<p.toNat^k:=du (by lia);have u:gk p k r.2=e+1:=by rw[BL j,t,h1,af ⟨e+1,da ..⟩,gF _ G]
  have f:=xm j (g:=gk p k) F.mo F.dg r d;rw[u,<- wz n i F]at f;refine⟨k,e,?_,by lia,h2,by rw[<- h1];exact l,by rw[<- h1]⟩;refine c8 λv=>?_;rw[wz n i F]at A;have:=mt (pN j (g:=gk p K) F.mo F.dg).mpr (by lia);refine this ⟨r,d,?_⟩;have o:p.toNat^K ∣ r.2:=by rw[t,h1];exact Nat.dvd_trans (Nat.pow_dvd_pow _ v) ⟨e+1,da ..⟩
  rw[BL j,af o];have:0<r.2 / p.toNat^K:=Nat.div_pos (Nat.le_of_dvd (by have:=nz r d;lia) o) (du (by lia));lia
 .rintro⟨k,e,I,H,nd,l,rfl⟩;refine⟨_,aW.mpr ⟨aX.mpr ?_,aK l⟩,rfl⟩;obtain⟨r,d,m⟩:=(pN j F.mo F.dg).mp l;have t:r.2=(e+1)*p.toNat^k:=by
   unfold ind at m;by_cases z:r.2=(e+1)*p.toNat^k
   .exact z
   .rw[ae z]at m;exact absurd rfl m
  have f:=xm j (g:=id) F.mo F.dg r d;have f:r.2<ln (ls (Pr L id)):=f;lia
def Ze (a:jR p){L:List (Pl p×Nat)}(F:xu L){k:Nat}(h:ln (lf p (ls (Pr L id)) k)<=1):Vg p (ls (Pr L id)) k=[]:=by
 refine List.eq_nil_iff_forall_not_mem.mpr λq j=>?_;have b:=λx l=>mL a (x:=x) l;obtain⟨e,m,nd,i,_⟩:=(Hg a F).mp j;obtain⟨r,c,d⟩:=(pN a.1 F.mo F.dg).mp i;have f:r.2=(e+1)*p.toNat^k:=by
  unfold ind at d;by_cases z:r.2=(e+1)*p.toNat^k
  .exact z
  .rw[ae z]at d;exact absurd rfl d
 have n:2<=p:=a.1;rw[wz a b F]at h;have:=mt (pN a.1 (g:=gk p k) F.mo F.dg).mpr (by lia);refine this ⟨r,c,?_⟩;rw[BL a.1,f,af ⟨e+1,da ..⟩,gF _ (du (by lia))];lia
def Kc (d:jR p){L:List (Pl p×Nat)}(F:xu L){k:Nat}(h:1<ln (lf p (ls (Pr L id)) k)):k<ln (ls (Pr L id)):=by
 have a:=λx j=>mL d (x:=x) j;have f:2<=p:=d.1;rw[wz d a F]at h;obtain⟨r,e,b⟩:=(pN f F.mo F.dg).mp h;have i:r.2<ln (ls (Pr L id)):=xm f (g:=id) F.mo F.dg r e;rw[BL f]at b;by_cases c:p.toNat^k ∣ r.2
 .by_cases l:r.2=0
  .rw[af c,l,jk]at b;exact absurd rfl b
  have h1:=Nat.le_of_dvd (by lia) c;have h2:k<p.toNat^k:=aF Nat.lt_two_pow_self (i7 (by lia) k);lia
 .rw[ae c]at b;exact absurd rfl b
def abt (c:jR p)(m:Mo x)(g:ln (ls x)<=100):∃L:List (Pl p×Nat),xu L/\(∀q∈L,q.2≠0)/\x=Pr L id:=by obtain⟨L,h1,h2,e⟩:=Om c m;refine⟨L,⟨?_,λq h=>Hh c (h1 q h).1 (by have:=(h1 q h).2.1;lia),λq h=>(h1 q h).1.mo,λq h=>(h1 q h).1.deg⟩,λq h=>(h1 q h).2.2,e⟩;exact gV (λ{a b} f d ne=>(h1 a f).1.cop c (h1 b d).1 (by have:=(h1 b d).2.1;lia) ne) h2
end Pl
open Pl in
def CT (p:Int)(f:Li):lq (((f.mapIdx λk n=>(k:Int)*n).drop 1).map (pl p))=Tz p (dl f):=by
 unfold Tz;refine GK λn=>?_;rw[t7];congr 1;have e:((f.mapIdx λk n=>(k:Int)*n).drop 1).getD n 0=(f.mapIdx λk n=>(k:Int)*n).getD (n+1) 0:=by rw[gQ,gQ,cN,dR]
 rw[e];by_cases c:n+1<ln f
 .rw[jK (by rw[cM];exact c),i8,jK c];congr 1
 .rw[jz (by rw[cM];lia),jz (by lia),aQ]
open Pl in
def za:Ok P w K mg base 6 "seen_by_slope" ["kind","f"] (wV K (ph U) (λas=>∃(p:Int) (L:List (Pl p×Nat)) (g:Nat->Nat),as=[.ob 0 p,.ints (ls (Pr L g))]/\jR p/\xu L/\ln (ls (Pr L g))<=100) λas=>match as with|[.ob 0 p,.ints f]=>Gb p f|_=>.non):=by
 refine uK T.zZ jY (λ_ ⟨a,b,c,h,_⟩=>h▸rfl) (λf cdv A outer s H E Q=>⟨_,(jr (jE (i:=2) jY.nd rfl k4 (jM (pD (yS T) Q (jq (xv 0) (jq (xl 1) (jq (jM (pD (Lj T) Q (jq (xv 0) (jq (xl 1) ju)))) ju)))))) (jr (jE (i:=3) jY.nd rfl k4 (xl_of (jC (xc (nY T) Q (jq (xv 0) (jq (xl 1) (jq (xl 2) ju)))) jt (λ_ _=>rfl)))) (jr (sY (i:=4) jY.nd rfl k4 (ut ju)) (jr (jH (i:=5) jY.nd rfl k4 jt) (jr (mJ aB (uM (jU 3 T.jQ) jt) (jr (jE (i:=6) jY.nd rfl k4 (jM (pD (yS T) Q (jq (xv 0) (jq (xl 3) (jq (xl 2) ju)))))) (jr (jE (i:=7) jY.nd rfl k4 (xl_of (jC (xc (nY T) Q (jq (xv 0) (jq (xl 3) (jq (xl 6) ju)))) jt (λ_ _=>rfl)))) (uU (lF (uM (jU 7 T.jQ) jt) (jw (sX 4 (oZ (jq (xl 7) (jq (xn 5) ju))))) j6) (jr (jE (i:=2) jY.nd rfl k4 (xl_of (jC (xc (nY T) Q (jq (xv 0) (jq (xl 2) (jq (xl 6) ju)))) jt (λ_ _=>rfl)))) (jr (jE (i:=3) jY.nd rfl k4 (xl 6)) (jw (Aj (i:=5) jY.nd rfl k4 jt uY)))))))) (lB 4 (jw (jD (oZ (jq (xv 4) (jq (xl 2) ju))))))))))),λas t=>?_⟩)
 obtain⟨p,L,g,rfl,t,F,hl⟩:=t;have p2:2<=p:=t.1;have D:=λx hx=>mL t (x:=x) hx;have st:=Br t D F g;have sg:=G5 t D F g;have fin:=λe=>W3 (e:=e) (g:=g) t F;have far:=λe=>Wo (e:=e) p2 F g;have mo:=λh:Nat->Nat=>F.pr p2 h;have go:=Zn (p:=p) L g;have gdE:=λe=>T9 F.ap g e;have ly:=λe=>ZM (p:=p) L g e;have dp:=λe=>ZP (p:=p) L g e;have v:∀e,ln (ls (Pr L (uz p g e)))<=ln (ls (Pr L g))/\ln (ls (Pr L (rK p g e)))<=ln (ls (Pr L g)):=by
  have le:∀h:Nat->Nat,(∀q∈L,h q.2<=g q.2)->ln (ls (Pr L h))<=ln (ls (Pr L g)):=λh hh=>by have e:=BJ (L:=L) (g:=g) (h:=h) hh;have:=Mo.len p2 (mo λm=>g m-h m) (mo h);rw[<- e]at this;have:=(mo λm=>g m-h m).pos;lia
  refine λe=>⟨le _ λq _=>?_,le _ λq _=>?_⟩
  .unfold uz;split<;>lia
  .unfold rK;split
   .lia
   .rename_i c;split
    .have:g q.2≠0:=λz=>c (by rw[z];exact aS p);lia
    .lia
 have s0:=st 0;have s0:(gc p (ls (Pr L g)) (Tz p (dl (ls (Pr L g)))),qt p (ls (Pr L g)) (gc p (ls (Pr L g)) (Tz p (dl (ls (Pr L g))))))=(ls (Pr L (uz p g 1)),ls (Pr L (rK p g 1))):=s0;have e1:=(Prod.mk.inj s0).1;clear s0;generalize hf:ls (Pr L g)=f at *
 have sl:=aA (EY ((((f.mapIdx λk n=>(k:Int)*n).drop 1).map (pl p)))) (show _<=ln f by rw[aa,aZ,cM];lia);refine⟨⟨⟨rfl,rfl,⟨⟨rfl,rfl,tJ⟩,p,f,rfl,by lia⟩,tJ⟩,p,f,lq (((f.mapIdx λk n=>(k:Int)*n).drop 1).map (pl p)),rfl,t,by lia,by lia⟩,λd I=>?_⟩;have I:d=ls (Pr L (uz p g 1)):=by have I:d=gc p f (lq (((f.mapIdx λk n=>(k:Int)*n).drop 1).map (pl p))):=I;rw[I,CT,e1]
 have l1:=v 1;have G:∀{x u y:Pl p},x=u*y->Mo u->Mo y->nF (sS p (Tz p (ls x)) (Tz p (ls y))) 0/\m7 (sS p (Tz p (ls x)) (Tz p (ls y))) 0=.ints (ls u):=λe mu my=>by rw[abg t e mu my];exact⟨⟨by show(-2:Int)<=0;decide,by show(0:Int)<2;decide⟩,rfl⟩
 have R:=G go (mo _) (mo _);rw[hf,<- I]at R;refine⟨⟨⟨⟨⟨rfl,rfl,rfl,tJ⟩,p,f,d,rfl,by rw[I];exact Di t (mo _) (by lia),by lia⟩,tJ,R.1⟩,?_⟩,λy O=>?_⟩
 .show m7 (sS p (Tz p f) (Tz p d)) 0=.ints (kW (m7 (sS p (Tz p f) (Tz p d)) 0));rw[R.2];rfl
 have O:y=ls (Pr L (rK p g 1)):=by have O:y=kW (m7 (sS p (Tz p f) (Tz p d)) 0):=O;rw[R.2]at O;exact O
 refine⟨tJ,λl0 J=>⟨tJ,λo0 M=>?_⟩⟩;have J:l0=[]:=J;have M:o0=1:=M;refine jL (Z':=[.fr (.ob 0 p),k7 f,k7 d,k7 y,.ow (.lst l0),k6 o0,.un,.un]) rfl ?_;refine⟨λZ=>∃(e:Nat) (v6 v7:Sl),Z=[.fr (.ob 0 p),k7 f,k7 (ls (Pr L (uz p g (e+1)))),k7 (ls (Pr L (rK p g (e+1)))),.ow (.lst (prs p f e)),k6 ((e:Int)+1),v6,v7]/\e<=ln f,λZ=>((ln f:Int)+1-wK Z 5).toNat,⟨0,.un,.un,by rw[I,O,J,M];rfl,a9 _⟩,?_⟩;rintro Z ⟨e,v6,v7,rfl,he⟩;have le1:=v (e+1);have le2:=v (e+1+1);refine⟨⟨.inl rfl,tJ⟩,λk=>?_,λk=>?_⟩
 .have k:(ln (ls (Pr L (rK p g (e+1)))):Int) > 1:=k;have lt:e+1<ln f:=c8 λz=>by have:=far (e+1) z;lia
  refine⟨⟨⟨rfl,rfl,rfl,tJ⟩,p,ls (Pr L (rK p g (e+1))),ls (Pr L (uz p g (e+1))),rfl,t,by lia,by lia⟩,λj r=>?_⟩;have r:j=ls (Pr L (rK p g (e+1+1))):=by have r:j=gc p (ls (Pr L (rK p g (e+1)))) (ls (Pr L (uz p g (e+1)))):=r;rw[r];exact Fp (gdE (e+1)) (mo _)
  have S:=G (ly (e+1)) (mo _) (mo _);have Y:=G (dp (e+1)) (mo _) (mo _);have ok:=Di t (mo (rK p g (e+1+1))) (by lia);rw[<- r]at S Y ok;refine⟨⟨⟨⟨⟨rfl,rfl,rfl,tJ⟩,p,ls (Pr L (rK p g (e+1))),j,rfl,ok,by lia⟩,tJ,S.1⟩,?_⟩,λC B=>?_⟩
  .show m7 (sS p (Tz p (ls (Pr L (rK p g (e+1))))) (Tz p j)) 0=.ints (kW (m7 (sS p (Tz p (ls (Pr L (rK p g (e+1))))) (Tz p j)) 0));rw[S.2];rfl
  have B:C=IW p f e:=by have B:C=kW (m7 (sS p (Tz p (ls (Pr L (rK p g (e+1))))) (Tz p j)) 0):=B;rw[S.2]at B;rw[sg];exact B
  refine jL (Z':=[.fr (.ob 0 p),k7 f,k7 (ls (Pr L (uz p g (e+1)))),k7 (ls (Pr L (rK p g (e+1)))),.ow (.lst (prs p f e)),k6 ((e:Int)+1),k7 j,k7 C]) rfl ?_;have pl1:ln (prs p f e)<sizeLine:=by refine small1000 ?_;unfold prs;have:=gW (λe=>if 1<ln (IW p f e) then some (PV.tup [.ints (IW p f e),.int ((e:Int)+1)]) else none) (List.range e);rw[ag]at this;lia
  refine⟨λZ=>Z=[.fr (.ob 0 p),k7 f,k7 (ls (Pr L (uz p g (e+1)))),k7 (ls (Pr L (rK p g (e+1)))),.ow (.lst (prs p f (e+1))),k6 ((e:Int)+1),k7 j,k7 C],⟨⟨.inl rfl,tJ⟩,λz=>?_,λz=>?_⟩,?_⟩
  .have z:(ln C:Int) > 1:=z;refine⟨rfl,⟨rfl,rfl,tJ⟩,pl1,?_⟩;rw[Dm,af (by rw[<- B];lia),<- B];rfl
  .have z:¬(ln C:Int) > 1:=z;rw[Dm,ae (by rw[<- B];lia),bu]
  rintro Z rfl;refine⟨⟨⟨⟨⟨rfl,rfl,rfl,tJ⟩,p,ls (Pr L (uz p g (e+1))),j,rfl,ok,by lia⟩,tJ,Y.1⟩,?_⟩,λd2 l=>?_⟩
  .show m7 (sS p (Tz p (ls (Pr L (uz p g (e+1))))) (Tz p j)) 0=.ints (kW (m7 (sS p (Tz p (ls (Pr L (uz p g (e+1))))) (Tz p j)) 0));rw[Y.2];rfl
  have l:d2=ls (Pr L (uz p g (e+1+1))):=by have l:d2=kW (m7 (sS p (Tz p (ls (Pr L (uz p g (e+1))))) (Tz p j)) 0):=l;rw[Y.2]at l;exact l
  refine⟨rfl,λy2 N=>?_⟩;have N:y2=j:=N;refine jL (Z':=[.fr (.ob 0 p),k7 f,k7 d2,k7 y2,.ow (.lst (prs p f (e+1))),k6 ((e:Int)+1),k7 j,k7 C]) rfl ?_;refine⟨rfl,tJ,tJ,λo eo=>?_⟩;have eo:o=(e:Int)+1+1:=eo;refine⟨⟨e+1,k7 j,k7 C,?_,by lia⟩,?_⟩
  .rw[eo,l,N,r];rfl
  .show((ln f:Int)+1-o).toNat<((ln f:Int)+1-((e:Int)+1)).toNat;lia
 .have k:¬(ln (ls (Pr L (rK p g (e+1)))):Int) > 1:=k;refine⟨⟨rfl,rfl,tJ⟩,?_⟩;show PV.tup [.lst (prs p f e),.ints (ls (Pr L (uz p g (e+1))))]=Gb p f;rw[fin e (by lia) he]
def VD {c d:Type}{g:c->Option d}{f:c->d}:∀{l:List c},(∀a∈l,g a=some (f a))->l.filterMap g=l.map f
 |[],_=>rfl
 |a::l,h=>by rw[bA,h a ah,bN,VD λb e=>h b (ad _ e)]
def RB (f:Li)(k:Nat)(i:0<k):sG f none none (some (k:Int))=Pl.Ng k f:=by
 have a:(k:Int) > 0:=by lia
 have d:sliceBounds none none (some (k:Int)) (ln f)=(0,(ln f:Int),(k:Int)):=by show((if (k:Int) > 0 then(0:Int) else(ln f:Int)-1),(if (k:Int) > 0 then(ln f:Int) else -1),(k:Int))=_;rw[af a,af a]
 unfold sG;rw[d];have g:sliceRange 0 (ln f:Int) (k:Int)=(List.range ((ln f+k-1) / k)).map λ(j:Nat)=>((0:Int)+(k:Int)*(j:Int)).toNat:=by
  show(List.range (if (k:Int) > 0 then(if (0:Int)<(ln f:Int) then((ln f:Int)-0+(k:Int)-1) / (k:Int) else 0) else(if (0:Int) > (ln f:Int) then(0-(ln f:Int)-(k:Int)-1) / (-(k:Int)) else 0)).toNat).map _=_;rw[af a];congr 1;congr 1;by_cases c:(0:Int)<(ln f:Int)
  .rw[af c];have e:(ln f:Int)-0+(k:Int)-1=((ln f+k-1:Nat):Int):=by lia
   rw[e,<- Int.natCast_ediv,aD]
  .rw[ae c];have z:ln f=0:=by lia
   rw[z,im,Nat.div_eq_of_lt (by lia)];rfl
 rw[g,List.filterMap_map];unfold Pl.Ng;refine VD λj h=>?_;rw[aX]at h;have lt:k*j<ln f:=by have h1:(j+1)*k<=ln f+k-1:=aA (fX k h) (Nat.div_mul_le_self _ _);rw[gA,da]at h1;lia
 show f[((0:Int)+(k:Int)*(j:Int)).toNat]?=some (f.getD (k*j) 0);have b:((0:Int)+(k:Int)*(j:Int)).toNat=k*j:=by rw[cD,<- ft,aD]
 rw[b,ac lt,jK lt]
open Pl in
def JZ (p:Int)(f:List Int):PV:=.lst (wj (pP p (sE p (Tz p f)) 40))
open Pl in
def Yr (b:jR p){L:List (Pl p×Nat)}(F:xu L){k:Nat}(h:ln (lf p (ls (Pr L id)) k)<=1):ln (lf p (ls (Pr L id)) (k+1))<=1:=by have a:=λx e=>mL b (x:=x) e;rw[wz b a F]at h ⊢;refine cT λc=>?_;obtain⟨q,d,f⟩:=(pN b.1 F.mo F.dg).mp c;have:=mt (pN b.1 (g:=gk p k) F.mo F.dg).mpr (by lia);refine this ⟨q,d,λz=>f ?_⟩;show(if p ∣ (gk p k q.2:Int) then gk p k q.2 / p.toNat else 0)=0;rw[z,jk,ite_self]
open Pl in
def J4 (a:jR p){L:List (Pl p×Nat)}(F:xu L){k:Nat}(h:ln (lf p (ls (Pr L id)) k)<=1):∀n,ln (lf p (ls (Pr L id)) (k+n))<=1/\pP p (ls (Pr L id)) (k+n)=pP p (ls (Pr L id)) k
 |0=>⟨h,rfl⟩
 |n+1=>by obtain⟨h1,h2⟩:=J4 a F h n;refine⟨Yr a F h1,?_⟩;show pP p (ls (Pr L id)) (k+n)++Vg p (ls (Pr L id)) (k+n)=_;rw[h2,Ze a F h1,bu]
open Pl in
def R8 (c:jR p){L:List (Pl p×Nat)}(F:xu L)(k:Nat):ln (lf p (ls (Pr L id)) k)<=ln (ls (Pr L id)):=by
 have a:=λx d=>mL c (x:=x) d;have b:=c.1;rw[wz c a F];have e:=BJ (L:=L) (g:=id) (h:=gk p k) λq _=>by
  rw[BL b];split
  .exact Nat.div_le_self _ _
  .exact a9 _
 have l:=Mo.len b (F.pr b λm=>id m-gk p k m) (F.pr b (gk p k));rw[<- e]at l;have:=(F.pr b λm=>id m-gk p k m).pos;lia
open Pl in
def Ob (p:Int)(f:Li)(N:Nat):ln (prs p f N)<=N:=by unfold prs;have:=gW (λe=>if 1<ln (IW p f e) then some (PV.tup [.ints (IW p f e),.int ((e:Int)+1)]) else none) (List.range N);rw[ag]at this;exact this
open Pl in
def O4 (h:jR p){L:List (Pl p×Nat)}(F:xu L)(a:ln (ls (Pr L id))<=31):∀K,ln (pP p (ls (Pr L id)) K)<=K*31
 |0=>aj _
 |K+1=>by show ln (pP p (ls (Pr L id)) K++Vg p (ls (Pr L id)) K)<=_;have h1:=O4 h F a K;have h2:=Ob p (lf p (ls (Pr L id)) K) (ln (lf p (ls (Pr L id)) K));have b:=R8 h F K;rw[ai];unfold Vg;rw[aa];lia
open Pl in
def La (a:jR p){L:List (Pl p×Nat)}(F:xu L)(nz:∀q∈L,q.2≠0)(d:ln (ls (Pr L id))<=31){K:Nat}(b:ln (lf p (ls (Pr L id)) K)<=1):NK (pP p (ls (Pr L id)) K)/\wj (pP p (ls (Pr L id)) K)=Jj L:=by
 obtain⟨h1,h2⟩:=aa4 a F nz d b;have nd:=M7 a F K;refine⟨⟨?_,λq f=>?_,nd⟩,Jl h1 (h2.imp λh=>ji h) nd⟩
 .rw[<- h1.length_eq];unfold Jj;rw[aa];have:=c6 (λc=>decide (1<ln (ls (Pr L (ind c))))) (List.range 31);rw[ag]at this;lia
 .obtain⟨k,e,_,_,_,_,rfl⟩:=(Aw a F).mp f;exact⟨_,rfl⟩
def Uo {p:Int}(a:2<=p)(b:p<=9973){k:Nat}(h:k<=40):(p^k).natAbs<2^600:=by rw[Int.natAbs_pow];have h1:p.natAbs^k<=(2^14)^k:=i7 (by lia) k;refine aO h1 ?_;rw[<- Nat.pow_mul];exact a7 (by decide) (by lia)
open Pl in
def DW:Ok P w K mg base 8 "free_parts" ["kind","f"] (wV K (ph U) (λas=>∃p f,as=[.ob 0 p,.ints f]/\jR p/\ln f<=100/\ln (sE p (Tz p f))<=31/\Tz p f≠[]) λas=>match as with|[.ob 0 p,.ints f]=>JZ p f|_=>.non):=by
 refine abH T.Ij lL T.G9 (λ_ ⟨a,b,h,_⟩=>h▸rfl) (λf cdv A outer s H E hr hl=>⟨_,(jr (jE (i:=2) lL.nd rfl k4 (jM (pD (sZ T) hr (jq (xv 0) (jq (jM (pD (kj T) hr (jq (xv 0) (jq (xl 1) ju)))) ju))))) (jr (lF (oY (Am 2)) (jw vJ) j6) (jr (sY (i:=3) lL.nd rfl k4 (ut ju)) (jr (jH (i:=4) lL.nd rfl k4 jt) (jr (mJ aB (uM (jU 2 T.jQ) jt) (jr (kY (i:=5) lL.nd rfl k4 (xc (za T) hr (jq (xv 0) (jq (xl 2) ju)))) (jr (Kw (k:=6) (j:=7) aB rfl (nA (jC (xv 5) jt (λ_ _=>rfl))) (pg_tup rfl (pgs_cons (pg_name (i:=6) lL.nd rfl k4) (pgs_cons (pg_name (i:=7) lL.nd rfl k4) pgs_nil))) (jw (sX 3 (oZ (jq (xl 6) (jq (nW (xn 7) (xn 4)) ju)))))) (jr (jE (i:=2) lL.nd rfl k4 (jM (QZ (xl_of (jC (xv 5) jt (λ_ _=>rfl))) pG pG (nR (Hs (ksz T) (xv 0))) (λ_ _=>.inl rfl)))) (jw (Aj (i:=4) lL.nd rfl k4 (Hs (ksz T) (xv 0)) U8)))))) (lB 3 (jw (jD (uJ (Up hl hr T.BZ (xv 3))))))))))),λas d=>?_⟩)
 obtain⟨p,f,rfl,d,fl,nl,ne⟩:=d;have p2:2<=p:=d.1;have p3:p<=9973:=d.2.1;have Y:=λx hx=>mL d (x:=x) hx;have tzl:=lA p f;have G:=zy d (j7 p f) (nM p f);have mN:Mo (mk p (sE p (Tz p f))):=by
  show jB (ls (mk p (sE p (Tz p f))))=1;rw[rD ⟨G.form,G.red⟩];rcases G.one with z|z
  .exfalso;obtain⟨Q,hQ⟩:=G.d1;rw[z]at hQ;refine ne (oh (j7 p f) oM λn=>sH (nM p f n) (by exact lU p) ?_);have:=hQ n;rw[jN,lY,aJ]at this;exact this
  .exact z
 have M:ls (mk p (sE p (Tz p f)))=sE p (Tz p f):=rD ⟨G.form,G.red⟩;obtain⟨L,F,nz,eL⟩:=abt d mN (by rw[M];lia);rw[eL]at M;have mo:=λh:Nat->Nat=>F.pr p2 h;have lfe:=wz d Y F;have S:JZ p f=.lst (wj (pP p (ls (Pr L id)) 40)):=by unfold JZ;rw[M]
 rw[<- M]at nl;have D:=R8 d F;have O:=O4 d F nl;have sh:=λk=>Kc (k:=k) d F;have stop:=λk=>J4 (k:=k) d F;have pok:=λK=>La (K:=K) d F nz nl;have l:=λk=>Uo (k:=k) p2 p3;have nx1:∀k,lf p (ls (Pr L id)) (k+1)=Ng p.toNat (Iz p (lf p (ls (Pr L id)) k) (ln (lf p (ls (Pr L id)) k))).1:=λk=>rfl;have ax1:∀k,pP p (ls (Pr L id)) (k+1)=pP p (ls (Pr L id)) k++(prs p (lf p (ls (Pr L id)) k) (ln (lf p (ls (Pr L id)) k))).map (scP (p^k)):=λk=>rfl;have pres:∀k,∃(p':Int) (L':List (Pl p'×Nat)) (g':Nat->Nat),[PV.ob 0 p,.ints (lf p (ls (Pr L id)) k)]=[.ob 0 p',.ints (ls (Pr L' g'))]/\jR p'/\xu L'/\ln (ls (Pr L' g'))<=100:=λk=>⟨p,L,gk p k,by rw[lfe],d,F,by rw[<- lfe];have:=D k;lia⟩;refine⟨⟨⟨rfl,⟨⟨rfl,rfl,tJ⟩,p,f,rfl,by lia⟩,tJ⟩,p,Tz p f,rfl,d,by lia,j7 p f,nM p f⟩,λx N=>?_⟩;have N:x=lf p (ls (Pr L id)) 0:=by have N:x=sE p (Tz p f):=N;rw[N,<- M];rfl
 refine⟨.inl rfl,λq=>?_,λ_=>?_⟩
 .have q:¬¬x=[]:=q;rw[N]at q;exact absurd (mo id).ne q
 refine⟨tJ,λl0 J=>⟨tJ,λc0 I=>?_⟩⟩;have J:l0=pP p (ls (Pr L id)) 0:=J;have I:c0=p^0:=by rw[jm];exact I
 refine jL (Z':=[.fr (.ob 0 p),k7 f,k7 x,.ow (.lst l0),k6 c0,.un,.un,.un]) rfl ?_;clear mN M eL G;generalize ls (Pr L id)=c at *
 refine⟨λZ=>∃(k:Nat) (v5 v t:Sl),Z=[.fr (.ob 0 p),k7 f,k7 (lf p c k),.ow (.lst (pP p c k)),k6 (p^k),v5,v,t]/\k<=31,λZ=>(p^32-wK Z 4).toNat,⟨0,.un,.un,.un,by rw[N,J,I],by lia⟩,?_⟩;rintro Z ⟨k,v5,v,t,rfl,hk⟩;have ll:=D k;refine⟨⟨.inl rfl,tJ⟩,λq=>?_,λq=>?_⟩
 .have q:(ln (lf p c k):Int) > 1:=q;have hk1:k+1<=31:=by have:=sh k (by lia);lia
  refine⟨⟨⟨rfl,rfl,tJ⟩,pres k⟩,λfo y=>?_⟩;have y:fo=Gb p (lf p c k):=y;have pl2:=Ob p (lf p c k) (ln (lf p c k));have pm:∀n∈prs p (lf p c k) (ln (lf p c k)),∃(G:List Int) (e:Nat),e<ln (lf p c k)/\n=.tup [.ints G,.int ((e:Int)+1)]:=λn g=>by
   unfold prs at g;obtain⟨e,he,h⟩:=cE.mp g;split at h
   .cases h;exact⟨_,e,aX.mp he,rfl⟩
   .cases h
  have nx:=nx1 k;have ax:=ax1 k;unfold Gb at y;generalize prs p (lf p c k) (ln (lf p c k))=pr at *
  generalize (Iz p (lf p c k) (ln (lf p c k))).1=u at *
  subst y;refine jL (Z':=[.fr (.ob 0 p),k7 f,k7 (lf p c k),.ow (.lst (pP p c k)),k6 (p^k),.fr (.tup [.lst pr,.ints u]),v,t]) rfl ?_;have it0:nF (.tup [.lst pr,.ints u]) 0:=⟨by show(-2:Int)<=0;decide,by show(0:Int)<2;decide⟩;have it1:nF (.tup [.lst pr,.ints u]) 1:=⟨by show(-2:Int)<=1;decide,by show(1:Int)<2;decide⟩;have al:=O k;refine⟨⟨⟨⟨rfl,tJ,it0⟩,rfl⟩,λn g=>?_⟩,λi Z=>∃v t,Z=[.fr (.ob 0 p),k7 f,k7 (lf p c k),.ow (.lst (pP p c k++(pr.take i).map (scP (p^k)))),k6 (p^k),.fr (.tup [.lst pr,.ints u]),v,t],⟨v,t,by rw[iQ,dM,bu]⟩,?_,?_⟩
  .have g:n∈pr:=g;obtain⟨G,e,_,rfl⟩:=pm n g;rfl
  .rintro i n Z g ⟨v,t,rfl⟩;have g:pr[i]?=some n:=g;have hi:i<ln pr:=(ao.mp g).1;obtain⟨G,e,he,rfl⟩:=pm n (bE g);refine⟨rfl,⟨rfl,⟨rfl,rfl,?_⟩,tJ⟩,?_,⟨k7 G,k6 ((e:Int)+1),?_⟩⟩
   .exact qx (n:=600) (m:=600) (aF (show((e:Int)+1).natAbs<2^6 by lia) (cS (by decide) (by decide))) (l k (by lia))
   .show ln (pP p c k++(pr.take i).map (scP (p^k)))<sizeLine;refine small1000 ?_;rw[ai,aa,aI];lia
   .rw[pJ g,bF,<- cV];rfl
  rintro Z ⟨v,t,rfl⟩;have e3:pP p c k++(pr.take (ln pr)).map (scP (p^k))=pP p c (k+1):=by rw[cU,ax]
  refine jL (Z':=[.fr (.ob 0 p),k7 f,k7 (lf p c k),.ow (.lst (pP p c (k+1))),k6 (p^k),.fr (.tup [.lst pr,.ints u]),v,t]) (by rw[<- e3];rfl) ?_;refine⟨⟨⟨⟨rfl,tJ,it1⟩,rfl⟩,tJ,tJ,⟨rfl,rfl⟩,?_⟩,λx1 r=>?_⟩
  .show some p≠some 0;intro z;have:=aE z;lia
  have r:x1=lf p c (k+1):=by
   have r:x1=sG u none none (some p):=r;have ep:p=((p.toNat:Nat):Int):=(bM (by lia)).symm;rw[r,nx]
   conv=>lhs;rw[ep]
   exact RB u p.toNat (by lia)
  refine jL (Z':=[.fr (.ob 0 p),k7 f,k7 x1,.ow (.lst (pP p c (k+1))),k6 (p^k),.fr (.tup [.lst pr,.ints u]),v,t]) rfl ?_;have pb:=l 1 (by decide);rw[i5]at pb;refine⟨rfl,⟨rfl,rfl⟩,qx (n:=600) (m:=600) (l k (by lia)) pb,λo R=>?_⟩;have R:o=p^(k+1):=by rw[iA];exact R
  refine⟨⟨k+1,.fr (.tup [.lst pr,.ints u]),v,t,by rw[R,r];rfl,hk1⟩,?_⟩;show(p^32-o).toNat<(p^32-p^k).toNat;have pp:0<p^k:=Int.pow_pos (by lia);have h1:p^k*2<=o:=by rw[R,iA];exact bB p2 (ji pp)
  have h2:o<=p^32:=by rw[R];have:((p.toNat^(k+1):Nat):Int)<=((p.toNat^32:Nat):Int):=Int.ofNat_le.mpr (cS (by lia) (by lia));rw[Gw p2,Gw p2]at this;exact this
  generalize p^32=B at *
  generalize p^k=C at *
  lia
 .have q:¬(ln (lf p c k):Int) > 1:=q;have h1:ln (lf p c k)<=1:=by lia
  obtain⟨po,_⟩:=pok k h1;refine⟨⟨rfl,rfl,po⟩,?_⟩;show PV.lst (wj (pP p c k))=JZ p f;rw[S];have:=(stop k h1 (40-k)).2;rw[show k+(40-k)=40 by lia]at this;rw[this]
def mW (t:List (List Int)):(t.map PV.ints).map kW=t:=by rw[bD];have:kW ∘ PV.ints=id:=rfl;rw[this,jo]
def KZ {R:List (List Int)}{k:Nat}(h:k<ln R):(R.map PV.ints).getD k .non=.ints (R.getD k []):=by rw[gQ,gQ,aq,ac h];rfl
def Mu {t:List (List Int)}{i:Nat}(h:i<ln t):m7 (jA t) (i:Int)=.ints (t.getD i []):=by
 show(t.map PV.ints).getD (lD (ln (t.map PV.ints)) (i:Int)) .non=_;have e:lD (ln (t.map PV.ints)) (i:Int)=i:=by unfold lD;rw[af (by lia)];lia
 rw[e,KZ h]
def xq {t:List (List Int)}{i:Nat}(h:i<ln t):nF (jA t) (i:Int):=by show -(ln (t.map PV.ints):Int)<=(i:Int)/\(i:Int)<(ln (t.map PV.ints):Int);rw[aa];lia
def Dj {t:List (List Int)}{i:Nat}(h:i<ln t):kW (m7 (jA t) (i:Int))=t.getD i []:=by rw[Mu h];rfl
def wH {t:List (List Int)}{i:Nat}(h:i<ln t):m7 (jA t) (i:Int)=.ints (kW (m7 (jA t) (i:Int))):=by rw[Mu h];rfl
def Pb {j:Nat}(h:j<ln r):nF (.ints r) (j:Int):=⟨by lia,by lia⟩
def Yj (h:j<n):lD n (j:Int)=j:=by unfold lD;rw[af (by lia)];lia
def aak (h:2<=q):pl q 1=1:=by rw[lJ (by lia)];exact br (by lia) (by lia)
def aah (h:Bd r)(k:Nat):(r.getD k 0).natAbs<2^9000:=by
 by_cases c:k<ln r
 .exact h _ (FM.getD_mem c)
 .rw[jz (by lia)];exact du (by decide)
def wd (m:Int)(r:List Int):List Int:=r++List.replicate (m-(ln r:Int)).toNat 0
def yR (m:Int)(r:Li)(n:Nat):(wd m r).getD n 0=r.getD n 0:=JH r _ n
def wL (h:(ln r:Int)<=m):(ln (wd m r):Int)=m:=by unfold wd;rw[ai,aC];lia
def abV (h:Bd r):Bd (wd m r):=λx a=>by
 rcases cY.mp a with q|q
 .exact h x q
 .rw[(List.mem_replicate.mp q).2];exact du (by decide)
def jZ (p:Int)(d f:List Int)(n:Nat):List (List Int):=(List.range n).map λk=>wd ((ln d:Int)-1) (rm p d (pw f k))
def MN (p:Int)(d f:Li)(n:Nat):jZ p d f (n+1)=jZ p d f n++[wd ((ln d:Int)-1) (rm p d (pw f n))]:=by unfold jZ;rw[iz,bF];rfl
def nG (p:Int)(d f:Li)(n:Nat):ln (jZ p d f n)=n:=by unfold jZ;rw[aa,ag]
def Ir (h:k<n):(jZ p d f n).getD k []=wd ((ln d:Int)-1) (rm p d (pw f k)):=by unfold jZ;rw[gQ,aq,bZ h];rfl
def wB:Ok P w K mg base 6 "power_rows" ["kind","f","count","g"] (wV K (ph U) (λas=>∃p f,∃n:Nat,∃g,as=[.ob 0 p,.ints f,.int (n:Int),.ints g]/\Em p g/\ln f<=50/\Bd f/\ln (Tz p g)<=100/\n<=100) λas=>match as with|[.ob 0 p,.ints f,.int n,.ints g]=>jA (jZ p (Tz p g) f n.toNat)|_=>.non):=by
 refine uK T.Gp nH (λ_ ⟨a,b,c,d,h,_⟩=>h▸rfl) (λf z A r s H E q=>⟨_,(jr (jH (i:=4) nH.nd rfl k4 (lN (mY T.jQ (jM (pD (kj T) q (jq (xv 0) (jq (xl 3) ju))))) jt)) (jr (jE (i:=5) nH.nd rfl k4 (xcL (Fq T) q (jq (xv 0) (jq (xl 1) (jq jt (jq (xl 3) ju)))))) (jr (sY (i:=6) nH.nd rfl k4 (ut ju)) (jr (qd (k:=7) aB rfl (by rfl) T.mZ (xn 2) nH.nd rfl k4 (jr (sX 6 (jM (uq (xl 5) (jM (rJ (kZ (jq jt ju)) (lN (xn 4) (jU 5 T.jQ)) (λ_=>rfl)))))) (jw (jE (i:=5) nH.nd rfl k4 (xcL (uV T) q (jq (xv 0) (jq (xl 5) (jq (xl 1) (jq (xl 3) ju))))))))) (lB 6 (jw (jD (xv 6)))))))),λas J=>?_⟩)
 obtain⟨p,f,n,g,rfl,ok,N,G,I,O⟩:=J;have M:=ok.len;refine⟨⟨⟨⟨⟨rfl,rfl,tJ⟩,p,g,rfl,by lia⟩,tJ⟩,tJ⟩,λB j=>?_⟩;have j:B=(ln (Tz p g):Int)-1:=j;subst j;refine⟨⟨⟨rfl,rfl,tJ,rfl,tJ⟩,p,f,0,g,rfl,ok,by lia,I⟩,λy m=>?_⟩;have m:y=rm p (Tz p g) (pw f 0):=m;refine⟨tJ,λx l=>?_⟩;have l:x=[]:=l;refine jL (Z':=[.fr (.ob 0 p),k7 f,k6 (n:Int),k7 g,k6 ((ln (Tz p g):Int)-1),k7 y,.ow (.lst x),.un]) rfl ?_;refine⟨rfl,⟨by show -(2:Int)^62<=(n:Int);lia,by show(n:Int)<2^62;lia⟩,λi Z=>∃v,Z=[.fr (.ob 0 p),k7 f,k6 (n:Int),k7 g,k6 ((ln (Tz p g):Int)-1),k7 (rm p (Tz p g) (pw f i)),.ow (jA (jZ p (Tz p g) f i)),v],⟨.un,by rw[m,l];rfl⟩,?_,?_⟩
 .rintro i Z t ⟨v,rfl⟩;have t:i<((n:Nat):Int).toNat:=t;obtain⟨_,_,u,D⟩:=mU ok (pw f i);have C:rm p (Tz p g) (pw f (i+1))=rm p (Tz p g) (jy (rm p (Tz p g) (pw f i)) f):=Tr ok (D.mul f);generalize F:rm p (Tz p g) (pw f i)=R at *
  have Q:=u.len;refine⟨rfl,⟨rfl,⟨⟨⟨tJ,tJ⟩,tJ⟩,⟨rfl,.inl rfl⟩,?_,?_⟩,?_⟩,?_,?_⟩
  .show -(2:Int)^63<=(ln (Tz p g):Int)-1-(ln R:Int);lia
  .show((ln (Tz p g):Int)-1-(ln R:Int)).toNat<=1000;lia
  .refine bI (small1000 ?_);show ln R+(List.replicate ((ln (Tz p g):Int)-1-(ln R:Int)).toNat (0:Int)).length<=1000;rw[aC];lia
  .show ln ((jZ p (Tz p g) f i).map PV.ints)<sizeLine;rw[aa,nG];exact small1000 (by lia)
  refine jL (Z':=[.fr (.ob 0 p),k7 f,k6 (n:Int),k7 g,k6 ((ln (Tz p g):Int)-1),k7 R,.ow (jA (jZ p (Tz p g) f (i+1))),k6 (i:Int)]) ?_ ?_
  .have e:jA (jZ p (Tz p g) f (i+1))=.lst ((jZ p (Tz p g) f i).map PV.ints++[.ints (wd ((ln (Tz p g):Int)-1) R)]):=by rw[MN,F];unfold jA;rw[bF];rfl
   rw[e];rfl
  refine⟨⟨⟨rfl,rfl,rfl,rfl,tJ⟩,p,R,f,g,rfl,ok,by lia,u.bd ok.pr,G⟩,λL o=>⟨k6 (i:Int),?_⟩⟩;have o:L=rm p (Tz p g) (jy R f):=o;rw[C,<- o];rfl
 .rintro Z ⟨v,rfl⟩;exact⟨rfl,rfl⟩
def Ka:Ok P w K mg base 7 "powering" ["kind","g"] (wV K (ph U) (λas=>∃p g,as=[.ob 0 p,.ints g]/\Em p g/\ln (Tz p g)<=40) λas=>match as with|[.ob 0 p,.ints g]=>jA (jZ p (Tz p g) (rm p (Tz p g) (pw [0,1] p.toNat)) (ln (Tz p g)-1))|_=>.non):=by
 refine uK T.Nb zH (λ_ ⟨a,b,h,_⟩=>h▸rfl) (λf k A o s H E c=>⟨_,(jr (jH (i:=2) zH.nd rfl k4 (lN (mY T.jQ (jM (pD (kj T) c (jq (xv 0) (jq (xl 1) ju))))) jt)) (jw (jD (xc (wB T) c (jq (xv 0) (jq (xcL (Fq T) c (jq (xv 0) (jq (jM (kZ (jq jt (jq jt ju)))) (jq (Hs (ksz T) (xv 0)) (jq (xl 1) ju))))) (jq (xn 2) (jq (xl 1) ju)))))))),λas m=>?_⟩)
 obtain⟨p,g,rfl,ok,t⟩:=m;have r:=ok.len;have u:2<=p:=ok.pr.1;have n:=lP ok.ne;refine⟨⟨⟨⟨⟨rfl,rfl,tJ⟩,p,g,rfl,by lia⟩,tJ⟩,tJ⟩,λd e=>?_⟩;have e:d=(ln (Tz p g):Int)-1:=e;have e:d=((ln (Tz p g)-1:Nat):Int):=by lia
 subst e;obtain⟨_,_,j,q⟩:=mU ok (pw [0,1] p.toNat);have v:=j.len;have l:((p.toNat:Nat):Int)=p:=by lia
 refine⟨⟨⟨rfl,⟨⟨rfl,⟨⟨tJ,tJ,tJ⟩,tJ⟩,⟨rfl,rfl⟩,rfl,tJ⟩,p,[0,1],p.toNat,g,?_,ok,by decide,by lia⟩,rfl,rfl,tJ⟩,p,rm p (Tz p g) (pw [0,1] p.toNat),ln (Tz p g)-1,g,rfl,ok,by lia,j.bd ok.pr,by lia,by lia⟩,rfl⟩;show[PV.ob 0 p,.ints [0,1],.int p,.ints g]=[.ob 0 p,.ints [0,1],.int ((p.toNat:Nat):Int),.ints g];rw[l]
def yw (f:Nat->Nat->Int)(m:Nat):∀n,sm n (λi=>sm m λj=>f i j)=sm m λj=>sm n λi=>f i j
 |0=>by exact(m9 λj _=>rfl).symm
 |n+1=>by show sm n (λi=>sm m λj=>f i j)+sm m (λj=>f n j)=_;rw[yw f m n,<- tZ];rfl
def Ar (l:Int)(f:Nat->Int)(n:Nat):sm n (λi=>f i*l)=sm n f*l:=by rw[cg,<- oA];exact jG λi _=>cg _ _
abbrev Mx:=Nat->Nat->Int
def mm (n:Nat)(A B:Mx):Mx:=λi j=>sm n λk=>A i k*B k j
def V7 (m n:Nat)(A B C:Mx)(i j:Nat):mm n (mm m A B) C i j=mm m A (mm n B C) i j:=by
 show sm n (λk=>sm m (λl=>A i l*B l k)*C k j)=sm m λl=>A i l*sm n λk=>B l k*C k j;have h1:sm n (λk=>sm m (λl=>A i l*B l k)*C k j)=sm n λk=>sm m λl=>A i l*B l k*C k j:=jG λk _=>(Ar _ _ _).symm;have h2:sm m (λl=>A i l*sm n λk=>B l k*C k j)=sm m λl=>sm n λk=>A i l*B l k*C k j:=jG λl _=>by rw[<- oA];exact jG λk _=>(bH _ _ _).symm
 rw[h1,h2];exact yw _ _ _
def pB (i j:Nat):Int:=if i=j then 1 else 0
def qL:∀{n:Nat},k<n->(∀i,i<n->i≠k->f i=0)->sm n f=f k
 |0,h,_=>by lia
 |n+1,h,z=>by
  show sm n f+f n=f k;by_cases c:k=n
  .subst c;rw[m9 λi b=>z i (by lia) (by lia),cD]
  .rw[qL (by lia) λi b a=>z i (by lia) a,z n (by lia) (λe=>c e.symm),bC]
def sy (A:Mx)(h:i<n)(j:Nat):mm n pB A i j=A i j:=by show sm n (λk=>pB i k*A k j)=A i j;rw[qL h λk _ a=>by unfold pB;rw[ae (λe=>a e.symm),bJ]];unfold pB;rw[af rfl,cj]
def Pa (A:Mx)(i:Nat)(h:j<n):mm n A pB i j=A i j:=by show sm n (λk=>A i k*pB k j)=A i j;rw[qL h λk _ a=>by unfold pB;rw[ae a,aQ]];unfold pB;rw[af rfl,bG]
def Al (p:Int)(n m:Nat)(A B:Mx):Prop:=∀i j,i<n->j<m->p ∣ A i j-B i j
def Al.refl (p:Int)(n m:Nat)(A:Mx):Al p n m A A:=λi j _ _=>by rw[ck];exact aS p
def Al.symm (h:Al p n m A B):Al p n m B A:=λi j a b=>by
 have e:B i j-A i j = -(A i j-B i j):=by lia
 rw[e];exact aV.mpr (h i j a b)
def Al.trans (h:Al p n m A B)(k:Al p n m B C):Al p n m A C:=λi j a b=>by
 have e:A i j-C i j=(A i j-B i j)+(B i j-C i j):=by lia
 rw[e];exact aU (h i j a b) (k i j a b)
def Al.mul (h:Al p n l A B)(k:Al p l m C D):Al p n m (mm l A C) (mm l B D):=λi j b c=>by
 show p ∣ sm l (λx=>A i x*C x j)-sm l λx=>B i x*D x j;rw[<- wZ];refine oG λx a=>?_;have e:A i x*C x j-B i x*D x j=(A i x-B i x)*C x j+B i x*(C x j-D x j):=by rw[gf,cr];lia
 rw[e];exact aU (be (h i x b a)) (aL (k x j a c))
def Al.of (h:∀i j,i<n->j<m->A i j=B i j):Al p n m A B:=λi j a b=>by rw[h i j a b,ck];exact aS p
def Al.rA (p:Int)(n l x m:Nat)(A B C:Mx):Al p n m (mm x (mm l A B) C) (mm l A (mm x B C)):=.of λi j _ _=>V7 l x A B C i j
structure vd (p:Int)(n:Nat)(A B:Mx):Prop where
 ab:Al p n n (mm n A B) pB
 ba:Al p n n (mm n B A) pB
def vd.unit (p:Int)(n:Nat):vd p n pB pB:=⟨.of λi j h _=>sy pB h j,.of λi j h _=>sy pB h j⟩
def vd.mul (h:vd p n A B)(k:vd p n C D):vd p n (mm n A C) (mm n D B):=by
 have a:∀{A B C D:Mx},Al p n n (mm n A B) pB->Al p n n (mm n C D) pB->Al p n n (mm n (mm n A C) (mm n D B)) pB:=λ{A B C D} h k=>by have s:Al p n n (mm n C (mm n D B)) B:=(Al.rA p n n n n C D B).symm.trans ((Al.mul k (.refl p n n B)).trans (.of λi j b _=>sy B b j));exact(Al.rA p n n n n A C (mm n D B)).trans ((Al.mul (.refl p n n A) s).trans h)
 exact⟨a h.ab k.ab,a k.ba h.ba⟩
def vd.left (h:vd p n A B)(k:Al p n n (mm n C A) pB):Al p n n (mm n A C) pB:=by
 have e:Al p n n C B:=by have s:Al p n n (mm n (mm n C A) B) B:=(Al.mul k (.refl p n n B)).trans (.of λi j a _=>sy B a j);have c:Al p n n (mm n C (mm n A B)) C:=(Al.mul (.refl p n n C) h.ab).trans (.of λi j _ b=>Pa C i b);exact c.symm.trans ((Al.rA p n n n n C A B).symm.trans s)
 exact(Al.mul (.refl p n n A) e).trans h.ab
def RM (d:Nat)(c:Nat->Int):Mx:=λi k=>(if i=d then 0 else pB i k)+if k=d then c i else 0
def VG (c:Nat->Int)(A:Mx)(g:i<n)(b:d<n)(j:Nat):mm n (RM d c) A i j=(if i=d then 0 else A i j)+c i*A d j:=by
 show sm n (λk=>((if i=d then 0 else pB i k)+if k=d then c i else 0)*A k j)=_;have h:sm n (λk=>((if i=d then 0 else pB i k)+if k=d then c i else 0)*A k j)=sm n (λk=>(if i=d then 0 else pB i k)*A k j)+sm n (λk=>(if k=d then c i else 0)*A k j):=by rw[<- tZ];exact jG λk _=>eS _ _ _
 rw[h,qL (f:=λk=>(if k=d then c i else 0)*A k j) b λk _ a=>by rw[ae a,bJ],af rfl];congr 1;by_cases e:i=d
 .rw[af e];exact m9 λk _=>by rw[af e,bJ]
 .rw[ae e];have l:sm n (λk=>(if i=d then 0 else pB i k)*A k j)=mm n pB A i j:=jG λk _=>by rw[ae e]
  rw[l,sy A g j]
def Qn (f:d<n)(h1:p ∣ c d*e d-1)(h2:∀i,i<n->i≠d->p ∣ e i+c i*e d):Al p n n (mm n (RM d c) (RM d e)) pB:=λi j h g=>by
 rw[VG c _ h f];have a:RM d e d j=if j=d then e d else 0:=by show(if d=d then 0 else pB d j)+(if j=d then e d else 0)=_;rw[af rfl,cD]
 rw[a];by_cases x:i=d
 .subst x;rw[af rfl,cD];by_cases y:j=i
  .subst y;have u:pB j j=1:=af rfl;rw[af rfl,u];exact h1
  .have u:pB i j=0:=ae λz=>y z.symm;rw[ae y,aQ,u];exact aS p
 .rw[ae x];have b:RM d e i j=pB i j+if j=d then e i else 0:=by show(if i=d then 0 else pB i j)+(if j=d then e i else 0)=_;rw[ae x]
  rw[b];by_cases y:j=d
  .rw[af y,af y];have z:=h2 i h x;generalize c i*e d=w at *
   have q:pB i j+e i+w-pB i j=e i+w:=by lia
   rw[q];exact z
  .rw[ae y,ae y,aQ,bC,bC,ck];exact aS p
def ZF (a:Nat->Nat):Mx:=λi j=>pB (a i) j
def TX (A:Mx)(h:a i<n)(j:Nat):mm n (ZF a) A i j=A (a i) j:=sy A h j
def Qz (c:∀i,i<n->a i<n)(h:∀i,i<n->τ (a i)=i):Al p n n (mm n (ZF a) (ZF τ)) pB:=.of λi j b _=>by rw[TX _ (c i b)];show pB (τ (a i)) j=pB i j;rw[h i b]
abbrev Tab:=List (List Int)
def qG (t:Tab)(f done:Nat):Tab:=t.take done++[t.getD f []]++(t.drop done).take (f-done)++t.drop (f+1)
def Bc (f done i:Nat):Nat:=if i<done then i else if i=done then f else if i<=f then i-1 else i
def tau (f done i:Nat):Nat:=if i<done then i else if i=f then done else if i<f then i+1 else i
def XS (h:done<=found)(i:Nat):tau found done (Bc found done i)=i:=by
 unfold Bc tau
 repeat' split
 all_goals lia
def W9 (h:done<=found)(i:Nat):Bc found done (tau found done i)=i:=by
 unfold Bc tau
 repeat' split
 all_goals lia
def Ha (h:done<=found)(a:found<n)(b:i<n):Bc found done i<n:=by
 unfold Bc
 repeat' split
 all_goals lia
def aa3 (h:done<=found)(a:found<n)(b:i<n):tau found done i<n:=by
 unfold tau
 repeat' split
 all_goals lia
def Kh (h:done<=found)(a:found<ln t):ln (qG t found done)=ln t:=by unfold qG;simp only[ai,aI,aZ,aR,cO];lia
def Ay (h:done<=found)(f:found<ln t)(g:i<ln t):(qG t found done).getD i []=t.getD (Bc found done i) []:=by
 unfold qG Bc;simp only[gQ];by_cases c:i<done
 .rw[af c,aT (by simp only[ai,aI,aZ,aR,cO];lia),aT (by simp only[ai,aI,aR,cO];lia),aT (by simp only[aI];lia),dA c]
 .rw[ae c];by_cases b:i=done
  .rw[af b,aT (by simp only[ai,aI,aZ,aR,cO];lia),aT (by simp only[ai,aI,aR,cO];lia),bj (by simp only[aI];lia)];have e:i-ln (List.take done t)=0:=by simp only[aI];lia
   rw[e];simp
  .rw[ae b];by_cases d:i<=found
   .rw[af d,aT (by simp only[ai,aI,aZ,aR,cO];lia),bj (by simp only[ai,aI,aR,cO];lia)];have e:i-ln (List.take done t++[t[found]?.getD []])=i-done-1:=by simp only[ai,aI,aR,cO];lia
    rw[e,dA (by lia),cN];have a:done+(i-done-1)=i-1:=by lia
    rw[a]
   .have q:min (found-done) (ln t-done)=found-done:=by lia
    have r:min done (ln t)=done:=by lia
    rw[ae d,bj (by simp only[ai,aI,aZ,aR,cO,q,r];lia)];have e:i-ln (List.take done t++[t[found]?.getD []]++List.take (found-done) (List.drop done t))=i-found-1:=by simp only[ai,aI,aZ,aR,cO,q,r];lia
    rw[e,cN];have a:found+1+(i-found-1)=i:=by lia
    rw[a]
def ent (t:Tab):Mx:=λi j=>(t.getD i []).getD j 0
def Zh (h:done<=found)(a:found<ln t):Al p (ln t) m (ent (qG t found done)) (mm (ln t) (ZF (Bc found done)) (ent t)):=.of λi j b _=>by rw[TX _ (Ha h a b)];unfold ent;rw[Ay h a b]
def zY (p fac:Int)(r:List Int):List Int:=(r.map λn=>fac*n).map (pl p)
def Cp (p:Int)(r first:List Int)(at':Nat):List Int:=List.zipWith (λn o=>pl p (n-r.getD at' 0*o)) r first
def vV (p fac:Int)(t:Tab)(at' done:Nat):Tab:=t.mapIdx λa r=>if a=done then zY p fac (t.getD done []) else Cp p r (zY p fac (t.getD done [])) at'
def Ue (p fac:Int)(t:Tab)(at' done:Nat):ln (vV p fac t at' done)=ln t:=by unfold vV;rw[cM]
def yh (p fac:Int)(r:Li)(j:Nat):(zY p fac r).getD j 0=pl p (fac*r.getD j 0):=by unfold zY;rw[mK _ (lU p),mK _ (aQ fac)]
def Jg (h1:j<ln row)(h2:j<ln first):(Cp p row first at').getD j 0=pl p (row.getD j 0-row.getD at' 0*first.getD j 0):=by unfold Cp;rw[jK (by rw[eV];lia),iM,jK h1,jK h2]
def G3 (h:i<ln t):(vV p fac t at' done).getD i []=if i=done then zY p fac (t.getD done []) else Cp p (t.getD i []) (zY p fac (t.getD done [])) at':=by unfold vV;simp only[gQ,cu,ac h,dO,eQ]
def Ei (fac:Int)(t:Tab)(at' done:Nat):Nat->Int:=λi=>if i=done then fac else -(ent t i at' * fac)
def Xh (a:done<ln t)(b:∀i,i<ln t->ln (t.getD i [])=m):Al p (ln t) m (ent (vV p fac t at' done)) (mm (ln t) (RM done (Ei fac t at' done)) (ent t)):=λi j h g=>by
 rw[VG _ _ h a];show p ∣ ((vV p fac t at' done).getD i []).getD j 0-_;rw[G3 h];have f:=lR p (fac*(t.getD done []).getD j 0);by_cases c:i=done
 .rw[af c,af c,yh,cD];unfold Ei;rw[af c];exact f
 .rw[ae c,ae c];have l:=b i h;have k:ln (zY p fac (t.getD done []))=m:=by unfold zY;rw[aa,aa];exact b done a
  rw[Jg (by lia) (by lia),yh];unfold Ei;rw[ae c];show p ∣ _-((t.getD i []).getD j 0 + -((t.getD i []).getD at' 0*fac)*(t.getD done []).getD j 0);have d:=lR p ((t.getD i []).getD j 0-(t.getD i []).getD at' 0*pl p (fac*(t.getD done []).getD j 0));generalize pl p ((t.getD i []).getD j 0-(t.getD i []).getD at' 0*pl p (fac*(t.getD done []).getD j 0))=u at *
  generalize pl p (fac*(t.getD done []).getD j 0)=v at *
  generalize (t.getD i []).getD j 0=x at *
  generalize (t.getD i []).getD at' 0=y at *
  generalize (t.getD done []).getD j 0=z at *
  have e:u-(x + -(y*fac)*z)=(u-(x-y*v)) + -(y*(v-fac*z)):=by rw[iZ,bH,cr];lia
  rw[e];exact aU d (aV.mpr (aL f))
def Yq (d:done<ln t)(b:p ∣ fac*ent t done at'-1):vd p (ln t) (RM done (Ei fac t at' done)) (RM done λi=>ent t i at'):=by
 have c:Ei fac t at' done done=fac:=af rfl;refine⟨Qn d (by rw[c];exact b) λi _ h=>?_,Qn d (by rw[c,cg];exact b) λi _ h=>?_⟩
 .have a:Ei fac t at' done i = -(ent t i at' * fac):=ae h;rw[a];generalize ent t i at'=y;generalize ent t done at'=z at *
  have e:y + -(y*fac)*z = -(y*(fac*z-1)):=by rw[iZ,bH,cr,bG];lia
  rw[e];exact aV.mpr (aL b)
 .have a:Ei fac t at' done i = -(ent t i at' * fac):=ae h;rw[a,c];have e:-(ent t i at' * fac)+ent t i at' * fac=0:=by lia
  rw[e];exact aS p
def MP (t:Tab)(at' d:Nat):Option Nat:=((List.range (ln t-d)).map λk=>d+k).find? λi=>decide (ent t i at'≠0)
def ye (h:MP t at' d=some f):d<=f/\f<ln t/\ent t f at'≠0:=by unfold MP at h;have h1:=ig h;have h2:=eJ h;obtain⟨k,a,e⟩:=aY.mp h2;have a:=aX.mp a;exact⟨by lia,by lia,bQ h1⟩
def Le (h:MP t at' d=none)(h1:d<=i)(h2:i<ln t):ent t i at'=0:=by unfold MP at h;have:=List.find?_eq_none.mp h i (aY.mpr ⟨i-d,aX.mpr (by lia),by lia⟩);simpa using this
def Zm (p:Int)(iv:Int->Int)(t:Tab)(at' done:Nat):Tab:=vV p (iv (ent t done at')) t at' done
def Wu (p:Int)(iv:Int->Int)(at':Nat)(s:Tab×Nat):Tab×Nat:=match MP s.1 at' s.2 with
 |none=>s
 |some f=>(Zm p iv (qG s.1 f s.2) at' s.2,s.2+1)
def Pg (p:Int)(iv:Int->Int)(t:Tab):Nat->Tab×Nat
 |0=>(t,0)
 |k+1=>Wu p iv k (Pg p iv t k)
structure EI (p:Int)(n m:Nat)(t0:Tab)(k:Nat)(t:Tab)(d:Nat):Prop where
 len:ln t=n
 row:∀i,i<n->ln (t.getD i [])=m
 red:∀i j,pl p (ent t i j)=ent t i j
 mul:∃A B,vd p n A B/\Al p n m (ent t) (mm n A (ent t0))
 dn:d<=n
 piv:∃v:Nat->Nat,(∀i,i<d->v i<k)/\(∀i j,i<j->j<d->v i<v j)/\(∀i,i<d->ent t i (v i)=1)/\(∀i r,i<d->r<n->r≠i->ent t r (v i)=0)/\∀i c,i<d->c<v i->ent t i c=0
 low:∀i c,d<=i->i<n->c<k->ent t i c=0
def Pn (h:done<=found)(a:found<ln t)(b:i<ln t):ent (qG t found done) i j=ent t (Bc found done i) j:=by unfold ent;rw[Ay h a b]
def Xi (h:i<ln t)(c:done<ln t)(b:∀i,i<ln t->ln (t.getD i [])=m)(a:j<m):ent (vV p fac t at' done) i j=if i=done then pl p (fac*ent t done j) else pl p (ent t i j-ent t i at' * pl p (fac*ent t done j)):=by
 unfold ent;rw[G3 h];split
 .exact yh _ _ _ _
 .rw[Jg (by rw[b i h];exact a) (by unfold zY;rw[aa,aa,b done c];exact a),yh]
def Qv (a:∀i,i<ln t->ln (t.getD i [])=m)(h:m<=j):ent t i j=0:=by
 unfold ent;by_cases c:i<ln t
 .exact jz (by rw[a i c];exact h)
 .rw[d6 (l:=t),bT (by lia)];rfl
def pF (h:ln t<=i):ent t i j=0:=by unfold ent;rw[d6 (l:=t),bT h];rfl
def OJ (b:done<ln t)(a:∀i,i<ln t->ln (t.getD i [])=m)(h:i<ln t):ln ((vV p fac t at' done).getD i [])=m:=by
 rw[G3 h];have l:ln (zY p fac (t.getD done []))=m:=by unfold zY;rw[aa,aa];exact a done b
 split
 .exact l
 .unfold Cp;rw[eV,l,a i h,iB]
def EI.step (hp:2<=p)(O:∀x,0<x->x<p->p ∣ iv x*x-1)(hk:k<m)(I:EI p n m t0 k t d):EI p n m t0 (k+1) (Wu p iv k (t,d)).1 (Wu p iv k (t,d)).2:=by
 obtain⟨v,g,v2,v3,v4,v5⟩:=I.piv;unfold Wu;cases Z:MP t k d with
 |none=>
  refine⟨I.len,I.row,I.red,I.mul,I.dn,⟨v,λi a=>Nat.lt_succ_of_lt (g i a),v2,v3,v4,v5⟩,λi c h1 h2 L=>?_⟩;by_cases c':c=k
  .rw[c'];exact Le Z h1 (by rw[I.len];exact h2)
  .exact I.low i c h1 h2 (by lia)
 |some f=>
  show EI p n m t0 (k+1) (Zm p iv (qG t f d) k d) (d+1);obtain⟨b,e,f3⟩:=ye Z;have G:=I.len;have D:ln (qG t f d)=n:=by rw[Kh b e,G]
  have E:∀i,i<ln (qG t f d)->ln ((qG t f d).getD i [])=m:=λi a=>by rw[D]at a;rw[Ay b e (by lia)];exact I.row _ (by have:=Ha (i:=i) b e (by lia);lia)
  have u:∀i j,i<n->ent (qG t f d) i j=ent t (Bc f d i) j:=λi j a=>Pn b e (by lia);have F:Bc f d d=f:=by unfold Bc;rw[ae (by lia),af rfl]
  have s:∀i,i<d->Bc f d i=i:=λi a=>af a;have y:∀i,d<=i->d<=Bc f d i:=λi a=>by
   unfold Bc;rw[ae (by lia)]
   repeat' split
   all_goals lia
  have S:∀i,i<n->Bc f d i<n:=λi a=>by rw[<- G];exact Ha b e (by lia)
  have C:d<n:=by lia
  have xr:=I.red f k;have x0:0<ent t f k/\ent t f k<p:=by have:=BW (z:=p) (n:=ent t f k) (by lia);rw[xr]at this;lia
  have Q:=O _ x0.1 x0.2;unfold Zm;rw[u d k C,F];generalize hfac:iv (ent t f k)=fac at Q;generalize hM:qG t f d=M at *
  have Y:ln (vV p fac M k d)=n:=by rw[Ue,D]
  have J:∀i j,i<n->j<m->ent (vV p fac M k d) i j=if i=d then pl p (fac*ent M d j) else pl p (ent M i j-ent M i k*pl p (fac*ent M d j)):=λi j a hj=>Xi (by lia) (by lia) E hj;have o:∀c,c<k->ent M d c=0:=λc N=>by rw[u d c C,F];exact I.low f c b (by lia) N
  have l:∀i c,i<n->c<k->ent (vV p fac M k d) i c=if i=d then 0 else ent t (Bc f d i) c:=λi c a N=>by rw[J i c a (by lia),o c N,aQ,lU,aQ,aJ,u i c a,I.red]
  have H:∀i,i<n->ent (vV p fac M k d) i k=if i=d then 1 else 0:=λi a=>by
   have one:pl p (fac*ent M d k)=1:=by
    rw[u d k C,F];have h1:pl p 1=1:=by rw[lJ (by lia)];exact br (by lia) (by lia)
    rw[<- h1];exact(qu p _ _).mpr Q
   rw[J i k a hk,one,bG,ck,lU]
  refine⟨Y,λi a=>OJ (by lia) E (by lia),λi j=>?_,?_,by lia,⟨λi=>if i<d then v i else k,λi a=>?_,λi j h1 h2=>?_,λi a=>?_,λi r h1 h2 L=>?_,λi c h1 h2=>?_⟩,λi c h1 h2 L=>?_⟩
  .by_cases c1:i<n
   .by_cases c2:j<m
    .rw[J i j c1 c2];split<;>exact qQ _ _
    .rw[Qv (m:=m) (λi a=>OJ (by lia) E (by rw[Y]at a;lia)) (by lia),lU]
   .rw[pF (by lia),lU]
  .obtain⟨A,B,a,ha⟩:=I.mul;have i1:vd p n (ZF (Bc f d)) (ZF (tau f d)):=⟨Qz S λi _=>XS b i,Qz (λi h=>by rw[<- G];exact aa3 b e (by lia)) λi _=>W9 b i⟩;have R:p ∣ fac*ent M d k-1:=by rw[u d k C,F];exact Q
   have i2:vd p (ln M) (RM d (Ei fac M k d)) (RM d λi=>ent M i k):=Yq (by lia) R;rw[D]at i2;have a1:Al p n m (ent M) (mm n (ZF (Bc f d)) (ent t)):=by rw[<- hM,<- G];exact Zh b e
   have a2:Al p n m (ent (vV p fac M k d)) (mm n (RM d (Ei fac M k d)) (ent M)):=by have:=Xh (p:=p) (fac:=fac) (t:=M) (at':=k) (done:=d) (m:=m) (by lia) E;rw[D]at this;exact this
   refine⟨mm n (RM d (Ei fac M k d)) (mm n (ZF (Bc f d)) A),_,i2.mul (i1.mul a),a2.trans ?_⟩;refine((Al.refl p n n _).mul (a1.trans (((Al.refl p n n _).mul ha).trans (Al.rA p n n n m _ _ _).symm))).trans (Al.rA p n n n m _ _ _).symm
  .show(if i<d then v i else k)<k+1;split
   .rename_i q;have:=g i q;lia
   .lia
  .show(if i<d then v i else k)<(if j<d then v j else k);rw[af (by lia)];split
   .rename_i q;exact v2 i j h1 q
   .exact g i (by lia)
  .show ent _ i (if i<d then v i else k)=1;split
   .rename_i q;rw[l i _ (by lia) (g i q),ae (by lia),s i q];exact v3 i q
   .rw[H i (by lia),af (by lia)]
  .show ent _ r (if i<d then v i else k)=0;split
   .rename_i q;rw[l r _ h2 (g i q)];split
    .rfl
    .refine v4 i _ q (S r h2) λz=>?_;by_cases c:r<d
     .rw[s r c]at z;exact L z
     .have:=y r (by lia);lia
   .rw[H r h2,ae (by lia)]
  .have h2:c<(if i<d then v i else k):=h2;by_cases q:i<d
   .rw[af q]at h2;rw[l i c (by lia) (by have:=g i q;lia),ae (by lia),s i q];exact v5 i c q h2
   .rw[ae q]at h2;rw[l i c (by lia) h2,af (by lia)]
  .by_cases q:c=k
   .rw[q,H i h2,ae (by lia)]
   .rw[l i c h2 (by lia),ae (by lia)];exact I.low _ c (y i (by lia)) (S i h2) (by lia)
def EI.start (h1:ln t0=n)(h2:∀i,i<n->ln (t0.getD i [])=m)(a:∀i j,pl p (ent t0 i j)=ent t0 i j):EI p n m t0 0 t0 0:=
 ⟨h1,h2,a,⟨pB,pB,.unit p n,(Al.of λi j b _=>sy (ent t0) b j).symm⟩,a9 n,⟨λ_=>0,λ_ h=>absurd h (cJ _),λ_ _ _ h=>absurd h (cJ _),λ_ h=>absurd h (cJ _),λ_ _ h=>absurd h (cJ _),λ_ _ h=>absurd h (cJ _)⟩,λ_ _ _ _ h=>absurd h (cJ _)⟩
def EI.all (c:2<=p)(a:∀x,0<x->x<p->p ∣ iv x*x-1)(h1:ln t0=n)(h2:∀i,i<n->ln (t0.getD i [])=m)(b:∀i j,pl p (ent t0 i j)=ent t0 i j):∀k,k<=m->EI p n m t0 k (Pg p iv t0 k).1 (Pg p iv t0 k).2
 |0,_=>EI.start h1 h2 b
 |k+1,h=>EI.step c a (by lia) (EI.all c a h1 h2 b k (by lia))
def RQ (n i:Nat):List Int:=(List.replicate n (0:Int)).set i 1
def Hr (n i:Nat):ln (RQ n i)=n:=by unfold RQ;rw[bn,aC]
def YX (h:j<n):(RQ n i).getD j 0=pB i j:=by
 unfold RQ pB;rw[jK (by rw[bn,aC];exact h),List.getElem_set];split
 .rfl
 .exact ce ..
def Lk (n:Nat):Tab:=(List.range n).map λi=>RQ n i
def Aa (n:Nat):ln (Lk n)=n:=by unfold Lk;rw[aa,ag]
def aaX (h:i<n):(Lk n).getD i []=RQ n i:=by unfold Lk;rw[gQ,aq,bZ h];rfl
def pC (p:Int)(rows:Tab):Tab:=List.zipWith (λr unit=>(r++unit).map (pl p)) rows (Lk (ln rows))
def Dr (p:Int)(rows:Tab):ln (pC p rows)=ln rows:=by unfold pC;rw[eV,Aa,iB]
def z9 (h:i<ln rows):(pC p rows).getD i []=(rows.getD i []++RQ (ln rows) i).map (pl p):=by unfold pC;have u:=aaX h;rw[gQ,ac (by rw[Aa];exact h)]at u;have u:(Lk (ln rows))[i]'(by rw[Aa];exact h)=RQ (ln rows) i:=u;rw[gQ,ac (by rw[eV,Aa,iB];exact h),eQ,iM,u,gQ,ac h,eQ]
def Xm {a b:Li}{j:Nat}:(a++b).getD j 0=if j<ln a then a.getD j 0 else b.getD (j-ln a) 0:=by
 rw[gQ];split
 .rename_i h;rw[aT h,gQ]
 .rename_i h;rw[bj (by lia),gQ]
def JC {p:Int}{rows:Tab}{w i j:Nat}(h:i<ln rows)(a:∀i,i<ln rows->ln (rows.getD i [])=w):ent (pC p rows) i j=pl p (if j<w then ent rows i j else(RQ (ln rows) i).getD (j-w) 0):=by show((pC p rows).getD i []).getD j 0=_;rw[z9 h,mK _ (lU p),Xm,a i h];rfl
def JF:pl p (ent (pC p rows) i j)=ent (pC p rows) i j:=by
 by_cases h:i<ln rows
 .unfold ent;rw[z9 h,mK _ (lU p),qQ]
 .rw[pF (by rw[Dr];lia),lU]
def n8 (p:Int)(iv:Int->Int)(rows:Tab)(w:Nat):Tab:=(Pg p iv (pC p rows) w).1
structure Cbu (p:Int)(n w:Nat)(rows t:Tab)(d:Nat):Prop where
 len:ln t=n
 row:∀i,i<n->ln (t.getD i [])=w+n
 red:∀i j,pl p (ent t i j)=ent t i j
 inv:∃B,vd p n (λi j=>ent t i (w+j)) B
 mul:Al p n w (ent t) (mm n (λi j=>ent t i (w+j)) (ent rows))
 dn:d<=n
 piv:∃v:Nat->Nat,(∀i,i<d->v i<w)/\(∀i j,i<j->j<d->v i<v j)/\(∀i,i<d->ent t i (v i)=1)/\(∀i r,i<d->r<n->r≠i->ent t r (v i)=0)/\∀i c,i<d->c<v i->ent t i c=0
 low:∀i c,d<=i->i<n->c<w->ent t i c=0
def vd.congr (h:vd p n A B)(e:Al p n n A A'):vd p n A' B:=
 ⟨(e.symm.mul (.refl p n n B)).trans h.ab,((Al.refl p n n B).mul e.symm).trans h.ba⟩
def Cr {iv:Int->Int}{rows:Tab}{n w:Nat}(z:2<=p)(c:∀x,0<x->x<p->p ∣ iv x*x-1)(v:ln rows=n)(f:∀i,i<n->ln (rows.getD i [])=w):Cbu p n w rows (n8 p iv rows w) (Pg p iv (pC p rows) w).2:=by
 subst v;have I:=EI.all (m:=w+ln rows) z c (Dr p rows) (λi a=>by rw[z9 a,aa,ai,f i a,Hr]) (λi j=>JF) w (by lia);unfold n8;generalize (Pg p iv (pC p rows) w).1=t at *
 generalize (Pg p iv (pC p rows) w).2=d at *
 obtain⟨A,B,a,g⟩:=I.mul;have o:Al p (ln rows) (ln rows) A (λi j=>ent t i (w+j)):=λi j a b=>by
  have h:=(g i (w+j) a (by lia));have e:Al p (ln rows) (ln rows) (mm (ln rows) A (λk l=>ent (pC p rows) k (w+l))) A:=((Al.refl p _ _ A).mul λk l s u=>by
   rw[JC s f,ae (by lia),show w+l-w=l by lia,YX u];exact lR _ _).trans (.of λi j _ b=>Pa A i b)
  have h2:=e i j a b;have r:mm (ln rows) A (ent (pC p rows)) i (w+j)=mm (ln rows) A (λk l=>ent (pC p rows) k (w+l)) i j:=rfl;rw[r]at h;generalize mm (ln rows) A (λk l=>ent (pC p rows) k (w+l)) i j=y at *
  have q:A i j-ent t i (w+j) = -((ent t i (w+j)-y)+(y-A i j)):=by lia
  rw[q];exact aV.mpr (aU h h2)
 refine⟨I.len,I.row,I.red,⟨B,a.congr o⟩,?_,I.dn,I.piv,I.low⟩;have C:Al p (ln rows) w (ent (pC p rows)) (ent rows):=λi j a b=>by rw[JC a f,af b];exact lR _ _
 have D:Al p (ln rows) w (ent t) (mm (ln rows) A (ent (pC p rows))):=λi j a b=>g i j a (by lia);exact D.trans (o.mul C)
def Xr {n:Nat}{v:Nat->Nat}(h1:∀i,i<n->v i<n)(h2:∀i j,i<j->j<n->v i<v j):∀i,i<n->v i=i:=by
 have l:∀i,i<n->i<=v i:=λi=>by
  induction i with
  |zero=>intro _;exact a9 _
  |succ i b=>intro a;have:=b (by lia);have:=h2 i (i+1) (by lia) a;lia
 have a:∀k i,i+k+1=n->v i<=i:=λk=>by
  induction k with
  |zero=>intro i h;have:=h1 i (by lia);lia
  |succ k b=>intro i h;have:=b (i+1) (by lia);have:=h2 i (i+1) (by lia) (by lia);lia
 intro i h;have:=l i h;have:=a (n-1-i) i (by lia);lia
def Cbu.unit {n:Nat}{rows t:Tab}{d:Nat}(F:2<=p)(c:Cbu p n n rows t d)(h:∃B,vd p n (ent rows) B):Al p n n (mm n (λi j=>ent t i (n+j)) (ent rows)) pB:=by
 obtain⟨B,l⟩:=h;obtain⟨C,m⟩:=c.inv;obtain⟨v,y,A,D,E,G⟩:=c.piv;have x:=(m.mul l).congr c.mul.symm;have b:d=n:=by
  by_cases e:d=n
  .exact e
  .exfalso;have b:=c.dn;have z:=x.ab d d (by lia) (by lia);have s:mm n (ent t) (mm n B C) d d=0:=m9 λk r=>by rw[c.low d k (aj _) (by lia) r,bJ]
   have u:pB d d=1:=af rfl;rw[s,u]at z;have:=fw (by decide) (aV.mpr z);lia
 subst b;have g:=Xr y A;refine c.mul.symm.trans (.of λi j o a=>?_);have f:=D j a;rw[g j a]at f;unfold pB;split
 .rename_i q;rw[q];exact f
 .rename_i q;have:=E j i a o q;rw[g j a]at this;exact this
def HX (f:Nat->Int):∀n,((List.range n).map f).sum=sm n f
 |0=>rfl
 |n+1=>by rw[iz,bF,List.sum_append,HX f n];show sm n f+(f n+0)=sm n f+f n;rw[bC]
def uP (p:Int)(a b:Tab)(w:Nat):Tab:=a.map λr=>(List.range w).map λj=>((List.range (ln r)).map λk=>r.getD k 0*ent b k j).sum % p
def sO {t:Tab}{i:Nat}(h:i<ln t):t.getD i []=t[i]:=by rw[gQ,ac h];rfl
def wN {t:Tab}(f:List Int->List Int){i:Nat}(h:i<ln t):(t.map f).getD i []=f (t.getD i []):=by rw[sO (by rw[aa];exact h),bi,sO h]
def wX (f:Nat->Int){w j:Nat}(h:j<w):((List.range w).map f).getD j 0=f j:=by rw[jK (by rw[aa,ag];exact h),bi,bp]
def Jh {a b:Tab}{w l i j:Nat}(h:i<ln a)(d:ln (a.getD i [])=l)(c:j<w):ent (uP p a b w) i j=mm l (ent a) (ent b) i j % p:=by show((uP p a b w).getD i []).getD j 0=_;unfold uP;rw[wN _ h,wX _ c,HX,d];rfl
def Xa {s t:Tab}{m:Nat}(h1:ln s=ln t)(h2:∀i,i<ln t->ln (s.getD i [])=m/\ln (t.getD i [])=m)(c:∀i j,i<ln t->j<m->ent s i j=ent t i j):s=t:=by refine b7 h1 λi d h=>?_;have b:=sO d;have e:=sO h;obtain⟨g,l⟩:=h2 i h;refine b7 (by rw[<- b,<- e,g,l]) λj f a=>?_;have:=c i j h (by rw[<- l,e];exact a);unfold ent at this;rw[b,e,jK f,jK a]at this;exact this
def Gq {a b t:Tab}{n l w:Nat}(k:0<p)(e:ln a=n)(g:∀i,i<n->ln (a.getD i [])=l)(q:ln t=n)(r:∀i,i<n->ln (t.getD i [])=w)(o:∀i j,pl p (ent t i j)=ent t i j)(h:Al p n w (ent t) (mm l (ent a) (ent b))):uP p a b w=t:=by
 have c:ln (uP p a b w)=ln t:=by unfold uP;rw[aa,e,q]
 refine Xa (m:=w) c (λi f=>⟨?_,r i (by lia)⟩) λi j f d=>?_
 .unfold uP;rw[wN _ (by lia),aa,ag]
 .rw[Jh (by lia) (g i (by lia)) d,<- lJ k,<- o i j];refine((qu p _ _).mpr ?_).symm;exact h i j (by lia) d
def uQ (n:Nat):Tab:=(List.range n).map λi=>(List.range n).map λk=>pB i k
def vp (n:Nat):ln (uQ n)=n:=by unfold uQ;rw[aa,ag]
def O6 {n i:Nat}(h:i<n):(uQ n).getD i []=(List.range n).map λk=>pB i k:=by rw[sO (by rw[vp];exact h)];unfold uQ;rw[bi,bp]
def vC {n i j:Nat}(h:i<n)(a:j<n):ent (uQ n) i j=pB i j:=by show((uQ n).getD i []).getD j 0=_;rw[O6 h,wX _ a]
def CQ (h:i<n):ln ((uQ n).getD i [])=n:=by rw[O6 h,aa,ag]
def Lb (c:2<=p)(i j:Nat):pl p (ent (uQ n) i j)=ent (uQ n) i j:=by
 by_cases h:i<n
 .by_cases b:j<n
  .rw[vC h b];unfold pB;split
   .rw[lJ (by lia)];exact br (by lia) (by lia)
   .exact lU p
  .rw[Qv (m:=n) (λi a=>CQ (by rw[vp]at a;exact a)) (by lia),lU]
 .rw[pF (by rw[vp];lia),lU]
def qy (w:Nat)(t:Tab):Tab:=t.map λr=>r.take w
def pW (w:Nat)(t:Tab):Tab:=t.map λr=>r.drop w
def tD {w:Nat}{t:Tab}{i j:Nat}(a:j<w):ent (qy w t) i j=ent t i j:=by
 by_cases h:i<ln t
 .show((qy w t).getD i []).getD j 0=_;unfold qy;rw[wN _ h,gQ,dA a,<- gQ];rfl
 .rw[pF (by unfold qy;rw[aa];lia),pF (by lia)]
def yI {w:Nat}{t:Tab}{i j:Nat}:ent (pW w t) i j=ent t i (w+j):=by
 by_cases h:i<ln t
 .show((pW w t).getD i []).getD j 0=_;unfold pW;rw[wN _ h,gQ,cN,<- gQ];rfl
 .rw[pF (by unfold pW;rw[aa];lia),pF (by lia)]
def Ko (w:Nat)(t:Tab):ln (qy w t)=ln t:=by unfold qy;rw[aa]
def Rw (w:Nat)(t:Tab):ln (pW w t)=ln t:=by unfold pW;rw[aa]
def lE (p:Int)(iv:Int->Int)(rows:Tab)(w:Nat):Tab:=qy w (n8 p iv rows w)
def turnT (p:Int)(iv:Int->Int)(rows:Tab)(w:Nat):Tab:=pW w (n8 p iv rows w)
def oF (p:Int)(iv:Int->Int)(rows:Tab)(w:Nat):Tab:=pW (ln rows) (n8 p iv (turnT p iv rows w) (ln rows))
structure Zi (p:Int)(n m:Nat)(t:Tab):Prop where
 len:ln t=n
 row:∀i,i<n->ln (t.getD i [])=m
 red:∀i j,pl p (ent t i j)=ent t i j
structure Vn (n w:Nat)(t:Tab)(d:Nat)(v:Nat->Nat):Prop where
 dn:d<=n
 lt:∀i,i<d->v i<w
 up:∀i j,i<j->j<d->v i<v j
 one:∀i,i<d->ent t i (v i)=1
 alone:∀i r,i<d->r<n->r≠i->ent t r (v i)=0
 before:∀i c,i<d->c<v i->ent t i c=0
 low:∀i c,d<=i->i<n->c<w->ent t i c=0
def Cbu.left {n w:Nat}{rows t:Tab}{d:Nat}(c:Cbu p n w rows t d):Zi p n w (qy w t):=by
 refine⟨by rw[Ko,c.len],λi a=>?_,λi j=>?_⟩
 .unfold qy;rw[wN _ (by rw[c.len];exact a),aI,c.row i a];lia
 .by_cases h:j<w
  .rw[tD h,c.red]
  .by_cases a:i<n
   .have:ent (qy w t) i j=0:=jz (by
     unfold qy;rw[wN _ (by rw[c.len];exact a),aI];lia)
    rw[this,lU]
   .rw[pF (by rw[Ko,c.len];lia),lU]
def Cbu.right {n w:Nat}{rows t:Tab}{d:Nat}(c:Cbu p n w rows t d):Zi p n n (pW w t):=by refine⟨by rw[Rw,c.len],λi h=>?_,λi j=>by rw[yI,c.red]⟩;unfold pW;rw[wN _ (by rw[c.len];exact h),aZ,c.row i h];lia
def M6 {iv:Int->Int}{rows:Tab}{n w:Nat}(e:2<=p)(b:∀x,0<x->x<p->p ∣ iv x*x-1)(B:ln rows=n)(G:∀i,i<n->ln (rows.getD i [])=w) :
  Zi p n w (lE p iv rows w)/\Zi p n n (turnT p iv rows w)/\Zi p n n (oF p iv rows w)/\uP p (turnT p iv rows w) rows w=lE p iv rows w/\(∃d v,Vn n w (lE p iv rows w) d v) /\
   uP p (turnT p iv rows w) (oF p iv rows w) n=uQ n/\uP p (oF p iv rows w) (turnT p iv rows w) n=uQ n:=by
 have c:=Cr e b B G;have f:Zi p n w (lE p iv rows w):=c.left;have t:Zi p n n (turnT p iv rows w):=c.right;have z:ent (turnT p iv rows w)=λi j=>ent (n8 p iv rows w) i (w+j):=by funext i j;exact yI
 have s:=Cr (rows:=turnT p iv rows w) e b t.len t.row;have y:oF p iv rows w=pW n (n8 p iv (turnT p iv rows w) n):=by unfold oF;rw[B]
 have tB:Zi p n n (oF p iv rows w):=by rw[y];exact s.right
 have D:ent (oF p iv rows w)=λi j=>ent (n8 p iv (turnT p iv rows w) n) i (n+j):=by rw[y];funext i j;exact yI
 obtain⟨C,a⟩:=c.inv;rw[<- z]at a;have q:Al p n n (mm n (ent (oF p iv rows w)) (ent (turnT p iv rows w))) pB:=by rw[D];exact s.unit e ⟨C,a⟩
 have H:Al p n n (mm n (ent (turnT p iv rows w)) (ent (oF p iv rows w))) pB:=a.left q;have o:0<p:=by lia
 have u:Al p n n (ent (uQ n)) pB:=.of λi j h l=>vC h l;refine⟨f,t,tB,?_,?_,?_,?_⟩
 .refine Gq o t.len t.row f.len f.row f.red ?_;rw[z];exact(Al.of λi j h l=>tD l:Al p n w (ent (lE p iv rows w)) (ent (n8 p iv rows w))).trans c.mul
 .obtain⟨v,g,I,J,L,M⟩:=c.piv;refine⟨_,v,c.dn,g,I,λi h=>?_,λi r h F m=>?_,λi k h E=>?_,λi k h1 h2 A=>?_⟩
  .rw[show lE p iv rows w=qy w (n8 p iv rows w) from rfl,tD (g i h)];exact J i h
  .rw[show lE p iv rows w=qy w (n8 p iv rows w) from rfl,tD (g i h)];exact L i r h F m
  .rw[show lE p iv rows w=qy w (n8 p iv rows w) from rfl,tD (by have:=g i h;lia)];exact M i k h E
  .rw[show lE p iv rows w=qy w (n8 p iv rows w) from rfl,tD A];exact c.low i k h1 h2 A
 .exact Gq o t.len t.row (vp n) (λi h=>CQ h) (λi j=>Lb e i j) (u.trans H.symm)
 .exact Gq o tB.len tB.row (vp n) (λi h=>CQ h) (λi j=>Lb e i j) (u.trans q.symm)
def ofM (n m:Nat)(X:Mx):Tab:=(List.range n).map λi=>(List.range m).map λj=>X i j
def Qe (n m:Nat)(X:Mx):ln (ofM n m X)=n:=by unfold ofM;rw[aa,ag]
def SN (h:i<n):(ofM n m X).getD i []=(List.range m).map λj=>X i j:=by rw[sO (by rw[Qe];exact h)];unfold ofM;rw[bi,bp]
def Xd (h:i<n)(a:j<m):ent (ofM n m X) i j=X i j:=by show((ofM n m X).getD i []).getD j 0=_;rw[SN h,wX _ a]
def Yd {d w:Nat}{v:Nat->Nat}(h1:∀i,i<d->v i<w)(h2:∀i j,i<j->j<d->v i<v j):d<=w:=by
 have l:∀i,i<d->i<=v i:=λi=>by
  induction i with
  |zero=>intro _;exact a9 _
  |succ i a=>intro h;have:=a (by lia);have:=h2 i (i+1) (by lia) h;lia
 cases d with
 |zero=>exact a9 _
 |succ d=>have:=l d (by lia);have:=h1 d (by lia);lia
def unit_row (d:2<=p)(h:Al p n n (mm n A B) pB)(a:i<n)(c:∀k,k<n->p ∣ A i k):False:=by
 have z:=h i i a a;have s:p ∣ mm n A B i i:=oG λk b=>be (c k b);have u:pB i i=1:=af rfl;rw[u]at z;have o:p ∣ 1:=by
  have e:(1:Int)=mm n A B i i-(mm n A B i i-1):=by lia
  rw[e];exact dj s z
 have:=fw (by decide) o;lia
def dep {iv:Int->Int}{r a:Nat}(l:2<=p)(b:∀x,0<x->x<p->p ∣ iv x*x-1)(h:r<a)(X:Mx):∃y:Nat->Int,(∃i,i<a/\¬p ∣ y i)/\∀j,j<r->p ∣ sm a λk=>y k*X k j:=by
 have c:=Cr (iv:=iv) (rows:=ofM a r X) (w:=r) l b (Qe a r X) λi s=>by rw[SN s,aa,ag]
 generalize n8 p iv (ofM a r X) r=t at c;generalize (Pg p iv (pC p (ofM a r X)) r).2=d at c;obtain⟨v,u,A,_⟩:=c.piv;have dl:=Yd u A;obtain⟨B,o⟩:=c.inv;refine⟨λk=>ent t d (r+k),?_,λj f=>?_⟩
 .by_cases q:∃i,i<a/\¬p ∣ ent t d (r+i)
  .exact q
  .exfalso;refine unit_row l o.ab (i:=d) (by lia) λk g=>?_;by_cases z:p ∣ ent t d (r+k)
   .exact z
   .exact absurd ⟨k,g,z⟩ q
 .have m:=c.mul d j (by lia) f;rw[c.low d j (aj _) (by lia) f]at m;have e:mm a (λi j=>ent t i (r+j)) (ent (ofM a r X)) d j=sm a λk=>ent t d (r+k)*X k j:=jG λk g=>by rw[Xd g f]
  rw[e]at m;have:=aV.mpr m;have n:-(0-sm a λk=>ent t d (r+k)*X k j)=sm a λk=>ent t d (r+k)*X k j:=by lia
  rw[n]at this;exact this
def Jq:Ok P w K mg base 1 "unit_row" ["at","length"] (Ew K (ph U) (λas=>∃i n:Nat,as=[.int (i:Int),.int (n:Int)]/\i<n/\n<=1000) λas=>match as with|[.int i,.int n]=>RQ n.toNat i.toNat|_=>[]):=by
 refine IV T.MK zA (λ_ ⟨a,b,h,_⟩=>h▸rfl) (λf c A o s H E k=>⟨_,(jr (ue (i:=2) zA.nd rfl k4 (rJ (kZ (jq jt ju)) (xn 1) (λ_=>rfl))) (jr (tG 2 (xn 0) jt) (jw (Bp 2)))),λas d=>?_⟩)
 obtain⟨i,n,rfl,g,j⟩:=d;refine⟨⟨⟨⟨tJ,tJ⟩,tJ⟩,rfl,by show -(2:Int)^63<=(n:Int);lia,by show((n:Int)).toNat<=1000;lia⟩,λl e=>?_⟩;have e:l=List.replicate n 0:=e;have m:ln l=n:=by rw[e,aC]
 refine⟨tJ,rfl,rfl,⟨by show -(ln l:Int)<=(i:Int);lia,by show(i:Int)<(ln l:Int);lia⟩,?_⟩;refine⟨rfl,?_⟩;show l.set (lD (ln l) (i:Int)) 1=RQ ((n:Int)).toNat ((i:Int)).toNat;rw[Yj (by lia),e,aD,aD];rfl
def DR:Ok P w K mg base 2 "unit_table" ["length"] (wV K (ph U) (λas=>∃n:Nat,as=[.int (n:Int)]/\n<=1000) λas=>match as with|[.int n]=>jA (Lk n.toNat)|_=>.non):=by
 refine uK T.Ho El (λ_ ⟨a,h,_⟩=>h▸rfl) (λf c A o s H E g=>⟨_,(jw (jD (uJ (abf (N':=["at","length"]) (cap:=[some 0]) (nQ rfl rfl rfl rfl ⟨⟨rfl,.inr (.inl rfl),w5,.inl rfl,_,rfl,rfl⟩,tJ⟩ ⟨rfl,tJ⟩ rfl) rfl (by rfl) T.mZ (xn 0) (λ_ _ _=>(oW 0)) (λ_ _ _=>(jM (pD (Jq T) g (jq (xn 0) (jq (xn 1) ju))))))))),λas e=>?_⟩);obtain⟨n,rfl,d⟩:=e;refine⟨⟨rfl,⟨by show(0:Int)<=(n:Int);lia,by show(n:Int)<=1000;lia⟩,λk b=>?_⟩,?_⟩
 .have b:k<((n:Int)).toNat:=b;exact⟨⟨rfl,rfl,tJ⟩,k,n,rfl,by lia,d⟩
 .show PV.lst ((List.range ((n:Int)).toNat).map λ(k:Nat)=>PV.ints (RQ ((n:Int)).toNat ((k:Int)).toNat))=jA (Lk ((n:Int)).toNat);unfold jA Lk;rw[bD];rfl
def yx:Ok P w K mg base 2 "plain_row" ["kind","row"] (Ew K (ph U) (λas=>∃z r,as=[.ob 0 z,.ints r]/\ln r<=1000) λas=>match as with|[.ob 0 z,.ints r]=>r.map (pl z)|_=>[]):=by
 refine IV T.JB Hf (λ_ ⟨a,b,h,_⟩=>h▸rfl) (λf d A o s H E g=>⟨_,(jw (mD (Dc (N':=["number","kind"]) (cap:=[some 0]) (nQ rfl rfl rfl rfl ⟨⟨rfl,.inr (.inl rfl),w5,.inl rfl,_,rfl,rfl⟩,tJ⟩ ⟨rfl,tJ⟩ rfl) rfl (xl 1) (λ_ _ _=>(oW 0)) (λ_ _ _=>(qR 1 (p7 T) g (jq (xn 0) ju)))))),λas e=>?_⟩);obtain⟨z,r,rfl,c⟩:=e;exact⟨⟨rfl,c,λn _=>⟨rfl,⟨rfl,tJ⟩,tJ,tJ⟩⟩,rfl⟩
def Zd (h1:d<=f)(h2:f<ln t)(h:ent t f a≠0)(n:∀j,d<=j->j<f->ent t j a=0):MP t a d=some f:=by
 cases e:MP t a d with
 |none=>exact absurd (Le e h1 h2) h
 |some g=>
  obtain⟨l,p,m⟩:=ye e;unfold MP at e;obtain⟨_,i,r,b,o⟩:=List.find?_eq_some_iff_getElem.mp e;have b:d+i=g:=by rw[<- b,bi,bp]
  by_cases c:g<f
  .exact absurd (n g l c) m
  .by_cases k:g=f
   .rw[k]
   .exfalso;have q:=o (f-d) (by lia);rw[bi,bp,show d+(f-d)=f by lia]at q;simp[h]at q
def Us (h:∀j,d<=j->j<ln t->ent t j a=0):MP t a d=none:=by
 cases e:MP t a d with
 |none=>rfl
 |some g=>obtain⟨b,c,f⟩:=ye e;exact absurd (h g b c) f
def Yb (t:Tab)(a d:Nat):PV:=match MP t a d with
 |none=>.non
 |some f=>.int (f:Int)
def F05:List PV->PV|[.lst x,.int a,.int d]=>Yb (x.map kW) a.toNat d.toNat|_=>.non
def vX:Ok P w K mg base 1 "first_not_nought" ["rows","at","done"] (wV K (ph U) (λas=>∃t,∃a d:Nat,as=[jA t,.int (a:Int),.int (d:Int)]/\ln t<=1000/\d<=ln t/\∀i,i<ln t->a<ln (t.getD i [])) F05):=by
 refine uK T.xf qD (λ_ ⟨a,b,c,h,_⟩=>h▸rfl) (λf r A o s H E B=>⟨_,(jr (Fy (k:=3) aB rfl (by rfl) T.mZ (xn 2) (mY T.jQ (xv 0)) qD.nd rfl k4 (jw (lF (wk (sU (jC (xl_of (jC (xv 0) (xn 3) (λ_ _=>rfl))) (xn 1) (λ_ _=>rfl))) jt) (jw (jD (xn 3))) j6))) (jw (jD aaP))),λas u=>?_⟩)
 obtain⟨t,a,d,rfl,C,z,p⟩:=u;have y:(ln (t.map PV.ints):Int)=(ln t:Int):=by rw[aa]
 have g:Yb ((t.map PV.ints).map kW) ((a:Int)).toNat ((d:Int)).toNat=Yb t a d:=by rw[mW,aD,aD]
 refine⟨⟨rfl,rfl,tJ⟩,⟨by show -(2:Int)^62<=(d:Int);lia,by show(d:Int)<2^62;lia,by show -(2:Int)^62<=(ln (t.map PV.ints):Int);lia,by show(ln (t.map PV.ints):Int)<2^62;lia⟩,λi Z=>∃v,Z=[.fr (jA t),k6 (a:Int),k6 (d:Int),v]/\∀j,d<=j->j<d+i->ent t j a=0,⟨.un,rfl,λj h1 h2=>by lia⟩,?_,?_⟩
 .rintro i Z e ⟨v,rfl,l⟩;have e:i<((ln (t.map PV.ints):Int)-(d:Int)).toNat:=e;have e:d+i<ln t:=by lia
  have n:(d:Int)+(i:Int)=((d+i:Nat):Int):=by lia
  have ev:kW (m7 (jA t) ((d:Int)+(i:Int)))=t.getD (d+i) []:=by rw[n];exact Dj e
  have m:Dz (m7 (.ints (kW (m7 (jA t) ((d:Int)+(i:Int))))) (a:Int))=ent t (d+i) a:=by rw[ev];show(t.getD (d+i) []).getD (lD (ln (t.getD (d+i) [])) (a:Int)) 0=_;rw[Yj (p _ e)];rfl
  have h1:nF (jA t) ((d:Int)+(i:Int)):=by rw[n];exact xq e
  have h2:m7 (jA t) ((d:Int)+(i:Int))=.ints (kW (m7 (jA t) ((d:Int)+(i:Int)))):=by rw[n];exact wH e
  refine⟨⟨⟨⟨⟨⟨rfl,rfl,h1⟩,h2⟩,rfl,?_⟩,rfl⟩,tJ⟩,λq=>?_,λq=>?_⟩
  .show nF (.ints (kW (m7 (jA t) ((d:Int)+(i:Int))))) (a:Int);rw[ev];exact Pb (p _ e)
  .have q:¬Dz (m7 (.ints (kW (m7 (jA t) ((d:Int)+(i:Int))))) (a:Int))=0:=q;rw[m]at q;refine⟨rfl,?_⟩;show PV.int ((d:Int)+(i:Int))=Yb ((t.map PV.ints).map kW) ((a:Int)).toNat ((d:Int)).toNat;rw[g];unfold Yb;rw[Zd (by lia) e q l,n]
  .have q:¬¬Dz (m7 (.ints (kW (m7 (jA t) ((d:Int)+(i:Int))))) (a:Int))=0:=q;rw[m]at q;refine⟨_,rfl,λj h1 h2=>?_⟩;by_cases c:j=d+i
   .rw[c];exact gS.mp q
   .exact l j h1 (by lia)
 .rintro Z ⟨v,rfl,l⟩;have l:∀j,d<=j->j<d+((ln (t.map PV.ints):Int)-(d:Int)).toNat->ent t j a=0:=l;refine⟨tJ,?_⟩;show PV.non=Yb ((t.map PV.ints).map kW) ((a:Int)).toNat ((d:Int)).toNat;rw[g];unfold Yb;rw[Us λj h1 h2=>l j h1 (by lia)]
def Xc (xs:List PV)(b:Nat):qJ xs none (some (b:Int))=xs.take b:=by
 unfold qJ;rw[HT.sIx_nat,HT.sIx_none,iN,gC];by_cases h:b<=ln xs
 .rw[dS h]
 .rw[fS (by lia),b9 (aj _),b9 (by lia)]
def Et (xs:List PV)(a:Nat):qJ xs (some (a:Int)) none=xs.drop a:=by
 unfold qJ;rw[HT.sIx_nat,HT.sIx_none];by_cases h:a<=ln xs
 .rw[dS h,b9 (by rw[aZ];lia)]
 .rw[fS (by lia),dG (aj _),dG (by lia),List.take_nil]
def SX (xs:List PV)(c:b<=ln xs)(h:a<=b):qJ xs (some (a:Int)) (some (b:Int))=(xs.drop a).take (b-a):=by unfold qJ;rw[HT.sIx_nat,HT.sIx_nat,dS c,dS (by lia)]
def xO:Ok P w K mg base 1 "with_row_moved" ["rows","found","done"] (wV K (ph U) (λas=>∃t,∃f d:Nat,as=[jA t,.int (f:Int),.int (d:Int)]/\ln t<=300/\d<=f/\f<ln t) λas=>match as with|[.lst p,.int f,.int d]=>jA (qG (p.map kW) f.toNat d.toNat)|_=>.non):=by
 refine uK T.yQ yG (λ_ ⟨a,b,c,h,_⟩=>h▸rfl) (λf l A o s H E r=>⟨_,(jw (jD (uJ (Nk (uJ (Nk (uJ (Nk (uJ (xF (nA (xv 0)) pG (nR (xn 2)))) (uJ (ut (jq (xl_of (jC (xv 0) (xn 1) (λ_ _=>rfl))) ju))))) (uJ (xF (nA (xv 0)) (nR (xn 2)) (nR (xn 1)))))) (uJ (xF (nA (xv 0)) (nR (lO (xn 1) jt)) pG)))))),λas n=>?_⟩);obtain⟨t,f,d,rfl,u,i,j⟩:=n;have q:ln (t.map PV.ints)=ln t:=aa _;have e:qJ (t.map PV.ints) none (some (d:Int))=(t.take d).map PV.ints:=by rw[Xc,ja]
 have g:qJ (t.map PV.ints) (some (d:Int)) (some (f:Int))=((t.drop d).take (f-d)).map PV.ints:=by rw[SX _ (by lia) i,<- gY,<- ja]
 have k:qJ (t.map PV.ints) (some ((f:Int)+1)) none=(t.drop (f+1)).map PV.ints:=by rw[show(f:Int)+1=((f+1:Nat):Int) by lia,Et,gY]
 have m:kW (m7 (jA t) (f:Int))=t.getD f []:=Dj j;refine⟨⟨⟨⟨⟨⟨rfl,rfl⟩,tJ,rfl⟩,⟨⟨⟨rfl,rfl,xq j⟩,wH j⟩,tJ⟩,?_⟩,⟨⟨rfl,rfl⟩,rfl,rfl⟩,?_⟩,⟨⟨rfl,rfl⟩,⟨rfl,tJ⟩,tJ⟩,?_⟩,?_⟩
 .show ln (qJ (t.map PV.ints) none (some (d:Int)))+ln [PV.ints (kW (m7 (jA t) (f:Int)))]<=sizeLine;rw[e,aa,aI];exact bI (small1000 (by show min d (ln t)+1<=1000;lia))
 .show ln (qJ (t.map PV.ints) none (some (d:Int))++[PV.ints (kW (m7 (jA t) (f:Int)))])+ln (qJ (t.map PV.ints) (some (d:Int)) (some (f:Int)))<=sizeLine;rw[e,g,ai,aa,aa,aI,aI,aZ];exact bI (small1000 (by show min d (ln t)+1+min (f-d) (ln t-d)<=1000;lia))
 .show ln (qJ (t.map PV.ints) none (some (d:Int))++[PV.ints (kW (m7 (jA t) (f:Int)))]++qJ (t.map PV.ints) (some (d:Int)) (some (f:Int)))+ln (qJ (t.map PV.ints) (some ((f:Int)+1)) none)<=sizeLine;rw[e,g,k,ai,ai,aa,aa,aa,aI,aI,aZ,aZ];exact bI (small1000 (by show min d (ln t)+1+min (f-d) (ln t-d)+(ln t-(f+1))<=1000;lia))
 .show PV.lst (qJ (t.map PV.ints) none (some (d:Int))++[PV.ints (kW (m7 (jA t) (f:Int)))]++qJ (t.map PV.ints) (some (d:Int)) (some (f:Int))++qJ (t.map PV.ints) (some ((f:Int)+1)) none)=jA (qG ((t.map PV.ints).map kW) ((f:Int)).toNat ((d:Int)).toNat);rw[e,g,k,m,mW,aD,aD];unfold jA qG;rw[bF,bF,bF];rfl
def TJ (z:Int)(r first:Li)(a:Nat):(r.zip first).map (λq=>pl z (q.1-r.getD a 0*q.2))=Cp z r first a:=by unfold Cp;rw[List.zip,hZ]
def De:Ok P w K mg base 2 "row_without" ["kind","row","at","first"] (Ew K (ph U) (λas=>∃z r,∃a:Nat,∃first,as=[.ob 0 z,.ints r,.int (a:Int),.ints first]/\ln r<=1000/\a<ln r/\Bd r/\Bd first) λas=>match as with|[.ob 0 z,.ints r,.int a,.ints first]=>Cp z r first a.toNat|_=>[]):=by
 refine IV T.Ek Cm (λ_ ⟨a,b,c,d,h,_⟩=>h▸rfl) (λf e A o s H E p=>⟨_,(jw (mD (aar (N':=["number","other","kind","row","at"]) (cap:=[some 0,some 1,some 2]) (nQ rfl rfl rfl rfl ⟨⟨rfl,.inr (.inl rfl),w5,.inl rfl,_,rfl,rfl⟩,⟨⟨rfl,.inr (.inl rfl),w5,.inl rfl,_,rfl,rfl⟩,⟨⟨rfl,.inr (.inl rfl),w5,.inl rfl,_,rfl,rfl⟩,tJ⟩⟩⟩ ⟨rfl,⟨rfl,⟨rfl,tJ⟩⟩⟩ rfl) rfl (by rfl) T.Qf (Wv (xl 1)) (Wv (xl 3)) (λ_ _ _=>(pg_tup rfl (pgs_cons (oW 0) (pgs_cons (oW 1) pgs_nil)))) (λ_ _ _=>(qR 2 (p7 T) p (jq (lN (xn 0) (nW (lW 3 (xn 4) (λ_ _=>rfl)) (xn 1))) ju)))))),λas l=>?_⟩);obtain⟨z,r,a,first,rfl,k,g,i,j⟩:=l
 refine⟨⟨⟨rfl,rfl⟩,k,λn m h=>⟨rfl,⟨⟨rfl,⟨.inl rfl,rfl,by show -(ln r:Int)<=(a:Int);lia,by show(a:Int)<(ln r:Int);lia⟩,rfl,?_⟩,tJ⟩,tJ,tJ⟩⟩,?_⟩
 .exact qx (n:=9000) (m:=9000) (aah i _) (j m (df h).2)
 .show(r.zip first).map (λq=>pl z (q.1-r.getD (lD (ln r) (a:Int)) 0*q.2))=Cp z r first ((a:Int)).toNat
  rw[Yj g,aD];exact TJ z r first a
def lK (p x:Int):Int:=pl p (1*tu x p)
def zm (h:jR p)(x:Int)(h0:0<x)(h1:x<p):Int.gcd x p=1/\p ∣ lK p x*x-1:=by
 have b:2<=p:=h.1;have g:Int.gcd x p=1:=by
  have a:¬x % p=0:=by rw[br (by lia) h1];lia
  have:=Gr h a 1;rw[i5]at this;exact this
 refine⟨g,?_⟩;obtain⟨e,_⟩:=hov (z:=p) b g 1 (lK p x) (by rw[lJ (by lia)];exact br (by lia) (by lia)) rfl;have:pl p (lK p x*x)=pl p 1:=by rw[e,lJ (by lia)];exact(br (by lia) (by lia)).symm
 exact(qu p _ _).mp this
def SJ (a:jR p)(h:pl p x=x):x.natAbs<2^9000:=by
 have:=BW (z:=p) (n:=x) (by have:=a.1;lia);rw[h]at this;have h2:=a.2.1;have:x.natAbs<=2^14:=by lia
 exact aO this (a7 (by decide) (by decide))
def W4 (b:jR p)(h:∀i j,pl p (ent t i j)=ent t i j)(i:Nat):Bd (t.getD i []):=λm a=>by obtain⟨j,_,e⟩:=FM.mem_getD a;have:=h i j;unfold ent at this;rw[e]at this;exact SJ b this
def uw:Ok P w K mg base 3 "with_column_cleared" ["kind","rows","at","done"] (wV K (ph U) (λas=>∃p t,∃a d m:Nat,as=[.ob 0 p,jA t,.int (a:Int),.int (d:Int)]/\jR p/\ln t<=1000/\d<ln t/\m<=1000/\a<m/\(∀i,i<ln t->ln (t.getD i [])=m)/\(∀i j,pl p (ent t i j)=ent t i j)/\ent t d a≠0) λas=>match as with|[.ob 0 p,.lst ps,.int a,.int d]=>jA (Zm p (lK p) (ps.map kW) a.toNat d.toNat)|_=>.non):=by
 refine uK T.uL ni (λ_ ⟨a,b,c,d,e,h,_⟩=>h▸rfl) (λf cdv A S s H E R=>⟨_,(jr (jH (i:=4) ni.nd rfl (Or.inr rfl) (sU (aax (G4 0 (Bj T) R (jq jt (jq (sU (jC (xl_of (jC (xv 1) (xn 3) (λ_ _=>rfl))) (xn 2) (λ_ _=>rfl))) ju)))))) (jr (jE (i:=5) ni.nd rfl (Or.inr rfl) (jM (pD (yx T) R (jq (xv 0) (jq (jM (Dc (N':=["number","factor"]) (cap:=[some 4]) (nQ rfl rfl rfl rfl ⟨⟨rfl,.inr (.inl rfl),w5,.inl rfl,_,rfl,rfl⟩,tJ⟩ ⟨rfl,tJ⟩ rfl) rfl (xl_of (jC (xv 1) (xn 3) (λ_ _=>rfl))) (λ_ _ _=>(oW 0)) (λ_ _ _=>(nW (xn 1) (xn 0))))) ju))))) (jw (jD (uJ (N7 (N':=["place","row","first","done","kind","at"]) (cap:=[some 5,some 3,some 0,some 2]) (nQ rfl rfl rfl rfl ⟨⟨rfl,.inr (.inl rfl),w5,.inl rfl,_,rfl,rfl⟩,⟨⟨rfl,.inr (.inl rfl),w5,.inl rfl,_,rfl,rfl⟩,⟨⟨rfl,.inr (.inl rfl),w5,.inl rfl,_,rfl,rfl⟩,⟨⟨rfl,.inr (.inl rfl),w5,.inl rfl,_,rfl,rfl⟩,tJ⟩⟩⟩⟩ ⟨rfl,⟨rfl,⟨rfl,⟨rfl,tJ⟩⟩⟩⟩ rfl) rfl (by rfl) T.mO (nA (xv 1)) (λ_ _ _=>(pg_tup rfl (pgs_cons (oW 0) (pgs_cons (oW 1) pgs_nil)))) (λ_ _ _=>(TF (vZ (xn 0) (xn 3)) (xl 2) (jM (pD (De T) R (jq (xv 4) (jq (xl 1) (jq (xn 5) (jq (xl 2) ju)))))))))))))),λas x=>?_⟩)
 obtain⟨p,t,a,d,m,rfl,x,ht,v,Q,Y,u,B,hne⟩:=x;have p2:2<=p:=x.1;have h9:p.natAbs<2^9000:=by
  have:p.natAbs<=2^14:=by have:=x.2.1;lia
  exact aO this (a7 (by decide) (by decide))
 have o9:(1:Int).natAbs<2^9000:=aO (show(1:Int).natAbs<=2^14 by decide) (a7 (by decide) (by decide));have Z:0<ent t d a/\ent t d a<p:=by have:=BW (z:=p) (n:=ent t d a) (by lia);rw[B]at this;lia
 obtain⟨g,_⟩:=zm x _ Z.1 Z.2;have ev:kW (m7 (jA t) (d:Int))=t.getD d []:=Dj v;have I:a<ln (t.getD d []):=by rw[u d v];exact Y
 have O:Dz (m7 (.ints (kW (m7 (jA t) (d:Int)))) (a:Int))=ent t d a:=by rw[ev];show(t.getD d []).getD (lD (ln (t.getD d [])) (a:Int)) 0=_;rw[Yj I];rfl
 have M:Ja cNO p [1,Dz (m7 (.ints (kW (m7 (jA t) (d:Int)))) (a:Int))]=.inl (lK p (ent t d a)):=by rw[O];exact Xu g
 refine⟨⟨⟨⟨rfl,⟨tJ,⟨⟨⟨⟨rfl,rfl,xq v⟩,wH v⟩,rfl,?_⟩,rfl⟩,tJ⟩,tJ,?_⟩,?_⟩,?_⟩,λo l=>?_⟩
 .show nF (.ints (kW (m7 (jA t) (d:Int)))) (a:Int);rw[ev];exact Pb I
 .exact⟨p2,h9,o9⟩
 .show(yJ (Ja cNO p [1,Dz (m7 (.ints (kW (m7 (jA t) (d:Int)))) (a:Int))])).isV;rw[M];exact tJ
 .show(yJ (Ja cNO p [1,Dz (m7 (.ints (kW (m7 (jA t) (d:Int)))) (a:Int))])).get=.int (Dz (yJ (Ja cNO p [1,Dz (m7 (.ints (kW (m7 (jA t) (d:Int)))) (a:Int))])).get);rw[M];rfl
 have l:o=Dz (yJ (Ja cNO p [1,Dz (m7 (.ints (kW (m7 (jA t) (d:Int)))) (a:Int))])).get:=l;rw[M]at l;have l:o=lK p (ent t d a):=l;refine jL (Z':=[.fr (.ob 0 p),.fr (jA t),k6 (a:Int),k6 (d:Int),k6 o,.un]) rfl ?_;have fb:o.natAbs<2^9000:=by rw[l];exact SJ x (qQ _ _)
 have G:=W4 x B;refine⟨⟨⟨rfl,⟨⟨⟨rfl,rfl,xq v⟩,wH v⟩,?_,λn D=>?_⟩,tJ⟩,?_⟩,λk C=>?_⟩
 .show ln (kW (m7 (jA t) (d:Int)))<=1000;rw[ev,u d v];exact Q
 .have D:n∈kW (m7 (jA t) (d:Int)):=D;rw[ev]at D;exact⟨rfl,rfl,qx (n:=9000) (m:=9000) fb (G d n D)⟩
 .refine⟨p,_,rfl,?_⟩;show ln ((kW (m7 (jA t) (d:Int))).map _)<=1000;rw[aa,ev,u d v];exact Q
 have C:k=((kW (m7 (jA t) (d:Int))).map λn=>o*n).map (pl p):=C
 rw[ev]at C;have C:k=zY p o (t.getD d []):=C
 refine jL (Z':=[.fr (.ob 0 p),.fr (jA t),k6 (a:Int),k6 (d:Int),k6 o,k7 k]) rfl ?_
 have fB:Bd k:=λn D=>by rw[C]at D;obtain⟨y,_,rfl⟩:=aY.mp D;exact SJ x (qQ _ _)
 have gi:∀i,i<ln t->(t.map PV.ints).getD i .non=.ints (t.getD i []):=λi L=>KZ L;refine⟨⟨⟨rfl,rfl⟩,by show ln (t.map PV.ints)<=1000;rw[aa];exact ht,λi q F=>?_⟩,?_⟩
 .have F:(t.map PV.ints)[i]?=some q:=F;rw[aq]at F;cases J:t[i]? with
  |none=>rw[J]at F;cases F
  |some r=>
   rw[J]at F;cases F;have L:i<ln t:=(ao.mp J).1;have N:t.getD i []=r:=by rw[gQ,J];rfl
   refine⟨⟨rfl,rfl⟩,λ_=>rfl,λ_=>⟨⟨rfl,rfl,rfl,rfl,tJ⟩,p,r,a,k,rfl,?_,?_,?_,fB⟩⟩
   .rw[<- N,u i L];exact Q
   .rw[<- N,u i L];exact Y
   .rw[<- N];exact G i
 .have fin:jA (Zm p (lK p) ((t.map PV.ints).map kW) ((a:Int)).toNat ((d:Int)).toNat)=.lst ((vV p o t a d).map PV.ints):=by rw[mW,aD,aD,l];rfl
  show PV.lst (List.mapIdx _ (t.map PV.ints))=jA (Zm p (lK p) ((t.map PV.ints).map kW) ((a:Int)).toNat ((d:Int)).toNat);rw[fin];refine congrArg PV.lst (dY λi=>?_);unfold vV;rw[cu,aq,aq,cu,<- C];cases t[i]? with
  |none=>rfl
  |some r=>
   show some (if (i:Int)=(d:Int) then PV.ints k else PV.ints (Cp p r k ((a:Int)).toNat))=some (PV.ints (if i=d then k else Cp p r k a))
   by_cases c:i=d
   .rw[af c,af (by lia)]
   .rw[ae c,ae (by lia),aD]
def F06:List PV->PV|[.ob 0 p,.lst ps,.int wd]=>jA (n8 p (lK p) (ps.map kW) wd.toNat)|_=>.non
def pq:Ok P w K mg base 4 "cleared_beside_units" ["kind","rows","width"] (wV K (ph U) (λas=>∃p rows,∃wd:Nat,as=[.ob 0 p,jA rows,.int (wd:Int)]/\jR p/\ln rows<=100/\wd<=100/\∀i,i<ln rows->ln (rows.getD i [])=wd) F06):=by
 refine uK T.uf jP (λ_ ⟨a,b,c,h,_⟩=>h▸rfl) (λf cdv A S s H E M=>⟨_,(jr (kY (i:=3) jP.nd rfl k4 (xc (DR T) M (jq (mY T.jQ (xv 1)) ju))) (jr (Lz (i:=4) jP.nd rfl rfl (N':=["row","unit","kind"]) (cap:=[some 0]) (nQ rfl rfl rfl rfl ⟨⟨rfl,.inr (.inl rfl),w5,.inl rfl,_,rfl,rfl⟩,tJ⟩ ⟨rfl,tJ⟩ rfl) rfl (by rfl) T.Qf (nA (xv 1)) (nA (xv 3)) (λ_ _ _=>(pg_tup rfl (pgs_cons (oW 0) (pgs_cons (oW 1) pgs_nil)))) (λ_ _ _=>(jM (pD (yx T) M (jq (xv 2) (jq (jM (uq (xl 0) (xl 1))) ju))))) rfl) (jr (jH (i:=5) jP.nd rfl k4 jt) (jr (qd (k:=6) aB rfl (by rfl) T.mZ (xn 2) jP.nd rfl k4 (jr (kY (i:=7) jP.nd rfl k4 (xc (vX T) M (jq (xv 4) (jq (xn 6) (jq (xn 5) ju))))) (jw (lF (Y9 (xv 7)) (jr (kY (i:=4) jP.nd rfl k4 (xc (uw T) M (jq (xv 0) (jq (xc (xO T) M (jq (xv 4) (jq (xv 7) (jq (xn 5) ju)))) (jq (xn 6) (jq (xn 5) ju)))))) (jw (Aj (i:=5) jP.nd rfl k4 jt uY))) j6)))) (jw (jD (xv 4))))))),λas L=>?_⟩)
 obtain⟨p,rows,wd,rfl,L,hn,hw,v⟩:=L;have p2:2<=p:=L.1;have el:ln (rows.map PV.ints)=ln rows:=aa _;refine⟨⟨⟨⟨rfl,tJ⟩,tJ⟩,ln rows,by show[PV.int (ln (rows.map PV.ints):Int)]=_;rw[el],by lia⟩,λus n=>?_⟩;have n:us=jA (Lk ((ln (rows.map PV.ints):Int)).toNat):=n;rw[el,aD]at n;subst n;refine jL (Z':=[.fr (.ob 0 p),.fr (jA rows),k6 (wd:Int),.fr (jA (Lk (ln rows))),.un,.un,.un,.un]) rfl ?_;refine⟨⟨⟨⟨rfl,rfl⟩,⟨rfl,rfl⟩⟩,by show ln (rows.map PV.ints)<=1000;lia,λq r u=>?_⟩,λt0 D=>?_⟩
 .have u:(q,r)∈(rows.map PV.ints).zip ((Lk (ln rows)).map PV.ints):=u;obtain⟨a,ha,rfl⟩:=aY.mp (df u).1;obtain⟨b,hb,rfl⟩:=aY.mp (df u).2;have la:ln a=wd:=by obtain⟨i,o,rfl⟩:=bO.mp ha;rw[<- sO o];exact v i o
  have lb:ln b=ln rows:=by obtain⟨i,_,rfl⟩:=aY.mp hb;exact Hr _ _
  refine⟨⟨rfl,⟨rfl,rfl,?_⟩,tJ⟩,p,a++b,rfl,?_⟩
  .exact bI (small1000 (by show ln a+ln b<=1000;lia))
  .rw[ai];lia
 have D:t0=(pC p rows).map PV.ints:=D.trans (by
  show List.map _ ((rows.map PV.ints).zip ((Lk (ln rows)).map PV.ints))=_;have e:(pC p rows).map PV.ints=(rows.zip (Lk (ln rows))).map λq=>PV.ints ((q.1++q.2).map (pl p)):=by unfold pC;rw[List.zip,hZ,hZ]
  rw[e,List.zip_map,bD];exact bV λ⟨a,b⟩ _=>rfl)
 subst D;refine⟨tJ,λd0 B=>?_⟩;have B:d0=0:=B;subst B;refine jL (Z':=[.fr (.ob 0 p),.fr (jA rows),k6 (wd:Int),.fr (jA (Lk (ln rows))),.fr (jA (pC p rows)),k6 0,.un,.un]) rfl ?_;have I:=EI.all (iv:=lK p) (m:=wd+ln rows) p2 (λx h0 h1=>(zm L x h0 h1).2) (Dr p rows) (λi o=>by rw[z9 o,aa,ai,v i o,Hr]) (λi j=>JF);refine⟨rfl,⟨by show -(2:Int)^62<=(wd:Int);lia,by show(wd:Int)<2^62;lia⟩,λi Z=>∃Y v7,Z=[.fr (.ob 0 p),.fr (jA rows),k6 (wd:Int),.fr (jA (Lk (ln rows))),.fr (jA (Pg p (lK p) (pC p rows) i).1),k6 ((Pg p (lK p) (pC p rows) i).2:Int),Y,v7],⟨.un,.un,rfl⟩,?_,?_⟩
 .rintro i Z o ⟨Y,v7,rfl⟩;have o:i<((wd:Int)).toNat:=o;have o:i<wd:=by lia
  have y:=I i (by lia);generalize hs:Pg p (lK p) (pC p rows) i=st at y ⊢;obtain⟨t,d⟩:=st;have y:EI p (ln rows) (wd+ln rows) (pC p rows) i t d:=y;have en:Pg p (lK p) (pC p rows) (i+1)=Wu p (lK p) i (t,d):=by show Wu p (lK p) i (Pg p (lK p) (pC p rows) i)=_;rw[hs]
  have tl:=y.len;have dn:=y.dn;have tr:=y.row;refine⟨⟨⟨rfl,rfl,rfl,tJ⟩,t,i,d,rfl,by lia,by lia,λj R=>by rw[tr j (by lia)];lia⟩,λQ g=>?_⟩;have g:Q=Yb ((t.map PV.ints).map kW) ((i:Int)).toNat ((d:Int)).toNat:=g;rw[mW,aD,aD]at g;unfold Yb at g;cases J:MP t i d with
  |none=>
   rw[J]at g;have g:Q=.non:=g;subst g;refine⟨⟨rfl,tJ⟩,λq=>absurd rfl q,λ_=>?_⟩;have N:Wu p (lK p) i (t,d)=(t,d):=by
    unfold Wu;show(match MP t i d with|none=>(t,d)|some f=>_)=_
    rw[J]
   refine⟨k6 (i:Int),.fr .non,?_⟩;rw[en,N];rfl
  |some f=>
   rw[J]at g;have g:Q=.int (f:Int):=g;subst g;obtain⟨F,G,f3⟩:=ye J;have N:Wu p (lK p) i (t,d)=(Zm p (lK p) (qG t f d) i d,d+1):=by
    unfold Wu;show(match MP t i d with|none=>(t,d)|some f=>_)=_
    rw[J]
   refine⟨⟨rfl,tJ⟩,λ_=>?_,λq=>absurd (λz=>by cases z) q⟩;have ml:ln (qG t f d)=ln t:=Kh F G;have me:∀j k,j<ln t->ent (qG t f d) j k=ent t (Bc f d j) k:=λj k R=>Pn F G R;have sd:Bc f d d=f:=by unfold Bc;rw[ae (by lia),af rfl]
   have O:jA (qG ((t.map PV.ints).map kW) ((f:Int)).toNat ((d:Int)).toNat)=jA (qG t f d):=by rw[mW,aD,aD]
   refine⟨⟨⟨rfl,⟨⟨rfl,rfl,rfl,tJ⟩,t,f,d,rfl,by lia,F,G⟩,rfl,rfl,tJ⟩,p,qG t f d,i,d,wd+ln rows,?_,L,by lia,by lia,by lia,by lia,λj R=>?_,λj k=>?_,?_⟩,λt2 l=>?_⟩
   .show[PV.ob 0 p,jA (qG ((t.map PV.ints).map kW) ((f:Int)).toNat ((d:Int)).toNat),.int (i:Int),.int (d:Int)]=_;rw[O]
   .rw[Ay F G (by lia)];exact tr _ (by have:=Ha (i:=j) F G (by lia);lia)
   .by_cases c:j<ln t
    .rw[me j k c];exact y.red _ _
    .rw[pF (by lia),lU]
   .rw[me d i (by lia),sd];exact f3
   have l:t2=jA (Zm p (lK p) (((qG ((t.map PV.ints).map kW) ((f:Int)).toNat ((d:Int)).toNat).map PV.ints).map kW) ((i:Int)).toNat ((d:Int)).toNat):=l;rw[mW,mW,aD,aD,aD]at l;subst l;refine⟨rfl,tJ,tJ,λd2 C=>?_⟩;have C:d2=(d:Int)+1:=C;subst C;refine⟨k6 (i:Int),k6 (f:Int),?_⟩;rw[en,N];rfl
 .rintro Z ⟨Y,v7,rfl⟩;refine⟨rfl,?_⟩;show jA (Pg p (lK p) (pC p rows) ((wd:Int)).toNat).1=jA (n8 p (lK p) ((rows.map PV.ints).map kW) ((wd:Int)).toNat);rw[mW,aD];rfl
def jT (rows:Tab):Nat:=ln (rows.getD 0 [])
def F07:List PV->PV|[.ob 0 p,.lst n]=>.tup [jA (lE p (lK p) (n.map kW) (jT (n.map kW))),jA (turnT p (lK p) (n.map kW) (jT (n.map kW))),jA (oF p (lK p) (n.map kW) (jT (n.map kW)))]|_=>.non
def CZ:Ok P w K mg base 5 "echelon" ["kind","rows"] (wV K (ph U) (λas=>∃p rows,as=[.ob 0 p,jA rows]/\jR p/\ln rows<=100/\jT rows<=100/\∀i,i<ln rows->ln (rows.getD i [])=jT rows) F07):=by
 refine uK T.Rj qW (λ_ ⟨a,b,h,_⟩=>h▸rfl) (λf L A B s H E D=>⟨_,(jr (kY (i:=2) qW.nd rfl (Or.inr rfl) (TF (ab9 (nA (xv 1))) (mY T.jQ (xl_of (jC (xv 1) jt (λ_ _=>rfl)))) jt)) (jr (kY (i:=3) qW.nd rfl k4 (xc (pq T) D (jq (xv 0) (jq (xv 1) (jq (xn 2) ju))))) (jr (Gj (i:=4) qW.nd rfl rfl (N':=["row","width"]) (cap:=[some 2]) (nQ rfl rfl rfl rfl ⟨⟨rfl,.inr (.inl rfl),w5,.inl rfl,_,rfl,rfl⟩,tJ⟩ ⟨rfl,tJ⟩ rfl) rfl (nA (xv 3)) (λ_ _ _=>(oW 0)) (λ_ _ _=>(jM (rH (xl 0) (nR (xn 1)) pG (λ_ _=>.inl rfl)))) rfl) (jr (Gj (i:=5) qW.nd rfl rfl (N':=["row","rows"]) (cap:=[some 1]) (nQ rfl rfl rfl rfl ⟨⟨rfl,.inr (.inl rfl),w5,.inl rfl,_,rfl,rfl⟩,tJ⟩ ⟨rfl,tJ⟩ rfl) rfl (nA (xc (pq T) D (jq (xv 0) (jq (xv 4) (jq (mY T.jQ (xv 1)) ju))))) (λ_ _ _=>(oW 0)) (λ_ _ _=>(jM (rH (xl 0) (nR (mY T.jQ (xv 1))) pG (λ_ _=>.inl rfl)))) rfl) (jw (jD (oZ (jq (uJ (ZV (N':=["row","width"]) (cap:=[some 2]) (nQ rfl rfl rfl rfl ⟨⟨rfl,.inr (.inl rfl),w5,.inl rfl,_,rfl,rfl⟩,tJ⟩ ⟨rfl,tJ⟩ rfl) rfl (nA (xv 3)) (λ_ _ _=>(oW 0)) (λ_ _ _=>(jM (rH (xl 0) pG (nR (xn 1)) (λ_ _=>.inl rfl)))))) (jq (xv 4) (jq (xv 5) ju)))))))))),λas m=>?_⟩)
 obtain⟨p,rows,rfl,m,y,O,j⟩:=m;have G:2<=p:=m.1;have v:ln (rows.map PV.ints)=ln rows:=aa _;have t:∀x,0<x->x<p->p ∣ lK p x*x-1:=λx h0 h1=>(zm m x h0 h1).2;have C:=Cr (iv:=lK p) (w:=jT rows) G t rfl j;have u:Zi p (ln rows) (ln rows) (turnT p (lK p) rows (jT rows)):=C.right;have J:=Cr (iv:=lK p) (rows:=turnT p (lK p) rows (jT rows)) G t u.len u.row;have ne0:¬rows.map PV.ints=[]->0<ln rows:=λq=>by
  cases rows with
  |nil=>exact absurd rfl q
  |cons a r=>exact fe _
 refine⟨⟨⟨rfl,rfl⟩,λq=>⟨⟨⟨rfl,tJ,xq (i:=0) (ne0 q)⟩,wH (i:=0) (ne0 q)⟩,tJ⟩,λ_=>tJ⟩,λwd c=>?_⟩;have c:wd=if ¬rows.map PV.ints=[] then PV.int (ln (kW (m7 (jA rows) 0)):Int) else .int 0:=c;have c:wd=.int (jT rows:Int):=by
  rw[c];split
  .rename_i q;have:=Dj (i:=0) (ne0 q);rw[show(0:Int)=((0:Nat):Int) from rfl,this];rfl
  .rename_i q;cases rows with
   |nil=>rfl
   |cons a r=>exact absurd (λz=>by cases z) q
 subst c;refine jL (Z':=[.fr (.ob 0 p),.fr (jA rows),k6 (jT rows:Int),.un,.un,.un]) rfl ?_;refine⟨⟨⟨rfl,rfl,rfl,tJ⟩,p,rows,jT rows,rfl,m,y,O,j⟩,λQ g=>?_⟩;have g:Q=jA (n8 p (lK p) ((rows.map PV.ints).map kW) ((jT rows:Int)).toNat):=g;rw[mW,aD]at g;subst g;have R:ln (n8 p (lK p) rows (jT rows))=ln rows:=C.len;refine jL (Z':=[.fr (.ob 0 p),.fr (jA rows),k6 (jT rows:Int),.fr (jA (n8 p (lK p) rows (jT rows))),.un,.un]) rfl ?_;refine⟨⟨⟨rfl,rfl⟩,?_,λq d=>?_⟩,λtu l=>?_⟩
 .show ln ((n8 p (lK p) rows (jT rows)).map PV.ints)<=1000;rw[aa];lia
 .have d:q∈(n8 p (lK p) rows (jT rows)).map PV.ints:=d;obtain⟨r,_,rfl⟩:=aY.mp d;exact⟨rfl,rfl,tJ⟩
 have l:tu=(turnT p (lK p) rows (jT rows)).map PV.ints:=l.trans (by
  show List.map _ ((n8 p (lK p) rows (jT rows)).map PV.ints)=_;rw[bD];unfold turnT pW;rw[bD];refine bV λr _=>?_;show PV.ints (qU r (some (jT rows:Int)) none)=PV.ints (r.drop (jT rows));rw[vL])
 subst l;refine jL (Z':=[.fr (.ob 0 p),.fr (jA rows),k6 (jT rows:Int),.fr (jA (n8 p (lK p) rows (jT rows))),.fr (jA (turnT p (lK p) rows (jT rows))),.un]) rfl ?_;have M:jA (n8 p (lK p) (((turnT p (lK p) rows (jT rows)).map PV.ints).map kW) ((ln (rows.map PV.ints):Int)).toNat)=jA (n8 p (lK p) (turnT p (lK p) rows (jT rows)) (ln rows)):=by rw[mW,aD,v]
 have o:(n8 p (lK p) (((turnT p (lK p) rows (jT rows)).map PV.ints).map kW) ((ln (rows.map PV.ints):Int)).toNat)=n8 p (lK p) (turnT p (lK p) rows (jT rows)) (ln rows):=by rw[mW,aD,v]
 refine⟨⟨⟨⟨⟨rfl,rfl,⟨rfl,tJ⟩,tJ⟩,p,turnT p (lK p) rows (jT rows),ln rows,?_,m,by rw[u.len];exact y,y,by rw[u.len];exact u.row⟩,rfl⟩,?_,λq d=>?_⟩,λI k=>?_⟩
 .show[PV.ob 0 p,jA (turnT p (lK p) rows (jT rows)),.int (ln (rows.map PV.ints):Int)]=_;rw[v]
 .show((n8 p (lK p) (((turnT p (lK p) rows (jT rows)).map PV.ints).map kW) ((ln (rows.map PV.ints):Int)).toNat).map PV.ints).length<=1000;rw[o,aa,J.len];lia
 .have d:q∈(n8 p (lK p) (((turnT p (lK p) rows (jT rows)).map PV.ints).map kW) ((ln (rows.map PV.ints):Int)).toNat).map PV.ints:=d;obtain⟨r,_,rfl⟩:=aY.mp d;exact⟨rfl,⟨rfl,tJ⟩,tJ⟩
 have k:I=(oF p (lK p) rows (jT rows)).map PV.ints:=k.trans (by
  show List.map _ ((n8 p (lK p) (((turnT p (lK p) rows (jT rows)).map PV.ints).map kW) ((ln (rows.map PV.ints):Int)).toNat).map PV.ints)=_;rw[o,bD];unfold oF pW;rw[bD];refine bV λr _=>?_;show PV.ints (qU r (some (ln (rows.map PV.ints):Int)) none)=PV.ints (r.drop (ln rows));rw[v,vL])
 subst k;refine jL (Z':=[.fr (.ob 0 p),.fr (jA rows),k6 (jT rows:Int),.fr (jA (n8 p (lK p) rows (jT rows))),.fr (jA (turnT p (lK p) rows (jT rows))),.fr (jA (oF p (lK p) rows (jT rows)))]) rfl ?_;refine⟨⟨⟨⟨rfl,rfl⟩,?_,λq d=>?_⟩,rfl,rfl,tJ⟩,?_⟩
 .show ln ((n8 p (lK p) rows (jT rows)).map PV.ints)<=1000;rw[aa];lia
 .have d:q∈(n8 p (lK p) rows (jT rows)).map PV.ints:=d;obtain⟨r,_,rfl⟩:=aY.mp d;exact⟨rfl,tJ,rfl⟩
 .have e:∀F:PV->PV,(∀r:List Int,F (.ints r)=.ints (r.take (jT rows)))->((n8 p (lK p) rows (jT rows)).map PV.ints).map F=(lE p (lK p) rows (jT rows)).map PV.ints:=λF N=>by rw[bD];unfold lE qy;rw[bD];exact bV λr _=>N r
  have fin:PV.tup [jA (lE p (lK p) ((rows.map PV.ints).map kW) (jT ((rows.map PV.ints).map kW))),jA (turnT p (lK p) ((rows.map PV.ints).map kW) (jT ((rows.map PV.ints).map kW))),jA (oF p (lK p) ((rows.map PV.ints).map kW) (jT ((rows.map PV.ints).map kW)))]=PV.tup [.lst ((lE p (lK p) rows (jT rows)).map PV.ints),jA (turnT p (lK p) rows (jT rows)),jA (oF p (lK p) rows (jT rows))]:=by rw[mW];rfl
  show PV.tup [.lst (((n8 p (lK p) rows (jT rows)).map PV.ints).map _),jA (turnT p (lK p) rows (jT rows)),jA (oF p (lK p) rows (jT rows))]=_;refine jc ?_ fin.symm;rw[e _ λr=>?_];show PV.ints (qU r none (some (jT rows:Int)))=PV.ints (r.take (jT rows));rw[Ow]
def yU (F T:Tab):Tab:=((F.zip T).filter λq=>decide (q.1=List.replicate (ln q.1) 0)).map λq=>q.2
def Dt {pr:List Int->Bool}:∀{F T:Tab} {d:Nat},ln F=ln T->(∀i (h:i<ln F),pr F[i]=decide (d<=i))->((F.zip T).filter λq=>pr q.1).map (λq=>q.2)=T.drop d
 |[],T,d,h,_=>by have:T=[]:=dE.mp h.symm;rw[this,List.drop_nil];rfl
 |a::F,[],d,h,_=>by cases h
 |a::F,b::T,d,h,k=>by
  have f:ln F=ln T:=Nat.succ.inj h;have e:=k 0 (fe _);have e:pr a=decide (d<=0):=e;have g:∀i (h:i<ln F),pr F[i]=decide (d<=i+1):=λi c=>k (i+1) (Nat.succ_lt_succ c);rw[dq,List.filter_cons];cases d with
  |zero=>rw[af (by rw[e];rfl),bN,Dt (d:=0) f λi c=>by rw[g i c];rfl];rfl
  |succ d=>rw[ae (by rw[e,aM (by lia)];decide),Dt (d:=d) f λi c=>by rw[g i c];exact decide_eq_decide.mpr (by lia)];rfl
def WM (a:Vn n m F d v)(g:ln F=n)(h:∀i,i<n->ln (F.getD i [])=m)(k:ln T'=n):yU F T'=T'.drop d:=by
 unfold yU;refine Dt (pr:=λr=>decide (r=List.replicate (ln r) 0)) (F:=F) (T:=T') (by lia) λi b=>?_;have e:=sO b;have f:ln F[i]=m:=by rw[<- e];exact h i (by lia)
 by_cases c:d<=i
 .rw[aK c];refine aK ?_;refine b7 (by rw[aC]) λj h1 h2=>?_;rw[ce];have:=a.low i j c (by lia) (by lia);unfold ent at this;rw[e,jK h1]at this;exact this
 .rw[aM c];refine aM λz=>?_;have:=a.one i (by lia);unfold ent at this;rw[e,z,jK (by rw[aC,f];exact a.lt i (by lia)),ce]at this;exact absurd this (by decide)
def Gf:Ok P w K mg base 6 "kernel" ["kind","rows"] (wV K (ph U) (λas=>∃p rows,as=[.ob 0 p,jA rows]/\jR p/\ln rows<=100/\jT rows<=100/\∀i,i<ln rows->ln (rows.getD i [])=jT rows) λas=>match as with|[.ob 0 p,.lst l]=>jA (yU (lE p (lK p) (l.map kW) (jT (l.map kW))) (turnT p (lK p) (l.map kW) (jT (l.map kW))))|_=>.non):=by
 refine uK T.U0 Ez (λ_ ⟨a,b,h,_⟩=>h▸rfl) (λf y A o s H E n=>⟨_,(jr (kY (i:=2) Ez.nd rfl k4 (xc (CZ T) n (jq (xv 0) (jq (xv 1) ju)))) (jw (jD (uJ (T3 (N':=["row","turning"]) (cap:=[]) (nQ rfl rfl rfl rfl tJ tJ rfl) rfl (by rfl) T.Qf (nA (jC (xv 2) jt (λ_ _=>rfl))) (nA (jC (xv 2) jt (λ_ _=>rfl))) (λ_ _ _=>(pg_tup rfl (pgs_cons (oW 0) (pgs_cons (oW 1) pgs_nil)))) (λ_ _ _=>(aaf n.units (Wv (xl 0)) (Wv (jM (rJ (kZ (jq jt ju)) (jU 0 T.jQ) (λ_=>rfl)))))) (λ_ _ _=>(xl 1))))))),λas k=>?_⟩)
 obtain⟨p,rows,rfl,k,D,F,d⟩:=k;have G:2<=p:=k.1;refine⟨⟨⟨rfl,rfl,tJ⟩,p,rows,rfl,k,D,F,d⟩,λt e=>?_⟩;have e:t=.tup [jA (lE p (lK p) ((rows.map PV.ints).map kW) (jT ((rows.map PV.ints).map kW))),jA (turnT p (lK p) ((rows.map PV.ints).map kW) (jT ((rows.map PV.ints).map kW))),jA (oF p (lK p) ((rows.map PV.ints).map kW) (jT ((rows.map PV.ints).map kW)))]:=e;rw[mW]at e;obtain⟨u,L,tB,_,_,_,_⟩:=M6 (iv:=lK p) G (λx h0 h1=>(zm k x h0 h1).2) rfl d;have fin:jA (yU (lE p (lK p) ((rows.map PV.ints).map kW) (jT ((rows.map PV.ints).map kW))) (turnT p (lK p) ((rows.map PV.ints).map kW) (jT ((rows.map PV.ints).map kW))))=.lst ((yU (lE p (lK p) rows (jT rows)) (turnT p (lK p) rows (jT rows))).map PV.ints):=by rw[mW];rfl
 generalize lE p (lK p) rows (jT rows)=j at *
 generalize turnT p (lK p) rows (jT rows)=tu at *
 generalize oF p (lK p) rows (jT rows)=v at *
 subst e;have I:=u.len;refine jL (Z':=[.fr (.ob 0 p),.fr (jA rows),.fr (.tup [jA j,jA tu,jA v])]) rfl ?_;refine⟨⟨⟨⟨⟨rfl,tJ,by show -(3:Int)<=0/\(0:Int)<3;decide⟩,rfl⟩,⟨⟨rfl,tJ,by show -(3:Int)<=1/\(1:Int)<3;decide⟩,rfl⟩⟩,by show ln (j.map PV.ints)<=1000;rw[aa];lia,λq r c=>?_⟩,?_⟩
 .have c:(q,r)∈(j.map PV.ints).zip (tu.map PV.ints):=c;obtain⟨a,B,rfl⟩:=aY.mp (df c).1;obtain⟨b,_,rfl⟩:=aY.mp (df c).2;have J:ln a=jT rows:=by obtain⟨i,C,rfl⟩:=bO.mp B;rw[<- sO C];exact u.row i (by lia)
  exact⟨⟨rfl,⟨⟨⟨tJ,tJ⟩,tJ⟩,.inl rfl,by show -(2:Int)^63<=(ln a:Int);lia,by show((ln a:Int)).toNat<=1000;lia⟩⟩,λ_=>rfl⟩
 .have m:∀(pr:PV×PV->Bool) (g:PV×PV->PV),(∀a b:List Int,pr (.ints a,.ints b)=decide (a=List.replicate (ln a) 0))->(∀a b:List Int,g (.ints a,.ints b)=.ints b)->(((j.map PV.ints).zip (tu.map PV.ints)).filter pr).map g=(yU j tu).map PV.ints:=λpr g h1 h2=>by
   unfold yU;rw[List.zip_map,iu,bD,bD];have z:(λq:List Int×List Int=>decide (q.1=List.replicate (ln q.1) 0))=pr ∘ Prod.map PV.ints PV.ints:=by funext ⟨a,b⟩;exact(h1 a b).symm
   rw[z];exact bV λ⟨a,b⟩ _=>h2 a b
  show PV.lst (List.map _ (List.filter _ ((j.map PV.ints).zip (tu.map PV.ints))))=_;refine jc ?_ fin.symm;rw[m _ _ (λa b=>?_) λa b=>rfl];exact decide_eq_decide.mpr Iff.rfl
def ym (f:Nat->Int)(a:Nat):∀b,sm (a+b) f=sm a f+sm b λi=>f (a+i)
 |0=>(bC _).symm
 |b+1=>by show sm (a+b) f+f (a+b)=_+(sm b (λi=>f (a+i))+f (a+b));rw[ym f a b,Int.add_assoc]
structure zO (p:Int)(N W:Nat)(rows t:Tab):Prop where
 len:∀y∈t,ln y=N
 red:∀y∈t,∀j,pl p (y.getD j 0)=y.getD j 0
 nul:∀y∈t,∀j,j<W->p ∣ sm N λk=>y.getD k 0*ent rows k j
 span:∀z:Nat->Int,(∀j,j<W->p ∣ sm N λk=>z k*ent rows k j)->∃c:Nat->Int,∀k,k<N->p ∣ z k-sm (ln t) λi=>c i*(t.getD i []).getD k 0
 le:ln t<=N
def yd {a b t:Tab}{n l w:Nat}(g:0<p)(f:ln a=n)(e:∀i,i<n->ln (a.getD i [])=l)(h:uP p a b w=t):Al p n w (mm l (ent a) (ent b)) (ent t):=λi j c d=>by rw[<- h,Jh (by lia) (e i c) d];exact⟨mm l (ent a) (ent b) i j / p,by have:=fR (mm l (ent a) (ent b) i j) p;lia⟩
def Th (Q:2<=p)(C:∀x,0<x->x<p->p ∣ iv x*x-1)(O:ln rows=N)(R:∀i,i<N->ln (rows.getD i [])=W):zO p N W rows (yU (lE p iv rows W) (turnT p iv rows W)):=by
 obtain⟨J,t,tB,u,⟨d,v,S⟩,_,A⟩:=M6 (iv:=iv) Q C O R;have I:0<p:=by lia
 have H:=yd I t.len t.row u;have m3:=yd I tB.len tB.row A;rw[WM S J.len J.row t.len];generalize lE p iv rows W=F at *
 generalize turnT p iv rows W=T at *
 generalize oF p iv rows W=B at *
 have dn:=S.dn;have tl:=t.len;have s:∀i,i<N-d->(T.drop d).getD i []=T.getD (d+i) []:=λi h=>by rw[gQ,cN,<- gQ]
 have mem:∀y∈T.drop d,∃i,d<=i/\i<N/\y=T.getD i []:=λy o=>by obtain⟨i,h,rfl⟩:=bO.mp o;rw[aZ]at h;refine⟨d+i,by lia,by lia,?_⟩;rw[List.getElem_drop,sO]
 have Z:ln (T.drop d)=N-d:=by rw[aZ,tl]
 refine⟨λy o=>?_,λy o j=>?_,λy o j G=>?_,λz Y=>?_,by lia⟩
 .obtain⟨i,_,h2,rfl⟩:=mem y o;exact t.row i h2
 .obtain⟨i,_,h2,rfl⟩:=mem y o;exact t.red i j
 .obtain⟨i,h1,h2,rfl⟩:=mem y o;have:=H i j h2 G;rw[S.low i j h1 h2 G,aJ]at this;exact this
 .have M:∀k,k<N->p ∣ z k-sm N λi=>(sm N λm=>z m*ent B m i)*ent T i k:=λk l=>by
   have a:sm N (λi=>(sm N λm=>z m*ent B m i)*ent T i k)=sm N λm=>z m*mm N (ent B) (ent T) m k:=by
    have b:sm N (λi=>(sm N λm=>z m*ent B m i)*ent T i k)=sm N λi=>sm N λm=>z m*(ent B m i*ent T i k):=jG λi _=>by rw[<- Ar];exact jG λm _=>by rw[bH]
    rw[b,yw];refine jG λm _=>?_;rw[oA];rfl
   have b:sm N (λm=>z m*ent (uQ N) m k)=z k:=by rw[qL (k:=k) l λm D n=>by rw[vC D l];unfold pB;rw[ae n,aQ],vC l l];unfold pB;rw[af rfl,bG]
   rw[a];have c:p ∣ sm N λm=>z m*(mm N (ent B) (ent T) m k-ent (uQ N) m k):=oG λm D=>aL (m3 m k D l);have e:(sm N λm=>z m*(mm N (ent B) (ent T) m k-ent (uQ N) m k))+(sm N λm=>z m*ent (uQ N) m k)=sm N λm=>z m*mm N (ent B) (ent T) m k:=by rw[<- tZ];exact jG λm _=>by rw[<- fE,dJ]
   rw[<- e,b];have:=aV.mpr c;have q:∀x y:Int,x-(y+x) = -y:=λx y=>by lia
   rw[q];exact this
  have w2:∀i,i<d->p ∣ sm N λm=>z m*ent B m i:=λi h=>by
   have L:=S.lt i h;have a:p ∣ sm N λr=>(sm N λm=>z m*ent B m r)*ent F r (v i):=by
    have b:p ∣ sm N λr=>(sm N λm=>z m*ent B m r)*(mm N (ent T) (ent rows) r (v i)-ent F r (v i)):=oG λr E=>aL (H r (v i) E L);have c:p ∣ sm N λr=>(sm N λm=>z m*ent B m r)*mm N (ent T) (ent rows) r (v i):=by
     have e:(sm N λr=>(sm N λm=>z m*ent B m r)*mm N (ent T) (ent rows) r (v i))=sm N λk=>(sm N λr=>(sm N λm=>z m*ent B m r)*ent T r k)*ent rows k (v i):=by
      have u:(sm N λr=>(sm N λm=>z m*ent B m r)*mm N (ent T) (ent rows) r (v i))=sm N λr=>sm N λk=>(sm N λm=>z m*ent B m r)*ent T r k*ent rows k (v i):=jG λr _=>by unfold mm;rw[<- oA];exact jG λk _=>by rw[bH]
      rw[u,yw];exact jG λk _=>by rw[Ar]
     rw[e];have f:p ∣ sm N λk=>(z k-sm N λr=>(sm N λm=>z m*ent B m r)*ent T r k)*ent rows k (v i):=oG λk l=>be (M k l);have g:=dj (Y (v i) L) f;rw[<- wZ]at g;have q:(sm N λk=>z k*ent rows k (v i)-(z k-sm N λr=>(sm N λm=>z m*ent B m r)*ent T r k)*ent rows k (v i))=sm N λk=>(sm N λr=>(sm N λm=>z m*ent B m r)*ent T r k)*ent rows k (v i):=jG λk _=>by rw[<- gf];congr 1;lia
     rw[q]at g;exact g
    have g:=dj c b;rw[<- wZ]at g;have e:(sm N λr=>(sm N λm=>z m*ent B m r)*mm N (ent T) (ent rows) r (v i)-(sm N λm=>z m*ent B m r)*(mm N (ent T) (ent rows) r (v i)-ent F r (v i)))=sm N λr=>(sm N λm=>z m*ent B m r)*ent F r (v i):=jG λr _=>by rw[<- cr];congr 1;lia
    rw[e]at g;exact g
   rw[qL (k:=i) (by lia) λr E n=>by rw[S.alone i r h E n,aQ],S.one i h,bG]at a;exact a
  refine⟨λi=>sm N λm=>z m*ent B m (d+i),λk l=>?_⟩;have e:sm N (λi=>(sm N λm=>z m*ent B m i)*ent T i k)=sm d (λi=>(sm N λm=>z m*ent B m i)*ent T i k)+sm (N-d) λi=>(sm N λm=>z m*ent B m (d+i))*ent T (d+i) k:=by rw[<- ym,show d+(N-d)=N by lia]
  have a:=M k l;rw[e]at a;have b:p ∣ sm d λi=>(sm N λm=>z m*ent B m i)*ent T i k:=oG λi h=>be (w2 i h);have c:=aU a b;have q:∀x y w:Int,x-(y+w)+y=x-w:=λx y w=>by lia
  rw[q]at c;rw[Z];have A:(sm (N-d) λi=>(sm N λm=>z m*ent B m (d+i))*((T.drop d).getD i []).getD k 0)=sm (N-d) λi=>(sm N λm=>z m*ent B m (d+i))*ent T (d+i) k:=jG λi h=>by rw[s i h];rfl
  rw[A];exact c
def zO.ne {N W:Nat}{rows t:Tab}(K:zO p N W rows t){z:Nat->Int}(f:∀j,j<W->p ∣ sm N λk=>z k*ent rows k j){i:Nat}(d:i<N)(nd:¬p ∣ z i):0<ln t:=by refine Nat.pos_of_ne_zero λe=>?_;obtain⟨c,h⟩:=K.span z f;have:=h i d;rw[e]at this;have b:(sm 0 λa=>c a*(t.getD a []).getD i 0)=0:=rfl;rw[b,aJ]at this;exact nd this
def j9 (p:Int)(t:Tab):Tab:=t.mapIdx λa r=>r.set a (pl p (r.getD a 0-1))
def Cj (p:Int)(t:Tab):ln (j9 p t)=ln t:=by unfold j9;rw[cM]
def Be (h:i<ln t):(j9 p t).getD i []=(t.getD i []).set i (pl p ((t.getD i []).getD i 0-1)):=by unfold j9;rw[gQ,cu,ac h,gQ,ac h];rfl
def qT (p:Int)(b:List Int):Tab:=jZ p b (rm p b (pw [0,1] p.toNat)) (ln b-1)
namespace Pl
variable {p:Int}
def Go (a b:Pl p):Prop:=∃u,b=u*a
def Go.refl (a:Pl p):Go a a:=⟨1,(one_mul a).symm⟩
def Go.trans {a b c:Pl p}(h:Go a b)(k:Go b c):Go a c:=by obtain⟨u,rfl⟩:=h;obtain⟨v,rfl⟩:=k;exact⟨v*u,by rw[mul_assoc]⟩
def Go.zero (a:Pl p):Go a 0:=⟨0,(zero_mul a).symm⟩
def Go.add {a b c:Pl p}(h:Go a b)(k:Go a c):Go a (b+c):=by obtain⟨u,rfl⟩:=h;obtain⟨v,rfl⟩:=k;exact⟨u+v,by grind⟩
def Go.sub {a b c:Pl p}(h:Go a b)(k:Go a c):Go a (b-c):=by obtain⟨u,rfl⟩:=h;obtain⟨v,rfl⟩:=k;exact⟨u-v,by grind⟩
def Go.mul (h:Go a b)(c:Pl p):Go a (c*b):=by obtain⟨u,rfl⟩:=h;exact⟨c*u,by rw[mul_assoc]⟩
def Go.Xb (h:Go a b)(c:Pl p):Go a (b*c):=by rw[mul_comm];exact h.mul c
def Go.pO {a b c:Pl p}(h:Go a b)(e:b=c):Go a c:=e ▸ h
def Go.cut {a b c:Pl p}(h:Go a (b*c))(k:oJ a b):Go a c:=by obtain⟨u,e⟩:=h;obtain⟨s,t,d⟩:=k;exact⟨s*c+t*u,by grind⟩
def Go.both {a b c:Pl p}(h:Go a c)(k:Go b c)(q:oJ a b):Go (a*b) c:=by obtain⟨u,rfl⟩:=k;have:Go a (b*u):=h.pO (mul_comm _ _);obtain⟨v,e⟩:=this.cut q;exact⟨v,by rw[e,mul_assoc]⟩
def oJ.acA {a b c:Pl p}(h:oJ a c)(k:Go b c):oJ a b:=by obtain⟨u,rfl⟩:=k;obtain⟨s,t,e⟩:=h;exact⟨s,t*u,by grind⟩
def Ie (c d:Int):con p (c*d)=con p c*con p d:=by show con p (c*d)=con p c*mk p [d];rw[sJ];refine ext λn=>?_;rw[j8];cases n<;>simp
def Gu (c d:Int):con p (c-d)=con p c-con p d:=by rw[Int.sub_eq_add_neg,Ab,HB];rfl
def Ux (h:p ∣ c-d):con p c=con p d:=by
 have:=N6 h;rw[Gu]at this;generalize con p c=x at *
 generalize con p d=y at *
 grind
def Cu (c:jR p)(x y:Pl p):(x+y)^p.toNat=x^p.toNat+y^p.toNat:=by obtain⟨a,rfl⟩:=rep x;obtain⟨b,rfl⟩:=rep y;rw[m8,<- tM,<- tM,<- tM,m8];obtain⟨Q,h⟩:=V5 c [] a b;refine lZ.mpr λn=>?_;have h:=h n;rw[jN Q [],lY,aJ]at h;exact h
def yD (a:jR p)(c:Int):con p c^p.toNat=con p c:=by
 have b:=a.1;have e:con p c=con p (((c % p).toNat:Nat):Int):=Ux (by
  rw[bM (bw _ (by lia))];exact⟨c / p,by have:=fR c p;lia⟩)
 rw[e];generalize (c % p).toNat=m;show mk p [(m:Int)]^p.toNat=mk p [(m:Int)];rw[<- tM];obtain⟨Q,h⟩:=pw_c a [] m;refine lZ.mpr λn=>?_;have h:=h n;rw[jN Q [],lY,aJ]at h;exact h
def Vi (c:jR p)(x y:Pl p):(x-y)^p.toNat=x^p.toNat-y^p.toNat:=by
 have e:x=(x-y)+y:=by grind
 have h:=Cu c (x-y) y;rw[<- e]at h;rw[h];generalize (x-y)^p.toNat=a;generalize y^p.toNat=b;grind
def fx (x:Pl p):Pl p:=x^p.toNat-x
def aap (h:jR p)(x y:Pl p):fx (x-y)=fx x-fx y:=by unfold fx;rw[Vi h];generalize x^p.toNat=a;generalize y^p.toNat=b;grind
def Z0 (h:jR p)(x y:Pl p):fx (x+y)=fx x+fx y:=by unfold fx;rw[Cu h];generalize x^p.toNat=a;generalize y^p.toNat=b;grind
def Uv (h:jR p)(c:Int):fx (con p c)=0:=by unfold fx;rw[yD h];generalize con p c=a;grind
def PQ (h:jR p)(c:Int)(x:Pl p):fx (con p c*x)=con p c*fx x:=by unfold fx;rw[mul_pow,yD h];generalize x^p.toNat=a;generalize con p c=b;grind
def RW (b:jR p){a x:Pl p}(h:Go a x):Go a (fx x):=by
 unfold fx;obtain⟨m,hm⟩:∃m,p.toNat=m+1:=⟨p.toNat-1,by have:=b.1;lia⟩;have e:x^p.toNat-x=(x^m-1)*x:=by rw[hm];show x^m*x-x=_;generalize x^m=y;grind
 rw[e];exact h.mul _
def Dg (h:jR p)(x:Pl p)(c:Int):fx (x-con p c)=fx x:=by rw[aap h,Uv h];generalize fx x=y;grind
def abT (h:jR p)(x:Pl p)(c:Int):Go (x-con p c) (fx x):=by rw[<- Dg h x c];exact RW h (Go.refl _)
def Vt (e:x-y=con p c)(h:p ∣ t*c-1):oJ x y:=by have k:=xR h;rw[<- e]at k;exact⟨con p t,-con p t,by generalize con p t=z at *;grind⟩
def PH (h:Pl p):Nat->Pl p
 |0=>1
 |n+1=>PH h n*(h-con p (n:Int))
def Ua (d:jR p)(h:Pl p){m:Nat}(e:(m:Int)<p):∀n,n<=m->oJ (PH h n) (h-con p (m:Int))
 |0,_=>(oJ.one _).symm
 |n+1,hn=>by
  refine(Ua d h e n (by lia)).mul ?_;have nd:¬p ∣ ((m:Int)-(n:Int)):=λz=>by have:=fw (by lia) z;lia
  obtain⟨t,f⟩:=mL d nd;refine Vt (c:=(m:Int)-(n:Int)) ?_ f;rw[Gu];generalize con p (m:Int)=a;generalize con p (n:Int)=b;grind
def Zw (a:jR p)(h:Pl p):∀n:Nat,(n:Int)<=p->Go (PH h n) (fx h)
 |0,_=>⟨fx h,by show fx h=fx h*1;rw[mul_comm,one_mul]⟩
 |n+1,hn=>(Zw a h n (by lia)).both (abT a h _) (Ua a h (by lia) n (aj _))
def wJ (a:2<=p)(x y:Pl p)(n:Nat):(ls (x-y)).getD n 0=pl p ((ls x).getD n 0-(ls y).getD n 0):=by
 have e:x-y=mk p (kJ (ls x) (zJ (-1) (ls y))):=by rw[<- m8,<- yV,jV,jV];rfl
 rw[e,qg,kh,jJ,j8,fk];rfl
def T7 (a:2<=p){x y:Pl p}(h:Mo x)(l:ln (ls y)<ln (ls x)):Mo (x-y)/\ln (ls (x-y))=ln (ls x):=by
 have top:(ls (x-y)).getD (ln (ls x)-1) 0=1:=by rw[wJ a,jz (xs:=ls y) (by lia),aJ];have e:(ls x).getD (ln (ls x)-1) 0=1:=h;rw[e,XJ a]
 have d:ln (ls (x-y))<=ln (ls x):=m5 (kO _).form λn b=>by rw[wJ a,jz (by lia),jz (by lia),aJ,lU]
 have g:ln (ls x)-1<ln (ls (x-y)):=c8 λc=>by rw[jz c]at top;exact absurd top (by decide)
 have:=h.pos;have e:ln (ls (x-y))=ln (ls x):=by lia
 refine⟨?_,e⟩;show(ls (x-y)).getD (ln (ls (x-y))-1) 0=1;rw[e];exact top
def uo (c:Int):ln (ls (con p c))<=1:=lA p [c]
def Zx (a:2<=p){h:Pl p}(m:Mo h)(d:1<ln (ls h)):∀n,Mo (PH h n)/\ln (ls (PH h n))=n*(ln (ls h)-1)+1
 |0=>⟨Mo.one a,by show ln (ls (1:Pl p))=_;rw[uO a];simp⟩
 |n+1=>by obtain⟨h1,h2⟩:=Zx a m d n;have l:=uo (p:=p) (n:Int);obtain⟨b,e⟩:=T7 a m (show ln (ls (con p (n:Int)))<_ by lia);obtain⟨c,f⟩:=Mo.Hk a h1 b;refine⟨c,?_⟩;show ln (ls (PH h n*(h-con p (n:Int))))=_;rw[gA];lia
def acJ (c:jR p){h:Pl p}(m:Mo h)(g:1<ln (ls h)):fx h=PH h p.toNat:=by
 have a:=c.1;have pw:=m.pow a p.toNat;have lp:=m.wW a p.toNat;have b:ln (ls h)<ln (ls (h^p.toNat)):=by rw[lp];have:2*(ln (ls h)-1)<=p.toNat*(ln (ls h)-1):=fX _ (by lia);lia
 obtain⟨i,d⟩:=T7 a pw b;obtain⟨f,k⟩:=Zx a m g p.toNat;obtain⟨u,e⟩:=Zw c h p.toNat (by lia);have mu:Mo u:=Mo.quo a (x:=fx h) i f e;have l:=Mo.len a mu f;rw[<- e]at l;have d:ln (ls (fx h))=ln (ls (h^p.toNat)):=d;have j:u=1:=mu.Hv a (by lia);rw[e,j,one_mul]
def wC.UL (b:jR p){q:Pl p}(h:wC q):¬Go q 1:=λ⟨u,e⟩=>by have a:=b.1;have mu:=Mo.quo a (Mo.one a) h.mo e;have l:=Mo.len a mu h.mo;rw[<- e,uO a]at l;have:=mu.pos;have:=h.deg;have l:1+1=ln (ls u)+ln (ls q):=l;lia
def wC.Lq (a:jR p)(h:wC q)(k:Go q (con p c)):p ∣ c:=cB λnd=>by obtain⟨t,b⟩:=mL a nd;exact h.UL a ((k.mul (con p t)).pO (xR b))
def sub_len (a:2<=p){x y:Pl p}{n:Nat}(b:ln (ls x)<=n)(c:ln (ls y)<=n):ln (ls (x-y))<=n:=m5 (kO _).form λk h=>by rw[wJ a,jz (by lia),jz (by lia),aJ,lU]
def wC.ab4 (a:jR p)(I:wC q)(b:ln (ls h)<=200)(h1:1<=ln (ls h)):∀n,Go q (PH h n)->∃s:Nat,s<n/\Go q (h-con p (s:Int))
 |0,g=>absurd g (I.UL a)
 |n+1,g=>by
  have l:=uo (p:=p) (n:Int);rcases I.or a (h-con p (n:Int)) (sub_len a.1 b (by lia)) with c|c
  .have g:Go q ((h-con p (n:Int))*PH h n):=g.pO (mul_comm _ _);obtain⟨s,d,k⟩:=wC.ab4 a I b h1 n (g.cut c);exact⟨s,by lia,k⟩
  .exact⟨n,cC n,c⟩
def T4 (f:jR p)(I:wC q)(D:ln (ls h)<=200)(g:Go q (fx h)):∃s:Int,0<=s/\s<p/\Go q (h-con p s):=by
 have B:=f.1;have l:0<p:=by lia
 have r:∀c:Int,Go q (h-con p c)->∃s:Int,0<=s/\s<p/\Go q (h-con p s):=λc k=>⟨c % p,bw _ (by lia),bc _ l,by
  rw[show con p (c % p)=con p c from Ux ⟨-(c / p),by have:=fR c p;rw[iX];lia⟩];exact k⟩
 by_cases c:ln (ls h)<=1
 .have e:h=con p ((ls h).getD 0 0):=by
   conv=>lhs;rw[<- jV h]
   refine ext λn=>?_
   match n with
   |0=>rfl
   |n+1=>rw[jz (by lia)];rfl
  refine r ((ls h).getD 0 0) ?_;rw[<- e];exact(Go.zero q).pO (by generalize h=x;grind)
 .have i:ls h≠[]:=λz=>by rw[z]at c;exact c (by decide)
  have nd:¬p ∣ jB (ls h):=λz=>by have h1:=(kO h).red (ln (ls h)-1);have h1:pl p (jB (ls h))=jB (ls h):=h1;rw[lJ l,bU z]at h1;exact(kO h).form i h1.symm
  obtain⟨t,j⟩:=mL f nd;have m:con p (jB (ls h))*(con p t*h)=h:=by rw[<- mul_assoc,mul_comm (con p _),xR j,one_mul]
  have get:∀n,(ls (con p t*h)).getD n 0=pl p (t*(ls h).getD n 0):=λn=>by
   have:con p t*h=mk p (zJ t (ls h)):=by rw[<- sJ,jV]
   rw[this,qg,kh,j8]
  have top:(ls (con p t*h)).getD (ln (ls h)-1) 0=1:=by rw[get];have:pl p (t*jB (ls h))=pl p 1:=(qu p _ _).mpr j;exact this.trans (XJ B)
  have F:ln (ls (con p t*h))<=ln (ls h):=m5 (kO _).form λn y=>by rw[get,jz y,aQ,lU]
  have C:ln (ls h)-1<ln (ls (con p t*h)):=c8 λc=>by rw[jz c]at top;exact absurd top (by decide)
  have u:ln (ls (con p t*h))=ln (ls h):=by lia
  have mo:Mo (con p t*h):=by show(ls (con p t*h)).getD (ln (ls (con p t*h))-1) 0=1;rw[u];exact top
  have v:Go q (Pl.PH (con p t*h) p.toNat):=by rw[<- acJ f mo (by lia),PQ f];exact g.mul _
  obtain⟨s,E,k⟩:=I.ab4 f (h:=con p t*h) (by lia) (by lia) _ v;refine r (jB (ls h)*(s:Int)) ?_;have A:=k.mul (con p (jB (ls h)));refine A.pO ?_;have o:=Ie (p:=p) (jB (ls h)) (s:Int);rw[o];generalize con p (jB (ls h))=a at *
  generalize con p (s:Int)=b at *
  generalize con p t*h=d at *
  rw[<- m];grind
def Io (c:jR p)(I:wC q)(a:Go q (h-con p s))(b:Go q (h-con p t)):p ∣ s-t:=by refine I.Lq c ((b.sub a).pO ?_);rw[Gu];generalize con p s=x;generalize con p t=y;grind
def PL (l:List (Pl p)):Pl p:=l.foldr (λq x=>q*x) 1
def qI (q:Pl p)(l:List (Pl p)):PL (q::l)=q*PL l:=rfl
def Vm (a b:List (Pl p)):PL (a++b)=PL a*PL b:=by
 induction a with
 |nil=>exact(one_mul _).symm
 |cons q a i=>rw[List.cons_append,qI,qI,i,mul_assoc]
def Oi {a b:List (Pl p)}(h:a.Perm b):PL a=PL b:=by
 induction h with
 |nil=>rfl
 |cons x _ i=>rw[qI,qI,i]
 |swap x y l=>rw[qI,qI,qI,qI];generalize PL l=z;grind
 |trans _ _ h1 h2=>exact h1.trans h2
structure xY (l:List (Pl p)):Prop where
 irr:∀q∈l,wC q
 len:∀q∈l,ln (ls q)<=200
 nd:l.Nodup
def xY.sub {l m:List (Pl p)}(I:xY l)(h:∀q∈m,q∈l)(nd:m.Nodup):xY m:=⟨λq a=>I.irr q (h q a),λq a=>I.len q (h q a),nd⟩
def Kr (a:2<=p):∀{l:List (Pl p)},(∀q∈l,Mo q)->Mo (PL l)
 |[],_=>Mo.one a
 |q::l,h=>Mo.mul a (h q ah) (Kr a λr b=>h r (ad _ b))
def xY.mo {l:List (Pl p)}(I:xY l)(a:2<=p):Mo (PL l):=Kr a λq h=>(I.irr q h).mo
def Bt (a:2<=p):∀{l:List (Pl p)},(∀q∈l,wC q)->ln l+1<=ln (ls (PL l))
 |[],_=>by show 1<=ln (ls (1:Pl p));rw[uO a];exact aj _
 |q::l,h=>by have i:=Bt a λr b=>h r (ad _ b);have c:=h q ah;have d:=Mo.len a c.mo (Kr a λr b=>(h r (ad _ b)).mo);have:=c.deg;rw[qI,aR];lia
def Hu:∀{l:List (Pl p)},(∀r∈l,oJ r x)->oJ (PL l) x
 |[],_=>(oJ.one x).symm
 |q::l,h=>(h q ah).mul (Hu λr a=>h r (ad _ a))
def xY.cop {l:List (Pl p)}(a:jR p)(I:xY l)(b:q∈l)(h:r∈l)(ne:q≠r):oJ q r:=(I.irr q b).cop a (I.irr r h) (I.len r h) ne
def Ox (b:jR p):∀{l:List (Pl p)},xY l->(∀q∈l,Go q x)->Go (PL l) x
 |[],_,_=>⟨x,by show x=x*1;rw[mul_comm,one_mul]⟩
 |q::l,I,h=>by have nd:=cZ.mp I.nd;have i:xY l:=I.sub (λr a=>ad _ a) nd.2;refine(h q ah).both (Ox b i λr a=>h r (ad _ a)) ?_;refine(Hu λr a=>?_).symm;exact I.cop b (ad _ a) ah λe=>nd.1 (e ▸ a)
def xG:∀{l:List (Pl p)},q∈l->Go q (PL l)
 |r::l,h=>by
  rcases aG.mp h with rfl|h
  .exact(Go.refl _).Xb _
  .exact(xG h).mul _
def Wz (b:jR p)(mg:Mo g)(a:ln (ls g)<=200)(x:Pl p):∃u r,x=u*g+r/\ln (ls r)<ln (ls g):=by
 obtain⟨_,_,i,Q,h⟩:=mU (Di b mg a) (ls x);rw[rW]at i h;refine⟨mk p Q,mk p (rm p (ls g) (ls x)),?_,?_⟩
 .have e:mk p (ls x)=mk p Q*mk p (ls g)+mk p (rm p (ls g) (ls x)):=by
   rw[lM,m8];refine lZ.mpr λn=>?_;rw[jJ,jx];have:=h n;have e:(ls x).getD n 0-(cm Q (ls g) n+(rm p (ls g) (ls x)).getD n 0)=(ls x).getD n 0-(rm p (ls g) (ls x)).getD n 0-cm Q (ls g) n:=by lia
   rw[e];exact this
  rw[jV,jV]at e;exact e
 .rw[rD ⟨i.form,i.red⟩];exact i.len
def t8 {g x:Pl p}(mg:Mo g)(h:Go g x)(l:ln (ls x)<ln (ls g)):x=0:=by
 obtain⟨u,e⟩:=h;have r:=tK (p:=p) (d:=ls g) (r:=ls x) (s:=[]) (λy a=>by rw[show jB (ls g)=1 from mg,bG]at a;exact a) ⟨(kO _).form,(kO _).red,l⟩ ⟨oM,λn=>by exact lU p,mg.pos⟩ ⟨ls u,λn=>by
  have b:mk p (ls x)=mk p (jy (ls u) (ls g)):=by rw[jV,<- lM,jV,jV];exact e
  have:=lZ.mp b n;rw[jx]at this;show p ∣ (ls x).getD n 0-0-cm (ls u) (ls g) n;rw[aJ];exact this⟩
 rw[<- jV x,r,yW]
def crt (h:jR p)(I:xY l)(n:ln (ls (PL l))<=200)(i:q∈l):∃e:Pl p,Go q (e-con p 1)/\(∀r∈l,r≠q->Go r (e-con p 0))/\Go (PL l) (fx e)/\ln (ls e)<ln (ls (PL l)):=by
 have A:DecidableEq (Pl p):=λa b=>Classical.propDecidable _;have C:=List.perm_cons_erase i;have j:∀r∈l.erase q,r∈l/\r≠q:=λr d=>⟨List.mem_of_mem_erase d,λz=>by
  have:=(I.nd.mem_erase_iff (a:=r) (b:=q)).mp d;exact this.1 z⟩
 obtain⟨s,t,e⟩:oJ (PL (l.erase q)) q:=Hu λr d=>I.cop h (j r d).1 i (j r d).2;obtain⟨u,r,B,v⟩:=Wz h (I.mo h.1) n (s*PL (l.erase q));have k:Go q (r-con p 1):=by
  have a:Go q (u*PL l):=(xG i).mul u;have b:Go q (t*q):=(Go.refl q).mul t;refine(Go.sub (Go.zero q) (a.add b)).pO ?_;show 0-(u*PL l+t*q)=r-1;generalize PL l=x at *
  generalize PL (l.erase q)=y at *
  grind
 have m:∀o∈l,o≠q->Go o (r-con p 0):=λo f g=>by
  have a:Go o (u*PL l):=(xG f).mul u;have b:Go o (s*PL (l.erase q)):=(xG ((I.nd.mem_erase_iff).mpr ⟨g,f⟩)).mul s;refine(b.sub a).pO ?_;show s*PL (l.erase q)-u*PL l=r-0;generalize PL l=x at *
  generalize PL (l.erase q)=y at *
  grind
 refine⟨r,k,m,Ox h I λo f=>?_,v⟩;by_cases c:o=q
 .subst c;rw[<- Dg h r 1];exact RW h k
 .rw[<- Dg h r 0];exact RW h (m o f c)
def nU (c:Nat->Int)(E:Nat->Pl p):Nat->Pl p
 |0=>0
 |n+1=>nU c E n+con p (c n)*E n
def uv (e:x=mk p a)(n:Nat):p ∣ (ls x).getD n 0-a.getD n 0:=by refine lZ.mp ?_ n;rw[jV,e]
def Ai (c:Nat->Int)(E:Nat->Pl p)(j:Nat):∀n,p ∣ (ls (nU c E n)).getD j 0-sm n λk=>c k*(ls (E k)).getD j 0
 |0=>by have:=uv (p:=p) (x:=nU c E 0) (a:=[0]) rfl j;rw[DQ]at this;exact this
 |n+1=>by
  have i:=Ai c E j n;have e:nU c E (n+1)=mk p (kJ (ls (nU c E n)) (zJ (c n) (ls (E n)))):=by rw[<- m8,<- sJ,jV,jV];rfl
  have:=uv e j;rw[jJ,j8]at this;have h:=aU this i;have g:∀a b d f:Int,a-(b+d)+(b-f)=a-(f+d):=λa b d f=>by lia
  rw[g]at h;exact h
def yM {c v:Nat->Int}{E:Nat->Pl p}:∀{n:Nat},(∀k,k<n->Go q (E k-con p (v k)))->Go q (nU c E n-con p (sm n λk=>c k*v k))
 |0,_=>(Go.zero q).pO (by show(0:Pl p)=0-0;grind)
 |n+1,h=>by
  have a:=yM (c:=c) (v:=v) (E:=E) (n:=n) λk d=>h k (by lia);have b:=(h n (cC n)).mul (con p (c n));refine(a.add b).pO ?_;have e:con p (sm (n+1) λk=>c k*v k)=con p (sm n λk=>c k*v k)+con p (c n)*con p (v n):=by rw[<- Ie,<- Ab];rfl
  rw[e];show _=nU c E n+con p (c n)*E n-_;generalize con p (sm n λk=>c k*v k)=x;generalize con p (c n)=y;generalize con p (v n)=z;generalize nU c E n=s;generalize E n=t;grind
structure Yt (g:Pl p)(t:Tab):Prop where
 st:∀y∈t,Go g (fx (mk p y))
 len:∀y∈t,ln y<=200
 span:∀e:Pl p,Go g (fx e)->ln (ls e)<ln (ls g)->∃c:Nat->Int,e=nU c (λk=>mk p (t.getD k [])) (ln t)
def S6 (a:jR p):∃iv:Int->Int,∀x,0<x->x<p->p ∣ iv x*x-1:=by
 refine⟨λx=>if h:¬p ∣ x then(mL a h).choose else 0,λx h0 h1=>?_⟩;have nd:¬p ∣ x:=λz=>by have:=fw h0 z;lia
 show p ∣ (if h:¬p ∣ x then(mL a h).choose else 0)*x-1;rw[je nd];exact(mL a nd).choose_spec
def V4 (a:2<=p){c:Nat->Int}{E:Nat->Pl p}{n:Nat}(h:∀j,p ∣ sm n λk=>c k*(ls (E k)).getD j 0):nU c E n=0:=by rw[<- jV (nU c E n),<- yW];refine lZ.mpr λj=>?_;show p ∣ _-0;rw[aJ];have:=aU (Ai c E j n) (h j);rw[dJ]at this;exact this
def Ky (f:jR p){l:List (Pl p)}(I:xY l)(M:ln (ls (PL l))<=200){t:Tab}(K:Yt (PL l) t):ln l<=ln t:=by
 refine cT λlt=>?_;have A:=f.1;have D:∀k:Nat,∃e:Pl p,∃c:Nat->Int,∀h:k<ln l,Go l[k] (e-con p 1)/\(∀r∈l,r≠l[k]->Go r (e-con p 0))/\e=nU c (λk=>mk p (t.getD k [])) (ln t):=λk=>by
  by_cases h:k<ln l
  .obtain⟨e,h1,h2,G,H⟩:=crt f I M (bK h);obtain⟨c,J⟩:=K.span e G H;exact⟨e,c,λ_=>⟨h1,h2,J⟩⟩
  .exact⟨0,λ_=>0,λz=>absurd z h⟩
 have⟨E,L⟩:=g9 D;have⟨C,u⟩:=g9 L;obtain⟨S,m⟩:=S6 f;obtain⟨y,⟨i,b,nd⟩,N⟩:=dep A m lt λk j=>C k j;have z:nU y E (ln l)=0:=V4 A λj=>by
  have O:∀k,k<ln l->p ∣ (ls (E k)).getD j 0-sm (ln t) λi=>C k i*(ls (mk p (t.getD i []))).getD j 0:=λk d=>by have:=Ai (C k) (λk=>mk p (t.getD k [])) j (ln t);rw[<- (u k d).2.2]at this;exact this
  have Q:sm (ln l) (λk=>y k*sm (ln t) λi=>C k i*(ls (mk p (t.getD i []))).getD j 0)=sm (ln t) λi=>(sm (ln l) λk=>y k*C k i)*(ls (mk p (t.getD i []))).getD j 0:=by
   have a:sm (ln l) (λk=>y k*sm (ln t) λi=>C k i*(ls (mk p (t.getD i []))).getD j 0)=sm (ln l) λk=>sm (ln t) λi=>y k*C k i*(ls (mk p (t.getD i []))).getD j 0:=jG λk _=>by rw[<- oA];exact jG λi _=>by rw[bH]
   rw[a,yw];exact jG λi _=>by rw[Ar]
  have B:p ∣ sm (ln t) λi=>(sm (ln l) λk=>y k*C k i)*(ls (mk p (t.getD i []))).getD j 0:=oG λi b=>be (N i b);rw[<- Q]at B;have R:p ∣ sm (ln l) λk=>y k*((ls (E k)).getD j 0-sm (ln t) λi=>C k i*(ls (mk p (t.getD i []))).getD j 0):=oG λk d=>aL (O k d);have s:=aU R B;rw[<- tZ]at s;have e:(sm (ln l) λk=>y k*((ls (E k)).getD j 0-sm (ln t) λi=>C k i*(ls (mk p (t.getD i []))).getD j 0)+y k*sm (ln t) λi=>C k i*(ls (mk p (t.getD i []))).getD j 0)=sm (ln l) λk=>y k*(ls (E k)).getD j 0:=jG λk _=>by rw[<- fE,dJ]
  rw[e]at s;exact s
 have g:=yM (q:=l[i]) (c:=y) (v:=λk=>if k=i then 1 else 0) (E:=E) (n:=ln l) λk d=>by
  obtain⟨h1,h2,_⟩:=u k d;by_cases c:k=i
  .subst c;rw[af rfl];exact h1
  .rw[ae c];refine h2 _ (bK b) λe=>?_;have pw:=dw.mp I.nd;rcases fj c with q|q
   .exact pw k i d b q e.symm
   .exact pw i k b d q e
 have e:(sm (ln l) λk=>y k*(if k=i then(1:Int) else 0))=y i:=by rw[qL (k:=i) b λk _ o=>by rw[ae o,aQ],af rfl,bG]
 rw[z,e]at g;have F:Go l[i] (con p (-(y i))):=g.pO (by rw[HB];generalize con p (y i)=x;grind);have:=(I.irr _ (bK b)).Lq f F;exact nd (aV.mp this)
def QR (h:jR p){l:List (Pl p)}(I:xY l)(n:ln (ls (PL l))<=200){t:Tab}(K:Yt (PL l) t)(g:q∈l)(i:r∈l)(ne:q≠r){v:Nat->Int}(h1:∀k,k<ln t->Go q (mk p (t.getD k [])-con p (v k)))(h2:∀k,k<ln t->Go r (mk p (t.getD k [])-con p (v k))):False:=by obtain⟨e,a,b,c,d⟩:=crt h I n g;obtain⟨f,rfl⟩:=K.span e c d;have j:=yM (q:=q) (c:=f) (v:=v) (E:=λk=>mk p (t.getD k [])) h1;have m:=yM (q:=r) (c:=f) (v:=v) (E:=λk=>mk p (t.getD k [])) h2;have o:=Io h (I.irr q g) a j;have s:=Io h (I.irr r i) (b r i (cw ne)) m;have:=dj o s;rw[show ∀x:Int,1-x-(0-x)=1 from λx=>by lia]at this;have:=fw (by decide) this;have:=h.1;lia
open Classical in
def vl (h q:Pl p):Int:=if k:∃s:Int,0<=s/\s<p/\Go q (h-con p s) then k.choose else 0
def Zv (k:∃s:Int,0<=s/\s<p/\Go q (h-con p s)):0<=vl h q/\vl h q<p/\Go q (h-con p (vl h q)):=by unfold vl;rw[je k];exact k.choose_spec
def Qc (b:jR p)(I:wC q)(a:ln (ls h)<=200)(g:Go q (fx h)):0<=vl h q/\vl h q<p/\Go q (h-con p (vl h q)):=Zv (T4 b I a g)
def acu (d:jR p)(I:wC q)(h0:0<=s)(h1:s<p)(g:Go q (h-con p s)):vl h q=s:=by
 obtain⟨a,b,c⟩:=Zv (h:=h) (q:=q) ⟨s,h0,h1,g⟩;obtain⟨m,e⟩:=Io d I c g;have i:=d.1;generalize vl h q=x at *
 have f:m=0:=by
  rcases Int.lt_trichotomy m 0 with z|z|z
  .have:p*m<=p*(-1):=bB (by lia) (by lia);rw[iX,bG]at this;lia
  .exact z
  .have:p*1<=p*m:=bB (by lia) (by lia);rw[bG]at this;lia
 rw[f,aQ]at e;lia
def vG {b:Type}(f:b->Bool):∀l:List b,(l.filter f++l.filter λx=>!f x).Perm l
 |[]=>.nil
 |a::l=>by
  have i:=vG f l;cases e:f a with
  |true=>rw[cH e,cI (by rw[e];decide)];exact .cons a i
  |false=>rw[cI (by rw[e];decide),cH (by rw[e];decide)];exact List.perm_middle.trans (.cons a i)
def acs (d:jR p)(I:xY c)(g:ln (ls h)<=200)(h1:1<=200)(r:∀q∈c,Go q (fx h))(n:0<=s)(o:s<p):Gd (PL c) (h-con p s) (PL (c.filter λq=>decide (vl h q=s))):=by
 have j:PL c=PL (c.filter λq=>decide (vl h q=s))*PL (c.filter λq=>!decide (vl h q=s)):=by rw[<- Vm,Oi (vG _ c)]
 have i:xY (c.filter λq=>decide (vl h q=s)):=I.sub (λq e=>(aW.mp e).1) (I.nd.filter _);obtain⟨w,e2⟩:Go (PL (c.filter λq=>decide (vl h q=s))) (h-con p s):=Ox d i λq e=>by obtain⟨m,f⟩:=aW.mp e;have:=(Qc d (I.irr q m) g (r q m)).2.2;rw[bQ f]at this;exact this
 have cop:oJ (PL (c.filter λq=>!decide (vl h q=s))) (h-con p s):=Hu λq e=>by
  obtain⟨m,f⟩:=aW.mp e;have l:=uo (p:=p) s;rcases (I.irr q m).or d (h-con p s) (sub_len d.1 g (by lia)) with k|k
  .exact k
  .exfalso;rw[acu d (I.irr q m) n o k]at f;simp at f
 rw[j];generalize PL (c.filter λq=>decide (vl h q=s))=x at *
 generalize PL (c.filter λq=>!decide (vl h q=s))=y at *
 obtain⟨a,b,e3⟩:oJ y w:=cop.acA ⟨x,by rw[e2,mul_comm]⟩;rw[e2];exact⟨⟨a,b,by grind⟩,⟨y,mul_comm x y⟩,⟨w,rfl⟩⟩
def taN (h:Pl p)(c:List (Pl p))(n:List Int):List (List (Pl p)):=(n.map λs=>c.filter λq=>decide (vl h q=s)).filter λf=>decide (0<ln f)
def taC (h:Pl p)(n:List Int)(cls:List (List (Pl p))):List (List (Pl p)):=cls.flatMap λc=>taN h c n
def GZ {b:Type}:∀L:List (List b),(L.filter λf=>decide (0<ln f)).flatten=L.flatten
 |[]=>rfl
 |[]::L=>by rw[cI (by simp),GZ L];rfl
 |(a::f)::L=>by rw[cH (by simp),bR,bR,GZ L]
def zr {a:Type}(f:a->Int)(c:List a):∀{n:Li},n.Nodup->((n.map λs=>c.filter λq=>decide (f q=s)).flatten).Perm (c.filter λq=>decide (f q∈n))
 |[],_=>by
  rw[dM,List.flatten_nil];have:(c.filter λq=>decide (f q∈([]:List Int)))=[]:=List.filter_eq_nil_iff.mpr λq _=>by simp
  rw[this]
 |s::n,nd=>by
  obtain⟨e,g⟩:=cZ.mp nd;have i:=zr f c g;rw[bN,bR];have k:=vG (λq=>decide (f q=s)) (c.filter λq=>decide (f q∈s::n));rw[List.filter_filter,List.filter_filter]at k;have b:(c.filter λq=>decide (f q=s) && decide (f q∈s::n))=c.filter λq=>decide (f q=s):=fG λq _=>by
   by_cases z:f q=s
   .simp[z]
   .simp[z]
  have d:(c.filter λq=>(!decide (f q=s)) && decide (f q∈s::n))=c.filter λq=>decide (f q∈n):=fG λq _=>by
   by_cases z:f q=s
   .simp[z,e]
   .simp[z]
  rw[b,d]at k;exact(List.Perm.append_left _ i).trans k
def Wm {h:Pl p}{c:List (Pl p)}{n:Li}(nd:n.Nodup)(a:∀q∈c,vl h q∈n):(taN h c n).flatten.Perm c:=by unfold taN;rw[GZ];have:=zr (vl h) c nd;rw[i9.mpr λq b=>aK (a q b)]at this;exact this
structure Cls (l H:List (Pl p))(cls:List (List (Pl p))):Prop where
 pm:cls.flatten.Perm l
 ne:∀c∈cls,c≠[]
 al:∀c∈cls,∀h∈H,∀q∈c,∀r∈c,vl h q=vl h r
def Cls.start {l:List (Pl p)}(h:l≠[]):Cls l [] [l]:=⟨by simp,λc a=>by rw[bx.mp a];exact h,λc _ h b=>by cases b⟩
def Cls.mem {l H:List (Pl p)}{cls:List (List (Pl p))}(C:Cls l H cls){c:List (Pl p)}(h:c∈cls){q:Pl p}(a:q∈c):q∈l:=C.pm.mem_iff.mp (List.mem_flatten.mpr ⟨c,h,a⟩)
def Lg (nd:nums.Nodup):∀{cls:List (List (Pl p))},(∀c∈cls,∀q∈c,vl h q∈nums)->(taC h nums cls).flatten.Perm cls.flatten
 |[],_=>.nil
 |c::cls,hc=>by show((taN h c nums)++taC h nums cls).flatten.Perm _;rw[eW,bR];exact(Wm nd (hc c ah)).append (Lg nd λd a=>hc d (ad _ a))
def Cls.step {l H:List (Pl p)}{cls:List (List (Pl p))}(C:Cls l H cls){h:Pl p}{n:Li}(nd:n.Nodup)(g:∀q∈l,vl h q∈n):Cls l (h::H) (taC h n cls):=by
 refine⟨(Lg nd λc b q f=>g q (C.mem b f)).trans C.pm,λd a=>?_,λd a k e q f r i=>?_⟩
 .obtain⟨c,_,a⟩:=List.mem_flatMap.mp a;have:=bQ (aW.mp a).2;exact eR.mp this
 .obtain⟨c,b,a⟩:=List.mem_flatMap.mp a;obtain⟨s,_,rfl⟩:=aY.mp (aW.mp a).1;obtain⟨j,m⟩:=aW.mp f;obtain⟨o,t⟩:=aW.mp i;rcases aG.mp e with rfl|e
  .rw[bQ m,bQ t]
  .exact C.al c b k e q j r o
def CG {e:Type}:∀{L:List (List e)},(∀c∈L,c≠[])->ln L<=ln L.flatten/\(ln L.flatten<=ln L->∀c∈L,ln c=1)
 |[],_=>⟨aj _,λ_ c b=>by cases b⟩
 |c::L,h=>by
  obtain⟨f,i⟩:=CG λd a=>h d (ad _ a);have:=lP (h c ah);rw[bR,ai,aR];refine⟨by lia,λl d a=>?_⟩;rcases aG.mp a with rfl|a
  .lia
  .exact i (by lia) d a
def ones {L:List (List (Pl p))}(h:∀c∈L,ln c=1):L.map PL=L.flatten:=by
 induction L with
 |nil=>rfl
 |cons c L i=>
  rw[bN,bR,i λd b=>h d (ad _ b)];have a:=h c ah
  match c,a with
  |[q],_=>show q*1::_=q::L.flatten;rw[mul_comm,one_mul]
theorem Cls.fin (d:jR p){l H:List (Pl p)}{cls:List (List (Pl p))}(C:Cls l H cls)(I:xY l)(i:ln (ls (PL l))<=200){t:Tab}(K:Yt (PL l) t)(h:ln t<=ln cls\/∀k,k<ln t->Pl.mk p (t.getD k [])∈H):(cls.map PL).Perm l:=by
 have one:∀c∈cls,ln c=1:=by
  rcases h with h|h
  .have:=Ky d I i K;refine(CG C.ne).2 ?_;rw[C.pm.length_eq];lia
  .intro c a;have s:=lP (C.ne c a);refine cB λne=>?_
   match c,a,s,ne with
   |[q],_,_,ne=>exact ne rfl
   |q::r::m,a,_,_=>
    have nd:(q::r::m).Nodup:=by have:=C.pm.nodup_iff.mpr I.nd;exact(List.pairwise_flatten.mp this).1 _ a
    have u:q≠r:=λe=>(cZ.mp nd).1 (e ▸ ah);have f:q∈q::r::m:=ah;have g:r∈q::r::m:=ad _ ah;have ok:∀k,k<ln t->∀o∈l,Go o (Pl.mk p (t.getD k [])-con p (vl (Pl.mk p (t.getD k [])) o)):=λk b o j=>by
     have n:t.getD k []∈t:=by rw[gQ,ac b];exact bK b
     exact(Qc d (I.irr o j) (aA (by rw[qg];exact lA _ _) (K.len _ n)) ((xG j).trans (K.st _ n))).2.2
    refine QR d I i K (C.mem a f) (C.mem a g) u (v:=λk=>vl (Pl.mk p (t.getD k [])) q) (λk b=>ok k b q (C.mem a f)) λk b=>?_;rw[C.al _ a _ (h k b) q f r g];exact ok k b r (C.mem a g)
 rw[ones one];exact C.pm
def M8 (g:Go q (h-con p s)):∀k:Nat,Go q (h^k-con p (s^k))
 |0=>by
  have e:h^0=1:=rfl;have d:con p (s^0)=1:=by rw[jm];rfl
  refine(Go.zero q).pO ?_;rw[e,d];grind
 |k+1=>by
  have i:=M8 g k;refine((i.Xb h).add (g.mul (con p (s^k)))).pO ?_;have e:con p (s^(k+1))=con p (s^k)*con p s:=by rw[<- Ie,iA]
  rw[e];show _=h^k*h-_;generalize h^k=a;generalize con p (s^k)=b;generalize con p s=c;grind
def YH (e:jR p)(I:xY l)(g:Go (PL l) (nU y (λi=>h^i) n))(d:q∈l)(k:Go q (h-con p s)):p ∣ sm n λi=>y i*s^i:=by have a:=yM (q:=q) (c:=y) (v:=λi=>s^i) (E:=λi=>h^i) (n:=n) λi _=>M8 k i;have b:=(xG d).trans g;refine(I.irr q d).Lq e ((b.sub a).pO ?_);generalize nU y (λi=>h^i) n=x;generalize con p (sm n λi=>y i*s^i)=z;grind
def aa8 (d:jR p){l:List (Pl p)}(I:xY l)(m:ln (ls h)<=200)(s:Go (PL l) (fx h)){n:Nat}(o:ln l<n):∃y:Nat->Int,(∃i,i<n/\¬p ∣ y i)/\Go (PL l) (nU y (λi=>h^i) n):=by obtain⟨r,e⟩:=S6 d;obtain⟨y,h1,h2⟩:=dep d.1 e o λk j=>vl h (l.getD j 1)^k;refine⟨y,h1,Ox d I λq f=>?_⟩;obtain⟨j,g,rfl⟩:=bO.mp f;have ok:=(Qc d (I.irr _ f) m ((xG f).trans s)).2.2;have a:=yM (q:=l[j]) (c:=y) (v:=λi=>vl h l[j]^i) (E:=λi=>h^i) (n:=n) λi _=>M8 ok i;have b:=h2 j g;rw[show l.getD j 1=l[j] by rw[gQ,ac g];rfl]at b;rw[N6 b]at a;exact a.pO (by generalize nU y (λi=>h^i) n=x;grind)
def Qa (x:Pl p):x^0=1:=rfl
def yg (x:Pl p)(k:Nat):x^(k+1)=x^k*x:=rfl
def Z5 (h:lX p d a b):Go (mk p d) (mk p a-mk p b):=by
 obtain⟨Q,h⟩:=h;refine⟨mk p Q,?_⟩;show mk p a + -mk p b=mk p Q*mk p d;rw[yV,m8,lM];refine lZ.mpr λn=>?_;rw[jJ,j8,jx];have e:a.getD n 0 + -1*b.getD n 0-cm Q d n=a.getD n 0-b.getD n 0-cm Q d n:=by lia
 rw[e];exact h n
def xU (a:jR p)(mg:Mo G)(h:ln (ls G)<=200)(f:Li):Go G (mk p f-mk p (rm p (ls G) f))/\Oo p (ls G) (rm p (ls G) f):=by obtain⟨_,_,r,e⟩:=mU (Di a mg h) f;rw[rW]at r e;have:=Z5 e;rw[jV]at this;exact⟨this,r⟩
def Zo (m:Int)(r:Li):mk p (wd m r)=mk p r:=ext λn=>yR m r n
def Go.flip {a b c:Pl p}(h:Go a (b-c)):Go a (c-b):=by obtain⟨u,e⟩:=h;exact⟨-u,by grind⟩
def Go.ch {a b c d:Pl p}(h:Go a (b-c))(k:Go a (c-d)):Go a (b-d):=(h.add k).pO (by grind)
def Lw (d:jR p)(mg:Mo G)(c:ln (ls G)<=200)(f:Li)(h:k<n):Go G (mk p ((jZ p (ls G) f n).getD k [])-mk p f^k)/\ln ((jZ p (ls G) f n).getD k [])=ln (ls G)-1:=by rw[Ir h,Zo];obtain⟨a,b⟩:=xU d mg c (pw f k);rw[tM]at a;refine⟨a.flip,?_⟩;have:=b.len;have:=wL (m:=(ln (ls G):Int)-1) (r:=rm p (ls G) (pw f k)) (by lia);lia
def Ba (c:Nat->Int)(E F:Nat->Pl p):∀n,nU c E n-nU c F n=nU c (λk=>E k-F k) n
 |0=>by show(0:Pl p)-0=0;grind
 |n+1=>by have:=Ba c E F n;show(nU c E n+con p (c n)*E n)-(nU c F n+con p (c n)*F n)=nU c (λk=>E k-F k) n+con p (c n)*(E n-F n);rw[<- this];generalize nU c E n=a;generalize nU c F n=b;grind
def G8 {g:Pl p}{c:Nat->Int}{E:Nat->Pl p}:∀{n:Nat},(∀k,k<n->Go g (E k))->Go g (nU c E n)
 |0,_=>Go.zero g
 |n+1,h=>(G8 λk a=>h k (by lia)).add ((h n (by lia)).mul _)
def KD (h:jR p)(c:Nat->Int)(E:Nat->Pl p):∀n,nU c E n^p.toNat=nU c (λk=>E k^p.toNat) n
 |0=>by have:=yD h 0;exact this
 |n+1=>by show(nU c E n+con p (c n)*E n)^p.toNat=nU c (λk=>E k^p.toNat) n+con p (c n)*E n^p.toNat;rw[Cu h,KD h c E n,mul_pow,yD h]
def vz {c:Nat->Int}{r:Nat->List Int}{E:Nat->Pl p}{n:Nat}(h:∀k,k<n->E k=mk p (r k))(j:Nat):p ∣ (ls (nU c E n)).getD j 0-sm n λk=>c k*(r k).getD j 0:=by
 have a:=Ai c E j n;have b:p ∣ (sm n λk=>c k*(ls (E k)).getD j 0)-sm n λk=>c k*(r k).getD j 0:=by rw[<- wZ];refine oG λk d=>?_;rw[<- cr];exact aL (uv (h k d) j)
 have:=aU a b
 rwa [show ∀x y z:Int,x-y+(y-z)=x-z from λx y z=>by lia]at this
def xx (p:Int):Pl p:=mk p [0,1]
def ux (k:Nat):List Int:=List.replicate k 0++[1]
def ud:∀k j:Nat,(ux k).getD j 0=if j=k then 1 else 0
 |0,0=>rfl
 |0,j+1=>by rw[ae (by lia)];rfl
 |k+1,0=>by rw[ae (by lia)];rfl
 |k+1,j+1=>by
  have e:(ux (k+1)).getD (j+1) 0=(ux k).getD j 0:=rfl;rw[e,ud k j];by_cases c:j=k
  .rw[af c,af (by lia)]
  .rw[ae c,ae (by lia)]
def zc:∀k:Nat,xx p^k=mk p (ux k)
 |0=>rfl
 |k+1=>by
  rw[yg,zc k];refine ext λn=>?_;rw[jx,jN,oK,ud (k+1) n];cases n with
  |zero=>rw[af rfl,ae (by lia)];lia
  |succ n=>
   rw[ae (by lia),fq,oK,lY,ud k n];by_cases c:n=k
   .rw[af c,af (show n+1=k+1 by lia)];split<;>lia
   .rw[ae c,ae (show ¬n+1=k+1 by lia)];split<;>lia
def Vy (c:Nat->Int)(j n:Nat):(sm n λk=>c k*(ux k).getD j 0)=if j<n then c j else 0:=by
 by_cases h:j<n
 .rw[af h,qL (k:=j) h λi _ a=>by rw[ud,ae (cw a),aQ],ud,af rfl,bG]
 .rw[ae h];exact m9 λi b=>by rw[ud,ae (by lia),aQ]
def Uu (y:Li)(a:ln y<=n):mk p y=nU (λk=>y.getD k 0) (λk=>xx p^k) n:=by
 have h:=λj=>vz (p:=p) (c:=λk=>y.getD k 0) (r:=ux) (E:=λk=>xx p^k) (n:=n) (λk _=>zc k) j;rw[<- jV (nU (λk=>y.getD k 0) (λk=>xx p^k) n)];refine lZ.mpr λj=>?_;have:=h j;rw[Vy]at this;by_cases c:j<n
 .rw[af c]at this;have e:y.getD j 0-(ls (nU (λk=>y.getD k 0) (λk=>xx p^k) n)).getD j 0 = -((ls (nU (λk=>y.getD k 0) (λk=>xx p^k) n)).getD j 0-y.getD j 0):=by lia
  rw[e];exact aV.mpr this
 .rw[ae c]at this;rw[jz (xs:=y) (by lia)];have e:0-(ls (nU (λk=>y.getD k 0) (λk=>xx p^k) n)).getD j 0 = -((ls (nU (λk=>y.getD k 0) (λk=>xx p^k) n)).getD j 0-0):=by lia
  rw[e];exact aV.mpr this
def Ui (a:2<=p)(h:p ∣ x)(k:pl p x=x):x=0:=by rw[lJ (by lia)]at k;rw[<- k];exact bU h
def Hn (d:2<=p){c:Nat->Int}{r:Nat->List Int}{E:Nat->Pl p}{N n:Nat}(h:∀k,k<N->E k=mk p (r k))(z:∀k,k<N->∀j,n<=j->(r k).getD j 0=0):ln (ls (nU c E N))<=n:=m5 (kO _).form λj a=>by have:=vz h j (c:=c);rw[m9 λk b=>by rw[z k b j a,aQ],aJ]at this;exact Ui d this ((kO _).red j)
def O8 (a:2<=p){c:Nat->Int}{r:Nat->List Int}{E:Nat->Pl p}{N:Nat}(h:∀k,k<N->E k=mk p (r k))(z:∀j,p ∣ sm N λk=>c k*(r k).getD j 0):nU c E N=0:=by
 rw[<- jV (nU c E N),uW];refine lZ.mpr λj=>?_;rw[DQ,aJ];have:=aU (vz h j (c:=c)) (z j)
 rwa [dJ]at this
def Qg {c:Nat->Int}{r:Nat->List Int}{E:Nat->Pl p}{N:Nat}(h:∀k,k<N->E k=mk p (r k))(e:nU c E N=0)(j:Nat):p ∣ sm N λk=>c k*(r k).getD j 0:=by
 have:=vz h j (c:=c);rw[e]at this;have z:p ∣ (ls (0:Pl p)).getD j 0:=by have:=uv (x:=(0:Pl p)) uW j;rw[DQ,aJ]at this;exact this
 have:=dj z this
 rwa [show ∀x y:Int,x-(x-y)=y from λx y=>by lia]at this
def M4 {g a b:Pl p}(h:Go g (a-b)):∀k:Nat,Go g (a^k-b^k)
 |0=>(Go.zero g).pO (by show(0:Pl p)=1-1;grind)
 |k+1=>by have:=M4 h k;rw[yg,yg];refine((this.Xb a).add (h.mul (b^k))).pO ?_;generalize a^k=x;generalize b^k=y;grind
def G7 (x:Pl p)(a:Nat):∀b:Nat,(x^a)^b=x^(a*b)
 |0=>rfl
 |b+1=>by rw[yg,G7 x a b,jj,pow_add]
def Ff (i:jR p){G:Pl p}(mg:Mo G)(v:ln (ls G)<=200)(h2:2<=ln (ls G)){t:Tab}(K:zO p (ln (ls G)-1) (ln (ls G)-1) (j9 p (qT p (ls G))) t):Yt G t:=by
 have A:2<=p:=i.1;have N:ln (qT p (ls G))=ln (ls G)-1:=nG ..;have u:∀k,k<ln (ls G)-1->Go G (mk p ((qT p (ls G)).getD k [])-mk p (rm p (ls G) (pw [0,1] p.toNat))^k)/\ln ((qT p (ls G)).getD k [])=ln (ls G)-1:=λk b=>Lw i mg v _ b;have L:Go G (mk p (rm p (ls G) (pw [0,1] p.toNat))-xx p^p.toNat):=by have:=(xU i mg v (pw [0,1] p.toNat)).1.flip;rw[tM]at this;exact this
 have f:∀k,k<ln (ls G)-1->∀j,p ∣ ent (j9 p (qT p (ls G))) k j-((kJ ((qT p (ls G)).getD k []) (zJ (-1) (ux k))).getD j 0):=λk b j=>by
  unfold ent;rw[Be (by lia),jJ,j8,ud];have O:=(u k b).2;by_cases c:j=k
  .subst c;rw[af rfl,gQ,fA (by lia)];have:=lR p (((qT p (ls G)).getD j []).getD j 0-1)
   rwa [show ∀x y:Int,x-(y + -1*1)=x-(y-1) from λx y=>by lia]
  .rw[ae c,gQ,eC (cw c),<- gQ];rw[show ∀x:Int,x-(x + -1*0)=0 from λx=>by lia];exact aS p
 have o:∀k,k<ln (ls G)-1->mk p ((qT p (ls G)).getD k [])-xx p^k=mk p (kJ ((qT p (ls G)).getD k []) (zJ (-1) (ux k))):=λk _=>by rw[zc,<- m8,<- yV];rfl
 have B:∀k,k<ln (ls G)-1->∀j,ln (ls G)-1<=j->(kJ ((qT p (ls G)).getD k []) (zJ (-1) (ux k))).getD j 0=0:=λk b j J=>by rw[jJ,j8,ud,ae (by lia),jz (by rw[(u k b).2];exact J)];rfl
 have g:∀c:Nat->Int,Go G (fx (nU c (λk=>xx p^k) (ln (ls G)-1))-nU c (λk=>mk p ((qT p (ls G)).getD k [])-xx p^k) (ln (ls G)-1)):=λc=>by
  have C:fx (nU c (λk=>xx p^k) (ln (ls G)-1))-nU c (λk=>mk p ((qT p (ls G)).getD k [])-xx p^k) (ln (ls G)-1)=nU c (λk=>(xx p^k)^p.toNat-mk p ((qT p (ls G)).getD k [])) (ln (ls G)-1):=by unfold fx;rw[KD i,<- Ba,<- Ba];generalize nU c (λk=>xx p^k) (ln (ls G)-1)=x;generalize nU c (λk=>(xx p^k)^p.toNat) (ln (ls G)-1)=y;generalize nU c (λk=>mk p ((qT p (ls G)).getD k [])) (ln (ls G)-1)=z;grind
  rw[C];refine G8 λk b=>?_;have a:=(u k b).1.ch (M4 L k);rw[G7,da,<- G7]at a;exact a.flip
 have d:∀c:Nat->Int,(∀j,j<ln (ls G)-1->p ∣ sm (ln (ls G)-1) λk=>c k*ent (j9 p (qT p (ls G))) k j) ↔ nU c (λk=>mk p ((qT p (ls G)).getD k [])-xx p^k) (ln (ls G)-1)=0:=λc=>by
  have both:∀j,p ∣ (sm (ln (ls G)-1) λk=>c k*ent (j9 p (qT p (ls G))) k j)-sm (ln (ls G)-1) λk=>c k*(kJ ((qT p (ls G)).getD k []) (zJ (-1) (ux k))).getD j 0:=λj=>by rw[<- wZ];refine oG λk b=>?_;rw[<- cr];exact aL (f k b j)
  constructor
  .intro h;refine O8 A o λj=>?_;by_cases q:j<ln (ls G)-1
   .have:=dj (h j q) (both j)
    rwa [show ∀x y:Int,x-(x-y)=y from λx y=>by lia]at this
   .rw[m9 λk b=>by rw[B k b j (by lia),aQ]];exact aS p
  .intro h j _;have:=aU (both j) (Qg o h j)
   rwa [dJ]at this
 refine⟨λy l=>?_,λy l=>by rw[K.len y l];lia,λe F M=>?_⟩
 .have s:=(d λk=>y.getD k 0).mp (K.nul y l);have k:=g λk=>y.getD k 0;rw[s,<- Uu y (by rw[K.len y l];exact aj _)]at k;exact k.pO (by generalize fx (mk p y)=a;grind)
 .have D:e=nU (λk=>(ls e).getD k 0) (λk=>xx p^k) (ln (ls G)-1):=by rw[<- Uu (ls e) (by lia),jV]
  have k:=g λk=>(ls e).getD k 0;rw[<- D]at k;have H:=(F.sub k).pO (c:=nU (λk=>(ls e).getD k 0) (λk=>mk p ((qT p (ls G)).getD k [])-xx p^k) (ln (ls G)-1)) (by
   generalize nU (λk=>(ls e).getD k 0) (λk=>mk p ((qT p (ls G)).getD k [])-xx p^k) (ln (ls G)-1)=a;grind)
  have z:=t8 mg H (by
   have:=Hn A (c:=λk=>(ls e).getD k 0) o B;lia)
  obtain⟨c,I⟩:=K.span (λk=>(ls e).getD k 0) ((d _).mpr z);refine⟨c,?_⟩;rw[<- jV e,<- jV (nU c (λk=>mk p (t.getD k [])) (ln t))];refine lZ.mpr λj=>?_;have m:=vz (p:=p) (c:=c) (r:=λk=>t.getD k []) (E:=λk=>mk p (t.getD k [])) (n:=ln t) (λk _=>rfl) j;by_cases q:j<ln (ls G)-1
  .have:=dj (I j q) m
   rwa [show ∀x y z:Int,x-y-(z-y)=x-z from λx y z=>by lia]at this
  .rw[m9 λk b=>by rw[jz (xs:=t.getD k []) (by rw[K.len _ (by rw[gQ,ac b];exact bK b)];lia),aQ],aJ]at m;rw[jz (xs:=ls e) (by lia),Int.zero_sub];exact aV.mpr m
def Zt (x:Int):∀y:List Int,ev y x=sm (ln y) λi=>y.getD i 0*x^i
 |[]=>rfl
 |n::r=>by
  rw[aR,dR,ym];have e:(sm (ln r) λi=>(n::r).getD (1+i) 0*x^(1+i))=x*sm (ln r) λi=>r.getD i 0*x^i:=by rw[<- oA];refine jG λi _=>?_;rw[dR 1 i,iA];show r.getD i 0*(x^i*x)=_;rw[<- bH,cg]
  have a:(sm 1 λi=>(n::r).getD i 0*x^i)=n:=by show 0+n*x^0=n;rw[jm];lia
  rw[e,a,<- Zt x r];rfl
def QV (e:jR p){l:List (Pl p)}(I:xY l)(D:ln (ls (PL l))<=200)(A:ln h<=200)(H:Go (PL l) (fx (mk p h))){N:Nat}(F:ln l<N){t:Tab}(K:zO p N (ln (ls (PL l))-1) (jZ p (ls (PL l)) h N) t) :
  0<ln t/\∀y∈t,∀q∈l,∀s:Int,Go q (mk p h-con p s)->p ∣ ev y s:=by
 have f:2<=p:=e.1;have mg:=I.mo f;have r:∀k,k<N->Go (PL l) (mk p ((jZ p (ls (PL l)) h N).getD k [])-mk p h^k)/\ln ((jZ p (ls (PL l)) h N).getD k [])=ln (ls (PL l))-1:=λk d=>Lw e mg D h d;have u:∀k,k<N->∀j,ln (ls (PL l))-1<=j->((jZ p (ls (PL l)) h N).getD k []).getD j 0=0:=λk d j C=>jz (by rw[(r k d).2];exact C);have n:∀c:Nat->Int,Go (PL l) (nU c (λk=>mk p ((jZ p (ls (PL l)) h N).getD k [])) N-nU c (λk=>mk p h^k) N):=λc=>by rw[Ba];exact G8 λk d=>(r k d).1
 have pos:=mg.pos;constructor
 .obtain⟨y,⟨i,B,nd⟩,x⟩:=aa8 e I (by rw[qg];exact aA (lA p h) A) H F;have v:=((n y).add x).pO (c:=nU y (λk=>mk p ((jZ p (ls (PL l)) h N).getD k [])) N) (by
   generalize nU y (λk=>mk p ((jZ p (ls (PL l)) h N).getD k [])) N=a;generalize nU y (λk=>mk p h^k) N=b;grind)
  have z:=t8 mg v (by
   have:=Hn f (c:=y) (E:=λk=>mk p ((jZ p (ls (PL l)) h N).getD k [])) (λk _=>rfl) u;lia)
  exact K.ne (λj _=>Qg (E:=λk=>mk p ((jZ p (ls (PL l)) h N).getD k [])) (λk _=>rfl) z j) B nd
 .intro y m q G s g;have z:nU (λk=>y.getD k 0) (λk=>mk p ((jZ p (ls (PL l)) h N).getD k [])) N=0:=O8 f (λk _=>rfl) λj=>by
   by_cases c:j<ln (ls (PL l))-1
   .exact K.nul y m j c
   .rw[m9 λk d=>by rw[u k d j (by lia),aQ]];exact aS p
  have o:=n λk=>y.getD k 0;rw[z]at o;have:=YH e I (y:=λk=>y.getD k 0) (o.flip.pO (by
   generalize nU (λk=>y.getD k 0) (λk=>mk p h^k) N=b;grind)) G g
  rw[Zt,K.len y m];exact this
end Pl
def I8 (p:Int)(h a:List Int)(b:List (List Int)):List (List Int):=b.flatMap λc=>(a.map λs=>gc p c (Tz p (kJ h ([s].map λn=>-n)))).filter λf=>decide (1<ln f)
def tH (p:Int)(t:Tab)(nm:List Int->List Int)(g:List Int):Nat->List (List Int)
 |0=>[g]
 |i+1=>if ln (tH p t nm g i)<ln t then I8 p (t.getD i []) (nm (t.getD i [])) (tH p t nm g i) else tH p t nm g i
def Gm (p:Int)(r:List Int):List Int:=((List.range p.toNat).filter λ(k:Nat)=>decide (pl p (ev r (k:Int))=0)).map λ(k:Nat)=>(k:Int)
namespace Pl
variable {p:Int}
def Xz (h:Li)(s:Int):Tz p (kJ h ([s].map λn=>-n))=ls (mk p h-con p s):=by have e:mk p h-con p s=mk p (kJ h (zJ (-1) [s])):=rfl;rw[e,qg];congr 2;show[-s]=[-1*s];rw[iZ,cj]
def XH (a:2<=p){c:List (Pl p)}(I:∀q∈c,wC q):(1<ln (ls (PL c))) ↔ 0<ln c:=by
 have d:=Bt a I;constructor
 .intro h;cases c with
  |nil=>
   have:ln (ls (PL ([]:List (Pl p))))=1:=by show ln (ls (1:Pl p))=1;rw[uO a];rfl
   lia
  |cons _ _=>exact fe _
 .intro h;lia
def U9 (d:jR p)(I:xY l)(j:ln h<=200)(t:Go (PL l) (fx (mk p h)))(b:∀s∈nums,0<=s/\s<p):∀{cls:List (List (Pl p))},(∀c∈cls,(∀q∈c,q∈l)/\c.Nodup) ->
  I8 p h nums (cls.map λc=>ls (PL c))=(taC (mk p h) nums cls).map λc=>ls (PL c)
 |[],_=>rfl
 |c::cls,hc=>by
  have r:2<=p:=d.1;obtain⟨e,nd⟩:=hc c ah;have i:=I.sub e nd;have g:∀q∈c,Go q (fx (mk p h)):=λq a=>(xG (e q a)).trans t;have A:ln (ls (mk p h))<=200:=by rw[qg];exact aA (lA p h) j
  have o:=U9 d I j t b (cls:=cls) λv y=>hc v (ad _ y);unfold I8 taC at o ⊢;rw[bN,cX,cX,bF,<- o];congr 1;unfold taN;have x:(nums.map λs=>gc p (ls (PL c)) (Tz p (kJ h ([s].map λn=>-n))))=(nums.map λs=>c.filter λq=>decide (vl (mk p h) q=s)).map λf=>ls (PL f):=by rw[bD];refine bV λs k=>?_;have u:=i.sub (m:=c.filter λq=>decide (vl (mk p h) q=s)) (λq a=>(aW.mp a).1) (nd.filter _);rw[Xz];exact Fp (acs d i A (by decide) g (b s k).1 (b s k).2) (u.mo r)
  rw[x,iu];congr 1;refine fG λf z=>?_;obtain⟨s,_,rfl⟩:=aY.mp z;exact decide_eq_decide.mpr (XH r λq a=>I.irr q (e q (aW.mp a).1))
structure Vr (l:List (Pl p))(t:Tab)(nm:List Int->List Int):Prop where
 nd:∀h∈t,(nm h).Nodup
 bd:∀h∈t,∀s∈nm h,0<=s/\s<p
 all:∀h∈t,∀q∈l,vl (mk p h) q∈nm h
def Gs {t:Tab}{k:Nat}(h:k<ln t):t.getD k []∈t:=by rw[gQ,ac h];exact bK h
def Cq (m:jR p){l:List (Pl p)}(I:xY l)(ne:l≠[]){t:Tab}(K:Yt (PL l) t){nm:List Int->List Int}(N:Vr l t nm):∀i,i<=ln t ->
  ∃cls H,Cls l H cls/\tH p t nm (ls (PL l)) i=cls.map (λc=>ls (PL c))/\(ln t<=ln cls\/∀k,k<i->mk p (t.getD k [])∈H)
 |0,_=>⟨[l],[],Cls.start ne,rfl,.inr λk j=>absurd j (cJ k)⟩
 |i+1,hi=>by
  obtain⟨cls,H,C,e,f⟩:=Cq m I ne K N i (by lia);have h:t.getD i []∈t:=Gs (by lia);have d:ln (tH p t nm (ls (PL l)) i)=ln cls:=by rw[e,aa]
  show ∃cls H,Cls l H cls/\(if ln (tH p t nm (ls (PL l)) i)<ln t then I8 p (t.getD i []) (nm (t.getD i [])) (tH p t nm (ls (PL l)) i) else tH p t nm (ls (PL l)) i)=_/\_;by_cases c:ln (tH p t nm (ls (PL l)) i)<ln t
  .rw[af c];refine⟨taC (mk p (t.getD i [])) (nm (t.getD i [])) cls,mk p (t.getD i [])::H,C.step (N.nd _ h) (N.all _ h),?_,.inr λk j=>?_⟩
   .rw[e];refine U9 m I (K.len _ h) (K.st _ h) (N.bd _ h) λc g=>⟨λq o=>C.mem g o,?_⟩;have nd:cls.flatten.Nodup:=(C.pm.nodup_iff).mpr I.nd;obtain⟨a,b,n⟩:=List.append_of_mem g;rw[n,eW,bR]at nd;exact(gU.mp (gU.mp nd).2.1).1
   .by_cases z:k=i
    .rw[z];exact ah
    .rcases f with f|f
     .rw[d]at c;lia
     .exact ad _ (f k (by lia))
  .rw[ae c];exact⟨cls,H,C,e,.inl (by rw[d]at c;lia)⟩
def Ud (h:jR p){l:List (Pl p)}(I:xY l)(b:ln (ls (PL l))<=200)(ne:l≠[]){t:Tab}(K:Yt (PL l) t){nm:List Int->List Int}(N:Vr l t nm):(tH p t nm (ls (PL l)) (ln t)).Perm (l.map ls):=by
 obtain⟨cls,H,C,e,f⟩:=Cq h I ne K N (ln t) (aj _);have a:(cls.map λc=>ls (PL c))=(cls.map PL).map ls:=by rw[bD];rfl
 rw[e,a];exact(C.fin h I b K f).map ls
def U3 (k:jR p){l:List (Pl p)}(I:xY l)(ne:l≠[]){t:Tab}(K:Yt (PL l) t){nm:List Int->List Int}(N:Vr l t nm){i:Nat}(v:i<=ln t):(∀f∈tH p t nm (ls (PL l)) i,Fo p f/\ln f<=ln (ls (PL l)))/\ln (tH p t nm (ls (PL l)) i)<=ln l:=by
 have d:2<=p:=k.1;obtain⟨cls,H,C,e,_⟩:=Cq k I ne K N i v;constructor
 .intro f j;rw[e]at j;obtain⟨c,u,rfl⟩:=aY.mp j;refine⟨kO _,?_⟩;obtain⟨a,b,s⟩:=List.append_of_mem u;have g:(c++(a++b).flatten).Perm l:=by refine List.Perm.trans ?_ C.pm;rw[s,eW,eW,bR];rw[<- cV,<- cV];exact List.Perm.append_right _ List.perm_append_comm
  have r:PL l=PL (a++b).flatten*PL c:=by rw[<- Oi g,Vm,mul_comm]
  have n:∀q∈(a++b).flatten,wC q:=λq h=>I.irr q (g.mem_iff.mp (aP _ h));have o:∀q∈c,wC q:=λq h=>I.irr q (g.mem_iff.mp (cQ _ h));have m:=Kr d λq h=>(n q h).mo;have:=Mo.len d m (Kr d λq h=>(o q h).mo);rw[<- r]at this;have:=m.pos;lia
 .rw[e,aa,<- C.pm.length_eq];exact(CG C.ne).1
def abZ (i:jR p){l:List (Pl p)}(I:xY l){t:Tab}(K:Yt (PL l) t){r:List Int->List Int}(h:∀h∈t,∀q∈l,∀s:Int,Go q (mk p h-con p s)->p ∣ ev (r h) s):Vr l t λh=>Gm p (r h):=by
 have n:2<=p:=i.1;refine⟨λh _=>?_,λh _ s m=>?_,λy g q f=>?_⟩
 .unfold Gm;refine dZ _ (λa b c e=>c ?_) (hV.filter _);lia
 .obtain⟨k,j,rfl⟩:=aY.mp m;have:=aX.mp (aW.mp j).1;lia
 .have ly:ln (ls (mk p y))<=200:=by rw[qg];exact aA (lA p y) (K.len y g)
  obtain⟨o,u,v⟩:=Qc i (I.irr q f) ly ((xG f).trans (K.st y g));have d:=h y g q f _ v;refine aY.mpr ⟨(vl (mk p y) q).toNat,aW.mpr ⟨aX.mpr (by lia),?_⟩,by lia⟩;have e:(((vl (mk p y) q).toNat:Nat):Int)=vl (mk p y) q:=by lia
  rw[e,gE,lJ (by lia)];exact bU d
end Pl
def Xj {k:Nat}(h:k<ln f):qU f none (some (k:Int))++[y]++qU f (some ((k:Int)+1)) none=f.set k y:=by rw[Ow,show((k:Int)+1)=((k+1:Nat):Int) from rfl,vL,cV,List.singleton_append,List.set_eq_take_append_cons_drop,af h]
def zX:Ok P w K mg base 3 "row_less_one" ["kind","row","at"] (Ew K (ph U) (λas=>∃z r,∃a:Nat,as=[.ob 0 z,.ints r,.int (a:Int)]/\a<ln r/\ln r<=400) λas=>match as with|[.ob 0 z,.ints r,.int a]=>r.set a.toNat (pl z (r.getD a.toNat 0-1))|_=>[]):=by
 refine IV T.Ds zW (λ_ ⟨a,b,c,h,_⟩=>h▸rfl) (λf d A o s H E i=>⟨_,(jw (mD (uq (jM (uq (jM (rH (xl 1) pG (nR (xn 2)) (λ_ _=>.inl rfl))) (jM (kZ (jq (qR 0 (WL T) i (jq (lW 1 (xn 2) (λ_ _=>rfl)) (jq jt ju))) ju))))) (jM (rH (xl 1) (nR (lO (xn 2) jt)) pG (λ_ _=>.inl rfl)))))),λas g=>?_⟩);obtain⟨z,r,a,rfl,e,m⟩:=g;have k:=Do r none (some (a:Int));have l:=Do r (some ((a:Int)+1)) none;have j:lD (ln r) (a:Int)=a:=by unfold lD;rw[af (by lia)];lia
 refine⟨⟨⟨⟨rfl,tJ,rfl⟩,⟨⟨⟨rfl,⟨⟨.inl rfl,rfl,by show -(ln r:Int)<=(a:Int);lia,by show(a:Int)<(ln r:Int);lia⟩,tJ,tJ⟩,tJ,tJ⟩,tJ⟩,tJ⟩,bI (small1000 (by show ln (qU r none (some (a:Int)))+1<=1000;lia))⟩,⟨rfl,⟨rfl,tJ⟩,tJ⟩,bI (small1000 ?_)⟩,?_⟩
 .show(qU r none (some (a:Int))++[pl z (r.getD (lD (ln r) (a:Int)) 0-1)]).length+ln (qU r (some ((a:Int)+1)) none)<=1000;rw[ai,bv];lia
 .show qU r none (some (a:Int))++[pl z (r.getD (lD (ln r) (a:Int)) 0-1)]++qU r (some ((a:Int)+1)) none=r.set a (pl z (r.getD a 0-1));rw[Xj e,j]
def yu:Ok P w K mg base 1 "order_key" ["g"] (wV K (ph U) (λas=>∃g,as=[.ints g]) λas=>match as with|[.ints g]=>Yk g|_=>.non):=by
 refine uK T.K4 Iu (λ_ ⟨a,h⟩=>h▸rfl) (λf c A o s H E d=>⟨_,(jw (jD (oZ (jq (jU 0 T.jQ) (jq (xl 0) ju))))),λas b=>?_⟩);obtain⟨g,rfl⟩:=b;exact⟨⟨.inl rfl,rfl,tJ⟩,rfl⟩
def Q6 (p:Int)(rows:Tab):Tab:=yU (lE p (lK p) rows (jT rows)) (turnT p (lK p) rows (jT rows))
def yf (ok:Em p g)(h:k<n):ln ((jZ p (Tz p g) f n).getD k [])=ln (Tz p g)-1:=by rw[Ir h];obtain⟨_,_,i,_⟩:=mU ok (pw f k);have:=i.len;have:=wL (m:=(ln (Tz p g):Int)-1) (r:=rm p (Tz p g) (pw f k)) (by lia);lia
def Hx (ok:Em p g)(h:k<ln (Tz p g)-1):ln ((j9 p (qT p (Tz p g))).getD k [])=ln (Tz p g)-1:=by have q:ln (qT p (Tz p g))=ln (Tz p g)-1:=nG ..;rw[Be (by lia),bn];exact yf ok h
def p6:Ok P w K mg base 8 "powering_less_one" ["kind","g"] (wV K (ph U) (λas=>∃p g,as=[.ob 0 p,.ints g]/\Em p g/\ln (Tz p g)<=40) λas=>match as with|[.ob 0 p,.ints g]=>jA (j9 p (qT p (Tz p g)))|_=>.non):=by
 refine uK T.vQ vy (λ_ ⟨a,b,h,_⟩=>h▸rfl) (λf j A o s H E d=>⟨_,(jw (jD (uJ (N7 (N':=["at","row","kind"]) (cap:=[some 0]) (nQ rfl rfl rfl rfl ⟨⟨rfl,.inr (.inl rfl),w5,.inl rfl,_,rfl,rfl⟩,tJ⟩ ⟨rfl,tJ⟩ rfl) rfl (by rfl) T.mO (nA (xc (Ka T) d (jq (xv 0) (jq (xl 1) ju)))) (λ_ _ _=>(pg_tup rfl (pgs_cons (oW 0) (pgs_cons (oW 1) pgs_nil)))) (λ_ _ _=>(jM (pD (zX T) d (jq (xv 2) (jq (xl 1) (jq (xn 0) ju)))))))))),λas t=>?_⟩);obtain⟨p,g,rfl,ok,l⟩:=t;have v:ln (qT p (Tz p g))=ln (Tz p g)-1:=nG ..;have r:∀k,k<ln (Tz p g)-1->ln ((qT p (Tz p g)).getD k [])=ln (Tz p g)-1:=λk n=>yf ok n;refine⟨⟨⟨⟨⟨rfl,rfl,tJ⟩,p,g,rfl,ok,l⟩,rfl⟩,?_,λi q c=>?_⟩,?_⟩
 .show ln ((qT p (Tz p g)).map PV.ints)<=1000;rw[aa];lia
 .have c:((qT p (Tz p g)).map PV.ints)[i]?=some q:=c;rw[aq]at c;obtain⟨x,e,rfl⟩:=bX.mp c;have u:=(ao.mp e).1;have m:(qT p (Tz p g)).getD i []=x:=by rw[gQ,e];rfl
  have:=r i (by lia);rw[m]at this;exact⟨⟨rfl,rfl,rfl,tJ⟩,p,x,i,rfl,by lia,by lia⟩
 .refine congrArg PV.lst (dY λi=>?_);show(((qT p (Tz p g)).map PV.ints).mapIdx _)[i]?=((j9 p (qT p (Tz p g))).map PV.ints)[i]?;unfold j9;rw[cu,aq,aq,cu];cases (qT p (Tz p g))[i]? <;> rfl
def aaT (h:jR p)(c:ln rows=N)(b:0<N)(a:∀i,i<N->ln (rows.getD i [])=W):jT rows=W/\zO p N W rows (Q6 p rows):=by have e:jT rows=W:=a 0 b;refine⟨e,?_⟩;unfold Q6;rw[e];exact Th h.1 (λx h0 h1=>(zm h x h0 h1).2) c a
def sI (p:Int)(g h:List Int)(n:Nat):List Int:=(Q6 p (jZ p (Tz p g) h (n+1))).getD 0 []
def vR:Ok P w K mg base 7 "possible_numbers" ["kind","h","count","g"] (Ew K (ph U) (λas=>∃p h,∃n:Nat,∃g,as=[.ob 0 p,.ints h,.int (n:Int),.ints g]/\Em p g/\ln h<=50/\Bd h/\ln (Tz p g)<=40/\n<=50/\0<ln (Q6 p (jZ p (Tz p g) h (n+1)))) λas=>match as with|[.ob 0 p,.ints h,.int n,.ints g]=>Gm p (sI p g h n.toNat)|_=>[]):=by
 refine IV T.wQ qC (λ_ ⟨a,b,c,d,h,_⟩=>h▸rfl) (λf L A C s H E v=>⟨_,(jr (jE (i:=4) qC.nd rfl (Or.inr rfl) (xl_of (jC (xc (Gf T) v (jq (xv 0) (jq (xc (wB T) v (jq (xv 0) (jq (xl 1) (jq (lO (xn 2) jt) (jq (xl 3) ju))))) ju))) jt (λ_ _=>rfl)))) (jw (mD (WK (N':=["number","kind","relation"]) (cap:=[some 0,some 4]) (nQ rfl rfl rfl rfl ⟨⟨rfl,.inr (.inl rfl),w5,.inl rfl,_,rfl,rfl⟩,⟨⟨rfl,.inr (.inl rfl),w5,.inl rfl,_,rfl,rfl⟩,tJ⟩⟩ ⟨rfl,⟨rfl,tJ⟩⟩ rfl) rfl (by rfl) T.mZ (Hs (ksz T) (xv 0)) (λ_ _ _=>(oW 0)) (λ_ _ _=>(vZ (Zy (S8 T) v (jq (xv 1) (jq (xl 2) (jq (xn 0) ju)))) jt)) (λ_ _ _=>(xn 0)))))),λas S=>?_⟩)
 obtain⟨p,h,n,g,rfl,ok,Q,O,gl,nl,pos⟩:=S;have p2:2<=p:=ok.pr.1;have p3:p<=9973:=ok.pr.2.1;have Z:ln (jZ p (Tz p g) h (n+1))=n+1:=nG ..;have J:∀i,i<n+1->ln ((jZ p (Tz p g) h (n+1)).getD i [])=ln (Tz p g)-1:=λi o=>yf ok o;obtain⟨N,G⟩:=aaT ok.pr Z (fe n) J;have u:((n:Int)+1)=((n+1:Nat):Int):=by lia
 have M:jA (jZ p (Tz p g) h ((n:Int)+1).toNat)=jA (jZ p (Tz p g) h (n+1)):=by rw[u,aD]
 have q:jA (yU (lE p (lK p) (((jZ p (Tz p g) h ((n:Int)+1).toNat).map PV.ints).map kW) (jT (((jZ p (Tz p g) h ((n:Int)+1).toNat).map PV.ints).map kW))) (turnT p (lK p) (((jZ p (Tz p g) h ((n:Int)+1).toNat).map PV.ints).map kW) (jT (((jZ p (Tz p g) h ((n:Int)+1).toNat).map PV.ints).map kW))))=jA (Q6 p (jZ p (Tz p g) h (n+1))):=by rw[mW,u,aD];rfl
 have Y:∀t,t=jA (Q6 p (jZ p (Tz p g) h (n+1)))->nF t 0:=λt e=>by rw[e];exact xq (i:=0) pos
 have x:∀t,t=jA (Q6 p (jZ p (Tz p g) h (n+1)))->m7 t 0=.ints (kW (m7 t 0)):=λt e=>by rw[e];exact wH (i:=0) pos
 have y:∀t,t=jA (Q6 p (jZ p (Tz p g) h (n+1)))->kW (m7 t 0)=sI p g h n:=λt e=>by rw[e];exact Dj (i:=0) pos
 refine⟨⟨⟨⟨⟨rfl,⟨⟨rfl,rfl,⟨rfl,tJ⟩,rfl,tJ⟩,p,h,n+1,g,?_,ok,Q,O,by lia,by lia⟩,tJ⟩,p,jZ p (Tz p g) h (n+1),?_,ok.pr,by lia,by lia,λi o=>?_⟩,tJ,?_⟩,?_⟩,λr j=>?_⟩
 .show[PV.ob 0 p,.ints h,.int ((n:Int)+1),.ints g]=_;rw[u]
 .exact congrArg (λt=>[PV.ob 0 p,t]) M
 .rw[N];exact J i (by lia)
 .exact Y _ q
 .exact x _ q
 have j:r=sI p g h n:=j.trans (y _ q);have rm:sI p g h n∈Q6 p (jZ p (Tz p g) h (n+1)):=Pl.Gs pos;have D:=G.red _ rm;have l:ln r<=80:=by rw[j,G.len _ rm];lia
 have F:∀m∈r,m.natAbs<=2^200:=λm R=>by
  obtain⟨i,o,rfl⟩:=bO.mp R;have:=D i;rw[<- j,gQ,ac o]at this;have b:=BW (z:=p) (n:=r[i]) (by lia);have this:pl p r[i]=r[i]:=this;rw[this]at b;have:r[i].natAbs<=10000:=by lia
  exact aA this (by decide)
 refine jL (Z':=[.fr (.ob 0 p),k7 h,k6 (n:Int),k7 g,k7 r]) rfl ?_;refine⟨⟨⟨rfl,rfl⟩,⟨by show(0:Int)<=p;lia,by show p<=(10000:Int);lia⟩,λk I=>?_⟩,?_⟩
 .have I:k<p.toNat:=I;refine⟨⟨⟨⟨rfl,rfl,rfl,tJ⟩,p,r,(k:Int),rfl,by lia,?_,l,?_,F⟩,tJ⟩,λ_=>rfl⟩
  .have:(10000:Int)<((2^9000:Nat):Int):=Int.ofNat_lt.mpr (aF (show 10000<2^14 by decide) (cS (by decide) (by decide)));generalize ((2^9000:Nat):Int)=B at *
   lia
  .have:(k:Int).natAbs<=10000:=by lia
   exact aA this (by decide)
 .show List.map _ (List.filter _ (List.range p.toNat))=Gm p (sI p g h ((n:Int)).toNat);rw[aD,<- j];rfl
def F08:List PV->PV|[.ob 0 p,.lst l,.ints h,.ints g]=>jA (I8 p h g (l.map kW))|_=>.non
def Ec:Ok P w K mg base 6 "told_apart" ["kind","pieces","h","numbers"] (wV K (ph U) (λas=>∃p l h g,as=[.ob 0 p,jA l,.ints h,.ints g]/\jR p/\ln l<=100/\(∀f∈l,ln f<=200)/\ln h<=100/\ln g<=10000) F08):=by
 refine uK T.IK oO (λ_ ⟨a,b,c,d,h,_⟩=>h▸rfl) (λf O A I s H E L=>⟨_,(jr (sY (i:=4) oO.nd rfl k4 (ut ju)) (jr (tE (k:=5) aB rfl (nA (xv 1)) oO.nd rfl k4 (jw (Bl (k:=6) aB rfl (xl 3) oO.nd rfl k4 (jr (jE (i:=7) oO.nd rfl k4 (jM (pD (yS T) L (jq (xv 0) (jq (xl 5) (jq (jM (pD (Ak T) L (jq (xv 0) (jq (xl 2) (jq (jM (kZ (jq (xn 6) ju))) ju))))) ju)))))) (jw (lF (uM (jU 7 T.jQ) jt) (jw (sX 4 (xl 7))) j6)))))) (lB 4 (jw (jD (xv 4)))))),λas F=>?_⟩)
 obtain⟨p,l,h,g,rfl,F,S,R,hl,nl⟩:=F;have D:∀{x y:Nat},x<=100->y<=10000->x*10000+y<sizeLine:=λ{x y} a b=>aO (show x*10000+y<=1010000 by lia) (by decide);have tl:∀i,i<=ln l->ln (I8 p h g (l.take i))<=i*10000:=λi=>by
  induction i with
  |zero=>intro _;exact a9 _
  |succ i M=>intro hi;have e:=pJ (ac (show i<ln l by omega));unfold I8 at M ⊢;rw[e,eY,ai,cX,fU,bu];have a:=M (by omega);have b:=c6 (λf=>decide (1<ln f)) (g.map λs=>gc p l[i] (Tz p (kJ h ([s].map λn=>-n))));rw[aa]at b;omega
 refine⟨tJ,λQ t=>?_⟩;have t:Q=[]:=t;subst t;refine jL (Z':=[.fr (.ob 0 p),.fr (jA l),k7 h,k7 g,.ow (.lst []),.un,.un,.un]) rfl ?_;refine⟨⟨rfl,rfl⟩,λi Z=>∃J v r,Z=[.fr (.ob 0 p),.fr (jA l),k7 h,k7 g,.ow (jA (I8 p h g (l.take i))),J,v,r],⟨.un,.un,.un,rfl⟩,?_,?_⟩
 .rintro i q Z C ⟨J,v,r,rfl⟩;have C:(l.map PV.ints)[i]?=some q:=C;rw[aq]at C;obtain⟨x,G,rfl⟩:=bX.mp C;have il:i<ln l:=(ao.mp G).1;have xl:=R x (bE G);have Y:=tl i (by lia);refine⟨rfl,λj Z=>∃v r,Z=[.fr (.ob 0 p),.fr (jA l),k7 h,k7 g,.ow (jA (I8 p h g (l.take i)++((g.take j).map λs=>gc p x (Tz p (kJ h ([s].map λn=>-n)))).filter λf=>decide (1<ln f))),k7 x,v,r],⟨v,r,?_⟩,?_,?_⟩
  .rw[iQ,dM,f9,bu];rfl
  .rintro j m Z B ⟨v,r,rfl⟩;have B:g[j]?=some m:=B;have jl:j<ln g:=(ao.mp B).1;have t2:(((g.take j).map λs=>gc p x (Tz p (kJ h ([s].map λn=>-n)))).filter λf=>decide (1<ln f)).length<=j:=by refine aA (c6 _ _) ?_;rw[aa,aI];lia
   have z:ln (Tz p (kJ h ([m].map λn=>-n)))<=200:=by refine aA (lA _ _) ?_;unfold kJ;rw[aa,ag];show max (ln h) 1<=200;lia
   refine⟨⟨⟨rfl,rfl,⟨⟨rfl,rfl,⟨⟨rfl,tJ⟩,tJ⟩,tJ⟩,p,h,[m],rfl,by lia,by show 1<=500;decide⟩,tJ⟩,p,x,Tz p (kJ h ([m].map λn=>-n)),rfl,F,xl,z⟩,λo u=>?_⟩;have u:o=gc p x (Tz p (kJ h ([m].map λn=>-n))):=u;refine jL (Z':=[.fr (.ob 0 p),.fr (jA l),k7 h,k7 g,.ow (jA (I8 p h g (l.take i)++((g.take j).map λs=>gc p x (Tz p (kJ h ([s].map λn=>-n)))).filter λf=>decide (1<ln f))),k7 x,k6 m,k7 o]) rfl ?_;have N:((g.take (j+1)).map λs=>gc p x (Tz p (kJ h ([s].map λn=>-n)))).filter (λf=>decide (1<ln f))=(((g.take j).map λs=>gc p x (Tz p (kJ h ([s].map λn=>-n)))).filter λf=>decide (1<ln f))++if 1<ln o then[o] else[]:=by
    rw[pJ B,bF,gD,bN,dM,<- u];congr 1;by_cases c:1<ln o
    .rw[af c,cH (by exact aK c),f9]
    .rw[ae c,cI (by simpa using c),f9]
   refine⟨⟨.inl rfl,tJ⟩,λq=>?_,λq=>?_⟩
   .have q:(ln o:Int) > 1:=q;refine⟨rfl,rfl,?_,?_⟩
    .show((I8 p h g (l.take i)++(((g.take j).map λs=>gc p x (Tz p (kJ h ([s].map λn=>-n)))).filter λf=>decide (1<ln f))).map PV.ints).length<sizeLine;rw[aa,ai];exact aO (Nat.add_le_add Y t2) (D (by lia) (by lia))
    .refine⟨k6 m,k7 o,?_⟩;rw[N,af (by lia),<- cV];unfold jA;rw[bF (l₂:=[o])];rfl
   .have q:¬(ln o:Int) > 1:=q;refine⟨k6 m,k7 o,?_⟩;rw[N,ae (by lia),bu]
  .rintro Z ⟨v,r,rfl⟩;refine⟨k7 x,v,r,?_⟩;have e:I8 p h g (l.take (i+1))=I8 p h g (l.take i)++((g.take (ln g)).map λs=>gc p x (Tz p (kJ h ([s].map λn=>-n)))).filter λf=>decide (1<ln f):=by unfold I8;rw[pJ G,eY,cU,cX,fU,bu]
   rw[e];rfl
 .rintro Z ⟨J,v,r,rfl⟩;refine⟨rfl,?_⟩;show jA (I8 p h g (l.take (ln (l.map PV.ints))))=jA (I8 p h g ((l.map PV.ints).map kW));rw[aa,cU,mW]
def PP (k:PV->List Int):∀p:List PV,(p.map k).Nodup->∃l:List PV,l.Perm p/\l.Pairwise λa b=>pM (k a) (k b)=true
 |[],_=>⟨[],.nil,.nil⟩
 |q::p,nd=>by
  rw[bN,cZ]at nd;obtain⟨l,c,s⟩:=PP k p nd.2;have ne:∀x∈l,k x≠k q:=λx f z=>nd.1 (aY.mpr ⟨x,c.mem_iff.mp f,z⟩);refine⟨(l.filter λx=>pM (k x) (k q))++q::l.filter (λx=>!pM (k x) (k q)),?_,?_⟩
  .refine List.perm_middle.trans (List.Perm.cons q ?_);exact(Pl.vG (λx=>pM (k x) (k q)) l).trans c
  .refine List.pairwise_append.mpr ⟨s.filter _,cL.mpr ⟨λb h=>?_,s.filter _⟩,λa e b h=>?_⟩
   .obtain⟨h1,h2⟩:=aW.mp h;exact Cg (ne b h1) (by simpa using h2)
   .have h1:=(aW.mp e).2;rcases aG.mp h with rfl|h
    .exact h1
    .obtain⟨d,h2⟩:=aW.mp h;exact NT h1 (Cg (ne b d) (by simpa using h2))
def uZ (nd:(p.map kf).Nodup):(lC kf p).Perm p/\(lC kf p).Pairwise λa b=>pM (kf a) (kf b)=true:=by obtain⟨l,a,b⟩:=PP kf p nd;rw[Dy a b];exact⟨a,b⟩
def Nj (nd:(qs.map kf).Nodup)(h:p.Perm qs):lC kf p=lC kf qs:=Dy ((uZ nd).1.trans h.symm) (uZ nd).2
def stI (p:Int)(g:List Int):Tab:=Q6 p (j9 p (qT p (Tz p g)))
def o6 (p:Int)(g:List Int):List (List Int):=tH p (stI p g) (λh=>Gm p (sI p g h (ln (stI p g)))) (Tz p g) (ln (stI p g))
open Pl in
def zG (f:jR p){l:List (Pl p)}(I:xY l)(ne:l≠[])(e:Tz p g=ls (PL l))(v:ln g<=200)(y:ln (Tz p g)<=40) :
  Em p g/\Yt (PL l) (stI p g)/\ln (stI p g)<=39/\(∀h∈stI p g,ln h<=39/\(∀j,pl p (h.getD j 0)=h.getD j 0)/\0<(Q6 p (jZ p (Tz p g) h (ln (stI p g)+1))).length)/\Vr l (stI p g) (λh=>Gm p (sI p g h (ln (stI p g)))):=by
 have u:2<=p:=f.1;have mg:=I.mo u;have d:=Bt u I.irr;have B:=lP ne;have C:ln (ls (PL l))<=40:=by rw[<- e];exact y
 have ok:Em p g:=⟨f,v,by rw[e];exact mg.ne,by rw[e,show jB (ls (PL l))=1 from mg];exact hW ..⟩;have D:ln (Tz p g)=ln (ls (PL l)):=by rw[e]
 have t:ln (j9 p (qT p (Tz p g)))=ln (Tz p g)-1:=by rw[Cj];exact nG ..
 obtain⟨_,k⟩:=aaT f t (by lia) λi o=>Hx ok o;have m:zO p (ln (ls (PL l))-1) (ln (ls (PL l))-1) (j9 p (qT p (ls (PL l)))) (stI p g):=by rw[<- e];exact k
 have K:=Ff f mg (by lia) (by lia) m;have A:=Ky f I (by lia) K;have r:∀h∈stI p g,0<(Q6 p (jZ p (Tz p g) h (ln (stI p g)+1))).length/\∀q∈l,∀s:Int,Go q (mk p h-con p s)->p ∣ ev (sI p g h (ln (stI p g))) s:=λh c=>by
  obtain⟨_,KR⟩:=aaT f (rows:=jZ p (Tz p g) h (ln (stI p g)+1)) (nG ..) (fe _) λi o=>yf ok o;have n:zO p (ln (stI p g)+1) (ln (ls (PL l))-1) (jZ p (ls (PL l)) h (ln (stI p g)+1)) (Q6 p (jZ p (Tz p g) h (ln (stI p g)+1))):=by rw[<- e];exact KR
  obtain⟨a,b⟩:=QV f I (by lia) (K.len h c) (K.st h c) (by lia) n;exact⟨a,λq z s x=>b _ (Gs a) q z s x⟩
 exact⟨ok,K,aA k.le (by lia),λh c=>⟨by rw[k.len h c];lia,k.red h c,(r h c).1⟩,abZ f I K λh c=>(r h c).2⟩
open Pl in
def BP {l:List (Pl p)}(nd:l.Nodup):(l.map ls).Nodup:=dZ _ (λ_ _ h e=>h (Mo.inj e)) nd
open Pl in
def yO (h:jR p){l:List (Pl p)}(I:xY l)(ne:l≠[])(e:Tz p g=ls (PL l))(a:ln g<=200)(b:ln (Tz p g)<=40):(o6 p g).Perm (l.map ls):=by obtain⟨_,K,_,_,N⟩:=zG h I ne e a b;unfold o6;rw[e];exact Ud h I (by rw[<- e];lia) ne K N
def yX (t:List (List Int)):(t.map PV.ints).map mF=t:=Rm t
def YC (p:Int)(r:Li):ln (Gm p r)<=p.toNat:=by unfold Gm;rw[aa];refine aA (c6 _ _) ?_;rw[ag];exact aj _
def aaU (a:jR p)(r:∀j,pl p (h.getD j 0)=h.getD j 0):Bd h:=λx d=>by
 obtain⟨i,c,rfl⟩:=bO.mp d;have:=r i;rw[gQ,ac c]at this;have this:pl p h[i]=h[i]:=this;have b:=BW (z:=p) (n:=h[i]) (by have:=a.1;lia);rw[this]at b;have:h[i].natAbs<2^14:=by have:=a.2.1;lia
 exact aF this (cS (by decide) (by decide))
open Pl in
def Um:Ok P w K mg base 9 "split" ["kind","g"] (wV K (ph U) (λas=>∃p g,as=[.ob 0 p,.ints g]/\jR p/\ln g<=200/\ln (Tz p g)<=40/\∃l:List (Pl p),xY l/\l≠[]/\Tz p g=ls (PL l)) λas=>match as with|[.ob 0 p,.ints g]=>.lst (lC mF ((o6 p g).map PV.ints))|_=>.non):=by
 refine uK T.Yu uX (λ_ ⟨a,b,h,_⟩=>h▸rfl) (λf cdv A F s H E r=>⟨_,(jr (kY (i:=2) uX.nd rfl k4 (uJ (ut (jq (jM (pD (kj T) r (jq (xv 0) (jq (xl 1) ju)))) ju)))) (jr (kY (i:=3) uX.nd rfl k4 (xc (Gf T) r (jq (xv 0) (jq (xc (p6 T) r (jq (xv 0) (jq (xl 1) ju))) ju)))) (jr (tE (k:=4) aB rfl (nA (xv 3)) uX.nd rfl k4 (jw (lF (R9 (mY T.jQ (xv 2)) (mY T.jQ (xv 3))) (jw (kY (i:=2) uX.nd rfl k4 (xc (Ec T) r (jq (xv 0) (jq (xv 2) (jq (xl 4) (jq (jM (pD (vR T) r (jq (xv 0) (jq (xl 4) (jq (mY T.jQ (xv 3)) (jq (xl 1) ju)))))) ju))))))) j6))) (jw (jD (uJ (Ve mF (yu T) r T.BZ (xv 2)))))))),λas c=>?_⟩)
 obtain⟨p,g,rfl,c,O,y,l,I,ne,e⟩:=c;have p2:2<=p:=c.1;have p3:p<=9973:=c.2.1;obtain⟨ok,K,tl,tr,N⟩:=zG c I ne e O y;have v:=yO c I ne e O y;have L:=λi Q=>U3 c I ne K N (i:=i) Q;rw[<- e]at L;have d:=Bt p2 I.irr;rw[<- e]at d;have G:ln (j9 p (qT p (Tz p g)))=ln (Tz p g)-1:=by rw[Cj];exact nG ..
 have w0:jT (j9 p (qT p (Tz p g)))=ln (Tz p g)-1:=Hx ok (by have:=lP ne;lia);have M:jA (yU (lE p (lK p) (((j9 p (qT p (Tz p g))).map PV.ints).map kW) (jT (((j9 p (qT p (Tz p g))).map PV.ints).map kW))) (turnT p (lK p) (((j9 p (qT p (Tz p g))).map PV.ints).map kW) (jT (((j9 p (qT p (Tz p g))).map PV.ints).map kW))))=jA (stI p g):=by rw[mW];rfl
 unfold o6 at v;refine⟨⟨⟨⟨rfl,rfl,tJ⟩,p,g,rfl,by lia⟩,tJ⟩,λY o=>?_⟩;replace o:Y=jA [Tz p g]:=o;refine⟨⟨⟨rfl,⟨⟨rfl,rfl,tJ⟩,p,g,rfl,ok,y⟩,tJ⟩,p,j9 p (qT p (Tz p g)),rfl,c,by lia,by lia,λi Q=>by rw[w0];exact Hx ok (by lia)⟩,λst m=>?_⟩;replace m:st=jA (yU (lE p (lK p) (((j9 p (qT p (Tz p g))).map PV.ints).map kW) (jT (((j9 p (qT p (Tz p g))).map PV.ints).map kW))) (turnT p (lK p) (((j9 p (qT p (Tz p g))).map PV.ints).map kW) (jT (((j9 p (qT p (Tz p g))).map PV.ints).map kW)))):=m;rw[M]at m;refine jL (Z':=[.fr (.ob 0 p),k7 g,.fr Y,.fr st,.un]) rfl ?_;subst o m;have N1:∀i h,(stI p g)[i]?=some h->tH p (stI p g) (λh=>Gm p (sI p g h (ln (stI p g)))) (Tz p g) (i+1)=if (tH p (stI p g) (λh=>Gm p (sI p g h (ln (stI p g)))) (Tz p g) i).length<ln (stI p g) then I8 p h (Gm p (sI p g h (ln (stI p g)))) (tH p (stI p g) (λh=>Gm p (sI p g h (ln (stI p g)))) (Tz p g) i) else tH p (stI p g) (λh=>Gm p (sI p g h (ln (stI p g)))) (Tz p g) i:=λi h u=>by
  have eh:(stI p g).getD i []=h:=by rw[gQ,u];rfl
  rw[<- eh];rfl
 have N0:[Tz p g]=tH p (stI p g) (λh=>Gm p (sI p g h (ln (stI p g)))) (Tz p g) 0:=rfl;have B:tH p (stI p g) (λh=>Gm p (sI p g h (ln (stI p g)))) (Tz p g) (ln (stI p g))=o6 p g:=rfl;rw[B]at v;clear M w0 G K N;generalize tH p (stI p g) (λh=>Gm p (sI p g h (ln (stI p g)))) (Tz p g)=S at *
 generalize D:o6 p g=Sp at v B;generalize hnm:(λh=>Gm p (sI p g h (ln (stI p g))))=nm at *
 generalize stI p g=t at *
 have z:ln (t.map PV.ints)=ln t:=aa _;refine⟨⟨rfl,rfl⟩,λi Z=>∃J,Z=[.fr (.ob 0 p),k7 g,.fr (jA (S i)),.fr (jA t),J],⟨.un,by rw[<- N0]⟩,?_,?_⟩
 .rintro i q Z n ⟨J,rfl⟩;have n:(t.map PV.ints)[i]?=some q:=n;rw[aq]at n;obtain⟨h,u,rfl⟩:=bX.mp n;have il:i<ln t:=(ao.mp u).1;obtain⟨h1,h2,h3⟩:=tr h (bE u);obtain⟨s1,s2⟩:=L i (by lia);have R:=N1 i h u;have lS:ln ((S i).map PV.ints)=ln (S i):=aa _;refine⟨⟨⟨rfl,tJ⟩,rfl,tJ⟩,λq=>?_,λq=>?_⟩
  .have q:(ln ((S i).map PV.ints):Int)<(ln (t.map PV.ints):Int):=q;refine⟨⟨⟨rfl,rfl,rfl,⟨⟨rfl,rfl,⟨rfl,tJ⟩,rfl,tJ⟩,p,h,ln t,g,?_,ok,by lia,aaU c h2,y,by lia,h3⟩,tJ⟩,p,S i,h,Gm p (sI p g h (ln t)),?_,c,by lia,λf hf=>by have:=(s1 f hf).2;lia,by lia,?_⟩,λnw j=>?_⟩
   .show[PV.ob 0 p,.ints h,.int (ln (t.map PV.ints):Int),.ints g]=_;rw[z]
   .show[PV.ob 0 p,jA (S i),.ints h,.ints (Gm p (sI p g h ((ln (t.map PV.ints):Int)).toNat))]=_;rw[z,aD]
   .have:=YC p (sI p g h (ln t));lia
   .have j:nw=jA (I8 p h (Gm p (sI p g h ((ln (t.map PV.ints):Int)).toNat)) (((S i).map PV.ints).map kW)):=j;rw[z,aD,mW]at j;refine⟨k7 h,?_⟩;rw[R,af (by lia),j];rfl
  .have q:¬(ln ((S i).map PV.ints):Int)<(ln (t.map PV.ints):Int):=q;refine⟨k7 h,?_⟩;rw[R,ae (by lia)];rfl
 .rintro Z ⟨J,rfl⟩;have C:S (ln (t.map PV.ints))=Sp:=by rw[z];exact B
  have nd:Sp.Nodup:=v.nodup_iff.mpr (BP I.nd);have ll:ln Sp<=40:=by rw[v.length_eq,aa];lia
  refine⟨⟨rfl,rfl,⟨?_,?_⟩,λq n=>?_⟩,?_⟩
  .show((S (ln (t.map PV.ints))).map PV.ints).length<64;rw[C,aa];lia
  .show(((S (ln (t.map PV.ints))).map PV.ints).map mF).Nodup;rw[C,yX];exact nd
  .have n:q∈(S (ln (t.map PV.ints))).map PV.ints:=n;obtain⟨x,_,rfl⟩:=aY.mp n;exact⟨⟨x,rfl⟩,rfl⟩
  .show PV.lst (lC mF ((S (ln (t.map PV.ints))).map PV.ints))=PV.lst (lC mF ((o6 p g).map PV.ints));rw[C,D]
def kfP (q:PV):List Int:=mF (Oe q)
def Q4 (p:Int)(f:List Int):List PV:=(rM (JZ p f)).flatMap λq=>(lC mF ((o6 p (mF (vU q))).map PV.ints)).map λr=>.tup [r,wM q]
open Pl in
def Fe {p:Int}(r:Pl p×Nat):PV:=.tup [.ints (ls r.1),.int (r.2:Int)]
open Pl in
structure Eb {p:Int}(f:List Int)(L:List (Pl p×Nat)):Prop where
 irr:∀q∈L,wC q.1/\ln (ls q.1)<=31/\q.2≠0/\q.2<31
 ne:L.Pairwise λa b=>a.1≠b.1
 eN:ls (Pr L id)=sE p (Tz p f)
 fp:JZ p f=.lst (Jj L)
 fam:xu L
open Pl in
def Z3 (a:jR p)(ne:Tz p f≠[]):ls (mk p (sE p (Tz p f)))=sE p (Tz p f)/\Mo (mk p (sE p (Tz p f))):=by
 have G:=zy a (j7 p f) (nM p f);have e:ls (mk p (sE p (Tz p f)))=sE p (Tz p f):=rD ⟨G.form,G.red⟩;refine⟨e,?_⟩;show jB (ls (mk p (sE p (Tz p f))))=1;rw[e];rcases G.one with z|z
 .exfalso;obtain⟨Q,h⟩:=G.d1;rw[z]at h;refine ne (oh (j7 p f) oM λn=>sH (nM p f n) (by exact lU p) ?_);have:=h n;rw[jN,lY,aJ]at this;exact this
 .exact z
open Pl in
def NP (e:jR p)(ne:Tz p f≠[])(l:ln (sE p (Tz p f))<=31):∃L:List (Pl p×Nat),Eb f L:=by
 have s:2<=p:=e.1;obtain⟨i,r⟩:=Z3 e ne;obtain⟨L,h1,h2,m⟩:=Om e r;rw[i]at h1;have F:xu L:=⟨gV (λ{a b} o k n=>(h1 a o).1.cop e (h1 b k).1 (by have:=(h1 b k).2.1;lia) n) h2,λq d=>Hh e (h1 q d).1 (by have:=(h1 q d).2.1;lia),λq d=>(h1 q d).1.mo,λq d=>(h1 q d).1.deg⟩;have nz:∀q∈L,q.2≠0:=λq d=>(h1 q d).2.2;rw[m]at i;refine⟨L,λq d=>⟨(h1 q d).1,by have:=(h1 q d).2.1;lia,nz q d,?_⟩,h2,i,?_,F⟩
 .have j:q.2<ln (ls (Pr L id)):=xm s (g:=id) F.mo F.dg q d;rw[i]at j;lia
 .unfold JZ;rw[<- i]at l ⊢;have h:ln (lf p (ls (Pr L id)) 40)<=1:=cT λc=>by have:=Kc e F c;lia
  rw[(La e F nz l h).2]
open Pl in
def Wr (c:Nat):∀L:List (Pl p×Nat),PL ((L.filter λr=>decide (r.2=c)).map λr=>r.1)=Pr L (ind c)
 |[]=>rfl
 |q::L=>by
  rw[kI,<- Wr c L];unfold ind;by_cases h:q.2=c
  .rw[cH (by exact aK h),af h];show q.1*PL _=q.1^0*q.1*PL _;rw[Qa,one_mul]
  .rw[cI (by simpa using h),ae h,Qa,one_mul]
open Pl in
def Rc (a:2<=p){L:List (Pl p×Nat)}(F:xu L)(nz:∀q∈L,q.2≠0)(c:Nat):ln (ls (Pr L (ind c)))<=ln (ls (Pr L id)):=by
 have e:=BJ (L:=L) (g:=id) (h:=ind c) λq b=>by
  unfold ind;split
  .have:=nz q b;show 1<=q.2;lia
  .exact a9 _
 have l:=Mo.len a (F.pr a λm=>id m-ind c m) (F.pr a (ind c));rw[<- e]at l;have:=(F.pr a λm=>id m-ind c m).pos;lia
open Pl in
def JR (c:2<=p):∀{L:List (Pl p×Nat)},(∀q∈L,Mo q.1/\1<ln (ls q.1)/\q.2≠0)->ln L+1<=ln (ls (Pr L id))/\Mo (Pr L id)
 |[],_=>by have e:Pr ([]:List (Pl p×Nat)) id=1:=rfl;rw[e,uO c];exact⟨aj _,Mo.one c⟩
 |q::L,h=>by obtain⟨a,b⟩:=JR c (L:=L) λr g=>h r (ad _ g);obtain⟨m,d,z⟩:=h q ah;have f:=Mo.pow c m (id q.2);have e:=Mo.len c f b;have i:=Mo.wW c m (id q.2);rw[<- kI]at e;refine⟨?_,by rw[kI];exact Mo.mul c f b⟩;have z:id q.2≠0:=z;have:1*1<=id q.2*(ln (ls q.1)-1):=fH (by lia) (by lia);rw[aR];lia
open Pl in
def lcI {p:Int}(L:List (Pl p×Nat))(c:Nat):List (Pl p):=(L.filter λr=>decide (r.2=c)).map λr=>r.1
open Pl in
def Eb.irs {p:Int}{f:Li}{L:List (Pl p×Nat)}(F:Eb f L)(c:Nat):xY (lcI L c):=by
 refine⟨λq a=>?_,λq a=>?_,?_⟩
 .obtain⟨r,b,rfl⟩:=aY.mp a;exact(F.irr r (aW.mp b).1).1
 .obtain⟨r,b,rfl⟩:=aY.mp a;have:=(F.irr r (aW.mp b).1).2.1;lia
 .exact dZ _ (λ_ _ h=>h) (F.ne.filter _)
open Pl in
def Eb.part (d:jR p){L:List (Pl p×Nat)}(F:Eb f L)(n:ln (sE p (Tz p f))<=31){c:Nat}(b:1<ln (ls (Pr L (ind c)))) :
  xY (lcI L c)/\lcI L c≠[]/\Tz p (ls (Pr L (ind c)))=ls (PL (lcI L c))/\ln (ls (Pr L (ind c)))<=31:=by
 have a:2<=p:=d.1;refine⟨F.irs c,λz=>?_,by rw[rW];unfold lcI;rw[Wr],?_⟩
 .obtain⟨r,g,h⟩:=(pN a F.fam.mo F.fam.dg).mp b;unfold ind at h;by_cases y:r.2=c
  .have:r.1∈lcI L c:=aY.mpr ⟨r,aW.mpr ⟨g,aK y⟩,rfl⟩;rw[z]at this;cases this
  .rw[ae y]at h;exact h rfl
 .have:=Rc a F.fam (λq e=>(F.irr q e).2.2.1) c;rw[F.eN]at this;lia
open Pl in
def Gh {a c:Type}{f g:a->List c}:∀{l:List a},(∀x∈l,(f x).Perm (g x))->(l.flatMap f).Perm (l.flatMap g)
 |[],_=>.nil
 |x::l,h=>by rw[cX,cX];exact(h x ah).append (Gh λy b=>h y (ad _ b))
open Pl in
def Kq (m:jR p){L:List (Pl p×Nat)}(F:Eb f L)(q:ln (sE p (Tz p f))<=31):(Q4 p f).Perm (L.map Fe):=by
 have t:2<=p:=m.1;unfold Q4;rw[F.fp];show((Jj L).flatMap _).Perm _;unfold Jj;rw[List.flatMap_map];have i:∀c∈(List.range 31).filter (λc=>decide (1<ln (ls (Pr L (ind c))))),1<ln (ls (Pr L (ind c))):=λc l=>bQ (aW.mp l).2;have k:((List.range 31).filter λc=>decide (1<ln (ls (Pr L (ind c))))).Nodup:=hV.filter _;have j:∀r∈L,r.2∈(List.range 31).filter λc=>decide (1<ln (ls (Pr L (ind c)))):=λr d=>aW.mpr ⟨aX.mpr (F.irr r d).2.2.2,aK ((pN t F.fam.mo F.fam.dg).mpr ⟨r,d,by unfold ind;rw[af rfl];decide⟩)⟩;generalize (List.range 31).filter (λc=>decide (1<ln (ls (Pr L (ind c)))))=g at *
 have u:(g.flatMap λc=>(lC mF ((o6 p (mF (vU (TT L c)))).map PV.ints)).map λr=>PV.tup [r,wM (TT L c)]).Perm (g.flatMap λc=>(L.filter λr=>decide (r.2=c)).map Fe):=Gh λc l=>by
  obtain⟨I,ne,e,v⟩:=F.part m q (i c l);have n:=yO m I ne e (by lia) (by rw[rW];lia);have nd:(((o6 p (ls (Pr L (ind c)))).map PV.ints).map mF).Nodup:=by rw[yX];exact n.nodup_iff.mpr (BP I.nd)
  have a:=((uZ nd).1.trans (n.map PV.ints)).map λr=>PV.tup [r,PV.int (c:Int)];refine a.trans (.of_eq ?_);unfold lcI;rw[bD,bD,bD];refine bV λr d=>?_;have:r.2=c:=bQ (aW.mp d).2;show PV.tup [.ints (ls r.1),.int (c:Int)]=PV.tup [.ints (ls r.1),.int (r.2:Int)];rw[this]
 refine u.trans ?_;have o:(g.flatMap λc=>(L.filter λr=>decide (r.2=c)).map Fe)=((g.map λ(c:Nat)=>(c:Int)).map λs=>L.filter λr=>decide ((r.2:Int)=s)).flatten.map Fe:=by rw[List.flatMap_def,List.map_flatten,bD,bD];congr 1;refine bV λc _=>?_;show List.map Fe _=List.map Fe (L.filter λr=>decide ((r.2:Int)=(c:Int)));congr 1;refine fG λr _=>decide_eq_decide.mpr ?_;lia
 rw[o];refine((zr (λr:Pl p×Nat=>(r.2:Int)) L ?_).map Fe).trans (.of_eq ?_)
 .exact dZ _ (λ(a b:Nat) (h:a≠b) z=>h (by lia)) k
 .congr 1;refine i9.mpr λr d=>aK (aY.mpr ⟨r.2,j r d,rfl⟩)
open Pl in
def ZW (L:List (Pl p×Nat)):(L.map Fe).map kfP=L.map λr=>ls r.1:=by rw[bD];exact bV λr _=>rfl
open Pl in
def Eb.nd {p:Int}{f:Li}{L:List (Pl p×Nat)}(F:Eb f L):((L.map Fe).map kfP).Nodup:=by rw[ZW];exact dZ _ (λ_ _ h e=>h (Mo.inj e)) F.ne
open Pl in
def Eb.len (a:jR p){L:List (Pl p×Nat)}(F:Eb f L):ln L+1<=ln (sE p (Tz p f)):=by rw[<- F.eN];exact(JR a.1 λq h=>⟨F.fam.mo q h,F.fam.dg q h,(F.irr q h).2.2.1⟩).1
def Bu (p:Int)(f:List Int):PV:=.tup [.int (jB (Tz p f)),.lst (lC kfP (Q4 p f))]
open Pl in
def Uc:Ok P w K mg base 10 "parts" ["kind","f"] (wV K (ph U) (λas=>∃p f,as=[.ob 0 p,.ints f]/\jR p/\ln f<=100/\ln (sE p (Tz p f))<=31/\Tz p f≠[]) λas=>match as with|[.ob 0 p,.ints f]=>Bu p f|_=>.non):=by
 refine abH T.YG vg T.YZ (λ_ ⟨a,b,h,_⟩=>h▸rfl) (λf cdv A S s H E C hl=>⟨_,(jr (sY (i:=2) vg.nd rfl k4 (ut ju)) (jr (Kw (k:=3) (j:=4) aB rfl (nA (xc (DW T) C (jq (xv 0) (jq (xl 1) ju)))) (pg_tup rfl (pgs_cons (pg_name (i:=3) vg.nd rfl k4) (pgs_cons (pg_name (i:=4) vg.nd rfl k4) pgs_nil))) (jw (tE (k:=5) aB rfl (nA (xc (Um T) C (jq (xv 0) (jq (xl 3) ju)))) vg.nd rfl k4 (jw (sX 2 (oZ (jq (xl 5) (jq (xn 4) ju)))))))) (lB 2 (jw (jD (oZ (jq (sU (jC (jM (pD (kj T) C (jq (xv 0) (jq (xl 1) ju)))) (uc jt) (λ_ _=>rfl))) (jq (uJ (Vd kfP (yu T) hl C T.BZ (xv 2))) ju)))))))),λas o=>?_⟩)
 obtain⟨p,f,rfl,o,fl,J,ne⟩:=o;have p2:2<=p:=o.1;obtain⟨L,F⟩:=NP o ne J;have Y:=Kq o F J;have Ll:=F.len o;have nd:=F.nd;have M:∀q∈Jj L,∃x:List Int,∃c:Nat,q=.tup [.ints x,.int (c:Int)]/\ln x<=31/\ln (Tz p x)<=40/\(∃l:List (Pl p),xY l/\l≠[]/\Tz p x=ls (PL l))/\ln (lC mF ((o6 p x).map PV.ints))<=31/\∀r∈lC mF ((o6 p x).map PV.ints),∃y,r=.ints y:=λq g=>by
  obtain⟨c,hc,rfl⟩:=aY.mp g;obtain⟨I,n0,e,le⟩:=F.part o J (bQ (aW.mp hc).2);have pe:=yO o I n0 e (by lia) (by rw[rW];lia);have nd:(((o6 p (ls (Pr L (ind c)))).map PV.ints).map mF).Nodup:=by rw[yX];exact pe.nodup_iff.mpr (BP I.nd)
  have so:=(uZ nd).1;refine⟨ls (Pr L (ind c)),c,rfl,le,by rw[rW];lia,⟨_,I,n0,e⟩,?_,λr C=>?_⟩
  .rw[so.length_eq,aa,pe.length_eq,aa];have d:=Bt p2 I.irr;rw[<- e,rW]at d;lia
  .obtain⟨y,_,rfl⟩:=aY.mp (so.mem_iff.mp C);exact⟨y,rfl⟩
 have ep:Q4 p f=(Jj L).flatMap λq=>(lC mF ((o6 p (mF (vU q))).map PV.ints)).map λr=>.tup [r,wM q]:=by unfold Q4;rw[F.fp];rfl
 have fl31:ln (Jj L)<=31:=by unfold Jj;rw[aa];refine aA (c6 _ _) ?_;rw[ag];exact aj _
 have eF:JZ p f=.lst (Jj L):=F.fp;generalize Jj L=m at *
 have M0:∀i,i<=ln m->ln ((m.take i).flatMap λq=>(lC mF ((o6 p (mF (vU q))).map PV.ints)).map λr=>PV.tup [r,wM q])<=i*31:=λi=>by
  induction i with
  |zero=>intro _;exact aj 0
  |succ i ih=>
   intro hi;have a:=ih (by lia);have R:i<ln m:=by lia
   rw[pJ (ac R),eY,ai,cX,fU,bu,aa];obtain⟨x,c,e,_,_,_,sl,_⟩:=M m[i] (bK R);rw[e];have sl:ln (lC mF ((o6 p (mF (vU (PV.tup [.ints x,.int (c:Int)])))).map PV.ints))<=31:=sl;lia
 refine⟨tJ,λl0 u=>?_⟩;replace u:l0=[]:=u;subst u;refine jL (Z':=[.fr (.ob 0 p),k7 f,.ow (.lst []),.un,.un,.un]) rfl ?_;have hF:∀v,v=JZ p f->v=.lst (rM v)/\rM v=m:=λv e=>by rw[e,eF];exact⟨rfl,rfl⟩
 obtain⟨N,z⟩:=hF (JZ p f) rfl;refine⟨⟨⟨⟨⟨rfl,rfl,tJ⟩,p,f,rfl,o,fl,J,ne⟩,N⟩,λq g=>?_⟩,λi Z=>∃v3 v4 t,Z=[.fr (.ob 0 p),k7 f,.ow (.lst ((m.take i).flatMap λq=>(lC mF ((o6 p (mF (vU q))).map PV.ints)).map λr=>PV.tup [r,wM q])),v3,v4,t],⟨.un,.un,.un,rfl⟩,?_,?_⟩
 .have g:q∈rM (JZ p f):=g;rw[z]at g;obtain⟨x,c,rfl,_⟩:=M q g;exact rfl
 .rintro i q Z g ⟨v3,v4,t,rfl⟩;have g:(rM (JZ p f))[i]?=some q:=g;rw[z]at g;have R:i<ln m:=(ao.mp g).1;obtain⟨x,c,eq,xl,tl,ex,sl,sr⟩:=M q (bE g);have m0:=M0 i (by lia);have nx:(m.take (i+1)).flatMap (λq=>(lC mF ((o6 p (mF (vU q))).map PV.ints)).map λr=>PV.tup [r,wM q])=(m.take i).flatMap (λq=>(lC mF ((o6 p (mF (vU q))).map PV.ints)).map λr=>PV.tup [r,wM q])++(lC mF ((o6 p x).map PV.ints)).map λr=>PV.tup [r,PV.int (c:Int)]:=by rw[pJ g,eY,cX,fU,bu,eq];rfl
  generalize (m.take i).flatMap (λq=>(lC mF ((o6 p (mF (vU q))).map PV.ints)).map λr=>PV.tup [r,wM q])=B at *
  generalize hX:lC mF ((o6 p x).map PV.ints)=X at *
  subst eq;have O:∀v,v=PV.lst (lC mF ((o6 p x).map PV.ints))->v=.lst (rM v)/\rM v=X:=λv e=>by rw[e,hX];exact⟨rfl,rfl⟩
  obtain⟨Q,D⟩:=O _ rfl;refine⟨⟨⟨⟨rfl,rfl,tJ⟩,p,x,rfl,o,by lia,tl,ex⟩,Q⟩,λj Z=>∃t,Z=[.fr (.ob 0 p),k7 f,.ow (.lst (B++(X.take j).map λr=>PV.tup [r,PV.int (c:Int)])),k7 x,k6 (c:Int),t],⟨t,?_⟩,?_,?_⟩
  .rw[iQ,dM,bu];rfl
  .rintro j r Z n ⟨t,rfl⟩;have n:(rM (PV.lst (lC mF ((o6 p x).map PV.ints))))[j]?=some r:=n;rw[D]at n;have jl:j<ln X:=(ao.mp n).1;obtain⟨y,rfl⟩:=sr r (bE n);refine⟨rfl,⟨rfl,rfl,tJ⟩,?_,k7 y,?_⟩
   .show ln (B++(X.take j).map λr=>PV.tup [r,PV.int (c:Int)])<sizeLine;rw[ai,aa,aI];refine aO (show _<=2000 by lia) (by decide)
   .rw[pJ n,bF,<- cV];rfl
  .rintro Z ⟨t,rfl⟩;refine⟨k7 x,k6 (c:Int),t,?_⟩;have e:(X.take (ln (rM (PV.lst (lC mF ((o6 p x).map PV.ints))))))=X:=by rw[D,cU]
   show[Sl.fr (.ob 0 p),k7 f,.ow (.lst (B++(X.take (ln (rM (PV.lst (lC mF ((o6 p x).map PV.ints)))))).map λr=>PV.tup [r,PV.int (c:Int)])),k7 x,k6 (c:Int),t]=_;rw[e,nx]
 .rintro Z ⟨v3,v4,t,rfl⟩;have G:(m.take (ln (rM (JZ p f)))).flatMap (λq=>(lC mF ((o6 p (mF (vU q))).map PV.ints)).map λr=>PV.tup [r,wM q])=Q4 p f:=by rw[z,cU,ep]
  have lT:=lP ne;refine⟨⟨⟨⟨⟨⟨rfl,rfl,tJ⟩,p,f,rfl,by lia⟩,tJ,?_⟩,?_⟩,⟨rfl,rfl,⟨?_,?_⟩,λq g=>?_⟩,tJ⟩,?_⟩
  .show -(ln (Tz p f):Int) <= -1/\(-1:Int)<(ln (Tz p f):Int);lia
  .exact rfl
  .show(List.flatMap (λq=>(lC mF ((o6 p (mF (vU q))).map PV.ints)).map λr=>PV.tup [r,wM q]) (m.take (ln (rM (JZ p f))))).length<64;rw[G,Y.length_eq,aa];lia
  .show(List.map kfP (List.flatMap (λq=>(lC mF ((o6 p (mF (vU q))).map PV.ints)).map λr=>PV.tup [r,wM q]) (m.take (ln (rM (JZ p f)))))).Nodup;rw[G];exact(Y.map kfP).nodup_iff.mpr nd
  .have g:q∈List.flatMap (λq=>(lC mF ((o6 p (mF (vU q))).map PV.ints)).map λr=>PV.tup [r,wM q]) (m.take (ln (rM (JZ p f)))):=g;rw[G]at g;obtain⟨r,_,rfl⟩:=aY.mp (Y.mem_iff.mp g);exact⟨⟨[PV.int (r.2:Int)],rfl⟩,⟨ls r.1,rfl⟩,rfl⟩
  .show PV.tup [.int ((Tz p f).getD (lD (ln (Tz p f)) (-1)) 0),.lst (lC kfP (List.flatMap (λq=>(lC mF ((o6 p (mF (vU q))).map PV.ints)).map λr=>PV.tup [r,wM q]) (m.take (ln (rM (JZ p f))))))]=Bu p f;rw[G,vK _ lT];rfl
def Jz (c:Int):Int:=((c % 10^9)*(c % 10^9)+40503)*1103515245982451653 % (10^18+9)
def Uz (c:Int):0<=Jz c:=by unfold Jz;exact bw _ (by decide)
def Y7:Ok P w K mg base 2 "_law_head" ["_law_script"] (Hw K (ph U) (λas=>∃ns,as=[.scr ns]) λas=>match as with|[.scr ns]=>Jz (ns.getD 0 0)|_=>0):=by
 refine uK T.aaE PN (λ_ ⟨a,h⟩=>h▸rfl) (λf c A o s H E d=>⟨_,(jr (jH (i:=1) PN.nd rfl k4 (lV (Zy (Np T) d (jq (xr 0) (jq jt ju))) (yL jt jt))) (jw (jD (lV (nW (lO (nW (xn 1) (xn 1)) jt) jt) (lO (yL jt jt) jt))))),λas b=>?_⟩)
 obtain⟨ns,rfl⟩:=b;refine⟨⟨⟨⟨rfl,tJ,tJ⟩,tJ,rfl,by show(0:Int)<=0;decide⟩,by walk_at "x",by show(0:Int)<10^9;decide⟩,λn e=>?_⟩;have e:n=ns.getD 0 0 % 10^9:=e;have g:0<=n/\n<10^9:=by rw[e];exact⟨bw _ (by decide),bc _ (by decide)⟩
 refine⟨⟨⟨⟨⟨rfl,rfl,t6 ⟨by show -(2:Int)^64<n;lia,by show n<(2:Int)^64;lia⟩⟩,tJ⟩,tJ,t6 (by decide)⟩,by walk_at "x",by show(0:Int)<10^18+9;decide⟩,?_⟩;show PV.int ((n*n+40503)*1103515245982451653 % (10^18+9))=PV.int (Jz (ns.getD 0 0));unfold Jz;rw[<- e]
def T8:Ok P w K mg base 1 "_law_plain" ["_law_number","_law_size"] (Hw K (ph U) (λas=>∃n z,as=[.int n,.int z]/\0<z) λas=>match as with|[.int n,.int z]=>pl z n|_=>0):=by
 refine uK T.YM Su (λ_ ⟨a,b,h,_⟩=>h▸rfl) (λf d A o s H E g=>⟨_,(jw (jD (lV (xn 0) (xn 1)))),λas e=>?_⟩);obtain⟨n,z,rfl,c⟩:=e;refine⟨⟨rfl,rfl,c⟩,?_⟩;show PV.int (n % z)=PV.int (pl z n);rw[lJ c]
def N5:Ok P w K mg base 2 "_law_trim" ["_law_row","_law_size"] (Ew K (ph U) (λas=>∃f z,as=[.ints f,.int z]/\0<z/\ln f<=1000) λas=>match as with|[.ints f,.int z]=>Tz z f|_=>[]):=by
 refine IV T.aaR Qi (λ_ ⟨a,b,h,_⟩=>h▸rfl) (λf j A o s H E p=>⟨_,(jr (HR (i:=0) Qi.nd rfl rfl (N':=["_law_number","_law_size"]) (cap:=[some 1]) (nQ rfl rfl rfl rfl ⟨⟨rfl,.inr (.inl rfl),w5,.inl rfl,_,rfl,rfl⟩,tJ⟩ ⟨rfl,tJ⟩ rfl) rfl (xl 0) (λ_ _ _=>(oW 0)) (λ_ _ _=>(Zy (T8 T) p (jq (xn 0) (jq (xn 1) ju)))) rfl) (jr (mJ aB (L2.PW.pt (HH (uM (jU 0 T.jQ) jt) (Ad (vZ (lW 0 (uc jt) (λ_ _=>rfl)) jt)))) (jw (Yh 0))) (jw (Bp 0)))),λas l=>?_⟩)
 obtain⟨f,z,rfl,r,k⟩:=l;refine⟨⟨rfl,k,λn _=>⟨⟨rfl,rfl,tJ⟩,n,z,rfl,r⟩⟩,λd e=>?_⟩;have e:d=f.map (pl z):=e;refine⟨λZ=>∃m,Z=[.ow (.ints m),k6 z]/\lq m=lq d,λZ=>ln (getL Z 0),⟨d,rfl,rfl⟩,?_⟩;rintro Z ⟨m,rfl,g⟩;refine⟨⟨⟨.inr (.inl rfl),tJ⟩,λh=>⟨⟨.inr (.inl rfl),tJ,?_,?_⟩,tJ⟩⟩,λq=>?_,λq=>?_⟩
 .have h:0<(ln m:Int):=h;show -(ln m:Int) <= -1;lia
 .show(-1:Int)<(ln m:Int);lia
 .have q:0<(ln m:Int)/\m.getD (lD (ln m) (-1)) 0=0:=q;have c:m≠[]:=eR.mp (by lia);rw[Px m c]at q;refine⟨rfl,c,⟨_,rfl,?_⟩,?_⟩
  .rw[<- g];exact Cw c q.2
  .show ln m.dropLast<ln m;rw[eG];lia
 .have q:¬(0<(ln m:Int)/\m.getD (lD (ln m) (-1)) 0=0):=q;refine⟨rfl,?_⟩;show m=lq (f.map (pl z));rw[<- e,<- g,CP];rintro⟨a,b⟩;have:=lP a;exact q ⟨by lia,by rw[Px m a];exact b⟩
def mQ:Ok P w K mg base 3 "_law_times" ["_law_f","_law_g","_law_size"] (Ew K (ph U) (λas=>∃f g z,as=[.ints f,.ints g,.int z]/\0<z/\ln f+ln g<=1000/\(∀m∈f,m.natAbs<2^9000)/\(∀m∈g,m.natAbs<2^9000)) λas=>match as with|[.ints f,.ints g,.int z]=>Tz z (jy f g)|_=>[]):=by
 refine IV T.K7 qH (λ_ ⟨a,b,c,h,_⟩=>h▸rfl) (λf D A q s H E d=>⟨_,(jr (ue (i:=3) qH.nd rfl k4 (rJ (kZ (jq jt ju)) (lO (jU 0 T.jQ) (jU 1 T.jQ)) (λ_=>rfl))) (jr (qd (k:=4) aB rfl (by rfl) T.mZ (jU 0 T.jQ) qH.nd rfl k4 (jw (qd (k:=5) aB rfl (by rfl) T.mZ (jU 1 T.jQ) qH.nd rfl k4 (jw (tG 3 (lO (xn 4) (xn 5)) (lO (lW 3 (lO (xn 4) (xn 5)) (λ_ _=>rfl)) (nW (lW 0 (xn 4) (λ_ _=>rfl)) (lW 1 (xn 5) (λ_ _=>rfl))))))))) (lB 3 (jw (mD (pD (N5 T) d (jq (xl 3) (jq (xn 2) ju)))))))),λas L=>?_⟩)
 obtain⟨f,g,z,rfl,M,R,I,J⟩:=L;have F:((ln f:Int)+(ln g:Int)).toNat=ln f+ln g:=by lia
 refine⟨⟨⟨⟨tJ,tJ⟩,tJ⟩,⟨.inl rfl,.inl rfl⟩,?_,?_⟩,λy l=>?_⟩
 .show -(2:Int)^63<=(ln f:Int)+(ln g:Int);lia
 .show((ln f:Int)+(ln g:Int)).toNat<=1000;lia
 have l:y=List.replicate (ln f+ln g) 0:=by rw[<- F];exact l
 refine⟨.inl rfl,⟨by show -(2:Int)^62<=(ln f:Int);lia,by show(ln f:Int)<2^62;lia⟩,λi Z=>∃r t v,Z=[k7 f,k7 g,k6 z,.ow (.ints r),t,v]/\uE f g i 0 r,⟨y,.un,.un,rfl,by rw[l];exact Es f g⟩,?_,?_⟩
 .rintro i Z o ⟨r,t,v,rfl,d⟩;have o:i<ln f:=by have o:i<(ln f:Int).toNat:=o;lia
  refine⟨.inl rfl,⟨by show -(2:Int)^62<=(ln g:Int);lia,by show(ln g:Int)<2^62;lia⟩,λj Z=>∃r v,Z=[k7 f,k7 g,k6 z,.ow (.ints r),k6 i,v]/\uE f g i j r,⟨r,v,rfl,d⟩,?_,?_⟩
  .rintro j Z p ⟨r,v,rfl,d⟩;have p:j<ln g:=by have p:j<(ln g:Int).toNat:=p;lia
   have u:-(ln r:Int)<=(i:Int)+(j:Int):=by lia
   have x:(i:Int)+(j:Int)<(ln r:Int):=by have:=d.1;lia
   have N:lD (ln r) ((i:Int)+(j:Int))=i+j:=by unfold lD;rw[af (by lia)];lia
   have B:lD (ln f) (i:Int)=i:=by unfold lD;rw[af (by lia)];lia
   have C:lD (ln g) (j:Int)=j:=by unfold lD;rw[af (by lia)];lia
   have O:f.getD i 0∈f:=FM.getD_mem o;have Q:g.getD j 0∈g:=FM.getD_mem p;refine⟨⟨⟨.inr (.inl rfl),⟨rfl,rfl⟩,u,x⟩,⟨.inl rfl,rfl,by show -(ln f:Int)<=(i:Int);lia,by show(i:Int)<(ln f:Int);lia⟩,⟨.inl rfl,rfl,by show -(ln g:Int)<=(j:Int);lia,by show(j:Int)<(ln g:Int);lia⟩,?_⟩,rfl,⟨rfl,rfl⟩,⟨u,x⟩,r.set (i+j) (r.getD (i+j) 0+f.getD i 0*g.getD j 0),k6 j,?_,Lf d o p⟩
   .show IntMulOk (f.getD (lD (ln f) (i:Int)) 0) (g.getD (lD (ln g) (j:Int)) 0);rw[B,C];exact qx (n:=9000) (m:=9000) (I _ O) (J _ Q)
   .show[k7 f,k7 g,k6 z,.ow (.ints (r.set (lD (ln r) ((i:Int)+(j:Int))) (r.getD (lD (ln r) ((i:Int)+(j:Int))) 0+f.getD (lD (ln f) (i:Int)) 0*g.getD (lD (ln g) (j:Int)) 0))),k6 i,k6 j]=_;rw[N,B,C]
  .rintro Z ⟨r,v,rfl,d⟩;have e:(ln g:Int).toNat=ln g:=by lia
   have d:uE f g i (ln g:Int).toNat r:=d;rw[e]at d;exact⟨r,_,v,rfl,Js d⟩
 .rintro Z ⟨r,t,v,rfl,d⟩;have e:(ln f:Int).toNat=ln f:=by lia
  have d:uE f g (ln f:Int).toNat 0 r:=d;rw[e]at d;have G:=row_end d;refine⟨⟨⟨rfl,rfl,tJ⟩,r,z,rfl,M,?_⟩,?_⟩
  .rw[d.1];lia
  .show lq (r.map (pl z))=_;rw[G];rfl
def XR (n:Int):Prop:=(n % 2=0/\2<n)\/(n % 3=0/\3<n)\/(n % 5=0/\5<n)
open Classical in
def smN:Nat->Int->Int
 |0,n=>n
 |k+1,n=>if XR n then smN k (n-1) else n
def Tf (h:¬XR n):∀k,smN k n=n
 |0=>rfl
 |k+1=>ae h
def Oz:∀(k:Nat) (n:Int),2<=n->n<=31->n<=(k:Int)+2->jR (smN k n)
 |0,n,h1,_,h3=>by
  have e:n=2:=by lia
  rw[e];exact abj
 |k+1,n,h1,h2,h3=>by
  unfold smN;split
  .rename_i b;have:2<n:=by
    rcases b with b|b|b
    .exact b.2
    .have:=b.2;lia
    .have:=b.2;lia
   exact Oz k (n-1) (by lia) (by lia) (by lia)
  .rename_i b;refine⟨h1,by lia,λd a f z=>b ?_⟩;have g:d<=5:=by refine cB λc=>?_;have:=vH (d:=6) (e:=d) (by lia) (by lia);lia
   have e:d=2\/d=3\/d=4\/d=5:=by lia
   rcases e with e|e|e|e<;>subst e
   .exact .inl ⟨z,by lia⟩
   .exact .inr (.inl ⟨z,by lia⟩)
   .exact .inl ⟨by lia,by lia⟩
   .exact .inr (.inr ⟨z,by lia⟩)
def smF (c:Int):Int:=smN 31 (2+c % 30)
def Ym (c:Int):jR (smF c):=by have h1:=bw c (show(30:Int)≠0 by decide);have h2:=bc c (show(0:Int)<30 by decide);exact Oz 31 _ (by lia) (by lia) (by lia)
def Ci:Ok P w K mg base 1 "_law_small_prime" ["_law_cell"] (Hw K (ph U) (λas=>∃c,as=[.int c]) λas=>match as with|[.int c]=>smF c|_=>0):=by
 refine uK T.Ed qZ (λ_ ⟨a,h⟩=>h▸rfl) (λf l A o s H E r=>⟨_,(jr (jH (i:=1) qZ.nd rfl k4 (lO jt (lV (xn 0) jt))) (jr (mJ aB (L2.PW.pt (uA (L2.PW.pt (HH (vZ (lV (xn 1) jt) jt) (Ad (uM (xn 1) jt)))) (uA (L2.PW.pt (HH (vZ (lV (xn 1) jt) jt) (Ad (uM (xn 1) jt)))) (zf (L2.PW.pt (HH (vZ (lV (xn 1) jt) jt) (Ad (uM (xn 1) jt)))))))) (jw (jH (i:=1) qZ.nd rfl k4 (lN (xn 1) jt)))) (jw (jD (xn 1))))),λas p=>?_⟩)
 obtain⟨c,rfl⟩:=p;have h1:=bw c (show(30:Int)≠0 by decide);have h2:=bc c (show(0:Int)<30 by decide);refine⟨⟨tJ,rfl,tJ,by decide⟩,λn d=>?_⟩;have d:n=2+c % 30:=d;refine⟨λZ=>∃n,∃k:Nat,Z=[k6 c,k6 n]/\(2<=n/\n<=31)/\n<=(k:Int)/\smN k n=smF c,λZ=>(wK Z 1).toNat,⟨n,31,rfl,⟨by lia,by lia⟩,by lia,by rw[d];rfl⟩,?_⟩;rintro Z ⟨n,k,rfl,⟨t,u⟩,x,g⟩;refine⟨⟨⟨⟨⟨rfl,tJ,by decide⟩,tJ⟩,λ_=>⟨rfl,tJ⟩⟩,λ_=>⟨⟨⟨⟨rfl,tJ,by decide⟩,tJ⟩,λ_=>⟨rfl,tJ⟩⟩,λ_=>⟨⟨⟨rfl,tJ,by decide⟩,tJ⟩,λ_=>⟨rfl,tJ⟩⟩⟩⟩,λq=>?_,λq=>?_⟩
 .have q:XR n:=q;have v:2<n:=by
   rcases q with b|b|b
   .exact b.2
   .have:=b.2;lia
   .have:=b.2;lia
  obtain⟨k,rfl⟩:∃j,k=j+1:=⟨k-1,by lia⟩;refine⟨⟨rfl,tJ⟩,λm e=>⟨⟨m,k,rfl,?_⟩,?_⟩⟩
  .have e:m=n-1:=e;rw[e];refine⟨⟨by lia,by lia⟩,by lia,?_⟩;rw[<- g];exact(af q).symm
  .have e:m=n-1:=e;show m.toNat<n.toNat;lia
 .have q:¬XR n:=q;refine⟨rfl,?_⟩;show PV.int n=PV.int (smF c);rw[<- g,Tf q]
def stP (p n:Int):Nat->List Int×Int
 |0=>([],n)
 |i+1=>((stP p n i).1++[(stP p n i).2 / 3 % p],(stP p n i).2 / p)
def Bf (p n:Int):∀i,ln (stP p n i).1=i
 |0=>rfl
 |i+1=>by show ln ((stP p n i).1++[_])=i+1;rw[ai,Bf p n i];rfl
def Ou (a:2<=p)(n:Int):∀i,∀m∈(stP p n i).1,pl p m=m
 |0,m,hm=>by cases hm
 |i+1,m,hm=>by
  rcases cY.mp hm with h|h
  .exact Ou a n i m h
  .rw[bx.mp h,lJ (by lia)];exact eH _ (fJ p)
def Ih (p c:Int):List Int:=(stP p (c % 10^60) (1+c % 10^60 % 3).toNat).1++[1]
structure adh (p:Int)(x:List Int):Prop where
 fo:Fo p x
 one:jB x=1
 l2:2<=ln x
 l4:ln x<=4
def Ur (h:2<=p)(c:Int):adh p (Ih p c):=by
 unfold Ih;have h1:=bw (c % 10^60) (show(3:Int)≠0 by decide);have h2:=bc (c % 10^60) (show(0:Int)<3 by decide);generalize c % 10^60=n at *
 have a:=Bf p n (1+n % 3).toNat;have s:=Ou h n (1+n % 3).toNat;generalize (stP p n (1+n % 3).toNat).1=l at *
 have one:jB (l++[1])=1:=by show(l++[1]).getD (ln (l++[1])-1) 0=1;rw[xP,af (by rw[ai,bv];lia)]
 refine⟨⟨λ_=>by show jB (l++[1])≠0;rw[one];decide,λn=>?_⟩,one,by rw[ai,bv];lia,by rw[ai,bv];lia⟩;rw[xP];split
 .exact aak h
 .by_cases d:n<ln l
  .exact s _ (FM.getD_mem d)
  .rw[jz (by lia),lU]
def ace (h:jR p):p.natAbs.log2<9000:=by have a:=h.1;have b:=h.2.1;refine(iV (by lia)).mpr ?_;exact aO (show p.natAbs<=2^14 by lia) (a7 (by decide) (by decide))
def Vj:Ok P w K mg base 1 "_law_piece" ["_law_cell","_law_prime_here"] (Ew K (ph U) (λas=>∃c p,as=[.int c,.int p]/\jR p) λas=>match as with|[.int c,.int p]=>Ih p c|_=>[]):=by
 refine IV T.Xo u5 (λ_ ⟨a,b,h,_⟩=>h▸rfl) (λf x A o s H E y=>⟨_,(jr (jH (i:=2) u5.nd rfl k4 (lV (xn 0) (yL jt jt))) (jr (ue (i:=3) u5.nd rfl k4 (kZ ju)) (jr (qd (k:=4) aB rfl (by rfl) T.mZ (lO jt (lV (xn 2) jt)) u5.nd rfl k4 (jr (Lp 3 (lV (tY (xn 2) jt) (xn 1))) (jw (jH (i:=2) u5.nd rfl k4 (tY (xn 2) (xn 1)))))) (lB 3 (jw (mD (uq (xl 3) (jM (kZ (jq jt ju)))))))))),λas j=>?_⟩)
 obtain⟨c,p,rfl,j⟩:=j;have r:0<p:=by have:=j.1;lia
 have lp:=ace j;refine⟨⟨rfl,⟨tJ,tJ,by decide,by decide,by decide⟩,by decide⟩,λn d=>?_⟩;have d:n=c % 10^60:=d;have g:Ih p c=(stP p n (1+n % 3).toNat).1++[1]:=by rw[d];rfl
 clear d;have h1:=bw n (show(3:Int)≠0 by decide);have h2:=bc n (show(0:Int)<3 by decide);refine⟨⟨tJ,tJ⟩,λt e=>?_⟩;have e:t=[]:=e;refine jL (Z':=[k6 c,k6 p,k6 n,.ow (.ints t),.un]) rfl ?_;refine⟨⟨tJ,rfl,tJ,by decide⟩,⟨by lia,by lia⟩,λi Z=>∃v,Z=[k6 c,k6 p,k6 (stP p n i).2,.ow (.ints (stP p n i).1),v],⟨.un,by rw[e];rfl⟩,?_,?_⟩
 .rintro i Z q ⟨v,rfl⟩;have q:i<(1+n % 3).toNat:=q;have u:=Bf p n i;refine⟨rfl,⟨⟨rfl,tJ,by decide,by decide +kernel⟩,rfl,r⟩,?_,⟨⟨rfl,rfl,r,lp⟩,λm l=>⟨k6 (i:Int),?_⟩⟩⟩
  .show ln (stP p n i).1<sizeLine;rw[u];exact small1000 (by lia)
  .have l:m=(stP p n i).2 / p:=l;rw[l];rfl
 .rintro Z ⟨v,rfl⟩;have u:=Bf p n (1+n % 3).toNat;refine⟨⟨rfl,⟨⟨tJ,tJ⟩,tJ⟩,bI (small1000 (by show ln (stP p n (1+n % 3).toNat).1+1<=1000;lia))⟩,?_⟩;exact g.symm
open Pl in
def Wd (d:jR p)(f:Fo p b)(h:b≠[]):mk p b=con p (jB b)*mk p (sE p b):=by
 have l:2<=p:=d.1;have g:=yt d f.form f.red h;have one:pl p 1=1:=by rw[lJ (by lia)];exact br (by decide) (by lia)
 have i:wF p b=pl p (1*tu (jB b) p):=ae h;obtain⟨h1,_⟩:=hov l g 1 (wF p b) one (by rw[i];rfl);have h2:p ∣ wF p b*jB b-1:=by
  have:=lR p (wF p b*jB b);rw[h1]at this;have e:wF p b*jB b-1 = -(1-wF p b*jB b):=by lia
  rw[e];exact aV.mpr this
 rw[sJ];refine lZ.mpr λn=>?_;rw[j8];unfold sE;rw[kh,mK (λm=>wF p b*m) (aQ _)];have j:=aL (a:=p) (b:=jB b) (lR p (wF p b*b.getD n 0));have k:=be (c:=b.getD n 0) h2;have e:b.getD n 0-jB b*pl p (wF p b*b.getD n 0) = -((wF p b*jB b-1)*b.getD n 0) + -(jB b*(pl p (wF p b*b.getD n 0)-wF p b*b.getD n 0)):=by rw[gf,cr,cj,cg (wF p b) (jB b),bH];lia
 rw[e];exact aU (aV.mpr k) (aV.mpr j)
open Pl in
def Wl (x y:Pl p):Tz p (jy (ls x) (ls y))=ls (x*y):=by rw[<- qg,<- lM,jV,jV]
def prN (p m:Int)(made:List Int)(c:Int):List Int:=if (ln made:Int)+(ln (Ih p c):Int)<=m+2 then Tz p (jy made (Ih p c)) else made
def prodF (p m:Int)(c:List Int):List Int:=c.foldl (prN p m) [1]
open Pl in
def JT (j:jR p)(n:0<=most)(a:Li):∃x:Pl p,Mo x/\prodF p most a=ls x/\(ln (ls x):Int)<=most+1:=by
 have b:2<=p:=j.1;have i:∀(a:List Int) (made:List Int),(∃x:Pl p,Mo x/\made=ls x/\(ln (ls x):Int)<=most+1)->∃x:Pl p,Mo x/\a.foldl (prN p most) made=ls x/\(ln (ls x):Int)<=most+1:=λa=>by
  induction a with
  |nil=>exact λ_ h=>h
  |cons c a k=>
   rintro made ⟨x,m,rfl,l⟩;refine k _ ?_;unfold prN;have g:=Ur b c;have d:ls (mk p (Ih p c))=Ih p c:=rD g.fo;have f:Mo (mk p (Ih p c)):=by show jB (ls (mk p (Ih p c)))=1;rw[d];exact g.one
   by_cases q:(ln (ls x):Int)+(ln (Ih p c):Int)<=most+2
   .rw[af q];have e:=Mo.len b m f;rw[d]at e;refine⟨x*mk p (Ih p c),Mo.mul b m f,?_,by lia⟩;rw[<- d,Wl,jV]
   .rw[ae q];exact⟨x,m,rfl,l⟩
 refine i a [1] ⟨1,Mo.one b,(uO b).symm,?_⟩;rw[uO b];show(1:Int)<=most+1;lia
open Pl in
def Ni:Ok P w K mg base 4 "_law_product" ["_law_cells","_law_prime_here","_law_most"] (Sv K (ph U) (λas=>∃d p m,as=[.ints d,.int p,.int m]/\jR p/\0<=m/\m<=100) λas=>match as with|[.ints d,.int p,.int m]=>prodF p m d|_=>[]):=by
 refine uK T.Q8 qO (λ_ ⟨a,b,c,h,_⟩=>h▸rfl) (λf D A t s H E y=>⟨_,(jr (jE (i:=3) qO.nd rfl k4 (jM (kZ (jq jt ju)))) (jr (Bl (k:=4) aB rfl (xl 0) qO.nd rfl k4 (jr (jE (i:=5) qO.nd rfl k4 (jM (pD (Vj T) y (jq (xn 4) (jq (xn 1) ju))))) (jw (lF (Zu (lO (jU 3 T.jQ) (jU 5 T.jQ)) (lO (xn 2) jt)) (jw (jE (i:=3) qO.nd rfl k4 (jM (pD (mQ T) y (jq (xl 3) (jq (xl 5) (jq (xn 1) ju))))))) j6)))) (jw (jD (xl 3))))),λas j=>?_⟩)
 obtain⟨d,p,m,rfl,j,G,M⟩:=j;have I:2<=p:=j.1;refine⟨⟨⟨tJ,tJ⟩,tJ⟩,λz e=>?_⟩;replace e:z=[1]:=e;refine jL (Z':=[k7 d,k6 p,k6 m,k7 z,.un,.un]) rfl ?_;subst e;refine⟨rfl,λi Z=>∃v u,Z=[k7 d,k6 p,k6 m,k7 (prodF p m (d.take i)),v,u],⟨.un,.un,rfl⟩,?_,?_⟩
 .rintro i c Z n ⟨v,u,rfl⟩;have n:d[i]?=some c:=n;obtain⟨x,N,F,L⟩:=JT j G (d.take i);have o:prodF p m (d.take (i+1))=prN p m (prodF p m (d.take i)) c:=by unfold prodF;rw[pJ n,List.foldl_append];rfl
  rw[F]at o ⊢;have B:=Ur I c;refine⟨⟨⟨rfl,rfl,tJ⟩,c,p,rfl,j⟩,λC g=>?_⟩;replace g:C=Ih p c:=g;refine jL (Z':=[k7 d,k6 p,k6 m,k7 (ls x),k6 c,k7 C]) rfl ?_;subst g;have J:=B.l4;refine⟨⟨⟨.inl rfl,.inl rfl⟩,rfl,tJ⟩,λq=>?_,λq=>?_⟩
  .have q:(ln (ls x):Int)+(ln (Ih p c):Int)<=m+2:=q;refine⟨⟨⟨rfl,rfl,rfl,tJ⟩,ls x,Ih p c,p,rfl,by lia,by lia,(kO x).bd j,B.fo.bd j⟩,λr l=>⟨k6 c,k7 (Ih p c),?_⟩⟩;replace l:r=Tz p (jy (ls x) (Ih p c)):=l;rw[o,l];unfold prN;rw[af q];rfl
  .have q:¬(ln (ls x):Int)+(ln (Ih p c):Int)<=m+2:=q;refine⟨k6 c,k7 (Ih p c),?_⟩;rw[o];unfold prN;rw[ae q]
 .rintro Z ⟨v,u,rfl⟩;refine⟨rfl,?_⟩;show PV.ints (prodF p m (d.take (ln d)))=PV.ints (prodF p m d);rw[cU]
open Classical in
def pgN:Nat->Int->Int
 |0,n=>n
 |k+1,n=>if jR n then n else pgN k (n-1)
def Kf (h:jR n):∀k,pgN k n=n
 |0=>rfl
 |k+1=>af h
def Qu:∀(k:Nat) (n:Int),2<=n->n<=9973->n<=(k:Int)+2->jR (pgN k n)
 |0,n,h1,_,h3=>by
  have e:n=2:=by lia
  rw[e];exact abj
 |k+1,n,h1,h2,h3=>by
  by_cases b:jR n
  .rw[Kf b];exact b
  .have e:pgN (k+1) n=pgN k (n-1):=ae b;rw[e];have:n≠2:=λz=>b (by rw[z];exact abj);exact Qu k (n-1) (by lia) (by lia) (by lia)
def pgF (c:Int):Int:=pgN 9973 (2+c)
def V6:Ok P w K mg base 1 "_law_prime" ["_law_cell"] (Hw K (ph U) (λas=>∃c,as=[.int c]/\0<=c/\c<=9971) λas=>match as with|[.int c]=>pgF c|_=>0):=by
 refine uK T.YK tL (λ_ ⟨a,h,_⟩=>h▸rfl) (λf J A C s H E hr=>⟨_,(jr (jH (i:=1) tL.nd rfl k4 (lO jt (xn 0))) (jr (jH (i:=2) tL.nd rfl k4 jt) (jr (mJ aB (Zu (nW (xn 2) (xn 2)) (xn 1)) (uU (lF (vZ (lV (xn 1) (xn 2)) jt) (jr (jH (i:=1) tL.nd rfl k4 (lN (xn 1) jt)) (jw (jH (i:=2) tL.nd rfl k4 jt))) j6) (jw (jH (i:=2) tL.nd rfl k4 (lO (xn 2) jt))))) (jw (jD (xn 1)))))),λas M=>?_⟩)
 obtain⟨c,rfl,S,Y⟩:=M;refine⟨⟨tJ,rfl⟩,λn v=>⟨tJ,λa D=>?_⟩⟩;have v:n=2+c:=v;have D:a=2:=D;refine⟨λZ=>∃n a,∃k:Nat,Z=[k6 c,k6 n,k6 a]/\(2<=n/\n<=9973)/\(2<=a/\a<=10000)/\(∀d,2<=d->d<a->¬n % d=0)/\n<=(k:Int)/\pgN k n=pgF c,λZ=>(wK Z 1).toNat*20000+(20000-wK Z 2).toNat,⟨n,a,9973,rfl,⟨by lia,by lia⟩,⟨by lia,by lia⟩,λd p r=>by lia,by lia,by rw[v];rfl⟩,?_⟩;rintro Z ⟨n,a,k,rfl,⟨F,G⟩,⟨I,Q⟩,nd,N,u⟩;have g:∀x:Int,0<=x->x<=10000->x.natAbs<2^14:=λx h1 h2=>by lia
 refine⟨⟨⟨rfl,rfl,qx (g a (by lia) (by lia)) (g a (by lia) (by lia))⟩,rfl⟩,λq=>?_,λq=>?_⟩
 .have q:a*a<=n:=q;have R:a<=100:=by refine cB λz=>?_;have:=vH (d:=101) (e:=a) (by lia) (by lia);lia
  have n4:4<=n:=by have:=vH (d:=2) (e:=a) (by lia) (by lia);lia
  refine⟨λZ=>∃o l,Z=[k6 c,k6 o,k6 l]/\((o=n/\l=a/\¬n % a=0)\/(o=n-1/\l=1/\n % a=0)),⟨⟨⟨rfl,rfl,by show 0<a;lia⟩,tJ⟩,λz=>?_,λz=>⟨n,a,rfl,.inl ⟨rfl,rfl,z⟩⟩⟩,?_⟩
  .exact⟨⟨rfl,tJ⟩,λm L=>⟨tJ,λb t=>⟨m,b,rfl,.inr ⟨L,t,z⟩⟩⟩⟩
  .rintro O ⟨o,l,rfl,h⟩;refine⟨⟨rfl,tJ⟩,λb t=>?_⟩;have t:b=l + 1:=t;have gm:∀x y:Int,(wK [k6 c,k6 x,k6 y] 1).toNat*20000+(20000-wK [k6 c,k6 x,k6 y] 2).toNat=x.toNat*20000+(20000-y).toNat:=λ_ _=>rfl;rcases h with⟨rfl,rfl,z⟩|⟨rfl,rfl,z⟩
   .refine⟨⟨o,b,k,rfl,⟨F,G⟩,⟨by lia,by lia⟩,λd p r=>?_,N,u⟩,?_⟩
    .by_cases e:d=l
     .rw[e];exact z
     .exact nd d p (by lia)
    .show o.toNat*20000+(20000-b).toNat<o.toNat*20000+(20000-l).toNat;lia
   .obtain⟨k,rfl⟩:∃j,k=j+1:=⟨k-1,by lia⟩;refine⟨⟨n-1,b,k,rfl,⟨by lia,by lia⟩,⟨by lia,by lia⟩,λd p r=>by lia,by lia,?_⟩,?_⟩
    .rw[<- u];exact(ae λB=>B.2.2 a I q z).symm
    .show(n-1).toNat*20000+(20000-b).toNat<n.toNat*20000+(20000-a).toNat;lia
 .have q:¬a*a<=n:=q;refine⟨rfl,?_⟩;show PV.int n=PV.int (pgF c);have B:jR n:=⟨F,G,λd p r=>nd d p (Int.not_le.mp λz=>q (Int.le_trans (vH (by lia) z) r))⟩;rw[<- u,Kf B]
namespace Pl
variable {p:Int}
structure RX (L:List (Pl p×Nat)):Prop where
 irr:∀q∈L,wC q.1/\ln (ls q.1)<=31/\q.2≠0
 ne:L.Pairwise λa b=>a.1≠b.1
def RX.perm {L M:List (Pl p×Nat)}(h:RX L)(e:L.Perm M):RX M:=⟨λq a=>h.irr q (e.mem_iff.mpr a),(e.pairwise_iff (λh=>cw h)).mp h.ne⟩
def Xk {g:Nat->Nat}{L M:List (Pl p×Nat)}(h:L.Perm M):Pr L g=Pr M g:=by
 induction h with
 |nil=>rfl
 |cons x _ i=>rw[kI,kI,i]
 |swap x y l=>rw[kI,kI,kI,kI];generalize Pr l g=z;generalize x.1^g x.2=a;generalize y.1^g y.2=b;grind
 |trans _ _ a b=>exact a.trans b
def LtP (a b:Pl p×Nat):Prop:=pM (ls a.1) (ls b.1)=true
end Pl
open Pl in
def QB (b:jR p)(m:Mo x)(f:0<a)(g:a<p):ls (con p a*x)≠[]/\jB (ls (con p a*x))=a/\ln (ls (con p a*x))=ln (ls x)/\sE p (ls (con p a*x))=ls x:=by
 have u:2<=p:=b.1;have nd:¬p ∣ a:=λz=>by have:=fw f z;lia
 have get:∀n,(ls (con p a*x)).getD n 0=pl p (a*(ls x).getD n 0):=λn=>by
  have e:con p a*x=mk p (zJ a (ls x)):=by have:=sJ (p:=p) a (ls x);rw[jV]at this;exact this
  rw[e,qg,kh,j8]
 have pos:=m.pos;have top:(ls (con p a*x)).getD (ln (ls x)-1) 0=a:=by have q:(ls x).getD (ln (ls x)-1) 0=1:=m;rw[get,q,bG,lJ (by lia)];exact br (by lia) g
 have s:ln (ls (con p a*x))<=ln (ls x):=m5 (kO _).form λn k=>by rw[get,jz (xs:=ls x) k,aQ,lU]
 have r:ln (ls x)<=ln (ls (con p a*x)):=cT λh=>by rw[jz (xs:=ls (con p a*x)) (by lia)]at top;lia
 have c:ln (ls (con p a*x))=ln (ls x):=by lia
 have ne:ls (con p a*x)≠[]:=eR.mp (by lia);have l:jB (ls (con p a*x))=a:=by show(ls (con p a*x)).getD (ln (ls (con p a*x))-1) 0=a;rw[c];exact top
 refine⟨ne,l,c,?_⟩;have d:=Wd b (kO (con p a*x)) ne;rw[jV,l]at d;obtain⟨t,o⟩:=mL b nd;have i:=xR o;have e:x=mk p (sE p (ls (con p a*x))):=by have:=congrArg (λy=>con p t*y) d;rw[<- mul_assoc,<- mul_assoc,i,one_mul,one_mul]at this;exact this
 have G:=zy b (kO (con p a*x)).form (kO (con p a*x)).red;have j:ls (mk p (sE p (ls (con p a*x))))=sE p (ls (con p a*x)):=rD ⟨G.form,G.red⟩;rw[<- j,<- e]
open Pl in
def Mj (h:jR p)(ne:Tz p f≠[])(n:ln (sE p (Tz p f))<=31):∃A:List (Pl p×Nat),RX A/\A.Pairwise LtP/\Bu p f=.tup [.int (jB (Tz p f)),.lst (A.map Fe)]/\ls (Pr A id)=sE p (Tz p f)/\ln A+1<=ln (sE p (Tz p f)):=by
 obtain⟨L,F⟩:=NP h ne n;have d:=Kq h F n;obtain⟨c,s⟩:=uZ F.nd;obtain⟨A,b,e⟩:=yF c rfl;have i:RX L:=⟨λq a=>⟨(F.irr q a).1,(F.irr q a).2.1,(F.irr q a).2.2.1⟩,F.ne⟩;refine⟨A,i.perm b.symm,?_,?_,?_,?_⟩
 .rw[<- e,dC]at s;exact s
 .unfold Bu;rw[Nj F.nd d,e]
 .rw[Xk b];exact F.eN
 .rw[b.length_eq];exact F.len h
section
variable {p:Int}
open Pl
def VN (a:jR p){c:Nat->Int}{E:Nat->Pl p}:∀{n:Nat},(∀k,k<n->Go G (fx (E k)))->Go G (fx (nU c E n))
 |0,_=>by show Go G (fx (con p 0));rw[Uv a];exact Go.zero G
 |n+1,h=>by show Go G (fx (nU c E n+con p (c n)*E n));rw[Z0 a,PQ a];exact(VN a λk b=>h k (by lia)).add ((h n (by lia)).mul _)
def xH (b:jR p){G:Pl p}(mg:Mo G)(a:ln (ls G)<=200):ln (j9 p (qT p (ls G)))=ln (ls G)-1/\∀k,k<ln (ls G)-1->ln ((j9 p (qT p (ls G))).getD k [])=ln (ls G)-1:=by have q:ln (qT p (ls G))=ln (ls G)-1:=nG ..;refine⟨(Cj p _).trans q,λk h=>?_⟩;rw[Be (by lia),bn];exact(Lw b mg a _ h).2
def aao (d:jR p)(mg:Mo G)(o:ln (ls G)<=200)(h2:2<=ln (ls G))(s:∀j,j<ln (ls G)-1->p ∣ sm (ln (ls G)-1) λk=>z k*ent (j9 p (qT p (ls G))) k j):Go G (fx (nU z (λk=>xx p^k) (ln (ls G)-1))):=by
 obtain⟨iv,f⟩:=S6 d;obtain⟨g,i⟩:=xH d mg o;have K:=Th (iv:=iv) d.1 f g i;have l:=Ff d mg o h2 K;obtain⟨c,m⟩:=K.span z s;generalize yU (lE p iv (j9 p (qT p (ls G))) (ln (ls G)-1)) (turnT p iv (j9 p (qT p (ls G))) (ln (ls G)-1))=t at K l m;have mem:∀k,k<ln t->t.getD k []∈t:=λk h=>by rw[gQ,ac h];exact bK h
 have e:nU z (λk=>xx p^k) (ln (ls G)-1)=nU c (λk=>mk p (t.getD k [])) (ln t):=by
  rw[<- jV (nU z _ _),<- jV (nU c _ _)];refine lZ.mpr λj=>?_;have a:=vz (p:=p) (c:=z) (r:=ux) (E:=λk=>xx p^k) (n:=ln (ls G)-1) (λk _=>zc k) j;rw[Vy]at a;have b:=vz (p:=p) (c:=c) (r:=λk=>t.getD k []) (E:=λk=>mk p (t.getD k [])) (n:=ln t) (λk _=>rfl) j;by_cases q:j<ln (ls G)-1
  .rw[af q]at a;have:=dj (aU a (m j q)) b
   rwa [show ∀x y z w:Int,x-y+(y-z)-(w-z)=x-w from λx y z w=>by lia]at this
  .rw[ae q,aJ]at a;rw[m9 λk h=>by rw[jz (xs:=t.getD k []) (by rw[K.len _ (mem k h)];lia),aQ],aJ]at b;exact dj a b
 rw[e];exact VN d λk h=>l.st _ (mem k h)
def Wc (h:jR p){q:Pl p}(I:wC q)(u:ln (ls q)<=200){z:Nat->Int}(A:z 0=0)(v:∀j,j<ln (ls q)-1->p ∣ sm (ln (ls q)-1) λk=>z k*ent (j9 p (qT p (ls q))) k j):∀k,k<ln (ls q)-1->p ∣ z k:=λk d=>by
 have f:2<=p:=h.1;have B:=I.deg;have g:=aao h I.mo u (by lia) v;have t:(ls (nU z (λk=>xx p^k) (ln (ls q)-1))).length<=ln (ls q)-1:=Hn f (r:=ux) (λk _=>zc k) λk d j C=>by rw[ud,ae (by lia)]
 have a:=vz (p:=p) (c:=z) (r:=ux) (E:=λk=>xx p^k) (n:=ln (ls q)-1) (λk _=>zc k) k;rw[Vy,af d]at a;obtain⟨s,_,_,o⟩:=T4 h I (by lia) g;have e:=t8 I.mo o (by
  have:=sub_len f (n:=ln (ls q)-1) t (y:=con p s) (aA (uo s) (by lia));lia)
 by_cases c:k=0
 .rw[c,A];exact aS p
 .have i:nU z (λk=>xx p^k) (ln (ls q)-1)=con p s:=by generalize nU z (λk=>xx p^k) (ln (ls q)-1)=x at e;generalize con p s=y at e;grind
  rw[i]at a;have b:=Pl.uv (p:=p) (x:=con p s) (a:=[s]) rfl k;have l:([s]:List Int).getD k 0=0:=by obtain⟨m,rfl⟩:∃m,k=m+1:=⟨k-1,by lia⟩;rfl
  rw[l,aJ]at b;have:=dj b a
  rwa [show ∀x y:Int,x-(x-y)=y from λx y=>by lia]at this
end
def zK (F T:Tab)(N:Nat):Nat->Tab
 |0=>List.replicate (N+1) (List.replicate N 0)
 |i+1=>(zK F T N i).set ((F.getD i []).idxOf 1) (T.getD i [])
def Az (F T:Tab)(N:Nat):∀i,ln (zK F T N i)=N+1
 |0=>aC ..
 |i+1=>by show ln ((zK F T N i).set _ _)=N+1;rw[bn,Az F T N i]
def WF {t:Tab}{i k:Nat}(h:i<ln t):(t.set i r).getD k []=if k=i then r else t.getD k []:=by
 rw[gQ,dX];by_cases e:k=i
 .subst e;rw[af rfl,af rfl,af h];rfl
 .rw[ae λz=>e z.symm,ae e,gQ]
def YQ {r:Li}{k:Nat}(h:k<ln r)(h1:r.getD k 0=1)(h0:∀j,j<k->r.getD j 0=0):r.idxOf 1=k:=by
 have e:r[k]=1:=by rw[gQ,ac h]at h1;exact h1
 have l:r.idxOf 1<=k:=cT λz=>by have:=ib (p:=(· == (1:Int))) (xs:=r) (i:=k) z;simp[e]at this
 have lt:r.idxOf 1<ln r:=by lia
 have a:r[r.idxOf 1]=1:=List.getElem_idxOf lt;refine iq l (cT λz=>?_);have:=h0 _ z;rw[gQ,ac lt,a]at this;exact absurd this (by decide)
structure Bk (p:Int)(N:Nat)(M F T:Tab)(v:Nat->Nat):Prop where
 fl:ln F=N
 fr:∀i,i<N->ln (F.getD i [])=N+1
 tl:ln T=N
 tr:∀i,i<N->ln (T.getD i [])=N
 lt:∀i,i<N->v i<N+1
 ix:∀i,i<N->(F.getD i []).idxOf 1=v i
 mem:∀i,i<N->(1:Int)∈F.getD i []
def ach (Z:jR p){N:Nat}{M:Tab}(ml:ln M=N)(mr:∀i,i<N->ln (M.getD i [])=N+1)(free:∀z:Nat->Int,(∀j,j<N+1->p ∣ sm N λk=>z k*ent M k j)->∀k,k<N->p ∣ z k){iv:Int->Int}(y:∀x,0<x->x<p->p ∣ iv x*x-1) :
  (∃v,Bk p N M (lE p iv M (N+1)) (turnT p iv M (N+1)) v)/\(∀k,k<N+1->ln ((zK (lE p iv M (N+1)) (turnT p iv M (N+1)) N N).getD k [])=N)/\Al p N N (mm (N+1) (ent M) (ent (zK (lE p iv M (N+1)) (turnT p iv M (N+1)) N N))) pB:=by
 have G:2<=p:=Z.1;have A:0<p:=by lia
 obtain⟨s,t,tB,L,⟨d,v,S⟩,O,Q⟩:=M6 G y ml mr;have C:=yd A t.len t.row L;have u:=yd A t.len t.row O;have q:=yd A tB.len tB.row Q;have E:Al p N N (ent (uQ N)) pB:=.of λi j f g=>vC f g;replace u:=u.trans E;replace q:=q.trans E;have J:d=N:=by refine iq S.dn (cT λz=>?_);refine unit_row G u z (free (λk=>ent (turnT p iv M (N+1)) d k) λj g=>?_);have:=C d j z g;rw[S.low d j (aj _) z g,aJ]at this;exact this
 subst J;generalize lE p iv M (d+1)=F at *
 generalize turnT p iv M (d+1)=T at *
 generalize oF p iv M (d+1)=B at *
 have D:∀i,i<d->(F.getD i []).idxOf 1=v i:=λi f=>YQ (by rw[s.row i f];exact S.lt i f) (S.one i f) λj g=>S.before i j f g;have bk:Bk p d M F T v:=⟨s.len,s.row,t.len,t.row,S.lt,D,λi f=>by
  have h1:=S.one i f;have o:v i<ln (F.getD i []):=by rw[s.row i f];exact S.lt i f
  unfold ent at h1;rw[gQ,ac o]at h1;rw[<- show(F.getD i [])[v i]=1 from h1];exact bK o⟩
 have r:∀i,i<=d->∀k,k<d+1->((∃l,l<i/\v l=k/\(zK F T d i).getD k []=T.getD l [])\/((∀l,l<i->v l≠k)/\(zK F T d i).getD k []=List.replicate d 0)):=λi=>by
  induction i with
  |zero=>intro _ k m;refine .inr ⟨λl o=>absurd o (cJ l),?_⟩;show(List.replicate (d+1) (List.replicate d (0:Int))).getD k []=_;rw[gQ,cq,af m];rfl
  |succ i ih=>
   intro f k m;have e:(zK F T d (i+1)).getD k []=if k=v i then T.getD i [] else(zK F T d i).getD k []:=by show((zK F T d i).set ((F.getD i []).idxOf 1) (T.getD i [])).getD k []=_;rw[D i (by lia),WF (by rw[Az];exact S.lt i (by lia))]
   rw[e];by_cases c:k=v i
   .rw[af c];exact .inl ⟨i,by lia,c.symm,rfl⟩
   .rw[ae c];rcases ih (by lia) k m with⟨l,h1,h2,n⟩|⟨h1,h2⟩
    .exact .inl ⟨l,by lia,h2,n⟩
    .refine .inr ⟨λl o=>?_,h2⟩;by_cases I:l=i
     .rw[I];exact λz=>c z.symm
     .exact h1 l (by lia)
 refine⟨⟨v,bk⟩,λk m=>?_,?_⟩
 .rcases r d (aj _) k m with⟨l,h1,_,n⟩|⟨_,h2⟩
  .rw[n];exact t.row l h1
  .rw[h2,aC]
 have inj:∀a b,a<d->b<d->v a=v b->a=b:=λa b R Y e=>cB λne=>by
  rcases fj ne with h|h
  .have:=S.up a b h Y;lia
  .have:=S.up b a h R;lia
 have fr:Al p d d (mm (d+1) (ent F) (ent (zK F T d d))) (ent T):=.of λi j f g=>by
  refine jc (qL (S.lt i f) λk m ne=>?_) ?_
  .rcases r d (aj _) k m with⟨l,h1,h2,_⟩|⟨_,h2⟩
   .rw[<- h2,S.alone l i h1 f λz=>ne (by rw[<- h2,z]),bJ]
   .show _*((zK F T d d).getD k []).getD j 0=0;rw[h2,gQ,cq];split<;>exact aQ _
  .rw[S.one i f,cj];rcases r d (aj _) (v i) (S.lt i f) with⟨l,h1,h2,n⟩|⟨h1,_⟩
   .show((zK F T d d).getD (v i) []).getD j 0=_;rw[n,inj l i h1 f h2];rfl
   .exact absurd rfl (h1 i f)
 have H:Al p d (d+1) (ent M) (mm d (ent B) (ent F)):=by have h1:Al p d (d+1) (mm d (ent B) (mm d (ent T) (ent M))) (mm d (ent B) (ent F)):=(Al.refl p d d _).mul C;refine Al.trans ?_ h1;refine Al.trans ?_ (Al.rA p d d d (d+1) (ent B) (ent T) (ent M));refine Al.trans ?_ (q.symm.mul (Al.refl p d (d+1) _));exact .of λi j f _=>(sy _ f j).symm
 refine(H.mul (Al.refl p (d+1) d _)).trans ?_;refine(Al.rA p d d (d+1) d (ent B) (ent F) (ent (zK F T d d))).trans ?_;exact((Al.refl p d d _).mul fr).trans q
section
variable {X:Cx}{G:Gx}{E:ER}{S e t:Expr}{N':List Str}{sc:Scope}{cl:List (Str×Addr)}{cap:List (Option Nat)}{C c:En->Prop}{g:En->Int}{b:En->PV}{i:Nat}{x:Str}{d a at':Pos}
def V2 (o:X.N.Nodup)(m:X.N[i]?=some x)(A:X.env.scope.names.lookup x=some .local)(L:uH X N' sc cl (none::cap))(q:X.calm=true)(l:Gl X "range")(y:X.mg "range"=none)(v:PE X S (mC X.K G C g))(u:∀s H fp,PG (jO X N' sc cl s H fp) t (gName 0))(r:∀s H fp,PE (jO X N' sc cl s H fp) e (tX X.K G c b))
  (n:swapsWith (.ListComp e [⟨t,.Call (.Name "range" p) [S] [] f,[],0⟩] sc at') (some (.Name x d)) a.line X.env=pure true) (j:starEach [S] X.env=[(false,eval S X.env)]:=by rfl) (z:∀x,foldedSetIterable (.Call (.Name "range" p) [S] [] f) X.env x=pure x:=by intro _;rfl) :
  PS X (.Assign [.Name x d] (.ListComp e [⟨t,.Call (.Name "range" p) [S] [] f,[],0⟩] sc at') a) (ts X.K G E λP Z=>(C Z/\(0<=g Z/\g Z<=1000)/\∀k:Nat,k<(g Z).toNat->c ((jW (none::cap) Z).set 0 (k6 k)))/\∀ns,ns=((List.range (g Z).toNat).map λ(k:Nat)=>b ((jW (none::cap) Z).set 0 (k6 k)))->P.nx (Z.set i (.ow (.lst ns)))):=
 Za (Qw o m A L q (pi_range1 l y (pa_cons v pa_nil j) j) u (λ_ _ _=>oR) r n z) λB H Q h=>aaB h
end
def aad:nF (.tup [a,b,c]) 0/\nF (.tup [a,b,c]) 1/\nF (.tup [a,b,c]) 2:=⟨⟨by show(-3:Int)<=0;decide,by show(0:Int)<3;decide⟩,⟨by show(-3:Int)<=1;decide,by show(1:Int)<3;decide⟩,⟨by show(-3:Int)<=2;decide,by show(2:Int)<3;decide⟩⟩
def R3 (m:∀i,i<ln M->ln (M.getD i [])=ln M+1):lE p iv M (jT M)=lE p iv M (ln M+1)/\turnT p iv M (jT M)=turnT p iv M (ln M+1):=by
 cases M with
 |nil=>exact⟨rfl,rfl⟩
 |cons a r=>have e:jT (a::r)=ln (a::r)+1:=m 0 (fe _);rw[e];exact⟨rfl,rfl⟩
def RV (p:Int)(M:Tab):Tab:=zK (lE p (lK p) M (ln M+1)) (turnT p (lK p) M (ln M+1)) (ln M) (ln M)
structure TbO (p:Int)(M:Tab):Prop where
 pr:jR p
 len:ln M<=50
 row:∀i,i<ln M->ln (M.getD i [])=ln M+1
 bk:∃v,Bk p (ln M) M (lE p (lK p) M (ln M+1)) (turnT p (lK p) M (ln M+1)) v
def Ce:Ok P w K mg base 6 "turned_back" ["kind","rows"] (wV K (ph U) (λas=>∃p M,as=[.ob 0 p,jA M]/\TbO p M) λas=>match as with|[.ob 0 p,.lst ps]=>jA (RV p (ps.map kW))|_=>.non):=by
 refine uK T.DY nZ (λ_ ⟨a,b,h,_⟩=>h▸rfl) (λf Y A G s H E hr=>⟨_,(jr (kY (i:=2) nZ.nd rfl k4 (xc (CZ T) hr (jq (xv 0) (jq (xv 1) ju)))) (jr (V2 (i:=3) nZ.nd rfl rfl (N':=["at","rows"]) (cap:=[some 1]) (nQ rfl rfl rfl rfl ⟨⟨rfl,.inr (.inl rfl),w5,.inl rfl,_,rfl,rfl⟩,tJ⟩ ⟨rfl,tJ⟩ rfl) rfl (by rfl) T.mZ (lO (mY T.jQ (xv 1)) jt) (λ_ _ _=>(oW 0)) (λ_ _ _=>(jM (rJ (kZ (jq jt ju)) (mY T.jQ (xv 1)) (λ_=>rfl)))) rfl) (jr (Ru (k:=4) (j:=5) aB rfl (by rfl) T.Qf (nA (jC (xv 2) jt (λ_ _=>rfl))) (nA (jC (xv 2) jt (λ_ _=>rfl))) (pg_tup rfl (pgs_cons (pg_name (i:=4) nZ.nd rfl k4) (pgs_cons (pg_name (i:=5) nZ.nd rfl k4) pgs_nil))) (jr (lF (Xf jt (xl 4)) (jw vJ) j6) (jw (LK 3 (Ri (xl 4) jt) (xl 5))))) (lB 3 (jw (jD (xv 3))))))),λas F=>?_⟩)
 obtain⟨p,d,rfl,ok⟩:=F;have F:=ok.pr;have l50:=ok.len;obtain⟨w1,w2⟩:=R3 (p:=p) (iv:=lK p) ok.row;obtain⟨v,bk⟩:=ok.bk;have ml:ln (d.map PV.ints)=ln d:=aa _;have wn:jT d<=51/\∀i,i<ln d->ln (d.getD i [])=jT d:=by
  cases d with
  |nil=>exact⟨a9 _,λi O=>absurd O (cJ i)⟩
  |cons a r=>have e:jT (a::r)=ln (a::r)+1:=ok.row 0 (fe _);rw[e];exact⟨by lia,ok.row⟩
 refine⟨⟨⟨rfl,rfl,tJ⟩,p,d,rfl,F,by lia,by lia,wn.2⟩,λS o=>?_⟩;obtain⟨l,ebk⟩:∃l,l=oF p (lK p) d (jT d):=⟨_,rfl⟩;have B:∀x,x=jA (zK (lE p (lK p) d (ln d+1)) (turnT p (lK p) d (ln d+1)) (ln d) (ln d))->x=jA (RV p ((d.map PV.ints).map kW)):=λx e=>by rw[mW];exact e
 have o:S=.tup [jA (lE p (lK p) d (ln d+1)),jA (turnT p (lK p) d (ln d+1)),jA l]:=by have o:S=.tup [jA (lE p (lK p) ((d.map PV.ints).map kW) (jT ((d.map PV.ints).map kW))),jA (turnT p (lK p) ((d.map PV.ints).map kW) (jT ((d.map PV.ints).map kW))),jA (oF p (lK p) ((d.map PV.ints).map kW) (jT ((d.map PV.ints).map kW)))]:=o;rw[mW,<- ebk,w1,w2]at o;exact o
 generalize lE p (lK p) d (ln d+1)=g at *
 generalize turnT p (lK p) d (ln d+1)=t at *
 subst o;refine⟨⟨⟨⟨rfl,tJ⟩,tJ⟩,⟨by show(0:Int)<=(ln (d.map PV.ints):Int)+1;lia,by show(ln (d.map PV.ints):Int)+1<=1000;lia⟩,λk hk=>⟨⟨⟨tJ,tJ⟩,tJ⟩,⟨rfl,tJ⟩,by show -(2:Int)^63<=(ln (d.map PV.ints):Int);lia,by show((ln (d.map PV.ints):Int)).toNat<=1000;lia⟩⟩,λI u=>?_⟩;have u:I=(zK g t (ln d) 0).map PV.ints:=by have u:I=(List.range ((ln (d.map PV.ints):Int)+1).toNat).map λ_=>PV.ints (List.replicate ((ln (d.map PV.ints):Int)).toNat 0):=u;rw[u];show _=(List.replicate (ln d+1) (List.replicate (ln d) 0)).map PV.ints;rw[List.map_replicate,show((ln (d.map PV.ints):Int)).toNat=ln d by lia,show((ln (d.map PV.ints):Int)+1).toNat=ln d+1 by lia];exact b7 (by rw[aa,ag,aC]) λi h1 h2=>by rw[bi,ce]
 refine jL (Z':=[.fr (.ob 0 p),.fr (jA d),.fr (.tup [jA g,jA t,jA l]),.ow (.lst I),.un,.un]) rfl ?_;subst u;obtain⟨j0,j1,_⟩:=aad (a:=jA g) (b:=jA t) (c:=jA l);refine⟨⟨⟨⟨rfl,tJ,j0⟩,rfl⟩,⟨⟨rfl,tJ,j1⟩,rfl⟩⟩,λi Z=>∃J L,Z=[.fr (.ob 0 p),.fr (jA d),.fr (.tup [jA g,jA t,jA l]),.ow (.lst ((zK g t (ln d) i).map PV.ints)),J,L],⟨.un,.un,rfl⟩,?_,?_⟩
 .rintro i n m Z D C ⟨J,L,rfl⟩;have D:(g.map PV.ints)[i]?=some n:=D;have C:(t.map PV.ints)[i]?=some m:=C;rw[aq]at D C;obtain⟨x,Q,rfl⟩:=bX.mp D;obtain⟨y,hy,rfl⟩:=bX.mp C;have O:=(ao.mp Q).1;have N:g.getD i []=x:=by rw[gQ,Q];rfl
  have ey:t.getD i []=y:=by rw[gQ,hy];rfl
  have fl:=bk.fl;have xl:=bk.fr i (by lia);have q:=bk.mem i (by lia);have R:=bk.lt i (by lia);rw[<- bk.ix i (by lia)]at R;rw[N]at xl q R;have rl:((zK g t (ln d) i).map PV.ints).length=ln d+1:=by rw[aa,Az]
  refine⟨⟨tJ,rfl⟩,λz=>absurd q z,λ_=>?_⟩;refine⟨rfl,rfl,⟨rfl,tJ,q,by show ln x<=1000;lia⟩,⟨by show -(((zK g t (ln d) i).map PV.ints).length:Int)<=((x.idxOf 1:Nat):Int);lia,by show((x.idxOf 1:Nat):Int)<(((zK g t (ln d) i).map PV.ints).length:Int);lia⟩,k7 x,k7 y,?_⟩;have xi:lD ((zK g t (ln d) i).map PV.ints).length ((x.idxOf 1:Nat):Int)=x.idxOf 1:=by unfold lD;rw[af (by lia)];lia
  show[_,_,_,Sl.ow (.lst (((zK g t (ln d) i).map PV.ints).set (lD ((zK g t (ln d) i).map PV.ints).length ((x.idxOf 1:Nat):Int)) (.ints y))),_,_]=[_,_,_,Sl.ow (.lst (((zK g t (ln d) i).set ((g.getD i []).idxOf 1) (t.getD i [])).map PV.ints)),_,_];rw[xi,N,ey,jg]
 .rintro Z ⟨J,L,rfl⟩;refine⟨rfl,B _ ?_⟩;show PV.lst ((zK g t (ln d) (min (ln (g.map PV.ints)) (ln (t.map PV.ints)))).map PV.ints)=_;rw[aa,aa,bk.fl,bk.tl,iB];rfl
open Pl in
def UJ (p:Int)(g:List Int):PV:=.tup [.ints (I9 p g (Tz p (dl g))).2.1,.ints (I9 p g (Tz p (dl g))).2.2,jA (RV p ((j9 p (qT p (Tz p g))).drop 1))]
open Pl in
structure acp (p:Int)(q:Pl p):Prop where
 tb:TbO p ((j9 p (qT p (ls q))).drop 1)
 un:∀k,k<ln (ls q)-1->ln ((RV p ((j9 p (qT p (ls q))).drop 1)).getD k [])=ln (ls q)-2
 rl:ln (RV p ((j9 p (qT p (ls q))).drop 1))=ln (ls q)-1
 al:Al p (ln (ls q)-2) (ln (ls q)-2) (mm (ln (ls q)-1) (ent ((j9 p (qT p (ls q))).drop 1)) (ent (RV p ((j9 p (qT p (ls q))).drop 1)))) pB
 gc1:gc p (ls q) (Tz p (dl (ls q)))=[1]
open Pl in
def R7 (a:jR p)(I:wC q)(y:ln (ls q)<=40):acp p q:=by
 have n:2<=p:=a.1;have s:=I.deg;obtain⟨f,g⟩:=xH a I.mo (by lia);have m:ln ((j9 p (qT p (ls q))).drop 1)=ln (ls q)-2:=by rw[aZ,f];lia
 have b:∀k,((j9 p (qT p (ls q))).drop 1).getD k []=(j9 p (qT p (ls q))).getD (k+1) []:=λk=>by rw[gQ,cN,dR,<- gQ]
 have l:∀i,i<ln (ls q)-2->ln (((j9 p (qT p (ls q))).drop 1).getD i [])=ln (ls q)-2+1:=λi t=>by rw[b,g _ (by lia)];lia
 have free:∀z:Nat->Int,(∀j,j<ln (ls q)-2+1->p ∣ sm (ln (ls q)-2) λk=>z k*ent ((j9 p (qT p (ls q))).drop 1) k j)->∀k,k<ln (ls q)-2->p ∣ z k:=λz r k v=>by
  have:=Wc a I (by lia) (z:=λk=>if k=0 then 0 else z (k-1)) rfl (λj u=>by
   have e:ln (ls q)-1=1+(ln (ls q)-2):=by lia
   rw[e,ym];have h:=r j (by lia);have h1:sm 1 (λk=>(if k=0 then 0 else z (k-1))*ent (j9 p (qT p (ls q))) k j)=0:=by show 0+0*_=(0:Int);rw[bJ];rfl
   rw[h1,cD];refine Eq.mp (congrArg (p ∣ ·) (jG λi _=>?_)) h;rw[ae (by lia),hJ];unfold ent;rw[b,dR]) (k+1) (by lia)
  rw[ae (by lia),fq]at this;exact this
 obtain⟨bk,un,o⟩:=ach a m l free (iv:=lK p) λx h0 h1=>(zm a x h0 h1).2;have d:ln (ls q)-2+1=ln (ls q)-1:=by lia
 refine⟨⟨a,by lia,by rw[m];exact l,by rw[m];exact bk⟩,?_,?_,?_,?_⟩
 .unfold RV;rw[m,<- d];exact un
 .unfold RV;rw[Az,m,d]
 .unfold RV;rw[m,<- d];exact o
 .have c:=Hh a I (by lia);have h:Gd q (dv q) 1:=by
   have:=c.gd 1
   rwa [mul_comm,one_mul,mul_comm,one_mul]at this
  have e:ls (dv q)=Tz p (dl (ls q)):=Zj q;rw[<- e,Fp h (Mo.one n),uO n]
open Pl in
def Wi:Ok P w K mg base 9 "paper" ["kind","g"] (wV K (ph U) (λas=>∃p,∃q:Pl p,as=[.ob 0 p,.ints (ls q)]/\jR p/\wC q/\ln (ls q)<=40) λas=>match as with|[.ob 0 p,.ints g]=>UJ p g|_=>.non):=by
 refine uK T.WQ JK (λ_ ⟨a,b,h,_⟩=>h▸rfl) (λf l A o s H E d=>⟨_,(jr (kY (i:=2) JK.nd rfl k4 (xc (Rq T) d (jq (xv 0) (jq (xl 1) (jq (jM (pD (Lj T) d (jq (xv 0) (jq (xl 1) ju)))) ju))))) (jr (lF (aaM d.units (Wv (xl_of (jC (xv 2) jt (λ_ _=>rfl)))) (Wv (jM (kZ (jq jt ju))))) (jw vJ) j6) (jw (jD (oZ (jq (xl_of (jC (xv 2) jt (λ_ _=>rfl))) (jq (xl_of (jC (xv 2) jt (λ_ _=>rfl))) (jq (xc (Ce T) d (jq (xv 0) (jq (uJ (xF (nA (xc (p6 T) d (jq (xv 0) (jq (xl 1) ju)))) (nR jt) pG)) ju))) ju)))))))),λas c=>?_⟩)
 obtain⟨p,q,rfl,c,I,k⟩:=c;have ok:=R7 c I k;have tz:=rW q;have m:Em p (ls q):=Di c I.mo (by lia);have u:ln (Tz p (dl (ls q)))<=ln (ls q):=aA (lA _ _) (by unfold dl;rw[aa,ag];exact aj _);refine⟨⟨⟨rfl,rfl,⟨⟨rfl,rfl,tJ⟩,p,ls q,rfl,by lia⟩,tJ⟩,p,ls q,Tz p (dl (ls q)),by rw[<- CT];rfl,c,by lia,by lia⟩,λt e=>?_⟩;replace e:t=Eg (I9 p (ls q) (Tz p (dl (ls q)))):=by rw[<- CT];exact e
 subst e;obtain⟨_,n,_,_,_⟩:=Uy (p:=p) (f:=ls q) (g:=Tz p (dl (ls q))) (N:=100) c (by decide) (by lia) (by lia);refine⟨⟨⟨⟨rfl,tJ,K8 _⟩,rfl⟩,⟨tJ,tJ⟩,tJ⟩,λz=>?_,λ_=>?_⟩
 .refine z ?_;show(I9 p (ls q) (Tz p (dl (ls q)))).1=[1];rw[n];exact ok.gc1
 have j:qJ ((j9 p (qT p (Tz p (ls q)))).map PV.ints) (some 1) none=((j9 p (qT p (ls q))).drop 1).map PV.ints:=by rw[show(1:Int)=((1:Nat):Int) from rfl,Et,gY,tz]
 have r:[PV.ob 0 p,.lst (qJ ((j9 p (qT p (Tz p (ls q)))).map PV.ints) (some 1) none)]=[PV.ob 0 p,jA ((j9 p (qT p (ls q))).drop 1)]:=by rw[j];rfl
 refine⟨⟨⟨⟨rfl,tJ,Wx _⟩,rfl⟩,⟨⟨rfl,tJ,Y8 _⟩,rfl⟩,⟨⟨rfl,⟨⟨⟨⟨rfl,rfl,tJ⟩,p,ls q,rfl,m,by rw[tz];exact k⟩,rfl⟩,tJ,tJ⟩,tJ⟩,p,(j9 p (qT p (ls q))).drop 1,r,ok.tb⟩,tJ⟩,?_⟩;show PV.tup [_,_,jA (RV p ((qJ ((j9 p (qT p (Tz p (ls q)))).map PV.ints) (some 1) none).map kW))]=UJ p (ls q);rw[j,mW];unfold UJ;rw[tz];rfl
section
variable {X:Cx}{G:Gx}{E:ER}{pos d b f e:Pos}{i:Nat}{x:Str}
def R4 (j:Nat)(k:X.N.Nodup)(C:X.N[i]?=some x)(L:Loc X.env.scope x)(F:(i == j)=false)(v:X.N[j]?=some y:=by rfl)(I:Vis X.env.scope y:=by walk_at "v")
  (z:(y == ("__debug__":Str))=false:=by decide) (l:(y == ("__classdict__":Str))=false:=by decide)
  (h:attributeBase (.Name y b) "pop" X.env (eval (.Name y b) X.env)=eval (.Name y b) X.env:=by rfl) (g:(e.endLine == f.line)=true:=by rfl)
  (A:X.fn x=true\/X.env.scope.names.lookup x=some .local:=by walk_at "w")
  (m:swapsWithSole [.Name x d] (.Call (.Attribute (.Name y b) "pop" e) [] [] f) pos.line X.env=pure false:=by rfl) (J:swappedStores [.Name x d] (.Call (.Attribute (.Name y b) "pop" e) [] [] f) X.env=pure none:=by rfl)
  (h1:(assignEach [.Name x d] X.env).map (·.2)=[assign (.Name x d) X.env]:=by rfl) :
  PS X (.Assign [.Name x d] (.Call (.Attribute (.Name y b) "pop" e) [] [] f) pos) (ts X.K G E λP Z=>Yn Z j/\getL Z j≠[]/\∀n,n=jB (getL Z j)->P.nx ((Z.set j (.ow (.ints (getL Z j).dropLast))).set i (k6 n))):=
 toS (ps_asg (pe_bm0 cG fO fP mt_pop (pe_var v I z l) h g) (pg_name k C L A) m J h1) λB Y H Z O P D R c w=>by
  obtain⟨o,s,t⟩:=c;obtain⟨a,vs,q,N,Q,r,u⟩:=R.ow j _ o;subst u;have S:0<ln (getL Z j):=lP s;have M:jB (getL Z j)=(getL Z j)[ln (getL Z j)-1]'(by lia):=by show(getL Z j).getD (ln (getL Z j)-1) 0=_;rw[gQ,ac (by lia)];rfl
  have R2:=R.change o q (p':=.ints (getL Z j).dropLast) (vs:=((getL Z j).map V.int).dropLast) (by
   show _=(getL Z j).dropLast.map V.int;rw[gO])
  refine⟨_,q,.inl ⟨rfl,_,SqL.of r⟩,a,_,V.int ((getL Z j)[ln (getL Z j)-1]'(by lia)),rfl,rfl,r,?_,w.nx _ _ _ ⟨O,R2.set (p:=.int (jB (getL Z j))) ?_⟩ (t _ rfl)⟩
  .rw[aa,aq,ac (by lia)];rfl
  .rw[M];rfl
end
def aci (p:Int)(d r:List Int)(o:Int)(i:Nat)(a:List Int):Prop:=ln a=ln r-1/\∀n,a.getD n 0=if ln r-1<=n then 0 else if ln r-ln d<=n/\n-(ln r-ln d)<i then pl p (r.getD n 0-o*d.getD (n-(ln r-ln d)) 0) else r.getD n 0
def Z4 (c:(ln a:Int)=m)(l:(ln b:Int)<=m)(h:∀n,a.getD n 0=b.getD n 0):a=wd m b:=by have lw:=wL l;refine b7 (by lia) λn h1 h2=>?_;have e:=h n;rw[<- yR m b,gQ,gQ,ac h1,ac h2]at e;exact e
def vI:Ok P w K mg base 1 "_law_rest" ["_law_row","_law_g","_law_prime_here"] (Ew K (ph U) (λas=>∃f d p,as=[.ints f,.ints d,.int p]/\jR p/\ln f<=200/\1<=ln d/\ln d<=200/\jB d=1/\∀n,pl p (d.getD n 0)=d.getD n 0) λas=>match as with|[.ints f,.ints d,.int p]=>wd ((ln d:Int)-1) (rm p d f)|_=>[]):=by
 refine IV T.Z2 xW (λ_ ⟨a,b,c,h,_⟩=>h▸rfl) (λf cdv A L s H E hr=>⟨_,(jr (HR (i:=0) xW.nd rfl rfl (N':=["_law_number","_law_prime_here"]) (cap:=[some 2]) (nQ rfl rfl rfl rfl ⟨⟨rfl,.inr (.inl rfl),w5,.inl rfl,_,rfl,rfl⟩,tJ⟩ ⟨rfl,tJ⟩ rfl) rfl (xl 0) (λ_ _ _=>(oW 0)) (λ_ _ _=>(lV (xn 0) (xn 1))) rfl) (jr (mJ aB (ZG (jU 0 T.jQ) (jU 1 T.jQ)) (jr (R4 (i:=3) 0 xW.nd rfl k4 rfl) (jw (qd (k:=4) aB rfl (by rfl) T.mZ (lN (jU 1 T.jQ) jt) xW.nd rfl k4 (jr (jH (i:=5) xW.nd rfl k4 (lO (lO (lN (jU 0 T.jQ) (jU 1 T.jQ)) jt) (xn 4))) (jw (tG 0 (xn 5) (lV (lN (lW 0 (xn 5) (λ_ _=>rfl)) (nW (xn 3) (lW 1 (xn 4) (λ_ _=>rfl)))) (xn 2))))))))) (lB 0 (jw (mD (uq (xl 0) (jM (rJ (kZ (jq jt ju)) (lN (lN (jU 1 T.jQ) jt) (jU 0 T.jQ)) (λ_=>rfl))))))))),λas D=>?_⟩)
 obtain⟨f,d,p,rfl,D,J,hd,hdl,B,dr⟩:=D;have G:0<p:=by have:=D.1;lia
 refine⟨⟨rfl,by show ln f<=1000;lia,λn _=>⟨rfl,rfl,G⟩⟩,λF m=>?_⟩;replace m:F=f.map λn=>n % p:=m;have Q:∀n,F.getD n 0=pl p (f.getD n 0):=λn=>by rw[m,mK _ (jb p),lJ G]
 refine jL (Z':=[.ow (.ints F),k7 d,k6 p,.un,.un,.un]) rfl ?_;refine⟨λZ=>∃r v3 v q,Z=[.ow (.ints r),k7 d,k6 p,v3,v,q]/\(∀n,pl p (r.getD n 0)=r.getD n 0)/\lX p d f r/\ln r<=200,λZ=>ln (getL Z 0),⟨F,.un,.un,.un,rfl,λn=>by rw[Q,qQ],.of λn=>by
  rw[Q];have:=lR p (f.getD n 0);have e:f.getD n 0-pl p (f.getD n 0) = -(pl p (f.getD n 0)-f.getD n 0):=by lia
  rw[e];exact aV.mpr this,by rw[m,aa];exact J⟩,?_⟩
 rintro Z ⟨r,v3,v,q,rfl,rr,R,hrl⟩;refine⟨⟨.inr (.inl rfl),.inl rfl⟩,λk=>?_,λk=>?_⟩
 .replace k:(ln d:Int)<=(ln r:Int):=k;have Y:ln d<=ln r:=by lia
  have M:r≠[]:=λz=>by rw[z]at Y;have:ln d<=0:=Y;lia
  refine⟨rfl,M,λo eo=>?_⟩;refine jL (Z':=[.ow (.ints r.dropLast),k7 d,k6 p,k6 o,v,q]) rfl ?_;have dl:ln r.dropLast=ln r-1:=eG;refine⟨⟨.inl rfl,tJ⟩,⟨by show -(2:Int)^62<=(ln d:Int)-1;lia,by show(ln d:Int)-1<2^62;lia⟩,λi Z=>∃g v q,Z=[.ow (.ints g),k7 d,k6 p,k6 o,v,q]/\aci p d r o i g,⟨r.dropLast,v,q,rfl,dl,λn=>?_⟩,?_,?_⟩
  .by_cases c:ln r-1<=n
   .rw[af c,jz (by lia)]
   .rw[ae c,ae (by lia),jK (by lia),List.getElem_dropLast,jK (by lia)]
  .rintro i Z S ⟨g,v,q,rfl,rl,t⟩;have S:i<((ln d:Int)-1).toNat:=S;refine⟨⟨⟨⟨.inr (.inl rfl),.inl rfl⟩,tJ⟩,rfl⟩,λl I=>?_⟩;replace I:l=((ln r-ln d+i:Nat):Int):=by have I:l=(ln g:Int)-(ln d:Int)+1+(i:Int):=I;lia
   have N:-((ln g:Nat):Int)<=l/\l<((ln g:Nat):Int):=by lia
   have x3:lD (ln g) l=ln r-ln d+i:=by unfold lD;rw[af (by lia)];lia
   have xi:lD (ln d) (i:Int)=i:=by unfold lD;rw[af (by lia)];lia
   have ns:=wD D (dr i);refine⟨⟨⟨⟨.inr (.inl rfl),rfl,N⟩,rfl,⟨.inl rfl,rfl,by show -(ln d:Int)<=(i:Int);lia,by show(i:Int)<(ln d:Int);lia⟩,?_⟩,rfl,G⟩,rfl,rfl,N,g.set (ln r-ln d+i) (pl p (g.getD (ln r-ln d+i) 0-o*d.getD i 0)),k6 (i:Int),k6 l,?_,by rw[bn];exact rl,λn=>?_⟩
   .show IntMulOk o (d.getD (lD (ln d) (i:Int)) 0);rw[xi];exact t6 ⟨by lia,by lia⟩
   .show[Sl.ow (.ints (g.set (lD (ln g) l) ((g.getD (lD (ln g) l) 0-o*d.getD (lD (ln d) (i:Int)) 0) % p))),_,_,_,_,_]=_;rw[x3,xi,<- lJ G]
   .rw[gQ,dX];by_cases e:ln r-ln d+i=n
    .subst e;rw[af rfl,af (by lia),ae (by lia),af (by lia),t,ae (by lia),ae (by lia),hJ];rfl
    .rw[ae e,<- gQ,t];by_cases c:ln r-1<=n
     .rw[af c,af c]
     .rw[ae c,ae c];by_cases C:ln r-ln d<=n/\n-(ln r-ln d)<i
      .rw[af C,af (by lia)]
      .rw[ae C,ae (by lia)]
  .rintro Z ⟨g,v,q,rfl,rl,t⟩;have t:∀n,g.getD n 0=if ln r-1<=n then 0 else if ln r-ln d<=n/\n-(ln r-ln d)<((ln d:Int)-1).toNat then pl p (r.getD n 0-o*d.getD (n-(ln r-ln d)) 0) else r.getD n 0:=t;have e2:d.getD (ln d-1) 0=1:=B;refine⟨⟨g,_,_,_,rfl,λn=>?_,R.trans ⟨(List.replicate (ln r-ln d+1) (0:Int)).set (ln r-ln d) o,λn=>?_⟩,by lia⟩,?_⟩
   .rw[t];split
    .exact lU p
    .split
     .exact qQ _ _
     .exact rr n
   .have z0:∀k j,(List.replicate k (0:Int)).getD j 0=0:=λk j=>by
     by_cases c:j<k
     .rw[jK (by rw[aC];exact c),ce]
     .rw[jz (by rw[aC];lia)]
    rw[Vu (by rw[aC];lia) (z0 _ _),z8 (z0 _),cD,t];by_cases O:ln r-1<=n
    .rw[af O,af (by lia)];by_cases C:n=ln r-1
     .rw[C,show ln r-1-(ln r-ln d)=ln d-1 by lia,e2,eo,bG];show p ∣ r.getD (ln r-1) 0-0-r.getD (ln r-1) 0;rw[aJ,ck];exact aS p
     .rw[jz (xs:=r) (by lia),jz (xs:=d) (by lia),aQ];exact aS p
    .rw[ae O];by_cases c:ln r-ln d<=n
     .rw[af c,af (by lia)];have:=lR p (r.getD n 0-o*d.getD (n-(ln r-ln d)) 0);generalize pl p (r.getD n 0-o*d.getD (n-(ln r-ln d)) 0)=u at *
      generalize o*d.getD (n-(ln r-ln d)) 0=y at *
      have e:r.getD n 0-u-y = -(u-(r.getD n 0-y)):=by lia
      rw[e];exact aV.mpr this
     .rw[ae c,ae (λz=>c z.1),aJ,ck];exact aS p
   .show ln g<ln r;lia
 .replace k:¬(ln d:Int)<=(ln r:Int):=k;refine⟨⟨rfl,⟨⟨⟨tJ,tJ⟩,tJ⟩,⟨⟨.inl rfl,tJ⟩,.inl rfl⟩,by show -(2:Int)^63<=(ln d:Int)-1-(ln r:Int);lia,by show((ln d:Int)-1-(ln r:Int)).toNat<=1000;lia⟩,?_⟩,?_⟩
  .show ln r+(List.replicate ((ln d:Int)-1-(ln r:Int)).toNat (0:Int)).length<=sizeLine;rw[aC];exact bI (small1000 (by lia))
  .show wd ((ln d:Int)-1) r=wd ((ln d:Int)-1) (rm p d f);have nz:∀x,p ∣ x*jB d->p ∣ x:=λx h=>by rw[B,bG]at h;exact h
   have tl:=lA p r;rw[Qp nz ⟨j7 p r,nM p r,by lia⟩ (R.trans (lX.Tz p d r))];refine Z4 (wL (by lia)) (by lia) λn=>?_;rw[yR,kh,rr]
section
variable {p:Int}
open Pl
def qw (q x:Pl p):List Int:=wd ((ln (ls q):Int)-1) (rm p (ls q) (ls x))
def rw_go (a:jR p)(b:Mo q)(h:ln (ls q)<=200)(x:Pl p):Go q (x-mk p (qw q x))/\ln (qw q x)=ln (ls q)-1/\∀n,pl p ((qw q x).getD n 0)=(qw q x).getD n 0:=by
 obtain⟨g,r⟩:=xU a b h (ls x);have c:=r.len;unfold qw;refine⟨?_,?_,λn=>?_⟩
 .rw[Zo];rw[jV]at g;exact g
 .have:=wL (m:=(ln (ls q):Int)-1) (r:=rm p (ls q) (ls x)) (by lia);lia
 .rw[yR,r.red]
def go_short (a:jR p){q x y:Pl p}(m:Mo q)(g:Go q (x-y)){n:Nat}(b:ln (ls x)<=n)(c:ln (ls y)<=n)(h:n<ln (ls q)):x=y:=by have d:2<=p:=a.1;have e:=t8 m g (aO (sub_len d b c) h);grind
def rw_eq (h:jR p){q x y:Pl p}(m:Mo q)(i:ln (ls q)<=200)(g:Go q (x-y)):qw q x=qw q y:=by obtain⟨c,r⟩:=xU h m i (ls x);obtain⟨d,a⟩:=xU h m i (ls y);rw[jV]at c d;have l:=r.len;have j:=a.len;have f:ls (mk p (rm p (ls q) (ls x)))=rm p (ls q) (ls x):=rD ⟨r.form,r.red⟩;have b:ls (mk p (rm p (ls q) (ls y)))=rm p (ls q) (ls y):=rD ⟨a.form,a.red⟩;have e:=go_short h m (c.flip.ch (g.ch d)) (n:=ln (ls q)-1) (by rw[f];lia) (by rw[b];lia) (by have:=m.pos;lia);unfold qw;rw[<- f,<- b,e]
def rw_mk (h:jR p)(m:Mo q)(d:ln (ls q)<=200)(f:Li):wd ((ln (ls q):Int)-1) (rm p (ls q) f)=qw q (mk p f):=by obtain⟨i,r⟩:=xU h m d f;obtain⟨g,a⟩:=xU h m d (ls (mk p f));rw[jV]at g;have l:=r.len;have j:=a.len;have b:ls (mk p (rm p (ls q) f))=rm p (ls q) f:=rD ⟨r.form,r.red⟩;have c:ls (mk p (rm p (ls q) (ls (mk p f))))=rm p (ls q) (ls (mk p f)):=rD ⟨a.form,a.red⟩;have e:=go_short h m (i.flip.ch g) (n:=ln (ls q)-1) (by rw[b];lia) (by rw[c];lia) (by have:=m.pos;lia);unfold qw;rw[<- b,e,c]
def rw_mul (d:jR p)(m:Mo q)(h:ln (ls q)<=200)(x y:Pl p):wd ((ln (ls q):Int)-1) (rm p (ls q) (Tz p (jy (qw q x) (qw q y))))=qw q (x*y):=by rw[rw_mk d m h];refine rw_eq d m h ?_;rw[ZK,<- lM];have a:=(rw_go d m h x).1;have b:=(rw_go d m h y).1;generalize mk p (qw q x)=u at a;generalize mk p (qw q y)=v at b;exact(((a.Xb v).add (b.mul x)).pO (c:=x*y-u*v) (by grind)).flip
def rw_bd (h:jR p)(b:Mo q)(a:ln (ls q)<=200)(x:Pl p):∀m∈qw q x,m.natAbs<2^9000:=by obtain⟨_,r⟩:=xU h b a (ls x);exact abV (Fo.bd h ⟨r.form,r.red⟩)
def M5 (x:Pl p):∀k:Nat,(x*x)^k=x^(k+k)
 |0=>rfl
 |k+1=>by have h:=M5 x k;rw[show k+1+(k+1)=k+k+1+1 by lia];show(x*x)^k*(x*x)=x^(k+k)*x*x;rw[h];generalize x^(k+k)=y;grind
end
open Pl in
def Ej:Ok P w K mg base 4 "_law_raised" ["_law_g","_law_prime_here"] (Sv K (ph U) (λas=>∃p,∃q:Pl p,as=[.ints (ls q),.int p]/\jR p/\Mo q/\ln (ls q)<=40) λas=>match as with|[.ints g,.int p]=>qw (mk p g) (xx p^p.toNat)|_=>[]):=by
 refine uK T.Hi mV (λ_ ⟨a,b,h,_⟩=>h▸rfl) (λf S A M s H E C=>⟨_,(jr (jE (i:=2) mV.nd rfl k4 (jM (pD (vI T) C (jq (jM (kZ (jq jt ju))) (jq (xl 0) (jq (xn 1) ju)))))) (jr (jE (i:=3) mV.nd rfl k4 (jM (pD (vI T) C (jq (jM (kZ (jq jt (jq jt ju)))) (jq (xl 0) (jq (xn 1) ju)))))) (jr (jH (i:=4) mV.nd rfl k4 (xn 1)) (jr (mJ aB (uM (xn 4) jt) (uU (lF (vZ (lV (xn 4) jt) jt) (jw (jE (i:=2) mV.nd rfl k4 (jM (pD (vI T) C (jq (jM (pD (mQ T) C (jq (xl 2) (jq (xl 3) (jq (xn 1) ju))))) (jq (xl 0) (jq (xn 1) ju))))))) j6) (jr (jE (i:=3) mV.nd rfl k4 (jM (pD (vI T) C (jq (jM (pD (mQ T) C (jq (xl 3) (jq (xl 3) (jq (xn 1) ju))))) (jq (xl 0) (jq (xn 1) ju)))))) (jw (jH (i:=4) mV.nd rfl k4 (tY (xn 4) jt)))))) (jw (jD (xl 2))))))),λas l=>?_⟩)
 obtain⟨p,q,rfl,l,n,hl⟩:=l;have p2:2<=p:=l.1;have I:=n.pos;have d:ln (ls q)<=200:=by lia
 have J:=(kO q).red;refine⟨⟨⟨⟨⟨tJ,tJ⟩,tJ⟩,rfl,rfl,tJ⟩,[1],ls q,p,rfl,l,by decide,I,d,n,J⟩,λF v=>?_⟩;replace v:F=qw q 1:=v.trans (rw_mk l n d [1]);refine⟨⟨⟨⟨⟨tJ,tJ,tJ⟩,tJ⟩,rfl,rfl,tJ⟩,[0,1],ls q,p,rfl,l,by decide,I,d,n,J⟩,λN r=>?_⟩;replace r:N=qw q (xx p):=r.trans (rw_mk l n d [0,1]);refine⟨rfl,λL o=>?_⟩;replace o:L=((p.toNat:Nat):Int):=by have o:L=p:=o;lia
 refine jL (Z':=[k7 (ls q),k6 p,k7 F,k7 N,k6 L]) rfl ?_;subst v r o;have len:=λx=>(rw_go l n d x).2.1;have bd:=λx=>rw_bd l n d x;refine⟨λZ=>∃(A B:Pl p) (m:Nat),Z=[k7 (ls q),k6 p,k7 (qw q A),k7 (qw q B),k6 (m:Int)]/\A*B^m=xx p^p.toNat,λZ=>(wK Z 4).toNat,⟨1,xx p,p.toNat,rfl,one_mul _⟩,?_⟩;rintro Z ⟨A,B,m,rfl,e⟩;refine⟨⟨rfl,tJ⟩,λk=>?_,λk=>?_⟩
 .replace k:(0:Int)<(m:Int):=k;have Q:∀x y:Pl p,∃f g z,[PV.ints (qw q x),.ints (qw q y),.int p]=[.ints f,.ints g,.int z]/\0<z/\ln f+ln g<=1000/\(∀m∈f,m.natAbs<2^9000)/\∀m∈g,m.natAbs<2^9000:=λx y=>⟨_,_,_,rfl,by lia,by rw[len,len];lia,bd x,bd y⟩;have O:∀x y:Pl p,ln (Tz p (jy (qw q x) (qw q y)))<=200:=λx y=>aA (lA _ _) (by unfold jy;rw[aa,ag,len,len];lia);refine⟨λZ=>∃D:Pl p,Z=[k7 (ls q),k6 p,k7 (qw q D),k7 (qw q B),k6 (m:Int)]/\D*(B*B)^(m / 2)=xx p^p.toNat,⟨⟨⟨rfl,tJ,by decide⟩,tJ⟩,λc=>?_,λc=>?_⟩,?_⟩
  .replace c:(m:Int) % 2=1:=c;refine⟨⟨⟨⟨⟨rfl,rfl,rfl,tJ⟩,Q A B⟩,rfl,rfl,tJ⟩,Tz p (jy (qw q A) (qw q B)),ls q,p,rfl,l,O A B,I,d,n,J⟩,λf1 u=>⟨A*B,?_,?_⟩⟩
   .replace u:f1=qw q (A*B):=u.trans (rw_mul l n d A B);rw[u];rfl
   .rw[M5,<- e,show m=m / 2+m / 2+1 by lia];rw[show(m / 2+m / 2+1) / 2=m / 2 by lia];show A*B*B^(m / 2+m / 2)=A*(B^(m / 2+m / 2)*B);generalize B^(m / 2+m / 2)=z;grind
  .replace c:¬(m:Int) % 2=1:=c;refine⟨A,rfl,?_⟩;rw[M5,<- e];congr 2;lia
  .rintro Z ⟨D,rfl,Y⟩;refine⟨⟨⟨⟨⟨rfl,rfl,rfl,tJ⟩,Q B B⟩,rfl,rfl,tJ⟩,Tz p (jy (qw q B) (qw q B)),ls q,p,rfl,l,O B B,I,d,n,J⟩,λR t=>?_⟩;replace t:R=qw q (B*B):=t.trans (rw_mul l n d B B);refine⟨⟨rfl,tJ,by decide,by decide⟩,λG j=>⟨⟨D,B*B,m / 2,?_,Y⟩,?_⟩⟩
   .replace j:G=((m / 2:Nat):Int):=by have j:G=(m:Int) / 2:=j;lia
    rw[t,j];rfl
   .have j:G=(m:Int) / 2:=j;show G.toNat<((m:Nat):Int).toNat;lia
 .replace k:¬(0:Int)<(m:Int):=k;refine⟨rfl,?_⟩;show PV.ints (qw q A)=PV.ints (qw (mk p (ls q)) (xx p^p.toNat));have F:m=0:=by lia
  rw[jV,<- e,F];show _=PV.ints (qw q (A*1));rw[mul_comm,one_mul]
def mnR (p:Int)(i:Int)(r:List Int):List Int:=r.mapIdx λk n=>(n-if (k:Int)=i then 1 else 0) % p
open Pl in
def JN (h:jR p)(m:Mo q)(a:ln (ls q)<=200)(g:i<ln (ls q)-1):mnR p (i:Int) (qw q ((xx p^p.toNat)^i))=(j9 p (qT p (ls q))).getD i []:=by
 have b:0<p:=by have:=h.1;lia
 have l:ln (qT p (ls q))=ln (ls q)-1:=nG ..;have f:(qT p (ls q)).getD i []=qw q ((xx p^p.toNat)^i):=by show(jZ p (ls q) (rm p (ls q) (pw [0,1] p.toNat)) (ln (ls q)-1)).getD i []=_;rw[Ir g,rw_mk h m a,tM];refine rw_eq h m a (M4 ?_ i);have:=(xU h m a (pw [0,1] p.toNat)).1.flip;rw[tM]at this;exact this
 obtain⟨_,j,e⟩:=rw_go h m a ((xx p^p.toNat)^i);rw[Be (by lia),f];generalize qw q ((xx p^p.toNat)^i)=r at j e;unfold mnR;refine b7 (by rw[cM,bn]) λk h1 h2=>?_;rw[cM]at h1;have d:=e k;rw[gQ,ac h1]at d;rw[i8,List.getElem_set];by_cases c:i=k
 .subst c;rw[af rfl,af rfl,lJ b,gQ,ac h1];rfl
 .rw[ae (by lia),ae c,aJ,<- lJ b];exact d
open Pl in
def Xn:Ok P w K mg base 5 "_law_left" ["_law_g","_law_prime_here"] (wV K (ph U) (λas=>∃p,∃q:Pl p,as=[.ints (ls q),.int p]/\jR p/\Mo q/\2<=ln (ls q)/\ln (ls q)<=40) λas=>match as with|[.ints g,.int p]=>jA ((j9 p (qT p g)).drop 1)|_=>.non):=by
 refine uK T.aaH vO (λ_ ⟨a,b,h,_⟩=>h▸rfl) (λf G A v s H E r=>⟨_,(jr (jE (i:=2) vO.nd rfl k4 (xcL (Ej T) r (jq (xl 0) (jq (xn 1) ju)))) (jr (jE (i:=3) vO.nd rfl k4 (jM (pD (vI T) r (jq (jM (kZ (jq jt ju))) (jq (xl 0) (jq (xn 1) ju)))))) (jr (sY (i:=4) vO.nd rfl k4 (ut ju)) (jr (Fy (k:=5) aB rfl (by rfl) T.mZ jt (lN (jU 0 T.jQ) jt) vO.nd rfl (Or.inr rfl) (jr (jE (i:=3) vO.nd rfl k4 (jM (pD (vI T) r (jq (jM (pD (mQ T) r (jq (xl 3) (jq (xl 2) (jq (xn 1) ju))))) (jq (xl 0) (jq (xn 1) ju)))))) (jw (sX 4 (jM (UV (N':=["_law_k","_law_number","_law_prime_here","_law_i"]) (cap:=[some 1,some 5]) (nQ rfl rfl rfl rfl ⟨⟨rfl,.inr (.inl rfl),w5,.inl rfl,_,rfl,rfl⟩,⟨⟨rfl,.inr (.inl rfl),w5,.inl rfl,_,rfl,rfl⟩,tJ⟩⟩ ⟨rfl,⟨rfl,tJ⟩⟩ rfl) rfl (by rfl) T.mO (xl 3) (λ_ _ _=>(pg_tup rfl (pgs_cons (oW 0) (pgs_cons (oW 1) pgs_nil)))) (λ_ _ _=>(lV (lN (xn 1) (Ao T.JL (K1 (xn 0) (xn 3)))) (xn 2))))))))) (lB 4 (jw (jD (xv 4)))))))),λas d=>?_⟩)
 obtain⟨p,q,rfl,d,m,h2,I⟩:=d;have N:2<=p:=d.1;have c:ln (ls q)<=200:=by lia
 have F:=(kO q).red;have len:=λx=>(rw_go d m c x).2.1;have bd:=λx=>rw_bd d m c x;refine⟨⟨⟨rfl,rfl,tJ⟩,p,q,rfl,d,m,I⟩,λy e=>?_⟩;replace e:y=qw q (xx p^p.toNat):=by have e:y=qw (mk p (ls q)) (xx p^p.toNat):=e;rw[e,jV]
 refine⟨⟨⟨⟨⟨tJ,tJ⟩,tJ⟩,rfl,rfl,tJ⟩,[1],ls q,p,rfl,d,by decide,by lia,c,m,F⟩,λC l=>?_⟩;replace l:C=qw q 1:=l.trans (rw_mk d m c [1]);refine⟨tJ,λJ u=>?_⟩;refine jL (Z':=[k7 (ls q),k6 p,k7 y,k7 C,.ow (.lst J),.un]) rfl ?_;subst e l u;have t:∀k,k<ln (ls q)-2->((j9 p (qT p (ls q))).drop 1).take (k+1)=((j9 p (qT p (ls q))).drop 1).take k++[mnR p ((k+1:Nat):Int) (qw q ((xx p^p.toNat)^(k+1)))]:=λk L=>by rw[gL,JN d m c (by lia)];congr 1;obtain⟨o,_⟩:=xH d m c;rw[cN,dR,ac (by lia),gQ,ac (by lia)];rfl
 refine⟨⟨tJ,.inl rfl,tJ⟩,⟨by show -(2:Int)^62<=1;decide,by show(1:Int)<2^62;decide,by show -(2:Int)^62<=(ln (ls q):Int)-1;lia,by show(ln (ls q):Int)-1<2^62;lia⟩,λi Z=>∃z,Z=[k7 (ls q),k6 p,k7 (qw q (xx p^p.toNat)),k7 (qw q ((xx p^p.toNat)^i)),.ow (jA (((j9 p (qT p (ls q))).drop 1).take i)),z],⟨.un,rfl⟩,?_,?_⟩
 .rintro i Z B ⟨z,rfl⟩;have B:i<((ln (ls q):Int)-1-1).toNat:=B;refine⟨⟨⟨⟨⟨rfl,rfl,rfl,tJ⟩,qw q ((xx p^p.toNat)^i),qw q (xx p^p.toNat),p,rfl,by lia,by rw[len,len];lia,bd _,bd _⟩,rfl,rfl,tJ⟩,Tz p (jy (qw q ((xx p^p.toNat)^i)) (qw q (xx p^p.toNat))),ls q,p,rfl,d,?_,by lia,c,m,F⟩,λD j=>?_⟩
  .refine aA (lA _ _) ?_;unfold jy;rw[aa,ag,len,len];lia
  replace j:D=qw q ((xx p^p.toNat)^(i+1)):=j.trans (rw_mul d m c _ _);have O:ln ((((j9 p (qT p (ls q))).drop 1).take i).map PV.ints)<=40:=by rw[aa,aI];lia
  refine⟨rfl,⟨rfl,?_,λk n M=>?_⟩,?_,k6 (1+(i:Int)),?_⟩
  .show ln D<=1000;rw[j,len];lia
  .exact⟨⟨rfl,rfl,rfl⟩,rfl,by show 0<p;lia⟩
  .show ln ((((j9 p (qT p (ls q))).drop 1).take i).map PV.ints)<sizeLine;exact small1000 (by lia)
  .rw[t i (by lia),show((i+1:Nat):Int)=1+(i:Int) by lia,<- j];unfold jA;rw[bF];rfl
 .rintro Z ⟨z,rfl⟩;refine⟨rfl,?_⟩;show jA (((j9 p (qT p (ls q))).drop 1).take ((ln (ls q):Int)-1-1).toNat)=jA ((j9 p (qT p (ls q))).drop 1);rw[b9];obtain⟨o,_⟩:=xH d m c;rw[aZ,o];lia
section
variable {X:Cx}{G:Gx}{a b E t:Expr}{N':List Str}{sc:Scope}{cl:List (Str×Addr)}{cap:List (Option Nat)}{d C e:En->Prop}{g c gi:En->Int}{at':Pos}
def W5 (L:uH X N' sc cl (none::cap))(q:X.calm=true)(m:Gl X "range")(v:X.mg "range"=none)(n:PE X a (mC X.K G d g))(o:PE X b (mC X.K G C c))(u:∀s H fp,PG (jO X N' sc cl s H fp) t (gName 0))(r:∀s H fp,PE (jO X N' sc cl s H fp) E (mC X.K G e gi))
  (i:starEach [a,b] X.env=[(false,eval a X.env),(false,eval b X.env)]:=by rfl) (f:starEach [b] X.env=[(false,eval b X.env)]:=by rfl) (y:∀x,foldedSetIterable (.Call (.Name "range" p) [a,b] [] l) X.env x=pure x:=by intro _;rfl) :
  PE X (.ListComp E [⟨t,.Call (.Name "range" p) [a,b] [] l,[],0⟩] sc at') (DN X.K G (λZ=>(d Z/\C Z)/\(-(2^62)<=g Z/\g Z<2^62 /\ -(2^62)<=c Z/\c Z<2^62)/\(c Z-g Z).toNat<=1000/\∀k:Nat,k<(c Z-g Z).toNat->e ((jW (none::cap) Z).set 0 (k6 (g Z+k)))) λZ=>(List.range (c Z-g Z).toNat).map λ(k:Nat)=>gi ((jW (none::cap) Z).set 0 (k6 (g Z+k)))):=
 λj s z H Q I h=>vY L q (pi_range2 m v (pa_cons n (pa_cons o pa_nil f) (by rw[i,f])) i f) u (λ_ _ _=>oR) r y j s z H Q I (abG (zg h))
end
def Rx (f:List Int):List Int:=(List.range ((ln f:Int)-1).toNat).map λ(k:Nat)=>(1+(k:Int))*f.getD (lD (ln f) (1+(k:Int))) 0
def Zf (f:Li):ln (Rx f)<=ln f:=by unfold Rx;rw[aa,ag];lia
def Hm:Ok P w K mg base 1 "_law_slope" ["_law_f"] (Ew K (ph U) (λas=>∃f,as=[.ints f]/\ln f<=400) λas=>match as with|[.ints f]=>Rx f|_=>[]):=by
 refine IV T.Km Iw (λ_ ⟨a,h,_⟩=>h▸rfl) (λf c A o s H E g=>⟨_,(jw (mD (W5 (N':=["_law_k","_law_f"]) (cap:=[some 0]) (nQ rfl rfl rfl rfl ⟨⟨rfl,.inr (.inl rfl),w5,.inl rfl,_,rfl,rfl⟩,tJ⟩ ⟨rfl,tJ⟩ rfl) rfl (by rfl) T.mZ jt (jU 0 T.jQ) (λ_ _ _=>(oW 0)) (λ_ _ _=>(nW (xn 0) (lW 1 (xn 0) (λ_ _=>rfl))))))),λas d=>?_⟩);obtain⟨f,rfl,e⟩:=d;refine⟨⟨⟨tJ,.inl rfl⟩,⟨by show -(2:Int)^62<=1;decide,by show(1:Int)<2^62;decide,by show -(2:Int)^62<=(ln f:Int);lia,by show(ln f:Int)<2^62;lia⟩,by show((ln f:Int)-1).toNat<=1000;lia,λk b=>?_⟩,rfl⟩;have b:k<((ln f:Int)-1).toNat:=b;exact⟨rfl,⟨.inl rfl,rfl,by show -(ln f:Int)<=1+(k:Int);lia,by show 1+(k:Int)<(ln f:Int);lia⟩,xZ ⟨by show -(2:Int)^64<1+(k:Int);lia,by show 1+(k:Int)<(2:Int)^64;lia⟩⟩
def acb (h:∀n,p ∣ f.getD n 0-g.getD n 0):Tz p f=Tz p g:=by refine oh (j7 p _) (j7 p g) λn=>?_;rw[kh,kh];exact(qu p _ _).mpr (h n)
def XC (f:Li)(n:Nat):(Rx f).getD n 0=(dl f).getD n 0:=by
 unfold Rx dl;by_cases h:n+1<ln f
 .have x:lD (ln f) (1+(n:Int))=n+1:=by unfold lD;rw[af (by lia)];lia
  rw[wX _ (show n<((ln f:Int)-1).toNat by lia),wX _ (show n<ln f by lia),x,gB 1]
 .rw[jz (by rw[aa,ag];lia)];by_cases h2:n<ln f
  .rw[wX _ h2,jz (by lia),aQ]
  .rw[jz (by rw[aa,ag];lia)]
def aaD (c:ln f<=40)(h:∀n,0<=f.getD n 0/\f.getD n 0<9973):∀m∈Rx f,m.natAbs<2^9000:=λm b=>by obtain⟨k,a,rfl⟩:=aY.mp b;have a:=aX.mp a;have e:=h (lD (ln f) (1+(k:Int)));refine aO (m:=2^20) ?_ (a7 (by decide) (by decide));rw[gH];refine aA (fH (show(1+(k:Int)).natAbs<=40 by lia) (show _<=9973 by lia)) (by decide)
open Pl in
def QJ:Ok P w K mg base 4 "_law_opened" ["_law_g","_law_a","_law_b","_law_prime_here"] (Jo K (ph U) (λas=>∃p,∃q:Pl p,∃a b,as=[.ints (ls q),.ints a,.ints b,.int p]/\jR p/\ln (ls q)<=40/\(ln a<=100/\ln b<=100)/\((∀m∈a,m.natAbs<2^9000)/\∀m∈b,m.natAbs<2^9000)/\∀n,p ∣ [(1:Int)].getD n 0-(cm a (ls q) n+cm b (Tz p (dl (ls q))) n)) λ_=>true):=by
 refine uK T.T6 qN (λ_ ⟨a,b,c,d,h,_⟩=>h▸rfl) (λf O A G s H E v=>⟨_,(jr (jE (i:=4) qN.nd rfl (Or.inr rfl) (jM (pD (mQ T) v (jq (xl 1) (jq (xl 0) (jq (xn 3) ju)))))) (jr (jE (i:=5) qN.nd rfl (Or.inr rfl) (jM (pD (mQ T) v (jq (xl 2) (jq (jM (pD (Hm T) v (jq (xl 0) ju))) (jq (xn 3) ju)))))) (jr (jH (i:=6) qN.nd rfl k4 (aa7 rfl T.acg (jU 4 T.jQ) (jU 5 T.jQ))) (jr (jE (i:=4) qN.nd rfl (Or.inr rfl) (jM (uq (xl 4) (jM (rJ (kZ (jq jt ju)) (lN (xn 6) (jU 4 T.jQ)) (λ_=>rfl)))))) (jr (jE (i:=5) qN.nd rfl (Or.inr rfl) (jM (uq (xl 5) (jM (rJ (kZ (jq jt ju)) (lN (xn 6) (jU 5 T.jQ)) (λ_=>rfl)))))) (jw (jD (Wg v.units (Wv (jM (pD (N5 T) v (jq (jM (SM (N':=["_law_k","_law_one","_law_other"]) (cap:=[some 4,some 5]) (nQ rfl rfl rfl rfl ⟨⟨rfl,.inr (.inl rfl),w5,.inl rfl,_,rfl,rfl⟩,⟨⟨rfl,.inr (.inl rfl),w5,.inl rfl,_,rfl,rfl⟩,tJ⟩⟩ ⟨rfl,⟨rfl,tJ⟩⟩ rfl) rfl (by rfl) T.mZ (xn 6) (λ_ _ _=>(oW 0)) (λ_ _ _=>(lO (lW 1 (xn 0) (λ_ _=>rfl)) (lW 2 (xn 0) (λ_ _=>rfl)))))) (jq (xn 3) ju))))) (Wv (jM (kZ (jq jt ju)))))))))))),λas u=>?_⟩)
 obtain⟨p,q,a,b,rfl,u,Z,⟨al,bl⟩,⟨M,N⟩,Q⟩:=u;have p2:2<=p:=u.1;have sl:=Zf (ls q);have I:∀x y:List Int,ln (Tz p (jy x y))<=ln x+ln y:=λx y=>aA (lA _ _) (by unfold jy;rw[aa,ag];exact aj _);refine⟨⟨⟨rfl,rfl,rfl,tJ⟩,a,ls q,p,rfl,by lia,by lia,M,(kO q).bd u⟩,λo B=>?_⟩;replace B:o=Tz p (jy a (ls q)):=B;refine⟨⟨⟨rfl,⟨⟨rfl,tJ⟩,ls q,rfl,by lia⟩,rfl,tJ⟩,b,Rx (ls q),p,rfl,by lia,by lia,N,aaD Z λn=>wD u ((kO q).red n)⟩,λt C=>?_⟩;replace C:t=Tz p (jy b (Rx (ls q))):=C;have ol:ln o<=150:=by rw[B];exact aA (I _ _) (by lia)
 have tl:ln t<=150:=by rw[C];exact aA (I _ _) (by lia)
 have z:∀n,p ∣ o.getD n 0+t.getD n 0-[(1:Int)].getD n 0:=λn=>by
  have h1:=Q n;have h2:=lR p (cm a (ls q) n);have S:=lR p (cm b (Rx (ls q)) n);have Y:p ∣ cm b (Rx (ls q)) n-cm b (Tz p (dl (ls q))) n:=by
   rw[jN b,jN b];refine su (λk=>?_) n;rw[XC,kh];have:=lR p ((dl (ls q)).getD k 0);have e:(dl (ls q)).getD k 0-pl p ((dl (ls q)).getD k 0) = -(pl p ((dl (ls q)).getD k 0)-(dl (ls q)).getD k 0):=by lia
   rw[e];exact aV.mpr this
  rw[B,C,kh,kh,jx,jx];generalize pl p (cm a (ls q) n)=J at *
  generalize pl p (cm b (Rx (ls q)) n)=L at *
  have:=dj (aU (aU h2 S) Y) h1;have e:J-cm a (ls q) n+(L-cm b (Rx (ls q)) n)+(cm b (Rx (ls q)) n-cm b (Tz p (dl (ls q))) n)-([(1:Int)].getD n 0-(cm a (ls q) n+cm b (Tz p (dl (ls q))) n))=J+L-[(1:Int)].getD n 0:=by lia
  rw[e]at this;exact this
 refine⟨⟨.inl rfl,.inl rfl⟩,λm D=>?_⟩;replace D:m=if (ln t:Int) > (ln o:Int) then(ln t:Int) else(ln o:Int):=D;have m0:(ln o:Int)<=m/\(ln t:Int)<=m/\m<=150:=by rw[D];split<;>lia
 obtain⟨k,rfl⟩:∃k:Nat,m=(k:Int):=⟨m.toNat,by lia⟩;refine jL (Z':=[k7 (ls q),k7 a,k7 b,k6 p,k7 o,k7 t,k6 (k:Int)]) rfl ?_;refine⟨⟨rfl,⟨⟨⟨tJ,tJ⟩,tJ⟩,⟨rfl,.inl rfl⟩,by show -(2:Int)^63<=(k:Int)-(ln o:Int);lia,by show((k:Int)-(ln o:Int)).toNat<=1000;lia⟩,by
  show ln o+(List.replicate ((k:Int)-(ln o:Int)).toNat (0:Int)).length<=sizeLine;rw[aC];exact bI (small1000 (by lia))⟩,λo2 j=>?_⟩
 replace j:o2=wd (k:Int) o:=j;refine⟨⟨rfl,⟨⟨⟨tJ,tJ⟩,tJ⟩,⟨rfl,.inl rfl⟩,by show -(2:Int)^63<=(k:Int)-(ln t:Int);lia,by show((k:Int)-(ln t:Int)).toNat<=1000;lia⟩,by
  show ln t+(List.replicate ((k:Int)-(ln t:Int)).toNat (0:Int)).length<=sizeLine;rw[aC];exact bI (small1000 (by lia))⟩,λg l=>?_⟩
 replace l:g=wd (k:Int) t:=l;have l1:=wL (m:=(k:Int)) (r:=o) (by lia);have l2:=wL (m:=(k:Int)) (r:=t) (by lia);rw[<- j]at l1;rw[<- l]at l2;refine jL (Z':=[k7 (ls q),k7 a,k7 b,k6 p,k7 o2,k7 g,k6 (k:Int)]) rfl ?_;have R:((List.range (k:Int).toNat).map λ(n:Nat)=>o2.getD (lD (ln o2) (n:Int)) 0+g.getD (lD (ln g) (n:Int)) 0).length<=1000:=by rw[aa,ag];lia
 refine⟨⟨⟨⟨⟨rfl,⟨by show(0:Int)<=(k:Int);lia,by show(k:Int)<=1000;lia⟩,λn F=>?_⟩,rfl,tJ⟩,(List.range (k:Int).toNat).map λ(n:Nat)=>o2.getD (lD (ln o2) (n:Int)) 0+g.getD (lD (ln g) (n:Int)) 0,p,rfl,by lia,R⟩,⟨tJ,tJ⟩,tJ⟩,?_⟩
 .have F:n<(k:Int).toNat:=F;exact⟨⟨.inl rfl,rfl,by show -(ln o2:Int)<=(n:Int);lia,by show(n:Int)<(ln o2:Int);lia⟩,⟨.inl rfl,rfl,by show -(ln g:Int)<=(n:Int);lia,by show(n:Int)<(ln g:Int);lia⟩⟩
 show PV.bl (decide (Tz p ((List.range (k:Int).toNat).map λ(n:Nat)=>o2.getD (lD (ln o2) (n:Int)) 0+g.getD (lD (ln g) (n:Int)) 0)=[1]))=PV.bl true;rw[aK];have one:Tz p [1]=[1]:=(qg (p:=p) [1]).symm.trans (uO p2);rw[<- one];refine acb λn=>?_;by_cases F:n<k
 .have x1:lD (ln o2) (n:Int)=n:=by unfold lD;rw[af (by lia)];lia
  have x2:lD (ln g) (n:Int)=n:=by unfold lD;rw[af (by lia)];lia
  rw[wX _ (show n<(k:Int).toNat by lia),x1,x2,j,l,yR,yR];exact z n
 .rw[jz (by rw[aa,ag];lia)];have:=z n;rw[jz (xs:=o) (by lia),jz (xs:=t) (by lia)]at this;exact this
open Pl in
def Mw:Ok P w K mg base 6 "_law_righted" ["_law_g","_law_right","_law_prime_here"] (Jo K (ph U) (λas=>∃p,∃q:Pl p,∃R:Tab,as=[.ints (ls q),jA R,.int p]/\jR p/\Mo q/\(2<=ln (ls q)/\ln (ls q)<=40)/\ln R=ln (ls q)-1/\(∀k,k<ln (ls q)-1->ln (R.getD k [])=ln (ls q)-2)/\Al p (ln (ls q)-2) (ln (ls q)-2) (mm (ln (ls q)-1) (ent ((j9 p (qT p (ls q))).drop 1)) (ent R)) pB) λ_=>true):=by
 refine uK T.Rk uh (λ_ ⟨a,b,c,h,_⟩=>h▸rfl) (λf N A t s H E S=>⟨_,(jr (Ro (k:=3) (j:=4) aB rfl (by rfl) T.mO (nA (xc (Xn T) S (jq (xl 0) (jq (xn 2) ju)))) (pg_tup rfl (pgs_cons (pg_name (i:=3) uh.nd rfl k4) (pgs_cons (pg_name (i:=4) uh.nd rfl (Or.inr rfl)) pgs_nil))) (jw (qd (k:=5) aB rfl (by rfl) T.mZ (lN (jU 0 T.jQ) jt) uh.nd rfl (Or.inr rfl) (jw (lF (wk (lV (lN (aaz rfl T.abO (jM (SM (N':=["_law_k","_law_row","_law_j","_law_right"]) (cap:=[some 4,some 5,some 1]) (nQ rfl rfl rfl rfl ⟨⟨rfl,.inr (.inl rfl),w5,.inl rfl,_,rfl,rfl⟩,⟨⟨rfl,.inr (.inl rfl),w5,.inl rfl,_,rfl,rfl⟩,⟨⟨rfl,.inr (.inl rfl),w5,.inl rfl,_,rfl,rfl⟩,tJ⟩⟩⟩ ⟨rfl,⟨rfl,⟨rfl,tJ⟩⟩⟩ rfl) rfl (by rfl) T.mZ (jU 4 T.jQ) (λ_ _ _=>(oW 0)) (λ_ _ _=>(nW (lW 1 (xn 0) (λ_ _=>rfl)) (sU (jC (xl_of (jC (xv 3) (xn 0) (λ_ _=>rfl))) (xn 2) (λ_ _=>rfl)))))))) (Ao T.JL (K1 (xn 3) (xn 5)))) (xn 2)) jt) (jw (jD rB)) j6))))) (jw (jD rB))),λas d=>?_⟩)
 obtain⟨p,q,R,rfl,d,r,⟨h2,Q⟩,Rl,L,M⟩:=d;have p2:2<=p:=d.1;obtain⟨u,z⟩:=xH d r (by lia);have B:∀i,i<ln (ls q)-1->∀n,0<=((j9 p (qT p (ls q))).getD i []).getD n 0/\((j9 p (qT p (ls q))).getD i []).getD n 0<9973:=λi O n=>by
  rw[<- JN d r (by lia) O];unfold mnR;rw[gQ,cu];cases (qw q ((xx p^p.toNat)^i))[n]? with
  |none=>exact⟨Int.le_refl 0,by show(0:Int)<9973;decide⟩
  |some y=>have:=d.2.1;have h1:=bw (y-if (n:Int)=(i:Int) then 1 else 0) (show p≠0 by lia);have h2:=bc (y-if (n:Int)=(i:Int) then 1 else 0) (show 0<p by lia);exact⟨h1,by show _ % p<9973;lia⟩
 have ml:ln ((j9 p (qT p (ls q))).drop 1)=ln (ls q)-2:=by rw[aZ,u];lia
 have l:∀k,((j9 p (qT p (ls q))).drop 1).getD k []=(j9 p (qT p (ls q))).getD (k+1) []:=λk=>by rw[gQ,cN,dR,<- gQ]
 refine⟨⟨⟨⟨rfl,rfl,tJ⟩,p,q,rfl,d,r,h2,Q⟩,rfl⟩,λi Z=>∃D F v,Z=[k7 (ls q),.fr (jA R),k6 p,D,F,v],⟨.un,.un,.un,rfl⟩,?_,?_⟩
 .rintro i n Z m ⟨D,F,v,rfl⟩;have m:(((j9 p (qT p (ls q))).drop 1).map PV.ints)[i]?=some n:=m;rw[aq]at m;obtain⟨x,I,rfl⟩:=bX.mp m;have Y:=(ao.mp I).1;rw[ml]at Y;have o:((j9 p (qT p (ls q))).drop 1).getD i []=x:=by rw[gQ,I];rfl
  have xl:ln x=ln (ls q)-1:=by rw[<- o,l];exact z _ (by lia)
  have xr:∀n,0<=x.getD n 0/\x.getD n 0<9973:=λn=>by rw[<- o,l];exact B _ (by lia) n
  refine⟨⟨.inl rfl,tJ⟩,⟨by show -(2:Int)^62<=(ln (ls q):Int)-2;lia,by show(ln (ls q):Int)-2<2^62;lia⟩,λj Z=>∃v,Z=[k7 (ls q),.fr (jA R),k6 p,k6 (i:Int),k7 x,v],⟨v,rfl⟩,?_,?_⟩
  .rintro j Z G ⟨v,rfl⟩;have G:j<((ln (ls q):Int)-2).toNat:=G;have it:∀k,k<ln x->m7 (jA R) (k:Int)=.ints (R.getD k []):=λk g=>Mu (by lia);have J:∀k,k<ln x->nF (.ints (kW (m7 (jA R) (k:Int)))) (j:Int)/\Dz (m7 (.ints (kW (m7 (jA R) (k:Int)))) (j:Int))=ent R k j:=λk g=>by rw[it k g];have rk:=L k (by lia);refine⟨⟨by show -(ln (R.getD k []):Int)<=(j:Int);lia,by show(j:Int)<(ln (R.getD k []):Int);lia⟩,?_⟩;show(R.getD k []).getD (lD (ln (R.getD k [])) (j:Int)) 0=_;rw[show lD (ln (R.getD k [])) (j:Int)=j by unfold lD;rw[af (by lia)];lia];rfl
   have C:((List.range ((ln x:Nat):Int).toNat).map λ(k:Nat)=>x.getD (lD (ln x) (k:Int)) 0*Dz (m7 (.ints (kW (m7 (jA R) (k:Int)))) (j:Int))).sum=mm (ln (ls q)-1) (ent ((j9 p (qT p (ls q))).drop 1)) (ent R) i j:=by rw[HX,show((ln x:Nat):Int).toNat=ln (ls q)-1 by lia];refine jG λk g=>?_;rw[(J k (by lia)).2,show lD (ln x) (k:Int)=k by unfold lD;rw[af (by lia)];lia,<- o];rfl
   refine⟨⟨⟨⟨⟨.inl rfl,⟨by show(0:Int)<=(ln x:Int);lia,by show(ln x:Int)<=1000;lia⟩,λk g=>?_⟩,rfl,rfl⟩,rfl,by show 0<p;lia⟩,tJ⟩,λc=>?_,λ_=>⟨_,rfl⟩⟩
   .have g:k<((ln x:Nat):Int).toNat:=g;refine⟨⟨.inl rfl,rfl,by show -(ln x:Int)<=(k:Int);lia,by show(k:Int)<(ln x:Int);lia⟩,⟨⟨⟨⟨rfl,rfl,xq (by lia)⟩,wH (by lia)⟩,rfl,(J k (by lia)).1⟩,rfl⟩,?_⟩;show IntMulOk (x.getD (lD (ln x) (k:Int)) 0) _;have:=xr (lD (ln x) (k:Int));exact xZ ⟨by lia,by lia⟩
   .exfalso;replace c:¬(((List.range ((ln x:Nat):Int).toNat).map λ(k:Nat)=>x.getD (lD (ln x) (k:Int)) 0*Dz (m7 (.ints (kW (m7 (jA R) (k:Int)))) (j:Int))).sum-if (i:Int)=(j:Int) then 1 else 0) % p=0:=c;rw[C]at c;refine c (bU ?_);have:=M i j (by lia) (by lia);unfold pB at this;by_cases e:i=j
    .rw[af e]at this;rw[af (by lia)];exact this
    .rw[ae e]at this;rw[ae (by lia)];exact this
  .rintro Z ⟨v,rfl⟩;exact⟨_,_,_,rfl⟩
 .rintro Z ⟨D,F,v,rfl⟩;exact⟨tJ,rfl⟩
def ou:Ok P w K mg base 2 "_law_row_of_wholes" ["_law_found"] (Jo K (ph U) (λas=>∃f,as=[.ints f]) λ_=>true):=by
 refine uK T.z6 sV (λ_ ⟨a,h⟩=>h▸rfl) (λf c A o s H E d=>⟨_,(jr (lF (oY (yZ (pA T.mR (xl 0) (rT (by rfl) T.yN Af)))) (jw (jD rB)) j6) (jr (Bl (k:=1) aB rfl (xl 0) sV.nd rfl k4 (jw (lF (oY (yZ (RN (CK T) d (jq (xn 1) ju)))) (jw (jD rB)) j6))) (jw (jD rB)))),λas b=>?_⟩)
 obtain⟨f,rfl⟩:=b;have e:pZ K (.ints f) (.ty "list")=true:=pY rfl rfl T.o7;refine⟨⟨rfl,tJ,_,_,_,rfl,rfl,T.o7⟩,λq=>absurd e q,λ_=>?_⟩;refine⟨rfl,λi Z=>∃v,Z=[k7 f,v],⟨.un,rfl⟩,?_,?_⟩
 .rintro i n Z g ⟨v,rfl⟩;exact⟨⟨⟨rfl,tJ⟩,n,rfl⟩,λq=>absurd rfl q,λ_=>⟨_,rfl⟩⟩
 .rintro Z ⟨v,rfl⟩;exact⟨tJ,rfl⟩
def zU:Ok P w K mg base 3 "_law_paper_shaped" ["_law_found"] (Jo K (ph U) (λas=>∃a b R,as=[.tup [.ints a,.ints b,jA R]]) λ_=>true):=by
 refine uK T.Dl uB (λ_ ⟨a,b,c,h⟩=>h▸rfl) (λf g A o s H E e=>⟨_,(jr (lF (L2.PW.pt (uA (oY (yZ (pA T.mR (xv 0) (rT (by rfl) T.GX Bo)))) (uA (wk (mY T.jQ (xv 0)) jt) (zf (oY (yZ (pA T.mR (jC (xv 0) jt (λ_ _=>rfl)) (rT (by rfl) T.yN Af)))))))) (jw (jD rB)) j6) (jr (tE (k:=1) aB rfl (nA (jC (xv 0) jt (λ_ _=>rfl))) uB.nd rfl k4 (jw (lF (oY (yZ (RN (ou T) e (jq (xl 1) ju)))) (jw (jD rB)) j6))) (jw (jD (Ik (RN (ou T) e (jq (xl_of (jC (xv 0) jt (λ_ _=>rfl))) ju)) (pe_one (RN (ou T) e (jq (xl_of (jC (xv 0) jt (λ_ _=>rfl))) ju)))))))),λas j=>?_⟩)
 obtain⟨a,b,R,rfl⟩:=j;obtain⟨h0,h1,h2⟩:=aad (a:=.ints a) (b:=.ints b) (c:=jA R);have l:pZ K (.tup [.ints a,.ints b,jA R]) (.ty "tuple")=true:=pY rfl rfl T.oN;have m:pZ K (jA R) (.ty "list")=true:=pY rfl rfl T.o7;refine⟨⟨⟨rfl,tJ,_,_,_,rfl,rfl,T.oN⟩,λ_=>⟨⟨⟨rfl,tJ⟩,tJ⟩,λ_=>⟨⟨rfl,tJ,h2⟩,tJ,_,_,_,rfl,rfl,T.o7⟩⟩⟩,λq=>?_,λ_=>?_⟩
 .exfalso;rcases q with q|q|q
  .exact q l
  .exact q rfl
  .exact q m
 refine⟨⟨⟨rfl,tJ,h2⟩,rfl⟩,λi Z=>∃v,Z=[.fr (.tup [.ints a,.ints b,jA R]),v],⟨.un,rfl⟩,?_,?_⟩
 .rintro i n Z d ⟨v,rfl⟩;have d:(R.map PV.ints)[i]?=some n:=d;rw[aq]at d;obtain⟨x,p,rfl⟩:=bX.mp d;exact⟨⟨⟨rfl,tJ⟩,x,rfl⟩,λq=>absurd rfl q,λ_=>⟨_,rfl⟩⟩
 .rintro Z ⟨v,rfl⟩;refine⟨⟨⟨⟨⟨⟨rfl,tJ,h0⟩,rfl⟩,tJ⟩,a,rfl⟩,λ_=>⟨⟨⟨⟨rfl,tJ,h1⟩,rfl⟩,tJ⟩,b,rfl⟩⟩,?_⟩;rw[aK];exact⟨rfl,rfl⟩
open Pl in
structure GdP (p:Int)(q:Pl p)(a b:List Int)(R:Tab):Prop where
 pr:jR p
 mo:Mo q
 l2:2<=ln (ls q)
 l40:ln (ls q)<=40
 len:ln a<=100/\ln b<=100
 bd:(∀m∈a,m.natAbs<2^9000)/\∀m∈b,m.natAbs<2^9000
 eq:∀n,p ∣ [(1:Int)].getD n 0-(cm a (ls q) n+cm b (Tz p (dl (ls q))) n)
 rl:ln R=ln (ls q)-1
 rr:∀k,k<ln (ls q)-1->ln (R.getD k [])=ln (ls q)-2
 al:Al p (ln (ls q)-2) (ln (ls q)-2) (mm (ln (ls q)-1) (ent ((j9 p (qT p (ls q))).drop 1)) (ent R)) pB
open Pl in
def Zb:Ok P w K mg base 7 "_law_good" ["_law_g","_law_a","_law_b","_law_right","_law_prime_here"] (Jo K (ph U) (λas=>∃p,∃q:Pl p,∃a b R,as=[.ints (ls q),.ints a,.ints b,jA R,.int p]/\GdP p q a b R) λ_=>true):=by
 refine uK T.Z8 O3 (λ_ ⟨a,b,c,d,e,h,_⟩=>h▸rfl) (λf r A o s H E j=>⟨_,(jr (lF (L2.PW.pt (uA (R9 (jU 0 T.jQ) jt) (uA (wk (lW 0 (uc jt) (λ_ _=>rfl)) jt) (zf (oY (yZ (RN (QJ T) j (jq (xl 0) (jq (xl 1) (jq (xl 2) (jq (xn 4) ju))))))))))) (jw (jD rB)) j6) (jr (lF (wk (mY T.jQ (xv 3)) (lN (jU 0 T.jQ) jt)) (jw (jD rB)) j6) (jr (tE (k:=5) aB rfl (nA (xv 3)) O3.nd rfl k4 (jw (lF (wk (jU 5 T.jQ) (lN (jU 0 T.jQ) jt)) (jw (jD rB)) j6))) (jw (jD (RN (Mw T) j (jq (xl 0) (jq (xv 3) (jq (xn 4) ju))))))))),λas u=>?_⟩)
 obtain⟨p,q,a,b,R,rfl,ok⟩:=u;have y:=ok.l2;have l:=ok.l40;have D:ln (R.map PV.ints)=ln R:=aa _;have B:(ls q).getD (lD (ln (ls q)) (-1)) 0=1:=(vK (ls q) (by lia)).trans ok.mo;refine⟨⟨⟨.inl rfl,tJ⟩,λ_=>⟨⟨⟨.inl rfl,tJ,by lia,by lia⟩,tJ⟩,λ_=>⟨⟨rfl,rfl,rfl,rfl,tJ⟩,p,q,a,b,rfl,ok.pr,l,ok.len,ok.bd,ok.eq⟩⟩⟩,λz=>?_,λ_=>?_⟩
 .exfalso;have z:(ln (ls q):Int)<2\/¬(ls q).getD (lD (ln (ls q)) (-1)) 0=1\/¬true=true:=z;rcases z with z|z|z
  .lia
  .exact z B
  .exact z rfl
 refine⟨⟨⟨rfl,tJ⟩,.inl rfl,tJ⟩,λz=>?_,λ_=>?_⟩
 .exfalso;have z:¬(ln (R.map PV.ints):Int)=(ln (ls q):Int)-1:=z;have:=ok.rl;lia
 refine⟨⟨rfl,rfl⟩,λi Z=>∃v,Z=[k7 (ls q),k7 a,k7 b,.fr (jA R),k6 p,v],⟨.un,rfl⟩,?_,?_⟩
 .rintro i n Z g ⟨v,rfl⟩;have g:(R.map PV.ints)[i]?=some n:=g;rw[aq]at g;obtain⟨x,m,rfl⟩:=bX.mp g;have C:=(ao.mp m).1;have t:R.getD i []=x:=by rw[gQ,m];rfl
  have xl:=ok.rr i (by have:=ok.rl;lia);rw[t]at xl;refine⟨⟨.inl rfl,.inl rfl,tJ⟩,λz=>?_,λ_=>⟨_,rfl⟩⟩;exfalso;have z:¬(ln x:Int)=(ln (ls q):Int)-2:=z;lia
 .rintro Z ⟨v,rfl⟩;exact⟨⟨⟨rfl,rfl,rfl,tJ⟩,p,q,R,rfl,ok.pr,ok.mo,⟨y,l⟩,ok.rl,ok.rr,ok.al⟩,rfl⟩
open Pl in
def Nt:Ok P w K mg base 10 "_law_papered" ["_law_kind","_law_g","_law_prime_here"] (Jo K (ph U) (λas=>∃p,∃q:Pl p,as=[.ob 0 p,.ints (ls q),.int p]/\jR p/\wC q/\ln (ls q)<=13) λ_=>true):=by
 refine uK T.QT Cv (λ_ ⟨a,b,h,_⟩=>h▸rfl) (λf u A o s H E j=>⟨_,(jr (lF (L2.PW.pt (uA (oY (yZ (RN (ou T) j (jq (xl 1) ju)))) (zf (uM (jU 1 T.jQ) jt)))) (jw (jD rB)) j6) (jr (kY (i:=3) Cv.nd rfl k4 (xc (Wi T) j (jq (xv 0) (jq (jM (HS T.yN (xl 1) (λ_=>.inl rfl))) ju)))) (jr (lF (oY (yZ (RN (zU T) j (jq (xv 3) ju)))) (jw (jD rB)) j6) (jw (jD (RN (Zb T) j (jq (jM (Dc (N':=["_law_number","_law_prime_here"]) (cap:=[some 2]) (nQ rfl rfl rfl rfl ⟨⟨rfl,.inr (.inl rfl),w5,.inl rfl,_,rfl,rfl⟩,tJ⟩ ⟨rfl,tJ⟩ rfl) rfl (xl 1) (λ_ _ _=>(oW 0)) (λ_ _ _=>(lV (xn 0) (xn 1))))) (jq (xl_of (jC (xv 3) jt (λ_ _=>rfl))) (jq (xl_of (jC (xv 3) jt (λ_ _=>rfl))) (jq (jC (xv 3) jt (λ_ _=>rfl)) (jq (xn 2) ju))))))))))),λas d=>?_⟩)
 obtain⟨p,q,rfl,d,I,J⟩:=d;have t:0<p:=by have:=d.1;lia
 refine⟨⟨⟨⟨rfl,tJ⟩,ls q,rfl⟩,λ_=>⟨.inl rfl,tJ⟩⟩,λz=>?_,λ_=>?_⟩
 .exfalso;have z:¬true=true\/(13:Int)<(ln (ls q):Int):=z;rcases z with z|z
  .exact z rfl
  .lia
 refine⟨⟨⟨rfl,rfl,tJ⟩,p,q,rfl,d,I,by lia⟩,λl e=>?_⟩;replace e:l=UJ p (ls q):=e;have L:ln (Tz p (dl (ls q)))<=ln (ls q):=aA (lA _ _) (by unfold dl;rw[aa,ag];exact aj _);have ok:=R7 d I (by lia);obtain⟨r,v,_,F,G⟩:=Uy (p:=p) (f:=ls q) (g:=Tz p (dl (ls q))) (N:=100) d (by decide) (by lia) (by lia);have B:(I9 p (ls q) (Tz p (dl (ls q)))).1=[1]:=v.trans ok.gc1;have k:=r.eq;rw[B]at k;have x:=r.f2.bd d;have y:=r.f3.bd d;have gd:GdP p q (I9 p (ls q) (Tz p (dl (ls q)))).2.1 (I9 p (ls q) (Tz p (dl (ls q)))).2.2 (RV p ((j9 p (qT p (ls q))).drop 1)):=⟨d,I.mo,I.deg,by lia,⟨F,G⟩,⟨x,y⟩,k,ok.rl,ok.un,ok.al⟩;unfold UJ at e;rw[rW]at e;generalize (I9 p (ls q) (Tz p (dl (ls q)))).2.1=a at *
 generalize (I9 p (ls q) (Tz p (dl (ls q)))).2.2=b at *
 generalize RV p ((j9 p (qT p (ls q))).drop 1)=R at *
 refine jL (Z':=[.fr (.ob 0 p),k7 (ls q),k6 p,.fr l]) rfl ?_;subst e;refine⟨⟨⟨rfl,tJ⟩,a,b,R,rfl⟩,λz=>absurd rfl z,λ_=>?_⟩;obtain⟨h0,h1,h2⟩:=aad (a:=.ints a) (b:=.ints b) (c:=jA R);have m:(ls q).map (λn=>n % p)=ls q:=by refine jc (bV (g:=id) λn D=>?_) (jo _);obtain⟨i,C,rfl⟩:=bO.mp D;have:=(kO q).red i;rw[gQ,ac C,lJ t]at this;exact this
 refine⟨⟨⟨⟨rfl,by show ln (ls q)<=1000;lia,λn _=>⟨rfl,rfl,t⟩⟩,⟨⟨rfl,tJ,h0⟩,rfl⟩,⟨⟨rfl,tJ,h1⟩,rfl⟩,⟨rfl,tJ,h2⟩,rfl,tJ⟩,p,q,a,b,R,?_,gd⟩,rfl⟩;show[PV.ints ((ls q).map λn=>n % p),.ints a,.ints b,jA R,.int p]=_;rw[m]
open Pl in
def Mt:∀(A B:List (Pl p×Nat)),Pr (A++B) g=Pr A g*Pr B g
 |[],B=>(one_mul _).symm
 |q::A,B=>by show q.1^g q.2*Pr (A++B) g=q.1^g q.2*Pr A g*Pr B g;rw[Mt A B,mul_assoc]
open Pl in
def aaj (F:Fun K "law" "law" Fi f fd):FnOk P w K mg base CX0 14 f fd ["_law_script"] (zp K):=by
 refine abS (G:=ph U) F oV (λcdv A outer s H E I=>⟨_,(jr (jH (i:=1) oV.nd rfl k4 (Zy (Y7 T) I (jq (xr 0) ju))) (jr (jH (i:=2) oV.nd rfl k4 (Zy (Ci T) I (jq (tY (xn 1) jt) ju))) (jr (jH (i:=3) oV.nd rfl k4 (sU (jC (jM (kZ (jq jt (jq jt ju)))) (Ao T.JL (K1 (lV (xn 1) jt) jt)) (λ_ _=>rfl)))) (uU (lF (vZ (lV (tY (xn 1) (yL jt jt)) jt) jt) (jr (Y0 (jC (uJ (ut (jq (oZ (jq jt (jq jt ju))) (jq (oZ (jq jt (jq jt ju))) ju)))) (Ao T.JL (K1 (lV (tY (xn 1) (yL jt jt)) jt) jt)) (λ_ _=>rfl)) (pg_tup rfl (pgs_cons (pg_name (i:=3) oV.nd rfl k4) (pgs_cons (pg_name (i:=4) oV.nd rfl k4) pgs_nil)))) (jw (jH (i:=2) oV.nd rfl k4 (Zy (V6 T) I (jq (lV (tY (xn 1) (yL jt jt)) (xn 4)) ju))))) j6) (jr (kY (i:=5) oV.nd rfl k4 (ac0 (V0 T) I gkR (xn 2))) (jr (jE (i:=6) oV.nd rfl k4 (xcL (Ni T) I (jq (jM (rH (xr 0) (nR jt) (nR jt) (λ_ _=>.inr rfl))) (jq (xn 2) (jq (xn 3) ju))))) (jr (jE (i:=6) oV.nd rfl k4 (jM (pD (mQ T) I (jq (xl 6) (jq (jM (kZ (jq (lO jt (lV (tY (xn 1) jt) (lN (xn 2) jt))) ju))) (jq (xn 2) ju)))))) (jr (kY (i:=7) oV.nd rfl k4 (xc (Uc T) I (jq (xv 5) (jq (jM (HS T.yN (xl 6) (λ_=>.inl rfl))) ju)))) (jr (lF (L2.PW.pt (uA (oY (yZ (pA T.mR (xv 7) (rT (by rfl) T.GX Bo)))) (uA (wk (mY T.jQ (xv 7)) jt) (zf (oY (yZ (pA T.mR (jC (xv 7) jt (λ_ _=>rfl)) (rT (by rfl) T.yN Af)))))))) (jw (jD rB)) j6) (jr (jE (i:=8) oV.nd rfl k4 (jM (kZ (jq (lW 6 (uc jt) (λ_ _=>rfl)) ju)))) (jr (tE (k:=9) aB rfl (nA (jC (xv 7) jt (λ_ _=>rfl))) oV.nd rfl k4 (jr (lF (L2.PW.pt (uA (oY (yZ (pA T.mR (xv 9) (rT (by rfl) T.GX Bo)))) (uA (wk (mY T.jQ (xv 9)) jt) (uA (oY (yZ (RN (CK T) I (jq (sU (jC (xv 9) jt (λ_ _=>rfl))) ju)))) (zf (R9 (sU (jC (xv 9) jt (λ_ _=>rfl))) jt)))))) (jw (jD rB)) j6) (jr (lF (oY (yZ (RN (Nt T) I (jq (xv 5) (jq (xl_of (jC (xv 9) jt (λ_ _=>rfl))) (jq (xn 2) ju)))))) (jw (jD rB)) j6) (jw (qd (k:=10) aB rfl (by rfl) T.mZ (abo rfl T.acI (sU (jC (xv 9) jt (λ_ _=>rfl))) jt) oV.nd rfl k4 (jw (jE (i:=8) oV.nd rfl k4 (jM (pD (mQ T) I (jq (xl 8) (jq (xl_of (jC (xv 9) jt (λ_ _=>rfl))) (jq (xn 2) ju)))))))))))) (jw (jD (Ik (RN (CK T) I (jq (sU (jC (xv 7) jt (λ_ _=>rfl))) ju)) (Ik (K1 (sU (jC (xv 7) jt (λ_ _=>rfl))) (lW 6 (uc jt) (λ_ _=>rfl))) (pe_one (Wg I.units (Wv (xl 8)) (Wv (xl 6))))))))))))))))))),λy h63 hbits=>?_⟩)
 refine⟨⟨⟨rfl,tJ⟩,y,rfl⟩,λd ehd=>?_⟩;have hd0:0<=d:=by rw[ehd];exact Uz _
 have dv:∀k:Int,0<k->k<=30000->K9 d k:=λk k0 k1=>⟨k0,(iV (by lia)).mpr (aO (show k.natAbs<=2^15 by lia) (a7 (by decide) (by decide)))⟩;have d12:K9 d (10^12):=⟨by decide,by decide⟩;have d13:K9 d (10^13):=⟨by decide,by decide⟩;refine⟨⟨⟨⟨rfl,tJ,dv 8 (by decide) (by decide)⟩,tJ⟩,_,rfl⟩,λp1 ep1=>?_⟩;have hp1:jR p1:=by rw[ep1];exact Ym _
 clear ep1;have R:∀(a b:Int) (P:Prop) [Decidable P],a<=12/\b<=12/\0<=a/\0<=b->nF (.ints [a,b]) (if P then 1 else 0)/\0<=Dz (m7 (.ints [a,b]) (if P then 1 else 0))/\Dz (m7 (.ints [a,b]) (if P then 1 else 0))<=12:=λa b P _ h=>by
  by_cases c:P
  .rw[af c];exact⟨⟨by show -(2:Int)<=1;decide,by show(1:Int)<2;decide⟩,h.2.2.2,h.2.1⟩
  .rw[ae c];exact⟨⟨by show -(2:Int)<=0;decide,by show(0:Int)<2;decide⟩,h.2.2.1,h.1⟩
 have f1:=R 6 12 (d % 8=5) ⟨by decide,by decide,by decide,by decide⟩;refine⟨⟨⟨⟨⟨tJ,tJ,tJ⟩,tJ⟩,⟨⟨rfl,tJ,by decide⟩,tJ⟩,f1.1⟩,rfl⟩,λO emo=>?_⟩;have m1:0<=O/\O<=12:=by rw[emo];exact f1.2
 clear emo f1 R;refine jL (Z':=[.fr (.scr y),k6 d,k6 p1,k6 O,.un,.un,.un,.un,.un,.un,.un]) rfl ?_;refine⟨λZ=>∃p mo Q,Z=[.fr (.scr y),k6 d,k6 p,k6 mo,Q,.un,.un,.un,.un,.un,.un]/\jR p/\0<=mo/\mo<=12,⟨⟨⟨⟨rfl,⟨tJ,tJ,by decide,by decide,by decide⟩,d12⟩,tJ,by decide⟩,tJ⟩,λ_=>?_,λ_=>⟨p1,O,.un,rfl,hp1,m1.1,m1.2⟩⟩,?_⟩
 .have ex:∃a b:Int,nF (.lst [.tup [.int 5,.int 996],.tup [.int 4,.int 9972]]) (if d / 10^12 % 48=7 then 1 else 0)/\m7 (.lst [.tup [.int 5,.int 996],.tup [.int 4,.int 9972]]) (if d / 10^12 % 48=7 then 1 else 0)=.tup [.int a,.int b]/\0<=a/\a<=12/\0<b/\b<=9972:=by
   by_cases c:d / 10^12 % 48=7
   .rw[af c];exact⟨4,9972,⟨by decide,by decide⟩,rfl,by decide,by decide,by decide,by decide⟩
   .rw[ae c];exact⟨5,996,⟨by decide,by decide⟩,rfl,by decide,by decide,by decide,by decide⟩
  obtain⟨mo,j,hit,eit,m0,m2,w0,w1⟩:=ex;refine⟨⟨⟨⟨tJ,tJ,tJ⟩,⟨tJ,tJ,tJ⟩,tJ⟩,⟨⟨⟨rfl,⟨tJ,tJ,by decide,by decide,by decide⟩,d12⟩,tJ,by decide⟩,tJ⟩,hit⟩,.int mo,.int j,eit,?_⟩;refine jL (Z':=[.fr (.scr y),k6 d,k6 p1,k6 mo,k6 j,.un,.un,.un,.un,.un,.un]) rfl ?_;have c0:=bw (d / 10^13) (show j≠0 by lia);have c1:=bc (d / 10^13) w0;refine⟨⟨⟨⟨⟨rfl,⟨tJ,tJ,by decide,by decide,by decide⟩,d13⟩,rfl,w0⟩,tJ⟩,d / 10^13 % j,rfl,c0,by lia⟩,λp ep=>⟨p,mo,k6 j,rfl,?_,m0,m2⟩⟩;have ep:p=pgF (d / 10^13 % j):=ep;rw[ep];generalize d / 10^13 % j=c at c0 c1;exact Qu _ _ (by lia) (by lia) (by lia)
 clear hp1 m1 p1 O d12 d13;rintro Z ⟨p,mo,Q,rfl,D,m0,m12⟩;have C:2<=p:=D.1;have p3:p<=9973:=D.2.1;refine⟨⟨rfl,D⟩,λkd ekd=>?_⟩;replace ekd:kd=.ob 0 p:=ekd;subst ekd;refine jL (Z':=[.fr (.scr y),k6 d,k6 p,k6 mo,Q,.fr (.ob 0 p),.un,.un,.un,.un,.un]) rfl ?_;obtain⟨x,mx,ex,lx⟩:=JT D m0 (qU y (some 1) (some 63));refine⟨⟨⟨⟨rfl,tJ,tJ⟩,rfl,rfl,tJ⟩,qU y (some 1) (some 63),p,mo,rfl,D,m0,by lia⟩,λf0 M=>?_⟩;replace M:f0=ls x:=by have M:f0=prodF p mo (qU y (some 1) (some 63)):=M;rw[M,ex]
 clear ex;refine jL (Z':=[.fr (.scr y),k6 d,k6 p,k6 mo,Q,.fr (.ob 0 p),k7 f0,.un,.un,.un,.un]) rfl ?_;subst M;obtain⟨a,ea,a0,a1⟩:∃a,1+d / 240 % (p-1)=a/\0<a/\a<p:=by have h1:=bw (d / 240) (show p-1≠0 by lia);have h2:=bc (d / 240) (show 0<p-1 by lia);exact⟨_,rfl,by lia,by lia⟩
 have sm:∀m∈[a],m.natAbs<2^9000:=λm hm=>by
  rw[bx.mp hm];have:a.natAbs<2^14:=by lia
  exact aF this (cS (by decide) (by decide))
 refine⟨⟨⟨rfl,⟨⟨⟨tJ,⟨rfl,tJ,dv 240 (by decide) (by decide)⟩,⟨rfl,tJ⟩,by show(0:Int)<p-1;lia⟩,tJ⟩,tJ⟩,rfl,tJ⟩,ls x,[a],p,by rw[<- ea];rfl,by lia,by show ln (ls x)+1<=1000;lia,(kO x).bd D,sm⟩,λl r=>?_⟩;replace r:l=ls (con p a*x):=by have r:l=Tz p (jy (ls x) [1+d / 240 % (p-1)]):=r;rw[r,ea,<- qg,<- lM,jV,mul_comm];rfl
 clear ea dv;refine jL (Z':=[.fr (.scr y),k6 d,k6 p,k6 mo,Q,.fr (.ob 0 p),k7 l,.un,.un,.un,.un]) rfl ?_;obtain⟨ne,la,le,nr⟩:=QB D mx a0 a1;have tz:Tz p l=l:=by rw[r];exact rW _
 rw[<- r]at ne la le nr;have lf:0<ln l:=lP ne;have lx13:ln (ls x)<=13:=by lia
 refine⟨⟨⟨rfl,rfl,tJ⟩,p,l,rfl,D,by lia,by rw[tz,nr];lia,by rw[tz];exact ne⟩,λfo N=>?_⟩;obtain⟨A,FA,_,eP,eA,_⟩:=Mj D (f:=l) (by rw[tz];exact ne) (by rw[tz,nr];lia);rw[tz,la]at eP;rw[tz,nr]at eA;replace N:fo=.tup [.int a,.lst (A.map Fe)]:=by have N:fo=Bu p l:=N;rw[N,eP]
 clear eP;have eX:x=Pr A id:=(Mo.inj eA).symm;refine jL (Z':=[.fr (.scr y),k6 d,k6 p,k6 mo,Q,.fr (.ob 0 p),k7 l,.fr fo,.un,.un,.un]) rfl ?_;subst N;have h0:∀a b:PV,nF (.tup [a,b]) 0:=λa b=>⟨by show -(2:Int)<=0;decide,by show(0:Int)<2;decide⟩;have h1:∀a b:PV,nF (.tup [a,b]) 1:=λa b=>⟨by show -(2:Int)<=1;decide,by show(1:Int)<2;decide⟩;have i1:∀xs,pZ K (.tup xs) (.ty "tuple")=true:=λxs=>pY rfl rfl T.oN;have i2:∀xs,pZ K (.lst xs) (.ty "list")=true:=λxs=>pY rfl rfl T.o7;refine⟨⟨⟨rfl,tJ,_,_,_,rfl,rfl,T.oN⟩,λ_=>⟨⟨⟨rfl,tJ⟩,tJ⟩,λ_=>⟨⟨rfl,tJ,h1 _ _⟩,tJ,_,_,_,rfl,rfl,T.o7⟩⟩⟩,λq=>?_,λ_=>?_⟩
 .exfalso;have q:¬pZ K (.tup [.int a,.lst (A.map Fe)]) (.ty "tuple")=true\/¬(2:Int)=2\/¬pZ K (.lst (A.map Fe)) (.ty "list")=true:=q;rcases q with q|q|q
  .exact q (i1 _)
  .exact q rfl
  .exact q (i2 _)
 have lix:l.getD (lD (ln l) (-1)) 0=a:=(vK l lf).trans la;have lb:-(ln l:Int) <= -1/\(-1:Int)<(ln l:Int):=by lia
 refine⟨⟨⟨⟨.inl rfl,tJ,lb⟩,tJ⟩,tJ⟩,λd0 J=>?_⟩;replace J:d0=ls (con p a*(1:Pl p)):=by
  have J:d0=[l.getD (lD (ln l) (-1)) 0]:=J;rw[J,lix,mul_comm,one_mul];refine(rD (p:=p) (f:=[a]) ⟨λ_=>by show a≠0;lia,λn=>?_⟩).symm
  match n with
  |0=>show pl p a=a;rw[lJ (by lia)];exact br (by lia) a1
  |n+1=>exact lU p
 refine jL (Z':=[.fr (.scr y),k6 d,k6 p,k6 mo,Q,.fr (.ob 0 p),k7 l,.fr (.tup [.int a,.lst (A.map Fe)]),k7 d0,.un,.un]) rfl ?_;subst J;have moA:∀q∈A,Mo q.1:=λq S=>(FA.irr q S).1.mo;have dgA:∀q∈A,1<ln (ls q.1):=λq S=>(FA.irr q S).1.deg;have moP:∀B:List (Pl p×Nat),(∀q∈B,q∈A)->Mo (Pr B id):=λB h=>Mo.pr C λq S=>moA q (h q S);refine⟨⟨⟨rfl,tJ,h1 _ _⟩,rfl⟩,λi Z=>∃v9 o,Z=[.fr (.scr y),k6 d,k6 p,k6 mo,Q,.fr (.ob 0 p),k7 l,.fr (.tup [.int a,.lst (A.map Fe)]),k7 (ls (con p a*Pr (A.take i) id)),v9,o],⟨.un,.un,rfl⟩,?_,?_⟩
 .rintro i n Z hn ⟨v9,o,rfl⟩;have hn:(A.map Fe)[i]?=some n:=hn;rw[aq]at hn;obtain⟨q,S,rfl⟩:=bX.mp hn;have qm:q∈A:=bE S;obtain⟨Iq,_,q0⟩:=FA.irr q qm;have Y:=xm C (g:=id) moA dgA q qm;rw[eA]at Y;have Y:q.2<ln (ls x):=Y;have et:A.take (i+1)=A.take i++[q]:=by rw[gL,S];rfl
  have sp:Pr A id=Pr (A.take i) id*(q.1^q.2*Pr (A.drop (i+1)) id):=by
   have e:=List.take_append_drop (i+1) A;rw[et,cV]at e;have h:Pr (A.take i++([q]++A.drop (i+1))) id=Pr (A.take i) id*(q.1^q.2*Pr (A.drop (i+1)) id):=by rw[Mt];rfl
   rw[e]at h;exact h
  have mt:=moP (A.take i) λz hz=>List.mem_of_mem_take hz;have md:=moP (A.drop (i+1)) λz hz=>iJ hz;have short:∀k,k<=q.2->Mo (Pr (A.take i) id*q.1^k)/\ln (ls (con p a*(Pr (A.take i) id*q.1^k)))<=13:=λk hk=>by
   have mk':=Mo.mul C mt (Mo.pow C Iq.mo k);have mr:=Mo.mul C (Mo.pow C Iq.mo (q.2-k)) md;have e:=Mo.len C mk' mr;have ee:Pr (A.take i) id*q.1^k*(q.1^(q.2-k)*Pr (A.drop (i+1)) id)=x:=by rw[eX,sp];have pa:=pow_add q.1 k (q.2-k);rw[show k+(q.2-k)=q.2 by lia]at pa;rw[pa];generalize q.1^k=u;generalize q.1^(q.2-k)=v;generalize Pr (A.take i) id=s;generalize Pr (A.drop (i+1)) id=t;grind
   rw[ee]at e;refine⟨mk',?_⟩;rw[(QB D mk' a0 a1).2.2.1];have:=mr.pos;lia
  have ql:ln (ls q.1)<=13:=by
   have e:=Mo.len C Iq.mo (Mo.mul C (Mo.mul C mt (Mo.pow C Iq.mo (q.2-1))) md);have ee:q.1*(Pr (A.take i) id*q.1^(q.2-1)*Pr (A.drop (i+1)) id)=x:=by rw[eX,sp,show q.2=q.2-1+1 by lia];show _=Pr (A.take i) id*(q.1^(q.2-1)*q.1*Pr (A.drop (i+1)) id);rw[fq];generalize q.1^(q.2-1)=u;generalize Pr (A.take i) id=s;generalize Pr (A.drop (i+1)) id=t;generalize q.1=z;grind
   rw[ee]at e;have:=(Mo.mul C (Mo.mul C mt (Mo.pow C Iq.mo (q.2-1))) md).pos;lia
  have eqP:Fe q=.tup [.ints (ls q.1),.int (q.2:Int)]:=rfl;rw[eqP];refine⟨⟨⟨rfl,tJ,_,_,_,rfl,rfl,T.oN⟩,λ_=>⟨⟨⟨rfl,tJ⟩,tJ⟩,λ_=>⟨⟨⟨⟨⟨rfl,tJ,h1 _ _⟩,rfl⟩,tJ⟩,(q.2:Int),rfl⟩,λ_=>⟨⟨⟨rfl,tJ,h1 _ _⟩,rfl⟩,tJ⟩⟩⟩⟩,λz=>?_,λ_=>?_⟩
  .exfalso;have z:¬pZ K (.tup [.ints (ls q.1),.int (q.2:Int)]) (.ty "tuple")=true\/¬(2:Int)=2\/¬true=true\/(q.2:Int)<1:=z;rcases z with z|z|z|z
   .exact z (i1 _)
   .exact z rfl
   .exact z rfl
   .lia
  refine⟨⟨⟨rfl,⟨⟨rfl,tJ,h0 _ _⟩,rfl⟩,rfl,tJ⟩,p,q.1,rfl,D,Iq,ql⟩,λz=>absurd rfl z,λ_=>?_⟩;have mn:(if (13:Int)<(q.2:Int) then(13:Int) else(q.2:Int))=(q.2:Int):=ae (by lia);refine⟨⟨⟨⟨rfl,tJ,h1 _ _⟩,rfl⟩,tJ⟩,⟨?_,?_⟩,λk Z=>∃o,Z=[.fr (.scr y),k6 d,k6 p,k6 mo,Q,.fr (.ob 0 p),k7 l,.fr (.tup [.int a,.lst (A.map Fe)]),k7 (ls (con p a*(Pr (A.take i) id*q.1^k))),.fr (.tup [.ints (ls q.1),.int (q.2:Int)]),o],⟨o,?_⟩,?_,?_⟩
  .show -(2:Int)^62<=if (13:Int)<(q.2:Int) then(13:Int) else(q.2:Int);rw[mn];lia
  .show(if (13:Int)<(q.2:Int) then(13:Int) else(q.2:Int))<2^62;rw[mn];lia
  .show _=[_,_,_,_,_,_,_,_,k7 (ls (con p a*(Pr (A.take i) id*1))),_,_];rw[mul_comm _ (1:Pl p),one_mul];rfl
  .rintro k Z hk ⟨o,rfl⟩;have hk:k<(if (13:Int)<(q.2:Int) then(13:Int) else(q.2:Int)).toNat:=hk;rw[mn]at hk;obtain⟨_,sk⟩:=short k (by lia);refine⟨⟨⟨rfl,⟨⟨rfl,tJ,h0 _ _⟩,rfl⟩,rfl,tJ⟩,ls (con p a*(Pr (A.take i) id*q.1^k)),ls q.1,p,rfl,by lia,by lia,(kO _).bd D,(kO _).bd D⟩,λd1 L=>⟨k6 (k:Int),?_⟩⟩;replace L:d1=ls (con p a*(Pr (A.take i) id*q.1^(k+1))):=by have L:d1=Tz p (jy (ls (con p a*(Pr (A.take i) id*q.1^k))) (ls q.1)):=L;rw[L,Wl];congr 1;show _=con p a*(Pr (A.take i) id*(q.1^k*q.1));generalize q.1^k=u;generalize Pr (A.take i) id=s;generalize con p a=c;generalize q.1=z;grind
   rw[L];rfl
  .rintro Z ⟨o,rfl⟩;refine⟨.fr (.tup [.ints (ls q.1),.int (q.2:Int)]),o,?_⟩;show[_,_,_,_,_,_,_,_,k7 (ls (con p a*(Pr (A.take i) id*q.1^(if (13:Int)<(q.2:Int) then(13:Int) else(q.2:Int)).toNat))),_,_]=_;rw[mn,et,Mt,aD];show _=[_,_,_,_,_,_,_,_,k7 (ls (con p a*(Pr (A.take i) id*(q.1^q.2*1)))),_,_];rw[mul_comm (q.1^q.2) (1:Pl p),one_mul]
 rintro Z ⟨v9,o,rfl⟩;refine jL (Z':=[.fr (.scr y),k6 d,k6 p,k6 mo,Q,.fr (.ob 0 p),k7 l,.fr (.tup [.int a,.lst (A.map Fe)]),k7 l,v9,o]) (by
  show[_,_,_,_,_,_,_,_,k7 (ls (con p a*Pr (A.take (ln (A.map Fe))) id)),_,_]=_;rw[aa,cU,<- eX,<- r]) ?_
 refine⟨⟨⟨⟨⟨⟨rfl,tJ,h0 _ _⟩,rfl⟩,tJ⟩,a,rfl⟩,λ_=>⟨⟨⟨⟨rfl,tJ,h0 _ _⟩,rfl⟩,.inl rfl,tJ,lb⟩,λ_=>⟨rfl,rfl⟩⟩⟩,?_⟩;show PV.bl (decide _)=PV.bl true;rw[aK];exact⟨rfl,lix.symm,rfl⟩
end
end lz
theorem PySem.Challenge.cw_factorforge_k43_whole_each_part_papered_holds : PySem.Challenge.rw_factorforge_k43_whole_each_part_papered.Holds :=
  lz.pre fun T => lz.aaj T
