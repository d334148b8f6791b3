import PyProof.Rows.All
import Wide.All
import KE.KNestM
import KE.KUnpack
import KE.KEqDeep
import KE.KPassesOwn
import KE.RegKIsAll
import KE.RegKTryMore
import OpenK.KOwn
import KE.KItem
import KE.KNest
import KE.KLam
import KE.KSortKey
import KE.KSortTup
import KE.KRevIter
import Wide.FinOn
import Lean
import PyProof.EqAt
import PyProof.EqKinds
import PyProof.TupleCall
import KE.KIntText
import PyProof.Draws
import PyProof.EnumMake
import PyProof.Rows.StrNews2
import PyProof.StrBlockI
import PyProof.StrCalls2
import PyProof.StrCalls6
import PyProof.StrLawsIdx
import PyProof.StrLawsTight
import PyProof.StrLawsReplace
import PyProof.StrLawsChain
import PyProof.Rows.StrPartPair
import PyProof.StrOps2
import PyProof.StrLawsJoin
import PyProof.StrCalls
import PySem.Challenge.RW_factorforge_k86_lines_refused
set_option Elab.async false
set_option linter.all false
set_option maxRecDepth 100000
set_option maxHeartbeats 4000000
local macro_rules | `(tactic| omega) => `(tactic| lia)
noncomputable section
theorem k4 {a:α}:a=a\/b:=Or.inl rfl
abbrev Li:=List Int
abbrev Fg:=PySem.W.Frag
abbrev Mg:=PySem.Str->Option PySem.Value
abbrev Lv:=List PySem.Value
abbrev Ls:=List PySem.Str
def aa:=@List.getElem?_eq_getElem
def ac:=@PySem.wpAny_bind
def ae:=@List.length_map
def af:=@PySem.Heap.get?_push_of_some
def ag:=@if_neg
def ai:=@if_pos
def aj:=@List.mem_cons_of_mem
def ao:=@PySem.sizeLine_eq
def ap:=@List.mem_singleton
def aq:=@List.size_toArray
def aw:=@List.mem_cons
def ay:=@PySem.Heap.lt_size
def aA:=@List.mem_cons_self
def aB:=@Nat.le_refl
def aC:=@List.getElem?_eq_some_iff
def aD:=@Option.some.inj
def aE:=@List.getElem?_map
def aG:=@Nat.le_trans
def aH:=@Int.emod_lt_of_pos
def aI:=@List.mem_append_right
def aJ:=@Bool.false_ne_true
def aK:=@decide_eq_false
def aM:=@List.length_append
def aN:=@Nat.lt_of_lt_of_le
def aO:=@PySem.wpAny_pure
def aP:=@PySem.Heap.get?_push_size
def aQ:=@decide_eq_true
def aR:=@List.all_eq_true
def aS:=@Int.emod_nonneg
def aT:=@PySem.PassesOwn.never
def aU:=@List.length_range
def aV:=@List.append_nil
def aW:=@List.getElem?_append_left
def aX:=@Nat.ne_of_lt
def aY:=@Array.length_toList
def aZ:=@List.mem_append
def a7:=@List.length_replicate
def a8:=@PySem.Heap.get?_update_other
def a9:=@List.filterMap_cons
def bc:=@Int.eq_ofNat_of_zero_le
def bh:=@List.getElem?_append_right
def bi:=@of_decide_eq_true
def bj:=@Bool.and_eq_true
def bn:=@List.mem_of_getElem?
def bq:=@PySem.W.mg_of
def br:=@Ne.symm
def bu:=@List.append_assoc
def bv:=@Nat.le_of_lt
def bw:=@List.mem_range
def bA:=@Nat.zero_le
def bC:=@List.length_set
def bD:=@PySem.wpAny_Call_Name_kw
def bE:=@PySem.wpAny_holding
def bF:=@List.replicate_succ
def bG:=@PySem.W.kia_one
def bH:=@List.nil_append
def bI:=@List.getElem_mem
def bJ:=@List.getElem?_set_ne
def bK:=@PySem.W.looks_findIn
def bM:=@decide_eq_true_iff
def bN:=@PyProof.Rows.callWith_type1
def bO:=@Nat.le_succ
def bP:=@List.length_singleton
def bQ:=@List.getElem?_eq_none
def bR:=@List.length_cons
def bS:=@List.not_mem_nil
def bT:=@List.map_cons
def bU:=@PySem.F.excBase_ValueError
def bV:=@List.mem_append_left
def bW:=@Nat.lt_of_le_of_lt
def bX:=@PySem.W.Looks.ld
def bY:=@List.cons_append
def bZ:=@List.contains_iff_mem
def b7:=@Option.isSome_iff_exists
def b8:=@PySem.Heap.get?_update_self
def ce:=@PyProof.Rows.joinParts_cons
def cf:=@PySem.F.attr_ValueError
def cg:=@Nat.lt_succ_self
def ci:=@Array.getElem?_eq_some_iff
def cj:=@Bool.decide_eq_true
def ck:=@Nat.lt_irrefl
def cn:=@PySem.Calls.Constant_str
def cq:=@PySem.wpAny_call
def cr:=@PySem.W.callWith_K
def cu:=@List.getElem_map
def cw:=@Int.natAbs_of_nonneg
def cA:=@List.getElem?_replicate
def cC:=@List.dropLast_concat_getLast
def cD:=@PySem.wpAny_truthy_bool
def cE:=@Classical.not_not
def cF:=@PySem.mem_of_lookup
def cG:=@List.getElem?_range
def cH:=@Nat.ne_of_gt
def cI:=@PySem.Obj.data_mapFields
def cJ:=@Nat.le_of_ble_eq_true
def cL:=@Int.natCast_nonneg
def cM:=@Bool.and_eq_true_iff
def cO:=@PySem.codeAny_call_builtin
def cQ:=@List.mem_iff_getElem
def cT:=@Nat.pow_lt_pow_right
def cU:=@PySem.wpAny_mono
def cV:=@PySem.wpAny_passesOwn
def cX:=@List.nodup_cons
def cY:=@List.map_append
def cZ:=@PySem.F.plainAttrs_list
def c9:=@List.length_take
def de:=@PyProof.Rows.subscriptTail_builtinR
def dh:=@PySem.F.plainAttrs_str
def di:=@List.mem_filterMap
def dj:=@List.getElem_range
def dk:=@List.zip_cons_cons
def dm:=@Eq.trans
def dw:=@PySem.W.methodCall_KW
def dz:=@PySem.Obj.isFreed_of_fields
def dA:=@List.length_zip
def dB:=@List.mem_map
def dC:=@beq_iff_eq
def dD:=@List.flatten_cons
def dE:=@PySem.Calls.Name_function_global
def dF:=@Nat.length_toDigits_le_iff
def dG:=@PySem.wpAny_loadName_local
def dH:=@List.getElem?_eq_none_iff
def dI:=@List.mapIdx_eq_zipIdx_map
def dJ:=@List.pairwise_iff_getElem
def dM:=@Option.bind_some
def dN:=@List.reverse_append
def dO:=@PySem.W.looks_mroIn
def dP:=@Array.toList_append
def dQ:=@PySem.Heap.SameBut.update
def dR:=@beq_eq_false_iff_ne
def dS:=@PySem.codeAny_mono
def dU:=@PyProof.Rows.callWith_kw
def dX:=@Int.mul_nonpos_of_nonneg_of_nonpos
def dY:=@Option.map_some
def dZ:=@PySem.wpAny_execs_nil
def d5:=@Bool.eq_iff_iff
def d6:=@List.length_eq_zero_iff
def d7:=@PySem.wpAny_attempt
def d8:=@Int.lt_of_lt_of_le
def d9:=@List.mem_replicate
def ee:=@PySem.Calls.callWith_builtin
def eh:=@List.take_of_length_le
def ei:=@List.append_eq_nil_iff
def eE:=@PySem.StrLaws.subAt_eq
def eG:=@PySem.plainObj_wpAny_Assign_Attribute
def eH:=@List.getElem?_set
def eI:=@PySem.PassesOwn.leaving
def eJ:=@List.replicate_append_replicate
def eK:=@or_false
def eO:=@List.getElem?_toArray
def eP:=@PySem.F.entry_bexc_ga
def eQ:=@PyProof.Rows.formatField_int_small
def eU:=@PySem.W.any_some
def eW:=@List.length_drop
def eY:=@List.lookup_cons
def eZ:=@Int.mul_le_mul_of_nonneg_left
def ff:=@List.ext_getElem
def fh:=@PySem.Calls.evalArgs_plain
def fj:=@PySem.wpAny_newFunctionEnv
def fk:=@PySem.F.args_bexc_ga
def fm:=@List.map_eq_cons_iff
def fq:=@PySem.wpAny_standAt
def ft:=@PyProof.Rows.partition_whole
def fw:=@PySem.call_meets
def fx:=@PySem.W.plainGet_of
def fy:=@PySem.W.looks_clsIn
def fA:=@List.foldl_cons
def fE:=@PySem.wpAny_of_eq
def fG:=@PySem.F.slot_str_startswith
def fH:=@PySem.F.type_str_startswith
def fJ:=@Nat.not_lt_zero
def fM:=@PySem.StrLaws.strSub_toList
def fN:=@List.drop_left'
def fO:=@Int.fdiv_eq_ediv_of_nonneg
def fP:=@Array.perm_iff_toList_perm
def fQ:=@List.takeWhile_cons_of_neg
def fR:=@List.takeWhile_cons_of_pos
def fS:=@PySem.wpAny_Constant_int
def fU:=@PySem.W.tail_of_in
def fV:=@PySem.W.looks_find
def fW:=@List.filter_append
def fX:=@Int.ofNat_lt
def fY:=@List.mem_of_find?_eq_some
def fZ:=@PySem.wpAny_loadPart
def f6:=@List.drop_eq_getElem_cons
def f7:=@PySem.codeAny_call_builtin_code
def f8:=@Nat.mul_le_mul
def f9:=@List.mem_or_eq_of_mem_set
def ge:=@PySem.wpAny_newObj_type
def gf:=@Int.emod_eq_of_lt
def gg:=@PySem.W.handed_on
def gq:=@decide_eq_true_eq
def gr:=@List.ext_getElem?
def gu:=@List.foldl_append
def gv:=@PySem.intBits_le_64
def gw:=@Nat.log2_lt
def gz:=@Int.emod_eq_zero_of_dvd
def gA:=@List.filter_cons_of_pos
def gB:=@PyProof.Rows.joinParts_nil
def gC:=@PySem.F.slot_list_count
def gD:=@PySem.F.slot_list_index
def gE:=@PyProof.Rows.listUpdate_at
def gF:=@Nat.mul_div_cancel_left
def gG:=@List.getLast_eq_getElem
def gH:=@List.pairwise_singleton
def gJ:=@Nat.toDigits_of_lt_base
def gK:=@PySem.wpAny_eqBool_int
def gL:=@List.take_length
def gM:=@List.getElem_zip
def gN:=@List.getElem?_set_self
def gO:=@PyProof.noPylong_small
def gP:=@PySem.W.cellsFrom_some
def gR:=@List.drop_eq_nil_of_le
def gS:=@List.of_mem_zip
def gT:=@PySem.seqIndex_neg
def gU:=@Array.getElem?_toList
def gV:=@Bool.beq_eq_decide_eq
def gW:=@Int.zero_mul
def gX:=@Int.mul_emod
def gY:=@List.mem_iff_getElem?
def gZ:=@PySem.codeAny_builtin
def g3:=@PySem.W.ke_canLayAll0
def g5:=@PySem.W.Looks.andThen
def g6:=@Int.le_ediv_of_mul_le
def g7:=@List.take_left'
def g8:=@Int.dvd_zero
def g9:=@List.singleton_append
def hJ:=@PySem.wpAny_Name
def hO:=@List.length_dropLast
def hU:=@List.getElem?_zipIdx
def hV:=@List.getElem_toArray
def hW:=@PySem.W.kla_callFunE
def hZ:=@PySem.W.kla_codeExpr
def ia:=@Bool.or_eq_false_iff
def ie:=@Array.toList_extract
def ig:=@Nat.mul_le_mul_right
def ii:=@PySem.Heap.size_push
def ij:=@PySem.wpAny_setField
def ik:=@Int.mul_nonneg
def im:=@List.map_congr_left
def io:=@PySem.W.codeHd_of_K
def iq:=@PySem.W.findObj_own
def ir:=@PySem.W.callWith_K0
def iu:=@PySem.seqIndex_of
def iw:=@PySem.wpAny_field
def iz:=@Int.toNat_of_nonneg
def iA:=@List.replicate_zero
def iB:=@Int.mul_assoc
def iC:=@PySem.typeIs_str
def iD:=@List.map_nil
def iE:=@Nat.le_of_eq
def iF:=@Nat.succ_mul
def iG:=@List.map_set
def iH:=@Int.mul_zero
def iI:=@Int.emod_def
def iJ:=@Int.mul_comm
def iK:=@List.map_map
def iL:=@Int.mul_one
def iM:=@if_true
def iN:=@Int.mul_sub
def iO:=@Int.one_dvd
def iP:=@if_false
local macro_rules | `(tactic| walk_at "v") => `(tactic| first|exact Or.inl rfl|exact Or.inr k4|exact Or.inr (Or.inr rfl))
local macro_rules | `(tactic| walk_at "w") => `(tactic| first|exact .inl rfl|exact .inr rfl|assumption)
def tT:True:=True.intro
def gQ {A:Type _}{l:List A}{i:Nat}{a:A}:l.getD i a=l[i]?.getD a:=List.getD_eq_getElem?_getD ..
def lP {A:Type _}{l:List A}(h:l≠[]):0<l.length:=List.length_pos_iff.mpr h
section
open PySem PySem.W PyProof.Rows
abbrev k8:=PySem.Challenge.rw_factorforge_k86_lines_refused.row.toRowW
namespace jg
def top (i:Nat):Stmt:=PySem.Challenge.pw_factorforge_k86_lines_refused.main.body.getD i (.Pass ⟨0,0,0,0⟩)
end jg
def jg.view:PySem.Program:={ k8.prog with main:={ k8.prog.main with body:=[jg.top 0,jg.top 2,jg.top 3,jg.top 4,jg.top 5,jg.top 6,jg.top 7,jg.top 8,jg.top 9,jg.top 10,jg.top 11,jg.top 13,jg.top 14,jg.top 15,jg.top 16,jg.top 17,jg.top 18,jg.top 19,jg.top 20,jg.top 21,jg.top 22,jg.top 24,jg.top 25,jg.top 26,jg.top 27,jg.top 28,jg.top 29,jg.top 30,jg.top 31,jg.top 32,jg.top 33,jg.top 35,jg.top 36,jg.top 37,jg.top 38,jg.top 39,jg.top 41,jg.top 42,jg.top 43,jg.top 44,jg.top 46,jg.top 47,jg.top 49,jg.top 50,jg.top 51,jg.top 52,jg.top 53,jg.top 54,jg.top 55,jg.top 56,jg.top 57,jg.top 58,jg.top 60,jg.top 61,jg.top 62,jg.top 63,jg.top 64,jg.top 65,jg.top 66,jg.top 68,jg.top 69,jg.top 70,jg.top 71,jg.top 73,jg.top 74,jg.top 75,jg.top 76,jg.top 77,jg.top 79,jg.top 80,jg.top 82,jg.top 83,jg.top 84,jg.top 85,jg.top 87,jg.top 89,jg.top 90,jg.top 91,jg.top 92,jg.top 93,jg.top 95,jg.top 97,jg.top 98,jg.top 99,jg.top 100,jg.top 101,jg.top 103,jg.top 104,jg.top 105,jg.top 106,jg.top 107,jg.top 108,jg.top 109,jg.top 110,jg.top 112,jg.top 113,jg.top 114,jg.top 115,jg.top 116,jg.top 117,jg.top 118,jg.top 119,jg.top 120,jg.top 121,jg.top 123,jg.top 124,jg.top 125,jg.top 126,jg.top 127,jg.top 128,jg.top 129,jg.top 130,jg.top 131,jg.top 132,jg.top 133,jg.top 134] } }
def X.YB (c:String->Option Builtin)(p:Program)(w:World)(a:Nat)(b:Option Value):Nat->SharedT->Thread->Option SharedT
 |0,_,_=>none
 |n+1,s,t=>match through t with
  |true=>some s
  |false=>match stepOk a b t with
   |false=>none
   |true=>match stepT (denote c) p w s t with
    |some (s',t')=>X.YB c p w a b n s' t'
    |none=>none
def X.Ro {d:String->Option Builtin}{p:Program}{w:World}{a:Nat}{b:Option Value}:∀{n:Nat} {s s':SharedT} {t:Thread},X.YB d p w a b n s t=some s' -> topRun d p w a b n s.abs t=some s'.abs
 |0,_,_,_,h=>by cases h
 |n+1,s,s',t,h=>by
  unfold X.YB at h;unfold topRun;cases f:through t with
  |true=>rw[f]at h;cases h;rfl
  |false=>
   rw[f]at h;cases e:stepOk a b t with
   |false=>rw[e]at h;cases h
   |true=>
    rw[e]at h;cases c:stepT (denote d) p w s t with
    |none=>rw[c]at h;cases h
    |some r=>obtain⟨g,i⟩:=r;rw[c]at h;rw[stepT_spec c];exact X.Ro h
def X.toT (s:Shared):SharedT:=⟨(s.heap.objs.toList.foldl (λ(x:BT×Nat) o=>(x.1.ins x.2 o,x.2+1)) (BT.nil,0)).1,s.heap.objs.size,s.heap.life,s.gens,s.drawn,s.toks,s.os⟩
def X.RT (t:String->Option Builtin)(p:Program)(w:World)(N:Nat):Option (Shared×SharedT):=(fencedOpening t p w N).bind λs=>(X.YB t p w s.heap.objs.size (s.heap.nsMap mainGlobals "__annotations__") N (X.toT s) (topStub p)).map λa=>(s,a)
def X.chk (p:Program)(s s1:Shared):Bool:=(s.heap.isNs mainGlobals && s.gens.size == 0) && (staticsOk (importedModules p.main.body) s.heap s1.heap && namesBound p s1.heap && gensDone s1 && laidKept s.heap s1.heap)
def X.Ek {p:Program}{w:World}{N:Nat}{A:Type}{f:Shared->A}{a:A}(h0:(fencedOpening treeTable p w N).map (λs=>(X.toT s).tree.list s.heap.objs.size)=(fencedOpening treeTable p w N).map (λs=>s.heap.objs.toList))
  (h:(X.RT treeTable p w N).map (λx=>(X.chk p x.1 x.2.abs,f x.2.abs))=some (true,a)):(openEnds treeTable p w N).map f=some a:=by
 unfold X.RT at h;unfold openEnds;cases e:fencedOpening treeTable p w N with
 |none=>rw[e]at h;cases h
 |some b=>
  rw[e]at h0 h;have v:(X.toT b).tree.list b.heap.objs.size=b.heap.objs.toList:=aD h0;have u:(X.toT b).abs=b:=by obtain⟨⟨o,l⟩,j,g,t,m⟩:=b;show(⟨⟨((X.toT ⟨⟨o,l⟩,j,g,t,m⟩).tree.list o.size).toArray,l⟩,j,g,t,m⟩:Shared)=_;rw[v]
  have h:((X.YB treeTable p w b.heap.objs.size (b.heap.nsMap mainGlobals "__annotations__") N (X.toT b) (topStub p)).map λi=>(b,i)).map (λx=>(X.chk p x.1 x.2.abs,f x.2.abs))=some (true,a):=h;cases k:X.YB treeTable p w b.heap.objs.size (b.heap.nsMap mainGlobals "__annotations__") N (X.toT b) (topStub p) with
  |none=>rw[k]at h;cases h
  |some i=>
   rw[k]at h;have h:=aD h;have c:=congrArg Prod.fst h;have d:=congrArg Prod.snd h;have c:X.chk p b i.abs=true:=c;have d:f i.abs=a:=d;have r:=X.Ro k;rw[u]at r;obtain⟨n,q⟩:=cM.mp c;show(topFrom treeTable p w N b).map f=some a;unfold topFrom;rw[n,r];show(match staticsOk (importedModules p.main.body) b.heap i.abs.heap && namesBound p i.abs.heap && gensDone i.abs && laidKept b.heap i.abs.heap with|true=>some i.abs|false=>none).map f=some a
   rw[q];exact congrArg some d
def X.both {S A B:Type}{o:Option S}{c:S->Bool}{f:S->A}{y:S->B}{g:A}{a:B}(j:o.map (λx=>(c x,f x))=some (true,g))(h:o.map y=some a):o.map (λx=>(c x,(f x,y x)))=some (true,(g,a)):=by
 cases o with
 |none=>cases h
 |some s=>have e:=aD j;have b:=aD h;have d:c s=true:=congrArg Prod.fst e;have i:f s=g:=congrArg Prod.snd e;show some (c s,(f s,y s))=_;rw[d,i,b]
def X.trQ (p:Program)(w:World)(a:Nat)(b:Option Value):Nat->SharedT->Thread->Option SharedT
 |0,_,_=>none
 |n+1,s,t=>match through t with
  |true=>some s
  |false=>match PySem.W.Fast.tw6613529449190102663 a b t with
   |false=>none
   |true=>match PySem.W.Fast.tw10156331382660048174 (PySem.W.Fast.tw11892475500146522536 PySem.W.Fast.tw14364793385576792824) p w s t with
    |some (s',t')=>X.trQ p w a b n s' t'
    |none=>none
def X.RQ (p:Program)(w:World)(N:Nat):Option (Shared×SharedT):=(fencedOpening treeTable p w N).bind λs=>(X.trQ p w s.heap.objs.size (s.heap.nsMap mainGlobals "__annotations__") N (X.toT s) (topStub p)).map λa=>(s,a)
def X.Sg {p:Program}{w:World}{a:Nat}{b:Option Value}:∀n s t,X.YB treeTable p w a b n s t=X.trQ p w a b n s t
 |0,_,_=>rfl
 |n+1,s,t=>by
  unfold X.YB X.trQ;rw[<- PySem.W.Fast.te6613529449190102663,<- PySem.W.Fast.te10156331382660048174,<- PySem.W.Fast.te11892475500146522536,<- PySem.W.Fast.te14364793385576792824];cases through t with
  |true=>rfl
  |false=>
   cases stepOk a b t with
   |false=>rfl
   |true=>
    cases stepT (denote treeTable) p w s t with
    |none=>rfl
    |some r=>exact X.Sg n r.1 r.2
def X.aby {p:Program}{w:World}{N:Nat}:X.RT treeTable p w N=X.RQ p w N:=by unfold X.RT X.RQ;congr 1;funext s0;rw[X.Sg]
def X.lk (s:SharedT)(a:Addr):Option Obj:=if a<s.n then alive ((s.tree.get a).getD default) else none
def X.abu (s:SharedT)(a:Addr):s.abs.heap.get? a=X.lk s a:=by
 unfold X.lk;by_cases h:a<s.n
 .rw[ai h];show(absHeap s.tree s.n s.life).get? a=_;unfold Heap.get?;rw[absHeap_at,ai h];generalize (s.tree.get a).getD default=o;obtain⟨c,d,b,e⟩:=o;cases b<;>rfl
 .rw[ag h];exact abs_get_none h
def X.lks (s:SharedT)(as:List Addr):as.map s.abs.heap.get?=as.map (X.lk s):=im λa _=>X.abu s a
def X.pr {S A B:Type}{o:Option S}{f:S->A}{g:S->B}{a:A}{b:B}(h:o.map f=some a)(c:o.map g=some b):o.map (λx=>(f x,g x))=some (a,b):=by
 cases o with
 |none=>cases h
 |some s=>exact congrArg some (Prod.ext (aD h) (aD c))
def X.an {S:Type}{o:Option S}{f g:S->Bool}(h:o.map f=some true)(a:o.map g=some true):o.map (λx=>f x && g x)=some true:=by
 cases o with
 |none=>cases h
 |some s=>exact congrArg some (cM.mpr ⟨aD h,aD a⟩)
def X.fs {S A B:Type}{o:Option S}{f:S->A}{g:S->B}{a:A}{b:B}(h:o.map (λx=>(f x,g x))=some (a,b)):o.map f=some a:=by
 cases o with
 |none=>cases h
 |some s=>exact congrArg some (congrArg Prod.fst (aD h))
def X.sn {S A B:Type}{o:Option S}{f:S->A}{g:S->B}{a:A}{b:B}(h:o.map (λx=>(f x,g x))=some (a,b)):o.map g=some b:=by
 cases o with
 |none=>cases h
 |some s=>exact congrArg some (congrArg Prod.snd (aD h))
abbrev jg.Rj (s:Shared):=openSeen jg.view [] (importedModules k8.prog.main.body) (λs=>xlAt jg.view [] s && recOk (RowW.records k8) s) true s
theorem jg.h0:∀w,(fencedOpening treeTable k8.prog w 20000).map (λs=>(X.toT s).tree.list s.heap.objs.size)=(fencedOpening treeTable k8.prog w 20000).map (λs=>s.heap.objs.toList):=by intro w;kernel_rfl
def jg.aaI:∀w,(X.RQ k8.prog w 20000).map (λx=>(X.chk k8.prog x.1 x.2.abs,seen ((recsOf jg.view).map (·.name)) (ownsOf jg.view) [] { x.2.abs with gens:=#[] }))=some ((true,expectedOf jg.view)):=by intro w;kernel_rfl
def jg.Mv:∀w,(X.RQ k8.prog w 20000).map (λx=>(x.2.abs.heap.bltView,pinSeenD jg.view (drecsOf jg.view) x.2.abs,plainSeenD jg.view [] x.2.abs,clsSeenW jg.view [] x.2.abs))=some ((bltViewBooted,pinGoodD (drecsOf jg.view),plainGoodD jg.view [],clsGoodW jg.view [])):=by intro w;kernel_rfl
def jg.ad3:∀w,(X.RQ k8.prog w 20000).map (λx=>x.2.abs.heap.keysOk (looseW jg.view []) ((recsOf jg.view).map (·.name)) ((litsOf jg.view).map (·.1)) ((clssOf jg.view (looseW jg.view [])).map (·.name)))=some (true):=by intro w;kernel_rfl
def jg.adQ:∀w,(X.RQ k8.prog w 20000).map (λx=>x.2.abs.heap.accountedOkI (importedModules k8.prog.main.body))=some (true):=by intro w;kernel_rfl
def jg.abO:∀w,(X.RQ k8.prog w 20000).map (λx=>(x.2.abs.heap.isNs mainGlobals,x.2.abs.heap.isNs builtinsNs,tablesOk jg.view x.2.abs.heap,(xlAt jg.view [] x.2.abs && recOk (RowW.records k8) x.2.abs),(if true then x.2.abs.gens.size == 0 else !leftWithCleanup x.2.abs.gens)))=some ((true,true,true,true,true)):=by intro w;kernel_rfl
def jg.aa3:∀w,(X.RQ k8.prog w 20000).map (λx=>tabsOk jg.view x.2.abs)=some (true):=by intro w;kernel_rfl
def jg.abR:∀w,(X.RQ k8.prog w 20000).map (λx=>plainSeenE jg.view (looseW jg.view []) x.2.abs)=some (plainGoodE jg.view (looseW jg.view [])):=by intro w;kernel_rfl
def jg.aaG:∀w,(X.RQ k8.prog w 20000).map (λx=>wideSeen jg.view x.2.abs)=some (wideGood jg.view):=by intro w;kernel_rfl
theorem jg.fin {A:Type}{y:Shared->A}{a:A}(w:World)(h:(X.RQ k8.prog w 20000).map (λx=>y x.2.abs)=some a):(openEnds treeTable k8.prog w 20000).map (λs=>(jg.Rj s,y s))=some (openGood jg.view [],a):=by refine X.Ek (f:=λs=>(jg.Rj s,y s)) (jg.h0 w) ?_;rw[X.aby];have b:=X.sn (jg.Mv w);have c:=X.sn b;have t:=X.sn (jg.abO w);have d:=X.sn t;have e:=X.sn d;exact X.both (X.both (jg.aaI w) (X.pr (X.fs (jg.Mv w)) (X.pr (X.an (X.an (X.an (X.an (X.an (X.an (jg.ad3 w) (jg.adQ w)) (X.fs (jg.abO w))) (X.fs t)) (X.fs d)) (X.fs e)) (X.sn e)) (X.pr (jg.aa3 w) (X.pr (X.fs b) (X.pr (jg.abR w) (X.pr (X.fs c) (X.pr (jg.aaG w) (X.sn c))))))))) h
def jg.adK {K:Params->Frag}{as ts:List Addr}{e:∀P,as=(K P).map (·.1)}(w:World)(h:(X.RQ k8.prog w 20000).map (λx=>(as.map (X.lk x.2),ts.map (X.lk x.2)))=some ((K w.params).map (λp=>some p.2),ts.map λ_=>some (tabObj #[]))):(openEnds treeTable k8.prog w 20000).map (λs=>(jg.Rj s,Hook.obs (kmHook K as e ts) s))=some (openGood jg.view [],Hook.val (kmHook K as e ts) w):=by
 refine jg.fin w ?_;have q:(λx:Shared×SharedT=>(as.map x.2.abs.heap.get?,ts.map x.2.abs.heap.get?))=λx=>(as.map (X.lk x.2),ts.map (X.lk x.2)):=funext λx=>by rw[X.lks,X.lks]
 exact(congrArg (λf=>Option.map f _) q).trans h
end
namespace L2
open PySem PySem.Spec PyProof.Rows
abbrev Key:=Sum Int Str
def keyIs:Key->Value->Bool
 | .inl k,v=>Value.isInt k v
 | .inr x,v=>Value.isStrOf x v
def keyH (w:World):Key->Int
 | .inl k=>hashInt k
 | .inr x=>hashStr w x
def keyIs_shape:∀{k:Key} {v:Value},keyIs k v=true->(∃i t,k=Sum.inl i/\v=Value.int i t)\/(∃x t,k=Sum.inr x/\v=Value.str x t)
 | .inl i,v,h=>by obtain⟨t,e⟩:=Value.isInt_shape (k:=i) (v:=v) h;exact .inl ⟨i,t,rfl,e⟩
 | .inr x,v,h=>by obtain⟨t,e⟩:=Value.isStrOf_shape (x:=x) (v:=v) h;exact .inr ⟨x,t,rfl,e⟩
def key_ll (a b:Int):decide ((Sum.inl a:Key)=Sum.inl b)=(a == b):=by
 by_cases e:a=b
 .subst e;simp
 .have h:¬(Sum.inl a:Key)=Sum.inl b:=λq=>e (Sum.inl.inj q);rw[aK h];exact(beq_eq_false_iff_ne.mpr e).symm
def key_rr (a b:Str):decide ((Sum.inr a:Key)=Sum.inr b)=decide (a=b):=by
 by_cases e:a=b
 .subst e;simp
 .have h:¬(Sum.inr a:Key)=Sum.inr b:=λq=>e (Sum.inr.inj q);rw[aK h,aK e]
def key_lr (a:Int)(b:Str):decide ((Sum.inl a:Key)=Sum.inr b)=false:=aK (λq=>nomatch q)
def key_rl (a:Str)(b:Int):decide ((Sum.inr a:Key)=Sum.inl b)=false:=aK (λq=>nomatch q)
def mixKind (prog:Program)(w:World):PySem.KeyKind prog w Key where
 is:=keyIs
 hash:=keyH w
 inj:=λv a b f d=>by
  rcases keyIs_shape f with⟨i,t,rfl,rfl⟩|⟨x,t,rfl,rfl⟩
  .rcases keyIs_shape d with⟨j,u,rfl,e⟩|⟨y,u,rfl,e⟩
   .injection e with e1 _;rw[e1]
   .exact nomatch e
  .rcases keyIs_shape d with⟨j,u,rfl,e⟩|⟨y,u,rfl,e⟩
   .exact nomatch e
   .injection e with e1 _;rw[e1]
 byValue:=λk v h=>by rcases keyIs_shape h with⟨i,t,rfl,rfl⟩|⟨x,t,rfl,rfl⟩<;>rfl
 pyHash:=λc h=>by
  rcases keyIs_shape c with⟨i,t,rfl,rfl⟩|⟨x,t,rfl,rfl⟩
  .exact wpAny_pyHash_int h
  .exact wpAny_pyHash_str h
 eqBool:=λg c h=>by
  rcases keyIs_shape g with⟨i,t,rfl,rfl⟩|⟨x,t,rfl,rfl⟩
  .rcases keyIs_shape c with⟨j,u,rfl,rfl⟩|⟨y,u,rfl,rfl⟩
   .rw[key_ll]at h;exact gK h
   .rw[key_lr]at h;exact SeqAt.EqAt.int_str i t y u _ _ _ _ h
  .rcases keyIs_shape c with⟨j,u,rfl,rfl⟩|⟨y,u,rfl,rfl⟩
   .rw[key_rl]at h;exact SeqAt.EqAt.str_int x t j u _ _ _ _ h
   .rw[key_rr]at h;exact wpAny_eqBool_str h
 «strs»:=λk x t v h=>by
  rcases keyIs_shape h with⟨i,u,rfl,e⟩|⟨y,u,rfl,e⟩
  .exact nomatch e
  .injection e with e1 _;subst e1;cases v<;>rfl
inductive V where
 |non|bl (b:Bool)|int (i:Int)|str (x:Str)|byt (b:Array UInt8)|flt (b:UInt64)|ref (a:Addr)|ty (n:String)
 deriving DecidableEq
def RelV:V->Value->Prop
 | .non,u=>u=Value.none
 | .bl b,u=>u=Value.bool b
 | .int i,u=>∃t,u=Value.int i t
 | .str x,u=>∃t,u=Value.str x t
 | .byt b,u=>∃t,u=Value.bytes b t
 | .flt b,u=>∃t,u=Value.float b t
 | .ref a,u=>u=Value.ref a
 | .ty n,u=>u=Value.type n
abbrev Vals:List V->List Value->Prop:=Paired RelV
def RelO:Option V->Option Value->Prop
 |some v,some u=>RelV v u
 |none,none=>True
 |_,_=>False
def KV {a:Type}:List (a×V)->List (a×Value)->Prop:=Paired λ(p:a×V) (q:a×Value)=>p.1=q.1/\RelV p.2 q.2
def kV:Key->V
 | .inl i=>.int i
 | .inr x=>.str x
structure w6 where
 q:Str
 ps:Array Value
instance:HAppend w6 (Array Value) w6:=⟨λt m=>⟨t.q,t.ps++m⟩⟩
def Bl (o:Obj)(q:Str):Prop:=∃v t,o.data=.fields v/\v[1]?=some (.str q t)
inductive HO where
 |lst (xs:List V)
 |tup (xs:List V)
 |dK (kvs:List (Key×V))|dT (kvs:List (List Key×V))
 |set (S:Int->Bool) (n:Nat)
 |ins (C dx:Addr) (fs:List (Str×V))
 |own (x:Addr)
 |xd (fs:List (Str×V))
 |met (f x:Addr)
 |rng (lo hi:Int)
 |frz (o:Obj) (u:HO)
 |tbl (ps:w6)
 |ext (φ:Heap->Prop)
abbrev Hp:=Addr->Option HO
section
variable (P:Program)(w:World)
def ObjOk (H:Hp)(h:Heap)(a:Addr):HO->Prop
 | .lst xs=>xs.length<=sizeLine/\∃(i:List Value) (n:Nat),Vals xs i/\h.get? a=some { cls:=.type "list",data:=.seq i.toArray n }
 | .tup xs=>xs.length<=sizeLine/\∃i:List Value,Vals xs i/\IsTup h a i.toArray
 | .dK k=>k.length<=sizeLine/\(a == sysModules)=false/\∃y,KV k y/\h.DictOf (mixKind P w) a y
 | .dT k=>k.length<=sizeLine/\(a == sysModules)=false/\∃xs:List (List Key×Addr×Value),
   Paired (λ(p:List Key×V) (q:List Key×Addr×Value)=>p.1=q.1/\H q.2.1=some (.tup (p.1.map kV))/\RelV p.2 q.2.2) k xs /\
   ∃o j z,h.get? a=some o/\o.ExactDict/\o.data=.dict j z/\j.toList=xs.map (entryOfKey (tupleKind (mixKind P w)))/\(xs.map (·.1)).Nodup
 | .set S n=>h.SetOf (intKind P w) a S n
 | .ins C d fs=>H d=some (.own a)/\fs.length<=1000/\d≠a/\h.get? a=some (W.instObj C d) /\
   ∃m,h.Ns1 d m/\(∀f,RelO (fs.lookup f) (m f))/\PySem.Within m (fs.map (·.1))
 | .own _=>∃o,h.get? a=some o
 | .xd fs=>∃m,h.Ns1 a m/\∀f,RelO (fs.lookup f) (m f)
 | .rng B A=>∃t u v,h.get? a=some { cls:=.type "range",data:=.fields #[.int B t,.int A u,.int 1 v] }
 | .frz o u=>h.get? a=some o/\ObjOk H h a u
 | .tbl b=>h.get? a=some { cls:=.none,data:=.fields b.ps }/\TriplesOk b.ps.toList/\∀p g,codeAmong p b.ps.toList=some g->∃c s u,g=Value.ref c/\H c=some (.frz s u)/\Bl s b.q
 | .met f x=>h.get? a=some (W.methodObj (.ref f) (.ref x))
 | .ext e=>e h/\(∃o,h.get? a=some o)/\∀l r:Heap,e l->(∀o,l.get? a=some o->r.get? a=some o)->e r
def HOk (H:Hp)(h:Heap):Prop:=∀a o,H a=some o->ObjOk P w H h a o
end
def Rd (H:Hp)(a:Addr)(u:HO):Prop:=H a=some u\/∃o,H a=some (.frz o u)
structure Un (fs ex:List Addr)(H H':Hp)(h h':Heap):Prop where
 keep:∀b o,h.get? b=some o->H b=none->b∉fs->b∉ex->h'.get? b=some o
 slot:∀b o,h.get? b=some o->H b=none->b∈fs->b∉ex->∃sl,h'.get? b=some { o with slots:=sl }
 free:∀b o,h.get? b=some o->H b=none->b∉ex->H' b=none
 there:∀b o,h.get? b=some o->b∉ex->∃o',h'.get? b=some o'
 tups:∀b xs,H b=some (.tup xs)->H' b=some (.tup xs)
 frzs:∀b o u,H b=some (.frz o u)->H' b=some (.frz o u)
 tbls:∀b ps,H b=some (.tbl ps)->∃more:Array Value,H' b=some (.tbl (ps++more))
def trk (h:Heap)(H:Hp):List Addr:=(List.range h.objs.size).filter λa=>(H a).isSome
def hidT (h:Heap)(H:Hp):Heap:=W.hideAll h (trk h H)
def hidT_size (h:Heap)(H:Hp):(hidT h H).objs.size=h.objs.size:=W.hideAll_size _ _
def hidT_get (e:h.get? b=some o)(n:H b=none):(hidT h H).get? b=some o:=
 W.hideAll_get _ e λa=>by have q:(H b).isSome=true:=(List.mem_filter.mp a).2;rw[n]at q;simp at q
def of_hidT (e:(hidT h H).get? b=some o):h.get? b=some o/\H b=none:=by
 have a:h.get? b=some o:=W.of_hideAll (trk h H) e;refine⟨a,?_⟩;cases q:H b with
 |none=>rfl
 |some x=>have c:b∈trk h H:=List.mem_filter.mpr ⟨bw.mpr (ay a),by simp[q]⟩;have z:(hidT h H).get? b=none:=W.hideAll_none (trk h H) c;rw[z]at e;cases e
def acq (mg:Mg)(h:Heap):Prop:=∃b ob,mg "__builtins__"=some (.ref b)/\b≠builtinsNs/\h.get? b=some ob/\ob.cls=.type "module"/\ob.dict=some builtinsNs/\ob.data=.plain
structure Mod (K:Fg)(mg:Mg)(base:Heap):Prop where
 kin:K.In base
 glob:base.Ns mainGlobals mg
 blt:∃mb,base.Ns builtinsNs mb/\∀x:Str,x≠"__name__"->mb x=bootBuiltins x
 nolimit:base.NoLimit
 bm:acq mg base
def frs (l:List Env):List Addr:=l.filterMap (·.frame)
def We:Stmt->Bool
 | .Return (some (.Call _ _ [⟨_,.Lambda _ _ _ _,_⟩] _)) _=>true
 | .Return (some (.Tuple [_,.Call _ _ [⟨_,.Lambda _ _ _ _,_⟩] _] _ _)) _=>true
 |_=>false
def Xf:FuncBody->Bool
 | .stmts s=>s.any We
 |_=>false
def mL (K:Fg):List (Addr×Addr×Str):=K.filterMap λx=>match x.2.data with
 | .func f=>if Xf f.body=true then(match f.code with
   | .ref c=>(match K.lookup c with
    |some ⟨_,_,.fields vs,_⟩=>(match (vs[11]?:Option Value) with
     |some (.ref P)=>if W.codeHdIn K c P=true then some (c,P,f.qualname++".<locals>."++"<lambda>") else none
     |_=>none)
    |_=>none)
   |_=>none) else none
 |_=>none
structure Frf (K:Fg)(H:Hp)(fs:List Addr):Prop where
 f:∀b∈fs,H b=none
 t:∀x∈mL K,∃ps,H x.2.1=some (.tbl ⟨x.2.2,ps⟩)
abbrev XK:=Value->Option Addr->Hp->Prop
abbrev VK:=V->Hp->Prop
def SqL (K:Fg)(H:Hp)(a:Addr)(xs:List V):Prop:=
 Rd H a (.lst xs) \/
  ∃(o:Obj) (i:Array Value) (n:Nat),K.lookup a=some o/\o.cls=.type "list"/\o.dict=none/\o.data=.seq i n/\i.size<=sizeLine/\Vals xs i.toList
structure Cls (K:Fg)(C:Addr):Prop where
 pg:W.plainGet K C Str.empty=true
 hd:W.hasDictIn K C=true
 po:W.plainOver K C=true
 sa:W.findIn K (.ref C) "__setattr__"=some (some (.builtin "object.__setattr__"))
def NoAttr (K:Fg)(C:Addr)(f:Str):Prop:=W.findIn K (.ref C) f=some none
structure Meth (K:Fg)(C:Addr)(m:Str)(f:Addr):Prop where
 at_:W.findIn K (.ref C) m=some (some (.ref f))
 fn:W.isFn K (.ref f)=true
 kp:W.keepIn K (.ref f)=true
structure Room (k:Nat)(A:Around):Prop where
 hd:A.handled=none
 dp:A.depth+3*k+5<recursionLimit
 un:A.units+16*k+200<cLine
abbrev Sp:=List V->Hp->VK->XK->Prop
abbrev CXT:=List Env->Hp->Shared->XK->Value->Shared->Prop
structure Env0 (P:Program)(w:World)(K:Fg)(mg:Mg)(base:Heap)(A:Around)(outer:List Env)(s:Shared)(H:Hp):Prop where
 frames:A.frames=some outer
 mod:Mod K mg base
 bs:∀b o,base.get? b=some o->s.heap.get? b=some o/\H b=none
 bsz:base.objs.size<=s.heap.objs.size
 funs:s.heap.FunFrames base outer
 frf:Frf K H (frs outer)
 hok:HOk P w H s.heap
 bare:AllBare s.gens
def CE (outer:List Env)(P:Program)(w:World)(H:Hp)(s:Shared)(Q:VK)(u:Value)(s':Shared):Prop:=
 ∃v h,s'.os=s.os/\AllBare s'.gens/\Un (frs outer) [] H h s.heap s'.heap/\HOk P w h s'.heap/\RelV v u/\Q v h
def CR (CX:CXT)(outer:List Env)(P:Program)(w:World)(H:Hp)(s:Shared)(Q:VK)(E:XK)(r:Result)(s':Shared):Prop:=
 match r with
 | .ok (.ret u)=>CE outer P w H s Q u s'
 | .ok _=>False
 | .error e=>CX outer H s E e s'
structure FnOk (P:Program)(w:World)(K:Fg)(mg:Mg)(base:Heap)(CX:CXT)(k:Nat)(f:Addr)(fd:FuncData)(ps:List Str)(sp:Sp):Prop where
 len:∀vs H Q E,sp vs H Q E->vs.length=ps.length
 run:∀(A:Around) (outer:List Env) (s:Shared) (H:Hp) (args:Args) (us:List Value) (vs:List V) (Q:VK) (E:XK),Room k A->Env0 P w K mg base A outer s H->BindsTo s fd args (ps.zip us)->Vals vs us->sp vs H Q E ->
  codeAny (model P w) A (.call (.ref f) args) (CR CX outer P w H s Q E) s
def Binds (K:Fg)(f:FuncData)(p:List Str)(ds:List Value):Prop:=
 ∀(s:Shared) (u:List Value),K.In s.heap->(u++ds).length=p.length->BindsTo s f ⟨u,[]⟩ (p.zip (u++ds))
def Binds.all {K:Fg}{f:FuncData}{p:Ls}(h:∀us:List Value,us.length=p.length->bindArgs f ⟨us,[]⟩=pure (p.zip us)):Binds K f p []:=λs us _ a=>by rw[aV]at a ⊢;exact .of_eq (h us a)
section
variable {X:Cx}{CX:CXT}{k:Nat}{f C:Addr}{F:FuncData}{P:List Str}{sp:Sp}{d:List V}{ds:List Value}{E:XK}{x m:Str}{p pos a:Pos}{e o:Expr}{b:List Expr}{T:TE}{t:TA}
structure Mk (K:Fg)(C f:Addr):Prop where
 makes:W.makesIn K C=true
 init:W.findIn K (.ref C) "__init__"=some (some (.ref f))
 fn:W.isFn K (.ref f)=true
 kp:W.keepIn K (.ref C)=true
end
end L2
namespace Att
open PySem PySem.W PySem.Calls PyProof.Rows
def ints_of_wellAll:∀(ns:Li) (vs:Lv),WellAll P h vs (ns.map WData.int)->IntsAre vs ns:=by
 intro ns
 induction ns with
 |nil=>intro vs w;rw[iD]at w;cases w;exact .nil
 |cons n ns i=>
  intro vs w;rw[bT]at w;cases w with
  |cons a b=>cases a;exact .cons _ _ (i _ b)
def script_of {l:OpenLaw}{n:Nat}(s:l.most=some n){P:Params}{args:List WData}
  (b:l.row.toRowW.claim.pre args=true) (j:WellAll P h vals args) :
  ∃a vs ns,vals=[Value.ref a]/\args=[WData.list (ns.map WData.int)]/\h.get? a=some { cls:=.type "list",data:=.seq vs.toArray }/\IntsAre vs ns/\ns.length<=n:=by
 have i:WShape.hasAll [] args [.list .int]=true:=(pre_splitW b).1;have k:l.pre.holds [] { args:=args }=true:=(pre_splitW b).2;obtain⟨d,r,rfl,m,o⟩:=hasAllW_cons i;obtain rfl:=hasAllW_nil o;obtain⟨xs,rfl,p⟩:=hasW_list m;obtain⟨ns,rfl⟩:=items_int p;have e:ns.length<=n:=by
  unfold OpenLaw.pre at k;have f:(WTm.not (.lt (.lit (.int (n:Int))) (.len (.arg 0)))).holds [] { args:=[.list (ns.map .int)] }=true:=by have f:=(holds_andW k).1;rw[s]at f;exact f
  have g:=condW_of f (w_not (w_lt w_lit (w_len_list (w_arg rfl))));rw[ae]at g;refine Nat.le_of_not_lt λq=>?_;have u:(n:Int)<((ns.length:Nat):Int):=by lia
  first
   |(rw[aQ u]at g;exact absurd g (by decide))
   |(simp at g;lia)
 cases j with
 |cons w v=>
  cases v;cases w with
  |list t c=>exact⟨_,_,ns,rfl,rfl,t,ints_of_wellAll ns _ c,e⟩
def post_true (l:OpenLaw)(args:List WData):l.row.toRowW.claim.post args (.bool true) args=true:=
 postW_of (r:=l.row.toRowW) (X:=(true == true))
  (show WShape.has [] (.bool true) .bool=true by first|rfl|decide|simp[WShape.has,WShape.arms,WShape.armsAll])
  (show(WTm.eq .res (.lit (.bool true))).value [] { args:=args,res:=some (.bool true),after:=args }=some (.bool (true == true)) from w_eq_bool (w_res rfl) w_lit) rfl
end Att
namespace L2
open PySem PySem.Spec PyProof.Rows
def vals_ints:∀{vs:Lv} {ns:Li},IntsAre vs ns->Vals (ns.map V.int) vs
 |_,_,.nil=>.nil
 |_,_,.cons n t h=>.cons ⟨t,rfl⟩ (vals_ints h)
def qb (K:Fg):Hp:=λb=>match (mL K).find? λx=>x.2.1 == b with
 |some x=>some (.tbl ⟨x.2.2,#[]⟩)
 |none=>none
def qG {K:Fg}{b:Addr}{o:HO}(h:qb K b=some o):∃x∈mL K,x.2.1=b/\o=.tbl ⟨x.2.2,#[]⟩:=by
 unfold qb at h;split at h
 .rename_i x e;exact⟨x,fY e,by simpa using List.find?_some e,(aD h).symm⟩
 .cases h
structure Hh (K:Fg)(h:Heap):Prop where
 e:∀x∈mL K,h.get? x.2.1=some (W.tabObj #[])
 n:∀x∈mL K,K.lookup x.2.1=none
 u:∀x∈mL K,∀y∈mL K,x.2.1=y.2.1->x.2.2=y.2.2
def Dz {K:Fg}{x:Addr×Addr×Str}(h:x∈mL K):W.codeHdIn K x.1 x.2.1=true:=by
 obtain⟨y,_,e⟩:=di.mp h
 repeat' split at e
 all_goals first
  |(cases e;assumption)
  |cases e
def I9 {K:Fg}{h:Heap}(L:Hh K h){x:Addr×Addr×Str}(a:x∈mL K):qb K x.2.1=some (.tbl ⟨x.2.2,#[]⟩):=by
 unfold qb;split
 .rename_i y e;have b:y.2.1=x.2.1:=by simpa using List.find?_some e
  rw[L.u y (fY e) x a b]
 .rename_i e;have:=List.find?_eq_none.mp e x a;simp at this
def law_call {P:Program}{w:World}{K:Fg}{mg mb:Mg}{CX:CXT}{k:Nat}{fa a:Addr}{fd:FuncData}{x:Str}{sp:Sp}{c:Shared}{vs:Lv}{ns:Li}
  (Z:K.In c.heap) (S:c.heap.Ns mainGlobals mg) (y:c.heap.Ns builtinsNs mb) (hbb:∀x:Str,x≠"__name__"->mb x=bootBuiltins x) (R:c.heap.NoLimit) (hg:c.gens = #[])
  (J:c.heap.get? a=some { cls:=.type "list",data:=.seq vs.toArray }) (hi:IntsAre vs ns) (hl:ns.length<=sizeLine) (hr:Room k callerA) (l:Hh K c.heap) (BM:acq mg c.heap)
  (F:∀base:Heap,K.In base->base.Ns mainGlobals mg->FnOk P w K mg base CX k fa fd [x] sp) (G:∀(s:Shared) (u:Value),BindsTo s fd ⟨[u],[]⟩ [(x,u)])
  (hsp:∀H:Hp,SqL K H a (ns.map V.int)->sp [.ref a] H (λv _=>v=.bl true) λ_ _ _=>False)
  (hCX:∀H e s',CX [] H c (λ_ _ _=>False) e s' -> False) :
  codeAny (model P w) callerA (.call (.ref fa) ⟨[.ref a],[]⟩) (λr s'=>r=.ok (.ret (.bool true))/\OldK c.heap s'.heap/\s'.os=c.os/\AllBare s'.gens) c:=by
 have rv:=vals_ints hi;have U:=hi.length;have Y:∀{b:Addr} {o:HO},qb K b=some o->b≠a:=λ{b o} h z=>by obtain⟨x,i,e,_⟩:=qG h;have:=l.e x i;rw[e,z,J]at this;cases this
 have B:∀H:Hp,(∀b,b≠a->H b=qb K b)->SqL K H a (ns.map V.int)->HOk P w H c.heap->(H a≠none->K.lookup a=none/\∃o xs,H a=some (.frz o (.lst xs))) ->
   codeAny (model P w) callerA (.call (.ref fa) ⟨[.ref a],[]⟩) (λr s'=>r=.ok (.ret (.bool true))/\OldK c.heap s'.heap/\s'.os=c.os/\AllBare s'.gens) c:=by
  intro H I hS T hK;have g:∀{b:Addr} {o:Obj},c.heap.get? b=some o->H b=none->(hidT c.heap H).get? b=some o:=λe n=>hidT_get e n;have noA:∀{b:Addr} {o:Obj} {O:Array DictEntry} {N:Nat},c.heap.get? b=some o->o.data=.dict O N->H b=none:=λ{b o O N} e d=>by
   by_cases f:b=a
   .subst f;rw[J]at e;cases e;have d':Data.seq vs.toArray _=Data.dict O N:=d;cases d'
   .rw[I b f];cases q:qb K b with
    |none=>rfl
    |some u=>obtain⟨x,i,j,_⟩:=qG q;have:=l.e x i;rw[j,e]at this;cases this;cases d
  have noB:∀{b:Addr} {o:Obj},c.heap.get? b=some o->o.cls=.type "module"->H b=none:=λ{b o} e d=>by
   by_cases f:b=a
   .subst f;rw[J]at e;cases e;injection d with z;exact absurd z (by decide)
   .rw[I b f];cases q:qb K b with
    |none=>rfl
    |some u=>obtain⟨x,i,j,_⟩:=qG q;have:=l.e x i;rw[j,e]at this;cases this;cases d
  have A:∀{b:Addr} {m:Mg},c.heap.Ns b m->(hidT c.heap H).Ns b m:=λ{b m} ⟨o,O,N,e,d,r⟩=>⟨o,O,N,g e (noA e d),d,r⟩;have Q:K.In (hidT c.heap H):=λb o e=>g (Z b o e) (by
   by_cases f:b=a
   .subst f;cases q:H b with
    |none=>rfl
    |some u=>rw[(hK (by rw[q];simp)).1]at e;cases e
   .rw[I b f];cases q:qb K b with
    |none=>rfl
    |some u=>
     obtain⟨x,i,j,_⟩:=qG q;have:=l.n x i;rw[j,e]at this;cases this)
  have hM:Mod K mg (hidT c.heap H):=⟨Q,A S,⟨mb,A y,hbb⟩,let ⟨mc,h1,h2⟩:=R;⟨mc,A h1,h2⟩,let ⟨bm,ob,b1,b2,b3,b4,b5⟩:=BM;⟨bm,ob,b1,b2,g b3 (noB b3 b4),b4,b5⟩⟩
  have e0:Env0 P w K mg (hidT c.heap H) callerA [] c H:=⟨rfl,hM,λb o e=>of_hidT e,iE (hidT_size _ _),trivial,⟨λb y=>absurd (show b∈([]:List Addr) from y) (by simp),λx i=>⟨#[],by rw[I _ (Y (I9 l i))];exact I9 l i⟩⟩,T,.of_eq hg⟩;refine dS ((F _ Q (A S)).run callerA [] c H ⟨[.ref a],[]⟩ [.ref a] [.ref a] _ _ hr e0 (G c (.ref a)) (.cons rfl .nil) (hsp H hS)) λr s' h=>?_;cases r with
  |error e=>exact(hCX H e s' h).elim
  |ok fl=>
   cases fl with
   |next=>exact False.elim h
   |brk=>exact False.elim h
   |cont=>exact False.elim h
   |ret u=>
    obtain⟨v,H',os,L,un,D,r',q⟩:=h;have q':v=.bl true:=q;subst q';obtain rfl:u=Value.bool true:=r';have all:∀b o,c.heap.get? b=some o->s'.heap.get? b=some o\/∃x∈mL K,x.2.1=b/\o=W.tabObj #[]/\∃more,s'.heap.get? b=some (W.tabObj (#[]++more)):=λb o e=>by
     by_cases f:b=a
     .subst f;cases q:H b with
      |none=>exact .inl (un.keep b o e q (by intro z;exact absurd (show b∈([]:List Addr) from z) (by simp)) (by simp))
      |some u=>obtain⟨_,ob,xs,z⟩:=hK (by rw[q];simp);have z2:=un.frzs b ob _ z;obtain⟨j,_⟩:=T b _ z;obtain⟨E,_⟩:=D b _ z2;rw[e]at j;cases j;exact .inl E
     .cases q:qb K b with
      |none=>exact .inl (un.keep b o e (by rw[I b f];exact q) (by intro z;exact absurd (show b∈([]:List Addr) from z) (by simp)) (by simp))
      |some u=>obtain⟨x,i,j,rfl⟩:=qG q;obtain⟨more,E⟩:=un.tbls b _ (by rw[I b f];exact q);obtain⟨e3,_⟩:=D b _ E;have M:=l.e x i;rw[j,e]at M;exact .inr ⟨x,i,j,aD M,more,e3⟩
    refine⟨rfl,⟨λb o e=>?_,λb o e=>?_⟩,os,L⟩
    .rcases all b o e with z|⟨x,i,j,rfl,more,E⟩
     .exact .inl z
     .have C:W.CodeHd c.heap x.1 x.2.1:=io Z (Dz i);exact .inr (.inl ⟨j ▸ (C.tab (l.e x i)).isCodeTable,rfl,#[],more,rfl,E⟩)
    .rcases all b o e with z|⟨x,i,j,rfl,more,E⟩
     .exact⟨_,z⟩
     .exact⟨_,E⟩
 have t:∀(H:Hp) b u,qb K b=some u->ObjOk P w H c.heap b u:=λH b u q=>by obtain⟨x,i,j,rfl⟩:=qG q;have M:=l.e x i;rw[j]at M;exact⟨M,trivial,λp cv hc=>by cases hc⟩
 cases hk:K.lookup a with
 |some o=>
  have e:=Z a o hk;rw[J]at e;cases e;refine B (qb K) (λ_ _=>rfl) (.inr ⟨_,vs.toArray,_,hk,rfl,rfl,rfl,by rw[aq,U];exact hl,by simpa using rv⟩) (λb u z=>t _ b u z) λz=>?_;cases q:qb K a with
  |none=>exact absurd q z
  |some u=>exact absurd rfl (Y q)
 |none=>
  refine B (λb=>if b=a then some (.frz { cls:=.type "list",data:=.seq vs.toArray } (.lst (ns.map V.int))) else qb K b) (λb y=>ag y) (.inl (.inr ⟨{ cls:=.type "list",data:=.seq vs.toArray },ai rfl⟩)) (λb u z=>?_) λ_=>⟨hk,_,_,ai rfl⟩;by_cases y:b=a
  .have z':=(ai y).symm.trans z;cases z';subst y;exact⟨J,by rw[ae];exact hl,vs,_,rv,J⟩
  .exact t _ b u ((ag y).symm.trans z)
def inClass (s:Stmt)(j:Nat):Stmt:=match s with
 | .ClassDef _ _ _ b _ _ _ _ _ _ _=>b.getD j (.Pass ⟨0,0,0,0⟩)
 |_=>.Pass ⟨0,0,0,0⟩
def defArgs (s:Stmt):Arguments:=match s with
 | .FunctionDef _ a _ _ _ _ _ _ _ _=>a
 |_=>{ posonlyargs:=[],args:=[],vararg:=none,kwonlyargs:=[],kw_defaults:=[],kwarg:=none,defaults:=[] }
def defBody (s:Stmt):List Stmt:=match s with
 | .FunctionDef _ _ b _ _ _ _ _ _ _=>b
 |_=>[]
def defScope (s:Stmt):Scope:=match s with
 | .FunctionDef _ _ _ _ _ _ a _ _ _=>a
 |_=>{ kind:=.function,names:=[],isGenerator:=false,isCoroutine:=false }
abbrev CX0:CXT:=λ_ _ _ _ _ _=>False
structure Fun (K:Fg)(x qual:Str)(st:Stmt)(f:Addr)(fd:FuncData):Prop where
 ex:∃(oc:Value) (od:Option Addr) (kV doc pm:Value) (an:Option Addr) (cdv ct:Value) (osl:Array (Option Value)),
  fd=W.fnOf x qual (defArgs st) (defBody st) (defScope st) .none kV doc pm an cdv ct/\K.lookup f=some ⟨oc,od,.func fd,osl⟩/\W.codeIn K cdv qual=true
 kp:W.keepIn K (.ref f)=true
section
variable {P:Program}{w:World}{K:Fg}{mg:Mg}{base:Heap}
def Fun.binds {x q:Str}{st:Stmt}{f:Addr}{b:FuncData}{a:Ls}(F:Fun K x q st f b)
  (h:∀(kV d p:Value) (an:Option Addr) (c ct:Value) (us:List Value),us.length=a.length->bindArgs (W.fnOf x q (defArgs st) (defBody st) (defScope st) .none kV d p an c ct) ⟨us,[]⟩=pure (a.zip us)):Binds K b a []:=by
 obtain⟨g,i,kV,d,p,an,c,ct,o,rfl,lk,e⟩:=F.ex;exact .all (h kV d p an c ct)
def fun_mk {x q:Str}{st:Stmt}{f:Addr}{oc:Value}{od an:Option Addr}{o:Array (Option Value)}{kV d p a ct:Value}(l:K.lookup f=some ⟨oc,od,.func (W.fnOf x q (defArgs st) (defBody st) (defScope st) .none kV d p an a ct),o⟩)
  (c:W.codeIn K a q=true) (k:W.keepIn K (.ref f)=true):Fun K x q st f (W.fnOf x q (defArgs st) (defBody st) (defScope st) .none kV d p an a ct):=⟨⟨oc,od,kV,d,p,an,a,ct,o,rfl,l,c⟩,k⟩
end
structure lH (K:Fg)(mg:Mg)(x:Str)(st:Stmt)(ps:List Str):Prop where
 ex:∃f fd,Fun K x x st f fd/\Binds K fd ps []/\mg x=some (.ref f)
section
variable {P:Program}{w:World}{K:Fg}{mg:Mg}{base:Heap}
def lH.mk' {x:Str}{st:Stmt}{p:Ls}{f:Addr}{a:FuncData}(F:Fun K x x st f a)(b:Binds K a p [])(m:mg x=some (.ref f)):lH K mg x st p:=⟨f,a,F,b,m⟩
end
abbrev bmV:List Value:=[.type "ValueError",.type "Exception",.type "BaseException",.type "object"]
abbrev CP (K:Fg)(C:Addr):Prop:=W.excIn K C bmV "ValueError.__new__"=true
structure MK (K:Fg)(C:Addr)(m:Str)(f:Addr):Prop where
 ga:W.specialIn K (.ref C) "__getattribute__"=some (some (.builtin "type.__getattribute__"))
 rd:W.readsIn K C (.type "type")=true
 fc:W.findCls K (.ref C) (.type "type") m=some (.val (.ref f))
 kp:W.keepIn K (.ref f)=true
structure uz (K:Fg)(C:Addr):Prop where
 hg:W.findIn K (.ref C) "__getattribute__"=some (some (.builtin "BaseException.__getattribute__"))
 hk:W.findIn K (.ref C) "__getattr__"=some none
 hb:W.mroIn K C (.type "BaseException")=some true
 hd:W.hasDictIn K C=true
 ha:W.findIn K (.ref C) "__class__"=some (some (.builtin "object.__class__"))
 hn:W.specialIn K (.builtin "object.__class__") "__get__"=some (some (.builtin "getset_descriptor.__get__"))
 htk:W.takesIn K (.builtin "object.__class__")=some true
 hm:W.mroIn K C (.type "object")=some true
end L2
namespace L2
open PySem PySem.Spec PyProof.Rows PySem.W PySem.Calls
def RC:∀(ns:Li),∀n∈ns,WData.weight (.int n)<=WData.weightAll (ns.map WData.int)
 |[],n,h=>by cases h
 |m::r,n,h=>by
  rw[bT];simp only[WData.weightAll];rcases aw.mp h with rfl|h
  .lia
  .have:=RC r n h;lia
def Xr {ns:Li}(h:WData.layableAll [WData.list (ns.map WData.int)]=true){n:Int}(d:n∈ns):Builtin.Int.intBits n<=2^20:=by have a:WData.layable (WData.list (ns.map WData.int))=true:=aR.mp h _ aA;unfold WData.layable at a;rw[bj]at a;have b:=bi a.2;have c:=RC ns n d;simp only[WData.weight]at b c;exact aG c b
def Rh {l:W.OpenLaw}{n k:Nat}{XP:(Str->Option Value)->Heap->Prop}{YP:World->Heap->Prop}{d:DefRec}{K:Params->Fg}{CX:World->CXT}{sp:World->Sp}
  (hn:l.most=some n) (D:n<=sizeLine) (A:d.params.defaults=[]) (hr:Room k callerA) (hY:∀(w:World) (h:Heap),YP w h->(K w.params).In h)
  (F:∀(w:World) (mg:Mg) (t:Addr) (h:Heap),(K w.params).In h->h.Ns mainGlobals mg->mg d.name=some (.ref t) -> ∃y:FuncData,(∀(s:Shared) (u:Value),BindsTo s y ⟨[u],[]⟩ [(x,u)])/\∀base:Heap,(K w.params).In base->base.Ns mainGlobals mg->FnOk l.prog w (K w.params) mg base (CX w) k t y [x] (sp w))
  (P:∀(w:World) (h:Heap),YP w h->Hh (K w.params) h)
  (E:∀(w:World) (H:Hp) (a:Addr) (ns:List Int),ns.length<=n->(∀m∈ns,Builtin.Int.intBits m<=2^20)->SqL (K w.params) H a (ns.map V.int)->sp w [.ref a] H (λv _=>v=.bl true) λ_ _ _=>False)
  (z:∀(w:World) (H:Hp) (s:Shared) (e:Value) (s':Shared),CX w [] H s (λ_ _ _=>False) e s' -> False):W.WalkO q loose XP YP l.row.toRowW d [] (λf vs=>PySem.call f vs):=by
 intro w N p mg mb G Y t o pm cd R Q kV ho hd hcd M C hg L O as j g hrd I hlo;obtain rfl:Q=.none:=Dflts.none M A;obtain rfl:kV=.none:=Dflts.noKw M;obtain⟨a,vs,ns,rfl,rfl,i,c,b⟩:=Att.script_of hn j I;have J:=hY w _ Y;obtain⟨y,hb,Z⟩:=F w mg t _ J G.T.g C;refine enter_call (dS (law_call J G.T.g G.T.b G.T.builtins G.T.nolimit hg i c (aG b D) hr (P w _ Y) G.T.bmain Z hb (λH hS=>E w H a ns b (λm B=>Xr g B) hS) λH e s'=>z w H p e s') λr s' hq=>?_);obtain⟨rfl,S,T,U⟩:=hq;exact⟨.inl ⟨.bool true,.bool true,[],rfl,λ_=>rfl,.bool true,Att.post_true l _,λ_=>⟨List.Pairwise.nil,λ_ B=>(nomatch B)⟩⟩,S,T,U⟩
def u9 (K:Fg):Sp:=λv H Q _=>∃(a:Addr) (n:List Int),v=[.ref a]/\SqL K H a (n.map V.int)/\n.length<=63/\(∀m∈n,Builtin.Int.intBits m<=2^20)/\∀h,Q (.bl true) h
end L2
namespace L3
open PySem PySem.Spec PyProof.Rows L2
open Classical in
def QB (K:Fg)(cd:Value)(q:Str):Prop:=∃c P,cd=.ref c/\(c,P,q)∈mL K
def Gu (K:Fg)(mg:Mg)(x:Str):Prop:=∃f o b a s,mg x=some (.ref f)/\K.lookup f=some ⟨o,b,.func a,s⟩/\QB K a.code (x++".<locals>."++"<lambda>")
def Kd (K:Fg)(cd:Value)(q:Str):Bool:=match cd with
 | .ref c=>(mL K).any λx=>x.1 == c && x.2.2 == q
 |_=>false
def Px {K:Fg}{cd:Value}{q:Str}(h:Kd K cd q=true):QB K cd q:=by
 unfold Kd at h;split at h
 .rename_i c;obtain⟨x,i,e⟩:=List.any_eq_true.mp h;rw[bj,dC,dC]at e;obtain⟨a,b,d⟩:=x;obtain⟨f,g⟩:=e;subst f g;exact⟨a,b,rfl,i⟩
 .cases h
def aay (K:Fg)(ts:List Addr):Bool:=(mL K).all λx=>(ts.contains x.2.1 && (K.lookup x.2.1).isNone) && (mL K).all λy=>x.2.1 != y.2.1 || x.2.2 == y.2.2
def Uh {K:Fg}{h:Heap}{ts:List Addr}(e:aay K ts=true)(t:∀P∈ts,h.get? P=some (W.tabObj #[])):Hh K h:=by
 have a:=λx b=>cM.mp (aR.mp e x b);refine⟨λx b=>t _ ?_,λx b=>?_,λx b y c z=>?_⟩
 .exact bZ.mp (cM.mp (a x b).1).1
 .exact Option.isNone_iff_eq_none.mp (cM.mp (a x b).1).2
 .have:=aR.mp (a x b).2 y c;rw[Bool.or_eq_true,bne_iff_ne,dC]at this;exact this.resolve_left λn=>n z
end L3
namespace L2
open PySem PySem.Spec PyProof.Rows
abbrev vB (C B:Addr):List Value:=[.ref C,.ref B,.type "ValueError",.type "Exception",.type "BaseException",.type "object"]
structure zF (K:Fg)(C B fI:Addr):Prop where
 ob:∃nm q N bs sn sub ab col dcl k0 k1 k2 k3 k5,K.lookup C=some (excClassObj nm q C N bs (vB C B).tail true sn sub ab col dcl k0 k1 k2 k3 k5 "ValueError.__new__")
 tl:W.tailIn K bmV (vB C B).tail=true
 sa:W.findIn K (.ref C) "__setattr__"=some (some (.builtin "object.__setattr__"))
 ini:W.findIn K (.ref C) "__init__"=some (some (.ref fI))
 fn:W.typeIn K (.ref fI)=some (.type "function")
 kp:W.keepIn K (.ref C)=true
structure ab0 (K:Fg)(B:Addr):Prop where
 ga:W.specialIn K (.ref B) "__getattribute__"=some (some (.builtin "type.__getattribute__"))
 rd:W.readsIn K B (.type "type")=true
 fc:W.findCls K (.ref B) (.type "type") "__init__"=some (.val (.builtin "ValueError.__init__"))
end L2
namespace jg
open PySem L2 L3 PyProof.Rows
abbrev zP:Stmt:=top 15
abbrev Hg:Stmt:=top 16
abbrev p8:Stmt:=top 17
abbrev uR:Stmt:=top 24
abbrev Dc:Stmt:=top 25
abbrev Ob:Stmt:=top 28
abbrev Ib:Stmt:=top 29
abbrev Mw:Stmt:=top 31
abbrev CW:Stmt:=top 32
abbrev G4:Stmt:=top 35
abbrev rC:Stmt:=top 36
abbrev uI:Stmt:=top 37
abbrev Bo:Stmt:=top 41
abbrev HB:Stmt:=top 42
abbrev vL:Stmt:=top 43
abbrev Bq:Stmt:=top 44
abbrev wK:Stmt:=top 46
abbrev rH:Stmt:=top 47
abbrev wO:Stmt:=top 49
abbrev zA:Stmt:=top 50
abbrev DY:Stmt:=top 51
abbrev m6:Stmt:=top 52
abbrev yl:Stmt:=top 53
abbrev pq:Stmt:=top 54
abbrev qN:Stmt:=top 55
abbrev nu:Stmt:=top 56
abbrev uO:Stmt:=top 57
abbrev Im:Stmt:=top 58
abbrev yo:Stmt:=top 60
abbrev oN:Stmt:=top 61
abbrev tK:Stmt:=top 62
abbrev s_split:Stmt:=top 63
abbrev Og:Stmt:=top 66
abbrev Ms:Stmt:=top 90
abbrev Q8:Stmt:=top 98
abbrev uP:Stmt:=top 97
abbrev Om:Stmt:=top 106
abbrev wJ:Stmt:=top 107
abbrev Gw:Stmt:=top 109
abbrev Al:Stmt:=top 110
abbrev rB:Stmt:=top 116
abbrev wQ:Stmt:=top 117
abbrev MN:Stmt:=top 118
abbrev sV:Stmt:=top 119
abbrev pX:Stmt:=top 120
abbrev rE:Stmt:=top 121
abbrev DW:Stmt:=top 123
abbrev NQ:Stmt:=top 124
abbrev vX:Stmt:=top 125
abbrev LC:Stmt:=top 126
abbrev YF:Stmt:=top 127
abbrev Hl:Stmt:=top 128
abbrev Y7:Stmt:=top 129
abbrev su:Stmt:=top 130
abbrev pU:Stmt:=top 131
abbrev CV:Stmt:=top 132
abbrev Dq:Stmt:=top 133
abbrev Do:Stmt:=top 134
abbrev rR:Stmt:=inClass (top 11) 0
abbrev yf:Stmt:=inClass (top 19) 0
abbrev vG:Stmt:=inClass (top 19) 1
abbrev yu:Stmt:=inClass (top 19) 3
abbrev yg:Stmt:=inClass (top 19) 5
abbrev uH:Stmt:=inClass (top 20) 0
abbrev tL:Stmt:=inClass (top 20) 1
abbrev uN:Stmt:=inClass (top 20) 2
abbrev wu:Stmt:=inClass (top 21) 0
abbrev uL:Stmt:=inClass (top 108) 0
abbrev rK:Stmt:=inClass (top 108) 1
abbrev rJ:Stmt:=inClass (top 108) 2
abbrev sS:Stmt:=inClass (top 108) 3
abbrev oE:Stmt:=inClass (top 108) 4
abbrev oM:Stmt:=inClass (top 108) 5
abbrev nj:Stmt:=inClass (top 108) 6
abbrev oG:Stmt:=inClass (top 108) 7
abbrev kJ:Stmt:=inClass (top 108) 8
structure Top (K:Fg)(mg:Mg)(cFE:Addr)(cNO:Addr)(cNP:Addr)(cNW:Addr)(cNN:Addr)(cHP:Addr)(cBL:Addr)(cBP:Addr)(cBA:Addr)(cBT:Addr)(cK:Addr)(cW:Addr)(cR:Addr)(cRd:Addr):Prop where
 Lj:lH K mg "is_prime" zP ["number"]
 T7:lH K mg "turned" Hg ["number","size"]
 vI:lH K mg "refuse_no_prime" p8 ["number"]
 CT:lH K mg "cut_noughts" uR ["numbers"]
 Qh:lH K mg "trimmed" Dc ["kind","f"]
 WD:lH K mg "times" Ob ["kind","f","g"]
 Vh:lH K mg "scaled" Ib ["kind","f","number"]
 Yi:lH K mg "slope" Mw ["kind","f"]
 Pj:lH K mg "divided" CW ["kind","f","g"]
 Q9:lH K mg "common" G4 ["kind","f","g"]
 yQ:lH K mg "with_lead_one" rC ["kind","f"]
 CN:lH K mg "turned_lead" uI ["kind","f"]
 K6:lH K mg "times_by" Bo ["kind","one","other","g"]
 UW:lH K mg "raised" HB ["kind","f","many","g"]
 Fp:lH K mg "power_rows" vL ["kind","f","count","g"]
 Ln:lH K mg "powering" Bq ["kind","g"]
 wU:lH K mg "free_parts" wK ["kind","f"]
 yI:lH K mg "seen_by_slope" rH ["kind","f"]
 Fw:lH K mg "unit_table" wO ["length"]
 Lh:lH K mg "unit_row" zA ["at","length"]
 Qv:lH K mg "echelon" DY ["kind","rows"]
 qP:lH K mg "cleared_beside_units" m6 ["kind","rows","width"]
 IV:lH K mg "plain_row" yl ["kind","row"]
 uW:lH K mg "first_not_nought" pq ["rows","at","done"]
 xX:lH K mg "with_row_moved" qN ["rows","found","done"]
 rN:lH K mg "with_column_cleared" nu ["kind","rows","at","done"]
 Cd:lH K mg "row_without" uO ["kind","row","at","first"]
 Su:lH K mg "kernel" Im ["kind","rows"]
 Hx:lH K mg "order_key" yo ["g"]
 uD:lH K mg "powering_less_one" oN ["kind","g"]
 zU:lH K mg "row_less_one" tK ["kind","row","at"]
 Xm:lH K mg "split" s_split ["kind","g"]
 Mj:lH K mg "parts" Og ["kind","f"]
 Wr:lH K mg "bared" Ms ["f"]
 aaw:lH K mg "told" Q8 ["f"]
 CJ:lH K mg "whole_parts" uP ["f"]
 X5:lH K mg "shown" Om ["f"]
 Ey:lH K mg "term_shown" wJ ["number","power"]
 Z5:lH K mg "read" Gw ["text"]
 JP:lH K mg "add_term" Al ["sums","factor","reader"]
 yO:lH K mg "product_shown" rB ["content","pairs"]
 Gb:lH K mg "is_figures" wQ ["text","most"]
 Mr:lH K mg "asked" MN ["line"]
 z9:lH K mg "parts_answer" sV ["text"]
 qd:lH K mg "parts_by_answer" pX ["text"]
 yK:lH K mg "common_answer" rE ["text"]
 Qe:lH K mg "_law_cell_at" DW ["_law_script","_law_k"]
 Yw:lH K mg "_law_whole" NQ ["_law_found"]
 Eo:lH K mg "_law_loose_term" vX ["_law_number","_law_k","_law_bits"]
 Wc:lH K mg "_law_loose" LC ["_law_row","_law_cell"]
 adc:lH K mg "_law_any" YF ["_law_script"]
 Sv:lH K mg "_law_no_ask" Hl ["_law_text","_law_cell"]
 ab8:lH K mg "_law_bad" Y7 ["_law_text","_law_cell"]
 zL:lH K mg "_law_bad_question" su ["_law_text","_law_cell","_law_more","_law_prime"]
 vY:lH K mg "_law_nought_question" pU ["_law_row","_law_cell","_law_prime"]
 Qk:lH K mg "_law_classes" CV ["_law_kept"]
 Qu:lH K mg "_law_refused" Dq ["_law_line","_law_due","_law_place"]
 Gm:Gu K mg "free_parts"
 Wt:Gu K mg "parts"
 jO:mg "len"=none
 qR:mg "range"=none
 jH:mg "isinstance"=none
 Zz:mg "bool"=none
 yp:mg "int"=none
 yq:mg "str"=none
 Y8:mg "abs"=none
 Ze:mg "min"=none
 adC:mg "list"=none
 ac0:mg "all"=none
 mO:mg "enumerate"=none
 Yz:mg "zip"=none
 zq:mg "sorted"=none
 aa9:mg "reversed"=none
 Gy:mg "ValueError"=none
 yH:∃tk,mg "LARGEST_PRIME"=some (.int 9973 tk)
 Af:∃tk,mg "MOST_FIGURES"=some (.int 100 tk)
 rA:∃tk,mg "HIGHEST_POWER"=some (.int 40 tk)
 oh:∃tk,mg "MOST_PRIME_FIGURES"=some (.int 60 tk)
 nQ:∃tk,mg "FIGURES"=some (.str "0123456789" tk)
 u6:∃tk,mg "PARTS_OF"=some (.str "parts of " tk)
 qX:∃tk,mg "PARTS_BY"=some (.str "parts by " tk)
 yw:∃tk,mg "COMMON_OF"=some (.str "common of " tk)
 DN:W.kitOne K (.type "int") (.type "int")=some true
 Ax:W.kitOne K (.type "int") (.type "bool")=some false
 WM:W.kitOne K (.ref cBA) (.ref cBA)=some true
 W4:W.kitOne K (.ref cBA) (.ref cNP)=some false
 Yr:W.kitOne K (.ref cBA) (.ref cBT)=some false
 W8:W.kitOne K (.ref cBA) (.ref cNN)=some false
 Xu:W.kitOne K (.ref cBA) (.ref cBL)=some false
 WW:W.kitOne K (.ref cBA) (.ref cBP)=some false
 Ym:W.kitOne K (.ref cBA) (.ref cHP)=some false
 XM:W.kitOne K (.ref cBA) (.ref cNO)=some false
 Wm:W.kitOne K (.ref cBA) (.ref cNW)=some false
 Wv:W.kitOne K (.ref cNP) (.ref cBA)=some false
 Xq:W.kitOne K (.ref cNP) (.ref cNP)=some true
 WR:W.kitOne K (.ref cNP) (.ref cBT)=some false
 Wu:W.kitOne K (.ref cNP) (.ref cNN)=some false
 X8:W.kitOne K (.ref cNP) (.ref cBL)=some false
 V4:W.kitOne K (.ref cNP) (.ref cBP)=some false
 W6:W.kitOne K (.ref cNP) (.ref cHP)=some false
 VD:W.kitOne K (.ref cNP) (.ref cNO)=some false
 Wg:W.kitOne K (.ref cNP) (.ref cNW)=some false
 Wf:W.kitOne K (.ref cBT) (.ref cBA)=some false
 Yo:W.kitOne K (.ref cBT) (.ref cNP)=some false
 Ww:W.kitOne K (.ref cBT) (.ref cBT)=some true
 Wl:W.kitOne K (.ref cBT) (.ref cNN)=some false
 Yg:W.kitOne K (.ref cBT) (.ref cBL)=some false
 Xh:W.kitOne K (.ref cBT) (.ref cBP)=some false
 Yh:W.kitOne K (.ref cBT) (.ref cHP)=some false
 Yb:W.kitOne K (.ref cBT) (.ref cNO)=some false
 Xb:W.kitOne K (.ref cBT) (.ref cNW)=some false
 Xn:W.kitOne K (.ref cNN) (.ref cBA)=some false
 W5:W.kitOne K (.ref cNN) (.ref cNP)=some false
 WF:W.kitOne K (.ref cNN) (.ref cBT)=some false
 V0:W.kitOne K (.ref cNN) (.ref cNN)=some true
 XX:W.kitOne K (.ref cNN) (.ref cBL)=some false
 XH:W.kitOne K (.ref cNN) (.ref cBP)=some false
 VR:W.kitOne K (.ref cNN) (.ref cHP)=some false
 VH:W.kitOne K (.ref cNN) (.ref cNO)=some false
 VN:W.kitOne K (.ref cNN) (.ref cNW)=some false
 Xg:W.kitOne K (.ref cBA) (.type "ValueError")=some true
 X3:W.kitOne K (.ref cNP) (.type "ValueError")=some true
 XJ:W.kitOne K (.ref cBT) (.type "ValueError")=some true
 Xx:W.kitOne K (.ref cNN) (.type "ValueError")=some true
 qU:mg "ForgeError"=some (.ref cFE)
 Em:ab0 K cFE
 z6:mg "NoOver"=some (.ref cNO)
 Vf:CP K cNO
 ue:mg "NoPrime"=some (.ref cNP)
 Df:CP K cNP
 O4:uz K cNP
 Dt:mg "NoPower"=some (.ref cNW)
 wj:mg "Nought"=some (.ref cNN)
 Hb:CP K cNN
 RW:uz K cNN
 Bf:mg "HasParts"=some (.ref cHP)
 DR:mg "BadLift"=some (.ref cBL)
 wR:mg "BadProduct"=some (.ref cBP)
 tV:mg "BadAsk"=some (.ref cBA)
 Ak:CP K cBA
 TQ:uz K cBA
 xR:mg "BadText"=some (.ref cBT)
 xm:uz K cBT
 nA:NoAttr K cBT "place"
 S8:mg "Kind"=some (.ref cK)
 HF:mg "Wholes"=some (.ref cW)
 qJ:Cls K cW
 tU:NoAttr K cW "size"
 Nt:mg "Rests"=some (.ref cR)
 o8:Cls K cR
 nU:NoAttr K cR "size"
 HQ:mg "Reader"=some (.ref cRd)
 jt:Cls K cRd
 lN:NoAttr K cRd "text"
 jN:NoAttr K cRd "place"
 aeb:W.exmOne K (.ref cBA) (.ref cFE)=some true
 adF:W.exmOne K (.ref cNP) (.ref cFE)=some true
 adU:W.exmOne K (.ref cBT) (.ref cFE)=some true
 aed:W.exmOne K (.ref cNN) (.ref cFE)=some true
 Bh:∃f fd,Fun K "__init__" "BadText.__init__" rR f fd/\Binds K fd ["self","place"] []/\zF K cBT cFE f
 Jt:∃f fd,Fun K "__init__" "Kind.__init__" yf f fd/\Binds K fd ["self","size"] []/\MK K cK "__init__" f
 GC:∃f fd,Fun K "plain" "Kind.plain" vG f fd/\Binds K fd ["self","number"] []/\Meth K cR "plain" f
 HR:∃f fd,Fun K "less" "Kind.less" yu f fd/\Binds K fd ["self","a","b"] []/\Meth K cW "less" f/\Meth K cR "less" f
 Jk:∃f fd,Fun K "over" "Kind.over" yg f fd/\Binds K fd ["self","a","b"] []/\Meth K cR "over" f
 CQ:∃f fd,Fun K "__init__" "Wholes.__init__" uH f fd/\Binds K fd ["self"] []/\Mk K cW f
 Ah:∃f fd,Fun K "plain" "Wholes.plain" tL f fd/\Binds K fd ["self","number"] []/\Meth K cW "plain" f
 Ce:∃f fd,Fun K "over" "Wholes.over" uN f fd/\Binds K fd ["self","a","b"] []/\Meth K cW "over" f
 Eg:∃f fd,Fun K "__init__" "Rests.__init__" wu f fd/\Binds K fd ["self","prime"] []/\Mk K cR f
 BW:∃f fd,Fun K "__init__" "Reader.__init__" uL f fd/\Binds K fd ["self","text"] []/\Mk K cRd f
 yF:∃f fd,Fun K "at_end" "Reader.at_end" rK f fd/\Binds K fd ["self"] []/\Meth K cRd "at_end" f
 yE:∃f fd,Fun K "stands" "Reader.stands" rJ f fd/\Binds K fd ["self","signs"] []/\Meth K cRd "stands" f
 zX:∃f fd,Fun K "taken" "Reader.taken" sS f fd/\Binds K fd ["self","signs"] []/\Meth K cRd "taken" f
 sO:∃f fd,Fun K "skip_blanks" "Reader.skip_blanks" oE f fd/\Binds K fd ["self"] []/\Meth K cRd "skip_blanks" f
 uw:∃f fd,Fun K "taken_sign" "Reader.taken_sign" oM f fd/\Binds K fd ["self"] []/\Meth K cRd "taken_sign" f
 rO:∃f fd,Fun K "taken_number" "Reader.taken_number" nj f fd/\Binds K fd ["self"] []/\Meth K cRd "taken_number" f
 tM:∃f fd,Fun K "taken_power" "Reader.taken_power" oG f fd/\Binds K fd ["self"] []/\Meth K cRd "taken_power" f
 uq:∃f fd,Fun K "taken_term" "Reader.taken_term" kJ f fd/\Binds K fd ["self"] []/\Meth K cRd "taken_term" f
section
variable {w:World}{K:Fg}{h:Heap}{mg:Mg}{J f C:Addr}{od an:Option Addr}{S:Array (Option Value)}{oc kV D p cd ct:Value}{x q:Str}{st:Stmt}{i:List Str}{u:Addr}{z:Addr}{cNP:Addr}{A:Addr}{cNN:Addr}{y:Addr}{j:Addr}{t:Addr}{cBA:Addr}{cBT:Addr}{F:Addr}{I:Addr}{H:Addr}{E:Addr}
def abE (X:K.In h)(G:h.Ns mainGlobals mg)(a:W.nsIn K mainGlobals x=some (some (.ref f)))(l:K.lookup f=some ⟨oc,od,.func (W.fnOf x x (defArgs st) (defBody st) (defScope st) .none kV D p an cd ct),S⟩)(c:W.codeIn K cd x=true)(k:W.keepIn K (.ref f)=true)(b:∀(kV D p:Value) (an:Option Addr) (cd ct:Value) (us:Lv),us.length=i.length->bindArgs (W.fnOf x x (defArgs st) (defBody st) (defScope st) .none kV D p an cd ct) ⟨us,[]⟩=pure (i.zip us)):lH K mg x st i:=.mk' (fun_mk l c k) ((fun_mk l c k).binds b) (bq X G a)
def abB {b:Arguments}{d:List Stmt}{sc:Scope}{e:Value}(X:K.In h)(G:h.Ns mainGlobals mg)(a:W.nsIn K mainGlobals x=some (some (.ref f)))(l:K.lookup f=some ⟨oc,od,.func (W.fnOf x x b d sc e kV D p an cd ct),S⟩)(c:Kd K cd (x++".<locals>."++"<lambda>")=true):Gu K mg x:=⟨f,oc,od,_,S,bq X G a,l,Px c⟩
def ach {v:Int}{tk:Tok}(X:K.In h)(G:h.Ns mainGlobals mg)(a:W.nsIn K mainGlobals x=some (some (.int v tk))):∃tk,mg x=some (.int v tk):=⟨_,bq X G a⟩
def abv {v:Str}{tk:Tok}(X:K.In h)(G:h.Ns mainGlobals mg)(a:W.nsIn K mainGlobals x=some (some (.str v tk))):∃tk,mg x=some (.str v tk):=⟨_,bq X G a⟩
def abH {B:Addr}{nm q2 N bs sn sub ab col dcl k0 k1 k2 k3 k5}(o:K.lookup C=some (excClassObj nm q2 C N bs (vB C B).tail true sn sub ab col dcl k0 k1 k2 k3 k5 "ValueError.__new__"))(e:W.tailIn K bmV (vB C B).tail=true)(s:W.findIn K (.ref C) "__setattr__"=some (some (.builtin "object.__setattr__")))(g:W.findIn K (.ref C) "__init__"=some (some (.ref f)))(l:K.lookup f=some ⟨oc,od,.func (W.fnOf x q (defArgs st) (defBody st) (defScope st) .none kV D p an cd ct),S⟩)(c:W.codeIn K cd q=true)(k:W.keepIn K (.ref f)=true)(n:W.typeIn K (.ref f)=some (.type "function"))(d:W.keepIn K (.ref C)=true)(b:∀(kV D p:Value) (an:Option Addr) (cd ct:Value) (us:Lv),us.length=i.length->bindArgs (W.fnOf x q (defArgs st) (defBody st) (defScope st) .none kV D p an cd ct) ⟨us,[]⟩=pure (i.zip us)):∃f a,Fun K x q st f a/\Binds K a i []/\zF K C B f:=⟨_,_,fun_mk l c k,(fun_mk l c k).binds b,⟨_,_,_,_,_,_,_,_,_,_,_,_,_,_,o⟩,e,s,g,n,d⟩
def aai {a:Addr}(g:W.findIn K (.ref a) x=some (some (.ref f)))(l:K.lookup f=some ⟨oc,od,.func (W.fnOf x q (defArgs st) (defBody st) (defScope st) .none kV D p an cd ct),S⟩)(c:W.codeIn K cd q=true)(k:W.keepIn K (.ref f)=true)(n:W.isFn K (.ref f)=true)(b:∀(kV D p:Value) (an:Option Addr) (cd ct:Value) (us:Lv),us.length=i.length->bindArgs (W.fnOf x q (defArgs st) (defBody st) (defScope st) .none kV D p an cd ct) ⟨us,[]⟩=pure (i.zip us)):∃f d,Fun K x q st f d/\Binds K d i []/\Meth K a x f:=⟨_,_,fun_mk l c k,(fun_mk l c k).binds b,⟨g,n,k⟩⟩
def ZD {a d:Addr}(g:W.findIn K (.ref a) x=some (some (.ref f)))(m:W.findIn K (.ref d) x=some (some (.ref f)))(l:K.lookup f=some ⟨oc,od,.func (W.fnOf x q (defArgs st) (defBody st) (defScope st) .none kV D p an cd ct),S⟩)(c:W.codeIn K cd q=true)(k:W.keepIn K (.ref f)=true)(n:W.isFn K (.ref f)=true)(b:∀(kV D p:Value) (an:Option Addr) (cd ct:Value) (us:Lv),us.length=i.length->bindArgs (W.fnOf x q (defArgs st) (defBody st) (defScope st) .none kV D p an cd ct) ⟨us,[]⟩=pure (i.zip us)):∃f e,Fun K x q st f e/\Binds K e i []/\Meth K a x f/\Meth K d x f:=⟨_,_,fun_mk l c k,(fun_mk l c k).binds b,⟨g,n,k⟩,⟨m,n,k⟩⟩
def acs (g:W.findIn K (.ref C) "__init__"=some (some (.ref f)))(l:K.lookup f=some ⟨oc,od,.func (W.fnOf x q (defArgs st) (defBody st) (defScope st) .none kV D p an cd ct),S⟩)(c:W.codeIn K cd q=true)(k:W.keepIn K (.ref f)=true)(m:W.makesIn K C=true)(n:W.isFn K (.ref f)=true)(d:W.keepIn K (.ref C)=true)(b:∀(kV D p:Value) (an:Option Addr) (cd ct:Value) (us:Lv),us.length=i.length->bindArgs (W.fnOf x q (defArgs st) (defBody st) (defScope st) .none kV D p an cd ct) ⟨us,[]⟩=pure (i.zip us)):∃f a,Fun K x q st f a/\Binds K a i []/\Mk K C f:=⟨_,_,fun_mk l c k,(fun_mk l c k).binds b,m,g,n,d⟩
def abL (g:W.findCls K (.ref C) (.type "type") "__init__"=some (.val (.ref f)))(l:K.lookup f=some ⟨oc,od,.func (W.fnOf x q (defArgs st) (defBody st) (defScope st) .none kV D p an cd ct),S⟩)(c:W.codeIn K cd q=true)(k:W.keepIn K (.ref f)=true)(m:W.specialIn K (.ref C) "__getattribute__"=some (some (.builtin "type.__getattribute__")))(n:W.readsIn K C (.type "type")=true)(b:∀(kV D p:Value) (an:Option Addr) (cd ct:Value) (us:Lv),us.length=i.length->bindArgs (W.fnOf x q (defArgs st) (defBody st) (defScope st) .none kV D p an cd ct) ⟨us,[]⟩=pure (i.zip us)):∃f a,Fun K x q st f a/\Binds K a i []/\MK K C "__init__" f:=⟨_,_,fun_mk l c k,(fun_mk l c k).binds b,m,n,g,k⟩
def acB (h:W.findIn K (.ref C) x=some none):NoAttr K C x:=h
def acN (h:W.excIn K C bmV "ValueError.__new__"=true):CP K C:=h
def AMk:Prop:=∀{P:Program} {w:World} {K:Fg} {mg:Mg} {b:Heap} {u:Addr} {z:Addr} {cNP:Addr} {A:Addr} {cNN:Addr} {y:Addr} {j:Addr} {t:Addr} {cBA:Addr} {cBT:Addr} {F:Addr} {I:Addr} {H:Addr} {E:Addr},Top K mg u z cNP A cNN y j t cBA cBT F I H E->∀{f:Addr} {a:FuncData},Fun K "law" "law" Do f a->FnOk P w K mg b CX0 14 f a ["_law_script"] (u9 K)
def am {r:W.OpenLaw}(g:AMk)(X:K.In h)(G:h.Ns mainGlobals mg)(b:mg "law"=some (.ref J))(T:Top K mg u z cNP A cNN y j t cBA cBT F I H E)(a:W.nsIn K mainGlobals "law"=some (some (.ref f)))(l:K.lookup f=some ⟨oc,od,.func (W.fnOf "law" "law" (defArgs Do) (defBody Do) (defScope Do) .none kV D p an cd ct),S⟩)(c:W.codeIn K cd "law"=true)(k:W.keepIn K (.ref f)=true):∃d:FuncData,(∀(s:Shared) (v:Value),BindsTo s d ⟨[v],[]⟩ [("_law_script",v)])/\∀base:Heap,K.In base->base.Ns mainGlobals mg->FnOk r.prog w K mg base CX0 14 J d ["_law_script"] (u9 K):=by have e:=b.symm.trans (bq X G a);cases e;exact⟨_,λs v=>.of_eq rfl,λbase _ _=>g T (fun_mk l c k)⟩
def bnS {Q:List Value->Prop}(h:∀a,∀us:List Value,us.length=n->Q (a::us)):∀us:List Value,us.length=n+1->Q us|a::t,e=>h a t (Nat.succ.inj e)
def bn1 {Q:List Value->Prop}(h:∀a,Q [a]):∀us:List Value,us.length=1->Q us:=bnS λa u e=>List.eq_nil_of_length_eq_zero e▸h a
def bn2 {Q:List Value->Prop}(h:∀a b,Q [a,b]):∀us:List Value,us.length=2->Q us:=bnS λa=>bn1 (h a)
def bn3 {Q:List Value->Prop}(h:∀a b c,Q [a,b,c]):∀us:List Value,us.length=3->Q us:=bnS λa=>bn2 (h a)
def bn4 {Q:List Value->Prop}(h:∀a b c d,Q [a,b,c,d]):∀us:List Value,us.length=4->Q us:=bnS λa=>bn3 (h a)
end
def walk {l:W.OpenLaw}{q:Program}{loose:Ls}{XP:(Str->Option Value)->Heap->Prop}{YP:World->Heap->Prop}{d:DefRec}{K:Params->Fg}(p:l.most=some 63)(b:d.params.defaults=[])
  (j:∀(w:World) (h:Heap),YP w h->(K w.params).In h) (g:∀(w:World) (h:Heap),YP w h->Hh (K w.params) h)
  (F:∀(w:World) (mg:Mg) (c:Addr) (h:Heap),(K w.params).In h->h.Ns mainGlobals mg->mg d.name=some (.ref c) -> ∃e:FuncData,(∀(s:Shared) (u:Value),BindsTo s e ⟨[u],[]⟩ [("_law_script",u)])/\∀base:Heap,(K w.params).In base->base.Ns mainGlobals mg->FnOk l.prog w (K w.params) mg base CX0 14 c e ["_law_script"] (u9 (K w.params))) :
  W.WalkO q loose XP YP l.row.toRowW d [] (λf vs=>PySem.call f vs):=
 L2.Rh (n:=63) (k:=14) (x:="_law_script") (CX:=λ_=>CX0) (sp:=λw=>u9 (K w.params)) p (by decide) b ⟨rfl,by decide,by decide⟩ j F g (λ_ _ a r o m i=>⟨a,r,rfl,i,o,m,λ_=>rfl⟩) λ_ _ _ _ _ z=>z
end jg
section
open PySem PySem.W PyProof.Rows
local macro_rules | `(tactic| o_head $H) => `(tactic| (refine W.holds_open (q:=jg.view) (loose:=[]) (Xt:=λs=>W.xlAt jg.view [] s && W.recOk (W.RowW.records k8) s) (XP:=W.XL jg.view []) (Yf:=W.Hook.obs $H) (Ya:=W.Hook.val $H) (YP:=W.Hook.says $H) (N:=20000) ?hl (W.Hook.of $H) (W.Hook.keeps $H) (λs e=>W.xl_of s (Bool.and_eq_true_iff.mp e).1) W.XL.keeps (by rfl) (by rfl) (by rfl) (λs e=>W.recFacts_of (Bool.and_eq_true_iff.mp e).2) (by rfl) (by first|assumption|decide +kernel) (by decide +kernel) ⟨rfl,rfl,rfl,rfl,rfl,by decide +kernel⟩ ?hw ?hc;(case hl=>(intro w;exact jg.adK w (by kernel_rfl)))))
local macro_rules | `(tactic| walk_at "b") => `(tactic| (first|exact λ_ _ _ _ _ _=>jg.bn1 λ_=>rfl|exact λ_ _ _ _ _ _=>jg.bn2 λ_ _=>rfl|exact λ_ _ _ _ _ _=>jg.bn3 λ_ _ _=>rfl|exact λ_ _ _ _ _ _=>jg.bn4 λ_ _ _ _=>rfl))
def PySem.W.Fast.tw13656663566739637982:=PySem.Challenge.pw_factorforge_k86_lines_refused
def PySem.W.Fast.te13656663566739637982:PySem.Challenge.pw_factorforge_k86_lines_refused=PySem.W.Fast.tw13656663566739637982:=rfl
set_option maxHeartbeats 0 in
theorem jg.pre (A:jg.AMk):PySem.Challenge.rw_factorforge_k86_lines_refused.Holds:=by
 w_on;o_law;k_head;(rotate_left;rotate_right);(· w_witness2)
 k_fill
 refine jg.walk (l:=PySem.Challenge.rw_factorforge_k86_lines_refused) rfl rfl (λw h Y=>PySem.W.km_in_of Y) (λw h Y=>L3.Uh (by kernel_rfl) (PySem.W.km_tabs_of Y)) ?F
 case F=>
  intro w i f h d G e
  refine' jg.am A d G e ?T ?a ?l ?c ?k
  case a=>k_is
  case l=>k_is
  case c=>k_is
  case k=>k_is
  case T=>
   constructor
   case qU=>(refine' bq d G ?a;(case a=>k_is))
   case z6=>(refine' bq d G ?a;(case a=>k_is))
   case ue=>(refine' bq d G ?a;(case a=>k_is))
   case Dt=>(refine' bq d G ?a;(case a=>k_is))
   case wj=>(refine' bq d G ?a;(case a=>k_is))
   case Bf=>(refine' bq d G ?a;(case a=>k_is))
   case DR=>(refine' bq d G ?a;(case a=>k_is))
   case wR=>(refine' bq d G ?a;(case a=>k_is))
   case tV=>(refine' bq d G ?a;(case a=>k_is))
   case xR=>(refine' bq d G ?a;(case a=>k_is))
   case S8=>(refine' bq d G ?a;(case a=>k_is))
   case HF=>(refine' bq d G ?a;(case a=>k_is))
   case Nt=>(refine' bq d G ?a;(case a=>k_is))
   case HQ=>(refine' bq d G ?a;(case a=>k_is))
   all_goals first|(refine' jg.abE d G ?a ?l ?c ?k ?b;(case a=>k_is);(case l=>k_is);(case c=>k_is);(case k=>k_is);(case b=>walk_at "b"))|(refine' jg.abB d G ?a ?l ?c;(case a=>k_is);(case l=>k_is);(case c=>kernel_rfl))|(refine' PySem.W.mg_none_of d G ?a;(case a=>k_is))|(refine' jg.ach d G ?a;(case a=>k_is))|(refine' jg.abv d G ?a;(case a=>k_is))|(refine' jg.abH ?o ?tl ?sa ?g ?l ?c ?k ?n ?kc ?b;(case o=>k_is);(case g=>k_is);(case l=>k_is);(case c=>k_is);(case k=>k_is);(case n=>k_is);(case kc=>k_is);(case sa=>k_is);(case tl=>kernel_rfl);(case b=>walk_at "b"))|(refine' jg.aai ?g0 ?l ?c ?k ?n ?b;(case g0=>k_is);(case l=>k_is);(case c=>k_is);(case k=>k_is);(case n=>k_is);(case b=>walk_at "b"))|(refine' jg.ZD ?g0 ?g1 ?l ?c ?k ?n ?b;(case g0=>k_is);(case g1=>k_is);(case l=>k_is);(case c=>k_is);(case k=>k_is);(case n=>k_is);(case b=>walk_at "b"))|(refine' jg.acs ?g ?l ?c ?k ?m ?n ?kc ?b;(case g=>k_is);(case l=>k_is);(case c=>k_is);(case k=>k_is);(case m=>k_is);(case n=>k_is);(case kc=>k_is);(case b=>walk_at "b"))|(refine' jg.abL ?g ?l ?c ?k ?m ?n ?b;(case g=>k_is);(case l=>k_is);(case c=>k_is);(case k=>k_is);(case m=>k_is);(case n=>k_is);(case b=>walk_at "b"))|(refine' jg.acB ?a;(case a=>k_is))|(refine' jg.acN ?a;(case a=>k_exc))|kit_is|kts_exm|(constructor<;>k_is)
end
namespace L2
open PySem PySem.Spec PyProof.Rows
def Vals.length (r:Vals xs us):xs.length=us.length:=Paired.length r
def Vals.get:∀{xs:List V} {us:Lv} {i:Nat} {x:V},Vals xs us->xs[i]?=some x->∃u,us[i]?=some u/\RelV x u
 |_,_,_,_,.nil,e=>by simp at e
 |_,_,0,_,.cons r _,e=>by simp at e;subst e;exact⟨_,rfl,r⟩
 |_,_,i+1,x,.cons _ t,e=>by obtain⟨u,h,a⟩:=Vals.get (i:=i) (x:=x) t (by simpa using e);exact⟨u,by simpa using h,a⟩
def Vals.set (r:RelV x u):∀{xs:List V} {us:Lv} (i:Nat),Vals xs us->Vals (xs.set i x) (us.set i u)
 |_,_,_,.nil=>.nil
 |_,_,0,.cons _ t=>.cons r t
 |_,_,i+1,.cons q t=>.cons q (Vals.set r i t)
def Vals.append:∀{xs y:List V} {us w:Lv},Vals xs us->Vals y w->Vals (xs++y) (us++w)
 |_,_,_,_,.nil,s=>s
 |_,_,_,_,.cons r t,s=>.cons r (Vals.append t s)
def Vals.take:∀{xs:List V} {us:Lv} (n:Nat),Vals xs us->Vals (xs.take n) (us.take n)
 |_,_,0,_=>.nil
 |_,_,_+1,.nil=>.nil
 |_,_,n+1,.cons r t=>.cons r (Vals.take n t)
def Vals.drop:∀{xs:List V} {us:Lv} (n:Nat),Vals xs us->Vals (xs.drop n) (us.drop n)
 |_,_,0,r=>r
 |_,_,_+1,.nil=>.nil
 |_,_,n+1,.cons _ t=>Vals.drop n t
def Vals.none_of:∀{xs:List V} {us:Lv} {i:Nat},Vals xs us->xs[i]?=none->us[i]?=none:=λ{xs us i} r e=>by have h:=r.length;have a:xs.length<=i:=dH.mp e;exact dH.mpr (by lia)
@[simp] theorem w6.append_nil (t:w6):t++(#[]:Array Value)=t:=by obtain⟨q,p⟩:=t;show w6.mk q (p ++ #[])=⟨q,p⟩;rw[Array.append_empty]
def w6.append_assoc (t:w6)(a b:Array Value):t++a++b=t++(a++b):=by obtain⟨q,p⟩:=t;show w6.mk q (p++a++b)=⟨q,p++(a++b)⟩;rw[Array.append_assoc]
def upd (H:Hp)(a:Addr)(o:HO):Hp:=λb=>if b=a then some o else H b
def upd_same:upd H a o a=some o:=by unfold upd;rw[ai rfl]
def upd_ne (h:b≠a):upd H a o b=H b:=by unfold upd;rw[ag h]
def upd_upd:upd (upd H a o) a u=upd H a u:=by funext b;unfold upd;split<;>rfl
def ne_of {H:Hp}{a b:Addr}{o u:HO}(h:H a=some o)(h':H b=some u)(d:o≠u):a≠b:=by intro e;subst e;rw[h]at h';exact d (aD h')
def ne_of_none {H:Hp}{a b:Addr}{o:HO}(h:H a=some o)(h':H b=none):a≠b:=by intro e;subst e;rw[h]at h';cases h'
section
variable {P:Program}{w:World}{H i:Hp}{h h':Heap}{a:Addr}{o:HO}
def ObjOk.lt (x:ObjOk P w H h a o):a<h.objs.size:=by
 cases o with
 |lst xs=>obtain⟨_,_,_,_,e⟩:=x;exact ay e
 |tup xs=>obtain⟨_,_,_,p⟩:=x;exact p.lt
 |dK k=>obtain⟨_,_,_,_,o,_,_,e,_⟩:=x;exact ay e
 |dT k=>obtain⟨_,_,_,_,o,_,_,e,_⟩:=x;exact ay e
 |set S n=>obtain⟨o,_,_,_,e,_⟩:=x;exact ay e
 |ins C d fs=>obtain⟨_,_,_,e,_⟩:=x;exact ay e
 |own y=>obtain⟨_,e⟩:=x;exact ay e
 |xd fs=>obtain⟨_,⟨_,_,_,e,_⟩,_⟩:=x;exact ay e
 |rng l b=>obtain⟨_,_,_,e⟩:=x;exact ay e
 |frz ob u=>obtain⟨e,_⟩:=x;exact ay e
 |tbl c=>exact ay x.1
 |met f y=>exact ay (show h.get? a=some _ from x)
 |ext g=>obtain⟨_,⟨_,e⟩,_⟩:=x;exact ay e
def Paired.mapP:∀{l:List α} {c:List β},Paired F l c->(∀a b,F a b->G a b)->Paired G l c
 |_,_,.nil,_=>.nil
 |_,_,.cons r t,f=>.cons (f _ _ r) (Paired.mapP t f)
def ObjOk.stay (x:ObjOk P w H h a o)(k:∀b u,(b=a\/H b=some (.own a))->h.get? b=some u->h'.get? b=some u)
  (I:∀b,H b=some (.own a)->i b=some (.own a)) (J:∀b xs,H b=some (.tup xs)->i b=some (.tup xs)) (L:∀b o u,H b=some (.frz o u)->i b=some (.frz o u):=by intro _ _ _ q;exact q):ObjOk P w i h' a o:=by
 induction o with
 |lst xs=>obtain⟨z,m,n,r,e⟩:=x;exact⟨z,m,n,r,k _ _ (.inl rfl) e⟩
 |tup xs=>obtain⟨z,m,r,ob,e,c⟩:=x;exact⟨z,m,r,ob,k _ _ (.inl rfl) e,c⟩
 |dK s=>obtain⟨z,y,N,r,ob,l,j,e,c⟩:=x;exact⟨z,y,N,r,ob,l,j,k _ _ (.inl rfl) e,c⟩
 |dT s=>obtain⟨z,y,xs,r,ob,l,j,e,c⟩:=x;exact⟨z,y,xs,Paired.mapP r λp q z=>⟨z.1,J _ _ z.2.1,z.2.2⟩,ob,l,j,k _ _ (.inl rfl) e,c⟩
 |set S n=>obtain⟨ob,l,j,t,e,c⟩:=x;exact⟨ob,l,j,t,k _ _ (.inl rfl) e,c⟩
 |ins C O fs=>obtain⟨d,z,ne,e,A,⟨B,l,j,F,c⟩,r⟩:=x;exact⟨I _ d,z,ne,k _ _ (.inl rfl) e,A,⟨B,l,j,k _ _ (.inr d) F,c⟩,r⟩
 |own y=>obtain⟨ob,e⟩:=x;exact⟨ob,k _ _ (.inl rfl) e⟩
 |xd fs=>obtain⟨A,⟨B,l,j,e,c⟩,r⟩:=x;exact⟨A,⟨B,l,j,k _ _ (.inl rfl) e,c⟩,r⟩
 |rng R Q=>obtain⟨t,u,v,e⟩:=x;exact⟨t,u,v,k _ _ (.inl rfl) e⟩
 |frz ob u M=>obtain⟨e,q⟩:=x;exact⟨k _ _ (.inl rfl) e,M q⟩
 |tbl T=>obtain⟨e,t,g⟩:=x;exact⟨k a _ (.inl rfl) e,t,λp E G=>let ⟨c,oc,u,y,z,q⟩:=g p E G;⟨c,oc,u,y,L _ _ _ z,q⟩⟩
 |met f y=>have e:h.get? a=some (W.methodObj (.ref f) (.ref y)):=x;show h'.get? a=some (W.methodObj (.ref f) (.ref y));exact k a _ (.inl rfl) e
 |ext U=>obtain⟨p,⟨o,e⟩,D⟩:=x;exact⟨D _ _ p λo q=>k _ _ (.inl rfl) q,⟨o,k _ _ (.inl rfl) e⟩,D⟩
def HOk.lt (x:HOk P w H h)(e:H a=some o):a<h.objs.size:=(x a o e).lt
def HOk.fresh (x:HOk P w H h)(e:h.objs.size<=a):H a=none:=by
 cases q:H a with
 |none=>rfl
 |some u=>exact absurd (aN (x.lt q) e) (ck _)
def HOk.kept (x:HOk P w H h)(k:∀b u,h.get? b=some u->h'.get? b=some u):HOk P w H h':=λa o e=>
 (x a o e).stay (λb u _ q=>k b u q) (λ_ q=>q) λ_ _ q=>q
def HOk.laid (x:HOk P w H h)(k:∀b u,h.get? b=some u->h'.get? b=some u)(g:h.objs.size<=a)(new:ObjOk P w (upd H a o) h' a o):HOk P w (upd H a o) h':=λb u e=>by
 have d:=x.fresh g;by_cases f:b=a
 .subst f;rw[upd_same]at e;cases e;exact new
 .rw[upd_ne f]at e;exact(x b u e).stay (λc v _ q=>k c v q) (λc q=>by rw[upd_ne (ne_of_none q d)];exact q) (λc xs q=>by rw[upd_ne (ne_of_none q d)];exact q) λc _ _ q=>by rw[upd_ne (ne_of_none q d)];exact q
end
def Rd.ok (r:Rd H a u)(x:HOk P w H h):ObjOk P w H h a u:=by
 rcases r with r|⟨o,r⟩
 .exact x a u r
 .obtain⟨_,q⟩:=x a _ r;exact q
def Mut:Option HO->Prop
 |some (.lst _)=>True
 |some (.dK _)=>True
 |some (.dT _)=>True
 |some (.set _ _)=>True
 |some (.ins _ _ _)=>True
 |some (.ext _)=>True
 |_=>False
section
variable {P:Program}{w:World}{H:Hp}{h h':Heap}{x e:Addr}{O:HO}
def HOk.write (ok:HOk P w H h)(m:Mut (H x))(he:e=x\/H e=some (.own x))(k:∀b u,b≠e->h.get? b=some u->h'.get? b=some u)(j:∃u,h'.get? e=some u)
  (new:ObjOk P w (upd H x O) h' x O):HOk P w (upd H x O) h':=λb u q=>by
 have n:∀c y,H c=some (.own y)->c≠x:=λc y r z=>by subst z;rw[r]at m;exact m
 have f:∀c xs,H c=some (.tup xs)->c≠x:=λc xs r z=>by subst z;rw[r]at m;exact m
 have d:∀c o u,H c=some (.frz o u)->c≠x:=λc o u r z=>by subst z;rw[r]at m;exact m
 by_cases g:b=x
 .subst g;rw[upd_same]at q;cases q;exact new
 .rw[upd_ne g]at q;by_cases a:b=e
  .have l:H b=some (.own x):=by
    rcases he with z|z
    .exact absurd (a.trans z) g
    .rw[a];exact z
   rw[q]at l;cases l;obtain⟨v,p⟩:=j;exact⟨v,by rw[a];exact p⟩
  .refine(ok b u q).stay (λc v i r=>k c v ?_ r) (λc r=>by rw[upd_ne (n c b r)];exact r) (λc xs r=>by rw[upd_ne (f c xs r)];exact r) λc o u r=>by rw[upd_ne (d c o u r)];exact r
   rcases i with rfl|i
   .exact a
   .rintro rfl;rcases he with z|z
    .exact n c b i z
    .rw[i]at z;cases z;exact g rfl
end
section
variable {fs F ex E:List Addr}{H f g:Hp}{h d i h':Heap}{a x e:Addr}{o:HO}
def Un.any (u:Un fs ex H f h d)(q:h.get? b=some ob)(n:H b=none)(j:b∉ex):∃s,d.get? b=some { ob with slots:=s }:=by
 by_cases c:b∈fs
 .exact u.slot b ob q n c j
 .exact⟨ob.slots,u.keep b ob q n c j⟩
def Un.trans (a:Un fs ex H f h d)(b:Un fs ex f g d i):Un fs ex H g h i where
 keep:=λc ob q n l j=>b.keep c ob (a.keep c ob q n l j) (a.free c ob q n j) l j
 slot:=λc ob q n l j=>by obtain⟨v,k⟩:=a.slot c ob q n l j;obtain⟨s,m⟩:=b.slot c _ k (a.free c ob q n j) l j;exact⟨s,m⟩
 free:=λc ob q n j=>by obtain⟨p,k⟩:=a.there c ob q j;exact b.free c p k (a.free c ob q n j) j
 there:=λc ob q j=>by obtain⟨p,k⟩:=a.there c ob q j;exact b.there c p k j
 tups:=λc xs q=>b.tups c xs (a.tups c xs q)
 frzs:=λc ob xs q=>b.frzs c ob xs (a.frzs c ob xs q)
 tbls:=λc u q=>by obtain⟨r,k⟩:=a.tbls c u q;obtain⟨t,m⟩:=b.tbls c _ k;exact⟨r++t,by rw[m,w6.append_assoc]⟩
def Un.kept (k:∀b u,h.get? b=some u->h'.get? b=some u):Un fs ex H H h h':=
 ⟨λb ob q _ _ _=>k b ob q,λb ob q _ _ _=>⟨ob.slots,k b ob q⟩,λ_ _ _ n _=>n,λb ob q _=>⟨ob,k b ob q⟩,λ_ _ q=>q,λ_ _ _ q=>q,λ_ p q=>⟨#[],by rw[q];simp⟩⟩
def Un.refl:Un fs ex H H h h:=Un.kept λ_ _ q=>q
def Un.laid (k:∀b u,h.get? b=some u->h'.get? b=some u)(j:h.objs.size<=a)(c:H a=none):Un fs ex H (upd H a o) h h' where
 keep:=λb u q _ _ _=>k b u q
 slot:=λb u q _ _ _=>⟨u.slots,k b u q⟩
 free:=λb u q n _=>by rw[upd_ne (aX (aN (ay q) j))];exact n
 there:=λb u q _=>⟨u,k b u q⟩
 tups:=λb xs q=>by rw[upd_ne (ne_of_none q c)];exact q
 frzs:=λb u xs q=>by rw[upd_ne (ne_of_none q c)];exact q
 tbls:=λb p q=>⟨#[],by rw[upd_ne (ne_of_none q c),q];simp⟩
def Un.write (m:Mut (H x))(he:e=x\/H e=some (.own x))(k:∀b u,b≠e->h.get? b=some u->h'.get? b=some u)(j:∃u,h'.get? e=some u):Un fs ex H (upd H x o) h h':=by
 have s:∀b,H b=none->b≠x:=λb n z=>by subst z;rw[n]at m;exact m
 have p:∀b,H b=none->b≠e:=λb n z=>by
  subst z;rcases he with r|r
  .exact s b n r
  .rw[n]at r;cases r
 have l:∀b u,H b=some u->¬Mut (some u)->b≠x:=λb u q t z=>by subst z;rw[q]at m;exact t m
 refine⟨λb u q n _ _=>k b u (p b n) q,λb u q n _ _=>⟨u.slots,k b u (p b n) q⟩,λb u q n _=>by rw[upd_ne (s b n)];exact n,λb u q _=>?_,
  λb xs q=>by rw[upd_ne (l b _ q λz=>z)];exact q,λb u xs q=>by rw[upd_ne (l b _ q λz=>z)];exact q,λb v q=>⟨#[],by rw[upd_ne (l b _ q λz=>z),q];simp⟩⟩
 by_cases c:b=e
 .subst c;exact j
 .exact⟨u,k b u c q⟩
end
def allNews (g h:Heap)(L:Addr):List (Addr×Obj):=(List.range h.objs.size).filterMap λa=>if a=L\/(g.get? a).isSome=true then none else(h.get? a).map λo=>(a,o)
def mem_allNews (c:a≠L)(d:g.get? a=none)(b:h.get? a=some o):(a,o)∈allNews g h L:=
 di.mpr ⟨a,bw.mpr (ay b),by simp[c,d,b]⟩
def of_mem_allNews (c:p∈allNews g h L):p.1≠L/\g.get? p.1=none/\h.get? p.1=some p.2:=by
 obtain⟨b,_,e⟩:=di.mp c;split at e
 .cases e
 .rename_i a;cases q:h.get? b with
  |none=>rw[q]at e;simp at e
  |some u=>
   rw[q]at e;simp only[dY,Option.some.injEq]at e;subst e;refine⟨λz=>a (.inl z),?_,q⟩;show g.get? b=none;cases r:g.get? b with
   |none=>rfl
   |some v=>exact(a (.inr (by simp[r]))).elim
def rest (g h:Heap)(L d:Addr):List (Addr×Obj):=(allNews g h L).filter λp=>decide (p.1≠d)
def news_all:News g L h (allNews g h L):=λp d=>let ⟨a,b,c⟩:=of_mem_allNews d;⟨c,a,b⟩
structure Cx where
 prog:Program
 w:World
 K:Fg
 mg:Str->Option Value
 base:Heap
 A:Around
 N:List Str
 s₀:Shared
 H₀:Hp
 env:Env
 outer:List Env
 stack:List Env
 ex:List Addr
 fn:Str->Bool
 calm:Bool
 pn:List (Addr×Obj)
 xe:Value->Shared->Prop
abbrev Cx.fs (X:Cx):List Addr:=frs X.outer
def Vis (sc:Scope)(x:Str):Prop:=sc.names.lookup x=some .local\/sc.names.lookup x=some .cell\/sc.names.lookup x=some .free
def Loc (sc:Scope)(x:Str):Prop:=sc.names.lookup x=some .local\/sc.names.lookup x=some .cell
def Look (env:Env)(h:Heap)(m:Mg)(x:Str)(u:Value):Prop:=
 (env.kindOf x=some .local/\m x=some u)\/((env.kindOf x=some .cell\/env.kindOf x=some .free)/\∃c,env.cells.lookup x=some c/\h.IsCell c (some u))
structure Cx.Ok (X:Cx):Prop where
 mod:Mod X.K X.mg X.base
 kind:X.env.scope.kind=.function
 glob:X.env.globals=mainGlobals
 blt:X.env.builtins=builtinsNs
 above:X.s₀.heap.objs.size<=X.env.locals
 inj:∀x y c,X.env.cells.lookup x=some c->X.env.cells.lookup y=some c->x=y
 has:∀x,(X.env.kindOf x=some .cell\/X.env.kindOf x=some .free)->∃c,X.env.cells.lookup x=some c
 cab:∀x c,X.fn x=true->X.env.cells.lookup x=some c->X.s₀.heap.objs.size<=c
 hd:X.calm=true->X.A.handled=none
 frames:X.A.frames=some X.stack
 stk:X.stack=X.outer\/(X.stack=X.env::X.outer/\X.env.frame=some X.env.locals)
 exf:∀b∈X.ex,b≠X.env.locals/\∀x c,X.env.cells.lookup x=some c->c≠b
 bs:∀b o,X.base.get? b=some o->X.s₀.heap.get? b=some o/\X.H₀ b=none
 bsz:X.base.objs.size<=X.s₀.heap.objs.size
 noex:∀b o,X.base.get? b=some o->b∉X.ex
 exfs:∀b∈X.ex,b∉X.fs
 funs:X.s₀.heap.FunFrames X.base X.outer
 frf:Frf X.K X.H₀ X.fs
structure Inv (X:Cx)(pins:List (Addr×Obj))(σ:List (Option V))(H:Hp)(s:Shared):Prop where
 ok:X.Ok
 os:s.os=X.s₀.os
 bare:AllBare s.gens
 base:Un X.fs X.ex X.H₀ H X.s₀.heap s.heap
 loc:∃m,s.heap.Ns X.env.locals m/\∀(i:Nat) (x:Str) (v:V),X.N[i]?=some x->σ[i]?=some (some v)->Vis X.env.scope x->∃u,RelV v u/\Look X.env s.heap m x u
 cell:∀x c,X.env.cells.lookup x=some c->∃v,s.heap.IsCell c v
 free:H X.env.locals=none
 freeC:∀x c,X.env.cells.lookup x=some c->H c=none
 pin:∀p∈X.pn++pins,s.heap.get? p.1=some p.2/\H p.1=none/\p.1≠X.env.locals/\p.1∉X.fs/\∀v,p.2.data ≠ .cell v
 hok:HOk X.prog X.w H s.heap
 len:σ.length=X.N.length
section
variable {X:Cx}{P:List (Addr×Obj)}{f:List (Option V)}{H g:Hp}{s:Shared}{h':Heap}
def Cx.Ok.nofr (ok:X.Ok)(e:X.base.get? b=some o):b∉X.fs:=λh=>by have:=(ok.funs.mem h).1;rw[e]at this;cases this
def Inv.bs (I:Inv X P f H s):∀b o,X.base.get? b=some o->s.heap.get? b=some o/\H b=none:=λb o e=>
 ⟨I.base.keep b o (I.ok.bs b o e).1 (I.ok.bs b o e).2 (I.ok.nofr e) (I.ok.noex b o e),I.base.free b o (I.ok.bs b o e).1 (I.ok.bs b o e).2 (I.ok.noex b o e)⟩
def Inv.bk (I:Inv X P f H s):∀b o,X.base.get? b=some o->s.heap.get? b=some o:=λb o e=>(I.bs b o e).1
def Inv.mod (I:Inv X P f H s):Mod X.K X.mg X.base:=I.ok.mod
def Inv.kIn (I:Inv X P f H s):X.K.In s.heap:=I.ok.mod.kin.keeps I.bk
def Inv.fr (I:Inv X P f H s):∃m,Fr X.base X.env.locals s.heap m:=
 let ⟨m,hn,_⟩:=I.loc
 ⟨m,hn,I.bk,aG I.ok.bsz I.ok.above⟩
def Inv.lt (I:Inv X P f H s):X.env.locals<s.heap.objs.size:=let ⟨_,hn,_⟩:=I.loc;hn.lt
def Inv.sz (I:Inv X P f H s):X.s₀.heap.objs.size<=s.heap.objs.size:=aG I.ok.above (bv I.lt)
def Inv.nofs (I:Inv X P f H s){a:Addr}(h:s.heap.objs.size<=a):a∉X.fs:=λb=>by obtain⟨_,o,c,_⟩:=I.ok.funs.mem b;exact absurd (aN (ay c) (aG I.sz h)) (ck _)
def Inv.cne (I:Inv X P f H s):∀x c,X.env.cells.lookup x=some c->c≠X.env.locals:=λx c e z=>by obtain⟨v,o,d,b⟩:=I.cell x c e;obtain⟨m,⟨k,j,i,a,h,_⟩,_⟩:=I.loc;rw[z,a]at d;cases d;rw[h]at b;cases b
def Inv.funs (I:Inv X P f H s):s.heap.FunFrames X.base X.outer:=by
 have all:∀(l:List Env),(∀b∈frs l,b∈X.fs)->X.s₀.heap.FunFrames X.base l->s.heap.FunFrames X.base l:=by
  intro l
  induction l with
  |nil=>intro _ _;trivial
  |cons i r t=>rintro d ⟨k,⟨L,o,c,n,p,j⟩,q⟩;have h:L∈X.fs:=d L (by unfold frs;rw[a9,c];exact aA);obtain⟨u,e⟩:=I.base.slot L o p (I.ok.frf.f L h) h λz=>I.ok.exfs L z h;exact⟨k,⟨L,_,c,n,e,j⟩,t (λb a=>d b (by unfold frs;rw[a9,c];exact aj _ a)) q⟩
 exact all X.outer (λ_ a=>a) I.ok.funs
def Inv.stack (I:Inv X P f H s):s.heap.FunFrames X.base X.stack:=by
 rcases I.ok.stk with e|⟨e,hf⟩
 .rw[e];exact I.funs
 .rw[e];obtain⟨m,h,_⟩:=I.loc;refine .cons (by rw[I.ok.kind];decide) hf h ?_ I.funs;exact Heap.get?_none_of_le (aG I.ok.bsz I.ok.above)
def Inv.stkSub (I:Inv X P f H s):∀b∈frs X.stack,b∈X.env.locals::X.fs:=λb h=>by
 rcases I.ok.stk with e|⟨e,hf⟩
 .rw[e]at h;exact aj _ h
 .rw[e]at h;unfold frs at h;rw[a9,hf]at h;exact h
def Inv.stkFree (I:Inv X P f H s):∀b∈frs X.stack,H b=none:=λb h=>by
 rcases aw.mp (I.stkSub b h) with e|h
 .rw[e];exact I.free
 .obtain⟨_,o,a,_⟩:=I.ok.funs.mem h;exact I.base.free b o a (I.ok.frf.f b h) λz=>I.ok.exfs b z h
def Inv.step {g':Array GenState}{t':Nat}{d':Drawn}{ch:List Addr}(I:Inv X P f H s)
  (j:∀b∈ch,(b∈X.ex\/X.s₀.heap.objs.size<=b)/\b≠X.env.locals/\(∀x c,X.env.cells.lookup x=some c->c≠b)/\∀p∈X.pn++P,p.1≠b)
  (t:∀b o,b≠X.env.locals->b∉X.fs->b∉ch->s.heap.get? b=some o->H b=none->h'.get? b=some o)
  (B:∀b o,b≠X.env.locals->b∈X.fs->b∉ch->s.heap.get? b=some o->H b=none->∃S,h'.get? b=some { o with slots:=S }) (free:∀b o,b∉ch->s.heap.get? b=some o->H b=none->g b=none)
  (D:∀b o,b∉ch->s.heap.get? b=some o->∃L,h'.get? b=some L)
  (N:∀b xs,H b=some (.tup xs)->g b=some (.tup xs)) (G:∀b o u,H b=some (.frz o u)->g b=some (.frz o u)) (M:∀b O,H b=some (.tbl O)->∃more:Array Value,g b=some (.tbl (O++more)))
  (ns:∀m,s.heap.Ns X.env.locals m->h'.Ns X.env.locals m) (R:HOk X.prog X.w g h') (hg:AllBare g') :
  Inv X P f g { s with heap:=h',gens:=g',drawn:=d',toks:=t' }:=by
 have J:∀b o,X.s₀.heap.get? b=some o->b≠X.env.locals:=λb o e=>aX (aN (ay e) I.ok.above);have A:∀b o,X.s₀.heap.get? b=some o->b∉X.ex->b∉ch:=λb o e h C=>by
  rcases (j b C).1 with z|z
  .exact h z
  .exact absurd (aN (ay e) z) (ck _)
 have a:∀x c,X.env.cells.lookup x=some c->∀v,s.heap.IsCell c v->h'.IsCell c v:=λx c e v ⟨o,E,Q⟩=>by
  have w:c∉ch:=λz=>(j c z).2.2.1 x c e rfl;by_cases U:c∈X.fs
  .obtain⟨S,q⟩:=B c o (I.cne x c e) U w E (I.freeC x c e);exact⟨_,q,Q⟩
  .exact⟨o,t c o (I.cne x c e) U w E (I.freeC x c e),Q⟩
 refine⟨I.ok,I.os,hg,⟨λb o e n C h=>?_,λb o e n C h=>?_,λb o e n h=>?_,λb o e h=>?_,λb xs e=>N b xs (I.base.tups b xs e),λb o xs e=>G b o xs (I.base.frzs b o xs e),λb O e=>?_⟩,?_,λx c e=>?_,?_,λx c e=>?_,λp Y=>?_,R,I.len⟩
 .exact t b o (J b o e) C (A b o e h) (I.base.keep b o e n C h) (I.base.free b o e n h)
 .obtain⟨S,y⟩:=I.base.slot b o e n C h;obtain⟨T,F⟩:=B b _ (J b o e) C (A b o e h) y (I.base.free b o e n h);exact⟨T,F⟩
 .obtain⟨L,y⟩:=I.base.there b o e h;exact free b L (A b o e h) y (I.base.free b o e n h)
 .obtain⟨L,y⟩:=I.base.there b o e h;exact D b L (A b o e h) y
 .obtain⟨m1,y⟩:=I.base.tbls b O e;obtain⟨m2,F⟩:=M b _ y;exact⟨m1++m2,by rw[F,w6.append_assoc]⟩
 .obtain⟨m,hn,hl⟩:=I.loc;refine⟨m,ns m hn,λi x v y F e3=>?_⟩;obtain⟨u,r,l⟩:=hl i x v y F e3;refine⟨u,r,?_⟩;rcases l with l|⟨k,c,e,z⟩
  .exact .inl l
  .exact .inr ⟨k,c,e,a x c e _ z⟩
 .obtain⟨v,z⟩:=I.cell x c e;exact⟨v,a x c e v z⟩
 .obtain⟨m,⟨o,_,_,E,_⟩,_⟩:=I.loc;exact free _ o (λz=>(j _ z).2.1 rfl) E I.free
 .obtain⟨v,o,E,Q⟩:=I.cell x c e;exact free c o (λz=>(j c z).2.2.1 x c e rfl) E (I.freeC x c e)
 .obtain⟨e,n,ne,Z,d⟩:=I.pin p Y;have w:p.1∉ch:=λz=>(j p.1 z).2.2.2 p Y rfl;exact⟨t p.1 p.2 ne Z w e n,free p.1 p.2 w e n,ne,Z,d⟩
def Inv.un {t':Nat}(I:Inv X P f H s)(u:Un X.fs [] H g s.heap h')(i:HOk X.prog X.w g h'):Inv X P f g { s with heap:=h',toks:=t' }:=by
 obtain⟨m,⟨o,t,q,j,r⟩,_⟩:=id I.loc;obtain⟨x,k⟩:=u.any j I.free (by simp);exact I.step (g':=s.gens) (d':=s.drawn) (ch:=[]) (λ_ z=>nomatch z) (λb o _ d _ e n=>u.keep b o e n d (by simp)) (λb o _ d _ e n=>u.slot b o e n d (by simp)) (λb o _ e n=>u.free b o e n (by simp)) (λb o _ e=>u.there b o e (by simp)) u.tups u.frzs u.tbls (λv l=>by
  obtain⟨w,c,a,h,p⟩:=l;rw[j]at h;cases h;exact⟨_,c,a,k,p⟩) i I.bare
def Inv.call {g':Array GenState}{t':Nat}{d':Drawn}{ch:List Addr}(I:Inv X P f H s)(u:Un (frs X.stack) ch H g s.heap h')(l:HOk X.prog X.w g h')(v:AllBare g')
  (a:∀b∈ch,(b∈X.ex\/X.s₀.heap.objs.size<=b)/\b≠X.env.locals/\(∀x c,X.env.cells.lookup x=some c->c≠b)/\∀p∈X.pn++P,p.1≠b) :
  Inv X P f g { s with heap:=h',gens:=g',drawn:=d',toks:=t' }:=by
 obtain⟨m,⟨o,B,A,q,r⟩,_⟩:=id I.loc;obtain⟨E,k⟩:=u.any q I.free λz=>(a _ z).2.1 rfl;exact I.step (ch:=ch) a (λb o k t h e n=>u.keep b o e n (λz=>(aw.mp (I.stkSub b z)).elim k t) h) (λb o _ _ h e n=>u.any e n h) (λb o h e n=>u.free b o e n h) (λb o h e=>u.there b o e h) u.tups u.frzs u.tbls (λC w=>by
  obtain⟨D,j,i,d,y⟩:=w;rw[q]at d;cases d;exact⟨_,j,i,k,y⟩) l v
def Inv.turned {t':Nat}{i:Addr}(I:Inv X P f H s)(k:∀b o,b≠i->s.heap.get? b=some o->h'.get? b=some o)(C:H i=none)(d:i≠X.env.locals)
  (t:i∈X.ex\/X.s₀.heap.objs.size<=i) (w:∀x c,X.env.cells.lookup x=some c->c≠i) (y:∀p∈X.pn++P,p.1≠i):Inv X P f H { s with heap:=h',toks:=t' }:=by
 have a:∀b u,H b=some u->b≠i:=λb u e z=>by rw[z,C]at e;cases e
 refine I.step (g':=s.gens) (d':=s.drawn) (ch:=[i]) (λb A=>?_) (λb o _ _ h e _=>k b o (λz=>h (by simp[z])) e) (λb o _ _ h e _=>⟨o.slots,k b o (λz=>h (by simp[z])) e⟩) (λ_ _ _ _ n=>n)
  (λb o h e=>⟨o,k b o (λz=>h (by simp[z])) e⟩) (λ_ _ e=>e) (λ_ _ _ e=>e) (λb E e=>⟨#[],by rw[e];simp⟩) (λm B=>?_) (λb u e=>?_) I.bare
 .have e:b=i:=by simpa using A
  subst e;exact⟨t,d,w,y⟩
 .obtain⟨o,l,j,D,r⟩:=B;exact⟨o,l,j,k _ o (br d) D,r⟩
 .refine(I.hok b u e).stay (λc v h q=>k c v ?_ q) (λ_ q=>q) λ_ _ q=>q;rcases h with z|z
  .rw[z];exact a b u e
  .exact a c _ z
def Inv.tok (I:Inv X P f H s)(t:Nat):Inv X P f H { s with toks:=t }:=I.un (h':=s.heap) (t':=t) Un.refl I.hok
def Inv.kept (I:Inv X P f H s)(k:∀b u,s.heap.get? b=some u->h'.get? b=some u):Inv X P f H { s with heap:=h',toks:=t' }:=I.un (Un.kept k) (I.hok.kept k)
def Inv.laid {a:Addr}{o:HO}{t':Nat}(I:Inv X P f H s)(k:∀b u,s.heap.get? b=some u->h'.get? b=some u)(h:s.heap.objs.size<=a)(new:ObjOk X.prog X.w (upd H a o) h' a o) :
  Inv X P f (upd H a o) { s with heap:=h',toks:=t' }:=I.un (Un.laid k h (I.hok.fresh h)) (I.hok.laid k h new)
def Inv.write (I:Inv X P f H s)(m:Mut (H x))(he:e=x\/H e=some (.own x))(k:∀b u,b≠e->s.heap.get? b=some u->h'.get? b=some u)(h:∃u,h'.get? e=some u)
  (new:ObjOk X.prog X.w (upd H x o) h' x o):Inv X P f (upd H x o) { s with heap:=h',toks:=t' }:=I.un (Un.write m he k h) (I.hok.write m he k h new)
def Inv.weak (I:Inv X P f H s)(hl:σ'.length=f.length)(w:∀(i:Nat) v,σ'[i]?=some (some v)->f[i]?=some (some v)):Inv X P σ' H s:=
 ⟨I.ok,I.os,I.bare,I.base,let ⟨m,hn,hl'⟩:=I.loc;⟨m,hn,λi x v e a b=>hl' i x v e (w i v a) b⟩,I.cell,I.free,I.freeC,I.pin,I.hok,hl.trans I.len⟩
def Inv.pins_of (I:Inv X P f H s)(h:∀p∈pins',s.heap.get? p.1=some p.2/\H p.1=none/\p.1≠X.env.locals/\p.1∉X.fs/\∀v,p.2.data ≠ .cell v):Inv X pins' f H s:=
 ⟨I.ok,I.os,I.bare,I.base,I.loc,I.cell,I.free,I.freeC,λp a=>(aZ.mp a).elim (λz=>I.pin p (bV _ z)) (h p),I.hok,I.len⟩
def nodup_ix {N:Ls}(h:N.Nodup){i j:Nat}{x:Str}(a:N[i]?=some x)(b:N[j]?=some x):i=j:=by obtain⟨d,e⟩:=aC.mp a;obtain⟨k,c⟩:=aC.mp b;exact(List.getElem_inj h).mp (e.trans c.symm)
def store_ok2 {M:Model}{A:Around}{E:Value->Shared->Prop}{i:Nat}{x:Str}{v:V}{u:Value}{Q:Unit->Shared->Prop}(I:Inv X P f H s)(hN:X.N.Nodup)(T:X.N[i]?=some x)(C:Loc X.env.scope x)(r:RelV v u)
  (h:∀s',Inv X P (f.set i (some v)) H s' -> (∃a,Heap.SameBut a s.heap s'.heap/\(a=X.env.locals\/X.env.cells.lookup x=some a))->Q () s') (hf:X.fn x=true\/X.env.scope.names.lookup x=some .local:=by walk_at "w"):wpAny M A (storeName X.env x u) Q E s:=by
 obtain⟨m,hn,hl⟩:=id I.loc;have S:(X.env.scope.kind == .class || (X.env.scope.kind == .module && X.env.locals != X.env.globals))=false:=by rw[I.ok.kind];rfl
 have G:i<f.length:=by rw[I.len];exact(aC.mp T).1
 have cne:=I.cne;have w:∀{a:Addr} {h':Heap},(∃o,s.heap.get? a=some o/\H a=none)->Heap.SameBut a s.heap h' -> HOk X.prog X.w H h':=λ{a h'} ha l b ob e=>by
  obtain⟨_,_,D⟩:=ha;refine(I.hok b ob e).stay (λc w' B q=>(l.2 c ?_).trans q) (λ_ q=>q) λ_ _ q=>q;rintro rfl;rcases B with rfl|B
  .rw[D]at e;cases e
  .rw[D]at B;cases B
 rcases C with hk|hk
 .refine wpAny_storeName_local hk hn (λh' hn' l=>?_) S;obtain⟨oL,_,_,hoL,_⟩:=id hn;refine h _ ⟨I.ok,I.os,I.bare,⟨λb o e n J C=>?_,λb o e n J C=>?_,I.base.free,λb o e C=>?_,I.base.tups,I.base.frzs,I.base.tbls⟩,⟨_,hn',λj y v' t F e3=>?_⟩,λy c e=>?_,I.free,I.freeC,λp hp=>?_,w ⟨oL,hoL,I.free⟩ l,by simpa using I.len⟩ ⟨_,l,.inl rfl⟩
  .exact(l.2 b (aX (aN (ay e) I.ok.above))).trans (I.base.keep b o e n J C)
  .obtain⟨sl,t⟩:=I.base.slot b o e n J C;exact⟨sl,(l.2 b (aX (aN (ay e) I.ok.above))).trans t⟩
  .obtain⟨o',t⟩:=I.base.there b o e C;exact⟨o',(l.2 b (aX (aN (ay e) I.ok.above))).trans t⟩
  .by_cases N:j=i
   .subst N;rw[T]at t;cases t;rw[gN G]at F;cases F;exact⟨u,r,.inl ⟨hk,by simp⟩⟩
   .rw[bJ (br N)]at F;obtain⟨u',r',q⟩:=hl j y v' t F e3;refine⟨u',r',?_⟩;rcases q with⟨k,e⟩|⟨k,c,e,z⟩
    .refine .inl ⟨k,?_⟩;have:y≠x:=λe=>N (nodup_ix hN t (e ▸ T));simp[this,e]
    .exact .inr ⟨k,c,e,z.sameBut l (cne y c e)⟩
  .obtain⟨w',z⟩:=I.cell y c e;exact⟨w',z.sameBut l (cne y c e)⟩
  .obtain⟨e,n,ne,nf,d⟩:=I.pin p hp;exact⟨(l.2 p.1 ne).trans e,n,ne,nf,d⟩
 .have L:X.fn x=true:=by
   rcases hf with z|z
   .exact z
   .rw[z]at hk;cases hk
  obtain⟨c,B⟩:=I.ok.has x (.inl hk);obtain⟨w',z⟩:=I.cell x c B;refine wpAny_storeName_cell I.ok.kind hk B z (λh' O l=>?_);obtain⟨oc,U,Y⟩:=id z;refine h { s with heap:=h' } ⟨I.ok,I.os,I.bare,⟨λb o e n J C=>?_,λb o e n J C=>?_,I.base.free,λb o e C=>?_,I.base.tups,I.base.frzs,I.base.tbls⟩,⟨m,hn.sameBut l (br (cne x c B)),λj y v' t F e3=>?_⟩,λy Z e=>?_,I.free,I.freeC,λp hp=>?_,w ⟨oc,U,I.freeC x c B⟩ l,by simpa using I.len⟩ ⟨c,l,.inr B⟩
  .exact(l.2 b (aX (aN (ay e) (I.ok.cab x c L B)))).trans (I.base.keep b o e n J C)
  .obtain⟨sl,t⟩:=I.base.slot b o e n J C;exact⟨sl,(l.2 b (aX (aN (ay e) (I.ok.cab x c L B)))).trans t⟩
  .obtain⟨o',t⟩:=I.base.there b o e C;exact⟨o',(l.2 b (aX (aN (ay e) (I.ok.cab x c L B)))).trans t⟩
  .by_cases N:j=i
   .subst N;rw[T]at t;cases t;rw[gN G]at F;cases F;exact⟨u,r,.inr ⟨.inl hk,c,B,O⟩⟩
   .rw[bJ (br N)]at F;obtain⟨u',r',q⟩:=hl j y v' t F e3;refine⟨u',r',?_⟩;rcases q with q|⟨k,Z,e,z'⟩
    .exact .inl q
    .refine .inr ⟨k,Z,e,z'.sameBut l ?_⟩;rintro rfl;exact N (nodup_ix hN t (I.ok.inj _ _ _ e B ▸ T))
  .by_cases R:Z=c
   .subst R;exact⟨_,O⟩
   .obtain⟨w2,z2⟩:=I.cell y Z e;exact⟨w2,z2.sameBut l R⟩
  .obtain⟨e,n,ne,nf,d⟩:=I.pin p hp;refine⟨(l.2 p.1 ?_).trans e,n,ne,nf,d⟩;intro q;rw[q,U]at e;have q':oc=p.2:=aD e;exact d w' (by rw[<- q'];exact Y)
def store_ok (I:Inv X P f H s)(b:X.N.Nodup)(d:X.N[i]?=some x)(e:Loc X.env.scope x)(r:RelV v u)
  (h:∀s',Inv X P (f.set i (some v)) H s' -> Q () s') (c:X.fn x=true\/X.env.scope.names.lookup x=some .local:=by walk_at "w"):wpAny M A (storeName X.env x u) Q E s:=
 store_ok2 I b d e r (λs' a _=>h s' a) c
def Inv.call' (I:Inv X P f H s)(i:s'.os=s.os)(u:Un (frs X.stack) ch H g s.heap s'.heap)(a:HOk X.prog X.w g s'.heap)(d:AllBare s'.gens)
  (h:∀b∈ch,(b∈X.ex\/X.s₀.heap.objs.size<=b)/\b≠X.env.locals/\(∀x c,X.env.cells.lookup x=some c->c≠b)/\∀p∈X.pn++P,p.1≠b):Inv X P f g s':=by
 obtain⟨h',g',d',t',o⟩:=s';have e:o=s.os:=i;subst e;exact I.call (g':=g') (t':=t') (d':=d') u a d h
end
abbrev St:=List (Option V)
abbrev TE:=St->Hp->VK->Prop
abbrev TT:=St->Hp->(Bool->Hp->Prop)->Prop
abbrev TA:=St->Hp->(List V->Hp->Prop)->Prop
structure Ends where
 nx:St->Hp->Prop
 rt:VK
 bk:St->Hp->Prop:=λ_ _=>False
 ct:St->Hp->Prop:=λ_ _=>False
abbrev TS:=Ends->St->Hp->Prop
def EP (X:Cx)(p:List (Addr×Obj))(a:St)(Q:VK)(u:Value)(s':Shared):Prop:=∃v h,Inv X p a h s'/\RelV v u/\Q v h
def TP (X:Cx)(p:List (Addr×Obj))(a:St)(Q:Bool->Hp->Prop)(b:Bool)(s':Shared):Prop:=∃h,Inv X p a h s'/\Q b h
def AP (X:Cx)(p:List (Addr×Obj))(a:St)(Q:List V->Hp->Prop)(us:List Value)(s':Shared):Prop:=∃v h,Inv X p a h s'/\Vals v us/\Q v h
def SP (X:Cx)(p:List (Addr×Obj))(D:Ends)(f:Flow)(s':Shared):Prop:=
 match f with
 | .next=>∃a h,Inv X p a h s'/\D.nx a h
 | .brk=>∃a h,Inv X p a h s'/\D.bk a h
 | .cont=>∃a h,Inv X p a h s'/\D.ct a h
 | .ret u=>∃v a h,Inv X p a h s'/\RelV v u/\D.rt v h
def PE (X:Cx)(e:Expr)(t:TE):Prop:=
 ∀(p:List (Addr×Obj)) (s:Shared) (σ:St) (H:Hp) (Q:VK),Inv X p σ H s->t σ H Q->wpAny (model X.prog X.w) X.A (eval e X.env) (EP X p σ Q) X.xe s
def PT (X:Cx)(e:Expr)(t:TT):Prop:=
 ∀(p:List (Addr×Obj)) (s:Shared) (σ:St) (H:Hp) (Q:Bool->Hp->Prop),Inv X p σ H s->t σ H Q->wpAny (model X.prog X.w) X.A (isTrue e X.env (eval e X.env)) (TP X p σ Q) X.xe s
def PW (X:Cx)(e:Expr)(t:TT):Prop:=
 ∀(w:Sem Value) (pins:List (Addr×Obj)) (s:Shared) (σ:St) (H:Hp) (Q:Bool->Hp->Prop),Inv X pins σ H s->t σ H Q->wpAny (model X.prog X.w) X.A (isTrue e X.env w) (TP X pins σ Q) X.xe s
def PW.pt (h:PW X e t):PT X e t:=h _
def PA (X:Cx)(e:List Expr)(t:TA):Prop:=
 ∀(p:Pos) (pins:List (Addr×Obj)) (s:Shared) (σ:St) (H:Hp) (Q:List V->Hp->Prop),Inv X pins σ H s->t σ H Q->wpAny (model X.prog X.w) X.A (spliced (backTo p (starEach e X.env))) (AP X pins σ Q) X.xe s
def PS (X:Cx)(st:Stmt)(t:TS):Prop:=
 ∀(p:List (Addr×Obj)) (s:Shared) (σ:St) (H:Hp) (D:Ends),Inv X p σ H s->t D σ H->wpAny (model X.prog X.w) X.A (exec st X.env) (SP X p D) X.xe s
def PSs (X:Cx)(st:List Stmt)(t:TS):Prop:=
 ∀(p:List (Addr×Obj)) (s:Shared) (σ:St) (H:Hp) (D:Ends),Inv X p σ H s->t D σ H->wpAny (model X.prog X.w) X.A (execs st X.env) (SP X p D) X.xe s
def thn {b:Type}{t:Sem b}{Q q:b->Shared->Prop}{M:Model}{A:Around}{E:Value->Shared->Prop}{s:Shared}(h:wpAny M A t Q E s)(c:∀a s,Q a s->q a s):wpAny M A t q E s:=cU h c λ_ _ x=>x
section
variable {X:Cx}
def tVar (i:Nat):TE:=λa H Q=>∃v,a[i]?=some (some v)/\Q v H
def tC (v:V):TE:=λ_ H Q=>Q v H
def pe_var (j:X.N[i]?=some x)(q:Vis X.env.scope x)(f:(x == ("__debug__":Str))=false:=by decide)(d:(x == ("__classdict__":Str))=false:=by decide):PE X (.Name x pos) (tVar i):=by
 rintro p s t H Q I ⟨v,e,h⟩;obtain⟨m,o,k⟩:=I.loc;obtain⟨u,r,l⟩:=k i x v j e q;have fin:EP X p t Q u s:=⟨v,H,I,r,h⟩;rcases l with⟨b,n⟩|⟨b,c,g,a⟩
 .exact hJ (dG I.ok.kind b o n fin) f
 .rcases b with b|b
  .exact hJ (wpAny_loadName_cell I.ok.kind b g a fin) f
  .exact hJ (wpAny_loadName_free I.ok.kind b g a fin d) f
def pe_int:PE X (.Constant (.int i) j pos) (tC (.int i)):=λ_ _ _ H _ I h=>fS ⟨.int i,H,I.tok _,⟨_,rfl⟩,h⟩
def pe_bl:PE X (.Constant (.bool b) j pos) (tC (.bl b)):=λ_ _ _ H _ I h=>Constant_bool ⟨.bl b,H,I,rfl,h⟩
def pe_non:PE X (.Constant .none j pos) (tC .non):=λ_ _ _ H _ I h=>Constant_none ⟨.non,H,I,rfl,h⟩
def pe_str:PE X (.Constant (.str x) j pos) (tC (.str x)):=λ_ _ _ H _ I h=>cn ⟨.str x,H,I.tok _,⟨_,rfl⟩,h⟩
def Gl (X:Cx)(x:Str):Prop:=X.env.kindOf x=some .globalImplicit
def ld_glob (I:Inv X p d H s)(b:Gl X x)(c:X.mg x=some u)(h:Q u s)
  (a:(x == ("__debug__":Str))=false:=by decide):wpAny (model X.prog X.w) X.A (eval (.Name x pos) X.env) Q E s:=
 dE I.ok.kind b (Calls.loadGlobal_global (by rw[I.ok.glob];exact I.mod.glob.keeps I.bk) c h) a
def ld_blt (I:Inv X p i H s)(d:Gl X x)(e:X.mg x=none)(g:bootBuiltins x=some u)(h:Q u s)
  (f:x≠"__name__":=by decide) (c:(x == ("__debug__":Str))=false:=by decide):wpAny (model X.prog X.w) X.A (eval (.Name x pos) X.env) Q E s:=by
 obtain⟨m,a,b⟩:=I.mod.blt;exact dE I.ok.kind d (Calls.loadGlobal_builtin (by rw[I.ok.glob];exact I.mod.glob.keeps I.bk) e (by rw[I.ok.blt];exact a.keeps I.bk) ((b x f).trans g) h) c
def pe_glob (b:Gl X x)(c:X.mg x=some u)(r:RelV v u)(a:(x == ("__debug__":Str))=false:=by decide):PE X (.Name x pos) (tC v):=
 λ_ _ _ H _ I h=>ld_glob I b c ⟨v,H,I,r,h⟩ a
def pe_bltn (b:Gl X x)(c:X.mg x=none)(e:bootBuiltins x=some u)(r:RelV v u)(d:x≠"__name__":=by decide)(a:(x == ("__debug__":Str))=false:=by decide):PE X (.Name x pos) (tC v):=
 λ_ _ _ H _ I h=>ld_blt I b c e ⟨v,H,I,r,h⟩ d a
variable {a b:Expr}{f k:TE}{pos:Pos}
def tB (t:TE):TT:=λd H Q=>t d H λx h=>∃c,x=.bl c/\Q c h
def pt_val (h:PE X e t)(he:∀w,isTrue e X.env w=(do let v <- w;standAt e.pos;holding [v] (truthy v)):=by intro _;rfl):PT X e (tB t):=by intro p s l H Q I g;refine isTrue_plain (thn (h p s l H _ I g) λv m ⟨x,c,i,r,j⟩=>?_) (he _);obtain⟨d,rfl,q⟩:=j;cases r;exact cD ⟨c,i,q⟩
variable {T g:TT}{rest:List Expr}
def tAnd (t u:TT):TT:=λd H Q=>t d H λc h=>if c=true then u d h Q else Q false h
def tOr (t u:TT):TT:=λd H Q=>t d H λc h=>if c=true then Q true h else u d h Q
def tNot (t:TT):TT:=λd H Q=>t d H λc h=>Q (!c) h
def pw_and1 (d:PT X a T):PW X (.BoolOp .And [a] pos) T:=by
 intro w p s i H Q I h;refine isTrue_and (thn (d p s i H Q I h) λc j e=>?_);cases c with
 |true=>exact isTrue_and_nil e
 |false=>exact e
def pw_or1 (d:PT X a T):PW X (.BoolOp .Or [a] pos) T:=by
 intro w p s i H Q I h;refine isTrue_or (thn (d p s i H Q I h) λc j e=>?_);cases c with
 |false=>exact isTrue_or_nil e
 |true=>exact e
def pw_and (j:PT X a T)(l:PW X (.BoolOp .And (b::rest) pos) g):PW X (.BoolOp .And (a::b::rest) pos) (tAnd T g):=by
 intro w p s e H Q I h;refine isTrue_and (thn (j p s e H _ I h) λc m ⟨d,i,q⟩=>?_);cases c with
 |true=>exact l w p m e d Q i q
 |false=>exact⟨d,i,q⟩
def pw_or (j:PT X a T)(l:PW X (.BoolOp .Or (b::rest) pos) g):PW X (.BoolOp .Or (a::b::rest) pos) (tOr T g):=by
 intro w p s e H Q I h;refine isTrue_or (thn (j p s e H _ I h) λc m ⟨d,i,q⟩=>?_);cases c with
 |true=>exact⟨d,i,q⟩
 |false=>exact l w p m e d Q i q
def pt_not (e:PT X a T):PT X (.UnaryOp .Not a pos) (tNot T):=by intro p s i H Q I h;exact isTrue_not (e p s i H (λc d=>Q (!c) d) I h)
def tAndV (f k:TE):TE:=λd H Q=>f d H λx h=>∃c,x=.bl c/\if c=true then k d h Q else Q (.bl false) h
def tNotV (f:TE):TE:=λd H Q=>f d H λx h=>∃c,x=.bl c/\Q (.bl (!c)) h
def pe_one (h:PE X a t):PE X (.BoolOp op [a] pos) t:=λp s d H Q I c=>BoolOp_one (h p s d H Q I c)
def pe_and (j:PE X a f)(l:PE X (.BoolOp .And (b::rest) pos) k):PE X (.BoolOp .And (a::b::rest) pos) (tAndV f k):=by
 intro p s e H Q I h;refine BoolOp_and (thn (j p s e H _ I h) λv m ⟨x,d,i,r,q⟩=>?_);obtain⟨c,rfl,q⟩:=q;cases r;refine cD ?_;cases c with
 |true=>exact l p m e d Q i q
 |false=>exact⟨.bl false,d,i,rfl,q⟩
def pe_not (e:PE X a f):PE X (.UnaryOp .Not a pos) (tNotV f):=by intro p s j H Q I h;refine UnaryOp_ (thn (e p s j H _ I h) λv l ⟨x,d,i,r,q⟩=>?_);obtain⟨c,rfl,q⟩:=q;cases r;exact not_of (cD ⟨.bl (!c),d,i,rfl,q⟩)
def tIf (t:TT)(f k:TE):TE:=λd H Q=>t d H λc h=>if c=true then f d h Q else k d h Q
def pe_ifExp (o:PT X c T)(m:PE X a f)(n:PE X b k):PE X (.IfExp c a b pos) (tIf T f k):=by
 intro p s e H Q I h;refine wpAny_IfExp (thn (o p s e H _ I h) λd l ⟨i,j,q⟩=>?_);cases d with
 |true=>exact m p l e i Q j q
 |false=>exact n p l e i Q j q
end
def SqT (K:Fg)(H:Hp)(a:Addr)(xs:List V):Prop:=
 Rd H a (.tup xs) \/
  ∃(o:Obj) (i:Array Value) (n:Nat),K.lookup a=some o/\o.cls=.type "tuple"/\o.data=.seq i n/\i.size<=sizeLine/\Vals xs i.toList
def absV:Value->Option V
 | .none=>some .non
 | .bool b=>some (.bl b)
 | .int i _=>some (.int i)
 | .str x _=>some (.str x)
 | .bytes b _=>some (.byt b)
 | .float b _=>some (.flt b)
 | .ref a=>some (.ref a)
 | .type n=>some (.ty n)
 |_=>none
def RelV.abs (r:RelV x u):absV u=some x:=by
 cases x with
 |non=>cases r;rfl
 |bl _=>cases r;rfl
 |int _=>obtain⟨t,rfl⟩:=r;rfl
 |str _=>obtain⟨t,rfl⟩:=r;rfl
 |byt _=>obtain⟨t,rfl⟩:=r;rfl
 |flt _=>obtain⟨t,rfl⟩:=r;rfl
 |ref _=>cases r;rfl
 |ty _=>cases r;rfl
def RelV.inj (r:RelV x u)(q:RelV y u):x=y:=aD (r.abs.symm.trans q.abs)
def Vals.inj:∀{xs y:List V} {us:Lv},Vals xs us->Vals y us->xs=y
 |_,_,_,.nil,.nil=>rfl
 |_,_,_,.cons r t,.cons r' t'=>by rw[r.inj r',Vals.inj t t']
section
variable {X:Cx}{P:List (Addr×Obj)}{b:St}{H:Hp}{s:Shared}{a:Addr}{xs y:List V}
def SqL.of {K:Fg}(h:H a=some (.lst xs)):SqL K H a xs:=.inl (.inl h)
def SqT.of {K:Fg}(h:H a=some (.tup xs)):SqT K H a xs:=.inl (.inl h)
def Inv.list (I:Inv X P b H s)(h:SqL X.K H a xs):∃its:List Value,Vals xs its/\PlainL s.heap a its.toArray/\xs.length<=sizeLine:=by
 rcases h with h|⟨o,its,n,hk,hc,hd,hs,hz,r⟩
 .obtain⟨z,its,n,r,e⟩:=h.ok I.hok;exact⟨its,r,⟨_,n,e,rfl,rfl,rfl⟩,z⟩
 .refine⟨its.toList,r,⟨o,n,I.kIn a o hk,hc,hd,by simpa using hs⟩,?_⟩;have e:=r.length;simp only[aY]at e;lia
def Inv.tuple (I:Inv X P b H s)(h:SqT X.K H a xs):∃its:List Value,Vals xs its/\IsTup s.heap a its.toArray/\xs.length<=sizeLine:=by
 rcases h with h|⟨o,its,n,hk,hc,hs,hz,r⟩
 .obtain⟨z,its,r,p⟩:=h.ok I.hok;exact⟨its,r,p,z⟩
 .refine⟨its.toList,r,⟨o,I.kIn a o hk,hc,n,by simpa using hs⟩,?_⟩;have e:=r.length;simp only[aY]at e;lia
def Inv.list_inj (I:Inv X P b H s)(h:SqL X.K H a xs)(h':SqL X.K H a y):xs=y:=by
 obtain⟨c,r,⟨o,n,e,_,_,d⟩,_⟩:=I.list h;obtain⟨i,j,⟨l,k,g,_,_,f⟩,_⟩:=I.list h';rw[e]at g;cases g;rw[d]at f;injection f with d1 _;have:c=i:=by simpa using congrArg Array.toList d1
 subst this;exact r.inj j
end
abbrev Cx.wish (X:Cx)(E:Value->Shared->Prop):Cx:={ X with xe:=E }
abbrev Cx.nox (X:Cx):Cx:=X.wish λ_ _=>False
def Cx.Ok.wish {X:Cx}(ok:X.Ok)(E:Value->Shared->Prop):(X.wish E).Ok:=
 ⟨ok.mod,ok.kind,ok.glob,ok.blt,ok.above,ok.inj,ok.has,ok.cab,ok.hd,ok.frames,ok.stk,ok.exf,ok.bs,ok.bsz,ok.noex,ok.exfs,ok.funs,ok.frf⟩
def Cx.Ok.unwish {X:Cx}{E:Value->Shared->Prop}(ok:(X.wish E).Ok):X.Ok:=
 ⟨ok.mod,ok.kind,ok.glob,ok.blt,ok.above,ok.inj,ok.has,ok.cab,ok.hd,ok.frames,ok.stk,ok.exf,ok.bs,ok.bsz,ok.noex,ok.exfs,ok.funs,ok.frf⟩
section
variable {X:Cx}{p:List (Addr×Obj)}{a:St}{H:Hp}{s:Shared}{E:Value->Shared->Prop}
def Inv.wish (I:Inv X p a H s)(E:Value->Shared->Prop):Inv (X.wish E) p a H s:=⟨I.ok.wish E,I.os,I.bare,I.base,I.loc,I.cell,I.free,I.freeC,I.pin,I.hok,I.len⟩
def Inv.unwish (I:Inv (X.wish E) p a H s):Inv X p a H s:=⟨I.ok.unwish,I.os,I.bare,I.base,I.loc,I.cell,I.free,I.freeC,I.pin,I.hok,I.len⟩
def SP.unwish (h:SP (X.wish E) p D f s'):SP X p D f s':=by
 cases f with
 |next=>obtain⟨b,c,I,q⟩:=h;exact⟨b,c,I.unwish,q⟩
 |brk=>obtain⟨b,c,I,q⟩:=h;exact⟨b,c,I.unwish,q⟩
 |cont=>obtain⟨b,c,I,q⟩:=h;exact⟨b,c,I.unwish,q⟩
 |ret u=>obtain⟨v,b,c,I,r,q⟩:=h;exact⟨v,b,c,I.unwish,r,q⟩
def PSs.nox {st:List Stmt}{t:TS}(h:PSs X.nox st t):PSs X st t:=λp s a H D I b=>
 cU (h p s a H D (I.wish _) b) (λ_ _ q=>q.unwish) λ_ _ z=>False.elim z
end
section
variable {X:Cx}{st:Stmt}{rest:List Stmt}{t u:TS}{e:Expr}{T:TE}{pos:Pos}
def tNext:TS:=λD a H=>D.nx a H
def tSeq (t u:TS):TS:=λD a H=>t { D with nx:=u D } a H
def pss_nil:PSs X [] tNext:=λ_ _ a H _ I h=>dZ ⟨a,H,I,h⟩
def pss_cons (c:PS X st t)(d:PSs X rest u):PSs X (st::rest) (tSeq t u):=by
 intro p s j H D I h;refine wpAny_execs_cons (thn (c p s j H { D with nx:=u D } I h) λf g q=>?_);cases f with
 |next=>obtain⟨a,b,i,q⟩:=q;exact d p g a b D i q
 |ret v=>exact q
 |brk=>exact q
 |cont=>exact q
def pss_one (a:PS X st t):PSs X [st] t:=by
 intro p s b H D I h;refine wpAny_execs_cons (thn (a p s b H D I h) λf c q=>?_);cases f with
 |next=>exact dZ q
 |ret v=>exact q
 |brk=>exact q
 |cont=>exact q
def Inv.quiet (I:Inv X p a H s):interactive X.env=false:=by simp[interactive,I.ok.kind]
def tDrop (T:TE):TS:=λD a H=>T a H λ_ h=>D.nx a h
def ps_expr (he:PE X e T)(c:swapsWith e none pos.line X.env=pure false:=by rfl):PS X (.Expr e pos) (tDrop T):=by intro p s a H D I h;exact wpAny_Expr_any (thn (he p s a H _ I h) λv d ⟨x,b,i,r,q⟩=>⟨a,b,i,q⟩) I.quiet c
def tRet (T:TE):TS:=λD a H=>T a H D.rt
def ps_ret (he:PE X e T):PS X (.Return (some e) pos) (tRet T):=by intro p s a H D I h;exact wpAny_Return_some (thn (he p s a H _ I h) λv c ⟨x,b,i,r,q⟩=>⟨x,a,b,i,r,q⟩)
def tIfS (c:TT)(t u:TS):TS:=λD a H=>c a H λb h=>if b=true then t D a h else u D a h
def ps_if (m:PT X c tc)(k:PSs X a t)(l:PSs X b u):PS X (.If c a b pos) (tIfS tc t u):=by
 intro p s f H D I h;refine wpAny_If (thn (m p s f H _ I h) λd j ⟨g,i,q⟩=>?_);cases d with
 |true=>exact k p j f g D i q
 |false=>exact l p j f g D i q
def tNever:TS:=λ_ _ _=>False
def ps_never:PS X st tNever:=λ_ _ _ _ _ _ h=>h.elim
end
abbrev TG:=V->St->Hp->(St->Hp->Prop)->Prop
abbrev TGs:=List V->St->Hp->(St->Hp->Prop)->Prop
def PG (X:Cx)(a:Expr)(t:TG):Prop:=
 ∀(p:List (Addr×Obj)) (s:Shared) (σ:St) (H:Hp) (v:V) (u:Value) (Q:St->Hp->Prop),Inv X p σ H s->RelV v u->t v σ H Q ->
  wpAny (model X.prog X.w) X.A (assign a X.env u) (λ_ c=>∃b h,Inv X p b h c/\Q b h) X.xe s
def PGs (X:Cx)(ts:List Expr)(t:TGs):Prop:=
 ∀(p:List (Addr×Obj)) (s:Shared) (σ:St) (H:Hp) (vs:List V) (us:List Value) (Q:St->Hp->Prop),Inv X p σ H s->Vals vs us->t vs σ H Q ->
  wpAny (model X.prog X.w) X.A (assignInOrder ((assignEach ts X.env).map (·.2)) us) (λ_ b=>∃a h,Inv X p a h b/\Q a h) X.xe s
abbrev TSet:=V->V->V->Hp->(Hp->Prop)->Prop
def PSet (X:Cx)(t:TSet):Prop:=
 ∀(p:List (Addr×Obj)) (s:Shared) (σ:St) (H:Hp) (o i v:V) (ov iv u:Value) (Q:Hp->Prop),Inv X p σ H s->RelV o ov->RelV i iv->RelV v u->t o i v H Q ->
  wpAny (model X.prog X.w) X.A (setItem ov iv u) (λ_ a=>∃h,Inv X p σ h a/\Q h) X.xe s
abbrev TIp:=V->V->Hp->VK->Prop
def PIp (X:Cx)(op:Operator)(t:TIp):Prop:=
 ∀(p:List (Addr×Obj)) (s:Shared) (σ:St) (H:Hp) (x y:V) (v u:Value) (Q:VK),Inv X p σ H s->RelV x v->RelV y u->t x y H Q ->
  wpAny (model X.prog X.w) X.A (inplaceOp op v u) (EP X p σ Q) X.xe s
section
variable {X:Cx}{pos:Pos}
def gName (i:Nat):TG:=λv a H Q=>Q (a.set i (some v)) H
def pg_name (b:X.N.Nodup)(d:X.N[i]?=some x)(e:Loc X.env.scope x)(c:X.fn x=true\/X.env.scope.names.lookup x=some .local:=by walk_at "w"):PG X (.Name x pos) (gName i):=by intro p s g H v u Q I r h;exact wpAny_assign_Name (store_ok I b d e r (λf a=>⟨_,H,a,h⟩) c)
def gNil:TGs:=λv a H Q=>v=[]/\Q a H
def gCons (t:TG)(u:TGs):TGs:=λb c H Q=>∃v r,b=v::r/\t v c H λa h=>u r a h Q
def pgs_nil:PGs X [] gNil:=by rintro p s a H v u Q I r ⟨e,h⟩;subst e;cases r;exact assignInOrder_nil ⟨a,H,I,h⟩
def pgs_cons (f:PG X e t)(g:PGs X a u)
  (j:(assignEach (e::a) X.env).map (·.2)=assign e X.env::(assignEach a X.env).map (·.2):=by rfl):PGs X (e::a) (gCons t u):=by
 rintro p s m H w n Q I r ⟨v,o,d,h⟩;subst d;cases r with
 |cons r k=>rw[j];refine assignInOrder_cons (thn (f p s m H _ _ _ I r h) λ_ l ⟨b,c,i,q⟩=>?_);exact g p l b c _ _ Q i k q
def gTup (K:Fg)(n:Nat)(t:TGs):TG:=λv b H Q=>∃a xs,v=.ref a/\SqT K H a xs/\xs.length=n/\t xs b H Q
def pg_tup (q:X.calm=true)(h:PGs X c t)
  (x:(assignEach c X.env).length=n:=by rfl) (d:(assignEach c X.env).findIdx? (·.1)=none:=by rfl):PG X (.Tuple c k pos) (gTup X.K n t):=by
 rintro p s i H v u Q I r ⟨a,xs,l,y,w,f⟩;subst l;cases r;obtain⟨B,g,z,C⟩:=I.tuple y;refine assign_Tuple_tuple (I.ok.hd q) z (by simp[x,<- w,g.length]) d λm A=>?_;have j:Inv X p i H { s with heap:=m }:=I.kept (t':=s.toks) λb o e=>A b o (aX (ay e)) e;exact h p _ i H xs _ Q j (by simpa using g) f
def gSub (to d:TE)(t:TSet):TG:=λv a H Q=>to a H λo h=>d a h λi b=>t o i v b λc=>Q a c
def pg_sub (n:PE X o to)(m:PE X i ti)(q:PSet X t)
  (l:∀v,assign (.Subscript o i pos) X.env v=(do
   let a <- holding [v] (eval o X.env)
   let b <- holding [v,a] (eval i X.env)
   standAt pos
   holding [v,a,b] (setItem a b v)
   release [v,a,b] []):=by intro _;rfl):PG X (.Subscript o i pos) (gSub to ti t):=by
 intro p s c H v u Q I r h;rw[l];refine ac (bE (thn (n p s c H _ I h) λa D ⟨x,d,g,B,w⟩=>?_));refine ac (bE (thn (m p D c d _ g w) λb E ⟨y,e,j,C,z⟩=>?_));refine ac (fq (ac (bE (thn (q p E c e x y v a b u _ j B C r z) λ_ F ⟨f,k,A⟩=>?_))));exact wpAny_release ⟨c,f,k,A⟩
def tAsg (t:TE)(g:TG):TS:=λD a H=>t a H λx h=>g x a h D.nx
def ps_asg (he:PE X e m)(d:PG X t g)(f:swapsWithSole [t] e pos.line X.env=pure false:=by rfl)(j:swappedStores [t] e X.env=pure none:=by rfl)
  (c:(assignEach [t] X.env).map (·.2)=[assign t X.env]:=by rfl):PS X (.Assign [t] e pos) (tAsg m g):=by
 intro p s a H D I h;refine wpAny_Assign_stores (thn (he p s a H _ I h) λv l ⟨x,b,i,r,k⟩=>?_) f j;rw[c];exact thn (d p l a b x v _ i r k) λ_ n q=>q
def ps_set (f:X.N.Nodup)(j:X.N[i]?=some x)(l:Loc X.env.scope x)(he:PE X e t)(k:swapsWith e (some (.Name x a)) pos.line X.env=pure false:=by rfl)(g:X.fn x=true\/X.env.scope.names.lookup x=some .local:=by walk_at "w") :
  PS X (.Assign [.Name x a] e pos) (tAsg t (gName i)):=by
 intro p s m H D I h;refine wpAny_Assign_Name (thn (he p s m H _ I h) λv n ⟨y,b,c,r,q⟩=>?_) k;exact store_ok c f j l r (λo d=>⟨_,b,d,q⟩) g
def tAug (i:Nat)(t:TE)(c:TIp):TS:=λD a H=>∃x,a[i]?=some (some x)/\t a H λy h=>c x y h λz b=>D.nx (a.set i (some z)) b
def ps_aug (G:X.N.Nodup)(n:X.N[i]?=some x)(g:Loc X.env.scope x)(he:PE X e Y)(P:PIp X op ti)(L:X.fn x=true\/X.env.scope.names.lookup x=some .local:=by walk_at "w") :
  PS X (.AugAssign (.Name x o) op e pos) (tAug i Y ti):=by
 rintro p s q H D I ⟨v,F,h⟩;obtain⟨m,O,M⟩:=I.loc;have j:Vis X.env.scope x:=by rcases g with k|k;exact .inl k;exact .inr (.inl k)
 obtain⟨u,r,l⟩:=M i x v n F j;refine wpAny_AugAssign_Name ?_;have go:wpAny (model X.prog X.w) X.A (eval e X.env) (λw d=>wpAny (model X.prog X.w) X.A (inplaceOp op u w) (λr f=>wpAny (model X.prog X.w) X.A (storeName X.env x r) (λ_=>SP X p D .next) X.xe f) X.xe d) X.xe s:=by refine thn (he p s q H _ I h) λw U ⟨y,t,B,S,Q⟩=>?_;refine thn (P p U q t v y u w _ B r S Q) λz Z ⟨zv,A,C,T,R⟩=>?_;exact store_ok C G n g T (λs3 E=>⟨_,A,E,R⟩) L
 rcases l with⟨a,N⟩|⟨a,c,J,b⟩
 .exact dG I.ok.kind a O N go
 .rcases a with a|a
  .exact wpAny_loadName_cell I.ok.kind a J b go
  .rcases g with k|k
   .have:X.env.scope.names.lookup x=some .free:=a;rw[k]at this;cases this
   .have:X.env.scope.names.lookup x=some .free:=a;rw[k]at this;cases this
def tAugS (to l k:TE)(t:V->V->Hp->VK->Prop)(c:TIp)(a:TSet):TS:=λD b H=>to b H λo h=>l b h λi d=>t o i d λx e=>k b e λy f=>c x y f λz g=>a o i z g λj=>D.nx b j
def PGet (X:Cx)(t:V->V->Hp->VK->Prop):Prop:=
 ∀(p:List (Addr×Obj)) (s:Shared) (σ:St) (H:Hp) (o i:V) (ov iv:Value) (Q:VK),Inv X p σ H s->RelV o ov->RelV i iv->t o i H Q ->
  wpAny (model X.prog X.w) X.A (getItem ov iv) (EP X p σ Q) X.xe s
def ps_augS (F:PE X o to)(E:PE X i ti)(C:PGet X tget)(he:PE X e te)(G:PIp X op tip)(J:PSet X tset)
  (B:∀b a new,augStore i b a new=(do holding [new,b,a] (setItem b a new);release [new,b,a] [];pure .next):=by intros;rfl):PS X (.AugAssign (.Subscript o i tpos) op e pos) (tAugS to ti te tget tip tset):=by
 intro p s c H D I h;refine wpAny_AugAssign_SubscriptAny (thn (F p s c H _ I h) λb U ⟨x,j,t,r,L⟩=>?_) B;refine thn (E p U c j _ t L) λa Y ⟨g,k,u,f,M⟩=>?_;refine thn (C p Y c k x g b a _ u r f M) λd Z ⟨x3,l,w,R,N⟩=>?_;refine thn (he p Z c l _ w N) λv s4 ⟨x4,m,y,S,O⟩=>?_;refine thn (G p s4 c m x3 x4 d v _ y R S O) λnew s5 ⟨x5,n,z,T,P⟩=>?_;exact thn (J p s5 c n x g x5 b a new _ z r f T P) λ_ s6 ⟨q,A,Q⟩=>⟨c,q,A,Q⟩
def ipI (f:Int->Int->Int):TIp:=λx y H Q=>∃i j,x=.int i/\y=.int j/\Q (.int (f i j)) H
def ip_add:PIp X .Add (ipI λi j=>i+j):=by rintro p s d H x y v u Q I r b ⟨i,j,e,a,q⟩;subst e;subst a;obtain⟨t,rfl⟩:=r;obtain⟨c,rfl⟩:=b;exact iadd_int ⟨.int _,H,I.tok _,⟨_,rfl⟩,q⟩
end
section
variable {X:Cx}{pos:Pos}
def tWhile (c:TT)(t:TS):TS:=λD a H=>∃W:Nat->St->Hp->Prop,(∃m,W m a H)/\∀m a H,W m a H ->
 c a H λb e=>if b=true then ∃N:St->Hp->Prop,(∀d h,N d h -> ∃f,f<m/\W f d h)/\t { D with nx:=N,ct:=N,bk:=D.nx } a e else D.nx a e
def ps_while (z:PassesOwn (model X.prog X.w) X.A X.env X.xe)(C:PT X c tc)(B:PSs X body tb):PS X (.While c body [] pos) (tWhile tc tb):=by
 rintro p s O H D I ⟨W,⟨E,L⟩,t⟩;refine wpAny_While (codeAny_whileLoop (λn F=>∃g o,Inv X p g o F/\W n g o) ?_ E ⟨O,H,I,L⟩);rintro n G ⟨d,r,A,M⟩;refine cV z (thn (C p G d r _ A (t n d r M)) λb J ⟨u,x,q⟩=>?_);cases b with
 |true=>
  obtain⟨N,y,q⟩:=q;rw[ai rfl];refine cV z (thn (B p J d u _ x q) λf P i=>?_);cases f with
  |next=>obtain⟨a,e,j,l⟩:=i;obtain⟨m,k,w⟩:=y a e l;exact⟨m,k,a,e,j,w⟩
  |cont=>obtain⟨a,e,j,l⟩:=i;obtain⟨m,k,w⟩:=y a e l;exact⟨m,k,a,e,j,w⟩
  |brk=>exact i
  |ret v=>exact i
 |false=>rw[ag aJ];exact dZ ⟨d,u,x,q⟩
end
structure It where
 go:Nat->Hp->Prop
 yld:Nat->Hp->V->Hp->Prop
 stop:Nat->Hp->Prop
def FpOk (X:Cx)(a:List (Addr×Obj))(H:Hp)(b:Addr):Prop:=
 H b=none/\b≠X.env.locals/\b∉X.fs/\(b∈X.ex\/X.s₀.heap.objs.size<=b)/\(∀x c,X.env.cells.lookup x=some c->c≠b)/\∀p∈X.pn++a,p.1≠b
def Inv.fpOk {X:Cx}{a:List (Addr×Obj)}{i:St}{H d:Hp}{s:Shared}{b:Addr}(I:Inv X a i H s)(h:s.heap.objs.size<=b)(f:d b=none):FpOk X a d b:=by
 refine⟨f,cH (aN I.lt h),I.nofs h,.inr (aG I.sz h),λx c e z=>?_,λp g z=>?_⟩
 .obtain⟨v,q⟩:=I.cell x c e;exact absurd (aN q.lt (by rw[z];exact h)) (ck _)
 .exact absurd (aN (ay (I.pin p g).1) (by rw[z];exact h)) (ck _)
structure Turn (P:Program)(w:World)(K:Fg)(tg:Expr)(J:It)(fp:List Addr)(it:Addr)(tn:Nat->Heap->Prop):Prop where
 mem:it∈fp
 obj:∀i h,tn i h->∀b∈fp,∃o,h.get? b=some o/\∀v,o.data ≠ .cell v
 keep:∀i h h',tn i h->(∀b∈fp,∀o,h.get? b=some o->h'.get? b=some o)->tn i h'
 item:∀(X:Cx),X.prog=P->X.w=w->X.K=K->X.calm=true->∀(i:Nat) (pins:List (Addr×Obj)) (s:Shared) (σ:St) (H:Hp) (E:Value->Shared->Prop),Inv X pins σ H s->(∀b∈fp,FpOk X pins H b)->tn i s.heap->J.go i H ->
  wpAny (model P w) X.A (pyNext (.ref it)) (λr s1=>∃u,r=some u /\
   wpAny (model P w) X.A (letOwnedTupleGo tg (.ref it) u) (λ_ s2=>∃x H',Inv X pins σ H' s2/\RelV x u/\J.yld i H x H'/\tn (i+1) s2.heap/\∀b∈fp,H' b=none) E s1) E s
 done:∀(X:Cx),X.prog=P->X.w=w->X.K=K->X.calm=true->∀(i:Nat) (pins:List (Addr×Obj)) (s:Shared) (σ:St) (H:Hp) (E:Value->Shared->Prop),Inv X pins σ H s->(∀b∈fp,FpOk X pins H b)->tn i s.heap->J.stop i H ->
  wpAny (model P w) X.A (pyNext (.ref it)) (λr s1=>r=none/\Inv X pins σ H s1) E s
 self:∀(A:Around) (i:Nat) (s:Shared) (Q:Value->Shared->Prop) (E:Value->Shared->Prop),tn i s.heap->Q (.ref it) s->wpAny (model P w) A (pyIter (.ref it)) Q E s
abbrev TI:=St->Hp->(It->Hp->Prop)->Prop
def PIE (X:Cx)(p:List (Addr×Obj))(d:St)(c:Expr)(R:It->Hp->Prop)(i:Value)(s:Shared):Prop:=
 ∃(a:Addr) (f:List Addr) (t:Nat->Heap->Prop) (J:It) (h:Hp),i=.ref a/\Inv X p d h s/\Turn X.prog X.w X.K c J f a t/\t 0 s.heap/\(∀b∈f,FpOk X p h b)/\R J h
def PI (X:Cx)(t i:Expr)(w:TI):Prop:=
 ∀(p:List (Addr×Obj)) (s:Shared) (σ:St) (H:Hp) (R:It->Hp->Prop),Inv X p σ H s->w σ H R ->
  wpAny (model X.prog X.w) X.A (eval i X.env) (λv a=>wpAny (model X.prog X.w) X.A (pyIter v) (PIE X p σ t R) X.xe a) X.xe s
def go_of (e:s.heap.get? it=some o)(b:o.cls=.type n)(c:o.data=.fields vs)
    (d:["enumerate","zip","dict_itemiterator","dict_reverseitemiterator","odict_iterator","itertools.zip_longest","itertools.pairwise"].contains n=false) (a:Q () s):wpAny M A (letOwnedTupleGo t (.ref it) u) Q E s:=by
  unfold letOwnedTupleGo;cases t<;>first
    |exact aO a
    | (cases u <;> first
        |exact aO a
        | (refine ac (wpAny_load e ?_)
           rw[b,c];show wpAny M A (if (["enumerate","zip","dict_itemiterator","dict_reverseitemiterator","odict_iterator","itertools.zip_longest","itertools.pairwise"].contains n && vs[0]? == some (rawInt _))=true then _ else _) Q E s;rw[ag (by intro h;rw[d,Bool.false_and]at h;cases h)];exact aO a))
def Itl (K:Fg)(a:Addr):It:=
 ⟨λi H=>∃xs x,SqL K H a xs/\xs[i]?=some x,λi H x h=>h=H/\∀xs,SqL K H a xs->xs[i]?=some x,λi H=>∃xs,SqL K H a xs/\xs.length<=i⟩
def Itr (l:Int)(n:Nat):It:=⟨λi _=>i<n,λi H x h=>h=H/\x=.int (l+i),λi _=>n<=i⟩
def turn_list {P:Program}{w:World}{K:Fg}{tg:Expr}(a l:Addr):Turn P w K tg (Itl K a) [l] l (λi h=>h.IsListIter l a i) where
 mem:=by simp
 obj:=λi h f b j=>by
  have e:b=l:=by simpa using j
  subst e;obtain⟨o,e,c,d⟩:=f;exact⟨o,e,λv z=>by rw[d]at z;cases z⟩
 keep:=λi h n f k=>f.at λo e=>k l (by simp) o e
 item:=by intro X F J D O i g s Q H E I q f G;subst F J D;obtain⟨xs,x,r,L⟩:=G;obtain⟨M,N,p,Z⟩:=I.list r;obtain⟨u,U,ru⟩:=N.get L;obtain⟨t,y,T,A,B,C⟩:=q l (by simp);refine wpAny_pyNext_list_item f p.isList (x:=u) (by simpa using U) λn m sb=>?_;have R:Inv X g Q H { s with heap:=n }:=I.turned (t':=s.toks) (λb o j e=>(sb.2 b j).trans e) t y A B C;obtain⟨o,e,c,d⟩:=id m;exact⟨u,rfl,go_of (s:={ s with heap:=n }) e c d (by decide) ⟨x,H,R,ru,⟨rfl,λys Y=>by rw[I.list_inj Y r];exact L⟩,m,λb j=>(q b j).1⟩⟩
 done:=by intro X F J D O i g s Q H E I q f G;subst F J D;obtain⟨xs,r,L⟩:=G;obtain⟨M,N,p,Z⟩:=I.list r;obtain⟨t,y,T,A,B,C⟩:=q l (by simp);have hl:=N.length;exact wpAny_pyNext_list_end (I.ok.hd O) f p.isList (by simp;lia) λn S=>⟨rfl,I.turned (t':=s.toks) (λb o j e=>S b o j e) t y A B C⟩
 self:=λ_ _ _ _ _ f h=>wpAny_pyIter_listiter f h
def turn_range {P:Program}{w:World}{K:Fg}{Q:Expr}(c:Addr)(l:Int)(n:Nat):Turn P w K Q (Itr l n) [c] c (λi h=>IsRangeIter h c (l+(i:Nat)*1) ((n:Int)-(i:Nat)) 1) where
 mem:=by simp
 obj:=λi h a b d=>by
  have e:b=c:=by simpa using d
  subst e;exact⟨_,a,λv z=>by
   have R:Data.fields _=Data.cell v:=z;cases R⟩
 keep:=λi h g a k=>k c (by simp) _ a
 item:=by intro X A D y B i p s G H E I j a C;subst A D y;obtain⟨m,q,M,r,u,x⟩:=j c (by simp);have W:=Walks.range (prog:=X.prog) (w:=X.w) (I.ok.hd B) c l 1 n;refine W.item i s _ _ C a λv g F N f O=>?_;obtain⟨t,rfl⟩:=N;have J:Inv X p G H { s with heap:=g,toks:=F }:=I.turned (λb o d e=>O b o (by simpa using d) e) m q r u x;refine⟨_,rfl,go_of (s:={ s with heap:=g,toks:=F }) (n:="range_iterator") f rfl rfl (by decide) ⟨.int (l+i),H,J,⟨t,?_⟩,⟨rfl,rfl⟩,f,λb d=>(j b d).1⟩⟩;rw[iL]
 done:=by intro X A D y B i p s G H E I j a C;subst A D y;obtain⟨m,q,M,r,u,x⟩:=j c (by simp);exact wpAny_pyNext_range_end (I.ok.hd B) a (by have:n<=i:=C;lia) λg L=>⟨rfl,I.turned (t':=s.toks) (λb o d e=>L b o d e) m q r u x⟩
 self:=λ_ _ _ _ _ a h=>wpAny_pyIter_rangeiter a h
section
variable {X:Cx}{c:Expr}
def iList (K:Fg)(t:TE):TI:=λb H R=>t b H λx h=>∃a,x=.ref a/\(∃xs,SqL K h a xs)/\R (Itl K a) h
def pi_list {l:Expr}{t:TE}(hl:PE X l t):PI X c l (iList X.K t):=by
 intro d s u H R I h;refine thn (hl d s u H _ I h) λv f ⟨x,g,i,r,n⟩=>?_;obtain⟨a,e,⟨xs,k⟩,q⟩:=n;subst e;cases r;obtain⟨m,y,p,w⟩:=i.list k;refine wpAny_pyIter_list p.isList ?_;refine⟨f.heap.objs.size,[f.heap.objs.size],_,_,g,rfl,i.kept (t':=f.toks) λb o e=>af _ e,turn_list a _,⟨_,aP _ rfl,rfl,rfl⟩,λb j=>?_,q⟩;have e:b=f.heap.objs.size:=by simpa using j
 subst e;exact i.fpOk (aB _) (i.hok.fresh (aB _))
def range_it {p:List (Addr×Obj)}{a:St}{H:Hp}{s:Shared}{R:It->Hp->Prop}{E:Value->Shared->Prop}{l h:Int}{t u v:Tok}{tk:Nat}(I:Inv X p a H s)(g:-(2^62)<=l)(j:l<2^62)(k:-(2^62)<=h)(m:h<2^62)
  (q:R (Itr l (h-l).toNat) H):wpAny (model X.prog X.w) X.A (pyIter (.ref s.heap.objs.size)) (PIE X p a c R) E { s with heap:=s.heap.push { cls:=.type "range",data:=.fields #[.int l t,.int h u,.int 1 v] },toks:=tk }:=by
 refine wpAny_pyIter_range (IsRange.new ..) (small_one g j k m) ?_;have i:Inv X p a H { s with heap:=s.heap.push { cls:=.type "range",data:=.fields #[.int l t,.int h u,.int 1 v] },toks:=tk }:=I.kept λb o e=>af _ e;refine⟨(s.heap.push { cls:=.type "range",data:=.fields #[.int l t,.int h u,.int 1 v] }).objs.size,[(s.heap.push { cls:=.type "range",data:=.fields #[.int l t,.int h u,.int 1 v] }).objs.size],_,_,H,rfl,i.kept (t':=tk) λb o e=>af _ e,turn_range _ l (h-l).toNat,?_,λb n=>?_,q⟩
 .have d:l+((0:Nat):Int)*1=l:=by simp
  have f:(((h-l).toNat:Nat):Int)-((0:Nat):Int)=Builtin.Range.rangeSize l h 1:=by rw[rangeSize_one];split<;>lia
  show IsRangeIter _ _ (l+((0:Nat):Int)*1) ((((h-l).toNat:Nat):Int)-((0:Nat):Int)) 1;rw[d,f];exact aP _ rfl
 .have e:b=(s.heap.push { cls:=.type "range",data:=.fields #[.int l t,.int h u,.int 1 v] }).objs.size:=by simpa using n
  subst e;exact i.fpOk (aB _) (i.hok.fresh (aB _))
def iRng1 (t:TA):TI:=λa H R=>t a H λv h=>∃j:Int,v=[.int j] /\ -(2^62)<=j/\j<2^62/\R (Itr 0 j.toNat) h
def iRng2 (t:TA):TI:=λa H R=>t a H λv h=>∃i j:Int,v=[.int i,.int j]/\(-(2^62)<=i/\i<2^62 /\ -(2^62)<=j/\j<2^62)/\R (Itr i (j-i).toNat) h
def pi_range1 {a:Expr}{f:TA}{p pos:Pos}(k:Gl X "range")(l:X.mg "range"=none)(g:PA X [a] f)(m:starEach [a] X.env=[(false,eval a X.env)]:=by rfl):PI X c (.Call (.Name "range" p) [a] [] pos) (iRng1 f):=by
 intro b s v H R I h;refine Call_ (ld_blt I k l boot_range (bN (thn (g pos b s v H _ I h) λy x ⟨z,w,i,o,d⟩=>?_) m rfl));obtain⟨j,e,d,n,q⟩:=d;subst e;cases o with
 |cons r u=>cases u;obtain⟨t,rfl⟩:=r;exact call_range_1 (range_it i (by lia) (by lia) d n (by simpa using q))
def pi_range2 (n:Gl X "range")(o:X.mg "range"=none)(m:PA X [a,b] A)(u:starEach [a,b] X.env=[(false,eval a X.env),(false,eval b X.env)]:=by rfl)(d:starEach [b] X.env=[(false,eval b X.env)]:=by rfl) :
  PI X c (.Call (.Name "range" p) [a,b] [] pos) (iRng2 A):=by
 intro f s B H R I h;refine Call_ (ld_blt I n o boot_range (bN (thn (m pos f s B H _ I h) λF D ⟨G,C,l,z,g⟩=>?_) (by rw[u,d]) (by rw[d];rfl)));obtain⟨i,j,e,⟨g,v,w,x⟩,q⟩:=g;subst e;cases z with
 |cons r k=>
  cases k with
  |cons y k=>cases k;obtain⟨t,rfl⟩:=r;obtain⟨E,rfl⟩:=y;exact call_range_2 (range_it l g v w x q)
def tFor (w:TI)(g:TG)(t:TS):TS:=λD a H=>w a H λJ f=>∃W:Nat->Nat->St->Hp->Prop,(∃m,W 0 m a f)/\∀i m a H,W i m a H ->
 (J.stop i H/\D.nx a H)\/(J.go i H/\∃N:St->Hp->Prop,(∀b h,N b h -> ∃e,e<m/\W (i+1) e b h)/\∀x h,J.yld i H x h -> g x a h λd j=>t { D with nx:=N,ct:=N,bk:=D.nx } d j)
def pinsAt (fp:List Addr)(h:Heap):List (Addr×Obj):=fp.filterMap λb=>(h.get? b).map λo=>(b,o)
def mem_pinsAt (a:b∈fp)(e:h.get? b=some o):(b,o)∈pinsAt fp h:=di.mpr ⟨b,a,by rw[e];rfl⟩
def of_pinsAt (f:p∈pinsAt fp h):p.1∈fp/\h.get? p.1=some p.2:=by
 obtain⟨b,d,e⟩:=di.mp f;cases q:h.get? b with
 |none=>rw[q]at e;cases e
 |some o=>rw[q]at e;have a:(b,o)=p:=aD e;subst a;exact⟨d,q⟩
def Inv.pinned (I:Inv X a n H s)(k:∀b∈fp,FpOk X a H b)(l:∀b∈fp,∃o,s.heap.get? b=some o/\∀v,o.data ≠ .cell v):Inv X (a++pinsAt fp s.heap) n H s:=
 I.pins_of λp m=>(aZ.mp m).elim (λz=>I.pin p (aI _ z)) λz=>by obtain⟨h,e⟩:=of_pinsAt z;obtain⟨g,i,j,_⟩:=k p.1 h;obtain⟨o,f,d⟩:=l p.1 h;rw[e]at f;cases f;exact⟨e,g,i,j,d⟩
def Inv.unpinned (I:Inv X (a++pl) b H s):Inv X a b H s:=I.pins_of λp h=>I.pin p (aI _ (bV _ h))
def ps_for (F:PassesOwn (model X.prog X.w) X.A X.env X.xe)(hc:X.calm=true)(hi:PI X c iter wi)(hg:PG X c g)(q:PSs X body tb)
  (hs:∀x,foldedSetIterable iter X.env x=pure x:=by intro _;rfl):PS X (.For c iter body [] pos) (tFor wi g tb):=by
 intro p s σ H D I h;refine wpAny_For (thn (hi p s σ H _ I h) λv s1 h1=>thn h1 λitv s2 h2=>?_) hs;obtain⟨it,C,tn,J,H2,e,I2,T,Y,f2,W,⟨m0,w0⟩,O⟩:=h2;subst e;have t:∀{z:Hp},(∀b∈C,z b=none)->∀b∈C,FpOk X p z b:=λhn b q=>⟨hn b q,(f2 b q).2⟩;refine codeAny_forLoop_any (λn s'=>∃i w z,Inv X p w z s'/\tn i s'.heap/\(∀b∈C,z b=none)/\W i n w z) ?_ m0 ⟨0,σ,H2,I2,Y,λb q=>(f2 b q).1,w0⟩;rintro n s3 ⟨i,y,P,I3,L,E,w3⟩;rcases O i n y P w3 with⟨M,qn⟩|⟨go,N,hN,step⟩
 .refine cV F (thn (T.done X rfl rfl rfl hc i p s3 y P X.xe I3 (t E) L M) λr s4 ⟨S,I4⟩=>?_);subst S;exact dZ ⟨y,P,I4,qn⟩
 .refine cV F (thn (T.item X rfl rfl rfl hc i p s3 y P X.xe I3 (t E) L go) λr s4 ⟨u,S,h4⟩=>?_);subst S;refine cV F (thn h4 λ_ s5 ⟨x,H5,I5,r5,y5,B,R⟩=>?_);have Q:=I5.pinned (t R) (T.obj _ _ B);refine cV F (thn (hg _ s5 y H5 x u _ Q r5 (step x H5 y5)) λ_ s6 ⟨Z,H6,I6,q6⟩=>?_);refine cV F (thn (q _ s6 Z H6 _ I6 q6) λf U A=>?_);have l:∀{a:St} {j:Hp},Inv X (p++pinsAt C s5.heap) a j U->N a j->∃m,m<n/\∃i w z,Inv X p w z U/\tn i U.heap/\(∀b∈C,z b=none)/\W i m w z:=λ{a j} k G=>by obtain⟨m',hm,w7⟩:=hN a j G;refine⟨m',hm,i+1,a,j,k.unpinned,T.keep _ _ _ B λb q o e=>(k.pin (b,o) (aI _ (aI _ (mem_pinsAt q e)))).1,λb q=>?_,w7⟩;obtain⟨o,e,d⟩:=T.obj _ _ B b q;exact(k.pin (b,o) (aI _ (aI _ (mem_pinsAt q e)))).2.1
  cases f with
  |next=>obtain⟨a,j,k,G⟩:=A;exact l k G
  |cont=>obtain⟨a,j,k,G⟩:=A;exact l k G
  |brk=>obtain⟨a,j,k,A⟩:=A;exact⟨a,j,k.unpinned,A⟩
  |ret v=>obtain⟨x7,a,j,k,r7,A⟩:=A;exact⟨x7,a,j,k.unpinned,r7,A⟩
end
def for_list {K:Fg}{a:Addr}{xs:List V}{g:TG}{t:TS}{D:Ends}{b:St}{H:Hp}(P:Nat->St->Hp->Prop)(h0:P 0 b H)(hl:∀i b H,i<=xs.length->P i b H->SqL K H a xs)
  (o:∀i x b H,xs[i]?=some x->P i b H->g x b H λd j=>t { D with nx:=P (i+1),ct:=P (i+1),bk:=D.nx } d j) (l:∀b H,P xs.length b H->D.nx b H) :
  ∃W:Nat->Nat->St->Hp->Prop,(∃m,W 0 m b H)/\∀i m b H,W i m b H ->
   ((Itl K a).stop i H/\D.nx b H)\/((Itl K a).go i H/\∃N:St->Hp->Prop,(∀c h,N c h -> ∃k,k<m/\W (i+1) k c h)/\∀x h,(Itl K a).yld i H x h -> g x b h λd j=>t { D with nx:=N,ct:=N,bk:=D.nx } d j):=by
 refine⟨λi m b H=>m=xs.length-i/\i<=xs.length/\P i b H,⟨xs.length,by simp,bA _,h0⟩,?_⟩;rintro i m b H ⟨rfl,n,p⟩;have q:=hl i b H n p;by_cases f:i<xs.length
 .refine .inr ⟨⟨xs,xs[i],q,by simp[f]⟩,P (i+1),λc h r=>⟨xs.length-(i+1),by lia,rfl,f,r⟩,λx h y=>?_⟩;obtain⟨e,y⟩:=y;subst e;exact o i x b _ (y xs q) p
 .have e:i=xs.length:=by lia
  subst e;exact .inl ⟨⟨xs,q,aB _⟩,l b H p⟩
def for_range {l:Int}{n:Nat}{g:TG}{t:TS}{D:Ends}{a:St}{H:Hp}(P:Nat->St->Hp->Prop)(h0:P 0 a H)
  (o:∀i a H,i<n->P i a H->g (.int (l+i)) a H λd f=>t { D with nx:=P (i+1),ct:=P (i+1),bk:=D.nx } d f) (k:∀a H,P n a H->D.nx a H) :
  ∃W:Nat->Nat->St->Hp->Prop,(∃m,W 0 m a H)/\∀i m a H,W i m a H ->
   ((Itr l n).stop i H/\D.nx a H)\/((Itr l n).go i H/\∃N:St->Hp->Prop,(∀c h,N c h -> ∃j,j<m/\W (i+1) j c h)/\∀x h,(Itr l n).yld i H x h -> g x a h λd f=>t { D with nx:=N,ct:=N,bk:=D.nx } d f):=by
 refine⟨λi m a H=>m=n-i/\i<=n/\P i a H,⟨n,by simp,bA _,h0⟩,?_⟩;rintro i m a H ⟨rfl,r,p⟩;by_cases b:i<n
 .refine .inr ⟨b,P (i+1),λc h q=>⟨n-(i+1),by lia,rfl,b,q⟩,λx h y=>?_⟩;obtain⟨e,y⟩:=y;subst e y;exact o i a _ b p
 .have e:i=n:=by lia
  subst e;exact .inl ⟨aB _,k a H p⟩
def while_by (P:St->Hp->Prop)(f:St->Hp->Nat)(h0:P a H)
  (i:∀a H,P a H->c a H λb e=>if b=true then tb { D with nx:=λd h=>P d h/\f d h<f a H,ct:=λd h=>P d h/\f d h<f a H,bk:=D.nx } a e else D.nx a e)
  (mono:∀a H Q g,(∀b e,Q b e->g b e)->c a H Q->c a H g):tWhile c tb D a H:=by
 refine⟨λm a H=>m=f a H/\P a H,⟨_,rfl,h0⟩,?_⟩;rintro m a H ⟨rfl,p⟩;refine mono a H _ _ (λb e q=>?_) (i a H p);cases b with
 |true=>exact⟨_,λd h ⟨j,l⟩=>⟨_,l,rfl,j⟩,q⟩
 |false=>exact q
abbrev R2:=V->V->Hp->VK->Prop
def OpR (X:Cx)(f:Value->Value->Sem Value)(r:R2):Prop:=
 ∀(p:List (Addr×Obj)) (s:Shared) (σ:St) (H:Hp) (x y:V) (v u:Value) (Q:VK),Inv X p σ H s->RelV x v->RelV y u->r x y H Q ->
  wpAny (model X.prog X.w) X.A (f v u) (EP X p σ Q) X.xe s
def UnR (X:Cx)(f:Value->Sem Value)(r:V->Hp->VK->Prop):Prop:=
 ∀(p:List (Addr×Obj)) (s:Shared) (σ:St) (H:Hp) (x:V) (v:Value) (Q:VK),Inv X p σ H s->RelV x v->r x H Q ->
  wpAny (model X.prog X.w) X.A (f v) (EP X p σ Q) X.xe s
def CallR (X:Cx)(f:Value)(r:List V->Hp->VK->Prop):Prop:=
 ∀(p:List (Addr×Obj)) (s:Shared) (σ:St) (H:Hp) (xs:List V) (us:List Value) (Q:VK),Inv X p σ H s->Vals xs us->r xs H Q ->
  wpAny (model X.prog X.w) X.A (call f us) (EP X p σ Q) X.xe s
def TruR (X:Cx)(r:V->Hp->(Bool->Hp->Prop)->Prop):Prop:=
 ∀(p:List (Addr×Obj)) (s:Shared) (σ:St) (H:Hp) (x:V) (v:Value) (Q:Bool->Hp->Prop),Inv X p σ H s->RelV x v->r x H Q ->
  wpAny (model X.prog X.w) X.A (truthy v) (TP X p σ Q) X.xe s
def tOp (r:R2)(t c:TE):TE:=λa H Q=>t a H λx h=>c a h λy b=>r x y b Q
def tUn (r:V->Hp->VK->Prop)(t:TE):TE:=λa H Q=>t a H λx h=>r x h Q
def rI (C:Int->Int->Prop)(g:Int->Int->V):R2:=λx y H Q=>∃i j,x=.int i/\y=.int j/\C i j/\Q (g i j) H
def rI0 (g:Int->Int->V):R2:=λx y H Q=>∃i j,x=.int i/\y=.int j/\Q (g i j) H
def rU (g:Int->V):V->Hp->VK->Prop:=λx H Q=>∃i,x=.int i/\Q (g i) H
section
variable {X:Cx}{a b c:Expr}{T d e:TE}{pos:Pos}
def binT (q:PE X a T)(r:PE X b d){p:List (Addr×Obj)}{R:V->V->Hp->Prop}(I:Inv X p k H s)
  (h:T k H λx m=>d k m λy g=>R x y g) {Q:Value->Shared->Prop} {f:Value->Value->Sem Value}
  (t:∀v u l x y g,Inv X p k g l->RelV x v->RelV y u->R x y g->wpAny (model X.prog X.w) X.A (f v u) Q X.xe l) :
  wpAny (model X.prog X.w) X.A (eval a X.env) (λv i=>wpAny (model X.prog X.w) X.A (eval b X.env) (λu j=>wpAny (model X.prog X.w) X.A (f v u) Q X.xe j) X.xe i) X.xe s:=by
 refine thn (q p s k H _ I h) λv C ⟨x,m,n,A,w⟩=>?_;refine thn (r p C k m _ n w) λu l ⟨y,g,o,B,z⟩=>?_;exact t v u l x y g o A B z
def pe_op {op:Operator}{r:R2}(k:OpR X (binaryOp op) r)(g:PE X a T)(j:PE X b d):PE X (.BinOp a op b pos) (tOp r T d):=by intro p s o H Q I h;exact wpAny_BinOp (binT g j I h λv u n x y f i l m q=>k p n o f x y v u Q i l m q)
def pe_un (k:UnR X (unaryOp op) r)(j:PE X a T):PE X (.UnaryOp op a pos) (tUn r T):=by intro p s f H Q I h;exact UnaryOp_ (thn (j p s f H _ I h) λv m ⟨x,g,i,l,q⟩=>k p m f g x v Q i l q)
def opI {f:Value->Value->Sem Value}{C:Int->Int->Prop}{g:Int->Int->Int}
  (r:∀(i j:Int) (t u:Tok) (s:Shared) (Q:Value->Shared->Prop) (E:Value->Shared->Prop),C i j->Q (.int (g i j) s.toks) { s with toks:=s.toks+1 }->wpAny (model X.prog X.w) X.A (f (.int i t) (.int j u)) Q E s) :
  OpR X f (rI C λi j=>.int (g i j)):=by
 rintro p s o H x y v u Q I l m ⟨i,j,rfl,rfl,k,q⟩;obtain⟨t,rfl⟩:=l;obtain⟨n,rfl⟩:=m;exact r i j t n s _ _ k ⟨.int (g i j),H,I.tok _,⟨_,rfl⟩,q⟩
def opI0 {f:Value->Value->Sem Value}{g:Int->Int->Int}
  (r:∀(i j:Int) (t u:Tok) (s:Shared) (Q:Value->Shared->Prop) (E:Value->Shared->Prop),Q (.int (g i j) s.toks) { s with toks:=s.toks+1 }->wpAny (model X.prog X.w) X.A (f (.int i t) (.int j u)) Q E s) :
  OpR X f (rI0 λi j=>.int (g i j)):=by
 rintro p s n H x y v u Q I k l ⟨i,j,rfl,rfl,q⟩;obtain⟨t,rfl⟩:=k;obtain⟨m,rfl⟩:=l;exact r i j t m s _ _ ⟨.int (g i j),H,I.tok _,⟨_,rfl⟩,q⟩
def opB0 {f:Value->Value->Sem Value}{g:Int->Int->Bool}
  (r:∀(i j:Int) (t u:Tok) (s:Shared) (Q:Value->Shared->Prop) (E:Value->Shared->Prop),Q (.bool (g i j)) s->wpAny (model X.prog X.w) X.A (f (.int i t) (.int j u)) Q E s) :
  OpR X f (rI0 λi j=>.bl (g i j)):=by
 rintro p s n H x y v u Q I k l ⟨i,j,rfl,rfl,q⟩;obtain⟨t,rfl⟩:=k;obtain⟨m,rfl⟩:=l;exact r i j t m s _ _ ⟨.bl (g i j),H,I,rfl,q⟩
def CDiv (i j:Int):Prop:=0<j/\j<1073741824
def CPow (i j:Int):Prop:=0<=j/\j<=1000000/\i.natAbs<2^64
def CMul (i j:Int):Prop:=(-(2^64)<i/\i<2^64)\/(-(2^64)<j/\j<2^64)
def CMul.ok (h:CMul i j):IntMulOk i j:=by
 rcases h with⟨f,g⟩|⟨f,g⟩
 .exact .of_left (gv f g)
 .exact .of_right (gv f g)
def op_add:OpR X (binaryOp .Add) (rI0 λi j=>.int (i+j)):=opI0 λ_ _ _ _ _ _ _ q=>add_int q
def op_sub:OpR X (binaryOp .Sub) (rI0 λi j=>.int (i-j)):=opI0 λ_ _ _ _ _ _ _ q=>sub_int q
def op_mod:OpR X (binaryOp .Mod) (rI (λ_ j=>0<j) λi j=>.int (i % j)):=opI λi j _ _ _ _ _ h q=>by have f:(0:Int)<j:=h;exact mod_int' (by lia) (by rw[Int.fmod_eq_emod_of_nonneg i (by lia)];exact q)
def op_pow:OpR X (binaryOp .Pow) (rI CPow λi j=>.int (i^j.toNat)):=opI λ_ _ _ _ _ _ _ h q=>pow_int_small h.1 h.2.1 h.2.2 q
def iop_add:OpR X (inplaceOp .Add) (rI0 λi j=>.int (i+j)):=opI0 λ_ _ _ _ _ _ _ q=>iadd_int q
def iop_fdiv:OpR X (inplaceOp .FloorDiv) (rI CDiv λi j=>.int (i / j)):=opI λi j _ _ _ _ _ h q=>by have f:(0:Int)<j:=h.1;have g:j<1073741824:=h.2;exact ifloordiv_int (by lia) (by rw[fO i (by lia)];exact q) (.inl (gO (by lia)))
def unI {f:Value->Sem Value}{g:Int->Int}
  (r:∀(i:Int) (t:Tok) (s:Shared) (Q:Value->Shared->Prop) (E:Value->Shared->Prop),Q (.int (g i) s.toks) { s with toks:=s.toks+1 }->wpAny (model X.prog X.w) X.A (f (.int i t)) Q E s) :
  UnR X f (rU λi=>.int (g i)):=by
 rintro p s k H x v Q I j ⟨i,rfl,q⟩;obtain⟨t,rfl⟩:=j;exact r i t s _ _ ⟨.int (g i),H,I.tok _,⟨_,rfl⟩,q⟩
def un_neg:UnR X (unaryOp .USub) (rU λi=>.int (-i)):=unI λ_ _ _ _ _ q=>neg_int q
end
def scal:V->V->Bool
 | .non,.non=>true | .non,.int _=>true | .int _,.non=>true | .non,.bl _=>true | .bl _,.non=>true | .non,.str _=>true | .str _,.non=>true
 | .int _,.int _=>true | .bl _,.bl _=>true | .str _,.str _=>true | .byt _,.byt _=>true
 | .int _,.str _=>true | .str _,.int _=>true | .bl _,.str _=>true | .str _,.bl _=>true
 |_,_=>false
def rEq:R2:=λx y H Q=>scal x y=true/\Q (.bl (decide (x=y))) H
def rNe:R2:=λx y H Q=>scal x y=true/\Q (.bl (!decide (x=y))) H
def dec_int:decide (V.int i=V.int j)=(i == j):=by rw[d5];simp
def dec_bl:decide (V.bl i=V.bl j)=(i == j):=by rw[d5];simp
def dec_str:decide (V.str i=V.str j)=(i == j):=by rw[d5];simp
def dec_byt:decide (V.byt i=V.byt j)=(i.toList == j.toList):=by rw[d5];cases i;cases j;simp
section
variable {X:Cx}{a b c:Expr}{T f g:TE}{pos:Pos}
def fin_bl (I:Inv X p d H s)(q:Q (.bl k) H)(e:k=k'):EP X p d Q (.bool k') s:=by subst e;exact⟨.bl k,H,I,rfl,q⟩
def op_eq:OpR X (compareOp .Eq) rEq:=by
 rintro p s l H x y v u Q I k r ⟨e,q⟩;cases x with
 |non=>
  cases k;cases y with
  |non=>cases r;exact PySem.EqNone.eq_none_none (fin_bl I q (by simp))
  |bl j=>cases r;exact PySem.EqNone.eq_none_bool (fin_bl I q (by simp))
  |int j=>obtain⟨d,rfl⟩:=r;exact PySem.EqNone.eq_none_int (fin_bl I q (by simp))
  |str j=>obtain⟨d,rfl⟩:=r;exact PySem.EqNone.eq_none_str (fin_bl I q (by simp))
  |_=>exact absurd (show false=true from e) aJ
 |bl i=>
  cases k;cases y with
  |non=>cases r;exact PySem.EqNone.eq_bool_none (fin_bl I q (by simp))
  |bl j=>cases r;exact eq_bool (fin_bl I q dec_bl)
  |str j=>obtain⟨d,rfl⟩:=r;exact PySem.EqMixed.eq_bool_str (fin_bl I q (by simp))
  |_=>exact absurd (show false=true from e) aJ
 |int i=>
  obtain⟨t,rfl⟩:=k;cases y with
  |non=>cases r;exact PySem.EqNone.eq_int_none (fin_bl I q (by simp))
  |int j=>obtain⟨d,rfl⟩:=r;exact eq_int (fin_bl I q dec_int)
  |str j=>obtain⟨d,rfl⟩:=r;exact PySem.EqMixed.eq_int_str (fin_bl I q (by simp))
  |_=>exact absurd (show false=true from e) aJ
 |str i=>
  obtain⟨t,rfl⟩:=k;cases y with
  |non=>cases r;exact PySem.EqNone.eq_str_none (fin_bl I q (by simp))
  |bl j=>cases r;exact PySem.EqMixed.eq_str_bool (fin_bl I q (by simp))
  |int j=>obtain⟨d,rfl⟩:=r;exact PySem.EqMixed.eq_str_int (fin_bl I q (by simp))
  |str j=>obtain⟨d,rfl⟩:=r;exact eq_str (fin_bl I q dec_str)
  |_=>exact absurd (show false=true from e) aJ
 |byt i=>
  obtain⟨t,rfl⟩:=k;cases y with
  |byt j=>obtain⟨d,rfl⟩:=r;exact W.eq_bytes (fin_bl I q dec_byt)
  |_=>exact absurd (show false=true from e) aJ
 |_=>cases y<;>exact absurd (show false=true from e) aJ
def op_ne:OpR X (compareOp .NotEq) rNe:=by
 rintro p s l H x y v u Q I k r ⟨e,q⟩;cases x with
 |non=>
  cases k;cases y with
  |non=>cases r;exact PySem.EqNone.ne_none_none (fin_bl I q (by simp))
  |bl j=>cases r;exact PySem.EqNone.ne_none_bool (fin_bl I q (by simp))
  |int j=>obtain⟨d,rfl⟩:=r;exact PySem.EqNone.ne_none_int (fin_bl I q (by simp))
  |str j=>obtain⟨d,rfl⟩:=r;exact PySem.EqNone.ne_none_str (fin_bl I q (by simp))
  |_=>exact absurd (show false=true from e) aJ
 |bl i=>
  cases k;cases y with
  |non=>cases r;exact PySem.EqNone.ne_bool_none (fin_bl I q (by simp))
  |bl j=>cases r;exact ne_bool (fin_bl I q (congrArg not dec_bl))
  |str j=>obtain⟨d,rfl⟩:=r;exact PySem.EqMixed.ne_bool_str (fin_bl I q (by simp))
  |_=>exact absurd (show false=true from e) aJ
 |int i=>
  obtain⟨t,rfl⟩:=k;cases y with
  |non=>cases r;exact PySem.EqNone.ne_int_none (fin_bl I q (by simp))
  |int j=>obtain⟨d,rfl⟩:=r;exact ne_int (fin_bl I q (congrArg not dec_int))
  |str j=>obtain⟨d,rfl⟩:=r;exact PySem.EqMixed.ne_int_str (fin_bl I q (by simp))
  |_=>exact absurd (show false=true from e) aJ
 |str i=>
  obtain⟨t,rfl⟩:=k;cases y with
  |non=>cases r;exact PySem.EqNone.ne_str_none (fin_bl I q (by simp))
  |bl j=>cases r;exact PySem.EqMixed.ne_str_bool (fin_bl I q (by simp))
  |int j=>obtain⟨d,rfl⟩:=r;exact PySem.EqMixed.ne_str_int (fin_bl I q (by simp))
  |str j=>obtain⟨d,rfl⟩:=r;exact ne_str (fin_bl I q (congrArg not dec_str))
  |_=>exact absurd (show false=true from e) aJ
 |byt i=>
  obtain⟨t,rfl⟩:=k;cases y with
  |byt j=>obtain⟨d,rfl⟩:=r;exact W.ne_bytes (fin_bl I q (congrArg not dec_byt))
  |_=>exact absurd (show false=true from e) aJ
 |_=>cases y<;>exact absurd (show false=true from e) aJ
def op_lt:OpR X (compareOp .Lt) (rI0 λi j=>.bl (decide (i<j))):=opB0 λ_ _ _ _ _ _ _ q=>lt_int q
def op_le:OpR X (compareOp .LtE) (rI0 λi j=>.bl (decide (i<=j))):=opB0 λ_ _ _ _ _ _ _ q=>le_int q
def op_gt:OpR X (compareOp .Gt) (rI0 λi j=>.bl (decide (j<i))):=opB0 λ_ _ _ _ _ _ _ q=>gt_int q
def op_ge:OpR X (compareOp .GtE) (rI0 λi j=>.bl (decide (j<=i))):=opB0 λ_ _ _ _ _ _ _ q=>ge_int q
def op_in_str:OpR X (compareOp .In) (λx y H Q=>∃i j,x=.str i/\y=.str j/\Q (.bl (!(Builtin.Str.occurrences j i 0 j.length 1).isEmpty)) H):=by rintro p s k H x y v u Q I r d ⟨i,j,rfl,rfl,q⟩;obtain⟨t,rfl⟩:=r;obtain⟨e,rfl⟩:=d;exact in_str (fin_bl I q rfl)
def op_isN:OpR X (compareOp .Is) (λx y H Q=>y=.non/\Q (.bl (decide (x=.non))) H):=by
 rintro p s e H x y v u Q I r d ⟨rfl,q⟩;cases d;refine is_none_gen (fin_bl I q ?_);cases x<;>first
  |(cases r;rfl)
  |(obtain⟨t,rfl⟩:=r;rfl)
def op_notN:OpR X (compareOp .IsNot) (λx y H Q=>y=.non/\Q (.bl (!decide (x=.non))) H):=by
 rintro p s e H x y v u Q I r d ⟨rfl,q⟩;cases d;refine isnot_none_gen (fin_bl I q ?_);cases x<;>first
  |(cases r;rfl)
  |(obtain⟨t,rfl⟩:=r;rfl)
def nomark (b:Expr)(h:op ≠ .In:=by decide)(i:op ≠ .NotIn:=by decide):behindInMarks op b=false:=by
 have e:(op == CmpOp.In)=false:=by cases op<;>first|rfl|exact absurd rfl h
 have d:(op == CmpOp.NotIn)=false:=by cases op<;>first|rfl|exact absurd rfl i
 cases b<;>simp[behindInMarks,e,d]
def pe_cmpR {op:CmpOp}{r:R2}(l:OpR X (compareOp op) r)(e:PE X a T)(j:PE X b f)(k:behindInMarks op b=false):PE X (.Compare a [op] [b] pos) (tOp r T f):=by intro p s t H Q I h;exact wpAny_Compare1 (binT e j I h λv u o x y d i m n q=>l p o t d x y v u Q i m n q) k
def tTest (t:TE):TT:=λd H Q=>t d H λx h=>∃k,x=.bl k/\Q k h
def pt_cmpR (A:OpR X (compareOp op) r)(q:PE X a T)(t:PE X b f)(w:behindInMarks op b=false):PT X (.Compare a [op] [b] pos) (tTest (tOp r T f)):=by
 intro p s d H Q I h;refine wpAny_isTrue_Compare1 (thn (q p s d H _ I h) λv J ⟨x,i,m,E,B⟩=>thn (t p J d i _ m B) λu L ⟨y,j,n,F,C⟩=> thn (A p L d j x y v u _ n E F C) λc M ⟨z,l,o,G,k,e,D⟩=>?_) w
 subst e;cases G;exact cD ⟨l,o,D⟩
def tChain (r l:R2)(T f g:TE):TE:=λd H Q=>T d H λx e=>f d e λy i=>r x y i λz h=>∃k,z=.bl k /\
 (if k=true then g d h λw j=>l y w j Q else Q (.bl false) h)
def pe_chain (J:OpR X (compareOp op) r)(j:OpR X (compareOp op') r')(D:PE X a T)(E:PE X b f)(F:PE X c g)
  (G:lastMarks [op,op'] [b,c]=false:=by with_unfolding_all rfl):PE X (.Compare a [op,op'] [b,c] pos) (tChain r r' T f g):=by
 intro p s i H Q I h;refine Compare_chain (thn (D p s i H _ I h) λv S ⟨x,o,A,O,L⟩=>chain_link (thn (E p S i o _ A L) λu U ⟨y,t,B,n,M⟩=> thn (J p U i t x y v u _ B O n M) λd Y ⟨z,l,m,P,k,e,q⟩=>?_)) G
 subst e;cases P;refine cD ?_;cases k with
 |false=>exact ite_ff ⟨.bl false,l,m,rfl,q⟩
 |true=>exact ite_tt (chain_last (thn (F p Y i l _ m q) λw' Z ⟨z',w,C,R,N⟩=>j p Z i w y z' u w' Q C n R N))
def TruV (K:Fg)(x:V)(H:Hp)(k:Bool):Prop:=
 match x with
 | .non=>k=false
 | .bl b=>k=b
 | .int i=>k=(i != 0)
 | .str y=>y.length<=sizeLine/\k=((y.length:Int) != 0)
 | .byt y=>y.size<=sizeLine/\k=((y.size:Int) != 0)
 | .ref p=>(∃xs,SqL K H p xs/\k = !xs.isEmpty)\/(∃xs,SqT K H p xs/\k = !xs.isEmpty)\/∃d,H p=some (.dK d)/\k = !d.isEmpty
 |_=>False
def isEmpty_kv {d:Type}{k:List (d×V)}{vs:List (d×Value)}(r:KV k vs):(!vs.isEmpty) = !k.isEmpty:=by cases r<;>rfl
def isEmpty_of (r:Vals xs its):(!its.toArray.isEmpty) = !xs.isEmpty:=by cases r<;>simp
def line63:(sizeLine:Nat)<2^63:=by rw[ao];decide
def tru_ok:TruR X (λx H Q=>∃k,TruV X.K x H k/\Q k H):=by
 rintro A s D H x v Q I n ⟨k,e,q⟩;have B:=line63;have C:sizeLine=16777216:=ao;cases x with
 |non=>cases n;have d:k=false:=e;subst d;exact truthy_none ⟨H,I,q⟩
 |bl b=>cases n;have d:k=b:=e;subst d;exact cD ⟨H,I,q⟩
 |int i=>obtain⟨t,rfl⟩:=n;have d:k=(i != 0):=e;subst d;exact PySem.P.truthy_int ⟨H,I,q⟩
 |str y=>obtain⟨t,rfl⟩:=n;obtain⟨hy,d⟩:y.length<=sizeLine/\k=((y.length:Int) != 0):=e;subst d;exact PySem.P.truthy_str (by lia) ⟨H,I.tok _,q⟩
 |byt y=>obtain⟨t,rfl⟩:=n;obtain⟨hy,d⟩:y.size<=sizeLine/\k=((y.size:Int) != 0):=e;subst d;exact W.truthy_bytes (by lia) ⟨H,I.tok _,q⟩
 |ref p=>
  cases n;have d:(∃xs,SqL X.K H p xs/\k = !xs.isEmpty)\/(∃xs,SqT X.K H p xs/\k = !xs.isEmpty)\/∃j,H p=some (.dK j)/\k = !j.isEmpty:=e;rcases d with⟨xs,o,d⟩|⟨xs,o,d⟩|⟨j,o,d⟩
  .subst d;obtain⟨w,r,pl,z⟩:=I.list o;have l:=r.length;exact wpAny_truthy_list pl.isList (by simp only[aq];lia) ⟨H,I.tok _,by rw[isEmpty_of r];exact q⟩
  .subst d;obtain⟨w,r,pl,z⟩:=I.tuple o;have l:=r.length;exact truthy_tuple pl (by simp only[aq];lia) ⟨H,I.tok _,by rw[isEmpty_of r];exact q⟩
  .subst d;obtain⟨z,hS,u,r,m⟩:j.length<=sizeLine/\(p == sysModules)=false/\∃u,KV j u/\s.heap.DictOf (mixKind X.prog X.w) p u:=I.hok p _ o;have l:j.length=u.length:=Paired.length r;exact wpAny_truthy_dict hS m (by lia) ⟨H,I.tok _,by rw[isEmpty_kv r];exact q⟩
 |_=>exact(show False from e).elim
def pt_truth (l:PE X a T)(he:∀w,isTrue a X.env w=(do let v <- w;standAt a.pos;holding [v] (truthy v))) :
  PT X a (λd H Q=>T d H λx e=>∃k,TruV X.K x e k/\Q k e):=by
 intro p s d H Q I h;exact isTrue_plain (thn (l p s d H _ I h) λv m ⟨x,i,j,r,q⟩=>tru_ok p m d i x v Q j r q) (he _)
def op_add_str:OpR X (binaryOp .Add) (λx y H Q=>∃i j,x=.str i/\y=.str j/\i.length+j.length<=sizeLine/\Q (.str (i++j)) H):=by rintro p s m H x y v u Q I r e ⟨i,j,rfl,rfl,d,q⟩;obtain⟨t,rfl⟩:=r;obtain⟨k,rfl⟩:=e;exact add_str (λk l=>⟨.str (i++j),H,I.tok _,⟨_,rfl⟩,q⟩) d
def iop_add_str:OpR X (inplaceOp .Add) (λx y H Q=>∃i j,x=.str i/\y=.str j/\i.length+j.length<=sizeLine/\Q (.str (i++j)) H):=by rintro p s m H x y v u Q I r e ⟨i,j,rfl,rfl,d,q⟩;obtain⟨t,rfl⟩:=r;obtain⟨k,rfl⟩:=e;exact iadd_str (λk l=>⟨.str (i++j),H,I.tok _,⟨_,rfl⟩,q⟩) d
def vals1 (r:Vals [x] us):∃u,us=[u]/\RelV x u:=by
 cases r with
 |cons d e=>cases e;exact⟨_,rfl,d⟩
def vals2 (r:Vals [x,y] us):∃u w,us=[u,w]/\RelV x u/\RelV y w:=by
 cases r with
 |cons d e=>
  cases e with
  |cons h i=>cases i;exact⟨_,_,rfl,d,h⟩
def call_abs:CallR X (.builtin "abs") (λxs H Q=>∃i,xs=[.int i]/\Q (.int (if i<0 then -i else i)) H):=by rintro p s j H xs e Q I r ⟨i,rfl,q⟩;obtain⟨u,rfl,t,rfl⟩:=vals1 r;exact call_abs_int λu d=>⟨.int (if i<0 then -i else i),H,I.tok _,⟨_,rfl⟩,q⟩
def call_min2 (e:X.calm=true):CallR X (.builtin "min") (λxs H Q=>∃i j,xs=[.int i,.int j]/\Q (.int (if j<i then j else i)) H):=by
 rintro p s v H xs o Q I r ⟨i,j,rfl,q⟩;obtain⟨u,w,rfl,⟨t,rfl⟩,⟨m,rfl⟩⟩:=vals2 r;refine min_two_ints (I.ok.hd e) λl n k=>⟨_,H,I.kept k,?_,q⟩;by_cases d:j<i
 .rw[ai d,ai d];exact⟨_,rfl⟩
 .rw[ag d,ag d];exact⟨_,rfl⟩
def call_int1:CallR X (.type "int") (λxs H Q=>(∃i,xs=[.int i]/\Q (.int i) H)\/∃k,xs=[.bl k]/\Q (.int (if k then 1 else 0)) H):=by
 intro p s j H xs e Q I r h;rcases h with⟨i,rfl,q⟩|⟨k,rfl,q⟩
 .obtain⟨u,rfl,t,rfl⟩:=vals1 r;exact call_int_int ⟨.int i,H,I,⟨_,rfl⟩,q⟩
 .obtain⟨u,rfl,d⟩:=vals1 r;cases d;exact call_int_bool ⟨.int (if k then 1 else 0),H,I.tok _,⟨_,rfl⟩,q⟩
def call_str_int:CallR X (.type "str") (λxs H Q=>∃i,xs=[.int i]/\i.natAbs.log2<1920/\Q (.str (toString i)) H):=by rintro p s j H xs e Q I r ⟨i,rfl,d,q⟩;obtain⟨u,rfl,t,rfl⟩:=vals1 r;exact PySem.P.str_of_int d ⟨.str _,H,I.tok _,⟨_,rfl⟩,q⟩
end
structure ObjM (h:Heap)(x dx C:Addr)(mA:Mg):Prop where
 obj:h.get? x=some (W.instObj C dx)
 ns:h.Ns1 dx mA
 ne:dx≠x
def lookIn_ns {h:Heap}{d:Addr}{m:Mg}(n:h.Ns1 d m):∃od,h.get? d=some od/\∀b,W.lookIn b od=some (m b):=by
 obtain⟨o,f,r,l,i,j,_,k⟩:=n;refine⟨o,l,λb=>?_⟩;have e:=k b;unfold nsFind findBy at e;rw[<- Array.find?_toList]at e;unfold W.lookIn;rw[i];dsimp only;split
 .rename_i y q;rw[q]at e;exact congrArg some e
 .rename_i q;rw[q]at e;have a:f.toList.any (·.refKey)=false:=by rw[List.any_eq_false];intro y p;obtain⟨z,t,c⟩:=j y (Array.mem_toList_iff.mp p);simp[DictEntry.refKey,c]
  have g:¬f.toList.any (·.refKey)=true:=by rw[a];exact aJ
  rw[ag g];exact congrArg some e
def ObjM.look (I:ObjM h x dx C mA):∃od,W.InstAt h x (W.instObj C dx) C (some od)/\∀n,W.lookIn n od=some (mA n):=
 let ⟨od,ho,hl⟩:=lookIn_ns I.ns
 ⟨od,⟨I.obj,rfl,rfl,ho⟩,hl⟩
section
variable {prog:Program}{w:World}{A:Around}{E:Value->Shared->Prop}{s:Shared}{K:Fg}{x D C f:Addr}{m:Mg}{n:Str}{v:Value}
def get_map (X:K.In s.heap)(I:ObjM s.heap x D C m)(c:W.plainGet K C n=true)(d:W.hasDictIn K C=true)
  (b:W.findIn K (.ref C) n=some none) (g:m n=some v) (a:W.handedIn v=true) (h:Q v { s with toks:=s.toks+1 }) :
  wpAny (model prog w) A (getAttr (.ref x) n expr) Q E s:=by
 obtain⟨o,J,e⟩:=I.look;exact W.get_value X J (fx c).1 (iq d b rfl (by rw[e,g])) a h
def get_meth (X:K.In s.heap)(I:ObjM s.heap x D C m)(a:W.plainGet K C n=true)
  (b:W.findIn K (.ref C) n=some (some (.ref f))) (d:W.isFn K (.ref f)=true) (e:m n=none) (h:Q (.ref f,[.ref x]) s) :
  wpAny (model prog w) A (getMethod (.ref x) n pl) Q E s:=by
 obtain⟨o,J,c⟩:=I.look;exact W.method_fn X J (fx a).1 (fx a).2 b (beq_iff_eq.mp d) (by show(W.lookIn n o).map (·.isSome)=some false;rw[c,e];rfl) h
def set_map (X:K.In s.heap)(I:ObjM s.heap x D C m)
  (t:W.findIn K (.ref C) "__setattr__"=some (some (.builtin "object.__setattr__"))) (q:W.plainOver K C=true) (z:W.takerIn K C n=some none) (p:W.hasDictIn K C=true)
  (B:PySem.Within m ns) (u:ns.length<=sizeLine)
  (h:∀h',ObjM h' x D C (λy=>if y=n then some v else m y)->Heap.SameBut D s.heap h' -> Q () { s with heap:=h',toks:=s.toks+2 }) :
  wpAny (model prog w) A (setAttr (.ref x) n v) Q E s:=by
 obtain⟨L,J,G⟩:=I.look;refine W.set_plain X J t (W.osa_open (s:={ s with toks:=s.toks+1 }) (r:=none) X J q z λb=>?_);obtain⟨cd,o,g⟩:=eU p;have F:s.heap.get? x=some ⟨.ref C,some D,.plain,#[]⟩:=I.obj;refine ac (aO (ac (ac (fZ F (ac (W.Looks.here (s:={ s with toks:=s.toks+1 }) (fy X o) ?_))))));rw[g];refine aO (a:=some D) (ac (aO (ac ?_)));refine wpAny_nsSet1 (s:={ s with toks:=s.toks+1 }) I.ns λh' c d=>?_;obtain⟨H,l,k,j,i,e⟩:=c.count (PySem.Within.cons n v B);refine ac (wpAny_lookBehind j (by rw[i];exact pastItsLine_dict (aG e (by rw[bR];lia))) ?_);exact aO (h _ ⟨(d.2 _ (br I.ne)).trans I.obj,c,I.ne⟩ d)
def make_map (X:K.In s.heap)(e:W.makesIn K C=true)
  (c:W.findIn K (.ref C) "__init__"=some (some (.ref f))) (b:W.typeIn K (.ref f)=some (.type "function"))
  (h:codeAny (model prog w) (A.under (.builtin "type.__call__" ⟨.ref C::vs,kw⟩)) (.call (.ref f) ⟨.ref (s.heap.objs.size+1)::vs,kw⟩) (W.InitBack (s.heap.objs.size+1) R) { s with heap:=(s.heap.push W.emptyDict).push (W.instObj C s.heap.objs.size) }) :
  codeAny (model prog w) A (.call (.ref C) ⟨vs,kw⟩) R s:=by
 obtain⟨i,g,d,t,o⟩:=s;exact W.make_core (W.makes_of X e) (bK X c) (λa=>W.bind_fn X a b) (.inl rfl) h
end
def putF (f:Str)(v:V):List (Str×V)->List (Str×V)
 |[]=>[(f,v)]
 |(g,x)::r=>if g=f then(g,v)::r else(g,x)::putF f v r
def lookup_putF (f g:Str)(v:V):∀fs:List (Str×V),(putF f v fs).lookup g=if g=f then some v else fs.lookup g
 |[]=>by
  show List.lookup g [(f,v)]=_;by_cases h:g=f
  .have a:(g == f)=true:=beq_iff_eq.mpr h;simp only[List.lookup,a,ai h]
  .have a:(g == f)=false:=beq_eq_false_iff_ne.mpr h;simp only[List.lookup,a,ag h]
 |(k,x)::r=>by
  have i:=lookup_putF f g v r;rw[show putF f v ((k,x)::r)=(if k=f then(k,v)::r else(k,x)::putF f v r) from rfl];by_cases b:k=f
  .rw[ai b];by_cases h:g=k
   .have a:(g == k)=true:=beq_iff_eq.mpr h;simp only[List.lookup,a,ai (h.trans b)]
   .have a:(g == k)=false:=beq_eq_false_iff_ne.mpr h;simp only[List.lookup,a,ag (λe:g=f=>h (e.trans b.symm))]
  .rw[ag b];by_cases h:g=k
   .have a:(g == k)=true:=beq_iff_eq.mpr h;simp only[List.lookup,a,ag (λe:g=f=>b (h.symm.trans e))]
   .have a:(g == k)=false:=beq_eq_false_iff_ne.mpr h;simp only[List.lookup,a];exact i
def keys_putF (f:Str)(v:V):∀fs:List (Str×V),f∈(putF f v fs).map (·.1)/\∀g,g∈fs.map (·.1)->g∈(putF f v fs).map (·.1)
 |[]=>⟨by simp[putF],λg h=>by simp at h⟩
 |(k,x)::r=>by
  obtain⟨i,b⟩:=keys_putF f v r;rw[show putF f v ((k,x)::r)=(if k=f then(k,v)::r else(k,x)::putF f v r) from rfl];by_cases a:k=f
  .rw[ai a];subst a;exact⟨by simp,λg h=>by simpa using h⟩
  .rw[ag a];refine⟨?_,λg h=>?_⟩
   .rw[bT];exact aj _ i
   .rw[bT]at h ⊢;rcases aw.mp h with e|e
    .exact aw.mpr (.inl e)
    .exact aj _ (b g e)
def length_putF (f:Str)(v:V):∀fs:List (Str×V),(putF f v fs).length<=fs.length+1
 |[]=>by simp[putF]
 |(k,x)::r=>by
  have i:=length_putF f v r;rw[show putF f v ((k,x)::r)=(if k=f then(k,v)::r else(k,x)::putF f v r) from rfl];by_cases h:k=f
  .rw[ai h,bR,bR];lia
  .rw[ag h,bR,bR];lia
def RelO.some_of (r:RelO (some v) o):∃u,o=some u/\RelV v u:=by
 cases o with
 |none=>exact(show False from r).elim
 |some u=>exact⟨u,rfl,r⟩
def RelO.none_of (r:RelO none o):o=none:=by
 cases o with
 |none=>rfl
 |some u=>exact(show False from r).elim
def handed_of (r:RelV v u):W.handedIn u=true:=by
 cases v with
 |non=>cases (show u=Value.none from r);rfl
 |bl b=>cases (show u=Value.bool b from r);rfl
 |int i=>obtain⟨t,e⟩:=(show ∃t,u=Value.int i t from r);cases e;rfl
 |str x=>obtain⟨t,e⟩:=(show ∃t,u=Value.str x t from r);cases e;rfl
 |byt b=>obtain⟨t,e⟩:=(show ∃t,u=Value.bytes b t from r);cases e;rfl
 |flt b=>obtain⟨t,e⟩:=(show ∃t,u=Value.float b t from r);cases e;rfl
 |ref a=>cases (show u=Value.ref a from r);rfl
 |ty n=>cases (show u=Value.type n from r);rfl
section
variable {P:Program}{w:World}{H b:Hp}{h h':Heap}{a C D:Addr}{fs F:List (Str×V)}
def ins_get (c:HOk P w H h)(e:H a=some (.ins C D fs)):∃m,ObjM h a D C m/\(∀f,RelO (fs.lookup f) (m f))/\PySem.Within m (fs.map (·.1))/\fs.length<=1000/\H D=some (.own a):=by obtain⟨d,z,ne,ob,m,n,r,q⟩:=(show ObjOk P w H h a (.ins C D fs) from c a _ e);exact⟨m,⟨ob,n,ne⟩,r,q,z,d⟩
end
def Cls.get {K:Fg}{C:Addr}(c:Cls K C)(f:Str):W.plainGet K C f=true:=c.pg
def NoAttr.taker {K:Fg}{C:Addr}{f:Str}(n:NoAttr K C f):W.takerIn K C f=some none:=by unfold W.takerIn;rw[show W.findIn K (.ref C) f=some none from n];rfl
section
variable {X:Cx}{p:List (Addr×Obj)}{d:St}{H:Hp}{s:Shared}{a C D:Addr}{fs:List (Str×V)}{f:Str}{v:V}{A:Around}{E:Value->Shared->Prop}
def getattr_ok (I:Inv X p d H s)(e:H a=some (.ins C D fs))(c:Cls X.K C)(n:NoAttr X.K C f)(l:fs.lookup f=some v)
  (h:∀u s',Inv X p d H s' -> RelV v u->Q u s'):wpAny (model X.prog X.w) A (getAttr (.ref a) f b) Q E s:=by
 obtain⟨m,O,r,_,_,_⟩:=ins_get I.hok e;obtain⟨u,i,g⟩:=RelO.some_of (v:=v) (o:=m f) (by rw[<- l];exact r f);exact get_map I.kIn O (c.get f) c.hd n i (handed_of g) (h u _ (I.tok _) g)
def getmeth_ok (I:Inv X p d H s)(e:H a=some (.ins C D fs))(c:Cls X.K C)(k:Meth X.K C m g)(l:fs.lookup m=none)
  (h:Q (.ref g,[.ref a]) s):wpAny (model X.prog X.w) A (getMethod (.ref a) m pl) Q E s:=by
 obtain⟨i,O,r,_,_,_⟩:=ins_get I.hok e;have b:i m=none:=RelO.none_of (by rw[<- l];exact r m);exact get_meth I.kIn O (c.get m) k.at_ k.fn b h
def setattr_ok (I:Inv X p d H s)(e:H a=some (.ins C D fs))(c:Cls X.K C)(n:NoAttr X.K C f)(hl:fs.length<1000)(G:RelV y u)
  (h:∀s',Inv X p d (upd H a (.ins C D (putF f y fs))) s' -> Q () s'):wpAny (model X.prog X.w) A (setAttr (.ref a) f u) Q E s:=by
 obtain⟨m,O,r,w,_,j⟩:=ins_get I.hok e;have F:(fs.map (·.1)).length<=sizeLine:=by rw[ae,ao];lia
 refine set_map I.kIn O c.sa c.po n.taker c.hd w F λk i J=>h _ ?_;have t:∃o,k.get? D=some o:=let ⟨o,_,_,e',_⟩:=i.ns;⟨o,e'⟩
 refine I.write (x:=a) (e:=D) (by rw[e];exact tT) (.inr j) (λb q l z=>(J.2 b l).trans z) t ?_;refine⟨by rw[upd_ne O.ne];exact j,?_,O.ne,i.obj,_,i.ns,λg=>?_,λg B=>?_⟩
 .have:=length_putF f y fs;lia
 .show RelO ((putF f y fs).lookup g) (if g=f then some u else m g);rw[lookup_putF];by_cases q:g=f
  .rw[ai q,ai q];exact G
  .rw[ag q,ag q];exact r g
 .by_cases q:g=f
  .rw[q];exact(keys_putF f y fs).1
  .refine(keys_putF f y fs).2 g (w g λz=>B ?_);show(if g=f then some u else m g)=none;rw[ag q];exact z
def Inv.made (I:Inv X p d H s):Inv X p d (upd (upd H s.heap.objs.size (.own (s.heap.objs.size+1))) (s.heap.objs.size+1) (.ins C s.heap.objs.size []))
  { s with heap:=(s.heap.push W.emptyDict).push (W.instObj C s.heap.objs.size) }:=by
 have c:(s.heap.push W.emptyDict).get? s.heap.objs.size=some W.emptyDict:=aP s.heap rfl;have g:((s.heap.push W.emptyDict).push (W.instObj C s.heap.objs.size)).get? (s.heap.objs.size+1)=some (W.instObj C s.heap.objs.size):=by
  have:=aP (s.heap.push W.emptyDict) (o:=W.instObj C s.heap.objs.size) rfl
  rwa [ii]at this
 have h:(s.heap.push W.emptyDict).Ns s.heap.objs.size (λ_=>none):=⟨W.emptyDict,#[],_,c,rfl,(λe j=>absurd j (by simp)),λ_=>rfl⟩;have i:=I.laid (a:=s.heap.objs.size) (o:=.own (s.heap.objs.size+1)) (h':=s.heap.push W.emptyDict) (t':=s.toks) (λb u q=>af _ q) (aB _) ⟨_,c⟩;refine i.laid (a:=s.heap.objs.size+1) (o:=.ins C s.heap.objs.size []) (t':=s.toks) (λb u q=>af _ q) (iE (ii _ _)) ?_;have ne:s.heap.objs.size≠s.heap.objs.size+1:=aX (cg _);refine⟨by rw[upd_ne ne,upd_same],bA _,ne,g,λ_=>none,(Heap.Ns1.of_empty h).at λo q=>af _ q,λ_=>tT,λy k=>absurd rfl k⟩
def attr_of (c:attributeBase e f env (eval e env)=eval e env)
  (h:wpAny (model prog w) A (eval e env) (λo b=>wpAny (model prog w) A (getAttr o f true) Q E b) E s):wpAny (model prog w) A (eval (.Attribute e f pos) env) Q E s:=
 Attribute_any_ h (by rw[arm_eval_Attribute,c])
end
def tFld (K:Fg)(t:TE)(f:Str):TE:=λb H Q=>t b H λx h=>∃a C d fs v,x=.ref a/\h a=some (.ins C d fs)/\Cls K C/\NoAttr K C f/\fs.lookup f=some v/\Q v h
def sFld (K:Fg)(t e:TE)(f:Str):TS:=λD b H=>e b H λy c=>t b c λx h=>∃a C d fs,x=.ref a/\h a=some (.ins C d fs)/\Cls K C/\NoAttr K C f/\fs.length<1000 /\
 D.nx b (upd h a (.ins C d (putF f y fs)))
def InOp (X:Cx)(op:Operator)(r:V->V->Hp->VK->Prop):Prop:=
 ∀(p:List (Addr×Obj)) (s:Shared) (σ:St) (H:Hp) (x y:V) (u v:Value) (Q:VK),Inv X p σ H s->RelV x u->RelV y v->r x y H Q->wpAny (model X.prog X.w) X.A (inplaceOp op u v) (EP X p σ Q) X.xe s
def sFldAug (K:Fg)(t j:TE)(r:V->V->Hp->VK->Prop)(f:Str):TS:=λD c H=>t c H λx h=>∃a C i fs v,x=.ref a/\h a=some (.ins C i fs)/\Cls K C/\NoAttr K C f/\fs.lookup f=some v /\
 j c h λy g=>r v y g λz e=>∃d b,e a=some (.ins C d b)/\b.length<1000/\D.nx c (upd e a (.ins C d (putF f z b)))
section
variable {X:Cx}{o e b:Expr}{f:Str}{pos p d:Pos}{T g:TE}
def pe_fld (he:PE X e T)(w:attributeBase e f X.env (eval e X.env)=eval e X.env):PE X (.Attribute e f pos) (tFld X.K T f):=by intro i s A H Q I h;refine attr_of w (thn (he i s A H _ I h) λu D ⟨x,j,k,z,a,C,B,fs,v,t,r,c,n,l,q⟩=>?_);subst t;obtain rfl:u=Value.ref a:=z;exact getattr_ok k r c n l λF E m y=>⟨v,j,m,y,q⟩
def ps_fld (z:PE X o T)(B:PE X b g)(A:swapsWith b (some (.Attribute o f p)) pos.line X.env=pure false):PS X (.Assign [.Attribute o f p] b pos) (sFld X.K T g f):=by intro i s j H D I h;refine eG (thn (B i s j H _ I h) λu L ⟨y,k,m,J,q⟩=>thn (z i L j k _ m q) λE O ⟨x,M,r,G,a,C,N,fs,w,v,c,n,l,F⟩=>?_) A;subst w;obtain rfl:E=Value.ref a:=G;exact setattr_ok r v c n l J λP t=>⟨j,_,t,F⟩
def ps_fldaug (N:PE X o T)(O:PE X b g)(m:InOp X op rd):PS X (.AugAssign (.Attribute o f d) op b pos) (sFldAug X.K T g rd f):=by intro i s j H D I h;refine wpAny_AugAssign_AttributeAny (thn (N i s j H _ I h) λQ s1 ⟨x,r,w,Y,a,C,dx,fs,v,L,J,c,n,l,q⟩=>?_);subst L;obtain rfl:Q=Value.ref a:=Y;refine getattr_ok w J c n l λu s2 A U=>thn (O i s2 j r _ A q) λw3 s3 ⟨y,t,B,Z,R⟩=>thn (m i s3 j t v y u w3 _ B U Z R) λw4 s4 ⟨z,H3,E,rz,G,M,k,P,S⟩=>?_;exact setattr_ok E k c n P rz λs5 F=>⟨j,_,F,S⟩
def rAdd:V->V->Hp->VK->Prop:=λx y H Q=>∃i j,x=.int i/\y=.int j/\Q (.int (i+j)) H
def in_add:InOp X .Add rAdd:=by rintro a s k H x y u v Q I r h ⟨i,j,rfl,rfl,q⟩;obtain⟨t,rfl⟩:=(show ∃t,u=Value.int i t from r);obtain⟨c,rfl⟩:=(show ∃c,v=Value.int j c from h);exact PyProof.Rows.iadd_int ⟨.int (i+j),H,I.tok _,⟨_,rfl⟩,q⟩
end
section
variable {X:Cx}{P:List (Addr×Obj)}{d:St}{H:Hp}{s:Shared}{A:Around}{E:Value->Shared->Prop}{Q:Value->Shared->Prop}{c:Value}{b:Bool}
inductive TyOf (K:Fg)(H:Hp):V->Value->Prop where
 |non:TyOf K H .non (.type "NoneType")
 |bl (x:Bool):TyOf K H (.bl x) (.type "bool")
 |int (i:Int):TyOf K H (.int i) (.type "int")
 |str (x:Str):TyOf K H (.str x) (.type "str")
 |flt (x:UInt64):TyOf K H (.flt x) (.type "float")
 |lst {a:Addr} {xs:List V} (e:H a=some (.lst xs)):TyOf K H (.ref a) (.type "list")
 |frz {a:Addr} {o:Obj} {xs:List V} (e:H a=some (.frz o (.lst xs))):TyOf K H (.ref a) (.type "list")
 |tup {a:Addr} {xs:List V} (e:H a=some (.tup xs)):TyOf K H (.ref a) (.type "tuple")
 |dK {a:Addr} {kvs:List (Key×V)} (e:H a=some (.dK kvs)):TyOf K H (.ref a) (.type "dict")
 |dT {a:Addr} {kvs:List (List Key×V)} (e:H a=some (.dT kvs)):TyOf K H (.ref a) (.type "dict")
 |ins {a C dx:Addr} {fs:List (Str×V)} (e:H a=some (.ins C dx fs)) (cl:Cls K C) (ha:W.findIn K (.ref C) "__class__"=some (some (.builtin "object.__class__")))
   (hn:W.specialIn K (.builtin "object.__class__") "__get__"=some (some (.builtin "getset_descriptor.__get__"))) (htk:W.takesIn K (.builtin "object.__class__")=some true)
   (hm:W.mroIn K C (.type "object")=some true):TyOf K H (.ref a) (.ref C)
def isinst_ok (I:Inv X P d H s)(r:RelV x u)(ty:TyOf X.K H x t)(e:W.kitOne X.K t c=some b)(h:∀tk,Q (.bool b) { s with toks:=tk }) :
  wpAny (model X.prog X.w) A (call (.builtin "isinstance") [u,c]) Q E s:=by
 cases ty with
 |non=>cases (show u=Value.none from r);exact bG W.kitx_none I.kIn tT e (λz=>nomatch z) h
 |bl y=>cases (show u=Value.bool y from r);exact bG W.kitx_bool I.kIn tT e (λz=>nomatch z) h
 |int i=>obtain⟨t,q⟩:=(show ∃t,u=Value.int i t from r);cases q;exact bG W.kitx_int I.kIn tT e (λz=>nomatch z) h
 |str y=>obtain⟨t,q⟩:=(show ∃t,u=Value.str y t from r);cases q;exact bG W.kitx_str I.kIn tT e (λz=>nomatch z) h
 |flt y=>obtain⟨t,q⟩:=(show ∃t,u=Value.float y t from r);cases q;exact bG W.kitx_float I.kIn tT e (λz=>nomatch z) h
 |@lst a xs ea=>cases (show u=Value.ref a from r);obtain⟨_,_,n,_,f⟩:=(show ObjOk X.prog X.w H s.heap a (.lst xs) from I.hok a _ ea);exact bG W.kitx_list I.kIn ⟨_,f,rfl⟩ e (λz=>nomatch z) h
 |@frz a ob xs ea=>cases (show u=Value.ref a from r);obtain⟨_,_,_,n,_,f⟩:=(show ObjOk X.prog X.w H s.heap a (.frz ob (.lst xs)) from I.hok a _ ea);exact bG W.kitx_list I.kIn ⟨_,f,rfl⟩ e (λz=>nomatch z) h
 |@tup a xs ea=>cases (show u=Value.ref a from r);obtain⟨_,_,_,p⟩:=(show ObjOk X.prog X.w H s.heap a (.tup xs) from I.hok a _ ea);obtain⟨o,f,g,_⟩:=p;exact bG W.kitx_tuple I.kIn ⟨o,f,g⟩ e (λz=>nomatch z) h
 |@dK a kvs ea=>cases (show u=Value.ref a from r);obtain⟨_,_,v,_,p⟩:=(show ObjOk X.prog X.w H s.heap a (.dK kvs) from I.hok a _ ea);obtain⟨o,k,j,f,g,_⟩:=p;exact bG W.kitx_dict I.kIn ⟨o,f,g.1⟩ e (λz=>nomatch z) h
 |@dT a kvs ea=>cases (show u=Value.ref a from r);obtain⟨_,_,xs,_,o,k,j,f,g,_⟩:=(show ObjOk X.prog X.w H s.heap a (.dT kvs) from I.hok a _ ea);exact bG W.kitx_dict I.kIn ⟨o,f,g.1⟩ e (λz=>nomatch z) h
 |@ins a C dx fs ea cl ha hn htk hm=>cases (show u=Value.ref a from r);obtain⟨m,O,_⟩:=ins_get I.hok ea;obtain⟨l,J,_⟩:=O.look;exact bG (W.kitx_own (cl.get _) cl.hd ha hn htk hm) I.kIn J e (λz=>nomatch z) h
end
def Room.mono (r:Room k A)(h:j<=k):Room j A:=⟨r.hd,by have:=r.dp;lia,by have:=r.un;lia⟩
def Room.deeper (r:Room (k+1) A)(env:Env):Room k (A.deeper env):=
 ⟨r.hd,by have:=r.dp;show A.depth+1+3*k+5<_;lia,by have:=r.un;show A.units+3+16*k+200<_;lia⟩
def Room.in1 (r:Room (k+1) A):Room k A.in1:=
 ⟨r.hd,by have:=r.dp;show A.depth+3*k+5<_;lia,by have:=r.un;show A.units+1+16*k+200<_;lia⟩
def make_depth {A:Around}{C:Addr}{us:Lv}{k:List (Str×Value)}:(A.under (.builtin "type.__call__" ⟨.ref C::us,k⟩)).depth=A.depth+1:=by
 first|rfl|simp[Around.under,Code.weight,Code.isCreation,Code.isGuard,Code.isCaller,Code.frames,Code.isFrame,guardIds]
def make_units {A:Around}{C:Addr}{us:Lv}{k:List (Str×Value)}:(A.under (.builtin "type.__call__" ⟨.ref C::us,k⟩)).units=A.units+1:=by
 first|rfl|simp[Around.under,Code.cUnits,Code.frames,Code.isFrame]
def Room.make (r:Room (k+1) A)(C:Addr)(us:Lv)(a:List (Str×Value)):Room k (A.under (.builtin "type.__call__" ⟨.ref C::us,a⟩)):=
 ⟨r.hd,by have:=r.dp;rw[make_depth];lia,by have:=r.un;rw[make_units];lia⟩
def Room.depth (r:Room k A):A.depth<recursionLimit:=by have:=r.dp;lia
def Room.units (r:Room k A):A.units+64<cLine:=by have:=r.un;lia
def tNil:TA:=λ_ H Q=>Q [] H
def tCons (t:TE)(c:TA):TA:=λa H Q=>t a H λx h=>c a h λxs b=>Q (x::xs) b
section
variable {X:Cx}{e:Expr}{E:List Expr}{T:TE}{t:TA}{pos:Pos}
def pa_nil:PA X [] tNil:=λ_ _ _ _ H Q I h=>Calls.spliced_nil ⟨[],H,I,.nil,h⟩
def pa_cons (f:PE X e T)(g:PA X E t)(j:starEach (e::E) X.env=(false,eval e X.env)::starEach E X.env:=by rfl):PA X (e::E) (tCons T t):=by intro pos p s a H Q I h;rw[j];show wpAny _ _ (spliced ((false,eval e X.env)::backTo pos (starEach E X.env))) _ _ s;refine Calls.spliced_cons (thn (f p s a H _ I h) λu m ⟨x,b,i,r,q⟩=>?_);exact thn (g pos p m a b _ i q) λo n ⟨xs,c,d,l,k⟩=>⟨x::xs,c,d,.cons r l,k⟩
def tTup (t:TA):TE:=λa H Q=>t a H λxs h=>xs.length<=sizeLine/\∀p,h p=none->Q (.ref p) (upd h p (.tup xs))
def tLst (t:TA):TE:=λa H Q=>t a H λxs h=>xs.length<=sizeLine/\∀p,h p=none->Q (.ref p) (upd h p (.lst xs))
def pe_tup (h:PA X E t):PE X (.Tuple E x1 pos) (tTup t):=by intro p s j H Q I f;refine wpAny_Tuple_spliced (thn (h pos p s j H _ I f) λg a ⟨xs,c,i,r,z,q⟩=>⟨by rw[<- r.length];exact z,?_⟩);have d:c a.heap.objs.size=none:=i.hok.fresh (aB _);refine⟨.ref a.heap.objs.size,upd c a.heap.objs.size (.tup xs),i.laid (t':=a.toks) (λb u e=>af _ e) (aB _) ?_,rfl,q _ d⟩;exact⟨z,g,r,⟨_,aP _ rfl,rfl,_,rfl⟩⟩
def pe_lst (h:PA X E t):PE X (.List E pos) (tLst t):=by intro p s j H Q I f;refine wpAny_List_spliced (thn (h pos p s j H _ I f) λg a ⟨xs,c,i,r,z,q⟩=>⟨by rw[<- r.length];exact z,?_⟩);have d:c a.heap.objs.size=none:=i.hok.fresh (aB _);refine⟨.ref a.heap.objs.size,upd c a.heap.objs.size (.lst xs),i.laid (t':=a.toks) (λb u e=>af _ e) (aB _) ?_,rfl,q _ d⟩;exact⟨z,g,0,r,aP _ rfl⟩
end
def FnOk.mono {P:Program}{w:World}{K:Fg}{mg:Mg}{base:Heap}{CX:CXT}{j k:Nat}{f:Addr}{b:FuncData}{p:Ls}{sp:Sp}(F:FnOk P w K mg base CX j f b p sp)(h:j<=k) :
  FnOk P w K mg base CX k f b p sp:=⟨F.len,λA o s H a u v Q E c=>F.run A o s H a u v Q E (c.mono h)⟩
def FnOk.imp {P:Program}{w:World}{K:Fg}{mg:Mg}{base:Heap}{CX:CXT}{k:Nat}{f:Addr}{c:FuncData}{p:Ls}{sp b:Sp}(F:FnOk P w K mg base CX k f c p sp)
  (h:∀vs H Q E,b vs H Q E->sp vs H Q E):FnOk P w K mg base CX k f c p b:=
 ⟨λvs H Q E q=>F.len vs H Q E (h _ _ _ _ q),λA o s H a u vs Q E g e d j i=>F.run A o s H a u vs Q E g e d j (h _ _ _ _ i)⟩
def Env0.make {P:Program}{w:World}{K:Fg}{mg:Mg}{base:Heap}{A:Around}{outer:List Env}{s:Shared}{H:Hp}(e:Env0 P w K mg base A outer s H)(C:Addr)(us:Lv)(k:List (Str×Value)) :
  Env0 P w K mg base (A.under (.builtin "type.__call__" ⟨.ref C::us,k⟩)) outer s H:=⟨by first|exact e.frames|(simpa [Around.under,Code.envs,Code.isFrame,pushEnvs] using e.frames),e.mod,e.bs,e.bsz,e.funs,e.frf,e.hok,e.bare⟩
def Env0.in1 {P:Program}{w:World}{K:Fg}{mg:Mg}{base:Heap}{A:Around}{outer:List Env}{s:Shared}{H:Hp}(e:Env0 P w K mg base A outer s H) :
  Env0 P w K mg base A.in1 outer s H:=⟨e.frames,e.mod,e.bs,e.bsz,e.funs,e.frf,e.hok,e.bare⟩
section
variable {X:Cx}{p:List (Addr×Obj)}{a:St}{H:Hp}{s s':Shared}
def Inv.env0 (I:Inv X p a H s):Env0 X.prog X.w X.K X.mg X.base X.A X.stack s H:=
 ⟨I.ok.frames,I.ok.mod,I.bs,aG I.ok.bsz I.sz,I.stack,⟨I.stkFree,λx h=>let ⟨ps,e⟩:=I.ok.frf.t x h;let ⟨more,e'⟩:=I.base.tbls x.2.1 _ e;⟨ps++more,e'⟩⟩,I.hok,I.bare⟩
def Inv.after (I:Inv X p a H s)(h:CE X.stack X.prog X.w H s Q u s'):EP X p a Q u s':=by obtain⟨v,f,j,c,un,e,r,q⟩:=h;obtain⟨i,g,d,t,o⟩:=s';obtain rfl:o=s.os:=j;exact⟨v,f,I.call (h':=i) (g':=g) (d':=d) (t':=t) (ch:=[]) un e c (λb z=>absurd z (by simp)),r,q⟩
end
def tCall (sp:Sp)(d:List V)(E:XK)(t:TA):TE:=λa H Q=>t a H λv h=>sp (v++d) h Q E
def tMeth (C:Addr)(m:Str)(sp:Sp)(d:List V)(E:XK)(f:TE)(t:TA):TE:=λb H Q=>f b H λx h=>∃a e fs,x=.ref a/\h a=some (.ins C e fs)/\fs.lookup m=none /\
 t b h λv c=>sp (x::(v++d)) c Q E
def tMake (C:Addr)(sp:Sp)(a:List V)(E:XK)(t:TA):TE:=λe H Q=>t e H λc h=>∀x d,h x=none->h d=none->d≠x ->
 sp (.ref x::(c++a)) (upd (upd h d (.own x)) x (.ins C d [])) (λv b=>v=.non/\Q (.ref x) b) E
def Passes (CX:CXT)(X:Cx)(E:XK):Prop:=∀(p:List (Addr×Obj)) (σ:St) (H:Hp) (s:Shared) (e:Value) (s':Shared),Inv X p σ H s->CX X.stack H s E e s' -> X.xe e s'
section
variable {X:Cx}{CX:CXT}{k:Nat}{f C:Addr}{g:FuncData}{P:List Str}{sp:Sp}{d:List V}{ds:List Value}{E:XK}{x m:Str}{p pos A:Pos}{e o:Expr}{b:List Expr}{T:TE}{t:TA}
def run_fn (F:FnOk X.prog X.w X.K X.mg X.base CX k f g P sp)(w:Room k X.A)(n:Binds X.K g P ds)(q:Vals d ds)(y:Passes CX X E)
  (I:Inv X a j H s) (r:Vals vs us) (h:sp (vs++d) H Q E):wpAny (model X.prog X.w) X.A (call (.ref f) us) (EP X a j Q) X.xe s:=by
 have i:Vals (vs++d) (us++ds):=r.append q;have v:(us++ds).length=P.length:=by rw[<- i.length];exact F.len _ _ _ _ h
 refine cq (dS (F.run X.A X.stack s H ⟨us,[]⟩ (us++ds) (vs++d) Q E w I.env0 (n s us I.kIn v) i h) λr z c=>?_);cases r with
 |error e=>exact y a j H s e z I c
 |ok l=>
  cases l with
  |ret u=>exact I.after c
  |next=>exact False.elim c
  |brk=>exact False.elim c
  |cont=>exact False.elim c
def pe_call (F:FnOk X.prog X.w X.K X.mg X.base CX k f g P sp)(z:Room k X.A)(v:Gl X x)(y:X.mg x=some (.ref f))(w:W.keepIn X.K (.ref f)=true)(n:Binds X.K g P ds)(u:Vals d ds)(B:Passes CX X E)
  (l:PA X (e::b) t) (c:(x == ("__debug__":Str))=false:=by decide) (he:starEach (e::b) X.env=(false,eval e X.env)::starEach b X.env:=by rfl) (i:(backTo pos (starEach b X.env)).any (·.1)=false:=by rfl) :
  PE X (.Call (.Name x p) (e::b) [] pos) (tCall sp d E t):=by
 intro a s D H Q I h;refine bD (ld_glob I v y ?_ c);refine cr (h₀:=X.base) I.ok.mod.kin w (thn (l pos a s D H _ I h) λL J ⟨M,G,j,r,q⟩=>⟨j.kIn,?_⟩) he i;exact run_fn F z n u B j r q
def pe_meth (he:PE X o T)(c:Cls X.K C)(y:Meth X.K C m f)(F:FnOk X.prog X.w X.K X.mg X.base CX k f g P sp)(N:Room k X.A)(L:Binds X.K g P ds)(M:Vals d ds)(R:Passes CX X E)(J:PA X (e::b) t)
  (n:starEach (e::b) X.env=(false,eval e X.env)::starEach b X.env:=by rfl) (j:(backTo pos (starEach b X.env)).any (·.1)=false:=by rfl)
  (O:eval (.Call (.Attribute o m A) (e::b) [] pos) X.env=(do
   let ov <- eval o X.env
   standAt A.atName
   let (f,first) <- holding [ov] (getMethod ov m pl)
   callWith pos f first (backTo pos (starEach (e::b) X.env)) (backToKw pos (keywordEach [] X.env))):=by rfl) :
  PE X (.Call (.Attribute o m A) (e::b) [] pos) (tMeth C m sp d E T t):=by
 intro i s z H Q I h;refine dw (pl:=pl) (thn (he i s z H _ I h) λu Y ⟨x,B,v,U,a,dx,fs,G,D,l,q⟩=>?_) O;subst G;obtain rfl:u=Value.ref a:=U;refine getmeth_ok v D c y l ?_;refine cr (first:=[.ref a]) (h₀:=X.base) I.ok.mod.kin y.kp (thn (J pos i Y z B _ v q) λus s2 ⟨vs,Z,w,r,S⟩=>⟨w.kIn,?_⟩) n j
 exact run_fn (us:=.ref a::us) (vs:=.ref a::vs) F N L M R w (.cons rfl r) S
def pe_meth0 (he:PE X o T)(c:Cls X.K C)(n:Meth X.K C m f)(F:FnOk X.prog X.w X.K X.mg X.base CX k f g P sp)(z:Room k X.A)(w:Binds X.K g P ds)(y:Vals d ds)(D:Passes CX X E)
  (B:eval (.Call (.Attribute o m A) [] [] pos) X.env=(do
   let ov <- eval o X.env
   standAt A.atName
   let (f,first) <- holding [ov] (getMethod ov m pl)
   callWith pos f first (backTo pos (starEach [] X.env)) (backToKw pos (keywordEach [] X.env))):=by rfl) :
  PE X (.Call (.Attribute o m A) [] [] pos) (tMeth C m sp d E T tNil):=by
 intro i s J H Q I h;refine dw (pl:=pl) (thn (he i s J H _ I h) λu N ⟨x,L,j,G,a,M,fs,v,r,l,q⟩=>?_) B;subst v;obtain rfl:u=Value.ref a:=G;refine getmeth_ok j r c n l ?_;exact ir (first:=[.ref a]) j.kIn n.kp (run_fn (us:=[.ref a]) (vs:=[.ref a]) F z w y D j (.cons rfl .nil) q)
def run_make (M:Mk X.K C f)(F:FnOk X.prog X.w X.K X.mg X.base CX k f g P sp)(L:Room (k+1) X.A)(D:Binds X.K g P ds)(G:Vals d ds)
  (N:Passes CX X E) (I:Inv X c q H s) (r:Vals vs us)
  (h:∀x j,H x=none->H j=none->j≠x->sp (.ref x::(vs++d)) (upd (upd H j (.own x)) x (.ins C j [])) (λv y=>v=.non/\Q (.ref x) y) E) :
  wpAny (model X.prog X.w) X.A (call (.ref C) us) (EP X c q Q) X.xe s:=by
 have l:=h (s.heap.objs.size+1) s.heap.objs.size (I.hok.fresh (bO _)) (I.hok.fresh (aB _)) (aX (cg _));have i:=Inv.made (C:=C) I;have n:Vals (V.ref (s.heap.objs.size+1)::(vs++d)) (Value.ref (s.heap.objs.size+1)::(us++ds)):=.cons rfl (r.append G);have J:(Value.ref (s.heap.objs.size+1)::us++ds).length=P.length:=by have e:=n.length;rw[F.len _ _ _ _ l]at e;exact e.symm
 refine cq (make_map (f:=f) I.kIn M.makes M.init (beq_iff_eq.mp M.fn) (dS (F.run _ X.stack _ _ ⟨Value.ref (s.heap.objs.size+1)::us,[]⟩ (Value.ref (s.heap.objs.size+1)::(us++ds)) _ _ E (L.make C us []) (i.env0.make C us []) (D _ (Value.ref (s.heap.objs.size+1)::us) i.kIn J) n l) λr S a=>?_))
 cases r with
 |error e=>exact N c q _ _ e S i a
 |ok B=>
  cases B with
  |ret u=>obtain⟨v,w,z,R,ev,O⟩:=i.after a;subst ev;exact⟨R,⟨V.ref (s.heap.objs.size+1),w,z,rfl,O⟩⟩
  |next=>exact False.elim a
  |brk=>exact False.elim a
  |cont=>exact False.elim a
def pe_make (M:Mk X.K C f)(F:FnOk X.prog X.w X.K X.mg X.base CX k f g P sp)(y:Room (k+1) X.A)(v:Gl X x)(w:X.mg x=some (.ref C))(n:Binds X.K g P ds)(u:Vals d ds)(z:Passes CX X E)
  (l:PA X (e::b) t) (c:(x == ("__debug__":Str))=false:=by decide) (he:starEach (e::b) X.env=(false,eval e X.env)::starEach b X.env:=by rfl) (i:(backTo pos (starEach b X.env)).any (·.1)=false:=by rfl) :
  PE X (.Call (.Name x p) (e::b) [] pos) (tMake C sp d E t):=by
 intro a s B H Q I h;refine bD (ld_glob I v w ?_ c);refine cr (h₀:=X.base) I.ok.mod.kin M.kp (thn (l pos a s B H _ I h) λJ G ⟨L,D,j,r,q⟩=>⟨j.kIn,?_⟩) he i;exact run_make M F y n u z j r q
def pe_make0 (M:Mk X.K C f)(F:FnOk X.prog X.w X.K X.mg X.base CX k f g P sp)(q:Room (k+1) X.A)(l:Gl X x)(n:X.mg x=some (.ref C))(i:Binds X.K g P ds)(j:Vals d ds)(r:Passes CX X E)
  (a:(x == ("__debug__":Str))=false:=by decide):PE X (.Call (.Name x p) [] [] pos) (tMake C sp d E tNil):=by
 intro c s u H Q I h;refine bD (ld_glob I l n ?_ a);exact ir I.kIn M.kp (run_make (us:=[]) M F q i j r I .nil h)
end
structure FnScope (N P:List Str)(sc:Scope):Prop where
 kind:sc.kind=.function
 co:sc.isCoroutine=false
 gen:sc.isGenerator=false
 nd:N.Nodup
 pre:N.take P.length=P
 par:∀x∈P,sc.names.lookup x=some .local\/sc.names.lookup x=some .cell
 nofree:∀y∈sc.names,y.2 ≠ .free
def bindL_out {k:Str->Option NameKind}:∀{binds:List (Str×Value)} {m:Mg},(∀v,(x,v)∉binds)->bindL k binds m x=m x
 |[],_,_=>rfl
 |(n,v)::r,m,h=>by
  unfold bindL;rw[bindL_out λw a=>h w (aj _ a)];split
  .have:x≠n:=by rintro rfl;exact h v aA
   simp[this]
  .rfl
def bindC_out {k:Str->Option NameKind}:∀{binds:List (Str×Value)} {m:Mg},(∀v,(x,v)∉binds)->bindC k binds m x=m x
 |[],_,_=>rfl
 |(n,v)::r,m,h=>by
  unfold bindC;rw[bindC_out λw a=>h w (aj _ a)];split
  .rfl
  .have:x≠n:=by rintro rfl;exact h v aA
   simp[this]
def bindL_get {k:Str->Option NameKind}:∀{P:Ls} {vs:Lv} {i:Nat} {m:Mg},P.Nodup->P[i]?=some x->vs[i]?=some v->k x=some .local ->
  bindL k (P.zip vs) m x=some v
 |[],_,_,_,_,h,_,_=>by simp at h
 |_::_,[],_,_,_,_,h,_=>by simp at h
 |p::P,w::vs,0,m,nd,h1,h2,hk=>by simp at h1 h2;subst h1;subst h2;show bindL k ((p,w)::P.zip vs) m p=_;unfold bindL;rw[bindL_out λv a=>(cX.mp nd).1 (gS a).1,ai hk];simp
 |p::P,w::vs,i+1,m,nd,h1,h2,hk=>by show bindL k ((p,w)::P.zip vs) m x=_;unfold bindL;exact bindL_get (i:=i) (cX.mp nd).2 (by simpa using h1) (by simpa using h2) hk
def bindC_get {k:Str->Option NameKind}:∀{P:Ls} {vs:Lv} {i:Nat} {m:Mg},P.Nodup->P[i]?=some x->vs[i]?=some v->k x≠some .local ->
  bindC k (P.zip vs) m x=some v
 |[],_,_,_,_,h,_,_=>by simp at h
 |_::_,[],_,_,_,_,h,_=>by simp at h
 |p::P,w::vs,0,m,nd,h1,h2,hk=>by simp at h1 h2;subst h1;subst h2;show bindC k ((p,w)::P.zip vs) m p=_;unfold bindC;rw[bindC_out λv a=>(cX.mp nd).1 (gS a).1,ag hk];simp
 |p::P,w::vs,i+1,m,nd,h1,h2,hk=>by show bindC k ((p,w)::P.zip vs) m x=_;unfold bindC;exact bindC_get (i:=i) (cX.mp nd).2 (by simpa using h1) (by simpa using h2) hk
def start (N:List Str)(vs:List V):St:=vs.map some++List.replicate (N.length-vs.length) none
def cxOf (CX:CXT)(P:Program)(w:World)(K:Fg)(mg:Mg)(base:Heap)(N:List Str)(q:Str)(scope:Scope)(f:Addr)(cd:Value)(A:Around)(outer:List Env)(s:Shared)(H:Hp)(E:XK):Cx where
 prog:=P
 w:=w
 K:=K
 mg:=mg
 base:=base
 A:=A.deeper (envOfC q scope s.heap.objs.size f cd)
 N:=N
 s₀:=s
 H₀:=H
 env:=envOfC q scope s.heap.objs.size f cd
 outer:=outer
 stack:=envOfC q scope s.heap.objs.size f cd::outer
 ex:=[]
 calm:=true
 fn:=λ_=>true
 pn:=[]
 xe:=λe c=>wpAny (model P w) (A.deeper (envOfC q scope s.heap.objs.size f cd)) (leaving (envOfC q scope s.heap.objs.size f cd) e) (λ_ a=>CX outer H s E e a) (λb a=>CX outer H s E b a) c
def cell_has {sc:Scope}{n:Nat}{x:Str}(h:sc.names.lookup x=some .cell):∃c,(cellsFrom n sc.names []).lookup x=some c:=by have q:=gP sc.names n [] (.inl h);exact b7.mp q
def inv_start {CX:CXT}{P:Program}{w:World}{K:Fg}{mg:Mg}{base:Heap}{N l:Ls}{d:Str}{scope:Scope}{f:Addr}{cd:Value}{A:Around}{outer:List Env}{s s1:Shared}{H:Hp}{E:XK}{us:Lv}{vs:List V}
  (S:FnScope N l scope) (G:A.handled=none) (e0:Env0 P w K mg base A outer s H) (hl:vs.length=l.length) (r:Vals vs us)
  (x:InCallC s s.heap.objs.size (bindL (envOfC d scope s.heap.objs.size f cd).kindOf (l.zip us) λ_=>none) (cellsFrom (s.heap.objs.size+1) scope.names []) (bindC (envOfC d scope s.heap.objs.size f cd).kindOf (l.zip us) λ_=>none) s1) :
  Inv (cxOf CX P w K mg base N d scope f cd A outer s H E) [] (start N vs) H s1:=by
 have I:l.length<=N.length:=by have:=congrArg List.length S.pre;rw[c9]at this;lia
 obtain⟨t,M,rfl,C⟩:=x.done;have noA:∀b:Addr,b∉(cxOf CX P w K mg base N d scope f cd A outer s H E).ex:=λb z=>absurd (show b∈([]:List Addr) from z) (by simp);refine⟨⟨e0.mod,S.kind,rfl,rfl,aB _,λy z c t g=>?_,λy j=>?_,λy c _ h=>?_,λ_=>G,Around.frames_deeper e0.frames,.inr ⟨rfl,rfl⟩,λb z=>absurd z (noA b),e0.bs,e0.bsz,λb _ _=>noA b,λb z=>absurd z (noA b),e0.funs,e0.frf⟩,rfl,e0.bare,Un.kept C,⟨_,x.toInCall.ns,λi y v t g L=>?_⟩,λy c h=>⟨_,x.cell y c h⟩,e0.hok.fresh (aB _),λy c h=>?_,λp m=>absurd (show p∈([]:List (Addr×Obj)) from m) (by simp),e0.hok.kept C,?_⟩
 .exact name_of_addr x.apart (cF t) (cF g)
 .have j:scope.names.lookup y=some .cell\/scope.names.lookup y=some .free:=j;rcases j with j|j
  .exact cell_has j
  .exact absurd rfl (S.nofree _ (cF j))
 .exact bv (x.above y c (cF h))
 .have B:i<vs.length:=by
   unfold start at g;by_cases B:i<vs.length
   .exact B
   .rw[bh (by simpa using B)]at g;rw[cA]at g;split at g<;>cases g
  have F:vs[i]?=some v:=by
   unfold start at g;rw[aW (by simpa using B),aE]at g;cases e:vs[i]? with
   |none=>rw[e]at g;cases g
   |some a=>rw[e]at g;cases g;rfl
  obtain⟨u,D,J⟩:=r.get F;have m:l[i]?=some y:=by rw[<- S.pre,List.getElem?_take_of_lt (by lia)];exact t
  have o:l.Nodup:=by rw[<- S.pre];exact S.nd.sublist (List.take_sublist _ _)
  refine⟨u,J,?_⟩;rcases S.par y (bn m) with k|k
  .exact .inl ⟨k,bindL_get o m D k⟩
  .obtain⟨c,e⟩:=cell_has (n:=s.heap.objs.size+1) k;refine .inr ⟨.inl k,c,e,?_⟩;have q:=x.cell y c e;rw[bindC_get o m D (by show scope.names.lookup y≠_;rw[k];decide)]at q;exact q
 .exact e0.hok.fresh (bv (x.above y c (cF h)))
 .unfold start;show _=N.length;rw[aM,ae,a7];lia
def fn_of {CX:CXT}{P:Program}{w:World}{K:Fg}{mg:Mg}{base:Heap}{k:Nat}{f:Addr}{g a:Str}{p:Arguments}{body:List Stmt}{scope:Scope}{T kV m U c ct oc:Value}{an od:Option Addr}
  {G:Array (Option Value)} {N B:List Str} {sp:Sp} (lk:K.lookup f=some ⟨oc,od,.func (W.fnOf g a p body scope T kV m U an c ct),G⟩) (C:W.codeIn K c a=true) (S:FnScope N B scope)
  (len:∀vs H Q E,sp vs H Q E->vs.length=B.length)
  (i:∀(A:Around) (outer:List Env) (s:Shared) (H:Hp) (vs:List V) (Q:VK) (E:XK),Room k (A.deeper (envOfC a scope s.heap.objs.size f c))->sp vs H Q E -> ∃t,PSs (cxOf CX P w K mg base N a scope f c A outer s H E) body t/\t { nx:=λ_ h=>Q .non h,rt:=Q } (start N vs) H) :
  FnOk P w K mg base CX (k+1) f (W.fnOf g a p body scope T kV m U an c ct) B sp:=by
 refine⟨len,λA outer s H R us vs Q E D e0 hb r z=>?_⟩;have hl:=len _ _ _ _ z;have O:K.In s.heap:=e0.mod.kin.keeps λb o e=>(e0.bs b o e).1;have F:s.heap.NoLimit:=e0.mod.nolimit.keeps λb o e=>(e0.bs b o e).1;have j:∀y∈B.zip us,scope.names.lookup y.1=some .local\/(scope.names.lookup y.1=some .cell/\((cellsFrom (s.heap.objs.size+1) scope.names []).lookup y.1).isSome=true):=λ⟨n,v⟩ hy=>by
  rcases S.par n (gS hy).1 with q|q
  .exact .inl q
  .exact .inr ⟨q,gP _ _ _ (.inl q)⟩
 refine codeAny_call_function D.depth (O _ _ lk) rfl S.co S.gen rfl (W.codeRec_of O C) (hb _ _ _ _ ?_);refine wpAny_newFunctionEnv_cells S.kind j λZ he Y x=>?_;subst he;refine⟨F.keeps x.toInCall.keep,codeAny_func ?_⟩;obtain⟨t,ht,hq⟩:=i A outer s H vs Q E (D.deeper _) z;have I:Inv (cxOf CX P w K mg base N a scope f c A outer s H E) [] (start N vs) H Y:=inv_start S D.hd e0 hl r x;refine cU (ht [] Y (start N vs) H _ I hq) (λfl M l=>?_) λe M l=>l;have fin:∀{d:St} {h:Hp} {v:V} {u:Value},Inv (cxOf CX P w K mg base N a scope f c A outer s H E) [] d h M -> RelV v u->Q v h -> CE outer P w H s Q u M:=
  λ{d h v u} J L q=>⟨v,h,J.os,J.bare,J.base,J.hok,L,q⟩
 cases fl with
 |ret u=>obtain⟨v,d,h,J,L,q⟩:=l;exact fin J L q
 |next=>obtain⟨d,h,J,q⟩:=l;exact fin (v:=V.non) (u:=Value.none) J rfl q
 |brk=>obtain⟨_,_,_,q⟩:=l;exact False.elim q
 |cont=>obtain⟨_,_,_,q⟩:=l;exact False.elim q
section
variable {X:Cx}{x:Str}{p pos:Pos}{e:Expr}{E:List Expr}{t:TA}{id T:String}{r:List V->Hp->VK->Prop}
def tCB (r:List V->Hp->VK->Prop)(t:TA):TE:=λa H Q=>t a H λv h=>r v h Q
def pe_callB (j:CallR X (.builtin id) r)(k:Gl X x)(l:X.mg x=none)(n:bootBuiltins x=some (.builtin id))(g:PA X (e::E) t)(m:x≠"__name__":=by decide)(b:(x == ("__debug__":Str))=false:=by decide)
  (he:starEach (e::E) X.env=(false,eval e X.env)::starEach E X.env:=by rfl) (c:(backTo pos (starEach E X.env)).any (·.1)=false:=by rfl):PE X (.Call (.Name x p) (e::E) [] pos) (tCB r t):=by
 intro a s d H Q I h;refine bD (ld_blt I k l n ?_ m b);exact PyProof.Rows.callWith_builtin1 (thn (g pos a s d H _ I h) λv u ⟨w,f,i,o,q⟩=>j a u d f w v Q i o q) he c
def pe_callTy (j:CallR X (.type T) r)(k:Gl X x)(l:X.mg x=none)(n:bootBuiltins x=some (.type T))(g:PA X (e::E) t)(m:x≠"__name__":=by decide)(b:(x == ("__debug__":Str))=false:=by decide)
  (he:starEach (e::E) X.env=(false,eval e X.env)::starEach E X.env:=by rfl) (c:(backTo pos (starEach E X.env)).any (·.1)=false:=by rfl):PE X (.Call (.Name x p) (e::E) [] pos) (tCB r t):=by
 intro a s d H Q I h;refine bD (ld_blt I k l n ?_ m b);exact bN (thn (g pos a s d H _ I h) λv u ⟨w,f,i,o,q⟩=>j a u d f w v Q i o q) he c
end
end L2
namespace HT
open PySem PyProof.Rows
section
variable {prog:Program}{w:World}{A:Around}{E:Value->Shared->Prop}{s:Shared}
def sIx (n d:Nat):Option Int->Nat
 |none=>d
 |some v=>if v<0 then(v+(n:Int)).toNat else min v.toNat n
def sIx_none (n d:Nat):sIx n d none=d:=rfl
def sIx_nat (n d k:Nat):sIx n d (some (k:Int))=min k n:=by show(if (k:Int)<0 then((k:Int)+(n:Int)).toNat else min (k:Int).toNat n)=min k n;rw[ag (by lia),Int.toNat_natCast]
end
end HT
namespace L2
open PySem PySem.Spec PyProof.Rows
abbrev TO:=St->Hp->(Option Int->Hp->Prop)->Prop
def PO (X:Cx)(e:Option Expr)(t:TO):Prop:=
 ∀(p:List (Addr×Obj)) (s:Shared) (σ:St) (H:Hp) (Q:Option Int->Hp->Prop),Inv X p σ H s->t σ H Q ->
  wpAny (model X.prog X.w) X.A (evalPart e X.env) (λu a=>∃o h,Inv X p σ h a/\IsPart u o/\Q o h) X.xe s
def tNoPart:TO:=λ_ H Q=>Q none H
def tPart (t:TE):TO:=λa H Q=>t a H λx h=>∃i,x=.int i/\Q (some i) h
section
variable {X:Cx}{e:Expr}{c:TE}{L a:Option Expr}{f d:TO}{pos p:Pos}
def po_none:PO X none tNoPart:=by intro b s g H Q I h;rw[evalPart_none];exact aO ⟨none,H,I,.none,h⟩
def po_some (h:PE X e c):PO X (some e) (tPart c):=by intro b s m H Q I k;rw[evalPart_some];refine thn (h b s m H _ I k) λu n ⟨x,g,j,r,l⟩=>?_;obtain⟨i,rfl,q⟩:=l;obtain⟨t,rfl⟩:=r;exact⟨some i,g,j,.int i t,q⟩
def SlR (X:Cx)(r:V->Option Int->Option Int->Hp->VK->Prop):Prop:=
 ∀(b:List (Addr×Obj)) (s:Shared) (σ:St) (H:Hp) (x:V) (v vl vu:Value) (L a:Option Int) (sl:Addr) (Q:VK),Inv X b σ H s->RelV x v->s.heap.IsSliceOf sl vl vu .none->IsPart vl L->IsPart vu a->r x L a H Q ->
  ∃T id,typeLookup (.type T) "__getitem__"=pure (some (.builtin id))/\s.TypeIs v T/\wpAny (model X.prog X.w) X.A (getItem v (.ref sl)) (EP X b σ Q) X.xe s
def tSl (r:V->Option Int->Option Int->Hp->VK->Prop)(c:TE)(f d:TO):TE:=λb H Q=>c b H λx h=>f b h λl g=>d b g λu i=>r x l u i Q
def pe_slice (D:SlR X r)(he:PE X e c)(hl:PO X L f)(F:PO X a d):PE X (.Subscript e (.Slice L a none p) pos) (tSl r c f d):=by intro g s j H Q I h;refine Subscript_ (thn (he g s j H _ I h) λv P ⟨x,o,w,O,J⟩=>?_);refine wpAny_Slice (thn (hl g P j o _ w J) λk R ⟨l,t,y,pl,M⟩=>thn (F g R j t _ y M) λm i ⟨u,n,z,G,N⟩=>?_);rw[evalPart_none];refine aO ?_;have A:Inv X g j n { i with heap:=i.heap.push { cls:=.type "slice",data:=.fields #[k,m,.none] } }:=z.kept (t':=i.toks) λb ob q=>af _ q;obtain⟨T,id,B,E,C⟩:=D g { i with heap:=i.heap.push { cls:=.type "slice",data:=.fields #[k,m,.none] } } j n x v k m l u i.heap.objs.size Q A O (Heap.IsSliceOf.new ..) pl G N;show wpAny (model X.prog X.w) X.A (subscriptTail e (.Slice L a none p) v (.ref i.heap.objs.size)) (EP X g j Q) X.xe { i with heap:=i.heap.push { cls:=.type "slice",data:=.fields #[k,m,.none] } };exact tail_any (ops:=[.ref i.heap.objs.size,v]) E B C (by with_unfolding_all rfl)
def cutV (xs:List V)(L a:Option Int):List V:=(xs.drop (HT.sIx xs.length 0 L)).take (HT.sIx xs.length xs.length a-HT.sIx xs.length 0 L)
def cutV_length (xs:List V)(L a:Option Int):(cutV xs L a).length<=xs.length:=by unfold cutV;rw[c9,eW];lia
end
def ixN (n:Nat)(i:Int):Option Nat:=if 0<=i then(if i<n then some i.toNat else none) else if -(n:Int)<=i then some (i+n).toNat else none
def atI {a:Type}(xs:List a)(i:Int):Option a:=(ixN xs.length i).bind λj=>xs[j]?
def ixN_seq (h:ixN n i=some j):seqIndex? i n=some j/\j<n /\ -(n:Int)<=i/\i<n:=by
 unfold ixN at h;by_cases h0:0<=i
 .rw[ai h0]at h;by_cases a:i<n
  .rw[ai a]at h;have e:i.toNat=j:=aD h;exact⟨by rw[iu h0 a,e],by lia,by lia,a⟩
  .rw[ag a]at h;cases h
 .rw[ag h0]at h;by_cases a:-(n:Int)<=i
  .rw[ai a]at h;have e:(i+n).toNat=j:=aD h;exact⟨by rw[gT (by lia) a,e],by lia,a,by lia⟩
  .rw[ag a]at h;cases h
def atI_get {a:Type}{xs:List a}{i:Int}{v:a}(h:atI xs i=some v):∃j,seqIndex? i xs.length=some j/\xs[j]?=some v/\j<xs.length /\ -(xs.length:Int)<=i/\i<xs.length:=by
 unfold atI at h;cases e:ixN xs.length i with
 |none=>rw[e]at h;cases h
 |some j=>rw[e]at h;obtain⟨b,c,d,f⟩:=ixN_seq e;exact⟨j,b,h,c,d,f⟩
def atI_nat {a:Type}{xs:List a}{j:Nat}{v:a}(h:xs[j]?=some v):atI xs (j:Int)=some v:=by
 have b:j<xs.length:=(aC.mp h).1;have e:ixN xs.length (j:Int)=some j:=by unfold ixN;rw[ai (by lia),ai (by lia)];simp
 unfold atI;rw[e];exact h
def PlainIx (b:Expr):Prop:=∀o i,subscripted b false o i=operate [o,i] (getItem o i)
def IxR (X:Cx)(r:R2):Prop:=
 ∀(b a:Expr) (pins:List (Addr×Obj)) (s:Shared) (σ:St) (H:Hp) (x y:V) (v u:Value) (Q:VK),Inv X pins σ H s->RelV x v->RelV y u->r x y H Q ->
  subscripted a false v u=operate [v,u] (getItem v u)->wpAny (model X.prog X.w) X.A (subscriptTail b a v u) (EP X pins σ Q) X.xe s
def MtR (X:Cx)(id:String)(r:V->List V->Hp->VK->Prop):Prop:=
 ∀(p:List (Addr×Obj)) (s:Shared) (σ:St) (H:Hp) (x:V) (xs:List V) (v:Value) (us:List Value) (Q:VK),Inv X p σ H s->RelV x v->Vals xs us->r x xs H Q ->
  wpAny (model X.prog X.w) X.A (call (.builtin id) (v::us)) (EP X p σ Q) X.xe s
section
variable {X:Cx}{a b:Expr}{d g:TE}{pos:Pos}
def IxR.or (h:IxR X r)(h':IxR X r'):IxR X (λx y H Q=>r x y H Q\/r' x y H Q):=by
 intro e c p s k H x y v u Q I i j q f;rcases q with q|q
 .exact h e c p s k H x y v u Q I i j q f
 .exact h' e c p s k H x y v u Q I i j q f
def pe_ix (j:IxR X r)(e:PE X a d)(f:PE X b g)(k:PlainIx b):PE X (.Subscript a b pos) (tOp r d g):=by intro p s o H Q I h;exact Subscript_ (binT e f I h λv u n x y c i l m q=>j a b p n o c x y v u Q i l m q (k _ _))
def rIxL (K:Fg):R2:=λx y H Q=>∃p xs i v,x=.ref p/\y=.int i/\SqL K H p xs/\atI xs i=some v/\Q v H
def rIxT (K:Fg):R2:=λx y H Q=>∃p xs i v,x=.ref p/\y=.int i/\SqT K H p xs/\atI xs i=some v/\Q v H
def rIxS:R2:=λx y H Q=>∃z i c,x=.str z/\y=.int i/\z.length<=sizeLine/\atI z.cps.toList i=some c/\Q (.str ⟨#[c]⟩) H
def ix_list:IxR X (rIxL X.K):=by
 intro n m c s B H x y v u Q I L M h A;obtain⟨p,xs,i,z,rfl,rfl,J,F,q⟩:=h;cases L;obtain⟨t,rfl⟩:=M;obtain⟨k,r,pl,R⟩:=I.list J;obtain⟨j,e,C,O,D,E⟩:=atI_get F;obtain⟨w,o,l⟩:=r.get C;have G:=r.length;have P:=line63;have fin:EP X c B Q w s:=⟨z,H,I,l,q⟩;by_cases h0:0<=i
 .have f:i.toNat=j:=by rw[iu h0 E]at e;exact aD e
  exact item_listR pl.isList h0 (by lia) (by rw[f];simpa using o) fin A
 .have f:(i+(k.toArray.size:Int)).toNat=j:=by rw[gT (by lia) D]at e;rw[aq,<- G];exact aD e
  exact de (x:=w) pl.isList.typeIs slot_list_getitem.lookup
   (wpAny_getItem_list_neg (Q:=λr N=>r=w/\EP X c B Q r N) pl.isList (by lia) (by rw[aq]<;>lia) (by lia) (by rw[f];simpa using o) ⟨rfl,fin⟩) A
def ix_tup:IxR X (rIxT X.K):=by
 intro k f c s l H x y v u Q I F G h D;obtain⟨p,xs,i,z,rfl,rfl,C,A,q⟩:=h;cases F;obtain⟨t,rfl⟩:=G;obtain⟨E,r,pl,P⟩:=I.tuple C;obtain⟨j,n,o,L,M,N⟩:=atI_get A;obtain⟨w,m,e⟩:=r.get o;have B:=r.length;have O:=line63;have fin:EP X c l Q w s:=⟨z,H,I,e,q⟩;exact de (x:=w) pl.typeIs slot_tuple_getitem.lookup
  (getItem_tuple (j:=j) (Q:=λr J=>r=w/\EP X c l Q r J) pl (by lia) (by lia) (by rw[aq,<- B];exact n) (by simpa using m) ⟨rfl,fin⟩) D
def ix_str:IxR X rIxS:=by
 intro f e p s L H x y v u Q I C D h B;obtain⟨z,i,c,rfl,rfl,G,w,q⟩:=h;obtain⟨t,rfl⟩:=C;obtain⟨J,rfl⟩:=D;obtain⟨j,k,n,E,o,r⟩:=atI_get w;have A:z.cps.toList.length=z.length:=by simp[Str.length]
 rw[A]at k o r;have F:=line63;exact tail_any (iC s z t) slot_str_getitem.lookup (getItem_str (c:=c) (by
  have l:decide (i < -(2^63:Int))=false:=aK (by lia);have m:decide (i ≥ 2^63)=false:=aK (by lia);rw[l,m,Bool.or_false]) (by rw[k];simpa using n) ⟨.str ⟨#[c]⟩,H,I.tok _,⟨_,rfl⟩,q⟩) B
def rIx (K:Fg):R2:=λx y H Q=>rIxL K x y H Q\/rIxT K x y H Q\/rIxS x y H Q
def ix_seq:IxR X (rIx X.K):=ix_list.or (ix_tup.or ix_str)
def mapSeq_set (its:Lv)(n j:Nat)(u:Value):Obj.mapSeq (·.setIfInBounds j u) { cls:=.type "list",data:=.seq its.toArray n }={ cls:=.type "list",data:=.seq (its.set j u).toArray n }:=by simp[Obj.mapSeq]
def Inv.lst (I:Inv X c f H s)(h:H p=some (.lst xs)) :
  ∃(its:List Value) (n:Nat),Vals xs its/\s.heap.get? p=some { cls:=.type "list",data:=.seq its.toArray n }/\xs.length<=sizeLine:=by
 obtain⟨z,its,n,r,e⟩:=I.hok p _ h;exact⟨its,n,r,e,z⟩
def Inv.lstUpd {c:List (Addr×Obj)}{k:St}{H:Hp}{s:Shared}{p:Addr}{xs y:List V}{its its':Lv}{n i:Nat}{f:Obj->Obj}(I:Inv X c k H s)(h:H p=some (.lst xs))
  (m:s.heap.get? p=some { cls:=.type "list",data:=.seq its.toArray n }) (j:f { cls:=.type "list",data:=.seq its.toArray n }={ cls:=.type "list",data:=.seq its'.toArray i }) (r:Vals y its') (o:y.length<=sizeLine) (t:Nat) :
  Inv X c k (upd H p (.lst y)) { s with heap:=s.heap.update p f,toks:=t }:=by
 have e:(s.heap.update p f).get? p=some { cls:=.type "list",data:=.seq its'.toArray i }:=by rw[b8 f m (by rw[j]<;>rfl),j]
 refine I.write (x:=p) (e:=p) (by rw[h];trivial) (.inl rfl) (λb u l q=>(a8 _ _ (br l)).trans q) ⟨_,e⟩ ?_;exact⟨o,its',i,r,e⟩
def rSetL:V->V->V->Hp->(Hp->Prop)->Prop:=λo i v H Q=>∃p xs k j,o=.ref p/\i=.int k/\H p=some (.lst xs)/\ixN xs.length k=some j/\Q (upd H p (.lst (xs.set j v)))
def set_list:PSet X rSetL:=by
 rintro e s G H o i v N M u Q I E D F ⟨p,xs,k,j,rfl,rfl,A,B,q⟩;cases E;obtain⟨t,rfl⟩:=D;obtain⟨c,n,r,w,C⟩:=I.lst A;obtain⟨f,J,y,z⟩:=ixN_seq B;have m:=r.length;have L:=line63;have x:Inv X e G (upd H p (.lst (xs.set j v))) { s with heap:=s.heap.update p (Obj.mapSeq (·.setIfInBounds j u)) } :=
  I.lstUpd A w (mapSeq_set c n j u) (r.set F j) (by rw[bC];exact C) s.toks
 by_cases h0:0<=k
 .have l:k.toNat=j:=by rw[iu h0 z]at f;exact aD f
  exact W.ki_setAt w h0 (by lia) (by rw[aq,<- m];exact z) (by rw[l];exact⟨_,x,q⟩)
 .have l:(k+(c.toArray.size:Int)).toNat=j:=by rw[gT (by lia) y]at f;rw[aq,<- m];exact aD f
  exact W.ki_setBack w (by lia) (by rw[aq,<- m];exact y) (by lia) (by rw[l];exact⟨_,x,q⟩)
def slice_bounds (l c:Option Int)(n:Nat):(sliceBounds l c none n).1=((HT.sIx n 0 l:Nat):Int)/\(sliceBounds l c none n).2.1=((HT.sIx n n c:Nat):Int)/\(sliceBounds l c none n).2.2=1:=by
 refine⟨?_,?_,rfl⟩
 .cases l with
  |none=>simp[sliceBounds,HT.sIx]
  |some i=>
   simp only[sliceBounds,HT.sIx,Option.getD_none,show(1:Int) > 0 by decide,iM];by_cases h:i<0
   .simp only[h,iM]<;>lia
   .simp only[h,iP]<;>lia
 .cases c with
  |none=>simp[sliceBounds,HT.sIx]
  |some i=>
   simp only[sliceBounds,HT.sIx,Option.getD_none,show(1:Int) > 0 by decide,iM];by_cases h:i<0
   .simp only[h,iM]<;>lia
   .simp only[h,iP]<;>lia
def slicePick_cut (its:Lv)(l h:Option Int):slicePick its.toArray l h none=((its.drop (HT.sIx its.length 0 l)).take (HT.sIx its.length its.length h-HT.sIx its.length 0 l)).toArray:=by obtain⟨c,e,f⟩:=slice_bounds l h its.toArray.size;unfold slicePick;rw[c,e,f];simp only[sliceRange_one,pick_run,aq]<;>rfl
def rSlL (K:Fg):V->Option Int->Option Int->Hp->VK->Prop:=λx l h H Q=>∃a xs,x=.ref a/\SqL K H a xs/\∀p,H p=none->Q (.ref p) (upd H p (.lst (cutV xs l h)))
def sl_list:SlR X (rSlL X.K):=by rintro p s z H x v w y l e u Q I t i pl n ⟨a,xs,rfl,j,q⟩;cases t;obtain⟨m,r,f,k⟩:=I.list j;have c:=r.length;refine⟨"list",_,slot_list_getitem.lookup,f.isList.typeIs,?_⟩;refine wpAny_getItem_list_slice f.isList i pl n .none (by simp) ?_ (by rw[aq]<;>lia);rw[slicePick_cut,<- c];refine⟨.ref s.heap.objs.size,_,I.laid (t':=s.toks) (o:=.lst (cutV xs l e)) (λb ob q=>af _ q) (aB _) ?_,rfl,q _ (I.hok.fresh (aB _))⟩;exact⟨aG (cutV_length xs l e) k,_,0,(r.drop (HT.sIx xs.length 0 l)).take (HT.sIx xs.length xs.length e-HT.sIx xs.length 0 l),aP _ rfl⟩
def call_len_seq:CallR X (.builtin "len") (λxs H Q=>∃p y,xs=[.ref p]/\(SqL X.K H p y\/SqT X.K H p y)/\Q (.int y.length) H):=by
 rintro j s o H xs n Q I r ⟨p,y,rfl,e,q⟩;obtain⟨u,rfl,l⟩:=vals1 r;cases l;have m:=line63;rcases e with e|e
 .obtain⟨i,f,pl,k⟩:=I.list e;have c:=f.length;exact Calls.call_len_list pl.isList (by simp only[aq]<;>lia) ⟨.int y.length,H,I.tok _,⟨s.toks+1,by rw[aq,c]⟩,q⟩
 .obtain⟨i,f,pl,k⟩:=I.tuple e;have c:=f.length;exact len_tuple pl (by simp only[aq]<;>lia) ⟨.int y.length,H,I.tok _,⟨s.toks+1,by rw[aq,c]⟩,q⟩
def call_len_str:CallR X (.builtin "len") (λxs H Q=>∃z,xs=[.str z]/\z.length<=sizeLine/\Q (.int z.length) H):=by rintro p s i H xs f Q I r ⟨z,rfl,e,q⟩;obtain⟨u,rfl,t,rfl⟩:=vals1 r;have c:=line63;exact len_str (by lia) ⟨.int z.length,H,I.tok _,⟨_,rfl⟩,q⟩
def tyV (K:Fg)(T:String)(x:V)(H:Hp):Prop:=match x with
 | .str _=>T="str"
 | .int _=>T="int"
 | .ref p=>(T="list"/\∃xs,SqL K H p xs)\/(T="tuple"/\∃o,K.lookup p=some o/\o.cls=.type "tuple"/\o.dict=none) \/
   (T="dict"/\((∃k,H p=some (.dK k))\/∃k,H p=some (.dT k)))\/(T="set"/\∃S n,H p=some (.set S n))
 |_=>False
def tyV_is (I:Inv X m y H s)(r:RelV x v)(ty:tyV X.K T x H) :
  s.TypeIs v T/\∀a,v=.ref a->∃ob,s.heap.get? a=some ob/\ob.dict=none:=by
 cases x with
 |str z=>obtain⟨t,rfl⟩:=r;cases (show T="str" from ty);exact⟨iC s z t,λ_ e=>nomatch e⟩
 |int i=>obtain⟨t,rfl⟩:=r;cases (show T="int" from ty);exact⟨typeIs_int s i t,λ_ e=>nomatch e⟩
 |ref p=>
  cases r;rcases ty with⟨rfl,xs,u⟩|⟨rfl,o,h,q,k⟩|⟨rfl,h⟩|⟨rfl,S,n,h⟩
  .obtain⟨w,_,pl,_⟩:=I.list u;refine⟨pl.isList.typeIs,λa e=>?_⟩;cases e;obtain⟨o,n,e,c,k,_⟩:=pl;exact⟨o,e,k⟩
  .refine⟨⟨o,I.kIn p o h,q⟩,λa e=>?_⟩;cases e;exact⟨o,I.kIn _ o h,k⟩
  .have z:∃o,s.heap.get? p=some o/\o.ExactDict:=by
    rcases h with⟨l,h⟩|⟨l,h⟩
    .obtain⟨_,_,_,_,o,_,_,e,f,_⟩:=I.hok p _ h;exact⟨o,e,f⟩
    .obtain⟨_,_,_,_,o,_,_,e,f,_⟩:=I.hok p _ h;exact⟨o,e,f⟩
   obtain⟨o,e,f⟩:=z;refine⟨⟨o,e,f.1⟩,λa j=>?_⟩;cases j;exact⟨o,e,f.2.1⟩
  .obtain⟨o,_,_,_,e,f,_⟩:=I.hok p _ h;refine⟨⟨o,e,f.1⟩,λa j=>?_⟩;cases j;exact⟨o,e,f.2.1⟩
 |_=>exact False.elim ty
def tBM0 (K:Fg)(T:String)(r:V->List V->Hp->VK->Prop)(to:TE):TE:=λc H Q=>to c H λx h=>tyV K T x h/\r x [] h Q
def tBM (K:Fg)(T:String)(r:V->List V->Hp->VK->Prop)(to:TE)(t:TA):TE:=λc H Q=>to c H λx h=>tyV K T x h/\t c h λxs e=>r x xs e Q
variable {o e:Expr}{E:List Expr}{to:TE}{t:TA}{N:Str}{A C:Pos}{T id:String}{r:V->List V->Hp->VK->Prop}
def pe_bm0 (z:PlainAttrs T)(i:Slot T N id)(j:typeOf (.builtin id)=pure (.type "method_descriptor"))(w:MtR X id r)(y:PE X o to)
  (c:attributeBase o N X.env (eval o X.env)=eval o X.env:=by rfl) (f:(A.endLine == C.line)=true:=by rfl):PE X (.Call (.Attribute o N A) [] [] C) (tBM0 X.K T r to):=by
 intro p s m H Q I h;refine wpAny_Call_method0_late c f (thn (y p s m H _ I h) λv D ⟨x,n,k,l,ty,B⟩=>?_);obtain⟨q,u⟩:=tyV_is k l ty;exact⟨T,id,z,i,j,q,u,ee rfl (PySem.evalArgs_none (w p D m n x [] v [] Q k l .nil B))⟩
def pe_bm (M:PlainAttrs T)(k:Slot T N id)(l:typeOf (.builtin id)=pure (.type "method_descriptor"))(G:MtR X id r)(J:PE X o to)(F:PA X (e::E) t)
  (f:attributeBase o N X.env (eval o X.env)=eval o X.env:=by rfl)
  (j:((backTo C (starEach (e::E) X.env)).all (λx=>!x.1) && (backToKw C (keywordEach [] X.env)).all (λx=>x.1.isSome) && decide ((e::E).length+([]:List Keyword).length+(if ([]:List Keyword).isEmpty then 0 else 1)<30))=true:=by rfl)
  (i:(A.endLine == C.line)=true:=by rfl) (L:starEach (e::E) X.env=(false,eval e X.env)::starEach E X.env:=by rfl) (c:(backTo C (starEach E X.env)).any (·.1)=false:=by rfl) :
  PE X (.Call (.Attribute o N A) (e::E) [] C) (tBM X.K T r to t):=by
 intro p s m H Q I h;refine wpAny_Call_method_late f j i rfl (thn (J p s m H _ I h) λv S ⟨x,w,n,u,ty,O⟩=>?_);obtain⟨B,D⟩:=tyV_is n u ty;refine⟨T,id,M,k,l,B,D,?_⟩;have q:=F C p S m w _ n O;rw[L]at q ⊢;refine ee (by show(false || (backTo C (starEach E X.env)).any (·.1))=false;rw[c]<;>rfl) (fh ?_);exact thn q λY U ⟨Z,y,z,R,P⟩=>G p U m y x Z v Y Q z u R P
end
def MtM (X:Cx)(id:String)(r:V->List V->Hp->VK->Prop):Prop:=
 ∀(p:List (Addr×Obj)) (s:Shared) (σ:St) (H:Hp) (x:V) (xs:List V) (v:Value) (us:List Value) (Q:VK),Inv X p σ H s->RelV x v->Vals xs us->r x xs H Q ->
  wpAny (model X.prog X.w) X.A (call (.builtin id) (v::us)) (EP X p σ Q) X.xe s
def Vals.one:∀{x:V} {us:Lv},Vals [x] us->∃u,us=[u]/\RelV x u
 |_,_,.cons r .nil=>⟨_,rfl,r⟩
def Vals.zero:∀{us:Lv},Vals [] us->us=[]
 |_,.nil=>rfl
def Vals.dropLast (h:Vals xs us):Vals xs.dropLast us.dropLast:=by
 induction h with
 |nil=>exact .nil
 |cons r t i=>
  cases t with
  |nil=>exact .nil
  |cons q a=>exact .cons r i
def Vals.rep (h:Vals xs us):∀k:Nat,Vals (List.replicate k xs).flatten (List.replicate k us).flatten
 |0=>.nil
 |k+1=>by rw[bF,bF,dD,dD];exact Vals.append h (Vals.rep h k)
def erase_last {c:Type}(l:List c):l.eraseIdx (l.length-1)=l.dropLast:=by
 induction l with
 |nil=>rfl
 |cons a r i=>
  cases r with
  |nil=>rfl
  |cons b r=>
   have e:(a::b::r).length-1=((b::r).length-1)+1:=by have h:(a::b::r).length=r.length+2:=rfl;have d:(b::r).length=r.length+1:=rfl;lia
   rw[e,List.eraseIdx_cons_succ,i]
   all_goals rfl
def foldl_rep (its:Lv):∀(k:Nat) (a:Lv),
  List.foldl (λx c=>x++c) a.toArray (List.replicate k its.toArray)=(a++(List.replicate k its).flatten).toArray
 |0,a=>by simp
 |k+1,a=>by
  have e:a.toArray++its.toArray=(a++its).toArray:=by simp
  have b:(a++its)++(List.replicate k its).flatten=a++(List.replicate (k+1) its).flatten:=by rw[bF,dD,bu]
  rw[<- b,<- foldl_rep its k (a++its),<- e,bF,fA]
section
variable {X:Cx}{p:List (Addr×Obj)}{a:St}{H:Hp}{s:Shared}{l b:Addr}{xs y Z:List V}
def Inv.lset {its its':Lv}{n:Nat}{f:Array Value->Array Value}{t':Nat}(I:Inv X p a H s)(h:H l=some (.lst xs))
  (e:s.heap.get? l=some { cls:=.type "list",data:=.seq its.toArray n }) (d:f its.toArray=its'.toArray) (i:Vals y its') (j:y.length<=sizeLine) :
  Inv X p a (upd H l (.lst y)) { s with heap:=s.heap.update l (Obj.mapSeq f),toks:=t' }:=by
 have q:=PySem.IsL.update e f;rw[d]at q;refine I.write (x:=l) (e:=l) (by rw[h];exact trivial) (.inl rfl) (λk u c g=>(a8 s.heap (Obj.mapSeq f) (br c)).trans g) ⟨_,q⟩ ?_;exact⟨j,its',_,i,q⟩
def Inv.lnew (I:Inv X p a H s)(h:Vals y its)(c:y.length<=sizeLine) :
  Inv X p a (upd H s.heap.objs.size (.lst y)) { s with heap:=s.heap.push { cls:=.type "list",data:=.seq its.toArray },toks:=t' } :=
 I.laid (λ_ _ q=>af _ q) (aB _) ⟨c,its,0,h,aP _ rfl⟩
def Inv.fresh (I:Inv X p a H s):H s.heap.objs.size=none:=I.hok.fresh (aB _)
def Inv.lstM (I:Inv X p a H s)(h:H l=some (.lst xs)):xs.length<=sizeLine/\∃(its:Lv) (n:Nat),Vals xs its/\xs.length=its.length/\s.heap.get? l=some { cls:=.type "list",data:=.seq its.toArray n }:=by obtain⟨z,its,n,r,e⟩:=I.hok l _ h;exact⟨z,its,n,r,r.length,e⟩
def notLongL (h:n<=sizeLine):Builtin.List.listTooLong n=false:=by unfold Builtin.List.listTooLong;exact aK (by lia)
end
section
variable {X:Cx}
def rAppend:V->List V->Hp->VK->Prop:=λx v H Q=>∃l xs y,x=.ref l/\v=[y]/\H l=some (.lst xs)/\xs.length<sizeLine/\Q .non (upd H l (.lst (xs++[y])))
def mt_append:MtM X "list.append" rAppend:=by rintro p s m H x k v j Q I d c ⟨l,xs,y,rfl,rfl,a,g,q⟩;cases d;obtain⟨u,rfl,b⟩:=c.one;obtain⟨z,i,n,r,f,e⟩:=I.lstM a;refine fw F.slot_list_append ⟨_,e,rfl⟩ F.entry_list_append (F.args_list_append_2 _ _) (PySem.list_append l i.toArray n u (by rw[aq];lia)) ⟨e,?_⟩;refine⟨.non,_,I.lset (its':=i++[u]) a e (by simp) (r.append (.cons b .nil)) ?_,rfl,q⟩;rw[aM,bP];lia
def rPop:V->List V->Hp->VK->Prop:=λx v H Q=>∃l xs y,x=.ref l/\v=[]/\H l=some (.lst xs)/\xs[xs.length-1]?=some y/\Q y (upd H l (.lst xs.dropLast))
def mt_pop:MtM X "list.pop" rPop:=by
 rintro p s w H x t v o Q I m k ⟨l,xs,y,rfl,rfl,c,g,q⟩;cases m;have a:=k.zero;subst a;obtain⟨z,i,n,r,d,e⟩:=I.lstM c;obtain⟨u,f,j⟩:=r.get g;have b:i.toArray[i.toArray.size-1]?=some u:=by show i.toArray[i.length-1]?=some u;rw[<- gU,<- d];exact f
 refine fw F.slot_list_pop ⟨_,e,rfl⟩ F.entry_list_pop (F.args_list_pop_1 _) (MeetsSeq.list_pop_last l i.toArray n u b (by rw[aq];lia)) ⟨e,?_⟩;refine⟨y,_,I.lset (its':=i.dropLast) c e ?_ r.dropLast ?_,j,q⟩
 .show i.toArray.eraseIdxIfInBounds (i.toArray.size-1)=i.dropLast.toArray;rw[aq,List.eraseIdxIfInBounds_toArray,erase_last]
 .rw[hO];lia
def rRep:R2:=λx y H Q=>∃l k xs,x=.ref l/\y=.int k/\H l=some (.lst xs) /\ -(2^63)<=k/\k<2^63/\xs.length*k.toNat<=sizeLine /\
 ∀p,H p=none->Q (.ref p) (upd H p (.lst (List.replicate k.toNat xs).flatten))
def len_rep {a:Type}(xs:List a)(k:Nat):(List.replicate k xs).flatten.length=k*xs.length:=by
 induction k with
 |zero=>simp
 |succ k i=>rw[bF,dD,aM,i,iF,Nat.add_comm]
def op_rep:OpR X (binaryOp .Mult) rRep:=by
 rintro w s N H x y v u Q I G J ⟨l,k,xs,rfl,rfl,D,B,C,p,q⟩;cases G;obtain⟨t,rfl⟩:=J;obtain⟨z,i,n,r,E,e⟩:=I.lstM D;have f:i.toArray.size*k.toNat<=sizeLine:=by rw[aq,<- E];exact p
 have c:¬i.toArray.size*k.toNat > (2^63-1) / 8:=by
  have:(sizeLine:Nat)<=(2^63-1) / 8:=by decide
  lia
 have d:¬(!Builtin.List.listFitsIndex k)=true:=by rw[fitsIndex_both B C];exact aJ
 have b:¬Builtin.List.listTooLong (i.toArray.size*k.toNat)=true:=by rw[notLongL f];exact aJ
 have g:List.foldl (λj o=>j++o) #[] (List.replicate (if i.toArray.isEmpty=true then 0 else k.toNat) i.toArray)=(List.replicate k.toNat i).flatten.toArray:=by
  have A:∀m:Nat,List.foldl (λj o=>j++o) #[] (List.replicate m i.toArray)=(List.replicate m i).flatten.toArray:=λm=>by have:=foldl_rep i m [];rw[bH]at this;exact this
  rw[A];cases i with
  |nil=>simp
  |cons a M=>rw[ag (by simp)]
 refine wpAny_binaryOp_repeat_ref (T:="list") (U:="int") (by decide) ⟨_,e,rfl⟩ (λL=>typeIs_int L k t) noFill_list_mul F.fills_int_mul F.slot_int_rmul repeat_list F.slot_int_index.lookup
  (fw F.slot_int_rmul (typeIs_int s k t) F.entry_int_rmul (F.args_int_rmul_2 _ _) (int___rmul___int_list k t l i.toArray n) ⟨e,rfl,⟨_,e,rfl⟩,fw F.slot_list_mul ⟨_,e,rfl⟩ F.entry_list_mul (F.args_list_mul_2 _ _) (AutoListH.list___mul___list_int_3 l i.toArray n k t d c b) ⟨e,?_⟩⟩)
 rw[g];exact⟨.ref _,_,I.lnew (t':=s.toks) (r.rep k.toNat) (by rw[len_rep,Nat.mul_comm];exact p),rfl,q _ I.fresh⟩
end
end L2
namespace Att
open PySem PySem.W PySem.Calls PyProof.Rows
section
variable {prog:Program}{w:World}{A:Around}{E:Value->Shared->Prop}{s:Shared}{K:Frag}
def ledger (h:Heap)(L d:Addr):List (Addr×Obj):=(List.range h.objs.size).filterMap λa=>if a=L\/a=d then none else(h.get? a).map λo=>(a,o)
end
end Att
namespace L2
open PySem PySem.Spec PyProof.Rows
abbrev KOf {K:Fg}{h:Heap}(_:K.In h):Fg:=K
abbrev E0:XK:=λ_ _ _=>False
def pass0:Passes CX0 X E0:=λ_ _ _ _ _ _ _ h=>h.elim
section
variable {P:Program}{w:World}{K:Fg}{mg:Mg}{base:Heap}
def Fun.ok {x a:Str}{st:Stmt}{f:Addr}{g:FuncData}{N p:Ls}{k:Nat}{sp:Sp}(F:Fun K x a st f g)(S:FnScope N p (defScope st))(len:∀vs H Q E,sp vs H Q E->vs.length=p.length)
  (b:∀(c:Value) (A:Around) (outer:List Env) (s:Shared) (H:Hp) (vs:List V) (Q:VK) (E:XK),Room k (A.deeper (envOfC a (defScope st) s.heap.objs.size f c))->sp vs H Q E -> ∃t,PSs (cxOf CX0 P w K mg base N a (defScope st) f c A outer s H E).nox (defBody st) t/\t { nx:=λ_ i=>Q .non i,rt:=Q } (start N vs) H):FnOk P w K mg base CX0 (k+1) f g p sp:=by
 obtain⟨n,r,kV,j,u,an,c,m,o,rfl,lk,d⟩:=F.ex;refine fn_of lk d S len λA outer s H vs Q E l e=>?_;obtain⟨t,h,q⟩:=b c A outer s H vs Q E l e;exact⟨t,h.nox,q⟩
end
def small1000 (h:n<=1000):n<sizeLine:=bW h (by decide)
section
variable {X:Cx}
def pv (i:Nat)(a:X.N[i]?=some x:=by rfl)(c:Vis X.env.scope x:=by walk_at "v")(b:(x == ("__debug__":Str))=false:=by decide)
  (h:(x == ("__classdict__":Str))=false:=by decide):PE X (.Name x pos) (tVar i):=pe_var a c b h
end
def iteF {A B:Prop}(h:B):if false=true then A else B:=by rw[ag aJ];exact h
def iteT {A B:Prop}(h:A):if true=true then A else B:=by rw[ai rfl];exact h
def Nx (x:Option HO):HO->Prop
 | .tbl t=>∃p,x=some (.tbl ⟨t.q,p⟩)
 |o=>x=some o
def Same (H h:Hp):Prop:=∀b o,H b=some o->Nx (h b) o
def Nx.of (h:x=some o):Nx x o:=by cases o<;>first|exact h|exact⟨_,h⟩
def Nx.some (h:Nx x o):∃u,x=some u:=by cases o<;>first|exact⟨_,h⟩|(obtain⟨p,h⟩:=h;exact⟨_,h⟩)
def pY (h:∀b o,H b=some o->a b=some o):Same H a:=λb o e=>.of (h b o e)
def Same.refl (H:Hp):Same H H:=pY λ_ _ h=>h
def Same.trans (a:Same H d)(b:Same d H2):Same H H2:=λc o h=>by have q:=a c o h;cases o<;>first|exact b c _ q|(obtain⟨p,q⟩:=q;have z:=b c _ q;exact z)
def Same.free (e:Same H a)(h:a l=Option.none):H l=Option.none:=by
 cases q:H l with
 |none=>rfl
 |some o=>obtain⟨u,z⟩:=(e l o q).some;rw[z]at h;cases h
def Same.seq {K:Fg}{H b:Hp}{a:Addr}{xs:List V}(e:Same H b)(h:SqL K H a xs):SqL K b a xs:=by
 rcases h with (h|⟨o,h⟩)|h
 .exact .inl (.inl (e _ _ h))
 .exact .inl (.inr ⟨o,e _ _ h⟩)
 .exact .inr h
def gI (a:St)(i:Nat):Int:=match a[i]? with
 |some (some (.int n))=>n
 |_=>0
def hI (a:St)(i:Nat):Prop:=a[i]?=some (some (.int (gI a i)))
def tN (C:St->Hp->Prop)(g:St->Int):TE:=λa H Q=>C a H/\Q (.int (g a)) H
def tP (C:St->Hp->Prop)(p:St->Prop)[∀a,Decidable (p a)]:TT:=λa H Q=>C a H/\Q (decide (p a)) H
section
def jJ (i:Nat)(c:X.N[i]?=some x:=by rfl)(e:Vis X.env.scope x:=by walk_at "v")
  (d:(x == ("__debug__":Str))=false:=by decide) (b:(x == ("__classdict__":Str))=false:=by decide):PE X (.Name x pos) (tN (λa _=>hI a i) (λa=>gI a i)):=
 λp s a H Q I h=>pe_var c e d b p s a H Q I ⟨_,h.1,h.2⟩
def jU:PE X (.Constant (.int i) j pos) (tN (λ_ _=>True) (λ_=>i)):=λp s a H Q I h=>pe_int p s a H Q I h.2
def zc (c:Gl X x)(a:∃tk,X.mg x=some (.int i tk))(b:(x == ("__debug__":Str))=false:=by decide):PE X (.Name x pos) (tN (λ_ _=>True) (λ_=>i)):=
 λp s d H Q I h=>let ⟨_,a⟩:=a;pe_glob c a (v:=.int i) ⟨_,rfl⟩ b p s d H Q I h.2
def Y0 {op:Operator}{C:Int->Int->Prop}{g:Int->Int->Int}(m:OpR X (binaryOp op) (rI C λi j=>.int (g i j)))(k:PE X a (tN e d))(l:PE X b (tN f gb)) :
  PE X (.BinOp a op b pos) (tN (λc H=>e c H/\f c H/\C (d c) (gb c)) (λc=>g (d c) (gb c))):=
 λp s c H Q I h=>pe_op m k l p s c H Q I ⟨h.1.1,h.1.2.1,_,_,rfl,rfl,h.1.2.2,h.2⟩
def RN {op:Operator}{g:Int->Int->Int}(l:OpR X (binaryOp op) (rI0 λi j=>.int (g i j)))(f:PE X a (tN C e))(k:PE X b (tN d gb)) :
  PE X (.BinOp a op b pos) (tN (λc H=>C c H/\d c H) (λc=>g (e c) (gb c))):=
 λp s c H Q I h=>pe_op l f k p s c H Q I ⟨h.1.1,h.1.2,_,_,rfl,rfl,h.2⟩
def zb:OpR X (binaryOp .Mult) (rI IntMulOk λi j=>.int (i*j)):=opI λ_ _ _ _ _ _ _ h q=>mul_int q h
def UL:OpR X (inplaceOp .Mult) (rI IntMulOk λi j=>.int (i*j)):=opI λ_ _ _ _ _ _ _ h q=>imul_int q h
def YX (_ j:Int):Prop:=0<j/\j.natAbs.log2<9000
def RL:OpR X (binaryOp .FloorDiv) (rI YX λi j=>.int (i / j)):=opI λi j _ _ _ _ _ h q=>by have a:(0:Int)<j:=h.1;exact floordiv_int (by lia) (by rw[fO i (by lia)];exact q) (.inl (PyProof.noPylong_of_log2 h.2))
def aaS (h:PE X a (tN C g))(e:PE X b (tN d gb)):PE X (.BinOp a .Add b pos) (tN (λc H=>C c H/\d c H) (λc=>g c+gb c)):=RN op_add h e
def K5 (h:PE X a (tN C g))(e:PE X b (tN d gb)):PE X (.BinOp a .Mult b pos) (tN (λc H=>C c H/\d c H/\IntMulOk (g c) (gb c)) (λc=>g c*gb c)):=Y0 zb h e
def aa0 (h:PE X a (tN C g))(e:PE X b (tN d gb)):PE X (.BinOp a .Mod b pos) (tN (λc H=>C c H/\d c H/\0<gb c) (λc=>g c % gb c)):=Y0 op_mod h e
def Rk (d:PE X a (tN c g)):PE X (.UnaryOp .USub a pos) (tN c (λb=>-g b)):=
 λp s b H Q I h=>pe_un un_neg d p s b H Q I ⟨h.1,_,rfl,h.2⟩
def wH {op:CmpOp}{p:Int->Int->Prop}[∀i j,Decidable (p i j)](m:OpR X (compareOp op) (rI0 λi j=>.bl (decide (p i j))))(l:behindInMarks op b=false)(f:PE X a (tN C g))(k:PE X b (tN e gb)) :
  PT X (.Compare a [op] [b] pos) (tP (λc H=>C c H/\e c H) (λc=>p (g c) (gb c))):=
 λd s c H Q I h=>pt_cmpR m f k l d s c H Q I ⟨h.1.1,h.1.2,_,_,rfl,rfl,_,rfl,h.2⟩
def Kv:OpR X (compareOp .Eq) (rI0 λi j=>.bl (decide (i=j))):=λp s b H x y v u Q I r a h=>by obtain⟨i,j,rfl,rfl,q⟩:=h;refine op_eq p s b H _ _ v u Q I r a ⟨rfl,?_⟩;rw[dec_int,gV];exact q
def Q7:OpR X (compareOp .NotEq) (rI0 λi j=>.bl (decide (¬i=j))):=λp s b H x y v u Q I r a h=>by obtain⟨i,j,rfl,rfl,q⟩:=h;have q:Q (.bl (decide (¬i=j))) H:=q;rw[decide_not]at q;refine op_ne p s b H _ _ v u Q I r a ⟨rfl,?_⟩;rw[dec_int,gV];exact q
def QV (h:PE X a (tN C g))(e:PE X b (tN d gb)):PT X (.Compare a [.Lt] [b] pos) (tP (λc H=>C c H/\d c H) (λc=>g c<gb c)):=wH op_lt (nomark _) h e
def aaF (h:PE X a (tN C g))(e:PE X b (tN d gb)):PT X (.Compare a [.LtE] [b] pos) (tP (λc H=>C c H/\d c H) (λc=>g c<=gb c)):=wH op_le (nomark _) h e
def ZG (h:PE X a (tN C g))(e:PE X b (tN d gb)):PT X (.Compare a [.Gt] [b] pos) (tP (λc H=>C c H/\d c H) (λc=>gb c<g c)):=wH (p:=λi j=>j<i) op_gt (nomark _) h e
def aaU (h:PE X a (tN C g))(e:PE X b (tN d gb)):PT X (.Compare a [.Eq] [b] pos) (tP (λc H=>C c H/\d c H) (λc=>g c=gb c)):=wH Kv (nomark _) h e
def ZF (h:PE X a (tN C g))(e:PE X b (tN d gb)):PT X (.Compare a [.NotEq] [b] pos) (tP (λc H=>C c H/\d c H) (λc=>¬g c=gb c)):=wH (p:=λi j=>¬i=j) Q7 (nomark _) h e
variable {d k:St->Prop}[∀σ,Decidable (d σ)][∀σ,Decidable (k σ)]{rest:List Expr}
def pw_or1P (h:PT X a (tP c d)):PW X (.BoolOp .Or [a] pos) (tP c d):=pw_or1 h
def pw_orP (g:PT X a (tP C d))(i:PW X (.BoolOp .Or (b::rest) pos) (tP f k)):PW X (.BoolOp .Or (a::b::rest) pos) (tP (λσ H=>C σ H/\(¬d σ->f σ H)) (λσ=>d σ\/k σ)):=
 λw p s σ H Q I h=>pw_or g i w p s σ H Q I ⟨h.1.1,by
  have q:=h.2;by_cases c:d σ
  .rw[aQ (Or.inl c:d σ\/k σ)]at q;rw[aQ c];refine iteT ?_;exact q
  .rw[aK c];refine iteF ?_;refine⟨h.1.2 c,?_⟩;have e:decide (d σ\/k σ)=decide (k σ):=by simp[c]
   rw[e]at q;exact q⟩
def adE (C:St->Hp->Prop)(p:St->Prop)(t u:TS):TS:=λD σ H=>C σ H/\(p σ->t D σ H)/\(¬p σ->u D σ H)
def KC (a:PT X c (tP C d))(b:PSs X x t)(e:PSs X y u):PS X (.If c x y pos) (adE C d t u):=
 λp s σ H D I h=>ps_if a b e p s σ H D I ⟨h.1,by
  by_cases c:d σ
  .rw[aQ c];refine iteT ?_;exact h.2.1 c
  .rw[aK c];refine iteF ?_;exact h.2.2 c⟩
def adh (i:Nat)(C:St->Hp->Prop)(g:St->Int):TS:=λD σ H=>C σ H/\∀n,n=g σ->D.nx (σ.set i (some (.int n))) H
def NB (b:X.N.Nodup)(j:X.N[i]?=some x)(m:Loc X.env.scope x)(he:PE X e (tN c g))(l:swapsWith e (some (.Name x a)) pos.line X.env=pure false:=by rfl)
  (f:X.fn x=true\/X.env.scope.names.lookup x=some .local:=by walk_at "w"):PS X (.Assign [.Name x a] e pos) (adh i c g):=
 λp s σ H D I h=>ps_set b j m he l f p s σ H D I ⟨h.1,h.2 _ rfl⟩
def adb (i:Nat)(C:St->Hp->Prop)(g:St->Int)(P:Int->Int->Prop)(f:Int->Int->Int):TS:=λD σ H=>hI σ i/\C σ H/\P (gI σ i) (g σ)/\∀n,n=f (gI σ i) (g σ)->D.nx (σ.set i (some (.int n))) H
def Yv (b:X.N.Nodup)(m:X.N[i]?=some x)(o:Loc X.env.scope x)(he:PE X e (tN c g))(n:OpR X (inplaceOp op) (rI P λi j=>.int (f i j)))
  (l:X.fn x=true\/X.env.scope.names.lookup x=some .local:=by walk_at "w"):PS X (.AugAssign (.Name x a) op e pos) (adb i c g P f):=
 λp s σ H D I h=>ps_aug b m o he n l p s σ H D I ⟨_,h.1,h.2.1,_,_,rfl,rfl,h.2.2.1,h.2.2.2 _ rfl⟩
def wA:OpR X (inplaceOp .Add) (rI (λ_ _=>True) λi j=>.int (i+j)):=λp s σ H x y v u Q I r b h=>by obtain⟨i,j,e,a,_,q⟩:=h;exact iop_add p s σ H x y v u Q I r b ⟨i,j,e,a,q⟩
def Wx (C:St->Hp->Prop)(p:St->Prop)(t:TS):TS:=λD σ H=>∃(W:St->Hp->Prop) (b:St->Hp->Nat),W σ H /\
 ∀σ H,W σ H->C σ H/\(p σ->t { D with nx:=λa h=>W a h/\b a h<b σ H,ct:=λa h=>W a h/\b a h<b σ H,bk:=D.nx } σ H)/\(¬p σ->D.nx σ H)
def Pb (i:PassesOwn (model X.prog X.w) X.A X.env X.xe)(g:PT X c (tP C d))(f:PSs X body tb):PS X (.While c body [] pos) (Wx C d tb):=
 λp s σ H D I h=>ps_while i g f p s σ H D I (by
  obtain⟨W,n,l,j⟩:=h;refine while_by W n l (λσ H w=>?_) (λσ H Q o m q=>⟨q.1,m _ _ q.2⟩);obtain⟨a,b,e⟩:=j σ H w;refine⟨a,?_⟩;by_cases c:d σ
  .rw[aQ c];refine iteT ?_;exact b c
  .rw[aK c];refine iteF ?_;exact e c)
end
def zj {ns:Li}{i:Int}(h0:0<=i)(h:i<(ns.length:Int)):atI (ns.map V.int) i=some (V.int (ns.getD i.toNat 0)):=by
 have e:i=((i.toNat:Nat):Int):=by lia
 have l:i.toNat<ns.length:=by lia
 have q:atI (ns.map V.int) ((i.toNat:Nat):Int)=some (V.int (ns.getD i.toNat 0)):=atI_nat (by rw[aE,aa l,gQ,aa l];rfl);rw[<- e]at q;exact q
def aca (K:Fg)(j:Nat)(C:St->Hp->Prop)(g:St->Int):TE:=λb H Q=>C b H/\∃(a:Addr) (c:List Int) (n:Int),b[j]?=some (some (.ref a))/\SqL K H a (c.map V.int)/\atI (c.map V.int) (g b)=some (.int n)/\Q (.int n) H
def XN (j:Nat)(k:PE X b (tN C gb))(m:PlainIx b)(i:X.N[j]?=some x:=by rfl)(o:Vis X.env.scope x:=by walk_at "v")
  (l:(x == ("__debug__":Str))=false:=by decide) (d:(x == ("__classdict__":Str))=false:=by decide):PE X (.Subscript (.Name x u) b pos) (aca X.K j C gb):=by
 rintro p s r H Q I ⟨c,a,t,n,e,f,g,q⟩;exact pe_ix ix_list (pe_var i o l d) k m p s r H Q I ⟨_,e,c,a,_,_,_,rfl,rfl,f,g,q⟩
def VM (j:Nat)(a:Addr)(ns:Li){x:Str}{w:Pos}(r:PE X b (tN C gb))(u:PlainIx b)(o:X.N[j]?=some x:=by rfl)(v:Vis X.env.scope x:=by walk_at "v")
  (t:(x == ("__debug__":Str))=false:=by decide) (g:(x == ("__classdict__":Str))=false:=by decide) :
  PE X (.Subscript (.Name x w) b pos) (tN (λd H=>C d H/\d[j]?=some (some (.ref a))/\SqL X.K H a (ns.map V.int) /\ -(ns.length:Int)<=gb d/\gb d<(ns.length:Int)) (λd=>ns.getD (if 0<=gb d then gb d else gb d+ns.length).toNat 0)):=by
 rintro p s d H Q I ⟨⟨c,m,n,k,l⟩,q⟩;refine pe_ix ix_list (pe_var o v t g) r u p s d H Q I ⟨_,m,c,a,_,_,_,rfl,rfl,n,?_,q⟩;show atI (ns.map V.int) (gb d)=some (V.int (ns.getD (if 0<=gb d then gb d else gb d+ns.length).toNat 0));by_cases e:0<=gb d
 .rw[ai e];exact zj e l
 .rw[ag e];have f:=zj (ns:=ns) (i:=gb d+ns.length) (by lia) (by lia);unfold atI ixN at f ⊢;rw[ae]at f ⊢;rw[ai (show 0<=gb d+(ns.length:Int) by lia),ai (show gb d+(ns.length:Int)<(ns.length:Int) by lia)]at f;rw[ag e,ai k];exact f
def aaX (j:Nat)(a:Addr)(xs:List V)(k:X.mg "len"=none)(f:X.N[j]?=some x:=by rfl)(i:Gl X "len":=by rfl)(l:Vis X.env.scope x:=by walk_at "v")
  (g:(x == ("__debug__":Str))=false:=by decide) (c:(x == ("__classdict__":Str))=false:=by decide) (he:starEach [.Name x e] X.env=[(false,eval (.Name x e) X.env)]:=by rfl) :
  PE X (.Call (.Name "len" p) [.Name x e] [] pos) (tN (λd H=>d[j]?=some (some (.ref a))/\SqL X.K H a xs) (λ_=>(xs.length:Int))):=by
 intro b s d H Q I h;exact pe_callB call_len_seq i k PySem.boot_len (pa_cons (pe_var f l g c) pa_nil he) (by decide) (by decide) he rfl b s d H Q I ⟨_,h.1.1,a,_,rfl,.inl h.1.2,h.2⟩
def spB (n:Nat)(pre:List Int->Prop)(F:List Int->Bool):Sp:=λv H Q _=>∃a:List Int,a.length=n/\v=a.map V.int/\pre a/\Q (.bl (F a)) H
structure Ok (P:Program)(w:World)(K:Fg)(mg:Mg)(base:Heap)(k:Nat)(x:Str)(ps:List Str)(sp:Sp):Prop where
 ex:∃f fd,FnOk P w K mg base CX0 k f fd ps sp/\Binds K fd ps []/\W.keepIn K (.ref f)=true/\mg x=some (.ref f)
def Ok.imp {P:Program}{w:World}{K:Fg}{mg:Mg}{base:Heap}{k:Nat}{x:Str}{p:Ls}{sp s:Sp}(o:Ok P w K mg base k x p sp)(h:∀vs H Q E,s vs H Q E->sp vs H Q E):Ok P w K mg base k x p s:=by obtain⟨f,c,a,b⟩:=o.ex;exact⟨f,c,a.imp h,b⟩
def vN (o:Ok X.prog X.w X.K X.mg X.base j x r sp)(l:Room k X.A)(d:PA X (e::a) t)(i:j<=k:=by decide)(g:Gl X x:=by rfl)(h:(x == ("__debug__":Str))=false:=by decide)
  (he:starEach (e::a) X.env=(false,eval e X.env)::starEach a X.env:=by rfl) (c:(backTo pos (starEach a X.env)).any (·.1)=false:=by rfl):PE X (.Call (.Name x p) (e::a) [] pos) (tCall sp [] E0 t):=by
 obtain⟨f,q,F,b,n,m⟩:=o.ex;exact pe_call (F.mono i) l g m n b .nil pass0 d h he c
section
variable {P:Program}{w:World}{K:Fg}{mg:Mg}{base:Heap}
def lH.ok {x:Str}{st:Stmt}{N p:Ls}{k:Nat}{sp:Sp}(d:lH K mg x st p)(S:FnScope N p (defScope st))(len:∀vs H Q E,sp vs H Q E->vs.length=p.length)
  (a:∀(f:Addr) (c:Value) (A:Around) (outer:List Env) (s:Shared) (H:Hp) (vs:List V) (Q:VK) (E:XK),Room k (A.deeper (envOfC x (defScope st) s.heap.objs.size f c))->sp vs H Q E -> ∃t,PSs (cxOf CX0 P w K mg base N x (defScope st) f c A outer s H E).nox (defBody st) t/\t { nx:=λ_ e=>Q .non e,rt:=Q } (start N vs) H):Ok P w K mg base (k+1) x p sp:=by
 obtain⟨f,g,F,b,m⟩:=d.ex;exact⟨f,g,F.ok S len λc A outer s H vs Q E i h=>a f c A outer s H vs Q E i h,b,F.kp,m⟩
end
def rZ:bootBuiltins "int"=some (.type "int"):=by decide +kernel
def XD:bootBuiltins "bool"=some (.type "bool"):=by decide +kernel
def aaA:bootBuiltins "str"=some (.type "str"):=by decide +kernel
def Cm:bootBuiltins "ValueError"=some (.type "ValueError"):=by decide +kernel
def Aq:bootBuiltins "len"=some (.builtin "len"):=by decide +kernel
def uM:bootBuiltins "isinstance"=some (.builtin "isinstance"):=by decide +kernel
def aa6:bootBuiltins "abs"=some (.builtin "abs"):=by decide +kernel
def aaH:bootBuiltins "min"=some (.builtin "min"):=by decide +kernel
def JX:V->Option Value
 | .ty n=>some (.type n)
 | .ref a=>some (.ref a)
 |_=>none
def Ac (h:JX c=some cv)(r:RelV c u):u=cv:=by
 cases c with
 |ty n=>cases h;exact r
 |ref a=>cases h;exact r
 |non=>cases h
 |bl _=>cases h
 |int _=>cases h
 |str _=>cases h
 |byt _=>cases h
 |flt _=>cases h
section
variable {X:Cx}
def yr:CallR X (.builtin "isinstance") (λxs H Q=>∃x c t a b,xs=[x,c]/\JX c=some a/\TyOf X.K H x t/\W.kitOne X.K t a=some b/\Q (.bl b) H):=by rintro p s k H xs j Q I r ⟨x,c,t,a,b,rfl,d,ty,e,q⟩;obtain⟨u,w,rfl,f,g⟩:=vals2 r;obtain rfl:=Ac d g;exact isinst_ok I f ty e λi=>⟨.bl b,H,I.tok i,rfl,q⟩
end
def Sh {ns:Li}(h:ns.length=1):∃a,ns=[a]:=match ns,h with | [a],_=>⟨a,rfl⟩
def aaE {ns:Li}(h:ns.length=2):∃a b,ns=[a,b]:=match ns,h with | [a,b],_=>⟨a,b,rfl⟩
def same_new (h:H p=none)(o:HO):Same H (upd H p o):=pY λb u q=>by rw[upd_ne (ne_of_none q h)];exact q
def bits_le (h:k.natAbs<2^n):Builtin.Int.intBits k<=n:=by
  unfold Builtin.Int.intBits;split
  . exact bA _
  . have a:k.natAbs≠0:=by
      rename_i c;intro z;apply c
      first | exact z | (have:k=0:=by omega
                         simp[this])|lia
    have:=(gw a).mpr h;lia
def Ay (h:a.natAbs<2^n)(c:b.natAbs<2^m)(e:n<=1048576:=by decide)(d:m<=1048576:=by decide):IntMulOk a b:=
 .of_bits (aG (bits_le h) (aG e (by decide))) (aG (bits_le c) (aG d (by decide)))
def yW (h:-(2^64)<b/\b<2^64):IntMulOk a b:=.of_right (gv h.1 h.2)
def oO (h:-(2^64)<a/\a<2^64):IntMulOk a b:=.of_left (gv h.1 h.2)
abbrev NoX:Value->Shared->Prop:=λ_ _=>False
def Dr (a:List Expr)(ev:Env):Sem Bool:=forIn a true λc r=>if r=true then do let ok <- isTrue c ev (eval c ev);pure (ForInStep.yield ok) else pure (ForInStep.yield r)
section
variable {P:Program}{w:World}{A:Around}{R:Result->Shared->Prop}{s:Shared}
def Kz {k g d:Expr}{j:List Expr}{sc:Scope}{b:Pos}{i a:Value}{ev:Env}(e:Value->Shared->Prop)(l:∀x s,e x s->notedBy (model P w) A ev (λx f=>R (.error x) f) x s)(I:Nat->Shared->Prop)
  (t:∀n s,I n s->wpAny (model P w) A (pyNext i) (λr s1=>(r=none/\R (.ok .next) s1)\/∃v,r=some v /\ wpAny (model P w) A (letOwnedTupleGo g i v) (λ_ f=>wpAny (model P w) A (assign g ev v) (λ_ u=>wpAny (model P w) A (Dr j ev) (λok o=> if ok=true then wpAny (model P w) A (eval k ev) (λx y=>wpAny (model P w) A (call (.builtin "list.append") [a,x]) (λ_ B=>∃m,m<n/\I m B) e y) e o else ∃m,m<n/\I m o) e u) e f) e s1) e s)
  (n:Nat) (h:I n s):codeAny (model P w) A (.compLoop (.ListComp k [⟨g,d,j,0⟩] sc b) 0 i a ev) R s:=by
 refine codeAny_loop rfl I (λn s hI=>?_) n h;show wpAny _ A ((compTurn (.ListComp k [⟨g,d,j,0⟩] sc b) 0 i a ev).onRaise (λz=>do noteFrame z ev;theTreesLotGoes z)) _ _ s
 refine wpAny_noted (cU ?_ (λ_ _ q=>q) l);rw[compTurn_list];refine ac (fq (ac (thn (t n s hI) λr s1 c=>?_)));rcases c with⟨rfl,c⟩|⟨v,rfl,c⟩
 .exact aO c
 .refine ac (thn c λ_ f C=>ac (thn C λ_ u D=>ac (thn D λok o p=>?_)));cases ok with
  |false=>exact aO ⟨rfl,p⟩
  |true=>exact ac (ac (thn p λx y E=>ac (thn E λ_ B F=>aO (aO ⟨rfl,F⟩))))
end
def qI (X:Cx)(sc:Scope)(cl:List (Str×Addr)):List Str->List (Option Nat)->Prop
 |[],[]=>True
 |_::xs,none::cs=>qI X sc cl xs cs
 |x::xs,some i::cs=>(X.N[i]?=some x/\Vis X.env.scope x/\X.env.kindOf x≠some .local/\((relabel sc X.env).names.lookup x=some .cell\/(relabel sc X.env).names.lookup x=some .free)/\∃c,cl.lookup x=some c/\X.env.cells.lookup x=some c)/\qI X sc cl xs cs
 |_,_=>False
def JR (ev:Env):List (Str×Addr)->Prop
 |[]=>True
 |(x,c)::r=>ev.cells.lookup x=some c/\JR ev r
def JR.look:∀{cl:List (Str×Addr)},JR ev cl->∀{x:Str} {c:Addr},cl.lookup x=some c->ev.cells.lookup x=some c
 |[],_,x,c,h=>by simp at h
 |(y,d)::r,q,x,c,h=>by
  rw[eY]at h;cases e:x == y with
  |true=>
   rw[e]at h;have a:x=y:=by simpa using e
   subst a;cases h;exact q.1
  |false=>rw[e]at h;exact JR.look q.2 h
def lQ (cap:List (Option Nat))(a:St):St:=cap.map λo=>match o with
 |some i=>(a[i]?).join
 |none=>none
def jC (X:Cx)(N':List Str)(sc:Scope)(cl:List (Str×Addr))(s:Shared)(H:Hp)(fp:List Addr):Cx:=
 { X with N:=N',s₀:=s,H₀:=H,env:=compEnvC sc cl s.heap.objs.size X.env,outer:=X.stack,ex:=fp,fn:=λ_=>false,pn:=[],xe:=NoX }
abbrev mC (X:Cx)(N':List Str)(sc:Scope)(cl:List (Str×Addr))(s:Shared)(H:Hp)(fp:List Addr)(xe:Value->Shared->Prop):Cx:={ jC X N' sc cl s H fp with xe:=xe }
def Inv.xe {X:Cx}{p:List (Addr×Obj)}{a:St}{H:Hp}{s:Shared}(I:Inv X p a H s)(E:Value->Shared->Prop):Inv { X with xe:=E } p a H s:=
 ⟨⟨I.ok.mod,I.ok.kind,I.ok.glob,I.ok.blt,I.ok.above,I.ok.inj,I.ok.has,I.ok.cab,I.ok.hd,I.ok.frames,I.ok.stk,I.ok.exf,I.ok.bs,I.ok.bsz,I.ok.noex,I.ok.exfs,I.ok.funs,I.ok.frf⟩,I.os,I.bare,I.base,I.loc,I.cell,I.free,I.freeC,I.pin,I.hok,I.len⟩
section
variable {X:Cx}{P:List (Addr×Obj)}{a:St}{H:Hp}{s:Shared}{N':List Str}{sc:Scope}{cl:List (Str×Addr)}{cap:List (Option Nat)}{fp:List Addr}
def qI.length {X:Cx}{sc:Scope}{cl:List (Str×Addr)}:∀{N':Ls} {cap:List (Option Nat)},qI X sc cl N' cap->cap.length=N'.length
 |[],[],_=>rfl
 |_::xs,none::cs,h=>by have:=qI.length (X:=X) (sc:=sc) (cl:=cl) (N':=xs) (cap:=cs) h;simp[this]
 |_::xs,some i::cs,h=>by have:=qI.length (X:=X) (sc:=sc) (cl:=cl) (N':=xs) (cap:=cs) h.2;simp[this]
 |[],_::_,h=>h.elim
 |_::_,[],h=>h.elim
def qI.at:∀{N':Ls} {cap:List (Option Nat)} {j:Nat},qI X sc cl N' cap->N'[j]?=some x->cap[j]?=some (some i) ->
  X.N[i]?=some x/\Vis X.env.scope x/\X.env.kindOf x≠some .local/\((relabel sc X.env).names.lookup x=some .cell\/(relabel sc X.env).names.lookup x=some .free)/\∃c,cl.lookup x=some c/\X.env.cells.lookup x=some c
 |[],[],j,_,h,_=>by simp at h
 |_::xs,none::cs,0,_,_,h=>by simp at h
 |_::xs,none::cs,j+1,q,h1,h2=>qI.at (N':=xs) (cap:=cs) (j:=j) q (by simpa using h1) (by simpa using h2)
 |y::xs,some k::cs,0,q,h1,h2=>by
  have e:y=x:=by simpa using h1
  have b:k=i:=by simpa using h2
  subst e b;exact q.1
 |_::xs,some _::cs,j+1,q,h1,h2=>qI.at (N':=xs) (cap:=cs) (j:=j) q.2 (by simpa using h1) (by simpa using h2)
 |[],_::_,_,h,_,_=>h.elim
 |_::_,[],_,h,_,_=>h.elim
def Inv.block (I:Inv X P a H s)(Z:sc.kind=.function)(g:qI X sc cl N' cap)(sub:JR X.env cl)
  (D:∀x,((relabel sc X.env).names.lookup x=some .cell\/(relabel sc X.env).names.lookup x=some .free)->∃c,cl.lookup x=some c)
  (t:∀b∈fp,FpOk X P H b) (F:∀b∈fp,∃o,s.heap.get? b=some o) (J:h'.Ns s.heap.objs.size m) (L:Heap.SameBut s.heap.objs.size (s.heap.push o) h') :
  Inv (jC X N' sc cl s H fp) [] (lQ cap a) H { s with heap:=h',toks:=tk }:=by
 have d:∀b u,s.heap.get? b=some u->h'.get? b=some u:=λb u e=>
  (L.2 b (aX (ay e))).trans (af _ e)
 refine⟨⟨I.ok.mod,Z,I.ok.glob,I.ok.blt,aB _,λx y c w A=>I.ok.inj x y c (sub.look w) (sub.look A),D,(λx c h _=>nomatch h),I.ok.hd,I.ok.frames,.inl rfl,λb n=>⟨?_,λx c e=>(t b n).2.2.2.2.1 x c (sub.look e)⟩,I.bs,aG I.ok.bsz I.sz,λb u e n=>?_,λb n E=>?_,I.stack,I.env0.frf⟩,rfl,I.bare,Un.kept d,⟨m,J,λj x v w A h3=>?_⟩,λx c e=>?_,I.hok.fresh (aB _),λx c e=>I.freeC x c (sub.look e),λp hp=>absurd (show p∈([]:List (Addr×Obj)) from hp) (by simp),I.hok.kept d,?_⟩
 .obtain⟨u,e⟩:=F b n;exact aX (ay e)
 .rcases (t b n).2.2.2.1 with z|z
  .exact I.ok.noex b u e z
  .exact absurd (aN (ay e) (aG I.ok.bsz z)) (ck _)
 .rcases aw.mp (I.stkSub b E) with z|z
  .exact(t b n).2.1 z
  .exact(t b n).2.2.1 z
 .obtain⟨m0,hn0,G⟩:=I.loc;have f:((cap.map λo=>match o with|some i=>(a[i]?).join|none=>none):St)[j]?=some (some v):=A
  rw[aE]at f;cases e:cap[j]? with
  |none=>rw[e]at f;cases f
  |some oi=>
   rw[e]at f;cases oi with
   |none=>cases f
   |some i=>
    have q:(a[i]?).join=some v:=aD f;have Y:a[i]?=some (some v):=by
     cases z:a[i]? with
     |none=>rw[z]at q;cases q
     |some y=>rw[z]at q;cases q;rfl
    obtain⟨O,Q,R,S,c,T,U⟩:=g.at w e;obtain⟨u,r,l⟩:=G i x v O Y Q;refine⟨u,r,.inr ⟨S,c,T,?_⟩⟩;rcases l with⟨k,_⟩|⟨_,c',N,ic⟩
    .exact absurd k R
    .rw[U]at N;cases N;obtain⟨M,B,C⟩:=ic;exact⟨M,d _ _ B,C⟩
 .obtain⟨v,M,B,C⟩:=I.cell x c (sub.look e);exact⟨v,M,d _ _ B,C⟩
 .unfold lQ;rw[ae];exact g.length
def Inv.V9 (I:Inv X P a H s)(c:∀b∈fp,FpOk X P H b)(J:Inv (jC X N' sc cl s H fp) pins' σ' d s'):Inv X P a d s':=
 I.call' (ch:=fp) J.os J.base J.hok J.bare λb h=>⟨(c b h).2.2.2.1,(c b h).2.1,(c b h).2.2.2.2.1,(c b h).2.2.2.2.2⟩
end
def xP:St->St->Prop
 |[],[]=>True
 |none::a,_::b=>xP a b
 |some v::a,y::b=>y=some v/\xP a b
 |_,_=>False
def xP.at:∀{a b:St},xP a b->∀(i:Nat) (v:V),a[i]?=some (some v)->b[i]?=some (some v)
 |[],[],_,i,v,h=>by simp at h
 |none::a,_::b,q,0,v,h=>by simp at h
 |none::a,_::b,q,i+1,v,h=>by have:=xP.at (a:=a) (b:=b) q i v (by simpa using h);simpa using this
 |some u::a,y::b,q,0,v,h=>by
  have e:u=v:=by simpa using h
  rw[q.1,e];rfl
 |some u::a,y::b,q,i+1,v,h=>by have:=xP.at (a:=a) (b:=b) q.2 i v (by simpa using h);simpa using this
 |[],_::_,q,_,_,_=>q.elim
 |none::_,[],q,_,_,_=>q.elim
 |some _::_,[],q,_,_,_=>q.elim
def PTs (X:Cx)(c:List Expr)(t:TT):Prop:=
 ∀(p:List (Addr×Obj)) (s:Shared) (σ:St) (H:Hp) (Q:Bool->Hp->Prop),Inv X p σ H s->t σ H Q->wpAny (model X.prog X.w) X.A (Dr c X.env) (TP X p σ Q) X.xe s
def oU:PTs X [] (λ_ H Q=>Q true H):=λ_ _ _ H _ I h=>wpAny_tests_nil ⟨H,I,h⟩
def WX (h:PT X c t):PTs X [c] t:=λp s a H Q I q=>wpAny_tests_one (h p s a H Q I q)
def lcW (D:Addr)(J:It)(f:St)(g:TG)(k:TT)(t:TE)(Q:VK)(W:Nat->Nat->List V->Hp->Prop):Prop:=
 ∀i m a H,W i m a H->H D=some (.lst a)/\a.length<sizeLine /\
  ((J.stop i H/\Q (.ref D) H)\/(J.go i H/\∀x h,J.yld i H x h -> g x f h λb j=>xP f b/\k b j λok d=> if ok=true then t b d λy e=>e D=some (.lst a)/\∃c,c<m/\W (i+1) c (a++[y]) (upd e D (.lst (a++[y]))) else ∃c,c<m/\W (i+1) c a d))
def QS (cap:List (Option Nat))(w:TI)(g:TG)(b:TT)(t:TE):TE:=λa H Q=>w a H λJ h=>∀D,h D=none->∃W:Nat->Nat->List V->Hp->Prop,(∃m,W 0 m [] (upd h D (.lst [])))/\lcW D J (lQ cap a) g b t Q W
section
variable {X:Cx}{P:List (Addr×Obj)}{d:St}{H:Hp}{s:Shared}{N':List Str}{sc:Scope}{cl:List (Str×Addr)}{cap:List (Option Nat)}{fp:List Addr}
 {l t S:Expr} {f:List Expr} {a:Pos} {g:TG} {A:TT} {w:TE} {J:It} {F:Addr} {B:Nat->Heap->Prop} {Q:VK}
structure uB (X:Cx)(N':List Str)(sc:Scope)(cl:List (Str×Addr))(cap:List (Option Nat)):Prop where
 kind:sc.kind=.function
 clos:closureFor sc X.env=pure cl
 nocell:∀y∈sc.names,y.2 ≠ .cell
 names:∀y∈sc.names,y.2=.local->sc.names.lookup y.1=some .local
 cap:qI X sc cl N' cap
 sub:JR X.env cl
 has:∀x,((relabel sc X.env).names.lookup x=some .cell\/(relabel sc X.env).names.lookup x=some .free)->∃c,cl.lookup x=some c
def oH (kind:sc.kind=.function)(b:closureFor sc X.env=pure cl)(m:(sc.names.all λy=>y.2 != .cell)=true)(n:(sc.names.all λy=>y.2 != .local || sc.names.lookup y.1 == some .local)=true)
  (h:qI X sc cl N' cap) (sub:JR X.env cl) (o:((relabel sc X.env).names.all λy=>(y.2 != .cell && y.2 != .free) || (cl.lookup y.1).isSome)=true):uB X N' sc cl cap:=by
 refine⟨kind,b,λy j e=>?_,λy j e=>?_,h,sub,λx r=>?_⟩
 .have q:=aR.mp m y j;rw[e]at q;exact absurd q (by decide)
 .have q:=aR.mp n y j;rw[e]at q;simpa using q
 .have i:∀k,(k=NameKind.cell\/k=NameKind.free)->(relabel sc X.env).names.lookup x=some k->∃c,cl.lookup x=some c:=λk p e=>by
   have q:=aR.mp o _ (cF e);rcases p with rfl|rfl
   .exact b7.mp (by simpa using q)
   .exact b7.mp (by simpa using q)
  rcases r with e|e
  .exact i _ (.inl rfl) e
  .exact i _ (.inr rfl) e
def zR {xe:Shared->Hp->List Addr->Value->Shared->Prop}(L:uB X N' sc cl cap)(hc:X.calm=true)(I:Inv X P d H s)(T:Turn X.prog X.w X.K t J fp F B)(st:B 0 s.heap)(hf:∀b∈fp,FpOk X P H b)
  (hg:∀s H fp,PG (mC X N' sc cl s H fp (xe s H fp)) t g) (ht:∀s H fp,PTs (mC X N' sc cl s H fp (xe s H fp)) f A) (he:∀s H fp,PE (mC X N' sc cl s H fp (xe s H fp)) l w)
  (rd:∀D,H D=none->∃W:Nat->Nat->List V->Hp->Prop,(∃m,W 0 m [] (upd H D (.lst [])))/\lcW D J (lQ cap d) g A w Q W)
  {Ex:Value->Shared->Prop} {RR:Value->Addr->Result->Shared->Prop} (hR:∀D C m G s',Inv X P d G s' -> s'.heap.Ns C m->FpOk X P G C->Q (.ref D) G -> RR (.ref D) C (.ok .next) s')
  (hXe:∀D h H3 e s',Inv X P d H3 h->(∀b∈fp,FpOk X P H3 b)->xe h H3 fp e s' -> notedBy (model X.prog X.w) X.A (compEnvC sc cl h.heap.objs.size X.env) (λx s2=>RR (.ref D) h.heap.objs.size (.error x) s2) e s') :
  wpAny (model X.prog X.w) X.A (newList []) (λacc h=>wpAny (model X.prog X.w) X.A (newFunctionEnv sc X.env.globals cl [] X.env.qual none .none (some X.env)) (λcv s4=> codeAny (model X.prog X.w) X.A (.compStart (.ListComp l [⟨t,S,f,0⟩] sc a) 0 (.ref F) acc { cv with scope:=relabel sc X.env }) (RR acc cv.locals) s4) Ex h) Ex s:=by
 obtain⟨W,⟨m0,w0⟩,step⟩:=rd _ I.fresh;refine ge (fj L.nocell (by intro y hy;simp at hy) (λh1 N M=>?_) L.kind);have I3:Inv X P d (upd H s.heap.objs.size (.lst [])) { s with heap:=s.heap.push { cls:=.type "list",dict:=none,data:=.seq ([]:List Value).toArray } }:=I.lnew (its:=[]) (t':=s.toks) .nil (by show 0<=sizeLine;decide);have hfo:∀b∈fp,∃o,s.heap.get? b=some o:=λb k=>let ⟨o,e,_⟩:=T.obj 0 s.heap st b k;⟨o,e⟩
 have O:∀b∈fp,FpOk X P (upd H s.heap.objs.size (.lst [])) b:=λb k=>by obtain⟨o,e⟩:=hfo b k;exact⟨by rw[upd_ne (aX (ay e))];exact(hf b k).1,(hf b k).2⟩
 dsimp only at N M ⊢;generalize hs3:({ s with heap:=s.heap.push { cls:=.type "list",dict:=none,data:=.seq ([]:List Value).toArray } }:Shared)=h at I3 N M ⊢;have hh3:h.heap=s.heap.push { cls:=.type "list",dict:=none,data:=.seq ([]:List Value).toArray }:=by rw[<- hs3]
 have N:h1.Ns h.heap.objs.size (λx=>List.lookup x ([]:List (Str×Value)).reverse):=by rw[hh3];exact N
 have M:Heap.SameBut h.heap.objs.size (h.heap.push { cls:=.type (if (some X.env).isSome=true then "dict" else "frame"),data:=.dict #[] }) h1:=by rw[hh3];exact M
 have R:∀b o,s.heap.get? b=some o->h.heap.get? b=some o:=λb o e=>by rw[hh3];exact af _ e
 have J0:=Inv.xe (E:=xe h (upd H s.heap.objs.size (.lst [])) fp) (I3.block (N':=N') (cap:=cap) (fp:=fp) (tk:=h.toks+([]:List (Str×Value)).length) L.kind L.cap L.sub L.has O (λb k=>let ⟨o,e⟩:=hfo b k;⟨o,R b o e⟩) N M)
 have st1:B 0 h1:=T.keep 0 s.heap h1 st λb k o e=>(M.2 b (aX (ay (R b o e)))).trans (af _ (R b o e));have fpx:∀{G:Hp},(∀b∈fp,G b=none)->∀b∈fp,FpOk (mC X N' sc cl h (upd H s.heap.objs.size (.lst [])) fp (xe h (upd H s.heap.objs.size (.lst [])) fp)) [] G b:=λhn b k=>by
  obtain⟨o,e⟩:=hfo b k;refine⟨hn b k,aX (ay (R b o e)),λhb'=>?_,.inl k,λx c q=>(hf b k).2.2.2.2.1 x c (L.sub.look q),λp hp=>absurd (show p∈([]:List (Addr×Obj)) from hp) (by simp)⟩;rcases aw.mp (I.stkSub b hb') with z|z
  .exact(hf b k).2.1 z
  .exact(hf b k).2.2.1 z
 have Y:∀s4:Shared,s4={ h with heap:=h1,toks:=h.toks+([]:List (Str×Value)).length } ->
   codeAny (model X.prog X.w) X.A (.compLoop (.ListComp l [⟨t,S,f,0⟩] sc a) 0 (.ref F) (.ref s.heap.objs.size) (compEnvC sc cl h.heap.objs.size X.env)) (RR (.ref s.heap.objs.size) h.heap.objs.size) s4:=by
  rintro s4 rfl;refine Kz _ (λx s' hx=>hXe s.heap.objs.size h _ x s' I3 O hx) (λn s'=>∃i ys G,Inv (mC X N' sc cl h (upd H s.heap.objs.size (.lst [])) fp (xe h (upd H s.heap.objs.size (.lst [])) fp)) [] (lQ cap d) G s'/\B i s'.heap/\(∀b∈fp,G b=none)/\W i n ys G) ?_ m0 ⟨0,[],_,J0,st1,λb k=>(O b k).1,w0⟩;rintro n s' ⟨i,ys,G,Ji,sti,fri,wi⟩;obtain⟨hD,hlen,hgo⟩:=step i n ys G wi;rcases hgo with⟨hstop,hq⟩|⟨hgo,hbody⟩
  .refine thn (T.done (mC X N' sc cl h (upd H s.heap.objs.size (.lst [])) fp (xe h (upd H s.heap.objs.size (.lst [])) fp)) rfl rfl rfl hc i [] s' _ G (xe h (upd H s.heap.objs.size (.lst [])) fp) Ji (fpx fri) sti hstop) λr s1 ⟨hr,J1⟩=>.inl ⟨hr,?_⟩;obtain⟨m1,hm1,_⟩:=J1.loc;exact hR _ _ m1 G s1 (I3.V9 O (Inv.xe J1 NoX)) hm1 (I3.fpOk (aB _) J1.free) hq
  .refine thn (T.item (mC X N' sc cl h (upd H s.heap.objs.size (.lst [])) fp (xe h (upd H s.heap.objs.size (.lst [])) fp)) rfl rfl rfl hc i [] s' _ G (xe h (upd H s.heap.objs.size (.lst [])) fp) Ji (fpx fri) sti hgo) λr s1 ⟨u,hr,h4⟩=>.inr ⟨u,hr,thn h4 λ_ s5 ⟨x,H5,J5,r5,y5,st5,fr5⟩=>?_⟩;have J5':=J5.pinned (fpx fr5) (T.obj _ _ st5);refine thn (hg _ _ _ _ s5 _ H5 x u _ J5' r5 (hbody x H5 y5)) λ_ s6 ⟨σ6,H6,J6,ext,q6⟩=>?_;have U:∀{ys':List V} {H7:Hp} {s7:Shared} {m':Nat},Inv (mC X N' sc cl h (upd H s.heap.objs.size (.lst [])) fp (xe h (upd H s.heap.objs.size (.lst [])) fp)) ([]++pinsAt fp s5.heap) σ6 H7 s7->m'<n->W (i+1) m' ys' H7 ->
     ∃m,m<n/\∃i ys G,Inv (mC X N' sc cl h (upd H s.heap.objs.size (.lst [])) fp (xe h (upd H s.heap.objs.size (.lst [])) fp)) [] (lQ cap d) G s7/\B i s7.heap/\(∀b∈fp,G b=none)/\W i m ys G:=λ{ys' H7 s7 m'} Z hm w7=>by
    refine⟨m',hm,i+1,ys',H7,(Z.unpinned).weak ?_ λj v z=>ext.at j v z,T.keep _ _ _ st5 λb k o e=>(Z.pin (b,o) (aI _ (aI _ (mem_pinsAt k e)))).1,λb k=>?_,w7⟩
    .rw[Z.len,Ji.len]
    .obtain⟨o,e,_⟩:=T.obj _ _ st5 b k;exact(Z.pin (b,o) (aI _ (aI _ (mem_pinsAt k e)))).2.1
   refine thn (ht _ _ _ _ s6 _ H6 _ J6 q6) λok s7 ⟨H7,Z,q7⟩=>?_;cases ok with
   |false=>obtain⟨m',hm,w7⟩:=q7;exact U Z hm w7
   |true=>refine thn (he _ _ _ _ s7 _ H7 _ Z q7) λy s8 ⟨yv,H8,J8,r8,hD8,m',hm,w8⟩=>?_;exact thn (mt_append _ s8 _ H8 (.ref s.heap.objs.size) [yv] (.ref s.heap.objs.size) [y] (λv H9=>H9=upd H8 s.heap.objs.size (.lst (ys++[yv]))) J8 rfl (.cons r8 .nil) ⟨_,ys,yv,rfl,rfl,hD8,hlen,rfl⟩) λ_ s9 ⟨_,H9,J9,_,e9⟩=>by subst e9;exact U J9 hm w8
 subst hs3;exact codeAny_compStart_list (Y _ rfl) (T.self _ 0 _ _ _ st1 (Y _ rfl))
def O3 (L:uB X N' sc cl cap)(k:X.calm=true)(I:Inv X P d H s)(T:Turn X.prog X.w X.K t J fp F B)(st:B 0 s.heap)(n:∀b∈fp,FpOk X P H b)
  (o:∀s H fp,PG (jC X N' sc cl s H fp) t g) (p:∀s H fp,PTs (jC X N' sc cl s H fp) f A) (he:∀s H fp,PE (jC X N' sc cl s H fp) l w)
  (r:∀D,H D=none->∃W:Nat->Nat->List V->Hp->Prop,(∃m,W 0 m [] (upd H D (.lst [])))/\lcW D J (lQ cap d) g A w Q W)
  {E:Value->Shared->Prop} {RR:Value->Addr->Result->Shared->Prop} (j:∀D C m e s',Inv X P d e s' -> s'.heap.Ns C m->FpOk X P e C->Q (.ref D) e -> RR (.ref D) C (.ok .next) s') :
  wpAny (model X.prog X.w) X.A (newList []) (λc q=>wpAny (model X.prog X.w) X.A (newFunctionEnv sc X.env.globals cl [] X.env.qual none .none (some X.env)) (λi u=> codeAny (model X.prog X.w) X.A (.compStart (.ListComp l [⟨t,S,f,0⟩] sc a) 0 (.ref F) c { i with scope:=relabel sc X.env }) (RR c i.locals) u) E q) E s:=
 zR (xe:=λ_ _ _=>NoX) L k I T st n o p he r j λ_ _ _ _ _ _ _ h=>h.elim
def Ab (L:uB X N' sc cl cap)(E:X.calm=true)(M:PI X t S wi)(G:∀s H fp,PG (jC X N' sc cl s H fp) t g)(R:∀s H fp,PTs (jC X N' sc cl s H fp) f A)(he:∀s H fp,PE (jC X N' sc cl s H fp) l w)
  (O:∀x,foldedSetIterable S X.env x=pure x:=by intro _;rfl):PE X (.ListComp l [⟨t,S,f,0⟩] sc a) (QS cap wi g A w):=by
 intro P s d H Q I h;rw[eval_ListComp];refine wpAny_comprehension_free (use:=none) rfl O L.clos L.kind L.names (thn (M P s d H _ I h) λv s1 u=>thn u λU s2 y=>?_);obtain⟨F,fp,B,J,H2,rfl,n,T,j,r,Y⟩:=y;refine O3 L E n T j r G R he Y (RR:=λi C=>compPost (model X.prog X.w) X.A X.xe none (EP X P d Q) i C) λD C m k Z p N c q=>?_;refine⟨m,N,λh' sb=>⟨.ref D,k,p.turned (t':=Z.toks) (λb o z e=>(sb.2 b z).trans e) c.1 c.2.1 c.2.2.2.1 c.2.2.2.2.1 c.2.2.2.2.2,rfl,q⟩⟩
def aaj {xe:Shared->Hp->List Addr->Value->Shared->Prop}{wi:TI}{i:Nat}{x:Str}{u j:Pos}(hN:X.N.Nodup)(hi':X.N[i]?=some x)(G:X.env.scope.names.lookup x=some .local)(L:uB X N' sc cl cap)(hc:X.calm=true)(hi:PI X t S wi)(hg:∀s H fp,PG (mC X N' sc cl s H fp (xe s H fp)) t g)
  (ht:∀s H fp,PTs (mC X N' sc cl s H fp (xe s H fp)) f A) (he:∀s H fp,PE (mC X N' sc cl s H fp (xe s H fp)) l w) (hsw:swapsWith (.ListComp l [⟨t,S,f,0⟩] sc a) (some (.Name x u)) j.line X.env=pure true)
  (Y:∀P d fp c y e s',Inv X P d y c->(∀b∈fp,FpOk X P y b)->xe c y fp e s' -> notedBy (model X.prog X.w) X.A (compEnvC sc cl c.heap.objs.size X.env) (λx N=>∃m,N.heap.Ns c.heap.objs.size m/\∀h',Heap.SameBut c.heap.objs.size N.heap h' -> ∀cv:Env,cv.locals=c.heap.objs.size->wpAny (model X.prog X.w) X.A (passOn "comprehension.variables-let-go" x cv:Sem Value) (λ_ _=>False) X.xe { N with heap:=h' }) e s')
  (hs:∀x,foldedSetIterable S X.env x=pure x:=by intro _;rfl):PS X (.Assign [.Name x u] (.ListComp l [⟨t,S,f,0⟩] sc a) j) (tAsg (QS cap wi g A w) (gName i)):=by
 intro P s d H D I h;rw[exec_Assign_Name_used _ _ _ _ hsw];refine ac (fq (ac ?_));show wpAny _ X.A (do let _ <- comprehension (.ListComp l [⟨t,S,f,0⟩] sc a) sc X.env _ (newList []) false (eval S X.env) (some (assign (.Name x u) X.env))) _ _ s
 refine ac (thn (wpAny_comprehension_free (use:=some (assign (.Name x u) X.env)) (Q:=λ_ s'=>SP X P D .next s') rfl hs L.clos L.kind L.names (thn (hi P s d H _ I h) λv s1 h1=>thn h1 λitv N h2=>?_)) λ_ s' q=>aO (aO q));obtain⟨F,fp,B,J,H2,rfl,I2,T,st2,f2,rd⟩:=h2;refine zR (xe:=xe) L hc I2 T st2 f2 hg ht he rd (RR:=λU C=>compPost (model X.prog X.w) X.A X.xe (some (assign (.Name x u) X.env)) (λ_ s'=>SP X P D .next s') U C) (λO C m H' s' J' hn n q=>?_) λ_ c y e s' I3 Z G=>Y _ _ _ c y e s' I3 Z G;obtain⟨M,es,ep,hoC,E,hr⟩:=hn;have Jp:Inv X (P++[(C,M)]) d H' s':=J'.pins_of λp hp=>by
  rcases aZ.mp hp with z|z
  .exact J'.pin p (aI _ z)
  .have e:p=(C,M):=by simpa using z
   subst e;exact⟨hoC,n.1,n.2.1,n.2.2.1,λv z=>by rw[E]at z;cases z⟩
 show wpAny _ X.A (assign (.Name x u) X.env (.ref O)) _ _ s';refine thn (pg_name (i:=i) hN hi' (.inl G) (.inr G) _ s' d H' (.ref O) (.ref O) (λr k=>D.nx r k) Jp rfl q) λ_ s'' ⟨r,k,R,q2⟩=>?_;obtain⟨p1,p2,p3,p4,p5⟩:=R.pin (C,M) (aI _ (aI _ (by simp)));refine⟨m,⟨M,es,ep,p1,E,hr⟩,λh' sb=>⟨r,k,(R.pins_of (pins':=P) λp hp=>R.pin p (aI _ (bV _ hp))).turned (t':=s''.toks) (λb o hb e=>(sb.2 b hb).trans e) p2 n.2.1 n.2.2.2.1 n.2.2.2.2.1 n.2.2.2.2.2,q2⟩⟩
def Uy {j:TI}{i:Nat}{x:Str}{p b:Pos}(k:X.N.Nodup)(c:X.N[i]?=some x)(u:X.env.scope.names.lookup x=some .local)(L:uB X N' sc cl cap)(m:X.calm=true)(o:PI X t S j)(n:∀s H fp,PG (jC X N' sc cl s H fp) t g)
  (r:∀s H fp,PTs (jC X N' sc cl s H fp) f A) (he:∀s H fp,PE (jC X N' sc cl s H fp) l w) (e:swapsWith (.ListComp l [⟨t,S,f,0⟩] sc a) (some (.Name x p)) b.line X.env=pure true)
  (q:∀x,foldedSetIterable S X.env x=pure x:=by intro _;rfl):PS X (.Assign [.Name x p] (.ListComp l [⟨t,S,f,0⟩] sc a) b) (tAsg (QS cap j g A w) (gName i)):=
 aaj (xe:=λ_ _ _=>NoX) k c u L m o n r he e (λ_ _ _ _ _ _ _ _ _ h=>h.elim) q
end
def ObjOk.get (x:ObjOk P w H h a o):∃ob,h.get? a=some ob:=by
 cases o with
 |lst xs=>obtain⟨_,_,_,_,e⟩:=x;exact⟨_,e⟩
 |tup xs=>obtain⟨_,_,_,ob,e,_⟩:=x;exact⟨ob,e⟩
 |dK k=>obtain⟨_,_,_,_,o,_,_,e,_⟩:=x;exact⟨o,e⟩
 |dT k=>obtain⟨_,_,_,_,o,_,_,e,_⟩:=x;exact⟨o,e⟩
 |set S n=>obtain⟨o,_,_,_,e,_⟩:=x;exact⟨o,e⟩
 |ins C d fs=>obtain⟨_,_,_,e,_⟩:=x;exact⟨_,e⟩
 |own y=>exact x
 |xd fs=>obtain⟨_,⟨o,_,_,e,_⟩,_⟩:=x;exact⟨o,e⟩
 |rng l b=>obtain⟨_,_,_,e⟩:=x;exact⟨_,e⟩
 |frz ob u=>obtain⟨e,_⟩:=x;exact⟨ob,e⟩
 |tbl p=>exact⟨_,x.1⟩
 |met f y=>exact⟨_,(show h.get? a=some _ from x)⟩
 |ext c=>obtain⟨_,e,_⟩:=x;exact e
structure Lft (fr as:List Addr)(h h2:Heap)(a:Addr)(cls:Value)(dd:Option Addr):Prop where
 keep:∀b o,h.get? b=some o->b∉as->h2.get? b=some o
 slot:∀b o,b∈fr->h.get? b=some o->∃sl,h2.get? b=some { o with slots:=sl }
 ex:∃oe vs T oT ts,h2.get? a=some oe/\oe.cls=cls/\oe.dict=dd/\oe.data=.fields vs/\vs[1]?=some (.ref T)/\h.get? T=none/\T≠a/\h2.get? T=some oT/\oT.data=.fields ts/\ts[3]?=some .none/\(dd.isSome=true->vs[2]?=some .none)
def Bc (f:Array Value->Array Value)(o:Obj):(Obj.mapFields f o).dict=o.dict:=by unfold Obj.mapFields;split<;>rfl
section
variable {M:Model}{A:Around}{E:Value->Shared->Prop}{s:Shared}{base:Heap}{env:Env}{outer:List Env}{L a:Addr}{O:Obj}{vs:Array Value}{as:List Addr}{Q:Unit->Shared->Prop}{dd:Option Addr}
def Dg {g:Value}{f:Bool}(v:A.frames=some (env::outer))(hl:s.heap.FunFrames base (env::outer))(N:env.frame=some L)(he:s.heap.get? a=some O)(u:O.dict=dd)(t:O.data=.fields vs)(i:1<vs.size)(P:dd.isSome=true->vs[2]?=some .none)
  (r:a∈as) (w:∀b∈frs (env::outer),b∈as) (h:∀h',Lft (frs (env::outer)) as s.heap h' a O.cls dd->Q () { s with heap:=h' }) :
  wpAny M A (do let x <- frameOf env;let pl <- entryPlaceOf L f;let b <- EntryCells.newEntry g x .none (rawInt L) .none pl;setField (.ref a) 1 b) (λ_ s'=>wpAny M A (setFlight (.ref a) none) Q E s') E s:=by
 have k:a∉frs (env::outer):=λz=>by obtain⟨_,o,e,d⟩:=hl.mem z;rw[he]at e;cases e;exact d vs t
 refine ac (wpAny_frameOf_fun v hl N λc m=>ac (wpAny_entryPlaceOf λpl y=>?_));unfold EntryCells.newEntry newFields;refine ac (ge ?_ (y.sizeOk5 _ _ _ _ _));have D:c.get? a=some O:=(m.2.1 a k).trans he;have C:c.objs.size≠a:=cH (ay D);generalize B:([g,Value.ref L,Value.none,rawInt L,Value.none]++(if pl.isEmpty then List.replicate 6 Value.none else pl)).toArray=ts;have l:3<ts.size:=by rw[<- B];simp
 have F:=af (h:=c) { cls:=.type "traceback",dict:=none,data:=.fields ts } D;have R:=aP c (o:={ cls:=.type "traceback",dict:=none,data:=.fields ts }) rfl;refine ij F t i ?_;have p:=cI t (·.setIfInBounds 1 (Value.ref c.objs.size));have G:=b8 (Obj.mapFields (·.setIfInBounds 1 (Value.ref c.objs.size))) F (dz p);have I:=(a8 (c.push { cls:=.type "traceback",dict:=none,data:=.fields ts }) (Obj.mapFields (·.setIfInBounds 1 (Value.ref c.objs.size))) (br C)).trans R;refine wpAny_setFlight_none (vs:=vs.setIfInBounds 1 (.ref c.objs.size)) G p (by simp[i]) I rfl l (h _ ⟨λb o q nb=>?_,λb o q J=>?_,?_⟩)
 .have j:c.get? b=some o:=(m.2.1 b λz=>nb (w b z)).trans q;have n:b≠a:=λz=>nb (z ▸ r);rw[a8 _ _ (cH (ay j)),a8 _ _ (br n)];exact af _ j
 .obtain⟨H,j⟩:=m.2.2 b o J;have n:b≠a:=λz=>k (z ▸ q);refine⟨H,?_⟩;rw[a8 _ _ (cH (ay j)),a8 _ _ (br n)];exact af _ j
 .refine⟨_,_,c.objs.size,_,_,(a8 _ _ C).trans G,Obj.cls_mapFields _ _,?_,p,by simp[i],?_,C,b8 _ I (dz (cI rfl _)),cI rfl _,by simp[l],λz=>by rw[Array.getElem?_setIfInBounds_ne (by decide)];exact P z⟩
  .rw[Bc];exact u
  .cases q:s.heap.get? c.objs.size with
   |none=>rfl
   |some o=>obtain⟨H,j⟩:=m.2.2 _ o q;exact absurd (ay j) (ck _)
def La (e:A.frames=some (env::outer))(hl:s.heap.FunFrames base (env::outer))(j:env.frame=some L)(he:s.heap.get? a=some O)(d:O.dict=dd)(i:O.data=.fields vs)(g:vs[1]?=some .none)(k:dd.isSome=true->vs[2]?=some .none)
  (c:a∈as) (f:∀b∈frs (env::outer),b∈as) (h:∀h',Lft (frs (env::outer)) as s.heap h' a O.cls dd->Q () { s with heap:=h' }) :
  wpAny M A (noteFrame (.ref a) env) (λ_ s'=>wpAny M A (setFlight (.ref a) none) Q E s') E s:=by
 unfold noteFrame;simp only[j];refine ac (iw he i g ?_);rw[ag (by decide)];exact Dg e hl j he d i (ci.mp g).1 k c f h
def Ds {T:Addr}{I:Obj}{ts:Array Value}(p:A.frames=some (env::outer))(hl:s.heap.FunFrames base (env::outer))(H:env.frame=some L)(he:s.heap.get? a=some O)(n:O.dict=dd)(G:O.data=.fields vs)(D:vs[1]?=some (.ref T))(J:dd.isSome=true->vs[2]?=some .none)
  (l:T≠a) (i:s.heap.get? T=some I) (c:I.data=.fields ts) (F:ts[3]?=some .none)
  (m:a∈as) (k:T∈as) (r:∀b∈frs (env::outer),b∈as) (h:∀h',Lft (frs (env::outer)) as s.heap h' a O.cls dd->Q () { s with heap:=h' }) :
  wpAny M A (noteFrame (.ref a) env) (λ_ s'=>wpAny M A (setFlight (.ref a) none) Q E s') E s:=by
 unfold noteFrame;simp only[H];refine ac (iw he G D ?_);rw[ai (show(Value.ref T != Value.none)=true from by simp)];refine ac (iw i c F ?_);rw[ag (show ¬((Value.none == rawInt L)=true) from by simp[rawInt])];refine ac (ij i c (ci.mp F).1 ?_);have N:T∉frs (env::outer):=λz=>by obtain⟨_,o,e,d⟩:=hl.mem z;rw[i]at e;cases e;exact d ts c
 have f:∀b,b≠T->(s.heap.update T (Obj.mapFields (·.setIfInBounds 3 Value.none))).get? b=s.heap.get? b:=λb j=>a8 _ _ (br j);have g:=b8 (Obj.mapFields (·.setIfInBounds 3 Value.none)) i (dz (cI c _));refine Dg p (hl.of_keeps λb o j t=>⟨o,(f b (λz=>by rw[z,i]at j;cases j;exact t ts c)).trans j,rfl⟩) H ((f a (br l)).trans he) n G (ci.mp D).1 J m r λh' q=>h h' ⟨λb o e nb=>?_,λb o z e=>?_,?_⟩
 .exact q.keep b o ((f b λz=>nb (z ▸ k)).trans e) nb
 .exact q.slot b o z ((f b λy=>N (y ▸ z)).trans e)
 .obtain⟨v,x,C,u,w,P,R,S,U,Y,B,Z⟩:=q.ex;refine⟨v,x,C,u,w,P,R,S,U,Y,?_,Z⟩;rw[<- f C (λz=>by rw[z,g]at B;cases B)];exact B
end
structure Fly (h0:Heap)(H:Hp)(h:Heap)(a:Addr)(cls:Value)(dd:Option Addr):Prop where
 ex:∃oe vs T oT ts,h.get? a=some oe/\oe.cls=cls/\oe.dict=dd/\oe.data=.fields vs/\vs[1]?=some (.ref T)/\T≠a/\h.get? T=some oT/\oT.data=.fields ts/\ts[3]?=some .none/\H T=none/\h0.get? T=none/\(dd.isSome=true->vs[2]?=some .none)
 un:H a=none
 new:h0.get? a=none
def sZ (P:Program)(w:World):CXT:=λo H s E e b=>∃a cls d h,e=.ref a/\b.os=s.os/\AllBare b.gens/\Un (frs o) [] H h s.heap b.heap/\HOk P w h b.heap/\Fly s.heap h b.heap a cls d/\E cls d h
section
variable {X:Cx}{p:List (Addr×Obj)}{f:St}{d H:Hp}{s1 s':Shared}{a:Addr}{cls:Value}{dd:Option Addr}{E:XK}
def rm {base h h':Heap}:∀{l:List Env},h.FunFrames base l->(∀b∈frs l,∀o,h.get? b=some o->∃s,h'.get? b=some { o with slots:=s })->h'.FunFrames base l
 |[],_,_=>tT
 |ev::r,hl,k=>by
  obtain⟨j,⟨L,o,c,m,n,i⟩,t⟩:=hl;have e:frs (ev::r)=L::frs r:=by unfold frs;rw[a9,c]
  obtain⟨s,q⟩:=k L (by rw[e];exact aA) o n;exact⟨j,⟨L,_,c,m,q,i⟩,rm t λb g=>k b (by rw[e];exact aj _ g)⟩
def Inv.K4 (I:Inv X p f d s1)(u:Un (frs X.stack) [] d H s1.heap s'.heap):s'.heap.FunFrames X.base X.stack:=
 rm I.stack λb h o e=>u.slot b o e (I.stkFree b h) h (by simp)
def JL {as:List Addr}{h2:Heap}(I:Inv X p f d s1)(R:X.stack=X.env::X.outer)(P:X.env.frame=some X.env.locals)(O:X.ex=[])(ho:s'.os=s1.os)(hb:AllBare s'.gens)
  (u:Un (frs X.stack) [] d H s1.heap s'.heap) (F:HOk X.prog X.w H s'.heap) (A:∀b∈as,b∈frs X.stack\/(H b=none/\X.s₀.heap.get? b=none)) (hfs:∀b∈frs X.stack,b∈as) (haa:a∈as) (D:H a=none/\X.s₀.heap.get? a=none)
  (L:Lft (frs X.stack) as s'.heap h2 a cls dd) (hE:E cls dd H):sZ X.prog X.w X.outer X.H₀ X.s₀ E (.ref a) { s' with heap:=h2 }:=by
 have r:frs X.stack=X.env.locals::frs X.outer:=by rw[R];unfold frs;rw[a9,P]
 have g:∀b:Addr,b∉X.ex:=λb=>by rw[O];simp
 have FF:=I.K4 u;have k:=L.keep;have s:=L.slot;have t:∀b o,X.s₀.heap.get? b=some o->b≠X.env.locals:=λb o e=>aX (aN (ay e) I.ok.above);have out:∀b o,X.s₀.heap.get? b=some o->b∈as->b∈frs X.stack:=λb o e z=>by
  rcases A b z with q|⟨_,q⟩
  .exact q
  .rw[e]at q;cases q
 have m:∀b o,X.s₀.heap.get? b=some o->∃o',s1.heap.get? b=some o':=λb o e=>I.base.there b o e (g b);obtain⟨oe,vs,T,oT,ts,he,B,N,hd,h1,Q,M,hT,C,h3,S⟩:=L.ex;have y:T∈as\/s'.heap.get? T=none:=.inr Q;have h:∀b∈as,H b=none:=λb z=>by
  rcases A b z with q|⟨q,_⟩
  .obtain⟨_,o,e,_⟩:=I.stack.mem q;exact u.free b o e (I.stkFree b q) (by simp)
  .exact q
 refine⟨a,cls,dd,H,rfl,ho.trans I.os,hb,⟨λb o e n l _=>?_,λb o e n l _=>?_,λb o e n _=>?_,λb o e _=>?_,λb xs e=>u.tups b xs (I.base.tups b xs e),λb o v e=>u.frzs b o v (I.base.frzs b o v e),λb ps e=>?_⟩,λb o e=>?_,⟨⟨oe,vs,T,oT,ts,he,B,N,hd,h1,M,hT,C,h3,?_,?_,S⟩,D.1,?_⟩,hE⟩
 .have i:=I.base.keep b o e n l (g b);have U:=I.base.free b o e n (g b);have x:b∉frs X.stack:=λz=>by rw[r]at z;exact(aw.mp z).elim (t b o e) l
  exact k b o (u.keep b o i U x (by simp)) λz=>x (out b o e z)
 .obtain⟨sl1,i⟩:=I.base.slot b o e n l (g b);have U:=I.base.free b o e n (g b);have x:b∈frs X.stack:=by rw[r];exact aj _ l
  obtain⟨sl2,j⟩:=u.slot b _ i U x (by simp);obtain⟨Y,w⟩:=s b _ x j;exact⟨Y,w⟩
 .obtain⟨G,i⟩:=m b o e;exact u.free b G i (I.base.free b o e n (g b)) (by simp)
 .obtain⟨G,i⟩:=m b o e;obtain⟨o2,j⟩:=u.there b G i (by simp);by_cases z:b∈as
  .obtain⟨sl,w⟩:=s b o2 (out b o e z) j;exact⟨_,w⟩
  .exact⟨o2,k b o2 j z⟩
 .obtain⟨m1,i⟩:=I.base.tbls b ps e;obtain⟨m2,j⟩:=u.tbls b _ i;exact⟨m1++m2,by rw[j,w6.append_assoc]⟩
 .refine(F b o e).stay (λc v J q=>k c v q λz=>?_) (λ_ q=>q) λ_ _ q=>q;have:=h c z;rcases J with rfl|J
  .rw[this]at e;cases e
  .rw[this]at J;cases J
 .rcases y with z|z
  .exact h T z
  .cases q:H T with
   |none=>rfl
   |some v=>obtain⟨ob,e⟩:=(F T v q).get;rw[z]at e;cases e
 .cases q:X.s₀.heap.get? T with
  |none=>rfl
  |some o=>
   obtain⟨G,i⟩:=m T o q;obtain⟨o2,j⟩:=u.there T G i (by simp);rcases y with z|z
   .obtain⟨sl,w⟩:=s T o2 (out T o q z) j;obtain⟨_,o4,Z,d4⟩:=FF.mem (out T o q z);rw[j]at Z;cases Z;rw[hT]at w;cases w;exact absurd C (d4 ts)
   .rw[z]at j;cases j
 .exact D.2
def Dd {as:List Addr}{r:Heap}(I:Inv X p f d s1)(m:X.stack=X.env::X.outer)(j:X.env.frame=some X.env.locals)(h:X.ex=[])(v:s'.os=s1.os)(t:AllBare s'.gens)
  (u:Un (frs X.stack) [] d H s1.heap s'.heap) (l:HOk X.prog X.w H s'.heap) (i:∀b∈as,b∈frs X.stack\/(H b=none/\s1.heap.get? b=none)) (k:∀b∈frs X.stack,b∈as) (g:a∈as) (c:H a=none/\s1.heap.get? a=none)
  (L:Lft (frs X.stack) as s'.heap r a cls dd) (s:E cls dd H):sZ X.prog X.w X.outer X.H₀ X.s₀ E (.ref a) { s' with heap:=r }:=by
 have e:∀b,s1.heap.get? b=none->X.s₀.heap.get? b=none:=λb z=>by
  cases q:X.s₀.heap.get? b with
  |none=>rfl
  |some o=>obtain⟨w,n⟩:=I.base.there b o q (by rw[h];simp);rw[z]at n;cases n
 exact JL I m j h v t u l (λb z=>(i b z).imp id λq=>⟨q.1,e b q.2⟩) k g ⟨c.1,e a c.2⟩ L s
def leave_new {o:Obj}{vs:Array Value}{Q:Unit->Shared->Prop}(I:Inv X p f d s1)(h:X.stack=X.env::X.outer)(c:X.env.frame=some X.env.locals)(i:X.ex=[])(w:s'.os=s1.os)(r:AllBare s'.gens)
  (u:Un (frs X.stack) [] d H s1.heap s'.heap) (j:HOk X.prog X.w H s'.heap) (e:H a=none/\s1.heap.get? a=none) (he:s'.heap.get? a=some o) (t:o.cls=cls) (g:o.dict=dd) (v:o.data=.fields vs) (k:vs[1]?=some .none) (x:dd.isSome=true->vs[2]?=some .none) (m:E cls dd H)
  (n:∀s,sZ X.prog X.w X.outer X.H₀ X.s₀ E (.ref a) s->Q () s) {M:Model} {E':Value->Shared->Prop}:wpAny M X.A (leaving X.env (.ref a)) Q E' s':=by
 subst t;have l:X.A.frames=some (X.env::X.outer):=by rw[<- h];exact I.ok.frames
 have F:=I.K4 u;refine ac (La (as:=a::frs X.stack) l (by rw[<- h];exact F) c he g v k x aA (λb z=>aj _ (by rw[h];exact z)) λy L=>n _ ?_);rw[<- h]at L;exact Dd I h c i w r u j (λb z=>(aw.mp z).elim (λq=>.inr (by rw[q];exact e)) .inl) (λb z=>aj _ z) aA e L m
def UV {Q:Unit->Shared->Prop}(I:Inv X p f d s1)(h:X.stack=X.env::X.outer)(e:X.env.frame=some X.env.locals)(l:X.ex=[])(D:s'.os=s1.os)(A:AllBare s'.gens)
  (u:Un (frs X.stack) [] d H s1.heap s'.heap) (m:HOk X.prog X.w H s'.heap) (F:Fly s1.heap H s'.heap a cls dd) (w:E cls dd H)
  (x:∀s,sZ X.prog X.w X.outer X.H₀ X.s₀ E (.ref a) s->Q () s) {M:Model} {E':Value->Shared->Prop}:wpAny M X.A (leaving X.env (.ref a)) Q E' s':=by
 obtain⟨O,P,T,N,ts,C,c,k,B,r,i,y,j,t,g,n,G⟩:=F.ex;subst c;have v:X.A.frames=some (X.env::X.outer):=by rw[<- h];exact I.ok.frames
 have o:=I.K4 u;refine ac (Ds (as:=a::T::frs X.stack) v (by rw[<- h];exact o) e C k B r G i y j t aA (aj _ aA) (λb z=>aj _ (aj _ (by rw[h];exact z))) λJ L=>x _ ?_);rw[<- h]at L;refine Dd I h e l D A u m (λb z=>?_) (λb z=>aj _ (aj _ z)) aA ⟨F.un,F.new⟩ L w;rcases aw.mp z with q|z
 .exact .inr (by rw[q];exact⟨F.un,F.new⟩)
 .rcases aw.mp z with q|z
  .exact .inr (by rw[q];exact⟨g,n⟩)
  .exact .inl z
end
def kZ {P:Program}{w:World}{K:Fg}{mg:Mg}{base:Heap}{N:Ls}{b:Str}{scope:Scope}{f:Addr}{cd:Value}{A:Around}{outer:List Env}{s:Shared}{H:Hp}{E:XK} :
  Passes (sZ P w) (cxOf (sZ P w) P w K mg base N b scope f cd A outer s H E) E:=λp t m r e o I h=>by
 obtain⟨a,cls,n,l,rfl,k,j,u,c,F,i⟩:=h;exact UV I rfl rfl rfl k j u c F i (M:=model P w) (E':=λg d=>sZ P w outer H s E g d) λd q=>q
def CP.facts {K:Fg}{h:Heap}{C:Addr}(X:K.In h)(q:CP K C):∃nm g N bs bm a sn sub ab col dd k0 k1 k2 k3 k5 mN,
  h.get? C=some (excClassObj nm g C N bs bm a sn sub ab col dd k0 k1 k2 k3 k5 "ValueError.__new__")/\h.Ns N mN/\mN "__init__"=none/\OwnTail h bmV bm:=by
 unfold CP W.excIn at q;split at q
 .rename_i d c s f;split at q
  .rename_i z b n o p r B t k m;simp only[bj,dC,Bool.not_eq_true']at q;obtain⟨⟨⟨⟨⟨u,v⟩,i⟩,w⟩,e⟩,j⟩:=q;subst u v;obtain⟨nm,bs,A,y,g,a,sn,sub,ab,col,del⟩:=c;dsimp only at k i e j;subst k i;have x:s = #[n,o,p,r,some (.builtin "ValueError.__new__"),t]:=by obtain⟨l⟩:=s;simp only at m;rw[m]
   subst x;exact⟨nm,g,y,bs,b,a,sn,sub,ab,col,d,n,o,p,r,t,_,X _ _ f,.of_isNs (W.isNs_of_in X e),W.nsMap_none_of_in X e j,fU X w⟩
  .cases q
 .cases q
def Ux (X:Cx)(E:XK):Prop:=∀(p:List (Addr×Obj)) (σ:St) (H:Hp) (s:Shared) (a:Addr) (cls:Value) (vs:List Value) (h':Heap),Inv X p σ H s->Heap.MadeExcOf s.heap h' a cls vs->E cls none H->X.xe (.ref a) { s with heap:=h' }
def Inv.untracked (I:Inv X p b H s)(h:s.heap.get? a=none):H a=none:=by
 cases q:H a with
 |none=>rfl
 |some o=>obtain⟨ob,e⟩:=(I.hok a o q).get;rw[h]at e;cases e
def HW {P:Program}{w:World}{K:Fg}{mg:Mg}{base:Heap}{N:Ls}{b:Str}{scope:Scope}{f:Addr}{cd:Value}{A:Around}{outer:List Env}{s:Shared}{H:Hp}{E:XK} :
  Ux (cxOf (sZ P w) P w K mg base N b scope f cd A outer s H E) E:=λp l k j a cls v g I h i=>by
 obtain⟨t,e,_⟩:=h.there;exact leave_new (s':={ j with heap:=g }) I rfl rfl rfl rfl I.bare (Un.kept h.keeps) (I.hok.kept h.keeps) ⟨I.untracked h.new,h.new⟩ e rfl rfl rfl rfl (λz=>by cases z) i (M:=model P w) (E':=λd c=>sZ P w outer H s E d c) λc q=>q
def aar (C:Addr)(E:XK)(t:TA):TS:=λ_ a H=>t a H λ_ h=>E (.ref C) none h
def SJ {X:Cx}{E:XK}{x:Str}{L c pos:Pos}{e:Expr}{b:List Expr}{C:Addr}{t:TA}(F:Ux X E)(y:X.calm=true)(q:CP X.K C)(A:Gl X x)(B:X.mg x=some (.ref C))(w:PA X (e::b) t)(G:(e::b).length<=1000:=by decide)
  (j:(x == ("__debug__":Str))=false:=by decide) (he:starEach (e::b) X.env=(false,eval e X.env)::starEach b X.env:=by rfl) (n:(backTo c (starEach (e::b) X.env)).any (·.1)=false:=by rfl)
  (hl:∀f H Q,t f H Q->t f H λvs g=>vs.length=(e::b).length/\Q vs g):PS X (.Raise (some (.Call (.Name x L) (e::b) [] c)) none pos) (aar C E t):=by
 intro p s f H D I h;obtain⟨nm,O,N,bs,bm,z,sn,sub,ab,col,dd,k0,k1,k2,k3,k5,mN,v,m,l,o⟩:=q.facts I.ok.mod.kin;have d:bm.contains (.type "BaseException")=true:=o.hasType (by decide +kernel);refine wpAny_Raise_call_subU (nm:=nm) (q:=O) (C:=C) (N:=N) (bs:=bs) (bm:=bm) (hdct:=z) (sn:=sn) (sub:=sub) (ab:=ab) (col:=col) (dd:=dd) (k0:=k0) (k1:=k1) (k2:=k2) (k3:=k3) (k5:=k5) (mN:=mN)
  bU (by decide +kernel) bU d (I.ok.hd y) n l (ld_glob I A B ⟨rfl,?_⟩ j)
 have ev:wpAny (model X.prog X.w) X.A (spliced (backTo c (starEach (e::b) X.env))) (AP X p f λvs g=>vs.length=(e::b).length/\E (.ref C) none g) X.xe s:=w c p s f H _ I (hl f H _ h);rw[he]at ev ⊢;refine fh (thn ev λR P ⟨vs,g,i,r,J,M⟩=>⟨rfl,?_,?_⟩)
 .rw[<- r.length,J];exact bv (small1000 G)
 .exact⟨i.bk _ _ v,m.keeps i.bk,o.keeps i.bk,λu a k=>F p f g P a (.ref C) _ u i k M⟩
section
variable {X:Cx}{CX:CXT}{k:Nat}{f C:Addr}{g:FuncData}{P:List Str}{sp:Sp}{d:List V}{ds:List Value}{E:XK}{x m:Str}{p pos a:Pos}{e o:Expr}{b:List Expr}{T:TE}{t:TA}
def V7 (A:Gl X x)(B:X.mg x=some (.ref C))(c:MK X.K C m f)(F:FnOk X.prog X.w X.K X.mg X.base CX k f g P sp)(D:Room k X.A)(y:Binds X.K g P ds)(z:Vals d ds)(J:Passes CX X E)(w:PA X (e::b) t)
  (j:(x == ("__debug__":Str))=false:=by decide) (n:starEach (e::b) X.env=(false,eval e X.env)::starEach b X.env:=by rfl) (l:(backTo pos (starEach b X.env)).any (·.1)=false:=by rfl)
  (G:eval (.Call (.Attribute (.Name x p) m a) (e::b) [] pos) X.env=(do
   let ov <- eval (.Name x p) X.env
   standAt a.atName
   let (f,first) <- holding [ov] (getMethod ov m pl)
   callWith pos f first (backTo pos (starEach (e::b) X.env)) (backToKw pos (keywordEach [] X.env))):=by rfl):PE X (.Call (.Attribute (.Name x p) m a) (e::b) [] pos) (tCall sp d E t):=by
 intro i s L H Q I h;refine dw (pl:=pl) (ld_glob I A B ?_ j) G;refine W.method_cls I.kIn c.ga (W.cls_value I.kIn c.rd c.fc rfl ?_);have v:=I.tok (s.toks+1);refine cr (first:=[]) (h₀:=X.base) I.ok.mod.kin c.kp (thn (w pos i _ L H _ v h) λO N ⟨R,M,u,r,q⟩=>⟨u.kIn,?_⟩) n l
 exact run_fn F D y z J u r q
end
structure QL (P:Program)(w:World)(K:Fg)(mg:Mg)(base:Heap)(CX:CXT)(k:Nat)(C:Addr)(m:Str)(ps:List Str)(sp:Sp):Prop where
 ex:∃f fd,FnOk P w K mg base CX k f fd ps sp/\Binds K fd ps []/\Meth K C m f/\Cls K C
def acj (k:Hp->Addr->Int->Prop)(a:Addr)(z:Int)(n:Nat)(pre:Int->List Int->Prop)(F:Int->List Int->Int):Sp:=λv H Q _=>∃b:List Int,b.length=n/\v=.ref a::b.map V.int/\k H a z/\pre z b/\Q (.int (F z b)) H
structure KM (P:Program)(w:World)(K:Fg)(mg:Mg)(base:Heap)(k:Nat)(KA:Hp->Addr->Int->Prop)(m:Str)(n:Nat)(pre:Int->List Int->Prop)(F:Int->List Int->Int):Prop where
 ex:∀H a z,KA H a z->∃C dx fs ps,H a=some (.ins C dx fs)/\fs.lookup m=none/\QL P w K mg base CX0 k C m ps (acj KA a z n pre F)
structure OkC (P:Program)(w:World)(K:Fg)(mg:Mg)(base:Heap)(CX:CXT)(k:Nat)(x:Str)(C:Addr)(m:Str)(ps:List Str)(sp:Sp):Prop where
 ex:∃f fd,FnOk P w K mg base CX k f fd ps sp/\Binds K fd ps []/\MK K C m f/\mg x=some (.ref C)
structure OkI (P:Program)(w:World)(K:Fg)(mg:Mg)(base:Heap)(CX:CXT)(k:Nat)(x:Str)(C:Addr)(ps:List Str)(sp:Sp):Prop where
 ex:∃f fd,FnOk P w K mg base CX k f fd ps sp/\Binds K fd ps []/\Mk K C f/\mg x=some (.ref C)
def M9 (o:OkC X.prog X.w X.K X.mg X.base CX j x C m y sp)(r:Room k X.A)(u:Passes CX X E)(l:PA X (e::d) t)(q:j<=k:=by decide)(n:Gl X x:=by rfl)
  (h:(x == ("__debug__":Str))=false:=by decide) (i:starEach (e::d) X.env=(false,eval e X.env)::starEach d X.env:=by rfl) (g:(backTo pos (starEach d X.env)).any (·.1)=false:=by rfl)
  (s:eval (.Call (.Attribute (.Name x p) m a) (e::d) [] pos) X.env=(do
   let ov <- eval (.Name x p) X.env
   standAt a.atName
   let (f,first) <- holding [ov] (getMethod ov m pl)
   callWith pos f first (backTo pos (starEach (e::d) X.env)) (backToKw pos (keywordEach [] X.env))):=by rfl):PE X (.Call (.Attribute (.Name x p) m a) (e::d) [] pos) (tCall sp [] E t):=by
 obtain⟨f,w,F,b,c,v⟩:=o.ex;exact V7 n v c (F.mono q) r b .nil u l h i g s
def HJ (o:OkI X.prog X.w X.K X.mg X.base CX j x C s sp)(m:Room k X.A)(n:Passes CX X E)(g:PA X (e::a) t)(l:j+1<=k:=by decide)(i:Gl X x:=by rfl)(h:(x == ("__debug__":Str))=false:=by decide)
  (he:starEach (e::a) X.env=(false,eval e X.env)::starEach a X.env:=by rfl) (d:(backTo pos (starEach a X.env)).any (·.1)=false:=by rfl):PE X (.Call (.Name x p) (e::a) [] pos) (tMake C sp [] E t):=by
 obtain⟨f,r,F,b,c,q⟩:=o.ex;exact pe_make c F (m.mono l) i q b .nil n g h he d
def DK (o:OkI X.prog X.w X.K X.mg X.base CX j x C l sp)(e:Room k X.A)(g:Passes CX X E)(d:j+1<=k:=by decide)(a:Gl X x:=by rfl)(h:(x == ("__debug__":Str))=false:=by decide):PE X (.Call (.Name x p) [] [] pos) (tMake C sp [] E tNil):=by obtain⟨f,i,F,b,c,m⟩:=o.ex;exact pe_make0 c F (e.mono d) a m b .nil g h
def spS (K:Fg)(n:Nat)(pre:List Int->List Int->Prop)(F:List Int->List Int->Int):Sp:=λv H Q _=>∃(a:Addr) (xs i:List Int),i.length=n/\v=.ref a::i.map V.int/\SqL K H a (xs.map V.int)/\pre xs i/\Q (.int (F xs i)) H
def xq:List Str:=["plain","plus","less","times","over"]
def KAt (d b c:Addr)(H:Hp)(a:Addr)(z:Int):Prop:=∃C e fs,H a=some (.ins C e fs)/\((C=d/\z=0)\/((C=b\/C=c)/\0<z))/\fs.lookup ("size":Str)=some (.int z)/\∀m∈xq,fs.lookup m=none
def pl (z n:Int):Int:=if z=0 then n else n % z
def W9 (n:Int):pl 0 n=n:=rfl
def RD (h:0<z):pl z n=n % z:=by unfold pl;rw[ag (by lia)]
def Inv.uf {ch:List Addr}{t':Nat}(I:Inv X p t H s)(a:∀b∈ch,FpOk X p H b)(k:∀b o,b∉ch->s.heap.get? b=some o->h'.get? b=some o):Inv X p t H { s with heap:=h',toks:=t' }:=by
 have d:∀b u,H b=some u->b∉ch:=λb u e z=>by rw[(a b z).1]at e;cases e
 refine I.step (g':=s.gens) (d':=s.drawn) (ch:=ch) (λb f=>⟨(a b f).2.2.2.1,(a b f).2.1,(a b f).2.2.2.2.1,(a b f).2.2.2.2.2⟩) (λb o _ _ h e _=>k b o h e) (λb o _ _ h e _=>⟨o.slots,k b o h e⟩) (λ_ _ _ _ n=>n)
  (λb o h e=>⟨o,k b o h e⟩) (λ_ _ e=>e) (λ_ _ _ e=>e) (λb w e=>⟨#[],by rw[e];simp⟩) (λm j=>?_) (λb u e=>?_) I.bare
 .obtain⟨o,i,g,l,r⟩:=j;exact⟨o,i,g,k _ o (λz=>(a _ z).2.1 rfl) l,r⟩
 .refine(I.hok b u e).stay (λc v h q=>k c v ?_ q) (λ_ q=>q) λ_ _ q=>q;rcases h with z|z
  .rw[z];exact d b u e
  .exact d c _ z
def Inv.track (I:Inv X a A H s)(f:FpOk X a H T)(new:ObjOk X.prog X.w (upd H T o) s.heap T o):Inv X a A (upd H T o) s:=by
 obtain⟨k,l,B,r,t,v⟩:=f;have ne:∀{b:Addr} {u:HO},H b=some u->b≠T:=λe=>ne_of_none e k;refine⟨I.ok,I.os,I.bare,⟨I.base.keep,I.base.slot,λb ob e n x=>?_,I.base.there,λb xs e=>?_,λb ob u e=>?_,λb y e=>?_⟩,I.loc,I.cell,by rw[upd_ne (br l)];exact I.free,λx c e=>?_,λp h=>?_,λb u e=>?_,I.len⟩
 .have w:b≠T:=λz=>by
   subst z;rcases r with z|z
   .exact x z
   .exact absurd (aN (ay e) z) (ck _)
  rw[upd_ne w];exact I.base.free b ob e n x
 .have q:=I.base.tups b xs e;rw[upd_ne (ne q)];exact q
 .have q:=I.base.frzs b ob u e;rw[upd_ne (ne q)];exact q
 .obtain⟨m,q⟩:=I.base.tbls b y e;exact⟨m,by rw[upd_ne (ne q)];exact q⟩
 .rw[upd_ne (t x c e)];exact I.freeC x c e
 .obtain⟨g,i,j⟩:=I.pin p h;exact⟨g,by rw[upd_ne (v p h)];exact i,j⟩
 .by_cases c:b=T
  .subst c;rw[upd_same]at e;cases e;exact new
  .rw[upd_ne c]at e;exact(I.hok b u e).stay (λ_ _ _ q=>q) (λd q=>by rw[upd_ne (ne q)];exact q) (λd xs q=>by rw[upd_ne (ne q)];exact q) λd _ _ q=>by rw[upd_ne (ne q)];exact q
def Ite (K:Fg)(a:Addr):It:=
 ⟨λi H=>∃xs x,SqL K H a xs/\xs[i]?=some x,λi H v h=>∃T y,v=.ref T/\H T=none/\h=upd H T (.tup [.int i,y])/\∀xs,SqL K H a xs->xs[i]?=some y,λi H=>∃xs,SqL K H a xs/\xs.length<=i⟩
def Pz {P:Program}{w:World}{K:Fg}{F:List Expr}{kk:Nat}{tp:Pos}(a e l:Addr)(B:e≠l):Turn P w K (.Tuple F kk tp) (Ite K a) [e,l] e (λi h=>(∃c,IsEnum h e l i c)/\h.IsListIter l a i) where
 mem:=by simp
 obj:=λi h m b d=>by
  obtain⟨⟨c,j⟩,o,N,_,hd⟩:=m;rcases aw.mp d with rfl|d
  .exact⟨_,j,λv z=>by cases z⟩
  .have q:b=l:=by simpa using d
   subst q;exact⟨o,N,λv z=>by rw[hd]at z;cases z⟩
 keep:=λi h h' m k=>by obtain⟨⟨c,j⟩,f⟩:=m;exact⟨⟨c,k e (by simp) _ j⟩,f.at λo q=>k l (by simp) o q⟩
 item:=by
  intro X J O G hc i g s σ H E I C m M;subst J O G;obtain⟨xs,x,D,R⟩:=M;obtain⟨⟨c,j⟩,f⟩:=m;obtain⟨S,T,p,hz⟩:=I.list D;obtain⟨u,hu,ru⟩:=T.get R;refine wpAny_pyNext_enum_item j f p.isList (x:=u) (by simpa using hu) B λh1 N y hT hsz hk=>⟨_,rfl,?_⟩;refine wpAny_letOwnedTupleGo_enum N λh2 L n=>?_;have U:s.heap.objs.size≠e:=cH (ay j);have t:∀b o,b∉[e,l]->s.heap.get? b=some o->h2.get? b=some o:=λb o d q=>by have Y:b≠e:=λz=>d (by simp[z]);have b2:b≠l:=λz=>d (by simp[z]);exact(n.2 b Y).trans (hk b o Y b2 q)
  have I1:Inv X g σ H { s with heap:=h2,toks:=s.toks+1 }:=I.uf C t;have Z:FpOk X g H s.heap.objs.size:=I.fpOk (aB _) (I.hok.fresh (aB _));have I2:=I1.track (o:=.tup [.int i,x]) Z ⟨by show 2<=sizeLine;decide,[.int i s.toks,u],.cons ⟨_,rfl⟩ (.cons ru .nil),⟨_,(n.2 _ U).trans hT,rfl,_,rfl⟩⟩;refine⟨.ref s.heap.objs.size,_,I2,rfl,⟨_,x,rfl,Z.1,rfl,λys hy=>by rw[I.list_inj hy D];exact R⟩,⟨⟨_,by exact_mod_cast L⟩,?_⟩,λb d=>?_⟩
  .obtain⟨o,q,r⟩:=y;exact⟨o,(n.2 l (br B)).trans q,r⟩
  .rw[upd_ne]
   .exact(C b d).1
   .rcases aw.mp d with rfl|d
    .exact br U
    .have q:b=l:=by simpa using d
     subst q;obtain⟨o,q,_⟩:=f;exact aX (ay q)
 done:=by intro X J O G hc i g s σ H E I C m M;subst J O G;obtain⟨xs,D,R⟩:=M;obtain⟨⟨c,j⟩,f⟩:=m;obtain⟨S,T,p,hz⟩:=I.list D;have hl:=T.length;exact wpAny_pyNext_enum_end (I.ok.hd hc) j f p.isList (by simp;lia) λh1 eb=>⟨rfl,I.uf C λb o d q=>eb b o (λz=>d (by simp[z])) q⟩
 self:=λA i s Q E m h=>by obtain⟨⟨c,j⟩,_⟩:=m;exact wpAny_pyIter_enum j h
def Fx:bootBuiltins "enumerate"=some (.type "enumerate"):=by decide +kernel
def Ug (K:Fg)(t:TA):TI:=λb H R=>t b H λv h=>∃a,v=[.ref a]/\(∃xs,SqL K h a xs)/\R (Ite K a) h
def Ff {X:Cx}{f:List Expr}{D:Nat}{L:Pos}{l:Expr}{t:TA}{p pos:Pos}(w:Gl X "enumerate")(y:X.mg "enumerate"=none)(v:PA X [l] t)(A:starEach [l] X.env=[(false,eval l X.env)]:=by rfl) :
  PI X (.Tuple f D L) (.Call (.Name "enumerate" p) [l] [] pos) (Ug X.K t):=by
 intro c s n H R I h;refine Call_ (ld_blt I w y Fx (bN (thn (v pos c s n H _ I h) λO d ⟨P,k,i,G,F⟩=>?_) A rfl));obtain⟨a,rfl,⟨xs,z⟩,q⟩:=F;obtain⟨u,rfl,J⟩:=vals1 G;cases J;obtain⟨C,N,E,M⟩:=i.list z;refine call_enumerate_list E.isList λr m j B x=>?_;refine wpAny_pyIter_enum m ?_;have o:Inv X c n k { d with heap:=r }:=i.kept (t':=d.toks) x;refine⟨_,[d.heap.objs.size+1,d.heap.objs.size],_,_,k,rfl,o,Pz a (d.heap.objs.size+1) d.heap.objs.size (Nat.succ_ne_self _),⟨⟨_,m⟩,j⟩,λb g=>?_,q⟩;rcases aw.mp g with rfl|g
 .exact i.fpOk (bO _) (i.hok.fresh (bO _))
 .have e:b=d.heap.objs.size:=by simpa using g
  subst e;exact i.fpOk (aB _) (i.hok.fresh (aB _))
def SX {K:Fg}{a:Addr}{xs:List V}{g:TG}{t:TS}{D:Ends}{b:St}{H:Hp}(P:Nat->St->Hp->Prop)(h0:P 0 b H)(hl:∀i b H,i<=xs.length->P i b H->SqL K H a xs)
  (r:∀i x b H T,xs[i]?=some x->P i b H->H T=none->g (.ref T) b (upd H T (.tup [.int i,x])) λd j=>t { D with nx:=P (i+1),ct:=P (i+1),bk:=D.nx } d j) (n:∀b H,P xs.length b H->D.nx b H) :
  ∃W:Nat->Nat->St->Hp->Prop,(∃m,W 0 m b H)/\∀i m b H,W i m b H ->
   ((Ite K a).stop i H/\D.nx b H)\/((Ite K a).go i H/\∃N:St->Hp->Prop,(∀c h,N c h -> ∃k,k<m/\W (i+1) k c h)/\∀x h,(Ite K a).yld i H x h -> g x b h λd j=>t { D with nx:=N,ct:=N,bk:=D.nx } d j):=by
 refine⟨λi m b H=>m=xs.length-i/\i<=xs.length/\P i b H,⟨xs.length,by simp,bA _,h0⟩,?_⟩;rintro i m b H ⟨rfl,o,p⟩;have q:=hl i b H o p;by_cases f:i<xs.length
 .refine .inr ⟨⟨xs,xs[i],q,by simp[f]⟩,P (i+1),λc h u=>⟨xs.length-(i+1),by lia,rfl,f,u⟩,λx h y=>?_⟩;obtain⟨T,z,rfl,l,rfl,s⟩:=y;exact r i z b H T (s xs q) p l
 .have e:i=xs.length:=by lia
  subst e;exact .inl ⟨⟨xs,q,aB _⟩,n b H p⟩
def int_at {ns:Li}{i:Nat}{x:V}(h:(ns.map V.int)[i]?=some x):∃n,x=.int n/\ns[i]?=some n:=by
 rw[aE]at h;cases e:ns[i]? with
 |none=>rw[e]at h;cases h
 |some n=>rw[e]at h;exact⟨n,(aD h).symm,rfl⟩
def Rq {ns:Li}{i:Nat}{n:Int}(h:ns[i]?=some n):n∈ns:=bn h
def Zf {a:Type}{ns:List a}{i:Nat}{n:a}(h:ns[i]?=some n):i<ns.length:=(aC.mp h).1
def wk {a:Type}{ns:List a}{i:Nat}{n:a}(h:ns[i]?=some n):ns.take (i+1)=ns.take i++[n]:=by rw[List.take_add_one,h];rfl
abbrev qm:TT:=λ_ H Q=>Q true H
end L2
namespace FM
open L2
def zW (n:Int):Prop:=2<=n/\n<=9973/\∀d:Int,2<=d->d*d<=n->¬n % d=0
open Classical in
def Vv (n:Int):Bool:=decide (zW n)
open Classical in
def HX (h:zW n):Vv n=true:=by unfold Vv;exact aQ h
open Classical in
def DG (h:¬zW n):Vv n=false:=by unfold Vv;exact aK h
open Classical in
def Yd:Vv n=true ↔ zW n:=by unfold Vv;exact bM
def IW (n d:Int):Prop:=∀e:Int,2<=e->e<d->¬n % e=0
def IW.next (h:IW n d)(b:¬n % d=0):IW n (d+1):=λe a f=>by
 by_cases c:e=d
 .rw[c];exact b
 .exact h e a (by lia)
def acT {d:Int}(h:2<=d):d<=d*d:=by have:=eZ (show(1:Int)<=d by lia) (show(0:Int)<=d by lia);lia
def Xy {d e:Int}(h0:0<=d)(h:d<=e):d*d<=e*e:=Int.mul_le_mul h h h0 (by lia)
def zW.out {n d:Int}(h:IW n d)(f:2<=d)(l:2<=n)(b:n<=9973)(g:¬d*d<=n):zW n:=⟨l,b,λe a i=>by
 by_cases c:e<d
 .exact h e a c
 .have:=Xy (d:=d) (e:=e) (by lia) (by lia);lia⟩
def F_P:List Int->Bool:=λa=>match a with
 |[n]=>Vv n
 |_=>false
def yes:List Int->Prop:=λ_=>True
def acL (h:0<z):0<=pl z n/\pl z n<z:=by rw[RD h];exact⟨aS _ (by lia),aH _ h⟩
def jw (xs:List Int):List Int:=(xs.reverse.dropWhile (· == 0)).reverse
def vd (xs:Li):jw (xs++[0])=jw xs:=by unfold jw;rw[dN];simp
def Am (xs:Li)(h:x≠0):jw (xs++[x])=xs++[x]:=by unfold jw;rw[dN];simp[h]
def t8 (xs:Li):(jw xs).length<=xs.length:=by unfold jw;have:=(List.dropWhile_sublist (· == 0) (l:=xs.reverse)).length_le;simpa using this
def ev:List Int->Int->Int
 |[],_=>0
 |n::r,x=>n+x*ev r x
end FM
namespace L3
open PySem PySem.Spec PyProof.Rows L2
inductive PV where
 |int (n:Int)|bl (b:Bool)|non|str (s:Str)|ints (ns:List Int)|scr (ns:List Int)|lst (xs:List PV)|tup (xs:List PV)|ob (k:Nat) (z:Int)|ty (n:String)|cls (a:Addr)
structure Gx where
 ob:Nat->Hp->Addr->Int->Prop
 mono:∀k H H' a z,Same H H' -> ob k H a z->ob k H' a z
mutual
def At (K:Fg)(G:Gx)(H:Hp):PV->V->Prop
 | .int n,v=>v=.int n
 | .bl b,v=>v=.bl b
 | .non,v=>v=.non
 | .str s,v=>v=.str s
 | .ints ns,v=>∃a,v=.ref a/\Rd H a (.lst (ns.map V.int))
 | .scr ns,v=>∃a,v=.ref a/\SqL K H a (ns.map V.int)
 | .lst xs,v=>∃a c,v=.ref a/\Rd H a (.lst c)/\kI K G H xs c
 | .tup xs,v=>∃a c,v=.ref a/\H a=some (.tup c)/\kI K G H xs c
 | .ob k z,v=>∃a,v=.ref a/\G.ob k H a z
 | .ty n,v=>v=.ty n
 | .cls a,v=>v=.ref a
def kI (K:Fg)(G:Gx)(H:Hp):List PV->List V->Prop
 |[],vs=>vs=[]
 |p::ps,vs=>∃v r,vs=v::r/\At K G H p v/\kI K G H ps r
end
def jh (e:Same H b)(h:Rd H a (.lst xs)):Rd b a (.lst xs):=by
 rcases h with h|⟨o,h⟩
 .exact .inl (e _ _ h)
 .exact .inr ⟨o,e _ _ h⟩
def YZ {K:Fg}{H:Hp}{a:Addr}{xs:List V}(h:Rd H a (.lst xs)):SqL K H a xs:=.inl h
def RV {K:Fg}{H b:Hp}{a:Addr}{xs:List V}(e:Same H b)(h:SqT K H a xs):SqT K b a xs:=by
 rcases h with (h|⟨o,h⟩)|h
 .exact .inl (.inl (e _ _ h))
 .exact .inl (.inr ⟨o,e _ _ h⟩)
 .exact .inr h
mutual
def At.mono {K:Fg}{G:Gx}{H c:Hp}(s:Same H c):∀(p:PV) (v:V),At K G H p v->At K G c p v
 | .int _,_,h=>h
 | .bl _,_,h=>h
 | .non,_,h=>h
 | .str _,_,h=>h
 | .ints _,_,h=>by obtain⟨a,e,q⟩:=h;exact⟨a,e,jh s q⟩
 | .scr _,_,h=>by obtain⟨a,e,q⟩:=h;exact⟨a,e,s.seq q⟩
 | .lst xs,_,h=>by obtain⟨a,b,e,q,r⟩:=h;exact⟨a,b,e,jh s q,kI.mono s xs b r⟩
 | .tup xs,_,h=>by obtain⟨a,b,e,q,r⟩:=h;exact⟨a,b,e,s _ _ q,kI.mono s xs b r⟩
 | .ob _ _,_,h=>by obtain⟨a,e,q⟩:=h;exact⟨a,e,G.mono _ _ _ _ _ s q⟩
 | .ty _,_,h=>h
 | .cls _,_,h=>h
def kI.mono {K:Fg}{G:Gx}{H b:Hp}(s:Same H b):∀(a:List PV) (vs:List V),kI K G H a vs->kI K G b a vs
 |[],_,h=>h
 |p::a,_,h=>by obtain⟨v,r,e,q,t⟩:=h;exact⟨v,r,e,At.mono s p v q,kI.mono s a r t⟩
end
def kI.length {K:Fg}{G:Gx}{H:Hp}:∀{a:List PV} {vs:List V},kI K G H a vs->a.length=vs.length
 |[],_,h=>by cases h;rfl
 |p::a,_,h=>by obtain⟨v,r,rfl,_,t⟩:=h;rw[bR,bR,kI.length t]
def kI.get {K:Fg}{G:Gx}{H:Hp}:∀{a:List PV} {vs:List V} {i:Nat} {v:V},kI K G H a vs->vs[i]?=some v->∃p,a[i]?=some p/\At K G H p v
 |[],_,i,v,h,e=>by cases h;simp at e
 |p::a,_,0,v,h,e=>by obtain⟨w,r,rfl,q,t⟩:=h;simp at e;subst e;exact⟨p,rfl,q⟩
 |p::a,_,i+1,v,h,e=>by obtain⟨w,r,rfl,q,t⟩:=h;obtain⟨c,b,d⟩:=kI.get (i:=i) (v:=v) t (by simpa using e);exact⟨c,by simpa using b,d⟩
def kI.at {K:Fg}{G:Gx}{H:Hp}:∀{a:List PV} {vs:List V} {i:Nat} {p:PV},kI K G H a vs->a[i]?=some p->∃v,vs[i]?=some v/\At K G H p v
 |[],_,i,v,h,e=>by simp at e
 |p::a,_,0,v,h,e=>by obtain⟨w,r,rfl,q,t⟩:=h;simp at e;subst e;exact⟨w,rfl,q⟩
 |p::a,_,i+1,v,h,e=>by obtain⟨w,r,rfl,q,t⟩:=h;obtain⟨d,b,c⟩:=kI.at (i:=i) (p:=v) t (by simpa using e);exact⟨d,by simpa using b,c⟩
def kI.snoc {K:Fg}{G:Gx}{H:Hp}{p:PV}{v:V}:∀{a:List PV} {vs:List V},kI K G H a vs->At K G H p v->kI K G H (a++[p]) (vs++[v])
 |[],_,h,q=>by cases h;exact⟨v,[],rfl,q,rfl⟩
 |p'::a,_,h,q=>by obtain⟨w,r,rfl,b,t⟩:=h;exact⟨w,_,rfl,b,kI.snoc t q⟩
def mn (H:Hp)(O:Addr->Bool):Hp:=λb=>if O b=true then none else H b
def qZ (h:mn H O b=some o):O b=false/\H b=some o:=by
 unfold mn at h;by_cases c:O b=true
 .rw[ai c]at h;cases h
 .rw[ag c]at h;exact⟨by simpa using c,h⟩
def lZ (h:O b=false):mn H O b=H b:=by unfold mn;rw[ag (by rw[h];decide)]
def jx:Same (mn H O) H:=pY λ_ _ h=>(qZ h).2
def j7 (s:Same H a):Same (mn H O) (mn a O):=λb o h=>by obtain⟨c,e⟩:=qZ h;rw[lZ c];exact s b o e
def tZ (k:∀a,O a=true->O' a=true):Same (mn H O') (mn H O):=pY λb o h=>by
 obtain⟨c,e⟩:=qZ h;have:O b=false:=by
  cases z:O b with
  |false=>rfl
  |true=>rw[k b z]at c;cases c
 rw[lZ this];exact e
def hide (a:Addr)(O:Addr->Bool):Addr->Bool:=λb=>b == a || O b
def hide_ne (h:b≠a):hide a O b=O b:=by unfold hide;simp[h]
def hide_self:hide a O a=true:=by unfold hide;simp
def qj:∀b,O b=true->hide a O b=true:=λb h=>by unfold hide;simp[h]
def lG (s:Same H d)(f:H a=none):Same (mn H O) (mn d (hide a O)):=λb o h=>by obtain⟨c,e⟩:=qZ h;rw[lZ (by rw[hide_ne (ne_of_none e f)];exact c)];exact s b o e
def Fi (h:O a=true):mn (upd H a o) O=mn H O:=by
 funext b;unfold mn;by_cases c:O b=true
 .rw[ai c,ai c]
 .rw[ag c,ag c,upd_ne (λz=>c (by rw[z];exact h))]
inductive Sl where
 |un|fr (p:PV)|ow (p:PV)|o2 (xs ys:List Int)
abbrev En:=List Sl
structure Bs where
 H0:Hp
 Oc:Addr->Bool
def Dm (K:Fg)(G:Gx)(H:Hp):PV->List V->Prop
 | .ints ns,vs=>vs=ns.map V.int
 | .lst xs,vs=>kI K G H xs vs
 |_,_=>False
def Dm.mono {K:Fg}{G:Gx}{H a:Hp}(s:Same H a){p:PV}{vs:List V}(h:Dm K G H p vs):Dm K G a p vs:=by cases p<;>first|exact h|exact kI.mono s _ _ h
structure adA (B:Bs)(σ:L2.St)(H:Hp)(ρ:En)(O:Addr->Bool)(i:Nat)(xs ys:List Int)(D a b:Addr):Prop where
 at_:σ[i]?=some (some (.ref D))
 oD:O D=true
 oa:O a=true
 ob:O b=true
 nD:B.H0 D=none
 na:B.H0 a=none
 nb:B.H0 b=none
 hD:H D=some (.lst [.ref a,.ref b])
 ha:H a=some (.lst (xs.map V.int))
 hb:H b=some (.lst (ys.map V.int))
 ab:a≠b
 un:∀(j:Nat) q c,ρ[j]?=some (.ow q)->σ[j]?=some (some (.ref c))->c≠D/\c≠a/\c≠b
 one:∀(j:Nat) xs' ys',ρ[j]?=some (.o2 xs' ys')->j=i
structure Rep (K:Fg)(G:Gx)(B:Bs)(σ:L2.St)(H:Hp)(ρ:En)(O:Addr->Bool):Prop where
 same:Same B.H0 H
 cd:∀a,B.Oc a=true->B.H0 a≠none
 hid:∀a,B.Oc a=true->O a=true
 dom:∀a,O a=true->H a≠none
 vis:∀a,O a=true->B.Oc a=true\/B.H0 a=none
 fr:∀(i:Nat) p,ρ[i]?=some (.fr p)->∃v,σ[i]?=some (some v)/\At K G (mn H O) p v
 ow:∀(i:Nat) p,ρ[i]?=some (.ow p)->∃a vs,σ[i]?=some (some (.ref a))/\O a=true/\B.H0 a=none/\H a=some (.lst vs)/\Dm K G (mn H O) p vs
 inj:∀(i j:Nat) p q a,ρ[i]?=some (.ow p)->ρ[j]?=some (.ow q)->σ[i]?=some (some (.ref a))->σ[j]?=some (some (.ref a))->i=j
 len:σ.length=ρ.length
 o2:∀(i:Nat) xs ys,ρ[i]?=some (.o2 xs ys)->∃D a b,adA B σ H ρ O i xs ys D a b
section
variable {K:Fg}{G:Gx}{B:Bs}{f:L2.St}{H g:Hp}{d:En}{O:Addr->Bool}{i:Nat}
def Rep.grow (R:Rep K G B f H d O)(s:Same H g):Rep K G B f g d O:=by
 refine⟨R.same.trans s,R.cd,R.hid,λa h z=>R.dom a h (s.free z),R.vis,λi p e=>?_,λi p e=>?_,R.inj,R.len,λi xs y e=>let ⟨D,a,b,q⟩:=R.o2 i xs y e;⟨D,a,b,q.at_,q.oD,q.oa,q.ob,q.nD,q.na,q.nb,s _ _ q.hD,s _ _ q.ha,s _ _ q.hb,q.ab,q.un,q.one⟩⟩
 .obtain⟨v,c,j⟩:=R.fr i p e;exact⟨v,c,At.mono (j7 s) _ _ j⟩
 .obtain⟨a,n,c,j,k,l,m⟩:=R.ow i p e;exact⟨a,n,c,j,k,s _ _ l,m.mono (j7 s)⟩
def jM {b:Type}{l:List b}{i j:Nat}{x y:b}(h:(l.set i x)[j]?=some y):(i=j/\y=x/\i<l.length)\/(i≠j/\l[j]?=some y):=by
 rw[eH]at h;by_cases c:i=j
 .rw[ai c]at h;by_cases a:i<l.length
  .rw[ai a]at h;exact .inl ⟨c,(aD h).symm,a⟩
  .rw[ag a]at h;cases h
 .rw[ag c]at h;exact .inr ⟨c,h⟩
def mW {a:Type}{l:List a}{i j:Nat}{x:a}(h:i≠j):(l.set i x)[j]?=l[j]?:=by rw[eH,ag h]
def Ad {a:Type}{l:List a}{i:Nat}{x:a}(h:i<l.length):(l.set i x)[i]?=some x:=by rw[eH,ai rfl,ai h]
def Rep.set (R:Rep K G B f H d O){p:PV}{v:V}(h:At K G (mn H O) p v):Rep K G B (f.set i (some v)) H (d.set i (.fr p)) O:=by
 refine⟨R.same,R.cd,R.hid,R.dom,R.vis,λj q e=>?_,λj q e=>?_,λj k q r a o s u w=>?_,by rw[bC,bC];exact R.len,λj xs z e=>?_⟩
 .rcases jM e with⟨rfl,e,l⟩|⟨n,e⟩
  .cases e;exact⟨v,Ad (by rw[R.len];exact l),h⟩
  .rw[mW n];exact R.fr j q e
 .rcases jM e with⟨rfl,e,l⟩|⟨n,e⟩
  .cases e
  .rw[mW n];exact R.ow j q e
 .rcases jM o with⟨rfl,e,l⟩|⟨n,e⟩
  .cases e
  .rcases jM s with⟨rfl,m,A⟩|⟨t,m⟩
   .cases m
   .rw[mW n]at u;rw[mW t]at w;exact R.inj j k q r a e m u w
 .rcases jM e with⟨rfl,e,l⟩|⟨n,e⟩
  .cases e
  .obtain⟨D,a,b,q⟩:=R.o2 j xs z e;refine⟨D,a,b,by rw[mW n];exact q.at_,q.oD,q.oa,q.ob,q.nD,q.na,q.nb,q.hD,q.ha,q.hb,q.ab,λk r c o s=>?_,λk x y o=>?_⟩
   .rcases jM o with⟨_,m,_⟩|⟨t,m⟩
    .cases m
    .rw[mW t]at s;exact q.un k r c m s
   .rcases jM o with⟨_,m,_⟩|⟨t,m⟩
    .cases m
    .exact q.one k x y m
def Rep.new (R:Rep K G B f H d O){p:PV}{a:Addr}{vs:List V}(s:Same H g)(A:H a=none)(he:g a=some (.lst vs))(h:Dm K G (mn g (hide a O)) p vs):Rep K G B (f.set i (some (.ref a))) g (d.set i (.ow p)) (hide a O):=by
 refine⟨R.same.trans s,R.cd,λb z=>qj b (R.hid b z),λb z y=>?_,λb z=>?_,λj q e=>?_,λj q e=>?_,λj k q r b t u x w=>?_,by rw[bC,bC];exact R.len,λj xs Q e=>?_⟩
 .by_cases c:b=a
  .subst c;rw[he]at y;cases y
  .rw[hide_ne c]at z;exact R.dom b z (s.free y)
 .by_cases c:b=a
  .subst c;exact .inr (R.same.free A)
  .rw[hide_ne c]at z;exact R.vis b z
 .rcases jM e with⟨rfl,e,l⟩|⟨n,e⟩
  .cases e
  .obtain⟨v,t,u⟩:=R.fr j q e;exact⟨v,by rw[mW n];exact t,At.mono (lG s A) _ _ u⟩
 .rcases jM e with⟨rfl,e,l⟩|⟨n,e⟩
  .cases e;exact⟨a,vs,Ad (by rw[R.len];exact l),hide_self,R.same.free A,he,h⟩
  .obtain⟨b,L,t,u,x,w,P⟩:=R.ow j q e;exact⟨b,L,by rw[mW n];exact t,qj b u,x,s _ _ w,P.mono (lG s A)⟩
 .have E:∀(m:Nat) q,d[m]?=some (.ow q)->f[m]?=some (some (.ref a))->False:=λm q e z=>by obtain⟨b,L,t,_,_,w,_⟩:=R.ow m q e;rw[z]at t;cases t;rw[A]at w;cases w
  rcases jM t with⟨rfl,e,l⟩|⟨n,e⟩
  .rcases jM u with⟨rfl,o,F⟩|⟨C,o⟩
   .rfl
   .rw[Ad (by rw[R.len];exact l)]at x;cases x;rw[mW C]at w;exact(E k r o w).elim
  .rcases jM u with⟨rfl,o,F⟩|⟨C,o⟩
   .rw[Ad (by rw[R.len];exact F)]at w;cases w;rw[mW n]at x;exact(E j q e x).elim
   .rw[mW n]at x;rw[mW C]at w;exact R.inj j k q r b e o x w
 .rcases jM e with⟨rfl,e,l⟩|⟨n,e⟩
  .cases e
  .obtain⟨D,M,N,q⟩:=R.o2 j xs Q e;refine⟨D,M,N,by rw[mW n];exact q.at_,qj _ q.oD,qj _ q.oa,qj _ q.ob,q.nD,q.na,q.nb,s _ _ q.hD,s _ _ q.ha,s _ _ q.hb,q.ab,λk r c t u=>?_,λk I J t=>?_⟩
   .rcases jM t with⟨rfl,o,F⟩|⟨C,o⟩
    .rw[Ad (by rw[R.len];exact F)]at u;cases u;exact⟨br (ne_of_none q.hD A),br (ne_of_none q.ha A),br (ne_of_none q.hb A)⟩
    .rw[mW C]at u;exact q.un k r c o u
   .rcases jM t with⟨_,o,_⟩|⟨C,o⟩
    .cases o
    .exact q.one k I J o
def Rep.change (R:Rep K G B f H d O){p p':PV}{a:Addr}{vs:List V}(e:d[i]?=some (.ow p))(w:f[i]?=some (some (.ref a)))(h:Dm K G (mn H O) p' vs):Rep K G B f (upd H a (.lst vs)) (d.set i (.ow p')) O:=by
 obtain⟨a',us,t,u,E,e4,e5⟩:=R.ow i p e;rw[w]at t;cases t;have hl:i<d.length:=(aC.mp e).1;refine⟨λb o z=>?_,R.cd,R.hid,λb z y=>?_,R.vis,λj q v=>?_,λj q v=>?_,λj k q r b Q S T U=>?_,by rw[bC];exact R.len,λj xs ys v=>?_⟩
 .rw[upd_ne (ne_of_none z E)];exact R.same b o z
 .by_cases c:b=a
  .subst c;rw[upd_same]at y;cases y
  .rw[upd_ne c]at y;exact R.dom b z y
 .rw[Fi u];rcases jM v with⟨_,l,_⟩|⟨_,l⟩
  .cases l
  .exact R.fr j q l
 .rw[Fi u];rcases jM v with⟨rfl,l,_⟩|⟨n,l⟩
  .cases l;exact⟨a,vs,w,u,E,upd_same,h⟩
  .obtain⟨b,ws,F,L,M,N,P⟩:=R.ow j q l;refine⟨b,ws,F,L,M,?_,P⟩;rw[upd_ne]
   .exact N
   .intro z;subst z;exact n (R.inj i j p q b e l w F)
 .have s:∀(m:Nat) q,(d.set i (.ow p'))[m]?=some (.ow q)->∃x,d[m]?=some (.ow x):=λm q z=>by
   rcases jM z with⟨rfl,_,_⟩|⟨_,z⟩
   .exact⟨p,e⟩
   .exact⟨q,z⟩
  obtain⟨x,y1⟩:=s j q Q;obtain⟨Y,y2⟩:=s k r S;exact R.inj j k x Y b y1 y2 T U
 .rcases jM v with⟨rfl,l,_⟩|⟨n,l⟩
  .cases l
  .obtain⟨D,I,J,q⟩:=R.o2 j xs ys l;obtain⟨Z,u2,u3⟩:=q.un i p a e w;refine⟨D,I,J,q.at_,q.oD,q.oa,q.ob,q.nD,q.na,q.nb,by rw[upd_ne (br Z)];exact q.hD,by rw[upd_ne (br u2)];exact q.ha,by rw[upd_ne (br u3)];exact q.hb,q.ab,λk r c t u=>?_,λk A C t=>?_⟩
   .rcases jM t with⟨rfl,_,_⟩|⟨_,t⟩
    .exact q.un i p c e u
    .exact q.un k r c t u
   .rcases jM t with⟨_,l,_⟩|⟨n',l⟩
    .cases l
    .exact q.one k A C l
def vQ (a:Addr)(O:Addr->Bool):Addr->Bool:=λb=>if b=a then false else O b
def tY (h:b≠a):vQ a O b=O b:=by unfold vQ;rw[ag h]
def Dk:vQ a O a=false:=by unfold vQ;rw[ai rfl]
def Fb:∀b,vQ a O b=true->O b=true:=λb h=>by
 by_cases c:b=a
 .subst c;rw[Dk]at h;cases h
 .rw[tY c]at h;exact h
def frz (d:En)(i:Nat):En:=match d[i]? with
 |some (.ow p)=>d.set i (.fr p)
 |_=>d
def Rep.freeze (R:Rep K G B f H d O)(i:Nat):∃F,Rep K G B f H (frz d i) F:=by
 unfold frz;split
 .rename_i p e;obtain⟨a,x,l,E,L,M,m⟩:=R.ow i p e;have sub:Same (mn H O) (mn H (vQ a O)):=tZ Fb;have s:Rd (mn H (vQ a O)) a (.lst x):=.inl (by rw[lZ Dk];exact M);have S:At K G (mn H (vQ a O)) p (.ref a):=by
   cases p<;>first
    |exact False.elim m
    |(have m:=m.mono sub;exact⟨a,x,rfl,s,m⟩)
    |(have u:x=_:=m;subst u;exact⟨a,rfl,s⟩)
  refine⟨vQ a O,R.same,R.cd,λb z=>?_,λb z=>R.dom b (Fb b z),λb z=>R.vis b (Fb b z),λj q o=>?_,λj q o=>?_,λj k q r b T U Y Z=>?_,by rw[bC];exact R.len,λj xs ys o=>?_⟩
  .rw[tY]
   .exact R.hid b z
   .intro y;subst y;exact R.cd b z L
  .rcases jM o with⟨rfl,h,_⟩|⟨n,h⟩
   .cases h;exact⟨.ref a,l,S⟩
   .obtain⟨v,t,w⟩:=R.fr j q h;exact⟨v,t,At.mono sub _ _ w⟩
  .rcases jM o with⟨rfl,h,_⟩|⟨n,h⟩
   .cases h
   .obtain⟨b,ws,t,w,N,P,Q⟩:=R.ow j q h;refine⟨b,ws,t,?_,N,P,Q.mono sub⟩;rw[tY]
    .exact w
    .intro z;subst z;exact n (R.inj i j p q b e h l t)
  .rcases jM T with⟨_,h,_⟩|⟨_,y1⟩
   .cases h
   .rcases jM U with⟨_,h,_⟩|⟨_,y2⟩
    .cases h
    .exact R.inj j k q r b y1 y2 Y Z
  .rcases jM o with⟨rfl,h,_⟩|⟨n,h⟩
   .cases h
   .obtain⟨D,I,J,q⟩:=R.o2 j xs ys h;obtain⟨u1,u2,u3⟩:=q.un i p a e l;refine⟨D,I,J,q.at_,by rw[tY (br u1)];exact q.oD,by rw[tY (br u2)];exact q.oa,by rw[tY (br u3)];exact q.ob,q.nD,q.na,q.nb,q.hD,q.ha,q.hb,q.ab,λk r c l E=>?_,λk A C l=>?_⟩
    .rcases jM l with⟨_,h,_⟩|⟨_,l⟩
     .cases h
     .exact q.un k r c l E
    .rcases jM l with⟨_,h,_⟩|⟨n',h⟩
     .cases h
     .exact q.one k A C h
 .exact⟨O,R⟩
def Bs.at (B:Bs)(H:Hp)(O:Addr->Bool):Bs:=⟨λb=>if (O b && (B.H0 b).isNone)=true then none else H b,B.Oc⟩
def Bs.at_of (h:O b=false\/B.H0 b≠none):(B.at H O).H0 b=H b:=by
 show(if (O b && (B.H0 b).isNone)=true then none else H b)=H b;rw[ag];rcases h with h|h
 .rw[h];simp
 .cases e:B.H0 b with
  |none=>exact absurd e h
  |some o=>simp
def Rep.rebase (R:Rep K G B f H d O):Rep K G (B.at H O) f H d O:=by
 refine⟨λb o z=>?_,λa z=>?_,R.hid,R.dom,λa z=>?_,R.fr,λi p e=>?_,R.inj,R.len,λi xs s e=>?_⟩
 .have z:(if (O b && (B.H0 b).isNone)=true then none else H b)=some o:=z;by_cases c:(O b && (B.H0 b).isNone)=true
  .rw[ai c]at z;cases z
  .rw[ag c]at z;exact .of z
 .rw[Bs.at_of (.inr (R.cd a z))];exact R.dom a (R.hid a z)
 .rcases R.vis a z with y|y
  .exact .inl y
  .refine .inr ?_;show(if (O a && (B.H0 a).isNone)=true then none else H a)=none;rw[ai (by rw[z,y];rfl)]
 .obtain⟨a,v,j,h,k,l,m⟩:=R.ow i p e;refine⟨a,v,j,h,?_,l,m⟩;show(if (O a && (B.H0 a).isNone)=true then none else H a)=none;rw[ai (by rw[h,k];rfl)]
 .obtain⟨D,a,b,q⟩:=R.o2 i xs s e;have z:∀c,O c=true->B.H0 c=none->(B.at H O).H0 c=none:=λc n r=>by show(if (O c && (B.H0 c).isNone)=true then none else H c)=none;rw[ai (by rw[n,r];rfl)]
  exact⟨D,a,b,q.at_,q.oD,q.oa,q.ob,z D q.oD q.nD,z a q.oa q.na,z b q.ob q.nb,q.hD,q.ha,q.hb,q.ab,q.un,q.one⟩
def Rep.mF (R:Rep K G B f H d O):Same B.H0 (B.at H O).H0:=λb o z=>by rw[Bs.at_of (.inr (by rw[z];exact λy=>by cases y))];exact R.same b o z
def Rep.zg (B:Bs)(H:Hp)(O:Addr->Bool):Same (mn H O) (B.at H O).H0:=pY λb o z=>by obtain⟨c,e⟩:=qZ z;rw[Bs.at_of (.inl c)];exact e
def Rep.Ka (R:Rep K G B f H d O)(r:Rep K G (B.at H O) σ' g ρ' O'):Rep K G B σ' g ρ' O':=by
 refine⟨R.mF.trans r.same,R.cd,r.hid,r.dom,λa z=>(r.vis a z).imp id λy=>R.mF.free y,r.fr,λi p e=>?_,r.inj,r.len,λi xs m e=>?_⟩
 .obtain⟨a,v,c,h,j,k,l⟩:=r.ow i p e;exact⟨a,v,c,h,R.mF.free j,k,l⟩
 .obtain⟨D,a,b,q⟩:=r.o2 i xs m e;exact⟨D,a,b,q.at_,q.oD,q.oa,q.ob,R.mF.free q.nD,R.mF.free q.na,R.mF.free q.nb,q.hD,q.ha,q.hb,q.ab,q.un,q.one⟩
def Rep.seen (R:Rep K G B f H d O)(r:Rep K G (B.at H O) σ' g ρ' O'):Same (mn H O) (mn g O'):=λb o z=>by
 obtain⟨c,e⟩:=qZ z;have a:(B.at H O).H0 b=some o:=by rw[Bs.at_of (.inl c)];exact e
 rw[lZ]
 .exact r.same b o a
 .cases y:O' b with
  |false=>rfl
  |true=>
   rcases r.vis b y with y|y
   .rw[R.hid b y]at c;cases c
   .rw[a]at y;cases y
end
def Gi (a:En)(i:Nat):Int:=match a[i]? with
 |some (.fr (.int n))=>n
 |_=>0
def isI (a:En)(i:Nat):Prop:=a[i]?=some (.fr (.int (Gi a i)))
def getL (a:En)(i:Nat):List Int:=match a[i]? with
 |some (.fr (.ints ns))=>ns
 |some (.ow (.ints ns))=>ns
 |some (.fr (.scr ns))=>ns
 |_=>[]
def isL (a:En)(i:Nat):Prop:=a[i]?=some (.fr (.ints (getL a i)))
def isO (a:En)(i:Nat):Prop:=a[i]?=some (.ow (.ints (getL a i)))
def Lg (a:En)(i:Nat):Prop:=isL a i\/isO a i\/a[i]?=some (.fr (.scr (getL a i)))
def Qq (a:En)(i:Nat):PV:=match a[i]? with
 |some (.fr p)=>p
 |some (.ow p)=>p
 |_=>.non
def isF (a:En)(i:Nat):Prop:=a[i]?=some (.fr (Qq a i))
def T6 (a:En)(i:Nat):Str:=match a[i]? with
 |some (.fr (.str s))=>s
 |_=>Str.empty
def isS (a:En)(i:Nat):Prop:=a[i]?=some (.fr (.str (T6 a i)))
section
variable {K:Fg}{G:Gx}{B:Bs}{c:L2.St}{H d:Hp}{b:En}{O:Addr->Bool}{i:Nat}
def Rep.Q5 (R:Rep K G B c H b O)(h:Lg b i):∃a,c[i]?=some (some (.ref a))/\SqL K H a ((getL b i).map V.int):=by
 rcases h with h|h|h
 .obtain⟨v,e,a,f,g⟩:=R.fr i _ h;subst f;exact⟨a,e,.inl (jh jx g)⟩
 .obtain⟨a,l,e,f,g,j,k⟩:=R.ow i _ h;subst k;exact⟨a,e,.inl (.inl j)⟩
 .obtain⟨v,e,a,f,g⟩:=R.fr i _ h;subst f;exact⟨a,e,jx.seq g⟩
end
def tX (K:Fg)(G:Gx)(C:En->Prop)(g:En->PV):TE:=λb H Q=>∃B a O,Rep K G B b H a O/\C a/\∀v h,Same H h -> At K G (mn h O) (g a) v->Q v h
def Hw (K:Fg)(G:Gx)(C:En->Prop)(g:En->List Int):TE:=λc H Q=>∃B b O,Rep K G B c H b O/\C b/\∀a h,Same H h -> H a=none->h a=some (.lst ((g b).map V.int))->Q (.ref a) h
def yZ (K:Fg)(G:Gx)(C:En->Prop)(g:En->List PV):TE:=λc H Q=>∃B b O,Rep K G B c H b O/\C b/\∀a v h,Same H h -> H a=none->h a=some (.lst v)->kI K G (mn h (hide a O)) (g b) v->Q (.ref a) h
def z8 (K:Fg)(G:Gx)(C:En->Prop)(g:En->List PV):TA:=λb H Q=>∃B a O,Rep K G B b H a O/\C a/\∀v h,Same H h -> kI K G (mn h O) (g a) v->Q v h
def t6 (K:Fg)(G:Gx)(C:En->Prop)(p:En->Prop)[∀a,Decidable (p a)]:TT:=λb H Q=>∃B a O,Rep K G B b H a O/\C a/\∀h,Same H h -> Q (decide (p a)) h
abbrev jW (K:Fg)(G:Gx)(C:En->Prop)(g:En->Int):TE:=tX K G C λa=>.int (g a)
abbrev Oa (K:Fg)(G:Gx)(C:En->Prop)(g:En->List Int):TE:=tX K G C λa=>.ints (g a)
abbrev GF (K:Fg)(G:Gx)(C:En->Prop)(p:En->Prop)[∀a,Decidable (p a)]:TE:=tX K G C λa=>.bl (decide (p a))
abbrev pO (K:Fg)(G:Gx)(C:En->Prop)(g:En->Str):TE:=tX K G C λa=>.str (g a)
section
variable {X:Cx}
def mD (h:PE X e t)(k:∀B b H a O Q,Rep X.K G B b H a O->C a->(∀v d,Same H d -> At X.K G (mn d O) (g a) v->Q v d)->t b H Q):PE X e (tX X.K G C g):=
 λp s b H Q I ⟨B,a,O,R,c,q⟩=>h p s b H Q I (k B b H a O Q R c q)
def Kw (h:PE X e t)(k:∀B d H b O Q,Rep X.K G B d H b O->C b->(∀a f,Same H f -> H a=none->f a=some (.lst ((g b).map V.int))->Q (.ref a) f)->t d H Q):PE X e (Hw X.K G C g):=
 λp s d H Q I ⟨B,b,O,R,c,q⟩=>h p s d H Q I (k B d H b O Q R c q)
def j9 (h:PE X e (Hw X.K G C g)):PE X e (Oa X.K G C g):=mD h λB f H d O Q R c q=>⟨B,d,O,R,c,λa b s n e=>q _ b s ⟨a,rfl,.inl (by
 rw[lZ]
 .exact e
 .cases z:O a with
  |false=>rfl
  |true=>exact absurd n (R.dom a z))⟩⟩
def oF (h:PE X e (yZ X.K G C g)):PE X e (tX X.K G C λb=>.lst (g b)):=mD h λB i H b O Q R c q=>⟨B,b,O,R,c,λa v d s n e f=>q _ d s ⟨a,v,rfl,.inl (by
 rw[lZ]
 .exact e
 .cases z:O a with
  |false=>rfl
  |true=>exact absurd n (R.dom a z)),kI.mono (tZ qj) _ _ f⟩⟩
def iT:PE X (.Constant (.int n) j pos) (jW X.K G (λ_=>True) λ_=>n):=mD pe_int λ_ _ H _ _ _ _ _ q=>q _ H (Same.refl H) rfl
def YW:PE X (.Constant (.bool n) j pos) (tX X.K G (λ_=>True) λ_=>.bl n):=mD pe_bl λ_ _ H _ _ _ _ _ q=>q _ H (Same.refl H) rfl
def Tn:PE X (.Constant .none j pos) (tX X.K G (λ_=>True) λ_=>.non):=mD pe_non λ_ _ H _ _ _ _ _ q=>q _ H (Same.refl H) rfl
def jc:PE X (.Constant (.str n) j pos) (pO X.K G (λ_=>True) λ_=>n):=mD pe_str λ_ _ H _ _ _ _ _ q=>q _ H (Same.refl H) rfl
def Oq (b:Gl X x)(h:∃tk,X.mg x=some (.int n tk))(a:(x == ("__debug__":Str))=false:=by decide):PE X (.Name x pos) (jW X.K G (λ_=>True) λ_=>n):=
 let ⟨_,h⟩:=h;mD (pe_glob b h (v:=.int n) ⟨_,rfl⟩ a) λ_ _ H _ _ _ _ _ q=>q _ H (Same.refl H) rfl
def Fl (a:Gl X x)(b:X.mg x=none)(d:bootBuiltins x=some (.type u))(c:x≠"__name__":=by decide)(h:(x == ("__debug__":Str))=false:=by decide):PE X (.Name x pos) (tX X.K G (λ_=>True) λ_=>.ty u):=
 mD (pe_bltn (v:=.ty u) a b d rfl c h) λ_ _ H _ _ _ _ _ q=>q _ H (Same.refl H) rfl
def oV (a:Gl X x)(b:X.mg x=some (.ref c))(h:(x == ("__debug__":Str))=false:=by decide):PE X (.Name x pos) (tX X.K G (λ_=>True) λ_=>.cls c):=
 mD (pe_glob (v:=.ref c) a b rfl h) λ_ _ H _ _ _ _ _ q=>q _ H (Same.refl H) rfl
def xv (i:Nat)(d:X.N[i]?=some x:=by rfl)(g:Vis X.env.scope x:=by walk_at "v")
  (f:(x == ("__debug__":Str))=false:=by decide) (a:(x == ("__classdict__":Str))=false:=by decide):PE X (.Name x pos) (tX X.K G (λb=>isF b i) λb=>Qq b i):=
 mD (pe_var d g f a) λ_ _ H _ _ _ R c q=>let ⟨v,e,h⟩:=R.fr i _ c;⟨v,e,q v H (Same.refl H) h⟩
def xn (i:Nat)(d:X.N[i]?=some x:=by rfl)(g:Vis X.env.scope x:=by walk_at "v")
  (f:(x == ("__debug__":Str))=false:=by decide) (a:(x == ("__classdict__":Str))=false:=by decide):PE X (.Name x pos) (jW X.K G (λb=>isI b i) λb=>Gi b i):=
 mD (pe_var d g f a) λ_ _ H _ _ _ R c q=>let ⟨v,e,h⟩:=R.fr i _ c;⟨v,e,q v H (Same.refl H) h⟩
def xl (i:Nat)(d:X.N[i]?=some x:=by rfl)(g:Vis X.env.scope x:=by walk_at "v")
  (f:(x == ("__debug__":Str))=false:=by decide) (a:(x == ("__classdict__":Str))=false:=by decide):PE X (.Name x pos) (Oa X.K G (λb=>isL b i) λb=>getL b i):=
 mD (pe_var d g f a) λ_ _ H _ _ _ R c q=>let ⟨v,e,h⟩:=R.fr i _ c;⟨v,e,q v H (Same.refl H) h⟩
def xr (i:Nat)(d:X.N[i]?=some x:=by rfl)(g:Vis X.env.scope x:=by walk_at "v")
  (f:(x == ("__debug__":Str))=false:=by decide) (b:(x == ("__classdict__":Str))=false:=by decide):PE X (.Name x pos) (tX X.K G (λa=>a[i]?=some (.fr (.scr (getL a i)))) λa=>.scr (getL a i)):=
 mD (pe_var d g f b) λ_ _ H _ _ _ R c q=>let ⟨v,e,h⟩:=R.fr i _ c;⟨v,e,q v H (Same.refl H) h⟩
def xs (i:Nat)(d:X.N[i]?=some x:=by rfl)(g:Vis X.env.scope x:=by walk_at "v")
  (f:(x == ("__debug__":Str))=false:=by decide) (a:(x == ("__classdict__":Str))=false:=by decide):PE X (.Name x pos) (pO X.K G (λb=>isS b i) λb=>T6 b i):=
 mD (pe_var d g f a) λ_ _ H _ _ _ R c q=>let ⟨v,e,h⟩:=R.fr i _ c;⟨v,e,q v H (Same.refl H) h⟩
def two {r:R2}{g gb:En->PV}{d:L2.St}{B:Bs}{O:Addr->Bool}(R:Rep X.K G B d H a O)(j:C a)(k:e a)(q:∀v u b h,Same H b->Same b h->At X.K G (mn h O) (g a) v->At X.K G (mn h O) (gb a) u->r v u h Q) :
  tOp r (tX X.K G C g) (tX X.K G e gb) d H Q:=
 ⟨B,a,O,R,j,λv b s f=>⟨B,a,O,R.grow s,k,λu h c i=>q v u b h s c (At.mono (j7 c) _ _ f) i⟩⟩
def N5 {op:Operator}{C:Int->Int->Prop}{g:Int->Int->Int}(o:OpR X (binaryOp op) (rI C λi j=>.int (g i j)))(m:PE X a (jW X.K G f e))(n:PE X b (jW X.K G h gb)) :
  PE X (.BinOp a op b pos) (jW X.K G (λd=>f d/\h d/\C (e d) (gb d)) λd=>g (e d) (gb d)):=
 mD (pe_op o m n) λ_ _ _ _ _ _ R c q=>two R c.1 c.2.1 λ_ _ _ H s p k l=>⟨_,_,k,l,c.2.2,q _ H (s.trans p) rfl⟩
def Ut {op:Operator}{g:Int->Int->Int}(o:OpR X (binaryOp op) (rI0 λi j=>.int (g i j)))(m:PE X a (jW X.K G C l))(n:PE X b (jW X.K G e gb)) :
  PE X (.BinOp a op b pos) (jW X.K G (λd=>C d/\e d) λd=>g (l d) (gb d)):=
 mD (pe_op o m n) λ_ _ _ _ _ _ R c q=>two R c.1 c.2 λ_ _ _ h s p f k=>⟨_,_,f,k,q _ h (s.trans p) rfl⟩
def m9 (h:PE X a (jW X.K G C g))(e:PE X b (jW X.K G d gb)):PE X (.BinOp a .Add b pos) (jW X.K G (λc=>C c/\d c) λc=>g c+gb c):=Ut op_add h e
def pG (h:PE X a (jW X.K G C g))(e:PE X b (jW X.K G d gb)):PE X (.BinOp a .Sub b pos) (jW X.K G (λc=>C c/\d c) λc=>g c-gb c):=Ut op_sub h e
def o6 (h:PE X a (jW X.K G C g))(e:PE X b (jW X.K G d gb)):PE X (.BinOp a .Mult b pos) (jW X.K G (λc=>C c/\d c/\IntMulOk (g c) (gb c)) λc=>g c*gb c):=N5 zb h e
def jE (h:PE X a (jW X.K G C g))(e:PE X b (jW X.K G d gb)):PE X (.BinOp a .Mod b pos) (jW X.K G (λc=>C c/\d c/\0<gb c) λc=>g c % gb c):=N5 op_mod h e
def kj (h:PE X a (jW X.K G C g))(e:PE X b (jW X.K G d gb)):PE X (.BinOp a .FloorDiv b pos) (jW X.K G (λc=>C c/\d c/\YX (g c) (gb c)) λc=>g c / gb c):=N5 RL h e
def Vj (h:PE X a (jW X.K G C g))(e:PE X b (jW X.K G d gb)):PE X (.BinOp a .Pow b pos) (jW X.K G (λc=>C c/\d c/\CPow (g c) (gb c)) λc=>g c^(gb c).toNat):=N5 op_pow h e
def qw (e:PE X a (jW X.K G C g)):PE X (.UnaryOp .USub a pos) (jW X.K G C λb=>-g b):=
 mD (pe_un un_neg e) λB _ _ b O _ R c q=>⟨B,b,O,R,c,λ_ h s d=>⟨_,d,q _ h s rfl⟩⟩
def Bt {op:CmpOp}{p:Int->Int->Prop}[∀i j,Decidable (p i j)](r:OpR X (compareOp op) (rI0 λi j=>.bl (decide (p i j))))(o:behindInMarks op b=false)(m:PE X a (jW X.K G C l))(n:PE X b (jW X.K G f gb)) :
  PT X (.Compare a [op] [b] pos) (t6 X.K G (λe=>C e/\f e) λe=>p (l e) (gb e)):=
 λd s v H Q I ⟨_,_,_,R,c,q⟩=>pt_cmpR r m n o d s v H Q I (two R c.1 c.2 λ_ _ _ h t u g k=>⟨_,_,g,k,_,rfl,q h (t.trans u)⟩)
def Us {op:CmpOp}{p:Int->Int->Prop}[∀i j,Decidable (p i j)](o:OpR X (compareOp op) (rI0 λi j=>.bl (decide (p i j))))(n:behindInMarks op b=false)(l:PE X a (jW X.K G C k))(m:PE X b (jW X.K G e gb)) :
  PE X (.Compare a [op] [b] pos) (GF X.K G (λd=>C d/\e d) λd=>p (k d) (gb d)):=
 mD (pe_cmpR o l m n) λ_ _ _ _ _ _ R c q=>two R c.1 c.2 λ_ _ _ h s r f g=>⟨_,_,f,g,q _ h (s.trans r) rfl⟩
def Du (h:PE X a (jW X.K G C g))(e:PE X b (jW X.K G d gb)):PT X (.Compare a [.Lt] [b] pos) (t6 X.K G (λc=>C c/\d c) λc=>g c<gb c):=Bt op_lt (nomark _) h e
def Dw (h:PE X a (jW X.K G C g))(e:PE X b (jW X.K G d gb)):PT X (.Compare a [.Gt] [b] pos) (t6 X.K G (λc=>C c/\d c) λc=>gb c<g c):=Bt (p:=λi j=>j<i) op_gt (nomark _) h e
def ac3 (h:PE X a (jW X.K G C g))(e:PE X b (jW X.K G d gb)):PT X (.Compare a [.GtE] [b] pos) (t6 X.K G (λc=>C c/\d c) λc=>gb c<=g c):=Bt (p:=λi j=>j<=i) op_ge (nomark _) h e
def mQ (h:PE X a (jW X.K G C g))(e:PE X b (jW X.K G d gb)):PT X (.Compare a [.Eq] [b] pos) (t6 X.K G (λc=>C c/\d c) λc=>g c=gb c):=Bt Kv (nomark _) h e
def zZ (h:PE X a (jW X.K G C g))(e:PE X b (jW X.K G d gb)):PT X (.Compare a [.NotEq] [b] pos) (t6 X.K G (λc=>C c/\d c) λc=>¬g c=gb c):=Bt (p:=λi j=>¬i=j) Q7 (nomark _) h e
def abT (h:PE X a (jW X.K G C g))(e:PE X b (jW X.K G d gb)):PE X (.Compare a [.Lt] [b] pos) (GF X.K G (λc=>C c/\d c) λc=>g c<gb c):=Us op_lt (nomark _) h e
def ada (h:PE X a (jW X.K G C g))(e:PE X b (jW X.K G d gb)):PE X (.Compare a [.Eq] [b] pos) (GF X.K G (λc=>C c/\d c) λc=>g c=gb c):=Us Kv (nomark _) h e
variable {P f:En->Prop}[∀ρ,Decidable (P ρ)][∀ρ,Decidable (f ρ)]{rest:List Expr}
def yz (h:PE X e (GF X.K G C P))(he:∀w,isTrue e X.env w=(do let v <- w;standAt e.pos;holding [v] (truthy v)):=by intro _;rfl):PT X e (t6 X.K G C P):=
 λp s g H Q I ⟨B,ρ,O,R,c,q⟩=>pt_val h he p s g H Q I ⟨B,ρ,O,R,c,λ_ a d b=>⟨_,b,q a d⟩⟩
def qC (b:PT X a (t6 X.K G C P)):PT X (.UnaryOp .Not a pos) (t6 X.K G C λρ=>¬P ρ):=
 λp s e H Q I ⟨B,ρ,O,R,c,q⟩=>L2.pt_not b p s e H Q I ⟨B,ρ,O,R,c,λh d=>by have z:=q h d;rw[decide_not]at z;exact z⟩
def zG (h:PT X a (t6 X.K G c P)):PW X (.BoolOp .Or [a] pos) (t6 X.K G c P):=pw_or1 h
def wg (h:PT X a (t6 X.K G c P)):PW X (.BoolOp .And [a] pos) (t6 X.K G c P):=pw_and1 h
def Ed (k:PT X a (t6 X.K G C P))(l:PW X (.BoolOp .Or (b::rest) pos) (t6 X.K G h f)):PW X (.BoolOp .Or (a::b::rest) pos) (t6 X.K G (λρ=>C ρ/\(¬P ρ->h ρ)) λρ=>P ρ\/f ρ):=
 λw p s n H Q I ⟨B,ρ,O,R,c,q⟩=>pw_or k l w p s n H Q I ⟨B,ρ,O,R,c.1,λi g=>by
  by_cases d:P ρ
  .have z:=q i g;rw[aQ (Or.inl d:P ρ\/f ρ)]at z;rw[aQ d];refine iteT ?_;exact z
  .rw[aK d];refine iteF ?_;refine⟨B,ρ,O,R.grow g,c.2 d,λj m=>?_⟩;have z:=q j (g.trans m);have e:decide (P ρ\/f ρ)=decide (f ρ):=by simp[d]
   rw[e]at z;exact z⟩
def uY (k:PT X a (t6 X.K G C P))(l:PW X (.BoolOp .And (b::rest) pos) (t6 X.K G h f)):PW X (.BoolOp .And (a::b::rest) pos) (t6 X.K G (λρ=>C ρ/\(P ρ->h ρ)) λρ=>P ρ/\f ρ):=
 λw p s n H Q I ⟨B,ρ,O,R,c,q⟩=>pw_and k l w p s n H Q I ⟨B,ρ,O,R,c.1,λi g=>by
  by_cases d:P ρ
  .rw[aQ d];refine iteT ?_;refine⟨B,ρ,O,R.grow g,c.2 d,λj m=>?_⟩;have z:=q j (g.trans m);have e:decide (P ρ/\f ρ)=decide (f ρ):=by simp[d]
   rw[e]at z;exact z
  .have z:=q i g;rw[aK (λy=>d y.1:¬(P ρ/\f ρ))]at z;rw[aK d];refine iteF ?_;exact z⟩
def Z7 (d:PE X a (GF X.K G C P)):PE X (.UnaryOp .Not a pos) (GF X.K G C λρ=>¬P ρ):=
 mD (pe_not d) λB _ _ ρ O _ R c q=>⟨B,ρ,O,R,c,λ_ h s b=>⟨_,b,q _ h s (by rw[decide_not];rfl)⟩⟩
def JS (k:PE X a (GF X.K G C P))(l:PE X (.BoolOp .And (b::rest) pos) (GF X.K G g f)):PE X (.BoolOp .And (a::b::rest) pos) (GF X.K G (λρ=>C ρ/\(P ρ->g ρ)) λρ=>P ρ/\f ρ):=
 mD (pe_and k l) λB _ _ ρ O _ R c q=>⟨B,ρ,O,R,c.1,λ_ h s i=>⟨_,i,by
  by_cases d:P ρ
  .rw[aQ d];refine iteT ?_;refine⟨B,ρ,O,R.grow s,c.2 d,λv H m j=>q v H (s.trans m) ?_⟩;have e:decide (P ρ/\f ρ)=decide (f ρ):=by simp[d]
   rw[e];exact j
  .have z:=q (.bl false) h s (by rw[aK (λy=>d y.1:¬(P ρ/\f ρ))];rfl);rw[aK d];refine iteF ?_;exact z⟩⟩
def iU:PA X [] (z8 X.K G (λ_=>True) λ_=>[]):=λa p s b H Q I ⟨_,_,_,_,_,q⟩=>pa_nil a p s b H Q I (q [] H (Same.refl H) rfl)
def iQ (n:PE X e (tX X.K G C g))(o:PA X a (z8 X.K G i m))(r:starEach (e::a) X.env=(false,eval e X.env)::starEach a X.env:=by rfl):PA X (e::a) (z8 X.K G (λρ=>C ρ/\i ρ) λρ=>g ρ::m ρ):=
 λb p s u H Q I ⟨B,ρ,O,R,c,q⟩=>pa_cons n o r b p s u H Q I ⟨B,ρ,O,R,c.1,λv w d k=>⟨B,ρ,O,R.grow d,c.2,λt j h l=>q _ j (d.trans h) ⟨v,t,rfl,At.mono (j7 h) _ _ k,l⟩⟩⟩
end
structure Ps where
 nx:En->Prop
 rt:PV->Prop
 rl:List Int->Prop:=λ_=>False
 rn:PV->Prop:=λ_=>False
 bk:En->Prop:=λ_=>False
 ct:En->Prop:=λ_=>False
 er:Addr->Prop:=λ_=>False
abbrev Ps.sq (P:Ps)(k:En->Prop):Ps:={ P with nx:=k }
abbrev Ps.lp (P:Ps)(k:En->Prop):Ps:={ P with nx:=k,ct:=k,bk:=P.nx }
abbrev ER:=Addr->Hp->Hp->Prop
abbrev ER0:ER:=λ_ _ _=>False
abbrev FS:=Ps->En->Prop
def xg (K:Fg)(G:Gx)(B:Bs)(b:L2.St)(H:Hp)(a:En):Prop:=∃O,Rep K G B b H a O
structure Owe (K:Fg)(G:Gx)(Er:ER)(B:Bs)(P:Ps)(D:Ends):Prop where
 nx:∀σ H ρ,xg K G B σ H ρ->P.nx ρ->D.nx σ H
 rt:∀v H p,Same B.H0 H->At K G (mn H B.Oc) p v->P.rt p->D.rt v H
 rl:∀a H ns,Same B.H0 H->B.H0 a=none->H a=some (.lst (ns.map V.int))->P.rl ns->D.rt (.ref a) H
 rn:∀v H p,Same B.H0 H->At K G (mn H λa=>(B.H0 a).isSome) p v->P.rn p->D.rt v H
 bk:∀σ H ρ,xg K G B σ H ρ->P.bk ρ->D.bk σ H
 ct:∀σ H ρ,xg K G B σ H ρ->P.ct ρ->D.ct σ H
 er:∀H C H',Same B.H0 H' -> Same H' H->P.er C->Er C H' H
def ts (K:Fg)(G:Gx)(e:ER)(f:FS):TS:=λD b H=>∃B a P,xg K G B b H a/\f P a/\Owe K G e B P D
section
variable {X:Cx}{G:Gx}{E:ER}{pos:Pos}{st:Stmt}{S:List Stmt}{f q F:FS}{C:En->Prop}{e:Expr}{t:TS}
def toS (h:PS X st t)(k:∀B a H b O P D,Rep X.K G B a H b O->f P b->Owe X.K G E B P D->t D a H):PS X st (ts X.K G E f):=
 λp s a H D I ⟨B,b,P,⟨O,R⟩,c,w⟩=>h p s a H D I (k B a H b O P D R c w)
def je:PSs X [] (ts X.K G E λP a=>P.nx a):=λp s b H D I ⟨_,a,_,R,c,w⟩=>pss_nil p s b H D I (w.nx b H a R c)
def iV (h:PS X st (ts X.K G E f)):PSs X [st] (ts X.K G E f):=pss_one h
def iR (h:PS X st (ts X.K G E q))(g:PSs X S (ts X.K G E F)):PSs X (st::S) (ts X.K G E λP a=>q (P.sq (F P)) a):=
 λp s i H D I ⟨B,a,P,R,c,w⟩=>pss_cons h g p s i H D I ⟨B,a,{ P with nx:=F P },R,c,⟨λ_ _ b r d=>⟨B,b,P,r,d,w⟩,w.rt,w.rl,w.rn,w.bk,w.ct,w.er⟩⟩
def pI (h:PS X st (ts X.K G E q))(d:PSs X S (ts X.K G E F)):PSs X (st::S) (ts X.K G E λP a=>∃J:En->Prop,q (P.sq J) a/\∀ρ',J ρ' -> F P ρ'):=
 λp s g H D I ⟨B,a,P,R,⟨J,c,k⟩,w⟩=>pss_cons h d p s g H D I ⟨B,a,{ P with nx:=J },R,c,⟨λ_ _ ρ' r b=>⟨B,ρ',P,r,k ρ' b,w⟩,w.rt,w.rl,w.rn,w.bk,w.ct,w.er⟩⟩
def mK (i:Nat)(h:PSs X S (ts X.K G E f)):PSs X S (ts X.K G E λP a=>f P (frz a i)):=
 λp s b H D I ⟨B,a,P,⟨_,R⟩,c,w⟩=>h p s b H D I ⟨B,frz a i,P,R.freeze i,c,w⟩
def jY:PS X st (ts X.K G E λ_ _=>False):=toS ps_never λ_ _ _ _ _ _ _ _ c _=>c
def jb (h:PE X e (tX X.K G C g)):PS X (.Return (some e) pos) (ts X.K G E λP a=>C a/\P.rt (g a)):=
 toS (ps_ret h) λB _ _ a O _ _ R c w=>⟨B,a,O,R,c.1,λv H s b=>w.rt v H _ (R.same.trans s) (At.mono (tZ R.hid) _ _ b) c.2⟩
def ph (h:PE X e (Hw X.K G C g)):PS X (.Return (some e) pos) (ts X.K G E λP b=>C b/\P.rl (g b)):=
 toS (ps_ret h) λB _ _ b O _ _ R c w=>⟨B,b,O,R,c.1,λa H s n d=>w.rl a H _ (R.same.trans s) (R.same.free n) d c.2⟩
def Be (i:Nat)(l:X.N[i]?=some x:=by rfl)(n:Vis X.env.scope x:=by walk_at "v")
  (m:(x == ("__debug__":Str))=false:=by decide) (h:(x == ("__classdict__":Str))=false:=by decide):PS X (.Return (some (.Name x p)) pos) (ts X.K G E λP b=>isO b i/\P.rl (getL b i)):=
 toS (ps_ret (pe_var l n m h)) λB _ H b O _ _ R c w=>by obtain⟨a,v,g,o,j,k,d⟩:=R.ow i _ c.1;have d:v=(getL b i).map V.int:=d;subst d;exact⟨_,g,w.rl a H _ R.same j k c.2⟩
def yV (d:X.N.Nodup)(k:X.N[i]?=some x)(m:Loc X.env.scope x)(he:PE X e (tX X.K G C g))(l:swapsWith e (some (.Name x p)) pos.line X.env=pure false:=by rfl)
  (j:X.fn x=true\/X.env.scope.names.lookup x=some .local:=by walk_at "w"):PS X (.Assign [.Name x p] e pos) (ts X.K G E λP a=>C a/\P.nx (a.set i (.fr (g a)))):=
 toS (ps_set d k m he l j) λB n _ a O _ _ R c w=>⟨B,a,O,R,c.1,λ_ h s b=>w.nx _ h _ ⟨O,(R.grow s).set b⟩ c.2⟩
def jK (h:X.N.Nodup)(j:X.N[i]?=some x)(l:Loc X.env.scope x)(he:PE X e (tX X.K G C g))(k:swapsWith e (some (.Name x a)) pos.line X.env=pure false:=by rfl)
  (d:X.fn x=true\/X.env.scope.names.lookup x=some .local:=by walk_at "w"):PS X (.Assign [.Name x a] e pos) (ts X.K G E λP b=>C b/\∀p,p=g b->P.nx (b.set i (.fr p))):=
 toS (yV h j l he k d) λB m _ b O P D R c w=>⟨B,b,P,⟨O,R⟩,⟨c.1,c.2 _ rfl⟩,w⟩
def ji (h:X.N.Nodup)(d:X.N[i]?=some x)(k:Loc X.env.scope x)(he:PE X e (jW X.K G C g))(j:swapsWith e (some (.Name x p)) pos.line X.env=pure false:=by rfl)
  (b:X.fn x=true\/X.env.scope.names.lookup x=some .local:=by walk_at "w"):PS X (.Assign [.Name x p] e pos) (ts X.K G E λP a=>C a/\∀n,n=g a->P.nx (a.set i (.fr (.int n)))):=
 toS (yV h d k he j b) λB l _ a O P D R c w=>⟨B,a,P,⟨O,R⟩,⟨c.1,c.2 _ rfl⟩,w⟩
def jm (h:X.N.Nodup)(d:X.N[i]?=some x)(k:Loc X.env.scope x)(he:PE X e (Oa X.K G C g))(j:swapsWith e (some (.Name x p)) pos.line X.env=pure false:=by rfl)
  (b:X.fn x=true\/X.env.scope.names.lookup x=some .local:=by walk_at "w"):PS X (.Assign [.Name x p] e pos) (ts X.K G E λP a=>C a/\∀ns,ns=g a->P.nx (a.set i (.fr (.ints ns)))):=
 toS (yV h d k he j b) λB l _ a O P D R c w=>⟨B,a,P,⟨O,R⟩,⟨c.1,c.2 _ rfl⟩,w⟩
def vJ (k:X.N.Nodup)(m:X.N[i]?=some x)(o:Loc X.env.scope x)(he:PE X e (Hw X.K G C g))(n:swapsWith e (some (.Name x d)) pos.line X.env=pure false:=by rfl)
  (l:X.fn x=true\/X.env.scope.names.lookup x=some .local:=by walk_at "w"):PS X (.Assign [.Name x d] e pos) (ts X.K G E λP b=>C b/\∀ns,ns=g b->P.nx (b.set i (.ow (.ints ns)))):=
 toS (ps_set k m o he n l) λB u _ b O _ _ R c w=>⟨B,b,O,R,c.1,λa h s r j=>w.nx _ h _ ⟨hide a O,R.new (p:=.ints (g b)) s r j rfl⟩ (c.2 _ rfl)⟩
def sY (l:X.N.Nodup)(n:X.N[i]?=some x)(r:Loc X.env.scope x)(he:PE X e (yZ X.K G C g))(o:swapsWith e (some (.Name x d)) pos.line X.env=pure false:=by rfl)
  (m:X.fn x=true\/X.env.scope.names.lookup x=some .local:=by walk_at "w"):PS X (.Assign [.Name x d] e pos) (ts X.K G E λP b=>C b/\∀ns,ns=g b->P.nx (b.set i (.ow (.lst ns)))):=
 toS (ps_set l n r he o m) λB y _ b O _ _ R c w=>⟨B,b,O,R,c.1,λa v h u s k j=>w.nx _ h _ ⟨hide a O,R.new (p:=.lst (g b)) u s k j⟩ (c.2 _ rfl)⟩
def zp {i:Nat}{op:Operator}{g:En->Int}{d:Int->Int->Prop}{h:Int->Int->Int}(A:X.N.Nodup)(I:X.N[i]?=some x)(L:Loc X.env.scope x)(he:PE X e (jW X.K G C g))(J:OpR X (inplaceOp op) (rI d λi j=>.int (h i j)))
  (D:X.fn x=true\/X.env.scope.names.lookup x=some .local:=by walk_at "w"):PS X (.AugAssign (.Name x k) op e pos) (ts X.K G E λP a=>isI a i/\C a/\d (Gi a i) (g a)/\∀n,n=h (Gi a i) (g a)->P.nx (a.set i (.fr (.int n)))):=
 toS (ps_aug A I L he J D) λB N H a O _ _ R c w=>by obtain⟨o,r,s,u⟩:=c;obtain⟨v,z,b⟩:=R.fr i _ o;have b:v=.int (Gi a i):=b;subst b;exact⟨_,z,B,a,O,R,r,λy l M m=>⟨_,_,rfl,m,s,w.nx _ l _ ⟨O,(R.grow M).set (p:=.int _) rfl⟩ (u _ rfl)⟩⟩
def jn [∀g,Decidable (p g)](j:PT X c (t6 X.K G C p))(h:PSs X a (ts X.K G E q))(i:PSs X b (ts X.K G E F)):PS X (.If c a b pos) (ts X.K G E λP g=>C g/\(p g->q P g)/\(¬p g->F P g)):=
 toS (ps_if j h i) λB k _ g O P D R c w=>⟨B,g,O,R,c.1,λH s=>by
  by_cases d:p g
  .rw[aQ d];refine iteT ?_;exact⟨B,g,P,⟨O,R.grow s⟩,c.2.1 d,w⟩
  .rw[aK d];refine iteF ?_;exact⟨B,g,P,⟨O,R.grow s⟩,c.2.2 d,w⟩⟩
def oW [∀a,Decidable (p a)](z:PassesOwn (model X.prog X.w) X.A X.env X.xe)(y:PT X c (t6 X.K G C p))(x:PSs X body (ts X.K G E f)) :
  PS X (.While c body [] pos) (ts X.K G E λP a=>∃(W:En->Prop) (g:En->Nat),W a/\∀a,W a->C a/\(p a->f (P.lp λρ'=>W ρ'/\g ρ'<g a) a)/\(¬p a->P.nx a)):=
 toS (ps_while z y x) λB j H a O P D R c w=>by
  obtain⟨W,g,I,st⟩:=c;refine⟨λm j H=>∃a,xg X.K G B j H a/\W a/\m=g a,⟨g a,a,⟨O,R⟩,I,rfl⟩,?_⟩;rintro m j H ⟨a,⟨O,R⟩,A,rfl⟩;obtain⟨l,n,o⟩:=st a A;refine⟨B,a,O,R,l,λk s=>?_⟩;by_cases d:p a
  .rw[aQ d];refine iteT ?_;refine⟨λb i=>∃ρ',xg X.K G B b i ρ'/\W ρ'/\g ρ'<g a,λb i ⟨ρ',r,u,v⟩=>⟨_,v,ρ',r,u,rfl⟩,B,a,_,⟨O,R.grow s⟩,n d,⟨λb i ρ' r h=>⟨ρ',r,h⟩,w.rt,w.rl,w.rn,w.nx,λb i ρ' r h=>⟨ρ',r,h⟩,w.er⟩⟩
  .rw[aK d];refine iteF ?_;exact w.nx j k a ⟨O,R.grow s⟩ (o d)
def wF (U:PassesOwn (model X.prog X.w) X.A X.env X.xe)(M:X.calm=true)(Q:Gl X "range")(T:X.mg "range"=none)(J:PE X a (jW X.K G C g))(I:X.N.Nodup)(n:X.N[k]?=some x)(Y:Loc X.env.scope x)
  (L:PSs X body (ts X.K G E f)) (u:starEach [a] X.env=[(false,eval a X.env)]:=by rfl) (m:∀x,foldedSetIterable (.Call (.Name "range" p) [a] [] d) X.env x=pure x:=by intro _;rfl)
  (N:X.fn x=true\/X.env.scope.names.lookup x=some .local:=by walk_at "w") :
  PS X (.For (.Name x px) (.Call (.Name "range" p) [a] [] d) body [] pos) (ts X.K G E λP b=>C b/\(-(2^62)<=g b/\g b<2^62)/\∃W:Nat->En->Prop,W 0 b/\(∀i ρ',i<(g b).toNat->W i ρ' -> f (P.lp (W (i+1))) (ρ'.set k (.fr (.int i))))/\∀ρ',W (g b).toNat ρ' -> P.nx ρ'):=
 toS (ps_for U M (pi_range1 Q T (pa_cons J pa_nil u) u) (pg_name I n Y N) L m) λB j H b O P D R c w=>by
  obtain⟨A,⟨Z,l2⟩,W,w0,st,nd⟩:=c;refine⟨B,b,O,R,A,λv H1 s1 l=>?_⟩;have l:v=.int (g b):=l;subst l;refine⟨g b,rfl,Z,l2,for_range (λi j H=>∃ρ',xg X.K G B j H ρ'/\W i ρ') ⟨b,⟨O,R.grow s1⟩,w0⟩ ?_ ?_⟩
  .rintro i j H n ⟨ρ',⟨z,r⟩,o⟩;have e:(0:Int)+i=i:=by lia
   rw[e];exact⟨B,_,_,⟨z,r.set (p:=.int i) rfl⟩,st i ρ' n o,⟨λs y ρ' r h=>⟨ρ',r,h⟩,w.rt,w.rl,w.rn,w.nx,λs y ρ' r h=>⟨ρ',r,h⟩,w.er⟩⟩
  .rintro j H ⟨ρ',r,o⟩;exact w.nx j H ρ' r (nd ρ' o)
def O2 (hp:PassesOwn (model X.prog X.w) X.A X.env X.xe)(hc:X.calm=true)(hg:Gl X "range")(hm:X.mg "range"=none)(ha:PE X a (jW X.K G C g))(y:PE X b (jW X.K G N h))(Z:X.N.Nodup)(A:X.N[k]?=some x)(hx:Loc X.env.scope x)
  (hb:PSs X body (ts X.K G E f)) (L:starEach [a,b] X.env=[(false,eval a X.env),(false,eval b X.env)]:=by rfl) (j:starEach [b] X.env=[(false,eval b X.env)]:=by rfl) (z:∀x,foldedSetIterable (.Call (.Name "range" p) [a,b] [] m) X.env x=pure x:=by intro _;rfl)
  (hf:X.fn x=true\/X.env.scope.names.lookup x=some .local:=by walk_at "w") :
  PS X (.For (.Name x px) (.Call (.Name "range" p) [a,b] [] m) body [] pos) (ts X.K G E λP d=>(C d/\N d)/\(-(2^62)<=g d/\g d<2^62 /\ -(2^62)<=h d/\h d<2^62) /\ ∃W:Nat->En->Prop,W 0 d/\(∀i ρ',i<(h d-g d).toNat->W i ρ' -> f (P.lp (W (i+1))) (ρ'.set k (.fr (.int (g d+i)))))/\∀ρ',W (h d-g d).toNat ρ' -> P.nx ρ'):=
 toS (ps_for hp hc (pi_range2 hg hm (pa_cons ha (pa_cons y pa_nil j) (by rw[L,j])) L j) (pg_name Z A hx hf) hb z) λB n H d O P D R c w=>by
  obtain⟨⟨U,Y⟩,l,W,w0,st,nd⟩:=c;refine⟨B,d,O,R,U,λv H1 M o=>⟨B,d,O,R.grow M,Y,λu H2 s2 s=>?_⟩⟩;have o:v=.int (g d):=o;have s:u=.int (h d):=s;subst o s;refine⟨g d,h d,rfl,l,for_range (λi n H=>∃ρ',xg X.K G B n H ρ'/\W i ρ') ⟨d,⟨O,(R.grow M).grow s2⟩,w0⟩ ?_ ?_⟩
  .rintro i n H A ⟨ρ',⟨T,r⟩,I⟩;exact⟨B,_,_,⟨T,r.set (p:=.int _) rfl⟩,st i ρ' A I,⟨λJ Q ρ' r h=>⟨ρ',r,h⟩,w.rt,w.rl,w.rn,w.nx,λJ Q ρ' r h=>⟨ρ',r,h⟩,w.er⟩⟩
  .rintro n H ⟨ρ',r,I⟩;exact w.nx n H ρ' r (nd ρ' I)
def wN {B:Bs}{u:L2.St}{H:Hp}{m:En}{O:Addr->Bool}{K:Fg}{P:Ps}{D:Ends}(R:Rep K G B u H m O)(w:Owe K G E B P D):Owe K G E (B.at H O) P D:=
 ⟨λg c d ⟨i,r⟩ h=>w.nx g c d ⟨i,R.Ka r⟩ h,λv c p s a h=>w.rt v c p (R.mF.trans s) a h,λa c k s n e h=>w.rl a c k (R.mF.trans s) (R.mF.free n) e h,λv c p s a h=>w.rn v c p (R.mF.trans s) (At.mono (tZ λb z=>by
  obtain⟨o,e⟩:=b7.mp z;exact b7.mpr (R.mF _ _ e).some) _ _ a) h,λg c d ⟨i,r⟩ h=>w.bk g c d ⟨i,R.Ka r⟩ h,λg c d ⟨i,r⟩ h=>w.ct g c d ⟨i,R.Ka r⟩ h,λc C j s l h=>w.er c C j (R.mF.trans s) l h⟩
def SQ {k:Nat}{x:Str}{l:Expr}{body:List Stmt}{g:En->List Int}{px:Pos}(hp:PassesOwn (model X.prog X.w) X.A X.env X.xe)(Y:X.calm=true)(hl:PE X l (Oa X.K G C g))(T:X.N.Nodup)(hi:X.N[k]?=some x)(hx:Loc X.env.scope x)
  (U:PSs X body (ts X.K G E f)) (u:∀x,foldedSetIterable l X.env x=pure x:=by intro _;rfl) (Z:X.fn x=true\/X.env.scope.names.lookup x=some .local:=by walk_at "w") :
  PS X (.For (.Name x px) l body [] pos) (ts X.K G E λP b=>C b/\∃W:Nat->En->Prop,W 0 b/\(∀i n ρ',(g b)[i]?=some n->W i ρ' -> f (P.lp (W (i+1))) (ρ'.set k (.fr (.int n))))/\∀ρ',W (g b).length ρ' -> P.nx ρ'):=
 toS (ps_for hp Y (pi_list hl) (pg_name T hi hx Z) U u) λB m H b O P D R c w=>by
  obtain⟨Q,W,w0,st,nd⟩:=c;refine⟨B,b,O,R,Q,λv A s1 N=>?_⟩;obtain⟨a,e,L⟩:=N;have J:=R.grow s1;have j:=wN J w;refine⟨a,e,⟨_,.inl (jh jx L)⟩,for_list (xs:=(g b).map V.int) (λi m H=>∃ρ',xg X.K G (B.at A O) m H ρ'/\W i ρ') ⟨b,⟨O,J.rebase⟩,w0⟩ ?_ ?_ ?_⟩
  .rintro i m H _ ⟨ρ',⟨I,r⟩,_⟩;exact .inl (jh ((Rep.zg B A O).trans r.same) L)
  .rintro i y m H d ⟨ρ',⟨I,r⟩,o⟩;rw[aE]at d;cases s:(g b)[i]? with
   |none=>rw[s]at d;cases d
   |some n=>rw[s]at d;have d:V.int n=y:=aD d;subst d;exact⟨_,_,_,⟨I,r.set (p:=.int n) rfl⟩,st i n ρ' s o,⟨λz M ρ' r h=>⟨ρ',r,h⟩,j.rt,j.rl,j.rn,j.nx,λz M ρ' r h=>⟨ρ',r,h⟩,j.er⟩⟩
  .rintro m H ⟨ρ',r,o⟩;rw[ae]at o;exact j.nx m H ρ' r (nd ρ' o)
def Hv {k:Nat}{x:Str}{l:Expr}{body:List Stmt}{g:En->List PV}{px:Pos}(hp:PassesOwn (model X.prog X.w) X.A X.env X.xe)(Y:X.calm=true)(hl:PE X l (tX X.K G C λb=>.lst (g b)))(T:X.N.Nodup)(hi:X.N[k]?=some x)(hx:Loc X.env.scope x)
  (U:PSs X body (ts X.K G E f)) (s:∀x,foldedSetIterable l X.env x=pure x:=by intro _;rfl) (Z:X.fn x=true\/X.env.scope.names.lookup x=some .local:=by walk_at "w") :
  PS X (.For (.Name x px) l body [] pos) (ts X.K G E λP b=>C b/\∃W:Nat->En->Prop,W 0 b/\(∀i n ρ',(g b)[i]?=some n->W i ρ' -> f (P.lp (W (i+1))) (ρ'.set k (.fr n)))/\∀ρ',W (g b).length ρ' -> P.nx ρ'):=
 toS (ps_for hp Y (pi_list hl) (pg_name T hi hx Z) U s) λB j H b O P D R c w=>by
  obtain⟨M,W,w0,st,nd⟩:=c;refine⟨B,b,O,R,M,λv z s1 L=>?_⟩;obtain⟨a,vs,e,I,m⟩:=L;have p:=R.grow s1;have d:=wN p w;have N:=m.length;refine⟨a,e,⟨_,.inl (jh jx I)⟩,for_list (xs:=vs) (λi j H=>∃ρ',xg X.K G (B.at z O) j H ρ'/\W i ρ') ⟨b,⟨O,p.rebase⟩,w0⟩ ?_ ?_ ?_⟩
  .rintro i j H _ ⟨ρ',⟨A,r⟩,_⟩;exact .inl (jh ((Rep.zg B z O).trans r.same) I)
  .rintro i y j H hy ⟨ρ',⟨A,r⟩,o⟩;obtain⟨n,Q,an⟩:=m.get hy;exact⟨_,_,_,⟨A,r.set (At.mono (p.seen r) _ _ an)⟩,st i n ρ' Q o,⟨λu J ρ' r h=>⟨ρ',r,h⟩,d.rt,d.rl,d.rn,d.nx,λu J ρ' r h=>⟨ρ',r,h⟩,d.er⟩⟩
  .rintro j H ⟨ρ',r,o⟩;rw[<- N]at o;exact d.nx j H ρ' r (nd ρ' o)
def sy {k j:Nat}{x y:Str}{l:Expr}{body:List Stmt}{g:En->List Int}{U Y p b Z:Pos}{Q:Nat}(hp:PassesOwn (model X.prog X.w) X.A X.env X.xe)(hc:X.calm=true)(hg:Gl X "enumerate")(hm:X.mg "enumerate"=none)(hl:PE X l (Oa X.K G C g))
  (z:PG X (.Tuple [.Name x U,.Name y Y] Q Z) (gTup X.K 2 (gCons (gName k) (gCons (gName j) gNil)))) (hb:PSs X body (ts X.K G E f)) (N:starEach [l] X.env=[(false,eval l X.env)]:=by rfl)
  (u:∀x,foldedSetIterable (.Call (.Name "enumerate" p) [l] [] b) X.env x=pure x:=by intro _;rfl) :
  PS X (.For (.Tuple [.Name x U,.Name y Y] Q Z) (.Call (.Name "enumerate" p) [l] [] b) body [] pos) (ts X.K G E λP d=>C d/\∃W:Nat->En->Prop,W 0 d /\ (∀i n ρ',(g d)[i]?=some n->W i ρ' -> f (P.lp (W (i+1))) ((ρ'.set k (.fr (.int i))).set j (.fr (.int n))))/\∀ρ',W (g d).length ρ' -> P.nx ρ'):=
 toS (ps_for hp hc (Ff hg hm (pa_cons hl pa_nil N) N) z hb u) λB o H d O P D R c w=>by
  obtain⟨c1,W,w0,st,nd⟩:=c;refine⟨B,d,O,R,c1,λv I s1 a1=>?_⟩;obtain⟨a,e,M⟩:=a1;subst e;have L:=R.grow s1;have m:=wN L w;refine⟨a,rfl,⟨_,.inl (jh jx M)⟩,SX (xs:=(g d).map V.int) (λi o H=>∃ρ',xg X.K G (B.at I O) o H ρ'/\W i ρ') ⟨d,⟨O,L.rebase⟩,w0⟩ ?_ ?_ ?_⟩
  .rintro i o H _ ⟨ρ',⟨J,r⟩,_⟩;exact .inl (jh ((Rep.zg B I O).trans r.same) M)
  .rintro i y o H T hy ⟨ρ',⟨J,r⟩,s⟩ hT;obtain⟨n,rfl,en⟩:=int_at hy;refine⟨T,_,rfl,SqT.of upd_same,rfl,_,_,rfl,_,_,rfl,rfl,?_⟩;exact⟨_,_,_,⟨J,((r.grow (same_new hT _)).set (p:=.int i) rfl).set (p:=.int n) rfl⟩,st i n ρ' en s,⟨λA H' ρ' r h=>⟨ρ',r,h⟩,m.rt,m.rl,m.rn,m.nx,λA H' ρ' r h=>⟨ρ',r,h⟩,m.er⟩⟩
  .rintro o H ⟨ρ',r,s⟩;rw[ae]at s;exact m.nx o H ρ' r (nd ρ' s)
end
def getD_at {ns:Li}{i:Int}(h:-(ns.length:Int)<=i)(a:i<ns.length):atI (ns.map V.int) i=some (V.int (ns.getD (if 0<=i then i else i+ns.length).toNat 0)):=by
 by_cases c:0<=i
 .rw[ai c];exact zj c a
 .rw[ag c];have q:=zj (ns:=ns) (i:=i+ns.length) (by lia) (by lia);unfold atI ixN at q ⊢;rw[ae]at q ⊢;rw[ai (show 0<=i+(ns.length:Int) by lia),ai (show i+(ns.length:Int)<(ns.length:Int) by lia)]at q;rw[ag c,ai h];exact q
def jR (n:Nat)(i:Int):Nat:=(if 0<=i then i else i+n).toNat
def Kg {n:Nat}(h:-(n:Int)<=i)(a:i<n):ixN n i=some (jR n i):=by
 unfold ixN jR;by_cases c:0<=i
 .rw[ai c,ai a,ai c]
 .rw[ag c,ai h,ag c]
def aax {n:Nat}(h:-(n:Int)<=i)(a:i<n):jR n i<n:=by
 unfold jR;by_cases c:0<=i
 .rw[ai c];lia
 .rw[ag c];lia
section
variable {X:Cx}{G:Gx}{m:ER}{a b e:Expr}{pos p P:Pos}{C f d:En->Prop}{j gb:En->Int}{i:Nat}{E:List Expr}
def kO (i:Nat)(t:PE X b (jW X.K G d gb))(w:PlainIx b)(r:X.N[i]?=some x:=by rfl)(y:Vis X.env.scope x:=by walk_at "v")
  (v:(x == ("__debug__":Str))=false:=by decide) (h:(x == ("__classdict__":Str))=false:=by decide) :
  PE X (.Subscript (.Name x P) b pos) (jW X.K G (λg=>Lg g i/\d g /\ -((getL g i).length:Int)<=gb g/\gb g<((getL g i).length:Int)) λg=>(getL g i).getD (jR (getL g i).length (gb g)) 0):=
 mD (pe_ix ix_list (pe_var r y v h) t w) λB z H g O Q R c q=>by obtain⟨a,n,o⟩:=R.Q5 c.1;exact⟨_,n,B,g,O,R,c.2.1,λu k s l=>⟨a,_,_,_,rfl,l,s.seq o,getD_at c.2.2.1 c.2.2.2,q _ k s rfl⟩⟩
def lw (i:Nat)(s:X.mg "len"=none)(n:X.N[i]?=some x:=by rfl)(r:Gl X "len":=by rfl)(t:Vis X.env.scope x:=by walk_at "v")
  (o:(x == ("__debug__":Str))=false:=by decide) (h:(x == ("__classdict__":Str))=false:=by decide) (he:starEach [.Name x P] X.env=[(false,eval (.Name x P) X.env)]:=by rfl) :
  PE X (.Call (.Name "len" p) [.Name x P] [] pos) (jW X.K G (λg=>Lg g i) λg=>((getL g i).length:Int)):=
 mD (pe_callB call_len_seq r s Aq (pa_cons (pe_var n t o h) pa_nil he) (by decide) (by decide) he rfl) λB u H g O Q R c q=>by obtain⟨a,k,l⟩:=R.Q5 c;exact⟨_,k,a,_,rfl,.inl l,by rw[ae];exact q _ H (Same.refl H) rfl⟩
def acP:PV->Int
 | .ints n=>(n.length:Int)
 | .scr n=>(n.length:Int)
 | .lst xs=>(xs.length:Int)
 | .tup xs=>(xs.length:Int)
 |_=>0
def Ri:PV->Prop
 | .ints _=>True
 | .scr _=>True
 | .lst _=>True
 | .tup _=>True
 |_=>False
def At.len {K:Fg}{H:Hp}{p:PV}{v:V}(h:At K G H p v)(hl:Ri p):∃a y,v=.ref a/\(SqL K H a y\/SqT K H a y)/\(y.length:Int)=acP p:=by
 cases p<;>first|exact hl.elim|skip
 .obtain⟨a,e,q⟩:=h;exact⟨a,_,e,.inl (.inl q),by rw[ae];rfl⟩
 .obtain⟨a,e,q⟩:=h;exact⟨a,_,e,.inl q,by rw[ae];rfl⟩
 .obtain⟨a,c,e,q,r⟩:=h;exact⟨a,c,e,.inl (.inl q),by rw[<- r.length];rfl⟩
 .obtain⟨a,c,e,q,r⟩:=h;exact⟨a,c,e,.inr (SqT.of q),by rw[<- r.length];rfl⟩
def oR {g:En->PV}(t:X.mg "len"=none)(o:PE X a (tX X.K G C g))(r:Gl X "len":=by rfl)(he:starEach [a] X.env=[(false,eval a X.env)]:=by rfl) :
  PE X (.Call (.Name "len" p) [a] [] pos) (jW X.K G (λh=>C h/\Ri (g h)) λh=>acP (g h)):=
 mD (pe_callB call_len_seq r t Aq (pa_cons o pa_nil he) (by decide) (by decide) he rfl) λB w H h O Q R c q=>⟨B,h,O,R,c.1,λv k u n=>by
  obtain⟨a,y,e,s,l⟩:=n.len c.2;exact⟨a,y,by rw[e],s.imp (λz=>jx.seq z) (λz=>RV jx z),by rw[l];exact q _ k u rfl⟩⟩
def pW:PV->Int->PV
 | .lst xs,k=>xs.getD (jR xs.length k) .non
 | .tup xs,k=>xs.getD (jR xs.length k) .non
 | .ints ns,k=>.int (ns.getD (jR ns.length k) 0)
 |_,_=>.non
def pR:PV->Int->Prop
 | .lst xs,k=>-(xs.length:Int)<=k/\k<xs.length
 | .tup xs,k=>-(xs.length:Int)<=k/\k<xs.length
 | .ints xs,k=>-(xs.length:Int)<=k/\k<xs.length
 |_,_=>False
def kI.item {K:Fg}{H:Hp}{c:List PV}{vs:List V}{k:Int}(h:kI K G H c vs)(g:-(c.length:Int)<=k)(n:k<c.length):∃v,atI vs k=some v/\At K G H (c.getD (jR c.length k) .non) v:=by
 have l:=aax g n;have e:c[jR c.length k]?=some (c.getD (jR c.length k) .non):=by rw[gQ,aa l];rfl
 obtain⟨v,ev,o⟩:=h.at e;refine⟨v,?_,o⟩;unfold atI;rw[<- h.length,Kg g n];exact ev
def jd {g:En->PV}(D:PE X a (tX X.K G f g))(F:PE X b (jW X.K G d gb))(I:PlainIx b):PE X (.Subscript a b pos) (tX X.K G (λk=>f k/\d k/\pR (g k) (gb k)) λk=>pW (g k) (gb k)):=
 mD (pe_ix ix_seq D F I) λB M H k O Q R c q=>two R c.1 c.2.1 λv u L n x y l s=>by
  have h:=c.2.2;revert l h q;generalize g k=J;intro q l h;cases J<;>first|exact h.elim|skip
  .obtain⟨p,e,r⟩:=l;exact .inl ⟨p,_,_,_,e,s,.inl (jh jx r),getD_at h.1 h.2,q _ n (x.trans y) rfl⟩
  .obtain⟨p,A,e,r,t⟩:=l;obtain⟨z,w,o⟩:=t.item h.1 h.2;exact .inl ⟨p,A,_,z,e,s,.inl (jh jx r),w,q _ n (x.trans y) o⟩
  .obtain⟨p,A,e,r,t⟩:=l;obtain⟨z,w,o⟩:=t.item h.1 h.2;exact .inr (.inl ⟨p,A,_,z,e,s,SqT.of (jx _ _ r),w,q _ n (x.trans y) o⟩)
def pZ (i:Nat)(o:X.N[i]?=some x:=by rfl)(t:Vis X.env.scope x:=by walk_at "v")
  (r:(x == ("__debug__":Str))=false:=by decide) (k:(x == ("__classdict__":Str))=false:=by decide):PT X (.Name x pos) (t6 X.K G (λg=>Lg g i) λg=>¬getL g i=[]):=
 λh s u H Q I ⟨B,g,O,R,c,q⟩=>pt_truth (pe_var o t r k) (λ_=>rfl) h s u H Q I (by
  obtain⟨a,l,n⟩:=R.Q5 c;refine⟨_,l,_,.inl ⟨_,n,rfl⟩,?_⟩;have z:=q H (Same.refl H);have e:(!((getL g i).map V.int).isEmpty)=decide (¬getL g i=[]):=by cases getL g i<;>simp
  rw[e];exact z)
def nZ:List PV->List Int
 | .int n::r=>n::nZ r
 |_=>[]
def Cw:List PV->Prop
 |[]=>True
 | .int _::r=>Cw r
 |_=>False
def kI.ints {K:Fg}{H:Hp}:∀{g:List PV} {vs:List V},kI K G H g vs->Cw g->vs=(nZ g).map V.int
 |[],_,h,_=>h
 |p::g,_,h,c=>by
  cases p<;>first|exact c.elim|skip
  obtain⟨v,r,rfl,e,t⟩:=h;rw[e,kI.ints t c];rfl
def qQ {k:En->List PV}(h:PA X E (z8 X.K G C k))(o:∀g,(k g).length<=1000:=by intro _;exact cJ rfl):PE X (.List E pos) (Hw X.K G (λg=>C g/\Cw (k g)) λg=>nZ (k g)):=
 Kw (pe_lst h) λB t H g O Q R c q=>⟨B,g,O,R,c.1,λv r s l=>⟨by rw[<- l.length];exact bv (small1000 (o g)),λa n=>by
  have e:=l.ints c.2;refine q a _ (s.trans (same_new n _)) (s.free n) ?_;rw[upd_same,e]⟩⟩
def nO (h:PA X E (z8 X.K G C o))(t:∀l,(o l).length<=1000:=by intro _;exact cJ rfl):PE X (.List E pos) (yZ X.K G C o):=
 λg s u H Q I ⟨B,l,O,R,c,q⟩=>pe_lst h g s u H Q I ⟨B,l,O,R,c,λv w r n=>⟨by rw[<- n.length];exact bv (small1000 (t l)),λa k=>
  q a v _ (r.trans (same_new k _)) (r.free k) upd_same (kI.mono (lG (same_new k _) k) _ _ n)⟩⟩
def mH (h:PA X E (z8 X.K G C n))(r:∀g,(n g).length<=1000:=by intro _;exact cJ rfl):PE X (.Tuple E x1 pos) (tX X.K G C λg=>.tup (n g)):=
 mD (pe_tup h) λB u H g O Q R c q=>⟨B,g,O,R,c,λv t s l=>⟨by rw[<- l.length];exact bv (small1000 (r g)),λa k=>by
  have o:O a=false:=by
   cases z:O a with
   |false=>rfl
   |true=>exact absurd (s.free k) (R.dom a z)
  refine q (.ref a) _ (s.trans (same_new k _)) ⟨a,v,rfl,by rw[lZ o];exact upd_same,kI.mono (j7 (same_new k _)) _ _ l⟩⟩⟩
def Hn (xs:List Int)(l h:Option Int):List Int:=(xs.drop (HT.sIx xs.length 0 l)).take (HT.sIx xs.length xs.length h-HT.sIx xs.length 0 l)
def Uq (xs:Li)(l h:Option Int):cutV (xs.map V.int) l h=(Hn xs l h).map V.int:=by unfold cutV Hn;rw[ae,<- List.map_drop,<- List.map_take]
def Xz (K:Fg)(G:Gx)(C:En->Prop)(g:En->Option Int):TO:=λk H Q=>∃B c O,Rep K G B k H c O/\C c/\∀h,Same H h -> Q (g c) h
def nW:PO X none (Xz X.K G (λ_=>True) λ_=>none):=λc s g H Q I ⟨_,_,_,_,_,q⟩=>po_none c s g H Q I (q H (Same.refl H))
def mX (h:PE X e (jW X.K G C j)):PO X (some e) (Xz X.K G C λk=>some (j k)):=λg s r H Q I ⟨B,k,O,R,c,q⟩=>po_some h g s r H Q I ⟨B,k,O,R,c,λ_ l o n=>⟨_,n,q l o⟩⟩
def qM {D A:Option Expr}{g:En->PV}{ns:En->List Int}{w u:En->Prop}{y x:En->Option Int}(I:PE X a (tX X.K G C g))(hl:PO X D (Xz X.K G w y))(J:PO X A (Xz X.K G u x))(L:∀h,C h->g h=.ints (ns h)\/g h=.scr (ns h)) :
  PE X (.Subscript a (.Slice D A none S) pos) (Hw X.K G (λh=>C h/\w h/\u h) λh=>Hn (ns h) (y h) (x h)):=
 Kw (pe_slice sl_list I hl J) λB T H h O Q R c q=>⟨B,h,O,R,c.1,λv F s k=>⟨B,h,O,R.grow s,c.2.1,λM n=>⟨B,h,O,(R.grow s).grow n,c.2.2,λN t=>by
  have o:∃p,v=.ref p/\SqL X.K F p ((ns h).map V.int):=by
   rcases L h c.1 with z|z
   .rw[z]at k;obtain⟨p,e,r⟩:=k;exact⟨p,e,.inl (jh jx r)⟩
   .rw[z]at k;obtain⟨p,e,r⟩:=k;exact⟨p,e,jx.seq r⟩
  obtain⟨p,rfl,r⟩:=o;refine⟨p,_,rfl,(n.trans t).seq r,λl hl=>q l _ (((s.trans n).trans t).trans (same_new hl _)) (((s.trans n).trans t).free hl) ?_⟩;rw[upd_same,Uq]⟩⟩⟩
def Inv.BP {X:Cx}{c:List (Addr×Obj)}{g:L2.St}{H:Hp}{s:Shared}{l:Addr}{xs:List V}(I:Inv X c g H s)(h:Rd H l (.lst xs)):xs.length<=sizeLine/\∃(its:Lv) (n:Nat),Vals xs its/\xs.length=its.length/\s.heap.get? l=some { cls:=.type "list",data:=.seq its.toArray n }:=by obtain⟨z,its,n,r,e⟩:=h.ok I.hok;exact⟨z,its,n,r,r.length,e⟩
def ac2:R2:=λx y H Q=>∃l b xs z,x=.ref l/\y=.ref b/\Rd H l (.lst xs)/\Rd H b (.lst z)/\xs.length+z.length<=sizeLine/\∀p,H p=none->Q (.ref p) (upd H p (.lst (xs++z)))
def N7:OpR X (binaryOp .Add) ac2:=by
 rintro k s S H x y v u Q I F J ⟨l,b,xs,R,rfl,rfl,A,w,M,q⟩;cases F;cases J;obtain⟨z,g,n,r,L,e⟩:=Inv.BP I A;obtain⟨O,c,N,D,B,o⟩:=Inv.BP I w;refine PySem.P.add_list e o ?_ (by rw[aq,aq];lia);have t:g.toArray++c.toArray=(g++c).toArray:=by simp
 rw[t];exact⟨.ref _,_,I.lnew (t':=s.toks) (r.append D) (by rw[aM];lia),rfl,q _ I.fresh⟩
def FJ (t:PE X a (Oa X.K G f h))(w:PE X b (Oa X.K G d hl)):PE X (.BinOp a .Add b pos) (Hw X.K G (λg=>f g/\d g/\(h g).length+(hl g).length<=sizeLine) λg=>h g++hl g):=
 Kw (pe_op N7 t w) λB D H g O Q R c q=>two R c.1 c.2.1 λv u z A s n o r=>by obtain⟨l,rfl,x⟩:=o;obtain⟨b,rfl,y⟩:=r;refine⟨l,b,_,_,rfl,rfl,jh jx x,jh jx y,by rw[ae,ae];exact c.2.2,λp k=>q p _ ((s.trans n).trans (same_new k _)) ((s.trans n).free k) ?_⟩;rw[upd_same,cY]
def HH {c:Type}(x:c):∀k:Nat,(List.replicate k [x]).flatten=List.replicate k x
 |0=>rfl
 |k+1=>by rw[bF,dD,HH x k];rfl
def xO {o:En->List Int}{n:En->Int}(v:PE X a (Hw X.K G f o))(w:PE X b (jW X.K G d gb))(x:∀g,o g=[n g]):PE X (.BinOp a .Mult b pos) (Hw X.K G (λg=>f g/\d g /\ -(2^63)<=gb g/\(gb g).toNat<=1000) λg=>List.replicate (gb g).toNat (n g)):=
 Kw (pe_op op_rep v w) λB D H g O Q R c q=>⟨B,g,O,R,c.1,λl y s A k=>⟨B,g,O,R.grow s,c.2.1,λu z h t=>by
  rw[x g]at k;refine⟨l,_,_,rfl,t,h _ _ k,c.2.2.1,by have:=c.2.2.2;lia,?_,λp r=>q p _ ((s.trans h).trans (same_new r _)) ((s.trans h).free r) ?_⟩
  .rw[bT,iD,bP,Nat.one_mul];exact bv (small1000 c.2.2.2)
  .rw[upd_same,bT,iD,HH,List.map_replicate]⟩⟩
end
def q8 (K:Fg)(G:Gx)(pre:List PV->Prop)(F:List PV->PV):Sp:=λc H Q _=>∃b O,(∀a,O a=true->H a≠none)/\kI K G (mn H O) b c/\pre b/\∀v h,Same H h -> At K G (mn h O) (F b) v->Q v h
def Qf (K:Fg)(G:Gx)(pre:List PV->Prop)(F:List PV->List Int):Sp:=λv H Q _=>∃b O,(∀a,O a=true->H a≠none)/\kI K G (mn H O) b v/\pre b/\∀a h,Same H h -> H a=none->h a=some (.lst ((F b).map V.int))->Q (.ref a) h
section
variable {X:Cx}{G:Gx}{b:ER}{e:Expr}{E:List Expr}{pos p:Pos}{j k:Nat}{x:Str}{P:List Str}{pre:List PV->Prop}{C:En->Prop}{g:En->List PV}
def xc (o:Ok X.prog X.w X.K X.mg X.base j x P (q8 X.K G pre F))(t:Room k X.A)(m:PA X (e::E) (z8 X.K G C g))(r:j<=k:=by decide)(n:Gl X x:=by rfl)(h:(x == ("__debug__":Str))=false:=by decide)
  (he:starEach (e::E) X.env=(false,eval e X.env)::starEach E X.env:=by rfl) (d:(backTo pos (starEach E X.env)).any (·.1)=false:=by rfl) :
  PE X (.Call (.Name x p) (e::E) [] pos) (tX X.K G (λa=>C a/\pre (g a)) λa=>F (g a)):=
 mD (vN o t m r n h he d) λB z H a O Q R c q=>⟨B,a,O,R,c.1,λy w s i=>by
  dsimp only;rw[aV];exact⟨g a,O,(R.grow s).dom,i,c.2,λv f u l=>q v f (s.trans u) l⟩⟩
def vm (o:Ok X.prog X.w X.K X.mg X.base j x P (Qf X.K G pre F))(u:Room k X.A)(n:PA X (e::E) (z8 X.K G C g))(t:j<=k:=by decide)(r:Gl X x:=by rfl)(h:(x == ("__debug__":Str))=false:=by decide)
  (he:starEach (e::E) X.env=(false,eval e X.env)::starEach E X.env:=by rfl) (f:(backTo pos (starEach E X.env)).any (·.1)=false:=by rfl) :
  PE X (.Call (.Name x p) (e::E) [] pos) (Hw X.K G (λd=>C d/\pre (g d)) λd=>F (g d)):=
 Kw (vN o u n t r h he f) λB A H d O Q R c q=>⟨B,d,O,R,c.1,λz y s l=>by
  dsimp only;rw[aV];exact⟨g d,O,(R.grow s).dom,l,c.2,λa i w v m=>q a i (s.trans w) (s.free v) m⟩⟩
end
def kh (N:List Str)(as:List PV):En:=as.map Sl.fr++List.replicate (N.length-as.length) .un
def nJ {K:Fg}{G:Gx}{H:Hp}{O:Addr->Bool}{as:List PV}{vs:List V}{N:Ls}(d:∀a,O a=true->H a≠none)(h:kI K G (mn H O) as vs):Rep K G ⟨H,O⟩ (L2.start N vs) H (kh N as) O:=by
 have f:=h.length;refine⟨Same.refl H,d,λ_ z=>z,d,λ_ z=>.inl z,λi p e=>?_,λi p e=>?_,λi j p q a e=>?_,by unfold L2.start kh;simp[f],λi xs y e=>?_⟩
 .unfold kh at e;by_cases c:i<as.length
  .rw[aW (by rw[ae];exact c),aE]at e;cases b:as[i]? with
   |none=>rw[b]at e;cases e
   |some k=>rw[b]at e;cases e;obtain⟨v,ev,g⟩:=h.at b;refine⟨v,?_,g⟩;unfold L2.start;rw[aW (by rw[ae,<- f];exact c),aE,ev];rfl
  .rw[bh (by rw[ae];lia),cA]at e;split at e<;>cases e
 .exfalso;unfold kh at e;by_cases c:i<as.length
  .rw[aW (by rw[ae];exact c),aE]at e;cases b:as[i]? <;> rw[b]at e<;>cases e
  .rw[bh (by rw[ae];lia),cA]at e;split at e<;>cases e
 .exfalso;unfold kh at e;by_cases c:i<as.length
  .rw[aW (by rw[ae];exact c),aE]at e;cases b:as[i]? <;> rw[b]at e<;>cases e
  .rw[bh (by rw[ae];lia),cA]at e;split at e<;>cases e
 .exfalso;unfold kh at e;by_cases c:i<as.length
  .rw[aW (by rw[ae];exact c),aE]at e;cases b:as[i]? <;> rw[b]at e<;>cases e
  .rw[bh (by rw[ae];lia),cA]at e;split at e<;>cases e
section
variable {P:Program}{w:World}{K:Fg}{mg:Mg}{base:Heap}{G:Gx}
def uV {x:Str}{st:Stmt}{N l:Ls}{k:Nat}{pre:List PV->Prop}{F:List PV->PV}(d:lH K mg x st l)(S:FnScope N l (defScope st))(len:∀as,pre as->as.length=l.length)
  (i:∀(f:Addr) (g:Value) (A:Around) (outer:List Env) (s:Shared) (H:Hp) (E:XK),Room k (A.deeper (envOfC x (defScope st) s.heap.objs.size f g)) -> ∃fs,PSs (cxOf CX0 P w K mg base N x (defScope st) f g A outer s H E).nox (defBody st) (ts K G ER0 fs)/\∀as,pre as->fs { nx:=λ_=>F as=.non,rt:=λp=>p=F as,rl:=λns=>F as=.ints ns } (kh N as)):Ok P w K mg base (k+1) x l (q8 K G pre F):=by
 refine lH.ok d S (λC H Q E h=>?_) λf g A outer s H C Q E B h=>?_
 .obtain⟨as,O,_,m,o,_⟩:=h;rw[<- m.length];exact len as o
 obtain⟨as,O,u,m,o,q⟩:=h;obtain⟨fs,b,c⟩:=i f g A outer s H E B;refine⟨_,b,⟨H,O⟩,kh N as,_,⟨O,nJ u m⟩,c as o,⟨λI j D r h=>?_,λv j p t y h=>?_,λa j ns t n e h=>?_,λ_ _ _ _ _ h=>h.elim,λ_ _ _ _ h=>h,λ_ _ _ _ h=>h,λ_ _ _ _ _ h=>h⟩⟩
 .obtain⟨J,r⟩:=r;exact q .non j r.same (by rw[show F as=.non from h];rfl)
 .have h:p=F as:=h;subst h;exact q v j t y
 .have h:F as=.ints ns:=h;refine q _ j t ?_;rw[h];exact⟨a,rfl,.inl (by
   rw[lZ]
   .exact e
   .cases z:O a with
    |false=>rfl
    |true=>exact absurd n (u a z))⟩
def Uk {x:Str}{st:Stmt}{N p:Ls}{k:Nat}{pre:List PV->Prop}{F:List PV->List Int}(d:lH K mg x st p)(S:FnScope N p (defScope st))(len:∀as,pre as->as.length=p.length)
  (i:∀(f:Addr) (g:Value) (A:Around) (outer:List Env) (s:Shared) (H:Hp) (E:XK),Room k (A.deeper (envOfC x (defScope st) s.heap.objs.size f g)) -> ∃fs,PSs (cxOf CX0 P w K mg base N x (defScope st) f g A outer s H E).nox (defBody st) (ts K G ER0 fs)/\∀as,pre as->fs { nx:=λ_=>False,rt:=λ_=>False,rl:=λns=>ns=F as } (kh N as)):Ok P w K mg base (k+1) x p (Qf K G pre F):=by
 refine lH.ok d S (λv H Q E h=>?_) λf g A outer s H v Q E r h=>?_
 .obtain⟨as,O,_,j,l,_⟩:=h;rw[<- j.length];exact len as l
 obtain⟨as,O,o,j,l,q⟩:=h;obtain⟨fs,b,c⟩:=i f g A outer s H E r;refine⟨_,b,⟨H,O⟩,kh N as,_,⟨O,nJ o j⟩,c as l,⟨λ_ _ _ _ h=>h.elim,λ_ _ _ _ _ h=>h.elim,λa m ns t n e h=>?_,λ_ _ _ _ _ h=>h.elim,λ_ _ _ _ h=>h,λ_ _ _ _ h=>h,λ_ _ _ _ _ h=>h⟩⟩;have h:ns=F as:=h;subst h;exact q a m t n e
end
def spM (pre:List Int->Prop)(F:List Int->List Int):Sp:=λv H Q _=>∃a n,v=[.ref a]/\H a=some (.lst (n.map V.int))/\pre n/\∀h,(∀b o,b≠a->H b=some o->h b=some o)->h a=some (.lst ((F n).map V.int))->Q .non h
def ZL (h:∀b o,b≠a->H b=some o->d b=some o)(e:d a=some o):Same (upd H a o) d:=pY λb u z=>by
 by_cases c:b=a
 .subst c;rw[upd_same]at z;cases z;exact e
 .rw[upd_ne c]at z;exact h b u c z
section
variable {X:Cx}{G:Gx}{E:ER}{e b:Expr}{pos p h d:Pos}{i j k:Nat}{x y:Str}{C f:En->Prop}{g gb:En->Int}
def t7 (i:Nat)(U:PE X b (jW X.K G f gb))(he:PE X e (jW X.K G C g))(Q:X.N[i]?=some x:=by rfl)(Z:Vis X.env.scope x:=by walk_at "v")
  (T:(x == ("__debug__":Str))=false:=by decide) (n:(x == ("__classdict__":Str))=false:=by decide)
  (S:∀v,assign (.Subscript (.Name x p) b m) X.env v=(do
   let ov <- holding [v] (eval (.Name x p) X.env)
   let iv <- holding [v,ov] (eval b X.env)
   standAt m
   holding [v,ov,iv] (setItem ov iv v)
   release [v,ov,iv] []):=by intro _;rfl)
  (Y:swapsWithSole [.Subscript (.Name x p) b m] e pos.line X.env=pure false:=by rfl) (hw:swappedStores [.Subscript (.Name x p) b m] e X.env=pure none:=by rfl)
  (N:(assignEach [.Subscript (.Name x p) b m] X.env).map (·.2)=[assign (.Subscript (.Name x p) b m) X.env]:=by rfl) :
  PS X (.Assign [.Subscript (.Name x p) b m] e pos) (ts X.K G E λP l=>C l/\isO l i/\f l/\(-((getL l i).length:Int)<=gb l/\gb l<((getL l i).length:Int))/\P.nx (l.set i (.ow (.ints ((getL l i).set (jR (getL l i).length (gb l)) (g l)))))):=
 toS (ps_asg he (pg_sub (pe_var Q Z T n) U set_list S) Y hw N) λB σ H l O P D R c w=>by obtain⟨F,o,I,q,J⟩:=c;refine⟨B,l,O,R,F,λv H1 s1 z=>?_⟩;subst z;have r:=R.grow s1;obtain⟨a,vs,s,e2,e3,L,M⟩:=r.ow i _ o;subst M;refine⟨_,s,B,l,O,r,I,λu H2 t A=>?_⟩;subst A;refine⟨a,_,_,_,rfl,rfl,t _ _ L,by rw[ae];exact Kg q.1 q.2,w.nx σ _ _ ⟨O,(r.grow t).change o s (p':=.ints _) ?_⟩ J⟩;show _=((getL l i).set _ _).map V.int;rw[iG]
def Nr (i:Nat)(o:Ok X.prog X.w X.K X.mg X.base j y ps (spM pre F))(Q:Room k X.A)(N:j<=k:=by decide)(M:Gl X y:=by rfl)
  (J:X.N[i]?=some x:=by rfl) (S:Vis X.env.scope x:=by walk_at "v") (L:(x == ("__debug__":Str))=false:=by decide) (m:(x == ("__classdict__":Str))=false:=by decide)
  (n:(y == ("__debug__":Str))=false:=by decide) (he:starEach (.Name x p::[]) X.env=(false,eval (.Name x p) X.env)::starEach [] X.env:=by rfl) (q:(backTo d (starEach [] X.env)).any (·.1)=false:=by rfl)
  (r:swapsWith (.Call (.Name y h) [.Name x p] [] d) none pos.line X.env=pure false:=by rfl) :
  PS X (.Expr (.Call (.Name y h) [.Name x p] [] d) pos) (ts X.K G E λP l=>isO l i/\pre (getL l i)/\P.nx (l.set i (.ow (.ints (F (getL l i)))))):=
 toS (ps_expr (vN o Q (pa_cons (pe_var J S L m) pa_nil he) N M n he q) r) λB Y H l O P D R c w=>by obtain⟨s,v,z⟩:=c;obtain⟨a,vs,t,Z,e3,A,I⟩:=R.ow i _ s;subst I;exact⟨_,t,a,_,rfl,A,v,λu T U=>w.nx Y u _ ⟨O,(R.change s t (p':=.ints _) rfl).grow (ZL T U)⟩ z⟩
end
def jy (cap:List (Option Nat))(a:En):En:=cap.map λo=>match o with
 |some i=>(match a[i]? with
  |some (.fr p)=>.fr p
  |_=>.un)
 |none=>.un
section
variable {K:Fg}{G:Gx}{B:Bs}{f:L2.St}{H d:Hp}{u:En}{O:Addr->Bool}{D:Addr}{cap:List (Option Nat)}
def Di (R:Rep K G B f d u O)(h:d D=none)(s:Same d H)(m:H D≠none):Rep K G ⟨d,O⟩ (lQ cap f) H (jy cap u) (hide D O):=by
 refine⟨s,R.dom,qj,λa z y=>?_,λa z=>?_,λj p e=>?_,λj p e=>?_,λi j p q a e=>?_,by unfold lQ jy;rw[ae,ae],λj xs r e=>?_⟩
 .by_cases c:a=D
  .subst c;exact m y
  .rw[hide_ne c]at z;exact R.dom a z (s.free y)
 .by_cases c:a=D
  .subst c;exact .inr h
  .rw[hide_ne c]at z;exact .inl z
 .unfold jy at e;rw[aE]at e;cases b:cap[j]? with
  |none=>rw[b]at e;cases e
  |some o=>
   rw[b]at e;cases o with
   |none=>cases e
   |some i=>
    have e:=aD e;dsimp only at e;split at e
    .rename_i n l;cases e;obtain⟨v,g,k⟩:=R.fr i p l;refine⟨v,?_,At.mono (lG s h) _ _ k⟩;unfold lQ;rw[aE,b];show some ((f[i]?).join)=some (some v);rw[g];rfl
    .cases e
 .exfalso;unfold jy at e;rw[aE]at e;cases b:cap[j]? with
  |none=>rw[b]at e;cases e
  |some o=>
   rw[b]at e;cases o with
   |none=>cases e
   |some i=>have e:=aD e;dsimp only at e;split at e<;>cases e
 .exfalso;unfold jy at e;rw[aE]at e;cases b:cap[i]? with
  |none=>rw[b]at e;cases e
  |some o=>
   rw[b]at e;cases o with
   |none=>cases e
   |some i=>have e:=aD e;dsimp only at e;split at e<;>cases e
 .exfalso;unfold jy at e;rw[aE]at e;cases b:cap[j]? with
  |none=>rw[b]at e;cases e
  |some o=>
   rw[b]at e;cases o with
   |none=>cases e
   |some i=>have e:=aD e;dsimp only at e;split at e<;>cases e
def lY:∀f:L2.St,xP f f
 |[]=>tT
 |none::r=>lY r
 |some _::r=>⟨rfl,lY r⟩
variable {n:Type}{J:It}{g:TG}{C:En->Prop}{gb:En->PV}{Q:VK}
def G5 {te:TE}(l:n->Prop)(a:List n)(s:n->V->L2.St)(h:n->En)(q:n->V)(R:Rep K G B f d u O)(S:d D=none)(hlen:a.length<=1000)(U:∀i H,i<a.length->Same d H->J.go i H)
  (L:∀i c x H j,a[i]?=some c->Same d H->J.yld i H x j -> Same H j/\∀k:L2.St->Hp->Prop,k (s c (q c)) j -> g x (lQ cap f) j k) (t:∀H,Same d H->J.stop a.length H)
  (I:∀c H,c∈a->Same d H->Rep K G ⟨d,O⟩ (lQ cap f) H (jy cap u) (hide D O)->Rep K G ⟨d,O⟩ (s c (q c)) H (h c) (hide D O)) (F:∀c,xP (lQ cap f) (s c (q c))) (hC:∀(c:n) (A:Hp) (Z:VK),c∈a->Same d A->Rep K G ⟨d,O⟩ (s c (q c)) A (h c) (hide D O)->(l c->∀v j,Same A j -> At K G (mn j (hide D O)) (gb (h c)) v->Z v j)->te (s c (q c)) A Z)
  (hQ:(∀c∈a,l c)->∀j y,Same d j -> j D=some (.lst y)->kI K G (mn j (hide D O)) (a.map λc=>gb (h c)) y->Q (.ref D) j) :
  ∃W:Nat->Nat->List V->Hp->Prop,(∃m,W 0 m [] (upd d D (.lst [])))/\lcW D J (lQ cap f) g qm te Q W:=by
 refine⟨λi m y H=>m=a.length-i/\i<=a.length/\Same d H/\H D=some (.lst y)/\kI K G (mn H (hide D O)) ((a.take i).map λc=>gb (h c)) y/\∀c∈a.take i,l c,⟨a.length,by simp,bA _,same_new S _,upd_same,rfl,λc z=>by rw[List.take_zero]at z;cases z⟩,?_⟩;rintro i m y H ⟨rfl,hi,r,T,M,P⟩;have hl:y.length=i:=by rw[<- M.length,ae,c9];lia
 refine⟨T,small1000 (by lia),?_⟩;by_cases p:i<a.length
 .refine .inr ⟨U i H p r,?_⟩;intro x j hy;have N:a[i]?=some a[i]:=aa p;obtain⟨w,kk⟩:=L i _ x H j N r hy;refine kk _ ⟨F _,?_⟩;refine iteT ?_;have E:=w _ _ T;have R2:=I a[i] j (bI p) (r.trans w) (Di R S (r.trans w) (by rw[E];exact λz=>by cases z));refine hC _ _ _ (bI p) (r.trans w) R2 λgi v A Y a2=>⟨Y _ _ E,a.length-(i+1),by lia,rfl,p,?_,upd_same,?_,λc z=>?_⟩
  .intro b o z;rw[upd_ne (ne_of_none z S)];exact((r.trans w).trans Y) b o z
  .rw[Fi hide_self,wk N,cY];exact kI.snoc (kI.mono (j7 (w.trans Y)) _ _ M) a2
  .rw[wk N]at z;rcases aZ.mp z with z|z
   .exact P c z
   .rw[ap.mp z];exact gi
 .have e:i=a.length:=by lia
  subst e;rw[gL]at M P;refine .inl ⟨t H r,hQ P H y r T ?_⟩;exact M
def ug (a:List n)(s:n->V->L2.St)(c:n->En)(v:n->V)(R:Rep K G B f d u O)(w:d D=none)(l:a.length<=1000)(q:∀i H,i<a.length->Same d H->J.go i H)
  (p:∀i b x H h,a[i]?=some b->Same d H->J.yld i H x h -> Same H h/\∀k:L2.St->Hp->Prop,k (s b (v b)) h -> g x (lQ cap f) h k) (e:∀H,Same d H->J.stop a.length H)
  (o:∀b H,b∈a->Same d H->Rep K G ⟨d,O⟩ (lQ cap f) H (jy cap u) (hide D O)->Rep K G ⟨d,O⟩ (s b (v b)) H (c b) (hide D O)) (j:∀b,xP (lQ cap f) (s b (v b))) (t:∀b∈a,C (c b))
  (z:∀h y,Same d h -> h D=some (.lst y)->kI K G (mn h (hide D O)) (a.map λb=>gb (c b)) y->Q (.ref D) h) :
  ∃W:Nat->Nat->List V->Hp->Prop,(∃m,W 0 m [] (upd d D (.lst [])))/\lcW D J (lQ cap f) g qm (tX K G C gb) Q W:=
 G5 (λ_=>True) a s c v R w l q p e o j (λb E F A _ r k=>⟨_,_,_,r,t b A,k tT⟩) λ_=>z
def zT:∀{l:List n} {y:List V},kI K G H (l.map λx=>.int (gi x)) y->y=(l.map gi).map V.int
 |[],_,h=>h
 |x::r,_,h=>by obtain⟨v,t,rfl,e,q⟩:=h;rw[e,zT q];rfl
end
section
variable {K:Fg}{G:Gx}{b:L2.St}{H:Hp}{Q:VK}{j f:En->Prop}{g:En->List Int}{gi:En->Int}{d:En->PV}{cap:List (Option Nat)}
def aci (h:yZ K G (λc=>j c/\(g c).length<=1000/\∀n∈g c,f ((jy (none::cap) c).set 0 (.fr (.int n)))) (λc=>(g c).map λn=>d ((jy (none::cap) c).set 0 (.fr (.int n)))) b H Q) :
  QS (none::cap) (iList K (Oa K G j g)) (gName 0) qm (tX K G f d) b H Q:=by
 obtain⟨B,c,O,R,⟨z,A,C⟩,q⟩:=h;refine⟨B,c,O,R,z,λv t l w=>?_⟩;obtain⟨a,rfl,L⟩:=w;have e:SqL K t a ((g c).map V.int):=.inl (jh jx L);refine⟨a,rfl,⟨_,e⟩,λD r=>?_⟩;refine ug (g c) (λ_ v=>(lQ (none::cap) b).set 0 (some v)) (λn=>(jy (none::cap) c).set 0 (.fr (.int n))) V.int (R.grow l) r A (λi H F s=>⟨_,.int (g c)[i],s.seq e,by simp[F]⟩) ?_ (λH s=>⟨_,s.seq e,by simp⟩) (λn H _ s u=>u.set (p:=.int n) rfl) ?_ C ?_
 .rintro i n x H m o s ⟨rfl,M⟩;obtain⟨P,rfl,J⟩:=int_at (M _ (s.seq e));rw[J]at o;cases o;exact⟨Same.refl _,λk I=>I⟩
 .intro n;exact lY _
 .intro m N s E y;exact q D N m (l.trans s) (l.free r) E y
def ad0 (h:yZ K G (λc=>j c/\(g c).length<=1000/\∀k:Nat,∀n,(g c)[k]?=some n->f (((jy (none::none::cap) c).set 0 (.fr (.int k))).set 1 (.fr (.int n)))) (λc=>(g c).mapIdx λk n=>d (((jy (none::none::cap) c).set 0 (.fr (.int k))).set 1 (.fr (.int n)))) b H Q) :
  QS (none::none::cap) (Ug K (tCons (Oa K G j g) tNil)) (gTup K 2 (gCons (gName 0) (gCons (gName 1) gNil))) qm (tX K G f d) b H Q:=by
 obtain⟨B,c,O,R,⟨I,J,L⟩,q⟩:=h;refine⟨B,c,O,R,I,λv A t E=>?_⟩;obtain⟨a,rfl,S⟩:=E;have l:SqL K A a ((g c).map V.int):=.inl (jh jx S);refine⟨a,rfl,⟨_,l⟩,λD w=>?_⟩;have r:((g c).zipIdx).length=(g c).length:=List.length_zipIdx;refine ug ((g c).zipIdx) (λp _=>((lQ (none::none::cap) b).set 0 (some (.int p.2))).set 1 (some (.int p.1))) (λp=>((jy (none::none::cap) c).set 0 (.fr (.int p.2))).set 1 (.fr (.int p.1))) (λp=>.int p.1) (R.grow t) w (by rw[r];exact J)
  (λi H o s=>⟨_,.int ((g c)[i]'(by rw[r]at o;exact o)),s.seq l,by rw[r]at o;simp[o]⟩) ?_ (λH s=>⟨_,s.seq l,by simp⟩) (λp H _ s C=>(C.set (p:=.int p.2) rfl).set (p:=.int p.1) rfl) ?_ ?_ ?_
 .rintro i ⟨n,k⟩ x H u m s ⟨T,y,rfl,M,rfl,U⟩;obtain⟨Y,rfl,P⟩:=int_at (U _ (s.seq l));rw[hU,P]at m;have m:(Y,0+i)=(n,k):=aD m;cases m;refine⟨same_new M _,λkk z=>⟨T,_,rfl,SqT.of upd_same,rfl,_,_,rfl,_,_,rfl,rfl,?_⟩⟩;rw[Nat.zero_add]at z;exact z
 .rintro⟨n,k⟩;exact lY _
 .rintro⟨n,k⟩ hm;have:=List.mem_zipIdx_iff_getElem?.mp hm;exact L k n this
 .intro u Z s N F;refine q D Z u (t.trans s) (t.free w) N ?_;have e:((g c).mapIdx λk n=>d (((jy (none::none::cap) c).set 0 (.fr (.int k))).set 1 (.fr (.int n))))=(g c).zipIdx.map λp=>d (((jy (none::none::cap) c).set 0 (.fr (.int p.2))).set 1 (.fr (.int p.1))):=by rw[dI]
  dsimp only;rw[e];exact F
def adV (h:yZ K G (λa=>j a/\(0<=c a/\c a<=1000)/\∀k:Nat,k<(c a).toNat->f ((jy (none::cap) a).set 0 (.fr (.int k)))) (λa=>(List.range (c a).toNat).map λ(k:Nat)=>d ((jy (none::cap) a).set 0 (.fr (.int k)))) b H Q) :
  QS (none::cap) (iRng1 (tCons (jW K G j c) tNil)) (gName 0) qm (tX K G f d) b H Q:=by
 obtain⟨B,a,O,R,⟨C,L,E⟩,q⟩:=h;refine⟨B,a,O,R,C,λv J r z=>?_⟩;subst z;have l:(List.range (c a).toNat).length=(c a).toNat:=aU;refine⟨c a,rfl,by lia,by lia,λD u=>?_⟩;refine ug (List.range (c a).toNat) (λ_ v=>(lQ (none::cap) b).set 0 (some v)) (λ(k:Nat)=>(jy (none::cap) a).set 0 (.fr (.int k))) (λ(k:Nat)=>.int k) (R.grow r) u (by rw[l];lia) (λi H w s=>by rw[l]at w;exact w) ?_ (λH s=>by rw[l];exact aB _) (λk H _ s y=>y.set (p:=.int k) rfl) ?_ ?_ ?_
 .rintro i k x H t m s ⟨rfl,rfl⟩;have o:i<(c a).toNat:=by have:=(aC.mp m).1;rw[l]at this;exact this
  rw[cG o]at m;cases m;refine⟨Same.refl _,λM n=>?_⟩;have e:(0:Int)+(i:Nat)=i:=by lia
  rw[e];exact n
 .intro k;exact lY _
 .intro k n;exact E k (bw.mp n)
 .intro t I s F A;exact q D I t (r.trans s) (r.free u) F A
def Vi {C:En->Prop}{l:Type}{k:En->List l}{gi:En->l->Int}(h:Hw K G C (λi=>(k i).map (gi i)) b H Q):yZ K G C (λi=>(k i).map λx=>.int (gi i x)) b H Q:=by obtain⟨B,i,O,R,c,q⟩:=h;refine⟨B,i,O,R,c,λa v m s n e o=>q a m s n ?_⟩;rw[e,zT o]
def XF {C:En->Prop}{l:En->List Int}{gi:En->Nat->Int->Int}(h:Hw K G C (λi=>(l i).mapIdx (gi i)) b H Q):yZ K G C (λi=>(l i).mapIdx λk x=>.int (gi i k x)) b H Q:=by obtain⟨B,i,O,R,c,q⟩:=h;refine⟨B,i,O,R,c,λa v o s n e m=>q a o s n ?_⟩;dsimp only at m ⊢;rw[dI]at m;rw[e,zT (gi:=λp:Int×Nat=>gi i p.2 p.1) m,dI]
end
section
variable {X:Cx}{G:Gx}{E:ER}{N':List Str}{sc:Scope}{cl:List (Str×Addr)}{cap:List (Option Nat)}{e T S:Expr}{A d l:Pos}{j f:En->Prop}{b:En->List Int}{m gi:En->Int}{o:En->PV}{i:Nat}{x:Str}
def Ao (L:uB X N' sc cl (none::cap))(c:X.calm=true)(k:PE X S (Oa X.K G j b))(g:∀s H fp,PG (jC X N' sc cl s H fp) T (gName 0))(he:∀s H fp,PE (jC X N' sc cl s H fp) e (jW X.K G f gi))(q:∀x,foldedSetIterable S X.env x=pure x:=by intro _;rfl) :
  PE X (.ListComp e [⟨T,S,[],0⟩] sc A) (Hw X.K G (λa=>j a/\(b a).length<=1000/\∀n∈b a,f ((jy (none::cap) a).set 0 (.fr (.int n)))) λa=>(b a).map λn=>gi ((jy (none::cap) a).set 0 (.fr (.int n)))):=
 λp s r H Q I h=>Ab L c (pi_list k) g (λ_ _ _=>oU) he q p s r H Q I (aci (Vi h))
def Zq (L:uB X N' sc cl (none::none::cap))(t:X.calm=true)(r:Gl X "enumerate")(w:X.mg "enumerate"=none)(v:PE X S (Oa X.K G j b))
  (u:∀s H fp,PG (jC X N' sc cl s H fp) (.Tuple els kk tp) (gTup X.K 2 (gCons (gName 0) (gCons (gName 1) gNil)))) (he:∀s H fp,PE (jC X N' sc cl s H fp) e (jW X.K G f gi)) (c:starEach [S] X.env=[(false,eval S X.env)]:=by rfl)
  (y:∀x,foldedSetIterable (.Call (.Name "enumerate" p) [S] [] q) X.env x=pure x:=by intro _;rfl) :
  PE X (.ListComp e [⟨.Tuple els kk tp,.Call (.Name "enumerate" p) [S] [] q,[],0⟩] sc A) (Hw X.K G (λa=>j a/\(b a).length<=1000/\∀k:Nat,∀n,(b a)[k]?=some n->f (((jy (none::none::cap) a).set 0 (.fr (.int k))).set 1 (.fr (.int n)))) λa=>(b a).mapIdx λk n=>gi (((jy (none::none::cap) a).set 0 (.fr (.int k))).set 1 (.fr (.int n)))):=
 λg s z H Q I h=>Ab L t (Ff r w (pa_cons v pa_nil c) c) u (λ_ _ _=>oU) he y g s z H Q I (ad0 (XF h))
def aaB {t:TE}{st:Stmt}{C:En->Prop}{g:En->List Int}(h:PS X st (tAsg t (gName i)))(k:∀q H Q,Hw X.K G C g q H Q->t q H Q):PS X st (ts X.K G E λP n=>C n/\∀ns,ns=g n->P.nx (n.set i (.ow (.ints ns)))):=
 toS h λB q H n O P D R c w=>k q H _ ⟨B,n,O,R,c.1,λa r v u s=>w.nx _ r _ ⟨hide a O,R.new (p:=.ints (g n)) v u s rfl⟩ (c.2 _ rfl)⟩
def Ye (k:X.N.Nodup)(c:X.N[i]?=some x)(u:X.env.scope.names.lookup x=some .local)(L:uB X N' sc cl (none::cap))(p:X.calm=true)(r:PE X S (Oa X.K G j b))(q:∀s H fp,PG (jC X N' sc cl s H fp) T (gName 0))(he:∀s H fp,PE (jC X N' sc cl s H fp) e (jW X.K G f gi))
  (g:swapsWith (.ListComp e [⟨T,S,[],0⟩] sc A) (some (.Name x l)) d.line X.env=pure true) (t:∀x,foldedSetIterable S X.env x=pure x:=by intro _;rfl) :
  PS X (.Assign [.Name x l] (.ListComp e [⟨T,S,[],0⟩] sc A) d) (ts X.K G E λP a=>(j a/\(b a).length<=1000/\∀n∈b a,f ((jy (none::cap) a).set 0 (.fr (.int n))))/\∀ns,ns=((b a).map λn=>gi ((jy (none::cap) a).set 0 (.fr (.int n))))->P.nx (a.set i (.ow (.ints ns)))):=
 aaB (Uy k c u L p (pi_list r) q (λ_ _ _=>oU) he g t) λv H Q h=>aci (Vi h)
end
def iZ {k:En->Prop}(h:a=ρ')(q:k ρ'):k a:=by rw[h];exact q
def tyP:PV->Option Value
 | .int _=>some (.type "int")
 | .bl _=>some (.type "bool")
 | .non=>some (.type "NoneType")
 | .str _=>some (.type "str")
 | .ints _=>some (.type "list")
 | .lst _=>some (.type "list")
 | .tup _=>some (.type "tuple")
 |_=>none
def Lp:PV->Option Value
 | .ty n=>some (.type n)
 | .cls a=>some (.ref a)
 |_=>none
def At.ty {K:Fg}{G:Gx}{H:Hp}{p:PV}{v:V}{t:Value}(h:At K G H p v)(e:tyP p=some t):TyOf K H v t:=by
 cases p<;>first|cases e|skip
 .cases (show v=_ from h);exact .int _
 .cases (show v=_ from h);exact .bl _
 .cases (show v=_ from h);exact .non
 .cases (show v=_ from h);exact .str _
 .obtain⟨a,rfl,r|⟨o,r⟩⟩:=h
  .exact .lst r
  .exact .frz r
 .obtain⟨a,b,rfl,r|⟨o,r⟩,_⟩:=h
  .exact .lst r
  .exact .frz r
 .obtain⟨a,b,rfl,r,_⟩:=h;exact .tup r
def At.cls {K:Fg}{G:Gx}{H:Hp}{p:PV}{v:V}{t:Value}(h:At K G H p v)(e:Lp p=some t):JX v=some t:=by
 cases p<;>first|cases e|skip
 .cases (show v=_ from h);rfl
 .cases (show v=_ from h);rfl
def vZ (K:Fg)(p c:PV):Bool:=match tyP p,Lp c with
 |some t,some cv=>W.kitOne K t cv == some true
 |_,_=>false
def Zg (K:Fg)(p c:PV):Prop:=∃t a b,tyP p=some t/\Lp c=some a/\W.kitOne K t a=some b
def Ai {K:Fg}{p c:PV}{t a:Value}{b:Bool}(d:tyP p=some t)(e:Lp c=some a)(h:W.kitOne K t a=some b):vZ K p c=b:=by unfold vZ;rw[d,e];show(W.kitOne K t a == some true)=b;rw[h];cases b<;>rfl
def TyOf.up {K:Fg}{H g:Hp}{v:V}{t:Value}(s:Same H g)(h:TyOf K H v t):TyOf K g v t:=by
 cases h with
 |non=>exact .non
 |bl x=>exact .bl x
 |int x=>exact .int x
 |str x=>exact .str x
 |flt x=>exact .flt x
 |lst e=>exact .lst (s _ _ e)
 |frz e=>exact .frz (s _ _ e)
 |tup e=>exact .tup (s _ _ e)
 |dK e=>exact .dK (s _ _ e)
 |dT e=>exact .dT (s _ _ e)
 |ins e a b c d f=>exact .ins (s _ _ e) a b c d f
def Ea (E:X.mg "isinstance"=none)(y:PE X a (tX X.K G C g))(A:PE X c (tX X.K G n e))(D:Gl X "isinstance":=by rfl)(he:starEach [a,c] X.env=(false,eval a X.env)::starEach [c] X.env:=by rfl)(h:starEach [c] X.env=[(false,eval c X.env)]:=by rfl)(i:(backTo pos (starEach [c] X.env)).any (·.1)=false:=by rfl) :
  PE X (.Call (.Name "isinstance" p) [a,c] [] pos) (GF X.K G (λd=>C d/\n d/\Zg X.K (g d) (e d)) λd=>vZ X.K (g d) (e d)=true):=
 mD (pe_callB yr D E uM (pa_cons y (pa_cons A pa_nil h) he) (by decide) (by decide) he i) λB I H d O Q R f q=>⟨B,d,O,R,f.1,λv F s r=>⟨B,d,O,R.grow s,f.2.1,λu o m w=>by
  obtain⟨t,x,b,j,k,l⟩:=f.2.2;refine⟨v,u,t,x,b,rfl,w.cls k,TyOf.up (jx.trans m) (r.ty j),l,q _ o (s.trans m) ?_⟩;have z:vZ X.K (g d) (e d)=b:=Ai j k l;show V.bl b=V.bl (decide (vZ X.K (g d) (e d)=true));rw[z,cj]⟩⟩
def RM (g:X.mg "abs"=none)(e:PE X a (jW X.K G C gi))(f:Gl X "abs":=by rfl)(he:starEach [a] X.env=[(false,eval a X.env)]:=by rfl):PE X (.Call (.Name "abs" p) [a] [] pos) (jW X.K G C λb=>if gi b<0 then -gi b else gi b):=
 mD (pe_callB call_abs f g aa6 (pa_cons e pa_nil he) (by decide) (by decide) he rfl) λB i H b O Q R c q=>⟨B,b,O,R,c,λv h s d=>by
  subst d;exact⟨_,rfl,q _ h s rfl⟩⟩
def RZ (h:X.calm=true)(r:X.mg "min"=none)(m:PE X a (jW X.K G C gi))(n:PE X b (jW X.K G i g))(o:Gl X "min":=by rfl)(he:starEach [a,b] X.env=(false,eval a X.env)::starEach [b] X.env:=by rfl)(e:starEach [b] X.env=[(false,eval b X.env)]:=by rfl)(f:(backTo pos (starEach [b] X.env)).any (·.1)=false:=by rfl) :
  PE X (.Call (.Name "min" p) [a,b] [] pos) (jW X.K G (λd=>C d/\i d) λd=>if g d<gi d then g d else gi d):=
 mD (pe_callB (call_min2 h) o r aaH (pa_cons m (pa_cons n pa_nil e) he) (by decide) (by decide) he f) λB x H d O Q R c q=>⟨B,d,O,R,c.1,λv w s k=>⟨B,d,O,R.grow s,c.2,λu j t l=>by
  subst k l;exact⟨_,_,rfl,q _ j (s.trans t) rfl⟩⟩⟩
abbrev XR (K:Fg)(G:Gx)(pre:List PV->Prop)(F:List PV->Int):Sp:=q8 K G pre λa=>.int (F a)
abbrev Ov (K:Fg)(G:Gx)(pre:List PV->Prop)(F:List PV->Bool):Sp:=q8 K G pre λa=>.bl (F a)
abbrev aaq (K:Fg)(G:Gx)(pre:List PV->Prop)(F:List PV->List Int):Sp:=q8 K G pre λa=>.ints (F a)
def xcL (o:Ok X.prog X.w X.K X.mg X.base j x m (aaq X.K G pre F))(l:Room k X.A)(d:PA X (e::a) (z8 X.K G C g))(i:j<=k:=by decide)(f:Gl X x:=by rfl)(h:(x == ("__debug__":Str))=false:=by decide)
  (he:starEach (e::a) X.env=(false,eval e X.env)::starEach a X.env:=by rfl) (c:(backTo pos (starEach a X.env)).any (·.1)=false:=by rfl) :
  PE X (.Call (.Name x p) (e::a) [] pos) (Oa X.K G (λb=>C b/\pre (g b)) λb=>F (g b)):=xc o l d i f h he c
def xci (o:Ok X.prog X.w X.K X.mg X.base j x m (XR X.K G pre F))(l:Room k X.A)(d:PA X (e::a) (z8 X.K G C g))(i:j<=k:=by decide)(f:Gl X x:=by rfl)(h:(x == ("__debug__":Str))=false:=by decide)
  (he:starEach (e::a) X.env=(false,eval e X.env)::starEach a X.env:=by rfl) (c:(backTo pos (starEach a X.env)).any (·.1)=false:=by rfl) :
  PE X (.Call (.Name x p) (e::a) [] pos) (jW X.K G (λb=>C b/\pre (g b)) λb=>F (g b)):=xc o l d i f h he c
def xcb (o:Ok X.prog X.w X.K X.mg X.base j x t (Ov X.K G pre F))(r:Room k X.A)(l:PA X (e::d) (z8 X.K G C g))(n:j<=k:=by decide)(m:Gl X x:=by rfl)(h:(x == ("__debug__":Str))=false:=by decide)
  (he:starEach (e::d) X.env=(false,eval e X.env)::starEach d X.env:=by rfl) (f:(backTo pos (starEach d X.env)).any (·.1)=false:=by rfl) :
  PE X (.Call (.Name x p) (e::d) [] pos) (GF X.K G (λb=>C b/\pre (g b)) λb=>F (g b)=true):=
 mD (xc o r l n m h he f) λB u H b O Q R c q=>⟨B,b,O,R,c,λv i s a=>q v i s (by dsimp only;rw[cj];exact a)⟩
def JZ (a:En)(i:Nat):Int:=match a[i]? with
 |some (.fr (.ob 0 z))=>z
 |_=>0
def isK (a:En)(i:Nat):Prop:=a[i]?=some (.fr (.ob 0 (JZ a i)))
def wM {l:Hp->Addr->Int->Prop}{p:Int->List Int->Prop}{F:Int->List Int->Int}{pl:Sem Bool}(i:Nat)(M:KM X.prog X.w X.K X.mg X.base j l m n p F)(hr:Room k X.A)(ha:PA X (e::d) (z8 X.K G C g))(hn:∀b,(g b).length=n:=by intro _;rfl)(hG:∀H a z,G.ob 0 H a z->l H a z:=by first|exact λ_ _ _ h=>h.2|exact λ_ _ _ h=>h.elim (λz=>z.2) λz=>absurd z.1 (by decide))(o:∀{H A:Hp} {a:Addr} {z:Int},l H a z->Same H A -> l A a z:=by first|exact λh s=>KAt.same h s|exact λh s=>h.same s)(hj:j<=k:=by decide)
  (hN:X.N[i]?=some x:=by rfl) (hv:Vis X.env.scope x:=by walk_at "v") (hd:(x == ("__debug__":Str))=false:=by decide) (u:(x == ("__classdict__":Str))=false:=by decide)
  (y:starEach (e::d) X.env=(false,eval e X.env)::starEach d X.env:=by rfl) (w:(backTo pos (starEach d X.env)).any (·.1)=false:=by rfl)
  (ht:eval (.Call (.Attribute (.Name x E) m c) (e::d) [] pos) X.env=(do
   let ov <- eval (.Name x E) X.env
   standAt c.atName
   let (f,first) <- holding [ov] (getMethod ov m pl)
   callWith pos f first (backTo pos (starEach (e::d) X.env)) (backToKw pos (keywordEach [] X.env))):=by rfl) :
  PE X (.Call (.Attribute (.Name x E) m c) (e::d) [] pos) (jW X.K G (λb=>isK b i/\C b/\Cw (g b)/\p (JZ b i) (nZ (g b))) λb=>F (JZ b i) (nZ (g b))):=by
 rintro t s σ H Q I ⟨B,b,O,R,⟨T,U,Y,Z⟩,q⟩;obtain⟨v,e1,a,rfl,ka⟩:=R.fr i _ T;have r:l H a (JZ b i):=o (hG _ _ _ ka) jx;obtain⟨Cl,dx,fs,ps,f1,f2,P⟩:=M.ex H a _ r;obtain⟨f,fd,L,S,mm,cc⟩:=P.ex;refine pe_meth (pe_var hN hv hd u) cc mm (L.mono hj) hr S .nil pass0 ha y w ht t s σ H Q I ⟨_,e1,a,dx,fs,rfl,f1,f2,B,b,O,R,U,λvs N J D=>?_⟩;have ev:=D.ints Y;have el:(nZ (g b)).length=n:=by rw[<- hn b,D.length,ev,ae]
 exact⟨nZ (g b),el,by rw[aV,ev],o r J,Z,q _ N J rfl⟩
def Ag:∀{as:List PV},Cw as->(nZ as).length=as.length
 |[],_=>rfl
 |p::r,h=>by
  cases p<;>first|exact h.elim|skip
  show(nZ r).length+1=r.length+1;rw[Ag (as:=r) h]
section
variable {P:Program}{w:World}{K:Fg}{mg:Mg}{base:Heap}{G:Gx}{k n:Nat}{x:Str}{p:List Str}
def acA (o:Ok P w K mg base k x p (spB n pre F)):Ok P w K mg base k x p (Ov K G (λas=>Cw as/\as.length=n/\pre (nZ as)) λas=>F (nZ as)):=
 o.imp λv H Q E ⟨as,O,_,a,⟨h,b,c⟩,q⟩=>⟨nZ as,by rw[Ag h,b],a.ints h,c,q _ H (Same.refl H) rfl⟩
def ac7:List PV->List Int
 | .scr ns::_=>ns
 |_=>[]
def abt (n:Nat)(pre:List Int->List Int->Prop):List PV->Prop
 | .scr ns::r=>Cw r/\r.length=n/\pre ns (nZ r)
 |_=>False
def acY (o:Ok P w K mg base k x p (spS K n pre F)):Ok P w K mg base k x p (XR K G (abt n pre) λas=>F (ac7 as) (nZ as.tail)):=
 o.imp λe H Q E ⟨as,O,_,b,h,q⟩=>by
  match as,h,b,q with
  | .scr ns::r,⟨h1,h2,h3⟩,b,q=>obtain⟨v,t,rfl,⟨a,rfl,d⟩,c⟩:=b;exact⟨a,ns,nZ r,by rw[Ag h1,h2],by rw[c.ints h1],jx.seq d,h3,q _ H (Same.refl H) rfl⟩
end
def G3:PGet X (rIxL X.K):=by
 rintro a s C H x y v u Q I A B ⟨p,xs,i,z,rfl,rfl,o,m,q⟩;cases A;obtain⟨t,rfl⟩:=B;obtain⟨d,r,pl,F⟩:=I.list o;obtain⟨j,b,g,D,k,l⟩:=atI_get m;obtain⟨w,f,e⟩:=r.get g;have n:=r.length;have E:=line63;have fin:EP X a C Q w s:=⟨z,H,I,e,q⟩;by_cases h0:0<=i
 .have c:i.toNat=j:=by rw[iu h0 l]at b;exact aD b
  exact wpAny_getItem_list pl.isList h0 (by lia) (by rw[c];simpa using f) fin
 .have c:(i+(d.toArray.size:Int)).toNat=j:=by rw[gT (by lia) k]at b;rw[aq,<- n];exact aD b
  exact wpAny_getItem_list_neg pl.isList (by lia) (by rw[aq]<;>lia) (by lia) (by rw[c];simpa using f) fin
def Ox (i:Nat){op:Operator}{p:Int->Int->Prop}{h:Int->Int->Int}(Q:PE X b (jW X.K G t gb))(he:PE X e (jW X.K G C g))(S:OpR X (inplaceOp op) (rI p λi j=>.int (h i j)))(L:X.N[i]?=some x:=by rfl)(T:Vis X.env.scope x:=by walk_at "v")
  (N:(x == ("__debug__":Str))=false:=by decide) (l:(x == ("__classdict__":Str))=false:=by decide)
  (M:∀o k new,augStore b o k new=(do holding [new,o,k] (setItem o k new);release [new,o,k] [];pure .next):=by intros;rfl) :
  PS X (.AugAssign (.Subscript (.Name x px) b ps) op e pos) (ts X.K G Y λP d=>isO d i/\t d/\(-((getL d i).length:Int)<=gb d/\gb d<((getL d i).length:Int))/\C d/\p ((getL d i).getD (jR (getL d i).length (gb d)) 0) (g d) /\ P.nx (d.set i (.ow (.ints ((getL d i).set (jR (getL d i).length (gb d)) (h ((getL d i).getD (jR (getL d i).length (gb d)) 0) (g d))))))):=
 toS (ps_augS (pe_var L T N l) Q G3 he S set_list M) λB U H d O P D R c w=>by obtain⟨m,A,f,E,I,F⟩:=c;obtain⟨a,vs,n,e2,e3,q,J⟩:=R.ow i _ m;subst J;refine⟨_,n,B,d,O,R,A,λu Z s y=>?_⟩;subst y;refine⟨a,_,_,_,rfl,rfl,SqL.of (s _ _ q),getD_at f.1 f.2,B,d,O,R.grow s,E,λv H2 r z=>?_⟩;subst z;refine⟨_,_,rfl,rfl,I,a,_,_,_,rfl,rfl,r _ _ (s _ _ q),by rw[ae];exact Kg f.1 f.2,w.nx U _ _ ⟨O,((R.grow s).grow r).change m n (p':=.ints _) ?_⟩ F⟩;show _=((getL d i).set _ _).map V.int;rw[iG];rfl
end L3
namespace L3
open PySem PyProof.Rows L2 FM
def Tr (xs:Li)(l h:Option Int):(Hn xs l h).length<=xs.length:=by unfold Hn;rw[c9,eW];lia
def QG (xs:Li)(a:Nat):Hn xs (some (a:Int)) none=xs.drop a:=by
 unfold Hn;rw[HT.sIx_nat,HT.sIx_none];by_cases h:a<=xs.length
 .rw[Nat.min_eq_left h,eh (by rw[eW];lia)]
 .rw[Nat.min_eq_right (by lia),gR (aB _),gR (by lia),List.take_nil]
def T8 {z a:Int}{B:Nat}(d:0<=z)(c:z<(B:Int))(b:a.natAbs<B):(pl z a).natAbs<B:=by
 by_cases h:z=0
 .subst h;exact b
 .have:=acL (z:=z) (n:=a) (by lia);lia
end L3
namespace L2
open PySem PySem.Spec PyProof.Rows
def rF {a:Type}(xs:List a)(l h st:Option Int):List a:=(sliceRange (sliceBounds l h st xs.length).1 (sliceBounds l h st xs.length).2.1 (sliceBounds l h st xs.length).2.2).filterMap λk=>xs[k]?
def xW (r:Vals xs its):∀l:List Nat,Vals (l.filterMap λk=>xs[k]?) (l.filterMap λk=>its[k]?)
 |[]=>.nil
 |k::l=>by
  rw[a9,a9];cases e:xs[k]? with
  |none=>rw[r.none_of e];exact xW r l
  |some x=>obtain⟨u,a,b⟩:=r.get e;rw[a];exact .cons b (xW r l)
def Ua (xs:List α)(b a st:Option Int):(rF xs b a st).length<=xs.length:=by
 unfold rF;have h:=slicePick_size_le (xs.map λ_=>Value.none).toArray b a st;unfold slicePick at h;rw[aq,aq,ae]at h;refine aG (iE ?_) h;generalize sliceRange _ _ _=l
 induction l with
 |nil=>rfl
 |cons k l i=>
  rw[a9,a9,eO,aE];cases xs[k]? with
  |none=>exact i
  |some x=>simp only[dY,bR,i]
def Uw (f:α->β)(xs:List α)(a h st:Option Int):rF (xs.map f) a h st=(rF xs a h st).map f:=by
 unfold rF;rw[ae];generalize sliceRange _ _ _=l
 induction l with
 |nil=>rfl
 |cons k l i=>
  rw[a9,a9,aE];cases xs[k]? with
  |none=>exact i
  |some x=>simp only[dY,bT,i]
section
variable {e st:Expr}{L c:Option Expr}
def ad5 (K:Fg)(t:TE)(j i m:TO):TE:=λb H Q=>t b H λx d=>j b d λl f=>i b f λu g=>m b g λk h=>∃a xs,x=.ref a/\SqL K h a xs/\k≠some 0/\∀p,h p=none->Q (.ref p) (upd h p (.lst (rF xs l u k)))
def O6 (he:PE X e te)(hl:PO X L tl)(G:PO X c th)(F:PO X (some st) tt):PE X (.Subscript e (.Slice L c (some st) p2) pos) (ad5 X.K te tl th tt):=by
 intro p s m H Q I h;refine Subscript_ (thn (he p s m H _ I h) λv Y ⟨x,t,A,U,P⟩=>?_);refine wpAny_Slice (thn (hl p Y m t _ A P) λvl Z ⟨l,w,B,pl,R⟩=>thn (G p Z m w _ B R) λvu s3 ⟨u,y,C,O,S⟩=>thn (F p s3 m y _ C S) λvs g ⟨k,z,D,N,T⟩=>?_);obtain⟨a,xs,rfl,J,h0,q⟩:=T;cases U;have n:Inv X p m z { g with heap:=g.heap.push { cls:=.type "slice",data:=.fields #[vl,vu,vs] } }:=D.kept (t':=g.toks) λb ob q=>af _ q;obtain⟨i,r,f,M⟩:=n.list J;have d:=r.length;refine tail_any (ops:=[.ref a,.ref g.heap.objs.size]) f.isList.typeIs slot_list_getitem.lookup ?_ (by with_unfolding_all rfl);refine wpAny_getItem_list_slice f.isList (Heap.IsSliceOf.new ..) pl O N h0 ?_ (by rw[aq]<;>lia);have E:slicePick i.toArray l u k=(rF i l u k).toArray:=by unfold slicePick rF;rw[aq];congr 1;congr 1;funext j;exact eO
 rw[E];refine⟨.ref _,_,n.laid (t':=g.toks) (o:=.lst (rF xs l u k)) (λb ob q=>af _ q) (aB _) ?_,rfl,q _ (n.hok.fresh (aB _))⟩;refine⟨aG (Ua xs l u k) M,_,0,?_,aP _ rfl⟩;unfold rF;rw[<- d];exact xW r _
end
end L2
namespace L3
open PySem PySem.Spec PyProof.Rows L2
def Ql {st:Expr}{x w:Option Expr}{g:En->PV}{ns:En->List Int}{n m o:En->Prop}{u t i:En->Option Int}(A:PE X a (tX X.K G C g))(hl:PO X x (Xz X.K G n u))(D:PO X w (Xz X.K G m t))(F:PO X (some st) (Xz X.K G o i))(E:∀b,C b->g b=.ints (ns b)\/g b=.scr (ns b)) :
  PE X (.Subscript a (.Slice x w (some st) M) pos) (Hw X.K G (λb=>C b/\n b/\m b/\o b/\i b≠some 0) λb=>rF (ns b) (u b) (t b) (i b)):=
 Kw (O6 A hl D F) λB N H b O Q R c q=>⟨B,b,O,R,c.1,λv y s f=>⟨B,b,O,R.grow s,c.2.1,λI d=>⟨B,b,O,(R.grow s).grow d,c.2.2.1,λJ h=>⟨B,b,O,((R.grow s).grow d).grow h,c.2.2.2.1,λL j=>by
  have k:∃p,v=.ref p/\SqL X.K y p ((ns b).map V.int):=by
   rcases E b c.1 with z|z
   .rw[z]at f;obtain⟨p,e,r⟩:=f;exact⟨p,e,.inl (jh jx r)⟩
   .rw[z]at f;obtain⟨p,e,r⟩:=f;exact⟨p,e,jx.seq r⟩
  obtain⟨p,rfl,r⟩:=k;refine⟨p,_,rfl,((d.trans h).trans j).seq r,c.2.2.2.2,λl hl=>q l _ ((((s.trans d).trans h).trans j).trans (same_new hl _)) ((((s.trans d).trans h).trans j).free hl) ?_⟩;rw[upd_same,Uw]⟩⟩⟩⟩
end L3
namespace FM
open L2
def jL {xs:Li}{n:Nat}(h:xs.length<=n):xs.getD n 0=0:=by rw[gQ,bQ h];rfl
def kW {xs:Li}{n:Nat}(h:n<xs.length):xs.getD n 0=xs[n]:=by rw[gQ,aa h];rfl
def getD_at' {xs:Li}{n:Nat}{x:Int}(h:xs[n]?=some x):xs.getD n 0=x:=by rw[gQ,h];rfl
def getD_mem {xs:Li}{n:Nat}(h:n<xs.length):xs.getD n 0∈xs:=by rw[kW h];exact bI h
def RG (f:Int->Int)(h0:f 0=0)(xs:Li)(n:Nat):(xs.map f).getD n 0=f (xs.getD n 0):=by
 by_cases h:n<xs.length
 .rw[kW (by rw[ae];exact h),cu,kW h]
 .rw[jL (by rw[ae];lia),jL (by lia),h0]
def acG (z:Int):pl z 0=0:=by
 unfold pl;split
 .rfl
 .exact Int.zero_emod z
def Iz (xs:Li)(x:Int)(n:Nat):(xs++[x]).getD n 0=if n=xs.length then x else xs.getD n 0:=by
 by_cases h:n<xs.length
 .rw[kW (by rw[aM];lia),List.getElem_append_left h,ag (by lia),kW h]
 .by_cases a:n=xs.length
  .subst a;rw[ai rfl,kW (by rw[aM,bP];lia),List.getElem_append_right (aB _)];simp
  .rw[ag a,jL (by rw[aM,bP];lia),jL (by lia)]
def N6 (xs:Li):xs=[]\/∃y x,xs=y++[x]:=by
 by_cases h:xs=[]
 .exact .inl h
 .exact .inr ⟨_,_,(cC h).symm⟩
def xf:∀(k:Nat) (xs:Li),xs.length=k->∀n,(jw xs).getD n 0=xs.getD n 0
 |0,xs,h,n=>by have:xs=[]:=d6.mp h;subst this;rfl
 |k+1,xs,h,n=>by
  rcases N6 xs with rfl|⟨ys,x,rfl⟩
  .rfl
  .by_cases b:x=0
   .subst b;have c:ys.length=k:=by rw[aM,bP]at h;lia
    rw[vd,xf k ys c n,Iz];by_cases a:n=ys.length
    .rw[ai a,jL (by lia)]
    .rw[ag a]
   .rw[Am _ b]
def pJ (xs:Li)(n:Nat):(jw xs).getD n 0=xs.getD n 0:=xf _ xs rfl n
def xK (xs:List Int):Prop:=xs≠[]->xs.getD (xs.length-1) 0≠0
def zE:∀(k:Nat) (xs:Li),xs.length=k->xK (jw xs)
 |0,xs,h=>by have:xs=[]:=d6.mp h;subst this;intro h;exact absurd rfl h
 |k+1,xs,h=>by
  rcases N6 xs with rfl|⟨ys,x,rfl⟩
  .intro h;exact absurd rfl h
  .by_cases a:x=0
   .subst a;rw[vd];exact zE k ys (by rw[aM,bP]at h;lia)
   .rw[Am _ a];intro _;rw[Iz,ai (by rw[aM,bP];lia)];exact a
def wV (xs:Li):xK (jw xs):=zE _ xs rfl
def U4 {a b:Li}(d:xK a)(j:xK b)(h:∀n,a.getD n 0=b.getD n 0):a=b:=by
 have le:∀{a b:List Int},xK a->(∀n,a.getD n 0=b.getD n 0)->a.length<=b.length:=λ{a b} d h=>by
  by_cases c:a.length<=b.length
  .exact c
  .have e:a≠[]:=λz=>by subst z;exact c (bA _)
   exact absurd (by rw[h,jL (by lia)]) (d e)
 have k:a.length=b.length:=Nat.le_antisymm (le d h) (le j λn=>(h n).symm);refine ff k λi f g=>?_;have:=h i;rw[kW f,kW g]at this;exact this
def Tt (h:∀n,a.getD n 0=b.getD n 0):jw a=jw b:=
 U4 (wV a) (wV b) λn=>by rw[pJ,pJ,h]
def Tz (z:Int)(f:List Int):List Int:=jw (f.map (pl z))
def aaD (z:Int)(f:Li)(n:Nat):(Tz z f).getD n 0=pl z (f.getD n 0):=by unfold Tz;rw[pJ,RG _ (acG z)]
def K1 (z:Int)(f:Li):(Tz z f).length<=f.length:=by unfold Tz;refine aG (t8 _) ?_;rw[ae];exact aB _
def mem_getD {xs:Li}{m:Int}(h:m∈xs):∃n,n<xs.length/\xs.getD n 0=m:=by obtain⟨n,a,b⟩:=List.getElem_of_mem h;exact⟨n,a,by rw[kW a,b]⟩
def Z1 {z:Int}{f:Li}{m:Int}(h:m∈Tz z f):∃k∈f,m=pl z k:=by obtain⟨n,b,a⟩:=mem_getD h;rw[aaD]at a;exact⟨f.getD n 0,getD_mem (aN b (K1 z f)),a.symm⟩
def sm:Nat->(Nat->Int)->Int
 |0,_=>0
 |n+1,f=>sm n f+f n
def Ie:∀{n:Nat},(∀i,i<n->f i=g i)->sm n f=sm n g
 |0,_=>rfl
 |n+1,h=>by show sm n f+f n=sm n g+g n;rw[Ie λi a=>h i (by lia),h n (by lia)]
def Ny:∀{n:Nat},(∀i,i<n->f i=0)->sm n f=0
 |0,_=>rfl
 |n+1,h=>by show sm n f+f n=0;rw[Ny λi a=>h i (by lia),h n (by lia)];rfl
def GD:∀{m:Nat},n<=m->(∀i,n<=i->i<m->f i=0)->sm m f=sm n f
 |0,h,_=>by
  have:n=0:=by lia
  subst this;rfl
 |m+1,h,z=>by
  by_cases c:n=m+1
  .subst c;rfl
  .show sm m f+f m=sm n f;rw[z m (by lia) (by lia),Int.add_zero];exact GD (by lia) λi a b=>z i a (by lia)
def cm (f g:List Int)(n:Nat):Int:=sm (n+1) λi=>f.getD i 0*g.getD (n-i) 0
def Js (f g:List Int)(n i:Nat):Int:=sm i λj=>if j<=n then f.getD j 0*g.getD (n-j) 0 else 0
def QD (f g:Li)(n:Nat){i:Nat}(h:f.length<=i):Js f g n i=cm f g n:=by
 have e:cm f g n=Js f g n (n+1):=Ie λj d=>by rw[ai (by lia)]
 rw[e];unfold Js;rcases Nat.le_total i (n+1) with c|c
 .refine(GD c λj a b=>?_).symm;rw[jL (show f.length<=j by lia),gW];split<;>rfl
 .refine GD c λj a b=>?_;rw[ag (by lia)]
def acK {n:Nat}(h:f.length+g.length<=n+1):cm f g n=0:=by
 unfold cm;refine Ny λi a=>?_;by_cases c:i<f.length
 .rw[jL (show g.length<=n-i by lia),iH]
 .rw[jL (show f.length<=i by lia),gW]
def vR (f g:List Int):List Int:=(List.range (f.length+g.length)).map (cm f g)
def Qz (f g:Li)(n:Nat):(vR f g).getD n 0=cm f g n:=by
 unfold vR;by_cases h:n<f.length+g.length
 .rw[kW (by rw[ae,aU];exact h),cu,dj]
 .rw[jL (by rw[ae,aU];lia),acK (by lia)]
def RK {a b:Li}(hl:a.length=b.length)(h:∀n,a.getD n 0=b.getD n 0):a=b:=by refine ff hl λi c d=>?_;have:=h i;rw[kW c,kW d]at this;exact this
def yd (f g:List Int)(i k:Nat)(r:List Int):Prop:=r.length=f.length+g.length/\∀n,r.getD n 0=Js f g n i+if i<=n/\n-i<k then f.getD i 0*g.getD (n-i) 0 else 0
def Qn (f g:Li):yd f g 0 0 (List.replicate (f.length+g.length) 0):=by
 refine⟨a7,λn=>?_⟩;rw[ag (by lia)];by_cases h:n<f.length+g.length
 .rw[kW (by rw[a7];exact h),List.getElem_replicate];rfl
 .rw[jL (by rw[a7];lia)];rfl
def Ni (r:Li)(j:Nat)(x:Int)(n:Nat)(h:j<r.length):(r.set j x).getD n 0=if n=j then x else r.getD n 0:=by
 by_cases c:n=j
 .subst c;rw[ai rfl,kW (by rw[bC];exact h),List.getElem_set_self]
 .rw[ag c,gQ,bJ (by lia),<- gQ]
def Uo (h:yd f g i k row)(e:i<f.length)(j:k<g.length):yd f g i (k+1) (row.set (i+k) (row.getD (i+k) 0+f.getD i 0*g.getD k 0)):=by
 obtain⟨b,a⟩:=h;refine⟨by rw[bC];exact b,λn=>?_⟩;rw[Ni _ _ _ _ (by lia)];by_cases c:n=i+k
 .subst c;rw[ai rfl,a,ag (by lia),ai (by lia),show i+k-i=k by lia];lia
 .rw[ag c,a];by_cases d:i<=n/\n-i<k
  .rw[ai d,ai (by lia)]
  .rw[ag d,ag (by lia)]
def Tc {i:Nat}(h:yd f g i g.length row):yd f g (i+1) 0 row:=by
 obtain⟨a,b⟩:=h;refine⟨a,λn=>?_⟩;rw[b,ag (show ¬(i+1<=n/\n-(i+1)<0) by lia)];show _=Js f g n i+(if i<=n then f.getD i 0*g.getD (n-i) 0 else 0)+0;by_cases c:i<=n
 .rw[ai c];by_cases d:n-i<g.length
  .rw[ai ⟨c,d⟩];lia
  .rw[ag (by lia),jL (show g.length<=n-i by lia),iH];lia
 .rw[ag (by lia),ag c];lia
def row_end {f g r:Li}(h:yd f g f.length 0 r):r=vR f g:=by obtain⟨a,b⟩:=h;refine RK (by rw[a];unfold vR;rw[ae,aU]) λn=>?_;rw[b,ag (by lia),Qz,QD f g n (aB _)];lia
end FM
namespace L3
open PySem PySem.Spec PyProof.Rows L2
def abP (H:Hp):mn H (λ_=>false)=H:=by funext b;exact lZ rfl
def tXr (K:Fg)(G:Gx)(C:En->Prop)(g:En->PV):TE:=λb H Q=>∃B a O,Rep K G B b H a O/\C a/\∀v h,Same H h -> At K G h (g a) v->Q v h
section
variable {pl:List Str}
def rdX (h:PE X e (tX X.K G C g)):PE X e (tXr X.K G C g):=λp s f H Q I ⟨B,d,O,R,c,q⟩=>h p s f H Q I ⟨B,d,O,R,c,λv b s a=>q v b s (At.mono jx _ _ a)⟩
end
end L3
namespace FM
open L2
structure Eu (n z b r sb s:Int):Prop where
 r0:0<=r
 rb:r<b
 bz:b<=z
 db:z ∣ b-sb*n
 dr:z ∣ r-s*n
 gc:Int.gcd b r=Int.gcd n z
 sg:(sb<=0/\0<=s)\/(0<=sb/\s<=0)
 id:(s.natAbs:Int)*b+(sb.natAbs:Int)*r=z
def Nm (n z:Int):Int.gcd z (n % z)=Int.gcd n z:=by rw[iI,Int.gcd_sub_mul_left_right,Int.gcd_comm]
def Eu.start (h:2<=z):Eu n z z (n % z) 0 1:=by
 refine⟨aS _ (by lia),aH _ (by lia),Int.le_refl _,?_,?_,Nm n z,.inl ⟨by lia,by lia⟩,?_⟩
 .rw[gW,Int.sub_zero];exact Int.dvd_refl z
 .rw[Int.one_mul,iI];exact⟨-(n / z),by rw[Int.mul_neg];lia⟩
 .show(1:Int)*z+((0:Int).natAbs:Int)*(n % z)=z;rw[Int.one_mul];show z+(0:Int)*(n % z)=z;rw[gW];lia
def Eu.rest {b r:Int}(h:0<r):b-b / r*r=b % r:=by rw[iI,iJ]
def Eu.step {n z b r c s:Int}(h:Eu n z b r c s)(m:r≠0):Eu n z r (b-b / r*r) s (c-b / r*s):=by
 have i:0<r:=by have:=h.r0;lia
 have q:0<=b / r:=Int.ediv_nonneg (by have:=h.rb;lia) (by lia);have f:=Eu.rest (b:=b) i;have abs:((c-b / r*s).natAbs:Int)=(c.natAbs:Int)+b / r*(s.natAbs:Int):=by
  rcases h.sg with⟨g,a⟩|⟨g,a⟩
  .have j:0<=b / r*s:=ik q a;have d:(s.natAbs:Int)=s:=by lia
   rw[d];lia
  .have j:b / r*s<=0:=dX q a;have d:(s.natAbs:Int) = -s:=by lia
   rw[d,Int.mul_neg];lia
 refine⟨?_,?_,by have:=h.rb;have:=h.bz;lia,h.dr,?_,?_,?_,?_⟩
 .rw[f];exact aS _ (by lia)
 .rw[f];exact aH _ i
 .obtain⟨u,k⟩:=h.db;obtain⟨v,l⟩:=h.dr;refine⟨u-b / r*v,?_⟩;have e:b-b / r*r-(c-b / r*s)*n=(b-c*n)-b / r*(r-s*n):=by rw[Int.sub_mul,iN,iB];lia
  rw[e,k,l,iN,Int.mul_left_comm]
 .rw[f,<- h.gc,Nm]
 .rcases h.sg with⟨g,a⟩|⟨g,a⟩
  .exact .inr ⟨a,by have:=ik q a;lia⟩
  .exact .inl ⟨a,by have:=dX q a;lia⟩
 .rw[abs,<- h.id,Int.add_mul,iN,iB,iJ (b / r) ((s.natAbs:Int)*r),iB,iJ r (b / r)];lia
def Eu.end (h:Eu n z b 0 sb s):b=(Int.gcd n z:Int):=by have:=h.gc;rw[Int.gcd_zero_right]at this;have:=h.rb;lia
def Eu.one (g:2<=z)(h:Eu n z b 0 sb s)(f:b=1):(sb % z*n) % z=1:=by
 have a:=h.db;rw[f]at a;have e:(sb % z*n) % z=(sb*n) % z:=by rw[gX,Int.emod_emod_of_dvd _ (Int.dvd_refl z),<- gX]
 rw[e];have c:(1-sb*n) % z=0:=gz a;have d:=(Int.emod_eq_emod_iff_emod_sub_eq_zero (m:=1) (n:=z) (k:=sb*n)).mpr c;rw[<- d];exact gf (by lia) (by lia)
end FM
section
open PySem PySem.Spec PyProof.Rows
namespace L2
section
variable {X:Cx}{P:List (Addr×Obj)}{a:St}{H:Hp}{s:Shared}{h':Heap}{ch:List Addr}
def Inv.noted (I:Inv X P a H s)(hl:X.env.locals∈frs X.stack)
  (j:∀b∈ch,X.s₀.heap.get? b=none/\H b=none/\b∉frs X.stack/\(∀x c,X.env.cells.lookup x=some c->c≠b)/\∀p∈X.pn++P,p.1≠b)
  (d:∀b o,b∉ch->b∉frs X.stack->s.heap.get? b=some o->h'.get? b=some o) (t:∀b o,b∈frs X.stack->s.heap.get? b=some o->∃y,h'.get? b=some { o with slots:=y }):Inv X P a H { s with heap:=h',toks:=t' }:=by
 have any:∀b o,b∉ch->s.heap.get? b=some o->∃y,h'.get? b=some { o with slots:=y }:=λb o hb e=>by
  by_cases c:b∈frs X.stack
  .exact t b o c e
  .exact⟨o.slots,d b o hb c e⟩
 have w:∀b o,X.s₀.heap.get? b=some o->b∉ch:=λb o e z=>by rw[(j b z).1]at e;cases e
 have L:∀b o,X.s₀.heap.get? b=some o->b≠X.env.locals:=λb o e=>aX (aN (ay e) I.ok.above);have f:∀x c,X.env.cells.lookup x=some c->∀v,s.heap.IsCell c v->h'.IsCell c v:=λx c e v ⟨o,G,hd⟩=>by obtain⟨y,q⟩:=any c o (λz=>(j c z).2.2.2.1 x c e rfl) G;exact⟨_,q,hd⟩
 refine⟨I.ok,I.os,I.bare,⟨λb o e n g C=>?_,λb o e n g C=>?_,I.base.free,λb o e C=>?_,I.base.tups,I.base.frzs,I.base.tbls⟩,?_,λx c e=>?_,I.free,I.freeC,λp O=>?_,λb o e=>?_,I.len⟩
 .refine d b o (w b o e) (λz=>?_) (I.base.keep b o e n g C);rcases aw.mp (I.stkSub b z) with q|q
  .exact L b o e q
  .exact g q
 .obtain⟨y,E⟩:=I.base.slot b o e n g C;obtain⟨D,F⟩:=any b _ (w b o e) E;exact⟨D,F⟩
 .obtain⟨o',E⟩:=I.base.there b o e C;obtain⟨D,F⟩:=any b o' (w b o e) E;exact⟨_,F⟩
 .obtain⟨m,⟨o,U,T,G,r⟩,A⟩:=I.loc;obtain⟨y,e⟩:=t _ o hl G;refine⟨m,⟨_,U,T,e,r⟩,λi x v Y Z h3=>?_⟩;obtain⟨u,ru,l⟩:=A i x v Y Z h3;refine⟨u,ru,?_⟩;rcases l with l|⟨k,c,h,J⟩
  .exact .inl l
  .exact .inr ⟨k,c,h,f x c h _ J⟩
 .obtain⟨v,J⟩:=I.cell x c e;exact⟨v,f x c e v J⟩
 .obtain⟨Q,R,M,N,S⟩:=I.pin p O;refine⟨d p.1 p.2 (λz=>(j _ z).2.2.2.2 p O rfl) (λz=>?_) Q,R,M,N,S⟩;rcases aw.mp (I.stkSub _ z) with q|q
  .exact M q
  .exact N q
 .refine(I.hok b o e).stay (λc u h q=>d c u (λz=>?_) (λz=>?_) q) (λ_ q=>q) λ_ _ q=>q
  .have B:=(j c z).2.1;rcases h with rfl|h
   .rw[B]at e;cases e
   .rw[B]at h;cases h
  .have B:=I.stkFree c z;rcases h with rfl|h
   .rw[B]at e;cases e
   .rw[B]at h;cases h
def Inv.Nq (I:Inv X P a H s)(d:X.ex=[])(h:s.heap.get? b=none):X.s₀.heap.get? b=none/\b∉frs X.stack/\(∀x c,X.env.cells.lookup x=some c->c≠b)/\∀p∈X.pn++P,p.1≠b:=by
 refine⟨?_,λz=>?_,λx c e z=>?_,λp g z=>?_⟩
 .cases q:X.s₀.heap.get? b with
  |none=>rfl
  |some o=>obtain⟨i,e⟩:=I.base.there b o q (by rw[d];simp);rw[h]at e;cases e
 .obtain⟨_,o,e,_⟩:=I.stack.mem z;rw[h]at e;cases e
 .obtain⟨v,o,f,_⟩:=I.cell x c e;rw[z,h]at f;cases f
 .have e:=(I.pin p g).1;rw[z,h]at e;cases e
end
section
variable {X:Cx}{p:List (Addr×Obj)}{c:St}{H h:Hp}{s1 s':Shared}{a:Addr}{cls:Value}{dd:Option Addr}
def Vo {M:Model}{Q:Shared->Prop}{E':Value->Shared->Prop}(I:Inv X p c H s1)(d:X.stack=X.env::X.outer)(r:X.env.frame=some X.env.locals)(n:X.ex=[])(ho:s'.os=s1.os)(s:AllBare s'.gens)
  (u:Un (frs X.stack) [] H h s1.heap s'.heap) (O:HOk X.prog X.w h s'.heap) (F:Fly s1.heap h s'.heap a cls dd)
  (hQ:∀h',Inv X p c h { s' with heap:=h' }->Fly s1.heap h h' a cls dd->Q { s' with heap:=h' }) :
  wpAny M X.A (noteFrame (.ref a) X.env) (λ_ s2=>wpAny M X.A (setFlight (.ref a) none) (λ_ Y=>Q Y) E' s2) E' s':=by
 have J:Inv X p c h s':=I.call' (ch:=[]) ho u O s (λb z=>absurd z (by simp));obtain⟨oe,vs,T,oT,ts,he,k,G,hd,h1,B,hT,E,h3,y,P,hx⟩:=F.ex;subst k;have hA:X.A.frames=some (X.env::X.outer):=by rw[<- d];exact I.ok.frames
 have FF:=J.stack;have w:=I.Nq n F.new;have v:=I.Nq n P;have hl:X.env.locals∈frs X.stack:=by rw[d];unfold frs;rw[a9,r];exact aA
 refine Ds (as:=a::T::frs X.stack) (Q:=λ_ Y=>Q Y) hA (by rw[<- d];exact FF) r he G hd h1 hx B hT E h3 aA (aj _ aA) (λb z=>aj _ (aj _ (by rw[d];exact z))) λg L=>?_;rw[<- d]at L;obtain⟨U,vs',t,S,Z,N,C,m,D,x,f,j,A,l,i,R⟩:=L.ex;have J3:Inv X p c h { s' with heap:=g }:=J.noted (t':=s'.toks) (ch:=[a,T]) hl (λb z=>by
   rcases aw.mp z with rfl|z
   .exact⟨w.1,F.un,w.2.1,w.2.2.1,w.2.2.2⟩
   .have e:b=T:=by simpa using z
    subst e;exact⟨v.1,y,v.2.1,v.2.2.1,v.2.2.2⟩)
  (λb o s hf e=>L.keep b o e (by
   intro z;rcases aw.mp z with q|z
   .exact s (by simp[q])
   .rcases aw.mp z with q|z
    .exact s (by simp[q])
    .exact hf z)) L.slot
 have tn:h t=none/\s1.heap.get? t=none:=by
  refine⟨J.untracked f,?_⟩;cases q:s1.heap.get? t with
  |none=>rfl
  |some o=>obtain⟨o',e'⟩:=u.there t o q (by simp);rw[f]at e';cases e'
 exact hQ g J3 ⟨⟨U,vs',t,S,Z,N,C,m,D,x,j,A,l,i,tn.1,tn.2,R⟩,F.un,F.new⟩
end
section
variable {X:Cx}{P:List (Addr×Obj)}{f:St}{H g:Hp}{s:Shared}{h0:Heap}{a:Addr}{cls:Value}{dd:Option Addr}
def KZ {M:Model}{A:Around}{Q:Unit->Shared->Prop}{E':Value->Shared->Prop}(J:Inv X P f g s)(v:X.stack=X.env::X.outer)(u:X.env.frame=some X.env.locals)(F:Fly h0 g s.heap a cls dd)
  (L:∀b,h0.get? b=none->X.s₀.heap.get? b=none/\b∉frs X.stack/\(∀x c,X.env.cells.lookup x=some c->c≠b)/\∀p∈X.pn++P,p.1≠b)
  (E:∀h',Inv X P f g { s with heap:=h' }->Fly h0 g h' a cls dd->Q () { s with heap:=h' }):wpAny M A (setFlight (.ref a) none) Q E' s:=by
 obtain⟨N,O,T,U,ts,C,l,t,B,w,k,y,i,D,j,m,I⟩:=F.ex;have R:=J.stack;have h:3<ts.size:=(ci.mp D).1;have d:∀b,b≠T->(s.heap.update T (Obj.mapFields (·.setIfInBounds 3 .none))).get? b=s.heap.get? b:=λb r=>a8 _ _ (br r);have n:=L T m;have G:X.env.locals∈frs X.stack:=by rw[v];unfold frs;rw[a9,u];exact aA
 refine wpAny_setFlight_none C B w y i h (E _ ?_ ?_)
 .exact J.noted (t':=s.toks) (ch:=[T]) G (λb z=>by
   have e:b=T:=by simpa using z
   subst e;exact⟨n.1,j,n.2.1,n.2.2.1,n.2.2.2⟩) (λb o r S e=>(d b (λz=>r (by simp[z]))).trans e)
   (λb o z e=>⟨o.slots,(d b (λq=>n.2.1 (by rw[<- q];exact z))).trans e⟩)
 .refine⟨⟨N,O,T,_,_,(d a (br k)).trans C,l,t,B,w,k,b8 _ y (dz (cI i _)),cI i _,by simp[h],j,m,I⟩,F.un,F.new⟩
def vq (a:Addr)(cls:Value)(dd:Option Addr:=none):HO:=.ext λh=>∃o v,h.get? a=some o/\o.cls=cls/\o.dict=dd/\o.data=.fields v
def Inv.Ue (I:Inv X P f H s)(l:H T=none)(r:T≠X.env.locals)(t:X.s₀.heap.get? T=none)(v:∀x c,X.env.cells.lookup x=some c->c≠T)(w:∀p∈X.pn++P,p.1≠T)
  (new:ObjOk X.prog X.w (upd H T o) s.heap T o):Inv X P f (upd H T o) s:=by
 have ne:∀{b:Addr} {u:HO},H b=some u->b≠T:=λe=>ne_of_none e l;refine⟨I.ok,I.os,I.bare,⟨I.base.keep,I.base.slot,λb ob e n x=>?_,I.base.there,λb xs e=>?_,λb ob u e=>?_,λb A e=>?_⟩,I.loc,I.cell,by rw[upd_ne (br r)];exact I.free,λx c e=>?_,λp h=>?_,λb u e=>?_,I.len⟩
 .have y:b≠T:=λz=>by rw[z,t]at e;cases e
  rw[upd_ne y];exact I.base.free b ob e n x
 .have q:=I.base.tups b xs e;rw[upd_ne (ne q)];exact q
 .have q:=I.base.frzs b ob u e;rw[upd_ne (ne q)];exact q
 .obtain⟨m,q⟩:=I.base.tbls b A e;exact⟨m,by rw[upd_ne (ne q)];exact q⟩
 .rw[upd_ne (v x c e)];exact I.freeC x c e
 .obtain⟨i,j,k⟩:=I.pin p h;exact⟨i,by rw[upd_ne (w p h)];exact j,k⟩
 .by_cases c:b=T
  .subst c;rw[upd_same]at e;cases e;exact new
  .rw[upd_ne c]at e;exact(I.hok b u e).stay (λ_ _ _ q=>q) (λd q=>by rw[upd_ne (ne q)];exact q) (λd xs q=>by rw[upd_ne (ne q)];exact q) λd _ _ q=>by rw[upd_ne (ne q)];exact q
def Inv.adN (I:Inv X P f H s)(E:Value->Shared->Prop):Inv { X with pn:=X.pn++P,xe:=E } [] f H s:=
 ⟨⟨I.ok.mod,I.ok.kind,I.ok.glob,I.ok.blt,I.ok.above,I.ok.inj,I.ok.has,I.ok.cab,I.ok.hd,I.ok.frames,I.ok.stk,I.ok.exf,I.ok.bs,I.ok.bsz,I.ok.noex,I.ok.exfs,I.ok.funs,I.ok.frf⟩,I.os,I.bare,I.base,I.loc,I.cell,I.free,I.freeC,λp h=>I.pin p (by simpa using h),I.hok,I.len⟩
def Inv.adg (I:Inv { X with pn:=X.pn++P,xe:=E } b f H s):Inv X P f H s:=
 ⟨⟨I.ok.mod,I.ok.kind,I.ok.glob,I.ok.blt,I.ok.above,I.ok.inj,I.ok.has,I.ok.cab,I.ok.hd,I.ok.frames,I.ok.stk,I.ok.exf,I.ok.bs,I.ok.bsz,I.ok.noex,I.ok.exfs,I.ok.funs,I.ok.frf⟩,I.os,I.bare,I.base,I.loc,I.cell,I.free,I.freeC,λp h=>I.pin p (bV _ h),I.hok,I.len⟩
def Inv.mark (I:Inv X P f H s)(v:Value)(E:Value->Shared->Prop):Inv { X with A:=X.A.mark (some v),calm:=false,xe:=E } P f H s:=
 ⟨⟨I.ok.mod,I.ok.kind,I.ok.glob,I.ok.blt,I.ok.above,I.ok.inj,I.ok.has,I.ok.cab,(λz=>by cases z),I.ok.frames,I.ok.stk,I.ok.exf,I.ok.bs,I.ok.bsz,I.ok.noex,I.ok.exfs,I.ok.funs,I.ok.frf⟩,I.os,I.bare,I.base,I.loc,I.cell,I.free,I.freeC,I.pin,I.hok,I.len⟩
def Inv.unmark (h:X.calm=true->X.A.handled=none)(I:Inv { X with A:=X.A.mark (some v),calm:=false,xe:=E } P f H s):Inv X P f H s:=
 ⟨⟨I.ok.mod,I.ok.kind,I.ok.glob,I.ok.blt,I.ok.above,I.ok.inj,I.ok.has,I.ok.cab,h,I.ok.frames,I.ok.stk,I.ok.exf,I.ok.bs,I.ok.bsz,I.ok.noex,I.ok.exfs,I.ok.funs,I.ok.frf⟩,I.os,I.bare,I.base,I.loc,I.cell,I.free,I.freeC,I.pin,I.hok,I.len⟩
end
end L2
namespace L3
open L2
inductive Rs where
 |val (p:PV)|err (C:Addr)
def spE (K:Fg)(G:Gx)(pre:List PV->Prop)(F:List PV->Rs):Sp:=λc H Q E=>∃b O,(∀a,O a=true->H a≠none)/\kI K G (mn H O) b c/\pre b/\(∀p,F b=.val p->∀v h,Same H h -> At K G (mn h O) p v->Q v h)/\∀C,F b=.err C->∀h,Same H h -> E (.ref C) none h
structure yX (P:Program)(w:World)(K:Fg)(mg:Mg)(base:Heap)(k:Nat)(x:Str)(ps:List Str)(sp:Sp):Prop where
 ex:∃f fd,FnOk P w K mg base (sZ P w) k f fd ps sp/\Binds K fd ps []/\W.keepIn K (.ref f)=true/\mg x=some (.ref f)
abbrev erE (E:XK):ER:=λC _ H=>E (.ref C) none H
section
variable {P:Program}{w:World}{K:Fg}{mg:Mg}{base:Heap}{G:Gx}
def okE {x:Str}{st:Stmt}{N l:Ls}{k:Nat}{pre:List PV->Prop}{F:List PV->Rs}(d:lH K mg x st l)(S:FnScope N l (defScope st))(len:∀as,pre as->as.length=l.length)
  (j:∀(f:Addr) (g:Value) (A:Around) (outer:List Env) (s:Shared) (H:Hp) (E:XK),Room k (A.deeper (envOfC x (defScope st) s.heap.objs.size f g)) -> ∃fs,PSs (cxOf (sZ P w) P w K mg base N x (defScope st) f g A outer s H E) (defBody st) (ts K G (erE E) fs)/\∀as,pre as->fs { nx:=λ_=>F as=.val .non,rt:=λp=>F as=.val p,rl:=λns=>F as=.val (.ints ns),er:=λC=>F as=.err C } (kh N as)):yX P w K mg base (k+1) x l (spE K G pre F):=by
 obtain⟨f,L,B,b,m⟩:=d.ex;refine⟨f,L,?_,b,B.kp,m⟩;obtain⟨oc,od,kV,J,pm,an,g,ct,R,rfl,lk,t⟩:=B.ex;refine fn_of lk t S (λZ H Q E h=>?_) λA outer s H Z Q E M h=>?_
 .obtain⟨as,O,_,o,u,_⟩:=h;rw[<- o.length];exact len as u
 obtain⟨as,O,D,o,u,q,T⟩:=h;obtain⟨fs,b,c⟩:=j f g A outer s H E M;refine⟨_,b,⟨H,O⟩,kh N as,_,⟨O,nJ D o⟩,c as u,⟨λσ' i ρ' r h=>?_,λv i p y I h=>q p h v i y I,λa i ns y n e h=>?_,λ_ _ _ _ _ h=>h.elim,λ_ _ _ _ h=>h,λ_ _ _ _ h=>h,λi C _ U Y h=>T C h i (U.trans Y)⟩⟩
 .obtain⟨O',r⟩:=r;exact q _ h .non i r.same rfl
 .refine q _ h _ i y ⟨a,rfl,.inl ?_⟩;rw[lZ]
  .exact e
  .cases z:O a with
   |false=>rfl
   |true=>exact absurd n (D a z)
end
section
variable {X:Cx}{G:Gx}{E:XK}{e:Expr}{a:List Expr}{pos p d N n:Pos}{i j k:Nat}{x y:Str}{r:List Str}{pre:List PV->Prop}{C:En->Prop}{l:En->List PV}{F:List PV->Rs}{g:Addr}
def lR (o:yX X.prog X.w X.K X.mg X.base j x r sp)(w:Passes (sZ X.prog X.w) X E)(v:Room k X.A)(q:PA X (e::a) t)(u:j<=k:=by decide)(s:Gl X x:=by rfl)(h:(x == ("__debug__":Str))=false:=by decide)
  (he:starEach (e::a) X.env=(false,eval e X.env)::starEach a X.env:=by rfl) (c:(backTo pos (starEach a X.env)).any (·.1)=false:=by rfl):PE X (.Call (.Name x p) (e::a) [] pos) (tCall sp [] E t):=by
 obtain⟨f,A,F,b,z,m⟩:=o.ex;exact pe_call (F.mono u) v s m z b .nil w q h he c
def Uz:Passes (sZ X.prog X.w) X E0:=λ_ _ _ _ _ _ _ h=>by obtain⟨_,_,_,_,_,_,_,_,_,_,q⟩:=h;exact q.elim
def Rs.get:Rs->PV
 | .val p=>p
 | .err _=>.non
def Rs.isV:Rs->Prop
 | .val _=>True
 | .err _=>False
def mR (I:Ux X E)(v:X.calm=true)(q:CP X.K g)(z:Gl X x)(A:X.mg x=some (.ref g))(u:PA X (e::a) (z8 X.K G C l))(h:∀b,(l b).length=(e::a).length:=by intro _;rfl)(J:(e::a).length<=1000:=by decide)
  (m:(x == ("__debug__":Str))=false:=by decide) (he:starEach (e::a) X.env=(false,eval e X.env)::starEach a X.env:=by rfl) (o:(backTo d (starEach (e::a) X.env)).any (·.1)=false:=by rfl) :
  PS X (.Raise (some (.Call (.Name x N) (e::a) [] d)) none pos) (ts X.K G (erE E) λP b=>C b/\P.er g):=
 toS (SJ I v q z A u J m he o λM H Q ⟨B,b,O,R,c,q⟩=>⟨B,b,O,R,c,λL f s t=>⟨by rw[<- t.length];exact h b,q L f s t⟩⟩) λB M H b O P D R c w=>⟨B,b,O,R,c.1,λ_ f s _=>w.er f g _ R.same s c.2⟩
end
end L3
namespace L2
def Qg {prog:Program}{w:World}{A:Around}{E:Value->Shared->Prop}{s:Shared}{K:Fg}{x C:Addr}{o:Obj}{Q:Option Value->Shared->Prop}(X:K.In s.heap)(I:W.InstAt s.heap x o C none)
  (e:W.findIn K (.ref C) "__getattribute__"=some (some (.builtin "BaseException.__getattribute__"))) (u:W.findIn K (.ref C) "__getattr__"=some none) (q:W.mroIn K C (.type "BaseException")=some true)
  (r:W.findObj K C none "__class__"=some (.bind (.builtin "getset_descriptor.__get__") (.builtin "object.__class__"))) (v:W.mroIn K C (.type "object")=some true)
  (k:Q (some (.ref C)) { s with toks:=s.toks+1 }):wpAny (model prog w) A (getAttr? (.ref x) "__class__") Q E s:=by
 obtain⟨i,g,d,t,y⟩:=s;have l:=I.type (M:=model prog w);have L:=bK (M:=model prog w) X e;have p:=bK (M:=model prog w) X u;have m:=dO (M:=model prog w) X q;have n:=fV (M:=model prog w) X I r;have b:=(cf.ga).bind (.ref x);unfold getAttr? getAttrBy? getAttrBy;refine ac (wpAny_mkText (ac (d7 (bE (ac (l.at (ac (L.at ?_))))))));unfold getAttrByItsOwn hookBefore;rw[ai (show onTheHeap (.ref C)=true from rfl)];refine ac (p.at ?_);refine ac (d7 (bE ?_));show wpAny _ _ (boundAndCalled _ _ _) _ _ _;unfold boundAndCalled;rw[b];refine ac (aO ?_);refine cq (cO cf.ga.plain eP ?_);have f:builtinKind "BaseException.__getattribute__"=some .slot:=by decide +kernel
 have h:splitId "BaseException.__getattribute__"=some ("BaseException","__getattribute__"):=by decide +kernel
 have c:=fk (.ref x) (.str "__class__" t);simp only[checkBuiltinCall,f,h];have j:W.Looks (model prog w) i (isInstance (.ref x) (.type "BaseException")) true:=l.andThen m;refine ac (j.at ?_);rw[ag (by decide)];refine fE (a:=()) c ?_;unfold Builtin.«object.__getattribute__»;refine ac (fE (a:=(.ref x,[.str "__class__" t])) rfl ?_);refine ac (aO (ac (l.at (ac (n.at ?_)))));refine ac (bE (cq ?_));refine W.class_get (s:=⟨i,g,d,t+1,y⟩) (ox:=o) (od:=none) X I v ?_;exact aO (gg rfl (aO k))
abbrev adL (a:Addr)(cls:Value):Heap->Prop:=λh=>∃o v,h.get? a=some o/\o.cls=cls/\o.dict=none/\o.data=.fields v
def uz.lk {K:Fg}{C:Addr}(F:uz K C):∃c d cd g,K.lookup C=some ⟨c,d,.cls cd,g⟩:=by
 obtain⟨cd,h,_⟩:=eU F.hd;unfold W.clsIn at h;split at h
 .rename_i b e a s f;exact⟨b,e,a,s,f⟩
 .cases h
def Rx {K:Fg}{x C:Addr}(F:uz K C):W.KitX K (.ref x) (.ref C) (adL x (.ref C)) where
 ty:=λ_ _ _ ⟨_,_,e,a,_⟩=>by rw[<- a];exact(bX e).andThen .now
 it:=λ_ _ X _=>by obtain⟨c,d,cd,p,g⟩:=F.lk;intro A Q E s k q;unfold isType loadHead;exact ac (fZ (k _ _ (X _ _ g)) (aO q))
 ne:=λh t u m n p X i=>by obtain⟨c,d,cd,r,g⟩:=F.lk;refine Bool.eq_false_iff.mpr λq=>?_;obtain rfl:C=t:=Value.ref.inj (beq_iff_eq.mp q);have z:=(X _ _ g).symm.trans i;cases z
 ca:=λ{_ _ _ _ _ s} X ⟨o,v,e,a,f,j⟩ k=>by
  have I:W.InstAt s.heap x o C none:=⟨e,a,by unfold W.notCls;rw[j],by rw[f];exact tT⟩;have l:W.findObj K C none "__class__"=some (.bind (.builtin "getset_descriptor.__get__") (.builtin "object.__class__")):=by obtain⟨cd,b,_⟩:=eU F.hd;unfold W.findObj;rw[b,dM,F.ha,dM];simp[F.hn,F.htk]
  exact Qg X I F.hg F.hk F.hb l F.hm k
def acE (K:Fg):List V->Hp->VK->Prop:=λxs H Q=>(∃x c t d b,xs=[x,c]/\JX c=some d/\TyOf K H x t/\W.kitOne K t d=some b/\Q (.bl b) H) \/
 ∃a c C d b,xs=[.ref a,c]/\JX c=some d/\H a=some (vq a (.ref C))/\uz K C/\W.kitOne K (.ref C) d=some b/\Q (.bl b) H
def Rc:CallR X (.builtin "isinstance") (acE X.K):=by
 intro p s i H xs g Q I r h;rcases h with h|⟨a,c,C,cv,b,rfl,hc,ha,F,e,q⟩
 .exact yr p s i H xs g Q I r h
 .obtain⟨u,w,rfl,d,f⟩:=vals2 r;obtain rfl:=Ac hc f;obtain rfl:u=.ref a:=d;exact bG (Rx F) I.kIn (I.hok a _ ha).1 e (λz=>nomatch z) λt=>⟨.bl b,H,I.tok t,rfl,q⟩
end L2
namespace L3
open L2
structure aak (G:Gx):Prop where
 into:∀(H:Hp) (a C:Addr),H a=some (vq a (.ref C))->G.ob 1 H a (C:Nat)
 get:∀(H:Hp) (a:Addr) (z:Int),G.ob 1 H a z->∃C:Addr,z=(C:Nat)/\H a=some (vq a (.ref C))
end L3
namespace L2
def vU:∀{ns:Li} {its:Lv},Vals (ns.map V.int) its->IntsAre its ns
 |[],_,h=>by cases h;exact .nil
 |n::r,_,h=>by
  cases h with
  |cons a b=>obtain⟨t,rfl⟩:=a;exact .cons n t (vU b)
def adv (g:List Int->List Int->Bool):R2:=λx y H Q=>∃a b n m,x=.ref a/\y=.ref b/\Rd H a (.lst (n.map V.int))/\Rd H b (.lst (m.map V.int))/\Q (.bl (g n m)) H
section
variable {X:Cx}
def Wy (g:X.A.units+64<cLine):OpR X (compareOp .Eq) (adv λns m=>decide (ns=m)):=by rintro p s w H x y v u Q I l o ⟨a,b,ns,m,rfl,rfl,d,f,q⟩;cases l;cases o;obtain⟨_,j,n,r,_,e⟩:=L3.Inv.BP I d;obtain⟨_,i,t,k,_,c⟩:=L3.Inv.BP I f;exact W.ke_eq_ints ⟨_,e,rfl,_,rfl⟩ ⟨_,c,rfl,_,rfl⟩ (vU r) (vU k) g ⟨.bl _,H,I,rfl,q⟩
end
def Itz (K:Fg)(a b:Addr):It:=
 ⟨λi H=>∃xs c x y,SqL K H a xs/\SqL K H b c/\xs[i]?=some x/\c[i]?=some y,λi H v h=>∃T x y,v=.ref T/\H T=none/\h=upd H T (.tup [x,y])/\(∀xs,SqL K H a xs->xs[i]?=some x)/\∀c,SqL K H b c->c[i]?=some y,λi H=>∃xs c,SqL K H a xs/\SqL K H b c/\(xs.length<=i\/c.length<=i)⟩
def Rw {P:Program}{w:World}{K:Fg}{U:List Expr}{kk:Nat}{tp:Pos}(a b z TI TO L r:Addr)(D:ZipApart z TI TO L r a b) :
  Turn P w K (.Tuple U kk tp) (Itz K a b) [z,TI,TO,L,r] z (λi h=>IsZip h z TI TO .none/\IsPair h TI (.ref L) (.ref r)/\(∃u v,IsPair h TO u v)/\h.IsListIter L a i/\h.IsListIter r b i) where
 mem:=by simp
 obj:=λi h n c d=>by
  obtain⟨m,f,⟨u,v,g⟩,⟨o1,q1,_,d1⟩,⟨o2,q2,_,d2⟩⟩:=n;rcases aw.mp d with rfl|d
  .exact⟨_,m,λv y=>by cases y⟩
  rcases aw.mp d with rfl|d
  .exact⟨_,f,λv y=>by cases y⟩
  rcases aw.mp d with rfl|d
  .exact⟨_,g,λv y=>by cases y⟩
  rcases aw.mp d with rfl|d
  .exact⟨o1,q1,λv y=>by rw[d1]at y;cases y⟩
  .have e:c=r:=by simpa using d
   subst e;exact⟨o2,q2,λv y=>by rw[d2]at y;cases y⟩
 keep:=λi h Y n k=>by obtain⟨m,f,⟨u,v,g⟩,G,J⟩:=n;exact⟨k z (by simp) _ m,k TI (by simp) _ f,⟨u,v,k TO (by simp) _ g⟩,G.at λo q=>k L (by simp) o q,J.at λo q=>k r (by simp) o q⟩
 item:=by
  intro X hP hw hK d i p s σ H E I R n hg;subst hP hw hK;obtain⟨xs,ys,x,y,j,l,T,hy⟩:=hg;obtain⟨m,f,⟨p0,q0,g⟩,G,J⟩:=n;obtain⟨its,rv,pa,hza⟩:=I.list j;obtain⟨u,hu,ru⟩:=rv.get T;obtain⟨N,F,pb,hzb⟩:=I.list l;obtain⟨u2,hu2,ru2⟩:=F.get hy;refine wpAny_pyNext_zip_item D m f g G J pa.isList pb.isList (x:=u) (y:=u2) (by simpa using hu) (by simpa using hu2) λY hz' M Z h2' hT hsz S=>⟨_,rfl,?_⟩;refine wpAny_letOwnedTupleGo_zip hz' λt hz2 B=>?_;have Tz:s.heap.objs.size≠z:=cH (ay m);have C:∀c o,c∉[z,TI,TO,L,r]->s.heap.get? c=some o->t.get? c=some o:=λc o d q=>by have O:c≠z:=λe=>d (by simp[e]);exact(B.2 c O).trans (S c o O (λe=>d (by simp[e])) (λe=>d (by simp[e])) (λe=>d (by simp[e])) q)
  have I1:Inv X p σ H { s with heap:=t,toks:=s.toks }:=I.uf R C;have fT:FpOk X p H s.heap.objs.size:=I.fpOk (aB _) (I.hok.fresh (aB _));have I2:=I1.track (o:=.tup [x,y]) fT ⟨by show 2<=sizeLine;decide,[u,u2],.cons ru (.cons ru2 .nil),⟨_,(B.2 _ Tz).trans hT,rfl,_,rfl⟩⟩;have up:∀c o,c≠z->Y.get? c=some o->t.get? c=some o:=λc o O q=>(B.2 c O).trans q;refine⟨.ref s.heap.objs.size,_,I2,rfl,⟨_,x,y,rfl,fT.1,rfl,λzs hq=>by rw[I.list_inj hq j];exact T,λzs hq=>by rw[I.list_inj hq l];exact hy⟩,⟨hz2,?_,⟨u,u2,up _ _ D.TOz M⟩,Z.at λo q=>up _ o D.i1z q,h2'.at λo q=>up _ o D.i2z q⟩,λc d=>?_⟩
  .exact up _ _ D.TIz (S _ _ D.TIz D.TITO D.TIi1 D.TIi2 f)
  .have lt:c<s.heap.objs.size:=by
    rcases aw.mp d with rfl|d
    .exact ay m
    rcases aw.mp d with rfl|d
    .exact ay f
    rcases aw.mp d with rfl|d
    .exact ay g
    rcases aw.mp d with rfl|d
    .obtain⟨o,q,_⟩:=G;exact ay q
    .have e:c=r:=by simpa using d
     subst e;obtain⟨o,q,_⟩:=J;exact ay q
   rw[upd_ne (aX lt)];exact(R c d).1
 done:=by
  intro X hP hw hK d i p s σ H E I R n hg;subst hP hw hK;obtain⟨xs,ys,j,l,T⟩:=hg;obtain⟨m,f,⟨p0,q0,g⟩,G,J⟩:=n;obtain⟨its,rv,pa,hza⟩:=I.list j;obtain⟨N,F,pb,hzb⟩:=I.list l;have hl:=rv.length;have hl2:=F.length;refine wpAny_pyNext_zip_end (I.ok.hd d) D m f g G J pa.isList pb.isList ?_ λY S=>⟨rfl,I.uf (t':=s.toks) R λc o d q=>S c o (λe=>d (by simp[e])) (λe=>d (by simp[e])) (λe=>d (by simp[e])) (λe=>d (by simp[e])) q⟩;rcases T with h|h
  .exact .inl (by simp;lia)
  .exact .inr (by simp;lia)
 self:=λA i s Q E n h=>wpAny_pyIter_zip n.1 h
def aaW:bootBuiltins "zip"=some (.type "zip"):=by decide +kernel
def Zr (K:Fg)(t:TA):TI:=λc H R=>t c H λv h=>∃a b,v=[.ref a,.ref b]/\(∃xs,SqL K h a xs)/\(∃xs,SqL K h b xs)/\R (Itz K a b) h
def Q6 {X:Cx}{j:List Expr}{Z:Nat}{tp:Pos}{l g:Expr}{F:TA}{p pos:Pos}(N:Gl X "zip")(P:X.mg "zip"=none)(M:PA X [l,g] F)(Q:starEach [l,g] X.env=(false,eval l X.env)::starEach [g] X.env:=by rfl)(t:(backTo pos (starEach [g] X.env)).any (·.1)=false:=by rfl) :
  PI X (.Tuple j Z tp) (.Call (.Name "zip" p) [l,g] [] pos) (Zr X.K F):=by
 intro f s G H R I h;refine Call_ (ld_blt I N P aaW (bN (thn (M pos f s G H _ I h) λus d ⟨vs,y,i,r1,q1⟩=>?_) Q t));obtain⟨a,b,rfl,⟨xs,v⟩,⟨ys,w⟩,q⟩:=q1;obtain⟨u,u2,rfl,ru,x⟩:=vals2 r1;cases ru;cases x;obtain⟨Y,rv,C,T⟩:=i.list v;obtain⟨B,rv2,E,U⟩:=i.list w;have la:a<d.heap.objs.size:=by obtain⟨o,e,_⟩:=C.isList;exact ay e
 have lb:b<d.heap.objs.size:=by obtain⟨o,e,_⟩:=E.isList;exact ay e
 refine call_zip_2 C.isList E.isList λL A n r k m S O=>?_;refine wpAny_pyIter_zip A ?_;have J:Inv X f G y { d with heap:=L }:=i.kept (t':=d.toks) O;have D:ZipApart (d.heap.objs.size+4) (d.heap.objs.size+2) (d.heap.objs.size+3) d.heap.objs.size (d.heap.objs.size+1) a b:=by have la':@LT.lt Nat _ a d.heap.objs.size:=la;have lb':@LT.lt Nat _ b d.heap.objs.size:=lb;constructor<;>(show @Ne Nat _ _)<;>lia
 refine⟨_,[d.heap.objs.size+4,d.heap.objs.size+2,d.heap.objs.size+3,d.heap.objs.size,d.heap.objs.size+1],_,_,y,rfl,J,Rw a b _ _ _ _ _ D,⟨A,n,⟨_,_,r⟩,k,m⟩,λc z=>?_,q⟩;have le:d.heap.objs.size<=c:=by simp only[aw,bS,eK]at z;rcases z with h|h|h|h|h<;>rw[h]<;>first|exact aB _|exact Nat.le_add_right _ _
 exact i.fpOk le (i.hok.fresh le)
end L2
namespace L3
open L2
section
variable {X:Cx}{G:Gx}{E:ER}{a b e:Expr}{pos p d A:Pos}{C f o:En->Prop}{z hl:En->List Int}{i j k:Nat}{x:Str}
def acu (R:Rep X.K G B J H c O)(y:f c)(D:o c)(q:∀l m g h,Same H g->Same g h->Rd h l (.lst ((z c).map V.int))->Rd h m (.lst ((hl c).map V.int))->r (.ref l) (.ref m) h Q) :
  tOp r (tXr X.K G f λc=>.ints (z c)) (tXr X.K G o λc=>.ints (hl c)) J H Q:=
 ⟨B,c,O,R,y,λv g s t=>⟨B,c,O,R.grow s,D,λu h n w=>by
  obtain⟨l,rfl,F⟩:=t;obtain⟨m,rfl,I⟩:=w;exact q l m g h s n (jh n F) I⟩⟩
def ZS (u:X.A.units+64<cLine)(r:PE X a (tXr X.K G f λg=>.ints (z g)))(t:PE X b (tXr X.K G o λg=>.ints (hl g))):PT X (.Compare a [.Eq] [b] pos) (t6 X.K G (λg=>f g/\o g) λg=>z g=hl g):=
 λh s D H Q I ⟨_,_,_,R,c,q⟩=>pt_cmpR (Wy u) r t (nomark _) h s D H Q I (acu R c.1 c.2 λl m _ n y B v w=>⟨l,m,_,_,rfl,rfl,v,w,_,rfl,q n (y.trans B)⟩)
def QQ:PV->Int
 | .int n=>n
 |_=>0
def pvL:PV->List Int
 | .ints n=>n
 |_=>[]
def ym (h:PE X e (tX X.K G C g)):PE X e (jW X.K G (λl=>C l/\g l=.int (QQ (g l))) λl=>QQ (g l)):=
 mD h λB n H l O Q R c q=>⟨B,l,O,R,c.1,λv m s a=>q v m s (by rw[<- c.2];exact a)⟩
def xl_of (h:PE X e (tX X.K G C g)):PE X e (Oa X.K G (λl=>C l/\g l=.ints (pvL (g l))) λl=>pvL (g l)):=
 mD h λB n H l O Q R c q=>⟨B,l,O,R,c.1,λv m s a=>q v m s (by rw[<- c.2];exact a)⟩
def xZ:PV->List PV
 | .lst xs=>xs
 |_=>[]
def lL (h:PE X e (tX X.K G C g)):PE X e (tX X.K G (λl=>C l/\g l=.lst (xZ (g l))) λl=>.lst (xZ (g l))):=
 mD h λB n H l O Q R c q=>⟨B,l,O,R,c.1,λv m s a=>q v m s (by rw[<- c.2];exact a)⟩
def Od (he:PE X e (tX X.K G C g))(n:PG X (.Tuple [.Name x d,.Name y h] kk tp) (gTup X.K 2 (gCons (gName i) (gCons (gName j) gNil))))
  (N:swapsWithSole [.Tuple [.Name x d,.Name y h] kk tp] e pos.line X.env=pure false:=by rfl) (Q:swappedStores [.Tuple [.Name x d,.Name y h] kk tp] e X.env=pure none:=by rfl)
  (M:(assignEach [.Tuple [.Name x d,.Name y h] kk tp] X.env).map (·.2)=[assign (.Tuple [.Name x d,.Name y h] kk tp) X.env]:=by rfl) :
  PS X (.Assign [.Tuple [.Name x d,.Name y h] kk tp] e pos) (ts X.K G E λP m=>C m/\∃u v,g m=.tup [u,v]/\P.nx ((m.set i (.fr u)).set j (.fr v))):=
 toS (ps_asg he n N Q M) λB σ H m O P D R c w=>by obtain⟨I,u,v,L,J⟩:=c;refine⟨B,m,O,R,I,λt r S q=>?_⟩;rw[L]at q;obtain⟨l,vs,rfl,hl,Y,T,rfl,s,Z,U,rfl,F,rfl⟩:=q;exact⟨l,_,rfl,SqT.of (jx _ _ hl),rfl,_,_,rfl,_,_,rfl,rfl,w.nx _ r _ ⟨O,((R.grow S).set s).set F⟩ J⟩
end
def Ve (C:Addr):Sp:=λv H Q _=>∃x d:Addr,v=[.ref x]/\H x=some (.ins C d [])/\Q .non (upd H x (.ins C d [("size",.int 0)]))
def M5 {H:Hp}{O:Addr->Bool}{x:Addr}(b:∀a,O a=true->H a≠none)(c:H x=none){h:Hp}:mn h O x=h x:=lZ (by
 cases z:O x with
 |false=>rfl
 |true=>exact absurd c (b x z))
def X7 (h:H x=none)(a:H dx=none):Same H (upd (upd (upd H dx (.own x)) x (.ins C dx [])) x (.ins C dx fs)):=pY λb o e=>by rw[upd_ne (ne_of_none e h),upd_ne (ne_of_none e h),upd_ne (ne_of_none e a)];exact e
def KW (c:Addr)(H:Hp)(a:Addr)(z:Int):Prop:=z=0/\∃d fs,H a=some (.ins c d fs)/\fs.lookup ("size":Str)=some (.int 0)/\∀m∈xq,fs.lookup m=none
def KW.same (k:KW cW H a z)(s:Same H h):KW cW h a z:=by obtain⟨e0,d,fs,e,r⟩:=k;exact⟨e0,d,fs,s _ _ e,r⟩
def GkW (c:Addr):Gx:=⟨λk H a z=>k=0/\KW c H a z,λ_ _ _ _ _ s h=>⟨h.1,h.2.same s⟩⟩
def gkW (H:Hp)(a d:Addr)(h:H a=some (.ins cW d [("size",.int 0)])):(GkW cW).ob 0 H a 0:=by
 have b:∀m∈xq,List.lookup m [("size",V.int 0)]=none:=by decide +kernel
 exact⟨rfl,rfl,d,_,h,rfl,b⟩
section
variable {X:Cx}{G:Gx}{pos p:Pos}{j k:Nat}{x:Str}{C:Addr}
def abY (o:OkI X.prog X.w X.K X.mg X.base CX0 j x C ["self"] (Ve C))(l:Room k X.A)(c:∀(H:Hp) (a d:Addr),H a=some (.ins C d [("size",.int 0)])->G.ob 0 H a 0)(g:j+1<=k:=by decide)(f:Gl X x:=by rfl)(h:(x == ("__debug__":Str))=false:=by decide) :
  PE X (.Call (.Name x p) [] [] pos) (tX X.K G (λ_=>True) λ_=>.ob 0 0):=
 mD (DK o l pass0 g f h) λB n H m O Q R _ q=>λy d b e i=>by refine⟨y,d,rfl,upd_same,rfl,q (.ref y) _ (X7 b e) ⟨y,rfl,c _ _ d ?_⟩⟩;rw[M5 R.dom b];exact upd_same
end
section
variable {K:Fg}{G:Gx}{B:Bs}{a:L2.St}{H h:Hp}{f:En}{O:Addr->Bool}{D:Addr}{cap:List (Option Nat)}
variable {c:Type}{J:It}{g:TG}{C j:En->Prop}{pt:En->Prop}[∀f,Decidable (pt f)]{gb:En->PV}{Q:VK}
def TX (l:List c)(q:c->V->L2.St)(s:c->En)(F:c->V)(R:Rep K G B a h f O)(T:h D=none)(hlen:l.length<=10000)(Y:∀i H,i<l.length->Same h H->J.go i H)
  (N:∀i n x H r,l[i]?=some n->Same h H->J.yld i H x r -> Same H r/\∀k:L2.St->Hp->Prop,k (q n (F n)) r -> g x (lQ cap a) r k) (w:∀H,Same h H->J.stop l.length H)
  (M:∀n H,n∈l->Same h H->Rep K G ⟨h,O⟩ (lQ cap a) H (jy cap f) (hide D O)->Rep K G ⟨h,O⟩ (q n (F n)) H (s n) (hide D O)) (L:∀n,xP (lQ cap a) (q n (F n))) (S:∀n∈l,j (s n)) (hC:∀n∈l,pt (s n)->C (s n))
  (hQ:∀r y,Same h r -> r D=some (.lst y)->kI K G (mn r (hide D O)) ((l.filter λn=>decide (pt (s n))).map λn=>gb (s n)) y->Q (.ref D) r) :
  ∃W:Nat->Nat->List V->Hp->Prop,(∃m,W 0 m [] (upd h D (.lst [])))/\lcW D J (lQ cap a) g (t6 K G j pt) (tX K G C gb) Q W:=by
 refine⟨λi m y H=>m=l.length-i/\i<=l.length/\Same h H/\H D=some (.lst y)/\kI K G (mn H (hide D O)) (((l.take i).filter λn=>decide (pt (s n))).map λn=>gb (s n)) y,⟨l.length,by simp,bA _,same_new T _,upd_same,rfl⟩,?_⟩;rintro i m y H ⟨rfl,hi,t,U,I⟩;have hl:y.length<=i:=by rw[<- I.length,ae];refine aG (List.length_filter_le _ _) ?_;rw[c9];lia
 refine⟨U,bW (show y.length<=10000 by lia) (by decide),?_⟩;by_cases p:i<l.length
 .refine .inr ⟨Y i H p t,?_⟩;intro x r hy;have P:l[i]?=some l[i]:=aa p;obtain⟨A,kk⟩:=N i _ x H r P t hy;refine kk _ ⟨L _,?_⟩;have u:=A _ _ U;have R2:=M l[i] r (bI p) (t.trans A) (Di R T (t.trans A) (by rw[u];exact λz=>by cases z));refine⟨_,_,_,R2,S _ (bI p),λH3 E=>?_⟩;by_cases d:pt (s l[i])
  .rw[aQ d];refine iteT ?_;refine⟨_,_,_,R2.grow E,hC _ (bI p) d,λv H2 Z a2=>⟨Z _ _ (E _ _ u),l.length-(i+1),by lia,rfl,p,?_,upd_same,?_⟩⟩
   .intro b o z;rw[upd_ne (ne_of_none z T)];exact(((t.trans A).trans E).trans Z) b o z
   .rw[Fi hide_self,wk P,fW,gA (by exact aQ d),cY];exact kI.snoc (kI.mono (j7 ((A.trans E).trans Z)) _ _ I) a2
  .rw[aK d];refine iteF ?_;refine⟨l.length-(i+1),by lia,rfl,p,t.trans (A.trans E),E _ _ u,?_⟩;rw[wk P,fW,List.filter_cons_of_neg (by simpa using d),List.filter_nil,aV];exact kI.mono (j7 (A.trans E)) _ _ I
 .have e:i=l.length:=by lia
  subst e;refine .inl ⟨w H t,hQ H y t U ?_⟩;rw[gL]at I;exact I
end
def acU {P:Program}{w:World}{K:Fg}{mg:Mg}{base:Heap}{G:Gx}{k:Nat}{x:Str}{st:Stmt}{N:Ls}{f:Addr}{i:FuncData}{y:Str}(F:Fun K x x st f i)(S:FnScope N [y] (defScope st))
  (e:∀(d:Value) (A:Around) (outer:List Env) (s:Shared) (H:Hp) (E:XK),Room k (A.deeper (envOfC x (defScope st) s.heap.objs.size f d)) -> ∃fs,PSs (cxOf CX0 P w K mg base N x (defScope st) f d A outer s H E).nox (defBody st) (ts K G ER0 fs)/\∀ns:List Int,ns.length<=63->(∀m∈ns,Builtin.Int.intBits m<=2^20)->fs { nx:=λ_=>False,rt:=λp=>p=.bl true } (kh N [.scr ns])):FnOk P w K mg base CX0 (k+1) f i [y] (u9 K):=by
 refine F.ok S (λu H Q E h=>?_) λd A outer s H u Q E t h=>?_
 .obtain⟨a,ns,rfl,_⟩:=h;rfl
 obtain⟨a,ns,rfl,n,r,o,q⟩:=h;obtain⟨fs,b,c⟩:=e d A outer s H E t;have l:kI K G (mn H λ_=>false) [.scr ns] [.ref a]:=⟨_,_,rfl,⟨a,rfl,by rw[abP];exact n⟩,rfl⟩;refine⟨_,b,⟨H,λ_=>false⟩,kh N [.scr ns],_,⟨_,nJ (λ_ z=>by cases z) l⟩,c ns r o,⟨λ_ _ _ _ h=>h.elim,λv j p B g h=>?_,λ_ _ _ _ _ _ h=>h.elim,λ_ _ _ _ _ h=>h.elim,λ_ _ _ _ h=>h,λ_ _ _ _ h=>h,λ_ _ _ _ _ h=>h⟩⟩;have h:p=.bl true:=h;subst h;have g:v=.bl true:=g;subst g;exact q j
end L3
namespace L2
def T5 (l c:Int)(n:Nat):It:=⟨λi _=>i<n,λi H x h=>h=H/\x=.int (l+i*c),λi _=>n<=i⟩
def Jw {P:Program}{w:World}{K:Fg}{R:Expr}(d:Addr)(m c:Int)(n:Nat):Turn P w K R (T5 m c n) [d] d (λi h=>IsRangeIter h d (m+(i:Nat)*c) ((n:Int)-(i:Nat)) c) where
 mem:=by simp
 obj:=λi h a b f=>by
  have e:b=d:=by simpa using f
  subst e;exact⟨_,a,λv z=>by
   have S:Data.fields _=Data.cell v:=z;cases S⟩
 keep:=λi h j a k=>k d (by simp) _ a
 item:=by intro X B F A C i p s J H E I l a D;subst B F A;obtain⟨q,r,N,u,x,y⟩:=l d (by simp);have W:=Walks.range (prog:=X.prog) (w:=X.w) (I.ok.hd C) d m c n;refine W.item i s _ _ D a λv j G O g Q=>?_;obtain⟨t,rfl⟩:=O;have L:Inv X p J H { s with heap:=j,toks:=G }:=I.turned (λb o f e=>Q b o (by simpa using f) e) q r u x y;exact⟨_,rfl,go_of (s:={ s with heap:=j,toks:=G }) (n:="range_iterator") g rfl rfl (by decide) ⟨.int (m+i*c),H,L,⟨t,rfl⟩,⟨rfl,rfl⟩,g,λb f=>(l b f).1⟩⟩
 done:=by intro X B F A C i p s J H E I l a D;subst B F A;obtain⟨q,r,N,u,x,y⟩:=l d (by simp);exact wpAny_pyNext_range_end (I.ok.hd C) a (by have:n<=i:=D;lia) λj M=>⟨rfl,I.turned (t':=s.toks) (λb o f e=>M b o f e) q r u x y⟩
 self:=λ_ _ _ _ _ a h=>wpAny_pyIter_rangeiter a h
def JH {g:TG}{t:TS}{D:Ends}{l c:Int}{n:Nat}{a:St}{H:Hp}(P:Nat->St->Hp->Prop)(h0:P 0 a H)(q:∀i a H,i<n->P i a H->g (.int (l+i*c)) a H λf j=>t { D with nx:=P (i+1),ct:=P (i+1),bk:=D.nx } f j)(o:∀a H,P n a H->D.nx a H) :
  ∃W:Nat->Nat->St->Hp->Prop,(∃m,W 0 m a H)/\∀i m a H,W i m a H ->
   ((T5 l c n).stop i H/\D.nx a H)\/((T5 l c n).go i H/\∃N:St->Hp->Prop,(∀d h,N d h -> ∃k,k<m/\W (i+1) k d h)/\∀x h,(T5 l c n).yld i H x h -> g x a h λf j=>t { D with nx:=N,ct:=N,bk:=D.nx } f j):=by
 refine⟨λi m a H=>m=n-i/\i<=n/\P i a H,⟨n,by simp,bA _,h0⟩,?_⟩;rintro i m a H ⟨rfl,s,p⟩;by_cases b:i<n
 .refine .inr ⟨b,P (i+1),λd h r=>⟨n-(i+1),by lia,rfl,b,r⟩,λx h y=>?_⟩;obtain⟨rfl,rfl⟩:=y;exact q i a _ b p
 .have e:i=n:=by lia
  subst e;exact .inl ⟨aB _,o a H p⟩
end L2
namespace L3
open L2
mutual
def dat:PV->PyData
 | .int n=>.int n
 | .bl b=>.bool b
 | .non=>.none
 | .str s=>.str s
 | .ints a=>.list (a.map PyData.int)
 | .lst xs=>.list (aaV xs)
 | .tup xs=>.tuple (aaV xs)
 |_=>.none
def aaV:List PV->List PyData
 |[]=>[]
 |p::ps=>dat p::aaV ps
end
def eqD (p q:PV):Prop:=PySem.Spec.same (dat p) (dat q)=true
instance (p q:PV):Decidable (eqD p q):=inferInstanceAs (Decidable (_=true))
def tR (K:Fg)(G:Gx)(C:En->Prop)(F:En->Rs)(E:XK):TE:=λb H Q=>∃B a O,Rep K G B b H a O/\C a/\(∀p,F a=.val p->∀v h,Same H h -> At K G (mn h O) p v->Q v h)/\∀c,F a=.err c->∀h,Same H h -> E (.ref c) none h
abbrev PR (X:Cx)(G:Gx)(e:Expr)(C:En->Prop)(F:En->Rs):Prop:=∀E,Passes (sZ X.prog X.w) X E->PE X e (tR X.K G C F E)
def abG (C:Addr)(n:Nat)(pre:List Int->Prop)(F:List Int->(List (Str×V)) ⊕ Addr):Sp:=λv H Q E=>∃(x d:Addr) (a:List Int),a.length=n/\v=.ref x::a.map V.int/\H x=some (.ins C d [])/\pre a/\(∀fs,F a=.inl fs->∀h,Same H h -> Q .non (upd h x (.ins C d fs)))/\∀c,F a=.inr c->∀h,Same H h -> E (.ref c) none h
def szF (fs:List (Str×V)):Int:=match fs.lookup ("size":Str) with
 |some (.int z)=>z
 |_=>0
def mkR:(List (Str×V)) ⊕ Addr->Rs
 | .inl fs=>.val (.ob 0 (szF fs))
 | .inr c=>.err c
def Jh (a:H x=none)(h:H dx=none):Same H (upd (upd H dx (.own x)) x (.ins C dx [])):=pY λb o e=>by rw[upd_ne (ne_of_none e a),upd_ne (ne_of_none e h)];exact e
def Tq (h:H x=none)(c:H dx=none)(s:Same (upd (upd H dx (.own x)) x (.ins C dx [])) a):Same H (upd a x (.ins C dx fs)):=λb o e=>by rw[upd_ne (ne_of_none e h)];exact((Jh h c).trans s) b o e
section
variable {X:Cx}{G:Gx}{N:ER}{E:XK}{e:Expr}{r:List Expr}{pos p A:Pos}{i j k l:Nat}{x y n:Str}{L:List Str}{pre:List PV->Prop}{C:En->Prop}{b:En->List PV}{g:En->PV}{F:List PV->Rs}{f:En->Rs}{M u:Addr}{U J pn t S T:Pos}
def M8 (o:OkI X.prog X.w X.K X.mg X.base (sZ X.prog X.w) j x u L (abG u m preN FN))(hr:Room k X.A)(hG:∀(H:Hp) (a w:Addr) (ns:Li) (fs:List (Str×V)),preN ns->FN ns=.inl fs->H a=some (.ins u w fs)->G.ob 0 H a (szF fs))(ha:PA X (e::r) (z8 X.K G C b))(hn:∀d,(b d).length=m:=by intro _;rfl)(hj:j+1<=k:=by decide)(hg:Gl X x:=by rfl)(D:(x == ("__debug__":Str))=false:=by decide)
  (he:starEach (e::r) X.env=(false,eval e X.env)::starEach r X.env:=by rfl) (P:(backTo pos (starEach r X.env)).any (·.1)=false:=by rfl):PR X G (.Call (.Name x p) (e::r) [] pos) (λd=>C d/\Cw (b d)/\preN (nZ (b d))) λd=>mkR (FN (nZ (b d))):=
 λE hx v s σ H Q I ⟨B,d,O,R,c,q,qe⟩=>HJ o hr hx ha hj hg D he P v s σ H Q I ⟨B,d,O,R,c.1,λvs H1 s1 a1=>λy w Y hd hne=>by
  have ev:=a1.ints c.2.1;have el:(nZ (b d)).length=m:=by rw[<- hn d,a1.length,ev,ae]
  refine⟨y,w,nZ (b d),el,by rw[aV,ev],upd_same,c.2.2,λfs h H' Z=>⟨rfl,q (.ob 0 (szF fs)) (by dsimp only;rw[h];rfl) (.ref y) _ (s1.trans (Tq Y hd Z)) ⟨y,rfl,hG _ _ w _ _ c.2.2 h ?_⟩⟩,λcc z H' Z=>qe cc (by dsimp only;rw[z];rfl) H' ((s1.trans (Jh Y hd)).trans Z)⟩;rw[M5 (R.grow s1).dom Y];exact upd_same⟩
def V3 (h:PR X G e C f):PE X e (tX X.K G (λd=>C d/\(f d).isV) λd=>(f d).get):=
 λm s D H Q I ⟨B,d,O,R,c,q⟩=>h E0 Uz m s D H Q I ⟨B,d,O,R,c.1,λp t v w s a=>q v w s (by dsimp only;rw[t];exact a),λP o=>by
  have z:=c.2;rw[o]at z;exact z.elim⟩
def G7 (h:PR X G e C f)(Z:Passes (sZ X.prog X.w) X E)(z:X.N.Nodup)(Q:X.N[i]?=some y)(hy:Loc X.env.scope y)(Y:swapsWith e (some (.Name y J)) pos.line X.env=pure false:=by rfl)
  (I:X.fn y=true\/X.env.scope.names.lookup y=some .local:=by walk_at "w"):PS X (.Assign [.Name y J] e pos) (ts X.K G (erE E) λP a=>C a/\(∀p,f a=.val p->P.nx (a.set i (.fr p)))/\∀c,f a=.err c->P.er c):=
 toS (ps_set z Q hy (h E Z) Y I) λB σ H a O P D R c w=>⟨B,a,O,R,c.1,λp t v d s q=>w.nx _ d _ ⟨O,(R.grow s).set q⟩ (c.2.1 p t),λo m d s=>w.er d o _ R.same s (c.2.2 o m)⟩
structure KSz (K:Fg)(G:Gx):Prop where
 sz:∀(H:Hp) (a:Addr) (z:Int),G.ob 0 H a z->∃C dx fs,H a=some (.ins C dx fs)/\Cls K C/\NoAttr K C "size"/\fs.lookup ("size":Str)=some (.int z)
def pvZ:PV->Int
 | .ob _ z=>z
 |_=>0
def KQ (P:KSz X.K G)(he:PE X e (tX X.K G C g))(Y:attributeBase e "size" X.env (eval e X.env)=eval e X.env:=by rfl):PE X (.Attribute e "size" pos) (jW X.K G (λd=>C d/\g d=.ob 0 (pvZ (g d))) λd=>pvZ (g d)):=
 mD (pe_fld he Y) λB σ H d O Q R c q=>⟨B,d,O,R,c.1,λv o Z h=>by
  rw[c.2]at h;obtain⟨a,rfl,ob⟩:=h;obtain⟨m,s,fs,w,z,D,I⟩:=P.sz _ _ _ ob;exact⟨a,m,s,fs,_,rfl,jx _ _ w,z,D,I,q _ o Z rfl⟩⟩
def vp:PV->Bool
 | .non=>true
 |_=>false
def Y9:PV->Prop
 | .non=>True
 | .ob _ _=>True
 | .ints _=>True
 |_=>False
def aat (he:PE X e (tX X.K G C g)):PT X (.Compare e [.Is] [.Constant .none k2 p] pos) (t6 X.K G (λd=>C d/\Y9 (g d)) λd=>vp (g d)=true):=
 λo s Z H Q I ⟨B,d,O,R,c,q⟩=>pt_cmpR op_isN he pe_non (nomark _) o s Z H Q I ⟨B,d,O,R,c.1,λv D Y m=>⟨rfl,_,rfl,by
  have z:=q D Y;have w:decide (v=V.non)=decide (vp (g d)=true):=by
   have h:=c.2;revert m h;generalize g d=P;intro m h;cases P<;>first|exact h.elim|skip
   .rw[m];rfl
   .obtain⟨a,rfl,_⟩:=m;rfl
   .obtain⟨a,rfl,_⟩:=m;rfl
  rw[w];exact z⟩⟩
def Xv [∀a,Decidable (pb a)](w:X.mg "int"=none)(he:PE X e (GF X.K G C pb))(s:Gl X "int":=by rfl)(h:starEach [e] X.env=[(false,eval e X.env)]:=by rfl):PE X (.Call (.Name "int" p) [e] [] pos) (jW X.K G C λa=>if pb a then 1 else 0):=
 mD (pe_callTy call_int1 s w rZ (pa_cons he pa_nil h) (by decide) (by decide) h rfl) λB D H a O Q R c q=>⟨B,a,O,R,c,λv m z o=>by
  subst o;refine .inr ⟨_,rfl,q _ m z ?_⟩;show V.int (if decide (pb a)=true then 1 else 0)=V.int (if pb a then 1 else 0);by_cases d:pb a
  .rw[ai d,ai (aQ d)]
  .rw[ag d,ag (by rw[aK d];decide)]⟩
end
end L3
namespace L2
def ac8 (k:Hp->Addr->Int->Prop)(a:Addr)(z:Int)(n:Nat)(pre:Int->List Int->Prop)(F:Int->List Int->Int ⊕ Addr):Sp:=λv H Q E=>∃b:List Int,b.length=n/\v=.ref a::b.map V.int/\k H a z/\pre z b/\(∀c,F z b=.inl c->∀h,Same H h -> Q (.int c) h)/\∀e,F z b=.inr e->∀h,Same H h -> E (.ref e) none h
structure KME (P:Program)(w:World)(K:Fg)(mg:Mg)(base:Heap)(k:Nat)(KA:Hp->Addr->Int->Prop)(m:Str)(n:Nat)(pre:Int->List Int->Prop)(F:Int->List Int->Int ⊕ Addr):Prop where
 ex:∀H a z,KA H a z->∃C dx fs ps,H a=some (.ins C dx fs)/\fs.lookup m=none/\QL P w K mg base (sZ P w) k C m ps (ac8 KA a z n pre F)
end L2
namespace L3
open L2
def xN:Int ⊕ Addr->Rs
 | .inl c=>.val (.int c)
 | .inr e=>.err e
def Eh {r:Hp->Addr->Int->Prop}{p:Int->List Int->Prop}{F:Int->List Int->Int ⊕ Addr}{pl:Sem Bool}(i:Nat)(M:KME X.prog X.w X.K X.mg X.base j r m n p F)(hr:Room k X.A)(ha:PA X (e::l) (z8 X.K G C o))(hn:∀b,(o b).length=n:=by intro _;rfl)(hG:∀H a z,G.ob 0 H a z->r H a z:=by first|exact λ_ _ _ h=>h.2|exact λ_ _ _ h=>h.elim (λz=>z.2) λz=>absurd z.1 (by decide))(t:∀{H g:Hp} {a:Addr} {z:Int},r H a z->Same H g -> r g a z:=by first|exact λh s=>KAt.same h s|exact λh s=>h.same s)(hj:j<=k:=by decide)
  (hN:X.N[i]?=some x:=by rfl) (hv:Vis X.env.scope x:=by walk_at "v") (hd:(x == ("__debug__":Str))=false:=by decide) (y:(x == ("__classdict__":Str))=false:=by decide)
  (J:starEach (e::l) X.env=(false,eval e X.env)::starEach l X.env:=by rfl) (D:(backTo pos (starEach l X.env)).any (·.1)=false:=by rfl)
  (ht:eval (.Call (.Attribute (.Name x S) m d) (e::l) [] pos) X.env=(do
   let ov <- eval (.Name x S) X.env
   standAt d.atName
   let (f,first) <- holding [ov] (getMethod ov m pl)
   callWith pos f first (backTo pos (starEach (e::l) X.env)) (backToKw pos (keywordEach [] X.env))):=by rfl) :
  PR X G (.Call (.Attribute (.Name x S) m d) (e::l) [] pos) (λb=>isK b i/\C b/\Cw (o b)/\p (JZ b i) (nZ (o b))) λb=>xN (F (JZ b i) (nZ (o b))):=by
 rintro E hx w s σ H Q I ⟨B,b,O,R,⟨Z,c1,c2,c3⟩,q,qe⟩;obtain⟨v,e1,a,rfl,ka⟩:=R.fr i _ Z;have u:r H a (JZ b i):=t (hG _ _ _ ka) jx;obtain⟨Cl,dx,fs,ps,f1,f2,U⟩:=M.ex H a _ u;obtain⟨f,fd,T,Y,mm,cc⟩:=U.ex;refine pe_meth (pe_var hN hv hd y) cc mm (T.mono hj) hr Y .nil hx ha J D ht w s σ H Q I ⟨_,e1,a,dx,fs,rfl,f1,f2,B,b,O,R,c1,λvs H1 N P=>?_⟩;have ev:=P.ints c2;have el:(nZ (o b)).length=n:=by rw[<- hn b,P.length,ev,ae]
 exact⟨nZ (o b),el,by rw[aV,ev],t u N,c3,λc hc g L=>q (.int c) (by dsimp only;rw[hc];rfl) _ g (N.trans L) rfl,λer A g L=>qe er (by dsimp only;rw[A];rfl) g (N.trans L)⟩
section
variable {X:Cx}{G:Gx}{a b c e:Expr}{p pos:Pos}{C f h i:En->Prop}{j gb g:En->PV}{k:En->List Int}
def Ol [∀l,Decidable (pt l)](u:PT X c (t6 X.K G i pt))(r:PE X a (tX X.K G f j))(t:PE X b (tX X.K G h gb)):PE X (.IfExp c a b pos) (tX X.K G (λl=>i l/\(pt l->f l)/\(¬pt l->h l)) λl=>if pt l then j l else gb l):=
 mD (pe_ifExp u r t) λB x H l O Q R c q=>⟨B,l,O,R,c.1,λw s=>by
  by_cases d:pt l
  .rw[aQ d];refine iteT ⟨B,l,O,R.grow s,c.2.1 d,λv m o n=>q v m (s.trans o) ?_⟩;rw[ai d];exact n
  .rw[aK d];refine iteF ⟨B,l,O,R.grow s,c.2.2 d,λv m o n=>q v m (s.trans o) ?_⟩;rw[ag d];exact n⟩
end
end L3
namespace L2
def abI (t:TA):TI:=λa H R=>t a H λv h=>∃i j:Int,v=[.int i,.int j,.int (-1)]/\(-(2^62)<=i/\i<2^62 /\ -(2^62)<=j/\j<2^62)/\R (T5 i (-1) (i-j).toNat) h
def Ou (D:Gl X "range")(E:X.mg "range"=none)(B:PA X [a,b,c] N)(F:starEach [a,b,c] X.env=(false,eval a X.env)::starEach [b,c] X.env:=by rfl)(n:(backTo pos (starEach [b,c] X.env)).any (·.1)=false:=by rfl) :
  PI X Y (.Call (.Name "range" p) [a,b,c] [] pos) (abI N):=by
 intro g s w H R I h;refine Call_ (ld_blt I D E boot_range (bN (thn (B pos g s w H _ I h) λZ k ⟨vs,v,y,M,J⟩=>?_) F n));obtain⟨i,j,e,⟨O,P,Q,S⟩,q⟩:=J;subst e;cases M with
 |cons r l=>
  cases l with
  |cons L l=>
   cases l with
   |cons u l=>
    cases l;obtain⟨t,rfl⟩:=r;obtain⟨t',rfl⟩:=L;obtain⟨d,rfl⟩:=u;refine call_range_3 (by lia) ?_ (.inl (gO (by lia)));have sz:(((i-j).toNat:Nat):Int)=Builtin.Range.rangeSize i j (-1):=by
     unfold Builtin.Range.rangeSize;rw[ag (by decide)];split
     .have:(i-j-1) / (-(-1:Int))=i-j-1:=by rw[show -(-1:Int)=1 from rfl,Int.ediv_one]
      rw[this];lia
     .lia
    refine wpAny_pyIter_range (IsRange.new ..) ?_ ?_
    .unfold Builtin.Range.small;rw[<- sz];have f:∀x:Int,-(2^63)<=x->x<2^63->Builtin.Range.rangeFitsLong x=true:=λx z A=>by unfold Builtin.Range.rangeFitsLong;rw[bj,gq,gq];exact⟨z,A⟩
     have T:(0:Int)<=(((i-j).toNat:Nat):Int):=cL _;have U:(((i-j).toNat:Nat):Int)<2^63:=by lia
     generalize (((i-j).toNat:Nat):Int)=G at *
     simp[f i (by lia) (by lia),f j (by lia) (by lia),f (-1) (by decide) (by decide),f G (by lia) (by lia),f (j+0) (by lia) (by lia)]
    have m:Inv X g w v { k with heap:=k.heap.push { cls:=.type "range",data:=.fields #[.int i t,.int j t',.int (-1) d] },toks:=k.toks }:=y.kept λb o e=>af _ e;refine⟨(k.heap.push { cls:=.type "range",data:=.fields #[.int i t,.int j t',.int (-1) d] }).objs.size,[(k.heap.push { cls:=.type "range",data:=.fields #[.int i t,.int j t',.int (-1) d] }).objs.size],_,_,v,rfl,m.kept (t':=k.toks) λb o e=>af _ e,Jw _ i (-1) (i-j).toNat,?_,λb C=>?_,q⟩
    .show IsRangeIter _ _ (i+((0:Nat):Int)*(-1)) ((((i-j).toNat:Nat):Int)-((0:Nat):Int)) (-1);rw[sz,show i+((0:Nat):Int)*(-1)=i by simp,show Builtin.Range.rangeSize i j (-1)-((0:Nat):Int)=Builtin.Range.rangeSize i j (-1) by simp];exact aP _ rfl
    .have e:b=(k.heap.push { cls:=.type "range",data:=.fields #[.int i t,.int j t',.int (-1) d] }).objs.size:=by simpa using C
     subst e;exact m.fpOk (aB _) (m.hok.fresh (aB _))
def tF3 (u:Str)(t c:TE):TE:=λa H Q=>t a H λx h=>∃y,x=.str y/\y.length<=sizeLine/\(y++u).length<=sizeLine/\c a h λz b=>∃n:Int,z=.int n/\n.natAbs.log2<1920/\(y++u++(toString n:Str)).length<=sizeLine/\Q (.str (y++u++(toString n:Str))) b
def empty_app (y:Str):Str.empty++y=y:=by cases y;show Str.mk (#[]++_)=_;rw[Array.empty_append]
def abQ (q:PE X a G)(r:PE X b tb):PE X (.JoinedStr [.FormattedValue a (-1) none L,.Constant (.str u) j M,.FormattedValue b (-1) none A] pos) (tF3 u G tb):=by intro p s d H Q I h;refine JoinedStr_many ?_;refine ce (FormattedValue_plain (thn (q p s d H _ I h) λv F ⟨x,f,k,D,y,c,l,w,B⟩=>?_));subst c;obtain⟨t,rfl⟩:=D;refine formatField_str (λO J=>?_) l;refine⟨by rw[empty_app];exact l,?_⟩;rw[empty_app];refine ce (cn ?_);refine⟨w,?_⟩;show wpAny _ _ (joinParts (y++u) [eval (.FormattedValue b (-1) none A) X.env]) _ _ _;have m:Inv X p d f { F with toks:=J+1 }:=k.kept λ_ _ e=>e;refine ce (FormattedValue_plain (thn (r p _ d f _ m B) λv N ⟨x,i,o,E,n,c,z,g,C⟩=>?_));subst c;obtain⟨P,rfl⟩:=E;refine eQ z ?_;refine⟨g,?_⟩;refine gB ?_ g;exact⟨.str _,i,o.kept λ_ _ e=>e,⟨_,rfl⟩,C⟩
end L2
namespace L3
open L2
def jq (j:PE X a (pO X.K G C g))(k:PE X b (pO X.K G e gb)):PE X (.BinOp a .Add b pos) (pO X.K G (λd=>C d/\e d/\(g d).length+(gb d).length<=sizeLine) λd=>g d++gb d):=
 mD (pe_op op_add_str j k) λB m H d O Q R c q=>two R c.1 c.2.1 λ_ _ _ h s l f i=>⟨_,_,f,i,c.2.2,q _ h (s.trans l) rfl⟩
def tG (g:X.mg "str"=none)(e:PE X a (jW X.K G C gi))(f:Gl X "str":=by rfl)(he:starEach [a] X.env=[(false,eval a X.env)]:=by rfl):PE X (.Call (.Name "str" p) [a] [] pos) (pO X.K G (λb=>C b/\(gi b).natAbs.log2<1920) λb=>(toString (gi b):Str)):=
 mD (pe_callTy call_str_int f g aaA (pa_cons e pa_nil he) (by decide) (by decide) he rfl) λB i H b O Q R c q=>⟨B,b,O,R,c.1,λv h s d=>by
  subst d;exact⟨_,rfl,c.2,q _ h s rfl⟩⟩
def acn (k:PE X a (pO X.K G C g))(l:PE X b (jW X.K G e gi)):PE X (.JoinedStr [.FormattedValue a (-1) none p,.Constant (.str u) j o,.FormattedValue b (-1) none r] pos) (pO X.K G (λd=>C d/\e d/\(g d).length<=sizeLine/\(g d++u).length<=sizeLine/\(gi d).natAbs.log2<1920/\(g d++u++(toString (gi d):Str)).length<=sizeLine) λd=>g d++u++(toString (gi d):Str)):=
 mD (abQ k l) λB t H d O Q R c q=>⟨B,d,O,R,c.1,λv n s f=>⟨_,f,c.2.2.1,c.2.2.2.1,B,d,O,R.grow s,c.2.1,λw h m i=>⟨_,i,c.2.2.2.2.1,c.2.2.2.2.2,q _ h (s.trans m) rfl⟩⟩⟩
def u5 (l:PE X a (pO X.K G C g))(m:PE X b (pO X.K G f gb)):PT X (.Compare a [.Eq] [b] pos) (t6 X.K G (λd=>C d/\f d) λd=>g d=gb d):=
 λp s r H Q I ⟨_,d,_,R,c,q⟩=>pt_cmpR op_eq l m (nomark _) p s r H Q I (two R c.1 c.2 λv u _ i n o j k=>by
  subst j k;refine⟨rfl,_,rfl,?_⟩;have e:decide (V.str (g d)=V.str (gb d))=decide (g d=gb d):=by rw[decide_eq_decide];exact⟨λh=>by injection h,λh=>by rw[h]⟩
  rw[e];exact q i (n.trans o))
def aau (l:PE X a (pO X.K G C g))(m:PE X b (pO X.K G f gb)):PE X (.Compare a [.Eq] [b] pos) (GF X.K G (λd=>C d/\f d) λd=>g d=gb d):=
 mD (pe_cmpR op_eq l m (nomark _)) λB o H d O Q R c q=>two R c.1 c.2 λv u _ i s n j k=>by
  subst j k;refine⟨rfl,?_⟩;have e:decide (V.str (g d)=V.str (gb d))=decide (g d=gb d):=by rw[decide_eq_decide];exact⟨λh=>by injection h,λh=>by rw[h]⟩
  rw[e];exact q _ i (s.trans n) rfl
def GR:PV->Str
 | .str x=>x
 |_=>Str.empty
def jX (h:PE X e (tX X.K G C g)):PE X e (pO X.K G (λb=>C b/\g b=.str (GR (g b))) λb=>GR (g b)):=
 mD h λB f H b O Q R c q=>⟨B,b,O,R,c.1,λv d s a=>q v d s (by rw[c.2]at a;exact a)⟩
def NZ [∀e,Decidable (pt e)](l:PT X c (t6 X.K G i pt))(j:PE X a (pO X.K G C g))(k:PE X b (pO X.K G f gb)):PE X (.IfExp c a b pos) (pO X.K G (λe=>i e/\(pt e->C e)/\(¬pt e->f e)) λe=>if pt e then g e else gb e):=
 mD (Ol l j k) λB m H e O Q R c q=>⟨B,e,O,R,c,λv h s a=>q v h s (by
  have a:At X.K G (mn h O) (if pt e then .str (g e) else .str (gb e)) v:=a;show v=.str (if pt e then g e else gb e);by_cases d:pt e
  .rw[ai d]at a ⊢;exact a
  .rw[ag d]at a ⊢;exact a)⟩
def jQ (h:X.N.Nodup)(d:X.N[i]?=some x)(j:Loc X.env.scope x)(he:PE X e (pO X.K G C g))(f:swapsWith e (some (.Name x p)) pos.line X.env=pure false:=by rfl)
  (b:X.fn x=true\/X.env.scope.names.lookup x=some .local:=by walk_at "w"):PS X (.Assign [.Name x p] e pos) (ts X.K G E λP a=>C a/\∀n,n=g a->P.nx (a.set i (.fr (.str n)))):=
 toS (yV h d j he f b) λB k _ a O P D R c w=>⟨B,a,P,⟨O,R⟩,⟨c.1,c.2 _ rfl⟩,w⟩
def sr (q:X.N.Nodup)(s:X.N[i]?=some x)(t:Loc X.env.scope x)(he:PE X e (pO X.K G C g))
  (r:X.fn x=true\/X.env.scope.names.lookup x=some .local:=by walk_at "w"):PS X (.AugAssign (.Name x d) .Add e pos) (ts X.K G E λP a=>isS a i/\C a/\(T6 a i).length+(g a).length<=sizeLine/\∀n,n=T6 a i++g a->P.nx (a.set i (.fr (.str n)))):=
 toS (ps_aug q s t he iop_add_str r) λB z H a O _ _ R c w=>by obtain⟨j,k,l,m⟩:=c;obtain⟨v,o,b⟩:=R.fr i _ j;have b:v=.str (T6 a i):=b;subst b;exact⟨_,o,B,a,O,R,k,λu h y f=>⟨_,_,rfl,f,l,w.nx _ h _ ⟨O,(R.grow y).set (p:=.str _) rfl⟩ (m _ rfl)⟩⟩
def Uv {g h:En->Int}(hp:PassesOwn (model X.prog X.w) X.A X.env X.xe)(hc:X.calm=true)(hg:Gl X "range")(hm:X.mg "range"=none)(ha:PE X a (jW X.K G C g))(q:PE X b (jW X.K G S h))(s:PE X c (jW X.K G T λ_=>-1))(hN:X.N.Nodup)(z:X.N[k]?=some x)(hx:Loc X.env.scope x)
  (hb:PSs X body (ts X.K G U f)) (N:starEach [a,b,c] X.env=(false,eval a X.env)::starEach [b,c] X.env:=by rfl) (E:starEach [b,c] X.env=(false,eval b X.env)::starEach [c] X.env:=by rfl) (F:starEach [c] X.env=[(false,eval c X.env)]:=by rfl) (A:(backTo e (starEach [b,c] X.env)).any (·.1)=false:=by rfl) (y:∀x,foldedSetIterable (.Call (.Name "range" p) [a,b,c] [] e) X.env x=pure x:=by intro _;rfl)
  (hf:X.fn x=true\/X.env.scope.names.lookup x=some .local:=by walk_at "w") :
  PS X (.For (.Name x px) (.Call (.Name "range" p) [a,b,c] [] e) body [] pos) (ts X.K G U λP d=>(C d/\S d/\T d)/\(-(2^62)<=g d/\g d<2^62 /\ -(2^62)<=h d/\h d<2^62) /\ ∃W:Nat->En->Prop,W 0 d/\(∀i ρ',i<(g d-h d).toNat->W i ρ' -> f (P.lp (W (i+1))) (ρ'.set k (.fr (.int (g d+i*(-1))))))/\∀ρ',W (g d-h d).toNat ρ' -> P.nx ρ'):=
 toS (ps_for hp hc (Ou hg hm (pa_cons ha (pa_cons q (pa_cons s pa_nil F) E) N) N A) (pg_name hN z hx hf) hb y) λB j H d O P D R cc w=>by
  obtain⟨⟨c1,c2,c3⟩,l,W,w0,L,nd⟩:=cc;refine⟨B,d,O,R,c1,λv H1 J m=>⟨B,d,O,R.grow J,c2,λu H2 Q n=>⟨B,d,O,(R.grow J).grow Q,c3,λt H3 s3 o=>?_⟩⟩⟩;have m:v=.int (g d):=m;have n:u=.int (h d):=n;have o:t=.int (-1):=o;subst m n o;refine⟨g d,h d,rfl,l,JH (λi j H=>∃ρ',xg X.K G B j H ρ'/\W i ρ') ⟨d,⟨O,((R.grow J).grow Q).grow s3⟩,w0⟩ ?_ ?_⟩
  .rintro i j H z ⟨ρ',⟨Z,r⟩,I⟩;exact⟨B,_,_,⟨Z,r.set (p:=.int _) rfl⟩,L i ρ' z I,⟨λM Y ρ' r h=>⟨ρ',r,h⟩,w.rt,w.rl,w.rn,w.nx,λM Y ρ' r h=>⟨ρ',r,h⟩,w.er⟩⟩
  .rintro j H ⟨ρ',r,I⟩;exact w.nx j H ρ' r (nd ρ' I)
end L3
namespace L2
def tFM (u w:Str)(t:TE):TE:=λa H Q=>u.length<=sizeLine/\t a H λx h=>∃y,x=.str y/\y.length<=sizeLine/\(u++y).length<=sizeLine/\(u++y++w).length<=sizeLine/\Q (.str (u++y++w)) h
def ab2 (g:PE X a z):PE X (.JoinedStr [.Constant (.str u) j A,.FormattedValue a (-1) none B,.Constant (.str w) j2 o] pos) (tFM u w z):=by rintro p s b H Q I ⟨k,h⟩;refine JoinedStr_many ?_;refine ce (cn ?_);refine⟨by rw[empty_app];exact k,?_⟩;rw[empty_app];have i:Inv X p b H { s with toks:=s.toks+1 }:=I.kept λ_ _ e=>e;refine ce (FormattedValue_plain (thn (g p _ b H _ i h) λv C ⟨x,c,d,r,y,f,m,n,l,q⟩=>?_));subst f;obtain⟨t,rfl⟩:=r;refine formatField_str (λD E=>?_) m;refine⟨n,?_⟩;show wpAny _ _ (joinParts (u++y) [eval (.Constant (.str w) j2 o) X.env]) _ _ _;refine ce (cn ?_);refine⟨l,?_⟩;refine gB ?_ l;exact⟨.str _,c,d.kept λ_ _ e=>e,⟨_,rfl⟩,q⟩
def tFN (u:Str)(t:TE):TE:=λa H Q=>u.length<=sizeLine/\t a H λx h=>∃n:Int,x=.int n/\n.natAbs.log2<1920/\(u++(toString n:Str)).length<=sizeLine/\Q (.str (u++(toString n:Str))) h
def abC (g:PE X a o):PE X (.JoinedStr [.Constant (.str u) j w,.FormattedValue a (-1) none y] pos) (tFN u o):=by rintro p s b H Q I ⟨k,h⟩;refine JoinedStr_many ?_;refine ce (cn ?_);refine⟨by rw[empty_app];exact k,?_⟩;rw[empty_app];have i:Inv X p b H { s with toks:=s.toks+1 }:=I.kept λ_ _ e=>e;refine ce (FormattedValue_plain (thn (g p _ b H _ i h) λv z ⟨x,c,d,r,n,f,m,l,q⟩=>?_));subst f;obtain⟨t,rfl⟩:=r;refine eQ m ?_;refine⟨l,?_⟩;refine gB ?_ l;exact⟨.str _,c,d.kept λ_ _ e=>e,⟨_,rfl⟩,q⟩
end L2
namespace L3
open L2
def abD (e:PE X a (pO X.K G C g)):PE X (.JoinedStr [.Constant (.str u) j p,.FormattedValue a (-1) none f,.Constant (.str w) j2 i] pos) (pO X.K G (λb=>C b/\u.length<=sizeLine/\(g b).length<=sizeLine/\(u++g b).length<=sizeLine/\(u++g b++w).length<=sizeLine) λb=>u++g b++w):=
 mD (ab2 e) λB k H b O Q R c q=>⟨c.2.1,B,b,O,R,c.1,λv h s d=>⟨_,d,c.2.2.1,c.2.2.2.1,c.2.2.2.2,q _ h s rfl⟩⟩
def abK (e:PE X a (jW X.K G C gi)):PE X (.JoinedStr [.Constant (.str u) j p,.FormattedValue a (-1) none f] pos) (pO X.K G (λb=>C b/\u.length<=sizeLine/\(gi b).natAbs.log2<1920/\(u++(toString (gi b):Str)).length<=sizeLine) λb=>u++(toString (gi b):Str)):=
 mD (abC e) λB g H b O Q R c q=>⟨c.2.1,B,b,O,R,c.1,λv h s d=>⟨_,d,c.2.2.1,c.2.2.2,q _ h s rfl⟩⟩
def acd:PV->PV
 | .tup [a,_]=>a
 |_=>.non
def abZ:PV->PV
 | .tup [_,b]=>b
 |_=>.non
def Ul (q:PV):Prop:=q=.tup [acd q,abZ q]
def zY {k j:Nat}{g:En->List PV}{L:Nat}(hp:PassesOwn (model X.prog X.w) X.A X.env X.xe)(hc:X.calm=true)(hl:PE X l (tX X.K G C λb=>.lst (g b)))
  (z:PG X (.Tuple [.Name x px,.Name y py] L tp) (gTup X.K 2 (gCons (gName k) (gCons (gName j) gNil)))) (hb:PSs X body (ts X.K G M f)) (u:∀x,foldedSetIterable l X.env x=pure x:=by intro _;rfl) :
  PS X (.For (.Tuple [.Name x px,.Name y py] L tp) l body [] pos) (ts X.K G M λP b=>(C b/\∀q∈g b,Ul q)/\∃W:Nat->En->Prop,W 0 b /\ (∀i n ρ',(g b)[i]?=some n->W i ρ' -> f (P.lp (W (i+1))) ((ρ'.set k (.fr (acd n))).set j (.fr (abZ n))))/\∀ρ',W (g b).length ρ' -> P.nx ρ'):=
 toS (ps_for hp hc (pi_list hl) z hb u) λB m H b O P D R c w=>by
  obtain⟨⟨U,Y⟩,W,w0,st,nd⟩:=c;refine⟨B,b,O,R,U,λv E s1 Q=>?_⟩;obtain⟨a,vs,e,J,p⟩:=Q;have t:=R.grow s1;have d:=wN t w;have Z:=p.length;refine⟨a,e,⟨_,.inl (jh jx J)⟩,for_list (xs:=vs) (λi m H=>∃ρ',xg X.K G (B.at E O) m H ρ'/\W i ρ') ⟨b,⟨O,t.rebase⟩,w0⟩ ?_ ?_ ?_⟩
  .rintro i m H _ ⟨ρ',⟨F,r⟩,_⟩;exact .inl (jh ((Rep.zg B E O).trans r.same) J)
  .rintro i y m H hy ⟨ρ',⟨F,r⟩,s⟩;obtain⟨n,I,an⟩:=p.get hy;have ip:=Y n (bn I);have o:=At.mono (t.seen r) _ _ an;rw[ip]at o;obtain⟨T,us,rfl,hT,S⟩:=o;obtain⟨v1,r1,rfl,x1,v2,r2,rfl,x2,rfl⟩:=S;refine⟨T,_,rfl,SqT.of (jx _ _ hT),rfl,_,_,rfl,_,_,rfl,rfl,?_⟩;exact⟨_,_,_,⟨F,(r.set x1).set x2⟩,st i n ρ' I s,⟨λA N ρ' r h=>⟨ρ',r,h⟩,d.rt,d.rl,d.rn,d.nx,λA N ρ' r h=>⟨ρ',r,h⟩,d.er⟩⟩
  .rintro m H ⟨ρ',r,s⟩;rw[<- Z]at s;exact d.nx m H ρ' r (nd ρ' s)
def TJ {t:TE}{st:Stmt}{C:En->Prop}{g:En->List PV}(h:PS X st (tAsg t (gName i)))(k:∀d H Q,yZ X.K G C g d H Q->t d H Q):PS X st (ts X.K G E λP b=>C b/\∀ns,ns=g b->P.nx (b.set i (.fr (.lst ns)))):=
 toS h λB d H b O P D R c w=>k d H _ ⟨B,b,O,R,c.1,λa v e s n j f=>w.nx _ e _ ⟨O,(R.grow s).set (p:=.lst _) ⟨a,v,rfl,.inl (by
  rw[lZ]
  .exact j
  .cases z:O a with
   |false=>rfl
   |true=>exact absurd n (R.dom a z)),by
  refine kI.mono ?_ _ _ f;exact tZ qj⟩⟩ (c.2 _ rfl)⟩
def aal (q:PV):Prop:=∃g o,q=.tup [.ints g,.int o]
def aal.pair (h:aal q):Ul q:=by obtain⟨g,o,rfl⟩:=h;rfl
end L3
namespace L2
def Np:∀{bs:List Bool} {its:Lv},Vals (bs.map V.bl) its->its=bs.map Value.bool
 |[],_,h=>by cases h;rfl
 |b::r,_,h=>by
  cases h with
  |cons a c=>have e:_=Value.bool b:=a;rw[Np c,e];rfl
end L2
namespace L3
open L2
section
variable {d:En->List PV}
def VB:PV->Bool
 | .bl b=>b
 |_=>false
def Mm {K:Fg}{H:Hp}:∀{p:List PV} {vs:List V},kI K G H p vs->(∀q∈p,∃b,q=.bl b)->vs=(p.map VB).map V.bl
 |[],_,h,_=>h
 |q::r,_,h,k=>by obtain⟨v,t,rfl,e,z⟩:=h;obtain⟨b,rfl⟩:=k q aA;rw[e,Mm z λq a=>k q (aj _ a)];rfl
def adB (a:En)(i:Nat):Prop:=a[i]?=some (.ow (.lst (xZ (Qq a i))))
def wD (i:Nat)(he:PE X e (tX X.K G C g))(J:X.N[i]?=some x:=by rfl)(M:Vis X.env.scope x:=by walk_at "v")
  (L:(x == ("__debug__":Str))=false:=by decide) (m:(x == ("__classdict__":Str))=false:=by decide)
  (f:attributeBase (.Name x l) "append" X.env (eval (.Name x l) X.env)=eval (.Name x l) X.env:=by rfl)
  (k:((backTo p (starEach (e::[]) X.env)).all (λx=>!x.1) && (backToKw p (keywordEach [] X.env)).all (λx=>x.1.isSome) && decide ((e::[]).length+([]:List Keyword).length+(if ([]:List Keyword).isEmpty then 0 else 1)<30))=true:=by rfl)
  (j:(y.endLine == p.line)=true:=by rfl) (u:starEach (e::[]) X.env=(false,eval e X.env)::starEach [] X.env:=by rfl) (h:(backTo p (starEach [] X.env)).any (·.1)=false:=by rfl)
  (n:swapsWith (.Call (.Attribute (.Name x l) "append" y) [e] [] p) none pos.line X.env=pure false:=by rfl) :
  PS X (.Expr (.Call (.Attribute (.Name x l) "append" y) [e] [] p) pos) (ts X.K G Q λP b=>adB b i/\C b/\(xZ (Qq b i)).length<sizeLine/\P.nx (b.set i (.ow (.lst (xZ (Qq b i)++[g b]))))):=
 toS (ps_expr (pe_bm cZ PySem.F.slot_list_append PySem.F.type_list_append mt_append (pe_var J M L m) (pa_cons he pa_nil u) f k j u h) n) λB N H b O P D R c w=>by obtain⟨o,A,E,F⟩:=c;obtain⟨a,Y,q,T,U,r,t⟩:=R.ow i _ o;have I:=t.length;refine⟨_,q,.inl ⟨rfl,_,SqL.of r⟩,B,b,O,R,A,λv S s z=>?_⟩;refine⟨a,_,_,rfl,rfl,s _ _ r,by rw[<- I];exact E,w.nx N _ _ ⟨O,(R.grow s).change o q (p':=.lst (xZ (Qq b i)++[g b])) ?_⟩ F⟩;exact kI.snoc (kI.mono (j7 s) _ _ t) z
end
section
variable {K:Fg}{G:Gx}{b:L2.St}{H:Hp}{Q:VK}{C d:En->Prop}{g:En->PV}{cap:List (Option Nat)}
def acv {te:TE}{l:En->List PV}(p:PV->Prop){B:Bs}{j:En}{O:Addr->Bool}(R:Rep K G B b H j O)(c1:C j)(c2:(l j).length<=1000)
  (c4:∀q∈l j,∀(B':Bs) (M:L2.St) (A:Hp) (O':Addr->Bool) (T:VK),Same H A->Rep K G B' M A ((jy (none::cap) j).set 0 (.fr q)) O' -> (p q->∀v o,Same A o -> At K G (mn o O') (g ((jy (none::cap) j).set 0 (.fr q))) v->T v o)->te M A T)
  (q:(∀q∈l j,p q)->∀a vs o,Same H o -> H a=none->o a=some (.lst vs)->kI K G (mn o (hide a O)) ((l j).map λq=>g ((jy (none::cap) j).set 0 (.fr q))) vs->Q (.ref a) o) :
  QS (none::cap) (iList K (tX K G C λj=>.lst (l j))) (gName 0) qm te b H Q:=by
 refine⟨B,j,O,R,c1,λv H1 S a1=>?_⟩;obtain⟨a,vs,rfl,Z,I⟩:=a1;have t:SqL K H1 a vs:=.inl (jh jx Z);have U:=I.length;have R1:=R.grow S;refine⟨a,rfl,⟨_,t⟩,λD Y=>?_⟩;have one:∀i n,(l j)[i]?=some n->At K G (mn H1 O) n (vs.getD i .non):=λi n P=>by
  have w:i<vs.length:=by rw[<- U];exact(aC.mp P).1
  obtain⟨n',E,an⟩:=I.get (aa w);rw[P]at E;cases E;rw[gQ,aa w];exact an
 obtain⟨f,hit⟩:∃f:List (Nat×PV),f=(l j).zipIdx.map λz=>(z.2,z.1):=⟨_,rfl⟩;have m:f.length=(l j).length:=by rw[hit,ae,List.length_zipIdx]
 have r:∀(i:Nat) (h:Nat×PV),f[i]?=some h->h.1=i/\(l j)[i]?=some h.2:=λi h e=>by
  rw[hit,aE,hU]at e;cases eg:(l j)[i]? with
  |none=>rw[eg]at e;cases e
  |some n=>rw[eg]at e;have e:=aD e;subst e;exact⟨Nat.zero_add i,rfl⟩
 have u:∀h∈f,(l j)[h.1]?=some h.2:=λh J=>by obtain⟨i,e⟩:=gY.mp J;obtain⟨F,y⟩:=r i h e;rw[F];exact y
 have L:f.map (λh=>g ((jy (none::cap) j).set 0 (.fr h.2)))=(l j).map λq=>g ((jy (none::cap) j).set 0 (.fr q)):=by
  refine gr λi=>?_;rw[aE,aE];by_cases c:i<(l j).length
  .have c':i<f.length:=by lia
   obtain⟨F,y⟩:=r i f[i] (aa c');rw[aa c',y];rfl
  .rw[bQ (show f.length<=i by lia),bQ (show(l j).length<=i by lia)];rfl
 refine G5 (gb:=g) (λh=>p h.2) f (λ_ v=>(lQ (none::cap) b).set 0 (some v)) (λh=>(jy (none::cap) j).set 0 (.fr h.2)) (λh=>vs.getD h.1 .non) R1 Y (by rw[m];exact c2)
  (λi H w s=>⟨vs,vs[i]'(by rw[<- U,<- m];exact w),s.seq t,by rw[aa]⟩) ?_ (λH s=>⟨_,s.seq t,by rw[m,U];exact aB _⟩) (λh H J s R'=>?_) ?_ ?_ ?_
 .rintro i h x H o P s ⟨rfl,hx⟩;obtain⟨F,y⟩:=r i h P;have e3:=hx _ (s.seq t);refine⟨Same.refl _,λkk hk=>?_⟩;rw[F,gQ,e3]at hk;exact hk
 .exact R'.set (At.mono (lG (O:=O) s Y) _ _ (one _ _ (u h J)))
 .intro h;show xP (none::lQ cap b) (some _::lQ cap b);exact lY _
 .intro h A T J s2 R2 k;exact c4 h.2 (bn (u h J)) _ _ _ _ _ (S.trans s2) R2 k
 .intro gd o ys s hd N;refine q (λq Z=>?_) D ys o (S.trans s) (S.free Y) hd ?_
  .obtain⟨i,e⟩:=gY.mp Z;have w:i<f.length:=by rw[m];exact(aC.mp e).1
   obtain⟨F,y⟩:=r i f[i] (aa w);have h3:q=f[i].2:=aD (e.symm.trans y);rw[h3];exact gd _ (bI w)
  have N:kI K G (mn o (hide D O)) (f.map (λh=>g ((jy (none::cap) j).set 0 (.fr h.2)))) ys:=N;rw[L]at N;exact N
def acr {c:En->List PV}(h:yZ K G (λa=>C a/\(c a).length<=1000/\∀q∈c a,d ((jy (none::cap) a).set 0 (.fr q))) (λa=>(c a).map λq=>g ((jy (none::cap) a).set 0 (.fr q))) b H Q) :
  QS (none::cap) (iList K (tX K G C λa=>.lst (c a))) (gName 0) qm (tX K G d g) b H Q:=
 let ⟨_,_,_,R,⟨c1,c2,c4⟩,q⟩:=h
 acv (λ_=>True) R c1 c2 (λq e _ _ _ _ _ _ r k=>⟨_,_,_,r,c4 q e,k tT⟩) λ_=>q
end
section
variable {X:Cx}{G:Gx}{E:ER}{N':List Str}{sc:Scope}{cl:List (Str×Addr)}{cap:List (Option Nat)}{e t S:Expr}{a f P:Pos}{C c:En->Prop}{g gi:En->Int}{d:En->PV}{b:En->List PV}{i:Nat}{x:Str}
def Z8 (L:uB X N' sc cl (none::cap))(k:X.calm=true)(m:PE X S (tX X.K G C λj=>.lst (b j)))(l:∀s H fp,PG (jC X N' sc cl s H fp) t (gName 0))(he:∀s H fp,PE (jC X N' sc cl s H fp) e (tX X.K G c d))(n:∀x,foldedSetIterable S X.env x=pure x:=by intro _;rfl) :
  PE X (.ListComp e [⟨t,S,[],0⟩] sc a) (yZ X.K G (λj=>C j/\(b j).length<=1000/\∀q∈b j,c ((jy (none::cap) j).set 0 (.fr q))) λj=>(b j).map λq=>d ((jy (none::cap) j).set 0 (.fr q))):=
 λp s o H Q I h=>Ab L k (pi_list m) l (λ_ _ _=>oU) he n p s o H Q I (acr h)
def Z2 (L:uB X N' sc cl (none::cap))(q:X.calm=true)(o:Gl X "range")(v:X.mg "range"=none)(u:PE X S (jW X.K G C g))(r:∀s H fp,PG (jC X N' sc cl s H fp) t (gName 0))(he:∀s H fp,PE (jC X N' sc cl s H fp) e (tX X.K G c d))
  (l:starEach [S] X.env=[(false,eval S X.env)]:=by rfl) (w:∀x,foldedSetIterable (.Call (.Name "range" p) [S] [] n) X.env x=pure x:=by intro _;rfl) :
  PE X (.ListComp e [⟨t,.Call (.Name "range" p) [S] [] n,[],0⟩] sc a) (yZ X.K G (λj=>C j/\(0<=g j/\g j<=1000)/\∀k:Nat,k<(g j).toNat->c ((jy (none::cap) j).set 0 (.fr (.int k)))) λj=>(List.range (g j).toNat).map λ(k:Nat)=>d ((jy (none::cap) j).set 0 (.fr (.int k)))):=
 λm s y H Q I h=>Ab L q (pi_range1 o v (pa_cons u pa_nil l) l) r (λ_ _ _=>oU) he w m s y H Q I (adV h)
end
section
variable {K:Fg}{G:Gx}{H:Hp}
def Ir:∀{a:List PV} {vs:List V},kI K G H a vs->∀k:Nat,kI K G H (a.drop k) (vs.drop k)
 |_,_,h,0=>h
 |[],_,h,k+1=>by rw[h];rfl
 |p::r,_,h,k+1=>by obtain⟨u,t,rfl,e,z⟩:=h;exact Ir z k
def Jd:∀{a:List PV} {vs:List V},kI K G H a vs->∀k:Nat,kI K G H (a.take k) (vs.take k)
 |_,_,_,0=>rfl
 |[],_,h,k+1=>by rw[h];rfl
 |p::r,_,h,k+1=>by obtain⟨u,t,rfl,e,z⟩:=h;exact⟨u,t.take k,rfl,e,Jd z k⟩
end
section
variable {X:Cx}{G:Gx}{E:ER}{a b e:Expr}{pos p P:Pos}{C f h:En->Prop}{gb:En->Int}{g:En->PV}{d:En->List PV}{i:Nat}{x:Str}
def Zw (xs:List PV)(l c:Option Int):List PV:=(xs.drop (HT.sIx xs.length 0 l)).take (HT.sIx xs.length xs.length c-HT.sIx xs.length 0 l)
def Bu {M L:Option Expr}{F D:En->Prop}{o n:En->Option Int}(T:PE X a (tX X.K G C λj=>.lst (d j)))(hl:PO X M (Xz X.K G F o))(U:PO X L (Xz X.K G D n)) :
  PE X (.Subscript a (.Slice M L none p2) pos) (yZ X.K G (λj=>C j/\F j/\D j) λj=>Zw (d j) (o j) (n j)):=
 λk s Z H Q I ⟨B,j,O,R,c,q⟩=>pe_slice sl_list T hl U k s Z H Q I ⟨B,j,O,R,c.1,λv H1 u S=>⟨B,j,O,R.grow u,c.2.1,λH2 m=>⟨B,j,O,(R.grow u).grow m,c.2.2,λN w=>by
  obtain⟨l,Y,rfl,r,J⟩:=S;have z:=kI.mono (j7 (m.trans w)) _ _ J;have A:=J.length;refine⟨l,_,rfl,(m.trans w).seq (.inl (jh jx r)),λy t=>q y _ _ (((u.trans m).trans w).trans (same_new t _)) (((u.trans m).trans w).free t) upd_same (kI.mono (lG (same_new t _) t) _ _ ?_)⟩;show kI X.K G (mn N O) (Zw (d j) (o j) (n j)) (cutV Y (o j) (n j));unfold Zw cutV;rw[A];exact Jd (Ir z _) _⟩⟩⟩
end
def KR (c:Addr)(H:Hp)(a:Addr)(z:Int):Prop:=0<z/\∃d fs,H a=some (.ins c d fs)/\fs.lookup ("size":Str)=some (.int z)/\∀m∈xq,fs.lookup m=none
def KR.same (k:KR cR H a z)(s:Same H h):KR cR h a z:=by obtain⟨e0,d,fs,e,r⟩:=k;exact⟨e0,d,fs,s _ _ e,r⟩
def GkR (c:Addr):Gx:=⟨λk H a z=>k=0/\KR c H a z,λ_ _ _ _ _ s h=>⟨h.1,h.2.same s⟩⟩
def gkR (H:Hp)(a d:Addr)(p:Int)(c:FM.zW p)(h:H a=some (.ins cR d [("size",.int p)])):(GkR cR).ob 0 H a p:=by
 have b:∀m∈xq,List.lookup m [("size",V.int p)]=none:=λm b=>by
  have k:∀m∈xq,(m == ("size":Str))=false:=by decide +kernel
  rw[eY,k m b];rfl
 exact⟨rfl,by have:=c.1;lia,d,_,h,rfl,b⟩
def jG (t:List (List Int)):PV:=.lst (t.map PV.ints)
section
variable {f d:En->List PV}
def aa2:PV->Prop
 | .non=>True
 | .int _=>True
 |_=>False
def Yx (he:PE X e (tX X.K G C g)):PT X (.Compare e [.IsNot] [.Constant .none k2 p] pos) (t6 X.K G (λa=>C a/\aa2 (g a)) λa=>¬vp (g a)=true):=
 λb s n H Q I ⟨B,a,O,R,c,q⟩=>pt_cmpR op_notN he pe_non (nomark _) b s n H Q I ⟨B,a,O,R,c.1,λv j m i=>⟨rfl,_,rfl,by
  have z:=q j m;have k:(!decide (v=V.non))=decide (¬vp (g a)=true):=by
   have h:=c.2;revert i h;generalize g a=l;intro i h;cases l<;>first|exact h.elim|skip
   .rw[i];rfl
   .rw[i];rfl
  rw[k];exact z⟩⟩
def zu {K:Fg}{H:Hp}:∀{a q:List PV} {vs us:List V},kI K G H a vs->kI K G H q us->kI K G H (a++q) (vs++us)
 |[],_,_,_,h,k=>by rw[h];exact k
 |p::r,_,_,_,h,k=>by obtain⟨u,t,rfl,e,z⟩:=h;exact⟨u,_,rfl,e,zu z k⟩
def xF (r:PE X a (tX X.K G C λe=>.lst (f e)))(t:PE X b (tX X.K G m λe=>.lst (d e))):PE X (.BinOp a .Add b pos) (yZ X.K G (λe=>C e/\m e/\(f e).length+(d e).length<=sizeLine) λe=>f e++d e):=
 λi s A H Q I ⟨B,e,O,R,c,q⟩=>pe_op N7 r t i s A H Q I (two R c.1 c.2.1 λv u D E j k n o=>by
  obtain⟨l,J,rfl,y,g⟩:=n;obtain⟨b,F,rfl,z,h⟩:=o;have w:=g.length;have x:=h.length;refine⟨l,b,_,_,rfl,rfl,jh jx y,jh jx z,by rw[<- w,<- x];exact c.2.2,λp d=>q p _ _ ((j.trans k).trans (same_new d _)) ((j.trans k).free d) upd_same ?_⟩;exact kI.mono (lG (same_new d _) d) _ _ (zu g h))
def acx (he:PE X e (tX X.K G C λg=>.lst (f g)))(u:∀w,isTrue e X.env w=(do let v <- w;standAt e.pos;holding [v] (truthy v)):=by intro _;rfl):PT X e (t6 X.K G C λg=>¬f g=[]):=
 λp s y H Q I ⟨B,g,O,R,c,q⟩=>pt_truth he u p s y H Q I ⟨B,g,O,R,c,λv k x m=>by
  obtain⟨l,i,rfl,o,n⟩:=m;refine⟨_,.inl ⟨_,.inl (jh jx o),rfl⟩,?_⟩;have z:=q k x;have h:=n.length;have e:(!i.isEmpty)=decide (¬f g=[]):=by
   cases j:f g with
   |nil=>rw[j]at h;have:i=[]:=d6.mp h.symm;rw[this];simp
   |cons a r=>
    rw[j]at h;cases i with
    |nil=>cases h
    |cons b t=>simp
  rw[e];exact z⟩
end
section
variable {K:Fg}{pt:En->Prop}[∀ρ,Decidable (pt ρ)]{g hl:En->List PV}
def vK (a:kI K G (mn H O) p vs)(h:i<p.length):At K G (mn H O) (p.getD i .non) (vs.getD i .non):=by
 have c:=a.length;have b:i<vs.length:=by lia
 obtain⟨n,e,an⟩:=a.get (aa b);rw[gQ,gQ,e,aa b];exact an
def Ng {d e n:Type}(f:d->e->n)(a:d)(b:e)(l:List d)(m:List e):(List.range (min l.length m.length)).map (λi=>f (l.getD i a) (m.getD i b))=(l.zip m).map λp=>f p.1 p.2:=by
 refine gr λi=>?_;rw[aE,aE];by_cases c:i<min l.length m.length
 .have h:i<l.length:=by lia
  have j:i<m.length:=by lia
  have k:(l.zip m)[i]?=some (l[i],m[i]):=by rw[aa (by rw[dA];exact c),gM]
  rw[cG c,k];simp only[dY,gQ,aa h,aa j,Option.getD_some]
 .rw[bQ (by rw[aU];lia),bQ (by rw[dA];lia)];rfl
def abA (h:yZ K G (λρ=>(Cs ρ/\C ρ)/\(g ρ).length<=1000/\∀q r,(q,r)∈(g ρ).zip (hl ρ)->Z (((jy (none::none::cap) ρ).set 0 (.fr q)).set 1 (.fr r))) (λρ=>((g ρ).zip (hl ρ)).map λp=>S (((jy (none::none::cap) ρ).set 0 (.fr p.1)).set 1 (.fr p.2))) Y H Q) :
  QS (none::none::cap) (Zr K (tCons (tX K G Cs λρ=>.lst (g ρ)) (tCons (tX K G C λρ=>.lst (hl ρ)) tNil))) (gTup K 2 (gCons (gName 0) (gCons (gName 1) gNil))) qm (tX K G Z S) Y H Q:=by
 obtain⟨B,ρ,O,R,⟨⟨c1,E⟩,c2,c3⟩,q⟩:=h;refine⟨B,ρ,O,R,c1,λv H1 w a1=>⟨B,ρ,O,R.grow w,E,λu N n a2=>?_⟩⟩;obtain⟨a,A,rfl,hq,c⟩:=a1;obtain⟨b,z,rfl,J,j⟩:=a2;have c:=kI.mono (j7 (O:=O) n) _ _ c;have e:SqL K N a A:=.inl (jh n (jh jx hq));have f:SqL K N b z:=.inl (jh jx J);have el:=c.length;have el':=j.length;refine⟨a,b,rfl,⟨_,e⟩,⟨_,f⟩,λD o=>?_⟩;have t:(List.range (min (g ρ).length (hl ρ).length)).length=min (g ρ).length (hl ρ).length:=aU;have m:∀i,i<(List.range (min (g ρ).length (hl ρ).length)).length->i<A.length/\i<z.length:=λi h=>by rw[t]at h;lia
 refine ug (List.range (min (g ρ).length (hl ρ).length)) (λi _=>((lQ (none::none::cap) Y).set 0 (some (A.getD i .non))).set 1 (some (z.getD i .non))) (λi=>((jy (none::none::cap) ρ).set 0 (.fr ((g ρ).getD i .non))).set 1 (.fr ((hl ρ).getD i .non))) (λ_=>.non) ((R.grow w).grow n) o (by rw[t];lia)
  (λi H d s=>⟨_,_,A[i]'(m i d).1,z[i]'(m i d).2,s.seq e,s.seq f,by rw[aa],by rw[aa]⟩) ?_ (λH s=>⟨_,_,s.seq e,s.seq f,by rw[t];lia⟩) (λi H d s R'=>?_) ?_ ?_ ?_
 .rintro i k x H M F s ⟨T,y,y',rfl,hT,rfl,L,l⟩;have L:=L _ (s.seq e);have l:=l _ (s.seq f);have I:i<min (g ρ).length (hl ρ).length:=by have:=(aC.mp F).1;rw[t]at this;exact this
  rw[cG I]at F;cases F;refine⟨same_new hT _,λkk U=>⟨T,_,rfl,SqT.of upd_same,rfl,_,_,rfl,_,_,rfl,rfl,?_⟩⟩;rw[gQ,gQ,L,l]at U;exact U
 .have d:=bw.mp d;exact(R'.set (At.mono (lG (O:=O) s o) _ _ (vK c (by lia)))).set (At.mono (lG (O:=O) s o) _ _ (vK j (by lia)))
 .intro i;exact lY _
 .intro i d;have d:=bw.mp d;refine c3 _ _ ?_;rw[gQ,gQ,aa (show i<(g ρ).length by lia),aa (show i<(hl ρ).length by lia)];refine cQ.mpr ⟨i,by rw[dA];exact d,?_⟩;rw[gM];rfl
 .intro M ys s hd P;refine q D ys M ((w.trans n).trans s) ((w.trans n).free o) hd ?_;rw[Ng (λp r=>S (((jy (none::none::cap) ρ).set 0 (.fr p)).set 1 (.fr r)))]at P;exact P
def V2 {b d:Type}(f:Nat->b->d)(a:b)(l:List b):(List.range l.length).map (λi=>f i (l.getD i a))=l.mapIdx f:=by
 refine gr λi=>?_;rw[aE,List.getElem?_mapIdx];by_cases c:i<l.length
 .rw[cG c];simp only[dY,gQ,aa c,Option.getD_some]
 .rw[bQ (by rw[aU];lia),bQ (by lia)];rfl
def abM (h:yZ K G (λρ=>A ρ/\(g ρ).length<=1000/\∀(i:Nat) (q:PV),(g ρ)[i]?=some q->C (((jy (none::none::cap) ρ).set 0 (.fr (.int i))).set 1 (.fr q))) (λρ=>(g ρ).mapIdx λi p=>u (((jy (none::none::cap) ρ).set 0 (.fr (.int i))).set 1 (.fr p))) z H Q) :
  QS (none::none::cap) (Ug K (tCons (tX K G A λρ=>.lst (g ρ)) tNil)) (gTup K 2 (gCons (gName 0) (gCons (gName 1) gNil))) qm (tX K G C u) z H Q:=by
 obtain⟨B,ρ,O,R,⟨J,Y,L⟩,q⟩:=h;refine⟨B,ρ,O,R,J,λv E n I=>?_⟩;obtain⟨a,o,rfl,S,d⟩:=I;have c:SqL K E a o:=.inl (jh jx S);have M:=d.length;refine⟨a,rfl,⟨_,c⟩,λD j=>?_⟩;have e:(List.range (g ρ).length).length=(g ρ).length:=aU;refine ug (List.range (g ρ).length) (λ(i:Nat) _=>((lQ (none::none::cap) z).set 0 (some (.int i))).set 1 (some (o.getD i .non))) (λ(i:Nat)=>((jy (none::none::cap) ρ).set 0 (.fr (.int i))).set 1 (.fr ((g ρ).getD i .non))) (λ_=>.non) (R.grow n) j (by rw[e];lia)
  (λi H b s=>⟨_,o[i]'(by rw[e]at b;lia),s.seq c,by rw[aa]⟩) ?_ (λH s=>⟨_,s.seq c,by rw[e,M];exact aB _⟩) (λi H b s F=>?_) ?_ ?_ ?_
 .rintro i k x H r f s ⟨T,y,rfl,N,rfl,m⟩;have m:=m _ (s.seq c);have l:i<(g ρ).length:=by have:=(aC.mp f).1;rw[e]at this;exact this
  rw[cG l]at f;cases f;refine⟨same_new N _,λZ w=>⟨T,_,rfl,SqT.of upd_same,rfl,_,_,rfl,_,_,rfl,rfl,?_⟩⟩;rw[gQ,m]at w;exact w
 .have b:=bw.mp b;exact(F.set (p:=.int i) rfl).set (At.mono (lG (O:=O) s j) _ _ (vK d b))
 .intro i;exact lY _
 .intro i b;have b:=bw.mp b;refine L i _ ?_;rw[gQ,aa b];rfl
 .intro r U s P t;refine q D U r (n.trans s) (n.free j) P ?_;rw[V2 (λ(i:Nat) p=>u (((jy (none::none::cap) ρ).set 0 (.fr (.int i))).set 1 (.fr p)))]at t;exact t
end
section
variable {pt:En->Prop}[∀ρ,Decidable (pt ρ)]{g hl:En->List PV}
def Ef (l:X.N.Nodup)(d:X.N[i]?=some x)(r:X.env.scope.names.lookup x=some .local)(L:uB X N' sc cl (none::cap))(m:X.calm=true)(o:PE X a (tX X.K G j λρ=>.lst (g ρ)))(n:∀s H fp,PG (jC X N' sc cl s H fp) t (gName 0))(he:∀s H fp,PE (jC X N' sc cl s H fp) f (tX X.K G C k))
  (e:swapsWith (.ListComp f [⟨t,a,[],0⟩] sc c) (some (.Name x u)) b.line X.env=pure true) (p:∀x,foldedSetIterable a X.env x=pure x:=by intro _;rfl) :
  PS X (.Assign [.Name x u] (.ListComp f [⟨t,a,[],0⟩] sc c) b) (ts X.K G E λP ρ=>(j ρ/\(g ρ).length<=1000/\∀q∈g ρ,C ((jy (none::cap) ρ).set 0 (.fr q)))/\∀ns,ns=((g ρ).map λq=>k ((jy (none::cap) ρ).set 0 (.fr q)))->P.nx (ρ.set i (.fr (.lst ns)))):=
 TJ (Uy l d r L m (pi_list o) n (λ_ _ _=>oU) he e p) λv H Q h=>acr h
def KY (A:X.N.Nodup)(m:X.N[i]?=some x)(F:X.env.scope.names.lookup x=some .local)(L:uB X N' sc cl (none::none::cap))(B:X.calm=true)(k:Gl X "zip")(E:X.mg "zip"=none)(y:PE X l (tX X.K G v λρ=>.lst (g ρ)))(z:PE X b (tX X.K G C λρ=>.lst (hl ρ)))(D:∀s H fp,PG (jC X N' sc cl s H fp) (.Tuple els kk tp) (gTup X.K 2 (gCons (gName 0) (gCons (gName 1) gNil))))(he:∀s H fp,PE (jC X N' sc cl s H fp) t (tX X.K G u w))
  (o:swapsWith (.ListComp t [⟨.Tuple els kk tp,.Call (.Name "zip" p) [l,b] [] a,[],0⟩] sc f) (some (.Name x I)) e.line X.env=pure true) (c:starEach [l,b] X.env=(false,eval l X.env)::starEach [b] X.env:=by rfl) (d:starEach [b] X.env=[(false,eval b X.env)]:=by rfl) (n:(backTo a (starEach [b] X.env)).any (·.1)=false:=by rfl) (j:∀x,foldedSetIterable (.Call (.Name "zip" p) [l,b] [] a) X.env x=pure x:=by intro _;rfl) :
  PS X (.Assign [.Name x I] (.ListComp t [⟨.Tuple els kk tp,.Call (.Name "zip" p) [l,b] [] a,[],0⟩] sc f) e) (ts X.K G J λP ρ=>((v ρ/\C ρ)/\(g ρ).length<=1000/\∀q r,(q,r)∈(g ρ).zip (hl ρ)->u (((jy (none::none::cap) ρ).set 0 (.fr q)).set 1 (.fr r)))/\∀ns,ns=(((g ρ).zip (hl ρ)).map λp=>w (((jy (none::none::cap) ρ).set 0 (.fr p.1)).set 1 (.fr p.2)))->P.nx (ρ.set i (.fr (.lst ns)))):=
 TJ (Uy A m F L B (Q6 k E (pa_cons y (pa_cons z pa_nil d) c) c n) D (λ_ _ _=>oU) he o j) λM H Q h=>abA h
def Nf (L:uB X N' sc cl (none::none::cap))(n:X.calm=true)(f:Gl X "enumerate")(t:X.mg "enumerate"=none)(r:PE X a (tX X.K G j λρ=>.lst (g ρ)))(o:∀s H fp,PG (jC X N' sc cl s H fp) (.Tuple els kk tp) (gTup X.K 2 (gCons (gName 0) (gCons (gName 1) gNil))))(he:∀s H fp,PE (jC X N' sc cl s H fp) l (tX X.K G C m))
  (b:starEach [a] X.env=[(false,eval a X.env)]:=by rfl) (e:∀x,foldedSetIterable (.Call (.Name "enumerate" p) [a] [] d) X.env x=pure x:=by intro _;rfl) :
  PE X (.ListComp l [⟨.Tuple els kk tp,.Call (.Name "enumerate" p) [a] [] d,[],0⟩] sc k) (yZ X.K G (λρ=>j ρ/\(g ρ).length<=1000/\∀(i:Nat) (q:PV),(g ρ)[i]?=some q->C (((jy (none::none::cap) ρ).set 0 (.fr (.int i))).set 1 (.fr q))) λρ=>(g ρ).mapIdx λi p=>m (((jy (none::none::cap) ρ).set 0 (.fr (.int i))).set 1 (.fr p))):=
 λc s u H Q I h=>Ab L n (Ff f t (pa_cons r pa_nil b) b) o (λ_ _ _=>oU) he e c s u H Q I (abM h)
end
section
variable {K:Fg}{pt:En->Prop}[∀ρ,Decidable (pt ρ)]{g hl:En->List PV}
def ZZ (h:yZ K G (λρ=>(Cs ρ/\I ρ)/\(g ρ).length<=1000/\∀q r,(q,r)∈(g ρ).zip (hl ρ)->Ct (((jy (none::none::cap) ρ).set 0 (.fr q)).set 1 (.fr r))/\(pt (((jy (none::none::cap) ρ).set 0 (.fr q)).set 1 (.fr r))->Cb (((jy (none::none::cap) ρ).set 0 (.fr q)).set 1 (.fr r)))) (λρ=>(((g ρ).zip (hl ρ)).filter λp=>decide (pt (((jy (none::none::cap) ρ).set 0 (.fr p.1)).set 1 (.fr p.2)))).map λp=>M (((jy (none::none::cap) ρ).set 0 (.fr p.1)).set 1 (.fr p.2))) σ H Q) :
  QS (none::none::cap) (Zr K (tCons (tX K G Cs λρ=>.lst (g ρ)) (tCons (tX K G I λρ=>.lst (hl ρ)) tNil))) (gTup K 2 (gCons (gName 0) (gCons (gName 1) gNil))) (t6 K G Ct pt) (tX K G Cb M) σ H Q:=by
 obtain⟨B,ρ,O,R,⟨⟨c1,J⟩,c2,c3⟩,q⟩:=h;refine⟨B,ρ,O,R,c1,λv H1 C a1=>⟨B,ρ,O,R.grow C,J,λu Z w a2=>?_⟩⟩;obtain⟨a,F,rfl,hq,d⟩:=a1;obtain⟨b,E,rfl,P,m⟩:=a2;have d:=kI.mono (j7 (O:=O) w) _ _ d;have e:SqL K Z a F:=.inl (jh w (jh jx hq));have j:SqL K Z b E:=.inl (jh jx P);have el:=d.length;have el':=m.length;refine⟨a,b,rfl,⟨_,e⟩,⟨_,j⟩,λD z=>?_⟩;have A:(List.range (min (g ρ).length (hl ρ).length)).length=min (g ρ).length (hl ρ).length:=aU;have t:∀i,i<(List.range (min (g ρ).length (hl ρ).length)).length->i<F.length/\i<E.length:=λi h=>by rw[A]at h;lia
 have n:∀i,i<min (g ρ).length (hl ρ).length->((g ρ).getD i .non,(hl ρ).getD i .non)∈(g ρ).zip (hl ρ):=λi c=>by rw[gQ,gQ,aa (show i<(g ρ).length by lia),aa (show i<(hl ρ).length by lia)];refine cQ.mpr ⟨i,by rw[dA];exact c,?_⟩;rw[gM];rfl
 refine TX (List.range (min (g ρ).length (hl ρ).length)) (λi _=>((lQ (none::none::cap) σ).set 0 (some (F.getD i .non))).set 1 (some (E.getD i .non))) (λi=>((jy (none::none::cap) ρ).set 0 (.fr ((g ρ).getD i .non))).set 1 (.fr ((hl ρ).getD i .non))) (λ_=>.non) ((R.grow C).grow w) z (by rw[A];lia)
  (λi H c s=>⟨_,_,F[i]'(t i c).1,E[i]'(t i c).2,s.seq e,s.seq j,by rw[aa],by rw[aa]⟩) ?_ (λH s=>⟨_,_,s.seq e,s.seq j,by rw[A];lia⟩) (λi H c s R'=>?_) ?_ (λi c=>(c3 _ _ (n i (bw.mp c))).1) (λi c=>(c3 _ _ (n i (bw.mp c))).2) ?_
 .rintro i k x H Y L s ⟨T,y,y',rfl,hT,rfl,S,o⟩;have S:=S _ (s.seq e);have o:=o _ (s.seq j);have N:i<min (g ρ).length (hl ρ).length:=by have:=(aC.mp L).1;rw[A]at this;exact this
  rw[cG N]at L;cases L;refine⟨same_new hT _,λkk hk=>⟨T,_,rfl,SqT.of upd_same,rfl,_,_,rfl,_,_,rfl,rfl,?_⟩⟩;rw[gQ,gQ,S,o]at hk;exact hk
 .have c:=bw.mp c;exact(R'.set (At.mono (lG (O:=O) s z) _ _ (vK d (by lia)))).set (At.mono (lG (O:=O) s z) _ _ (vK m (by lia)))
 .intro i;exact lY _
 .intro Y ys s hd al;refine q D ys Y ((C.trans w).trans s) ((C.trans w).free z) hd ?_;have ez:(g ρ).zip (hl ρ)=(List.range (min (g ρ).length (hl ρ).length)).map λi=>((g ρ).getD i .non,(hl ρ).getD i .non):=by rw[Ng (λp r=>(p,r)) PV.non PV.non (g ρ) (hl ρ)];simp
  have U:∀(l:List (PV×PV)) (r:List Nat) (f:Nat->PV×PV),l=r.map f->(l.filter λp=>decide (pt (((jy (none::none::cap) ρ).set 0 (.fr p.1)).set 1 (.fr p.2)))).map (λp=>M (((jy (none::none::cap) ρ).set 0 (.fr p.1)).set 1 (.fr p.2)))=(r.filter λi=>decide (pt (((jy (none::none::cap) ρ).set 0 (.fr (f i).1)).set 1 (.fr (f i).2)))).map λi=>M (((jy (none::none::cap) ρ).set 0 (.fr (f i).1)).set 1 (.fr (f i).2)):=λl r f hl=>by rw[hl,List.filter_map,iK];rfl
  dsimp only;rw[U _ _ _ ez];exact al
end
section
variable {pt:En->Prop}[∀ρ,Decidable (pt ρ)]{g hl:En->List PV}
def Q0 (L:uB X N' sc cl (none::none::cap))(z:X.calm=true)(i:Gl X "zip")(B:X.mg "zip"=none)(w:PE X l (tX X.K G m λρ=>.lst (g ρ)))(y:PE X b (tX X.K G C λρ=>.lst (hl ρ)))(A:∀s H fp,PG (jC X N' sc cl s H fp) (.Tuple els kk tp) (gTup X.K 2 (gCons (gName 0) (gCons (gName 1) gNil))))(D:∀s H fp,PT (jC X N' sc cl s H fp) t (t6 X.K G n pt))(he:∀s H fp,PE (jC X N' sc cl s H fp) u (tX X.K G k v))
  (c:starEach [l,b] X.env=(false,eval l X.env)::starEach [b] X.env:=by rfl) (d:starEach [b] X.env=[(false,eval b X.env)]:=by rfl) (j:(backTo a (starEach [b] X.env)).any (·.1)=false:=by rfl) (f:∀x,foldedSetIterable (.Call (.Name "zip" p) [l,b] [] a) X.env x=pure x:=by intro _;rfl) :
  PE X (.ListComp u [⟨.Tuple els kk tp,.Call (.Name "zip" p) [l,b] [] a,[t],0⟩] sc o) (yZ X.K G (λρ=>(m ρ/\C ρ)/\(g ρ).length<=1000/\∀q r,(q,r)∈(g ρ).zip (hl ρ)->n (((jy (none::none::cap) ρ).set 0 (.fr q)).set 1 (.fr r))/\(pt (((jy (none::none::cap) ρ).set 0 (.fr q)).set 1 (.fr r))->k (((jy (none::none::cap) ρ).set 0 (.fr q)).set 1 (.fr r)))) λρ=>(((g ρ).zip (hl ρ)).filter λp=>decide (pt (((jy (none::none::cap) ρ).set 0 (.fr p.1)).set 1 (.fr p.2)))).map λp=>v (((jy (none::none::cap) ρ).set 0 (.fr p.1)).set 1 (.fr p.2))):=
 λe s E H Q I h=>Ab L z (Q6 i B (pa_cons w (pa_cons y pa_nil d) c) c j) A (λs H fp=>WX (D s H fp)) he f e s E H Q I (ZZ h)
end
def aba:PV->List Int
 | .ints l=>l
 |_=>[]
def Yy (b c:Addr)(H:Hp)(a:Addr)(z:Int):Prop:=KW b H a z\/KR c H a z
def Yy.same (k:Yy cW cR H a z)(s:Same H h):Yy cW cR h a z:=k.elim (λk=>.inl (k.same s)) λk=>.inr (k.same s)
end L3
namespace L2
section
variable {X:Cx}
def Fv:∀{bs:List Bool} {us:Lv},Vals (bs.map V.bl) us->us=bs.map Value.bool
 |[],_,.nil=>rfl
 |b::bs,_,.cons r t=>by rw[r,Fv t];rfl
def Wo:Value->Bool
 | .bool b=>b == true
 |_=>false
def Y5 {bs:List Bool}:∀y,y∈(bs.map Value.bool).toArray->SeqAt.EqAt A s y (.bool true) (Wo y):=λy h=>by
 have h:y∈bs.map Value.bool:=by simpa using h
 obtain⟨b,_,rfl⟩:=dB.mp h;exact SeqAt.EqAt.bool_bool b true
def UJ (bs:List Bool):(bs.map Value.bool).countP Wo=bs.count true:=by rw[List.countP_map];rfl
def Yc:V->List V->Hp->VK->Prop:=λx v H Q=>∃(l:Addr) (bs:List Bool),x=.ref l/\v=[.bl true]/\Rd H l (.lst (bs.map V.bl))/\Q (.int (bs.count true:Nat)) H
def Pq:MtM X "list.count" Yc:=by rintro p s k H x j v g Q I d c ⟨l,bs,rfl,rfl,a,q⟩;cases d;obtain⟨u,rfl,b⟩:=c.one;subst b;obtain⟨z,i,n,r,f,e⟩:=L3.Inv.BP I a;have ev:=Fv r;subst ev;refine fw gC ⟨_,e,rfl⟩ PySem.F.entry_list_count (PySem.F.args_list_count_2 _ _) (PySem.SeqAt.list_countAt l _ n _ _ (.bool true) Wo) ⟨e,Y5,?_⟩;refine⟨.int (bs.count true:Nat),H,I.tok _,⟨s.toks,?_⟩,q⟩;rw[show((bs.map Value.bool).toArray.toList)=bs.map Value.bool from rfl,UJ]
def XQ:V->List V->Hp->VK->Prop:=λx v H Q=>∃(l:Addr) (bs:List Bool),x=.ref l/\v=[.bl true]/\Rd H l (.lst (bs.map V.bl))/\true∈bs/\bs.length<=1000/\Q (.int (bs.idxOf true:Nat)) H
def Py:MtM X "list.index" XQ:=by
 rintro b s C H x B v A Q I t o ⟨l,bs,rfl,rfl,c,f,y,q⟩;cases t;obtain⟨u,rfl,k⟩:=o.one;subst k;obtain⟨z,j,n,r,w,e⟩:=L3.Inv.BP I c;have ev:=Fv r;subst ev;have d:bs.idxOf true<bs.length:=List.idxOf_lt_length_iff.mpr f;have i:(bs.map Value.bool).toArray.size=bs.length:=by rw[aq,ae]
 refine fw gD ⟨_,e,rfl⟩ PySem.F.entry_list_index (PySem.F.args_list_index_2 _ _) (PySem.SeqAt.list_indexAt l _ n _ _ (.bool true) Wo (bs.idxOf true) (by lia) (by lia) ?_ ?_) ⟨e,Y5,?_⟩
 .simp only[hV,cu];rw[List.getElem_idxOf d];rfl
 .intro m g a;simp only[hV,cu];exact List.not_of_lt_findIdx (p:=λx=>x == true) (xs:=bs) a
 .exact⟨.int (bs.idxOf true:Nat),H,I.tok _,⟨s.toks,rfl⟩,q⟩
end
end L2
namespace L3
open L2
def vH:PV->List Bool
 | .lst xs=>xs.map λp=>match p with
  | .bl b=>b
  |_=>false
 |_=>[]
def Ml (p:PV):Prop:=p=.lst ((vH p).map PV.bl)
section
variable {K:Fg}{G:Gx}{H:Hp}
def Lq:∀{bs:List Bool} {vs:List V},kI K G H (bs.map PV.bl) vs->vs=bs.map V.bl
 |[],_,h=>h
 |b::bs,_,h=>by obtain⟨v,r,rfl,e,t⟩:=h;rw[e,Lq t];rfl
end
def Qi (he:PE X e (tX X.K G C g))(d:attributeBase e "count" X.env (eval e X.env)=eval e X.env:=by rfl)
  (k:((backTo b (starEach [.Constant (.bool true) k2 p] X.env)).all (λx=>!x.1) && (backToKw b (keywordEach [] X.env)).all (λx=>x.1.isSome) && decide ([Expr.Constant (.bool true) k2 p].length+([]:List Keyword).length+(if ([]:List Keyword).isEmpty then 0 else 1)<30))=true:=by rfl)
  (f:(j.endLine == b.line)=true:=by rfl) (n:starEach [.Constant (.bool true) k2 p] X.env=(false,eval (.Constant (.bool true) k2 p) X.env)::starEach [] X.env:=by rfl) (h:(backTo b (starEach [] X.env)).any (·.1)=false:=by rfl) :
  PE X (.Call (.Attribute e "count" j) [.Constant (.bool true) k2 p] [] b) (jW X.K G (λi=>C i/\Ml (g i)) λi=>((vH (g i)).count true:Nat)):=
 mD (pe_bm cZ gC PySem.F.type_list_count Pq he (pa_cons pe_bl pa_nil n) d k f n h) λB w H i O Q R c q=>⟨B,i,O,R,c.1,λv o t m=>by
  rw[c.2]at m;obtain⟨a,u,rfl,s,r⟩:=m;have ev:=Lq r;subst ev;have l:=jh jx s;exact⟨.inl ⟨rfl,_,YZ l⟩,a,_,rfl,rfl,l,q _ o t rfl⟩⟩
def Qc (he:PE X e (tX X.K G C g))(f:attributeBase e "index" X.env (eval e X.env)=eval e X.env:=by rfl)
  (k:((backTo b (starEach [.Constant (.bool true) k2 p] X.env)).all (λx=>!x.1) && (backToKw b (keywordEach [] X.env)).all (λx=>x.1.isSome) && decide ([Expr.Constant (.bool true) k2 p].length+([]:List Keyword).length+(if ([]:List Keyword).isEmpty then 0 else 1)<30))=true:=by rfl)
  (i:(j.endLine == b.line)=true:=by rfl) (n:starEach [.Constant (.bool true) k2 p] X.env=(false,eval (.Constant (.bool true) k2 p) X.env)::starEach [] X.env:=by rfl) (h:(backTo b (starEach [] X.env)).any (·.1)=false:=by rfl) :
  PE X (.Call (.Attribute e "index" j) [.Constant (.bool true) k2 p] [] b) (jW X.K G (λd=>C d/\Ml (g d)/\true∈vH (g d)/\(vH (g d)).length<=1000) λd=>((vH (g d)).idxOf true:Nat)):=
 mD (pe_bm cZ gD PySem.F.type_list_index Py he (pa_cons pe_bl pa_nil n) f k i n h) λB w H d O Q R c q=>⟨B,d,O,R,c.1,λv o t m=>by
  rw[c.2.1]at m;obtain⟨a,u,rfl,s,r⟩:=m;have ev:=Lq r;subst ev;have l:=jh jx s;exact⟨.inl ⟨rfl,_,YZ l⟩,a,_,rfl,rfl,l,c.2.2.1,c.2.2.2,q _ o t rfl⟩⟩
@[irreducible] def PEi (X:Cx) (e:Expr) (t:TE):Prop:=PE X e t
@[irreducible] def PAi (X:Cx) (e:List Expr) (t:TA):Prop:=PA X e t
@[irreducible] def PSi (X:Cx) (s:List Stmt) (t:TS):Prop:=PSs X s t
def Va (h:PE X e t):PEi X e t:=by unfold PEi;exact h
def Qj (h:PEi X e t):PE X e t:=by unfold PEi at h;exact h
def pai (h:PA X e t):PAi X e t:=by unfold PAi;exact h
def Zh (h:PAi X e t):PA X e t:=by unfold PAi at h;exact h
def psi (h:PSs X s t):PSi X s t:=by unfold PSi;exact h
def K3 (h:PSi X s t):PSs X s t:=by unfold PSi at h;exact h
def lM:PAi X [] (z8 X.K G (λ_=>True) λ_=>[]):=pai iU
def iW (h:PEi X e (tX X.K G c g))(f:PAi X b (z8 X.K G C d))(i:starEach (e::b) X.env=(false,eval e X.env)::starEach b X.env):PAi X (e::b) (z8 X.K G (λa=>c a/\C a) λa=>g a::d a):=pai (iQ (Qj h) (Zh f) i)
def ZJ:starEach (.Subscript a b pos::e) ev=(false,eval (.Subscript a b pos) ev)::starEach e ev:=rfl
def qL (h:PAi X e (z8 X.K G C g))(b:∀a,(g a).length<=1000:=by intro _;exact cJ rfl):PEi X (.List e pos) (tX X.K G C λa=>.lst (g a)):=Va (oF (nO (Zh h) b))
def uG (h:PAi X e (z8 X.K G C g))(b:∀a,(g a).length<=1000:=by intro _;exact cJ rfl):PEi X (.Tuple e x1 pos) (tX X.K G C λa=>.tup (g a)):=Va (mH (Zh h) b)
def uZ (h:PEi X a (tX X.K G C g))(e:PE X b (jW X.K G d gb))(f:PlainIx b):PEi X (.Subscript a b pos) (tX X.K G (λc=>C c/\d c/\pR (g c) (gb c)) λc=>pW (g c) (gb c)):=Va (jd (Qj h) e f)
def Ku (h:PEi X e (tX X.K G C g)):PSi X [.Return (some e) pos] (ts X.K G E λP a=>C a/\P.rt (g a)):=psi (iV (jb (Qj h)))
end L3
namespace L2
def Ge {j k:Type}{f:j->k}{l m:List k}(h:l.Perm m):∀{L:List j},L.map f=m->∃c:List j,c.Perm L/\c.map f=l:=by
 induction h with
 |nil=>intro L e;have:L=[]:=List.map_eq_nil_iff.mp e;subst this;exact⟨[],.nil,rfl⟩
 |cons x _ o=>intro L e;obtain⟨a,r,rfl,rfl,d⟩:=fm.mp e;obtain⟨c,p,q⟩:=o d;exact⟨a::c,.cons a p,by rw[bT,q]⟩
 |swap x y l=>intro L e;obtain⟨a,z,rfl,rfl,d⟩:=fm.mp e;obtain⟨b,r,rfl,rfl,rfl⟩:=fm.mp d;exact⟨b::a::r,.swap a b r,rfl⟩
 |trans _ _ i g=>intro L e;obtain⟨w,s,u⟩:=g e;obtain⟨n,t,v⟩:=i u;exact⟨n,t.trans s,v⟩
def Hk {d:Type}(k:d->Int):∀{a b:List d},a.Perm b->a.Pairwise (λx y=>k x<=k y)->b.Pairwise (λx y=>k x<=k y)->(b.map k).Nodup->a=b
 |[],b,p,_,_,_=>(List.Perm.nil_eq p)
 |x::a,[],p,_,_,_=>absurd p.length_eq (by simp)
 |x::a,y::b,p,sa,sb,nd=>by
  rw[List.pairwise_cons]at sa sb;rw[bT,cX]at nd;have e:x=y:=by
   have h:x∈y::b:=p.mem_iff.mp aA;have c:y∈x::a:=p.mem_iff.mpr aA;rcases aw.mp h with h|h
   .exact h
   rcases aw.mp c with c|c
   .exact c.symm
   have f:=sb.1 x h;have g:=sa.1 y c;have i:k y=k x:=Int.le_antisymm f g;exact absurd (dB.mpr ⟨x,h,i.symm⟩) nd.1
  subst e;rw[Hk k (List.Perm.cons_inv p) sa.2 sb.2 nd.2]
section
variable {X:Cx}{d:List (Addr×Obj)}{i:St}{H:Hp}{s:Shared}
def yc:∀{l m:Lv},TriplesOk l->TriplesOk m->TriplesOk (l++m)
 |[],_,_,h=>h
 | .int _ _ :: .int _ _::_::rest,m,h1,h2=>by exact yc (l:=rest) h1 h2
def Dy:∀{l:Lv},TriplesOk l->codeAmong pos (l++m)=some cv->codeAmong pos l=some cv\/codeAmong pos m=some cv
 |[],_,h=>.inr h
 | .int line t :: .int col u::c::rest,ht,h=>by
  have h:(if line == pos.line && col == pos.col then some c else codeAmong pos (rest++m))=some cv:=h;show(if line == pos.line && col == pos.col then some c else codeAmong pos rest)=some cv\/_;split at h
  .rename_i g;rw[ai g];exact .inl h
  .rename_i g;rw[ag g];exact Dy (l:=rest) ht h
def Inv.grown {P c':Addr}{t:w6}{oc:Obj}{more:Array Value}{h':Heap}{tk:Nat}(I:Inv X d i H s)(e:H P=some (.tbl t))(m:∀b o,b≠P->s.heap.get? b=some o->h'.get? b=some o)(l:s.heap.objs.size<=c')
  (D:h'.get? c'=some oc) (L:Bl oc t.q) (C:h'.get? P=some (W.tabObj (t.ps++more))) (M:TriplesOk more.toList) (J:∀p k,codeAmong p more.toList=some k->k=.ref c') :
  Inv X d i (upd (upd H c' (.frz oc (.ext λ_=>True))) P (.tbl (t++more))) { s with heap:=h',toks:=tk }:=by
 have fr:H c'=none:=I.hok.fresh l;have x:c'≠P:=λz=>by rw[z,e]at fr;cases fr
 have f:∀b u,H b=some u->b≠c':=λb u q z=>by rw[z,fr]at q;cases q
 have A:∀b,H b=none->b≠P:=λb q z=>by rw[z,e]at q;cases q
 refine I.un ⟨λb o q n _ _=>m b o (A b n) q,λb o q n _ _=>⟨o.slots,m b o (A b n) q⟩,λb o q n _=>?_,λb o q _=>?_,λb xs q=>?_,λb o u q=>?_,λb R q=>?_⟩ λb u q=>?_
 .rw[upd_ne (A b n),upd_ne (aX (aN (ay q) l))];exact n
 .by_cases z:b=P
  .subst z;exact⟨_,C⟩
  .exact⟨o,m b o z q⟩
 .rw[upd_ne (λz=>by rw[z,e]at q;cases q),upd_ne (f b _ q)];exact q
 .rw[upd_ne (λz=>by rw[z,e]at q;cases q),upd_ne (f b _ q)];exact q
 .by_cases z:b=P
  .subst z;rw[e]at q;cases q;exact⟨more,upd_same⟩
  .exact⟨#[],by rw[upd_ne z,upd_ne (f b _ q),q];simp⟩
 .have j:∀c o u,H c=some (.frz o u)->(upd (upd H c' (.frz oc (.ext λ_=>True))) P (.tbl (t++more))) c=some (.frz o u):=λc o u q=>by rw[upd_ne (λz=>by rw[z,e]at q;cases q),upd_ne (f c _ q)];exact q
  by_cases z:b=P
  .subst z;rw[upd_same]at q;cases q;obtain⟨Q,B,G⟩:=I.hok b _ e;refine⟨C,?_,λp k a=>?_⟩
   .show TriplesOk (t.ps++more).toList;rw[dP];exact yc B M
   .have a:codeAmong p (t.ps++more).toList=some k:=a;rw[dP]at a;rcases Dy B a with a|a
    .obtain⟨c,E,F,y,N,O⟩:=G p k a;exact⟨c,E,F,y,j c E F N,O⟩
    .exact⟨c',oc,_,J p k a,by rw[upd_ne x,upd_same],L⟩
  .rw[upd_ne z]at q;by_cases y:b=c'
   .subst y;rw[upd_same]at q;cases q;exact⟨D,tT,⟨_,D⟩,λ_ _ h _=>h⟩
   .rw[upd_ne y]at q;have up:∀c o,H c=some o->c≠P->(upd (upd H c' (.frz oc (.ext λ_=>True))) P (.tbl (t++more))) c=some o:=λc o q n=>by rw[upd_ne n,upd_ne (f c _ q)];exact q
    refine(I.hok b u q).stay (λc v g r=>m c v ?_ r) (λc r=>up c _ r λw=>by rw[w,e]at r;cases r) (λc xs r=>up c _ r λw=>by rw[w,e]at r;cases r) λc o u r=>j c o u r;rcases g with rfl|g
    .exact z
    .exact λw=>by rw[w,e]at g;cases g
def Bl.rec {h:Heap}{c:Addr}{oc:Obj}{q:Str}(e:h.get? c=some oc)(k:Bl oc q):h.CodeRec (.ref c) q:=let ⟨vs,t,a,b⟩:=k;⟨c,oc,vs,t,rfl,e,a,b⟩
def Ih (I:Inv X d i H s)(k:X.env.code=.ref c)(hx:(c,P,q)∈mL X.K)(hq:X.env.qual++"<lambda>"=q)
  (x:defaultsOf a X.env=([],[])) (w:closureFor scope X.env=pure [])
  (Q:Value->Shared->Prop)
  (h:∀f c' j r s',Inv X d i r s' -> (∀b o,H b=some o->(∀t,o ≠ .tbl t)->r b=some o)->(∀b t,H b=some (.tbl t)->∃ps,r b=some (.tbl ⟨t.q,ps⟩))->s'.heap.get? f=some (W.kla_obj "<lambda>" q a body scope [] ((X.mg "__name__").getD .none) c' j)->r f=none -> (∃oc u,r c'=some (.frz oc u)/\Bl oc q)->s'.os=s.os->s.heap.objs.size<=f->Q (.ref f) s') :
  wpAny (model X.prog X.w) X.A (eval (.Lambda a body scope g) X.env) Q E s:=by
 obtain⟨G,e0⟩:=I.ok.frf.t _ hx;obtain⟨m1,l⟩:=I.base.tbls _ _ e0;have l:H P=some (.tbl ⟨q,G++m1⟩):=l;generalize G++m1=ps at l;obtain⟨hP,ht,hr⟩:=I.hok P _ l;have C:W.CodeHd s.heap c P:=io I.kIn (Dz hx);have hg:s.heap.Ns mainGlobals X.mg:=I.mod.glob.keeps I.bk;have D:∀b o,X.base.get? b=some o->b≠P:=λb o e z=>by have:=(I.bs b o e).2;rw[z,l]at this;cases this
 have U:mainGlobals≠P:=by obtain⟨o,es,ep,e,_⟩:=I.mod.glob;exact D _ _ e
 obtain⟨bm,ob,b1,b2,J,b4,b5,N⟩:=I.mod.bm;have R:bm≠mainGlobals:=λz=>by obtain⟨o,es,ep,e,L,_⟩:=I.mod.glob;rw[z,e]at J;cases J;rw[L]at N;cases N
 have hb:s.heap.BuiltinsAt X.mg P:=⟨bm,ob,b1,b2,R,D _ _ J,I.bk _ _ J,b4,b5,N⟩;refine W.kla_eval x ?_;rw[hq];cases T:codeAmong g ps.toList with
 |none=>
  refine W.kla_makeFunction (mg:=X.mg) w I.ok.glob hg k C hP ht T U hb λc' j h' tk Z m hlt A Y=>?_;obtain⟨c2,oc,vs,t,ec,y,L,hv⟩:=A;cases ec;have I2:=I.grown (c':=c') (oc:=oc) (more:=#[rawInt g.line,rawInt g.col,.ref c']) (h':=h') (tk:=tk) l (λb o n e=>Z b o n e) m y ⟨vs,t,L,hv⟩ Y trivial (λp O v=>by
   have v:(if (g.line:Int) == p.line && (g.col:Int) == p.col then some (Value.ref c') else none)=some O:=v;split at v
   .exact(aD v).symm
   .cases v)
  have M:=I2.kept (h':=h'.push (W.kla_obj "<lambda>" q a body scope [] ((X.mg "__name__").getD .none) c' j)) (t':=tk) λb u e=>af _ e;have fr:H c'=none:=I.hok.fresh m;have F:∀b u,H b=some u->b≠c':=λb u q z=>by rw[z,fr]at q;cases q
  have S:c'≠P:=λz=>by rw[z,l]at fr;cases fr
  refine h h'.objs.size c' j _ _ M (λb o q n=>?_) (λb t q=>?_) (aP _ rfl) (I2.hok.fresh (aB _)) ⟨oc,_,by rw[upd_ne S,upd_same],vs,t,L,hv⟩ rfl (aG m (bv (ay y)))
  .rw[upd_ne (λz=>by rw[z,l]at q;cases q;exact n _ rfl),upd_ne (F b _ q)];exact q
  .by_cases z:b=P
   .subst z;rw[l]at q;cases q;exact⟨_,upd_same⟩
   .exact⟨t.ps,by rw[upd_ne z,upd_ne (F b _ q),q]⟩
 |some O=>obtain⟨c',oc,u,rfl,g1,g2⟩:=hr g O T;refine W.kla_makeFunctionHit (mg:=X.mg) w I.ok.glob hg k C hP ht T hb λj h' tk hk B=>?_;have M:=I.kept (h':=h'.push (W.kla_obj "<lambda>" q a body scope [] ((X.mg "__name__").getD .none) c' j)) (t':=tk) λb u e=>af _ (hk b u e);exact h h'.objs.size c' j _ _ M (λb o q _=>q) (λb t q=>⟨t.ps,q⟩) (aP _ rfl) (I.hok.fresh B) ⟨oc,u,g1,g2⟩ rfl B
end
def xH:bootBuiltins "sorted"=some (.builtin "sorted"):=by decide +kernel
def aan {h:Heap}{a:Addr}{m f:Mg}(x:h.Ns a m)(y:h.Ns a f):m=f:=by obtain⟨o,p,l,e,d,_,k⟩:=x;obtain⟨q,i,g,c,b,_,j⟩:=y;rw[e]at c;cases c;rw[d]at b;injection b with d1 _;subst d1;funext n;rw[<- k n,<- j n]
section
variable {prog:Program}{w:World}{A:Around}{s:Shared}{Q:Value->Shared->Prop}{E:Value->Shared->Prop}
def QF {f c' t:Addr}{its:Lv}{B O l:Value}{y q:Str}{p:Arguments}{scope:Scope}{L M N:Pos}{j:Nat}
  (P:s.heap.get? f=some (W.kla_obj "<lambda>" q p (.Subscript (.Name y L) (.Constant (.int 1) j M) N) scope [] O c' l)) (C:s.heap.CodeRec (.ref c') q) (k:A.depth<recursionLimit) (n:s.heap.NoLimit)
  (i:bindArgs (W.kla_fn "<lambda>" q p (.Subscript (.Name y L) (.Constant (.int 1) j M) N) scope [] O (.ref c') l) ⟨[.ref t],[]⟩=pure [(y,.ref t)])
  (c:scope.names.lookup y=some .local) (F:∀z∈scope.names,z.2 ≠ .cell) (J:scope.kind=.function) (D:scope.isCoroutine=false) (m:scope.isGenerator=false) (H:(y == ("__debug__":Str))=false)
  (tup:IsTup s.heap t its.toArray) (I:its[1]?=some B)
  (h:∀h' tk,(∀b o,s.heap.get? b=some o->h'.get? b=some o)->Q B { s with heap:=h',toks:=tk }) :
  wpAny (model prog w) A (call (.ref f) [.ref t]) Q E s:=by
 refine cq (hW k P rfl D m rfl C ?_);rw[i];refine aO (fj F (λz R=>?_) (λd G u=>⟨n.fresh _ u,?_⟩) J)
 .rw[ap.mp R];exact c
 have a:∀b o,s.heap.get? b=some o->d.get? b=some o:=λb o e=>u.extBut b o (aX (ay e)) (af _ e);refine hZ ?_;have g:IsTup d t its.toArray:=by obtain⟨o,e,r⟩:=tup;exact⟨o,a _ _ e,r⟩
 have len:1<its.length:=(aC.mp I).1;refine Subscript_ (hJ (dG J c G (v:=.ref t) ?_ ?_) H)
 .simp
 refine fS ?_;refine de (x:=B) g.typeIs slot_tuple_getitem.lookup (getItem_tuple (j:=1) (Q:=λr S=>r=B/\_) g (by decide) (by decide) ?_ (by simpa using I) ⟨rfl,?_⟩) rfl
 .rw[aq];unfold seqIndex?;have:(1:Int)<(its.length:Int):=by lia
  simp[this]
 .exact h _ _ a
end
end L2
namespace L3
open L2
def wL:PV->Int
 | .tup [_,.int k]=>k
 |_=>0
open Classical in
def yx (p:List PV):List PV:=if h:∃l:List PV,l.Perm p/\l.Pairwise (λa b=>wL a<=wL b) then h.choose else[]
def Jb (p:l.Perm c)(o:l.Pairwise λa b=>wL a<=wL b)(n:(c.map wL).Nodup):yx c=l:=by have h:∃l:List PV,l.Perm c/\l.Pairwise (λa b=>wL a<=wL b):=⟨l,p,o⟩;unfold yx;rw[dif_pos h];have s:=h.choose_spec;exact Hk wL (s.1.trans p.symm) s.2 o ((p.map wL).nodup_iff.mpr n)
structure Yq (ps:List PV):Prop where
 len:ps.length<64
 two:∀p∈ps,∃x,p=.tup [x,.int (wL p)]
 nd:(ps.map wL).Nodup
def aco {d i j l:Type}(f:d->l):∀(a:List d) (b:List i) (c:List j),a.length=b.length->b.length=c.length->((a.zip (b.zip c)).map λt=>(f t.1,t.2.2))=(a.map f).zip c/\(a.zip (b.zip c)).map (λt=>t.1)=a
 |[],_,_,_,_=>⟨rfl,rfl⟩
 |x::a,[],_,h,_=>absurd h (by simp)
 |x::a,y::b,[],_,h=>absurd h (by simp)
 |x::a,y::b,z::c,h,k=>by
  obtain⟨e,g⟩:=aco f a b c (by simpa using h) (by simpa using k);refine⟨?_,?_⟩
  .rw[dk,dk,bT,e,bT,dk]
  .rw[dk,dk,bT,g]
section
variable {K:Fg}{G:Gx}{H:Hp}
def Tj:∀{a:List PV} {xs:List V} {its:Lv},kI K G H a xs->Vals xs its->∀t∈a.zip (xs.zip its),At K G H t.1 t.2.1/\RelV t.2.1 t.2.2
 |[],_,_,_,_,t,ht=>by simp at ht
 |p::a,_,_,h,r,t,ht=>by
  obtain⟨v,e,rfl,q,b⟩:=h;cases r with
  |cons c d=>
   rcases aw.mp ht with rfl|ht
   .exact⟨q,c⟩
   .exact Tj b d t ht
def Mi:∀{T:List (PV×V×Value)},(∀t∈T,At K G H t.1 t.2.1)->kI K G H (T.map λt=>t.1) (T.map λt=>t.2.1)
 |[],_=>rfl
 |t::T,h=>⟨_,_,rfl,h t aA,Mi λx a=>h x (aj _ a)⟩
def Jc:∀{T:List (PV×V×Value)},(∀t∈T,RelV t.2.1 t.2.2)->Vals (T.map λt=>t.2.1) (T.map λt=>t.2.2)
 |[],_=>.nil
 |t::T,h=>.cons (h t aA) (Jc λx a=>h x (aj _ a))
end
section
variable {X:Cx}{G:Gx}{a:Expr}{pos p U C J M S:Pos}{E:En->Prop}{A:En->PV}{k j:Nat}{y:Str}{d:Arguments}{scope:Scope}
def Tp (hl:QB X.K X.env.code (X.env.qual++"<lambda>"))(hr:Room k X.A)(hm:X.mg "sorted"=none)(ha:PE X a (tX X.K G E A))(hg:Gl X "sorted":=by rfl)(he:starEach [a] X.env=[(false,eval a X.env)]:=by rfl)
  (hdef:defaultsOf d X.env=([],[]):=by rfl) (hcl:closureFor scope X.env=pure []:=by rfl)
  (hbind:∀(pm ctv:Value) (c' t:Addr),bindArgs (W.kla_fn "<lambda>" (X.env.qual++"<lambda>") d (.Subscript (.Name y J) (.Constant (.int 1) j M) S) scope [] pm (.ref c') ctv) ⟨[.ref t],[]⟩=pure [(y,.ref t)]:=by intros;rfl)
  (hloc:scope.names.lookup y=some .local:=by rfl) (hnc:∀z∈scope.names,z.2 ≠ .cell:=by decide) (hk:scope.kind=.function:=by rfl) (hco:scope.isCoroutine=false:=by rfl) (hgen:scope.isGenerator=false:=by rfl) (hyd:(y == ("__debug__":Str))=false:=by decide) :
  PE X (.Call (.Name "sorted" p) [a] [⟨some "key",.Lambda d (.Subscript (.Name y J) (.Constant (.int 1) j M) S) scope C,U⟩] pos) (yZ X.K G (λρ=>E ρ/\A ρ=.lst (xZ (A ρ))/\Yq (xZ (A ρ))) λρ=>yx (xZ (A ρ))):=by
 intro pins s σ H Q I ⟨B,ρ,O,R,c,q⟩;refine bD (ld_blt I hg hm xH ?_ (by decide) (by decide));refine dU (thn (pa_cons ha pa_nil he pos pins s σ H (λvs H'=>∃l xs,vs=[.ref l]/\Same H H'/\Rd (mn H' O) l (.lst xs)/\kI X.K G (mn H' O) (xZ (A ρ)) xs) I ⟨B,ρ,O,R,c.1,λv H1 s1 a1=>?_⟩) λus t1 h=>?_) (by rw[he];rfl) (by rw[he];rfl)
 .rw[c.2.1]at a1;obtain⟨l,xs,rfl,r1,al⟩:=a1;exact⟨l,xs,rfl,s1,r1,al⟩
 obtain⟨vs,H1,I1,rv,l,xs,rfl,s1,rd,al⟩:=h;obtain⟨u,rfl,ru⟩:=vals1 rv;cases ru;obtain⟨cc,P,hcode,hx⟩:=hl;obtain⟨_,_,PO⟩:=c;have q:∀(a:Addr) (vs:List V) (H':Hp),Same H H' -> H a=none->H' a=some (HO.lst vs)->kI X.K G (mn H' (hide a O)) (yx (xZ (A ρ))) vs->Q (V.ref a) H':=q;generalize xZ (A ρ)=ps at *
 refine kws_cons (Ih I1 hcode hx rfl hdef hcl _ λf c' ctv H2 t2 Z kp2 tb2 hf fn fz os _=>kws_nil ?_);have s2:Same H1 H2:=λb o e=>by cases o<;>first|exact kp2 b _ e (λt z=>by cases z)|(obtain⟨ps',z⟩:=tb2 b _ e;exact⟨ps',z⟩)
 obtain⟨_,its,n,r,hlen,e⟩:=L3.Inv.BP Z (jh (jx.trans s2) rd);have al2:=kI.mono (j7 s2) _ _ al;have lps:ps.length=xs.length:=al2.length;obtain⟨m,F⟩:=Z.fr;have N:=news_all (g:=X.base) (h:=t2.heap) (L:=X.env.locals);have hfL:f≠X.env.locals:=λz=>by obtain⟨m',⟨o,es,ep,ho,hd,_⟩,_⟩:=Z.loc;rw[<- z,hf]at ho;cases ho;cases hd
 have kept:∀{h:Heap} {own:List (Addr×Obj)},Fr X.base X.env.locals h m->News X.base X.env.locals h (allNews X.base t2.heap X.env.locals++own)->∀b o,b≠X.env.locals->t2.heap.get? b=some o->h.get? b=some o:=λ{h own} F' N' b o hb eb=>by
  cases z:X.base.get? b with
  |some u=>have:=Z.bk b u z;rw[eb]at this;cases this;exact F'.keep b _ z
  |none=>exact(N' (b,o) (bV _ (mem_allNews hb z eb))).1
 have tr:∀b u,H2 b=some u->b≠X.env.locals:=λb u z w=>by rw[w,Z.free]at z;cases z
 obtain⟨oc,fu,fz1,fz2⟩:=fz;have hoc:=(Z.hok c' _ fz1).1;refine PyProof.Rows.ksk_sorted (b:=false) (kz:=ps.map wL) (f:=.ref f) F N (vs:=its) ⟨_,e,rfl,n,rfl⟩ (by rw[ae,lps,hlen]) (by rw[<- hlen,<- lps];exact PO.len) (PyProof.Rows.ksk_s1 _ _) (λx=>PyProof.Rows.ksk_l1 _ _) (λx=>PyProof.Rows.ksk_t1 _ _) (λi v kk hv hkk h tk own F' N'=>?_) (λD h' tk out cz F' N' lt ko=>?_)
 .rw[aE]at hkk;cases hp:ps[i]? with
  |none=>rw[hp]at hkk;cases hkk
  |some pp=>
   rw[hp]at hkk;cases hkk;obtain⟨xv,hxv,at1⟩:=al2.at hp;obtain⟨v',hv',rl⟩:=r.get hxv;rw[hv]at hv';cases hv';obtain⟨x,ex⟩:=PO.two pp (bn hp);rw[ex]at at1;obtain⟨t,us,rfl,ht,ux,ur,rfl,_,ui,un,rfl,hui,hun⟩:=at1;cases rl;subst hun hui;have ht2:H2 t=some (.tup [ux,.int (wL pp)]):=(qZ ht).2;obtain⟨_,its2,r2,tup⟩:=Z.hok t _ ht2;cases r2 with
   |cons q0 q1=>
    cases q1 with
    |cons q2 q3=>cases q3;obtain⟨tok,rfl⟩:=q2;obtain⟨o,eo,ro⟩:=tup;have tup':IsTup h t _:=⟨o,kept F' N' _ _ (tr t _ ht2) eo,ro⟩;refine QF (s:={ t2 with heap:=h,toks:=tk }) (kept F' N' _ _ hfL hf) (Bl.rec (kept F' N' _ _ (tr c' _ fz1) hoc) fz2) hr.depth (Z.ok.mod.nolimit.keeps F'.keep) (hbind _ _ _ _) hloc hnc hk hco hgen hyd tup' rfl λh'' tk' kk=>?_;exact⟨h'',tk',tok,rfl,rfl,F'.kept kk,λp hp=>⟨kk _ _ (N' p hp).1,(N' p hp).2⟩⟩
 .have Y:∀b o,b≠X.env.locals->t2.heap.get? b=some o->h'.get? b=some o:=λb o hb eb=>by
   cases z:X.base.get? b with
   |some u=>have:=Z.bk b u z;rw[eb]at this;cases this;exact F'.keep b _ z
   |none=>exact(N' (b,o) (aj _ (mem_allNews hb z eb))).1
  obtain⟨hD,DL,Db⟩:=N' (D,_) aA;have Dn:t2.heap.get? D=none:=by
   cases z:t2.heap.get? D with
   |none=>rfl
   |some o=>exact absurd (lt (D,o) (mem_allNews DL Db z)) (ck _)
  have HD:H2 D=none:=by
   cases z:H2 D with
   |none=>rfl
   |some u=>obtain⟨o,eo⟩:=ObjOk.get (Z.hok D u z);rw[Dn]at eo;cases eo
  obtain⟨pz,hperm,hout,hord⟩:=ko;obtain⟨z1,z2⟩:=aco wL ps xs its lps hlen;rw[<- z1]at hperm;obtain⟨T,tp,te⟩:=Ge hperm rfl;have mem:=Tj al2 r;have eps:T.map (λt=>t.1)=yx ps:=by
   refine(Jb ?_ ?_ PO.nd).symm
   .have:=tp.map λt=>t.1;rw[z2]at this;exact this
   .rw[<- te]at hord;rw[List.pairwise_map]at hord ⊢;exact hord
  have eout:out.toList=T.map λt=>t.2.2:=by rw[hout,<- te,iK];rfl
  have rv:Vals (T.map λt=>t.2.1) out.toList:=by rw[eout];exact Jc λt ht=>(mem t (tp.mem_iff.mp ht)).2
  have alT:kI X.K G (mn H2 O) (yx ps) (T.map λt=>t.2.1):=by rw[<- eps];exact Mi λt ht=>(mem t (tp.mem_iff.mp ht)).1
  have lT:(T.map λt=>t.2.1).length<=sizeLine:=by rw[ae,tp.length_eq,dA,dA];have h1:=PO.len;exact bv (small1000 (by lia))
  have hobj:h'.get? D=some { cls:=.type "list",data:=.seq out.toList.toArray cz }:=by
   rw[hD]
   all_goals simp[seqObj]
  have I3:Inv X pins σ (upd H2 D (.lst (T.map λt=>t.2.1))) { t2 with heap:=h',gens:=t2.gens,drawn:=t2.drawn,toks:=tk }:=by
   refine Z.step (ch:=[]) (λb hb=>absurd hb (by simp)) (λb o hb _ _ eo _=>Y b o hb eo) (λb o hb _ _ eo _=>⟨o.slots,Y b o hb eo⟩) (λb o _ eo no=>?_) (λb o _ eo=>?_) (λb xs z=>?_) (λb o u z=>?_) (λb ps z=>⟨#[],?_⟩) (λm0 hm0=>?_) (λb u z=>?_) Z.bare
   .rw[upd_ne (λw=>by rw[w,Dn]at eo;cases eo)];exact no
   .by_cases w:b=X.env.locals
    .obtain⟨o',es,ep,ho,_⟩:=F'.ns;rw[w];exact⟨o',ho⟩
    .exact⟨o,Y b o w eo⟩
   .rw[upd_ne (ne_of_none z HD)];exact z
   .rw[upd_ne (ne_of_none z HD)];exact z
   .rw[upd_ne (ne_of_none z HD),z];simp
   .have:=aan hm0 F.ns;subst this;exact F'.ns
   .by_cases w:b=D
    .subst w;rw[upd_same]at z;cases z;exact⟨lT,out.toList,cz,rv,hobj⟩
    .rw[upd_ne w]at z;refine(Z.hok b u z).stay (λc v hcb rr=>Y c v ?_ rr) (λc rr=>by rw[upd_ne (ne_of_none rr HD)];exact rr) (λc _ rr=>by rw[upd_ne (ne_of_none rr HD)];exact rr) λc _ _ rr=>by rw[upd_ne (ne_of_none rr HD)];exact rr
     rcases hcb with rfl|hcb
     .exact tr c _ z
     .exact tr c _ hcb
  have sD:Same H2 (upd H2 D (.lst (T.map λt=>t.2.1))):=same_new HD _;exact⟨.ref D,_,I3,rfl,q D _ _ ((s1.trans s2).trans sD) ((s1.trans s2).free HD) upd_same (kI.mono (lG sD HD) _ _ alT)⟩
end
section
variable {P:Program}{w:World}{K:Fg}{mg:Mg}{base:Heap}{G:Gx}
def abF {x:Str}{st:Stmt}{N o:Ls}{k:Nat}{pre:List PV->Prop}{F:List PV->PV}(d:lH K mg x st o)(S:FnScope N o (defScope st))(L:Gu K mg x)(len:∀as,pre as->as.length=o.length)
  (i:∀(f:Addr) (g:Value) (A:Around) (outer:List Env) (s:Shared) (H:Hp) (E:XK),Room k (A.deeper (envOfC x (defScope st) s.heap.objs.size f g))->QB K g (x++".<locals>."++"<lambda>") -> ∃fs,PSs (cxOf CX0 P w K mg base N x (defScope st) f g A outer s H E).nox (defBody st) (ts K G ER0 fs)/\∀as,pre as->fs { nx:=λ_=>F as=.non,rt:=λp=>p=F as,rl:=λns=>F as=.ints ns } (kh N as)):Ok P w K mg base (k+1) x o (q8 K G pre F):=by
 obtain⟨f,T,D,b,m⟩:=d.ex;refine⟨f,T,?_,b,D.kp,m⟩;obtain⟨oc,od,kV,R,pm,an,g,ct,osl,rfl,lk,u⟩:=D.ex;have y:QB K g (x++".<locals>."++"<lambda>"):=by obtain⟨f',Z,od',U,sl',J,l,y⟩:=L;rw[m]at J;cases J;rw[lk]at l;cases l;exact y
 refine fn_of lk u S (λvs H Q E h=>?_) λA outer s H vs Q E Y h=>?_
 .obtain⟨as,O,_,t,B,_⟩:=h;rw[<- t.length];exact len as B
 obtain⟨as,O,I,t,B,q⟩:=h;obtain⟨fs,b,c⟩:=i f g A outer s H E Y y;refine⟨_,b.nox,⟨H,O⟩,kh N as,_,⟨O,nJ I t⟩,c as B,⟨λσ' j ρ' r h=>?_,λv j p C M h=>?_,λa j ns C n e h=>?_,λ_ _ _ _ _ h=>h.elim,λ_ _ _ _ h=>h,λ_ _ _ _ h=>h,λ_ _ _ _ _ h=>h⟩⟩
 .obtain⟨O',r⟩:=r;exact q .non j r.same (by rw[show F as=.non from h];rfl)
 .have h:p=F as:=h;subst h;exact q v j C M
 .have h:F as=.ints ns:=h;refine q _ j C ?_;rw[h];exact⟨a,rfl,.inl (by
   rw[lZ]
   .exact e
   .cases z:O a with
    |false=>rfl
    |true=>exact absurd n (I a z))⟩
end
end L3
namespace L2
open PySem.AutoSeq1 (wpAny_loadPart')
open PySem.MeetsSeq PySem.MeetsSeq2 PySem.MeetsSeq3 PySem.SeqAt
def m5:List Int->List Int->Bool
 |a::r,b::t=>if a=b then m5 r t else decide (a<b)
 |_,_=>false
def Fq:∀{vs:Lv} {ns:Li},IntsAre vs ns->∀i,i<vs.length->∃t,vs[i]?=some (.int (ns.getD i 0) t)
 |_,_,.nil,i,h=>absurd h (by simp)
 |_,_,.cons n t r,0,h=>⟨t,rfl⟩
 |_,_,.cons n t r,i+1,h=>by obtain⟨u,e⟩:=Fq r i (by simpa using h);exact⟨u,e⟩
def RB {ns m:Li}{i:Nat}(h:i<ns.length)(a:i<m.length):m5 (ns.drop i) (m.drop i)=if ns.getD i 0=m.getD i 0 then m5 (ns.drop (i+1)) (m.drop (i+1)) else decide (ns.getD i 0<m.getD i 0):=by rw[f6 h,f6 a];simp[m5,gQ,h,a]
def Oz {xs y:Lv}{ns m:Li}(l b:Addr)(n I:Nat)(dd q:Option Addr)(L r:Array (Option Value))(v:IntsAre xs ns)(x:IntsAre y m)(G:xs.length=y.length)(k:Nat) :
  ∀i:Nat,xs.length-i=k->Meets (Builtin.«list.__eq__.loop» ⟨[.ref l,.ref b,rawInt i,rawInt 0],[]⟩)
   (λA R s=>s.heap.get? l=some { cls:=.type "list",dict:=dd,data:=.seq xs.toArray n,slots:=L }/\s.heap.get? b=some { cls:=.type "list",dict:=q,data:=.seq y.toArray I,slots:=r } /\ R (.ok (.ret (.bool (m5 (ns.drop i) (m.drop i))))) s):=by
 have O:=v.length;have N:=x.length
 induction k with
 |zero=>
  intro i E p w A R s h;obtain⟨F,g,d,M,J⟩:=s;obtain⟨j,f,h⟩:=h
  wp_walk using wpAny_loadPart' j,wpAny_loadPart' f
  have a:xs.toArray[((i:Nat):Int).toNat]?=none:=by simp;lia
  have c:y.toArray[((i:Nat):Int).toNat]?=none:=by simp;lia
  have D:m5 (ns.drop i) (m.drop i)=false:=by rw[List.drop_of_length_le (by lia)];rfl
  rw[D]at h;rw[a,c]
  wp_walk using wpAny_loadPart' j,wpAny_loadPart' f
  show R (.ok (.ret (.bool (decide (xs.toArray.size<y.toArray.size))))) _;have:¬xs.toArray.size<y.toArray.size:=by simp;lia
  rw[aK this];exact h
 |succ k H=>
  intro i E p w A R s h;obtain⟨F,g,d,M,J⟩:=s;obtain⟨j,f,h⟩:=h
  wp_walk using wpAny_loadPart' j,wpAny_loadPart' f
  obtain⟨t,z⟩:=Fq v i (by lia);obtain⟨u,B⟩:=Fq x i (by lia);have a:xs.toArray[((i:Nat):Int).toNat]?=some (.int (ns.getD i 0) t):=by simpa using z
  have c:y.toArray[((i:Nat):Int).toNat]?=some (.int (m.getD i 0) u):=by simpa using B
  have C:((i:Int)+1)=((i+1:Nat):Int):=by push_cast;rfl
  rw[RB (by lia) (by lia)]at h;rw[a,c];refine ac (gK ?_);by_cases o:ns.getD i 0=m.getD i 0
  .rw[ai o]at h;have e:(ns.getD i 0 == m.getD i 0)=true:=by simpa using o
   rw[e]
   wp_walk
   rw[C];exact⟨plainId_quiet plain_eq_loop _,gZ entry_eq_loop (by
    rw[Around.under_plainId plain_eq_loop _];exact H (i+1) (by lia) p w A R _ ⟨j,f,h⟩)⟩
  .rw[ag o]at h;have e:(ns.getD i 0 == m.getD i 0)=false:=by simpa using o
   rw[e]
   wp_walk using wpAny_loadPart' j,wpAny_loadPart' f
   rw[a,c];refine ac (wpAny_lt_int ?_)
   wp_walk
   exact h
def QH (l b:Addr)(n j:Nat)(dd a:Option Addr)(k c:Array (Option Value))(m:IntsAre xs ns)(o:IntsAre y q)(e:xs.length=y.length) :
  Meets (Builtin.«list.__lt__» ⟨[.ref l,.ref b],[]⟩)
   (λA R s=>s.heap.get? l=some { cls:=.type "list",dict:=dd,data:=.seq xs.toArray n,slots:=k }/\s.heap.get? b=some { cls:=.type "list",dict:=a,data:=.seq y.toArray j,slots:=c } /\ R (.ok (.ret (.bool (m5 ns q)))) s):=by
 intro p w A R s h;obtain⟨t,g,d,v,u⟩:=s;obtain⟨i,f,h⟩:=h;have r:=PySem.AutoSeq1.sub_list_list
 wp_walk using wpAny_loadPart' i,wpAny_loadPart' f
 exact⟨plainId_quiet plain_eq_loop _,gZ entry_eq_loop (by
  rw[Around.under_plainId plain_eq_loop _];exact Oz l b n j dd a k c m o e _ 0 rfl p w A R _ ⟨i,f,by simpa using h⟩)⟩
def V5 (hl:s.heap.IsList a xs.toArray)(t:s.heap.IsList b y.toArray)(u:IntsAre xs ns)(v:IntsAre y m)(i:xs.length=y.length)(z:A.units<cLine)(h:Q (.bool (m5 ns m)) s) :
  wpAny (model prog w) A (compareOp .Lt (.ref a) (.ref b)) Q E s:=by
 obtain⟨⟨cls,r,l,C⟩,q,o,n,p⟩:=id hl;obtain⟨⟨k,g,f,j⟩,e,c,B,d⟩:=id t;simp only at o p c d;subst o p c d;exact richCompare_meets_room (op:=.Lt) ⟨_,q,rfl⟩ ⟨_,e,rfl⟩ F.slot_list_lt F.entry_list_lt (F.args_list_lt_2 _ _) (QH a b n B r g C j u v i)
  ⟨q,e,show Value.bool (m5 ns m)≠Value.notImplemented/\Q (.bool (m5 ns m)) s from⟨(λx=>nomatch x),h⟩⟩ z
def pH (a b:List Int):Bool:=if (a.length:Int)=(b.length:Int) then(if a=b then false else m5 a b) else decide ((a.length:Int)<(b.length:Int))
def aaa (q:IsTup s.heap x #[.int (ns.length:Int) tx,.ref gx])(r:IsTup s.heap y #[.int (m.length:Int) ty,.ref gy])(l:s.heap.IsList gx xs.toArray)(b:s.heap.IsList gy f.toArray)
  (i:IntsAre xs ns) (a:IntsAre f m) (v:A.units+64<cLine) (h:Q (pH ns m) s):wpAny (model prog w) A (keyLt' (tuples' true) (.ref x) (.ref y)) Q E s:=by
 obtain⟨C,n,t,z,g⟩:=q;obtain⟨D,o,u,B,j⟩:=r;refine W.kat_lt n g o j (W.kat_cons (gK ?_));by_cases c:(ns.length:Int)=(m.length:Int)
 .have e:((ns.length:Int) == (m.length:Int))=true:=by simpa using c
  rw[e];have p:xs.length=f.length:=by have:=i.length;have:=a.length;lia
  refine W.kat_yes (W.kat_cons (SeqAt.eqAt_reads _ _ _ _ _ _ _ _ (reads_newData l (W.ke_carried i)) (reads_newData b (W.ke_carried a)) (by simp[PyData.canLay0,g3]) (by simp[PyData.canLay0,g3]) (by
   simp only[PyData.depth,W.ke_depthAll];lia) _ _ _ _ ?_))
  have k:PyData.eqv (.list (ns.map PyData.int)) (.list (m.map PyData.int))=decide (ns=m):=W.ked_eqvAll ns m;rw[k];unfold pH at h;rw[ai c]at h;by_cases d:ns=m
  .rw[aQ d];rw[ai d]at h;exact W.kat_yes (W.kat_nil h)
  .rw[aK d];rw[ag d]at h;exact W.kat_no (W.kat_one _ _ (V5 l b i a p (by lia) h))
 .have e:((ns.length:Int) == (m.length:Int))=false:=by simpa using c
  rw[e];unfold pH at h;rw[ag c]at h;exact W.kat_no (oneLt_int h)
end L2
end
namespace L2
open PySem PySem.Spec PyProof.Rows PySem.W
def uE (n:Nat)(lt:Nat->Nat->Bool){b:Type}(Post:b->Prop):KasT b->Prop
 | .ret a=>Post a
 | .ask i j k=>i<n/\j<n/\uE n lt Post (k (lt i j))
section
variable {n:Nat}{lt:Nat->Nat->Bool}{g o:Type}
def uE.mono (h:∀a,P a->Q a):∀(t:KasT g),uE n lt P t->uE n lt Q t
 | .ret a,k=>h a k
 | .ask _ _ k,⟨a,b,c⟩=>⟨a,b,uE.mono h (k _) c⟩
def uE.bind {f:g->KasT o}{Q:o->Prop}:∀(t:KasT g),uE n lt (λa=>uE n lt Q (f a)) t->uE n lt Q (t.bind f)
 | .ret _,k=>k
 | .ask _ _ k,⟨a,b,c⟩=>⟨a,b,uE.bind (k _) c⟩
def uE.wp (h:∀i j C,i<n->j<n->C (lt i j) s->cmp i j C s)(d:∀a,P a->Q a s):∀(t:KasT g),uE n lt P t->t.kasWp cmp Q s
 | .ret a,k=>d a k
 | .ask _ _ k,⟨a,b,c⟩=>h _ _ _ a b (uE.wp h d (k _) c)
structure XC (n:Nat)(lt:Nat->Nat->Bool):Prop where
 asy:∀i j,i<n->j<n->lt i j=true->lt j i=false
 tot:∀i j,i<n->j<n->i≠j->lt i j=false->lt j i=true
 tr:∀i j k,i<n->j<n->k<n->lt i j=true->lt j k=true->lt i k=true
def PR (n:Nat)(p:Array Nat):Prop:=p.toList.Perm (List.range n)
def PR.size (h:PR n p):p.size=n:=by have:=List.Perm.length_eq h;rw[aU,aY]at this;exact this
def z7 {p:Array Nat}{i:Nat}(h:i<p.size):p.getD i 0=p[i]:=by simp[Array.getD,h]
def PR.bd {p:Array Nat}(h:PR n p){i:Nat}(a:i<n):p.getD i 0<n:=by
 rw[z7 (by rw[h.size];exact a)];have:p[i]'(by rw[h.size];exact a)∈p.toList:=by simp
 exact bw.mp (List.Perm.mem_iff h |>.mp this)
def PR.ne {p:Array Nat}(h:PR n p){i j:Nat}(d:i<n)(f:j<n)(b:i≠j):p.getD i 0≠p.getD j 0:=by
 have s:=h.size;rw[z7 (by lia),z7 (by lia)];have c:p.toList.Nodup:=(List.Perm.nodup_iff h).mpr List.nodup_range;intro e;have l:i<p.toList.length:=by rw[aY];lia
 have a:j<p.toList.length:=by rw[aY];lia
 have:=(List.nodup_iff_pairwise_ne.mp c |> dJ.mp);rcases Nat.lt_or_gt_of_ne b with q|q
 .exact this i j l a q (by simpa using e)
 .exact this j i a l q (by simpa using e.symm)
def Qy (lt:Nat->Nat->Bool)(p:Array Nat)(m:Nat):Prop:=∀i j,i<j->j<m->lt (p.getD i 0) (p.getD j 0)=true
def Qy.step (O:XC n lt)(R:PR n p)(S:Qy lt p m)(b:m<n)(h0:0<m)(h:lt (p.getD m 0) (p.getD (m-1) 0)=false):Qy lt p (m+1):=by
 have l:lt (p.getD (m-1) 0) (p.getD m 0)=true:=O.tot _ _ (R.bd b) (R.bd (by lia)) (R.ne b (by lia) (by lia)) h;intro i j a e;by_cases c:j<m
 .exact S i j a c
 .have:j=m:=by lia
  subst this;by_cases d:i=j-1
  .rw[d];exact l
  .exact O.tr _ _ _ (R.bd (by lia)) (R.bd (by lia)) (R.bd b) (S i (j-1) (by lia) (by lia)) l
def Ld (O:XC n lt)(R:PR n p):∀(f m:Nat),0<m->m+f=n->Qy lt p m->uE n lt (λk=>m<=k/\k<=n/\Qy lt p k/\(k<n->lt (p.getD k 0) (p.getD (k-1) 0)=true)) (kas_asc p f m)
 |0,m,h0,hm,S=>⟨aB _,by lia,S,λh=>by lia⟩
 |f+1,m,h0,hm,S=>by
  refine⟨R.bd (by lia),R.bd (by lia),?_⟩;cases c:lt (p.getD m 0) (p.getD (m-1) 0) with
  |true=>dsimp only;rw[ai rfl];exact⟨aB _,by lia,S,λ_=>c⟩
  |false=>dsimp only;rw[ag (by decide)];exact uE.mono (λk h=>⟨by lia,h.2⟩) _ (Ld O R f (m+1) (by lia) (by lia) (S.step O R (by lia) h0 c))
def Dsc (lt:Nat->Nat->Bool)(p:Array Nat)(m:Nat):Prop:=∀i j,i<j->j<m->lt (p.getD j 0) (p.getD i 0)=true
def Dsc.step (O:XC n lt)(R:PR n p)(S:Dsc lt p m)(a:m<n)(h0:0<m)(l:lt (p.getD m 0) (p.getD (m-1) 0)=true):Dsc lt p (m+1):=by
 intro i j h b;by_cases c:j<m
 .exact S i j h c
 .have:j=m:=by lia
  subst this;by_cases d:i=j-1
  .rw[d];exact l
  .exact O.tr _ _ _ (R.bd a) (R.bd (by lia)) (R.bd (by lia)) l (S i (j-1) (by lia) (by lia))
def Ly (O:XC n lt)(R:PR n p):∀(f m:Nat),0<m->m+f=n->Dsc lt p m->uE n lt (λr=>r.1=p/\r.2.2=0/\m<=r.2.1/\r.2.1<=n/\Dsc lt p r.2.1) (kas_desc f p m 0)
 |0,m,h0,hm,S=>⟨rfl,rfl,aB _,by show m<=n;lia,S⟩
 |f+1,m,h0,hm,S=>by
  refine⟨R.bd (by lia),R.bd (by lia),?_⟩;cases c:lt (p.getD m 0) (p.getD (m-1) 0) with
  |true=>dsimp only;rw[ai rfl,ag (by decide)];exact uE.mono (λr h=>⟨h.1,h.2.1,by have:=h.2.2.1;lia,h.2.2.2⟩) _ (Ly O R f (m+1) (by lia) (by lia) (S.step O R (by lia) h0 c))
  |false=>dsimp only;rw[ag (by decide)];have d:lt (p.getD (m-1) 0) (p.getD m 0)=true:=O.tot _ _ (R.bd (by lia)) (R.bd (by lia)) (R.ne (by lia) (by lia) (by lia)) c;refine⟨R.bd (by lia),R.bd (by lia),?_⟩;dsimp only;rw[d,ai rfl];exact⟨rfl,rfl,aB _,by show m<=n;lia,S⟩
def getD_get {p:Array Nat}{i:Nat}:p.getD i 0=(p[i]?).getD 0:=by simp
def Vm {p:Array Nat}{m i:Nat}(a:m<=p.size):(kas_rev p 0 m).getD i 0=if i<m then p.getD (m-1-i) 0 else p.getD i 0:=by
 rw[getD_get,getD_get,getD_get];unfold kas_rev;rw[getElem?_mirror_all a];by_cases c:i<m
 .rw[ai ⟨bA _,c⟩,ai c];congr 2;lia
 .rw[ag (λh=>c h.2),ag c]
def aaZ (R:PR n p):PR n (kas_rev p 0 m):=by have:=mirror_perm p 0 m ((m-0) / 2);exact(fP.mp this).trans R
def T3 (O:XC n lt)(R:PR n p)(A:2<=n):uE n lt (λr=>PR n r.2/\1<=r.1/\r.1<=n/\Qy lt r.2 r.1) (kas_count n p):=by
 refine uE.bind _ (uE.mono (λk h=>?_) _ (Ld O R (n-1) 1 (by decide) (by lia) λi j a b=>by lia));obtain⟨y,z,S,L⟩:=h;by_cases c:k=n
 .subst c;rw[ai (by simp)];exact⟨R,by lia,aB _,S⟩
 .rw[ag (by simpa using c)];by_cases d:k > 1
  .rw[ai d];refine⟨R.bd (by lia),R.bd (by lia),?_⟩;dsimp only;rw[S 0 (k-1) (by lia) (by lia),ai rfl];exact⟨R,y,z,S⟩
  .rw[ag d];have e:k=1:=by lia
   subst e;have w:Dsc lt p 2:=λi j a b=>by
    have l:i=0:=by lia
    have s:j=1:=by lia
    subst l s;exact L (by lia)
   refine uE.bind _ (uE.mono (λr h=>?_) _ (Ly O R (n-2) 2 (by decide) (by lia) w));obtain⟨v,m,q⟩:=r;obtain⟨l,s,u,f,D⟩:=h;have u:2<=m:=u;have f:m<=n:=f;subst l s;show uE _ _ _ (if 0 > 0 then _ else kas_tail3 m n v);rw[ag (by decide)];have t:=aaZ (m:=m) R;have x:Qy lt (kas_rev v 0 m) m:=λi j a b=>by rw[Vm (by rw[R.size];exact f),Vm (by rw[R.size];exact f),ai (by lia),ai b];exact D (m-1-j) (m-1-i) (by lia) (by show m-1-i<m;lia)
   refine uE.bind _ (uE.mono (λk h=>?_) _ (Ld O t (n-m) m (by lia) (by lia) x));exact⟨t,by show 1<=k;lia,h.2.1,h.2.2.1⟩
def Ba (O:XC n lt)(R:PR n p)(h:k<n)(S:Qy lt p k):∀(f l r:Nat),l<=r->r<=k->r-l<=f->(∀i,i<l->lt (p.getD i 0) (p.getD k 0)=true)->(∀i,r<=i->i<k->lt (p.getD k 0) (p.getD i 0)=true) ->
  uE n lt (λl=>l<=k/\(∀i,i<l->lt (p.getD i 0) (p.getD k 0)=true)/\∀i,l<=i->i<k->lt (p.getD k 0) (p.getD i 0)=true) (kas_place p k f l r)
 |0,l,r,h1,h2,h3,A,B=>by
  have:l=r:=by lia
  subst this;exact⟨h2,A,B⟩
 |f+1,l,r,h1,h2,h3,A,B=>by
  unfold kas_place;by_cases c:l ≥ r
  .rw[ai c];have:l=r:=by lia
   subst this;exact⟨h2,A,B⟩
  .rw[ag c];refine⟨R.bd h,R.bd (by lia),?_⟩;cases d:lt (p.getD k 0) (p.getD ((l+r) / 2) 0) with
   |true=>
    dsimp only;rw[ai rfl];refine Ba O R h S f l ((l+r) / 2) (by lia) (by lia) (by lia) A λi a b=>?_;by_cases e:i=(l+r) / 2
    .rw[e];exact d
    .exact O.tr _ _ _ (R.bd h) (R.bd (by lia)) (R.bd (by lia)) d (S _ _ (by lia) b)
   |false=>
    dsimp only;rw[ag (by decide)];have j:=O.tot _ _ (R.bd h) (R.bd (by lia)) (R.ne h (by lia) (by lia)) d;refine Ba O R h S f ((l+r) / 2+1) r (by lia) h2 (by lia) (λi a=>?_) B;by_cases e:i=(l+r) / 2
    .rw[e];exact j
    .exact O.tr _ _ _ (R.bd (by lia)) (R.bd (by lia)) (R.bd h) (S i ((l+r) / 2) (by lia) (by lia)) j
def U8 {p:Array Nat}{k l i:Nat}(h:k<p.size)(hl:l<=k):(bubble p k (k-l)).getD i 0=if i=l then p.getD k 0 else if l<i/\i<=k then p.getD (i-1) 0 else p.getD i 0:=by
 rw[getD_get,getElem?_bubble h _ (by lia)];have e:k-(k-l)=l:=by lia
 rw[e];by_cases c:i=l
 .rw[ai c,ai c,getD_get]
 .rw[ag c,ag c];by_cases d:l<i/\i<=k
  .rw[ai d,ai d,getD_get]
  .rw[ag d,ag d,getD_get]
def Vn (O:XC n lt):∀(f:Nat) (p:Array Nat) (k:Nat),PR n p->k+f=n->Qy lt p k->uE n lt (λp=>PR n p/\Qy lt p n) (kas_bin f p k)
 |0,p,k,R,hk,S=>by
  have:k=n:=by lia
  subst this;exact⟨R,S⟩
 |f+1,p,k,R,hk,S=>by
  have sz:=R.size;refine uE.bind _ (uE.mono (λl h=>?_) _ (Ba O R (by lia) S k 0 k (bA _) (aB _) (by lia) (λi a=>by lia) λi a b=>by lia));obtain⟨q,A,B⟩:=h;have r:PR n (bubble p k (k-l)):=(fP.mp (bubble_perm p k (k-l))).trans R;refine Vn O f _ (k+1) r (by lia) λi j a b=>?_;rw[U8 (by lia) q,U8 (by lia) q];by_cases c:i=l
  .rw[ai c,ag (by lia),ai (by lia)];exact B _ (by lia) (by lia)
  .rw[ag c];by_cases d:j=l
   .rw[ai d,ag (by lia)];exact A _ (by lia)
   .rw[ag d];by_cases e:l<i/\i<=k
    .rw[ai e,ai (by lia)];exact S _ _ (by lia) (by lia)
    .rw[ag e];by_cases m:l<j/\j<=k
     .rw[ai m];exact S _ _ (by lia) (by lia)
     .rw[ag m];exact S _ _ a (by lia)
def WN (O:XC n lt)(b:2<=n):uE n lt (λp=>PR n p/\Qy lt p n) (kas_sort n):=by
 have a:PR n (List.toArray (List.range n)):=List.Perm.refl _;refine uE.bind _ (uE.mono (λr h=>?_) _ (T3 O a b));obtain⟨R,d,f,S⟩:=h;by_cases c:r.1<n
 .rw[ai c];have e:max r.1 1=r.1:=by lia
  rw[e];exact Vn O _ _ _ R (by lia) S
 .rw[ag c];have e:r.1=n:=by lia
  rw[e]at S;exact⟨R,S⟩
end
end L2
section
open PySem PySem.Spec PyProof.Rows
namespace L3
open L2
def W2 (g:List Int):PV:=.tup [.int (g.length:Int),.ints g]
def Hs:∀a:List Int,m5 a a=false
 |[]=>rfl
 |x::a=>by show(if x=x then m5 a a else _)=false;rw[ai rfl,Hs a]
def Ja:∀a b:List Int,m5 a b=true->m5 b a=false
 |[],_,h=>by cases h
 |x::a,[],h=>by cases h
 |x::a,y::b,h=>by
  have h:(if x=y then m5 a b else decide (x<y))=true:=h;show(if y=x then m5 b a else decide (y<x))=false;by_cases c:x=y
  .rw[ai c]at h;rw[ai c.symm];exact Ja a b h
  .rw[ag c]at h;have h:=bi h;rw[ag (br c),aK (by lia)]
def Hf:∀a b:List Int,a.length=b.length->a≠b->m5 a b=false->m5 b a=true
 |[],[],_,h,_=>absurd rfl h
 |[],_::_,h,_,_=>by cases h
 |_::_,[],h,_,_=>by cases h
 |x::a,y::b,l,n,h=>by
  have h:(if x=y then m5 a b else decide (x<y))=false:=h;show(if y=x then m5 b a else decide (y<x))=true;by_cases c:x=y
  .rw[ai c]at h;rw[ai c.symm];exact Hf a b (by simpa using l) (λz=>n (by rw[c,z])) h
  .rw[ag c]at h;have h:=of_decide_eq_false h;rw[ag (br c),aQ (by lia)]
def Oh:∀a b c:List Int,m5 a b=true->m5 b c=true->m5 a c=true
 |[],_,_,h,_=>by cases h
 |_::_,[],_,h,_=>by cases h
 |_::_,_::_,[],_,h=>by cases h
 |x::a,y::b,z::c,h,k=>by
  have h:(if x=y then m5 a b else decide (x<y))=true:=h;have k:(if y=z then m5 b c else decide (y<z))=true:=k;show(if x=z then m5 a c else decide (x<z))=true;by_cases d:x=y
  .subst d;rw[ai rfl]at h;by_cases e:x=z
   .rw[ai e]at k ⊢;exact Oh a b c h k
   .rw[ag e]at k ⊢;exact k
  .rw[ag d]at h;have h:=bi h;by_cases e:y=z
   .subst e;rw[ag d,aQ h]
   .rw[ag e]at k;have k:=bi k;rw[ag (by lia),aQ (by lia)]
def n6:pH a b=true ↔ a.length<b.length\/(a.length=b.length/\m5 a b=true):=by
 unfold pH;by_cases c:(a.length:Int)=(b.length:Int)
 .rw[ai c];by_cases d:a=b
  .subst d;rw[ai rfl,Hs];simp
  .rw[ag d];constructor
   .exact λh=>.inr ⟨by lia,h⟩
   .rintro (h|h)
    .lia
    .exact h.2
 .rw[ag c,bM];constructor
  .exact λh=>.inl (by lia)
  .rintro (h|h)<;>lia
def G6 (h:pH a b=true):pH b a=false:=by
 cases k:pH b a with
 |false=>rfl
 |true=>
  rcases n6.mp h with h|h<;>rcases n6.mp k with k|k
  .lia
  .lia
  .lia
  .have:=Ja _ _ h.2;rw[k.2]at this;cases this
def RX (n:a≠b)(h:pH a b=false):pH b a=true:=by
 refine n6.mpr ?_;by_cases c:b.length<a.length
 .exact .inl c
 .right;by_cases d:a.length<b.length
  .rw[n6.mpr (.inl d)]at h;cases h
  .refine⟨by lia,Hf a b (by lia) n ?_⟩;cases k:m5 a b with
   |false=>rfl
   |true=>rw[n6.mpr (.inr ⟨by lia,k⟩)]at h;cases h
def Wb (h:pH a b=true)(k:pH b c=true):pH a c=true:=by
 refine n6.mpr ?_;rcases n6.mp h with h|h<;>rcases n6.mp k with k|k
 .left;lia
 .left;lia
 .left;lia
 .exact .inr ⟨by lia,Oh _ _ _ h.2 k.2⟩
def V1 {g:List (List Int)}(c:g.Nodup):XC g.length λi j=>pH (g.getD i []) (g.getD j []) where
 asy:=λ_ _ _ _ h=>G6 h
 tot:=λi j a b n h=>RX (λz=>n (by
  rw[gQ,gQ,aa a,aa b]at z;exact(List.getElem_inj c).mp z)) h
 tr:=λ_ _ _ _ _ _ h k=>Wb h k
def Gv (I:Inv X a c H s)(e:s.heap.get? D=some o)(n:H D=none)(b:D≠X.env.locals)(fs:D∉X.fs)(d:∀v,o.data ≠ .cell v):Inv X ((D,o)::a) c H s:=
 { I with pin:=λp h=>(aZ.mp h).elim (λh=>I.pin p (bV _ h)) λh=>(aw.mp h).elim (λz=>z ▸ ⟨e,n,b,fs,d⟩) λh=>I.pin p (aI _ h) }
def xG (I:Inv X (q::c) d H s):Inv X c d H s/\s.heap.get? q.1=some q.2/\H q.1=none:=by obtain⟨a,b,_⟩:=I.pin q (aI _ aA);exact⟨{ I with pin:=λp h=>I.pin p ((aZ.mp h).elim (λh=>bV _ h) λh=>aI _ (aj _ h)) },a,b⟩
structure nq (X:Cx)(pins:List (Addr×Obj))(D:Addr):Prop where
 big:X.s₀.heap.objs.size<=D
 loc:D≠X.env.locals
 cel:∀x c,X.env.cells.lookup x=some c->c≠D
 pin:∀p∈X.pn++pins,p.1≠D
 fs:D∉X.fs
def nq.of (I:Inv X a f H t)(h:t.heap.objs.size<=D):nq X a D where
 big:=aG I.sz h
 loc:=cH (aN I.lt h)
 cel:=λx c e=>by obtain⟨v,o,b,_⟩:=I.cell x c e;exact aX (aN (ay b) h)
 pin:=λp d=>aX (aN (ay (I.pin p d).1) h)
 fs:=I.nofs h
def vA (I:Inv X p w H s)(F:nq X p D)(t:Heap.SameBut D s.heap h')(e:h'.get? D=some o')(n:H D=none):Inv X p w H { s with heap:=h' }:=by
 have k:∀b o,b≠D->s.heap.get? b=some o->h'.get? b=some o:=λb o h q=>by rw[t.2 b h];exact q
 have f:∀b u,H b=some u->b≠D:=λb u q z=>by rw[z,n]at q;cases q
 refine I.step (ch:=[D]) (g':=s.gens) (d':=s.drawn) (t':=s.toks) (λb h=>?_) (λb o _ _ h q _=>k b o (λz=>h (ap.mpr z)) q) (λb o _ _ h q _=>⟨o.slots,k b o (λz=>h (ap.mpr z)) q⟩) (λb o _ _ q=>q) (λb o _ q=>?_) (λb _ q=>q) (λb _ _ q=>q) (λb x q=>⟨#[],by rw[q];simp⟩) (λm j=>?_) (λb u q=>?_) I.bare
 .rw[ap.mp h];exact⟨.inr F.big,F.loc,F.cel,F.pin⟩
 .by_cases z:b=D
  .rw[z];exact⟨o',e⟩
  .exact⟨o,k b o z q⟩
 .obtain⟨o,i,g,l,r⟩:=j;exact⟨o,i,g,k _ _ (br F.loc) l,r⟩
 .refine(I.hok b u q).stay (λc v a d=>k c v ?_ d) (λc d=>d) (λc _ d=>d) λc _ _ d=>d;rcases a with rfl|a
  .exact f _ _ q
  .exact f _ _ a
def PL (I:Inv X p C H s)(a:At X.K G (mn H O) (W2 g) kv)(r:RelV kv k) :
  ∃x b v xs,k=.ref x/\IsTup s.heap x #[.int (g.length:Int) v,.ref b]/\s.heap.IsList b xs.toArray/\IntsAre xs g:=by
 obtain⟨x,B,rfl,f,z,w,rfl,h,A,y,rfl,⟨b,rfl,t⟩,d⟩:=a;subst d h;cases r;obtain⟨_,c,u,tup⟩:=I.hok x _ (qZ f).2;obtain⟨_,i,n,o,_,e⟩:=L3.Inv.BP I (jh jx t);cases u with
 |cons q j=>
  cases j with
  |cons l m=>cases m;cases l;obtain⟨tok,rfl⟩:=q;exact⟨x,b,tok,i,rfl,tup,⟨_,e,rfl,n,rfl⟩,vU o⟩
def Cq (its:List Value)(p:List Nat):List Value:=p.map λi=>its.getD i Value.none
def Rg (X:Cx)(a:List (Addr×Obj))(b:L2.St)(H:Hp)(D:Addr)(its:List Value)(g:List (List Int))(R:Shared->Prop):Prop:=
 ∀(h:Hp) (p:List Nat) (c:Nat) (s:Shared),Inv X a b h s -> Same H h -> h D=none->s.heap.get? D=some (seqObj "list" (Cq its p).toArray c)->p.Perm (List.range its.length)->p.Pairwise (λi j=>pH (g.getD i []) (g.getD j [])=true)->R s
def Mu {st:SortSt}{ks:Lv}{p:List Nat}{e:Nat}(I:Inv X a C H s)(r:nq X a D)(t:nq X a k)(ne:k≠D)(x:s.heap.get? D=some (seqObj "list" #[] c))(f:s.heap.get? k=some (seqObj "list" ks.toArray e))(b:H D=none)(n:H k=none)
  (v:(arrOf st).map (·.2)=(Cq its p).toArray) (w:failedOf st=none) (l:p.Perm (List.range its.length)) (y:p.Pairwise (λi j=>pH (d.getD i []) (d.getD j [])=true)) (F:ks.length<64) (z:its.length<64) (fin:Rg X a C H D its d λs'=>P (.done (.ret .none)) s') :
  wpAny (model X.prog X.w) A (ksk_tail D false c (.ref k) st) P E s:=by
 have m:=dQ s.heap k (Obj.mapSeq λ_=>(#[]:Array Value));have u:=get?_update_seq f λ_=>(#[]:Array Value);have o:=vA I t m u n;have h:(s.heap.update k (Obj.mapSeq λ_=>(#[]:Array Value))).get? D=some (seqObj "list" #[] c):=by rw[m.2 D (br ne)];exact x
 have B:=dQ (s.heap.update k (Obj.mapSeq λ_=>(#[]:Array Value))) D (Obj.mapSeq λ_=>(Cq its p).toArray);have g:=get?_update_seq h λ_=>(Cq its p).toArray;have q:=vA o r B g b;have lp:(Cq its p).length<64:=by unfold Cq;rw[ae,l.length_eq,aU];exact z
 unfold ksk_tail;dsimp only;rw[v];refine ac (gE f rfl (ac (wpAny_letGo (ac (seqEpoch_at h rfl (ac (gE h rfl ?_ (bA _) (by
  rw[ag (by decide),aq,ao];lia))))))) (by rw[aq,ao];lia) (bA _))
 rw[w];simp only[bne_self_eq_false,Bool.false_eq_true,iP];exact aO (fin H p _ _ q (Same.refl H) b g l y)
def Ma:∀{ks:Lv},(∀k∈ks,∃x n t g,k=.ref x/\IsTup h x #[.int n t,.ref g])->∃fs,W.KatTups h ks fs/\fs.length=ks.length/\∀v∈fs,∃n t,v=Value.int n t
 |[],_=>⟨[],tT,rfl,λ_ h=>by cases h⟩
 |k::ks,hk=>by
  obtain⟨fs,a,b,c⟩:=Ma λl j=>hk l (aj _ j);obtain⟨x,n,t,g,rfl,o,i,e,m,f⟩:=hk k aA;refine⟨.int n t::fs,W.KatTups.cons i e f rfl a,by rw[bR,bR,b],λv d=>?_⟩;rcases aw.mp d with rfl|d
  .exact⟨n,t,rfl⟩
  .exact c v d
def Xo (its:Lv):Cq its (List.range its.length)=its:=by unfold Cq;refine ff (by rw[ae,aU]) λi a h=>?_;rw[cu,dj,gQ,aa h];rfl
def YK (X:Cx)(G:Gx)(O:Addr->Bool)(H:Hp)(g:List (List Int))(ks:List Value):Prop:=∀j,j<ks.length->∃a k,ks[j]?=some k/\RelV a k/\At X.K G (mn H O) (W2 (g.getD j [])) a
def Zx {e:Nat}(I:Inv X d σ H s)(S:nq X d D)(U:nq X d w)(ne:w≠D)(Y:s.heap.get? D=some (seqObj "list" #[] F))(Z:s.heap.get? w=some (seqObj "list" ks.toArray e))(L:H D=none)(M:H w=none)
  (kl:ks.length=its.length) (gl:g.length=its.length) (kg:YK X G O H g ks) (nd:g.Nodup) (q:its.length<64) (hu:A.units+64<cLine) (fin:Rg X d σ H D its g λs'=>P (.done (.ret .none)) s') :
  wpAny (model X.prog X.w) A (ksk_end D false its.toArray F (.ref w) ks.toArray) P E s:=by
 unfold ksk_end;simp only[Bool.false_eq_true,iP];by_cases z:its.length<2
 .rw[ai (by rw[aq];exact z),ai (by rw[aq];exact z)];refine ac (aO (ac (aO ?_)));refine Mu (p:=List.range its.length) I S U ne Y Z L M ?_ rfl (List.Perm.refl _) ?_ (by lia) q fin
  .rw[Xo];apply Array.toList_inj.mp;rw[Array.toList_map,ksk_zip];show List.map Prod.snd (ks.zip its)=its;exact List.map_snd_zip (by lia)
  .refine dJ.mpr λi j o f h=>?_;rw[aU]at f;lia
 .rw[ag (by rw[aq];exact z),ag (by rw[aq];exact z)];have facts:∀j,j<its.length->∃x l m xs,ks.getD j Value.none=.ref x/\IsTup s.heap x #[.int ((g.getD j []).length:Int) m,.ref l]/\s.heap.IsList l xs.toArray/\IntsAre xs (g.getD j []):=λj f=>by obtain⟨kv,k,ek,rk,ak⟩:=kg j (by lia);obtain⟨x,l,m,xs,rfl,r⟩:=PL I ak rk;exact⟨x,l,m,xs,by rw[gQ,ek];rfl,r⟩
  obtain⟨fs,tu,fl,fi⟩:=Ma (h:=s.heap) (ks:=ks) λk hk=>by obtain⟨j,f,rfl⟩:=cQ.mp hk;obtain⟨x,l,m,xs,R,t,_⟩:=facts j (by lia);rw[gQ,aa f]at R;exact⟨x,_,m,l,R,t⟩
  refine ac (W.kat_kind (T:=.type "int") tu (by lia) (λv hv=>?_) (by decide) ?_)
  .obtain⟨n,m,rfl⟩:=fi v hv;exact W.Looks.of_pure rfl
  have hn:g.length=its.length:=gl;have N:=V1 nd;rw[hn]at N;have ok:=WN N (by lia);refine ac (cU (W.kat_run (G:=λp s'=>s'=s/\L2.PR its.length p/\L2.Qy (λi j=>pH (g.getD i []) (g.getD j [])) p its.length) (Q:=λB s'=>s'=s/\∃p:Array Nat,L2.PR its.length p/\L2.Qy (λi j=>pH (g.getD i []) (g.getD j [])) p its.length/\arrOf B=p.map (W.kas_item (ks.toArray.zip its.toArray))/\failedOf B=none) kl (by lia) q (λp B s' _ a b c=>⟨c.1,p,c.2.1,c.2.2,a,b⟩) ?_) (λr s' h=>?_) λ_ _ x=>x)
  .refine uE.wp (λi j C o f hc=>?_) (λp hp=>⟨rfl,hp⟩) _ ok;obtain⟨x,l,m,xs,F,t1,l1,i1⟩:=facts i o;obtain⟨y,gy,ty,ys,e2,t2,q,i2⟩:=facts j f;show wpAny (model X.prog X.w) A (keyLt' (tuples' true) (ks.getD i Value.none) (ks.getD j Value.none)) C _ s;rw[F,e2];exact aaa t1 t2 l1 q i1 i2 hu hc
  .obtain⟨u,B⟩:=r;obtain⟨es,p,pr,J,ar,nf⟩:=h;subst es;refine Mu (p:=p.toList) I S U ne Y Z L M ?_ nf pr ?_ (by lia) q fin
   .exact W.kat_snds kl ar
   .refine dJ.mpr λi j o f h=>?_;have sz:=pr.size;rw[aY]at o f;have:=J i j h (by lia);rw[z7 o,z7 f]at this;simpa using this
def W3 (I:Inv X l B H s)(Q:nq X l D)(t:nq X l o)(ne:o≠D)(hD:s.heap.get? D=some (seqObj "list" #[] N))(hK:s.heap.get? o=some (seqObj "list" #[] 0))(HD:H D=none)(HK:H o=none)
  (gl:w.length=its.length) (nd:w.Nodup) (l2:its.length<64) (hu:A.units+64<cLine)
  (R:∀(pins':List (Addr×Obj)) (C:Hp) (s1:Shared) (i:Nat) (v:Value),its[i]?=some v->Inv X pins' B C s1->(∀q∈l,q∈pins')->Same H C->wpAny (model X.prog X.w) A (call f [v]) (λk s'=>∃y n,Inv X pins' B n s'/\Same C n/\RelV y k/\At X.K G (mn n O) (W2 (w.getD i [])) y) (λ_ _=>False) s1)
  (fin:Rg X l B H D its w λs'=>P (.done (.ret .none)) s') :
  wpAny (model X.prog X.w) A (ksk_rest D f false its.toArray N (.ref o)) P E s:=by
 unfold ksk_rest;refine ac (wpAny_rule ?_)
 first
  |rw[List.forIn_toArray]
  |(rw[<- Array.forIn_toList];simp only[List.toList_toArray])
 refine ac (ksk_fold (λi s'=>∃m n e,Inv X l B n s'/\Same H n/\n D=none/\n o=none/\s'.heap.get? D=some (seqObj "list" #[] N)/\s'.heap.get? o=some (seqObj "list" (List.toArray m) e)/\m.length=i/\YK X G O n w m) its 0 s ⟨[],H,0,I,Same.refl H,HD,HK,hD,hK,rfl,λj hj=>by cases hj⟩ ?_ ?_)
 .rintro j x s' Z ⟨m,n,e,J,s1,L,M,U,o2,lk,S⟩;have jl:j<its.length:=(aC.mp Z).1;have Ip:=Gv (Gv J o2 M t.loc t.fs λv z=>by cases z) U L Q.loc Q.fs λv z=>by cases z
  refine ac (d7 (cU (R _ n s' j x Z Ip (λq hq=>aj _ (aj _ hq)) s1) (λk r h=>?_) λ_ _ z=>z.elim));obtain⟨y,F,I2,q2,rk,ak⟩:=h;obtain⟨I3,o3,d3⟩:=xG I2;obtain⟨I4,o4,Y⟩:=xG I3;have sb:=dQ r.heap o (Obj.mapSeq (·.push k));have u:=get?_update_seq o4 (·.push k);have u:(r.heap.update o (Obj.mapSeq (·.push k))).get? o=some (seqObj "list" (List.toArray (m++[k])) (if (((List.toArray m).push k).size == (List.toArray m).size)=true then e else e+1)):=u.trans (by rw[show(List.toArray m).push k=List.toArray (m++[k]) by simp]);have I5:=vA I4 t sb u Y;have o5:(r.heap.update o (Obj.mapSeq (·.push k))).get? D=some (seqObj "list" #[] N):=by rw[sb.2 D (br ne)];exact o3
  refine ac (gE o4 rfl (aO ⟨rfl,m++[k],F,_,I5,s1.trans q2,d3,Y,o5,u,by rw[aM,lk];rfl,λi hi=>?_⟩) (by rw[aq,ao];lia) (by
   rw[Array.size_push,aq,ao];lia))
  rw[aM,bP]at hi;by_cases c:i<m.length
  .obtain⟨T,k',a1,a2,a3⟩:=S i c;exact⟨T,k',by rw[aW c];exact a1,a2,At.mono (j7 q2) _ _ a3⟩
  .have:i=j:=by lia
   subst this;exact⟨y,k,by rw[bh (by lia),show i-m.length=0 by lia];rfl,rk,ak⟩
 .rintro s' ⟨m,n,e,J,s1,L,M,U,o2,lk,S⟩;refine ac (listItems_at o2 rfl ?_);exact Zx J Q t ne U o2 L M (by lia) gl S nd l2 hu λF p c r a b d e f g=>fin F p c r a (s1.trans b) d e f g
def Yt (I:Inv X p r H s)(u:nq X p D)(j:s.heap.get? D=some (seqObj "list" its.toArray n0))(t:H D=none)
  (B:d.length=its.length) (J:d.Nodup) (F:its.length<64) (C:A.units+64<cLine)
  (m:∀(pins':List (Addr×Obj)) (a:Hp) (s1:Shared) (i:Nat) (v:Value),its[i]?=some v->Inv X pins' r a s1->(∀q∈p,q∈pins')->Same H a->wpAny (model X.prog X.w) A (call f [v]) (λk s'=>∃w h,Inv X pins' r h s'/\Same a h/\RelV w k/\At X.K G (mn h O) (W2 (d.getD i [])) w) (λ_ _=>False) s1)
  (fin:Rg X p r H D its d λs'=>P (.done (.ret .none)) s') :
  wpAny (model X.prog X.w) A (ksk_tree D f false) P E s:=by
 have s1:=dQ s.heap D (Obj.mapSeq λ_=>(#[]:Array Value));have g:=get?_update_seq j λ_=>(#[]:Array Value);have c:=vA I u s1 g t;have l:(s.heap.update D (Obj.mapSeq λ_=>(#[]:Array Value))).objs.size<=((s.heap.update D (Obj.mapSeq λ_=>(#[]:Array Value))).push (seqObj "tuple" its.toArray 0)).objs.size:=by rw[size_push'];lia
 have y:=c.kept (h':=((s.heap.update D (Obj.mapSeq λ_=>(#[]:Array Value))).push (seqObj "tuple" its.toArray 0)).push (seqObj "list" #[] 0)) (t':=s.toks) λb o e=>af _ (af _ e);have z:nq X p ((s.heap.update D (Obj.mapSeq λ_=>(#[]:Array Value))).push (seqObj "tuple" its.toArray 0)).objs.size:=nq.of c l;have x:H ((s.heap.update D (Obj.mapSeq λ_=>(#[]:Array Value))).push (seqObj "tuple" its.toArray 0)).objs.size=none:=c.hok.fresh l;have n:((s.heap.update D (Obj.mapSeq λ_=>(#[]:Array Value))).push (seqObj "tuple" its.toArray 0)).objs.size≠D:=cH (aN (ay g) l);unfold ksk_tree;refine ac (listItems_at j rfl (ac (gE j rfl (ac (seqEpoch_at g rfl (ac (wpAny_newTuple (ac (wpAny_newList (bE ?_) (bA _))) (by show its.length<=_;rw[ao];lia))))) (by rw[aq,ao];lia) (bA _))));exact W3 (s:={ s with heap:=((s.heap.update D (Obj.mapSeq λ_=>(#[]:Array Value))).push (seqObj "tuple" its.toArray 0)).push (seqObj "list" #[] 0) }) y u z n (af _ (af _ g)) (aP _ rfl) t x B J F C m fin
open Classical in
def tD (k:PV->List Int)(p:List PV):List PV:=if h:∃l:List PV,l.Perm p/\l.Pairwise (λa b=>pH (k a) (k b)=true) then h.choose else[]
def NT (k:PV->List Int):∀{a b:List PV},a.Perm b->a.Pairwise (λx y=>pH (k x) (k y)=true)->b.Pairwise (λx y=>pH (k x) (k y)=true)->a=b
 |[],b,p,_,_=>(List.Perm.nil_eq p)
 |x::a,[],p,_,_=>absurd p.length_eq (by simp)
 |x::a,y::b,p,sa,sb=>by
  rw[List.pairwise_cons]at sa sb;have e:x=y:=by
   have h:x∈y::b:=p.mem_iff.mp aA;have c:y∈x::a:=p.mem_iff.mpr aA;rcases aw.mp h with h|h
   .exact h
   rcases aw.mp c with c|c
   .exact c.symm
   have:=G6 (sb.1 x h);rw[sa.1 y c]at this;cases this
  subst e;rw[NT k (List.Perm.cons_inv p) sa.2 sb.2]
def Ij (p:l.Perm c)(o:l.Pairwise λa b=>pH (kf a) (kf b)=true):tD kf c=l:=by have h:∃l:List PV,l.Perm c/\l.Pairwise (λa b=>pH (kf a) (kf b)=true):=⟨l,p,o⟩;unfold tD;rw[dif_pos h];have s:=h.choose_spec;exact NT kf (s.1.trans p.symm) s.2 o
def Pk (I:Inv X p g H s)(F:nq X p D)(n:H D=none)(e:s.heap.get? D=some (seqObj "list" its.toArray c))(f:Vals vs its)(hl:vs.length<=sizeLine):Inv X p g (upd H D (.lst vs)) s:=by
 have a:∀b u,H b=some u->b≠D:=λb u q z=>by rw[z,n]at q;cases q
 refine I.step (ch:=[D]) (h':=s.heap) (g':=s.gens) (d':=s.drawn) (t':=s.toks) (λb h=>?_) (λb o _ _ _ q _=>q) (λb o _ _ _ q _=>⟨o.slots,q⟩) (λb o h _ q=>?_) (λb o _ q=>⟨o,q⟩) (λb _ q=>?_) (λb _ _ q=>?_) (λb i q=>⟨#[],?_⟩) (λm d=>d) (λb u q=>?_) I.bare
 .rw[ap.mp h];exact⟨.inr F.big,F.loc,F.cel,F.pin⟩
 .rw[upd_ne (λz=>h (ap.mpr z))];exact q
 .rw[upd_ne (a _ _ q)];exact q
 .rw[upd_ne (a _ _ q)];exact q
 .rw[upd_ne (a _ _ q),q];simp
 .by_cases z:b=D
  .subst z;rw[upd_same]at q;cases q;exact⟨hl,its,c,f,e⟩
  .rw[upd_ne z]at q;exact(I.hok b u q).stay (λc v _ r=>r) (λc r=>by rw[upd_ne (a _ _ r)];exact r) (λc _ r=>by rw[upd_ne (a _ _ r)];exact r) λc _ _ r=>by rw[upd_ne (a _ _ r)];exact r
def Rf (I:Inv X h z H t)(hl:t.heap.IsList l its.toArray)(M:w.length=its.length)(T:w.Nodup)(S:its.length<64)(P:X.A.in1.in1.units+64<cLine)
  (N:∀x,Builtin.«list.sort» ⟨[.ref x],[(Str.ofString "key",f)]⟩=ksk_tree x f false)
  (y:∀(pins':List (Addr×Obj)) (u:Hp) (s1:Shared) (i:Nat) (v:Value),its[i]?=some v->Inv X pins' z u s1->(∀q∈h,q∈pins')->Same H u->wpAny (model X.prog X.w) X.A.in1.in1 (call f [v]) (λk s'=>∃J r,Inv X pins' z r s'/\Same u r/\RelV J k/\At X.K G (mn r O) (W2 (w.getD i [])) J) (λ_ _=>False) s1)
  (fin:∀D,H D=none->nq X h D->Rg X h z H D its w λs'=>Q (.ref D) s') :
  wpAny (model X.prog X.w) X.A (call (.builtin "sorted") [.ref l] [(Str.ofString "key",f)]) Q E t:=by
 refine call_function_entry_kw kind_sorted plain_sorted entry_sorted (ksk_s1 _ _) ?_;unfold Builtin.«sorted»;have j:its.length<=sizeLine:=by rw[ao];lia
 refine ac (m:=checkCount "sorted" 1 1 _) (aO (ac (collect_list hl (ac (wpAny_newList ?_ j)) j)));generalize F:(t.heap.push (seqObj "list" #[] 0)).update t.heap.objs.size (Obj.mapSeq (· ++ its.toArray))=n;have sz:n.objs.size=t.heap.objs.size+1:=by rw[<- F,Heap.size_update,size_push']
 have R:∀b o,t.heap.get? b=some o->n.get? b=some o:=λb o q=>by have:=ay q;rw[<- F,Heap.get?_update_ne _ _ _ _ (aX this),Heap.get?_push_ne _ _ _ (aX this)];exact q
 have L:=I.kept (h':=n.push (seqObj "list" its.toArray 0)) (t':=t.toks) λb o q=>af _ (R b o q);have le:t.heap.objs.size<=n.objs.size:=by lia
 have C:(n.push (seqObj "list" its.toArray 0)).get? n.objs.size=some (seqObj "list" its.toArray 0):=aP _ rfl;have A:H n.objs.size=none:=I.hok.fresh le;have B:=nq.of I le;refine ac (bE (wpAny_call_entry_kw slot_list_sort ⟨_,C,rfl⟩ entry_list_sort ?_ (ksk_l1 _ _)));rw[N];exact Yt (s:={ t with heap:=n.push (seqObj "list" its.toArray 0) }) L B C A M T S P y λr p c s' a b d e f g=>⟨_,rfl,aO ⟨_,rfl,fin _ A B r p c s' a b d e f g⟩⟩
def Dh {g:List PV}{xs:List V}{Q:VK}(C:PV->List Int)(I:Inv X z σ H t)(rd:Rd H l (.lst xs))(M:kI X.K G (mn H O) g xs)(l64:g.length<64)(nd:(g.map C).Nodup)(hu:X.A.in1.in1.units+64<cLine)
  (ht:∀x,Builtin.«list.sort» ⟨[.ref x],[(Str.ofString "key",f)]⟩=ksk_tree x f false)
  (T:∀(pins':List (Addr×Obj)) (F:Hp) (s1:Shared) (p:PV) (v:V) (u:Value),p∈g->At X.K G (mn F O) p v->RelV v u->Inv X pins' σ F s1->(∀q∈z,q∈pins')->Same H F -> wpAny (model X.prog X.w) X.A.in1.in1 (call f [u]) (λk s'=>∃kv o,Inv X pins' σ o s'/\Same F o/\RelV kv k/\At X.K G (mn o O) (W2 (C p)) kv) (λ_ _=>False) s1)
  (q:∀(a:Addr) (vs:List V) (o:Hp),Same H o -> H a=none->o a=some (.lst vs)->kI X.K G (mn o (hide a O)) (tD C g) vs->Q (V.ref a) o) :
  wpAny (model X.prog X.w) X.A (call (.builtin "sorted") [.ref l] [(Str.ofString "key",f)]) (EP X z σ Q) E t:=by
 obtain⟨_,j,n,r,hlen,e⟩:=L3.Inv.BP I rd;have lps:g.length=xs.length:=M.length;have gl:(g.map C).length=j.length:=by rw[ae];lia
 have s:∀i,i<g.length->∃p,g[i]?=some p/\(g.map C).getD i []=C p:=λi m=>⟨g[i],aa m,by rw[gQ,aE,aa m];rfl⟩;refine Rf (G:=G) (O:=O) I ⟨_,e,rfl,n,rfl⟩ gl nd (by lia) hu ht (λpins' F s1 i v hv I1 ip L=>?_) λD nD fD o p c s' I' sm hD N pr Z=>?_
 .have il:i<j.length:=(aC.mp hv).1;obtain⟨A,J,eg⟩:=s i (by lia);obtain⟨xv,y,B⟩:=M.at J;obtain⟨v',w,U⟩:=r.get y;rw[hv]at w;cases w;rw[eg];exact T pins' F s1 A xv v (bn J) (At.mono (j7 L) _ _ B) U I1 ip L
 .have pl:∀i∈p,i<j.length:=λi m=>bw.mp (pr.mem_iff.mp m);have get:∀i∈p,∃A xv v,g[i]?=some A/\xs[i]?=some xv/\j[i]?=some v/\At X.K G (mn H O) A xv/\RelV xv v:=λi m=>by obtain⟨A,J,_⟩:=s i (by have:=pl i m;lia);obtain⟨xv,y,B⟩:=M.at J;obtain⟨v',w,U⟩:=r.get y;exact⟨A,xv,v',J,y,w,B,U⟩
  have rv:Vals (p.map λi=>xs.getD i .non) (Cq j p):=by
   unfold Cq;clear Z pr N
   induction p with
   |nil=>exact .nil
   |cons i p S=>obtain⟨A,xv,v,a,b,c',d,e'⟩:=get i aA;refine .cons ?_ (S (λi m=>pl i (aj _ m)) λi m=>get i (aj _ m));dsimp only;rw[gQ,gQ,b,c'];exact e'
  have sl:(p.map λi=>xs.getD i .non).length<=sizeLine:=by rw[ae,pr.length_eq,aU,ao];lia
  have I3:=Pk I' fD hD N rv sl;have Y:Same o (upd o D (.lst (p.map λi=>xs.getD i .non))):=same_new hD _;have es:tD C g=p.map λi=>g.getD i .non:=by
   refine Ij ?_ ?_
   .have P:(p.map λi=>g.getD i .non).Perm ((List.range j.length).map λi=>g.getD i .non):=pr.map _;have R:((List.range j.length).map λi=>g.getD i .non)=g:=by refine ff (by rw[ae,aU];lia) λi P R=>?_;rw[cu,dj,gQ,aa R];rfl
    rw[R]at P;exact P
   .rw[List.pairwise_map];refine Z.imp_of_mem λ{a b} ha hb h=>?_;obtain⟨pa,ea,ga⟩:=s a (by have:=pl a ha;lia);obtain⟨pb,eb,gb⟩:=s b (by have:=pl b hb;lia);rw[ga,gb]at h;rw[gQ,gQ,ea,eb];exact h
  refine⟨.ref D,_,I3,rfl,q D _ _ (sm.trans Y) nD upd_same ?_⟩;rw[es];refine kI.mono (lG (sm.trans Y) nD) _ _ ?_;clear Z pr N es sl I3 Y rv
  induction p with
  |nil=>exact rfl
  |cons i p S=>obtain⟨A,xv,v,a,b,c',d,e'⟩:=get i aA;refine⟨_,_,rfl,?_,S (λi m=>pl i (aj _ m)) λi m=>get i (aj _ m)⟩;dsimp only;rw[gQ,gQ,a,b];exact d
end L3
namespace L2
section
variable {prog:Program}{w:World}{A:Around}{s:Shared}{Q:Value->Shared->Prop}{E:Value->Shared->Prop}
def Pg {f c' t N:Addr}{its:Lv}{J pm u:Value}{y q fn:Str}{p:Arguments}{scope:Scope}{G H I pf pc:Pos}{j:Nat}{K:Fg}{mg:Mg}{base:Heap}
  (ho:s.heap.get? f=some (W.kla_obj "<lambda>" q p (.Call (.Name fn pf) [.Subscript (.Name y G) (.Constant (.int 0) j H) I] [] pc) scope [] pm c' u)) (P:s.heap.CodeRec (.ref c') q) (n:A.depth<recursionLimit) (C:s.heap.NoLimit)
  (k:bindArgs (W.kla_fn "<lambda>" q p (.Call (.Name fn pf) [.Subscript (.Name y G) (.Constant (.int 0) j H) I] [] pc) scope [] pm (.ref c') u) ⟨[.ref t],[]⟩=pure [(y,.ref t)])
  (g:scope.names.lookup y=some .local) (Z:∀z∈scope.names,z.2 ≠ .cell) (U:scope.kind=.function) (R:scope.isCoroutine=false) (B:scope.isGenerator=false) (hyd:(y == ("__debug__":Str))=false)
  (T:scope.names.lookup fn=some .globalImplicit) (S:(fn == ("__debug__":Str))=false) (D:s.heap.Ns mainGlobals mg) (hm:mg fn=some (.ref N)) (O:K.In base) (l:W.keepIn K (.ref N)=true)
  (he:starEach [.Subscript (.Name y G) (.Constant (.int 0) j H) I] (W.envX q scope s.heap.objs.size f (.ref c') [])=(false,eval (.Subscript (.Name y G) (.Constant (.int 0) j H) I) (W.envX q scope s.heap.objs.size f (.ref c') []))::starEach [] (W.envX q scope s.heap.objs.size f (.ref c') []))
  (tup:IsTup s.heap t its.toArray) (hi:its[0]?=some J) (kin:∀h',(∀b o,s.heap.get? b=some o->h'.get? b=some o)->K.In h')
  (h:∀h' tk o M L,(∀b o,s.heap.get? b=some o->h'.get? b=some o)->h'.get? s.heap.objs.size=some o->o.data=.dict M L->s.heap.objs.size<h'.objs.size->wpAny (model prog w) (A.deeper (W.envX q scope s.heap.objs.size f (.ref c') [])) (call (.ref N) [J]) Q (λ_ _=>False) { s with heap:=h',toks:=tk }) :
  wpAny (model prog w) A (call (.ref f) [.ref t]) Q E s:=by
 refine cq (hW n ho rfl R B rfl P ?_);rw[k];refine aO (fj Z (λz hz=>?_) (λc m F=>⟨C.fresh _ F,?_⟩) U)
 .rw[ap.mp hz];exact g
 have a:∀b o,s.heap.get? b=some o->c.get? b=some o:=λb o e=>F.extBut b o (aX (ay e)) (af _ e);refine hZ ?_;have i:IsTup c t its.toArray:=by obtain⟨o,e,r⟩:=tup;exact⟨o,a _ _ e,r⟩
 have len:0<its.length:=(aC.mp hi).1;have Y:=m.lt;refine bD (dE U T (Calls.loadGlobal_global (D.keeps a) hm ?_) S);refine cr (h₀:=base) O l ?_ he rfl;refine args_cons (Subscript_ (hJ (dG U g m (v:=.ref t) ?_ ?_) hyd)) he
 .simp
 refine fS ?_;refine de (x:=J) i.typeIs slot_tuple_getitem.lookup (getItem_tuple (j:=0) (Q:=λr s'=>r=J/\_) i (by decide) (by decide) ?_ (by simpa using hi) ⟨rfl,?_⟩) rfl
 .rw[aq];unfold seqIndex?;have:(0:Int)<(its.length:Int):=by lia
  simp[this];exact λz=>by rw[z]at len;cases len
 .obtain⟨o,M,L,e,d,_⟩:=m;refine args_nil ⟨kin c a,?_⟩;exact cU (h _ _ o M L a e d Y) (λ_ _ x=>x) λ_ _ x=>x.elim
end
end L2
namespace L3
open L2
def Oe {outer:List Env}{ch:List Addr}{w:Addr}{y:FuncData}{p:PV}{v:V}{u:Value}(D:FnOk X.prog X.w X.K X.mg X.base CX0 j w y [x] (q8 X.K G pre F))(m:Binds X.K y [x] [])(M:Room j A)(e0:Env0 X.prog X.w X.K X.mg X.base A outer s H)(I:Inv X c R H s)
  (J:∀b∈frs outer,b∈frs X.stack\/b∈ch) (q:∀b∈ch,nq X c b) (l:∀a,O a=true->H a≠none) (i:At X.K G (mn H O) p v) (rl:RelV v u) (L:pre [p]) :
  wpAny (model X.prog X.w) A (call (.ref w) [u]) (λk s'=>∃d h,Inv X c R h s'/\Same H h/\RelV d k/\At X.K G (mn h O) (F [p]) d) (λ_ _=>False) s:=by
 refine cq (dS (D.run A outer s H ⟨[u],[]⟩ [u] [v] (λd h=>Same H h/\At X.K G (mn h O) (F [p]) d) (λ_ _ _=>False) M e0 (m s [u] I.kIn rfl) (.cons rl .nil) ⟨[p],O,l,⟨v,[],rfl,i,rfl⟩,L,λd h a b=>⟨a,b⟩⟩) λr s' g=>?_);cases r with
 |error e=>exact False.elim g
 |ok E=>
  cases E with
  |ret u=>
   obtain⟨d,h,N,f,un,t,r,P,Q⟩:=g;refine⟨d,h,I.call' (ch:=ch) N ⟨λb o e n B C=>un.keep b o e n (λz=>(J b z).elim B C) (by simp),λb o e n B C=>?_,λb o e n _=>un.free b o e n (by simp),λb o e _=>un.there b o e (by simp),un.tups,un.frzs,un.tbls⟩ t f λb m=>?_,P,r,Q⟩
   .exact un.any e n (by simp)
   .have F:=q b m;exact⟨.inr F.big,F.loc,F.cel,F.pin⟩
  |next=>exact False.elim g
  |brk=>exact False.elim g
  |cont=>exact False.elim g
structure abU (kf:PV->List Int)(ps:List PV):Prop where
 len:ps.length<64
 nd:(ps.map kf).Nodup
def LK:PV->PV
 | .tup (x::_)=>x
 |_=>.non
def U6 (r:PV->List Int)(o:Ok X.prog X.w X.K X.mg X.base j fn [x] (q8 X.K G pre F))(hr:Room k X.A)(hm:X.mg "sorted"=none)(ha:PE X a (tX X.K G Y g))(hj:j+2<=k:=by decide)(L:Gl X fn:=by rfl)(J:(fn == ("__debug__":Str))=false:=by decide)(hg:Gl X "sorted":=by rfl)(he:starEach [a] X.env=[(false,eval a X.env)]:=by rfl) :
  PE X (.Call (.Name "sorted" p) [a] [⟨some "key",.Name fn pk,kp⟩] pos) (yZ X.K G (λd=>Y d/\g d=.lst (xZ (g d))/\abU r (xZ (g d))/\∀q∈xZ (g d),pre [q]/\F [q]=W2 (r q)) λd=>tD r (xZ (g d))):=by
 intro t s σ H Q I ⟨B,d,O,R,c,q⟩;refine bD (ld_blt I hg hm xH ?_ (by decide) (by decide));refine dU (thn (pa_cons ha pa_nil he pos t s σ H (λi f=>∃l xs,i=[.ref l]/\Same H f/\Rd (mn f O) l (.lst xs)/\kI X.K G (mn f O) (xZ (g d)) xs) I ⟨B,d,O,R,c.1,λv P w U=>?_⟩) λus t1 h=>?_) (by rw[he];rfl) (by rw[he];rfl)
 .rw[c.2.1]at U;obtain⟨l,xs,rfl,r1,A⟩:=U;exact⟨l,xs,rfl,w,r1,A⟩
 obtain⟨i,P,S,rv,l,xs,rfl,w,rd,A⟩:=h;obtain⟨u,rfl,ru⟩:=vals1 rv;cases ru;obtain⟨_,_,PO,PF⟩:=c;have q:∀(a:Addr) (i:List V) (f:Hp),Same H f -> H a=none->f a=some (HO.lst i)->kI X.K G (mn f (hide a O)) (tD r (xZ (g d))) i->Q (V.ref a) f:=q;generalize xZ (g d)=ps at *
 obtain⟨fa,fd,Z,hb,hkp,M⟩:=o.ex;refine kws_cons (ld_glob S L M (kws_nil ?_) J);have m:Room (j+2) X.A:=hr.mono hj;have E:∀a,O a=true->P a≠none:=(R.grow w).dom;refine Dh r S (jh jx rd) A PO.len PO.nd m.in1.in1.units (λx=>ksk_t1 _ _) (λN H2 s2 pp v u hp D rl T _ sm=>?_) λa i f sm n e C=>q a i f (w.trans sm) (w.free n) e C;obtain⟨g1,g2⟩:=PF pp hp;have:=Oe (O:=O) (ch:=[]) Z hb m.in1.in1 T.env0.in1.in1 T (λb z=>.inl z) (λb z=>absurd z (by simp)) (λa z y=>E a z (sm.free y)) D rl g1;rw[g2]at this;exact this
def Ur (kf:PV->List Int)(o:Ok X.prog X.w X.K X.mg X.base j fn [x] (q8 X.K G pre F))(hl:QB X.K X.env.code (X.env.qual++"<lambda>"))(hr:Room k X.A)(hm:X.mg "sorted"=none)(ha:PE X a (tX X.K G Ca C))(hj:j+3<=k:=by decide)(hdb:(fn == ("__debug__":Str))=false:=by decide)(hg:Gl X "sorted":=by rfl)(he:starEach [a] X.env=[(false,eval a X.env)]:=by rfl)
  (T:defaultsOf d X.env=([],[]):=by rfl) (hcl:closureFor scope X.env=pure []:=by rfl)
  (E:∀(pm N:Value) (c' t:Addr),bindArgs (W.kla_fn "<lambda>" (X.env.qual++"<lambda>") d (.Call (.Name fn pf) [.Subscript (.Name y p1) (.Constant (.int 0) i p2) p3] [] pc) scope [] pm (.ref c') N) ⟨[.ref t],[]⟩=pure [(y,.ref t)]:=by intros;rfl)
  (hse:∀env:Env,starEach [.Subscript (.Name y p1) (.Constant (.int 0) i p2) p3] env=(false,eval (.Subscript (.Name y p1) (.Constant (.int 0) i p2) p3) env)::starEach [] env:=by intros;rfl)
  (Y:scope.names.lookup y=some .local:=by rfl) (hnc:∀z∈scope.names,z.2 ≠ .cell:=by decide) (hk:scope.kind=.function:=by rfl) (hco:scope.isCoroutine=false:=by rfl) (U:scope.isGenerator=false:=by rfl) (hyd:(y == ("__debug__":Str))=false:=by decide) (hgl:scope.names.lookup fn=some .globalImplicit:=by rfl) :
  PE X (.Call (.Name "sorted" p) [a] [⟨some "key",.Lambda d (.Call (.Name fn pf) [.Subscript (.Name y p1) (.Constant (.int 0) i p2) p3] [] pc) scope posL,kp⟩] pos) (yZ X.K G (λw=>Ca w/\C w=.lst (xZ (C w))/\abU kf (xZ (C w))/\∀q∈xZ (C w),(∃r,q=.tup (LK q::r))/\pre [LK q]/\F [LK q]=W2 (kf q)) λw=>tD kf (xZ (C w))):=by
 intro pins s σ H Q I ⟨B,w,O,R,c,q⟩;refine bD (ld_blt I hg hm xH ?_ (by decide) (by decide));refine dU (thn (pa_cons ha pa_nil he pos pins s σ H (λD m=>∃l xs,D=[.ref l]/\Same H m/\Rd (mn m O) l (.lst xs)/\kI X.K G (mn m O) (xZ (C w)) xs) I ⟨B,w,O,R,c.1,λv H1 s1 a1=>?_⟩) λus t1 h=>?_) (by rw[he];rfl) (by rw[he];rfl)
 .rw[c.2.1]at a1;obtain⟨l,xs,rfl,r1,al⟩:=a1;exact⟨l,xs,rfl,s1,r1,al⟩
 obtain⟨D,H1,I1,rv,l,xs,rfl,s1,rd,al⟩:=h;obtain⟨u,rfl,ru⟩:=vals1 rv;cases ru;obtain⟨cc,P,J,hx⟩:=hl;obtain⟨_,_,PO,PF⟩:=c;have q:∀(a:Addr) (D:List V) (m:Hp),Same H m -> H a=none->m a=some (HO.lst D)->kI X.K G (mn m (hide a O)) (tD kf (xZ (C w))) D->Q (V.ref a) m:=q;generalize xZ (C w)=ps at *
 obtain⟨fa,fd,FF,hb,hkp,hmg⟩:=o.ex;refine kws_cons (Ih I1 J hx rfl T hcl _ λf c' N H2 t2 I2 kp2 tb2 hf fn0 fz os S=>kws_nil ?_);have s2:Same H1 H2:=λb o e=>by cases o<;>first|exact kp2 b _ e (λt z=>by cases z)|(obtain⟨ps',z⟩:=tb2 b _ e;exact⟨ps',z⟩)
 have Z:Room (j+3) X.A:=hr.mono hj;have dom:∀a,O a=true->H2 a≠none:=λa z y=>(R.grow s1).dom a z (s2.free y);have fF:=nq.of I1 S;have Ip:=Gv I2 hf fn0 fF.loc fF.fs λv z=>by cases z
 obtain⟨oc,fu,fz1,fz2⟩:=fz;refine cU (Dh (Q:=Q) kf Ip (jh (jx.trans s2) rd) (kI.mono (j7 s2) _ _ al) PO.len PO.nd (Z.mono (by lia:j+2<=j+3)).in1.in1.units (λx=>ksk_t1 _ _) (λpins' H3 L pp v u hp M rl g ip sm=>?_) λa D m sm n e alv=>q a D m ((s1.trans s2).trans sm) ((s1.trans s2).free n) e alv) (λr s' h=>?_) λ_ _ z=>z
 .obtain⟨⟨rr,er⟩,g1,g2⟩:=PF pp hp;rw[er]at M;obtain⟨t,us,rfl,ht,ux,ur,rfl,ax,au⟩:=M;cases rl;obtain⟨_,its2,r2,tup⟩:=g.hok t _ (qZ ht).2;cases r2 with
  |cons q0 q1=>
   have hf3:=(g.pin (f,_) (aI _ (ip _ aA))).1;have hc3:H3 c'=some (.frz oc fu):=by have:=sm c' _ fz1;exact this
   have A1:Room (j+1) X.A.in1.in1:=Z.in1.in1;refine Pg (mg:=X.mg) (K:=X.K) (base:=X.base) hf3 (Bl.rec (g.hok c' _ hc3).1 fz2) A1.depth (g.ok.mod.nolimit.keeps g.bk) (E _ _ _ _) Y hnc hk hco U hyd hgl hdb (g.mod.glob.keeps g.bk) hmg g.mod.kin hkp (hse _) tup rfl (λh' kk=>λb o e=>kk b o (g.kIn b o e)) λh' tk o es ep kk eL dL lt=>?_;have I4:=g.kept (h':=h') (t':=tk) kk;have fL:=nq.of g (aB L.heap.objs.size);have HL:H3 L.heap.objs.size=none:=g.hok.fresh (aB _);have bL:X.base.get? L.heap.objs.size=none:=Heap.get?_none_of_le (aG g.env0.bsz (aB _));have e0:=I4.env0.in1.in1;have:=Oe (O:=O) (ch:=[L.heap.objs.size]) (outer:=W.envX (X.env.qual++"<lambda>") scope L.heap.objs.size f (.ref c') []::X.stack) (A:=X.A.in1.in1.deeper (W.envX (X.env.qual++"<lambda>") scope L.heap.objs.size f (.ref c') [])) FF hb (A1.deeper _)
    ⟨by
     show Option.map _ X.A.in1.in1.frames=_;rw[e0.frames];rfl,e0.mod,e0.bs,e0.bsz,⟨(λz=>nomatch hk.symm.trans (show scope.kind=.module from z)),⟨L.heap.objs.size,o,rfl,bL,eL,λD z=>by rw[dL]at z;cases z⟩,e0.funs⟩,⟨λb hb=>(aw.mp hb).elim (λz=>by rw[z];exact HL) λz=>e0.frf.f b z,e0.frf.t⟩,e0.hok,e0.bare⟩
    I4 (λb z=>(aw.mp z).elim (λz=>.inr (by rw[z];exact ap.mpr rfl)) λz=>.inl z) (λb z=>by rw[ap.mp z];exact fL) (λa z y=>dom a z (sm.free y)) ax q0 g1
   rw[g2]at this;exact this
 .obtain⟨v,m,I',rv,qv⟩:=h;exact⟨v,m,(xG I').1,rv,qv⟩
def JC:¬(some NameKind.cell:Option NameKind)=some NameKind.local:=nofun
def lE {N p:Ls}{sc:Scope}(a:sc.kind=.function:=by rfl)(b:sc.isCoroutine=false:=by rfl)(c:sc.isGenerator=false:=by rfl)(d:N.Nodup:=by decide +kernel)(e:N.take p.length=p:=by rfl)(f:∀x∈p,sc.names.lookup x=some .local\/sc.names.lookup x=some .cell:=by decide +kernel)(g:∀y∈sc.names,y.2 ≠ .free:=by decide +kernel):FnScope N p sc:=⟨a,b,c,d,e,f,g⟩
def qD (i:Nat){X:Cx}{x:Str}{pos:Pos}(h:X.N.Nodup:=by(dsimp only[jC];decide +kernel))(b:X.N[i]?=some x:=by rfl)(c:Loc X.env.scope x:=by exact Or.inl rfl)(a:X.fn x=true\/X.env.scope.names.lookup x=some .local:=by exact .inr rfl):PG X (.Name x pos) (gName i):=pg_name h b c a
end L3
namespace L2
def acW:classOwn (.type "ValueError") "__setattr__"=pure none:=by rfl
def ab3:classOwn (.type "Exception") "__setattr__"=pure none:=by rfl
def acb:classOwn (.type "BaseException") "__setattr__"=pure none:=by rfl
section
variable {K:Fg}{prog:Program}{w:World}{A:Around}{E:Value->Shared->Prop}{s:Shared}{a C B:Addr}{O:Obj}{vs:Array Value}{n:Str}{v:Value}{Q:Unit->Shared->Prop}{cd:ClassData}
def Gn (X:K.In s.heap)(he:s.heap.get? a=some O)(b:O.cls=.ref C)(h:W.clsIn K C=some cd)(c:cd.mro=vB C B) :
  W.Looks (model prog w) s.heap (Builtin.ObjectAttr.refuseIfOverridden (.ref a) "__setattr__") ():=by
 unfold Builtin.ObjectAttr.refuseIfOverridden;have L:W.Looks (model prog w) s.heap (typeOf (.ref a)) (.ref C):=by rw[<- b];exact(bX he).andThen .now
 refine L.andThen ?_;have l:W.Looks (model prog w) s.heap (mroOf (.ref C)) (vB C B):=by rw[<- c];exact(fy X h).andThen .now
 refine l.andThen ?_;simp only[List.forIn_cons,List.forIn_nil,acW,ab3,acb,PySem.F.own_object_setattr,pure_bind];exact W.Looks.now
def Vz {nm q:Str}{N:Addr}{bs:Lv}{sn:Ls}{sub:Lv}{ab:Bool}{col:Option Bool}{l:Option Addr}{k0 k1 k2 k3 k5:Option Value}{newId:String}(X:K.In s.heap)(he:s.heap.get? a=some O)(c:O.cls=.ref C)(H:O.dict=none)(D:O.data=.fields vs)
  (hs:W.findIn K (.ref C) "__setattr__"=some (some (.builtin "object.__setattr__"))) (T:s.heap.get? C=some (excClassObj nm q C N bs (vB C B).tail true sn sub ab col l k0 k1 k2 k3 k5 newId))
  (f:W.clsIn K C=some cd) (Y:cd.mro=vB C B) (U:cd.hasDict=true) (Z:W.findIn K (.ref C) n=some none)
  (h:∀h' d,s.heap.get? d=none->h'.get? a=some { O with dict:=some d }->h'.Ns1 d (λx=>if x=n then some v else none)->(∀b o,b≠a->s.heap.get? b=some o->h'.get? b=some o)->Q () { s with heap:=h',toks:=s.toks+2 }) :
  wpAny (model prog w) A (setAttr (.ref a) n v) Q E s:=by
 have J:W.InstAt s.heap a O C none:=⟨he,c,by unfold W.notCls;rw[D],by rw[H];exact tT⟩;refine W.set_plain X J hs ?_;refine cO (by decide +kernel) PySem.F.entry_object_setattr ?_;have p:(vB C B).tail.contains (.type "object")=true:=by show([.ref B,.type "ValueError",.type "Exception",.type "BaseException",.type "object"]:List Value).contains (.type "object")=true;simp
 refine wpAny_check_slot_inst (h:=s.heap) (g:=s.gens) (d:=s.drawn) (t:=s.toks+1) (os:=s.os) (x:=a) (rest:=[.str n s.toks,v]) (id:="object.__setattr__") PySem.F.bk_object_setattr PySem.F.sp_object_setattr (PySem.F.args_object_setattr_3 _ _ _) p he c T ?_;rw[W.osa_eq];refine ac ((Gn X he c f Y).here (s:={ s with toks:=s.toks+1 }) ?_);have L:W.Looks (model prog w) s.heap (typeOf (.ref a)) (.ref C):=by rw[<- c];exact(bX he).andThen .now
 refine ac (L.here (s:={ s with toks:=s.toks+1 }) ?_);refine ac ((bK X Z).here (s:={ s with toks:=s.toks+1 }) ?_);refine ac (m:=Builtin.ObjectAttr.storeTaker? none) (aO ?_);show wpAny _ _ (Builtin.ObjectAttr.storeInOwnDict (.ref a) (.ref C) (.str n s.toks) n v false) _ _ _;unfold Builtin.ObjectAttr.storeInOwnDict;refine ac (m:=ownStreamTells (.ref a) (.ref C)) (aO ?_);show wpAny _ _ (do
  let r <- Builtin.ObjectAttr.ownDictForStores (.ref a)
  match r with
   |some d=>Builtin.ObjectAttr.storeInDict d (.str n s.toks) n v
   |none=>Builtin.ObjectAttr.noDictFor (.ref a) (.ref C) n false) _ _ _
 refine ac ?_;show wpAny _ _ (instanceDict a true) _ _ _;unfold instanceDict;refine ac (fZ he ?_);dsimp only;rw[c];dsimp only;refine ac ((fy X f).here (s:={ s with toks:=s.toks+1 }) ?_);rw[U,H];rw[ag (by decide)];dsimp only;rw[ag (show ¬(!true || !typeHasDict (.ref C))=true from aJ),D];dsimp only;refine ac (wpAny_alloc ?_);dsimp only;have i:s.heap.objs.size≠a:=cH (ay he);have I:=aP s.heap (o:={ cls:=.type "dict",data:=.dict #[] }) rfl;have G:=af (h:=s.heap) { cls:=.type "dict",data:=.dict #[] } he;refine ac (wpAny_update G ?_);have M:=b8 (λo=>{ cls:=o.cls,dict:=some s.heap.objs.size,data:=o.data,slots:=o.slots }) G (by rw[D];rfl);have P:=(a8 (s.heap.push { cls:=.type "dict",data:=.dict #[] }) (λo=>{ cls:=o.cls,dict:=some s.heap.objs.size,data:=o.data,slots:=o.slots }) (br i)).trans I;refine aO (a:=some s.heap.objs.size) ?_;dsimp only;unfold Builtin.ObjectAttr.storeInDict;refine ac (m:=Builtin.ObjectAttr.newKeyGuard s.heap.objs.size n (.str n s.toks)) (aO ?_);have ns:((s.heap.push { cls:=.type "dict",data:=.dict #[] }).update a λo=>{ cls:=o.cls,dict:=some s.heap.objs.size,data:=o.data,slots:=o.slots }).Ns1 s.heap.objs.size λ_=>none:=
  Heap.Ns1.of_empty ⟨_,#[],_,P,rfl,(λe he=>absurd he (by simp)),λ_=>rfl⟩
 refine ac (wpAny_nsSet1 ns λh' j k=>?_);obtain⟨oD,S,R,F,y,u⟩:=j.count (PySem.Within.cons (ns:=[]) n v (λ_ z=>absurd rfl z));refine ac (wpAny_lookBehind F (by rw[y];exact pastItsLine_dict (aG u (by show 1<=_;rw[ao];lia))) ?_);refine aO (h h' s.heap.objs.size ?_ ?_ j λb o p q=>?_)
 .cases z:s.heap.get? s.heap.objs.size with
  |none=>rfl
  |some o=>exact absurd (ay z) (ck _)
 .rw[k.2 a (br i)];exact M
 .have nb:s.heap.objs.size≠b:=cH (ay q);rw[k.2 b (br nb),a8 _ _ (br p)];exact af _ q
end
section
variable {K:Fg}{prog:Program}{w:World}{A:Around}{R:Result->Shared->Prop}{s:Shared}{a C B:Addr}{O:Obj}{us:List Value}{nm q:Str}{N:Addr}{bs bm:List Value}{hdct:Bool}{sn:List Str}{sub:List Value}{ab:Bool}{col:Option Bool}{D:Option Addr}{k0 k1 k2 k3 k5:Option Value}{newId:String}
def TY (b:s.heap.get? C=some (excClassObj nm q C N bs bm hdct sn sub ab col D k0 k1 k2 k3 k5 newId))
  (h:wpAny (model prog w) (A.under (.builtin "type.__call__" { pos:=.ref C::us })) (Builtin.«type.__call__» { pos:=.ref C::us }) (λfin s'=>match fin with | .done f=>R (.ok f) s' | .again c'=>c'.quiet=true/\codeAny (model prog w) A c' R s') (λe s'=>R (.error e) s') s) :
  codeAny (model prog w) A (.call (.ref C) { pos:=us }) R s:=by
 refine codeAny_of_tree ?_;show wpAny (model prog w) _ (callAny (.ref C) { pos:=us }) _ _ _;unfold callAny;dsimp only;refine ac (wpAny_load b ?_);dsimp only;unfold callAny.viaDunder;have l:W.Looks (model prog w) s.heap (specialOf (.ref C) "__call__") (some (.builtin "type.__call__")):=by have e:W.Looks (model prog w) s.heap (typeOf (.ref C)) (.type "type"):=(bX b).andThen .now;refine e.andThen ?_;rw[PySem.F.lookup_type_call];exact .now
 refine ac (l.here ?_);dsimp only;rw[PySem.F.bind_type_call];refine ac (aO ?_);dsimp only;refine ac (m:=callAny.plainCallee (.builtin "type.__call__")) (aO (a:=true) ?_);rw[ai rfl];refine aO (a:=Fin.again _) ⟨rfl,?_⟩;refine f7 (by kernel_rfl) (wpAny_check_type_call_sub b ?_);refine gZ PySem.F.entry_type_call ?_;exact h
def JM (h:s.heap.get? C=some (excClassObj nm q C N bs bm hdct sn sub ab col D k0 k1 k2 k3 k5 newId)):W.Looks (model prog w) s.heap (Bind.madeBy (.ref C)) (some newId):=by unfold Bind.madeBy;have l:W.Looks (model prog w) s.heap (mroOf (.ref C)) (.ref C::bm):=(bX h).andThen .now;refine l.andThen ?_;simp only[List.forIn_cons];have L:W.Looks (model prog w) s.heap (slotAt C 4) (some (.builtin newId)):=(bX h).andThen .now;exact g5 (a:=(some (some newId),Value.ref C)) (g5 (a:=ForInStep.done (some (some newId),Value.ref C)) (L.andThen .now) .now) .now
def BX {Q:PySem.Fin->Shared->Prop}{E:Value->Shared->Prop}{f:Addr}(X:K.In s.heap)(c:s.heap.get? C=some (excClassObj nm q C N bs bm hdct sn sub ab col D k0 k1 k2 k3 k5 "ValueError.__new__"))(p:OwnTail s.heap bmV bm)
  (y:W.findIn K (.ref C) "__init__"=some (some (.ref f))) (i:W.typeIn K (.ref f)=some (.type "function")) (F:W.mroIn K C (.ref C)=some true) (G:us.length<=sizeLine)
  (h:∀h' e,e=s.heap.objs.size+1->s.heap.MadeExcOf h' e (.ref C) us->wpAny (model prog w) A (call (.ref f) (.ref e::us)) (λr s'=>r=.none/\Q (.done (.ret (.ref e))) s') E { s with heap:=h' }) :
  wpAny (model prog w) A (Builtin.«type.__call__» { pos:=.ref C::us }) Q E s:=by
 unfold Builtin.«type.__call__»;dsimp only;rw[ag (show ¬((Value.ref C == Value.type "type")=true) from aJ)];have L:W.Looks (model prog w) s.heap (mroOf (.ref C)) (.ref C::bm):=(bX c).andThen .now;refine ac (L.here ?_);rw[ag (show ¬((Value.ref C::bm).isEmpty=true) from aJ)];refine ac ((JM c).here ?_);dsimp only;refine ac (aO ?_);refine ac (bE (cq (f7 (by kernel_rfl) (wpAny_check_new_subU (h:=s.heap) (g:=s.gens) (d:=s.drawn) (t:=s.toks) (os:=s.os) bU (by decide +kernel) p c ?_))));refine codeAny_exc_new_subU bU (by decide +kernel) bU p c ?_ G;dsimp only;have u:=aP s.heap (o:={ cls:=.type "tuple",data:=.seq us.toArray }) rfl;have m:∀b o,s.heap.get? b=some o->((s.heap.push { cls:=.type "tuple",data:=.seq us.toArray }).push { cls:=.ref C,data:=.fields #[.ref s.heap.objs.size,.none,.none,.none,.bool false,.none] }).get? b=some o:=λb o e=>af _ (af _ e);have j:((s.heap.push { cls:=.type "tuple",data:=.seq us.toArray }).push { cls:=.ref C,data:=.fields #[.ref s.heap.objs.size,.none,.none,.none,.bool false,.none] }).get? (s.heap.objs.size+1)=some { cls:=.ref C,data:=.fields #[.ref s.heap.objs.size,.none,.none,.none,.bool false,.none] }:=by
  have:=aP (s.heap.push { cls:=.type "tuple",data:=.seq us.toArray }) (o:={ cls:=.ref C,data:=.fields #[.ref s.heap.objs.size,.none,.none,.none,.bool false,.none] }) rfl
  rwa [ii]at this
 have n:∀k,s.heap.get? (s.heap.objs.size+k)=none:=λk=>by
  cases z:s.heap.get? (s.heap.objs.size+k) with
  |none=>rfl
  |some o=>exact absurd (ay z) (Nat.not_lt.mpr (Nat.le_add_right _ k))
 have made:s.heap.MadeExcOf ((s.heap.push { cls:=.type "tuple",data:=.seq us.toArray }).push { cls:=.ref C,data:=.fields #[.ref s.heap.objs.size,.none,.none,.none,.bool false,.none] }) (s.heap.objs.size+1) (.ref C) us:=
  ⟨m,n 1,s.heap.objs.size,j,n 0,af _ u⟩
 generalize (s.heap.push { cls:=.type "tuple",data:=.seq us.toArray }).push { cls:=.ref C,data:=.fields #[.ref s.heap.objs.size,.none,.none,.none,.bool false,.none] }=h' at *
 have x:K.In h':=λb o e=>m b o (X b o e);have l:W.Looks (model prog w) h' (typeOf (.ref (s.heap.objs.size+1))) (.ref C):=(bX j).andThen .now;refine ac (((l.andThen (dO x F)):W.Looks (model prog w) h' (isInstance (.ref (s.heap.objs.size+1)) (.ref C)) true).here (s:={ s with heap:=h' }) ?_);rw[ag (by decide)];refine ac (bE ?_);unfold callSpecial?;refine ac (((l.andThen (bK x y)):W.Looks (model prog w) h' (specialOf (.ref (s.heap.objs.size+1)) "__init__") (some (.ref f))).here (s:={ s with heap:=h' }) ?_);dsimp only;refine bE (ac ((W.bind_fn x (.ref (s.heap.objs.size+1)) i).here (s:={ s with heap:=h' }) ?_));dsimp only;refine ac (thn (h h' _ rfl made) λr s' ⟨v,q⟩=>aO ?_);subst v;dsimp only;rw[ag (by decide)];exact aO q
end
section
variable {K:Fg}{prog:Program}{w:World}{A:Around}{E:Value->Shared->Prop}{s:Shared}{a C B T:Addr}{o:Obj}{vs:Array Value}{us:List Value}{nm q:Str}{N:Addr}{bs bm:List Value}{hdct:Bool}{sn:List Str}{sub:List Value}{ab:Bool}{col:Option Bool}{D:Option Addr}{k0 k1 k2 k3 k5:Option Value}{newId:String}
def Uu {c:Lv}{n:String}(F:ExcBaseFacts "ValueError" n "ValueError.__init__" c)(l:OwnTail s.heap c bm){Q:Value->Shared->Prop}
  (i:s.heap.get? C=some (excClassObj nm q C N bs bm hdct sn sub ab col D k0 k1 k2 k3 k5 newId))
  (he:s.heap.get? a=some o) (j:o.cls=.ref C) (f:o.data=.fields vs) (h0:vs[0]?=some (.ref T))
  (h:Q .none { s with heap:=(s.heap.push { cls:=.type "tuple",data:=.seq us.toArray }).update a (Obj.mapFields (·.setIfInBounds 0 (.ref s.heap.objs.size))) }) (k:us.length<=sizeLine) :
  wpAny (model prog w) A (call (.builtin "ValueError.__init__") (.ref a::us)) Q E s:=by
 refine cq (cO F.init.plain F.initEntry (wpAny_check_init_subU (h:=s.heap) (g:=s.gens) (d:=s.drawn) (t:=s.toks) (os:=s.os) F l i he j ?_));unfold Builtin.«BaseException.__init__»;dsimp only;rw[ag (by simp)];unfold newTuple Builtin.BaseException.bexcPut;have e:0<vs.size:=(ci.mp h0).1;have b:=af (h:=s.heap) { cls:=.type "tuple",data:=.seq us.toArray } he;refine ac (ge (ac (ac (iw b f h0 (ac (ij b f e ?_))))) (by show us.toArray.size<=sizeLine;rw[aq];exact k));exact wpAny_letGo (aO h)
end
def zF.cd {K:Fg}{C B f:Addr}(q:zF K C B f):∃cd,W.clsIn K C=some cd/\cd.mro=vB C B/\cd.hasDict=true:=by obtain⟨n,j,N,bs,sn,sub,a,c,d,k,b,g,h,i,e⟩:=q.ob;unfold W.clsIn;rw[e];exact⟨_,rfl,rfl,rfl⟩
def zF.sub {K:Fg}{C B f:Addr}(q:zF K C B f):W.mroIn K C (.ref C)=some true:=by obtain⟨cd,e,a,_⟩:=q.cd;unfold W.mroIn;rw[e,dM,a,ag (by exact aJ)];simp[vB]
abbrev Qm (C:Addr)(dd:Option Addr)(t:Addr):Obj:={ cls:=.ref C,dict:=dd,data:=.fields #[.ref t,.none,.none,.none,.bool false,.none] }
def Ot (C a:Addr)(dd:Option Addr):HO:=.ext λh=>∃t,h.get? a=some (Qm C dd t)
def Kh {P:Program}{w:World}{H:Hp}{h:Heap}{C a t:Addr}{dd:Option Addr}(e:h.get? a=some (Qm C dd t)):ObjOk P w H h a (Ot C a dd):=
 ⟨⟨t,e⟩,⟨_,e⟩,λ_ _ ⟨t,q⟩ k=>⟨t,k _ q⟩⟩
def FW {H:Hp}{a:Addr}{o:HO}(e:H a=some o):upd H a o=H:=by
 funext b;unfold upd;split
 .rename_i z;rw[z,e]
 .rfl
section
variable {X:Cx}{CX:CXT}{k:Nat}{B C F:Addr}{E:XK}{x:Str}{p pos A:Pos}{e o:Expr}{d:List Expr}{t:TA}{T g:TE}
def aef (C:Addr)(t:TA):TE:=λb H Q=>t b H λv h=>∃a u,v=.ref a::u/\u.length<=1000/\h a=some (Ot C a none)/\Q .non h
def W0 {pl:Sem Bool}(hg:Gl X x)(hm:X.mg x=some (.ref B))(c:ab0 X.K B)(q:zF X.K C B F)(Z:PA X (e::d) t)
  (n:(x == ("__debug__":Str))=false:=by decide) (w:starEach (e::d) X.env=(false,eval e X.env)::starEach d X.env:=by rfl) (v:(backTo pos (starEach d X.env)).any (·.1)=false:=by rfl)
  (ht:eval (.Call (.Attribute (.Name x p) "__init__" A) (e::d) [] pos) X.env=(do
   let ov <- eval (.Name x p) X.env
   standAt A.atName
   let (f,first) <- holding [ov] (getMethod ov "__init__" pl)
   callWith pos f first (backTo pos (starEach (e::d) X.env)) (backToKw pos (keywordEach [] X.env))):=by rfl):PE X (.Call (.Attribute (.Name x p) "__init__" A) (e::d) [] pos) (aef C t):=by
 intro j s σ H Q I h;refine dw (pl:=pl) (ld_glob I hg hm ?_ n) ht;refine W.method_cls I.kIn c.ga (W.cls_value I.kIn c.rd c.fc rfl ?_);have P:=I.tok (s.toks+1);have L:=Z pos j _ σ H _ P h;rw[w]at L ⊢;refine ee (by show(false || (backTo pos (starEach d X.env)).any (·.1))=false;rw[v]<;>rfl) (fh ?_);refine thn L λus i ⟨vs,O,m,r,D⟩=>?_;obtain⟨a,ws,rfl,hl,y,D⟩:=D;cases r with
 |cons ru rs=>
  rename_i u l _;obtain rfl:u=Value.ref a:=ru;obtain⟨nm,qn,N,bs,sn,sub,ab,R,S,k0,k1,k2,k3,k5,Y⟩:=q.ob;obtain⟨⟨t0,M⟩,_⟩:=m.hok a _ y;refine Uu bU (fU m.kIn q.tl) (m.kIn _ _ Y) M rfl rfl rfl ?_ (by rw[<- rs.length];exact aG hl (by rw[ao];lia));have U:=af (h:=i.heap) { cls:=.type "tuple",data:=.seq l.toArray } M;have J:=b8 (Obj.mapFields (·.setIfInBounds 0 (.ref i.heap.objs.size))) U rfl;have G:=m.write (x:=a) (e:=a) (o:=Ot C a none) (t':=i.toks) (h':=(i.heap.push { cls:=.type "tuple",data:=.seq l.toArray }).update a (Obj.mapFields (·.setIfInBounds 0 (.ref i.heap.objs.size))))
   (by rw[y];exact tT) (.inl rfl) (λb u hb z=>by rw[a8 _ _ (br hb)];exact af _ z) ⟨_,J⟩ (Kh (t:=i.heap.objs.size) J)
  rw[FW y]at G;exact⟨.non,O,G,rfl,D⟩
end
section
variable {X:Cx}{CX:CXT}{k:Nat}{B C F:Addr}{E:XK}{x f:Str}{p pos A P:Pos}{e o v:Expr}{j:List Expr}{t:TA}{c i:TE}
def adu (C:Addr)(c i:TE)(f:Str):TS:=λD b H=>i b H λy g=>c b g λx h=>∃a,x=.ref a/\h a=some (Ot C a none)/\∀d,h d=none->d≠a->D.nx b (upd (upd h a (Ot C a (some d))) d (.xd [(f,y)]))
def Wi (q:zF X.K C B F)(hn:W.findIn X.K (.ref C) f=some none)(w:X.ex=[])(ha:PE X o c)(hv:PE X v i)(hs:swapsWith v (some (.Attribute o f P)) pos.line X.env=pure false) :
  PS X (.Assign [.Attribute o f P] v pos) (adu C c i f):=by
 intro l s J H D I h;refine eG (thn (hv l s J H _ I h) λu s1 ⟨y,U,Z,ry,q1⟩=>thn (ha l s1 J U _ Z q1) λov s2 ⟨x,Y,n,rx,a,ex,O,q2⟩=>?_) hs;subst ex;obtain rfl:ov=Value.ref a:=rx;obtain⟨nm,qn,N,bs,sn,sub,ab,col,dcl,k0,k1,k2,k3,k5,eC⟩:=q.ob;obtain⟨cd,c1,c2,c3⟩:=q.cd;obtain⟨⟨t0,S⟩,_⟩:=n.hok a _ O;refine Vz n.kIn S rfl rfl rfl q.sa (n.kIn _ _ eC) c1 c2 c3 hn λh' d r M ns kp=>?_;have R:Y d=none:=n.untracked r;have L:d≠a:=λz=>by rw[z,S]at r;cases r
 have I3:=n.write (x:=a) (e:=a) (o:=Ot C a (some d)) (t':=s2.toks+2) (h':=h') (by rw[O];exact tT) (.inl rfl) (λb u hb z=>kp b u hb z) ⟨_,M⟩ (Kh (t:=t0) M);have G:=n.Nq w r;have hl:d≠X.env.locals:=λz=>by obtain⟨m,⟨ob,_,_,Q,_⟩,_⟩:=n.loc;rw[<- z,r]at Q;cases Q
 have I4:=I3.Ue (T:=d) (o:=.xd [(f,y)]) (by rw[upd_ne L];exact R) hl G.1 G.2.2.1 G.2.2.2 ⟨_,ns,λg=>?_⟩
 .exact⟨J,_,I4,q2 d R L⟩
 .show RelO (List.lookup g [(f,y)]) (if g=f then some u else none);by_cases z:g=f
  .rw[ai z,z];simp only[eY,beq_self_eq_true];exact ry
  .rw[ag z];simp only[eY,beq_eq_false_iff_ne.mpr z,List.lookup_nil];exact tT
end
section
variable {M:Model}{A:Around}{E:Value->Shared->Prop}{env:Env}{nm q:Str}{C N:Addr}{bs bm:List Value}{hdct:Bool}{sn:List Str}{sub:List Value}{ab:Bool}{col:Option Bool}{dd:Option Addr}{k0 k1 k2 k3 k5:Option Value}{newId:String}
def JV {s:Shared}{x:Sem Value}{Q:Flow->Shared->Prop}(b:bm.contains (.type "BaseException")=true)(l:A.handled=none)
  (h:wpAny M A x (λv a=>∃e t d,v=.ref e/\a.heap.get? C=some (excClassObj nm q C N bs bm hdct sn sub ab col dd k0 k1 k2 k3 k5 newId) /\ a.heap.get? e=some (Qm C d t)/\E (.ref e) a) E s) :
  wpAny M A (raiseStmt env (some x) none) Q E s:=by
 have f:(Value.ref C::bm).contains (.type "BaseException")=true:=by rw[List.contains_cons,b,Bool.or_true]
 unfold raiseStmt;refine ac (cU h (λv a c=>?_) λ_ _ x=>x);obtain⟨e,t,m,rfl,i,k,j⟩:=c;obtain⟨n,g,d,p,o⟩:=a
 repeat (first|with_reducible refine wpAny_loadPart_at k ?_|with_reducible refine wpAny_loadPart_at i ?_|(with_reducible refine wpAny_isSubtype_exc i ?_;rw[f])|wp_step)
 exact wpAny_raiseNew_none l j
end
def del (H:Hp)(a:Addr):Hp:=λb=>if b=a then none else H b
def vD {H:Hp}{a:Addr}:del H a a=none:=by unfold del;rw[ai rfl]
def qY {H:Hp}{a b:Addr}(h:b≠a):del H a b=H b:=by unfold del;rw[ag h]
def HOk.del {P:Program}{w:World}{H:Hp}{h:Heap}{a:Addr}{d:Heap->Prop}(ok:HOk P w H h)(e:H a=some (.ext d)):HOk P w (del H a) h:=λb o q=>by
 have nb:b≠a:=λz=>by rw[z,vD]at q;cases q
 rw[qY nb]at q;refine(ok b o q).stay (λ_ _ _ z=>z) (λc z=>?_) (λc xs z=>?_) λc o u z=>?_
 .rw[qY (λy=>by rw[y,e]at z;cases z)];exact z
 .rw[qY (λy=>by rw[y,e]at z;cases z)];exact z
 .rw[qY (λy=>by rw[y,e]at z;cases z)];exact z
def Un.del {fs ex:List Addr}{H c:Hp}{h h':Heap}{a:Addr}(u:Un fs ex H c h h')(n:H a=none):Un fs ex H (L2.del c a) h h' where
 keep:=u.keep
 slot:=u.slot
 free:=λb o e z x=>by
  by_cases y:b=a
  .rw[y,vD]
  .rw[qY y];exact u.free b o e z x
 there:=u.there
 tups:=λb xs e=>by rw[qY (λy=>by rw[y,n]at e;cases e)];exact u.tups b xs e
 frzs:=λb o v e=>by rw[qY (λy=>by rw[y,n]at e;cases e)];exact u.frzs b o v e
 tbls:=λb p e=>by obtain⟨m,z⟩:=u.tbls b p e;exact⟨m,by rw[qY (λy=>by rw[y,n]at e;cases e)];exact z⟩
def abX (X:Cx)(E:XK):Prop:=∀(p:List (Addr×Obj)) (σ:St) (H H2:Hp) (s s':Shared) (a C d t:Addr),Inv X p σ H s->s.heap.get? a=none->s'.os=s.os->AllBare s'.gens->Un (frs X.stack) [] H H2 s.heap s'.heap->HOk X.prog X.w H2 s'.heap->H2 a=none ->
 s'.heap.get? a=some (Qm C (some d) t)->E (.ref C) (some d) H2->X.xe (.ref a) s'
def newX {P:Program}{w:World}{K:Fg}{mg:Mg}{base:Heap}{N:Ls}{b:Str}{scope:Scope}{f:Addr}{cd:Value}{A:Around}{outer:List Env}{s:Shared}{H:Hp}{E:XK} :
  abX (cxOf (sZ P w) P w K mg base N b scope f cd A outer s H E) E:=λp x m o v r a C d t I n l j u h g k i=>
 leave_new I rfl rfl rfl l j u h ⟨g,n⟩ k rfl rfl rfl rfl (λ_=>rfl) i (M:=model P w) (E':=λe c=>sZ P w outer H s E e c) λc q=>q
section
variable {X:Cx}{k:Nat}{B C g:Addr}{i:FuncData}{p:List Str}{sp:Sp}{E:XK}{x:Str}{n c pos:Pos}{e:Expr}{f:List Expr}{t:TA}
def Ys (C:Addr)(sp:Sp)(E:XK)(t:TA):TS:=λ_ l H=>t l H λj h=>∀a,h a=none->sp (.ref a::j) (upd h a (Ot C a none)) (λv b=>v=.non/\∃d,b a=some (Ot C a (some d))/\E (.ref C) (some d) (del b a)) E0
def Ph {l:List (Addr×Obj)}{M:St}{H:Hp}{s:Shared}{us:Lv}{vs:List V}(q:zF X.K C B g)(F:FnOk X.prog X.w X.K X.mg X.base CX0 k g i p sp)(Z:Room (k+1) X.A)(T:Binds X.K i p [])
  (I:Inv X l M H s) (r:Vals vs us) (hz:us.length<=sizeLine)
  (h:∀a,H a=none->sp (.ref a::vs) (upd H a (Ot C a none)) (λv j=>v=.non/\∃d,j a=some (Ot C a (some d))/\E (.ref C) (some d) (del j a)) E0) :
  wpAny (model X.prog X.w) X.A (call (.ref C) us) (λu s'=>∃a j d t,u=.ref a/\s.heap.get? a=none/\s'.os=s.os/\AllBare s'.gens/\Un (frs X.stack) [] H j s.heap s'.heap/\HOk X.prog X.w j s'.heap/\j a=none /\ s'.heap.get? a=some (Qm C (some d) t)/\E (.ref C) (some d) j) X.xe s:=by
 obtain⟨nm,qn,N,bs,sn,sub,ab,O,P,k0,k1,k2,k3,k5,z⟩:=q.ob;refine cq (TY (I.kIn _ _ z) (BX I.kIn (I.kIn _ _ z) (fU I.kIn q.tl) q.ini q.fn q.sub hz λD a A made=>?_));obtain⟨t0,e0,_⟩:=made.there;have w:H a=none:=I.untracked made.new;have y:Inv X l M (upd H a (Ot C a none)) { s with heap:=D }:=I.laid (t':=s.toks) made.keeps (by rw[A];exact bO _) (Kh (t:=t0) e0);have G:=h a w;have L:Vals (V.ref a::vs) (Value.ref a::us):=.cons rfl r;have U:(Value.ref a::us).length=p.length:=by rw[<- L.length];exact F.len _ _ _ _ G
 have r3:Vals (V.ref a::vs) (Value.ref a::us++[]):=by rw[aV];exact L
 refine cq (dS (F.run _ X.stack _ _ ⟨Value.ref a::us,[]⟩ (Value.ref a::us++[]) _ _ E0 (Z.make C us []) (y.env0.make C us []) (T _ (Value.ref a::us) y.kIn (by rw[aV];exact U)) r3 G) λr s' b=>?_);cases r with
 |error e=>exact b.elim
 |ok R=>
  cases R with
  |ret u=>obtain⟨v,j,Y,m,un,o,rv,ev,d,J,S⟩:=b;subst ev;obtain⟨⟨t1,Q⟩,_⟩:=o a _ J;have u1:Un (frs X.stack) [] H (upd H a (Ot C a none)) s.heap D:=Un.laid made.keeps (by rw[A];exact bO _) w;exact⟨rv,a,del j a,d,t1,rfl,made.new,Y,m,(u1.trans un).del w,o.del J,vD,Q,S⟩
  |next=>exact False.elim b
  |brk=>exact False.elim b
  |cont=>exact False.elim b
def Qt (hn:abX X E)(hc:X.calm=true)(q:zF X.K C B g)(F:FnOk X.prog X.w X.K X.mg X.base CX0 k g i p sp)(hr:Room (k+1) X.A)(hb:Binds X.K i p [])(hg:Gl X x)(hm:X.mg x=some (.ref C))(ha:PA X (e::f) t)(hz:(e::f).length<=1000:=by decide)
  (G:(x == ("__debug__":Str))=false:=by decide) (he:starEach (e::f) X.env=(false,eval e X.env)::starEach f X.env:=by rfl) (J:(backTo c (starEach f X.env)).any (·.1)=false:=by rfl)
  (hl:∀l H Q,t l H Q->t l H λvs A=>vs.length=(e::f).length/\Q vs A):PS X (.Raise (some (.Call (.Name x n) (e::f) [] c)) none pos) (Ys C sp E t):=by
 intro j s l H D I h;obtain⟨nm,S,N,bs,sn,sub,ab,col,m,k0,k1,k2,k3,k5,eC⟩:=q.ob;rw[arm_exec_Raise];refine ac (fq (JV (C:=C) (nm:=nm) (q:=S) (N:=N) (bs:=bs) (bm:=(vB C B).tail) (hdct:=true) (sn:=sn) (sub:=sub) (ab:=ab) (col:=col) (dd:=m) (k0:=k0) (k1:=k1) (k2:=k2) (k3:=k3) (k5:=k5) (newId:="ValueError.__new__") (by simp[vB]) (I.ok.hd hc) ?_));refine ac (cU (Q:=λv w=>∃e t d,v=.ref e/\w.heap.get? C=some (excClassObj nm S C N bs (vB C B).tail true sn sub ab col m k0 k1 k2 k3 k5 "ValueError.__new__") /\ w.heap.get? e=some (Qm C d t)/\X.xe (.ref e) w) ?_ (λv T o=>ac (fq (aO o))) λ_ _ x=>x)
 refine bD (ld_glob I hg hm ?_ G);refine cr (h₀:=X.base) I.ok.mod.kin q.kp (thn (ha c j s l H _ I (hl l H _ h)) λus s1 ⟨vs,A,y,r,l1,q1⟩=>⟨y.kIn,?_⟩) he J;refine thn (Ph q F hr hb y r (by show us.length<=sizeLine;rw[<- r.length,l1];exact bv (small1000 hz)) q1) λu w ⟨a,Y,d,U,Z,e2,L,M,O,P,e7,R,e9⟩=>?_;refine⟨a,U,some d,Z,?_,R,hn j l A Y s1 w a C d U y e2 L M O P e7 R e9⟩;exact(y.call' (ch:=[]) L O P M (λb z=>absurd z (by simp))).kIn _ _ eC
end
section
variable {X:Cx}{a:Expr}{T:TE}{pos:Pos}
def U0:OpR X (compareOp .In) (λx y H Q=>∃c j,x=.str ⟨#[c]⟩/\y=.str j/\Q (.bl (decide (c∈j.cps.toList))) H):=by intro p s f H x y u v Q I r d ⟨c,j,e,b,q⟩;refine op_in_str p s f H x y u v Q I r d ⟨_,_,e,b,?_⟩;rw[StrLaws.found_one];exact q
def mq:CallR X (.type "int") (λxs H Q=>∃z n,xs=[.str z]/\intText? z=some n/\z.length<=640/\Q (.int n) H):=by
 rintro p s e H xs u Q I r ⟨z,n,rfl,b,h,q⟩;cases r with
 |cons c d=>cases d;obtain⟨t,rfl⟩:=c;exact W.KIN.call_text b h ⟨.int n,H,I.tok _,⟨_,rfl⟩,q⟩
def o7 {x:Str}{z:Str}(d:Gl X x)(b:∃tk,X.mg x=some (.str z tk))(c:(x == ("__debug__":Str))=false:=by decide):PE X (.Name x pos) (tC (.str z)):=
 λp s e H Q I h=>let ⟨_,b⟩:=b;pe_glob d b (v:=.str z) ⟨_,rfl⟩ c p s e H Q I h
def tFI (u w:Str)(T:TE):TE:=λb H Q=>u.length<=sizeLine/\T b H λx h=>∃n:Int,x=.int n/\n.natAbs.log2<1920/\(u++(toString n:Str)).length<=sizeLine/\(u++(toString n:Str)++w).length<=sizeLine/\Q (.str (u++(toString n:Str)++w)) h
def acI {u w:Str}{j b:Nat}{y z c:Pos}(m:PE X a T):PE X (.JoinedStr [.Constant (.str u) j y,.FormattedValue a (-1) none z,.Constant (.str w) b c] pos) (tFI u w T):=by rintro p s d H Q I ⟨o,h⟩;refine JoinedStr_many ?_;refine ce (cn ?_);refine⟨by rw[empty_app];exact o,?_⟩;rw[empty_app];have i:Inv X p d H { s with toks:=s.toks+1 }:=I.kept λ_ _ e=>e;refine ce (FormattedValue_plain (thn (m p _ d H _ i h) λv C ⟨x,f,g,B,n,k,q,r,l,A⟩=>?_));subst k;obtain⟨t,rfl⟩:=B;refine eQ q ?_;refine⟨r,?_⟩;show wpAny _ _ (joinParts (u++(toString n:Str)) [eval (.Constant (.str w) b c) X.env]) _ _ _;refine ce (cn ?_);refine⟨l,?_⟩;refine gB ?_ l;exact⟨.str _,f,g.kept λ_ _ e=>e,⟨_,rfl⟩,A⟩
end
section
variable {X:Cx}{CX:CXT}{j k:Nat}{C:Addr}{p:List Str}{sp:Sp}{E:XK}{m:Str}{pos a:Pos}{e o:Expr}{d:List Expr}{T:TE}{t:TA}
def j6 {pl:Sem Bool}(u:QL X.prog X.w X.K X.mg X.base CX j C m p sp)(n:Room k X.A)(r:Passes CX X E)(he:PE X o T)(i:PA X (e::d) t)(l:j<=k:=by decide)
  (g:starEach (e::d) X.env=(false,eval e X.env)::starEach d X.env:=by rfl) (h:(backTo pos (starEach d X.env)).any (·.1)=false:=by rfl)
  (q:eval (.Call (.Attribute o m a) (e::d) [] pos) X.env=(do
   let ov <- eval o X.env
   standAt a.atName
   let (f,first) <- holding [ov] (getMethod ov m pl)
   callWith pos f first (backTo pos (starEach (e::d) X.env)) (backToKw pos (keywordEach [] X.env))):=by rfl) :
  PE X (.Call (.Attribute o m a) (e::d) [] pos) (tMeth C m sp [] E T t):=by
 obtain⟨f,v,F,b,s,c⟩:=u.ex;exact pe_meth he c s (F.mono l) n b .nil r i g h q
def lC {pl:Sem Bool}(q:QL X.prog X.w X.K X.mg X.base CX j C m p sp)(g:Room k X.A)(l:Passes CX X E)(he:PE X o T)(h:j<=k:=by decide)
  (i:eval (.Call (.Attribute o m a) [] [] pos) X.env=(do
   let ov <- eval o X.env
   standAt a.atName
   let (f,first) <- holding [ov] (getMethod ov m pl)
   callWith pos f first (backTo pos (starEach [] X.env)) (backToKw pos (keywordEach [] X.env))):=by rfl) :
  PE X (.Call (.Attribute o m a) [] [] pos) (tMeth C m sp [] E T tNil):=by
 obtain⟨f,r,F,b,n,c⟩:=q.ex;exact pe_meth0 he c n (F.mono h) g b .nil l i
def VJ:PIp X .Add (λx y H Q=>∃i j,x=.str i/\y=.str j/\i.length+j.length<=sizeLine/\Q (.str (i++j)) H):=iop_add_str
end
def Q4 {H:Hp}{a d:Addr}{o u:HO}(h:H a=none)(c:d≠a)(x:HO):del (upd (upd (upd H a o) a u) d x) a=upd H d x:=by
 funext b;by_cases z:b=a
 .subst z;rw[vD,upd_ne (br c)];exact h.symm
 .rw[qY z];by_cases y:b=d
  .subst y;rw[upd_same,upd_same]
  .rw[upd_ne y,upd_ne y,upd_ne z,upd_ne z]
section
variable {X:Cx}{P:List (Addr×Obj)}{a:St}{H:Hp}{s:Shared}
def Inv.less {n:Str}{i:Nat}{v:Option Value}{m:Mg}{h':Heap}{t':Nat}(I:Inv X P a H s)(C:X.N.Nodup)(D:X.N[i]?=some n)(hl:∀(i:Nat) (x:Str) (v:V),X.N[i]?=some x->a[i]?=some (some v)->Vis X.env.scope x->∃u,RelV v u/\Look X.env s.heap m x u)
  (E:h'.Ns X.env.locals (λx=>if x=n then v else m x)) (h:Heap.SameBut X.env.locals s.heap h'):Inv X P (a.set i none) H { s with heap:=h',toks:=t' }:=by
 have f:∀b o,X.s₀.heap.get? b=some o->b≠X.env.locals:=λb o e=>aX (aN (ay e) I.ok.above);refine⟨I.ok,I.os,I.bare,⟨λb o e q t l=>(h.2 b (f b o e)).trans (I.base.keep b o e q t l),λb o e q t l=>?_,I.base.free,λb o e l=>?_,I.base.tups,I.base.frzs,I.base.tbls⟩,⟨_,E,λk x u g j B=>?_⟩,λx c e=>?_,I.free,I.freeC,λp F=>?_,λb o e=>?_,by rw[bC];exact I.len⟩
 .obtain⟨M,g⟩:=I.base.slot b o e q t l;exact⟨M,(h.2 b (f b o e)).trans g⟩
 .obtain⟨J,g⟩:=I.base.there b o e l;exact⟨J,(h.2 b (f b o e)).trans g⟩
 .have A:k≠i:=λz=>by rw[z,List.getElem?_set_self']at j;cases q:a[i]? <;> rw[q]at j<;>cases j
  have w:x≠n:=λz=>A (nodup_ix C g (by rw[z];exact D));rw[bJ (br A)]at j;obtain⟨N,L,q⟩:=hl k x u g j B;refine⟨N,L,?_⟩;rcases q with⟨y,e⟩|⟨y,c,e,z⟩
  .exact .inl ⟨y,by dsimp only;rw[ag w];exact e⟩
  .exact .inr ⟨y,c,e,z.sameBut h (I.cne x c e)⟩
 .obtain⟨O,z⟩:=I.cell x c e;exact⟨O,z.sameBut h (I.cne x c e)⟩
 .obtain⟨e,q,ne,G,d⟩:=I.pin p F;exact⟨(h.2 p.1 ne).trans e,q,ne,G,d⟩
 .refine(I.hok b o e).stay (λc u r q=>(h.2 c (λz=>?_)).trans q) (λ_ q=>q) λ_ _ q=>q;subst z;rcases r with rfl|r
  .rw[I.free]at e;cases e
  .rw[I.free]at r;cases r
end
section
variable {prog:Program}{w:World}{A:Around}{E:Value->Shared->Prop}{s:Shared}{K:Fg}{x C:Addr}{o:Obj}{od:Option Obj}{n:Str}{e:Bool}
def Kr {Q:Option Value->Shared->Prop}(X:K.In s.heap)(I:W.InstAt s.heap x o C od)
  (f:W.findIn K (.ref C) "__getattribute__"=some (some (.builtin "BaseException.__getattribute__"))) (y:W.findIn K (.ref C) "__getattr__"=some none) (u:W.mroIn K C (.type "BaseException")=some true)
  (v:W.findObj K C od "__class__"=some (.bind (.builtin "getset_descriptor.__get__") (.builtin "object.__class__"))) (z:W.mroIn K C (.type "object")=some true)
  (k:Q (some (.ref C)) { s with toks:=s.toks+1 }):wpAny (model prog w) A (getAttr? (.ref x) "__class__") Q E s:=by
 obtain⟨j,g,d,t,B⟩:=s;have l:=I.type (M:=model prog w);have L:=bK (M:=model prog w) X f;have r:=bK (M:=model prog w) X y;have p:=dO (M:=model prog w) X u;have q:=fV (M:=model prog w) X I v;have b:=(cf.ga).bind (.ref x);unfold getAttr? getAttrBy? getAttrBy;refine ac (wpAny_mkText (ac (d7 (bE (ac (l.at (ac (L.at ?_))))))));show wpAny _ _ (getAttrByItsOwn _ _ _ _ _ _) _ _ _;unfold getAttrByItsOwn hookBefore;rw[ai (show onTheHeap (.ref C)=true from rfl)];refine ac (r.at ?_);refine ac (d7 (bE ?_));show wpAny _ _ (boundAndCalled _ _ _) _ _ _;unfold boundAndCalled;rw[b];refine ac (aO ?_);refine cq (cO cf.ga.plain eP ?_);have i:builtinKind "BaseException.__getattribute__"=some .slot:=by decide +kernel
 have h:splitId "BaseException.__getattribute__"=some ("BaseException","__getattribute__"):=by decide +kernel
 have c:=fk (.ref x) (.str "__class__" t);simp only[checkBuiltinCall,i,h];have m:W.Looks (model prog w) j (isInstance (.ref x) (.type "BaseException")) true:=l.andThen p;refine ac (m.at ?_);rw[ag (by decide)];refine fE (a:=()) c ?_;show wpAny _ _ (Builtin.«object.__getattribute__» ⟨[.ref x,.str "__class__" t],[]⟩) _ _ _;unfold Builtin.«object.__getattribute__»;refine ac (fE (a:=(.ref x,[.str "__class__" t])) rfl ?_);refine ac (aO (ac (l.at (ac (q.at ?_)))));refine ac (bE (cq ?_));refine W.class_get (s:=⟨j,g,d,t+1,B⟩) (ox:=o) (od:=od) X I z ?_;exact aO (gg rfl (aO k))
def Yp {Q:Value->Shared->Prop}{v:Value}(X:K.In s.heap)(I:W.InstAt s.heap x o C od)
  (f:W.findIn K (.ref C) "__getattribute__"=some (some (.builtin "BaseException.__getattribute__"))) (z:W.findIn K (.ref C) "__getattr__"=some none) (r:W.mroIn K C (.type "BaseException")=some true)
  (u:W.findObj K C od n=some (.value v)) (y:W.handedIn v=true)
  (k:Q v { s with toks:=s.toks+1 }):wpAny (model prog w) A (getAttr (.ref x) n e) Q E s:=by
 obtain⟨h0,g,d,t,B⟩:=s;have l:=I.type (M:=model prog w);have L:=bK (M:=model prog w) X f;have q:=bK (M:=model prog w) X z;have m:=dO (M:=model prog w) X r;have p:=fV (M:=model prog w) X I u;have b:=(cf.ga).bind (.ref x);unfold getAttr getAttrBy;refine ac (wpAny_mkText (bE (ac (l.at (ac (L.at ?_))))));show wpAny _ _ (getAttrByItsOwn _ _ _ _ _ _) _ _ _;unfold getAttrByItsOwn hookBefore;rw[ai (show onTheHeap (.ref C)=true from rfl)];refine ac (q.at ?_);refine ac (d7 (bE ?_));unfold callGetattribute;rw[ag (show ¬((e && onTheHeap (.builtin "BaseException.__getattribute__"))=true) from by cases e<;>exact aJ)];show wpAny _ _ (boundAndCalled _ _ _) _ _ _;unfold boundAndCalled;rw[b];refine ac (aO ?_);refine cq (cO cf.ga.plain eP ?_);have i:builtinKind "BaseException.__getattribute__"=some .slot:=by decide +kernel
 have h:splitId "BaseException.__getattribute__"=some ("BaseException","__getattribute__"):=by decide +kernel
 have c:=fk (.ref x) (.str n t);simp only[checkBuiltinCall,i,h];have j:W.Looks (model prog w) h0 (isInstance (.ref x) (.type "BaseException")) true:=l.andThen m;refine ac (j.at ?_);rw[ag (by decide)];refine fE (a:=()) c ?_;show wpAny _ _ (Builtin.«object.__getattribute__» ⟨[.ref x,.str n t],[]⟩) _ _ _;unfold Builtin.«object.__getattribute__»;refine ac (fE (a:=(.ref x,[.str n t])) rfl ?_);refine ac (aO (ac (l.at (ac (p.at ?_)))));exact aO (gg y k)
end
abbrev ac1 (a:Addr)(cls:Value):Heap->Prop:=λh=>∃o v d b,h.get? a=some o/\o.cls=cls/\o.dict=some d/\o.data=.fields v/\h.get? d=some b
def PJ {K:Fg}{x C:Addr}(F:uz K C):W.KitX K (.ref x) (.ref C) (ac1 x (.ref C)) where
 ty:=λ_ _ _ ⟨_,_,_,_,e,a,_⟩=>by rw[<- a];exact(bX e).andThen .now
 it:=λ_ _ X _=>by obtain⟨c,d,cd,t,g⟩:=F.lk;intro A Q E s k q;unfold isType loadHead;exact ac (fZ (k _ _ (X _ _ g)) (aO q))
 ne:=λh v w r n t X j=>by obtain⟨c,d,cd,u,g⟩:=F.lk;refine Bool.eq_false_iff.mpr λq=>?_;obtain rfl:C=v:=Value.ref.inj (beq_iff_eq.mp q);have z:=(X _ _ g).symm.trans j;cases z
 ca:=λ{_ _ _ _ _ s} X ⟨o,y,d,l,e,a,f,m,i⟩ k=>by
  have I:W.InstAt s.heap x o C (some l):=⟨e,a,by unfold W.notCls;rw[m],by rw[f];exact i⟩;have p:W.findObj K C (some l) "__class__"=some (.bind (.builtin "getset_descriptor.__get__") (.builtin "object.__class__")):=by obtain⟨cd,b,_⟩:=eU F.hd;unfold W.findObj;rw[b,dM,F.ha,dM];simp[F.hn,F.htk]
  exact Kr X I F.hg F.hk F.hb p F.hm k
section
variable {X:Cx}{e:Expr}{t:TE}{f:Str}{pos:Pos}
def R9:CallR X (.builtin "isinstance") (λxs H Q=>∃a c C g b d fs,xs=[.ref a,c]/\JX c=some g/\H a=some (vq a (.ref C) (some d))/\H d=some (.xd fs)/\uz X.K C/\W.kitOne X.K (.ref C) g=some b/\Q (.bl b) H):=by rintro p s G H xs D Q I r ⟨a,c,C,g,b,d,fs,rfl,n,m,v,F,e,q⟩;obtain⟨u,E,rfl,x,y⟩:=vals2 r;obtain rfl:=Ac n y;obtain rfl:u=.ref a:=x;obtain⟨⟨o,B,h,i,j,k⟩,_⟩:=I.hok a _ m;obtain⟨w,l⟩:=(I.hok d _ v).get;exact bG (PJ F) I.kIn ⟨o,B,d,w,h,i,j,k,l⟩ e (λz=>nomatch z) λA=>⟨.bl b,H,I.tok A,rfl,q⟩
def ab4 (K:Fg)(t:TE)(f:Str):TE:=λb H Q=>t b H λx h=>∃a C d fs v,x=.ref a/\h a=some (vq a (.ref C) (some d))/\h d=some (.xd fs)/\uz K C/\W.findIn K (.ref C) f=some none/\fs.lookup f=some v/\Q v h
def X6 (he:PE X e t)(z:attributeBase e f X.env (eval e X.env)=eval e X.env):PE X (.Attribute e f pos) (ab4 X.K t f):=by intro p s P H Q I h;refine attr_of z (thn (he p s P H _ I h) λu O ⟨x,b,i,N,a,C,d,fs,v,y,m,w,F,n,l,q⟩=>?_);subst y;obtain rfl:u=Value.ref a:=N;obtain⟨⟨o,R,c,g,j,k⟩,_⟩:=i.hok a _ m;obtain⟨E,G,M⟩:=i.hok d _ w;obtain⟨L,B,A⟩:=lookIn_ns G;obtain⟨u,D,r⟩:=RelO.some_of (v:=v) (o:=E f) (by rw[<- l];exact M f);have J:W.InstAt O.heap a o C (some L):=⟨c,g,by unfold W.notCls;rw[k],by rw[j];exact B⟩;exact Yp i.kIn J F.hg F.hk F.hb (iq F.hd n rfl (by rw[A,D])) (handed_of r) ⟨v,b,i.tok _,r,q⟩
end
end L2
namespace L3
open L2
def spX (c:Addr)(pre:Str->Prop)(F:Str->Int ⊕ List Int):Sp:=λv H Q E=>∃t:Str,v=[.str t]/\pre t/\(∀n,F t=.inr n->∀h a,Same H h -> H a=none->h a=some (.lst (n.map V.int))->Q (.ref a) h) /\
 ∀z,F t=.inl z->∀b d,Same H b->H d=none->b d=some (.xd [("place",.int z)])->E (.ref c) (some d) b
structure GPl (G:Gx)(cB:Addr):Prop where
 into:∀(H:Hp) (a d:Addr) (z:Int),H a=some (vq a (.ref cB) (some d))->H d=some (.xd [("place",.int z)])->G.ob 3 H a z
 get:∀(H:Hp) (a:Addr) (z:Int),G.ob 3 H a z->∃d,H a=some (vq a (.ref cB) (some d))/\H d=some (.xd [("place",.int z)])
section
variable {K:Fg}{G:Gx}{B:Bs}{c:L2.St}{H:Hp}{b:En}{O:Addr->Bool}{i:Nat}
def Rep.any (R:Rep K G B c H b O)(h:b[i]?=some .un)(l:∀(m:Nat) xs y,b[m]? ≠ some (Sl.o2 xs y))(w:Option V):Rep K G B (c.set i w) H b O:=by
 have ne:∀{m:Nat} {q:Sl},b[m]?=some q->q ≠ .un->i≠m:=λe k z=>by rw[<- z,h]at e;cases e;exact k rfl
 refine⟨R.same,R.cd,R.hid,R.dom,R.vis,λm p e=>?_,λm p e=>?_,λm n p q a d f g j=>?_,by rw[bC];exact R.len,λm xs y e=>absurd e (l m xs y)⟩
 .rw[bJ (ne e (λz=>nomatch z))];exact R.fr m p e
 .rw[bJ (ne e (λz=>nomatch z))];exact R.ow m p e
 .rw[bJ (ne d (λz=>nomatch z))]at g;rw[bJ (ne f (λz=>nomatch z))]at j;exact R.inj m n p q a d f g j
end
section
variable {X:Cx}{G:Gx}{a c e:Expr}{p pos:Pos}{f h C:En->Prop}{i j g:En->PV}{b:Addr}
def ZM:PV->Int
 | .ob _ z=>z
 |_=>0
def Ju (u:GPl G b)(F:uz X.K b)(x:W.findIn X.K (.ref b) "place"=some none)(he:PE X e (tX X.K G C g))(w:attributeBase e "place" X.env (eval e X.env)=eval e X.env:=by rfl):PE X (.Attribute e "place" pos) (jW X.K G (λk=>C k/\∃z,g k=.ob 3 z) λk=>ZM (g k)):=
 mD (X6 he w) λB A H k O Q R m q=>⟨B,k,O,R,m.1,λv o y l=>by
  obtain⟨z,n⟩:=m.2;rw[n]at l;obtain⟨r,rfl,ob⟩:=l;obtain⟨d,s,t⟩:=u.get _ _ _ ob;refine⟨r,b,d,_,.int z,rfl,jx _ _ s,jx _ _ t,F,x,rfl,q _ o y ?_⟩;show V.int z=V.int (ZM (g k));rw[n];rfl⟩
end
end L3
namespace L2
section
variable {X:Cx}
def aac:SlR X (λx b a H Q=>∃z,x=.str z/\z.length<=sizeLine/\Q (.str (StrLaws.sliceText z b a)) H):=by
 rintro d s n H x v k m b a j Q I r e pl g ⟨z,rfl,f,q⟩;obtain⟨t,rfl⟩:=r;have p:∀{v:Value} {o:Option Int},IsPart v o->∃l:Option (Int×Tok),v=partValue l/\l.map (·.1)=o:=λh=>by
  cases h with
  |none=>exact⟨none,rfl,rfl⟩
  |int i t=>exact⟨some (i,t),rfl,rfl⟩
 obtain⟨l,rfl,rfl⟩:=p pl;obtain⟨u,rfl,rfl⟩:=p g;refine⟨"str",_,PySem.F.slot_str_getitem.lookup,iC s z t,?_⟩;refine wpAny_getItem_str_slice (l:=l) (u:=u) (st:=none) e rfl ?_;unfold sliceMade;unfold StrLaws.sliceText at q;split
 .rename_i c;rw[ai (by exact c)]at q;exact⟨.str z,H,I,⟨t,rfl⟩,q⟩
 .rename_i c;rw[ag (by exact c)]at q;simp only[Made.post];refine⟨?_,.str _,H,I.tok _,⟨_,rfl⟩,q⟩;show((slicePicked z l u none).filterMap (z.cps[·]?)).toArray.size<=sizeLine;rw[aq];refine aG (List.length_filterMap_le _ _) (aG ?_ f);exact PySem.sliceIndices_le _ _ _
end
end L2
namespace L3
open L2
section
variable {X:Cx}{G:Gx}{a b e:Expr}{p P pos:Pos}{h d C:En->Prop}{g f:En->Str}{gi i:En->Int}
def yS (he:PE X e (pO X.K G C g))(n:PE X b (jW X.K G d gi)):PE X (.Subscript e (.Slice (some b) none none P) pos) (pO X.K G (λj=>C j/\d j/\(g j).length<=sizeLine) λj=>StrLaws.sliceText (g j) (some (gi j)) none):=
 mD (pe_slice aac he (po_some n) po_none) λB t H j O Q R c q=>⟨B,j,O,R,c.1,λv r s l=>⟨B,j,O,R.grow s,c.2.1,λu k o m=>⟨gi j,m,g j,l,c.2.2,q _ k (s.trans o) rfl⟩⟩⟩
def hdS (z:Str):Nat:=z.cps.toList.getD 0 0
def ZQ (n:PE X a (pO X.K G h g))(o:PE X b (pO X.K G d f))(r:behindInMarks .In b=false:=by with_unfolding_all rfl):PE X (.Compare a [.In] [b] pos) (GF X.K G (λj=>h j/\d j/\g j=⟨#[hdS (g j)]⟩) λj=>hdS (g j)∈(f j).cps.toList):=
 mD (pe_cmpR U0 n o r) λB x H j O Q R c q=>⟨B,j,O,R,c.1,λv w s l=>⟨B,j,O,R.grow s,c.2.1,λu k t m=>⟨hdS (g j),f j,(show v=.str (g j) from l).trans (congrArg V.str c.2.2),m,q _ k (s.trans t) rfl⟩⟩⟩
end
section
variable {X:Cx}{G:Gx}{e:Expr}{p pos:Pos}{C:En->Prop}{g:En->Str}
def Lz (k:X.mg "int"=none)(i:bootBuiltins "int"=some (.type "int"))(he:PE X e (pO X.K G C g))(j:Gl X "int":=by rfl)(h:starEach [e] X.env=[(false,eval e X.env)]:=by rfl):PE X (.Call (.Name "int" p) [e] [] pos) (jW X.K G (λa=>C a/\(intText? (g a)).isSome=true/\(g a).length<=640) λa=>(intText? (g a)).getD 0):=
 mD (pe_callTy mq j k i (pa_cons he pa_nil h) (he:=h)) λB l H a O Q R c q=>⟨B,a,O,R,c.1,λv f s b=>by
  have b:v=.str (g a):=b;subst b;obtain⟨n,d⟩:=b7.mp c.2.1;refine⟨g a,n,rfl,d,c.2.2,q _ f s ?_⟩;show V.int n=V.int ((intText? (g a)).getD 0);rw[d];rfl⟩
end
end L3
namespace L2
section
variable {X:Cx}{e:List Expr}{M:List Str}{m:Str}{j:Nat}{p:Pos}
def tSs (M:List Str):TA:=λ_ H Q=>Q (M.map V.str) H
def Vy:PA X [] (tSs []):=pa_nil
def HY (c:PA X e (tSs M))(d:starEach (.Constant (.str m) j p::e) X.env=(false,eval (.Constant (.str m) j p) X.env)::starEach e X.env:=by rfl):PA X (.Constant (.str m) j p::e) (tSs (m::M)):=
 λb a s f H Q I h=>pa_cons pe_str c d b a s f H Q I h
end
end L2
namespace L3
open L2
section
variable {X:Cx}{G:Gx}{b:Expr}{e:List Expr}{m:List Str}{k:Nat}{p pos:Pos}{C:En->Prop}{gi:En->Int}
def Xc (t:PA X e (tSs m))(w:PE X b (jW X.K G C gi))(z:m.length<=1000:=by decide)(x:∀v u,subscripted b false v u=operate [v,u] (getItem v u):=by intros;rfl) :
  PE X (.Subscript (.List e p) b pos) (pO X.K G (λa=>C a/\0<=gi a/\gi a<(m.length:Int)) λa=>m.getD (gi a).toNat ""):=
 mD (pe_ix ix_list (pe_lst t) w x) λB A H a O Q R c q=>by
  obtain⟨i,j,y⟩:=c;obtain⟨n,o⟩:=bc j;refine⟨by rw[ae,ao];lia,λl f=>⟨B,a,O,R.grow (same_new f _),i,λu h s d=>?_⟩⟩;have d:u=.int (gi a):=d;subst d;have g:n<m.length:=by lia
  have r:h l=some (.lst (m.map V.str)):=s _ _ upd_same;refine⟨l,m.map V.str,gi a,.str (m.getD (gi a).toNat ""),rfl,rfl,SqL.of r,?_,q _ h ((same_new f _).trans s) rfl⟩;rw[o];refine atI_nat ?_;rw[aE,aa g,show((n:Int)).toNat=n from rfl,gQ,aa g];rfl
end
section
variable {X:Cx}{G:Gx}{a b e:Expr}{p pos:Pos}{d f C:En->Prop}{g h:En->Str}
def uo (n:X.mg "len"=none)(l:PE X a (pO X.K G C g))(m:Gl X "len":=by rfl)(he:starEach [a] X.env=[(false,eval a X.env)]:=by rfl) :
  PE X (.Call (.Name "len" p) [a] [] pos) (jW X.K G (λi=>C i/\(g i).length<=sizeLine) λi=>((g i).length:Int)):=
 mD (pe_callB call_len_str m n Aq (pa_cons l pa_nil he) (by decide) (by decide) he rfl) λB o H i O Q R c q=>⟨B,i,O,R,c.1,λv j s k=>⟨g i,by rw[show v=.str (g i) from k],c.2,q _ j s rfl⟩⟩
end
end L3
namespace L2
def PEt (X:Cx)(e:Expr)(t:TE):Prop:=
 ∀(p:List (Addr×Obj)) (s:Shared) (σ:St) (H:Hp) (Q:VK),1<=s.toks->Inv X p σ H s->t σ H Q->wpAny (model X.prog X.w) X.A (eval e X.env) (EP X p σ Q) X.xe s
section
variable {X:Cx}{o e:Expr}{to d T:TE}{pos:Pos}
def VG:MtR X "str.partition" (λx xs H Q=>∃z y,x=.str z/\xs=[.str y]/\(y.length == 0)=false/\z.length<=sizeLine/\∀a,H a=none->Q (.ref a) (upd H a (.tup [.str (PySem.Txt.partition z y).1,.str (PySem.Txt.partition z y).2.1,.str (PySem.Txt.partition z y).2.2]))):=by
 rintro p s A H x xs v C Q I u n ⟨z,y,rfl,rfl,l,m,q⟩;obtain⟨t,rfl⟩:=u;obtain⟨B,rfl,w,rfl⟩:=vals1 n;refine fw F.slot_str_partition (iC _ _ _) F.entry_str_partition (F.args_str_partition_2 _ _) (meets_str_partition z y t w l m) ?_;have fin:∀(a b c:Str) (T g j:Tok) (k:Nat),PySem.Txt.partition z y=(a,b,c)->EP X p A Q (.ref s.heap.objs.size) { s with heap:=s.heap.push { cls:=.type "tuple",data:=.seq [.str a T,.str b g,.str c j].toArray },toks:=k }:=λa b c T g j k e=>by rw[e]at q;exact⟨.ref s.heap.objs.size,_,I.laid (o:=.tup [.str a,.str b,.str c]) (t':=k) (λ_ _ q=>af _ q) (aB _) ⟨by show 3<=sizeLine;decide,_,.cons ⟨T,rfl⟩ (.cons ⟨g,rfl⟩ (.cons ⟨j,rfl⟩ .nil)),⟨_,aP _ rfl,rfl,_,rfl⟩⟩,rfl,q _ I.fresh⟩
 have f:PySem.Txt.partition z y=PySem.Txt.partition z y:=rfl
 conv at f=>rhs;unfold PySem.Txt.partition
 revert fin f;cases Builtin.Str.occurrences z y 0 z.length 1 with
 |nil=>intro fin f;exact fin _ _ _ _ _ _ _ f
 |cons i r=>intro fin f;exact fin _ _ _ _ _ _ _ f
end
end L2
namespace L3
open L2
section
variable {X:Cx}{G:Gx}{E:ER}{o e:Expr}{p pos A d:Pos}{C i:En->Prop}{h:En->Str}{y u:Str}{t:TE}{g:En->PV}{st:Stmt}{f F j l:FS}{U:TS}
def FZ {k1:Nat}{I:Pos}(x:PE X o (pO X.K G C h))(z:(y.length == 0)=false)(k:attributeBase o "partition" X.env (eval o X.env)=eval o X.env:=by rfl)
  (m:(A.endLine == d.line)=true:=by rfl):PE X (.Call (.Attribute o "partition" A) [.Constant (.str y) k1 I] [] d)
   (tX X.K G (λb=>C b/\(h b).length<=sizeLine) λb=>.tup [.str (PySem.Txt.partition (h b) y).1,.str (PySem.Txt.partition (h b) y).2.1,.str (PySem.Txt.partition (h b) y).2.2]):=
 mD (pe_bm dh PySem.F.slot_str_partition PySem.F.type_str_partition VG x (pa_cons pe_str pa_nil) k rfl m) λB L H b O Q R c q=>⟨B,b,O,R,c.1,λv J s n=>by
  have n:v=.str (h b):=n;subst n;refine⟨rfl,h b,y,rfl,rfl,z,c.2,λa r=>q _ _ (s.trans (same_new r _)) ?_⟩;have w:=R.grow s;have D:O a=false:=by
   cases y:O a with
   |false=>rfl
   |true=>exact absurd r (w.dom a y)
  exact⟨a,_,rfl,(by rw[lZ D];exact upd_same),_,_,rfl,rfl,_,_,rfl,rfl,_,_,rfl,rfl,rfl⟩⟩
def Zu {a b:Expr}{B:En->Prop}{r gb:En->Str}(J:PE X a (pO X.K G i r))(L:PE X b (pO X.K G B gb)):PT X (.Compare a [.NotEq] [b] pos) (t6 X.K G (λm=>i m/\B m) λm=>¬r m=gb m):=
 λn s O H Q I ⟨_,m,_,R,c,q⟩=>pt_cmpR op_ne J L (nomark _) n s O H Q I (two R c.1 c.2 λv u _ D M N w x=>by
  have w:v=.str (r m):=w;have x:u=.str (gb m):=x;subst w x;refine⟨rfl,_,rfl,?_⟩;have k:=q D (M.trans N);by_cases z:r m=gb m
  .simpa [z] using k
  .simpa [z] using k)
end
end L3
namespace L2
def Vd {prog:Program}{w:World}{A:Around}(b:A.handled=none)(a:Addr)(x:Str)(t:Tok):Walks prog w A a [a] [a] x.cps.size (SignAt x) (λi h=>h.IsStrIter a (strIterType x) x t i):=by
 unfold strIterType;split
 .exact Walks.strAscii b a x t
 .exact Walks.strWide b a x t
def ItT (x:Str):It:=⟨λi _=>i<x.cps.size,λi H v h=>h=H/\∃c,v=.str ⟨#[c]⟩/\x.cps[i]?=some c,λi _=>i=x.cps.size⟩
def U5 {P:Program}{w:World}{K:Fg}{S:Expr}(x:Str)(t:Tok)(g:Addr):Turn P w K S (ItT x) [g] g (λi h=>h.IsStrIter g (strIterType x) x t i) where
 mem:=by simp
 obj:=λi h a b f=>by
  have e:b=g:=by simpa using f
  subst e;obtain⟨o,e,c,d⟩:=a;exact⟨o,e,λv z=>by rw[d]at z;cases z⟩
 keep:=λi h m a k=>by obtain⟨o,O,r⟩:=a;exact⟨o,k g (by simp) o O,r⟩
 item:=by intro X B G y C i p s L H E I n a j;subst B G y;refine(Vd (I.ok.hd C) g x t).item i s _ E j a λv m J R l F=>?_;obtain⟨c,u,D,rfl⟩:=R;have M:Inv X p L H { s with heap:=m,toks:=J }:=I.uf n λb o f q=>F b o f q;obtain⟨o,e,N,d⟩:=id l;exact⟨_,rfl,go_of (s:={ s with heap:=m,toks:=J }) e N d (by unfold strIterType;split<;>decide) ⟨.str ⟨#[c]⟩,H,M,⟨_,rfl⟩,⟨rfl,c,rfl,D⟩,l,λb f=>(n b f).1⟩⟩
 done:=by intro X B G y C i p s L H E I n a j;subst B G y;have j:i=x.cps.size:=j;subst j;exact(Vd (I.ok.hd C) g x t).done s _ E a λm J F=>⟨rfl,I.uf n λb o f q=>F b o f q⟩
 self:=λA i s Q E a h=>by
  unfold strIterType at a;split at a
  .exact wpAny_pyIter_striter_ascii a h
  .exact wpAny_pyIter_striter_wide a h
def acC (t:TE):TI:=λa H R=>t a H λx h=>∃z,x=.str z/\R (ItT z) h
def aa1 {X:Cx}{g l:Expr}{c:TE}(hl:PE X l c):PI X g l (acC c):=by
 intro p s j H R I h;refine thn (hl p s j H _ I h) λv a ⟨x,d,i,r,z,e,q⟩=>?_;subst e;obtain⟨t,rfl⟩:=r;refine wpAny_pyIter_strU ?_;refine⟨a.heap.objs.size,[a.heap.objs.size],_,_,d,rfl,i.kept (t':=a.toks) λb o e=>af _ e,U5 z t _,⟨_,aP _ rfl,rfl,rfl⟩,λb f=>?_,q⟩;have e:b=a.heap.objs.size:=by simpa using f
 subst e;exact i.fpOk (aB _) (i.hok.fresh (aB _))
def O9 {X:Cx}(y:X.calm=true):CallR X (.builtin "all") (λxs H Q=>∃(a:Addr) (bs:List Bool),xs=[.ref a]/\Rd H a (.lst (bs.map V.bl))/\Q (.bl (bs.all id)) H):=by
 rintro p s M H xs L Q I F ⟨a,bs,rfl,w,q⟩;obtain⟨u,rfl,D⟩:=vals1 F;cases D;obtain⟨_,C,n,r,_,e⟩:=L3.Inv.BP I w;have f:=Np r;subst f;have l:s.heap.IsList a (bs.map Value.bool).toArray:=⟨_,e,rfl,_,rfl⟩;have j:a≠s.heap.objs.size:=aX (ay e);refine call_all_walk (wpAny_pyIter_list l ?_);refine⟨_,[s.heap.objs.size,a],[s.heap.objs.size],_,_,_,λi=>bs.getD i false,rfl,Walks.list (A:=X.A.in1) (I.ok.hd y) _ a j (bs.map Value.bool).toArray,⟨⟨_,aP _ rfl,rfl,rfl⟩,l.push _⟩,λi v s Q E c g=>?_,λJ G z=>?_⟩
 .have c:(bs.map Value.bool).toArray[i]?=some v:=c;rw[eO,aE]at c;cases f:bs[i]? with
  |none=>rw[f]at c;cases c
  |some b=>
   rw[f]at c;have c:Value.bool b=v:=aD c;subst c;have m:bs.getD i false=b:=by rw[gQ,f];rfl
   refine cD ?_;have g:Q (bs.getD i false) s:=g;rw[m]at g;exact g
 .have t:(List.range (bs.map Value.bool).toArray.size).all (λi=>bs.getD i false)=bs.all id:=by
   rw[aq,ae,d5,aR,aR];constructor
   .intro h b x;obtain⟨i,d,rfl⟩:=cQ.mp x;have:=h i (bw.mpr d);rw[gQ,aa d]at this;exact this
   .intro h i d;have d:=bw.mp d;rw[gQ,aa d];exact h _ (bI d)
  rw[t];refine⟨.bl _,H,I.kept (t':=G) λb o k=>z b o (λB=>?_) (af _ k),rfl,q⟩;have:b=s.heap.objs.size:=ap.mp B;exact absurd (ay k) (by rw[this];exact ck _)
def DP {X:Cx}:MtR X "str.startswith" (λx xs H Q=>∃z y,x=.str z/\xs=[.str y]/\Q (.bl (PySem.Txt.startswith z y)) H):=by rintro p s c H x xs v b Q I a r ⟨z,y,rfl,rfl,q⟩;obtain⟨t,rfl⟩:=a;obtain⟨u,rfl,w,rfl⟩:=vals1 r;exact SC.startswith ⟨.bl _,H,I,rfl,q⟩
end L2
namespace L3
open L2
section
variable {K:Fg}{G:Gx}{a:L2.St}{H:Hp}{Q:VK}{b C:En->Prop}{g:En->Str}{d:En->PV}{cap:List (Option Nat)}
def aea (h:yZ K G (λe=>b e/\(g e).length<=1000/\∀c∈(g e).cps.toList,C ((jy (none::cap) e).set 0 (.fr (.str ⟨#[c]⟩)))) (λe=>(g e).cps.toList.map λc=>d ((jy (none::cap) e).set 0 (.fr (.str ⟨#[c]⟩)))) a H Q) :
  QS (none::cap) (acC (pO K G b g)) (gName 0) qm (tX K G C d) a H Q:=by
 obtain⟨B,e,O,R,⟨w,y,z⟩,q⟩:=h;refine⟨B,e,O,R,w,λv J j f=>?_⟩;have f:v=.str (g e):=f;subst f;refine⟨g e,rfl,λD o=>?_⟩;refine ug (g e).cps.toList (λ_ v=>(lQ (none::cap) a).set 0 (some v)) (λc=>(jy (none::cap) e).set 0 (.fr (.str ⟨#[c]⟩))) (λc=>.str ⟨#[c]⟩) (R.grow j) o (by rw[aY];exact y) (λi H r s=>by rw[aY]at r;exact r) ?_ (λH s=>aY) (λn H _ s t=>t.set (p:=.str ⟨#[n]⟩) rfl) ?_ z ?_
 .rintro i n x H l m s ⟨rfl,c,rfl,F⟩;rw[gU,F]at m;cases m;exact⟨Same.refl _,λk E=>E⟩
 .intro n;show xP (none::lQ cap a) (some _::lQ cap a);exact lY _
 .intro l I s A u;exact q D I l (j.trans s) (j.free o) A u
end
section
variable {X:Cx}{G:Gx}{U:ER}{N':List Str}{sc:Scope}{cl:List (Str×Addr)}{cap:List (Option Nat)}{N T S a b c o:Expr}{w pos p A i:Pos}{M t r J C:En->Prop}{d:En->Str}{P g:En->PV}{D:En->List PV}{m gb n:En->Int}
def aa5 (L:uB X N' sc cl (none::cap))(j:X.calm=true)(l:PE X S (pO X.K G M d))(k:∀s H fp,PG (jC X N' sc cl s H fp) T (gName 0))(he:∀s H fp,PE (jC X N' sc cl s H fp) N (tX X.K G t P))(q:∀x,foldedSetIterable S X.env x=pure x:=by intro _;rfl) :
  PE X (.ListComp N [⟨T,S,[],0⟩] sc w) (yZ X.K G (λe=>M e/\(d e).length<=1000/\∀c∈(d e).cps.toList,t ((jy (none::cap) e).set 0 (.fr (.str ⟨#[c]⟩)))) λe=>(d e).cps.toList.map λc=>P ((jy (none::cap) e).set 0 (.fr (.str ⟨#[c]⟩)))):=
 λf s u H Q I h=>Ab L j (aa1 l) k (λ_ _ _=>oU) he q f s u H Q I (aea h)
def ZC (h:X.calm=true)(y:X.mg "all"=none)(u:PE X a (tX X.K G r λe=>.lst (D e)))(s:bootBuiltins "all"=some (.builtin "all"):=by rfl)(x:Gl X "all":=by rfl)(he:starEach [a] X.env=[(false,eval a X.env)]:=by rfl):PE X (.Call (.Name "all" p) [a] [] pos) (GF X.K G (λe=>r e/\∀q∈D e,∃b,q=.bl b) λe=>((D e).map VB).all id=true):=
 mD (pe_callB (O9 h) x y s (pa_cons u pa_nil he) (by decide) (by decide) he rfl) λB I H e O Q R c q=>⟨B,e,O,R,c.1,λv f E j=>by
  obtain⟨l,F,rfl,z,k⟩:=j;have ev:=Mm k c.2;subst ev;exact⟨l,_,rfl,jh jx z,q _ f E (by show V.bl _=V.bl (decide _);rw[cj])⟩⟩
def Eb {y:Str}{k1:Nat}{s:Pos}(l:PE X o (pO X.K G C d))(h:attributeBase o "startswith" X.env (eval o X.env)=eval o X.env:=by rfl)
  (e:(A.endLine == i.line)=true:=by rfl):PE X (.Call (.Attribute o "startswith" A) [.Constant (.str y) k1 s] [] i) (GF X.K G C λf=>PySem.Txt.startswith (d f) y=true):=
 mD (pe_bm dh fG fH DP l (pa_cons pe_str pa_nil) h rfl e) λB x H f O Q R c q=>⟨B,f,O,R,c,λv k u j=>by
  have j:v=.str (d f):=j;subst j;exact⟨rfl,d f,y,rfl,rfl,q _ k u (by show V.bl _=V.bl (decide _);rw[cj])⟩⟩
def acF:Int ⊕ List Int->List Int
 | .inr e=>e
 |_=>[]
def Vl {f:Str}{e:Expr}{ps:Ls}{j k:Nat}{Y:Addr}{pre:Str->Prop}{F:Str->Int ⊕ List Int}(oo:yX X.prog X.w X.K X.mg X.base j f ps (spX Y pre F))(hr:Room k X.A)(ha:PE X e (pO X.K G C d))(hj:j<=k:=by decide)(hg:Gl X f:=by rfl)(s:(f == ("__debug__":Str))=false:=by decide)
  (he:starEach [e] X.env=[(false,eval e X.env)]:=by rfl):PE X (.Call (.Name f p) [e] [] pos) (Hw X.K G (λh=>C h/\pre (d h)/\∃ns,F (d h)=.inr ns) λh=>acF (F (d h))):=
 Kw (lR (E:=E0) oo Uz hr (pa_cons ha pa_nil he) hj hg s he rfl) λB σ H h O Q R c q=>⟨B,h,O,R,c.1,λv H1 x l=>by
  obtain⟨c1,I,ns,L⟩:=c;have l:v=.str (d h):=l;subst l;refine⟨d h,rfl,I,λms e y a s2 na Z=>q a y (x.trans s2) (x.free na) ?_,λz u=>?_⟩
  .rw[e];exact Z
  .rw[L]at u;cases u⟩
def JW (E:PE X a (jW X.K G r m))(F:PE X b (jW X.K G t gb))(I:PE X c (jW X.K G J n))(L:lastMarks [.LtE,.LtE] [b,c]=false:=by with_unfolding_all rfl) :
  PE X (.Compare a [.LtE,.LtE] [b,c] pos) (GF X.K G (λe=>r e/\t e/\J e) λe=>m e<=gb e/\gb e<=n e):=
 mD (pe_chain op_le op_le E F I L) λB σ H e O Q R f q=>⟨B,e,O,R,f.1,λv Z s x=>⟨B,e,O,R.grow s,f.2.1,λu k h j=>by
  refine⟨m e,gb e,x,j,_,rfl,?_⟩;by_cases z:m e<=gb e
  .rw[ai (aQ z)];refine⟨B,e,O,(R.grow s).grow h,f.2.2,λw' l Y y=>⟨gb e,n e,j,y,q _ l (s.trans (h.trans Y)) ?_⟩⟩;show V.bl _=V.bl _;rw[show decide (m e<=gb e/\gb e<=n e)=decide (gb e<=n e) from by simp[z]]
  .rw[ag (by simpa using z)];refine q _ k (s.trans h) ?_;show V.bl _=V.bl _;rw[show decide (m e<=gb e/\gb e<=n e)=false from by simp[z]]⟩⟩
def nY {x z:Str}(e:Gl X x)(f:∃tk,X.mg x=some (.str z tk))(h:(x == ("__debug__":Str))=false:=by decide):PE X (.Name x pos) (pO X.K G (λ_=>True) λ_=>z):=
 mD (o7 e f h) λ_ _ H _ _ _ _ _ q=>q _ H (Same.refl H) rfl
end
def Ha (K:Fg)(G:Gx)(pre:List PV->Prop)(F:List PV->Rs):Sp:=λc H Q E=>∃b O,(∀a,O a=true->H a≠none)/\kI K G (mn H O) b c/\pre b/\(∀p,F b=.val p->∀v h,Same H h -> At K G (mn h O) p v->Q v h)/\∀C,F b=.err C->∀h,Same H h -> E (.ref C) none h
section
variable {P:Program}{w:World}{K:Fg}{mg:Mg}{base:Heap}{G:Gx}
def WT {x:Str}{st:Stmt}{N g:Ls}{k:Nat}{pre:List PV->Prop}{F:List PV->Rs}(d:lH K mg x st g)(S:FnScope N g (defScope st))(len:∀as,pre as->as.length=g.length)
  (e:∀(f:Addr) (a:Value) (A:Around) (outer:List Env) (s:Shared) (H:Hp) (E:XK),Room k (A.deeper (envOfC x (defScope st) s.heap.objs.size f a)) -> ∃fs,PSs (cxOf (sZ P w) P w K mg base N x (defScope st) f a A outer s H E) (defBody st) (ts K G (erE E) fs)/\∀as,pre as->fs { nx:=λ_=>False,rt:=λp=>F as=.val p,er:=λC=>F as=.err C } (kh N as)):yX P w K mg base (k+1) x g (Ha K G pre F):=by
 obtain⟨f,u,o,b,m⟩:=d.ex;refine⟨f,u,?_,b,o.kp,m⟩;obtain⟨T,U,kV,t,Y,an,a,R,B,rfl,lk,l⟩:=o.ex;refine fn_of lk l S (λM H Q E h=>?_) λA outer s H M Q E z h=>?_
 .obtain⟨as,O,_,j,n,_⟩:=h;rw[<- j.length];exact len as n
 obtain⟨as,O,y,j,n,q,D⟩:=h;obtain⟨fs,b,c⟩:=e f a A outer s H E z;exact⟨_,b,⟨H,O⟩,kh N as,_,⟨O,nJ y j⟩,c as n,⟨λ_ _ _ _ h=>h.elim,λv i p I r h=>q p h v i I r,λ_ _ _ _ _ _ h=>h.elim,λ_ _ _ _ _ h=>h.elim,λ_ _ _ _ h=>h,λ_ _ _ _ h=>h,λi C _ J L h=>D C h i (J.trans L)⟩⟩
end
section
variable {X:Cx}{G:Gx}{e:Expr}{a:List Expr}{pos p:Pos}{j k:Nat}{x:Str}{P:List Str}{pre:List PV->Prop}{C:En->Prop}{g:En->List PV}{F:List PV->Rs}
def Ho (o:yX X.prog X.w X.K X.mg X.base j x P (Ha X.K G pre F))(D:Room k X.A)(w:PA X (e::a) (z8 X.K G C g))(z:j<=k:=by decide)(y:Gl X x:=by rfl)(i:(x == ("__debug__":Str))=false:=by decide)
  (he:starEach (e::a) X.env=(false,eval e X.env)::starEach a X.env:=by rfl) (l:(backTo pos (starEach a X.env)).any (·.1)=false:=by rfl):PR X G (.Call (.Name x p) (e::a) [] pos) (λb=>C b/\pre (g b)) λb=>F (g b):=
 λE J d s M H Q I ⟨B,b,O,R,c,q,L⟩=>lR o J D w z y i he l d s M H Q I ⟨B,b,O,R,c.1,λS N m r=>by
  dsimp only;rw[aV];exact⟨g b,O,(R.grow m).dom,r,c.2,λp A v h n t=>q p A v h (m.trans n) t,λu f h n=>L u f h (m.trans n)⟩⟩
end
end L3
namespace L2
def j8 (x:Str)(n:Int):Str:=⟨(List.replicate n.toNat x.cps).foldl (· ++ ·) #[]⟩
section
variable {X:Cx}
def Kl:OpR X (binaryOp .Mult) (λx y H Q=>∃i n,x=.str i/\y=.int n/\1<n/\n<=1000/\0<i.length/\i.length<=1000/\(j8 i n).length<=sizeLine/\Q (.str (j8 i n)) H):=by
 rintro p s o H x y v u Q I r d ⟨i,n,rfl,rfl,j,k,g,l,c,q⟩;obtain⟨t,rfl⟩:=r;obtain⟨m,rfl⟩:=d;have b:¬n<1:=by lia
 have a:(n == 1 || i.length == 0)=false:=by rw[ia];exact⟨by rw[dR];lia,by rw[dR];lia⟩
 refine P.mul_str ?_ (λ_ _=>?_) (λ_ _=>?_) ?_
 .rw[aK (by lia),aK (by lia)];rfl
 .have e:n*1000<=2^63-1:=by lia
  have f:(1000:Int)<=(2^63-1) / n:=g6 (by lia) (by lia);lia
 .have:i.length*n.toNat<=1000*1000:=f8 l (by lia);unfold Builtin.Str.tooLong;rw[ao];exact aK (by lia)
 .rw[ag b,ag (by rw[a];decide)];exact⟨c,⟨.str (j8 i n),H,I.tok _,⟨_,rfl⟩,q⟩⟩
end
end L2
namespace L3
open L2
section
variable {X:Cx}{G:Gx}{a b e o:Expr}{pos p A i:Pos}{C f h:En->Prop}{d:En->Str}{gi:En->Int}{g:En->PV}{j:En->List PV}
def QT (r:PE X a (pO X.K G f d))(s:PE X b (jW X.K G h gi)):PE X (.BinOp a .Mult b pos) (pO X.K G (λk=>f k/\h k/\1<gi k/\gi k<=1000/\0<(d k).length/\(d k).length<=1000/\(j8 (d k) (gi k)).length<=sizeLine) λk=>j8 (d k) (gi k)):=
 mD (pe_op Kl r s) λB v H k O Q R c q=>two R c.1 c.2.1 λ_ _ _ l t u m n=>⟨_,_,m,n,c.2.2.1,c.2.2.2.1,c.2.2.2.2.1,c.2.2.2.2.2.1,c.2.2.2.2.2.2,q _ l (t.trans u) rfl⟩
end
end L3
namespace L2
def acM (K:Fg)(C:Addr)(i j:Nat)(sp:Sp)(t:TA):TS:=λD b H=>t b H λv c=>
 sp v c (λ_ d=>D.nx b d) λcls e h=>W.exmOne K cls (.ref C)=some true/\∀a,h a=none->D.nx (((b.set i (some (.ref a))).set j (some (.ref a))).set i none) (upd h a (vq a cls e))
section
variable {X:Cx}{sp:Sp}{l:List Str}{e:Expr}{E:List Expr}{t:TA}{f x n y:Str}{C:Addr}{i j k B:Nat}{fp G w pn d c P g pos:Pos}
def XS (o:∃fa fd,FnOk X.prog X.w X.K X.mg X.base (sZ X.prog X.w) B fa fd l sp/\Binds X.K fd l []/\W.keepIn X.K (.ref fa)=true/\X.mg f=some (.ref fa))(hr:Room k X.A)(hk:B<=k)(hgf:Gl X f)
  (hc:X.calm=true) (S:X.stack=X.env::X.outer) (R:X.env.frame=some X.env.locals) (hex:X.ex=[]) (hg:Gl X x) (hm:X.mg x=some (.ref C)) (hN:X.N.Nodup) (hi:X.N[i]?=some n) (hj:X.N[j]?=some y) (hln:X.env.scope.names.lookup n=some .local) (hly:X.env.scope.names.lookup y=some .local)
  (hkn:X.env.kindOf n=some .local) (hny:y≠n) (hij:i≠j)
  (ha:∀(pn:List (Addr×Obj)) (E':Value->Shared->Prop),PA { X with pn:=pn,xe:=E' } (e::E) t)
  (hst2:starEach (e::E) X.env=(false,eval e X.env)::starEach E X.env:=by rfl) (hpl:(backTo c (starEach E X.env)).any (·.1)=false:=by rfl)
  (hs:swapsWith (.Call (.Name f fp) (e::E) [] c) none P.line X.env=pure false:=by rfl) (hs2:swapsWith (.Name n pn) (some (.Name y w)) g.line X.env=pure false:=by rfl) (hdf:(f == ("__debug__":Str))=false:=by decide) (hdx:(x == ("__debug__":Str))=false:=by decide) (hdn:(n == ("__debug__":Str))=false:=by decide) (hdc:(n == ("__classdict__":Str))=false:=by decide) :
  PS X (.Try [.Expr (.Call (.Name f fp) (e::E) [] c) P] [.ExceptHandler (some (.Name x G)) (some n) [.Assign [.Name y w] (.Name n pn) g] d] [] [] pos) (acM X.K C i j sp t):=by
 intro L s Y H D I h;obtain⟨fa,fd,F,b,kp,mf⟩:=o
 let Ec:XK:=λcls dd O=>W.exmOne X.K cls (.ref C)=some true/\∀a,O a=none->D.nx (((Y.set i (some (.ref a))).set j (some (.ref a))).set i none) (upd O a (vq a cls dd))
 let E':Value->Shared->Prop:=λe s'=>∃Z U,Inv X L Y Z U/\sZ X.prog X.w X.stack Z U Ec e s'
 have pe:PE { X with pn:=X.pn++L,xe:=E' } (.Call (.Name f fp) (e::E) [] c) (λN H Q=>N=Y/\t N H λvs Z=>sp vs Z Q Ec):=by
  rintro pins' s' N O Q I' ⟨rfl,h'⟩;refine bD (ld_glob I' hgf mf ?_ hdf);refine cr (h₀:=X.base) I.ok.mod.kin kp (thn (ha _ _ c pins' s' N O _ I' h') λus U ⟨vs,Z,I1,r,q⟩=>⟨I1.kIn,?_⟩) hst2 hpl;have r2:Vals vs (us++[]):=by rw[aV];exact r
  have hl:(us++[]).length=l.length:=by rw[<- r2.length];exact F.len _ _ _ _ q
  refine cq (dS ((F.mono hk).run X.A X.stack U Z ⟨us,[]⟩ (us++[]) vs Q Ec hr I1.env0 (b U us I1.kIn hl) r2 q) λr s2 hq=>?_);cases r with
  |error e=>exact⟨Z,U,I1.adg,hq⟩
  |ok fl=>
   cases fl with
   |ret u=>exact I1.after hq
   |next=>exact False.elim hq
   |brk=>exact False.elim hq
   |cont=>exact False.elim hq
 have body:=pss_one (ps_expr (X:={ X with pn:=X.pn++L,xe:=E' }) (pos:=P) pe hs) [] s Y H { nx:=D.nx,rt:=λ_ _=>False } (I.adN _) ⟨rfl,h⟩;refine wpAny_Try_except (cU body (λf U q=>?_) λe s' q=>?_)
 .cases f with
  |next=>obtain⟨N,O,I',q⟩:=q;exact dZ ⟨N,O,I'.adg,q⟩
  |ret v=>obtain⟨_,_,_,_,_,q⟩:=q;exact q.elim
  |brk=>obtain⟨_,_,_,q⟩:=q;exact q.elim
  |cont=>obtain⟨_,_,_,q⟩:=q;exact q.elim
 .obtain⟨Z,U,I1,a,cls,dd,O,rfl,ho,hb,u,hok,F,hx1,hE⟩:=q;have nw:=λb (hb:U.heap.get? b=none)=>I1.Nq hex hb;refine Vo I1 S R hex ho hb u hok F λh3 J F3=>?_;refine wpAny_handleBy_cons (codeAny_handlers_test ?_) (by intro q;cases q);have J2:=J.mark (.ref a) X.xe;refine ld_glob (X:={ X with A:=X.A.mark (some (.ref a)),calm:=false,xe:=X.xe }) J2 hg hm ?_ hdx;obtain⟨oe,vs,T,oT,ts,hae,hcls,hrest⟩:=F3.ex;have LT:W.Looks (model X.prog X.w) h3 (typeOf (.ref a)) cls:=by rw[<- hcls];exact(bX hae).andThen .now
  have KI:X.K.In h3:=J.kIn;refine(W.exm_one KI LT hx1).here (s:={ s' with heap:=h3 }) ?_;refine codeAny_handlers_suite_as ?_;refine KZ J S R F3 nw λh4 J4 F4=>?_;obtain⟨M,vs4,T4,oT4,ts4,hae4,hcls4,hdi4,hd4,_⟩:=F4.ex;have na:=nw a F.new;have hl:X.env.locals∈frs X.stack:=by rw[S];unfold frs;rw[a9,R];exact aA
  have aL:a≠X.env.locals:=λz=>na.2.1 (by rw[z];exact hl);have aF:a∉X.fs:=λz=>na.2.1 (by rw[S];unfold frs;rw[a9,R];exact aj _ z);have Jp:Inv X (L++[(a,M)]) Y O { s' with heap:=h4 }:=J4.pins_of λp d=>by
   rcases aZ.mp d with z|z
   .exact J4.pin p (aI _ z)
   .have e:p=(a,M):=by simpa using z
    subst e;exact⟨hae4,F.un,aL,aF,λv z=>by rw[hd4]at z;cases z⟩
  have J5:=Jp.mark (.ref a) X.xe;refine store_ok (X:={ X with A:=X.A.mark (some (.ref a)),calm:=false,xe:=X.xe }) J5 hN hi (.inl hln) (v:=.ref a) rfl (λs5 J6=>?_) (.inr hln);have il:i<Y.length:=by rw[J4.len];exact(aC.mp hi).1
  have suite:∀Err:Value->Shared->Prop,PSs { X with A:=X.A.mark (some (.ref a)),calm:=false,xe:=Err } [.Assign [.Name y w] (.Name n pn) g] (tAsg (tVar i) (gName j)):=λErr=>
   pss_one (ps_set (X:={ X with A:=X.A.mark (some (.ref a)),calm:=false,xe:=Err }) (i:=j) hN hj (.inl hly) (pe_var (X:={ X with A:=X.A.mark (some (.ref a)),calm:=false,xe:=Err }) hi (.inl hln) hdn hdc) hs2 (.inr hly))
  have J6':∀Err:Value->Shared->Prop,Inv { X with A:=X.A.mark (some (.ref a)),calm:=false,xe:=Err } (L++[(a,M)]) (Y.set i (some (.ref a))) O s5:=λErr=>(J6.unmark I.ok.hd).mark _ Err;refine cU (suite _ _ s5 _ O { nx:=λσ2 H2=>σ2=(Y.set i (some (.ref a))).set j (some (.ref a))/\H2=O,rt:=λ_ _=>False } (J6' _) ⟨_,by rw[eH,ai rfl,ai il],⟨rfl,rfl⟩⟩) (λf s6 q=>?_) λ_ _ q=>q;cases f with
  |ret v=>obtain⟨_,_,_,_,_,q⟩:=q;exact q.elim
  |brk=>obtain⟨_,_,_,q⟩:=q;exact q.elim
  |cont=>obtain⟨_,_,_,q⟩:=q;exact q.elim
  |next=>obtain⟨σ2,H2,J7,rfl,rfl⟩:=q;have J7:=J7.unmark I.ok.hd;obtain⟨m,hm',hloc⟩:=J7.loc;refine wpAny_nameGoes_keeps hkn hm' (by rw[I.ok.kind];rfl) λh7 v hn7 hs7=>?_;have J8:=J7.less (t':=s6.toks+1) hN hi hloc hn7 hs7;have e8:=(J8.pin (a,M) (aI _ (aI _ (by simp)))).1;have J9:Inv X L (((Y.set i (some (.ref a))).set j (some (.ref a))).set i none) H2 { s6 with heap:=h7,toks:=s6.toks+1 }:=J8.pins_of λp d=>J8.pin p (aI _ (bV _ d));refine⟨_,_,J9.Ue (o:=vq a cls dd) F.un aL na.1 na.2.2.1 na.2.2.2 ?_,hE a F.un⟩;exact⟨⟨M,vs4,e8,hcls4,hdi4,hd4⟩,⟨M,e8⟩,λg1 g2 ⟨o,vs,q1,q2⟩ k=>⟨o,vs,k o q1,q2⟩⟩
end
end L2
namespace L3
open L2
def Uj (E:XK)(a:Addr):ER:=λc H h=>if c % 2=0 then E (.ref (c / 2)) none h else ∀d,H d=none->h d=some (.xd [("place",.int ((c / 2:Nat):Int))])->E (.ref a) (some d) h
def aas {E:XK}{a c:Addr}{H h:Hp}:Uj E a (2*c) H h ↔ E (.ref c) none h:=by unfold Uj;rw[ai (Nat.mul_mod_right 2 c),show(2*c:Nat) / 2=c from gF c (by decide)]
def aee {E:XK}{c:Addr}{z:Nat}{H h:Hp}:Uj E c (2*z+1:Nat) H h ↔ ∀d,H d=none->h d=some (.xd [("place",.int (z:Int))])->E (.ref c) (some d) h:=by unfold Uj;rw[ag (by show ¬(2*z+1) % 2=0;lia),show(2*z+1:Nat) / 2=z by lia]
def dbl:Rs->Rs
 | .val p=>.val p
 | .err c=>.err (2*c)
def Ky:Rs->(PV->Rs)->Rs
 | .val p,f=>f p
 | .err c,_=>.err c
def QK:Int ⊕ List Int->Rs
 | .inl z=>.err (2*z.toNat+1:Nat)
 | .inr n=>.val (.ints n)
def tW (K:Fg)(G:Gx)(d:Addr)(C:En->Prop)(F:En->Rs)(E:XK):TE:=λe H Q=>∃B a O,Rep K G B e H a O/\C a/\(∀p,F a=.val p->∀v h,Same H h -> At K G (mn h O) p v->Q v h)/\∀c,F a=.err c->∀b h,Same H b->Same b h -> Uj E d c b h
abbrev PQ (X:Cx)(G:Gx)(c:Addr)(e:Expr)(C:En->Prop)(F:En->Rs):Prop:=∀E,Passes (sZ X.prog X.w) X E->PE X e (tW X.K G c C F E)
def KH (K:Fg)(G:Gx)(e:Addr)(pre:List PV->Prop)(F:List PV->Rs):Sp:=λf H Q E=>∃b O,(∀a,O a=true->H a≠none)/\kI K G (mn H O) b f/\pre b/\(∀p,F b=.val p->∀v h,Same H h -> At K G (mn h O) p v->Q v h)/\∀c,F b=.err c->∀d h,Same H d->Same d h -> Uj E e c d h
abbrev Ps.dW (P:Ps):Ps:={ P with er:=λc=>P.er (2*c) }
section
variable {P:Program}{w:World}{K:Fg}{mg:Mg}{base:Heap}{G:Gx}{a:Addr}
def VF {x:Str}{st:Stmt}{N i:Ls}{k:Nat}{pre:List PV->Prop}{F:List PV->Rs}(d:lH K mg x st i)(S:FnScope N i (defScope st))(len:∀as,pre as->as.length=i.length)
  (g:∀(f:Addr) (e:Value) (A:Around) (outer:List Env) (s:Shared) (H:Hp) (E:XK),Room k (A.deeper (envOfC x (defScope st) s.heap.objs.size f e)) -> ∃fs,PSs (cxOf (sZ P w) P w K mg base N x (defScope st) f e A outer s H E) (defBody st) (ts K G (Uj E a) fs)/\∀as,pre as->fs { nx:=λ_=>False,rt:=λp=>F as=.val p,er:=λC=>F as=.err C } (kh N as)):yX P w K mg base (k+1) x i (KH K G a pre F):=by
 obtain⟨f,z,r,b,m⟩:=d.ex;refine⟨f,z,?_,b,r.kp,m⟩;obtain⟨Y,Z,kV,y,pm,an,e,U,I,rfl,lk,n⟩:=r.ex;refine fn_of lk n S (λT H Q E h=>?_) λA outer s H T Q E D h=>?_
 .obtain⟨as,O,_,l,o,_⟩:=h;rw[<- l.length];exact len as o
 obtain⟨as,O,B,l,o,q,J⟩:=h;obtain⟨fs,b,c⟩:=g f e A outer s H E D;exact⟨_,b,⟨H,O⟩,kh N as,_,⟨O,nJ B l⟩,c as o,⟨λ_ _ _ _ h=>h.elim,λv j p L u h=>q p h v j L u,λ_ _ _ _ _ _ h=>h.elim,λ_ _ _ _ _ h=>h.elim,λ_ _ _ _ h=>h,λ_ _ _ _ h=>h,λj C t M R h=>J C h t j M R⟩⟩
end
section
variable {X:Cx}{G:Gx}{S:ER}{E:XK}{b:Addr}{st:Stmt}{fs:FS}{e r L:Expr}{n:List Expr}{pos p M N:Pos}{i j k:Nat}{x y:Str}{u:List Str}{pre:List PV->Prop}{g:Str->Prop}{C J:En->Prop}{l:En->PV}{m:En->Str}{t:En->List PV}{F:List PV->Rs}{f:En->Rs}{A:Str->Int ⊕ List Int}
def Jv (h:PS X st (ts X.K G (erE E) fs)):PS X st (ts X.K G (Uj E b) λP d=>fs P.dW d):=
 λa s O H D I ⟨B,d,P,R,c,w⟩=>h a s O H D I ⟨B,d,P.dW,R,c,⟨w.nx,w.rt,w.rl,w.rn,w.bk,w.ct,λo C q v z h=>aas.mp (w.er o (2*C) q v z h)⟩⟩
def yU (o:yX X.prog X.w X.K X.mg X.base j x u (spX b g A))(hr:Room k X.A)(ha:PE X e (pO X.K G C m))(hj:j<=k:=by decide)(hg:Gl X x:=by rfl)(T:(x == ("__debug__":Str))=false:=by decide)
  (he:starEach [e] X.env=[(false,eval e X.env)]:=by rfl):PQ X G b (.Call (.Name x p) [e] [] pos) (λh=>C h/\g (m h)/\∀z,A (m h)=.inl z->0<=z) λh=>QK (A (m h)):=
 λE hx w s σ H Q I ⟨B,h,O,R,c,q,qe⟩=>lR o hx hr (pa_cons ha pa_nil he) hj hg T he rfl w s σ H Q I ⟨B,h,O,R,c.1,λv H1 U P=>by
  have P:v=.str (m h):=P;subst P;refine⟨m h,rfl,c.2.1,λns hn D a Y na L=>q (.ints ns) (by dsimp only;rw[hn];rfl) _ D (U.trans Y) ⟨a,rfl,.inl ?_⟩,λz Z D d Y nd ed=>?_⟩
  .rw[lZ]
   .exact L
   .cases y:O a with
    |false=>rfl
    |true=>exact absurd na ((R.grow U).dom a y)
  .refine aee.mp (qe _ (by dsimp only;rw[Z];rfl) H1 D U Y) d nd ?_;rw[ed,iz (c.2.2 z Z)]⟩
def Aa (o:yX X.prog X.w X.K X.mg X.base j x u (KH X.K G b pre F))(hr:Room k X.A)(ha:PA X (e::n) (z8 X.K G C t))(hj:j<=k:=by decide)(hg:Gl X x:=by rfl)(z:(x == ("__debug__":Str))=false:=by decide)
  (he:starEach (e::n) X.env=(false,eval e X.env)::starEach n X.env:=by rfl) (D:(backTo pos (starEach n X.env)).any (·.1)=false:=by rfl):PQ X G b (.Call (.Name x p) (e::n) [] pos) (λa=>C a/\pre (t a)) λa=>F (t a):=
 λE hx d s σ H Q I ⟨B,a,O,R,c,q,qe⟩=>lR o hx hr ha hj hg z he D d s σ H Q I ⟨B,a,O,R,c.1,λvs H1 P Y=>by
  dsimp only;rw[aV];exact⟨t a,O,(R.grow P).dom,Y,c.2,λp hp v h T Z=>q p hp v h (P.trans T) Z,λcc w U h s0 T=>qe cc w U h (P.trans s0) T⟩⟩
def Tf (o:yX X.prog X.w X.K X.mg X.base j x u (Ha X.K G pre F))(hr:Room k X.A)(ha:PQ X G b e C f)(hj:j<=k:=by decide)(hg:Gl X x:=by rfl)(T:(x == ("__debug__":Str))=false:=by decide)
  (he:starEach [e] X.env=[(false,eval e X.env)]:=by rfl):PQ X G b (.Call (.Name x p) [e] [] pos) (λa=>C a/\∀p,f a=.val p->pre [p]) λa=>Ky (f a) λp=>dbl (F [p]):=
 λE Z w s σ H Q I ⟨B,a,O,R,c,q,qe⟩=>lR o Z hr (pa_cons (ha E Z) pa_nil he) hj hg T he rfl w s σ H Q I ⟨B,a,O,R,c.1,λp U v H1 z a1=>by
  refine⟨[p],O,(R.grow z).dom,⟨v,[],rfl,a1,rfl⟩,c.2 p U,λp2 Y v2 d D a2=>q p2 (by dsimp only;rw[U];show dbl (F [p])=_;rw[Y];rfl) v2 d (z.trans D) a2,λP h d D=>?_⟩;exact aas.mp (qe (2*P) (by dsimp only;rw[U];show dbl (F [p])=_;rw[h];rfl) H1 d z D),λP h H0 d z D=>qe P (by dsimp only;rw[h];rfl) H0 d z D⟩
def Vc (o:yX X.prog X.w X.K X.mg X.base j x u (Ha X.K G pre F))(hr:Room k X.A)(h1:PE X r (tX X.K G J l))(ha:PQ X G b e C f)(hj:j<=k:=by decide)(hg:Gl X x:=by rfl)(Y:(x == ("__debug__":Str))=false:=by decide)
  (he:starEach [e] X.env=[(false,eval e X.env)]:=by rfl) (z:starEach [r,e] X.env=(false,eval r X.env)::starEach [e] X.env:=by rfl) (hpl:(backTo pos (starEach [e] X.env)).any (·.1)=false:=by rfl):PQ X G b (.Call (.Name x p) [r,e] [] pos) (λa=>J a/\C a/\∀p,f a=.val p->pre [l a,p]) λa=>Ky (f a) λp=>dbl (F [l a,p]):=
 λE hx D s σ H Q I ⟨B,a,O,R,c,q,qe⟩=>lR o hx hr (pa_cons h1 (pa_cons (ha E hx) pa_nil he) z) hj hg Y z hpl D s σ H Q I ⟨B,a,O,R,c.1,λv0 H0 P a0=>⟨B,a,O,R.grow P,c.2.1,λp Z v H1 d a1=>by
  refine⟨[l a,p],O,((R.grow P).grow d).dom,⟨v0,[v],rfl,At.mono (j7 d) _ _ a0,v,[],rfl,a1,rfl⟩,c.2.2 p Z,λp2 hp2 v2 w T a2=>q p2 (by dsimp only;rw[Z];show dbl (F [l a,p])=_;rw[hp2];rfl) v2 w (P.trans (d.trans T)) a2,λU h w T=>?_⟩;exact aas.mp (qe (2*U) (by dsimp only;rw[Z];show dbl (F [l a,p])=_;rw[h];rfl) H1 w (P.trans d) T),λU h H3 w d T=>qe U (by dsimp only;rw[h];rfl) H3 w (P.trans d) T⟩⟩
def zQ (h:PQ X G b e C f)(T:Passes (sZ X.prog X.w) X E):PS X (.Return (some e) pos) (ts X.K G (Uj E b) λP a=>C a/\(∀p,f a=.val p->P.rt p)/\∀c,f a=.err c->P.er c):=
 toS (ps_ret (h E T)) λB Y H a O P D R c w=>⟨B,a,O,R,c.1,λp Q v d s I=>w.rt v d _ (R.same.trans s) (At.mono (tZ R.hid) _ _ I) (c.2.1 p Q),λq o z d U s=>w.er d q z (R.same.trans U) s (c.2.2 q o)⟩
def wz (h:PQ X G b e C f)(hx:Passes (sZ X.prog X.w) X E)(Q:X.N.Nodup)(U:X.N[i]?=some y)(hy:Loc X.env.scope y)(Z:swapsWith e (some (.Name y N)) pos.line X.env=pure false:=by rfl)
  (T:X.fn y=true\/X.env.scope.names.lookup y=some .local:=by walk_at "w"):PS X (.Assign [.Name y N] e pos) (ts X.K G (Uj E b) λP a=>C a/\(∀p,f a=.val p->P.nx (a.set i (.fr p)))/\∀c,f a=.err c->P.er c):=
 toS (ps_set Q U hy (h E hx) Z T) λB σ H a O P D R c w=>⟨B,a,O,R,c.1,λp Y v d s I=>w.nx _ d _ ⟨O,(R.grow s).set I⟩ (c.2.1 p Y),λq o z d s0 s=>w.er d q z (R.same.trans s0) s (c.2.2 q o)⟩
end
section
variable {X:Cx}{G:Gx}{J:ER}{e:Expr}{E:List Expr}{C:En->Prop}{l:En->List PV}{g:List PV->Prop}{F:List PV->Rs}{f x n y:Str}{t h:Addr}{i j k u:Nat}{L:List Str}{fp M I pn s r z A pos:Pos}
def Ws (h c:Addr):Addr:=if c % 2=0 then c / 2 else h
def QM (c:Addr):PV:=if c % 2=0 then .ob 1 ((c / 2:Nat):Int) else .ob 3 ((c / 2:Nat):Int)
def S7 (hG:aak G)(hG3:GPl G h)(o:yX X.prog X.w X.K X.mg X.base u f L (KH X.K G h g F))(hr:Room k X.A)(hgf:Gl X f)(hc:X.calm=true)(hst:X.stack=X.env::X.outer)(hfr:X.env.frame=some X.env.locals)(hex:X.ex=[])(hg:Gl X x)(hm:X.mg x=some (.ref t))(hN:X.N.Nodup)(hi:X.N[i]?=some n)(hj:X.N[j]?=some y)
  (hln:X.env.scope.names.lookup n=some .local) (hly:X.env.scope.names.lookup y=some .local) (hkn:X.env.kindOf n=some .local) (hny:y≠n) (U:i≠j)
  (ha:∀(pn:List (Addr×Obj)) (E':Value->Shared->Prop),PA { X with pn:=pn,xe:=E' } (e::E) (z8 X.K G C l)) (hk:u<=k:=by decide)
  (Y:starEach (e::E) X.env=(false,eval e X.env)::starEach E X.env:=by rfl) (hpl:(backTo r (starEach E X.env)).any (·.1)=false:=by rfl)
  (hs:swapsWith (.Call (.Name f fp) (e::E) [] r) none z.line X.env=pure false:=by rfl) (hs2:swapsWith (.Name n pn) (some (.Name y I)) A.line X.env=pure false:=by rfl) (hdf:(f == ("__debug__":Str))=false:=by decide) (hdx:(x == ("__debug__":Str))=false:=by decide) (hdn:(n == ("__debug__":Str))=false:=by decide) (hdc:(n == ("__classdict__":Str))=false:=by decide) :
  PS X (.Try [.Expr (.Call (.Name f fp) (e::E) [] r) z] [.ExceptHandler (some (.Name x M)) (some n) [.Assign [.Name y I] (.Name n pn) A] s] [] [] pos)
   (ts X.K G J λP N=>C N/\g (l N)/\(∀p,F (l N)=.val p->P.nx N)/\∀c,F (l N)=.err c->W.exmOne X.K (.ref (Ws h c)) (.ref t)=some true/\N[i]?=some .un/\(∀(m:Nat) xs Z,N[m]? ≠ some (Sl.o2 xs Z))/\P.nx (N.set j (.fr (QM c)))):=by
 obtain⟨fa,fd,Fo,b,kp,mf⟩:=o.ex;refine toS (XS ⟨fa,fd,Fo,b,kp,mf⟩ hr hk hgf hc hst hfr hex hg hm hN hi hj hln hly hkn hny U ha Y hpl hs hs2 hdf hdx hdn hdc) λB σ H N O P D R c w=>⟨B,N,O,R,c.1,λvs H1 s1 a1=>?_⟩;refine⟨l N,O,(R.grow s1).dom,a1,c.2.1,λp s v H2 s2 a2=>w.nx _ H2 _ ⟨O,(R.grow s1).grow s2⟩ (c.2.2.1 p s),λS hcc H0 H2 s0 s2=>?_⟩;obtain⟨h0,h1,h2,T⟩:=c.2.2.2 S hcc;have un:∀q,(N.set j (.fr q))[i]?=some Sl.un:=λq=>by rw[bJ (br U)];exact h1
 have no:∀q (m:Nat) xs Z,(N.set j (.fr q))[m]? ≠ some (Sl.o2 xs Z):=λq m xs Z e=>by
  rcases jM e with⟨_,e,_⟩|⟨_,e⟩
  .cases e
  .exact h2 m xs Z e
 have R1:=((R.grow s1).grow s0).grow s2;unfold Ws at h0;unfold QM at T;unfold Uj;by_cases hz:S % 2=0
 .rw[ai hz]at h0 T ⊢;refine⟨h0,λa Q=>?_⟩;have oa:O a=false:=by
   cases y:O a with
   |false=>rfl
   |true=>exact absurd Q (R1.dom a y)
  have R3:=((R1.grow (same_new Q (vq a (.ref (S / 2))))).any (i:=i) h1 h2 (some (.ref a))).set (i:=j) (v:=.ref a) (p:=.ob 1 ((S / 2:Nat):Int)) ⟨a,rfl,hG.into _ a _ (by rw[lZ oa];exact upd_same)⟩;exact w.nx _ _ _ ⟨O,R3.any (i:=i) (un _) (no _) none⟩ T
 .rw[ag hz]at h0 T ⊢;refine λd nd ed=>⟨h0,λa Q=>?_⟩;have oa:O a=false:=by
   cases y:O a with
   |false=>rfl
   |true=>exact absurd Q (R1.dom a y)
  have od:O d=false:=by
   cases y:O d with
   |false=>rfl
   |true=>exact absurd nd (((R.grow s1).grow s0).dom d y)
  have da:d≠a:=λy=>by rw[y,Q]at ed;cases ed
  have R3:=((R1.grow (same_new Q (vq a (.ref h) (some d)))).any (i:=i) h1 h2 (some (.ref a))).set (i:=j) (v:=.ref a) (p:=.ob 3 ((S / 2:Nat):Int)) ⟨a,rfl,hG3.into _ a d _ (by rw[lZ oa];exact upd_same) (by rw[lZ od,upd_ne da];exact ed)⟩;exact w.nx _ _ _ ⟨O,R3.any (i:=i) (un _) (no _) none⟩ T
end
end L3
namespace L2
section
variable {X:Cx}
def rep1 (x:Str):j8 x 1=x:=by show(⟨[x.cps].foldl (· ++ ·) #[]⟩:Str)=x;simp
def Hi:OpR X (binaryOp .Mult) (λx y H Q=>∃i n,x=.str i/\y=.int n/\0<=n/\n<=1000/\0<i.length/\i.length<=1000/\Q (.str (j8 i n)) H):=by
 rintro p s A H x y v u Q I r g ⟨i,n,rfl,rfl,o,w,m,l,q⟩;obtain⟨t,rfl⟩:=r;obtain⟨z,rfl⟩:=g;by_cases h0:n=0
 .subst h0;exact P.mul_str_none (by decide) (by decide) ⟨.str (j8 i 0),H,I.tok _,⟨_,rfl⟩,q⟩
 have d:¬n<1:=by lia
 refine P.mul_str ?_ (λ_ _=>?_) (λ_ _=>?_) ?_
 .rw[aK (by lia),aK (by lia)];rfl
 .have j:(1000:Int)<=(2^63-1) / n:=g6 (by lia) (by lia);lia
 .have:i.length*n.toNat<=1000*1000:=f8 l (by lia);unfold Builtin.Str.tooLong;rw[ao];exact aK (by lia)
 .rw[ag d];by_cases c:n=1
  .subst c;rw[ai (by rfl)];exact⟨.str (j8 i 1),H,I,⟨t,by rw[rep1]⟩,q⟩
  .have b:(n == 1 || i.length == 0)=false:=by rw[ia];exact⟨by rw[dR];lia,by rw[dR];lia⟩
   rw[ag (by rw[b];decide)];refine⟨?_,⟨.str (j8 i n),H,I.tok _,⟨_,rfl⟩,q⟩⟩;have e:∀(k:Nat) (a:Array Nat),((List.replicate k i.cps).foldl (· ++ ·) a).size=a.size+k*i.length:=λk=>by
    induction k with
    |zero=>intro a;simp
    |succ k f=>intro a;rw[bF,fA,f,Array.size_append,iF];show a.size+i.length+k*i.length=_;lia
   show((List.replicate n.toNat i.cps).foldl (· ++ ·) #[]).size<=sizeLine;rw[e,ao];have:n.toNat*i.length<=1000*1000:=f8 (by lia) l;have:(#[]:Array Nat).size=0:=rfl;lia
def Ub:MtR X "str.strip" (λx xs H Q=>∃z,x=.str z/\xs=[]/\z.length<=sizeLine/\Q (.str (PySem.Txt.strip z)) H):=by rintro p s d H x xs v u Q I b r ⟨z,rfl,rfl,a,q⟩;obtain⟨t,rfl⟩:=b;cases r;exact SC.strip (λc k=>⟨.str _,H,I.tok _,⟨_,rfl⟩,q⟩) a
end
end L2
namespace L3
open L2
def lU (f b c:Addr):Gx:=⟨λk H a z=>(k=0/\Yy f b H a z)\/((k=1\/k=3)/\(k=1->∃C:Addr,z=((C:Nat):Int)/\H a=some (vq a (.ref C)))/\(k=3->∃d,H a=some (vq a (.ref c) (some d))/\H d=some (.xd [("place",.int z)]))),λ_ _ _ _ _ s h=>h.elim (λz=>.inl ⟨z.1,z.2.same s⟩) λ⟨z,g,i⟩=>.inr ⟨z,(λk=>let ⟨C,e,q⟩:=g k;⟨C,e,s _ _ q⟩),λk=>let ⟨d,e,q⟩:=i k;⟨d,s _ _ e,s _ _ q⟩⟩⟩
def Z9 {c e b:Addr}(H:Hp)(a d:Addr)(h:H a=some (.ins c d [("size",.int 0)])):(lU c e b).ob 0 H a 0:=.inl ⟨rfl,.inl (gkW H a d h).2⟩
def adJ {e c b:Addr}(H:Hp)(a d:Addr)(p:Int)(f:FM.zW p)(h:H a=some (.ins c d [("size",.int p)])):(lU e c b).ob 0 H a p:=.inl ⟨rfl,.inr (gkR H a d p f h).2⟩
def zJ {d b c:Addr}:aak (lU d b c):=⟨λH a C h=>.inr ⟨.inl rfl,(λ_=>⟨C,rfl,h⟩),λz=>absurd z (by decide)⟩,λH a z h=>h.elim (λz=>absurd z.1 (by decide)) λz=>z.2.1 rfl⟩
def wY {b a c:Addr}:GPl (lU b a c) c:=⟨λ_ _ d _ e f=>.inr ⟨.inr rfl,(λz=>absurd z (by decide)),λ_=>⟨d,e,f⟩⟩,λ_ _ _ h=>h.elim (λz=>absurd z.1 (by decide)) λz=>z.2.2 rfl⟩
def YJ (c:Addr):PV->Option Addr
 | .ob 1 z=>some z.toNat
 | .ob 3 _=>some c
 |_=>none
def oA (K:Fg)(a:Addr)(p c:PV):Bool:=match YJ a p,Lp c with
 |some C,some cv=>(W.kitOne K (.ref C) cv).getD false
 |_,_=>false
def Mq (K:Fg)(d:Addr)(p c:PV):Prop:=∃C a b,YJ d p=some C/\uz K C/\Lp c=some a/\W.kitOne K (.ref C) a=some b
def Bm {K:Fg}{a C:Addr}{p c:PV}{d:Value}{b:Bool}(h:YJ a p=some C)(e:Lp c=some d)(f:W.kitOne K (.ref C) d=some b):oA K a p c=b:=by unfold oA;rw[h,e];dsimp only;rw[f];rfl
section
variable {X:Cx}{G:Gx}{E:ER}{a b c e o:Expr}{p pos A f:Pos}{j t w C:En->Prop}{l m g:En->PV}{i:En->Str}{n:En->Str}{gi:En->Int}{k:Addr}
def qu (hG:aak G)(hP:GPl G k)(hm:X.mg "isinstance"=none)(ha:PE X a (tX X.K G j l))(hc:PE X c (tX X.K G w m))(hg:Gl X "isinstance":=by rfl)(he:starEach [a,c] X.env=(false,eval a X.env)::starEach [c] X.env:=by rfl)(S:starEach [c] X.env=[(false,eval c X.env)]:=by rfl)
  (T:(backTo pos (starEach [c] X.env)).any (·.1)=false:=by rfl) :
  PE X (.Call (.Name "isinstance" p) [a,c] [] pos) (GF X.K G (λx=>j x/\w x/\Mq X.K k (l x) (m x)) λx=>oA X.K k (l x) (m x)=true):=by
 have both:CallR X (.builtin "isinstance") (λxs H Q=>acE X.K xs H Q\/∃a c C J b d fs,xs=[.ref a,c]/\JX c=some J/\H a=some (vq a (.ref C) (some d))/\H d=some (.xd fs)/\uz X.K C/\W.kitOne X.K (.ref C) J=some b/\Q (.bl b) H):=by
  intro y s U H xs us Q I r h;rcases h with h|h
  .exact Rc y s U H xs us Q I r h
  .exact R9 y s U H xs us Q I r h
 refine mD (pe_callB both hg hm uM (pa_cons ha (pa_cons hc pa_nil S) he) (by decide) (by decide) he T) λB U H x O Q R M q=>⟨B,x,O,R,M.1,λv H1 s1 a1=>⟨B,x,O,R.grow s1,M.2.1,λu Y s2 Z=>?_⟩⟩;obtain⟨C,J,b,D,F,N,P⟩:=M.2.2;have z:=At.mono (j7 s2) _ _ a1;have ib:Q (.bl b) Y:=q _ Y (s1.trans s2) (by
  show V.bl b=V.bl (decide (oA X.K k (l x) (m x)=true));rw[Bm D N P,cj])
 generalize l x=pa at z D;unfold YJ at D;split at D
 .obtain⟨L,rfl,ob⟩:=z;obtain⟨C',rfl,hx⟩:=hG.get _ _ _ ob;cases D;exact .inl (.inr ⟨L,u,C',J,b,rfl,At.cls Z N,jx _ _ hx,F,P,ib⟩)
 .obtain⟨L,rfl,ob⟩:=z;obtain⟨d,e1,e2⟩:=hP.get _ _ _ ob;cases D;exact .inr ⟨L,u,k,J,b,d,_,rfl,At.cls Z N,jx _ _ e1,jx _ _ e2,F,P,ib⟩
 .cases D
def za (u:PE X a (pO X.K G j i))(v:PE X b (jW X.K G t gi)):PE X (.BinOp a .Mult b pos) (pO X.K G (λd=>j d/\t d/\0<=gi d/\gi d<=1000/\0<(i d).length/\(i d).length<=1000) λd=>j8 (i d) (gi d)):=
 mD (pe_op Hi u v) λB z H d O Q R c q=>two R c.1 c.2.1 λ_ _ _ h x y r s=>⟨_,_,r,s,c.2.2.1,c.2.2.2.1,c.2.2.2.2.1,c.2.2.2.2.2,q _ h (x.trans y) rfl⟩
def Ry (x:PE X o (pO X.K G C i))(h:attributeBase o "strip" X.env (eval o X.env)=eval o X.env:=by rfl)(r:(A.endLine == f.line)=true:=by rfl):PE X (.Call (.Attribute o "strip" A) [] [] f) (pO X.K G (λd=>C d/\(i d).length<=sizeLine) λd=>PySem.Txt.strip (i d)):=
 mD (pe_bm0 dh PySem.F.slot_str_strip PySem.F.type_str_strip Ub x h r) λB z H d O Q R c q=>⟨B,d,O,R,c.1,λv u y s=>by
  have s:v=.str (i d):=s;subst s;exact⟨rfl,i d,rfl,rfl,c.2,q _ u y rfl⟩⟩
def o9 (J:PE X o (pO X.K G C i))(I:PE X a (pO X.K G j n))(h:attributeBase o "startswith" X.env (eval o X.env)=eval o X.env:=by rfl)
  (s:((backTo f (starEach [a] X.env)).all (λx=>!x.1) && (backToKw f (keywordEach [] X.env)).all (λx=>x.1.isSome) && decide ([a].length+([]:List Keyword).length+(if ([]:List Keyword).isEmpty then 0 else 1)<30))=true:=by rfl)
  (r:(A.endLine == f.line)=true:=by rfl) (z:starEach [a] X.env=(false,eval a X.env)::starEach [] X.env:=by rfl):PE X (.Call (.Attribute o "startswith" A) [a] [] f) (GF X.K G (λd=>C d/\j d) λd=>PySem.Txt.startswith (i d) (n d)=true):=
 mD (pe_bm dh fG fH DP J (pa_cons I pa_nil z) h s r z rfl) λB N H d O Q R c q=>⟨B,d,O,R,c.1,λv M D u=>by
  have u:v=.str (i d):=u;subst u;refine⟨rfl,B,d,O,R.grow D,c.2,λv F L y=>?_⟩;have y:v=.str (n d):=y;subst y;exact⟨i d,n d,rfl,rfl,q _ F (D.trans L) (by show V.bl _=V.bl (decide _);rw[cj])⟩⟩
end
end L3
end
namespace jg
open PySem L2 L3 PyProof.Rows FM
def rY:FnScope ["number","divisor"] ["number"] (defScope zP):=lE
def km:FnScope ["number","size","before","rest","share_before","share","often","rest_behind","share_behind"] ["number","size"] (defScope Hg):=lE
def vf:FnScope ["number"] ["number"] (defScope p8):=lE
def Aw:FnScope ["numbers"] ["numbers"] (defScope uR):=lE
def Ae:FnScope ["kind","f","numbers"] ["kind","f"] (defScope Dc):=lE
def ou:FnScope ["kind","f","g","ones","others","sums","at","one","behind","other"] ["kind","f","g"] (defScope Ob):=lE
def Qx:FnScope ["kind","f","number"] ["kind","f","number"] (defScope Ib):=lE
def Ud:FnScope ["kind","f"] ["kind","f"] (defScope Mw):=lE
def lJ:FnScope ["kind","f","g","rest","divisor","quotient","gap","often","at","number"] ["kind","f","g"] (defScope CW):=lE
def oX:FnScope ["kind","f","g","before","rest","behind"] ["kind","f","g"] (defScope G4):=lE
def xM:FnScope ["kind","f"] ["kind","f"] (defScope rC):=lE
def zB:FnScope ["kind","f"] ["kind","f"] (defScope uI):=lE
def IK:FnScope ["kind","one","other","g"] ["kind","one","other","g"] (defScope Bo):=lE
def nH:FnScope ["kind","f","many","g","product","square","left"] ["kind","f","many","g"] (defScope HB):=lE
def lD:FnScope ["kind","f","count","g","degree","rest","rows","step"] ["kind","f","count","g"] (defScope vL):=lE
def ye:FnScope ["kind","g","degree"] ["kind","g"] (defScope Bq):=lE
def jF:FnScope ["kind","f","left","pairs","factor","found","g","often"] ["kind","f"] (defScope wK):=lE
def jr:FnScope ["kind","f","deeper","layer","pairs","often","next_layer","g"] ["kind","f"] (defScope rH):=lE
def Cv:FnScope ["length"] ["length"] (defScope wO):=lE
def yh:FnScope ["at","length","row"] ["at","length"] (defScope zA):=lE
def pK:FnScope ["kind","rows","width","wide","turn","back"] ["kind","rows"] (defScope DY):=lE
def jj:FnScope ["kind","rows","width","units","table","done","at","found"] ["kind","rows","width"] (defScope m6):=lE
def Gf:FnScope ["kind","row"] ["kind","row"] (defScope yl):=lE
def oK:FnScope ["rows","at","done","place"] ["rows","at","done"] (defScope pq):=lE
def vV:FnScope ["rows","found","done"] ["rows","found","done"] (defScope qN):=lE
def lz:FnScope ["kind","rows","at","done","factor","first"] ["kind","rows","at","done"] (defScope nu):=lE
def Aj:FnScope ["kind","row","at","first"] ["kind","row","at","first"] (defScope uO):=lE
def DX:FnScope ["kind","rows","told"] ["kind","rows"] (defScope Im):=lE
def El:FnScope ["g"] ["g"] (defScope yo):=lE
def rT:FnScope ["kind","g"] ["kind","g"] (defScope oN):=lE
def yD:FnScope ["kind","row","at"] ["kind","row","at"] (defScope tK):=lE
def wG:FnScope ["kind","g","pieces","staying","h"] ["kind","g"] (defScope s_split):=lE
def pF:FnScope ["kind","f","pairs","free","often","g"] ["kind","f"] (defScope Og):=lE
def sH:FnScope ["f","whole","content","number"] ["f"] (defScope Ms):=lE
def Gg:FnScope ["f","content_and_bare","bare","triples"] ["f"] (defScope Q8):=lE
def sI:FnScope ["f","answer"] ["f"] (defScope uP):=lE
def pD:FnScope ["f","numbers","text","power"] ["f"] (defScope Om):=lE
def qp:FnScope ["number","power","figures","ahead"] ["number","power"] (defScope wJ):=lE
def vM:FnScope ["text","reader","sums","factor"] ["text"] (defScope Gw):=lE
def yj:FnScope ["sums","factor","reader","term"] ["sums","factor","reader"] (defScope Al):=lE
def jP:FnScope ["content","pairs","text","g","often","polynomial"] ["content","pairs"] (defScope rB):=lE
def BZ:FnScope ["text","most"] ["text","most"] (defScope wQ):=lE
def G8:FnScope ["line"] ["line"] (defScope MN):=lE
def rD:FnScope ["text","answer"] ["text"] (defScope sV):=lE
def jz:FnScope ["text","halves","kind","answer"] ["text"] (defScope pX):=lE
def lO:FnScope ["text","halves","f","g"] ["text"] (defScope rE):=lE
def K7:FnScope ["_law_script","_law_k"] ["_law_script","_law_k"] (defScope DW):=lE
def R7:FnScope ["_law_found"] ["_law_found"] (defScope NQ):=lE
def qx:FnScope ["_law_number","_law_k","_law_bits","_law_tail"] ["_law_number","_law_k","_law_bits"] (defScope vX):=lE
def mj:FnScope ["_law_row","_law_cell","_law_text","_law_j","_law_k","_law_bits","_law_sign"] ["_law_row","_law_cell"] (defScope LC):=lE
def zr:FnScope ["_law_script","_law_many","_law_row","_law_k","_law_place"] ["_law_script"] (defScope YF):=lE
def oY:FnScope ["_law_text","_law_cell","_law_some","_law_lines"] ["_law_text","_law_cell"] (defScope Hl):=lE
def Gp:FnScope ["_law_text","_law_cell","_law_way","_law_ahead","_law_behind"] ["_law_text","_law_cell"] (defScope Y7):=lE
def my:FnScope ["_law_text","_law_cell","_law_more","_law_prime","_law_bad_here","_law_place","_law_way"] ["_law_text","_law_cell","_law_more","_law_prime"] (defScope su):=lE
def pA:FnScope ["_law_row","_law_cell","_law_prime","_law_some"] ["_law_row","_law_cell","_law_prime"] (defScope pU):=lE
def vg:FnScope ["_law_kept","_law_found"] ["_law_kept"] (defScope CV):=lE
def vo:FnScope ["_law_line","_law_due","_law_place","_law_kept","e"] ["_law_line","_law_due","_law_place"] (defScope Dq):=lE
def nF:FnScope ["_law_script","_law_row","_law_cell","_law_prime","_law_due","_law_text","_law_place","_law_line","_law_figures"] ["_law_script"] (defScope Do):=lE
def yN:FnScope ["self","place"] ["self","place"] (defScope rR):=lE
def Et:FnScope ["self","size"] ["self","size"] (defScope yf):=lE
def CG:FnScope ["self","number"] ["self","number"] (defScope vG):=lE
def FQ:FnScope ["self","a","b"] ["self","a","b"] (defScope yu):=lE
def Gj:FnScope ["self","a","b"] ["self","a","b"] (defScope yg):=lE
def Bj:FnScope ["self"] ["self"] (defScope uH):=lE
def yL:FnScope ["self","number"] ["self","number"] (defScope tL):=lE
def zK:FnScope ["self","a","b"] ["self","a","b"] (defScope uN):=lE
def Cu:FnScope ["self","prime"] ["self","prime"] (defScope wu):=lE
def Ar:FnScope ["self","text"] ["self","text"] (defScope uL):=lE
def xx:FnScope ["self"] ["self"] (defScope rK):=lE
def xu:FnScope ["self","signs"] ["self","signs"] (defScope rJ):=lE
def yP:FnScope ["self","signs"] ["self","signs"] (defScope sS):=lE
def rP:FnScope ["self"] ["self"] (defScope oE):=lE
def n8:FnScope ["self","factor"] ["self"] (defScope oM):=lE
def lu:FnScope ["self","figures"] ["self"] (defScope nj):=lE
def lF:FnScope ["self","power"] ["self"] (defScope oG):=lE
def lK:FnScope ["self","number"] ["self"] (defScope kJ):=lE
local macro_rules | `(tactic| walk_at "0") => `(tactic| first|omega|(dsimp only;omega)|(dsimp only [List.length_cons,List.length_nil];omega)|(simp [L2.gI,L2.start] <;> omega))
local macro_rules | `(tactic| walk_at "1") => `(tactic| first|exact tT|rfl|assumption|decide|decide +kernel|exact L2.yW (by decide)|exact L2.oO (by decide)|exact ⟨by decide,by decide +kernel⟩|exact ⟨by decide,by decide,by decide⟩|walk_at "0"|exact L2.yW ⟨by walk_at "0",by walk_at "0"⟩|exact L2.oO ⟨by walk_at "0",by walk_at "0"⟩)
local macro_rules | `(tactic| walk_at "p") => `(tactic| first|(refine ⟨?_,?_⟩ <;> walk_at "p")|walk_at "1"|(intro _;walk_at "p"))
section
variable {P:Program}{w:World}{K:Fg}{mg:Mg}{base:Heap}{cFE Y cNP cNW cNN cHP cBL cBP cBA cBT cK cW cR U:Addr}
variable (T:Top K mg cFE Y cNP cNW cNN cHP cBL cBP cBA cBT cK cW cR U)
abbrev k6 z:=L3.Sl.fr (.int z)
abbrev k7 l:=L3.Sl.fr (.ints l)
def Jx:Ok P w K mg base 1 "is_prime" ["number"] (spB 1 yes F_P):=by
 refine lH.ok T.Lj rY (λv H Q E h=>?_) (λf r A o s H v Q E B h=>?_)
 .obtain⟨u,j,rfl,_⟩:=h;rw[ae,j];rfl
 obtain⟨u,j,rfl,z,k⟩:=h;obtain⟨n,rfl⟩:=Sh j;refine⟨_,(pss_cons (KC (pw_orP (QV (jJ 0) jU) (pw_or1P (ZG (jJ 0) (zc (by rfl) T.yH)))).pt (pss_one (ps_ret pe_bl)) pss_nil) (pss_cons (NB (i:=1) rY.nd rfl k4 jU) (pss_cons (Pb aT (aaF (K5 (jJ 1) (jJ 1)) (jJ 0)) (pss_cons (KC (aaU (aa0 (jJ 0) (jJ 1)) jU) (pss_one (ps_ret pe_bl)) pss_nil) (pss_one (Yv (i:=1) rY.nd rfl k4 jU wA)))) (pss_one (ps_ret pe_bl))))),?_⟩
 have k:Q (.bl (Vv n)) H:=k;refine⟨by walk_at "p",λh=>?_,λh=>?_⟩
 .have h:n<2\/9973<n:=h;rw[DG (λq=>by have:=q.1;have:=q.2.1;lia)]at k;exact k
 have h:¬(n<2\/9973<n):=h;refine⟨by walk_at "p",λt e0=>?_⟩;have e0:t=2:=e0;subst e0;refine⟨λg l=>∃d,g=[some (.int n),some (.int d)]/\l=H/\2<=d/\d<=10000/\IW n d,λg _=>(10001-gI g 1).toNat,⟨2,rfl,rfl,by lia,by lia,λe x b=>by lia⟩,?_⟩;rintro g l ⟨d,rfl,rfl,b,y,p⟩;refine⟨⟨⟨rfl,rfl,yW ⟨?_,?_⟩⟩,rfl⟩,λc=>?_,λc=>?_⟩
 .show -(2:Int)^64<d;lia
 .show d<(2:Int)^64;lia
 .have c:d*d<=n:=c;have:=acT b;refine⟨⟨⟨rfl,rfl,by show(0:Int)<d;lia⟩,tT⟩,λa=>?_,λa=>?_⟩
  .have a:n % d=0:=a;rw[DG (λq=>q.2.2 d b c a)]at k;exact k
  .have a:¬n % d=0:=a;refine⟨rfl,tT,tT,λm e=>?_⟩;have e:m=d+1:=e;subst e;exact⟨⟨d+1,rfl,rfl,by lia,by lia,p.next a⟩,by show(10001-(d+1)).toNat<(10001-d).toNat;lia⟩
 .have c:¬d*d<=n:=c;rw[HX (.out p b (by lia) (by lia) c)]at k;exact k
def Iv:Ok P w K mg base 1 "is_prime" ["number"] (Ov K (lU cW cR cBT) (λas=>Cw as/\as.length=1/\yes (nZ as)) λas=>F_P (nZ as)):=acA (Jx T)
open Classical in
def Ht (C:Addr):List PV->Rs:=λa=>match a with
 |[.int n]=>if zW n then .val .non else .err C
 |_=>.err C
def uU:yX P w K mg base 2 "refuse_no_prime" ["number"] (spE K (lU cW cR cBT) (λas=>∃n,as=[.int n]) (Ht cNP)):=by
 refine okE T.vI vf (λ_ ⟨n,h⟩=>h▸rfl) (λf c A o s H E b=>⟨_,(iV (jn (qC (yz (xcb (Iv T) b (iQ (xv 0) iU)))) (iV (mR HW rfl T.Df (by rfl) T.ue (iQ jc iU))) je)),λas a=>?_⟩)
 obtain⟨n,rfl⟩:=a;refine⟨⟨⟨rfl,tT⟩,tT,rfl,tT⟩,λq=>?_,λq=>?_⟩
 .have q:¬Vv n=true:=q;refine⟨⟨tT,tT⟩,?_⟩;show Ht cNP [.int n]=.err cNP;exact ag λz=>q (HX z)
 .have q:¬¬Vv n=true:=q;show Ht cNP [.int n]=.val .non;exact ai (Yd.mp (cE.mp q))
def WQ (K:Fg):Sp:=λv H Q _=>∃(p C d:Addr) (z:Int),v=[.ref p,.int z]/\H p=some (.ins C d [])/\Cls K C/\NoAttr K C "size"/\Q .non (upd H p (.ins C d [("size",.int z)]))
def vz:OkC P w K mg base CX0 1 "Kind" cK "__init__" ["self","size"] (WQ K):=by
 obtain⟨f,g,F,b,c⟩:=T.Jt;refine⟨f,g,F.ok Et (λv H Q E h=>?_) (λa A o s H v Q E j h=>?_),b,c,T.S8⟩
 .obtain⟨p,C,d,z,rfl,_⟩:=h;rfl
 obtain⟨p,C,d,z,rfl,i,e,n,k⟩:=h;refine⟨_,(pss_one (ps_fld (pv 0) (jJ 1) rfl)),?_⟩;exact⟨rfl,_,rfl,p,C,d,[],rfl,i,e,n,by decide,k⟩
def xj:OkI P w K mg base CX0 2 "Wholes" cW ["self"] (Ve cW):=by
 obtain⟨f,e,F,b,c⟩:=T.CQ;refine⟨f,e,F.ok Bj (λv H Q E h=>?_) (λa A o s H v Q E i h=>?_),b,c,T.HF⟩
 .obtain⟨p,d,rfl,_⟩:=h;rfl
 obtain⟨p,d,rfl,g,k⟩:=h;refine⟨_,(pss_one (ps_expr (M9 (vz T) i pass0 (pa_cons (pv 0) (pa_cons jU pa_nil))))),?_⟩;exact⟨_,rfl,tT,p,cW,d,0,rfl,g,T.qJ,T.tU,k⟩
def Xa:Int->List Int->Int:=λz a=>match a with
 |[n]=>pl z n
 |_=>0
abbrev aaY:Int->List Int->Prop:=λ_ _=>True
def tH:KM P w K mg base 1 (Yy cW cR) "plain" 1 aaY Xa:=by
 refine⟨λH a z d=>?_⟩;rcases d with d|d
 .obtain⟨q,j,fs,e,B,r⟩:=d;subst q;refine⟨cW,j,fs,["self","number"],e,r "plain" (by decide +kernel),?_⟩;obtain⟨f,m,F,b,u⟩:=T.Ah;refine⟨f,m,F.ok yL (λv H Q E h=>?_) (λi A o s H v Q E y h=>?_),b,u,T.qJ⟩
  .obtain⟨g,c,rfl,_⟩:=h;show(g.map V.int).length+1=2;rw[ae,c]
  .obtain⟨g,c,rfl,_,_,k⟩:=h;obtain⟨n,rfl⟩:=Sh c;refine⟨_,(pss_one (ps_ret (jJ 1))),?_⟩;exact⟨rfl,k⟩
 obtain⟨q,j,fs,e,B,r⟩:=d;refine⟨cR,j,fs,["self","number"],e,r "plain" (by decide +kernel),?_⟩;obtain⟨f,m,F,b,u⟩:=T.GC;refine⟨f,m,F.ok CG (λv H Q E h=>?_) (λi A o s H v Q E y h=>?_),b,u,T.o8⟩
 .obtain⟨g,c,rfl,_⟩:=h;show(g.map V.int).length+1=2;rw[ae,c]
 .obtain⟨g,c,rfl,C,_,k⟩:=h;rcases C with⟨D,_⟩|⟨_,l,p,x,t,_⟩
  .lia
  obtain⟨n,rfl⟩:=Sh c;have k:Q (.int (pl z n)) H:=k;rw[RD q]at k;refine⟨_,(pss_one (ps_ret (pe_op op_mod (jJ 1) (pe_fld (pv 0) rfl)))),?_⟩;exact⟨rfl,_,rfl,a,cR,l,p,_,rfl,x,T.o8,T.nU,t,_,_,rfl,rfl,q,k⟩
open Classical in
def Vt (C:Addr):List Int->(List (Str×V)) ⊕ Addr:=λn=>match n with
 |[p]=>if zW p then .inl [("size",.int p)] else .inr C
 |_=>.inr C
def Je:OkI P w K mg base (sZ P w) 3 "Rests" cR ["self","prime"] (abG cR 1 (λ_=>True) (Vt cNP)):=by
 obtain⟨f,y,F,b,c⟩:=T.Eg;refine⟨f,y,?_,b,c,T.Nt⟩;obtain⟨L,M,kV,t,N,an,r,J,D,rfl,lk,i⟩:=F.ex;refine fn_of lk i Cu (λI H Q E h=>?_) λA o s H I Q E m h=>?_
 .obtain⟨x,l,n,j,rfl,_⟩:=h;show(n.map V.int).length+1=2;rw[ae,j]
 obtain⟨x,l,n,j,rfl,C,_,q,G⟩:=h;obtain⟨p,rfl⟩:=Sh j;refine⟨_,(pss_cons (ps_expr (lR (uU T) kZ m (pa_cons (jJ 1) pa_nil))) (pss_one (ps_expr (M9 (vz T) m pass0 (pa_cons (pv 0) (pa_cons (jJ 1) pa_nil)))))),?_⟩
 refine⟨rfl,[.int p],λ_=>false,(λ_ z=>by cases z),⟨_,_,rfl,rfl,rfl⟩,⟨p,rfl⟩,λu d v g e _=>?_,λk a g e=>G k ?_ g e⟩
 .have B:zW p:=by
   by_cases z:zW p
   .exact z
   .have d:Ht cNP [.int p]=.val u:=d;rw[show Ht cNP [.int p]=.err cNP from ag z]at d;cases d
  exact⟨_,rfl,rfl,x,cR,l,p,rfl,e _ _ C,T.o8,T.nU,q _ (ai B) g e⟩
 .have a:Ht cNP [.int p]=.err k:=a;by_cases z:zW p
  .rw[show Ht cNP [.int p]=.val .non from ai z]at a;cases a
  .rw[show Ht cNP [.int p]=.err cNP from ag z]at a;cases a;exact ag z
def Ss {C:Addr}{n:Int}(h:zW n):Vt C [n]=.inl [("size",.int n)]:=ai h
def YQ {C:Addr}{n:Int}(h:¬zW n):Vt C [n]=.inr C:=ag h
def Oi {c:Addr}(H:Hp)(a d:Addr)(ns:Li)(fs:List (Str×V))(_:True)(h:Vt c ns=.inl fs)(b:H a=some (.ins cR d fs)):(lU cW cR cBT).ob 0 H a (szF fs):=by
 unfold Vt at h;split at h
 .split at h
  .rename_i p e;cases h;exact adJ H a d p e b
  .cases h
 .cases h
def ksz:KSz K (lU cW cR cBT):=by
 refine⟨λH a z h=>?_⟩;rcases h with⟨_,h⟩|⟨h,_⟩
 .rcases h with⟨h0,d,fs,e,b,_⟩|⟨_,d,fs,e,b,_⟩
  .exact⟨cW,d,fs,e,T.qJ,T.tU,by rw[h0];exact b⟩
  .exact⟨cR,d,fs,e,T.o8,T.nU,b⟩
 .exact absurd h (by decide)
def Rt:Int->List Int->Int:=λz n=>match n with
 |[a,b]=>pl z (a-b)
 |_=>0
def VL:KM P w K mg base 2 (Yy cW cR) "less" 2 aaY Rt:=by
 refine⟨λH a z I=>?_⟩;obtain⟨f,i,r,b,L,N⟩:=T.HR;have F:FnOk P w K mg base CX0 2 f i ["self","a","b"] (acj (Yy cW cR) a z 2 aaY Rt):=by
  refine r.ok FQ (λS H Q E h=>?_) (λv A o s H S Q E D h=>?_)
  .obtain⟨p,l,rfl,_⟩:=h;show(p.map V.int).length+1=3;rw[ae,l]
  obtain⟨p,l,rfl,c,_,k⟩:=h;obtain⟨x,y,rfl⟩:=aaE l;have k:Q (.int (pl z (x-y))) H:=k;obtain⟨Z,g,j,O,B,J,M⟩:=(tH (P:=P) (w:=w) (base:=base) T).ex H a z c;obtain⟨f3,C,q,t,n,u⟩:=M.ex;refine⟨_,(pss_one (ps_ret (pe_meth (pv 0) u n q D t .nil pass0 (pa_cons (RN op_sub (jJ 1) (jJ 2)) pa_nil)))),?_⟩;exact⟨_,rfl,a,g,j,rfl,B,J,⟨rfl,rfl⟩,[x-y],rfl,rfl,c,tT,k⟩
 rcases id I with⟨R,d,fs,e,G,m⟩|⟨R,d,fs,e,G,m⟩
 .exact⟨cW,d,fs,["self","a","b"],e,m "less" (by decide +kernel),f,i,F,b,L,T.qJ⟩
 .exact⟨cR,d,fs,["self","a","b"],e,m "less" (by decide +kernel),f,i,F,b,N,T.o8⟩
def Nk:List Int->List Int->Prop:=λ_ i=>match i with
 |[k]=>0<=k
 |_=>False
def UG:List Int->List Int->Int:=λxs i=>match i with
 |[k]=>xs.getD k.toNat 0
 |_=>0
def Kp:Ok P w K mg base 1 "_law_cell_at" ["_law_script","_law_k"] (spS K 1 Nk UG):=by
 refine lH.ok T.Qe K7 (λv H Q E h=>?_) (λf l A o s H v Q E p h=>?_)
 .obtain⟨a,xs,g,b,rfl,_⟩:=h;show(g.map V.int).length+1=2;rw[ae,b]
 obtain⟨j,n,g,b,rfl,d,c,k⟩:=h;obtain⟨i,rfl⟩:=Sh b;have c:0<=i:=c;have k:Q (.int (n.getD i.toNat 0)) H:=k;refine⟨_,(pss_cons (KC (QV (jJ 1) (aaX 0 j (n.map V.int) T.jO)) (pss_one (ps_ret (VM 0 j n (jJ 1) (λ_ _=>rfl)))) pss_nil) (pss_one (ps_ret jU))),?_⟩
 have m:(n.map V.int).length=n.length:=ae _;refine⟨⟨rfl,⟨rfl,d⟩⟩,λq=>?_,λq=>?_⟩
 .have q:i<((n.map V.int).length:Int):=q;refine⟨⟨rfl,rfl,d,?_,?_⟩,?_⟩
  .show -(n.length:Int)<=i;lia
  .show i<(n.length:Int);lia
  .show Q (.int (n.getD (if 0<=i then i else i+n.length).toNat 0)) H;rw[ai c];exact k
 .have q:¬i<((n.map V.int).length:Int):=q;have e:n.getD i.toNat 0=0:=by rw[gQ,bQ (by lia)];rfl
  rw[e]at k;exact⟨tT,k⟩
def nM:Ok P w K mg base 1 "_law_cell_at" ["_law_script","_law_k"] (XR K (lU cW cR cBT) (L3.abt 1 Nk) λas=>UG (ac7 as) (nZ as.tail)):=acY (Kp T)
def Km (h:ns≠[])(h0:ns.getD (ns.length-1) 0=0):jw ns.dropLast=jw ns:=by
 have e:ns=ns.dropLast++[0]:=by
  have a:=cC h;have b:ns.getLast h=0:=by rw[gG];rw[gQ,aa (by have:=lP h;lia)]at h0;exact h0
  rw[b]at a;exact a.symm
 rw[e,vd,List.dropLast_concat]
def JK (h:¬(ns≠[]/\ns.getD (ns.length-1) 0=0)):jw ns=ns:=by
 by_cases c:ns=[]
 .rw[c];rfl
 .have h0:¬ns.getD (ns.length-1) 0=0:=λz=>h ⟨c,z⟩;have e:=cC c;have a:ns.getLast c≠0:=by rw[gG];rw[gQ,aa (by have:=lP c;lia)]at h0;exact h0
  rw[<- e,Am _ a]
def tQ:Ok P w K mg base 1 "cut_noughts" ["numbers"] (spM (λ_=>True) jw):=by
 refine lH.ok T.CT Aw (λy H Q E h=>?_) (λf u A r s H y Q E C h=>?_)
 .obtain⟨a,ns,rfl,_⟩:=h;rfl
 obtain⟨a,ns,rfl,x,_,q⟩:=h;refine⟨_,(pss_one (ps_while aT (pw_and (pt_truth (pv 0) (λ_=>rfl)) (pw_and1 (pt_cmpR op_eq (XN 0 (Rk jU) (λ_ _=>rfl)) jU (nomark _)))).pt (pss_one (ps_expr (pe_bm0 cZ PySem.F.slot_list_pop PySem.F.type_list_pop mt_pop (pv 0)))))),?_⟩
 refine⟨λm k j=>k=[some (.ref a)]/\∃g,m=g.length/\j=upd H a (.lst (g.map V.int))/\jw g=jw ns,⟨ns.length,rfl,ns,rfl,?_,rfl⟩,?_⟩
 .funext b;by_cases c:b=a
  .rw[c,upd_same,x]
  .rw[upd_ne c]
 rintro m k j ⟨rfl,g,rfl,rfl,p⟩;refine⟨_,rfl,_,.inl ⟨_,SqL.of upd_same,rfl⟩,?_⟩;by_cases c:g=[]
 .subst c;refine iteF ?_;refine iteF ?_;refine q _ (λb o n e=>?_) ?_
  .rw[upd_ne n];exact e
  .rw[upd_same,<- p];rfl
 .have t:=lP c;have v:(!(g.map V.int).isEmpty)=true:=by cases g<;>simp at c ⊢
  rw[v];refine iteT ?_;refine⟨tT,a,g,g.getD (g.length-1) 0,rfl,SqL.of upd_same,?_,?_⟩
  .have z:=getD_at (ns:=g) (i:=-1) (by lia) (by lia);show atI (g.map V.int) (-1)=_;rw[z,ag (by lia)];have:(-1+(g.length:Int)).toNat=g.length-1:=by lia
   rw[this]
  refine⟨tT,rfl,_,rfl,?_⟩;by_cases d:g.getD (g.length-1) 0=0
  .have l:decide (V.int (g.getD (g.length-1) 0)=V.int 0)=true:=aQ (by rw[d]);rw[l];refine iteT ?_;refine⟨λk j=>k=[some (.ref a)]/\j=upd H a (.lst (g.dropLast.map V.int)),?_,?_⟩
   .rintro B j ⟨rfl,rfl⟩;refine⟨g.dropLast.length,by rw[hO];lia,rfl,_,rfl,rfl,?_⟩;rw[<- p];exact Km c d
   .refine⟨_,rfl,.inl ⟨rfl,_,SqL.of upd_same⟩,a,_,V.int (g[g.length-1]'(by lia)),rfl,rfl,upd_same,?_,rfl,?_⟩
    .rw[ae,aE,aa (by lia)];rfl
    .rw[upd_upd,List.map_dropLast]
  .have l:decide (V.int (g.getD (g.length-1) 0)=V.int 0)=false:=aK (by intro z;exact d (by injection z));rw[l];refine iteF ?_;refine q _ (λb o n e=>?_) ?_
   .rw[upd_ne n];exact e
   .rw[upd_same,<- p,JK λz=>d z.2]
def ju:Ok P w K mg base 2 "trimmed" ["kind","f"] (Qf K (lU cW cR cBT) (λas=>∃z f,as=[.ob 0 z,.ints f]/\f.length<=1000) λas=>match as with|[.ob 0 z,.ints f]=>jw (f.map (pl z))|_=>[]):=by
 refine Uk T.Qh Ae (λ_ ⟨a,b,h,_⟩=>h▸rfl) (λf g A o s H E c=>⟨_,(iR (Ye (i:=2) Ae.nd rfl rfl (N':=["number","kind"]) (cap:=[some 0]) (oH rfl rfl rfl rfl ⟨⟨rfl,.inr (.inl rfl),JC,.inl rfl,_,rfl,rfl⟩,tT⟩ ⟨rfl,tT⟩ rfl) rfl (xl 1) (λ_ _ _=>(qD 0)) (λ_ _ _=>(wM 1 (tH T) c (iQ (xn 0) iU))) rfl) (iR (Nr 2 (tQ T) c) (iV (Be 2)))),λas k=>?_⟩)
 obtain⟨z,f,rfl,j⟩:=k;refine⟨⟨rfl,j,λn _=>⟨rfl,⟨rfl,tT⟩,tT,tT⟩⟩,λd e=>?_⟩;have e:d=f.map (pl z):=e;refine⟨rfl,tT,rfl,?_⟩;show jw d=jw (f.map (pl z));rw[e]
inductive qO where
 |start|sign|num (k:Nat)|zero|x|caret|one (d:Nat)|two|behind
def isF (c:Nat):Bool:=decide (48<=c) && decide (c<=57)
def YS:qO->Nat->Option qO
 | .start,c=>some (if c=48 then .zero else .num 1)
 | .sign,c=>some (if c=48 then .zero else .num 1)
 | .num k,_=>if k<100 then some (.num (k+1)) else none
 | .caret,c=>some (.one (c-48))
 | .one d,c=>if (0<d/\d<4)\/(d=4/\c=48) then some .two else none
 |_,_=>none
def nxB:qO->Option qO
 | .start=>some .start
 | .sign=>some .sign
 | .caret=>none
 |_=>some .behind
def nxS:qO->Option qO
 | .sign=>none
 | .caret=>none
 |_=>some .sign
def nxX:qO->Option qO
 | .start=>some .x
 | .sign=>some .x
 | .num _=>some .x
 | .zero=>some .x
 |_=>none
def nxC:qO->Option qO
 | .x=>some .caret
 |_=>none
def vO (s:qO)(c:Nat):Option qO:=
 if isF c then YS s c else if c=32 then nxB s else if c=43\/c=45 then nxS s else if c=120 then nxX s else if c=94 then nxC s else none
def CK:qO->Bool
 | .start=>false
 | .sign=>false
 | .caret=>false
 |_=>true
def pQ:qO->List Nat->Option Nat
 |s,[]=>if CK s then none else some 0
 |s,c::r=>match vO s c with
  |none=>some (r.length+1)
  |some a=>pQ a r
inductive Rr (α:Type) where
 |ok (a:α) (r:List Nat)|bad (m:Nat)
def jk:List Nat->List Nat
 |[]=>[]
 |c::r=>if c=32 then jk r else c::r
def lW:Nat->List Nat->List Nat×List Nat
 |0,l=>([],l)
 |_+1,[]=>([],[])
 |m+1,c::r=>if isF c then(c::(lW m r).1,(lW m r).2) else([],c::r)
def mY:List Nat->Rr (List Nat)
 |[]=>.bad 0
 |c::r=>if isF c then(if c=48 then .ok [48] r else .ok (c::(lW 99 r).1) (lW 99 r).2) else .bad (r.length+1)
def ni:List Nat->Rr (List Nat)
 |[]=>.bad 0
 |[c]=>if isF c then .ok [c] [] else .bad 1
 |c::c'::r=>if isF c then(if c≠48/\isF c'=true/\10*(c-48)+(c'-48)<=40 then .ok [c,c'] r else .ok [c] (c'::r)) else .bad (r.length+2)
abbrev qz:=List Nat×Option (List Nat)
def oJ (ds:List Nat):List Nat->Rr qz
 |[]=>.ok (ds,some []) []
 |c::r=>if c=94 then(match ni r with
  | .bad m=>.bad m
  | .ok p a=>.ok (ds,some p) a) else .ok (ds,some []) (c::r)
def qi (ds:List Nat):List Nat->Rr qz
 |[]=>.ok (ds,none) []
 |c::r=>if c=120 then oJ ds r else .ok (ds,none) (c::r)
def lA:List Nat->Rr qz
 |[]=>.bad 0
 |c::r=>if c=120 then oJ [] r else match mY (c::r) with
  | .bad m=>.bad m
  | .ok d a=>qi d a
def BK:Nat->List Nat->Except Nat (List (Bool×qz))
 |0,_=>.ok []
 |n+1,l=>match jk l with
  |[]=>.ok []
  |c::r=>if c=43\/c=45 then(match lA (jk r) with
   | .bad m=>.error m
   | .ok t a=>match BK n a with
    | .error m=>.error m
    | .ok ts=>.ok ((decide (c=45),t)::ts)) else .error (r.length+1)
def K8 (g:Bool)(l:List Nat):Except Nat (List (Bool×qz)):=match lA l with
 | .bad m=>.error m
 | .ok t r=>match BK (r.length+1) r with
  | .error m=>.error m
  | .ok ts=>.ok ((g,t)::ts)
def Jg (l:List Nat):Except Nat (List (Bool×qz)):=match jk l with
 |[]=>K8 false []
 |c::r=>if c=43\/c=45 then K8 (decide (c=45)) (jk r) else K8 false (c::r)
def S9 {a:Type}:Except Nat a->Option Nat
 | .error m=>some m
 | .ok _=>none
def Za (s:qO):vO s 32=nxB s:=rfl
def Vg {s:qO}{c:Nat}(h:c=43\/c=45):vO s c=nxS s:=by rcases h with rfl|rfl<;>rfl
def sU {s:qO}(h:nxB s=some s):∀l,pQ s l=pQ s (jk l)
 |[]=>rfl
 |c::r=>by
  unfold jk;split
  .rename_i e;subst e;rw[<- sU h r,pQ,Za,h]
  .rfl
structure Pn (s:qO)(l:List Nat):Prop where
 e:CK s=true
 h:∀c r,l=c::r->vO s c=vO .behind c
def Pn.to {s:qO}{l:List Nat}(k:Pn s l):pQ s l=pQ .behind l:=by
 cases l with
 |nil=>unfold pQ;rw[k.e];rfl
 |cons c r=>unfold pQ;rw[k.h c r rfl]
def Tg (k:Nat)(b:1<=k):∀(m:Nat) (l:List Nat),k+m=100->∃a,1<=a/\pQ (.num k) l=pQ (.num a) (lW m l).2/\∀c r,(lW m l).2=c::r->isF c=true->a=100:=by
 intro m
 induction m generalizing k with
 |zero=>exact λl h=>⟨k,b,rfl,λ_ _ _ _=>by lia⟩
 |succ m i=>
  intro l h;cases l with
  |nil=>exact⟨k,b,rfl,λ_ _ e=>by cases e⟩
  |cons c r=>
   by_cases q:isF c=true
   .obtain⟨a,d,f,g⟩:=i (k+1) (by lia) r (by lia);refine⟨a,d,?_,?_⟩
    .simp only[lW,q,iM];rw[<- f,pQ,vO,ai q,YS,ai (by lia)]
    .simp only[lW,q,iM];exact g
   .refine⟨k,b,by simp only[lW,q];rfl,λj n e=>?_⟩;simp only[lW,q]at e;cases e;exact λz=>absurd z q
def Fits (s:qO)(l:List Nat)(q:Rr qz):Prop:=match q with
 | .bad m=>pQ s l=some m
 | .ok _ r=>pQ s l=pQ .behind r
def wI {s:qO}{c:Nat}(h:nxB s=some .behind)(d:nxS s=some .sign)(b:isF c=true->YS s c=none)(e:c=120->nxX s=none)(a:c=94->nxC s=none):vO s c=vO .behind c:=by
 unfold vO;split
 .rename_i q;rw[b q];rfl
 .split
  .rw[h];rfl
  .split
   .rw[d];rfl
   .split
    .rename_i q;rw[e q];rfl
    .split
     .rename_i q;rw[a q];rfl
     .rfl
def wy {s:qO}{c:Nat}{r:List Nat}(h:vO s c=none):pQ s (c::r)=some (r.length+1):=by unfold pQ;rw[h]
def lB {s s':qO}{c:Nat}{r:List Nat}(h:vO s c=some s'):pQ s (c::r)=pQ s' r:=by rw[pQ,h]
def Yl:∀l:List Nat,match ni l with
  | .bad m=>pQ .caret l=some m
  | .ok _ r=>pQ .caret l=pQ .behind r:=by
 intro l;have n:∀c,isF c=false->vO .caret c=none:=λc q=>by
  unfold vO;rw[ag (by rw[q];exact aJ)]
  repeat' split
  all_goals rfl
 have one:∀c,isF c=true->vO .caret c=some (.one (c-48)):=λc q=>by unfold vO;rw[ai q];rfl
 match l with
 |[]=>rfl
 |[c]=>
  unfold ni;dsimp only;by_cases q:isF c=true
  .rw[ai q,lB (one c q)];rfl
  .rw[ag q];exact wy (n c (Bool.not_eq_true _ ▸ q))
 |c::c'::r=>
  unfold ni;dsimp only;by_cases q:isF c=true
  case neg=>rw[ag q];exact wy (n c (Bool.not_eq_true _ ▸ q))
  case pos=>
   rw[ai q];have a:48<=c/\c<=57:=by simpa [isF] using q
   by_cases z:c≠48/\isF c'=true/\10*(c-48)+(c'-48)<=40
   .rw[ai z];have h:48<=c'/\c'<=57:=by simpa [isF] using z.2.1
    have e:vO (.one (c-48)) c'=some .two:=by unfold vO;rw[ai z.2.1,YS,ai (by lia)]
    show pQ .caret (c::c'::r)=pQ .behind r;rw[lB (one c q),lB e];exact(Pn.to ⟨rfl,λc r _=>wI rfl rfl (λ_=>rfl) (λ_=>rfl) λ_=>rfl⟩)
   .rw[ag z];show pQ .caret (c::c'::r)=pQ .behind (c'::r);rw[lB (one c q)];refine(Pn.to ⟨rfl,λd b e=>?_⟩);cases e;refine wI rfl rfl (λf=>?_) (λ_=>rfl) λ_=>rfl;have h:48<=c'/\c'<=57:=by simpa [isF] using f
    rw[YS,ag];intro y;exact z ⟨by lia,f,by lia⟩
def Zd (ds:List Nat):∀l:List Nat,Fits .x l (oJ ds l)
 |[]=>rfl
 |c::r=>by
  unfold oJ;dsimp only;by_cases z:c=94
  .subst z;have e:=Yl r;have a:pQ .x (94::r)=pQ .caret r:=lB rfl;rw[ai rfl];cases q:ni r with
   |bad m=>rw[q]at e;exact a.trans e
   |ok p b=>rw[q]at e;exact a.trans e
  .rw[ag z];exact Pn.to ⟨rfl,λd b e=>by cases e;exact wI rfl rfl (λ_=>rfl) (λ_=>rfl) λy=>absurd y z⟩
def Ia {s:qO}(h:s=.zero\/∃k,s=.num k)(ds:List Nat):∀l:List Nat,(∀c r,l=c::r->isF c=true->YS s c=none)->Fits s l (qi ds l)
 |[],_=>by rcases h with rfl|⟨k,rfl⟩<;>rfl
 |c::r,hd=>by
  unfold qi;dsimp only;by_cases z:c=120
  .subst z;have e:=Zd ds r;have a:pQ s (120::r)=pQ .x r:=lB (by rcases h with rfl|⟨k,rfl⟩<;>rfl);rw[ai rfl];unfold Fits at e ⊢;rw[a];exact e
  .rw[ag z];refine Pn.to ⟨by rcases h with rfl|⟨k,rfl⟩<;>rfl,λd b e=>?_⟩;cases e;exact wI (by rcases h with rfl|⟨k,rfl⟩<;>rfl) (by rcases h with rfl|⟨k,rfl⟩<;>rfl) (hd c r rfl) (λy=>absurd y z) (λ_=>by rcases h with rfl|⟨k,rfl⟩<;>rfl)
def Jo {s:qO}(h:s=.start\/s=.sign):∀l:List Nat,(∀c r,l=c::r->c≠32/\(s=.start->¬(c=43\/c=45)))->Fits s l (lA l)
 |[],_=>by rcases h with rfl|rfl<;>rfl
 |c::r,hd=>by
  obtain⟨i,j⟩:=hd c r rfl;unfold lA;dsimp only;by_cases z:c=120
  .subst z;have e:=Zd [] r;have g:pQ s (120::r)=pQ .x r:=lB (by rcases h with rfl|rfl<;>rfl);rw[ai rfl];unfold Fits at e ⊢;rw[g];exact e
  .rw[ag z];cases q:isF c with
   |false=>
    have e:mY (c::r)=.bad (r.length+1):=by unfold mY;dsimp only;rw[ag (by rw[q];exact aJ)]
    rw[e];refine wy ?_;unfold vO;rw[ag (by rw[q];exact aJ),ag i];by_cases y:c=43\/c=45
    .rw[ai y];rcases h with rfl|rfl
     .exact absurd y (j rfl)
     .rfl
    .rw[ag y,ag z];split
     .rcases h with rfl|rfl<;>rfl
     .rfl
   |true=>
    have b:vO s c=some (if c=48 then .zero else .num 1):=by unfold vO;rw[ai q];rcases h with rfl|rfl<;>rfl
    by_cases y:c=48
    .have e:mY (c::r)=.ok [48] r:=by unfold mY;dsimp only;rw[ai q,ai y]
     rw[e];rw[ai y]at b;have a:=Ia (.inl rfl) [48] r λ_ _ _ _=>rfl;show Fits s (c::r) (qi [48] r);unfold Fits at a ⊢;rw[lB b];exact a
    .have e:mY (c::r)=.ok (c::(lW 99 r).1) (lW 99 r).2:=by unfold mY;dsimp only;rw[ai q,ag y]
     rw[e];rw[ag y]at b;obtain⟨k,p,m,n⟩:=Tg 1 (aB _) 99 r rfl;have a:=Ia (.inr ⟨k,rfl⟩) (c::(lW 99 r).1) (lW 99 r).2 λd o e f=>by rw[YS,n d o e f,ag (by lia)]
     show Fits s (c::r) (qi (c::(lW 99 r).1) (lW 99 r).2);unfold Fits at a ⊢;rw[lB b,m];exact a
def nG:∀{l:List Nat} {c:Nat} {r:List Nat},jk l=c::r->c≠32
 |[],_,_,h=>by cases h
 |d::l,c,r,h=>by
  unfold jk at h;split at h
  .exact nG h
  .rename_i q;cases h;exact q
def kY:∀l:List Nat,(jk l).length<=l.length
 |[]=>aB _
 |d::l=>by
  unfold jk;split
  .exact aG (kY l) (bO _)
  .exact aB _
def Jq:∀(m:Nat) (l:List Nat),(lW m l).2.length<=l.length
 |0,_=>aB _
 |_+1,[]=>aB _
 |m+1,c::r=>by
  unfold lW;split
  .exact aG (Jq m r) (bO _)
  .exact aB _
def Qp {l p r:List Nat}(h:ni l=.ok p r):r.length<=l.length:=by
 unfold ni at h;split at h
 .cases h
 .split at h
  .cases h;exact bA _
  .cases h
 .split at h
  .split at h
   .cases h;exact aG (bO _) (bO _)
   .cases h;exact bO _
  .cases h
def Dj {ds l r:List Nat}{t:qz}(h:oJ ds l=.ok t r):r.length<=l.length:=by
 unfold oJ at h;split at h
 .cases h;exact aB _
 .split at h
  .split at h
   .cases h
   .rename_i e;cases h;exact aG (Qp e) (bO _)
  .cases h;exact aB _
def Qd {ds l r:List Nat}{t:qz}(h:qi ds l=.ok t r):r.length<=l.length:=by
 unfold qi at h;split at h
 .cases h;exact aB _
 .split at h
  .exact aG (Dj h) (bO _)
  .cases h;exact aB _
def O5 {ds l r:List Nat}(h:mY l=.ok ds r):r.length<=l.length:=by
 unfold mY at h;split at h
 .cases h
 .split at h
  .split at h
   .cases h;exact bO _
   .cases h;exact aG (Jq _ _) (bO _)
  .cases h
def qH {l r:List Nat}{t:qz}(h:lA l=.ok t r):r.length<=l.length:=by
 unfold lA at h;split at h
 .cases h
 .split at h
  .exact aG (Dj h) (bO _)
  .split at h
   .cases h
   .rename_i e;exact aG (Qd h) (O5 e)
def Nh:∀(n:Nat) (l:List Nat),l.length<n->pQ .behind l=S9 (BK n l)
 |0,_,h=>absurd h (fJ _)
 |n+1,l,h=>by
  rw[sU rfl];have a:=kY l;unfold BK;cases q:jk l with
  |nil=>rfl
  |cons c r=>
   rw[q]at a;have g:=nG q;have a:r.length+1<=l.length:=a;dsimp only;by_cases z:c=43\/c=45
   .rw[ai z,lB (s':=.sign) (by rw[Vg z];rfl),sU rfl];have f:=Jo (.inr rfl) (jk r) λd b e=>⟨nG e,λy=>nomatch y⟩;have k:=kY r;unfold Fits at f;cases e:lA (jk r) with
    |bad m=>rw[e]at f;exact f
    |ok t b=>rw[e]at f;have i:=qH e;have j:=Nh n b (by lia);dsimp only at f ⊢;rw[f,j];cases BK n b <;> rfl
   .rw[ag z];refine wy ?_;unfold vO;split
    .rfl
    .repeat' split
     all_goals (first|rfl|lia)
def Ej {s:qO}(b:s=.start\/s=.sign)(g:Bool){l:List Nat}(h:∀c r,l=c::r->c≠32/\(s=.start->¬(c=43\/c=45))):pQ s l=S9 (K8 g l):=by
 have f:=Jo b l h;unfold Fits at f;unfold K8;cases e:lA l with
 |bad m=>rw[e]at f;exact f
 |ok t a=>rw[e]at f;dsimp only at f ⊢;rw[f,Nh _ a (cg _)];cases BK (a.length+1) a <;> rfl
def LQ (l:List Nat):pQ .start l=S9 (Jg l):=by
 rw[sU rfl];unfold Jg;cases q:jk l with
 |nil=>exact Ej (.inl rfl) false λ_ _ e=>nomatch e
 |cons c r=>
  have h:=nG q;dsimp only;by_cases z:c=43\/c=45
  .rw[ai z,lB (s':=.sign) (by rw[Vg z];rfl),sU rfl];exact Ej (.inr rfl) _ λd a e=>⟨nG e,λy=>nomatch y⟩
  .rw[ag z];exact Ej (.inl rfl) false λd a e=>by cases e;exact⟨h,λ_=>z⟩
def tO (l:List Nat):List Nat:=l.filter λc=>!(c == 32)
def yM (l:List Nat):List Nat:=l.flatMap λc=>if c=45 then[43,45] else[c]
def rW:List Nat->List (List Nat)
 |[]=>[[]]
 |c::r=>if c=43 then[]::rW r else(c::(rW r).headD [])::(rW r).tail
def uK (l:List Nat):List (List Nat):=rW (yM (tO l))
def Vu:qz->List Nat
 |(ds,none)=>ds
 |(ds,some [])=>ds++[120]
 |(ds,some (p::ps))=>ds++120::94::p::ps
def Vq (t:Bool×qz):List Nat:=if t.1 then 45::Vu t.2 else Vu t.2
def fv (ds:List Nat):Nat:=ds.foldl (λa c=>10*a+(c-48)) 0
structure rM (t:qz):Prop where
 lW:∀c∈t.1,isF c=true
 few:t.1.length<=100
 some:t.1=[]->t.2≠none
 pow:∀ps,t.2=.some ps->(∀c∈ps,isF c=true)/\ps.length<=2/\fv ps<=40
def mZ {c:Nat}:isF c=true ↔ 48<=c/\c<=57:=by simp[isF]
def Oj:∀(m:Nat) (l:List Nat),l=(lW m l).1++(lW m l).2/\(∀c∈(lW m l).1,isF c=true)/\(lW m l).1.length<=m
 |0,_=>⟨rfl,(λ_ h=>by cases h),aB _⟩
 |_+1,[]=>⟨rfl,(λ_ h=>by cases h),bA _⟩
 |m+1,c::r=>by
  obtain⟨b,e,f⟩:=Oj m r;unfold lW;split
  .rename_i q;refine⟨by rw[bY,<- b],λd a=>?_,Nat.succ_le_succ f⟩;rcases aw.mp a with rfl|a
   .exact q
   .exact e d a
  .exact⟨rfl,(λ_ h=>by cases h),bA _⟩
def Hm {l p r:List Nat}(h:ni l=.ok p r):l=p++r/\p≠[]/\(∀c∈p,isF c=true)/\p.length<=2/\fv p<=40:=by
 have one:∀c,isF c=true->fv [c]<=40:=λc q=>by have:=mZ.mp q;show 10*0+(c-48)<=40;lia
 unfold ni at h;split at h
 .cases h
 .split at h
  .rename_i q;cases h;exact⟨rfl,(λz=>nomatch z),(λd a=>by rw[ap.mp a];exact q),bO _,one _ q⟩
  .cases h
 .split at h
  .rename_i q;split at h
   .rename_i z;cases h;refine⟨rfl,(λz=>nomatch z),λd a=>?_,aB _,?_⟩
    .rcases aw.mp a with rfl|a
     .exact q
     .rw[ap.mp a];exact z.2.1
    .have:=z.2.2;unfold fv;simp only[fA,List.foldl_nil];lia
   .cases h;exact⟨rfl,(λz=>nomatch z),(λd a=>by rw[ap.mp a];exact q),bO _,one _ q⟩
  .cases h
def Jj {ds l r:List Nat}{t:qz}(h:oJ ds l=.ok t r)(b:∀c∈ds,isF c=true)(hl:ds.length<=100):ds++120::l=Vu t++r/\rM t:=by
 have e0:rM (ds,some []):=⟨b,hl,λ_=>(λz=>nomatch z),λa e=>by cases e;exact⟨(λ_ h=>by cases h),by decide,by decide⟩⟩;unfold oJ at h;split at h
 .cases h;exact⟨by show _=ds++[120]++[];rw[aV],e0⟩
 .split at h
  .rename_i z;split at h
   .cases h
   .rename_i a j e;cases h;obtain⟨d,f,g⟩:=Hm e;cases a with
    |nil=>exact absurd rfl f
    |cons p a=>refine⟨?_,b,hl,λ_=>(λz=>nomatch z),λi e=>by cases e;exact g⟩;show _=ds++120::94::p::a++r;rw[z,d];simp
  .cases h;exact⟨by show _=ds++[120]++_;simp,e0⟩
def Tv {ds l r:List Nat}{t:qz}(h:qi ds l=.ok t r)(a:∀c∈ds,isF c=true)(hl:ds.length<=100)(b:ds≠[]):ds++l=Vu t++r/\rM t:=by
 have e0:rM (ds,none):=⟨a,hl,λz=>absurd z b,λp e=>nomatch e⟩;unfold qi at h;split at h
 .cases h;exact⟨rfl,e0⟩
 .split at h
  .rename_i z;rw[z];exact Jj h a hl
  .cases h;exact⟨rfl,e0⟩
def I8 {ds l r:List Nat}(h:mY l=.ok ds r):l=ds++r/\ds≠[]/\(∀c∈ds,isF c=true)/\ds.length<=100:=by
 unfold mY at h;split at h
 .cases h
 .rename_i c g;split at h
  .rename_i q;split at h
   .rename_i z;cases h;exact⟨by rw[z];rfl,(λz=>nomatch z),(λd a=>by rw[ap.mp a];decide),by decide⟩
   .cases h;obtain⟨b,e,f⟩:=Oj 99 g;refine⟨by rw[bY,<- b],(λz=>nomatch z),λd a=>?_,Nat.succ_le_succ f⟩;rcases aw.mp a with rfl|a
    .exact q
    .exact e d a
  .cases h
def Bd {l r:List Nat}{t:qz}(h:lA l=.ok t r):l=Vu t++r/\rM t:=by
 unfold lA at h;split at h
 .cases h
 .split at h
  .rename_i z;rw[z];exact Jj (ds:=[]) h (λ_ h=>by cases h) (bA _)
  .split at h
   .cases h
   .rename_i ds f e;obtain⟨a,b,c,d⟩:=I8 e;rw[a];exact Tv h c d b
def Plain (w:List Nat):Prop:=∀c∈w,c≠32/\c≠43/\c≠45
def Jm {t:qz}(g:rM t):Plain (Vu t):=by
 have h:∀c,isF c=true->c≠32/\c≠43/\c≠45:=λc q=>by have:=mZ.mp q;lia
 obtain⟨d,o⟩:=t;intro c a
 match o with
 |none=>exact h c (g.lW c a)
 |some []=>
  rcases aZ.mp a with q|q
  .exact h c (g.lW c q)
  .rw[ap.mp q];decide
 |some (p::ps)=>
  rcases aZ.mp a with q|q
  .exact h c (g.lW c q)
  .rcases aw.mp q with rfl|q
   .decide
   .rcases aw.mp q with rfl|q
    .decide
    .exact h c ((g.pow _ rfl).1 c q)
def Nv (l:List Nat):rW l≠[]:=by
 cases l with
 |nil=>exact λz=>nomatch z
 |cons c r=>unfold rW;split<;>exact λz=>nomatch z
def xT:∀(w r:List Nat),Plain w->uK (w++r)=(w++(uK r).headD [])::(uK r).tail
 |[],r,_=>by
  cases e:uK r with
  |nil=>exact absurd e (Nv _)
  |cons p m=>exact e
 |c::w,r,h=>by
  obtain⟨f,g,j⟩:=h c aA;have i:=xT w r λd k=>h d (aj _ k);have a:tO (c::w++r)=c::tO (w++r):=by unfold tO;rw[bY,gA (by simpa using f)]
  have b:∀l,yM (c::l)=c::yM l:=λl=>by unfold yM;rw[List.flatMap_cons,ag j];rfl
  unfold uK at i ⊢;rw[a,b,rW,ag g,i];rfl
def acS (r:List Nat):uK (32::r)=uK r:=rfl
def tE:∀l,uK (jk l)=uK l
 |[]=>rfl
 |c::r=>by
  unfold jk;split
  .rename_i e;subst e;rw[tE r,acS]
  .rfl
def ab5 (r:List Nat):uK (43::r)=[]::uK r:=rfl
def acR (r:List Nat):uK (45::r)=[]::(45::(uK r).headD [])::(uK r).tail:=rfl
def Ii {c:Nat}{r p:List Nat}{a:List (List Nat)}(z:c=43\/c=45)(e:uK r=p::a):uK (c::r)=[]::(if decide (c=45) then 45::p else p)::a:=by
 rcases z with rfl|rfl
 .rw[ab5,e];rfl
 .rw[acR,e];rfl
def Nu:∀(n:Nat) (l:List Nat) (ts:List (Bool×qz)),l.length<n->BK n l=.ok ts->uK l=[]::ts.map Vq/\∀t∈ts,rM t.2
 |0,_,_,h,_=>absurd h (fJ _)
 |n+1,l,ts,h,e=>by
  rw[<- tE];have b:=kY l;unfold BK at e;cases q:jk l with
  |nil=>rw[q]at e;cases e;exact⟨rfl,λ_ h=>by cases h⟩
  |cons c r=>
   rw[q]at b e;have b:r.length+1<=l.length:=b;dsimp only at e;by_cases z:c=43\/c=45
   .rw[ai z]at e;have x:=kY r;cases k:lA (jk r) with
    |bad m=>rw[k]at e;cases e
    |ok t g=>
     rw[k]at e;dsimp only at e;have i:=qH k;obtain⟨s,f⟩:=Bd k;cases j:BK n g with
     |error m=>rw[j]at e;cases e
     |ok a=>
      rw[j]at e;cases e;obtain⟨o,p⟩:=Nu n g a (by lia) j;have v:uK r=Vu t::a.map Vq:=by rw[<- tE,s,xT _ _ (Jm f),o];simp
      refine⟨?_,λu d=>?_⟩
      .rw[Ii z v];rfl
      .rcases aw.mp d with rfl|d
       .exact f
       .exact p u d
   .rw[ag z]at e;cases e
def Gk {g:Bool}{l:List Nat}{ts:List (Bool×qz)}(e:K8 g l=.ok ts):∃t a,ts=(g,t)::a/\uK l=Vu t::a.map Vq/\∀t∈ts,rM t.2:=by
 unfold K8 at e;cases k:lA l with
 |bad m=>rw[k]at e;cases e
 |ok t r=>
  rw[k]at e;dsimp only at e;obtain⟨d,b⟩:=Bd k;cases j:BK (r.length+1) r with
  |error m=>rw[j]at e;cases e
  |ok a=>
   rw[j]at e;cases e;obtain⟨i,c⟩:=Nu _ r a (cg _) j;refine⟨t,a,rfl,?_,λu h=>?_⟩
   .rw[d,xT _ _ (Jm b),i];simp
   .rcases aw.mp h with rfl|h
    .exact b
    .exact c u h
def aaL {t:Bool×qz}(g:rM t.2):Vq t≠[]:=by
 obtain⟨b,d,o⟩:=t;unfold Vq;split
 .exact λz=>nomatch z
 .match o with
  |none=>exact λz=>g.some z rfl
  |some []=>exact λz=>by simp[Vu]at z
  |some (p::ps)=>exact λz=>by simp[Vu]at z
def Yk {l:List Nat}{ts:List (Bool×qz)}(e:Jg l=.ok ts):(uK l=ts.map Vq\/uK l=[]::ts.map Vq)/\∀t∈ts,rM t.2:=by
 rw[<- tE];unfold Jg at e;cases q:jk l with
 |nil=>rw[q]at e;obtain⟨t,b,rfl,h,a⟩:=Gk e;exact⟨.inl h,a⟩
 |cons c r=>
  rw[q]at e;dsimp only at e;by_cases z:c=43\/c=45
  .rw[ai z]at e;obtain⟨t,b,rfl,h,a⟩:=Gk e;rw[tE]at h;exact⟨.inr (by rw[Ii z h];rfl),a⟩
  .rw[ag z]at e;obtain⟨t,b,rfl,h,a⟩:=Gk e;exact⟨.inl h,a⟩
def qW:∀l:List Nat,jk (jk l)=jk l
 |[]=>rfl
 |c::r=>by
  by_cases h:c=32
  .rw[show jk (c::r)=jk r from ai h];exact qW r
  .have e:jk (c::r)=c::r:=ag h;rw[e,e]
def QW (n:Nat)(l:List Nat):BK n (jk l)=BK n l:=by
 cases n with
 |zero=>rfl
 |succ n=>unfold BK;rw[qW]
def Az:∀(n m:Nat) (l:List Nat),l.length<n->l.length<m->BK n l=BK m l
 |0,_,_,h,_=>absurd h (fJ _)
 |_+1,0,_,_,h=>absurd h (fJ _)
 |n+1,m+1,l,h1,h2=>by
  unfold BK;have a:=kY l;cases q:jk l with
  |nil=>rfl
  |cons c r=>
   rw[q]at a;have a:r.length+1<=l.length:=a;dsimp only;have e:=kY r;cases k:lA (jk r) with
   |bad m=>rfl
   |ok t d=>have b:=qH k;dsimp only;rw[Az n m d (by lia) (by lia)]
def JB (l:List Nat):Except Nat (List (Bool×qz)):=BK (l.length+1) l
def Hz (l:List Nat):JB (jk l)=JB l:=by unfold JB;rw[Az _ (l.length+1) _ (cg _) (Nat.lt_succ_of_le (kY l)),QW]
def putK (g:Bool)(t:qz):Except Nat (List (Bool×qz))->Except Nat (List (Bool×qz))
 | .error m=>.error m
 | .ok ts=>.ok ((g,t)::ts)
def WL {c:Nat}{r:List Nat}(h:c≠32)(z:¬(c=43\/c=45)):JB (c::r)=.error (r.length+1):=by
 unfold JB BK;have e:jk (c::r)=c::r:=by unfold jk;rw[ag h]
 rw[e];dsimp only;rw[ag z]
def Jz {c:Nat}{r:List Nat}(z:c=43\/c=45):(∀m,lA (jk r)=.bad m->JB (c::r)=.error m)/\∀t a,lA (jk r)=.ok t a -> JB (c::r)=putK (decide (c=45)) t (JB (jk a)):=by
 have h:¬c=32:=by lia
 have e:jk (c::r)=c::r:=by unfold jk;rw[ag h]
 refine⟨λm k=>?_,λt a k=>?_⟩
 .unfold JB BK;rw[e];dsimp only;rw[ai z,k]
 .have d:=kY r;have b:=qH k;rw[Hz];unfold JB;rw[BK];rw[e];dsimp only;rw[ai z,k];dsimp only;rw[Az (c::r).length (a.length+1) a (by show a.length<r.length+1;lia) (cg _)];cases BK (a.length+1) a <;> rfl
def Y4 (g:Bool)(l:List Nat):(∀m,lA l=.bad m->K8 g l=.error m)/\∀t r,lA l=.ok t r -> K8 g l=putK g t (JB (jk r)):=by
 refine⟨λm k=>?_,λt r k=>?_⟩
 .unfold K8;rw[k]
 .unfold K8;rw[k,Hz];unfold JB;dsimp only;cases BK (r.length+1) r <;> rfl
def Vk (ts:List (Bool×qz)):Except Nat (List (Bool×qz))->Except Nat (List (Bool×qz))
 | .error m=>.error m
 | .ok u=>.ok (ts++u)
def Hy (ts:List (Bool×qz))(g:Bool)(t:qz)(r:Except Nat (List (Bool×qz))):Vk ts (putK g t r)=Vk (ts++[(g,t)]) r:=by
 cases r with
 |error m=>rfl
 |ok u=>show Except.ok _=Except.ok _;simp
def um {a b:Str}(h:a.cps.toList=b.cps.toList):a=b:=by
 cases a with
 |mk x=>cases b with
  |mk y=>exact congrArg Str.mk (Array.toList_inj.mp h)
def jB (a b:Str):(a++b).cps.toList=a.cps.toList++b.cps.toList:=dP
def jo (a b c:Str):a++b++c=a++(b++c):=um (by rw[jB,jB,jB,jB,bu])
abbrev e0:Str:=""
def Il (a:Str):a++e0=a:=um (by rw[jB];exact aV _)
def Wd (a:Str):e0++a=a:=um (by rw[jB];exact bH _)
def jA (n:Int):Str:=(toString n:Str)
def Bw (m:Nat):(jA (m:Int)).cps.toList=(Nat.toDigits 10 m).map Char.toNat:=W.KIN.signs_num m
def Lr {a:Int}(h:0<=a):jA a=("1":Str) ↔ a=1:=by
 obtain⟨m,rfl⟩:=bc h;refine⟨λe=>?_,λe=>?_⟩
 .have c:=congrArg (λs:Str=>NumText.digitsVal s.cps.toList) e;have b:NumText.digitsVal (jA (m:Int)).cps.toList=NumText.digitsVal ("1":Str).cps.toList:=c;rw[Bw,W.KIN.val_back]at b;have d:NumText.digitsVal ("1":Str).cps.toList=1:=by decide +kernel
  rw[d]at b;lia
 .have:m=1:=by lia
  subst this;decide +kernel
def lV {a:Int}(h:0<=a)(d:a<10^110):1<=(jA a).length/\(jA a).length<=110:=by
 obtain⟨m,rfl⟩:=bc h;have e:(jA (m:Int)).length=(Nat.toDigits 10 m).length:=by show(jA (m:Int)).cps.size=_;rw[<- aY,Bw,ae]
 rw[e];have c:m<10^110:=by
  have b:((10^110:Nat):Int)=(10:Int)^110:=by decide +kernel
  generalize (10:Int)^110=Z at *
  generalize (10:Nat)^110=N at *
  lia
 exact⟨Nat.length_toDigits_pos,(dF (by decide) (by decide)).mpr c⟩
def len_app (a b:Str):(a++b).length=a.length+b.length:=strLen_append a b
def GJ (n k:Int):Str:=if k=0 then jA (n.natAbs:Int) else(if n.natAbs=1 then("":Str) else jA (n.natAbs:Int))++(if k=1 then("x":Str) else("x^":Str)++jA k)
def qF {k:Int}(h:k<1000):k<10^110:=d8 h (by decide +kernel)
def zm {n k:Int}(c:(n.natAbs:Int)<10^110)(k0:0<=k)(h:k<1000):1<=(GJ n k).length/\(GJ n k).length<=250:=by
 have d:=lV (cL _) c;have e:=lV k0 (qF h);have b:("x":Str).length=1:=by decide +kernel
 have l:("x^":Str).length=2:=by decide +kernel
 have a:("":Str).length=0:=by decide +kernel
 unfold GJ;split
 .lia
 .rw[len_app];split
  .split
   .rw[a,b];lia
   .rw[a,len_app,l];lia
  .split
   .rw[b];lia
   .rw[len_app,l];lia
def Av {a:Int}(h:(a.natAbs:Int)<10^110):a.natAbs.log2<1920:=by
 by_cases c:a.natAbs=0
 .rw[c];decide
 .refine(gw c).mpr ?_;have e:(10:Int)^110<=((2^1920:Nat):Int):=by decide +kernel
  generalize (10:Int)^110=Z at *
  generalize (2:Nat)^1920=N at *
  lia
def sz {n:Nat}(h:n<=10000000):n<=sizeLine:=by unfold sizeLine;lia
def jnS (n:Int):Str:=if n<0 then(" - ":Str) else(" + ":Str)
def BL (ns:List Int):Nat->Str
 |0=>("":Str)
 |k+1=>if ns.getD k 0=0 then BL ns k else jnS (ns.getD k 0)++(GJ (ns.getD k 0) (k:Int)++BL ns k)
def sgS (n:Int):Str:=if n<0 then("-":Str) else("":Str)
def PX (ns:List Int)(t:Nat):Str:=sgS (ns.getD t 0)++(GJ (ns.getD t 0) (t:Int)++BL ns t)
def Up (ns:List Int):Str:=if ns=[] then("0":Str) else PX ns (ns.length-1)
def Mh (n:Int):(jnS n).length=3:=by unfold jnS;split<;>decide +kernel
abbrev pM (U d:Addr)(t:Str)(l:List Nat):HO:=.ins U d [("text",.str t),("place",.int ((t.length-l.length:Nat):Int))]
structure uc (t:Str)(l:List Nat):Prop where
 sfx:l <:+ t.cps.toList
 few:t.length<=10000
def uc.le {t:Str}{l:List Nat}(h:uc t l):l.length<=t.length:=h.sfx.length_le
def uc.tail {t:Str}{c:Nat}{l:List Nat}(h:uc t (c::l)):uc t l:=⟨(List.suffix_cons c l).trans h.sfx,h.few⟩
def uc.at {t:Str}{c:Nat}{l:List Nat}(h:uc t (c::l)):t.cps.toList[t.length-(l.length+1)]?=some c:=by
 obtain⟨p,e⟩:=h.sfx;have z:t.length=p.length+(l.length+1):=by show t.cps.size=_;rw[<- aY,<- e,aM];rfl
 rw[z,<- e,bh (by lia)];have y:p.length+(l.length+1)-(l.length+1)-p.length=0:=by lia
 rw[y];rfl
def uc.next {t:Str}{c:Nat}{l:List Nat}(h:uc t (c::l)):((t.length-(c::l).length:Nat):Int)+1=((t.length-l.length:Nat):Int):=by have:=h.le;have z:(c::l).length=l.length+1:=rfl;lia
def V6 (C:Addr):Sp:=λv H Q _=>∃(a:Addr) (k:Int),v=[.ref a,.int k]/\H a=some (Ot C a none)/\0<=k/\k<=10000/\∀d,H d=none->d≠a->Q .non (upd (upd H a (Ot C a (some d))) d (.xd [("place",.int k)]))
def KN:∃f c,FnOk P w K mg base CX0 1 f c ["self","place"] (V6 cBT)/\Binds K c ["self","place"] []/\zF K cBT cFE f:=by
 obtain⟨f,c,F,b,e⟩:=T.Bh;refine⟨f,c,F.ok yN (λv H Q E h=>?_) (λj A o s H v Q E r h=>?_),b,e⟩
 .obtain⟨a,k,rfl,_⟩:=h;rfl
 obtain⟨a,k,rfl,i,h0,m,q⟩:=h;have g:k<10^110:=Int.lt_of_le_of_lt m (by decide +kernel);have d:(k.natAbs:Int)<10^110:=by rw[cw h0];exact g
 have p:=(lV h0 g).2;refine⟨_,(pss_cons (ps_expr (W0 (by rfl) T.qU T.Em e (pa_cons (pv 0) (pa_cons (acI (jJ 1)) pa_nil)))) (pss_one (Wi e T.nA rfl (pv 0) (jJ 1) rfl))),?_⟩
 have l:("the text can be read as far as place ":Str).length=37:=by decide +kernel
 have n:(" and no farther":Str).length=15:=by decide +kernel
 refine⟨_,rfl,by decide +kernel,⟨rfl,k,rfl,Av d,?_,?_,?_⟩⟩
 .show("the text can be read as far as place "++jA k:Str).length<=sizeLine;rw[len_app,l,ao];lia
 .show("the text can be read as far as place "++jA k++" and no farther":Str).length<=sizeLine;rw[len_app,len_app,l,n,ao];lia
 .exact⟨a,_,rfl,by show 1<=1000;decide,i,rfl,_,rfl,a,rfl,i,q⟩
def Wn (C:Addr):Sp:=λv H Q _=>∃(x d:Addr) (t:Str),v=[.ref x,.str t]/\H x=some (.ins C d [])/\Q .non (upd H x (pM C d t t.cps.toList))
def OD:OkI P w K mg base CX0 1 "Reader" U ["self","text"] (Wn U):=by
 obtain⟨f,g,F,b,c⟩:=T.BW;refine⟨f,g,F.ok Ar (λv H Q E h=>?_) (λa A o s H v Q E j h=>?_),b,c,T.HQ⟩
 .obtain⟨x,d,t,rfl,_⟩:=h;rfl
 obtain⟨x,d,t,rfl,i,q⟩:=h;refine⟨_,(pss_cons (ps_fld (pv 0) (pv 1) rfl) (pss_one (ps_fld (pv 0) jU rfl))),?_⟩
 refine⟨_,rfl,_,rfl,x,U,d,[],rfl,i,T.jt,T.lN,by decide,tT,_,rfl,x,U,d,_,rfl,upd_same,T.jt,T.jN,by show 1<1000;decide,?_⟩;rw[upd_upd];have e:((t.length-t.cps.toList.length:Nat):Int)=0:=by rw[show t.cps.toList.length=t.length from aY];lia
 have q:Q .non (upd H x (.ins U d [("text",.str t),("place",.int ((t.length-t.cps.toList.length:Nat):Int))])):=q;rw[e]at q;exact q
def ab7 (C:Addr):Sp:=λv H Q _=>∃(x d:Addr) (t:Str) (l:List Nat),v=[.ref x]/\H x=some (pM C d t l)/\uc t l/\Q (.bl l.isEmpty) H
def Dl:QL P w K mg base CX0 1 U "at_end" ["self"] (ab7 U):=by
 obtain⟨f,j,F,b,m⟩:=T.yF;refine⟨f,j,F.ok xx (λv H Q E h=>?_) (λi A o s H v Q E k h=>?_),b,m,T.jt⟩
 .obtain⟨x,d,t,l,rfl,_⟩:=h;rfl
 obtain⟨x,d,t,l,rfl,g,a,q⟩:=h;refine⟨_,(pss_one (ps_ret (pe_cmpR op_eq (pe_fld (pv 0) rfl) (pe_callB call_len_str (by rfl) T.jO Aq (pa_cons (pe_fld (pv 0) rfl) pa_nil)) (nomark _)))),?_⟩;have e:decide (V.int ((t.length-l.length:Nat):Int)=V.int (t.length:Int))=l.isEmpty:=by
  have:=a.le;cases l with
  |nil=>simp
  |cons c l=>have z:(c::l).length=l.length+1:=rfl;simp only[List.isEmpty_cons,decide_eq_false_iff_not,V.int.injEq];lia
 refine⟨_,rfl,x,U,d,_,_,rfl,g,T.jt,T.jN,rfl,_,rfl,x,U,d,_,_,rfl,g,T.jt,T.lN,rfl,t,rfl,by have:=a.few;rw[ao];lia,?_⟩;refine⟨rfl,?_⟩;rw[e];exact q
def Vr (l s:List Nat):Bool:=match l with
 |[]=>false
 |c::_=>decide (c∈s)
def RP (C:Addr):Sp:=λv H Q _=>∃(x d:Addr) (t s:Str) (l:List Nat),v=[.ref x,.str s]/\H x=some (pM C d t l)/\uc t l/\Q (.bl (Vr l s.cps.toList)) H
def mU:QL P w K mg base CX0 2 U "stands" ["self","signs"] (RP U):=by
 obtain⟨f,j,F,b,m⟩:=T.yE;refine⟨f,j,F.ok xu (λv H Q E h=>?_) (λi A o s H v Q E k h=>?_),b,m,T.jt⟩
 .obtain⟨x,d,t,g,l,rfl,_⟩:=h;rfl
 obtain⟨x,d,t,g,l,rfl,a,e,q⟩:=h;refine⟨_,(pss_one (ps_ret (pe_and (pe_not (lC (Dl T) k pass0 (pv 0))) (pe_one (pe_cmpR U0 (pe_ix ix_str (pe_fld (pv 0) rfl) (pe_fld (pv 0) rfl) (λ_ _=>rfl)) (pv 1) (by with_unfolding_all rfl)))))),?_⟩;refine⟨_,rfl,x,d,_,rfl,a,rfl,x,d,t,l,rfl,a,e,?_⟩;cases l with
 |nil=>exact⟨_,rfl,_,rfl,q⟩
 |cons c l=>
  refine⟨_,rfl,_,rfl,?_⟩;refine⟨_,rfl,x,U,d,_,_,rfl,a,T.jt,T.lN,rfl,_,rfl,x,U,d,_,_,rfl,a,T.jt,T.jN,rfl,t,_,c,rfl,rfl,by have:=e.few;rw[ao];lia,?_,?_⟩
  .exact atI_nat e.at
  .exact⟨_,rfl,c,g,rfl,rfl,q⟩
def Ci (cBT:Addr)(E:XK)(H:Hp)(C x a:Addr)(t:Str)(m:Nat):Prop:=∀d l,H d=none->E (.ref cBT) (some d) (upd (upd H x (pM C a t l)) d (.xd [("place",.int ((t.length-m:Nat):Int))]))
def Yj (cBT C:Addr):Sp:=λv H Q E=>∃(x d:Addr) (t s:Str) (l:List Nat),v=[.ref x,.str s]/\H x=some (pM C d t l)/\uc t l/\(∀c a,l=c::a -> c∈s.cps.toList->Q (.str ⟨#[c]⟩) (upd H x (pM C d t a)))/\(Vr l s.cps.toList=false->Ci cBT E H C x d t l.length)
def pC:QL P w K mg base (sZ P w) 3 U "taken" ["self","signs"] (Yj cBT U):=by
 obtain⟨f,M,G,b,m⟩:=T.zX;obtain⟨fB,N,F,I,kB⟩:=KN (P:=P) (w:=w) (base:=base) T;refine⟨f,M,?_,b,m,T.jt⟩;obtain⟨oc,od,kV,L,pm,an,J,ct,osl,rfl,lk,p⟩:=G.ex;refine fn_of lk p yP (λvs H Q E h=>?_) λA y s H vs Q E D h=>?_
 .obtain⟨x,g,t,n,l,rfl,_⟩:=h;rfl
 obtain⟨x,g,t,n,l,rfl,i,j,q,qe⟩:=h;have r:t.length<=sizeLine:=by have:=j.few;rw[ao];lia
 refine⟨_,(pss_cons (ps_if (pt_not (pt_val (j6 (mU T) D pass0 (pv 0) (pa_cons (pv 1) pa_nil)) (λ_=>rfl))) (pss_one (Qt newX rfl kB F D I (by rfl) T.xR (pa_cons (pe_fld (pv 0) rfl) pa_nil) (hl:=λσ H Q ⟨v,e,a,C,g,fs,u,O,R,S,Z,h5,q⟩=>⟨v,e,a,C,g,fs,u,O,R,S,Z,h5,rfl,q⟩))) pss_nil) (pss_cons (ps_fldaug (pv 0) jU in_add) (pss_one (ps_ret (pe_ix ix_str (pe_fld (pv 0) rfl) (pe_op op_sub (pe_fld (pv 0) rfl) jU) (λ_ _=>rfl)))))),?_⟩
 refine⟨_,rfl,x,g,_,rfl,i,rfl,_,rfl,x,g,t,n,l,rfl,i,j,_,rfl,?_⟩;cases e:Vr l n.cps.toList with
 |false=>
  refine⟨_,rfl,x,U,g,_,_,rfl,i,T.jt,T.jN,rfl,λa na=>?_⟩;refine⟨a,_,rfl,upd_same,by lia,by have:=j.few;lia,λd B o=>⟨rfl,d,?_,?_⟩⟩
  .rw[upd_ne (br o),upd_same]
  .rw[Q4 na o];have z:=qe e d l (by rw[upd_ne o]at B;exact B);rw[FW i]at z;exact z
 |true=>
  cases l with
  |nil=>cases e
  |cons c k=>
   have hc:c∈n.cps.toList:=bi e;have nx:=j.next;refine⟨_,rfl,x,U,g,_,_,rfl,i,T.jt,T.jN,rfl,tT,_,_,rfl,rfl,g,_,i,by show 2<1000;decide,?_⟩;have q:=q c k rfl hc;have q:Q (.str ⟨#[c]⟩) (upd H x (.ins U g [("text",.str t),("place",.int ((t.length-k.length:Nat):Int))])):=q;rw[<- nx]at q;refine⟨_,rfl,x,U,g,_,_,rfl,upd_same,T.jt,T.lN,rfl,_,rfl,x,U,g,_,_,rfl,upd_same,T.jt,T.jN,rfl,tT,_,_,rfl,rfl,t,_,c,rfl,rfl,r,?_,q⟩;have z:((t.length-(c::k).length:Nat):Int)+1-1=((t.length-(k.length+1):Nat):Int):=by rw[Int.add_sub_cancel];rfl
   rw[z];exact atI_nat j.at
def uc.skip {t:Str}:∀{l:List Nat},uc t l->uc t (jk l)
 |[],h=>h
 |c::l,h=>by
  unfold jk;split
  .exact h.tail.skip
  .exact h
def aah (C:Addr):Sp:=λv H Q _=>∃(x d:Addr) (t:Str) (l:List Nat),v=[.ref x]/\H x=some (pM C d t l)/\uc t l/\Q .non (upd H x (pM C d t (jk l)))
def oZ:QL P w K mg base CX0 3 U "skip_blanks" ["self"] (aah U):=by
 obtain⟨f,B,F,b,m⟩:=T.sO;refine⟨f,B,F.ok rP (λL H Q E h=>?_) (λr A o s H L Q E C h=>?_),b,m,T.jt⟩
 .obtain⟨x,d,t,l,rfl,_⟩:=h;rfl
 obtain⟨x,d,t,l,rfl,G,D,q⟩:=h;have J:(" ":Str).cps.toList=[32]:=by decide +kernel
 refine⟨_,(pss_one (ps_while aT (pt_val (j6 (mU T) C pass0 (pv 0) (pa_cons pe_str pa_nil)) (λ_=>rfl)) (pss_one (ps_fldaug (pv 0) jU in_add)))),?_⟩
 refine⟨λn p j=>p=[some (.ref x)]/\∃a,n=a.length/\j=upd H x (pM U d t a)/\uc t a/\jk a=jk l,⟨l.length,rfl,l,rfl,(FW G).symm,D,rfl⟩,?_⟩;rintro n p j ⟨rfl,a,rfl,rfl,i,e⟩;refine⟨_,rfl,x,d,_,rfl,upd_same,rfl,x,d,t,_,a,rfl,upd_same,i,_,rfl,?_⟩;rw[J];cases a with
 |nil=>show Q .non _;rw[<- e]at q;exact q
 |cons c a=>
  cases z:Vr (c::a) [32] with
  |false=>
   show Q .non _;rw[<- e]at q;have g:¬c=32:=λy=>by rw[y]at z;cases z
   unfold jk at q;rw[ag g]at q;exact q
  |true=>
   have g:c=32:=by simpa [Vr] using z
   subst g;have I:=i.next;refine⟨λk j=>k=[some (.ref x)]/\j=upd H x (pM U d t a),λk j ⟨u,v⟩=>⟨a.length,cg _,u,a,rfl,v,i.tail,e⟩,?_⟩;refine⟨_,rfl,x,U,d,_,_,rfl,upd_same,T.jt,T.jN,rfl,tT,_,_,rfl,rfl,d,_,upd_same,by show 2<1000;decide,rfl,?_⟩;rw[upd_upd];show upd H x (.ins U d [("text",.str t),("place",.int (((t.length-(32::a).length:Nat):Int)+1))])=_;rw[I]
def sgn (c:Nat):Int:=if c=45 then -1 else 1
def aaQ (cBT C:Addr):Sp:=λv H Q E=>∃(x d:Addr) (t:Str) (l:List Nat),v=[.ref x]/\H x=some (pM C d t l)/\uc t l/\(∀c a,l=c::a -> c=43\/c=45->Q (.int (sgn c)) (upd H x (pM C d t (jk a))))/\((∀c a,l=c::a -> ¬(c=43\/c=45))->Ci cBT E H C x d t l.length)
def uF:QL P w K mg base (sZ P w) 4 U "taken_sign" ["self"] (aaQ cBT U):=by
 obtain⟨f,C,F,b,m⟩:=T.uw;refine⟨f,C,?_,b,m,T.jt⟩;obtain⟨L,M,kV,B,N,an,v,J,D,rfl,lk,k⟩:=F.ex;refine fn_of lk k n8 (λI H Q E h=>?_) λA o s H I Q E p h=>?_
 .obtain⟨x,a,t,l,rfl,_⟩:=h;rfl
 obtain⟨x,a,t,l,rfl,r,n,q,G⟩:=h;have u:("+-":Str).cps.toList=[43,45]:=by decide +kernel
 refine⟨_,(pss_cons (ps_set (i:=1) n8.nd rfl k4 (pe_ifExp (pt_cmpR op_eq (j6 (pC T) p kZ (pv 0) (pa_cons pe_str pa_nil)) pe_str (nomark _)) (Rk jU) jU)) (pss_cons (ps_expr (lC (oZ T) p pass0 (pv 0))) (pss_one (ps_ret (jJ 1))))),?_⟩
 refine⟨_,rfl,x,a,_,rfl,r,rfl,x,a,t,_,l,rfl,r,n,λc j e g=>?_,λe=>G λc j z y=>?_⟩
 .subst e;rw[u]at g;have g:c=43\/c=45:=by simpa using g
  have q:=q c j rfl g;refine⟨rfl,_,rfl,?_⟩;have d:decide ((V.str ⟨#[c]⟩:V)=.str "-")=decide (c=45):=by rcases g with rfl|rfl<;>decide +kernel
  rw[d];rcases g with rfl|rfl
  .refine⟨tT,_,rfl,x,a,_,rfl,upd_same,rfl,x,a,t,j,rfl,upd_same,n.tail,rfl,?_⟩;rw[upd_upd];exact q
  .refine⟨tT,_,rfl,x,a,_,rfl,upd_same,rfl,x,a,t,j,rfl,upd_same,n.tail,rfl,?_⟩;rw[upd_upd];exact q
 .subst z;rw[u]at e;have e:¬(c=43\/c=45):=by simpa [Vr] using e
  exact e y
def wW {c:Nat}:c∈("0123456789":Str).cps.toList ↔ isF c=true:=by rw[show("0123456789":Str).cps.toList=[48,49,50,51,52,53,54,55,56,57] from by decide +kernel,mZ];simp only[aw,bS,eK];exact⟨λh=>by rcases h with h|h|h|h|h|h|h|h|h|h<;>(subst h;decide),λh=>by lia⟩
def ud {l:List Nat}:Vr l ("0123456789":Str).cps.toList=match l with | []=>false|c::_=>isF c:=by
 cases l with
 |nil=>rfl
 |cons c l=>
  show decide _=isF c;cases h:isF c with
  |true=>exact aQ (wW.mpr h)
  |false=>exact aK λz=>by rw[wW.mp z]at h;cases h
def Bk (l:List Nat):Str:=⟨l.toArray⟩
def VP (a b:List Nat):Bk a++Bk b=Bk (a++b):=PySem.Str.ext' (by rw[PySem.Str.cps_append];simp[Bk])
def Ei {l:List Nat}(h:∀c∈l,isF c=true)(b:l≠[])(d:l.length<=640):intText? (Bk l)=some ((fv l:Nat):Int):=by
 have e:fv l=PySem.NumText.digitsVal (Bk l).cps.toList:=by show List.foldl _ _ _=List.foldl _ _ (l.toArray.toList);congr 1;funext a c;lia
 rw[e];exact PySem.intText_digits (x:=Bk l) (λc f=>mZ.mp (h c f)) b (aG d (by decide))
def Zc (tk:List Nat->Rr (List Nat))(cBT C:Addr):Sp:=λv H Q E=>∃(x d:Addr) (t:Str) (l:List Nat),v=[.ref x]/\H x=some (pM C d t l)/\uc t l/\(∀a b,tk l=.ok a b -> Q (.int ((fv a:Nat):Int)) (upd H x (pM C d t b)))/\∀m,tk l=.bad m->Ci cBT E H C x d t m
def yJ:QL P w K mg base (sZ P w) 4 U "taken_number" ["self"] (Zc mY cBT U):=by
 obtain⟨f,fd,Fu,b,m⟩:=T.rO;refine⟨f,fd,?_,b,m,T.jt⟩;obtain⟨oc,od,kV,doc,pm,an,cdv,ct,osl,rfl,lk,S⟩:=Fu.ex;refine fn_of lk S lu (λvs H Q E h=>?_) λA outer s H vs Q E hr h=>?_
 .obtain⟨x,u,t,l,rfl,_⟩:=h;rfl
 obtain⟨x,u,t,l,rfl,hx,hs,q,qe⟩:=h;refine⟨_,(pss_cons (ps_set (i:=1) lu.nd rfl k4 (j6 (pC T) hr kZ (pv 0) (pa_cons (o7 (by rfl) T.nQ) pa_nil))) (pss_cons (ps_while eI (pw_and (pt_cmpR op_ne (pv 1) pe_str (nomark _)) (pw_and (pt_cmpR op_lt (pe_callB call_len_str (by rfl) T.jO Aq (pa_cons (pv 1) pa_nil)) (zc (by rfl) T.Af) (nomark _)) (pw_and1 (pt_val (j6 (mU T) hr pass0 (pv 0) (pa_cons (o7 (by rfl) T.nQ) pa_nil)) (λ_=>rfl))))).pt (pss_one (ps_aug (i:=1) lu.nd rfl k4 (j6 (pC T) hr kZ (pv 0) (pa_cons (o7 (by rfl) T.nQ) pa_nil)) VJ))) (pss_one (ps_ret (pe_callTy mq (by rfl) T.yp rZ (pa_cons (pv 1) pa_nil)))))),?_⟩
 refine⟨_,rfl,x,u,_,rfl,hx,rfl,x,u,t,_,l,rfl,hx,hs,λc l' e G=>?_,λe=>?_⟩
 .subst e;have G:=wW.mp G;obtain⟨F,R,eF⟩:∃F R,mY (c::l')=.ok F R:=by unfold mY;dsimp only;rw[ai G];split<;>exact⟨_,_,rfl⟩
  have q:=q F R eF;have g0:("0":Str)=Bk [48]:=by decide +kernel
  have inj:∀a b:List Nat,Bk a=Bk b->a=b:=λa b e=>by have:=congrArg (λz:Str=>z.cps.toList) e;exact this
  refine⟨λn σ D=>∃g r,n=r.length/\σ=[some (.ref x),some (.str (Bk g))]/\D=upd H x (pM U u t r)/\uc t r/\(∀c∈g,isF c=true)/\g≠[]/\g.length<=100 /\ ((g=[48]/\F=[48]/\R=r)\/(g≠[48]/\F=g++(lW (100-g.length) r).1/\R=(lW (100-g.length) r).2)),⟨l'.length,[c],l',rfl,rfl,rfl,hs.tail,(λd L=>by rw[ap.mp L];exact G),(λz=>nomatch z),by show 1<=100;decide,?_⟩,?_⟩
  .unfold mY at eF;dsimp only at eF;rw[ai G]at eF;by_cases z:c=48
   .rw[ai z]at eF;cases eF;exact .inl ⟨by rw[z],rfl,rfl⟩
   .rw[ag z]at eF;cases eF;exact .inr ⟨(λy=>z (List.cons.inj y).1),rfl,rfl⟩
  .rintro n σ D ⟨g,r,rfl,rfl,rfl,C,L,hn,hl,inv⟩;have j:(Bk g).length=g.length:=rfl;have fin:F=g->R=r->∃z n,[V.str (Bk g)]=[.str z]/\intText? z=some n/\z.length<=640/\Q (.int n) (upd H x (pM U u t r)):=λN O=>by subst N O;exact⟨_,_,rfl,Ei L hn (by lia),by rw[j];lia,q⟩
   refine⟨_,rfl,rfl,_,rfl,?_⟩;dsimp only;rcases inv with⟨z1,o,p⟩|⟨z1,o,p⟩
   .subst z1;exact⟨_,rfl,fin o p⟩
   .have ne:¬(V.str (Bk g):V)=.str "0":=λy=>z1 (inj _ _ (by injection y));rw[ai (by simpa using ne)];refine⟨_,rfl,_,rfl,by rw[j,ao];lia,tT,_,_,rfl,rfl,_,rfl,?_⟩;dsimp only;by_cases y1:g.length<100
    .have y2:(((Bk g).length:Nat):Int)<100:=by rw[j];lia
     rw[ai (aQ y2)];refine⟨_,rfl,x,u,_,rfl,upd_same,rfl,x,u,t,_,r,rfl,upd_same,C,_,rfl,?_⟩;rw[ud];obtain⟨k,ek⟩:∃k,100-g.length=k+1:=⟨99-g.length,by lia⟩;rw[ek]at o p;cases r with
     |nil=>exact⟨_,rfl,fin (by rw[o];exact aV _) p⟩
     |cons v M=>
      dsimp only;by_cases B:isF v=true
      case neg=>rw[ag B];unfold lW at o p;rw[ag B]at o p;exact⟨_,rfl,fin (by rw[o];exact aV _) p⟩
      case pos=>
       rw[ai B];unfold lW at o p;rw[ai B]at o p;refine⟨λI D=>I=[some (.ref x),some (.str (Bk (g++[v])))]/\D=upd H x (pM U u t M),λI D ⟨N,O⟩=>⟨M.length,cg _,g++[v],M,rfl,N,O,C.tail,?_,by simp,by rw[aM];exact y1,.inr ⟨?_,?_,?_⟩⟩,?_⟩
       .intro d Z;rcases aZ.mp Z with z|z
        .exact L d z
        .rw[ap.mp z];exact B
       .intro z;have:=congrArg List.length z;rw[aM]at this;have hp:=lP hn;have this:g.length+1=1:=this;lia
       .rw[aM,show 100-(g.length+[v].length)=k from by show 100-(g.length+1)=k;lia,o];simp
       .rw[aM,show 100-(g.length+[v].length)=k from by show 100-(g.length+1)=k;lia,p]
       .refine⟨_,rfl,_,rfl,x,u,_,rfl,upd_same,rfl,x,u,t,_,v::M,rfl,upd_same,C,λc3 l4 J hc3=>?_,λJ=>?_⟩
        .cases J;refine⟨_,_,rfl,rfl,?_,?_,?_⟩
         .rw[ao,j];show g.length+1<=_;lia
         .show _=[some (V.ref x),some (.str (Bk (g++[v])))];rw[<- VP];rfl
         .rw[upd_upd]
        .rw[ud]at J;rw[show isF v=false from J]at B;cases B
    .have y2:¬(((Bk g).length:Nat):Int)<100:=by rw[j];lia
     rw[ag (by simpa using y2)];have y3:100-g.length=0:=by lia
     rw[y3]at o p;exact⟨_,rfl,fin (by rw[o];exact aV _) p⟩
 .rw[ud]at e;cases l with
  |nil=>exact qe 0 rfl
  |cons c l=>exact qe (l.length+1) (by unfold mY;dsimp only;rw[ag (by rw[show isF c=false from e];exact aJ)])
def Kf (c:Nat):fv [c]=c-48:=by show 10*0+(c-48)=_;lia
def Zy (c d:Nat):fv [c,d]=10*(c-48)+(d-48):=by show 10*(10*0+(c-48))+(d-48)=_;lia
def Gz {c:Nat}(h:isF c=true):intText? (⟨#[c]⟩:Str)=some (((c-48:Nat)):Int):=by have e:=Ei (l:=[c]) (λd a=>by rw[ap.mp a];exact h) (λz=>nomatch z) (by show 1<=640;decide);rw[Kf]at e;exact e
def zN:QL P w K mg base (sZ P w) 4 U "taken_power" ["self"] (Zc ni cBT U):=by
 obtain⟨f,fd,Fu,b,m⟩:=T.tM;refine⟨f,fd,?_,b,m,T.jt⟩;obtain⟨oc,od,kV,doc,pm,an,cdv,ct,osl,rfl,lk,Z⟩:=Fu.ex;refine fn_of lk Z lF (λvs H Q E h=>?_) λA outer s H vs Q E hr h=>?_
 .obtain⟨x,k,t,l,rfl,_⟩:=h;rfl
 obtain⟨x,k,t,l,rfl,hx,hs,q,qe⟩:=h;have hsm:t.length<=sizeLine:=by have:=hs.few;rw[ao];lia
 refine⟨_,(pss_cons (ps_set (i:=1) lF.nd rfl k4 (pe_callTy mq (by rfl) T.yp rZ (pa_cons (j6 (pC T) hr kZ (pv 0) (pa_cons (o7 (by rfl) T.nQ) pa_nil)) pa_nil))) (pss_cons (ps_while eI (pw_and (ZF (jJ 1) jU) (pw_and (pt_val (j6 (mU T) hr pass0 (pv 0) (pa_cons (o7 (by rfl) T.nQ) pa_nil)) (λ_=>rfl)) (pw_and1 (pt_cmpR op_le (pe_op op_add (K5 jU (jJ 1)) (pe_callTy mq (by rfl) T.yp rZ (pa_cons (pe_ix ix_str (pe_fld (pv 0) rfl) (pe_fld (pv 0) rfl) (λ_ _=>rfl)) pa_nil))) (zc (by rfl) T.rA) (nomark _))))).pt (pss_one (ps_set (i:=1) lF.nd rfl k4 (pe_op op_add (K5 jU (jJ 1)) (pe_callTy mq (by rfl) T.yp rZ (pa_cons (j6 (pC T) hr kZ (pv 0) (pa_cons (o7 (by rfl) T.nQ) pa_nil)) pa_nil)))))) (pss_one (ps_ret (jJ 1))))),?_⟩
 refine⟨_,rfl,x,k,_,rfl,hx,rfl,x,k,t,_,l,rfl,hx,hs,λc C e v=>?_,λe=>?_⟩
 .subst e;have v:=wW.mp v;have hc2:=mZ.mp v;obtain⟨F,R,eF⟩:∃F R,ni (c::C)=.ok F R:=by
   unfold ni;cases C with
   |nil=>dsimp only;rw[ai v];exact⟨_,_,rfl⟩
   |cons c' r=>dsimp only;rw[ai v];split<;>exact⟨_,_,rfl⟩
  have q:=q F R eF;refine⟨_,_,rfl,Gz v,by show 1<=640;decide,?_⟩;refine⟨λn σ G=>∃(g:List Nat) (p:Nat),n=g.length/\σ=[some (.ref x),some (.int (p:Int))]/\G=upd H x (pM U k t g)/\uc t g/\((p=c-48/\g=C)\/(10<=p/\p<=40/\p=fv F/\g=R)),⟨C.length,C,c-48,rfl,rfl,rfl,hs.tail,.inl ⟨rfl,rfl⟩⟩,?_⟩;rintro n σ G ⟨g,p,rfl,rfl,rfl,B,L⟩;have fin:p=fv F->g=R->Q (.int (p:Int)) (upd H x (pM U k t g)):=λD I=>by rw[D,I];exact q
  have hpw:p<=40:=by lia
  have M:(p=c-48/\g=C)->(∀a o,g=a::o->¬(c≠48/\isF a=true/\10*(c-48)+(a-48)<=40))->p=fv F/\g=R:=λ⟨D,I⟩ h=>by
   subst I;unfold ni at eF;cases g with
   |nil=>dsimp only at eF;rw[ai v]at eF;cases eF;exact⟨D.trans (Kf c).symm,rfl⟩
   |cons c' r=>dsimp only at eF;rw[ai v,ag (h c' r rfl)]at eF;cases eF;exact⟨D.trans (Kf c).symm,rfl⟩
  have j:(p=c-48->∀a o,g=a::o->¬(c≠48/\isF a=true/\10*(c-48)+(a-48)<=40))->hI [some (.ref x),some (.int (p:Int))] 1/\Q (.int (p:Int)) (upd H x (pM U k t g)):=λh=>by
   refine⟨rfl,?_⟩;rcases L with i|⟨_,_,i1,i2⟩
   .obtain⟨k1,k2⟩:=M i (h i.1);exact fin k1 k2
   .exact fin i1 i2
  refine⟨⟨rfl,tT⟩,?_⟩;dsimp only;by_cases z:p=0
  .rw[ag (by show ¬(decide (¬(p:Int)=0)=true);simp[z])];exact j λe a o _ h=>h.1 (by lia)
  .rw[ai (by show decide (¬(p:Int)=0)=true;exact aQ (by lia))];refine⟨_,rfl,x,k,_,rfl,upd_same,rfl,x,k,t,_,g,rfl,upd_same,B,_,rfl,?_⟩;rw[ud];cases g with
   |nil=>exact j λ_ _ _ y=>nomatch y
   |cons a o=>
    dsimp only;by_cases u:isF a=true
    case neg=>rw[ag u];exact j λ_ c3 l4 y h=>by cases y;exact u h.2.1
    case pos=>
     rw[ai u];have hf2:=mZ.mp u;refine⟨⟨tT,rfl,?_⟩,_,rfl,x,U,k,_,_,rfl,upd_same,T.jt,T.lN,rfl,_,rfl,x,U,k,_,_,rfl,upd_same,T.jt,T.jN,rfl,t,_,a,rfl,rfl,hsm,atI_nat B.at,_,_,rfl,Gz u,by show 1<=640;decide,_,_,rfl,rfl,tT,_,_,rfl,rfl,_,rfl,?_⟩
     .exact CMul.ok (.inl ⟨by decide,by decide⟩)
     .dsimp only;by_cases y:10*p+(a-48)<=40
      .rw[ai (by show decide (10*(p:Int)+((a-48:Nat):Int)<=40)=true;exact aQ (by lia))];have i1:p=c-48/\a::o=C:=by
        rcases L with i|⟨i,_⟩
        .exact i
        .lia
       have S:c≠48:=by lia
       have J:ni (c::C)=.ok [c,a] o:=by rw[<- i1.2];unfold ni;dsimp only;rw[ai v,ai ⟨S,u,by lia⟩]
       rw[eF]at J;injection J with eA eR;have ef:=Zy c a;refine⟨λN G=>N=[some (.ref x),some (.int ((10*p+(a-48):Nat):Int))]/\G=upd H x (pM U k t o),λN G ⟨D,I⟩=>⟨o.length,cg _,o,10*p+(a-48),rfl,D,I,B.tail,.inr ⟨by lia,y,by rw[eA,ef];lia,eR.symm⟩⟩,?_⟩;refine⟨⟨tT,rfl,CMul.ok (.inl ⟨by decide,by decide⟩)⟩,_,rfl,x,k,_,rfl,upd_same,rfl,x,k,t,_,a::o,rfl,upd_same,B,λc3 l4 O hc3=>?_,λO=>?_⟩
       .cases O;refine⟨_,_,rfl,Gz u,by show 1<=640;decide,_,_,rfl,rfl,?_,?_⟩
        .show[some (V.ref x),some (V.int (10*(p:Int)+((a-48:Nat):Int)))]=_;rw[show 10*(p:Int)+((a-48:Nat):Int)=((10*p+(a-48):Nat):Int) from by lia]
        .rw[upd_upd]
       .rw[ud]at O;rw[show isF a=false from O]at u;cases u
      .rw[ag (by show ¬(decide (10*(p:Int)+((a-48:Nat):Int)<=40)=true);simp only[gq];lia)];exact j λe c3 l4 e4 h=>by cases e4;have:=h.2.2;lia
 .rw[ud]at e;cases l with
  |nil=>exact qe 0 rfl
  |cons c l=>
   have nf:¬isF c=true:=by rw[show isF c=false from e];exact aJ
   cases l with
   |nil=>exact qe 1 (by unfold ni;dsimp only;rw[ag nf])
   |cons d l=>exact qe (l.length+2) (by unfold ni;dsimp only;rw[ag nf])
def Cz (ds:List Nat):Int:=if ds=[] then 1 else((fv ds:Nat):Int)
def WY:Option (List Nat)->Int
 |none=>0
 |some []=>1
 |some (p::ps)=>((fv (p::ps):Nat):Int)
def Ci.upd {cBT C x b:Addr}{E:XK}{H:Hp}{t:Str}{m:Nat}{l:List Nat}(h:Ci cBT E H C x b t m):Ci cBT E (upd H x (pM C b t l)) C x b t m:=λd c a=>by
 have n:d≠x:=λz=>by rw[z,upd_same]at a;cases a
 rw[upd_upd];exact h d c (by rw[upd_ne n]at a;exact a)
def aaM (cBT C:Addr):Sp:=λv H Q E=>∃(x d:Addr) (t:Str) (l:List Nat),v=[.ref x]/\H x=some (pM C d t l)/\uc t l/\(∀b a,lA l=.ok b a -> uc t a -> ∀p,upd H x (pM C d t a) p=none->Q (.ref p) (upd (upd H x (pM C d t a)) p (.tup [.int (Cz b.1),.int (WY b.2)])))/\∀m,lA l=.bad m->Ci cBT E H C x d t m
def st1 {l:List Nat}{c:Nat}{s:Str}(h:s.cps.toList=[c]):Vr l s.cps.toList=match l with | []=>false|d::_=>decide (d=c):=by
 rw[h];cases l with
 |nil=>rfl
 |cons d l=>show decide _=decide _;simp
def xS:("x":Str).cps.toList=[120]:=by decide +kernel
def cS:("^":Str).cps.toList=[94]:=by decide +kernel
def Cg:QL P w K mg base (sZ P w) 5 U "taken_term" ["self"] (aaM cBT U):=by
 obtain⟨f,fd,Fu,b,m⟩:=T.uq;refine⟨f,fd,?_,b,m,T.jt⟩;obtain⟨oc,od,kV,doc,pm,an,O,ct,osl,rfl,lk,Z⟩:=Fu.ex;refine fn_of lk Z lK (λvs H Q E h=>?_) λA D s H vs Q E B h=>?_
 .obtain⟨x,g,t,l,rfl,_⟩:=h;rfl
 obtain⟨x,g,t,l,rfl,L,j,q,N⟩:=h;obtain⟨tr,hR,rest⟩:∃tr,PSs (cxOf (sZ P w) P w K mg base ["self","number"] "Reader.taken_term" (defScope kJ) f O A D s H E) ((defBody kJ).drop 2) tr/\∀(d r:List Nat),uc t (120::r)->(∀G a,oJ d r=.ok G a -> uc t a -> ∀p,upd H x (pM U g t a) p=none->Q (.ref p) (upd (upd H x (pM U g t a)) p (.tup [.int (Cz G.1),.int (WY G.2)])))->(∀m,oJ d r=.bad m->Ci cBT E H U x g t m) ->
   tr { nx:=λ_ H'=>Q .non H',rt:=Q } [some (.ref x),some (.int (Cz d))] (upd H x (pM U g t (120::r))):=by
  refine⟨_,(pss_cons (ps_expr (j6 (pC T) B kZ (pv 0) (pa_cons pe_str pa_nil))) (pss_cons (ps_if (pt_not (pt_val (j6 (mU T) B pass0 (pv 0) (pa_cons pe_str pa_nil)) (λ_=>rfl))) (pss_one (ps_ret (pe_tup (pa_cons (jJ 1) (pa_cons jU pa_nil))))) pss_nil) (pss_cons (ps_expr (j6 (pC T) B kZ (pv 0) (pa_cons pe_str pa_nil))) (pss_one (ps_ret (pe_tup (pa_cons (jJ 1) (pa_cons (lC (zN T) B kZ (pv 0)) pa_nil)))))))),λd r j q N=>?_⟩
  refine⟨_,rfl,x,g,_,rfl,upd_same,rfl,x,g,t,_,120::r,rfl,upd_same,j,λc a e hc=>?_,λe=>?_⟩
  .cases e;rw[upd_upd];refine⟨_,rfl,x,g,_,rfl,upd_same,rfl,x,g,t,_,r,rfl,upd_same,j.tail,_,rfl,?_⟩;dsimp only;have n:oJ d r=.ok (d,some []) r->∀p,upd H x (pM U g t r) p=none->Q (.ref p) (upd (upd H x (pM U g t r)) p (.tup [.int (Cz d),.int 1])):=λe=>q _ _ e j.tail;rw[st1 cS];cases r with
   |nil=>exact⟨rfl,tT,by show 2<=sizeLine;rw[ao];lia,n rfl⟩
   |cons c F=>
    dsimp only;by_cases z:c=94
    .subst z;have eX:oJ d (94::F)=match ni F with
      | .bad m=>.bad m
      | .ok J r'=>.ok (d,some J) r':=rfl
     rw[ag (by simp)];refine⟨_,rfl,x,g,_,rfl,upd_same,rfl,x,g,t,_,94::F,rfl,upd_same,j.tail,λc a e hc=>?_,λe=>?_⟩
     .cases e;rw[upd_upd];refine⟨rfl,_,rfl,x,g,_,rfl,upd_same,rfl,x,g,t,F,rfl,upd_same,j.tail.tail,λJ a e=>?_,λm e=>?_⟩
      .rw[upd_upd];obtain⟨R,S,_⟩:=Hm e;have hs3:uc t a:=⟨(show a <:+ F from⟨J,R.symm⟩).trans j.tail.tail.sfx,j.few⟩;have z:=q (d,some J) a (by rw[eX,e]) hs3;cases J with
       |nil=>exact absurd rfl S
       |cons p J=>exact⟨by show 2<=sizeLine;rw[ao];lia,z⟩
      .exact(N m (by rw[eX,e])).upd
     .rw[st1 cS]at e;cases e
    .rw[ai (by simp[z])];have e:oJ d (c::F)=.ok (d,some []) (c::F):=by unfold oJ;dsimp only;rw[ag z]
     exact⟨rfl,tT,by show 2<=sizeLine;rw[ao];lia,n e⟩
  .rw[st1 xS]at e;cases e
 refine⟨_,(pss_cons (NB (i:=1) lK.nd rfl k4 jU) (pss_cons (ps_if (pt_not (pt_val (j6 (mU T) B pass0 (pv 0) (pa_cons pe_str pa_nil)) (λ_=>rfl))) (pss_cons (ps_set (i:=1) lK.nd rfl k4 (lC (yJ T) B kZ (pv 0))) (pss_one (ps_if (pt_not (pt_val (j6 (mU T) B pass0 (pv 0) (pa_cons pe_str pa_nil)) (λ_=>rfl))) (pss_one (ps_ret (pe_tup (pa_cons (jJ 1) (pa_cons jU pa_nil))))) pss_nil))) pss_nil) hR)),?_⟩
 refine⟨tT,λu e=>?_⟩;have e:u=1:=e;subst e;refine⟨_,rfl,x,g,_,rfl,L,rfl,x,g,t,_,l,rfl,L,j,_,rfl,?_⟩;dsimp only;rw[st1 xS];have o:(∀c r,l=c::r->c≠120)->lA l=match mY l with
   | .bad m=>.bad m
   | .ok d r'=>qi d r':=λh=>by
  cases l with
  |nil=>rfl
  |cons c r=>unfold lA;dsimp only;rw[ag (h c r rfl)];all_goals (cases mY (c::r)<;>rfl)
 have M:(∀c r,l=c::r->c≠120)->∀d a,mY l=.ok d a -> uc t a/\d≠[]/\lA l=qi d a:=λh d a e=>by obtain⟨R,S,_⟩:=I8 e;exact⟨⟨(show a <:+ l from⟨d,R.symm⟩).trans j.sfx,j.few⟩,S,by rw[o h,e]⟩
 by_cases z:∃r,l=120::r
 .obtain⟨r,rfl⟩:=z;rw[ag (by simp)];have I:lA (120::r)=oJ [] r:=rfl;have y:=rest [] r j (λG a e=>q G a (I.trans e)) λm e=>N m (I.trans e);rw[FW L]at y;exact y
 .have z':∀c r,l=c::r->c≠120:=λc r e h=>z ⟨r,by rw[e,h]⟩;rw[ai (by cases l with|nil=>rfl|cons c r=>simp[z' c r rfl])];refine⟨_,rfl,x,g,_,rfl,L,rfl,x,g,t,l,rfl,L,j,λd a e=>?_,λm e=>N m (by rw[o z',e])⟩;obtain⟨C,hn,I⟩:=M z' d a e;have en:Cz d=((fv d:Nat):Int):=ag hn;refine⟨_,rfl,x,g,_,rfl,upd_same,rfl,x,g,t,_,a,rfl,upd_same,C,_,rfl,?_⟩;dsimp only;rw[st1 xS];have k:qi d a=.ok (d,none) a -> ∀p,upd H x (pM U g t a) p=none->Q (.ref p) (upd (upd H x (pM U g t a)) p (.tup [.int ((fv d:Nat):Int),.int 0])):=λe=>by rw[<- en];exact q _ _ (I.trans e) C
  cases a with
  |nil=>exact⟨rfl,tT,by show 2<=sizeLine;rw[ao];lia,k rfl⟩
  |cons c r=>
   dsimp only;by_cases y:c=120
   .subst y;rw[ag (by simp)];have eR:qi d (120::r)=oJ d r:=rfl;have v:=rest d r C (λG a e=>q G a (I.trans (eR.trans e))) λm e=>N m (I.trans (eR.trans e));rw[en]at v;exact v
   .rw[ai (by simp[y])];exact⟨rfl,tT,by show 2<=sizeLine;rw[ao];lia,k (by unfold qi;dsimp only;rw[ag y])⟩
def Fj (r:List Int)(g:Int)(t:qz):List Int:=r.set (WY t.2).toNat (r.getD (WY t.2).toNat 0+g*Cz t.1)
def Q3 {r:Li}{g:Int}{t:qz}:(Fj r g t).length=r.length:=bC
def aaT {t:qz}(h:rM t):0<=WY t.2/\WY t.2<=40:=by
 obtain⟨d,o⟩:=t
 match o with
 |none=>exact⟨by show(0:Int)<=0;decide,by show(0:Int)<=40;decide⟩
 |some []=>exact⟨by show(0:Int)<=1;decide,by show(1:Int)<=40;decide⟩
 |some (p::ps)=>have:=(h.pow _ rfl).2.2;show(0:Int)<=((fv (p::ps):Nat):Int)/\((fv (p::ps):Nat):Int)<=40;lia
def abN (cBT C:Addr):Sp:=λv H Q E=>∃(a x d:Addr) (t:Str) (l:List Nat) (r:List Int) (g:Int),v=[.ref a,.int g,.ref x]/\(g=1\/g = -1)/\H a=some (.lst (r.map V.int))/\r.length=41/\H x=some (pM C d t l)/\uc t l /\
 (∀e c,lA l=.ok e c -> uc t c -> ∀h,h x=some (pM C d t (jk c))->h a=some (.lst ((Fj r g e).map V.int))->(∀b o,b≠x->b≠a->H b=some o->h b=some o)->Q .non h)/\∀m,lA l=.bad m->Ci cBT E H C x d t m
def xY:yX P w K mg base 6 "add_term" ["sums","factor","reader"] (abN cBT U):=by
 obtain⟨f,fd,L,b,m⟩:=T.JP.ex;refine⟨f,fd,?_,b,L.kp,m⟩;obtain⟨oc,od,kV,doc,pm,an,cdv,ct,osl,rfl,lk,D⟩:=L.ex;refine fn_of lk D yj (λvs H Q E h=>?_) λA J s H vs Q E R h=>?_
 .obtain⟨a,x,d,t,l,r,g,rfl,_⟩:=h;rfl
 obtain⟨a,x,d,t,l,r,g,rfl,hg,B,hl,I,hs,q,qe⟩:=h;have v:a≠x:=ne_of B I (λz=>nomatch z);refine⟨_,(pss_cons (ps_set (i:=3) yj.nd rfl k4 (lC (Cg T) R kZ (pv 2))) (pss_cons (ps_augS (pv 0) (pe_ix ix_tup (pv 3) jU (λ_ _=>rfl)) G3 (pe_op zb (jJ 1) (pe_ix ix_tup (pv 3) jU (λ_ _=>rfl))) ip_add set_list) (pss_one (ps_expr (lC (oZ T) R pass0 (pv 2)))))),?_⟩
 refine⟨_,rfl,x,d,_,rfl,I,rfl,x,d,t,l,rfl,I,hs,λc u e n p j=>?_,qe⟩;have gd:=(Bd e).2;obtain⟨p0,p1⟩:=aaT gd;obtain⟨k,y⟩:=bc p0;have F:k<r.length:=by lia
 have S:p≠x:=λz=>by rw[z,upd_same]at j;cases j
 have pa:p≠a:=λz=>by rw[z,upd_ne v,B]at j;cases j
 have N:upd (upd H x (pM U d t u)) p (.tup [.int (Cz c.1),.int (WY c.2)]) a=some (.lst (r.map V.int)):=by rw[upd_ne (br pa),upd_ne v];exact B
 have G:(r.map V.int)[k]?=some (.int (r.getD k 0)):=by rw[aE,aa F,gQ,aa F];rfl
 have mk:IntMulOk g (Cz c.1):=CMul.ok (.inl (by rcases hg with rfl|rfl<;>exact⟨by decide,by decide⟩));refine⟨_,rfl,_,rfl,tT,p,_,_,_,rfl,rfl,SqT.of upd_same,rfl,a,_,_,.int (r.getD k 0),rfl,rfl,SqL.of N,by rw[y];exact atI_nat G,?_⟩;refine⟨rfl,_,rfl,tT,p,_,_,_,rfl,rfl,SqT.of upd_same,rfl,_,_,rfl,rfl,mk,_,_,rfl,rfl,a,_,_,k,rfl,rfl,N,?_,?_⟩
 .rw[y,ae];unfold ixN;rw[ai (cL k),ai (fX.mpr F)];rfl
 .have eS:(r.map V.int).set k (.int (r.getD k 0+g*Cz c.1))=(Fj r g c).map V.int:=by unfold Fj;rw[iG,y];rfl
  have O:upd (upd (upd H x (pM U d t u)) p (.tup [.int (Cz c.1),.int (WY c.2)])) a (.lst ((r.map V.int).set k (.int (r.getD k 0+g*Cz c.1)))) x=some (pM U d t u):=by rw[upd_ne (br v),upd_ne (br S),upd_same]
  refine⟨_,rfl,x,d,_,rfl,O,rfl,x,d,t,u,rfl,O,n,?_⟩;refine q c u e n _ upd_same ?_ λb o M Z C=>?_
  .rw[upd_ne v,upd_same];exact congrArg (λz=>some (HO.lst z)) eS
  .have bp:b≠p:=λz=>by rw[upd_ne S]at j;rw[z,j]at C;cases C
   rw[upd_ne M,upd_ne Z,upd_ne bp,upd_ne M];exact C
def rowOf (ts:List (Bool×qz)):List Int:=ts.foldl (λr u=>Fj r (if u.1 then -1 else 1) u.2) (List.replicate 41 0)
def Bx (ts:List (Bool×qz))(g:Bool)(t:qz):rowOf (ts++[(g,t)])=Fj (rowOf ts) (if g then -1 else 1) t:=by unfold rowOf;rw[gu];rfl
def ul (ts:List (Bool×qz)):(rowOf ts).length=41:=by
 unfold rowOf
 suffices h:∀(ts:List (Bool×qz)) (r:List Int),r.length=41->(ts.foldl (λr u=>Fj r (if u.1 then -1 else 1) u.2) r).length=41 from h ts _ (a7)
 intro ts
 induction ts with
 |nil=>exact λ_ h=>h
 |cons u ts i=>exact λr h=>i _ (by rw[Q3];exact h)
structure Jr (H:Hp)(C x dx a:Addr)(t:Str)(l:List Nat)(row:List Int)(H':Hp):Prop where
 rd:H' x=some (pM C dx t l)
 sm:H' a=some (.lst (row.map V.int))
 same:Same H H'
 sfx:uc t l
def Jr.move {H c:Hp}{C x d a:Addr}{t:Str}{l l':List Nat}{r:Li}(j:Jr H C x d a t l r c)(f:H x=none)(e:a≠x)(s:uc t l'):Jr H C x d a t l' r (upd c x (pM C d t l')):=
 ⟨upd_same,by rw[upd_ne e];exact j.sm,λb o h=>by rw[upd_ne (λz=>by rw[z,f]at h;cases h)];exact j.same b o h,s⟩
def Jr.bad {H g:Hp}{C x i a cBT:Addr}{E:XK}{t:Str}{l:List Nat}{r:Li}{m:Nat}(j:Jr H C x i a t l r g)(p:H x=none)
  (h:∀f d,Same H f->H d=none->f d=some (.xd [("place",.int ((t.length-m:Nat):Int))])->E (.ref cBT) (some d) f):Ci cBT E g C x i t m:=λd q k=>by
 have n:H d=none:=by
  cases z:H d with
  |none=>rfl
  |some o=>obtain⟨u,e⟩:=(j.same d o z).some;rw[e]at k;cases k
 refine h _ d (λb o c=>?_) n upd_same;rw[upd_ne (λz=>by rw[z,n]at c;cases c),upd_ne (λz=>by rw[z,p]at c;cases c)];exact j.same b o c
def Jr.next {H i d:Hp}{C x f a:Addr}{t:Str}{l l':List Nat}{g c:Li}(j:Jr H C x f a t l g i)(n:H x=none)(r:d x=some (pM C f t l'))(s:d a=some (.lst (c.map V.int)))(k:∀b o,b≠x->b≠a->i b=some o->d b=some o)(p:uc t l')(m:H a=none):Jr H C x f a t l' c d:=
 ⟨r,s,λb o h=>by
  obtain⟨u,e⟩:=(j.same b o h).some;have z:=j.same b o h;rw[e]at z;rw[k b u (λy=>by rw[y,n]at h;cases h) (λy=>by rw[y,m]at h;cases h) e];exact z,p⟩
def ZX (cBT:Addr):Sp:=λv H Q E=>∃t:Str,v=[.str t]/\t.length<=10000/\(∀ts,Jg t.cps.toList=.ok ts->∀h a,Same H h -> H a=none->h a=some (.lst ((jw ((rowOf ts).map (pl 0))).map V.int))->Q (.ref a) h) /\
 ∀m,Jg t.cps.toList=.error m->∀b d,Same H b->H d=none->b d=some (.xd [("place",.int ((t.length-m:Nat):Int))])->E (.ref cBT) (some d) b
def Yn:yX P w K mg base 7 "read" ["text"] (ZX cBT):=by
 obtain⟨f,fd,Fu,b,m⟩:=T.Z5.ex;refine⟨f,fd,?_,b,Fu.kp,m⟩;obtain⟨oc,od,kV,doc,pm,an,cdv,ct,osl,rfl,lk,hcd⟩:=Fu.ex;refine fn_of lk hcd vM (λvs H Q E h=>?_) λA R s H vs Q E D h=>?_
 .obtain⟨t,rfl,_⟩:=h;rfl
 obtain⟨t,rfl,ht,q,qe⟩:=h;have hs0:uc t t.cps.toList:=⟨List.suffix_refl _,ht⟩;obtain⟨tr,hR,rest⟩:∃tr,PSs (cxOf (sZ P w) P w K mg base ["text","reader","sums","factor"] "read" (defScope Gw) f cdv A R s H E) ((defBody Gw).drop 4) tr/\∀(x d a:Addr) (g:Bool) (l2:List Nat) (H4:Hp),H x=none->H a=none->a≠x->Jr H U x d a t l2 (rowOf []) H4->Jg t.cps.toList=K8 g l2 ->
   tr { nx:=λ_ Z=>Q .non Z,rt:=Q } [some (.str t),some (.ref x),some (.ref a),some (.int (if g then -1 else 1))] H4:=by
  refine⟨_,(pss_cons (ps_expr (lR (xY T) kZ D (pa_cons (pv 2) (pa_cons (jJ 3) (pa_cons (pv 1) pa_nil))))) (pss_cons (ps_while eI (pt_not (pt_val (lC (Dl T) D pass0 (pv 1)) (λ_=>rfl))) (pss_cons (ps_set (i:=3) vM.nd rfl k4 (lC (uF T) D kZ (pv 1))) (pss_one (ps_expr (lR (xY T) kZ D (pa_cons (pv 2) (pa_cons (jJ 3) (pa_cons (pv 1) pa_nil)))))))) (pss_one (ps_ret (vN (ju T) D (pa_cons (DK (xj T) D pass0) (pa_cons (pv 2) pa_nil))))))),λx d a g l2 H4 hx ha G J C=>?_⟩
  refine⟨_,rfl,rfl,_,rfl,a,x,d,t,l2,rowOf [],(if g then -1 else 1),rfl,by cases g;exact .inl rfl;exact .inr rfl,J.sm,ul _,J.rd,J.sfx,λS l' e M H5 r5 s5 k5=>?_,λm e=>J.bad hx (qe m (C.trans ((Y4 g l2).1 m e)))⟩;have J5:Jr H U x d a t (jk l') (rowOf ([]++[(g,S)])) H5:=J.next hx r5 (by rw[Bx];exact s5) k5 M.skip ha;have eB:Jg t.cps.toList=Vk ([]++[(g,S)]) (JB (jk l')):=by rw[C,(Y4 g l2).2 S l' e,<- Hy];cases putK g S (JB (jk l'))<;>rfl
  refine⟨λn σ Z=>∃(ts:List (Bool×qz)) (l:List Nat) (p:Int),n=l.length/\σ=[some (.str t),some (.ref x),some (.ref a),some (.int p)]/\Jr H U x d a t l (rowOf ts) Z/\jk l=l/\Jg t.cps.toList=Vk ts (JB l),⟨_,_,_,_,rfl,rfl,J5,qW _,eB⟩,?_⟩;rintro n σ Z ⟨ts,l,p,rfl,rfl,k,hsk,eC⟩;refine⟨_,rfl,x,d,_,rfl,k.rd,rfl,x,d,t,l,rfl,k.rd,k.sfx,_,rfl,?_⟩;dsimp only;cases l with
  |nil=>
   have eD:Jg t.cps.toList=.ok ts:=by rw[eC];show Except.ok (ts++[])=_;rw[aV]
   have q:=q ts eD;rw[ag (by exact aJ)];refine λx2 B n1 n2 ne=>⟨x2,B,rfl,upd_same,rfl,_,rfl,?_⟩;rw[upd_upd];have ax2:a≠x2:=λy=>by rw[<- y,k.sm]at n1;cases n1
   have adx:a≠B:=λy=>by rw[<- y,k.sm]at n2;cases n2
   have O:∀b,Z b=none->H b=none:=λb j=>by
    cases y:H b with
    |none=>rfl
    |some o=>obtain⟨u,e⟩:=(k.same b o y).some;rw[j]at e;cases e
   refine⟨[.ob 0 0,.ints (rowOf ts)],λ_=>false,(λ_ z=>by cases z),⟨_,_,rfl,⟨x2,rfl,?_⟩,_,_,rfl,⟨a,rfl,.inl ?_⟩,rfl⟩,⟨0,rowOf ts,rfl,by rw[ul];decide⟩,λa2 H7 s7 N e7=>q H7 a2 ?_ ?_ e7⟩
   .exact Z9 _ x2 B (by rw[lZ rfl];exact upd_same)
   .rw[lZ rfl,upd_ne ax2,upd_ne adx];exact k.sm
   .refine Same.trans (λb o j=>?_) s7;rw[upd_ne (λy=>by rw[y,O x2 n1]at j;cases j),upd_ne (λy=>by rw[y,O B n2]at j;cases j)];exact k.same b o j
   .have a2x:a2≠x2:=λy=>by rw[y,upd_same]at N;cases N
    rw[upd_ne a2x]at N;have a2d:a2≠B:=λy=>by rw[y,upd_same]at N;cases N
    rw[upd_ne a2d]at N;exact O a2 N
  |cons c r=>
   rw[ai (by rfl)];have h32:=nG hsk;have mv:∀l',uc t l' -> Jr H U x d a t l' (rowOf ts) (upd Z x (pM U d t l')):=λl' s=>k.move hx G s;refine⟨λσ' H2=>∃(F:List (Bool×qz)) (l':List Nat) (p:Int),l'.length<(c::r).length/\σ'=[some (.str t),some (.ref x),some (.ref a),some (.int p)]/\Jr H U x d a t l' (rowOf F) H2/\jk l'=l'/\Jg t.cps.toList=Vk F (JB l'),λσ' H2 ⟨F,l',p,h1,h2⟩=>⟨l'.length,h1,F,l',p,rfl,h2⟩,?_⟩;refine⟨_,rfl,x,d,_,rfl,k.rd,rfl,x,d,t,c::r,rfl,k.rd,k.sfx,λc' r' e z=>?_,λe=>?_⟩
   .cases e;have J7:=mv (jk r) k.sfx.tail.skip;refine⟨_,rfl,rfl,_,rfl,a,x,d,t,jk r,rowOf ts,sgn c,rfl,by unfold sgn;split<;>simp,J7.sm,ul _,J7.rd,J7.sfx,λS l' e M H5 r5 s5 k5=>?_,λm e=>J7.bad hx (qe m (by rw[eC,(Jz z).1 m e];rfl))⟩;refine⟨ts++[(decide (c=45),S)],jk l',sgn c,?_,rfl,J7.next hx r5 ?_ k5 M.skip ha,qW _,?_⟩
    .have h1:=kY l';have h2:=qH e;have h3:=kY r;show _<r.length+1;lia
    .rw[Bx,show(if decide (c=45)=true then(-1:Int) else 1)=sgn c from by unfold sgn;by_cases y:c=45<;>simp[y]];exact s5
    .rw[eC,(Jz z).2 S l' e,Hy]
   .exact k.bad hx (qe _ (by rw[eC,WL h32 (e c r rfl)];rfl))
 refine⟨_,(pss_cons (ps_set (i:=1) vM.nd rfl k4 (HJ (OD T) D pass0 (pa_cons (pv 0) pa_nil))) (pss_cons (ps_set (i:=2) vM.nd rfl k4 (pe_op op_rep (pe_lst (pa_cons jU pa_nil)) (aaS (zc (by rfl) T.rA) jU))) (pss_cons (ps_expr (lC (oZ T) D pass0 (pv 1))) (pss_cons (ps_set (i:=3) vM.nd rfl k4 (pe_ifExp (pt_val (j6 (mU T) D pass0 (pv 1) (pa_cons pe_str pa_nil)) (λ_=>rfl)) (lC (uF T) D kZ (pv 1)) jU)) hR)))),?_⟩
 refine⟨_,rfl,λx d nx ndx dxx=>⟨x,d,t,rfl,upd_same,rfl,?_⟩⟩;rw[upd_upd];have S1:Same H (upd (upd H d (.own x)) x (pM U d t t.cps.toList)):=λb o j=>by rw[upd_ne (λz=>by rw[z,nx]at j;cases j),upd_ne (λz=>by rw[z,ndx]at j;cases j)];exact .of j
 have X1:upd (upd H d (.own x)) x (pM U d t t.cps.toList) x=some (pM U d t t.cps.toList):=upd_same;generalize upd (upd H d (.own x)) x (pM U d t t.cps.toList)=H1 at S1 X1;refine⟨tT,by show 1<=sizeLine;rw[ao];lia,λz hz=>?_⟩;refine⟨⟨tT,tT⟩,z,_,_,rfl,rfl,upd_same,by show -(2:Int)^63<=40+1;decide,by show(40:Int)+1<2^63;decide,by show 1*41<=sizeLine;rw[ao];decide,λa na=>?_⟩;have az:a≠z:=λy=>by rw[y,upd_same]at na;cases na
 have a1:H1 a=none:=by rw[upd_ne az]at na;exact na
 have G:a≠x:=λy=>by rw[y,X1]at a1;cases a1
 have zx:z≠x:=λy=>by rw[y,X1]at hz;cases hz
 have O:∀b,H1 b=none->H b=none:=λb j=>by
  cases y:H b with
  |none=>rfl
  |some o=>obtain⟨u,e⟩:=(S1 b o y).some;rw[j]at e;cases e
 have J0:Jr H U x d a t t.cps.toList (rowOf []) (upd (upd H1 z (.lst [.int 0])) a (.lst (List.replicate (Int.toNat (40+1)) [V.int 0]).flatten)):=by
  refine⟨by rw[upd_ne (br G),upd_ne (br zx)];exact X1,?_,λb o j=>?_,hs0⟩
  .rw[upd_same];exact congrArg (λy=>some (HO.lst y)) (by decide +kernel)
  .rw[upd_ne (λy=>by rw[y,O a a1]at j;cases j),upd_ne (λy=>by rw[y,O z hz]at j;cases j)];exact S1 b o j
 generalize hH:upd (upd H1 z _) a _=H2;have J0:Jr H U x d a t t.cps.toList (rowOf []) H2:=by rw[<- hH];exact J0
 clear hH;refine⟨_,rfl,x,d,_,rfl,J0.rd,rfl,x,d,t,_,rfl,J0.rd,J0.sfx,?_⟩;have v:=J0.move (l':=jk t.cps.toList) nx G hs0.skip;generalize upd H2 x (pM U d t (jk t.cps.toList))=H3 at v;have C:∀I,jk t.cps.toList=I->Jg t.cps.toList=match I with
  |[]=>K8 false []
  |c::r=>if c=43\/c=45 then K8 (decide (c=45)) (jk r) else K8 false (c::r):=λI e=>by unfold Jg;rw[e];all_goals (cases I<;>rfl)
 generalize el:jk t.cps.toList=I at v;have C:=C I el;refine⟨_,rfl,x,d,_,rfl,v.rd,rfl,x,d,t,_,I,rfl,v.rd,v.sfx,_,rfl,?_⟩;have L:H a=none:=O a a1;have sp:("+-":Str).cps.toList=[43,45]:=by decide +kernel
 rw[sp];dsimp only;cases I with
 |nil=>exact⟨tT,rest x d a false [] H3 nx L G v C⟩
 |cons c r=>
  dsimp only at C;by_cases z:c=43\/c=45
  .rw[ai z]at C;rw[ai (by simpa [Vr] using z)];refine⟨_,rfl,x,d,_,rfl,v.rd,rfl,x,d,t,c::r,rfl,v.rd,v.sfx,λc' r' e _=>?_,λe=>absurd z (e c r rfl)⟩;cases e;have y:=rest x d a (decide (c=45)) (jk r) _ nx L G (v.move nx G v.sfx.tail.skip) C;rw[show(if decide (c=45)=true then(-1:Int) else 1)=sgn c from by unfold sgn;by_cases y:c=45<;>simp[y]]at y;exact y
  .rw[ag z]at C;rw[ag (by simpa [Vr] using z)];exact⟨tT,rest x d a false (c::r) H3 nx L G v C⟩
def jD (t:Str):Int ⊕ List Int:=match Jg t.cps.toList with
 | .error m=>.inl ((t.length-m:Nat):Int)
 | .ok ts=>.inr (jw ((rowOf ts).map (pl 0)))
def ww:yX P w K mg base 7 "read" ["text"] (spX cBT (λt=>t.length<=10000) jD):=by obtain⟨f,a,F,b,k,m⟩:=(Yn (P:=P) (w:=w) (base:=base) T).ex;refine⟨f,a,F.imp λv H Q E h=>?_,b,k,m⟩;obtain⟨t,rfl,c,q,d⟩:=h;exact⟨t,rfl,c,λts e=>q _ (by unfold jD;rw[e]),λm e=>d _ (by unfold jD;rw[e])⟩
def Ow:Ok P w K mg base 3 "scaled" ["kind","f","number"] (Qf K (lU cW cR cBT) (λas=>∃z f n,as=[.ob 0 z,.ints f,.int n]/\f.length<=1000/\n.natAbs<2^9000/\∀m∈f,m.natAbs<2^9000) λas=>match as with|[.ob 0 z,.ints f,.int n]=>Tz z (f.map λm=>n*m)|_=>[]):=by
 refine Uk T.Vh Qx (λ_ ⟨a,b,c,h,_⟩=>h▸rfl) (λf g A o s H E l=>⟨_,(iV (ph (vm (ju T) l (iQ (xv 0) (iQ (j9 (Ao (N':=["one","number"]) (cap:=[some 2]) (oH rfl rfl rfl rfl ⟨⟨rfl,.inr (.inl rfl),JC,.inl rfl,_,rfl,rfl⟩,tT⟩ ⟨rfl,tT⟩ rfl) rfl (xl 1) (λ_ _ _=>(qD 0)) (λ_ _ _=>(o6 (xn 1) (xn 0))))) iU))))),λas k=>?_⟩);obtain⟨z,f,n,rfl,e,j,i⟩:=k;refine⟨⟨⟨rfl,⟨rfl,e,λm d=>⟨rfl,rfl,Ay (n:=9000) (m:=9000) j (i m d)⟩⟩,tT⟩,z,_,rfl,?_⟩,rfl⟩;show(f.map λm=>n*m).length<=1000;rw[ae];exact e
def TF:Ok P w K mg base 3 "slope" ["kind","f"] (Qf K (lU cW cR cBT) (λas=>∃z f,as=[.ob 0 z,.ints f]/\f.length<=1000) λas=>match as with|[.ob 0 z,.ints f]=>jw (((f.mapIdx λk n=>(k:Int)*n).drop 1).map (pl z))|_=>[]):=by
 refine Uk T.Yi Ud (λ_ ⟨a,b,h,_⟩=>h▸rfl) (λf d A o s H E i=>⟨_,(iV (ph (vm (ju T) i (iQ (xv 0) (iQ (j9 (qM (j9 (Zq (N':=["at","number"]) (cap:=[]) (oH rfl rfl rfl rfl tT tT rfl) rfl (by rfl) T.mO (xl 1) (λ_ _ _=>(pg_tup rfl (pgs_cons (qD 0) (pgs_cons (qD 1) pgs_nil)))) (λ_ _ _=>(o6 (xn 0) (xn 1))))) (mX iT) nW (λ_ _=>.inl rfl))) iU))))),λas g=>?_⟩);obtain⟨z,f,rfl,c⟩:=g;refine⟨⟨⟨rfl,⟨⟨⟨rfl,c,λk n e=>⟨rfl,rfl,?_⟩⟩,tT,tT⟩,tT⟩⟩,z,_,rfl,?_⟩,?_⟩
 .have j:k<f.length:=(aC.mp e).1;exact oO ⟨by show -(2:Int)^64<(k:Int);lia,by show(k:Int)<(2:Int)^64;lia⟩
 .refine aG (Tr _ _ _) ?_;rw[List.length_mapIdx];exact c
 .show jw ((Hn (f.mapIdx λk n=>(k:Int)*n) (some ((1:Nat):Int)) none).map (pl z))=_;rw[QG];rfl
open Classical in
def tu (n z:Int):Int:=if h:∃x:Int,0<=x/\x<z/\x*n % z=1 then Classical.choose h else 0
def Gq (j:2<=z)(h0:0<=x)(h:x<z)(b:x*n % z=1):tu n z=x:=by
 have a:∃x:Int,0<=x/\x<z/\x*n % z=1:=⟨x,h0,h,b⟩;have e:tu n z=Classical.choose a:=by unfold tu;rw[dif_pos a]
 obtain⟨c,d,f⟩:=Classical.choose_spec a;rw[e];generalize Classical.choose a=y at c d f;have g:(y*(x*n)) % z=y:=by rw[gX,b,iL,Int.emod_emod,gf c d]
 have i:(x*(y*n)) % z=x:=by rw[gX,f,iL,Int.emod_emod,gf h0 h]
 exact(g.symm.trans (by rw[Int.mul_left_comm y x n])).trans i
def Xd (c:2<=z)(h:∃x:Int,0<=x/\x<z/\x*n % z=1):0<=tu n z/\tu n z<z/\tu n z*n % z=1:=by obtain⟨x,h0,a,b⟩:=h;rw[Gq c h0 a b];exact⟨h0,a,b⟩
def adf (d:2<=z)(h:Int.gcd n z=1):∃x:Int,0<=x/\x<z/\x*n % z=1:=by
 have f:∀(m:Nat) (b r a s:Int),r.toNat<=m->Eu n z b r a s->∃x:Int,0<=x/\x<z/\x*n % z=1:=by
  intro m
  induction m with
  |zero=>
   intro b r a s j I;have:=I.r0;have e:r=0:=by lia
   subst e;have g:=I.end;exact⟨a % z,aS _ (by lia),aH _ (by lia),I.one d (by lia)⟩
  |succ m k=>
   intro b r a s j I;by_cases c:r=0
   .subst c;have g:=I.end;exact⟨a % z,aS _ (by lia),aH _ (by lia),I.one d (by lia)⟩
   .have i:=I.step c;have:=i.rb;have:=i.r0;have:=I.r0;exact k _ _ _ _ (by lia) i
 exact f _ _ _ _ _ (aB _) (Eu.start d)
def Fd (C:Addr):List PV->Rs:=λa=>match a with
 |[.int n,.int z]=>if Int.gcd n z=1 then .val (.int (tu n z)) else .err C
 |_=>.err C
def Kc {x z:Int}(h:(x.natAbs:Int)<=z)(a:z.natAbs<2^9000):x.natAbs<2^9000:=by
 generalize 2^9000=B at *
 lia
def PB:yX P w K mg base 1 "turned" ["number","size"] (spE K (lU cW cR cBT) (λas=>∃n z,as=[.int n,.int z]/\2<=z/\z.natAbs<2^9000) (Fd Y)):=by
 refine okE T.T7 km (λ_ ⟨n,z,h,_⟩=>h▸rfl) (λf cdv A D s H E hr=>⟨_,(iR (ji (i:=2) km.nd rfl k4 (xn 1)) (iR (ji (i:=3) km.nd rfl k4 (jE (xn 0) (xn 1))) (iR (ji (i:=4) km.nd rfl k4 iT) (iR (ji (i:=5) km.nd rfl k4 iT) (iR (oW eI (zZ (xn 3) iT) (iR (ji (i:=6) km.nd rfl k4 (kj (xn 2) (xn 3))) (iR (ji (i:=7) km.nd rfl k4 (pG (xn 2) (o6 (xn 6) (xn 3)))) (iR (ji (i:=8) km.nd rfl k4 (pG (xn 4) (o6 (xn 6) (xn 5)))) (iR (ji (i:=2) km.nd rfl k4 (xn 3)) (iR (ji (i:=3) km.nd rfl k4 (xn 7)) (iR (ji (i:=4) km.nd rfl k4 (xn 5)) (iV (ji (i:=5) km.nd rfl k4 (xn 8)))))))))) (iR (jn (zZ (xn 2) iT) (iV (mR HW rfl T.Vf (by rfl) T.z6 (iQ jc iU))) je) (iV (jb (jE (xn 4) (xn 1)))))))))),λas hp=>?_⟩)
 obtain⟨n,z,rfl,C,e⟩:=hp;refine⟨rfl,λa e0=>?_⟩;have e0:a=z:=e0;subst e0;refine⟨⟨rfl,rfl,by show 0<a;lia⟩,λN y=>?_⟩;have y:N=n % a:=y;refine⟨tT,λz0 B=>?_⟩;have B:z0=0:=B;subst B;refine⟨tT,λo0 v=>?_⟩;have v:o0=1:=v;subst v;refine⟨λl=>∃b r g s o S j,l=[k6 n,k6 a,k6 b,k6 r,k6 g,k6 s,o,S,j]/\Eu n a b r g s,λl=>(Gi l 3).toNat,⟨a,N,0,1,.un,.un,.un,rfl,by rw[y];exact Eu.start C⟩,?_⟩;rintro l ⟨b,r,g,s,o,S,j,rfl,I⟩;have sm:=I.id;have sbz:=I.bz;have rlt:=I.rb;have F:=I.r0;have s9:s.natAbs<2^9000:=Kc (z:=a) (by
  have h1:(s.natAbs:Int)*1<=(s.natAbs:Int)*b:=eZ (by lia) (by lia);have h2:0<=(g.natAbs:Int)*r:=ik (by lia) F;lia) e
 have R:r.natAbs<2^9000:=Kc (z:=a) (by lia) e;refine⟨⟨rfl,tT⟩,λc=>?_,λc=>?_⟩
 .have c:¬r=0:=c;have q0:0<=b / r:=Int.ediv_nonneg (by lia) (by lia);have q1:b / r<=b:=Int.ediv_le_self _ (by lia);have M:(b / r).natAbs<2^9000:=Kc (z:=a) (by lia) e;refine⟨⟨rfl,rfl,by show 0<r;lia,(gw (by show r.natAbs≠0;lia)).mpr R⟩,λq x=>?_⟩;have x:q=b / r:=x;subst x;refine⟨⟨rfl,rfl,rfl,Ay M R⟩,λO J=>?_⟩;refine⟨⟨rfl,rfl,rfl,Ay M s9⟩,λZ L=>?_⟩;have f1:O=b-b / r*r:=J;have f2:Z=g-b / r*s:=L;clear J L;refine⟨rfl,λG u=>?_⟩;have u:G=r:=u;subst u;refine⟨rfl,λQ m=>?_⟩;have m:Q=O:=m;subst m;refine⟨rfl,λs2 p=>?_⟩;have p:s2=s:=p;subst p;refine⟨rfl,λs3 t=>?_⟩;have t:s3=Z:=t;subst t;have k:=I.step c;rw[<- f1,<- f2]at k;refine⟨⟨_,_,_,_,_,_,_,rfl,k⟩,?_⟩;show Q.toNat<G.toNat;have:=k.rb;have:=k.r0;lia
 .have c:¬¬r=0:=c;have c:r=0:=by lia
  subst c;have gc:=I.end;refine⟨⟨rfl,tT⟩,λd=>?_,λd=>?_⟩
  .have d:¬b=1:=d;refine⟨⟨tT,tT⟩,?_⟩;show Fd Y [.int n,.int a]=.err Y;show(if Int.gcd n a=1 then _ else _)=_;rw[ag (by lia)]
  .have d:¬¬b=1:=d;have d:b=1:=by lia
   refine⟨⟨rfl,rfl,by show 0<a;lia⟩,?_⟩;show Fd Y [.int n,.int a]=.val (.int (g % a));show(if Int.gcd n a=1 then _ else _)=_;rw[ai (by lia),Gq C (aS _ (by lia)) (aH _ (by lia)) (I.one C d)]
def rG (xs:List Int):Int:=xs.getD (xs.length-1) 0
def Jy (z:Int)(d r:List Int)(c:Int):List Int:=jw ((List.range r.length).map λn=>if r.length-d.length<=n then pl z (r.getD n 0-c*d.getD (n-(r.length-d.length)) 0) else r.getD n 0)
def abh (a:d.length<=r.length)(n:Nat):(Jy z d r c).getD n 0=if r.length-d.length<=n then pl z (r.getD n 0-c*d.getD (n-(r.length-d.length)) 0) else r.getD n 0:=by
 unfold Jy;rw[pJ];by_cases h:n<r.length
 .rw[kW (by rw[ae,aU];exact h),cu,dj]
 .rw[jL (by rw[ae,aU];lia),ai (by lia),jL (xs:=r) (by lia),jL (xs:=d) (by lia),iH,Int.sub_zero,acG]
structure aeH (z:Int)(f d q r:List Int):Prop where
 eq:∀n,z ∣ cm q d n+r.getD n 0-f.getD n 0
 rr:∀n,pl z (r.getD n 0)=r.getD n 0
 rf:xK r
 qr:∀n,pl z (q.getD n 0)=q.getD n 0
 ql:q.length=f.length+1-d.length
 rl:r.length<=f.length
 q0:∀n,n+d.length<=r.length->q.getD n 0=0
 qt:r.length<f.length->q.getD (f.length-d.length) 0≠0
def w5 (z:Int)(d r:List Int)(c:Int)(i:Nat)(a:List Int):Prop:=a.length=r.length/\∀n,a.getD n 0=if r.length-d.length<=n/\n-(r.length-d.length)<i then pl z (r.getD n 0-c*d.getD (n-(r.length-d.length)) 0) else r.getD n 0
def JQ (z:Int)(d r:Li)(c:Int):w5 z d r c 0 r:=⟨rfl,λn=>by rw[ag (by lia)]⟩
def PP (h:w5 z d r c i row)(hl:d.length<=r.length)(e:i<d.length):w5 z d r c (i+1) (row.set (r.length-d.length+i) (pl z (row.getD (r.length-d.length+i) 0-c*d.getD i 0))):=by
 obtain⟨b,a⟩:=h;refine⟨by rw[bC];exact b,λn=>?_⟩;rw[Ni _ _ _ _ (by lia)];by_cases k:n=r.length-d.length+i
 .subst k;rw[ai rfl,ai (by lia),a,ag (by lia),show r.length-d.length+i-(r.length-d.length)=i by lia]
 .rw[ag k,a];by_cases q:r.length-d.length<=n/\n-(r.length-d.length)<i
  .rw[ai q,ai (by lia)]
  .rw[ag q,ag (by lia)]
def UT (h:w5 z d r c d.length row)(hl:d.length<=r.length):jw row=Jy z d r c:=by
 unfold Jy;refine Tt λn=>?_;rw[h.2 n];by_cases k:n<r.length
 .rw[kW (xs:=(List.range r.length).map _) (by rw[ae,aU];exact k),cu,dj];by_cases q:r.length-d.length<=n
  .rw[ai ⟨q,by lia⟩,ai q]
  .rw[ag (by lia),ag q]
 .rw[jL (xs:=(List.range r.length).map _) (by rw[ae,aU];lia),ag (by lia),jL (by lia)]
def Ft (ns:Li)(h:0<ns.length):ns.getD (jR ns.length (-1)) 0=rG ns:=by
 have e:jR ns.length (-1)=ns.length-1:=by unfold jR;rw[ag (by lia)];lia
 rw[e];rfl
def aad:Int->List Int->Prop:=λz n=>match n with
 |[a,b]=>2<=z/\z.natAbs<2^9000/\a.natAbs<2^9000
 |_=>False
def Ez (C:Addr):Int->List Int->Int ⊕ Addr:=λz n=>match n with
 |[a,b]=>if Int.gcd b z=1 then .inl (pl z (a*tu b z)) else .inr C
 |_=>.inr C
def Zm (g:Int.gcd y z=1):Ez C z [x,y]=.inl (pl z (x*tu y z)):=ai g
def aeh (g:¬Int.gcd y z=1):Ez C z [x,y]=.inr C:=ag g
def zH:KME P w K mg base 2 (Yy cW cR) "over" 2 aad (Ez Y):=by
 refine⟨λH a z ka=>?_⟩;rcases id ka with⟨q0,I,fs,e,hz,R⟩|⟨q0,I,fs,e,hz,R⟩
 .obtain⟨f,M,F,b,m1⟩:=T.Ce;refine⟨cW,I,fs,["self","a","b"],e,R "over" (by decide +kernel),f,M,?_,b,m1,T.qJ⟩;obtain⟨oc,od,kV,G,pm,an,D,ct,osl,rfl,lk,l⟩:=F.ex;refine fn_of lk l zK (λvs H Q E h=>?_) λA q s H vs Q E S h=>?_
  .obtain⟨r,o,rfl,_⟩:=h;show(r.map V.int).length+1=3;rw[ae,o]
  obtain⟨r,o,rfl,j,d,k,ke⟩:=h;obtain⟨x,y,rfl⟩:=aaE o;obtain⟨i,h9,hx⟩:=d;lia
 obtain⟨f,M,F,b,m1⟩:=T.Jk;refine⟨cR,I,fs,["self","a","b"],e,R "over" (by decide +kernel),f,M,?_,b,m1,T.o8⟩;obtain⟨oc,od,kV,G,pm,an,D,ct,osl,rfl,lk,l⟩:=F.ex;refine fn_of lk l Gj (λvs H Q E h=>?_) λA q s H vs Q E S h=>?_
 .obtain⟨r,o,rfl,_⟩:=h;show(r.map V.int).length+1=3;rw[ae,o]
 obtain⟨r,o,rfl,j,d,k,ke⟩:=h;obtain⟨x,y,rfl⟩:=aaE o;obtain⟨i,h9,hx⟩:=d;rcases id j with⟨z0,_⟩|⟨_,J,N,e2,Z,_⟩
 .lia
 obtain⟨C3,L,O,ps3,e3,l3,M3⟩:=(tH (P:=P) (w:=w) (base:=base) T).ex H a z j;obtain⟨f3,fd3,F3,b3,mm3,c3⟩:=M3.ex;refine⟨_,(pss_one (ps_ret (pe_meth (pv 0) c3 mm3 F3 S b3 .nil pass0 (pa_cons (pe_op zb (jJ 1) (lR (PB T) kZ S (pa_cons (jJ 2) (pa_cons (pe_fld (pv 0) rfl) pa_nil)))) pa_nil)))),?_⟩;refine⟨_,rfl,a,L,O,rfl,e3,l3,rfl,rfl,_,rfl,a,cR,J,N,_,rfl,e2,T.o8,T.nU,Z,[.int y,.int z],λ_=>false,(λ_ z=>by cases z),⟨_,_,rfl,rfl,_,_,rfl,rfl,rfl⟩,⟨y,z,rfl,i,h9⟩,λp d v u t C=>?_,λer c u t=>?_⟩
 .have d:Fd Y [.int y,.int z]=.val p:=d;by_cases g:Int.gcd y z=1
  .rw[show Fd Y [.int y,.int z]=.val (.int (tu y z)) from ai g]at d;cases d;have C:v=.int (tu y z):=C;subst C;obtain⟨t0,t1,_⟩:=Xd i (adf i g);have tb:(tu y z).natAbs<2^9000:=by
    generalize 2^9000=B at *
    lia
   refine⟨x,tu y z,rfl,rfl,Ay (n:=9000) (m:=9000) hx tb,[x*tu y z],rfl,rfl,j.same t,tT,?_⟩;exact k _ (Zm g) u t
  .rw[show Fd Y [.int y,.int z]=.err Y from ag g]at d;cases d
 .have c:Fd Y [.int y,.int z]=.err er:=c;by_cases g:Int.gcd y z=1
  .rw[show Fd Y [.int y,.int z]=.val (.int (tu y z)) from ai g]at c;cases c
  .rw[show Fd Y [.int y,.int z]=.err Y from ag g]at c;cases c;exact ke Y (aeh g) u t
def adM:tu 1 3=1:=Gq (by decide) (by decide) (by decide) (by decide)
def adS:tu 2 3=2:=Gq (by decide) (by decide) (by decide) (by decide)
def RJ (a:Int):Prop:=a=1\/a=2
def FO3 {x a:Int}(h:RJ a):Ez Y 3 [x,a]=.inl (pl 3 (x*a)):=by
 rcases h with rfl|rfl
 .rw[Zm (by decide),adM]
 .rw[Zm (by decide),adS]
def Zn {x a:Int}(h:x.natAbs<=2):aad 3 [x,a]:=⟨by decide,bW (show(3:Int).natAbs<=2^14 by decide) (cT (by decide) (by decide)),bW (show x.natAbs<=2^14 by lia) (cT (by decide) (by decide))⟩
def YH (b:List Int):Int:=if b=[] then 1 else pl 3 (1*rG b)
def Bb:Ok P w K mg base 3 "turned_lead" ["kind","f"] (XR K (lU cW cR cBT) (λas=>∃p b,as=[.ob 0 p,.ints b]/\(b=[]\/(p=3/\RJ (rG b)))) λas=>match as with|[.ob 0 _,.ints b]=>YH b|_=>0):=by
 refine uV T.CN zB (λ_ ⟨a,b,h,_⟩=>h▸rfl) (λf g A o s H E j=>⟨_,(iV (jb (Ol (pZ 1) (ym (V3 (Eh 0 (zH T) j (iQ iT (iQ (kO 1 (qw iT) (λ_ _=>rfl)) iU))))) iT))),λas i=>?_⟩);obtain⟨p,b,rfl,d⟩:=i;have k:¬b=[]->p=3/\0<b.length/\Ez Y p [1,b.getD (jR b.length (-1)) 0]=.inl (YH b):=λc=>by
  rcases d with d|⟨rfl,d⟩
  .exact absurd d c
  have l:=lP c;refine⟨rfl,l,?_⟩;rw[Ft b l,FO3 d];unfold YH;rw[ag c]
 refine⟨⟨.inl rfl,λc=>?_,λ_=>tT⟩,?_⟩
 .obtain⟨rfl,l,e⟩:=k c;refine⟨⟨⟨rfl,⟨tT,⟨.inl rfl,tT,by show -(b.length:Int) <= -1;lia,by show(-1:Int)<(b.length:Int);lia⟩,tT⟩,tT,Zn (show(1:Int).natAbs<=2 by decide)⟩,?_⟩,?_⟩
  .show(xN (Ez Y 3 [1,b.getD (jR b.length (-1)) 0])).isV;rw[e];exact tT
  .show(xN (Ez Y 3 [1,b.getD (jR b.length (-1)) 0])).get=.int (QQ (xN (Ez Y 3 [1,b.getD (jR b.length (-1)) 0])).get);rw[e];rfl
 .show(if ¬b=[] then PV.int (QQ (xN (Ez Y p [1,b.getD (jR b.length (-1)) 0])).get) else .int 1)=.int (YH b);by_cases c:b=[]
  .rw[ag (λz=>z c)];subst c;rfl
  .rw[ai c,(k c).2.2];rfl
def Vp (p:Int)(b:List Int):List Int:=Tz p (b.map λm=>YH b*m)
def b9 {n:Int}(h:n.natAbs<=2):n.natAbs<2^9000:=bW (show n.natAbs<=2^14 by lia) (cT (by decide) (by decide))
def acZ {b:Li}(h:b=[]\/RJ (rG b)):(YH b).natAbs<=2:=by
 unfold YH;split
 .decide
 .rename_i c;rcases h with h|h|h
  .exact absurd h c
  .rw[h];decide
  .rw[h];decide
def nR:Ok P w K mg base 4 "with_lead_one" ["kind","f"] (Qf K (lU cW cR cBT) (λas=>∃p b,as=[.ob 0 p,.ints b]/\(b=[]\/(p=3/\RJ (rG b)))/\b.length<=3/\∀m∈b,m.natAbs<=2) λas=>match as with|[.ob 0 p,.ints b]=>Vp p b|_=>[]):=by
 refine Uk T.yQ xM (λ_ ⟨a,b,h,_⟩=>h▸rfl) (λf e A o s H E d=>⟨_,(iV (ph (vm (Ow T) d (iQ (xv 0) (iQ (xl 1) (iQ (xci (Bb T) d (iQ (xv 0) (iQ (xl 1) iU))) iU)))))),λas i=>?_⟩);obtain⟨p,b,rfl,c,j,g⟩:=i;exact⟨⟨⟨rfl,rfl,⟨⟨rfl,rfl,tT⟩,p,b,rfl,c⟩,tT⟩,p,b,YH b,rfl,by lia,b9 (acZ (c.imp id λz=>z.2)),λm h=>b9 (g m h)⟩,rfl⟩
def dvc (f g:List Int):Int:=pl 3 (rG f*rG g)
def dvQ (f g:List Int):List Int:=if f.length<g.length then[] else(List.replicate (f.length+1-g.length) 0).set (f.length-g.length) (dvc f g)
def dvR (f g:List Int):List Int:=if f.length<g.length then f else[]
structure DV (f g:List Int):Prop where
 tf:Tz 3 f=f
 tg:Tz 3 g=g
 ne:g≠[]
 lf:f.length<=3
 lg:g.length<=3
 ld:RJ (rG g)
 fb:∀m∈f,0<=m/\m<=2
 gb:∀m∈g,0<=m/\m<=2
 nx:g.length<=f.length->Jy 3 g f (dvc f g)=[]
def aab {f:Li}(h:∀m∈f,0<=m/\m<=2):(rG f).natAbs<=2:=by
 unfold rG;by_cases c:f.length-1<f.length
 .have:=h _ (FM.getD_mem c);lia
 .rw[jL (by lia)];decide
def mJ:Ok P w K mg base 3 "divided" ["kind","f","g"] (q8 K (lU cW cR cBT) (λas=>∃f g,as=[.ob 0 3,.ints f,.ints g]/\DV f g) λas=>match as with|[.ob 0 _,.ints f,.ints g]=>.tup [.ints (dvQ f g),.ints (dvR f g)]|_=>.non):=by
 refine uV T.Pj lJ (λ_ ⟨a,b,h,_⟩=>h▸rfl) (λf cdv A N s H E F=>⟨_,(iR (vJ (i:=3) lJ.nd rfl k4 (vm (ju T) F (iQ (xv 0) (iQ (xl 1) iU)))) (iR (jm (i:=4) lJ.nd rfl k4 (j9 (vm (ju T) F (iQ (xv 0) (iQ (xl 2) iU))))) (iR (jn (qC (pZ 4)) (iV jY) je) (iR (vJ (i:=5) lJ.nd rfl k4 (xO (qQ (iQ iT iU)) (m9 (pG (lw 3 T.jO) (lw 4 T.jO)) iT) (λ_=>rfl))) (iR (oW aT (ac3 (lw 3 T.jO) (lw 4 T.jO)) (iR (ji (i:=6) lJ.nd rfl k4 (pG (lw 3 T.jO) (lw 4 T.jO))) (iR (ji (i:=7) lJ.nd rfl k4 (ym (V3 (Eh 0 (zH T) F (iQ (kO 3 (qw iT) (λ_ _=>rfl)) (iQ (kO 4 (qw iT) (λ_ _=>rfl)) iU)))))) (iR (t7 5 (xn 6) (xn 7)) (iR (sy (k:=8) (j:=9) aT rfl (by rfl) T.mO (xl 4) (pg_tup rfl (pgs_cons (pg_name (i:=8) lJ.nd rfl k4) (pgs_cons (pg_name (i:=9) lJ.nd rfl k4) pgs_nil))) (iV (t7 3 (m9 (xn 6) (xn 8)) (wM 0 (tH T) F (iQ (pG (kO 3 (m9 (xn 6) (xn 8)) (λ_ _=>rfl)) (o6 (xn 7) (xn 9))) iU))))) (iV (Nr 3 (tQ T) F))))))) (mK 3 (mK 5 (iV (jb (mH (iQ (xl 5) (iQ (xl 3) iU)))))))))))),λas hp=>?_⟩)
 obtain⟨f,d,rfl,D⟩:=hp;have lf:=D.lf;have ld:=D.lg;have hd:=lP D.ne;refine⟨⟨⟨rfl,rfl,tT⟩,3,f,rfl,by lia⟩,λl y=>?_⟩;replace y:l=f:=dm y D.tf;refine⟨⟨⟨rfl,rfl,tT⟩,3,d,rfl,by lia⟩,λc L=>?_⟩;replace L:c=d:=dm L D.tg;subst y L;refine iZ (ρ':=[.fr (.ob 0 3),k7 l,k7 c,.ow (.ints l),k7 c,.un,.un,.un,.un,.un]) rfl ?_;refine⟨.inl rfl,λq=>?_,λ_=>?_⟩
 .have q:¬¬c=[]:=q;exact q D.ne
 refine⟨⟨⟨⟨tT,tT⟩,tT⟩,⟨⟨.inr (.inl rfl),.inl rfl⟩,tT⟩,?_,?_⟩,λG t=>?_⟩
 .show -(2:Int)^63<=(l.length:Int)-(c.length:Int)+1;lia
 .show((l.length:Int)-(c.length:Int)+1).toNat<=1000;lia
 replace t:G=List.replicate (l.length+1-c.length) 0:=by rw[show l.length+1-c.length=((l.length:Int)-(c.length:Int)+1).toNat by lia];exact t
 refine⟨λx=>∃q r v6 v7 v u,x=[.fr (.ob 0 3),k7 l,k7 c,.ow (.ints r),k7 c,.ow (.ints q),v6,v7,v,u]/\((q=G/\r=l)\/(c.length<=l.length/\q=G.set (l.length-c.length) (dvc l c)/\r=[])),λx=>(getL x 3).length,⟨G,l,.un,.un,.un,.un,rfl,.inl ⟨rfl,rfl⟩⟩,?_⟩;rintro x ⟨q,r,v6,v7,v,u,rfl,W⟩;refine⟨⟨.inr (.inl rfl),.inl rfl⟩,λk=>?_,λk=>?_⟩
 .have k:(c.length:Int)<=(r.length:Int):=k;obtain⟨rfl,rfl⟩:q=G/\r=l:=by
   rcases W with W|⟨_,_,rfl⟩
   .exact W
   .have:([]:List Int).length=0:=rfl;lia
  have B:c.length<=r.length:=by lia
  have O:=D.nx B;refine⟨⟨.inr (.inl rfl),.inl rfl⟩,λz o=>?_⟩;replace o:z=((r.length-c.length:Nat):Int):=by have o:z=(r.length:Int)-(c.length:Int):=o;lia
  subst o;have Z:r.getD (jR r.length (-1)) 0=rG r:=Ft r (by lia);have le:c.getD (jR c.length (-1)) 0=rG c:=Ft c hd;have J:Ez Y 3 [r.getD (jR r.length (-1)) 0,c.getD (jR c.length (-1)) 0]=.inl (dvc r c):=by rw[Z,le];exact FO3 D.ld
  refine⟨⟨⟨⟨rfl,⟨⟨.inr (.inl rfl),tT,by show -(r.length:Int) <= -1;lia,by show(-1:Int)<(r.length:Int);lia⟩,⟨.inl rfl,tT,by show -(c.length:Int) <= -1;lia,by show(-1:Int)<(c.length:Int);lia⟩,tT⟩,tT,?_⟩,?_⟩,?_⟩,λp m=>?_⟩
  .show aad 3 [r.getD (jR r.length (-1)) 0,c.getD (jR c.length (-1)) 0];rw[Z];exact Zn (aab D.fb)
  .show(xN (Ez Y 3 [r.getD (jR r.length (-1)) 0,c.getD (jR c.length (-1)) 0])).isV;rw[J];exact tT
  .show(xN (Ez Y 3 [r.getD (jR r.length (-1)) 0,c.getD (jR c.length (-1)) 0])).get=.int (QQ (xN (Ez Y 3 [r.getD (jR r.length (-1)) 0,c.getD (jR c.length (-1)) 0])).get);rw[J];rfl
  replace m:p=dvc r c:=by have m:p=QQ (xN (Ez Y 3 [r.getD (jR r.length (-1)) 0,c.getD (jR c.length (-1)) 0])).get:=m;rw[J]at m;exact m
  rw[<- m]at O W;have ql:q.length=r.length+1-c.length:=by rw[t,a7]
  refine iZ (ρ':=[.fr (.ob 0 3),k7 r,k7 c,.ow (.ints r),k7 c,.ow (.ints q),k6 ((r.length-c.length:Nat):Int),k6 p,v,u]) rfl ?_;have M:jR q.length ((r.length-c.length:Nat):Int)=r.length-c.length:=by unfold jR;rw[ai (by lia)];lia
  refine⟨rfl,rfl,rfl,⟨by show -(q.length:Int)<=((r.length-c.length:Nat):Int);lia,by show((r.length-c.length:Nat):Int)<(q.length:Int);lia⟩,?_⟩;refine iZ (ρ':=[.fr (.ob 0 3),k7 r,k7 c,.ow (.ints r),k7 c,.ow (.ints (q.set (r.length-c.length) p)),k6 ((r.length-c.length:Nat):Int),k6 p,v,u]) (by rw[<- M];rfl) ?_;refine⟨rfl,λi x=>∃e v u,x=[.fr (.ob 0 3),k7 r,k7 c,.ow (.ints e),k7 c,.ow (.ints (q.set (r.length-c.length) p)),k6 ((r.length-c.length:Nat):Int),k6 p,v,u]/\w5 3 c r p i e,⟨r,v,u,rfl,JQ 3 c r p⟩,?_,?_⟩
  .rintro i n x C ⟨e,v,u,rfl,I⟩;have C:c[i]?=some n:=C;have hi:=(aC.mp C).1;have en:c.getD i 0=n:=getD_at' C;have R:-(e.length:Int)<=((r.length-c.length:Nat):Int)+(i:Int):=by lia
   have S:((r.length-c.length:Nat):Int)+(i:Int)<(e.length:Int):=by rw[I.1];lia
   have ix:jR e.length (((r.length-c.length:Nat):Int)+(i:Int))=r.length-c.length+i:=by unfold jR;rw[ai (by lia)];lia
   have ns:=D.gb n (bn C);refine⟨⟨rfl,⟨⟨⟨.inr (.inl rfl),⟨rfl,rfl⟩,R,S⟩,rfl,rfl,yW ⟨by show -(2:Int)^64<n;lia,by show n<(2:Int)^64;lia⟩⟩,tT⟩,tT,tT⟩,rfl,⟨rfl,rfl⟩,⟨R,S⟩,e.set (r.length-c.length+i) (pl 3 (e.getD (r.length-c.length+i) 0-p * n)),k6 i,k6 n,?_,?_⟩
   .rw[<- ix];rfl
   .have:=PP I B hi;rw[en]at this;exact this
  .rintro x ⟨e,v,u,rfl,I⟩;have Q:=(UT (show w5 3 c r p c.length e from I) B).trans O;refine⟨rfl,tT,⟨q.set (r.length-c.length) p,[],k6 ((r.length-c.length:Nat):Int),k6 p,v,u,?_,.inr ⟨B,by rw[m],rfl⟩⟩,?_⟩
   .rw[<- Q];rfl
   .show(jw e).length<r.length;rw[Q];show 0<_;lia
 .have k:¬(c.length:Int)<=(r.length:Int):=k;refine⟨⟨rfl,rfl,tT⟩,?_⟩;show PV.tup [.ints q,.ints r]=PV.tup [.ints (dvQ l c),.ints (dvR l c)];unfold dvQ dvR;rcases W with⟨rfl,rfl⟩|⟨B,rfl,rfl⟩
  .rw[ai (by lia),ai (by lia),t,show r.length+1-c.length=0 by lia];rfl
  .rw[ag (by lia),ag (by lia),t]
structure CO (f g:List Int):Prop where
 dv:DV f g
 le:g.length<=f.length
def DQ:Ok P w K mg base 5 "common" ["kind","f","g"] (Qf K (lU cW cR cBT) (λas=>∃f g,as=[.ob 0 3,.ints f,.ints g]/\CO f g) λas=>match as with|[.ob 0 _,.ints _,.ints g]=>Vp 3 g|_=>[]):=by
 refine Uk T.Q9 oX (λ_ ⟨a,b,h,_⟩=>h▸rfl) (λf z A u s H E p=>⟨_,(iR (jm (i:=3) oX.nd rfl k4 (j9 (vm (ju T) p (iQ (xv 0) (iQ (xl 1) iU))))) (iR (jm (i:=4) oX.nd rfl k4 (j9 (vm (ju T) p (iQ (xv 0) (iQ (xl 2) iU))))) (iR (oW aT (pZ 4) (iR (jm (i:=5) oX.nd rfl k4 (xl_of (jd (xc (mJ T) p (iQ (xv 0) (iQ (xl 3) (iQ (xl 4) iU)))) iT (λ_ _=>rfl)))) (iR (jm (i:=3) oX.nd rfl k4 (xl 4)) (iV (jm (i:=4) oX.nd rfl k4 (xl 5)))))) (iV (ph (vm (nR T) p (iQ (xv 0) (iQ (xl 3) iU)))))))),λas G=>?_⟩)
 obtain⟨f,g,rfl,C⟩:=G;have D:=C.dv;have J:=D.lf;have I:=D.lg;refine⟨⟨⟨rfl,rfl,tT⟩,3,f,rfl,by lia⟩,λj l=>?_⟩;replace l:j=f:=dm l D.tf;refine⟨⟨⟨rfl,rfl,tT⟩,3,g,rfl,by lia⟩,λd o=>?_⟩;replace o:d=g:=dm o D.tg;subst l o;refine iZ (ρ':=[.fr (.ob 0 3),k7 j,k7 d,k7 j,k7 d,.un]) rfl ?_;refine⟨λq=>∃b r x,q=[.fr (.ob 0 3),k7 j,k7 d,k7 b,k7 r,x]/\((b=j/\r=d)\/(b=d/\r=[])),λq=>(getL q 4).length,⟨j,d,.un,rfl,.inl ⟨rfl,rfl⟩⟩,?_⟩;rintro q ⟨b,r,x,rfl,W⟩;refine⟨.inl rfl,λk=>?_,λk=>?_⟩
 .have k:¬r=[]:=k;obtain⟨rfl,rfl⟩:b=j/\r=d:=by
   rcases W with W|⟨_,W⟩
   .exact W
   .exact absurd W k
  have B:dvR b r=[]:=ag (by have:=C.le;lia);refine⟨⟨⟨⟨⟨rfl,rfl,rfl,tT⟩,b,r,rfl,D⟩,tT,⟨by show(-2:Int)<=1;decide,by show(1:Int)<2;decide⟩⟩,rfl⟩,λc t=>?_⟩;replace t:c=[]:=dm t B;subst t;refine⟨rfl,λy n=>⟨rfl,λv e=>⟨⟨r,[],k7 [],?_,.inr ⟨rfl,rfl⟩⟩,?_⟩⟩⟩
  .have n:y=r:=n;have e:v=[]:=e;rw[n,e];rfl
  .have e:v=[]:=e;show v.length<r.length;rw[e];exact lP k
 .have k:¬¬r=[]:=k;obtain rfl:b=d:=by
   rcases W with⟨_,rfl⟩|⟨W,_⟩
   .exact absurd (cE.mp k) D.ne
   .exact W
  exact⟨⟨⟨rfl,rfl,tT⟩,3,b,rfl,.inr ⟨rfl,D.ld⟩,I,λm F=>by have:=D.gb m F;lia⟩,rfl⟩
def abS (d:0<=z)(h:z<((2^9000:Nat):Int))(a:∀m∈f,m.natAbs<2^9000):∀m∈Tz z f,m.natAbs<2^9000:=λm c=>by obtain⟨k,b,rfl⟩:=Z1 c;exact T8 d h (a k b)
def U3:Ok P w K mg base 3 "times" ["kind","f","g"] (Qf K (lU cW cR cBT) (λas=>∃z f g,as=[.ob 0 z,.ints f,.ints g]/\0<=z/\z<((2^9000:Nat):Int)/\f.length+g.length<=1000/\(∀m∈f,m.natAbs<2^9000)/\(∀m∈g,m.natAbs<2^9000)) λas=>match as with|[.ob 0 z,.ints f,.ints g]=>Tz z (vR (Tz z f) (Tz z g))|_=>[]):=by
 refine Uk T.WD ou (λ_ ⟨a,b,c,h,_⟩=>h▸rfl) (λf M A C s H E e=>⟨_,(iR (jm (i:=3) ou.nd rfl k4 (j9 (vm (ju T) e (iQ (xv 0) (iQ (xl 1) iU))))) (iR (jm (i:=4) ou.nd rfl k4 (j9 (vm (ju T) e (iQ (xv 0) (iQ (xl 2) iU))))) (iR (vJ (i:=5) ou.nd rfl k4 (xO (qQ (iQ iT iU)) (m9 (lw 3 T.jO) (lw 4 T.jO)) (λ_=>rfl))) (iR (sy (k:=6) (j:=7) aT rfl (by rfl) T.mO (xl 3) (pg_tup rfl (pgs_cons (pg_name (i:=6) ou.nd rfl k4) (pgs_cons (pg_name (i:=7) ou.nd rfl k4) pgs_nil))) (iV (sy (k:=8) (j:=9) aT rfl (by rfl) T.mO (xl 4) (pg_tup rfl (pgs_cons (pg_name (i:=8) ou.nd rfl k4) (pgs_cons (pg_name (i:=9) ou.nd rfl k4) pgs_nil))) (iV (Ox 5 (m9 (xn 6) (xn 8)) (o6 (xn 7) (xn 9)) wA))))) (mK 5 (iV (ph (vm (ju T) e (iQ (xv 0) (iQ (xl 5) iU)))))))))),λas hp=>?_⟩)
 obtain⟨z,f,g,rfl,G,B,hl,Q,R⟩:=hp;refine⟨⟨⟨rfl,rfl,tT⟩,z,f,rfl,by lia⟩,λd l=>?_⟩;have l:d=Tz z f:=l;refine⟨⟨⟨rfl,rfl,tT⟩,z,g,rfl,by lia⟩,λgo o=>?_⟩;have o:go=Tz z g:=o;have lf:d.length<=f.length:=by rw[l];exact K1 _ _
 have lg:go.length<=g.length:=by rw[o];exact K1 _ _
 have J:∀m∈d,m.natAbs<2^9000:=by rw[l];exact abS G B Q
 have L:∀m∈go,m.natAbs<2^9000:=by rw[o];exact abS G B R
 have N:((d.length:Int)+(go.length:Int)).toNat=d.length+go.length:=by lia
 refine⟨⟨⟨⟨tT,tT⟩,tT⟩,⟨.inl rfl,.inl rfl⟩,?_,?_⟩,λI t=>?_⟩
 .show -(2:Int)^63<=(d.length:Int)+(go.length:Int);lia
 .show((d.length:Int)+(go.length:Int)).toNat<=1000;lia
 have t:I=List.replicate (d.length+go.length) 0:=by rw[<- N];exact t
 refine⟨rfl,λi u=>∃r D F v p,u=[.fr (.ob 0 z),k7 f,k7 g,k7 d,k7 go,.ow (.ints r),D,F,v,p]/\yd d go i 0 r,⟨I,.un,.un,.un,.un,rfl,by rw[t];exact Qn d go⟩,?_,?_⟩
 .rintro i n u y ⟨r,D,F,v,p,rfl,e⟩;have y:d[i]?=some n:=y;have S:=Zf y;refine⟨rfl,λj u=>∃r v p,u=[.fr (.ob 0 z),k7 f,k7 g,k7 d,k7 go,.ow (.ints r),k6 i,k6 n,v,p]/\yd d go i j r,⟨r,v,p,rfl,e⟩,?_,?_⟩
  .rintro j m u x ⟨r,v,p,rfl,e⟩;have x:go[j]?=some m:=x;have Z:=Zf x;have l1:-(r.length:Int)<=(i:Int)+(j:Int):=by lia
   have l2:(i:Int)+(j:Int)<(r.length:Int):=by have:=e.1;lia
   have ix:jR r.length ((i:Int)+(j:Int))=i+j:=by unfold jR;rw[ai (by lia)];lia
   refine⟨rfl,⟨rfl,rfl⟩,⟨l1,l2⟩,⟨rfl,rfl,?_⟩,tT,r.set (i+j) (r.getD (i+j) 0+n*m),k6 j,k6 m,?_,?_⟩
   .exact Ay (n:=9000) (m:=9000) (J n (Rq y)) (L m (Rq x))
   .rw[<- ix];rfl
   .have q:=Uo e S Z;rw[getD_at' y,getD_at' x]at q;exact q
  .rintro u ⟨r,v,p,rfl,e⟩;exact⟨r,_,_,v,p,rfl,Tc e⟩
 .rintro u ⟨r,D,F,v,p,rfl,e⟩;have O:=row_end e;refine⟨⟨⟨rfl,rfl,tT⟩,z,r,rfl,?_⟩,?_⟩
  .rw[e.1];lia
  .show jw (r.map (pl z))=_;rw[O,l,o];rfl
def acy:DV [] [0,1]:=⟨by decide,by decide,by decide,by decide,by decide,.inl rfl,by decide,by decide,(λh=>absurd h (by decide))⟩
def adW:DV [1] [0,1]:=⟨by decide,by decide,by decide,by decide,by decide,.inl rfl,by decide,by decide,(λh=>absurd h (by decide))⟩
def Xe:DV [0,1] [0,1]:=⟨by decide,by decide,by decide,by decide,by decide,.inl rfl,by decide,by decide,λ_=>by decide⟩
def it1 {a b:PV}:pR (.tup [a,b]) 1:=⟨by show(-2:Int)<=1;decide,by show(1:Int)<2;decide⟩
def ad9 (x y:Li):pW (.tup [.ints x,.ints y]) 1=.ints (pvL (pW (.tup [.ints x,.ints y]) 1)):=rfl
def X4 {a b:PV}:pR (.tup [a,b]) 0:=⟨by show(-2:Int)<=0;decide,by show(0:Int)<2;decide⟩
def z39:(3:Int)<((2^9000:Nat):Int):=fX.mpr (bW (show 3<=2^14 by decide) (cT (by decide) (by decide)))
def sW:Ok P w K mg base 4 "times_by" ["kind","one","other","g"] (aaq K (lU cW cR cBT) (λas=>∃a,as=[.ob 0 3,.ints a,.ints [],.ints [0,1]]/\(a=[1]\/a=[])) λ_=>[]):=by
 refine uV T.K6 IK (λ_ ⟨a,h,_⟩=>h▸rfl) (λf j A o s H E d=>⟨_,(iV (jb (xl_of (jd (xc (mJ T) d (iQ (xv 0) (iQ (j9 (vm (U3 T) d (iQ (xv 0) (iQ (xl 1) (iQ (xl 2) iU))))) (iQ (xl 3) iU)))) iT (λ_ _=>rfl))))),λas k=>?_⟩);obtain⟨a,rfl,b⟩:=k;have e:Tz 3 (vR (Tz 3 a) (Tz 3 []))=[]:=by rcases b with rfl|rfl<;>decide
 have i:a.length<=1:=by rcases b with rfl|rfl<;>decide
 have g:∀m∈a,m.natAbs<2^9000:=by
  intro m c;refine b9 ?_;rcases b with rfl|rfl
  .rw[ap.mp c];decide
  .cases c
 refine⟨⟨⟨⟨⟨rfl,⟨⟨rfl,rfl,rfl,tT⟩,3,a,[],rfl,by decide,z39,aG i (by decide),g,(λ_ h=>by cases h)⟩,rfl,tT⟩,[],[0,1],?_,acy⟩,tT,it1⟩,ad9 _ _⟩,?_⟩
 .show[PV.ob 0 3,.ints (Tz 3 (vR (Tz 3 a) (Tz 3 []))),.ints [0,1]]=_;rw[e]
 .show PV.ints (pvL (pW (.tup [.ints (dvQ (Tz 3 (vR (Tz 3 a) (Tz 3 []))) [0,1]),.ints (dvR (Tz 3 (vR (Tz 3 a) (Tz 3 []))) [0,1])]) 1))=PV.ints [];rw[e];rfl
def raC (m:Int):List Int:=if m=0 then[1] else[]
def CZ:Ok P w K mg base 5 "raised" ["kind","f","many","g"] (aaq K (lU cW cR cBT) (λas=>∃f m,as=[.ob 0 3,.ints f,.int m,.ints [0,1]]/\((f=[0,1]/\m=3)\/(f=[]/\m=0))) λas=>match as with|[_,_,.int m,_]=>raC m|_=>[]):=by
 refine uV T.UW nH (λ_ ⟨a,b,h,_⟩=>h▸rfl) (λf C A t s H E r=>⟨_,(iR (jm (i:=4) nH.nd rfl k4 (xl_of (jd (xc (mJ T) r (iQ (xv 0) (iQ (j9 (qQ (iQ iT iU))) (iQ (xl 3) iU)))) iT (λ_ _=>rfl)))) (iR (jm (i:=5) nH.nd rfl k4 (xl_of (jd (xc (mJ T) r (iQ (xv 0) (iQ (xl 1) (iQ (xl 3) iU)))) iT (λ_ _=>rfl)))) (iR (ji (i:=6) nH.nd rfl k4 (xn 2)) (iR (oW aT (Dw (xn 6) iT) (pI (jn (mQ (jE (xn 6) iT) iT) (iV (jm (i:=4) nH.nd rfl k4 (xcL (sW T) r (iQ (xv 0) (iQ (xl 4) (iQ (xl 5) (iQ (xl 3) iU))))))) je) (iR (jm (i:=5) nH.nd rfl k4 (xcL (sW T) r (iQ (xv 0) (iQ (xl 5) (iQ (xl 5) (iQ (xl 3) iU)))))) (iV (zp (i:=6) nH.nd rfl k4 iT iop_fdiv))))) (iV (jb (xl 4))))))),λas G=>?_⟩)
 obtain⟨f,m,rfl,v⟩:=G;have u:DV f [0,1]/\dvR f [0,1]=[]:=by
  rcases v with⟨rfl,_⟩|⟨rfl,_⟩
  .exact⟨Xe,rfl⟩
  .exact⟨acy,rfl⟩
 have I:m=3\/m=0:=v.imp (λz=>z.2) λz=>z.2;refine⟨⟨⟨⟨⟨rfl,⟨⟨tT,tT⟩,tT⟩,rfl,tT⟩,[1],[0,1],rfl,adW⟩,tT,it1⟩,rfl⟩,λy d=>?_⟩;replace d:y=[1]:=d;refine⟨⟨⟨⟨⟨rfl,rfl,rfl,tT⟩,f,[0,1],rfl,u.1⟩,tT,it1⟩,rfl⟩,λB j=>?_⟩;replace j:B=[]:=dm j u.2;subst d j;refine⟨rfl,λc n=>?_⟩;replace n:c=m:=n;subst n;refine iZ (ρ':=[.fr (.ob 0 3),k7 f,k6 c,k7 [0,1],k7 [1],k7 [],k6 c]) rfl ?_;refine⟨λp=>∃(P:List Int) (L:Int),p=[.fr (.ob 0 3),k7 f,k6 c,k7 [0,1],k7 P,k7 [],k6 L]/\((P=[1]/\L=c)\/(P=[]/\c=3/\(L=1\/L=0))),λp=>(Gi p 6).toNat,⟨[1],c,rfl,.inl ⟨rfl,rfl⟩⟩,?_⟩;rintro p ⟨P,L,rfl,W⟩;refine⟨⟨rfl,tT⟩,λk=>?_,λk=>?_⟩
 .have k:L > 0:=k;have D:(L=3\/L=1)/\c=3:=by lia
  have F:P=[1]\/P=[]:=W.imp (λz=>z.1) λz=>z.1;refine⟨λp=>p=[.fr (.ob 0 3),k7 f,k6 c,k7 [0,1],k7 [],k7 [],k6 L],⟨⟨⟨rfl,tT,by show(0:Int)<2;decide⟩,tT⟩,λo=>?_,λo=>?_⟩,?_⟩
  .refine⟨⟨⟨rfl,rfl,rfl,rfl,tT⟩,P,rfl,F⟩,λx e=>?_⟩;replace e:x=[]:=e;subst e;rfl
  .have o:¬L % 2=1:=o;lia
  rintro p rfl;refine⟨⟨⟨rfl,rfl,rfl,rfl,tT⟩,[],rfl,.inr rfl⟩,λS g=>?_⟩;replace g:S=[]:=g;subst g;refine⟨rfl,tT,⟨by decide,by decide⟩,λl q=>⟨⟨[],l,rfl,.inr ⟨rfl,D.2,?_⟩⟩,?_⟩⟩
  .have q:l=L / 2:=q;lia
  .have q:l=L / 2:=q;show l.toNat<L.toNat;lia
 .have k:¬L > 0:=k;refine⟨rfl,?_⟩;show PV.ints P=PV.ints (raC c);unfold raC;rcases W with⟨rfl,rfl⟩|⟨rfl,rfl,_⟩
  .rw[ai (by lia)]
  .rfl
def Cj:Ok P w K mg base 6 "power_rows" ["kind","f","count","g"] (q8 K (lU cW cR cBT) (λas=>as=[.ob 0 3,.ints [],.int 1,.ints [0,1]]) λ_=>jG [[1]]):=by
 refine uV T.Fp lD (λas h=>by rw[h];rfl) (λf n A o s H E l=>⟨_,(iR (ji (i:=4) lD.nd rfl k4 (pG (oR T.jO (j9 (vm (ju T) l (iQ (xv 0) (iQ (xl 3) iU))))) iT)) (iR (jm (i:=5) lD.nd rfl k4 (xcL (CZ T) l (iQ (xv 0) (iQ (xl 1) (iQ iT (iQ (xl 3) iU)))))) (iR (sY (i:=6) lD.nd rfl k4 (nO iU)) (iR (wF (k:=7) aT rfl (by rfl) T.qR (xn 2) lD.nd rfl k4 (iR (wD 6 (j9 (FJ (xl 5) (j9 (xO (qQ (iQ iT iU)) (pG (xn 4) (lw 5 T.jO)) (λ_=>rfl)))))) (iV (jm (i:=5) lD.nd rfl k4 (xcL (sW T) l (iQ (xv 0) (iQ (xl 5) (iQ (xl 1) (iQ (xl 3) iU))))))))) (mK 6 (iV (jb (xv 6)))))))),λas q=>?_⟩)
 subst q;refine⟨⟨⟨⟨⟨rfl,rfl,tT⟩,3,[0,1],rfl,by decide⟩,tT⟩,tT⟩,λdg a=>?_⟩;replace a:dg=1:=a;refine⟨⟨⟨rfl,rfl,tT,rfl,tT⟩,[],0,rfl,.inr ⟨rfl,rfl⟩⟩,λt c=>?_⟩;replace c:t=[1]:=c;refine⟨tT,λr b=>?_⟩;replace b:r=[]:=b;subst a c b;refine iZ (ρ':=[.fr (.ob 0 3),k7 [],k6 1,k7 [0,1],k6 1,k7 [1],.ow (.lst []),.un]) rfl ?_;refine⟨rfl,⟨by show -(2:Int)^62<=1;decide,by show(1:Int)<2^62;decide⟩,λi d=>(i=0/\d=[.fr (.ob 0 3),k7 [],k6 1,k7 [0,1],k6 1,k7 [1],.ow (.lst []),.un])\/(i=1/\∃v j,d=[.fr (.ob 0 3),k7 [],k6 1,k7 [0,1],k6 1,v,.ow (jG [[1]]),j]),.inl ⟨rfl,rfl⟩,?_,?_⟩
 .rintro i d m g;have m:i<1:=m;obtain⟨rfl,rfl⟩:i=0/\d=[.fr (.ob 0 3),k7 [],k6 1,k7 [0,1],k6 1,k7 [1],.ow (.lst []),.un]:=by
   rcases g with g|⟨e,_⟩
   .exact g
   .lia
  refine⟨rfl,⟨rfl,⟨⟨⟨tT,tT⟩,tT⟩,⟨rfl,.inl rfl⟩,by show -(2:Int)^63<=1-1;decide,by show((1:Int)-1).toNat<=1000;decide⟩,bv (small1000 (by show 1+0<=1000;decide))⟩,small1000 (by show 0<=1000;decide),?_⟩;refine iZ (ρ':=[.fr (.ob 0 3),k7 [],k6 1,k7 [0,1],k6 1,k7 [1],.ow (jG [[1]]),k6 0]) rfl ?_;exact⟨⟨⟨rfl,rfl,rfl,rfl,tT⟩,[1],rfl,.inl rfl⟩,λu p=>.inr ⟨rfl,_,_,rfl⟩⟩
 .rintro d g;obtain⟨v,j,rfl⟩:∃v j,d=[.fr (.ob 0 3),k7 [],k6 1,k7 [0,1],k6 1,v,.ow (jG [[1]]),j]:=by
   rcases g with⟨e,_⟩|⟨_,h⟩
   .exact absurd (show(1:Nat)=0 from e) (by decide)
   .exact h
  exact⟨rfl,rfl⟩
def Jf:Ok P w K mg base 7 "powering" ["kind","g"] (q8 K (lU cW cR cBT) (λas=>as=[.ob 0 3,.ints [0,1]]) λ_=>jG [[1]]):=by
 refine uV T.Ln ye (λas h=>by rw[h];rfl) (λf c A o s H E a=>⟨_,(iR (ji (i:=2) ye.nd rfl k4 (pG (oR T.jO (j9 (vm (ju T) a (iQ (xv 0) (iQ (xl 1) iU))))) iT)) (iV (jb (xc (Cj T) a (iQ (xv 0) (iQ (xcL (CZ T) a (iQ (xv 0) (iQ (j9 (qQ (iQ iT (iQ iT iU)))) (iQ (KQ (ksz T) (xv 0)) (iQ (xl 1) iU))))) (iQ (xn 2) (iQ (xl 1) iU)))))))),λas b=>?_⟩)
 subst b;refine⟨⟨⟨⟨⟨rfl,rfl,tT⟩,3,[0,1],rfl,by decide⟩,tT⟩,tT⟩,λdg e=>?_⟩;replace e:dg=1:=e;subst e;exact⟨⟨⟨rfl,⟨⟨rfl,⟨⟨tT,tT,tT⟩,tT⟩,⟨rfl,rfl⟩,rfl,tT⟩,[0,1],3,rfl,.inl ⟨rfl,rfl⟩⟩,rfl,rfl,tT⟩,rfl⟩,rfl⟩
def uh:PSs X s (ts X.K G e λ_ _=>False):=λ_ _ _ _ _ _ ⟨_,_,_,_,c,_⟩=>c.elim
def yC:Ok P w K mg base 3 "row_less_one" ["kind","row","at"] (Qf K (lU cW cR cBT) (λas=>as=[.ob 0 3,.ints [1],.int 0]) λ_=>[0]):=by refine Uk T.zU yD (λas h=>by rw[h];rfl) (λf c A o s H E b=>⟨_,(iV (ph (FJ (j9 (FJ (j9 (qM (xl 1) nW (mX (xn 2)) (λ_ _=>.inl rfl))) (j9 (qQ (iQ (wM 0 (VL T) b (iQ (kO 1 (xn 2) (λ_ _=>rfl)) (iQ iT iU))) iU))))) (j9 (qM (xl 1) (mX (m9 (xn 2) iT)) nW (λ_ _=>.inl rfl)))))),λas a=>?_⟩);subst a;exact⟨⟨⟨⟨rfl,tT,rfl⟩,⟨⟨⟨rfl,⟨⟨.inl rfl,rfl,by show -(1:Int)<=0;decide,by show(0:Int)<1;decide⟩,tT,tT⟩,tT,tT⟩,tT⟩,tT⟩,bv (small1000 (by show 0+1<=1000;decide))⟩,⟨rfl,⟨rfl,tT⟩,tT⟩,bv (small1000 (by show 1+0<=1000;decide))⟩,rfl⟩
def sX:Ok P w K mg base 8 "powering_less_one" ["kind","g"] (q8 K (lU cW cR cBT) (λas=>as=[.ob 0 3,.ints [0,1]]) λ_=>jG [[0]]):=by
 refine uV T.uD rT (λas h=>by rw[h];rfl) (λf c A o s H E b=>⟨_,(iV (jb (oF (Nf (N':=["at","row","kind"]) (cap:=[some 0]) (oH rfl rfl rfl rfl ⟨⟨rfl,.inr (.inl rfl),JC,.inl rfl,_,rfl,rfl⟩,tT⟩ ⟨rfl,tT⟩ rfl) rfl (by rfl) T.mO (lL (xc (Jf T) b (iQ (xv 0) (iQ (xl 1) iU)))) (λ_ _ _=>(pg_tup rfl (pgs_cons (qD 0) (pgs_cons (qD 1) pgs_nil)))) (λ_ _ _=>(j9 (vm (yC T) b (iQ (xv 2) (iQ (xl 1) (iQ (xn 0) iU)))))))))),λas d=>?_⟩);subst d;refine⟨⟨⟨⟨⟨rfl,rfl,tT⟩,rfl⟩,rfl⟩,by show 1<=1000;decide,λi q a=>?_⟩,rfl⟩;have a:[PV.ints [1]][i]?=some q:=a
 match i,a with
 |0,a=>cases a;exact⟨⟨rfl,rfl,rfl,tT⟩,rfl⟩
 |_+1,a=>cases a
def GZ:Ok P w K mg base 1 "unit_row" ["at","length"] (Qf K (lU cW cR cBT) (λas=>as=[.int 0,.int 1]) λ_=>[1]):=by
 refine Uk T.Lh yh (λas h=>by rw[h];rfl) (λf c A o s H E b=>⟨_,(iR (vJ (i:=2) yh.nd rfl k4 (xO (qQ (iQ iT iU)) (xn 1) (λ_=>rfl))) (iR (t7 2 (xn 0) iT) (iV (Be 2)))),λas a=>?_⟩)
 subst a;refine⟨⟨⟨⟨tT,tT⟩,tT⟩,rfl,by show -(2:Int)^63<=1;decide,by show((1:Int)).toNat<=1000;decide⟩,λl e=>?_⟩;replace e:l=[0]:=e;subst e;exact⟨tT,rfl,rfl,⟨by show -(1:Int)<=0;decide,by show(0:Int)<1;decide⟩,rfl,rfl⟩
def Cr:Ok P w K mg base 2 "unit_table" ["length"] (q8 K (lU cW cR cBT) (λas=>as=[.int 1]) λ_=>jG [[1]]):=by
 refine uV T.Fw Cv (λas h=>by rw[h];rfl) (λf c A o s H E d=>⟨_,(iV (jb (oF (Z2 (N':=["at","length"]) (cap:=[some 0]) (oH rfl rfl rfl rfl ⟨⟨rfl,.inr (.inl rfl),JC,.inl rfl,_,rfl,rfl⟩,tT⟩ ⟨rfl,tT⟩ rfl) rfl (by rfl) T.qR (xn 0) (λ_ _ _=>(qD 0)) (λ_ _ _=>(j9 (vm (GZ T) d (iQ (xn 0) (iQ (xn 1) iU))))))))),λas b=>?_⟩);subst b;refine⟨⟨rfl,⟨by show(0:Int)<=1;decide,by show(1:Int)<=1000;decide⟩,λk a=>?_⟩,rfl⟩;have a:k<1:=a;obtain rfl:k=0:=by lia
 exact⟨⟨rfl,rfl,tT⟩,rfl⟩
def vW:Ok P w K mg base 2 "plain_row" ["kind","row"] (Qf K (lU cW cR cBT) (λas=>∃z r,as=[.ob 0 z,.ints r]/\r.length<=1000) λas=>match as with|[.ob 0 z,.ints r]=>r.map (pl z)|_=>[]):=by
 refine Uk T.IV Gf (λ_ ⟨a,b,h,_⟩=>h▸rfl) (λf d A o s H E g=>⟨_,(iV (ph (Ao (N':=["number","kind"]) (cap:=[some 0]) (oH rfl rfl rfl rfl ⟨⟨rfl,.inr (.inl rfl),JC,.inl rfl,_,rfl,rfl⟩,tT⟩ ⟨rfl,tT⟩ rfl) rfl (xl 1) (λ_ _ _=>(qD 0)) (λ_ _ _=>(wM 1 (tH T) g (iQ (xn 0) iU)))))),λas e=>?_⟩);obtain⟨z,r,rfl,c⟩:=e;exact⟨⟨rfl,c,λn _=>⟨rfl,⟨rfl,tT⟩,tT,tT⟩⟩,rfl⟩
def h00 {x:PV}:pR (.lst [x]) 0:=⟨by show -(1:Int)<=0;decide,by show(0:Int)<1;decide⟩
def h02 {a b:Int}:pR (.ints [a,b]) 0:=⟨by show -(2:Int)<=0;decide,by show(0:Int)<2;decide⟩
def ffC (a:Int):PV:=if a=0 then .non else .int 0
def uv:Ok P w K mg base 1 "first_not_nought" ["rows","at","done"] (q8 K (lU cW cR cBT) (λas=>∃a,as=[jG [[a,1]],.int 0,.int 0]) λas=>match as with|[.lst [.ints [a,_]],_,_]=>ffC a|_=>.non):=by
 refine uV T.uW oK (λ_ ⟨a,h⟩=>h▸rfl) (λf d A o s H E g=>⟨_,(iR (O2 (k:=3) aT rfl (by rfl) T.qR (xn 2) (oR T.jO (xv 0)) oK.nd rfl k4 (iV (jn (zZ (ym (jd (xl_of (jd (xv 0) (xn 3) (λ_ _=>rfl))) (xn 1) (λ_ _=>rfl))) iT) (iV (jb (xn 3))) je))) (iV (jb Tn))),λas e=>?_⟩)
 obtain⟨a,rfl⟩:=e;refine⟨⟨rfl,rfl,tT⟩,⟨by show -(2:Int)^62<=0;decide,by show(0:Int)<2^62;decide,by show -(2:Int)^62<=1;decide,by show(1:Int)<2^62;decide⟩,λi b=>∃v,b=[.fr (jG [[a,1]]),k6 0,k6 0,v]/\(i=0\/a=0),⟨.un,rfl,.inl rfl⟩,?_,?_⟩
 .rintro i b c ⟨v,rfl,_⟩;have c:i<1:=c;obtain rfl:i=0:=by lia
  refine⟨⟨⟨⟨⟨⟨rfl,rfl,h00⟩,rfl⟩,rfl,h02⟩,rfl⟩,tT⟩,λq=>?_,λq=>?_⟩
  .have q:¬a=0:=q;refine⟨rfl,?_⟩;show PV.int (0+0)=ffC a;unfold ffC;rw[ag q];rfl
  .have q:¬¬a=0:=q;exact⟨_,rfl,.inr (cE.mp q)⟩
 .rintro b ⟨v,rfl,h⟩;have h:(1:Nat)=0\/a=0:=h;refine⟨tT,?_⟩;show PV.non=ffC a;unfold ffC;rw[ai (h.elim (λz=>absurd z (by decide)) id)]
def vP:Ok P w K mg base 1 "with_row_moved" ["rows","found","done"] (q8 K (lU cW cR cBT) (λas=>as=[jG [[1,1]],.int 0,.int 0]) λ_=>jG [[1,1]]):=by refine uV T.xX vV (λas h=>by rw[h];rfl) (λf c A o s H E b=>⟨_,(iV (jb (oF (xF (oF (xF (oF (xF (oF (Bu (lL (xv 0)) nW (mX (xn 2)))) (oF (nO (iQ (xl_of (jd (xv 0) (xn 1) (λ_ _=>rfl))) iU))))) (oF (Bu (lL (xv 0)) (mX (xn 2)) (mX (xn 1)))))) (oF (Bu (lL (xv 0)) (mX (m9 (xn 1) iT)) nW)))))),λas a=>?_⟩);subst a;exact⟨⟨⟨⟨⟨⟨rfl,rfl⟩,tT,rfl⟩,⟨⟨⟨rfl,rfl,h00⟩,rfl⟩,tT⟩,bv (small1000 (by show 0+1<=1000;decide))⟩,⟨⟨rfl,rfl⟩,rfl,rfl⟩,bv (small1000 (by show 1+0<=1000;decide))⟩,⟨⟨rfl,rfl⟩,⟨rfl,tT⟩,tT⟩,bv (small1000 (by show 1+0<=1000;decide))⟩,rfl⟩
def Bg:Ok P w K mg base 2 "row_without" ["kind","row","at","first"] (Qf K (lU cW cR cBT) (λ_=>False) λ_=>[]):=
 Uk T.Cd Aj (λa h=>h.elim) (λf c A o s H E d=>⟨_,uh,λa b=>b⟩)
def qT:Ok P w K mg base 3 "with_column_cleared" ["kind","rows","at","done"] (q8 K (lU cW cR cBT) (λas=>as=[.ob 0 3,jG [[1,1]],.int 0,.int 0]) λ_=>jG [[1,1]]):=by
 refine uV T.rN lz (λas h=>by rw[h];rfl) (λf k A o s H E j=>⟨_,(iR (ji (i:=4) lz.nd rfl (Or.inr rfl) (ym (V3 (Eh 0 (zH T) j (iQ iT (iQ (ym (jd (xl_of (jd (xv 1) (xn 3) (λ_ _=>rfl))) (xn 2) (λ_ _=>rfl))) iU)))))) (iR (jm (i:=5) lz.nd rfl (Or.inr rfl) (j9 (vm (vW T) j (iQ (xv 0) (iQ (j9 (Ao (N':=["number","factor"]) (cap:=[some 4]) (oH rfl rfl rfl rfl ⟨⟨rfl,.inr (.inl rfl),JC,.inl rfl,_,rfl,rfl⟩,tT⟩ ⟨rfl,tT⟩ rfl) rfl (xl_of (jd (xv 1) (xn 3) (λ_ _=>rfl))) (λ_ _ _=>(qD 0)) (λ_ _ _=>(o6 (xn 1) (xn 0))))) iU))))) (iV (jb (oF (Nf (N':=["place","row","first","done","kind","at"]) (cap:=[some 5,some 3,some 0,some 2]) (oH rfl rfl rfl rfl ⟨⟨rfl,.inr (.inl rfl),JC,.inl rfl,_,rfl,rfl⟩,⟨⟨rfl,.inr (.inl rfl),JC,.inl rfl,_,rfl,rfl⟩,⟨⟨rfl,.inr (.inl rfl),JC,.inl rfl,_,rfl,rfl⟩,⟨⟨rfl,.inr (.inl rfl),JC,.inl rfl,_,rfl,rfl⟩,tT⟩⟩⟩⟩ ⟨rfl,⟨rfl,⟨rfl,⟨rfl,tT⟩⟩⟩⟩ rfl) rfl (by rfl) T.mO (lL (xv 1)) (λ_ _ _=>(pg_tup rfl (pgs_cons (qD 0) (pgs_cons (qD 1) pgs_nil)))) (λ_ _ _=>(Ol (mQ (xn 0) (xn 3)) (xl 2) (j9 (vm (Bg T) j (iQ (xv 4) (iQ (xl 1) (iQ (xn 5) (iQ (xl 2) iU)))))))))))))),λas l=>?_⟩)
 subst l;have d:Ez Y 3 [1,1]=.inl 1:=by rw[FO3 (.inl rfl)];rfl
 refine⟨⟨⟨⟨rfl,⟨tT,⟨⟨⟨⟨rfl,rfl,h00⟩,rfl⟩,rfl,h02⟩,rfl⟩,tT⟩,tT,Zn (show(1:Int).natAbs<=2 by decide)⟩,?_⟩,?_⟩,λc e=>?_⟩
 .show(xN (Ez Y 3 [1,1])).isV;rw[d];exact tT
 .show(xN (Ez Y 3 [1,1])).get=.int (QQ (xN (Ez Y 3 [1,1])).get);rw[d];rfl
 replace e:c=1:=by have e:c=QQ (xN (Ez Y 3 [1,1])).get:=e;rw[d]at e;exact e
 subst e;refine iZ (ρ':=[.fr (.ob 0 3),.fr (jG [[1,1]]),k6 0,k6 0,k6 1,.un]) rfl ?_;refine⟨⟨⟨rfl,⟨⟨⟨rfl,rfl,h00⟩,rfl⟩,by show 2<=1000;decide,λn m=>⟨rfl,rfl,oO ⟨by show -(2:Int)^64<1;decide,by show(1:Int)<2^64;decide⟩⟩⟩,tT⟩,3,_,rfl,by show 2<=1000;decide⟩,λa g=>?_⟩
 replace g:a=[1,1]:=g
 subst g;refine iZ (ρ':=[.fr (.ob 0 3),.fr (jG [[1,1]]),k6 0,k6 0,k6 1,k7 [1,1]]) rfl ?_;refine⟨⟨⟨rfl,rfl⟩,by show 1<=1000;decide,λi q b=>?_⟩,rfl⟩;have b:[PV.ints [1,1]][i]?=some q:=b
 match i,b with
 |0,b=>cases b;exact⟨⟨rfl,rfl⟩,λ_=>rfl,λz=>absurd rfl z⟩
 |_+1,b=>cases b
def mV:Ok P w K mg base 4 "cleared_beside_units" ["kind","rows","width"] (q8 K (lU cW cR cBT) (λas=>∃a,as=[.ob 0 3,jG [[a]],.int 1]/\(a=0\/a=1)) λas=>match as with|[_,.lst [.ints [a]],_]=>jG [[a,1]]|_=>.non):=by
 refine uV T.qP jj (λ_ ⟨a,h,_⟩=>h▸rfl) (λf D A o s H E j=>⟨_,(iR (jK (i:=3) jj.nd rfl k4 (xc (Cr T) j (iQ (oR T.jO (xv 1)) iU))) (iR (KY (i:=4) jj.nd rfl rfl (N':=["row","unit","kind"]) (cap:=[some 0]) (oH rfl rfl rfl rfl ⟨⟨rfl,.inr (.inl rfl),JC,.inl rfl,_,rfl,rfl⟩,tT⟩ ⟨rfl,tT⟩ rfl) rfl (by rfl) T.Yz (lL (xv 1)) (lL (xv 3)) (λ_ _ _=>(pg_tup rfl (pgs_cons (qD 0) (pgs_cons (qD 1) pgs_nil)))) (λ_ _ _=>(j9 (vm (vW T) j (iQ (xv 2) (iQ (j9 (FJ (xl 0) (xl 1))) iU))))) rfl) (iR (ji (i:=5) jj.nd rfl k4 iT) (iR (wF (k:=6) aT rfl (by rfl) T.qR (xn 2) jj.nd rfl k4 (iR (jK (i:=7) jj.nd rfl k4 (xc (uv T) j (iQ (xv 4) (iQ (xn 6) (iQ (xn 5) iU))))) (iV (jn (Yx (xv 7)) (iR (jK (i:=4) jj.nd rfl k4 (xc (qT T) j (iQ (xv 0) (iQ (xc (vP T) j (iQ (xv 4) (iQ (xv 7) (iQ (xn 5) iU)))) (iQ (xn 6) (iQ (xn 5) iU)))))) (iV (zp (i:=5) jj.nd rfl k4 iT wA))) je)))) (iV (jb (xv 4))))))),λas I=>?_⟩)
 obtain⟨a,rfl,y⟩:=I;refine⟨⟨⟨⟨rfl,tT⟩,tT⟩,rfl⟩,λJ d=>?_⟩;replace d:J=jG [[1]]:=d;subst d;refine iZ (ρ':=[.fr (.ob 0 3),.fr (jG [[a]]),k6 1,.fr (jG [[1]]),.un,.un,.un,.un]) rfl ?_;refine⟨⟨⟨⟨rfl,rfl⟩,⟨rfl,rfl⟩⟩,by show 1<=1000;decide,λq r g=>?_⟩,λC b=>?_⟩
 .have g:(q,r)∈[(PV.ints [a],PV.ints [1])]:=g;cases ap.mp g;exact⟨⟨rfl,⟨rfl,rfl,bv (small1000 (by show 1+1<=1000;decide))⟩,tT⟩,3,[a,1],rfl,by show 2<=1000;decide⟩
 replace b:C=[PV.ints [a,1]]:=by have b:C=[PV.ints [pl 3 a,pl 3 1]]:=b;rw[b];rcases y with rfl|rfl<;>rfl
 subst b;refine⟨tT,λF c=>?_⟩;replace c:F=0:=c;subst c;refine iZ (ρ':=[.fr (.ob 0 3),.fr (jG [[a]]),k6 1,.fr (jG [[1]]),.fr (jG [[a,1]]),k6 0,.un,.un]) rfl ?_;refine⟨rfl,⟨by show -(2:Int)^62<=1;decide,by show(1:Int)<2^62;decide⟩,λi x=>∃v p u,x=[.fr (.ob 0 3),.fr (jG [[a]]),k6 1,.fr (jG [[1]]),.fr (jG [[a,1]]),v,p,u]/\(i=0->v=k6 0),⟨_,_,_,rfl,λ_=>rfl⟩,?_,?_⟩
 .rintro i x B ⟨v,p,u,rfl,G⟩;have B:i<1:=B;obtain rfl:i=0:=by lia
  obtain rfl:=G rfl;refine⟨⟨⟨rfl,rfl,rfl,tT⟩,a,rfl⟩,λm e=>?_⟩;replace e:m=ffC a:=e;rcases y with rfl|rfl
  .replace e:m=.non:=e;subst e;refine iZ (ρ':=[.fr (.ob 0 3),.fr (jG [[0]]),k6 1,.fr (jG [[1]]),.fr (jG [[0,1]]),k6 0,k6 0,.fr .non]) rfl ?_;exact⟨⟨rfl,tT⟩,(λq=>absurd rfl q),λ_=>⟨_,_,_,rfl,λ_=>rfl⟩⟩
  .replace e:m=.int 0:=e;subst e;refine iZ (ρ':=[.fr (.ob 0 3),.fr (jG [[1]]),k6 1,.fr (jG [[1]]),.fr (jG [[1,1]]),k6 0,k6 0,k6 0]) rfl ?_;refine⟨⟨rfl,tT⟩,λ_=>?_,λq=>absurd (show ¬vp (.int 0)=true from(λz=>nomatch (show false=true from z))) q⟩;refine⟨⟨⟨rfl,⟨⟨rfl,rfl,rfl,tT⟩,rfl⟩,rfl,rfl,tT⟩,rfl⟩,λt l=>?_⟩;replace l:t=jG [[1,1]]:=l;subst l;exact⟨rfl,tT,tT,λn L=>⟨_,_,_,rfl,λz=>absurd z (by decide)⟩⟩
 .rintro x ⟨v,p,u,rfl,_⟩;exact⟨rfl,rfl⟩
def Le:Ok P w K mg base 5 "echelon" ["kind","rows"] (q8 K (lU cW cR cBT) (λas=>as=[.ob 0 3,jG [[0]]]) λ_=>.tup [jG [[0]],jG [[1]],jG [[1]]]):=by
 refine uV T.Qv pK (λas h=>by rw[h];rfl) (λf k A o s H E g=>⟨_,(iR (jK (i:=2) pK.nd rfl (Or.inr rfl) (Ol (acx (lL (xv 1))) (oR T.jO (xl_of (jd (xv 1) iT (λ_ _=>rfl)))) iT)) (iR (jK (i:=3) pK.nd rfl k4 (xc (mV T) g (iQ (xv 0) (iQ (xv 1) (iQ (xn 2) iU))))) (iR (Ef (i:=4) pK.nd rfl rfl (N':=["row","width"]) (cap:=[some 2]) (oH rfl rfl rfl rfl ⟨⟨rfl,.inr (.inl rfl),JC,.inl rfl,_,rfl,rfl⟩,tT⟩ ⟨rfl,tT⟩ rfl) rfl (lL (xv 3)) (λ_ _ _=>(qD 0)) (λ_ _ _=>(j9 (qM (xl 0) (mX (xn 1)) nW (λ_ _=>.inl rfl)))) rfl) (iR (Ef (i:=5) pK.nd rfl rfl (N':=["row","rows"]) (cap:=[some 1]) (oH rfl rfl rfl rfl ⟨⟨rfl,.inr (.inl rfl),JC,.inl rfl,_,rfl,rfl⟩,tT⟩ ⟨rfl,tT⟩ rfl) rfl (lL (xc (mV T) g (iQ (xv 0) (iQ (xv 4) (iQ (oR T.jO (xv 1)) iU))))) (λ_ _ _=>(qD 0)) (λ_ _ _=>(j9 (qM (xl 0) (mX (oR T.jO (xv 1))) nW (λ_ _=>.inl rfl)))) rfl) (iV (jb (mH (iQ (oF (Z8 (N':=["row","width"]) (cap:=[some 2]) (oH rfl rfl rfl rfl ⟨⟨rfl,.inr (.inl rfl),JC,.inl rfl,_,rfl,rfl⟩,tT⟩ ⟨rfl,tT⟩ rfl) rfl (lL (xv 3)) (λ_ _ _=>(qD 0)) (λ_ _ _=>(j9 (qM (xl 0) nW (mX (xn 1)) (λ_ _=>.inl rfl)))))) (iQ (xv 4) (iQ (xv 5) iU)))))))))),λas l=>?_⟩)
 subst l;refine⟨⟨⟨rfl,rfl⟩,λq=>⟨⟨⟨rfl,tT,h00⟩,rfl⟩,tT⟩,λ_=>tT⟩,λm c=>?_⟩;replace c:m=.int 1:=by rw[c];exact ai (λz=>nomatch (show[PV.ints [0]]=[] from z))
 subst c;refine iZ (ρ':=[.fr (.ob 0 3),.fr (jG [[0]]),k6 1,.un,.un,.un]) rfl ?_;refine⟨⟨⟨rfl,rfl,rfl,tT⟩,0,rfl,.inl rfl⟩,λn d=>?_⟩;replace d:n=jG [[0,1]]:=d;subst d;refine iZ (ρ':=[.fr (.ob 0 3),.fr (jG [[0]]),k6 1,.fr (jG [[0,1]]),.un,.un]) rfl ?_;refine⟨⟨⟨rfl,rfl⟩,by show 1<=1000;decide,λq a=>?_⟩,λtu b=>?_⟩
 .have a:q∈[PV.ints [0,1]]:=a;cases ap.mp a;exact⟨rfl,rfl,tT⟩
 replace b:tu=[PV.ints [1]]:=b;subst b;refine iZ (ρ':=[.fr (.ob 0 3),.fr (jG [[0]]),k6 1,.fr (jG [[0,1]]),.fr (jG [[1]]),.un]) rfl ?_;refine⟨⟨⟨⟨⟨rfl,rfl,⟨rfl,tT⟩,tT⟩,1,rfl,.inr rfl⟩,rfl⟩,by show 1<=1000;decide,λq a=>?_⟩,λj e=>?_⟩
 .have a:q∈[PV.ints [1,1]]:=a;cases ap.mp a;exact⟨rfl,⟨rfl,tT⟩,tT⟩
 replace e:j=[PV.ints [1]]:=e;subst e;refine iZ (ρ':=[.fr (.ob 0 3),.fr (jG [[0]]),k6 1,.fr (jG [[0,1]]),.fr (jG [[1]]),.fr (jG [[1]])]) rfl ?_;refine⟨⟨⟨⟨rfl,rfl⟩,by show 1<=1000;decide,λq a=>?_⟩,rfl,rfl,tT⟩,rfl⟩;have a:q∈[PV.ints [0,1]]:=a;cases ap.mp a;exact⟨rfl,tT,rfl⟩
def Qa:Ok P w K mg base 6 "kernel" ["kind","rows"] (q8 K (lU cW cR cBT) (λas=>as=[.ob 0 3,jG [[0]]]) λ_=>jG [[1]]):=by
 refine uV T.Su DX (λas h=>by rw[h];rfl) (λf c A o s H E b=>⟨_,(iR (jK (i:=2) DX.nd rfl k4 (xc (Le T) b (iQ (xv 0) (iQ (xv 1) iU)))) (iV (jb (oF (Q0 (N':=["row","turning"]) (cap:=[]) (oH rfl rfl rfl rfl tT tT rfl) rfl (by rfl) T.Yz (lL (jd (xv 2) iT (λ_ _=>rfl))) (lL (jd (xv 2) iT (λ_ _=>rfl))) (λ_ _ _=>(pg_tup rfl (pgs_cons (qD 0) (pgs_cons (qD 1) pgs_nil)))) (λ_ _ _=>(ZS b.units (rdX (xl 0)) (rdX (j9 (xO (qQ (iQ iT iU)) (lw 0 T.jO) (λ_=>rfl)))))) (λ_ _ _=>(xl 1))))))),λas d=>?_⟩)
 subst d;refine⟨⟨⟨rfl,rfl,tT⟩,rfl⟩,λt e=>?_⟩;replace e:t=.tup [jG [[0]],jG [[1]],jG [[1]]]:=e;subst e;refine iZ (ρ':=[.fr (.ob 0 3),.fr (jG [[0]]),.fr (.tup [jG [[0]],jG [[1]],jG [[1]]])]) rfl ?_;refine⟨⟨⟨⟨⟨rfl,tT,by show -(3:Int)<=0/\(0:Int)<3;decide⟩,rfl⟩,⟨⟨rfl,tT,by show -(3:Int)<=1/\(1:Int)<3;decide⟩,rfl⟩⟩,by show 1<=1000;decide,λq r a=>?_⟩,rfl⟩;have a:(q,r)∈[(PV.ints [0],PV.ints [1])]:=a;cases ap.mp a;exact⟨⟨rfl,⟨⟨⟨tT,tT⟩,tT⟩,.inl rfl,by show -(2:Int)^63<=1;decide,by show((1:Int)).toNat<=1000;decide⟩⟩,λ_=>rfl⟩
def Dv {k:PV->List Int}(q:PV):tD k [q]=[q]:=Ij (.refl _) (gH ..)
def QJ (q:PV):yx [q]=[q]:=Jb (.refl _) (gH ..) (cX.mpr ⟨(λh=>nomatch h),List.nodup_nil⟩)
def JT {a:Type}(q:a):[q].Nodup:=cX.mpr ⟨(λh=>nomatch h),List.nodup_nil⟩
def wC:Ok P w K mg base 1 "order_key" ["g"] (q8 K (lU cW cR cBT) (λas=>∃g,as=[.ints g]) λas=>match as with|[.ints g]=>W2 g|_=>.non):=by
 refine uV T.Hx El (λ_ ⟨a,h⟩=>h▸rfl) (λf c A o s H E d=>⟨_,(iV (jb (mH (iQ (lw 0 T.jO) (iQ (xl 0) iU))))),λas b=>?_⟩);obtain⟨g,rfl⟩:=b;exact⟨⟨.inl rfl,rfl,tT⟩,rfl⟩
def R6:Ok P w K mg base 9 "split" ["kind","g"] (q8 K (lU cW cR cBT) (λas=>as=[.ob 0 3,.ints [0,1]]) λ_=>jG [[0,1]]):=by
 refine uV T.Xm wG (λas h=>by rw[h];rfl) (λf g A o s H E c=>⟨_,(iR (jK (i:=2) wG.nd rfl k4 (oF (nO (iQ (j9 (vm (ju T) c (iQ (xv 0) (iQ (xl 1) iU)))) iU)))) (iR (jK (i:=3) wG.nd rfl k4 (xc (Qa T) c (iQ (xv 0) (iQ (xc (sX T) c (iQ (xv 0) (iQ (xl 1) iU))) iU)))) (iR (Hv (k:=4) aT rfl (lL (xv 3)) wG.nd rfl k4 (iV (jn (Du (oR T.jO (xv 2)) (oR T.jO (xv 3))) (iV jY) je))) (iV (jb (oF (U6 aba (wC T) c T.zq (xv 2)))))))),λas j=>?_⟩)
 subst j;refine⟨⟨⟨⟨rfl,rfl,tT⟩,3,[0,1],rfl,by decide⟩,tT⟩,λp e=>?_⟩;replace e:p=jG [[0,1]]:=e;subst e;refine⟨⟨⟨rfl,⟨⟨rfl,rfl,tT⟩,rfl⟩,tT⟩,rfl⟩,λl a=>?_⟩;replace a:l=jG [[1]]:=a;subst a;refine iZ (ρ':=[.fr (.ob 0 3),k7 [0,1],.fr (jG [[0,1]]),.fr (jG [[1]]),.un]) rfl ?_;refine⟨⟨rfl,rfl⟩,λi d=>∃v,d=[.fr (.ob 0 3),k7 [0,1],.fr (jG [[0,1]]),.fr (jG [[1]]),v],⟨.un,rfl⟩,?_,?_⟩
 .rintro i q d b ⟨v,rfl⟩;exact⟨⟨⟨rfl,tT⟩,⟨rfl,tT⟩⟩,(λz=>absurd (show(1:Int)<1 from z) (by decide)),λ_=>⟨_,rfl⟩⟩
 .rintro d ⟨v,rfl⟩;refine⟨⟨rfl,rfl,⟨by show 1<64;decide,JT _⟩,λq b=>?_⟩,?_⟩
  .have b:q∈[PV.ints [0,1]]:=b;cases ap.mp b;exact⟨⟨_,rfl⟩,rfl⟩
  .show PV.lst (tD aba [PV.ints [0,1]])=jG [[0,1]];rw[Dv];rfl
def ad1:DV [0,0,1] [0,2]:=⟨by decide,by decide,by decide,by decide,by decide,.inr rfl,by decide,by decide,λ_=>by decide⟩
def adD:DV [0,0,1] [0,1]:=⟨by decide,by decide,by decide,by decide,by decide,.inl rfl,by decide,by decide,λ_=>by decide⟩
def ab9:DV [0,1] [1]:=⟨by decide,by decide,by decide,by decide,by decide,.inl rfl,by decide,by decide,λ_=>by decide⟩
def adR:DV [1] [1]:=⟨by decide,by decide,by decide,by decide,by decide,.inl rfl,by decide,by decide,λ_=>by decide⟩
def ad6:Vp 3 [0,2]=[0,1]:=by decide
def adZ:Vp 3 [0,1]=[0,1]:=by decide
def adz:Vp 3 [1]=[1]:=by decide
def vy:PV:=.tup [.ints [0,1],.int 2]
def wX:Ok P w K mg base 6 "seen_by_slope" ["kind","f"] (q8 K (lU cW cR cBT) (λas=>as=[.ob 0 3,.ints [0,0,1]]) λ_=>.tup [.lst [vy],.ints [1]]):=by
 refine uV T.yI jr (λas h=>by rw[h];rfl) (λf y A u s H E n=>⟨_,(iR (jm (i:=2) jr.nd rfl k4 (j9 (vm (DQ T) n (iQ (xv 0) (iQ (xl 1) (iQ (j9 (vm (TF T) n (iQ (xv 0) (iQ (xl 1) iU)))) iU)))))) (iR (jm (i:=3) jr.nd rfl k4 (xl_of (jd (xc (mJ T) n (iQ (xv 0) (iQ (xl 1) (iQ (xl 2) iU)))) iT (λ_ _=>rfl)))) (iR (sY (i:=4) jr.nd rfl k4 (nO iU)) (iR (ji (i:=5) jr.nd rfl k4 iT) (iR (oW aT (Dw (lw 3 T.jO) iT) (iR (jm (i:=6) jr.nd rfl k4 (j9 (vm (DQ T) n (iQ (xv 0) (iQ (xl 3) (iQ (xl 2) iU)))))) (iR (jm (i:=7) jr.nd rfl k4 (xl_of (jd (xc (mJ T) n (iQ (xv 0) (iQ (xl 3) (iQ (xl 6) iU)))) iT (λ_ _=>rfl)))) (pI (jn (Dw (lw 7 T.jO) iT) (iV (wD 4 (mH (iQ (xl 7) (iQ (xn 5) iU))))) je) (iR (jm (i:=2) jr.nd rfl k4 (xl_of (jd (xc (mJ T) n (iQ (xv 0) (iQ (xl 2) (iQ (xl 6) iU)))) iT (λ_ _=>rfl)))) (iR (jm (i:=3) jr.nd rfl k4 (xl 6)) (iV (zp (i:=5) jr.nd rfl k4 iT wA)))))))) (mK 4 (iV (jb (mH (iQ (xv 4) (iQ (xl 2) iU))))))))))),λas B=>?_⟩)
 subst B;refine⟨⟨⟨rfl,rfl,⟨⟨rfl,rfl,tT⟩,3,[0,0,1],rfl,by decide⟩,tT⟩,[0,0,1],[0,2],rfl,ad1,by decide⟩,λx j=>?_⟩;replace j:x=[0,1]:=dm (show x=Vp 3 [0,2] from j) ad6;subst j;refine⟨⟨⟨⟨⟨rfl,rfl,rfl,tT⟩,[0,0,1],[0,1],rfl,adD⟩,tT,X4⟩,rfl⟩,λD m=>?_⟩;replace m:D=[0,1]:=m;subst m;refine⟨tT,λC l=>⟨tT,λo d=>?_⟩⟩;replace l:C=[]:=l;replace d:o=1:=d;subst l d;refine iZ (ρ':=[.fr (.ob 0 3),k7 [0,0,1],k7 [0,1],k7 [0,1],.ow (.lst []),k6 1,.un,.un]) rfl ?_;refine⟨λc=>∃v q,c=[.fr (.ob 0 3),k7 [0,0,1],k7 [0,1],k7 [0,1],.ow (.lst []),k6 1,v,q]\/c=[.fr (.ob 0 3),k7 [0,0,1],k7 [1],k7 [0,1],.ow (.lst []),k6 2,v,q]\/c=[.fr (.ob 0 3),k7 [0,0,1],k7 [1],k7 [1],.ow (.lst [vy]),k6 3,v,q],λc=>(3-Gi c 5).toNat,⟨.un,.un,.inl rfl⟩,?_⟩;rintro c ⟨v,q,rfl|rfl|rfl⟩
 .refine⟨⟨.inl rfl,tT⟩,λ_=>?_,λz=>absurd (show(2:Int) > 1 by decide) z⟩;refine⟨⟨⟨rfl,rfl,rfl,tT⟩,[0,1],[0,1],rfl,Xe,by decide⟩,λp b=>?_⟩;replace b:p=[0,1]:=dm (show p=Vp 3 [0,1] from b) adZ;subst b;refine⟨⟨⟨⟨⟨rfl,rfl,rfl,tT⟩,[0,1],[0,1],rfl,Xe⟩,tT,X4⟩,rfl⟩,λg k=>?_⟩;replace k:g=[1]:=k;subst k;refine iZ (ρ':=[.fr (.ob 0 3),k7 [0,0,1],k7 [0,1],k7 [0,1],.ow (.lst []),k6 1,k7 [0,1],k7 [1]]) rfl ?_;refine⟨λc=>c=[.fr (.ob 0 3),k7 [0,0,1],k7 [0,1],k7 [0,1],.ow (.lst []),k6 1,k7 [0,1],k7 [1]],⟨⟨.inl rfl,tT⟩,(λz=>absurd (show(1:Int) > 1 from z) (by decide)),λ_=>rfl⟩,?_⟩;rintro c rfl;refine⟨⟨⟨⟨⟨rfl,rfl,rfl,tT⟩,[0,1],[0,1],rfl,Xe⟩,tT,X4⟩,rfl⟩,λr e=>?_⟩;replace e:r=[1]:=e;subst e;refine⟨rfl,λt a=>?_⟩;replace a:t=[0,1]:=a;subst a;refine⟨rfl,tT,tT,λo d=>?_⟩;replace d:o=2:=d;subst d;exact⟨⟨_,_,.inr (.inl rfl)⟩,by show(3-(2:Int)).toNat<(3-(1:Int)).toNat;decide⟩
 .refine⟨⟨.inl rfl,tT⟩,λ_=>?_,λz=>absurd (show(2:Int) > 1 by decide) z⟩;refine⟨⟨⟨rfl,rfl,rfl,tT⟩,[0,1],[1],rfl,ab9,by decide⟩,λp b=>?_⟩;replace b:p=[1]:=dm (show p=Vp 3 [1] from b) adz;subst b;refine⟨⟨⟨⟨⟨rfl,rfl,rfl,tT⟩,[0,1],[1],rfl,ab9⟩,tT,X4⟩,rfl⟩,λg k=>?_⟩;replace k:g=[0,1]:=k;subst k;refine iZ (ρ':=[.fr (.ob 0 3),k7 [0,0,1],k7 [1],k7 [0,1],.ow (.lst []),k6 2,k7 [1],k7 [0,1]]) rfl ?_;refine⟨λc=>c=[.fr (.ob 0 3),k7 [0,0,1],k7 [1],k7 [0,1],.ow (.lst [vy]),k6 2,k7 [1],k7 [0,1]],⟨⟨.inl rfl,tT⟩,λ_=>⟨rfl,⟨rfl,rfl,tT⟩,small1000 (by show 0<=1000;decide),rfl⟩,λz=>absurd (show(2:Int) > 1 by decide) z⟩,?_⟩;rintro c rfl;refine⟨⟨⟨⟨⟨rfl,rfl,rfl,tT⟩,[1],[1],rfl,adR⟩,tT,X4⟩,rfl⟩,λr e=>?_⟩;replace e:r=[1]:=e;subst e;refine⟨rfl,λt a=>?_⟩;replace a:t=[1]:=a;subst a;refine⟨rfl,tT,tT,λo d=>?_⟩;replace d:o=3:=d;subst d;exact⟨⟨_,_,.inr (.inr rfl)⟩,by show(3-(3:Int)).toNat<(3-(2:Int)).toNat;decide⟩
 .exact⟨⟨.inl rfl,tT⟩,(λz=>absurd (show(1:Int) > 1 from z) (by decide)),λ_=>⟨⟨rfl,rfl,tT⟩,rfl⟩⟩
def Cp:Ok P w K mg base 8 "free_parts" ["kind","f"] (q8 K (lU cW cR cBT) (λas=>as=[.ob 0 3,.ints [0,0,2]]) λ_=>.lst [vy]):=by
 refine abF T.wU jF T.Gm (λas h=>by rw[h];rfl) (λf D A u s H E m G=>⟨_,(iR (jm (i:=2) jF.nd rfl k4 (j9 (vm (nR T) m (iQ (xv 0) (iQ (j9 (vm (ju T) m (iQ (xv 0) (iQ (xl 1) iU)))) iU))))) (iR (jn (qC (pZ 2)) (iV jY) je) (iR (sY (i:=3) jF.nd rfl k4 (nO iU)) (iR (ji (i:=4) jF.nd rfl k4 iT) (iR (oW aT (Dw (lw 2 T.jO) iT) (iR (jK (i:=5) jF.nd rfl k4 (xc (wX T) m (iQ (xv 0) (iQ (xl 2) iU)))) (iR (zY (k:=6) (j:=7) aT rfl (lL (jd (xv 5) iT (λ_ _=>rfl))) (pg_tup rfl (pgs_cons (pg_name (i:=6) jF.nd rfl k4) (pgs_cons (pg_name (i:=7) jF.nd rfl k4) pgs_nil))) (iV (wD 3 (mH (iQ (xl 6) (iQ (o6 (xn 7) (xn 4)) iU)))))) (iR (jm (i:=2) jF.nd rfl k4 (j9 (Ql (xl_of (jd (xv 5) iT (λ_ _=>rfl))) nW nW (mX (KQ (ksz T) (xv 0))) (λ_ _=>.inl rfl)))) (iV (zp (i:=4) jF.nd rfl k4 (KQ (ksz T) (xv 0)) UL)))))) (mK 3 (iV (jb (oF (Tp G m T.zq (xv 3))))))))))),λas I=>?_⟩)
 subst I;refine⟨⟨⟨rfl,⟨⟨rfl,rfl,tT⟩,3,[0,0,2],rfl,by decide⟩,tT⟩,3,[0,0,2],rfl,.inr ⟨rfl,.inr rfl⟩,by decide,by decide⟩,λx r=>?_⟩;replace r:x=[0,0,1]:=dm (show x=Vp 3 [0,0,2] from r) (by decide);subst r;refine⟨.inl rfl,(λq=>absurd (show ¬¬([0,0,1]:List Int)=[] from q) (λz=>z (by decide))),λ_=>?_⟩;refine⟨tT,λJ g=>⟨tT,λC e=>?_⟩⟩;replace g:J=[]:=g;replace e:C=1:=e;subst g e;refine iZ (ρ':=[.fr (.ob 0 3),k7 [0,0,2],k7 [0,0,1],.ow (.lst []),k6 1,.un,.un,.un]) rfl ?_;refine⟨λc=>∃y v b,c=[.fr (.ob 0 3),k7 [0,0,2],k7 [0,0,1],.ow (.lst []),k6 1,y,v,b]\/c=[.fr (.ob 0 3),k7 [0,0,2],k7 [1],.ow (.lst [vy]),k6 3,y,v,b],λc=>(3-Gi c 4).toNat,⟨.un,.un,.un,.inl rfl⟩,?_⟩;rintro c ⟨y,v,b,rfl|rfl⟩
 .refine⟨⟨.inl rfl,tT⟩,λ_=>?_,λz=>absurd (show(3:Int) > 1 by decide) z⟩;refine⟨⟨⟨rfl,rfl,tT⟩,rfl⟩,λF d=>?_⟩;replace d:F=.tup [.lst [vy],.ints [1]]:=d;subst d;refine iZ (ρ':=[.fr (.ob 0 3),k7 [0,0,2],k7 [0,0,1],.ow (.lst []),k6 1,.fr (.tup [.lst [vy],.ints [1]]),v,b]) rfl ?_;refine⟨⟨⟨⟨rfl,tT,X4⟩,rfl⟩,λn a=>?_⟩,λi c=>∃v b,c=[.fr (.ob 0 3),k7 [0,0,2],k7 [0,0,1],.ow (.lst (if i=0 then[] else[vy])),k6 1,.fr (.tup [.lst [vy],.ints [1]]),v,b],⟨v,b,rfl⟩,?_,?_⟩
  .have a:n∈[vy]:=a;rw[ap.mp a];rfl
  .rintro i n c a ⟨v,b,rfl⟩;have a:[vy][i]?=some n:=a
   match i,a with
   |0,a=>cases a;exact⟨rfl,⟨rfl,⟨rfl,rfl,oO ⟨by show -(2:Int)^64<2;decide,by show(2:Int)<2^64;decide⟩⟩,tT⟩,small1000 (by show 0<=1000;decide),_,_,rfl⟩
   |_+1,a=>cases a
  rintro c ⟨v,b,rfl⟩;refine iZ (ρ':=[.fr (.ob 0 3),k7 [0,0,2],k7 [0,0,1],.ow (.lst [vy]),k6 1,.fr (.tup [.lst [vy],.ints [1]]),v,b]) rfl ?_;refine⟨⟨⟨⟨rfl,tT,it1⟩,rfl⟩,tT,tT,⟨rfl,rfl⟩,by show some (3:Int)≠some 0;decide⟩,λB l=>?_⟩;replace l:B=[1]:=dm (show B=rF [1] none none (some 3) from l) (by decide);subst l;refine iZ (ρ':=[.fr (.ob 0 3),k7 [0,0,2],k7 [1],.ow (.lst [vy]),k6 1,.fr (.tup [.lst [vy],.ints [1]]),v,b]) rfl ?_;refine⟨rfl,⟨rfl,rfl⟩,oO ⟨by show -(2:Int)^64<1;decide,by show(1:Int)<2^64;decide⟩,λo p=>?_⟩;replace p:o=3:=p;subst p;exact⟨⟨_,_,_,.inr rfl⟩,by show(3-(3:Int)).toNat<(3-(1:Int)).toNat;decide⟩
 .refine⟨⟨.inl rfl,tT⟩,(λz=>absurd (show(1:Int) > 1 from z) (by decide)),λ_=>⟨⟨rfl,rfl,⟨by show 1<64;decide,λq t=>?_,JT _⟩⟩,?_⟩⟩
  .have t:q∈[vy]:=t;rw[ap.mp t];exact⟨_,rfl⟩
  .show PV.lst (yx [vy])=.lst [vy];rw[QJ]
def kfP (q:PV):List Int:=aba (LK q)
def SN:Ok P w K mg base 10 "parts" ["kind","f"] (q8 K (lU cW cR cBT) (λas=>as=[.ob 0 3,.ints [0,0,2]]) λ_=>.tup [.int 2,.lst [vy]]):=by
 refine abF T.Mj pF T.Wt (λas h=>by rw[h];rfl) (λf m A o s H E d n=>⟨_,(iR (sY (i:=2) pF.nd rfl k4 (nO iU)) (iR (zY (k:=3) (j:=4) aT rfl (lL (xc (Cp T) d (iQ (xv 0) (iQ (xl 1) iU)))) (pg_tup rfl (pgs_cons (pg_name (i:=3) pF.nd rfl k4) (pgs_cons (pg_name (i:=4) pF.nd rfl k4) pgs_nil))) (iV (Hv (k:=5) aT rfl (lL (xc (R6 T) d (iQ (xv 0) (iQ (xl 3) iU)))) pF.nd rfl k4 (iV (wD 2 (mH (iQ (xl 5) (iQ (xn 4) iU)))))))) (mK 2 (iV (jb (mH (iQ (ym (jd (j9 (vm (ju T) d (iQ (xv 0) (iQ (xl 1) iU)))) (qw iT) (λ_ _=>rfl))) (iQ (oF (Ur kfP (wC T) n d T.zq (xv 2))) iU)))))))),λas p=>?_⟩)
 subst p;refine⟨tT,λt e=>?_⟩;replace e:t=[]:=e;subst e;refine iZ (ρ':=[.fr (.ob 0 3),k7 [0,0,2],.ow (.lst []),.un,.un,.un]) rfl ?_;refine⟨⟨⟨⟨⟨rfl,rfl,tT⟩,rfl⟩,rfl⟩,λq a=>?_⟩,λi c=>∃g l v,c=[.fr (.ob 0 3),k7 [0,0,2],.ow (.lst (if i=0 then[] else[vy])),g,l,v],⟨.un,.un,.un,rfl⟩,?_,?_⟩
 .have a:q∈[vy]:=a;rw[ap.mp a];rfl
 .rintro i q c a ⟨g,l,v,rfl⟩;have a:[vy][i]?=some q:=a
  match i,a with
  |0,a=>
   cases a;refine⟨⟨⟨⟨rfl,rfl,tT⟩,rfl⟩,rfl⟩,λj c=>∃v,c=[.fr (.ob 0 3),k7 [0,0,2],.ow (.lst (if j=0 then[] else[vy])),k7 [0,1],k6 2,v],⟨v,rfl⟩,?_,?_⟩
   .rintro j r c b ⟨v,rfl⟩;have b:[PV.ints [0,1]][j]?=some r:=b
    match j,b with
    |0,b=>cases b;exact⟨rfl,⟨rfl,rfl,tT⟩,small1000 (by show 0<=1000;decide),_,rfl⟩
    |_+1,b=>cases b
   .rintro c ⟨v,rfl⟩;exact⟨_,_,_,rfl⟩
  |_+1,a=>cases a
 .rintro c ⟨g,l,v,rfl⟩;refine⟨⟨⟨⟨⟨⟨rfl,rfl,tT⟩,3,[0,0,2],rfl,by decide⟩,tT,⟨by show -(3:Int) <= -1;decide,by show(-1:Int)<3;decide⟩⟩,rfl⟩,⟨rfl,rfl,⟨by show 1<64;decide,JT _⟩,λq a=>?_⟩,tT⟩,?_⟩
  .have a:q∈[vy]:=a;rw[ap.mp a];exact⟨⟨_,rfl⟩,⟨_,rfl⟩,rfl⟩
  .show PV.tup [.int 2,.lst (tD kfP [vy])]=_;rw[Dv]
def Wh (he:PE X e t)(b:∀x,foldedSetIterable e X.env x=pure x):PS X (.For d e body [] pos) (λ_ a H=>t a H λ_ _=>False):=by intro p s a H D I h;exact wpAny_For (thn (he p s a H _ I h) λv c ⟨_,_,_,_,z⟩=>z.elim) b
def sy {X:Cx}{G:Gx}{E:XK}{e t:Expr}{body:List Stmt}{pos:Pos}{C:En->Prop}{f:En->Rs}(h:PR X G e C f)(m:Passes (sZ X.prog X.w) X E)(l:∀x,foldedSetIterable e X.env x=pure x:=by intro _;rfl) :
  PS X (.For t e body [] pos) (ts X.K G (erE E) λP a=>C a/\∃c,f a=.err c/\P.er c):=
 toS (Wh (h E m) l) λB o H a O P D R ⟨j,d,g,q⟩ w=>⟨B,a,O,R,j,(λp k=>nomatch (g.symm.trans k)),λn b i s=>by
  cases g.symm.trans b;exact w.er i d _ R.same s q⟩
def No0 (as:List PV):Prop:=∃p f,as=[.ob 0 p,.ints f]/\f.length<=100/\Tz p f=[]
def By:yX P w K mg base 8 "free_parts" ["kind","f"] (Ha K (lU cW cR cBT) No0 λ_=>.err cNN):=by
 refine WT T.wU jF (λg ⟨a,b,h,_⟩=>by rw[h];rfl) (λf j A o s H E d=>⟨_,(iR (jm (i:=2) jF.nd rfl k4 (j9 (vm (nR T) d (iQ (xv 0) (iQ (j9 (vm (ju T) d (iQ (xv 0) (iQ (xl 1) iU)))) iU))))) (iR (jn (qC (pZ 2)) (iV (mR HW rfl T.Hb (by rfl) T.wj (iQ jc iU))) je) uh)),λg k=>?_⟩)
 obtain⟨p,f,rfl,l,e⟩:=k;refine⟨⟨⟨rfl,⟨⟨rfl,rfl,tT⟩,p,f,rfl,by lia⟩,tT⟩,p,Tz p f,rfl,.inl e,by rw[e];decide,by rw[e];exact λm h=>nomatch h⟩,λx c=>?_⟩;replace c:x=[]:=by have c:x=Vp p (Tz p f):=c;rw[c,e];rfl
 refine⟨.inl rfl,λ_=>⟨⟨tT,tT⟩,rfl⟩,λq=>?_⟩;have q:¬¬¬x=[]:=q;exact q λz=>z c
def Qw:yX P w K mg base 10 "parts" ["kind","f"] (Ha K (lU cW cR cBT) No0 λ_=>.err cNN):=by refine WT T.Mj pF (λd ⟨a,b,h,_⟩=>by rw[h];rfl) (λf e A o s H E g=>⟨_,(iR (sY (i:=2) pF.nd rfl k4 (nO iU)) (iR (sy (Ho (By T) g (iQ (xv 0) (iQ (xl 1) iU))) kZ) uh)),λd c=>?_⟩);obtain⟨p,f,rfl,c⟩:=c;exact⟨tT,λl _=>⟨⟨⟨rfl,rfl,tT⟩,p,f,rfl,c⟩,cNN,rfl,rfl⟩⟩
def jV (x:Str):x.length=x.cps.toList.length:=aY.symm
def dg (m:Nat):List Nat:=(Nat.toDigits 10 m).map Char.toNat
def NP (m:Nat):(jA (m:Int)).cps.toList=dg m:=Bw m
def YL:∀d:Nat,d<10->(Nat.digitChar d).toNat=48+d:=by decide
def Bp {m:Nat}(h:m<10):dg m=[48+m]:=by unfold dg;rw[gJ h,bT,YL m h];rfl
def aaR {m:Nat}(h:10<=m):dg m=dg (m / 10)++[48+m % 10]:=by have a:m % 10<10:=Nat.mod_lt m (by decide);have t:Nat.toDigits 10 (m / 10)++Nat.toDigits 10 (m % 10)=Nat.toDigits 10 (10*(m / 10)+m % 10):=Nat.toDigits_append_toDigits (by decide) (by lia) a;rw[Nat.div_add_mod]at t;unfold dg;rw[<- t,cY,gJ a,bT,YL _ a];rfl
def Rv (m:Nat):(∀c∈dg m,isF c=true)/\fv (dg m)=m/\(0<m->∃c r,dg m=c::r/\49<=c/\c<=57)/\dg m≠[]:=by
 induction m using Nat.strongRecOn with
 |_ m k=>
  by_cases h:m<10
  .rw[Bp h];refine⟨λc a=>?_,?_,λ_=>⟨_,_,rfl,by lia,by lia⟩,λz=>nomatch z⟩
   .rw[ap.mp a];exact mZ.mpr ⟨by lia,by lia⟩
   .show 10*0+(48+m-48)=m;lia
  .obtain⟨f,g,i,j⟩:=k (m / 10) (by lia);rw[aaR (by lia)];refine⟨λc a=>?_,?_,λ_=>?_,λz=>absurd (ei.mp z).1 j⟩
   .rcases aZ.mp a with a|a
    .exact f c a
    .rw[ap.mp a];exact mZ.mpr ⟨by lia,by lia⟩
   .unfold fv at *
    rw[gu,g];show 10*(m / 10)+(48+m % 10-48)=m;lia
   .obtain⟨c,r,e,b,d⟩:=i (by lia);exact⟨c,r++[48+m % 10],by rw[e];rfl,b,d⟩
def U7 {m k:Nat}(a:0<k)(h:m<10^k):(dg m).length<=k:=by unfold dg;rw[ae];exact(dF (by decide) a).mpr h
def sub_len (x:Str)(a b:Nat):(Builtin.Str.strSub x a b).length<=x.length:=by rw[jV,fM,c9,eW,jV];lia
def Iu (x y:Str):(PySem.Txt.partition x y).1.length<=x.length/\(PySem.Txt.partition x y).2.2.length<=x.length:=by
 unfold PySem.Txt.partition;split
 .exact⟨sub_len _ _ _,sub_len _ _ _⟩
 .exact⟨aB _,bA _⟩
def Es (x y:Str):PySem.Txt.startswith x y=true ↔ ∃r,x.cps.toList=y.cps.toList++r:=by
 unfold PySem.Txt.startswith;rw[bj,bM,eE,dC,List.drop_zero,jV,jV];constructor
 .rintro⟨_,h⟩;refine⟨x.cps.toList.drop y.cps.toList.length,?_⟩
  conv=>lhs;rw[<- List.take_append_drop y.cps.toList.length x.cps.toList,h]
 .rintro⟨r,h⟩;rw[h];exact⟨by rw[aM];lia,g7 rfl⟩
def Gs {x y:Str}{r:List Nat}(h:x.cps.toList=y.cps.toList++r):PySem.StrLaws.sliceText x (some (y.length:Int)) none=Bk r:=by have l:y.length=y.cps.toList.length:=jV y;rw[PySem.StrLaws.sliceText_from ⟨by lia,by rw[h,aM];lia⟩,h,l];unfold Bk;congr 1;rw[Int.toNat_natCast,fN rfl,aM];rw[eh (by lia)]
def Nj (t:Str):Bk t.cps.toList=t:=rfl
def MF {z y:Str}{c:Nat}{s:List Nat}(b:y.cps.toList=32::c::s){i:Nat}(h:i+y.length<=z.length/\Builtin.Str.subAt z y i=true):z.cps.toList[i]?=some 32/\z.cps.toList[i+1]?=some c:=by
 have e:=h.2;rw[eE,dC,b]at e;have g:∀k v,(32::c::s)[k]?=some v->z.cps.toList[i+k]?=some v:=λk v a=>by
  rw[<- e,List.getElem?_take]at a;split at a
  .rw[List.getElem?_drop]at a;exact a
  .cases a
 exact⟨g 0 32 rfl,g 1 c rfl⟩
def LR {z y:Str}{c:Nat}{s:List Nat}(b:y.cps.toList=32::c::s)(h:∀i,z.cps.toList[i]?=some 32->z.cps.toList[i+1]? ≠ some c):PySem.Txt.partition z y=(z,Str.empty,Str.empty):=by
 rcases ft z y with⟨e,_⟩|⟨i,_,a,_⟩
 .exact e
 .have:=MF b a;exact absurd this.2 (h i this.1)
def Hq {z y:Str}{c:Nat}{a b s:List Nat}(g:y.cps.toList=32::c::s)(e:z.cps.toList=a++(y.cps.toList++b))(h:c∉a)(d:c≠32):PySem.Txt.partition z y=(Bk a,y,Bk b):=by
 have o:z.length=a.length+(y.length+b.length):=by rw[jV,e,aM,aM,jV]
 have f:a.length+y.length<=z.length/\Builtin.Str.subAt z y a.length=true:=by refine⟨by lia,?_⟩;rw[eE,dC,e,fN rfl,jV,g7 rfl]
 rcases ft z y with⟨_,m⟩|⟨i,j,k,l⟩
 .exact absurd f (m _)
 .have p:¬a.length<i:=λq=>l _ q f;have r:¬i<a.length:=λq=>by
   have:=(MF g k).2;by_cases n:i+1<a.length
   .rw[e,aW n]at this;exact h (bn this)
   .rw[show i+1=a.length by lia,e,bh (aB _),Nat.sub_self,g]at this;exact d (aD this).symm
  obtain rfl:i=a.length:=by lia
  rw[j];refine Prod.ext (um ?_) (Prod.ext rfl (um ?_))
  .show(z.cps.extract 0 a.length).toList=a;rw[ie,e];simp
  .show(z.cps.extract (a.length+y.length) z.length).toList=b;rw[ie,o,e,jV];simp;exact eh (by lia)
def Oo {t:Str}{m:Nat}(h:pQ .start t.cps.toList=some m):jD t=.inl ((t.length-m:Nat):Int):=by
 rw[LQ]at h;unfold jD;cases e:Jg t.cps.toList with
 |error k=>rw[e]at h;cases h;rfl
 |ok ts=>rw[e]at h;cases h
def ZV {t:Str}(h:pQ .start t.cps.toList=none):∃ts,Jg t.cps.toList=.ok ts/\jD t=.inr (jw ((rowOf ts).map (pl 0))):=by
 rw[LQ]at h;unfold jD;cases e:Jg t.cps.toList with
 |error k=>rw[e]at h;cases h
 |ok ts=>exact⟨ts,rfl,rfl⟩
def BJ (c:Nat):Bool:=isF c || c == 32 || c == 43 || c == 45 || c == 94 || c == 120
def Goes (s:qO)(l:List Nat)(s':qO):Prop:=∀r,pQ s (l++r)=pQ s' r
def Goes.nil {s:qO}:Goes s [] s:=λ_=>rfl
def Goes.cons {s s1 s':qO}{c:Nat}{l:List Nat}(h:vO s c=some s1)(g:Goes s1 l s'):Goes s (c::l) s':=λr=>by rw[bY,lB h,g r]
def Goes.app {s s1 s':qO}{a b:List Nat}(g:Goes s a s1)(h:Goes s1 b s'):Goes s (a++b) s':=λr=>by rw[bu,g,h]
def Goes.end {s s':qO}{l:List Nat}(g:Goes s l s')(h:CK s'=true):pQ s l=none:=by have:=g [];rw[aV]at this;rw[this];unfold pQ;rw[ai h]
def zy {s:qO}(h:nxB s=some s):∀k,Goes s (List.replicate k 32) s
 |0=>.nil
 |k+1=>.cons (by rw[Za,h]) (zy h k)
def Um {s:qO}(h:CK s=true)(k:Nat):∃s',CK s'=true/\Goes s (List.replicate k 32) s':=by
 cases k with
 |zero=>exact⟨s,h,.nil⟩
 |succ k=>refine⟨.behind,rfl,.cons (s1:=.behind) ?_ (zy rfl k)⟩;cases s<;>first|rfl|cases h
def Jl:∀(r:List Nat) (k:Nat),(∀c∈r,isF c=true)->k+r.length<=100->Goes (.num k) r (.num (k+r.length))
 |[],_,_,_=>.nil
 |c::r,k,h,a=>by
  have a:k+(r.length+1)<=100:=a;have e:vO (.num k) c=some (.num (k+1)):=by unfold vO;rw[ai (h c aA),YS,ai (by lia)]
  have:=Jl r (k+1) (λd b=>h d (aj _ b)) (by lia);rw[show k+(c::r).length=k+1+r.length by rw[bR];lia];exact .cons e this
def Vb {s:qO}(a:s=.start\/s=.sign){n:Nat}(g:n<10^90):∃s',(s'=.zero\/∃k,s'=.num k)/\Goes s (dg n) s':=by
 obtain⟨h,_,b,_⟩:=Rv n;by_cases c:n=0
 .subst c;refine⟨.zero,.inl rfl,?_⟩;rw[Bp (by decide)];exact .cons (by rcases a with rfl|rfl<;>rfl) .nil
 .obtain⟨d,r,e,j,m⟩:=b (by lia);have l:=U7 (by decide) g;rw[e]at h l ⊢;have l:r.length+1<=90:=l;have i:vO s d=some (.num 1):=by
   unfold vO;rw[ai (h d aA)];have:d≠48:=by lia
   rcases a with rfl|rfl<;>(show some (if d=48 then qO.zero else qO.num 1)=_;rw[ag this])
  exact⟨_,.inr ⟨_,rfl⟩,.cons i (Jl r 1 (λc f=>h c (aj _ f)) (by lia))⟩
def JN:List (List Nat):=[[],[120],[120,94,48],[120,94,49],[120,94,50],[120,94,51],[120,94,52],[120,94,53],[120,94,54],[120,94,55]]
def M6 {s:qO}(b:s=.start\/s=.sign\/s=.zero\/∃k,s=.num k){w:List Nat}(a:w∈JN)(h:w≠[]\/(s ≠ .start/\s ≠ .sign)):∃s',CK s'=true/\Goes s w s':=by
 have d:vO s 120=some .x:=by rcases b with rfl|rfl|rfl|⟨k,rfl⟩<;>rfl
 have p:∀c,isF c=true->∃s',CK s'=true/\Goes s [120,94,c] s':=λc e=>⟨.one (c-48),rfl,.cons d (.cons rfl (.cons (by unfold vO;rw[ai e];rfl) .nil))⟩;unfold JN at a;simp only[aw,bS,eK]at a;rcases a with rfl|rfl|rfl|rfl|rfl|rfl|rfl|rfl|rfl|rfl
 .refine⟨s,?_,.nil⟩;rcases h with h|h
  .exact absurd rfl h
  .rcases b with rfl|rfl|rfl|⟨k,rfl⟩
   .exact absurd rfl h.1
   .exact absurd rfl h.2
   .rfl
   .rfl
 .exact⟨.x,rfl,.cons d .nil⟩
 all_goals exact p _ (by decide)
def vh (o:Option Nat)(w:List Nat):List Nat:=(match o with
 |some n=>dg n
 |none=>[])++w
structure Tm (p:Int)(o:Option Nat)(w:List Nat):Prop where
 tl:w∈JN
 ne:o=none->w≠[]/\p ∣ 1
 sm:∀n,o=some n->n<10^90/\p ∣ (n:Int)
def Fz {p:Int}{o:Option Nat}{w:List Nat}(h:Tm p o w){s:qO}(b:s=.start\/s=.sign):∃s',CK s'=true/\Goes s (vh o w) s':=by
 cases o with
 |none=>exact M6 (b.elim .inl λz=>.inr (.inl z)) h.tl (.inl (h.ne rfl).1)
 |some n=>obtain⟨e,a,g⟩:=Vb b (h.sm n rfl).1;obtain⟨f,d,c⟩:=M6 (s:=e) (.inr (.inr a)) h.tl (.inr (by rcases a with rfl|⟨k,rfl⟩<;>exact⟨(λz=>nomatch z),(λz=>nomatch z)⟩));exact⟨f,d,g.app c⟩
def O7 (q:List Nat):Int:=Cz ((if q.head?=some 45 then q.tail else q).takeWhile isF)
def ZP {a b:List Nat}(h:∀c∈a,isF c=true)(d:∀c r,b=c::r->isF c=false):(a++b).takeWhile isF=a:=by
 induction a with
 |nil=>
  cases b with
  |nil=>rfl
  |cons c r=>rw[bH,fQ (by rw[d c r rfl];decide)]
 |cons x a i=>rw[bY,fR (h x aA),i λc e=>h c (aj _ e)]
def adX {a b:List Nat}(h:∀c∈a,isF c=true)(d:∀c r,b=c::r->c=120):(a++b).head? ≠ some 45:=by
 cases a with
 |nil=>
  cases b with
  |nil=>exact λz=>nomatch z
  |cons c r=>rw[d c r rfl];exact λz=>absurd (aD z) (by decide)
 |cons x a=>have:=mZ.mp (h x aA);intro z;have z:x=45:=aD z;lia
def Hr {a b:List Nat}(g:Bool)(d:∀c∈a,isF c=true)(f:∀c r,b=c::r->c=120):O7 (if g then 45::(a++b) else a++b)=Cz a:=by
 have e:=ZP d λc r h=>by rw[f c r h];rfl
 unfold O7;cases g with
 |true=>exact congrArg Cz e
 |false=>show Cz (List.takeWhile isF (if (a++b).head?=some 45 then(a++b).tail else a++b))=Cz a;rw[ag (adX d f)];exact congrArg Cz e
def abJ {u:Bool×qz}(h:rM u.2):O7 (Vq u)=Cz u.2.1:=by
 obtain⟨g,d,o⟩:=u;have a:=h.lW;unfold Vq
 match o with
 |none=>have:=Hr (b:=[]) g a λc r e=>nomatch e;rw[aV]at this;exact this
 |some []=>exact Hr (b:=[120]) g a λc r e=>by cases e;rfl
 |some (p::ps)=>exact Hr (b:=120::94::p::ps) g a λc r e=>by cases e;rfl
def MT {w:List Nat}(b:w∈JN):(∀c r,w=c::r->c=120)/\(∀c∈w,BJ c=true/\c≠32/\c≠43/\c≠45)/\w.length<=3:=by
 have:JN.all (λw=>(match w with | []=>true|c::_=>c == 120) && w.all (λc=>BJ c && !(c == 32) && !(c == 43) && !(c == 45)) && decide (w.length<=3))=true:=by decide
 have:=aR.mp this w b;rw[bj,bj,bM]at this;refine⟨λc r e=>?_,λc a=>?_,this.2⟩
 .have h:=this.1.1;rw[e]at h;simpa using h
 .have h:=aR.mp this.1.2 c a;simpa [bj,and_assoc] using h
def acQ {c:Nat}(h:isF c=true):BJ c=true/\c≠32/\c≠43/\c≠45:=by have:=mZ.mp h;refine⟨?_,by lia,by lia,by lia⟩;unfold BJ;rw[h];rfl
def De {p:Int}{o:Option Nat}{w:List Nat}(h:Tm p o w):(∀c∈vh o w,BJ c=true/\c≠32/\c≠43/\c≠45)/\vh o w≠[]/\(vh o w).length<=93/\∀g:Bool,p ∣ O7 (if g then 45::vh o w else vh o w):=by
 obtain⟨t,f,q⟩:=MT h.tl;cases o with
 |none=>obtain⟨j,k⟩:=h.ne rfl;refine⟨f,j,by show w.length<=93;lia,λg=>?_⟩;have:=Hr (a:=[]) g (λc b=>nomatch b) t;rw[bH]at this;rw[show vh none w=w from rfl,this];exact k
 |some n=>
  obtain⟨s,m⟩:=h.sm n rfl;obtain⟨d,i,_,e⟩:=Rv n;have l:=U7 (by decide) s;refine⟨λc b=>?_,λz=>e (ei.mp z).1,by show(dg n++w).length<=93;rw[aM];lia,λg=>?_⟩
  .rcases aZ.mp b with b|b
   .exact acQ (d c b)
   .exact f c b
  .rw[show vh (some n) w=dg n++w from rfl,Hr g d t];unfold Cz;rw[ag e,i];exact m
def uJ:Ok P w K mg base 1 "is_figures" ["text","most"] (Ov K (lU cW cR cBT) (λas=>∃t m,as=[.str t,.int m]/\t.length<=10000/\m<=640) λas=>match as with|[.str t,.int m]=>decide ((1<=(t.length:Int)/\(t.length:Int)<=m)/\(t.cps.toList.all isF)=true)|_=>false):=by
 refine uV T.Gb BZ (λ_ ⟨a,b,h,_⟩=>h▸rfl) (λf d A o s H E n=>⟨_,(iV (jb (JS (JW iT (uo T.jO (xs 0)) (xn 1)) (pe_one (ZC rfl T.ac0 (oF (aa5 (N':=["sign"]) (cap:=[]) (oH rfl rfl rfl rfl tT tT rfl) rfl (xs 0) (λ_ _ _=>(qD 0)) (λ_ _ _=>(ZQ (xs 0) (nY (by rfl) T.nQ)))))))))),λas g=>?_⟩);obtain⟨t,m,rfl,p,l⟩:=g;have j:t.length<=sizeLine:=by rw[ao];lia
 refine⟨⟨⟨tT,⟨rfl,j⟩,rfl⟩,λh=>⟨⟨rfl,?_,λc k=>⟨rfl,tT,rfl⟩⟩,λq i=>?_⟩⟩,?_⟩
 .have h:1<=(t.length:Int)/\(t.length:Int)<=m:=h;show t.length<=1000;lia
 .obtain⟨c,_,rfl⟩:=dB.mp i;exact⟨_,rfl⟩
 .show PV.bl (decide ((1<=(t.length:Int)/\(t.length:Int)<=m)/\(((t.cps.toList.map λc=>PV.bl (decide (hdS ⟨#[c]⟩∈("0123456789":Str).cps.toList))).map VB).all id)=true))=PV.bl _;have e:((t.cps.toList.map λc=>PV.bl (decide (hdS ⟨#[c]⟩∈("0123456789":Str).cps.toList))).map VB).all id=t.cps.toList.all isF:=by
   rw[iK,List.all_map];congr 1;funext c;show decide (hdS ⟨#[c]⟩∈("0123456789":Str).cps.toList)=isF c;rw[show hdS ⟨#[c]⟩=c from rfl];cases h:isF c with
   |true=>exact aQ (wW.mpr h)
   |false=>exact aK λz=>by rw[wW.mp z]at h;cases h
  rw[e]
def Ru:Ok P w K mg base 4 "bared" ["f"] (q8 K (lU cW cR cBT) (λas=>as=[.ints []]) λ_=>.tup [.int 0,.ints []]):=by
 refine uV T.Wr sH (λas h=>by rw[h];rfl) (λf j A o s H E g=>⟨_,(iR (jm (i:=1) sH.nd rfl k4 (j9 (vm (ju T) g (iQ (abY (xj T) g Z9) (iQ (xl 0) iU))))) (iR (ji (i:=2) sH.nd rfl (Or.inr rfl) iT) (iR (SQ (k:=3) aT rfl (xl 1) sH.nd rfl k4 (iV jY)) (pI (jn (L2.PW.pt (uY (pZ 1) (wg (Du (kO 1 (qw iT) (λ_ _=>rfl)) iT)))) (iV (ji (i:=2) sH.nd rfl (Or.inr rfl) (qw (xn 2)))) je) (iV (jb (mH (iQ (xn 2) (iQ (j9 (Ao (N':=["number","content"]) (cap:=[some 2]) (oH rfl rfl rfl rfl ⟨⟨rfl,.inr (.inl rfl),JC,.inl rfl,_,rfl,rfl⟩,tT⟩ ⟨rfl,tT⟩ rfl) rfl (xl 1) (λ_ _ _=>(qD 0)) (λ_ _ _=>(kj (xn 0) (xn 1))))) iU))))))))),λas l=>?_⟩)
 subst l;refine⟨⟨⟨tT,rfl,tT⟩,0,[],rfl,by decide⟩,λx d=>?_⟩;replace d:x=[]:=d;subst d;refine⟨tT,λc e=>?_⟩;replace e:c=0:=e;subst e;refine iZ (ρ':=[k7 [],k7 [],k6 0,.un]) rfl ?_;refine⟨rfl,λi a=>a=[k7 [],k7 [],k6 0,.un],rfl,(λi n a b=>by have b:([]:List Int)[i]?=some n:=b;simp at b),?_⟩;rintro a rfl;refine⟨λa=>a=[k7 [],k7 [],k6 0,.un],⟨⟨.inl rfl,λz=>absurd rfl z⟩,(λz=>absurd rfl z.1),λ_=>rfl⟩,?_⟩;rintro a rfl;exact⟨⟨rfl,⟨rfl,by show 0<=1000;decide,(λn b=>nomatch (show n∈([]:List Int) from b))⟩,tT⟩,rfl⟩
def Wa:yX P w K mg base 5 "told" ["f"] (Ha K (lU cW cR cBT) (λas=>as=[.ints []]) λ_=>.err cNN):=by
 refine WT T.aaw Gg (λas h=>by rw[h];rfl) (λf c A o s H E g=>⟨_,(iR (jK (i:=1) Gg.nd rfl k4 (xc (Ru T) g (iQ (xl 0) iU))) (iR (jm (i:=2) Gg.nd rfl (Or.inr rfl) (xl_of (jd (xv 1) iT (λ_ _=>rfl)))) (iR (jn (qC (pZ 2)) (iV (mR HW rfl T.Hb (by rfl) T.wj (iQ jc iU))) je) (iR jY (iV jY))))),λas d=>?_⟩)
 subst d;refine⟨⟨⟨rfl,tT⟩,rfl⟩,λx a=>?_⟩;replace a:x=.tup [.int 0,.ints []]:=a;subst a;refine⟨⟨⟨rfl,tT,it1⟩,rfl⟩,λb e=>?_⟩;replace e:b=[]:=e;subst e;exact⟨.inl rfl,λ_=>⟨⟨tT,tT⟩,rfl⟩,λq=>absurd (show ¬¬¬([]:List Int)=[] from q) (λz=>z λy=>y rfl)⟩
def Bv:yX P w K mg base 6 "whole_parts" ["f"] (Ha K (lU cW cR cBT) (λas=>as=[.ints []]) λ_=>.err cNN):=by
 refine WT T.CJ sI (λas h=>by rw[h];rfl) (λf b A o s H E e=>⟨_,(iR (G7 (i:=1) (Ho (Wa T) e (iQ (xl 0) iU)) kZ sI.nd rfl k4) (iV jY)),λas a=>?_⟩)
 subst a;exact⟨⟨⟨rfl,tT⟩,rfl⟩,(λp a=>nomatch (show Rs.err cNN=.val p from a)),λc d=>d⟩
def Zt (cNN:Addr)(ok:List Int->Bool):Int ⊕ List Int->Rs
 | .inl z=>.err (2*z.toNat+1:Nat)
 | .inr n=>if ok n then .err (2*cNN) else .val .non
def Zb:Rs->Prop
 | .err _=>True
 |_=>False
def Mp {ok:List Int->Bool}{x:Int ⊕ List Int}(h:Zb (Zt cNN ok x)):Ky (QK x) (λ_=>dbl (.err cNN))=Zt cNN ok x/\∀ns,x=.inr ns->ok ns=true:=by
 cases x with
 |inl z=>exact⟨rfl,λns e=>nomatch e⟩
 |inr ns=>
  unfold Zt at h ⊢;dsimp only at h ⊢;by_cases c:ok ns=true
  .rw[ai c];exact⟨rfl,λm e=>by cases e;exact c⟩
  .rw[ag c]at h;exact h.elim
def qK {t:Str}{z:Int}(h:jD t=.inl z):0<=z:=by
 unfold jD at h;split at h
 .cases h;lia
 .cases h
def R4 (cNN:Addr)(t:Str):Rs:=Zt cNN (λn=>decide (n=[])) (jD t)
def yR:yX P w K mg base 8 "parts_answer" ["text"] (KH K (lU cW cR cBT) cBT (λas=>∃t,as=[.str t]/\t.length<=2000/\Zb (R4 cNN t)) λas=>match as with|[.str t]=>R4 cNN t|_=>.val .non):=by
 refine VF T.z9 rD (λ_ ⟨t,h,_⟩=>h▸rfl) (λf j A o s H E g=>⟨_,(iR (wz (i:=1) (Tf (Bv T) g (yU (ww T) g (xs 0))) kZ rD.nd rfl k4) (iV jY)),λas a=>?_⟩)
 obtain⟨t,rfl,m,d⟩:=a;obtain⟨e,k⟩:=Mp d;refine⟨⟨⟨rfl,by show t.length<=10000;lia,λz l=>qK l⟩,λp a=>?_⟩,λp a=>?_,λc b=>?_⟩
 .have a:QK (jD t)=.val p:=a;cases x:jD t with
  |inl z=>rw[x]at a;cases a
  |inr n=>rw[x]at a;cases a;have:=bi (k n x);rw[this]
 .have a:Ky (QK (jD t)) (λ_=>dbl (.err cNN))=.val p:=a;rw[e]at a;unfold R4 at d;rw[a]at d;exact d.elim
 .have b:Ky (QK (jD t)) (λ_=>dbl (.err cNN))=.err c:=b;rw[e]at b;exact b
def GK (cBA:Addr)(t:Str):Rs:=if (PySem.Txt.partition t " and ").2.1="" then .err (2*cBA) else match jD (PySem.Txt.partition t " and ").1 with
 | .inl z=>.err (2*z.toNat+1:Nat)
 | .inr _=>match jD (PySem.Txt.partition t " and ").2.2 with
  | .inl z=>.err (2*z.toNat+1:Nat)
  | .inr _=>.val .non
def Ga {a b c:PV}{i:Int}(h:0<=i/\i<3):pR (.tup [a,b,c]) i:=⟨by show -(3:Int)<=i;lia,h.2⟩
def xQ:yX P w K mg base 8 "common_answer" ["text"] (KH K (lU cW cR cBT) cBT (λas=>∃t,as=[.str t]/\t.length<=2000/\Zb (GK cBA t)) λas=>match as with|[.str t]=>GK cBA t|_=>.val .non):=by
 refine VF T.yK lO (λ_ ⟨t,h,_⟩=>h▸rfl) (λf l A o s H E k=>⟨_,(iR (jK (i:=1) lO.nd rfl k4 (FZ (xs 0) (by decide +kernel))) (iR (jn (u5 (jX (jd (xv 1) iT (λ_ _=>rfl))) jc) (iV (Jv (mR HW rfl T.Ak (by rfl) T.tV (iQ jc iU)))) je) (iR (wz (i:=2) (yU (ww T) k (jX (jd (xv 1) iT (λ_ _=>rfl)))) kZ lO.nd rfl k4) (iR (wz (i:=3) (yU (ww T) k (jX (jd (xv 1) iT (λ_ _=>rfl)))) kZ lO.nd rfl k4) (iV jY))))),λas b=>?_⟩)
 obtain⟨t,rfl,r,e⟩:=b;have pl:=Iu t " and ";have d:GK cBA t=if (PySem.Txt.partition t " and ").2.1="" then .err (2*cBA) else match jD (PySem.Txt.partition t " and ").1 with
  | .inl z=>.err (2*z.toNat+1:Nat)
  | .inr _=>match jD (PySem.Txt.partition t " and ").2.2 with
   | .inl z=>.err (2*z.toNat+1:Nat)
   | .inr _=>.val .non:=rfl
 rw[d]at e;refine⟨⟨rfl,by show t.length<=sizeLine;rw[ao];lia⟩,λp g=>?_⟩;replace g:p=.tup [.str (PySem.Txt.partition t " and ").1,.str (PySem.Txt.partition t " and ").2.1,.str (PySem.Txt.partition t " and ").2.2]:=g;subst g;generalize PySem.Txt.partition t " and "=h at pl e d ⊢;refine iZ (ρ':=[.fr (.str t),.fr (.tup [.str h.1,.str h.2.1,.str h.2.2]),.un,.un]) rfl ?_;refine⟨⟨⟨⟨rfl,tT,Ga (show(0:Int)<=1/\(1:Int)<3 by decide)⟩,rfl⟩,tT⟩,λq=>?_,λq=>?_⟩
 .have q:h.2.1="":=q;refine⟨⟨tT,tT⟩,?_⟩;show GK cBA t=.err (2*cBA);rw[d,ai q]
 have q:¬h.2.1="":=q;rw[ag q]at e d;refine⟨⟨⟨⟨rfl,tT,Ga (show(0:Int)<=0/\(0:Int)<3 by decide)⟩,rfl⟩,by show h.1.length<=10000;lia,λz j=>qK j⟩,λp b=>?_,λc a=>?_⟩
 .have b:QK (jD h.1)=.val p:=b;cases x:jD h.1 with
  |inl z=>rw[x]at b;cases b
  |inr n=>
   rw[x]at b e d;cases b;dsimp only at e d;refine iZ (ρ':=[.fr (.str t),.fr (.tup [.str h.1,.str h.2.1,.str h.2.2]),k7 n,.un]) rfl ?_;refine⟨⟨⟨⟨rfl,tT,Ga (show(0:Int)<=2/\(2:Int)<3 by decide)⟩,rfl⟩,by show h.2.2.length<=10000;lia,λz j=>qK j⟩,λp b=>?_,λc a=>?_⟩
   .have b:QK (jD h.2.2)=.val p:=b;cases y:jD h.2.2 with
    |inl z=>rw[y]at b;cases b
    |inr m=>rw[y]at e;exact e.elim
   .have a:QK (jD h.2.2)=.err c:=a;show GK cBA t=.err c;rw[d];cases y:jD h.2.2 with
    |inl z=>rw[y]at a;exact a
    |inr m=>rw[y]at a;cases a
 .have a:QK (jD h.1)=.err c:=a;show GK cBA t=.err c;rw[d];cases x:jD h.1 with
  |inl z=>rw[x]at a;exact a
  |inr m=>rw[x]at a;cases a
def Br (t:Str)(m:Int):Bool:=decide ((1<=(t.length:Int)/\(t.length:Int)<=m)/\(t.cps.toList.all isF)=true)
open Classical in
def Ui (cBA cNP cNN:Addr)(h:Str×Str×Str):Rs:=if h.2.1=""\/¬Br h.1 60=true then .err (2*cBA) else if PySem.Txt.startswith h.1 "0"=true then .err (2*cNP) else
 if zW ((intText? h.1).getD 0) then Zt cNN (λn=>decide (Tz ((intText? h.1).getD 0) n=[])) (jD h.2.2) else .err (2*cNP)
def GQ (cBA cNP cNN:Addr)(t:Str):Rs:=Ui cBA cNP cNN (PySem.Txt.partition t " of ")
def HN {t:Str}(h:Br t 60=true):(intText? t).isSome=true/\t.length<=60:=by obtain⟨⟨b,c⟩,a⟩:=bi h;have a:=aR.mp a;have e:=Ei a (λz=>by rw[jV,z]at b;exact absurd b (by decide)) (by rw[jV]at c;lia);have e:intText? t=some ((fv t.cps.toList:Nat):Int):=e;rw[e];exact⟨rfl,by lia⟩
def O8 {t:Str}{ns:Li}(h:jD t=.inr ns):ns.length<=41:=by
 unfold jD at h;split at h
 .cases h
 .cases h;refine aG (t8 _) ?_;rw[ae,ul];exact aB _
def uX:yX P w K mg base 11 "parts_by_answer" ["text"] (KH K (lU cW cR cBT) cBT (λas=>∃t,as=[.str t]/\t.length<=2000/\Zb (GQ cBA cNP cNN t)) λas=>match as with|[.str t]=>GQ cBA cNP cNN t|_=>.val .non):=by
 refine VF T.qd jz (λ_ ⟨t,h,_⟩=>h▸rfl) (λf B A r s H E l=>⟨_,(iR (jK (i:=1) jz.nd rfl k4 (FZ (xs 0) (by decide +kernel))) (iR (jn (L2.PW.pt (Ed (u5 (jX (jd (xv 1) iT (λ_ _=>rfl))) jc) (zG (qC (yz (xcb (uJ T) l (iQ (jX (jd (xv 1) iT (λ_ _=>rfl))) (iQ (Oq (by rfl) T.oh) iU)))))))) (iV (Jv (mR HW rfl T.Ak (by rfl) T.tV (iQ jc iU)))) je) (iR (jn (yz (Eb (jX (jd (xv 1) iT (λ_ _=>rfl))))) (iV (Jv (mR HW rfl T.Df (by rfl) T.ue (iQ jc iU)))) je) (iR (Jv (G7 (i:=2) (M8 (Je T) l Oi (iQ (Lz T.yp rZ (jX (jd (xv 1) iT (λ_ _=>rfl)))) iU)) kZ jz.nd rfl k4)) (iR (wz (i:=3) (Vc (Qw T) l (xv 2) (yU (ww T) l (jX (jd (xv 1) iT (λ_ _=>rfl))))) kZ jz.nd rfl k4) (iV jY)))))),λas a=>?_⟩)
 obtain⟨t,rfl,M,e⟩:=a;have pl:=Iu t " of ";have d:GQ cBA cNP cNN t=Ui cBA cNP cNN (PySem.Txt.partition t " of "):=rfl;rw[d]at e;refine⟨⟨rfl,by show t.length<=sizeLine;rw[ao];lia⟩,λp m=>?_⟩;replace m:p=.tup [.str (PySem.Txt.partition t " of ").1,.str (PySem.Txt.partition t " of ").2.1,.str (PySem.Txt.partition t " of ").2.2]:=m;subst m;generalize PySem.Txt.partition t " of "=h at pl e d ⊢;refine iZ (ρ':=[.fr (.str t),.fr (.tup [.str h.1,.str h.2.1,.str h.2.2]),.un,.un]) rfl ?_;have o:pR (.tup [.str h.1,.str h.2.1,.str h.2.2]) 0:=Ga (by decide);have G:pR (.tup [.str h.1,.str h.2.1,.str h.2.2]) 1:=Ga (by decide);have I:pR (.tup [.str h.1,.str h.2.1,.str h.2.2]) 2:=Ga (by decide);refine⟨⟨⟨⟨⟨rfl,tT,G⟩,rfl⟩,tT⟩,λ_=>⟨⟨⟨⟨rfl,tT,o⟩,rfl⟩,tT,tT⟩,h.1,60,rfl,by lia,by decide⟩⟩,λq=>?_,λq=>?_⟩
 .have q:h.2.1=""\/¬Br h.1 60=true:=q;refine⟨⟨tT,tT⟩,?_⟩;show GQ cBA cNP cNN t=.err (2*cBA);rw[d];unfold Ui;rw[ai q]
 have q:¬(h.2.1=""\/¬Br h.1 60=true):=q;have k:=cE.mp λz=>q (.inr z);obtain⟨D,L⟩:=HN k;unfold Ui at e d;rw[ag q]at e d;refine⟨⟨⟨rfl,tT,o⟩,rfl⟩,λj=>?_,λj=>?_⟩
 .have j:PySem.Txt.startswith h.1 "0"=true:=j;refine⟨⟨tT,tT⟩,?_⟩;show GQ cBA cNP cNN t=.err (2*cNP);rw[d,ai j]
 have j:¬PySem.Txt.startswith h.1 "0"=true:=j;rw[ag j]at e d;generalize v:(intText? h.1).getD 0=n at e d;refine⟨⟨⟨⟨⟨⟨rfl,tT,o⟩,rfl⟩,D,by show h.1.length<=640;lia⟩,tT⟩,tT,tT⟩,λp a=>?_,λc b=>?_⟩
 .have a:mkR (Vt cNP [(intText? h.1).getD 0])=.val p:=a;rw[v]at a;by_cases g:zW n
  .rw[Ss g]at a;cases a;rw[ai g]at e d;obtain⟨u,C⟩:=Mp e;refine iZ (ρ':=[.fr (.str t),.fr (.tup [.str h.1,.str h.2.1,.str h.2.2]),.fr (.ob 0 n),.un]) rfl ?_;refine⟨⟨rfl,⟨⟨⟨rfl,tT,I⟩,rfl⟩,by show h.2.2.length<=10000;lia,λz F=>qK F⟩,λp a=>?_⟩,λp a=>?_,λc b=>?_⟩
   .have a:QK (jD h.2.2)=.val p:=a;cases x:jD h.2.2 with
    |inl z=>rw[x]at a;cases a
    |inr y=>rw[x]at a;cases a;have J:=O8 x;exact⟨n,y,rfl,by lia,bi (C y x)⟩
   .have a:Ky (QK (jD h.2.2)) (λ_=>dbl (.err cNN))=.val p:=a;rw[u]at a;rw[a]at e;exact e.elim
   .have b:Ky (QK (jD h.2.2)) (λ_=>dbl (.err cNN))=.err c:=b;rw[u]at b;show GQ cBA cNP cNN t=.err c;rw[d];exact b
  .rw[YQ g]at a;cases a
 .have b:mkR (Vt cNP [(intText? h.1).getD 0])=.err c:=b;rw[v]at b;by_cases g:zW n
  .rw[Ss g]at b;cases b
  .rw[YQ g]at b;cases b;show GQ cBA cNP cNN t=.err (2*cNP);rw[d,ag g]
def uA (cBA cNP cNN:Addr)(t:Str):Rs:=if PySem.Txt.startswith t "parts of "=true then R4 cNN (PySem.StrLaws.sliceText t (some 9) none) else if PySem.Txt.startswith t "parts by "=true then GQ cBA cNP cNN (PySem.StrLaws.sliceText t (some 9) none) else
 if PySem.Txt.startswith t "common of "=true then GK cBA (PySem.StrLaws.sliceText t (some 10) none) else .err (2*cBA)
def Gr {t y:Str}(h:PySem.Txt.startswith t y=true):(PySem.StrLaws.sliceText t (some (y.length:Int)) none).length<=t.length:=by obtain⟨r,e⟩:=(Es t y).mp h;rw[Gs e,jV,jV,e,aM];show r.toArray.toList.length<=_;simp
def Sw:yX P w K mg base 12 "asked" ["line"] (KH K (lU cW cR cBT) cBT (λas=>∃t,as=[.str t]/\t.length<=2000/\Zb (uA cBA cNP cNN t)) λas=>match as with|[.str t]=>uA cBA cNP cNN t|_=>.val .non):=by
 refine VF T.Mr G8 (λ_ ⟨t,h,_⟩=>h▸rfl) (λf r A o s H E i=>⟨_,(iR (jn (yz (o9 (xs 0) (nY (by rfl) T.u6))) (iV (zQ (Aa (yR T) i (iQ (yS (xs 0) (uo T.jO (nY (by rfl) T.u6))) iU)) kZ)) je) (iR (jn (yz (o9 (xs 0) (nY (by rfl) T.qX))) (iV (zQ (Aa (uX T) i (iQ (yS (xs 0) (uo T.jO (nY (by rfl) T.qX))) iU)) kZ)) je) (iR (jn (yz (o9 (xs 0) (nY (by rfl) T.yw))) (iV (zQ (Aa (xQ T) i (iQ (yS (xs 0) (uo T.jO (nY (by rfl) T.yw))) iU)) kZ)) je) (iV (Jv (mR HW rfl T.Ak (by rfl) T.tV (iQ jc iU))))))),λas a=>?_⟩)
 obtain⟨t,rfl,k,g⟩:=a;have b:uA cBA cNP cNN t=if PySem.Txt.startswith t "parts of "=true then R4 cNN (PySem.StrLaws.sliceText t (some 9) none) else if PySem.Txt.startswith t "parts by "=true then GQ cBA cNP cNN (PySem.StrLaws.sliceText t (some 9) none) else
  if PySem.Txt.startswith t "common of "=true then GK cBA (PySem.StrLaws.sliceText t (some 10) none) else .err (2*cBA):=rfl
 have m:t.length<=sizeLine:=by rw[ao];lia
 have u:(("parts of ":Str).length:Int)=9:=by decide +kernel
 have j:(("parts by ":Str).length:Int)=9:=by decide +kernel
 have l:(("common of ":Str).length:Int)=10:=by decide +kernel
 have z:∀{n:Nat},n<=100->n<=sizeLine:=λh=>by rw[ao];lia
 rw[b]at g;refine⟨⟨rfl,tT⟩,λq=>?_,λq=>?_⟩
 .have q:PySem.Txt.startswith t "parts of "=true:=q;rw[ai q]at g b;have e:PySem.StrLaws.sliceText t (some (("parts of ":Str).length:Int)) none=PySem.StrLaws.sliceText t (some 9) none:=by rw[u]
  refine⟨⟨⟨⟨rfl,⟨tT,z (by decide +kernel)⟩,m⟩,tT⟩,_,rfl,?_,?_⟩,λp a=>?_,λc d=>?_⟩
  .exact aG (Gr q) k
  .show Zb (R4 cNN (PySem.StrLaws.sliceText t (some (("parts of ":Str).length:Int)) none));rw[e];exact g
  .have a:R4 cNN (PySem.StrLaws.sliceText t (some (("parts of ":Str).length:Int)) none)=.val p:=a;rw[e]at a;exact b.trans a
  .have d:R4 cNN (PySem.StrLaws.sliceText t (some (("parts of ":Str).length:Int)) none)=.err c:=d;rw[e]at d;exact b.trans d
 have q:¬PySem.Txt.startswith t "parts of "=true:=q;rw[ag q]at g b;refine⟨⟨rfl,tT⟩,λq=>?_,λq=>?_⟩
 .have q:PySem.Txt.startswith t "parts by "=true:=q;rw[ai q]at g b;have e:PySem.StrLaws.sliceText t (some (("parts by ":Str).length:Int)) none=PySem.StrLaws.sliceText t (some 9) none:=by rw[j]
  refine⟨⟨⟨⟨rfl,⟨tT,z (by decide +kernel)⟩,m⟩,tT⟩,_,rfl,?_,?_⟩,λp a=>?_,λc d=>?_⟩
  .exact aG (Gr q) k
  .show Zb (GQ cBA cNP cNN (PySem.StrLaws.sliceText t (some (("parts by ":Str).length:Int)) none));rw[e];exact g
  .have a:GQ cBA cNP cNN (PySem.StrLaws.sliceText t (some (("parts by ":Str).length:Int)) none)=.val p:=a;rw[e]at a;exact b.trans a
  .have d:GQ cBA cNP cNN (PySem.StrLaws.sliceText t (some (("parts by ":Str).length:Int)) none)=.err c:=d;rw[e]at d;exact b.trans d
 have q:¬PySem.Txt.startswith t "parts by "=true:=q;rw[ag q]at g b;refine⟨⟨rfl,tT⟩,λq=>?_,λq=>?_⟩
 .have q:PySem.Txt.startswith t "common of "=true:=q;rw[ai q]at g b;have e:PySem.StrLaws.sliceText t (some (("common of ":Str).length:Int)) none=PySem.StrLaws.sliceText t (some 10) none:=by rw[l]
  refine⟨⟨⟨⟨rfl,⟨tT,z (by decide +kernel)⟩,m⟩,tT⟩,_,rfl,?_,?_⟩,λp a=>?_,λc d=>?_⟩
  .exact aG (Gr q) k
  .show Zb (GK cBA (PySem.StrLaws.sliceText t (some (("common of ":Str).length:Int)) none));rw[e];exact g
  .have a:GK cBA (PySem.StrLaws.sliceText t (some (("common of ":Str).length:Int)) none)=.val p:=a;rw[e]at a;exact b.trans a
  .have d:GK cBA (PySem.StrLaws.sliceText t (some (("common of ":Str).length:Int)) none)=.err c:=d;rw[e]at d;exact b.trans d
 have q:¬PySem.Txt.startswith t "common of "=true:=q;rw[ag q]at b;exact⟨⟨tT,tT⟩,b⟩
def uQ:Ok P w K mg base 1 "term_shown" ["number","power"] (q8 K (lU cW cR cBT) (λas=>∃n k,as=[.int n,.int k]/\(n.natAbs:Int)<10^110/\0<=k/\k<1000) λas=>match as with|[.int n,.int k]=>.str (GJ n k)|_=>.non):=by
 refine uV T.Ey qp (λ_ ⟨a,b,h,_⟩=>h▸rfl) (λf u A o s H E I=>⟨_,(iR (jQ (i:=2) qp.nd rfl k4 (tG T.yq (RM T.Y8 (xn 0)))) (iR (jn (mQ (xn 1) iT) (iV (jb (xs 2))) je) (iR (jQ (i:=3) qp.nd rfl k4 (NZ (u5 (xs 2) jc) jc (xs 2))) (iV (jb (NZ (mQ (xn 1) iT) (jq (xs 3) jc) (acn (xs 3) (xn 1)))))))),λas x=>?_⟩)
 obtain⟨n,k,rfl,t,y,r⟩:=x;have F:(((n.natAbs:Int)).natAbs:Int)<10^110:=t;have p:(if n<0 then -n else n)=(n.natAbs:Int):=by split<;>lia
 have m:(if n<0 then -n else n).natAbs.log2<1920:=by rw[p];exact Av F
 have v:=lV (cL _) t;have G:=lV y (qF r);have D:("x":Str).length=1:=by decide +kernel
 have l:("x^":Str).length=2:=by decide +kernel
 have C:("":Str).length=0:=by decide +kernel
 refine⟨⟨rfl,m⟩,λj d=>?_⟩;have d:j=jA (if n<0 then -n else n):=d;rw[p]at d;refine⟨⟨rfl,tT⟩,λq=>?_,λq=>?_⟩
 .have q:k=0:=q;refine⟨rfl,?_⟩;show PV.str j=PV.str (GJ n k);unfold GJ;rw[ai q,d]
 have q:¬k=0:=q;refine⟨⟨⟨rfl,tT⟩,λ_=>tT,λ_=>rfl⟩,λg e=>?_⟩;have e:g=if j=("1":Str) then("":Str) else j:=e;have e:g=if n.natAbs=1 then("":Str) else jA (n.natAbs:Int):=by
  rw[e,d];by_cases c:n.natAbs=1
  .rw[ai c,ai ((Lr (cL _)).mpr (by lia))]
  .rw[ag c,ag (λz=>c (by have:=(Lr (cL _)).mp z;lia))]
 have J:g.length<=110:=by
  rw[e];split
  .rw[C];lia
  .exact v.2
 have B:(k.natAbs:Int)<10^110:=by
  have:=qF r;generalize (10:Int)^110=Z at *
  lia
 refine⟨⟨⟨rfl,tT⟩,λ_=>⟨rfl,tT,by show g.length+("x":Str).length<=sizeLine;rw[D];exact sz (by lia)⟩,λ_=>⟨rfl,rfl,by show g.length<=sizeLine;exact sz (by lia),by show(g++("x^":Str)).length<=sizeLine;rw[len_app,l];exact sz (by lia),Av B,by show(g++("x^":Str)++jA k).length<=sizeLine;rw[len_app,len_app,l];exact sz (by lia)⟩⟩,?_⟩;show PV.str (if k=1 then g++("x":Str) else g++("x^":Str)++jA k)=PV.str (GJ n k);unfold GJ;rw[ag q,<- e];by_cases c:k=1
 .rw[ai c,ai c]
 .rw[ag c,ag c,jo]
def nb {ns:Li}(h:∀m∈ns,(m.natAbs:Int)<10^110)(n:Nat):((ns.getD n 0).natAbs:Int)<10^110:=by
 by_cases c:n<ns.length
 .exact h _ (FM.getD_mem c)
 .rw[jL (by lia)];decide +kernel
def SM:Ok P w K mg base 5 "shown" ["f"] (q8 K (lU cW cR cBT) (λas=>∃f,as=[.ints f]/\f.length<=100/\∀m∈f,(m.natAbs:Int)<10^110) λas=>match as with|[.ints f]=>.str (Up (jw f))|_=>.non):=by
 refine uV T.X5 pD (λ_ ⟨a,h,_⟩=>h▸rfl) (λf cdv A Q s H E J=>⟨_,(iR (jm (i:=1) pD.nd rfl k4 (j9 (vm (ju T) J (iQ (abY (xj T) J Z9) (iQ (xl 0) iU))))) (iR (jn (qC (pZ 1)) (iV (jb jc)) je) (iR (jQ (i:=2) pD.nd rfl k4 (NZ (Du (kO 1 (qw iT) (λ_ _=>rfl)) iT) jc jc)) (iR (sr (i:=2) pD.nd rfl k4 (jX (xc (uQ T) J (iQ (kO 1 (qw iT) (λ_ _=>rfl)) (iQ (pG (lw 1 T.jO) iT) iU))))) (iR (Uv (k:=3) aT rfl (by rfl) T.qR (pG (lw 1 T.jO) iT) (qw iT) (qw iT) pD.nd rfl k4 (iV (jn (zZ (kO 1 (xn 3) (λ_ _=>rfl)) iT) (iR (sr (i:=2) pD.nd rfl k4 (NZ (Du (kO 1 (xn 3) (λ_ _=>rfl)) iT) jc jc)) (iV (sr (i:=2) pD.nd rfl k4 (jX (xc (uQ T) J (iQ (kO 1 (xn 3) (λ_ _=>rfl)) (iQ (xn 3) iU))))))) je))) (iV (jb (xs 2)))))))),λas hp=>?_⟩)
 obtain⟨f,rfl,hl,hb⟩:=hp;refine⟨⟨⟨tT,rfl,tT⟩,0,f,rfl,by lia⟩,λb c=>?_⟩;have c:b=Tz 0 f:=c;have c:b=jw f:=by
  rw[c];unfold Tz;have:(pl 0)=(id:Int->Int):=by funext n;exact W9 n
  rw[this,List.map_id]
 have nl:b.length<=100:=by rw[c];exact aG (t8 _) hl
 have I:∀n,((b.getD n 0).natAbs:Int)<10^110:=λn=>by rw[c,pJ];exact nb hb n
 have y:∀x:Str,x=Up b->PV.str x=PV.str (Up (jw f)):=λx h=>by rw[h,c]
 refine⟨.inl rfl,λq=>?_,λq=>?_⟩
 .have q:¬¬b=[]:=q;refine⟨tT,y ("0":Str) ?_⟩;unfold Up;rw[ai (cE.mp q)]
 have q:¬¬¬b=[]:=q;have ne:¬b=[]:=cE.mp q;have lp:=lP ne;have O:b.getD (jR b.length (-1)) 0=b.getD (b.length-1) 0:=by
  have e:jR b.length (-1)=b.length-1:=by unfold jR;rw[ag (by lia)];lia
  rw[e]
 have sh:Up b=PX b (b.length-1):=by unfold Up;rw[ag ne]
 clear c;have c1:-(b.length:Int) <= -1:=by lia
 have c2:(-1:Int)<(b.length:Int):=by lia
 refine⟨⟨⟨⟨.inl rfl,tT,c1,c2⟩,tT⟩,λ_=>tT,λ_=>tT⟩,λB g=>?_⟩;have g:B=if b.getD (jR b.length (-1)) 0<0 then("-":Str) else("":Str):=g;rw[O]at g;have g:B=sgS (b.getD (b.length-1) 0):=g;have l0:B.length<=1:=by rw[g];unfold sgS;split<;>decide +kernel
 have kt:((b.length-1:Nat):Int)=(b.length:Int)-1:=by lia
 obtain⟨tl1,tl2⟩:=zm (I (b.length-1)) (k:=((b.length-1:Nat):Int)) (by lia) (by lia);refine iZ (ρ':=[k7 f,k7 b,.fr (.str B),.un]) rfl ?_;have D:GJ (b.getD (jR b.length (-1)) 0) ((b.length:Int)-1)=GJ (b.getD (b.length-1) 0) ((b.length-1:Nat):Int):=by rw[O,kt]
 refine⟨rfl,⟨⟨⟨⟨.inl rfl,tT,c1,c2⟩,⟨.inl rfl,tT⟩,tT⟩,_,_,rfl,?_,?_,?_⟩,rfl⟩,?_,λt1 o=>?_⟩
 .show((b.getD (jR b.length (-1)) 0).natAbs:Int)<10^110;rw[O];exact I _
 .show 0<=(b.length:Int)-1;lia
 .show(b.length:Int)-1<1000;lia
 .show B.length+(GJ (b.getD (jR b.length (-1)) 0) ((b.length:Int)-1)).length<=sizeLine;rw[D];exact sz (by lia)
 have o:t1=B++GJ (b.getD (jR b.length (-1)) 0) ((b.length:Int)-1):=o;rw[D]at o;have en:((b.length:Int)-2 - -1).toNat=b.length-1:=by lia
 refine⟨⟨⟨.inl rfl,tT⟩,tT,tT⟩,⟨by show -(2:Int)^62<=(b.length:Int)-2;lia,by show(b.length:Int)-2<2^62;lia,by show -(2:Int)^62 <= -1;decide,by show(-1:Int)<2^62;decide⟩,λi ρ=>∃t v3,ρ=[k7 f,k7 b,.fr (.str t),v3]/\t++BL b (b.length-1-i)=PX b (b.length-1)/\t.length<=300*(i+1),⟨t1,.un,rfl,?_,?_⟩,?_,?_⟩
 .rw[o,g,Nat.sub_zero,jo];rfl
 .rw[o,len_app];lia
 .rintro i ρ M ⟨t,v3,rfl,j,h2⟩;have M:i<b.length-1:=by have M:i<((b.length:Int)-2 - -1).toNat:=M;lia
  obtain⟨p,ep⟩:∃p:Nat,b.length-1-i=p+1:=⟨b.length-1-i-1,by lia⟩;have r:(b.length:Int)-2+(i:Int)*(-1)=(p:Int):=by lia
  have e2:b.length-1-(i+1)=p:=by lia
  have F:-(b.length:Int)<=((b.length:Int)-2+(i:Int)*(-1)):=by rw[r];lia
  have G:((b.length:Int)-2+(i:Int)*(-1))<(b.length:Int):=by rw[r];lia
  have u:jR b.length ((b.length:Int)-2+(i:Int)*(-1))=p:=by rw[r];unfold jR;rw[ai (by lia)];lia
  have R:-(b.length:Int)<=(p:Int):=by lia
  have S:(p:Int)<(b.length:Int):=by lia
  have v:jR b.length (p:Int)=p:=by unfold jR;rw[ai (by lia)];lia
  rw[ep]at j;refine⟨⟨⟨.inl rfl,rfl,F,G⟩,tT⟩,λz=>?_,λz=>?_⟩
  .have z:¬b.getD (jR b.length ((b.length:Int)-2+(i:Int)*(-1))) 0=0:=z;rw[u]at z;have L:t++(jnS (b.getD p 0)++(GJ (b.getD p 0) (p:Int)++BL b p))=PX b (b.length-1):=by have j:=j;unfold BL at j;rw[ag z]at j;exact j
   obtain⟨tm1,tm2⟩:=zm (I p) (k:=(p:Int)) (by lia) (by lia);have N:=Mh (b.getD p 0);refine⟨rfl,⟨⟨⟨.inl rfl,rfl,F,G⟩,tT⟩,λ_=>tT,λ_=>tT⟩,?_,λC d=>?_⟩
   .show t.length+(if b.getD (jR b.length ((b.length:Int)-2+(i:Int)*(-1))) 0<0 then(" - ":Str) else(" + ":Str)).length<=sizeLine;rw[u];show t.length+(jnS (b.getD p 0)).length<=sizeLine;rw[N];exact sz (by lia)
   have d:C=t++(if b.getD (jR b.length ((b.length:Int)-2+(i:Int)*(-1))) 0<0 then(" - ":Str) else(" + ":Str)):=d;rw[u]at d;have d:C=t++jnS (b.getD p 0):=d;refine iZ (ρ':=[k7 f,k7 b,.fr (.str C),k6 (p:Int)]) (by rw[<- r];rfl) ?_;refine⟨rfl,⟨⟨⟨⟨.inl rfl,rfl,R,S⟩,rfl,tT⟩,_,_,rfl,?_,by show 0<=(p:Int);lia,by show(p:Int)<1000;lia⟩,rfl⟩,?_,λZ l=>⟨Z,k6 (p:Int),rfl,?_,?_⟩⟩
   .show((b.getD (jR b.length (p:Int)) 0).natAbs:Int)<10^110;rw[v];exact I p
   .show C.length+(GJ (b.getD (jR b.length (p:Int)) 0) (p:Int)).length<=sizeLine;rw[v,d,len_app,N];exact sz (by lia)
   .have l:Z=C++GJ (b.getD (jR b.length (p:Int)) 0) (p:Int):=l;rw[l,v,d,e2,jo,jo];exact L
   .have l:Z=C++GJ (b.getD (jR b.length (p:Int)) 0) (p:Int):=l;rw[l,v,d,len_app,len_app,N];lia
  .have z:¬¬b.getD (jR b.length ((b.length:Int)-2+(i:Int)*(-1))) 0=0:=z;rw[u]at z;refine⟨t,_,rfl,?_,by lia⟩;rw[e2];unfold BL at j;rw[ai (cE.mp z)]at j;exact j
 .rintro ρ ⟨t,v3,rfl,j,h2⟩;have j:t++BL b (b.length-1-((b.length:Int)-2 - -1).toNat)=PX b (b.length-1):=j;rw[en,Nat.sub_self]at j;refine⟨rfl,y t ?_⟩;rw[sh,<- j];exact(Il t).symm
def Wk (n:Int):(sgS n).length<=1:=by unfold sgS;split<;>decide +kernel
def Ik {f:Li}(a:∀n,((f.getD n 0).natAbs:Int)<10^110):∀k,k<=900->(BL f k).length<=300*k
 |0,_=>by show("":Str).length<=0;decide +kernel
 |k+1,h=>by
  have i:=Ik a k (by lia);unfold BL;split
  .lia
  .have j:=Mh (f.getD k 0);obtain⟨t,b⟩:=zm (a k) (k:=(k:Int)) (by lia) (by lia);rw[len_app,len_app];lia
def Mz {f:Li}(a:∀m∈f,(m.natAbs:Int)<10^110)(hl:f.length<=100):(Up (jw f)).length<=30400:=by
 have h:∀n,(((jw f).getD n 0).natAbs:Int)<10^110:=λn=>by rw[pJ];exact nb a n
 have t:=t8 f;unfold Up;split
 .exact aG (by decide +kernel:("0":Str).length<=1) (by decide)
 .unfold PX;have b:=Wk ((jw f).getD ((jw f).length-1) 0);have c:=zm (h ((jw f).length-1)) (k:=(((jw f).length-1:Nat):Int)) (by lia) (by lia);have d:=Ik h ((jw f).length-1) (by lia);rw[len_app,len_app];lia
def QC {c:Int}(h:(c.natAbs:Int)<10^110):(jA c).length<=110+1:=by
 cases c with
 |ofNat m=>
  have:=(lV (a:=(m:Int)) (by lia) (by
   have e:(((Int.ofNat m).natAbs:Nat):Int)=(m:Int):=rfl;rw[e]at h;exact h)).2
  exact aG this (by decide)
 |negSucc m=>
  have e:(jA (Int.negSucc m)).length=(Nat.toDigits 10 (m+1)).length+1:=by show(PySem.Str.ofString (toString (Int.negSucc m))).cps.size=_;rw[<- aY,PyProof.Rows.signs_ofString,ae];show("-"++Nat.repr (m+1)).toList.length=_;rw[String.toList_append,aM,Nat.toList_repr];show 1+_=_;lia
  rw[e];have g:m+1<10^110:=by
   have d:((10^110:Nat):Int)=(10:Int)^110:=by decide +kernel
   have f:(((Int.negSucc m).natAbs:Nat):Int)=((m+1:Nat):Int):=rfl;rw[f]at h;generalize (10:Int)^110=Z at *
   generalize (10:Nat)^110=N at *
   lia
  have:=(dF (b:=10) (n:=m+1) (k:=110) (by decide) (by decide)).mpr g;lia
def goG:PV->List Int
 | .tup [.ints g,.int _]=>g
 |_=>[]
def goO:PV->Int
 | .tup [.ints _,.int o]=>o
 |_=>0
def Gd (q:PV):Prop:=∃g o,q=.tup [.ints g,.int o]/\g.length<=100/\(∀m∈g,(m.natAbs:Int)<10^110)/\0<=o/\o<1000
def Gd.go {q:PV}(h:Gd q):aal q:=by obtain⟨g,o,e,_⟩:=h;exact⟨g,o,e⟩
def Lw (s:Str)(q:PV):Str:=s++((" * (":Str)++Up (jw (goG q))++(")":Str))++(if goO q > 1 then("^":Str)++jA (goO q) else e0)
def Rb (c:Int)(l:List PV):Str:=l.foldl Lw (jA c)
def Hu {c:Int}{l:List PV}{i:Nat}{q:PV}(h:l[i]?=some q):Rb c (l.take (i+1))=Lw (Rb c (l.take i)) q:=by unfold Rb;rw[wk h,gu];rfl
def M7 {c:Int}{l:List PV}(a:(c.natAbs:Int)<10^110)(h:∀q∈l,Gd q):∀i,i<=l.length->(Rb c (l.take i)).length<=150+30700*i
 |0,_=>by have:=QC a;show(jA c).length<=_;lia
 |i+1,hi=>by
  have t:=M7 a h i (by lia);have b:l[i]?=some l[i]:=aa (by lia);rw[Hu b];obtain⟨g,o,e,d,f,p,o2⟩:=h l[i] (bI (by lia));rw[e];unfold Lw;show(Rb c (l.take i)++((" * (":Str)++Up (jw g)++(")":Str))++(if o > 1 then("^":Str)++jA o else e0)).length<=_;have r:=Mz f d;have s:=(lV p (qF o2)).2;have j:(" * (":Str).length=4:=by decide +kernel
  have k:(")":Str).length=1:=by decide +kernel
  have m:("^":Str).length=1:=by decide +kernel
  have n:e0.length=0:=by decide +kernel
  rw[len_app,len_app,len_app,len_app,j,k];split
  .rw[len_app,m];lia
  .rw[n];lia
def xU:Ok P w K mg base 6 "product_shown" ["content","pairs"] (q8 K (lU cW cR cBT) (λas=>∃c l,as=[.int c,.lst l]/\(c.natAbs:Int)<10^110/\l.length<=30/\∀q∈l,Gd q) λas=>match as with|[.int c,.lst l]=>.str (Rb c l)|_=>.non):=by
 refine uV T.yO jP (λ_ ⟨a,b,h,_⟩=>h▸rfl) (λf cdv A I s H E hr=>⟨_,(iR (jQ (i:=2) jP.nd rfl k4 (tG T.yq (xn 0))) (iR (zY (k:=3) (j:=4) aT rfl (lL (xv 1)) (pg_tup rfl (pgs_cons (pg_name (i:=3) jP.nd rfl k4) (pgs_cons (pg_name (i:=4) jP.nd rfl k4) pgs_nil))) (iR (jQ (i:=5) jP.nd rfl k4 (jX (xc (SM T) hr (iQ (xl 3) iU)))) (iR (sr (i:=2) jP.nd rfl k4 (abD (xs 5))) (iV (jn (Dw (xn 4) iT) (iV (sr (i:=2) jP.nd rfl k4 (abK (xn 4)))) je))))) (iV (jb (xs 2))))),λas hp=>?_⟩)
 obtain⟨c,l,rfl,hc,hl,D⟩:=hp;have pl:=M7 hc D;refine⟨⟨rfl,Av hc⟩,λJ r=>?_⟩;have r:J=jA c:=r;refine iZ (ρ':=[k6 c,.fr (.lst l),.fr (.str J),.un,.un,.un]) rfl ?_;refine⟨⟨⟨rfl,rfl⟩,λq v=>(D q v).go.pair⟩,λi Q=>∃t M N O,Q=[k6 c,.fr (.lst l),.fr (.str t),M,N,O]/\t=Rb c (l.take i),⟨J,.un,.un,.un,rfl,r⟩,?_,?_⟩
 .rintro i q Q v ⟨t,M,N,O,rfl,d⟩;have v:l[i]?=some q:=v;have hi:i<l.length:=(aC.mp v).1;have L:=pl i (by lia);rw[<- d]at L;have B:=Hu (c:=c) v;rw[<- d]at B;have nl:=pl (i+1) (by lia);rw[B]at nl;obtain⟨g,o,e,R,S,o1,o2⟩:=D q (bn v);subst e;have sl:=Mz S R;have h2:=(lV o1 (qF o2)).2;have y:(" * (":Str).length=4:=by decide +kernel
  have F:(")":Str).length=1:=by decide +kernel
  have G:("^":Str).length=1:=by decide +kernel
  refine⟨⟨⟨⟨rfl,tT⟩,g,rfl,R,S⟩,rfl⟩,λp m=>?_⟩;have m:p=Up (jw g):=m;rw[<- m]at sl;refine iZ (ρ':=[k6 c,.fr (.lst l),.fr (.str t),k7 g,k6 o,.fr (.str p)]) rfl ?_;refine⟨rfl,⟨rfl,?_,?_,?_,?_⟩,?_,λx n=>?_⟩
  .show(" * (":Str).length<=sizeLine;rw[y];exact sz (by lia)
  .show p.length<=sizeLine;exact sz (by lia)
  .show((" * (":Str)++p).length<=sizeLine;rw[len_app,y];exact sz (by lia)
  .show((" * (":Str)++p++(")":Str)).length<=sizeLine;rw[len_app,len_app,y,F];exact sz (by lia)
  .show t.length+((" * (":Str)++p++(")":Str)).length<=sizeLine;rw[len_app,len_app,y,F];exact sz (by lia)
  have n:x=t++((" * (":Str)++p++(")":Str)):=n;have t1l:x.length<=t.length+30410:=by rw[n,len_app,len_app,len_app,y,F];lia
  have C:Lw t (.tup [.ints g,.int o])=x++(if o > 1 then("^":Str)++jA o else e0):=by rw[n,m];rfl
  have ko:(o.natAbs:Int)<10^110:=by
   have:=qF o2;generalize (10:Int)^110=Z at *
   lia
  refine iZ (ρ':=[k6 c,.fr (.lst l),.fr (.str x),k7 g,k6 o,.fr (.str p)]) rfl ?_;refine⟨⟨rfl,tT⟩,λz=>?_,λz=>?_⟩
  .have z:o > 1:=z;rw[ai z]at C;refine⟨rfl,⟨rfl,?_,Av ko,?_⟩,?_,λt2 u=>⟨t2,k7 g,k6 o,.fr (.str p),rfl,?_⟩⟩
   .show("^":Str).length<=sizeLine;rw[G];exact sz (by lia)
   .show(("^":Str)++jA o).length<=sizeLine;rw[len_app,G];exact sz (by lia)
   .show x.length+(("^":Str)++jA o).length<=sizeLine;rw[len_app,G];exact sz (by lia)
   .have u:t2=x++(("^":Str)++jA o):=u;rw[B,C,u]
  .have z:¬o > 1:=z;rw[ag z]at C;refine⟨x,k7 g,k6 o,.fr (.str p),rfl,?_⟩;rw[B,C,Il]
 .rintro Q ⟨t,M,N,O,rfl,d⟩;have d:t=Rb c (l.take l.length):=d;rw[gL]at d;refine⟨rfl,?_⟩;show PV.str t=PV.str (Rb c l);rw[d]
def aav {t:Str}(h:t="3 of 2x^2"):PySem.Txt.partition t " of "=(("3":Str),(" of ":Str),("2x^2":Str)):=by subst h;decide +kernel
def adP:jD "2x^2"=.inr [0,0,2]:=by decide +kernel
def aej:(intText? ("3":Str)).getD 0=3:=by decide +kernel
def Mf {n:Int}(b:2<=n)(e:n<=9973)(h:((List.range 100).all λk=>decide (k<2\/¬n % (k:Int)=0\/n<(k:Int)*(k:Int)))=true):zW n:=by
 refine⟨b,e,λd f g a=>?_⟩;have i:d<100:=by
  by_cases c:d<100
  .exact c
  .have:100*100<=d*d:=Int.mul_le_mul (by lia) (by lia) (by decide) (by lia);lia
 obtain⟨k,rfl⟩:=bc (show 0<=d by lia);have:=bi (aR.mp h k (bw.mpr (by lia)));rcases this with q|q|q
 .lia
 .exact q a
 .lia
def ady:zW 3:=Mf (by decide) (by decide) (by decide +kernel)
def q86:Str:="2 * (x)^2"
def adG:Rb 2 [vy]=q86:=by decide +kernel
def uy:Ok P w K mg base 11 "parts_by_answer" ["text"] (q8 K (lU cW cR cBT) (λas=>∃t,as=[.str t]/\t="3 of 2x^2") λ_=>.str q86):=by
 refine uV T.qd jz (λ_ ⟨t,h,_⟩=>h▸rfl) (λf x A u s H E c=>⟨_,(iR (jK (i:=1) jz.nd rfl k4 (FZ (xs 0) (by decide +kernel))) (iR (jn (L2.PW.pt (Ed (u5 (jX (jd (xv 1) iT (λ_ _=>rfl))) jc) (zG (qC (yz (xcb (uJ T) c (iQ (jX (jd (xv 1) iT (λ_ _=>rfl))) (iQ (Oq (by rfl) T.oh) iU)))))))) (iV jY) je) (iR (jn (yz (Eb (jX (jd (xv 1) iT (λ_ _=>rfl))))) (iV jY) je) (iR (jK (i:=2) jz.nd rfl k4 (V3 (M8 (Je T) c Oi (iQ (Lz T.yp rZ (jX (jd (xv 1) iT (λ_ _=>rfl)))) iU)))) (iR (jK (i:=3) jz.nd rfl k4 (xc (SN T) c (iQ (xv 2) (iQ (j9 (Vl (ww T) c (jX (jd (xv 1) iT (λ_ _=>rfl))))) iU)))) (iV (jb (jX (xc (xU T) c (iQ (ym (jd (xv 3) iT (λ_ _=>rfl))) (iQ (jd (xv 3) iT (λ_ _=>rfl)) iU))))))))))),λas D=>?_⟩)
 obtain⟨t,rfl,j⟩:=D;have M:t.length<=sizeLine:=by subst j;rw[ao];decide +kernel
 refine⟨⟨rfl,M⟩,λp e=>?_⟩;replace e:p=.tup [.str (PySem.Txt.partition t " of ").1,.str (PySem.Txt.partition t " of ").2.1,.str (PySem.Txt.partition t " of ").2.2]:=e;subst e;have b:(PySem.Txt.partition t " of ").1="3":=by rw[aav j]
 have l:(PySem.Txt.partition t " of ").2.1=" of ":=by rw[aav j]
 have g:(PySem.Txt.partition t " of ").2.2="2x^2":=by rw[aav j]
 generalize PySem.Txt.partition t " of "=h at b l g ⊢;have a:Br h.1 60=true:=by rw[b];decide +kernel
 have o:PySem.Txt.startswith h.1 "0"=false:=by rw[b];decide +kernel
 have C:¬h.2.1="":=by rw[l];decide +kernel
 have J:h.1.length<=10000:=by rw[b];decide +kernel
 have L:h.2.2.length<=10000:=by rw[g];decide +kernel
 have B:(intText? h.1).getD 0=3:=by rw[b];exact aej
 have d:jD h.2.2=.inr [0,0,2]:=by rw[g];exact adP
 obtain⟨y,N⟩:=HN a;clear b l g;refine iZ (ρ':=[.fr (.str t),.fr (.tup [.str h.1,.str h.2.1,.str h.2.2]),.un,.un]) rfl ?_;have r:pR (.tup [.str h.1,.str h.2.1,.str h.2.2]) 0:=Ga (by decide);have G:pR (.tup [.str h.1,.str h.2.1,.str h.2.2]) 1:=Ga (by decide);have I:pR (.tup [.str h.1,.str h.2.1,.str h.2.2]) 2:=Ga (by decide);refine⟨⟨⟨⟨⟨rfl,tT,G⟩,rfl⟩,tT⟩,λ_=>⟨⟨⟨⟨rfl,tT,r⟩,rfl⟩,tT,tT⟩,h.1,60,rfl,J,by decide⟩⟩,λq=>?_,λ_=>?_⟩
 .have q:h.2.1=""\/¬Br h.1 60=true:=q;exact q.elim C λz=>z a
 refine⟨⟨⟨rfl,tT,r⟩,rfl⟩,λk=>?_,λ_=>?_⟩
 .have k:PySem.Txt.startswith h.1 "0"=true:=k;rw[o]at k;cases k
 have v:mkR (Vt cNP [(intText? h.1).getD 0])=.val (.ob 0 3):=by rw[B,Ss ady];rfl
 refine⟨⟨⟨⟨⟨⟨⟨rfl,tT,r⟩,rfl⟩,y,by show h.1.length<=640;lia⟩,tT⟩,tT,tT⟩,?_⟩,λp e=>?_⟩
 .show(mkR (Vt cNP [(intText? h.1).getD 0])).isV;rw[v];exact tT
 replace e:p=.ob 0 3:=by have e:p=(mkR (Vt cNP [(intText? h.1).getD 0])).get:=e;rw[v]at e;exact e
 subst e;refine iZ (ρ':=[.fr (.str t),.fr (.tup [.str h.1,.str h.2.1,.str h.2.2]),.fr (.ob 0 3),.un]) rfl ?_;refine⟨⟨⟨rfl,⟨⟨⟨rfl,tT,I⟩,rfl⟩,L,_,d⟩,tT⟩,?_⟩,λp e=>?_⟩
 .show[PV.ob 0 3,.ints (acF (jD h.2.2))]=[PV.ob 0 3,.ints [0,0,2]];rw[d];rfl
 replace e:p=.tup [.int 2,.lst [vy]]:=e;subst e;refine iZ (ρ':=[.fr (.str t),.fr (.tup [.str h.1,.str h.2.1,.str h.2.2]),.fr (.ob 0 3),.fr (.tup [.int 2,.lst [vy]])]) rfl ?_;refine⟨⟨⟨⟨⟨⟨rfl,tT,X4⟩,rfl⟩,⟨rfl,tT,it1⟩,tT⟩,2,[vy],rfl,?_,by show 1<=30;decide,λq F=>?_⟩,rfl⟩,?_⟩
 .exact qF (show(2:Int)<1000 by decide)
 .rw[ap.mp F];refine⟨[0,1],2,rfl,by decide,λm n=>?_,by decide,by decide⟩;have:m.natAbs<=1:=by
   rcases aw.mp n with rfl|n
   .decide
   .rw[ap.mp n];decide
  exact qF (by lia)
 .show PV.str (Rb 2 [vy])=PV.str q86;rw[adG]
def Pa:Ok P w K mg base 12 "asked" ["line"] (q8 K (lU cW cR cBT) (λas=>∃t,as=[.str t]/\t="parts by 3 of 2x^2") λ_=>.str q86):=by
 refine uV T.Mr G8 (λ_ ⟨t,h,_⟩=>h▸rfl) (λf c A o s H E d=>⟨_,(iR (jn (yz (o9 (xs 0) (nY (by rfl) T.u6))) (iV jY) je) (iR (jn (yz (o9 (xs 0) (nY (by rfl) T.qX))) (iV (jb (jX (xc (uy T) d (iQ (yS (xs 0) (uo T.jO (nY (by rfl) T.qX))) iU))))) je) uh)),λas b=>?_⟩)
 obtain⟨t,rfl,a⟩:=b;have j:t.length<=sizeLine:=by subst a;rw[ao];decide +kernel
 have e:PySem.Txt.startswith t "parts of "=false:=by subst a;decide +kernel
 have g:PySem.Txt.startswith t "parts by "=true:=by subst a;decide +kernel
 have i:PySem.StrLaws.sliceText t (some (("parts by ":Str).length:Int)) none="3 of 2x^2":=by subst a;exact(Gs (r:=("3 of 2x^2":Str).cps.toList) (by decide +kernel)).trans (Nj _)
 clear a;refine⟨⟨rfl,tT⟩,λq=>?_,λ_=>?_⟩
 .have q:PySem.Txt.startswith t "parts of "=true:=q;rw[e]at q;cases q
 refine⟨⟨rfl,tT⟩,λ_=>?_,λq=>?_⟩
 .exact⟨⟨⟨⟨⟨rfl,⟨tT,by rw[ao];decide +kernel⟩,j⟩,tT⟩,_,rfl,i⟩,rfl⟩,rfl⟩
 .have q:¬PySem.Txt.startswith t "parts by "=true:=q;exact q g
def Hd (c:Nat)(r:List Nat):rW (c::r)=if c=43 then[]::rW r else(c::(rW r).headD [])::(rW r).tail:=rfl
def W7 (x y:List Nat):rW (x++43::y)=rW x++rW y:=by
 induction x with
 |nil=>exact ai rfl
 |cons c x i=>
  rw[bY,Hd,Hd,i];split
  .rfl
  .cases e:rW x with
   |nil=>exact absurd e (Nv x)
   |cons a r=>rfl
def zV:∀{w:List Nat},(∀c∈w,c≠43)->rW w=[w]
 |[],_=>rfl
 |c::w,h=>by unfold rW;rw[ag (h c aA),zV λd a=>h d (aj _ a)];rfl
def sE (a b:List Nat):tO (a++b)=tO a++tO b:=fW ..
def Rz (a b:List Nat):yM (a++b)=yM a++yM b:=List.flatMap_append
def Fe (k:Nat):tO (List.replicate k 32)=[]:=by unfold tO;rw[List.filter_eq_nil_iff];intro c h;rw[(d9.mp h).2];decide
def NK {w:List Nat}(h:Plain w):tO w=w:=by unfold tO;rw[List.filter_eq_self];intro c a;have:=(h c a).1;simpa using this
def N8 {w:List Nat}(h:Plain w):yM w=w:=by
 induction w with
 |nil=>rfl
 |cons c w i=>have:=(h c aA).2.2;show(if c=45 then[43,45] else[c])++yM w=_;rw[ag this,i λd a=>h d (aj _ a)];rfl
def uC (g:Bool):Nat:=if g then 45 else 43
def HS (l:List Nat)(a b:Nat)(g:Bool){w:List Nat}(h:Plain w):uK (l++(List.replicate a 32++(uC g::(List.replicate b 32++w))))=uK l++[if g then 45::w else w]:=by
 have e:yM (tO (l++(List.replicate a 32++(uC g::(List.replicate b 32++w)))))=yM (tO l)++43::(if g then 45::w else w):=by
  rw[sE,sE,Fe,bH,Rz];congr 1;have f:tO (uC g::(List.replicate b 32++w))=uC g::w:=by
   have:tO (uC g::(List.replicate b 32++w))=uC g::tO (List.replicate b 32++w):=by unfold tO uC;cases g<;>rfl
   rw[this,sE,Fe,bH,NK h]
  rw[f];show(if uC g=45 then[43,45] else[uC g])++yM w=_;rw[N8 h];cases g<;>rfl
 unfold uK;rw[e,W7];congr 1;refine zV λc d=>?_;cases g with
 |false=>exact(h c d).2.1
 |true=>
  rcases aw.mp d with rfl|d
  .decide
  .exact(h c d).2.1
def aam {w:List Nat}(h:Plain w):uK w=[w]:=by unfold uK;rw[NK h,N8 h,zV λc a=>(h c a).2.1]
def Xj (l:List Nat)(a b:Nat):uK (List.replicate a 32++(l++List.replicate b 32))=uK l:=by unfold uK;rw[sE,sE,Fe,Fe,bH,aV]
structure Core (p:Int)(l:List Nat):Prop where
 go:∃s,CK s=true/\Goes .start l s
 sg:∀c∈l,BJ c=true
 hd:∃c r,l=c::r/\c≠32
 ls:∃r c,l=r++[c]/\c≠32
 pv:∀q∈uK l,q=[]\/p ∣ O7 q
section
variable {p:Int}{o:Option Nat}{w:List Nat}
def Tm.pl (h:Tm p o w):Plain (vh o w):=λc a=>((De h).1 c a).2
def Vw {l:List Nat}(h:l≠[]):∃r c,l=r++[c]:=⟨l.dropLast,l.getLast h,(cC h).symm⟩
def KD {l:List Nat}(b:∀c∈l,c≠32)(h:l≠[])(a:List Nat):∃r c,a++l=r++[c]/\c≠32:=by obtain⟨r,c,e⟩:=Vw h;refine⟨a++r,c,by rw[e,bu],b c ?_⟩;rw[e];exact aI _ (ap.mpr rfl)
def QZ {k:Nat}:∀c∈List.replicate k 32,BJ c=true:=λc h=>by rw[(d9.mp h).2];rfl
def Sy (g:Bool):BJ (uC g)=true:=by cases g<;>rfl
def abW (g:Bool):uC g≠32:=by cases g<;>decide
def Mx {s:qO}(h:s=.start\/CK s=true)(g:Bool):vO s (uC g)=some .sign:=by
 rw[Vg (by cases g;exact .inl rfl;exact .inr rfl)];rcases h with rfl|h
 .rfl
 .cases s<;>first|rfl|cases h
def Xl (h:Tm p o w):Core p (vh o w):=by
 obtain⟨a,d,_,g⟩:=De h;refine⟨Fz h (.inl rfl),λc b=>(a c b).1,?_,KD (λc b=>(a c b).2.1) d [],λq f=>?_⟩
 .cases e:vh o w with
  |nil=>exact absurd e d
  |cons c r=>exact⟨c,r,rfl,(a c (by rw[e];exact aA)).2.1⟩
 .rw[aam h.pl,ap]at f;rw[f];exact .inr (g false)
def V8 (h:Tm p o w)(g:Bool)(b:Nat):Core p (uC g::(List.replicate b 32++vh o w)):=by
 obtain⟨e,j,_,k⟩:=De h;obtain⟨l,f,i⟩:=Fz h (s:=.sign) (.inr rfl);refine⟨⟨l,f,.cons (Mx (.inl rfl) g) ((zy rfl b).app i)⟩,λc a=>?_,⟨_,_,rfl,abW g⟩,?_,λq d=>?_⟩
 .rcases aw.mp a with rfl|a
  .exact Sy g
  .rcases aZ.mp a with a|a
   .exact QZ c a
   .exact(e c a).1
 .rw[<- bY];exact KD (λc a=>(e c a).2.1) j _
 .have:=HS [] 0 b g h.pl;rw[bH,iA,bH]at this;rw[this]at d;rcases aZ.mp d with d|d
  .rw[ap.mp (show q∈[[]] from d)];exact .inl rfl
  .rw[ap.mp d];exact .inr (k g)
def Core.more {l:List Nat}(k:Core p l)(h:Tm p o w)(g:Bool)(a b:Nat):Core p (l++(List.replicate a 32++(uC g::(List.replicate b 32++vh o w)))):=by
 obtain⟨i,v,_,x⟩:=De h;obtain⟨z,e0,n⟩:=k.go;obtain⟨A,j,t⟩:=Um e0 a;obtain⟨y,m,u⟩:=Fz h (s:=.sign) (.inr rfl);refine⟨⟨y,m,n.app (t.app (.cons (Mx (.inr j) g) ((zy rfl b).app u)))⟩,λc d=>?_,?_,?_,λq f=>?_⟩
 .rcases aZ.mp d with d|d
  .exact k.sg c d
  .rcases aZ.mp d with d|d
   .exact QZ c d
   .rcases aw.mp d with rfl|d
    .exact Sy g
    .rcases aZ.mp d with d|d
     .exact QZ c d
     .exact(i c d).1
 .obtain⟨c,r,e,d⟩:=k.hd;exact⟨c,_,by rw[e];rfl,d⟩
 .have:=KD (λc d=>(i c d).2.1) v (l++(List.replicate a 32++(uC g::List.replicate b 32)));rw[bu,bu,bY]at this;exact this
 .rw[HS l a b g h.pl]at f;rcases aZ.mp f with f|f
  .exact k.pv q f
  .rw[ap.mp f];exact .inr (x g)
def ZR:Core p [48]:=by refine⟨⟨.zero,rfl,.cons rfl .nil⟩,(λc h=>by rw[ap.mp h];rfl),⟨48,[],rfl,by decide⟩,⟨[],48,rfl,by decide⟩,λq a=>?_⟩;rw[ap.mp (show q∈[[48]] from a)];exact .inr (show p ∣ 0 from g8 p)
end
def S5 (p:Int)(t:List Nat):Prop:=∃a b l,t=List.replicate a 32++(l++List.replicate b 32)/\Core p l
def S5.ok {p:Int}{t:Str}(h:S5 p t.cps.toList):∃ns,jD t=.inr ns/\∀m∈ns,p ∣ m:=by
 obtain⟨a,b,l,e,k⟩:=h;obtain⟨s,e0,D⟩:=k.go;obtain⟨M,B,E⟩:=Um e0 b;have L:pQ .start t.cps.toList=none:=by rw[e];exact((zy rfl a).app (D.app E)).end B
 obtain⟨ts,F,G⟩:=ZV L;refine⟨_,G,?_⟩;obtain⟨o,C⟩:=Yk F;have pv:∀q∈uK t.cps.toList,q=[]\/p ∣ O7 q:=by rw[e,Xj];exact k.pv
 have j:∀u∈ts,p ∣ Cz u.2.1:=λu f=>by
  have d:Vq u∈uK t.cps.toList:=by
   rcases o with o|o
   .rw[o];exact dB.mpr ⟨u,f,rfl⟩
   .rw[o];exact aj _ (dB.mpr ⟨u,f,rfl⟩)
  rw[<- abJ (C u f)];exact(pv _ d).elim (λz=>absurd z (aaL (C u f))) id
 have g:∀(x:List (Bool×qz)) (r:List Int),(∀u∈x,p ∣ Cz u.2.1)->(∀m∈r,p ∣ m)->∀m∈x.foldl (λg u=>Fj g (if u.1 then -1 else 1) u.2) r,p ∣ m:=by
  intro x
  induction x with
  |nil=>exact λr _ h=>h
  |cons u x J=>
   intro r f A;refine J _ (λv I=>f v (aj _ I)) λm d=>?_;unfold Fj at d;rcases f9 d with z|z
   .exact A m z
   .rw[z];refine Int.dvd_add ?_ (Int.dvd_mul_of_dvd_right (f u aA));by_cases c:(WY u.2.2).toNat<r.length
    .exact A _ (FM.getD_mem c)
    .rw[jL (by lia)];exact g8 p
 intro m d;have A:∀m∈rowOf ts,p ∣ m:=g ts _ j λm d=>by rw[(d9.mp d).2];exact g8 p
 have B:(rowOf ts).map (pl 0)=rowOf ts:=(im λn _=>rfl).trans (List.map_id _);rw[B]at d;obtain⟨i,H,rfl⟩:=cQ.mp d;have y:=xf _ (rowOf ts) rfl i;rw[gQ,aa H]at y;have y:(jw (rowOf ts))[i]=(rowOf ts).getD i 0:=y;rw[y];by_cases c:i<(rowOf ts).length
 .exact A _ (FM.getD_mem c)
 .rw[jL (by lia)];exact g8 p
def Pu {xs:Li}(h:∀m∈xs,m=0):jw xs=[]:=by
 by_cases c:jw xs=[]
 .exact c
 .refine absurd ?_ (wV xs c);rw[pJ];by_cases d:(jw xs).length-1<xs.length
  .exact h _ (FM.getD_mem d)
  .exact jL (by lia)
def aaf {p:Int}(c:p≠0){ns:Li}(h:∀m∈ns,p ∣ m):Tz p ns=[]:=by unfold Tz;refine Pu λm a=>?_;obtain⟨n,b,rfl⟩:=dB.mp a;unfold pl;rw[ag c];exact gz (h n b)
def TV {c:Nat}(h:BJ c=true)(a:c≠32):Unicode.isSpace c=false:=by
 have:c=43\/c=45\/c=94\/c=120\/(48<=c/\c<=57):=by
  unfold BJ at h;simp only[Bool.or_eq_true,dC]at h;have:=@mZ c;rcases h with ((((h|h)|h)|h)|h)|h
  .exact .inr (.inr (.inr (.inr (this.mp h))))
  .exact absurd h a
  all_goals lia
 have k:([43,45,94,120,48,49,50,51,52,53,54,55,56,57].all λc=>!Unicode.isSpace c)=true:=by decide +kernel
 have:=aR.mp k c (by simp only[aw,bS,eK];lia);simpa using this
def Ti {a:Nat}{l:List Nat}(h:∃c r,l=c::r/\Unicode.isSpace c=false):(List.replicate a 32++l).takeWhile Unicode.isSpace=List.replicate a 32:=by
 obtain⟨c,r,rfl,b⟩:=h
 induction a with
 |zero=>rw[iA,bH,fQ (by rw[b];decide)]
 |succ a i=>rw[bF,bY,fR (by decide +kernel),i]
def strip_eq {t:Str}{p:Int}{a b:Nat}{l:List Nat}(e:t.cps.toList=List.replicate a 32++(l++List.replicate b 32))(k:Core p l):(PySem.Txt.strip t).cps.toList=l:=by
 obtain⟨c,r,f,u⟩:=k.hd;obtain⟨j,d,h,v⟩:=k.ls;have x:Unicode.isSpace c=false:=TV (k.sg c (by rw[f];exact aA)) u;have s:Unicode.isSpace d=false:=TV (k.sg d (by rw[h];exact aI _ (ap.mpr rfl))) v;have i:PySem.stripLo Unicode.isSpace true t=a:=by unfold PySem.stripLo;rw[ai rfl,e,Ti ⟨c,r++List.replicate b 32,by rw[f];rfl,x⟩,a7]
 have m:t.length=a+(l.length+b):=by rw[jV,e];simp
 have g:PySem.stripHi Unicode.isSpace true t a=a+l.length:=by
  unfold PySem.stripHi;rw[ai rfl,e,fN (a7),dN,List.reverse_replicate,h,dN,List.reverse_singleton,g9,Ti ⟨d,j.reverse,rfl,s⟩,a7,m];have:(j++[d]).length=l.length:=by rw[h]
  rw[this];lia
 have sub:(Builtin.Str.strSub t a (a+l.length)).cps.toList=l:=by rw[fM,e,fN (a7),show a+l.length-a=l.length by lia,g7 rfl]
 unfold PySem.Txt.strip PySem.Txt.stripBy;split
 .rename_i q;unfold PySem.stripSame at q;rw[bj,dC,dC,i,g,m]at q;have n:a=0:=q.1;have o:b=0:=by lia
  subst n o;rw[e];simp
 .unfold PySem.stripped;rw[i,g];exact sub
def KJ (k b:Int):Str:=if b % 3=1/\k<2 then("x^":Str)++jA k else if k=0 then "" else if k=1 then "x" else("x^":Str)++jA k
def QX (n k b:Int):Str:=if n=1/\¬KJ k b=""/\b % 2=0 then KJ k b else jA n++KJ k b
def Zj {k:Int}(h0:0<=k)(h:k<8):(("x^":Str)++jA k).cps.toList=[120,94,48+k.toNat]:=by obtain⟨n,rfl⟩:=bc h0;rw[jB,NP,Bp (by lia),show("x^":Str).cps.toList=[120,94] from by decide +kernel];rfl
def Th {k:Int}(h0:0<=k)(a:k<8)(b:Int):(KJ k b).cps.toList∈JN:=by
 have h:(("x^":Str)++jA k).cps.toList∈JN:=by
  rw[Zj h0 a];obtain⟨n,rfl⟩:=bc h0;have:n=0\/n=1\/n=2\/n=3\/n=4\/n=5\/n=6\/n=7:=by lia
  rcases this with rfl|rfl|rfl|rfl|rfl|rfl|rfl|rfl<;>decide
 unfold KJ;split
 .exact h
 .split
  .decide +kernel
  .split
   .decide +kernel
   .exact h
def YT {p n k:Int}(h0:0<=k)(f:k<8)(g:0<=n)(d:n<10^90)(a:p ∣ n)(b:Int):∃o w,(QX n k b).cps.toList=vh o w/\Tm p o w:=by
 have c:=Th h0 f b;unfold QX;split
 .rename_i h;refine⟨none,_,rfl,c,λ_=>⟨λz=>h.2.1 (um (z.trans (by decide +kernel))),by rw[<- h.1];exact a⟩,λ_ z=>nomatch z⟩
 .obtain⟨m,rfl⟩:=bc g;refine⟨some m,_,by rw[jB,NP];rfl,c,(λz=>nomatch z),λq z=>?_⟩;cases z;refine⟨?_,a⟩;have e:((10^90:Nat):Int)=(10:Int)^90:=by decide +kernel
  rw[<- e]at d;exact fX.mp d
def min2 {k:Int}(h0:0<=k)(u:Str):pW (.lst [.str "",.str "x",.str u]) (if 2<k then 2 else k)=.str (if k=0 then "" else if k=1 then "x" else u):=by
 by_cases a:k=0
 .subst a;rfl
 by_cases b:k=1
 .subst b;rfl
 rw[ag a,ag b];by_cases c:2<k
 .rw[ai c];rfl
 .rw[ag c,show k=2 by lia];rfl
def p90 {n:Int}(h:n<10^90)(h0:0<=n):(n.natAbs:Int)<10^110:=by rw[cw h0];exact d8 h (by decide +kernel)
def Cy:Ok P w K mg base 1 "_law_loose_term" ["_law_number","_law_k","_law_bits"] (q8 K (lU cW cR cBT) (λas=>∃n k b,as=[.int n,.int k,.int b]/\0<=n/\n<10^90/\0<=k/\k<8) λas=>match as with|[.int n,.int k,.int b]=>.str (QX n k b)|_=>.non):=by
 refine uV T.Eo qx (λ_ ⟨a,b,c,h,_⟩=>h▸rfl) (λf B A r s H E I=>⟨_,(iR (jQ (i:=3) qx.nd rfl k4 (jX (jd (oF (nO (iQ jc (iQ jc (iQ (jq jc (tG T.yq (xn 1))) iU))))) (RZ rfl T.Ze (xn 1) iT) (λ_ _=>rfl)))) (pI (jn (L2.PW.pt (uY (mQ (jE (xn 2) iT) iT) (wg (Du (xn 1) iT)))) (iV (jQ (i:=3) qx.nd rfl k4 (jq jc (tG T.yq (xn 1))))) je) (iR (jn (L2.PW.pt (uY (mQ (xn 0) iT) (uY (Zu (xs 3) jc) (wg (mQ (jE (xn 2) iT) iT))))) (iV (jb (xs 3))) je) (iV (jb (jq (tG T.yq (xn 0)) (xs 3))))))),λas C=>?_⟩)
 obtain⟨n,k,b,rfl,o,F,j,D⟩:=C;have v:(k.natAbs:Int)<10^110:=by rw[cw j];exact qF (by lia)
 have J:=(lV j (qF (by lia))).2;have p:=p90 F o;have L:=(lV o (by rw[cw o]at p;exact p)).2;have m:("x^":Str).length=2:=by decide +kernel
 have x:("x^":Str).length+(jA k).length<=sizeLine:=by rw[m,ao];lia
 refine⟨⟨⟨⟨tT,tT,⟨tT,⟨rfl,Av v⟩,x⟩,tT⟩,⟨rfl,tT⟩,?_⟩,?_⟩,λt d=>?_⟩
 .show -((3:Nat):Int)<=(if 2<k then 2 else k)/\(if 2<k then 2 else k)<((3:Nat):Int);split<;>lia
 .show pW (.lst [.str "",.str "x",.str (("x^":Str)++jA k)]) (if 2<k then 2 else k)=.str (GR (pW (.lst [.str "",.str "x",.str (("x^":Str)++jA k)]) (if 2<k then 2 else k)));rw[min2 j];rfl
 replace d:t=if k=0 then("":Str) else if k=1 then "x" else("x^":Str)++jA k:=by have d:t=GR (pW (.lst [.str "",.str "x",.str (("x^":Str)++jA k)]) (if 2<k then 2 else k)):=d;rw[min2 j]at d;exact d
 refine iZ (ρ':=[k6 n,k6 k,k6 b,.fr (.str t)]) rfl ?_;refine⟨λz=>z=[k6 n,k6 k,k6 b,.fr (.str (KJ k b))],⟨⟨⟨⟨rfl,tT,by show(0:Int)<3;decide⟩,tT⟩,λ_=>⟨rfl,tT⟩⟩,λq=>?_,λq=>?_⟩,?_⟩
 .have q:b % 3=1/\k<2:=q;refine⟨⟨tT,⟨rfl,Av v⟩,x⟩,λy g=>?_⟩;replace g:y=("x^":Str)++jA k:=g;have e:KJ k b=y:=by unfold KJ;rw[ai q,g]
  rw[e];rfl
 .have q:¬(b % 3=1/\k<2):=q;have e:KJ k b=t:=by unfold KJ;rw[ag q,d]
  rw[e]
 rintro z rfl;have G:(KJ k b).length<=3:=by rw[jV];exact(MT (Th j D b)).2.2
 have l:QX n k b=if n=1/\¬KJ k b=""/\b % 2=0 then KJ k b else jA n++KJ k b:=rfl;generalize KJ k b=u at G l;refine⟨⟨⟨rfl,tT⟩,λ_=>⟨⟨rfl,tT⟩,λ_=>⟨⟨rfl,tT,by show(0:Int)<2;decide⟩,tT⟩⟩⟩,λq=>?_,λq=>?_⟩
 .have q:n=1/\¬u=""/\b % 2=0:=q;refine⟨rfl,?_⟩;show PV.str u=PV.str (QX n k b);rw[l,ai q]
 .have q:¬(n=1/\¬u=""/\b % 2=0):=q;refine⟨⟨⟨rfl,Av p⟩,rfl,by show(jA n).length+u.length<=sizeLine;rw[ao];lia⟩,?_⟩;show PV.str (jA n++u)=PV.str (QX n k b);rw[l,ag q]
def YD (c k:Int):Int:=(c+k*k) / (k+2)
def sg1 (v:Int):Str:=if v<0 then "-" else "+"
def Nb (t:Str)(v b:Int):Str:=if t=""/\sg1 v="+"/\b % 5<3 then "" else sg1 v
def Nz (t:Str)(v b:Int):(Nb t v b).length<=1:=by
 unfold Nb;split
 .decide +kernel
 .unfold sg1;split<;>decide +kernel
def lsT (t:Str)(v c k:Int):Str:=if ¬v=0\/YD c k % 2=1 then t++j8 " " (YD c k % 3)++Nb t v (YD c k)++j8 " " (YD c k / 3 % 2)++QX (if v<0 then -v else v) k (YD c k / 6) else t
def BV (r:List Int)(c:Int):Nat->Str
 |0=>""
 |j+1=>lsT (BV r c j) (r.getD (((j:Int)+c) % (r.length:Int)).toNat 0) c (((j:Int)+c) % (r.length:Int))
def S6 (t:Str):Str:=if t="" then "0" else t
def Qs (r:List Int)(c:Int):Str:=j8 " " (c % 2)++S6 (BV r c r.length)++j8 " " (c / 2 % 3)
def wB (n:Int):(j8 " " n).cps.toList=List.replicate n.toNat 32:=by
 have e:∀(k:Nat) (a:Array Nat),((List.replicate k (" ":Str).cps).foldl (· ++ ·) a).toList=a.toList++List.replicate k 32:=λk=>by
  induction k with
  |zero=>intro a;simp
  |succ k i=>intro a;rw[bF,fA,i,dP,show(" ":Str).cps.toList=[32] from by decide +kernel,bF];simp
 exact e n.toNat #[]
def qg {n:Int}{k:Nat}(h:n<=k):(j8 " " n).length<=k:=by rw[jV,wB,a7];lia
structure vC (p:Int)(row:List Int):Prop where
 l1:1<=row.length
 l8:row.length<=8
 sm:∀m∈row,m.natAbs<10^90
 dv:∀m∈row,p ∣ m
def Rm (p:Int)(t:Str):Prop:=t=""\/∃a l,t.cps.toList=List.replicate a 32++l/\Core p l
def aaP {t:Str}(h:t.cps.toList≠[]):¬t="":=λz=>h (by rw[z];decide +kernel)
def aae {p v c k:Int}{t:Str}(h:Rm p t)(k0:0<=k)(r:k<8)(m:v.natAbs<10^90)(j:p ∣ v):Rm p (lsT t v c k)/\(lsT t v c k).length<=t.length+100:=by
 have u:(if v<0 then -v else v)=(v.natAbs:Int):=by split<;>lia
 have f:((10^90:Nat):Int)=(10:Int)^90:=by decide +kernel
 obtain⟨o,w,e,d⟩:=YT (p:=p) (n:=(v.natAbs:Int)) k0 r (by lia) (by rw[<- f];exact fX.mpr m) (Int.dvd_natAbs.mpr j) (YD c k / 6);have i:=(De d).2.2.1;unfold lsT;rw[u];generalize YD c k=b at e;split
 .have x:=aH b (show(0:Int)<3 by decide);have y:=aH (b / 3) (show(0:Int)<2 by decide);have z:=qg (n:=b % 3) (k:=2) (by lia);have A:=qg (n:=b / 3 % 2) (k:=1) (by lia);have B:(Nb t v b).length<=1:=Nz t v b;have C:(QX (v.natAbs:Int) k (b / 6)).length<=93:=by rw[jV,e];exact i
  refine⟨.inr ?_,by rw[len_app,len_app,len_app,len_app];lia⟩;rw[jB,jB,jB,jB,wB,wB,e];have s:(Nb t v b).cps.toList=[]/\t=""\/∃g,(Nb t v b).cps.toList=[uC g]:=by
   unfold Nb;split
   .rename_i q;exact .inl ⟨by decide +kernel,q.1⟩
   .unfold sg1;split
    .exact .inr ⟨true,by decide +kernel⟩
    .exact .inr ⟨false,by decide +kernel⟩
  rcases s with⟨q,rfl⟩|⟨g,q⟩
  .refine⟨(b % 3).toNat+(b / 3 % 2).toNat,vh o w,?_,Xl d⟩;rw[q,show("":Str).cps.toList=[] from by decide +kernel,bH,aV,<- eJ,bu]
  .rw[q];rcases h with rfl|⟨a,l,el,kl⟩
   .refine⟨(b % 3).toNat,_,?_,V8 d g (b / 3 % 2).toNat⟩;rw[show("":Str).cps.toList=[] from by decide +kernel,bH,bu,bu];rfl
   .refine⟨a,_,?_,kl.more d g (b % 3).toNat (b / 3 % 2).toNat⟩;rw[el];simp only[bu,g9,bY,bH]
 .exact⟨h,by lia⟩
def U9 {p:Int}{r:Li}(R:vC p r)(c:Int)(j:Nat):0<=((j:Int)+c) % (r.length:Int)/\((j:Int)+c) % (r.length:Int)<(r.length:Int):=by have:=R.l1;exact⟨aS _ (by lia),aH _ (by lia)⟩
def EY {p:Int}{r:Li}(R:vC p r)(c:Int):∀j,Rm p (BV r c j)/\(BV r c j).length<=100*j
 |0=>⟨.inl rfl,by show("":Str).length<=0;decide +kernel⟩
 |j+1=>by obtain⟨d,e⟩:=EY R c j;obtain⟨k,f⟩:=U9 R c j;have:=R.l8;have h:r.getD (((j:Int)+c) % (r.length:Int)).toNat 0∈r:=FM.getD_mem (by lia);obtain⟨a,b⟩:=aae (c:=c) d k (by lia) (R.sm _ h) (R.dv _ h);exact⟨a,by show(lsT _ _ _ _).length<=_;lia⟩
def Ko {p:Int}{b:Li}(R:vC p b)(c:Int):S5 p (Qs b c).cps.toList/\(Qs b c).length<=810:=by
 obtain⟨h,g⟩:=EY R c b.length;have j:=R.l8;have m:=aH c (show(0:Int)<2 by decide);have o:=aH (c / 2) (show(0:Int)<3 by decide);have q:=qg (n:=c % 2) (k:=1) (by lia);have s:=qg (n:=c / 2 % 3) (k:=2) (by lia);unfold Qs S6;generalize BV b c b.length=t at h g;have i:("0":Str).length=1:=by decide +kernel
 refine⟨?_,by rw[len_app,len_app];split<;>lia⟩;rw[jB,jB,wB,wB];rcases h with rfl|⟨a,l,e,k⟩
 .rw[ai rfl];refine⟨(c % 2).toNat,(c / 2 % 3).toNat,[48],?_,ZR⟩;rw[show("0":Str).cps.toList=[48] from by decide +kernel,bu]
 .have:¬t="":=aaP (by
   obtain⟨d,r,f,_⟩:=k.hd;rw[e,f];exact λz=>nomatch (ei.mp z).2)
  rw[ag this,e];refine⟨(c % 2).toNat+a,(c / 2 % 3).toNat,l,?_,k⟩;rw[<- eJ];simp only[bu]
def ace (v:Int):([("+":Str),"-"]:Ls).getD (if v<0 then(1:Int) else 0).toNat ""=if v<0 then("-":Str) else "+":=by split<;>rfl
def Io:Ok P w K mg base 2 "_law_loose" ["_law_row","_law_cell"] (q8 K (lU cW cR cBT) (λas=>∃r c,as=[.ints r,.int c]/\vC 1 r) λas=>match as with|[.ints r,.int c]=>.str (Qs r c)|_=>.non):=by
 refine uV T.Wc mj (λ_ ⟨a,b,h,_⟩=>h▸rfl) (λf cdv A outer s H E hr=>⟨_,(iR (jQ (i:=2) mj.nd rfl k4 jc) (iR (wF (k:=3) aT rfl (by rfl) T.qR (lw 0 T.jO) mj.nd rfl k4 (iR (ji (i:=4) mj.nd rfl k4 (jE (m9 (xn 3) (xn 1)) (lw 0 T.jO))) (iR (ji (i:=5) mj.nd rfl k4 (kj (m9 (xn 1) (o6 (xn 4) (xn 4))) (m9 (xn 4) iT))) (iV (jn (L2.PW.pt (Ed (zZ (kO 0 (xn 4) (λ_ _=>rfl)) iT) (zG (mQ (jE (xn 5) iT) iT)))) (iR (jQ (i:=6) mj.nd rfl k4 (Xc (HY (HY Vy)) (Xv T.yp (abT (kO 0 (xn 4) (λ_ _=>rfl)) iT)))) (pI (jn (L2.PW.pt (uY (u5 (xs 2) jc) (uY (u5 (xs 6) jc) (wg (Du (jE (xn 5) iT) iT))))) (iV (jQ (i:=6) mj.nd rfl k4 jc)) je) (iR (jQ (i:=2) mj.nd rfl k4 (jq (jq (jq (xs 2) (za jc (jE (xn 5) iT))) (xs 6)) (za jc (jE (kj (xn 5) iT) iT)))) (iV (jQ (i:=2) mj.nd rfl k4 (jq (xs 2) (jX (xc (Cy T) hr (iQ (RM T.Y8 (kO 0 (xn 4) (λ_ _=>rfl))) (iQ (xn 4) (iQ (kj (xn 5) iT) iU))))))))))) je))))) (pI (jn (u5 (xs 2) jc) (iV (jQ (i:=2) mj.nd rfl k4 jc)) je) (iV (jb (jq (jq (za jc (jE (xn 1) iT)) (xs 2)) (za jc (jE (kj (xn 1) iT) iT)))))))),λas hp=>?_⟩)
 obtain⟨r,c,rfl,R⟩:=hp;have l1:=R.l1;have l8:=R.l8;have b1:(" ":Str).length=1:=by decide +kernel
 refine⟨tT,λt0 B=>?_⟩;replace B:t0=BV r c 0:=B;subst B;refine iZ (ρ':=[k7 r,k6 c,.fr (.str (BV r c 0)),.un,.un,.un,.un]) rfl ?_;refine⟨.inl rfl,⟨by show -(2:Int)^62<=(r.length:Int);lia,by show(r.length:Int)<2^62;lia⟩,λi u=>∃Q S L F,u=[k7 r,k6 c,.fr (.str (BV r c i)),Q,S,L,F],⟨.un,.un,.un,.un,rfl⟩,?_,?_⟩
 .rintro i u hi ⟨Q,S,L,F,rfl⟩;have hi:i<r.length:=hi;obtain⟨O,k1⟩:=U9 R c i;have tl:=(EY R c i).2;have j:BV r c (i+1)=lsT (BV r c i) (r.getD (((i:Int)+c) % (r.length:Int)).toNat 0) c (((i:Int)+c) % (r.length:Int)):=rfl;refine⟨⟨⟨rfl,rfl⟩,.inl rfl,by show(0:Int)<(r.length:Int);lia⟩,λk N=>?_⟩;replace N:k=((i:Int)+c) % (r.length:Int):=N;rw[<- N]at O k1 j;have hm:r.getD k.toNat 0∈r:=FM.getD_mem (by lia);have vs:=R.sm _ hm;have J:r.getD (jR r.length k) 0=r.getD k.toNat 0:=by
   have:jR r.length k=k.toNat:=by unfold jR;rw[ai O]
   rw[this]
  clear N;generalize BV r c i=t at tl j;refine iZ (ρ':=[k7 r,k6 c,.fr (.str t),k6 (i:Int),k6 k,L,F]) rfl ?_;refine⟨⟨⟨rfl,rfl,rfl,oO ⟨by show -(2:Int)^64<k;lia,by show k<(2:Int)^64;lia⟩⟩,⟨rfl,tT⟩,by show(0:Int)<k+2;lia,?_⟩,λb eb=>?_⟩
  .show(k+2).natAbs.log2<9000;have:(k+2).natAbs<2^8:=by show _<256;lia
   exact aN ((gw (by lia)).mpr this) (by decide)
  replace eb:b=YD c k:=eb;refine iZ (ρ':=[k7 r,k6 c,.fr (.str t),k6 (i:Int),k6 k,k6 b,F]) rfl ?_;have G:-(r.length:Int)<=k/\k<(r.length:Int):=by lia
  generalize hv:r.getD k.toNat 0=v at J vs j;unfold lsT at j;rw[<- eb]at j;refine⟨⟨⟨⟨.inl rfl,rfl,G.1,G.2⟩,tT⟩,λ_=>⟨⟨rfl,tT,by show(0:Int)<2;decide⟩,tT⟩⟩,λq=>?_,λq=>?_⟩
  .have q:¬r.getD (jR r.length k) 0=0\/b % 2=1:=q;rw[J]at q;rw[ai q]at j;refine⟨⟨⟨⟨.inl rfl,rfl,G.1,G.2⟩,tT⟩,?_,?_⟩,λI d=>?_⟩
   .show(0:Int)<=if r.getD (jR r.length k) 0<0 then 1 else 0;split<;>decide
   .show(if r.getD (jR r.length k) 0<0 then(1:Int) else 0)<2;split<;>decide
   replace d:I=sg1 v:=by have d:I=([("+":Str),"-"]:List Str).getD (if r.getD (jR r.length k) 0<0 then(1:Int) else 0).toNat "":=d;rw[J,ace]at d;exact d
   have m1:=aH b (show(0:Int)<3 by decide);have C:=aS b (show(3:Int)≠0 by decide);have m2:=aH (b / 3) (show(0:Int)<2 by decide);have D:=aS (b / 3) (show(2:Int)≠0 by decide);have r1:=qg (n:=b % 3) (k:=2) (by lia);have r2:=qg (n:=b / 3 % 2) (k:=1) (by lia);have sgl:(Nb t v b).length<=1:=Nz t v b;have va:0<=(if v<0 then -v else v)/\(if v<0 then -v else v)<10^90:=by
    have e10:((10^90:Nat):Int)=(10:Int)^90:=by decide +kernel
    have h:=fX.mpr vs;rw[e10]at h;generalize (10:Int)^90=Z at *
    split<;>lia
   refine iZ (ρ':=[k7 r,k6 c,.fr (.str t),k6 (i:Int),k6 k,k6 b,.fr (.str I)]) rfl ?_;refine⟨λu=>u=[k7 r,k6 c,.fr (.str t),k6 (i:Int),k6 k,k6 b,.fr (.str (Nb t v b))],⟨⟨⟨rfl,tT⟩,λ_=>⟨⟨rfl,tT⟩,λ_=>⟨⟨rfl,tT,by show(0:Int)<5;decide⟩,tT⟩⟩⟩,λm=>?_,λm=>?_⟩,?_⟩
   .have m:t=""/\I="+"/\b % 5<3:=m;rw[d]at m;refine⟨tT,λx z=>?_⟩;replace z:x="":=z;have e:Nb t v b=x:=by unfold Nb;rw[ai m,z]
    rw[e];rfl
   .have m:¬(t=""/\I="+"/\b % 5<3):=m;rw[d]at m;have e:Nb t v b=I:=by unfold Nb;rw[ag m,d]
    rw[e]
   rintro u rfl;generalize Nb t v b=x at sgl j;refine⟨⟨⟨⟨rfl,⟨tT,⟨rfl,tT,by show(0:Int)<3;decide⟩,C,by show b % 3<=1000;lia,by show 0<(" ":Str).length;lia,by show(" ":Str).length<=1000;lia⟩,?_⟩,rfl,?_⟩,⟨tT,⟨⟨rfl,tT,by show(0:Int)<3;decide,by show(3:Int).natAbs.log2<9000;decide +kernel⟩,tT,by show(0:Int)<2;decide⟩,D,by show b / 3 % 2<=1000;lia,by show 0<(" ":Str).length;lia,by show(" ":Str).length<=1000;lia⟩,?_⟩,λy g=>?_⟩
   .show t.length+(j8 " " (b % 3)).length<=sizeLine;rw[ao];lia
   .show(t++j8 " " (b % 3)).length+x.length<=sizeLine;rw[len_app,ao];lia
   .show(t++j8 " " (b % 3)++x).length+(j8 " " (b / 3 % 2)).length<=sizeLine;rw[len_app,len_app,ao];lia
   replace g:y=t++j8 " " (b % 3)++x++j8 " " (b / 3 % 2):=g;have l2:y.length<=t.length+4:=by rw[g,len_app,len_app,len_app];lia
   rw[<- g]at j;refine iZ (ρ':=[k7 r,k6 c,.fr (.str y),k6 (i:Int),k6 k,k6 b,.fr (.str x)]) rfl ?_;have M:(if r.getD (jR r.length k) 0<0 then -r.getD (jR r.length k) 0 else r.getD (jR r.length k) 0)=if v<0 then -v else v:=by rw[J]
   obtain⟨o,w,eo,Tw⟩:=YT (p:=1) (k:=k) O (by lia) va.1 va.2 (iO _) (b / 6);have tml:=(De Tw).2.2.1;have ll:(QX (if v<0 then -v else v) k (b / 6)).length<=93:=by rw[jV,eo];exact tml
   refine⟨⟨rfl,⟨⟨⟨⟨.inl rfl,rfl,G.1,G.2⟩,rfl,⟨rfl,tT,by show(0:Int)<6;decide,by show(6:Int).natAbs.log2<9000;decide +kernel⟩,tT⟩,_,_,_,rfl,?_,?_,O,by show k<8;lia⟩,rfl⟩,?_⟩,λt3 l=>?_⟩
   .show 0<=(if r.getD (jR r.length k) 0<0 then -r.getD (jR r.length k) 0 else r.getD (jR r.length k) 0);rw[M];exact va.1
   .show(if r.getD (jR r.length k) 0<0 then -r.getD (jR r.length k) 0 else r.getD (jR r.length k) 0)<10^90;rw[M];exact va.2
   .show y.length+(QX (if r.getD (jR r.length k) 0<0 then -r.getD (jR r.length k) 0 else r.getD (jR r.length k) 0) k (b / 6)).length<=sizeLine;rw[M,ao];lia
   replace l:t3=BV r c (i+1):=by have l:t3=y++QX (if r.getD (jR r.length k) 0<0 then -r.getD (jR r.length k) 0 else r.getD (jR r.length k) 0) k (b / 6):=l;rw[l,M,j]
   refine⟨k6 (i:Int),k6 k,k6 b,.fr (.str x),?_⟩;rw[<- l];rfl
  .have q:¬(¬r.getD (jR r.length k) 0=0\/b % 2=1):=q;rw[J]at q;rw[ag q]at j;refine⟨k6 (i:Int),k6 k,k6 b,F,?_⟩;rw[j]
 rintro u ⟨Q,S,L,F,rfl⟩;have tl:=(EY R c r.length).2;have j:Qs r c=j8 " " (c % 2)++S6 (BV r c r.length)++j8 " " (c / 2 % 3):=rfl;have tl2:(S6 (BV r c r.length)).length<=801:=by
  unfold S6;split
  .exact aG (show("0":Str).length<=1 by decide +kernel) (by decide)
  .lia
 refine⟨λu=>u=[k7 r,k6 c,.fr (.str (S6 (BV r c r.length))),Q,S,L,F],⟨⟨rfl,tT⟩,λq=>?_,λq=>?_⟩,?_⟩
 .have q:BV r c r.length="":=q;refine⟨tT,λy g=>?_⟩;replace g:y="0":=g;have e:S6 (BV r c r.length)=y:=by unfold S6;rw[ai q,g]
  rw[e];rfl
 .have q:¬BV r c r.length="":=q;have e:S6 (BV r c r.length)=BV r c r.length:=by unfold S6;rw[ag q]
  rw[e];rfl
 rintro u rfl;generalize S6 (BV r c r.length)=t at tl2 j;have m1:=aH c (show(0:Int)<2 by decide);have C:=aS c (show(2:Int)≠0 by decide);have m2:=aH (c / 2) (show(0:Int)<3 by decide);have D:=aS (c / 2) (show(3:Int)≠0 by decide);have r1:=qg (n:=c % 2) (k:=1) (by lia);have r2:=qg (n:=c / 2 % 3) (k:=2) (by lia);refine⟨⟨⟨⟨tT,⟨rfl,tT,by show(0:Int)<2;decide⟩,C,by show c % 2<=1000;lia,by show 0<(" ":Str).length;lia,by show(" ":Str).length<=1000;lia⟩,rfl,?_⟩,⟨tT,⟨⟨rfl,tT,by show(0:Int)<2;decide,by show(2:Int).natAbs.log2<9000;decide +kernel⟩,tT,by show(0:Int)<3;decide⟩,D,by show c / 2 % 3<=1000;lia,by show 0<(" ":Str).length;lia,by show(" ":Str).length<=1000;lia⟩,?_⟩,?_⟩
 .show(j8 " " (c % 2)).length+t.length<=sizeLine;rw[ao];lia
 .show(j8 " " (c % 2)++t).length+(j8 " " (c / 2 % 3)).length<=sizeLine;rw[len_app,ao];lia
 .show PV.str (j8 " " (c % 2)++t++j8 " " (c / 2 % 3))=PV.str (Qs r c);rw[j]
def Iw (ns:List Int)(m:Nat):Nat->List Int
 |0=>List.replicate m 0
 |i+1=>(Iw ns m i).set ((i:Int) % (m:Int)).toNat ((Iw ns m i).getD ((i:Int) % (m:Int)).toNat 0+ns.getD i 0 / 3 % 2000001-1000000)
def Gh (ns:Li)(m:Nat):∀i,(Iw ns m i).length=m
 |0=>a7
 |i+1=>by show(List.set ..).length=m;rw[bC,Gh ns m i]
def YC (ns:Li)(m:Nat):∀i,∀x∈Iw ns m i,x.natAbs<=i*1000000
 |0,x,h=>by rw[(d9.mp h).2];exact bA _
 |i+1,x,h=>by
  have a:=YC ns m i;have r:=aS (ns.getD i 0 / 3) (show(2000001:Int)≠0 by decide);have b:=aH (ns.getD i 0 / 3) (show(0:Int)<2000001 by decide);rcases f9 h with z|z
  .exact aG (a x z) (ig _ (bO i))
  .have h0:((Iw ns m i).getD ((i:Int) % (m:Int)).toNat 0).natAbs<=i*1000000:=by
    by_cases c:((i:Int) % (m:Int)).toNat<(Iw ns m i).length
    .exact a _ (FM.getD_mem c)
    .rw[jL (by lia)];exact bA _
   rw[z,iF];generalize i*1000000=B at h0;lia
def QR (ns:List Int):Nat:=(1+ns.getD 1 0 / 2 % 8).toNat
def Vs (ns:List Int):List Int:=Iw ns (QR ns) (min ns.length 63)
def ZK (ns:Li):vC 1 (Vs ns)/\∀x∈Vs ns,x.natAbs<=63000000:=by
 have r:=aS (ns.getD 1 0 / 2) (show(8:Int)≠0 by decide);have d:=aH (ns.getD 1 0 / 2) (show(0:Int)<8 by decide);have l:=Gh ns (QR ns) (min ns.length 63);have b:∀x∈Vs ns,x.natAbs<=63000000:=λx a=>by have:=YC ns (QR ns) (min ns.length 63) x a;have h:min ns.length 63<=63:=Nat.min_le_right _ _;have c:min ns.length 63*1000000<=63*1000000:=ig _ h;lia
 refine⟨⟨?_,?_,λx a=>?_,λx _=>iO x⟩,b⟩
 .unfold Vs;rw[l];unfold QR;lia
 .unfold Vs;rw[l];unfold QR;lia
 .exact bW (b x a) (by decide +kernel)
def aaN:Ok P w K mg base 2 "_law_any" ["_law_script"] (Qf K (lU cW cR cBT) (λas=>∃ns,as=[.scr ns]/\ns.length<=63) λas=>match as with|[.scr ns]=>Vs ns|_=>[]):=by
 refine Uk T.adc zr (λ_ ⟨a,h,_⟩=>h▸rfl) (λf C A t s H E L=>⟨_,(iR (ji (i:=1) zr.nd rfl k4 (m9 iT (jE (kj (xci (nM T) L (iQ (xr 0) (iQ iT iU))) iT) iT))) (iR (vJ (i:=2) zr.nd rfl k4 (xO (qQ (iQ iT iU)) (xn 1) (λ_=>rfl))) (iR (wF (k:=3) aT rfl (by rfl) T.qR (RZ rfl T.Ze (lw 0 T.jO) iT) zr.nd rfl k4 (iR (ji (i:=4) zr.nd rfl k4 (jE (xn 3) (xn 1))) (iV (t7 2 (xn 4) (pG (m9 (kO 2 (xn 4) (λ_ _=>rfl)) (jE (kj (kO 0 (xn 3) (λ_ _=>rfl)) iT) (m9 (o6 iT (Vj iT iT)) iT))) (Vj iT iT)))))) (iV (Be 2))))),λas J=>?_⟩)
 obtain⟨ns,rfl,g⟩:=J;have O:=aS (ns.getD 1 0 / 2) (show(8:Int)≠0 by decide);have Q:=aH (ns.getD 1 0 / 2) (show(0:Int)<8 by decide);have I:min ns.length 63=ns.length:=Nat.min_eq_left g;refine⟨⟨tT,⟨⟨⟨rfl,tT,tT⟩,tT,rfl,by show(0:Int)<=1;decide⟩,tT,by show(0:Int)<2;decide,by show(2:Int).natAbs.log2<9000;decide +kernel⟩,tT,by show(0:Int)<8;decide⟩,λm e=>?_⟩;replace e:m=(QR ns:Int):=by have e:m=1+ns.getD 1 0 / 2 % 8:=e;rw[e];unfold QR;lia
 have N:1<=QR ns/\QR ns<=8:=by unfold QR;lia
 have y:Vs ns=Iw ns (QR ns) ns.length:=by unfold Vs;rw[I]
 generalize QR ns=q at e N y;subst e;refine⟨⟨⟨⟨tT,tT⟩,tT⟩,rfl,by show -(2:Int)^63<=(q:Int);lia,by show((q:Int)).toNat<=1000;lia⟩,λl d=>?_⟩;replace d:l=Iw ns q 0:=d;subst d;refine iZ (ρ':=[.fr (.scr ns),k6 (q:Int),.ow (.ints (Iw ns q 0)),.un,.un]) rfl ?_;have b:(if (63:Int)<(ns.length:Int) then(63:Int) else(ns.length:Int))=(ns.length:Int):=ag (by lia);refine⟨⟨.inr (.inr rfl),tT⟩,⟨?_,?_⟩,λi x=>∃v u,x=[.fr (.scr ns),k6 (q:Int),.ow (.ints (Iw ns q i)),v,u],⟨.un,.un,rfl⟩,?_,?_⟩
 .show -(2:Int)^62<=(if (63:Int)<(ns.length:Int) then(63:Int) else(ns.length:Int));rw[b];lia
 .show(if (63:Int)<(ns.length:Int) then(63:Int) else(ns.length:Int))<2^62;rw[b];lia
 .rintro i x n ⟨v,u,rfl⟩;have n:i<(if (63:Int)<(ns.length:Int) then(63:Int) else(ns.length:Int)).toNat:=n;rw[b]at n;have z:=aS (i:Int) (show(q:Int)≠0 by lia);have M:=aH (i:Int) (show(0:Int)<(q:Int) by lia);have B:=Gh ns q i;refine⟨⟨rfl,rfl,by show(0:Int)<(q:Int);lia⟩,λk c=>?_⟩;replace c:k=(i:Int) % (q:Int):=c;have j:Iw ns q (i+1)=(Iw ns q i).set ((i:Int) % (q:Int)).toNat ((Iw ns q i).getD ((i:Int) % (q:Int)).toNat 0+ns.getD i 0 / 3 % 2000001-1000000):=rfl;rw[<- c]at z M j;generalize Iw ns q i=r at B j;have p:jR r.length k=k.toNat:=by unfold jR;rw[ai z]
  have o:jR ns.length (i:Int)=i:=by unfold jR;rw[ai (by lia)];lia
  refine iZ (ρ':=[.fr (.scr ns),k6 (q:Int),.ow (.ints r),k6 (i:Int),k6 k]) rfl ?_;refine⟨⟨⟨⟨.inr (.inl rfl),rfl,by show -(r.length:Int)<=k;lia,by show k<(r.length:Int);lia⟩,⟨⟨.inr (.inr rfl),rfl,by show -(ns.length:Int)<=(i:Int);lia,by show(i:Int)<(ns.length:Int);lia⟩,tT,by show(0:Int)<3;decide,by show(3:Int).natAbs.log2<9000;decide +kernel⟩,⟨⟨tT,⟨tT,tT,?_⟩,?_⟩,tT⟩,?_⟩,tT,tT,?_⟩,rfl,rfl,⟨by show -(r.length:Int)<=k;lia,by show k<(r.length:Int);lia⟩,?_⟩
  .exact⟨by decide,by decide,by decide⟩
  .exact oO ⟨by show -(2:Int)^64<2;decide,by show(2:Int)<2^64;decide⟩
  .show(0:Int)<2*10^6+1;decide
  .exact⟨by decide,by decide,by decide⟩
  .refine⟨k6 (i:Int),k6 k,?_⟩;have D:(2*10^6+1:Int)=2000001:=by decide
   have F:(10^6:Int)=1000000:=by decide
   have G:r.set (jR r.length k) (r.getD (jR r.length k) 0+ns.getD (jR ns.length (i:Int)) 0 / 3 % (2*10^6+1)-10^6)=Iw ns q (i+1):=by rw[p,o,D,F,j]
   rw[<- G];rfl
 .rintro x ⟨v,u,rfl⟩;refine⟨rfl,?_⟩;show Iw ns q (if (63:Int)<(ns.length:Int) then(63:Int) else(ns.length:Int)).toNat=Vs ns;rw[b,y];rfl
def Xw (ok:Nat->Bool)(a y:List Nat):Bool:=(List.range y.length).any λi=>match y[i]?,a[i]? with
 |some v,some u=>u != v
 |some v,none=>!ok v
 |none,_=>false
def pP {ok:Nat->Bool}{a y t:Str}(h:Xw ok a.cps.toList y.cps.toList=true)(j:∀c∈t.cps.toList,ok c=true):PySem.Txt.startswith (a++t) y=false:=by
 cases q:PySem.Txt.startswith (a++t) y with
 |false=>rfl
 |true=>
  obtain⟨r,e⟩:=(Es _ _).mp q;rw[jB]at e;obtain⟨i,_,b⟩:=List.any_eq_true.mp h;cases g:y.cps.toList[i]? with
  |none=>rw[g]at b;cases b
  |some v=>
   have d:(a.cps.toList++t.cps.toList)[i]?=some v:=by rw[e,aW (aC.mp g).1];exact g
   rw[g]at b;cases f:a.cps.toList[i]? with
   |some u=>rw[f]at b;rw[aW (aC.mp f).1,f]at d;cases d;simp at b
   |none=>rw[f]at b;rw[bh (dH.mp f)]at d;have:=j v (bn d);have b:(!ok v)=true:=b;rw[this]at b;cases b
def Ep (a t:Str):PySem.Txt.startswith (a++t) a=true:=(Es _ _).mpr ⟨t.cps.toList,jB a t⟩
def Kq (a t:Str):PySem.StrLaws.sliceText (a++t) (some (a.length:Int)) none=t:=(Gs (jB a t)).trans (Nj t)
section
variable {cBA cNP cNN:Addr}
def Ra (t:Str):uA cBA cNP cNN (("parts of ":Str)++t)=R4 cNN t:=by unfold uA;rw[ai (Ep _ t)];have:=Kq "parts of " t;rw[show(("parts of ":Str).length:Int)=9 from by decide +kernel]at this;rw[this]
def wZ (t:Str):uA cBA cNP cNN (("parts by ":Str)++t)=GQ cBA cNP cNN t:=by unfold uA;have h:PySem.Txt.startswith (("parts by ":Str)++t) "parts of "=false:=pP (ok:=λ_=>true) (by decide +kernel) λ_ _=>rfl;rw[ag (by rw[h];decide),ai (Ep _ t)];have:=Kq "parts by " t;rw[show(("parts by ":Str).length:Int)=9 from by decide +kernel]at this;rw[this]
def xV (t:Str):uA cBA cNP cNN (("common of ":Str)++t)=GK cBA t:=by unfold uA;have h:PySem.Txt.startswith (("common of ":Str)++t) "parts of "=false:=pP (ok:=λ_=>true) (by decide +kernel) λ_ _=>rfl;have a:PySem.Txt.startswith (("common of ":Str)++t) "parts by "=false:=pP (ok:=λ_=>true) (by decide +kernel) λ_ _=>rfl;rw[ag (by rw[h];decide),ag (by rw[a];decide),ai (Ep _ t)];have:=Kq "common of " t;rw[show(("common of ":Str).length:Int)=10 from by decide +kernel]at this;rw[this]
def as_none {t:Str}(h:PySem.Txt.startswith t "parts of "=false)(a:PySem.Txt.startswith t "parts by "=false)(b:PySem.Txt.startswith t "common of "=false):uA cBA cNP cNN t=.err (2*cBA):=by unfold uA;rw[ag (by rw[h];decide),ag (by rw[a];decide),ag (by rw[b];decide)]
def Uc:(" of ":Str).cps.toList=32::111::[102,32]:=by decide +kernel
def M4:(" and ":Str).cps.toList=32::97::[110,100,32]:=by decide +kernel
def Ew {a:Str}(h:111∉a.cps.toList)(X:Str):GQ cBA cNP cNN (a++(" of "++X))=Ui cBA cNP cNN (a," of ",X):=by unfold GQ;rw[Hq Uc (a:=a.cps.toList) (b:=X.cps.toList) (by rw[jB,jB]) h (by decide)];rfl
def MJ {a:Str}(h:97∉a.cps.toList)(X:Str):PySem.Txt.partition (a++(" and "++X)) " and "=(a,(" and ":Str),X):=Hq M4 (a:=a.cps.toList) (b:=X.cps.toList) (by rw[jB,jB]) h (by decide)
def Wq (c:Nat)(b:List Nat):Bool:=(List.range b.length).all λi=>!(b[i]? == some 32 && b[i+1]? == some c)
def Mt {c:Nat}{b t:Str}(f:BJ c=false)(h:Wq c b.cps.toList=true)(g:∀d∈t.cps.toList,BJ d=true):∀i,(b++t).cps.toList[i]?=some 32->(b++t).cps.toList[i+1]? ≠ some c:=by
 intro i e a;rw[jB]at e a;by_cases q:i+1<b.cps.toList.length
 .rw[aW (by lia)]at e;rw[aW q]at a;have:=aR.mp h i (bw.mpr (by lia));rw[e,a]at this;simp at this
 .rw[bh (by lia)]at a;have:=g c (bn a);rw[f]at this;cases this
def acz {b t:Str}(h:Wq 111 b.cps.toList=true)(a:∀d∈t.cps.toList,BJ d=true):uA cBA cNP cNN (("parts by ":Str)++(b++t))=.err (2*cBA):=by rw[wZ];unfold GQ;rw[LR Uc (Mt (by decide) h a)];unfold Ui;rw[ai (.inl rfl)]
def Zo {a:Str}(h:a.cps.toList.contains 111=false)(b:Br a 60=false)(X:Str):uA cBA cNP cNN (("parts by ":Str)++(a++(" of "++X)))=.err (2*cBA):=by rw[wZ,Ew (λz=>by rw[bZ.mpr z]at h;cases h)];unfold Ui;rw[ai (.inr (by rw[b];decide))]
def YM {b t:Str}(h:Wq 97 b.cps.toList=true)(a:∀d∈t.cps.toList,BJ d=true):uA cBA cNP cNN (("common of ":Str)++(b++t))=.err (2*cBA):=by rw[xV];unfold GK;rw[LR M4 (Mt (by decide) h a)];exact ai rfl
end
def Td:Str:=j8 "1" 61
def Ig:List Str:=["parts ","Parts of "," parts of ","parts  of ","part of ","parts by 7 ","parts by  7 of "]
def OJ:List Str:=["parts by x of ","parts by 7of ","parts by -7 of ","parts by 7  of ","parts by of "]
def Vx:List Str:=["parts by  of ","common of ","common to x and ","parts of","common of and "]
def adH:List Str:=[("parts by ":Str)++Td++" of "]
def noA:List Str:=Ig++OJ++Vx++adH
def Lx:List Str:=["","parts","parts of","common of","parts by 7 of","common of x and","parts by 7","common of x, x"]
def Xk {cBA cNP cNN:Addr}{t:Str}(k:Core 1 t.cps.toList):∀b∈noA,uA cBA cNP cNN (b++t)=.err (2*cBA):=by
 have g:=k.sg;have i:∀(b j:Str),b=("parts by ":Str)++j -> Wq 111 j.cps.toList=true->uA cBA cNP cNN (b++t)=.err (2*cBA):=λb j e h=>by rw[e,jo];exact acz h g
 have f:∀(b a:Str),b=("parts by ":Str)++(a++" of ")->a.cps.toList.contains 111=false->Br a 60=false->uA cBA cNP cNN (b++t)=.err (2*cBA):=λb a e l m=>by rw[e,jo,jo];exact Zo l m t
 have n:∀b:Str,Xw BJ b.cps.toList ("parts of ":Str).cps.toList=true->Xw BJ b.cps.toList ("parts by ":Str).cps.toList=true->Xw BJ b.cps.toList ("common of ":Str).cps.toList=true->uA cBA cNP cNN (b++t)=.err (2*cBA):=λb l m p=>as_none (pP l g) (pP m g) (pP p g);intro b d;unfold noA at d;simp only[aZ]at d;rcases d with ((d|d)|d)|d
 .unfold Ig at d;simp only[aw,bS,eK]at d;rcases d with rfl|rfl|rfl|rfl|rfl|rfl|rfl
  .exact n _ (by decide +kernel) (by decide +kernel) (by decide +kernel)
  .exact n _ (by decide +kernel) (by decide +kernel) (by decide +kernel)
  .exact n _ (by decide +kernel) (by decide +kernel) (by decide +kernel)
  .exact n _ (by decide +kernel) (by decide +kernel) (by decide +kernel)
  .exact n _ (by decide +kernel) (by decide +kernel) (by decide +kernel)
  .exact i _ "7 " (by decide +kernel) (by decide +kernel)
  .exact f _ " 7" (by decide +kernel) (by decide +kernel) (by decide +kernel)
 .unfold OJ at d;simp only[aw,bS,eK]at d;rcases d with rfl|rfl|rfl|rfl|rfl
  .exact f _ "x" (by decide +kernel) (by decide +kernel) (by decide +kernel)
  .exact i _ "7of " (by decide +kernel) (by decide +kernel)
  .exact f _ "-7" (by decide +kernel) (by decide +kernel) (by decide +kernel)
  .exact f _ "7 " (by decide +kernel) (by decide +kernel) (by decide +kernel)
  .exact i _ "of " (by decide +kernel) (by decide +kernel)
 .unfold Vx at d;simp only[aw,bS,eK]at d;rcases d with rfl|rfl|rfl|rfl|rfl
  .exact f _ "" (by decide +kernel) (by decide +kernel) (by decide +kernel)
  .have:=YM (cBA:=cBA) (cNP:=cNP) (cNN:=cNN) (b:="") (by decide +kernel) g;rw[show("":Str)++t=t from Wd t]at this;exact this
  .exact n _ (by decide +kernel) (by decide +kernel) (by decide +kernel)
  .refine as_none ?_ (pP (ok:=BJ) (by decide +kernel) g) (pP (ok:=BJ) (by decide +kernel) g);cases q:PySem.Txt.startswith (("parts of":Str)++t) "parts of " with
   |false=>rfl
   |true=>obtain⟨r,e⟩:=(Es _ _).mp q;obtain⟨c,u,o,s⟩:=k.hd;rw[jB,show("parts of ":Str).cps.toList=("parts of":Str).cps.toList++[32] from by decide +kernel,bu,List.append_cancel_left_eq,o]at e;exact absurd (List.cons.inj e).1 s
  .have:=YM (cBA:=cBA) (cNP:=cNP) (cNN:=cNN) (b:="and ") (by decide +kernel) g;rw[<- jo,show("common of ":Str)++"and "="common of and " from by decide +kernel]at this;exact this
 .rw[ap.mp d];exact f _ Td (jo _ _ _) (by decide +kernel) (by decide +kernel)
def Wj {cBA cNP cNN:Addr}:∀b∈Lx,uA cBA cNP cNN b=.err (2*cBA):=by
 have e0:∀d∈("":Str).cps.toList,BJ d=true:=λd h=>by rw[show("":Str).cps.toList=[] from by decide +kernel]at h;cases h
 intro b a;unfold Lx at a;simp only[aw,bS,eK]at a;rcases a with rfl|rfl|rfl|rfl|rfl|rfl|rfl|rfl
 .exact as_none (by decide +kernel) (by decide +kernel) (by decide +kernel)
 .exact as_none (by decide +kernel) (by decide +kernel) (by decide +kernel)
 .exact as_none (by decide +kernel) (by decide +kernel) (by decide +kernel)
 .exact as_none (by decide +kernel) (by decide +kernel) (by decide +kernel)
 .rw[show("parts by 7 of":Str)=("parts by ":Str)++"7 of" from by decide +kernel,wZ];unfold GQ Ui;rw[ai (.inl (by decide +kernel))]
 .rw[show("common of x and":Str)=("common of ":Str)++"x and" from by decide +kernel,xV];unfold GK;rw[ai (by decide +kernel)]
 .rw[show("parts by 7":Str)=("parts by ":Str)++"7" from by decide +kernel,wZ];unfold GQ Ui;rw[ai (.inl (by decide +kernel))]
 .rw[show("common of x, x":Str)=("common of ":Str)++"x, x" from by decide +kernel,xV];unfold GK;rw[ai (by decide +kernel)]
def Wz:List Str:=["0","1","4","007","02","9975","10007","00",j8 "9" 60]
def acH {cBA cNP cNN:Addr}(X:Str):∀g∈Wz,uA cBA cNP cNN (("parts by ":Str)++(g++(" of "++X)))=.err (2*cNP):=by
 have k:∀g:Str,g.cps.toList.contains 111=false->Br g 60=true->(PySem.Txt.startswith g "0"=true\/¬zW ((intText? g).getD 0))->uA cBA cNP cNN (("parts by ":Str)++(g++(" of "++X)))=.err (2*cNP):=λg c d e=>by
  rw[wZ,Ew (λz=>by rw[bZ.mpr z]at c;cases c)];unfold Ui;rw[ag (by
   rintro (z|z)
   .exact absurd (show(" of ":Str)="" from z) (by decide +kernel)
   .exact z d)]
  by_cases q:PySem.Txt.startswith g "0"=true
  .rw[ai q]
  .rw[ag q,ag (e.resolve_left q)]
 have b:∀n:Int,9973<n->¬zW n:=λn h z=>by have:=z.2.1;lia
 intro g a;unfold Wz at a;simp only[aw,bS,eK]at a;rcases a with rfl|rfl|rfl|rfl|rfl|rfl|rfl|rfl|rfl
 .exact k _ (by decide +kernel) (by decide +kernel) (.inl (by decide +kernel))
 .refine k _ (by decide +kernel) (by decide +kernel) (.inr λz=>?_);rw[show(intText? ("1":Str)).getD 0=1 from by decide +kernel]at z;exact absurd z.1 (by decide)
 .refine k _ (by decide +kernel) (by decide +kernel) (.inr λz=>?_);rw[show(intText? ("4":Str)).getD 0=4 from by decide +kernel]at z;exact z.2.2 2 (by decide) (by decide) (by decide)
 .exact k _ (by decide +kernel) (by decide +kernel) (.inl (by decide +kernel))
 .exact k _ (by decide +kernel) (by decide +kernel) (.inl (by decide +kernel))
 .exact k _ (by decide +kernel) (by decide +kernel) (.inr (b _ (by decide +kernel)))
 .exact k _ (by decide +kernel) (by decide +kernel) (.inr (b _ (by decide +kernel)))
 .exact k _ (by decide +kernel) (by decide +kernel) (.inl (by decide +kernel))
 .exact k _ (by decide +kernel) (by decide +kernel) (.inr (b _ (by decide +kernel)))
def JF:List (Str×Int):=[("y",0),("*",0),("  *",2),("- -",2),("+ +",2),(" (",1),("x x",2),("00",1)]
def GX:List (Str×Int):=[("y",0),(" y",1),(" +",2),("+",1),(" + *",3),(" x",1),("(",0),(" + - x",3),("=",0),("  ?",2),(" - ",3),(" 7",1)]
def WK:List (Str×Int):=[("",0),("   ",3),(" -",2),("x^",2),("x^41",3),("x^07",3),("3 x",2),("X",0)]
structure Bad (q:Str×Int):Prop where
 rd:jD q.1=.inl q.2
 no:97∉q.1.cps.toList
def Sq:BJ 97=false:=by decide
def aao {t:Str}(f:∀c∈t.cps.toList,BJ c=true):∀q∈JF,Bad (q.1++t,q.2):=by
 have k:∀(q:Str×Int) (m:Nat),(∀r,pQ .start (q.1.cps.toList++r)=some (r.length+m))->((q.1.length-m:Nat):Int)=q.2->m<=q.1.length->q.1.cps.toList.contains 97=false->Bad (q.1++t,q.2):=λq m d e g b=>by
  refine⟨?_,λz=>?_⟩
  .have h:=d t.cps.toList;rw[<- jB]at h;rw[Oo h,<- e,len_app,jV t];congr 2;lia
  .rw[jB]at z;rcases aZ.mp z with z|z
   .rw[bZ.mpr z]at b;cases b
   .have:=f 97 z;rw[Sq]at this;cases this
 intro q a;unfold JF at a;simp only[aw,bS,eK]at a;rcases a with rfl|rfl|rfl|rfl|rfl|rfl|rfl|rfl
 .exact k _ 1 (λr=>by rw[show("y":Str).cps.toList=[121] from by decide +kernel];rfl) (by decide +kernel) (by decide +kernel) (by decide +kernel)
 .exact k _ 1 (λr=>by rw[show("*":Str).cps.toList=[42] from by decide +kernel];rfl) (by decide +kernel) (by decide +kernel) (by decide +kernel)
 .exact k _ 1 (λr=>by rw[show("  *":Str).cps.toList=[32,32,42] from by decide +kernel];rfl) (by decide +kernel) (by decide +kernel) (by decide +kernel)
 .exact k _ 1 (λr=>by rw[show("- -":Str).cps.toList=[45,32,45] from by decide +kernel];rfl) (by decide +kernel) (by decide +kernel) (by decide +kernel)
 .exact k _ 1 (λr=>by rw[show("+ +":Str).cps.toList=[43,32,43] from by decide +kernel];rfl) (by decide +kernel) (by decide +kernel) (by decide +kernel)
 .exact k _ 1 (λr=>by rw[show(" (":Str).cps.toList=[32,40] from by decide +kernel];rfl) (by decide +kernel) (by decide +kernel) (by decide +kernel)
 .exact k _ 1 (λr=>by rw[show("x x":Str).cps.toList=[120,32,120] from by decide +kernel];rfl) (by decide +kernel) (by decide +kernel) (by decide +kernel)
 .exact k _ 1 (λr=>by rw[show("00":Str).cps.toList=[48,48] from by decide +kernel];rfl) (by decide +kernel) (by decide +kernel) (by decide +kernel)
def aap {t:Str}(k:Core 1 t.cps.toList):∀q∈GX,Bad (t++q.1,(t.length:Int)+q.2):=by
 obtain⟨s,b,g⟩:=k.go;have a:∀(q:Str×Int) (m:Nat),pQ s q.1.cps.toList=some m->((q.1.length-m:Nat):Int)=q.2->m<=q.1.length->q.1.cps.toList.contains 97=false->Bad (t++q.1,(t.length:Int)+q.2):=λq m e f i d=>by
  refine⟨?_,λz=>?_⟩
  .have h:=g q.1.cps.toList;rw[<- jB,e]at h;rw[Oo h,<- f,len_app];congr 1;lia
  .rw[jB]at z;rcases aZ.mp z with z|z
   .have:=k.sg 97 z;rw[Sq]at this;cases this
   .rw[bZ.mpr z]at d;cases d
 intro q c;unfold GX at c;simp only[aw,bS,eK]at c;rcases c with rfl|rfl|rfl|rfl|rfl|rfl|rfl|rfl|rfl|rfl|rfl|rfl
 .exact a _ 1 (by rw[show("y":Str).cps.toList=[121] from by decide +kernel];cases s<;>first|rfl|cases b) (by decide +kernel) (by decide +kernel) (by decide +kernel)
 .exact a _ 1 (by rw[show(" y":Str).cps.toList=[32,121] from by decide +kernel];cases s<;>first|rfl|cases b) (by decide +kernel) (by decide +kernel) (by decide +kernel)
 .exact a _ 0 (by rw[show(" +":Str).cps.toList=[32,43] from by decide +kernel];cases s<;>first|rfl|cases b) (by decide +kernel) (by decide +kernel) (by decide +kernel)
 .exact a _ 0 (by rw[show("+":Str).cps.toList=[43] from by decide +kernel];cases s<;>first|rfl|cases b) (by decide +kernel) (by decide +kernel) (by decide +kernel)
 .exact a _ 1 (by rw[show(" + *":Str).cps.toList=[32,43,32,42] from by decide +kernel];cases s<;>first|rfl|cases b) (by decide +kernel) (by decide +kernel) (by decide +kernel)
 .exact a _ 1 (by rw[show(" x":Str).cps.toList=[32,120] from by decide +kernel];cases s<;>first|rfl|cases b) (by decide +kernel) (by decide +kernel) (by decide +kernel)
 .exact a _ 1 (by rw[show("(":Str).cps.toList=[40] from by decide +kernel];cases s<;>first|rfl|cases b) (by decide +kernel) (by decide +kernel) (by decide +kernel)
 .exact a _ 3 (by rw[show(" + - x":Str).cps.toList=[32,43,32,45,32,120] from by decide +kernel];cases s<;>first|rfl|cases b) (by decide +kernel) (by decide +kernel) (by decide +kernel)
 .exact a _ 1 (by rw[show("=":Str).cps.toList=[61] from by decide +kernel];cases s<;>first|rfl|cases b) (by decide +kernel) (by decide +kernel) (by decide +kernel)
 .exact a _ 1 (by rw[show("  ?":Str).cps.toList=[32,32,63] from by decide +kernel];cases s<;>first|rfl|cases b) (by decide +kernel) (by decide +kernel) (by decide +kernel)
 .exact a _ 0 (by rw[show(" - ":Str).cps.toList=[32,45,32] from by decide +kernel];cases s<;>first|rfl|cases b) (by decide +kernel) (by decide +kernel) (by decide +kernel)
 .exact a _ 1 (by rw[show(" 7":Str).cps.toList=[32,55] from by decide +kernel];cases s<;>first|rfl|cases b) (by decide +kernel) (by decide +kernel) (by decide +kernel)
def aaK:∀q∈WK,Bad q:=by
 have:WK.all (λq=>decide (jD q.1=.inl q.2) && !q.1.cps.toList.contains 97)=true:=by decide +kernel
 intro q a;have h:=aR.mp this q a;rw[bj,bM]at h;refine⟨h.1,λz=>?_⟩;rw[bZ.mpr z]at h;exact absurd h.2 (by decide)
@[irreducible] def PXi (X:Cx) (st:Stmt) (t:TS):Prop:=PS X st t
section
variable {X:Cx}{G:Gx}{E:ER}{a b e:Expr}{f:List Expr}{st:Stmt}{s:List Stmt}{C l q:En->Prop}{g:En->PV}{k H:En->List PV}{F h:FS}{pos d p M:Pos}{i j:Nat}{x m:Str}
def qy (n:X.N.Nodup)(r:X.N[i]?=some x)(u:Loc X.env.scope x)(he:PEi X e (tX X.K G C g))(t:swapsWith e (some (.Name x d)) pos.line X.env=pure false:=by rfl)
  (o:X.fn x=true\/X.env.scope.names.lookup x=some .local:=by walk_at "w"):PXi X (.Assign [.Name x d] e pos) (ts X.K G E λP c=>C c/\∀p,p=g c->P.nx (c.set i (.fr p))):=by
 unfold PXi;exact jK n r u (Qj he) t o
def Zk (c:PXi X st (ts X.K G E F))(n:PSs X s (ts X.K G E h)):PSi X (st::s) (ts X.K G E λP o=>F (P.sq (h P)) o):=by unfold PXi at c;exact psi (iR c n)
def rQ (c:PXi X st (ts X.K G E F))(n:PSi X s (ts X.K G E h)):PSi X (st::s) (ts X.K G E λP o=>F (P.sq (h P)) o):=Zk c (K3 n)
def jf:PEi X (.Constant (.str m) j p) (tX X.K G (λ_=>True) λ_=>.str m):=Va jc
def K9 (n:PE X a (tX X.K G l λc=>.lst (k c)))(o:PEi X b (tX X.K G q λc=>.lst (H c))):PEi X (.BinOp a .Add b pos) (tX X.K G (λc=>l c/\q c/\(k c).length+(H c).length<=sizeLine) λc=>.lst (k c++H c)):=Va (oF (xF n (Qj o)))
def iY {ev:Env}{c}:starEach (.Constant c j p::f) ev=(false,eval (.Constant c j p) ev)::starEach f ev:=rfl
def zM {ev:Env}{o}:starEach (.BinOp a o b pos::f) ev=(false,eval (.BinOp a o b pos) ev)::starEach f ev:=rfl
variable {n:Int}{y z:Str}{J r A B:Nat}{t u v D I L:Pos}
def acp:PEi X (.BinOp (.Constant (.str y) J t) .Mult (.Constant (.int n) r u) v) (tX X.K G (λ_=>True/\True/\1<n/\n<=1000/\0<y.length/\y.length<=1000/\(j8 y n).length<=sizeLine) λ_=>.str (j8 y n)):=Va (QT jc iT)
def Z3:PEi X (.BinOp (.BinOp (.Constant (.str x) A p) .Add (.BinOp (.Constant (.str y) J t) .Mult (.Constant (.int n) r u) v) D) .Add (.Constant (.str z) B I) L) (tX X.K G (λ_=>(True/\(True/\True/\1<n/\n<=1000/\0<y.length/\y.length<=1000/\(j8 y n).length<=sizeLine)/\x.length+(j8 y n).length<=sizeLine)/\True/\(x++j8 y n).length+z.length<=sizeLine) λ_=>.str (x++j8 y n++z)):=Va (jq (jq jc (QT jc iT)) jc)
end
def jT {X:Cx}{G:Gx}{n:Int}{j:Nat}{p:Pos}:PEi X (.Constant (.int n) j p) (tX X.K G (λ_=>True) λ_=>.int n):=Va iT
def sG {ev:Env}{xs e:List Expr}{k1}{pos:Pos}:starEach (.Tuple xs k1 pos::e) ev=(false,eval (.Tuple xs k1 pos) ev)::starEach e ev:=rfl
section
variable {X:Cx}{G:Gx}{e:ER}{a b c:Expr}{st:Stmt}{s bs:List Stmt}{t:TS}{C d f:En->Prop}{F i:FS}{j:En->Int}{g:En->PV}{pos:Pos}
def PN (h:PS X st t):PXi X st t:=by unfold PXi;exact h
def Sd:PSi X [] (ts X.K G e λP h=>P.nx h):=psi je
def MP {p:En->Prop}[∀h,Decidable (p h)](m:PT X c (t6 X.K G C p))(k:PSi X s (ts X.K G e F))(l:PSi X bs (ts X.K G e i)):PXi X (.If c s bs pos) (ts X.K G e λP h=>C h/\(p h->F P h)/\(¬p h->i P h)):=PN (jn m (K3 k) (K3 l))
def Z0 (k:PE X a (jW X.K G d j))(l:PEi X b (tX X.K G f g)):PEi X (.BinOp a .Add b pos) (tX X.K G (λh=>d h/\f h/\g h=.int (QQ (g h))) λh=>.int (j h+QQ (g h))):=Va (mD (m9 k (ym (Qj l))) λB m H h O Q R c q=>⟨B,h,O,R,c,q⟩)
end
def ZW {K:Fg}{G:Gx}{x:Str}{st:Stmt}{N b:Ls}{k:Nat}{pre:List PV->Prop}{F:List PV->PV}(d:lH K mg x st b)(S:FnScope N b (defScope st))(len:∀as,pre as->as.length=b.length)
  (a:∀(f:Addr) (c:Value) (A:Around) (outer:List Env) (s:Shared) (H:Hp) (E:XK),Room k (A.deeper (envOfC x (defScope st) s.heap.objs.size f c)) -> ∃fs,PSi (cxOf CX0 P w K mg base N x (defScope st) f c A outer s H E).nox (defBody st) (ts K G ER0 fs)/\∀as,pre as->fs { nx:=λ_=>F as=.non,rt:=λp=>p=F as,rl:=λns=>F as=.ints ns } (kh N as)):Ok P w K mg base (k+1) x b (q8 K G pre F):=
 uV d S len λf c A outer s H E e=>let ⟨fs,h,q⟩:=a f c A outer s H E e;⟨fs,K3 h,q⟩
def xJ {l:Ls}{i:Int}(h0:0<=i)(a:i<(l.length:Int)):pW (.lst (l.map PV.str)) i=.str (l.getD i.toNat ""):=by
 obtain⟨n,rfl⟩:=bc h0;have h:n<l.length:=by lia
 show(l.map PV.str).getD (jR (l.map PV.str).length (n:Int)) .non=_;have e:jR (l.map PV.str).length (n:Int)=n:=by unfold jR;rw[ai (by lia)];rfl
 rw[e,gQ,aE,aa h,show((n:Int)).toNat=n from rfl,gQ,aa h];rfl
def getD_in {l:Ls}{i:Nat}(h:i<l.length):l.getD i ""∈l:=by rw[gQ,aa h];exact bI h
def Sx:(j8 "1" 61).length=61:=by decide +kernel
def Tu:(1:Int)<61/\(61:Int)<=1000/\0<("1":Str).length/\("1":Str).length<=1000/\(j8 "1" 61).length<=sizeLine:=⟨by decide,by decide,by decide +kernel,by decide +kernel,by rw[Sx,ao];decide⟩
def zf:noA.length=18:=by decide +kernel
def Y6:∀b∈noA,b.length<=80:=by
 have:noA.all (λb=>decide (b.length<=80))=true:=by decide +kernel
 exact λb h=>bi (aR.mp this b h)
def Xp (t:Str)(c:Int):Str:=if c % 3 > 0 then noA.getD (c / 3 % 18).toNat ""++t else Lx.getD (c / 3 % 8).toNat ""
def Zi {cBA cNP cNN:Addr}{t:Str}(k:Core 1 t.cps.toList)(g:t.length<=810)(c:Int):uA cBA cNP cNN (Xp t c)=.err (2*cBA)/\(Xp t c).length<=900:=by
 have a:=aS (c / 3) (show(18:Int)≠0 by decide);have d:=aH (c / 3) (show(0:Int)<18 by decide);have e:=aS (c / 3) (show(8:Int)≠0 by decide);have f:=aH (c / 3) (show(0:Int)<8 by decide);unfold Xp;split
 .have h:noA.getD (c / 3 % 18).toNat ""∈noA:=getD_in (by rw[zf];lia);have:=Y6 _ h;exact⟨Xk k _ h,by rw[len_app];lia⟩
 .have h:Lx.getD (c / 3 % 8).toNat ""∈Lx:=getD_in (by show _<8;lia);have l:∀b∈Lx,b.length<=80:=by
   have:Lx.all (λb=>decide (b.length<=80))=true:=by decide +kernel
   exact λb h=>bi (aR.mp this b h)
  exact⟨Wj _ h,aG (l _ h) (by decide)⟩
def Qo:Ok P w K mg base 1 "_law_no_ask" ["_law_text","_law_cell"] (q8 K (lU cW cR cBT) (λas=>∃t c,as=[.str t,.int c]/\t.length<=810) λas=>match as with|[.str t,.int c]=>.str (Xp t c)|_=>.non):=by
 refine ZW T.Sv oY (λ_ ⟨a,b,h,_⟩=>h▸rfl) (λf g A o s H E x=>⟨_,(rQ (qy (i:=2) oY.nd rfl k4 (qL (iW jf (iW jf (iW jf (iW jf (iW jf (iW jf (iW jf lM iY) iY) iY) iY) iY) iY) iY))) (rQ (qy (i:=2) oY.nd rfl k4 (K9 (lL (xv 2)) (qL (iW jf (iW jf (iW jf (iW jf (iW jf lM iY) iY) iY) iY) iY)))) (rQ (qy (i:=2) oY.nd rfl k4 (K9 (lL (xv 2)) (qL (iW jf (iW jf (iW jf (iW jf (iW jf lM iY) iY) iY) iY) iY)))) (Zk (qy (i:=2) oY.nd rfl k4 (K9 (lL (xv 2)) (qL (iW Z3 lM zM)))) (iR (jn (Dw (jE (xn 1) iT) iT) (iV (jb (jq (jX (jd (xv 2) (jE (kj (xn 1) iT) iT) (λ_ _=>rfl))) (xs 0)))) je) (K3 (Zk (qy (i:=3) oY.nd rfl k4 (qL (iW jf (iW jf (iW jf (iW jf (iW jf (iW jf (iW jf (iW jf lM iY) iY) iY) iY) iY) iY) iY) iY))) (iV (jb (jX (jd (xv 3) (jE (kj (xn 1) iT) iT) (λ_ _=>rfl)))))))))))),λas k=>?_⟩)
 obtain⟨t,c,rfl,y⟩:=k;have m:=aS (c / 3) (show(18:Int)≠0 by decide);have n:=aH (c / 3) (show(0:Int)<18 by decide);have r:=aS (c / 3) (show(8:Int)≠0 by decide);have u:=aH (c / 3) (show(0:Int)<8 by decide);have l:("parts by ":Str).length=9:=by decide +kernel
 have v:(" of ":Str).length=4:=by decide +kernel
 refine⟨by repeat (first|exact tT|refine⟨tT,?_⟩),λp e=>?_⟩
 replace e:p=.lst (Ig.map PV.str):=e;subst e;refine iZ (ρ':=[.fr (.str t),k6 c,.fr (.lst (Ig.map PV.str)),.un]) rfl ?_;refine⟨⟨⟨rfl,rfl⟩,by repeat (first|exact tT|refine⟨tT,?_⟩),by show 7+5<=sizeLine;rw[ao];decide⟩,λp e=>?_⟩
 replace e:p=.lst ((Ig++OJ).map PV.str):=by rw[cY];exact e
 subst e;refine iZ (ρ':=[.fr (.str t),k6 c,.fr (.lst ((Ig++OJ).map PV.str)),.un]) rfl ?_;refine⟨⟨⟨rfl,rfl⟩,by repeat (first|exact tT|refine⟨tT,?_⟩),by show 12+5<=sizeLine;rw[ao];decide⟩,λp e=>?_⟩
 replace e:p=.lst ((Ig++OJ++Vx).map PV.str):=by rw[cY];exact e
 subst e;refine iZ (ρ':=[.fr (.str t),k6 c,.fr (.lst ((Ig++OJ++Vx).map PV.str)),.un]) rfl ?_;refine⟨⟨⟨rfl,rfl⟩,⟨⟨⟨tT,⟨tT,tT,Tu⟩,?_⟩,tT,?_⟩,tT⟩,by show 17+1<=sizeLine;rw[ao];decide⟩,λp e=>?_⟩
 .show("parts by ":Str).length+(j8 "1" 61).length<=sizeLine;rw[l,Sx,ao];decide
 .show(("parts by ":Str)++j8 "1" 61).length+(" of ":Str).length<=sizeLine;rw[len_app,l,v,Sx,ao];decide
 replace e:p=.lst (noA.map PV.str):=by unfold noA;rw[cY];exact e
 subst e;refine iZ (ρ':=[.fr (.str t),k6 c,.fr (.lst (noA.map PV.str)),.un]) rfl ?_;refine⟨⟨⟨rfl,tT,by show(0:Int)<3;decide⟩,tT⟩,λq=>?_,λq=>?_⟩
 .have q:c % 3 > 0:=q;have j:noA.getD (c / 3 % 18).toNat ""∈noA:=getD_in (by rw[zf];lia);have bl:=Y6 _ j;have d:pW (.lst (noA.map PV.str)) (c / 3 % 18)=.str (noA.getD (c / 3 % 18).toNat ""):=xJ m (by rw[zf];exact n);refine⟨⟨⟨⟨rfl,⟨⟨rfl,tT,by show(0:Int)<3;decide,by show(3:Int).natAbs.log2<9000;decide +kernel⟩,tT,by show(0:Int)<18;decide⟩,?_⟩,?_⟩,rfl,?_⟩,?_⟩
  .show -((noA.map PV.str).length:Int)<=c / 3 % 18/\c / 3 % 18<((noA.map PV.str).length:Int);rw[ae,zf];lia
  .show pW (.lst (noA.map PV.str)) (c / 3 % 18)=.str (GR (pW (.lst (noA.map PV.str)) (c / 3 % 18)));rw[d];rfl
  .show(GR (pW (.lst (noA.map PV.str)) (c / 3 % 18))).length+t.length<=sizeLine;rw[d];show(noA.getD (c / 3 % 18).toNat "").length+t.length<=sizeLine;rw[ao];lia
  .show PV.str (GR (pW (.lst (noA.map PV.str)) (c / 3 % 18))++t)=PV.str (Xp t c);rw[d];unfold Xp;rw[ai q];rfl
 .have q:¬c % 3 > 0:=q;refine⟨by repeat (first|exact tT|refine⟨tT,?_⟩),λp e=>?_⟩
  replace e:p=.lst (Lx.map PV.str):=e;subst e;have d:pW (.lst (Lx.map PV.str)) (c / 3 % 8)=.str (Lx.getD (c / 3 % 8).toNat ""):=xJ r u;refine iZ (ρ':=[.fr (.str t),k6 c,.fr (.lst (noA.map PV.str)),.fr (.lst (Lx.map PV.str))]) rfl ?_;refine⟨⟨⟨rfl,⟨⟨rfl,tT,by show(0:Int)<3;decide,by show(3:Int).natAbs.log2<9000;decide +kernel⟩,tT,by show(0:Int)<8;decide⟩,?_⟩,?_⟩,?_⟩
  .show -((8:Nat):Int)<=c / 3 % 8/\c / 3 % 8<((8:Nat):Int);lia
  .show pW (.lst (Lx.map PV.str)) (c / 3 % 8)=.str (GR (pW (.lst (Lx.map PV.str)) (c / 3 % 8)));rw[d];rfl
  .show PV.str (GR (pW (.lst (Lx.map PV.str)) (c / 3 % 8)))=PV.str (Xp t c);rw[d];unfold Xp;rw[ag q];rfl
def pN (l:List (Str×Int))(i:Int):Str×Int:=l.getD i.toNat ("",0)
def yt {l:List (Str×Int)}{i:Int}(h0:0<=i)(h:i<(l.length:Int)):pN l i∈l:=by unfold pN;rw[gQ,aa (by lia)];exact bI _
def Rn {l:List (Str×Int)}{i:Int}:(l.map λq=>q.1).getD i.toNat ("":Str)=(pN l i).1:=by unfold pN;rw[gQ,gQ,aE];cases l[i.toNat]? <;> rfl
def R8 {l:List (Str×Int)}{i:Int}(h0:0<=i)(a:i<(l.length:Int)):pW (.lst (l.map λq=>.int q.2)) i=.int (pN l i).2:=by
 obtain⟨n,rfl⟩:=bc h0;have h:n<l.length:=by lia
 show(l.map λq=>PV.int q.2).getD (jR (l.map λq=>PV.int q.2).length (n:Int)) .non=_;have e:jR (l.map λq=>PV.int q.2).length (n:Int)=n:=by unfold jR;rw[ai (by lia)];rfl
 rw[e];unfold pN;rw[gQ,gQ,aE,show((n:Int)).toNat=n from rfl,aa h];rfl
def JD (q:Str×Int):PV:=.tup [.str q.1,.int q.2]
def ac4 {l:List (Str×Int)}{i:Int}(h0:0<=i)(a:i<(l.length:Int)):pW (.lst (l.map JD)) i=JD (pN l i):=by
 obtain⟨n,rfl⟩:=bc h0;have h:n<l.length:=by lia
 show(l.map JD).getD (jR (l.map JD).length (n:Int)) .non=_;have e:jR (l.map JD).length (n:Int)=n:=by unfold jR;rw[ai (by lia)];rfl
 rw[e];unfold pN;rw[gQ,gQ,aE,show((n:Int)).toNat=n from rfl,aa h];rfl
def jZ (t:Str)(c:Int):Str×Int:=if c % 3=0 then((pN JF (c / 3 % 8)).1++t,(pN JF (c / 3 % 8)).2) else if c % 3=1 then(t++(pN GX (c / 3 % 12)).1,(t.length:Int)+(pN GX (c / 3 % 12)).2) else pN WK (c / 3 % 8)
def Hc:(∀q∈JF,q.1.length<=10)/\(∀q∈GX,q.1.length<=10)/\∀q∈WK,q.1.length<=10:=by
 have:(JF.all (λq=>decide (q.1.length<=10)) && GX.all (λq=>decide (q.1.length<=10)) && WK.all (λq=>decide (q.1.length<=10)))=true:=by decide +kernel
 rw[bj,bj]at this;exact⟨λq h=>bi (aR.mp this.1.1 q h),λq h=>bi (aR.mp this.1.2 q h),λq h=>bi (aR.mp this.2 q h)⟩
section
variable (c:Int)
def m8:0<=c / 3 % 8/\c / 3 % 8<8:=⟨aS _ (by decide),aH _ (by decide)⟩
def m12:0<=c / 3 % 12/\c / 3 % 12<12:=⟨aS _ (by decide),aH _ (by decide)⟩
end
def sJ (t:Str)(c:Int):(jZ t c).1.length<=t.length+10:=by
 have a:=Hc.1 _ (yt (l:=JF) (m8 c).1 (m8 c).2);have b:=Hc.2.1 _ (yt (l:=GX) (m12 c).1 (m12 c).2);have d:=Hc.2.2 _ (yt (l:=WK) (m8 c).1 (m8 c).2);unfold jZ;split
 .show(_++t).length<=_;rw[len_app];lia
 .split
  .show(t++_).length<=_;rw[len_app];lia
  .lia
def Xi {t:Str}(k:Core 1 t.cps.toList)(c:Int):Bad (jZ t c):=by
 unfold jZ;split
 .exact aao k.sg _ (yt (m8 c).1 (m8 c).2)
 .split
  .exact aap k _ (yt (m12 c).1 (m12 c).2)
  .exact aaK _ (yt (m8 c).1 (m8 c).2)
def Ks:Ok P w K mg base 1 "_law_bad" ["_law_text","_law_cell"] (q8 K (lU cW cR cBT) (λas=>∃t c,as=[.str t,.int c]/\t.length<=810) λas=>match as with|[.str t,.int c]=>JD (jZ t c)|_=>.non):=by
 refine ZW T.ab8 Gp (λ_ ⟨a,b,h,_⟩=>h▸rfl) (λf x A r s H E C=>⟨_,(rQ (PN (ji (i:=2) Gp.nd rfl k4 (jE (xn 1) iT))) (rQ (MP (mQ (xn 2) iT) (rQ (qy (i:=3) Gp.nd rfl k4 (uZ (qL (iW jf (iW jf (iW jf (iW jf (iW jf (iW jf (iW jf (iW jf lM iY) iY) iY) iY) iY) iY) iY) iY)) (jE (kj (xn 1) iT) iT) (λ_ _=>rfl))) (Ku (uG (iW (Va (jq (xs 3) (xs 0))) (iW (uZ (qL (iW jT (iW jT (iW jT (iW jT (iW jT (iW jT (iW jT (iW jT lM iY) iY) iY) iY) iY) iY) iY) iY)) (jE (kj (xn 1) iT) iT) (λ_ _=>rfl)) lM ZJ) zM)))) Sd) (rQ (MP (mQ (xn 2) iT) (rQ (qy (i:=4) Gp.nd rfl k4 (uZ (qL (iW jf (iW jf (iW jf (iW jf (iW jf (iW jf (iW jf (iW jf (iW jf (iW jf (iW jf (iW jf lM iY) iY) iY) iY) iY) iY) iY) iY) iY) iY) iY) iY)) (jE (kj (xn 1) iT) iT) (λ_ _=>rfl))) (Ku (uG (iW (Va (jq (xs 0) (xs 4))) (iW (Z0 (uo T.jO (xs 0)) (uZ (qL (iW jT (iW jT (iW jT (iW jT (iW jT (iW jT (iW jT (iW jT (iW jT (iW jT (iW jT (iW jT lM iY) iY) iY) iY) iY) iY) iY) iY) iY) iY) iY) iY)) (jE (kj (xn 1) iT) iT) (λ_ _=>rfl))) lM zM) zM)))) Sd) (Ku (uZ (qL (iW (uG (iW jf (iW jT lM iY) iY)) (iW (uG (iW jf (iW jT lM iY) iY)) (iW (uG (iW jf (iW jT lM iY) iY)) (iW (uG (iW jf (iW jT lM iY) iY)) (iW (uG (iW jf (iW jT lM iY) iY)) (iW (uG (iW jf (iW jT lM iY) iY)) (iW (uG (iW jf (iW jT lM iY) iY)) (iW (uG (iW jf (iW jT lM iY) iY)) lM sG) sG) sG) sG) sG) sG) sG) sG)) (jE (kj (xn 1) iT) iT) (λ_ _=>rfl)))))),λas y=>?_⟩)
 obtain⟨t,c,rfl,D⟩:=y;obtain⟨n,k⟩:=m8 c;obtain⟨p,o⟩:=m12 c;have z:=Hc.1 _ (yt (l:=JF) n k);have B:=Hc.2.1 _ (yt (l:=GX) p o);refine⟨⟨rfl,tT,by show(0:Int)<3;decide⟩,λw v=>?_⟩;replace v:w=c % 3:=v;refine iZ (ρ':=[.fr (.str t),k6 c,k6 w,.un,.un]) rfl ?_;refine⟨⟨rfl,tT⟩,λq=>?_,λq=>?_⟩
 .have q:w=0:=q;have j:jZ t c=((pN JF (c / 3 % 8)).1++t,(pN JF (c / 3 % 8)).2):=ai (by lia);refine⟨⟨by repeat (first|exact tT|refine⟨tT,?_⟩),⟨⟨rfl,tT,by show(0:Int)<3;decide,by show(3:Int).natAbs.log2<9000;decide +kernel⟩,tT,by show(0:Int)<8;decide⟩,⟨by show -((8:Nat):Int)<=c / 3 % 8;lia,k⟩⟩,λu e=>?_⟩
  replace e:u=.str (pN JF (c / 3 % 8)).1:=dm (show u=pW (.lst ((JF.map λq=>q.1).map PV.str)) (c / 3 % 8) from e) ((xJ (l:=JF.map λq=>q.1) n k).trans (congrArg PV.str Rn));have d:=R8 (l:=JF) n k;generalize pN JF (c / 3 % 8)=g at e d z j;subst e;refine iZ (ρ':=[.fr (.str t),k6 c,k6 w,.fr (.str g.1),.un]) rfl ?_;refine⟨⟨⟨rfl,rfl,by show g.1.length+t.length<=sizeLine;rw[ao];lia⟩,⟨by repeat (first|exact tT|refine⟨tT,?_⟩),⟨⟨rfl,tT,by show(0:Int)<3;decide,by show(3:Int).natAbs.log2<9000;decide +kernel⟩,tT,by show(0:Int)<8;decide⟩,?_⟩,tT⟩,?_⟩
  .show -((8:Nat):Int)<=c / 3 % 8/\c / 3 % 8<((8:Nat):Int);lia
  .show PV.tup [.str (g.1++t),pW (.lst (JF.map λq=>.int q.2)) (c / 3 % 8)]=JD (jZ t c);rw[d,j];rfl
 have q:¬w=0:=q;refine⟨⟨rfl,tT⟩,λm=>?_,λm=>?_⟩
 .have m:w=1:=m;have j:jZ t c=(t++(pN GX (c / 3 % 12)).1,(t.length:Int)+(pN GX (c / 3 % 12)).2):=(ag (by lia)).trans (ai (by lia));refine⟨⟨by repeat (first|exact tT|refine⟨tT,?_⟩),⟨⟨rfl,tT,by show(0:Int)<3;decide,by show(3:Int).natAbs.log2<9000;decide +kernel⟩,tT,by show(0:Int)<12;decide⟩,⟨by show -((12:Nat):Int)<=c / 3 % 12;lia,o⟩⟩,λu e=>?_⟩
  replace e:u=.str (pN GX (c / 3 % 12)).1:=dm (show u=pW (.lst ((GX.map λq=>q.1).map PV.str)) (c / 3 % 12) from e) ((xJ (l:=GX.map λq=>q.1) p o).trans (congrArg PV.str Rn));have d:=R8 (l:=GX) p o;generalize pN GX (c / 3 % 12)=g at e d B j;subst e;refine iZ (ρ':=[.fr (.str t),k6 c,k6 w,.un,.fr (.str g.1)]) rfl ?_;refine⟨⟨⟨rfl,rfl,by show t.length+g.1.length<=sizeLine;rw[ao];lia⟩,⟨⟨rfl,by show t.length<=sizeLine;rw[ao];lia⟩,⟨by repeat (first|exact tT|refine⟨tT,?_⟩),⟨⟨rfl,tT,by show(0:Int)<3;decide,by show(3:Int).natAbs.log2<9000;decide +kernel⟩,tT,by show(0:Int)<12;decide⟩,?_⟩,?_⟩,tT⟩,?_⟩
  .show -((12:Nat):Int)<=c / 3 % 12/\c / 3 % 12<((12:Nat):Int);lia
  .show pW (.lst (GX.map λq=>.int q.2)) (c / 3 % 12)=.int (QQ (pW (.lst (GX.map λq=>.int q.2)) (c / 3 % 12)));rw[d];rfl
  .show PV.tup [.str (t++g.1),.int ((t.length:Int)+QQ (pW (.lst (GX.map λq=>.int q.2)) (c / 3 % 12)))]=JD (jZ t c);rw[d,j];rfl
 .have m:¬w=1:=m;have j:jZ t c=pN WK (c / 3 % 8):=(ag (by lia)).trans (ag (by lia));have d:=ac4 (l:=WK) n k;refine⟨⟨?_,⟨⟨rfl,tT,by show(0:Int)<3;decide,by show(3:Int).natAbs.log2<9000;decide +kernel⟩,tT,by show(0:Int)<8;decide⟩,?_⟩,?_⟩
  .repeat (first|exact tT|exact⟨tT,tT,tT⟩|refine⟨⟨tT,tT,tT⟩,?_⟩)
  .show -((8:Nat):Int)<=c / 3 % 8/\c / 3 % 8<((8:Nat):Int);lia
  .show pW (.lst (WK.map JD)) (c / 3 % 8)=JD (jZ t c);rw[d,j]
def pL:List Int:=[2,3,5,7,101,9973]
structure Fy (p:Int):Prop where
 pr:zW p
 no:111∉(jA p).cps.toList
 fig:Br (jA p) 60=true
 nz:PySem.Txt.startswith (jA p) "0"=false
 int:(intText? (jA p)).getD 0=p
 len:(jA p).length<=4
def acO:∀p∈pL,Fy p:=by
 have i:pL.all (λp=>!(jA p).cps.toList.contains 111 && Br (jA p) 60 && !PySem.Txt.startswith (jA p) "0" && decide ((intText? (jA p)).getD 0=p) && decide ((jA p).length<=4))=true:=by decide +kernel
 have j:pL.all (λn=>decide (2<=n) && decide (n<=9973) && ((List.range 100).all λk=>decide (k<2\/¬n % (k:Int)=0\/n<(k:Int)*(k:Int))))=true:=by decide +kernel
 intro p c;have b:=aR.mp i p c;have h:=aR.mp j p c;simp only[bj,bM,Bool.not_eq_true']at b;rw[bj,bj,bM,bM]at h;obtain⟨⟨⟨⟨a,d⟩,e⟩,f⟩,g⟩:=b;exact⟨Mf h.1.1 h.1.2 h.2,(λz=>by rw[bZ.mpr z]at a;cases a),d,e,f,g⟩
def Fy.by {cBA cNP cNN:Addr}{p:Int}(h:Fy p)(X:Str):uA cBA cNP cNN (("parts by ":Str)++jA p++" of "++X)=Zt cNN (λns=>decide (Tz p ns=[])) (jD X):=by
 rw[jo,jo,wZ,Ew h.no];unfold Ui;rw[ag (by
  rintro (z|z)
  .exact absurd (show(" of ":Str)="" from z) (by decide +kernel)
  .exact z h.fig),ag (by rw[h.nz];decide),h.int,ai h.pr]
def JG (t:Str)(c m p:Int):Str×Int:=if m % 5=0 then(("parts of ":Str)++(jZ t c).1,(jZ t c).2) else if m % 5=1 then(("parts by ":Str)++jA p++" of "++(jZ t c).1,(jZ t c).2) else
 if m % 5=2 then(("common of ":Str)++(jZ t c).1++" and "++t,(jZ t c).2) else if m % 5=3 then(("common of ":Str)++t++" and "++(jZ t c).1,(jZ t c).2) else(("common of ":Str)++(jZ t c).1++" and "++(jZ "x" (m / 5)).1,(jZ t c).2)
def ad2 {cBA cNP cNN:Addr}{t:Str}(k:Core 1 t.cps.toList)(c m:Int){p:Int}(h:Fy p):uA cBA cNP cNN (JG t c m p).1=.err (2*(JG t c m p).2.toNat+1:Nat)/\0<=(JG t c m p).2:=by
 have B:=Xi k c;have b:=qK B.rd;have n:97∉t.cps.toList:=λz=>by have:=k.sg 97 z;rw[Sq]at this;cases this
 obtain⟨e,d,_⟩:=S5.ok (p:=1) (t:=t) ⟨0,0,t.cps.toList,by simp,k⟩;unfold JG;generalize jZ t c=q at B b;split
 .refine⟨?_,b⟩;show uA cBA cNP cNN (("parts of ":Str)++q.1)=_;rw[Ra];unfold R4;rw[B.rd];rfl
 .split
  .refine⟨?_,b⟩;show uA cBA cNP cNN (("parts by ":Str)++jA p++" of "++q.1)=_;rw[h.by,B.rd];rfl
  .have a:∀X:Str,GK cBA (q.1++(" and "++X))=.err (2*q.2.toNat+1:Nat):=λX=>by
    unfold GK;rw[MJ B.no,ag (λz=>absurd (show(" and ":Str)="" from z) (by decide +kernel))];show(match jD q.1 with | .inl z=>Rs.err (2*z.toNat+1:Nat) | .inr _=>_)=_
    rw[B.rd]
   split
   .refine⟨?_,b⟩;show uA cBA cNP cNN (("common of ":Str)++q.1++" and "++t)=_;rw[jo,jo,xV,a]
   .split
    .refine⟨?_,b⟩;show uA cBA cNP cNN (("common of ":Str)++t++" and "++q.1)=_;rw[jo,jo,xV];unfold GK;rw[MJ n,ag (λz=>absurd (show(" and ":Str)="" from z) (by decide +kernel))];show(match jD t with | .inl z=>Rs.err (2*z.toNat+1:Nat) | .inr _=>match jD q.1 with | .inl z=>Rs.err (2*z.toNat+1:Nat) | .inr _=>.val .non)=_
     rw[d,B.rd]
    .refine⟨?_,b⟩;show uA cBA cNP cNN (("common of ":Str)++q.1++" and "++(jZ "x" (m / 5)).1)=_;rw[jo,jo,xV,a]
def yG:Ok P w K mg base 2 "_law_bad_question" ["_law_text","_law_cell","_law_more","_law_prime"] (q8 K (lU cW cR cBT) (λas=>∃t c m p,as=[.str t,.int c,.int m,.int p]/\t.length<=810/\Fy p) λas=>match as with|[.str t,.int c,.int m,.int p]=>JD (JG t c m p)|_=>.non):=by
 refine uV T.zL my (λ_ ⟨a,b,c,d,h,_⟩=>h▸rfl) (λf x A o s H E u=>⟨_,(iR (Od (xc (Ks T) u (iQ (xs 0) (iQ (xn 1) iU))) (pg_tup rfl (pgs_cons (pg_name (i:=4) my.nd rfl k4) (pgs_cons (pg_name (i:=5) my.nd rfl k4) pgs_nil)))) (iR (ji (i:=6) my.nd rfl k4 (jE (xn 2) iT)) (iR (jn (mQ (xn 6) iT) (iV (jb (mH (iQ (jq jc (xs 4)) (iQ (xn 5) iU))))) je) (iR (jn (mQ (xn 6) iT) (iV (jb (mH (iQ (jq (jq (jq jc (tG T.yq (xn 3))) jc) (xs 4)) (iQ (xn 5) iU))))) je) (iR (jn (mQ (xn 6) iT) (iV (jb (mH (iQ (jq (jq (jq jc (xs 4)) jc) (xs 0)) (iQ (xn 5) iU))))) je) (iR (jn (mQ (xn 6) iT) (iV (jb (mH (iQ (jq (jq (jq jc (xs 0)) jc) (xs 4)) (iQ (xn 5) iU))))) je) (iV (jb (mH (iQ (jq (jq (jq jc (xs 4)) jc) (jX (jd (xc (Ks T) u (iQ jc (iQ (kj (xn 2) iT) iU))) iT (λ_ _=>rfl)))) (iQ (xn 5) iU))))))))))),λas j=>?_⟩)
 obtain⟨t,c,m,p,rfl,D,j⟩:=j;have C:=sJ t c;have xl:=sJ "x" (m / 5);have z:("x":Str).length=1:=by decide +kernel
 have pl:=j.len;have B:(p.natAbs:Int)<10^110:=by have:=j.pr.1;have:=j.pr.2.1;rw[cw (by lia)];exact d8 (show p<10000 by lia) (by decide +kernel)
 have e:JG t c m p=if m % 5=0 then(("parts of ":Str)++(jZ t c).1,(jZ t c).2) else if m % 5=1 then(("parts by ":Str)++jA p++" of "++(jZ t c).1,(jZ t c).2) else
  if m % 5=2 then(("common of ":Str)++(jZ t c).1++" and "++t,(jZ t c).2) else if m % 5=3 then(("common of ":Str)++t++" and "++(jZ t c).1,(jZ t c).2) else(("common of ":Str)++(jZ t c).1++" and "++(jZ "x" (m / 5)).1,(jZ t c).2):=rfl
 refine⟨⟨⟨rfl,rfl,tT⟩,t,c,rfl,D⟩,.str (jZ t c).1,.int (jZ t c).2,rfl,?_⟩;generalize jZ t c=q at C e;have y:("parts of ":Str).length=9:=by decide +kernel
 have n:("parts by ":Str).length=9:=by decide +kernel
 have l:("common of ":Str).length=10:=by decide +kernel
 have v:(" of ":Str).length=4:=by decide +kernel
 have g:(" and ":Str).length=5:=by decide +kernel
 refine iZ (ρ':=[.fr (.str t),k6 c,k6 m,k6 p,.fr (.str q.1),k6 q.2,.un]) rfl ?_;refine⟨⟨rfl,tT,by show(0:Int)<5;decide⟩,λw k=>?_⟩;replace k:w=m % 5:=k;rw[<- k]at e;refine iZ (ρ':=[.fr (.str t),k6 c,k6 m,k6 p,.fr (.str q.1),k6 q.2,k6 w]) rfl ?_;refine⟨⟨rfl,tT⟩,λh=>?_,λh=>?_⟩
 .have h:w=0:=h;rw[ai h]at e;refine⟨⟨⟨tT,rfl,by show("parts of ":Str).length+q.1.length<=sizeLine;rw[y,ao];lia⟩,rfl,tT⟩,?_⟩;show _=JD (JG t c m p);rw[e];rfl
 have h:¬w=0:=h;rw[ag h]at e;refine⟨⟨rfl,tT⟩,λh=>?_,λh=>?_⟩
 .have h:w=1:=h;rw[ai h]at e;refine⟨⟨⟨⟨⟨tT,⟨rfl,Av B⟩,by show("parts by ":Str).length+(jA p).length<=sizeLine;rw[n,ao];lia⟩,tT,by show(("parts by ":Str)++jA p).length+(" of ":Str).length<=sizeLine;rw[len_app,n,v,ao];lia⟩,rfl,by show(("parts by ":Str)++jA p++" of ").length+q.1.length<=sizeLine;rw[len_app,len_app,n,v,ao];lia⟩,rfl,tT⟩,?_⟩;show _=JD (JG t c m p);rw[e];rfl
 have h:¬w=1:=h;rw[ag h]at e;refine⟨⟨rfl,tT⟩,λh=>?_,λh=>?_⟩
 .have h:w=2:=h;rw[ai h]at e;refine⟨⟨⟨⟨⟨tT,rfl,by show("common of ":Str).length+q.1.length<=sizeLine;rw[l,ao];lia⟩,tT,by show(("common of ":Str)++q.1).length+(" and ":Str).length<=sizeLine;rw[len_app,l,g,ao];lia⟩,rfl,by show(("common of ":Str)++q.1++" and ").length+t.length<=sizeLine;rw[len_app,len_app,l,g,ao];lia⟩,rfl,tT⟩,?_⟩;show _=JD (JG t c m p);rw[e];rfl
 have h:¬w=2:=h;rw[ag h]at e;refine⟨⟨rfl,tT⟩,λh=>?_,λh=>?_⟩
 .have h:w=3:=h;rw[ai h]at e;refine⟨⟨⟨⟨⟨tT,rfl,by show("common of ":Str).length+t.length<=sizeLine;rw[l,ao];lia⟩,tT,by show(("common of ":Str)++t).length+(" and ":Str).length<=sizeLine;rw[len_app,l,g,ao];lia⟩,rfl,by show(("common of ":Str)++t++" and ").length+q.1.length<=sizeLine;rw[len_app,len_app,l,g,ao];lia⟩,rfl,tT⟩,?_⟩;show _=JD (JG t c m p);rw[e];rfl
 have h:¬w=3:=h;rw[ag h]at e;generalize r:jZ "x" (m / 5)=b at xl e;refine⟨⟨⟨⟨⟨tT,rfl,by show("common of ":Str).length+q.1.length<=sizeLine;rw[l,ao];lia⟩,tT,by show(("common of ":Str)++q.1).length+(" and ":Str).length<=sizeLine;rw[len_app,l,g,ao];lia⟩,⟨⟨⟨⟨tT,⟨rfl,tT,by show(0:Int)<5;decide,by show(5:Int).natAbs.log2<9000;decide +kernel⟩,tT⟩,_,_,rfl,by show("x":Str).length<=810;rw[z];decide⟩,tT,?_⟩,?_⟩,?_⟩,rfl,tT⟩,?_⟩
 .exact X4
 .show PV.str (jZ "x" (m / 5)).1=PV.str (jZ "x" (m / 5)).1;rfl
 .show(("common of ":Str)++q.1++" and ").length+(jZ "x" (m / 5)).1.length<=sizeLine;rw[r,len_app,len_app,l,g,ao];lia
 .show PV.tup [.str (("common of ":Str)++q.1++" and "++(jZ "x" (m / 5)).1),.int q.2]=JD (JG t c m p);rw[r,e];rfl
def BR:List Str:=["0","x - x","0x^40"," 0 + 0x ","3 - 2 - 1","-0","+0x^0"]
def T9:∀t∈BR,jD t=.inr []/\t.length<=20:=by
 have:BR.all (λt=>decide (jD t=.inr []) && decide (t.length<=20))=true:=by decide +kernel
 intro t a;have h:=aR.mp this t a;rw[bj,bM,bM]at h;exact h
def Yu (r:List Int)(c p:Int):Str:=if c % 3=0 then("parts of ":Str)++BR.getD (c / 3 % 7).toNat "" else if c % 3=1 then("parts by ":Str)++jA p++" of "++BR.getD (c / 3 % 7).toNat "" else("parts by ":Str)++jA p++" of "++Qs (r.map λm=>p*m) (c / 3)
def m7 (c:Int):0<=c / 3 % 7/\c / 3 % 7<7:=⟨aS _ (by decide),aH _ (by decide)⟩
def YG {r:Li}(R:vC 1 r)(c:∀x∈r,x.natAbs<=63000000){p:Int}(b:Fy p):vC p (r.map λm=>p*m):=by
 have d:=b.pr.1;have e:=b.pr.2.1;refine⟨by rw[ae];exact R.l1,by rw[ae];exact R.l8,λx h=>?_,λx h=>?_⟩
 .obtain⟨m,a,rfl⟩:=dB.mp h;rw[Int.natAbs_mul];refine bW (f8 (show p.natAbs<=9973 by lia) (c m a)) (by decide +kernel)
 .obtain⟨m,a,rfl⟩:=dB.mp h;exact Int.dvd_mul_right p m
def acJ {cBA cNP cNN:Addr}{r:Li}(R:vC 1 r)(d:∀x∈r,x.natAbs<=63000000)(c:Int){p:Int}(h:Fy p):uA cBA cNP cNN (Yu r c p)=.err (2*cNN)/\(Yu r c p).length<=900:=by
 have a:=T9 _ (getD_in (l:=BR) (i:=(c / 3 % 7).toNat) (by show _<7;have:=m7 c;lia));have j:("parts of ":Str).length=9:=by decide +kernel
 have k:("parts by ":Str).length=9:=by decide +kernel
 have m:(" of ":Str).length=4:=by decide +kernel
 have pl:=h.len;have o:=h.pr.1;unfold Yu;split
 .refine⟨?_,by rw[len_app];lia⟩;rw[Ra];unfold R4;rw[a.1];rfl
 .split
  .refine⟨?_,by rw[len_app,len_app,len_app];lia⟩;rw[h.by,a.1];rfl
  .obtain⟨b,g⟩:=Ko (YG R d h) (c / 3);refine⟨?_,by rw[len_app,len_app,len_app];lia⟩;obtain⟨n,f,e⟩:=S5.ok b;rw[h.by,f];unfold Zt;exact ai (aQ (aaf (by lia) e))
def uT:Ok P w K mg base 3 "_law_nought_question" ["_law_row","_law_cell","_law_prime"] (q8 K (lU cW cR cBT) (λas=>∃r c p,as=[.ints r,.int c,.int p]/\vC 1 r/\(∀x∈r,x.natAbs<=63000000)/\Fy p) λas=>match as with|[.ints r,.int c,.int p]=>.str (Yu r c p)|_=>.non):=by
 refine ZW T.vY pA (λ_ ⟨a,b,c,h,_⟩=>h▸rfl) (λf G A B s H E L=>⟨_,(rQ (qy (i:=3) pA.nd rfl k4 (qL (iW jf (iW jf (iW jf (iW jf (iW jf (iW jf (iW jf lM iY) iY) iY) iY) iY) iY) iY))) (rQ (PN (jn (mQ (jE (xn 1) iT) iT) (iV (jb (jq jc (jX (jd (xv 3) (jE (kj (xn 1) iT) iT) (λ_ _=>rfl)))))) je)) (rQ (PN (jn (mQ (jE (xn 1) iT) iT) (iV (jb (jq (jq (jq jc (tG T.yq (xn 2))) jc) (jX (jd (xv 3) (jE (kj (xn 1) iT) iT) (λ_ _=>rfl)))))) je)) (psi (iV (jb (jq (jq (jq jc (tG T.yq (xn 2))) jc) (jX (xc (Io T) L (iQ (j9 (Ao (N':=["_law_number","_law_prime"]) (cap:=[some 2]) (oH rfl rfl rfl rfl ⟨⟨rfl,.inr (.inl rfl),JC,.inl rfl,_,rfl,rfl⟩,tT⟩ ⟨rfl,tT⟩ rfl) rfl (xl 0) (λ_ _ _=>(qD 0)) (λ_ _ _=>(o6 (xn 1) (xn 0))))) (iQ (kj (xn 1) iT) iU))))))))))),λas g=>?_⟩)
 obtain⟨r,c,p,rfl,R,I,g⟩:=g;obtain⟨M,N⟩:=m7 c;have J:=T9 _ (getD_in (l:=BR) (i:=(c / 3 % 7).toNat) (by show _<7;lia));have O:("parts of ":Str).length=9:=by decide +kernel
 have t:("parts by ":Str).length=9:=by decide +kernel
 have z:(" of ":Str).length=4:=by decide +kernel
 have pl:=g.len;have p1:=g.pr.1;have p2:=g.pr.2.1;have F:(p.natAbs:Int)<10^110:=by rw[cw (by lia)];exact d8 (show p<10000 by lia) (by decide +kernel)
 have o:=YG R I g;have Z:=(Ko o (c / 3)).2;have S:=R.l8;refine⟨by repeat (first|exact tT|refine⟨tT,?_⟩),λq y=>?_⟩
 replace y:q=.lst (BR.map PV.str):=y;subst y;have v:pW (.lst (BR.map PV.str)) (c / 3 % 7)=.str (BR.getD (c / 3 % 7).toNat ""):=xJ M N;have d:Yu r c p=if c % 3=0 then("parts of ":Str)++BR.getD (c / 3 % 7).toNat "" else if c % 3=1 then("parts by ":Str)++jA p++" of "++BR.getD (c / 3 % 7).toNat "" else("parts by ":Str)++jA p++" of "++Qs (r.map λm=>p*m) (c / 3):=rfl;generalize BR.getD (c / 3 % 7).toNat ""=u at v d J;have k:pR (.lst (BR.map PV.str)) (c / 3 % 7):=by show -((7:Nat):Int)<=c / 3 % 7/\c / 3 % 7<((7:Nat):Int);lia
 have j:pW (.lst (BR.map PV.str)) (c / 3 % 7)=.str (GR (pW (.lst (BR.map PV.str)) (c / 3 % 7))):=by rw[v];rfl
 have e:GR (pW (.lst (BR.map PV.str)) (c / 3 % 7))=u:=by rw[v];rfl
 refine iZ (ρ':=[k7 r,k6 c,k6 p,.fr (.lst (BR.map PV.str))]) rfl ?_;refine⟨⟨⟨rfl,tT,by show(0:Int)<3;decide⟩,tT⟩,λh=>?_,λh=>?_⟩
 .have h:c % 3=0:=h;rw[ai h]at d;refine⟨⟨tT,⟨⟨rfl,⟨⟨rfl,tT,by show(0:Int)<3;decide,by show(3:Int).natAbs.log2<9000;decide +kernel⟩,tT,by show(0:Int)<7;decide⟩,k⟩,j⟩,?_⟩,?_⟩
  .show("parts of ":Str).length+(GR (pW (.lst (BR.map PV.str)) (c / 3 % 7))).length<=sizeLine;rw[e,O,ao];lia
  .show PV.str (("parts of ":Str)++GR (pW (.lst (BR.map PV.str)) (c / 3 % 7)))=PV.str (Yu r c p);rw[e,d]
 have h:¬c % 3=0:=h;rw[ag h]at d;have C:("parts by ":Str).length+(jA p).length<=sizeLine:=by rw[t,ao];lia
 have D:(("parts by ":Str)++jA p).length+(" of ":Str).length<=sizeLine:=by rw[len_app,t,z,ao];lia
 refine⟨⟨⟨rfl,tT,by show(0:Int)<3;decide⟩,tT⟩,λh=>?_,λh=>?_⟩
 .have h:c % 3=1:=h;rw[ai h]at d;refine⟨⟨⟨⟨tT,⟨rfl,Av F⟩,C⟩,tT,D⟩,⟨⟨rfl,⟨⟨rfl,tT,by show(0:Int)<3;decide,by show(3:Int).natAbs.log2<9000;decide +kernel⟩,tT,by show(0:Int)<7;decide⟩,k⟩,j⟩,?_⟩,?_⟩
  .show(("parts by ":Str)++jA p++" of ").length+(GR (pW (.lst (BR.map PV.str)) (c / 3 % 7))).length<=sizeLine;rw[e,len_app,len_app,t,z,ao];lia
  .show PV.str (("parts by ":Str)++jA p++" of "++GR (pW (.lst (BR.map PV.str)) (c / 3 % 7)))=PV.str (Yu r c p);rw[e,d]
 have h:¬c % 3=1:=h;rw[ag h]at d;refine⟨⟨⟨⟨tT,⟨rfl,Av F⟩,C⟩,tT,D⟩,⟨⟨⟨⟨rfl,by show r.length<=1000;lia,λn Q=>⟨rfl,rfl,oO ⟨by show -(2:Int)^64<p;lia,by show p<(2:Int)^64;lia⟩⟩⟩,⟨rfl,tT,by show(0:Int)<3;decide,by show(3:Int).natAbs.log2<9000;decide +kernel⟩,tT⟩,_,_,rfl,⟨o.l1,o.l8,o.sm,λm _=>iO m⟩⟩,rfl⟩,?_⟩,?_⟩
 .show(("parts by ":Str)++jA p++" of ").length+(Qs (r.map λm=>p*m) (c / 3)).length<=sizeLine;rw[len_app,len_app,t,z,ao];lia
 .show PV.str (("parts by ":Str)++jA p++" of "++Qs (r.map λm=>p*m) (c / 3))=PV.str (Yu r c p);rw[d]
def R5:Ok P w K mg base 1 "_law_whole" ["_law_found"] (Ov K (lU cW cR cBT) (λas=>∃n,as=[.int n]) λ_=>true):=by refine uV T.Yw R7 (λ_ ⟨c,h⟩=>h▸rfl) (λf a A o s H E g=>⟨_,(iV (jb (JS (Ea T.jH (xv 0) (Fl (by rfl) T.yp rZ)) (pe_one (Z7 (Ea T.jH (xv 0) (Fl (by rfl) T.Zz XD))))))),λas e=>?_⟩);obtain⟨n,rfl⟩:=e;have b:vZ K (.int n) (.ty "int")=true:=Ai rfl rfl T.DN;have d:vZ K (.int n) (.ty "bool")=false:=Ai rfl rfl T.Ax;refine⟨⟨⟨rfl,tT,_,_,_,rfl,rfl,T.DN⟩,λ_=>⟨rfl,tT,_,_,_,rfl,rfl,T.Ax⟩⟩,?_⟩;show PV.bl (decide (vZ K (.int n) (.ty "int")=true/\¬vZ K (.int n) (.ty "bool")=true))=PV.bl true;rw[b,d];rfl
structure Cl9 (K:Fg)(cFE Y cNP cNW cNN cHP cBL cBP cBA cBT C:Addr)(i:Nat):Prop where
 lt:i<4
 k:uz K C
 fe:W.exmOne K (.ref C) (.ref cFE)=some true
 ve:W.kitOne K (.ref C) (.type "ValueError")=some true
 c0:W.kitOne K (.ref C) (.ref cBA)=some (i == 0)
 c1:W.kitOne K (.ref C) (.ref cNP)=some (i == 1)
 c2:W.kitOne K (.ref C) (.ref cBT)=some (i == 2)
 c3:W.kitOne K (.ref C) (.ref cNN)=some (i == 3)
 c4:W.kitOne K (.ref C) (.ref cBL)=some false
 c5:W.kitOne K (.ref C) (.ref cBP)=some false
 c6:W.kitOne K (.ref C) (.ref cHP)=some false
 c7:W.kitOne K (.ref C) (.ref Y)=some false
 c8:W.kitOne K (.ref C) (.ref cNW)=some false
def acw:Cl9 K cFE Y cNP cNW cNN cHP cBL cBP cBA cBT cBA 0:=⟨by decide,T.TQ,T.aeb,T.Xg,T.WM,T.W4,T.Yr,T.W8,T.Xu,T.WW,T.Ym,T.XM,T.Wm⟩
def acV:Cl9 K cFE Y cNP cNW cNN cHP cBL cBP cBA cBT cNP 1:=⟨by decide,T.O4,T.adF,T.X3,T.Wv,T.Xq,T.WR,T.Wu,T.X8,T.V4,T.W6,T.VD,T.Wg⟩
def ac5:Cl9 K cFE Y cNP cNW cNN cHP cBL cBP cBA cBT cBT 2:=⟨by decide,T.xm,T.adU,T.XJ,T.Wf,T.Yo,T.Ww,T.Wl,T.Yg,T.Xh,T.Yh,T.Yb,T.Xb⟩
def ack:Cl9 K cFE Y cNP cNW cNN cHP cBL cBP cBA cBT cNN 3:=⟨by decide,T.RW,T.aed,T.Xx,T.Xn,T.W5,T.WF,T.V0,T.XX,T.XH,T.VR,T.VH,T.VN⟩
def Hj (K:Fg)(Y cNP cNW cNN cHP cBL cBP cBA cBT:Addr):List PV->PV:=λb=>.lst ([cBA,cNP,cBT,cNN,cBL,cBP,cHP,Y,cNW].map λa=>.bl (decide (oA K cBT (b.headD .non) (.cls a)=true)))
def acX {cFE C:Addr}{i:Nat}{p:PV}(c:YJ cBT p=some C)(h:Cl9 K cFE Y cNP cNW cNN cHP cBL cBP cBA cBT C i):Hj K Y cNP cNW cNN cHP cBL cBP cBA cBT [p]=.lst (([i == 0,i == 1,i == 2,i == 3,false,false,false,false,false]:List Bool).map PV.bl):=by
 have e:∀{a:Addr} {b:Bool},W.kitOne K (.ref C) (.ref a)=some b->(PV.bl (decide (oA K cBT p (.cls a)=true))=.bl b):=λ{a b} h=>by rw[Bm c rfl h,cj]
 show PV.lst [PV.bl (decide (oA K cBT p (.cls cBA)=true)),PV.bl (decide (oA K cBT p (.cls cNP)=true)),PV.bl (decide (oA K cBT p (.cls cBT)=true)),PV.bl (decide (oA K cBT p (.cls cNN)=true)),PV.bl (decide (oA K cBT p (.cls cBL)=true)),PV.bl (decide (oA K cBT p (.cls cBP)=true)),PV.bl (decide (oA K cBT p (.cls cHP)=true)),PV.bl (decide (oA K cBT p (.cls Y)=true)),PV.bl (decide (oA K cBT p (.cls cNW)=true))]=_;rw[e h.c0,e h.c1,e h.c2,e h.c3,e h.c4,e h.c5,e h.c6,e h.c7,e h.c8];rfl
def WP {C a:Addr}{b:Bool}{p:PV}(c:YJ cBT p=some C)(k:uz K C)(h:W.kitOne K (.ref C) (.ref a)=some b):Mq K cBT p (.cls a):=⟨C,_,_,c,k,rfl,h⟩
def zO:Ok P w K mg base 1 "_law_classes" ["_law_kept"] (q8 K (lU cW cR cBT) (λas=>∃p C i,as=[p]/\YJ cBT p=some C/\Cl9 K cFE Y cNP cNW cNN cHP cBL cBP cBA cBT C i) (Hj K Y cNP cNW cNN cHP cBL cBP cBA cBT)):=by
 refine uV T.Qk vg (λ_ ⟨p,C,i,h,_⟩=>h▸rfl) (λf c A o s H E d=>⟨_,(iR (jK (i:=1) vg.nd rfl k4 (oF (nO (iQ (qu zJ wY T.jH (xv 0) (oV (by rfl) T.tV)) (iQ (qu zJ wY T.jH (xv 0) (oV (by rfl) T.ue)) (iQ (qu zJ wY T.jH (xv 0) (oV (by rfl) T.xR)) (iQ (qu zJ wY T.jH (xv 0) (oV (by rfl) T.wj)) iU))))))) (iR (jK (i:=1) vg.nd rfl k4 (oF (xF (lL (xv 1)) (oF (nO (iQ (qu zJ wY T.jH (xv 0) (oV (by rfl) T.DR)) (iQ (qu zJ wY T.jH (xv 0) (oV (by rfl) T.wR)) (iQ (qu zJ wY T.jH (xv 0) (oV (by rfl) T.Bf)) iU)))))))) (iV (jb (oF (xF (lL (xv 1)) (oF (nO (iQ (qu zJ wY T.jH (xv 0) (oV (by rfl) T.z6)) (iQ (qu zJ wY T.jH (xv 0) (oV (by rfl) T.Dt)) iU)))))))))),λas b=>?_⟩)
 obtain⟨p,C,i,rfl,b,h⟩:=b;refine⟨⟨⟨rfl,tT,WP b h.k h.c0⟩,⟨rfl,tT,WP b h.k h.c1⟩,⟨rfl,tT,WP b h.k h.c2⟩,⟨rfl,tT,WP b h.k h.c3⟩,tT⟩,λa e=>?_⟩;subst e;refine⟨⟨⟨rfl,rfl⟩,⟨⟨rfl,tT,WP b h.k h.c4⟩,⟨rfl,tT,WP b h.k h.c5⟩,⟨rfl,tT,WP b h.k h.c6⟩,tT⟩,bv (small1000 (by show 4+3<=1000;decide))⟩,λa e=>?_⟩;subst e;refine⟨⟨⟨rfl,rfl⟩,⟨⟨rfl,tT,WP b h.k h.c7⟩,⟨rfl,tT,WP b h.k h.c8⟩,tT⟩,bv (small1000 (by show 7+2<=1000;decide))⟩,?_⟩;rfl
def ab6 (c:Addr):YJ cBT (QM c)=some (Ws cBT c):=by unfold QM Ws;split<;>rfl
def Due (K:Fg)(cFE Y cNP cNW cNN cHP cBL cBP cBA cBT:Addr)(t:Str)(i:Nat)(pl:Int):Prop:=t.length<=2000/\∃c,uA cBA cNP cNN t=.err c/\Cl9 K cFE Y cNP cNW cNN cHP cBL cBP cBA cBT (Ws cBT c) i/\(i=2->QM c=.ob 3 pl)
def Ke:Ok P w K mg base 13 "_law_refused" ["_law_line","_law_due","_law_place"] (Ov K (lU cW cR cBT) (λas=>∃t,∃i:Nat,∃pl,as=[.str t,.int (i:Int),.int pl]/\Due K cFE Y cNP cNW cNN cHP cBL cBP cBA cBT t i pl) λ_=>true):=by
 refine uV T.Qu vo (λ_ ⟨a,b,c,h,_⟩=>h▸rfl) (λf F A u s H E p=>⟨_,(iR (jK (i:=3) vo.nd rfl k4 Tn) (iR (S7 (i:=4) (j:=3) zJ wY (Sw T) p (by rfl) rfl rfl rfl rfl (by rfl) T.qU vo.nd rfl rfl rfl rfl rfl (by decide) (by decide) (λ_ _=>(iQ (xs 0) iU))) (iR (jn (L2.PW.pt (Ed (aat (xv 3)) (Ed (qC (yz (qu zJ wY T.jH (xv 3) (Fl (by rfl) T.Gy Cm)))) (zG (zZ (Qi (xc (zO T) p (iQ (xv 3) iU))) iT))))) (iV (jb YW)) je) (iR (jn (L2.PW.pt (uY (mQ (xn 1) iT) (wg (L2.PW.pt (Ed (qC (yz (xcb (R5 T) p (iQ (Ju wY T.xm T.nA (xv 3)) iU)))) (zG (zZ (Ju wY T.xm T.nA (xv 3)) (xn 2)))))))) (iV (jb YW)) je) (iV (jb (ada (Qc (xc (zO T) p (iQ (xv 3) iU))) (xn 1)))))))),λas g=>?_⟩)
 obtain⟨t,i,pl,rfl,G,c,r,d,x⟩:=g;have g:=ab6 (cBT:=cBT) c;have l:=acX g d;have ob:Y9 (QM c)/\vp (QM c)=false:=by unfold QM;split<;>exact⟨tT,rfl⟩
 have J:=d.lt;have y:i=0\/i=1\/i=2\/i=3:=by lia
 have C:oA K cBT (QM c) (.ty "ValueError")=true:=Bm g rfl d.ve;refine⟨tT,λv ev=>?_⟩;have ev:v=.non:=ev;subst ev;refine iZ (ρ':=[.fr (.str t),k6 (i:Int),k6 pl,.fr .non,.un]) rfl ?_;refine⟨⟨rfl,tT⟩,⟨t,rfl,G,by rw[r];exact tT⟩,λq o=>?_,λD n=>?_⟩
 .have o:uA cBA cNP cNN t=.val q:=o;rw[r]at o;cases o
 have n:uA cBA cNP cNN t=.err D:=n;rw[r]at n;cases n;refine⟨d.fe,rfl,λm xs L e=>?_,?_⟩
 .have:=bn e;simp at this
 generalize I:QM c=k at g l C x ob;refine iZ (ρ':=[.fr (.str t),k6 (i:Int),k6 pl,.fr k,.un]) rfl ?_;refine⟨⟨⟨rfl,ob.1⟩,λ_=>⟨⟨rfl,tT,_,_,_,g,d.k,rfl,d.ve⟩,λ_=>⟨⟨⟨⟨rfl,tT⟩,k,_,i,rfl,g,d⟩,?_⟩,tT⟩⟩⟩,λh=>?_,λ_=>?_⟩
 .show Ml (Hj K Y cNP cNW cNN cHP cBL cBP cBA cBT [k]);rw[l];rfl
 .have h:vp k=true\/¬oA K cBT k (.ty "ValueError")=true\/¬(((vH (Hj K Y cNP cNW cNN cHP cBL cBP cBA cBT [k])).count true:Nat):Int)=1:=h;rcases h with h|h|h
  .rw[ob.2]at h;cases h
  .exact absurd C h
  .exfalso;rw[l]at h;rcases y with rfl|rfl|rfl|rfl<;>exact h (by decide)
 refine⟨⟨⟨rfl,tT⟩,λh=>?_⟩,λh=>?_,λ_=>?_⟩
 .have h:(i:Int)=2:=h;have B:=x (by lia);exact⟨⟨⟨⟨rfl,pl,B⟩,tT⟩,_,rfl⟩,λ_=>⟨⟨rfl,pl,B⟩,rfl⟩⟩
 .exfalso;have h:(i:Int)=2/\(¬true=true\/¬ZM k=pl):=h;rw[x (by lia)]at h;rcases h.2 with z|z
  .exact z rfl
  .exact z rfl
 refine⟨⟨⟨⟨⟨rfl,tT⟩,k,_,i,rfl,g,d⟩,?_⟩,rfl⟩,?_⟩
 .show Ml (Hj K Y cNP cNW cNN cHP cBL cBP cBA cBT [k])/\true∈vH (Hj K Y cNP cNW cNN cHP cBL cBP cBA cBT [k])/\(vH (Hj K Y cNP cNW cNN cHP cBL cBP cBA cBT [k])).length<=1000;rw[l];rcases y with rfl|rfl|rfl|rfl<;>exact⟨rfl,by decide,by decide⟩
 .show PV.bl (decide ((((vH (Hj K Y cNP cNW cNN cHP cBL cBP cBA cBT [k])).idxOf true:Nat):Int)=(i:Int)))=PV.bl true;rw[l];rcases y with rfl|rfl|rfl|rfl<;>rfl
section
variable {X:Cx}{G:Gx}{e:ER}{st:Stmt}{s:List Stmt}{f F:FS}{t:TS}
def G9 (h:PXi X st (ts X.K G e f)):PSi X [st] (ts X.K G e f):=by unfold PXi at h;exact psi (iV h)
def ad8 (h:PXi X st (ts X.K G e f))(a:PSi X s (ts X.K G e F)):PSi X (st::s) (ts X.K G e λP b=>∃J:En->Prop,f (P.sq J) b/\∀ρ',J ρ' -> F P ρ'):=by unfold PXi at h;exact psi (pI h (K3 a))
end
def abr {K:Fg}{G:Gx}{k:Nat}{x:Str}{st:Stmt}{N:Ls}{f:Addr}{b:FuncData}{y:Str}(F:Fun K x x st f b)(S:FnScope N [y] (defScope st))
  (a:∀(c:Value) (A:Around) (outer:List Env) (s:Shared) (H:Hp) (E:XK),Room k (A.deeper (envOfC x (defScope st) s.heap.objs.size f c)) -> ∃fs,PSi (cxOf CX0 P w K mg base N x (defScope st) f c A outer s H E).nox (defBody st) (ts K G ER0 fs)/\∀ns:List Int,ns.length<=63->(∀m∈ns,Builtin.Int.intBits m<=2^20)->fs { nx:=λ_=>False,rt:=λp=>p=.bl true } (kh N [.scr ns])):FnOk P w K mg base CX0 (k+1) f b [y] (u9 K):=
 acU F S λc A outer s H E d=>let ⟨fs,h,q⟩:=a c A outer s H E d;⟨fs,K3 h,q⟩
def aag (a c:Addr):Ws a (2*c)=c:=by unfold Ws;rw[ai (Nat.mul_mod_right 2 c)];exact gF c (by decide)
def aei (c:Addr)(z:Nat):Ws c (2*z+1:Nat)=c:=by unfold Ws;rw[ag (by show ¬(2*z+1) % 2=0;lia)]
def adO (z:Nat):QM (2*z+1:Nat)=.ob 3 (z:Int):=by unfold QM;rw[ag (by show ¬(2*z+1) % 2=0;lia),show(2*z+1:Nat) / 2=z by lia]
def aaO {t:Str}(g:t.length<=810)(c m:Int){p:Int}(h:Fy p):(JG t c m p).1.length<=2000:=by
 have q:=sJ t c;have xl:=sJ "x" (m / 5);have f:("x":Str).length=1:=by decide +kernel
 have pl:=h.len;have l:("parts of ":Str).length=9:=by decide +kernel
 have a:("parts by ":Str).length=9:=by decide +kernel
 have b:("common of ":Str).length=10:=by decide +kernel
 have e:(" of ":Str).length=4:=by decide +kernel
 have d:(" and ":Str).length=5:=by decide +kernel
 unfold JG;split
 .show(_++_:Str).length<=_;rw[len_app];lia
 .split
  .show(_++_:Str).length<=_;rw[len_app,len_app,len_app];lia
  .split
   .show(_++_:Str).length<=_;rw[len_app,len_app,len_app];lia
   .split
    .show(_++_:Str).length<=_;rw[len_app,len_app,len_app];lia
    .show(_++_:Str).length<=_;rw[len_app,len_app,len_app];lia
def Z4:∀g∈Wz,g.length<=60:=by
 have:Wz.all (λg=>decide (g.length<=60))=true:=by decide +kernel
 exact λg h=>bi (aR.mp this g h)
def Z6:j8 "9" 60=j8 "9" 60/\(1:Int)<60/\(60:Int)<=1000/\0<("9":Str).length/\("9":Str).length<=1000/\(j8 "9" 60).length<=sizeLine:=⟨rfl,by decide,by decide,by decide +kernel,by decide +kernel,by rw[ao];exact aG (show(j8 "9" 60).length<=60 by decide +kernel) (by decide)⟩
def Zv {l:Li}{i:Int}(h0:0<=i)(a:i<(l.length:Int)):∃p∈l,pW (.lst (l.map PV.int)) i=.int p:=by
 obtain⟨n,rfl⟩:=bc h0;have h:n<l.length:=by lia
 refine⟨l[n],bI h,?_⟩;show(l.map PV.int).getD (jR (l.map PV.int).length (n:Int)) .non=_;have e:jR (l.map PV.int).length (n:Int)=n:=by unfold jR;rw[ai (by lia)];rfl
 rw[e,gQ,aE,aa h];rfl
def it2 {a b:Str}{i:Int}(h:i=0\/i=1):∃u,(u=a\/u=b)/\pW (.lst [.str a,.str b]) i=.str u:=by
 rcases h with rfl|rfl
 .exact⟨a,.inl rfl,rfl⟩
 .exact⟨b,.inr rfl,rfl⟩
def aaz {f:Addr}{fd:FuncData}(F:Fun K "law" "law" Do f fd):FnOk P w K mg base CX0 14 f fd ["_law_script"] (u9 K):=by
 refine abr (G:=lU cW cR cBT) F nF (λcdv A outer s H E o=>⟨_,(rQ (PN (jm (i:=1) nF.nd rfl k4 (j9 (vm (aaN T) o (iQ (xr 0) iU))))) (rQ (PN (ji (i:=2) nF.nd rfl k4 (xci (nM T) o (iQ (xr 0) (iQ iT iU))))) (rQ (qy (i:=3) nF.nd rfl k4 (uZ (qL (iW jT (iW jT (iW jT (iW jT (iW jT (iW jT lM iY) iY) iY) iY) iY) iY)) (jE (kj (xci (nM T) o (iQ (xr 0) (iQ iT iU))) iT) iT) (λ_ _=>rfl))) (rQ (PN (ji (i:=4) nF.nd rfl k4 (jE (xci (nM T) o (iQ (xr 0) (iQ iT iU))) iT))) (rQ (PN (jQ (i:=5) nF.nd rfl k4 (Ry (jX (xc (Io T) o (iQ (xl 1) (iQ (xci (nM T) o (iQ (xr 0) (iQ iT iU))) iU))))))) (rQ (PN (ji (i:=6) nF.nd rfl k4 iT)) (ad8 (MP (mQ (xn 4) iT) (G9 (PN (jQ (i:=7) nF.nd rfl k4 (jX (xc (Qo T) o (iQ (xs 5) (iQ (xn 2) iU))))))) (G9 (MP (mQ (xn 4) iT) (rQ (qy (i:=8) nF.nd rfl k4 (uZ (qL (iW jf (iW jf (iW jf (iW jf (iW jf (iW jf (iW jf (iW jf (iW acp lM zM) iY) iY) iY) iY) iY) iY) iY) iY)) (jE (kj (xn 2) iT) iT) (λ_ _=>rfl))) (G9 (PN (jQ (i:=7) nF.nd rfl k4 (jq (jq (jq jc (xs 8)) jc) (jX (jd (oF (nO (iQ (xs 5) (iQ (jX (jd (xc (Ks T) o (iQ (xs 5) (iQ (kj (xn 2) iT) iU))) iT (λ_ _=>rfl))) iU)))) (jE (xn 2) iT) (λ_ _=>rfl)))))))) (G9 (PN (jn (mQ (xn 4) iT) (iV (Od (xc (yG T) o (iQ (xs 5) (iQ (xn 2) (iQ (xci (nM T) o (iQ (xr 0) (iQ iT iU))) (iQ (xn 3) iU))))) (pg_tup rfl (pgs_cons (pg_name (i:=7) nF.nd rfl k4) (pgs_cons (pg_name (i:=6) nF.nd rfl k4) pgs_nil))))) (iV (jQ (i:=7) nF.nd rfl k4 (jX (xc (uT T) o (iQ (xl 1) (iQ (xn 2) (iQ (xn 3) iU))))))))))))) (G9 (PN (jb (JS (xcb (Ke T) o (iQ (xs 7) (iQ (xn 4) (iQ (xn 6) iU)))) (pe_one (aau (jX (xc (Pa T) o (iQ jc iU))) jc))))))))))))),λn Q x=>?_⟩)
 clear x;have L:∀k:Int,0<k->k<=1000->0<k/\k.natAbs.log2<9000:=λk k0 k1=>⟨k0,(gw (by lia)).mpr (bW (show k.natAbs<=2^10 by lia) (cT (by decide) (by decide)))⟩;refine⟨⟨⟨rfl,tT⟩,n,rfl,Q⟩,λr m=>?_⟩;replace m:r=Vs n:=m;obtain⟨R,S⟩:=ZK n;rw[<- m]at R S;clear m;refine iZ (ρ':=[.fr (.scr n),k7 r,.un,.un,.un,.un,.un,.un,.un]) rfl ?_;refine⟨⟨⟨rfl,tT,tT⟩,tT,rfl,by show(0:Int)<=2;decide⟩,λc _=>?_⟩;refine iZ (ρ':=[.fr (.scr n),k7 r,k6 c,.un,.un,.un,.un,.un,.un]) rfl ?_;have i0:=aS (n.getD 3 0 / 2) (show(6:Int)≠0 by decide);have i1:=aH (n.getD 3 0 / 2) (show(0:Int)<6 by decide);obtain⟨p,pm,pe⟩:=Zv (l:=pL) i0 i1;have C:=acO p pm;clear pm;refine⟨⟨by repeat (first|exact tT|refine⟨tT,?_⟩),⟨⟨⟨⟨rfl,tT,tT⟩,tT,rfl,by show(0:Int)<=3;decide⟩,tT,L 2 (by decide) (by decide)⟩,tT,by show(0:Int)<6;decide⟩,?_⟩,λv ev=>?_⟩
 .show -((6:Nat):Int)<=n.getD 3 0 / 2 % 6/\n.getD 3 0 / 2 % 6<((6:Nat):Int);lia
 replace ev:v=.int p:=dm (show v=pW (.lst (pL.map PV.int)) (n.getD 3 0 / 2 % 6) from ev) pe;subst ev;clear pe i0 i1;refine iZ (ρ':=[.fr (.scr n),k7 r,k6 c,k6 p,.un,.un,.un,.un,.un]) rfl ?_;refine⟨⟨⟨⟨rfl,tT,tT⟩,tT,rfl,by show(0:Int)<=0;decide⟩,tT,by show(0:Int)<4;decide⟩,λd I=>?_⟩;replace I:d=n.getD 0 0 % 4:=I;have d0:=aS (n.getD 0 0) (show(4:Int)≠0 by decide);have d1:=aH (n.getD 0 0) (show(0:Int)<4 by decide);rw[<- I]at d0 d1;clear I;refine iZ (ρ':=[.fr (.scr n),k7 r,k6 c,k6 p,k6 d,.un,.un,.un,.un]) rfl ?_;obtain⟨fu,fl⟩:=Ko R (n.getD 4 0);refine⟨⟨⟨⟨⟨rfl,⟨⟨rfl,tT,tT⟩,tT,rfl,by show(0:Int)<=4;decide⟩,tT⟩,r,_,rfl,R⟩,rfl⟩,?_⟩,λt B=>?_⟩
 .show(Qs r (n.getD 4 0)).length<=sizeLine;rw[ao];lia
 replace B:t=PySem.Txt.strip (Qs r (n.getD 4 0)):=B;obtain⟨a,b,l,e,k⟩:=fu;have se:=strip_eq e k;have k:Core 1 t.cps.toList:=by rw[B,se];exact k
 have D:t.length<=810:=by
  have h1:t.length=l.length:=by rw[B];exact(aY ..).symm.trans (congrArg List.length se)
  have h2:(Qs r (n.getD 4 0)).length=a+(l.length+b):=(aY ..).symm.trans (by rw[e,aM,aM,a7,a7]);lia
 clear B e se fl;refine iZ (ρ':=[.fr (.scr n),k7 r,k6 c,k6 p,k6 d,.fr (.str t),.un,.un,.un]) rfl ?_;refine⟨tT,λz N=>?_⟩;replace N:z=0:=N;subst N;refine iZ (ρ':=[.fr (.scr n),k7 r,k6 c,k6 p,k6 d,.fr (.str t),k6 0,.un,.un]) rfl ?_;refine⟨λρ=>∃y,∃i:Nat,∃pl fg,ρ=[.fr (.scr n),k7 r,k6 c,k6 p,k6 (i:Int),.fr (.str t),k6 pl,.fr (.str y),fg]/\Due K cFE Y cNP cNW cNN cHP cBL cBP cBA cBT y i pl,?_,?_⟩
 .refine⟨⟨rfl,tT⟩,λh=>?_,λh=>?_⟩
  .have h:d=0:=h;subst h;obtain⟨n1,n2⟩:=Zi (cBA:=cBA) (cNP:=cNP) (cNN:=cNN) k D c;refine⟨⟨⟨⟨rfl,rfl,tT⟩,t,c,rfl,D⟩,rfl⟩,λy j=>⟨y,0,0,.un,rfl,?_⟩⟩;replace j:y=Xp t c:=j;subst j;exact⟨aG n2 (by decide),_,n1,by rw[aag];exact acw T,λz=>absurd z (by decide)⟩
  have h:¬d=0:=h;refine⟨⟨rfl,tT⟩,λh=>?_,λh=>?_⟩
  .have h:d=1:=h;subst h;have j0:=aS (c / 2) (show(9:Int)≠0 by decide);have j1:=aH (c / 2) (show(0:Int)<9 by decide);refine⟨⟨?_,⟨⟨rfl,tT,L 2 (by decide) (by decide)⟩,tT,by show(0:Int)<9;decide⟩,?_⟩,λu J=>?_⟩
   .exact⟨tT,tT,tT,tT,tT,tT,tT,tT,⟨tT,tT,Z6.2⟩,tT⟩
   .show -((9:Nat):Int)<=c / 2 % 9/\c / 2 % 9<((9:Nat):Int);lia
   replace J:u=.str (Wz.getD (c / 2 % 9).toNat ""):=dm (show u=pW (.lst (Wz.map PV.str)) (c / 2 % 9) from J) (xJ j0 j1);have O:Wz.getD (c / 2 % 9).toNat ""∈Wz:=getD_in (by show _<9;lia);generalize Wz.getD (c / 2 % 9).toNat ""=g at J O;subst J;have gl:=Z4 g O;have bl:=sJ t (c / 18);have Z:("parts by ":Str).length=9:=by decide +kernel
   have lo:(" of ":Str).length=4:=by decide +kernel
   obtain⟨X,hX,M⟩:=it2 (a:=t) (b:=(jZ t (c / 18)).1) (i:=c % 2) (by lia);have lX:X.length<=820:=by rcases hX with rfl|rfl<;>lia
   refine iZ (ρ':=[.fr (.scr n),k7 r,k6 c,k6 p,k6 1,.fr (.str t),k6 0,.un,.fr (.str g)]) rfl ?_;refine⟨⟨⟨⟨tT,rfl,by show("parts by ":Str).length+g.length<=sizeLine;rw[Z,ao];lia⟩,tT,by show(("parts by ":Str)++g).length+(" of ":Str).length<=sizeLine;rw[len_app,Z,lo,ao];lia⟩,⟨⟨⟨rfl,⟨⟨⟨⟨rfl,⟨rfl,tT,L 18 (by decide) (by decide)⟩,tT⟩,t,c / 18,rfl,D⟩,tT,?_⟩,?_⟩,tT⟩,⟨rfl,tT,by show(0:Int)<2;decide⟩,?_⟩,?_⟩,?_⟩,λy j=>⟨y,1,0,.fr (.str g),rfl,?_⟩⟩
   .exact X4
   .exact rfl
   .show -((2:Nat):Int)<=c % 2/\c % 2<((2:Nat):Int);lia
   .show pW (.lst [.str t,.str (jZ t (c / 18)).1]) (c % 2)=.str (GR (pW (.lst [.str t,.str (jZ t (c / 18)).1]) (c % 2)));rw[M];rfl
   .show(("parts by ":Str)++g++" of ").length+(GR (pW (.lst [.str t,.str (jZ t (c / 18)).1]) (c % 2))).length<=sizeLine;rw[M];show _+X.length<=_;rw[len_app,len_app,Z,lo,ao];lia
   .replace j:y=("parts by ":Str)++g++" of "++GR (pW (.lst [.str t,.str (jZ t (c / 18)).1]) (c % 2)):=j;rw[M]at j;replace j:y=("parts by ":Str)++g++" of "++X:=j;rw[jo,jo]at j;subst j;refine⟨by rw[len_app,len_app,len_app];lia,_,acH X g O,by rw[aag];exact acV T,λz=>absurd z (by decide)⟩
  have h:¬d=1:=h;refine⟨⟨rfl,tT⟩,λh=>?_,λh=>?_⟩
  .have h:d=2:=h;subst h;obtain⟨q1,q2⟩:=ad2 (cBA:=cBA) (cNP:=cNP) (cNN:=cNN) k c (n.getD 3 0) C;have q3:=aaO D c (n.getD 3 0) C;refine⟨⟨⟨rfl,rfl,⟨⟨rfl,tT,tT⟩,tT,rfl,by show(0:Int)<=3;decide⟩,rfl,tT⟩,t,c,_,p,rfl,D,C⟩,.str (JG t c (n.getD 3 0) p).1,.int (JG t c (n.getD 3 0) p).2,rfl,?_⟩;generalize JG t c (n.getD 3 0) p=q at q1 q2 q3;refine⟨q.1,2,q.2,.un,rfl,q3,_,q1,by rw[aei];exact ac5 T,λ_=>?_⟩;rw[adO,iz q2]
  .have h:¬d=2:=h;have h:d=3:=by lia
   subst h;obtain⟨n1,n2⟩:=acJ (cBA:=cBA) (cNP:=cNP) (cNN:=cNN) R S c C;refine⟨⟨⟨⟨rfl,rfl,rfl,tT⟩,r,c,p,rfl,R,S,C⟩,rfl⟩,λy j=>⟨y,3,0,.un,rfl,?_⟩⟩;replace j:y=Yu r c p:=j;subst j;exact⟨aG n2 (by decide),_,n1,by rw[aag];exact ack T,λz=>absurd z (by decide)⟩
 rintro ρ ⟨y,i,pl,fg,rfl,du⟩;refine⟨⟨⟨⟨rfl,rfl,rfl,tT⟩,y,i,pl,rfl,du⟩,λ_=>⟨⟨⟨⟨tT,tT⟩,_,rfl,rfl⟩,rfl⟩,tT⟩⟩,?_⟩;show PV.bl (decide (true=true/\q86=("2 * (x)^2":Str)))=PV.bl true;rw[aQ (p:=true=true/\q86=("2 * (x)^2":Str)) ⟨rfl,rfl⟩]
end
end jg
theorem PySem.Challenge.cw_factorforge_k86_lines_refused_holds : PySem.Challenge.rw_factorforge_k86_lines_refused.Holds :=
  jg.pre fun T => jg.aaz T
