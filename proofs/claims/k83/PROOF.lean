import PyProof.Rows.All
import Wide.All
import KE.KNestM
import KE.KUnpack
import KE.KEqDeep
import KE.KPassesOwn
import KE.RegKIsAll
import KE.RegKTryMore
import OpenK.KOwn
import KE.KItem
import KE.KNest
import KE.KLam
import KE.KSortKey
import KE.KSortTup
import KE.KRevIter
import Wide.FinOn
import Lean
import PyProof.EqAt
import PyProof.EqKinds
import PyProof.TupleCall
import KE.KNest
import KE.KNestM
import KE.KLam
import KE.KSortKey
import KE.KSortTup
import KE.KIntText
import PyProof.Draws
import PyProof.EnumMake
import PyProof.Rows.StrNews2
import PyProof.StrBlockI
import PyProof.StrCalls2
import PyProof.StrCalls6
import PyProof.StrLawsIdx
import PyProof.StrLawsTight
import PyProof.StrLawsReplace
import PyProof.StrLawsChain
import PyProof.Rows.StrPartPair
import PyProof.StrOps2
import PyProof.StrLawsJoin
import PySem.Challenge.RW_factorforge_k83_product_refused
set_option Elab.async false
set_option linter.all false
set_option maxRecDepth 100000
set_option maxHeartbeats 4000000
local macro_rules | `(tactic| omega) => `(tactic| lia)
noncomputable section
abbrev Li:=List Int
abbrev Fg:=PySem.W.Frag
abbrev Mg:=PySem.Str->Option PySem.Value
abbrev Lv:=List PySem.Value
abbrev Ls:=List PySem.Str
def aa:=@PySem.wpAny_bind
def ae:=@List.mem_cons_of_mem
def af:=@PySem.Heap.get?_push_of_some
def ag:=@List.length_map
def ai:=@if_neg
def aj:=@List.mem_cons_self
def ak:=@if_pos
def ao:=@PySem.Heap.get?_update_other
def ap:=@List.getElem?_eq_getElem
def aq:=@List.mem_cons
def ar:=@List.length_append
def au:=@PySem.Heap.lt_size
def aw:=@Nat.le_refl
def aA:=@Nat.le_trans
def aB:=@PySem.sizeLine_eq
def aD:=@Bool.false_ne_true
def aG:=@Int.emod_lt_of_pos
def aH:=@List.mem_append_right
def aI:=@Option.some.inj
def aJ:=@List.size_toArray
def aK:=@Int.emod_nonneg
def aM:=@PySem.Heap.get?_push_size
def aN:=@List.mem_singleton
def aO:=@PySem.Heap.get?_update_self
def aP:=@PySem.wpAny_pure
def aQ:=@decide_eq_false
def aR:=@List.length_cons
def aS:=@Nat.lt_of_lt_of_le
def aT:=@List.getElem?_map
def aU:=@List.append_nil
def aV:=@List.mem_append
def aW:=@decide_eq_true
def aX:=@Array.getElem?_eq_some_iff
def aY:=@List.append_assoc
def aZ:=@List.getElem?_eq_some_iff
def a9:=@Ne.symm
def bc:=@List.all_eq_true
def bf:=@Array.length_toList
def bg:=@PySem.Obj.data_mapFields
def bh:=@List.getElem?_append_right
def bi:=@PySem.F.excBase_ValueError
def bj:=@List.cons_append
def bn:=@Nat.ne_of_lt
def bo:=@List.map_cons
def bq:=@List.map_append
def br:=@List.getElem?_append_left
def bu:=@PySem.W.mg_of
def bv:=@List.length_replicate
def bw:=@List.mem_map
def bA:=@Bool.and_eq_true
def bC:=@List.mem_of_getElem?
def bD:=@List.filterMap_cons
def bE:=@PyProof.Rows.callWith_type1
def bF:=@PySem.W.kia_one
def bG:=@PySem.Obj.isFreed_of_fields
def bH:=@Int.eq_ofNat_of_zero_le
def bI:=@List.getElem?_set_ne
def bJ:=@Nat.le_succ
def bK:=@List.nil_append
def bL:=@PySem.W.Looks.ld
def bM:=@PySem.wpAny_field
def bN:=@Option.isSome_iff_exists
def bO:=@List.flatten_cons
def bP:=@List.length_singleton
def bQ:=@of_decide_eq_true
def bR:=@decide_eq_true_eq
def bS:=@List.count_append
def bU:=@PyProof.Rows.joinParts_cons
def bV:=@PySem.Calls.Constant_str
def bW:=@PySem.wpAny_Call_Name_kw
def bX:=@List.getElem?_replicate
def bY:=@List.length_set
def bZ:=@Int.natCast_nonneg
def b0:=@Nat.le_of_lt
def b6:=@Nat.zero_le
def b7:=@Nat.lt_irrefl
def b8:=@PySem.wpAny_holding
def b9:=@PySem.W.callWith_K
def cf:=@Nat.lt_succ_self
def cg:=@List.mem_append_left
def ci:=@List.dropLast_concat_getLast
def cj:=@PySem.StrLaws.subAt_one
def ck:=@PySem.wpAny_truthy_bool
def cm:=@PySem.mem_of_lookup
def cn:=@List.replicate_succ
def cq:=@Bool.decide_eq_true
def cr:=@List.map_congr_left
def cu:=@List.take_of_length_le
def cw:=@List.getElem_mem
def cx:=@List.getElem?_eq_none
def cy:=@List.map_map
def cz:=@PySem.wpAny_setField
def cA:=@PySem.W.looks_findIn
def cC:=@PySem.wpAny_setFlight_none
def cD:=@PySem.wpAny_passesOwn
def cE:=@Array.getElem?_setIfInBounds_ne
def cF:=@PySem.wpAny_loadPart_at
def cG:=@PySem.PassesOwn.never
def cH:=@PySem.wpAny_standAt
def cJ:=@PySem.wpAny_mono
def cL:=@PySem.F.plainAttrs_str
def cM:=@Int.lt_of_lt_of_le
def cN:=@List.mem_replicate
def cO:=@Nat.ne_of_gt
def cQ:=@PySem.W.methodCall_KW
def cT:=@Nat.le_of_ble_eq_true
def cU:=@List.singleton_append
def cV:=@List.take_append_drop
def cX:=@PySem.wpAny_call
def cY:=@PySem.wpAny_newObj_type
def cZ:=@List.getElem?_set
def c6:=@List.getD_eq_getElem?_getD
def c7:=@Nat.length_toDigits_le_iff
def c8:=@PySem.Calls.evalArgs_plain
def c9:=@Array.toList_extract
def de:=@List.drop_drop
def df:=@List.length_drop
def dh:=@PySem.codeAny_mono
def di:=@PySem.call_meets
def dj:=@Int.ofNat_lt
def dk:=@PySem.wpAny_execs_nil
def dl:=@Bool.eq_iff_iff
def dm:=@Nat.lt_of_le_of_lt
def dn:=@PySem.Calls.callWith_builtin
def dq:=@PySem.plainObj_wpAny_Assign_Attribute
def dt:=@List.take_sublist
def du:=@PySem.wpAny_of_eq
def dv:=@Classical.not_not
def dw:=@List.mem_range
def dy:=@List.drop_zero
def dz:=@PyProof.Rows.formatField_int_small
def dA:=@PySem.F.slot_range_reversed
def dB:=@List.length_take
def dC:=@List.not_mem_nil
def dD:=@PySem.StrLaws.partsBetween_eq
def dE:=@PySem.codeAny_call_builtin
def dF:=@List.mem_iff_getElem
def dG:=@PySem.typeIs_str
def dH:=@PySem.W.plainGet_of
def dI:=@PySem.W.looks_clsIn
def dJ:=@List.nodup_cons
def dL:=@List.foldl_cons
def dM:=@List.reverse_append
def dN:=@ne_true_of_eq_false
def dO:=@Nat.not_lt_zero
def dP:=@PyProof.Rows.signs_ofString
def dQ:=@PySem.Calls.Name_function_global
def dR:=@PySem.F.slot_range_iterator_iter
def dS:=@PySem.wpAny_pyIter_range
def dU:=@List.mem_filterMap
def dW:=@PySem.Calls.spliced_cons
def dX:=@List.map_nil
def dY:=@PySem.wpAny_entryPlaceOf
def dZ:=@PySem.W.tail_of_in
def d0:=@PySem.F.args_str_split_2
def d5:=@List.mem_of_find?_eq_some
def d6:=@PySem.codeAny_call_builtin_code
def d7:=@List.extract_eq_take_drop
def d8:=@PySem.Calls.spliced_nil
def d9:=@PySem.wpAny_frameOf_fun
def ee:=@PySem.Obj.cls_mapFields
def eh:=@PySem.F.entry_str_split
def ei:=@PySem.PassesOwn.leaving
def ey:=@List.foldl_append
def eE:=@List.drop_sublist
def eG:=@List.length_eq_zero_iff
def eH:=@PySem.F.attr_ValueError
def eI:=@PyProof.Rows.joinParts_nil
def eJ:=@PySem.F.plainAttrs_list
def eK:=@List.getLast_eq_getElem
def eL:=@List.map_id
def eM:=@Nat.toDigits_of_lt_base
def eO:=@PySem.StrLaws.occ_tight
def eP:=@PySem.wpAny_execs_cons
def eQ:=@PySem.W.any_some
def eU:=@List.lookup_cons
def eV:=@List.take_length
def eW:=@Option.bind_some
def eY:=@Nat.le_add_right
def eZ:=@PySem.F.slot_str_split
def fb:=@PySem.Heap.size_update
def fe:=@List.getElem?_set_self
def ff:=@PySem.W.cellsFrom_some
def fh:=@PyProof.noPylong_small
def fi:=@Nat.le_of_eq
def fj:=@List.of_mem_zip
def fk:=@PySem.seqIndex_neg
def fo:=@Array.getElem?_toList
def fq:=@Bool.beq_eq_decide_eq
def ft:=@PySem.codeAny_builtin
def fu:=@List.mem_iff_getElem?
def fw:=@PySem.W.Looks.andThen
def fx:=@List.contains_iff_mem
def fy:=@decide_not
def fz:=@List.length_dropLast
def fA:=@String.toList_append
def fD:=@Nat.pow_le_pow_right
def fE:=@Nat.mul_le_mul_right
def fF:=@PySem.wpAny_loadPart
def fG:=@PySem.Heap.size_push
def fH:=@List.drop_left
def fJ:=@PySem.IsRange.new
def fK:=@PySem.W.callWith_K0
def fL:=@PySem.seqIndex_of
def fM:=@PySem.W.looks_mroIn
def fN:=@beq_eq_false_iff_ne
def fO:=@List.drop_succ_cons
def fP:=@beq_iff_eq
def fQ:=@Bool.or_true
def fR:=@Nat.sub_self
def fS:=@Nat.log2_lt
def fT:=@Nat.one_mul
local macro_rules | `(tactic| walk_at "v") => `(tactic| first | exact Or.inl rfl | exact Or.inr (Or.inl rfl) | exact Or.inr (Or.inr rfl))
local macro_rules | `(tactic| walk_at "w") => `(tactic| first | exact .inl rfl | exact .inr rfl | assumption)
theorem tJ:True:=True.intro
theorem gQ {A:Type _}{l:List A}{i:Nat}{a:A}:l.getD i a=l[i]?.getD a:=c6 ..
theorem lP {A:Type _}{l:List A}(h:l≠[]):0<l.length:=List.length_pos_iff.mpr h
section
open PySem PySem.W PyProof.Rows
namespace gY
def top (i:Nat):Stmt:=PySem.Challenge.pw_factorforge_k83_product_refused.main.body.getD i (.Pass ⟨0,0,0,0⟩)
end gY
def gY.view:PySem.Program:={ PySem.Challenge.rw_factorforge_k83_product_refused.row.toRowW.prog with main:={ PySem.Challenge.rw_factorforge_k83_product_refused.row.toRowW.prog.main with body:=[gY.top 0,gY.top 2,gY.top 3,gY.top 4,gY.top 5,gY.top 6,gY.top 7,gY.top 8,gY.top 9,gY.top 10,gY.top 11,gY.top 13,gY.top 14,gY.top 16,gY.top 17,gY.top 19,gY.top 20,gY.top 21,gY.top 22,gY.top 23,gY.top 24,gY.top 25,gY.top 26,gY.top 28,gY.top 29,gY.top 30,gY.top 31,gY.top 32,gY.top 33,gY.top 34,gY.top 35,gY.top 36,gY.top 37,gY.top 38,gY.top 40,gY.top 41,gY.top 42,gY.top 43,gY.top 44,gY.top 45,gY.top 46,gY.top 47,gY.top 48,gY.top 49,gY.top 50,gY.top 51,gY.top 52,gY.top 53,gY.top 54,gY.top 55] } }
def X.Qa (tb:String->Option Builtin)(p:Program)(w:World)(n₀:Nat)(ann:Option Value):Nat->SharedT->Thread->Option SharedT
 |0,_,_=>none
 |n+1,s,t=>match through t with
  |true=>some s
  |false=>match stepOk n₀ ann t with
   |false=>none
   |true=>match stepT (denote tb) p w s t with
    |some (s',t')=>X.Qa tb p w n₀ ann n s' t'
    |none=>none
theorem X.Ho {tb:String->Option Builtin}{p:Program}{w:World}{n₀:Nat}{ann:Option Value}:∀{n:Nat} {s s':SharedT} {t:Thread},X.Qa tb p w n₀ ann n s t=some s' -> topRun tb p w n₀ ann n s.abs t=some s'.abs
 |0,_,_,_,h=>by cases h
 |n+1,s,s',t,h=>by
  unfold X.Qa at h;unfold topRun;cases ht:through t with
  |true=>rw[ht]at h;cases h;rfl
  |false=>
   rw[ht]at h;cases hk:stepOk n₀ ann t with
   |false=>rw[hk]at h;cases h
   |true=>
    rw[hk]at h;cases hs:stepT (denote tb) p w s t with
    |none=>rw[hs]at h;cases h
    |some r=>obtain⟨s₂,t₂⟩:=r;rw[hs]at h;rw[stepT_spec hs];exact X.Ho h
def X.toT (s:Shared):SharedT:=⟨(s.heap.objs.toList.foldl (λ(x:BT×Nat) o=>(x.1.ins x.2 o,x.2+1)) (BT.nil,0)).1,s.heap.objs.size,s.heap.life,s.gens,s.drawn,s.toks,s.os⟩
def X.RT (tb:String->Option Builtin)(p:Program)(w:World)(N:Nat):Option (Shared×SharedT):=(fencedOpening tb p w N).bind λs0=>(X.Qa tb p w s0.heap.objs.size (s0.heap.nsMap mainGlobals "__annotations__") N (X.toT s0) (topStub p)).map λs1=>(s0,s1)
def X.Ss (p:Program)(s0 s1:Shared):Bool:=(s0.heap.isNs mainGlobals && s0.gens.size == 0) && (staticsOk (importedModules p.main.body) s0.heap s1.heap && namesBound p s1.heap && gensDone s1 && laidKept s0.heap s1.heap)
theorem X.yD {p:Program}{w:World}{N:Nat}{A:Type}{f:Shared->A}{a:A}(h0:(fencedOpening treeTable p w N).map (λs=>(X.toT s).tree.list s.heap.objs.size)=(fencedOpening treeTable p w N).map (λs=>s.heap.objs.toList))
  (h1:(X.RT treeTable p w N).map (λx=>(X.Ss p x.1 x.2.abs,f x.2.abs))=some (true,a)):(openEnds treeTable p w N).map f=some a:=by
 unfold X.RT at h1;unfold openEnds;cases e:fencedOpening treeTable p w N with
 |none=>rw[e]at h1;cases h1
 |some s0=>
  rw[e]at h0 h1;have hl:(X.toT s0).tree.list s0.heap.objs.size=s0.heap.objs.toList:=aI h0;have ha:(X.toT s0).abs=s0:=by obtain⟨⟨objs,life⟩,gens,drawn,toks,os⟩:=s0;show(⟨⟨((X.toT ⟨⟨objs,life⟩,gens,drawn,toks,os⟩).tree.list objs.size).toArray,life⟩,gens,drawn,toks,os⟩:Shared)=_;rw[hl]
  have h1:((X.Qa treeTable p w s0.heap.objs.size (s0.heap.nsMap mainGlobals "__annotations__") N (X.toT s0) (topStub p)).map λs1=>(s0,s1)).map (λx=>(X.Ss p x.1 x.2.abs,f x.2.abs))=some (true,a):=h1;cases e1:X.Qa treeTable p w s0.heap.objs.size (s0.heap.nsMap mainGlobals "__annotations__") N (X.toT s0) (topStub p) with
  |none=>rw[e1]at h1;cases h1
  |some s1=>
   rw[e1]at h1;have h1:=aI h1;have c:=congrArg Prod.fst h1;have d:=congrArg Prod.snd h1;have c:X.Ss p s0 s1.abs=true:=c;have d:f s1.abs=a:=d;have r:=X.Ho e1;rw[ha]at r;obtain⟨c1,c2⟩:=Bool.and_eq_true_iff.mp c;show(topFrom treeTable p w N s0).map f=some a;unfold topFrom;rw[c1,r];show(match staticsOk (importedModules p.main.body) s0.heap s1.abs.heap && namesBound p s1.abs.heap && gensDone s1.abs && laidKept s0.heap s1.abs.heap with|true=>some s1.abs|false=>none).map f=some a
   rw[c2];exact congrArg some d
theorem X.both {S A B:Type}{o:Option S}{c:S->Bool}{f:S->A}{y:S->B}{g:A}{a:B}(h1:o.map (λx=>(c x,f x))=some (true,g))(h2:o.map y=some a):o.map (λx=>(c x,(f x,y x)))=some (true,(g,a)):=by
 cases o with
 |none=>cases h2
 |some s=>have e1:=aI h1;have e2:=aI h2;have e3:c s=true:=congrArg Prod.fst e1;have e4:f s=g:=congrArg Prod.snd e1;show some (c s,(f s,y s))=_;rw[e3,e4,e2]
theorem X.two {S A B:Type}{o:Option S}{f:S->A×B}{g:A×B}{c:S->Bool}(h1:o.map (λx=>(c x,(f x).1))=some (true,g.1))(h2:o.map (λx=>(f x).2)=some g.2):o.map (λx=>(c x,f x))=some (true,g):=by
 cases o with
 |none=>cases h2
 |some s=>have e1:=aI h1;have e2:=aI h2;have e3:c s=true:=congrArg Prod.fst e1;have e4:(f s).1=g.1:=congrArg Prod.snd e1;show some (c s,((f s).1,(f s).2))=some (true,(g.1,g.2));rw[e3,e4];exact congrArg (λz=>some (true,(g.1,z))) e2
abbrev gY.Dv (s:Shared):=openSeen gY.view [] (importedModules PySem.Challenge.rw_factorforge_k83_product_refused.row.toRowW.prog.main.body) (λs=>xlAt gY.view [] s && recOk (RowW.records PySem.Challenge.rw_factorforge_k83_product_refused.row.toRowW) s) true s
theorem gY.h0:∀w,(fencedOpening treeTable PySem.Challenge.rw_factorforge_k83_product_refused.row.toRowW.prog w 20000).map (λs=>(X.toT s).tree.list s.heap.objs.size)=(fencedOpening treeTable PySem.Challenge.rw_factorforge_k83_product_refused.row.toRowW.prog w 20000).map (λs=>s.heap.objs.toList):=by intro w;kernel_rfl
theorem gY.h1:∀w,(X.RT treeTable PySem.Challenge.rw_factorforge_k83_product_refused.row.toRowW.prog w 20000).map (λx=>(X.Ss PySem.Challenge.rw_factorforge_k83_product_refused.row.toRowW.prog x.1 x.2.abs,(gY.Dv x.2.abs).1))=some (true,(openGood gY.view []).1):=by intro w;kernel_rfl
theorem gY.h2:∀w,(X.RT treeTable PySem.Challenge.rw_factorforge_k83_product_refused.row.toRowW.prog w 20000).map (λx=>(gY.Dv x.2.abs).2)=some (openGood gY.view []).2:=by intro w;kernel_rfl
theorem gY.fin {A:Type}{y:Shared->A}{a:A}(w:World)(h:(X.RT treeTable PySem.Challenge.rw_factorforge_k83_product_refused.row.toRowW.prog w 20000).map (λx=>y x.2.abs)=some a):(openEnds treeTable PySem.Challenge.rw_factorforge_k83_product_refused.row.toRowW.prog w 20000).map (λs=>(gY.Dv s,y s))=some (openGood gY.view [],a):=
 X.yD (f:=λs=>(gY.Dv s,y s)) (gY.h0 w) (X.both (X.two (gY.h1 w) (gY.h2 w)) h)
end
namespace L2
open PySem PySem.Spec PyProof.Rows
abbrev Key:=Sum Int Str
def keyIs:Key->Value->Bool
 | .inl k,v=>Value.isInt k v
 | .inr x,v=>Value.isStrOf x v
def keyH (w:World):Key->Int
 | .inl k=>hashInt k
 | .inr x=>hashStr w x
theorem keyIs_shape:∀{k:Key} {v:Value},keyIs k v=true->(∃i t,k=Sum.inl i/\v=Value.int i t)\/(∃x t,k=Sum.inr x/\v=Value.str x t)
 | .inl i,v,h=>by obtain⟨t,e⟩:=Value.isInt_shape (k:=i) (v:=v) h;exact .inl ⟨i,t,rfl,e⟩
 | .inr x,v,h=>by obtain⟨t,e⟩:=Value.isStrOf_shape (x:=x) (v:=v) h;exact .inr ⟨x,t,rfl,e⟩
theorem key_ll (a b:Int):decide ((Sum.inl a:Key)=Sum.inl b)=(a == b):=by
 by_cases e:a=b
 ·subst e;simp
 ·have h:¬(Sum.inl a:Key)=Sum.inl b:=λq=>e (Sum.inl.inj q);rw[aQ h];exact(beq_eq_false_iff_ne.mpr e).symm
theorem key_rr (a b:Str):decide ((Sum.inr a:Key)=Sum.inr b)=decide (a=b):=by
 by_cases e:a=b
 ·subst e;simp
 ·have h:¬(Sum.inr a:Key)=Sum.inr b:=λq=>e (Sum.inr.inj q);rw[aQ h,aQ e]
theorem key_lr (a:Int)(b:Str):decide ((Sum.inl a:Key)=Sum.inr b)=false:=aQ (λq=>nomatch q)
theorem key_rl (a:Str)(b:Int):decide ((Sum.inr a:Key)=Sum.inl b)=false:=aQ (λq=>nomatch q)
def mixKind (prog:Program)(w:World):PySem.KeyKind prog w Key where
 is:=keyIs
 hash:=keyH w
 inj:=λv a b ha hb=>by
  rcases keyIs_shape ha with⟨i,t,rfl,rfl⟩|⟨x,t,rfl,rfl⟩
  ·rcases keyIs_shape hb with⟨j,u,rfl,e⟩|⟨y,u,rfl,e⟩
   ·injection e with e1 _;rw[e1]
   ·exact nomatch e
  ·rcases keyIs_shape hb with⟨j,u,rfl,e⟩|⟨y,u,rfl,e⟩
   ·exact nomatch e
   ·injection e with e1 _;rw[e1]
 byValue:=λk v h=>by rcases keyIs_shape h with⟨i,t,rfl,rfl⟩|⟨x,t,rfl,rfl⟩<;>rfl
 pyHash:=λhv h=>by
  rcases keyIs_shape hv with⟨i,t,rfl,rfl⟩|⟨x,t,rfl,rfl⟩
  ·exact wpAny_pyHash_int h
  ·exact wpAny_pyHash_str h
 eqBool:=λhu hv h=>by
  rcases keyIs_shape hu with⟨i,t,rfl,rfl⟩|⟨x,t,rfl,rfl⟩
  ·rcases keyIs_shape hv with⟨j,u,rfl,rfl⟩|⟨y,u,rfl,rfl⟩
   ·rw[key_ll]at h;exact wpAny_eqBool_int h
   ·rw[key_lr]at h;exact SeqAt.EqAt.int_str i t y u _ _ _ _ h
  ·rcases keyIs_shape hv with⟨j,u,rfl,rfl⟩|⟨y,u,rfl,rfl⟩
   ·rw[key_rl]at h;exact SeqAt.EqAt.str_int x t j u _ _ _ _ h
   ·rw[key_rr]at h;exact wpAny_eqBool_str h
 «strs»:=λk x t v h=>by
  rcases keyIs_shape h with⟨i,u,rfl,e⟩|⟨y,u,rfl,e⟩
  ·exact nomatch e
  ·injection e with e1 _;subst e1;cases v<;>rfl
inductive V where
 |non|bl (b:Bool)|int (i:Int)|str (x:Str)|byt (b:Array UInt8)|flt (b:UInt64)|ref (a:Addr)|ty (n:String)
 deriving DecidableEq
def RelV:V->Value->Prop
 | .non,u=>u=Value.none
 | .bl b,u=>u=Value.bool b
 | .int i,u=>∃t,u=Value.int i t
 | .str x,u=>∃t,u=Value.str x t
 | .byt b,u=>∃t,u=Value.bytes b t
 | .flt b,u=>∃t,u=Value.float b t
 | .ref a,u=>u=Value.ref a
 | .ty n,u=>u=Value.type n
abbrev Vals:List V->List Value->Prop:=Paired RelV
theorem Vals.length (r:Vals xs us):xs.length=us.length:=Paired.length r
theorem Vals.get:∀{xs:List V} {us:Lv} {i:Nat} {x:V},Vals xs us->xs[i]?=some x->∃u,us[i]?=some u/\RelV x u
 |_,_,_,_,.nil,e=>by simp at e
 |_,_,0,_,.cons r _,e=>by simp at e;subst e;exact⟨_,rfl,r⟩
 |_,_,i+1,x,.cons _ t,e=>by obtain⟨u,h1,h2⟩:=Vals.get (i:=i) (x:=x) t (by simpa using e);exact⟨u,by simpa using h1,h2⟩
theorem Vals.set (r:RelV x u):∀{xs:List V} {us:Lv} (i:Nat),Vals xs us->Vals (xs.set i x) (us.set i u)
 |_,_,_,.nil=>.nil
 |_,_,0,.cons _ t=>.cons r t
 |_,_,i+1,.cons q t=>.cons q (Vals.set r i t)
theorem Vals.append:∀{xs ys:List V} {us ws:Lv},Vals xs us->Vals ys ws->Vals (xs++ys) (us++ws)
 |_,_,_,_,.nil,s=>s
 |_,_,_,_,.cons r t,s=>.cons r (Vals.append t s)
theorem Vals.take:∀{xs:List V} {us:Lv} (n:Nat),Vals xs us->Vals (xs.take n) (us.take n)
 |_,_,0,_=>.nil
 |_,_,_+1,.nil=>.nil
 |_,_,n+1,.cons r t=>.cons r (Vals.take n t)
theorem Vals.drop:∀{xs:List V} {us:Lv} (n:Nat),Vals xs us->Vals (xs.drop n) (us.drop n)
 |_,_,0,r=>r
 |_,_,_+1,.nil=>.nil
 |_,_,n+1,.cons _ t=>Vals.drop n t
def RelO:Option V->Option Value->Prop
 |some v,some u=>RelV v u
 |none,none=>True
 |_,_=>False
def KV {κ:Type}:List (κ×V)->List (κ×Value)->Prop:=Paired λ(p:κ×V) (q:κ×Value)=>p.1=q.1/\RelV p.2 q.2
def kV:Key->V
 | .inl i=>.int i
 | .inr x=>.str x
structure sy where
 q:Str
 ps:Array Value
instance:HAppend sy (Array Value) sy:=⟨λt m=>⟨t.q,t.ps++m⟩⟩
@[simp] theorem sy.append_nil (t:sy):t++(#[]:Array Value)=t:=by obtain⟨q,ps⟩:=t;show sy.mk q (ps ++ #[])=⟨q,ps⟩;rw[Array.append_empty]
theorem sy.append_assoc (t:sy)(a b:Array Value):t++a++b=t++(a++b):=by obtain⟨q,ps⟩:=t;show sy.mk q (ps++a++b)=⟨q,ps++(a++b)⟩;rw[Array.append_assoc]
def R8 (o:Obj)(q:Str):Prop:=∃vs t,o.data=.fields vs/\vs[1]?=some (.str q t)
inductive HO where
 |lst (xs:List V)
 |tup (xs:List V)
 |dK (kvs:List (Key×V))|dT (kvs:List (List Key×V))
 |set (S:Int->Bool) (n:Nat)
 |ins (C dx:Addr) (fs:List (Str×V))
 |own (x:Addr)
 |xd (fs:List (Str×V))
 |met (f x:Addr)
 |rng (lo hi:Int)
 |frz (o:Obj) (u:HO)
 |tbl (ps:sy)
 |ext (φ:Heap->Prop)
abbrev Hp:=Addr->Option HO
def upd (H:Hp)(a:Addr)(o:HO):Hp:=λb=>if b=a then some o else H b
theorem upd_same:upd H a o a=some o:=by unfold upd;rw[ak rfl]
theorem upd_ne (h:b≠a):upd H a o b=H b:=by unfold upd;rw[ai h]
theorem upd_upd:upd (upd H a o) a u=upd H a u:=by funext b;unfold upd;split<;>rfl
theorem ne_of {H:Hp}{a b:Addr}{o u:HO}(h:H a=some o)(h':H b=some u)(d:o≠u):a≠b:=by intro e;subst e;rw[h]at h';exact d (aI h')
theorem ne_of_none {H:Hp}{a b:Addr}{o:HO}(h:H a=some o)(h':H b=none):a≠b:=by intro e;subst e;rw[h]at h';cases h'
section
variable (P:Program)(w:World)
def ObjOk (H:Hp)(h:Heap)(a:Addr):HO->Prop
 | .lst xs=>xs.length<=sizeLine/\∃(its:List Value) (n:Nat),Vals xs its/\h.get? a=some { cls:=.type "list",data:=.seq its.toArray n }
 | .tup xs=>xs.length<=sizeLine/\∃its:List Value,Vals xs its/\IsTup h a its.toArray
 | .dK kvs=>kvs.length<=sizeLine/\(a == sysModules)=false/\∃vs,KV kvs vs/\h.DictOf (mixKind P w) a vs
 | .dT kvs=>kvs.length<=sizeLine/\(a == sysModules)=false/\∃xs:List (List Key×Addr×Value),
   Paired (λ(p:List Key×V) (q:List Key×Addr×Value)=>p.1=q.1/\H q.2.1=some (.tup (p.1.map kV))/\RelV p.2 q.2.2) kvs xs /\
   ∃o es ep,h.get? a=some o/\o.ExactDict/\o.data=.dict es ep/\es.toList=xs.map (entryOfKey (tupleKind (mixKind P w)))/\(xs.map (·.1)).Nodup
 | .set S n=>h.SetOf (intKind P w) a S n
 | .ins C dx fs=>H dx=some (.own a)/\fs.length<=1000/\dx≠a/\h.get? a=some (W.instObj C dx) /\
   ∃mA,h.Ns1 dx mA/\(∀f,RelO (fs.lookup f) (mA f))/\PySem.Within mA (fs.map (·.1))
 | .own _=>∃o,h.get? a=some o
 | .xd fs=>∃mA,h.Ns1 a mA/\∀f,RelO (fs.lookup f) (mA f)
 | .rng lo hi=>∃t u v,h.get? a=some { cls:=.type "range",data:=.fields #[.int lo t,.int hi u,.int 1 v] }
 | .frz o u=>h.get? a=some o/\ObjOk H h a u
 | .tbl ps=>h.get? a=some { cls:=.none,data:=.fields ps.ps }/\TriplesOk ps.ps.toList/\∀p cv,codeAmong p ps.ps.toList=some cv->∃c oc u,cv=Value.ref c/\H c=some (.frz oc u)/\R8 oc ps.q
 | .met f x=>h.get? a=some (W.methodObj (.ref f) (.ref x))
 | .ext φ=>φ h/\(∃o,h.get? a=some o)/\∀h1 h2:Heap,φ h1->(∀o,h1.get? a=some o->h2.get? a=some o)->φ h2
def HOk (H:Hp)(h:Heap):Prop:=∀a o,H a=some o->ObjOk P w H h a o
end
section
variable {P:Program}{w:World}{H H':Hp}{h h':Heap}{a:Addr}{o:HO}
theorem ObjOk.lt (x:ObjOk P w H h a o):a<h.objs.size:=by
 cases o with
 |lst xs=>obtain⟨_,_,_,_,e⟩:=x;exact au e
 |tup xs=>obtain⟨_,_,_,p⟩:=x;exact p.lt
 |dK kvs=>obtain⟨_,_,_,_,o,_,_,e,_⟩:=x;exact au e
 |dT kvs=>obtain⟨_,_,_,_,o,_,_,e,_⟩:=x;exact au e
 |set S n=>obtain⟨o,_,_,_,e,_⟩:=x;exact au e
 |ins C dx fs=>obtain⟨_,_,_,e,_⟩:=x;exact au e
 |own y=>obtain⟨_,e⟩:=x;exact au e
 |xd fs=>obtain⟨_,⟨_,_,_,e,_⟩,_⟩:=x;exact au e
 |rng lo hi=>obtain⟨_,_,_,e⟩:=x;exact au e
 |frz ob u=>obtain⟨e,_⟩:=x;exact au e
 |tbl ps=>exact au x.1
 |met f y=>exact au (show h.get? a=some _ from x)
 |ext φ=>obtain⟨_,⟨_,e⟩,_⟩:=x;exact au e
theorem Paired.mapP:∀{l₁:List α} {l₂:List β},Paired F l₁ l₂->(∀a b,F a b->G a b)->Paired G l₁ l₂
 |_,_,.nil,_=>.nil
 |_,_,.cons r t,f=>.cons (f _ _ r) (Paired.mapP t f)
theorem ObjOk.stay (x:ObjOk P w H h a o)(k:∀b u,(b=a\/H b=some (.own a))->h.get? b=some u->h'.get? b=some u)
  (ho:∀b,H b=some (.own a)->H' b=some (.own a)) (ht:∀b xs,H b=some (.tup xs)->H' b=some (.tup xs)) (hz:∀b o u,H b=some (.frz o u)->H' b=some (.frz o u):=by intro _ _ _ q;exact q):ObjOk P w H' h' a o:=by
 induction o with
 |lst xs=>obtain⟨z,its,n,r,e⟩:=x;exact⟨z,its,n,r,k _ _ (.inl rfl) e⟩
 |tup xs=>obtain⟨z,its,r,ob,e,c⟩:=x;exact⟨z,its,r,ob,k _ _ (.inl rfl) e,c⟩
 |dK kvs=>obtain⟨z,y,vs,r,ob,es,ep,e,c⟩:=x;exact⟨z,y,vs,r,ob,es,ep,k _ _ (.inl rfl) e,c⟩
 |dT kvs=>obtain⟨z,y,xs,r,ob,es,ep,e,c⟩:=x;exact⟨z,y,xs,Paired.mapP r λp q z=>⟨z.1,ht _ _ z.2.1,z.2.2⟩,ob,es,ep,k _ _ (.inl rfl) e,c⟩
 |set S n=>obtain⟨ob,es,ep,t,e,c⟩:=x;exact⟨ob,es,ep,t,k _ _ (.inl rfl) e,c⟩
 |ins C dx fs=>obtain⟨d,z,ne,e,mA,⟨od,es,ep,e2,c⟩,r⟩:=x;exact⟨ho _ d,z,ne,k _ _ (.inl rfl) e,mA,⟨od,es,ep,k _ _ (.inr d) e2,c⟩,r⟩
 |own y=>obtain⟨ob,e⟩:=x;exact⟨ob,k _ _ (.inl rfl) e⟩
 |xd fs=>obtain⟨mA,⟨od,es,ep,e,c⟩,r⟩:=x;exact⟨mA,⟨od,es,ep,k _ _ (.inl rfl) e,c⟩,r⟩
 |rng lo hi=>obtain⟨t,u,v,e⟩:=x;exact⟨t,u,v,k _ _ (.inl rfl) e⟩
 |frz ob u ih=>obtain⟨e,q⟩:=x;exact⟨k _ _ (.inl rfl) e,ih q⟩
 |tbl ps=>obtain⟨e,t,g⟩:=x;exact⟨k a _ (.inl rfl) e,t,λp cv hc=>let ⟨c,oc,u,y,z,q⟩:=g p cv hc;⟨c,oc,u,y,hz _ _ _ z,q⟩⟩
 |met f y=>have e:h.get? a=some (W.methodObj (.ref f) (.ref y)):=x;show h'.get? a=some (W.methodObj (.ref f) (.ref y));exact k a _ (.inl rfl) e
 |ext φ=>obtain⟨p,⟨o,e⟩,st⟩:=x;exact⟨st _ _ p λo q=>k _ _ (.inl rfl) q,⟨o,k _ _ (.inl rfl) e⟩,st⟩
theorem HOk.lt (x:HOk P w H h)(e:H a=some o):a<h.objs.size:=(x a o e).lt
theorem HOk.fresh (x:HOk P w H h)(e:h.objs.size<=a):H a=none:=by
 cases q:H a with
 |none=>rfl
 |some u=>exact absurd (aS (x.lt q) e) (b7 _)
theorem HOk.kept (x:HOk P w H h)(k:∀b u,h.get? b=some u->h'.get? b=some u):HOk P w H h':=λa o e=>
 (x a o e).stay (λb u _ q=>k b u q) (λ_ q=>q) λ_ _ q=>q
theorem HOk.laid (x:HOk P w H h)(k:∀b u,h.get? b=some u->h'.get? b=some u)(hp:h.objs.size<=a)(new:ObjOk P w (upd H a o) h' a o):HOk P w (upd H a o) h':=λb u e=>by
 have hn:=x.fresh hp;by_cases hb:b=a
 ·subst hb;rw[upd_same]at e;cases e;exact new
 ·rw[upd_ne hb]at e;exact(x b u e).stay (λc v _ q=>k c v q) (λc q=>by rw[upd_ne (ne_of_none q hn)];exact q) (λc xs q=>by rw[upd_ne (ne_of_none q hn)];exact q) λc _ _ q=>by rw[upd_ne (ne_of_none q hn)];exact q
end
def Rd (H:Hp)(a:Addr)(u:HO):Prop:=H a=some u\/∃o,H a=some (.frz o u)
theorem Rd.ok (r:Rd H a u)(x:HOk P w H h):ObjOk P w H h a u:=by
 rcases r with r|⟨o,r⟩
 ·exact x a u r
 ·obtain⟨_,q⟩:=x a _ r;exact q
def Mut:Option HO->Prop
 |some (.lst _)=>True
 |some (.dK _)=>True
 |some (.dT _)=>True
 |some (.set _ _)=>True
 |some (.ins _ _ _)=>True
 |some (.ext _)=>True
 |_=>False
section
variable {P:Program}{w:World}{H:Hp}{h h':Heap}{x e:Addr}{o':HO}
theorem HOk.write (ok:HOk P w H h)(mu:Mut (H x))(he:e=x\/H e=some (.own x))(k:∀b u,b≠e->h.get? b=some u->h'.get? b=some u)(heo:∃u,h'.get? e=some u)
  (new:ObjOk P w (upd H x o') h' x o'):HOk P w (upd H x o') h':=λb u q=>by
 have nown:∀c y,H c=some (.own y)->c≠x:=λc y r z=>by subst z;rw[r]at mu;exact mu
 have ntup:∀c xs,H c=some (.tup xs)->c≠x:=λc xs r z=>by subst z;rw[r]at mu;exact mu
 have nfrz:∀c o u,H c=some (.frz o u)->c≠x:=λc o u r z=>by subst z;rw[r]at mu;exact mu
 by_cases hb:b=x
 ·subst hb;rw[upd_same]at q;cases q;exact new
 ·rw[upd_ne hb]at q;by_cases hbe:b=e
  ·have q':H b=some (.own x):=by
    rcases he with z|z
    ·exact absurd (hbe.trans z) hb
    ·rw[hbe];exact z
   rw[q]at q';cases q';obtain⟨v,hv⟩:=heo;exact⟨v,by rw[hbe];exact hv⟩
  ·refine(ok b u q).stay (λc v hc r=>k c v ?_ r) (λc r=>by rw[upd_ne (nown c b r)];exact r) (λc xs r=>by rw[upd_ne (ntup c xs r)];exact r) λc o u r=>by rw[upd_ne (nfrz c o u r)];exact r
   rcases hc with rfl|hc
   ·exact hbe
   ·rintro rfl;rcases he with z|z
    ·exact nown c b hc z
    ·rw[hc]at z;cases z;exact hb rfl
end
structure Un (fs ex:List Addr)(H H':Hp)(h h':Heap):Prop where
 keep:∀b o,h.get? b=some o->H b=none->b∉fs->b∉ex->h'.get? b=some o
 slot:∀b o,h.get? b=some o->H b=none->b∈fs->b∉ex->∃sl,h'.get? b=some { o with slots:=sl }
 free:∀b o,h.get? b=some o->H b=none->b∉ex->H' b=none
 there:∀b o,h.get? b=some o->b∉ex->∃o',h'.get? b=some o'
 tups:∀b xs,H b=some (.tup xs)->H' b=some (.tup xs)
 frzs:∀b o u,H b=some (.frz o u)->H' b=some (.frz o u)
 tbls:∀b ps,H b=some (.tbl ps)->∃more:Array Value,H' b=some (.tbl (ps++more))
section
variable {fs fs' ex ex':List Addr}{H H1 H2:Hp}{h h1 h2 h':Heap}{a x e:Addr}{o:HO}
theorem Un.any (u:Un fs ex H H1 h h1)(q:h.get? b=some ob)(n:H b=none)(hx:b∉ex):∃sl,h1.get? b=some { ob with slots:=sl }:=by
 by_cases hb:b∈fs
 ·exact u.slot b ob q n hb hx
 ·exact⟨ob.slots,u.keep b ob q n hb hx⟩
theorem Un.trans (a:Un fs ex H H1 h h1)(b:Un fs ex H1 H2 h1 h2):Un fs ex H H2 h h2 where
 keep:=λc ob q n hc hx=>b.keep c ob (a.keep c ob q n hc hx) (a.free c ob q n hx) hc hx
 slot:=λc ob q n hc hx=>by obtain⟨sl,e1⟩:=a.slot c ob q n hc hx;obtain⟨sl',e2⟩:=b.slot c _ e1 (a.free c ob q n hx) hc hx;exact⟨sl',e2⟩
 free:=λc ob q n hx=>by obtain⟨o',e1⟩:=a.there c ob q hx;exact b.free c o' e1 (a.free c ob q n hx) hx
 there:=λc ob q hx=>by obtain⟨o',e1⟩:=a.there c ob q hx;exact b.there c o' e1 hx
 tups:=λc xs q=>b.tups c xs (a.tups c xs q)
 frzs:=λc ob xs q=>b.frzs c ob xs (a.frzs c ob xs q)
 tbls:=λc ps q=>by obtain⟨m1,e1⟩:=a.tbls c ps q;obtain⟨m2,e2⟩:=b.tbls c _ e1;exact⟨m1++m2,by rw[e2,sy.append_assoc]⟩
theorem Un.kept (k:∀b u,h.get? b=some u->h'.get? b=some u):Un fs ex H H h h':=
 ⟨λb ob q _ _ _=>k b ob q,λb ob q _ _ _=>⟨ob.slots,k b ob q⟩,λ_ _ _ n _=>n,λb ob q _=>⟨ob,k b ob q⟩,λ_ _ q=>q,λ_ _ _ q=>q,λ_ ps q=>⟨#[],by rw[q];simp⟩⟩
theorem Un.refl:Un fs ex H H h h:=Un.kept λ_ _ q=>q
theorem Un.laid (k:∀b u,h.get? b=some u->h'.get? b=some u)(hp:h.objs.size<=a)(hn:H a=none):Un fs ex H (upd H a o) h h' where
 keep:=λb u q _ _ _=>k b u q
 slot:=λb u q _ _ _=>⟨u.slots,k b u q⟩
 free:=λb u q n _=>by rw[upd_ne (bn (aS (au q) hp))];exact n
 there:=λb u q _=>⟨u,k b u q⟩
 tups:=λb xs q=>by rw[upd_ne (ne_of_none q hn)];exact q
 frzs:=λb u xs q=>by rw[upd_ne (ne_of_none q hn)];exact q
 tbls:=λb ps q=>⟨#[],by rw[upd_ne (ne_of_none q hn),q];simp⟩
theorem Un.write (mu:Mut (H x))(he:e=x\/H e=some (.own x))(k:∀b u,b≠e->h.get? b=some u->h'.get? b=some u)(heo:∃u,h'.get? e=some u):Un fs ex H (upd H x o) h h':=by
 have hx:∀b,H b=none->b≠x:=λb n z=>by subst z;rw[n]at mu;exact mu
 have hb:∀b,H b=none->b≠e:=λb n z=>by
  subst z;rcases he with r|r
  ·exact hx b n r
  ·rw[n]at r;cases r
 have hm:∀b u,H b=some u->¬Mut (some u)->b≠x:=λb u q nm z=>by subst z;rw[q]at mu;exact nm mu
 refine⟨λb u q n _ _=>k b u (hb b n) q,λb u q n _ _=>⟨u.slots,k b u (hb b n) q⟩,λb u q n _=>by rw[upd_ne (hx b n)];exact n,λb u q _=>?_,
  λb xs q=>by rw[upd_ne (hm b _ q λz=>z)];exact q,λb u xs q=>by rw[upd_ne (hm b _ q λz=>z)];exact q,λb ps q=>⟨#[],by rw[upd_ne (hm b _ q λz=>z),q];simp⟩⟩
 by_cases hbe:b=e
 ·subst hbe;exact heo
 ·exact⟨u,k b u hbe q⟩
end
def trk (h:Heap)(H:Hp):List Addr:=(List.range h.objs.size).filter λa=>(H a).isSome
def hidT (h:Heap)(H:Hp):Heap:=W.hideAll h (trk h H)
theorem hidT_size (h:Heap)(H:Hp):(hidT h H).objs.size=h.objs.size:=W.hideAll_size _ _
theorem hidT_get (e:h.get? b=some o)(n:H b=none):(hidT h H).get? b=some o:=
 W.hideAll_get _ e λhm=>by have q:(H b).isSome=true:=(List.mem_filter.mp hm).2;rw[n]at q;simp at q
theorem of_hidT (e:(hidT h H).get? b=some o):h.get? b=some o/\H b=none:=by
 have e':h.get? b=some o:=W.of_hideAll (trk h H) e;refine⟨e',?_⟩;cases q:H b with
 |none=>rfl
 |some x=>have hm:b∈trk h H:=List.mem_filter.mpr ⟨dw.mpr (au e'),by simp[q]⟩;have z:(hidT h H).get? b=none:=W.hideAll_none (trk h H) hm;rw[z]at e;cases e
def allNews (g h:Heap)(L:Addr):List (Addr×Obj):=(List.range h.objs.size).filterMap λa=>if a=L\/(g.get? a).isSome=true then none else(h.get? a).map λo=>(a,o)
def rest (g h:Heap)(L d:Addr):List (Addr×Obj):=(allNews g h L).filter λp=>decide (p.1≠d)
def Qw (mg:Mg)(h:Heap):Prop:=∃bm ob,mg "__builtins__"=some (.ref bm)/\bm≠builtinsNs/\h.get? bm=some ob/\ob.cls=.type "module"/\ob.dict=some builtinsNs/\ob.data=.plain
structure Mod (K:Fg)(mg:Mg)(base:Heap):Prop where
 kin:K.In base
 glob:base.Ns mainGlobals mg
 blt:∃mb,base.Ns builtinsNs mb/\∀x:Str,x≠"__name__"->mb x=bootBuiltins x
 nolimit:base.NoLimit
 bm:Qw mg base
structure Cx where
 prog:Program
 w:World
 K:Fg
 mg:Str->Option Value
 base:Heap
 A:Around
 N:List Str
 s₀:Shared
 H₀:Hp
 env:Env
 outer:List Env
 stack:List Env
 ex:List Addr
 fn:Str->Bool
 calm:Bool
 pn:List (Addr×Obj)
 xe:Value->Shared->Prop
def frs (l:List Env):List Addr:=l.filterMap (·.frame)
abbrev Cx.fs (X:Cx):List Addr:=frs X.outer
def Vis (sc:Scope)(x:Str):Prop:=sc.names.lookup x=some .local\/sc.names.lookup x=some .cell\/sc.names.lookup x=some .free
def Loc (sc:Scope)(x:Str):Prop:=sc.names.lookup x=some .local\/sc.names.lookup x=some .cell
def Look (env:Env)(h:Heap)(m:Mg)(x:Str)(u:Value):Prop:=
 (env.kindOf x=some .local/\m x=some u)\/((env.kindOf x=some .cell\/env.kindOf x=some .free)/\∃c,env.cells.lookup x=some c/\h.IsCell c (some u))
def LC:Stmt->Bool
 | .Return (some (.Call _ _ [⟨_,.Lambda _ _ _ _,_⟩] _)) _=>true
 | .Return (some (.Tuple [_,.Call _ _ [⟨_,.Lambda _ _ _ _,_⟩] _] _ _)) _=>true
 |_=>false
def K6:FuncBody->Bool
 | .stmts ss=>ss.any LC
 |_=>false
def jr (K:Fg):List (Addr×Addr×Str):=K.filterMap λx=>match x.2.data with
 | .func fd=>if K6 fd.body=true then(match fd.code with
   | .ref c=>(match K.lookup c with
    |some ⟨_,_,.fields vs,_⟩=>(match (vs[11]?:Option Value) with
     |some (.ref P)=>if W.codeHdIn K c P=true then some (c,P,fd.qualname++".<locals>."++"<lambda>") else none
     |_=>none)
    |_=>none)
   |_=>none) else none
 |_=>none
structure TV (K:Fg)(H:Hp)(fs:List Addr):Prop where
 f:∀b∈fs,H b=none
 t:∀x∈jr K,∃ps,H x.2.1=some (.tbl ⟨x.2.2,ps⟩)
structure Cx.Ok (X:Cx):Prop where
 mod:Mod X.K X.mg X.base
 kind:X.env.scope.kind=.function
 glob:X.env.globals=mainGlobals
 blt:X.env.builtins=builtinsNs
 above:X.s₀.heap.objs.size<=X.env.locals
 inj:∀x y c,X.env.cells.lookup x=some c->X.env.cells.lookup y=some c->x=y
 has:∀x,(X.env.kindOf x=some .cell\/X.env.kindOf x=some .free)->∃c,X.env.cells.lookup x=some c
 cab:∀x c,X.fn x=true->X.env.cells.lookup x=some c->X.s₀.heap.objs.size<=c
 hd:X.calm=true->X.A.handled=none
 frames:X.A.frames=some X.stack
 stk:X.stack=X.outer\/(X.stack=X.env::X.outer/\X.env.frame=some X.env.locals)
 exf:∀b∈X.ex,b≠X.env.locals/\∀x c,X.env.cells.lookup x=some c->c≠b
 bs:∀b o,X.base.get? b=some o->X.s₀.heap.get? b=some o/\X.H₀ b=none
 bsz:X.base.objs.size<=X.s₀.heap.objs.size
 noex:∀b o,X.base.get? b=some o->b∉X.ex
 exfs:∀b∈X.ex,b∉X.fs
 funs:X.s₀.heap.FunFrames X.base X.outer
 frf:TV X.K X.H₀ X.fs
structure Inv (X:Cx)(pins:List (Addr×Obj))(σ:List (Option V))(H:Hp)(s:Shared):Prop where
 ok:X.Ok
 os:s.os=X.s₀.os
 bare:AllBare s.gens
 base:Un X.fs X.ex X.H₀ H X.s₀.heap s.heap
 loc:∃m,s.heap.Ns X.env.locals m/\∀(i:Nat) (x:Str) (v:V),X.N[i]?=some x->σ[i]?=some (some v)->Vis X.env.scope x->∃u,RelV v u/\Look X.env s.heap m x u
 cell:∀x c,X.env.cells.lookup x=some c->∃v,s.heap.IsCell c v
 free:H X.env.locals=none
 freeC:∀x c,X.env.cells.lookup x=some c->H c=none
 pin:∀p∈X.pn++pins,s.heap.get? p.1=some p.2/\H p.1=none/\p.1≠X.env.locals/\p.1∉X.fs/\∀v,p.2.data ≠ .cell v
 hok:HOk X.prog X.w H s.heap
 len:σ.length=X.N.length
section
variable {X:Cx}{pins:List (Addr×Obj)}{σ:List (Option V)}{H H':Hp}{s:Shared}{h':Heap}
theorem Cx.Ok.nofr (ok:X.Ok)(e:X.base.get? b=some o):b∉X.fs:=λhb=>by have:=(ok.funs.mem hb).1;rw[e]at this;cases this
theorem Inv.bs (I:Inv X pins σ H s):∀b o,X.base.get? b=some o->s.heap.get? b=some o/\H b=none:=λb o e=>
 ⟨I.base.keep b o (I.ok.bs b o e).1 (I.ok.bs b o e).2 (I.ok.nofr e) (I.ok.noex b o e),I.base.free b o (I.ok.bs b o e).1 (I.ok.bs b o e).2 (I.ok.noex b o e)⟩
theorem Inv.bk (I:Inv X pins σ H s):∀b o,X.base.get? b=some o->s.heap.get? b=some o:=λb o e=>(I.bs b o e).1
theorem Inv.mod (I:Inv X pins σ H s):Mod X.K X.mg X.base:=I.ok.mod
theorem Inv.kIn (I:Inv X pins σ H s):X.K.In s.heap:=I.ok.mod.kin.keeps I.bk
theorem Inv.fr (I:Inv X pins σ H s):∃m,Fr X.base X.env.locals s.heap m:=
 let ⟨m,hn,_⟩:=I.loc
 ⟨m,hn,I.bk,aA I.ok.bsz I.ok.above⟩
theorem Inv.lt (I:Inv X pins σ H s):X.env.locals<s.heap.objs.size:=let ⟨_,hn,_⟩:=I.loc;hn.lt
theorem Inv.sz (I:Inv X pins σ H s):X.s₀.heap.objs.size<=s.heap.objs.size:=aA I.ok.above (b0 I.lt)
theorem Inv.nofs (I:Inv X pins σ H s){a:Addr}(h:s.heap.objs.size<=a):a∉X.fs:=λhb=>by obtain⟨_,o,ho,_⟩:=I.ok.funs.mem hb;exact absurd (aS (au ho) (aA I.sz h)) (b7 _)
theorem Inv.cne (I:Inv X pins σ H s):∀x c,X.env.cells.lookup x=some c->c≠X.env.locals:=λx c e z=>by obtain⟨v,o,ho,hd⟩:=I.cell x c e;obtain⟨m,⟨o',es,ep,ho',hd',_⟩,_⟩:=I.loc;rw[z,ho']at ho;cases ho;rw[hd']at hd;cases hd
theorem Inv.funs (I:Inv X pins σ H s):s.heap.FunFrames X.base X.outer:=by
 have all:∀(l:List Env),(∀b∈frs l,b∈X.fs)->X.s₀.heap.FunFrames X.base l->s.heap.FunFrames X.base l:=by
  intro l
  induction l with
  |nil=>intro _ _;trivial
  |cons env r ih=>intro hs hl;obtain⟨hk,⟨L,o,hf,hn,ho,hd⟩,hr⟩:=hl;have hL:L∈X.fs:=hs L (by unfold frs;rw[bD,hf];exact aj);obtain⟨sl,e⟩:=I.base.slot L o ho (I.ok.frf.f L hL) hL λz=>I.ok.exfs L z hL;exact⟨hk,⟨L,_,hf,hn,e,hd⟩,ih (λb hb=>hs b (by unfold frs;rw[bD,hf];exact ae _ hb)) hr⟩
 exact all X.outer (λ_ hb=>hb) I.ok.funs
theorem Inv.stack (I:Inv X pins σ H s):s.heap.FunFrames X.base X.stack:=by
 rcases I.ok.stk with e|⟨e,hf⟩
 ·rw[e];exact I.funs
 ·rw[e];obtain⟨m,hn,_⟩:=I.loc;refine .cons (by rw[I.ok.kind];decide) hf hn ?_ I.funs;exact Heap.get?_none_of_le (aA I.ok.bsz I.ok.above)
theorem Inv.stkSub (I:Inv X pins σ H s):∀b∈frs X.stack,b∈X.env.locals::X.fs:=λb hb=>by
 rcases I.ok.stk with e|⟨e,hf⟩
 ·rw[e]at hb;exact ae _ hb
 ·rw[e]at hb;unfold frs at hb;rw[bD,hf]at hb;exact hb
theorem Inv.stkFree (I:Inv X pins σ H s):∀b∈frs X.stack,H b=none:=λb hb=>by
 rcases aq.mp (I.stkSub b hb) with e|hb
 ·rw[e];exact I.free
 ·obtain⟨_,o,ho,_⟩:=I.ok.funs.mem hb;exact I.base.free b o ho (I.ok.frf.f b hb) λz=>I.ok.exfs b z hb
theorem Inv.step {g':Array GenState}{t':Nat}{d':Drawn}{ch:List Addr}(I:Inv X pins σ H s)
  (hch:∀b∈ch,(b∈X.ex\/X.s₀.heap.objs.size<=b)/\b≠X.env.locals/\(∀x c,X.env.cells.lookup x=some c->c≠b)/\∀p∈X.pn++pins,p.1≠b)
  (keep:∀b o,b≠X.env.locals->b∉X.fs->b∉ch->s.heap.get? b=some o->H b=none->h'.get? b=some o)
  (slot:∀b o,b≠X.env.locals->b∈X.fs->b∉ch->s.heap.get? b=some o->H b=none->∃sl,h'.get? b=some { o with slots:=sl }) (free:∀b o,b∉ch->s.heap.get? b=some o->H b=none->H' b=none)
  (there:∀b o,b∉ch->s.heap.get? b=some o->∃o',h'.get? b=some o')
  (tups:∀b xs,H b=some (.tup xs)->H' b=some (.tup xs)) (frzs:∀b o u,H b=some (.frz o u)->H' b=some (.frz o u)) (tbls:∀b ps,H b=some (.tbl ps)->∃more:Array Value,H' b=some (.tbl (ps++more)))
  (ns:∀m,s.heap.Ns X.env.locals m->h'.Ns X.env.locals m) (hok:HOk X.prog X.w H' h') (hg:AllBare g') :
  Inv X pins σ H' { s with heap:=h',gens:=g',drawn:=d',toks:=t' }:=by
 have neL:∀b o,X.s₀.heap.get? b=some o->b≠X.env.locals:=λb o e=>bn (aS (au e) I.ok.above);have neC:∀b o,X.s₀.heap.get? b=some o->b∉X.ex->b∉ch:=λb o e hx hb=>by
  rcases (hch b hb).1 with z|z
  ·exact hx z
  ·exact absurd (aS (au e) z) (b7 _)
 have cellK:∀x c,X.env.cells.lookup x=some c->∀v,s.heap.IsCell c v->h'.IsCell c v:=λx c e v ⟨o,ho,hd⟩=>by
  have nch:c∉ch:=λz=>(hch c z).2.2.1 x c e rfl;by_cases hc:c∈X.fs
  ·obtain⟨sl,q⟩:=slot c o (I.cne x c e) hc nch ho (I.freeC x c e);exact⟨_,q,hd⟩
  ·exact⟨o,keep c o (I.cne x c e) hc nch ho (I.freeC x c e),hd⟩
 refine⟨I.ok,I.os,hg,⟨λb o e n hb hx=>?_,λb o e n hb hx=>?_,λb o e n hx=>?_,λb o e hx=>?_,λb xs e=>tups b xs (I.base.tups b xs e),λb o xs e=>frzs b o xs (I.base.frzs b o xs e),λb ps e=>?_⟩,?_,λx c e=>?_,?_,λx c e=>?_,λp hp=>?_,hok,I.len⟩
 ·exact keep b o (neL b o e) hb (neC b o e hx) (I.base.keep b o e n hb hx) (I.base.free b o e n hx)
 ·obtain⟨sl,e1⟩:=I.base.slot b o e n hb hx;obtain⟨sl',e2⟩:=slot b _ (neL b o e) hb (neC b o e hx) e1 (I.base.free b o e n hx);exact⟨sl',e2⟩
 ·obtain⟨o',e1⟩:=I.base.there b o e hx;exact free b o' (neC b o e hx) e1 (I.base.free b o e n hx)
 ·obtain⟨o',e1⟩:=I.base.there b o e hx;exact there b o' (neC b o e hx) e1
 ·obtain⟨m1,e1⟩:=I.base.tbls b ps e;obtain⟨m2,e2⟩:=tbls b _ e1;exact⟨m1++m2,by rw[e2,sy.append_assoc]⟩
 ·obtain⟨m,hn,hl⟩:=I.loc;refine⟨m,ns m hn,λi x v e1 e2 e3=>?_⟩;obtain⟨u,r,l⟩:=hl i x v e1 e2 e3;refine⟨u,r,?_⟩;rcases l with l|⟨k,c,e,z⟩
  ·exact .inl l
  ·exact .inr ⟨k,c,e,cellK x c e _ z⟩
 ·obtain⟨v,z⟩:=I.cell x c e;exact⟨v,cellK x c e v z⟩
 ·obtain⟨m,⟨o,_,_,ho,_⟩,_⟩:=I.loc;exact free _ o (λz=>(hch _ z).2.1 rfl) ho I.free
 ·obtain⟨v,o,ho,hd⟩:=I.cell x c e;exact free c o (λz=>(hch c z).2.2.1 x c e rfl) ho (I.freeC x c e)
 ·obtain⟨e,n,ne,nf,d⟩:=I.pin p hp;have nch:p.1∉ch:=λz=>(hch p.1 z).2.2.2 p hp rfl;exact⟨keep p.1 p.2 ne nf nch e n,free p.1 p.2 nch e n,ne,nf,d⟩
theorem Inv.un {t':Nat}(I:Inv X pins σ H s)(u:Un X.fs [] H H' s.heap h')(hok:HOk X.prog X.w H' h'):Inv X pins σ H' { s with heap:=h',toks:=t' }:=by
 obtain⟨m,⟨o,es,ep,ho,r⟩,_⟩:=id I.loc;obtain⟨sl,hL⟩:=u.any ho I.free (by simp);exact I.step (g':=s.gens) (d':=s.drawn) (ch:=[]) (λ_ z=>nomatch z) (λb o _ hb _ e n=>u.keep b o e n hb (by simp)) (λb o _ hb _ e n=>u.slot b o e n hb (by simp)) (λb o _ e n=>u.free b o e n (by simp)) (λb o _ e=>u.there b o e (by simp)) u.tups u.frzs u.tbls (λm' hm=>by
  obtain⟨o',es',ep',ho',r'⟩:=hm;rw[ho]at ho';cases ho';exact⟨_,es',ep',hL,r'⟩) hok I.bare
theorem Inv.call {g':Array GenState}{t':Nat}{d':Drawn}{ch:List Addr}(I:Inv X pins σ H s)(u:Un (frs X.stack) ch H H' s.heap h')(hok:HOk X.prog X.w H' h')(hg:AllBare g')
  (hch:∀b∈ch,(b∈X.ex\/X.s₀.heap.objs.size<=b)/\b≠X.env.locals/\(∀x c,X.env.cells.lookup x=some c->c≠b)/\∀p∈X.pn++pins,p.1≠b) :
  Inv X pins σ H' { s with heap:=h',gens:=g',drawn:=d',toks:=t' }:=by
 obtain⟨m,⟨o,es,ep,ho,r⟩,_⟩:=id I.loc;obtain⟨sl,hL⟩:=u.any ho I.free λz=>(hch _ z).2.1 rfl;exact I.step (ch:=ch) hch (λb o hL hb hc e n=>u.keep b o e n (λz=>(aq.mp (I.stkSub b z)).elim hL hb) hc) (λb o _ _ hc e n=>u.any e n hc) (λb o hc e n=>u.free b o e n hc) (λb o hc e=>u.there b o e hc) u.tups u.frzs u.tbls (λm' hm=>by
  obtain⟨o',es',ep',ho',r'⟩:=hm;rw[ho]at ho';cases ho';exact⟨_,es',ep',hL,r'⟩) hok hg
theorem Inv.turned {t':Nat}{it:Addr}(I:Inv X pins σ H s)(k:∀b o,b≠it->s.heap.get? b=some o->h'.get? b=some o)(hn:H it=none)(hL:it≠X.env.locals)
  (h1:it∈X.ex\/X.s₀.heap.objs.size<=it) (h2:∀x c,X.env.cells.lookup x=some c->c≠it) (h3:∀p∈X.pn++pins,p.1≠it):Inv X pins σ H { s with heap:=h',toks:=t' }:=by
 have nit:∀b u,H b=some u->b≠it:=λb u e z=>by rw[z,hn]at e;cases e
 refine I.step (g':=s.gens) (d':=s.drawn) (ch:=[it]) (λb hb=>?_) (λb o _ _ hc e _=>k b o (λz=>hc (by simp[z])) e) (λb o _ _ hc e _=>⟨o.slots,k b o (λz=>hc (by simp[z])) e⟩) (λ_ _ _ _ n=>n)
  (λb o hc e=>⟨o,k b o (λz=>hc (by simp[z])) e⟩) (λ_ _ e=>e) (λ_ _ _ e=>e) (λb ps e=>⟨#[],by rw[e];simp⟩) (λm hm=>?_) (λb u e=>?_) I.bare
 ·have e:b=it:=by simpa using hb
  subst e;exact⟨h1,hL,h2,h3⟩
 ·obtain⟨o,es,ep,ho,r⟩:=hm;exact⟨o,es,ep,k _ o (a9 hL) ho,r⟩
 ·refine(I.hok b u e).stay (λc v hc q=>k c v ?_ q) (λ_ q=>q) λ_ _ q=>q;rcases hc with z|z
  ·rw[z];exact nit b u e
  ·exact nit c _ z
theorem Inv.tok (I:Inv X pins σ H s)(t:Nat):Inv X pins σ H { s with toks:=t }:=I.un (h':=s.heap) (t':=t) Un.refl I.hok
theorem Inv.kept (I:Inv X pins σ H s)(k:∀b u,s.heap.get? b=some u->h'.get? b=some u):Inv X pins σ H { s with heap:=h',toks:=t' }:=I.un (Un.kept k) (I.hok.kept k)
theorem Inv.laid {a:Addr}{o:HO}{t':Nat}(I:Inv X pins σ H s)(k:∀b u,s.heap.get? b=some u->h'.get? b=some u)(hp:s.heap.objs.size<=a)(new:ObjOk X.prog X.w (upd H a o) h' a o) :
  Inv X pins σ (upd H a o) { s with heap:=h',toks:=t' }:=I.un (Un.laid k hp (I.hok.fresh hp)) (I.hok.laid k hp new)
theorem Inv.write (I:Inv X pins σ H s)(mu:Mut (H x))(he:e=x\/H e=some (.own x))(k:∀b u,b≠e->s.heap.get? b=some u->h'.get? b=some u)(heo:∃u,h'.get? e=some u)
  (new:ObjOk X.prog X.w (upd H x o) h' x o):Inv X pins σ (upd H x o) { s with heap:=h',toks:=t' }:=I.un (Un.write mu he k heo) (I.hok.write mu he k heo new)
theorem Inv.weak (I:Inv X pins σ H s)(hl:σ'.length=σ.length)(w:∀(i:Nat) v,σ'[i]?=some (some v)->σ[i]?=some (some v)):Inv X pins σ' H s:=
 ⟨I.ok,I.os,I.bare,I.base,let ⟨m,hn,hl'⟩:=I.loc;⟨m,hn,λi x v e1 e2 e3=>hl' i x v e1 (w i v e2) e3⟩,I.cell,I.free,I.freeC,I.pin,I.hok,hl.trans I.len⟩
theorem Inv.pins_of (I:Inv X pins σ H s)(h:∀p∈pins',s.heap.get? p.1=some p.2/\H p.1=none/\p.1≠X.env.locals/\p.1∉X.fs/\∀v,p.2.data ≠ .cell v):Inv X pins' σ H s:=
 ⟨I.ok,I.os,I.bare,I.base,I.loc,I.cell,I.free,I.freeC,λp hp=>(aV.mp hp).elim (λz=>I.pin p (cg _ z)) (h p),I.hok,I.len⟩
theorem nodup_ix {N:Ls}(hN:N.Nodup){i j:Nat}{x:Str}(a:N[i]?=some x)(b:N[j]?=some x):i=j:=by obtain⟨h1,e1⟩:=aZ.mp a;obtain⟨h2,e2⟩:=aZ.mp b;exact(List.getElem_inj hN).mp (e1.trans e2.symm)
theorem store_ok2 {M:Model}{A:Around}{E:Value->Shared->Prop}{i:Nat}{x:Str}{v:V}{u:Value}{Q:Unit->Shared->Prop}(I:Inv X pins σ H s)(hN:X.N.Nodup)(hi:X.N[i]?=some x)(hx:Loc X.env.scope x)(r:RelV v u)
  (h:∀s',Inv X pins (σ.set i (some v)) H s' -> (∃a,Heap.SameBut a s.heap s'.heap/\(a=X.env.locals\/X.env.cells.lookup x=some a))->Q () s') (hf:X.fn x=true\/X.env.scope.names.lookup x=some .local:=by walk_at "w"):wpAny M A (storeName X.env x u) Q E s:=by
 obtain⟨m,hn,hl⟩:=id I.loc;have hcls:(X.env.scope.kind == .class || (X.env.scope.kind == .module && X.env.locals != X.env.globals))=false:=by rw[I.ok.kind];rfl
 have hiσ:i<σ.length:=by rw[I.len];exact(aZ.mp hi).1
 have cne:=I.cne;have tracked:∀{a:Addr} {h':Heap},(∃o,s.heap.get? a=some o/\H a=none)->Heap.SameBut a s.heap h' -> HOk X.prog X.w H h':=λ{a h'} ha hs b ob e=>by
  obtain⟨_,_,hfree⟩:=ha;refine(I.hok b ob e).stay (λc w' hc q=>(hs.2 c ?_).trans q) (λ_ q=>q) λ_ _ q=>q;rintro rfl;rcases hc with rfl|hc
  ·rw[hfree]at e;cases e
  ·rw[hfree]at hc;cases hc
 rcases hx with hk|hk
 ·refine wpAny_storeName_local hk hn (λh' hn' hs=>?_) hcls;obtain⟨oL,_,_,hoL,_⟩:=id hn;refine h _ ⟨I.ok,I.os,I.bare,⟨λb o e n hb hx=>?_,λb o e n hb hx=>?_,I.base.free,λb o e hx=>?_,I.base.tups,I.base.frzs,I.base.tbls⟩,⟨_,hn',λj y v' e1 e2 e3=>?_⟩,λy c e=>?_,I.free,I.freeC,λp hp=>?_,tracked ⟨oL,hoL,I.free⟩ hs,by simpa using I.len⟩ ⟨_,hs,.inl rfl⟩
  ·exact(hs.2 b (bn (aS (au e) I.ok.above))).trans (I.base.keep b o e n hb hx)
  ·obtain⟨sl,e1⟩:=I.base.slot b o e n hb hx;exact⟨sl,(hs.2 b (bn (aS (au e) I.ok.above))).trans e1⟩
  ·obtain⟨o',e1⟩:=I.base.there b o e hx;exact⟨o',(hs.2 b (bn (aS (au e) I.ok.above))).trans e1⟩
  ·by_cases hj:j=i
   ·subst hj;rw[hi]at e1;cases e1;rw[fe hiσ]at e2;cases e2;exact⟨u,r,.inl ⟨hk,by simp⟩⟩
   ·rw[bI (a9 hj)]at e2;obtain⟨u',r',q⟩:=hl j y v' e1 e2 e3;refine⟨u',r',?_⟩;rcases q with⟨k,e⟩|⟨k,c,e,z⟩
    ·refine .inl ⟨k,?_⟩;have:y≠x:=λe=>hj (nodup_ix hN e1 (e ▸ hi));simp[this,e]
    ·exact .inr ⟨k,c,e,z.sameBut hs (cne y c e)⟩
  ·obtain⟨w',z⟩:=I.cell y c e;exact⟨w',z.sameBut hs (cne y c e)⟩
  ·obtain⟨e,n,ne,nf,d⟩:=I.pin p hp;exact⟨(hs.2 p.1 ne).trans e,n,ne,nf,d⟩
 ·have hfn:X.fn x=true:=by
   rcases hf with z|z
   ·exact z
   ·rw[z]at hk;cases hk
  obtain⟨c,hc⟩:=I.ok.has x (.inl hk);obtain⟨w',z⟩:=I.cell x c hc;refine wpAny_storeName_cell I.ok.kind hk hc z (λh' hc' hs=>?_);obtain⟨oc,hoc,hocd⟩:=id z;refine h { s with heap:=h' } ⟨I.ok,I.os,I.bare,⟨λb o e n hb hx=>?_,λb o e n hb hx=>?_,I.base.free,λb o e hx=>?_,I.base.tups,I.base.frzs,I.base.tbls⟩,⟨m,hn.sameBut hs (a9 (cne x c hc)),λj y v' e1 e2 e3=>?_⟩,λy c' e=>?_,I.free,I.freeC,λp hp=>?_,tracked ⟨oc,hoc,I.freeC x c hc⟩ hs,by simpa using I.len⟩ ⟨c,hs,.inr hc⟩
  ·exact(hs.2 b (bn (aS (au e) (I.ok.cab x c hfn hc)))).trans (I.base.keep b o e n hb hx)
  ·obtain⟨sl,e1⟩:=I.base.slot b o e n hb hx;exact⟨sl,(hs.2 b (bn (aS (au e) (I.ok.cab x c hfn hc)))).trans e1⟩
  ·obtain⟨o',e1⟩:=I.base.there b o e hx;exact⟨o',(hs.2 b (bn (aS (au e) (I.ok.cab x c hfn hc)))).trans e1⟩
  ·by_cases hj:j=i
   ·subst hj;rw[hi]at e1;cases e1;rw[fe hiσ]at e2;cases e2;exact⟨u,r,.inr ⟨.inl hk,c,hc,hc'⟩⟩
   ·rw[bI (a9 hj)]at e2;obtain⟨u',r',q⟩:=hl j y v' e1 e2 e3;refine⟨u',r',?_⟩;rcases q with q|⟨k,c',e,z'⟩
    ·exact .inl q
    ·refine .inr ⟨k,c',e,z'.sameBut hs ?_⟩;rintro rfl;exact hj (nodup_ix hN e1 (I.ok.inj _ _ _ e hc ▸ hi))
  ·by_cases hcc:c'=c
   ·subst hcc;exact⟨_,hc'⟩
   ·obtain⟨w2,z2⟩:=I.cell y c' e;exact⟨w2,z2.sameBut hs hcc⟩
  ·obtain⟨e,n,ne,nf,d⟩:=I.pin p hp;refine⟨(hs.2 p.1 ?_).trans e,n,ne,nf,d⟩;intro q;rw[q,hoc]at e;have q':oc=p.2:=aI e;exact d w' (by rw[<- q'];exact hocd)
theorem store_ok (I:Inv X pins σ H s)(hN:X.N.Nodup)(hi:X.N[i]?=some x)(hx:Loc X.env.scope x)(r:RelV v u)
  (h:∀s',Inv X pins (σ.set i (some v)) H s' -> Q () s') (hf:X.fn x=true\/X.env.scope.names.lookup x=some .local:=by walk_at "w"):wpAny M A (storeName X.env x u) Q E s:=
 store_ok2 I hN hi hx r (λs' I' _=>h s' I') hf
theorem Inv.call' (I:Inv X pins σ H s)(ho:s'.os=s.os)(u:Un (frs X.stack) ch H H' s.heap s'.heap)(hok:HOk X.prog X.w H' s'.heap)(hg:AllBare s'.gens)
  (hch:∀b∈ch,(b∈X.ex\/X.s₀.heap.objs.size<=b)/\b≠X.env.locals/\(∀x c,X.env.cells.lookup x=some c->c≠b)/\∀p∈X.pn++pins,p.1≠b):Inv X pins σ H' s':=by
 obtain⟨h',g',d',t',o'⟩:=s';have e:o'=s.os:=ho;subst e;exact I.call (g':=g') (t':=t') (d':=d') u hok hg hch
end
abbrev XK:=Value->Option Addr->Hp->Prop
abbrev St:=List (Option V)
abbrev VK:=V->Hp->Prop
abbrev TE:=St->Hp->VK->Prop
abbrev TT:=St->Hp->(Bool->Hp->Prop)->Prop
abbrev TA:=St->Hp->(List V->Hp->Prop)->Prop
structure Ends where
 nx:St->Hp->Prop
 rt:VK
 bk:St->Hp->Prop:=λ_ _=>False
 ct:St->Hp->Prop:=λ_ _=>False
abbrev TS:=Ends->St->Hp->Prop
def EP (X:Cx)(pins:List (Addr×Obj))(σ:St)(Q:VK)(u:Value)(s':Shared):Prop:=∃v H',Inv X pins σ H' s'/\RelV v u/\Q v H'
def TP (X:Cx)(pins:List (Addr×Obj))(σ:St)(Q:Bool->Hp->Prop)(b:Bool)(s':Shared):Prop:=∃H',Inv X pins σ H' s'/\Q b H'
def AP (X:Cx)(pins:List (Addr×Obj))(σ:St)(Q:List V->Hp->Prop)(us:List Value)(s':Shared):Prop:=∃vs H',Inv X pins σ H' s'/\Vals vs us/\Q vs H'
def SP (X:Cx)(pins:List (Addr×Obj))(D:Ends)(f:Flow)(s':Shared):Prop:=
 match f with
 | .next=>∃σ' H',Inv X pins σ' H' s'/\D.nx σ' H'
 | .brk=>∃σ' H',Inv X pins σ' H' s'/\D.bk σ' H'
 | .cont=>∃σ' H',Inv X pins σ' H' s'/\D.ct σ' H'
 | .ret u=>∃v σ' H',Inv X pins σ' H' s'/\RelV v u/\D.rt v H'
def PE (X:Cx)(e:Expr)(t:TE):Prop:=
 ∀(pins:List (Addr×Obj)) (s:Shared) (σ:St) (H:Hp) (Q:VK),Inv X pins σ H s->t σ H Q->wpAny (model X.prog X.w) X.A (eval e X.env) (EP X pins σ Q) X.xe s
def PT (X:Cx)(e:Expr)(t:TT):Prop:=
 ∀(pins:List (Addr×Obj)) (s:Shared) (σ:St) (H:Hp) (Q:Bool->Hp->Prop),Inv X pins σ H s->t σ H Q->wpAny (model X.prog X.w) X.A (isTrue e X.env (eval e X.env)) (TP X pins σ Q) X.xe s
def PW (X:Cx)(e:Expr)(t:TT):Prop:=
 ∀(whole:Sem Value) (pins:List (Addr×Obj)) (s:Shared) (σ:St) (H:Hp) (Q:Bool->Hp->Prop),Inv X pins σ H s->t σ H Q->wpAny (model X.prog X.w) X.A (isTrue e X.env whole) (TP X pins σ Q) X.xe s
theorem PW.pt (h:PW X e t):PT X e t:=h _
def PA (X:Cx)(es:List Expr)(t:TA):Prop:=
 ∀(pos:Pos) (pins:List (Addr×Obj)) (s:Shared) (σ:St) (H:Hp) (Q:List V->Hp->Prop),Inv X pins σ H s->t σ H Q->wpAny (model X.prog X.w) X.A (spliced (backTo pos (starEach es X.env))) (AP X pins σ Q) X.xe s
def PS (X:Cx)(st:Stmt)(t:TS):Prop:=
 ∀(pins:List (Addr×Obj)) (s:Shared) (σ:St) (H:Hp) (D:Ends),Inv X pins σ H s->t D σ H->wpAny (model X.prog X.w) X.A (exec st X.env) (SP X pins D) X.xe s
def PSs (X:Cx)(st:List Stmt)(t:TS):Prop:=
 ∀(pins:List (Addr×Obj)) (s:Shared) (σ:St) (H:Hp) (D:Ends),Inv X pins σ H s->t D σ H->wpAny (model X.prog X.w) X.A (execs st X.env) (SP X pins D) X.xe s
theorem thn {α:Type}{t:Sem α}{Q Q':α->Shared->Prop}{M:Model}{A:Around}{E:Value->Shared->Prop}{s:Shared}(h:wpAny M A t Q E s)(hQ:∀a s,Q a s->Q' a s):wpAny M A t Q' E s:=cJ h hQ λ_ _ x=>x
section
variable {X:Cx}
def tVar (i:Nat):TE:=λσ H Q=>∃v,σ[i]?=some (some v)/\Q v H
def tC (v:V):TE:=λ_ H Q=>Q v H
theorem pe_var (hN:X.N[i]?=some x)(hv:Vis X.env.scope x)(hd:(x == ("__debug__":Str))=false:=by decide)(hcd:(x == ("__classdict__":Str))=false:=by decide):PE X (.Name x pos) (tVar i):=by
 intro pins s σ H Q I h;obtain⟨v,e,h⟩:=h;obtain⟨m,hn,hl⟩:=I.loc;obtain⟨u,r,l⟩:=hl i x v hN e hv;have fin:EP X pins σ Q u s:=⟨v,H,I,r,h⟩;rcases l with⟨hk,hm⟩|⟨hk,c,hc,hcell⟩
 ·exact wpAny_Name (wpAny_loadName_local I.ok.kind hk hn hm fin) hd
 ·rcases hk with hk|hk
  ·exact wpAny_Name (wpAny_loadName_cell I.ok.kind hk hc hcell fin) hd
  ·exact wpAny_Name (wpAny_loadName_free I.ok.kind hk hc hcell fin hcd) hd
theorem pe_int:PE X (.Constant (.int i) j pos) (tC (.int i)):=λ_ _ _ H _ I h=>wpAny_Constant_int ⟨.int i,H,I.tok _,⟨_,rfl⟩,h⟩
theorem pe_bl:PE X (.Constant (.bool b) j pos) (tC (.bl b)):=λ_ _ _ H _ I h=>Constant_bool ⟨.bl b,H,I,rfl,h⟩
theorem pe_non:PE X (.Constant .none j pos) (tC .non):=λ_ _ _ H _ I h=>Constant_none ⟨.non,H,I,rfl,h⟩
theorem pe_str:PE X (.Constant (.str x) j pos) (tC (.str x)):=λ_ _ _ H _ I h=>bV ⟨.str x,H,I.tok _,⟨_,rfl⟩,h⟩
def Gl (X:Cx)(x:Str):Prop:=X.env.kindOf x=some .globalImplicit
theorem ld_glob (I:Inv X pins σ H s)(hg:Gl X x)(hm:X.mg x=some u)(h:Q u s)
  (hd:(x == ("__debug__":Str))=false:=by decide):wpAny (model X.prog X.w) X.A (eval (.Name x pos) X.env) Q E s:=
 dQ I.ok.kind hg (Calls.loadGlobal_global (by rw[I.ok.glob];exact I.mod.glob.keeps I.bk) hm h) hd
theorem ld_blt (I:Inv X pins σ H s)(hg:Gl X x)(hm:X.mg x=none)(hv:bootBuiltins x=some u)(h:Q u s)
  (hn:x≠"__name__":=by decide) (hd:(x == ("__debug__":Str))=false:=by decide):wpAny (model X.prog X.w) X.A (eval (.Name x pos) X.env) Q E s:=by
 obtain⟨mb,h1,h2⟩:=I.mod.blt;exact dQ I.ok.kind hg (Calls.loadGlobal_builtin (by rw[I.ok.glob];exact I.mod.glob.keeps I.bk) hm (by rw[I.ok.blt];exact h1.keeps I.bk) ((h2 x hn).trans hv) h) hd
theorem pe_glob (hg:Gl X x)(hm:X.mg x=some u)(r:RelV v u)(hd:(x == ("__debug__":Str))=false:=by decide):PE X (.Name x pos) (tC v):=
 λ_ _ _ H _ I h=>ld_glob I hg hm ⟨v,H,I,r,h⟩ hd
theorem pe_bltn (hg:Gl X x)(hm:X.mg x=none)(hv:bootBuiltins x=some u)(r:RelV v u)(hn:x≠"__name__":=by decide)(hd:(x == ("__debug__":Str))=false:=by decide):PE X (.Name x pos) (tC v):=
 λ_ _ _ H _ I h=>ld_blt I hg hm hv ⟨v,H,I,r,h⟩ hn hd
variable {a b:Expr}{ta tb:TE}{pos:Pos}
def tB (t:TE):TT:=λσ H Q=>t σ H λx H1=>∃c,x=.bl c/\Q c H1
theorem pt_val (h:PE X e t)(he:∀whole,isTrue e X.env whole=(do let v <- whole;standAt e.pos;holding [v] (truthy v)):=by intro _;rfl):PT X e (tB t):=by intro pins s σ H Q I hw;refine isTrue_plain (thn (h pins s σ H _ I hw) λv s1 ⟨x,H1,I1,r1,q1⟩=>?_) (he _);obtain⟨d,rfl,q⟩:=q1;cases r1;exact ck ⟨H1,I1,q⟩
variable {tA tB':TT}{rest:List Expr}
def tAnd (t u:TT):TT:=λσ H Q=>t σ H λc H1=>if c=true then u σ H1 Q else Q false H1
def tOr (t u:TT):TT:=λσ H Q=>t σ H λc H1=>if c=true then Q true H1 else u σ H1 Q
def tNot (t:TT):TT:=λσ H Q=>t σ H λc H1=>Q (!c) H1
theorem pw_and1 (ha:PT X a tA):PW X (.BoolOp .And [a] pos) tA:=by
 intro wh pins s σ H Q I h;refine isTrue_and (thn (ha pins s σ H Q I h) λc s1 e=>?_);cases c with
 |true=>exact isTrue_and_nil e
 |false=>exact e
theorem pw_or1 (ha:PT X a tA):PW X (.BoolOp .Or [a] pos) tA:=by
 intro wh pins s σ H Q I h;refine isTrue_or (thn (ha pins s σ H Q I h) λc s1 e=>?_);cases c with
 |false=>exact isTrue_or_nil e
 |true=>exact e
theorem pw_and (ha:PT X a tA)(hb:PW X (.BoolOp .And (b::rest) pos) tB'):PW X (.BoolOp .And (a::b::rest) pos) (tAnd tA tB'):=by
 intro wh pins s σ H Q I h;refine isTrue_and (thn (ha pins s σ H _ I h) λc s1 ⟨H1,I1,q1⟩=>?_);cases c with
 |true=>exact hb wh pins s1 σ H1 Q I1 q1
 |false=>exact⟨H1,I1,q1⟩
theorem pw_or (ha:PT X a tA)(hb:PW X (.BoolOp .Or (b::rest) pos) tB'):PW X (.BoolOp .Or (a::b::rest) pos) (tOr tA tB'):=by
 intro wh pins s σ H Q I h;refine isTrue_or (thn (ha pins s σ H _ I h) λc s1 ⟨H1,I1,q1⟩=>?_);cases c with
 |true=>exact⟨H1,I1,q1⟩
 |false=>exact hb wh pins s1 σ H1 Q I1 q1
theorem pt_not (ha:PT X a tA):PT X (.UnaryOp .Not a pos) (tNot tA):=by intro pins s σ H Q I h;exact isTrue_not (ha pins s σ H (λc H1=>Q (!c) H1) I h)
def tAndV (ta tb:TE):TE:=λσ H Q=>ta σ H λx H1=>∃c,x=.bl c/\if c=true then tb σ H1 Q else Q (.bl false) H1
def tNotV (ta:TE):TE:=λσ H Q=>ta σ H λx H1=>∃c,x=.bl c/\Q (.bl (!c)) H1
theorem pe_one (h:PE X a t):PE X (.BoolOp op [a] pos) t:=λpins s σ H Q I hw=>BoolOp_one (h pins s σ H Q I hw)
theorem pe_and (ha:PE X a ta)(hb:PE X (.BoolOp .And (b::rest) pos) tb):PE X (.BoolOp .And (a::b::rest) pos) (tAndV ta tb):=by
 intro pins s σ H Q I h;refine BoolOp_and (thn (ha pins s σ H _ I h) λv s1 ⟨x,H1,I1,r1,q1⟩=>?_);obtain⟨c,rfl,q1⟩:=q1;cases r1;refine ck ?_;cases c with
 |true=>exact hb pins s1 σ H1 Q I1 q1
 |false=>exact⟨.bl false,H1,I1,rfl,q1⟩
theorem pe_not (ha:PE X a ta):PE X (.UnaryOp .Not a pos) (tNotV ta):=by intro pins s σ H Q I h;refine UnaryOp_ (thn (ha pins s σ H _ I h) λv s1 ⟨x,H1,I1,r1,q1⟩=>?_);obtain⟨c,rfl,q1⟩:=q1;cases r1;exact not_of (ck ⟨.bl (!c),H1,I1,rfl,q1⟩)
def tIf (t:TT)(ta tb:TE):TE:=λσ H Q=>t σ H λc H1=>if c=true then ta σ H1 Q else tb σ H1 Q
theorem pe_ifExp (hc:PT X c tA)(ha:PE X a ta)(hb:PE X b tb):PE X (.IfExp c a b pos) (tIf tA ta tb):=by
 intro pins s σ H Q I h;refine wpAny_IfExp (thn (hc pins s σ H _ I h) λd s1 ⟨H1,I1,q1⟩=>?_);cases d with
 |true=>exact ha pins s1 σ H1 Q I1 q1
 |false=>exact hb pins s1 σ H1 Q I1 q1
end
def SqL (K:Fg)(H:Hp)(a:Addr)(xs:List V):Prop:=
 Rd H a (.lst xs) \/
  ∃(o:Obj) (its:Array Value) (n:Nat),K.lookup a=some o/\o.cls=.type "list"/\o.dict=none/\o.data=.seq its n/\its.size<=sizeLine/\Vals xs its.toList
def SqT (K:Fg)(H:Hp)(a:Addr)(xs:List V):Prop:=
 Rd H a (.tup xs) \/
  ∃(o:Obj) (its:Array Value) (n:Nat),K.lookup a=some o/\o.cls=.type "tuple"/\o.data=.seq its n/\its.size<=sizeLine/\Vals xs its.toList
def absV:Value->Option V
 | .none=>some .non
 | .bool b=>some (.bl b)
 | .int i _=>some (.int i)
 | .str x _=>some (.str x)
 | .bytes b _=>some (.byt b)
 | .float b _=>some (.flt b)
 | .ref a=>some (.ref a)
 | .type n=>some (.ty n)
 |_=>none
theorem RelV.abs (r:RelV x u):absV u=some x:=by
 cases x with
 |non=>cases r;rfl
 |bl _=>cases r;rfl
 |int _=>obtain⟨t,rfl⟩:=r;rfl
 |str _=>obtain⟨t,rfl⟩:=r;rfl
 |byt _=>obtain⟨t,rfl⟩:=r;rfl
 |flt _=>obtain⟨t,rfl⟩:=r;rfl
 |ref _=>cases r;rfl
 |ty _=>cases r;rfl
theorem RelV.inj (r:RelV x u)(q:RelV y u):x=y:=aI (r.abs.symm.trans q.abs)
theorem Vals.inj:∀{xs ys:List V} {us:Lv},Vals xs us->Vals ys us->xs=ys
 |_,_,_,.nil,.nil=>rfl
 |_,_,_,.cons r t,.cons r' t'=>by rw[r.inj r',Vals.inj t t']
section
variable {X:Cx}{pins:List (Addr×Obj)}{σ:St}{H:Hp}{s:Shared}{a:Addr}{xs ys:List V}
theorem SqL.of {K:Fg}(h:H a=some (.lst xs)):SqL K H a xs:=.inl (.inl h)
theorem SqT.of {K:Fg}(h:H a=some (.tup xs)):SqT K H a xs:=.inl (.inl h)
theorem Inv.list (I:Inv X pins σ H s)(h:SqL X.K H a xs):∃its:List Value,Vals xs its/\PlainL s.heap a its.toArray/\xs.length<=sizeLine:=by
 rcases h with h|⟨o,its,n,hk,hc,hd,hs,hz,r⟩
 ·obtain⟨z,its,n,r,e⟩:=h.ok I.hok;exact⟨its,r,⟨_,n,e,rfl,rfl,rfl⟩,z⟩
 ·refine⟨its.toList,r,⟨o,n,I.kIn a o hk,hc,hd,by simpa using hs⟩,?_⟩;have e:=r.length;simp only[bf]at e;lia
theorem Inv.tuple (I:Inv X pins σ H s)(h:SqT X.K H a xs):∃its:List Value,Vals xs its/\IsTup s.heap a its.toArray/\xs.length<=sizeLine:=by
 rcases h with h|⟨o,its,n,hk,hc,hs,hz,r⟩
 ·obtain⟨z,its,r,p⟩:=h.ok I.hok;exact⟨its,r,p,z⟩
 ·refine⟨its.toList,r,⟨o,I.kIn a o hk,hc,n,by simpa using hs⟩,?_⟩;have e:=r.length;simp only[bf]at e;lia
theorem Inv.list_inj (I:Inv X pins σ H s)(h:SqL X.K H a xs)(h':SqL X.K H a ys):xs=ys:=by
 obtain⟨its,r,⟨o,n,e,_,_,d⟩,_⟩:=I.list h;obtain⟨its',r',⟨o',n',e',_,_,d'⟩,_⟩:=I.list h';rw[e]at e';cases e';rw[d]at d';injection d' with d1 _;have:its=its':=by simpa using congrArg Array.toList d1
 subst this;exact r.inj r'
end
abbrev Cx.wish (X:Cx)(E:Value->Shared->Prop):Cx:={ X with xe:=E }
abbrev Cx.nox (X:Cx):Cx:=X.wish λ_ _=>False
theorem Cx.Ok.wish {X:Cx}(ok:X.Ok)(E:Value->Shared->Prop):(X.wish E).Ok:=
 ⟨ok.mod,ok.kind,ok.glob,ok.blt,ok.above,ok.inj,ok.has,ok.cab,ok.hd,ok.frames,ok.stk,ok.exf,ok.bs,ok.bsz,ok.noex,ok.exfs,ok.funs,ok.frf⟩
theorem Cx.Ok.unwish {X:Cx}{E:Value->Shared->Prop}(ok:(X.wish E).Ok):X.Ok:=
 ⟨ok.mod,ok.kind,ok.glob,ok.blt,ok.above,ok.inj,ok.has,ok.cab,ok.hd,ok.frames,ok.stk,ok.exf,ok.bs,ok.bsz,ok.noex,ok.exfs,ok.funs,ok.frf⟩
section
variable {X:Cx}{pins:List (Addr×Obj)}{σ:St}{H:Hp}{s:Shared}{E:Value->Shared->Prop}
theorem Inv.wish (I:Inv X pins σ H s)(E:Value->Shared->Prop):Inv (X.wish E) pins σ H s:=⟨I.ok.wish E,I.os,I.bare,I.base,I.loc,I.cell,I.free,I.freeC,I.pin,I.hok,I.len⟩
theorem Inv.unwish (I:Inv (X.wish E) pins σ H s):Inv X pins σ H s:=⟨I.ok.unwish,I.os,I.bare,I.base,I.loc,I.cell,I.free,I.freeC,I.pin,I.hok,I.len⟩
theorem SP.unwish (h:SP (X.wish E) pins D f s'):SP X pins D f s':=by
 cases f with
 |next=>obtain⟨σ',H',I,q⟩:=h;exact⟨σ',H',I.unwish,q⟩
 |brk=>obtain⟨σ',H',I,q⟩:=h;exact⟨σ',H',I.unwish,q⟩
 |cont=>obtain⟨σ',H',I,q⟩:=h;exact⟨σ',H',I.unwish,q⟩
 |ret u=>obtain⟨v,σ',H',I,r,q⟩:=h;exact⟨v,σ',H',I.unwish,r,q⟩
theorem PSs.nox {st:List Stmt}{t:TS}(h:PSs X.nox st t):PSs X st t:=λpins s σ H D I hw=>
 cJ (h pins s σ H D (I.wish _) hw) (λ_ _ q=>q.unwish) λ_ _ z=>False.elim z
end
section
variable {X:Cx}{st:Stmt}{rest:List Stmt}{t u:TS}{e:Expr}{te:TE}{pos:Pos}
def tNext:TS:=λD σ H=>D.nx σ H
def tSeq (t u:TS):TS:=λD σ H=>t { D with nx:=u D } σ H
theorem pss_nil:PSs X [] tNext:=λ_ _ σ H _ I h=>dk ⟨σ,H,I,h⟩
theorem pss_cons (h1:PS X st t)(h2:PSs X rest u):PSs X (st::rest) (tSeq t u):=by
 intro pins s σ H D I h;refine eP (thn (h1 pins s σ H { D with nx:=u D } I h) λf s1 q=>?_);cases f with
 |next=>obtain⟨σ',H',I',q⟩:=q;exact h2 pins s1 σ' H' D I' q
 |ret v=>exact q
 |brk=>exact q
 |cont=>exact q
theorem pss_one (h1:PS X st t):PSs X [st] t:=by
 intro pins s σ H D I h;refine eP (thn (h1 pins s σ H D I h) λf s1 q=>?_);cases f with
 |next=>exact dk q
 |ret v=>exact q
 |brk=>exact q
 |cont=>exact q
theorem Inv.quiet (I:Inv X pins σ H s):interactive X.env=false:=by simp[interactive,I.ok.kind]
def tDrop (te:TE):TS:=λD σ H=>te σ H λ_ H1=>D.nx σ H1
theorem ps_expr (he:PE X e te)(hs:swapsWith e none pos.line X.env=pure false:=by rfl):PS X (.Expr e pos) (tDrop te):=by intro pins s σ H D I h;exact wpAny_Expr_any (thn (he pins s σ H _ I h) λv s1 ⟨x,H1,I1,r1,q1⟩=>⟨σ,H1,I1,q1⟩) I.quiet hs
def tRet (te:TE):TS:=λD σ H=>te σ H D.rt
theorem ps_ret (he:PE X e te):PS X (.Return (some e) pos) (tRet te):=by intro pins s σ H D I h;exact wpAny_Return_some (thn (he pins s σ H _ I h) λv s1 ⟨x,H1,I1,r1,q1⟩=>⟨x,σ,H1,I1,r1,q1⟩)
def tIfS (c:TT)(t u:TS):TS:=λD σ H=>c σ H λb H1=>if b=true then t D σ H1 else u D σ H1
theorem ps_if (hc:PT X c tc)(ha:PSs X a t)(hb:PSs X b u):PS X (.If c a b pos) (tIfS tc t u):=by
 intro pins s σ H D I h;refine wpAny_If (thn (hc pins s σ H _ I h) λd s1 ⟨H1,I1,q1⟩=>?_);cases d with
 |true=>exact ha pins s1 σ H1 D I1 q1
 |false=>exact hb pins s1 σ H1 D I1 q1
end
abbrev TG:=V->St->Hp->(St->Hp->Prop)->Prop
abbrev TGs:=List V->St->Hp->(St->Hp->Prop)->Prop
def PG (X:Cx)(target:Expr)(t:TG):Prop:=
 ∀(pins:List (Addr×Obj)) (s:Shared) (σ:St) (H:Hp) (v:V) (u:Value) (Q:St->Hp->Prop),Inv X pins σ H s->RelV v u->t v σ H Q ->
  wpAny (model X.prog X.w) X.A (assign target X.env u) (λ_ s'=>∃σ' H',Inv X pins σ' H' s'/\Q σ' H') X.xe s
def PGs (X:Cx)(ts:List Expr)(t:TGs):Prop:=
 ∀(pins:List (Addr×Obj)) (s:Shared) (σ:St) (H:Hp) (vs:List V) (us:List Value) (Q:St->Hp->Prop),Inv X pins σ H s->Vals vs us->t vs σ H Q ->
  wpAny (model X.prog X.w) X.A (assignInOrder ((assignEach ts X.env).map (·.2)) us) (λ_ s'=>∃σ' H',Inv X pins σ' H' s'/\Q σ' H') X.xe s
abbrev TSet:=V->V->V->Hp->(Hp->Prop)->Prop
def PSet (X:Cx)(t:TSet):Prop:=
 ∀(pins:List (Addr×Obj)) (s:Shared) (σ:St) (H:Hp) (o i v:V) (ov iv u:Value) (Q:Hp->Prop),Inv X pins σ H s->RelV o ov->RelV i iv->RelV v u->t o i v H Q ->
  wpAny (model X.prog X.w) X.A (setItem ov iv u) (λ_ s'=>∃H',Inv X pins σ H' s'/\Q H') X.xe s
abbrev TIp:=V->V->Hp->VK->Prop
def PIp (X:Cx)(op:Operator)(t:TIp):Prop:=
 ∀(pins:List (Addr×Obj)) (s:Shared) (σ:St) (H:Hp) (x y:V) (v u:Value) (Q:VK),Inv X pins σ H s->RelV x v->RelV y u->t x y H Q ->
  wpAny (model X.prog X.w) X.A (inplaceOp op v u) (EP X pins σ Q) X.xe s
section
variable {X:Cx}{pos:Pos}
def gName (i:Nat):TG:=λv σ H Q=>Q (σ.set i (some v)) H
theorem pg_name (hN:X.N.Nodup)(hi:X.N[i]?=some x)(hx:Loc X.env.scope x)(hf:X.fn x=true\/X.env.scope.names.lookup x=some .local:=by walk_at "w"):PG X (.Name x pos) (gName i):=by intro pins s σ H v u Q I r h;exact wpAny_assign_Name (store_ok I hN hi hx r (λs' I'=>⟨_,H,I',h⟩) hf)
def gNil:TGs:=λvs σ H Q=>vs=[]/\Q σ H
def gCons (t:TG)(u:TGs):TGs:=λvs σ H Q=>∃v r,vs=v::r/\t v σ H λσ' H'=>u r σ' H' Q
theorem pgs_nil:PGs X [] gNil:=by intro pins s σ H vs us Q I r h;obtain⟨e,h⟩:=h;subst e;cases r;exact assignInOrder_nil ⟨σ,H,I,h⟩
theorem pgs_cons (h1:PG X e t)(h2:PGs X es u)
  (hs:(assignEach (e::es) X.env).map (·.2)=assign e X.env::(assignEach es X.env).map (·.2):=by rfl):PGs X (e::es) (gCons t u):=by
 intro pins s σ H vs us Q I r h;obtain⟨v,vr,e1,h⟩:=h;subst e1;cases r with
 |cons r rr=>rw[hs];refine assignInOrder_cons (thn (h1 pins s σ H _ _ _ I r h) λ_ s1 ⟨σ1,H1,I1,q1⟩=>?_);exact h2 pins s1 σ1 H1 _ _ Q I1 rr q1
def gTup (K:Fg)(n:Nat)(t:TGs):TG:=λv σ H Q=>∃a xs,v=.ref a/\SqT K H a xs/\xs.length=n/\t xs σ H Q
theorem pg_tup (hc:X.calm=true)(h:PGs X es t)
  (hn:(assignEach es X.env).length=n:=by rfl) (hst:(assignEach es X.env).findIdx? (·.1)=none:=by rfl):PG X (.Tuple es k pos) (gTup X.K n t):=by
 intro pins s σ H v u Q I r hw;obtain⟨a,xs,e1,hq,hl,hw⟩:=hw;subst e1;cases r;obtain⟨its,rv,ht,hz⟩:=I.tuple hq;refine assign_Tuple_tuple (I.ok.hd hc) ht (by simp[hn,<- hl,rv.length]) hst λh' hx=>?_;have I1:Inv X pins σ H { s with heap:=h' }:=I.kept (t':=s.toks) λb o e=>hx b o (bn (au e)) e;exact h pins _ σ H xs _ Q I1 (by simpa using rv) hw
def tAsg (te:TE)(g:TG):TS:=λD σ H=>te σ H λx H1=>g x σ H1 D.nx
theorem ps_asg (he:PE X e te)(hg:PG X tg g)(hs:swapsWithSole [tg] e pos.line X.env=pure false:=by rfl)(hw:swappedStores [tg] e X.env=pure none:=by rfl)
  (h1:(assignEach [tg] X.env).map (·.2)=[assign tg X.env]:=by rfl):PS X (.Assign [tg] e pos) (tAsg te g):=by
 intro pins s σ H D I h;refine wpAny_Assign_stores (thn (he pins s σ H _ I h) λv s1 ⟨x,H1,I1,r1,q1⟩=>?_) hs hw;rw[h1];exact thn (hg pins s1 σ H1 x v _ I1 r1 q1) λ_ s2 q=>q
theorem ps_set (hN:X.N.Nodup)(hi:X.N[i]?=some x)(hx:Loc X.env.scope x)(he:PE X e te)(hs:swapsWith e (some (.Name x pos')) pos.line X.env=pure false:=by rfl)(hf:X.fn x=true\/X.env.scope.names.lookup x=some .local:=by walk_at "w") :
  PS X (.Assign [.Name x pos'] e pos) (tAsg te (gName i)):=by
 intro pins s σ H D I h;refine wpAny_Assign_Name (thn (he pins s σ H _ I h) λv s1 ⟨y,H1,I1,r1,q1⟩=>?_) hs;exact store_ok I1 hN hi hx r1 (λs2 I2=>⟨_,H1,I2,q1⟩) hf
def tAug (i:Nat)(te:TE)(ti:TIp):TS:=λD σ H=>∃x,σ[i]?=some (some x)/\te σ H λy H1=>ti x y H1 λz H2=>D.nx (σ.set i (some z)) H2
theorem ps_aug (hN:X.N.Nodup)(hi:X.N[i]?=some x)(hx:Loc X.env.scope x)(he:PE X e te)(ho:PIp X op ti)(hf:X.fn x=true\/X.env.scope.names.lookup x=some .local:=by walk_at "w") :
  PS X (.AugAssign (.Name x pos') op e pos) (tAug i te ti):=by
 intro pins s σ H D I h;obtain⟨v,e1,h⟩:=h;obtain⟨m,hn,hl⟩:=I.loc;have vis:Vis X.env.scope x:=by rcases hx with k|k;exact .inl k;exact .inr (.inl k)
 obtain⟨u,r,l⟩:=hl i x v hi e1 vis;refine wpAny_AugAssign_Name ?_;have go:wpAny (model X.prog X.w) X.A (eval e X.env) (λw s₂=>wpAny (model X.prog X.w) X.A (inplaceOp op u w) (λr s₃=>wpAny (model X.prog X.w) X.A (storeName X.env x r) (λ_=>SP X pins D .next) X.xe s₃) X.xe s₂) X.xe s:=by refine thn (he pins s σ H _ I h) λw s1 ⟨y,H1,I1,r1,q1⟩=>?_;refine thn (ho pins s1 σ H1 v y u w _ I1 r r1 q1) λz s2 ⟨zv,H2,I2,r2,q2⟩=>?_;exact store_ok I2 hN hi hx r2 (λs3 I3=>⟨_,H2,I3,q2⟩) hf
 rcases l with⟨hk,hm⟩|⟨hk,c,hc,hcell⟩
 ·exact wpAny_loadName_local I.ok.kind hk hn hm go
 ·rcases hk with hk|hk
  ·exact wpAny_loadName_cell I.ok.kind hk hc hcell go
  ·rcases hx with k|k
   ·have:X.env.scope.names.lookup x=some .free:=hk;rw[k]at this;cases this
   ·have:X.env.scope.names.lookup x=some .free:=hk;rw[k]at this;cases this
def tAugS (to ti te:TE)(tget:V->V->Hp->VK->Prop)(tip:TIp)(tset:TSet):TS:=λD σ H=>to σ H λo H1=>ti σ H1 λi H2=>tget o i H2 λx H3=>te σ H3 λy H4=>tip x y H4 λz H5=>tset o i z H5 λH6=>D.nx σ H6
def PGet (X:Cx)(t:V->V->Hp->VK->Prop):Prop:=
 ∀(pins:List (Addr×Obj)) (s:Shared) (σ:St) (H:Hp) (o i:V) (ov iv:Value) (Q:VK),Inv X pins σ H s->RelV o ov->RelV i iv->t o i H Q ->
  wpAny (model X.prog X.w) X.A (getItem ov iv) (EP X pins σ Q) X.xe s
theorem ps_augS (ho:PE X o to)(hi:PE X i ti)(hg:PGet X tget)(he:PE X e te)(hp:PIp X op tip)(hs:PSet X tset)
  (ha:∀ov iv new,augStore i ov iv new=(do holding [new,ov,iv] (setItem ov iv new);release [new,ov,iv] [];pure .next):=by intros;rfl):PS X (.AugAssign (.Subscript o i tpos) op e pos) (tAugS to ti te tget tip tset):=by
 intro pins s σ H D I h;refine wpAny_AugAssign_SubscriptAny (thn (ho pins s σ H _ I h) λov s1 ⟨x1,H1,I1,r1,q1⟩=>?_) ha;refine thn (hi pins s1 σ H1 _ I1 q1) λiv s2 ⟨x2,H2,I2,r2,q2⟩=>?_;refine thn (hg pins s2 σ H2 x1 x2 ov iv _ I2 r1 r2 q2) λold s3 ⟨x3,H3,I3,r3,q3⟩=>?_;refine thn (he pins s3 σ H3 _ I3 q3) λv s4 ⟨x4,H4,I4,r4,q4⟩=>?_;refine thn (hp pins s4 σ H4 x3 x4 old v _ I4 r3 r4 q4) λnew s5 ⟨x5,H5,I5,r5,q5⟩=>?_;exact thn (hs pins s5 σ H5 x1 x2 x5 ov iv new _ I5 r1 r2 r5 q5) λ_ s6 ⟨H6,I6,q6⟩=>⟨σ,H6,I6,q6⟩
def ipI (f:Int->Int->Int):TIp:=λx y H Q=>∃i j,x=.int i/\y=.int j/\Q (.int (f i j)) H
theorem ip_add:PIp X .Add (ipI λi j=>i+j):=by intro pins s σ H x y v u Q I r1 r2 h;obtain⟨i,j,e1,e2,q⟩:=h;subst e1;subst e2;obtain⟨t,rfl⟩:=r1;obtain⟨t',rfl⟩:=r2;exact iadd_int ⟨.int _,H,I.tok _,⟨_,rfl⟩,q⟩
end
section
variable {X:Cx}{pos:Pos}
def tWhile (c:TT)(tb:TS):TS:=λD σ H=>∃W:Nat->St->Hp->Prop,(∃m,W m σ H)/\∀m σ H,W m σ H ->
 c σ H λb H1=>if b=true then ∃N:St->Hp->Prop,(∀σ' H',N σ' H' -> ∃m',m'<m/\W m' σ' H')/\tb { D with nx:=N,ct:=N,bk:=D.nx } σ H1 else D.nx σ H1
theorem ps_while (hp:PassesOwn (model X.prog X.w) X.A X.env X.xe)(hc:PT X c tc)(hb:PSs X body tb):PS X (.While c body [] pos) (tWhile tc tb):=by
 intro pins s σ H D I h;obtain⟨W,⟨m0,w0⟩,turn⟩:=h;refine wpAny_While (codeAny_whileLoop (λn s'=>∃σ' H',Inv X pins σ' H' s'/\W n σ' H') ?_ m0 ⟨σ,H,I,w0⟩);rintro n s1 ⟨σ1,H1,I1,w1⟩;refine cD hp (thn (hc pins s1 σ1 H1 _ I1 (turn n σ1 H1 w1)) λb s2 ⟨H2,I2,q2⟩=>?_);cases b with
 |true=>
  obtain⟨N,hN,q2⟩:=q2;rw[ak rfl];refine cD hp (thn (hb pins s2 σ1 H2 _ I2 q2) λf s3 q3=>?_);cases f with
  |next=>obtain⟨σ3,H3,I3,n3⟩:=q3;obtain⟨m',hm,w3⟩:=hN σ3 H3 n3;exact⟨m',hm,σ3,H3,I3,w3⟩
  |cont=>obtain⟨σ3,H3,I3,n3⟩:=q3;obtain⟨m',hm,w3⟩:=hN σ3 H3 n3;exact⟨m',hm,σ3,H3,I3,w3⟩
  |brk=>exact q3
  |ret v=>exact q3
 |false=>rw[ai aD];exact dk ⟨σ1,H2,I2,q2⟩
end
structure It where
 go:Nat->Hp->Prop
 yld:Nat->Hp->V->Hp->Prop
 stop:Nat->Hp->Prop
def FpOk (X:Cx)(pins:List (Addr×Obj))(H:Hp)(b:Addr):Prop:=
 H b=none/\b≠X.env.locals/\b∉X.fs/\(b∈X.ex\/X.s₀.heap.objs.size<=b)/\(∀x c,X.env.cells.lookup x=some c->c≠b)/\∀p∈X.pn++pins,p.1≠b
theorem Inv.fpOk {X:Cx}{pins:List (Addr×Obj)}{σ:St}{H H':Hp}{s:Shared}{b:Addr}(I:Inv X pins σ H s)(hb:s.heap.objs.size<=b)(hn:H' b=none):FpOk X pins H' b:=by
 refine⟨hn,cO (aS I.lt hb),I.nofs hb,.inr (aA I.sz hb),λx c e z=>?_,λp hp z=>?_⟩
 ·obtain⟨v,q⟩:=I.cell x c e;exact absurd (aS q.lt (by rw[z];exact hb)) (b7 _)
 ·exact absurd (aS (au (I.pin p hp).1) (by rw[z];exact hb)) (b7 _)
structure Turn (P:Program)(w:World)(K:Fg)(tg:Expr)(J:It)(fp:List Addr)(it:Addr)(tn:Nat->Heap->Prop):Prop where
 mem:it∈fp
 obj:∀i h,tn i h->∀b∈fp,∃o,h.get? b=some o/\∀v,o.data ≠ .cell v
 keep:∀i h h',tn i h->(∀b∈fp,∀o,h.get? b=some o->h'.get? b=some o)->tn i h'
 item:∀(X:Cx),X.prog=P->X.w=w->X.K=K->X.calm=true->∀(i:Nat) (pins:List (Addr×Obj)) (s:Shared) (σ:St) (H:Hp) (E:Value->Shared->Prop),Inv X pins σ H s->(∀b∈fp,FpOk X pins H b)->tn i s.heap->J.go i H ->
  wpAny (model P w) X.A (pyNext (.ref it)) (λr s1=>∃u,r=some u /\
   wpAny (model P w) X.A (letOwnedTupleGo tg (.ref it) u) (λ_ s2=>∃x H',Inv X pins σ H' s2/\RelV x u/\J.yld i H x H'/\tn (i+1) s2.heap/\∀b∈fp,H' b=none) E s1) E s
 done:∀(X:Cx),X.prog=P->X.w=w->X.K=K->X.calm=true->∀(i:Nat) (pins:List (Addr×Obj)) (s:Shared) (σ:St) (H:Hp) (E:Value->Shared->Prop),Inv X pins σ H s->(∀b∈fp,FpOk X pins H b)->tn i s.heap->J.stop i H ->
  wpAny (model P w) X.A (pyNext (.ref it)) (λr s1=>r=none/\Inv X pins σ H s1) E s
 self:∀(A:Around) (i:Nat) (s:Shared) (Q:Value->Shared->Prop) (E:Value->Shared->Prop),tn i s.heap->Q (.ref it) s->wpAny (model P w) A (pyIter (.ref it)) Q E s
abbrev TI:=St->Hp->(It->Hp->Prop)->Prop
def PIE (X:Cx)(pins:List (Addr×Obj))(σ:St)(tg:Expr)(R:It->Hp->Prop)(itv:Value)(s2:Shared):Prop:=
 ∃(it:Addr) (fp:List Addr) (tn:Nat->Heap->Prop) (J:It) (H':Hp),itv=.ref it/\Inv X pins σ H' s2/\Turn X.prog X.w X.K tg J fp it tn/\tn 0 s2.heap/\(∀b∈fp,FpOk X pins H' b)/\R J H'
def PI (X:Cx)(tg iter:Expr)(wi:TI):Prop:=
 ∀(pins:List (Addr×Obj)) (s:Shared) (σ:St) (H:Hp) (R:It->Hp->Prop),Inv X pins σ H s->wi σ H R ->
  wpAny (model X.prog X.w) X.A (eval iter X.env) (λv s1=>wpAny (model X.prog X.w) X.A (pyIter v) (PIE X pins σ tg R) X.xe s1) X.xe s
theorem go_of (ho:s.heap.get? it=some o)(hc:o.cls=.type n)(hd:o.data=.fields vs)
    (hn:["enumerate","zip","dict_itemiterator","dict_reverseitemiterator","odict_iterator","itertools.zip_longest","itertools.pairwise"].contains n=false) (hQ:Q () s):wpAny M A (letOwnedTupleGo tg (.ref it) u) Q E s:=by
  unfold letOwnedTupleGo;cases tg<;>first
    |exact aP hQ
    | (cases u <;> first
        |exact aP hQ
        | (refine aa (wpAny_load ho ?_)
           rw[hc,hd];show wpAny M A (if (["enumerate","zip","dict_itemiterator","dict_reverseitemiterator","odict_iterator","itertools.zip_longest","itertools.pairwise"].contains n && vs[0]? == some (rawInt _))=true then _ else _) Q E s;rw[ai (by intro h;rw[hn,Bool.false_and]at h;cases h)];exact aP hQ))
def Itl (K:Fg)(a:Addr):It:=
 ⟨λi H=>∃xs x,SqL K H a xs/\xs[i]?=some x,λi H x H'=>H'=H/\∀xs,SqL K H a xs->xs[i]?=some x,λi H=>∃xs,SqL K H a xs/\xs.length<=i⟩
def Itr (lo:Int)(n:Nat):It:=⟨λi _=>i<n,λi H x H'=>H'=H/\x=.int (lo+i),λi _=>n<=i⟩
theorem turn_list {P:Program}{w:World}{K:Fg}{tg:Expr}(a it:Addr):Turn P w K tg (Itl K a) [it] it (λi h=>h.IsListIter it a i) where
 mem:=by simp
 obj:=λi h st b hb=>by
  have e:b=it:=by simpa using hb
  subst e;obtain⟨o,e,c,d⟩:=st;exact⟨o,e,λv z=>by rw[d]at z;cases z⟩
 keep:=λi h h' st k=>st.at λo e=>k it (by simp) o e
 item:=by intro X hP hw hK hc i pins s σ H E I hf st hg;subst hP hw hK;obtain⟨xs,x,hq,hx⟩:=hg;obtain⟨its,rv,p,hz⟩:=I.list hq;obtain⟨u,hu,ru⟩:=rv.get hx;obtain⟨f0,f1,f2,f3,f4,f5⟩:=hf it (by simp);refine wpAny_pyNext_list_item st p.isList (x:=u) (by simpa using hu) λh' st' sb=>?_;have I1:Inv X pins σ H { s with heap:=h' }:=I.turned (t':=s.toks) (λb o hb e=>(sb.2 b hb).trans e) f0 f1 f3 f4 f5;obtain⟨o,e,c,d⟩:=id st';exact⟨u,rfl,go_of (s:={ s with heap:=h' }) e c d (by decide) ⟨x,H,I1,ru,⟨rfl,λys hy=>by rw[I.list_inj hy hq];exact hx⟩,st',λb hb=>(hf b hb).1⟩⟩
 done:=by intro X hP hw hK hc i pins s σ H E I hf st hg;subst hP hw hK;obtain⟨xs,hq,hx⟩:=hg;obtain⟨its,rv,p,hz⟩:=I.list hq;obtain⟨f0,f1,f2,f3,f4,f5⟩:=hf it (by simp);have hl:=rv.length;exact wpAny_pyNext_list_end (I.ok.hd hc) st p.isList (by simp;lia) λh' eb=>⟨rfl,I.turned (t':=s.toks) (λb o hb e=>eb b o hb e) f0 f1 f3 f4 f5⟩
 self:=λ_ _ _ _ _ st h=>wpAny_pyIter_listiter st h
theorem turn_range {P:Program}{w:World}{K:Fg}{tg:Expr}(it:Addr)(lo:Int)(n:Nat):Turn P w K tg (Itr lo n) [it] it (λi h=>IsRangeIter h it (lo+(i:Nat)*1) ((n:Int)-(i:Nat)) 1) where
 mem:=by simp
 obj:=λi h st b hb=>by
  have e:b=it:=by simpa using hb
  subst e;exact⟨_,st,λv z=>by
   have z':Data.fields _=Data.cell v:=z;cases z'⟩
 keep:=λi h h' st k=>k it (by simp) _ st
 item:=by intro X hP hw hK hc i pins s σ H E I hf st hg;subst hP hw hK;obtain⟨f0,f1,f2,f3,f4,f5⟩:=hf it (by simp);have W:=Walks.range (prog:=X.prog) (w:=X.w) (I.ok.hd hc) it lo 1 n;refine W.item i s _ _ hg st λv h' tk hv st' kk=>?_;obtain⟨t,rfl⟩:=hv;have I1:Inv X pins σ H { s with heap:=h',toks:=tk }:=I.turned (λb o hb e=>kk b o (by simpa using hb) e) f0 f1 f3 f4 f5;refine⟨_,rfl,go_of (s:={ s with heap:=h',toks:=tk }) (n:="range_iterator") st' rfl rfl (by decide) ⟨.int (lo+i),H,I1,⟨t,?_⟩,⟨rfl,rfl⟩,st',λb hb=>(hf b hb).1⟩⟩;rw[Int.mul_one]
 done:=by intro X hP hw hK hc i pins s σ H E I hf st hg;subst hP hw hK;obtain⟨f0,f1,f2,f3,f4,f5⟩:=hf it (by simp);exact wpAny_pyNext_range_end (I.ok.hd hc) st (by have:n<=i:=hg;lia) λh' eb=>⟨rfl,I.turned (t':=s.toks) (λb o hb e=>eb b o hb e) f0 f1 f3 f4 f5⟩
 self:=λ_ _ _ _ _ st h=>wpAny_pyIter_rangeiter st h
section
variable {X:Cx}{tg:Expr}
def iList (K:Fg)(tl:TE):TI:=λσ H R=>tl σ H λx H1=>∃a,x=.ref a/\(∃xs,SqL K H1 a xs)/\R (Itl K a) H1
theorem pi_list {l:Expr}{tl:TE}(hl:PE X l tl):PI X tg l (iList X.K tl):=by
 intro pins s σ H R I h;refine thn (hl pins s σ H _ I h) λv s1 ⟨x,H1,I1,r1,q1⟩=>?_;obtain⟨a,e,⟨xs,hq⟩,q⟩:=q1;subst e;cases r1;obtain⟨its,rv,p,hz⟩:=I1.list hq;refine wpAny_pyIter_list p.isList ?_;refine⟨s1.heap.objs.size,[s1.heap.objs.size],_,_,H1,rfl,I1.kept (t':=s1.toks) λb o e=>af _ e,turn_list a _,⟨_,aM _ rfl,rfl,rfl⟩,λb hb=>?_,q⟩;have e:b=s1.heap.objs.size:=by simpa using hb
 subst e;exact I1.fpOk (aw _) (I1.hok.fresh (aw _))
theorem range_it {pins:List (Addr×Obj)}{σ:St}{H:Hp}{s:Shared}{R:It->Hp->Prop}{E:Value->Shared->Prop}{lo hi:Int}{t u v:Tok}{tk:Nat}(I:Inv X pins σ H s)(h1:-(2^62)<=lo)(h2:lo<2^62)(h3:-(2^62)<=hi)(h4:hi<2^62)
  (q:R (Itr lo (hi-lo).toNat) H):wpAny (model X.prog X.w) X.A (pyIter (.ref s.heap.objs.size)) (PIE X pins σ tg R) E { s with heap:=s.heap.push { cls:=.type "range",data:=.fields #[.int lo t,.int hi u,.int 1 v] },toks:=tk }:=by
 refine dS (fJ ..) (small_one h1 h2 h3 h4) ?_;have I1:Inv X pins σ H { s with heap:=s.heap.push { cls:=.type "range",data:=.fields #[.int lo t,.int hi u,.int 1 v] },toks:=tk }:=I.kept λb o e=>af _ e;refine⟨(s.heap.push { cls:=.type "range",data:=.fields #[.int lo t,.int hi u,.int 1 v] }).objs.size,[(s.heap.push { cls:=.type "range",data:=.fields #[.int lo t,.int hi u,.int 1 v] }).objs.size],_,_,H,rfl,
  I1.kept (t':=tk) λb o e=>af _ e,turn_range _ lo (hi-lo).toNat,?_,λb hb=>?_,q⟩
 ·have e1:lo+((0:Nat):Int)*1=lo:=by simp
  have e2:(((hi-lo).toNat:Nat):Int)-((0:Nat):Int)=Builtin.Range.rangeSize lo hi 1:=by rw[rangeSize_one];split<;>lia
  show IsRangeIter _ _ (lo+((0:Nat):Int)*1) ((((hi-lo).toNat:Nat):Int)-((0:Nat):Int)) 1;rw[e1,e2];exact aM _ rfl
 ·have e:b=(s.heap.push { cls:=.type "range",data:=.fields #[.int lo t,.int hi u,.int 1 v] }).objs.size:=by simpa using hb
  subst e;exact I1.fpOk (aw _) (I1.hok.fresh (aw _))
def iRng2 (ta:TA):TI:=λσ H R=>ta σ H λvs H1=>∃i j:Int,vs=[.int i,.int j]/\(-(2^62)<=i/\i<2^62 /\ -(2^62)<=j/\j<2^62)/\R (Itr i (j-i).toNat) H1
theorem pi_range2 (hg:Gl X "range")(hm:X.mg "range"=none)(ha:PA X [a,b] ta)(hs:starEach [a,b] X.env=[(false,eval a X.env),(false,eval b X.env)]:=by rfl)(hs2:starEach [b] X.env=[(false,eval b X.env)]:=by rfl) :
  PI X tg (.Call (.Name "range" p) [a,b] [] pos) (iRng2 ta):=by
 intro pins s σ H R I h;refine Call_ (ld_blt I hg hm boot_range (bE (thn (ha pos pins s σ H _ I h) λus s1 ⟨vs,H1,I1,r1,q1⟩=>?_) (by rw[hs,hs2]) (by rw[hs2];rfl)));obtain⟨i,j,e,⟨q1,q2,q3,q4⟩,q⟩:=q1;subst e;cases r1 with
 |cons r rr=>
  cases rr with
  |cons r' rr=>cases rr;obtain⟨t,rfl⟩:=r;obtain⟨t',rfl⟩:=r';exact call_range_2 (range_it I1 q1 q2 q3 q4 q)
def tFor (wi:TI)(g:TG)(tb:TS):TS:=λD σ H=>wi σ H λJ H1=>∃W:Nat->Nat->St->Hp->Prop,(∃m,W 0 m σ H1)/\∀i m σ H,W i m σ H ->
 (J.stop i H/\D.nx σ H)\/(J.go i H/\∃N:St->Hp->Prop,(∀σ' H',N σ' H' -> ∃m',m'<m/\W (i+1) m' σ' H')/\∀x H',J.yld i H x H' -> g x σ H' λσ2 H2=>tb { D with nx:=N,ct:=N,bk:=D.nx } σ2 H2)
def pinsAt (fp:List Addr)(h:Heap):List (Addr×Obj):=fp.filterMap λb=>(h.get? b).map λo=>(b,o)
theorem mem_pinsAt (hb:b∈fp)(e:h.get? b=some o):(b,o)∈pinsAt fp h:=dU.mpr ⟨b,hb,by rw[e];rfl⟩
theorem of_pinsAt (hp:p∈pinsAt fp h):p.1∈fp/\h.get? p.1=some p.2:=by
 obtain⟨b,hb,e⟩:=dU.mp hp;cases q:h.get? b with
 |none=>rw[q]at e;cases e
 |some o=>rw[q]at e;have e':(b,o)=p:=aI e;subst e';exact⟨hb,q⟩
theorem Inv.pinned (I:Inv X pins σ H s)(hf:∀b∈fp,FpOk X pins H b)(ho:∀b∈fp,∃o,s.heap.get? b=some o/\∀v,o.data ≠ .cell v):Inv X (pins++pinsAt fp s.heap) σ H s:=
 I.pins_of λp hp=>(aV.mp hp).elim (λz=>I.pin p (aH _ z)) λz=>by obtain⟨hb,e⟩:=of_pinsAt z;obtain⟨f0,f1,f2,_⟩:=hf p.1 hb;obtain⟨o,e',d⟩:=ho p.1 hb;rw[e]at e';cases e';exact⟨e,f0,f1,f2,d⟩
theorem Inv.unpinned (I:Inv X (pins++pl) σ H s):Inv X pins σ H s:=I.pins_of λp hp=>I.pin p (aH _ (cg _ hp))
theorem ps_for (hp:PassesOwn (model X.prog X.w) X.A X.env X.xe)(hc:X.calm=true)(hi:PI X tg iter wi)(hg:PG X tg g)(hb:PSs X body tb)
  (hs:∀x,foldedSetIterable iter X.env x=pure x:=by intro _;rfl):PS X (.For tg iter body [] pos) (tFor wi g tb):=by
 intro pins s σ H D I h;refine wpAny_For (thn (hi pins s σ H _ I h) λv s1 h1=>thn h1 λitv s2 h2=>?_) hs;obtain⟨it,fp,tn,J,H2,e,I2,T,st2,f2,W,⟨m0,w0⟩,turn⟩:=h2;subst e;have stat:∀{H':Hp},(∀b∈fp,H' b=none)->∀b∈fp,FpOk X pins H' b:=λhn b hb=>⟨hn b hb,(f2 b hb).2⟩;refine codeAny_forLoop_any (λn s'=>∃i σ' H',Inv X pins σ' H' s'/\tn i s'.heap/\(∀b∈fp,H' b=none)/\W i n σ' H') ?_ m0 ⟨0,σ,H2,I2,st2,λb hb=>(f2 b hb).1,w0⟩;rintro n s3 ⟨i,σ3,H3,I3,st3,fr3,w3⟩;rcases turn i n σ3 H3 w3 with⟨stop,qn⟩|⟨go,N,hN,step⟩
 ·refine cD hp (thn (T.done X rfl rfl rfl hc i pins s3 σ3 H3 X.xe I3 (stat fr3) st3 stop) λr s4 ⟨hr,I4⟩=>?_);subst hr;exact dk ⟨σ3,H3,I4,qn⟩
 ·refine cD hp (thn (T.item X rfl rfl rfl hc i pins s3 σ3 H3 X.xe I3 (stat fr3) st3 go) λr s4 ⟨u,hr,h4⟩=>?_);subst hr;refine cD hp (thn h4 λ_ s5 ⟨x,H5,I5,r5,y5,st5,fr5⟩=>?_);have I5':=I5.pinned (stat fr5) (T.obj _ _ st5);refine cD hp (thn (hg _ s5 σ3 H5 x u _ I5' r5 (step x H5 y5)) λ_ s6 ⟨σ6,H6,I6,q6⟩=>?_);refine cD hp (thn (hb _ s6 σ6 H6 _ I6 q6) λf s7 q7=>?_);have again:∀{σ7:St} {H7:Hp},Inv X (pins++pinsAt fp s5.heap) σ7 H7 s7->N σ7 H7->∃m,m<n/\∃i σ' H',Inv X pins σ' H' s7/\tn i s7.heap/\(∀b∈fp,H' b=none)/\W i m σ' H':=λ{σ7 H7} I7 n7=>by obtain⟨m',hm,w7⟩:=hN σ7 H7 n7;refine⟨m',hm,i+1,σ7,H7,I7.unpinned,T.keep _ _ _ st5 λb hb o e=>(I7.pin (b,o) (aH _ (aH _ (mem_pinsAt hb e)))).1,λb hb=>?_,w7⟩;obtain⟨o,e,d⟩:=T.obj _ _ st5 b hb;exact(I7.pin (b,o) (aH _ (aH _ (mem_pinsAt hb e)))).2.1
  cases f with
  |next=>obtain⟨σ7,H7,I7,n7⟩:=q7;exact again I7 n7
  |cont=>obtain⟨σ7,H7,I7,n7⟩:=q7;exact again I7 n7
  |brk=>obtain⟨σ7,H7,I7,q7⟩:=q7;exact⟨σ7,H7,I7.unpinned,q7⟩
  |ret v=>obtain⟨x7,σ7,H7,I7,r7,q7⟩:=q7;exact⟨x7,σ7,H7,I7.unpinned,r7,q7⟩
end
theorem for_list {K:Fg}{a:Addr}{xs:List V}{g:TG}{tb:TS}{D:Ends}{σ:St}{H:Hp}(Pv:Nat->St->Hp->Prop)(h0:Pv 0 σ H)(hl:∀i σ H,i<=xs.length->Pv i σ H->SqL K H a xs)
  (hs:∀i x σ H,xs[i]?=some x->Pv i σ H->g x σ H λσ2 H2=>tb { D with nx:=Pv (i+1),ct:=Pv (i+1),bk:=D.nx } σ2 H2) (hd:∀σ H,Pv xs.length σ H->D.nx σ H) :
  ∃W:Nat->Nat->St->Hp->Prop,(∃m,W 0 m σ H)/\∀i m σ H,W i m σ H ->
   ((Itl K a).stop i H/\D.nx σ H)\/((Itl K a).go i H/\∃N:St->Hp->Prop,(∀σ' H',N σ' H' -> ∃m',m'<m/\W (i+1) m' σ' H')/\∀x H',(Itl K a).yld i H x H' -> g x σ H' λσ2 H2=>tb { D with nx:=N,ct:=N,bk:=D.nx } σ2 H2):=by
 refine⟨λi m σ H=>m=xs.length-i/\i<=xs.length/\Pv i σ H,⟨xs.length,by simp,b6 _,h0⟩,?_⟩;rintro i m σ H ⟨rfl,hi,p⟩;have q:=hl i σ H hi p;by_cases hlt:i<xs.length
 ·refine .inr ⟨⟨xs,xs[i],q,by simp[hlt]⟩,Pv (i+1),λσ' H' p'=>⟨xs.length-(i+1),by lia,rfl,hlt,p'⟩,λx H' y=>?_⟩;obtain⟨e,y⟩:=y;subst e;exact hs i x σ _ (y xs q) p
 ·have e:i=xs.length:=by lia
  subst e;exact .inl ⟨⟨xs,q,aw _⟩,hd σ H p⟩
abbrev R2:=V->V->Hp->VK->Prop
def OpR (X:Cx)(f:Value->Value->Sem Value)(r:R2):Prop:=
 ∀(pins:List (Addr×Obj)) (s:Shared) (σ:St) (H:Hp) (x y:V) (v u:Value) (Q:VK),Inv X pins σ H s->RelV x v->RelV y u->r x y H Q ->
  wpAny (model X.prog X.w) X.A (f v u) (EP X pins σ Q) X.xe s
def UnR (X:Cx)(f:Value->Sem Value)(r:V->Hp->VK->Prop):Prop:=
 ∀(pins:List (Addr×Obj)) (s:Shared) (σ:St) (H:Hp) (x:V) (v:Value) (Q:VK),Inv X pins σ H s->RelV x v->r x H Q ->
  wpAny (model X.prog X.w) X.A (f v) (EP X pins σ Q) X.xe s
def CallR (X:Cx)(f:Value)(r:List V->Hp->VK->Prop):Prop:=
 ∀(pins:List (Addr×Obj)) (s:Shared) (σ:St) (H:Hp) (xs:List V) (us:List Value) (Q:VK),Inv X pins σ H s->Vals xs us->r xs H Q ->
  wpAny (model X.prog X.w) X.A (call f us) (EP X pins σ Q) X.xe s
def TruR (X:Cx)(r:V->Hp->(Bool->Hp->Prop)->Prop):Prop:=
 ∀(pins:List (Addr×Obj)) (s:Shared) (σ:St) (H:Hp) (x:V) (v:Value) (Q:Bool->Hp->Prop),Inv X pins σ H s->RelV x v->r x H Q ->
  wpAny (model X.prog X.w) X.A (truthy v) (TP X pins σ Q) X.xe s
def tOp (r:R2)(ta tb:TE):TE:=λσ H Q=>ta σ H λx H1=>tb σ H1 λy H2=>r x y H2 Q
def tUn (r:V->Hp->VK->Prop)(ta:TE):TE:=λσ H Q=>ta σ H λx H1=>r x H1 Q
def rI (C:Int->Int->Prop)(g:Int->Int->V):R2:=λx y H Q=>∃i j,x=.int i/\y=.int j/\C i j/\Q (g i j) H
def rI0 (g:Int->Int->V):R2:=λx y H Q=>∃i j,x=.int i/\y=.int j/\Q (g i j) H
def rU (g:Int->V):V->Hp->VK->Prop:=λx H Q=>∃i,x=.int i/\Q (g i) H
section
variable {X:Cx}{a b c:Expr}{ta tb tc:TE}{pos:Pos}
theorem binT (ha:PE X a ta)(hb:PE X b tb){pins:List (Addr×Obj)}{R:V->V->Hp->Prop}(I:Inv X pins σ H s)
  (h:ta σ H λx H1=>tb σ H1 λy H2=>R x y H2) {Q:Value->Shared->Prop} {f:Value->Value->Sem Value}
  (hf:∀v u s2 x y H2,Inv X pins σ H2 s2->RelV x v->RelV y u->R x y H2->wpAny (model X.prog X.w) X.A (f v u) Q X.xe s2) :
  wpAny (model X.prog X.w) X.A (eval a X.env) (λv s₁=>wpAny (model X.prog X.w) X.A (eval b X.env) (λu s₂=>wpAny (model X.prog X.w) X.A (f v u) Q X.xe s₂) X.xe s₁) X.xe s:=by
 refine thn (ha pins s σ H _ I h) λv s1 ⟨x,H1,I1,r1,q1⟩=>?_;refine thn (hb pins s1 σ H1 _ I1 q1) λu s2 ⟨y,H2,I2,r2,q2⟩=>?_;exact hf v u s2 x y H2 I2 r1 r2 q2
theorem pe_op {op:Operator}{r:R2}(ho:OpR X (binaryOp op) r)(ha:PE X a ta)(hb:PE X b tb):PE X (.BinOp a op b pos) (tOp r ta tb):=by intro pins s σ H Q I h;exact wpAny_BinOp (binT ha hb I h λv u s2 x y H2 I2 rx ry q=>ho pins s2 σ H2 x y v u Q I2 rx ry q)
theorem pe_un (ho:UnR X (unaryOp op) r)(ha:PE X a ta):PE X (.UnaryOp op a pos) (tUn r ta):=by intro pins s σ H Q I h;exact UnaryOp_ (thn (ha pins s σ H _ I h) λv s1 ⟨x,H1,I1,r1,q1⟩=>ho pins s1 σ H1 x v Q I1 r1 q1)
theorem opI {f:Value->Value->Sem Value}{C:Int->Int->Prop}{g:Int->Int->Int}
  (rule:∀(i j:Int) (t u:Tok) (s:Shared) (Q:Value->Shared->Prop) (E:Value->Shared->Prop),C i j->Q (.int (g i j) s.toks) { s with toks:=s.toks+1 }->wpAny (model X.prog X.w) X.A (f (.int i t) (.int j u)) Q E s) :
  OpR X f (rI C λi j=>.int (g i j)):=by
 intro pins s σ H x y v u Q I rx ry h;obtain⟨i,j,rfl,rfl,hc,q⟩:=h;obtain⟨t,rfl⟩:=rx;obtain⟨t',rfl⟩:=ry;exact rule i j t t' s _ _ hc ⟨.int (g i j),H,I.tok _,⟨_,rfl⟩,q⟩
theorem opI0 {f:Value->Value->Sem Value}{g:Int->Int->Int}
  (rule:∀(i j:Int) (t u:Tok) (s:Shared) (Q:Value->Shared->Prop) (E:Value->Shared->Prop),Q (.int (g i j) s.toks) { s with toks:=s.toks+1 }->wpAny (model X.prog X.w) X.A (f (.int i t) (.int j u)) Q E s) :
  OpR X f (rI0 λi j=>.int (g i j)):=by
 intro pins s σ H x y v u Q I rx ry h;obtain⟨i,j,rfl,rfl,q⟩:=h;obtain⟨t,rfl⟩:=rx;obtain⟨t',rfl⟩:=ry;exact rule i j t t' s _ _ ⟨.int (g i j),H,I.tok _,⟨_,rfl⟩,q⟩
theorem opB0 {f:Value->Value->Sem Value}{g:Int->Int->Bool}
  (rule:∀(i j:Int) (t u:Tok) (s:Shared) (Q:Value->Shared->Prop) (E:Value->Shared->Prop),Q (.bool (g i j)) s->wpAny (model X.prog X.w) X.A (f (.int i t) (.int j u)) Q E s) :
  OpR X f (rI0 λi j=>.bl (g i j)):=by
 intro pins s σ H x y v u Q I rx ry h;obtain⟨i,j,rfl,rfl,q⟩:=h;obtain⟨t,rfl⟩:=rx;obtain⟨t',rfl⟩:=ry;exact rule i j t t' s _ _ ⟨.bl (g i j),H,I,rfl,q⟩
def CPow (i j:Int):Prop:=0<=j/\j<=1000000/\i.natAbs<2^64
def CMul (i j:Int):Prop:=(-(2^64)<i/\i<2^64)\/(-(2^64)<j/\j<2^64)
theorem CMul.ok (h:CMul i j):IntMulOk i j:=by
 rcases h with⟨h1,h2⟩|⟨h1,h2⟩
 ·exact .of_left (intBits_le_64 h1 h2)
 ·exact .of_right (intBits_le_64 h1 h2)
theorem op_add:OpR X (binaryOp .Add) (rI0 λi j=>.int (i+j)):=opI0 λ_ _ _ _ _ _ _ q=>add_int q
theorem op_sub:OpR X (binaryOp .Sub) (rI0 λi j=>.int (i-j)):=opI0 λ_ _ _ _ _ _ _ q=>sub_int q
theorem op_mod:OpR X (binaryOp .Mod) (rI (λ_ j=>0<j) λi j=>.int (i % j)):=opI λi j _ _ _ _ _ hc q=>by have h1:(0:Int)<j:=hc;exact mod_int' (by lia) (by rw[Int.fmod_eq_emod_of_nonneg i (by lia)];exact q)
theorem op_pow:OpR X (binaryOp .Pow) (rI CPow λi j=>.int (i^j.toNat)):=opI λ_ _ _ _ _ _ _ hc q=>pow_int_small hc.1 hc.2.1 hc.2.2 q
theorem unI {f:Value->Sem Value}{g:Int->Int}
  (rule:∀(i:Int) (t:Tok) (s:Shared) (Q:Value->Shared->Prop) (E:Value->Shared->Prop),Q (.int (g i) s.toks) { s with toks:=s.toks+1 }->wpAny (model X.prog X.w) X.A (f (.int i t)) Q E s) :
  UnR X f (rU λi=>.int (g i)):=by
 intro pins s σ H x v Q I rx h;obtain⟨i,rfl,q⟩:=h;obtain⟨t,rfl⟩:=rx;exact rule i t s _ _ ⟨.int (g i),H,I.tok _,⟨_,rfl⟩,q⟩
theorem un_neg:UnR X (unaryOp .USub) (rU λi=>.int (-i)):=unI λ_ _ _ _ _ q=>neg_int q
end
def scal:V->V->Bool
 | .non,.non=>true | .non,.int _=>true | .int _,.non=>true | .non,.bl _=>true | .bl _,.non=>true | .non,.str _=>true | .str _,.non=>true
 | .int _,.int _=>true | .bl _,.bl _=>true | .str _,.str _=>true | .byt _,.byt _=>true
 | .int _,.str _=>true | .str _,.int _=>true | .bl _,.str _=>true | .str _,.bl _=>true
 |_,_=>false
def rEq:R2:=λx y H Q=>scal x y=true/\Q (.bl (decide (x=y))) H
def rNe:R2:=λx y H Q=>scal x y=true/\Q (.bl (!decide (x=y))) H
theorem dec_int:decide (V.int i=V.int j)=(i == j):=by rw[dl];simp
theorem dec_bl:decide (V.bl i=V.bl j)=(i == j):=by rw[dl];simp
theorem dec_str:decide (V.str i=V.str j)=(i == j):=by rw[dl];simp
theorem dec_byt:decide (V.byt i=V.byt j)=(i.toList == j.toList):=by rw[dl];cases i;cases j;simp
section
variable {X:Cx}{a b c:Expr}{ta tb tc:TE}{pos:Pos}
theorem fin_bl (I:Inv X pins σ H s)(q:Q (.bl k) H)(e:k=k'):EP X pins σ Q (.bool k') s:=by subst e;exact⟨.bl k,H,I,rfl,q⟩
theorem op_eq:OpR X (compareOp .Eq) rEq:=by
 intro pins s σ H x y v u Q I rx ry h;obtain⟨hs,q⟩:=h;cases x with
 |non=>
  cases rx;cases y with
  |non=>cases ry;exact PySem.EqNone.eq_none_none (fin_bl I q (by simp))
  |bl j=>cases ry;exact PySem.EqNone.eq_none_bool (fin_bl I q (by simp))
  |int j=>obtain⟨t',rfl⟩:=ry;exact PySem.EqNone.eq_none_int (fin_bl I q (by simp))
  |str j=>obtain⟨t',rfl⟩:=ry;exact PySem.EqNone.eq_none_str (fin_bl I q (by simp))
  |_=>exact absurd (show false=true from hs) aD
 |bl i=>
  cases rx;cases y with
  |non=>cases ry;exact PySem.EqNone.eq_bool_none (fin_bl I q (by simp))
  |bl j=>cases ry;exact eq_bool (fin_bl I q dec_bl)
  |str j=>obtain⟨t',rfl⟩:=ry;exact PySem.EqMixed.eq_bool_str (fin_bl I q (by simp))
  |_=>exact absurd (show false=true from hs) aD
 |int i=>
  obtain⟨t,rfl⟩:=rx;cases y with
  |non=>cases ry;exact PySem.EqNone.eq_int_none (fin_bl I q (by simp))
  |int j=>obtain⟨t',rfl⟩:=ry;exact eq_int (fin_bl I q dec_int)
  |str j=>obtain⟨t',rfl⟩:=ry;exact PySem.EqMixed.eq_int_str (fin_bl I q (by simp))
  |_=>exact absurd (show false=true from hs) aD
 |str i=>
  obtain⟨t,rfl⟩:=rx;cases y with
  |non=>cases ry;exact PySem.EqNone.eq_str_none (fin_bl I q (by simp))
  |bl j=>cases ry;exact PySem.EqMixed.eq_str_bool (fin_bl I q (by simp))
  |int j=>obtain⟨t',rfl⟩:=ry;exact PySem.EqMixed.eq_str_int (fin_bl I q (by simp))
  |str j=>obtain⟨t',rfl⟩:=ry;exact eq_str (fin_bl I q dec_str)
  |_=>exact absurd (show false=true from hs) aD
 |byt i=>
  obtain⟨t,rfl⟩:=rx;cases y with
  |byt j=>obtain⟨t',rfl⟩:=ry;exact W.eq_bytes (fin_bl I q dec_byt)
  |_=>exact absurd (show false=true from hs) aD
 |_=>cases y<;>exact absurd (show false=true from hs) aD
theorem op_ne:OpR X (compareOp .NotEq) rNe:=by
 intro pins s σ H x y v u Q I rx ry h;obtain⟨hs,q⟩:=h;cases x with
 |non=>
  cases rx;cases y with
  |non=>cases ry;exact PySem.EqNone.ne_none_none (fin_bl I q (by simp))
  |bl j=>cases ry;exact PySem.EqNone.ne_none_bool (fin_bl I q (by simp))
  |int j=>obtain⟨t',rfl⟩:=ry;exact PySem.EqNone.ne_none_int (fin_bl I q (by simp))
  |str j=>obtain⟨t',rfl⟩:=ry;exact PySem.EqNone.ne_none_str (fin_bl I q (by simp))
  |_=>exact absurd (show false=true from hs) aD
 |bl i=>
  cases rx;cases y with
  |non=>cases ry;exact PySem.EqNone.ne_bool_none (fin_bl I q (by simp))
  |bl j=>cases ry;exact ne_bool (fin_bl I q (congrArg not dec_bl))
  |str j=>obtain⟨t',rfl⟩:=ry;exact PySem.EqMixed.ne_bool_str (fin_bl I q (by simp))
  |_=>exact absurd (show false=true from hs) aD
 |int i=>
  obtain⟨t,rfl⟩:=rx;cases y with
  |non=>cases ry;exact PySem.EqNone.ne_int_none (fin_bl I q (by simp))
  |int j=>obtain⟨t',rfl⟩:=ry;exact ne_int (fin_bl I q (congrArg not dec_int))
  |str j=>obtain⟨t',rfl⟩:=ry;exact PySem.EqMixed.ne_int_str (fin_bl I q (by simp))
  |_=>exact absurd (show false=true from hs) aD
 |str i=>
  obtain⟨t,rfl⟩:=rx;cases y with
  |non=>cases ry;exact PySem.EqNone.ne_str_none (fin_bl I q (by simp))
  |bl j=>cases ry;exact PySem.EqMixed.ne_str_bool (fin_bl I q (by simp))
  |int j=>obtain⟨t',rfl⟩:=ry;exact PySem.EqMixed.ne_str_int (fin_bl I q (by simp))
  |str j=>obtain⟨t',rfl⟩:=ry;exact ne_str (fin_bl I q (congrArg not dec_str))
  |_=>exact absurd (show false=true from hs) aD
 |byt i=>
  obtain⟨t,rfl⟩:=rx;cases y with
  |byt j=>obtain⟨t',rfl⟩:=ry;exact W.ne_bytes (fin_bl I q (congrArg not dec_byt))
  |_=>exact absurd (show false=true from hs) aD
 |_=>cases y<;>exact absurd (show false=true from hs) aD
theorem op_lt:OpR X (compareOp .Lt) (rI0 λi j=>.bl (decide (i<j))):=opB0 λ_ _ _ _ _ _ _ q=>lt_int q
theorem op_le:OpR X (compareOp .LtE) (rI0 λi j=>.bl (decide (i<=j))):=opB0 λ_ _ _ _ _ _ _ q=>le_int q
theorem op_gt:OpR X (compareOp .Gt) (rI0 λi j=>.bl (decide (j<i))):=opB0 λ_ _ _ _ _ _ _ q=>gt_int q
theorem op_in_str:OpR X (compareOp .In) (λx y H Q=>∃i j,x=.str i/\y=.str j/\Q (.bl (!(Builtin.Str.occurrences j i 0 j.length 1).isEmpty)) H):=by intro pins s σ H x y v u Q I rx ry h;obtain⟨i,j,rfl,rfl,q⟩:=h;obtain⟨t,rfl⟩:=rx;obtain⟨t',rfl⟩:=ry;exact in_str (fin_bl I q rfl)
theorem op_isN:OpR X (compareOp .Is) (λx y H Q=>y=.non/\Q (.bl (decide (x=.non))) H):=by
 intro pins s σ H x y v u Q I rx ry h;obtain⟨rfl,q⟩:=h;cases ry;refine is_none_gen (fin_bl I q ?_);cases x<;>first
  |(cases rx;rfl)
  |(obtain⟨t,rfl⟩:=rx;rfl)
theorem op_notN:OpR X (compareOp .IsNot) (λx y H Q=>y=.non/\Q (.bl (!decide (x=.non))) H):=by
 intro pins s σ H x y v u Q I rx ry h;obtain⟨rfl,q⟩:=h;cases ry;refine isnot_none_gen (fin_bl I q ?_);cases x<;>first
  |(cases rx;rfl)
  |(obtain⟨t,rfl⟩:=rx;rfl)
theorem nomark (b:Expr)(h:op ≠ .In:=by decide)(h2:op ≠ .NotIn:=by decide):behindInMarks op b=false:=by
 have e1:(op == CmpOp.In)=false:=by cases op<;>first|rfl|exact absurd rfl h
 have e2:(op == CmpOp.NotIn)=false:=by cases op<;>first|rfl|exact absurd rfl h2
 cases b<;>simp[behindInMarks,e1,e2]
theorem pe_cmpR {op:CmpOp}{r:R2}(ho:OpR X (compareOp op) r)(ha:PE X a ta)(hb:PE X b tb)(hm:behindInMarks op b=false):PE X (.Compare a [op] [b] pos) (tOp r ta tb):=by intro pins s σ H Q I h;exact wpAny_Compare1 (binT ha hb I h λv u s2 x y H2 I2 rx ry q=>ho pins s2 σ H2 x y v u Q I2 rx ry q) hm
def tTest (t:TE):TT:=λσ H Q=>t σ H λx H'=>∃k,x=.bl k/\Q k H'
theorem pt_cmpR (ho:OpR X (compareOp op) r)(ha:PE X a ta)(hb:PE X b tb)(hm:behindInMarks op b=false):PT X (.Compare a [op] [b] pos) (tTest (tOp r ta tb)):=by
 intro pins s σ H Q I h;refine wpAny_isTrue_Compare1 (thn (ha pins s σ H _ I h) λv s1 ⟨x,H1,I1,r1,q1⟩=>thn (hb pins s1 σ H1 _ I1 q1) λu s2 ⟨y,H2,I2,r2,q2⟩=>
  thn (ho pins s2 σ H2 x y v u _ I2 r1 r2 q2) λc s3 ⟨z,H3,I3,r3,k,e,q3⟩=>?_) hm
 subst e;cases r3;exact ck ⟨H3,I3,q3⟩
def tChain (r r':R2)(ta tb tc:TE):TE:=λσ H Q=>ta σ H λx H1=>tb σ H1 λy H2=>r x y H2 λz H3=>∃k,z=.bl k /\
 (if k=true then tc σ H3 λw' H4=>r' y w' H4 Q else Q (.bl false) H3)
theorem pe_chain (ho:OpR X (compareOp op) r)(ho':OpR X (compareOp op') r')(ha:PE X a ta)(hb:PE X b tb)(hc:PE X c tc)
  (hm:lastMarks [op,op'] [b,c]=false:=by with_unfolding_all rfl):PE X (.Compare a [op,op'] [b,c] pos) (tChain r r' ta tb tc):=by
 intro pins s σ H Q I h;refine Compare_chain (thn (ha pins s σ H _ I h) λv s1 ⟨x,H1,I1,r1,q1⟩=>chain_link (thn (hb pins s1 σ H1 _ I1 q1) λu s2 ⟨y,H2,I2,r2,q2⟩=>
  thn (ho pins s2 σ H2 x y v u _ I2 r1 r2 q2) λd s3 ⟨z,H3,I3,r3,k,e,q3⟩=>?_)) hm
 subst e;cases r3;refine ck ?_;cases k with
 |false=>exact ite_ff ⟨.bl false,H3,I3,rfl,q3⟩
 |true=>exact ite_tt (chain_last (thn (hc pins s3 σ H3 _ I3 q3) λw' s4 ⟨z',H4,I4,r4,q4⟩=>ho' pins s4 σ H4 y z' u w' Q I4 r2 r4 q4))
def TruV (K:Fg)(x:V)(H:Hp)(k:Bool):Prop:=
 match x with
 | .non=>k=false
 | .bl b=>k=b
 | .int i=>k=(i != 0)
 | .str y=>y.length<=sizeLine/\k=((y.length:Int) != 0)
 | .byt y=>y.size<=sizeLine/\k=((y.size:Int) != 0)
 | .ref p=>(∃xs,SqL K H p xs/\k = !xs.isEmpty)\/(∃xs,SqT K H p xs/\k = !xs.isEmpty)\/∃kvs,H p=some (.dK kvs)/\k = !kvs.isEmpty
 |_=>False
theorem isEmpty_kv {κ:Type}{kvs:List (κ×V)}{vs:List (κ×Value)}(r:KV kvs vs):(!vs.isEmpty) = !kvs.isEmpty:=by cases r<;>rfl
theorem isEmpty_of (r:Vals xs its):(!its.toArray.isEmpty) = !xs.isEmpty:=by cases r<;>simp
theorem line63:(sizeLine:Nat)<2^63:=by rw[aB];decide
theorem tru_ok:TruR X (λx H Q=>∃k,TruV X.K x H k/\Q k H):=by
 intro pins s σ H x v Q I rx h;obtain⟨k,e,q⟩:=h;have hl:=line63;have hs:sizeLine=16777216:=aB;cases x with
 |non=>cases rx;have e':k=false:=e;subst e';exact truthy_none ⟨H,I,q⟩
 |bl b=>cases rx;have e':k=b:=e;subst e';exact ck ⟨H,I,q⟩
 |int i=>obtain⟨t,rfl⟩:=rx;have e':k=(i != 0):=e;subst e';exact PySem.P.truthy_int ⟨H,I,q⟩
 |str y=>obtain⟨t,rfl⟩:=rx;obtain⟨hy,e'⟩:y.length<=sizeLine/\k=((y.length:Int) != 0):=e;subst e';exact PySem.P.truthy_str (by lia) ⟨H,I.tok _,q⟩
 |byt y=>obtain⟨t,rfl⟩:=rx;obtain⟨hy,e'⟩:y.size<=sizeLine/\k=((y.size:Int) != 0):=e;subst e';exact W.truthy_bytes (by lia) ⟨H,I.tok _,q⟩
 |ref p=>
  cases rx;have e':(∃xs,SqL X.K H p xs/\k = !xs.isEmpty)\/(∃xs,SqT X.K H p xs/\k = !xs.isEmpty)\/∃kvs,H p=some (.dK kvs)/\k = !kvs.isEmpty:=e;rcases e' with⟨xs,hx,e'⟩|⟨xs,hx,e'⟩|⟨kvs,hx,e'⟩
  ·subst e';obtain⟨its,r,pl,hz⟩:=I.list hx;have hlen:=r.length;exact wpAny_truthy_list pl.isList (by simp only[aJ];lia) ⟨H,I.tok _,by rw[isEmpty_of r];exact q⟩
  ·subst e';obtain⟨its,r,pl,hz⟩:=I.tuple hx;have hlen:=r.length;exact truthy_tuple pl (by simp only[aJ];lia) ⟨H,I.tok _,by rw[isEmpty_of r];exact q⟩
  ·subst e';obtain⟨hz,hS,vs,r,m⟩:kvs.length<=sizeLine/\(p == sysModules)=false/\∃vs,KV kvs vs/\s.heap.DictOf (mixKind X.prog X.w) p vs:=I.hok p _ hx;have hlen:kvs.length=vs.length:=Paired.length r;exact wpAny_truthy_dict hS m (by lia) ⟨H,I.tok _,by rw[isEmpty_kv r];exact q⟩
 |_=>exact(show False from e).elim
theorem pt_truth (ha:PE X a ta)(he:∀whole,isTrue a X.env whole=(do let v <- whole;standAt a.pos;holding [v] (truthy v))) :
  PT X a (λσ H Q=>ta σ H λx H'=>∃k,TruV X.K x H' k/\Q k H'):=by
 intro pins s σ H Q I h;exact isTrue_plain (thn (ha pins s σ H _ I h) λv s1 ⟨x,H1,I1,r1,q1⟩=>tru_ok pins s1 σ H1 x v Q I1 r1 q1) (he _)
theorem op_add_str:OpR X (binaryOp .Add) (λx y H Q=>∃i j,x=.str i/\y=.str j/\i.length+j.length<=sizeLine/\Q (.str (i++j)) H):=by intro pins s σ H x y v u Q I rx ry h;obtain⟨i,j,rfl,rfl,hz,q⟩:=h;obtain⟨t,rfl⟩:=rx;obtain⟨t',rfl⟩:=ry;exact add_str (λt' tk=>⟨.str (i++j),H,I.tok _,⟨_,rfl⟩,q⟩) hz
theorem iop_add_str:OpR X (inplaceOp .Add) (λx y H Q=>∃i j,x=.str i/\y=.str j/\i.length+j.length<=sizeLine/\Q (.str (i++j)) H):=by intro pins s σ H x y v u Q I rx ry h;obtain⟨i,j,rfl,rfl,hz,q⟩:=h;obtain⟨t,rfl⟩:=rx;obtain⟨t',rfl⟩:=ry;exact iadd_str (λt' tk=>⟨.str (i++j),H,I.tok _,⟨_,rfl⟩,q⟩) hz
theorem vals1 (r:Vals [x] us):∃u,us=[u]/\RelV x u:=by
 cases r with
 |cons r1 r2=>cases r2;exact⟨_,rfl,r1⟩
theorem vals2 (r:Vals [x,y] us):∃u w',us=[u,w']/\RelV x u/\RelV y w':=by
 cases r with
 |cons r1 r2=>
  cases r2 with
  |cons r3 r4=>cases r4;exact⟨_,_,rfl,r1,r3⟩
theorem call_abs:CallR X (.builtin "abs") (λxs H Q=>∃i,xs=[.int i]/\Q (.int (if i<0 then -i else i)) H):=by intro pins s σ H xs us Q I r h;obtain⟨i,rfl,q⟩:=h;obtain⟨u,rfl,t,rfl⟩:=vals1 r;exact call_abs_int λu tk=>⟨.int (if i<0 then -i else i),H,I.tok _,⟨_,rfl⟩,q⟩
theorem call_min2 (hc:X.calm=true):CallR X (.builtin "min") (λxs H Q=>∃i j,xs=[.int i,.int j]/\Q (.int (if j<i then j else i)) H):=by
 intro pins s σ H xs us Q I r h;obtain⟨i,j,rfl,q⟩:=h;obtain⟨u,w',rfl,⟨t,rfl⟩,⟨t',rfl⟩⟩:=vals2 r;refine min_two_ints (I.ok.hd hc) λh' tk k=>⟨_,H,I.kept k,?_,q⟩;by_cases hj:j<i
 ·rw[ak hj,ak hj];exact⟨_,rfl⟩
 ·rw[ai hj,ai hj];exact⟨_,rfl⟩
theorem call_int1:CallR X (.type "int") (λxs H Q=>(∃i,xs=[.int i]/\Q (.int i) H)\/∃k,xs=[.bl k]/\Q (.int (if k then 1 else 0)) H):=by
 intro pins s σ H xs us Q I r h;rcases h with⟨i,rfl,q⟩|⟨k,rfl,q⟩
 ·obtain⟨u,rfl,t,rfl⟩:=vals1 r;exact call_int_int ⟨.int i,H,I,⟨_,rfl⟩,q⟩
 ·obtain⟨u,rfl,r1⟩:=vals1 r;cases r1;exact call_int_bool ⟨.int (if k then 1 else 0),H,I.tok _,⟨_,rfl⟩,q⟩
theorem call_str_int:CallR X (.type "str") (λxs H Q=>∃i,xs=[.int i]/\i.natAbs.log2<1920/\Q (.str (toString i)) H):=by intro pins s σ H xs us Q I r h;obtain⟨i,rfl,hz,q⟩:=h;obtain⟨u,rfl,t,rfl⟩:=vals1 r;exact PySem.P.str_of_int hz ⟨.str _,H,I.tok _,⟨_,rfl⟩,q⟩
end
structure ObjM (h:Heap)(x dx C:Addr)(mA:Mg):Prop where
 obj:h.get? x=some (W.instObj C dx)
 ns:h.Ns1 dx mA
 ne:dx≠x
theorem lookIn_ns {h:Heap}{dx:Addr}{mA:Mg}(n:h.Ns1 dx mA):∃od,h.get? dx=some od/\∀name,W.lookIn name od=some (mA name):=by
 obtain⟨o,es,ep,ho,hd,hk,_,hm⟩:=n;refine⟨o,ho,λname=>?_⟩;have e:=hm name;unfold nsFind findBy at e;rw[<- Array.find?_toList]at e;unfold W.lookIn;rw[hd];dsimp only;split
 ·rename_i y q;rw[q]at e;exact congrArg some e
 ·rename_i q;rw[q]at e;have a:es.toList.any (·.refKey)=false:=by rw[List.any_eq_false];intro y hy;obtain⟨z,t,hkey⟩:=hk y (Array.mem_toList_iff.mp hy);simp[DictEntry.refKey,hkey]
  have a':¬es.toList.any (·.refKey)=true:=by rw[a];exact aD
  rw[ai a'];exact congrArg some e
theorem ObjM.look (I:ObjM h x dx C mA):∃od,W.InstAt h x (W.instObj C dx) C (some od)/\∀name,W.lookIn name od=some (mA name):=
 let ⟨od,ho,hl⟩:=lookIn_ns I.ns
 ⟨od,⟨I.obj,rfl,rfl,ho⟩,hl⟩
section
variable {prog:Program}{w:World}{A:Around}{E:Value->Shared->Prop}{s:Shared}{K:Fg}{x dx C f:Addr}{mA:Mg}{name:Str}{v:Value}
theorem get_map (X:K.In s.heap)(I:ObjM s.heap x dx C mA)(hg:W.plainGet K C name=true)(hh:W.hasDictIn K C=true)
  (ha:W.findIn K (.ref C) name=some none) (hv:mA name=some v) (hv':W.handedIn v=true) (h:Q v { s with toks:=s.toks+1 }) :
  wpAny (model prog w) A (getAttr (.ref x) name expr) Q E s:=by
 obtain⟨od,J,hl⟩:=I.look;exact W.get_value X J (dH hg).1 (W.findObj_own hh ha rfl (by rw[hl,hv])) hv' h
theorem get_meth (X:K.In s.heap)(I:ObjM s.heap x dx C mA)(hg:W.plainGet K C name=true)
  (hf:W.findIn K (.ref C) name=some (some (.ref f))) (ht:W.isFn K (.ref f)=true) (hv:mA name=none) (h:Q (.ref f,[.ref x]) s) :
  wpAny (model prog w) A (getMethod (.ref x) name pl) Q E s:=by
 obtain⟨od,J,hl⟩:=I.look;exact W.method_fn X J (dH hg).1 (dH hg).2 hf (beq_iff_eq.mp ht) (by show(W.lookIn name od).map (·.isSome)=some false;rw[hl,hv];rfl) h
theorem set_map (X:K.In s.heap)(I:ObjM s.heap x dx C mA)
  (hs:W.findIn K (.ref C) "__setattr__"=some (some (.builtin "object.__setattr__"))) (hp:W.plainOver K C=true) (ht:W.takerIn K C name=some none) (hh:W.hasDictIn K C=true)
  (hw:PySem.Within mA ns) (hsz:ns.length<=sizeLine)
  (h:∀h',ObjM h' x dx C (λy=>if y=name then some v else mA y)->Heap.SameBut dx s.heap h' -> Q () { s with heap:=h',toks:=s.toks+2 }) :
  wpAny (model prog w) A (setAttr (.ref x) name v) Q E s:=by
 obtain⟨od,J,hl⟩:=I.look;refine W.set_plain X J hs (W.osa_open (s:={ s with toks:=s.toks+1 }) (r:=none) X J hp ht λb=>?_);obtain⟨cd,hc,hd'⟩:=eQ hh;have hx:s.heap.get? x=some ⟨.ref C,some dx,.plain,#[]⟩:=I.obj;refine aa (aP (aa (aa (fF hx (aa (W.Looks.here (s:={ s with toks:=s.toks+1 }) (dI X hc) ?_))))));rw[hd'];refine aP (a:=some dx) (aa (aP (aa ?_)));refine wpAny_nsSet1 (s:={ s with toks:=s.toks+1 }) I.ns λh' hn2 hs2=>?_;obtain⟨oD,esD,epD,hoD,hdD,hcD⟩:=hn2.count (PySem.Within.cons name v hw);refine aa (wpAny_lookBehind hoD (by rw[hdD];exact pastItsLine_dict (aA hcD (by rw[aR];lia))) ?_);exact aP (h _ ⟨(hs2.2 _ (a9 I.ne)).trans I.obj,hn2,I.ne⟩ hs2)
theorem make_map (X:K.In s.heap)(hm:W.makesIn K C=true)
  (hi:W.findIn K (.ref C) "__init__"=some (some (.ref f))) (hf:W.typeIn K (.ref f)=some (.type "function"))
  (h:codeAny (model prog w) (A.under (.builtin "type.__call__" ⟨.ref C::vs,kw⟩)) (.call (.ref f) ⟨.ref (s.heap.objs.size+1)::vs,kw⟩) (W.InitBack (s.heap.objs.size+1) R)
   { s with heap:=(s.heap.push W.emptyDict).push (W.instObj C s.heap.objs.size) }) :
  codeAny (model prog w) A (.call (.ref C) ⟨vs,kw⟩) R s:=by
 obtain⟨hh,g,d,t,os⟩:=s;exact W.make_core (W.makes_of X hm) (cA X hi) (λself=>W.bind_fn X self hf) (.inl rfl) h
end
def putF (f:Str)(v:V):List (Str×V)->List (Str×V)
 |[]=>[(f,v)]
 |(g,x)::r=>if g=f then(g,v)::r else(g,x)::putF f v r
theorem lookup_putF (f g:Str)(v:V):∀fs:List (Str×V),(putF f v fs).lookup g=if g=f then some v else fs.lookup g
 |[]=>by
  show List.lookup g [(f,v)]=_;by_cases h:g=f
  ·have hb:(g == f)=true:=beq_iff_eq.mpr h;simp only[List.lookup,hb,ak h]
  ·have hb:(g == f)=false:=beq_eq_false_iff_ne.mpr h;simp only[List.lookup,hb,ai h]
 |(k,x)::r=>by
  have ih:=lookup_putF f g v r;rw[show putF f v ((k,x)::r)=(if k=f then(k,v)::r else(k,x)::putF f v r) from rfl];by_cases hk:k=f
  ·rw[ak hk];by_cases h:g=k
   ·have hb:(g == k)=true:=beq_iff_eq.mpr h;simp only[List.lookup,hb,ak (h.trans hk)]
   ·have hb:(g == k)=false:=beq_eq_false_iff_ne.mpr h;simp only[List.lookup,hb,ai (λe:g=f=>h (e.trans hk.symm))]
  ·rw[ai hk];by_cases h:g=k
   ·have hb:(g == k)=true:=beq_iff_eq.mpr h;simp only[List.lookup,hb,ai (λe:g=f=>hk (h.symm.trans e))]
   ·have hb:(g == k)=false:=beq_eq_false_iff_ne.mpr h;simp only[List.lookup,hb];exact ih
theorem keys_putF (f:Str)(v:V):∀fs:List (Str×V),f∈(putF f v fs).map (·.1)/\∀g,g∈fs.map (·.1)->g∈(putF f v fs).map (·.1)
 |[]=>⟨by simp[putF],λg h=>by simp at h⟩
 |(k,x)::r=>by
  obtain⟨i1,i2⟩:=keys_putF f v r;rw[show putF f v ((k,x)::r)=(if k=f then(k,v)::r else(k,x)::putF f v r) from rfl];by_cases hk:k=f
  ·rw[ak hk];subst hk;exact⟨by simp,λg h=>by simpa using h⟩
  ·rw[ai hk];refine⟨?_,λg h=>?_⟩
   ·rw[bo];exact ae _ i1
   ·rw[bo]at h ⊢;rcases aq.mp h with e|e
    ·exact aq.mpr (.inl e)
    ·exact ae _ (i2 g e)
theorem length_putF (f:Str)(v:V):∀fs:List (Str×V),(putF f v fs).length<=fs.length+1
 |[]=>by simp[putF]
 |(k,x)::r=>by
  have ih:=length_putF f v r;rw[show putF f v ((k,x)::r)=(if k=f then(k,v)::r else(k,x)::putF f v r) from rfl];by_cases hk:k=f
  ·rw[ak hk,aR,aR];lia
  ·rw[ai hk,aR,aR];lia
theorem RelO.some_of (r:RelO (some v) o):∃u,o=some u/\RelV v u:=by
 cases o with
 |none=>exact(show False from r).elim
 |some u=>exact⟨u,rfl,r⟩
theorem RelO.none_of (r:RelO none o):o=none:=by
 cases o with
 |none=>rfl
 |some u=>exact(show False from r).elim
theorem handed_of (r:RelV v u):W.handedIn u=true:=by
 cases v with
 |non=>cases (show u=Value.none from r);rfl
 |bl b=>cases (show u=Value.bool b from r);rfl
 |int i=>obtain⟨t,e⟩:=(show ∃t,u=Value.int i t from r);cases e;rfl
 |str x=>obtain⟨t,e⟩:=(show ∃t,u=Value.str x t from r);cases e;rfl
 |byt b=>obtain⟨t,e⟩:=(show ∃t,u=Value.bytes b t from r);cases e;rfl
 |flt b=>obtain⟨t,e⟩:=(show ∃t,u=Value.float b t from r);cases e;rfl
 |ref a=>cases (show u=Value.ref a from r);rfl
 |ty n=>cases (show u=Value.type n from r);rfl
section
variable {P:Program}{w:World}{H H':Hp}{h h':Heap}{a C dx:Addr}{fs fs':List (Str×V)}
theorem ins_get (hok:HOk P w H h)(e:H a=some (.ins C dx fs)):∃mA,ObjM h a dx C mA/\(∀f,RelO (fs.lookup f) (mA f))/\PySem.Within mA (fs.map (·.1))/\fs.length<=1000/\H dx=some (.own a):=by obtain⟨d,z,ne,ob,mA,n,r,q⟩:=(show ObjOk P w H h a (.ins C dx fs) from hok a _ e);exact⟨mA,⟨ob,n,ne⟩,r,q,z,d⟩
end
structure Cls (K:Fg)(C:Addr):Prop where
 pg:W.plainGet K C Str.empty=true
 hd:W.hasDictIn K C=true
 po:W.plainOver K C=true
 sa:W.findIn K (.ref C) "__setattr__"=some (some (.builtin "object.__setattr__"))
theorem Cls.get {K:Fg}{C:Addr}(c:Cls K C)(f:Str):W.plainGet K C f=true:=c.pg
def NoAttr (K:Fg)(C:Addr)(f:Str):Prop:=W.findIn K (.ref C) f=some none
theorem NoAttr.taker {K:Fg}{C:Addr}{f:Str}(n:NoAttr K C f):W.takerIn K C f=some none:=by unfold W.takerIn;rw[show W.findIn K (.ref C) f=some none from n];rfl
structure Meth (K:Fg)(C:Addr)(m:Str)(f:Addr):Prop where
 at_:W.findIn K (.ref C) m=some (some (.ref f))
 fn:W.isFn K (.ref f)=true
 kp:W.keepIn K (.ref f)=true
section
variable {X:Cx}{pins:List (Addr×Obj)}{σ:St}{H:Hp}{s:Shared}{a C dx:Addr}{fs:List (Str×V)}{f:Str}{v:V}{A:Around}{E:Value->Shared->Prop}
theorem getattr_ok (I:Inv X pins σ H s)(e:H a=some (.ins C dx fs))(c:Cls X.K C)(n:NoAttr X.K C f)(l:fs.lookup f=some v)
  (h:∀u s',Inv X pins σ H s' -> RelV v u->Q u s'):wpAny (model X.prog X.w) A (getAttr (.ref a) f b) Q E s:=by
 obtain⟨mA,O,r,_,_,_⟩:=ins_get I.hok e;obtain⟨u,hu,ru⟩:=RelO.some_of (v:=v) (o:=mA f) (by rw[<- l];exact r f);exact get_map I.kIn O (c.get f) c.hd n hu (handed_of ru) (h u _ (I.tok _) ru)
theorem getmeth_ok (I:Inv X pins σ H s)(e:H a=some (.ins C dx fs))(c:Cls X.K C)(k:Meth X.K C m g)(l:fs.lookup m=none)
  (h:Q (.ref g,[.ref a]) s):wpAny (model X.prog X.w) A (getMethod (.ref a) m pl) Q E s:=by
 obtain⟨mA,O,r,_,_,_⟩:=ins_get I.hok e;have hn:mA m=none:=RelO.none_of (by rw[<- l];exact r m);exact get_meth I.kIn O (c.get m) k.at_ k.fn hn h
theorem setattr_ok (I:Inv X pins σ H s)(e:H a=some (.ins C dx fs))(c:Cls X.K C)(n:NoAttr X.K C f)(hl:fs.length<1000)(ry:RelV y u)
  (h:∀s',Inv X pins σ (upd H a (.ins C dx (putF f y fs))) s' -> Q () s'):wpAny (model X.prog X.w) A (setAttr (.ref a) f u) Q E s:=by
 obtain⟨mA,O,r,wi,_,ho⟩:=ins_get I.hok e;have hz:(fs.map (·.1)).length<=sizeLine:=by rw[ag,aB];lia
 refine set_map I.kIn O c.sa c.po n.taker c.hd wi hz λh' O' sb=>h _ ?_;have hd:∃o,h'.get? dx=some o:=let ⟨o,_,_,e',_⟩:=O'.ns;⟨o,e'⟩
 refine I.write (x:=a) (e:=dx) (by rw[e];exact tJ) (.inr ho) (λb q hb z=>(sb.2 b hb).trans z) hd ?_;refine⟨by rw[upd_ne O.ne];exact ho,?_,O.ne,O'.obj,_,O'.ns,λg=>?_,λg hg=>?_⟩
 ·have:=length_putF f y fs;lia
 ·show RelO ((putF f y fs).lookup g) (if g=f then some u else mA g);rw[lookup_putF];by_cases q:g=f
  ·rw[ak q,ak q];exact ry
  ·rw[ai q,ai q];exact r g
 ·by_cases q:g=f
  ·rw[q];exact(keys_putF f y fs).1
  ·refine(keys_putF f y fs).2 g (wi g λz=>hg ?_);show(if g=f then some u else mA g)=none;rw[ai q];exact z
theorem Inv.made (I:Inv X pins σ H s):Inv X pins σ (upd (upd H s.heap.objs.size (.own (s.heap.objs.size+1))) (s.heap.objs.size+1) (.ins C s.heap.objs.size []))
  { s with heap:=(s.heap.push W.emptyDict).push (W.instObj C s.heap.objs.size) }:=by
 have e1:(s.heap.push W.emptyDict).get? s.heap.objs.size=some W.emptyDict:=aM s.heap rfl;have e2:((s.heap.push W.emptyDict).push (W.instObj C s.heap.objs.size)).get? (s.heap.objs.size+1)=some (W.instObj C s.heap.objs.size):=by
  have:=aM (s.heap.push W.emptyDict) (o:=W.instObj C s.heap.objs.size) rfl
  rwa [fG]at this
 have e3:(s.heap.push W.emptyDict).Ns s.heap.objs.size (λ_=>none):=⟨W.emptyDict,#[],_,e1,rfl,(λe he=>absurd he (by simp)),λ_=>rfl⟩;have I1:=I.laid (a:=s.heap.objs.size) (o:=.own (s.heap.objs.size+1)) (h':=s.heap.push W.emptyDict) (t':=s.toks) (λb u q=>af _ q) (aw _) ⟨_,e1⟩;refine I1.laid (a:=s.heap.objs.size+1) (o:=.ins C s.heap.objs.size []) (t':=s.toks) (λb u q=>af _ q) (fi (fG _ _)) ?_;have ne:s.heap.objs.size≠s.heap.objs.size+1:=bn (cf _);refine⟨by rw[upd_ne ne,upd_same],b6 _,ne,e2,λ_=>none,(Heap.Ns1.of_empty e3).at λo q=>af _ q,λ_=>tJ,λy hy=>absurd rfl hy⟩
theorem attr_of (hb:attributeBase e f env (eval e env)=eval e env)
  (h:wpAny (model prog w) A (eval e env) (λo s₁=>wpAny (model prog w) A (getAttr o f true) Q E s₁) E s):wpAny (model prog w) A (eval (.Attribute e f pos) env) Q E s:=
 Attribute_any_ h (by rw[arm_eval_Attribute,hb])
end
def tFld (K:Fg)(ta:TE)(f:Str):TE:=λσ H Q=>ta σ H λx H1=>∃a C dx fs v,x=.ref a/\H1 a=some (.ins C dx fs)/\Cls K C/\NoAttr K C f/\fs.lookup f=some v/\Q v H1
def sFld (K:Fg)(ta tv:TE)(f:Str):TS:=λD σ H=>tv σ H λy H1=>ta σ H1 λx H2=>∃a C dx fs,x=.ref a/\H2 a=some (.ins C dx fs)/\Cls K C/\NoAttr K C f/\fs.length<1000 /\
 D.nx σ (upd H2 a (.ins C dx (putF f y fs)))
def InOp (X:Cx)(op:Operator)(rd:V->V->Hp->VK->Prop):Prop:=
 ∀(pins:List (Addr×Obj)) (s:Shared) (σ:St) (H:Hp) (x y:V) (u v:Value) (Q:VK),Inv X pins σ H s->RelV x u->RelV y v->rd x y H Q->wpAny (model X.prog X.w) X.A (inplaceOp op u v) (EP X pins σ Q) X.xe s
def sFldAug (K:Fg)(ta tv:TE)(rd:V->V->Hp->VK->Prop)(f:Str):TS:=λD σ H=>ta σ H λx H1=>∃a C dx fs v,x=.ref a/\H1 a=some (.ins C dx fs)/\Cls K C/\NoAttr K C f/\fs.lookup f=some v /\
 tv σ H1 λy H2=>rd v y H2 λz H3=>∃dx' fs',H3 a=some (.ins C dx' fs')/\fs'.length<1000/\D.nx σ (upd H3 a (.ins C dx' (putF f z fs')))
section
variable {X:Cx}{o e value:Expr}{f:Str}{pos pos' tpos:Pos}{ta tv:TE}
theorem pe_fld (he:PE X e ta)(hb:attributeBase e f X.env (eval e X.env)=eval e X.env):PE X (.Attribute e f pos) (tFld X.K ta f):=by intro pins s σ H Q I h;refine attr_of hb (thn (he pins s σ H _ I h) λu s1 ⟨x,H1,I1,rx,a,C,dx,fs,v,ex,ea,c,n,l,q⟩=>?_);subst ex;obtain rfl:u=Value.ref a:=rx;exact getattr_ok I1 ea c n l λu' s2 I2 ru=>⟨v,H1,I2,ru,q⟩
theorem ps_fld (ha:PE X o ta)(hv:PE X value tv)(hs:swapsWith value (some (.Attribute o f pos')) pos.line X.env=pure false):PS X (.Assign [.Attribute o f pos'] value pos) (sFld X.K ta tv f):=by intro pins s σ H D I h;refine dq (thn (hv pins s σ H _ I h) λu s1 ⟨y,H1,I1,ry,q⟩=>thn (ha pins s1 σ H1 _ I1 q) λov s2 ⟨x,H2,I2,rx,a,C,dx,fs,ex,ea,c,n,l,q2⟩=>?_) hs;subst ex;obtain rfl:ov=Value.ref a:=rx;exact setattr_ok I2 ea c n l ry λs3 I3=>⟨σ,_,I3,q2⟩
theorem ps_fldaug (ha:PE X o ta)(hv:PE X value tv)(hop:InOp X op rd):PS X (.AugAssign (.Attribute o f tpos) op value pos) (sFldAug X.K ta tv rd f):=by intro pins s σ H D I h;refine wpAny_AugAssign_AttributeAny (thn (ha pins s σ H _ I h) λov s1 ⟨x,H1,I1,rx,a,C,dx,fs,v,ex,ea,c,n,l,q⟩=>?_);subst ex;obtain rfl:ov=Value.ref a:=rx;refine getattr_ok I1 ea c n l λu s2 I2 ru=>thn (hv pins s2 σ H1 _ I2 q) λw3 s3 ⟨y,H2,I3,ry,q3⟩=>thn (hop pins s3 σ H2 v y u w3 _ I3 ru ry q3) λw4 s4 ⟨z,H3,I4,rz,dx',fs',ea',l',q4⟩=>?_;exact setattr_ok I4 ea' c n l' rz λs5 I5=>⟨σ,_,I5,q4⟩
def rAdd:V->V->Hp->VK->Prop:=λx y H Q=>∃i j,x=.int i/\y=.int j/\Q (.int (i+j)) H
theorem in_add:InOp X .Add rAdd:=by rintro pins s σ H x y u v Q I rx ry ⟨i,j,rfl,rfl,q⟩;obtain⟨t,rfl⟩:=(show ∃t,u=Value.int i t from rx);obtain⟨t',rfl⟩:=(show ∃t',v=Value.int j t' from ry);exact PyProof.Rows.iadd_int ⟨.int (i+j),H,I.tok _,⟨_,rfl⟩,q⟩
end
section
variable {X:Cx}{pins:List (Addr×Obj)}{σ:St}{H:Hp}{s:Shared}{A:Around}{E:Value->Shared->Prop}{Q:Value->Shared->Prop}{c:Value}{b:Bool}
inductive TyOf (K:Fg)(H:Hp):V->Value->Prop where
 |non:TyOf K H .non (.type "NoneType")
 |bl (x:Bool):TyOf K H (.bl x) (.type "bool")
 |int (i:Int):TyOf K H (.int i) (.type "int")
 |str (x:Str):TyOf K H (.str x) (.type "str")
 |flt (x:UInt64):TyOf K H (.flt x) (.type "float")
 |lst {a:Addr} {xs:List V} (e:H a=some (.lst xs)):TyOf K H (.ref a) (.type "list")
 |frz {a:Addr} {o:Obj} {xs:List V} (e:H a=some (.frz o (.lst xs))):TyOf K H (.ref a) (.type "list")
 |tup {a:Addr} {xs:List V} (e:H a=some (.tup xs)):TyOf K H (.ref a) (.type "tuple")
 |dK {a:Addr} {kvs:List (Key×V)} (e:H a=some (.dK kvs)):TyOf K H (.ref a) (.type "dict")
 |dT {a:Addr} {kvs:List (List Key×V)} (e:H a=some (.dT kvs)):TyOf K H (.ref a) (.type "dict")
 |ins {a C dx:Addr} {fs:List (Str×V)} (e:H a=some (.ins C dx fs)) (cl:Cls K C) (ha:W.findIn K (.ref C) "__class__"=some (some (.builtin "object.__class__")))
   (hn:W.specialIn K (.builtin "object.__class__") "__get__"=some (some (.builtin "getset_descriptor.__get__"))) (htk:W.takesIn K (.builtin "object.__class__")=some true)
   (hm:W.mroIn K C (.type "object")=some true):TyOf K H (.ref a) (.ref C)
theorem isinst_ok (I:Inv X pins σ H s)(rx:RelV x u)(ty:TyOf X.K H x t)(e:W.kitOne X.K t c=some b)(h:∀tk,Q (.bool b) { s with toks:=tk }) :
  wpAny (model X.prog X.w) A (call (.builtin "isinstance") [u,c]) Q E s:=by
 cases ty with
 |non=>cases (show u=Value.none from rx);exact bF W.kitx_none I.kIn tJ e (λz=>nomatch z) h
 |bl y=>cases (show u=Value.bool y from rx);exact bF W.kitx_bool I.kIn tJ e (λz=>nomatch z) h
 |int i=>obtain⟨t,q⟩:=(show ∃t,u=Value.int i t from rx);cases q;exact bF W.kitx_int I.kIn tJ e (λz=>nomatch z) h
 |str y=>obtain⟨t,q⟩:=(show ∃t,u=Value.str y t from rx);cases q;exact bF W.kitx_str I.kIn tJ e (λz=>nomatch z) h
 |flt y=>obtain⟨t,q⟩:=(show ∃t,u=Value.float y t from rx);cases q;exact bF W.kitx_float I.kIn tJ e (λz=>nomatch z) h
 |@lst a xs ea=>cases (show u=Value.ref a from rx);obtain⟨_,_,n,_,h1⟩:=(show ObjOk X.prog X.w H s.heap a (.lst xs) from I.hok a _ ea);exact bF W.kitx_list I.kIn ⟨_,h1,rfl⟩ e (λz=>nomatch z) h
 |@frz a ob xs ea=>cases (show u=Value.ref a from rx);obtain⟨_,_,_,n,_,h1⟩:=(show ObjOk X.prog X.w H s.heap a (.frz ob (.lst xs)) from I.hok a _ ea);exact bF W.kitx_list I.kIn ⟨_,h1,rfl⟩ e (λz=>nomatch z) h
 |@tup a xs ea=>cases (show u=Value.ref a from rx);obtain⟨_,_,_,p⟩:=(show ObjOk X.prog X.w H s.heap a (.tup xs) from I.hok a _ ea);obtain⟨o,h1,h2,_⟩:=p;exact bF W.kitx_tuple I.kIn ⟨o,h1,h2⟩ e (λz=>nomatch z) h
 |@dK a kvs ea=>cases (show u=Value.ref a from rx);obtain⟨_,_,vs,_,p⟩:=(show ObjOk X.prog X.w H s.heap a (.dK kvs) from I.hok a _ ea);obtain⟨o,es,ep,h1,h2,_⟩:=p;exact bF W.kitx_dict I.kIn ⟨o,h1,h2.1⟩ e (λz=>nomatch z) h
 |@dT a kvs ea=>cases (show u=Value.ref a from rx);obtain⟨_,_,xs,_,o,es,ep,h1,h2,_⟩:=(show ObjOk X.prog X.w H s.heap a (.dT kvs) from I.hok a _ ea);exact bF W.kitx_dict I.kIn ⟨o,h1,h2.1⟩ e (λz=>nomatch z) h
 |@ins a C dx fs ea cl ha hn htk hm=>cases (show u=Value.ref a from rx);obtain⟨mA,O,_⟩:=ins_get I.hok ea;obtain⟨od,J,_⟩:=O.look;exact bF (W.kitx_own (cl.get _) cl.hd ha hn htk hm) I.kIn J e (λz=>nomatch z) h
end
structure Room (k:Nat)(A:Around):Prop where
 hd:A.handled=none
 dp:A.depth+3*k+5<recursionLimit
 un:A.units+16*k+200<cLine
theorem Room.mono (r:Room k A)(h:j<=k):Room j A:=⟨r.hd,by have:=r.dp;lia,by have:=r.un;lia⟩
theorem Room.deeper (r:Room (k+1) A)(env:Env):Room k (A.deeper env):=
 ⟨r.hd,by have:=r.dp;show A.depth+1+3*k+5<_;lia,by have:=r.un;show A.units+3+16*k+200<_;lia⟩
theorem make_depth {A:Around}{C:Addr}{us:Lv}{kw:List (Str×Value)}:(A.under (.builtin "type.__call__" ⟨.ref C::us,kw⟩)).depth=A.depth+1:=by
 first|rfl|simp[Around.under,Code.weight,Code.isCreation,Code.isGuard,Code.isCaller,Code.frames,Code.isFrame,guardIds]
theorem make_units {A:Around}{C:Addr}{us:Lv}{kw:List (Str×Value)}:(A.under (.builtin "type.__call__" ⟨.ref C::us,kw⟩)).units=A.units+1:=by
 first|rfl|simp[Around.under,Code.cUnits,Code.frames,Code.isFrame]
theorem Room.make (r:Room (k+1) A)(C:Addr)(us:Lv)(kw:List (Str×Value)):Room k (A.under (.builtin "type.__call__" ⟨.ref C::us,kw⟩)):=
 ⟨r.hd,by have:=r.dp;rw[make_depth];lia,by have:=r.un;rw[make_units];lia⟩
theorem Room.depth (r:Room k A):A.depth<recursionLimit:=by have:=r.dp;lia
def tNil:TA:=λ_ H Q=>Q [] H
def tCons (ta:TE)(tr:TA):TA:=λσ H Q=>ta σ H λx H1=>tr σ H1 λxs H2=>Q (x::xs) H2
section
variable {X:Cx}{e:Expr}{es:List Expr}{te:TE}{t:TA}{pos:Pos}
theorem pa_nil:PA X [] tNil:=λ_ _ _ _ H Q I h=>d8 ⟨[],H,I,.nil,h⟩
theorem pa_cons (ha:PE X e te)(hr:PA X es t)(hs:starEach (e::es) X.env=(false,eval e X.env)::starEach es X.env:=by rfl):PA X (e::es) (tCons te t):=by intro pos pins s σ H Q I h;rw[hs];show wpAny _ _ (spliced ((false,eval e X.env)::backTo pos (starEach es X.env))) _ _ s;refine dW (thn (ha pins s σ H _ I h) λu s1 ⟨x,H1,I1,r1,q1⟩=>?_);exact thn (hr pos pins s1 σ H1 _ I1 q1) λus s2 ⟨xs,H2,I2,r2,q2⟩=>⟨x::xs,H2,I2,.cons r1 r2,q2⟩
def tTup (t:TA):TE:=λσ H Q=>t σ H λxs H1=>xs.length<=sizeLine/\∀p,H1 p=none->Q (.ref p) (upd H1 p (.tup xs))
def tLst (t:TA):TE:=λσ H Q=>t σ H λxs H1=>xs.length<=sizeLine/\∀p,H1 p=none->Q (.ref p) (upd H1 p (.lst xs))
theorem pe_tup (h:PA X es t):PE X (.Tuple es x1 pos) (tTup t):=by intro pins s σ H Q I hq;refine wpAny_Tuple_spliced (thn (h pos pins s σ H _ I hq) λus s1 ⟨xs,H1,I1,r,z,q⟩=>⟨by rw[<- r.length];exact z,?_⟩);have hf:H1 s1.heap.objs.size=none:=I1.hok.fresh (aw _);refine⟨.ref s1.heap.objs.size,upd H1 s1.heap.objs.size (.tup xs),I1.laid (t':=s1.toks) (λb u e=>af _ e) (aw _) ?_,rfl,q _ hf⟩;exact⟨z,us,r,⟨_,aM _ rfl,rfl,_,rfl⟩⟩
theorem pe_lst (h:PA X es t):PE X (.List es pos) (tLst t):=by intro pins s σ H Q I hq;refine wpAny_List_spliced (thn (h pos pins s σ H _ I hq) λus s1 ⟨xs,H1,I1,r,z,q⟩=>⟨by rw[<- r.length];exact z,?_⟩);have hf:H1 s1.heap.objs.size=none:=I1.hok.fresh (aw _);refine⟨.ref s1.heap.objs.size,upd H1 s1.heap.objs.size (.lst xs),I1.laid (t':=s1.toks) (λb u e=>af _ e) (aw _) ?_,rfl,q _ hf⟩;exact⟨z,us,0,r,aM _ rfl⟩
end
abbrev Sp:=List V->Hp->VK->XK->Prop
abbrev CXT:=List Env->Hp->Shared->XK->Value->Shared->Prop
structure Env0 (P:Program)(w:World)(K:Fg)(mg:Mg)(base:Heap)(A:Around)(outer:List Env)(s:Shared)(H:Hp):Prop where
 frames:A.frames=some outer
 mod:Mod K mg base
 bs:∀b o,base.get? b=some o->s.heap.get? b=some o/\H b=none
 bsz:base.objs.size<=s.heap.objs.size
 funs:s.heap.FunFrames base outer
 frf:TV K H (frs outer)
 hok:HOk P w H s.heap
 bare:AllBare s.gens
def CE (outer:List Env)(P:Program)(w:World)(H:Hp)(s:Shared)(Q:VK)(u:Value)(s':Shared):Prop:=
 ∃v H',s'.os=s.os/\AllBare s'.gens/\Un (frs outer) [] H H' s.heap s'.heap/\HOk P w H' s'.heap/\RelV v u/\Q v H'
def CR (CX:CXT)(outer:List Env)(P:Program)(w:World)(H:Hp)(s:Shared)(Q:VK)(E:XK)(r:Result)(s':Shared):Prop:=
 match r with
 | .ok (.ret u)=>CE outer P w H s Q u s'
 | .ok _=>False
 | .error e=>CX outer H s E e s'
structure FnOk (P:Program)(w:World)(K:Fg)(mg:Mg)(base:Heap)(CX:CXT)(k:Nat)(f:Addr)(fd:FuncData)(ps:List Str)(sp:Sp):Prop where
 len:∀vs H Q E,sp vs H Q E->vs.length=ps.length
 run:∀(A:Around) (outer:List Env) (s:Shared) (H:Hp) (args:Args) (us:List Value) (vs:List V) (Q:VK) (E:XK),Room k A->Env0 P w K mg base A outer s H->BindsTo s fd args (ps.zip us)->Vals vs us->sp vs H Q E ->
  codeAny (model P w) A (.call (.ref f) args) (CR CX outer P w H s Q E) s
theorem FnOk.mono {P:Program}{w:World}{K:Fg}{mg:Mg}{base:Heap}{CX:CXT}{j k:Nat}{f:Addr}{fd:FuncData}{ps:Ls}{sp:Sp}(F:FnOk P w K mg base CX j f fd ps sp)(h:j<=k) :
  FnOk P w K mg base CX k f fd ps sp:=⟨F.len,λA outer s H args us vs Q E hr=>F.run A outer s H args us vs Q E (hr.mono h)⟩
theorem FnOk.imp {P:Program}{w:World}{K:Fg}{mg:Mg}{base:Heap}{CX:CXT}{k:Nat}{f:Addr}{fd:FuncData}{ps:Ls}{sp sp':Sp}(F:FnOk P w K mg base CX k f fd ps sp)
  (h:∀vs H Q E,sp' vs H Q E->sp vs H Q E):FnOk P w K mg base CX k f fd ps sp':=
 ⟨λvs H Q E q=>F.len vs H Q E (h _ _ _ _ q),λA outer s H args us vs Q E hr he hb hv hs=>F.run A outer s H args us vs Q E hr he hb hv (h _ _ _ _ hs)⟩
theorem Env0.make {P:Program}{w:World}{K:Fg}{mg:Mg}{base:Heap}{A:Around}{outer:List Env}{s:Shared}{H:Hp}(e:Env0 P w K mg base A outer s H)(C:Addr)(us:Lv)(kw:List (Str×Value)) :
  Env0 P w K mg base (A.under (.builtin "type.__call__" ⟨.ref C::us,kw⟩)) outer s H:=⟨by first|exact e.frames|(simpa [Around.under,Code.envs,Code.isFrame,pushEnvs] using e.frames),e.mod,e.bs,e.bsz,e.funs,e.frf,e.hok,e.bare⟩
section
variable {X:Cx}{pins:List (Addr×Obj)}{σ:St}{H:Hp}{s s':Shared}
theorem Inv.env0 (I:Inv X pins σ H s):Env0 X.prog X.w X.K X.mg X.base X.A X.stack s H:=
 ⟨I.ok.frames,I.ok.mod,I.bs,aA I.ok.bsz I.sz,I.stack,⟨I.stkFree,λx h=>let ⟨ps,e⟩:=I.ok.frf.t x h;let ⟨more,e'⟩:=I.base.tbls x.2.1 _ e;⟨ps++more,e'⟩⟩,I.hok,I.bare⟩
theorem Inv.after (I:Inv X pins σ H s)(h:CE X.stack X.prog X.w H s Q u s'):EP X pins σ Q u s':=by obtain⟨v,H',os,bare,un,hok,r,q⟩:=h;obtain⟨hh,g,d,t,os'⟩:=s';obtain rfl:os'=s.os:=os;exact⟨v,H',I.call (h':=hh) (g':=g) (d':=d) (t':=t) (ch:=[]) un hok bare (λb z=>absurd z (by simp)),r,q⟩
end
def tCall (sp:Sp)(dvs:List V)(E:XK)(t:TA):TE:=λσ H Q=>t σ H λvs H1=>sp (vs++dvs) H1 Q E
def tMeth (C:Addr)(m:Str)(sp:Sp)(dvs:List V)(E:XK)(ta:TE)(t:TA):TE:=λσ H Q=>ta σ H λx H1=>∃a dx fs,x=.ref a/\H1 a=some (.ins C dx fs)/\fs.lookup m=none /\
 t σ H1 λvs H2=>sp (x::(vs++dvs)) H2 Q E
def tMake (C:Addr)(sp:Sp)(dvs:List V)(E:XK)(t:TA):TE:=λσ H Q=>t σ H λvs H1=>∀x dx,H1 x=none->H1 dx=none->dx≠x ->
 sp (.ref x::(vs++dvs)) (upd (upd H1 dx (.own x)) x (.ins C dx [])) (λv H2=>v=.non/\Q (.ref x) H2) E
def Binds (K:Fg)(fd:FuncData)(ps:List Str)(ds:List Value):Prop:=
 ∀(s:Shared) (us:List Value),K.In s.heap->(us++ds).length=ps.length->BindsTo s fd ⟨us,[]⟩ (ps.zip (us++ds))
theorem Binds.all {K:Fg}{fd:FuncData}{ps:Ls}(h:∀us:List Value,us.length=ps.length->bindArgs fd ⟨us,[]⟩=pure (ps.zip us)):Binds K fd ps []:=λs us _ hl=>by rw[aU]at hl ⊢;exact .of_eq (h us hl)
def Passes (CX:CXT)(X:Cx)(E:XK):Prop:=∀(pins:List (Addr×Obj)) (σ:St) (H:Hp) (s:Shared) (e:Value) (s':Shared),Inv X pins σ H s->CX X.stack H s E e s' -> X.xe e s'
section
variable {X:Cx}{CX:CXT}{k:Nat}{f C:Addr}{fd:FuncData}{ps:List Str}{sp:Sp}{dvs:List V}{ds:List Value}{E:XK}{x m:Str}{p pos apos:Pos}{e o:Expr}{es:List Expr}{ta:TE}{t:TA}
theorem run_fn (F:FnOk X.prog X.w X.K X.mg X.base CX k f fd ps sp)(hr:Room k X.A)(hb:Binds X.K fd ps ds)(hd:Vals dvs ds)(hx:Passes CX X E)
  (I:Inv X pins σ H s) (r:Vals vs us) (h:sp (vs++dvs) H Q E):wpAny (model X.prog X.w) X.A (call (.ref f) us) (EP X pins σ Q) X.xe s:=by
 have r2:Vals (vs++dvs) (us++ds):=r.append hd;have hl:(us++ds).length=ps.length:=by rw[<- r2.length];exact F.len _ _ _ _ h
 refine cX (dh (F.run X.A X.stack s H ⟨us,[]⟩ (us++ds) (vs++dvs) Q E hr I.env0 (hb s us I.kIn hl) r2 h) λr s' hq=>?_);cases r with
 |error e=>exact hx pins σ H s e s' I hq
 |ok fl=>
  cases fl with
  |ret u=>exact I.after hq
  |next=>exact False.elim hq
  |brk=>exact False.elim hq
  |cont=>exact False.elim hq
theorem pe_call (F:FnOk X.prog X.w X.K X.mg X.base CX k f fd ps sp)(hr:Room k X.A)(hg:Gl X x)(hm:X.mg x=some (.ref f))(hk:W.keepIn X.K (.ref f)=true)(hb:Binds X.K fd ps ds)(hd:Vals dvs ds)(hx:Passes CX X E)
  (ha:PA X (e::es) t) (hdb:(x == ("__debug__":Str))=false:=by decide) (he:starEach (e::es) X.env=(false,eval e X.env)::starEach es X.env:=by rfl) (hpl:(backTo pos (starEach es X.env)).any (·.1)=false:=by rfl) :
  PE X (.Call (.Name x p) (e::es) [] pos) (tCall sp dvs E t):=by
 intro pins s σ H Q I h;refine bW (ld_glob I hg hm ?_ hdb);refine b9 (h₀:=X.base) I.ok.mod.kin hk (thn (ha pos pins s σ H _ I h) λus s1 ⟨vs,H1,I1,r,q⟩=>⟨I1.kIn,?_⟩) he hpl;exact run_fn F hr hb hd hx I1 r q
theorem pe_meth (he:PE X o ta)(c:Cls X.K C)(hm:Meth X.K C m f)(F:FnOk X.prog X.w X.K X.mg X.base CX k f fd ps sp)(hr:Room k X.A)(hb:Binds X.K fd ps ds)(hd:Vals dvs ds)(hx:Passes CX X E)(ha:PA X (e::es) t)
  (hst:starEach (e::es) X.env=(false,eval e X.env)::starEach es X.env:=by rfl) (hpl:(backTo pos (starEach es X.env)).any (·.1)=false:=by rfl)
  (ht:eval (.Call (.Attribute o m apos) (e::es) [] pos) X.env=(do
   let ov <- eval o X.env
   standAt apos.atName
   let (f,first) <- holding [ov] (getMethod ov m pl)
   callWith pos f first (backTo pos (starEach (e::es) X.env)) (backToKw pos (keywordEach [] X.env))):=by rfl) :
  PE X (.Call (.Attribute o m apos) (e::es) [] pos) (tMeth C m sp dvs E ta t):=by
 intro pins s σ H Q I h;refine cQ (pl:=pl) (thn (he pins s σ H _ I h) λu s1 ⟨x,H1,I1,rx,a,dx,fs,ex,ea,l,q⟩=>?_) ht;subst ex;obtain rfl:u=Value.ref a:=rx;refine getmeth_ok I1 ea c hm l ?_;refine b9 (first:=[.ref a]) (h₀:=X.base) I.ok.mod.kin hm.kp (thn (ha pos pins s1 σ H1 _ I1 q) λus s2 ⟨vs,H2,I2,r,q2⟩=>⟨I2.kIn,?_⟩) hst hpl
 exact run_fn (us:=.ref a::us) (vs:=.ref a::vs) F hr hb hd hx I2 (.cons rfl r) q2
theorem pe_meth0 (he:PE X o ta)(c:Cls X.K C)(hm:Meth X.K C m f)(F:FnOk X.prog X.w X.K X.mg X.base CX k f fd ps sp)(hr:Room k X.A)(hb:Binds X.K fd ps ds)(hd:Vals dvs ds)(hx:Passes CX X E)
  (ht:eval (.Call (.Attribute o m apos) [] [] pos) X.env=(do
   let ov <- eval o X.env
   standAt apos.atName
   let (f,first) <- holding [ov] (getMethod ov m pl)
   callWith pos f first (backTo pos (starEach [] X.env)) (backToKw pos (keywordEach [] X.env))):=by rfl) :
  PE X (.Call (.Attribute o m apos) [] [] pos) (tMeth C m sp dvs E ta tNil):=by
 intro pins s σ H Q I h;refine cQ (pl:=pl) (thn (he pins s σ H _ I h) λu s1 ⟨x,H1,I1,rx,a,dx,fs,ex,ea,l,q⟩=>?_) ht;subst ex;obtain rfl:u=Value.ref a:=rx;refine getmeth_ok I1 ea c hm l ?_;exact fK (first:=[.ref a]) I1.kIn hm.kp (run_fn (us:=[.ref a]) (vs:=[.ref a]) F hr hb hd hx I1 (.cons rfl .nil) q)
structure Mk (K:Fg)(C f:Addr):Prop where
 makes:W.makesIn K C=true
 init:W.findIn K (.ref C) "__init__"=some (some (.ref f))
 fn:W.isFn K (.ref f)=true
 kp:W.keepIn K (.ref C)=true
theorem run_make (M:Mk X.K C f)(F:FnOk X.prog X.w X.K X.mg X.base CX k f fd ps sp)(hr:Room (k+1) X.A)(hb:Binds X.K fd ps ds)(hd:Vals dvs ds)
  (hx:Passes CX X E) (I:Inv X pins σ H s) (r:Vals vs us)
  (h:∀x dx,H x=none->H dx=none->dx≠x->sp (.ref x::(vs++dvs)) (upd (upd H dx (.own x)) x (.ins C dx [])) (λv H2=>v=.non/\Q (.ref x) H2) E) :
  wpAny (model X.prog X.w) X.A (call (.ref C) us) (EP X pins σ Q) X.xe s:=by
 have hq:=h (s.heap.objs.size+1) s.heap.objs.size (I.hok.fresh (bJ _)) (I.hok.fresh (aw _)) (bn (cf _));have I2:=Inv.made (C:=C) I;have r2:Vals (V.ref (s.heap.objs.size+1)::(vs++dvs)) (Value.ref (s.heap.objs.size+1)::(us++ds)):=.cons rfl (r.append hd);have hl:(Value.ref (s.heap.objs.size+1)::us++ds).length=ps.length:=by have e:=r2.length;rw[F.len _ _ _ _ hq]at e;exact e.symm
 refine cX (make_map (f:=f) I.kIn M.makes M.init (beq_iff_eq.mp M.fn) (dh (F.run _ X.stack _ _ ⟨Value.ref (s.heap.objs.size+1)::us,[]⟩ (Value.ref (s.heap.objs.size+1)::(us++ds)) _ _ E (hr.make C us [])
  (I2.env0.make C us []) (hb _ (Value.ref (s.heap.objs.size+1)::us) I2.kIn hl) r2 hq) λr s' hq'=>?_))
 cases r with
 |error e=>exact hx pins σ _ _ e s' I2 hq'
 |ok fl=>
  cases fl with
  |ret u=>obtain⟨v,H',I3,rv,ev,q3⟩:=I2.after hq';subst ev;exact⟨rv,⟨V.ref (s.heap.objs.size+1),H',I3,rfl,q3⟩⟩
  |next=>exact False.elim hq'
  |brk=>exact False.elim hq'
  |cont=>exact False.elim hq'
theorem pe_make (M:Mk X.K C f)(F:FnOk X.prog X.w X.K X.mg X.base CX k f fd ps sp)(hr:Room (k+1) X.A)(hg:Gl X x)(hm:X.mg x=some (.ref C))(hb:Binds X.K fd ps ds)(hd:Vals dvs ds)(hx:Passes CX X E)
  (ha:PA X (e::es) t) (hdb:(x == ("__debug__":Str))=false:=by decide) (he:starEach (e::es) X.env=(false,eval e X.env)::starEach es X.env:=by rfl) (hpl:(backTo pos (starEach es X.env)).any (·.1)=false:=by rfl) :
  PE X (.Call (.Name x p) (e::es) [] pos) (tMake C sp dvs E t):=by
 intro pins s σ H Q I h;refine bW (ld_glob I hg hm ?_ hdb);refine b9 (h₀:=X.base) I.ok.mod.kin M.kp (thn (ha pos pins s σ H _ I h) λus s1 ⟨vs,H1,I1,r,q⟩=>⟨I1.kIn,?_⟩) he hpl;exact run_make M F hr hb hd hx I1 r q
theorem pe_make0 (M:Mk X.K C f)(F:FnOk X.prog X.w X.K X.mg X.base CX k f fd ps sp)(hr:Room (k+1) X.A)(hg:Gl X x)(hm:X.mg x=some (.ref C))(hb:Binds X.K fd ps ds)(hd:Vals dvs ds)(hx:Passes CX X E)
  (hdb:(x == ("__debug__":Str))=false:=by decide):PE X (.Call (.Name x p) [] [] pos) (tMake C sp dvs E tNil):=by
 intro pins s σ H Q I h;refine bW (ld_glob I hg hm ?_ hdb);exact fK I.kIn M.kp (run_make (us:=[]) M F hr hb hd hx I .nil h)
end
structure FnScope (N P:List Str)(sc:Scope):Prop where
 kind:sc.kind=.function
 co:sc.isCoroutine=false
 gen:sc.isGenerator=false
 nd:N.Nodup
 pre:N.take P.length=P
 par:∀x∈P,sc.names.lookup x=some .local\/sc.names.lookup x=some .cell
 nofree:∀y∈sc.names,y.2 ≠ .free
theorem bindL_out {kindOf:Str->Option NameKind}:∀{binds:List (Str×Value)} {m:Mg},(∀v,(x,v)∉binds)->bindL kindOf binds m x=m x
 |[],_,_=>rfl
 |(n,v)::r,m,h=>by
  unfold bindL;rw[bindL_out λw hw=>h w (ae _ hw)];split
  ·have:x≠n:=by rintro rfl;exact h v aj
   simp[this]
  ·rfl
theorem bindC_out {kindOf:Str->Option NameKind}:∀{binds:List (Str×Value)} {m:Mg},(∀v,(x,v)∉binds)->bindC kindOf binds m x=m x
 |[],_,_=>rfl
 |(n,v)::r,m,h=>by
  unfold bindC;rw[bindC_out λw hw=>h w (ae _ hw)];split
  ·rfl
  ·have:x≠n:=by rintro rfl;exact h v aj
   simp[this]
theorem bindL_get {kindOf:Str->Option NameKind}:∀{P:Ls} {vs:Lv} {i:Nat} {m:Mg},P.Nodup->P[i]?=some x->vs[i]?=some v->kindOf x=some .local ->
  bindL kindOf (P.zip vs) m x=some v
 |[],_,_,_,_,h,_,_=>by simp at h
 |_::_,[],_,_,_,_,h,_=>by simp at h
 |p::P,w::vs,0,m,nd,h1,h2,hk=>by simp at h1 h2;subst h1;subst h2;show bindL kindOf ((p,w)::P.zip vs) m p=_;unfold bindL;rw[bindL_out λv hv=>(dJ.mp nd).1 (fj hv).1,ak hk];simp
 |p::P,w::vs,i+1,m,nd,h1,h2,hk=>by show bindL kindOf ((p,w)::P.zip vs) m x=_;unfold bindL;exact bindL_get (i:=i) (dJ.mp nd).2 (by simpa using h1) (by simpa using h2) hk
theorem bindC_get {kindOf:Str->Option NameKind}:∀{P:Ls} {vs:Lv} {i:Nat} {m:Mg},P.Nodup->P[i]?=some x->vs[i]?=some v->kindOf x≠some .local ->
  bindC kindOf (P.zip vs) m x=some v
 |[],_,_,_,_,h,_,_=>by simp at h
 |_::_,[],_,_,_,_,h,_=>by simp at h
 |p::P,w::vs,0,m,nd,h1,h2,hk=>by simp at h1 h2;subst h1;subst h2;show bindC kindOf ((p,w)::P.zip vs) m p=_;unfold bindC;rw[bindC_out λv hv=>(dJ.mp nd).1 (fj hv).1,ai hk];simp
 |p::P,w::vs,i+1,m,nd,h1,h2,hk=>by show bindC kindOf ((p,w)::P.zip vs) m x=_;unfold bindC;exact bindC_get (i:=i) (dJ.mp nd).2 (by simpa using h1) (by simpa using h2) hk
def start (N:List Str)(vs:List V):St:=vs.map some++List.replicate (N.length-vs.length) none
def cxOf (CX:CXT)(P:Program)(w:World)(K:Fg)(mg:Mg)(base:Heap)(N:List Str)(qual:Str)(scope:Scope)(f:Addr)(cd:Value)(A:Around)(outer:List Env)(s:Shared)(H:Hp)(E:XK):Cx where
 prog:=P
 w:=w
 K:=K
 mg:=mg
 base:=base
 A:=A.deeper (envOfC qual scope s.heap.objs.size f cd)
 N:=N
 s₀:=s
 H₀:=H
 env:=envOfC qual scope s.heap.objs.size f cd
 outer:=outer
 stack:=envOfC qual scope s.heap.objs.size f cd::outer
 ex:=[]
 calm:=true
 fn:=λ_=>true
 pn:=[]
 xe:=λe s'=>wpAny (model P w) (A.deeper (envOfC qual scope s.heap.objs.size f cd)) (leaving (envOfC qual scope s.heap.objs.size f cd) e) (λ_ s''=>CX outer H s E e s'') (λe' s''=>CX outer H s E e' s'') s'
theorem cell_has {sc:Scope}{n:Nat}{x:Str}(h:sc.names.lookup x=some .cell):∃c,(cellsFrom n sc.names []).lookup x=some c:=by have q:=ff sc.names n [] (.inl h);exact bN.mp q
theorem inv_start {CX:CXT}{P:Program}{w:World}{K:Fg}{mg:Mg}{base:Heap}{N ps:Ls}{qual:Str}{scope:Scope}{f:Addr}{cd:Value}{A:Around}{outer:List Env}{s s1:Shared}{H:Hp}{E:XK}{us:Lv}{vs:List V}
  (S:FnScope N ps scope) (hd:A.handled=none) (e0:Env0 P w K mg base A outer s H) (hl:vs.length=ps.length) (r:Vals vs us)
  (x:InCallC s s.heap.objs.size (bindL (envOfC qual scope s.heap.objs.size f cd).kindOf (ps.zip us) λ_=>none) (cellsFrom (s.heap.objs.size+1) scope.names []) (bindC (envOfC qual scope s.heap.objs.size f cd).kindOf (ps.zip us) λ_=>none) s1) :
  Inv (cxOf CX P w K mg base N qual scope f cd A outer s H E) [] (start N vs) H s1:=by
 have hpl:ps.length<=N.length:=by have:=congrArg List.length S.pre;rw[dB]at this;lia
 obtain⟨h1,tk,rfl,hk⟩:=x.done;have noA:∀b:Addr,b∉(cxOf CX P w K mg base N qual scope f cd A outer s H E).ex:=λb z=>absurd (show b∈([]:List Addr) from z) (by simp);refine⟨⟨e0.mod,S.kind,rfl,rfl,aw _,λy z c h1 h2=>?_,λy hy=>?_,λy c _ h=>?_,λ_=>hd,Around.frames_deeper e0.frames,.inr ⟨rfl,rfl⟩,λb z=>absurd z (noA b),e0.bs,e0.bsz,λb _ _=>noA b,λb z=>absurd z (noA b),e0.funs,e0.frf⟩,
  rfl,e0.bare,Un.kept hk,⟨_,x.toInCall.ns,λi y v h1 h2 h3=>?_⟩,λy c h=>⟨_,x.cell y c h⟩,e0.hok.fresh (aw _),λy c h=>?_,λp hp=>absurd (show p∈([]:List (Addr×Obj)) from hp) (by simp),e0.hok.kept hk,?_⟩
 ·exact name_of_addr x.apart (cm h1) (cm h2)
 ·have hy:scope.names.lookup y=some .cell\/scope.names.lookup y=some .free:=hy;rcases hy with hy|hy
  ·exact cell_has hy
  ·exact absurd rfl (S.nofree _ (cm hy))
 ·exact b0 (x.above y c (cm h))
 ·have hi:i<vs.length:=by
   unfold start at h2;by_cases hi:i<vs.length
   ·exact hi
   ·rw[bh (by simpa using hi)]at h2;rw[bX]at h2;split at h2<;>cases h2
  have ha:vs[i]?=some v:=by
   unfold start at h2;rw[br (by simpa using hi),aT]at h2;cases e:vs[i]? with
   |none=>rw[e]at h2;cases h2
   |some a=>rw[e]at h2;cases h2;rfl
  obtain⟨u,hu,rv⟩:=r.get ha;have hp:ps[i]?=some y:=by rw[<- S.pre,List.getElem?_take_of_lt (by lia)];exact h1
  have ndP:ps.Nodup:=by rw[<- S.pre];exact S.nd.sublist (dt _ _)
  refine⟨u,rv,?_⟩;rcases S.par y (bC hp) with k|k
  ·exact .inl ⟨k,bindL_get ndP hp hu k⟩
  ·obtain⟨c,e⟩:=cell_has (n:=s.heap.objs.size+1) k;refine .inr ⟨.inl k,c,e,?_⟩;have q:=x.cell y c e;rw[bindC_get ndP hp hu (by show scope.names.lookup y≠_;rw[k];decide)]at q;exact q
 ·exact e0.hok.fresh (b0 (x.above y c (cm h)))
 ·unfold start;show _=N.length;rw[ar,ag,bv];lia
theorem fn_of {CX:CXT}{P:Program}{w:World}{K:Fg}{mg:Mg}{base:Heap}{k:Nat}{f:Addr}{name qual:Str}{params:Arguments}{body:List Stmt}{scope:Scope}{dV kV doc pm cdv ct oc:Value}{an od:Option Addr}
  {osl:Array (Option Value)} {N ps:List Str} {sp:Sp} (lk:K.lookup f=some ⟨oc,od,.func (W.fnOf name qual params body scope dV kV doc pm an cdv ct),osl⟩) (hcd:W.codeIn K cdv qual=true) (S:FnScope N ps scope)
  (len:∀vs H Q E,sp vs H Q E->vs.length=ps.length)
  (hbody:∀(A:Around) (outer:List Env) (s:Shared) (H:Hp) (vs:List V) (Q:VK) (E:XK),Room k (A.deeper (envOfC qual scope s.heap.objs.size f cdv))->sp vs H Q E ->
   ∃t,PSs (cxOf CX P w K mg base N qual scope f cdv A outer s H E) body t/\t { nx:=λ_ H'=>Q .non H',rt:=Q } (start N vs) H) :
  FnOk P w K mg base CX (k+1) f (W.fnOf name qual params body scope dV kV doc pm an cdv ct) ps sp:=by
 refine⟨len,λA outer s H args us vs Q E hr e0 hb r hsp=>?_⟩;have hl:=len _ _ _ _ hsp;have KX:K.In s.heap:=e0.mod.kin.keeps λb o e=>(e0.bs b o e).1;have lim:s.heap.NoLimit:=e0.mod.nolimit.keeps λb o e=>(e0.bs b o e).1;have hkind:∀y∈ps.zip us,scope.names.lookup y.1=some .local\/(scope.names.lookup y.1=some .cell/\((cellsFrom (s.heap.objs.size+1) scope.names []).lookup y.1).isSome=true):=λ⟨n,v⟩ hy=>by
  rcases S.par n (fj hy).1 with q|q
  ·exact .inl q
  ·exact .inr ⟨q,ff _ _ _ (.inl q)⟩
 refine codeAny_call_function hr.depth (KX _ _ lk) rfl S.co S.gen rfl (W.codeRec_of KX hcd) (hb _ _ _ _ ?_);refine wpAny_newFunctionEnv_cells S.kind hkind λenv he s1 x=>?_;subst he;refine⟨lim.keeps x.toInCall.keep,codeAny_func ?_⟩;obtain⟨t,ht,hq⟩:=hbody A outer s H vs Q E (hr.deeper _) hsp;have I:Inv (cxOf CX P w K mg base N qual scope f cdv A outer s H E) [] (start N vs) H s1:=inv_start S hr.hd e0 hl r x;refine cJ (ht [] s1 (start N vs) H _ I hq) (λfl s' hs=>?_) λe s' hs=>hs;have fin:∀{σ':St} {H':Hp} {v:V} {u:Value},Inv (cxOf CX P w K mg base N qual scope f cdv A outer s H E) [] σ' H' s' -> RelV v u->Q v H' -> CE outer P w H s Q u s':=
  λ{σ' H' v u} J rv q=>⟨v,H',J.os,J.bare,J.base,J.hok,rv,q⟩
 cases fl with
 |ret u=>obtain⟨v,σ',H',J,rv,q⟩:=hs;exact fin J rv q
 |next=>obtain⟨σ',H',J,q⟩:=hs;exact fin (v:=V.non) (u:=Value.none) J rfl q
 |brk=>obtain⟨_,_,_,q⟩:=hs;exact False.elim q
 |cont=>obtain⟨_,_,_,q⟩:=hs;exact False.elim q
section
variable {X:Cx}{x:Str}{p pos:Pos}{e:Expr}{es:List Expr}{t:TA}{id T:String}{r:List V->Hp->VK->Prop}
def tCB (r:List V->Hp->VK->Prop)(t:TA):TE:=λσ H Q=>t σ H λvs H1=>r vs H1 Q
theorem pe_callB (hc:CallR X (.builtin id) r)(hg:Gl X x)(hm:X.mg x=none)(hv:bootBuiltins x=some (.builtin id))(ha:PA X (e::es) t)(hn:x≠"__name__":=by decide)(hdb:(x == ("__debug__":Str))=false:=by decide)
  (he:starEach (e::es) X.env=(false,eval e X.env)::starEach es X.env:=by rfl) (hpl:(backTo pos (starEach es X.env)).any (·.1)=false:=by rfl):PE X (.Call (.Name x p) (e::es) [] pos) (tCB r t):=by
 intro pins s σ H Q I h;refine bW (ld_blt I hg hm hv ?_ hn hdb);exact PyProof.Rows.callWith_builtin1 (thn (ha pos pins s σ H _ I h) λus s1 ⟨vs,H1,I1,r1,q1⟩=>hc pins s1 σ H1 vs us Q I1 r1 q1) he hpl
theorem pe_callTy (hc:CallR X (.type T) r)(hg:Gl X x)(hm:X.mg x=none)(hv:bootBuiltins x=some (.type T))(ha:PA X (e::es) t)(hn:x≠"__name__":=by decide)(hdb:(x == ("__debug__":Str))=false:=by decide)
  (he:starEach (e::es) X.env=(false,eval e X.env)::starEach es X.env:=by rfl) (hpl:(backTo pos (starEach es X.env)).any (·.1)=false:=by rfl):PE X (.Call (.Name x p) (e::es) [] pos) (tCB r t):=by
 intro pins s σ H Q I h;refine bW (ld_blt I hg hm hv ?_ hn hdb);exact bE (thn (ha pos pins s σ H _ I h) λus s1 ⟨vs,H1,I1,r1,q1⟩=>hc pins s1 σ H1 vs us Q I1 r1 q1) he hpl
end
end L2
namespace HT
open PySem PyProof.Rows
section
variable {prog:Program}{w:World}{A:Around}{E:Value->Shared->Prop}{s:Shared}
def sIx (n d:Nat):Option Int->Nat
 |none=>d
 |some v=>if v<0 then(v+(n:Int)).toNat else min v.toNat n
theorem sIx_none (n d:Nat):sIx n d none=d:=rfl
theorem sIx_nat (n d k:Nat):sIx n d (some (k:Int))=min k n:=by show(if (k:Int)<0 then((k:Int)+(n:Int)).toNat else min (k:Int).toNat n)=min k n;rw[ai (by lia),Int.toNat_natCast]
end
end HT
namespace L2
open PySem PySem.Spec PyProof.Rows
abbrev TO:=St->Hp->(Option Int->Hp->Prop)->Prop
def PO (X:Cx)(e:Option Expr)(t:TO):Prop:=
 ∀(pins:List (Addr×Obj)) (s:Shared) (σ:St) (H:Hp) (Q:Option Int->Hp->Prop),Inv X pins σ H s->t σ H Q ->
  wpAny (model X.prog X.w) X.A (evalPart e X.env) (λu s'=>∃o H',Inv X pins σ H' s'/\IsPart u o/\Q o H') X.xe s
def tNoPart:TO:=λ_ H Q=>Q none H
def tPart (t:TE):TO:=λσ H Q=>t σ H λx H1=>∃i,x=.int i/\Q (some i) H1
section
variable {X:Cx}{e:Expr}{te:TE}{lo hi:Option Expr}{tl th:TO}{pos p2:Pos}
theorem po_none:PO X none tNoPart:=by intro pins s σ H Q I h;rw[evalPart_none];exact aP ⟨none,H,I,.none,h⟩
theorem po_some (h:PE X e te):PO X (some e) (tPart te):=by intro pins s σ H Q I hw;rw[evalPart_some];refine thn (h pins s σ H _ I hw) λu s1 ⟨x,H1,I1,r1,q1⟩=>?_;obtain⟨i,rfl,q⟩:=q1;obtain⟨t,rfl⟩:=r1;exact⟨some i,H1,I1,.int i t,q⟩
def SlR (X:Cx)(r:V->Option Int->Option Int->Hp->VK->Prop):Prop:=
 ∀(pins:List (Addr×Obj)) (s:Shared) (σ:St) (H:Hp) (x:V) (v vl vu:Value) (lo hi:Option Int) (sl:Addr) (Q:VK),Inv X pins σ H s->RelV x v->s.heap.IsSliceOf sl vl vu .none->IsPart vl lo->IsPart vu hi->r x lo hi H Q ->
  ∃T id,typeLookup (.type T) "__getitem__"=pure (some (.builtin id))/\s.TypeIs v T/\wpAny (model X.prog X.w) X.A (getItem v (.ref sl)) (EP X pins σ Q) X.xe s
def tSl (r:V->Option Int->Option Int->Hp->VK->Prop)(te:TE)(tl th:TO):TE:=λσ H Q=>te σ H λx H1=>tl σ H1 λl H2=>th σ H2 λu H3=>r x l u H3 Q
theorem pe_slice (hr:SlR X r)(he:PE X e te)(hl:PO X lo tl)(hu:PO X hi th):PE X (.Subscript e (.Slice lo hi none p2) pos) (tSl r te tl th):=by intro pins s σ H Q I h;refine Subscript_ (thn (he pins s σ H _ I h) λv s1 ⟨x,H1,I1,r1,q1⟩=>?_);refine wpAny_Slice (thn (hl pins s1 σ H1 _ I1 q1) λvl s2 ⟨l,H2,I2,pl,q2⟩=>thn (hu pins s2 σ H2 _ I2 q2) λvu s3 ⟨u,H3,I3,pu,q3⟩=>?_);rw[evalPart_none];refine aP ?_;have I4:Inv X pins σ H3 { s3 with heap:=s3.heap.push { cls:=.type "slice",data:=.fields #[vl,vu,.none] } }:=I3.kept (t':=s3.toks) λb ob q=>af _ q;obtain⟨T,id,hT,ht,hg⟩:=hr pins { s3 with heap:=s3.heap.push { cls:=.type "slice",data:=.fields #[vl,vu,.none] } } σ H3 x v vl vu l u s3.heap.objs.size Q I4 r1 (Heap.IsSliceOf.new ..) pl pu q3;show wpAny (model X.prog X.w) X.A (subscriptTail e (.Slice lo hi none p2) v (.ref s3.heap.objs.size)) (EP X pins σ Q) X.xe { s3 with heap:=s3.heap.push { cls:=.type "slice",data:=.fields #[vl,vu,.none] } };exact tail_any (ops:=[.ref s3.heap.objs.size,v]) ht hT hg (by with_unfolding_all rfl)
def cutV (xs:List V)(lo hi:Option Int):List V:=(xs.drop (HT.sIx xs.length 0 lo)).take (HT.sIx xs.length xs.length hi-HT.sIx xs.length 0 lo)
theorem cutV_length (xs:List V)(lo hi:Option Int):(cutV xs lo hi).length<=xs.length:=by unfold cutV;rw[dB,df];lia
end
def ixN (n:Nat)(i:Int):Option Nat:=if 0<=i then(if i<n then some i.toNat else none) else if -(n:Int)<=i then some (i+n).toNat else none
def atI {α:Type}(xs:List α)(i:Int):Option α:=(ixN xs.length i).bind λj=>xs[j]?
theorem ixN_seq (h:ixN n i=some j):seqIndex? i n=some j/\j<n /\ -(n:Int)<=i/\i<n:=by
 unfold ixN at h;by_cases h0:0<=i
 ·rw[ak h0]at h;by_cases h1:i<n
  ·rw[ak h1]at h;have e:i.toNat=j:=aI h;exact⟨by rw[fL h0 h1,e],by lia,by lia,h1⟩
  ·rw[ai h1]at h;cases h
 ·rw[ai h0]at h;by_cases h1:-(n:Int)<=i
  ·rw[ak h1]at h;have e:(i+n).toNat=j:=aI h;exact⟨by rw[fk (by lia) h1,e],by lia,h1,by lia⟩
  ·rw[ai h1]at h;cases h
theorem atI_get {α:Type}{xs:List α}{i:Int}{v:α}(h:atI xs i=some v):∃j,seqIndex? i xs.length=some j/\xs[j]?=some v/\j<xs.length /\ -(xs.length:Int)<=i/\i<xs.length:=by
 unfold atI at h;cases e:ixN xs.length i with
 |none=>rw[e]at h;cases h
 |some j=>rw[e]at h;obtain⟨h1,h2,h3,h4⟩:=ixN_seq e;exact⟨j,h1,h,h2,h3,h4⟩
theorem atI_nat {α:Type}{xs:List α}{j:Nat}{v:α}(h:xs[j]?=some v):atI xs (j:Int)=some v:=by
 have hj:j<xs.length:=(aZ.mp h).1;have e:ixN xs.length (j:Int)=some j:=by unfold ixN;rw[ak (by lia),ak (by lia)];simp
 unfold atI;rw[e];exact h
def PlainIx (b:Expr):Prop:=∀o i,subscripted b false o i=operate [o,i] (getItem o i)
def IxR (X:Cx)(r:R2):Prop:=
 ∀(value slice:Expr) (pins:List (Addr×Obj)) (s:Shared) (σ:St) (H:Hp) (x y:V) (v u:Value) (Q:VK),Inv X pins σ H s->RelV x v->RelV y u->r x y H Q ->
  subscripted slice false v u=operate [v,u] (getItem v u)->wpAny (model X.prog X.w) X.A (subscriptTail value slice v u) (EP X pins σ Q) X.xe s
def MtR (X:Cx)(id:String)(r:V->List V->Hp->VK->Prop):Prop:=
 ∀(pins:List (Addr×Obj)) (s:Shared) (σ:St) (H:Hp) (x:V) (xs:List V) (v:Value) (us:List Value) (Q:VK),Inv X pins σ H s->RelV x v->Vals xs us->r x xs H Q ->
  wpAny (model X.prog X.w) X.A (call (.builtin id) (v::us)) (EP X pins σ Q) X.xe s
section
variable {X:Cx}{a b:Expr}{ta tb:TE}{pos:Pos}
theorem IxR.or (h:IxR X r)(h':IxR X r'):IxR X (λx y H Q=>r x y H Q\/r' x y H Q):=by
 intro value slice pins s σ H x y v u Q I rx ry q hs;rcases q with q|q
 ·exact h value slice pins s σ H x y v u Q I rx ry q hs
 ·exact h' value slice pins s σ H x y v u Q I rx ry q hs
theorem pe_ix (hr:IxR X r)(ha:PE X a ta)(hb:PE X b tb)(hs:PlainIx b):PE X (.Subscript a b pos) (tOp r ta tb):=by intro pins s σ H Q I h;exact Subscript_ (binT ha hb I h λv u s2 x y H2 I2 rx ry q=>hr a b pins s2 σ H2 x y v u Q I2 rx ry q (hs _ _))
def rIxL (K:Fg):R2:=λx y H Q=>∃p xs i v,x=.ref p/\y=.int i/\SqL K H p xs/\atI xs i=some v/\Q v H
def rIxT (K:Fg):R2:=λx y H Q=>∃p xs i v,x=.ref p/\y=.int i/\SqT K H p xs/\atI xs i=some v/\Q v H
def rIxS:R2:=λx y H Q=>∃z i c,x=.str z/\y=.int i/\z.length<=sizeLine/\atI z.cps.toList i=some c/\Q (.str ⟨#[c]⟩) H
theorem ix_list:IxR X (rIxL X.K):=by
 intro value slice pins s σ H x y v u Q I rx ry h hs;obtain⟨p,xs,i,z,rfl,rfl,hq,he,q⟩:=h;cases rx;obtain⟨t,rfl⟩:=ry;obtain⟨its,r,pl,hz⟩:=I.list hq;obtain⟨j,h1,h2,h3,h4,h5⟩:=atI_get he;obtain⟨w,ew,rw'⟩:=r.get h2;have hl:=r.length;have hn:=line63;have fin:EP X pins σ Q w s:=⟨z,H,I,rw',q⟩;by_cases h0:0<=i
 ·have hj:i.toNat=j:=by rw[fL h0 h5]at h1;exact aI h1
  exact item_listR pl.isList h0 (by lia) (by rw[hj];simpa using ew) fin hs
 ·have hj:(i+(its.toArray.size:Int)).toNat=j:=by rw[fk (by lia) h4]at h1;rw[aJ,<- hl];exact aI h1
  exact subscriptTail_builtinR (x:=w) pl.isList.typeIs slot_list_getitem.lookup
   (wpAny_getItem_list_neg (Q:=λr s'=>r=w/\EP X pins σ Q r s') pl.isList (by lia) (by rw[aJ]<;>lia) (by lia) (by rw[hj];simpa using ew) ⟨rfl,fin⟩) hs
theorem ix_tup:IxR X (rIxT X.K):=by
 intro value slice pins s σ H x y v u Q I rx ry h hs;obtain⟨p,xs,i,z,rfl,rfl,hq,he,q⟩:=h;cases rx;obtain⟨t,rfl⟩:=ry;obtain⟨its,r,pl,hz⟩:=I.tuple hq;obtain⟨j,h1,h2,h3,h4,h5⟩:=atI_get he;obtain⟨w,ew,rw'⟩:=r.get h2;have hl:=r.length;have hn:=line63;have fin:EP X pins σ Q w s:=⟨z,H,I,rw',q⟩;exact subscriptTail_builtinR (x:=w) pl.typeIs slot_tuple_getitem.lookup
  (getItem_tuple (j:=j) (Q:=λr s'=>r=w/\EP X pins σ Q r s') pl (by lia) (by lia) (by rw[aJ,<- hl];exact h1) (by simpa using ew) ⟨rfl,fin⟩) hs
theorem ix_str:IxR X rIxS:=by
 intro value slice pins s σ H x y v u Q I rx ry h hs;obtain⟨z,i,c,rfl,rfl,hz,he,q⟩:=h;obtain⟨t,rfl⟩:=rx;obtain⟨t',rfl⟩:=ry;obtain⟨j,h1,h2,h3,h4,h5⟩:=atI_get he;have hl:z.cps.toList.length=z.length:=by simp[Str.length]
 rw[hl]at h1 h4 h5;have hn:=line63;exact tail_any (dG s z t) slot_str_getitem.lookup (getItem_str (c:=c) (by
  have e1:decide (i < -(2^63:Int))=false:=aQ (by lia);have e2:decide (i ≥ 2^63)=false:=aQ (by lia);rw[e1,e2,Bool.or_false]) (by rw[h1];simpa using h2) ⟨.str ⟨#[c]⟩,H,I.tok _,⟨_,rfl⟩,q⟩) hs
def rIx (K:Fg):R2:=λx y H Q=>rIxL K x y H Q\/rIxT K x y H Q\/rIxS x y H Q
theorem ix_seq:IxR X (rIx X.K):=ix_list.or (ix_tup.or ix_str)
theorem mapSeq_set (its:Lv)(n j:Nat)(u:Value):Obj.mapSeq (·.setIfInBounds j u) { cls:=.type "list",data:=.seq its.toArray n }={ cls:=.type "list",data:=.seq (its.set j u).toArray n }:=by simp[Obj.mapSeq]
theorem Inv.lst (I:Inv X pins σ H s)(h:H p=some (.lst xs)) :
  ∃(its:List Value) (n:Nat),Vals xs its/\s.heap.get? p=some { cls:=.type "list",data:=.seq its.toArray n }/\xs.length<=sizeLine:=by
 obtain⟨z,its,n,r,e⟩:=I.hok p _ h;exact⟨its,n,r,e,z⟩
theorem Inv.lstUpd {pins:List (Addr×Obj)}{σ:St}{H:Hp}{s:Shared}{p:Addr}{xs ys:List V}{its its':Lv}{n n':Nat}{f:Obj->Obj}(I:Inv X pins σ H s)(h:H p=some (.lst xs))
  (ho:s.heap.get? p=some { cls:=.type "list",data:=.seq its.toArray n }) (hf:f { cls:=.type "list",data:=.seq its.toArray n }={ cls:=.type "list",data:=.seq its'.toArray n' }) (r:Vals ys its') (hz:ys.length<=sizeLine) (t:Nat) :
  Inv X pins σ (upd H p (.lst ys)) { s with heap:=s.heap.update p f,toks:=t }:=by
 have e:(s.heap.update p f).get? p=some { cls:=.type "list",data:=.seq its'.toArray n' }:=by rw[aO f ho (by rw[hf]<;>rfl),hf]
 refine I.write (x:=p) (e:=p) (by rw[h];trivial) (.inl rfl) (λb u hb q=>(ao _ _ (a9 hb)).trans q) ⟨_,e⟩ ?_;exact⟨hz,its',n',r,e⟩
def rSetL:V->V->V->Hp->(Hp->Prop)->Prop:=λo i v H Q=>∃p xs k j,o=.ref p/\i=.int k/\H p=some (.lst xs)/\ixN xs.length k=some j/\Q (upd H p (.lst (xs.set j v)))
theorem set_list:PSet X rSetL:=by
 intro pins s σ H o i v ov iv u Q I ro ri rv h;obtain⟨p,xs,k,j,rfl,rfl,hp,hj,q⟩:=h;cases ro;obtain⟨t,rfl⟩:=ri;obtain⟨its,n,r,ho,hz⟩:=I.lst hp;obtain⟨h1,h2,h3,h4⟩:=ixN_seq hj;have hl:=r.length;have hn:=line63;have I':Inv X pins σ (upd H p (.lst (xs.set j v))) { s with heap:=s.heap.update p (Obj.mapSeq (·.setIfInBounds j u)) } :=
  I.lstUpd hp ho (mapSeq_set its n j u) (r.set rv j) (by rw[bY];exact hz) s.toks
 by_cases h0:0<=k
 ·have hk:k.toNat=j:=by rw[fL h0 h4]at h1;exact aI h1
  exact W.ki_setAt ho h0 (by lia) (by rw[aJ,<- hl];exact h4) (by rw[hk];exact⟨_,I',q⟩)
 ·have hk:(k+(its.toArray.size:Int)).toNat=j:=by rw[fk (by lia) h3]at h1;rw[aJ,<- hl];exact aI h1
  exact W.ki_setBack ho (by lia) (by rw[aJ,<- hl];exact h3) (by lia) (by rw[hk];exact⟨_,I',q⟩)
theorem slice_bounds (lo hi:Option Int)(n:Nat):(sliceBounds lo hi none n).1=((HT.sIx n 0 lo:Nat):Int)/\(sliceBounds lo hi none n).2.1=((HT.sIx n n hi:Nat):Int)/\(sliceBounds lo hi none n).2.2=1:=by
 refine⟨?_,?_,rfl⟩
 ·cases lo with
  |none=>simp[sliceBounds,HT.sIx]
  |some i=>
   simp only[sliceBounds,HT.sIx,Option.getD_none,show(1:Int) > 0 by decide,if_true];by_cases h:i<0
   ·simp only[h,if_true]<;>lia
   ·simp only[h,if_false]<;>lia
 ·cases hi with
  |none=>simp[sliceBounds,HT.sIx]
  |some i=>
   simp only[sliceBounds,HT.sIx,Option.getD_none,show(1:Int) > 0 by decide,if_true];by_cases h:i<0
   ·simp only[h,if_true]<;>lia
   ·simp only[h,if_false]<;>lia
theorem slicePick_cut (its:Lv)(lo hi:Option Int):slicePick its.toArray lo hi none=((its.drop (HT.sIx its.length 0 lo)).take (HT.sIx its.length its.length hi-HT.sIx its.length 0 lo)).toArray:=by obtain⟨h1,h2,h3⟩:=slice_bounds lo hi its.toArray.size;unfold slicePick;rw[h1,h2,h3];simp only[sliceRange_one,pick_run,aJ]<;>rfl
def rSlL (K:Fg):V->Option Int->Option Int->Hp->VK->Prop:=λx lo hi H Q=>∃a xs,x=.ref a/\SqL K H a xs/\∀p,H p=none->Q (.ref p) (upd H p (.lst (cutV xs lo hi)))
theorem sl_list:SlR X (rSlL X.K):=by intro pins s σ H x v vl vu lo hi sl Q I rx hs pl pu h;obtain⟨a,xs,rfl,hx,q⟩:=h;cases rx;obtain⟨its,r,ht,hz⟩:=I.list hx;have hlen:=r.length;refine⟨"list",_,slot_list_getitem.lookup,ht.isList.typeIs,?_⟩;refine wpAny_getItem_list_slice ht.isList hs pl pu .none (by simp) ?_ (by rw[aJ]<;>lia);rw[slicePick_cut,<- hlen];refine⟨.ref s.heap.objs.size,_,I.laid (t':=s.toks) (o:=.lst (cutV xs lo hi)) (λb ob q=>af _ q) (aw _) ?_,rfl,q _ (I.hok.fresh (aw _))⟩;exact⟨aA (cutV_length xs lo hi) hz,_,0,(r.drop (HT.sIx xs.length 0 lo)).take (HT.sIx xs.length xs.length hi-HT.sIx xs.length 0 lo),aM _ rfl⟩
theorem call_len_seq:CallR X (.builtin "len") (λxs H Q=>∃p ys,xs=[.ref p]/\(SqL X.K H p ys\/SqT X.K H p ys)/\Q (.int ys.length) H):=by
 intro pins s σ H xs us Q I r h;obtain⟨p,ys,rfl,hq,q⟩:=h;obtain⟨u,rfl,rx⟩:=vals1 r;cases rx;have hn:=line63;rcases hq with hq|hq
 ·obtain⟨its,r',pl,hz⟩:=I.list hq;have hlen:=r'.length;exact Calls.call_len_list pl.isList (by simp only[aJ]<;>lia) ⟨.int ys.length,H,I.tok _,⟨s.toks+1,by rw[aJ,hlen]⟩,q⟩
 ·obtain⟨its,r',pl,hz⟩:=I.tuple hq;have hlen:=r'.length;exact len_tuple pl (by simp only[aJ]<;>lia) ⟨.int ys.length,H,I.tok _,⟨s.toks+1,by rw[aJ,hlen]⟩,q⟩
theorem call_len_str:CallR X (.builtin "len") (λxs H Q=>∃z,xs=[.str z]/\z.length<=sizeLine/\Q (.int z.length) H):=by intro pins s σ H xs us Q I r h;obtain⟨z,rfl,hz,q⟩:=h;obtain⟨u,rfl,t,rfl⟩:=vals1 r;have hn:=line63;exact len_str (by lia) ⟨.int z.length,H,I.tok _,⟨_,rfl⟩,q⟩
def tyV (K:Fg)(T:String)(x:V)(H:Hp):Prop:=match x with
 | .str _=>T="str"
 | .int _=>T="int"
 | .ref p=>(T="list"/\∃xs,SqL K H p xs)\/(T="tuple"/\∃o,K.lookup p=some o/\o.cls=.type "tuple"/\o.dict=none) \/
   (T="dict"/\((∃kvs,H p=some (.dK kvs))\/∃kvs,H p=some (.dT kvs)))\/(T="set"/\∃S n,H p=some (.set S n))
 |_=>False
theorem tyV_is (I:Inv X pins σ H s)(r:RelV x v)(ty:tyV X.K T x H) :
  s.TypeIs v T/\∀a,v=.ref a->∃ob,s.heap.get? a=some ob/\ob.dict=none:=by
 cases x with
 |str z=>obtain⟨t,rfl⟩:=r;cases (show T="str" from ty);exact⟨dG s z t,λ_ e=>nomatch e⟩
 |int i=>obtain⟨t,rfl⟩:=r;cases (show T="int" from ty);exact⟨typeIs_int s i t,λ_ e=>nomatch e⟩
 |ref p=>
  cases r;rcases ty with⟨rfl,xs,hq⟩|⟨rfl,o,hk,hc,hd⟩|⟨rfl,hk⟩|⟨rfl,S,n,hk⟩
  ·obtain⟨its,_,pl,_⟩:=I.list hq;refine⟨pl.isList.typeIs,λa e=>?_⟩;cases e;obtain⟨o,n,e,c,hd,_⟩:=pl;exact⟨o,e,hd⟩
  ·refine⟨⟨o,I.kIn p o hk,hc⟩,λa e=>?_⟩;cases e;exact⟨o,I.kIn _ o hk,hd⟩
  ·have z:∃o,s.heap.get? p=some o/\o.ExactDict:=by
    rcases hk with⟨kvs,hk⟩|⟨kvs,hk⟩
    ·obtain⟨_,_,_,_,o,_,_,e,ex,_⟩:=I.hok p _ hk;exact⟨o,e,ex⟩
    ·obtain⟨_,_,_,_,o,_,_,e,ex,_⟩:=I.hok p _ hk;exact⟨o,e,ex⟩
   obtain⟨o,e,ex⟩:=z;refine⟨⟨o,e,ex.1⟩,λa e2=>?_⟩;cases e2;exact⟨o,e,ex.2.1⟩
  ·obtain⟨o,_,_,_,e,ex,_⟩:=I.hok p _ hk;refine⟨⟨o,e,ex.1⟩,λa e2=>?_⟩;cases e2;exact⟨o,e,ex.2.1⟩
 |_=>exact False.elim ty
def tBM0 (K:Fg)(T:String)(r:V->List V->Hp->VK->Prop)(to:TE):TE:=λσ H Q=>to σ H λx H1=>tyV K T x H1/\r x [] H1 Q
def tBM (K:Fg)(T:String)(r:V->List V->Hp->VK->Prop)(to:TE)(t:TA):TE:=λσ H Q=>to σ H λx H1=>tyV K T x H1/\t σ H1 λxs H2=>r x xs H2 Q
variable {o e:Expr}{es:List Expr}{to:TE}{t:TA}{name:Str}{apos cpos:Pos}{T id:String}{r:V->List V->Hp->VK->Prop}
theorem pe_bm0 (pa:PlainAttrs T)(slot:Slot T name id)(hty:typeOf (.builtin id)=pure (.type "method_descriptor"))(hm:MtR X id r)(ho:PE X o to)
  (hbase:attributeBase o name X.env (eval o X.env)=eval o X.env:=by rfl) (hline:(apos.endLine == cpos.line)=true:=by rfl):PE X (.Call (.Attribute o name apos) [] [] cpos) (tBM0 X.K T r to):=by
 intro pins s σ H Q I h;refine wpAny_Call_method0_late hbase hline (thn (ho pins s σ H _ I h) λv s1 ⟨x,H1,I1,r1,ty,q1⟩=>?_);obtain⟨h1,h2⟩:=tyV_is I1 r1 ty;exact⟨T,id,pa,slot,hty,h1,h2,dn rfl (PySem.evalArgs_none (hm pins s1 σ H1 x [] v [] Q I1 r1 .nil q1))⟩
theorem pe_bm (pa:PlainAttrs T)(slot:Slot T name id)(hty:typeOf (.builtin id)=pure (.type "method_descriptor"))(hm:MtR X id r)(ho:PE X o to)(ha:PA X (e::es) t)
  (hbase:attributeBase o name X.env (eval o X.env)=eval o X.env:=by rfl)
  (hfew:((backTo cpos (starEach (e::es) X.env)).all (λx=>!x.1) && (backToKw cpos (keywordEach [] X.env)).all (λx=>x.1.isSome)
   && decide ((e::es).length+([]:List Keyword).length+(if ([]:List Keyword).isEmpty then 0 else 1)<30))=true:=by rfl)
  (hline:(apos.endLine == cpos.line)=true:=by rfl) (hs:starEach (e::es) X.env=(false,eval e X.env)::starEach es X.env:=by rfl) (hplain:(backTo cpos (starEach es X.env)).any (·.1)=false:=by rfl) :
  PE X (.Call (.Attribute o name apos) (e::es) [] cpos) (tBM X.K T r to t):=by
 intro pins s σ H Q I h;refine wpAny_Call_method_late hbase hfew hline rfl (thn (ho pins s σ H _ I h) λv s1 ⟨x,H1,I1,r1,ty,q1⟩=>?_);obtain⟨h1,h2⟩:=tyV_is I1 r1 ty;refine⟨T,id,pa,slot,hty,h1,h2,?_⟩;have hA:=ha cpos pins s1 σ H1 _ I1 q1;rw[hs]at hA ⊢;refine dn (by show(false || (backTo cpos (starEach es X.env)).any (·.1))=false;rw[hplain]<;>rfl) (c8 ?_);exact thn hA λus s2 ⟨vs,H2,I2,r2,q2⟩=>hm pins s2 σ H2 x vs v us Q I2 r1 r2 q2
end
def MtM (X:Cx)(id:String)(r:V->List V->Hp->VK->Prop):Prop:=
 ∀(pins:List (Addr×Obj)) (s:Shared) (σ:St) (H:Hp) (x:V) (xs:List V) (v:Value) (us:List Value) (Q:VK),Inv X pins σ H s->RelV x v->Vals xs us->r x xs H Q ->
  wpAny (model X.prog X.w) X.A (call (.builtin id) (v::us)) (EP X pins σ Q) X.xe s
theorem Vals.one:∀{x:V} {us:Lv},Vals [x] us->∃u,us=[u]/\RelV x u
 |_,_,.cons r .nil=>⟨_,rfl,r⟩
theorem Vals.zero:∀{us:Lv},Vals [] us->us=[]
 |_,.nil=>rfl
theorem Vals.dropLast (h:Vals xs us):Vals xs.dropLast us.dropLast:=by
 induction h with
 |nil=>exact .nil
 |cons r t ih=>
  cases t with
  |nil=>exact .nil
  |cons q t'=>exact .cons r ih
theorem Vals.rep (h:Vals xs us):∀k:Nat,Vals (List.replicate k xs).flatten (List.replicate k us).flatten
 |0=>.nil
 |k+1=>by rw[cn,cn,bO,bO];exact Vals.append h (Vals.rep h k)
theorem erase_last {α:Type}(l:List α):l.eraseIdx (l.length-1)=l.dropLast:=by
 induction l with
 |nil=>rfl
 |cons a r ih=>
  cases r with
  |nil=>rfl
  |cons b r=>
   have e:(a::b::r).length-1=((b::r).length-1)+1:=by have h1:(a::b::r).length=r.length+2:=rfl;have h2:(b::r).length=r.length+1:=rfl;lia
   rw[e,List.eraseIdx_cons_succ,ih]
   all_goals rfl
theorem foldl_rep (its:Lv):∀(k:Nat) (acc:Lv),
  List.foldl (λx1 x2=>x1++x2) acc.toArray (List.replicate k its.toArray)=(acc++(List.replicate k its).flatten).toArray
 |0,acc=>by simp
 |k+1,acc=>by
  have e:acc.toArray++its.toArray=(acc++its).toArray:=by simp
  have e2:(acc++its)++(List.replicate k its).flatten=acc++(List.replicate (k+1) its).flatten:=by rw[cn,bO,aY]
  rw[<- e2,<- foldl_rep its k (acc++its),<- e,cn,dL]
section
variable {X:Cx}{pins:List (Addr×Obj)}{σ:St}{H:Hp}{s:Shared}{l b:Addr}{xs ys zs:List V}
theorem Inv.lset {its its':Lv}{n:Nat}{f:Array Value->Array Value}{t':Nat}(I:Inv X pins σ H s)(hH:H l=some (.lst xs))
  (e:s.heap.get? l=some { cls:=.type "list",data:=.seq its.toArray n }) (hf:f its.toArray=its'.toArray) (hv:Vals ys its') (hz:ys.length<=sizeLine) :
  Inv X pins σ (upd H l (.lst ys)) { s with heap:=s.heap.update l (Obj.mapSeq f),toks:=t' }:=by
 have q:=PySem.IsL.update e f;rw[hf]at q;refine I.write (x:=l) (e:=l) (by rw[hH];exact trivial) (.inl rfl) (λb' u hb hu=>(ao s.heap (Obj.mapSeq f) (a9 hb)).trans hu) ⟨_,q⟩ ?_;exact⟨hz,its',_,hv,q⟩
theorem Inv.lnew (I:Inv X pins σ H s)(hv:Vals ys its)(hz:ys.length<=sizeLine) :
  Inv X pins σ (upd H s.heap.objs.size (.lst ys)) { s with heap:=s.heap.push { cls:=.type "list",data:=.seq its.toArray },toks:=t' } :=
 I.laid (λ_ _ q=>af _ q) (aw _) ⟨hz,its,0,hv,aM _ rfl⟩
theorem Inv.fresh (I:Inv X pins σ H s):H s.heap.objs.size=none:=I.hok.fresh (aw _)
theorem Inv.lstM (I:Inv X pins σ H s)(hH:H l=some (.lst xs)):xs.length<=sizeLine/\∃(its:Lv) (n:Nat),Vals xs its/\xs.length=its.length/\s.heap.get? l=some { cls:=.type "list",data:=.seq its.toArray n }:=by obtain⟨z,its,n,r,e⟩:=I.hok l _ hH;exact⟨z,its,n,r,r.length,e⟩
theorem notLongL (h:n<=sizeLine):Builtin.List.listTooLong n=false:=by unfold Builtin.List.listTooLong;exact aQ (by lia)
end
section
variable {X:Cx}
def rAppend:V->List V->Hp->VK->Prop:=λx vs H Q=>∃l xs y,x=.ref l/\vs=[y]/\H l=some (.lst xs)/\xs.length<sizeLine/\Q .non (upd H l (.lst (xs++[y])))
theorem mt_append:MtM X "list.append" rAppend:=by intro pins s σ H x vs v us Q I rx rv h;obtain⟨l,xs,y,rfl,rfl,hH,hz,q⟩:=h;cases rx;obtain⟨u,rfl,ru⟩:=rv.one;obtain⟨z,its,n,r,hl,e⟩:=I.lstM hH;refine di F.slot_list_append ⟨_,e,rfl⟩ F.entry_list_append (F.args_list_append_2 _ _) (PySem.list_append l its.toArray n u (by rw[aJ];lia)) ⟨e,?_⟩;refine⟨.non,_,I.lset (its':=its++[u]) hH e (by simp) (r.append (.cons ru .nil)) ?_,rfl,q⟩;rw[ar,bP];lia
def rPop:V->List V->Hp->VK->Prop:=λx vs H Q=>∃l xs y,x=.ref l/\vs=[]/\H l=some (.lst xs)/\xs[xs.length-1]?=some y/\Q y (upd H l (.lst xs.dropLast))
theorem mt_pop:MtM X "list.pop" rPop:=by
 intro pins s σ H x vs v us Q I rx rv h;obtain⟨l,xs,y,rfl,rfl,hH,hy,q⟩:=h;cases rx;have hus:=rv.zero;subst hus;obtain⟨z,its,n,r,hl,e⟩:=I.lstM hH;obtain⟨u,hu,ru⟩:=r.get hy;have hy':its.toArray[its.toArray.size-1]?=some u:=by show its.toArray[its.length-1]?=some u;rw[<- fo,<- hl];exact hu
 refine di F.slot_list_pop ⟨_,e,rfl⟩ F.entry_list_pop (F.args_list_pop_1 _) (MeetsSeq.list_pop_last l its.toArray n u hy' (by rw[aJ];lia)) ⟨e,?_⟩;refine⟨y,_,I.lset (its':=its.dropLast) hH e ?_ r.dropLast ?_,ru,q⟩
 ·show its.toArray.eraseIdxIfInBounds (its.toArray.size-1)=its.dropLast.toArray;rw[aJ,List.eraseIdxIfInBounds_toArray,erase_last]
 ·rw[fz];lia
def rRep:R2:=λx y H Q=>∃l k xs,x=.ref l/\y=.int k/\H l=some (.lst xs) /\ -(2^63)<=k/\k<2^63/\xs.length*k.toNat<=sizeLine /\
 ∀p,H p=none->Q (.ref p) (upd H p (.lst (List.replicate k.toNat xs).flatten))
theorem len_rep {α:Type}(xs:List α)(k:Nat):(List.replicate k xs).flatten.length=k*xs.length:=by
 induction k with
 |zero=>simp
 |succ k ih=>rw[cn,bO,ar,ih,Nat.succ_mul,Nat.add_comm]
theorem op_rep:OpR X (binaryOp .Mult) rRep:=by
 intro pins s σ H x y v u Q I rx ry h;obtain⟨l,k,xs,rfl,rfl,hH,h1,h2,hz,q⟩:=h;cases rx;obtain⟨t,rfl⟩:=ry;obtain⟨z,its,n,r,hl,e⟩:=I.lstM hH;have hlen:its.toArray.size*k.toNat<=sizeLine:=by rw[aJ,<- hl];exact hz
 have hcap:¬its.toArray.size*k.toNat > (2^63-1) / 8:=by
  have:(sizeLine:Nat)<=(2^63-1) / 8:=by decide
  lia
 have hfit:¬(!Builtin.List.listFitsIndex k)=true:=by rw[fitsIndex_both h1 h2];exact aD
 have hlong:¬Builtin.List.listTooLong (its.toArray.size*k.toNat)=true:=by rw[notLongL hlen];exact aD
 have hnew:List.foldl (λx1 x2=>x1++x2) #[] (List.replicate (if its.toArray.isEmpty=true then 0 else k.toNat) its.toArray)=(List.replicate k.toNat its).flatten.toArray:=by
  have f0:∀m:Nat,List.foldl (λx1 x2=>x1++x2) #[] (List.replicate m its.toArray)=(List.replicate m its).flatten.toArray:=λm=>by have:=foldl_rep its m [];rw[bK]at this;exact this
  rw[f0];cases its with
  |nil=>simp
  |cons a r'=>rw[ai (by simp)]
 refine wpAny_binaryOp_repeat_ref (T:="list") (U:="int") (by decide) ⟨_,e,rfl⟩ (λs'=>typeIs_int s' k t) noFill_list_mul F.fills_int_mul F.slot_int_rmul repeat_list F.slot_int_index.lookup
  (di F.slot_int_rmul (typeIs_int s k t) F.entry_int_rmul (F.args_int_rmul_2 _ _) (int___rmul___int_list k t l its.toArray n)
   ⟨e,rfl,⟨_,e,rfl⟩,di F.slot_list_mul ⟨_,e,rfl⟩ F.entry_list_mul (F.args_list_mul_2 _ _) (AutoListH.list___mul___list_int_3 l its.toArray n k t hfit hcap hlong) ⟨e,?_⟩⟩)
 rw[hnew];exact⟨.ref _,_,I.lnew (t':=s.toks) (r.rep k.toNat) (by rw[len_rep,Nat.mul_comm];exact hz),rfl,q _ I.fresh⟩
end
end L2
namespace Att
open PySem PySem.W PySem.Calls PyProof.Rows
theorem ints_of_wellAll:∀(ns:Li) (vs:Lv),WellAll P h vs (ns.map WData.int)->IntsAre vs ns:=by
 intro ns
 induction ns with
 |nil=>intro vs w;rw[dX]at w;cases w;exact .nil
 |cons n ns ih=>
  intro vs w;rw[bo]at w;cases w with
  |cons a b=>cases a;exact .cons _ _ (ih _ b)
theorem script_of {l:OpenLaw}{n:Nat}(hn:l.most=some n){P:Params}{args:List WData}
  (hpre:l.row.toRowW.claim.pre args=true) (hwl:WellAll P h vals args) :
  ∃a vs ns,vals=[Value.ref a]/\args=[WData.list (ns.map WData.int)]/\h.get? a=some { cls:=.type "list",data:=.seq vs.toArray }/\IntsAre vs ns/\ns.length<=n:=by
 have hsh:WShape.hasAll [] args [.list .int]=true:=(pre_splitW hpre).1;have hc:l.pre.holds [] { args:=args }=true:=(pre_splitW hpre).2;obtain⟨d,r,rfl,h1,h2⟩:=hasAllW_cons hsh;obtain rfl:=hasAllW_nil h2;obtain⟨xs,rfl,h3⟩:=hasW_list h1;obtain⟨ns,rfl⟩:=items_int h3;have hlen:ns.length<=n:=by
  unfold OpenLaw.pre at hc;have h4:(WTm.not (.lt (.lit (.int (n:Int))) (.len (.arg 0)))).holds [] { args:=[.list (ns.map .int)] }=true:=by have h4:=(holds_andW hc).1;rw[hn]at h4;exact h4
  have h5:=condW_of h4 (w_not (w_lt w_lit (w_len_list (w_arg rfl))));rw[ag]at h5;refine Nat.le_of_not_lt λq=>?_;have q':(n:Int)<((ns.length:Nat):Int):=by lia
  first
   |(rw[aW q']at h5;exact absurd h5 (by decide))
   |(simp at h5;lia)
 cases hwl with
 |cons w1 w2=>
  cases w2;cases w1 with
  |list ho hall=>exact⟨_,_,ns,rfl,rfl,ho,ints_of_wellAll ns _ hall,hlen⟩
theorem post_true (l:OpenLaw)(args:List WData):l.row.toRowW.claim.post args (.bool true) args=true:=
 postW_of (r:=l.row.toRowW) (X:=(true == true))
  (show WShape.has [] (.bool true) .bool=true by first|rfl|decide|simp[WShape.has,WShape.arms,WShape.armsAll])
  (show(WTm.eq .res (.lit (.bool true))).value [] { args:=args,res:=some (.bool true),after:=args }=some (.bool (true == true)) from w_eq_bool (w_res rfl) w_lit) rfl
section
variable {prog:Program}{w:World}{A:Around}{E:Value->Shared->Prop}{s:Shared}{K:Frag}
def ledger (h:Heap)(L d:Addr):List (Addr×Obj):=(List.range h.objs.size).filterMap λa=>if a=L\/a=d then none else(h.get? a).map λo=>(a,o)
end
end Att
namespace L2
open PySem PySem.Spec PyProof.Rows
theorem vals_ints:∀{vs:Lv} {ns:Li},IntsAre vs ns->Vals (ns.map V.int) vs
 |_,_,.nil=>.nil
 |_,_,.cons n t h=>.cons ⟨t,rfl⟩ (vals_ints h)
def lF (K:Fg):Hp:=λb=>match (jr K).find? λx=>x.2.1 == b with
 |some x=>some (.tbl ⟨x.2.2,#[]⟩)
 |none=>none
theorem lZ {K:Fg}{b:Addr}{o:HO}(h:lF K b=some o):∃x∈jr K,x.2.1=b/\o=.tbl ⟨x.2.2,#[]⟩:=by
 unfold lF at h;split at h
 ·rename_i x e;exact⟨x,d5 e,by simpa using List.find?_some e,(aI h).symm⟩
 ·cases h
structure Aw (K:Fg)(h:Heap):Prop where
 e:∀x∈jr K,h.get? x.2.1=some (W.tabObj #[])
 n:∀x∈jr K,K.lookup x.2.1=none
 u:∀x∈jr K,∀y∈jr K,x.2.1=y.2.1->x.2.2=y.2.2
theorem Fy {K:Fg}{x:Addr×Addr×Str}(h:x∈jr K):W.codeHdIn K x.1 x.2.1=true:=by
 obtain⟨y,_,e⟩:=dU.mp h
 repeat' split at e
 all_goals first
  |(cases e;assumption)
  |cases e
theorem Ba {K:Fg}{h:Heap}(L:Aw K h){x:Addr×Addr×Str}(hx:x∈jr K):lF K x.2.1=some (.tbl ⟨x.2.2,#[]⟩):=by
 unfold lF;split
 ·rename_i y e;have e1:y.2.1=x.2.1:=by simpa using List.find?_some e
  rw[L.u y (d5 e) x hx e1]
 ·rename_i e;have:=List.find?_eq_none.mp e x hx;simp at this
theorem law_call {P:Program}{w:World}{K:Fg}{mg mb:Mg}{CX:CXT}{k:Nat}{fa a:Addr}{fd:FuncData}{x:Str}{sp:Sp}{s₁:Shared}{vs:Lv}{ns:Li}
  (KX:K.In s₁.heap) (hns:s₁.heap.Ns mainGlobals mg) (hb:s₁.heap.Ns builtinsNs mb) (hbb:∀x:Str,x≠"__name__"->mb x=bootBuiltins x) (hlim:s₁.heap.NoLimit) (hg:s₁.gens = #[])
  (ha:s₁.heap.get? a=some { cls:=.type "list",data:=.seq vs.toArray }) (hi:IntsAre vs ns) (hl:ns.length<=sizeLine) (hr:Room k callerA) (LO:Aw K s₁.heap) (BM:Qw mg s₁.heap)
  (F:∀base:Heap,K.In base->base.Ns mainGlobals mg->FnOk P w K mg base CX k fa fd [x] sp) (hbind:∀(s:Shared) (u:Value),BindsTo s fd ⟨[u],[]⟩ [(x,u)])
  (hsp:∀H:Hp,SqL K H a (ns.map V.int)->sp [.ref a] H (λv _=>v=.bl true) λ_ _ _=>False)
  (hCX:∀H e s',CX [] H s₁ (λ_ _ _=>False) e s' -> False) :
  codeAny (model P w) callerA (.call (.ref fa) ⟨[.ref a],[]⟩) (λr s'=>r=.ok (.ret (.bool true))/\OldK s₁.heap s'.heap/\s'.os=s₁.os/\AllBare s'.gens) s₁:=by
 have rv:=vals_ints hi;have lenV:=hi.length;have nat:∀{b:Addr} {o:HO},lF K b=some o->b≠a:=λ{b o} h z=>by obtain⟨x,hx,e,_⟩:=lZ h;have:=LO.e x hx;rw[e,z,ha]at this;cases this
 have core:∀H:Hp,(∀b,b≠a->H b=lF K b)->SqL K H a (ns.map V.int)->HOk P w H s₁.heap->(H a≠none->K.lookup a=none/\∃o xs,H a=some (.frz o (.lst xs))) ->
   codeAny (model P w) callerA (.call (.ref fa) ⟨[.ref a],[]⟩) (λr s'=>r=.ok (.ret (.bool true))/\OldK s₁.heap s'.heap/\s'.os=s₁.os/\AllBare s'.gens) s₁:=by
  intro H hT hS hok hK;have base_of:∀{b:Addr} {o:Obj},s₁.heap.get? b=some o->H b=none->(hidT s₁.heap H).get? b=some o:=λe n=>hidT_get e n;have noA:∀{b:Addr} {o:Obj} {es:Array DictEntry} {ep:Nat},s₁.heap.get? b=some o->o.data=.dict es ep->H b=none:=λ{b o es ep} e d=>by
   by_cases hba:b=a
   ·subst hba;rw[ha]at e;cases e;have d':Data.seq vs.toArray _=Data.dict es ep:=d;cases d'
   ·rw[hT b hba];cases q:lF K b with
    |none=>rfl
    |some u=>obtain⟨x,hx,e1,_⟩:=lZ q;have:=LO.e x hx;rw[e1,e]at this;cases this;cases d
  have noB:∀{b:Addr} {o:Obj},s₁.heap.get? b=some o->o.cls=.type "module"->H b=none:=λ{b o} e d=>by
   by_cases hba:b=a
   ·subst hba;rw[ha]at e;cases e;injection d with z;exact absurd z (by decide)
   ·rw[hT b hba];cases q:lF K b with
    |none=>rfl
    |some u=>obtain⟨x,hx,e1,_⟩:=lZ q;have:=LO.e x hx;rw[e1,e]at this;cases this;cases d
  have nsK:∀{b:Addr} {m:Mg},s₁.heap.Ns b m->(hidT s₁.heap H).Ns b m:=λ{b m} ⟨o,es,ep,e,d,r⟩=>⟨o,es,ep,base_of e (noA e d),d,r⟩;have hKb:K.In (hidT s₁.heap H):=λb o e=>base_of (KX b o e) (by
   by_cases hba:b=a
   ·subst hba;cases q:H b with
    |none=>rfl
    |some u=>rw[(hK (by rw[q];simp)).1]at e;cases e
   ·rw[hT b hba];cases q:lF K b with
    |none=>rfl
    |some u=>
     obtain⟨x,hx,e1,_⟩:=lZ q;have:=LO.n x hx;rw[e1,e]at this;cases this)
  have hM:Mod K mg (hidT s₁.heap H):=⟨hKb,nsK hns,⟨mb,nsK hb,hbb⟩,let ⟨mc,h1,h2⟩:=hlim;⟨mc,nsK h1,h2⟩,let ⟨bm,ob,b1,b2,b3,b4,b5⟩:=BM;⟨bm,ob,b1,b2,base_of b3 (noB b3 b4),b4,b5⟩⟩
  have e0:Env0 P w K mg (hidT s₁.heap H) callerA [] s₁ H:=⟨rfl,hM,λb o e=>of_hidT e,fi (hidT_size _ _),trivial,⟨λb hb=>absurd (show b∈([]:List Addr) from hb) (by simp),λx hx=>⟨#[],by rw[hT _ (nat (Ba LO hx))];exact Ba LO hx⟩⟩,hok,.of_eq hg⟩;refine dh ((F _ hKb (nsK hns)).run callerA [] s₁ H ⟨[.ref a],[]⟩ [.ref a] [.ref a] _ _ hr e0 (hbind s₁ (.ref a)) (.cons rfl .nil) (hsp H hS)) λr s' h=>?_;cases r with
  |error e=>exact(hCX H e s' h).elim
  |ok fl=>
   cases fl with
   |next=>exact False.elim h
   |brk=>exact False.elim h
   |cont=>exact False.elim h
   |ret u=>
    obtain⟨v,H',os,bare,un,hok',r',q⟩:=h;have q':v=.bl true:=q;subst q';obtain rfl:u=Value.bool true:=r';have all:∀b o,s₁.heap.get? b=some o->s'.heap.get? b=some o\/∃x∈jr K,x.2.1=b/\o=W.tabObj #[]/\∃more,s'.heap.get? b=some (W.tabObj (#[]++more)):=λb o e=>by
     by_cases hba:b=a
     ·subst hba;cases q:H b with
      |none=>exact .inl (un.keep b o e q (by intro z;exact absurd (show b∈([]:List Addr) from z) (by simp)) (by simp))
      |some u=>obtain⟨_,ob,xs,z⟩:=hK (by rw[q];simp);have z2:=un.frzs b ob _ z;obtain⟨e1,_⟩:=hok b _ z;obtain⟨e2,_⟩:=hok' b _ z2;rw[e]at e1;cases e1;exact .inl e2
     ·cases q:lF K b with
      |none=>exact .inl (un.keep b o e (by rw[hT b hba];exact q) (by intro z;exact absurd (show b∈([]:List Addr) from z) (by simp)) (by simp))
      |some u=>obtain⟨x,hx,e1,rfl⟩:=lZ q;obtain⟨more,e2⟩:=un.tbls b _ (by rw[hT b hba];exact q);obtain⟨e3,_⟩:=hok' b _ e2;have e4:=LO.e x hx;rw[e1,e]at e4;exact .inr ⟨x,hx,e1,aI e4,more,e3⟩
    refine⟨rfl,⟨λb o e=>?_,λb o e=>?_⟩,os,bare⟩
    ·rcases all b o e with z|⟨x,hx,e1,rfl,more,e2⟩
     ·exact .inl z
     ·have C:W.CodeHd s₁.heap x.1 x.2.1:=W.codeHd_of_K KX (Fy hx);exact .inr (.inl ⟨e1 ▸ (C.tab (LO.e x hx)).isCodeTable,rfl,#[],more,rfl,e2⟩)
    ·rcases all b o e with z|⟨x,hx,e1,rfl,more,e2⟩
     ·exact⟨_,z⟩
     ·exact⟨_,e2⟩
 have tabOk:∀(H:Hp) b u,lF K b=some u->ObjOk P w H s₁.heap b u:=λH b u q=>by obtain⟨x,hx,e1,rfl⟩:=lZ q;have e4:=LO.e x hx;rw[e1]at e4;exact⟨e4,trivial,λp cv hc=>by cases hc⟩
 cases hk:K.lookup a with
 |some o=>
  have e:=KX a o hk;rw[ha]at e;cases e;refine core (lF K) (λ_ _=>rfl) (.inr ⟨_,vs.toArray,_,hk,rfl,rfl,rfl,by rw[aJ,lenV];exact hl,by simpa using rv⟩) (λb u z=>tabOk _ b u z) λz=>?_;cases q:lF K a with
  |none=>exact absurd q z
  |some u=>exact absurd rfl (nat q)
 |none=>
  refine core (λb=>if b=a then some (.frz { cls:=.type "list",data:=.seq vs.toArray } (.lst (ns.map V.int))) else lF K b) (λb hb=>ai hb) (.inl (.inr ⟨{ cls:=.type "list",data:=.seq vs.toArray },ak rfl⟩)) (λb u z=>?_) λ_=>⟨hk,_,_,ak rfl⟩;by_cases hb:b=a
  ·have z':=(ak hb).symm.trans z;cases z';subst hb;exact⟨ha,by rw[ag];exact hl,vs,_,rv,ha⟩
  ·exact tabOk _ b u ((ai hb).symm.trans z)
abbrev KOf {K:Fg}{h:Heap}(_:K.In h):Fg:=K
def inClass (s:Stmt)(j:Nat):Stmt:=match s with
 | .ClassDef _ _ _ body _ _ _ _ _ _ _=>body.getD j (.Pass ⟨0,0,0,0⟩)
 |_=>.Pass ⟨0,0,0,0⟩
def defArgs (s:Stmt):Arguments:=match s with
 | .FunctionDef _ a _ _ _ _ _ _ _ _=>a
 |_=>{ posonlyargs:=[],args:=[],vararg:=none,kwonlyargs:=[],kw_defaults:=[],kwarg:=none,defaults:=[] }
def defBody (s:Stmt):List Stmt:=match s with
 | .FunctionDef _ _ b _ _ _ _ _ _ _=>b
 |_=>[]
def defScope (s:Stmt):Scope:=match s with
 | .FunctionDef _ _ _ _ _ _ sc _ _ _=>sc
 |_=>{ kind:=.function,names:=[],isGenerator:=false,isCoroutine:=false }
abbrev CX0:CXT:=λ_ _ _ _ _ _=>False
abbrev E0:XK:=λ_ _ _=>False
theorem pass0:Passes CX0 X E0:=λ_ _ _ _ _ _ _ h=>h.elim
structure Fun (K:Fg)(x qual:Str)(st:Stmt)(f:Addr)(fd:FuncData):Prop where
 ex:∃(oc:Value) (od:Option Addr) (kV doc pm:Value) (an:Option Addr) (cdv ct:Value) (osl:Array (Option Value)),
  fd=W.fnOf x qual (defArgs st) (defBody st) (defScope st) .none kV doc pm an cdv ct/\K.lookup f=some ⟨oc,od,.func fd,osl⟩/\W.codeIn K cdv qual=true
 kp:W.keepIn K (.ref f)=true
section
variable {P:Program}{w:World}{K:Fg}{mg:Mg}{base:Heap}
theorem Fun.ok {x qual:Str}{st:Stmt}{f:Addr}{fd:FuncData}{N ps:Ls}{k:Nat}{sp:Sp}(F:Fun K x qual st f fd)(S:FnScope N ps (defScope st))(len:∀vs H Q E,sp vs H Q E->vs.length=ps.length)
  (hbody:∀(cdv:Value) (A:Around) (outer:List Env) (s:Shared) (H:Hp) (vs:List V) (Q:VK) (E:XK),Room k (A.deeper (envOfC qual (defScope st) s.heap.objs.size f cdv))->sp vs H Q E ->
   ∃t,PSs (cxOf CX0 P w K mg base N qual (defScope st) f cdv A outer s H E).nox (defBody st) t/\t { nx:=λ_ H'=>Q .non H',rt:=Q } (start N vs) H):FnOk P w K mg base CX0 (k+1) f fd ps sp:=by
 obtain⟨oc,od,kV,doc,pm,an,cdv,ct,osl,rfl,lk,hcd⟩:=F.ex;refine fn_of lk hcd S len λA outer s H vs Q E hr hsp=>?_;obtain⟨t,h,q⟩:=hbody cdv A outer s H vs Q E hr hsp;exact⟨t,h.nox,q⟩
theorem Fun.binds {x qual:Str}{st:Stmt}{f:Addr}{fd:FuncData}{ps:Ls}(F:Fun K x qual st f fd)
  (h:∀(kV doc pm:Value) (an:Option Addr) (cdv ct:Value) (us:List Value),us.length=ps.length->bindArgs (W.fnOf x qual (defArgs st) (defBody st) (defScope st) .none kV doc pm an cdv ct) ⟨us,[]⟩=pure (ps.zip us)):Binds K fd ps []:=by
 obtain⟨oc,od,kV,doc,pm,an,cdv,ct,osl,rfl,lk,hcd⟩:=F.ex;exact .all (h kV doc pm an cdv ct)
theorem fun_mk {x qual:Str}{st:Stmt}{f:Addr}{oc:Value}{od an:Option Addr}{osl:Array (Option Value)}{kV doc pm cdv ct:Value}(l:K.lookup f=some ⟨oc,od,.func (W.fnOf x qual (defArgs st) (defBody st) (defScope st) .none kV doc pm an cdv ct),osl⟩)
  (c:W.codeIn K cdv qual=true) (k:W.keepIn K (.ref f)=true):Fun K x qual st f (W.fnOf x qual (defArgs st) (defBody st) (defScope st) .none kV doc pm an cdv ct):=⟨⟨oc,od,kV,doc,pm,an,cdv,ct,osl,rfl,l,c⟩,k⟩
end
theorem small1000 (h:n<=1000):n<sizeLine:=dm h (by decide)
section
variable {X:Cx}
theorem pv (i:Nat)(hN:X.N[i]?=some x:=by rfl)(hv:Vis X.env.scope x:=by walk_at "v")(hd:(x == ("__debug__":Str))=false:=by decide)
  (hcd:(x == ("__classdict__":Str))=false:=by decide):PE X (.Name x pos) (tVar i):=pe_var hN hv hd hcd
end
theorem iteF {A B:Prop}(h:B):if false=true then A else B:=by rw[ai aD];exact h
theorem iteT {A B:Prop}(h:A):if true=true then A else B:=by rw[ak rfl];exact h
def Nx (x:Option HO):HO->Prop
 | .tbl t=>∃ps,x=some (.tbl ⟨t.q,ps⟩)
 |o=>x=some o
def Same (H H':Hp):Prop:=∀b o,H b=some o->Nx (H' b) o
theorem Nx.of (h:x=some o):Nx x o:=by cases o<;>first|exact h|exact⟨_,h⟩
theorem Nx.some (h:Nx x o):∃u,x=some u:=by cases o<;>first|exact⟨_,h⟩|(obtain⟨ps,h⟩:=h;exact⟨_,h⟩)
theorem mV (h:∀b o,H b=some o->H' b=some o):Same H H':=λb o e=>.of (h b o e)
theorem Same.refl (H:Hp):Same H H:=mV λ_ _ h=>h
theorem Same.trans (a:Same H H1)(b:Same H1 H2):Same H H2:=λc o h=>by have q:=a c o h;cases o<;>first|exact b c _ q|(obtain⟨ps,q⟩:=q;have z:=b c _ q;exact z)
theorem Same.free (e:Same H H')(h:H' l=Option.none):H l=Option.none:=by
 cases q:H l with
 |none=>rfl
 |some o=>obtain⟨u,z⟩:=(e l o q).some;rw[z]at h;cases h
theorem Same.seq {K:Fg}{H H':Hp}{a:Addr}{xs:List V}(e:Same H H')(h:SqL K H a xs):SqL K H' a xs:=by
 rcases h with (h|⟨o,h⟩)|h
 ·exact .inl (.inl (e _ _ h))
 ·exact .inl (.inr ⟨o,e _ _ h⟩)
 ·exact .inr h
def gI (σ:St)(i:Nat):Int:=match σ[i]? with
 |some (some (.int n))=>n
 |_=>0
def hI (σ:St)(i:Nat):Prop:=σ[i]?=some (some (.int (gI σ i)))
def tN (C:St->Hp->Prop)(g:St->Int):TE:=λσ H Q=>C σ H/\Q (.int (g σ)) H
def tP (C:St->Hp->Prop)(p:St->Prop)[∀σ,Decidable (p σ)]:TT:=λσ H Q=>C σ H/\Q (decide (p σ)) H
section
variable {X:Cx}{a b:Expr}{pos:Pos}{Ca Cb:St->Hp->Prop}{ga gb:St->Int}
theorem iZ (i:Nat)(hN:X.N[i]?=some x:=by rfl)(hv:Vis X.env.scope x:=by walk_at "v")
  (hd:(x == ("__debug__":Str))=false:=by decide) (hcd:(x == ("__classdict__":Str))=false:=by decide):PE X (.Name x pos) (tN (λσ _=>hI σ i) (λσ=>gI σ i)):=
 λpins s σ H Q I h=>pe_var hN hv hd hcd pins s σ H Q I ⟨_,h.1,h.2⟩
theorem iz:PE X (.Constant (.int i) j pos) (tN (λ_ _=>True) (λ_=>i)):=λpins s σ H Q I h=>pe_int pins s σ H Q I h.2
theorem xg (hg:Gl X x)(hm:∃tk,X.mg x=some (.int i tk))(hd:(x == ("__debug__":Str))=false:=by decide):PE X (.Name x pos) (tN (λ_ _=>True) (λ_=>i)):=
 λpins s σ H Q I h=>let ⟨_,hm⟩:=hm;pe_glob hg hm (v:=.int i) ⟨_,rfl⟩ hd pins s σ H Q I h.2
theorem QW {op:Operator}{C:Int->Int->Prop}{g:Int->Int->Int}(ho:OpR X (binaryOp op) (rI C λi j=>.int (g i j)))(ha:PE X a (tN Ca ga))(hb:PE X b (tN Cb gb)) :
  PE X (.BinOp a op b pos) (tN (λσ H=>Ca σ H/\Cb σ H/\C (ga σ) (gb σ)) (λσ=>g (ga σ) (gb σ))):=
 λpins s σ H Q I h=>pe_op ho ha hb pins s σ H Q I ⟨h.1.1,h.1.2.1,_,_,rfl,rfl,h.1.2.2,h.2⟩
theorem PL {op:Operator}{g:Int->Int->Int}(ho:OpR X (binaryOp op) (rI0 λi j=>.int (g i j)))(ha:PE X a (tN Ca ga))(hb:PE X b (tN Cb gb)) :
  PE X (.BinOp a op b pos) (tN (λσ H=>Ca σ H/\Cb σ H) (λσ=>g (ga σ) (gb σ))):=
 λpins s σ H Q I h=>pe_op ho ha hb pins s σ H Q I ⟨h.1.1,h.1.2,_,_,rfl,rfl,h.2⟩
theorem yr:OpR X (binaryOp .Mult) (rI IntMulOk λi j=>.int (i*j)):=opI λ_ _ _ _ _ _ _ hc q=>mul_int q hc
def Mz (_ j:Int):Prop:=0<j/\j.natAbs.log2<9000
theorem Js:OpR X (binaryOp .FloorDiv) (rI Mz λi j=>.int (i / j)):=opI λi j _ _ _ _ _ hc q=>by have h1:(0:Int)<j:=hc.1;exact floordiv_int (by lia) (by rw[Int.fdiv_eq_ediv_of_nonneg i (by lia)];exact q) (.inl (PyProof.noPylong_of_log2 hc.2))
theorem O2 (ha:PE X a (tN Ca ga))(hb:PE X b (tN Cb gb)):PE X (.BinOp a .Add b pos) (tN (λσ H=>Ca σ H/\Cb σ H) (λσ=>ga σ+gb σ)):=PL op_add ha hb
theorem Hn (ha:PE X a (tN Ca ga))(hb:PE X b (tN Cb gb)):PE X (.BinOp a .Mult b pos) (tN (λσ H=>Ca σ H/\Cb σ H/\IntMulOk (ga σ) (gb σ)) (λσ=>ga σ*gb σ)):=QW yr ha hb
theorem Jo (ha:PE X a (tN Ca ga)):PE X (.UnaryOp .USub a pos) (tN Ca (λσ=>-ga σ)):=
 λpins s σ H Q I h=>pe_un un_neg ha pins s σ H Q I ⟨h.1,_,rfl,h.2⟩
theorem Df {op:CmpOp}{p:Int->Int->Prop}[∀i j,Decidable (p i j)](ho:OpR X (compareOp op) (rI0 λi j=>.bl (decide (p i j))))(hm:behindInMarks op b=false)(ha:PE X a (tN Ca ga))(hb:PE X b (tN Cb gb)) :
  PT X (.Compare a [op] [b] pos) (tP (λσ H=>Ca σ H/\Cb σ H) (λσ=>p (ga σ) (gb σ))):=
 λpins s σ H Q I h=>pt_cmpR ho ha hb hm pins s σ H Q I ⟨h.1.1,h.1.2,_,_,rfl,rfl,_,rfl,h.2⟩
theorem Pa:OpR X (compareOp .Eq) (rI0 λi j=>.bl (decide (i=j))):=λpins s σ H x y v u Q I rx ry h=>by obtain⟨i,j,rfl,rfl,q⟩:=h;refine op_eq pins s σ H _ _ v u Q I rx ry ⟨rfl,?_⟩;rw[dec_int,fq];exact q
theorem Jz:OpR X (compareOp .NotEq) (rI0 λi j=>.bl (decide (¬i=j))):=λpins s σ H x y v u Q I rx ry h=>by obtain⟨i,j,rfl,rfl,q⟩:=h;have q:Q (.bl (decide (¬i=j))) H:=q;rw[fy]at q;refine op_ne pins s σ H _ _ v u Q I rx ry ⟨rfl,?_⟩;rw[dec_int,fq];exact q
theorem Ov (ha:PE X a (tN Ca ga))(hb:PE X b (tN Cb gb)):PT X (.Compare a [.Lt] [b] pos) (tP (λσ H=>Ca σ H/\Cb σ H) (λσ=>ga σ<gb σ)):=Df op_lt (nomark _) ha hb
theorem Oo (ha:PE X a (tN Ca ga))(hb:PE X b (tN Cb gb)):PT X (.Compare a [.NotEq] [b] pos) (tP (λσ H=>Ca σ H/\Cb σ H) (λσ=>¬ga σ=gb σ)):=Df (p:=λi j=>¬i=j) Jz (nomark _) ha hb
variable {pa pb:St->Prop}[∀σ,Decidable (pa σ)][∀σ,Decidable (pb σ)]{rest:List Expr}
def Tn (C:St->Hp->Prop)(p:St->Prop)(t u:TS):TS:=λD σ H=>C σ H/\(p σ->t D σ H)/\(¬p σ->u D σ H)
theorem Ny (hc:PT X c (tP Ca pa))(hx:PSs X x t)(hy:PSs X y u):PS X (.If c x y pos) (Tn Ca pa t u):=
 λpins s σ H D I h=>ps_if hc hx hy pins s σ H D I ⟨h.1,by
  by_cases c:pa σ
  ·rw[aW c];refine iteT ?_;exact h.2.1 c
  ·rw[aQ c];refine iteF ?_;exact h.2.2 c⟩
def RX (i:Nat)(C:St->Hp->Prop)(g:St->Int):TS:=λD σ H=>C σ H/\∀n,n=g σ->D.nx (σ.set i (some (.int n))) H
theorem Lz (hN:X.N.Nodup)(hi:X.N[i]?=some x)(hx:Loc X.env.scope x)(he:PE X e (tN Ca ga))(hs:swapsWith e (some (.Name x pos')) pos.line X.env=pure false:=by rfl)
  (hf:X.fn x=true\/X.env.scope.names.lookup x=some .local:=by walk_at "w"):PS X (.Assign [.Name x pos'] e pos) (RX i Ca ga):=
 λpins s σ H D I h=>ps_set hN hi hx he hs hf pins s σ H D I ⟨h.1,h.2 _ rfl⟩
end
section
variable {X:Cx}{b:Expr}{es:List Expr}{pos p1:Pos}{Cb C:St->Hp->Prop}{gb:St->Int}
theorem tD {ns:Li}{i:Int}(h0:0<=i)(h1:i<(ns.length:Int)):atI (ns.map V.int) i=some (V.int (ns.getD i.toNat 0)):=by
 have e:i=((i.toNat:Nat):Int):=by lia
 have l:i.toNat<ns.length:=by lia
 have q:atI (ns.map V.int) ((i.toNat:Nat):Int)=some (V.int (ns.getD i.toNat 0)):=atI_nat (by rw[aT,ap l,gQ,ap l];rfl);rw[<- e]at q;exact q
def RP (K:Fg)(j:Nat)(C:St->Hp->Prop)(g:St->Int):TE:=λσ H Q=>C σ H/\∃(a:Addr) (ns:List Int) (n:Int),σ[j]?=some (some (.ref a))/\SqL K H a (ns.map V.int)/\atI (ns.map V.int) (g σ)=some (.int n)/\Q (.int n) H
theorem Ly (j:Nat)(hb:PE X b (tN C gb))(hs:PlainIx b)(hN:X.N[j]?=some x:=by rfl)(hv:Vis X.env.scope x:=by walk_at "v")
  (hd:(x == ("__debug__":Str))=false:=by decide) (hcd:(x == ("__classdict__":Str))=false:=by decide):PE X (.Subscript (.Name x px) b pos) (RP X.K j C gb):=by
 intro pins s σ H Q I h;obtain⟨c,a,ns,n,e1,e2,e3,q⟩:=h;exact pe_ix ix_list (pe_var hN hv hd hcd) hb hs pins s σ H Q I ⟨_,e1,c,a,_,_,_,rfl,rfl,e2,e3,q⟩
theorem Ks (j:Nat)(a:Addr)(ns:Li){x:Str}{px:Pos}(hb:PE X b (tN C gb))(hs:PlainIx b)(hN:X.N[j]?=some x:=by rfl)(hv:Vis X.env.scope x:=by walk_at "v")
  (hd:(x == ("__debug__":Str))=false:=by decide) (hcd:(x == ("__classdict__":Str))=false:=by decide) :
  PE X (.Subscript (.Name x px) b pos) (tN (λσ H=>C σ H/\σ[j]?=some (some (.ref a))/\SqL X.K H a (ns.map V.int) /\ -(ns.length:Int)<=gb σ/\gb σ<(ns.length:Int)) (λσ=>ns.getD (if 0<=gb σ then gb σ else gb σ+ns.length).toNat 0)):=by
 intro pins s σ H Q I h;obtain⟨⟨c,e1,e2,b1,b2⟩,q⟩:=h;refine pe_ix ix_list (pe_var hN hv hd hcd) hb hs pins s σ H Q I ⟨_,e1,c,a,_,_,_,rfl,rfl,e2,?_,q⟩;show atI (ns.map V.int) (gb σ)=some (V.int (ns.getD (if 0<=gb σ then gb σ else gb σ+ns.length).toNat 0));by_cases c0:0<=gb σ
 ·rw[ak c0];exact tD c0 b2
 ·rw[ai c0];have q2:=tD (ns:=ns) (i:=gb σ+ns.length) (by lia) (by lia);unfold atI ixN at q2 ⊢;rw[ag]at q2 ⊢;rw[ak (show 0<=gb σ+(ns.length:Int) by lia),ak (show gb σ+(ns.length:Int)<(ns.length:Int) by lia)]at q2;rw[ai c0,ak b1];exact q2
theorem Oz (j:Nat)(a:Addr)(xs:List V)(hm:X.mg "len"=none)(hN:X.N[j]?=some x:=by rfl)(hg:Gl X "len":=by rfl)(hv:Vis X.env.scope x:=by walk_at "v")
  (hd:(x == ("__debug__":Str))=false:=by decide) (hcd:(x == ("__classdict__":Str))=false:=by decide) (he:starEach [.Name x px] X.env=[(false,eval (.Name x px) X.env)]:=by rfl) :
  PE X (.Call (.Name "len" p) [.Name x px] [] pos) (tN (λσ H=>σ[j]?=some (some (.ref a))/\SqL X.K H a xs) (λ_=>(xs.length:Int))):=by
 intro pins s σ H Q I h;exact pe_callB call_len_seq hg hm PySem.boot_len (pa_cons (pe_var hN hv hd hcd) pa_nil he) (by decide) (by decide) he rfl pins s σ H Q I ⟨_,h.1.1,a,_,rfl,.inl h.1.2,h.2⟩
end
structure Ok (P:Program)(w:World)(K:Fg)(mg:Mg)(base:Heap)(k:Nat)(x:Str)(ps:List Str)(sp:Sp):Prop where
 ex:∃f fd,FnOk P w K mg base CX0 k f fd ps sp/\Binds K fd ps []/\W.keepIn K (.ref f)=true/\mg x=some (.ref f)
theorem Ok.imp {P:Program}{w:World}{K:Fg}{mg:Mg}{base:Heap}{k:Nat}{x:Str}{ps:Ls}{sp sp':Sp}(o:Ok P w K mg base k x ps sp)(h:∀vs H Q E,sp' vs H Q E->sp vs H Q E):Ok P w K mg base k x ps sp':=by obtain⟨f,fd,a,b⟩:=o.ex;exact⟨f,fd,a.imp h,b⟩
section
variable {X:Cx}{e:Expr}{es:List Expr}{pos p:Pos}{j k:Nat}{x:Str}{ps:List Str}{sp:Sp}{t:TA}
theorem qj (o:Ok X.prog X.w X.K X.mg X.base j x ps sp)(hr:Room k X.A)(ha:PA X (e::es) t)(hj:j<=k:=by decide)(hg:Gl X x:=by rfl)(hdb:(x == ("__debug__":Str))=false:=by decide)
  (he:starEach (e::es) X.env=(false,eval e X.env)::starEach es X.env:=by rfl) (hpl:(backTo pos (starEach es X.env)).any (·.1)=false:=by rfl):PE X (.Call (.Name x p) (e::es) [] pos) (tCall sp [] E0 t):=by
 obtain⟨f,fd,F,b,kp,m⟩:=o.ex;exact pe_call (F.mono hj) hr hg m kp b .nil pass0 ha hdb he hpl
variable {C:St->Hp->Prop}{g:St->List Int}{n:Nat}{pre:List Int->Prop}
end
structure lO (K:Fg)(mg:Mg)(x:Str)(st:Stmt)(ps:List Str):Prop where
 ex:∃f fd,Fun K x x st f fd/\Binds K fd ps []/\mg x=some (.ref f)
section
variable {P:Program}{w:World}{K:Fg}{mg:Mg}{base:Heap}
theorem lO.ok {x:Str}{st:Stmt}{N ps:Ls}{k:Nat}{sp:Sp}(d:lO K mg x st ps)(S:FnScope N ps (defScope st))(len:∀vs H Q E,sp vs H Q E->vs.length=ps.length)
  (hbody:∀(f:Addr) (cdv:Value) (A:Around) (outer:List Env) (s:Shared) (H:Hp) (vs:List V) (Q:VK) (E:XK),Room k (A.deeper (envOfC x (defScope st) s.heap.objs.size f cdv))->sp vs H Q E ->
   ∃t,PSs (cxOf CX0 P w K mg base N x (defScope st) f cdv A outer s H E).nox (defBody st) t/\t { nx:=λ_ H'=>Q .non H',rt:=Q } (start N vs) H):Ok P w K mg base (k+1) x ps sp:=by
 obtain⟨f,fd,F,b,m⟩:=d.ex;exact⟨f,fd,F.ok S len λcdv A outer s H vs Q E hr h=>hbody f cdv A outer s H vs Q E hr h,b,F.kp,m⟩
theorem lO.mk' {x:Str}{st:Stmt}{ps:Ls}{f:Addr}{fd:FuncData}(F:Fun K x x st f fd)(b:Binds K fd ps [])(m:mg x=some (.ref f)):lO K mg x st ps:=⟨f,fd,F,b,m⟩
end
theorem qM:bootBuiltins "int"=some (.type "int"):=by decide +kernel
theorem Jh:bootBuiltins "tuple"=some (.type "tuple"):=by decide +kernel
theorem O5:bootBuiltins "str"=some (.type "str"):=by decide +kernel
theorem vM:bootBuiltins "ValueError"=some (.type "ValueError"):=by decide +kernel
theorem uE:bootBuiltins "len"=some (.builtin "len"):=by decide +kernel
theorem oV:bootBuiltins "isinstance"=some (.builtin "isinstance"):=by decide +kernel
theorem Og:bootBuiltins "abs"=some (.builtin "abs"):=by decide +kernel
theorem Ig:bootBuiltins "min"=some (.builtin "min"):=by decide +kernel
def Hg:V->Option Value
 | .ty n=>some (.type n)
 | .ref a=>some (.ref a)
 |_=>none
theorem Ak (h:Hg c=some cv)(r:RelV c u):u=cv:=by
 cases c with
 |ty n=>cases h;exact r
 |ref a=>cases h;exact r
 |non=>cases h
 |bl _=>cases h
 |int _=>cases h
 |str _=>cases h
 |byt _=>cases h
 |flt _=>cases h
section
variable {X:Cx}
theorem rH:CallR X (.builtin "isinstance") (λxs H Q=>∃x c t cv b,xs=[x,c]/\Hg c=some cv/\TyOf X.K H x t/\W.kitOne X.K t cv=some b/\Q (.bl b) H):=by intro pins s σ H xs us Q I r h;obtain⟨x,c,t,cv,b,rfl,hc,ty,e,q⟩:=h;obtain⟨u,w',rfl,r1,r2⟩:=vals2 r;obtain rfl:=Ak hc r2;exact isinst_ok I r1 ty e λtk=>⟨.bl b,H,I.tok tk,rfl,q⟩
end
theorem Rq {ns:Li}(h:ns.length=1):∃a,ns=[a]:=match ns,h with | [a],_=>⟨a,rfl⟩
theorem same_new (h:H p=none)(o:HO):Same H (upd H p o):=mV λb u q=>by rw[upd_ne (ne_of_none q h)];exact q
theorem bits_le (h:k.natAbs<2^n):Builtin.Int.intBits k<=n:=by
  unfold Builtin.Int.intBits;split
  . exact b6 _
  . have hk:k.natAbs≠0:=by
      rename_i c;intro z;apply c
      first | exact z | (have:k=0:=by omega
                         simp[this])|lia
    have:=(fS hk).mpr h;lia
theorem JK (ha:a.natAbs<2^n)(hb:b.natAbs<2^m)(hn:n<=1048576:=by decide)(hm:m<=1048576:=by decide):IntMulOk a b:=
 .of_bits (aA (bits_le ha) (aA hn (by decide))) (aA (bits_le hb) (aA hm (by decide)))
theorem tO (h:-(2^64)<b/\b<2^64):IntMulOk a b:=.of_right (intBits_le_64 h.1 h.2)
abbrev QK:Value->Shared->Prop:=λ_ _=>False
def vZ (cs:List Expr)(ev:Env):Sem Bool:=forIn cs true λc r=>if r=true then do let ok <- isTrue c ev (eval c ev);pure (ForInStep.yield ok) else pure (ForInStep.yield r)
section
variable {P:Program}{w:World}{A:Around}{R:Result->Shared->Prop}{s:Shared}
theorem BL {el tg src:Expr}{cs:List Expr}{sc:Scope}{at':Pos}{it acc:Value}{ev:Env}(Er:Value->Shared->Prop)(hEr:∀x s,Er x s->notedBy (model P w) A ev (λx s2=>R (.error x) s2) x s)(I:Nat->Shared->Prop)
  (turn:∀n s,I n s->wpAny (model P w) A (pyNext it) (λr s1=>(r=none/\R (.ok .next) s1)\/∃v,r=some v /\
   wpAny (model P w) A (letOwnedTupleGo tg it v) (λ_ s2=>wpAny (model P w) A (assign tg ev v) (λ_ s3=>wpAny (model P w) A (vZ cs ev) (λok s4=>
    if ok=true then wpAny (model P w) A (eval el ev) (λx s5=>wpAny (model P w) A (call (.builtin "list.append") [acc,x]) (λ_ s6=>∃m,m<n/\I m s6) Er s5) Er s4
    else ∃m,m<n/\I m s4) Er s3) Er s2) Er s1) Er s)
  (n:Nat) (h:I n s):codeAny (model P w) A (.compLoop (.ListComp el [⟨tg,src,cs,0⟩] sc at') 0 it acc ev) R s:=by
 refine codeAny_loop rfl I (λn s hI=>?_) n h;show wpAny _ A ((compTurn (.ListComp el [⟨tg,src,cs,0⟩] sc at') 0 it acc ev).onRaise (λz=>do noteFrame z ev;theTreesLotGoes z)) _ _ s
 refine wpAny_noted (cJ ?_ (λ_ _ q=>q) hEr);rw[compTurn_list];refine aa (cH (aa (thn (turn n s hI) λr s1 h1=>?_)));rcases h1 with⟨rfl,h1⟩|⟨v,rfl,h1⟩
 ·exact aP h1
 ·refine aa (thn h1 λ_ s2 h2=>aa (thn h2 λ_ s3 h3=>aa (thn h3 λok s4 h4=>?_)));cases ok with
  |false=>exact aP ⟨rfl,h4⟩
  |true=>exact aa (aa (thn h4 λx s5 h5=>aa (thn h5 λ_ s6 h6=>aP (aP ⟨rfl,h6⟩))))
end
def lX (X:Cx)(sc:Scope)(cl:List (Str×Addr)):List Str->List (Option Nat)->Prop
 |[],[]=>True
 |_::xs,none::cs=>lX X sc cl xs cs
 |x::xs,some i::cs=>(X.N[i]?=some x/\Vis X.env.scope x/\X.env.kindOf x≠some .local/\((relabel sc X.env).names.lookup x=some .cell\/(relabel sc X.env).names.lookup x=some .free)/\∃c,cl.lookup x=some c/\X.env.cells.lookup x=some c)/\lX X sc cl xs cs
 |_,_=>False
def CJ (ev:Env):List (Str×Addr)->Prop
 |[]=>True
 |(x,c)::r=>ev.cells.lookup x=some c/\CJ ev r
theorem CJ.look:∀{cl:List (Str×Addr)},CJ ev cl->∀{x:Str} {c:Addr},cl.lookup x=some c->ev.cells.lookup x=some c
 |[],_,x,c,h=>by simp at h
 |(y,d)::r,q,x,c,h=>by
  rw[eU]at h;cases e:x == y with
  |true=>
   rw[e]at h;have e':x=y:=by simpa using e
   subst e';cases h;exact q.1
  |false=>rw[e]at h;exact CJ.look q.2 h
def jK (cap:List (Option Nat))(σ:St):St:=cap.map λo=>match o with
 |some i=>(σ[i]?).join
 |none=>none
def iB (X:Cx)(N':List Str)(sc:Scope)(cl:List (Str×Addr))(s:Shared)(H:Hp)(fp:List Addr):Cx:=
 { X with N:=N',s₀:=s,H₀:=H,env:=compEnvC sc cl s.heap.objs.size X.env,outer:=X.stack,ex:=fp,fn:=λ_=>false,pn:=[],xe:=QK }
abbrev ik (X:Cx)(N':List Str)(sc:Scope)(cl:List (Str×Addr))(s:Shared)(H:Hp)(fp:List Addr)(xe:Value->Shared->Prop):Cx:={ iB X N' sc cl s H fp with xe:=xe }
theorem Inv.xe {X:Cx}{pins:List (Addr×Obj)}{σ:St}{H:Hp}{s:Shared}(I:Inv X pins σ H s)(E:Value->Shared->Prop):Inv { X with xe:=E } pins σ H s:=
 ⟨⟨I.ok.mod,I.ok.kind,I.ok.glob,I.ok.blt,I.ok.above,I.ok.inj,I.ok.has,I.ok.cab,I.ok.hd,I.ok.frames,I.ok.stk,I.ok.exf,I.ok.bs,I.ok.bsz,I.ok.noex,I.ok.exfs,I.ok.funs,I.ok.frf⟩,I.os,I.bare,I.base,I.loc,I.cell,I.free,I.freeC,I.pin,I.hok,I.len⟩
section
variable {X:Cx}{pins:List (Addr×Obj)}{σ:St}{H:Hp}{s:Shared}{N':List Str}{sc:Scope}{cl:List (Str×Addr)}{cap:List (Option Nat)}{fp:List Addr}
theorem lX.length {X:Cx}{sc:Scope}{cl:List (Str×Addr)}:∀{N':Ls} {cap:List (Option Nat)},lX X sc cl N' cap->cap.length=N'.length
 |[],[],_=>rfl
 |_::xs,none::cs,h=>by have:=lX.length (X:=X) (sc:=sc) (cl:=cl) (N':=xs) (cap:=cs) h;simp[this]
 |_::xs,some i::cs,h=>by have:=lX.length (X:=X) (sc:=sc) (cl:=cl) (N':=xs) (cap:=cs) h.2;simp[this]
 |[],_::_,h=>h.elim
 |_::_,[],h=>h.elim
theorem lX.at:∀{N':Ls} {cap:List (Option Nat)} {j:Nat},lX X sc cl N' cap->N'[j]?=some x->cap[j]?=some (some i) ->
  X.N[i]?=some x/\Vis X.env.scope x/\X.env.kindOf x≠some .local/\((relabel sc X.env).names.lookup x=some .cell\/(relabel sc X.env).names.lookup x=some .free)/\∃c,cl.lookup x=some c/\X.env.cells.lookup x=some c
 |[],[],j,_,h,_=>by simp at h
 |_::xs,none::cs,0,_,_,h=>by simp at h
 |_::xs,none::cs,j+1,q,h1,h2=>lX.at (N':=xs) (cap:=cs) (j:=j) q (by simpa using h1) (by simpa using h2)
 |y::xs,some k::cs,0,q,h1,h2=>by
  have e1:y=x:=by simpa using h1
  have e2:k=i:=by simpa using h2
  subst e1 e2;exact q.1
 |_::xs,some _::cs,j+1,q,h1,h2=>lX.at (N':=xs) (cap:=cs) (j:=j) q.2 (by simpa using h1) (by simpa using h2)
 |[],_::_,_,h,_,_=>h.elim
 |_::_,[],_,h,_,_=>h.elim
theorem Inv.block (I:Inv X pins σ H s)(hk:sc.kind=.function)(hcap:lX X sc cl N' cap)(sub:CJ X.env cl)
  (has:∀x,((relabel sc X.env).names.lookup x=some .cell\/(relabel sc X.env).names.lookup x=some .free)->∃c,cl.lookup x=some c)
  (hf:∀b∈fp,FpOk X pins H b) (hfo:∀b∈fp,∃o,s.heap.get? b=some o) (hns:h'.Ns s.heap.objs.size m) (hsb:Heap.SameBut s.heap.objs.size (s.heap.push o) h') :
  Inv (iB X N' sc cl s H fp) [] (jK cap σ) H { s with heap:=h',toks:=tk }:=by
 have keep:∀b u,s.heap.get? b=some u->h'.get? b=some u:=λb u e=>
  (hsb.2 b (bn (au e))).trans (af _ e)
 refine⟨⟨I.ok.mod,hk,I.ok.glob,I.ok.blt,aw _,λx y c h1 h2=>I.ok.inj x y c (sub.look h1) (sub.look h2),has,(λx c h _=>nomatch h),I.ok.hd,I.ok.frames,.inl rfl,
  λb hb=>⟨?_,λx c e=>(hf b hb).2.2.2.2.1 x c (sub.look e)⟩,I.bs,aA I.ok.bsz I.sz,λb u e hb=>?_,λb hb hb'=>?_,I.stack,I.env0.frf⟩,
  rfl,I.bare,Un.kept keep,⟨m,hns,λj x v h1 h2 h3=>?_⟩,λx c e=>?_,I.hok.fresh (aw _),λx c e=>I.freeC x c (sub.look e),λp hp=>absurd (show p∈([]:List (Addr×Obj)) from hp) (by simp),I.hok.kept keep,?_⟩
 ·obtain⟨u,e⟩:=hfo b hb;exact bn (au e)
 ·rcases (hf b hb).2.2.2.1 with z|z
  ·exact I.ok.noex b u e z
  ·exact absurd (aS (au e) (aA I.ok.bsz z)) (b7 _)
 ·rcases aq.mp (I.stkSub b hb') with z|z
  ·exact(hf b hb).2.1 z
  ·exact(hf b hb).2.2.1 z
 ·obtain⟨m0,hn0,hl0⟩:=I.loc;have h2':((cap.map λo=>match o with|some i=>(σ[i]?).join|none=>none):St)[j]?=some (some v):=h2
  rw[aT]at h2';cases e:cap[j]? with
  |none=>rw[e]at h2';cases h2'
  |some oi=>
   rw[e]at h2';cases oi with
   |none=>cases h2'
   |some i=>
    have h4:(σ[i]?).join=some v:=aI h2';have h5:σ[i]?=some (some v):=by
     cases z:σ[i]? with
     |none=>rw[z]at h4;cases h4
     |some y=>rw[z]at h4;cases h4;rfl
    obtain⟨a1,a2,a3,a4,c,a5,a6⟩:=hcap.at h1 e;obtain⟨u,r,l⟩:=hl0 i x v a1 h5 a2;refine⟨u,r,.inr ⟨a4,c,a5,?_⟩⟩;rcases l with⟨k,_⟩|⟨_,c',e',ic⟩
    ·exact absurd k a3
    ·rw[a6]at e';cases e';obtain⟨oc,h7,h8⟩:=ic;exact⟨oc,keep _ _ h7,h8⟩
 ·obtain⟨v,oc,h7,h8⟩:=I.cell x c (sub.look e);exact⟨v,oc,keep _ _ h7,h8⟩
 ·unfold jK;rw[ag];exact hcap.length
theorem Inv.Ej (I:Inv X pins σ H s)(hf:∀b∈fp,FpOk X pins H b)(J:Inv (iB X N' sc cl s H fp) pins' σ' H' s'):Inv X pins σ H' s':=
 I.call' (ch:=fp) J.os J.base J.hok J.bare λb hb=>⟨(hf b hb).2.2.2.1,(hf b hb).2.1,(hf b hb).2.2.2.2.1,(hf b hb).2.2.2.2.2⟩
end
def qU:St->St->Prop
 |[],[]=>True
 |none::a,_::b=>qU a b
 |some v::a,y::b=>y=some v/\qU a b
 |_,_=>False
theorem qU.at:∀{a b:St},qU a b->∀(i:Nat) (v:V),a[i]?=some (some v)->b[i]?=some (some v)
 |[],[],_,i,v,h=>by simp at h
 |none::a,_::b,q,0,v,h=>by simp at h
 |none::a,_::b,q,i+1,v,h=>by have:=qU.at (a:=a) (b:=b) q i v (by simpa using h);simpa using this
 |some u::a,y::b,q,0,v,h=>by
  have e:u=v:=by simpa using h
  rw[q.1,e];rfl
 |some u::a,y::b,q,i+1,v,h=>by have:=qU.at (a:=a) (b:=b) q.2 i v (by simpa using h);simpa using this
 |[],_::_,q,_,_,_=>q.elim
 |none::_,[],q,_,_,_=>q.elim
 |some _::_,[],q,_,_,_=>q.elim
def NK (X:Cx)(cs:List Expr)(t:TT):Prop:=
 ∀(pins:List (Addr×Obj)) (s:Shared) (σ:St) (H:Hp) (Q:Bool->Hp->Prop),Inv X pins σ H s->t σ H Q->wpAny (model X.prog X.w) X.A (vZ cs X.env) (TP X pins σ Q) X.xe s
theorem pL:NK X [] (λ_ H Q=>Q true H):=λ_ _ _ H _ I h=>wpAny_tests_nil ⟨H,I,h⟩
def Rj (D:Addr)(J:It)(σ:St)(g:TG)(tt:TT)(te:TE)(Q:VK)(W:Nat->Nat->List V->Hp->Prop):Prop:=
 ∀i m ys H,W i m ys H->H D=some (.lst ys)/\ys.length<sizeLine /\
  ((J.stop i H/\Q (.ref D) H)\/(J.go i H/\∀x H',J.yld i H x H' -> g x σ H' λσ2 H2=>qU σ σ2/\tt σ2 H2 λok H3=>
   if ok=true then te σ2 H3 λy H4=>H4 D=some (.lst ys)/\∃m',m'<m/\W (i+1) m' (ys++[y]) (upd H4 D (.lst (ys++[y])))
   else ∃m',m'<m/\W (i+1) m' ys H3))
def Ni (cap:List (Option Nat))(wi:TI)(g:TG)(tt:TT)(te:TE):TE:=λσ H Q=>wi σ H λJ H1=>∀D,H1 D=none->∃W:Nat->Nat->List V->Hp->Prop,(∃m,W 0 m [] (upd H1 D (.lst [])))/\Rj D J (jK cap σ) g tt te Q W
section
variable {X:Cx}{pins:List (Addr×Obj)}{σ:St}{H:Hp}{s:Shared}{N':List Str}{sc:Scope}{cl:List (Str×Addr)}{cap:List (Option Nat)}{fp:List Addr}
 {el tg src:Expr} {cs:List Expr} {at':Pos} {g:TG} {tt:TT} {te:TE} {J:It} {it:Addr} {tn:Nat->Heap->Prop} {Q:VK}
structure sS (X:Cx)(N':List Str)(sc:Scope)(cl:List (Str×Addr))(cap:List (Option Nat)):Prop where
 kind:sc.kind=.function
 clos:closureFor sc X.env=pure cl
 nocell:∀y∈sc.names,y.2 ≠ .cell
 names:∀y∈sc.names,y.2=.local->sc.names.lookup y.1=some .local
 cap:lX X sc cl N' cap
 sub:CJ X.env cl
 has:∀x,((relabel sc X.env).names.lookup x=some .cell\/(relabel sc X.env).names.lookup x=some .free)->∃c,cl.lookup x=some c
theorem yX (kind:sc.kind=.function)(clos:closureFor sc X.env=pure cl)(h1:(sc.names.all λy=>y.2 != .cell)=true)(h2:(sc.names.all λy=>y.2 != .local || sc.names.lookup y.1 == some .local)=true)
  (hcap:lX X sc cl N' cap) (sub:CJ X.env cl) (h3:((relabel sc X.env).names.all λy=>(y.2 != .cell && y.2 != .free) || (cl.lookup y.1).isSome)=true):sS X N' sc cl cap:=by
 refine⟨kind,clos,λy hy e=>?_,λy hy e=>?_,hcap,sub,λx hx=>?_⟩
 ·have q:=bc.mp h1 y hy;rw[e]at q;exact absurd q (by decide)
 ·have q:=bc.mp h2 y hy;rw[e]at q;simpa using q
 ·have key:∀k,(k=NameKind.cell\/k=NameKind.free)->(relabel sc X.env).names.lookup x=some k->∃c,cl.lookup x=some c:=λk hk e=>by
   have q:=bc.mp h3 _ (cm e);rcases hk with rfl|rfl
   ·exact bN.mp (by simpa using q)
   ·exact bN.mp (by simpa using q)
  rcases hx with e|e
  ·exact key _ (.inl rfl) e
  ·exact key _ (.inr rfl) e
theorem uQ {xe:Shared->Hp->List Addr->Value->Shared->Prop}(L:sS X N' sc cl cap)(hc:X.calm=true)(I:Inv X pins σ H s)(T:Turn X.prog X.w X.K tg J fp it tn)(st:tn 0 s.heap)(hf:∀b∈fp,FpOk X pins H b)
  (hg:∀s H fp,PG (ik X N' sc cl s H fp (xe s H fp)) tg g) (ht:∀s H fp,NK (ik X N' sc cl s H fp (xe s H fp)) cs tt) (he:∀s H fp,PE (ik X N' sc cl s H fp (xe s H fp)) el te)
  (rd:∀D,H D=none->∃W:Nat->Nat->List V->Hp->Prop,(∃m,W 0 m [] (upd H D (.lst [])))/\Rj D J (jK cap σ) g tt te Q W)
  {Ex:Value->Shared->Prop} {RR:Value->Addr->Result->Shared->Prop} (hR:∀D C m H' s',Inv X pins σ H' s' -> s'.heap.Ns C m->FpOk X pins H' C->Q (.ref D) H' -> RR (.ref D) C (.ok .next) s')
  (hXe:∀D s3 H3 e s',Inv X pins σ H3 s3->(∀b∈fp,FpOk X pins H3 b)->xe s3 H3 fp e s' -> notedBy (model X.prog X.w) X.A (compEnvC sc cl s3.heap.objs.size X.env) (λx s2=>RR (.ref D) s3.heap.objs.size (.error x) s2) e s') :
  wpAny (model X.prog X.w) X.A (newList []) (λacc s3=>wpAny (model X.prog X.w) X.A (newFunctionEnv sc X.env.globals cl [] X.env.qual none .none (some X.env)) (λcv s4=>
   codeAny (model X.prog X.w) X.A (.compStart (.ListComp el [⟨tg,src,cs,0⟩] sc at') 0 (.ref it) acc { cv with scope:=relabel sc X.env }) (RR acc cv.locals) s4) Ex s3) Ex s:=by
 obtain⟨W,⟨m0,w0⟩,step⟩:=rd _ I.fresh;refine cY (wpAny_newFunctionEnv L.nocell (by intro y hy;simp at hy) (λh1 hns hsb=>?_) L.kind);have I3:Inv X pins σ (upd H s.heap.objs.size (.lst [])) { s with heap:=s.heap.push { cls:=.type "list",dict:=none,data:=.seq ([]:List Value).toArray } }:=I.lnew (its:=[]) (t':=s.toks) .nil (by show 0<=sizeLine;decide);have hfo:∀b∈fp,∃o,s.heap.get? b=some o:=λb hb=>let ⟨o,e,_⟩:=T.obj 0 s.heap st b hb;⟨o,e⟩
 have hf3:∀b∈fp,FpOk X pins (upd H s.heap.objs.size (.lst [])) b:=λb hb=>by obtain⟨o,e⟩:=hfo b hb;exact⟨by rw[upd_ne (bn (au e))];exact(hf b hb).1,(hf b hb).2⟩
 dsimp only at hns hsb ⊢;generalize hs3:({ s with heap:=s.heap.push { cls:=.type "list",dict:=none,data:=.seq ([]:List Value).toArray } }:Shared)=s3 at I3 hns hsb ⊢;have hh3:s3.heap=s.heap.push { cls:=.type "list",dict:=none,data:=.seq ([]:List Value).toArray }:=by rw[<- hs3]
 have hns:h1.Ns s3.heap.objs.size (λx=>List.lookup x ([]:List (Str×Value)).reverse):=by rw[hh3];exact hns
 have hsb:Heap.SameBut s3.heap.objs.size (s3.heap.push { cls:=.type (if (some X.env).isSome=true then "dict" else "frame"),data:=.dict #[] }) h1:=by rw[hh3];exact hsb
 have hk3:∀b o,s.heap.get? b=some o->s3.heap.get? b=some o:=λb o e=>by rw[hh3];exact af _ e
 have J0:=Inv.xe (E:=xe s3 (upd H s.heap.objs.size (.lst [])) fp) (I3.block (N':=N') (cap:=cap) (fp:=fp) (tk:=s3.toks+([]:List (Str×Value)).length) L.kind L.cap L.sub L.has hf3 (λb hb=>let ⟨o,e⟩:=hfo b hb;⟨o,hk3 b o e⟩) hns hsb)
 have st1:tn 0 h1:=T.keep 0 s.heap h1 st λb hb o e=>(hsb.2 b (bn (au (hk3 b o e)))).trans (af _ (hk3 b o e));have fpx:∀{H':Hp},(∀b∈fp,H' b=none)->∀b∈fp,FpOk (ik X N' sc cl s3 (upd H s.heap.objs.size (.lst [])) fp (xe s3 (upd H s.heap.objs.size (.lst [])) fp)) [] H' b:=λhn b hb=>by
  obtain⟨o,e⟩:=hfo b hb;refine⟨hn b hb,bn (au (hk3 b o e)),λhb'=>?_,.inl hb,λx c q=>(hf b hb).2.2.2.2.1 x c (L.sub.look q),λp hp=>absurd (show p∈([]:List (Addr×Obj)) from hp) (by simp)⟩;rcases aq.mp (I.stkSub b hb') with z|z
  ·exact(hf b hb).2.1 z
  ·exact(hf b hb).2.2.1 z
 have loop:∀s4:Shared,s4={ s3 with heap:=h1,toks:=s3.toks+([]:List (Str×Value)).length } ->
   codeAny (model X.prog X.w) X.A (.compLoop (.ListComp el [⟨tg,src,cs,0⟩] sc at') 0 (.ref it) (.ref s.heap.objs.size) (compEnvC sc cl s3.heap.objs.size X.env)) (RR (.ref s.heap.objs.size) s3.heap.objs.size) s4:=by
  rintro s4 rfl;refine BL _ (λx s' hx=>hXe s.heap.objs.size s3 _ x s' I3 hf3 hx) (λn s'=>∃i ys H',Inv (ik X N' sc cl s3 (upd H s.heap.objs.size (.lst [])) fp (xe s3 (upd H s.heap.objs.size (.lst [])) fp)) [] (jK cap σ) H' s'/\tn i s'.heap/\(∀b∈fp,H' b=none)/\W i n ys H') ?_ m0 ⟨0,[],_,J0,st1,λb hb=>(hf3 b hb).1,w0⟩;rintro n s' ⟨i,ys,H',Ji,sti,fri,wi⟩;obtain⟨hD,hlen,hgo⟩:=step i n ys H' wi;rcases hgo with⟨hstop,hq⟩|⟨hgo,hbody⟩
  ·refine thn (T.done (ik X N' sc cl s3 (upd H s.heap.objs.size (.lst [])) fp (xe s3 (upd H s.heap.objs.size (.lst [])) fp)) rfl rfl rfl hc i [] s' _ H' (xe s3 (upd H s.heap.objs.size (.lst [])) fp) Ji (fpx fri) sti hstop) λr s1 ⟨hr,J1⟩=>.inl ⟨hr,?_⟩;obtain⟨m1,hm1,_⟩:=J1.loc;exact hR _ _ m1 H' s1 (I3.Ej hf3 (Inv.xe J1 QK)) hm1 (I3.fpOk (aw _) J1.free) hq
  ·refine thn (T.item (ik X N' sc cl s3 (upd H s.heap.objs.size (.lst [])) fp (xe s3 (upd H s.heap.objs.size (.lst [])) fp)) rfl rfl rfl hc i [] s' _ H' (xe s3 (upd H s.heap.objs.size (.lst [])) fp) Ji (fpx fri) sti hgo) λr s1 ⟨u,hr,h4⟩=>.inr ⟨u,hr,thn h4 λ_ s5 ⟨x,H5,J5,r5,y5,st5,fr5⟩=>?_⟩;have J5':=J5.pinned (fpx fr5) (T.obj _ _ st5);refine thn (hg _ _ _ _ s5 _ H5 x u _ J5' r5 (hbody x H5 y5)) λ_ s6 ⟨σ6,H6,J6,ext,q6⟩=>?_;have endT:∀{ys':List V} {H7:Hp} {s7:Shared} {m':Nat},Inv (ik X N' sc cl s3 (upd H s.heap.objs.size (.lst [])) fp (xe s3 (upd H s.heap.objs.size (.lst [])) fp)) ([]++pinsAt fp s5.heap) σ6 H7 s7->m'<n->W (i+1) m' ys' H7 ->
     ∃m,m<n/\∃i ys H',Inv (ik X N' sc cl s3 (upd H s.heap.objs.size (.lst [])) fp (xe s3 (upd H s.heap.objs.size (.lst [])) fp)) [] (jK cap σ) H' s7/\tn i s7.heap/\(∀b∈fp,H' b=none)/\W i m ys H':=λ{ys' H7 s7 m'} J7 hm w7=>by
    refine⟨m',hm,i+1,ys',H7,(J7.unpinned).weak ?_ λj v z=>ext.at j v z,T.keep _ _ _ st5 λb hb o e=>(J7.pin (b,o) (aH _ (aH _ (mem_pinsAt hb e)))).1,λb hb=>?_,w7⟩
    ·rw[J7.len,Ji.len]
    ·obtain⟨o,e,_⟩:=T.obj _ _ st5 b hb;exact(J7.pin (b,o) (aH _ (aH _ (mem_pinsAt hb e)))).2.1
   refine thn (ht _ _ _ _ s6 _ H6 _ J6 q6) λok s7 ⟨H7,J7,q7⟩=>?_;cases ok with
   |false=>obtain⟨m',hm,w7⟩:=q7;exact endT J7 hm w7
   |true=>refine thn (he _ _ _ _ s7 _ H7 _ J7 q7) λy s8 ⟨yv,H8,J8,r8,hD8,m',hm,w8⟩=>?_;exact thn (mt_append _ s8 _ H8 (.ref s.heap.objs.size) [yv] (.ref s.heap.objs.size) [y] (λv H9=>H9=upd H8 s.heap.objs.size (.lst (ys++[yv]))) J8 rfl (.cons r8 .nil) ⟨_,ys,yv,rfl,rfl,hD8,hlen,rfl⟩) λ_ s9 ⟨_,H9,J9,_,e9⟩=>by subst e9;exact endT J9 hm w8
 subst hs3;exact codeAny_compStart_list (loop _ rfl) (T.self _ 0 _ _ _ st1 (loop _ rfl))
theorem Fi (L:sS X N' sc cl cap)(hc:X.calm=true)(I:Inv X pins σ H s)(T:Turn X.prog X.w X.K tg J fp it tn)(st:tn 0 s.heap)(hf:∀b∈fp,FpOk X pins H b)
  (hg:∀s H fp,PG (iB X N' sc cl s H fp) tg g) (ht:∀s H fp,NK (iB X N' sc cl s H fp) cs tt) (he:∀s H fp,PE (iB X N' sc cl s H fp) el te)
  (rd:∀D,H D=none->∃W:Nat->Nat->List V->Hp->Prop,(∃m,W 0 m [] (upd H D (.lst [])))/\Rj D J (jK cap σ) g tt te Q W)
  {Ex:Value->Shared->Prop} {RR:Value->Addr->Result->Shared->Prop} (hR:∀D C m H' s',Inv X pins σ H' s' -> s'.heap.Ns C m->FpOk X pins H' C->Q (.ref D) H' -> RR (.ref D) C (.ok .next) s') :
  wpAny (model X.prog X.w) X.A (newList []) (λacc s3=>wpAny (model X.prog X.w) X.A (newFunctionEnv sc X.env.globals cl [] X.env.qual none .none (some X.env)) (λcv s4=>
   codeAny (model X.prog X.w) X.A (.compStart (.ListComp el [⟨tg,src,cs,0⟩] sc at') 0 (.ref it) acc { cv with scope:=relabel sc X.env }) (RR acc cv.locals) s4) Ex s3) Ex s:=
 uQ (xe:=λ_ _ _=>QK) L hc I T st hf hg ht he rd hR λ_ _ _ _ _ _ _ h=>h.elim
theorem Mv (L:sS X N' sc cl cap)(hc:X.calm=true)(hi:PI X tg src wi)(hg:∀s H fp,PG (iB X N' sc cl s H fp) tg g)(ht:∀s H fp,NK (iB X N' sc cl s H fp) cs tt)(he:∀s H fp,PE (iB X N' sc cl s H fp) el te)
  (hs:∀x,foldedSetIterable src X.env x=pure x:=by intro _;rfl):PE X (.ListComp el [⟨tg,src,cs,0⟩] sc at') (Ni cap wi g tt te):=by
 intro pins s σ H Q I h;rw[eval_ListComp];refine wpAny_comprehension_free (use:=none) rfl hs L.clos L.kind L.names (thn (hi pins s σ H _ I h) λv s1 h1=>thn h1 λitv s2 h2=>?_);obtain⟨it,fp,tn,J,H2,rfl,I2,T,st2,f2,rd⟩:=h2;refine Fi L hc I2 T st2 f2 hg ht he rd (RR:=λacc C=>compPost (model X.prog X.w) X.A X.xe none (EP X pins σ Q) acc C) λD C m H' s' J' hn fC q=>?_;refine⟨m,hn,λh' sb=>⟨.ref D,H',J'.turned (t':=s'.toks) (λb o hb e=>(sb.2 b hb).trans e) fC.1 fC.2.1 fC.2.2.2.1 fC.2.2.2.2.1 fC.2.2.2.2.2,rfl,q⟩⟩
theorem HF {xe:Shared->Hp->List Addr->Value->Shared->Prop}{wi:TI}{i:Nat}{x:Str}{px spos:Pos}(hN:X.N.Nodup)(hi':X.N[i]?=some x)(hx:X.env.scope.names.lookup x=some .local)(L:sS X N' sc cl cap)(hc:X.calm=true)(hi:PI X tg src wi)(hg:∀s H fp,PG (ik X N' sc cl s H fp (xe s H fp)) tg g)
  (ht:∀s H fp,NK (ik X N' sc cl s H fp (xe s H fp)) cs tt) (he:∀s H fp,PE (ik X N' sc cl s H fp (xe s H fp)) el te) (hsw:swapsWith (.ListComp el [⟨tg,src,cs,0⟩] sc at') (some (.Name x px)) spos.line X.env=pure true)
  (hXe:∀pins σ fp s3 H3 e s',Inv X pins σ H3 s3->(∀b∈fp,FpOk X pins H3 b)->xe s3 H3 fp e s' -> notedBy (model X.prog X.w) X.A (compEnvC sc cl s3.heap.objs.size X.env) (λx s2=>∃m,s2.heap.Ns s3.heap.objs.size m/\∀h',Heap.SameBut s3.heap.objs.size s2.heap h' -> ∀cv:Env,cv.locals=s3.heap.objs.size->wpAny (model X.prog X.w) X.A (passOn "comprehension.variables-let-go" x cv:Sem Value) (λ_ _=>False) X.xe { s2 with heap:=h' }) e s')
  (hs:∀x,foldedSetIterable src X.env x=pure x:=by intro _;rfl):PS X (.Assign [.Name x px] (.ListComp el [⟨tg,src,cs,0⟩] sc at') spos) (tAsg (Ni cap wi g tt te) (gName i)):=by
 intro pins s σ H D I h;rw[exec_Assign_Name_used _ _ _ _ hsw];refine aa (cH (aa ?_));show wpAny _ X.A (do let _ <- comprehension (.ListComp el [⟨tg,src,cs,0⟩] sc at') sc X.env _ (newList []) false (eval src X.env) (some (assign (.Name x px) X.env))) _ _ s
 refine aa (thn (wpAny_comprehension_free (use:=some (assign (.Name x px) X.env)) (Q:=λ_ s'=>SP X pins D .next s') rfl hs L.clos L.kind L.names (thn (hi pins s σ H _ I h) λv s1 h1=>thn h1 λitv s2 h2=>?_)) λ_ s' q=>aP (aP q));obtain⟨it,fp,tn,J,H2,rfl,I2,T,st2,f2,rd⟩:=h2;refine uQ (xe:=xe) L hc I2 T st2 f2 hg ht he rd (RR:=λacc C=>compPost (model X.prog X.w) X.A X.xe (some (assign (.Name x px) X.env)) (λ_ s'=>SP X pins D .next s') acc C) (λD' C m H' s' J' hn fC q=>?_) λ_ s3 H3 e s' I3 hf3 hx=>hXe _ _ _ s3 H3 e s' I3 hf3 hx;obtain⟨oC,es,ep,hoC,hdC,hr⟩:=hn;have Jp:Inv X (pins++[(C,oC)]) σ H' s':=J'.pins_of λp hp=>by
  rcases aV.mp hp with z|z
  ·exact J'.pin p (aH _ z)
  ·have e:p=(C,oC):=by simpa using z
   subst e;exact⟨hoC,fC.1,fC.2.1,fC.2.2.1,λv z=>by rw[hdC]at z;cases z⟩
 show wpAny _ X.A (assign (.Name x px) X.env (.ref D')) _ _ s';refine thn (pg_name (i:=i) hN hi' (.inl hx) (.inr hx) _ s' σ H' (.ref D') (.ref D') (λσ' H''=>D.nx σ' H'') Jp rfl q) λ_ s'' ⟨σ',H'',J2,q2⟩=>?_;obtain⟨p1,p2,p3,p4,p5⟩:=J2.pin (C,oC) (aH _ (aH _ (by simp)));refine⟨m,⟨oC,es,ep,p1,hdC,hr⟩,λh' sb=>⟨σ',H'',(J2.pins_of (pins':=pins) λp hp=>J2.pin p (aH _ (cg _ hp))).turned (t':=s''.toks) (λb o hb e=>(sb.2 b hb).trans e) p2 fC.2.1 fC.2.2.2.1 fC.2.2.2.2.1 fC.2.2.2.2.2,q2⟩⟩
theorem MT {wi:TI}{i:Nat}{x:Str}{px spos:Pos}(hN:X.N.Nodup)(hi':X.N[i]?=some x)(hx:X.env.scope.names.lookup x=some .local)(L:sS X N' sc cl cap)(hc:X.calm=true)(hi:PI X tg src wi)(hg:∀s H fp,PG (iB X N' sc cl s H fp) tg g)
  (ht:∀s H fp,NK (iB X N' sc cl s H fp) cs tt) (he:∀s H fp,PE (iB X N' sc cl s H fp) el te) (hsw:swapsWith (.ListComp el [⟨tg,src,cs,0⟩] sc at') (some (.Name x px)) spos.line X.env=pure true)
  (hs:∀x,foldedSetIterable src X.env x=pure x:=by intro _;rfl):PS X (.Assign [.Name x px] (.ListComp el [⟨tg,src,cs,0⟩] sc at') spos) (tAsg (Ni cap wi g tt te) (gName i)):=
 HF (xe:=λ_ _ _=>QK) hN hi' hx L hc hi hg ht he hsw (λ_ _ _ _ _ _ _ _ _ h=>h.elim) hs
end
theorem ObjOk.get (x:ObjOk P w H h a o):∃ob,h.get? a=some ob:=by
 cases o with
 |lst xs=>obtain⟨_,_,_,_,e⟩:=x;exact⟨_,e⟩
 |tup xs=>obtain⟨_,_,_,ob,e,_⟩:=x;exact⟨ob,e⟩
 |dK kvs=>obtain⟨_,_,_,_,o,_,_,e,_⟩:=x;exact⟨o,e⟩
 |dT kvs=>obtain⟨_,_,_,_,o,_,_,e,_⟩:=x;exact⟨o,e⟩
 |set S n=>obtain⟨o,_,_,_,e,_⟩:=x;exact⟨o,e⟩
 |ins C dx fs=>obtain⟨_,_,_,e,_⟩:=x;exact⟨_,e⟩
 |own y=>exact x
 |xd fs=>obtain⟨_,⟨o,_,_,e,_⟩,_⟩:=x;exact⟨o,e⟩
 |rng lo hi=>obtain⟨_,_,_,e⟩:=x;exact⟨_,e⟩
 |frz ob u=>obtain⟨e,_⟩:=x;exact⟨ob,e⟩
 |tbl ps=>exact⟨_,x.1⟩
 |met f y=>exact⟨_,(show h.get? a=some _ from x)⟩
 |ext φ=>obtain⟨_,e,_⟩:=x;exact e
structure Qz (fr as:List Addr)(h h2:Heap)(a:Addr)(cls:Value)(dd:Option Addr):Prop where
 keep:∀b o,h.get? b=some o->b∉as->h2.get? b=some o
 slot:∀b o,b∈fr->h.get? b=some o->∃sl,h2.get? b=some { o with slots:=sl }
 ex:∃oe vs T oT ts,h2.get? a=some oe/\oe.cls=cls/\oe.dict=dd/\oe.data=.fields vs/\vs[1]?=some (.ref T)/\h.get? T=none/\T≠a/\h2.get? T=some oT/\oT.data=.fields ts/\ts[3]?=some .none/\(dd.isSome=true->vs[2]?=some .none)
theorem kW (f:Array Value->Array Value)(o:Obj):(Obj.mapFields f o).dict=o.dict:=by unfold Obj.mapFields;split<;>rfl
section
variable {M:Model}{A:Around}{E:Value->Shared->Prop}{s:Shared}{base:Heap}{env:Env}{outer:List Env}{L a:Addr}{oe:Obj}{vs:Array Value}{as:List Addr}{Q:Unit->Shared->Prop}{dd:Option Addr}
theorem v8 {head:Value}{hadNext:Bool}(hfr:A.frames=some (env::outer))(hl:s.heap.FunFrames base (env::outer))(hf:env.frame=some L)(he:s.heap.get? a=some oe)(hdn:oe.dict=dd)(hd:oe.data=.fields vs)(hsz:1<vs.size)(hx:dd.isSome=true->vs[2]?=some .none)
  (haa:a∈as) (hfs:∀b∈frs (env::outer),b∈as) (h:∀h',Qz (frs (env::outer)) as s.heap h' a oe.cls dd->Q () { s with heap:=h' }) :
  wpAny M A (do let x <- frameOf env;let pl <- entryPlaceOf L hadNext;let b <- EntryCells.newEntry head x .none (rawInt L) .none pl;setField (.ref a) 1 b) (λ_ s'=>wpAny M A (setFlight (.ref a) none) Q E s') E s:=by
 have hna:a∉frs (env::outer):=λz=>by obtain⟨_,o,e,d⟩:=hl.mem z;rw[he]at e;cases e;exact d vs hd
 refine aa (d9 hfr hl hf λh1 so=>aa (dY λpl hpl=>?_));unfold EntryCells.newEntry newFields;refine aa (cY ?_ (hpl.sizeOk5 _ _ _ _ _));have e1:h1.get? a=some oe:=(so.2.1 a hna).trans he;have nT:h1.objs.size≠a:=cO (au e1);generalize hts:([head,Value.ref L,Value.none,rawInt L,Value.none]++(if pl.isEmpty then List.replicate 6 Value.none else pl)).toArray=ts;have lt3:3<ts.size:=by rw[<- hts];simp
 have e2:=af (h:=h1) { cls:=.type "traceback",dict:=none,data:=.fields ts } e1;have t2:=aM h1 (o:={ cls:=.type "traceback",dict:=none,data:=.fields ts }) rfl;refine cz e2 hd hsz ?_;have d3:=bg hd (·.setIfInBounds 1 (Value.ref h1.objs.size));have e3:=aO (Obj.mapFields (·.setIfInBounds 1 (Value.ref h1.objs.size))) e2 (bG d3);have t3:=(ao (h1.push { cls:=.type "traceback",dict:=none,data:=.fields ts }) (Obj.mapFields (·.setIfInBounds 1 (Value.ref h1.objs.size))) (a9 nT)).trans t2;refine cC (vs:=vs.setIfInBounds 1 (.ref h1.objs.size)) e3 d3 (by simp[hsz]) t3 rfl lt3 (h _ ⟨λb o q nb=>?_,λb o q eb=>?_,?_⟩)
 ·have q1:h1.get? b=some o:=(so.2.1 b λz=>nb (hfs b z)).trans q;have ba:b≠a:=λz=>nb (z ▸ haa);rw[ao _ _ (cO (au q1)),ao _ _ (a9 ba)];exact af _ q1
 ·obtain⟨sl,q1⟩:=so.2.2 b o eb;have ba:b≠a:=λz=>hna (z ▸ q);refine⟨sl,?_⟩;rw[ao _ _ (cO (au q1)),ao _ _ (a9 ba)];exact af _ q1
 ·refine⟨_,_,h1.objs.size,_,_,(ao _ _ nT).trans e3,ee _ _,?_,d3,by simp[hsz],?_,nT,aO _ t3 (bG (bg rfl _)),bg rfl _,by simp[lt3],λz=>by rw[cE (by decide)];exact hx z⟩
  ·rw[kW];exact hdn
  ·cases q:s.heap.get? h1.objs.size with
   |none=>rfl
   |some o=>obtain⟨sl,q1⟩:=so.2.2 _ o q;exact absurd (au q1) (b7 _)
theorem BR (hfr:A.frames=some (env::outer))(hl:s.heap.FunFrames base (env::outer))(hf:env.frame=some L)(he:s.heap.get? a=some oe)(hdn:oe.dict=dd)(hd:oe.data=.fields vs)(h1:vs[1]?=some .none)(hx:dd.isSome=true->vs[2]?=some .none)
  (haa:a∈as) (hfs:∀b∈frs (env::outer),b∈as) (h:∀h',Qz (frs (env::outer)) as s.heap h' a oe.cls dd->Q () { s with heap:=h' }) :
  wpAny M A (noteFrame (.ref a) env) (λ_ s'=>wpAny M A (setFlight (.ref a) none) Q E s') E s:=by
 unfold noteFrame;simp only[hf];refine aa (bM he hd h1 ?_);rw[ai (by decide)];exact v8 hfr hl hf he hdn hd (aX.mp h1).1 hx haa hfs h
theorem wA {T:Addr}{oT:Obj}{ts:Array Value}(hfr:A.frames=some (env::outer))(hl:s.heap.FunFrames base (env::outer))(hf:env.frame=some L)(he:s.heap.get? a=some oe)(hdn:oe.dict=dd)(hd:oe.data=.fields vs)(h1:vs[1]?=some (.ref T))(hx:dd.isSome=true->vs[2]?=some .none)
  (hTa:T≠a) (hT:s.heap.get? T=some oT) (hdT:oT.data=.fields ts) (h3:ts[3]?=some .none)
  (haa:a∈as) (hTT:T∈as) (hfs:∀b∈frs (env::outer),b∈as) (h:∀h',Qz (frs (env::outer)) as s.heap h' a oe.cls dd->Q () { s with heap:=h' }) :
  wpAny M A (noteFrame (.ref a) env) (λ_ s'=>wpAny M A (setFlight (.ref a) none) Q E s') E s:=by
 unfold noteFrame;simp only[hf];refine aa (bM he hd h1 ?_);rw[ak (show(Value.ref T != Value.none)=true from by simp)];refine aa (bM hT hdT h3 ?_);rw[ai (show ¬((Value.none == rawInt L)=true) from by simp[rawInt])];refine aa (cz hT hdT (aX.mp h3).1 ?_);have nT:T∉frs (env::outer):=λz=>by obtain⟨_,o,e,d⟩:=hl.mem z;rw[hT]at e;cases e;exact d ts hdT
 have oth:∀b,b≠T->(s.heap.update T (Obj.mapFields (·.setIfInBounds 3 Value.none))).get? b=s.heap.get? b:=λb hb=>ao _ _ (a9 hb);have selfT:=aO (Obj.mapFields (·.setIfInBounds 3 Value.none)) hT (bG (bg hdT _));refine v8 hfr (hl.of_keeps λb o hb hnf=>⟨o,(oth b (λz=>by rw[z,hT]at hb;cases hb;exact hnf ts hdT)).trans hb,rfl⟩) hf ((oth a (a9 hTa)).trans he) hdn hd (aX.mp h1).1 hx haa hfs λh' q=>h h' ⟨λb o e nb=>?_,λb o z e=>?_,?_⟩
 ·exact q.keep b o ((oth b λz=>nb (z ▸ hTT)).trans e) nb
 ·exact q.slot b o z ((oth b λy=>nT (y ▸ z)).trans e)
 ·obtain⟨oe',vs',T',oT',ts',x1,x2,x3,x4,x5,x6,x7⟩:=q.ex;refine⟨oe',vs',T',oT',ts',x1,x2,x3,x4,x5,?_,x7⟩;rw[<- oth T' (λz=>by rw[z,selfT]at x6;cases x6)];exact x6
end
structure Qg (h0:Heap)(H:Hp)(h:Heap)(a:Addr)(cls:Value)(dd:Option Addr):Prop where
 ex:∃oe vs T oT ts,h.get? a=some oe/\oe.cls=cls/\oe.dict=dd/\oe.data=.fields vs/\vs[1]?=some (.ref T)/\T≠a/\h.get? T=some oT/\oT.data=.fields ts/\ts[3]?=some .none/\H T=none/\h0.get? T=none/\(dd.isSome=true->vs[2]?=some .none)
 un:H a=none
 new:h0.get? a=none
def j9 (P:Program)(w:World):CXT:=λouter H s E e s'=>∃a cls dd H',e=.ref a/\s'.os=s.os/\AllBare s'.gens/\Un (frs outer) [] H H' s.heap s'.heap/\HOk P w H' s'.heap/\Qg s.heap H' s'.heap a cls dd/\E cls dd H'
section
variable {X:Cx}{pins:List (Addr×Obj)}{σ:St}{H1 H':Hp}{s1 s':Shared}{a:Addr}{cls:Value}{dd:Option Addr}{E:XK}
theorem jZ {base h h':Heap}:∀{l:List Env},h.FunFrames base l->(∀b∈frs l,∀o,h.get? b=some o->∃sl,h'.get? b=some { o with slots:=sl })->h'.FunFrames base l
 |[],_,_=>tJ
 |ev::r,hl,k=>by
  obtain⟨hk,⟨L,o,hf,hn,ho,hd⟩,hr⟩:=hl;have e:frs (ev::r)=L::frs r:=by unfold frs;rw[bD,hf]
  obtain⟨sl,q⟩:=k L (by rw[e];exact aj) o ho;exact⟨hk,⟨L,_,hf,hn,q,hd⟩,jZ hr λb hb=>k b (by rw[e];exact ae _ hb)⟩
theorem Inv.yf (I:Inv X pins σ H1 s1)(u:Un (frs X.stack) [] H1 H' s1.heap s'.heap):s'.heap.FunFrames X.base X.stack:=
 jZ I.stack λb hb o e=>u.slot b o e (I.stkFree b hb) hb (by simp)
theorem vA {as:List Addr}{h2:Heap}(I:Inv X pins σ H1 s1)(hst:X.stack=X.env::X.outer)(hfr:X.env.frame=some X.env.locals)(hex:X.ex=[])(ho:s'.os=s1.os)(hb:AllBare s'.gens)
  (u:Un (frs X.stack) [] H1 H' s1.heap s'.heap) (hok:HOk X.prog X.w H' s'.heap) (has:∀b∈as,b∈frs X.stack\/(H' b=none/\X.s₀.heap.get? b=none)) (hfs:∀b∈frs X.stack,b∈as) (haa:a∈as) (hna:H' a=none/\X.s₀.heap.get? a=none)
  (L:Qz (frs X.stack) as s'.heap h2 a cls dd) (hE:E cls dd H'):j9 X.prog X.w X.outer X.H₀ X.s₀ E (.ref a) { s' with heap:=h2 }:=by
 have hfs':frs X.stack=X.env.locals::frs X.outer:=by rw[hst];unfold frs;rw[bD,hfr]
 have noex:∀b:Addr,b∉X.ex:=λb=>by rw[hex];simp
 have FF:=I.yf u;have keep2:=L.keep;have slot2:=L.slot;have below:∀b o,X.s₀.heap.get? b=some o->b≠X.env.locals:=λb o e=>bn (aS (au e) I.ok.above);have out:∀b o,X.s₀.heap.get? b=some o->b∈as->b∈frs X.stack:=λb o e z=>by
  rcases has b z with q|⟨_,q⟩
  ·exact q
  ·rw[e]at q;cases q
 have here:∀b o,X.s₀.heap.get? b=some o->∃o',s1.heap.get? b=some o':=λb o e=>I.base.there b o e (noex b);obtain⟨oe,vs,T,oT,ts,he,hcls,hdi,hd,h1,hnT,hTe,hT,hdT,h3,hx2⟩:=L.ex;have hT0:T∈as\/s'.heap.get? T=none:=.inr hnT;have freeAs:∀b∈as,H' b=none:=λb z=>by
  rcases has b z with q|⟨q,_⟩
  ·obtain⟨_,o,e,_⟩:=I.stack.mem q;exact u.free b o e (I.stkFree b q) (by simp)
  ·exact q
 refine⟨a,cls,dd,H',rfl,ho.trans I.os,hb,⟨λb o e n hbf _=>?_,λb o e n hbf _=>?_,λb o e n _=>?_,λb o e _=>?_,λb xs e=>u.tups b xs (I.base.tups b xs e),λb o v e=>u.frzs b o v (I.base.frzs b o v e),λb ps e=>?_⟩,λb o e=>?_,⟨⟨oe,vs,T,oT,ts,he,hcls,hdi,hd,h1,hTe,hT,hdT,h3,?_,?_,hx2⟩,hna.1,?_⟩,hE⟩
 ·have e1:=I.base.keep b o e n hbf (noex b);have n1:=I.base.free b o e n (noex b);have b1:b∉frs X.stack:=λz=>by rw[hfs']at z;exact(aq.mp z).elim (below b o e) hbf
  exact keep2 b o (u.keep b o e1 n1 b1 (by simp)) λz=>b1 (out b o e z)
 ·obtain⟨sl1,e1⟩:=I.base.slot b o e n hbf (noex b);have n1:=I.base.free b o e n (noex b);have b1:b∈frs X.stack:=by rw[hfs'];exact ae _ hbf
  obtain⟨sl2,e2⟩:=u.slot b _ e1 n1 b1 (by simp);obtain⟨sl3,e3⟩:=slot2 b _ b1 e2;exact⟨sl3,e3⟩
 ·obtain⟨o1,e1⟩:=here b o e;exact u.free b o1 e1 (I.base.free b o e n (noex b)) (by simp)
 ·obtain⟨o1,e1⟩:=here b o e;obtain⟨o2,e2⟩:=u.there b o1 e1 (by simp);by_cases z:b∈as
  ·obtain⟨sl,e3⟩:=slot2 b o2 (out b o e z) e2;exact⟨_,e3⟩
  ·exact⟨o2,keep2 b o2 e2 z⟩
 ·obtain⟨m1,e1⟩:=I.base.tbls b ps e;obtain⟨m2,e2⟩:=u.tbls b _ e1;exact⟨m1++m2,by rw[e2,sy.append_assoc]⟩
 ·refine(hok b o e).stay (λc v hc q=>keep2 c v q λz=>?_) (λ_ q=>q) λ_ _ q=>q;have:=freeAs c z;rcases hc with rfl|hc
  ·rw[this]at e;cases e
  ·rw[this]at hc;cases hc
 ·rcases hT0 with z|z
  ·exact freeAs T z
  ·cases q:H' T with
   |none=>rfl
   |some v=>obtain⟨ob,e⟩:=(hok T v q).get;rw[z]at e;cases e
 ·cases q:X.s₀.heap.get? T with
  |none=>rfl
  |some o=>
   obtain⟨o1,e1⟩:=here T o q;obtain⟨o2,e2⟩:=u.there T o1 e1 (by simp);rcases hT0 with z|z
   ·obtain⟨sl,e3⟩:=slot2 T o2 (out T o q z) e2;obtain⟨_,o4,e4,d4⟩:=FF.mem (out T o q z);rw[e2]at e4;cases e4;rw[hT]at e3;cases e3;exact absurd hdT (d4 ts)
   ·rw[z]at e2;cases e2
 ·exact hna.2
theorem qN {as:List Addr}{h2:Heap}(I:Inv X pins σ H1 s1)(hst:X.stack=X.env::X.outer)(hfr:X.env.frame=some X.env.locals)(hex:X.ex=[])(ho:s'.os=s1.os)(hb:AllBare s'.gens)
  (u:Un (frs X.stack) [] H1 H' s1.heap s'.heap) (hok:HOk X.prog X.w H' s'.heap) (has:∀b∈as,b∈frs X.stack\/(H' b=none/\s1.heap.get? b=none)) (hfs:∀b∈frs X.stack,b∈as) (haa:a∈as) (hna:H' a=none/\s1.heap.get? a=none)
  (L:Qz (frs X.stack) as s'.heap h2 a cls dd) (hE:E cls dd H'):j9 X.prog X.w X.outer X.H₀ X.s₀ E (.ref a) { s' with heap:=h2 }:=by
 have old:∀b,s1.heap.get? b=none->X.s₀.heap.get? b=none:=λb z=>by
  cases q:X.s₀.heap.get? b with
  |none=>rfl
  |some o=>obtain⟨o1,e1⟩:=I.base.there b o q (by rw[hex];simp);rw[z]at e1;cases e1
 exact vA I hst hfr hex ho hb u hok (λb z=>(has b z).imp id λq=>⟨q.1,old b q.2⟩) hfs haa ⟨hna.1,old a hna.2⟩ L hE
theorem leave_new {oe:Obj}{vs:Array Value}{Q:Unit->Shared->Prop}(I:Inv X pins σ H1 s1)(hst:X.stack=X.env::X.outer)(hfr:X.env.frame=some X.env.locals)(hex:X.ex=[])(ho:s'.os=s1.os)(hb:AllBare s'.gens)
  (u:Un (frs X.stack) [] H1 H' s1.heap s'.heap) (hok:HOk X.prog X.w H' s'.heap) (hna:H' a=none/\s1.heap.get? a=none) (he:s'.heap.get? a=some oe) (hc:oe.cls=cls) (hdi:oe.dict=dd) (hd:oe.data=.fields vs) (h1:vs[1]?=some .none) (hx:dd.isSome=true->vs[2]?=some .none) (hE:E cls dd H')
  (hQ:∀s2,j9 X.prog X.w X.outer X.H₀ X.s₀ E (.ref a) s2->Q () s2) {M:Model} {E':Value->Shared->Prop}:wpAny M X.A (leaving X.env (.ref a)) Q E' s':=by
 subst hc;have hA:X.A.frames=some (X.env::X.outer):=by rw[<- hst];exact I.ok.frames
 have FF:=I.yf u;refine aa (BR (as:=a::frs X.stack) hA (by rw[<- hst];exact FF) hfr he hdi hd h1 hx aj (λb z=>ae _ (by rw[hst];exact z)) λh2 L=>hQ _ ?_);rw[<- hst]at L;exact qN I hst hfr hex ho hb u hok (λb z=>(aq.mp z).elim (λq=>.inr (by rw[q];exact hna)) .inl) (λb z=>ae _ z) aj hna L hE
theorem Hb {Q:Unit->Shared->Prop}(I:Inv X pins σ H1 s1)(hst:X.stack=X.env::X.outer)(hfr:X.env.frame=some X.env.locals)(hex:X.ex=[])(ho:s'.os=s1.os)(hb:AllBare s'.gens)
  (u:Un (frs X.stack) [] H1 H' s1.heap s'.heap) (hok:HOk X.prog X.w H' s'.heap) (F:Qg s1.heap H' s'.heap a cls dd) (hE:E cls dd H')
  (hQ:∀s2,j9 X.prog X.w X.outer X.H₀ X.s₀ E (.ref a) s2->Q () s2) {M:Model} {E':Value->Shared->Prop}:wpAny M X.A (leaving X.env (.ref a)) Q E' s':=by
 obtain⟨oe,vs,T,oT,ts,he,hcls,hdi,hd,h1,hTe,hT,hdT,h3,hHT,hsT,hx⟩:=F.ex;subst hcls;have hA:X.A.frames=some (X.env::X.outer):=by rw[<- hst];exact I.ok.frames
 have FF:=I.yf u;refine aa (wA (as:=a::T::frs X.stack) hA (by rw[<- hst];exact FF) hfr he hdi hd h1 hx hTe hT hdT h3 aj (ae _ aj) (λb z=>ae _ (ae _ (by rw[hst];exact z))) λh2 L=>hQ _ ?_);rw[<- hst]at L;refine qN I hst hfr hex ho hb u hok (λb z=>?_) (λb z=>ae _ (ae _ z)) aj ⟨F.un,F.new⟩ L hE;rcases aq.mp z with q|z
 ·exact .inr (by rw[q];exact⟨F.un,F.new⟩)
 ·rcases aq.mp z with q|z
  ·exact .inr (by rw[q];exact⟨hHT,hsT⟩)
  ·exact .inl z
end
theorem jF {P:Program}{w:World}{K:Fg}{mg:Mg}{base:Heap}{N:Ls}{qual:Str}{scope:Scope}{f:Addr}{cd:Value}{A:Around}{outer:List Env}{s:Shared}{H:Hp}{E:XK} :
  Passes (j9 P w) (cxOf (j9 P w) P w K mg base N qual scope f cd A outer s H E) E:=λpins σ H1 s1 e s' I h=>by
 obtain⟨a,cls,dd,H',rfl,ho,hb,u,hok,F,hE⟩:=h;exact Hb I rfl rfl rfl ho hb u hok F hE (M:=model P w) (E':=λe' s2=>j9 P w outer H s E e' s2) λs2 q=>q
abbrev Qf:List Value:=[.type "ValueError",.type "Exception",.type "BaseException",.type "object"]
abbrev xm (K:Fg)(C:Addr):Prop:=W.excIn K C Qf "ValueError.__new__"=true
theorem xm.facts {K:Fg}{h:Heap}{C:Addr}(X:K.In h)(q:xm K C):∃nm qn N bs bm hd sn sub ab col dd k0 k1 k2 k3 k5 mN,
  h.get? C=some (excClassObj nm qn C N bs bm hd sn sub ab col dd k0 k1 k2 k3 k5 "ValueError.__new__")/\h.Ns N mN/\mN "__init__"=none/\OwnTail h Qf bm:=by
 unfold xm W.excIn at q;split at q
 ·rename_i dd' cd' sl' hlk;split at q
  ·rename_i C2 bm2 j0 j1 j2 j3 n2 j5 em es;simp only[bA,fP,Bool.not_eq_true']at q;obtain⟨⟨⟨⟨⟨e1,e2⟩,e3⟩,e4⟩,e5⟩,e6⟩:=q;subst e1 e2;obtain⟨nm,bs,mr,ns,qn,hd,sn,sub,ab,col,del⟩:=cd';dsimp only at em e3 e5 e6;subst em e3;have e7:sl' = #[j0,j1,j2,j3,some (.builtin "ValueError.__new__"),j5]:=by obtain⟨l⟩:=sl';simp only at es;rw[es]
   subst e7;exact⟨nm,qn,ns,bs,bm2,hd,sn,sub,ab,col,dd',j0,j1,j2,j3,j5,_,X _ _ hlk,.of_isNs (W.isNs_of_in X e5),W.nsMap_none_of_in X e5 e6,dZ X e4⟩
  ·cases q
 ·cases q
def G6 (X:Cx)(E:XK):Prop:=∀(pins:List (Addr×Obj)) (σ:St) (H:Hp) (s:Shared) (a:Addr) (cls:Value) (vs:List Value) (h':Heap),Inv X pins σ H s->Heap.MadeExcOf s.heap h' a cls vs->E cls none H->X.xe (.ref a) { s with heap:=h' }
theorem Inv.untracked (I:Inv X pins σ H s)(h:s.heap.get? a=none):H a=none:=by
 cases q:H a with
 |none=>rfl
 |some o=>obtain⟨ob,e⟩:=(I.hok a o q).get;rw[h]at e;cases e
theorem Ph {P:Program}{w:World}{K:Fg}{mg:Mg}{base:Heap}{N:Ls}{qual:Str}{scope:Scope}{f:Addr}{cd:Value}{A:Around}{outer:List Env}{s:Shared}{H:Hp}{E:XK} :
  G6 (cxOf (j9 P w) P w K mg base N qual scope f cd A outer s H E) E:=λpins σ H1 s1 a cls vs h' I hm hE=>by
 obtain⟨t,e,_⟩:=hm.there;exact leave_new (s':={ s1 with heap:=h' }) I rfl rfl rfl rfl I.bare (Un.kept hm.keeps) (I.hok.kept hm.keeps) ⟨I.untracked hm.new,hm.new⟩ e rfl rfl rfl rfl (λz=>by cases z) hE (M:=model P w) (E':=λe' s2=>j9 P w outer H s E e' s2) λs2 q=>q
def Px (C:Addr)(E:XK)(t:TA):TS:=λ_ σ H=>t σ H λ_ H1=>E (.ref C) none H1
theorem IW {X:Cx}{E:XK}{x:Str}{np cpos pos:Pos}{e:Expr}{es:List Expr}{C:Addr}{t:TA}(hn:G6 X E)(hc:X.calm=true)(q:xm X.K C)(hg:Gl X x)(hm:X.mg x=some (.ref C))(ha:PA X (e::es) t)(hz:(e::es).length<=1000:=by decide)
  (hdb:(x == ("__debug__":Str))=false:=by decide) (he:starEach (e::es) X.env=(false,eval e X.env)::starEach es X.env:=by rfl) (hpl:(backTo cpos (starEach (e::es) X.env)).any (·.1)=false:=by rfl)
  (hl:∀σ H Q,t σ H Q->t σ H λvs H1=>vs.length=(e::es).length/\Q vs H1):PS X (.Raise (some (.Call (.Name x np) (e::es) [] cpos)) none pos) (Px C E t):=by
 intro pins s σ H D I h;obtain⟨nm,qn,N,bs,bm,hd,sn,sub,ab,col,dd,k0,k1,k2,k3,k5,mN,hC,hns,hni,tl⟩:=q.facts I.ok.mod.kin;have hbase:bm.contains (.type "BaseException")=true:=tl.hasType (by decide +kernel);refine wpAny_Raise_call_subU (nm:=nm) (q:=qn) (C:=C) (N:=N) (bs:=bs) (bm:=bm) (hdct:=hd) (sn:=sn) (sub:=sub) (ab:=ab) (col:=col) (dd:=dd) (k0:=k0) (k1:=k1) (k2:=k2) (k3:=k3) (k5:=k5) (mN:=mN)
  bi (by decide +kernel) bi hbase (I.ok.hd hc) hpl hni (ld_glob I hg hm ⟨rfl,?_⟩ hdb)
 have ev:wpAny (model X.prog X.w) X.A (spliced (backTo cpos (starEach (e::es) X.env))) (AP X pins σ λvs H1=>vs.length=(e::es).length/\E (.ref C) none H1) X.xe s:=ha cpos pins s σ H _ I (hl σ H _ h);rw[he]at ev ⊢;refine c8 (thn ev λus s1 ⟨vs,H1,I1,r,l1,q1⟩=>⟨rfl,?_,?_⟩)
 ·rw[<- r.length,l1];exact b0 (small1000 hz)
 ·exact⟨I1.bk _ _ hC,hns.keeps I1.bk,tl.keeps I1.bk,λh' a hm'=>hn pins σ H1 s1 a (.ref C) _ h' I1 hm' q1⟩
structure DP (K:Fg)(C:Addr)(m:Str)(f:Addr):Prop where
 ga:W.specialIn K (.ref C) "__getattribute__"=some (some (.builtin "type.__getattribute__"))
 rd:W.readsIn K C (.type "type")=true
 fc:W.findCls K (.ref C) (.type "type") m=some (.val (.ref f))
 kp:W.keepIn K (.ref f)=true
section
variable {X:Cx}{CX:CXT}{k:Nat}{f C:Addr}{fd:FuncData}{ps:List Str}{sp:Sp}{dvs:List V}{ds:List Value}{E:XK}{x m:Str}{p pos apos:Pos}{e o:Expr}{es:List Expr}{ta:TE}{t:TA}
theorem JS (hg:Gl X x)(hm:X.mg x=some (.ref C))(c:DP X.K C m f)(F:FnOk X.prog X.w X.K X.mg X.base CX k f fd ps sp)(hr:Room k X.A)(hb:Binds X.K fd ps ds)(hd:Vals dvs ds)(hx:Passes CX X E)(ha:PA X (e::es) t)
  (hdb:(x == ("__debug__":Str))=false:=by decide) (hst:starEach (e::es) X.env=(false,eval e X.env)::starEach es X.env:=by rfl) (hpl:(backTo pos (starEach es X.env)).any (·.1)=false:=by rfl)
  (ht:eval (.Call (.Attribute (.Name x p) m apos) (e::es) [] pos) X.env=(do
   let ov <- eval (.Name x p) X.env
   standAt apos.atName
   let (f,first) <- holding [ov] (getMethod ov m pl)
   callWith pos f first (backTo pos (starEach (e::es) X.env)) (backToKw pos (keywordEach [] X.env))):=by rfl):PE X (.Call (.Attribute (.Name x p) m apos) (e::es) [] pos) (tCall sp dvs E t):=by
 intro pins s σ H Q I h;refine cQ (pl:=pl) (ld_glob I hg hm ?_ hdb) ht;refine W.method_cls I.kIn c.ga (W.cls_value I.kIn c.rd c.fc rfl ?_);have I':=I.tok (s.toks+1);refine b9 (first:=[]) (h₀:=X.base) I.ok.mod.kin c.kp (thn (ha pos pins _ σ H _ I' h) λus s1 ⟨vs,H1,I1,r,q⟩=>⟨I1.kIn,?_⟩) hst hpl
 exact run_fn F hr hb hd hx I1 r q
end
structure Iw (P:Program)(w:World)(K:Fg)(mg:Mg)(base:Heap)(CX:CXT)(k:Nat)(C:Addr)(m:Str)(ps:List Str)(sp:Sp):Prop where
 ex:∃f fd,FnOk P w K mg base CX k f fd ps sp/\Binds K fd ps []/\Meth K C m f/\Cls K C
def Tp (KA:Hp->Addr->Int->Prop)(a:Addr)(z:Int)(n:Nat)(pre:Int->List Int->Prop)(F:Int->List Int->Int):Sp:=λvs H Q _=>∃ns:List Int,ns.length=n/\vs=.ref a::ns.map V.int/\KA H a z/\pre z ns/\Q (.int (F z ns)) H
structure KM (P:Program)(w:World)(K:Fg)(mg:Mg)(base:Heap)(k:Nat)(KA:Hp->Addr->Int->Prop)(m:Str)(n:Nat)(pre:Int->List Int->Prop)(F:Int->List Int->Int):Prop where
 ex:∀H a z,KA H a z->∃C dx fs ps,H a=some (.ins C dx fs)/\fs.lookup m=none/\Iw P w K mg base CX0 k C m ps (Tp KA a z n pre F)
structure Tu (P:Program)(w:World)(K:Fg)(mg:Mg)(base:Heap)(CX:CXT)(k:Nat)(x:Str)(C:Addr)(m:Str)(ps:List Str)(sp:Sp):Prop where
 ex:∃f fd,FnOk P w K mg base CX k f fd ps sp/\Binds K fd ps []/\DP K C m f/\mg x=some (.ref C)
structure QB (P:Program)(w:World)(K:Fg)(mg:Mg)(base:Heap)(CX:CXT)(k:Nat)(x:Str)(C:Addr)(ps:List Str)(sp:Sp):Prop where
 ex:∃f fd,FnOk P w K mg base CX k f fd ps sp/\Binds K fd ps []/\Mk K C f/\mg x=some (.ref C)
section
variable {X:Cx}{CX:CXT}{j k:Nat}{C:Addr}{ps:List Str}{sp:Sp}{E:XK}{x m:Str}{p pos apos:Pos}{e:Expr}{es:List Expr}{t:TA}
theorem Mj (o:Tu X.prog X.w X.K X.mg X.base CX j x C m ps sp)(hr:Room k X.A)(hx:Passes CX X E)(ha:PA X (e::es) t)(hj:j<=k:=by decide)(hg:Gl X x:=by rfl)
  (hdb:(x == ("__debug__":Str))=false:=by decide) (hst:starEach (e::es) X.env=(false,eval e X.env)::starEach es X.env:=by rfl) (hpl:(backTo pos (starEach es X.env)).any (·.1)=false:=by rfl)
  (ht:eval (.Call (.Attribute (.Name x p) m apos) (e::es) [] pos) X.env=(do
   let ov <- eval (.Name x p) X.env
   standAt apos.atName
   let (f,first) <- holding [ov] (getMethod ov m pl)
   callWith pos f first (backTo pos (starEach (e::es) X.env)) (backToKw pos (keywordEach [] X.env))):=by rfl):PE X (.Call (.Attribute (.Name x p) m apos) (e::es) [] pos) (tCall sp [] E t):=by
 obtain⟨f,fd,F,b,c,mm⟩:=o.ex;exact JS hg mm c (F.mono hj) hr b .nil hx ha hdb hst hpl ht
theorem Ip (o:QB X.prog X.w X.K X.mg X.base CX j x C ps sp)(hr:Room k X.A)(hx:Passes CX X E)(ha:PA X (e::es) t)(hj:j+1<=k:=by decide)(hg:Gl X x:=by rfl)(hdb:(x == ("__debug__":Str))=false:=by decide)
  (he:starEach (e::es) X.env=(false,eval e X.env)::starEach es X.env:=by rfl) (hpl:(backTo pos (starEach es X.env)).any (·.1)=false:=by rfl):PE X (.Call (.Name x p) (e::es) [] pos) (tMake C sp [] E t):=by
 obtain⟨f,fd,F,b,c,mm⟩:=o.ex;exact pe_make c F (hr.mono hj) hg mm b .nil hx ha hdb he hpl
theorem wI (o:QB X.prog X.w X.K X.mg X.base CX j x C ps sp)(hr:Room k X.A)(hx:Passes CX X E)(hj:j+1<=k:=by decide)(hg:Gl X x:=by rfl)(hdb:(x == ("__debug__":Str))=false:=by decide):PE X (.Call (.Name x p) [] [] pos) (tMake C sp [] E tNil):=by obtain⟨f,fd,F,b,c,mm⟩:=o.ex;exact pe_make0 c F (hr.mono hj) hg mm b .nil hx hdb
end
def spS (K:Fg)(n:Nat)(pre:List Int->List Int->Prop)(F:List Int->List Int->Int):Sp:=λvs H Q _=>∃(a:Addr) (xs is:List Int),is.length=n/\vs=.ref a::is.map V.int/\SqL K H a (xs.map V.int)/\pre xs is/\Q (.int (F xs is)) H
def xF:List Str:=["plain","plus","less","times","over"]
def Ub (cW cR cP:Addr)(H:Hp)(a:Addr)(z:Int):Prop:=∃C dx fs,H a=some (.ins C dx fs)/\((C=cW/\z=0)\/((C=cR\/C=cP)/\0<z))/\fs.lookup ("size":Str)=some (.int z)/\∀m∈xF,fs.lookup m=none
def pl (z n:Int):Int:=if z=0 then n else n % z
theorem JT (n:Int):pl 0 n=n:=rfl
section
variable {X:Cx}{pins:List (Addr×Obj)}{σ:St}{H:Hp}{s:Shared}{h':Heap}
theorem Inv.El {ch:List Addr}{t':Nat}(I:Inv X pins σ H s)(hf:∀b∈ch,FpOk X pins H b)(k:∀b o,b∉ch->s.heap.get? b=some o->h'.get? b=some o):Inv X pins σ H { s with heap:=h',toks:=t' }:=by
 have nit:∀b u,H b=some u->b∉ch:=λb u e z=>by rw[(hf b z).1]at e;cases e
 refine I.step (g':=s.gens) (d':=s.drawn) (ch:=ch) (λb hb=>⟨(hf b hb).2.2.2.1,(hf b hb).2.1,(hf b hb).2.2.2.2.1,(hf b hb).2.2.2.2.2⟩) (λb o _ _ hc e _=>k b o hc e) (λb o _ _ hc e _=>⟨o.slots,k b o hc e⟩) (λ_ _ _ _ n=>n)
  (λb o hc e=>⟨o,k b o hc e⟩) (λ_ _ e=>e) (λ_ _ _ e=>e) (λb ps e=>⟨#[],by rw[e];simp⟩) (λm hm=>?_) (λb u e=>?_) I.bare
 ·obtain⟨o,es,ep,ho,r⟩:=hm;exact⟨o,es,ep,k _ o (λz=>(hf _ z).2.1 rfl) ho,r⟩
 ·refine(I.hok b u e).stay (λc v hc q=>k c v ?_ q) (λ_ q=>q) λ_ _ q=>q;rcases hc with z|z
  ·rw[z];exact nit b u e
  ·exact nit c _ z
end
theorem zW:bootBuiltins "reversed"=some (.type "reversed"):=by decide +kernel
theorem int_at {ns:Li}{i:Nat}{x:V}(h:(ns.map V.int)[i]?=some x):∃n,x=.int n/\ns[i]?=some n:=by
 rw[aT]at h;cases e:ns[i]? with
 |none=>rw[e]at h;cases h
 |some n=>rw[e]at h;exact⟨n,(aI h).symm,rfl⟩
theorem xO {α:Type}{ns:List α}{i:Nat}{n:α}(h:ns[i]?=some n):ns.take (i+1)=ns.take i++[n]:=by rw[List.take_add_one,h];rfl
abbrev rA:TT:=λ_ H Q=>Q true H
end L2
namespace FM
open L2
def Uz (n:Int):Prop:=2<=n/\n<=9973/\∀d:Int,2<=d->d*d<=n->¬n % d=0
open Classical in
def TF (n d:Int):Prop:=∀e:Int,2<=e->e<d->¬n % e=0
def f9 (xs:List Int):List Int:=(xs.reverse.dropWhile (· == 0)).reverse
theorem mO (xs:Li):f9 (xs++[0])=f9 xs:=by unfold f9;rw[dM];simp
theorem u5 (xs:Li)(h:x≠0):f9 (xs++[x])=xs++[x]:=by unfold f9;rw[dM];simp[h]
theorem lQ (xs:Li):(f9 xs).length<=xs.length:=by unfold f9;have:=(List.dropWhile_sublist (· == 0) (l:=xs.reverse)).length_le;simpa using this
def ev:List Int->Int->Int
 |[],_=>0
 |n::r,x=>n+x*ev r x
end FM
namespace L3
open PySem PySem.Spec PyProof.Rows L2
inductive PV where
 |int (n:Int)|bl (b:Bool)|non|str (s:Str)|ints (ns:List Int)|scr (ns:List Int)|lst (xs:List PV)|tup (xs:List PV)|ob (k:Nat) (z:Int)|ty (n:String)|cls (a:Addr)
structure Gx where
 ob:Nat->Hp->Addr->Int->Prop
 mono:∀k H H' a z,Same H H' -> ob k H a z->ob k H' a z
mutual
def At (K:Fg)(G:Gx)(H:Hp):PV->V->Prop
 | .int n,v=>v=.int n
 | .bl b,v=>v=.bl b
 | .non,v=>v=.non
 | .str s,v=>v=.str s
 | .ints ns,v=>∃a,v=.ref a/\Rd H a (.lst (ns.map V.int))
 | .scr ns,v=>∃a,v=.ref a/\SqL K H a (ns.map V.int)
 | .lst xs,v=>∃a vs,v=.ref a/\Rd H a (.lst vs)/\jn K G H xs vs
 | .tup xs,v=>∃a vs,v=.ref a/\H a=some (.tup vs)/\jn K G H xs vs
 | .ob k z,v=>∃a,v=.ref a/\G.ob k H a z
 | .ty n,v=>v=.ty n
 | .cls a,v=>v=.ref a
def jn (K:Fg)(G:Gx)(H:Hp):List PV->List V->Prop
 |[],vs=>vs=[]
 |p::ps,vs=>∃v r,vs=v::r/\At K G H p v/\jn K G H ps r
end
theorem iG (e:Same H H')(h:Rd H a (.lst xs)):Rd H' a (.lst xs):=by
 rcases h with h|⟨o,h⟩
 ·exact .inl (e _ _ h)
 ·exact .inr ⟨o,e _ _ h⟩
theorem Hr {K:Fg}{H H':Hp}{a:Addr}{xs:List V}(e:Same H H')(h:SqT K H a xs):SqT K H' a xs:=by
 rcases h with (h|⟨o,h⟩)|h
 ·exact .inl (.inl (e _ _ h))
 ·exact .inl (.inr ⟨o,e _ _ h⟩)
 ·exact .inr h
mutual
theorem At.mono {K:Fg}{G:Gx}{H H':Hp}(s:Same H H'):∀(p:PV) (v:V),At K G H p v->At K G H' p v
 | .int _,_,h=>h
 | .bl _,_,h=>h
 | .non,_,h=>h
 | .str _,_,h=>h
 | .ints _,_,h=>by obtain⟨a,e,q⟩:=h;exact⟨a,e,iG s q⟩
 | .scr _,_,h=>by obtain⟨a,e,q⟩:=h;exact⟨a,e,s.seq q⟩
 | .lst xs,_,h=>by obtain⟨a,vs,e,q,r⟩:=h;exact⟨a,vs,e,iG s q,jn.mono s xs vs r⟩
 | .tup xs,_,h=>by obtain⟨a,vs,e,q,r⟩:=h;exact⟨a,vs,e,s _ _ q,jn.mono s xs vs r⟩
 | .ob _ _,_,h=>by obtain⟨a,e,q⟩:=h;exact⟨a,e,G.mono _ _ _ _ _ s q⟩
 | .ty _,_,h=>h
 | .cls _,_,h=>h
theorem jn.mono {K:Fg}{G:Gx}{H H':Hp}(s:Same H H'):∀(ps:List PV) (vs:List V),jn K G H ps vs->jn K G H' ps vs
 |[],_,h=>h
 |p::ps,_,h=>by obtain⟨v,r,e,q,t⟩:=h;exact⟨v,r,e,At.mono s p v q,jn.mono s ps r t⟩
end
theorem jn.length {K:Fg}{G:Gx}{H:Hp}:∀{ps:List PV} {vs:List V},jn K G H ps vs->ps.length=vs.length
 |[],_,h=>by cases h;rfl
 |p::ps,_,h=>by obtain⟨v,r,rfl,_,t⟩:=h;rw[aR,aR,jn.length t]
theorem jn.get {K:Fg}{G:Gx}{H:Hp}:∀{ps:List PV} {vs:List V} {i:Nat} {v:V},jn K G H ps vs->vs[i]?=some v->∃p,ps[i]?=some p/\At K G H p v
 |[],_,i,v,h,e=>by cases h;simp at e
 |p::ps,_,0,v,h,e=>by obtain⟨w,r,rfl,q,t⟩:=h;simp at e;subst e;exact⟨p,rfl,q⟩
 |p::ps,_,i+1,v,h,e=>by obtain⟨w,r,rfl,q,t⟩:=h;obtain⟨p',e',q'⟩:=jn.get (i:=i) (v:=v) t (by simpa using e);exact⟨p',by simpa using e',q'⟩
theorem jn.at {K:Fg}{G:Gx}{H:Hp}:∀{ps:List PV} {vs:List V} {i:Nat} {p:PV},jn K G H ps vs->ps[i]?=some p->∃v,vs[i]?=some v/\At K G H p v
 |[],_,i,v,h,e=>by simp at e
 |p::ps,_,0,v,h,e=>by obtain⟨w,r,rfl,q,t⟩:=h;simp at e;subst e;exact⟨w,rfl,q⟩
 |p::ps,_,i+1,v,h,e=>by obtain⟨w,r,rfl,q,t⟩:=h;obtain⟨v',e',q'⟩:=jn.at (i:=i) (p:=v) t (by simpa using e);exact⟨v',by simpa using e',q'⟩
theorem jn.snoc {K:Fg}{G:Gx}{H:Hp}{p:PV}{v:V}:∀{ps:List PV} {vs:List V},jn K G H ps vs->At K G H p v->jn K G H (ps++[p]) (vs++[v])
 |[],_,h,q=>by cases h;exact⟨v,[],rfl,q,rfl⟩
 |p'::ps,_,h,q=>by obtain⟨w,r,rfl,q',t⟩:=h;exact⟨w,_,rfl,q',jn.snoc t q⟩
def mn (H:Hp)(O:Addr->Bool):Hp:=λb=>if O b=true then none else H b
theorem qI (h:mn H O b=some o):O b=false/\H b=some o:=by
 unfold mn at h;by_cases c:O b=true
 ·rw[ak c]at h;cases h
 ·rw[ai c]at h;exact⟨by simpa using c,h⟩
theorem ju (h:O b=false):mn H O b=H b:=by unfold mn;rw[ai (by rw[h];decide)]
theorem iU:Same (mn H O) H:=mV λ_ _ h=>(qI h).2
theorem jD (s:Same H H'):Same (mn H O) (mn H' O):=λb o h=>by obtain⟨c,e⟩:=qI h;rw[ju c];exact s b o e
theorem mH (k:∀a,O a=true->O' a=true):Same (mn H O') (mn H O):=mV λb o h=>by
 obtain⟨c,e⟩:=qI h;have:O b=false:=by
  cases z:O b with
  |false=>rfl
  |true=>rw[k b z]at c;cases c
 rw[ju this];exact e
def hide (a:Addr)(O:Addr->Bool):Addr->Bool:=λb=>b == a || O b
theorem hide_ne (h:b≠a):hide a O b=O b:=by unfold hide;simp[h]
theorem hide_self:hide a O a=true:=by unfold hide;simp
theorem lG:∀b,O b=true->hide a O b=true:=λb h=>by unfold hide;simp[h]
theorem mF (s:Same H H')(ha:H a=none):Same (mn H O) (mn H' (hide a O)):=λb o h=>by obtain⟨c,e⟩:=qI h;rw[ju (by rw[hide_ne (ne_of_none e ha)];exact c)];exact s b o e
theorem Bo (h:O a=true):mn (upd H a o) O=mn H O:=by
 funext b;unfold mn;by_cases c:O b=true
 ·rw[ak c,ak c]
 ·rw[ai c,ai c,upd_ne (λz=>c (by rw[z];exact h))]
inductive Sl where
 |un|fr (p:PV)|ow (p:PV)|o2 (xs ys:List Int)
abbrev En:=List Sl
structure Bs where
 H0:Hp
 Oc:Addr->Bool
def wC (K:Fg)(G:Gx)(H:Hp):PV->List V->Prop
 | .ints ns,vs=>vs=ns.map V.int
 | .lst xs,vs=>jn K G H xs vs
 |_,_=>False
theorem wC.mono {K:Fg}{G:Gx}{H H':Hp}(s:Same H H'){p:PV}{vs:List V}(h:wC K G H p vs):wC K G H' p vs:=by cases p<;>first|exact h|exact jn.mono s _ _ h
structure SX (B:Bs)(σ:L2.St)(H:Hp)(ρ:En)(O:Addr->Bool)(i:Nat)(xs ys:List Int)(D a b:Addr):Prop where
 at_:σ[i]?=some (some (.ref D))
 oD:O D=true
 oa:O a=true
 ob:O b=true
 nD:B.H0 D=none
 na:B.H0 a=none
 nb:B.H0 b=none
 hD:H D=some (.lst [.ref a,.ref b])
 ha:H a=some (.lst (xs.map V.int))
 hb:H b=some (.lst (ys.map V.int))
 ab:a≠b
 un:∀(j:Nat) q c,ρ[j]?=some (.ow q)->σ[j]?=some (some (.ref c))->c≠D/\c≠a/\c≠b
 one:∀(j:Nat) xs' ys',ρ[j]?=some (.o2 xs' ys')->j=i
structure Rep (K:Fg)(G:Gx)(B:Bs)(σ:L2.St)(H:Hp)(ρ:En)(O:Addr->Bool):Prop where
 same:Same B.H0 H
 cd:∀a,B.Oc a=true->B.H0 a≠none
 hid:∀a,B.Oc a=true->O a=true
 dom:∀a,O a=true->H a≠none
 vis:∀a,O a=true->B.Oc a=true\/B.H0 a=none
 fr:∀(i:Nat) p,ρ[i]?=some (.fr p)->∃v,σ[i]?=some (some v)/\At K G (mn H O) p v
 ow:∀(i:Nat) p,ρ[i]?=some (.ow p)->∃a vs,σ[i]?=some (some (.ref a))/\O a=true/\B.H0 a=none/\H a=some (.lst vs)/\wC K G (mn H O) p vs
 inj:∀(i j:Nat) p q a,ρ[i]?=some (.ow p)->ρ[j]?=some (.ow q)->σ[i]?=some (some (.ref a))->σ[j]?=some (some (.ref a))->i=j
 len:σ.length=ρ.length
 o2:∀(i:Nat) xs ys,ρ[i]?=some (.o2 xs ys)->∃D a b,SX B σ H ρ O i xs ys D a b
section
variable {K:Fg}{G:Gx}{B:Bs}{σ:L2.St}{H H':Hp}{ρ:En}{O:Addr->Bool}{i:Nat}
theorem Rep.grow (R:Rep K G B σ H ρ O)(s:Same H H'):Rep K G B σ H' ρ O:=by
 refine⟨R.same.trans s,R.cd,R.hid,λa h z=>R.dom a h (s.free z),R.vis,λi p e=>?_,λi p e=>?_,R.inj,R.len,λi xs ys e=>let ⟨D,a,b,q⟩:=R.o2 i xs ys e;⟨D,a,b,q.at_,q.oD,q.oa,q.ob,q.nD,q.na,q.nb,s _ _ q.hD,s _ _ q.ha,s _ _ q.hb,q.ab,q.un,q.one⟩⟩
 ·obtain⟨v,e1,e2⟩:=R.fr i p e;exact⟨v,e1,At.mono (jD s) _ _ e2⟩
 ·obtain⟨a,vs,e1,e2,e3,e4,e5⟩:=R.ow i p e;exact⟨a,vs,e1,e2,e3,s _ _ e4,e5.mono (jD s)⟩
theorem gK {α:Type}{l:List α}{i j:Nat}{x y:α}(h:(l.set i x)[j]?=some y):(i=j/\y=x/\i<l.length)\/(i≠j/\l[j]?=some y):=by
 rw[cZ]at h;by_cases c:i=j
 ·rw[ak c]at h;by_cases c2:i<l.length
  ·rw[ak c2]at h;exact .inl ⟨c,(aI h).symm,c2⟩
  ·rw[ai c2]at h;cases h
 ·rw[ai c]at h;exact .inr ⟨c,h⟩
theorem jC {α:Type}{l:List α}{i j:Nat}{x:α}(h:i≠j):(l.set i x)[j]?=l[j]?:=by rw[cZ,ai h]
theorem uc {α:Type}{l:List α}{i:Nat}{x:α}(h:i<l.length):(l.set i x)[i]?=some x:=by rw[cZ,ak rfl,ak h]
theorem Rep.set (R:Rep K G B σ H ρ O){p:PV}{v:V}(h:At K G (mn H O) p v):Rep K G B (σ.set i (some v)) H (ρ.set i (.fr p)) O:=by
 refine⟨R.same,R.cd,R.hid,R.dom,R.vis,λj q e=>?_,λj q e=>?_,λj k q r a e1 e2 e3 e4=>?_,by rw[bY,bY];exact R.len,λj xs ys e=>?_⟩
 ·rcases gK e with⟨rfl,e,l⟩|⟨n,e⟩
  ·cases e;exact⟨v,uc (by rw[R.len];exact l),h⟩
  ·rw[jC n];exact R.fr j q e
 ·rcases gK e with⟨rfl,e,l⟩|⟨n,e⟩
  ·cases e
  ·rw[jC n];exact R.ow j q e
 ·rcases gK e1 with⟨rfl,e,l⟩|⟨n,e⟩
  ·cases e
  ·rcases gK e2 with⟨rfl,e',l'⟩|⟨n',e'⟩
   ·cases e'
   ·rw[jC n]at e3;rw[jC n']at e4;exact R.inj j k q r a e e' e3 e4
 ·rcases gK e with⟨rfl,e,l⟩|⟨n,e⟩
  ·cases e
  ·obtain⟨D,a,b,q⟩:=R.o2 j xs ys e;refine⟨D,a,b,by rw[jC n];exact q.at_,q.oD,q.oa,q.ob,q.nD,q.na,q.nb,q.hD,q.ha,q.hb,q.ab,λk r c e1 e2=>?_,λk xs' ys' e1=>?_⟩
   ·rcases gK e1 with⟨_,e',_⟩|⟨n',e'⟩
    ·cases e'
    ·rw[jC n']at e2;exact q.un k r c e' e2
   ·rcases gK e1 with⟨_,e',_⟩|⟨n',e'⟩
    ·cases e'
    ·exact q.one k xs' ys' e'
theorem Rep.new (R:Rep K G B σ H ρ O){p:PV}{a:Addr}{vs:List V}(s:Same H H')(ha:H a=none)(he:H' a=some (.lst vs))(h:wC K G (mn H' (hide a O)) p vs):Rep K G B (σ.set i (some (.ref a))) H' (ρ.set i (.ow p)) (hide a O):=by
 refine⟨R.same.trans s,R.cd,λb z=>lG b (R.hid b z),λb z y=>?_,λb z=>?_,λj q e=>?_,λj q e=>?_,λj k q r b e1 e2 e3 e4=>?_,by rw[bY,bY];exact R.len,λj xs ys e=>?_⟩
 ·by_cases c:b=a
  ·subst c;rw[he]at y;cases y
  ·rw[hide_ne c]at z;exact R.dom b z (s.free y)
 ·by_cases c:b=a
  ·subst c;exact .inr (R.same.free ha)
  ·rw[hide_ne c]at z;exact R.vis b z
 ·rcases gK e with⟨rfl,e,l⟩|⟨n,e⟩
  ·cases e
  ·obtain⟨v,e1,e2⟩:=R.fr j q e;exact⟨v,by rw[jC n];exact e1,At.mono (mF s ha) _ _ e2⟩
 ·rcases gK e with⟨rfl,e,l⟩|⟨n,e⟩
  ·cases e;exact⟨a,vs,uc (by rw[R.len];exact l),hide_self,R.same.free ha,he,h⟩
  ·obtain⟨b,us,e1,e2,e3,e4,e5⟩:=R.ow j q e;exact⟨b,us,by rw[jC n];exact e1,lG b e2,e3,s _ _ e4,e5.mono (mF s ha)⟩
 ·have old:∀(m:Nat) q,ρ[m]?=some (.ow q)->σ[m]?=some (some (.ref a))->False:=λm q e z=>by obtain⟨b,us,e1,_,_,e4,_⟩:=R.ow m q e;rw[z]at e1;cases e1;rw[ha]at e4;cases e4
  rcases gK e1 with⟨rfl,e,l⟩|⟨n,e⟩
  ·rcases gK e2 with⟨rfl,e',l'⟩|⟨n',e'⟩
   ·rfl
   ·rw[uc (by rw[R.len];exact l)]at e3;cases e3;rw[jC n']at e4;exact(old k r e' e4).elim
  ·rcases gK e2 with⟨rfl,e',l'⟩|⟨n',e'⟩
   ·rw[uc (by rw[R.len];exact l')]at e4;cases e4;rw[jC n]at e3;exact(old j q e e3).elim
   ·rw[jC n]at e3;rw[jC n']at e4;exact R.inj j k q r b e e' e3 e4
 ·rcases gK e with⟨rfl,e,l⟩|⟨n,e⟩
  ·cases e
  ·obtain⟨D,a1,b1,q⟩:=R.o2 j xs ys e;refine⟨D,a1,b1,by rw[jC n];exact q.at_,lG _ q.oD,lG _ q.oa,lG _ q.ob,q.nD,q.na,q.nb,s _ _ q.hD,s _ _ q.ha,s _ _ q.hb,q.ab,λk r c e1 e2=>?_,λk xs' ys' e1=>?_⟩
   ·rcases gK e1 with⟨rfl,e',l'⟩|⟨n',e'⟩
    ·rw[uc (by rw[R.len];exact l')]at e2;cases e2;exact⟨a9 (ne_of_none q.hD ha),a9 (ne_of_none q.ha ha),a9 (ne_of_none q.hb ha)⟩
    ·rw[jC n']at e2;exact q.un k r c e' e2
   ·rcases gK e1 with⟨_,e',_⟩|⟨n',e'⟩
    ·cases e'
    ·exact q.one k xs' ys' e'
theorem Rep.change (R:Rep K G B σ H ρ O){p p':PV}{a:Addr}{vs:List V}(e:ρ[i]?=some (.ow p))(ea:σ[i]?=some (some (.ref a)))(h:wC K G (mn H O) p' vs):Rep K G B σ (upd H a (.lst vs)) (ρ.set i (.ow p')) O:=by
 obtain⟨a',us,e1,e2,e3,e4,e5⟩:=R.ow i p e;rw[ea]at e1;cases e1;have hl:i<ρ.length:=(aZ.mp e).1;refine⟨λb o z=>?_,R.cd,R.hid,λb z y=>?_,R.vis,λj q ej=>?_,λj q ej=>?_,λj k q r b j1 j2 j3 j4=>?_,by rw[bY];exact R.len,λj xs ys ej=>?_⟩
 ·rw[upd_ne (ne_of_none z e3)];exact R.same b o z
 ·by_cases c:b=a
  ·subst c;rw[upd_same]at y;cases y
  ·rw[upd_ne c]at y;exact R.dom b z y
 ·rw[Bo e2];rcases gK ej with⟨_,e',_⟩|⟨_,e'⟩
  ·cases e'
  ·exact R.fr j q e'
 ·rw[Bo e2];rcases gK ej with⟨rfl,e',_⟩|⟨n,e'⟩
  ·cases e';exact⟨a,vs,ea,e2,e3,upd_same,h⟩
  ·obtain⟨b,ws,f1,f2,f3,f4,f5⟩:=R.ow j q e';refine⟨b,ws,f1,f2,f3,?_,f5⟩;rw[upd_ne]
   ·exact f4
   ·intro z;subst z;exact n (R.inj i j p q b e e' ea f1)
 ·have back:∀(m:Nat) q,(ρ.set i (.ow p'))[m]?=some (.ow q)->∃q',ρ[m]?=some (.ow q'):=λm q z=>by
   rcases gK z with⟨rfl,_,_⟩|⟨_,z⟩
   ·exact⟨p,e⟩
   ·exact⟨q,z⟩
  obtain⟨q',y1⟩:=back j q j1;obtain⟨r',y2⟩:=back k r j2;exact R.inj j k q' r' b y1 y2 j3 j4
 ·rcases gK ej with⟨rfl,e',_⟩|⟨n,e'⟩
  ·cases e'
  ·obtain⟨D,a1,b1,q⟩:=R.o2 j xs ys e';obtain⟨u1,u2,u3⟩:=q.un i p a e ea;refine⟨D,a1,b1,q.at_,q.oD,q.oa,q.ob,q.nD,q.na,q.nb,by rw[upd_ne (a9 u1)];exact q.hD,by rw[upd_ne (a9 u2)];exact q.ha,by rw[upd_ne (a9 u3)];exact q.hb,q.ab,λk r c e1 e2=>?_,λk xs' ys' e1=>?_⟩
   ·rcases gK e1 with⟨rfl,_,_⟩|⟨_,e1⟩
    ·exact q.un i p c e e2
    ·exact q.un k r c e1 e2
   ·rcases gK e1 with⟨_,e',_⟩|⟨n',e'⟩
    ·cases e'
    ·exact q.one k xs' ys' e'
def qm (a:Addr)(O:Addr->Bool):Addr->Bool:=λb=>if b=a then false else O b
theorem nY (h:b≠a):qm a O b=O b:=by unfold qm;rw[ai h]
theorem v9:qm a O a=false:=by unfold qm;rw[ak rfl]
theorem xM:∀b,qm a O b=true->O b=true:=λb h=>by
 by_cases c:b=a
 ·subst c;rw[v9]at h;cases h
 ·rw[nY c]at h;exact h
def frz (ρ:En)(i:Nat):En:=match ρ[i]? with
 |some (.ow p)=>ρ.set i (.fr p)
 |_=>ρ
theorem Rep.freeze (R:Rep K G B σ H ρ O)(i:Nat):∃O',Rep K G B σ H (frz ρ i) O':=by
 unfold frz;split
 ·rename_i p e;obtain⟨a,vs,e1,e2,e3,e4,e5⟩:=R.ow i p e;have sub:Same (mn H O) (mn H (qm a O)):=mH xM;have sees:Rd (mn H (qm a O)) a (.lst vs):=.inl (by rw[ju v9];exact e4);have hp:At K G (mn H (qm a O)) p (.ref a):=by
   cases p<;>first
    |exact False.elim e5
    |(have e5:=e5.mono sub;exact⟨a,vs,rfl,sees,e5⟩)
    |(have e5':vs=_:=e5;subst e5';exact⟨a,rfl,sees⟩)
  refine⟨qm a O,R.same,R.cd,λb z=>?_,λb z=>R.dom b (xM b z),λb z=>R.vis b (xM b z),λj q ej=>?_,λj q ej=>?_,λj k q r b j1 j2 j3 j4=>?_,by rw[bY];exact R.len,λj xs ys ej=>?_⟩
  ·rw[nY]
   ·exact R.hid b z
   ·intro y;subst y;exact R.cd b z e3
  ·rcases gK ej with⟨rfl,e',_⟩|⟨n,e'⟩
   ·cases e';exact⟨.ref a,e1,hp⟩
   ·obtain⟨v,f1,f2⟩:=R.fr j q e';exact⟨v,f1,At.mono sub _ _ f2⟩
  ·rcases gK ej with⟨rfl,e',_⟩|⟨n,e'⟩
   ·cases e'
   ·obtain⟨b,ws,f1,f2,f3,f4,f5⟩:=R.ow j q e';refine⟨b,ws,f1,?_,f3,f4,f5.mono sub⟩;rw[nY]
    ·exact f2
    ·intro z;subst z;exact n (R.inj i j p q b e e' e1 f1)
  ·rcases gK j1 with⟨_,e',_⟩|⟨_,y1⟩
   ·cases e'
   ·rcases gK j2 with⟨_,e',_⟩|⟨_,y2⟩
    ·cases e'
    ·exact R.inj j k q r b y1 y2 j3 j4
  ·rcases gK ej with⟨rfl,e',_⟩|⟨n,e'⟩
   ·cases e'
   ·obtain⟨D,a1,b1,q⟩:=R.o2 j xs ys e';obtain⟨u1,u2,u3⟩:=q.un i p a e e1;refine⟨D,a1,b1,q.at_,by rw[nY (a9 u1)];exact q.oD,by rw[nY (a9 u2)];exact q.oa,by rw[nY (a9 u3)];exact q.ob,q.nD,q.na,q.nb,q.hD,q.ha,q.hb,q.ab,λk r c e1 e2=>?_,λk xs' ys' e1=>?_⟩
    ·rcases gK e1 with⟨_,e',_⟩|⟨_,e1⟩
     ·cases e'
     ·exact q.un k r c e1 e2
    ·rcases gK e1 with⟨_,e',_⟩|⟨n',e'⟩
     ·cases e'
     ·exact q.one k xs' ys' e'
 ·exact⟨O,R⟩
def Bs.at (B:Bs)(H:Hp)(O:Addr->Bool):Bs:=⟨λb=>if (O b && (B.H0 b).isNone)=true then none else H b,B.Oc⟩
theorem Bs.at_of (h:O b=false\/B.H0 b≠none):(B.at H O).H0 b=H b:=by
 show(if (O b && (B.H0 b).isNone)=true then none else H b)=H b;rw[ai];rcases h with h|h
 ·rw[h];simp
 ·cases e:B.H0 b with
  |none=>exact absurd e h
  |some o=>simp
theorem Rep.rebase (R:Rep K G B σ H ρ O):Rep K G (B.at H O) σ H ρ O:=by
 refine⟨λb o z=>?_,λa z=>?_,R.hid,R.dom,λa z=>?_,R.fr,λi p e=>?_,R.inj,R.len,λi xs ys e=>?_⟩
 ·have z:(if (O b && (B.H0 b).isNone)=true then none else H b)=some o:=z;by_cases c:(O b && (B.H0 b).isNone)=true
  ·rw[ak c]at z;cases z
  ·rw[ai c]at z;exact .of z
 ·rw[Bs.at_of (.inr (R.cd a z))];exact R.dom a (R.hid a z)
 ·rcases R.vis a z with y|y
  ·exact .inl y
  ·refine .inr ?_;show(if (O a && (B.H0 a).isNone)=true then none else H a)=none;rw[ak (by rw[z,y];rfl)]
 ·obtain⟨a,vs,e1,e2,e3,e4,e5⟩:=R.ow i p e;refine⟨a,vs,e1,e2,?_,e4,e5⟩;show(if (O a && (B.H0 a).isNone)=true then none else H a)=none;rw[ak (by rw[e2,e3];rfl)]
 ·obtain⟨D,a,b,q⟩:=R.o2 i xs ys e;have z:∀c,O c=true->B.H0 c=none->(B.at H O).H0 c=none:=λc h1 h2=>by show(if (O c && (B.H0 c).isNone)=true then none else H c)=none;rw[ak (by rw[h1,h2];rfl)]
  exact⟨D,a,b,q.at_,q.oD,q.oa,q.ob,z D q.oD q.nD,z a q.oa q.na,z b q.ob q.nb,q.hD,q.ha,q.hb,q.ab,q.un,q.one⟩
theorem Rep.jo (R:Rep K G B σ H ρ O):Same B.H0 (B.at H O).H0:=λb o z=>by rw[Bs.at_of (.inr (by rw[z];exact λy=>by cases y))];exact R.same b o z
theorem Rep.Kh (B:Bs)(H:Hp)(O:Addr->Bool):Same (mn H O) (B.at H O).H0:=mV λb o z=>by obtain⟨c,e⟩:=qI z;rw[Bs.at_of (.inl c)];exact e
theorem Rep.Cu (R:Rep K G B σ H ρ O)(R':Rep K G (B.at H O) σ' H' ρ' O'):Rep K G B σ' H' ρ' O':=by
 refine⟨R.jo.trans R'.same,R.cd,R'.hid,R'.dom,λa z=>(R'.vis a z).imp id λy=>R.jo.free y,R'.fr,λi p e=>?_,R'.inj,R'.len,λi xs ys e=>?_⟩
 ·obtain⟨a,vs,e1,e2,e3,e4,e5⟩:=R'.ow i p e;exact⟨a,vs,e1,e2,R.jo.free e3,e4,e5⟩
 ·obtain⟨D,a,b,q⟩:=R'.o2 i xs ys e;exact⟨D,a,b,q.at_,q.oD,q.oa,q.ob,R.jo.free q.nD,R.jo.free q.na,R.jo.free q.nb,q.hD,q.ha,q.hb,q.ab,q.un,q.one⟩
theorem Rep.seen (R:Rep K G B σ H ρ O)(R':Rep K G (B.at H O) σ' H' ρ' O'):Same (mn H O) (mn H' O'):=λb o z=>by
 obtain⟨c,e⟩:=qI z;have z0:(B.at H O).H0 b=some o:=by rw[Bs.at_of (.inl c)];exact e
 rw[ju]
 ·exact R'.same b o z0
 ·cases y:O' b with
  |false=>rfl
  |true=>
   rcases R'.vis b y with y|y
   ·rw[R.hid b y]at c;cases c
   ·rw[z0]at y;cases y
end
def Rn (ρ:En)(i:Nat):Int:=match ρ[i]? with
 |some (.fr (.int n))=>n
 |_=>0
def isI (ρ:En)(i:Nat):Prop:=ρ[i]?=some (.fr (.int (Rn ρ i)))
def getL (ρ:En)(i:Nat):List Int:=match ρ[i]? with
 |some (.fr (.ints ns))=>ns
 |some (.ow (.ints ns))=>ns
 |some (.fr (.scr ns))=>ns
 |_=>[]
def S9 (ρ:En)(i:Nat):Prop:=ρ[i]?=some (.fr (.ints (getL ρ i)))
def Sq (ρ:En)(i:Nat):Prop:=ρ[i]?=some (.ow (.ints (getL ρ i)))
def CQ (ρ:En)(i:Nat):Prop:=S9 ρ i\/Sq ρ i\/ρ[i]?=some (.fr (.scr (getL ρ i)))
def Eo (ρ:En)(i:Nat):PV:=match ρ[i]? with
 |some (.fr p)=>p
 |some (.ow p)=>p
 |_=>.non
def isF (ρ:En)(i:Nat):Prop:=ρ[i]?=some (.fr (Eo ρ i))
def Jb (ρ:En)(i:Nat):Str:=match ρ[i]? with
 |some (.fr (.str s))=>s
 |_=>Str.empty
def Tt (ρ:En)(i:Nat):Prop:=ρ[i]?=some (.fr (.str (Jb ρ i)))
section
variable {K:Fg}{G:Gx}{B:Bs}{σ:L2.St}{H H':Hp}{ρ:En}{O:Addr->Bool}{i:Nat}
theorem Rep.Hl (R:Rep K G B σ H ρ O)(h:CQ ρ i):∃a,σ[i]?=some (some (.ref a))/\SqL K H a ((getL ρ i).map V.int):=by
 rcases h with h|h|h
 ·obtain⟨v,e1,a,e2,e3⟩:=R.fr i _ h;subst e2;exact⟨a,e1,.inl (iG iU e3)⟩
 ·obtain⟨a,vs,e1,e2,e3,e4,e5⟩:=R.ow i _ h;subst e5;exact⟨a,e1,.inl (.inl e4)⟩
 ·obtain⟨v,e1,a,e2,e3⟩:=R.fr i _ h;subst e2;exact⟨a,e1,iU.seq e3⟩
end
def tX (K:Fg)(G:Gx)(C:En->Prop)(g:En->PV):TE:=λσ H Q=>∃B ρ O,Rep K G B σ H ρ O/\C ρ/\∀v H',Same H H' -> At K G (mn H' O) (g ρ) v->Q v H'
def Jt (K:Fg)(G:Gx)(C:En->Prop)(g:En->List Int):TE:=λσ H Q=>∃B ρ O,Rep K G B σ H ρ O/\C ρ/\∀a H',Same H H' -> H a=none->H' a=some (.lst ((g ρ).map V.int))->Q (.ref a) H'
def JP (K:Fg)(G:Gx)(C:En->Prop)(g:En->List PV):TE:=λσ H Q=>∃B ρ O,Rep K G B σ H ρ O/\C ρ/\∀a vs H',Same H H' -> H a=none->H' a=some (.lst vs)->jn K G (mn H' (hide a O)) (g ρ) vs->Q (.ref a) H'
def yJ (K:Fg)(G:Gx)(C:En->Prop)(g:En->List PV):TA:=λσ H Q=>∃B ρ O,Rep K G B σ H ρ O/\C ρ/\∀vs H',Same H H' -> jn K G (mn H' O) (g ρ) vs->Q vs H'
def qH (K:Fg)(G:Gx)(C:En->Prop)(p:En->Prop)[∀ρ,Decidable (p ρ)]:TT:=λσ H Q=>∃B ρ O,Rep K G B σ H ρ O/\C ρ/\∀H',Same H H' -> Q (decide (p ρ)) H'
abbrev iu (K:Fg)(G:Gx)(C:En->Prop)(g:En->Int):TE:=tX K G C λρ=>.int (g ρ)
abbrev M9 (K:Fg)(G:Gx)(C:En->Prop)(g:En->List Int):TE:=tX K G C λρ=>.ints (g ρ)
abbrev yI (K:Fg)(G:Gx)(C:En->Prop)(p:En->Prop)[∀ρ,Decidable (p ρ)]:TE:=tX K G C λρ=>.bl (decide (p ρ))
abbrev lE (K:Fg)(G:Gx)(C:En->Prop)(g:En->Str):TE:=tX K G C λρ=>.str (g ρ)
section
variable {X:Cx}{G:Gx}{a b:Expr}{pos:Pos}{Ca Cb:En->Prop}{ga gb:En->Int}{i:Nat}{x:Str}{e:Expr}{t:TE}{C:En->Prop}{g:En->PV}{gl hl:En->List Int}
theorem jz (h:PE X e t)(k:∀B σ H ρ O Q,Rep X.K G B σ H ρ O->C ρ->(∀v H',Same H H' -> At X.K G (mn H' O) (g ρ) v->Q v H')->t σ H Q):PE X e (tX X.K G C g):=
 λpins s σ H Q I ⟨B,ρ,O,R,c,q⟩=>h pins s σ H Q I (k B σ H ρ O Q R c q)
theorem Lj (h:PE X e t)(k:∀B σ H ρ O Q,Rep X.K G B σ H ρ O->C ρ->(∀a H',Same H H' -> H a=none->H' a=some (.lst ((gl ρ).map V.int))->Q (.ref a) H')->t σ H Q):PE X e (Jt X.K G C gl):=
 λpins s σ H Q I ⟨B,ρ,O,R,c,q⟩=>h pins s σ H Q I (k B σ H ρ O Q R c q)
theorem zM (h:PE X e (Jt X.K G C gl)):PE X e (M9 X.K G C gl):=jz h λB σ H ρ O Q R c q=>⟨B,ρ,O,R,c,λa H' s n e=>q _ H' s ⟨a,rfl,.inl (by
 rw[ju]
 ·exact e
 ·cases z:O a with
  |false=>rfl
  |true=>exact absurd n (R.dom a z))⟩⟩
theorem lW (h:PE X e (JP X.K G C gp)):PE X e (tX X.K G C λρ=>.lst (gp ρ)):=jz h λB σ H ρ O Q R c q=>⟨B,ρ,O,R,c,λa vs H' s n e al=>q _ H' s ⟨a,vs,rfl,.inl (by
 rw[ju]
 ·exact e
 ·cases z:O a with
  |false=>rfl
  |true=>exact absurd n (R.dom a z)),jn.mono (mH lG) _ _ al⟩⟩
theorem fU:PE X (.Constant (.int n) j pos) (iu X.K G (λ_=>True) λ_=>n):=jz pe_int λ_ _ H _ _ _ _ _ q=>q _ H (Same.refl H) rfl
theorem DN:PE X (.Constant (.bool n) j pos) (tX X.K G (λ_=>True) λ_=>.bl n):=jz pe_bl λ_ _ H _ _ _ _ _ q=>q _ H (Same.refl H) rfl
theorem HS:PE X (.Constant .none j pos) (tX X.K G (λ_=>True) λ_=>.non):=jz pe_non λ_ _ H _ _ _ _ _ q=>q _ H (Same.refl H) rfl
theorem gF:PE X (.Constant (.str n) j pos) (lE X.K G (λ_=>True) λ_=>n):=jz pe_str λ_ _ H _ _ _ _ _ q=>q _ H (Same.refl H) rfl
theorem pZ (hg:Gl X x)(hm:∃tk,X.mg x=some (.int n tk))(hd:(x == ("__debug__":Str))=false:=by decide):PE X (.Name x pos) (iu X.K G (λ_=>True) λ_=>n):=
 let ⟨_,hm⟩:=hm;jz (pe_glob hg hm (v:=.int n) ⟨_,rfl⟩ hd) λ_ _ H _ _ _ _ _ q=>q _ H (Same.refl H) rfl
theorem DW (hg:Gl X x)(hm:X.mg x=none)(hv:bootBuiltins x=some (.type u))(hn:x≠"__name__":=by decide)(hd:(x == ("__debug__":Str))=false:=by decide):PE X (.Name x pos) (tX X.K G (λ_=>True) λ_=>.ty u):=
 jz (pe_bltn (v:=.ty u) hg hm hv rfl hn hd) λ_ _ H _ _ _ _ _ q=>q _ H (Same.refl H) rfl
theorem kh (hg:Gl X x)(hm:X.mg x=some (.ref c))(hd:(x == ("__debug__":Str))=false:=by decide):PE X (.Name x pos) (tX X.K G (λ_=>True) λ_=>.cls c):=
 jz (pe_glob (v:=.ref c) hg hm rfl hd) λ_ _ H _ _ _ _ _ q=>q _ H (Same.refl H) rfl
theorem xv (i:Nat)(hN:X.N[i]?=some x:=by rfl)(hv:Vis X.env.scope x:=by walk_at "v")
  (hd:(x == ("__debug__":Str))=false:=by decide) (hcd:(x == ("__classdict__":Str))=false:=by decide):PE X (.Name x pos) (tX X.K G (λρ=>isF ρ i) λρ=>Eo ρ i):=
 jz (pe_var hN hv hd hcd) λ_ _ H _ _ _ R c q=>let ⟨v,e,h⟩:=R.fr i _ c;⟨v,e,q v H (Same.refl H) h⟩
theorem xn (i:Nat)(hN:X.N[i]?=some x:=by rfl)(hv:Vis X.env.scope x:=by walk_at "v")
  (hd:(x == ("__debug__":Str))=false:=by decide) (hcd:(x == ("__classdict__":Str))=false:=by decide):PE X (.Name x pos) (iu X.K G (λρ=>isI ρ i) λρ=>Rn ρ i):=
 jz (pe_var hN hv hd hcd) λ_ _ H _ _ _ R c q=>let ⟨v,e,h⟩:=R.fr i _ c;⟨v,e,q v H (Same.refl H) h⟩
theorem xl (i:Nat)(hN:X.N[i]?=some x:=by rfl)(hv:Vis X.env.scope x:=by walk_at "v")
  (hd:(x == ("__debug__":Str))=false:=by decide) (hcd:(x == ("__classdict__":Str))=false:=by decide):PE X (.Name x pos) (M9 X.K G (λρ=>S9 ρ i) λρ=>getL ρ i):=
 jz (pe_var hN hv hd hcd) λ_ _ H _ _ _ R c q=>let ⟨v,e,h⟩:=R.fr i _ c;⟨v,e,q v H (Same.refl H) h⟩
theorem xr (i:Nat)(hN:X.N[i]?=some x:=by rfl)(hv:Vis X.env.scope x:=by walk_at "v")
  (hd:(x == ("__debug__":Str))=false:=by decide) (hcd:(x == ("__classdict__":Str))=false:=by decide):PE X (.Name x pos) (tX X.K G (λρ=>ρ[i]?=some (.fr (.scr (getL ρ i)))) λρ=>.scr (getL ρ i)):=
 jz (pe_var hN hv hd hcd) λ_ _ H _ _ _ R c q=>let ⟨v,e,h⟩:=R.fr i _ c;⟨v,e,q v H (Same.refl H) h⟩
theorem xs (i:Nat)(hN:X.N[i]?=some x:=by rfl)(hv:Vis X.env.scope x:=by walk_at "v")
  (hd:(x == ("__debug__":Str))=false:=by decide) (hcd:(x == ("__classdict__":Str))=false:=by decide):PE X (.Name x pos) (lE X.K G (λρ=>Tt ρ i) λρ=>Jb ρ i):=
 jz (pe_var hN hv hd hcd) λ_ _ H _ _ _ R c q=>let ⟨v,e,h⟩:=R.fr i _ c;⟨v,e,q v H (Same.refl H) h⟩
theorem two {r:R2}{ga gb:En->PV}{σ:L2.St}{B:Bs}{O:Addr->Bool}(R:Rep X.K G B σ H ρ O)(ca:Ca ρ)(cb:Cb ρ)(q:∀v u H1 H2,Same H H1->Same H1 H2->At X.K G (mn H2 O) (ga ρ) v->At X.K G (mn H2 O) (gb ρ) u->r v u H2 Q) :
  tOp r (tX X.K G Ca ga) (tX X.K G Cb gb) σ H Q:=
 ⟨B,ρ,O,R,ca,λv H1 s1 a1=>⟨B,ρ,O,R.grow s1,cb,λu H2 s2 a2=>q v u H1 H2 s1 s2 (At.mono (jD s2) _ _ a1) a2⟩⟩
theorem Dj {op:Operator}{C:Int->Int->Prop}{g:Int->Int->Int}(ho:OpR X (binaryOp op) (rI C λi j=>.int (g i j)))(ha:PE X a (iu X.K G Ca ga))(hb:PE X b (iu X.K G Cb gb)) :
  PE X (.BinOp a op b pos) (iu X.K G (λρ=>Ca ρ/\Cb ρ/\C (ga ρ) (gb ρ)) λρ=>g (ga ρ) (gb ρ)):=
 jz (pe_op ho ha hb) λ_ _ _ _ _ _ R c q=>two R c.1 c.2.1 λ_ _ _ H2 s1 s2 a1 a2=>⟨_,_,a1,a2,c.2.2,q _ H2 (s1.trans s2) rfl⟩
theorem JF {op:Operator}{g:Int->Int->Int}(ho:OpR X (binaryOp op) (rI0 λi j=>.int (g i j)))(ha:PE X a (iu X.K G Ca ga))(hb:PE X b (iu X.K G Cb gb)) :
  PE X (.BinOp a op b pos) (iu X.K G (λρ=>Ca ρ/\Cb ρ) λρ=>g (ga ρ) (gb ρ)):=
 jz (pe_op ho ha hb) λ_ _ _ _ _ _ R c q=>two R c.1 c.2 λ_ _ _ H2 s1 s2 a1 a2=>⟨_,_,a1,a2,q _ H2 (s1.trans s2) rfl⟩
theorem jY (ha:PE X a (iu X.K G Ca ga))(hb:PE X b (iu X.K G Cb gb)):PE X (.BinOp a .Add b pos) (iu X.K G (λρ=>Ca ρ/\Cb ρ) λρ=>ga ρ+gb ρ):=JF op_add ha hb
theorem lK (ha:PE X a (iu X.K G Ca ga))(hb:PE X b (iu X.K G Cb gb)):PE X (.BinOp a .Sub b pos) (iu X.K G (λρ=>Ca ρ/\Cb ρ) λρ=>ga ρ-gb ρ):=JF op_sub ha hb
theorem nH (ha:PE X a (iu X.K G Ca ga))(hb:PE X b (iu X.K G Cb gb)):PE X (.BinOp a .Mult b pos) (iu X.K G (λρ=>Ca ρ/\Cb ρ/\IntMulOk (ga ρ) (gb ρ)) λρ=>ga ρ*gb ρ):=Dj yr ha hb
theorem gR (ha:PE X a (iu X.K G Ca ga))(hb:PE X b (iu X.K G Cb gb)):PE X (.BinOp a .Mod b pos) (iu X.K G (λρ=>Ca ρ/\Cb ρ/\0<gb ρ) λρ=>ga ρ % gb ρ):=Dj op_mod ha hb
theorem iT (ha:PE X a (iu X.K G Ca ga))(hb:PE X b (iu X.K G Cb gb)):PE X (.BinOp a .FloorDiv b pos) (iu X.K G (λρ=>Ca ρ/\Cb ρ/\Mz (ga ρ) (gb ρ)) λρ=>ga ρ / gb ρ):=Dj Js ha hb
theorem qX (ha:PE X a (iu X.K G Ca ga))(hb:PE X b (iu X.K G Cb gb)):PE X (.BinOp a .Pow b pos) (iu X.K G (λρ=>Ca ρ/\Cb ρ/\CPow (ga ρ) (gb ρ)) λρ=>ga ρ^(gb ρ).toNat):=Dj op_pow ha hb
theorem q9 (ha:PE X a (iu X.K G Ca ga)):PE X (.UnaryOp .USub a pos) (iu X.K G Ca λρ=>-ga ρ):=
 jz (pe_un un_neg ha) λB _ _ ρ O _ R c q=>⟨B,ρ,O,R,c,λ_ H1 s1 a1=>⟨_,a1,q _ H1 s1 rfl⟩⟩
theorem u6 {op:CmpOp}{p:Int->Int->Prop}[∀i j,Decidable (p i j)](ho:OpR X (compareOp op) (rI0 λi j=>.bl (decide (p i j))))(hm:behindInMarks op b=false)(ha:PE X a (iu X.K G Ca ga))(hb:PE X b (iu X.K G Cb gb)) :
  PT X (.Compare a [op] [b] pos) (qH X.K G (λρ=>Ca ρ/\Cb ρ) λρ=>p (ga ρ) (gb ρ)):=
 λpins s σ H Q I ⟨_,_,_,R,c,q⟩=>pt_cmpR ho ha hb hm pins s σ H Q I (two R c.1 c.2 λ_ _ _ H2 s1 s2 a1 a2=>⟨_,_,a1,a2,_,rfl,q H2 (s1.trans s2)⟩)
theorem Pz {op:CmpOp}{p:Int->Int->Prop}[∀i j,Decidable (p i j)](ho:OpR X (compareOp op) (rI0 λi j=>.bl (decide (p i j))))(hm:behindInMarks op b=false)(ha:PE X a (iu X.K G Ca ga))(hb:PE X b (iu X.K G Cb gb)) :
  PE X (.Compare a [op] [b] pos) (yI X.K G (λρ=>Ca ρ/\Cb ρ) λρ=>p (ga ρ) (gb ρ)):=
 jz (pe_cmpR ho ha hb hm) λ_ _ _ _ _ _ R c q=>two R c.1 c.2 λ_ _ _ H2 s1 s2 a1 a2=>⟨_,_,a1,a2,q _ H2 (s1.trans s2) rfl⟩
theorem zj (ha:PE X a (iu X.K G Ca ga))(hb:PE X b (iu X.K G Cb gb)):PT X (.Compare a [.Lt] [b] pos) (qH X.K G (λρ=>Ca ρ/\Cb ρ) λρ=>ga ρ<gb ρ):=u6 op_lt (nomark _) ha hb
theorem Rk (ha:PE X a (iu X.K G Ca ga))(hb:PE X b (iu X.K G Cb gb)):PT X (.Compare a [.LtE] [b] pos) (qH X.K G (λρ=>Ca ρ/\Cb ρ) λρ=>ga ρ<=gb ρ):=u6 op_le (nomark _) ha hb
theorem uR (ha:PE X a (iu X.K G Ca ga))(hb:PE X b (iu X.K G Cb gb)):PT X (.Compare a [.Gt] [b] pos) (qH X.K G (λρ=>Ca ρ/\Cb ρ) λρ=>gb ρ<ga ρ):=u6 (p:=λi j=>j<i) op_gt (nomark _) ha hb
theorem lw (ha:PE X a (iu X.K G Ca ga))(hb:PE X b (iu X.K G Cb gb)):PT X (.Compare a [.Eq] [b] pos) (qH X.K G (λρ=>Ca ρ/\Cb ρ) λρ=>ga ρ=gb ρ):=u6 Pa (nomark _) ha hb
theorem Dh (ha:PE X a (iu X.K G Ca ga))(hb:PE X b (iu X.K G Cb gb)):PT X (.Compare a [.NotEq] [b] pos) (qH X.K G (λρ=>Ca ρ/\Cb ρ) λρ=>¬ga ρ=gb ρ):=u6 (p:=λi j=>¬i=j) Jz (nomark _) ha hb
theorem MN (ha:PE X a (iu X.K G Ca ga))(hb:PE X b (iu X.K G Cb gb)):PE X (.Compare a [.Lt] [b] pos) (yI X.K G (λρ=>Ca ρ/\Cb ρ) λρ=>ga ρ<gb ρ):=Pz op_lt (nomark _) ha hb
variable {pa pb:En->Prop}[∀ρ,Decidable (pa ρ)][∀ρ,Decidable (pb ρ)]{rest:List Expr}
theorem rC (h:PE X e (yI X.K G Ca pa))(he:∀whole,isTrue e X.env whole=(do let v <- whole;standAt e.pos;holding [v] (truthy v)):=by intro _;rfl):PT X e (qH X.K G Ca pa):=
 λpins s σ H Q I ⟨B,ρ,O,R,c,q⟩=>pt_val h he pins s σ H Q I ⟨B,ρ,O,R,c,λ_ H1 s1 a1=>⟨_,a1,q H1 s1⟩⟩
theorem xH (ha:PT X a (qH X.K G Ca pa)):PT X (.UnaryOp .Not a pos) (qH X.K G Ca λρ=>¬pa ρ):=
 λpins s σ H Q I ⟨B,ρ,O,R,c,q⟩=>L2.pt_not ha pins s σ H Q I ⟨B,ρ,O,R,c,λH1 s1=>by have z:=q H1 s1;rw[fy]at z;exact z⟩
theorem vq (ha:PT X a (qH X.K G Ca pa)):PW X (.BoolOp .Or [a] pos) (qH X.K G Ca pa):=pw_or1 ha
theorem oH (ha:PT X a (qH X.K G Ca pa)):PW X (.BoolOp .And [a] pos) (qH X.K G Ca pa):=pw_and1 ha
theorem tZ (ha:PT X a (qH X.K G Ca pa))(hb:PW X (.BoolOp .Or (b::rest) pos) (qH X.K G Cb pb)):PW X (.BoolOp .Or (a::b::rest) pos) (qH X.K G (λρ=>Ca ρ/\(¬pa ρ->Cb ρ)) λρ=>pa ρ\/pb ρ):=
 λwh pins s σ H Q I ⟨B,ρ,O,R,c,q⟩=>pw_or ha hb wh pins s σ H Q I ⟨B,ρ,O,R,c.1,λH1 s1=>by
  by_cases d:pa ρ
  ·have z:=q H1 s1;rw[aW (Or.inl d:pa ρ\/pb ρ)]at z;rw[aW d];refine iteT ?_;exact z
  ·rw[aQ d];refine iteF ?_;refine⟨B,ρ,O,R.grow s1,c.2 d,λH2 s2=>?_⟩;have z:=q H2 (s1.trans s2);have e:decide (pa ρ\/pb ρ)=decide (pb ρ):=by simp[d]
   rw[e]at z;exact z⟩
theorem ph (ha:PT X a (qH X.K G Ca pa))(hb:PW X (.BoolOp .And (b::rest) pos) (qH X.K G Cb pb)):PW X (.BoolOp .And (a::b::rest) pos) (qH X.K G (λρ=>Ca ρ/\(pa ρ->Cb ρ)) λρ=>pa ρ/\pb ρ):=
 λwh pins s σ H Q I ⟨B,ρ,O,R,c,q⟩=>pw_and ha hb wh pins s σ H Q I ⟨B,ρ,O,R,c.1,λH1 s1=>by
  by_cases d:pa ρ
  ·rw[aW d];refine iteT ?_;refine⟨B,ρ,O,R.grow s1,c.2 d,λH2 s2=>?_⟩;have z:=q H2 (s1.trans s2);have e:decide (pa ρ/\pb ρ)=decide (pb ρ):=by simp[d]
   rw[e]at z;exact z
  ·have z:=q H1 s1;rw[aQ (λy=>d y.1:¬(pa ρ/\pb ρ))]at z;rw[aQ d];refine iteF ?_;exact z⟩
theorem Hs (ha:PE X a (yI X.K G Ca pa)):PE X (.UnaryOp .Not a pos) (yI X.K G Ca λρ=>¬pa ρ):=
 jz (pe_not ha) λB _ _ ρ O _ R c q=>⟨B,ρ,O,R,c,λ_ H1 s1 a1=>⟨_,a1,q _ H1 s1 (by rw[fy];rfl)⟩⟩
theorem Bv (ha:PE X a (yI X.K G Ca pa))(hb:PE X (.BoolOp .And (b::rest) pos) (yI X.K G Cb pb)):PE X (.BoolOp .And (a::b::rest) pos) (yI X.K G (λρ=>Ca ρ/\(pa ρ->Cb ρ)) λρ=>pa ρ/\pb ρ):=
 jz (pe_and ha hb) λB _ _ ρ O _ R c q=>⟨B,ρ,O,R,c.1,λ_ H1 s1 a1=>⟨_,a1,by
  by_cases d:pa ρ
  ·rw[aW d];refine iteT ?_;refine⟨B,ρ,O,R.grow s1,c.2 d,λv H2 s2 a2=>q v H2 (s1.trans s2) ?_⟩;have e:decide (pa ρ/\pb ρ)=decide (pb ρ):=by simp[d]
   rw[e];exact a2
  ·have z:=q (.bl false) H1 s1 (by rw[aQ (λy=>d y.1:¬(pa ρ/\pb ρ))];rfl);rw[aQ d];refine iteF ?_;exact z⟩⟩
variable {es:List Expr}{gs:En->List PV}
theorem gf:PA X [] (yJ X.K G (λ_=>True) λ_=>[]):=λpos pins s σ H Q I ⟨_,_,_,_,_,q⟩=>pa_nil pos pins s σ H Q I (q [] H (Same.refl H) rfl)
theorem fW (ha:PE X e (tX X.K G Ca g))(hr:PA X es (yJ X.K G Cb gs))(hs:starEach (e::es) X.env=(false,eval e X.env)::starEach es X.env:=by rfl):PA X (e::es) (yJ X.K G (λρ=>Ca ρ/\Cb ρ) λρ=>g ρ::gs ρ):=
 λpos pins s σ H Q I ⟨B,ρ,O,R,c,q⟩=>pa_cons ha hr hs pos pins s σ H Q I ⟨B,ρ,O,R,c.1,λv H1 s1 a1=>⟨B,ρ,O,R.grow s1,c.2,λvs H2 s2 a2=>q _ H2 (s1.trans s2) ⟨v,vs,rfl,At.mono (jD s2) _ _ a1,a2⟩⟩⟩
end
structure Ps where
 nx:En->Prop
 rt:PV->Prop
 rl:List Int->Prop:=λ_=>False
 rn:PV->Prop:=λ_=>False
 bk:En->Prop:=λ_=>False
 ct:En->Prop:=λ_=>False
 er:Addr->Prop:=λ_=>False
abbrev Ps.sq (P:Ps)(k:En->Prop):Ps:={ P with nx:=k }
abbrev Ps.lp (P:Ps)(k:En->Prop):Ps:={ P with nx:=k,ct:=k,bk:=P.nx }
abbrev ER:=Addr->Hp->Prop
abbrev Sh:ER:=λ_ _=>False
abbrev FS:=Ps->En->Prop
def zZ (K:Fg)(G:Gx)(B:Bs)(σ:L2.St)(H:Hp)(ρ:En):Prop:=∃O,Rep K G B σ H ρ O
structure Su (K:Fg)(G:Gx)(Er:ER)(B:Bs)(P:Ps)(D:Ends):Prop where
 nx:∀σ H ρ,zZ K G B σ H ρ->P.nx ρ->D.nx σ H
 rt:∀v H p,Same B.H0 H->At K G (mn H B.Oc) p v->P.rt p->D.rt v H
 rl:∀a H ns,Same B.H0 H->B.H0 a=none->H a=some (.lst (ns.map V.int))->P.rl ns->D.rt (.ref a) H
 rn:∀v H p,Same B.H0 H->At K G (mn H λa=>(B.H0 a).isSome) p v->P.rn p->D.rt v H
 bk:∀σ H ρ,zZ K G B σ H ρ->P.bk ρ->D.bk σ H
 ct:∀σ H ρ,zZ K G B σ H ρ->P.ct ρ->D.ct σ H
 er:∀H C,Same B.H0 H->P.er C->Er C H
def ts (K:Fg)(G:Gx)(Er:ER)(f:FS):TS:=λD σ H=>∃B ρ P,zZ K G B σ H ρ/\f P ρ/\Su K G Er B P D
section
variable {X:Cx}{G:Gx}{Er:ER}{pos:Pos}{st:Stmt}{sts:List Stmt}{f f1 f2:FS}{C:En->Prop}{e:Expr}{t:TS}
theorem toS (h:PS X st t)(k:∀B σ H ρ O P D,Rep X.K G B σ H ρ O->f P ρ->Su X.K G Er B P D->t D σ H):PS X st (ts X.K G Er f):=
 λpins s σ H D I ⟨B,ρ,P,⟨O,R⟩,c,w⟩=>h pins s σ H D I (k B σ H ρ O P D R c w)
theorem gC:PSs X [] (ts X.K G Er λP ρ=>P.nx ρ):=λpins s σ H D I ⟨_,ρ,_,R,c,w⟩=>pss_nil pins s σ H D I (w.nx σ H ρ R c)
theorem fX (h:PS X st (ts X.K G Er f)):PSs X [st] (ts X.K G Er f):=pss_one h
theorem fV (h1:PS X st (ts X.K G Er f1))(h2:PSs X sts (ts X.K G Er f2)):PSs X (st::sts) (ts X.K G Er λP ρ=>f1 (P.sq (f2 P)) ρ):=
 λpins s σ H D I ⟨B,ρ,P,R,c,w⟩=>pss_cons h1 h2 pins s σ H D I ⟨B,ρ,{ P with nx:=f2 P },R,c,⟨λ_ _ ρ' R' c'=>⟨B,ρ',P,R',c',w⟩,w.rt,w.rl,w.rn,w.bk,w.ct,w.er⟩⟩
theorem lr (h1:PS X st (ts X.K G Er f1))(h2:PSs X sts (ts X.K G Er f2)):PSs X (st::sts) (ts X.K G Er λP ρ=>∃J:En->Prop,f1 (P.sq J) ρ/\∀ρ',J ρ' -> f2 P ρ'):=
 λpins s σ H D I ⟨B,ρ,P,R,⟨J,c,k⟩,w⟩=>pss_cons h1 h2 pins s σ H D I ⟨B,ρ,{ P with nx:=J },R,c,⟨λ_ _ ρ' R' c'=>⟨B,ρ',P,R',k ρ' c',w⟩,w.rt,w.rl,w.rn,w.bk,w.ct,w.er⟩⟩
theorem Bu (i:Nat)(h:PSs X sts (ts X.K G Er f)):PSs X sts (ts X.K G Er λP ρ=>f P (frz ρ i)):=
 λpins s σ H D I ⟨B,ρ,P,⟨_,R⟩,c,w⟩=>h pins s σ H D I ⟨B,frz ρ i,P,R.freeze i,c,w⟩
theorem gr (h:PE X e (tX X.K G C g)):PS X (.Return (some e) pos) (ts X.K G Er λP ρ=>C ρ/\P.rt (g ρ)):=
 toS (ps_ret h) λB _ _ ρ O _ _ R c w=>⟨B,ρ,O,R,c.1,λv H1 s1 a1=>w.rt v H1 _ (R.same.trans s1) (At.mono (mH R.hid) _ _ a1) c.2⟩
theorem G8 (i:Nat)(hN:X.N[i]?=some x:=by rfl)(hv:Vis X.env.scope x:=by walk_at "v")
  (hd:(x == ("__debug__":Str))=false:=by decide) (hcd:(x == ("__classdict__":Str))=false:=by decide):PS X (.Return (some (.Name x px)) pos) (ts X.K G Er λP ρ=>Sq ρ i/\P.rl (getL ρ i)):=
 toS (ps_ret (pe_var hN hv hd hcd)) λB _ H ρ O _ _ R c w=>by obtain⟨a,vs,e1,e2,e3,e4,e5⟩:=R.ow i _ c.1;have e5:vs=(getL ρ i).map V.int:=e5;subst e5;exact⟨_,e1,w.rl a H _ R.same e3 e4 c.2⟩
theorem sY (hN:X.N.Nodup)(hi:X.N[i]?=some x)(hx:Loc X.env.scope x)(he:PE X e (tX X.K G C g))(hs:swapsWith e (some (.Name x pos')) pos.line X.env=pure false:=by rfl)
  (hf:X.fn x=true\/X.env.scope.names.lookup x=some .local:=by walk_at "w"):PS X (.Assign [.Name x pos'] e pos) (ts X.K G Er λP ρ=>C ρ/\P.nx (ρ.set i (.fr (g ρ)))):=
 toS (ps_set hN hi hx he hs hf) λB σ _ ρ O _ _ R c w=>⟨B,ρ,O,R,c.1,λ_ H1 s1 a1=>w.nx _ H1 _ ⟨O,(R.grow s1).set a1⟩ c.2⟩
theorem jE (hN:X.N.Nodup)(hi:X.N[i]?=some x)(hx:Loc X.env.scope x)(he:PE X e (tX X.K G C g))(hs:swapsWith e (some (.Name x pos')) pos.line X.env=pure false:=by rfl)
  (hf:X.fn x=true\/X.env.scope.names.lookup x=some .local:=by walk_at "w"):PS X (.Assign [.Name x pos'] e pos) (ts X.K G Er λP ρ=>C ρ/\∀p,p=g ρ->P.nx (ρ.set i (.fr p))):=
 toS (sY hN hi hx he hs hf) λB σ _ ρ O P D R c w=>⟨B,ρ,P,⟨O,R⟩,⟨c.1,c.2 _ rfl⟩,w⟩
theorem jW (hN:X.N.Nodup)(hi:X.N[i]?=some x)(hx:Loc X.env.scope x)(he:PE X e (iu X.K G C g))(hs:swapsWith e (some (.Name x pos')) pos.line X.env=pure false:=by rfl)
  (hf:X.fn x=true\/X.env.scope.names.lookup x=some .local:=by walk_at "w"):PS X (.Assign [.Name x pos'] e pos) (ts X.K G Er λP ρ=>C ρ/\∀n,n=g ρ->P.nx (ρ.set i (.fr (.int n)))):=
 toS (sY hN hi hx he hs hf) λB σ _ ρ O P D R c w=>⟨B,ρ,P,⟨O,R⟩,⟨c.1,c.2 _ rfl⟩,w⟩
theorem zF (hN:X.N.Nodup)(hi:X.N[i]?=some x)(hx:Loc X.env.scope x)(he:PE X e (M9 X.K G C g))(hs:swapsWith e (some (.Name x pos')) pos.line X.env=pure false:=by rfl)
  (hf:X.fn x=true\/X.env.scope.names.lookup x=some .local:=by walk_at "w"):PS X (.Assign [.Name x pos'] e pos) (ts X.K G Er λP ρ=>C ρ/\∀ns,ns=g ρ->P.nx (ρ.set i (.fr (.ints ns)))):=
 toS (sY hN hi hx he hs hf) λB σ _ ρ O P D R c w=>⟨B,ρ,P,⟨O,R⟩,⟨c.1,c.2 _ rfl⟩,w⟩
theorem Hx (hN:X.N.Nodup)(hi:X.N[i]?=some x)(hx:Loc X.env.scope x)(he:PE X e (JP X.K G C g))(hs:swapsWith e (some (.Name x pos')) pos.line X.env=pure false:=by rfl)
  (hf:X.fn x=true\/X.env.scope.names.lookup x=some .local:=by walk_at "w"):PS X (.Assign [.Name x pos'] e pos) (ts X.K G Er λP ρ=>C ρ/\∀ns,ns=g ρ->P.nx (ρ.set i (.ow (.lst ns)))):=
 toS (ps_set hN hi hx he hs hf) λB σ _ ρ O _ _ R c w=>⟨B,ρ,O,R,c.1,λa vs H1 s1 n1 e1 al=>w.nx _ H1 _ ⟨hide a O,R.new (p:=.lst (g ρ)) s1 n1 e1 al⟩ (c.2 _ rfl)⟩
theorem gJ [∀ρ,Decidable (p ρ)](hc:PT X c (qH X.K G C p))(ha:PSs X a (ts X.K G Er f1))(hb:PSs X b (ts X.K G Er f2)):PS X (.If c a b pos) (ts X.K G Er λP ρ=>C ρ/\(p ρ->f1 P ρ)/\(¬p ρ->f2 P ρ)):=
 toS (ps_if hc ha hb) λB σ _ ρ O P D R c w=>⟨B,ρ,O,R,c.1,λH1 s1=>by
  by_cases d:p ρ
  ·rw[aW d];refine iteT ?_;exact⟨B,ρ,P,⟨O,R.grow s1⟩,c.2.1 d,w⟩
  ·rw[aQ d];refine iteF ?_;exact⟨B,ρ,P,⟨O,R.grow s1⟩,c.2.2 d,w⟩⟩
theorem Im {B:Bs}{σ:L2.St}{H:Hp}{ρ:En}{O:Addr->Bool}{K:Fg}{P:Ps}{D:Ends}(R:Rep K G B σ H ρ O)(w:Su K G Er B P D):Su K G Er (B.at H O) P D:=
 ⟨λσ' H' ρ' ⟨O',R'⟩ h=>w.nx σ' H' ρ' ⟨O',R.Cu R'⟩ h,λv H' p s a h=>w.rt v H' p (R.jo.trans s) a h,λa H' ns s n e h=>w.rl a H' ns (R.jo.trans s) (R.jo.free n) e h,λv H' p s a h=>w.rn v H' p (R.jo.trans s) (At.mono (mH λb z=>by
  obtain⟨o,e⟩:=bN.mp z;exact bN.mpr (R.jo _ _ e).some) _ _ a) h,λσ' H' ρ' ⟨O',R'⟩ h=>w.bk σ' H' ρ' ⟨O',R.Cu R'⟩ h,λσ' H' ρ' ⟨O',R'⟩ h=>w.ct σ' H' ρ' ⟨O',R.Cu R'⟩ h,λH' C s h=>w.er H' C (R.jo.trans s) h⟩
end
theorem getD_at {ns:Li}{i:Int}(h1:-(ns.length:Int)<=i)(h2:i<ns.length):atI (ns.map V.int) i=some (V.int (ns.getD (if 0<=i then i else i+ns.length).toNat 0)):=by
 by_cases c0:0<=i
 ·rw[ak c0];exact tD c0 h2
 ·rw[ai c0];have q2:=tD (ns:=ns) (i:=i+ns.length) (by lia) (by lia);unfold atI ixN at q2 ⊢;rw[ag]at q2 ⊢;rw[ak (show 0<=i+(ns.length:Int) by lia),ak (show i+(ns.length:Int)<(ns.length:Int) by lia)]at q2;rw[ai c0,ak h1];exact q2
def iw (n:Nat)(i:Int):Nat:=(if 0<=i then i else i+n).toNat
theorem Ow {n:Nat}(h1:-(n:Int)<=i)(h2:i<n):ixN n i=some (iw n i):=by
 unfold ixN iw;by_cases c:0<=i
 ·rw[ak c,ak h2,ak c]
 ·rw[ai c,ak h1,ai c]
theorem HJ {n:Nat}(h1:-(n:Int)<=i)(h2:i<n):iw n i<n:=by
 unfold iw;by_cases c:0<=i
 ·rw[ak c];lia
 ·rw[ai c];lia
section
variable {X:Cx}{G:Gx}{Er:ER}{a b e:Expr}{pos p px:Pos}{C Ca Cb:En->Prop}{ga gb:En->Int}{i:Nat}{es:List Expr}
theorem iC (i:Nat)(hb:PE X b (iu X.K G Cb gb))(hs:PlainIx b)(hN:X.N[i]?=some x:=by rfl)(hv:Vis X.env.scope x:=by walk_at "v")
  (hd:(x == ("__debug__":Str))=false:=by decide) (hcd:(x == ("__classdict__":Str))=false:=by decide) :
  PE X (.Subscript (.Name x px) b pos) (iu X.K G (λρ=>CQ ρ i/\Cb ρ /\ -((getL ρ i).length:Int)<=gb ρ/\gb ρ<((getL ρ i).length:Int)) λρ=>(getL ρ i).getD (iw (getL ρ i).length (gb ρ)) 0):=
 jz (pe_ix ix_list (pe_var hN hv hd hcd) hb hs) λB σ H ρ O Q R c q=>by obtain⟨a,e1,e2⟩:=R.Hl c.1;exact⟨_,e1,B,ρ,O,R,c.2.1,λu H1 s1 a1=>⟨a,_,_,_,rfl,a1,s1.seq e2,getD_at c.2.2.1 c.2.2.2,q _ H1 s1 rfl⟩⟩
theorem vf (i:Nat)(hm:X.mg "len"=none)(hN:X.N[i]?=some x:=by rfl)(hg:Gl X "len":=by rfl)(hv:Vis X.env.scope x:=by walk_at "v")
  (hd:(x == ("__debug__":Str))=false:=by decide) (hcd:(x == ("__classdict__":Str))=false:=by decide) (he:starEach [.Name x px] X.env=[(false,eval (.Name x px) X.env)]:=by rfl) :
  PE X (.Call (.Name "len" p) [.Name x px] [] pos) (iu X.K G (λρ=>CQ ρ i) λρ=>((getL ρ i).length:Int)):=
 jz (pe_callB call_len_seq hg hm uE (pa_cons (pe_var hN hv hd hcd) pa_nil he) (by decide) (by decide) he rfl) λB σ H ρ O Q R c q=>by obtain⟨a,e1,e2⟩:=R.Hl c;exact⟨_,e1,a,_,rfl,.inl e2,by rw[ag];exact q _ H (Same.refl H) rfl⟩
def Qi:PV->Int
 | .ints ns=>(ns.length:Int)
 | .scr ns=>(ns.length:Int)
 | .lst xs=>(xs.length:Int)
 | .tup xs=>(xs.length:Int)
 |_=>0
def G5:PV->Prop
 | .ints _=>True
 | .scr _=>True
 | .lst _=>True
 | .tup _=>True
 |_=>False
theorem At.len {K:Fg}{H:Hp}{p:PV}{v:V}(h:At K G H p v)(hl:G5 p):∃a ys,v=.ref a/\(SqL K H a ys\/SqT K H a ys)/\(ys.length:Int)=Qi p:=by
 cases p<;>first|exact hl.elim|skip
 ·obtain⟨a,e,q⟩:=h;exact⟨a,_,e,.inl (.inl q),by rw[ag];rfl⟩
 ·obtain⟨a,e,q⟩:=h;exact⟨a,_,e,.inl q,by rw[ag];rfl⟩
 ·obtain⟨a,vs,e,q,r⟩:=h;exact⟨a,vs,e,.inl (.inl q),by rw[<- r.length];rfl⟩
 ·obtain⟨a,vs,e,q,r⟩:=h;exact⟨a,vs,e,.inr (SqT.of q),by rw[<- r.length];rfl⟩
theorem yw {g:En->PV}(hm:X.mg "len"=none)(ha:PE X a (tX X.K G C g))(hg:Gl X "len":=by rfl)(he:starEach [a] X.env=[(false,eval a X.env)]:=by rfl) :
  PE X (.Call (.Name "len" p) [a] [] pos) (iu X.K G (λρ=>C ρ/\G5 (g ρ)) λρ=>Qi (g ρ)):=
 jz (pe_callB call_len_seq hg hm uE (pa_cons ha pa_nil he) (by decide) (by decide) he rfl) λB σ H ρ O Q R c q=>⟨B,ρ,O,R,c.1,λv H1 s1 a1=>by
  obtain⟨a,ys,e,s,l⟩:=a1.len c.2;exact⟨a,ys,by rw[e],s.imp (λz=>iU.seq z) (λz=>Hr iU z),by rw[l];exact q _ H1 s1 rfl⟩⟩
def qW:PV->Int->PV
 | .lst xs,k=>xs.getD (iw xs.length k) .non
 | .tup xs,k=>xs.getD (iw xs.length k) .non
 | .ints ns,k=>.int (ns.getD (iw ns.length k) 0)
 |_,_=>.non
def DY:PV->Int->Prop
 | .lst xs,k=>-(xs.length:Int)<=k/\k<xs.length
 | .tup xs,k=>-(xs.length:Int)<=k/\k<xs.length
 | .ints xs,k=>-(xs.length:Int)<=k/\k<xs.length
 |_,_=>False
theorem jn.item {K:Fg}{H:Hp}{ps:List PV}{vs:List V}{k:Int}(h:jn K G H ps vs)(h1:-(ps.length:Int)<=k)(h2:k<ps.length):∃v,atI vs k=some v/\At K G H (ps.getD (iw ps.length k) .non) v:=by
 have l:=HJ h1 h2;have e:ps[iw ps.length k]?=some (ps.getD (iw ps.length k) .non):=by rw[gQ,ap l];rfl
 obtain⟨v,ev,av⟩:=h.at e;refine⟨v,?_,av⟩;unfold atI;rw[<- h.length,Ow h1 h2];exact ev
theorem iV {g:En->PV}(ha:PE X a (tX X.K G Ca g))(hb:PE X b (iu X.K G Cb gb))(hs:PlainIx b):PE X (.Subscript a b pos) (tX X.K G (λρ=>Ca ρ/\Cb ρ/\DY (g ρ) (gb ρ)) λρ=>qW (g ρ) (gb ρ)):=
 jz (pe_ix ix_seq ha hb hs) λB σ H ρ O Q R c q=>two R c.1 c.2.1 λv u H1 H2 s1 s2 a1 a2=>by
  have h:=c.2.2;revert a1 h q;generalize g ρ=pg;intro q a1 h;cases pg<;>first|exact h.elim|skip
  ·obtain⟨p,e,r⟩:=a1;exact .inl ⟨p,_,_,_,e,a2,.inl (iG iU r),getD_at h.1 h.2,q _ H2 (s1.trans s2) rfl⟩
  ·obtain⟨p,vs,e,r,t⟩:=a1;obtain⟨v',e',a'⟩:=t.item h.1 h.2;exact .inl ⟨p,vs,_,v',e,a2,.inl (iG iU r),e',q _ H2 (s1.trans s2) a'⟩
  ·obtain⟨p,vs,e,r,t⟩:=a1;obtain⟨v',e',a'⟩:=t.item h.1 h.2;exact .inr (.inl ⟨p,vs,_,v',e,a2,SqT.of (iU _ _ r),e',q _ H2 (s1.trans s2) a'⟩)
theorem K8 (i:Nat)(hN:X.N[i]?=some x:=by rfl)(hv:Vis X.env.scope x:=by walk_at "v")
  (hd:(x == ("__debug__":Str))=false:=by decide) (hcd:(x == ("__classdict__":Str))=false:=by decide):PT X (.Name x pos) (qH X.K G (λρ=>CQ ρ i) λρ=>¬getL ρ i=[]):=
 λpins s σ H Q I ⟨B,ρ,O,R,c,q⟩=>pt_truth (pe_var hN hv hd hcd) (λ_=>rfl) pins s σ H Q I (by
  obtain⟨a,e1,e2⟩:=R.Hl c;refine⟨_,e1,_,.inl ⟨_,e2,rfl⟩,?_⟩;have z:=q H (Same.refl H);have e:(!((getL ρ i).map V.int).isEmpty)=decide (¬getL ρ i=[]):=by cases getL ρ i<;>simp
  rw[e];exact z)
def q8:List PV->List Int
 | .int n::r=>n::q8 r
 |_=>[]
def Gr:List PV->Prop
 |[]=>True
 | .int _::r=>Gr r
 |_=>False
theorem jn.ints {K:Fg}{H:Hp}:∀{ps:List PV} {vs:List V},jn K G H ps vs->Gr ps->vs=(q8 ps).map V.int
 |[],_,h,_=>h
 |p::ps,_,h,c=>by
  cases p<;>first|exact c.elim|skip
  obtain⟨v,r,rfl,e,t⟩:=h;rw[e,jn.ints t c];rfl
theorem yl {gs:En->List PV}(h:PA X es (yJ X.K G C gs))(hz:∀ρ,(gs ρ).length<=1000:=by intro _;exact cT rfl):PE X (.List es pos) (Jt X.K G (λρ=>C ρ/\Gr (gs ρ)) λρ=>q8 (gs ρ)):=
 Lj (pe_lst h) λB σ H ρ O Q R c q=>⟨B,ρ,O,R,c.1,λvs H1 s1 a1=>⟨by rw[<- a1.length];exact b0 (small1000 (hz ρ)),λa ha=>by
  have e:=a1.ints c.2;refine q a _ (s1.trans (same_new ha _)) (s1.free ha) ?_;rw[upd_same,e]⟩⟩
theorem mR (h:PA X es (yJ X.K G C gs))(hz:∀ρ,(gs ρ).length<=1000:=by intro _;exact cT rfl):PE X (.List es pos) (JP X.K G C gs):=
 λpins s σ H Q I ⟨B,ρ,O,R,c,q⟩=>pe_lst h pins s σ H Q I ⟨B,ρ,O,R,c,λvs H1 s1 a1=>⟨by rw[<- a1.length];exact b0 (small1000 (hz ρ)),λa ha=>
  q a vs _ (s1.trans (same_new ha _)) (s1.free ha) upd_same (jn.mono (mF (same_new ha _) ha) _ _ a1)⟩⟩
theorem xG (h:PA X es (yJ X.K G C gs))(hz:∀ρ,(gs ρ).length<=1000:=by intro _;exact cT rfl):PE X (.Tuple es x1 pos) (tX X.K G C λρ=>.tup (gs ρ)):=
 jz (pe_tup h) λB σ H ρ O Q R c q=>⟨B,ρ,O,R,c,λvs H1 s1 a1=>⟨by rw[<- a1.length];exact b0 (small1000 (hz ρ)),λa ha=>by
  have o:O a=false:=by
   cases z:O a with
   |false=>rfl
   |true=>exact absurd (s1.free ha) (R.dom a z)
  refine q (.ref a) _ (s1.trans (same_new ha _)) ⟨a,vs,rfl,by rw[ju o];exact upd_same,jn.mono (jD (same_new ha _)) _ _ a1⟩⟩⟩
def Sv (K:Fg)(G:Gx)(C:En->Prop)(g:En->Option Int):TO:=λσ H Q=>∃B ρ O,Rep K G B σ H ρ O/\C ρ/\∀H',Same H H' -> Q (g ρ) H'
theorem tU:PO X none (Sv X.K G (λ_=>True) λ_=>none):=λpins s σ H Q I ⟨_,_,_,_,_,q⟩=>po_none pins s σ H Q I (q H (Same.refl H))
theorem tH (h:PE X e (iu X.K G C ga)):PO X (some e) (Sv X.K G C λρ=>some (ga ρ)):=λpins s σ H Q I ⟨B,ρ,O,R,c,q⟩=>po_some h pins s σ H Q I ⟨B,ρ,O,R,c,λ_ H1 s1 a1=>⟨_,a1,q H1 s1⟩⟩
theorem Inv.K5 {X:Cx}{pins:List (Addr×Obj)}{σ:L2.St}{H:Hp}{s:Shared}{l:Addr}{xs:List V}(I:Inv X pins σ H s)(hH:Rd H l (.lst xs)):xs.length<=sizeLine/\∃(its:Lv) (n:Nat),Vals xs its/\xs.length=its.length/\s.heap.get? l=some { cls:=.type "list",data:=.seq its.toArray n }:=by obtain⟨z,its,n,r,e⟩:=hH.ok I.hok;exact⟨z,its,n,r,r.length,e⟩
def QZ:R2:=λx y H Q=>∃l b xs zs,x=.ref l/\y=.ref b/\Rd H l (.lst xs)/\Rd H b (.lst zs)/\xs.length+zs.length<=sizeLine/\∀p,H p=none->Q (.ref p) (upd H p (.lst (xs++zs)))
theorem Du:OpR X (binaryOp .Add) QZ:=by
 intro pins s σ H x y v u Q I rx ry h;obtain⟨l,b,xs,zs,rfl,rfl,hH,hB,hz,q⟩:=h;cases rx;cases ry;obtain⟨z,its,n,r,hl,e⟩:=Inv.K5 I hH;obtain⟨z2,its2,n2,r2,hl2,e2⟩:=Inv.K5 I hB;refine PySem.P.add_list e e2 ?_ (by rw[aJ,aJ];lia);have ea:its.toArray++its2.toArray=(its++its2).toArray:=by simp
 rw[ea];exact⟨.ref _,_,I.lnew (t':=s.toks) (r.append r2) (by rw[ar];lia),rfl,q _ I.fresh⟩
theorem G9 (ha:PE X a (M9 X.K G Ca gl))(hb:PE X b (M9 X.K G Cb hl)):PE X (.BinOp a .Add b pos) (Jt X.K G (λρ=>Ca ρ/\Cb ρ/\(gl ρ).length+(hl ρ).length<=sizeLine) λρ=>gl ρ++hl ρ):=
 Lj (pe_op Du ha hb) λB σ H ρ O Q R c q=>two R c.1 c.2.1 λv u H1 H2 s1 s2 a1 a2=>by obtain⟨l,rfl,r1⟩:=a1;obtain⟨b,rfl,r2⟩:=a2;refine⟨l,b,_,_,rfl,rfl,iG iU r1,iG iU r2,by rw[ag,ag];exact c.2.2,λp hp=>q p _ ((s1.trans s2).trans (same_new hp _)) ((s1.trans s2).free hp) ?_⟩;rw[upd_same,bq]
theorem Ac {α:Type}(x:α):∀k:Nat,(List.replicate k [x]).flatten=List.replicate k x
 |0=>rfl
 |k+1=>by rw[cn,bO,Ac x k];rfl
theorem Jy {gl:En->List Int}{n:En->Int}(ha:PE X a (Jt X.K G Ca gl))(hb:PE X b (iu X.K G Cb gb))(hn:∀ρ,gl ρ=[n ρ]):PE X (.BinOp a .Mult b pos) (Jt X.K G (λρ=>Ca ρ/\Cb ρ /\ -(2^63)<=gb ρ/\(gb ρ).toNat<=1000) λρ=>List.replicate (gb ρ).toNat (n ρ)):=
 Lj (pe_op op_rep ha hb) λB σ H ρ O Q R c q=>⟨B,ρ,O,R,c.1,λl H1 s1 n1 e1=>⟨B,ρ,O,R.grow s1,c.2.1,λu H2 s2 a2=>by
  rw[hn ρ]at e1;refine⟨l,_,_,rfl,a2,s2 _ _ e1,c.2.2.1,by have:=c.2.2.2;lia,?_,λp hp=>q p _ ((s1.trans s2).trans (same_new hp _)) ((s1.trans s2).free hp) ?_⟩
  ·rw[bo,dX,bP,fT];exact b0 (small1000 c.2.2.2)
  ·rw[upd_same,bo,dX,Ac,List.map_replicate]⟩⟩
end
def yK (K:Fg)(G:Gx)(pre:List PV->Prop)(F:List PV->PV):Sp:=λvs H Q _=>∃as O,(∀a,O a=true->H a≠none)/\jn K G (mn H O) as vs/\pre as/\∀v H',Same H H' -> At K G (mn H' O) (F as) v->Q v H'
def Td (K:Fg)(G:Gx)(pre:List PV->Prop)(F:List PV->List Int):Sp:=λvs H Q _=>∃as O,(∀a,O a=true->H a≠none)/\jn K G (mn H O) as vs/\pre as/\∀a H',Same H H' -> H a=none->H' a=some (.lst ((F as).map V.int))->Q (.ref a) H'
section
variable {X:Cx}{G:Gx}{Er:ER}{e:Expr}{es:List Expr}{pos p:Pos}{j k:Nat}{x:Str}{ps:List Str}{pre:List PV->Prop}{C:En->Prop}{gs:En->List PV}
theorem xc (o:Ok X.prog X.w X.K X.mg X.base j x ps (yK X.K G pre F))(hr:Room k X.A)(ha:PA X (e::es) (yJ X.K G C gs))(hj:j<=k:=by decide)(hg:Gl X x:=by rfl)(hdb:(x == ("__debug__":Str))=false:=by decide)
  (he:starEach (e::es) X.env=(false,eval e X.env)::starEach es X.env:=by rfl) (hpl:(backTo pos (starEach es X.env)).any (·.1)=false:=by rfl) :
  PE X (.Call (.Name x p) (e::es) [] pos) (tX X.K G (λρ=>C ρ/\pre (gs ρ)) λρ=>F (gs ρ)):=
 jz (qj o hr ha hj hg hdb he hpl) λB σ H ρ O Q R c q=>⟨B,ρ,O,R,c.1,λvs H1 s1 a1=>by
  dsimp only;rw[aU];exact⟨gs ρ,O,(R.grow s1).dom,a1,c.2,λv H2 s2 a2=>q v H2 (s1.trans s2) a2⟩⟩
theorem Up (o:Ok X.prog X.w X.K X.mg X.base j x ps (Td X.K G pre F))(hr:Room k X.A)(ha:PA X (e::es) (yJ X.K G C gs))(hj:j<=k:=by decide)(hg:Gl X x:=by rfl)(hdb:(x == ("__debug__":Str))=false:=by decide)
  (he:starEach (e::es) X.env=(false,eval e X.env)::starEach es X.env:=by rfl) (hpl:(backTo pos (starEach es X.env)).any (·.1)=false:=by rfl) :
  PE X (.Call (.Name x p) (e::es) [] pos) (Jt X.K G (λρ=>C ρ/\pre (gs ρ)) λρ=>F (gs ρ)):=
 Lj (qj o hr ha hj hg hdb he hpl) λB σ H ρ O Q R c q=>⟨B,ρ,O,R,c.1,λvs H1 s1 a1=>by
  dsimp only;rw[aU];exact⟨gs ρ,O,(R.grow s1).dom,a1,c.2,λa H2 s2 n2 e2=>q a H2 (s1.trans s2) (s1.free n2) e2⟩⟩
end
def jt (N:List Str)(as:List PV):En:=as.map Sl.fr++List.replicate (N.length-as.length) .un
theorem oE {K:Fg}{G:Gx}{H:Hp}{O:Addr->Bool}{as:List PV}{vs:List V}{N:Ls}(hd:∀a,O a=true->H a≠none)(h:jn K G (mn H O) as vs):Rep K G ⟨H,O⟩ (L2.start N vs) H (jt N as) O:=by
 have hl:=h.length;refine⟨Same.refl H,hd,λ_ z=>z,hd,λ_ z=>.inl z,λi p e=>?_,λi p e=>?_,λi j p q a e=>?_,by unfold L2.start jt;simp[hl],λi xs ys e=>?_⟩
 ·unfold jt at e;by_cases c:i<as.length
  ·rw[br (by rw[ag];exact c),aT]at e;cases e':as[i]? with
   |none=>rw[e']at e;cases e
   |some p'=>rw[e']at e;cases e;obtain⟨v,ev,av⟩:=h.at e';refine⟨v,?_,av⟩;unfold L2.start;rw[br (by rw[ag,<- hl];exact c),aT,ev];rfl
  ·rw[bh (by rw[ag];lia),bX]at e;split at e<;>cases e
 ·exfalso;unfold jt at e;by_cases c:i<as.length
  ·rw[br (by rw[ag];exact c),aT]at e;cases e':as[i]? <;> rw[e']at e<;>cases e
  ·rw[bh (by rw[ag];lia),bX]at e;split at e<;>cases e
 ·exfalso;unfold jt at e;by_cases c:i<as.length
  ·rw[br (by rw[ag];exact c),aT]at e;cases e':as[i]? <;> rw[e']at e<;>cases e
  ·rw[bh (by rw[ag];lia),bX]at e;split at e<;>cases e
 ·exfalso;unfold jt at e;by_cases c:i<as.length
  ·rw[br (by rw[ag];exact c),aT]at e;cases e':as[i]? <;> rw[e']at e<;>cases e
  ·rw[bh (by rw[ag];lia),bX]at e;split at e<;>cases e
section
variable {P:Program}{w:World}{K:Fg}{mg:Mg}{base:Heap}{G:Gx}
theorem Bl {x:Str}{st:Stmt}{N ps:Ls}{k:Nat}{pre:List PV->Prop}{F:List PV->PV}(d:lO K mg x st ps)(S:FnScope N ps (defScope st))(len:∀as,pre as->as.length=ps.length)
  (hbody:∀(f:Addr) (cdv:Value) (A:Around) (outer:List Env) (s:Shared) (H:Hp) (E:XK),Room k (A.deeper (envOfC x (defScope st) s.heap.objs.size f cdv)) ->
   ∃fs,PSs (cxOf CX0 P w K mg base N x (defScope st) f cdv A outer s H E).nox (defBody st) (ts K G Sh fs)/\∀as,pre as->fs { nx:=λ_=>F as=.non,rt:=λp=>p=F as,rl:=λns=>F as=.ints ns } (jt N as)):Ok P w K mg base (k+1) x ps (yK K G pre F):=by
 refine lO.ok d S (λvs H Q E h=>?_) λf cdv A outer s H vs Q E hr h=>?_
 ·obtain⟨as,O,_,al,hp,_⟩:=h;rw[<- al.length];exact len as hp
 obtain⟨as,O,hd,al,hp,q⟩:=h;obtain⟨fs,b,c⟩:=hbody f cdv A outer s H E hr;refine⟨_,b,⟨H,O⟩,jt N as,_,⟨O,oE hd al⟩,c as hp,⟨λσ' H' ρ' R' h=>?_,λv H' p s' a' h=>?_,λa H' ns s' n e h=>?_,λ_ _ _ _ _ h=>h.elim,λ_ _ _ _ h=>h,λ_ _ _ _ h=>h,λ_ _ _ h=>h⟩⟩
 ·obtain⟨O',R'⟩:=R';exact q .non H' R'.same (by rw[show F as=.non from h];rfl)
 ·subst h;exact q v H' s' a'
 ·refine q _ H' s' ?_;rw[h];exact⟨a,rfl,.inl (by
   rw[ju]
   ·exact e
   ·cases z:O a with
    |false=>rfl
    |true=>exact absurd n (hd a z))⟩
theorem T8 {x:Str}{st:Stmt}{N ps:Ls}{k:Nat}{pre:List PV->Prop}{F:List PV->List Int}(d:lO K mg x st ps)(S:FnScope N ps (defScope st))(len:∀as,pre as->as.length=ps.length)
  (hbody:∀(f:Addr) (cdv:Value) (A:Around) (outer:List Env) (s:Shared) (H:Hp) (E:XK),Room k (A.deeper (envOfC x (defScope st) s.heap.objs.size f cdv)) ->
   ∃fs,PSs (cxOf CX0 P w K mg base N x (defScope st) f cdv A outer s H E).nox (defBody st) (ts K G Sh fs)/\∀as,pre as->fs { nx:=λ_=>False,rt:=λ_=>False,rl:=λns=>ns=F as } (jt N as)):Ok P w K mg base (k+1) x ps (Td K G pre F):=by
 refine lO.ok d S (λvs H Q E h=>?_) λf cdv A outer s H vs Q E hr h=>?_
 ·obtain⟨as,O,_,al,hp,_⟩:=h;rw[<- al.length];exact len as hp
 obtain⟨as,O,hd,al,hp,q⟩:=h;obtain⟨fs,b,c⟩:=hbody f cdv A outer s H E hr;refine⟨_,b,⟨H,O⟩,jt N as,_,⟨O,oE hd al⟩,c as hp,⟨λ_ _ _ _ h=>h.elim,λ_ _ _ _ _ h=>h.elim,λa H' ns s' n e h=>?_,λ_ _ _ _ _ h=>h.elim,λ_ _ _ _ h=>h,λ_ _ _ _ h=>h,λ_ _ _ h=>h⟩⟩;subst h;exact q a H' s' n e
end
def TY (pre:List Int->Prop)(F:List Int->List Int):Sp:=λvs H Q _=>∃a ns,vs=[.ref a]/\H a=some (.lst (ns.map V.int))/\pre ns/\∀H',(∀b o,b≠a->H b=some o->H' b=some o)->H' a=some (.lst ((F ns).map V.int))->Q .non H'
theorem N6 (h:∀b o,b≠a->H b=some o->H' b=some o)(e:H' a=some o):Same (upd H a o) H':=mV λb u z=>by
 by_cases c:b=a
 ·subst c;rw[upd_same]at z;cases z;exact e
 ·rw[upd_ne c]at z;exact h b u c z
section
variable {X:Cx}{G:Gx}{Er:ER}{e b:Expr}{pos px pa pc:Pos}{i j k:Nat}{x y:Str}{C Cb:En->Prop}{g gb:En->Int}
theorem Lx (i:Nat)(o:Ok X.prog X.w X.K X.mg X.base j y ps (TY pre F))(hr:Room k X.A)(hj:j<=k:=by decide)(hg:Gl X y:=by rfl)
  (hN:X.N[i]?=some x:=by rfl) (hv:Vis X.env.scope x:=by walk_at "v") (hd:(x == ("__debug__":Str))=false:=by decide) (hcd:(x == ("__classdict__":Str))=false:=by decide)
  (hdb:(y == ("__debug__":Str))=false:=by decide) (he:starEach (.Name x px::[]) X.env=(false,eval (.Name x px) X.env)::starEach [] X.env:=by rfl) (hpl:(backTo pc (starEach [] X.env)).any (·.1)=false:=by rfl)
  (hsw:swapsWith (.Call (.Name y pa) [.Name x px] [] pc) none pos.line X.env=pure false:=by rfl) :
  PS X (.Expr (.Call (.Name y pa) [.Name x px] [] pc) pos) (ts X.K G Er λP ρ=>Sq ρ i/\pre (getL ρ i)/\P.nx (ρ.set i (.ow (.ints (F (getL ρ i)))))):=
 toS (ps_expr (qj o hr (pa_cons (pe_var hN hv hd hcd) pa_nil he) hj hg hdb he hpl) hsw) λB σ H ρ O P D R c w=>by obtain⟨c0,c1,c3⟩:=c;obtain⟨a,vs,e1,e2,e3,e4,e5⟩:=R.ow i _ c0;subst e5;exact⟨_,e1,a,_,rfl,e4,c1,λH' k1 k2=>w.nx σ H' _ ⟨O,(R.change c0 e1 (p':=.ints _) rfl).grow (N6 k1 k2)⟩ c3⟩
end
def iM (cap:List (Option Nat))(ρ:En):En:=cap.map λo=>match o with
 |some i=>(match ρ[i]? with
  |some (.fr p)=>.fr p
  |_=>.un)
 |none=>.un
section
variable {K:Fg}{G:Gx}{B:Bs}{σ:L2.St}{H H1:Hp}{ρ:En}{O:Addr->Bool}{D:Addr}{cap:List (Option Nat)}
theorem Es (R:Rep K G B σ H1 ρ O)(hD:H1 D=none)(s:Same H1 H)(hn:H D≠none):Rep K G ⟨H1,O⟩ (jK cap σ) H (iM cap ρ) (hide D O):=by
 refine⟨s,R.dom,lG,λa z y=>?_,λa z=>?_,λj p e=>?_,λj p e=>?_,λi j p q a e=>?_,by unfold jK iM;rw[ag,ag],λj xs ys e=>?_⟩
 ·by_cases c:a=D
  ·subst c;exact hn y
  ·rw[hide_ne c]at z;exact R.dom a z (s.free y)
 ·by_cases c:a=D
  ·subst c;exact .inr hD
  ·rw[hide_ne c]at z;exact .inl z
 ·unfold iM at e;rw[aT]at e;cases ec:cap[j]? with
  |none=>rw[ec]at e;cases e
  |some o=>
   rw[ec]at e;cases o with
   |none=>cases e
   |some i=>
    have e:=aI e;dsimp only at e;split at e
    ·rename_i p' er;cases e;obtain⟨v,e1,e2⟩:=R.fr i p er;refine⟨v,?_,At.mono (mF s hD) _ _ e2⟩;unfold jK;rw[aT,ec];show some ((σ[i]?).join)=some (some v);rw[e1];rfl
    ·cases e
 ·exfalso;unfold iM at e;rw[aT]at e;cases ec:cap[j]? with
  |none=>rw[ec]at e;cases e
  |some o=>
   rw[ec]at e;cases o with
   |none=>cases e
   |some i=>have e:=aI e;dsimp only at e;split at e<;>cases e
 ·exfalso;unfold iM at e;rw[aT]at e;cases ec:cap[i]? with
  |none=>rw[ec]at e;cases e
  |some o=>
   rw[ec]at e;cases o with
   |none=>cases e
   |some i=>have e:=aI e;dsimp only at e;split at e<;>cases e
 ·exfalso;unfold iM at e;rw[aT]at e;cases ec:cap[j]? with
  |none=>rw[ec]at e;cases e
  |some o=>
   rw[ec]at e;cases o with
   |none=>cases e
   |some i=>have e:=aI e;dsimp only at e;split at e<;>cases e
theorem mj:∀σ:L2.St,qU σ σ
 |[]=>tJ
 |none::r=>mj r
 |some _::r=>⟨rfl,mj r⟩
variable {α:Type}{J:It}{g:TG}{C:En->Prop}{gb:En->PV}{Q:VK}
theorem Bd {te:TE}(good:α->Prop)(items:List α)(setσ:α->V->L2.St)(setr:α->En)(val:α->V)(R:Rep K G B σ H1 ρ O)(hD:H1 D=none)(hlen:items.length<=1000)(hgo:∀i H,i<items.length->Same H1 H->J.go i H)
  (hyld:∀i it x H H',items[i]?=some it->Same H1 H->J.yld i H x H' -> Same H H'/\∀k:L2.St->Hp->Prop,k (setσ it (val it)) H' -> g x (jK cap σ) H' k) (hstop:∀H,Same H1 H->J.stop items.length H)
  (hset:∀it H,it∈items->Same H1 H->Rep K G ⟨H1,O⟩ (jK cap σ) H (iM cap ρ) (hide D O)->Rep K G ⟨H1,O⟩ (setσ it (val it)) H (setr it) (hide D O)) (hext:∀it,qU (jK cap σ) (setσ it (val it))) (hC:∀(it:α) (H2:Hp) (Q':VK),it∈items->Same H1 H2->Rep K G ⟨H1,O⟩ (setσ it (val it)) H2 (setr it) (hide D O)->(good it->∀v H',Same H2 H' -> At K G (mn H' (hide D O)) (gb (setr it)) v->Q' v H')->te (setσ it (val it)) H2 Q')
  (hQ:(∀it∈items,good it)->∀H' ys,Same H1 H' -> H' D=some (.lst ys)->jn K G (mn H' (hide D O)) (items.map λit=>gb (setr it)) ys->Q (.ref D) H') :
  ∃W:Nat->Nat->List V->Hp->Prop,(∃m,W 0 m [] (upd H1 D (.lst [])))/\Rj D J (jK cap σ) g rA te Q W:=by
 refine⟨λi m ys H=>m=items.length-i/\i<=items.length/\Same H1 H/\H D=some (.lst ys)/\jn K G (mn H (hide D O)) ((items.take i).map λit=>gb (setr it)) ys/\∀it∈items.take i,good it,⟨items.length,by simp,b6 _,same_new hD _,upd_same,rfl,λit z=>by rw[List.take_zero]at z;cases z⟩,?_⟩;rintro i m ys H ⟨rfl,hi,hs,hd,al,gd⟩;have hl:ys.length=i:=by rw[<- al.length,ag,dB];lia
 refine⟨hd,small1000 (by lia),?_⟩;by_cases hlt:i<items.length
 ·refine .inr ⟨hgo i H hlt hs,?_⟩;intro x H' hy;have en:items[i]?=some items[i]:=ap hlt;obtain⟨s1,kk⟩:=hyld i _ x H H' en hs hy;refine kk _ ⟨hext _,?_⟩;refine iteT ?_;have hd':=s1 _ _ hd;have R2:=hset items[i] H' (cw hlt) (hs.trans s1) (Es R hD (hs.trans s1) (by rw[hd'];exact λz=>by cases z));refine hC _ _ _ (cw hlt) (hs.trans s1) R2 λgi v H2 s2 a2=>⟨s2 _ _ hd',items.length-(i+1),by lia,rfl,hlt,?_,upd_same,?_,λit z=>?_⟩
  ·intro b o z;rw[upd_ne (ne_of_none z hD)];exact((hs.trans s1).trans s2) b o z
  ·rw[Bo hide_self,xO en,bq];exact jn.snoc (jn.mono (jD (s1.trans s2)) _ _ al) a2
  ·rw[xO en]at z;rcases aV.mp z with z|z
   ·exact gd it z
   ·rw[aN.mp z];exact gi
 ·have e:i=items.length:=by lia
  subst e;rw[eV]at al gd;refine .inl ⟨hstop H hs,hQ gd H ys hs hd ?_⟩;exact al
theorem xR (items:List α)(setσ:α->V->L2.St)(setr:α->En)(val:α->V)(R:Rep K G B σ H1 ρ O)(hD:H1 D=none)(hlen:items.length<=1000)(hgo:∀i H,i<items.length->Same H1 H->J.go i H)
  (hyld:∀i it x H H',items[i]?=some it->Same H1 H->J.yld i H x H' -> Same H H'/\∀k:L2.St->Hp->Prop,k (setσ it (val it)) H' -> g x (jK cap σ) H' k) (hstop:∀H,Same H1 H->J.stop items.length H)
  (hset:∀it H,it∈items->Same H1 H->Rep K G ⟨H1,O⟩ (jK cap σ) H (iM cap ρ) (hide D O)->Rep K G ⟨H1,O⟩ (setσ it (val it)) H (setr it) (hide D O)) (hext:∀it,qU (jK cap σ) (setσ it (val it))) (hC:∀it∈items,C (setr it))
  (hQ:∀H' ys,Same H1 H' -> H' D=some (.lst ys)->jn K G (mn H' (hide D O)) (items.map λit=>gb (setr it)) ys->Q (.ref D) H') :
  ∃W:Nat->Nat->List V->Hp->Prop,(∃m,W 0 m [] (upd H1 D (.lst [])))/\Rj D J (jK cap σ) g rA (tX K G C gb) Q W:=
 Bd (λ_=>True) items setσ setr val R hD hlen hgo hyld hstop hset hext (λit H2 Q' hm _ R' k=>⟨_,_,_,R',hC it hm,k tJ⟩) λ_=>hQ
theorem Ab:∀{l:List α} {ys:List V},jn K G H (l.map λx=>.int (gi x)) ys->ys=(l.map gi).map V.int
 |[],_,h=>h
 |x::r,_,h=>by obtain⟨v,t,rfl,e,q⟩:=h;rw[e,Ab q];rfl
end
section
variable {K:Fg}{G:Gx}{σ:L2.St}{H:Hp}{Q:VK}{Cs Cb:En->Prop}{gs:En->List Int}{gi:En->Int}{gp:En->PV}{cap:List (Option Nat)}
theorem QJ (h:JP K G (λρ=>Cs ρ/\(gs ρ).length<=1000/\∀n∈gs ρ,Cb ((iM (none::cap) ρ).set 0 (.fr (.int n)))) (λρ=>(gs ρ).map λn=>gp ((iM (none::cap) ρ).set 0 (.fr (.int n)))) σ H Q) :
  Ni (none::cap) (iList K (M9 K G Cs gs)) (gName 0) rA (tX K G Cb gp) σ H Q:=by
 obtain⟨B,ρ,O,R,⟨c1,c2,c3⟩,q⟩:=h;refine⟨B,ρ,O,R,c1,λv H1 s1 a1=>?_⟩;obtain⟨a,rfl,hq⟩:=a1;have hq1:SqL K H1 a ((gs ρ).map V.int):=.inl (iG iU hq);refine⟨a,rfl,⟨_,hq1⟩,λD hD=>?_⟩;refine xR (gs ρ) (λ_ v=>(jK (none::cap) σ).set 0 (some v)) (λn=>(iM (none::cap) ρ).set 0 (.fr (.int n))) V.int (R.grow s1) hD c2 (λi H hi s=>⟨_,.int (gs ρ)[i],s.seq hq1,by simp[hi]⟩) ?_ (λH s=>⟨_,s.seq hq1,by simp⟩) (λn H _ s R'=>R'.set (p:=.int n) rfl) ?_ c3 ?_
 ·rintro i n x H H' en s ⟨rfl,hx⟩;obtain⟨n',rfl,hn⟩:=int_at (hx _ (s.seq hq1));rw[hn]at en;cases en;exact⟨Same.refl _,λk hk=>hk⟩
 ·intro n;exact mj _
 ·intro H' ys s hd al;exact q D ys H' (s1.trans s) (s1.free hD) hd al
theorem Cy {C:En->Prop}{α:Type}{src:En->List α}{gi:En->α->Int}(h:Jt K G C (λρ=>(src ρ).map (gi ρ)) σ H Q):JP K G C (λρ=>(src ρ).map λx=>.int (gi ρ x)) σ H Q:=by obtain⟨B,ρ,O,R,c,q⟩:=h;refine⟨B,ρ,O,R,c,λa vs H' s n e al=>q a H' s n ?_⟩;rw[e,Ab al]
end
section
variable {X:Cx}{G:Gx}{Er:ER}{N':List Str}{sc:Scope}{cl:List (Str×Addr)}{cap:List (Option Nat)}{el tg src:Expr}{at' spos px:Pos}{Cs Cb:En->Prop}{gs:En->List Int}{gn gi:En->Int}{gp:En->PV}{i:Nat}{x:Str}
theorem Nr (L:sS X N' sc cl (none::cap))(hc:X.calm=true)(hi:PE X src (M9 X.K G Cs gs))(hg:∀s H fp,PG (iB X N' sc cl s H fp) tg (gName 0))(he:∀s H fp,PE (iB X N' sc cl s H fp) el (iu X.K G Cb gi))(hs:∀x,foldedSetIterable src X.env x=pure x:=by intro _;rfl) :
  PE X (.ListComp el [⟨tg,src,[],0⟩] sc at') (Jt X.K G (λρ=>Cs ρ/\(gs ρ).length<=1000/\∀n∈gs ρ,Cb ((iM (none::cap) ρ).set 0 (.fr (.int n)))) λρ=>(gs ρ).map λn=>gi ((iM (none::cap) ρ).set 0 (.fr (.int n)))):=
 λpins s σ H Q I h=>Mv L hc (pi_list hi) hg (λ_ _ _=>pL) he hs pins s σ H Q I (QJ (Cy h))
theorem Nu {t:TE}{st:Stmt}{C:En->Prop}{g:En->List Int}(h:PS X st (tAsg t (gName i)))(k:∀σ H Q,Jt X.K G C g σ H Q->t σ H Q):PS X st (ts X.K G Er λP ρ=>C ρ/\∀ns,ns=g ρ->P.nx (ρ.set i (.ow (.ints ns)))):=
 toS h λB σ H ρ O P D R c w=>k σ H _ ⟨B,ρ,O,R,c.1,λa H1 s1 n1 e1=>w.nx _ H1 _ ⟨hide a O,R.new (p:=.ints (g ρ)) s1 n1 e1 rfl⟩ (c.2 _ rfl)⟩
theorem Rf {t:TE}{st:Stmt}{C:En->Prop}{g:En->List Int}(h:PS X st (tAsg t (gName i)))(k:∀σ H Q,Jt X.K G C g σ H Q->t σ H Q):PS X st (ts X.K G Er λP ρ=>C ρ/\∀ns,ns=g ρ->P.nx (ρ.set i (.fr (.ints ns)))):=
 toS h λB σ H ρ O P D R c w=>k σ H _ ⟨B,ρ,O,R,c.1,λa H1 s1 n1 e1=>w.nx _ H1 _ ⟨O,(R.grow s1).set (p:=.ints _) ⟨a,rfl,.inl (by
  rw[ju]
  ·exact e1
  ·cases z:O a with
   |false=>rfl
   |true=>exact absurd n1 (R.dom a z))⟩⟩ (c.2 _ rfl)⟩
theorem La (hN:X.N.Nodup)(hi':X.N[i]?=some x)(hx:X.env.scope.names.lookup x=some .local)(L:sS X N' sc cl (none::cap))(hc:X.calm=true)(hi:PE X src (M9 X.K G Cs gs))(hg:∀s H fp,PG (iB X N' sc cl s H fp) tg (gName 0))(he:∀s H fp,PE (iB X N' sc cl s H fp) el (iu X.K G Cb gi))
  (hsw:swapsWith (.ListComp el [⟨tg,src,[],0⟩] sc at') (some (.Name x px)) spos.line X.env=pure true) (hs:∀x,foldedSetIterable src X.env x=pure x:=by intro _;rfl) :
  PS X (.Assign [.Name x px] (.ListComp el [⟨tg,src,[],0⟩] sc at') spos) (ts X.K G Er λP ρ=>(Cs ρ/\(gs ρ).length<=1000/\∀n∈gs ρ,Cb ((iM (none::cap) ρ).set 0 (.fr (.int n))))/\∀ns,ns=((gs ρ).map λn=>gi ((iM (none::cap) ρ).set 0 (.fr (.int n))))->P.nx (ρ.set i (.ow (.ints ns)))):=
 Nu (MT hN hi' hx L hc (pi_list hi) hg (λ_ _ _=>pL) he hsw hs) λσ H Q h=>QJ (Cy h)
end
theorem gD {k:En->Prop}(h:ρ=ρ')(q:k ρ'):k ρ:=by rw[h];exact q
def tyP:PV->Option Value
 | .int _=>some (.type "int")
 | .bl _=>some (.type "bool")
 | .non=>some (.type "NoneType")
 | .str _=>some (.type "str")
 | .ints _=>some (.type "list")
 | .lst _=>some (.type "list")
 | .tup _=>some (.type "tuple")
 |_=>none
def Ao:PV->Option Value
 | .ty n=>some (.type n)
 | .cls a=>some (.ref a)
 |_=>none
theorem At.ty {K:Fg}{G:Gx}{H:Hp}{p:PV}{v:V}{t:Value}(h:At K G H p v)(e:tyP p=some t):TyOf K H v t:=by
 cases p<;>first|cases e|skip
 ·cases (show v=_ from h);exact .int _
 ·cases (show v=_ from h);exact .bl _
 ·cases (show v=_ from h);exact .non
 ·cases (show v=_ from h);exact .str _
 ·obtain⟨a,rfl,r|⟨o,r⟩⟩:=h
  ·exact .lst r
  ·exact .frz r
 ·obtain⟨a,vs,rfl,r|⟨o,r⟩,_⟩:=h
  ·exact .lst r
  ·exact .frz r
 ·obtain⟨a,vs,rfl,r,_⟩:=h;exact .tup r
theorem At.cls {K:Fg}{G:Gx}{H:Hp}{p:PV}{v:V}{t:Value}(h:At K G H p v)(e:Ao p=some t):Hg v=some t:=by
 cases p<;>first|cases e|skip
 ·cases (show v=_ from h);rfl
 ·cases (show v=_ from h);rfl
def qd (K:Fg)(p c:PV):Bool:=match tyP p,Ao c with
 |some t,some cv=>W.kitOne K t cv == some true
 |_,_=>false
def Hz (K:Fg)(p c:PV):Prop:=∃t cv b,tyP p=some t/\Ao c=some cv/\W.kitOne K t cv=some b
theorem vz {K:Fg}{p c:PV}{t cv:Value}{b:Bool}(h1:tyP p=some t)(h2:Ao c=some cv)(h:W.kitOne K t cv=some b):qd K p c=b:=by unfold qd;rw[h1,h2];show(W.kitOne K t cv == some true)=b;rw[h];cases b<;>rfl
theorem TyOf.up {K:Fg}{H H':Hp}{v:V}{t:Value}(s:Same H H')(h:TyOf K H v t):TyOf K H' v t:=by
 cases h with
 |non=>exact .non
 |bl x=>exact .bl x
 |int x=>exact .int x
 |str x=>exact .str x
 |flt x=>exact .flt x
 |lst e=>exact .lst (s _ _ e)
 |frz e=>exact .frz (s _ _ e)
 |tup e=>exact .tup (s _ _ e)
 |dK e=>exact .dK (s _ _ e)
 |dT e=>exact .dT (s _ _ e)
 |ins e a b c d f=>exact .ins (s _ _ e) a b c d f
section
variable {X:Cx}{G:Gx}{a b c e:Expr}{es:List Expr}{pos p px apos:Pos}{C Ca Cb Cc:En->Prop}{ga gc:En->PV}{gi gj:En->Int}{i j k n:Nat}{x m:Str}
theorem Gm (hm:X.mg "isinstance"=none)(ha:PE X a (tX X.K G Ca ga))(hc:PE X c (tX X.K G Cc gc))(hg:Gl X "isinstance":=by rfl)(he:starEach [a,c] X.env=(false,eval a X.env)::starEach [c] X.env:=by rfl)(he2:starEach [c] X.env=[(false,eval c X.env)]:=by rfl)(hpl:(backTo pos (starEach [c] X.env)).any (·.1)=false:=by rfl) :
  PE X (.Call (.Name "isinstance" p) [a,c] [] pos) (yI X.K G (λρ=>Ca ρ/\Cc ρ/\Hz X.K (ga ρ) (gc ρ)) λρ=>qd X.K (ga ρ) (gc ρ)=true):=
 jz (pe_callB rH hg hm oV (pa_cons ha (pa_cons hc pa_nil he2) he) (by decide) (by decide) he hpl) λB σ H ρ O Q R cc q=>⟨B,ρ,O,R,cc.1,λv H1 s1 a1=>⟨B,ρ,O,R.grow s1,cc.2.1,λu H2 s2 a2=>by
  obtain⟨t,cv,b,e1,e2,e3⟩:=cc.2.2;refine⟨v,u,t,cv,b,rfl,a2.cls e2,TyOf.up (iU.trans s2) (a1.ty e1),e3,q _ H2 (s1.trans s2) ?_⟩;have z:qd X.K (ga ρ) (gc ρ)=b:=vz e1 e2 e3;show V.bl b=V.bl (decide (qd X.K (ga ρ) (gc ρ)=true));rw[z,cq]⟩⟩
theorem Bp (hm:X.mg "abs"=none)(ha:PE X a (iu X.K G Ca gi))(hg:Gl X "abs":=by rfl)(he:starEach [a] X.env=[(false,eval a X.env)]:=by rfl):PE X (.Call (.Name "abs" p) [a] [] pos) (iu X.K G Ca λρ=>if gi ρ<0 then -gi ρ else gi ρ):=
 jz (pe_callB call_abs hg hm Og (pa_cons ha pa_nil he) (by decide) (by decide) he rfl) λB σ H ρ O Q R c q=>⟨B,ρ,O,R,c,λv H1 s1 a1=>by
  subst a1;exact⟨_,rfl,q _ H1 s1 rfl⟩⟩
theorem Oa (hcm:X.calm=true)(hm:X.mg "min"=none)(ha:PE X a (iu X.K G Ca gi))(hb:PE X b (iu X.K G Cb gj))(hg:Gl X "min":=by rfl)(he:starEach [a,b] X.env=(false,eval a X.env)::starEach [b] X.env:=by rfl)(he2:starEach [b] X.env=[(false,eval b X.env)]:=by rfl)(hpl:(backTo pos (starEach [b] X.env)).any (·.1)=false:=by rfl) :
  PE X (.Call (.Name "min" p) [a,b] [] pos) (iu X.K G (λρ=>Ca ρ/\Cb ρ) λρ=>if gj ρ<gi ρ then gj ρ else gi ρ):=
 jz (pe_callB (call_min2 hcm) hg hm Ig (pa_cons ha (pa_cons hb pa_nil he2) he) (by decide) (by decide) he hpl) λB σ H ρ O Q R c q=>⟨B,ρ,O,R,c.1,λv H1 s1 a1=>⟨B,ρ,O,R.grow s1,c.2,λu H2 s2 a2=>by
  subst a1 a2;exact⟨_,_,rfl,q _ H2 (s1.trans s2) rfl⟩⟩⟩
abbrev HQ (K:Fg)(G:Gx)(pre:List PV->Prop)(F:List PV->Int):Sp:=yK K G pre λas=>.int (F as)
abbrev Lg (K:Fg)(G:Gx)(pre:List PV->Prop)(F:List PV->Bool):Sp:=yK K G pre λas=>.bl (F as)
variable {ps:List Str}{pre:List PV->Prop}{gs:En->List PV}
theorem PN (o:Ok X.prog X.w X.K X.mg X.base j x ps (HQ X.K G pre F))(hr:Room k X.A)(ha:PA X (e::es) (yJ X.K G C gs))(hj:j<=k:=by decide)(hg:Gl X x:=by rfl)(hdb:(x == ("__debug__":Str))=false:=by decide)
  (he:starEach (e::es) X.env=(false,eval e X.env)::starEach es X.env:=by rfl) (hpl:(backTo pos (starEach es X.env)).any (·.1)=false:=by rfl) :
  PE X (.Call (.Name x p) (e::es) [] pos) (iu X.K G (λρ=>C ρ/\pre (gs ρ)) λρ=>F (gs ρ)):=xc o hr ha hj hg hdb he hpl
theorem Sg (o:Ok X.prog X.w X.K X.mg X.base j x ps (Lg X.K G pre F))(hr:Room k X.A)(ha:PA X (e::es) (yJ X.K G C gs))(hj:j<=k:=by decide)(hg:Gl X x:=by rfl)(hdb:(x == ("__debug__":Str))=false:=by decide)
  (he:starEach (e::es) X.env=(false,eval e X.env)::starEach es X.env:=by rfl) (hpl:(backTo pos (starEach es X.env)).any (·.1)=false:=by rfl) :
  PE X (.Call (.Name x p) (e::es) [] pos) (yI X.K G (λρ=>C ρ/\pre (gs ρ)) λρ=>F (gs ρ)=true):=
 jz (xc o hr ha hj hg hdb he hpl) λB σ H ρ O Q R c q=>⟨B,ρ,O,R,c,λv H' s a=>q v H' s (by dsimp only;rw[cq];exact a)⟩
def Mr (ρ:En)(i:Nat):Int:=match ρ[i]? with
 |some (.fr (.ob 0 z))=>z
 |_=>0
def TJ (ρ:En)(i:Nat):Prop:=ρ[i]?=some (.fr (.ob 0 (Mr ρ i)))
theorem GR {KA:Hp->Addr->Int->Prop}{preK:Int->List Int->Prop}{F:Int->List Int->Int}{pl:Sem Bool}(i:Nat)(M:KM X.prog X.w X.K X.mg X.base j KA m n preK F)(hr:Room k X.A)(ha:PA X (e::es) (yJ X.K G C gs))(hn:∀ρ,(gs ρ).length=n:=by intro _;rfl)(hG:∀H a z,G.ob 0 H a z->KA H a z:=by first|exact λ_ _ _ h=>h.2|exact λ_ _ _ h=>h.elim (λz=>z.2) λz=>absurd z.1 (by decide))(hGm:∀{H H':Hp} {a:Addr} {z:Int},KA H a z->Same H H' -> KA H' a z:=by first|exact λh s=>Ub.same h s|exact λh s=>h.same s)(hj:j<=k:=by decide)
  (hN:X.N[i]?=some x:=by rfl) (hv:Vis X.env.scope x:=by walk_at "v") (hd:(x == ("__debug__":Str))=false:=by decide) (hcd:(x == ("__classdict__":Str))=false:=by decide)
  (hst:starEach (e::es) X.env=(false,eval e X.env)::starEach es X.env:=by rfl) (hpl:(backTo pos (starEach es X.env)).any (·.1)=false:=by rfl)
  (ht:eval (.Call (.Attribute (.Name x px) m apos) (e::es) [] pos) X.env=(do
   let ov <- eval (.Name x px) X.env
   standAt apos.atName
   let (f,first) <- holding [ov] (getMethod ov m pl)
   callWith pos f first (backTo pos (starEach (e::es) X.env)) (backToKw pos (keywordEach [] X.env))):=by rfl) :
  PE X (.Call (.Attribute (.Name x px) m apos) (e::es) [] pos) (iu X.K G (λρ=>TJ ρ i/\C ρ/\Gr (gs ρ)/\preK (Mr ρ i) (q8 (gs ρ))) λρ=>F (Mr ρ i) (q8 (gs ρ))):=by
 intro pins s σ H Q I h;obtain⟨B,ρ,O,R,⟨c0,c1,c2,c3⟩,q⟩:=h;obtain⟨v,e1,a,rfl,ka⟩:=R.fr i _ c0;have ka1:KA H a (Mr ρ i):=hGm (hG _ _ _ ka) iU;obtain⟨Cl,dx,fs,ps,f1,f2,M'⟩:=M.ex H a _ ka1;obtain⟨f,fd,FF,bb,mm,cc⟩:=M'.ex;refine pe_meth (pe_var hN hv hd hcd) cc mm (FF.mono hj) hr bb .nil pass0 ha hst hpl ht pins s σ H Q I ⟨_,e1,a,dx,fs,rfl,f1,f2,B,ρ,O,R,c1,λvs H1 s1 a1=>?_⟩;have ev:=a1.ints c2;have el:(q8 (gs ρ)).length=n:=by rw[<- hn ρ,a1.length,ev,ag]
 exact⟨q8 (gs ρ),el,by rw[aU,ev],hGm ka1 s1,c3,q _ H1 s1 rfl⟩
end
theorem zf:∀{as:List PV},Gr as->(q8 as).length=as.length
 |[],_=>rfl
 |p::r,h=>by
  cases p<;>first|exact h.elim|skip
  show(q8 r).length+1=r.length+1;rw[zf (as:=r) h]
section
variable {P:Program}{w:World}{K:Fg}{mg:Mg}{base:Heap}{G:Gx}{k n:Nat}{x:Str}{ps:List Str}
def Rt:List PV->List Int
 | .scr ns::_=>ns
 |_=>[]
def RG (n:Nat)(pre:List Int->List Int->Prop):List PV->Prop
 | .scr ns::r=>Gr r/\r.length=n/\pre ns (q8 r)
 |_=>False
theorem QC (o:Ok P w K mg base k x ps (spS K n pre F)):Ok P w K mg base k x ps (HQ K G (RG n pre) λas=>F (Rt as) (q8 as.tail)):=
 o.imp λvs H Q E ⟨as,O,_,al,hp,q⟩=>by
  match as,hp,al,q with
  | .scr ns::r,⟨h1,h2,h3⟩,al,q=>obtain⟨v,t,rfl,⟨a,rfl,hs⟩,al2⟩:=al;exact⟨a,ns,q8 r,by rw[zf h1,h2],by rw[al2.ints h1],iU.seq hs,h3,q _ H (Same.refl H) rfl⟩
end
section
variable {X:Cx}{G:Gx}{Er:ER}{b e:Expr}{px ps pos:Pos}{C Cb:En->Prop}{g gb:En->Int}
theorem Hi:PGet X (rIxL X.K):=by
 intro pins s σ H x y v u Q I rx ry h;obtain⟨p,xs,i,z,rfl,rfl,hq,he,q⟩:=h;cases rx;obtain⟨t,rfl⟩:=ry;obtain⟨its,r,pl,hz⟩:=I.list hq;obtain⟨j,h1,h2,h3,h4,h5⟩:=atI_get he;obtain⟨w,ew,rw'⟩:=r.get h2;have hl:=r.length;have hn:=line63;have fin:EP X pins σ Q w s:=⟨z,H,I,rw',q⟩;by_cases h0:0<=i
 ·have hj:i.toNat=j:=by rw[fL h0 h5]at h1;exact aI h1
  exact wpAny_getItem_list pl.isList h0 (by lia) (by rw[hj];simpa using ew) fin
 ·have hj:(i+(its.toArray.size:Int)).toNat=j:=by rw[fk (by lia) h4]at h1;rw[aJ,<- hl];exact aI h1
  exact wpAny_getItem_list_neg pl.isList (by lia) (by rw[aJ]<;>lia) (by lia) (by rw[hj];simpa using ew) fin
end
end L3
namespace FM
open L2
theorem jB {xs:Li}{n:Nat}(h:xs.length<=n):xs.getD n 0=0:=by rw[gQ,cx h];rfl
theorem n8 {xs:Li}{n:Nat}(h:n<xs.length):xs.getD n 0=xs[n]:=by rw[gQ,ap h];rfl
theorem getD_mem {xs:Li}{n:Nat}(h:n<xs.length):xs.getD n 0∈xs:=by rw[n8 h];exact cw h
theorem Bg (xs:Li)(x:Int)(n:Nat):(xs++[x]).getD n 0=if n=xs.length then x else xs.getD n 0:=by
 by_cases h:n<xs.length
 ·rw[n8 (by rw[ar];lia),List.getElem_append_left h,ai (by lia),n8 h]
 ·by_cases h2:n=xs.length
  ·subst h2;rw[ak rfl,n8 (by rw[ar,bP];lia),List.getElem_append_right (aw _)];simp
  ·rw[ai h2,jB (by rw[ar,bP];lia),jB (by lia)]
theorem Dt (xs:Li):xs=[]\/∃ys x,xs=ys++[x]:=by
 by_cases h:xs=[]
 ·exact .inl h
 ·exact .inr ⟨_,_,(ci h).symm⟩
theorem km:∀(k:Nat) (xs:Li),xs.length=k->∀n,(f9 xs).getD n 0=xs.getD n 0
 |0,xs,h,n=>by have:xs=[]:=eG.mp h;subst this;rfl
 |k+1,xs,h,n=>by
  rcases Dt xs with rfl|⟨ys,x,rfl⟩
  ·rfl
  ·by_cases hx:x=0
   ·subst hx;have hl:ys.length=k:=by rw[ar,bP]at h;lia
    rw[mO,km k ys hl n,Bg];by_cases h2:n=ys.length
    ·rw[ak h2,jB (by lia)]
    ·rw[ai h2]
   ·rw[u5 _ hx]
theorem kJ (xs:Li)(n:Nat):(f9 xs).getD n 0=xs.getD n 0:=km _ xs rfl n
def nJ (xs:List Int):Prop:=xs≠[]->xs.getD (xs.length-1) 0≠0
theorem uC:∀(k:Nat) (xs:Li),xs.length=k->nJ (f9 xs)
 |0,xs,h=>by have:xs=[]:=eG.mp h;subst this;intro h;exact absurd rfl h
 |k+1,xs,h=>by
  rcases Dt xs with rfl|⟨ys,x,rfl⟩
  ·intro h;exact absurd rfl h
  ·by_cases hx:x=0
   ·subst hx;rw[mO];exact uC k ys (by rw[ar,bP]at h;lia)
   ·rw[u5 _ hx];intro _;rw[Bg,ak (by rw[ar,bP];lia)];exact hx
theorem kI (xs:Li):nJ (f9 xs):=uC _ xs rfl
theorem Ag {a b:Li}(ha:nJ a)(hb:nJ b)(h:∀n,a.getD n 0=b.getD n 0):a=b:=by
 have le:∀{a b:List Int},nJ a->(∀n,a.getD n 0=b.getD n 0)->a.length<=b.length:=λ{a b} ha h=>by
  by_cases c:a.length<=b.length
  ·exact c
  ·have hne:a≠[]:=λz=>by subst z;exact c (b6 _)
   exact absurd (by rw[h,jB (by lia)]) (ha hne)
 have hl:a.length=b.length:=Nat.le_antisymm (le ha h) (le hb λn=>(h n).symm);refine List.ext_getElem hl λi h1 h2=>?_;have:=h i;rw[n8 h1,n8 h2]at this;exact this
def Tz (z:Int)(f:List Int):List Int:=f9 (f.map (pl z))
def sm:Nat->(Nat->Int)->Int
 |0,_=>0
 |n+1,f=>sm n f+f n
end FM
namespace L3
open PySem PySem.Spec PyProof.Rows L2
theorem QM (H:Hp):mn H (λ_=>false)=H:=by funext b;exact ju rfl
def UG (K:Fg)(G:Gx)(C:En->Prop)(g:En->PV):TE:=λσ H Q=>∃B ρ O,Rep K G B σ H ρ O/\C ρ/\∀v H',Same H H' -> At K G H' (g ρ) v->Q v H'
end L3
namespace FM
open L2
structure Eu (n z b r sb s:Int):Prop where
 r0:0<=r
 rb:r<b
 bz:b<=z
 db:z ∣ b-sb*n
 dr:z ∣ r-s*n
 gc:Int.gcd b r=Int.gcd n z
 sg:(sb<=0/\0<=s)\/(0<=sb/\s<=0)
 id:(s.natAbs:Int)*b+(sb.natAbs:Int)*r=z
end FM
section
open PySem PySem.Spec PyProof.Rows
namespace L2
section
variable {X:Cx}{pins:List (Addr×Obj)}{σ:St}{H:Hp}{s:Shared}{h':Heap}{ch:List Addr}
theorem Inv.noted (I:Inv X pins σ H s)(hl:X.env.locals∈frs X.stack)
  (hch:∀b∈ch,X.s₀.heap.get? b=none/\H b=none/\b∉frs X.stack/\(∀x c,X.env.cells.lookup x=some c->c≠b)/\∀p∈X.pn++pins,p.1≠b)
  (keep:∀b o,b∉ch->b∉frs X.stack->s.heap.get? b=some o->h'.get? b=some o) (slot:∀b o,b∈frs X.stack->s.heap.get? b=some o->∃sl,h'.get? b=some { o with slots:=sl }):Inv X pins σ H { s with heap:=h',toks:=t' }:=by
 have any:∀b o,b∉ch->s.heap.get? b=some o->∃sl,h'.get? b=some { o with slots:=sl }:=λb o hb e=>by
  by_cases c:b∈frs X.stack
  ·exact slot b o c e
  ·exact⟨o.slots,keep b o hb c e⟩
 have noC:∀b o,X.s₀.heap.get? b=some o->b∉ch:=λb o e z=>by rw[(hch b z).1]at e;cases e
 have neL:∀b o,X.s₀.heap.get? b=some o->b≠X.env.locals:=λb o e=>bn (aS (au e) I.ok.above);have cellK:∀x c,X.env.cells.lookup x=some c->∀v,s.heap.IsCell c v->h'.IsCell c v:=λx c e v ⟨o,ho,hd⟩=>by obtain⟨sl,q⟩:=any c o (λz=>(hch c z).2.2.2.1 x c e rfl) ho;exact⟨_,q,hd⟩
 refine⟨I.ok,I.os,I.bare,⟨λb o e n hbf hx=>?_,λb o e n hbf hx=>?_,I.base.free,λb o e hx=>?_,I.base.tups,I.base.frzs,I.base.tbls⟩,?_,λx c e=>?_,I.free,I.freeC,λp hp=>?_,λb o e=>?_,I.len⟩
 ·refine keep b o (noC b o e) (λz=>?_) (I.base.keep b o e n hbf hx);rcases aq.mp (I.stkSub b z) with q|q
  ·exact neL b o e q
  ·exact hbf q
 ·obtain⟨sl,e1⟩:=I.base.slot b o e n hbf hx;obtain⟨sl2,e2⟩:=any b _ (noC b o e) e1;exact⟨sl2,e2⟩
 ·obtain⟨o',e1⟩:=I.base.there b o e hx;obtain⟨sl2,e2⟩:=any b o' (noC b o e) e1;exact⟨_,e2⟩
 ·obtain⟨m,⟨o,es,ep,ho,r⟩,hloc⟩:=I.loc;obtain⟨sl,e⟩:=slot _ o hl ho;refine⟨m,⟨_,es,ep,e,r⟩,λi x v h1 h2 h3=>?_⟩;obtain⟨u,ru,l⟩:=hloc i x v h1 h2 h3;refine⟨u,ru,?_⟩;rcases l with l|⟨k,c,hc,ic⟩
  ·exact .inl l
  ·exact .inr ⟨k,c,hc,cellK x c hc _ ic⟩
 ·obtain⟨v,ic⟩:=I.cell x c e;exact⟨v,cellK x c e v ic⟩
 ·obtain⟨a1,a2,a3,a4,a5⟩:=I.pin p hp;refine⟨keep p.1 p.2 (λz=>(hch _ z).2.2.2.2 p hp rfl) (λz=>?_) a1,a2,a3,a4,a5⟩;rcases aq.mp (I.stkSub _ z) with q|q
  ·exact a3 q
  ·exact a4 q
 ·refine(I.hok b o e).stay (λc u hc q=>keep c u (λz=>?_) (λz=>?_) q) (λ_ q=>q) λ_ _ q=>q
  ·have hn:=(hch c z).2.1;rcases hc with rfl|hc
   ·rw[hn]at e;cases e
   ·rw[hn]at hc;cases hc
  ·have hn:=I.stkFree c z;rcases hc with rfl|hc
   ·rw[hn]at e;cases e
   ·rw[hn]at hc;cases hc
theorem Inv.Bb (I:Inv X pins σ H s)(hex:X.ex=[])(hb:s.heap.get? b=none):X.s₀.heap.get? b=none/\b∉frs X.stack/\(∀x c,X.env.cells.lookup x=some c->c≠b)/\∀p∈X.pn++pins,p.1≠b:=by
 refine⟨?_,λz=>?_,λx c e z=>?_,λp hp z=>?_⟩
 ·cases q:X.s₀.heap.get? b with
  |none=>rfl
  |some o=>obtain⟨o',e⟩:=I.base.there b o q (by rw[hex];simp);rw[hb]at e;cases e
 ·obtain⟨_,o,e,_⟩:=I.stack.mem z;rw[hb]at e;cases e
 ·obtain⟨v,o,e',_⟩:=I.cell x c e;rw[z,hb]at e';cases e'
 ·have e:=(I.pin p hp).1;rw[z,hb]at e;cases e
end
section
variable {X:Cx}{pins:List (Addr×Obj)}{σ:St}{H1 H':Hp}{s1 s':Shared}{a:Addr}{cls:Value}{dd:Option Addr}
theorem Ai {M:Model}{Q:Shared->Prop}{E':Value->Shared->Prop}(I:Inv X pins σ H1 s1)(hst:X.stack=X.env::X.outer)(hfr:X.env.frame=some X.env.locals)(hex:X.ex=[])(ho:s'.os=s1.os)(hb:AllBare s'.gens)
  (u:Un (frs X.stack) [] H1 H' s1.heap s'.heap) (hok:HOk X.prog X.w H' s'.heap) (F:Qg s1.heap H' s'.heap a cls dd)
  (hQ:∀h',Inv X pins σ H' { s' with heap:=h' }->Qg s1.heap H' h' a cls dd->Q { s' with heap:=h' }) :
  wpAny M X.A (noteFrame (.ref a) X.env) (λ_ s2=>wpAny M X.A (setFlight (.ref a) none) (λ_ s3=>Q s3) E' s2) E' s':=by
 have J:Inv X pins σ H' s':=I.call' (ch:=[]) ho u hok hb (λb z=>absurd z (by simp));obtain⟨oe,vs,T,oT,ts,he,hcls,hdi,hd,h1,hTe,hT,hdT,h3,hHT,hsT,hx⟩:=F.ex;subst hcls;have hA:X.A.frames=some (X.env::X.outer):=by rw[<- hst];exact I.ok.frames
 have FF:=J.stack;have na:=I.Bb hex F.new;have nT:=I.Bb hex hsT;have hl:X.env.locals∈frs X.stack:=by rw[hst];unfold frs;rw[bD,hfr];exact aj
 refine wA (as:=a::T::frs X.stack) (Q:=λ_ s3=>Q s3) hA (by rw[<- hst];exact FF) hfr he hdi hd h1 hx hTe hT hdT h3 aj (ae _ aj) (λb z=>ae _ (ae _ (by rw[hst];exact z))) λh3' L=>?_;rw[<- hst]at L;obtain⟨oe',vs',T',oT',ts',he',hc',hdi',hd',h1',hnT',hTe',hT',hdT',h3'',hx'⟩:=L.ex;have J3:Inv X pins σ H' { s' with heap:=h3' }:=J.noted (t':=s'.toks) (ch:=[a,T]) hl (λb z=>by
   rcases aq.mp z with rfl|z
   ·exact⟨na.1,F.un,na.2.1,na.2.2.1,na.2.2.2⟩
   ·have e:b=T:=by simpa using z
    subst e;exact⟨nT.1,hHT,nT.2.1,nT.2.2.1,nT.2.2.2⟩)
  (λb o hb hf e=>L.keep b o e (by
   intro z;rcases aq.mp z with q|z
   ·exact hb (by simp[q])
   ·rcases aq.mp z with q|z
    ·exact hb (by simp[q])
    ·exact hf z)) L.slot
 have tn:H' T'=none/\s1.heap.get? T'=none:=by
  refine⟨J.untracked hnT',?_⟩;cases q:s1.heap.get? T' with
  |none=>rfl
  |some o=>obtain⟨o',e'⟩:=u.there T' o q (by simp);rw[hnT']at e';cases e'
 exact hQ h3' J3 ⟨⟨oe',vs',T',oT',ts',he',hc',hdi',hd',h1',hTe',hT',hdT',h3'',tn.1,tn.2,hx'⟩,F.un,F.new⟩
end
section
variable {X:Cx}{pins:List (Addr×Obj)}{σ:St}{H H':Hp}{s:Shared}{h0:Heap}{a:Addr}{cls:Value}{dd:Option Addr}
theorem tY {M:Model}{A:Around}{Q:Unit->Shared->Prop}{E':Value->Shared->Prop}(J:Inv X pins σ H' s)(hst:X.stack=X.env::X.outer)(hfr:X.env.frame=some X.env.locals)(F:Qg h0 H' s.heap a cls dd)
  (nw:∀b,h0.get? b=none->X.s₀.heap.get? b=none/\b∉frs X.stack/\(∀x c,X.env.cells.lookup x=some c->c≠b)/\∀p∈X.pn++pins,p.1≠b)
  (hQ:∀h',Inv X pins σ H' { s with heap:=h' }->Qg h0 H' h' a cls dd->Q () { s with heap:=h' }):wpAny M A (setFlight (.ref a) none) Q E' s:=by
 obtain⟨oe,vs,T,oT,ts,he,hcls,hdi,hd,h1,hTe,hT,hdT,h3,hHT,hsT,hx⟩:=F.ex;have FF:=J.stack;have hsz3:3<ts.size:=(aX.mp h3).1;have other:∀b,b≠T->(s.heap.update T (Obj.mapFields (·.setIfInBounds 3 .none))).get? b=s.heap.get? b:=λb hb=>ao _ _ (a9 hb);have nT:=nw T hsT;have hl:X.env.locals∈frs X.stack:=by rw[hst];unfold frs;rw[bD,hfr];exact aj
 refine cC he hd h1 hT hdT hsz3 (hQ _ ?_ ?_)
 ·exact J.noted (t':=s.toks) (ch:=[T]) hl (λb z=>by
   have e:b=T:=by simpa using z
   subst e;exact⟨nT.1,hHT,nT.2.1,nT.2.2.1,nT.2.2.2⟩) (λb o hb hf e=>(other b (λz=>hb (by simp[z]))).trans e)
   (λb o z e=>⟨o.slots,(other b (λq=>nT.2.1 (by rw[<- q];exact z))).trans e⟩)
 ·refine⟨⟨oe,vs,T,_,_,(other a (a9 hTe)).trans he,hcls,hdi,hd,h1,hTe,aO _ hT (bG (bg hdT _)),bg hdT _,by simp[hsz3],hHT,hsT,hx⟩,F.un,F.new⟩
def Ar (a:Addr)(cls:Value)(dd:Option Addr:=none):HO:=.ext λh=>∃o vs,h.get? a=some o/\o.cls=cls/\o.dict=dd/\o.data=.fields vs
theorem Inv.Ju (I:Inv X pins σ H s)(f0:H T=none)(f1:T≠X.env.locals)(f3:X.s₀.heap.get? T=none)(f4:∀x c,X.env.cells.lookup x=some c->c≠T)(f5:∀p∈X.pn++pins,p.1≠T)
  (new:ObjOk X.prog X.w (upd H T o) s.heap T o):Inv X pins σ (upd H T o) s:=by
 have ne:∀{b:Addr} {u:HO},H b=some u->b≠T:=λe=>ne_of_none e f0;refine⟨I.ok,I.os,I.bare,⟨I.base.keep,I.base.slot,λb ob e n x=>?_,I.base.there,λb xs e=>?_,λb ob u e=>?_,λb ps e=>?_⟩,I.loc,I.cell,by rw[upd_ne (a9 f1)];exact I.free,λx c e=>?_,λp hp=>?_,λb u e=>?_,I.len⟩
 ·have hb:b≠T:=λz=>by rw[z,f3]at e;cases e
  rw[upd_ne hb];exact I.base.free b ob e n x
 ·have q:=I.base.tups b xs e;rw[upd_ne (ne q)];exact q
 ·have q:=I.base.frzs b ob u e;rw[upd_ne (ne q)];exact q
 ·obtain⟨m,q⟩:=I.base.tbls b ps e;exact⟨m,by rw[upd_ne (ne q)];exact q⟩
 ·rw[upd_ne (f4 x c e)];exact I.freeC x c e
 ·obtain⟨a1,a2,a3⟩:=I.pin p hp;exact⟨a1,by rw[upd_ne (f5 p hp)];exact a2,a3⟩
 ·by_cases c:b=T
  ·subst c;rw[upd_same]at e;cases e;exact new
  ·rw[upd_ne c]at e;exact(I.hok b u e).stay (λ_ _ _ q=>q) (λd q=>by rw[upd_ne (ne q)];exact q) (λd xs q=>by rw[upd_ne (ne q)];exact q) λd _ _ q=>by rw[upd_ne (ne q)];exact q
theorem Inv.RV (I:Inv X pins σ H s)(E:Value->Shared->Prop):Inv { X with pn:=X.pn++pins,xe:=E } [] σ H s:=
 ⟨⟨I.ok.mod,I.ok.kind,I.ok.glob,I.ok.blt,I.ok.above,I.ok.inj,I.ok.has,I.ok.cab,I.ok.hd,I.ok.frames,I.ok.stk,I.ok.exf,I.ok.bs,I.ok.bsz,I.ok.noex,I.ok.exfs,I.ok.funs,I.ok.frf⟩,I.os,I.bare,I.base,I.loc,I.cell,I.free,I.freeC,λp hp=>I.pin p (by simpa using hp),I.hok,I.len⟩
theorem Inv.KY (I:Inv { X with pn:=X.pn++pins,xe:=E } ps σ H s):Inv X pins σ H s:=
 ⟨⟨I.ok.mod,I.ok.kind,I.ok.glob,I.ok.blt,I.ok.above,I.ok.inj,I.ok.has,I.ok.cab,I.ok.hd,I.ok.frames,I.ok.stk,I.ok.exf,I.ok.bs,I.ok.bsz,I.ok.noex,I.ok.exfs,I.ok.funs,I.ok.frf⟩,I.os,I.bare,I.base,I.loc,I.cell,I.free,I.freeC,λp hp=>I.pin p (cg _ hp),I.hok,I.len⟩
theorem Inv.mark (I:Inv X pins σ H s)(v:Value)(E:Value->Shared->Prop):Inv { X with A:=X.A.mark (some v),calm:=false,xe:=E } pins σ H s:=
 ⟨⟨I.ok.mod,I.ok.kind,I.ok.glob,I.ok.blt,I.ok.above,I.ok.inj,I.ok.has,I.ok.cab,(λz=>by cases z),I.ok.frames,I.ok.stk,I.ok.exf,I.ok.bs,I.ok.bsz,I.ok.noex,I.ok.exfs,I.ok.funs,I.ok.frf⟩,I.os,I.bare,I.base,I.loc,I.cell,I.free,I.freeC,I.pin,I.hok,I.len⟩
theorem Inv.unmark (hd:X.calm=true->X.A.handled=none)(I:Inv { X with A:=X.A.mark (some v),calm:=false,xe:=E } pins σ H s):Inv X pins σ H s:=
 ⟨⟨I.ok.mod,I.ok.kind,I.ok.glob,I.ok.blt,I.ok.above,I.ok.inj,I.ok.has,I.ok.cab,hd,I.ok.frames,I.ok.stk,I.ok.exf,I.ok.bs,I.ok.bsz,I.ok.noex,I.ok.exfs,I.ok.funs,I.ok.frf⟩,I.os,I.bare,I.base,I.loc,I.cell,I.free,I.freeC,I.pin,I.hok,I.len⟩
end
end L2
namespace L3
open L2
inductive Rs where
 |val (p:PV)|err (C:Addr)
structure Ef (P:Program)(w:World)(K:Fg)(mg:Mg)(base:Heap)(k:Nat)(x:Str)(ps:List Str)(sp:Sp):Prop where
 ex:∃f fd,FnOk P w K mg base (j9 P w) k f fd ps sp/\Binds K fd ps []/\W.keepIn K (.ref f)=true/\mg x=some (.ref f)
abbrev Qc (E:XK):ER:=λC H=>E (.ref C) none H
section
variable {X:Cx}{G:Gx}{E:XK}{e:Expr}{es:List Expr}{pos p cpos np pos':Pos}{i j k:Nat}{x y:Str}{ps:List Str}{pre:List PV->Prop}{C:En->Prop}{gs:En->List PV}{F:List PV->Rs}{Cc:Addr}
theorem vd (o:Ef X.prog X.w X.K X.mg X.base j x ps sp)(hx:Passes (j9 X.prog X.w) X E)(hr:Room k X.A)(ha:PA X (e::es) t)(hj:j<=k:=by decide)(hg:Gl X x:=by rfl)(hdb:(x == ("__debug__":Str))=false:=by decide)
  (he:starEach (e::es) X.env=(false,eval e X.env)::starEach es X.env:=by rfl) (hpl:(backTo pos (starEach es X.env)).any (·.1)=false:=by rfl):PE X (.Call (.Name x p) (e::es) [] pos) (tCall sp [] E t):=by
 obtain⟨f,fd,F,b,kp,m⟩:=o.ex;exact pe_call (F.mono hj) hr hg m kp b .nil hx ha hdb he hpl
def Rs.get:Rs->PV
 | .val p=>p
 | .err _=>.non
def Rs.S7:Rs->Prop
 | .val _=>True
 | .err _=>False
theorem rm (hn:G6 X E)(hc:X.calm=true)(q:xm X.K Cc)(hg:Gl X x)(hm:X.mg x=some (.ref Cc))(ha:PA X (e::es) (yJ X.K G C gs))(hlen:∀ρ,(gs ρ).length=(e::es).length:=by intro _;rfl)(hz:(e::es).length<=1000:=by decide)
  (hdb:(x == ("__debug__":Str))=false:=by decide) (he:starEach (e::es) X.env=(false,eval e X.env)::starEach es X.env:=by rfl) (hpl:(backTo cpos (starEach (e::es) X.env)).any (·.1)=false:=by rfl) :
  PS X (.Raise (some (.Call (.Name x np) (e::es) [] cpos)) none pos) (ts X.K G (Qc E) λP ρ=>C ρ/\P.er Cc):=
 toS (IW hn hc q hg hm ha hz hdb he hpl λσ H Q ⟨B,ρ,O,R,c,q⟩=>⟨B,ρ,O,R,c,λvs H1 s1 a1=>⟨by rw[<- a1.length];exact hlen ρ,q vs H1 s1 a1⟩⟩) λB σ H ρ O P D R c w=>⟨B,ρ,O,R,c.1,λ_ H1 s1 _=>w.er H1 Cc (R.same.trans s1) c.2⟩
end
end L3
namespace L2
theorem Ga {prog:Program}{w:World}{A:Around}{E:Value->Shared->Prop}{s:Shared}{K:Fg}{x C:Addr}{o:Obj}{Q:Option Value->Shared->Prop}(X:K.In s.heap)(I:W.InstAt s.heap x o C none)
  (hga:W.findIn K (.ref C) "__getattribute__"=some (some (.builtin "BaseException.__getattribute__"))) (hk:W.findIn K (.ref C) "__getattr__"=some none) (hb:W.mroIn K C (.type "BaseException")=some true)
  (hf:W.findObj K C none "__class__"=some (.bind (.builtin "getset_descriptor.__get__") (.builtin "object.__class__"))) (hm:W.mroIn K C (.type "object")=some true)
  (k:Q (some (.ref C)) { s with toks:=s.toks+1 }):wpAny (model prog w) A (getAttr? (.ref x) "__class__") Q E s:=by
 obtain⟨hh,g,d,t,os⟩:=s;have L0:=I.type (M:=model prog w);have L1:=cA (M:=model prog w) X hga;have Lk:=cA (M:=model prog w) X hk;have Lb:=fM (M:=model prog w) X hb;have Lf:=W.looks_find (M:=model prog w) X I hf;have bnd:=(eH.ga).bind (.ref x);unfold getAttr? getAttrBy? getAttrBy;refine aa (wpAny_mkText (aa (wpAny_attempt (b8 (aa (L0.at (aa (L1.at ?_))))))));unfold getAttrByItsOwn hookBefore;rw[ak (show onTheHeap (.ref C)=true from rfl)];refine aa (Lk.at ?_);refine aa (wpAny_attempt (b8 ?_));show wpAny _ _ (boundAndCalled _ _ _) _ _ _;unfold boundAndCalled;rw[bnd];refine aa (aP ?_);refine cX (dE eH.ga.plain PySem.F.entry_bexc_ga ?_);have hkk:builtinKind "BaseException.__getattribute__"=some .slot:=by decide +kernel
 have hsplit:splitId "BaseException.__getattribute__"=some ("BaseException","__getattribute__"):=by decide +kernel
 have haa:=PySem.F.args_bexc_ga (.ref x) (.str "__class__" t);simp only[checkBuiltinCall,hkk,hsplit];have LI:W.Looks (model prog w) hh (isInstance (.ref x) (.type "BaseException")) true:=L0.andThen Lb;refine aa (LI.at ?_);rw[ai (by decide)];refine du (a:=()) haa ?_;unfold Builtin.«object.__getattribute__»;refine aa (du (a:=(.ref x,[.str "__class__" t])) rfl ?_);refine aa (aP (aa (L0.at (aa (Lf.at ?_)))));refine aa (b8 (cX ?_));refine W.class_get (s:=⟨hh,g,d,t+1,os⟩) (ox:=o) (od:=none) X I hm ?_;exact aP (W.handed_on rfl (aP k))
structure Fb (K:Fg)(C:Addr):Prop where
 hg:W.findIn K (.ref C) "__getattribute__"=some (some (.builtin "BaseException.__getattribute__"))
 hk:W.findIn K (.ref C) "__getattr__"=some none
 hb:W.mroIn K C (.type "BaseException")=some true
 hd:W.hasDictIn K C=true
 ha:W.findIn K (.ref C) "__class__"=some (some (.builtin "object.__class__"))
 hn:W.specialIn K (.builtin "object.__class__") "__get__"=some (some (.builtin "getset_descriptor.__get__"))
 htk:W.takesIn K (.builtin "object.__class__")=some true
 hm:W.mroIn K C (.type "object")=some true
abbrev SJ (a:Addr)(cls:Value):Heap->Prop:=λh=>∃o vs,h.get? a=some o/\o.cls=cls/\o.dict=none/\o.data=.fields vs
theorem Fb.lk {K:Fg}{C:Addr}(F:Fb K C):∃c d cd sl,K.lookup C=some ⟨c,d,.cls cd,sl⟩:=by
 obtain⟨cd,hc,_⟩:=eQ F.hd;unfold W.clsIn at hc;split at hc
 ·rename_i c' d' cd' sl' ho;exact⟨c',d',cd',sl',ho⟩
 ·cases hc
theorem GD {K:Fg}{x C:Addr}(F:Fb K C):W.KitX K (.ref x) (.ref C) (SJ x (.ref C)) where
 ty:=λ_ _ _ ⟨_,_,e,hc,_⟩=>by rw[<- hc];exact(bL e).andThen .now
 it:=λ_ _ X _=>by obtain⟨c,d,cd,sl,ho⟩:=F.lk;intro A Q E s k q;unfold isType loadHead;exact aa (fF (k _ _ (X _ _ ho)) (aP q))
 ne:=λh tp dd its n sl X htp=>by obtain⟨c,d,cd,sl',ho⟩:=F.lk;refine Bool.eq_false_iff.mpr λq=>?_;obtain rfl:C=tp:=Value.ref.inj (beq_iff_eq.mp q);have z:=(X _ _ ho).symm.trans htp;cases z
 ca:=λ{_ _ _ _ _ s} X ⟨o,vs,e,hc,hdi,hd⟩ k=>by
  have I:W.InstAt s.heap x o C none:=⟨e,hc,by unfold W.notCls;rw[hd],by rw[hdi];exact tJ⟩;have hf:W.findObj K C none "__class__"=some (.bind (.builtin "getset_descriptor.__get__") (.builtin "object.__class__")):=by obtain⟨cd,hc',_⟩:=eQ F.hd;unfold W.findObj;rw[hc',eW,F.ha,eW];simp[F.hn,F.htk]
  exact Ga X I F.hg F.hk F.hb hf F.hm k
def Tj (K:Fg):List V->Hp->VK->Prop:=λxs H Q=>(∃x c t cv b,xs=[x,c]/\Hg c=some cv/\TyOf K H x t/\W.kitOne K t cv=some b/\Q (.bl b) H) \/
 ∃a c C cv b,xs=[.ref a,c]/\Hg c=some cv/\H a=some (Ar a (.ref C))/\Fb K C/\W.kitOne K (.ref C) cv=some b/\Q (.bl b) H
theorem Ht:CallR X (.builtin "isinstance") (Tj X.K):=by
 intro pins s σ H xs us Q I r h;rcases h with h|⟨a,c,C,cv,b,rfl,hc,ha,F,e,q⟩
 ·exact rH pins s σ H xs us Q I r h
 ·obtain⟨u,w',rfl,r1,r2⟩:=vals2 r;obtain rfl:=Ak hc r2;obtain rfl:u=.ref a:=r1;exact bF (GD F) I.kIn (I.hok a _ ha).1 e (λz=>nomatch z) λtk=>⟨.bl b,H,I.tok tk,rfl,q⟩
end L2
namespace L3
open L2
structure PB (G:Gx):Prop where
 into:∀(H:Hp) (a C:Addr),H a=some (Ar a (.ref C))->G.ob 1 H a (C:Nat)
 get:∀(H:Hp) (a:Addr) (z:Int),G.ob 1 H a z->∃C:Addr,z=(C:Nat)/\H a=some (Ar a (.ref C))
def Ms (K:Fg)(p c:PV):Prop:=Hz K p c\/∃C cv b,p=.ob 1 ((C:Nat):Int)/\Fb K C/\Ao c=some cv/\W.kitOne K (.ref C) cv=some b
def gW (K:Fg):PV->PV->Bool
 | .ob _ z,c=>match Ao c with
  |some cv=>W.kitOne K (.ref z.toNat) cv == some true
  |none=>false
 |p,c=>qd K p c
theorem ie {K:Fg}{c:PV}{k C:Nat}{cv:Value}{b:Bool}(h2:Ao c=some cv)(h:W.kitOne K (.ref C) cv=some b):gW K (.ob k ((C:Nat):Int)) c=b:=by
 show(match Ao c with|some cv=>W.kitOne K (.ref ((C:Nat):Int).toNat) cv == some true|none=>false)=b
 rw[h2];show(W.kitOne K (.ref ((C:Nat):Int).toNat) cv == some true)=b;rw[Int.toNat_natCast,h];cases b<;>rfl
theorem Gk {K:Fg}{p c:PV}{t:Value}(h1:tyP p=some t):gW K p c=qd K p c:=by cases p<;>first|rfl|cases h1
section
variable {X:Cx}{G:Gx}{a c e:Expr}{es:List Expr}{pos p:Pos}{Ca Cc C:En->Prop}{ga gc:En->PV}
theorem lN (hG:PB G)(hm:X.mg "isinstance"=none)(ha:PE X a (tX X.K G Ca ga))(hc:PE X c (tX X.K G Cc gc))(hg:Gl X "isinstance":=by rfl)(he:starEach [a,c] X.env=(false,eval a X.env)::starEach [c] X.env:=by rfl)(he2:starEach [c] X.env=[(false,eval c X.env)]:=by rfl)
  (hpl:(backTo pos (starEach [c] X.env)).any (·.1)=false:=by rfl) :
  PE X (.Call (.Name "isinstance" p) [a,c] [] pos) (yI X.K G (λρ=>Ca ρ/\Cc ρ/\Ms X.K (ga ρ) (gc ρ)) λρ=>gW X.K (ga ρ) (gc ρ)=true):=
 jz (pe_callB Ht hg hm oV (pa_cons ha (pa_cons hc pa_nil he2) he) (by decide) (by decide) he hpl) λB σ H ρ O Q R cc q=>⟨B,ρ,O,R,cc.1,λv H1 s1 a1=>⟨B,ρ,O,R.grow s1,cc.2.1,λu H2 s2 a2=>by
  rcases cc.2.2 with⟨t,cv,b,h1,h2,h3⟩|⟨C,cv,b,h1,F,h2,h3⟩
  ·refine .inl ⟨v,u,t,cv,b,rfl,At.cls a2 h2,TyOf.up (iU.trans s2) (a1.ty h1),h3,q _ H2 (s1.trans s2) ?_⟩;show V.bl b=V.bl (decide (gW X.K (ga ρ) (gc ρ)=true));rw[Gk h1,vz h1 h2 h3,cq]
  ·have a1':=At.mono (jD s2) _ _ a1;rw[h1]at a1';obtain⟨ad,rfl,ob⟩:=a1';obtain⟨C',ez,hx⟩:=hG.get _ _ _ ob;obtain rfl:C=C':=Int.ofNat.inj ez;refine .inr ⟨ad,u,C,cv,b,rfl,At.cls a2 h2,iU _ _ hx,F,h3,q _ H2 (s1.trans s2) ?_⟩;show V.bl b=V.bl (decide (gW X.K (ga ρ) (gc ρ)=true));rw[h1,ie h2 h3,cq]⟩⟩
end
section
variable {X:Cx}{G:Gx}{Er:ER}{a b e:Expr}{pos p px apos:Pos}{C Ca Cb:En->Prop}{gl hl:En->List Int}{i j k:Nat}{x:Str}
def TX:PV->Int
 | .int n=>n
 |_=>0
def Uy:PV->List Int
 | .ints ns=>ns
 |_=>[]
theorem Hw (h:PE X e (tX X.K G C g)):PE X e (iu X.K G (λρ=>C ρ/\g ρ=.int (TX (g ρ))) λρ=>TX (g ρ)):=
 jz h λB σ H ρ O Q R c q=>⟨B,ρ,O,R,c.1,λv H' s a=>q v H' s (by rw[<- c.2];exact a)⟩
def PX:PV->List PV
 | .lst xs=>xs
 |_=>[]
theorem my (h:PE X e (tX X.K G C g)):PE X e (tX X.K G (λρ=>C ρ/\g ρ=.lst (PX (g ρ))) λρ=>.lst (PX (g ρ))):=
 jz h λB σ H ρ O Q R c q=>⟨B,ρ,O,R,c.1,λv H' s a=>q v H' s (by rw[<- c.2];exact a)⟩
theorem Mf (he:PE X e (tX X.K G C g))(hgt:PG X (.Tuple [.Name x px,.Name y py] kk tp) (gTup X.K 2 (gCons (gName i) (gCons (gName j) gNil))))
  (hs:swapsWithSole [.Tuple [.Name x px,.Name y py] kk tp] e pos.line X.env=pure false:=by rfl) (hw:swappedStores [.Tuple [.Name x px,.Name y py] kk tp] e X.env=pure none:=by rfl)
  (h1:(assignEach [.Tuple [.Name x px,.Name y py] kk tp] X.env).map (·.2)=[assign (.Tuple [.Name x px,.Name y py] kk tp) X.env]:=by rfl) :
  PS X (.Assign [.Tuple [.Name x px,.Name y py] kk tp] e pos) (ts X.K G Er λP ρ=>C ρ/\∃u v,g ρ=.tup [u,v]/\P.nx ((ρ.set i (.fr u)).set j (.fr v))):=
 toS (ps_asg he hgt hs hw h1) λB σ H ρ O P D R c w=>by obtain⟨c1,u,v,eg,c3⟩:=c;refine⟨B,ρ,O,R,c1,λt H1 s1 a1=>?_⟩;rw[eg]at a1;obtain⟨l,vs,rfl,hl,v1,r1,rfl,b1,v2,r2,rfl,b2,rfl⟩:=a1;exact⟨l,_,rfl,SqT.of (iU _ _ hl),rfl,_,_,rfl,_,_,rfl,rfl,w.nx _ H1 _ ⟨O,((R.grow s1).set b1).set b2⟩ c3⟩
end
def Jv (C:Addr):Sp:=λvs H Q _=>∃x dx:Addr,vs=[.ref x]/\H x=some (.ins C dx [])/\Q .non (upd H x (.ins C dx [("size",.int 0)]))
theorem Mp {H:Hp}{O:Addr->Bool}{x:Addr}(hd:∀a,O a=true->H a≠none)(hx:H x=none){H':Hp}:mn H' O x=H' x:=ju (by
 cases z:O x with
 |false=>rfl
 |true=>exact absurd hx (hd x z))
theorem Lr (hx:H x=none)(hd:H dx=none):Same H (upd (upd (upd H dx (.own x)) x (.ins C dx [])) x (.ins C dx fs)):=mV λb o e=>by rw[upd_ne (ne_of_none e hx),upd_ne (ne_of_none e hx),upd_ne (ne_of_none e hd)];exact e
def KW (cW:Addr)(H:Hp)(a:Addr)(z:Int):Prop:=z=0/\∃dx fs,H a=some (.ins cW dx fs)/\fs.lookup ("size":Str)=some (.int 0)/\∀m∈xF,fs.lookup m=none
theorem KW.same (k:KW cW H a z)(s:Same H H'):KW cW H' a z:=by obtain⟨e0,dx,fs,e,r⟩:=k;exact⟨e0,dx,fs,s _ _ e,r⟩
section
variable {X:Cx}{G:Gx}{pos p:Pos}{j k:Nat}{x:Str}{C:Addr}
theorem S6 (o:QB X.prog X.w X.K X.mg X.base CX0 j x C ["self"] (Jv C))(hr:Room k X.A)(hG:∀(H:Hp) (a dx:Addr),H a=some (.ins C dx [("size",.int 0)])->G.ob 0 H a 0)(hj:j+1<=k:=by decide)(hg:Gl X x:=by rfl)(hdb:(x == ("__debug__":Str))=false:=by decide) :
  PE X (.Call (.Name x p) [] [] pos) (tX X.K G (λ_=>True) λ_=>.ob 0 0):=
 jz (wI o hr pass0 hj hg hdb) λB σ H ρ O Q R _ q=>λy dx hy hd hne=>by refine⟨y,dx,rfl,upd_same,rfl,q (.ref y) _ (Lr hy hd) ⟨y,rfl,hG _ _ dx ?_⟩⟩;rw[Mp R.dom hy];exact upd_same
end
end L3
end
namespace L2
open PySem PySem.Spec PyProof.Rows PySem.W PySem.Calls
theorem Jm:∀(ns:Li),∀n∈ns,WData.weight (.int n)<=WData.weightAll (ns.map WData.int)
 |[],n,h=>by cases h
 |m::r,n,h=>by
  rw[bo];simp only[WData.weightAll];rcases aq.mp h with rfl|h
  ·lia
  ·have:=Jm r n h;lia
theorem Kp {ns:Li}(h:WData.layableAll [WData.list (ns.map WData.int)]=true){n:Int}(hn:n∈ns):Builtin.Int.intBits n<=2^20:=by have h1:WData.layable (WData.list (ns.map WData.int))=true:=bc.mp h _ aj;unfold WData.layable at h1;rw[bA]at h1;have h2:=bQ h1.2;have h3:=Jm ns n hn;simp only[WData.weight]at h2 h3;exact aA h3 h2
theorem Je {l:W.OpenLaw}{n k:Nat}{XP:(Str->Option Value)->Heap->Prop}{YP:World->Heap->Prop}{d:DefRec}{K:Params->Fg}{CX:World->CXT}{sp:World->Sp}
  (hn:l.most=some n) (hn2:n<=sizeLine) (hdf:d.params.defaults=[]) (hr:Room k callerA) (hY:∀(w:World) (h:Heap),YP w h->(K w.params).In h)
  (F:∀(w:World) (mg:Mg) (fa:Addr) (h:Heap),(K w.params).In h->h.Ns mainGlobals mg->mg d.name=some (.ref fa) ->
   ∃fd:FuncData,(∀(s:Shared) (u:Value),BindsTo s fd ⟨[u],[]⟩ [(x,u)])/\∀base:Heap,(K w.params).In base->base.Ns mainGlobals mg->FnOk l.prog w (K w.params) mg base (CX w) k fa fd [x] (sp w))
  (LO:∀(w:World) (h:Heap),YP w h->Aw (K w.params) h)
  (hsp:∀(w:World) (H:Hp) (a:Addr) (ns:List Int),ns.length<=n->(∀m∈ns,Builtin.Int.intBits m<=2^20)->SqL (K w.params) H a (ns.map V.int)->sp w [.ref a] H (λv _=>v=.bl true) λ_ _ _=>False)
  (hCX:∀(w:World) (H:Hp) (s:Shared) (e:Value) (s':Shared),CX w [] H s (λ_ _ _=>False) e s' -> False):W.WalkO q loose XP YP l.row.toRowW d [] (λf vs=>PySem.call f vs):=by
 intro w s₀ s₁ mg mb G Y fa o pm cd doc dV kV ho hd hcd hD hmg hg args vals as hpre hlay hrd hwl hlo;obtain rfl:dV=.none:=Dflts.none hD hdf;obtain rfl:kV=.none:=Dflts.noKw hD;obtain⟨a,vs,ns,rfl,rfl,hobj,hints,hlen⟩:=Att.script_of hn hpre hwl;have KX:=hY w _ Y;obtain⟨fd,hb,hF⟩:=F w mg fa _ KX G.T.g hmg;refine enter_call (dh (law_call KX G.T.g G.T.b G.T.builtins G.T.nolimit hg hobj hints (aA hlen hn2) hr (LO w _ Y) G.T.bmain hF hb (λH hS=>hsp w H a ns hlen (λm hm=>Kp hlay hm) hS) λH e s'=>hCX w H s₁ e s') λr s' hq=>?_);obtain⟨rfl,h2,h3,h4⟩:=hq;exact⟨.inl ⟨.bool true,.bool true,[],rfl,λ_=>rfl,.bool true,Att.post_true l _,λ_=>⟨List.Pairwise.nil,λ_ hm=>(nomatch hm)⟩⟩,h2,h3,h4⟩
def qK (K:Fg):Sp:=λvs H Q _=>∃(a:Addr) (ns:List Int),vs=[.ref a]/\SqL K H a (ns.map V.int)/\ns.length<=63/\(∀m∈ns,Builtin.Int.intBits m<=2^20)/\∀H',Q (.bl true) H'
end L2
section
open PySem PySem.Spec PyProof.Rows
namespace L3
open L2
theorem RW {P:Program}{w:World}{K:Fg}{mg:Mg}{base:Heap}{G:Gx}{k:Nat}{x:Str}{st:Stmt}{N:Ls}{f:Addr}{fd:FuncData}{y:Str}(F:Fun K x x st f fd)(S:FnScope N [y] (defScope st))
  (hbody:∀(cdv:Value) (A:Around) (outer:List Env) (s:Shared) (H:Hp) (E:XK),Room k (A.deeper (envOfC x (defScope st) s.heap.objs.size f cdv)) ->
   ∃fs,PSs (cxOf CX0 P w K mg base N x (defScope st) f cdv A outer s H E).nox (defBody st) (ts K G Sh fs)/\∀ns:List Int,ns.length<=63->(∀m∈ns,Builtin.Int.intBits m<=2^20)->fs { nx:=λ_=>False,rt:=λp=>p=.bl true } (jt N [.scr ns])):FnOk P w K mg base CX0 (k+1) f fd [y] (qK K):=by
 refine F.ok S (λvs H Q E h=>?_) λcdv A outer s H vs Q E hr h=>?_
 ·obtain⟨a,ns,rfl,_⟩:=h;rfl
 obtain⟨a,ns,rfl,hS,hl,hb,q⟩:=h;obtain⟨fs,b,c⟩:=hbody cdv A outer s H E hr;have al:jn K G (mn H λ_=>false) [.scr ns] [.ref a]:=⟨_,_,rfl,⟨a,rfl,by rw[QM];exact hS⟩,rfl⟩;refine⟨_,b,⟨H,λ_=>false⟩,jt N [.scr ns],_,⟨_,oE (λ_ z=>by cases z) al⟩,c ns hl hb,⟨λ_ _ _ _ h=>h.elim,λv H' p s' a' h=>?_,λ_ _ _ _ _ _ h=>h.elim,λ_ _ _ _ _ h=>h.elim,λ_ _ _ _ h=>h,λ_ _ _ _ h=>h,λ_ _ _ h=>h⟩⟩;subst h;subst a';exact q H'
end L3
namespace L2
def CZ (lo c:Int)(n:Nat):It:=⟨λi _=>i<n,λi H x H'=>H'=H/\x=.int (lo+i*c),λi _=>n<=i⟩
theorem nO {P:Program}{w:World}{K:Fg}{tg:Expr}(it:Addr)(lo c:Int)(n:Nat):Turn P w K tg (CZ lo c n) [it] it (λi h=>IsRangeIter h it (lo+(i:Nat)*c) ((n:Int)-(i:Nat)) c) where
 mem:=by simp
 obj:=λi h st b hb=>by
  have e:b=it:=by simpa using hb
  subst e;exact⟨_,st,λv z=>by
   have z':Data.fields _=Data.cell v:=z;cases z'⟩
 keep:=λi h h' st k=>k it (by simp) _ st
 item:=by intro X hP hw hK hc i pins s σ H E I hf st hg;subst hP hw hK;obtain⟨f0,f1,f2,f3,f4,f5⟩:=hf it (by simp);have W:=Walks.range (prog:=X.prog) (w:=X.w) (I.ok.hd hc) it lo c n;refine W.item i s _ _ hg st λv h' tk hv st' kk=>?_;obtain⟨t,rfl⟩:=hv;have I1:Inv X pins σ H { s with heap:=h',toks:=tk }:=I.turned (λb o hb e=>kk b o (by simpa using hb) e) f0 f1 f3 f4 f5;exact⟨_,rfl,go_of (s:={ s with heap:=h',toks:=tk }) (n:="range_iterator") st' rfl rfl (by decide) ⟨.int (lo+i*c),H,I1,⟨t,rfl⟩,⟨rfl,rfl⟩,st',λb hb=>(hf b hb).1⟩⟩
 done:=by intro X hP hw hK hc i pins s σ H E I hf st hg;subst hP hw hK;obtain⟨f0,f1,f2,f3,f4,f5⟩:=hf it (by simp);exact wpAny_pyNext_range_end (I.ok.hd hc) st (by have:n<=i:=hg;lia) λh' eb=>⟨rfl,I.turned (t':=s.toks) (λb o hb e=>eb b o hb e) f0 f1 f3 f4 f5⟩
 self:=λ_ _ _ _ _ st h=>wpAny_pyIter_rangeiter st h
def qL (lo hi c:Int):Nat:=if lo<hi then((hi-lo-1) / c+1).toNat else 0
theorem FN {lo hi c:Int}(hc:0<c):((qL lo hi c:Nat):Int)=Builtin.Range.rangeSize lo hi c:=by
 unfold qL Builtin.Range.rangeSize;rw[ak hc];split
 ·have:0<=(hi-lo-1) / c:=Int.ediv_nonneg (by lia) (by lia);lia
 ·rfl
def RL (ta:TA):TI:=λσ H R=>ta σ H λvs H1=>∃i j c:Int,vs=[.int i,.int j,.int c]/\(0<c/\c<1000 /\ -(2^62)<=i/\i<2^62 /\ -(2^62)<=j/\j<2^62)/\R (CZ i c (qL i j c)) H1
theorem Gn {X:Cx}{tg a b c:Expr}{ta:TA}{p pos:Pos}(hg:Gl X "range")(hm:X.mg "range"=none)(ha:PA X [a,b,c] ta)(hs:starEach [a,b,c] X.env=(false,eval a X.env)::starEach [b,c] X.env:=by rfl)(hpl:(backTo pos (starEach [b,c] X.env)).any (·.1)=false:=by rfl) :
  PI X tg (.Call (.Name "range" p) [a,b,c] [] pos) (RL ta):=by
 intro pins s σ H R I h;refine Call_ (ld_blt I hg hm boot_range (bE (thn (ha pos pins s σ H _ I h) λus s1 ⟨vs,H1,I1,r1,q1⟩=>?_) hs hpl));obtain⟨i,j,k,e,⟨k1,k2,l1,l2,l3,l4⟩,q⟩:=q1;subst e;cases r1 with
 |cons r rr=>
  cases rr with
  |cons r' rr=>
   cases rr with
   |cons r'' rr=>
    cases rr;obtain⟨t,rfl⟩:=r;obtain⟨t',rfl⟩:=r';obtain⟨t'',rfl⟩:=r'';refine call_range_3 (by lia) ?_ (.inl (fh (by lia)));have sz:=FN (lo:=i) (hi:=j) k1;have le:((qL i j k:Nat):Int)<2^63:=by
     unfold qL;split
     ·have h1:(j-i-1) / k<=(j-i-1):=Int.ediv_le_self _ (by lia);have h2:0<=(j-i-1) / k:=Int.ediv_nonneg (by lia) (by lia);lia
     ·decide
    refine dS (fJ ..) ?_ ?_
    ·unfold Builtin.Range.small;rw[<- sz];have fits:∀x:Int,-(2^63)<=x->x<2^63->Builtin.Range.rangeFitsLong x=true:=λx h1 h2=>by unfold Builtin.Range.rangeFitsLong;rw[bA,bR,bR];exact⟨h1,h2⟩
     have n0:(0:Int)<=((qL i j k:Nat):Int):=bZ _;generalize ((qL i j k:Nat):Int)=nn at *
     simp only[fits i (by lia) (by lia),fits j (by lia) (by lia),fits k (by lia) (by lia),fits nn (by lia) (by lia),fits (j+(k-1)) (by lia) (by lia),Bool.and_true,Bool.true_and,fQ,ak (show k > 0 by lia)]
    have I2:Inv X pins σ H1 { s1 with heap:=s1.heap.push { cls:=.type "range",data:=.fields #[.int i t,.int j t',.int k t''] },toks:=s1.toks }:=I1.kept λb o e=>af _ e;refine⟨(s1.heap.push { cls:=.type "range",data:=.fields #[.int i t,.int j t',.int k t''] }).objs.size,[(s1.heap.push { cls:=.type "range",data:=.fields #[.int i t,.int j t',.int k t''] }).objs.size],_,_,H1,rfl,
     I2.kept (t':=s1.toks) λb o e=>af _ e,nO _ i k (qL i j k),?_,λb hb=>?_,q⟩
    ·rw[sz,show i+((0:Nat):Int)*k=i by simp,show Builtin.Range.rangeSize i j k-((0:Nat):Int)=Builtin.Range.rangeSize i j k by simp];exact aM _ rfl
    ·have e:b=(s1.heap.push { cls:=.type "range",data:=.fields #[.int i t,.int j t',.int k t''] }).objs.size:=by simpa using hb
     subst e;exact I2.fpOk (aw _) (I2.hok.fresh (aw _))
theorem pB {g:TG}{tb:TS}{D:Ends}{lo c:Int}{n:Nat}{σ:St}{H:Hp}(Pv:Nat->St->Hp->Prop)(h0:Pv 0 σ H)(hs:∀i σ H,i<n->Pv i σ H->g (.int (lo+i*c)) σ H λσ2 H2=>tb { D with nx:=Pv (i+1),ct:=Pv (i+1),bk:=D.nx } σ2 H2)(hd:∀σ H,Pv n σ H->D.nx σ H) :
  ∃W:Nat->Nat->St->Hp->Prop,(∃m,W 0 m σ H)/\∀i m σ H,W i m σ H ->
   ((CZ lo c n).stop i H/\D.nx σ H)\/((CZ lo c n).go i H/\∃N:St->Hp->Prop,(∀σ' H',N σ' H' -> ∃m',m'<m/\W (i+1) m' σ' H')/\∀x H',(CZ lo c n).yld i H x H' -> g x σ H' λσ2 H2=>tb { D with nx:=N,ct:=N,bk:=D.nx } σ2 H2):=by
 refine⟨λi m σ H=>m=n-i/\i<=n/\Pv i σ H,⟨n,by simp,b6 _,h0⟩,?_⟩;rintro i m σ H ⟨rfl,hi,p⟩;by_cases hlt:i<n
 ·refine .inr ⟨hlt,Pv (i+1),λσ' H' p'=>⟨n-(i+1),by lia,rfl,hlt,p'⟩,λx H' y=>?_⟩;obtain⟨rfl,rfl⟩:=y;exact hs i σ _ hlt p
 ·have e:i=n:=by lia
  subst e;exact .inl ⟨aw _,hd σ H p⟩
end L2
namespace L3
open L2
mutual
def dat:PV->PyData
 | .int n=>.int n
 | .bl b=>.bool b
 | .non=>.none
 | .str s=>.str s
 | .ints ns=>.list (ns.map PyData.int)
 | .lst xs=>.list (Pj xs)
 | .tup xs=>.tuple (Pj xs)
 |_=>.none
def Pj:List PV->List PyData
 |[]=>[]
 |p::ps=>dat p::Pj ps
end
def Ud (p q:PV):Prop:=PySem.Spec.same (dat p) (dat q)=true
instance (p q:PV):Decidable (Ud p q):=inferInstanceAs (Decidable (_=true))
theorem Gq {X:Cx}{G:Gx}{Er:ER}{f:FS}{C Cb Cc:En->Prop}{pos:Pos}{k:Nat}{x:Str}{a b c:Expr}{body:List Stmt}{g h st:En->Int}{p px pos':Pos}(hp:PassesOwn (model X.prog X.w) X.A X.env X.xe)(hc:X.calm=true)(hg:Gl X "range")(hm:X.mg "range"=none)(ha:PE X a (iu X.K G C g))(hb':PE X b (iu X.K G Cb h))(hc':PE X c (iu X.K G Cc st))(hN:X.N.Nodup)(hi:X.N[k]?=some x)(hx:Loc X.env.scope x)
  (hb:PSs X body (ts X.K G Er f)) (hs:starEach [a,b,c] X.env=(false,eval a X.env)::starEach [b,c] X.env:=by rfl) (hs2:starEach [b,c] X.env=(false,eval b X.env)::starEach [c] X.env:=by rfl) (hs3:starEach [c] X.env=[(false,eval c X.env)]:=by rfl) (hpl:(backTo pos' (starEach [b,c] X.env)).any (·.1)=false:=by rfl) (hfs:∀x,foldedSetIterable (.Call (.Name "range" p) [a,b,c] [] pos') X.env x=pure x:=by intro _;rfl)
  (hf:X.fn x=true\/X.env.scope.names.lookup x=some .local:=by walk_at "w") :
  PS X (.For (.Name x px) (.Call (.Name "range" p) [a,b,c] [] pos') body [] pos) (ts X.K G Er λP ρ=>(C ρ/\Cb ρ/\Cc ρ)/\(0<st ρ/\st ρ<1000 /\ -(2^62)<=g ρ/\g ρ<2^62 /\ -(2^62)<=h ρ/\h ρ<2^62) /\
   ∃W:Nat->En->Prop,W 0 ρ/\(∀i ρ',i<qL (g ρ) (h ρ) (st ρ)->W i ρ' -> f (P.lp (W (i+1))) (ρ'.set k (.fr (.int (g ρ+i*st ρ)))))/\∀ρ',W (qL (g ρ) (h ρ) (st ρ)) ρ' -> P.nx ρ'):=
 toS (ps_for hp hc (Gn hg hm (pa_cons ha (pa_cons hb' (pa_cons hc' pa_nil hs3) hs2) hs) hs hpl) (pg_name hN hi hx hf) hb hfs) λB σ H ρ O P D R cc w=>by
  obtain⟨⟨c1,c2,c3⟩,l,W,w0,stp,nd⟩:=cc;refine⟨B,ρ,O,R,c1,λv H1 s1 a1=>⟨B,ρ,O,R.grow s1,c2,λu H2 s2 a2=>⟨B,ρ,O,(R.grow s1).grow s2,c3,λt H3 s3 a3=>?_⟩⟩⟩;have a1:v=.int (g ρ):=a1;have a2:u=.int (h ρ):=a2;have a3:t=.int (st ρ):=a3;subst a1 a2 a3;refine⟨g ρ,h ρ,st ρ,rfl,l,pB (λi σ H=>∃ρ',zZ X.K G B σ H ρ'/\W i ρ') ⟨ρ,⟨O,((R.grow s1).grow s2).grow s3⟩,w0⟩ ?_ ?_⟩
  ·rintro i σ H hi ⟨ρ',⟨O',R'⟩,hw⟩;exact⟨B,_,_,⟨O',R'.set (p:=.int _) rfl⟩,stp i ρ' hi hw,⟨λσ' H' ρ' R' h=>⟨ρ',R',h⟩,w.rt,w.rl,w.rn,w.nx,λσ' H' ρ' R' h=>⟨ρ',R',h⟩,w.er⟩⟩
  ·rintro σ H ⟨ρ',R',hw⟩;exact w.nx σ H ρ' R' (nd ρ' hw)
def tR (K:Fg)(G:Gx)(C:En->Prop)(F:En->Rs)(E:XK):TE:=λσ H Q=>∃B ρ O,Rep K G B σ H ρ O/\C ρ/\(∀p,F ρ=.val p->∀v H',Same H H' -> At K G (mn H' O) p v->Q v H')/\∀c,F ρ=.err c->∀H',Same H H' -> E (.ref c) none H'
abbrev PR (X:Cx)(G:Gx)(e:Expr)(C:En->Prop)(F:En->Rs):Prop:=∀E,Passes (j9 X.prog X.w) X E->PE X e (tR X.K G C F E)
section
variable {X:Cx}{G:Gx}{Er:ER}{E:XK}{e:Expr}{es:List Expr}{pos p pos':Pos}{i j k l:Nat}{x y n:Str}{ps:List Str}{pre:List PV->Prop}{C:En->Prop}{gs:En->List PV}{g:En->PV}{F:List PV->Rs}{FE:En->Rs}{Cc Cl:Addr}{px py pn hp p1 p2:Pos}
theorem t6 (h:PR X G e C FE)(hx:Passes (j9 X.prog X.w) X E):PS X (.Return (some e) pos) (ts X.K G (Qc E) λP ρ=>C ρ/\(∀p,FE ρ=.val p->P.rt p)/\∀c,FE ρ=.err c->P.er c):=
 toS (ps_ret (h E hx)) λB σ H ρ O P D R c w=>⟨B,ρ,O,R,c.1,λp hp v H2 s2 a2=>w.rt v H2 _ (R.same.trans s2) (At.mono (mH R.hid) _ _ a2) (c.2.1 p hp),λcc hcc H2 s2=>w.er H2 cc (R.same.trans s2) (c.2.2 cc hcc)⟩
theorem Ah (h:PR X G e C FE)(hx:Passes (j9 X.prog X.w) X E)(hN:X.N.Nodup)(hi:X.N[i]?=some y)(hy:Loc X.env.scope y)(hs:swapsWith e (some (.Name y py)) pos.line X.env=pure false:=by rfl)
  (hf:X.fn y=true\/X.env.scope.names.lookup y=some .local:=by walk_at "w"):PS X (.Assign [.Name y py] e pos) (ts X.K G (Qc E) λP ρ=>C ρ/\(∀p,FE ρ=.val p->P.nx (ρ.set i (.fr p)))/\∀c,FE ρ=.err c->P.er c):=
 toS (ps_set hN hi hy (h E hx) hs hf) λB σ H ρ O P D R c w=>⟨B,ρ,O,R,c.1,λp hp v H2 s2 a2=>w.nx _ H2 _ ⟨O,(R.grow s2).set a2⟩ (c.2.1 p hp),λcc hcc H2 s2=>w.er H2 cc (R.same.trans s2) (c.2.2 cc hcc)⟩
def uh:PV->Bool
 | .non=>true
 |_=>false
def Qo:PV->Prop
 | .non=>True
 | .ob _ _=>True
 | .ints _=>True
 |_=>False
theorem O6 (he:PE X e (tX X.K G C g)):PT X (.Compare e [.Is] [.Constant .none k2 p] pos) (qH X.K G (λρ=>C ρ/\Qo (g ρ)) λρ=>uh (g ρ)=true):=
 λpins s σ H Q I ⟨B,ρ,O,R,c,q⟩=>pt_cmpR op_isN he pe_non (nomark _) pins s σ H Q I ⟨B,ρ,O,R,c.1,λv H1 s1 a1=>⟨rfl,_,rfl,by
  have z:=q H1 s1;have key:decide (v=V.non)=decide (uh (g ρ)=true):=by
   have h:=c.2;revert a1 h;generalize g ρ=pg;intro a1 h;cases pg<;>first|exact h.elim|skip
   ·rw[a1];rfl
   ·obtain⟨a,rfl,_⟩:=a1;rfl
   ·obtain⟨a,rfl,_⟩:=a1;rfl
  rw[key];exact z⟩⟩
theorem DQ [∀ρ,Decidable (pb ρ)](hm:X.mg "int"=none)(he:PE X e (yI X.K G C pb))(hg:Gl X "int":=by rfl)(hst:starEach [e] X.env=[(false,eval e X.env)]:=by rfl):PE X (.Call (.Name "int" p) [e] [] pos) (iu X.K G C λρ=>if pb ρ then 1 else 0):=
 jz (pe_callTy call_int1 hg hm qM (pa_cons he pa_nil hst) (by decide) (by decide) hst rfl) λB σ H ρ O Q R c q=>⟨B,ρ,O,R,c,λv H1 s1 a1=>by
  subst a1;refine .inr ⟨_,rfl,q _ H1 s1 ?_⟩;show V.int (if decide (pb ρ)=true then 1 else 0)=V.int (if pb ρ then 1 else 0);by_cases d:pb ρ
  ·rw[ak d,ak (aW d)]
  ·rw[ai d,ai (by rw[aQ d];decide)]⟩
end
def T6 (KA:Hp->Addr->Int->Prop)(mono:∀{H H':Hp} {a:Addr} {z:Int},KA H a z->Same H H' -> KA H' a z):Gx:=
 ⟨λk H a z=>(k=0/\KA H a z)\/(k=1/\∃C:Addr,z=((C:Nat):Int)/\H a=some (Ar a (.ref C))),λ_ _ _ _ _ s h=>h.elim (λz=>.inl ⟨z.1,mono z.2 s⟩) λz=>.inr ⟨z.1,let ⟨C,e,q⟩:=z.2;⟨C,e,s _ _ q⟩⟩⟩
theorem jG {KA:Hp->Addr->Int->Prop}{mono:∀{H H':Hp} {a:Addr} {z:Int},KA H a z->Same H H' -> KA H' a z}:PB (T6 KA mono):=by
 refine⟨λH a C h=>.inr ⟨rfl,C,rfl,h⟩,λH a z h=>?_⟩;rcases h with⟨h,_⟩|⟨_,h⟩
 ·exact absurd h (by decide)
 ·exact h
section
variable {X:Cx}{G:Gx}{a b c e:Expr}{p pos:Pos}{C Ca Cb Cc:En->Prop}{ga gb g:En->PV}{gl:En->List Int}
theorem Rg [∀ρ,Decidable (pt ρ)](hc:PT X c (qH X.K G Cc pt))(ha:PE X a (tX X.K G Ca ga))(hb:PE X b (tX X.K G Cb gb)):PE X (.IfExp c a b pos) (tX X.K G (λρ=>Cc ρ/\(pt ρ->Ca ρ)/\(¬pt ρ->Cb ρ)) λρ=>if pt ρ then ga ρ else gb ρ):=
 jz (pe_ifExp hc ha hb) λB σ H ρ O Q R c q=>⟨B,ρ,O,R,c.1,λH1 s1=>by
  by_cases d:pt ρ
  ·rw[aW d];refine iteT ⟨B,ρ,O,R.grow s1,c.2.1 d,λv H2 s2 a2=>q v H2 (s1.trans s2) ?_⟩;rw[ak d];exact a2
  ·rw[aQ d];refine iteF ⟨B,ρ,O,R.grow s1,c.2.2 d,λv H2 s2 a2=>q v H2 (s1.trans s2) ?_⟩;rw[ai d];exact a2⟩
end
end L3
namespace L2
def RD (ta:TA):TI:=λσ H R=>ta σ H λvs H1=>∃i j:Int,vs=[.int i,.int j,.int (-1)]/\(-(2^62)<=i/\i<2^62 /\ -(2^62)<=j/\j<2^62)/\R (CZ i (-1) (i-j).toNat) H1
theorem Fw (hg:Gl X "range")(hm:X.mg "range"=none)(ha:PA X [a,b,c] ta)(hs:starEach [a,b,c] X.env=(false,eval a X.env)::starEach [b,c] X.env:=by rfl)(hpl:(backTo pos (starEach [b,c] X.env)).any (·.1)=false:=by rfl) :
  PI X tg (.Call (.Name "range" p) [a,b,c] [] pos) (RD ta):=by
 intro pins s σ H R I h;refine Call_ (ld_blt I hg hm boot_range (bE (thn (ha pos pins s σ H _ I h) λus s1 ⟨vs,H1,I1,r1,q1⟩=>?_) hs hpl));obtain⟨i,j,e,⟨l1,l2,l3,l4⟩,q⟩:=q1;subst e;cases r1 with
 |cons r rr=>
  cases rr with
  |cons r' rr=>
   cases rr with
   |cons r'' rr=>
    cases rr;obtain⟨t,rfl⟩:=r;obtain⟨t',rfl⟩:=r';obtain⟨t'',rfl⟩:=r'';refine call_range_3 (by lia) ?_ (.inl (fh (by lia)));have sz:(((i-j).toNat:Nat):Int)=Builtin.Range.rangeSize i j (-1):=by
     unfold Builtin.Range.rangeSize;rw[ai (by decide)];split
     ·have:(i-j-1) / (-(-1:Int))=i-j-1:=by rw[show -(-1:Int)=1 from rfl,Int.ediv_one]
      rw[this];lia
     ·lia
    refine dS (fJ ..) ?_ ?_
    ·unfold Builtin.Range.small;rw[<- sz];have fits:∀x:Int,-(2^63)<=x->x<2^63->Builtin.Range.rangeFitsLong x=true:=λx h1 h2=>by unfold Builtin.Range.rangeFitsLong;rw[bA,bR,bR];exact⟨h1,h2⟩
     have n0:(0:Int)<=(((i-j).toNat:Nat):Int):=bZ _;have n1:(((i-j).toNat:Nat):Int)<2^63:=by lia
     generalize (((i-j).toNat:Nat):Int)=nn at *
     simp[fits i (by lia) (by lia),fits j (by lia) (by lia),fits (-1) (by decide) (by decide),fits nn (by lia) (by lia),fits (j+0) (by lia) (by lia)]
    have I2:Inv X pins σ H1 { s1 with heap:=s1.heap.push { cls:=.type "range",data:=.fields #[.int i t,.int j t',.int (-1) t''] },toks:=s1.toks }:=I1.kept λb o e=>af _ e;refine⟨(s1.heap.push { cls:=.type "range",data:=.fields #[.int i t,.int j t',.int (-1) t''] }).objs.size,[(s1.heap.push { cls:=.type "range",data:=.fields #[.int i t,.int j t',.int (-1) t''] }).objs.size],_,_,H1,rfl,
     I2.kept (t':=s1.toks) λb o e=>af _ e,nO _ i (-1) (i-j).toNat,?_,λb hb=>?_,q⟩
    ·show IsRangeIter _ _ (i+((0:Nat):Int)*(-1)) ((((i-j).toNat:Nat):Int)-((0:Nat):Int)) (-1);rw[sz,show i+((0:Nat):Int)*(-1)=i by simp,show Builtin.Range.rangeSize i j (-1)-((0:Nat):Int)=Builtin.Range.rangeSize i j (-1) by simp];exact aM _ rfl
    ·have e:b=(s1.heap.push { cls:=.type "range",data:=.fields #[.int i t,.int j t',.int (-1) t''] }).objs.size:=by simpa using hb
     subst e;exact I2.fpOk (aw _) (I2.hok.fresh (aw _))
def T7 (u:Str)(ta tb:TE):TE:=λσ H Q=>ta σ H λx H1=>∃y,x=.str y/\y.length<=sizeLine/\(y++u).length<=sizeLine/\tb σ H1 λz H2=>∃n:Int,z=.int n/\n.natAbs.log2<1920/\(y++u++(toString n:Str)).length<=sizeLine/\Q (.str (y++u++(toString n:Str))) H2
theorem empty_app (y:Str):Str.empty++y=y:=by cases y;show Str.mk (#[]++_)=_;rw[Array.empty_append]
theorem Q3 (ha:PE X a ta)(hb:PE X b tb):PE X (.JoinedStr [.FormattedValue a (-1) none p1,.Constant (.str u) j p2,.FormattedValue b (-1) none p3] pos) (T7 u ta tb):=by intro pins s σ H Q I h;refine JoinedStr_many ?_;refine bU (FormattedValue_plain (thn (ha pins s σ H _ I h) λv s1 ⟨x,H1,I1,r1,y,ex,l1,l2,q1⟩=>?_));subst ex;obtain⟨t,rfl⟩:=r1;refine formatField_str (λt' tk=>?_) l1;refine⟨by rw[empty_app];exact l1,?_⟩;rw[empty_app];refine bU (bV ?_);refine⟨l2,?_⟩;show wpAny _ _ (joinParts (y++u) [eval (.FormattedValue b (-1) none p3) X.env]) _ _ _;have I2:Inv X pins σ H1 { s1 with toks:=tk+1 }:=I1.kept λ_ _ e=>e;refine bU (FormattedValue_plain (thn (hb pins _ σ H1 _ I2 q1) λv s2 ⟨x,H2,I3,r2,n,ex,l3,l4,q2⟩=>?_));subst ex;obtain⟨t2,rfl⟩:=r2;refine dz l3 ?_;refine⟨l4,?_⟩;refine eI ?_ l4;exact⟨.str _,H2,I3.kept λ_ _ e=>e,⟨_,rfl⟩,q2⟩
end L2
namespace L3
open L2
section
variable {X:Cx}{G:Gx}{Er:ER}{f:FS}{a b c e:Expr}{pos p:Pos}{C Ca Cb Cc:En->Prop}{ga gb gs:En->Str}{gi:En->Int}{g:En->PV}{i k:Nat}{x:Str}
theorem ig (ha:PE X a (lE X.K G Ca ga))(hb:PE X b (lE X.K G Cb gb)):PE X (.BinOp a .Add b pos) (lE X.K G (λρ=>Ca ρ/\Cb ρ/\(ga ρ).length+(gb ρ).length<=sizeLine) λρ=>ga ρ++gb ρ):=
 jz (pe_op op_add_str ha hb) λB σ H ρ O Q R c q=>two R c.1 c.2.1 λ_ _ _ H2 s1 s2 a1 a2=>⟨_,_,a1,a2,c.2.2,q _ H2 (s1.trans s2) rfl⟩
theorem mJ (hm:X.mg "str"=none)(ha:PE X a (iu X.K G C gi))(hg:Gl X "str":=by rfl)(he:starEach [a] X.env=[(false,eval a X.env)]:=by rfl):PE X (.Call (.Name "str" p) [a] [] pos) (lE X.K G (λρ=>C ρ/\(gi ρ).natAbs.log2<1920) λρ=>(toString (gi ρ):Str)):=
 jz (pe_callTy call_str_int hg hm O5 (pa_cons ha pa_nil he) (by decide) (by decide) he rfl) λB σ H ρ O Q R c q=>⟨B,ρ,O,R,c.1,λv H1 s1 a1=>by
  subst a1;exact⟨_,rfl,c.2,q _ H1 s1 rfl⟩⟩
theorem Qu (ha:PE X a (lE X.K G Ca ga))(hb:PE X b (iu X.K G Cb gi)):PE X (.JoinedStr [.FormattedValue a (-1) none p1,.Constant (.str u) j p2,.FormattedValue b (-1) none p3] pos) (lE X.K G (λρ=>Ca ρ/\Cb ρ/\(ga ρ).length<=sizeLine/\(ga ρ++u).length<=sizeLine/\(gi ρ).natAbs.log2<1920/\(ga ρ++u++(toString (gi ρ):Str)).length<=sizeLine) λρ=>ga ρ++u++(toString (gi ρ):Str)):=
 jz (Q3 ha hb) λB σ H ρ O Q R c q=>⟨B,ρ,O,R,c.1,λv H1 s1 a1=>⟨_,a1,c.2.2.1,c.2.2.2.1,B,ρ,O,R.grow s1,c.2.1,λw H2 s2 a2=>⟨_,a2,c.2.2.2.2.1,c.2.2.2.2.2,q _ H2 (s1.trans s2) rfl⟩⟩⟩
theorem xV (ha:PE X a (lE X.K G Ca ga))(hb:PE X b (lE X.K G Cb gb)):PT X (.Compare a [.Eq] [b] pos) (qH X.K G (λρ=>Ca ρ/\Cb ρ) λρ=>ga ρ=gb ρ):=
 λpins s σ H Q I ⟨_,ρ,_,R,c,q⟩=>pt_cmpR op_eq ha hb (nomark _) pins s σ H Q I (two R c.1 c.2 λv u _ H2 s1 s2 a1 a2=>by
  subst a1 a2;refine⟨rfl,_,rfl,?_⟩;have e:decide (V.str (ga ρ)=V.str (gb ρ))=decide (ga ρ=gb ρ):=by rw[decide_eq_decide];exact⟨λh=>by injection h,λh=>by rw[h]⟩
  rw[e];exact q H2 (s1.trans s2))
theorem Od (ha:PE X a (lE X.K G Ca ga))(hb:PE X b (lE X.K G Cb gb)):PE X (.Compare a [.Eq] [b] pos) (yI X.K G (λρ=>Ca ρ/\Cb ρ) λρ=>ga ρ=gb ρ):=
 jz (pe_cmpR op_eq ha hb (nomark _)) λB σ H ρ O Q R c q=>two R c.1 c.2 λv u _ H2 s1 s2 a1 a2=>by
  subst a1 a2;refine⟨rfl,?_⟩;have e:decide (V.str (ga ρ)=V.str (gb ρ))=decide (ga ρ=gb ρ):=by rw[decide_eq_decide];exact⟨λh=>by injection h,λh=>by rw[h]⟩
  rw[e];exact q _ H2 (s1.trans s2) rfl
def yL:PV->Str
 | .str x=>x
 |_=>Str.empty
theorem jN (h:PE X e (tX X.K G C g)):PE X e (lE X.K G (λρ=>C ρ/\g ρ=.str (yL (g ρ))) λρ=>yL (g ρ)):=
 jz h λB σ H ρ O Q R c q=>⟨B,ρ,O,R,c.1,λv H' s a=>q v H' s (by rw[c.2]at a;exact a)⟩
theorem Dz [∀ρ,Decidable (pt ρ)](hc:PT X c (qH X.K G Cc pt))(ha:PE X a (lE X.K G Ca ga))(hb:PE X b (lE X.K G Cb gb)):PE X (.IfExp c a b pos) (lE X.K G (λρ=>Cc ρ/\(pt ρ->Ca ρ)/\(¬pt ρ->Cb ρ)) λρ=>if pt ρ then ga ρ else gb ρ):=
 jz (Rg hc ha hb) λB σ H ρ O Q R c q=>⟨B,ρ,O,R,c,λv H' s a=>q v H' s (by
  have a:At X.K G (mn H' O) (if pt ρ then .str (ga ρ) else .str (gb ρ)) v:=a;show v=.str (if pt ρ then ga ρ else gb ρ);by_cases d:pt ρ
  ·rw[ak d]at a ⊢;exact a
  ·rw[ai d]at a ⊢;exact a)⟩
theorem gH (hN:X.N.Nodup)(hi:X.N[i]?=some x)(hx:Loc X.env.scope x)(he:PE X e (lE X.K G C gs))(hs:swapsWith e (some (.Name x pos')) pos.line X.env=pure false:=by rfl)
  (hf:X.fn x=true\/X.env.scope.names.lookup x=some .local:=by walk_at "w"):PS X (.Assign [.Name x pos'] e pos) (ts X.K G Er λP ρ=>C ρ/\∀n,n=gs ρ->P.nx (ρ.set i (.fr (.str n)))):=
 toS (sY hN hi hx he hs hf) λB σ _ ρ O P D R c w=>⟨B,ρ,P,⟨O,R⟩,⟨c.1,c.2 _ rfl⟩,w⟩
theorem nF (hN:X.N.Nodup)(hi:X.N[i]?=some x)(hx:Loc X.env.scope x)(he:PE X e (lE X.K G C gs))
  (hf:X.fn x=true\/X.env.scope.names.lookup x=some .local:=by walk_at "w"):PS X (.AugAssign (.Name x pos') .Add e pos) (ts X.K G Er λP ρ=>Tt ρ i/\C ρ/\(Jb ρ i).length+(gs ρ).length<=sizeLine/\∀n,n=Jb ρ i++gs ρ->P.nx (ρ.set i (.fr (.str n)))):=
 toS (ps_aug hN hi hx he iop_add_str hf) λB σ H ρ O _ _ R c w=>by obtain⟨c0,c1,c2,c3⟩:=c;obtain⟨v,e1,e2⟩:=R.fr i _ c0;have e2:v=.str (Jb ρ i):=e2;subst e2;exact⟨_,e1,B,ρ,O,R,c1,λu H1 s1 a1=>⟨_,_,rfl,a1,c2,w.nx _ H1 _ ⟨O,(R.grow s1).set (p:=.str _) rfl⟩ (c3 _ rfl)⟩⟩
theorem HH {g h:En->Int}(hp:PassesOwn (model X.prog X.w) X.A X.env X.xe)(hc:X.calm=true)(hg:Gl X "range")(hm:X.mg "range"=none)(ha:PE X a (iu X.K G C g))(hb':PE X b (iu X.K G Cb h))(hc':PE X c (iu X.K G Cc λ_=>-1))(hN:X.N.Nodup)(hi:X.N[k]?=some x)(hx:Loc X.env.scope x)
  (hb:PSs X body (ts X.K G Er f)) (hs:starEach [a,b,c] X.env=(false,eval a X.env)::starEach [b,c] X.env:=by rfl) (hs2:starEach [b,c] X.env=(false,eval b X.env)::starEach [c] X.env:=by rfl) (hs3:starEach [c] X.env=[(false,eval c X.env)]:=by rfl) (hpl:(backTo pos' (starEach [b,c] X.env)).any (·.1)=false:=by rfl) (hfs:∀x,foldedSetIterable (.Call (.Name "range" p) [a,b,c] [] pos') X.env x=pure x:=by intro _;rfl)
  (hf:X.fn x=true\/X.env.scope.names.lookup x=some .local:=by walk_at "w") :
  PS X (.For (.Name x px) (.Call (.Name "range" p) [a,b,c] [] pos') body [] pos) (ts X.K G Er λP ρ=>(C ρ/\Cb ρ/\Cc ρ)/\(-(2^62)<=g ρ/\g ρ<2^62 /\ -(2^62)<=h ρ/\h ρ<2^62) /\
   ∃W:Nat->En->Prop,W 0 ρ/\(∀i ρ',i<(g ρ-h ρ).toNat->W i ρ' -> f (P.lp (W (i+1))) (ρ'.set k (.fr (.int (g ρ+i*(-1))))))/\∀ρ',W (g ρ-h ρ).toNat ρ' -> P.nx ρ'):=
 toS (ps_for hp hc (Fw hg hm (pa_cons ha (pa_cons hb' (pa_cons hc' pa_nil hs3) hs2) hs) hs hpl) (pg_name hN hi hx hf) hb hfs) λB σ H ρ O P D R cc w=>by
  obtain⟨⟨c1,c2,c3⟩,l,W,w0,stp,nd⟩:=cc;refine⟨B,ρ,O,R,c1,λv H1 s1 a1=>⟨B,ρ,O,R.grow s1,c2,λu H2 s2 a2=>⟨B,ρ,O,(R.grow s1).grow s2,c3,λt H3 s3 a3=>?_⟩⟩⟩;have a1:v=.int (g ρ):=a1;have a2:u=.int (h ρ):=a2;have a3:t=.int (-1):=a3;subst a1 a2 a3;refine⟨g ρ,h ρ,rfl,l,pB (λi σ H=>∃ρ',zZ X.K G B σ H ρ'/\W i ρ') ⟨ρ,⟨O,((R.grow s1).grow s2).grow s3⟩,w0⟩ ?_ ?_⟩
  ·rintro i σ H hi ⟨ρ',⟨O',R'⟩,hw⟩;exact⟨B,_,_,⟨O',R'.set (p:=.int _) rfl⟩,stp i ρ' hi hw,⟨λσ' H' ρ' R' h=>⟨ρ',R',h⟩,w.rt,w.rl,w.rn,w.nx,λσ' H' ρ' R' h=>⟨ρ',R',h⟩,w.er⟩⟩
  ·rintro σ H ⟨ρ',R',hw⟩;exact w.nx σ H ρ' R' (nd ρ' hw)
end
end L3
namespace L2
theorem Gv (hc:X.calm=true):CallR X (.builtin "min") (λxs H Q=>∃i j k,xs=[.int i,.int j,.int k]/\Q (.int (if j<i then(if k<j then k else j) else(if k<i then k else i))) H):=by
 intro pins s σ H xs us Q I r h;obtain⟨i,j,k,rfl,q⟩:=h;cases r with
 |cons r1 rr=>
  cases rr with
  |cons r2 rr=>
   cases rr with
   |cons r3 rr=>
    cases rr;obtain⟨t,rfl⟩:=r1;obtain⟨t',rfl⟩:=r2;obtain⟨t'',rfl⟩:=r3;refine min_three_ints (I.ok.hd hc) λh' tk kk=>⟨_,H,I.kept kk,?_,q⟩;by_cases h1:j<i
    ·rw[ak h1,ak h1];by_cases h2:k<j
     ·rw[ak h2,ak h2];exact⟨_,rfl⟩
     ·rw[ai h2,ai h2];exact⟨_,rfl⟩
    ·rw[ai h1,ai h1];by_cases h2:k<i
     ·rw[ak h2,ak h2];exact⟨_,rfl⟩
     ·rw[ai h2,ai h2];exact⟨_,rfl⟩
theorem pG (r:Addr)(a b c:Int)(t u v:Tok)(hc0:¬(!(Builtin.Range.rangeFitsLong a && Builtin.Range.rangeFitsLong b && Builtin.Range.rangeFitsLong c && Builtin.Range.rangeFitsLong (-c) && Builtin.Range.rangeFitsLong (a-c) && Builtin.Range.rangeFitsLong (Builtin.Range.rangeSize a b c)))=true) :
  Meets (Builtin.«range.__reversed__» ⟨[.ref r],[]⟩) (λ_ R s=>s.heap.get? r=some { cls:=.type "range",dict:=none,data:=.fields #[.int a t,.int b u,.int c v],slots:=#[] }/\R (.ok (.ret (Value.ref s.heap.objs.size))) { s with heap:=s.heap.push { cls:=Value.type (if (Builtin.Range.rangeFitsLong a && Builtin.Range.rangeFitsLong b && Builtin.Range.rangeFitsLong c && Builtin.Range.rangeFitsLong (-c) && Builtin.Range.rangeFitsLong (a-c) && Builtin.Range.rangeFitsLong (Builtin.Range.rangeSize a b c))=true then "range_iterator" else "longrange_iterator"),data:=Data.fields #[rawInt (a+(Builtin.Range.rangeSize a b c-1)*c),rawInt (Builtin.Range.rangeSize a b c),rawInt (-c)] },toks:=s.toks }):=
 .of_wp λprog w A R s h=>by obtain⟨hp,g,d,tk,os⟩:=s;obtain⟨hl,h⟩:=h;wp_walk;exact⟨_,rfl,h⟩
section
variable {prog:Program}{w:World}{A:Around}{E:Value->Shared->Prop}{s:Shared}
abbrev Av (n:Int):Obj:={ cls:=.type "range_iterator",data:=.fields #[rawInt (n-1),rawInt n,rawInt (-1)] }
theorem uB (hr:IsRange s.heap r 0 n 1 t u v)(h0:0<=n)(h1:n<2^62)
  (h:Q (.ref s.heap.objs.size) { s with heap:=s.heap.push (Av n) }):wpAny (model prog w) A (call (.builtin "range.__reversed__") [.ref r]) Q E s:=by
 have hT:s.TypeIs (.ref r) "range":=⟨_,hr,rfl⟩;have fits:∀x:Int,-(2^63)<=x->x<2^63->Builtin.Range.rangeFitsLong x=true:=λx h1 h2=>by unfold Builtin.Range.rangeFitsLong;rw[bA,bR,bR];exact⟨h1,h2⟩
 have sz:Builtin.Range.rangeSize 0 n 1=n:=by rw[rangeSize_one];split<;>lia
 have sm:(Builtin.Range.rangeFitsLong 0 && Builtin.Range.rangeFitsLong n && Builtin.Range.rangeFitsLong 1 && Builtin.Range.rangeFitsLong (-1) && Builtin.Range.rangeFitsLong (0-1) && Builtin.Range.rangeFitsLong (Builtin.Range.rangeSize 0 n 1))=true:=by rw[sz,fits 0 (by decide) (by decide),fits n (by lia) (by lia),fits 1 (by decide) (by decide),fits (-1) (by decide) (by decide),fits (0-1) (by decide) (by decide)];rfl
 refine di dA hT F.entry_range_reversed (F.args_range_reversed_1 _) (pG r 0 n 1 t u v (by rw[sm];decide)) ⟨hr,?_⟩;rw[sm,sz];have e:(0:Int)+(n-1)*1=n-1:=by lia
 rw[e];exact h
theorem sH:isSubtype (.type "range_iterator") (.type "reversed")=pure false:=by rw[isSubtype_type];kernel_rfl
theorem qC (hr:IsRange s.heap r 0 n 1 t u v)(h0:0<=n)(h1:n<2^62)
  (h:Q₁ (.ref s.heap.objs.size) { s with heap:=s.heap.push (Av n) }) :
  codeAny (model prog w) A (.call (.builtin "reversed.__new__") ⟨[.type "reversed",.ref r],[]⟩) (wants Q₁ E) s:=by
 have hT:s.TypeIs (.ref r) "range":=⟨_,hr,rfl⟩;refine codeAny_of_tree ?_;show wpAny _ A.in1 (do checkBuiltinCall "reversed.__new__" ⟨[.type "reversed",.ref r],[]⟩;again (.builtin "reversed.__new__" ⟨[.type "reversed",.ref r],[]⟩)) _ _ s
 refine aa (du (F.newCall_reversed_1 _) (aP ⟨plainId_quiet F.plain_reversed_new _,ft F.entry_reversed_new ?_⟩));rw[Around.under_plainId F.plain_reversed_new _];unfold Builtin.«reversed.__new__»;refine aa (du (newClass_reversed _) ?_)
 try dsimp only
 refine aa (du (a:=()) (by first|rfl|kernel_rfl) ?_)
 refine aa (du (a:=()) (by first|rfl|kernel_rfl) ?_)
 try dsimp only
 refine aa (wpAny_specialOf hT dA.lookup ?_)
 try dsimp only
 refine aa (du (dA.bind _) ?_)
 try dsimp only
 first
 |rw[ai (show ¬((Value.builtin "range.__reversed__" == Value.none)=true) from aD)]
 |(show wpAny _ _ (if (Value.builtin "range.__reversed__" == Value.none)=true then _ else _) _ _ _;rw[ai (show ¬((Value.builtin "range.__reversed__" == Value.none)=true) from aD)])
 refine aa (wpAny_rule ?_);refine aa (m:=runValue (.call (.builtin "range.__reversed__") ⟨[.ref r],[]⟩)) (show wpAny _ _ (call (.builtin "range.__reversed__") [.ref r]) _ _ _ from uB hr h0 h1 ?_)
 first
 |exact aP h
 |exact aa (aP (aP h))
theorem pN (hr:IsRange s.heap r 0 n 1 t u v)(h0:0<=n)(h1:n<2^62)
  (h:Q (.ref s.heap.objs.size) { s with heap:=s.heap.push (Av n) }):wpAny (model prog w) A (call (.type "reversed") [.ref r]) Q E s:=by
 refine callType_other (U:="range_iterator") (Q₁:=λobj s₁=>obj=.ref s.heap.objs.size/\s₁={ s with heap:=s.heap.push (Av n) }) (by decide +kernel) F.create_reversed ⟨_,_,F.mro_reversed⟩ F.made_reversed sH (F.typeCall_reversed_1 _) (qC hr h0 h1 ⟨rfl,rfl⟩) ?_;rintro obj s₁ ⟨rfl,rfl⟩;exact⟨⟨_,aM _ rfl,rfl⟩,h⟩
theorem Ew {it:Addr}{x left step:Int}{Q:Value->Shared->Prop}(hit:IsRangeIter s.heap it x left step)(h:Q (.ref it) s):wpAny (model prog w) A (pyIter (.ref it)) Q E s:=by have hT:s.TypeIs (.ref it) "range_iterator":=⟨_,hit,rfl⟩;refine wpAny_pyIter_slot hT dR (wpAny_call_entry dR hT F.entry_range_iterator_iter ?_ (F.args_range_iterator_iter_1 _));exact aP ⟨_,rfl,"range_iterator",_,hT,F.slot_range_iterator_next.lookup,h⟩
end
def Ql (ta:TA):TI:=λσ H R=>ta σ H λvs H1=>∃j:Int,vs=[.int j]/\(0<=j/\j<2^62)/\R (CZ (j-1) (-1) j.toNat) H1
theorem Lp (hg:Gl X "reversed")(hm:X.mg "reversed"=none)(hgr:Gl X "range")(hmr:X.mg "range"=none)(ha:PA X [a] ta)(hs:starEach [a] X.env=[(false,eval a X.env)]:=by rfl)
  (hs2:starEach [.Call (.Name "range" p2) [a] [] pos2] X.env=[(false,eval (.Call (.Name "range" p2) [a] [] pos2) X.env)]:=by rfl):PI X tg (.Call (.Name "reversed" p) [.Call (.Name "range" p2) [a] [] pos2] [] pos) (Ql ta):=by
 intro pins s σ H R I h;refine Call_ (ld_blt I hg hm zW (bE ?_ hs2 rfl));rw[hs2];show wpAny _ _ (spliced ((false,eval (.Call (.Name "range" p2) [a] [] pos2) X.env)::[])) _ _ s;refine dW ?_;refine Call_ (ld_blt I hgr hmr boot_range (bE (thn (ha pos2 pins s σ H _ I h) λus s1 ⟨vs,H1,I1,r1,q1⟩=>?_) hs rfl));obtain⟨j,e,⟨q1,q2⟩,q⟩:=q1;subst e;obtain⟨u,rfl,ru⟩:=vals1 r1;obtain⟨t,rfl⟩:=ru;refine call_range_1 ?_;refine d8 ?_;have I2:Inv X pins σ H1 { s1 with heap:=s1.heap.push { cls:=.type "range",data:=.fields #[.int 0 s1.toks,.int j t,.int 1 (s1.toks+1)] },toks:=s1.toks+1+1 }:=I1.kept λb o e=>af _ e;refine pN (fJ ..) q1 q2 ?_;have st0:IsRangeIter ((s1.heap.push { cls:=.type "range",data:=.fields #[.int 0 s1.toks,.int j t,.int 1 (s1.toks+1)] }).push (Av j)) (s1.heap.push { cls:=.type "range",data:=.fields #[.int 0 s1.toks,.int j t,.int 1 (s1.toks+1)] }).objs.size (j-1) j (-1):=aM _ rfl;refine Ew st0 ?_;refine⟨_,[(s1.heap.push { cls:=.type "range",data:=.fields #[.int 0 s1.toks,.int j t,.int 1 (s1.toks+1)] }).objs.size],_,_,H1,rfl,
  I2.kept (t':=s1.toks+1+1) λb o e=>af _ e,nO _ (j-1) (-1) j.toNat,?_,λb hb=>?_,q⟩
 ·show IsRangeIter _ _ (j-1+((0:Nat):Int)*(-1)) (((j.toNat:Nat):Int)-((0:Nat):Int)) (-1);have e1:j-1+((0:Nat):Int)*(-1)=j-1:=by lia
  have e2:((j.toNat:Nat):Int)-((0:Nat):Int)=j:=by lia
  rw[e1,e2];exact st0
 ·have e:b=(s1.heap.push { cls:=.type "range",data:=.fields #[.int 0 s1.toks,.int j t,.int 1 (s1.toks+1)] }).objs.size:=by simpa using hb
  subst e;exact I2.fpOk (aw _) (I2.hok.fresh (aw _))
def Us (u w:Str)(ta:TE):TE:=λσ H Q=>u.length<=sizeLine/\ta σ H λx H1=>∃y,x=.str y/\y.length<=sizeLine/\(u++y).length<=sizeLine/\(u++y++w).length<=sizeLine/\Q (.str (u++y++w)) H1
theorem Rm (ha:PE X a ta):PE X (.JoinedStr [.Constant (.str u) j p1,.FormattedValue a (-1) none p2,.Constant (.str w) j2 p3] pos) (Us u w ta):=by intro pins s σ H Q I h;obtain⟨l0,h⟩:=h;refine JoinedStr_many ?_;refine bU (bV ?_);refine⟨by rw[empty_app];exact l0,?_⟩;rw[empty_app];have I0:Inv X pins σ H { s with toks:=s.toks+1 }:=I.kept λ_ _ e=>e;refine bU (FormattedValue_plain (thn (ha pins _ σ H _ I0 h) λv s1 ⟨x,H1,I1,r1,y,ex,l1,l2,l3,q1⟩=>?_));subst ex;obtain⟨t,rfl⟩:=r1;refine formatField_str (λt' tk=>?_) l1;refine⟨l2,?_⟩;show wpAny _ _ (joinParts (u++y) [eval (.Constant (.str w) j2 p3) X.env]) _ _ _;refine bU (bV ?_);refine⟨l3,?_⟩;refine eI ?_ l3;exact⟨.str _,H1,I1.kept λ_ _ e=>e,⟨_,rfl⟩,q1⟩
def Uq (u:Str)(ta:TE):TE:=λσ H Q=>u.length<=sizeLine/\ta σ H λx H1=>∃n:Int,x=.int n/\n.natAbs.log2<1920/\(u++(toString n:Str)).length<=sizeLine/\Q (.str (u++(toString n:Str))) H1
theorem Q8 (ha:PE X a ta):PE X (.JoinedStr [.Constant (.str u) j p1,.FormattedValue a (-1) none p2] pos) (Uq u ta):=by intro pins s σ H Q I h;obtain⟨l0,h⟩:=h;refine JoinedStr_many ?_;refine bU (bV ?_);refine⟨by rw[empty_app];exact l0,?_⟩;rw[empty_app];have I0:Inv X pins σ H { s with toks:=s.toks+1 }:=I.kept λ_ _ e=>e;refine bU (FormattedValue_plain (thn (ha pins _ σ H _ I0 h) λv s1 ⟨x,H1,I1,r1,n,ex,l1,l2,q1⟩=>?_));subst ex;obtain⟨t,rfl⟩:=r1;refine dz l1 ?_;refine⟨l2,?_⟩;refine eI ?_ l2;exact⟨.str _,H1,I1.kept λ_ _ e=>e,⟨_,rfl⟩,q1⟩
end L2
namespace L3
open L2
section
variable {X:Cx}{G:Gx}{Er:ER}{f:FS}{a b c e:Expr}{pos p:Pos}{C Ca Cb Cc Cs:En->Prop}{ga gb gs:En->Str}{gi gj gk:En->Int}{g:En->PV}{i k:Nat}{x:Str}
theorem JZ (hcm:X.calm=true)(hm:X.mg "min"=none)(ha:PE X a (iu X.K G Ca gi))(hb:PE X b (iu X.K G Cb gj))(hc:PE X c (iu X.K G Cc gk))(hg:Gl X "min":=by rfl)(he:starEach [a,b,c] X.env=(false,eval a X.env)::starEach [b,c] X.env:=by rfl)(he2:starEach [b,c] X.env=(false,eval b X.env)::starEach [c] X.env:=by rfl)(he3:starEach [c] X.env=[(false,eval c X.env)]:=by rfl)(hpl:(backTo pos (starEach [b,c] X.env)).any (·.1)=false:=by rfl) :
  PE X (.Call (.Name "min" p) [a,b,c] [] pos) (iu X.K G (λρ=>Ca ρ/\Cb ρ/\Cc ρ) λρ=>if gj ρ<gi ρ then(if gk ρ<gj ρ then gk ρ else gj ρ) else(if gk ρ<gi ρ then gk ρ else gi ρ)):=
 jz (pe_callB (Gv hcm) hg hm Ig (pa_cons ha (pa_cons hb (pa_cons hc pa_nil he3) he2) he) (by decide) (by decide) he hpl) λB σ H ρ O Q R c q=>⟨B,ρ,O,R,c.1,λv H1 s1 a1=>⟨B,ρ,O,R.grow s1,c.2.1,λu H2 s2 a2=>⟨B,ρ,O,(R.grow s1).grow s2,c.2.2,λt H3 s3 a3=>by
  subst a1 a2 a3;exact⟨_,_,_,rfl,q _ H3 ((s1.trans s2).trans s3) rfl⟩⟩⟩⟩
theorem QX (ha:PE X a (lE X.K G Ca ga)):PE X (.JoinedStr [.Constant (.str u) j p1,.FormattedValue a (-1) none p2,.Constant (.str w) j2 p3] pos) (lE X.K G (λρ=>Ca ρ/\u.length<=sizeLine/\(ga ρ).length<=sizeLine/\(u++ga ρ).length<=sizeLine/\(u++ga ρ++w).length<=sizeLine) λρ=>u++ga ρ++w):=
 jz (Rm ha) λB σ H ρ O Q R c q=>⟨c.2.1,B,ρ,O,R,c.1,λv H1 s1 a1=>⟨_,a1,c.2.2.1,c.2.2.2.1,c.2.2.2.2,q _ H1 s1 rfl⟩⟩
theorem QR (ha:PE X a (iu X.K G Ca gi)):PE X (.JoinedStr [.Constant (.str u) j p1,.FormattedValue a (-1) none p2] pos) (lE X.K G (λρ=>Ca ρ/\u.length<=sizeLine/\(gi ρ).natAbs.log2<1920/\(u++(toString (gi ρ):Str)).length<=sizeLine) λρ=>u++(toString (gi ρ):Str)):=
 jz (Q8 ha) λB σ H ρ O Q R c q=>⟨c.2.1,B,ρ,O,R,c.1,λv H1 s1 a1=>⟨_,a1,c.2.2.1,c.2.2.2,q _ H1 s1 rfl⟩⟩
theorem Fl {g:En->Int}(hp:PassesOwn (model X.prog X.w) X.A X.env X.xe)(hc:X.calm=true)(hg:Gl X "reversed")(hm:X.mg "reversed"=none)(hgr:Gl X "range")(hmr:X.mg "range"=none)(ha:PE X a (iu X.K G C g))(hN:X.N.Nodup)(hi:X.N[k]?=some x)(hx:Loc X.env.scope x)
  (hb:PSs X body (ts X.K G Er f)) (hs:starEach [a] X.env=[(false,eval a X.env)]:=by rfl) (hs2:starEach [.Call (.Name "range" p2) [a] [] pos2] X.env=[(false,eval (.Call (.Name "range" p2) [a] [] pos2) X.env)]:=by rfl) (hfs:∀x,foldedSetIterable (.Call (.Name "reversed" p) [.Call (.Name "range" p2) [a] [] pos2] [] pos') X.env x=pure x:=by intro _;rfl)
  (hf:X.fn x=true\/X.env.scope.names.lookup x=some .local:=by walk_at "w") :
  PS X (.For (.Name x px) (.Call (.Name "reversed" p) [.Call (.Name "range" p2) [a] [] pos2] [] pos') body [] pos) (ts X.K G Er λP ρ=>C ρ/\(0<=g ρ/\g ρ<2^62) /\
   ∃W:Nat->En->Prop,W 0 ρ/\(∀i ρ',i<(g ρ).toNat->W i ρ' -> f (P.lp (W (i+1))) (ρ'.set k (.fr (.int (g ρ-1+i*(-1))))))/\∀ρ',W (g ρ).toNat ρ' -> P.nx ρ'):=
 toS (ps_for hp hc (Lp hg hm hgr hmr (pa_cons ha pa_nil hs) hs hs2) (pg_name hN hi hx hf) hb hfs) λB σ H ρ O P D R cc w=>by
  obtain⟨c1,l,W,w0,stp,nd⟩:=cc;refine⟨B,ρ,O,R,c1,λv H1 s1 a1=>?_⟩;have a1:v=.int (g ρ):=a1;subst a1;refine⟨g ρ,rfl,l,pB (λi σ H=>∃ρ',zZ X.K G B σ H ρ'/\W i ρ') ⟨ρ,⟨O,R.grow s1⟩,w0⟩ ?_ ?_⟩
  ·rintro i σ H hi ⟨ρ',⟨O',R'⟩,hw⟩;exact⟨B,_,_,⟨O',R'.set (p:=.int _) rfl⟩,stp i ρ' hi hw,⟨λσ' H' ρ' R' h=>⟨ρ',R',h⟩,w.rt,w.rl,w.rn,w.nx,λσ' H' ρ' R' h=>⟨ρ',R',h⟩,w.er⟩⟩
  ·rintro σ H ⟨ρ',R',hw⟩;exact w.nx σ H ρ' R' (nd ρ' hw)
def R9:PV->PV
 | .tup [a,_]=>a
 |_=>.non
def Ri:PV->PV
 | .tup [_,b]=>b
 |_=>.non
def GQ (q:PV):Prop:=q=.tup [R9 q,Ri q]
theorem Aq {k j:Nat}{g:En->List PV}{kk:Nat}(hp:PassesOwn (model X.prog X.w) X.A X.env X.xe)(hc:X.calm=true)(hl:PE X l (tX X.K G C λρ=>.lst (g ρ)))
  (hgt:PG X (.Tuple [.Name x px,.Name y py] kk tp) (gTup X.K 2 (gCons (gName k) (gCons (gName j) gNil)))) (hb:PSs X body (ts X.K G Er f)) (hfs:∀x,foldedSetIterable l X.env x=pure x:=by intro _;rfl) :
  PS X (.For (.Tuple [.Name x px,.Name y py] kk tp) l body [] pos) (ts X.K G Er λP ρ=>(C ρ/\∀q∈g ρ,GQ q)/\∃W:Nat->En->Prop,W 0 ρ /\
   (∀i n ρ',(g ρ)[i]?=some n->W i ρ' -> f (P.lp (W (i+1))) ((ρ'.set k (.fr (R9 n))).set j (.fr (Ri n))))/\∀ρ',W (g ρ).length ρ' -> P.nx ρ'):=
 toS (ps_for hp hc (pi_list hl) hgt hb hfs) λB σ H ρ O P D R c w=>by
  obtain⟨⟨c1,c2⟩,W,w0,st,nd⟩:=c;refine⟨B,ρ,O,R,c1,λv H1 s1 a1=>?_⟩;obtain⟨a,vs,e,hq,hal⟩:=a1;have R1:=R.grow s1;have w1:=Im R1 w;have el:=hal.length;refine⟨a,e,⟨_,.inl (iG iU hq)⟩,for_list (xs:=vs) (λi σ H=>∃ρ',zZ X.K G (B.at H1 O) σ H ρ'/\W i ρ') ⟨ρ,⟨O,R1.rebase⟩,w0⟩ ?_ ?_ ?_⟩
  ·rintro i σ H _ ⟨ρ',⟨O',R'⟩,_⟩;exact .inl (iG ((Rep.Kh B H1 O).trans R'.same) hq)
  ·rintro i y σ H hy ⟨ρ',⟨O',R'⟩,hw⟩;obtain⟨n,en,an⟩:=hal.get hy;have ip:=c2 n (bC en);have an2:=At.mono (R1.seen R') _ _ an;rw[ip]at an2;obtain⟨T,us,rfl,hT,al⟩:=an2;obtain⟨v1,r1,rfl,x1,v2,r2,rfl,x2,rfl⟩:=al;refine⟨T,_,rfl,SqT.of (iU _ _ hT),rfl,_,_,rfl,_,_,rfl,rfl,?_⟩;exact⟨_,_,_,⟨O',(R'.set x1).set x2⟩,st i n ρ' en hw,⟨λσ' H' ρ' R' h=>⟨ρ',R',h⟩,w1.rt,w1.rl,w1.rn,w1.nx,λσ' H' ρ' R' h=>⟨ρ',R',h⟩,w1.er⟩⟩
  ·rintro σ H ⟨ρ',R',hw⟩;rw[<- el]at hw;exact w1.nx σ H ρ' R' (nd ρ' hw)
end
section
variable {K:Fg}{G:Gx}{σ:L2.St}{H:Hp}{Q:VK}{Cs Cb:En->Prop}{gp:En->PV}{cap:List (Option Nat)}
theorem Q5 (h:JP K G (λρ=>(Ca ρ/\C2 ρ)/\(-(2^62)<=ga ρ/\ga ρ<2^62 /\ -(2^62)<=gb ρ/\gb ρ<2^62)/\(gb ρ-ga ρ).toNat<=1000/\∀k:Nat,k<(gb ρ-ga ρ).toNat->Cb ((iM (none::cap) ρ).set 0 (.fr (.int (ga ρ+k))))) (λρ=>(List.range (gb ρ-ga ρ).toNat).map λ(k:Nat)=>gp ((iM (none::cap) ρ).set 0 (.fr (.int (ga ρ+k))))) σ H Q) :
  Ni (none::cap) (iRng2 (tCons (iu K G Ca ga) (tCons (iu K G C2 gb) tNil))) (gName 0) rA (tX K G Cb gp) σ H Q:=by
 obtain⟨B,ρ,O,R,⟨⟨c1,c2⟩,l,c4,c5⟩,q⟩:=h;refine⟨B,ρ,O,R,c1,λv H1 s1 a1=>⟨B,ρ,O,R.grow s1,c2,λu H2 s2 a2=>?_⟩⟩;have a1:v=.int (ga ρ):=a1;have a2:u=.int (gb ρ):=a2;subst a1 a2;have hz:(List.range (gb ρ-ga ρ).toNat).length=(gb ρ-ga ρ).toNat:=List.length_range;refine⟨ga ρ,gb ρ,rfl,l,λD hD=>?_⟩;refine xR (List.range (gb ρ-ga ρ).toNat) (λ_ v=>(jK (none::cap) σ).set 0 (some v)) (λ(k:Nat)=>(iM (none::cap) ρ).set 0 (.fr (.int (ga ρ+k)))) (λ(k:Nat)=>.int (ga ρ+k)) ((R.grow s1).grow s2) hD (by rw[hz];exact c4) (λi H hi s=>by rw[hz]at hi;exact hi) ?_ (λH s=>by rw[hz];exact aw _) (λk H _ s R'=>R'.set (p:=.int _) rfl) ?_ ?_ ?_
 ·rintro i k x H H' en s ⟨rfl,rfl⟩;have hlt:i<(gb ρ-ga ρ).toNat:=by have:=(aZ.mp en).1;rw[hz]at this;exact this
  rw[List.getElem?_range hlt]at en;cases en;exact⟨Same.refl _,λkk hk=>hk⟩
 ·intro k;show qU (none::jK cap σ) (some (.int _)::jK cap σ);exact mj _
 ·intro k hk;exact c5 k (dw.mp hk)
 ·intro H' ys s hd al;exact q D ys H' ((s1.trans s2).trans s) ((s1.trans s2).free hD) hd al
end
section
variable {X:Cx}{G:Gx}{Er:ER}{N':List Str}{sc:Scope}{cl:List (Str×Addr)}{cap:List (Option Nat)}{el tg src:Expr}{at' spos px:Pos}{Cs Cb Ca C2 Cc:En->Prop}{gs:En->List Int}{ga gb gc gi:En->Int}{gp:En->PV}{i:Nat}{x:Str}{a b c:Expr}
theorem Fv (hN:X.N.Nodup)(hi':X.N[i]?=some x)(hx:X.env.scope.names.lookup x=some .local)(L:sS X N' sc cl (none::cap))(hc:X.calm=true)(hgl:Gl X "range")(hm:X.mg "range"=none)(ha:PE X a (iu X.K G Ca ga))(hb:PE X b (iu X.K G C2 gb))(hg:∀s H fp,PG (iB X N' sc cl s H fp) tg (gName 0))(he:∀s H fp,PE (iB X N' sc cl s H fp) el (iu X.K G Cb gi))
  (hsw:swapsWith (.ListComp el [⟨tg,.Call (.Name "range" p) [a,b] [] pos',[],0⟩] sc at') (some (.Name x px)) spos.line X.env=pure true) (hst:starEach [a,b] X.env=[(false,eval a X.env),(false,eval b X.env)]:=by rfl) (hs2:starEach [b] X.env=[(false,eval b X.env)]:=by rfl) (hs:∀x,foldedSetIterable (.Call (.Name "range" p) [a,b] [] pos') X.env x=pure x:=by intro _;rfl) :
  PS X (.Assign [.Name x px] (.ListComp el [⟨tg,.Call (.Name "range" p) [a,b] [] pos',[],0⟩] sc at') spos) (ts X.K G Er λP ρ=>((Ca ρ/\C2 ρ)/\(-(2^62)<=ga ρ/\ga ρ<2^62 /\ -(2^62)<=gb ρ/\gb ρ<2^62)/\(gb ρ-ga ρ).toNat<=1000/\∀k:Nat,k<(gb ρ-ga ρ).toNat->Cb ((iM (none::cap) ρ).set 0 (.fr (.int (ga ρ+k)))))/\∀ns,ns=((List.range (gb ρ-ga ρ).toNat).map λ(k:Nat)=>gi ((iM (none::cap) ρ).set 0 (.fr (.int (ga ρ+k)))))->P.nx (ρ.set i (.fr (.ints ns)))):=
 Rf (MT hN hi' hx L hc (pi_range2 hgl hm (pa_cons ha (pa_cons hb pa_nil hs2) (by rw[hst,hs2])) hst hs2) hg (λ_ _ _=>pL) he hsw hs) λσ H Q h=>Q5 (Cy h)
end
def Nz (q:PV):Prop:=∃g o,q=.tup [.ints g,.int o]
theorem Nz.pair (h:Nz q):GQ q:=by obtain⟨g,o,rfl⟩:=h;rfl
end L3
namespace L2
theorem Ea:∀{bs:List Bool} {its:Lv},Vals (bs.map V.bl) its->its=bs.map Value.bool
 |[],_,h=>by cases h;rfl
 |b::r,_,h=>by
  cases h with
  |cons h1 h2=>have e:_=Value.bool b:=h1;rw[Ea h2,e];rfl
end L2
namespace L3
open L2
section
variable {X:Cx}{G:Gx}{Er:ER}{a b c e:Expr}{pos p:Pos}{C Ca:En->Prop}{gl:En->List Int}{g:En->PV}{gp:En->List PV}{i:Nat}{x:Str}{px pa pc:Pos}
def Kc:PV->Bool
 | .bl b=>b
 |_=>false
theorem Do {K:Fg}{H:Hp}:∀{ps:List PV} {vs:List V},jn K G H ps vs->(∀q∈ps,∃b,q=.bl b)->vs=(ps.map Kc).map V.bl
 |[],_,h,_=>h
 |q::r,_,h,k=>by obtain⟨v,t,rfl,e,z⟩:=h;obtain⟨b,rfl⟩:=k q aj;rw[e,Do z λq hq=>k q (ae _ hq)];rfl
def Tg (ρ:En)(i:Nat):Prop:=ρ[i]?=some (.ow (.lst (PX (Eo ρ i))))
theorem IV (i:Nat)(he:PE X e (tX X.K G C g))(hN:X.N[i]?=some x:=by rfl)(hv:Vis X.env.scope x:=by walk_at "v")
  (hd:(x == ("__debug__":Str))=false:=by decide) (hcd:(x == ("__classdict__":Str))=false:=by decide)
  (hbase:attributeBase (.Name x px) "append" X.env (eval (.Name x px) X.env)=eval (.Name x px) X.env:=by rfl)
  (hfew:((backTo pc (starEach (e::[]) X.env)).all (λx=>!x.1) && (backToKw pc (keywordEach [] X.env)).all (λx=>x.1.isSome)
   && decide ((e::[]).length+([]:List Keyword).length+(if ([]:List Keyword).isEmpty then 0 else 1)<30))=true:=by rfl)
  (hline:(pa.endLine == pc.line)=true:=by rfl) (hs:starEach (e::[]) X.env=(false,eval e X.env)::starEach [] X.env:=by rfl) (hplain:(backTo pc (starEach [] X.env)).any (·.1)=false:=by rfl)
  (hsw:swapsWith (.Call (.Attribute (.Name x px) "append" pa) [e] [] pc) none pos.line X.env=pure false:=by rfl) :
  PS X (.Expr (.Call (.Attribute (.Name x px) "append" pa) [e] [] pc) pos) (ts X.K G Er λP ρ=>Tg ρ i/\C ρ/\(PX (Eo ρ i)).length<sizeLine/\P.nx (ρ.set i (.ow (.lst (PX (Eo ρ i)++[g ρ]))))):=
 toS (ps_expr (pe_bm eJ PySem.F.slot_list_append PySem.F.type_list_append mt_append (pe_var hN hv hd hcd) (pa_cons he pa_nil hs) hbase hfew hline hs hplain) hsw) λB σ H ρ O P D R c w=>by obtain⟨c0,c1,c2,c3⟩:=c;obtain⟨a,vs,e1,e2,e3,e4,e5⟩:=R.ow i _ c0;have el:=e5.length;refine⟨_,e1,.inl ⟨rfl,_,SqL.of e4⟩,B,ρ,O,R,c1,λv H1 s1 a1=>?_⟩;refine⟨a,_,_,rfl,rfl,s1 _ _ e4,by rw[<- el];exact c2,w.nx σ _ _ ⟨O,(R.grow s1).change c0 e1 (p':=.lst (PX (Eo ρ i)++[g ρ])) ?_⟩ c3⟩;exact jn.snoc (jn.mono (jD s1) _ _ e5) a1
end
section
variable {K:Fg}{G:Gx}{σ:L2.St}{H:Hp}{Q:VK}{Cs Cb:En->Prop}{gp:En->PV}{cap:List (Option Nat)}
theorem R4 {te:TE}{gl:En->List PV}(good:PV->Prop){B:Bs}{ρ:En}{O:Addr->Bool}(R:Rep K G B σ H ρ O)(c1:Cs ρ)(c2:(gl ρ).length<=1000)
  (c4:∀q∈gl ρ,∀(B':Bs) (σ':L2.St) (H2:Hp) (O':Addr->Bool) (Q':VK),Same H H2->Rep K G B' σ' H2 ((iM (none::cap) ρ).set 0 (.fr q)) O' -> (good q->∀v H',Same H2 H' -> At K G (mn H' O') (gp ((iM (none::cap) ρ).set 0 (.fr q))) v->Q' v H')->te σ' H2 Q')
  (q:(∀q∈gl ρ,good q)->∀a vs H',Same H H' -> H a=none->H' a=some (.lst vs)->jn K G (mn H' (hide a O)) ((gl ρ).map λq=>gp ((iM (none::cap) ρ).set 0 (.fr q))) vs->Q (.ref a) H') :
  Ni (none::cap) (iList K (tX K G Cs λρ=>.lst (gl ρ))) (gName 0) rA te σ H Q:=by
 refine⟨B,ρ,O,R,c1,λv H1 s1 a1=>?_⟩;obtain⟨a,vs,rfl,hq,hal⟩:=a1;have hq1:SqL K H1 a vs:=.inl (iG iU hq);have el:=hal.length;have R1:=R.grow s1;refine⟨a,rfl,⟨_,hq1⟩,λD hD=>?_⟩;have one:∀i n,(gl ρ)[i]?=some n->At K G (mn H1 O) n (vs.getD i .non):=λi n en=>by
  have hi:i<vs.length:=by rw[<- el];exact(aZ.mp en).1
  obtain⟨n',en',an⟩:=hal.get (ap hi);rw[en]at en';cases en';rw[gQ,ap hi];exact an
 obtain⟨items,hit⟩:∃items:List (Nat×PV),items=(gl ρ).zipIdx.map λz=>(z.2,z.1):=⟨_,rfl⟩;have hlen:items.length=(gl ρ).length:=by rw[hit,ag,List.length_zipIdx]
 have hat:∀(i:Nat) (it:Nat×PV),items[i]?=some it->it.1=i/\(gl ρ)[i]?=some it.2:=λi it e=>by
  rw[hit,aT,List.getElem?_zipIdx]at e;cases eg:(gl ρ)[i]? with
  |none=>rw[eg]at e;cases e
  |some n=>rw[eg]at e;have e:=aI e;subst e;exact⟨Nat.zero_add i,rfl⟩
 have hmem:∀it∈items,(gl ρ)[it.1]?=some it.2:=λit hm=>by obtain⟨i,e⟩:=fu.mp hm;obtain⟨h1,h2⟩:=hat i it e;rw[h1];exact h2
 have hmap:items.map (λit=>gp ((iM (none::cap) ρ).set 0 (.fr it.2)))=(gl ρ).map λq=>gp ((iM (none::cap) ρ).set 0 (.fr q)):=by
  refine List.ext_getElem? λi=>?_;rw[aT,aT];by_cases c:i<(gl ρ).length
  ·have c':i<items.length:=by lia
   obtain⟨h1,h2⟩:=hat i items[i] (ap c');rw[ap c',h2];rfl
  ·rw[cx (show items.length<=i by lia),cx (show(gl ρ).length<=i by lia)];rfl
 refine Bd (gb:=gp) (λit=>good it.2) items (λ_ v=>(jK (none::cap) σ).set 0 (some v)) (λit=>(iM (none::cap) ρ).set 0 (.fr it.2)) (λit=>vs.getD it.1 .non) R1 hD (by rw[hlen];exact c2)
  (λi H hi s=>⟨vs,vs[i]'(by rw[<- el,<- hlen];exact hi),s.seq hq1,by rw[ap]⟩) ?_ (λH s=>⟨_,s.seq hq1,by rw[hlen,el];exact aw _⟩) (λit H hm s R'=>?_) ?_ ?_ ?_
 ·rintro i it x H H' en s ⟨rfl,hx⟩;obtain⟨h1,h2⟩:=hat i it en;have e3:=hx _ (s.seq hq1);refine⟨Same.refl _,λkk hk=>?_⟩;rw[h1,gQ,e3]at hk;exact hk
 ·exact R'.set (At.mono (mF (O:=O) s hD) _ _ (one _ _ (hmem it hm)))
 ·intro it;show qU (none::jK cap σ) (some _::jK cap σ);exact mj _
 ·intro it H2 Q' hm s2 R2 k;exact c4 it.2 (bC (hmem it hm)) _ _ _ _ _ (s1.trans s2) R2 k
 ·intro gd H' ys s hd al;refine q (λq hq=>?_) D ys H' (s1.trans s) (s1.free hD) hd ?_
  ·obtain⟨i,e⟩:=fu.mp hq;have hi:i<items.length:=by rw[hlen];exact(aZ.mp e).1
   obtain⟨h1,h2⟩:=hat i items[i] (ap hi);have h3:q=items[i].2:=aI (e.symm.trans h2);rw[h3];exact gd _ (cw hi)
  have al:jn K G (mn H' (hide D O)) (items.map (λit=>gp ((iM (none::cap) ρ).set 0 (.fr it.2)))) ys:=al;rw[hmap]at al;exact al
end
section
variable {K:Fg}{G:Gx}{H:Hp}
theorem yZ:∀{ps:List PV} {vs:List V},jn K G H ps vs->∀k:Nat,jn K G H (ps.drop k) (vs.drop k)
 |_,_,h,0=>h
 |[],_,h,k+1=>by rw[h];rfl
 |p::r,_,h,k+1=>by obtain⟨u,t,rfl,e,z⟩:=h;exact yZ z k
theorem zA:∀{ps:List PV} {vs:List V},jn K G H ps vs->∀k:Nat,jn K G H (ps.take k) (vs.take k)
 |_,_,_,0=>rfl
 |[],_,h,k+1=>by rw[h];rfl
 |p::r,_,h,k+1=>by obtain⟨u,t,rfl,e,z⟩:=h;exact⟨u,t.take k,rfl,e,zA z k⟩
end
section
variable {X:Cx}{G:Gx}{Er:ER}{a b e:Expr}{pos p px:Pos}{C Ca Cb:En->Prop}{gb:En->Int}{g:En->PV}{gp:En->List PV}{i:Nat}{x:Str}
def lM (xs:List PV)(lo hi:Option Int):List PV:=(xs.drop (HT.sIx xs.length 0 lo)).take (HT.sIx xs.length xs.length hi-HT.sIx xs.length 0 lo)
theorem qt {lo hi:Option Expr}{Cl Ch:En->Prop}{gl gh:En->Option Int}(ha:PE X a (tX X.K G C λρ=>.lst (gp ρ)))(hl:PO X lo (Sv X.K G Cl gl))(hh:PO X hi (Sv X.K G Ch gh)) :
  PE X (.Subscript a (.Slice lo hi none p2) pos) (JP X.K G (λρ=>C ρ/\Cl ρ/\Ch ρ) λρ=>lM (gp ρ) (gl ρ) (gh ρ)):=
 λpins s σ H Q I ⟨B,ρ,O,R,c,q⟩=>pe_slice sl_list ha hl hh pins s σ H Q I ⟨B,ρ,O,R,c.1,λv H1 s1 a1=>⟨B,ρ,O,R.grow s1,c.2.1,λH2 s2=>⟨B,ρ,O,(R.grow s1).grow s2,c.2.2,λH3 s3=>by
  obtain⟨l,vs,rfl,r,al⟩:=a1;have al3:=jn.mono (jD (s2.trans s3)) _ _ al;have ell:=al.length;refine⟨l,_,rfl,(s2.trans s3).seq (.inl (iG iU r)),λy hy=>q y _ _ (((s1.trans s2).trans s3).trans (same_new hy _)) (((s1.trans s2).trans s3).free hy) upd_same (jn.mono (mF (same_new hy _) hy) _ _ ?_)⟩;show jn X.K G (mn H3 O) (lM (gp ρ) (gl ρ) (gh ρ)) (cutV vs (gl ρ) (gh ρ));unfold lM cutV;rw[ell];exact zA (yZ al3 _) _⟩⟩⟩
end
def KR (cR:Addr)(H:Hp)(a:Addr)(z:Int):Prop:=0<z/\∃dx fs,H a=some (.ins cR dx fs)/\fs.lookup ("size":Str)=some (.int z)/\∀m∈xF,fs.lookup m=none
section
variable {X:Cx}{G:Gx}{Er:ER}{a b e:Expr}{pos p px apos kp pz:Pos}{C Ca Cb:En->Prop}{gl:En->List Int}{gp hp:En->List PV}{g:En->PV}{i j k:Nat}{x:Str}
theorem uv {K:Fg}{H:Hp}:∀{ps qs:List PV} {vs us:List V},jn K G H ps vs->jn K G H qs us->jn K G H (ps++qs) (vs++us)
 |[],_,_,_,h,k=>by rw[h];exact k
 |p::r,_,_,_,h,k=>by obtain⟨u,t,rfl,e,z⟩:=h;exact⟨u,_,rfl,e,uv z k⟩
theorem pC (ha:PE X a (tX X.K G Ca λρ=>.lst (gp ρ)))(hb:PE X b (tX X.K G Cb λρ=>.lst (hp ρ))):PE X (.BinOp a .Add b pos) (JP X.K G (λρ=>Ca ρ/\Cb ρ/\(gp ρ).length+(hp ρ).length<=sizeLine) λρ=>gp ρ++hp ρ):=
 λpins s σ H Q I ⟨B,ρ,O,R,c,q⟩=>pe_op Du ha hb pins s σ H Q I (two R c.1 c.2.1 λv u H1 H2 s1 s2 a1 a2=>by
  obtain⟨l,vs,rfl,r1,al1⟩:=a1;obtain⟨b,us,rfl,r2,al2⟩:=a2;have l1:=al1.length;have l2:=al2.length;refine⟨l,b,_,_,rfl,rfl,iG iU r1,iG iU r2,by rw[<- l1,<- l2];exact c.2.2,λp hp=>q p _ _ ((s1.trans s2).trans (same_new hp _)) ((s1.trans s2).free hp) upd_same ?_⟩;exact jn.mono (mF (same_new hp _) hp) _ _ (uv al1 al2))
end
def Uw (cW cR:Addr)(H:Hp)(a:Addr)(z:Int):Prop:=KW cW H a z\/KR cR H a z
@[irreducible] def PEi (X:Cx) (e:Expr) (t:TE):Prop:=PE X e t
@[irreducible] def PAi (X:Cx) (es:List Expr) (t:TA):Prop:=PA X es t
@[irreducible] def PSi (X:Cx) (sts:List Stmt) (t:TS):Prop:=PSs X sts t
section
variable {X:Cx}{G:Gx}{Er:ER}{a b c e:Expr}{es:List Expr}{sts:List Stmt}{C Ca Cb:En->Prop}{g:En->PV}{gb:En->Int}{gp gs:En->List PV}{f1 f2:Ps->En->Prop}{pos p2:Pos}{t:TE}{ta:TA}{tt:TS}
theorem M8 (h:PE X e t):PEi X e t:=by unfold PEi;exact h
theorem Jc (h:PEi X e t):PE X e t:=by unfold PEi at h;exact h
theorem TQ (h:PA X es ta):PAi X es ta:=by unfold PAi;exact h
theorem Qm (h:PAi X es ta):PA X es ta:=by unfold PAi at h;exact h
theorem Tv (h:PSs X sts tt):PSi X sts tt:=by unfold PSi;exact h
theorem Nq (h:PSi X sts tt):PSs X sts tt:=by unfold PSi at h;exact h
theorem vp:PAi X [] (yJ X.K G (λ_=>True) λ_=>[]):=TQ gf
theorem fY (ha:PEi X e (tX X.K G Ca g))(hr:PAi X es (yJ X.K G Cb gs))(hs:starEach (e::es) X.env=(false,eval e X.env)::starEach es X.env):PAi X (e::es) (yJ X.K G (λρ=>Ca ρ/\Cb ρ) λρ=>g ρ::gs ρ):=TQ (fW (Jc ha) (Qm hr) hs)
theorem O7:starEach (.Subscript a b pos::es) ev=(false,eval (.Subscript a b pos) ev)::starEach es ev:=rfl
theorem uZ (h:PAi X es (yJ X.K G C gs))(hz:∀ρ,(gs ρ).length<=1000:=by intro _;exact cT rfl):PEi X (.List es pos) (tX X.K G C λρ=>.lst (gs ρ)):=M8 (lW (mR (Qm h) hz))
theorem Ir (ha:PEi X a (tX X.K G Ca g))(hb:PE X b (iu X.K G Cb gb))(hs:PlainIx b):PEi X (.Subscript a b pos) (tX X.K G (λρ=>Ca ρ/\Cb ρ/\DY (g ρ) (gb ρ)) λρ=>qW (g ρ) (gb ρ)):=M8 (iV (Jc ha) hb hs)
theorem Ih (h:PEi X e (tX X.K G C g)):PSi X [.Return (some e) pos] (ts X.K G Er λP ρ=>C ρ/\P.rt (g ρ)):=Tv (fX (gr (Jc h)))
theorem Tf [∀ρ,Decidable (p ρ)](hc:PT X c (qH X.K G C p))(ha:PSi X sts (ts X.K G Er f1))(hb:PSs X bs (ts X.K G Er f2)):PS X (.If c sts bs pos) (ts X.K G Er λP ρ=>C ρ/\(p ρ->f1 P ρ)/\(¬p ρ->f2 P ρ)):=gJ hc (Nq ha) hb
end
def Qv (K:Fg)(cd:Value)(q:Str):Prop:=∃c P,cd=.ref c/\(c,P,q)∈jr K
def SN (K:Fg)(mg:Mg)(x:Str):Prop:=∃f oc od fd sl,mg x=some (.ref f)/\K.lookup f=some ⟨oc,od,.func fd,sl⟩/\Qv K fd.code (x++".<locals>."++"<lambda>")
def Hc (K:Fg)(cd:Value)(q:Str):Bool:=match cd with
 | .ref c=>(jr K).any λx=>x.1 == c && x.2.2 == q
 |_=>false
theorem P0 {K:Fg}{cd:Value}{q:Str}(h:Hc K cd q=true):Qv K cd q:=by
 unfold Hc at h;split at h
 ·rename_i c;obtain⟨x,hx,e⟩:=List.any_eq_true.mp h;rw[bA,fP,fP]at e;obtain⟨a,b,d⟩:=x;obtain⟨e1,e2⟩:=e;subst e1 e2;exact⟨a,b,rfl,hx⟩
 ·cases h
end L3
namespace L2
open PySem.AutoSeq1 (wpAny_loadPart')
open PySem.MeetsSeq PySem.MeetsSeq2 PySem.MeetsSeq3 PySem.SeqAt
end L2
end
namespace L2
open PySem PySem.Spec PyProof.Rows PySem.W
def Ut (n:Nat)(lt:Nat->Nat->Bool){α:Type}(Post:α->Prop):KasT α->Prop
 | .ret a=>Post a
 | .ask i j k=>i<n/\j<n/\Ut n lt Post (k (lt i j))
section
variable {n:Nat}{lt:Nat->Nat->Bool}{α β:Type}
structure Ux (n:Nat)(lt:Nat->Nat->Bool):Prop where
 asy:∀i j,i<n->j<n->lt i j=true->lt j i=false
 tot:∀i j,i<n->j<n->i≠j->lt i j=false->lt j i=true
 tr:∀i j k,i<n->j<n->k<n->lt i j=true->lt j k=true->lt i k=true
def PR (n:Nat)(p:Array Nat):Prop:=p.toList.Perm (List.range n)
def UJ (lt:Nat->Nat->Bool)(p:Array Nat)(m:Nat):Prop:=∀i j,i<j->j<m->lt (p.getD i 0) (p.getD j 0)=true
def Uv (lt:Nat->Nat->Bool)(p:Array Nat)(m:Nat):Prop:=∀i j,i<j->j<m->lt (p.getD j 0) (p.getD i 0)=true
end
end L2
section
open PySem PySem.Spec PyProof.Rows
namespace L3
open L2
section
variable {X:Cx}{pins:List (Addr×Obj)}{σ:L2.St}{H:Hp}{s t:Shared}{D kS:Addr}{G:Gx}{O:Addr->Bool}
structure Tw (X:Cx)(pins:List (Addr×Obj))(D:Addr):Prop where
 big:X.s₀.heap.objs.size<=D
 loc:D≠X.env.locals
 cel:∀x c,X.env.cells.lookup x=some c->c≠D
 pin:∀p∈X.pn++pins,p.1≠D
 fs:D∉X.fs
end
end L3
namespace L2
abbrev qy (C B:Addr):List Value:=[.ref C,.ref B,.type "ValueError",.type "Exception",.type "BaseException",.type "object"]
theorem Qs:classOwn (.type "ValueError") "__setattr__"=pure none:=by rfl
theorem Qj:classOwn (.type "Exception") "__setattr__"=pure none:=by rfl
theorem QG:classOwn (.type "BaseException") "__setattr__"=pure none:=by rfl
section
variable {K:Fg}{prog:Program}{w:World}{A:Around}{E:Value->Shared->Prop}{s:Shared}{a C B:Addr}{oe:Obj}{vs:Array Value}{name:Str}{v:Value}{Q:Unit->Shared->Prop}{cd:ClassData}
theorem xY (X:K.In s.heap)(he:s.heap.get? a=some oe)(hc:oe.cls=.ref C)(hcd:W.clsIn K C=some cd)(hm:cd.mro=qy C B) :
  W.Looks (model prog w) s.heap (Builtin.ObjectAttr.refuseIfOverridden (.ref a) "__setattr__") ():=by
 unfold Builtin.ObjectAttr.refuseIfOverridden;have LT:W.Looks (model prog w) s.heap (typeOf (.ref a)) (.ref C):=by rw[<- hc];exact(bL he).andThen .now
 refine LT.andThen ?_;have LM:W.Looks (model prog w) s.heap (mroOf (.ref C)) (qy C B):=by rw[<- hm];exact(dI X hcd).andThen .now
 refine LM.andThen ?_;simp only[List.forIn_cons,List.forIn_nil,Qs,Qj,QG,PySem.F.own_object_setattr,pure_bind];exact W.Looks.now
theorem Lq {nm q:Str}{N:Addr}{bs:Lv}{sn:Ls}{sub:Lv}{ab:Bool}{col:Option Bool}{dcl:Option Addr}{k0 k1 k2 k3 k5:Option Value}{newId:String}(X:K.In s.heap)(he:s.heap.get? a=some oe)(hc:oe.cls=.ref C)(hd:oe.dict=none)(hf:oe.data=.fields vs)
  (hs:W.findIn K (.ref C) "__setattr__"=some (some (.builtin "object.__setattr__"))) (hC:s.heap.get? C=some (excClassObj nm q C N bs (qy C B).tail true sn sub ab col dcl k0 k1 k2 k3 k5 newId))
  (hcd:W.clsIn K C=some cd) (hm:cd.mro=qy C B) (hh:cd.hasDict=true) (hn:W.findIn K (.ref C) name=some none)
  (h:∀h' d,s.heap.get? d=none->h'.get? a=some { oe with dict:=some d }->h'.Ns1 d (λx=>if x=name then some v else none)->(∀b o,b≠a->s.heap.get? b=some o->h'.get? b=some o)->Q () { s with heap:=h',toks:=s.toks+2 }) :
  wpAny (model prog w) A (setAttr (.ref a) name v) Q E s:=by
 have J:W.InstAt s.heap a oe C none:=⟨he,hc,by unfold W.notCls;rw[hf],by rw[hd];exact tJ⟩;refine W.set_plain X J hs ?_;refine dE (by decide +kernel) PySem.F.entry_object_setattr ?_;have hb:(qy C B).tail.contains (.type "object")=true:=by show([.ref B,.type "ValueError",.type "Exception",.type "BaseException",.type "object"]:List Value).contains (.type "object")=true;simp
 refine wpAny_check_slot_inst (h:=s.heap) (g:=s.gens) (d:=s.drawn) (t:=s.toks+1) (os:=s.os) (x:=a) (rest:=[.str name s.toks,v]) (id:="object.__setattr__") PySem.F.bk_object_setattr PySem.F.sp_object_setattr (PySem.F.args_object_setattr_3 _ _ _) hb he hc hC ?_;rw[W.osa_eq];refine aa ((xY X he hc hcd hm).here (s:={ s with toks:=s.toks+1 }) ?_);have LT:W.Looks (model prog w) s.heap (typeOf (.ref a)) (.ref C):=by rw[<- hc];exact(bL he).andThen .now
 refine aa (LT.here (s:={ s with toks:=s.toks+1 }) ?_);refine aa ((cA X hn).here (s:={ s with toks:=s.toks+1 }) ?_);refine aa (m:=Builtin.ObjectAttr.storeTaker? none) (aP ?_);show wpAny _ _ (Builtin.ObjectAttr.storeInOwnDict (.ref a) (.ref C) (.str name s.toks) name v false) _ _ _;unfold Builtin.ObjectAttr.storeInOwnDict;refine aa (m:=ownStreamTells (.ref a) (.ref C)) (aP ?_);show wpAny _ _ (do
  let r <- Builtin.ObjectAttr.ownDictForStores (.ref a)
  match r with
   |some d=>Builtin.ObjectAttr.storeInDict d (.str name s.toks) name v
   |none=>Builtin.ObjectAttr.noDictFor (.ref a) (.ref C) name false) _ _ _
 refine aa ?_;show wpAny _ _ (instanceDict a true) _ _ _;unfold instanceDict;refine aa (fF he ?_);dsimp only;rw[hc];dsimp only;refine aa ((dI X hcd).here (s:={ s with toks:=s.toks+1 }) ?_);rw[hh,hd];rw[ai (by decide)];dsimp only;rw[ai (show ¬(!true || !typeHasDict (.ref C))=true from aD),hf];dsimp only;refine aa (wpAny_alloc ?_);dsimp only;have hda:s.heap.objs.size≠a:=cO (au he);have e1:=aM s.heap (o:={ cls:=.type "dict",data:=.dict #[] }) rfl;have e2:=af (h:=s.heap) { cls:=.type "dict",data:=.dict #[] } he;refine aa (wpAny_update e2 ?_);have e3:=aO (λo=>{ cls:=o.cls,dict:=some s.heap.objs.size,data:=o.data,slots:=o.slots }) e2 (by rw[hf];rfl);have e4:=(ao (s.heap.push { cls:=.type "dict",data:=.dict #[] }) (λo=>{ cls:=o.cls,dict:=some s.heap.objs.size,data:=o.data,slots:=o.slots }) (a9 hda)).trans e1;refine aP (a:=some s.heap.objs.size) ?_;dsimp only;unfold Builtin.ObjectAttr.storeInDict;refine aa (m:=Builtin.ObjectAttr.newKeyGuard s.heap.objs.size name (.str name s.toks)) (aP ?_);have ns:((s.heap.push { cls:=.type "dict",data:=.dict #[] }).update a λo=>{ cls:=o.cls,dict:=some s.heap.objs.size,data:=o.data,slots:=o.slots }).Ns1 s.heap.objs.size λ_=>none:=
  Heap.Ns1.of_empty ⟨_,#[],_,e4,rfl,(λe he=>absurd he (by simp)),λ_=>rfl⟩
 refine aa (wpAny_nsSet1 ns λh' hn2 hs2=>?_);obtain⟨oD,esD,epD,hoD,hdD,hcD⟩:=hn2.count (PySem.Within.cons (ns:=[]) name v (λ_ z=>absurd rfl z));refine aa (wpAny_lookBehind hoD (by rw[hdD];exact pastItsLine_dict (aA hcD (by show 1<=_;rw[aB];lia))) ?_);refine aP (h h' s.heap.objs.size ?_ ?_ hn2 λb o hb q=>?_)
 ·cases z:s.heap.get? s.heap.objs.size with
  |none=>rfl
  |some o=>exact absurd (au z) (b7 _)
 ·rw[hs2.2 a (a9 hda)];exact e3
 ·have nb:s.heap.objs.size≠b:=cO (au q);rw[hs2.2 b (a9 nb),ao _ _ (a9 hb)];exact af _ q
end
section
variable {K:Fg}{prog:Program}{w:World}{A:Around}{R:Result->Shared->Prop}{s:Shared}{a C B:Addr}{oe:Obj}{us:List Value}{nm q:Str}{N:Addr}{bs bm:List Value}{hdct:Bool}{sn:List Str}{sub:List Value}{ab:Bool}{col:Option Bool}{dcl:Option Addr}{k0 k1 k2 k3 k5:Option Value}{newId:String}
theorem Ij (hC:s.heap.get? C=some (excClassObj nm q C N bs bm hdct sn sub ab col dcl k0 k1 k2 k3 k5 newId))
  (h:wpAny (model prog w) (A.under (.builtin "type.__call__" { pos:=.ref C::us })) (Builtin.«type.__call__» { pos:=.ref C::us }) (λfin s'=>match fin with | .done f=>R (.ok f) s' | .again c'=>c'.quiet=true/\codeAny (model prog w) A c' R s') (λe s'=>R (.error e) s') s) :
  codeAny (model prog w) A (.call (.ref C) { pos:=us }) R s:=by
 refine codeAny_of_tree ?_;show wpAny (model prog w) _ (callAny (.ref C) { pos:=us }) _ _ _;unfold callAny;dsimp only;refine aa (wpAny_load hC ?_);dsimp only;unfold callAny.viaDunder;have LT:W.Looks (model prog w) s.heap (specialOf (.ref C) "__call__") (some (.builtin "type.__call__")):=by have e:W.Looks (model prog w) s.heap (typeOf (.ref C)) (.type "type"):=(bL hC).andThen .now;refine e.andThen ?_;rw[PySem.F.lookup_type_call];exact .now
 refine aa (LT.here ?_);dsimp only;rw[PySem.F.bind_type_call];refine aa (aP ?_);dsimp only;refine aa (m:=callAny.plainCallee (.builtin "type.__call__")) (aP (a:=true) ?_);rw[ak rfl];refine aP (a:=Fin.again _) ⟨rfl,?_⟩;refine d6 (by kernel_rfl) (wpAny_check_type_call_sub hC ?_);refine ft PySem.F.entry_type_call ?_;exact h
theorem Cj (hC:s.heap.get? C=some (excClassObj nm q C N bs bm hdct sn sub ab col dcl k0 k1 k2 k3 k5 newId)):W.Looks (model prog w) s.heap (Bind.madeBy (.ref C)) (some newId):=by unfold Bind.madeBy;have LM:W.Looks (model prog w) s.heap (mroOf (.ref C)) (.ref C::bm):=(bL hC).andThen .now;refine LM.andThen ?_;simp only[List.forIn_cons];have LS:W.Looks (model prog w) s.heap (slotAt C 4) (some (.builtin newId)):=(bL hC).andThen .now;exact fw (a:=(some (some newId),Value.ref C)) (fw (a:=ForInStep.done (some (some newId),Value.ref C)) (LS.andThen .now) .now) .now
theorem vV {Q:PySem.Fin->Shared->Prop}{E:Value->Shared->Prop}{fI:Addr}(X:K.In s.heap)(hC:s.heap.get? C=some (excClassObj nm q C N bs bm hdct sn sub ab col dcl k0 k1 k2 k3 k5 "ValueError.__new__"))(tl:OwnTail s.heap Qf bm)
  (hi:W.findIn K (.ref C) "__init__"=some (some (.ref fI))) (hfn:W.typeIn K (.ref fI)=some (.type "function")) (hs:W.mroIn K C (.ref C)=some true) (hz:us.length<=sizeLine)
  (h:∀h' e,e=s.heap.objs.size+1->s.heap.MadeExcOf h' e (.ref C) us->wpAny (model prog w) A (call (.ref fI) (.ref e::us)) (λr s'=>r=.none/\Q (.done (.ret (.ref e))) s') E { s with heap:=h' }) :
  wpAny (model prog w) A (Builtin.«type.__call__» { pos:=.ref C::us }) Q E s:=by
 unfold Builtin.«type.__call__»;dsimp only;rw[ai (show ¬((Value.ref C == Value.type "type")=true) from aD)];have LM:W.Looks (model prog w) s.heap (mroOf (.ref C)) (.ref C::bm):=(bL hC).andThen .now;refine aa (LM.here ?_);rw[ai (show ¬((Value.ref C::bm).isEmpty=true) from aD)];refine aa ((Cj hC).here ?_);dsimp only;refine aa (aP ?_);refine aa (b8 (cX (d6 (by kernel_rfl) (wpAny_check_new_subU (h:=s.heap) (g:=s.gens) (d:=s.drawn) (t:=s.toks) (os:=s.os) bi (by decide +kernel) tl hC ?_))));refine codeAny_exc_new_subU bi (by decide +kernel) bi tl hC ?_ hz;dsimp only;have e1:=aM s.heap (o:={ cls:=.type "tuple",data:=.seq us.toArray }) rfl;have kp:∀b o,s.heap.get? b=some o->((s.heap.push { cls:=.type "tuple",data:=.seq us.toArray }).push { cls:=.ref C,data:=.fields #[.ref s.heap.objs.size,.none,.none,.none,.bool false,.none] }).get? b=some o:=λb o e=>af _ (af _ e);have e2:((s.heap.push { cls:=.type "tuple",data:=.seq us.toArray }).push { cls:=.ref C,data:=.fields #[.ref s.heap.objs.size,.none,.none,.none,.bool false,.none] }).get? (s.heap.objs.size+1)=some { cls:=.ref C,data:=.fields #[.ref s.heap.objs.size,.none,.none,.none,.bool false,.none] }:=by
  have:=aM (s.heap.push { cls:=.type "tuple",data:=.seq us.toArray }) (o:={ cls:=.ref C,data:=.fields #[.ref s.heap.objs.size,.none,.none,.none,.bool false,.none] }) rfl
  rwa [fG]at this
 have n0:∀k,s.heap.get? (s.heap.objs.size+k)=none:=λk=>by
  cases z:s.heap.get? (s.heap.objs.size+k) with
  |none=>rfl
  |some o=>exact absurd (au z) (Nat.not_lt.mpr (eY _ k))
 have made:s.heap.MadeExcOf ((s.heap.push { cls:=.type "tuple",data:=.seq us.toArray }).push { cls:=.ref C,data:=.fields #[.ref s.heap.objs.size,.none,.none,.none,.bool false,.none] }) (s.heap.objs.size+1) (.ref C) us:=
  ⟨kp,n0 1,s.heap.objs.size,e2,n0 0,af _ e1⟩
 generalize (s.heap.push { cls:=.type "tuple",data:=.seq us.toArray }).push { cls:=.ref C,data:=.fields #[.ref s.heap.objs.size,.none,.none,.none,.bool false,.none] }=h' at *
 have X':K.In h':=λb o e=>kp b o (X b o e);have LT:W.Looks (model prog w) h' (typeOf (.ref (s.heap.objs.size+1))) (.ref C):=(bL e2).andThen .now;refine aa (((LT.andThen (fM X' hs)):W.Looks (model prog w) h' (isInstance (.ref (s.heap.objs.size+1)) (.ref C)) true).here (s:={ s with heap:=h' }) ?_);rw[ai (by decide)];refine aa (b8 ?_);unfold callSpecial?;refine aa (((LT.andThen (cA X' hi)):W.Looks (model prog w) h' (specialOf (.ref (s.heap.objs.size+1)) "__init__") (some (.ref fI))).here (s:={ s with heap:=h' }) ?_);dsimp only;refine b8 (aa ((W.bind_fn X' (.ref (s.heap.objs.size+1)) hfn).here (s:={ s with heap:=h' }) ?_));dsimp only;refine aa (thn (h h' _ rfl made) λr s' ⟨er,q⟩=>aP ?_);subst er;dsimp only;rw[ai (by decide)];exact aP q
end
section
variable {K:Fg}{prog:Program}{w:World}{A:Around}{E:Value->Shared->Prop}{s:Shared}{a C B t0:Addr}{oe:Obj}{vs:Array Value}{us:List Value}{nm q:Str}{N:Addr}{bs bm:List Value}{hdct:Bool}{sn:List Str}{sub:List Value}{ab:Bool}{col:Option Bool}{dcl:Option Addr}{k0 k1 k2 k3 k5:Option Value}{newId:String}
theorem Ja {bmB:Lv}{nid:String}(F:ExcBaseFacts "ValueError" nid "ValueError.__init__" bmB)(tl:OwnTail s.heap bmB bm){Q:Value->Shared->Prop}
  (hC:s.heap.get? C=some (excClassObj nm q C N bs bm hdct sn sub ab col dcl k0 k1 k2 k3 k5 newId))
  (he:s.heap.get? a=some oe) (hc:oe.cls=.ref C) (hd:oe.data=.fields vs) (h0:vs[0]?=some (.ref t0))
  (h:Q .none { s with heap:=(s.heap.push { cls:=.type "tuple",data:=.seq us.toArray }).update a (Obj.mapFields (·.setIfInBounds 0 (.ref s.heap.objs.size))) }) (hz:us.length<=sizeLine) :
  wpAny (model prog w) A (call (.builtin "ValueError.__init__") (.ref a::us)) Q E s:=by
 refine cX (dE F.init.plain F.initEntry (wpAny_check_init_subU (h:=s.heap) (g:=s.gens) (d:=s.drawn) (t:=s.toks) (os:=s.os) F tl hC he hc ?_));unfold Builtin.«BaseException.__init__»;dsimp only;rw[ai (by simp)];unfold newTuple Builtin.BaseException.bexcPut;have hsz:0<vs.size:=(aX.mp h0).1;have he₁:=af (h:=s.heap) { cls:=.type "tuple",data:=.seq us.toArray } he;refine aa (cY (aa (aa (bM he₁ hd h0 (aa (cz he₁ hd hsz ?_))))) (by show us.toArray.size<=sizeLine;rw[aJ];exact hz));exact wpAny_letGo (aP h)
end
structure vB (K:Fg)(C B fI:Addr):Prop where
 ob:∃nm q N bs sn sub ab col dcl k0 k1 k2 k3 k5,K.lookup C=some (excClassObj nm q C N bs (qy C B).tail true sn sub ab col dcl k0 k1 k2 k3 k5 "ValueError.__new__")
 tl:W.tailIn K Qf (qy C B).tail=true
 sa:W.findIn K (.ref C) "__setattr__"=some (some (.builtin "object.__setattr__"))
 ini:W.findIn K (.ref C) "__init__"=some (some (.ref fI))
 fn:W.typeIn K (.ref fI)=some (.type "function")
 kp:W.keepIn K (.ref C)=true
theorem vB.cd {K:Fg}{C B fI:Addr}(q:vB K C B fI):∃cd,W.clsIn K C=some cd/\cd.mro=qy C B/\cd.hasDict=true:=by obtain⟨nm,qn,N,bs,sn,sub,ab,col,dcl,k0,k1,k2,k3,k5,e⟩:=q.ob;unfold W.clsIn;rw[e];exact⟨_,rfl,rfl,rfl⟩
theorem vB.sub {K:Fg}{C B fI:Addr}(q:vB K C B fI):W.mroIn K C (.ref C)=some true:=by obtain⟨cd,e1,e2,_⟩:=q.cd;unfold W.mroIn;rw[e1,eW,e2,ai (by exact aD)];simp[qy]
structure QV (K:Fg)(B:Addr):Prop where
 ga:W.specialIn K (.ref B) "__getattribute__"=some (some (.builtin "type.__getattribute__"))
 rd:W.readsIn K B (.type "type")=true
 fc:W.findCls K (.ref B) (.type "type") "__init__"=some (.val (.builtin "ValueError.__init__"))
abbrev zV (C:Addr)(dd:Option Addr)(t:Addr):Obj:={ cls:=.ref C,dict:=dd,data:=.fields #[.ref t,.none,.none,.none,.bool false,.none] }
def Dr (C a:Addr)(dd:Option Addr):HO:=.ext λh=>∃t,h.get? a=some (zV C dd t)
theorem Br {P:Program}{w:World}{H:Hp}{h:Heap}{C a t:Addr}{dd:Option Addr}(e:h.get? a=some (zV C dd t)):ObjOk P w H h a (Dr C a dd):=
 ⟨⟨t,e⟩,⟨_,e⟩,λ_ _ ⟨t,q⟩ k=>⟨t,k _ q⟩⟩
theorem yj {H:Hp}{a:Addr}{o:HO}(e:H a=some o):upd H a o=H:=by
 funext b;unfold upd;split
 ·rename_i z;rw[z,e]
 ·rfl
section
variable {X:Cx}{CX:CXT}{k:Nat}{B C fI:Addr}{E:XK}{x:Str}{p pos apos:Pos}{e o:Expr}{es:List Expr}{t:TA}{ta tv:TE}
def SM (C:Addr)(t:TA):TE:=λσ H Q=>t σ H λvs H1=>∃a us,vs=.ref a::us/\us.length<=1000/\H1 a=some (Dr C a none)/\Q .non H1
theorem Kg {pl:Sem Bool}(hg:Gl X x)(hm:X.mg x=some (.ref B))(c:QV X.K B)(q:vB X.K C B fI)(ha:PA X (e::es) t)
  (hdb:(x == ("__debug__":Str))=false:=by decide) (hst:starEach (e::es) X.env=(false,eval e X.env)::starEach es X.env:=by rfl) (hpl:(backTo pos (starEach es X.env)).any (·.1)=false:=by rfl)
  (ht:eval (.Call (.Attribute (.Name x p) "__init__" apos) (e::es) [] pos) X.env=(do
   let ov <- eval (.Name x p) X.env
   standAt apos.atName
   let (f,first) <- holding [ov] (getMethod ov "__init__" pl)
   callWith pos f first (backTo pos (starEach (e::es) X.env)) (backToKw pos (keywordEach [] X.env))):=by rfl):PE X (.Call (.Attribute (.Name x p) "__init__" apos) (e::es) [] pos) (SM C t):=by
 intro pins s σ H Q I h;refine cQ (pl:=pl) (ld_glob I hg hm ?_ hdb) ht;refine W.method_cls I.kIn c.ga (W.cls_value I.kIn c.rd c.fc rfl ?_);have I':=I.tok (s.toks+1);have hA:=ha pos pins _ σ H _ I' h;rw[hst]at hA ⊢;refine dn (by show(false || (backTo pos (starEach es X.env)).any (·.1))=false;rw[hpl]<;>rfl) (c8 ?_);refine thn hA λus s1 ⟨vs,H1,I1,r,qq⟩=>?_;obtain⟨a,ws,rfl,hl,hx,qq⟩:=qq;cases r with
 |cons ru rs=>
  rename_i u us' _;obtain rfl:u=Value.ref a:=ru;obtain⟨nm,qn,N,bs,sn,sub,ab,col,dcl,k0,k1,k2,k3,k5,eC⟩:=q.ob;obtain⟨⟨t0,he⟩,_⟩:=I1.hok a _ hx;refine Ja bi (dZ I1.kIn q.tl) (I1.kIn _ _ eC) he rfl rfl rfl ?_ (by rw[<- rs.length];exact aA hl (by rw[aB];lia));have e1:=af (h:=s1.heap) { cls:=.type "tuple",data:=.seq us'.toArray } he;have e2:=aO (Obj.mapFields (·.setIfInBounds 0 (.ref s1.heap.objs.size))) e1 rfl;have I2:=I1.write (x:=a) (e:=a) (o:=Dr C a none) (t':=s1.toks) (h':=(s1.heap.push { cls:=.type "tuple",data:=.seq us'.toArray }).update a (Obj.mapFields (·.setIfInBounds 0 (.ref s1.heap.objs.size))))
   (by rw[hx];exact tJ) (.inl rfl) (λb u hb z=>by rw[ao _ _ (a9 hb)];exact af _ z) ⟨_,e2⟩ (Br (t:=s1.heap.objs.size) e2)
  rw[yj hx]at I2;exact⟨.non,H1,I2,rfl,qq⟩
end
section
variable {X:Cx}{CX:CXT}{k:Nat}{B C fI:Addr}{E:XK}{x f:Str}{p pos apos pos':Pos}{e o value:Expr}{es:List Expr}{t:TA}{ta tv:TE}
def Th (C:Addr)(ta tv:TE)(f:Str):TS:=λD σ H=>tv σ H λy H1=>ta σ H1 λx H2=>∃a,x=.ref a/\H2 a=some (Dr C a none)/\∀d,H2 d=none->d≠a->D.nx σ (upd (upd H2 a (Dr C a (some d))) d (.xd [(f,y)]))
theorem Kl (q:vB X.K C B fI)(hn:W.findIn X.K (.ref C) f=some none)(hex:X.ex=[])(ha:PE X o ta)(hv:PE X value tv)(hs:swapsWith value (some (.Attribute o f pos')) pos.line X.env=pure false) :
  PS X (.Assign [.Attribute o f pos'] value pos) (Th C ta tv f):=by
 intro pins s σ H D I h;refine dq (thn (hv pins s σ H _ I h) λu s1 ⟨y,H1,I1,ry,q1⟩=>thn (ha pins s1 σ H1 _ I1 q1) λov s2 ⟨x,H2,I2,rx,a,ex,ea,q2⟩=>?_) hs;subst ex;obtain rfl:ov=Value.ref a:=rx;obtain⟨nm,qn,N,bs,sn,sub,ab,col,dcl,k0,k1,k2,k3,k5,eC⟩:=q.ob;obtain⟨cd,c1,c2,c3⟩:=q.cd;obtain⟨⟨t0,he⟩,_⟩:=I2.hok a _ ea;refine Lq I2.kIn he rfl rfl rfl q.sa (I2.kIn _ _ eC) c1 c2 c3 hn λh' d nd e1 ns kp=>?_;have hd:H2 d=none:=I2.untracked nd;have da:d≠a:=λz=>by rw[z,he]at nd;cases nd
 have I3:=I2.write (x:=a) (e:=a) (o:=Dr C a (some d)) (t':=s2.toks+2) (h':=h') (by rw[ea];exact tJ) (.inl rfl) (λb u hb z=>kp b u hb z) ⟨_,e1⟩ (Br (t:=t0) e1);have nw:=I2.Bb hex nd;have hl:d≠X.env.locals:=λz=>by obtain⟨m,⟨ob,_,_,eo,_⟩,_⟩:=I2.loc;rw[<- z,nd]at eo;cases eo
 have I4:=I3.Ju (T:=d) (o:=.xd [(f,y)]) (by rw[upd_ne da];exact hd) hl nw.1 nw.2.2.1 nw.2.2.2 ⟨_,ns,λg=>?_⟩
 ·exact⟨σ,_,I4,q2 d hd da⟩
 ·show RelO (List.lookup g [(f,y)]) (if g=f then some u else none);by_cases z:g=f
  ·rw[ak z,z];simp only[eU,beq_self_eq_true];exact ry
  ·rw[ai z];simp only[eU,beq_eq_false_iff_ne.mpr z,List.lookup_nil];exact tJ
end
section
variable {M:Model}{A:Around}{E:Value->Shared->Prop}{env:Env}{nm q:Str}{C N:Addr}{bs bm:List Value}{hdct:Bool}{sn:List Str}{sub:List Value}{ab:Bool}{col:Option Bool}{dd:Option Addr}{k0 k1 k2 k3 k5:Option Value}{newId:String}
theorem CG {s:Shared}{x:Sem Value}{Q:Flow->Shared->Prop}(hbase:bm.contains (.type "BaseException")=true)(hh:A.handled=none)
  (h:wpAny M A x (λv s₁=>∃e t d,v=.ref e/\s₁.heap.get? C=some (excClassObj nm q C N bs bm hdct sn sub ab col dd k0 k1 k2 k3 k5 newId) /\
   s₁.heap.get? e=some (zV C d t)/\E (.ref e) s₁) E s) :
  wpAny M A (raiseStmt env (some x) none) Q E s:=by
 have hcB:(Value.ref C::bm).contains (.type "BaseException")=true:=by rw[List.contains_cons,hbase,fQ]
 unfold raiseStmt;refine aa (cJ h (λv s₁ h₁=>?_) λ_ _ x=>x);obtain⟨e,t,d',rfl,hC,he,hE⟩:=h₁;obtain⟨hp,g,d,tk,os⟩:=s₁
 repeat (first|with_reducible refine cF he ?_|with_reducible refine cF hC ?_|(with_reducible refine wpAny_isSubtype_exc hC ?_;rw[hcB])|wp_step)
 exact wpAny_raiseNew_none hh hE
end
def del (H:Hp)(a:Addr):Hp:=λb=>if b=a then none else H b
theorem pK {H:Hp}{a:Addr}:del H a a=none:=by unfold del;rw[ak rfl]
theorem mK {H:Hp}{a b:Addr}(h:b≠a):del H a b=H b:=by unfold del;rw[ai h]
theorem HOk.del {P:Program}{w:World}{H:Hp}{h:Heap}{a:Addr}{φ:Heap->Prop}(ok:HOk P w H h)(e:H a=some (.ext φ)):HOk P w (del H a) h:=λb o q=>by
 have nb:b≠a:=λz=>by rw[z,pK]at q;cases q
 rw[mK nb]at q;refine(ok b o q).stay (λ_ _ _ z=>z) (λc z=>?_) (λc xs z=>?_) λc o u z=>?_
 ·rw[mK (λy=>by rw[y,e]at z;cases z)];exact z
 ·rw[mK (λy=>by rw[y,e]at z;cases z)];exact z
 ·rw[mK (λy=>by rw[y,e]at z;cases z)];exact z
theorem Un.del {fs ex:List Addr}{H H':Hp}{h h':Heap}{a:Addr}(u:Un fs ex H H' h h')(n:H a=none):Un fs ex H (L2.del H' a) h h' where
 keep:=u.keep
 slot:=u.slot
 free:=λb o e z x=>by
  by_cases y:b=a
  ·rw[y,pK]
  ·rw[mK y];exact u.free b o e z x
 there:=u.there
 tups:=λb xs e=>by rw[mK (λy=>by rw[y,n]at e;cases e)];exact u.tups b xs e
 frzs:=λb o v e=>by rw[mK (λy=>by rw[y,n]at e;cases e)];exact u.frzs b o v e
 tbls:=λb ps e=>by obtain⟨m,z⟩:=u.tbls b ps e;exact⟨m,by rw[mK (λy=>by rw[y,n]at e;cases e)];exact z⟩
def R6 (X:Cx)(E:XK):Prop:=∀(pins:List (Addr×Obj)) (σ:St) (H H2:Hp) (s s':Shared) (a C d t:Addr),Inv X pins σ H s->s.heap.get? a=none->s'.os=s.os->AllBare s'.gens->Un (frs X.stack) [] H H2 s.heap s'.heap->HOk X.prog X.w H2 s'.heap->H2 a=none ->
 s'.heap.get? a=some (zV C (some d) t)->E (.ref C) (some d) H2->X.xe (.ref a) s'
theorem newX {P:Program}{w:World}{K:Fg}{mg:Mg}{base:Heap}{N:Ls}{qual:Str}{scope:Scope}{f:Addr}{cd:Value}{A:Around}{outer:List Env}{s:Shared}{H:Hp}{E:XK} :
  R6 (cxOf (j9 P w) P w K mg base N qual scope f cd A outer s H E) E:=λpins σ H1 H2 s1 s' a C d t I na ho hb u hok h2 he hE=>
 leave_new I rfl rfl rfl ho hb u hok ⟨h2,na⟩ he rfl rfl rfl rfl (λ_=>rfl) hE (M:=model P w) (E':=λe' s2=>j9 P w outer H s E e' s2) λs2 q=>q
section
variable {X:Cx}{k:Nat}{B C fI:Addr}{fd:FuncData}{ps:List Str}{sp:Sp}{E:XK}{x:Str}{np cpos pos:Pos}{e:Expr}{es:List Expr}{t:TA}
def Kv (C:Addr)(sp:Sp)(E:XK)(t:TA):TS:=λ_ σ H=>t σ H λvs H1=>∀a,H1 a=none->sp (.ref a::vs) (upd H1 a (Dr C a none)) (λv H2=>v=.non/\∃d,H2 a=some (Dr C a (some d))/\E (.ref C) (some d) (del H2 a)) E0
theorem Gh {pins:List (Addr×Obj)}{σ:St}{H:Hp}{s:Shared}{us:Lv}{vs:List V}(q:vB X.K C B fI)(F:FnOk X.prog X.w X.K X.mg X.base CX0 k fI fd ps sp)(hr:Room (k+1) X.A)(hb:Binds X.K fd ps [])
  (I:Inv X pins σ H s) (r:Vals vs us) (hz:us.length<=sizeLine)
  (h:∀a,H a=none->sp (.ref a::vs) (upd H a (Dr C a none)) (λv H2=>v=.non/\∃d,H2 a=some (Dr C a (some d))/\E (.ref C) (some d) (del H2 a)) E0) :
  wpAny (model X.prog X.w) X.A (call (.ref C) us) (λu s'=>∃a H2 d t,u=.ref a/\s.heap.get? a=none/\s'.os=s.os/\AllBare s'.gens/\Un (frs X.stack) [] H H2 s.heap s'.heap/\HOk X.prog X.w H2 s'.heap/\H2 a=none /\
   s'.heap.get? a=some (zV C (some d) t)/\E (.ref C) (some d) H2) X.xe s:=by
 obtain⟨nm,qn,N,bs,sn,sub,ab,col,dcl,k0,k1,k2,k3,k5,eC⟩:=q.ob;refine cX (Ij (I.kIn _ _ eC) (vV I.kIn (I.kIn _ _ eC) (dZ I.kIn q.tl) q.ini q.fn q.sub hz λh' a ea made=>?_));obtain⟨t0,e0,_⟩:=made.there;have na:H a=none:=I.untracked made.new;have I2:Inv X pins σ (upd H a (Dr C a none)) { s with heap:=h' }:=I.laid (t':=s.toks) made.keeps (by rw[ea];exact bJ _) (Br (t:=t0) e0);have hq:=h a na;have r2:Vals (V.ref a::vs) (Value.ref a::us):=.cons rfl r;have hl:(Value.ref a::us).length=ps.length:=by rw[<- r2.length];exact F.len _ _ _ _ hq
 have r3:Vals (V.ref a::vs) (Value.ref a::us++[]):=by rw[aU];exact r2
 refine cX (dh (F.run _ X.stack _ _ ⟨Value.ref a::us,[]⟩ (Value.ref a::us++[]) _ _ E0 (hr.make C us []) (I2.env0.make C us []) (hb _ (Value.ref a::us) I2.kIn (by rw[aU];exact hl)) r3 hq) λr s' hq'=>?_);cases r with
 |error e=>exact hq'.elim
 |ok fl=>
  cases fl with
  |ret u=>obtain⟨v,H2,ho,hbare,un,hok,rv,ev,d,hx,hE⟩:=hq';subst ev;obtain⟨⟨t1,e1⟩,_⟩:=hok a _ hx;have u1:Un (frs X.stack) [] H (upd H a (Dr C a none)) s.heap h':=Un.laid made.keeps (by rw[ea];exact bJ _) na;exact⟨rv,a,del H2 a,d,t1,rfl,made.new,ho,hbare,(u1.trans un).del na,hok.del hx,pK,e1,hE⟩
  |next=>exact False.elim hq'
  |brk=>exact False.elim hq'
  |cont=>exact False.elim hq'
theorem Fx (hn:R6 X E)(hc:X.calm=true)(q:vB X.K C B fI)(F:FnOk X.prog X.w X.K X.mg X.base CX0 k fI fd ps sp)(hr:Room (k+1) X.A)(hb:Binds X.K fd ps [])(hg:Gl X x)(hm:X.mg x=some (.ref C))(ha:PA X (e::es) t)(hz:(e::es).length<=1000:=by decide)
  (hdb:(x == ("__debug__":Str))=false:=by decide) (he:starEach (e::es) X.env=(false,eval e X.env)::starEach es X.env:=by rfl) (hpl:(backTo cpos (starEach es X.env)).any (·.1)=false:=by rfl)
  (hl:∀σ H Q,t σ H Q->t σ H λvs H1=>vs.length=(e::es).length/\Q vs H1):PS X (.Raise (some (.Call (.Name x np) (e::es) [] cpos)) none pos) (Kv C sp E t):=by
 intro pins s σ H D I h;obtain⟨nm,qn,N,bs,sn,sub,ab,col,dcl,k0,k1,k2,k3,k5,eC⟩:=q.ob;rw[arm_exec_Raise];refine aa (cH (CG (C:=C) (nm:=nm) (q:=qn) (N:=N) (bs:=bs) (bm:=(qy C B).tail) (hdct:=true) (sn:=sn) (sub:=sub) (ab:=ab) (col:=col) (dd:=dcl) (k0:=k0) (k1:=k1) (k2:=k2) (k3:=k3) (k5:=k5) (newId:="ValueError.__new__") (by simp[qy]) (I.ok.hd hc) ?_));refine aa (cJ (Q:=λv s'=>∃e t d,v=.ref e/\s'.heap.get? C=some (excClassObj nm qn C N bs (qy C B).tail true sn sub ab col dcl k0 k1 k2 k3 k5 "ValueError.__new__") /\
   s'.heap.get? e=some (zV C d t)/\X.xe (.ref e) s') ?_ (λv s₃ h₃=>aa (cH (aP h₃))) λ_ _ x=>x)
 refine bW (ld_glob I hg hm ?_ hdb);refine b9 (h₀:=X.base) I.ok.mod.kin q.kp (thn (ha cpos pins s σ H _ I (hl σ H _ h)) λus s1 ⟨vs,H1,I1,r,l1,q1⟩=>⟨I1.kIn,?_⟩) he hpl;refine thn (Gh q F hr hb I1 r (by show us.length<=sizeLine;rw[<- r.length,l1];exact b0 (small1000 hz)) q1) λu s' ⟨a,H2,d,t1,e1,e2,e3,e4,e5,e6,e7,e8,e9⟩=>?_;refine⟨a,t1,some d,e1,?_,e8,hn pins σ H1 H2 s1 s' a C d t1 I1 e2 e3 e4 e5 e6 e7 e8 e9⟩;exact(I1.call' (ch:=[]) e3 e5 e6 e4 (λb z=>absurd z (by simp))).kIn _ _ eC
end
section
variable {X:Cx}{a:Expr}{ta:TE}{pos:Pos}
theorem JL:OpR X (compareOp .In) (λx y H Q=>∃c j,x=.str ⟨#[c]⟩/\y=.str j/\Q (.bl (decide (c∈j.cps.toList))) H):=by intro pins s σ H x y u v Q I rx ry ⟨c,j,e1,e2,q⟩;refine op_in_str pins s σ H x y u v Q I rx ry ⟨_,_,e1,e2,?_⟩;rw[StrLaws.found_one];exact q
theorem ji:CallR X (.type "int") (λxs H Q=>∃z n,xs=[.str z]/\intText? z=some n/\z.length<=640/\Q (.int n) H):=by
 rintro pins s σ H xs us Q I r ⟨z,n,rfl,hn,hl,q⟩;cases r with
 |cons r1 r2=>cases r2;obtain⟨t,rfl⟩:=r1;exact W.KIN.call_text hn hl ⟨.int n,H,I.tok _,⟨_,rfl⟩,q⟩
theorem lq {x:Str}{z:Str}(hg:Gl X x)(hm:∃tk,X.mg x=some (.str z tk))(hd:(x == ("__debug__":Str))=false:=by decide):PE X (.Name x pos) (tC (.str z)):=
 λpins s σ H Q I h=>let ⟨_,hm⟩:=hm;pe_glob hg hm (v:=.str z) ⟨_,rfl⟩ hd pins s σ H Q I h
def Uo (u w:Str)(ta:TE):TE:=λσ H Q=>u.length<=sizeLine/\ta σ H λx H1=>∃n:Int,x=.int n/\n.natAbs.log2<1920/\(u++(toString n:Str)).length<=sizeLine/\(u++(toString n:Str)++w).length<=sizeLine/\Q (.str (u++(toString n:Str)++w)) H1
theorem R5 {u w:Str}{j j2:Nat}{p1 p2 p3:Pos}(ha:PE X a ta):PE X (.JoinedStr [.Constant (.str u) j p1,.FormattedValue a (-1) none p2,.Constant (.str w) j2 p3] pos) (Uo u w ta):=by intro pins s σ H Q I h;obtain⟨l0,h⟩:=h;refine JoinedStr_many ?_;refine bU (bV ?_);refine⟨by rw[empty_app];exact l0,?_⟩;rw[empty_app];have I0:Inv X pins σ H { s with toks:=s.toks+1 }:=I.kept λ_ _ e=>e;refine bU (FormattedValue_plain (thn (ha pins _ σ H _ I0 h) λv s1 ⟨x,H1,I1,r1,n,ex,l1,l2,l3,q1⟩=>?_));subst ex;obtain⟨t,rfl⟩:=r1;refine dz l1 ?_;refine⟨l2,?_⟩;show wpAny _ _ (joinParts (u++(toString n:Str)) [eval (.Constant (.str w) j2 p3) X.env]) _ _ _;refine bU (bV ?_);refine⟨l3,?_⟩;refine eI ?_ l3;exact⟨.str _,H1,I1.kept λ_ _ e=>e,⟨_,rfl⟩,q1⟩
end
section
variable {X:Cx}{CX:CXT}{j k:Nat}{C:Addr}{ps:List Str}{sp:Sp}{E:XK}{m:Str}{pos apos:Pos}{e o:Expr}{es:List Expr}{ta:TE}{t:TA}
theorem gZ {pl:Sem Bool}(om:Iw X.prog X.w X.K X.mg X.base CX j C m ps sp)(hr:Room k X.A)(hx:Passes CX X E)(he:PE X o ta)(ha:PA X (e::es) t)(hj:j<=k:=by decide)
  (hst:starEach (e::es) X.env=(false,eval e X.env)::starEach es X.env:=by rfl) (hpl:(backTo pos (starEach es X.env)).any (·.1)=false:=by rfl)
  (ht:eval (.Call (.Attribute o m apos) (e::es) [] pos) X.env=(do
   let ov <- eval o X.env
   standAt apos.atName
   let (f,first) <- holding [ov] (getMethod ov m pl)
   callWith pos f first (backTo pos (starEach (e::es) X.env)) (backToKw pos (keywordEach [] X.env))):=by rfl) :
  PE X (.Call (.Attribute o m apos) (e::es) [] pos) (tMeth C m sp [] E ta t):=by
 obtain⟨f,fd,F,b,mm,c⟩:=om.ex;exact pe_meth he c mm (F.mono hj) hr b .nil hx ha hst hpl ht
theorem iK {pl:Sem Bool}(om:Iw X.prog X.w X.K X.mg X.base CX j C m ps sp)(hr:Room k X.A)(hx:Passes CX X E)(he:PE X o ta)(hj:j<=k:=by decide)
  (ht:eval (.Call (.Attribute o m apos) [] [] pos) X.env=(do
   let ov <- eval o X.env
   standAt apos.atName
   let (f,first) <- holding [ov] (getMethod ov m pl)
   callWith pos f first (backTo pos (starEach [] X.env)) (backToKw pos (keywordEach [] X.env))):=by rfl) :
  PE X (.Call (.Attribute o m apos) [] [] pos) (tMeth C m sp [] E ta tNil):=by
 obtain⟨f,fd,F,b,mm,c⟩:=om.ex;exact pe_meth0 he c mm (F.mono hj) hr b .nil hx ht
theorem Mt:PIp X .Add (λx y H Q=>∃i j,x=.str i/\y=.str j/\i.length+j.length<=sizeLine/\Q (.str (i++j)) H):=iop_add_str
end
theorem Ik {H:Hp}{a d:Addr}{o u:HO}(ha:H a=none)(hd:d≠a)(x:HO):del (upd (upd (upd H a o) a u) d x) a=upd H d x:=by
 funext b;by_cases z:b=a
 ·subst z;rw[pK,upd_ne (a9 hd)];exact ha.symm
 ·rw[mK z];by_cases y:b=d
  ·subst y;rw[upd_same,upd_same]
  ·rw[upd_ne y,upd_ne y,upd_ne z,upd_ne z]
section
variable {X:Cx}{pins:List (Addr×Obj)}{σ:St}{H:Hp}{s:Shared}
theorem Inv.less {n:Str}{i:Nat}{v:Option Value}{m:Mg}{h':Heap}{t':Nat}(I:Inv X pins σ H s)(hN:X.N.Nodup)(hi:X.N[i]?=some n)(hl:∀(i:Nat) (x:Str) (v:V),X.N[i]?=some x->σ[i]?=some (some v)->Vis X.env.scope x->∃u,RelV v u/\Look X.env s.heap m x u)
  (hn:h'.Ns X.env.locals (λx=>if x=n then v else m x)) (hs:Heap.SameBut X.env.locals s.heap h'):Inv X pins (σ.set i none) H { s with heap:=h',toks:=t' }:=by
 have neL:∀b o,X.s₀.heap.get? b=some o->b≠X.env.locals:=λb o e=>bn (aS (au e) I.ok.above);refine⟨I.ok,I.os,I.bare,⟨λb o e q hb hx=>(hs.2 b (neL b o e)).trans (I.base.keep b o e q hb hx),λb o e q hb hx=>?_,I.base.free,λb o e hx=>?_,I.base.tups,I.base.frzs,I.base.tbls⟩,⟨_,hn,λk x u e1 e2 e3=>?_⟩,λx c e=>?_,I.free,I.freeC,λp hp=>?_,λb o e=>?_,by rw[bY];exact I.len⟩
 ·obtain⟨sl,e1⟩:=I.base.slot b o e q hb hx;exact⟨sl,(hs.2 b (neL b o e)).trans e1⟩
 ·obtain⟨o',e1⟩:=I.base.there b o e hx;exact⟨o',(hs.2 b (neL b o e)).trans e1⟩
 ·have ki:k≠i:=λz=>by rw[z,List.getElem?_set_self']at e2;cases q:σ[i]? <;> rw[q]at e2<;>cases e2
  have hxn:x≠n:=λz=>ki (nodup_ix hN e1 (by rw[z];exact hi));rw[bI (a9 ki)]at e2;obtain⟨u',r',q⟩:=hl k x u e1 e2 e3;refine⟨u',r',?_⟩;rcases q with⟨kk,e⟩|⟨kk,c,e,z⟩
  ·exact .inl ⟨kk,by dsimp only;rw[ai hxn];exact e⟩
  ·exact .inr ⟨kk,c,e,z.sameBut hs (I.cne x c e)⟩
 ·obtain⟨w',z⟩:=I.cell x c e;exact⟨w',z.sameBut hs (I.cne x c e)⟩
 ·obtain⟨e,q,ne,nf,d⟩:=I.pin p hp;exact⟨(hs.2 p.1 ne).trans e,q,ne,nf,d⟩
 ·refine(I.hok b o e).stay (λc u hc q=>(hs.2 c (λz=>?_)).trans q) (λ_ q=>q) λ_ _ q=>q;subst z;rcases hc with rfl|hc
  ·rw[I.free]at e;cases e
  ·rw[I.free]at hc;cases hc
end
def Rw (K:Fg)(C:Addr)(i j l:Nat)(sp:Sp)(t:TA):TS:=λD σ H=>t σ H λvs H1=>
 sp vs H1 (λv H2=>D.nx (σ.set l (some v)) H2) λcls dd H'=>W.exmOne K cls (.ref C)=some true/\∀a,H' a=none->D.nx (((σ.set i (some (.ref a))).set j (some (.ref a))).set i none) (upd H' a (Ar a cls dd))
section
variable {X:Cx}{sp:Sp}{ps:List Str}{e:Expr}{es:List Expr}{t:TA}{f x n y y0:Str}{C:Addr}{i j l k k':Nat}{fp px py py0 pn hp cp p1 p2 pos:Pos}
theorem Kd (o:∃fa fd,FnOk X.prog X.w X.K X.mg X.base (j9 X.prog X.w) k' fa fd ps sp/\Binds X.K fd ps []/\W.keepIn X.K (.ref fa)=true/\X.mg f=some (.ref fa))(hr:Room k X.A)(hk:k'<=k)(hgf:Gl X f)
  (hc:X.calm=true) (hst:X.stack=X.env::X.outer) (hfr:X.env.frame=some X.env.locals) (hex:X.ex=[]) (hg:Gl X x) (hm:X.mg x=some (.ref C)) (hN:X.N.Nodup) (hi:X.N[i]?=some n) (hj:X.N[j]?=some y) (hl0:X.N[l]?=some y0) (hln:X.env.scope.names.lookup n=some .local) (hly:X.env.scope.names.lookup y=some .local) (hly0:X.env.scope.names.lookup y0=some .local)
  (hkn:X.env.kindOf n=some .local) (hny:y≠n) (hij:i≠j)
  (ha:∀(pn:List (Addr×Obj)) (E':Value->Shared->Prop),PA { X with pn:=pn,xe:=E' } (e::es) t)
  (hst2:starEach (e::es) X.env=(false,eval e X.env)::starEach es X.env:=by rfl) (hpl:(backTo cp (starEach es X.env)).any (·.1)=false:=by rfl)
  (hs:swapsWith (.Call (.Name f fp) (e::es) [] cp) (some (.Name y0 py0)) p1.line X.env=pure false:=by rfl) (hs2:swapsWith (.Name n pn) (some (.Name y py)) p2.line X.env=pure false:=by rfl) (hdf:(f == ("__debug__":Str))=false:=by decide) (hdx:(x == ("__debug__":Str))=false:=by decide) (hdn:(n == ("__debug__":Str))=false:=by decide) (hdc:(n == ("__classdict__":Str))=false:=by decide) :
  PS X (.Try [.Assign [.Name y0 py0] (.Call (.Name f fp) (e::es) [] cp) p1] [.ExceptHandler (some (.Name x px)) (some n) [.Assign [.Name y py] (.Name n pn) p2] hp] [] [] pos) (Rw X.K C i j l sp t):=by
 intro pins s σ H D I h;obtain⟨fa,fd,F,b,kp,mf⟩:=o
 let Ec:XK:=λcls dd H'=>W.exmOne X.K cls (.ref C)=some true/\∀a,H' a=none->D.nx (((σ.set i (some (.ref a))).set j (some (.ref a))).set i none) (upd H' a (Ar a cls dd))
 let E':Value->Shared->Prop:=λe s'=>∃H1 s1,Inv X pins σ H1 s1/\j9 X.prog X.w X.stack H1 s1 Ec e s'
 have pe:PE { X with pn:=X.pn++pins,xe:=E' } (.Call (.Name f fp) (e::es) [] cp) (λσ' H Q=>σ'=σ/\t σ' H λvs H1=>sp vs H1 Q Ec):=by
  intro pins' s' σ' H' Q I' h';obtain⟨rfl,h'⟩:=h';refine bW (ld_glob I' hgf mf ?_ hdf);refine b9 (h₀:=X.base) I.ok.mod.kin kp (thn (ha _ _ cp pins' s' σ' H' _ I' h') λus s1 ⟨vs,H1,I1,r,q⟩=>⟨I1.kIn,?_⟩) hst2 hpl;have r2:Vals vs (us++[]):=by rw[aU];exact r
  have hl:(us++[]).length=ps.length:=by rw[<- r2.length];exact F.len _ _ _ _ q
  refine cX (dh ((F.mono hk).run X.A X.stack s1 H1 ⟨us,[]⟩ (us++[]) vs Q Ec hr I1.env0 (b s1 us I1.kIn hl) r2 q) λr s2 hq=>?_);cases r with
  |error e=>exact⟨H1,s1,I1.KY,hq⟩
  |ok fl=>
   cases fl with
   |ret u=>exact I1.after hq
   |next=>exact False.elim hq
   |brk=>exact False.elim hq
   |cont=>exact False.elim hq
 have body:=pss_one (ps_set (X:={ X with pn:=X.pn++pins,xe:=E' }) (pos:=p1) hN hl0 (.inl hly0) pe hs (.inr hly0)) [] s σ H { nx:=D.nx,rt:=λ_ _=>False } (I.RV _) ⟨rfl,h⟩;refine wpAny_Try_except (cJ body (λf s1 q=>?_) λe s' q=>?_)
 ·cases f with
  |next=>obtain⟨σ',H',I',q⟩:=q;exact dk ⟨σ',H',I'.KY,q⟩
  |ret v=>obtain⟨_,_,_,_,_,q⟩:=q;exact q.elim
  |brk=>obtain⟨_,_,_,q⟩:=q;exact q.elim
  |cont=>obtain⟨_,_,_,q⟩:=q;exact q.elim
 ·obtain⟨H1,s1,I1,a,cls,dd,H',rfl,ho,hb,u,hok,F,hx1,hE⟩:=q;have nw:=λb (hb:s1.heap.get? b=none)=>I1.Bb hex hb;refine Ai I1 hst hfr hex ho hb u hok F λh3 J F3=>?_;refine wpAny_handleBy_cons (codeAny_handlers_test ?_) (by intro q;cases q);have J2:=J.mark (.ref a) X.xe;refine ld_glob (X:={ X with A:=X.A.mark (some (.ref a)),calm:=false,xe:=X.xe }) J2 hg hm ?_ hdx;obtain⟨oe,vs,T,oT,ts,hae,hcls,hrest⟩:=F3.ex;have LT:W.Looks (model X.prog X.w) h3 (typeOf (.ref a)) cls:=by rw[<- hcls];exact(bL hae).andThen .now
  have KI:X.K.In h3:=J.kIn;refine(W.exm_one KI LT hx1).here (s:={ s' with heap:=h3 }) ?_;refine codeAny_handlers_suite_as ?_;refine tY J hst hfr F3 nw λh4 J4 F4=>?_;obtain⟨oe4,vs4,T4,oT4,ts4,hae4,hcls4,hdi4,hd4,_⟩:=F4.ex;have na:=nw a F.new;have hl:X.env.locals∈frs X.stack:=by rw[hst];unfold frs;rw[bD,hfr];exact aj
  have aL:a≠X.env.locals:=λz=>na.2.1 (by rw[z];exact hl);have aF:a∉X.fs:=λz=>na.2.1 (by rw[hst];unfold frs;rw[bD,hfr];exact ae _ z);have Jp:Inv X (pins++[(a,oe4)]) σ H' { s' with heap:=h4 }:=J4.pins_of λp hp=>by
   rcases aV.mp hp with z|z
   ·exact J4.pin p (aH _ z)
   ·have e:p=(a,oe4):=by simpa using z
    subst e;exact⟨hae4,F.un,aL,aF,λv z=>by rw[hd4]at z;cases z⟩
  have J5:=Jp.mark (.ref a) X.xe;refine store_ok (X:={ X with A:=X.A.mark (some (.ref a)),calm:=false,xe:=X.xe }) J5 hN hi (.inl hln) (v:=.ref a) rfl (λs5 J6=>?_) (.inr hln);have il:i<σ.length:=by rw[J4.len];exact(aZ.mp hi).1
  have suite:∀Err:Value->Shared->Prop,PSs { X with A:=X.A.mark (some (.ref a)),calm:=false,xe:=Err } [.Assign [.Name y py] (.Name n pn) p2] (tAsg (tVar i) (gName j)):=λErr=>
   pss_one (ps_set (X:={ X with A:=X.A.mark (some (.ref a)),calm:=false,xe:=Err }) (i:=j) hN hj (.inl hly) (pe_var (X:={ X with A:=X.A.mark (some (.ref a)),calm:=false,xe:=Err }) hi (.inl hln) hdn hdc) hs2 (.inr hly))
  have J6':∀Err:Value->Shared->Prop,Inv { X with A:=X.A.mark (some (.ref a)),calm:=false,xe:=Err } (pins++[(a,oe4)]) (σ.set i (some (.ref a))) H' s5:=λErr=>(J6.unmark I.ok.hd).mark _ Err;refine cJ (suite _ _ s5 _ H' { nx:=λσ2 H2=>σ2=(σ.set i (some (.ref a))).set j (some (.ref a))/\H2=H',rt:=λ_ _=>False } (J6' _) ⟨_,by rw[cZ,ak rfl,ak il],⟨rfl,rfl⟩⟩) (λf s6 q=>?_) λ_ _ q=>q;cases f with
  |ret v=>obtain⟨_,_,_,_,_,q⟩:=q;exact q.elim
  |brk=>obtain⟨_,_,_,q⟩:=q;exact q.elim
  |cont=>obtain⟨_,_,_,q⟩:=q;exact q.elim
  |next=>obtain⟨σ2,H2,J7,rfl,rfl⟩:=q;have J7:=J7.unmark I.ok.hd;obtain⟨m,hm',hloc⟩:=J7.loc;refine wpAny_nameGoes_keeps hkn hm' (by rw[I.ok.kind];rfl) λh7 v hn7 hs7=>?_;have J8:=J7.less (t':=s6.toks+1) hN hi hloc hn7 hs7;have e8:=(J8.pin (a,oe4) (aH _ (aH _ (by simp)))).1;have J9:Inv X pins (((σ.set i (some (.ref a))).set j (some (.ref a))).set i none) H2 { s6 with heap:=h7,toks:=s6.toks+1 }:=J8.pins_of λp hp=>J8.pin p (aH _ (cg _ hp));refine⟨_,_,J9.Ju (o:=Ar a cls dd) F.un aL na.1 na.2.2.1 na.2.2.2 ?_,hE a F.un⟩;exact⟨⟨oe4,vs4,e8,hcls4,hdi4,hd4⟩,⟨oe4,e8⟩,λg1 g2 ⟨o,vs,q1,q2⟩ k=>⟨o,vs,k o q1,q2⟩⟩
end
end L2
namespace L3
open L2
def Tr (cB:Addr)(pre:Str->Prop)(F:Str->Int ⊕ List Int):Sp:=λvs H Q E=>∃t:Str,vs=[.str t]/\pre t/\(∀ns,F t=.inr ns->∀H' a,Same H H' -> H a=none->H' a=some (.lst (ns.map V.int))->Q (.ref a) H') /\
 ∀z,F t=.inl z->∀H2 d,Same H H2->H d=none->H2 d=some (.xd [("place",.int z)])->E (.ref cB) (some d) H2
section
variable {K:Fg}{G:Gx}{B:Bs}{σ:L2.St}{H:Hp}{ρ:En}{O:Addr->Bool}{i:Nat}
theorem Rep.any (R:Rep K G B σ H ρ O)(h:ρ[i]?=some .un)(no:∀(m:Nat) xs ys,ρ[m]? ≠ some (Sl.o2 xs ys))(w:Option V):Rep K G B (σ.set i w) H ρ O:=by
 have ne:∀{m:Nat} {q:Sl},ρ[m]?=some q->q ≠ .un->i≠m:=λe hq z=>by rw[<- z,h]at e;cases e;exact hq rfl
 refine⟨R.same,R.cd,R.hid,R.dom,R.vis,λm p e=>?_,λm p e=>?_,λm n p q a e1 e2 e3 e4=>?_,by rw[bY];exact R.len,λm xs ys e=>absurd e (no m xs ys)⟩
 ·rw[bI (ne e (λz=>nomatch z))];exact R.fr m p e
 ·rw[bI (ne e (λz=>nomatch z))];exact R.ow m p e
 ·rw[bI (ne e1 (λz=>nomatch z))]at e3;rw[bI (ne e2 (λz=>nomatch z))]at e4;exact R.inj m n p q a e1 e2 e3 e4
end
end L3
namespace L2
section
variable {X:Cx}
theorem HB:SlR X (λx lo hi H Q=>∃z,x=.str z/\z.length<=sizeLine/\Q (.str (StrLaws.sliceText z lo hi)) H):=by
 intro pins s σ H x v vl vu lo hi sl Q I rx hs pl pu h;obtain⟨z,rfl,hz,q⟩:=h;obtain⟨t,rfl⟩:=rx;have part:∀{v:Value} {o:Option Int},IsPart v o->∃l:Option (Int×Tok),v=partValue l/\l.map (·.1)=o:=λh=>by
  cases h with
  |none=>exact⟨none,rfl,rfl⟩
  |int i t=>exact⟨some (i,t),rfl,rfl⟩
 obtain⟨l,rfl,rfl⟩:=part pl;obtain⟨u,rfl,rfl⟩:=part pu;refine⟨"str",_,PySem.F.slot_str_getitem.lookup,dG s z t,?_⟩;refine wpAny_getItem_str_slice (l:=l) (u:=u) (st:=none) hs rfl ?_;unfold sliceMade;unfold StrLaws.sliceText at q;split
 ·rename_i c;rw[ak (by exact c)]at q;exact⟨.str z,H,I,⟨t,rfl⟩,q⟩
 ·rename_i c;rw[ai (by exact c)]at q;simp only[Made.post];refine⟨?_,.str _,H,I.tok _,⟨_,rfl⟩,q⟩;show((slicePicked z l u none).filterMap (z.cps[·]?)).toArray.size<=sizeLine;rw[aJ];refine aA (List.length_filterMap_le _ _) (aA ?_ hz);exact PySem.sliceIndices_le _ _ _
end
end L2
namespace L3
open L2
section
variable {X:Cx}{G:Gx}{a b e:Expr}{p p2 pos:Pos}{Ca Cb C:En->Prop}{gs gt:En->Str}{gi gj:En->Int}
theorem Mu (he:PE X e (lE X.K G C gs))(hb:PE X b (iu X.K G Cb gi)):PE X (.Subscript e (.Slice none (some b) none p2) pos) (lE X.K G (λρ=>C ρ/\Cb ρ/\(gs ρ).length<=sizeLine) λρ=>StrLaws.sliceText (gs ρ) none (some (gi ρ))):=
 jz (pe_slice HB he po_none (po_some hb)) λB σ H ρ O Q R c q=>⟨B,ρ,O,R,c.1,λv H1 s1 a1=>⟨B,ρ,O,R.grow s1,c.2.1,λu H2 s2 a2=>⟨gi ρ,a2,gs ρ,a1,c.2.2,q _ H2 (s1.trans s2) rfl⟩⟩⟩
theorem p8 (he:PE X e (lE X.K G C gs))(hb:PE X b (iu X.K G Cb gi)):PE X (.Subscript e (.Slice (some b) none none p2) pos) (lE X.K G (λρ=>C ρ/\Cb ρ/\(gs ρ).length<=sizeLine) λρ=>StrLaws.sliceText (gs ρ) (some (gi ρ)) none):=
 jz (pe_slice HB he (po_some hb) po_none) λB σ H ρ O Q R c q=>⟨B,ρ,O,R,c.1,λv H1 s1 a1=>⟨B,ρ,O,R.grow s1,c.2.1,λu H2 s2 a2=>⟨gi ρ,a2,gs ρ,a1,c.2.2,q _ H2 (s1.trans s2) rfl⟩⟩⟩
def JN (z:Str)(i:Int):Nat:=z.cps.toList.getD i.toNat 0
theorem K9 (he:PE X e (lE X.K G C gs))(hb:PE X b (iu X.K G Cb gi))(hs:∀v u,subscripted b false v u=operate [v,u] (getItem v u):=by intros;rfl):PE X (.Subscript e b pos) (lE X.K G (λρ=>C ρ/\Cb ρ/\(gs ρ).length<=sizeLine/\0<=gi ρ/\gi ρ<((gs ρ).length:Int)) λρ=>⟨#[JN (gs ρ) (gi ρ)]⟩):=
 jz (pe_ix ix_str he hb hs) λB σ H ρ O Q R c q=>⟨B,ρ,O,R,c.1,λv H1 s1 a1=>⟨B,ρ,O,R.grow s1,c.2.1,λu H2 s2 a2=>by
  obtain⟨_,_,c3,c4,c5⟩:=c;obtain⟨k,ek⟩:=bH c4;have hk:k<(gs ρ).cps.toList.length:=by rw[ek]at c5;have:(gs ρ).length=(gs ρ).cps.toList.length:=bf.symm;lia
  refine⟨gs ρ,gi ρ,JN (gs ρ) (gi ρ),a1,a2,c3,?_,q _ H2 (s1.trans s2) rfl⟩;rw[ek];refine atI_nat ?_;unfold JN;rw[gQ,show((k:Int)).toNat=k from rfl,ap hk];rfl⟩⟩
def hdS (z:Str):Nat:=z.cps.toList.getD 0 0
theorem OJ (ha:PE X a (lE X.K G Ca gs))(hb:PE X b (lE X.K G Cb gt))(hm:behindInMarks .In b=false:=by with_unfolding_all rfl):PE X (.Compare a [.In] [b] pos) (yI X.K G (λρ=>Ca ρ/\Cb ρ/\gs ρ=⟨#[hdS (gs ρ)]⟩) λρ=>hdS (gs ρ)∈(gt ρ).cps.toList):=
 jz (pe_cmpR JL ha hb hm) λB σ H ρ O Q R c q=>⟨B,ρ,O,R,c.1,λv H1 s1 a1=>⟨B,ρ,O,R.grow s1,c.2.1,λu H2 s2 a2=>⟨hdS (gs ρ),gt ρ,(show v=.str (gs ρ) from a1).trans (congrArg V.str c.2.2),a2,q _ H2 (s1.trans s2) rfl⟩⟩⟩
end
section
variable {X:Cx}{G:Gx}{e:Expr}{p pos:Pos}{C:En->Prop}{gs:En->Str}
theorem Mm (hm:X.mg "int"=none)(bt:bootBuiltins "int"=some (.type "int"))(he:PE X e (lE X.K G C gs))(hg:Gl X "int":=by rfl)(hs:starEach [e] X.env=[(false,eval e X.env)]:=by rfl):PE X (.Call (.Name "int" p) [e] [] pos) (iu X.K G (λρ=>C ρ/\(intText? (gs ρ)).isSome=true/\(gs ρ).length<=640) λρ=>(intText? (gs ρ)).getD 0):=
 jz (pe_callTy ji hg hm bt (pa_cons he pa_nil hs) (he:=hs)) λB σ H ρ O Q R c q=>⟨B,ρ,O,R,c.1,λv H1 s1 a1=>by
  have a1:v=.str (gs ρ):=a1;subst a1;obtain⟨n,en⟩:=bN.mp c.2.1;refine⟨gs ρ,n,rfl,en,c.2.2,q _ H1 s1 ?_⟩;show V.int n=V.int ((intText? (gs ρ)).getD 0);rw[en];rfl⟩
end
section
variable {X:Cx}{G:Gx}{a b e:Expr}{p pos:Pos}{Ca Cb C:En->Prop}{gs gt:En->Str}
theorem tM (hm:X.mg "len"=none)(ha:PE X a (lE X.K G C gs))(hg:Gl X "len":=by rfl)(he:starEach [a] X.env=[(false,eval a X.env)]:=by rfl) :
  PE X (.Call (.Name "len" p) [a] [] pos) (iu X.K G (λρ=>C ρ/\(gs ρ).length<=sizeLine) λρ=>((gs ρ).length:Int)):=
 jz (pe_callB call_len_str hg hm uE (pa_cons ha pa_nil he) (by decide) (by decide) he rfl) λB σ H ρ O Q R c q=>⟨B,ρ,O,R,c.1,λv H1 s1 a1=>⟨gs ρ,by rw[show v=.str (gs ρ) from a1],c.2,q _ H1 s1 rfl⟩⟩
end
end L3
namespace L2
def Uu (X:Cx)(e:Expr)(t:TE):Prop:=
 ∀(pins:List (Addr×Obj)) (s:Shared) (σ:St) (H:Hp) (Q:VK),1<=s.toks->Inv X pins σ H s->t σ H Q->wpAny (model X.prog X.w) X.A (eval e X.env) (EP X pins σ Q) X.xe s
section
variable {X:Cx}{o e:Expr}{to te ta:TE}{pos:Pos}
theorem wX:∀(l:List (Str×Tok)),Vals ((l.map (·.1)).map V.str) (strValues l)
 |[]=>.nil
 |(x,t)::r=>.cons ⟨t,rfl⟩ (wX r)
theorem Ie:MtR X "str.split" (λx xs H Q=>∃z y,x=.str z/\xs=[.str y]/\(y.length == 0)=false/\z.length<sizeLine/\(PySem.Txt.split z y).length<=sizeLine/\∀a,H a=none->Q (.ref a) (upd H a (.lst ((PySem.Txt.split z y).map V.str)))):=by
 intro pins s σ H x xs v us Q I rx rs h;obtain⟨z,y,rfl,rfl,hy,hz,hs,q⟩:=h;obtain⟨t,rfl⟩:=rx;obtain⟨u',rfl,w,rfl⟩:=vals1 rs;have fin:∀(l:List (Str×Tok)) (k:Nat),l.map (·.1)=PySem.Txt.split z y->EP X pins σ Q (.ref s.heap.objs.size) { s with heap:=s.heap.push { cls:=.type "list",data:=.seq (strValues l).toArray },toks:=k }:=λl k e=>by have iv:=wX l;rw[e]at iv;exact⟨.ref s.heap.objs.size,_,I.lnew (t':=k) iv (by rw[ag];exact hs),rfl,q _ I.fresh⟩
 cases h1:(decide (z.length<y.length) || decide (Builtin.Str.strKind z<Builtin.Str.strKind y))
 ·cases hf:(Builtin.Str.occurrences z y 0 z.length (z.length+1)).isEmpty
  ·have e:PySem.Txt.split z y=Builtin.Str.partsBetween z (Builtin.Str.occurrences z y 0 z.length (z.length+1)) y.length:=(ai (dN h1)).trans (ai (dN hf));refine di eZ (dG _ _ _) eh (d0 _ _) (meets_str_split_sep z y t w h1 hy hf (b0 hz) (by rw[<- e];exact hs)) ?_;rw[strsFrom_eq];exact fin _ _ ((numbered_texts _ _).trans e.symm)
  ·exact di eZ (dG _ _ _) eh (d0 _ _) (meets_str_split_not_found z y t w h1 hy hf) (fin [(z,t)] s.toks ((ai (dN h1)).trans (ak hf)).symm)
 ·exact di eZ (dG _ _ _) eh (d0 _ _) (meets_str_split_cannot_occur z y t w h1) (fin [(z,t)] s.toks (ak h1).symm)
theorem Kr:MtR X "str.partition" (λx xs H Q=>∃z y,x=.str z/\xs=[.str y]/\(y.length == 0)=false/\z.length<=sizeLine/\∀a,H a=none->Q (.ref a) (upd H a (.tup [.str (PySem.Txt.partition z y).1,.str (PySem.Txt.partition z y).2.1,.str (PySem.Txt.partition z y).2.2]))):=by
 intro pins s σ H x xs v us Q I rx rs h;obtain⟨z,y,rfl,rfl,hy,hz,q⟩:=h;obtain⟨t,rfl⟩:=rx;obtain⟨u',rfl,w,rfl⟩:=vals1 rs;refine di F.slot_str_partition (dG _ _ _) F.entry_str_partition (F.args_str_partition_2 _ _) (meets_str_partition z y t w hy hz) ?_;have fin:∀(a b c:Str) (ta tb tc:Tok) (k:Nat),PySem.Txt.partition z y=(a,b,c)->EP X pins σ Q (.ref s.heap.objs.size) { s with heap:=s.heap.push { cls:=.type "tuple",data:=.seq [.str a ta,.str b tb,.str c tc].toArray },toks:=k }:=λa b c ta tb tc k e=>by rw[e]at q;exact⟨.ref s.heap.objs.size,_,I.laid (o:=.tup [.str a,.str b,.str c]) (t':=k) (λ_ _ q=>af _ q) (aw _) ⟨by show 3<=sizeLine;decide,_,.cons ⟨ta,rfl⟩ (.cons ⟨tb,rfl⟩ (.cons ⟨tc,rfl⟩ .nil)),⟨_,aM _ rfl,rfl,_,rfl⟩⟩,rfl,q _ I.fresh⟩
 have hp:PySem.Txt.partition z y=PySem.Txt.partition z y:=rfl
 conv at hp=>rhs;unfold PySem.Txt.partition
 revert fin hp;cases Builtin.Str.occurrences z y 0 z.length 1 with
 |nil=>intro fin hp;exact fin _ _ _ _ _ _ _ hp
 |cons i r=>intro fin hp;exact fin _ _ _ _ _ _ _ hp
end
end L2
namespace L3
open L2
section
variable {X:Cx}{G:Gx}{Er:ER}{o e:Expr}{p pos apos cpos:Pos}{C Ca:En->Prop}{gs:En->Str}{y u:Str}{t:TE}{g:En->PV}{st:Stmt}{f f1 f2 f3:FS}{ut:TS}
theorem Bh {K:Fg}{H:Hp}:∀ns:List Str,jn K G H (ns.map PV.str) (ns.map V.str)
 |[]=>rfl
 |n::r=>⟨_,_,rfl,rfl,Bh r⟩
theorem LK {k1:Nat}{p1:Pos}(ho:PE X o (lE X.K G C gs))(hy:(y.length == 0)=false)(hbase:attributeBase o "partition" X.env (eval o X.env)=eval o X.env:=by rfl)
  (hline:(apos.endLine == cpos.line)=true:=by rfl):PE X (.Call (.Attribute o "partition" apos) [.Constant (.str y) k1 p1] [] cpos)
   (tX X.K G (λρ=>C ρ/\(gs ρ).length<=sizeLine) λρ=>.tup [.str (PySem.Txt.partition (gs ρ) y).1,.str (PySem.Txt.partition (gs ρ) y).2.1,.str (PySem.Txt.partition (gs ρ) y).2.2]):=
 jz (pe_bm cL PySem.F.slot_str_partition PySem.F.type_str_partition Kr ho (pa_cons pe_str pa_nil) hbase rfl hline) λB σ H ρ O Q R c q=>⟨B,ρ,O,R,c.1,λv H1 s1 a1=>by
  have a1:v=.str (gs ρ):=a1;subst a1;refine⟨rfl,gs ρ,y,rfl,rfl,hy,c.2,λa na=>q _ _ (s1.trans (same_new na _)) ?_⟩;have R1:=R.grow s1;have oa:O a=false:=by
   cases y:O a with
   |false=>rfl
   |true=>exact absurd na (R1.dom a y)
  exact⟨a,_,rfl,(by rw[ju oa];exact upd_same),_,_,rfl,rfl,_,_,rfl,rfl,_,_,rfl,rfl,rfl⟩⟩
theorem Ou {a b:Expr}{Cb:En->Prop}{ga gb:En->Str}(ha:PE X a (lE X.K G Ca ga))(hb:PE X b (lE X.K G Cb gb)):PT X (.Compare a [.NotEq] [b] pos) (qH X.K G (λρ=>Ca ρ/\Cb ρ) λρ=>¬ga ρ=gb ρ):=
 λpins s σ H Q I ⟨_,ρ,_,R,c,q⟩=>pt_cmpR op_ne ha hb (nomark _) pins s σ H Q I (two R c.1 c.2 λv u _ H2 s1 s2 a1 a2=>by
  have a1:v=.str (ga ρ):=a1;have a2:u=.str (gb ρ):=a2;subst a1 a2;refine⟨rfl,_,rfl,?_⟩;have k:=q H2 (s1.trans s2);by_cases z:ga ρ=gb ρ
  ·simpa [z] using k
  ·simpa [z] using k)
end
theorem FQ {K:Fg}{h:Heap}(e:(jr K).isEmpty=true):Aw K h:=by
 have e:jr K=[]:=List.isEmpty_iff.mp e;have n:∀x,¬x∈jr K:=λx hx=>by rw[e]at hx;exact dC hx
 exact⟨λx hx=>absurd hx (n x),λx hx=>absurd hx (n x),λx hx=>absurd hx (n x)⟩
end L3
namespace L2
theorem Io {prog:Program}{w:World}{A:Around}(hh:A.handled=none)(it:Addr)(x:Str)(t:Tok):Walks prog w A it [it] [it] x.cps.size (SignAt x) (λi h=>h.IsStrIter it (strIterType x) x t i):=by
 unfold strIterType;split
 ·exact Walks.strAscii hh it x t
 ·exact Walks.strWide hh it x t
def T5 (x:Str):It:=⟨λi _=>i<x.cps.size,λi H v H'=>H'=H/\∃c,v=.str ⟨#[c]⟩/\x.cps[i]?=some c,λi _=>i=x.cps.size⟩
theorem Jf {P:Program}{w:World}{K:Fg}{tg:Expr}(x:Str)(t:Tok)(it:Addr):Turn P w K tg (T5 x) [it] it (λi h=>h.IsStrIter it (strIterType x) x t i) where
 mem:=by simp
 obj:=λi h st b hb=>by
  have e:b=it:=by simpa using hb
  subst e;obtain⟨o,e,c,d⟩:=st;exact⟨o,e,λv z=>by rw[d]at z;cases z⟩
 keep:=λi h h' st k=>by obtain⟨o,ho,r⟩:=st;exact⟨o,k it (by simp) o ho,r⟩
 item:=by intro X hP hw hK hc i pins s σ H E I hf st hg;subst hP hw hK;refine(Io (I.ok.hd hc) it x t).item i s _ E hg st λv h' tk hv st' hk=>?_;obtain⟨c,u,hc',rfl⟩:=hv;have I1:Inv X pins σ H { s with heap:=h',toks:=tk }:=I.El hf λb o hb q=>hk b o hb q;obtain⟨o,e,cl,d⟩:=id st';exact⟨_,rfl,go_of (s:={ s with heap:=h',toks:=tk }) e cl d (by unfold strIterType;split<;>decide) ⟨.str ⟨#[c]⟩,H,I1,⟨_,rfl⟩,⟨rfl,c,rfl,hc'⟩,st',λb hb=>(hf b hb).1⟩⟩
 done:=by intro X hP hw hK hc i pins s σ H E I hf st hg;subst hP hw hK;have hg:i=x.cps.size:=hg;subst hg;exact(Io (I.ok.hd hc) it x t).done s _ E st λh' tk hk=>⟨rfl,I.El hf λb o hb q=>hk b o hb q⟩
 self:=λA i s Q E st h=>by
  unfold strIterType at st;split at st
  ·exact wpAny_pyIter_striter_ascii st h
  ·exact wpAny_pyIter_striter_wide st h
def RQ (tl:TE):TI:=λσ H R=>tl σ H λx H1=>∃z,x=.str z/\R (T5 z) H1
theorem Om {X:Cx}{tg l:Expr}{tl:TE}(hl:PE X l tl):PI X tg l (RQ tl):=by
 intro pins s σ H R I h;refine thn (hl pins s σ H _ I h) λv s1 ⟨x,H1,I1,r1,z,e,q⟩=>?_;subst e;obtain⟨t,rfl⟩:=r1;refine wpAny_pyIter_strU ?_;refine⟨s1.heap.objs.size,[s1.heap.objs.size],_,_,H1,rfl,I1.kept (t':=s1.toks) λb o e=>af _ e,Jf z t _,⟨_,aM _ rfl,rfl,rfl⟩,λb hb=>?_,q⟩;have e:b=s1.heap.objs.size:=by simpa using hb
 subst e;exact I1.fpOk (aw _) (I1.hok.fresh (aw _))
theorem Ff {X:Cx}(hc:X.calm=true):CallR X (.builtin "all") (λxs H Q=>∃(a:Addr) (bs:List Bool),xs=[.ref a]/\Rd H a (.lst (bs.map V.bl))/\Q (.bl (bs.all id)) H):=by
 intro pins s σ H xs us Q I rv h;obtain⟨a,bs,rfl,ha,q⟩:=h;obtain⟨u,rfl,ru⟩:=vals1 rv;cases ru;obtain⟨_,its,n,r,_,e⟩:=L3.Inv.K5 I ha;have eb:=Ea r;subst eb;have hL:s.heap.IsList a (bs.map Value.bool).toArray:=⟨_,e,rfl,_,rfl⟩;have hne:a≠s.heap.objs.size:=bn (au e);refine call_all_walk (wpAny_pyIter_list hL ?_);refine⟨_,[s.heap.objs.size,a],[s.heap.objs.size],_,_,_,λi=>bs.getD i false,rfl,Walks.list (A:=X.A.in1) (I.ok.hd hc) _ a hne (bs.map Value.bool).toArray,⟨⟨_,aM _ rfl,rfl,rfl⟩,hL.push _⟩,λi v s Q E hv hq=>?_,λh' tk hk=>?_⟩
 ·have hv:(bs.map Value.bool).toArray[i]?=some v:=hv;rw[List.getElem?_toArray,aT]at hv;cases eb:bs[i]? with
  |none=>rw[eb]at hv;cases hv
  |some b=>
   rw[eb]at hv;have hv:Value.bool b=v:=aI hv;subst hv;have eg:bs.getD i false=b:=by rw[gQ,eb];rfl
   refine ck ?_;have hq:Q (bs.getD i false) s:=hq;rw[eg]at hq;exact hq
 ·have en:(List.range (bs.map Value.bool).toArray.size).all (λi=>bs.getD i false)=bs.all id:=by
   rw[aJ,ag,dl,bc,bc];constructor
   ·intro h b hb;obtain⟨i,hi,rfl⟩:=dF.mp hb;have:=h i (dw.mpr hi);rw[gQ,ap hi]at this;exact this
   ·intro h i hi;have hi:=dw.mp hi;rw[gQ,ap hi];exact h _ (cw hi)
  rw[en];refine⟨.bl _,H,I.kept (t':=tk) λb o eo=>hk b o (λhm=>?_) (af _ eo),rfl,q⟩;have:b=s.heap.objs.size:=aN.mp hm;exact absurd (au eo) (by rw[this];exact b7 _)
theorem FZ {X:Cx}:MtR X "str.startswith" (λx xs H Q=>∃z y,x=.str z/\xs=[.str y]/\Q (.bl (PySem.Txt.startswith z y)) H):=by intro pins s σ H x xs v us Q I rx rs h;obtain⟨z,y,rfl,rfl,q⟩:=h;obtain⟨t,rfl⟩:=rx;obtain⟨u',rfl,w,rfl⟩:=vals1 rs;exact SC.startswith ⟨.bl _,H,I,rfl,q⟩
end L2
namespace L3
open L2
section
variable {K:Fg}{G:Gx}{σ:L2.St}{H:Hp}{Q:VK}{Cs Cb:En->Prop}{gs:En->Str}{gp:En->PV}{cap:List (Option Nat)}
theorem Tc (h:JP K G (λρ=>Cs ρ/\(gs ρ).length<=1000/\∀c∈(gs ρ).cps.toList,Cb ((iM (none::cap) ρ).set 0 (.fr (.str ⟨#[c]⟩)))) (λρ=>(gs ρ).cps.toList.map λc=>gp ((iM (none::cap) ρ).set 0 (.fr (.str ⟨#[c]⟩)))) σ H Q) :
  Ni (none::cap) (RQ (lE K G Cs gs)) (gName 0) rA (tX K G Cb gp) σ H Q:=by
 obtain⟨B,ρ,O,R,⟨c1,c2,c3⟩,q⟩:=h;refine⟨B,ρ,O,R,c1,λv H1 s1 a1=>?_⟩;have a1:v=.str (gs ρ):=a1;subst a1;refine⟨gs ρ,rfl,λD hD=>?_⟩;refine xR (gs ρ).cps.toList (λ_ v=>(jK (none::cap) σ).set 0 (some v)) (λc=>(iM (none::cap) ρ).set 0 (.fr (.str ⟨#[c]⟩))) (λc=>.str ⟨#[c]⟩) (R.grow s1) hD (by rw[bf];exact c2) (λi H hi s=>by rw[bf]at hi;exact hi) ?_ (λH s=>bf) (λn H _ s R'=>R'.set (p:=.str ⟨#[n]⟩) rfl) ?_ c3 ?_
 ·rintro i n x H H' en s ⟨rfl,c,rfl,hx⟩;rw[fo,hx]at en;cases en;exact⟨Same.refl _,λk hk=>hk⟩
 ·intro n;show qU (none::jK cap σ) (some _::jK cap σ);exact mj _
 ·intro H' ys s hd al;exact q D ys H' (s1.trans s) (s1.free hD) hd al
end
section
variable {X:Cx}{G:Gx}{Er:ER}{N':List Str}{sc:Scope}{cl:List (Str×Addr)}{cap:List (Option Nat)}{el tg src a b c o:Expr}{at' pos p apos cpos:Pos}{Cs Cb Ca Cc C:En->Prop}{gs:En->Str}{gp g:En->PV}{gl:En->List PV}{ga gb gc:En->Int}
theorem O1 (L:sS X N' sc cl (none::cap))(hc:X.calm=true)(hi:PE X src (lE X.K G Cs gs))(hg:∀s H fp,PG (iB X N' sc cl s H fp) tg (gName 0))(he:∀s H fp,PE (iB X N' sc cl s H fp) el (tX X.K G Cb gp))(hs:∀x,foldedSetIterable src X.env x=pure x:=by intro _;rfl) :
  PE X (.ListComp el [⟨tg,src,[],0⟩] sc at') (JP X.K G (λρ=>Cs ρ/\(gs ρ).length<=1000/\∀c∈(gs ρ).cps.toList,Cb ((iM (none::cap) ρ).set 0 (.fr (.str ⟨#[c]⟩)))) λρ=>(gs ρ).cps.toList.map λc=>gp ((iM (none::cap) ρ).set 0 (.fr (.str ⟨#[c]⟩)))):=
 λpins s σ H Q I h=>Mv L hc (Om hi) hg (λ_ _ _=>pL) he hs pins s σ H Q I (Tc h)
theorem Ot (hcm:X.calm=true)(hm:X.mg "all"=none)(ha:PE X a (tX X.K G Ca λρ=>.lst (gl ρ)))(bt:bootBuiltins "all"=some (.builtin "all"):=by rfl)(hg:Gl X "all":=by rfl)(he:starEach [a] X.env=[(false,eval a X.env)]:=by rfl):PE X (.Call (.Name "all" p) [a] [] pos) (yI X.K G (λρ=>Ca ρ/\∀q∈gl ρ,∃b,q=.bl b) λρ=>((gl ρ).map Kc).all id=true):=
 jz (pe_callB (Ff hcm) hg hm bt (pa_cons ha pa_nil he) (by decide) (by decide) he rfl) λB σ H ρ O Q R c q=>⟨B,ρ,O,R,c.1,λv H1 s1 a1=>by
  obtain⟨l,vs,rfl,r1,al⟩:=a1;have ev:=Do al c.2;subst ev;exact⟨l,_,rfl,iG iU r1,q _ H1 s1 (by show V.bl _=V.bl (decide _);rw[cq])⟩⟩
theorem Et {y:Str}{k1:Nat}{p1:Pos}(ho:PE X o (lE X.K G C gs))(hbase:attributeBase o "startswith" X.env (eval o X.env)=eval o X.env:=by rfl)
  (hline:(apos.endLine == cpos.line)=true:=by rfl):PE X (.Call (.Attribute o "startswith" apos) [.Constant (.str y) k1 p1] [] cpos) (yI X.K G C λρ=>PySem.Txt.startswith (gs ρ) y=true):=
 jz (pe_bm cL PySem.F.slot_str_startswith PySem.F.type_str_startswith FZ ho (pa_cons pe_str pa_nil) hbase rfl hline) λB σ H ρ O Q R c q=>⟨B,ρ,O,R,c,λv H1 s1 a1=>by
  have a1:v=.str (gs ρ):=a1;subst a1;exact⟨rfl,gs ρ,y,rfl,rfl,q _ H1 s1 (by show V.bl _=V.bl (decide _);rw[cq])⟩⟩
theorem Em {y:Str}{k1:Nat}{p1:Pos}(ho:PE X o (lE X.K G C gs))(hy:(y.length == 0)=false)(hbase:attributeBase o "split" X.env (eval o X.env)=eval o X.env:=by rfl)
  (hline:(apos.endLine == cpos.line)=true:=by rfl):PE X (.Call (.Attribute o "split" apos) [.Constant (.str y) k1 p1] [] cpos)
   (tX X.K G (λρ=>C ρ/\(gs ρ).length<sizeLine/\(PySem.Txt.split (gs ρ) y).length<=sizeLine) λρ=>.lst ((PySem.Txt.split (gs ρ) y).map PV.str)):=
 jz (pe_bm cL PySem.F.slot_str_split PySem.F.type_str_split Ie ho (pa_cons pe_str pa_nil) hbase rfl hline) λB σ H ρ O Q R c q=>⟨B,ρ,O,R,c.1,λv H1 s1 a1=>by
  have a1:v=.str (gs ρ):=a1;subst a1;refine⟨rfl,gs ρ,y,rfl,rfl,hy,c.2.1,c.2.2,λa na=>q _ _ (s1.trans (same_new na _)) ⟨a,_,rfl,?_,Bh _⟩⟩;have R1:=R.grow s1;have oa:O a=false:=by
   cases y:O a with
   |false=>rfl
   |true=>exact absurd na (R1.dom a y)
  exact .inl (by rw[ju oa];exact upd_same)⟩
theorem By (ha:PE X a (iu X.K G Ca ga))(hb:PE X b (iu X.K G Cb gb))(hc:PE X c (iu X.K G Cc gc))(hm:lastMarks [.LtE,.LtE] [b,c]=false:=by with_unfolding_all rfl) :
  PE X (.Compare a [.LtE,.LtE] [b,c] pos) (yI X.K G (λρ=>Ca ρ/\Cb ρ/\Cc ρ) λρ=>ga ρ<=gb ρ/\gb ρ<=gc ρ):=
 jz (pe_chain op_le op_le ha hb hc hm) λB σ H ρ O Q R cc q=>⟨B,ρ,O,R,cc.1,λv H1 s1 a1=>⟨B,ρ,O,R.grow s1,cc.2.1,λu H2 s2 a2=>by
  refine⟨ga ρ,gb ρ,a1,a2,_,rfl,?_⟩;by_cases z:ga ρ<=gb ρ
  ·rw[ak (aW z)];refine⟨B,ρ,O,(R.grow s1).grow s2,cc.2.2,λw' H3 s3 a3=>⟨gb ρ,gc ρ,a2,a3,q _ H3 (s1.trans (s2.trans s3)) ?_⟩⟩;show V.bl _=V.bl _;rw[show decide (ga ρ<=gb ρ/\gb ρ<=gc ρ)=decide (gb ρ<=gc ρ) from by simp[z]]
  ·rw[ai (by simpa using z)];refine q _ H2 (s1.trans s2) ?_;show V.bl _=V.bl _;rw[show decide (ga ρ<=gb ρ/\gb ρ<=gc ρ)=false from by simp[z]]⟩⟩
theorem Mq {x z:Str}(hg:Gl X x)(hm:∃tk,X.mg x=some (.str z tk))(hd:(x == ("__debug__":Str))=false:=by decide):PE X (.Name x pos) (lE X.K G (λ_=>True) λ_=>z):=
 jz (lq hg hm hd) λ_ _ H _ _ _ _ _ q=>q _ H (Same.refl H) rfl
end
abbrev qG (cW:Addr):Gx:=T6 (KW cW) λh s=>h.same s
theorem Rx {cW:Addr}(H:Hp)(a dx:Addr)(h:H a=some (.ins cW dx [("size",.int 0)])):(qG cW).ob 0 H a 0:=by
 have hm:∀m∈xF,List.lookup m [("size",V.int 0)]=none:=by decide +kernel
 exact .inl ⟨rfl,rfl,dx,_,h,rfl,hm⟩
def xW (K:Fg)(G:Gx)(pre:List PV->Prop)(F:List PV->Rs):Sp:=λvs H Q E=>∃as O,(∀a,O a=true->H a≠none)/\jn K G (mn H O) as vs/\pre as/\(∀p,F as=.val p->∀v H',Same H H' -> At K G (mn H' O) p v->Q v H')/\∀C,F as=.err C->∀H',Same H H' -> E (.ref C) none H'
section
variable {P:Program}{w:World}{K:Fg}{mg:Mg}{base:Heap}{G:Gx}
theorem Gf {x:Str}{st:Stmt}{N ps:Ls}{k:Nat}{pre:List PV->Prop}{F:List PV->Rs}(d:lO K mg x st ps)(S:FnScope N ps (defScope st))(len:∀as,pre as->as.length=ps.length)
  (hbody:∀(f:Addr) (cdv:Value) (A:Around) (outer:List Env) (s:Shared) (H:Hp) (E:XK),Room k (A.deeper (envOfC x (defScope st) s.heap.objs.size f cdv)) ->
   ∃fs,PSs (cxOf (j9 P w) P w K mg base N x (defScope st) f cdv A outer s H E) (defBody st) (ts K G (Qc E) fs)/\∀as,pre as->fs { nx:=λ_=>False,rt:=λp=>F as=.val p,er:=λC=>F as=.err C } (jt N as)):Ef P w K mg base (k+1) x ps (xW K G pre F):=by
 obtain⟨f,fd,Fu,b,m⟩:=d.ex;refine⟨f,fd,?_,b,Fu.kp,m⟩;obtain⟨oc,od,kV,doc,pm,an,cdv,ct,osl,rfl,lk,hcd⟩:=Fu.ex;refine fn_of lk hcd S (λvs H Q E h=>?_) λA outer s H vs Q E hr h=>?_
 ·obtain⟨as,O,_,al,hp,_⟩:=h;rw[<- al.length];exact len as hp
 obtain⟨as,O,hd,al,hp,q,qe⟩:=h;obtain⟨fs,b,c⟩:=hbody f cdv A outer s H E hr;exact⟨_,b,⟨H,O⟩,jt N as,_,⟨O,oE hd al⟩,c as hp,⟨λ_ _ _ _ h=>h.elim,λv H' p s' a' h=>q p h v H' s' a',λ_ _ _ _ _ _ h=>h.elim,λ_ _ _ _ _ h=>h.elim,λ_ _ _ _ h=>h,λ_ _ _ _ h=>h,λH' C s' h=>qe C h H' s'⟩⟩
end
section
variable {X:Cx}{G:Gx}{e:Expr}{es:List Expr}{pos p:Pos}{j k:Nat}{x:Str}{ps:List Str}{pre:List PV->Prop}{C:En->Prop}{gs:En->List PV}{F:List PV->Rs}
theorem lz (o:Ef X.prog X.w X.K X.mg X.base j x ps (xW X.K G pre F))(hr:Room k X.A)(ha:PA X (e::es) (yJ X.K G C gs))(hj:j<=k:=by decide)(hg:Gl X x:=by rfl)(hdb:(x == ("__debug__":Str))=false:=by decide)
  (he:starEach (e::es) X.env=(false,eval e X.env)::starEach es X.env:=by rfl) (hpl:(backTo pos (starEach es X.env)).any (·.1)=false:=by rfl):PR X G (.Call (.Name x p) (e::es) [] pos) (λρ=>C ρ/\pre (gs ρ)) λρ=>F (gs ρ):=
 λE hx pins s σ H Q I ⟨B,ρ,O,R,c,q,qe⟩=>vd o hx hr ha hj hg hdb he hpl pins s σ H Q I ⟨B,ρ,O,R,c.1,λvs H1 s1 a1=>by
  dsimp only;rw[aU];exact⟨gs ρ,O,(R.grow s1).dom,a1,c.2,λp hp v H2 s2 a2=>q p hp v H2 (s1.trans s2) a2,λcc hcc H2 s2=>qe cc hcc H2 (s1.trans s2)⟩⟩
end
end L3
namespace L2
abbrev Rb (C h t:Addr):Obj:={ cls:=.ref C,dict:=none,data:=.fields #[.ref t,.none,.ref h,.none,.bool true,.none] }
theorem vK:entryFor table "proto.unchain"=some Builtin.«proto.unchain»:=entryFor_of_tree (by kernel_rfl)
section
variable {prog:Program}{w:World}{A:Around}{E:Value->Shared->Prop}{env:Env}{nm q:Str}{C N:Addr}{bs bm:List Value}{hdct:Bool}{sn:List Str}{sub:List Value}{ab:Bool}{col:Option Bool}{dd:Option Addr}{k0 k1 k2 k3 k5:Option Value}{newId:String}
theorem Bj {α:Type}{s:Shared}{e h:Addr}{oe oh:Obj}{ve vh:Array Value}{Q:α->Shared->Prop}(hh:A.handled=some (.ref h))(hne:h≠e)(hoh:s.heap.get? h=some oh)(hdh:oh.data=.fields vh)(h2:vh[2]?=some .none)
  (hoe:s.heap.get? e=some oe) (hde:oe.data=.fields ve) (hz:2<ve.size) (hE:E (.ref e) { s with heap:=s.heap.update e (Obj.mapFields (·.setIfInBounds 2 (.ref h))) }):wpAny (model prog w) A (raiseNew (.ref e):Sem α) Q E s:=by
 unfold raiseNew;refine aa (wpAny_handled ?_);rw[hh];dsimp only;rw[ak (by simpa using hne)];refine aa (b8 (wpAny_runValue (ft vK ?_)));unfold Builtin.«proto.unchain»;dsimp only;refine aa (bM hoh hdh h2 ?_);rw[ak (by decide)];refine aP ?_;show wpAny _ _ _ _ _ _;unfold updateField;refine aa (aa (wpAny_load hoe ?_));rw[hde];dsimp only;rw[ak hz];refine wpAny_update hoe ?_;exact wpAny_throw hE
theorem Bw {s:Shared}{x:Sem Value}{h:Addr}{k:Nat}{p pos:Pos}{Q:Flow->Shared->Prop}(hbase:bm.contains (.type "BaseException")=true)(hh:A.handled=some (.ref h))
  (hx:wpAny (model prog w) A x (λv s₁=>∃e t oh vh,v=.ref e/\h≠e/\s₁.heap.get? C=some (excClassObj nm q C N bs bm hdct sn sub ab col dd k0 k1 k2 k3 k5 newId) /\
   s₁.heap.get? e=some (zV C none t)/\s₁.heap.get? h=some oh/\oh.data=.fields vh/\vh[2]?=some .none /\
   ∀h',h'.get? e=some (Rb C h t)->(∀b o,b≠e->s₁.heap.get? b=some o->h'.get? b=some o)->E (.ref e) { s₁ with heap:=h' }) E s) :
  wpAny (model prog w) A (raiseStmt env (some x) (some (do let v <- eval (.Constant .none k p) env;standAt pos;pure v))) Q E s:=by
 have hcB:(Value.ref C::bm).contains (.type "BaseException")=true:=by rw[List.contains_cons,hbase,fQ]
 unfold raiseStmt;refine aa (cJ hx (λv s₁ h₁=>?_) λ_ _ x=>x);obtain⟨e,t,oh,vh,rfl,hne,hC,he,hoh,hdh,h2,hE⟩:=h₁;obtain⟨hp,g,d,tk,os⟩:=s₁;dsimp only;refine aa (b8 (aa (Constant_none (aa (cH (aP ?_))))));refine aa (aP ?_);dsimp only;unfold excFromValue;refine aa (b8 ?_)
 repeat (first|with_reducible refine cF he ?_|with_reducible refine cF hC ?_|(with_reducible refine wpAny_isSubtype_exc hC ?_;rw[hcB])|wp_step)
 have eC:C≠e:=λz=>by have hC':hp.get? C=some (excClassObj nm q C N bs bm hdct sn sub ab col dd k0 k1 k2 k3 k5 newId):=hC;have he':hp.get? e=some (zV C none t):=he;rw[z,he']at hC';have:=congrArg Obj.data (aI hC');cases this
 have oth:∀b,b≠e->((hp.update e (Obj.mapFields λx=>x.setIfInBounds 3 Value.none)).update e (Obj.mapFields λx=>x.setIfInBounds 4 (Value.bool true))).get? b=hp.get? b:=λb hb=>by rw[ao _ _ (a9 hb),ao _ _ (a9 hb)]
 have hC2:=(oth C eC).trans hC;have he1:=aO (Obj.mapFields λx=>x.setIfInBounds 3 Value.none) he rfl;have he2:=aO (Obj.mapFields λx=>x.setIfInBounds 4 (Value.bool true)) he1 rfl;have hoh2:=(oth h hne).trans hoh
 repeat (first|with_reducible refine cF hC2 ?_|with_reducible refine cF he2 ?_|wp_step)
 refine Bj hh hne hoh2 hdh h2 he2 rfl (by show 2<6;decide) ?_;refine hE _ (aO (Obj.mapFields (·.setIfInBounds 2 (.ref h))) he2 rfl) λb o hb e1=>?_;rw[ao _ _ (a9 hb)];exact(oth b hb).trans e1
end
structure Nt (fr:List Addr)(h h2:Heap)(a L T:Addr)(oe:Obj)(ts:Array Value):Prop where
 me:h2.get? a=some (Obj.mapFields (·.setIfInBounds 1 (.ref T)) oe)
 ne:T≠a
 new:h.get? T=none
 tb:h2.get? T=some { cls:=.type "traceback",dict:=none,data:=.fields ts }
 sz:3<ts.size
 fl:ts[3]?=some (rawInt L)
 keep:∀b o,h.get? b=some o->b∉fr->b≠a->h2.get? b=some o
 slot:∀b o,b∈fr->h.get? b=some o->∃sl,h2.get? b=some { o with slots:=sl }
section
variable {M:Model}{A:Around}{E:Value->Shared->Prop}{s:Shared}{base:Heap}{env:Env}{outer:List Env}{L a:Addr}{oe:Obj}{vs:Array Value}{Q:Unit->Shared->Prop}
theorem IK (hfr:A.frames=some (env::outer))(hl:s.heap.FunFrames base (env::outer))(hf:env.frame=some L)(he:s.heap.get? a=some oe)(hd:oe.data=.fields vs)(h1:vs[1]?=some .none)
  (h:∀h2 T ts,Nt (frs (env::outer)) s.heap h2 a L T oe ts->Q () { s with heap:=h2 }):wpAny M A (noteFrame (.ref a) env) Q E s:=by
 have hsz:1<vs.size:=(aX.mp h1).1;have hna:a∉frs (env::outer):=λz=>by obtain⟨_,o,e,d⟩:=hl.mem z;rw[he]at e;cases e;exact d vs hd
 unfold noteFrame;simp only[hf];refine aa (bM he hd h1 ?_);rw[ai (by decide)];refine aa (d9 hfr hl hf λh1 so=>aa (dY λpl hpl=>?_));unfold EntryCells.newEntry newFields;refine aa (cY ?_ (hpl.sizeOk5 _ _ _ _ _));have e1:h1.get? a=some oe:=(so.2.1 a hna).trans he;have nT:h1.objs.size≠a:=cO (au e1);generalize hts:([Value.none,Value.ref L,Value.none,rawInt L,Value.none]++(if pl.isEmpty then List.replicate 6 Value.none else pl)).toArray=ts;have lt3:3<ts.size:=by rw[<- hts];simp
 have f3:ts[3]?=some (rawInt L):=by rw[<- hts];simp
 have e2:=af (h:=h1) { cls:=.type "traceback",dict:=none,data:=.fields ts } e1;have t2:=aM h1 (o:={ cls:=.type "traceback",dict:=none,data:=.fields ts }) rfl;refine cz e2 hd hsz (h _ h1.objs.size ts ⟨?_,nT,?_,?_,lt3,f3,λb o q nb ba=>?_,λb o z q=>?_⟩)
 ·exact aO _ e2 (bG (bg hd _))
 ·cases q:s.heap.get? h1.objs.size with
  |none=>rfl
  |some o=>obtain⟨sl,q1⟩:=so.2.2 _ o q;exact absurd (au q1) (b7 _)
 ·exact(ao _ _ (a9 nT)).trans t2
 ·rw[ao _ _ (a9 ba)];exact af _ ((so.2.1 b nb).trans q)
 ·obtain⟨sl,q1⟩:=so.2.2 b o q;refine⟨sl,?_⟩;rw[ao _ _ (λy=>hna (by rw[y];exact z))];exact af _ q1
theorem Ck {ts:Array Value}{T:Addr}{Qx:Value->Unit->Shared->Prop}{Ex:Value->Value->Shared->Prop}(hf:env.frame=some L)(he:s.heap.get? a=some oe)(hd:oe.data=.fields vs)(h1:vs[1]?=some (.ref T))(hT:s.heap.get? T=some { cls:=.type "traceback",dict:=none,data:=.fields ts })(hz:3<ts.size)(hne:T≠a)
  (h:∀h2,(∀b,b≠T->h2.get? b=s.heap.get? b)->(∃oT t2,h2.get? T=some oT/\oT.data=.fields t2/\t2[3]?=some .none)->Qx (.ref a) () { s with heap:=h2 }) :
  cameBackBy M A env (λx s2=>wpAny M A (leaving env x) (Qx x) (Ex x) s2) (.ref a) s:=by
 unfold cameBackBy;refine aa (bM he hd h1 ?_);rw[ai (by simp)];unfold setFlight;refine aa (bM he hd h1 ?_);rw[ak (show(Value.ref T != Value.none)=true from by simp),hf];refine cz hT rfl hz ?_;have oth:∀(f:Obj->Obj) (b:Addr),b≠T->(s.heap.update T f).get? b=s.heap.get? b:=λf b hb=>ao _ _ (a9 hb);have he2:=(oth (Obj.mapFields (·.setIfInBounds 3 (rawInt L))) a (a9 hne)).trans he;have hT2:=aO (Obj.mapFields (·.setIfInBounds 3 (rawInt L))) hT rfl;show wpAny M A (leaving env (.ref a)) (Qx (.ref a)) (Ex (.ref a)) _;unfold leaving noteFrame;simp only[hf];refine aa (aa (bM he2 hd h1 ?_));rw[ak (show(Value.ref T != Value.none)=true from by simp)];refine aa (bM (vs:=ts.setIfInBounds 3 (rawInt L)) (x:=rawInt L) hT2 rfl (by simp[hz]) ?_);rw[ak (by simp)];refine aP ?_;refine cC he2 hd h1 hT2 (tvs:=ts.setIfInBounds 3 (rawInt L)) rfl (by simpa using hz) ?_;refine h _ (λb hb=>?_) ?_
 ·rw[ao _ _ (a9 hb)];exact oth _ b hb
 ·exact⟨_,_,aO _ hT2 rfl,rfl,by simp[hz]⟩
end
def Hf (X:Cx)(E:XK):Prop:=∀(pins:List (Addr×Obj)) (σ:St) (H:Hp) (s:Shared) (a C h t:Addr) (m:Option Value) (h':Heap),Inv X pins σ H s->s.heap.get? a=none->(∀b o,s.heap.get? b=some o->h'.get? b=some o)->h'.get? a=some (Rb C h t)->E (.ref C) none H ->
 notedBy (model X.prog X.w) (X.A.mark m) X.env (λx s2=>cameBackBy (model X.prog X.w) X.A X.env X.xe x s2) (.ref a) { s with heap:=h' }
theorem Q4 {P:Program}{w:World}{K:Fg}{mg:Mg}{base:Heap}{N:Ls}{qual:Str}{scope:Scope}{f:Addr}{cd:Value}{A:Around}{outer:List Env}{s:Shared}{H:Hp}{E:XK} :
  Hf (cxOf (j9 P w) P w K mg base N qual scope f cd A outer s H E) E:=λpins σ H1 s1 a C h t m h' I na keeps e hE=>by
 have J:Inv (cxOf (j9 P w) P w K mg base N qual scope f cd A outer s H E) pins σ H1 { s1 with heap:=h' }:=I.kept (t':=s1.toks) keeps;unfold notedBy;refine IK (A:=(cxOf (j9 P w) P w K mg base N qual scope f cd A outer s H E).A.mark m) (base:=base) (outer:=outer) I.ok.frames J.stack rfl e rfl rfl λh2 T ts nt=>?_;refine Ck (M:=model P w) (Qx:=λx _ s2=>j9 P w outer H s E x s2) (Ex:=λ_ x s2=>j9 P w outer H s E x s2) (s:={ s1 with heap:=h2 }) (env:=(cxOf (j9 P w) P w K mg base N qual scope f cd A outer s H E).env) (L:=(cxOf (j9 P w) P w K mg base N qual scope f cd A outer s H E).env.locals) rfl nt.me rfl rfl nt.tb nt.sz nt.ne λh3 oth ⟨oT,t2,q1,q2,q3⟩=>?_;have nT:∀b o,h'.get? b=some o->b≠T:=λb o q z=>by rw[z,nt.new]at q;cases q
 exact qN (s':={ s1 with heap:=h' }) (as:=a::frs (cxOf (j9 P w) P w K mg base N qual scope f cd A outer s H E).stack) (dd:=none) (cls:=.ref C) I rfl rfl rfl rfl I.bare (Un.kept keeps) (I.hok.kept keeps) (λb z=>(aq.mp z).elim (λq=>.inr (by rw[q];exact⟨I.untracked na,na⟩)) .inl) (λb z=>ae _ z) aj ⟨I.untracked na,na⟩
  ⟨λb o q nb=>(oth b (nT b o q)).trans (nt.keep b o q (λz=>nb (ae _ z)) λz=>nb (by rw[z];exact aj)),λb o z q=>by
   obtain⟨sl,y⟩:=nt.slot b o z q;exact⟨sl,(oth b (nT b o q)).trans y⟩,⟨_,_,T,oT,t2,(oth a (a9 nt.ne)).trans nt.me,rfl,rfl,rfl,rfl,nt.new,nt.ne,q1,q2,q3,λz=>by cases z⟩⟩ hE
def Q0 (K:Fg)(C B:Addr)(E:XK)(sp:Sp)(t:TA):TS:=λD σ H=>t σ H λvs H1=>
 sp vs H1 (λv H2=>D.rt v H2) λcls dd H'=>W.exmOne K cls (.ref C)=some true/\dd.isSome=true/\E (.ref B) none H'
section
variable {X:Cx}{sp:Sp}{ps:List Str}{e:Expr}{es:List Expr}{t:TA}{f x y:Str}{C B:Addr}{k k' k1 k2:Nat}{E:XK}{z:Str}{fp px np hp cp cp2 p1 p2 p3 p4 pos:Pos}
theorem Ke (hn:Hf X E)(qB:xm X.K B)(hgB:Gl X y)(hmB:X.mg y=some (.ref B))(o:∃fa fd,FnOk X.prog X.w X.K X.mg X.base (j9 X.prog X.w) k' fa fd ps sp/\Binds X.K fd ps []/\W.keepIn X.K (.ref fa)=true/\X.mg f=some (.ref fa))(hr:Room k X.A)(hk:k'<=k)(hgf:Gl X f)
  (hc:X.calm=true) (hst:X.stack=X.env::X.outer) (hfr:X.env.frame=some X.env.locals) (hex:X.ex=[]) (hg:Gl X x) (hm:X.mg x=some (.ref C))
  (ha:∀(pn:List (Addr×Obj)) (E':Value->Shared->Prop),PA { X with pn:=pn,xe:=E' } (e::es) t)
  (hst2:starEach (e::es) X.env=(false,eval e X.env)::starEach es X.env:=by rfl) (hpl:(backTo cp (starEach es X.env)).any (·.1)=false:=by rfl)
  (hdf:(f == ("__debug__":Str))=false:=by decide) (hdx:(x == ("__debug__":Str))=false:=by decide) (hdy:(y == ("__debug__":Str))=false:=by decide) :
  PS X (.Try [.Return (some (.Call (.Name f fp) (e::es) [] cp)) p1] [.ExceptHandler (some (.Name x px)) none [.Raise (some (.Call (.Name y np) [.Constant (.str z) k1 p3] [] cp2)) (some (.Constant .none k2 p4)) p2] hp] [] [] pos) (Q0 X.K C B E sp t):=by
 intro pins s σ H D I h;obtain⟨fa,fd,F,b,kp,mf⟩:=o
 let Ec:XK:=λcls dd H'=>W.exmOne X.K cls (.ref C)=some true/\dd.isSome=true/\E (.ref B) none H'
 let E':Value->Shared->Prop:=λe s'=>∃H1 s1,Inv X pins σ H1 s1/\j9 X.prog X.w X.stack H1 s1 Ec e s'
 have pe:PE { X with pn:=X.pn++pins,xe:=E' } (.Call (.Name f fp) (e::es) [] cp) (λσ' H Q=>σ'=σ/\t σ' H λvs H1=>sp vs H1 Q Ec):=by
  intro pins' s' σ' H' Q I' h';obtain⟨rfl,h'⟩:=h';refine bW (ld_glob I' hgf mf ?_ hdf);refine b9 (h₀:=X.base) I.ok.mod.kin kp (thn (ha _ _ cp pins' s' σ' H' _ I' h') λus s1 ⟨vs,H1,I1,r,q⟩=>⟨I1.kIn,?_⟩) hst2 hpl;have r2:Vals vs (us++[]):=by rw[aU];exact r
  have hl:(us++[]).length=ps.length:=by rw[<- r2.length];exact F.len _ _ _ _ q
  refine cX (dh ((F.mono hk).run X.A X.stack s1 H1 ⟨us,[]⟩ (us++[]) vs Q Ec hr I1.env0 (b s1 us I1.kIn hl) r2 q) λr s2 hq=>?_);cases r with
  |error e=>exact⟨H1,s1,I1.KY,hq⟩
  |ok fl=>
   cases fl with
   |ret u=>exact I1.after hq
   |next=>exact False.elim hq
   |brk=>exact False.elim hq
   |cont=>exact False.elim hq
 have body:=pss_one (ps_ret (X:={ X with pn:=X.pn++pins,xe:=E' }) (pos:=p1) pe) [] s σ H { nx:=λ_ _=>False,rt:=D.rt } (I.RV _) ⟨rfl,h⟩;refine wpAny_Try_except (cJ body (λf s1 q=>?_) λe s' q=>?_)
 ·cases f with
  |next=>obtain⟨_,_,_,q⟩:=q;exact q.elim
  |ret v=>obtain⟨x,σ',H',I',r,q⟩:=q;exact⟨x,σ',H',I'.KY,r,q⟩
  |brk=>obtain⟨_,_,_,q⟩:=q;exact q.elim
  |cont=>obtain⟨_,_,_,q⟩:=q;exact q.elim
 ·obtain⟨H1,s1,I1,a,cls,dd,H',rfl,ho,hb,u,hok,F,hx1,hdd,hE⟩:=q;have nw:=λb (hb:s1.heap.get? b=none)=>I1.Bb hex hb;refine Ai I1 hst hfr hex ho hb u hok F λh3 J F3=>?_;refine wpAny_handleBy_cons (codeAny_handlers_test ?_) (by intro q;cases q);have J2:=J.mark (.ref a) X.xe;refine ld_glob (X:={ X with A:=X.A.mark (some (.ref a)),calm:=false,xe:=X.xe }) J2 hg hm ?_ hdx;obtain⟨oe,vs,T,oT,ts,hae,hcls,hrest⟩:=F3.ex;have LT:W.Looks (model X.prog X.w) h3 (typeOf (.ref a)) cls:=by rw[<- hcls];exact(bL hae).andThen .now
  have KI:X.K.In h3:=J.kIn;refine(W.exm_one KI LT hx1).here (s:={ s' with heap:=h3 }) ?_;refine codeAny_handlers_suite ?_;refine tY J hst hfr F3 nw λh4 J4 F4=>?_;obtain⟨oe4,vs4,T4,oT4,ts4,hae4,hcls4,hdi4,hd4,_,_,_,_,_,_,_,hx4⟩:=F4.ex;have hx4:=hx4 hdd;obtain⟨nm,qn,N,bs,bm,hdct,sn,sub,ab,col,ddc,k0,k1',k2',k3,k5,mN,hC,hns,hni,tl⟩:=qB.facts I.ok.mod.kin;have hbase:bm.contains (.type "BaseException")=true:=tl.hasType (by decide +kernel);refine eP ?_;rw[arm_exec_Raise];have J5:=J4.mark (.ref a) X.xe;refine aa (cH (Bw (h:=a) (A:=X.A.mark (some (.ref a))) (C:=B) (nm:=nm) (q:=qn) (N:=N) (bs:=bs) (bm:=bm) (hdct:=hdct) (sn:=sn) (sub:=sub) (ab:=ab) (col:=col) (dd:=ddc) (k0:=k0) (k1:=k1') (k2:=k2') (k3:=k3) (k5:=k5) (newId:="ValueError.__new__") hbase ?_ ?_))
  ·exact(show(X.A.mark (some (.ref a))).handled=some (.ref a) from rfl)
  ·refine aa (cJ (Q:=λv s₁=>∃e h' tk,v=.ref e/\Heap.MadeExcOf h4 h' e (.ref B) [.str z s'.toks]/\s₁={ s' with heap:=h',toks:=tk }) ?_ (λv s₁ h₁=>aa (cH (aP ?_))) λ_ _ x=>x)
   ·refine wpAny_Call_ofName ?_;refine ld_glob (X:={ X with A:=X.A.mark (some (.ref a)),calm:=false,xe:=X.xe }) J5 hgB hmB ?_ hdy;unfold callWith;refine aa (b8 ?_);refine c8 ?_;show wpAny _ _ (spliced [(false,eval (.Constant (.str z) k1 p3) X.env)]) _ _ _;refine dW (bV (d8 ?_));refine aa (cH ?_);dsimp only;refine aa (wpAny_keeperOf_exc (J4.bk _ _ hC) ?_);refine aa (wpAny_call_exc_subU (hrest:=by show 1<=sizeLine;decide) bi (by decide +kernel) bi (tl.keeps J4.bk) (J4.bk _ _ hC) (hns.keeps J4.bk) hni λh' e hm=>aa (b8 (wpAny_point (aP ?_))));exact⟨e,h',_,rfl,hm,rfl⟩
   ·obtain⟨e,h',tk,rfl,hm',rfl⟩:=h₁;obtain⟨tt,e1,e2,e3⟩:=hm'.there;have aE:a≠e:=λy=>by rw[<- y]at hm';rw[hm'.new]at hae4;cases hae4
    refine⟨e,tt,oe4,vs4,rfl,aE,hm'.keeps _ _ (J4.bk _ _ hC),e1,hm'.keeps _ _ hae4,hd4,hx4,λh5 q1 q2=>?_⟩;have ke:∀b o,h4.get? b=some o->h5.get? b=some o:=λb o q=>q2 b o (λy=>by rw[y,hm'.new]at q;cases q) (hm'.keeps b o q);exact hn pins σ H' { s' with heap:=h4,toks:=tk } e B a tt (some (.ref a)) h5 (J4.tok tk) hm'.new ke q1 hE
end
structure Uc (fr:List Addr)(h h2:Heap)(a L T T2:Addr)(oe:Obj)(ts:Array Value):Prop where
 me:h2.get? a=some (Obj.mapFields (·.setIfInBounds 1 (.ref T2)) oe)
 ne:T2≠a
 new:h.get? T2=none
 ge:h.objs.size<=T2
 gs:h.objs.size<=h2.objs.size
 tb:h2.get? T2=some { cls:=.type "traceback",dict:=none,data:=.fields ts }
 sz:3<ts.size
 keep:∀b o,h.get? b=some o->b∉fr->b≠a->b≠T->h2.get? b=some o
 slot:∀b o,b∈fr->h.get? b=some o->∃sl,h2.get? b=some { o with slots:=sl }
section
variable {M:Model}{A:Around}{E:Value->Shared->Prop}{s:Shared}{base:Heap}{env:Env}{outer:List Env}{L a T:Addr}{oe oT:Obj}{vs tT:Array Value}{y:Value}{Q:Unit->Shared->Prop}
theorem wj (hfr:A.frames=some (env::outer))(hl:s.heap.FunFrames base (env::outer))(hf:env.frame=some L)(he:s.heap.get? a=some oe)(hd:oe.data=.fields vs)(h1:vs[1]?=some (.ref T))(hTa:T≠a)(hT:s.heap.get? T=some oT)(hdT:oT.data=.fields tT)(h3:tT[3]?=some y)(hy:y≠rawInt L)
  (h:∀h2 T2 ts,Uc (frs (env::outer)) s.heap h2 a L T T2 oe ts->Q () { s with heap:=h2 }):wpAny M A (noteFrame (.ref a) env) Q E s:=by
 have hsz:1<vs.size:=(aX.mp h1).1;have hna:a∉frs (env::outer):=λz=>by obtain⟨_,o,e,d⟩:=hl.mem z;rw[he]at e;cases e;exact d vs hd
 have nT:T∉frs (env::outer):=λz=>by obtain⟨_,o,e,d⟩:=hl.mem z;rw[hT]at e;cases e;exact d tT hdT
 unfold noteFrame;simp only[hf];refine aa (bM he hd h1 ?_);rw[ak (show(Value.ref T != Value.none)=true from by simp)];refine aa (bM hT hdT h3 ?_);rw[ai (show ¬((y == rawInt L)=true) from λz=>hy (eq_of_beq z))];refine aa (cz hT hdT (aX.mp h3).1 ?_);have oth:∀b,b≠T->(s.heap.update T (Obj.mapFields (·.setIfInBounds 3 Value.none))).get? b=s.heap.get? b:=λb hb=>ao _ _ (a9 hb);have selfT:=aO (Obj.mapFields (·.setIfInBounds 3 Value.none)) hT (bG (bg hdT _));refine aa (d9 hfr (hl.of_keeps λb o hb hnf=>⟨o,(oth b (λz=>by rw[z,hT]at hb;cases hb;exact hnf tT hdT)).trans hb,rfl⟩) hf λh1' so=>aa (dY λpl hpl=>?_));unfold EntryCells.newEntry newFields;refine aa (cY ?_ (hpl.sizeOk5 _ _ _ _ _));have z1:h1'.objs.size=s.heap.objs.size:=so.1.trans (fb _ _ _);have e1:h1'.get? a=some oe:=(so.2.1 a hna).trans ((oth a (a9 hTa)).trans he);have nS:h1'.objs.size≠a:=cO (au e1);generalize hts:([Value.ref T,Value.ref L,Value.none,rawInt L,Value.none]++(if pl.isEmpty then List.replicate 6 Value.none else pl)).toArray=ts;have lt3:3<ts.size:=by rw[<- hts];simp
 have e2:=af (h:=h1') { cls:=.type "traceback",dict:=none,data:=.fields ts } e1;have t2:=aM h1' (o:={ cls:=.type "traceback",dict:=none,data:=.fields ts }) rfl;refine cz e2 hd hsz (h _ h1'.objs.size ts ⟨?_,nS,?_,fi z1.symm,?_,?_,lt3,λb o q nb ba bT=>?_,λb o z q=>?_⟩)
 ·exact aO _ e2 (bG (bg hd _))
 ·cases q:s.heap.get? h1'.objs.size with
  |none=>rfl
  |some o=>exact absurd (au q) (by rw[z1];exact b7 _)
 ·rw[fb];show s.heap.objs.size<=(h1'.objs.push _).size;rw[Array.size_push,z1];exact bJ _
 ·exact(ao _ _ (a9 nS)).trans t2
 ·rw[ao _ _ (a9 ba)];exact af _ ((so.2.1 b nb).trans ((oth b bT).trans q))
 ·obtain⟨sl,q1⟩:=so.2.2 b o ((oth b (λy=>nT (y ▸ z))).trans q);refine⟨sl,?_⟩;rw[ao _ _ (λy=>hna (by rw[y];exact z))];exact af _ q1
theorem zK (hfr:A.frames=some (env::outer))(hl:s.heap.FunFrames base (env::outer))(hf:env.frame=some L)(he:s.heap.get? a=some oe)(hd:oe.data=.fields vs)(h1:vs[1]?=some (.ref T))(hTa:T≠a)(hT:s.heap.get? T=some oT)(hdT:oT.data=.fields tT)(h3:tT[3]?=some y)
  (h:∀h',(∀b o,s.heap.get? b=some o->b∉frs (env::outer)->b≠a->b≠T->h'.get? b=some o)->(∀b o,b∈frs (env::outer)->s.heap.get? b=some o->∃sl,h'.get? b=some { o with slots:=sl }) ->
   (∃oe' vs' T' oT' ts',h'.get? a=some oe'/\oe'.cls=oe.cls/\oe'.dict=oe.dict/\oe'.data=.fields vs'/\vs'[1]?=some (.ref T')/\(T'=T\/s.heap.objs.size<=T')/\T'≠a/\h'.get? T'=some oT'/\oT'.data=.fields ts'/\ts'[3]?=some .none/\vs'[2]?=vs[2]?)->Q () { s with heap:=h' }) :
  wpAny M A (leaving env (.ref a)) Q E s:=by
 have lt3:3<tT.size:=(aX.mp h3).1;have nT:T∉frs (env::outer):=λz=>by obtain⟨_,o,e,d⟩:=hl.mem z;rw[hT]at e;cases e;exact d tT hdT
 unfold leaving;by_cases c:y=rawInt L
 ·unfold noteFrame;simp only[hf];refine aa (aa (bM he hd h1 ?_));rw[ak (show(Value.ref T != Value.none)=true from by simp)];refine aa (bM hT hdT h3 ?_);rw[ak (by rw[c];simp)];refine aP ?_;refine cC he hd h1 hT hdT lt3 (h _ (λb o q _ _ bT=>?_) (λb o z q=>⟨o.slots,?_⟩) ⟨oe,vs,T,_,_,?_,rfl,rfl,hd,h1,.inl rfl,hTa,aO _ hT (bG (bg hdT _)),bg hdT _,by simp[lt3],rfl⟩)
  ·exact(ao _ _ (a9 bT)).trans q
  ·exact(ao _ _ (λ(y:T=b)=>nT (by rw[y];exact z))).trans q
  ·exact(ao _ _ hTa).trans he
 ·refine aa (wj hfr hl hf he hd h1 hTa hT hdT h3 c λh2 T2 ts nt=>?_);have d2:=bg hd (·.setIfInBounds 1 (Value.ref T2));have hsz:1<vs.size:=(aX.mp h1).1;have nT2:∀b o,s.heap.get? b=some o->b≠T2:=λb o q z=>by rw[z,nt.new]at q;cases q
  refine cC nt.me d2 (by simp[hsz]) nt.tb rfl nt.sz (h _ (λb o q nb ba bT=>?_) (λb o z q=>?_) ⟨_,_,T2,_,_,(ao _ _ nt.ne).trans nt.me,ee _ _,kW _ _,d2,by simp[hsz],.inr nt.ge,nt.ne,aO _ nt.tb rfl,rfl,by simp[nt.sz],by rw[cE (by decide)]⟩)
  ·exact(ao _ _ (a9 (nT2 b o q))).trans (nt.keep b o q nb ba bT)
  ·obtain⟨sl,q1⟩:=nt.slot b o z q;exact⟨sl,(ao _ _ (a9 (nT2 b o q))).trans q1⟩
end
def Np (X:Cx)(E:XK):Prop:=∀(pins:List (Addr×Obj)) (σ:St) (H1:Hp) (s1:Shared) (C:Addr) (m:Mg) (e:Value) (s':Shared),Inv X pins σ H1 s1->s1.heap.Ns C m->FpOk X pins H1 C->j9 X.prog X.w X.stack H1 s1 E e s' ->
 notedBy (model X.prog X.w) X.A X.env (λx s2=>∃m,s2.heap.Ns C m/\∀h',Heap.SameBut C s2.heap h' -> ∀cv:Env,cv.locals=C->wpAny (model X.prog X.w) X.A (passOn "comprehension.variables-let-go" x cv:Sem Value) (λ_ _=>False) X.xe { s2 with heap:=h' }) e s'
theorem S5 {P:Program}{w:World}{K:Fg}{mg:Mg}{base:Heap}{N:Ls}{qual:Str}{scope:Scope}{f:Addr}{cd:Value}{A:Around}{outer:List Env}{s:Shared}{H:Hp}{E:XK} :
  Np (cxOf (j9 P w) P w K mg base N qual scope f cd A outer s H E) E:=λpins σ H1 s1 C m e s' I hn fC h=>by
 obtain⟨a,cls,dd,H',rfl,ho,hb,u,hok,F,hE⟩:=h;obtain⟨oe,vs,T,oT,tT,he,hcls,hdi,hd,h1,hTe,hT,hdT,h3,hHT,hsT,hx⟩:=F.ex;obtain⟨oC,es,ep,hoC,hdC,hr⟩:=hn;have FF:=I.yf u;have nC:C∉frs (cxOf (j9 P w) P w K mg base N qual scope f cd A outer s H E).stack:=λz=>by
  rcases aq.mp (I.stkSub C z) with q|q
  ·exact fC.2.1 q
  ·exact fC.2.2.1 q
 have aC:C≠a:=λz=>by rw[z,F.new]at hoC;cases hoC
 have TC:C≠T:=λz=>by rw[z,hsT]at hoC;cases hoC
 have hC':=u.keep C oC hoC fC.1 nC (by simp);unfold notedBy;refine wj (A:=(cxOf (j9 P w) P w K mg base N qual scope f cd A outer s H E).A) (base:=base) (outer:=outer) I.ok.frames FF rfl he hd h1 hTe hT hdT h3 (by simp[rawInt]) λh2 T2 ts nt=>?_;have hC2:=nt.keep C oC hC' nC aC TC;refine⟨m,⟨oC,es,ep,hC2,hdC,hr⟩,λh3' sb cv hcv=>?_⟩;have nT2:∀b o,s'.heap.get? b=some o->b≠T2:=λb o q z=>by rw[z,nt.new]at q;cases q
 have d2:=bg hd (·.setIfInBounds 1 (Value.ref T2));have hsz:1<vs.size:=(aX.mp h1).1;have ea:=(sb.2 a (a9 aC)).trans nt.me;have eT:=(sb.2 T2 (a9 (nT2 C oC hC'))).trans nt.tb;have v1:(vs.setIfInBounds 1 (Value.ref T2))[1]?=some (.ref T2):=by simp[hsz]
 unfold PySem.passOn;refine aa (bM (s:={ s' with heap:=h3' }) ea d2 v1 ?_);rw[ai (show ¬((Value.ref T2 == Value.none)=true) from by simp)];unfold setFlight;refine aa (aa (bM (s:={ s' with heap:=h3' }) ea d2 v1 ?_));rw[ak (show(Value.ref T2 != Value.none)=true from by simp)];refine cz (s:={ s' with heap:=h3' }) eT rfl nt.sz (wpAny_throw ?_);generalize cv.frame.elim Value.none (λf=>rawInt f)=yv;have oth:∀b,b≠T2->(h3'.update T2 (Obj.mapFields (·.setIfInBounds 3 yv))).get? b=h3'.get? b:=λb hb=>ao _ _ (a9 hb);have FF4:(h3'.update T2 (Obj.mapFields (·.setIfInBounds 3 yv))).FunFrames base (cxOf (j9 P w) P w K mg base N qual scope f cd A outer s H E).stack:=jZ FF λb hb o q=>by obtain⟨sl,q1⟩:=nt.slot b o hb q;exact⟨sl,(oth b (nT2 b o q)).trans ((sb.2 b (λz=>nC (z ▸ hb))).trans q1)⟩
 show wpAny (model P w) (cxOf (j9 P w) P w K mg base N qual scope f cd A outer s H E).A (leaving (cxOf (j9 P w) P w K mg base N qual scope f cd A outer s H E).env (.ref a)) (λ_ s2=>j9 P w outer H s E (.ref a) s2) _ _;refine zK (s:={ s' with heap:=h3'.update T2 (Obj.mapFields (·.setIfInBounds 3 yv)) }) (base:=base) (outer:=outer) (T:=T2) (y:=yv) (tT:=ts.setIfInBounds 3 yv) I.ok.frames FF4 rfl ((oth a (a9 nt.ne)).trans ea) d2 v1 nt.ne (aO _ eT rfl) rfl (by simp[nt.sz]) λh5 keep slot ⟨oe',vs',T',oT',ts',x1,x2,x3,x4,x5,x6,x7,x8,x9,x10,x11⟩=>?_;have old:∀b,s1.heap.get? b=none->s.heap.get? b=none:=λb z=>by
  cases q:s.heap.get? b with
  |none=>rfl
  |some o=>obtain⟨o1,e1⟩:=I.base.there b o q (by show b∉[];simp);rw[z]at e1;cases e1
 have sC:s.heap.get? C=none:=by
  cases q:s.heap.get? C with
  |none=>rfl
  |some o=>
   rcases fC.2.2.2.1 with z|z
   ·cases z
   ·exact absurd (au q) (Nat.not_lt.mpr z)
 have lift:∀b o,s'.heap.get? b=some o->b∉a::T::C::frs (cxOf (j9 P w) P w K mg base N qual scope f cd A outer s H E).stack->(h3'.update T2 (Obj.mapFields (·.setIfInBounds 3 yv))).get? b=some o:=λb o q nb=>by have n1:b≠a:=λz=>nb (by rw[z];exact aj);have n2:b≠T:=λz=>nb (by rw[z];exact ae _ aj);have n3:b≠C:=λz=>nb (by rw[z];exact ae _ (ae _ aj));exact(oth b (nT2 b o q)).trans ((sb.2 b n3).trans (nt.keep b o q (λz=>nb (ae _ (ae _ (ae _ z)))) n1 n2))
 refine vA (X:=cxOf (j9 P w) P w K mg base N qual scope f cd A outer s H E) (s':=s') (as:=a::T::C::frs (cxOf (j9 P w) P w K mg base N qual scope f cd A outer s H E).stack) (dd:=dd) (cls:=cls) (h2:=h5) I rfl rfl rfl ho hb u hok (λb z=>?_) (λb z=>ae _ (ae _ (ae _ z))) aj ⟨F.un,old a F.new⟩ ⟨λb o q nb=>?_,λb o z q=>?_,?_⟩ hE
 ·rcases aq.mp z with q|z
  ·exact .inr (by rw[q];exact⟨F.un,old a F.new⟩)
  rcases aq.mp z with q|z
  ·exact .inr (by rw[q];exact⟨hHT,old T hsT⟩)
  rcases aq.mp z with q|z
  ·exact .inr (by rw[q];exact⟨u.free C oC hoC fC.1 (by simp),sC⟩)
  ·exact .inl z
 ·exact keep b o (lift b o q nb) (λz=>nb (ae _ (ae _ (ae _ z)))) (λz=>nb (by rw[z];exact aj)) (nT2 b o q)
 ·obtain⟨sl,q1⟩:=nt.slot b o z q;exact slot b { o with slots:=sl } z ((oth b (nT2 b o q)).trans ((sb.2 b (λy=>nC (y ▸ z))).trans q1))
 ·refine⟨oe',vs',T',oT',ts',x1,x2.trans ((ee _ _).trans hcls),x3.trans ((kW _ _).trans hdi),x4,x5,?_,x7,x8,x9,x10,λz=>?_⟩
  ·rcases x6 with z|z
   ·rw[z];exact nt.new
   ·cases q:s'.heap.get? T' with
    |none=>rfl
    |some o=>have z:(h3'.update T2 (Obj.mapFields (·.setIfInBounds 3 yv))).objs.size<=T':=z;rw[fb,sb.1]at z;exact absurd (au q) (Nat.not_lt.mpr (aA nt.gs z))
  ·rw[x11,cE (by decide)];exact hx z
section
variable {X:Cx}{N':List Str}{sc:Scope}{cl:List (Str×Addr)}{cap:List (Option Nat)}{el tg src:Expr}{cs:List Expr}{at':Pos}{g:TG}{tt:TT}{te:TE}{wi:TI}{i:Nat}{x:Str}{px spos:Pos}{E:XK}
theorem Ol (hL:Np X E)(hN:X.N.Nodup)(hi':X.N[i]?=some x)(hx:X.env.scope.names.lookup x=some .local)(L:sS X N' sc cl cap)(hc:X.calm=true)(hi:PI X tg src wi)(hg:∀s H fp xe,PG (ik X N' sc cl s H fp xe) tg g)
  (ht:∀s H fp xe,NK (ik X N' sc cl s H fp xe) cs tt) (he:∀s H fp xe,Passes (j9 X.prog X.w) (ik X N' sc cl s H fp xe) E->PE (ik X N' sc cl s H fp xe) el te) (hsw:swapsWith (.ListComp el [⟨tg,src,cs,0⟩] sc at') (some (.Name x px)) spos.line X.env=pure true)
  (hs:∀x,foldedSetIterable src X.env x=pure x:=by intro _;rfl):PS X (.Assign [.Name x px] (.ListComp el [⟨tg,src,cs,0⟩] sc at') spos) (tAsg (Ni cap wi g tt te) (gName i)):=
 HF (xe:=λs H fp e s'=>∃pins σ1 H1 s1,Inv (iB X N' sc cl s H fp) pins σ1 H1 s1/\j9 X.prog X.w X.stack H1 s1 E e s') hN hi' hx L hc hi (λs H fp=>hg s H fp _) (λs H fp=>ht s H fp _)
  (λs H fp=>he s H fp _ λpins σ1 H1 s1 e s' I h=>⟨pins,σ1,H1,s1,Inv.xe I QK,h⟩) hsw (λpins σ fp s3 H3 e s' I3 hf3 ⟨pins',σ1,H1,s1,J1,h⟩=>
   let ⟨m,hm,_⟩:=J1.loc
   hL pins σ H1 s1 _ m e s' (I3.Ej hf3 J1) hm (I3.fpOk (aw _) J1.free) h) hs
end
end L2
namespace L3
open L2
section
variable {X:Cx}{G:Gx}{Er:ER}{E:XK}{N':List Str}{sc:Scope}{cl:List (Str×Addr)}{cap:List (Option Nat)}{el tg src:Expr}{at' spos px:Pos}{Cs Cb:En->Prop}{FE:En->Rs}{gl:En->List PV}{i:Nat}{x:Str}
theorem G3 (hL:Np X E)(hN:X.N.Nodup)(hi':X.N[i]?=some x)(hx:X.env.scope.names.lookup x=some .local)(L:sS X N' sc cl (none::cap))(hc:X.calm=true)(hi:PE X src (tX X.K G Cs λρ=>.lst (gl ρ)))(hg:∀s H fp xe,PG (ik X N' sc cl s H fp xe) tg (gName 0))(he:∀s H fp xe,PR (ik X N' sc cl s H fp xe) G el Cb FE)
  (hsw:swapsWith (.ListComp el [⟨tg,src,[],0⟩] sc at') (some (.Name x px)) spos.line X.env=pure true) (hs:∀x,foldedSetIterable src X.env x=pure x:=by intro _;rfl) :
  PS X (.Assign [.Name x px] (.ListComp el [⟨tg,src,[],0⟩] sc at') spos) (ts X.K G (Qc E) λP ρ=>(Cs ρ/\(gl ρ).length<=1000/\∀q∈gl ρ,Cb ((iM (none::cap) ρ).set 0 (.fr q)))/\((∀q∈gl ρ,(FE ((iM (none::cap) ρ).set 0 (.fr q))).S7)->∀ns,ns=((gl ρ).map λq=>(FE ((iM (none::cap) ρ).set 0 (.fr q))).get)->P.nx (ρ.set i (.fr (.lst ns))))/\∀q∈gl ρ,∀c,FE ((iM (none::cap) ρ).set 0 (.fr q))=.err c->P.er c):=
 toS (Ol (te:=tR X.K G Cb FE E) hL hN hi' hx L hc (pi_list hi) hg (λ_ _ _ _=>pL) (λs H fp xe hp=>he s H fp xe E hp) hsw hs) λB σ H ρ O P D R c w=>
  R4 (gp:=λρ=>(FE ρ).get) (λq=>(FE ((iM (none::cap) ρ).set 0 (.fr q))).S7) R c.1.1 c.1.2.1 (λq hq B' σ' H2 O' Q' s2 R' k=>⟨B',_,O',R',c.1.2.2 q hq,λp hp v H' s' a'=>k (by rw[hp];exact tJ) v H' s' (by rw[hp];exact a'),λcc hcc H' s'=>w.er H' cc (R.same.trans (s2.trans s')) (c.2.2 q hq cc hcc)⟩)
   λhall a vs H1 s1 n1 e1 al=>w.nx _ H1 _ ⟨O,(R.grow s1).set (p:=.lst _) ⟨a,vs,rfl,.inl (by
    rw[ju]
    ·exact e1
    ·cases z:O a with
     |false=>rfl
     |true=>exact absurd n1 (R.dom a z)),jn.mono (mH lG) _ _ al⟩⟩ (c.2.1 hall _ rfl)
end
def N8:Rs->Rs
 | .val (.int n)=>.val (.int (-n))
 | .val _=>.val .non
 | .err c=>.err c
def Ii:Rs->Rs->Rs
 | .err c,_=>.err c
 | .val _,.err c=>.err c
 | .val p,.val q=>.val (.tup [p,q])
def QD:Rs->Prop
 | .val (.int _)=>True
 | .val _=>False
 | .err _=>True
section
variable {X:Cx}{G:Gx}{Er:ER}{E:XK}{e e1 e2:Expr}{es:List Expr}{pos:Pos}{C C1 C2:En->Prop}{F F1 F2:En->Rs}{fs:Expr->Expr}
theorem N5 (h:PR X G e C F):PR X G (.UnaryOp .USub e pos) (λρ=>C ρ/\QD (F ρ)) λρ=>N8 (F ρ):=
 λE hx pins s σ H Q I ⟨B,ρ,O,R,c,q,qe⟩=>pe_un un_neg (h E hx) pins s σ H Q I ⟨B,ρ,O,R,c.1,λp hp v H' s' a'=>by
  have hi:=c.2;rw[hp]at hi;cases p<;>first|exact hi.elim|skip
  have a':v=.int _:=a';subst a';exact⟨_,rfl,q (.int (-_)) (by dsimp only;rw[hp];rfl) _ H' s' rfl⟩,λcc hcc H' s'=>qe cc (by dsimp only;rw[hcc];rfl) H' s'⟩
theorem JW {x1:Nat}(h1:PR X G e1 C1 F1)(h2:PR X G e2 C2 F2)(hs1:starEach [e1,e2] X.env=(false,eval e1 X.env)::starEach [e2] X.env:=by rfl)(hs2:starEach [e2] X.env=(false,eval e2 X.env)::starEach [] X.env:=by rfl) :
  PR X G (.Tuple [e1,e2] x1 pos) (λρ=>C1 ρ/\C2 ρ) λρ=>Ii (F1 ρ) (F2 ρ):=
 λE hx pins s σ H Q I ⟨B,ρ,O,R,c,q,qe⟩=>pe_tup (pa_cons (h1 E hx) (pa_cons (h2 E hx) pa_nil hs2) hs1) pins s σ H Q I ⟨B,ρ,O,R,c.1,λp hp v H1 s1 a1=>⟨B,ρ,O,R.grow s1,c.2,λp2 hp2 v2 H2 s2 a2=>by
  refine⟨by show 2<=sizeLine;rw[aB];decide,λa na=>?_⟩;have o:O a=false:=by
   cases z:O a with
   |false=>rfl
   |true=>exact absurd (s1.free (s2.free na)) (R.dom a z)
  exact q (.tup [p,p2]) (by dsimp only;rw[hp,hp2];rfl) (.ref a) _ ((s1.trans s2).trans (same_new na _)) ⟨a,[v,v2],rfl,by rw[ju o];exact upd_same,⟨v,[v2],rfl,At.mono (jD (s2.trans (same_new na _))) _ _ a1,v2,[],rfl,At.mono (jD (same_new na _)) _ _ a2,rfl⟩⟩,λcc hcc H2 s2=>qe cc (by dsimp only;rw[hp,hcc];rfl) H2 (s1.trans s2)⟩,λcc hcc H1 s1=>qe cc (by dsimp only;rw[hcc];rfl) H1 s1⟩
end
section
variable {X:Cx}{G:Gx}{Er:ER}{E:XK}{e:Expr}{es:List Expr}{C:En->Prop}{gt:En->Str}{gs:En->List PV}{pre:Str->Prop}{preL:List PV->Prop}{F:Str->Int ⊕ List Int}{FL:List PV->Rs}{f x n y y0:Str}{Cc cB B:Addr}{i j k k' k1 k2 l:Nat}{ps:List Str}{z:Str}{fp px py py0 pn hp cp cp2 np p1 p2 p3 p4 pos:Pos}
theorem I8 (hn:Hf X E)(qB:xm X.K B)(hgB:Gl X y)(hmB:X.mg y=some (.ref B))(o:Ef X.prog X.w X.K X.mg X.base k' f ps (Tr cB pre F))(hr:Room k X.A)(hgf:Gl X f)(hc:X.calm=true)(hst:X.stack=X.env::X.outer)(hfr:X.env.frame=some X.env.locals)(hex:X.ex=[])(hg:Gl X x)(hm:X.mg x=some (.ref Cc))
  (hx:W.exmOne X.K (.ref cB) (.ref Cc)=some true) (ha:∀(pn:List (Addr×Obj)) (E':Value->Shared->Prop),PE { X with pn:=pn,xe:=E' } e (lE X.K G C gt)) (hk:k'<=k:=by decide)
  (hst2:starEach [e] X.env=[(false,eval e X.env)]:=by rfl)
  (hdf:(f == ("__debug__":Str))=false:=by decide) (hdx:(x == ("__debug__":Str))=false:=by decide) (hdy:(y == ("__debug__":Str))=false:=by decide) :
  PS X (.Try [.Return (some (.Call (.Name f fp) [e] [] cp)) p1] [.ExceptHandler (some (.Name x px)) none [.Raise (some (.Call (.Name y np) [.Constant (.str z) k1 p3] [] cp2)) (some (.Constant .none k2 p4)) p2] hp] [] [] pos)
   (ts X.K G (Qc E) λP ρ=>C ρ/\pre (gt ρ)/\(∀ns,F (gt ρ)=.inr ns->P.rt (.ints ns))/\∀z,F (gt ρ)=.inl z->P.er B):=by
 obtain⟨fa,fd,Fo,b,kp,mf⟩:=o.ex;refine toS (Ke (t:=tCons (lE X.K G C gt) tNil) hn qB hgB hmB ⟨fa,fd,Fo,b,kp,mf⟩ hr hk hgf hc hst hfr hex hg hm (λpn E'=>pa_cons (ha pn E') pa_nil hst2) hst2 rfl hdf hdx hdy) λB' σ H ρ O P D R c w=>⟨B',ρ,O,R,c.1,λv H1 s1 a1=>?_⟩;have a1:v=.str (gt ρ):=a1;subst a1;refine⟨gt ρ,rfl,c.2.1,λns hn H2 a s2 na e2=>?_,λz hz H2 d s2 nd ed=>⟨hx,rfl,w.er H2 B (R.same.trans (s1.trans s2)) (c.2.2.2 z hz)⟩⟩;have oa:O a=false:=by
  cases y:O a with
  |false=>rfl
  |true=>exact absurd na ((R.grow s1).dom a y)
 refine w.rt (.ref a) H2 (.ints ns) (R.same.trans (s1.trans s2)) (At.mono (mH R.hid) _ _ ⟨a,rfl,.inl (by rw[ju oa];exact e2)⟩) (c.2.2.1 ns hn)
theorem HY (hG:PB G)(o:Ef X.prog X.w X.K X.mg X.base k' f ps (xW X.K G preL FL))(hr:Room k X.A)(hgf:Gl X f)(hc:X.calm=true)(hst:X.stack=X.env::X.outer)(hfr:X.env.frame=some X.env.locals)(hex:X.ex=[])(hg:Gl X x)(hm:X.mg x=some (.ref Cc))(hN:X.N.Nodup)(hi:X.N[i]?=some n)(hj:X.N[j]?=some y)(hl0:X.N[l]?=some y0)
  (hln:X.env.scope.names.lookup n=some .local) (hly:X.env.scope.names.lookup y=some .local) (hly0:X.env.scope.names.lookup y0=some .local) (hkn:X.env.kindOf n=some .local) (hny:y≠n) (hij:i≠j)
  (ha:∀(pn:List (Addr×Obj)) (E':Value->Shared->Prop),PA { X with pn:=pn,xe:=E' } (e::es) (yJ X.K G C gs)) (hk:k'<=k:=by decide)
  (hst2:starEach (e::es) X.env=(false,eval e X.env)::starEach es X.env:=by rfl) (hpl:(backTo cp (starEach es X.env)).any (·.1)=false:=by rfl)
  (hs:swapsWith (.Call (.Name f fp) (e::es) [] cp) (some (.Name y0 py0)) p1.line X.env=pure false:=by rfl) (hs2:swapsWith (.Name n pn) (some (.Name y py)) p2.line X.env=pure false:=by rfl) (hdf:(f == ("__debug__":Str))=false:=by decide) (hdx:(x == ("__debug__":Str))=false:=by decide) (hdn:(n == ("__debug__":Str))=false:=by decide) (hdc:(n == ("__classdict__":Str))=false:=by decide) :
  PS X (.Try [.Assign [.Name y0 py0] (.Call (.Name f fp) (e::es) [] cp) p1] [.ExceptHandler (some (.Name x px)) (some n) [.Assign [.Name y py] (.Name n pn) p2] hp] [] [] pos)
   (ts X.K G Er λP ρ=>C ρ/\preL (gs ρ)/\(∀p,FL (gs ρ)=.val p->P.nx (ρ.set l (.fr p)))/\∀c,FL (gs ρ)=.err c->W.exmOne X.K (.ref c) (.ref Cc)=some true/\ρ[i]?=some .un/\(∀(m:Nat) xs ys,ρ[m]? ≠ some (Sl.o2 xs ys))/\P.nx (ρ.set j (.fr (.ob 1 ((c:Nat):Int))))):=by
 obtain⟨fa,fd,Fo,b,kp,mf⟩:=o.ex;refine toS (Kd ⟨fa,fd,Fo,b,kp,mf⟩ hr hk hgf hc hst hfr hex hg hm hN hi hj hl0 hln hly hly0 hkn hny hij ha hst2 hpl hs hs2 hdf hdx hdn hdc) λB σ H ρ O P D R c w=>⟨B,ρ,O,R,c.1,λvs H1 s1 a1=>?_⟩;refine⟨gs ρ,O,(R.grow s1).dom,a1,c.2.1,λp hp v H2 s2 a2=>w.nx _ H2 _ ⟨O,((R.grow s1).grow s2).set a2⟩ (c.2.2.1 p hp),λcc hcc H2 s2=>?_⟩;obtain⟨h0,h1,h2,h3⟩:=c.2.2.2 cc hcc;refine⟨h0,λa na=>?_⟩;have R2:=((R.grow s1).grow s2).grow (same_new na (Ar a (.ref cc)));have oa:O a=false:=by
  cases y:O a with
  |false=>rfl
  |true=>exact absurd na (((R.grow s1).grow s2).dom a y)
 have R3:=(R2.any (i:=i) h1 h2 (some (.ref a))).set (i:=j) (v:=.ref a) (p:=.ob 1 ((cc:Nat):Int)) ⟨a,rfl,hG.into _ a cc (by rw[ju oa];exact upd_same)⟩;have un:(ρ.set j (.fr (.ob 1 ((cc:Nat):Int))))[i]?=some Sl.un:=by rw[bI (a9 hij)];exact h1
 refine w.nx _ _ _ ⟨O,R3.any (i:=i) un (λm xs ys e=>?_) none⟩ h3;rcases gK e with⟨_,e,_⟩|⟨_,e⟩
 ·cases e
 ·exact h2 m xs ys e
end
end L3
namespace L2
def lR (x:Str)(n:Int):Str:=⟨(List.replicate n.toNat x.cps).foldl (· ++ ·) #[]⟩
section
variable {X:Cx}
theorem CW:OpR X (binaryOp .Mult) (λx y H Q=>∃i n,x=.str i/\y=.int n/\1<n/\n<=1000/\0<i.length/\i.length<=1000/\(lR i n).length<=sizeLine/\Q (.str (lR i n)) H):=by
 intro pins s σ H x y v u Q I rx ry h;obtain⟨i,n,rfl,rfl,n1,n2,l1,l2,hz,q⟩:=h;obtain⟨t,rfl⟩:=rx;obtain⟨t',rfl⟩:=ry;have hn:¬n<1:=by lia
 have hn2:(n == 1 || i.length == 0)=false:=by rw[Bool.or_eq_false_iff];exact⟨by rw[fN];lia,by rw[fN];lia⟩
 refine P.mul_str ?_ (λ_ _=>?_) (λ_ _=>?_) ?_
 ·rw[aQ (by lia),aQ (by lia)];rfl
 ·have h1:n*1000<=2^63-1:=by lia
  have h2:(1000:Int)<=(2^63-1) / n:=Int.le_ediv_of_mul_le (by lia) (by lia);lia
 ·have:i.length*n.toNat<=1000*1000:=Nat.mul_le_mul l2 (by lia);unfold Builtin.Str.tooLong;rw[aB];exact aQ (by lia)
 ·rw[ai hn,ai (by rw[hn2];decide)];exact⟨hz,⟨.str (lR i n),H,I.tok _,⟨_,rfl⟩,q⟩⟩
theorem yM:∀{ts:Ls} {us:Lv},Vals (ts.map V.str) us->∃l:List (Str×Tok),us=strValues l/\l.map (·.1)=ts
 |[],us,h=>by cases h;exact⟨[],rfl,rfl⟩
 |t::r,us,h=>by
  cases h with
  |cons h1 h2=>obtain⟨k,rfl⟩:=h1;obtain⟨l,rfl,e⟩:=yM h2;exact⟨(t,k)::l,rfl,by rw[bo,e]⟩
theorem LQ:MtR X "str.join" (λx xs H Q=>∃z a ts,x=.str z/\xs=[.ref a]/\Rd H a (.lst (ts.map V.str))/\JoinOk z ts=true/\Q (.str (PySem.Txt.join z ts)) H):=by intro pins s σ H x xs v us Q I rx rs h;obtain⟨z,a,ts,rfl,rfl,ha,hj,q⟩:=h;obtain⟨t,rfl⟩:=rx;obtain⟨u',rfl,w⟩:=vals1 rs;cases w;obtain⟨_,its,n,r,_,e⟩:=L3.Inv.K5 I ha;obtain⟨l,rfl,e2⟩:=yM r;exact SC.join (l:=l) ⟨_,e,rfl,_,rfl⟩ e2 hj λt' k=>⟨.str _,H,I.tok _,⟨_,rfl⟩,q⟩
end
end L2
namespace L3
open L2
theorem wV {K:Fg}{G:Gx}{H:Hp}:∀{ps:List PV} {vs:List V},jn K G H ps vs->(∀q∈ps,∃t,q=.str t)->vs=(ps.map yL).map V.str
 |[],_,h,_=>h
 |q::r,_,h,k=>by obtain⟨v,t,rfl,e,z⟩:=h;obtain⟨b,rfl⟩:=k q aj;have e:v=.str b:=e;rw[e,wV z λq hq=>k q (ae _ hq)];rfl
def Ln:PV->Prop
 | .non=>True
 | .tup _=>True
 |_=>False
section
variable {X:Cx}{G:Gx}{a b e o:Expr}{pos p apos cpos:Pos}{C Ca Cb:En->Prop}{ga:En->Str}{gi:En->Int}{g:En->PV}{gl:En->List PV}
theorem CP (ha:PE X a (lE X.K G Ca ga))(hb:PE X b (iu X.K G Cb gi)):PE X (.BinOp a .Mult b pos) (lE X.K G (λρ=>Ca ρ/\Cb ρ/\1<gi ρ/\gi ρ<=1000/\0<(ga ρ).length/\(ga ρ).length<=1000/\(lR (ga ρ) (gi ρ)).length<=sizeLine) λρ=>lR (ga ρ) (gi ρ)):=
 jz (pe_op CW ha hb) λB σ H ρ O Q R c q=>two R c.1 c.2.1 λ_ _ _ H2 s1 s2 a1 a2=>⟨_,_,a1,a2,c.2.2.1,c.2.2.2.1,c.2.2.2.2.1,c.2.2.2.2.2.1,c.2.2.2.2.2.2,q _ H2 (s1.trans s2) rfl⟩
theorem qu {z:Str}{k1:Nat}{p1:Pos}(ha:PE X a (tX X.K G C λρ=>.lst (gl ρ)))(hbase:attributeBase (.Constant (.str z) k1 p1) "join" X.env (eval (.Constant (.str z) k1 p1) X.env)=eval (.Constant (.str z) k1 p1) X.env:=by rfl)
  (hfew:((backTo cpos (starEach [a] X.env)).all (λx=>!x.1) && (backToKw cpos (keywordEach [] X.env)).all (λx=>x.1.isSome)
   && decide ([a].length+([]:List Keyword).length+(if ([]:List Keyword).isEmpty then 0 else 1)<30))=true:=by rfl)
  (hline:(apos.endLine == cpos.line)=true:=by rfl) (hs:starEach [a] X.env=(false,eval a X.env)::starEach [] X.env:=by rfl):PE X (.Call (.Attribute (.Constant (.str z) k1 p1) "join" apos) [a] [] cpos)
   (lE X.K G (λρ=>C ρ/\z.length<=1000/\(gl ρ).length<=1000/\∀q∈gl ρ,∃t,q=.str t/\t.length<=10000) λρ=>PySem.Txt.join z ((gl ρ).map yL)):=
 jz (pe_bm cL PySem.F.slot_str_join PySem.F.type_str_join LQ pe_str (pa_cons ha pa_nil hs) hbase hfew hline hs rfl) λB σ H ρ O Q R c q=>by
  refine⟨rfl,B,ρ,O,R,c.1,λv H1 s1 a1=>?_⟩;obtain⟨l,vs,rfl,r1,al⟩:=a1;have ev:=wV al λq hq=>let ⟨t,e,_⟩:=c.2.2.2 q hq;⟨t,e⟩
  subst ev;refine⟨z,l,(gl ρ).map yL,rfl,rfl,iG iU r1,?_,q _ H1 s1 rfl⟩;unfold JoinOk;rw[Bool.not_eq_true'];refine StrLaws.joinFits (B:=10000) (λy hy=>?_) ?_
  ·obtain⟨q,hq,rfl⟩:=bw.mp hy;obtain⟨t,rfl,ht⟩:=c.2.2.2 q hq;exact ht
  ·rw[ag];have h1:(gl ρ).length*z.length<=1000*1000:=Nat.mul_le_mul c.2.2.1 c.2.1;have h2:=c.2.2.1;lia
theorem yP {K:Fg}{H:Hp}{v:V}{pg:PV}(h:Ln pg)(a1:At K G H pg v):decide (v=V.non)=decide (uh pg=true):=by
 cases pg<;>first|exact h.elim|skip
 ·have a1:v=.non:=a1;rw[a1];rfl
 ·obtain⟨a,vs,rfl,_⟩:=a1;rfl
theorem KQ {k2:Nat}(he:PE X e (tX X.K G C g)):PT X (.Compare e [.IsNot] [.Constant .none k2 p] pos) (qH X.K G (λρ=>C ρ/\Ln (g ρ)) λρ=>¬uh (g ρ)=true):=
 λpins s σ H Q I ⟨B,ρ,O,R,c,q⟩=>pt_cmpR op_notN he pe_non (nomark _) pins s σ H Q I ⟨B,ρ,O,R,c.1,λv H1 s1 a1=>⟨rfl,_,rfl,by
  have z:=q H1 s1;rw[yP c.2 a1,<- fy];exact z⟩⟩
theorem Km {k2:Nat}(he:PE X e (tX X.K G C g)):PE X (.Compare e [.IsNot] [.Constant .none k2 p] pos) (yI X.K G (λρ=>C ρ/\Ln (g ρ)) λρ=>¬uh (g ρ)=true):=
 jz (pe_cmpR op_notN he pe_non (nomark _)) λB σ H ρ O Q R c q=>⟨B,ρ,O,R,c.1,λv H1 s1 a1=>⟨rfl,by
  rw[yP c.2 a1,<- fy];exact q _ H1 s1 rfl⟩⟩
end
end L3
end
namespace gY
open PySem L2 L3 PyProof.Rows FM
abbrev oY:Stmt:=top 16
theorem tW:FnScope ["numbers"] ["numbers"] (defScope oY):=⟨rfl,rfl,rfl,by decide +kernel,rfl,by decide +kernel,by decide +kernel⟩
abbrev wK:Stmt:=top 17
theorem uG:FnScope ["kind","f","numbers"] ["kind","f"] (defScope wK):=⟨rfl,rfl,rfl,by decide +kernel,rfl,by decide +kernel,by decide +kernel⟩
abbrev Dl:Stmt:=top 22
theorem kO:FnScope ["f","numbers","text","power"] ["f"] (defScope Dl):=⟨rfl,rfl,rfl,by decide +kernel,rfl,by decide +kernel,by decide +kernel⟩
abbrev pH:Stmt:=top 23
theorem lL:FnScope ["number","power","figures","ahead"] ["number","power"] (defScope pH):=⟨rfl,rfl,rfl,by decide +kernel,rfl,by decide +kernel,by decide +kernel⟩
abbrev xu:Stmt:=top 25
theorem pM:FnScope ["text","reader","sums","factor"] ["text"] (defScope xu):=⟨rfl,rfl,rfl,by decide +kernel,rfl,by decide +kernel,by decide +kernel⟩
abbrev uW:Stmt:=top 26
theorem rQ:FnScope ["sums","factor","reader","term"] ["sums","factor","reader"] (defScope uW):=⟨rfl,rfl,rfl,by decide +kernel,rfl,by decide +kernel,by decide +kernel⟩
abbrev mZ:Stmt:=top 31
theorem gP:FnScope ["content","pairs","text","g","often","polynomial"] ["content","pairs"] (defScope mZ):=⟨rfl,rfl,rfl,by decide +kernel,rfl,by decide +kernel,by decide +kernel⟩
abbrev nQ:Stmt:=top 32
theorem jm:FnScope ["text","pieces","content","pairs"] ["text"] (defScope nQ):=⟨rfl,rfl,rfl,by decide +kernel,rfl,by decide +kernel,by decide +kernel⟩
abbrev nM:Stmt:=top 33
theorem sr:FnScope ["text"] ["text"] (defScope nM):=⟨rfl,rfl,rfl,by decide +kernel,rfl,by decide +kernel,by decide +kernel⟩
abbrev o6:Stmt:=top 34
theorem vy:FnScope ["text","most_figures"] ["text","most_figures"] (defScope o6):=⟨rfl,rfl,rfl,by decide +kernel,rfl,by decide +kernel,by decide +kernel⟩
abbrev qg:Stmt:=top 35
theorem vL:FnScope ["text","most"] ["text","most"] (defScope qg):=⟨rfl,rfl,rfl,by decide +kernel,rfl,by decide +kernel,by decide +kernel⟩
abbrev rM:Stmt:=top 36
theorem pU:FnScope ["text","halves"] ["text"] (defScope rM):=⟨rfl,rfl,rfl,by decide +kernel,rfl,by decide +kernel,by decide +kernel⟩
abbrev lH:Stmt:=top 37
theorem pA:FnScope ["text"] ["text"] (defScope lH):=⟨rfl,rfl,rfl,by decide +kernel,rfl,by decide +kernel,by decide +kernel⟩
abbrev pJ:Stmt:=top 38
theorem o8:FnScope ["text","often"] ["text"] (defScope pJ):=⟨rfl,rfl,rfl,by decide +kernel,rfl,by decide +kernel,by decide +kernel⟩
abbrev wD:Stmt:=top 40
theorem BV:FnScope ["_law_script","_law_k"] ["_law_script","_law_k"] (defScope wD):=⟨rfl,rfl,rfl,by decide +kernel,rfl,by decide +kernel,by decide +kernel⟩
abbrev JG:Stmt:=top 41
theorem tK:FnScope ["_law_number","_law_k","_law_tail"] ["_law_number","_law_k"] (defScope JG):=⟨rfl,rfl,rfl,by decide +kernel,rfl,by decide +kernel,by decide +kernel⟩
abbrev rY:Stmt:=top 42
theorem jJ:FnScope ["_law_row","_law_text","_law_k"] ["_law_row"] (defScope rY):=⟨rfl,rfl,rfl,by decide +kernel,rfl,by decide +kernel,by decide +kernel⟩
abbrev wW:Stmt:=top 43
theorem jP:FnScope ["_law_content","_law_pairs","_law_text","_law_g","_law_often"] ["_law_content","_law_pairs"] (defScope wW):=⟨rfl,rfl,rfl,by decide +kernel,rfl,by decide +kernel,by decide +kernel⟩
abbrev rG:Stmt:=top 44
theorem qp:FnScope ["_law_cell","_law_way"] ["_law_cell"] (defScope rG):=⟨rfl,rfl,rfl,by decide +kernel,rfl,by decide +kernel,by decide +kernel⟩
abbrev uK:Stmt:=top 45
theorem yR:FnScope ["_law_cell"] ["_law_cell"] (defScope uK):=⟨rfl,rfl,rfl,by decide +kernel,rfl,by decide +kernel,by decide +kernel⟩
abbrev Hk:Stmt:=top 46
theorem tE:FnScope ["_law_script","_law_k","_law_some","_law_shift","_law_g"] ["_law_script","_law_k"] (defScope Hk):=⟨rfl,rfl,rfl,by decide +kernel,rfl,by decide +kernel,by decide +kernel⟩
abbrev zO:Stmt:=top 47
theorem je:FnScope ["_law_script","_law_found","_law_size","_law_k","_law_g","_law_often","_law_piece"] ["_law_script"] (defScope zO):=⟨rfl,rfl,rfl,by decide +kernel,rfl,by decide +kernel,by decide +kernel⟩
abbrev rF:Stmt:=top 48
theorem jA:FnScope ["_law_cell","_law_some"] ["_law_cell"] (defScope rF):=⟨rfl,rfl,rfl,by decide +kernel,rfl,by decide +kernel,by decide +kernel⟩
abbrev oZ:Stmt:=top 49
theorem nA:FnScope ["_law_cell","_law_some"] ["_law_cell"] (defScope oZ):=⟨rfl,rfl,rfl,by decide +kernel,rfl,by decide +kernel,by decide +kernel⟩
abbrev rT:Stmt:=top 50
theorem xq:FnScope ["_law_cell"] ["_law_cell"] (defScope rT):=⟨rfl,rfl,rfl,by decide +kernel,rfl,by decide +kernel,by decide +kernel⟩
abbrev wG:Stmt:=top 51
theorem o9:FnScope ["_law_text","_law_cell","_law_some","_law_at"] ["_law_text","_law_cell"] (defScope wG):=⟨rfl,rfl,rfl,by decide +kernel,rfl,by decide +kernel,by decide +kernel⟩
abbrev uJ:Stmt:=top 52
theorem zr:FnScope ["_law_kept"] ["_law_kept"] (defScope uJ):=⟨rfl,rfl,rfl,by decide +kernel,rfl,by decide +kernel,by decide +kernel⟩
abbrev zH:Stmt:=top 53
theorem oJ:FnScope ["_law_text","_law_kept","_law_found","e"] ["_law_text"] (defScope zH):=⟨rfl,rfl,rfl,by decide +kernel,rfl,by decide +kernel,by decide +kernel⟩
abbrev zT:Stmt:=top 54
theorem Ep:FnScope ["_law_found","_law_text"] ["_law_found","_law_text"] (defScope zT):=⟨rfl,rfl,rfl,by decide +kernel,rfl,by decide +kernel,by decide +kernel⟩
abbrev v6:Stmt:=top 55
theorem jq:FnScope ["_law_script","_law_content","_law_pieces_here","_law_text","_law_cell","_law_at","_law_way","_law_ahead","_law_odd","_law_found"] ["_law_script"] (defScope v6):=⟨rfl,rfl,rfl,by decide +kernel,rfl,by decide +kernel,by decide +kernel⟩
abbrev nq:Stmt:=inClass (top 11) 0
theorem sU:FnScope ["self","place"] ["self","place"] (defScope nq):=⟨rfl,rfl,rfl,by decide +kernel,rfl,by decide +kernel,by decide +kernel⟩
abbrev rP:Stmt:=inClass (top 13) 0
theorem yc:FnScope ["self","size"] ["self","size"] (defScope rP):=⟨rfl,rfl,rfl,by decide +kernel,rfl,by decide +kernel,by decide +kernel⟩
abbrev oO:Stmt:=inClass (top 14) 0
theorem uI:FnScope ["self"] ["self"] (defScope oO):=⟨rfl,rfl,rfl,by decide +kernel,rfl,by decide +kernel,by decide +kernel⟩
abbrev nR:Stmt:=inClass (top 14) 1
theorem sO:FnScope ["self","number"] ["self","number"] (defScope nR):=⟨rfl,rfl,rfl,by decide +kernel,rfl,by decide +kernel,by decide +kernel⟩
abbrev oU:Stmt:=inClass (top 24) 0
theorem uT:FnScope ["self","text"] ["self","text"] (defScope oU):=⟨rfl,rfl,rfl,by decide +kernel,rfl,by decide +kernel,by decide +kernel⟩
abbrev m6:Stmt:=inClass (top 24) 1
theorem qR:FnScope ["self"] ["self"] (defScope m6):=⟨rfl,rfl,rfl,by decide +kernel,rfl,by decide +kernel,by decide +kernel⟩
abbrev mY:Stmt:=inClass (top 24) 2
theorem rB:FnScope ["self","signs"] ["self","signs"] (defScope mY):=⟨rfl,rfl,rfl,by decide +kernel,rfl,by decide +kernel,by decide +kernel⟩
abbrev nU:Stmt:=inClass (top 24) 3
theorem sJ:FnScope ["self","signs"] ["self","signs"] (defScope nU):=⟨rfl,rfl,rfl,by decide +kernel,rfl,by decide +kernel,by decide +kernel⟩
abbrev jR:Stmt:=inClass (top 24) 4
theorem ni:FnScope ["self"] ["self"] (defScope jR):=⟨rfl,rfl,rfl,by decide +kernel,rfl,by decide +kernel,by decide +kernel⟩
abbrev j6:Stmt:=inClass (top 24) 5
theorem jQ:FnScope ["self","factor"] ["self"] (defScope j6):=⟨rfl,rfl,rfl,by decide +kernel,rfl,by decide +kernel,by decide +kernel⟩
abbrev jM:Stmt:=inClass (top 24) 6
theorem iI:FnScope ["self","figures"] ["self"] (defScope jM):=⟨rfl,rfl,rfl,by decide +kernel,rfl,by decide +kernel,by decide +kernel⟩
abbrev jT:Stmt:=inClass (top 24) 7
theorem iR:FnScope ["self","power"] ["self"] (defScope jT):=⟨rfl,rfl,rfl,by decide +kernel,rfl,by decide +kernel,by decide +kernel⟩
abbrev iD:Stmt:=inClass (top 24) 8
theorem iY:FnScope ["self","number"] ["self"] (defScope iD):=⟨rfl,rfl,rfl,by decide +kernel,rfl,by decide +kernel,by decide +kernel⟩
structure Top (K:Fg)(mg:Mg)(cFE:Addr)(cBP:Addr)(cBT:Addr)(cBA:Addr)(cBL:Addr)(cNO:Addr)(cHP:Addr)(cNW:Addr)(cNP:Addr)(cNN:Addr)(cK:Addr)(cW:Addr)(cRd:Addr):Prop where
 vJ:lO K mg "cut_noughts" oY ["numbers"]
 Gj:lO K mg "trimmed" wK ["kind","f"]
 Ku:lO K mg "shown" Dl ["f"]
 xZ:lO K mg "term_shown" pH ["number","power"]
 NP:lO K mg "read" xu ["text"]
 Ce:lO K mg "add_term" uW ["sums","factor","reader"]
 sI:lO K mg "product_shown" mZ ["content","pairs"]
 uq:lO K mg "product_read" nQ ["text"]
 vm:lO K mg "content_read" nM ["text"]
 vQ:lO K mg "number_read" o6 ["text","most_figures"]
 xJ:lO K mg "is_figures" qg ["text","most"]
 Al:lO K mg "pair_read" rM ["text"]
 pX:lO K mg "polynomial_read" lH ["text"]
 yz:lO K mg "often_read" pJ ["text"]
 Ft:lO K mg "_law_cell_at" wD ["_law_script","_law_k"]
 Oe:lO K mg "_law_term" JG ["_law_number","_law_k"]
 Be:lO K mg "_law_shown" rY ["_law_row"]
 Gw:lO K mg "_law_product" wW ["_law_content","_law_pairs"]
 zJ:lO K mg "_law_number_by" rG ["_law_cell"]
 CV:lO K mg "_law_often_by" uK ["_law_cell"]
 Pg:lO K mg "_law_pair" Hk ["_law_script","_law_k"]
 Ia:lO K mg "_law_pieces" zO ["_law_script"]
 Ad:lO K mg "_law_odd_piece" rF ["_law_cell"]
 vW:lO K mg "_law_odd_content" oZ ["_law_cell"]
 yN:lO K mg "_law_odd_joint" rT ["_law_cell"]
 Gi:lO K mg "_law_changed" wG ["_law_text","_law_cell"]
 Bt:lO K mg "_law_no_other" uJ ["_law_kept"]
 Jj:lO K mg "_law_answer" zH ["_law_text"]
 Hu:lO K mg "_law_writes" zT ["_law_found","_law_text"]
 kZ:mg "len"=none
 tV:mg "range"=none
 gM:mg "isinstance"=none
 uU:mg "int"=none
 qw:mg "str"=none
 GK:mg "abs"=none
 MJ:mg "min"=none
 CT:mg "reversed"=none
 Rz:mg "all"=none
 K3:mg "tuple"=none
 xx:mg "ValueError"=none
 uz:∃tk,mg "MOST_FIGURES"=some (.int 100 tk)
 m7:∃tk,mg "HIGHEST_POWER"=some (.int 40 tk)
 yC:∃tk,mg "MOST_PAIRS"=some (.int 24 tk)
 qD:∃tk,mg "MOST_OFTEN"=some (.int 40 tk)
 jH:∃tk,mg "MOST_CONTENT_FIGURES"=some (.int 100 tk)
 jO:∃tk,mg "FIGURES"=some (.str "0123456789" tk)
 wY:W.kitOne K (.type "tuple") (.type "tuple")=some true
 Eb:W.kitOne K (.ref cBP) (.ref cBP)=some true
 Eh:W.kitOne K (.ref cBP) (.type "ValueError")=some true
 rO:W.kitOne K (.ref cBP) (.ref cBA)=some false
 qx:W.kitOne K (.ref cBP) (.ref cBL)=some false
 rN:W.kitOne K (.ref cBP) (.ref cNO)=some false
 pP:W.kitOne K (.ref cBP) (.ref cBT)=some false
 o7:W.kitOne K (.ref cBP) (.ref cHP)=some false
 pW:W.kitOne K (.ref cBP) (.ref cNW)=some false
 qi:W.kitOne K (.ref cBP) (.ref cNP)=some false
 rK:W.kitOne K (.ref cBP) (.ref cNN)=some false
 mQ:mg "ForgeError"=some (.ref cFE)
 yE:QV K cFE
 jd:mg "BadProduct"=some (.ref cBP)
 kj:xm K cBP
 gU:Fb K cBP
 ou:mg "BadText"=some (.ref cBT)
 qY:NoAttr K cBT "place"
 z9:mg "BadAsk"=some (.ref cBA)
 wu:mg "BadLift"=some (.ref cBL)
 Am:mg "NoOver"=some (.ref cNO)
 ur:mg "HasParts"=some (.ref cHP)
 wO:mg "NoPower"=some (.ref cNW)
 wH:mg "NoPrime"=some (.ref cNP)
 Az:mg "Nought"=some (.ref cNN)
 Jd:mg "Kind"=some (.ref cK)
 yS:mg "Wholes"=some (.ref cW)
 wk:Cls K cW
 u9:NoAttr K cW "size"
 z8:mg "Reader"=some (.ref cRd)
 gG:Cls K cRd
 jc:NoAttr K cRd "text"
 gO:NoAttr K cRd "place"
 Te:W.exmOne K (.ref cBP) (.ref cFE)=some true
 Ti:W.exmOne K (.ref cBT) (.ref cBT)=some true
 ue:∃f fd,Fun K "__init__" "BadText.__init__" nq f fd/\Binds K fd ["self","place"] []/\vB K cBT cFE f
 yW:∃f fd,Fun K "__init__" "Kind.__init__" rP f fd/\Binds K fd ["self","size"] []/\DP K cK "__init__" f
 vP:∃f fd,Fun K "__init__" "Wholes.__init__" oO f fd/\Binds K fd ["self"] []/\Mk K cW f
 uw:∃f fd,Fun K "plain" "Wholes.plain" nR f fd/\Binds K fd ["self","number"] []/\Meth K cW "plain" f
 vU:∃f fd,Fun K "__init__" "Reader.__init__" oU f fd/\Binds K fd ["self","text"] []/\Mk K cRd f
 sW:∃f fd,Fun K "at_end" "Reader.at_end" m6 f fd/\Binds K fd ["self"] []/\Meth K cRd "at_end" f
 sE:∃f fd,Fun K "stands" "Reader.stands" mY f fd/\Binds K fd ["self","signs"] []/\Meth K cRd "stands" f
 uA:∃f fd,Fun K "taken" "Reader.taken" nU f fd/\Binds K fd ["self","signs"] []/\Meth K cRd "taken" f
 nj:∃f fd,Fun K "skip_blanks" "Reader.skip_blanks" jR f fd/\Binds K fd ["self"] []/\Meth K cRd "skip_blanks" f
 oK:∃f fd,Fun K "taken_sign" "Reader.taken_sign" j6 f fd/\Binds K fd ["self"] []/\Meth K cRd "taken_sign" f
 m9:∃f fd,Fun K "taken_number" "Reader.taken_number" jM f fd/\Binds K fd ["self"] []/\Meth K cRd "taken_number" f
 nu:∃f fd,Fun K "taken_power" "Reader.taken_power" jT f fd/\Binds K fd ["self"] []/\Meth K cRd "taken_power" f
 oN:∃f fd,Fun K "taken_term" "Reader.taken_term" iD f fd/\Binds K fd ["self"] []/\Meth K cRd "taken_term" f
section
variable {w:World}{K:Fg}{h:Heap}{mg:Mg}{fa f C:Addr}{od an:Option Addr}{sl:Array (Option Value)}{oc kV dc pm cd ct:Value}{x q:Str}{st:Stmt}{ps:List Str}{cFE:Addr}{cBP:Addr}{cBT:Addr}{cBA:Addr}{cBL:Addr}{cNO:Addr}{cHP:Addr}{cNW:Addr}{cNP:Addr}{cNN:Addr}{cK:Addr}{cW:Addr}{cRd:Addr}
theorem Ry (X:K.In h)(G:h.Ns mainGlobals mg)(a:W.nsIn K mainGlobals x=some (some (.ref f)))(l:K.lookup f=some ⟨oc,od,.func (W.fnOf x x (defArgs st) (defBody st) (defScope st) .none kV dc pm an cd ct),sl⟩)(c:W.codeIn K cd x=true)(k:W.keepIn K (.ref f)=true)(b:∀(kV dc pm:Value) (an:Option Addr) (cd ct:Value) (us:Lv),us.length=ps.length->bindArgs (W.fnOf x x (defArgs st) (defBody st) (defScope st) .none kV dc pm an cd ct) ⟨us,[]⟩=pure (ps.zip us)):lO K mg x st ps:=.mk' (fun_mk l c k) ((fun_mk l c k).binds b) (bu X G a)
theorem QS {v:Int}{tk:Tok}(X:K.In h)(G:h.Ns mainGlobals mg)(a:W.nsIn K mainGlobals x=some (some (.int v tk))):∃tk,mg x=some (.int v tk):=⟨_,bu X G a⟩
theorem Rp {v:Str}{tk:Tok}(X:K.In h)(G:h.Ns mainGlobals mg)(a:W.nsIn K mainGlobals x=some (some (.str v tk))):∃tk,mg x=some (.str v tk):=⟨_,bu X G a⟩
theorem QQ {B:Addr}{nm q2 N bs sn sub ab col dcl k0 k1 k2 k3 k5}(o:K.lookup C=some (excClassObj nm q2 C N bs (qy C B).tail true sn sub ab col dcl k0 k1 k2 k3 k5 "ValueError.__new__"))(tl:W.tailIn K Qf (qy C B).tail=true)(sa:W.findIn K (.ref C) "__setattr__"=some (some (.builtin "object.__setattr__")))(g:W.findIn K (.ref C) "__init__"=some (some (.ref f)))(l:K.lookup f=some ⟨oc,od,.func (W.fnOf x q (defArgs st) (defBody st) (defScope st) .none kV dc pm an cd ct),sl⟩)(c:W.codeIn K cd q=true)(k:W.keepIn K (.ref f)=true)(n:W.typeIn K (.ref f)=some (.type "function"))(kc:W.keepIn K (.ref C)=true)(b:∀(kV dc pm:Value) (an:Option Addr) (cd ct:Value) (us:Lv),us.length=ps.length->bindArgs (W.fnOf x q (defArgs st) (defBody st) (defScope st) .none kV dc pm an cd ct) ⟨us,[]⟩=pure (ps.zip us)):∃f fd,Fun K x q st f fd/\Binds K fd ps []/\vB K C B f:=⟨_,_,fun_mk l c k,(fun_mk l c k).binds b,⟨_,_,_,_,_,_,_,_,_,_,_,_,_,_,o⟩,tl,sa,g,n,kc⟩
theorem Oi {C0:Addr}(g0:W.findIn K (.ref C0) x=some (some (.ref f)))(l:K.lookup f=some ⟨oc,od,.func (W.fnOf x q (defArgs st) (defBody st) (defScope st) .none kV dc pm an cd ct),sl⟩)(c:W.codeIn K cd q=true)(k:W.keepIn K (.ref f)=true)(n:W.isFn K (.ref f)=true)(b:∀(kV dc pm:Value) (an:Option Addr) (cd ct:Value) (us:Lv),us.length=ps.length->bindArgs (W.fnOf x q (defArgs st) (defBody st) (defScope st) .none kV dc pm an cd ct) ⟨us,[]⟩=pure (ps.zip us)):∃f fd,Fun K x q st f fd/\Binds K fd ps []/\Meth K C0 x f:=⟨_,_,fun_mk l c k,(fun_mk l c k).binds b,⟨g0,n,k⟩⟩
theorem R0 (g:W.findIn K (.ref C) "__init__"=some (some (.ref f)))(l:K.lookup f=some ⟨oc,od,.func (W.fnOf x q (defArgs st) (defBody st) (defScope st) .none kV dc pm an cd ct),sl⟩)(c:W.codeIn K cd q=true)(k:W.keepIn K (.ref f)=true)(m:W.makesIn K C=true)(n:W.isFn K (.ref f)=true)(kc:W.keepIn K (.ref C)=true)(b:∀(kV dc pm:Value) (an:Option Addr) (cd ct:Value) (us:Lv),us.length=ps.length->bindArgs (W.fnOf x q (defArgs st) (defBody st) (defScope st) .none kV dc pm an cd ct) ⟨us,[]⟩=pure (ps.zip us)):∃f fd,Fun K x q st f fd/\Binds K fd ps []/\Mk K C f:=⟨_,_,fun_mk l c k,(fun_mk l c k).binds b,m,g,n,kc⟩
theorem QL (g:W.findCls K (.ref C) (.type "type") "__init__"=some (.val (.ref f)))(l:K.lookup f=some ⟨oc,od,.func (W.fnOf x q (defArgs st) (defBody st) (defScope st) .none kV dc pm an cd ct),sl⟩)(c:W.codeIn K cd q=true)(k:W.keepIn K (.ref f)=true)(m:W.specialIn K (.ref C) "__getattribute__"=some (some (.builtin "type.__getattribute__")))(n:W.readsIn K C (.type "type")=true)(b:∀(kV dc pm:Value) (an:Option Addr) (cd ct:Value) (us:Lv),us.length=ps.length->bindArgs (W.fnOf x q (defArgs st) (defBody st) (defScope st) .none kV dc pm an cd ct) ⟨us,[]⟩=pure (ps.zip us)):∃f fd,Fun K x q st f fd/\Binds K fd ps []/\DP K C "__init__" f:=⟨_,_,fun_mk l c k,(fun_mk l c k).binds b,m,n,g,k⟩
theorem RJ (h:W.findIn K (.ref C) x=some none):NoAttr K C x:=h
theorem QT (h:W.excIn K C Qf "ValueError.__new__"=true):xm K C:=h
def T3:Prop:=∀{P:Program} {w:World} {K:Fg} {mg:Mg} {base:Heap} {cFE:Addr} {cBP:Addr} {cBT:Addr} {cBA:Addr} {cBL:Addr} {cNO:Addr} {cHP:Addr} {cNW:Addr} {cNP:Addr} {cNN:Addr} {cK:Addr} {cW:Addr} {cRd:Addr},Top K mg cFE cBP cBT cBA cBL cNO cHP cNW cNP cNN cK cW cRd->∀{f:Addr} {fd:FuncData},Fun K "law" "law" v6 f fd->FnOk P w K mg base CX0 14 f fd ["_law_script"] (qK K)
theorem am {r:W.OpenLaw}(AM:T3)(X:K.In h)(G:h.Ns mainGlobals mg)(hfa:mg "law"=some (.ref fa))(T:Top K mg cFE cBP cBT cBA cBL cNO cHP cNW cNP cNN cK cW cRd)(a:W.nsIn K mainGlobals "law"=some (some (.ref f)))(l:K.lookup f=some ⟨oc,od,.func (W.fnOf "law" "law" (defArgs v6) (defBody v6) (defScope v6) .none kV dc pm an cd ct),sl⟩)(c:W.codeIn K cd "law"=true)(k:W.keepIn K (.ref f)=true):∃fd:FuncData,(∀(s:Shared) (v:Value),BindsTo s fd ⟨[v],[]⟩ [("_law_script",v)])/\∀base:Heap,K.In base->base.Ns mainGlobals mg->FnOk r.prog w K mg base CX0 14 fa fd ["_law_script"] (qK K):=by have e:=hfa.symm.trans (bu X G a);cases e;exact⟨_,λs v=>.of_eq rfl,λbase _ _=>AM T (fun_mk l c k)⟩
theorem Ur {Q:List Value->Prop}(h:∀a,Q [a]):∀us:List Value,us.length=1->Q us:=λus hl=>match us,hl with | [a],_=>h a
theorem Ua {Q:List Value->Prop}(h:∀a b,Q [a,b]):∀us:List Value,us.length=2->Q us:=λus hl=>match us,hl with | [a,b],_=>h a b
theorem Ue {Q:List Value->Prop}(h:∀a b c,Q [a,b,c]):∀us:List Value,us.length=3->Q us:=λus hl=>match us,hl with | [a,b,c],_=>h a b c
end
theorem walk {l:W.OpenLaw}{q:Program}{loose:Ls}{XP:(Str->Option Value)->Heap->Prop}{YP:World->Heap->Prop}{d:DefRec}{K:Params->Fg}(hn:l.most=some 63)(hdf:d.params.defaults=[])
  (hY:∀(w:World) (h:Heap),YP w h->(K w.params).In h) (hL:∀(w:World) (h:Heap),YP w h->Aw (K w.params) h)
  (F:∀(w:World) (mg:Mg) (fa:Addr) (h:Heap),(K w.params).In h->h.Ns mainGlobals mg->mg d.name=some (.ref fa) ->
   ∃fd:FuncData,(∀(s:Shared) (u:Value),BindsTo s fd ⟨[u],[]⟩ [("_law_script",u)])/\∀base:Heap,(K w.params).In base->base.Ns mainGlobals mg->FnOk l.prog w (K w.params) mg base CX0 14 fa fd ["_law_script"] (qK (K w.params))) :
  W.WalkO q loose XP YP l.row.toRowW d [] (λf vs=>PySem.call f vs):=
 L2.Je (n:=63) (k:=14) (x:="_law_script") (CX:=λ_=>CX0) (sp:=λw=>qK (K w.params)) hn (by decide) hdf ⟨rfl,by decide,by decide⟩ hY F hL (λ_ _ a ns hl hb hS=>⟨a,ns,rfl,hS,hl,hb,λ_=>rfl⟩) λ_ _ _ _ _ z=>z
end gY
section
local macro_rules | `(tactic| o_head $H) => `(tactic| (refine PySem.W.holds_open (q := gY.view) (loose := []) (Xt := fun s => PySem.W.xlAt gY.view [] s && PySem.W.recOk (PySem.W.RowW.records PySem.Challenge.rw_factorforge_k83_product_refused.row.toRowW) s) (XP := PySem.W.XL gY.view []) (Yf := PySem.W.Hook.obs $H) (Ya := PySem.W.Hook.val $H) (YP := PySem.W.Hook.says $H) (N := 20000) ?hl (PySem.W.Hook.of $H) (PySem.W.Hook.keeps $H) (fun s e => PySem.W.xl_of s (Bool.and_eq_true_iff.mp e).1) PySem.W.XL.keeps (by rfl) (by rfl) (by rfl) (fun s e => PySem.W.recFacts_of (Bool.and_eq_true_iff.mp e).2) (by rfl) (by first | assumption | decide +kernel) (by decide +kernel) ⟨rfl, rfl, rfl, rfl, rfl, by decide +kernel⟩ ?hw ?hc; (case hl => (intro w; exact gY.fin w (by kernel_rfl)))))
local macro_rules | `(tactic| walk_at "bnd") => `(tactic| (first | exact fun _ _ _ _ _ _ => gY.Ur fun _ => rfl | exact fun _ _ _ _ _ _ => gY.Ua fun _ _ => rfl | exact fun _ _ _ _ _ _ => gY.Ue fun _ _ _ => rfl))
open PySem PySem.W PyProof.Rows
set_option maxRecDepth 100000 in
set_option maxHeartbeats 0 in
theorem gY.pre (AM:gY.T3):PySem.Challenge.rw_factorforge_k83_product_refused.Holds:=by
 w_on;o_law;k_head;(rotate_left;rotate_right);(· w_witness2)
 k_fill
 refine gY.walk (l:=PySem.Challenge.rw_factorforge_k83_product_refused) rfl rfl (λw h Y=>PySem.W.kIn_of Y) (λw h Y=>L3.FQ (by kernel_rfl)) ?F
 case F=>
  intro w mg fa h KX G hmg
  refine' gY.am AM KX G hmg ?T ?a ?l ?c ?k
  case a=>k_is
  case l=>k_is
  case c=>k_is
  case k=>k_is
  case T=>
   constructor
   case mQ=>(refine' bu KX G ?a;(case a=>k_is))
   case jd=>(refine' bu KX G ?a;(case a=>k_is))
   case ou=>(refine' bu KX G ?a;(case a=>k_is))
   case z9=>(refine' bu KX G ?a;(case a=>k_is))
   case wu=>(refine' bu KX G ?a;(case a=>k_is))
   case Am=>(refine' bu KX G ?a;(case a=>k_is))
   case ur=>(refine' bu KX G ?a;(case a=>k_is))
   case wO=>(refine' bu KX G ?a;(case a=>k_is))
   case wH=>(refine' bu KX G ?a;(case a=>k_is))
   case Az=>(refine' bu KX G ?a;(case a=>k_is))
   case Jd=>(refine' bu KX G ?a;(case a=>k_is))
   case yS=>(refine' bu KX G ?a;(case a=>k_is))
   case z8=>(refine' bu KX G ?a;(case a=>k_is))
   all_goals first|(refine' gY.Ry KX G ?a ?l ?c ?k ?b;(case a=>k_is);(case l=>k_is);(case c=>k_is);(case k=>k_is);(case b=>walk_at "bnd"))|(refine' gY.lm_mk KX G ?a ?l ?c;(case a=>k_is);(case l=>k_is);(case c=>kernel_rfl))|(refine' PySem.W.mg_none_of KX G ?a;(case a=>k_is))|(refine' gY.QS KX G ?a;(case a=>k_is))|(refine' gY.Rp KX G ?a;(case a=>k_is))|(refine' gY.QQ ?o ?tl ?sa ?g ?l ?c ?k ?n ?kc ?b;(case o=>k_is);(case g=>k_is);(case l=>k_is);(case c=>k_is);(case k=>k_is);(case n=>k_is);(case kc=>k_is);(case sa=>k_is);(case tl=>kernel_rfl);(case b=>walk_at "bnd"))|(refine' gY.Oi ?g0 ?l ?c ?k ?n ?b;(case g0=>k_is);(case l=>k_is);(case c=>k_is);(case k=>k_is);(case n=>k_is);(case b=>walk_at "bnd"))|(refine' gY.R0 ?g ?l ?c ?k ?m ?n ?kc ?b;(case g=>k_is);(case l=>k_is);(case c=>k_is);(case k=>k_is);(case m=>k_is);(case n=>k_is);(case kc=>k_is);(case b=>walk_at "bnd"))|(refine' gY.QL ?g ?l ?c ?k ?m ?n ?b;(case g=>k_is);(case l=>k_is);(case c=>k_is);(case k=>k_is);(case m=>k_is);(case n=>k_is);(case b=>walk_at "bnd"))|(refine' gY.RJ ?a;(case a=>k_is))|(refine' gY.QT ?a;(case a=>k_exc))|kit_is|kts_exm|(constructor<;>k_is)
end
namespace gY
open PySem L2 L3 PyProof.Rows FM
local macro_rules | `(tactic| walk_at "pn0") => `(tactic| first | omega | (dsimp only; omega) | (dsimp only [List.length_cons, List.length_nil]; omega) | (simp [L2.gI, L2.start] <;> omega))
local macro_rules | `(tactic| walk_at "pn1") => `(tactic| first | exact tJ | rfl | assumption | decide | decide +kernel | exact L2.tO (by decide) | exact L2.mul_okL (by decide) | exact ⟨by decide, by decide +kernel⟩ | exact ⟨by decide, by decide, by decide⟩ | walk_at "pn0" | exact L2.tO ⟨by walk_at "pn0", by walk_at "pn0"⟩ | exact L2.mul_okL ⟨by walk_at "pn0", by walk_at "pn0"⟩)
local macro_rules | `(tactic| walk_at "pn") => `(tactic| first | (refine ⟨?_, ?_⟩ <;> walk_at "pn") | walk_at "pn1" | (intro _; walk_at "pn"))
local macro_rules | `(tactic| walk_at "xs1") => `(tactic| first | exact tJ | exact (rfl : _ = some _) | exact (rfl : L3.isI _ _) | exact (rfl : L3.S9 _ _) | exact (rfl : L3.isF _ _) | exact (rfl : L3.TJ _ _) | exact (rfl : L3.Sq _ _) | exact (Or.inl rfl : L3.CQ _ _) | exact (Or.inr (Or.inl rfl) : L3.CQ _ _) | exact (Or.inr (Or.inr rfl) : L3.CQ _ _) | walk_at "pn1")
local macro_rules | `(tactic| walk_at "xs") => `(tactic| first | (refine And.intro ?_ ?_ <;> walk_at "xs") | walk_at "xs1")
section
variable {P:Program}{w:World}{K:Fg}{mg:Mg}{base:Heap}{cFE cBP cBT cBA cBL cNO cHP cNW cNP cNN cK cW cRd:Addr}
def KH (K:Fg):Sp:=λvs H Q _=>∃(p C dx:Addr) (z:Int),vs=[.ref p,.int z]/\H p=some (.ins C dx [])/\Cls K C/\NoAttr K C "size"/\Q .non (upd H p (.ins C dx [("size",.int z)]))
theorem yg (T:Top K mg cFE cBP cBT cBA cBL cNO cHP cNW cNP cNN cK cW cRd):Tu P w K mg base CX0 1 "Kind" cK "__init__" ["self","size"] (KH K):=by
 obtain⟨f,fd,F,b,c⟩:=T.yW;refine⟨f,fd,F.ok yc (λvs H Q E h=>?_) (λcdv A outer s H vs Q E hr h=>?_),b,c,T.Jd⟩
 ·obtain⟨p,C,dx,z,rfl,_⟩:=h;rfl
 obtain⟨p,C,dx,z,rfl,hp,cl,na,k⟩:=h;refine⟨_,(pss_one (ps_fld (pv 0) (iZ 1) rfl)),?_⟩;exact⟨rfl,_,rfl,p,C,dx,[],rfl,hp,cl,na,by decide,k⟩
theorem wz (T:Top K mg cFE cBP cBT cBA cBL cNO cHP cNW cNP cNN cK cW cRd):QB P w K mg base CX0 2 "Wholes" cW ["self"] (Jv cW):=by
 obtain⟨f,fd,F,b,c⟩:=T.vP;refine⟨f,fd,F.ok uI (λvs H Q E h=>?_) (λcdv A outer s H vs Q E hr h=>?_),b,c,T.yS⟩
 ·obtain⟨p,dx,rfl,_⟩:=h;rfl
 obtain⟨p,dx,rfl,hp,k⟩:=h;refine⟨_,(pss_one (ps_expr (Mj (yg T) hr pass0 (pa_cons (pv 0) (pa_cons iz pa_nil))))),?_⟩;exact⟨_,rfl,tJ,p,cW,dx,0,rfl,hp,T.wk,T.u9,k⟩
def Lh:Int->List Int->Int:=λz ns=>match ns with
 |[n]=>pl z n
 |_=>0
abbrev S8:Int->List Int->Prop:=λ_ _=>True
theorem Ib (T:Top K mg cFE cBP cBT cBA cBL cNO cHP cNW cNP cNN cK cW cRd):KM P w K mg base 1 (KW cW) "plain" 1 S8 Lh:=by
 refine⟨λH a z ka=>?_⟩;obtain⟨q0,dx,fs,e,hz,hm⟩:=ka;subst q0;refine⟨cW,dx,fs,["self","number"],e,hm "plain" (by decide +kernel),?_⟩;obtain⟨f,fd,F,b,m1⟩:=T.uw;refine⟨f,fd,F.ok sO (λvs H Q E h=>?_) (λcdv A outer s H vs Q E hr h=>?_),b,m1,T.wk⟩
 ·obtain⟨ns,hl,rfl,_⟩:=h;show(ns.map V.int).length+1=2;rw[ag,hl]
 ·obtain⟨ns,hl,rfl,_,_,k⟩:=h;obtain⟨n,rfl⟩:=Rq hl;refine⟨_,(pss_one (ps_ret (iZ 1))),?_⟩;exact⟨rfl,k⟩
def Dg:List Int->List Int->Prop:=λ_ is=>match is with
 |[k]=>0<=k
 |_=>False
def Hh:List Int->List Int->Int:=λxs is=>match is with
 |[k]=>xs.getD k.toNat 0
 |_=>0
theorem Ci (T:Top K mg cFE cBP cBT cBA cBL cNO cHP cNW cNP cNN cK cW cRd):Ok P w K mg base 1 "_law_cell_at" ["_law_script","_law_k"] (spS K 1 Dg Hh):=by
 refine lO.ok T.Ft BV (λvs H Q E h=>?_) (λf cdv A outer s H vs Q E hr h=>?_)
 ·obtain⟨a,xs,is,hl,rfl,_⟩:=h;show(is.map V.int).length+1=2;rw[ag,hl]
 obtain⟨sa,ns,is,hl,rfl,hS,hp,k⟩:=h;obtain⟨i,rfl⟩:=Rq hl;have hp:0<=i:=hp;have k:Q (.int (ns.getD i.toNat 0)) H:=k;refine⟨_,(pss_cons (Ny (Ov (iZ 1) (Oz 0 sa (ns.map V.int) T.kZ))
 (pss_one (ps_ret (Ks 0 sa ns (iZ 1) (λ_ _=>rfl))))
 pss_nil)
 (pss_one (ps_ret iz))),?_⟩
 have el:(ns.map V.int).length=ns.length:=ag _;refine⟨⟨rfl,⟨rfl,hS⟩⟩,λq=>?_,λq=>?_⟩
 ·have q:i<((ns.map V.int).length:Int):=q;refine⟨⟨rfl,rfl,hS,?_,?_⟩,?_⟩
  ·show -(ns.length:Int)<=i;lia
  ·show i<(ns.length:Int);lia
  ·show Q (.int (ns.getD (if 0<=i then i else i+ns.length).toNat 0)) H;rw[ak hp];exact k
 ·have q:¬i<((ns.map V.int).length:Int):=q;have e:ns.getD i.toNat 0=0:=by rw[gQ,cx (by lia)];rfl
  rw[e]at k;exact⟨tJ,k⟩
theorem mL (T:Top K mg cFE cBP cBT cBA cBL cNO cHP cNW cNP cNN cK cW cRd):Ok P w K mg base 1 "_law_cell_at" ["_law_script","_law_k"] (HQ K (qG cW) (L3.RG 1 Dg) λas=>Hh (Rt as) (q8 as.tail)):=QC (Ci T)
theorem Cq (h:ns≠[])(h0:ns.getD (ns.length-1) 0=0):f9 ns.dropLast=f9 ns:=by
 have e:ns=ns.dropLast++[0]:=by
  have e1:=ci h;have e2:ns.getLast h=0:=by rw[eK];rw[gQ,ap (by have:=lP h;lia)]at h0;exact h0
  rw[e2]at e1;exact e1.symm
 rw[e,mO,List.dropLast_concat]
theorem Cm (h:¬(ns≠[]/\ns.getD (ns.length-1) 0=0)):f9 ns=ns:=by
 by_cases c:ns=[]
 ·rw[c];rfl
 ·have h0:¬ns.getD (ns.length-1) 0=0:=λz=>h ⟨c,z⟩;have e1:=ci c;have e2:ns.getLast c≠0:=by rw[eK];rw[gQ,ap (by have:=lP c;lia)]at h0;exact h0
  rw[<- e1,u5 _ e2]
theorem uX (T:Top K mg cFE cBP cBT cBA cBL cNO cHP cNW cNP cNN cK cW cRd):Ok P w K mg base 1 "cut_noughts" ["numbers"] (TY (λ_=>True) f9):=by
 refine lO.ok T.vJ tW (λvs H Q E h=>?_) (λf cdv A outer s H vs Q E hr h=>?_)
 ·obtain⟨a,ns,rfl,_⟩:=h;rfl
 obtain⟨a,ns,rfl,hH,_,q⟩:=h;refine⟨_,(pss_one (ps_while cG (pw_and (pt_truth (pv 0) (λ_=>rfl)) (pw_and1 (pt_cmpR op_eq (Ly 0 (Jo iz) (λ_ _=>rfl)) iz (nomark _)))).pt
 (pss_one (ps_expr (pe_bm0 eJ PySem.F.slot_list_pop PySem.F.type_list_pop mt_pop (pv 0)))))),?_⟩
 refine⟨λm σ H'=>σ=[some (.ref a)]/\∃ms,m=ms.length/\H'=upd H a (.lst (ms.map V.int))/\f9 ms=f9 ns,⟨ns.length,rfl,ns,rfl,?_,rfl⟩,?_⟩
 ·funext b;by_cases c:b=a
  ·rw[c,upd_same,hH]
  ·rw[upd_ne c]
 rintro m σ H' ⟨rfl,ms,rfl,rfl,hm⟩;refine⟨_,rfl,_,.inl ⟨_,SqL.of upd_same,rfl⟩,?_⟩;by_cases c:ms=[]
 ·subst c;refine iteF ?_;refine iteF ?_;refine q _ (λb o hb e=>?_) ?_
  ·rw[upd_ne hb];exact e
  ·rw[upd_same,<- hm];rfl
 ·have hlen:=lP c;have e1:(!(ms.map V.int).isEmpty)=true:=by cases ms<;>simp at c ⊢
  rw[e1];refine iteT ?_;refine⟨tJ,a,ms,ms.getD (ms.length-1) 0,rfl,SqL.of upd_same,?_,?_⟩
  ·have z:=getD_at (ns:=ms) (i:=-1) (by lia) (by lia);show atI (ms.map V.int) (-1)=_;rw[z,ai (by lia)];have:(-1+(ms.length:Int)).toNat=ms.length-1:=by lia
   rw[this]
  refine⟨tJ,rfl,_,rfl,?_⟩;by_cases d:ms.getD (ms.length-1) 0=0
  ·have e2:decide (V.int (ms.getD (ms.length-1) 0)=V.int 0)=true:=aW (by rw[d]);rw[e2];refine iteT ?_;refine⟨λσ H'=>σ=[some (.ref a)]/\H'=upd H a (.lst (ms.dropLast.map V.int)),?_,?_⟩
   ·rintro σ' H' ⟨rfl,rfl⟩;refine⟨ms.dropLast.length,by rw[fz];lia,rfl,_,rfl,rfl,?_⟩;rw[<- hm];exact Cq c d
   ·refine⟨_,rfl,.inl ⟨rfl,_,SqL.of upd_same⟩,a,_,V.int (ms[ms.length-1]'(by lia)),rfl,rfl,upd_same,?_,rfl,?_⟩
    ·rw[ag,aT,ap (by lia)];rfl
    ·rw[upd_upd,List.map_dropLast]
  ·have e2:decide (V.int (ms.getD (ms.length-1) 0)=V.int 0)=false:=aQ (by intro z;exact d (by injection z));rw[e2];refine iteF ?_;refine q _ (λb o hb e=>?_) ?_
   ·rw[upd_ne hb];exact e
   ·rw[upd_same,<- hm,Cm λz=>d z.2]
theorem uy (T:Top K mg cFE cBP cBT cBA cBL cNO cHP cNW cNP cNN cK cW cRd):Ok P w K mg base 2 "trimmed" ["kind","f"] (Td K (qG cW) (λas=>∃z f,as=[.ob 0 z,.ints f]/\f.length<=1000) λas=>match as with
  |[.ob 0 z,.ints f]=>f9 (f.map (pl z))
  |_=>[]):=by
 refine T8 T.Gj uG (λas ⟨a,b,h,_⟩=>by rw[h];rfl) (λf cdv A outer s H E hr=>⟨_,(fV (La (i:=2) uG.nd rfl rfl (N':=["number","kind"]) (cap:=[some 0]) (yX rfl rfl rfl rfl ⟨⟨rfl,Or.inr (Or.inl rfl),(λz=>nomatch (show(some NameKind.cell:Option NameKind)=some NameKind.local from z)),Or.inl rfl,_,rfl,rfl⟩,tJ⟩ ⟨rfl,tJ⟩ rfl) rfl (xl 1) (λ_ _ _=>(pg_name (i:=0) (show(["number","kind"]:List Str).Nodup by decide +kernel) rfl (Or.inl rfl) (.inr rfl))) (λ_ _ _=>(GR 1 (Ib T) hr (fW (xn 0) gf))) rfl)
 (fV (Lx 2 (uX T) hr)
 (fX (G8 2)))),λas hp=>?_⟩)
 obtain⟨z,f,rfl,hf⟩:=hp;refine⟨⟨rfl,hf,λn _=>⟨rfl,⟨rfl,tJ⟩,tJ,tJ⟩⟩,λns e=>?_⟩;have e:ns=f.map (pl z):=e;refine⟨rfl,tJ,rfl,?_⟩;show f9 ns=f9 (f.map (pl z));rw[e]
inductive Cd where
 |start|sign|num (k:Nat)|zero|x|caret|one (d:Nat)|two|behind
def isF (c:Nat):Bool:=decide (48<=c) && decide (c<=57)
def Uj:Cd->Nat->Option Cd
 | .start,c=>some (if c=48 then .zero else .num 1)
 | .sign,c=>some (if c=48 then .zero else .num 1)
 | .num k,_=>if k<100 then some (.num (k+1)) else none
 | .caret,c=>some (.one (c-48))
 | .one d,c=>if (0<d/\d<4)\/(d=4/\c=48) then some .two else none
 |_,_=>none
def T9:Cd->Option Cd
 | .start=>some .start
 | .sign=>some .sign
 | .caret=>none
 |_=>some .behind
def Ug:Cd->Option Cd
 | .sign=>none
 | .caret=>none
 |_=>some .sign
def Ui:Cd->Option Cd
 | .start=>some .x
 | .sign=>some .x
 | .num _=>some .x
 | .zero=>some .x
 |_=>none
def Ul:Cd->Option Cd
 | .x=>some .caret
 |_=>none
def Sx (s:Cd)(c:Nat):Option Cd:=
 if isF c then Uj s c else if c=32 then T9 s else if c=43\/c=45 then Ug s else if c=120 then Ui s else if c=94 then Ul s else none
def RC:Cd->Bool
 | .start=>false
 | .sign=>false
 | .caret=>false
 |_=>true
def Um:Cd->List Nat->Option Nat
 |s,[]=>if RC s then none else some 0
 |s,c::r=>match Sx s c with
  |none=>some (r.length+1)
  |some s'=>Um s' r
inductive Rr (α:Type) where
 |ok (a:α) (r:List Nat)|bad (m:Nat)
def gA:List Nat->List Nat
 |[]=>[]
 |c::r=>if c=32 then gA r else c::r
def jV:Nat->List Nat->List Nat×List Nat
 |0,l=>([],l)
 |_+1,[]=>([],[])
 |m+1,c::r=>if isF c then(c::(jV m r).1,(jV m r).2) else([],c::r)
def j7:List Nat->Rr (List Nat)
 |[]=>.bad 0
 |c::r=>if isF c then(if c=48 then .ok [48] r else .ok (c::(jV 99 r).1) (jV 99 r).2) else .bad (r.length+1)
def jL:List Nat->Rr (List Nat)
 |[]=>.bad 0
 |[c]=>if isF c then .ok [c] [] else .bad 1
 |c::c'::r=>if isF c then(if c≠48/\isF c'=true/\10*(c-48)+(c'-48)<=40 then .ok [c,c'] r else .ok [c] (c'::r)) else .bad (r.length+2)
abbrev lJ:=List Nat×Option (List Nat)
def jj (ds:List Nat):List Nat->Rr lJ
 |[]=>.ok (ds,some []) []
 |c::r=>if c=94 then(match jL r with
  | .bad m=>.bad m
  | .ok ps r'=>.ok (ds,some ps) r') else .ok (ds,some []) (c::r)
def j8 (ds:List Nat):List Nat->Rr lJ
 |[]=>.ok (ds,none) []
 |c::r=>if c=120 then jj ds r else .ok (ds,none) (c::r)
def iH:List Nat->Rr lJ
 |[]=>.bad 0
 |c::r=>if c=120 then jj [] r else match j7 (c::r) with
  | .bad m=>.bad m
  | .ok ds r'=>j8 ds r'
def yF:Nat->List Nat->Except Nat (List (Bool×lJ))
 |0,_=>.ok []
 |n+1,l=>match gA l with
  |[]=>.ok []
  |c::r=>if c=43\/c=45 then(match iH (gA r) with
   | .bad m=>.error m
   | .ok t r'=>match yF n r' with
    | .error m=>.error m
    | .ok ts=>.ok ((decide (c=45),t)::ts)) else .error (r.length+1)
def Bk (g:Bool)(l:List Nat):Except Nat (List (Bool×lJ)):=match iH l with
 | .bad m=>.error m
 | .ok t r'=>match yF (r'.length+1) r' with
  | .error m=>.error m
  | .ok ts=>.ok ((g,t)::ts)
def xT (l:List Nat):Except Nat (List (Bool×lJ)):=match gA l with
 |[]=>Bk false []
 |c::r=>if c=43\/c=45 then Bk (decide (c=45)) (gA r) else Bk false (c::r)
structure Uh (s:Cd)(l:List Nat):Prop where
 e:RC s=true
 h:∀c r,l=c::r->Sx s c=Sx .behind c
theorem ux:∀{l:List Nat} {c:Nat} {r:List Nat},gA l=c::r->c≠32
 |[],_,_,h=>by cases h
 |d::l,c,r,h=>by
  unfold gA at h;split at h
  ·exact ux h
  ·rename_i q;cases h;exact q
theorem jg:∀l:List Nat,(gA l).length<=l.length
 |[]=>aw _
 |d::l=>by
  unfold gA;split
  ·exact aA (jg l) (bJ _)
  ·exact aw _
theorem z6:∀(m:Nat) (l:List Nat),(jV m l).2.length<=l.length
 |0,_=>aw _
 |_+1,[]=>aw _
 |m+1,c::r=>by
  unfold jV;split
  ·exact aA (z6 m r) (bJ _)
  ·exact aw _
theorem Ge {l ps r:List Nat}(h:jL l=.ok ps r):r.length<=l.length:=by
 unfold jL at h;split at h
 ·cases h
 ·split at h
  ·cases h;exact b6 _
  ·cases h
 ·split at h
  ·split at h
   ·cases h;exact aA (bJ _) (bJ _)
   ·cases h;exact bJ _
  ·cases h
theorem w5 {ds l r:List Nat}{t:lJ}(h:jj ds l=.ok t r):r.length<=l.length:=by
 unfold jj at h;split at h
 ·cases h;exact aw _
 ·split at h
  ·split at h
   ·cases h
   ·rename_i e;cases h;exact aA (Ge e) (bJ _)
  ·cases h;exact aw _
theorem Ez {ds l r:List Nat}{t:lJ}(h:j8 ds l=.ok t r):r.length<=l.length:=by
 unfold j8 at h;split at h
 ·cases h;exact aw _
 ·split at h
  ·exact aA (w5 h) (bJ _)
  ·cases h;exact aw _
theorem Fj {ds l r:List Nat}(h:j7 l=.ok ds r):r.length<=l.length:=by
 unfold j7 at h;split at h
 ·cases h
 ·split at h
  ·split at h
   ·cases h;exact bJ _
   ·cases h;exact aA (z6 _ _) (bJ _)
  ·cases h
theorem oF {l r:List Nat}{t:lJ}(h:iH l=.ok t r):r.length<=l.length:=by
 unfold iH at h;split at h
 ·cases h
 ·split at h
  ·exact aA (w5 h) (bJ _)
  ·split at h
   ·cases h
   ·rename_i e;exact aA (Ez h) (Fj e)
def Ay (l:List Nat):List Nat:=l.filter λc=>!(c == 32)
def Af (l:List Nat):List Nat:=l.flatMap λc=>if c=45 then[43,45] else[c]
def vN:List Nat->List (List Nat)
 |[]=>[[]]
 |c::r=>if c=43 then[]::vN r else(c::(vN r).headD [])::(vN r).tail
def vH (l:List Nat):List (List Nat):=vN (Af (Ay l))
def Mw:lJ->List Nat
 |(ds,none)=>ds
 |(ds,some [])=>ds++[120]
 |(ds,some (p::ps))=>ds++120::94::p::ps
def Rc (t:Bool×lJ):List Nat:=if t.1 then 45::Mw t.2 else Mw t.2
def fv (ds:List Nat):Nat:=ds.foldl (λa c=>10*a+(c-48)) 0
structure m5 (t:lJ):Prop where
 jV:∀c∈t.1,isF c=true
 few:t.1.length<=100
 some:t.1=[]->t.2≠none
 pow:∀ps,t.2=.some ps->(∀c∈ps,isF c=true)/\ps.length<=2/\fv ps<=40
theorem iJ {c:Nat}:isF c=true ↔ 48<=c/\c<=57:=by simp[isF]
theorem DK:∀(m:Nat) (l:List Nat),l=(jV m l).1++(jV m l).2/\(∀c∈(jV m l).1,isF c=true)/\(jV m l).1.length<=m
 |0,_=>⟨rfl,(λ_ h=>by cases h),aw _⟩
 |_+1,[]=>⟨rfl,(λ_ h=>by cases h),b6 _⟩
 |m+1,c::r=>by
  obtain⟨h1,h2,h3⟩:=DK m r;unfold jV;split
  ·rename_i q;refine⟨by rw[bj,<- h1],λd hd=>?_,Nat.succ_le_succ h3⟩;rcases aq.mp hd with rfl|hd
   ·exact q
   ·exact h2 d hd
  ·exact⟨rfl,(λ_ h=>by cases h),b6 _⟩
theorem zL {l ps r:List Nat}(h:jL l=.ok ps r):l=ps++r/\ps≠[]/\(∀c∈ps,isF c=true)/\ps.length<=2/\fv ps<=40:=by
 have one:∀c,isF c=true->fv [c]<=40:=λc q=>by have:=iJ.mp q;show 10*0+(c-48)<=40;lia
 unfold jL at h;split at h
 ·cases h
 ·split at h
  ·rename_i q;cases h;exact⟨rfl,(λz=>nomatch z),(λd hd=>by rw[aN.mp hd];exact q),bJ _,one _ q⟩
  ·cases h
 ·split at h
  ·rename_i q;split at h
   ·rename_i z;cases h;refine⟨rfl,(λz=>nomatch z),λd hd=>?_,aw _,?_⟩
    ·rcases aq.mp hd with rfl|hd
     ·exact q
     ·rw[aN.mp hd];exact z.2.1
    ·have:=z.2.2;unfold fv;simp only[dL,List.foldl_nil];lia
   ·cases h;exact⟨rfl,(λz=>nomatch z),(λd hd=>by rw[aN.mp hd];exact q),bJ _,one _ q⟩
  ·cases h
theorem za {ds l r:List Nat}{t:lJ}(h:jj ds l=.ok t r)(hd:∀c∈ds,isF c=true)(hl:ds.length<=100):ds++120::l=Mw t++r/\m5 t:=by
 have e0:m5 (ds,some []):=⟨hd,hl,λ_=>(λz=>nomatch z),λps e=>by cases e;exact⟨(λ_ h=>by cases h),by decide,by decide⟩⟩;unfold jj at h;split at h
 ·cases h;exact⟨by show _=ds++[120]++[];rw[aU],e0⟩
 ·split at h
  ·rename_i z;split at h
   ·cases h
   ·rename_i ps r' e;cases h;obtain⟨h1,h2,h3⟩:=zL e;cases ps with
    |nil=>exact absurd rfl h2
    |cons p ps=>refine⟨?_,hd,hl,λ_=>(λz=>nomatch z),λps' e=>by cases e;exact h3⟩;show _=ds++120::94::p::ps++r;rw[z,h1];simp
  ·cases h;exact⟨by show _=ds++[120]++_;simp,e0⟩
theorem Iz {ds l r:List Nat}{t:lJ}(h:j8 ds l=.ok t r)(hd:∀c∈ds,isF c=true)(hl:ds.length<=100)(hn:ds≠[]):ds++l=Mw t++r/\m5 t:=by
 have e0:m5 (ds,none):=⟨hd,hl,λz=>absurd z hn,λps e=>nomatch e⟩;unfold j8 at h;split at h
 ·cases h;exact⟨rfl,e0⟩
 ·split at h
  ·rename_i z;rw[z];exact za h hd hl
  ·cases h;exact⟨rfl,e0⟩
theorem Aj {ds l r:List Nat}(h:j7 l=.ok ds r):l=ds++r/\ds≠[]/\(∀c∈ds,isF c=true)/\ds.length<=100:=by
 unfold j7 at h;split at h
 ·cases h
 ·rename_i c l';split at h
  ·rename_i q;split at h
   ·rename_i z;cases h;exact⟨by rw[z];rfl,(λz=>nomatch z),(λd hd=>by rw[aN.mp hd];decide),by decide⟩
   ·cases h;obtain⟨h1,h2,h3⟩:=DK 99 l';refine⟨by rw[bj,<- h1],(λz=>nomatch z),λd hd=>?_,Nat.succ_le_succ h3⟩;rcases aq.mp hd with rfl|hd
    ·exact q
    ·exact h2 d hd
  ·cases h
theorem uO {l r:List Nat}{t:lJ}(h:iH l=.ok t r):l=Mw t++r/\m5 t:=by
 unfold iH at h;split at h
 ·cases h
 ·split at h
  ·rename_i z;rw[z];exact za (ds:=[]) h (λ_ h=>by cases h) (b6 _)
  ·split at h
   ·cases h
   ·rename_i ds r' e;obtain⟨h1,h2,h3,h4⟩:=Aj e;rw[h1];exact Iz h h3 h4 h2
def Plain (w:List Nat):Prop:=∀c∈w,c≠32/\c≠43/\c≠45
theorem zE {t:lJ}(g:m5 t):Plain (Mw t):=by
 have hf:∀c,isF c=true->c≠32/\c≠43/\c≠45:=λc q=>by have:=iJ.mp q;lia
 obtain⟨ds,o⟩:=t;intro c hc
 match o with
 |none=>exact hf c (g.jV c hc)
 |some []=>
  rcases aV.mp hc with q|q
  ·exact hf c (g.jV c q)
  ·rw[aN.mp q];decide
 |some (p::ps)=>
  rcases aV.mp hc with q|q
  ·exact hf c (g.jV c q)
  ·rcases aq.mp q with rfl|q
   ·decide
   ·rcases aq.mp q with rfl|q
    ·decide
    ·exact hf c ((g.pow _ rfl).1 c q)
theorem Kw (l:List Nat):vN l≠[]:=by
 cases l with
 |nil=>exact λz=>nomatch z
 |cons c r=>unfold vN;split<;>exact λz=>nomatch z
theorem qJ:∀(w r:List Nat),Plain w->vH (w++r)=(w++(vH r).headD [])::(vH r).tail
 |[],r,_=>by
  cases e:vH r with
  |nil=>exact absurd e (Kw _)
  |cons p ps=>exact e
 |c::w,r,h=>by
  obtain⟨h1,h2,h3⟩:=h c aj;have ih:=qJ w r λd hd=>h d (ae _ hd);have e1:Ay (c::w++r)=c::Ay (w++r):=by unfold Ay;rw[bj,List.filter_cons_of_pos (by simpa using h1)]
  have e2:∀l,Af (c::l)=c::Af l:=λl=>by unfold Af;rw[List.flatMap_cons,ai h3];rfl
  unfold vH at ih ⊢;rw[e1,e2,vN,ai h2,ih];rfl
theorem Qk (r:List Nat):vH (32::r)=vH r:=rfl
theorem nW:∀l,vH (gA l)=vH l
 |[]=>rfl
 |c::r=>by
  unfold gA;split
  ·rename_i e;subst e;rw[nW r,Qk]
  ·rfl
theorem QF (r:List Nat):vH (43::r)=[]::vH r:=rfl
theorem QH (r:List Nat):vH (45::r)=[]::(45::(vH r).headD [])::(vH r).tail:=rfl
theorem zz {c:Nat}{r p:List Nat}{ps:List (List Nat)}(z:c=43\/c=45)(e:vH r=p::ps):vH (c::r)=[]::(if decide (c=45) then 45::p else p)::ps:=by
 rcases z with rfl|rfl
 ·rw[QF,e];rfl
 ·rw[QH,e];rfl
theorem DG:∀(n:Nat) (l:List Nat) (ts:List (Bool×lJ)),l.length<n->yF n l=.ok ts->vH l=[]::ts.map Rc/\∀t∈ts,m5 t.2
 |0,_,_,h,_=>absurd h (dO _)
 |n+1,l,ts,h,e=>by
  rw[<- nW];have hl:=jg l;unfold yF at e;cases q:gA l with
  |nil=>rw[q]at e;cases e;exact⟨rfl,λ_ h=>by cases h⟩
  |cons c r=>
   rw[q]at hl e;have hl:r.length+1<=l.length:=hl;dsimp only at e;by_cases z:c=43\/c=45
   ·rw[ak z]at e;have hr:=jg r;cases k:iH (gA r) with
    |bad m=>rw[k]at e;cases e
    |ok t r'=>
     rw[k]at e;dsimp only at e;have hr':=oF k;obtain⟨k1,k2⟩:=uO k;cases j:yF n r' with
     |error m=>rw[j]at e;cases e
     |ok ts'=>
      rw[j]at e;cases e;obtain⟨i1,i2⟩:=DG n r' ts' (by lia) j;have s1:vH r=Mw t::ts'.map Rc:=by rw[<- nW,k1,qJ _ _ (zE k2),i1];simp
      refine⟨?_,λu hu=>?_⟩
      ·rw[zz z s1];rfl
      ·rcases aq.mp hu with rfl|hu
       ·exact k2
       ·exact i2 u hu
   ·rw[ai z]at e;cases e
theorem yt {g:Bool}{l:List Nat}{ts:List (Bool×lJ)}(e:Bk g l=.ok ts):∃t ts',ts=(g,t)::ts'/\vH l=Mw t::ts'.map Rc/\∀t∈ts,m5 t.2:=by
 unfold Bk at e;cases k:iH l with
 |bad m=>rw[k]at e;cases e
 |ok t r'=>
  rw[k]at e;dsimp only at e;obtain⟨k1,k2⟩:=uO k;cases j:yF (r'.length+1) r' with
  |error m=>rw[j]at e;cases e
  |ok ts'=>
   rw[j]at e;cases e;obtain⟨i1,i2⟩:=DG _ r' ts' (cf _) j;refine⟨t,ts',rfl,?_,λu hu=>?_⟩
   ·rw[k1,qJ _ _ (zE k2),i1];simp
   ·rcases aq.mp hu with rfl|hu
    ·exact k2
    ·exact i2 u hu
theorem LR {l:List Nat}{ts:List (Bool×lJ)}(e:xT l=.ok ts):(vH l=ts.map Rc\/vH l=[]::ts.map Rc)/\∀t∈ts,m5 t.2:=by
 rw[<- nW];unfold xT at e;cases q:gA l with
 |nil=>rw[q]at e;obtain⟨t,ts',rfl,h2,h3⟩:=yt e;exact⟨.inl h2,h3⟩
 |cons c r=>
  rw[q]at e;dsimp only at e;by_cases z:c=43\/c=45
  ·rw[ak z]at e;obtain⟨t,ts',rfl,h2,h3⟩:=yt e;rw[nW]at h2;exact⟨.inr (by rw[zz z h2];rfl),h3⟩
  ·rw[ai z]at e;obtain⟨t,ts',rfl,h2,h3⟩:=yt e;exact⟨.inl h2,h3⟩
theorem mX:∀l:List Nat,gA (gA l)=gA l
 |[]=>rfl
 |c::r=>by
  by_cases h:c=32
  ·rw[show gA (c::r)=gA r from ak h];exact mX r
  ·have e:gA (c::r)=c::r:=ai h;rw[e,e]
theorem GF (n:Nat)(l:List Nat):yF n (gA l)=yF n l:=by
 cases n with
 |zero=>rfl
 |succ n=>unfold yF;rw[mX]
theorem ul:∀(n m:Nat) (l:List Nat),l.length<n->l.length<m->yF n l=yF m l
 |0,_,_,h,_=>absurd h (dO _)
 |_+1,0,_,_,h=>absurd h (dO _)
 |n+1,m+1,l,h1,h2=>by
  unfold yF;have hl:=jg l;cases q:gA l with
  |nil=>rfl
  |cons c r=>
   rw[q]at hl;have hl:r.length+1<=l.length:=hl;dsimp only;have hr:=jg r;cases k:iH (gA r) with
   |bad m=>rfl
   |ok t r'=>have hr':=oF k;dsimp only;rw[ul n m r' (by lia) (by lia)]
def Bf (l:List Nat):Except Nat (List (Bool×lJ)):=yF (l.length+1) l
theorem zU (l:List Nat):Bf (gA l)=Bf l:=by unfold Bf;rw[ul _ (l.length+1) _ (cf _) (Nat.lt_succ_of_le (jg l)),GF]
def putK (g:Bool)(t:lJ):Except Nat (List (Bool×lJ))->Except Nat (List (Bool×lJ))
 | .error m=>.error m
 | .ok ts=>.ok ((g,t)::ts)
theorem Ml {c:Nat}{r:List Nat}(h:c≠32)(z:¬(c=43\/c=45)):Bf (c::r)=.error (r.length+1):=by
 unfold Bf yF;have e:gA (c::r)=c::r:=by unfold gA;rw[ai h]
 rw[e];dsimp only;rw[ai z]
theorem uV {c:Nat}{r:List Nat}(z:c=43\/c=45):(∀m,iH (gA r)=.bad m->Bf (c::r)=.error m)/\∀t r',iH (gA r)=.ok t r' -> Bf (c::r)=putK (decide (c=45)) t (Bf (gA r')):=by
 have h:¬c=32:=by lia
 have e:gA (c::r)=c::r:=by unfold gA;rw[ai h]
 refine⟨λm k=>?_,λt r' k=>?_⟩
 ·unfold Bf yF;rw[e];dsimp only;rw[ak z,k]
 ·have hr:=jg r;have hr':=oF k;rw[zU];unfold Bf;rw[yF];rw[e];dsimp only;rw[ak z,k];dsimp only;rw[ul (c::r).length (r'.length+1) r' (by show r'.length<r.length+1;lia) (cf _)];cases yF (r'.length+1) r' <;> rfl
theorem G4 (g:Bool)(l:List Nat):(∀m,iH l=.bad m->Bk g l=.error m)/\∀t r',iH l=.ok t r' -> Bk g l=putK g t (Bf (gA r')):=by
 refine⟨λm k=>?_,λt r' k=>?_⟩
 ·unfold Bk;rw[k]
 ·unfold Bk;rw[k,zU];unfold Bf;dsimp only;cases yF (r'.length+1) r' <;> rfl
def Hd (ts:List (Bool×lJ)):Except Nat (List (Bool×lJ))->Except Nat (List (Bool×lJ))
 | .error m=>.error m
 | .ok us=>.ok (ts++us)
theorem yQ (ts:List (Bool×lJ))(g:Bool)(t:lJ)(r:Except Nat (List (Bool×lJ))):Hd ts (putK g t r)=Hd (ts++[(g,t)]) r:=by
 cases r with
 |error m=>rfl
 |ok us=>show Except.ok _=Except.ok _;simp
theorem jf {a b:Str}(h:a.cps.toList=b.cps.toList):a=b:=by
 cases a with
 |mk x=>cases b with
  |mk y=>exact congrArg Str.mk (Array.toList_inj.mp h)
theorem gB (a b:Str):(a++b).cps.toList=a.cps.toList++b.cps.toList:=Array.toList_append
theorem g8 (a b c:Str):a++b++c=a++(b++c):=jf (by rw[gB,gB,gB,gB,aY])
abbrev e0:Str:=""
theorem lY (a:Str):a++e0=a:=jf (by rw[gB];exact aU _)
theorem JX (a:Str):e0++a=a:=jf (by rw[gB];exact bK _)
def gm (n:Int):Str:=(toString n:Str)
theorem uo (m:Nat):(gm (m:Int)).cps.toList=(Nat.toDigits 10 m).map Char.toNat:=W.KIN.signs_num m
theorem Dm {a:Int}(h:0<=a):gm a=("1":Str) ↔ a=1:=by
 obtain⟨m,rfl⟩:=bH h;refine⟨λe=>?_,λe=>?_⟩
 ·have e1:=congrArg (λs:Str=>NumText.digitsVal s.cps.toList) e;have e2:NumText.digitsVal (gm (m:Int)).cps.toList=NumText.digitsVal ("1":Str).cps.toList:=e1;rw[uo,W.KIN.val_back]at e2;have e3:NumText.digitsVal ("1":Str).cps.toList=1:=by decide +kernel
  rw[e3]at e2;lia
 ·have:m=1:=by lia
  subst this;decide +kernel
theorem jb {a:Int}(h:0<=a)(h2:a<10^110):1<=(gm a).length/\(gm a).length<=110:=by
 obtain⟨m,rfl⟩:=bH h;have e:(gm (m:Int)).length=(Nat.toDigits 10 m).length:=by show(gm (m:Int)).cps.size=_;rw[<- bf,uo,ag]
 rw[e];have hm:m<10^110:=by
  have e10:((10^110:Nat):Int)=(10:Int)^110:=by decide +kernel
  generalize (10:Int)^110=Z at *
  generalize (10:Nat)^110=N at *
  lia
 exact⟨Nat.length_toDigits_pos,(c7 (by decide) (by decide)).mpr hm⟩
theorem len_app (a b:Str):(a++b).length=a.length+b.length:=strLen_append a b
def lB (n k:Int):Str:=if k=0 then gm (n.natAbs:Int) else(if n.natAbs=1 then("":Str) else gm (n.natAbs:Int))++(if k=1 then("x":Str) else("x^":Str)++gm k)
theorem lu {k:Int}(h:k<1000):k<10^110:=cM h (by decide +kernel)
theorem pR {n k:Int}(hn:(n.natAbs:Int)<10^110)(k0:0<=k)(hk:k<1000):1<=(lB n k).length/\(lB n k).length<=250:=by
 have h1:=jb (bZ _) hn;have h2:=jb k0 (lu hk);have lx:("x":Str).length=1:=by decide +kernel
 have lx2:("x^":Str).length=2:=by decide +kernel
 have l0:("":Str).length=0:=by decide +kernel
 unfold lB;split
 ·lia
 ·rw[len_app];split
  ·split
   ·rw[l0,lx];lia
   ·rw[l0,len_app,lx2];lia
  ·split
   ·rw[lx];lia
   ·rw[len_app,lx2];lia
theorem uH {a:Int}(h:(a.natAbs:Int)<10^110):a.natAbs.log2<1920:=by
 by_cases c:a.natAbs=0
 ·rw[c];decide
 ·refine(fS c).mpr ?_;have e1:(10:Int)^110<=((2^1920:Nat):Int):=by decide +kernel
  generalize (10:Int)^110=Z at *
  generalize (2:Nat)^1920=N at *
  lia
theorem sz {n:Nat}(h:n<=10000000):n<=sizeLine:=by unfold sizeLine;lia
def DR (n:Int):Str:=if n<0 then(" - ":Str) else(" + ":Str)
def jh (ns:List Int):Nat->Str
 |0=>("":Str)
 |k+1=>if ns.getD k 0=0 then jh ns k else DR (ns.getD k 0)++(lB (ns.getD k 0) (k:Int)++jh ns k)
def Bm (n:Int):Str:=if n<0 then("-":Str) else("":Str)
def rE (ns:List Int)(t:Nat):Str:=Bm (ns.getD t 0)++(lB (ns.getD t 0) (t:Int)++jh ns t)
def mC (ns:List Int):Str:=if ns=[] then("0":Str) else rE ns (ns.length-1)
theorem xK (n:Int):(DR n).length=3:=by unfold DR;split<;>decide +kernel
theorem wB {a b:Li}(h:∀n,a.getD n 0=b.getD n 0):∀k,jh a k=jh b k
 |0=>rfl
 |k+1=>by unfold jh;rw[h k,wB h k]
abbrev lD (cRd dx:Addr)(t:Str)(l:List Nat):HO:=.ins cRd dx [("text",.str t),("place",.int ((t.length-l.length:Nat):Int))]
structure oG (t:Str)(l:List Nat):Prop where
 sfx:l <:+ t.cps.toList
 few:t.length<=10000
theorem oG.le {t:Str}{l:List Nat}(h:oG t l):l.length<=t.length:=h.sfx.length_le
theorem oG.tail {t:Str}{c:Nat}{l:List Nat}(h:oG t (c::l)):oG t l:=⟨(List.suffix_cons c l).trans h.sfx,h.few⟩
theorem oG.at {t:Str}{c:Nat}{l:List Nat}(h:oG t (c::l)):t.cps.toList[t.length-(l.length+1)]?=some c:=by
 obtain⟨p,e⟩:=h.sfx;have z:t.length=p.length+(l.length+1):=by show t.cps.size=_;rw[<- bf,<- e,ar];rfl
 rw[z,<- e,bh (by lia)];have y:p.length+(l.length+1)-(l.length+1)-p.length=0:=by lia
 rw[y];rfl
theorem oG.next {t:Str}{c:Nat}{l:List Nat}(h:oG t (c::l)):((t.length-(c::l).length:Nat):Int)+1=((t.length-l.length:Nat):Int):=by have:=h.le;have z:(c::l).length=l.length+1:=rfl;lia
def KJ (C:Addr):Sp:=λvs H Q _=>∃(a:Addr) (k:Int),vs=[.ref a,.int k]/\H a=some (Dr C a none)/\0<=k/\k<=10000/\∀d,H d=none->d≠a->Q .non (upd (upd H a (Dr C a (some d))) d (.xd [("place",.int k)]))
theorem BZ (T:Top K mg cFE cBP cBT cBA cBL cNO cHP cNW cNP cNN cK cW cRd):∃f fd,FnOk P w K mg base CX0 1 f fd ["self","place"] (KJ cBT)/\Binds K fd ["self","place"] []/\vB K cBT cFE f:=by
 obtain⟨f,fd,F,b,kB⟩:=T.ue;refine⟨f,fd,F.ok sU (λvs H Q E h=>?_) (λcdv A outer s H vs Q E hr h=>?_),b,kB⟩
 ·obtain⟨a,k,rfl,_⟩:=h;rfl
 obtain⟨a,k,rfl,hx,h0,h1,q⟩:=h;have hk:k<10^110:=Int.lt_of_le_of_lt h1 (by decide +kernel);have hk2:(k.natAbs:Int)<10^110:=by rw[Int.natAbs_of_nonneg h0];exact hk
 have hl:=(jb h0 hk).2;refine⟨_,(pss_cons (ps_expr (Kg (by rfl) T.mQ T.yE kB (pa_cons (pv 0) (pa_cons (R5 (iZ 1)) pa_nil))))
 (pss_one (Kl kB T.qY rfl (pv 0) (iZ 1) rfl))),?_⟩
 have l1:("the text can be read as far as place ":Str).length=37:=by decide +kernel
 have l2:(" and no farther":Str).length=15:=by decide +kernel
 refine⟨_,rfl,by decide +kernel,⟨rfl,k,rfl,uH hk2,?_,?_,?_⟩⟩
 ·show("the text can be read as far as place "++gm k:Str).length<=sizeLine;rw[len_app,l1,aB];lia
 ·show("the text can be read as far as place "++gm k++" and no farther":Str).length<=sizeLine;rw[len_app,len_app,l1,l2,aB];lia
 ·exact⟨a,_,rfl,by show 1<=1000;decide,hx,rfl,_,rfl,a,rfl,hx,q⟩
def KC (C:Addr):Sp:=λvs H Q _=>∃(x dx:Addr) (t:Str),vs=[.ref x,.str t]/\H x=some (.ins C dx [])/\Q .non (upd H x (lD C dx t t.cps.toList))
theorem FW (T:Top K mg cFE cBP cBT cBA cBL cNO cHP cNW cNP cNN cK cW cRd):QB P w K mg base CX0 1 "Reader" cRd ["self","text"] (KC cRd):=by
 obtain⟨f,fd,F,b,c⟩:=T.vU;refine⟨f,fd,F.ok uT (λvs H Q E h=>?_) (λcdv A outer s H vs Q E hr h=>?_),b,c,T.z8⟩
 ·obtain⟨x,dx,t,rfl,_⟩:=h;rfl
 obtain⟨x,dx,t,rfl,hx,q⟩:=h;refine⟨_,(pss_cons (ps_fld (pv 0) (pv 1) rfl)
 (pss_one (ps_fld (pv 0) iz rfl))),?_⟩
 refine⟨_,rfl,_,rfl,x,cRd,dx,[],rfl,hx,T.gG,T.jc,by decide,tJ,_,rfl,x,cRd,dx,_,rfl,upd_same,T.gG,T.gO,by show 1<1000;decide,?_⟩;rw[upd_upd];have e:((t.length-t.cps.toList.length:Nat):Int)=0:=by rw[show t.cps.toList.length=t.length from bf];lia
 have q:Q .non (upd H x (.ins cRd dx [("text",.str t),("place",.int ((t.length-t.cps.toList.length:Nat):Int))])):=q;rw[e]at q;exact q
def RK (C:Addr):Sp:=λvs H Q _=>∃(x dx:Addr) (t:Str) (l:List Nat),vs=[.ref x]/\H x=some (lD C dx t l)/\oG t l/\Q (.bl l.isEmpty) H
theorem wZ (T:Top K mg cFE cBP cBT cBA cBL cNO cHP cNW cNP cNN cK cW cRd):Iw P w K mg base CX0 1 cRd "at_end" ["self"] (RK cRd):=by
 obtain⟨f,fd,F,b,m⟩:=T.sW;refine⟨f,fd,F.ok qR (λvs H Q E h=>?_) (λcdv A outer s H vs Q E hr h=>?_),b,m,T.gG⟩
 ·obtain⟨x,dx,t,l,rfl,_⟩:=h;rfl
 obtain⟨x,dx,t,l,rfl,hx,hs,q⟩:=h;refine⟨_,(pss_one (ps_ret (pe_cmpR op_eq (pe_fld (pv 0) rfl) (pe_callB call_len_str (by rfl) T.kZ uE (pa_cons (pe_fld (pv 0) rfl) pa_nil)) (nomark _)))),?_⟩;have e:decide (V.int ((t.length-l.length:Nat):Int)=V.int (t.length:Int))=l.isEmpty:=by
  have:=hs.le;cases l with
  |nil=>simp
  |cons c l=>have z:(c::l).length=l.length+1:=rfl;simp only[List.isEmpty_cons,decide_eq_false_iff_not,V.int.injEq];lia
 refine⟨_,rfl,x,cRd,dx,_,_,rfl,hx,T.gG,T.gO,rfl,_,rfl,x,cRd,dx,_,_,rfl,hx,T.gG,T.jc,rfl,t,rfl,by have:=hs.few;rw[aB];lia,?_⟩;refine⟨rfl,?_⟩;rw[e];exact q
def JQ (l sg:List Nat):Bool:=match l with
 |[]=>false
 |c::_=>decide (c∈sg)
def Hq (C:Addr):Sp:=λvs H Q _=>∃(x dx:Addr) (t sg:Str) (l:List Nat),vs=[.ref x,.str sg]/\H x=some (lD C dx t l)/\oG t l/\Q (.bl (JQ l sg.cps.toList)) H
theorem jx (T:Top K mg cFE cBP cBT cBA cBL cNO cHP cNW cNP cNN cK cW cRd):Iw P w K mg base CX0 2 cRd "stands" ["self","signs"] (Hq cRd):=by
 obtain⟨f,fd,F,b,m⟩:=T.sE;refine⟨f,fd,F.ok rB (λvs H Q E h=>?_) (λcdv A outer s H vs Q E hr h=>?_),b,m,T.gG⟩
 ·obtain⟨x,dx,t,sg,l,rfl,_⟩:=h;rfl
 obtain⟨x,dx,t,sg,l,rfl,hx,hs,q⟩:=h;refine⟨_,(pss_one (ps_ret (pe_and (pe_not (iK (wZ T) hr pass0 (pv 0))) (pe_one (pe_cmpR JL (pe_ix ix_str (pe_fld (pv 0) rfl) (pe_fld (pv 0) rfl) (λ_ _=>rfl)) (pv 1) (by with_unfolding_all rfl)))))),?_⟩;refine⟨_,rfl,x,dx,_,rfl,hx,rfl,x,dx,t,l,rfl,hx,hs,?_⟩;cases l with
 |nil=>exact⟨_,rfl,_,rfl,q⟩
 |cons c l=>
  refine⟨_,rfl,_,rfl,?_⟩;refine⟨_,rfl,x,cRd,dx,_,_,rfl,hx,T.gG,T.jc,rfl,_,rfl,x,cRd,dx,_,_,rfl,hx,T.gG,T.gO,rfl,t,_,c,rfl,rfl,by have:=hs.few;rw[aB];lia,?_,?_⟩
  ·exact atI_nat hs.at
  ·exact⟨_,rfl,c,sg,rfl,rfl,q⟩
def vO (cBT:Addr)(E:XK)(H:Hp)(C x dx:Addr)(t:Str)(m:Nat):Prop:=∀d l',H d=none->E (.ref cBT) (some d) (upd (upd H x (lD C dx t l')) d (.xd [("place",.int ((t.length-m:Nat):Int))]))
def KZ (cBT C:Addr):Sp:=λvs H Q E=>∃(x dx:Addr) (t sg:Str) (l:List Nat),vs=[.ref x,.str sg]/\H x=some (lD C dx t l)/\oG t l/\(∀c l',l=c::l' -> c∈sg.cps.toList->Q (.str ⟨#[c]⟩) (upd H x (lD C dx t l')))/\(JQ l sg.cps.toList=false->vO cBT E H C x dx t l.length)
theorem lg (T:Top K mg cFE cBP cBT cBA cBL cNO cHP cNW cNP cNN cK cW cRd):Iw P w K mg base (j9 P w) 3 cRd "taken" ["self","signs"] (KZ cBT cRd):=by
 obtain⟨f,fd,Fu,b,m⟩:=T.uA;obtain⟨fB,fdB,FB,bB,kB⟩:=BZ (P:=P) (w:=w) (base:=base) T;refine⟨f,fd,?_,b,m,T.gG⟩;obtain⟨oc,od,kV,doc,pm,an,cdv,ct,osl,rfl,lk,hcd⟩:=Fu.ex;refine fn_of lk hcd sJ (λvs H Q E h=>?_) λA outer s H vs Q E hr h=>?_
 ·obtain⟨x,dx,t,sg,l,rfl,_⟩:=h;rfl
 obtain⟨x,dx,t,sg,l,rfl,hx,hs,q,qe⟩:=h;have hsm:t.length<=sizeLine:=by have:=hs.few;rw[aB];lia
 refine⟨_,(pss_cons (ps_if (pt_not (pt_val (gZ (jx T) hr pass0 (pv 0) (pa_cons (pv 1) pa_nil)) (λ_=>rfl)))
 (pss_one (Fx newX rfl kB FB hr bB (by rfl) T.ou (pa_cons (pe_fld (pv 0) rfl) pa_nil) (hl:=λσ H Q ⟨v,e,a,C,dx,fs,u,h1,h2,h3,h4,h5,q⟩=>⟨v,e,a,C,dx,fs,u,h1,h2,h3,h4,h5,rfl,q⟩)))
 pss_nil)
 (pss_cons (ps_fldaug (pv 0) iz in_add)
 (pss_one (ps_ret (pe_ix ix_str (pe_fld (pv 0) rfl) (pe_op op_sub (pe_fld (pv 0) rfl) iz) (λ_ _=>rfl)))))),?_⟩
 refine⟨_,rfl,x,dx,_,rfl,hx,rfl,_,rfl,x,dx,t,sg,l,rfl,hx,hs,_,rfl,?_⟩;cases e:JQ l sg.cps.toList with
 |false=>
  refine⟨_,rfl,x,cRd,dx,_,_,rfl,hx,T.gG,T.gO,rfl,λa na=>?_⟩;refine⟨a,_,rfl,upd_same,by lia,by have:=hs.few;lia,λd hd da=>⟨rfl,d,?_,?_⟩⟩
  ·rw[upd_ne (a9 da),upd_same]
  ·rw[Ik na da];have z:=qe e d l (by rw[upd_ne da]at hd;exact hd);rw[yj hx]at z;exact z
 |true=>
  cases l with
  |nil=>cases e
  |cons c l'=>
   have hc:c∈sg.cps.toList:=bQ e;have nx:=hs.next;refine⟨_,rfl,x,cRd,dx,_,_,rfl,hx,T.gG,T.gO,rfl,tJ,_,_,rfl,rfl,dx,_,hx,by show 2<1000;decide,?_⟩;have q:=q c l' rfl hc;have q:Q (.str ⟨#[c]⟩) (upd H x (.ins cRd dx [("text",.str t),("place",.int ((t.length-l'.length:Nat):Int))])):=q;rw[<- nx]at q;refine⟨_,rfl,x,cRd,dx,_,_,rfl,upd_same,T.gG,T.jc,rfl,_,rfl,x,cRd,dx,_,_,rfl,upd_same,T.gG,T.gO,rfl,tJ,_,_,rfl,rfl,t,_,c,rfl,rfl,hsm,?_,q⟩;have z:((t.length-(c::l').length:Nat):Int)+1-1=((t.length-(l'.length+1):Nat):Int):=by rw[Int.add_sub_cancel];rfl
   rw[z];exact atI_nat hs.at
theorem oG.skip {t:Str}:∀{l:List Nat},oG t l->oG t (gA l)
 |[],h=>h
 |c::l,h=>by
  unfold gA;split
  ·exact h.tail.skip
  ·exact h
def O4 (C:Addr):Sp:=λvs H Q _=>∃(x dx:Addr) (t:Str) (l:List Nat),vs=[.ref x]/\H x=some (lD C dx t l)/\oG t l/\Q .non (upd H x (lD C dx t (gA l)))
theorem lC (T:Top K mg cFE cBP cBT cBA cBL cNO cHP cNW cNP cNN cK cW cRd):Iw P w K mg base CX0 3 cRd "skip_blanks" ["self"] (O4 cRd):=by
 obtain⟨f,fd,F,b,m⟩:=T.nj;refine⟨f,fd,F.ok ni (λvs H Q E h=>?_) (λcdv A outer s H vs Q E hr h=>?_),b,m,T.gG⟩
 ·obtain⟨x,dx,t,l,rfl,_⟩:=h;rfl
 obtain⟨x,dx,t,l,rfl,hx,hs,q⟩:=h;have sp:(" ":Str).cps.toList=[32]:=by decide +kernel
 refine⟨_,(pss_one (ps_while cG (pt_val (gZ (jx T) hr pass0 (pv 0) (pa_cons pe_str pa_nil)) (λ_=>rfl))
 (pss_one (ps_fldaug (pv 0) iz in_add)))),?_⟩
 refine⟨λn σ H'=>σ=[some (.ref x)]/\∃l',n=l'.length/\H'=upd H x (lD cRd dx t l')/\oG t l'/\gA l'=gA l,⟨l.length,rfl,l,rfl,(yj hx).symm,hs,rfl⟩,?_⟩;rintro n σ H' ⟨rfl,l',rfl,rfl,hs',e⟩;refine⟨_,rfl,x,dx,_,rfl,upd_same,rfl,x,dx,t,_,l',rfl,upd_same,hs',_,rfl,?_⟩;rw[sp];cases l' with
 |nil=>show Q .non _;rw[<- e]at q;exact q
 |cons c l'=>
  cases z:JQ (c::l') [32] with
  |false=>
   show Q .non _;rw[<- e]at q;have h32:¬c=32:=λy=>by rw[y]at z;cases z
   unfold gA at q;rw[ai h32]at q;exact q
  |true=>
   have h32:c=32:=by simpa [JQ] using z
   subst h32;have nx:=hs'.next;refine⟨λσ' H'=>σ'=[some (.ref x)]/\H'=upd H x (lD cRd dx t l'),λσ' H' ⟨e1,e2⟩=>⟨l'.length,cf _,e1,l',rfl,e2,hs'.tail,e⟩,?_⟩;refine⟨_,rfl,x,cRd,dx,_,_,rfl,upd_same,T.gG,T.gO,rfl,tJ,_,_,rfl,rfl,dx,_,upd_same,by show 2<1000;decide,rfl,?_⟩;rw[upd_upd];show upd H x (.ins cRd dx [("text",.str t),("place",.int (((t.length-(32::l').length:Nat):Int)+1))])=_;rw[nx]
def sgn (c:Nat):Int:=if c=45 then -1 else 1
def Oq (cBT C:Addr):Sp:=λvs H Q E=>∃(x dx:Addr) (t:Str) (l:List Nat),vs=[.ref x]/\H x=some (lD C dx t l)/\oG t l/\(∀c l',l=c::l' -> c=43\/c=45->Q (.int (sgn c)) (upd H x (lD C dx t (gA l'))))/\((∀c l',l=c::l' -> ¬(c=43\/c=45))->vO cBT E H C x dx t l.length)
theorem oR (T:Top K mg cFE cBP cBT cBA cBL cNO cHP cNW cNP cNN cK cW cRd):Iw P w K mg base (j9 P w) 4 cRd "taken_sign" ["self"] (Oq cBT cRd):=by
 obtain⟨f,fd,Fu,b,m⟩:=T.oK;refine⟨f,fd,?_,b,m,T.gG⟩;obtain⟨oc,od,kV,doc,pm,an,cdv,ct,osl,rfl,lk,hcd⟩:=Fu.ex;refine fn_of lk hcd jQ (λvs H Q E h=>?_) λA outer s H vs Q E hr h=>?_
 ·obtain⟨x,dx,t,l,rfl,_⟩:=h;rfl
 obtain⟨x,dx,t,l,rfl,hx,hs,q,qe⟩:=h;have sp:("+-":Str).cps.toList=[43,45]:=by decide +kernel
 refine⟨_,(pss_cons (ps_set (i:=1) jQ.nd rfl (Or.inl rfl) (pe_ifExp (pt_cmpR op_eq (gZ (lg T) hr jF (pv 0) (pa_cons pe_str pa_nil)) pe_str (nomark _)) (Jo iz) iz))
 (pss_cons (ps_expr (iK (lC T) hr pass0 (pv 0)))
 (pss_one (ps_ret (iZ 1))))),?_⟩
 refine⟨_,rfl,x,dx,_,rfl,hx,rfl,x,dx,t,_,l,rfl,hx,hs,λc l' e hc=>?_,λe=>qe λc l' z y=>?_⟩
 ·subst e;rw[sp]at hc;have hc:c=43\/c=45:=by simpa using hc
  have q:=q c l' rfl hc;refine⟨rfl,_,rfl,?_⟩;have d:decide ((V.str ⟨#[c]⟩:V)=.str "-")=decide (c=45):=by rcases hc with rfl|rfl<;>decide +kernel
  rw[d];rcases hc with rfl|rfl
  ·refine⟨tJ,_,rfl,x,dx,_,rfl,upd_same,rfl,x,dx,t,l',rfl,upd_same,hs.tail,rfl,?_⟩;rw[upd_upd];exact q
  ·refine⟨tJ,_,rfl,x,dx,_,rfl,upd_same,rfl,x,dx,t,l',rfl,upd_same,hs.tail,rfl,?_⟩;rw[upd_upd];exact q
 ·subst z;rw[sp]at e;have e:¬(c=43\/c=45):=by simpa [JQ] using e
  exact e y
theorem qO {c:Nat}:c∈("0123456789":Str).cps.toList ↔ isF c=true:=by rw[show("0123456789":Str).cps.toList=[48,49,50,51,52,53,54,55,56,57] from by decide +kernel,iJ];simp only[aq,dC,or_false];exact⟨λh=>by rcases h with h|h|h|h|h|h|h|h|h|h<;>(subst h;decide),λh=>by lia⟩
theorem n6 {l:List Nat}:JQ l ("0123456789":Str).cps.toList=match l with | []=>false|c::_=>isF c:=by
 cases l with
 |nil=>rfl
 |cons c l=>
  show decide _=isF c;cases h:isF c with
  |true=>exact aW (qO.mpr h)
  |false=>exact aQ λz=>by rw[qO.mp z]at h;cases h
def qF (l:List Nat):Str:=⟨l.toArray⟩
theorem Kf (a b:List Nat):qF a++qF b=qF (a++b):=PySem.Str.ext' (by rw[PySem.Str.cps_append];simp[qF])
theorem pY {l:List Nat}(h:∀c∈l,isF c=true)(h1:l≠[])(h2:l.length<=640):intText? (qF l)=some ((fv l:Nat):Int):=by
 have e:fv l=PySem.NumText.digitsVal (qF l).cps.toList:=by show List.foldl _ _ _=List.foldl _ _ (l.toArray.toList);congr 1;funext a c;lia
 rw[e];exact PySem.intText_digits (x:=qF l) (λc hc=>iJ.mp (h c hc)) h1 (aA h2 (by decide))
def Mx (tk:List Nat->Rr (List Nat))(cBT C:Addr):Sp:=λvs H Q E=>∃(x dx:Addr) (t:Str) (l:List Nat),vs=[.ref x]/\H x=some (lD C dx t l)/\oG t l/\(∀ds l',tk l=.ok ds l' -> Q (.int ((fv ds:Nat):Int)) (upd H x (lD C dx t l')))/\∀m,tk l=.bad m->vO cBT E H C x dx t m
theorem sG (T:Top K mg cFE cBP cBT cBA cBL cNO cHP cNW cNP cNN cK cW cRd):Iw P w K mg base (j9 P w) 4 cRd "taken_number" ["self"] (Mx j7 cBT cRd):=by
 obtain⟨f,fd,Fu,b,m⟩:=T.m9;refine⟨f,fd,?_,b,m,T.gG⟩;obtain⟨oc,od,kV,doc,pm,an,cdv,ct,osl,rfl,lk,hcd⟩:=Fu.ex;refine fn_of lk hcd iI (λvs H Q E h=>?_) λA outer s H vs Q E hr h=>?_
 ·obtain⟨x,dx,t,l,rfl,_⟩:=h;rfl
 obtain⟨x,dx,t,l,rfl,hx,hs,q,qe⟩:=h;refine⟨_,(pss_cons (ps_set (i:=1) iI.nd rfl (Or.inl rfl) (gZ (lg T) hr jF (pv 0) (pa_cons (lq (by rfl) T.jO) pa_nil)))
 (pss_cons (ps_while ei (pw_and (pt_cmpR op_ne (pv 1) pe_str (nomark _)) (pw_and (pt_cmpR op_lt (pe_callB call_len_str (by rfl) T.kZ uE (pa_cons (pv 1) pa_nil)) (xg (by rfl) T.uz) (nomark _)) (pw_and1 (pt_val (gZ (jx T) hr pass0 (pv 0) (pa_cons (lq (by rfl) T.jO) pa_nil)) (λ_=>rfl))))).pt
 (pss_one (ps_aug (i:=1) iI.nd rfl (Or.inl rfl) (gZ (lg T) hr jF (pv 0) (pa_cons (lq (by rfl) T.jO) pa_nil)) Mt)))
 (pss_one (ps_ret (pe_callTy ji (by rfl) T.uU qM (pa_cons (pv 1) pa_nil)))))),?_⟩
 refine⟨_,rfl,x,dx,_,rfl,hx,rfl,x,dx,t,_,l,rfl,hx,hs,λc l' e hc=>?_,λe=>?_⟩
 ·subst e;have hc:=qO.mp hc;obtain⟨F,R,eF⟩:∃F R,j7 (c::l')=.ok F R:=by unfold j7;dsimp only;rw[ak hc];split<;>exact⟨_,_,rfl⟩
  have q:=q F R eF;have g0:("0":Str)=qF [48]:=by decide +kernel
  have inj:∀a b:List Nat,qF a=qF b->a=b:=λa b e=>by have:=congrArg (λz:Str=>z.cps.toList) e;exact this
  refine⟨λn σ H'=>∃ds l2,n=l2.length/\σ=[some (.ref x),some (.str (qF ds))]/\H'=upd H x (lD cRd dx t l2)/\oG t l2/\(∀c∈ds,isF c=true)/\ds≠[]/\ds.length<=100 /\
   ((ds=[48]/\F=[48]/\R=l2)\/(ds≠[48]/\F=ds++(jV (100-ds.length) l2).1/\R=(jV (100-ds.length) l2).2)),⟨l'.length,[c],l',rfl,rfl,rfl,hs.tail,(λd hd=>by rw[aN.mp hd];exact hc),(λz=>nomatch z),by show 1<=100;decide,?_⟩,?_⟩
  ·unfold j7 at eF;dsimp only at eF;rw[ak hc]at eF;by_cases z:c=48
   ·rw[ak z]at eF;cases eF;exact .inl ⟨by rw[z],rfl,rfl⟩
   ·rw[ai z]at eF;cases eF;exact .inr ⟨(λy=>z (List.cons.inj y).1),rfl,rfl⟩
  ·rintro n σ H' ⟨ds,l2,rfl,rfl,rfl,hs2,hd,hn,hl,inv⟩;have hlen:(qF ds).length=ds.length:=rfl;have fin:F=ds->R=l2->∃z n,[V.str (qF ds)]=[.str z]/\intText? z=some n/\z.length<=640/\Q (.int n) (upd H x (lD cRd dx t l2)):=λe1 e2=>by subst e1 e2;exact⟨_,_,rfl,pY hd hn (by lia),by rw[hlen];lia,q⟩
   refine⟨_,rfl,rfl,_,rfl,?_⟩;dsimp only;rcases inv with⟨z1,z2,z3⟩|⟨z1,z2,z3⟩
   ·subst z1;exact⟨_,rfl,fin z2 z3⟩
   ·have ne:¬(V.str (qF ds):V)=.str "0":=λy=>z1 (inj _ _ (by injection y));rw[ak (by simpa using ne)];refine⟨_,rfl,_,rfl,by rw[hlen,aB];lia,tJ,_,_,rfl,rfl,_,rfl,?_⟩;dsimp only;by_cases y1:ds.length<100
    ·have y2:(((qF ds).length:Nat):Int)<100:=by rw[hlen];lia
     rw[ak (aW y2)];refine⟨_,rfl,x,dx,_,rfl,upd_same,rfl,x,dx,t,_,l2,rfl,upd_same,hs2,_,rfl,?_⟩;rw[n6];obtain⟨k,ek⟩:∃k,100-ds.length=k+1:=⟨99-ds.length,by lia⟩;rw[ek]at z2 z3;cases l2 with
     |nil=>exact⟨_,rfl,fin (by rw[z2];exact aU _) z3⟩
     |cons c2 l3=>
      dsimp only;by_cases f2:isF c2=true
      case neg=>rw[ai f2];unfold jV at z2 z3;rw[ai f2]at z2 z3;exact⟨_,rfl,fin (by rw[z2];exact aU _) z3⟩
      case pos=>
       rw[ak f2];unfold jV at z2 z3;rw[ak f2]at z2 z3;refine⟨λσ' H'=>σ'=[some (.ref x),some (.str (qF (ds++[c2])))]/\H'=upd H x (lD cRd dx t l3),λσ' H' ⟨e1,e2⟩=>⟨l3.length,cf _,ds++[c2],l3,rfl,e1,e2,hs2.tail,?_,by simp,by rw[ar];exact y1,.inr ⟨?_,?_,?_⟩⟩,?_⟩
       ·intro d hd';rcases aV.mp hd' with z|z
        ·exact hd d z
        ·rw[aN.mp z];exact f2
       ·intro z;have:=congrArg List.length z;rw[ar]at this;have hp:=lP hn;have this:ds.length+1=1:=this;lia
       ·rw[ar,show 100-(ds.length+[c2].length)=k from by show 100-(ds.length+1)=k;lia,z2];simp
       ·rw[ar,show 100-(ds.length+[c2].length)=k from by show 100-(ds.length+1)=k;lia,z3]
       ·refine⟨_,rfl,_,rfl,x,dx,_,rfl,upd_same,rfl,x,dx,t,_,c2::l3,rfl,upd_same,hs2,λc3 l4 e3 hc3=>?_,λe3=>?_⟩
        ·cases e3;refine⟨_,_,rfl,rfl,?_,?_,?_⟩
         ·rw[aB,hlen];show ds.length+1<=_;lia
         ·show _=[some (V.ref x),some (.str (qF (ds++[c2])))];rw[<- Kf];rfl
         ·rw[upd_upd]
        ·rw[n6]at e3;rw[show isF c2=false from e3]at f2;cases f2
    ·have y2:¬(((qF ds).length:Nat):Int)<100:=by rw[hlen];lia
     rw[ai (by simpa using y2)];have y3:100-ds.length=0:=by lia
     rw[y3]at z2 z3;exact⟨_,rfl,fin (by rw[z2];exact aU _) z3⟩
 ·rw[n6]at e;cases l with
  |nil=>exact qe 0 rfl
  |cons c l=>exact qe (l.length+1) (by unfold j7;dsimp only;rw[ai (by rw[show isF c=false from e];exact aD)])
theorem BX (c:Nat):fv [c]=c-48:=by show 10*0+(c-48)=_;lia
theorem NZ (c d:Nat):fv [c,d]=10*(c-48)+(d-48):=by show 10*(10*0+(c-48))+(d-48)=_;lia
theorem xP {c:Nat}(h:isF c=true):intText? (⟨#[c]⟩:Str)=some (((c-48:Nat)):Int):=by have e:=pY (l:=[c]) (λd hd=>by rw[aN.mp hd];exact h) (λz=>nomatch z) (by show 1<=640;decide);rw[BX]at e;exact e
theorem vC (T:Top K mg cFE cBP cBT cBA cBL cNO cHP cNW cNP cNN cK cW cRd):Iw P w K mg base (j9 P w) 4 cRd "taken_power" ["self"] (Mx jL cBT cRd):=by
 obtain⟨f,fd,Fu,b,m⟩:=T.nu;refine⟨f,fd,?_,b,m,T.gG⟩;obtain⟨oc,od,kV,doc,pm,an,cdv,ct,osl,rfl,lk,hcd⟩:=Fu.ex;refine fn_of lk hcd iR (λvs H Q E h=>?_) λA outer s H vs Q E hr h=>?_
 ·obtain⟨x,dx,t,l,rfl,_⟩:=h;rfl
 obtain⟨x,dx,t,l,rfl,hx,hs,q,qe⟩:=h;have hsm:t.length<=sizeLine:=by have:=hs.few;rw[aB];lia
 refine⟨_,(pss_cons (ps_set (i:=1) iR.nd rfl (Or.inl rfl) (pe_callTy ji (by rfl) T.uU qM (pa_cons (gZ (lg T) hr jF (pv 0) (pa_cons (lq (by rfl) T.jO) pa_nil)) pa_nil)))
 (pss_cons (ps_while ei (pw_and (Oo (iZ 1) iz) (pw_and (pt_val (gZ (jx T) hr pass0 (pv 0) (pa_cons (lq (by rfl) T.jO) pa_nil)) (λ_=>rfl)) (pw_and1 (pt_cmpR op_le (pe_op op_add (Hn iz (iZ 1)) (pe_callTy ji (by rfl) T.uU qM (pa_cons (pe_ix ix_str (pe_fld (pv 0) rfl) (pe_fld (pv 0) rfl) (λ_ _=>rfl)) pa_nil))) (xg (by rfl) T.m7) (nomark _))))).pt
 (pss_one (ps_set (i:=1) iR.nd rfl (Or.inl rfl) (pe_op op_add (Hn iz (iZ 1)) (pe_callTy ji (by rfl) T.uU qM (pa_cons (gZ (lg T) hr jF (pv 0) (pa_cons (lq (by rfl) T.jO) pa_nil)) pa_nil))))))
 (pss_one (ps_ret (iZ 1))))),?_⟩
 refine⟨_,rfl,x,dx,_,rfl,hx,rfl,x,dx,t,_,l,rfl,hx,hs,λc l' e hc=>?_,λe=>?_⟩
 ·subst e;have hc:=qO.mp hc;have hc2:=iJ.mp hc;obtain⟨F,R,eF⟩:∃F R,jL (c::l')=.ok F R:=by
   unfold jL;cases l' with
   |nil=>dsimp only;rw[ak hc];exact⟨_,_,rfl⟩
   |cons c' r=>dsimp only;rw[ak hc];split<;>exact⟨_,_,rfl⟩
  have q:=q F R eF;refine⟨_,_,rfl,xP hc,by show 1<=640;decide,?_⟩;refine⟨λn σ H'=>∃(l2:List Nat) (pw:Nat),n=l2.length/\σ=[some (.ref x),some (.int (pw:Int))]/\H'=upd H x (lD cRd dx t l2)/\oG t l2/\((pw=c-48/\l2=l')\/(10<=pw/\pw<=40/\pw=fv F/\l2=R)),⟨l'.length,l',c-48,rfl,rfl,rfl,hs.tail,.inl ⟨rfl,rfl⟩⟩,?_⟩;rintro n σ H' ⟨l2,pw,rfl,rfl,rfl,hs2,inv⟩;have fin:pw=fv F->l2=R->Q (.int (pw:Int)) (upd H x (lD cRd dx t l2)):=λe1 e2=>by rw[e1,e2];exact q
  have hpw:pw<=40:=by lia
  have keep:(pw=c-48/\l2=l')->(∀c2 l3,l2=c2::l3->¬(c≠48/\isF c2=true/\10*(c-48)+(c2-48)<=40))->pw=fv F/\l2=R:=λ⟨e1,e2⟩ h=>by
   subst e2;unfold jL at eF;cases l2 with
   |nil=>dsimp only at eF;rw[ak hc]at eF;cases eF;exact⟨e1.trans (BX c).symm,rfl⟩
   |cons c' r=>dsimp only at eF;rw[ak hc,ai (h c' r rfl)]at eF;cases eF;exact⟨e1.trans (BX c).symm,rfl⟩
  have stop:(pw=c-48->∀c2 l3,l2=c2::l3->¬(c≠48/\isF c2=true/\10*(c-48)+(c2-48)<=40))->hI [some (.ref x),some (.int (pw:Int))] 1/\Q (.int (pw:Int)) (upd H x (lD cRd dx t l2)):=λh=>by
   refine⟨rfl,?_⟩;rcases inv with i|⟨_,_,i1,i2⟩
   ·obtain⟨k1,k2⟩:=keep i (h i.1);exact fin k1 k2
   ·exact fin i1 i2
  refine⟨⟨rfl,tJ⟩,?_⟩;dsimp only;by_cases z:pw=0
  ·rw[ai (by show ¬(decide (¬(pw:Int)=0)=true);simp[z])];exact stop λe c2 l3 _ h=>h.1 (by lia)
  ·rw[ak (by show decide (¬(pw:Int)=0)=true;exact aW (by lia))];refine⟨_,rfl,x,dx,_,rfl,upd_same,rfl,x,dx,t,_,l2,rfl,upd_same,hs2,_,rfl,?_⟩;rw[n6];cases l2 with
   |nil=>exact stop λ_ _ _ y=>nomatch y
   |cons c2 l3=>
    dsimp only;by_cases f2:isF c2=true
    case neg=>rw[ai f2];exact stop λ_ c3 l4 y h=>by cases y;exact f2 h.2.1
    case pos=>
     rw[ak f2];have hf2:=iJ.mp f2;refine⟨⟨tJ,rfl,?_⟩,_,rfl,x,cRd,dx,_,_,rfl,upd_same,T.gG,T.jc,rfl,_,rfl,x,cRd,dx,_,_,rfl,upd_same,T.gG,T.gO,rfl,t,_,c2,rfl,rfl,hsm,atI_nat hs2.at,_,_,rfl,xP f2,by show 1<=640;decide,_,_,rfl,rfl,tJ,_,_,rfl,rfl,_,rfl,?_⟩
     ·exact CMul.ok (.inl ⟨by decide,by decide⟩)
     ·dsimp only;by_cases y:10*pw+(c2-48)<=40
      ·rw[ak (by show decide (10*(pw:Int)+((c2-48:Nat):Int)<=40)=true;exact aW (by lia))];have i1:pw=c-48/\c2::l3=l':=by
        rcases inv with i|⟨i,_⟩
        ·exact i
        ·lia
       have c48:c≠48:=by lia
       have eF2:jL (c::l')=.ok [c,c2] l3:=by rw[<- i1.2];unfold jL;dsimp only;rw[ak hc,ak ⟨c48,f2,by lia⟩]
       rw[eF]at eF2;injection eF2 with eA eR;have ef:=NZ c c2;refine⟨λσ' H'=>σ'=[some (.ref x),some (.int ((10*pw+(c2-48):Nat):Int))]/\H'=upd H x (lD cRd dx t l3),λσ' H' ⟨e1,e2⟩=>⟨l3.length,cf _,l3,10*pw+(c2-48),rfl,e1,e2,hs2.tail,.inr ⟨by lia,y,by rw[eA,ef];lia,eR.symm⟩⟩,?_⟩;refine⟨⟨tJ,rfl,CMul.ok (.inl ⟨by decide,by decide⟩)⟩,_,rfl,x,dx,_,rfl,upd_same,rfl,x,dx,t,_,c2::l3,rfl,upd_same,hs2,λc3 l4 e3 hc3=>?_,λe3=>?_⟩
       ·cases e3;refine⟨_,_,rfl,xP f2,by show 1<=640;decide,_,_,rfl,rfl,?_,?_⟩
        ·show[some (V.ref x),some (V.int (10*(pw:Int)+((c2-48:Nat):Int)))]=_;rw[show 10*(pw:Int)+((c2-48:Nat):Int)=((10*pw+(c2-48):Nat):Int) from by lia]
        ·rw[upd_upd]
       ·rw[n6]at e3;rw[show isF c2=false from e3]at f2;cases f2
      ·rw[ai (by show ¬(decide (10*(pw:Int)+((c2-48:Nat):Int)<=40)=true);simp only[bR];lia)];exact stop λe c3 l4 e4 h=>by cases e4;have:=h.2.2;lia
 ·rw[n6]at e;cases l with
  |nil=>exact qe 0 rfl
  |cons c l=>
   have nf:¬isF c=true:=by rw[show isF c=false from e];exact aD
   cases l with
   |nil=>exact qe 1 (by unfold jL;dsimp only;rw[ai nf])
   |cons d l=>exact qe (l.length+2) (by unfold jL;dsimp only;rw[ai nf])
def zN (ds:List Nat):Int:=if ds=[] then 1 else((fv ds:Nat):Int)
def Jg:Option (List Nat)->Int
 |none=>0
 |some []=>1
 |some (p::ps)=>((fv (p::ps):Nat):Int)
theorem vO.upd {cBT C x dx:Addr}{E:XK}{H:Hp}{t:Str}{m:Nat}{l:List Nat}(h:vO cBT E H C x dx t m):vO cBT E (upd H x (lD C dx t l)) C x dx t m:=λd l' hd=>by
 have nd:d≠x:=λz=>by rw[z,upd_same]at hd;cases hd
 rw[upd_upd];exact h d l' (by rw[upd_ne nd]at hd;exact hd)
def Nv (cBT C:Addr):Sp:=λvs H Q E=>∃(x dx:Addr) (t:Str) (l:List Nat),vs=[.ref x]/\H x=some (lD C dx t l)/\oG t l/\(∀tm l',iH l=.ok tm l' -> oG t l' -> ∀p,upd H x (lD C dx t l') p=none->Q (.ref p) (upd (upd H x (lD C dx t l')) p (.tup [.int (zN tm.1),.int (Jg tm.2)])))/\∀m,iH l=.bad m->vO cBT E H C x dx t m
theorem st1 {l:List Nat}{c:Nat}{sg:Str}(h:sg.cps.toList=[c]):JQ l sg.cps.toList=match l with | []=>false|d::_=>decide (d=c):=by
 rw[h];cases l with
 |nil=>rfl
 |cons d l=>show decide _=decide _;simp
theorem xS:("x":Str).cps.toList=[120]:=by decide +kernel
theorem cS:("^":Str).cps.toList=[94]:=by decide +kernel
theorem vY (T:Top K mg cFE cBP cBT cBA cBL cNO cHP cNW cNP cNN cK cW cRd):Iw P w K mg base (j9 P w) 5 cRd "taken_term" ["self"] (Nv cBT cRd):=by
 obtain⟨f,fd,Fu,b,m⟩:=T.oN;refine⟨f,fd,?_,b,m,T.gG⟩;obtain⟨oc,od,kV,doc,pm,an,cdv,ct,osl,rfl,lk,hcd⟩:=Fu.ex;refine fn_of lk hcd iY (λvs H Q E h=>?_) λA outer s H vs Q E hr h=>?_
 ·obtain⟨x,dx,t,l,rfl,_⟩:=h;rfl
 obtain⟨x,dx,t,l,rfl,hx,hs,q,qe⟩:=h;obtain⟨tr,hR,rest⟩:∃tr,PSs (cxOf (j9 P w) P w K mg base ["self","number"] "Reader.taken_term" (defScope iD) f cdv A outer s H E) ((defBody iD).drop 2) tr/\∀(ds r:List Nat),oG t (120::r)->(∀tm l',jj ds r=.ok tm l' -> oG t l' -> ∀p,upd H x (lD cRd dx t l') p=none->Q (.ref p) (upd (upd H x (lD cRd dx t l')) p (.tup [.int (zN tm.1),.int (Jg tm.2)])))->(∀m,jj ds r=.bad m->vO cBT E H cRd x dx t m) ->
   tr { nx:=λ_ H'=>Q .non H',rt:=Q } [some (.ref x),some (.int (zN ds))] (upd H x (lD cRd dx t (120::r))):=by
  refine⟨_,(pss_cons (ps_expr (gZ (lg T) hr jF (pv 0) (pa_cons pe_str pa_nil)))
 (pss_cons (ps_if (pt_not (pt_val (gZ (jx T) hr pass0 (pv 0) (pa_cons pe_str pa_nil)) (λ_=>rfl)))
 (pss_one (ps_ret (pe_tup (pa_cons (iZ 1) (pa_cons iz pa_nil)))))
 pss_nil)
 (pss_cons (ps_expr (gZ (lg T) hr jF (pv 0) (pa_cons pe_str pa_nil)))
 (pss_one (ps_ret (pe_tup (pa_cons (iZ 1) (pa_cons (iK (vC T) hr jF (pv 0)) pa_nil)))))))),λds r hs q qe=>?_⟩
  refine⟨_,rfl,x,dx,_,rfl,upd_same,rfl,x,dx,t,_,120::r,rfl,upd_same,hs,λc l' e hc=>?_,λe=>?_⟩
  ·cases e;rw[upd_upd];refine⟨_,rfl,x,dx,_,rfl,upd_same,rfl,x,dx,t,_,r,rfl,upd_same,hs.tail,_,rfl,?_⟩;dsimp only;have ret1:jj ds r=.ok (ds,some []) r->∀p,upd H x (lD cRd dx t r) p=none->Q (.ref p) (upd (upd H x (lD cRd dx t r)) p (.tup [.int (zN ds),.int 1])):=λe=>q _ _ e hs.tail;rw[st1 cS];cases r with
   |nil=>exact⟨rfl,tJ,by show 2<=sizeLine;rw[aB];lia,ret1 rfl⟩
   |cons c r2=>
    dsimp only;by_cases z:c=94
    ·subst z;have eX:jj ds (94::r2)=match jL r2 with
      | .bad m=>.bad m
      | .ok ps r'=>.ok (ds,some ps) r':=rfl
     rw[ai (by simp)];refine⟨_,rfl,x,dx,_,rfl,upd_same,rfl,x,dx,t,_,94::r2,rfl,upd_same,hs.tail,λc l' e hc=>?_,λe=>?_⟩
     ·cases e;rw[upd_upd];refine⟨rfl,_,rfl,x,dx,_,rfl,upd_same,rfl,x,dx,t,r2,rfl,upd_same,hs.tail.tail,λps l' e=>?_,λm e=>?_⟩
      ·rw[upd_upd];obtain⟨h1,h2,_⟩:=zL e;have hs3:oG t l':=⟨(show l' <:+ r2 from⟨ps,h1.symm⟩).trans hs.tail.tail.sfx,hs.few⟩;have z:=q (ds,some ps) l' (by rw[eX,e]) hs3;cases ps with
       |nil=>exact absurd rfl h2
       |cons p ps=>exact⟨by show 2<=sizeLine;rw[aB];lia,z⟩
      ·exact(qe m (by rw[eX,e])).upd
     ·rw[st1 cS]at e;cases e
    ·rw[ak (by simp[z])];have e:jj ds (c::r2)=.ok (ds,some []) (c::r2):=by unfold jj;dsimp only;rw[ai z]
     exact⟨rfl,tJ,by show 2<=sizeLine;rw[aB];lia,ret1 e⟩
  ·rw[st1 xS]at e;cases e
 refine⟨_,(pss_cons (Lz (i:=1) iY.nd rfl (Or.inl rfl) iz)
 (pss_cons (ps_if (pt_not (pt_val (gZ (jx T) hr pass0 (pv 0) (pa_cons pe_str pa_nil)) (λ_=>rfl)))
 (pss_cons (ps_set (i:=1) iY.nd rfl (Or.inl rfl) (iK (sG T) hr jF (pv 0)))
 (pss_one (ps_if (pt_not (pt_val (gZ (jx T) hr pass0 (pv 0) (pa_cons pe_str pa_nil)) (λ_=>rfl)))
 (pss_one (ps_ret (pe_tup (pa_cons (iZ 1) (pa_cons iz pa_nil)))))
 pss_nil)))
 pss_nil)
 hR)),?_⟩
 refine⟨tJ,λu e=>?_⟩;have e:u=1:=e;subst e;refine⟨_,rfl,x,dx,_,rfl,hx,rfl,x,dx,t,_,l,rfl,hx,hs,_,rfl,?_⟩;dsimp only;rw[st1 xS];have other:(∀c r,l=c::r->c≠120)->iH l=match j7 l with
   | .bad m=>.bad m
   | .ok ds r'=>j8 ds r':=λh=>by
  cases l with
  |nil=>rfl
  |cons c r=>unfold iH;dsimp only;rw[ai (h c r rfl)];all_goals (cases j7 (c::r)<;>rfl)
 have part:(∀c r,l=c::r->c≠120)->∀ds l',j7 l=.ok ds l' -> oG t l'/\ds≠[]/\iH l=j8 ds l':=λh ds l' e=>by obtain⟨h1,h2,_⟩:=Aj e;exact⟨⟨(show l' <:+ l from⟨ds,h1.symm⟩).trans hs.sfx,hs.few⟩,h2,by rw[other h,e]⟩
 by_cases z:∃r,l=120::r
 ·obtain⟨r,rfl⟩:=z;rw[ai (by simp)];have eT:iH (120::r)=jj [] r:=rfl;have y:=rest [] r hs (λtm l' e=>q tm l' (eT.trans e)) λm e=>qe m (eT.trans e);rw[yj hx]at y;exact y
 ·have z':∀c r,l=c::r->c≠120:=λc r e h=>z ⟨r,by rw[e,h]⟩;rw[ak (by cases l with|nil=>rfl|cons c r=>simp[z' c r rfl])];refine⟨_,rfl,x,dx,_,rfl,hx,rfl,x,dx,t,l,rfl,hx,hs,λds l' e=>?_,λm e=>qe m (by rw[other z',e])⟩;obtain⟨hs2,hn,eT⟩:=part z' ds l' e;have en:zN ds=((fv ds:Nat):Int):=ai hn;refine⟨_,rfl,x,dx,_,rfl,upd_same,rfl,x,dx,t,_,l',rfl,upd_same,hs2,_,rfl,?_⟩;dsimp only;rw[st1 xS];have ret0:j8 ds l'=.ok (ds,none) l' -> ∀p,upd H x (lD cRd dx t l') p=none->Q (.ref p) (upd (upd H x (lD cRd dx t l')) p (.tup [.int ((fv ds:Nat):Int),.int 0])):=λe=>by rw[<- en];exact q _ _ (eT.trans e) hs2
  cases l' with
  |nil=>exact⟨rfl,tJ,by show 2<=sizeLine;rw[aB];lia,ret0 rfl⟩
  |cons c r=>
   dsimp only;by_cases y:c=120
   ·subst y;rw[ai (by simp)];have eR:j8 ds (120::r)=jj ds r:=rfl;have v:=rest ds r hs2 (λtm l' e=>q tm l' (eT.trans (eR.trans e))) λm e=>qe m (eT.trans (eR.trans e));rw[en]at v;exact v
   ·rw[ak (by simp[y])];exact⟨rfl,tJ,by show 2<=sizeLine;rw[aB];lia,ret0 (by unfold j8;dsimp only;rw[ai y])⟩
def su (row:List Int)(g:Int)(tm:lJ):List Int:=row.set (Jg tm.2).toNat (row.getD (Jg tm.2).toNat 0+g*zN tm.1)
theorem zQ {row:Li}{g:Int}{tm:lJ}:(su row g tm).length=row.length:=bY
theorem O9 {tm:lJ}(h:m5 tm):0<=Jg tm.2/\Jg tm.2<=40:=by
 obtain⟨ds,o⟩:=tm
 match o with
 |none=>exact⟨by show(0:Int)<=0;decide,by show(0:Int)<=40;decide⟩
 |some []=>exact⟨by show(0:Int)<=1;decide,by show(1:Int)<=40;decide⟩
 |some (p::ps)=>have:=(h.pow _ rfl).2.2;show(0:Int)<=((fv (p::ps):Nat):Int)/\((fv (p::ps):Nat):Int)<=40;lia
def Q9 (cBT C:Addr):Sp:=λvs H Q E=>∃(a x dx:Addr) (t:Str) (l:List Nat) (row:List Int) (g:Int),vs=[.ref a,.int g,.ref x]/\(g=1\/g = -1)/\H a=some (.lst (row.map V.int))/\row.length=41/\H x=some (lD C dx t l)/\oG t l /\
 (∀tm l',iH l=.ok tm l' -> oG t l' -> ∀H',H' x=some (lD C dx t (gA l'))->H' a=some (.lst ((su row g tm).map V.int))->(∀b o,b≠x->b≠a->H b=some o->H' b=some o)->Q .non H')/\∀m,iH l=.bad m->vO cBT E H C x dx t m
theorem rW (T:Top K mg cFE cBP cBT cBA cBL cNO cHP cNW cNP cNN cK cW cRd):Ef P w K mg base 6 "add_term" ["sums","factor","reader"] (Q9 cBT cRd):=by
 obtain⟨f,fd,Fu,b,m⟩:=T.Ce.ex;refine⟨f,fd,?_,b,Fu.kp,m⟩;obtain⟨oc,od,kV,doc,pm,an,cdv,ct,osl,rfl,lk,hcd⟩:=Fu.ex;refine fn_of lk hcd rQ (λvs H Q E h=>?_) λA outer s H vs Q E hr h=>?_
 ·obtain⟨a,x,dx,t,l,row,g,rfl,_⟩:=h;rfl
 obtain⟨a,x,dx,t,l,row,g,rfl,hg,ha,hl,hx,hs,q,qe⟩:=h;have ax:a≠x:=ne_of ha hx (λz=>nomatch z);refine⟨_,(pss_cons (ps_set (i:=3) rQ.nd rfl (Or.inl rfl) (iK (vY T) hr jF (pv 2)))
 (pss_cons (ps_augS (pv 0) (pe_ix ix_tup (pv 3) iz (λ_ _=>rfl)) Hi (pe_op yr (iZ 1) (pe_ix ix_tup (pv 3) iz (λ_ _=>rfl))) ip_add set_list)
 (pss_one (ps_expr (iK (lC T) hr pass0 (pv 2)))))),?_⟩
 refine⟨_,rfl,x,dx,_,rfl,hx,rfl,x,dx,t,l,rfl,hx,hs,λtm l' e hs' p hp=>?_,qe⟩;have gd:=(uO e).2;obtain⟨p0,p1⟩:=O9 gd;obtain⟨k,ek⟩:=bH p0;have hk:k<row.length:=by lia
 have px:p≠x:=λz=>by rw[z,upd_same]at hp;cases hp
 have pa:p≠a:=λz=>by rw[z,upd_ne ax,ha]at hp;cases hp
 have hA:upd (upd H x (lD cRd dx t l')) p (.tup [.int (zN tm.1),.int (Jg tm.2)]) a=some (.lst (row.map V.int)):=by rw[upd_ne (a9 pa),upd_ne ax];exact ha
 have hk2:(row.map V.int)[k]?=some (.int (row.getD k 0)):=by rw[aT,ap hk,gQ,ap hk];rfl
 have mk:IntMulOk g (zN tm.1):=CMul.ok (.inl (by rcases hg with rfl|rfl<;>exact⟨by decide,by decide⟩));refine⟨_,rfl,_,rfl,tJ,p,_,_,_,rfl,rfl,SqT.of upd_same,rfl,a,_,_,.int (row.getD k 0),rfl,rfl,SqL.of hA,by rw[ek];exact atI_nat hk2,?_⟩;refine⟨rfl,_,rfl,tJ,p,_,_,_,rfl,rfl,SqT.of upd_same,rfl,_,_,rfl,rfl,mk,_,_,rfl,rfl,a,_,_,k,rfl,rfl,hA,?_,?_⟩
 ·rw[ek,ag];unfold ixN;rw[ak (bZ k),ak (dj.mpr hk)];rfl
 ·have eS:(row.map V.int).set k (.int (row.getD k 0+g*zN tm.1))=(su row g tm).map V.int:=by unfold su;rw[List.map_set,ek];rfl
  have hX:upd (upd (upd H x (lD cRd dx t l')) p (.tup [.int (zN tm.1),.int (Jg tm.2)])) a (.lst ((row.map V.int).set k (.int (row.getD k 0+g*zN tm.1)))) x=some (lD cRd dx t l'):=by rw[upd_ne (a9 ax),upd_ne (a9 px),upd_same]
  refine⟨_,rfl,x,dx,_,rfl,hX,rfl,x,dx,t,l',rfl,hX,hs',?_⟩;refine q tm l' e hs' _ upd_same ?_ λb o bx ba hb=>?_
  ·rw[upd_ne ax,upd_same];exact congrArg (λz=>some (HO.lst z)) eS
  ·have bp:b≠p:=λz=>by rw[upd_ne px]at hp;rw[z,hp]at hb;cases hb
   rw[upd_ne bx,upd_ne ba,upd_ne bp,upd_ne bx];exact hb
def rowOf (ts:List (Bool×lJ)):List Int:=ts.foldl (λrow u=>su row (if u.1 then -1 else 1) u.2) (List.replicate 41 0)
theorem t7 (ts:List (Bool×lJ))(g:Bool)(tm:lJ):rowOf (ts++[(g,tm)])=su (rowOf ts) (if g then -1 else 1) tm:=by unfold rowOf;rw[ey];rfl
theorem nZ (ts:List (Bool×lJ)):(rowOf ts).length=41:=by
 unfold rowOf
 suffices h:∀(ts:List (Bool×lJ)) (row:List Int),row.length=41->(ts.foldl (λrow u=>su row (if u.1 then -1 else 1) u.2) row).length=41 from h ts _ (bv)
 intro ts
 induction ts with
 |nil=>exact λ_ h=>h
 |cons u ts ih=>exact λrow h=>ih _ (by rw[zQ];exact h)
structure Jr (H:Hp)(C x dx a:Addr)(t:Str)(l:List Nat)(row:List Int)(H':Hp):Prop where
 rd:H' x=some (lD C dx t l)
 sm:H' a=some (.lst (row.map V.int))
 same:Same H H'
 sfx:oG t l
theorem Jr.move {H H':Hp}{C x dx a:Addr}{t:Str}{l l':List Nat}{row:Li}(j:Jr H C x dx a t l row H')(hx:H x=none)(ax:a≠x)(s:oG t l'):Jr H C x dx a t l' row (upd H' x (lD C dx t l')):=
 ⟨upd_same,by rw[upd_ne ax];exact j.sm,λb o hb=>by rw[upd_ne (λz=>by rw[z,hx]at hb;cases hb)];exact j.same b o hb,s⟩
theorem Jr.bad {H H':Hp}{C x dx a cBT:Addr}{E:XK}{t:Str}{l:List Nat}{row:Li}{m:Nat}(j:Jr H C x dx a t l row H')(hx:H x=none)
  (h:∀H2 d,Same H H2->H d=none->H2 d=some (.xd [("place",.int ((t.length-m:Nat):Int))])->E (.ref cBT) (some d) H2):vO cBT E H' C x dx t m:=λd l' hd=>by
 have nd:H d=none:=by
  cases z:H d with
  |none=>rfl
  |some o=>obtain⟨u,e⟩:=(j.same d o z).some;rw[e]at hd;cases hd
 refine h _ d (λb o hb=>?_) nd upd_same;rw[upd_ne (λz=>by rw[z,nd]at hb;cases hb),upd_ne (λz=>by rw[z,hx]at hb;cases hb)];exact j.same b o hb
theorem Jr.next {H H' H2:Hp}{C x dx a:Addr}{t:Str}{l l':List Nat}{row row':Li}(j:Jr H C x dx a t l row H')(hx:H x=none)(r:H2 x=some (lD C dx t l'))(s:H2 a=some (.lst (row'.map V.int)))(k:∀b o,b≠x->b≠a->H' b=some o->H2 b=some o)(sf:oG t l')(ha:H a=none):Jr H C x dx a t l' row' H2:=
 ⟨r,s,λb o hb=>by
  obtain⟨u,e⟩:=(j.same b o hb).some;have z:=j.same b o hb;rw[e]at z;rw[k b u (λy=>by rw[y,hx]at hb;cases hb) (λy=>by rw[y,ha]at hb;cases hb) e];exact z,sf⟩
def O8 (cBT:Addr):Sp:=λvs H Q E=>∃t:Str,vs=[.str t]/\t.length<=10000/\(∀ts,xT t.cps.toList=.ok ts->∀H' a,Same H H' -> H a=none->H' a=some (.lst ((f9 ((rowOf ts).map (pl 0))).map V.int))->Q (.ref a) H') /\
 ∀m,xT t.cps.toList=.error m->∀H2 d,Same H H2->H d=none->H2 d=some (.xd [("place",.int ((t.length-m:Nat):Int))])->E (.ref cBT) (some d) H2
theorem Ka (T:Top K mg cFE cBP cBT cBA cBL cNO cHP cNW cNP cNN cK cW cRd):Ef P w K mg base 7 "read" ["text"] (O8 cBT):=by
 obtain⟨f,fd,Fu,b,m⟩:=T.NP.ex;refine⟨f,fd,?_,b,Fu.kp,m⟩;obtain⟨oc,od,kV,doc,pm,an,cdv,ct,osl,rfl,lk,hcd⟩:=Fu.ex;refine fn_of lk hcd pM (λvs H Q E h=>?_) λA outer s H vs Q E hr h=>?_
 ·obtain⟨t,rfl,_⟩:=h;rfl
 obtain⟨t,rfl,ht,q,qe⟩:=h;have hs0:oG t t.cps.toList:=⟨List.suffix_refl _,ht⟩;obtain⟨tr,hR,rest⟩:∃tr,PSs (cxOf (j9 P w) P w K mg base ["text","reader","sums","factor"] "read" (defScope xu) f cdv A outer s H E) ((defBody xu).drop 4) tr/\∀(x dx a:Addr) (g:Bool) (l2:List Nat) (H4:Hp),H x=none->H a=none->a≠x->Jr H cRd x dx a t l2 (rowOf []) H4->xT t.cps.toList=Bk g l2 ->
   tr { nx:=λ_ H'=>Q .non H',rt:=Q } [some (.str t),some (.ref x),some (.ref a),some (.int (if g then -1 else 1))] H4:=by
  refine⟨_,(pss_cons (ps_expr (vd (rW T) jF hr (pa_cons (pv 2) (pa_cons (iZ 3) (pa_cons (pv 1) pa_nil)))))
 (pss_cons (ps_while ei (pt_not (pt_val (iK (wZ T) hr pass0 (pv 1)) (λ_=>rfl)))
 (pss_cons (ps_set (i:=3) pM.nd rfl (Or.inl rfl) (iK (oR T) hr jF (pv 1)))
 (pss_one (ps_expr (vd (rW T) jF hr (pa_cons (pv 2) (pa_cons (iZ 3) (pa_cons (pv 1) pa_nil))))))))
 (pss_one (ps_ret (qj (uy T) hr (pa_cons (wI (wz T) hr pass0) (pa_cons (pv 2) pa_nil))))))),λx dx a g l2 H4 hx ha ax J eA=>?_⟩
  refine⟨_,rfl,rfl,_,rfl,a,x,dx,t,l2,rowOf [],(if g then -1 else 1),rfl,by cases g;exact .inl rfl;exact .inr rfl,J.sm,nZ _,J.rd,J.sfx,λtm l' e hs' H5 r5 s5 k5=>?_,λm e=>J.bad hx (qe m (eA.trans ((G4 g l2).1 m e)))⟩;have J5:Jr H cRd x dx a t (gA l') (rowOf ([]++[(g,tm)])) H5:=J.next hx r5 (by rw[t7];exact s5) k5 hs'.skip ha;have eB:xT t.cps.toList=Hd ([]++[(g,tm)]) (Bf (gA l')):=by rw[eA,(G4 g l2).2 tm l' e,<- yQ];cases putK g tm (Bf (gA l'))<;>rfl
  refine⟨λn σ H'=>∃(ts:List (Bool×lJ)) (l:List Nat) (fac:Int),n=l.length/\σ=[some (.str t),some (.ref x),some (.ref a),some (.int fac)]/\Jr H cRd x dx a t l (rowOf ts) H'/\gA l=l/\xT t.cps.toList=Hd ts (Bf l),⟨_,_,_,_,rfl,rfl,J5,mX _,eB⟩,?_⟩;rintro n σ H' ⟨ts,l,fac,rfl,rfl,J6,hsk,eC⟩;refine⟨_,rfl,x,dx,_,rfl,J6.rd,rfl,x,dx,t,l,rfl,J6.rd,J6.sfx,_,rfl,?_⟩;dsimp only;cases l with
  |nil=>
   have eD:xT t.cps.toList=.ok ts:=by rw[eC];show Except.ok (ts++[])=_;rw[aU]
   have q:=q ts eD;rw[ai (by exact aD)];refine λx2 dx2 n1 n2 ne=>⟨x2,dx2,rfl,upd_same,rfl,_,rfl,?_⟩;rw[upd_upd];have ax2:a≠x2:=λy=>by rw[<- y,J6.sm]at n1;cases n1
   have adx:a≠dx2:=λy=>by rw[<- y,J6.sm]at n2;cases n2
   have no:∀b,H' b=none->H b=none:=λb hb=>by
    cases y:H b with
    |none=>rfl
    |some o=>obtain⟨u,e⟩:=(J6.same b o y).some;rw[hb]at e;cases e
   refine⟨[.ob 0 0,.ints (rowOf ts)],λ_=>false,(λ_ z=>by cases z),⟨_,_,rfl,⟨x2,rfl,?_⟩,_,_,rfl,⟨a,rfl,.inl ?_⟩,rfl⟩,⟨0,rowOf ts,rfl,by rw[nZ];decide⟩,λa2 H7 s7 n7 e7=>q H7 a2 ?_ ?_ e7⟩
   ·exact Rx _ x2 dx2 (by rw[ju rfl];exact upd_same)
   ·rw[ju rfl,upd_ne ax2,upd_ne adx];exact J6.sm
   ·refine Same.trans (λb o hb=>?_) s7;rw[upd_ne (λy=>by rw[y,no x2 n1]at hb;cases hb),upd_ne (λy=>by rw[y,no dx2 n2]at hb;cases hb)];exact J6.same b o hb
   ·have a2x:a2≠x2:=λy=>by rw[y,upd_same]at n7;cases n7
    rw[upd_ne a2x]at n7;have a2d:a2≠dx2:=λy=>by rw[y,upd_same]at n7;cases n7
    rw[upd_ne a2d]at n7;exact no a2 n7
  |cons c r=>
   rw[ak (by rfl)];have h32:=ux hsk;have mv:∀l',oG t l' -> Jr H cRd x dx a t l' (rowOf ts) (upd H' x (lD cRd dx t l')):=λl' s=>J6.move hx ax s;refine⟨λσ' H2=>∃(ts':List (Bool×lJ)) (l':List Nat) (fac:Int),l'.length<(c::r).length/\σ'=[some (.str t),some (.ref x),some (.ref a),some (.int fac)]/\Jr H cRd x dx a t l' (rowOf ts') H2/\gA l'=l'/\xT t.cps.toList=Hd ts' (Bf l'),λσ' H2 ⟨ts',l',fac,h1,h2⟩=>⟨l'.length,h1,ts',l',fac,rfl,h2⟩,?_⟩;refine⟨_,rfl,x,dx,_,rfl,J6.rd,rfl,x,dx,t,c::r,rfl,J6.rd,J6.sfx,λc' r' e z=>?_,λe=>?_⟩
   ·cases e;have J7:=mv (gA r) J6.sfx.tail.skip;refine⟨_,rfl,rfl,_,rfl,a,x,dx,t,gA r,rowOf ts,sgn c,rfl,by unfold sgn;split<;>simp,J7.sm,nZ _,J7.rd,J7.sfx,λtm l' e hs' H5 r5 s5 k5=>?_,λm e=>J7.bad hx (qe m (by rw[eC,(uV z).1 m e];rfl))⟩;refine⟨ts++[(decide (c=45),tm)],gA l',sgn c,?_,rfl,J7.next hx r5 ?_ k5 hs'.skip ha,mX _,?_⟩
    ·have h1:=jg l';have h2:=oF e;have h3:=jg r;show _<r.length+1;lia
    ·rw[t7,show(if decide (c=45)=true then(-1:Int) else 1)=sgn c from by unfold sgn;by_cases y:c=45<;>simp[y]];exact s5
    ·rw[eC,(uV z).2 tm l' e,yQ]
   ·exact J6.bad hx (qe _ (by rw[eC,Ml h32 (e c r rfl)];rfl))
 refine⟨_,(pss_cons (ps_set (i:=1) pM.nd rfl (Or.inl rfl) (Ip (FW T) hr pass0 (pa_cons (pv 0) pa_nil)))
 (pss_cons (ps_set (i:=2) pM.nd rfl (Or.inl rfl) (pe_op op_rep (pe_lst (pa_cons iz pa_nil)) (O2 (xg (by rfl) T.m7) iz)))
 (pss_cons (ps_expr (iK (lC T) hr pass0 (pv 1)))
 (pss_cons (ps_set (i:=3) pM.nd rfl (Or.inl rfl) (pe_ifExp (pt_val (gZ (jx T) hr pass0 (pv 1) (pa_cons pe_str pa_nil)) (λ_=>rfl)) (iK (oR T) hr jF (pv 1)) iz))
 hR)))),?_⟩
 refine⟨_,rfl,λx dx nx ndx dxx=>⟨x,dx,t,rfl,upd_same,rfl,?_⟩⟩;rw[upd_upd];have S1:Same H (upd (upd H dx (.own x)) x (lD cRd dx t t.cps.toList)):=λb o hb=>by rw[upd_ne (λz=>by rw[z,nx]at hb;cases hb),upd_ne (λz=>by rw[z,ndx]at hb;cases hb)];exact .of hb
 have X1:upd (upd H dx (.own x)) x (lD cRd dx t t.cps.toList) x=some (lD cRd dx t t.cps.toList):=upd_same;generalize upd (upd H dx (.own x)) x (lD cRd dx t t.cps.toList)=H1 at S1 X1;refine⟨tJ,by show 1<=sizeLine;rw[aB];lia,λz hz=>?_⟩;refine⟨⟨tJ,tJ⟩,z,_,_,rfl,rfl,upd_same,by show -(2:Int)^63<=40+1;decide,by show(40:Int)+1<2^63;decide,by show 1*41<=sizeLine;rw[aB];decide,λa na=>?_⟩;have az:a≠z:=λy=>by rw[y,upd_same]at na;cases na
 have a1:H1 a=none:=by rw[upd_ne az]at na;exact na
 have ax:a≠x:=λy=>by rw[y,X1]at a1;cases a1
 have zx:z≠x:=λy=>by rw[y,X1]at hz;cases hz
 have no:∀b,H1 b=none->H b=none:=λb hb=>by
  cases y:H b with
  |none=>rfl
  |some o=>obtain⟨u,e⟩:=(S1 b o y).some;rw[hb]at e;cases e
 have J0:Jr H cRd x dx a t t.cps.toList (rowOf []) (upd (upd H1 z (.lst [.int 0])) a (.lst (List.replicate (Int.toNat (40+1)) [V.int 0]).flatten)):=by
  refine⟨by rw[upd_ne (a9 ax),upd_ne (a9 zx)];exact X1,?_,λb o hb=>?_,hs0⟩
  ·rw[upd_same];exact congrArg (λy=>some (HO.lst y)) (by decide +kernel)
  ·rw[upd_ne (λy=>by rw[y,no a a1]at hb;cases hb),upd_ne (λy=>by rw[y,no z hz]at hb;cases hb)];exact S1 b o hb
 generalize hH:upd (upd H1 z _) a _=H2;have J0:Jr H cRd x dx a t t.cps.toList (rowOf []) H2:=by rw[<- hH];exact J0
 clear hH;refine⟨_,rfl,x,dx,_,rfl,J0.rd,rfl,x,dx,t,_,rfl,J0.rd,J0.sfx,?_⟩;have J1:=J0.move (l':=gA t.cps.toList) nx ax hs0.skip;generalize upd H2 x (lD cRd dx t (gA t.cps.toList))=H3 at J1;have eA:∀l1,gA t.cps.toList=l1->xT t.cps.toList=match l1 with
  |[]=>Bk false []
  |c::r=>if c=43\/c=45 then Bk (decide (c=45)) (gA r) else Bk false (c::r):=λl1 e=>by unfold xT;rw[e];all_goals (cases l1<;>rfl)
 generalize el:gA t.cps.toList=l1 at J1;have eA:=eA l1 el;refine⟨_,rfl,x,dx,_,rfl,J1.rd,rfl,x,dx,t,_,l1,rfl,J1.rd,J1.sfx,_,rfl,?_⟩;have hna:H a=none:=no a a1;have sp:("+-":Str).cps.toList=[43,45]:=by decide +kernel
 rw[sp];dsimp only;cases l1 with
 |nil=>exact⟨tJ,rest x dx a false [] H3 nx hna ax J1 eA⟩
 |cons c r=>
  dsimp only at eA;by_cases z:c=43\/c=45
  ·rw[ak z]at eA;rw[ak (by simpa [JQ] using z)];refine⟨_,rfl,x,dx,_,rfl,J1.rd,rfl,x,dx,t,c::r,rfl,J1.rd,J1.sfx,λc' r' e _=>?_,λe=>absurd z (e c r rfl)⟩;cases e;have y:=rest x dx a (decide (c=45)) (gA r) _ nx hna ax (J1.move nx ax J1.sfx.tail.skip) eA;rw[show(if decide (c=45)=true then(-1:Int) else 1)=sgn c from by unfold sgn;by_cases y:c=45<;>simp[y]]at y;exact y
  ·rw[ai z]at eA;rw[ai (by simpa [JQ] using z)];exact⟨tJ,rest x dx a false (c::r) H3 nx hna ax J1 eA⟩
def m8 (t:Str):Int ⊕ List Int:=match xT t.cps.toList with
 | .error m=>.inl ((t.length-m:Nat):Int)
 | .ok ts=>.inr (f9 ((rowOf ts).map (pl 0)))
theorem Lw (T:Top K mg cFE cBP cBT cBA cBL cNO cHP cNW cNP cNN cK cW cRd):Ef P w K mg base 7 "read" ["text"] (Tr cBT (λt=>t.length<=10000) m8):=by obtain⟨f,fd,F,b,kp,m⟩:=(Ka (P:=P) (w:=w) (base:=base) T).ex;refine⟨f,fd,F.imp λvs H Q E h=>?_,b,kp,m⟩;obtain⟨t,rfl,hp,q,qe⟩:=h;exact⟨t,rfl,hp,λts e=>q _ (by unfold m8;rw[e]),λm e=>qe _ (by unfold m8;rw[e])⟩
theorem Kz {f:Li}(h:∀j,j<f.length->f.getD j 0=0):mC (f9 f)=("0":Str):=by
 have e:f9 f=[]:=by
  by_cases c:f9 f=[]
  ·exact c
  ·refine absurd ?_ (kI f c);rw[kJ];by_cases d:(f9 f).length-1<f.length
   ·exact h _ d
   ·exact jB (by lia)
 unfold mC;rw[ak e]
theorem JR {f:Li}{t:Nat}(ht:t<f.length)(h0:f.getD t 0≠0)(hz:∀j,t<j->j<f.length->f.getD j 0=0):mC (f9 f)=Bm (f.getD t 0)++(lB (f.getD t 0) (t:Int)++jh f t):=by
 have l1:t<(f9 f).length:=by
  by_cases c:t<(f9 f).length
  ·exact c
  ·refine absurd ?_ h0;rw[<- kJ];exact jB (by lia)
 have ne:f9 f≠[]:=λz=>by rw[z]at l1;exact absurd l1 (dO _)
 have l2:=lQ f;have l3:(f9 f).length-1=t:=by
  by_cases c:(f9 f).length-1=t
  ·exact c
  ·refine absurd ?_ (kI f ne);rw[kJ];exact hz _ (by lia) (by lia)
 unfold mC;rw[ai ne,l3];unfold rE;rw[kJ,wB (kJ f)]
theorem Ru (n:Int):qW (.lst [.str (" + ":Str),.str (" - ":Str)]) (if n<0 then 1 else 0)=.str (DR n):=by
 unfold DR;by_cases c:n<0
 ·rw[ak c,ak c];rfl
 ·rw[ai c,ai c];rfl
theorem oW (T:Top K mg cFE cBP cBT cBA cBL cNO cHP cNW cNP cNN cK cW cRd):Ok P w K mg base 1 "term_shown" ["number","power"] (yK K (qG cW) (λas=>∃n k,as=[.int n,.int k]/\(n.natAbs:Int)<10^110/\0<=k/\k<1000) λas=>match as with
  |[.int n,.int k]=>.str (lB n k)
  |_=>.non):=by
 refine Bl T.xZ lL (λas ⟨a,b,h,_⟩=>by rw[h];rfl) (λf cdv A outer s H E hr=>⟨_,(fV (gH (i:=2) lL.nd rfl (Or.inl rfl) (mJ T.qw (Bp T.GK (xn 0))))
 (fV (gJ (lw (xn 1) fU)
 (fX (gr (xs 2)))
 gC)
 (fV (gH (i:=3) lL.nd rfl (Or.inl rfl) (Dz (xV (xs 2) gF) gF (xs 2)))
 (fX (gr (Dz (lw (xn 1) fU) (ig (xs 3) gF) (Qu (xs 3) (xn 1)))))))),λas hp=>?_⟩)
 obtain⟨n,k,rfl,hn,k0,hk⟩:=hp;have nn:(((n.natAbs:Int)).natAbs:Int)<10^110:=hn;have ab:(if n<0 then -n else n)=(n.natAbs:Int):=by split<;>lia
 have lab:(if n<0 then -n else n).natAbs.log2<1920:=by rw[ab];exact uH nn
 have h1:=jb (bZ _) hn;have h2:=jb k0 (lu hk);have lx:("x":Str).length=1:=by decide +kernel
 have lx2:("x^":Str).length=2:=by decide +kernel
 have l0:("":Str).length=0:=by decide +kernel
 refine⟨⟨rfl,lab⟩,λfg efg=>?_⟩;have efg:fg=gm (if n<0 then -n else n):=efg;rw[ab]at efg;refine⟨⟨rfl,tJ⟩,λq=>?_,λq=>?_⟩
 ·have q:k=0:=q;refine⟨rfl,?_⟩;show PV.str fg=PV.str (lB n k);unfold lB;rw[ak q,efg]
 have q:¬k=0:=q;refine⟨⟨⟨rfl,tJ⟩,λ_=>tJ,λ_=>rfl⟩,λah eah=>?_⟩;have eah:ah=if fg=("1":Str) then("":Str) else fg:=eah;have eah:ah=if n.natAbs=1 then("":Str) else gm (n.natAbs:Int):=by
  rw[eah,efg];by_cases c:n.natAbs=1
  ·rw[ak c,ak ((Dm (bZ _)).mpr (by lia))]
  ·rw[ai c,ai (λz=>c (by have:=(Dm (bZ _)).mp z;lia))]
 have la:ah.length<=110:=by
  rw[eah];split
  ·rw[l0];lia
  ·exact h1.2
 have kk:(k.natAbs:Int)<10^110:=by
  have:=lu hk;generalize (10:Int)^110=Z at *
  lia
 refine⟨⟨⟨rfl,tJ⟩,λ_=>⟨rfl,tJ,by show ah.length+("x":Str).length<=sizeLine;rw[lx];exact sz (by lia)⟩,λ_=>⟨rfl,rfl,by show ah.length<=sizeLine;exact sz (by lia),by show(ah++("x^":Str)).length<=sizeLine;rw[len_app,lx2];exact sz (by lia),uH kk,by show(ah++("x^":Str)++gm k).length<=sizeLine;rw[len_app,len_app,lx2];exact sz (by lia)⟩⟩,?_⟩;show PV.str (if k=1 then ah++("x":Str) else ah++("x^":Str)++gm k)=PV.str (lB n k);unfold lB;rw[ai q,<- eah];by_cases c:k=1
 ·rw[ak c,ak c]
 ·rw[ai c,ai c,g8]
theorem Dn (T:Top K mg cFE cBP cBT cBA cBL cNO cHP cNW cNP cNN cK cW cRd):Ok P w K mg base 1 "_law_term" ["_law_number","_law_k"] (yK K (qG cW) (λas=>∃n k,as=[.int n,.int k]/\(n.natAbs:Int)<10^110/\0<=k/\k<1000) λas=>match as with
  |[.int n,.int k]=>.str (lB n k)
  |_=>.non):=by
 refine Bl T.Oe tK (λas ⟨a,b,h,_⟩=>by rw[h];rfl) (λf cdv A outer s H E hr=>⟨_,(fV (gH (i:=2) tK.nd rfl (Or.inl rfl) gF)
 (lr (gJ (lw (xn 1) fU)
 (fX (gH (i:=2) tK.nd rfl (Or.inl rfl) gF))
 gC)
 (lr (gJ (uR (xn 1) fU)
 (fX (gH (i:=2) tK.nd rfl (Or.inl rfl) (ig gF (mJ T.qw (xn 1)))))
 gC)
 (fV (gJ (L2.PW.pt (ph (uR (xn 1) fU) (oH (lw (Bp T.GK (xn 0)) fU))))
 (fX (gr (xs 2)))
 gC)
 (fX (gr (ig (mJ T.qw (Bp T.GK (xn 0))) (xs 2)))))))),λas hp=>?_⟩)
 obtain⟨n,k,rfl,hn,k0,hk⟩:=hp;have nn:(((n.natAbs:Int)).natAbs:Int)<10^110:=hn;have ab:(if n<0 then -n else n)=(n.natAbs:Int):=by split<;>lia
 have lab:(if n<0 then -n else n).natAbs.log2<1920:=by rw[ab];exact uH nn
 have h1:=jb (bZ _) hn;have h2:=jb k0 (lu hk);have lx:("x":Str).length=1:=by decide +kernel
 have lx2:("x^":Str).length=2:=by decide +kernel
 have l0:("":Str).length=0:=by decide +kernel
 have kk:(k.natAbs:Int)<10^110:=by
  have:=lu hk;generalize (10:Int)^110=Z at *
  lia
 refine⟨tJ,λt0 et0=>?_⟩;have et0:t0=("":Str):=et0;refine⟨λρ=>∃t,ρ=[.fr (.int n),.fr (.int k),.fr (.str t)]/\t=if k=1 then("x":Str) else "",⟨⟨rfl,tJ⟩,λq=>⟨tJ,λt et=>⟨t,rfl,?_⟩⟩,λq=>⟨t0,rfl,?_⟩⟩,?_⟩
 ·have q:k=1:=q;have et:t=("x":Str):=et;rw[ak q,et]
 ·have q:¬k=1:=q;rw[ai q,et0]
 rintro ρ ⟨t1,rfl,et1⟩;refine⟨λρ=>∃t,ρ=[.fr (.int n),.fr (.int k),.fr (.str t)]/\t=if k=0 then("":Str) else if k=1 then("x":Str) else("x^":Str)++gm k,⟨⟨rfl,tJ⟩,λq=>⟨⟨tJ,⟨rfl,uH kk⟩,by show("x^":Str).length+(gm k).length<=sizeLine;rw[lx2];exact sz (by lia)⟩,λt et=>⟨t,rfl,?_⟩⟩,λq=>⟨t1,rfl,?_⟩⟩,?_⟩
 ·have q:k > 1:=q;have et:t=("x^":Str)++gm k:=et;rw[ai (by lia),ai (by lia),et]
 ·have q:¬k > 1:=q;rw[et1];by_cases c:k=1
  ·rw[ak c,ai (by lia),ak c]
  ·rw[ai c,ak (by lia)]
 rintro ρ ⟨t,rfl,et⟩;have tl:t.length<=2+110:=by
  rw[et];split
  ·rw[l0];lia
  ·split
   ·rw[lx];lia
   ·rw[len_app,lx2];lia
 refine⟨⟨⟨rfl,tJ⟩,λ_=>⟨rfl,tJ⟩⟩,λq=>?_,λq=>?_⟩
 ·have q:k > 0/\(if n<0 then -n else n)=1:=q;have q0:=q.1;have q1:=q.2;refine⟨rfl,?_⟩;show PV.str t=PV.str (lB n k);unfold lB;have k0':¬k=0:=by lia
  have na:n.natAbs=1:=by lia
  rw[et,ai k0',ai k0',ak na];exact congrArg PV.str (JX _).symm
 ·have q:¬(k > 0/\(if n<0 then -n else n)=1):=q;refine⟨⟨⟨rfl,lab⟩,rfl,by show(gm (if n<0 then -n else n)).length+t.length<=sizeLine;rw[ab];exact sz (by lia)⟩,?_⟩;show PV.str (gm (if n<0 then -n else n)++t)=PV.str (lB n k);unfold lB;rw[ab]at q;rw[et,ab];by_cases c:k=0
  ·rw[ak c,ak c];exact congrArg PV.str (lY _)
  ·have na:¬n.natAbs=1:=by lia
   rw[ai c,ai c,ai na]
theorem nb {ns:Li}(h:∀m∈ns,(m.natAbs:Int)<10^110)(n:Nat):((ns.getD n 0).natAbs:Int)<10^110:=by
 by_cases c:n<ns.length
 ·exact h _ (FM.getD_mem c)
 ·rw[jB (by lia)];decide +kernel
theorem G7 (T:Top K mg cFE cBP cBT cBA cBL cNO cHP cNW cNP cNN cK cW cRd):Ok P w K mg base 5 "shown" ["f"] (yK K (qG cW) (λas=>∃f,as=[.ints f]/\f.length<=100/\∀m∈f,(m.natAbs:Int)<10^110) λas=>match as with
  |[.ints f]=>.str (mC (f9 f))
  |_=>.non):=by
 refine Bl T.Ku kO (λas ⟨a,h,_⟩=>by rw[h];rfl) (λf cdv A outer s H E hr=>⟨_,(fV (zF (i:=1) kO.nd rfl (Or.inl rfl) (zM (Up (uy T) hr (fW (S6 (wz T) hr Rx) (fW (xl 0) gf)))))
 (fV (gJ (xH (K8 1))
 (fX (gr gF))
 gC)
 (fV (gH (i:=2) kO.nd rfl (Or.inl rfl) (Dz (zj (iC 1 (q9 fU) (λ_ _=>rfl)) fU) gF gF))
 (fV (nF (i:=2) kO.nd rfl (Or.inl rfl) (jN (xc (oW T) hr (fW (iC 1 (q9 fU) (λ_ _=>rfl)) (fW (lK (vf 1 T.kZ) fU) gf)))))
 (fV (HH (k:=3) cG rfl (by rfl) T.tV (lK (vf 1 T.kZ) fU) (q9 fU) (q9 fU) kO.nd rfl (Or.inl rfl)
 (fX (gJ (Dh (iC 1 (xn 3) (λ_ _=>rfl)) fU)
 (fV (nF (i:=2) kO.nd rfl (Or.inl rfl) (Dz (zj (iC 1 (xn 3) (λ_ _=>rfl)) fU) gF gF))
 (fX (nF (i:=2) kO.nd rfl (Or.inl rfl) (jN (xc (oW T) hr (fW (iC 1 (xn 3) (λ_ _=>rfl)) (fW (xn 3) gf)))))))
 gC)))
 (fX (gr (xs 2)))))))),λas hp=>?_⟩)
 obtain⟨f,rfl,hl,hb⟩:=hp;refine⟨⟨⟨tJ,rfl,tJ⟩,0,f,rfl,by lia⟩,λns ens=>?_⟩;have ens:ns=Tz 0 f:=ens;have ens:ns=f9 f:=by
  rw[ens];unfold Tz;have:(pl 0)=(id:Int->Int):=by funext n;exact JT n
  rw[this,eL]
 have nl:ns.length<=100:=by rw[ens];exact aA (lQ _) hl
 have hn:∀n,((ns.getD n 0).natAbs:Int)<10^110:=λn=>by rw[ens,kJ];exact nb hb n
 have goal:∀x:Str,x=mC ns->PV.str x=PV.str (mC (f9 f)):=λx h=>by rw[h,ens]
 refine⟨.inl rfl,λq=>?_,λq=>?_⟩
 ·have q:¬¬ns=[]:=q;refine⟨tJ,goal ("0":Str) ?_⟩;unfold mC;rw[ak (dv.mp q)]
 have q:¬¬¬ns=[]:=q;have ne:¬ns=[]:=dv.mp q;have lp:=lP ne;have li:ns.getD (iw ns.length (-1)) 0=ns.getD (ns.length-1) 0:=by
  have e:iw ns.length (-1)=ns.length-1:=by unfold iw;rw[ai (by lia)];lia
  rw[e]
 have sh:mC ns=rE ns (ns.length-1):=by unfold mC;rw[ai ne]
 clear ens;have c1:-(ns.length:Int) <= -1:=by lia
 have c2:(-1:Int)<(ns.length:Int):=by lia
 refine⟨⟨⟨⟨.inl rfl,tJ,c1,c2⟩,tJ⟩,λ_=>tJ,λ_=>tJ⟩,λt0 et0=>?_⟩;have et0:t0=if ns.getD (iw ns.length (-1)) 0<0 then("-":Str) else("":Str):=et0;rw[li]at et0;have et0:t0=Bm (ns.getD (ns.length-1) 0):=et0;have l0:t0.length<=1:=by rw[et0];unfold Bm;split<;>decide +kernel
 have kt:((ns.length-1:Nat):Int)=(ns.length:Int)-1:=by lia
 obtain⟨tl1,tl2⟩:=pR (hn (ns.length-1)) (k:=((ns.length-1:Nat):Int)) (by lia) (by lia);refine gD (ρ':=[.fr (.ints f),.fr (.ints ns),.fr (.str t0),.un]) rfl ?_;have etm:lB (ns.getD (iw ns.length (-1)) 0) ((ns.length:Int)-1)=lB (ns.getD (ns.length-1) 0) ((ns.length-1:Nat):Int):=by rw[li,kt]
 refine⟨rfl,⟨⟨⟨⟨.inl rfl,tJ,c1,c2⟩,⟨.inl rfl,tJ⟩,tJ⟩,_,_,rfl,?_,?_,?_⟩,rfl⟩,?_,λt1 et1=>?_⟩
 ·show((ns.getD (iw ns.length (-1)) 0).natAbs:Int)<10^110;rw[li];exact hn _
 ·show 0<=(ns.length:Int)-1;lia
 ·show(ns.length:Int)-1<1000;lia
 ·show t0.length+(lB (ns.getD (iw ns.length (-1)) 0) ((ns.length:Int)-1)).length<=sizeLine;rw[etm];exact sz (by lia)
 have et1:t1=t0++lB (ns.getD (iw ns.length (-1)) 0) ((ns.length:Int)-1):=et1;rw[etm]at et1;have en:((ns.length:Int)-2 - -1).toNat=ns.length-1:=by lia
 refine⟨⟨⟨.inl rfl,tJ⟩,tJ,tJ⟩,⟨by show -(2:Int)^62<=(ns.length:Int)-2;lia,by show(ns.length:Int)-2<2^62;lia,by show -(2:Int)^62 <= -1;decide,by show(-1:Int)<2^62;decide⟩,λi ρ=>∃tx v3,ρ=[.fr (.ints f),.fr (.ints ns),.fr (.str tx),v3]/\tx++jh ns (ns.length-1-i)=rE ns (ns.length-1)/\tx.length<=300*(i+1),⟨t1,.un,rfl,?_,?_⟩,?_,?_⟩
 ·rw[et1,et0,Nat.sub_zero,g8];rfl
 ·rw[et1,len_app];lia
 ·rintro i ρ hi ⟨tx,v3,rfl,h1,h2⟩;have hi:i<ns.length-1:=by have hi:i<((ns.length:Int)-2 - -1).toNat:=hi;lia
  obtain⟨p,ep⟩:∃p:Nat,ns.length-1-i=p+1:=⟨ns.length-1-i-1,by lia⟩;have epz:(ns.length:Int)-2+(i:Int)*(-1)=(p:Int):=by lia
  have e2:ns.length-1-(i+1)=p:=by lia
  have pl1:-(ns.length:Int)<=((ns.length:Int)-2+(i:Int)*(-1)):=by rw[epz];lia
  have pl2:((ns.length:Int)-2+(i:Int)*(-1))<(ns.length:Int):=by rw[epz];lia
  have ixp:iw ns.length ((ns.length:Int)-2+(i:Int)*(-1))=p:=by rw[epz];unfold iw;rw[ak (by lia)];lia
  have pq1:-(ns.length:Int)<=(p:Int):=by lia
  have pq2:(p:Int)<(ns.length:Int):=by lia
  have ixq:iw ns.length (p:Int)=p:=by unfold iw;rw[ak (by lia)];lia
  rw[ep]at h1;refine⟨⟨⟨.inl rfl,rfl,pl1,pl2⟩,tJ⟩,λz=>?_,λz=>?_⟩
  ·have z:¬ns.getD (iw ns.length ((ns.length:Int)-2+(i:Int)*(-1))) 0=0:=z;rw[ixp]at z;have h1':tx++(DR (ns.getD p 0)++(lB (ns.getD p 0) (p:Int)++jh ns p))=rE ns (ns.length-1):=by have h1:=h1;unfold jh at h1;rw[ai z]at h1;exact h1
   obtain⟨tm1,tm2⟩:=pR (hn p) (k:=(p:Int)) (by lia) (by lia);have jl:=xK (ns.getD p 0);refine⟨rfl,⟨⟨⟨.inl rfl,rfl,pl1,pl2⟩,tJ⟩,λ_=>tJ,λ_=>tJ⟩,?_,λt2 et2=>?_⟩
   ·show tx.length+(if ns.getD (iw ns.length ((ns.length:Int)-2+(i:Int)*(-1))) 0<0 then(" - ":Str) else(" + ":Str)).length<=sizeLine;rw[ixp];show tx.length+(DR (ns.getD p 0)).length<=sizeLine;rw[jl];exact sz (by lia)
   have et2:t2=tx++(if ns.getD (iw ns.length ((ns.length:Int)-2+(i:Int)*(-1))) 0<0 then(" - ":Str) else(" + ":Str)):=et2;rw[ixp]at et2;have et2:t2=tx++DR (ns.getD p 0):=et2;refine gD (ρ':=[.fr (.ints f),.fr (.ints ns),.fr (.str t2),.fr (.int (p:Int))]) (by rw[<- epz];rfl) ?_;refine⟨rfl,⟨⟨⟨⟨.inl rfl,rfl,pq1,pq2⟩,rfl,tJ⟩,_,_,rfl,?_,by show 0<=(p:Int);lia,by show(p:Int)<1000;lia⟩,rfl⟩,?_,λt3 et3=>⟨t3,.fr (.int (p:Int)),rfl,?_,?_⟩⟩
   ·show((ns.getD (iw ns.length (p:Int)) 0).natAbs:Int)<10^110;rw[ixq];exact hn p
   ·show t2.length+(lB (ns.getD (iw ns.length (p:Int)) 0) (p:Int)).length<=sizeLine;rw[ixq,et2,len_app,jl];exact sz (by lia)
   ·have et3:t3=t2++lB (ns.getD (iw ns.length (p:Int)) 0) (p:Int):=et3;rw[et3,ixq,et2,e2,g8,g8];exact h1'
   ·have et3:t3=t2++lB (ns.getD (iw ns.length (p:Int)) 0) (p:Int):=et3;rw[et3,ixq,et2,len_app,len_app,jl];lia
  ·have z:¬¬ns.getD (iw ns.length ((ns.length:Int)-2+(i:Int)*(-1))) 0=0:=z;rw[ixp]at z;refine⟨tx,_,rfl,?_,by lia⟩;rw[e2];unfold jh at h1;rw[ak (dv.mp z)]at h1;exact h1
 ·rintro ρ ⟨tx,v3,rfl,h1,h2⟩;have h1:tx++jh ns (ns.length-1-((ns.length:Int)-2 - -1).toNat)=rE ns (ns.length-1):=h1;rw[en,fR]at h1;refine⟨rfl,goal tx ?_⟩;rw[sh,<- h1];exact(lY tx).symm
def Sd (f:List Int)(i:Nat)(x:Str):Prop:=(x=("":Str)/\∀j,f.length-i<=j->j<f.length->f.getD j 0=0)\/∃t,f.length-i<=t/\t<f.length/\f.getD t 0≠0/\(∀j,t<j->j<f.length->f.getD j 0=0)/\x++jh f (f.length-i)=rE f t/\1<=x.length
theorem Qh (n:Int):qW (.lst [.str ("":Str),.str ("-":Str)]) (if n<0 then 1 else 0)=.str (Bm n):=by
 unfold Bm;by_cases c:n<0
 ·rw[ak c,ak c];rfl
 ·rw[ai c,ai c];rfl
theorem Ed (n:Int):(Bm n).length<=1:=by unfold Bm;split<;>decide +kernel
theorem wR {x:Str}(h:1<=x.length):¬x=("":Str):=λz=>by rw[z]at h;exact absurd h (by decide +kernel)
theorem qz (T:Top K mg cFE cBP cBT cBA cBL cNO cHP cNW cNP cNN cK cW cRd):Ok P w K mg base 2 "_law_shown" ["_law_row"] (yK K (qG cW) (λas=>∃f,as=[.ints f]/\f.length<=100/\∀m∈f,(m.natAbs:Int)<10^110) λas=>match as with
  |[.ints f]=>.str (mC (f9 f))
  |_=>.non):=by
 refine Bl T.Be jJ (λas ⟨a,h,_⟩=>by rw[h];rfl) (λf cdv A outer s H E hr=>⟨_,(fV (gH (i:=1) jJ.nd rfl (Or.inl rfl) gF)
 (fV (Fl (k:=2) cG rfl (by rfl) T.CT (by rfl) T.tV (vf 0 T.kZ) jJ.nd rfl (Or.inl rfl)
 (fX (gJ (L2.PW.pt (ph (Dh (iC 0 (xn 2) (λ_ _=>rfl)) fU) (oH (xV (xs 1) gF))))
 (fX (gH (i:=1) jJ.nd rfl (Or.inl rfl) (ig (jN (iV (lW (mR (fW gF (fW gF gf)))) (DQ T.uU (MN (iC 0 (xn 2) (λ_ _=>rfl)) fU)) (λ_ _=>rfl))) (jN (xc (Dn T) hr (fW (iC 0 (xn 2) (λ_ _=>rfl)) (fW (xn 2) gf)))))))
 (fX (gJ (Dh (iC 0 (xn 2) (λ_ _=>rfl)) fU)
 (fX (gH (i:=1) jJ.nd rfl (Or.inl rfl) (ig (ig (xs 1) (jN (iV (lW (mR (fW gF (fW gF gf)))) (DQ T.uU (MN (iC 0 (xn 2) (λ_ _=>rfl)) fU)) (λ_ _=>rfl)))) (jN (xc (Dn T) hr (fW (iC 0 (xn 2) (λ_ _=>rfl)) (fW (xn 2) gf)))))))
 gC)))))
 (fV (gJ (xV (xs 1) gF)
 (fX (gr gF))
 gC)
 (fX (gr (xs 1)))))),λas hp=>?_⟩)
 obtain⟨f,rfl,hl,hb⟩:=hp;have hn:=nb hb;have l0:("":Str).length=0:=by decide +kernel
 refine⟨tJ,λt0 et0=>?_⟩;have et0:t0=("":Str):=et0;refine gD (ρ':=[.fr (.ints f),.fr (.str t0),.un]) rfl ?_;refine⟨.inl rfl,⟨by show 0<=(f.length:Int);lia,by show(f.length:Int)<2^62;lia⟩,λi ρ=>∃tx v2,ρ=[.fr (.ints f),.fr (.str tx),v2]/\Sd f i tx/\tx.length<=300*(i+1),⟨t0,.un,rfl,.inl ⟨et0,λj h1 h2=>by lia⟩,by rw[et0,l0];lia⟩,?_,?_⟩
 ·rintro i ρ hi ⟨tx,v2,rfl,hsd,htl⟩;have hi:i<(f.length:Int).toNat:=hi;obtain⟨p,ep⟩:∃p:Nat,f.length-i=p+1:=⟨f.length-i-1,by lia⟩;have e2:f.length-(i+1)=p:=by lia
  have epz:(f.length:Int)-1+(i:Int)*(-1)=(p:Int):=by lia
  have p1:-(f.length:Int)<=((f.length:Int)-1+(i:Int)*(-1)):=by rw[epz];lia
  have p2:((f.length:Int)-1+(i:Int)*(-1))<(f.length:Int):=by rw[epz];lia
  have ix:iw f.length ((f.length:Int)-1+(i:Int)*(-1))=p:=by rw[epz];unfold iw;rw[ak (by lia)];lia
  obtain⟨tm1,tm2⟩:=pR (hn p) (k:=(p:Int)) (by lia) (by lia);refine⟨⟨⟨⟨.inl rfl,rfl,p1,p2⟩,tJ⟩,λ_=>⟨rfl,tJ⟩⟩,λq=>?_,λq=>?_⟩
  ·have q:¬f.getD (iw f.length ((f.length:Int)-1+(i:Int)*(-1))) 0=0/\tx=("":Str):=q;rw[ix]at q;obtain⟨q1,q2⟩:=q;have eit:=Qh (f.getD (iw f.length ((f.length:Int)-1+(i:Int)*(-1))) 0);have sl:=Ed (f.getD p 0);refine⟨⟨⟨⟨⟨tJ,tJ,tJ⟩,⟨⟨.inl rfl,rfl,p1,p2⟩,tJ⟩,?_⟩,?_⟩,⟨⟨⟨⟨.inl rfl,rfl,p1,p2⟩,rfl,tJ⟩,_,_,rfl,?_,by show 0<=((f.length:Int)-1+(i:Int)*(-1));rw[epz];lia,by show((f.length:Int)-1+(i:Int)*(-1))<1000;rw[epz];lia⟩,rfl⟩,?_⟩,λt1 et1=>⟨t1,_,rfl,?_,?_⟩⟩
   ·show -(2:Int)<=(if f.getD (iw f.length ((f.length:Int)-1+(i:Int)*(-1))) 0<0 then 1 else 0)/\(if f.getD (iw f.length ((f.length:Int)-1+(i:Int)*(-1))) 0<0 then(1:Int) else 0)<2;split<;>lia
   ·show qW (.lst [.str ("":Str),.str ("-":Str)]) (if f.getD (iw f.length ((f.length:Int)-1+(i:Int)*(-1))) 0<0 then 1 else 0)=.str (yL (qW (.lst [.str ("":Str),.str ("-":Str)]) (if f.getD (iw f.length ((f.length:Int)-1+(i:Int)*(-1))) 0<0 then 1 else 0)));rw[eit];rfl
   ·show((f.getD (iw f.length ((f.length:Int)-1+(i:Int)*(-1))) 0).natAbs:Int)<10^110;rw[ix];exact hn p
   ·show(yL (qW (.lst [.str ("":Str),.str ("-":Str)]) (if f.getD (iw f.length ((f.length:Int)-1+(i:Int)*(-1))) 0<0 then 1 else 0))).length+(lB (f.getD (iw f.length ((f.length:Int)-1+(i:Int)*(-1))) 0) ((f.length:Int)-1+(i:Int)*(-1))).length<=sizeLine;rw[eit,ix,epz];show(Bm (f.getD p 0)).length+(lB (f.getD p 0) (p:Int)).length<=sizeLine;exact sz (by lia)
   ·have et1:t1=yL (qW (.lst [.str ("":Str),.str ("-":Str)]) (if f.getD (iw f.length ((f.length:Int)-1+(i:Int)*(-1))) 0<0 then 1 else 0))++lB (f.getD (iw f.length ((f.length:Int)-1+(i:Int)*(-1))) 0) ((f.length:Int)-1+(i:Int)*(-1)):=et1;rw[eit,ix,epz]at et1;have et1:t1=Bm (f.getD p 0)++lB (f.getD p 0) (p:Int):=et1;rcases hsd with h|⟨t,_,_,_,_,_,h⟩
    ·refine .inr ⟨p,by lia,by lia,q1,λj h1 h2=>h.2 j (by lia) h2,?_,?_⟩
     ·rw[e2,et1,g8];rfl
     ·rw[et1,len_app];lia
    ·exact absurd q2 (wR h)
   ·have et1:t1=yL (qW (.lst [.str ("":Str),.str ("-":Str)]) (if f.getD (iw f.length ((f.length:Int)-1+(i:Int)*(-1))) 0<0 then 1 else 0))++lB (f.getD (iw f.length ((f.length:Int)-1+(i:Int)*(-1))) 0) ((f.length:Int)-1+(i:Int)*(-1)):=et1;rw[eit,ix,epz]at et1;have et1:t1=Bm (f.getD p 0)++lB (f.getD p 0) (p:Int):=et1;rw[et1,len_app];lia
  have q:¬(¬f.getD (iw f.length ((f.length:Int)-1+(i:Int)*(-1))) 0=0/\tx=("":Str)):=q;rw[ix]at q;refine⟨⟨⟨.inl rfl,rfl,p1,p2⟩,tJ⟩,λz=>?_,λz=>?_⟩
  ·have z:¬f.getD (iw f.length ((f.length:Int)-1+(i:Int)*(-1))) 0=0:=z;rw[ix]at z;have eit:=Ru (f.getD (iw f.length ((f.length:Int)-1+(i:Int)*(-1))) 0);have jl:=xK (f.getD p 0);refine⟨⟨⟨rfl,⟨⟨⟨tJ,tJ,tJ⟩,⟨⟨.inl rfl,rfl,p1,p2⟩,tJ⟩,?_⟩,?_⟩,?_⟩,⟨⟨⟨⟨.inl rfl,rfl,p1,p2⟩,rfl,tJ⟩,_,_,rfl,?_,by show 0<=((f.length:Int)-1+(i:Int)*(-1));rw[epz];lia,by show((f.length:Int)-1+(i:Int)*(-1))<1000;rw[epz];lia⟩,rfl⟩,?_⟩,λt1 et1=>⟨t1,_,rfl,?_,?_⟩⟩
   ·show -(2:Int)<=(if f.getD (iw f.length ((f.length:Int)-1+(i:Int)*(-1))) 0<0 then 1 else 0)/\(if f.getD (iw f.length ((f.length:Int)-1+(i:Int)*(-1))) 0<0 then(1:Int) else 0)<2;split<;>lia
   ·show qW (.lst [.str (" + ":Str),.str (" - ":Str)]) (if f.getD (iw f.length ((f.length:Int)-1+(i:Int)*(-1))) 0<0 then 1 else 0)=.str (yL (qW (.lst [.str (" + ":Str),.str (" - ":Str)]) (if f.getD (iw f.length ((f.length:Int)-1+(i:Int)*(-1))) 0<0 then 1 else 0)));rw[eit];rfl
   ·show tx.length+(yL (qW (.lst [.str (" + ":Str),.str (" - ":Str)]) (if f.getD (iw f.length ((f.length:Int)-1+(i:Int)*(-1))) 0<0 then 1 else 0))).length<=sizeLine;rw[eit,ix];show tx.length+(DR (f.getD p 0)).length<=sizeLine;rw[jl];exact sz (by lia)
   ·show((f.getD (iw f.length ((f.length:Int)-1+(i:Int)*(-1))) 0).natAbs:Int)<10^110;rw[ix];exact hn p
   ·show(tx++yL (qW (.lst [.str (" + ":Str),.str (" - ":Str)]) (if f.getD (iw f.length ((f.length:Int)-1+(i:Int)*(-1))) 0<0 then 1 else 0))).length+(lB (f.getD (iw f.length ((f.length:Int)-1+(i:Int)*(-1))) 0) ((f.length:Int)-1+(i:Int)*(-1))).length<=sizeLine;rw[eit,ix,epz];show(tx++DR (f.getD p 0)).length+(lB (f.getD p 0) (p:Int)).length<=sizeLine;rw[len_app,jl];exact sz (by lia)
   ·have et1:t1=tx++yL (qW (.lst [.str (" + ":Str),.str (" - ":Str)]) (if f.getD (iw f.length ((f.length:Int)-1+(i:Int)*(-1))) 0<0 then 1 else 0))++lB (f.getD (iw f.length ((f.length:Int)-1+(i:Int)*(-1))) 0) ((f.length:Int)-1+(i:Int)*(-1)):=et1;rw[eit,ix,epz]at et1;have et1:t1=tx++DR (f.getD p 0)++lB (f.getD p 0) (p:Int):=et1;rcases hsd with h|⟨t,h1,h2,h3,h4,h5,h6⟩
    ·exact absurd ⟨z,h.1⟩ q
    ·refine .inr ⟨t,by lia,h2,h3,h4,?_,?_⟩
     ·rw[ep]at h5;unfold jh at h5;rw[ai z]at h5;rw[e2,et1,g8,g8];exact h5
     ·rw[et1,len_app,len_app];lia
   ·have et1:t1=tx++yL (qW (.lst [.str (" + ":Str),.str (" - ":Str)]) (if f.getD (iw f.length ((f.length:Int)-1+(i:Int)*(-1))) 0<0 then 1 else 0))++lB (f.getD (iw f.length ((f.length:Int)-1+(i:Int)*(-1))) 0) ((f.length:Int)-1+(i:Int)*(-1)):=et1;rw[eit,ix,epz]at et1;have et1:t1=tx++DR (f.getD p 0)++lB (f.getD p 0) (p:Int):=et1;rw[et1,len_app,len_app,jl];lia
  ·have z:¬¬f.getD (iw f.length ((f.length:Int)-1+(i:Int)*(-1))) 0=0:=z;rw[ix]at z;have z:=dv.mp z;refine⟨tx,_,rfl,?_,by lia⟩;rcases hsd with h|⟨t,h1,h2,h3,h4,h5,h6⟩
   ·refine .inl ⟨h.1,λj h1 h2=>?_⟩;by_cases c:j=p
    ·rw[c];exact z
    ·exact h.2 j (by lia) h2
   ·refine .inr ⟨t,by lia,h2,h3,h4,?_,h6⟩;rw[ep]at h5;unfold jh at h5;rw[ak z]at h5;rw[e2];exact h5
 ·rintro ρ ⟨tx,v2,rfl,hsd,htl⟩;have hsd:Sd f (f.length:Int).toNat tx:=hsd;have eN:(f.length:Int).toNat=f.length:=by lia
  rw[eN]at hsd;refine⟨⟨rfl,tJ⟩,λq=>?_,λq=>?_⟩
  ·have q:tx=("":Str):=q;refine⟨tJ,?_⟩;show PV.str ("0":Str)=PV.str (mC (f9 f));rcases hsd with h|⟨t,_,_,_,_,_,h⟩
   ·rw[Kz λj hj=>h.2 j (by lia) hj]
   ·exact absurd q (wR h)
  ·have q:¬tx=("":Str):=q;refine⟨rfl,?_⟩;show PV.str tx=PV.str (mC (f9 f));rcases hsd with h|⟨t,h1,h2,h3,h4,h5,h6⟩
   ·exact absurd h.1 q
   ·rw[JR h2 h3 h4];rw[fR]at h5;have h7:tx++e0=rE f t:=h5;rw[lY]at h7;rw[h7];rfl
theorem zG {f:Li}(hn:∀n,((f.getD n 0).natAbs:Int)<10^110):∀k,k<=900->(jh f k).length<=300*k
 |0,_=>by show("":Str).length<=0;decide +kernel
 |k+1,h=>by
  have ih:=zG hn k (by lia);unfold jh;split
  ·lia
  ·have jl:=xK (f.getD k 0);obtain⟨tm1,tm2⟩:=pR (hn k) (k:=(k:Int)) (by lia) (by lia);rw[len_app,len_app];lia
theorem tu {f:Li}(hb:∀m∈f,(m.natAbs:Int)<10^110)(hl:f.length<=100):(mC (f9 f)).length<=30400:=by
 have hn:∀n,(((f9 f).getD n 0).natAbs:Int)<10^110:=λn=>by rw[kJ];exact nb hb n
 have tl:=lQ f;unfold mC;split
 ·exact aA (by decide +kernel:("0":Str).length<=1) (by decide)
 ·unfold rE;have h1:=Ed ((f9 f).getD ((f9 f).length-1) 0);have h2:=pR (hn ((f9 f).length-1)) (k:=(((f9 f).length-1:Nat):Int)) (by lia) (by lia);have h3:=zG hn ((f9 f).length-1) (by lia);rw[len_app,len_app];lia
theorem qT {c:Int}(h:(c.natAbs:Int)<10^110):(gm c).length<=110+1:=by
 cases c with
 |ofNat m=>
  have:=(jb (a:=(m:Int)) (by lia) (by
   have e:(((Int.ofNat m).natAbs:Nat):Int)=(m:Int):=rfl;rw[e]at h;exact h)).2
  exact aA this (by decide)
 |negSucc m=>
  have e:(gm (Int.negSucc m)).length=(Nat.toDigits 10 (m+1)).length+1:=by show(PySem.Str.ofString (toString (Int.negSucc m))).cps.size=_;rw[<- bf,dP,ag];show("-"++Nat.repr (m+1)).toList.length=_;rw[fA,ar,Nat.toList_repr];show 1+_=_;lia
  rw[e];have hm:m+1<10^110:=by
   have e10:((10^110:Nat):Int)=(10:Int)^110:=by decide +kernel
   have e2:(((Int.negSucc m).natAbs:Nat):Int)=((m+1:Nat):Int):=rfl;rw[e2]at h;generalize (10:Int)^110=Z at *
   generalize (10:Nat)^110=N at *
   lia
  have:=(c7 (b:=10) (n:=m+1) (k:=110) (by decide) (by decide)).mpr hm;lia
def zY:PV->List Int
 | .tup [.ints g,.int _]=>g
 |_=>[]
def GC:PV->Int
 | .tup [.ints _,.int o]=>o
 |_=>0
def Gd (q:PV):Prop:=∃g o,q=.tup [.ints g,.int o]/\g.length<=100/\(∀m∈g,(m.natAbs:Int)<10^110)/\0<=o/\o<1000
theorem Gd.go {q:PV}(h:Gd q):Nz q:=by obtain⟨g,o,e,_⟩:=h;exact⟨g,o,e⟩
def rJ (s:Str)(q:PV):Str:=s++((" * (":Str)++mC (f9 (zY q))++(")":Str))++(if GC q > 1 then("^":Str)++gm (GC q) else e0)
def jy (c:Int)(l:List PV):Str:=l.foldl rJ (gm c)
theorem uf {c:Int}{l:List PV}{i:Nat}{q:PV}(h:l[i]?=some q):jy c (l.take (i+1))=rJ (jy c (l.take i)) q:=by unfold jy;rw[xO h,ey];rfl
theorem ye {c:Int}{l:List PV}(hc:(c.natAbs:Int)<10^110)(h:∀q∈l,Gd q):∀i,i<=l.length->(jy c (l.take i)).length<=150+30700*i
 |0,_=>by have:=qT hc;show(gm c).length<=_;lia
 |i+1,hi=>by
  have ih:=ye hc h i (by lia);have en:l[i]?=some l[i]:=ap (by lia);rw[uf en];obtain⟨g,o,e,g1,g2,o1,o2⟩:=h l[i] (cw (by lia));rw[e];unfold rJ;show(jy c (l.take i)++((" * (":Str)++mC (f9 g)++(")":Str))++(if o > 1 then("^":Str)++gm o else e0)).length<=_;have h1:=tu g2 g1;have h2:=(jb o1 (lu o2)).2;have l1:(" * (":Str).length=4:=by decide +kernel
  have l2:(")":Str).length=1:=by decide +kernel
  have l3:("^":Str).length=1:=by decide +kernel
  have l4:e0.length=0:=by decide +kernel
  rw[len_app,len_app,len_app,len_app,l1,l2];split
  ·rw[len_app,l3];lia
  ·rw[l4];lia
theorem rD (T:Top K mg cFE cBP cBT cBA cBL cNO cHP cNW cNP cNN cK cW cRd):Ok P w K mg base 6 "product_shown" ["content","pairs"] (yK K (qG cW) (λas=>∃c l,as=[.int c,.lst l]/\(c.natAbs:Int)<10^110/\l.length<=30/\∀q∈l,Gd q) λas=>match as with
  |[.int c,.lst l]=>.str (jy c l)
  |_=>.non):=by
 refine Bl T.sI gP (λas ⟨a,b,h,_⟩=>by rw[h];rfl) (λf cdv A outer s H E hr=>⟨_,(fV (gH (i:=2) gP.nd rfl (Or.inl rfl) (mJ T.qw (xn 0)))
 (fV (Aq (k:=3) (j:=4) cG rfl (my (xv 1)) (pg_tup rfl (pgs_cons (pg_name (i:=3) gP.nd rfl (Or.inl rfl)) (pgs_cons (pg_name (i:=4) gP.nd rfl (Or.inl rfl)) pgs_nil)))
 (fV (gH (i:=5) gP.nd rfl (Or.inl rfl) (jN (xc (G7 T) hr (fW (xl 3) gf))))
 (fV (nF (i:=2) gP.nd rfl (Or.inl rfl) (QX (xs 5)))
 (fX (gJ (uR (xn 4) fU)
 (fX (nF (i:=2) gP.nd rfl (Or.inl rfl) (QR (xn 4))))
 gC)))))
 (fX (gr (xs 2))))),λas hp=>?_⟩)
 obtain⟨c,l,rfl,hc,hl,hg⟩:=hp;have pl:=ye hc hg;refine⟨⟨rfl,uH hc⟩,λt0 et0=>?_⟩;have et0:t0=gm c:=et0;refine gD (ρ':=[.fr (.int c),.fr (.lst l),.fr (.str t0),.un,.un,.un]) rfl ?_;refine⟨⟨⟨rfl,rfl⟩,λq hq=>(hg q hq).go.pair⟩,λi ρ=>∃tx v3 v4 v5,ρ=[.fr (.int c),.fr (.lst l),.fr (.str tx),v3,v4,v5]/\tx=jy c (l.take i),⟨t0,.un,.un,.un,rfl,et0⟩,?_,?_⟩
 ·rintro i q ρ hq ⟨tx,v3,v4,v5,rfl,etx⟩;have hq:l[i]?=some q:=hq;have hi:i<l.length:=(aZ.mp hq).1;have txl:=pl i (by lia);rw[<- etx]at txl;have nx:=uf (c:=c) hq;rw[<- etx]at nx;have nl:=pl (i+1) (by lia);rw[nx]at nl;obtain⟨g,o,e,g1,g2,o1,o2⟩:=hg q (bC hq);subst e;have sl:=tu g2 g1;have h2:=(jb o1 (lu o2)).2;have l1:(" * (":Str).length=4:=by decide +kernel
  have l2:(")":Str).length=1:=by decide +kernel
  have l3:("^":Str).length=1:=by decide +kernel
  refine⟨⟨⟨⟨rfl,tJ⟩,g,rfl,g1,g2⟩,rfl⟩,λpo epo=>?_⟩;have epo:po=mC (f9 g):=epo;rw[<- epo]at sl;refine gD (ρ':=[.fr (.int c),.fr (.lst l),.fr (.str tx),.fr (.ints g),.fr (.int o),.fr (.str po)]) rfl ?_;refine⟨rfl,⟨rfl,?_,?_,?_,?_⟩,?_,λt1 et1=>?_⟩
  ·show(" * (":Str).length<=sizeLine;rw[l1];exact sz (by lia)
  ·show po.length<=sizeLine;exact sz (by lia)
  ·show((" * (":Str)++po).length<=sizeLine;rw[len_app,l1];exact sz (by lia)
  ·show((" * (":Str)++po++(")":Str)).length<=sizeLine;rw[len_app,len_app,l1,l2];exact sz (by lia)
  ·show tx.length+((" * (":Str)++po++(")":Str)).length<=sizeLine;rw[len_app,len_app,l1,l2];exact sz (by lia)
  have et1:t1=tx++((" * (":Str)++po++(")":Str)):=et1;have t1l:t1.length<=tx.length+30410:=by rw[et1,len_app,len_app,len_app,l1,l2];lia
  have st:rJ tx (.tup [.ints g,.int o])=t1++(if o > 1 then("^":Str)++gm o else e0):=by rw[et1,epo];rfl
  have ko:(o.natAbs:Int)<10^110:=by
   have:=lu o2;generalize (10:Int)^110=Z at *
   lia
  refine gD (ρ':=[.fr (.int c),.fr (.lst l),.fr (.str t1),.fr (.ints g),.fr (.int o),.fr (.str po)]) rfl ?_;refine⟨⟨rfl,tJ⟩,λz=>?_,λz=>?_⟩
  ·have z:o > 1:=z;rw[ak z]at st;refine⟨rfl,⟨rfl,?_,uH ko,?_⟩,?_,λt2 et2=>⟨t2,.fr (.ints g),.fr (.int o),.fr (.str po),rfl,?_⟩⟩
   ·show("^":Str).length<=sizeLine;rw[l3];exact sz (by lia)
   ·show(("^":Str)++gm o).length<=sizeLine;rw[len_app,l3];exact sz (by lia)
   ·show t1.length+(("^":Str)++gm o).length<=sizeLine;rw[len_app,l3];exact sz (by lia)
   ·have et2:t2=t1++(("^":Str)++gm o):=et2;rw[nx,st,et2]
  ·have z:¬o > 1:=z;rw[ai z]at st;refine⟨t1,.fr (.ints g),.fr (.int o),.fr (.str po),rfl,?_⟩;rw[nx,st,lY]
 ·rintro ρ ⟨tx,v3,v4,v5,rfl,etx⟩;have etx:tx=jy c (l.take l.length):=etx;rw[eV]at etx;refine⟨rfl,?_⟩;show PV.str tx=PV.str (jy c l);rw[etx]
theorem Cw (T:Top K mg cFE cBP cBT cBA cBL cNO cHP cNW cNP cNN cK cW cRd):Ok P w K mg base 3 "_law_product" ["_law_content","_law_pairs"] (yK K (qG cW) (λas=>∃c l,as=[.int c,.lst l]/\(c.natAbs:Int)<10^110/\l.length<=30/\∀q∈l,Gd q) λas=>match as with
  |[.int c,.lst l]=>.str (jy c l)
  |_=>.non):=by
 refine Bl T.Gw jP (λas ⟨a,b,h,_⟩=>by rw[h];rfl) (λf cdv A outer s H E hr=>⟨_,(fV (gH (i:=2) jP.nd rfl (Or.inl rfl) (mJ T.qw (xn 0)))
 (fV (Aq (k:=3) (j:=4) cG rfl (my (xv 1)) (pg_tup rfl (pgs_cons (pg_name (i:=3) jP.nd rfl (Or.inl rfl)) (pgs_cons (pg_name (i:=4) jP.nd rfl (Or.inl rfl)) pgs_nil)))
 (fV (gH (i:=2) jP.nd rfl (Or.inl rfl) (ig (ig (ig (xs 2) gF) (jN (xc (qz T) hr (fW (xl 3) gf)))) gF))
 (fX (gJ (uR (xn 4) fU)
 (fX (gH (i:=2) jP.nd rfl (Or.inl rfl) (ig (ig (xs 2) gF) (mJ T.qw (xn 4)))))
 gC))))
 (fX (gr (xs 2))))),λas hp=>?_⟩)
 obtain⟨c,l,rfl,hc,hl,hg⟩:=hp;have pl:=ye hc hg;refine⟨⟨rfl,uH hc⟩,λt0 et0=>?_⟩;have et0:t0=gm c:=et0;refine gD (ρ':=[.fr (.int c),.fr (.lst l),.fr (.str t0),.un,.un]) rfl ?_;refine⟨⟨⟨rfl,rfl⟩,λq hq=>(hg q hq).go.pair⟩,λi ρ=>∃tx v3 v4,ρ=[.fr (.int c),.fr (.lst l),.fr (.str tx),v3,v4]/\tx=jy c (l.take i),⟨t0,.un,.un,rfl,et0⟩,?_,?_⟩
 ·rintro i q ρ hq ⟨tx,v3,v4,rfl,etx⟩;have hq:l[i]?=some q:=hq;have hi:i<l.length:=(aZ.mp hq).1;have txl:=pl i (by lia);rw[<- etx]at txl;have nx:=uf (c:=c) hq;rw[<- etx]at nx;obtain⟨g,o,e,g1,g2,o1,o2⟩:=hg q (bC hq);subst e;have sl:=tu g2 g1;have h2:=(jb o1 (lu o2)).2;have l1:(" * (":Str).length=4:=by decide +kernel
  have l2:(")":Str).length=1:=by decide +kernel
  have l3:("^":Str).length=1:=by decide +kernel
  refine⟨⟨⟨⟨rfl,tJ,?_⟩,⟨⟨⟨rfl,tJ⟩,g,rfl,g1,g2⟩,rfl⟩,?_⟩,tJ,?_⟩,λt1 et1=>?_⟩
  ·show tx.length+(" * (":Str).length<=sizeLine;rw[l1];exact sz (by lia)
  ·show(tx++(" * (":Str)).length+(mC (f9 g)).length<=sizeLine;rw[len_app,l1];exact sz (by lia)
  ·show(tx++(" * (":Str)++mC (f9 g)).length+(")":Str).length<=sizeLine;rw[len_app,len_app,l1,l2];exact sz (by lia)
  have et1:t1=tx++(" * (":Str)++mC (f9 g)++(")":Str):=et1;have t1l:t1.length<=tx.length+30410:=by rw[et1,len_app,len_app,len_app,l1,l2];lia
  have st:rJ tx (.tup [.ints g,.int o])=t1++(if o > 1 then("^":Str)++gm o else e0):=by rw[et1,g8 tx,g8 tx];rfl
  have ko:(o.natAbs:Int)<10^110:=by
   have:=lu o2;generalize (10:Int)^110=Z at *
   lia
  refine gD (ρ':=[.fr (.int c),.fr (.lst l),.fr (.str t1),.fr (.ints g),.fr (.int o)]) rfl ?_;refine⟨⟨rfl,tJ⟩,λz=>?_,λz=>?_⟩
  ·have z:o > 1:=z;rw[ak z]at st;refine⟨⟨⟨rfl,tJ,?_⟩,⟨rfl,uH ko⟩,?_⟩,λt2 et2=>⟨t2,.fr (.ints g),.fr (.int o),rfl,?_⟩⟩
   ·show t1.length+("^":Str).length<=sizeLine;rw[l3];exact sz (by lia)
   ·show(t1++("^":Str)).length+(gm o).length<=sizeLine;rw[len_app,l3];exact sz (by lia)
   ·have et2:t2=t1++("^":Str)++gm o:=et2;rw[nx,st,et2,g8]
  ·have z:¬o > 1:=z;rw[ai z]at st;refine⟨t1,.fr (.ints g),.fr (.int o),rfl,?_⟩;rw[nx,st,lY]
 ·rintro ρ ⟨tx,v3,v4,rfl,etx⟩;have etx:tx=jy c (l.take l.length):=etx;rw[eV]at etx;refine⟨rfl,?_⟩;show PV.str tx=PV.str (jy c l);rw[etx]
theorem Ky {c:Int}{N:Nat}(h:Builtin.Int.intBits c<=N):c.natAbs<2^N:=by
 unfold Builtin.Int.intBits at h;split at h
 ·rename_i z;have:c.natAbs=0:=by first|lia|(simp at z;lia)
  rw[this];exact Nat.pow_pos (by decide)
 ·rename_i z;have:c.natAbs≠0:=by first|lia|(simp at z;lia)
  exact(fS this).mp (by lia)
theorem ud {c:Int}(d:Int){N:Nat}(h:Builtin.Int.intBits c<=N):Builtin.Int.intBits (c / d)<=N:=
 bits_le (dm (Int.natAbs_ediv_le_natAbs c d) (Ky h))
def yG (c:Int):Int:=if c % 6<3 then c % 6-1 else if c % 6=3 then c / 6 % 21-10 else if c % 6=4 then(c*c+c)*982451653 % (2*10^12+1)-10^12 else c / 6 % (2*10^50*10^50-1)-(10^50*10^50-1)
theorem I9 (c:Int):((yG c).natAbs:Int)<10^100:=by
 have h0:=aK c (show(6:Int)≠0 by decide);have h1:=aK (c / 6) (show(21:Int)≠0 by decide);have h2:=aG (c / 6) (show(0:Int)<21 by decide);have h3:=aK ((c*c+c)*982451653) (show(2*10^12+1:Int)≠0 by decide);have h4:=aG ((c*c+c)*982451653) (show(0:Int)<2*10^12+1 by decide);have h5:=aK (c / 6) (show(2*10^50*10^50-1:Int)≠0 by decide);have h6:=aG (c / 6) (show(0:Int)<2*10^50*10^50-1 by decide);have h7:(2*10^50*10^50:Int)=2*10^100:=by decide +kernel
 have h8:(10^50*10^50:Int)=10^100:=by decide +kernel
 have h9:(10:Int)^12*1000<=10^100:=by decide +kernel
 have ha:(1:Int)<=10^12:=by decide +kernel
 unfold yG;rw[h7,h8];rw[h7]at h5 h6;generalize (10:Int)^100=A at *
 generalize (10:Int)^12=B at *
 generalize (c*c+c)*982451653 % (2*B+1)=D at *
 generalize c / 6 % (2*A-1)=E at *
 generalize c / 6 % 21=F at *
 clear h7 h8;split
 ·lia
 ·split
  ·lia
  ·split<;>lia
theorem Jk (c:Int):((yG c).natAbs:Int)<10^110:=cM (I9 c) (by decide +kernel)
theorem pO (T:Top K mg cFE cBP cBT cBA cBL cNO cHP cNW cNP cNN cK cW cRd):Ok P w K mg base 1 "_law_number_by" ["_law_cell"] (HQ K (qG cW) (λas=>∃c,as=[.int c]/\Builtin.Int.intBits c<=2^20) λas=>match as with
  |[.int c]=>yG c
  |_=>0):=by
 refine Bl T.zJ qp (λas ⟨a,h,_⟩=>by rw[h];rfl) (λf cdv A outer s H E hr=>⟨_,(fV (jW (i:=1) qp.nd rfl (Or.inl rfl) (gR (xn 0) fU))
 (fV (gJ (zj (xn 1) fU)
 (fX (gr (lK (xn 1) fU)))
 gC)
 (fV (gJ (lw (xn 1) fU)
 (fX (gr (lK (gR (iT (xn 0) fU) fU) fU)))
 gC)
 (fV (gJ (lw (xn 1) fU)
 (fX (gr (lK (gR (nH (jY (nH (xn 0) (xn 0)) (xn 0)) fU) (jY (nH fU (qX fU fU)) fU)) (qX fU fU))))
 gC)
 (fX (gr (lK (gR (iT (xn 0) fU) (lK (nH (nH fU (qX fU fU)) (qX fU fU)) fU)) (lK (nH (qX fU fU) (qX fU fU)) fU)))))))),λas hp=>?_⟩)
 obtain⟨c,rfl,hb⟩:=hp;refine⟨by walk_at "xs",λw ew=>?_⟩;have ew:w=c % 6:=ew;refine⟨by walk_at "xs",λq=>?_,λq=>?_⟩
 ·have q:w<3:=q;refine⟨by walk_at "xs",?_⟩;show PV.int (w-1)=PV.int (yG c);unfold yG;rw[<- ew,ak q]
 have q:¬w<3:=q;refine⟨by walk_at "xs",λq2=>?_,λq2=>?_⟩
 ·have q2:w=3:=q2;refine⟨by walk_at "xs",?_⟩;show PV.int (c / 6 % 21-10)=PV.int (yG c);unfold yG;rw[<- ew,ai q,ak q2]
 have q2:¬w=3:=q2;refine⟨by walk_at "xs",λq3=>?_,λq3=>?_⟩
 ·have q3:w=4:=q3;refine⟨⟨⟨⟨⟨⟨rfl,rfl,IntMulOk.of_bits hb hb⟩,rfl⟩,tJ,tO (by decide)⟩,⟨⟨tJ,⟨tJ,tJ,by walk_at "xs"⟩,by walk_at "xs"⟩,tJ⟩,by show(0:Int)<2*10^12+1;decide⟩,tJ,tJ,by walk_at "xs"⟩,?_⟩;show PV.int ((c*c+c)*982451653 % (2*10^12+1)-10^12)=PV.int (yG c);unfold yG;rw[<- ew,ai q,ai q2,ak q3]
 ·have q3:¬w=4:=q3;have m1:IntMulOk (2*10^50:Int) ((10:Int)^50):=JK (n:=200) (m:=200) (by decide +kernel) (by decide +kernel);have m2:IntMulOk ((10:Int)^50) ((10:Int)^50):=JK (n:=200) (m:=200) (by decide +kernel) (by decide +kernel);refine⟨⟨⟨⟨rfl,tJ,by walk_at "xs"⟩,⟨⟨⟨tJ,⟨tJ,tJ,by walk_at "xs"⟩,by walk_at "xs"⟩,⟨tJ,tJ,by walk_at "xs"⟩,m1⟩,tJ⟩,by show(0:Int)<2*10^50*10^50-1;decide⟩,⟨⟨tJ,tJ,by walk_at "xs"⟩,⟨tJ,tJ,by walk_at "xs"⟩,m2⟩,tJ⟩,?_⟩;show PV.int (c / 6 % (2*10^50*10^50-1)-(10^50*10^50-1))=PV.int (yG c);unfold yG;rw[<- ew,ai q,ai q2,ai q3]
def Gb (c:Int):Int:=if c % 3<2 then 1+c % 3 else([40,2+c / 3 % 39]:List Int).getD (iw 2 (c / 3 % 2)) 0
theorem Pu {a b:Int}(ha:0<=a/\a<1000)(hb:0<=b/\b<1000)(k:Nat):0<=([a,b]:Li).getD k 0/\([a,b]:Li).getD k 0<1000:=by
 match k with
 |0=>exact ha
 |1=>exact hb
 |k+2=>exact⟨Int.le_refl 0,by show(0:Int)<1000;decide⟩
theorem Rv (c:Int):0<=Gb c/\Gb c<1000:=by
 have h0:=aK c (show(3:Int)≠0 by decide);have h1:=aK (c / 3) (show(39:Int)≠0 by decide);have h2:=aG (c / 3) (show(0:Int)<39 by decide);have h3:=Pu (a:=40) (b:=2+c / 3 % 39) (by decide) (by lia) (iw 2 (c / 3 % 2));unfold Gb;split
 ·lia
 ·exact h3
theorem yV (T:Top K mg cFE cBP cBT cBA cBL cNO cHP cNW cNP cNN cK cW cRd):Ok P w K mg base 1 "_law_often_by" ["_law_cell"] (HQ K (qG cW) (λas=>∃c,as=[.int c]) λas=>match as with
  |[.int c]=>Gb c
  |_=>0):=by
 refine Bl T.CV yR (λas ⟨a,h⟩=>by rw[h];rfl) (λf cdv A outer s H E hr=>⟨_,(fV (gJ (zj (gR (xn 0) fU) fU)
 (fX (gr (jY fU (gR (xn 0) fU))))
 gC)
 (fX (gr (Hw (iV (zM (yl (fW fU (fW (jY fU (gR (iT (xn 0) fU) fU)) gf)))) (gR (iT (xn 0) fU) fU) (λ_ _=>rfl)))))),λas hp=>?_⟩)
 obtain⟨c,rfl⟩:=hp;have k1:=aK (c / 3) (show(2:Int)≠0 by decide);have k2:=aG (c / 3) (show(0:Int)<2 by decide);refine⟨by walk_at "xs",λq=>?_,λq=>?_⟩
 ·have q:c % 3<2:=q;refine⟨by walk_at "xs",?_⟩;show PV.int (1+c % 3)=PV.int (Gb c);unfold Gb;rw[ak q]
 ·have q:¬c % 3<2:=q;refine⟨⟨⟨⟨⟨tJ,by walk_at "xs",tJ⟩,tJ⟩,by walk_at "xs",?_⟩,rfl⟩,?_⟩
  ·show -(2:Int)<=c / 3 % 2/\c / 3 % 2<2;lia
  ·show PV.int (([40,2+c / 3 % 39]:List Int).getD (iw 2 (c / 3 % 2)) 0)=PV.int (Gb c);unfold Gb;rw[ai q]
def m3 (k n:Int):Int:=if n<k+3 then(if 63<n then 63 else n) else(if 63<k+3 then 63 else k+3)
def Ng (ns:List Int)(k:Int):List Int:=(List.range (m3 k (ns.length:Int)-k).toNat).map λ(j:Nat)=>ns.getD (iw ns.length (k+j)) 0
def MK (c:Int):Int:=([0,1,0,c / 4 % 39]:List Int).getD (iw 4 (c % 4)) 0
theorem Nf (c:Int):0<=MK c/\MK c<=39:=by
 have h1:=aK (c / 4) (show(39:Int)≠0 by decide);have h2:=aG (c / 4) (show(0:Int)<39 by decide);unfold MK;generalize iw 4 (c % 4)=k
 match k with
 |0=>exact⟨by show(0:Int)<=0;decide,by show(0:Int)<=39;decide⟩
 |1=>exact⟨by show(0:Int)<=1;decide,by show(1:Int)<=39;decide⟩
 |2=>exact⟨by show(0:Int)<=0;decide,by show(0:Int)<=39;decide⟩
 |3=>exact⟨h1,by show c / 4 % 39<=39;lia⟩
 |k+4=>exact⟨by show(0:Int)<=0;decide,by show(0:Int)<=39;decide⟩
def Ax (sm:List Int):List Int:=List.replicate (MK (sm.getD (iw sm.length 0) 0)).toNat 0++sm.map λc=>yG (c / 2)
def Cg (sm:List Int):PV:=.tup [.ints (Ax sm++List.replicate (sm.getD (iw sm.length (-1)) 0 / 5 % 2).toNat 0),.int (Gb (sm.getD (iw sm.length 0) 0 / 7))]
theorem Bq {ns:Li}{k:Int}(h0:0<=k)(h1:k<ns.length)(h2:k<63):1<=(Ng ns k).length/\(Ng ns k).length<=3/\∀m∈Ng ns k,m∈ns:=by
 have hm:k+1<=m3 k ns.length/\m3 k ns.length<=k+3/\m3 k ns.length<=ns.length:=by
  unfold m3;split
  ·split<;>lia
  ·split<;>lia
 unfold Ng;rw[ag,List.length_range];refine⟨by lia,by lia,λm hx=>?_⟩;obtain⟨j,hj,rfl⟩:=bw.mp hx;have hj:=dw.mp hj;have e:iw ns.length (k+j)<ns.length:=HJ (by lia) (by lia);exact FM.getD_mem e
theorem Mi {sm:Li}(h:sm.length<=3):Gd (Cg sm):=by
 have h1:=Nf (sm.getD (iw sm.length 0) 0);have k1:=aK (sm.getD (iw sm.length (-1)) 0 / 5) (show(2:Int)≠0 by decide);have k2:=aG (sm.getD (iw sm.length (-1)) 0 / 5) (show(0:Int)<2 by decide);refine⟨_,_,rfl,?_,λm hm=>?_,Rv _⟩
 ·unfold Ax;rw[ar,ar,bv,bv,ag];lia
 ·have z:((0:Int).natAbs:Int)<10^110:=by decide +kernel
  rcases aV.mp hm with q|q
  ·unfold Ax at q;rcases aV.mp q with q|q
   ·rw[(cN.mp q).2];exact z
   ·obtain⟨c,_,rfl⟩:=bw.mp q;exact Jk _
  ·rw[(cN.mp q).2];exact z
theorem K1 (T:Top K mg cFE cBP cBT cBA cBL cNO cHP cNW cNP cNN cK cW cRd):Ok P w K mg base 2 "_law_pair" ["_law_script","_law_k"] (yK K (qG cW) (λas=>∃ns k,as=[.scr ns,.int k]/\0<=k/\k<(ns.length:Int)/\k<63/\ns.length<=63/\∀m∈ns,Builtin.Int.intBits m<=2^20) λas=>match as with
  |[.scr ns,.int k]=>Cg (Ng ns k)
  |_=>.non):=by
 refine Bl T.Pg tE (λas ⟨a,b,h,_⟩=>by rw[h];rfl) (λf cdv A outer s H E hr=>⟨_,(fV (Fv (i:=2) tE.nd rfl rfl (N':=["_law_j","_law_script"]) (cap:=[some 0]) (yX rfl rfl rfl rfl ⟨⟨rfl,Or.inr (Or.inl rfl),(λz=>nomatch (show(some NameKind.cell:Option NameKind)=some NameKind.local from z)),Or.inl rfl,_,rfl,rfl⟩,tJ⟩ ⟨rfl,tJ⟩ rfl) rfl (by rfl) T.tV (xn 1) (JZ rfl T.MJ (jY (xn 1) fU) (vf 0 T.kZ) fU) (λ_ _ _=>(pg_name (i:=0) (show(["_law_j","_law_script"]:List Str).Nodup by decide +kernel) rfl (Or.inl rfl) (.inr rfl))) (λ_ _ _=>(iC 1 (xn 0) (λ_ _=>rfl))) rfl)
 (fV (jW (i:=3) tE.nd rfl (Or.inl rfl) (Hw (iV (zM (yl (fW fU (fW fU (fW fU (fW (gR (iT (iC 2 fU (λ_ _=>rfl)) fU) fU) gf)))))) (gR (iC 2 fU (λ_ _=>rfl)) fU) (λ_ _=>rfl))))
 (fV (zF (i:=4) tE.nd rfl (Or.inl rfl) (zM (G9 (zM (Jy (yl (fW fU gf)) (xn 3) (λ_=>rfl))) (zM (Nr (N':=["_law_cell"]) (cap:=[]) (yX rfl rfl rfl rfl tJ tJ rfl) rfl (xl 2) (λ_ _ _=>(pg_name (i:=0) (show(["_law_cell"]:List Str).Nodup by decide +kernel) rfl (Or.inl rfl) (.inr rfl))) (λ_ _ _=>(PN (pO T) hr (fW (iT (xn 0) fU) gf))))))))
 (fX (gr (xG (fW (zM (G9 (xl 4) (zM (Jy (yl (fW fU gf)) (gR (iT (iC 2 (q9 fU) (λ_ _=>rfl)) fU) fU) (λ_=>rfl))))) (fW (PN (yV T) hr (fW (iT (iC 2 fU (λ_ _=>rfl)) fU) gf)) gf)))))))),λas hp=>?_⟩)
 obtain⟨ns,k,rfl,h0,h1,h2,h63,hbits⟩:=hp;have hm:k+1<=m3 k ns.length/\m3 k ns.length<=k+3/\m3 k ns.length<=ns.length:=by
  unfold m3;split
  ·split<;>lia
  ·split<;>lia
 obtain⟨s1,s2,s3⟩:=Bq h0 h1 h2;refine⟨⟨⟨rfl,⟨rfl,tJ⟩,.inr (.inr rfl),tJ⟩,⟨?_,?_,?_,?_⟩,?_,λj hj=>?_⟩,λsm esm=>?_⟩
 ·show -(2:Int)^62<=k;lia
 ·show k<2^62;lia
 ·show -(2:Int)^62<=m3 k ns.length;lia
 ·show m3 k ns.length<2^62;lia
 ·show(m3 k ns.length-k).toNat<=1000;lia
 ·have hj:j<(m3 k ns.length-k).toNat:=hj;exact⟨.inr (.inr rfl),rfl,by show -(ns.length:Int)<=k+(j:Int);lia,by show k+(j:Int)<(ns.length:Int);lia⟩
 have esm:sm=Ng ns k:=esm;rw[<- esm]at s1 s2 s3;refine gD (ρ':=[.fr (.scr ns),.fr (.int k),.fr (.ints sm),.un,.un]) rfl ?_;have c1:-(sm.length:Int)<=0:=by lia
 have c2:(0:Int)<(sm.length:Int):=by lia
 have d1:-(sm.length:Int) <= -1:=by lia
 have d2:(-1:Int)<(sm.length:Int):=by lia
 generalize e0:sm.getD (iw sm.length 0) 0=x0;have k1:=aK x0 (show(4:Int)≠0 by decide);have k2:=aG x0 (show(0:Int)<4 by decide);refine⟨⟨⟨⟨⟨tJ,tJ,tJ,⟨⟨⟨.inl rfl,tJ,c1,c2⟩,tJ,by show(0:Int)<4;decide,by show(4:Int).natAbs.log2<9000;decide +kernel⟩,tJ,by show(0:Int)<39;decide⟩,tJ⟩,tJ⟩,⟨⟨.inl rfl,tJ,c1,c2⟩,tJ,by show(0:Int)<4;decide⟩,?_⟩,rfl⟩,λsh esh=>?_⟩
 ·show -(4:Int)<=sm.getD (iw sm.length 0) 0 % 4/\sm.getD (iw sm.length 0) 0 % 4<4;rw[e0];lia
 have esh:sh=MK (sm.getD (iw sm.length 0) 0):=esh;have hsh:=Nf (sm.getD (iw sm.length 0) 0);rw[<- esh]at hsh;refine gD (ρ':=[.fr (.scr ns),.fr (.int k),.fr (.ints sm),.fr (.int sh),.un]) rfl ?_;refine⟨⟨⟨⟨⟨tJ,tJ⟩,tJ⟩,rfl,by show -(2:Int)^63<=sh;lia,by show sh.toNat<=1000;lia⟩,⟨rfl,by show sm.length<=1000;lia,λn hn=>⟨⟨⟨rfl,tJ,by show(0:Int)<2;decide,by show(2:Int).natAbs.log2<9000;decide +kernel⟩,tJ⟩,n / 2,rfl,?_⟩⟩,?_⟩,λg eg=>?_⟩
 ·have hn:n∈sm:=hn;exact ud 2 (hbits n (s3 n hn))
 ·refine b0 (small1000 ?_);show(List.replicate sh.toNat (0:Int)).length+(sm.map λc=>yG (c / 2)).length<=1000;rw[bv,ag];lia
 have eg:g=List.replicate sh.toNat 0++sm.map λc=>yG (c / 2):=eg;have gl:g.length<=50:=by rw[eg,ar,bv,ag];lia
 have eg:g=Ax sm:=by rw[eg,esh];rfl
 have j1:=aK (sm.getD (iw sm.length (-1)) 0 / 5) (show(2:Int)≠0 by decide);have j2:=aG (sm.getD (iw sm.length (-1)) 0 / 5) (show(0:Int)<2 by decide);refine gD (ρ':=[.fr (.scr ns),.fr (.int k),.fr (.ints sm),.fr (.int sh),.fr (.ints g)]) rfl ?_;refine⟨⟨⟨rfl,⟨⟨⟨tJ,tJ⟩,tJ⟩,⟨⟨⟨.inl rfl,tJ,d1,d2⟩,tJ,by show(0:Int)<5;decide,by show(5:Int).natAbs.log2<9000;decide +kernel⟩,tJ,by show(0:Int)<2;decide⟩,?_,?_⟩,?_⟩,⟨⟨⟨⟨.inl rfl,tJ,c1,c2⟩,tJ,by show(0:Int)<7;decide,by show(7:Int).natAbs.log2<9000;decide +kernel⟩,tJ⟩,_,rfl⟩,tJ⟩,?_⟩
 ·show -(2:Int)^63<=sm.getD (iw sm.length (-1)) 0 / 5 % 2;lia
 ·show(sm.getD (iw sm.length (-1)) 0 / 5 % 2).toNat<=1000;lia
 ·refine b0 (small1000 ?_);show g.length+(List.replicate (sm.getD (iw sm.length (-1)) 0 / 5 % 2).toNat (0:Int)).length<=1000;rw[bv];lia
 show PV.tup [.ints (g++List.replicate (sm.getD (iw sm.length (-1)) 0 / 5 % 2).toNat 0),.int (Gb (sm.getD (iw sm.length 0) 0 / 7))]=Cg (Ng ns k);rw[<- esm,eg];rfl
def jw (z:List Nat):List (List Nat)->List Nat
 |[]=>[]
 |[p]=>p
 |p::q::r=>p++z++jw z (q::r)
theorem Di (z:Str):∀ps:List Str,(Str.join z ps).cps.toList=jw z.cps.toList (ps.map λp=>p.cps.toList)
 |[]=>rfl
 |[p]=>rfl
 |p::q::r=>by show(p++z++Str.join z (q::r)).cps.toList=p.cps.toList++z.cps.toList++jw z.cps.toList ((q::r).map λp=>p.cps.toList);rw[gB,gB,Di z (q::r)]
theorem zm:∀l:List Nat,(Af l).length<=2*l.length
 |[]=>aw _
 |a::r=>by
  have:=zm r;unfold Af at *
  rw[List.flatMap_cons,ar];split
  ·simp only[aR,List.length_nil];lia
  ·simp only[aR,List.length_nil];lia
theorem ir (x:Str):x.length=x.cps.toList.length:=bf.symm
theorem EY {z:Str}{c:Nat}{a b:List Nat}(e:z.cps.toList=a++c::b)(h:c∉a):PySem.Txt.partition z ⟨#[c]⟩=(⟨a.toArray⟩,⟨#[c]⟩,⟨b.toArray⟩):=by
 have ha:z.cps.toList[a.length]?=some c:=by rw[e,bh (aw _),fR];rfl
 rcases PyProof.Rows.partition_whole z ⟨#[c]⟩ with⟨_,hn⟩|⟨i,ep,hi,hk⟩
 ·exact absurd ((cj z c _).mpr ha) (hn _)
 ·have h1:¬a.length<i:=λy=>hk _ y ((cj z c _).mpr ha);have h2:¬i<a.length:=λy=>by have:=(cj z c i).mp hi;rw[e,br y]at this;exact h (bC this)
  have h3:i=a.length:=by lia
  subst h3;rw[ep];refine Prod.ext (jf ?_) (Prod.ext rfl (jf ?_))
  ·show(z.cps.extract 0 a.length).toList=a;rw[c9,e];simp
  ·show(z.cps.extract (a.length+1) z.length).toList=b;rw[c9,ir,e];simp;exact cu (by lia)
def dg (m:Nat):List Nat:=(Nat.toDigits 10 m).map Char.toNat
theorem ql (m:Nat):(gm (m:Int)).cps.toList=dg m:=uo m
theorem M3:∀d:Nat,d<10->(Nat.digitChar d).toNat=48+d:=by decide
theorem qb {m:Nat}(h:m<10):dg m=[48+m]:=by unfold dg;rw[eM h,bo,M3 m h];rfl
theorem HD {m:Nat}(h:10<=m):dg m=dg (m / 10)++[48+m % 10]:=by have hm:m % 10<10:=Nat.mod_lt m (by decide);have t:Nat.toDigits 10 (m / 10)++Nat.toDigits 10 (m % 10)=Nat.toDigits 10 (10*(m / 10)+m % 10):=Nat.toDigits_append_toDigits (by decide) (by lia) hm;rw[Nat.div_add_mod]at t;unfold dg;rw[<- t,bq,eM hm,bo,M3 _ hm];rfl
theorem jX (m:Nat):(∀c∈dg m,isF c=true)/\fv (dg m)=m/\(0<m->∃c r,dg m=c::r/\49<=c/\c<=57)/\dg m≠[]:=by
 induction m using Nat.strongRecOn with
 |_ m ih=>
  by_cases h:m<10
  ·rw[qb h];refine⟨λc hc=>?_,?_,λ_=>⟨_,_,rfl,by lia,by lia⟩,λz=>nomatch z⟩
   ·rw[aN.mp hc];exact iJ.mpr ⟨by lia,by lia⟩
   ·show 10*0+(48+m-48)=m;lia
  ·obtain⟨h1,h2,h3,h4⟩:=ih (m / 10) (by lia);rw[HD (by lia)];refine⟨λc hc=>?_,?_,λ_=>?_,λz=>absurd (List.append_eq_nil_iff.mp z).1 h4⟩
   ·rcases aV.mp hc with hc|hc
    ·exact h1 c hc
    ·rw[aN.mp hc];exact iJ.mpr ⟨by lia,by lia⟩
   ·unfold fv at *
    rw[ey,h2];show 10*(m / 10)+(48+m % 10-48)=m;lia
   ·obtain⟨c,r,e,c1,c2⟩:=h3 (by lia);exact⟨c,r++[48+m % 10],by rw[e];rfl,c1,c2⟩
theorem JC {m k:Nat}(hk:0<k)(h:m<10^k):(dg m).length<=k:=by unfold dg;rw[ag];exact(c7 (by decide) hk).mpr h
theorem ww (m c:Nat)(r:List Nat):jV (m+1) (c::r)=if isF c then(c::(jV m r).1,(jV m r).2) else([],c::r):=rfl
theorem Cv (c:Nat)(r:List Nat):j7 (c::r)=if isF c then(if c=48 then .ok [48] r else .ok (c::(jV 99 r).1) (jV 99 r).2) else .bad (r.length+1):=rfl
theorem Gy (c:Nat):jL [c]=if isF c then .ok [c] [] else .bad 1:=rfl
theorem wg (c c':Nat)(r:List Nat):jL (c::c'::r)=if isF c then(if c≠48/\isF c'=true/\10*(c-48)+(c'-48)<=40 then .ok [c,c'] r else .ok [c] (c'::r)) else .bad (r.length+2):=rfl
theorem Iv {ds:List Nat}{c:Nat}{r:List Nat}(h:c≠94):jj ds (c::r)=.ok (ds,some []) (c::r):=by unfold jj;dsimp only;rw[ai h]
theorem Gg {ds r ps r':List Nat}(h:jL r=.ok ps r'):jj ds (94::r)=.ok (ds,some ps) r':=by unfold jj;dsimp only;rw[ak rfl,h]
theorem GJ {ds:List Nat}{c:Nat}{r:List Nat}(h:c≠120):j8 ds (c::r)=.ok (ds,none) (c::r):=by unfold j8;dsimp only;rw[ai h]
theorem Fp {ds r:List Nat}:j8 ds (120::r)=jj ds r:=by rw[j8,ak rfl]
theorem Kq {r:List Nat}:iH (120::r)=jj [] r:=by rw[iH,ak rfl]
theorem Ma {c:Nat}{r ds r':List Nat}(h:c≠120)(e:j7 (c::r)=.ok ds r'):iH (c::r)=j8 ds r':=by unfold iH;dsimp only;rw[ai h,e]
theorem Dd (r:List Nat):gA (32::r)=gA r:=by rw[gA,ak rfl]
theorem tG {c:Nat}{r:List Nat}(h:c≠32):gA (c::r)=c::r:=by rw[gA,ai h]
theorem Ra {r:List Nat}:xT (45::r)=Bk true (gA r):=by unfold xT;rw[tG (by decide)];rfl
theorem Qq {c:Nat}{r:List Nat}(h:c≠32)(h2:¬(c=43\/c=45)):xT (c::r)=Bk false (c::r):=by unfold xT;rw[tG h];dsimp only;rw[ai h2]
def Sw (R:List Nat):Prop:=∀c r,R=c::r->isF c=false
theorem Ae:∀(m:Nat) (r R:List Nat),(∀c∈r,isF c=true)->r.length<=m->Sw R->jV m (r++R)=(r,R)
 |0,[],R,_,_,_=>rfl
 |m+1,[],R,_,_,h=>by
  cases R with
  |nil=>rfl
  |cons c R=>rw[bK,ww,ai (by rw[h c R rfl];decide)]
 |0,c::r,R,_,h,_=>absurd h (by simp)
 |m+1,c::r,R,h1,h2,h3=>by rw[bj,ww,ak (h1 c aj),Ae m r R (λd hd=>h1 d (ae _ hd)) (by simpa using h2) h3]
theorem Jq {m:Nat}{R:List Nat}(hm:m<10^100)(hR:Sw R):j7 (dg m++R)=.ok (dg m) R:=by
 obtain⟨h1,_,h3,_⟩:=jX m;by_cases h:m=0
 ·subst h;rw[qb (by decide)];rfl
 ·obtain⟨c,r,e,c1,c2⟩:=h3 (by lia);have hl:=JC (by decide) hm;rw[e]at hl h1 ⊢;rw[bj,Cv,ak (h1 c aj),ai (by lia),Ae 99 r R (λd hd=>h1 d (ae _ hd)) (by simp only[aR]at hl;lia) hR]
theorem HR {k:Nat}{R:List Nat}(h2:k<=40)(hR:Sw R):jL (dg k++R)=.ok (dg k) R:=by
 by_cases h:k<10
 ·have f:isF (48+k)=true:=iJ.mpr ⟨by lia,by lia⟩;rw[qb h];cases R with
  |nil=>rw[aU,Gy,ak f]
  |cons c R=>rw[cU,wg,ak f,ai (by rw[hR c R rfl];simp)]
 ·rw[HD (by lia),qb (by lia)];have f:isF (48+k / 10)=true:=iJ.mpr ⟨by lia,by lia⟩;have f2:isF (48+k % 10)=true:=iJ.mpr ⟨by lia,by lia⟩;rw[cU,bj,cU,wg,ak f,ak ⟨by lia,f2,by lia⟩]
def oX (n:Int)(k:Nat):lJ:=(if k≠0/\n.natAbs=1 then[] else dg n.natAbs,if k=0 then none else if k=1 then some [] else some (dg k))
theorem xQ (n:Int)(k:Nat):(lB n k).cps.toList=(if k≠0/\n.natAbs=1 then[] else dg n.natAbs)++(if k=0 then[] else if k=1 then[120] else 120::94::dg k):=by
 have z0:("":Str).cps.toList=[]:=by decide +kernel
 have zx:("x":Str).cps.toList=[120]:=by decide +kernel
 have zc:("x^":Str).cps.toList=[120,94]:=by decide +kernel
 unfold lB;by_cases h:k=0
 ·subst h;rw[ak (by rfl),ai (λz=>z.1 rfl),ak rfl,ql,aU]
 ·rw[ai (by lia),gB,ai h];congr 1
  ·by_cases y:n.natAbs=1
   ·rw[ak y,ak ⟨h,y⟩,z0]
   ·rw[ai y,ai (λz=>y z.2),ql]
  ·by_cases y:k=1
   ·rw[ak (by lia),ak y,zx]
   ·rw[ai (by lia),ai y,gB,zc,ql];rfl
theorem z7 {ds R:List Nat}{k:Nat}(hk:k<=40)(h0:k≠0)(hR:∀c r,R=c::r->c≠94/\isF c=false):jj ds ((if k=1 then[] else 94::dg k)++R)=.ok (ds,if k=1 then some [] else some (dg k)) R:=by
 by_cases y:k=1
 ·rw[ak y,ak y];cases R with
  |nil=>rfl
  |cons c R=>rw[bK,Iv (hR c R rfl).1]
 ·rw[ai y,ai y];rw[bj,Gg (HR hk λc r e=>(hR c r e).2)]
theorem zX {n:Int}{k:Nat}{R:List Nat}(hn:n.natAbs<10^100)(hk:k<=40)(hR:∀c r,R=c::r->c≠94/\isF c=false/\c≠120):iH ((lB n k).cps.toList++R)=.ok (oX n k) R:=by
 have hR2:∀c r,R=c::r->c≠94/\isF c=false:=λc r e=>⟨(hR c r e).1,(hR c r e).2.1⟩;obtain⟨h1,_,_,h4⟩:=jX n.natAbs;have num:∀S,Sw S->iH (dg n.natAbs++S)=j8 (dg n.natAbs) S:=λS hS=>by
  have hN:=Jq hn hS;cases e:dg n.natAbs with
  |nil=>exact absurd e h4
  |cons c r=>rw[e]at hN h1;exact Ma (λz=>by have:=h1 c aj;rw[z]at this;exact absurd this (by decide)) hN
 unfold oX;rw[xQ,aY];by_cases h:k=0
 ·rw[ak h,ai (λz=>z.1 h),bK,num R λc r e=>(hR c r e).2.1,ak h];cases R with
  |nil=>rfl
  |cons c R=>rw[GJ (hR c R rfl).2.2]
 ·have e2:(if k=0 then[] else if k=1 then[120] else 120::94::dg k)++R=120::((if k=1 then[] else 94::dg k)++R):=by
   rw[ai h];by_cases y:k=1
   ·rw[ak y,ak y];rfl
   ·rw[ai y,ai y];rfl
  rw[e2,ai h];by_cases y:n.natAbs=1
  ·rw[ak ⟨h,y⟩];rw[bK,Kq,z7 hk h hR2]
  ·rw[ai (λz=>y z.2),num _ (λc r e=>by injection e with e _;rw[<- e];decide)];rw[Fp,z7 hk h hR2]
def o5 (g:List Int):Nat->List (Bool×lJ)
 |0=>[]
 |k+1=>if g.getD k 0=0 then o5 g k else(decide (g.getD k 0<0),oX (g.getD k 0) k)::o5 g k
theorem yo (n:Int):(DR n).cps.toList=[32,if n<0 then 45 else 43,32]:=by unfold DR;split<;>decide +kernel
theorem JM (g:Li):∀(k:Nat) (c:Nat) (r:List Nat),(jh g k).cps.toList=c::r->c=32
 |0,c,r,h=>by rw[show(jh g 0).cps.toList=[] from by show(("":Str)).cps.toList=[];decide +kernel]at h;cases h
 |k+1,c,r,h=>by
  unfold jh at h;split at h
  ·exact JM g k c r h
  ·rw[gB,yo]at h;injection h with h _;exact h.symm
theorem M7 (g:Li)(k:Nat):∀c r,(jh g k).cps.toList=c::r->c≠94/\isF c=false/\c≠120:=λc r e=>by rw[JM g k c r e];decide
theorem Nb (n:Int)(k:Nat)(R:List Nat):∃c r,(lB n k).cps.toList++R=c::r/\c≠32/\¬(c=43\/c=45):=by
 obtain⟨h1,_,_,h4⟩:=jX n.natAbs;rw[xQ];by_cases y:k≠0/\n.natAbs=1
 ·rw[ak y,ai y.1];by_cases z:k=1
  ·rw[ak z];exact⟨120,_,rfl,by decide,by decide⟩
  ·rw[ai z];exact⟨120,_,rfl,by decide,by decide⟩
 ·rw[ai y];cases e:dg n.natAbs with
  |nil=>exact absurd e h4
  |cons c r=>rw[e]at h1;have:=iJ.mp (h1 c aj);exact⟨c,_,rfl,by lia,by lia⟩
theorem Dq (n:Int)(k:Nat)(R:List Nat):gA ((lB n k).cps.toList++R)=(lB n k).cps.toList++R:=by obtain⟨c,r,e,c1,_⟩:=Nb n k R;rw[e];exact tG c1
theorem Eg {g:Li}(hb:∀j,(g.getD j 0).natAbs<10^100):∀k,k<=41->Bf (gA (jh g k).cps.toList)=.ok (o5 g k)
 |0,_=>by rw[show(jh g 0).cps.toList=[] from by show(("":Str)).cps.toList=[];decide +kernel];rfl
 |k+1,hk=>by
  have ih:=Eg hb k (by lia);unfold jh o5;by_cases h:g.getD k 0=0
  ·rw[ak h,ak h];exact ih
  ·rw[ai h,ai h,gB,gB,yo];have hT:=zX (hb k) (show k<=40 by lia) (M7 g k);have e:gA ([32,if g.getD k 0<0 then 45 else 43,32]++((lB (g.getD k 0) k).cps.toList++(jh g k).cps.toList))=(if g.getD k 0<0 then 45 else 43)::32::((lB (g.getD k 0) k).cps.toList++(jh g k).cps.toList):=by rw[bj,Dd,bj,tG (by split<;>decide)];rfl
   rw[e,(uV (c:=if g.getD k 0<0 then 45 else 43) (r:=32::((lB (g.getD k 0) k).cps.toList++(jh g k).cps.toList)) (by split<;>simp)).2 (oX (g.getD k 0) k) (jh g k).cps.toList ?_,ih]
   ·show Except.ok ((decide ((if g.getD k 0<0 then 45 else 43)=45),_)::_)=_;congr 3;by_cases y:g.getD k 0<0
    ·rw[ak y];simp only[decide_true,aW y]
    ·rw[ai y];simp only[aQ y];rfl
   ·rw[Dd,Dq,hT]
theorem Le {g:Li}(hb:∀j,(g.getD j 0).natAbs<10^100){t:Nat}(ht:t<=40)(h0:g.getD t 0≠0):xT (rE g t).cps.toList=.ok (o5 g (t+1)):=by
 have hT:=zX (hb t) ht (M7 g t);have hL:=Eg hb t (by lia);unfold rE o5;rw[ai h0,gB,gB];have fin:∀b,Bk b ((lB (g.getD t 0) t).cps.toList++(jh g t).cps.toList)=.ok ((b,oX (g.getD t 0) t)::o5 g t):=λb=>by rw[(G4 b _).2 _ _ hT,hL];rfl
 by_cases y:g.getD t 0<0
 ·rw[show(Bm (g.getD t 0)).cps.toList=[45] from by unfold Bm;rw[ak y];decide +kernel];rw[cU,Ra,Dq,fin,aW y]
 ·rw[show(Bm (g.getD t 0)).cps.toList=[] from by unfold Bm;rw[ai y];decide +kernel,bK,aQ y];obtain⟨c,r,e,c1,c2⟩:=Nb (g.getD t 0) t (jh g t).cps.toList;have f:=fin false;rw[e]at f ⊢;rw[Qq c1 c2,f]
theorem KN {n:Int}{k:Nat}(h:n≠0):(if decide (n<0) then -1 else 1)*zN (oX n k).1=n:=by
 have e:zN (oX n k).1=(n.natAbs:Int):=by
  unfold zN oX;dsimp only;by_cases y:k≠0/\n.natAbs=1
  ·rw[ak y,ak rfl,y.2];rfl
  ·rw[ai y,ai (jX _).2.2.2,(jX _).2.1]
 rw[e];by_cases y:n<0
 ·rw[aW y,ak rfl];lia
 ·rw[aQ y,ai (by decide)];lia
theorem JV {n:Int}{k:Nat}:Jg (oX n k).2=(k:Int):=by
 unfold oX;dsimp only;by_cases y:k=0
 ·rw[ak y,y];rfl
 ·rw[ai y];by_cases z:k=1
  ·rw[ak z,z];rfl
  ·rw[ai z];cases e:dg k with
   |nil=>exact absurd e (jX k).2.2.2
   |cons c r=>show((fv (c::r):Nat):Int)=k;rw[<- e,(jX k).2.1]
theorem yq (g:Li):∀(k:Nat) (row:Li),row.length=41->k<=41->∀j,((o5 g k).foldl (λrow u=>su row (if u.1 then -1 else 1) u.2) row).getD j 0=row.getD j 0+if j<k then g.getD j 0 else 0
 |0,row,_,_,j=>by show row.getD j 0=_;rw[ai (by lia),Int.add_zero]
 |k+1,row,hl,hk,j=>by
  unfold o5;by_cases h:g.getD k 0=0
  ·rw[ak h,yq g k row hl (by lia) j];congr 1;by_cases y:j<k
   ·rw[ak y,ak (by lia)]
   ·rw[ai y];by_cases z:j=k
    ·rw[ak (by lia),z,h]
    ·rw[ai (by lia)]
  ·rw[ai h,dL,yq g k _ (by rw[zQ];exact hl) (by lia) j];unfold su;dsimp only;rw[JV,KN h,show((k:Int)).toNat=k from rfl];rw[gQ,c6 (l:=row),c6 (l:=row) (i:=j),cZ];by_cases z:k=j
   ·subst z;rw[ak rfl,ak (by lia),ai (by lia),ak (by lia)];simp
   ·rw[ai z];congr 1;by_cases y:j<k
    ·rw[ak y,ak (by lia)]
    ·rw[ai y,ai (by lia)]
theorem Gu {g:Li}{k:Nat}(hk:k<=41)(j:Nat):(rowOf (o5 g k)).getD j 0=if j<k then g.getD j 0 else 0:=by unfold rowOf;rw[yq g k _ bv hk j,gQ,bX];split<;>simp
theorem N7 {g:Li}(hf:nJ g)(hl:g.length<=41)(hb:∀m∈g,m.natAbs<10^100):∃ts,xT (mC g).cps.toList=.ok ts/\f9 (rowOf ts)=g:=by
 have hb':∀j,(g.getD j 0).natAbs<10^100:=λj=>by
  rw[gQ];cases e:g[j]? with
  |none=>exact(by decide:(0:Int).natAbs<10^100)
  |some m=>exact hb m (bC e)
 by_cases h:g=[]
 ·subst h;refine⟨[(false,([48],none))],?_,by decide⟩;rw[show(mC []).cps.toList=[48] from by show(("0":Str)).cps.toList=_;decide +kernel];rfl
 ·have hn:=lP h;have h0:=hf h;refine⟨_,by rw[show mC g=rE g (g.length-1) from ai h];exact Le hb' (by lia) h0,?_⟩;rw[show g.length-1+1=g.length by lia];refine Ag (kI _) hf λj=>?_;rw[km _ _ rfl,Gu hl];split
  ·rfl
  ·rw[gQ,cx (by lia)];rfl
abbrev iQ:List Nat:=[32,42,32]
theorem ug:(" * ":Str)=⟨#[32,42,32]⟩:=by decide +kernel
theorem Ei {x:Str}{k:Nat}(h:PySem.StrLaws.At x " * " x.length k):(x.cps.toList.drop k).take 3=[32,42,32]:=by
 have h2:=h.2;rw[ug]at h2;have h3:x.cps.extract k (k+3) = #[32,42,32]:=by have:(x.cps.extract k (k+3) == #[32,42,32])=true:=h2;exact eq_of_beq this
 have h4:=congrArg Array.toList h3;rw[c9]at h4;have e:(x.cps.toList.drop k).take 3=[32,42,32]:=by simpa [d7] using h4
 exact e
theorem Pk {x:Str}{k:Nat}(h:PySem.StrLaws.At x " * " x.length k):x.cps.toList[k+1]?=some 42:=by have e:=congrArg (λl=>l[1]?) (Ei h);simp only[List.getElem?_take,List.getElem?_drop]at e;simpa using e
theorem DX {x:Str}{k:Nat}{r:List Nat}(h:x.cps.toList.drop k=32::42::32::r):PySem.StrLaws.At x " * " x.length k:=by
 rw[ug];have hl:=congrArg List.length h;rw[df,bf]at hl;simp only[aR]at hl;refine⟨?_,?_⟩
 ·show k+3<=x.cps.size;lia
 ·show(x.cps.extract k (k+3) == #[32,42,32])=true;rw[fP];apply Array.toList_inj.mp;rw[c9];simp[d7,h]
theorem yh (z:List Nat):∀(ps:List (List Nat)) (h:List Nat),jw z (h::ps)=h++(ps.map λp=>z++p).flatten
 |[],h=>by show h=h++[];rw[aU]
 |q::r,h=>by show h++z++jw z (q::r)=_;rw[yh z r q,bo,bO,aY,aY]
open PySem.StrLaws in
theorem uN (x:Str):∀(cuts:List Nat) (a f:Nat) (ps:Ls),ChainG x " * " x.length a cuts f->(∀k,f<=k->¬At x " * " x.length k)->ps≠[]->(∀p∈ps,42∉p.cps.toList)->x.cps.toList.drop a=jw iQ (ps.map λp=>p.cps.toList)->partsFrom x (" * ":Str).length a cuts=ps
 |[],a,f,ps,h,hn,h0,hp,e=>by
  have ef:f=a:=h;subst ef
  match ps,h0,hp,e with
  |[p],_,_,e=>show[Builtin.Str.strSub x f x.length]=[p];congr 1;refine jf ?_;rw[strSub_toList];rw[e];show p.cps.toList.take _=p.cps.toList;refine cu ?_;have hl:=congrArg List.length e;rw[df,bf]at hl;show p.cps.toList.length<=x.cps.size-f;have:p.cps.toList.length=x.cps.size-f:=hl.symm;lia
  |p::q::r,_,_,e=>refine absurd (DX (k:=f+p.cps.toList.length) (r:=jw iQ ((q::r).map λp=>p.cps.toList)) ?_) (hn _ (eY _ _));rw[<- de,e];show(p.cps.toList++iQ++jw iQ _).drop _=_;rw[aY,fH];rfl
 |c::r,a,f,ps,h,hn,h0,hp,e=>by
  obtain⟨ac,hc,hb,hr⟩:=h;have hm:=Pk hc;have el:∀j,x.cps.toList[a+j]?=(jw iQ (ps.map λp=>p.cps.toList))[j]?:=λj=>by rw[<- e,List.getElem?_drop]
  match ps,h0,hp,e,el with
  |[p],_,hp,e,el=>have:=el (c+1-a);rw[show a+(c+1-a)=c+1 by lia,hm]at this;exact absurd (bC this.symm) (hp p aj)
  |p::q::rs,_,hp,e,el=>
   have e2:jw iQ ((p::q::rs).map λp=>p.cps.toList)=p.cps.toList++(32::42::32::jw iQ ((q::rs).map λp=>p.cps.toList)):=by show p.cps.toList++iQ++jw iQ _=_;rw[aY];rfl
   have at2:At x " * " x.length (a+p.cps.toList.length):=DX (r:=jw iQ ((q::rs).map λp=>p.cps.toList)) (by rw[<- de,e,e2,fH]);have c1:¬a+p.cps.toList.length<c:=λy=>hb _ (eY _ _) y at2;have c2:¬c<a+p.cps.toList.length:=λy=>by
    have z:=el (c+1-a);rw[show a+(c+1-a)=c+1 by lia,hm,e2]at z;by_cases w:c+1<a+p.cps.toList.length
    ·rw[br (by lia)]at z;exact absurd (bC z.symm) (hp p aj)
    ·rw[bh (by lia),show c+1-a-p.cps.toList.length=0 by lia]at z;exact absurd (show(some 42:Option Nat)=some 32 from z) (by decide)
   have c3:c=a+p.cps.toList.length:=by lia
   subst c3;show Builtin.Str.strSub x a (a+p.cps.toList.length)::partsFrom x (" * ":Str).length (a+p.cps.toList.length+(" * ":Str).length) r=_;rw[uN x r _ f (q::rs) hr hn (λz=>nomatch z) (λp' h'=>hp p' (ae _ h')) ?_]
   ·congr 1;refine jf ?_;rw[strSub_toList,e,e2,show a+p.cps.toList.length-a=p.cps.toList.length by lia,List.take_left]
   ·rw[show(" * ":Str).length=3 from by decide +kernel,Nat.add_assoc,<- de,e,e2,<- de,fH];rfl
theorem uP {x:Str}{ps:Ls}(h0:ps≠[])(hp:∀p∈ps,42∉p.cps.toList)(e:x.cps.toList=jw iQ (ps.map λp=>p.cps.toList)):PySem.Txt.split x " * "=ps:=by
 obtain⟨f,hG,hn⟩:=eO x " * " (by decide +kernel);have main:=uN x _ 0 f ps hG hn h0 hp (by rw[dy];exact e);unfold PySem.Txt.split;split
 ·rename_i hc
  match ps,h0,e with
  |[p],_,e=>rw[jf (b:=p) e]
  |p::q::r,_,e=>
   exfalso;have hl:=congrArg List.length e;have e2:jw iQ ((p::q::r).map λp=>p.cps.toList)=p.cps.toList++iQ++jw iQ ((q::r).map λp=>p.cps.toList):=rfl;rw[e2,ar,ar,<- ir]at hl;have k1:Builtin.Str.strKind (" * ":Str)=1:=by decide +kernel
   have k2:(" * ":Str).length=3:=by decide +kernel
   rw[k1,k2]at hc;have k3:1<=Builtin.Str.strKind x:=by unfold Builtin.Str.strKind;split<;>(try split)<;>lia
   simp only[Bool.or_eq_true,bR]at hc;have k4:iQ.length=3:=rfl;lia
 ·split
  ·rename_i hc;have hc:PySem.Builtin.Str.occurrences x " * " 0 x.length (x.length+1)=[]:=List.isEmpty_iff.mp hc;rw[hc]at main;rw[<- main];show[x]=[Builtin.Str.strSub x 0 x.length];rw[PySem.StrLaws.sub_whole]
  ·rw[dD];exact main
def Tame (l:List Nat):Prop:=∀c∈l,c≠41/\c≠42/\c≠40
theorem Tame.app {a b:List Nat}(ha:Tame a)(hb:Tame b):Tame (a++b):=λc hc=>(aV.mp hc).elim (ha c) (hb c)
theorem mW (m:Nat):Tame (dg m):=λc hc=>by have:=iJ.mp ((jX m).1 c hc);lia
theorem Dk (n:Int)(k:Nat):Tame (lB n k).cps.toList:=by
 rw[xQ];refine Tame.app ?_ ?_
 ·split
  ·exact λc hc=>nomatch hc
  ·exact mW _
 ·split
  ·exact λc hc=>nomatch hc
  ·split
   ·exact λc hc=>by rw[aN.mp hc];decide
   ·intro c hc;rcases aq.mp hc with rfl|hc
    ·decide
    ·rcases aq.mp hc with rfl|hc
     ·decide
     ·exact mW k c hc
theorem uF (g:Li):∀k,Tame (jh g k).cps.toList
 |0=>λc hc=>by rw[show(jh g 0).cps.toList=[] from by show(("":Str)).cps.toList=[];decide +kernel]at hc;cases hc
 |k+1=>by
  unfold jh;split
  ·exact uF g k
  ·rw[gB,gB,yo];refine Tame.app (λc hc=>?_) (Tame.app (Dk _ _) (uF g k));simp only[aq,dC,or_false]at hc;rcases hc with rfl|rfl|rfl
   ·decide
   ·split<;>decide
   ·decide
theorem xj (g:Li):Tame (mC g).cps.toList:=by
 unfold mC;split
 ·exact λc hc=>by rw[show("0":Str).cps.toList=[48] from by decide +kernel]at hc;rw[aN.mp hc];decide
 ·unfold rE;rw[gB,gB];refine Tame.app (λc hc=>?_) (Tame.app (Dk _ _) (uF _ _));unfold Bm at hc;split at hc
  ·rw[show("-":Str).cps.toList=[45] from by decide +kernel]at hc;rw[aN.mp hc];decide
  ·rw[show("":Str).cps.toList=[] from by decide +kernel]at hc;cases hc
def pF (o:Int):List Nat:=if o > 1 then 94::dg o.toNat else[]
def Uk (g:List Int)(o:Int):List Nat:=40::(mC g).cps.toList++41::pF o
def iy (q:PV):Str:=⟨(Uk (f9 (zY q)) (GC q)).toArray⟩
theorem Jw {o:Int}:(if o > 1 then("^":Str)++gm o else e0).cps.toList=pF o:=by
 unfold pF;split
 ·rename_i h;rw[gB,show("^":Str).cps.toList=[94] from by decide +kernel,show gm o=gm (o.toNat:Int) from by rw[Int.toNat_of_nonneg (by lia)],ql];rfl
 ·decide +kernel
theorem Fe (s:Str)(q:PV):(rJ s q).cps.toList=s.cps.toList++(iQ++(iy q).cps.toList):=by unfold rJ;rw[gB,gB,gB,gB,Jw,show(" * (":Str).cps.toList=[32,42,32,40] from by decide +kernel,show(")":Str).cps.toList=[41] from by decide +kernel];show _=s.cps.toList++(iQ++(40::(mC (f9 (zY q))).cps.toList++41::pF (GC q)));simp only[aY,bj,bK]
theorem uL:∀(l:List PV) (s:Str),(l.foldl rJ s).cps.toList=s.cps.toList++((l.map λq=>(iy q).cps.toList).map λp=>iQ++p).flatten
 |[],s=>by show s.cps.toList=_++[];rw[aU]
 |q::r,s=>by rw[dL,uL r,Fe,bo,bo,bO,aY]
theorem Ds (c:Int)(l:List PV):(jy c l).cps.toList=jw iQ ((gm c::l.map iy).map λp=>p.cps.toList):=by unfold jy;rw[uL,bo,yh,cy,cy,cy];rfl
theorem mU (c:Int):(gm c).cps.toList=(if c<0 then[45] else[])++dg c.natAbs:=by
 by_cases h:c<0
 ·obtain⟨m,rfl⟩:∃m:Nat,c=Int.negSucc m:=⟨c.natAbs-1,by lia⟩;rw[ak h];show(PySem.Str.ofString (toString (Int.negSucc m))).cps.toList=_;rw[dP];show("-"++Nat.repr (m+1)).toList.map Char.toNat=_;rw[fA,bq,Nat.toList_repr];rfl
 ·obtain⟨m,rfl⟩:=bH (by lia:0<=c);rw[ai h,ql];rfl
theorem Fq (o:Int):42∉pF o:=λh=>by
 unfold pF at h;split at h
 ·rcases aq.mp h with h|h
  ·exact absurd h (by decide)
  ·exact(mW _ _ h).2.1 rfl
 ·cases h
theorem Dw (q:PV):42∉(iy q).cps.toList:=λh=>by
 have h:42∈40::(mC (f9 (zY q))).cps.toList++41::pF (GC q):=h;rcases aV.mp h with h|h
 ·rcases aq.mp h with h|h
  ·exact absurd h (by decide)
  ·exact(xj _ _ h).2.1 rfl
 ·rcases aq.mp h with h|h
  ·exact absurd h (by decide)
  ·exact Fq _ h
theorem wU (c:Int)(l:List PV):PySem.Txt.split (jy c l) " * "=gm c::l.map iy:=by
 refine uP (λz=>nomatch z) (λp hp=>?_) (Ds c l);rcases aq.mp hp with rfl|hp
 ·rw[mU];intro h;rcases aV.mp h with h|h
  ·split at h
   ·exact absurd (aN.mp h) (by decide)
   ·cases h
  ·exact(mW _ _ h).2.1 rfl
 ·obtain⟨q,_,rfl⟩:=bw.mp hp;exact Dw q
theorem sX {x:Str}{c:Nat}{r:List Nat}(h:x.cps.toList=c::r):PySem.StrLaws.sliceText x (some 1) none=qF r:=by rw[PySem.StrLaws.sliceText_from ⟨by decide,by rw[h];simp only[aR];lia⟩];refine jf ?_;show(x.cps.toList.drop 1).take ((x.cps.toList.length:Int)-1).toNat=r;rw[h];refine cu ?_;simp only[aR,fO,dy];lia
theorem Iu (q:PV):PySem.Txt.partition (iy q) ")"=(qF (40::(mC (f9 (zY q))).cps.toList),(")":Str),qF (pF (GC q))):=by
 have z:(")":Str)=⟨#[41]⟩:=by decide +kernel
 rw[z];exact EY (a:=40::(mC (f9 (zY q))).cps.toList) (b:=pF (GC q)) rfl (λh=>by
  rcases aq.mp h with h|h
  ·exact absurd h (by decide)
  ·exact(xj _ _ h).1 rfl)
theorem pQ {x:Str}:PySem.Txt.startswith x "-"=true ↔ ∃r,x.cps.toList=45::r:=by
 rw[show("-":Str)=⟨#[45]⟩ from by decide +kernel];unfold PySem.Txt.startswith;rw[bA,bR];constructor
 ·rintro⟨h1,h2⟩;have h3:x.cps.toList[0]?=some 45:=(cj x 45 0).mp ⟨h1,h2⟩;cases e:x.cps.toList with
  |nil=>rw[e]at h3;cases h3
  |cons a r=>rw[e]at h3;injection h3 with h3;have h3:a=45:=h3;exact⟨r,by rw[h3]⟩
 ·rintro⟨r,e⟩;have h3:x.cps.toList[0]?=some 45:=by rw[e];rfl
  exact(cj x 45 0).mpr h3
def sl1 (t:Str):Str:=PySem.StrLaws.sliceText t (some 1) none
theorem KD (t:Str):(sl1 t).cps.toList=t.cps.toList.tail:=by
 cases e:t.cps.toList with
 |nil=>have:t="":=jf (e.trans (by decide +kernel));subst this;decide +kernel
 |cons c r=>unfold sl1;rw[sX e];rfl
theorem tQ (t:Str):(sl1 t).length<=t.length:=by rw[ir,ir,KD,List.length_tail];lia
theorem sub_len (x:Str)(a b:Nat):(Builtin.Str.strSub x a b).length<=x.length:=by rw[ir,PySem.StrLaws.strSub_toList,dB,df,ir];lia
theorem Bc (x y:Str):(PySem.Txt.partition x y).1.length<=x.length/\(PySem.Txt.partition x y).2.2.length<=x.length:=by
 unfold PySem.Txt.partition;split
 ·exact⟨sub_len _ _ _,sub_len _ _ _⟩
 ·exact⟨aw _,b6 _⟩
theorem yO (x:Str):∀(cuts:List Nat) (a:Nat),∀p∈PySem.StrLaws.partsFrom x 3 a cuts,p.length<=x.length
 |[],a,p,h=>by rw[aN.mp h];exact sub_len _ _ _
 |c::r,a,p,h=>by
  rcases aq.mp h with h|h
  ·rw[h];exact sub_len _ _ _
  ·exact yO x r _ p h
open PySem.StrLaws in
theorem zR (x:Str):∀(cuts:List Nat) (a f:Nat),ChainG x " * " x.length a cuts f->cuts.length<=(x.cps.toList.drop a).count 42
 |[],_,_,_=>b6 _
 |c::r,a,f,h=>by
  obtain⟨ac,hc,hb,hr⟩:=h;have ih:=zR x r _ f hr;have e:=Ei hc;rw[show(" * ":Str).length=3 from by decide +kernel]at ih;have e1:x.cps.toList.drop a=(x.cps.toList.drop a).take (c-a)++((x.cps.toList.drop c).take 3++x.cps.toList.drop (c+3)):=by
   conv=>lhs;rw[<- cV (c-a) (x.cps.toList.drop a),de,show a+(c-a)=c by lia,<- cV 3 (x.cps.toList.drop c),de]
  rw[e1,bS,bS,e,show([32,42,32]:List Nat).count 42=1 from by decide,aR];lia
theorem wL (x:Str):(PySem.Txt.split x " * ").length<=x.cps.toList.count 42+1/\(∀p∈PySem.Txt.split x " * ",p.length<=x.length)/\PySem.Txt.split x " * "≠[]:=by
 have one:([x]:List Str).length<=x.cps.toList.count 42+1/\(∀p∈[x],p.length<=x.length)/\[x]≠[]:=⟨by show 1<=_;lia,λp h=>by rw[aN.mp h];exact aw _,λz=>nomatch z⟩;have pl:∀(cuts:List Nat) (a:Nat),(PySem.StrLaws.partsFrom x 3 a cuts).length=cuts.length+1:=λcuts=>by
  induction cuts with
  |nil=>intro a;rfl
  |cons c r ih=>intro a;show(_::PySem.StrLaws.partsFrom x 3 (c+3) r).length=_;rw[aR,ih];rfl
 unfold PySem.Txt.split;split
 ·exact one
 ·split
  ·exact one
  ·rw[dD];obtain⟨f,hG,_⟩:=eO x " * " (by decide +kernel);have:=zR x _ 0 f hG;rw[dy]at this;rw[show(" * ":Str).length=3 from by decide +kernel];refine⟨by rw[pl];lia,yO x _ 0,λz=>?_⟩;have:=congrArg List.length z;rw[pl]at this;cases this
theorem Nj:∀(l:List Nat),(∀c∈l,isF c=true)->∀a k:Nat,a<10^k->l.foldl (λa c=>10*a+(c-48)) a<10^(k+l.length)
 |[],_,a,k,h=>h
 |c::r,hf,a,k,h=>by
  have hc:=iJ.mp (hf c aj);have:10*a+(c-48)<10^(k+1):=by rw[Nat.pow_succ];lia
  have:=Nj r (λd hd=>hf d (ae _ hd)) _ _ this;rw[aR,show k+(r.length+1)=k+1+r.length by lia];exact this
theorem Q6 {l:List Nat}(hf:∀c∈l,isF c=true):fv l<10^l.length:=by have:=Nj l hf 0 0 (by decide);rw[Nat.zero_add]at this;exact this
def mq (cBP:Addr)(t:Str)(m:Int):Rs:=if decide ((1<=(t.length:Int)/\(t.length:Int)<=m)/\(t.cps.toList.all isF)=true)=true then .val (.int ((intText? t).getD 0)) else .err cBP
theorem oA {t:Str}{m:Int}{k:Nat}(hm:m=(k:Int))(hk:k<=640):mq cBP t m=.err cBP\/∃n:Nat,mq cBP t m=.val (.int n)/\n<10^k/\intText? t=some (n:Int):=by
 unfold mq;split
 ·rename_i h;obtain⟨⟨h1,h2⟩,h3⟩:=bQ h;have h3:=bc.mp h3;have hl:t.cps.toList.length<=k:=by rw[ir]at h2;lia
  have e:=pY h3 (λz=>by rw[ir,z]at h1;exact absurd h1 (by decide)) (by lia);have e:intText? t=some ((fv t.cps.toList:Nat):Int):=e;rw[e];exact .inr ⟨_,rfl,aS (Q6 h3) (fD (by decide) hl),rfl⟩
 ·exact .inl rfl
def lV (cBP:Addr)(t:Str):Rs:=if PySem.Txt.startswith t "-"=true then N8 (mq cBP (sl1 t) 100) else mq cBP t 100
theorem yd (t:Str):lV cBP t=.err cBP\/∃n:Int,lV cBP t=.val (.int n)/\n.natAbs<10^100:=by
 unfold lV;split
 ·rcases oA (cBP:=cBP) (t:=sl1 t) (m:=100) (k:=100) rfl (by decide) with e|⟨n,e,hn,_⟩
  ·rw[e];exact .inl rfl
  ·rw[e];exact .inr ⟨-n,rfl,by rw[Int.natAbs_neg];exact hn⟩
 ·rcases oA (cBP:=cBP) (t:=t) (m:=100) (k:=100) rfl (by decide) with e|⟨n,e,hn,_⟩
  ·rw[e];exact .inl rfl
  ·rw[e];exact .inr ⟨n,rfl,hn⟩
def oM (cBP:Addr)(t:Str):Rs:=if t="" then .val (.int 1) else match mq cBP (sl1 t) 2 with
 | .val (.int o)=>if o > 40 then .err cBP else .val (.int o)
 | .val _=>.val .non
 | .err c=>.err c
theorem K4 (t:Str):oM cBP t=.err cBP\/∃o:Int,oM cBP t=.val (.int o)/\0<=o/\o<=40:=by
 unfold oM;split
 ·exact .inr ⟨1,rfl,by decide,by decide⟩
 ·rcases oA (cBP:=cBP) (t:=sl1 t) (m:=2) (k:=2) rfl (by decide) with e|⟨n,e,hn,_⟩
  ·rw[e];exact .inl rfl
  ·rw[e];show(if (n:Int) > 40 then Rs.err cBP else .val (.int (n:Int)))=_\/∃o:Int,(if (n:Int) > 40 then Rs.err cBP else .val (.int (n:Int)))=_/\_;split
   ·exact .inl rfl
   ·exact .inr ⟨n,rfl,by lia,by lia⟩
theorem Ro {tm:lJ}(h:m5 tm):(zN tm.1).natAbs<=10^100:=by
 unfold zN;split
 ·show 1<=_;decide +kernel
 ·exact b0 (aS (Q6 h.jV) (fD (by decide) h.few))
theorem M4:∀(ts:List (Bool×lJ)) (row:Li) (B:Nat),(∀t∈ts,m5 t.2)->(∀m∈row,m.natAbs<=B*10^100)->∀m∈ts.foldl (λrow u=>su row (if u.1 then -1 else 1) u.2) row,m.natAbs<=(B+ts.length)*10^100
 |[],row,B,_,h,m,hm=>h m hm
 |t::r,row,B,hg,h,m,hm=>by
  have key:=M4 r (su row (if t.1 then -1 else 1) t.2) (B+1) (λu hu=>hg u (ae _ hu)) (λn hn=>?_) m hm
  ·rw[aR,show B+(r.length+1)=B+1+r.length by lia];exact key
  ·have gt:=Ro (hg t aj);unfold su at hn;rcases List.mem_or_eq_of_mem_set hn with z|z
   ·exact aA (h n z) (fE _ (bJ _))
   ·have h0:(row.getD (Jg t.2.2).toNat 0).natAbs<=B*10^100:=by
     by_cases c:(Jg t.2.2).toNat<row.length
     ·exact h _ (FM.getD_mem c)
     ·rw[jB (by lia)];exact b6 _
    rw[z,Nat.add_mul,fT];have h1:((if t.1=true then -1 else 1)*zN t.2.1).natAbs<=10^100:=by
     rw[Int.natAbs_mul];have e1:(if t.1=true then(-1:Int) else 1).natAbs=1:=by split<;>rfl
     rw[e1,fT];exact gt
    exact aA (Int.natAbs_add_le _ _) (Nat.add_le_add h0 h1)
theorem zp:∀l:List Nat,(vN l).length<=l.length+1
 |[]=>aw _
 |c::r=>by have ih:=zp r;unfold vN;split<;>simp only[aR,List.length_tail]<;>lia
theorem HX {t:Str}(h:t.length<=10000):(∃z,m8 t=.inl z)\/∃ns,m8 t=.inr ns/\ns.length<=41/\∀m∈ns,m.natAbs<10^110:=by
 unfold m8;cases e:xT t.cps.toList with
 |error m=>exact .inl ⟨_,rfl⟩
 |ok ts=>
  refine .inr ⟨_,rfl,?_,λm hm=>?_⟩
  ·refine aA (lQ _) ?_;rw[ag,nZ];exact aw _
  ·obtain⟨hp,hg⟩:=LR e;have hl:ts.length<=20001:=by
    have h1:=zp (Af (Ay t.cps.toList));have h2:=zm (Ay t.cps.toList);have h3:(Ay t.cps.toList).length<=t.cps.toList.length:=List.length_filter_le _ _;rw[ir]at h;have h4:(vH t.cps.toList).length<=20001:=by show(vN (Af (Ay t.cps.toList))).length<=_;lia
    rcases hp with hp|hp
    ·rw[hp,ag]at h4;exact h4
    ·rw[hp,aR,ag]at h4;lia
   have e1:(rowOf ts).map (pl 0)=rowOf ts:=(cr λn _=>rfl).trans (eL _);have hb:=M4 ts (List.replicate 41 0) 0 hg (λm hm=>by rw[(cN.mp hm).2];exact b6 _);have hm:m∈f9 ((rowOf ts).map (pl 0)):=hm;rw[e1]at hm;have hz:m=0\/m∈rowOf ts:=by
    obtain⟨i,hi,rfl⟩:=dF.mp hm;have e:=km _ (rowOf ts) rfl i;rw[gQ,ap hi]at e;have e:(f9 (rowOf ts))[i]=(rowOf ts).getD i 0:=e;rw[e];by_cases c:i<(rowOf ts).length
    ·exact .inr (FM.getD_mem c)
    ·rw[jB (by lia)];exact .inl rfl
   rcases hz with z|z
   ·rw[z];decide +kernel
   ·refine dm (hb m z) (dm (fE _ (show 0+ts.length<=20001 by lia)) ?_);decide +kernel
def vR (cBP:Addr)(t:Str):Rs:=match m8 t with
 | .inl _=>.err cBP
 | .inr ns=>.val (.ints ns)
def iW (cBP:Addr)(t:Str):Rs:=Ii (vR cBP (sl1 (PySem.Txt.partition t ")").1)) (oM cBP (PySem.Txt.partition t ")").2.2)
theorem yp {t:Str}(h:t.length<=10000):iW cBP t=.err cBP\/∃q,iW cBP t=.val q/\Gd q:=by
 unfold iW vR;have pl:=Bc t ")";have l1:=tQ (PySem.Txt.partition t ")").1;rcases HX (t:=sl1 (PySem.Txt.partition t ")").1) (by lia) with⟨z,e⟩|⟨ns,e,h1,h2⟩
 ·rw[e];exact .inl rfl
 ·rw[e];rcases K4 (cBP:=cBP) (PySem.Txt.partition t ")").2.2 with e|⟨o,e,o1,o2⟩
  ·rw[e];exact .inl rfl
  ·rw[e];have e10:((10^110:Nat):Int)=(10:Int)^110:=by decide +kernel
   exact .inr ⟨_,rfl,ns,o,rfl,by lia,λm hm=>by rw[<- e10];exact dj.mpr (h2 m hm),o1,by lia⟩
def okR:Rs->Bool
 | .val _=>true
 | .err _=>false
def jU (cBP:Addr)(t:Str):Rs:=match lV cBP ((PySem.Txt.split t " * ").headD "") with
 | .val (.int c)=>if ((PySem.Txt.split t " * ").tail.all λq=>okR (iW cBP q))=true then(if 24<(PySem.Txt.split t " * ").tail.length\/¬jy c ((PySem.Txt.split t " * ").tail.map λq=>(iW cBP q).get)=t then .err cBP else .val (.tup [.int c,.lst ((PySem.Txt.split t " * ").tail.map λq=>(iW cBP q).get)])) else .err cBP
 |_=>.err cBP
theorem tL {t:Str}(h:t.length<=10000):jU cBP t=.err cBP\/∃c l,jU cBP t=.val (.tup [.int c,.lst l])/\jy c l=t/\l.length<=24/\c.natAbs<10^100/\(∀q∈l,Gd q)/\(∀u∈(PySem.Txt.split t " * ").tail,∃q∈l,iW cBP u=.val q)/\lV cBP ((PySem.Txt.split t " * ").headD "")=.val (.int c)/\l=(PySem.Txt.split t " * ").tail.map λq=>(iW cBP q).get:=by
 unfold jU;rcases yd (cBP:=cBP) ((PySem.Txt.split t " * ").headD "") with e|⟨c,e,hc⟩
 ·rw[e];exact .inl rfl
 ·rw[e];dsimp only;split
  ·rename_i ha;have ha:=bc.mp ha;split
   ·exact .inl rfl
   ·rename_i hn;have hs:=(wL t).2.1;have each:∀u∈(PySem.Txt.split t " * ").tail,∃q,iW cBP u=.val q/\Gd q:=λu hu=>by
     rcases yp (cBP:=cBP) (t:=u) (aA (hs u (List.mem_of_mem_tail hu)) h) with z|z
     ·have:=ha u hu;rw[z]at this;cases this
     ·exact z
    refine .inr ⟨c,_,rfl,Decidable.not_not.mp λz=>hn (.inr z),?_,hc,λq hq=>?_,λu hu=>?_,rfl,rfl⟩
    ·rw[ag];exact Nat.le_of_not_lt λz=>hn (.inl z)
    ·obtain⟨u,hu,rfl⟩:=bw.mp hq;obtain⟨q,e,g⟩:=each u hu;rw[e];exact g
    ·obtain⟨q,e,g⟩:=each u hu;exact⟨q,bw.mpr ⟨u,hu,by rw[e];rfl⟩,e⟩
  ·exact .inl rfl
theorem vI (T:Top K mg cFE cBP cBT cBA cBL cNO cHP cNW cNP cNN cK cW cRd):Ok P w K mg base 1 "is_figures" ["text","most"] (Lg K (qG cW) (λas=>∃t m,as=[.str t,.int m]/\t.length<=10000/\m<=640) λas=>match as with
  |[.str t,.int m]=>decide ((1<=(t.length:Int)/\(t.length:Int)<=m)/\(t.cps.toList.all isF)=true)
  |_=>false):=by
 refine Bl T.xJ vL (λas ⟨a,b,h,_⟩=>by rw[h];rfl) (λf cdv A outer s H E hr=>⟨_,(fX (gr (Bv (By fU (tM T.kZ (xs 0)) (xn 1)) (pe_one (Ot rfl T.Rz (lW (O1 (N':=["sign"]) (cap:=[]) (yX rfl rfl rfl rfl tJ tJ rfl) rfl (xs 0) (λ_ _ _=>(pg_name (i:=0) (show(["sign"]:List Str).Nodup by decide +kernel) rfl (Or.inl rfl) (.inr rfl))) (λ_ _ _=>(OJ (xs 0) (Mq (by rfl) T.jO)))))))))),λas hp=>?_⟩);obtain⟨t,m,rfl,ht,hm⟩:=hp;have tl:t.length<=sizeLine:=by rw[aB];lia
 refine⟨⟨⟨tJ,⟨rfl,tl⟩,rfl⟩,λh=>⟨⟨rfl,?_,λc hc=>⟨rfl,tJ,rfl⟩⟩,λq hq=>?_⟩⟩,?_⟩
 ·have h:1<=(t.length:Int)/\(t.length:Int)<=m:=h;show t.length<=1000;lia
 ·obtain⟨c,_,rfl⟩:=bw.mp hq;exact⟨_,rfl⟩
 ·show PV.bl (decide ((1<=(t.length:Int)/\(t.length:Int)<=m)/\(((t.cps.toList.map λc=>PV.bl (decide (hdS ⟨#[c]⟩∈("0123456789":Str).cps.toList))).map Kc).all id)=true))=PV.bl _;have e:((t.cps.toList.map λc=>PV.bl (decide (hdS ⟨#[c]⟩∈("0123456789":Str).cps.toList))).map Kc).all id=t.cps.toList.all isF:=by
   rw[cy,List.all_map];congr 1;funext c;show decide (hdS ⟨#[c]⟩∈("0123456789":Str).cps.toList)=isF c;rw[show hdS ⟨#[c]⟩=c from rfl];cases h:isF c with
   |true=>exact aW (qO.mpr h)
   |false=>exact aQ λz=>by rw[qO.mp z]at h;cases h
  rw[e]
theorem kY (T:Top K mg cFE cBP cBT cBA cBL cNO cHP cNW cNP cNN cK cW cRd):Ef P w K mg base 2 "number_read" ["text","most_figures"] (xW K (qG cW) (λas=>∃t m,as=[.str t,.int m]/\t.length<=10000/\m<=640) λas=>match as with
  |[.str t,.int m]=>mq cBP t m
  |_=>.val .non):=by
 refine Gf T.vQ vy (λas ⟨a,b,h,_⟩=>by rw[h];rfl) (λf cdv A outer s H E hr=>⟨_,(fV (gJ (xH (rC (Sg (vI T) hr (fW (xs 0) (fW (xn 1) gf)))))
 (fX (rm Ph rfl T.kj (by rfl) T.jd (fW gF gf)))
 gC)
 (fX (gr (Mm T.uU qM (xs 0))))),λas hp=>?_⟩)
 obtain⟨t,m,rfl,ht,hm⟩:=hp;refine⟨⟨⟨rfl,rfl,tJ⟩,t,m,rfl,ht,hm⟩,λq=>?_,λq=>?_⟩
 ·have q:¬decide ((1<=(t.length:Int)/\(t.length:Int)<=m)/\(t.cps.toList.all isF)=true)=true:=q;exact⟨⟨tJ,tJ⟩,ai q⟩
 ·have q:¬¬decide ((1<=(t.length:Int)/\(t.length:Int)<=m)/\(t.cps.toList.all isF)=true)=true:=q;have q:=Decidable.not_not.mp q;obtain⟨⟨h1,h2⟩,h3⟩:=bQ q;have h3:=bc.mp h3;have e:=pY h3 (λz=>by rw[ir,z]at h1;exact absurd h1 (by decide)) (by rw[ir]at h2;lia);have e:intText? t=some ((fv t.cps.toList:Nat):Int):=e;exact⟨⟨rfl,by show(intText? t).isSome=true;rw[e];rfl,by show t.length<=640;lia⟩,ak q⟩
theorem sV (T:Top K mg cFE cBP cBT cBA cBL cNO cHP cNW cNP cNN cK cW cRd):Ef P w K mg base 3 "content_read" ["text"] (xW K (qG cW) (λas=>∃t,as=[.str t]/\t.length<=10000) λas=>match as with
  |[.str t]=>lV cBP t
  |_=>.val .non):=by
 refine Gf T.vm sr (λas ⟨a,h,_⟩=>by rw[h];rfl) (λf cdv A outer s H E hr=>⟨_,(fV (gJ (rC (Et (xs 0)))
 (fX (t6 (N5 (lz (kY T) hr (fW (p8 (xs 0) fU) (fW (pZ (by rfl) T.jH) gf)))) jF))
 gC)
 (fX (t6 (lz (kY T) hr (fW (xs 0) (fW (pZ (by rfl) T.jH) gf))) jF))),λas hp=>?_⟩)
 obtain⟨t,rfl,ht⟩:=hp;have tl:t.length<=sizeLine:=by rw[aB];lia
 have l1:=tQ t;refine⟨rfl,λq=>?_,λq=>?_⟩
 ·have q:PySem.Txt.startswith t "-"=true:=q;have e:lV cBP t=N8 (mq cBP (sl1 t) 100):=ak q;refine⟨⟨⟨⟨⟨rfl,tJ,tl⟩,tJ,tJ⟩,sl1 t,100,rfl,by lia,by decide⟩,?_⟩,λp hp=>e.trans hp,λc hc=>e.trans hc⟩;show QD (mq cBP (sl1 t) 100);rcases oA (cBP:=cBP) (t:=sl1 t) (m:=100) (k:=100) rfl (by decide) with e|⟨n,e,_⟩<;>rw[e]<;>exact tJ
 ·have q:¬PySem.Txt.startswith t "-"=true:=q;have e:lV cBP t=mq cBP t 100:=ai q;exact⟨⟨⟨rfl,tJ,tJ⟩,t,100,rfl,ht,by decide⟩,λp hp=>e.trans hp,λc hc=>e.trans hc⟩
theorem vX (T:Top K mg cFE cBP cBT cBA cBL cNO cHP cNW cNP cNN cK cW cRd):Ef P w K mg base 3 "often_read" ["text"] (xW K (qG cW) (λas=>∃t,as=[.str t]/\t.length<=10000) λas=>match as with
  |[.str t]=>oM cBP t
  |_=>.val .non):=by
 refine Gf T.yz o8 (λas ⟨a,h,_⟩=>by rw[h];rfl) (λf cdv A outer s H E hr=>⟨_,(fV (gJ (xV (xs 0) gF)
 (fX (gr fU))
 gC)
 (fV (Ah (i:=1) (lz (kY T) hr (fW (p8 (xs 0) fU) (fW (tM T.kZ (mJ T.qw (pZ (by rfl) T.qD))) gf))) jF o8.nd rfl (Or.inl rfl))
 (fV (gJ (uR (xn 1) (pZ (by rfl) T.qD))
 (fX (rm Ph rfl T.kj (by rfl) T.jd (fW gF gf)))
 gC)
 (fX (gr (xn 1)))))),λas hp=>?_⟩)
 obtain⟨t,rfl,ht⟩:=hp;have tl:t.length<=sizeLine:=by rw[aB];lia
 have l1:=tQ t;have n40:(toString (40:Int):Str).length=2:=by decide +kernel
 refine⟨⟨rfl,tJ⟩,λq=>?_,λq=>?_⟩
 ·have q:t="":=q;exact⟨tJ,ak q⟩
 ·have q:¬t="":=q;refine⟨⟨⟨⟨rfl,tJ,tl⟩,⟨⟨tJ,by decide⟩,by show(toString (40:Int):Str).length<=sizeLine;rw[n40,aB];lia⟩,tJ⟩,sl1 t,((toString (40:Int):Str).length:Int),rfl,by lia,by rw[n40];decide⟩,λp hp=>?_,λc hc=>?_⟩
  ·have hp:mq cBP (sl1 t) ((toString (40:Int):Str).length:Int)=.val p:=hp;rw[n40]at hp;have hp:mq cBP (sl1 t) 2=.val p:=hp;rcases oA (cBP:=cBP) (t:=sl1 t) (m:=2) (k:=2) rfl (by decide) with e|⟨n,e,hn,_⟩
   ·rw[e]at hp;cases hp
   rw[e]at hp;cases hp;have eo:oM cBP t=if (n:Int) > 40 then .err cBP else .val (.int n):=by unfold oM;rw[ai q,e]
   refine gD (ρ':=[.fr (.str t),.fr (.int n)]) rfl ?_;refine⟨⟨rfl,tJ⟩,λz=>?_,λz=>?_⟩
   ·have z:(n:Int) > 40:=z;exact⟨⟨tJ,tJ⟩,eo.trans (ak z)⟩
   ·have z:¬(n:Int) > 40:=z;exact⟨rfl,eo.trans (ai z)⟩
  ·have hc:mq cBP (sl1 t) ((toString (40:Int):Str).length:Int)=.err c:=hc;rw[n40]at hc;have hc:mq cBP (sl1 t) 2=.err c:=hc;show oM cBP t=.err c;unfold oM;rw[ai q,hc]
theorem pD (T:Top K mg cFE cBP cBT cBA cBL cNO cHP cNW cNP cNN cK cW cRd):Ef P w K mg base 8 "polynomial_read" ["text"] (xW K (qG cW) (λas=>∃t,as=[.str t]/\t.length<=10000) λas=>match as with
  |[.str t]=>vR cBP t
  |_=>.val .non):=by
 refine Gf T.pX pA (λas ⟨a,h,_⟩=>by rw[h];rfl) (λf cdv A outer s H E hr=>⟨_,(fX (I8 Q4 T.kj (by rfl) T.jd (Lw T) hr (by rfl) rfl rfl rfl rfl (by rfl) T.ou T.Ti (λ_ _=>(xs 0)))),λas hp=>?_⟩);obtain⟨t,rfl,ht⟩:=hp;refine⟨rfl,ht,λns e=>?_,λz e=>?_⟩
 ·have e:m8 t=.inr ns:=e;show vR cBP t=_;unfold vR;rw[e]
 ·have e:m8 t=.inl z:=e;show vR cBP t=_;unfold vR;rw[e]
theorem ym (T:Top K mg cFE cBP cBT cBA cBL cNO cHP cNW cNP cNN cK cW cRd):Ef P w K mg base 9 "pair_read" ["text"] (xW K (qG cW) (λas=>∃t,as=[.str t]/\t.length<=10000) λas=>match as with
  |[.str t]=>iW cBP t
  |_=>.val .non):=by
 refine Gf T.Al pU (λas ⟨a,h,_⟩=>by rw[h];rfl) (λf cdv A outer s H E hr=>⟨_,(fV (jE (i:=1) pU.nd rfl (Or.inl rfl) (LK (xs 0) (by decide +kernel)))
 (fX (t6 (JW (lz (pD T) hr (fW (p8 (jN (iV (xv 1) fU (λ_ _=>rfl))) fU) gf)) (lz (vX T) hr (fW (jN (iV (xv 1) fU (λ_ _=>rfl))) gf))) jF))),λas hp=>?_⟩)
 obtain⟨t,rfl,ht⟩:=hp;have tl:t.length<=sizeLine:=by rw[aB];lia
 have pl:=Bc t ")";have l1:=tQ (PySem.Txt.partition t ")").1;refine⟨⟨rfl,tl⟩,λp ep=>?_⟩;have ep:p=.tup [.str (PySem.Txt.partition t ")").1,.str (PySem.Txt.partition t ")").2.1,.str (PySem.Txt.partition t ")").2.2]:=ep;subst ep;have hF:iW cBP t=Ii (vR cBP (sl1 (PySem.Txt.partition t ")").1)) (oM cBP (PySem.Txt.partition t ")").2.2):=rfl;generalize PySem.Txt.partition t ")"=pt at pl l1 hF ⊢;refine gD (ρ':=[.fr (.str t),.fr (.tup [.str pt.1,.str pt.2.1,.str pt.2.2])]) rfl ?_;refine⟨⟨⟨⟨⟨⟨⟨rfl,tJ,?_⟩,rfl⟩,tJ,?_⟩,tJ⟩,sl1 pt.1,rfl,by lia⟩,⟨⟨⟨rfl,tJ,?_⟩,rfl⟩,tJ⟩,pt.2.2,rfl,by lia⟩,λp hp=>hF.trans hp,λc hc=>hF.trans hc⟩
 ·show -((3:Nat):Int)<=0/\(0:Int)<((3:Nat):Int);decide
 ·show pt.1.length<=sizeLine;rw[aB];lia
 ·show -((3:Nat):Int)<=2/\(2:Int)<((3:Nat):Int);decide
theorem Hm (x:PV)(r:List PV):lM (x::r) (some 1) none=r:=by
 unfold lM;have e1:HT.sIx (x::r).length 0 (some 1)=1:=by
  show HT.sIx (r.length+1) 0 (some ((1:Nat):Int))=1;unfold HT.sIx;simp
  try lia
 have e2:HT.sIx (x::r).length (x::r).length none=r.length+1:=rfl;rw[e1,e2,fO,dy];exact cu (by lia)
theorem rZ (T:Top K mg cFE cBP cBT cBA cBL cNO cHP cNW cNP cNN cK cW cRd):Ef P w K mg base 10 "product_read" ["text"] (xW K (qG cW) (λas=>∃t,as=[.str t]/\t.length<=10000/\t.cps.toList.count 42<=500) λas=>match as with
  |[.str t]=>jU cBP t
  |_=>.val .non):=by
 refine Gf T.uq jm (λas ⟨a,h,_⟩=>by rw[h];rfl) (λf cdv A outer s H E hr=>⟨_,(fV (jE (i:=1) jm.nd rfl (Or.inl rfl) (Em (xs 0) (by decide +kernel)))
 (fV (Ah (i:=2) (lz (sV T) hr (fW (jN (iV (xv 1) fU (λ_ _=>rfl))) gf)) jF jm.nd rfl (Or.inl rfl))
 (fV (G3 S5 (i:=3) jm.nd rfl rfl (N':=["piece"]) (cap:=[]) (yX rfl rfl rfl rfl tJ tJ rfl) rfl (lW (qt (my (xv 1)) (tH fU) tU)) (λ_ _ _ _=>(pg_name (i:=0) (show(["piece"]:List Str).Nodup by decide +kernel) rfl (Or.inl rfl) (.inr rfl))) (λ_ _ _ _=>(lz (ym T) hr (fW (xs 0) gf))) rfl)
 (fV (gJ (L2.PW.pt (tZ (uR (yw T.kZ (xv 3)) (pZ (by rfl) T.yC)) (vq (Ou (jN (xc (rD T) hr (fW (xn 2) (fW (xv 3) gf)))) (xs 0)))))
 (fX (rm Ph rfl T.kj (by rfl) T.jd (fW gF gf)))
 gC)
 (fX (gr (xG (fW (xn 2) (fW (xv 3) gf))))))))),λas hp=>?_⟩)
 obtain⟨t,rfl,ht,h42⟩:=hp;obtain⟨s1,s2,s3⟩:=wL t;have hF:jU cBP t=match lV cBP ((PySem.Txt.split t " * ").headD "") with
  | .val (.int c)=>if ((PySem.Txt.split t " * ").tail.all λq=>okR (iW cBP q))=true then(if 24<(PySem.Txt.split t " * ").tail.length\/¬jy c ((PySem.Txt.split t " * ").tail.map λq=>(iW cBP q).get)=t then .err cBP else .val (.tup [.int c,.lst ((PySem.Txt.split t " * ").tail.map λq=>(iW cBP q).get)])) else .err cBP
  |_=>.err cBP:=rfl
 refine⟨⟨rfl,by show t.length<sizeLine;rw[aB];lia,by show(PySem.Txt.split t " * ").length<=sizeLine;rw[aB];lia⟩,λps eps=>?_⟩;replace eps:ps=.lst ((PySem.Txt.split t " * ").map PV.str):=eps;subst eps;generalize PySem.Txt.split t " * "=sp at s1 s2 s3 hF ⊢;obtain⟨hd,tl,rfl⟩:∃hd tl,sp=hd::tl:=by
  cases sp with
  |nil=>exact absurd rfl s3
  |cons a b=>exact⟨a,b,rfl⟩
 have hF:jU cBP t=match lV cBP hd with
  | .val (.int c)=>if (tl.all λq=>okR (iW cBP q))=true then(if 24<tl.length\/¬jy c (tl.map λq=>(iW cBP q).get)=t then .err cBP else .val (.tup [.int c,.lst (tl.map λq=>(iW cBP q).get)])) else .err cBP
  |_=>.err cBP:=hF
 have hd1:=s2 hd aj;have tl1:∀u∈tl,u.length<=10000:=λu hu=>aA (s2 u (ae _ hu)) ht;have tln:tl.length<=500:=by rw[aR]at s1;lia
 refine gD (ρ':=[.fr (.str t),.fr (.lst (.str hd::tl.map PV.str)),.un,.un]) rfl ?_;refine⟨⟨⟨⟨⟨rfl,tJ,?_⟩,rfl⟩,tJ⟩,hd,rfl,by lia⟩,λp hp=>?_,λc hc=>?_⟩
 ·refine⟨?_,?_⟩
  ·show -((PV.str hd::tl.map PV.str).length:Int)<=0;lia
  ·show(0:Int)<((PV.str hd::tl.map PV.str).length:Int);rw[aR];lia
 rotate_left
 ·have hc:lV cBP hd=.err c:=hc;show jU cBP t=.err c;rcases yd (cBP:=cBP) hd with e|⟨n,e,_⟩
  ·rw[e]at hc;cases hc;rw[hF,e]
  ·rw[e]at hc;cases hc
 have hp:lV cBP hd=.val p:=hp;obtain⟨c,e,cb⟩:∃n:Int,lV cBP hd=.val (.int n)/\n.natAbs<10^100:=by
  rcases yd (cBP:=cBP) hd with e|z
  ·rw[e]at hp;cases hp
  ·exact z
 rw[e]at hp hF;cases hp;have hF:jU cBP t=if (tl.all λq=>okR (iW cBP q))=true then(if 24<tl.length\/¬jy c (tl.map λq=>(iW cBP q).get)=t then .err cBP else .val (.tup [.int c,.lst (tl.map λq=>(iW cBP q).get)])) else .err cBP:=hF;have cI:(c.natAbs:Int)<10^110:=by
  have e10:((10^100:Nat):Int)<=(10:Int)^110:=by decide +kernel
  exact cM (dj.mpr cb) e10
 have ecut:lM (.str hd::tl.map PV.str) (some 1) none=tl.map PV.str:=Hm _ _;refine gD (ρ':=[.fr (.str t),.fr (.lst (.str hd::tl.map PV.str)),.fr (.int c),.un]) rfl ?_;refine⟨⟨⟨⟨rfl,rfl⟩,tJ,tJ⟩,?_,λq hq=>?_⟩,λhall ns ens=>?_,λq hq d hqd=>?_⟩
 ·show(lM (.str hd::tl.map PV.str) (some 1) none).length<=1000;rw[ecut,ag];lia
 ·have hq:q∈lM (.str hd::tl.map PV.str) (some 1) none:=hq;rw[ecut]at hq;obtain⟨u,hu,rfl⟩:=bw.mp hq;exact⟨⟨rfl,tJ⟩,u,rfl,tl1 u hu⟩
 rotate_left
 ·have hq:q∈lM (.str hd::tl.map PV.str) (some 1) none:=hq;rw[ecut]at hq;obtain⟨u,hu,rfl⟩:=bw.mp hq;have hqd:iW cBP u=.err d:=hqd;show jU cBP t=.err d;rcases yp (cBP:=cBP) (tl1 u hu) with e|⟨q,e,_⟩
  ·rw[e]at hqd;cases hqd;rw[hF,ai];intro z;have:=bc.mp z u hu;rw[e]at this;cases this
  ·rw[e]at hqd;cases hqd
 have each:∀u∈tl,∃q,iW cBP u=.val q/\Gd q:=λu hu=>by
  rcases yp (cBP:=cBP) (tl1 u hu) with e|z
  ·have:=hall (.str u) (by show PV.str u∈lM (.str hd::tl.map PV.str) (some 1) none;rw[ecut];exact bw.mpr ⟨u,hu,rfl⟩);have:(iW cBP u).S7:=this;rw[e]at this;exact this.elim
  ·exact z
 clear hall;replace hF:jU cBP t=if 24<tl.length\/¬jy c (tl.map λq=>(iW cBP q).get)=t then .err cBP else .val (.tup [.int c,.lst (tl.map λq=>(iW cBP q).get)]):=by rw[hF,ak];refine bc.mpr λu hu=>?_;obtain⟨q,e,_⟩:=each u hu;rw[e];rfl
 replace ens:ns=tl.map λq=>(iW cBP q).get:=by rw[ens];show(lM (.str hd::tl.map PV.str) (some 1) none).map _=_;rw[ecut,cy];exact cr λu hu=>rfl
 have gd:∀q∈ns,Gd q:=λq hq=>by rw[ens]at hq;obtain⟨u,hu,rfl⟩:=bw.mp hq;obtain⟨q,e,g⟩:=each u hu;rw[e];exact g
 rw[<- ens]at hF;have nl:ns.length=tl.length:=by rw[ens,ag]
 rw[<- nl]at hF;clear ens;refine gD (ρ':=[.fr (.str t),.fr (.lst (.str hd::tl.map PV.str)),.fr (.int c),.fr (.lst ns)]) rfl ?_;refine⟨⟨⟨⟨rfl,tJ⟩,tJ⟩,λh=>⟨⟨⟨⟨rfl,rfl,tJ⟩,c,ns,rfl,cI,?_,gd⟩,rfl⟩,rfl⟩⟩,λq=>?_,λq=>?_⟩
 ·have h:¬(ns.length:Int) > 24:=h;lia
 ·have q:(ns.length:Int) > 24\/¬jy c ns=t:=q;refine⟨⟨tJ,tJ⟩,?_⟩;show jU cBP t=.err cBP;rw[hF,ak (q.imp (λz=>by lia) id)]
 ·have q:¬((ns.length:Int) > 24\/¬jy c ns=t):=q;refine⟨⟨rfl,rfl,tJ⟩,?_⟩;show jU cBP t=.val (.tup [.int c,.lst ns]);rw[hF,ai (λz=>q (z.imp (λz=>by lia) id))]
theorem pI (ps:Ls):(PySem.Txt.join " * " ps).cps.toList=jw iQ (ps.map λp=>p.cps.toList):=by show(Builtin.Str.glued " * " ps).cps.toList=_;rw[PySem.StrLaws.glued_eq_join,Di,ug]
def xU:Str:=lR "1" 101
def uM:List Str:=["()","(x","x)","(x))","((x)","(x)^1","(x)^0","(x)^41","(x)^02","(x)^","(x)^-2","(x)^2 "]
def zB:List Str:=["( x)","(x )","(1x)","(x^1)","(x^0)","(0x)","(-0)","(+x)","(x+1)","(x - -1)","(1 + x)"]
def JH:List Str:=["(x + x)","(x^41)","(x^2 + x^2)","(x + 0)","(01)","(X)","(x)(x)","(x) ","2","(x)^100"]
def Qy:List Str:=["","[x]","(x)^2^2","(x)2","(y)","(x^2 x)",("(":Str)++xU++")"]
def jk:List Str:=uM++zB++JH++Qy
def lA:List Str:=["","-","-0","00","01","+1","--1"," 1","1 ","x","1.0","(1)",("-":Str)++xU,xU]
def Mh (t:Str):Bool:=match iW 0 t with
 | .val q=>!decide (iy q=t)
 | .err _=>true
def Jx (t:Str):Bool:=match lV 0 t with
 | .val (.int c)=>!decide (gm c=t)
 |_=>true
theorem Py:jk.all (λt=>Mh t && !(t.cps.toList.contains 42) && decide (t.length<=200))=true:=by decide +kernel
theorem PP:lA.all (λt=>Jx t && !(t.cps.toList.contains 42) && decide (t.length<=200))=true:=by decide +kernel
theorem CN {cBP:Addr}{t:Str}{m:Int}{p:PV}(h:mq cBP t m=.val p):mq 0 t m=.val p:=by
 unfold mq at h ⊢;split at h
 ·rename_i c;rw[ak c];exact h
 ·cases h
theorem Pr {cBP:Addr}{t:Str}{p:PV}(h:lV cBP t=.val p):lV 0 t=.val p:=by
 unfold lV at h ⊢;split at h
 ·rename_i c;rw[ak c];cases e:mq cBP (sl1 t) 100 with
  |val q=>rw[e]at h;rw[CN e];exact h
  |err d=>rw[e]at h;cases h
 ·rename_i c;rw[ai c];exact CN h
theorem Pb {cBP:Addr}{t:Str}{p:PV}(h:oM cBP t=.val p):oM 0 t=.val p:=by
 unfold oM at h ⊢;split at h
 ·rename_i c;rw[ak c];exact h
 ·rename_i c;rw[ai c];rcases oA (cBP:=cBP) (t:=sl1 t) (m:=2) (k:=2) rfl (by decide) with e|⟨n,e,_⟩
  ·rw[e]at h;cases h
  ·rw[e]at h;rw[CN e];have h:(if (n:Int) > 40 then Rs.err cBP else .val (.int (n:Int)))=.val p:=h;show(if (n:Int) > 40 then Rs.err 0 else .val (.int (n:Int)))=.val p;split at h
   ·cases h
   ·rename_i c;rw[ai c];exact h
theorem PJ {cBP:Addr}{t:Str}{p:PV}(h:iW cBP t=.val p):iW 0 t=.val p:=by
 unfold iW vR at h ⊢;cases e:m8 (sl1 (PySem.Txt.partition t ")").1) with
 |inl z=>rw[e]at h;cases h
 |inr ns=>
  rw[e]at h;cases e2:oM cBP (PySem.Txt.partition t ")").2.2 with
  |val q=>rw[e2]at h;rw[Pb e2];exact h
  |err d=>rw[e2]at h;cases h
theorem zy {α:Type}{f:α->α}:∀{l:List α},l.map f=l->∀x∈l,f x=x
 |[],_,x,h=>nomatch h
 |a::r,e,x,h=>by
  rw[bo]at e;injection e with e1 e2;rcases aq.mp h with rfl|h
  ·exact e1
  ·exact zy e2 x h
theorem zg {cBP:Addr}{ps:Ls}(h0:ps≠[])(h42:∀p∈ps,42∉p.cps.toList)(hl:(PySem.Txt.join " * " ps).length<=10000)(bad:Jx (ps.headD "")=true\/∃u∈ps.tail,Mh u=true):jU cBP (PySem.Txt.join " * " ps)=.err cBP:=by
 have hs:=uP h0 h42 (pI ps);rcases tL (cBP:=cBP) hl with e|⟨c,l,_,h1,_,_,_,h2,h3,h4⟩
 ·exact e
 exfalso;have h5:=wU c l;rw[h1,hs]at h5;rw[hs]at h2 h3 h4;rw[h5]at h3 bad;rcases bad with b|⟨u,hu,b⟩
 ·have h3:lV cBP (gm c)=.val (.int c):=h3;have b:Jx (gm c)=true:=b;unfold Jx at b;rw[Pr h3]at b;have b:(!decide (gm c=gm c))=true:=b;rw[aW rfl]at b;cases b
 ·have hu:u∈ps.tail:=by rw[h5];exact hu
  obtain⟨q,_,e⟩:=h2 u hu;have h6:ps.tail.map (λu=>iy (iW cBP u).get)=ps.tail:=by
   conv=>rhs;rw[h5,List.tail_cons,h4,cy]
   rfl
  have h7:=zy h6 u hu;rw[e]at h7;have h7:iy q=u:=h7;unfold Mh at b;rw[PJ e]at b;have b:(!decide (iy q=u))=true:=b;rw[aW h7]at b;cases b
def Gs (d:Nat):Prop:=isF d=true\/d=41
def Ends (l:List Nat):Prop:=∃l0 d,l=l0++[d]/\Gs d
theorem Ends.app {b:List Nat}(a:List Nat)(h:Ends b):Ends (a++b):=by obtain⟨l0,d,rfl,g⟩:=h;exact⟨a++l0,d,by rw[aY],g⟩
theorem wJ {l:List Nat}(h:∀c∈l,isF c=true)(h0:l≠[]):Ends l:=
 ⟨l.dropLast,l.getLast h0,(ci h0).symm,.inl (h _ (List.getLast_mem h0))⟩
theorem zP:∀(ls:List (List Nat)) (p u v:List Nat),40∉p->Ends p->(∀q∈ls,∃q',q=40::q'/\40∉q'/\Ends q')->p++(ls.map λq=>iQ++q).flatten=u++40::v->∃u' d,u=u'++[d,32,42,32]/\Gs d
 |[],p,u,v,hp,_,_,e=>by rw[dX,List.flatten_nil,aU]at e;exact absurd (by rw[e];exact aH _ aj) hp
 |q::r,p,u,v,hp,he,hq,e=>by
  obtain⟨q',rfl,h1,h2⟩:=hq q aj;have here:u=p++iQ->∃u' d,u=u'++[d,32,42,32]/\Gs d:=λz=>by obtain⟨l0,d,rfl,g⟩:=he;exact⟨l0,d,by rw[z,aY];rfl,g⟩
  have np:40∉p++iQ:=λz=>by
   rcases aV.mp z with z|z
   ·exact hp z
   ·exact absurd z (by decide)
  rw[bo,bO,<- aY,<- aY,aY (p++iQ),bj]at e;rcases List.append_eq_append_iff.mp e with⟨a',e1,e2⟩|⟨c',e1,e2⟩
  ·cases a' with
   |nil=>exact here (by rw[e1,aU])
   |cons x a''=>injection e2 with e3 e4;subst e3;obtain⟨u'',d,e5,g⟩:=zP r q' a'' v h1 h2 (λq hm=>hq q (ae _ hm)) e4;exact⟨p++iQ++40::u'',d,by rw[e1,e5];simp only[aY,bj],g⟩
  ·cases c' with
   |nil=>exact here (by rw[e1,aU])
   |cons x c''=>injection e2 with e3 e4;subst e3;exact absurd (by rw[e1];exact aH _ aj) np
theorem qZ (c:Int):40∉(gm c).cps.toList/\Ends (gm c).cps.toList:=by
 obtain⟨h1,_,_,h4⟩:=jX c.natAbs;rw[mU];refine⟨λh=>?_,Ends.app _ (wJ h1 h4)⟩;rcases aV.mp h with h|h
 ·split at h
  ·exact absurd (aN.mp h) (by decide)
  ·cases h
 ·exact(mW _ _ h).2.2 rfl
theorem zb (q:PV):∃q',(iy q).cps.toList=40::q'/\40∉q'/\Ends q':=by
 refine⟨(mC (f9 (zY q))).cps.toList++41::pF (GC q),rfl,λh=>?_,Ends.app _ ?_⟩
 ·rcases aV.mp h with h|h
  ·exact(xj _ _ h).2.2 rfl
  ·rcases aq.mp h with h|h
   ·exact absurd h (by decide)
   ·unfold pF at h;split at h
    ·rcases aq.mp h with h|h
     ·exact absurd h (by decide)
     ·exact(mW _ _ h).2.2 rfl
    ·cases h
 ·unfold pF;split
  ·obtain⟨h1,_,_,h4⟩:=jX (GC q).toNat;exact Ends.app [41,94] (wJ h1 h4)
  ·exact⟨[],41,rfl,.inr rfl⟩
theorem zq (c:Int)(l:List PV):(jy c l).cps.toList=(gm c).cps.toList++((l.map λq=>(iy q).cps.toList).map λq=>iQ++q).flatten:=uL l (gm c)
theorem FJ {c:Int}{l:List PV}{u v:List Nat}(h:(jy c l).cps.toList=u++40::v):∃u' d,u=u'++[d,32,42,32]/\Gs d:=by rw[zq]at h;refine zP _ _ u v (qZ c).1 (qZ c).2 (λq hq=>?_) h;obtain⟨q',_,rfl⟩:=bw.mp hq;exact zb q'
theorem wQ:∀(ls:List (List Nat)) (p:List Nat),Ends p->(∀q∈ls,Ends q)->Ends (p++(ls.map λq=>iQ++q).flatten)
 |[],p,h,_=>by rw[dX,List.flatten_nil,aU];exact h
 |q::r,p,h,k=>by rw[bo,bO,<- aY];exact wQ r (p++(iQ++q)) (Ends.app _ (Ends.app _ (k q aj))) λq hq=>k q (ae _ hq)
theorem Jl (c:Int)(l:List PV):Ends (jy c l).cps.toList:=by rw[zq];refine wQ _ _ (qZ c).2 λq hq=>?_;obtain⟨q',_,rfl⟩:=bw.mp hq;obtain⟨r,e,_,h⟩:=zb q';rw[e];exact Ends.app [40] h
def rR:List Str:=["*"," *","* ","  * "," *  "," x "," ",""," ** "," + "]
def Qt (J:List Nat):Prop:=∀(a u':List Nat) (e d:Nat),Gs e->Gs d->(a++[e])++J≠u'++[d,32,42,32]
theorem De {d:Nat}(h:Gs d):d≠32/\d≠42:=by
 rcases h with h|h
 ·have:=iJ.mp h;lia
 ·lia
theorem NQ:∀J∈rR,Qt J.cps.toList:=by
 have key:∀(J:List Nat),(∀(a u':List Nat) (e d:Nat),Gs e->Gs d->J.reverse++e::a≠32::42::32::d::u')->Qt J:=λJ h a u' e d ge gd z=>by have:=congrArg List.reverse z;simp only[dM,List.reverse_cons,List.reverse_nil,bK,bj]at this;exact h _ _ e d ge gd this
 intro J hJ;simp only[rR,aq,dC,or_false]at hJ;rcases hJ with rfl|rfl|rfl|rfl|rfl|rfl|rfl|rfl|rfl|rfl
 ·exact key _ λa u' e d ge gd z=>by rw[show("*":Str).cps.toList.reverse=[42] from by decide +kernel]at z;injection z with z1;exact absurd z1 (by decide)
 ·exact key _ λa u' e d ge gd z=>by rw[show(" *":Str).cps.toList.reverse=[42,32] from by decide +kernel]at z;injection z with z1;exact absurd z1 (by decide)
 ·exact key _ λa u' e d ge gd z=>by rw[show("* ":Str).cps.toList.reverse=[32,42] from by decide +kernel]at z;injection z with _ z;injection z with _ z;injection z with z1;exact(De ge).1 z1
 ·exact key _ λa u' e d ge gd z=>by rw[show("  * ":Str).cps.toList.reverse=[32,42,32,32] from by decide +kernel]at z;injection z with _ z;injection z with _ z;injection z with _ z;injection z with z1;exact(De gd).1 z1.symm
 ·exact key _ λa u' e d ge gd z=>by rw[show(" *  ":Str).cps.toList.reverse=[32,32,42,32] from by decide +kernel]at z;injection z with _ z;injection z with z1;exact absurd z1 (by decide)
 ·exact key _ λa u' e d ge gd z=>by rw[show(" x ":Str).cps.toList.reverse=[32,120,32] from by decide +kernel]at z;injection z with _ z;injection z with z1;exact absurd z1 (by decide)
 ·exact key _ λa u' e d ge gd z=>by rw[show(" ":Str).cps.toList.reverse=[32] from by decide +kernel]at z;injection z with _ z;injection z with z1;exact(De ge).2 z1
 ·exact key _ λa u' e d ge gd z=>by rw[show("":Str).cps.toList.reverse=[] from by decide +kernel]at z;injection z with z1;exact(De ge).1 z1
 ·exact key _ λa u' e d ge gd z=>by rw[show(" ** ":Str).cps.toList.reverse=[32,42,42,32] from by decide +kernel]at z;injection z with _ z;injection z with _ z;injection z with z1;exact absurd z1 (by decide)
 ·exact key _ λa u' e d ge gd z=>by rw[show(" + ":Str).cps.toList.reverse=[32,43,32] from by decide +kernel]at z;injection z with _ z;injection z with z1;exact absurd z1 (by decide)
theorem BK {cBP:Addr}{c:Int}{l:List PV}{J t:Str}{v:List Nat}(hJ:J∈rR)(hl:t.length<=10000)(e:t.cps.toList=(jy c l).cps.toList++J.cps.toList++40::v):jU cBP t=.err cBP:=by
 rcases tL (cBP:=cBP) hl with h|⟨c',l',_,h1,_⟩
 ·exact h
 exfalso;rw[<- h1]at e;obtain⟨u',d,e2,gd⟩:=FJ e;obtain⟨a,x,e3,gx⟩:=Jl c l;rw[e3]at e2;exact NQ J hJ a u' x d gx gd e2
structure Gp (q:PV):Prop where
 ex:∃g o,q=.tup [.ints g,.int o]
 fm:nJ (zY q)
 ln:(zY q).length<=41
 bd:∀m∈zY q,m.natAbs<10^100
 o1:1<=GC q
 o2:GC q<=40
theorem Ek {g:Li}(h:nJ g):f9 g=g:=Ag (kI _) h λn=>km _ _ rfl n
theorem xX {cBP:Addr}{m k:Nat}(hk:0<k)(h:m<10^k)(h2:k<=640):mq cBP (qF (dg m)) (k:Int)=.val (.int m):=by
 obtain⟨h1,h3,_,h4⟩:=jX m;have hl:=JC hk h;have hp:=lP h4;unfold mq;rw[pY h1 h4 (by lia),h3,ak]
 ·rfl
 ·refine aW ⟨⟨?_,?_⟩,bc.mpr h1⟩
  ·rw[ir];show 1<=((dg m).length:Int);lia
  ·rw[ir];show((dg m).length:Int)<=k;lia
theorem Hy {cBP:Addr}{c:Int}(h:c.natAbs<10^100):lV cBP (gm c)=.val (.int c):=by
 have e:=mU c;unfold lV;by_cases y:c<0
 ·rw[ak y]at e;rw[ak (pQ.mpr ⟨_,e⟩),show sl1 (gm c)=qF (dg c.natAbs) from sX e,show(100:Int)=((100:Nat):Int) from rfl,xX (by decide) h (by decide)];show Rs.val (.int (-((c.natAbs:Nat):Int)))=_;rw[show -((c.natAbs:Nat):Int)=c by lia]
 ·rw[ai y,bK]at e;rw[ai,show gm c=qF (dg c.natAbs) from jf e,show(100:Int)=((100:Nat):Int) from rfl,xX (by decide) h (by decide),show((c.natAbs:Nat):Int)=c by lia];intro z;obtain⟨r,er⟩:=pQ.mp z;rw[e]at er;have:=(jX c.natAbs).1 45 (by rw[er];exact aj);exact absurd this (by decide)
theorem Ld {cBP:Addr}{o:Int}(h1:1<=o)(h2:o<=40):oM cBP (qF (pF o))=.val (.int o):=by
 unfold oM pF;by_cases y:o > 1
 ·rw[ak y,ai (λz=>by have:=congrArg (λs:Str=>s.cps.toList) z;exact absurd (this.trans (show("":Str).cps.toList=[] from by decide +kernel)) (λz=>nomatch z)),show sl1 (qF (94::dg o.toNat))=qF (dg o.toNat) from sX rfl,show(2:Int)=((2:Nat):Int) from rfl,xX (by decide) (show o.toNat<10^2 by lia) (by decide)];show(if ((o.toNat:Nat):Int) > 40 then Rs.err cBP else .val (.int ((o.toNat:Nat):Int)))=_;rw[ai (by lia),show((o.toNat:Nat):Int)=o by lia]
 ·rw[ai y,ak (by decide +kernel),show o=1 by lia]
theorem Dc {cBP:Addr}{q:PV}(h:Gp q):iW cBP (iy q)=.val q:=by
 obtain⟨ts,e1,e2⟩:=N7 h.fm h.ln h.bd;unfold iW;rw[Iu,Ek h.fm];dsimp only;rw[Ld h.o1 h.o2,show sl1 (qF (40::(mC (zY q)).cps.toList))=mC (zY q) from sX rfl];have e3:m8 (mC (zY q))=.inr (zY q):=by unfold m8;rw[e1];show Sum.inr (f9 ((rowOf ts).map (pl 0)))=_;rw[show(rowOf ts).map (pl 0)=rowOf ts from(cr λn _=>rfl).trans (eL _),e2]
 unfold vR;rw[e3];obtain⟨g,o,rfl⟩:=h.ex;rfl
theorem CK {cBP:Addr}{c:Int}{l:List PV}(hc:c.natAbs<10^100)(hl:l.length<=24)(hg:∀q∈l,Gp q):jU cBP (jy c l)=.val (.tup [.int c,.lst l]):=by
 have em:(l.map iy).map (λq=>(iW cBP q).get)=l:=by
  rw[cy]
  conv=>rhs;rw[<- eL l]
  exact cr λq hq=>by show(iW cBP (iy q)).get=q;rw[Dc (hg q hq)];rfl
 unfold jU;rw[wU,List.headD_cons,Hy hc,List.tail_cons,em];show(if ((l.map iy).all λq=>okR (iW cBP q))=true then(if 24<(l.map iy).length\/¬jy c l=jy c l then Rs.err cBP else .val (.tup [.int c,.lst l])) else .err cBP)=_;rw[ak,ai]
 ·rw[ag];rintro (z|z)
  ·lia
  ·exact z rfl
 ·refine bc.mpr λu hu=>?_;obtain⟨q,hq,rfl⟩:=bw.mp hu;rw[Dc (hg q hq)];rfl
theorem pq (c:Int)(l:List PV):PySem.Txt.join " * " (gm c::l.map iy)=jy c l:=jf ((pI _).trans (Ds c l).symm)
theorem Aa:∀(ps:List (List Nat)),(∀p∈ps,42∉p)->(jw iQ ps).count 42<=ps.length
 |[],_=>aw _
 |[p],h=>by show p.count 42<=1;rw[List.count_eq_zero.mpr (h p aj)];lia
 |p::q::r,h=>by have ih:=Aa (q::r) λx hx=>h x (ae _ hx);show(p++iQ++jw iQ (q::r)).count 42<=_;rw[bS,bS,List.count_eq_zero.mpr (h p aj),show iQ.count 42=1 from by decide,aR];lia
theorem Ha:∀(ps:List (List Nat)),(jw iQ ps).length<=(ps.map λp=>p.length+3).sum
 |[]=>aw _
 |[p]=>by show p.length<=p.length+3+0;lia
 |p::q::r=>by have ih:=Ha (q::r);show(p++iQ++jw iQ (q::r)).length<=_;rw[ar,ar,bo,List.sum_cons,show iQ.length=3 from rfl];lia
@[irreducible] def PXi (X:Cx) (st:Stmt) (t:TS):Prop:=PS X st t
section
variable {X:Cx}{G:Gx}{Er:ER}{a b e:Expr}{es:List Expr}{st:Stmt}{sts:List Stmt}{C Ca Cb:En->Prop}{g:En->PV}{gp hp:En->List PV}{f1 f2:FS}{pos pos' p p2:Pos}{i j:Nat}{x m:Str}
theorem uY (hN:X.N.Nodup)(hi:X.N[i]?=some x)(hx:Loc X.env.scope x)(he:PEi X e (tX X.K G C g))(hs:swapsWith e (some (.Name x pos')) pos.line X.env=pure false:=by rfl)
  (hf:X.fn x=true\/X.env.scope.names.lookup x=some .local:=by walk_at "w"):PXi X (.Assign [.Name x pos'] e pos) (ts X.K G Er λP ρ=>C ρ/\∀p,p=g ρ->P.nx (ρ.set i (.fr p))):=by
 unfold PXi;exact jE hN hi hx (Jc he) hs hf
theorem Nm (h1:PXi X st (ts X.K G Er f1))(h2:PSs X sts (ts X.K G Er f2)):PSi X (st::sts) (ts X.K G Er λP ρ=>f1 (P.sq (f2 P)) ρ):=by unfold PXi at h1;exact Tv (fV h1 h2)
theorem Oj (h1:PXi X st (ts X.K G Er f1))(h2:PSi X sts (ts X.K G Er f2)):PSi X (st::sts) (ts X.K G Er λP ρ=>f1 (P.sq (f2 P)) ρ):=Nm h1 (Nq h2)
theorem gw:PEi X (.Constant (.str m) j p) (tX X.K G (λ_=>True) λ_=>.str m):=M8 gF
theorem BW (ha:PE X a (tX X.K G Ca λρ=>.lst (gp ρ)))(hb:PEi X b (tX X.K G Cb λρ=>.lst (hp ρ))):PEi X (.BinOp a .Add b pos) (tX X.K G (λρ=>Ca ρ/\Cb ρ/\(gp ρ).length+(hp ρ).length<=sizeLine) λρ=>.lst (gp ρ++hp ρ)):=M8 (lW (pC ha (Jc hb)))
theorem fZ {ev:Env}{c}:starEach (.Constant c j p::es) ev=(false,eval (.Constant c j p) ev)::starEach es ev:=rfl
theorem BP {ev:Env}{o}:starEach (.BinOp a o b pos::es) ev=(false,eval (.BinOp a o b pos) ev)::starEach es ev:=rfl
variable {n:Int}{y z:Str}{j1 j2 j3 j4:Nat}{p1 p3 p4 p5 p6 p7:Pos}
theorem Q7:PEi X (.BinOp (.Constant (.str y) j1 p1) .Mult (.Constant (.int n) j2 p3) p4) (tX X.K G (λ_=>True/\True/\1<n/\n<=1000/\0<y.length/\y.length<=1000/\(lR y n).length<=sizeLine) λ_=>.str (lR y n)):=M8 (CP gF fU)
theorem Ob:PEi X (.BinOp (.Constant (.str x) j3 p) .Add (.BinOp (.Constant (.str y) j1 p1) .Mult (.Constant (.int n) j2 p3) p4) p5) (tX X.K G (λ_=>True/\(True/\True/\1<n/\n<=1000/\0<y.length/\y.length<=1000/\(lR y n).length<=sizeLine)/\x.length+(lR y n).length<=sizeLine) λ_=>.str (x++lR y n)):=M8 (ig gF (CP gF fU))
theorem Oh:PEi X (.BinOp (.BinOp (.Constant (.str x) j3 p) .Add (.BinOp (.Constant (.str y) j1 p1) .Mult (.Constant (.int n) j2 p3) p4) p5) .Add (.Constant (.str z) j4 p6) p7) (tX X.K G (λ_=>(True/\(True/\True/\1<n/\n<=1000/\0<y.length/\y.length<=1000/\(lR y n).length<=sizeLine)/\x.length+(lR y n).length<=sizeLine)/\True/\(x++lR y n).length+z.length<=sizeLine) λ_=>.str (x++lR y n++z)):=M8 (ig (ig gF (CP gF fU)) gF)
end
theorem NT {K:Fg}{G:Gx}{x:Str}{st:Stmt}{N ps:Ls}{k:Nat}{pre:List PV->Prop}{F:List PV->PV}(d:lO K mg x st ps)(S:FnScope N ps (defScope st))(len:∀as,pre as->as.length=ps.length)
  (hbody:∀(f:Addr) (cdv:Value) (A:Around) (outer:List Env) (s:Shared) (H:Hp) (E:XK),Room k (A.deeper (envOfC x (defScope st) s.heap.objs.size f cdv)) ->
   ∃fs,PSi (cxOf CX0 P w K mg base N x (defScope st) f cdv A outer s H E).nox (defBody st) (ts K G Sh fs)/\∀as,pre as->fs { nx:=λ_=>F as=.non,rt:=λp=>p=F as,rl:=λns=>F as=.ints ns } (jt N as)):Ok P w K mg base (k+1) x ps (yK K G pre F):=
 Bl d S len λf cdv A outer s H E hr=>let ⟨fs,h,q⟩:=hbody f cdv A outer s H E hr;⟨fs,Nq h,q⟩
theorem vo {l:Ls}{i:Int}(h0:0<=i)(h1:i<(l.length:Int)):qW (.lst (l.map PV.str)) i=.str (l.getD i.toNat ""):=by
 obtain⟨n,rfl⟩:=bH h0;have hn:n<l.length:=by lia
 show(l.map PV.str).getD (iw (l.map PV.str).length (n:Int)) .non=_;have e:iw (l.map PV.str).length (n:Int)=n:=by unfold iw;rw[ak (by lia)];rfl
 rw[e,gQ,aT,ap hn,show((n:Int)).toNat=n from rfl,gQ,ap hn];rfl
theorem getD_in {l:Ls}{i:Nat}(h:i<l.length):l.getD i ""∈l:=by rw[gQ,ap h];exact cw h
theorem sZ:(lR "1" 101).length=101:=by decide +kernel
theorem Bx:(1:Int)<101/\(101:Int)<=1000/\0<("1":Str).length/\("1":Str).length<=1000/\(lR "1" 101).length<=sizeLine:=⟨by decide,by decide,by decide +kernel,by decide +kernel,by rw[sZ,aB];decide⟩
def Qe:List Str:=["(x)^41","(x^41)","(x)^0","(x)^1",("(":Str)++xU++")"]
def Cp (c:Int):Str:=if c % 2=0 then Qe.getD (c / 2 % 5).toNat "" else jk.getD (c / 2 % 40).toNat ""
theorem lU:jk.length=40:=by decide +kernel
theorem Pq (c:Int):Cp c∈jk:=by
 have h5:∀t∈Qe,t∈jk:=by
  have:Qe.all (λt=>decide (t∈jk))=true:=by decide +kernel
  exact λt ht=>bQ (bc.mp this t ht)
 have k1:=aK (c / 2) (show(5:Int)≠0 by decide);have k2:=aG (c / 2) (show(0:Int)<5 by decide);have k3:=aK (c / 2) (show(40:Int)≠0 by decide);have k4:=aG (c / 2) (show(0:Int)<40 by decide);unfold Cp;split
 ·exact h5 _ (getD_in (by show _<5;lia))
 ·exact getD_in (by rw[lU];lia)
theorem yx (T:Top K mg cFE cBP cBT cBA cBL cNO cHP cNW cNP cNN cK cW cRd):Ok P w K mg base 1 "_law_odd_piece" ["_law_cell"] (yK K (qG cW) (λas=>∃c,as=[.int c]) λas=>match as with
  |[.int c]=>.str (Cp c)
  |_=>.non):=by
 refine NT T.Ad jA (λas ⟨a,h⟩=>by rw[h];rfl) (λf cdv A outer s H E hr=>⟨_,((Oj (uY (i:=1) jA.nd rfl (Or.inl rfl) (uZ (fY gw (fY gw (fY gw (fY gw (fY gw (fY gw (fY gw (fY gw (fY gw (fY gw (fY gw (fY gw vp fZ) fZ) fZ) fZ) fZ) fZ) fZ) fZ) fZ) fZ) fZ) fZ)))
 (Oj (uY (i:=1) jA.nd rfl (Or.inl rfl) (BW (my (xv 1)) (uZ (fY gw (fY gw (fY gw (fY gw (fY gw (fY gw (fY gw (fY gw (fY gw (fY gw (fY gw vp fZ) fZ) fZ) fZ) fZ) fZ) fZ) fZ) fZ) fZ) fZ))))
 (Oj (uY (i:=1) jA.nd rfl (Or.inl rfl) (BW (my (xv 1)) (uZ (fY gw (fY gw (fY gw (fY gw (fY gw (fY gw (fY gw (fY gw (fY gw (fY gw vp fZ) fZ) fZ) fZ) fZ) fZ) fZ) fZ) fZ) fZ))))
 (Nm (uY (i:=1) jA.nd rfl (Or.inl rfl) (BW (my (xv 1)) (uZ (fY gw (fY gw (fY gw (fY gw (fY gw (fY gw (fY Oh vp BP) fZ) fZ) fZ) fZ) fZ) fZ))))
 (fV (Tf (lw (gR (xn 0) fU) fU)
 (Ih (Ir (uZ (fY gw (fY gw (fY gw (fY gw (fY (M8 (iV (xv 1) fU (λ_ _=>rfl))) vp O7) fZ) fZ) fZ) fZ)) (gR (iT (xn 0) fU) fU) (λ_ _=>rfl)))
 gC)
 (fX (gr (iV (xv 1) (gR (iT (xn 0) fU) fU) (λ_ _=>rfl)))))))))),λas hp=>?_⟩)
 obtain ⟨c,rfl⟩:=hp;have k1:=aK (c / 2) (show (5:Int)≠0 by decide);have k2:=aG (c / 2) (show (0:Int)<5 by decide);have k3:=aK (c / 2) (show (40:Int)≠0 by decide);have k4:=aG (c / 2) (show (0:Int)<40 by decide);have lo:("(":Str).length=1:=by decide +kernel
 have lc:(")":Str).length=1:=by decide +kernel
 refine⟨by repeat (first|exact tJ|refine⟨tJ,?_⟩),λp ep=>?_⟩
 replace ep:p=.lst (uM.map PV.str):=ep;subst ep;refine gD (ρ':=[.fr (.int c),.fr (.lst (uM.map PV.str))]) rfl ?_;refine⟨⟨⟨rfl,rfl⟩,by repeat (first|exact tJ|refine⟨tJ,?_⟩),by show 12+11<=sizeLine;rw[aB];decide⟩,λp ep=>?_⟩
 replace ep:p=.lst ((uM++zB).map PV.str):=by rw[bq];exact ep
 subst ep;refine gD (ρ':=[.fr (.int c),.fr (.lst ((uM++zB).map PV.str))]) rfl ?_;refine⟨⟨⟨rfl,rfl⟩,by repeat (first|exact tJ|refine⟨tJ,?_⟩),by show 23+10<=sizeLine;rw[aB];decide⟩,λp ep=>?_⟩
 replace ep:p=.lst ((uM++zB++JH).map PV.str):=by rw[bq];exact ep
 subst ep;refine gD (ρ':=[.fr (.int c),.fr (.lst ((uM++zB++JH).map PV.str))]) rfl ?_;refine⟨⟨⟨rfl,rfl⟩,⟨tJ,tJ,tJ,tJ,tJ,tJ,⟨⟨tJ,⟨tJ,tJ,Bx⟩,?_⟩,tJ,?_⟩,tJ⟩,by show 33+7<=sizeLine;rw[aB];decide⟩,λp ep=>?_⟩
 ·show("(":Str).length+(lR "1" 101).length<=sizeLine;rw[lo,sZ,aB];decide
 ·show(("(":Str)++lR "1" 101).length+(")":Str).length<=sizeLine;rw[len_app,lo,lc,sZ,aB];decide
 replace ep:p=.lst (jk.map PV.str):=by unfold jk;rw[bq];exact ep
 subst ep;have h39:qW (.lst (jk.map PV.str)) 39=.str (("(":Str)++xU++")"):=by rw[vo (by decide) (by rw[lU];decide)];rfl
 refine gD (ρ':=[.fr (.int c),.fr (.lst (jk.map PV.str))]) rfl ?_;refine⟨⟨⟨rfl,tJ,by show(0:Int)<2;decide⟩,tJ⟩,λq=>?_,λq=>?_⟩
 ·have q:c % 2=0:=q;have e5:qW (.lst (Qe.map PV.str)) (c / 2 % 5)=.str (Qe.getD (c / 2 % 5).toNat ""):=vo k1 k2;have e6:PV.lst [.str "(x)^41",.str "(x^41)",.str "(x)^0",.str "(x)^1",qW (.lst (jk.map PV.str)) 39]=.lst (Qe.map PV.str):=by rw[h39];rfl
  refine⟨⟨⟨tJ,tJ,tJ,tJ,⟨rfl,tJ,?_⟩,tJ⟩,⟨⟨rfl,tJ,by show(0:Int)<2;decide,by show(2:Int).natAbs.log2<9000;decide +kernel⟩,tJ,by show(0:Int)<5;decide⟩,?_⟩,?_⟩
  ·show -((jk.map PV.str).length:Int)<=39/\(39:Int)<((jk.map PV.str).length:Int);rw[ag,lU];decide
  ·show -((5:Nat):Int)<=c / 2 % 5/\c / 2 % 5<((5:Nat):Int);lia
  ·show qW (PV.lst [.str "(x)^41",.str "(x^41)",.str "(x)^0",.str "(x)^1",qW (.lst (jk.map PV.str)) 39]) (c / 2 % 5)=PV.str (Cp c);rw[e6,e5];unfold Cp;rw[ak q]
 ·have q:¬c % 2=0:=q;have e5:qW (.lst (jk.map PV.str)) (c / 2 % 40)=.str (jk.getD (c / 2 % 40).toNat ""):=vo k3 (by rw[lU];exact k4);refine⟨⟨rfl,⟨⟨rfl,tJ,by show(0:Int)<2;decide,by show(2:Int).natAbs.log2<9000;decide +kernel⟩,tJ,by show(0:Int)<40;decide⟩,?_⟩,?_⟩
  ·show -((jk.map PV.str).length:Int)<=c / 2 % 40/\c / 2 % 40<((jk.map PV.str).length:Int);rw[ag,lU];lia
  ·show qW (.lst (jk.map PV.str)) (c / 2 % 40)=PV.str (Cp c);rw[e5];unfold Cp;rw[ai q]
def Gz (c:Int):Str:=if c % 3=0 then(if c / 3 % 2=0 then xU else("-":Str)++xU) else lA.getD (c / 3 % 14).toNat ""
theorem O3 (c:Int):Gz c∈lA:=by
 have k3:=aK (c / 3) (show(14:Int)≠0 by decide);have k4:=aG (c / 3) (show(0:Int)<14 by decide);have h1:xU∈lA:=getD_in (l:=lA) (i:=13) (by decide);have h2:("-":Str)++xU∈lA:=getD_in (l:=lA) (i:=12) (by decide);unfold Gz;split
 ·split
  ·exact h1
  ·exact h2
 ·exact getD_in (by show _<14;lia)
theorem uD (T:Top K mg cFE cBP cBT cBA cBL cNO cHP cNW cNP cNN cK cW cRd):Ok P w K mg base 1 "_law_odd_content" ["_law_cell"] (yK K (qG cW) (λas=>∃c,as=[.int c]) λas=>match as with
  |[.int c]=>.str (Gz c)
  |_=>.non):=by
 refine NT T.vW nA (λas ⟨a,h⟩=>by rw[h];rfl) (λf cdv A outer s H E hr=>⟨_,((Nm (uY (i:=1) nA.nd rfl (Or.inl rfl) (uZ (fY gw (fY gw (fY gw (fY gw (fY gw (fY gw (fY gw (fY gw (fY gw (fY gw (fY gw (fY gw (fY Ob (fY Q7 vp BP) BP) fZ) fZ) fZ) fZ) fZ) fZ) fZ) fZ) fZ) fZ) fZ) fZ)))
 (fV (gJ (lw (gR (xn 0) fU) fU)
 (fX (gr (iV (xv 1) (lK (q9 fU) (gR (iT (xn 0) fU) fU)) (λ_ _=>rfl))))
 gC)
 (fX (gr (iV (xv 1) (gR (iT (xn 0) fU) fU) (λ_ _=>rfl))))))),λas hp=>?_⟩)
 obtain⟨c,rfl⟩:=hp;have k1:=aK (c / 3) (show(2:Int)≠0 by decide);have k2:=aG (c / 3) (show(0:Int)<2 by decide);have k3:=aK (c / 3) (show(14:Int)≠0 by decide);have k4:=aG (c / 3) (show(0:Int)<14 by decide);have lm:("-":Str).length=1:=by decide +kernel
 refine⟨⟨tJ,tJ,tJ,tJ,tJ,tJ,tJ,tJ,tJ,tJ,tJ,tJ,⟨tJ,⟨tJ,tJ,Bx⟩,?_⟩,⟨tJ,tJ,Bx⟩,tJ⟩,λp ep=>?_⟩
 ·show("-":Str).length+(lR "1" 101).length<=sizeLine;rw[lm,sZ,aB];decide
 replace ep:p=.lst (lA.map PV.str):=ep;subst ep;refine gD (ρ':=[.fr (.int c),.fr (.lst (lA.map PV.str))]) rfl ?_;refine⟨⟨⟨rfl,tJ,by show(0:Int)<3;decide⟩,tJ⟩,λq=>?_,λq=>?_⟩
 ·have q:c % 3=0:=q;have e5:qW (.lst (lA.map PV.str)) (-1-c / 3 % 2)=.str (Gz c):=by
   unfold Gz;rw[ak q];have e:c / 3 % 2=0\/c / 3 % 2=1:=by lia
   rcases e with e|e<;>rw[e]<;>rfl
  refine⟨⟨rfl,⟨tJ,⟨⟨rfl,tJ,by show(0:Int)<3;decide,by show(3:Int).natAbs.log2<9000;decide +kernel⟩,tJ,by show(0:Int)<2;decide⟩⟩,?_⟩,e5⟩;show -((14:Nat):Int) <= -1-c / 3 % 2 /\ -1-c / 3 % 2<((14:Nat):Int);lia
 ·have q:¬c % 3=0:=q;have e5:qW (.lst (lA.map PV.str)) (c / 3 % 14)=.str (lA.getD (c / 3 % 14).toNat ""):=vo k3 k4;refine⟨⟨rfl,⟨⟨rfl,tJ,by show(0:Int)<3;decide,by show(3:Int).natAbs.log2<9000;decide +kernel⟩,tJ,by show(0:Int)<14;decide⟩,?_⟩,?_⟩
  ·show -((14:Nat):Int)<=c / 3 % 14/\c / 3 % 14<((14:Nat):Int);lia
  ·show qW (.lst (lA.map PV.str)) (c / 3 % 14)=PV.str (Gz c);rw[e5];unfold Gz;rw[ai q]
def Qd (c:Int):Str:=rR.getD (c % 10).toNat ""
theorem PQ (c:Int):Qd c∈rR:=by have k3:=aK c (show(10:Int)≠0 by decide);have k4:=aG c (show(0:Int)<10 by decide);exact getD_in (by show _<10;lia)
theorem yu (T:Top K mg cFE cBP cBT cBA cBL cNO cHP cNW cNP cNN cK cW cRd):Ok P w K mg base 1 "_law_odd_joint" ["_law_cell"] (yK K (qG cW) (λas=>∃c,as=[.int c]) λas=>match as with
  |[.int c]=>.str (Qd c)
  |_=>.non):=by
 refine NT T.yN xq (λas ⟨a,h⟩=>by rw[h];rfl) (λf cdv A outer s H E hr=>⟨_,((Ih (Ir (uZ (fY gw (fY gw (fY gw (fY gw (fY gw (fY gw (fY gw (fY gw (fY gw (fY gw vp fZ) fZ) fZ) fZ) fZ) fZ) fZ) fZ) fZ) fZ)) (gR (xn 0) fU) (λ_ _=>rfl)))),λas hp=>?_⟩);obtain⟨c,rfl⟩:=hp;have k3:=aK c (show(10:Int)≠0 by decide);have k4:=aG c (show(0:Int)<10 by decide);refine⟨⟨by repeat (first|exact tJ|refine⟨tJ,?_⟩),⟨rfl,tJ,by show(0:Int)<10;decide⟩,?_⟩,?_⟩
 ·show -((10:Nat):Int)<=c % 10/\c % 10<((10:Nat):Int);lia
 ·show qW (.lst (rR.map PV.str)) (c % 10)=PV.str (Qd c);exact vo k3 k4
theorem GZ {x:Str}{i:Int}(h:(x.length:Int)<=i):StrLaws.sliceText x (some i) none=StrLaws.sliceText x (some (x.length:Int)) none:=by
 have e:Builtin.Str.strSliceIndices (some i) none 1 x.length=Builtin.Str.strSliceIndices (some (x.length:Int)) none 1 x.length:=by unfold Builtin.Str.strSliceIndices;dsimp only;rw[ai (show ¬i<0 by lia),ai (show ¬(x.length:Int)<0 by lia),show min i (x.length:Int)=x.length by lia,show min (x.length:Int) (x.length:Int)=x.length by lia];rfl
 unfold StrLaws.sliceText;rw[e]
theorem qQ (x:Str)(l u:Option Int):(StrLaws.sliceText x l u).length<=x.length:=PySem.Txt.slice_le x l u
theorem HW {x:Str}{j:Int}(h0:0<=j)(h1:j<=(x.length:Int)):(StrLaws.sliceText x none (some j)).cps.toList.count 42<=x.cps.toList.count 42:=by rw[StrLaws.sliceText_to ⟨h0,by rw[<- ir];exact h1⟩];exact((dt _ _).trans (eE _ _)).count_le _
theorem vg {x:Str}{i:Int}(h0:0<=i):(StrLaws.sliceText x (some i) none).cps.toList.count 42<=x.cps.toList.count 42:=by
 by_cases c:i<=(x.length:Int)
 ·rw[StrLaws.sliceText_from ⟨h0,by rw[<- ir];exact c⟩];exact((dt _ _).trans (eE _ _)).count_le _
 ·rw[GZ (by lia),StrLaws.sliceText_from ⟨by lia,by rw[<- ir];lia⟩];exact((dt _ _).trans (eE _ _)).count_le _
def Fd:Str:=" ()*^x+-0123456789ay."
def yH (t:Str)(c:Int):Int:=(c*c+c / 63)*48271 % 2147483629 % ((t.length:Int)+1)
def K7 (t:Str)(c:Int):Str:=if c % 3=0 then StrLaws.sliceText t none (some (yH t c))++StrLaws.sliceText t (some (yH t c+1)) none
 else StrLaws.sliceText t none (some (yH t c))++⟨#[JN Fd (c / 3 % 21)]⟩++StrLaws.sliceText t (some (yH t c+c % 3-1)) none
theorem R7 (t:Str)(c:Int):0<=yH t c/\yH t c<=(t.length:Int):=by have h1:0<=yH t c:=aK _ (by lia);have h2:yH t c<(t.length:Int)+1:=aG _ (by lia);lia
theorem RZ (t:Str)(c:Int):(K7 t c).length<=2*t.length+1/\(K7 t c).cps.toList.count 42<=2*t.cps.toList.count 42+1:=by
 obtain⟨a0,a1⟩:=R7 t c;have k3:=aK c (show(3:Int)≠0 by decide);have h1:=qQ t none (some (yH t c));have h2:=qQ t (some (yH t c+1)) none;have h3:=qQ t (some (yH t c+c % 3-1)) none;have c1:=HW a0 a1;have c2:=vg (x:=t) (i:=yH t c+1) (by lia);unfold K7;split
 ·rw[len_app,gB,bS];lia
 ·rename_i q;have c3:=vg (x:=t) (i:=yH t c+c % 3-1) (by lia);have o1:((⟨#[JN Fd (c / 3 % 21)]⟩:Str)).length=1:=rfl;have o2:((⟨#[JN Fd (c / 3 % 21)]⟩:Str)).cps.toList.count 42<=1:=List.count_le_length;rw[len_app,len_app,gB,gB,bS,bS];lia
theorem Cz (T:Top K mg cFE cBP cBT cBA cBL cNO cHP cNW cNP cNN cK cW cRd):Ok P w K mg base 1 "_law_changed" ["_law_text","_law_cell"] (yK K (qG cW) (λas=>∃t c,as=[.str t,.int c]/\t.length<=4000/\Builtin.Int.intBits c<=2^20) λas=>match as with
  |[.str t,.int c]=>.str (K7 t c)
  |_=>.non):=by
 refine Bl T.Gi o9 (λas ⟨a,b,h,_⟩=>by rw[h];rfl) (λf cdv A outer s H E hr=>⟨_,(fV (gH (i:=2) o9.nd rfl (Or.inl rfl) gF)
 (fV (jW (i:=3) o9.nd rfl (Or.inl rfl) (gR (gR (nH (jY (nH (xn 1) (xn 1)) (iT (xn 1) fU)) fU) fU) (jY (tM T.kZ (xs 0)) fU)))
 (fV (gJ (lw (gR (xn 1) fU) fU)
 (fX (gr (ig (Mu (xs 0) (xn 3)) (p8 (xs 0) (jY (xn 3) fU)))))
 gC)
 (fX (gr (ig (ig (Mu (xs 0) (xn 3)) (K9 (xs 2) (gR (iT (xn 1) fU) fU))) (p8 (xs 0) (lK (jY (xn 3) (gR (xn 1) fU)) fU)))))))),λas hp=>?_⟩)
 obtain⟨t,c,rfl,ht,hb⟩:=hp;have tl:t.length<=sizeLine:=by rw[aB];lia
 have h1:=qQ t none (some (yH t c));have h2:=qQ t (some (yH t c+1)) none;have h3:=qQ t (some (yH t c+c % 3-1)) none;have k3:=aK (c / 3) (show(21:Int)≠0 by decide);have k4:=aG (c / 3) (show(0:Int)<21 by decide);have sl:Fd.length=21:=by decide +kernel
 refine⟨tJ,λa ea=>?_⟩;replace ea:a=Fd:=ea;subst ea;refine gD (ρ':=[.fr (.str t),.fr (.int c),.fr (.str Fd),.un]) rfl ?_;refine⟨⟨⟨⟨⟨⟨rfl,rfl,IntMulOk.of_bits hb hb⟩,rfl,tJ,by show(0:Int)<63;decide,by show(63:Int).natAbs.log2<9000;decide +kernel⟩,tJ,tO (by decide)⟩,tJ,by show(0:Int)<2147483629;decide⟩,⟨⟨rfl,tl⟩,tJ⟩,by show(0:Int)<(t.length:Int)+1;lia⟩,λn en=>?_⟩;replace en:n=yH t c:=en;subst en;generalize hA:yH t c=A1 at h1 h2 h3 ⊢;refine gD (ρ':=[.fr (.str t),.fr (.int c),.fr (.str Fd),.fr (.int A1)]) rfl ?_;refine⟨⟨⟨rfl,tJ,by show(0:Int)<3;decide⟩,tJ⟩,λq=>?_,λq=>?_⟩
 ·have q:c % 3=0:=q;refine⟨⟨⟨rfl,rfl,tl⟩,⟨rfl,⟨rfl,tJ⟩,tl⟩,?_⟩,?_⟩
  ·show(StrLaws.sliceText t none (some A1)).length+(StrLaws.sliceText t (some (A1+1)) none).length<=sizeLine;rw[aB];lia
  ·show PV.str (StrLaws.sliceText t none (some A1)++StrLaws.sliceText t (some (A1+1)) none)=PV.str (K7 t c);unfold K7;rw[ak q,hA]
 ·have q:¬c % 3=0:=q;have o1:((⟨#[JN Fd (c / 3 % 21)]⟩:Str)).length=1:=rfl;refine⟨⟨⟨⟨rfl,rfl,tl⟩,⟨rfl,⟨⟨rfl,tJ,by show(0:Int)<3;decide,by show(3:Int).natAbs.log2<9000;decide +kernel⟩,tJ,by show(0:Int)<21;decide⟩,?_,k3,?_⟩,?_⟩,⟨rfl,⟨⟨rfl,rfl,tJ,by show(0:Int)<3;decide⟩,tJ⟩,tl⟩,?_⟩,?_⟩
  ·show Fd.length<=sizeLine;rw[sl,aB];decide
  ·show c / 3 % 21<(Fd.length:Int);rw[sl];exact k4
  ·show(StrLaws.sliceText t none (some A1)).length+((⟨#[JN Fd (c / 3 % 21)]⟩:Str)).length<=sizeLine;rw[o1,aB];lia
  ·show(StrLaws.sliceText t none (some A1)++⟨#[JN Fd (c / 3 % 21)]⟩).length+(StrLaws.sliceText t (some (A1+c % 3-1)) none).length<=sizeLine;rw[len_app,o1,aB];lia
  ·show PV.str (StrLaws.sliceText t none (some A1)++⟨#[JN Fd (c / 3 % 21)]⟩++StrLaws.sliceText t (some (A1+c % 3-1)) none)=PV.str (K7 t c);unfold K7;rw[ai q,hA]
theorem yU (T:Top K mg cFE cBP cBT cBA cBL cNO cHP cNW cNP cNN cK cW cRd):Ok P w K mg base 1 "_law_no_other" ["_law_kept"] (Lg K (qG cW) (λas=>as=[.ob 1 ((cBP:Nat):Int)]) λ_=>true):=by
 refine Bl T.Bt zr (λas h=>by rw[h];rfl) (λf cdv A outer s H E hr=>⟨_,(fV (gJ (L2.PW.pt (tZ (rC (lN jG T.gM (xv 0) (kh (by rfl) T.z9))) (tZ (rC (lN jG T.gM (xv 0) (kh (by rfl) T.wu))) (vq (rC (lN jG T.gM (xv 0) (kh (by rfl) T.Am)))))))
 (fX (gr DN))
 gC)
 (fV (gJ (L2.PW.pt (tZ (rC (lN jG T.gM (xv 0) (kh (by rfl) T.ou))) (tZ (rC (lN jG T.gM (xv 0) (kh (by rfl) T.ur))) (vq (rC (lN jG T.gM (xv 0) (kh (by rfl) T.wO)))))))
 (fX (gr DN))
 gC)
 (fX (gr (Bv (Hs (lN jG T.gM (xv 0) (kh (by rfl) T.wH))) (pe_one (Hs (lN jG T.gM (xv 0) (kh (by rfl) T.Az))))))))),λas hp=>?_⟩)
 subst hp;have a1:gW K (.ob 1 ((cBP:Nat):Int)) (.cls cBA)=false:=ie rfl T.rO;have a2:gW K (.ob 1 ((cBP:Nat):Int)) (.cls cBL)=false:=ie rfl T.qx;have a3:gW K (.ob 1 ((cBP:Nat):Int)) (.cls cNO)=false:=ie rfl T.rN;have a4:gW K (.ob 1 ((cBP:Nat):Int)) (.cls cBT)=false:=ie rfl T.pP;have a5:gW K (.ob 1 ((cBP:Nat):Int)) (.cls cHP)=false:=ie rfl T.o7;have a6:gW K (.ob 1 ((cBP:Nat):Int)) (.cls cNW)=false:=ie rfl T.pW;have a7:gW K (.ob 1 ((cBP:Nat):Int)) (.cls cNP)=false:=ie rfl T.qi;have a8:gW K (.ob 1 ((cBP:Nat):Int)) (.cls cNN)=false:=ie rfl T.rK;refine⟨⟨⟨rfl,tJ,.inr ⟨cBP,_,_,rfl,T.gU,rfl,T.rO⟩⟩,λ_=>⟨⟨rfl,tJ,.inr ⟨cBP,_,_,rfl,T.gU,rfl,T.qx⟩⟩,λ_=>⟨rfl,tJ,.inr ⟨cBP,_,_,rfl,T.gU,rfl,T.rN⟩⟩⟩⟩,λh=>?_,λ_=>?_⟩
 ·have h:gW K (.ob 1 ((cBP:Nat):Int)) (.cls cBA)=true\/gW K (.ob 1 ((cBP:Nat):Int)) (.cls cBL)=true\/gW K (.ob 1 ((cBP:Nat):Int)) (.cls cNO)=true:=h;rw[a1,a2,a3]at h;rcases h with h|h|h<;>cases h
 refine⟨⟨⟨rfl,tJ,.inr ⟨cBP,_,_,rfl,T.gU,rfl,T.pP⟩⟩,λ_=>⟨⟨rfl,tJ,.inr ⟨cBP,_,_,rfl,T.gU,rfl,T.o7⟩⟩,λ_=>⟨rfl,tJ,.inr ⟨cBP,_,_,rfl,T.gU,rfl,T.pW⟩⟩⟩⟩,λh=>?_,λ_=>?_⟩
 ·have h:gW K (.ob 1 ((cBP:Nat):Int)) (.cls cBT)=true\/gW K (.ob 1 ((cBP:Nat):Int)) (.cls cHP)=true\/gW K (.ob 1 ((cBP:Nat):Int)) (.cls cNW)=true:=h;rw[a4,a5,a6]at h;rcases h with h|h|h<;>cases h
 refine⟨⟨⟨rfl,tJ,.inr ⟨cBP,_,_,rfl,T.gU,rfl,T.qi⟩⟩,λ_=>⟨rfl,tJ,.inr ⟨cBP,_,_,rfl,T.gU,rfl,T.rK⟩⟩⟩,?_⟩;show PV.bl (decide (¬gW K (.ob 1 ((cBP:Nat):Int)) (.cls cNP)=true/\¬gW K (.ob 1 ((cBP:Nat):Int)) (.cls cNN)=true))=PV.bl true;rw[a7,a8];rfl
def GX:Rs->PV
 | .val p=>p
 | .err _=>.non
theorem w6 (T:Top K mg cFE cBP cBT cBA cBL cNO cHP cNW cNP cNN cK cW cRd):Ok P w K mg base 11 "_law_answer" ["_law_text"] (yK K (qG cW) (λas=>∃t,as=[.str t]/\t.length<=10000/\t.cps.toList.count 42<=500) λas=>match as with
  |[.str t]=>GX (jU cBP t)
  |_=>.non):=by
 refine Bl T.Jj oJ (λas ⟨a,h,_⟩=>by rw[h];rfl) (λf cdv A outer s H E hr=>⟨_,(fV (jE (i:=1) oJ.nd rfl (Or.inl rfl) HS)
 (fV (jE (i:=2) oJ.nd rfl (Or.inl rfl) (xG gf))
 (fV (HY (i:=3) (j:=1) (l:=2) jG (rZ T) hr (by rfl) rfl rfl rfl rfl (by rfl) T.mQ oJ.nd rfl rfl rfl rfl rfl rfl rfl (by decide) (by decide) (λ_ _=>(fW (xs 0) gf)))
 (fV (gJ (O6 (xv 1))
 (fX (gr (xv 2)))
 gC)
 (fV (gJ (L2.PW.pt (ph (rC (lN jG T.gM (xv 1) (kh (by rfl) T.jd))) (ph (rC (lN jG T.gM (xv 1) (DW (by rfl) T.xx vM))) (oH (rC (Sg (yU T) hr (fW (xv 1) gf)))))))
 (fX (gr HS))
 gC)
 (fX (gr (xG gf)))))))),λas hp=>?_⟩)
 obtain⟨t,rfl,ht,h42⟩:=hp;refine⟨tJ,λv ev=>⟨tJ,λu eu=>?_⟩⟩;replace ev:v=.non:=ev;replace eu:u=.tup []:=eu;subst ev eu;refine gD (ρ':=[.fr (.str t),.fr .non,.fr (.tup []),.un]) rfl ?_;refine⟨⟨rfl,tJ⟩,⟨t,rfl,ht,h42⟩,λp hp=>?_,λd hd=>?_⟩
 ·have hp:jU cBP t=.val p:=hp;refine gD (ρ':=[.fr (.str t),.fr .non,.fr p,.un]) rfl ?_;refine⟨⟨rfl,tJ⟩,λ_=>⟨rfl,?_⟩,λz=>absurd rfl z⟩;show p=GX (jU cBP t);rw[hp];rfl
 ·have hd:jU cBP t=.err d:=hd;have ed:d=cBP:=by
   rcases tL (cBP:=cBP) ht with e|⟨c,l,e,_⟩
   ·rw[e]at hd;cases hd;rfl
   ·rw[e]at hd;cases hd
  subst ed;have e1:gW K (.ob 1 ((d:Nat):Int)) (.cls d)=true:=ie rfl T.Eb;have e2:gW K (.ob 1 ((d:Nat):Int)) (.ty "ValueError")=true:=ie rfl T.Eh;refine⟨T.Te,rfl,λm xs ys z=>?_,?_⟩
  ·match m with
   |0=>cases z
   |1=>cases z
   |2=>cases z
   |3=>cases z
   |m+4=>cases z
  refine gD (ρ':=[.fr (.str t),.fr (.ob 1 ((d:Nat):Int)),.fr (.tup []),.un]) rfl ?_;refine⟨⟨rfl,tJ⟩,(λz=>nomatch (show false=true from z)),λ_=>⟨⟨⟨rfl,tJ,.inr ⟨d,_,_,rfl,T.gU,rfl,T.Eb⟩⟩,λ_=>⟨⟨rfl,tJ,.inr ⟨d,_,_,rfl,T.gU,rfl,T.Eh⟩⟩,λ_=>⟨⟨rfl,tJ⟩,rfl⟩⟩⟩,λ_=>⟨tJ,?_⟩,λz=>?_⟩⟩
  ·show PV.non=GX (jU d t);rw[hd];rfl
  ·have z:¬(gW K (.ob 1 ((d:Nat):Int)) (.cls d)=true/\gW K (.ob 1 ((d:Nat):Int)) (.ty "ValueError")=true/\true=true):=z;exact absurd ⟨e1,e2,rfl⟩ z
theorem v7 (T:Top K mg cFE cBP cBT cBA cBL cNO cHP cNW cNP cNN cK cW cRd):Ok P w K mg base 4 "_law_writes" ["_law_found","_law_text"] (Lg K (qG cW) (λas=>∃c l t,as=[.tup [.int c,.lst l],.str t]/\c.natAbs<10^100/\l.length<=30/\∀q∈l,Gd q) λas=>match as with
  |[.tup [.int c,.lst l],.str t]=>decide (jy c l=t)
  |_=>false):=by
 refine Bl T.Hu Ep (λas ⟨a,b,c,h,_⟩=>by rw[h];rfl) (λf cdv A outer s H E hr=>⟨_,(fV (gJ (L2.PW.pt (tZ (xH (rC (Gm T.gM (xv 0) (DW (by rfl) T.K3 Jh)))) (vq (Dh (yw T.kZ (xv 0)) fU))))
 (fX (gr DN))
 gC)
 (fX (gr (Od (jN (xc (Cw T) hr (fW (Hw (iV (xv 0) fU (λ_ _=>rfl))) (fW (iV (xv 0) fU (λ_ _=>rfl)) gf)))) (xs 1))))),λas hp=>?_⟩)
 obtain⟨c,l,t,rfl,hc,hl,hg⟩:=hp;have cI:(c.natAbs:Int)<10^110:=by
  have e10:((10^100:Nat):Int)<=(10:Int)^110:=by decide +kernel
  exact cM (dj.mpr hc) e10
 have t1:qd K (.tup [.int c,.lst l]) (.ty "tuple")=true:=vz rfl rfl T.wY;have it0:DY (.tup [.int c,.lst l]) 0:=by show -((2:Nat):Int)<=0/\(0:Int)<((2:Nat):Int);decide
 have it1:DY (.tup [.int c,.lst l]) 1:=by show -((2:Nat):Int)<=1/\(1:Int)<((2:Nat):Int);decide
 refine⟨⟨⟨rfl,tJ,_,_,_,rfl,rfl,T.wY⟩,λ_=>⟨⟨rfl,tJ⟩,tJ⟩⟩,λq=>?_,λ_=>?_⟩
 ·have q:¬qd K (.tup [.int c,.lst l]) (.ty "tuple")=true\/¬((2:Nat):Int)=2:=q;rw[t1]at q;rcases q with q|q
  ·exact absurd rfl q
  ·exact absurd rfl q
 exact⟨⟨⟨⟨⟨⟨⟨rfl,tJ,it0⟩,rfl⟩,⟨rfl,tJ,it1⟩,tJ⟩,c,l,rfl,cI,hl,hg⟩,rfl⟩,rfl⟩,rfl⟩
theorem Hj (c:Int):1<=Gb c/\Gb c<=40:=by
 unfold Gb;have h1:=aK c (show(3:Int)≠0 by decide);have h2:=aK (c / 3) (show(39:Int)≠0 by decide);have h3:=aG (c / 3) (show(0:Int)<39 by decide);have h4:=aK (c / 3) (show(2:Int)≠0 by decide);have h5:=aG (c / 3) (show(0:Int)<2 by decide);split
 ·lia
 ·have e:c / 3 % 2=0\/c / 3 % 2=1:=by lia
  rcases e with e|e<;>rw[e]
  ·show 1<=(40:Int)/\(40:Int)<=40;decide
  ·show 1<=2+c / 3 % 39/\2+c / 3 % 39<=40;lia
theorem Pn (c:Int):0<=MK c/\MK c<=38:=by
 unfold MK;have h2:=aK (c / 4) (show(39:Int)≠0 by decide);have h3:=aG (c / 4) (show(0:Int)<39 by decide);have h4:=aK c (show(4:Int)≠0 by decide);have h5:=aG c (show(0:Int)<4 by decide);have e:c % 4=0\/c % 4=1\/c % 4=2\/c % 4=3:=by lia
 rcases e with e|e|e|e<;>rw[e]
 ·show 0<=(0:Int)/\(0:Int)<=38;decide
 ·show 0<=(1:Int)/\(1:Int)<=38;decide
 ·show 0<=(0:Int)/\(0:Int)<=38;decide
 ·show 0<=c / 4 % 39/\c / 4 % 39<=38;lia
theorem wF (x:Li):∀k,f9 (x++List.replicate k 0)=f9 x
 |0=>by rw[List.replicate_zero,aU]
 |k+1=>by rw[List.replicate_succ',<- aY,mO,wF x k]
theorem JD {xs:Li}{m:Int}(h:m∈f9 xs):m=0\/m∈xs:=by
 obtain⟨i,hi,rfl⟩:=dF.mp h;have e:=km _ xs rfl i;rw[gQ,ap hi]at e;have e:(f9 xs)[i]=xs.getD i 0:=e;rw[e];by_cases c:i<xs.length
 ·exact .inr (FM.getD_mem c)
 ·rw[jB (by lia)];exact .inl rfl
def Tq (sm:List Int):PV:=.tup [.ints (f9 (zY (Cg sm))),.int (GC (Cg sm))]
theorem Qn {sm:Li}:∀m∈zY (Cg sm),m.natAbs<10^100:=λm hm=>by
 have hm:m∈Ax sm++List.replicate (sm.getD (iw sm.length (-1)) 0 / 5 % 2).toNat 0:=hm;have z:(0:Int).natAbs<10^100:=by decide +kernel
 have e10:((10^100:Nat):Int)=(10:Int)^100:=by decide +kernel
 rcases aV.mp hm with q|q
 ·unfold Ax at q;rcases aV.mp q with q|q
  ·rw[(cN.mp q).2];exact z
  ·obtain⟨c,_,rfl⟩:=bw.mp q;have:=I9 (c / 2);rw[<- e10]at this;exact dj.mp this
 ·rw[(cN.mp q).2];exact z
theorem NB {sm:Li}(h:sm.length<=3):Gp (Tq sm):=by
 refine⟨⟨_,_,rfl⟩,kI _,?_,λm hm=>?_,(Hj _).1,(Hj _).2⟩
 ·show(f9 (Ax sm++List.replicate (sm.getD (iw sm.length (-1)) 0 / 5 % 2).toNat 0)).length<=41;rw[wF];refine aA (lQ _) ?_;unfold Ax;have:=Pn (sm.getD (iw sm.length 0) 0);rw[ar,bv,ag];lia
 ·have hm:m∈f9 (zY (Cg sm)):=hm;rcases JD hm with z|z
  ·rw[z];decide +kernel
  ·exact Qn m z
theorem RB (g:Li)(o:Int):iy (.tup [.ints (f9 g),.int o])=("(":Str)++mC (f9 g)++")"++(if o > 1 then("^":Str)++gm o else e0):=jf (by
 rw[gB,gB,gB,Jw,show("(":Str).cps.toList=[40] from by decide +kernel,show(")":Str).cps.toList=[41] from by decide +kernel];show 40::(mC (f9 (f9 g))).cps.toList++41::pF o=_;rw[Ek (kI _)];simp only[aY,bj,bK])
def qP (ns:List Int)(i:Nat):PV:=Tq (Ng ns (0+(i:Int)*3))
def stP (ns:List Int):Nat->List PV×Int
 |0=>([],0)
 |i+1=>(if (stP ns i).2+((iy (qP ns i)).length:Int)+3<=3200 then(stP ns i).1++[qP ns i] else(stP ns i).1,(stP ns i).2+((iy (qP ns i)).length:Int)+3)
def nP (ns:List Int):Nat:=qL 0 (if (63:Int)<(ns.length:Int) then(63:Int) else(ns.length:Int)) 3
theorem HN (ns:Li):nP ns<=22/\∀k:Nat,k<nP ns->0+(k:Int)*3<ns.length/\0+(k:Int)*3<63:=by
 unfold nP;generalize hM:(if (63:Int)<(ns.length:Int) then(63:Int) else(ns.length:Int))=M;have hM1:0<=M/\M<=63/\M<=ns.length:=by rw[<- hM];split<;>lia
 refine⟨?_,λk hk=>?_⟩
 ·unfold qL;split<;>lia
 ·unfold qL at hk;split at hk<;>lia
def wN (l:List PV):Nat:=(l.map λq=>(iy q).length+3).sum
theorem BJ {ns:Li}{i:Nat}{z:Int}(e:z=(stP ns i).2+((iy (qP ns i)).length:Int)+3)(h:z<=3200):stP ns (i+1)=((stP ns i).1++[qP ns i],z):=by
 rw[e]at h ⊢
 conv=>lhs;unfold stP
 rw[ak h]
theorem Dy {ns:Li}{i:Nat}{z:Int}(e:z=(stP ns i).2+((iy (qP ns i)).length:Int)+3)(h:¬z<=3200):stP ns (i+1)=((stP ns i).1,z):=by
 rw[e]at h ⊢
 conv=>lhs;unfold stP
 rw[ai h]
theorem Cr (ns:Li):∀i,i<=nP ns->(wN (stP ns i).1:Int)<=(stP ns i).2/\(wN (stP ns i).1:Int)<=3200/\(stP ns i).1.length<=i/\∀q∈(stP ns i).1,Gp q
 |0,_=>⟨Int.le_refl 0,by show(0:Int)<=3200;decide,aw _,λq hq=>nomatch hq⟩
 |i+1,hi=>by
  obtain⟨h1,h2,h3,h4⟩:=Cr ns i (by lia);have hk:=(HN ns).2 i hi;have sm3:=(Bq (ns:=ns) (k:=0+(i:Int)*3) (by lia) (by lia) (by lia)).2.1;have gq:Gp (qP ns i):=NB sm3;clear sm3 hk;by_cases hz:(stP ns i).2+((iy (qP ns i)).length:Int)+3<=3200
  ·rw[BJ rfl hz];generalize stP ns i=st at h1 h2 h3 h4 hz ⊢;generalize qP ns i=q0 at gq hz ⊢;have e:wN (st.1++[q0])=wN st.1+((iy q0).length+3):=by unfold wN;rw[bq,List.sum_append];rfl
   refine⟨?_,?_,?_,λq hq=>?_⟩
   ·show(wN (st.1++[q0]):Int)<=st.2+((iy q0).length:Int)+3;rw[e];lia
   ·show(wN (st.1++[q0]):Int)<=3200;rw[e];lia
   ·show(st.1++[q0]).length<=i+1;rw[ar];show st.1.length+1<=i+1;lia
   ·rcases aV.mp hq with hq|hq
    ·exact h4 q hq
    ·rw[aN.mp hq];exact gq
  ·rw[Dy rfl hz];generalize stP ns i=st at h1 h2 h3 h4 hz ⊢;refine⟨?_,h2,Nat.le_succ_of_le h3,h4⟩;show(wN st.1:Int)<=st.2+((iy (qP ns i)).length:Int)+3;lia
def mD (l:List PV):List PV:=(l.map iy).map PV.str
def Fz (ns:List Int):List PV:=(stP ns (nP ns)).1
theorem Ey (T:Top K mg cFE cBP cBT cBA cBL cNO cHP cNW cNP cNN cK cW cRd):Ok P w K mg base 3 "_law_pieces" ["_law_script"] (yK K (qG cW) (λas=>∃ns,as=[.scr ns]/\ns.length<=63/\∀m∈ns,Builtin.Int.intBits m<=2^20) λas=>match as with
  |[.scr ns]=>.lst (mD (Fz ns))
  |_=>.non):=by
 refine Bl T.Ia je (λas ⟨a,h,_⟩=>by rw[h];rfl) (λf cdv A outer s H E hr=>⟨_,(fV (Hx (i:=1) je.nd rfl (Or.inl rfl) (mR gf))
 (fV (jW (i:=2) je.nd rfl (Or.inl rfl) fU)
 (fV (Gq (k:=3) cG rfl (by rfl) T.tV fU (Oa rfl T.MJ (vf 0 T.kZ) fU) fU je.nd rfl (Or.inl rfl)
 (fV (Mf (xc (K1 T) hr (fW (xr 0) (fW (xn 3) gf))) (pg_tup rfl (pgs_cons (pg_name (i:=4) je.nd rfl (Or.inl rfl)) (pgs_cons (pg_name (i:=5) je.nd rfl (Or.inl rfl)) pgs_nil))))
 (fV (gH (i:=6) je.nd rfl (Or.inl rfl) (ig (ig gF (jN (xc (qz T) hr (fW (xl 4) gf)))) gF))
 (lr (gJ (uR (xn 5) fU)
 (fX (gH (i:=6) je.nd rfl (Or.inl rfl) (ig (ig (xs 6) gF) (mJ T.qw (xn 5)))))
 gC)
 (fV (jW (i:=2) je.nd rfl (Or.inl rfl) (jY (jY (xn 2) (tM T.kZ (xs 6))) fU))
 (fX (gJ (Rk (xn 2) fU)
 (fX (IV 1 (xs 6)))
 gC)))))))
 (Bu 1 (fX (gr (xv 1))))))),λas hp=>?_⟩)
 obtain⟨ns,rfl,h63,hbits⟩:=hp;have lo:("(":Str).length=1:=by decide +kernel
 have lc:(")":Str).length=1:=by decide +kernel
 have lx:("^":Str).length=1:=by decide +kernel
 refine⟨tJ,λl0 el0=>⟨tJ,λsz esz=>?_⟩⟩;replace el0:l0=[]:=el0;replace esz:sz=0:=esz;subst el0 esz;refine gD (ρ':=[.fr (.scr ns),.ow (.lst []),.fr (.int 0),.un,.un,.un,.un]) rfl ?_;obtain⟨hn,hR⟩:=HN ns;refine⟨⟨tJ,⟨.inr (.inr rfl),tJ⟩,tJ⟩,⟨by show(0:Int)<3;decide,by show(3:Int)<1000;decide,by show -(2:Int)^62<=0;decide,by show(0:Int)<2^62;decide,?_,?_⟩,λi ρ=>∃a b d e,ρ=[.fr (.scr ns),.ow (.lst (mD (stP ns i).1)),.fr (.int (stP ns i).2),a,b,d,e],⟨.un,.un,.un,.un,rfl⟩,?_,?_⟩
 ·show -(2:Int)^62<=(if (63:Int)<(ns.length:Int) then(63:Int) else(ns.length:Int));split<;>lia
 ·show(if (63:Int)<(ns.length:Int) then(63:Int) else(ns.length:Int))<2^62;split<;>lia
 ·rintro i ρ hi ⟨a,b,d,e,rfl⟩;have hi:i<nP ns:=hi;have hk:=hR i hi;have sok:=Cr ns i (by lia);have sm3:=(Bq (ns:=ns) (k:=0+(i:Int)*3) (by lia) (by lia) (by lia)).2.1;obtain⟨g,o,eg,h1,h2,h3,h4⟩:=Mi sm3;have sl:=tu h2 h1;have eq:qP ns i=.tup [.ints (f9 g),.int o]:=by unfold qP Tq;rw[eg];rfl
  have ep:=RB g o;rw[<- eq]at ep;have ol:(o.natAbs:Int)<10^110:=lu (by lia);refine⟨⟨⟨rfl,rfl,tJ⟩,ns,0+(i:Int)*3,rfl,by lia,by lia,by lia,h63,hbits⟩,.ints g,.int o,eg,?_⟩;refine gD (ρ':=[.fr (.scr ns),.ow (.lst (mD (stP ns i).1)),.fr (.int (stP ns i).2),.fr (.int (0+(i:Int)*3)),.fr (.ints g),.fr (.int o),e]) rfl ?_;refine⟨⟨⟨tJ,⟨⟨⟨rfl,tJ⟩,g,rfl,h1,h2⟩,rfl⟩,?_⟩,tJ,?_⟩,λp1 ep1=>?_⟩
  ·show("(":Str).length+(mC (f9 g)).length<=sizeLine;rw[lo,aB];lia
  ·show(("(":Str)++mC (f9 g)).length+(")":Str).length<=sizeLine;rw[len_app,lo,lc,aB];lia
  replace ep1:p1=("(":Str)++mC (f9 g)++")":=ep1;have l1:p1.length<=30402:=by rw[ep1,len_app,len_app,lo,lc];lia
  rw[<- ep1]at ep;have ln:=qT ol;have lp:(iy (qP ns i)).length<=40000:=by
   rw[ep,len_app];split
   ·rw[len_app,lx];lia
   ·rw[show e0.length=0 from by decide +kernel];lia
  refine gD (ρ':=[.fr (.scr ns),.ow (.lst (mD (stP ns i).1)),.fr (.int (stP ns i).2),.fr (.int (0+(i:Int)*3)),.fr (.ints g),.fr (.int o),.fr (.str p1)]) rfl ?_;refine⟨λρ=>ρ=[.fr (.scr ns),.ow (.lst (mD (stP ns i).1)),.fr (.int (stP ns i).2),.fr (.int (0+(i:Int)*3)),.fr (.ints g),.fr (.int o),.fr (.str (iy (qP ns i)))],⟨⟨rfl,tJ⟩,λq=>?_,λq=>?_⟩,?_⟩
  ·have q:o > 1:=q;refine⟨⟨⟨rfl,tJ,?_⟩,⟨rfl,uH ol⟩,?_⟩,λp2 ep2=>?_⟩
   ·show p1.length+("^":Str).length<=sizeLine;rw[lx,aB];lia
   ·show(p1++("^":Str)).length+(gm o).length<=sizeLine;rw[len_app,lx,aB];lia
   ·replace ep2:p2=p1++"^"++gm o:=ep2;rw[g8]at ep2;rw[ak q,<- ep2]at ep;rw[ep];rfl
  ·have q:¬o > 1:=q;rw[ai q,lY]at ep;rw[ep]
  rintro ρ rfl;refine⟨⟨⟨rfl,rfl,by show(iy (qP ns i)).length<=sizeLine;rw[aB];lia⟩,tJ⟩,λz ez=>?_⟩;replace ez:z=(stP ns i).2+((iy (qP ns i)).length:Int)+3:=ez;refine gD (ρ':=[.fr (.scr ns),.ow (.lst (mD (stP ns i).1)),.fr (.int z),.fr (.int (0+(i:Int)*3)),.fr (.ints g),.fr (.int o),.fr (.str (iy (qP ns i)))]) rfl ?_;refine⟨⟨rfl,tJ⟩,λq=>?_,λq=>?_⟩
  ·have q:z<=3200:=q;refine⟨rfl,rfl,?_,?_⟩
   ·show(mD (stP ns i).1).length<sizeLine;unfold mD;rw[ag,ag,aB];lia
   ·have e2:mD (stP ns (i+1)).1=mD (stP ns i).1++[.str (iy (qP ns i))]:=by rw[BJ ez q];unfold mD;rw[bq,bq];rfl
    refine⟨.fr (.int (0+(i:Int)*3)),.fr (.ints g),.fr (.int o),.fr (.str (iy (qP ns i))),?_⟩;rw[e2,BJ ez q];rfl
  ·have q:¬z<=3200:=q;refine⟨.fr (.int (0+(i:Int)*3)),.fr (.ints g),.fr (.int o),.fr (.str (iy (qP ns i))),?_⟩;rw[Dy ez q]
 rintro ρ ⟨a,b,d,e,rfl⟩;exact⟨rfl,rfl⟩
theorem Ox {xs:List PV}{k:Nat}(h:k<=xs.length):lM xs none (some (k:Int))=xs.take k:=by unfold lM;rw[HT.sIx_none,HT.sIx_nat,dy,Nat.sub_zero,Nat.min_eq_left h]
theorem Hv {xs:List PV}{k:Nat}(h:k<=xs.length):lM xs (some (k:Int)) none=xs.drop k:=by unfold lM;rw[HT.sIx_none,HT.sIx_nat,Nat.min_eq_left h];exact cu (by rw[df];exact aw _)
theorem vG (ts:Ls):(ts.map PV.str).map yL=ts:=by rw[cy];exact(cr λt _=>rfl).trans (eL ts)
def nG (ps:List Str):Nat:=(ps.map λp=>p.length+3).sum
theorem um (a b:Ls):nG (a++b)=nG a+nG b:=by unfold nG;rw[bq,List.sum_append]
theorem zu:∀{ps:Ls} {p:Str},p∈ps->p.length<=nG ps
 |q::r,p,h=>by
  have e:nG (q::r)=q.length+3+nG r:=rfl;rw[e];rcases aq.mp h with rfl|h
  ·lia
  ·have:=zu h;lia
theorem xN (l:List PV):wN l=nG (l.map iy):=by unfold wN nG;rw[cy];rfl
theorem M6 (l:List PV)(k:Nat):nG ((l.take k).map iy)+nG ((l.drop k).map iy)=wN l:=by rw[xN,<- um,<- bq,cV]
theorem MF (l:List PV)(k:Nat):((l.take k).map iy).length+((l.drop k).map iy).length=l.length:=by rw[<- ar,<- bq,cV,ag]
theorem vD {ps:Ls}(h42:∀p∈ps,42∉p.cps.toList):(PySem.Txt.join " * " ps).length<=nG ps/\(PySem.Txt.join " * " ps).cps.toList.count 42<=ps.length:=by
 have a:=Ha (ps.map λp=>p.cps.toList);have b:=Aa (ps.map λp=>p.cps.toList) λp hp=>by obtain⟨q,hq,rfl⟩:=bw.mp hp;exact h42 q hq
 rw[ir,pI];rw[ag]at b;refine⟨aA a (fi ?_),b⟩;rw[cy];exact congrArg List.sum (cr λp _=>by show p.cps.toList.length+3=p.length+3;rw[ir])
theorem Ko:(" * ":Str).length<=1000:=by decide +kernel
theorem Rh {ps:Ls}(h1:ps.length<=1000)(h2:nG ps<=10000):(" * ":Str).length<=1000/\(ps.map PV.str).length<=1000/\∀q∈ps.map PV.str,∃t,q=.str t/\t.length<=10000:=
 ⟨Ko,by rw[ag];exact h1,λq hq=>by
  obtain⟨t,ht,rfl⟩:=bw.mp hq;exact⟨t,rfl,aA (zu ht) h2⟩⟩
theorem xf {A B:List PV}(h:(A++B).length<=1000):A.length+B.length<=sizeLine:=by rw[ar]at h;rw[aB];lia
theorem JB (c:Int):42∉(gm c).cps.toList:=by
 rw[mU];intro h;rcases aV.mp h with h|h
 ·split at h
  ·exact absurd (aN.mp h) (by decide)
  ·cases h
 ·exact(mW _ _ h).2.1 rfl
theorem wM {l:List PV}:∀p∈l.map iy,42∉p.cps.toList:=λp hp=>by obtain⟨q,_,rfl⟩:=bw.mp hp;exact Dw q
theorem Nh {t:Str}(h:t∈jk):Mh t=true/\42∉t.cps.toList/\t.length<=200:=by have:=bc.mp Py t h;rw[bA,bA]at this;refine⟨this.1.1,λz=>?_,bQ this.2⟩;have h2:=this.1.2;rw[fx.mpr z]at h2;cases h2
theorem M5 {t:Str}(h:t∈lA):Jx t=true/\42∉t.cps.toList/\t.length<=200:=by have:=bc.mp PP t h;rw[bA,bA]at this;refine⟨this.1.1,λz=>?_,bQ this.2⟩;have h2:=this.1.2;rw[fx.mpr z]at h2;cases h2
theorem OD:rR.all (λt=>decide (t.length<=10) && decide (t.cps.toList.count 42<=10))=true:=by decide +kernel
def Good (cBP:Addr)(o:Str):Prop:=(o.length<=10000/\o.cps.toList.count 42<=500)/\jU cBP o=.err cBP
def Il (c:Int)(l:List PV)(k:Nat)(u:Str):List Str:=(gm c::(l.take k).map iy)++[u]++(l.drop k).map iy
theorem MP {c:Int}{l:List PV}{k:Nat}{u:Str}(cl:(gm c).length<=111)(hs:wN l<=3200)(hl:l.length<=22)(hu:u.length<=200):(Il c l k u).length<=30/\nG (Il c l k u)<=4000:=by have h1:=M6 l k;have h2:=MF l k;unfold Il;rw[um,um,ar,ar,aR];show _+1+1+_<=30/\(gm c).length+3+nG ((l.take k).map iy)+(u.length+3+0)+_<=4000;lia
theorem SQ {cBP:Addr}{c:Int}{l:List PV}{k:Nat}{u:Str}(cl:(gm c).length<=111)(hs:wN l<=3200)(hl:l.length<=22)(hu:u∈jk):Good cBP (PySem.Txt.join " * " (Il c l k u)):=by
 obtain⟨u1,u2,u3⟩:=Nh hu;have h42:∀p∈Il c l k u,42∉p.cps.toList:=λp hp=>by
  unfold Il at hp;rcases aV.mp hp with hp|hp
  ·rcases aV.mp hp with hp|hp
   ·rcases aq.mp hp with rfl|hp
    ·exact JB c
    ·exact wM p hp
   ·rw[aN.mp hp];exact u2
  ·exact wM p hp
 obtain⟨b1,b2⟩:=MP (k:=k) cl hs hl u3;obtain⟨j1,j2⟩:=vD h42;refine⟨⟨by lia,by lia⟩,zg (λz=>nomatch z) h42 (by lia) (.inr ⟨u,?_,u1⟩)⟩;show u∈((l.take k).map iy++[u])++(l.drop k).map iy;exact cg _ (aH _ aj)
theorem t8 {l:List PV}{u:Str}(hs:wN l<=3200)(hl:l.length<=22)(hu:u.length<=200):(u::l.map iy).length<=30/\nG (u::l.map iy)<=4000:=by rw[xN]at hs;rw[aR,ag];show l.length+1<=30/\u.length+3+nG (l.map iy)<=4000;lia
theorem Sy {cBP:Addr}{l:List PV}{u:Str}(hs:wN l<=3200)(hl:l.length<=22)(hu:u∈lA):Good cBP (PySem.Txt.join " * " (u::l.map iy)):=by
 obtain⟨u1,u2,u3⟩:=M5 hu;have h42:∀p∈u::l.map iy,42∉p.cps.toList:=λp hp=>by
  rcases aq.mp hp with rfl|hp
  ·exact u2
  ·exact wM p hp
 obtain⟨b1,b2⟩:=t8 hs hl u3;obtain⟨j1,j2⟩:=vD h42;exact⟨⟨by lia,by lia⟩,zg (λz=>nomatch z) h42 (by lia) (.inl u1)⟩
theorem Qp {l:List PV}(k:Nat)(hs:wN l<=3200)(hl:l.length<=22):(wN (l.take k)<=3200/\(l.take k).length<=22)/\wN (l.drop k)<=3200/\(l.drop k).length<=22:=by have h1:=M6 l k;rw[<- xN,<- xN]at h1;have h2:=MF l k;rw[ag,ag]at h2;lia
theorem RN {cBP:Addr}{c:Int}{l:List PV}{k:Nat}{J:Str}(cl:(gm c).length<=111)(hs:wN l<=3200)(hl:l.length<=22)(hJ:J∈rR) :
  (PySem.Txt.join " * " (gm c::(l.take k).map iy)).length<=4000/\(PySem.Txt.join " * " ("(x)"::(l.drop k).map iy)).length<=4000/\J.length<=10/\Good cBP (PySem.Txt.join " * " (gm c::(l.take k).map iy)++J++PySem.Txt.join " * " ("(x)"::(l.drop k).map iy)):=by
 obtain⟨⟨t1,t2⟩,d1,d2⟩:=Qp k hs hl;have x3:("(x)":Str).length=3:=by decide +kernel
 have xc:("(x)":Str).cps.toList=[40,120,41]:=by decide +kernel
 have hj:=bc.mp OD J hJ;rw[bA]at hj;have hj1:=bQ hj.1;have hj2:=bQ hj.2;obtain⟨a1,a2⟩:=t8 (u:=gm c) t1 t2 (by lia);obtain⟨b1,b2⟩:=t8 (u:="(x)") d1 d2 (by lia);obtain⟨j1,j2⟩:=vD (ps:=gm c::(l.take k).map iy) λp hp=>by
  rcases aq.mp hp with rfl|hp
  ·exact JB c
  ·exact wM p hp
 obtain⟨i1,i2⟩:=vD (ps:="(x)"::(l.drop k).map iy) λp hp=>by
  rcases aq.mp hp with rfl|hp
  ·rw[xc];decide
  ·exact wM p hp
 have ll:(PySem.Txt.join " * " (gm c::(l.take k).map iy)++J++PySem.Txt.join " * " ("(x)"::(l.drop k).map iy)).length<=10000:=by rw[len_app,len_app];lia
 refine⟨by lia,by lia,hj1,⟨ll,?_⟩,?_⟩
 ·rw[gB,gB,bS,bS];lia
 ·refine BK (c:=c) (l:=l.take k) (v:=[120,41]++((((l.drop k).map iy).map λp=>p.cps.toList).map λp=>iQ++p).flatten) hJ ll ?_;rw[gB,gB,pq,pI ("(x)"::_),bo,yh,xc];rfl
theorem RM {l:List PV}(k:Nat):(mD l).take k=((l.take k).map iy).map PV.str/\(mD l).drop k=((l.drop k).map iy).map PV.str:=by unfold mD;rw[List.map_take,List.map_take,List.map_drop,List.map_drop];exact⟨rfl,rfl⟩
theorem Gp.gd {q:PV}(h:Gp q):Gd q:=by
 obtain⟨g,o,rfl⟩:=h.ex;have e10:((10^100:Nat):Int)<=(10:Int)^110:=by decide +kernel
 have h1:g.length<=41:=h.ln;have h2:1<=o:=h.o1;have h3:o<=40:=h.o2;exact⟨g,o,rfl,by lia,λm hm=>cM (dj.mpr (h.bd m hm)) e10,by lia,by lia⟩
theorem Nk (T:Top K mg cFE cBP cBT cBA cBL cNO cHP cNW cNP cNN cK cW cRd){f:Addr}{fd:FuncData}(F:Fun K "law" "law" v6 f fd):FnOk P w K mg base CX0 14 f fd ["_law_script"] (qK K):=by
 refine RW (G:=qG cW) F jq (λcdv A outer s H E hr=>⟨_,(fV (gH (i:=1) jq.nd rfl (Or.inl rfl) (mJ T.qw (PN (pO T) hr (fW (iT (PN (mL T) hr (fW (xr 0) (fW fU gf))) fU) gf))))
 (fV (jE (i:=2) jq.nd rfl (Or.inl rfl) (xc (Ey T) hr (fW (xr 0) gf)))
 (fV (gH (i:=3) jq.nd rfl (Or.inl rfl) (qu (lW (pC (lW (mR (fW (xs 1) gf))) (my (xv 2))))))
 (fV (jW (i:=4) jq.nd rfl (Or.inl rfl) (iT (PN (mL T) hr (fW (xr 0) (fW fU gf))) fU))
 (fV (jW (i:=5) jq.nd rfl (Or.inl rfl) (gR (PN (mL T) hr (fW (xr 0) (fW fU gf))) (jY (yw T.kZ (xv 2)) fU)))
 (fV (jW (i:=6) jq.nd rfl (Or.inl rfl) (gR (PN (mL T) hr (fW (xr 0) (fW fU gf))) fU))
 (fV (jE (i:=7) jq.nd rfl (Or.inl rfl) (lW (pC (lW (mR (fW (xs 1) gf))) (lW (qt (my (xv 2)) tU (tH (xn 5)))))))
 (lr (gJ (lw (xn 6) fU)
 (fX (gH (i:=8) jq.nd rfl (Or.inl rfl) (qu (lW (pC (lW (pC (my (xv 7)) (lW (mR (fW (jN (xc (yx T) hr (fW (xn 4) gf))) gf))))) (lW (qt (my (xv 2)) (tH (xn 5)) tU)))))))
 gC)
 (lr (gJ (L2.PW.pt (ph (lw (xn 6) fU) (oH (lw (gR (xn 4) fU) fU))))
 (fX (gH (i:=8) jq.nd rfl (Or.inl rfl) (qu (lW (pC (lW (mR (fW (jN (xc (uD T) hr (fW (iT (xn 4) fU) gf))) gf))) (my (xv 2)))))))
 gC)
 (lr (gJ (L2.PW.pt (ph (lw (xn 6) fU) (oH (lw (gR (xn 4) fU) fU))))
 (fV (gH (i:=8) jq.nd rfl (Or.inl rfl) (qu (lW (pC (lW (mR (fW gF gf))) (lW (qt (my (xv 2)) (tH (xn 5)) tU))))))
 (fX (gH (i:=8) jq.nd rfl (Or.inl rfl) (ig (ig (qu (my (xv 7))) (jN (xc (yu T) hr (fW (iT (xn 4) fU) gf)))) (xs 8)))))
 gC)
 (lr (gJ (lw (xn 6) fU)
 (fX (gH (i:=8) jq.nd rfl (Or.inl rfl) (jN (xc (Cz T) hr (fW (xs 3) (fW (xn 4) gf))))))
 gC)
 (fV (jE (i:=9) jq.nd rfl (Or.inl rfl) (xc (w6 T) hr (fW (xs 8) gf)))
 (fV (gJ (L2.PW.pt (ph (KQ (xv 9)) (oH (L2.PW.pt (tZ (zj (xn 6) fU) (vq (xH (rC (Sg (v7 T) hr (fW (xv 9) (fW (xs 8) gf)))))))))))
 (fX (gr DN))
 gC)
 (fV (jE (i:=9) jq.nd rfl (Or.inl rfl) (xc (w6 T) hr (fW (xs 3) gf)))
 (fX (gr (Bv (Km (xv 9)) (pe_one (Sg (v7 T) hr (fW (xv 9) (fW (xs 3) gf))))))))))))))))))))),λns h63 hbits=>?_⟩)
 have hb:∀i,Builtin.Int.intBits (ns.getD i 0)<=2^20:=λi=>by
  by_cases c:i<ns.length
  ·exact hbits _ (FM.getD_mem c)
  ·rw[jB (by lia)];decide
 refine⟨⟨⟨⟨⟨⟨⟨rfl,tJ,tJ⟩,tJ,rfl,by show(0:Int)<=1;decide⟩,tJ,by show(0:Int)<3;decide,by show(3:Int).natAbs.log2<9000;decide +kernel⟩,tJ⟩,_,rfl,ud 3 (hb 1)⟩,?_⟩,λct ect=>?_⟩
 ·show(yG (ns.getD 1 0 / 3)).natAbs.log2<1920;exact uH (Jk _)
 replace ect:ct=gm (yG (ns.getD 1 0 / 3)):=ect;have cb:=I9 (ns.getD 1 0 / 3);have cl:=qT (Jk (ns.getD 1 0 / 3));generalize yG (ns.getD 1 0 / 3)=c at ect cb cl;have hc:c.natAbs<10^100:=by
  have e10:((10^100:Nat):Int)=(10:Int)^100:=by decide +kernel
  rw[<- e10]at cb;exact dj.mp cb
 clear cb;subst ect;refine gD (ρ':=[.fr (.scr ns),.fr (.str (gm c)),.un,.un,.un,.un,.un,.un,.un,.un]) rfl ?_;refine⟨⟨⟨rfl,tJ⟩,ns,rfl,h63,hbits⟩,λp ep=>?_⟩;replace ep:p=.lst (mD (Fz ns)):=ep;subst ep;obtain⟨_,hs,hl,hg⟩:=Cr ns (nP ns) (aw _);replace hs:wN (Fz ns)<=3200:=Int.ofNat_le.mp hs;replace hl:(Fz ns).length<=22:=aA hl (HN ns).1;replace hg:∀q∈Fz ns,Gp q:=hg;generalize Fz ns=l at hs hl hg ⊢;refine gD (ρ':=[.fr (.scr ns),.fr (.str (gm c)),.fr (.lst (mD l)),.un,.un,.un,.un,.un,.un,.un]) rfl ?_;obtain⟨pb1,pb2⟩:=t8 (u:=gm c) hs hl (by lia);have j0:=Rh (ps:=gm c::l.map iy) (by lia) (by lia);refine⟨⟨⟨⟨rfl,tJ⟩,⟨rfl,rfl⟩,xf (A:=[.str (gm c)]) (B:=mD l) j0.2.1⟩,j0⟩,λt et=>?_⟩;replace et:t=jy c l:=by rw[<- pq,<- vG (gm c::l.map iy)];exact et
 subst et;clear j0;refine gD (ρ':=[.fr (.scr ns),.fr (.str (gm c)),.fr (.lst (mD l)),.fr (.str (jy c l)),.un,.un,.un,.un,.un,.un]) rfl ?_;refine⟨⟨⟨⟨rfl,tJ,tJ⟩,tJ,rfl,by show(0:Int)<=2;decide⟩,tJ,by show(0:Int)<3;decide,by show(3:Int).natAbs.log2<9000;decide +kernel⟩,λce ece=>?_⟩;replace ece:ce=ns.getD 2 0 / 3:=ece;have ceb:Builtin.Int.intBits ce<=2^20:=by rw[ece];exact ud 3 (hb 2)
 clear ece;refine gD (ρ':=[.fr (.scr ns),.fr (.str (gm c)),.fr (.lst (mD l)),.fr (.str (jy c l)),.fr (.int ce),.un,.un,.un,.un,.un]) rfl ?_;refine⟨⟨⟨⟨rfl,tJ,tJ⟩,tJ,rfl,by show(0:Int)<=3;decide⟩,⟨⟨rfl,tJ⟩,tJ⟩,by show(0:Int)<((mD l).length:Int)+1;lia⟩,λa ea=>?_⟩;replace ea:a=ns.getD 3 0 % (((mD l).length:Int)+1):=ea;have a1:0<=a:=by rw[ea];exact aK _ (by lia)
 have a2:a<((mD l).length:Int)+1:=by rw[ea];exact aG _ (by lia)
 clear ea;obtain⟨k,rfl⟩:=bH a1;have hk:k<=(mD l).length:=by lia
 clear a1 a2;refine gD (ρ':=[.fr (.scr ns),.fr (.str (gm c)),.fr (.lst (mD l)),.fr (.str (jy c l)),.fr (.int ce),.fr (.int (k:Int)),.un,.un,.un,.un]) rfl ?_;refine⟨⟨⟨⟨rfl,tJ,tJ⟩,tJ,rfl,by show(0:Int)<=2;decide⟩,tJ,by show(0:Int)<3;decide⟩,λwy ewy=>?_⟩;have w0:0<=wy/\wy<3:=by rw[show wy=ns.getD 2 0 % 3 from ewy];exact⟨aK _ (by decide),aG _ (by decide)⟩
 clear ewy;obtain⟨td1,td2⟩:=RM (l:=l) k;rw[<- Ox hk]at td1;rw[<- Hv hk]at td2;obtain⟨⟨tk1,tk2⟩,dr1,dr2⟩:=Qp k hs hl;obtain⟨tb1,tb2⟩:=t8 (u:=gm c) tk1 tk2 (by lia);refine gD (ρ':=[.fr (.scr ns),.fr (.str (gm c)),.fr (.lst (mD l)),.fr (.str (jy c l)),.fr (.int ce),.fr (.int (k:Int)),.fr (.int wy),.un,.un,.un]) rfl ?_;have eah:[PV.str (gm c)]++lM (mD l) none (some (k:Int))=(gm c::(l.take k).map iy).map PV.str:=by rw[td1];rfl
 refine⟨⟨⟨rfl,tJ⟩,⟨⟨rfl,rfl⟩,tJ,rfl⟩,xf (A:=[.str (gm c)]) (B:=lM (mD l) none (some (k:Int))) ?_⟩,λp ep=>?_⟩
 ·rw[eah,ag];lia
 replace ep:p=.lst ((gm c::(l.take k).map iy).map PV.str):=by rw[<- eah];exact ep
 subst ep;clear eah;refine gD (ρ':=[.fr (.scr ns),.fr (.str (gm c)),.fr (.lst (mD l)),.fr (.str (jy c l)),.fr (.int ce),.fr (.int (k:Int)),.fr (.int wy),.fr (.lst ((gm c::(l.take k).map iy).map PV.str)),.un,.un]) rfl ?_;refine⟨λρ=>∃x,ρ=[.fr (.scr ns),.fr (.str (gm c)),.fr (.lst (mD l)),.fr (.str (jy c l)),.fr (.int ce),.fr (.int (k:Int)),.fr (.int wy),.fr (.lst ((gm c::(l.take k).map iy).map PV.str)),x,.un]/\(wy=0->∃o,x=.fr (.str o)/\Good cBP o),⟨⟨rfl,tJ⟩,λq=>?_,λq=>⟨.un,rfl,λz=>absurd z q⟩⟩,?_⟩
 ·have oin:=Pq ce;obtain⟨p1,p2⟩:=MP (c:=c) (k:=k) (u:=Cp ce) cl hs hl (Nh oin).2.2;have eX:((gm c::(l.take k).map iy).map PV.str++[PV.str (Cp ce)])++lM (mD l) (some (k:Int)) none=(Il c l k (Cp ce)).map PV.str:=by rw[td2];unfold Il;rw[bq,bq];rfl
  refine⟨⟨⟨⟨⟨rfl,rfl⟩,⟨⟨⟨⟨rfl,tJ⟩,ce,rfl⟩,rfl⟩,tJ⟩,xf (A:=(gm c::(l.take k).map iy).map PV.str) (B:=[PV.str (Cp ce)]) ?_⟩,⟨⟨rfl,rfl⟩,rfl,tJ⟩,xf (A:=(gm c::(l.take k).map iy).map PV.str++[PV.str (Cp ce)]) (B:=lM (mD l) (some (k:Int)) none) ?_⟩,?_⟩,λo eo=>⟨.fr (.str o),rfl,λ_=>⟨o,rfl,?_⟩⟩⟩
  ·rw[ar,ag];show _+1<=1000;lia
  ·rw[eX,ag];lia
  ·have:=Rh (ps:=Il c l k (Cp ce)) (by lia) (by lia);rw[<- eX]at this;exact this
  ·replace eo:o=PySem.Txt.join " * " (Il c l k (Cp ce)):=by rw[<- vG (Il c l k (Cp ce)),<- eX];exact eo
   rw[eo];exact SQ cl hs hl oin
 rintro ρ ⟨x,rfl,hx⟩;refine⟨λρ=>∃x,ρ=[.fr (.scr ns),.fr (.str (gm c)),.fr (.lst (mD l)),.fr (.str (jy c l)),.fr (.int ce),.fr (.int (k:Int)),.fr (.int wy),.fr (.lst ((gm c::(l.take k).map iy).map PV.str)),x,.un]/\(wy=0\/(wy=1/\ce % 2=0)->∃o,x=.fr (.str o)/\Good cBP o),⟨⟨⟨rfl,tJ⟩,λ_=>⟨⟨rfl,tJ,by show(0:Int)<2;decide⟩,tJ⟩⟩,λq=>?_,λq=>⟨x,rfl,λz=>z.elim hx λy=>absurd y q⟩⟩,?_⟩
 ·have oin:=O3 (ce / 2);obtain⟨p1,p2⟩:=t8 (u:=Gz (ce / 2)) hs hl (M5 oin).2.2;have j1:=Rh (ps:=Gz (ce / 2)::l.map iy) (by lia) (by lia);refine⟨⟨⟨⟨⟨⟨⟨⟨rfl,tJ,by show(0:Int)<2;decide,by show(2:Int).natAbs.log2<9000;decide +kernel⟩,tJ⟩,ce / 2,rfl⟩,rfl⟩,tJ⟩,⟨rfl,rfl⟩,xf (A:=[PV.str (Gz (ce / 2))]) (B:=mD l) j1.2.1⟩,j1⟩,λo eo=>⟨.fr (.str o),rfl,λ_=>⟨o,rfl,?_⟩⟩⟩;replace eo:o=PySem.Txt.join " * " (Gz (ce / 2)::l.map iy):=by rw[<- vG (Gz (ce / 2)::l.map iy)];exact eo
  rw[eo];exact Sy hs hl oin
 clear hx x;rintro ρ ⟨x,rfl,hx⟩;refine⟨λρ=>∃x,ρ=[.fr (.scr ns),.fr (.str (gm c)),.fr (.lst (mD l)),.fr (.str (jy c l)),.fr (.int ce),.fr (.int (k:Int)),.fr (.int wy),.fr (.lst ((gm c::(l.take k).map iy).map PV.str)),x,.un]/\(wy<2->∃o,x=.fr (.str o)/\Good cBP o),⟨⟨⟨rfl,tJ⟩,λ_=>⟨⟨rfl,tJ,by show(0:Int)<2;decide⟩,tJ⟩⟩,λq=>?_,λq=>⟨x,rfl,λz=>hx ?_⟩⟩,?_⟩
 ·have oin:=PQ (ce / 2);obtain⟨g1,g2,g3,g4⟩:=RN (cBP:=cBP) (c:=c) (l:=l) (k:=k) cl hs hl oin;have x3:("(x)":Str).length=3:=by decide +kernel
  obtain⟨p1,p2⟩:=t8 (u:="(x)") dr1 dr2 (by lia);have eX:[PV.str "(x)"]++lM (mD l) (some (k:Int)) none=(("(x)":Str)::(l.drop k).map iy).map PV.str:=by rw[td2];rfl
  refine⟨⟨⟨⟨tJ,tJ⟩,⟨⟨rfl,rfl⟩,rfl,tJ⟩,xf (A:=[PV.str "(x)"]) (B:=lM (mD l) (some (k:Int)) none) ?_⟩,?_⟩,λo1 eo1=>?_⟩
  ·rw[eX,ag];lia
  ·have:=Rh (ps:=("(x)":Str)::(l.drop k).map iy) (by lia) (by lia);rw[<- eX]at this;exact this
  replace eo1:o1=PySem.Txt.join " * " ("(x)"::(l.drop k).map iy):=by rw[<- vG ("(x)"::(l.drop k).map iy),<- eX];exact eo1
  rw[<- eo1]at g2 g4;have ejn:PySem.Txt.join " * " (((gm c::(l.take k).map iy).map PV.str).map yL)=PySem.Txt.join " * " (gm c::(l.take k).map iy):=by rw[vG]
  generalize PySem.Txt.join " * " (gm c::(l.take k).map iy)=o0 at g1 g4 ejn;refine gD (ρ':=[.fr (.scr ns),.fr (.str (gm c)),.fr (.lst (mD l)),.fr (.str (jy c l)),.fr (.int ce),.fr (.int (k:Int)),.fr (.int wy),.fr (.lst ((gm c::(l.take k).map iy).map PV.str)),.fr (.str o1),.un]) rfl ?_;refine⟨⟨⟨⟨⟨rfl,rfl⟩,Rh (by lia) (by lia)⟩,⟨⟨⟨⟨rfl,tJ,by show(0:Int)<2;decide,by show(2:Int).natAbs.log2<9000;decide +kernel⟩,tJ⟩,ce / 2,rfl⟩,rfl⟩,?_⟩,rfl,?_⟩,λo eo=>⟨.fr (.str o),rfl,λ_=>⟨o,rfl,?_⟩⟩⟩
  ·show(PySem.Txt.join " * " (((gm c::(l.take k).map iy).map PV.str).map yL)).length+(Qd (ce / 2)).length<=sizeLine;rw[ejn,aB];lia
  ·show(PySem.Txt.join " * " (((gm c::(l.take k).map iy).map PV.str).map yL)++Qd (ce / 2)).length+o1.length<=sizeLine;rw[ejn,len_app,aB];lia
  ·replace eo:o=o0++Qd (ce / 2)++o1:=by rw[<- ejn];exact eo
   rw[eo];exact g4
 ·have q:¬(wy=1/\ce % 2=1):=q;lia
 clear hx x;rintro ρ ⟨x,rfl,hx⟩;have tx:(jy c l).length<=4000/\(jy c l).cps.toList.count 42<=30:=by
  have:=vD (ps:=gm c::l.map iy) λp hp=>by
   rcases aq.mp hp with rfl|hp
   ·exact JB c
   ·exact wM p hp
  rw[pq]at this;exact⟨aA this.1 pb2,aA this.2 pb1⟩
 refine⟨λρ=>∃o,ρ=[.fr (.scr ns),.fr (.str (gm c)),.fr (.lst (mD l)),.fr (.str (jy c l)),.fr (.int ce),.fr (.int (k:Int)),.fr (.int wy),.fr (.lst ((gm c::(l.take k).map iy).map PV.str)),.fr (.str o),.un]/\(o.length<=10000/\o.cps.toList.count 42<=500)/\(wy<2->jU cBP o=.err cBP),⟨⟨rfl,tJ⟩,λq=>?_,λq=>?_⟩,?_⟩
 ·have q:wy=2:=q;refine⟨⟨⟨⟨rfl,rfl,tJ⟩,jy c l,ce,rfl,tx.1,ceb⟩,rfl⟩,λo eo=>⟨o,rfl,?_,λz=>by lia⟩⟩;replace eo:o=K7 (jy c l) ce:=eo;have:=RZ (jy c l) ce;rw[eo];lia
 ·have q:¬wy=2:=q;obtain⟨o,rfl,g1,g2⟩:=hx (by lia);exact⟨o,rfl,g1,λ_=>g2⟩
 clear hx x;rintro ρ ⟨o,rfl,ob,hw⟩;refine⟨⟨⟨rfl,tJ⟩,o,rfl,ob.1,ob.2⟩,λp ep=>?_⟩;replace ep:p=GX (jU cBP o):=ep;have key:p=.non\/(¬wy<2/\∃c' l',p=.tup [.int c',.lst l']/\c'.natAbs<10^100/\l'.length<=30/\(∀q∈l',Gd q)/\jy c' l'=o):=by
  rcases tL (cBP:=cBP) ob.1 with e|⟨c',l',e,h1,h2,h3,h4,_⟩
  ·rw[e]at ep;exact .inl ep
  ·refine .inr ⟨λz=>?_,c',l',?_,h3,by lia,h4,h1⟩
   ·have:=hw z;rw[e]at this;cases this
   ·rw[e]at ep;exact ep
 clear ep;refine gD (ρ':=[.fr (.scr ns),.fr (.str (gm c)),.fr (.lst (mD l)),.fr (.str (jy c l)),.fr (.int ce),.fr (.int (k:Int)),.fr (.int wy),.fr (.lst ((gm c::(l.take k).map iy).map PV.str)),.fr (.str o),.fr p]) rfl ?_;refine⟨⟨⟨rfl,?_⟩,λq1=>⟨⟨rfl,tJ⟩,λq2=>⟨⟨rfl,rfl,tJ⟩,?_⟩⟩⟩,λq=>?_,λ_=>?_⟩
 ·show Ln p;rcases key with rfl|⟨_,c',l',rfl,_⟩
  ·exact tJ
  ·exact tJ
 ·rcases key with rfl|⟨_,c',l',rfl,h1,h2,h3,_⟩
  ·exact absurd rfl q1
  ·exact⟨c',l',o,rfl,h1,h2,h3⟩
 ·exfalso;rcases key with rfl|⟨y,c',l',rfl,h1,h2,h3,h4⟩
  ·exact q.1 rfl
  ·rcases q.2 with z|z
   ·exact y z
   ·have z:¬decide (jy c' l'=o)=true:=z;exact z (aW h4)
 have eR:jU cBP (jy c l)=.val (.tup [.int c,.lst l]):=CK hc (by lia) hg;refine⟨⟨⟨rfl,tJ⟩,jy c l,rfl,aA tx.1 (by decide),aA tx.2 (by decide)⟩,λp2 ep2=>?_⟩;replace ep2:p2=.tup [.int c,.lst l]:=by have ep2:p2=GX (jU cBP (jy c l)):=ep2;rw[eR]at ep2;exact ep2
 subst ep2;refine gD (ρ':=[.fr (.scr ns),.fr (.str (gm c)),.fr (.lst (mD l)),.fr (.str (jy c l)),.fr (.int ce),.fr (.int (k:Int)),.fr (.int wy),.fr (.lst ((gm c::(l.take k).map iy).map PV.str)),.fr (.str o),.fr (.tup [.int c,.lst l])]) rfl ?_;refine⟨⟨⟨rfl,tJ⟩,λ_=>⟨⟨rfl,rfl,tJ⟩,c,l,jy c l,rfl,hc,by lia,λq hq=>(hg q hq).gd⟩⟩,?_⟩;show PV.bl (decide (¬false=true/\decide (jy c l=jy c l)=true))=PV.bl true;rw[aW (p:=jy c l=jy c l) rfl];rfl
end
end gY
theorem PySem.Challenge.cw_factorforge_k83_product_refused_holds : PySem.Challenge.rw_factorforge_k83_product_refused.Holds :=
  gY.pre fun T => gY.Nk T
