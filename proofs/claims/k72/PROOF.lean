import PyProof.Rows.All
import Wide.All
import KE.KNestM
import KE.KUnpack
import KE.KEqDeep
import KE.KPassesOwn
import KE.RegKIsAll
import KE.RegKTryMore
import OpenK.KOwn
import KE.KItem
import KE.KNest
import KE.KLam
import KE.KSortKey
import KE.KSortTup
import KE.KRevIter
import Wide.FinOn
import Lean
import PyProof.EqAt
import PyProof.EqKinds
import PyProof.TupleCall
import PyProof.Rows.RuleB_lshift
import PyProof.Rows.RuleB_rshift
import PyProof.Rows.RuleB_and
import KE.KBits
import PySem.Challenge.RW_factorforge_k72_whole_no_paper_for_a_who
set_option Elab.async false
set_option linter.all false
set_option compiler.extract_closed false
set_option maxRecDepth 100000
set_option maxHeartbeats 4000000
local macro_rules | `(tactic| lia) => `(tactic| lia -matchEqs -splitMatch)
local macro_rules | `(tactic| omega) => `(tactic| lia)
noncomputable section
theorem rz {a:α}:a=a:=rfl
theorem k4 {a:α}:a=a\/b:=Or.inl rfl
abbrev Li:=List Int
abbrev Fg:=PySem.W.Frag
abbrev Mg:=PySem.Str->Option PySem.Value
abbrev Lv:=List PySem.Value
abbrev Ls:=List PySem.Str
open _root_.List renaming length_map→ac,getElem?_eq_getElem→ae,mem_singleton→af,getElem?_map→ag,getElem?_eq_some_iff→ah,mem_cons_of_mem→ai,mem_cons_self→az,mem_map→aB,length_range→aC,size_toArray→aD,mem_cons→aG,map_congr_left→aO,mem_of_getElem?→aP,length_replicate→aR,length_append→aS,mem_append_right→aT,map_cons→bi,map_map→bj,length_set→bn,getElem?_eq_none→bu,map_append→bv,mem_range→bA,getElem?_append_left→bB,length_cons→bC,getElem?_append_right→bD,length_singleton→bI,filterMap_cons→bN,getElem_mem→bR,getElem?_range→bU,length_drop→bW,append_nil→bY,all_eq_true→b7,getElem_range→cq,any_eq_true→cr,length_take→cu,take_length→cw,getElem_map→cA,replicate_succ→cB,map_id→cC,mem_append→cF,getElem?_replicate→cI,mem_append_left→cM,getElem?_set_ne→cN,mem_iff_getElem→cO,flatten_cons→c8,of_mem_zip→dh,take_of_length_le→dk,length_dropLast→dF,getElem?_mapIdx→dH,length_zip→dN,foldl_append→dP,getElem?_set_self→dU,drop_eq_nil_of_le→dX,mem_filterMap→dY,dropLast_concat_getLast→dZ,zip_cons_cons→d6,mem_iff_getElem?→eh,getElem?_toArray→eB,ext_getElem?→eH,mapIdx_eq_zipIdx_map→eN,nodup_cons→fh,length_eq_zero_iff→fq,filter_cons_of_neg→ft,length_mapIdx→fv,range_succ→fw,sum_cons→fA,pairwise_singleton→fE,getElem_replicate→fG,length_filter_le→fR,lookup_cons→fU,ext_getElem→fV,getElem?_zipIdx→fX,map_eq_cons_iff→fY,mem_of_mem_take→f7,mem_of_mem_drop→f8,all_cons→gd,length_pos_iff→gm,map_set→gG,length_zipIdx→gH,filter_append→gJ,getElem?_drop→gN,mem_of_find?_eq_some→gR,getElem?_eq_none_iff→gS,getElem_append_right→gU,append_assoc→g5,getElem?_set→g7,map_dropLast→g9,getElem_append_left→hJ,reverse_cons→hX,map_drop→hZ,filter_cons_of_pos→ib,getLast_eq_getElem→ij,getElem_zip→iy,getLast_mem→iz,dropWhile_sublist→iB,mem_filter→iC,dropLast_subset→iR,count_cons_self→iT,reverse_append→iX,length_reverse→i5,map_nil→i9
open _root_.Nat renaming le_trans→aj,le_refl→ao,pow_lt_pow_right→aI,lt_of_le_of_lt→aK,lt_of_lt_of_le→aQ,pow_le_pow_right→aW,ne_of_lt→aZ,le_of_lt→a7,zero_le→bp,lt_irrefl→cE,lt_succ_self→dA,not_lt_zero→dQ,ne_of_gt→d8,le_of_ble_eq_true→eA,le_add_right→eP,one_le_two_pow→fB,pow_pos→fI,log2_lt→gw,one_lt_two_pow→gP,mul_le_mul→gV,le_of_not_lt→iq,min_eq_right→iu,min_eq_left→iG,mul_le_mul_left→iZ,le_of_eq→ja,add_comm→jb,mul_comm→jc,zero_add→je,sub_zero→jf,gcd_comm→jk,pow_succ→jm,le_succ→jn
open _root_.PySem.PassesOwn renaming never→aw
open _root_.PySem.Heap renaming get?_push_of_some→aA,lt_size→aE,get?_push_size→bh,get?_update_other→bO,get?_update_self→ee,get?_none_of_le→fW
open _root_.Int renaming mul_le_mul_of_nonneg_left→aH,emod_lt_of_pos→aV,mul_zero→aX,mul_le_mul_of_nonneg_right→aY,emod_nonneg→a8,dvd_mul_of_dvd_right→be,dvd_add→br,one_mul→bw,emod_eq_of_lt→bx,pow_succ→bE,dvd_neg→bF,add_zero→bJ,dvd_zero→bK,dvd_mul_of_dvd_left→bM,mul_assoc→bQ,emod_eq_zero_of_dvd→bV,zero_mul→bX,mul_comm→bZ,toNat_natCast→ce,le_refl→ck,mul_nonpos_of_nonneg_of_nonpos→cD,mul_one→cG,dvd_of_emod_eq_zero→cL,sub_self→cQ,mul_sub→cT,dvd_trans→cU,emod_eq_emod_iff_emod_sub_eq_zero→c6,mul_left_comm→da,dvd_sub_self_of_emod_eq→dj,fdiv_eq_ediv_of_nonneg→dw,natAbs_dvd_natAbs→dC,pow_pos→dD,emod_emod_of_dvd→dG,sub_zero→dR,natAbs_mul→dS,pow_zero→eC,zero_add→eE,mul_nonneg→eO,add_mul→eS,dvd_refl→eX,zero_emod→fk,dvd_sub→fH,mul_emod→fO,mul_neg→gx,ediv_nonneg→gy,mul_add→gz,mul_eq_zero→gA,natCast_nonneg→gF,gcd_zero_right→gK,le_of_lt→gL,ofNat_lt→gO,mul_le_mul→gT,le_of_mul_le_mul_left→gW,natAbs_ediv_le_natAbs→gX,gcd_dvd_right→hW,sub_mul→ie,eq_ofNat_of_zero_le→ik,gcd_dvd_left→iw,neg_one_mul→iJ,emod_add_mul_ediv→iK,natCast_pow→iM,mul_ediv_cancel'→iQ,natAbs_pow→iU,mul_ediv_cancel→i6,le_of_dvd→i7,add_comm→jd,emod_def→jg,gcd_comm→jh,zero_dvd→jj
open _root_.PySem renaming wpAny_bind→aM,wpAny_pure→bG,wpAny_Call_Name_kw→bT,sizeLine_eq→cX,wpAny_loadName_local→cZ,wpAny_truthy_bool→c7,mem_of_lookup→di,wpAny_mono→dJ,wpAny_passesOwn→dM,wpAny_newFunctionEnv→eK,wpAny_holding→fe,codeAny_mono→fJ,wpAny_standAt→f9,wpAny_Name→ge,wpAny_call→gf,wpAny_execs_nil→gu,wpAny_Constant_int→gD,wpAny_newObj_type→gY,wpAny_pyIter_list→gZ,wpAny_eqBool_int→io,seqIndex_neg→iE,call_meets→iN,seqIndex_of→iW
open _root_.Bool renaming false_ne_true→aU,decide_eq_true→cS,and_eq_true_iff→cY,eq_iff_iff→df,and_eq_true→dz,beq_eq_decide_eq→iF
open _root_.Classical renaming not_not→bH,byContradiction→dE,choose_spec→fS
open _root_.PySem.W renaming mg_of→b8,callWith_K→dB,kla_callFunE→fZ,kla_codeExpr→f6,plainGet_of→gv,cellsFrom_some→iA,methodCall_KW→iD,ke_canLayAll0→iI,codeHd_of_K→iV
open _root_.PySem.F renaming plainAttrs_list→cj,slot_list_append→eY,type_list_append→eZ,slot_list_pop→fP,type_list_pop→fQ,excBase_ValueError→gB,slot_list_count→ii
open _root_.PyProof.Rows renaming callWith_type1→cH,callWith_kw→dO,subscriptTail_builtinR→dW,assignInOrder_cons→gE,listUpdate_at→ig,same_iff→iL
open _root_.Option renaming isSome_iff_exists→cV,map_eq_some_iff→dm,map_some→d7
open _root_.Ne renaming symm→de
open _root_.PySem.Calls renaming Name_function_global→du,loadGlobal_global→e8
open _root_.Array renaming getElem?_eq_some_iff→eJ,length_toList→gq,perm_iff_toList_perm→gC,toList_append→iY
open _root_.PySem.Heap.SameBut renaming update→eV
open _root_.PyProof renaming noPylong_of_log2→eW
open _root_.PySem.Obj renaming data_mapFields→fj,isFreed_of_fields→fN
open _root_.Nat.Coprime renaming pow_right→iH
open _root_.Eq renaming trans→iO
def aF:=@if_neg
def aJ:=@Option.some.inj
def aL:=@if_pos
def aN:=@decide_eq_false
def bc:=@decide_eq_true
def cJ:=@decide_eq_true_iff
def dI:=@of_decide_eq_true
def g6:=@decide_not
def i8:=@beq_iff_eq
def jo:=@dif_pos
def jp:=@if_false
local macro_rules | `(tactic| walk_at "v") => `(tactic| first|exact Or.inl rfl|exact Or.inr k4|exact Or.inr (Or.inr rfl))
local macro_rules | `(tactic| walk_at "w") => `(tactic| first|exact .inl rfl|exact .inr rfl|assumption)
theorem tT:True:=True.intro
theorem gQ {A:Type _}{l:List A}{i:Nat}{a:A}:l.getD i a=l[i]?.getD a:=List.getD_eq_getElem?_getD ..
theorem lP {A:Type _}{l:List A}(h:l≠[]):0<l.length:=gm.mpr h
section
open PySem PySem.W PyProof.Rows
abbrev k8:=PySem.Challenge.rw_factorforge_k72_whole_no_paper_for_a_who.row.toRowW
namespace jR
def top (i:Nat):Stmt:=PySem.Challenge.pw_factorforge_k72_whole_no_paper_for_a_who.main.body.getD i (.Pass ⟨0,0,0,0⟩)
end jR
def jR.view:PySem.Program:={ k8.prog with main:={ k8.prog.main with body:=[jR.top 0,jR.top 2,jR.top 3,jR.top 4,jR.top 5,jR.top 6,jR.top 7,jR.top 8,jR.top 10,jR.top 11,jR.top 12,jR.top 13,jR.top 14,jR.top 15,jR.top 16,jR.top 17,jR.top 18,jR.top 19,jR.top 21,jR.top 22,jR.top 23,jR.top 24,jR.top 25,jR.top 27,jR.top 28,jR.top 29,jR.top 30,jR.top 31,jR.top 32,jR.top 33,jR.top 34,jR.top 35,jR.top 36,jR.top 38,jR.top 39,jR.top 40,jR.top 41,jR.top 43,jR.top 44,jR.top 45,jR.top 46,jR.top 47,jR.top 49,jR.top 50,jR.top 51,jR.top 52,jR.top 54,jR.top 55,jR.top 57,jR.top 58,jR.top 59,jR.top 60,jR.top 61,jR.top 62,jR.top 63,jR.top 64,jR.top 65,jR.top 66,jR.top 67,jR.top 68,jR.top 69,jR.top 70,jR.top 72,jR.top 73,jR.top 74,jR.top 75,jR.top 76,jR.top 77,jR.top 78,jR.top 80,jR.top 81,jR.top 82,jR.top 83,jR.top 84,jR.top 86,jR.top 87,jR.top 88,jR.top 89,jR.top 91,jR.top 93,jR.top 94,jR.top 95,jR.top 97,jR.top 98,jR.top 99,jR.top 100,jR.top 101,jR.top 102,jR.top 103,jR.top 105,jR.top 106,jR.top 107,jR.top 108,jR.top 109,jR.top 110,jR.top 111,jR.top 112,jR.top 113,jR.top 114,jR.top 115,jR.top 116,jR.top 117,jR.top 118,jR.top 119,jR.top 120,jR.top 121,jR.top 122,jR.top 123,jR.top 124,jR.top 125,jR.top 126,jR.top 127,jR.top 128] } }
def X.trT (d:String->Option Builtin)(p:Program)(w:World)(a:Nat)(c:Option Value):Nat->SharedT->Thread->Option SharedT
 |0,_,_=>none
 |n+1,s,t=>match through t with
  |true=>some s
  |false=>match stepOk a c t with
   |false=>none
   |true=>match stepT (denote d) p w s t with
    |some (s',t')=>X.trT d p w a c n s' t'
    |none=>none
theorem X.X7 {e:String->Option Builtin}{p:Program}{w:World}{a:Nat}{c:Option Value}:∀{n:Nat} {s s':SharedT} {t:Thread},X.trT e p w a c n s t=some s' -> topRun e p w a c n s.abs t=some s'.abs
 |0,_,_,_,h=>by cases h
 |n+1,s,s',t,h=>by
  unfold X.trT at h;unfold topRun;cases g:through t with
  |true=>rw[g]at h;cases h;rfl
  |false=>
   rw[g]at h;cases f:stepOk a c t with
   |false=>rw[f]at h;cases h
   |true=>
    rw[f]at h;cases d:stepT (denote e) p w s t with
    |none=>rw[d]at h;cases h
    |some r=>obtain⟨i,j⟩:=r;rw[d]at h;rw[stepT_spec d];exact X.X7 h
def X.toT (s:Shared):SharedT:=⟨(s.heap.objs.toList.foldl (λ(x:BT×Nat) o=>(x.1.ins x.2 o,x.2+1)) (BT.nil,0)).1,s.heap.objs.size,s.heap.life,s.gens,s.drawn,s.toks,s.os⟩
def X.RT (t:String->Option Builtin)(p:Program)(w:World)(N:Nat):Option (Shared×SharedT):=(fencedOpening t p w N).bind λs=>(X.trT t p w s.heap.objs.size (s.heap.nsMap mainGlobals "__annotations__") N (X.toT s) (topStub p)).map λa=>(s,a)
def X.chk (p:Program)(s a:Shared):Bool:=(s.heap.isNs mainGlobals && s.gens.size == 0) && (staticsOk (importedModules p.main.body) s.heap a.heap && namesBound p a.heap && gensDone a && laidKept s.heap a.heap)
theorem X.Kd {p:Program}{w:World}{N:Nat}{A:Type}{f:Shared->A}{a:A}(h0:(fencedOpening treeTable p w N).map (λs=>(X.toT s).tree.list s.heap.objs.size)=(fencedOpening treeTable p w N).map (λs=>s.heap.objs.toList))
  (h:(X.RT treeTable p w N).map (λx=>(X.chk p x.1 x.2.abs,f x.2.abs))=some (true,a)):(openEnds treeTable p w N).map f=some a:=by
 unfold X.RT at h;unfold openEnds;cases e:fencedOpening treeTable p w N with
 |none=>rw[e]at h;cases h
 |some g=>
  rw[e]at h0 h;have z:(X.toT g).tree.list g.heap.objs.size=g.heap.objs.toList:=aJ h0;have y:(X.toT g).abs=g:=by obtain⟨⟨o,l⟩,k,i,t,n⟩:=g;show(⟨⟨((X.toT ⟨⟨o,l⟩,k,i,t,n⟩).tree.list o.size).toArray,l⟩,k,i,t,n⟩:Shared)=_;rw[z]
  have h:((X.trT treeTable p w g.heap.objs.size (g.heap.nsMap mainGlobals "__annotations__") N (X.toT g) (topStub p)).map λj=>(g,j)).map (λx=>(X.chk p x.1 x.2.abs,f x.2.abs))=some (true,a):=h;cases m:X.trT treeTable p w g.heap.objs.size (g.heap.nsMap mainGlobals "__annotations__") N (X.toT g) (topStub p) with
  |none=>rw[m]at h;cases h
  |some j=>
   rw[m]at h;have h:=aJ h;have c:=congrArg Prod.fst h;have d:=congrArg Prod.snd h;have c:X.chk p g j.abs=true:=c;have d:f j.abs=a:=d;have r:=X.X7 m;rw[y]at r;obtain⟨u,v⟩:=cY.mp c;show(topFrom treeTable p w N g).map f=some a;unfold topFrom;rw[u,r];show(match staticsOk (importedModules p.main.body) g.heap j.abs.heap && namesBound p j.abs.heap && gensDone j.abs && laidKept g.heap j.abs.heap with|true=>some j.abs|false=>none).map f=some a
   rw[v];exact congrArg some d
theorem X.both {S A B:Type}{o:Option S}{c:S->Bool}{f:S->A}{y:S->B}{g:A}{a:B}(k:o.map (λx=>(c x,f x))=some (true,g))(h:o.map y=some a):o.map (λx=>(c x,(f x,y x)))=some (true,(g,a)):=by
 cases o with
 |none=>cases h
 |some s=>have e:=aJ k;have d:=aJ h;have i:c s=true:=congrArg Prod.fst e;have j:f s=g:=congrArg Prod.snd e;show some (c s,(f s,y s))=_;rw[i,j,d]
def X.trQ (p:Program)(w:World)(a:Nat)(c:Option Value):Nat->SharedT->Thread->Option SharedT
 |0,_,_=>none
 |n+1,s,t=>match through t with
  |true=>some s
  |false=>match PySem.W.Fast.tw6613529449190102663 a c t with
   |false=>none
   |true=>match PySem.W.Fast.tw10156331382660048174 (PySem.W.Fast.tw11892475500146522536 PySem.W.Fast.tw14364793385576792824) p w s t with
    |some (s',t')=>X.trQ p w a c n s' t'
    |none=>none
def X.RQ (p:Program)(w:World)(N:Nat):Option (Shared×SharedT):=(fencedOpening treeTable p w N).bind λs=>(X.trQ p w s.heap.objs.size (s.heap.nsMap mainGlobals "__annotations__") N (X.toT s) (topStub p)).map λa=>(s,a)
theorem X.Xp {p:Program}{w:World}{a:Nat}{b:Option Value}:∀n s t,X.trT treeTable p w a b n s t=X.trQ p w a b n s t
 |0,_,_=>rfl
 |n+1,s,t=>by
  unfold X.trT X.trQ;rw[<- PySem.W.Fast.te6613529449190102663,<- PySem.W.Fast.te10156331382660048174,<- PySem.W.Fast.te11892475500146522536,<- PySem.W.Fast.te14364793385576792824];cases through t with
  |true=>rfl
  |false=>
   cases stepOk a b t with
   |false=>rfl
   |true=>
    cases stepT (denote treeTable) p w s t with
    |none=>rfl
    |some r=>exact X.Xp n r.1 r.2
theorem X.adE {p:Program}{w:World}{N:Nat}:X.RT treeTable p w N=X.RQ p w N:=by unfold X.RT X.RQ;congr 1;funext s0;rw[X.Xp]
def X.lk (s:SharedT)(a:Addr):Option Obj:=if a<s.n then alive ((s.tree.get a).getD default) else none
theorem X.ada (s:SharedT)(a:Addr):s.abs.heap.get? a=X.lk s a:=by
 unfold X.lk;by_cases h:a<s.n
 .rw[aL h];show(absHeap s.tree s.n s.life).get? a=_;unfold Heap.get?;rw[absHeap_at,aL h];generalize (s.tree.get a).getD default=o;obtain⟨c,d,e,sl⟩:=o;cases e<;>rfl
 .rw[aF h];exact abs_get_none h
theorem X.lks (s:SharedT)(as:List Addr):as.map s.abs.heap.get?=as.map (X.lk s):=aO λa _=>X.ada s a
theorem X.pr {S A B:Type}{o:Option S}{f:S->A}{g:S->B}{a:A}{b:B}(h:o.map f=some a)(c:o.map g=some b):o.map (λx=>(f x,g x))=some (a,b):=by
 cases o with
 |none=>cases h
 |some s=>exact congrArg some (Prod.ext (aJ h) (aJ c))
theorem X.an {S:Type}{o:Option S}{f g:S->Bool}(h:o.map f=some true)(a:o.map g=some true):o.map (λx=>f x && g x)=some true:=by
 cases o with
 |none=>cases h
 |some s=>exact congrArg some (cY.mpr ⟨aJ h,aJ a⟩)
theorem X.fs {S A B:Type}{o:Option S}{f:S->A}{g:S->B}{a:A}{b:B}(h:o.map (λx=>(f x,g x))=some (a,b)):o.map f=some a:=by
 cases o with
 |none=>cases h
 |some s=>exact congrArg some (congrArg Prod.fst (aJ h))
theorem X.sn {S A B:Type}{o:Option S}{f:S->A}{g:S->B}{a:A}{b:B}(h:o.map (λx=>(f x,g x))=some (a,b)):o.map g=some b:=by
 cases o with
 |none=>cases h
 |some s=>exact congrArg some (congrArg Prod.snd (aJ h))
abbrev jR.Xq (s:Shared):=openSeen jR.view [] (importedModules k8.prog.main.body) (λs=>xlAt jR.view [] s && recOk (RowW.records k8) s) true s
theorem jR.h0:∀w,(fencedOpening treeTable k8.prog w 20000).map (λs=>(X.toT s).tree.list s.heap.objs.size)=(fencedOpening treeTable k8.prog w 20000).map (λs=>s.heap.objs.toList):=by intro w;kernel_rfl
theorem jR.acu:∀w,(X.RQ k8.prog w 20000).map (λx=>(X.chk k8.prog x.1 x.2.abs,seen ((recsOf jR.view).map (·.name)) (ownsOf jR.view) [] { x.2.abs with gens:=#[] }))=some ((true,expectedOf jR.view)):=by intro w;kernel_rfl
theorem jR.QM:∀w,(X.RQ k8.prog w 20000).map (λx=>(x.2.abs.heap.bltView,pinSeenD jR.view (drecsOf jR.view) x.2.abs,plainSeenD jR.view [] x.2.abs,clsSeenW jR.view [] x.2.abs))=some ((bltViewBooted,pinGoodD (drecsOf jR.view),plainGoodD jR.view [],clsGoodW jR.view [])):=by intro w;kernel_rfl
theorem jR.aeu:∀w,(X.RQ k8.prog w 20000).map (λx=>x.2.abs.heap.keysOk (looseW jR.view []) ((recsOf jR.view).map (·.name)) ((litsOf jR.view).map (·.1)) ((clssOf jR.view (looseW jR.view [])).map (·.name)))=some (true):=by intro w;kernel_rfl
theorem jR.aeK:∀w,(X.RQ k8.prog w 20000).map (λx=>x.2.abs.heap.accountedOkI (importedModules k8.prog.main.body))=some (true):=by intro w;kernel_rfl
theorem jR.adn:∀w,(X.RQ k8.prog w 20000).map (λx=>(x.2.abs.heap.isNs mainGlobals,x.2.abs.heap.isNs builtinsNs,tablesOk jR.view x.2.abs.heap,(xlAt jR.view [] x.2.abs && recOk (RowW.records k8) x.2.abs),(if true then x.2.abs.gens.size == 0 else !leftWithCleanup x.2.abs.gens)))=some ((true,true,true,true,true)):=by intro w;kernel_rfl
theorem jR.abU:∀w,(X.RQ k8.prog w 20000).map (λx=>tabsOk jR.view x.2.abs)=some (true):=by intro w;kernel_rfl
theorem jR.adO:∀w,(X.RQ k8.prog w 20000).map (λx=>plainSeenE jR.view (looseW jR.view []) x.2.abs)=some (plainGoodE jR.view (looseW jR.view [])):=by intro w;kernel_rfl
theorem jR.aa2:∀w,(X.RQ k8.prog w 20000).map (λx=>wideSeen jR.view x.2.abs)=some (wideGood jR.view):=by intro w;kernel_rfl
theorem jR.fin {A:Type}{y:Shared->A}{a:A}(w:World)(h:(X.RQ k8.prog w 20000).map (λx=>y x.2.abs)=some a):(openEnds treeTable k8.prog w 20000).map (λs=>(jR.Xq s,y s))=some (openGood jR.view [],a):=by refine X.Kd (f:=λs=>(jR.Xq s,y s)) (jR.h0 w) ?_;rw[X.adE];have c:=X.sn (jR.QM w);have d:=X.sn c;have t:=X.sn (jR.adn w);have e:=X.sn t;have g:=X.sn e;exact X.both (X.both (jR.acu w) (X.pr (X.fs (jR.QM w)) (X.pr (X.an (X.an (X.an (X.an (X.an (X.an (jR.aeu w) (jR.aeK w)) (X.fs (jR.adn w))) (X.fs t)) (X.fs e)) (X.fs g)) (X.sn g)) (X.pr (jR.abU w) (X.pr (X.fs c) (X.pr (jR.adO w) (X.pr (X.fs d) (X.pr (jR.aa2 w) (X.sn d))))))))) h
theorem jR.aey {K:Params->Frag}{as ts:List Addr}{e:∀P,as=(K P).map (·.1)}(w:World)(h:(X.RQ k8.prog w 20000).map (λx=>(as.map (X.lk x.2),ts.map (X.lk x.2)))=some ((K w.params).map (λp=>some p.2),ts.map λ_=>some (tabObj #[]))):(openEnds treeTable k8.prog w 20000).map (λs=>(jR.Xq s,Hook.obs (kmHook K as e ts) s))=some (openGood jR.view [],Hook.val (kmHook K as e ts) w):=by
 refine jR.fin w ?_;have q:(λx:Shared×SharedT=>(as.map x.2.abs.heap.get?,ts.map x.2.abs.heap.get?))=λx=>(as.map (X.lk x.2),ts.map (X.lk x.2)):=funext λx=>by rw[X.lks,X.lks]
 exact(congrArg (λf=>Option.map f _) q).trans h
end
namespace L2
open PySem PySem.Spec PyProof.Rows
abbrev Key:=Sum Int Str
inductive V where
 |non|bl (b:Bool)|int (i:Int)|str (x:Str)|byt (b:Array UInt8)|flt (b:UInt64)|ref (a:Addr)|ty (n:String)
 deriving DecidableEq
def RelV:V->Value->Prop
 | .non,u=>u=Value.none
 | .bl b,u=>u=Value.bool b
 | .int i,u=>∃t,u=Value.int i t
 | .str x,u=>∃t,u=Value.str x t
 | .byt b,u=>∃t,u=Value.bytes b t
 | .flt b,u=>∃t,u=Value.float b t
 | .ref a,u=>u=Value.ref a
 | .ty n,u=>u=Value.type n
abbrev Vals:List V->List Value->Prop:=Paired RelV
def RelO:Option V->Option Value->Prop
 |some v,some u=>RelV v u
 |none,none=>True
 |_,_=>False
def kV:Key->V
 | .inl i=>.int i
 | .inr x=>.str x
structure Ce where
 q:Str
 ps:Array Value
instance:HAppend Ce (Array Value) Ce:=⟨λt m=>⟨t.q,t.ps++m⟩⟩
def Bu (o:Obj)(q:Str):Prop:=∃v t,o.data=.fields v/\v[1]?=some (.str q t)
inductive HO where
 |lst (xs:List V)
 |tup (xs:List V)
 |ins (C dx:Addr) (fs:List (Str×V))
 |own (x:Addr)
 |frz (o:Obj) (u:HO)
 |tbl (ps:Ce)
 |ext (φ:Heap->Prop)
abbrev Hp:=Addr->Option HO
section
variable (P:Program)(w:World)
def ObjOk (P:Program)(w:World)(H:Hp)(h:Heap)(a:Addr):HO->Prop
 | .lst xs=>xs.length<=sizeLine/\∃(i:List Value) (n:Nat),Vals xs i/\h.get? a=some { cls:=.type "list",data:=.seq i.toArray n }
 | .tup xs=>xs.length<=sizeLine/\∃i:List Value,Vals xs i/\IsTup h a i.toArray
 | .ins C d fs=>H d=some (.own a)/\fs.length<=1000/\d≠a/\h.get? a=some (W.instObj C d) /\
   ∃m,h.Ns1 d m/\(∀f,RelO (fs.lookup f) (m f))/\PySem.Within m (fs.map (·.1))
 | .own _=>∃o,h.get? a=some o
 | .frz o u=>h.get? a=some o/\ObjOk P w H h a u
 | .tbl e=>h.get? a=some { cls:=.none,data:=.fields e.ps }/\TriplesOk e.ps.toList/\∀p j,codeAmong p e.ps.toList=some j->∃c y u,j=Value.ref c/\H c=some (.frz y u)/\Bu y e.q
 | .ext g=>g h/\(∃o,h.get? a=some o)/\∀r s:Heap,g r->(∀o,r.get? a=some o->s.get? a=some o)->g s
def HOk (H:Hp)(h:Heap):Prop:=∀a o,H a=some o->ObjOk P w H h a o
end
def Rd (H:Hp)(a:Addr)(u:HO):Prop:=H a=some u\/∃o,H a=some (.frz o u)
structure Un (fs ex:List Addr)(H H':Hp)(h h':Heap):Prop where
 keep:∀b o,h.get? b=some o->H b=none->b∉fs->b∉ex->h'.get? b=some o
 slot:∀b o,h.get? b=some o->H b=none->b∈fs->b∉ex->∃sl,h'.get? b=some { o with slots:=sl }
 free:∀b o,h.get? b=some o->H b=none->b∉ex->H' b=none
 there:∀b o,h.get? b=some o->b∉ex->∃o',h'.get? b=some o'
 tups:∀b xs,H b=some (.tup xs)->H' b=some (.tup xs)
 frzs:∀b o u,H b=some (.frz o u)->H' b=some (.frz o u)
 tbls:∀b ps,H b=some (.tbl ps)->∃more:Array Value,H' b=some (.tbl (ps++more))
def trk (h:Heap)(H:Hp):List Addr:=(List.range h.objs.size).filter λa=>(H a).isSome
def hidT (h:Heap)(H:Hp):Heap:=W.hideAll h (trk h H)
theorem hidT_size (h:Heap)(H:Hp):(hidT h H).objs.size=h.objs.size:=W.hideAll_size _ _
theorem hidT_get (e:h.get? b=some o)(n:H b=none):(hidT h H).get? b=some o:=
 W.hideAll_get _ e λa=>by have q:(H b).isSome=true:=(iC.mp a).2;rw[n]at q;simp at q
theorem of_hidT (e:(hidT h H).get? b=some o):h.get? b=some o/\H b=none:=by
 have a:h.get? b=some o:=W.of_hideAll (trk h H) e;refine⟨a,?_⟩;cases q:H b with
 |none=>rfl
 |some x=>have c:b∈trk h H:=iC.mpr ⟨bA.mpr (aE a),by simp[q]⟩;have z:(hidT h H).get? b=none:=W.hideAll_none (trk h H) c;rw[z]at e;cases e
def ac9 (mg:Mg)(h:Heap):Prop:=∃a ob,mg "__builtins__"=some (.ref a)/\a≠builtinsNs/\h.get? a=some ob/\ob.cls=.type "module"/\ob.dict=some builtinsNs/\ob.data=.plain
structure Mod (K:Fg)(mg:Mg)(base:Heap):Prop where
 kin:K.In base
 glob:base.Ns mainGlobals mg
 blt:∃mb,base.Ns builtinsNs mb/\∀x:Str,x≠"__name__"->mb x=bootBuiltins x
 nolimit:base.NoLimit
 bm:ac9 mg base
def frs (l:List Env):List Addr:=l.filterMap (·.frame)
def YT:Stmt->Bool
 | .Return (some (.Call _ _ [⟨_,.Lambda _ _ _ _,_⟩] _)) _=>true
 | .Return (some (.Tuple [_,.Call _ _ [⟨_,.Lambda _ _ _ _,_⟩] _] _ _)) _=>true
 |_=>false
def ZC:FuncBody->Bool
 | .stmts s=>s.any YT
 |_=>false
def oZ (K:Fg):List (Addr×Addr×Str):=K.filterMap λx=>match x.2.data with
 | .func f=>if ZC f.body=true then(match f.code with
   | .ref c=>(match K.lookup c with
    |some ⟨_,_,.fields vs,_⟩=>(match (vs[11]?:Option Value) with
     |some (.ref P)=>if W.codeHdIn K c P=true then some (c,P,f.qualname++".<locals>."++"<lambda>") else none
     |_=>none)
    |_=>none)
   |_=>none) else none
 |_=>none
structure Frf (K:Fg)(H:Hp)(fs:List Addr):Prop where
 f:∀b∈fs,H b=none
 t:∀x∈oZ K,∃ps,H x.2.1=some (.tbl ⟨x.2.2,ps⟩)
abbrev XK:=Value->Option Addr->Hp->Prop
abbrev VK:=V->Hp->Prop
def SqL (K:Fg)(H:Hp)(a:Addr)(xs:List V):Prop:=
 Rd H a (.lst xs) \/
  ∃(o:Obj) (i:Array Value) (n:Nat),K.lookup a=some o/\o.cls=.type "list"/\o.dict=none/\o.data=.seq i n/\i.size<=sizeLine/\Vals xs i.toList
structure Cls (K:Fg)(C:Addr):Prop where
 pg:W.plainGet K C Str.empty=true
 hd:W.hasDictIn K C=true
 po:W.plainOver K C=true
 sa:W.findIn K (.ref C) "__setattr__"=some (some (.builtin "object.__setattr__"))
def NoAttr (K:Fg)(C:Addr)(f:Str):Prop:=W.findIn K (.ref C) f=some none
structure Meth (K:Fg)(C:Addr)(m:Str)(f:Addr):Prop where
 at_:W.findIn K (.ref C) m=some (some (.ref f))
 fn:W.isFn K (.ref f)=true
 kp:W.keepIn K (.ref f)=true
structure Room (k:Nat)(A:Around):Prop where
 hd:A.handled=none
 dp:A.depth+3*k+5<recursionLimit
 un:A.units+16*k+200<cLine
abbrev Sp:=List V->Hp->VK->XK->Prop
abbrev CXT:=List Env->Hp->Shared->XK->Value->Shared->Prop
structure Env0 (P:Program)(w:World)(K:Fg)(mg:Mg)(base:Heap)(A:Around)(outer:List Env)(s:Shared)(H:Hp):Prop where
 frames:A.frames=some outer
 mod:Mod K mg base
 bs:∀b o,base.get? b=some o->s.heap.get? b=some o/\H b=none
 bsz:base.objs.size<=s.heap.objs.size
 funs:s.heap.FunFrames base outer
 frf:Frf K H (frs outer)
 hok:HOk P w H s.heap
 bare:AllBare s.gens
def CE (outer:List Env)(P:Program)(w:World)(H:Hp)(s:Shared)(Q:VK)(u:Value)(s':Shared):Prop:=
 ∃v h,s'.os=s.os/\AllBare s'.gens/\Un (frs outer) [] H h s.heap s'.heap/\HOk P w h s'.heap/\RelV v u/\Q v h
def CR (CX:CXT)(outer:List Env)(P:Program)(w:World)(H:Hp)(s:Shared)(Q:VK)(E:XK)(r:Result)(s':Shared):Prop:=
 match r with
 | .ok (.ret u)=>CE outer P w H s Q u s'
 | .ok _=>False
 | .error e=>CX outer H s E e s'
structure FnOk (P:Program)(w:World)(K:Fg)(mg:Mg)(base:Heap)(CX:CXT)(k:Nat)(f:Addr)(fd:FuncData)(ps:List Str)(sp:Sp):Prop where
 len:∀vs H Q E,sp vs H Q E->vs.length=ps.length
 run:∀(A:Around) (outer:List Env) (s:Shared) (H:Hp) (args:Args) (us:List Value) (vs:List V) (Q:VK) (E:XK),Room k A->Env0 P w K mg base A outer s H->BindsTo s fd args (ps.zip us)->Vals vs us->sp vs H Q E ->
  codeAny (model P w) A (.call (.ref f) args) (CR CX outer P w H s Q E) s
def Binds (K:Fg)(f:FuncData)(p:List Str)(d:List Value):Prop:=
 ∀(s:Shared) (u:List Value),K.In s.heap->(u++d).length=p.length->BindsTo s f ⟨u,[]⟩ (p.zip (u++d))
theorem Binds.all {K:Fg}{f:FuncData}{p:Ls}(h:∀us:List Value,us.length=p.length->bindArgs f ⟨us,[]⟩=pure (p.zip us)):Binds K f p []:=λs us _ a=>by rw[bY]at a ⊢;exact .of_eq (h us a)
section
variable {X:Cx}{CX:CXT}{k:Nat}{f C:Addr}{F:FuncData}{P:List Str}{sp:Sp}{d:List V}{D:List Value}{E:XK}{x m:Str}{p pos a:Pos}{e o:Expr}{c:List Expr}{T:TE}{t:TA}
structure Mk (K:Fg)(C f:Addr):Prop where
 makes:W.makesIn K C=true
 init:W.findIn K (.ref C) "__init__"=some (some (.ref f))
 fn:W.isFn K (.ref f)=true
 kp:W.keepIn K (.ref C)=true
end
end L2
namespace Att
open PySem PySem.W PySem.Calls PyProof.Rows
theorem ints_of_wellAll:∀(ns:Li) (vs:Lv),WellAll P h vs (ns.map WData.int)->IntsAre vs ns:=by
 intro ns
 induction ns with
 |nil=>intro vs w;rw[i9]at w;cases w;exact .nil
 |cons n ns i=>
  intro vs w;rw[bi]at w;cases w with
  |cons a b=>cases a;exact .cons _ _ (i _ b)
theorem script_of {l:OpenLaw}{n:Nat}(t:l.most=some n){P:Params}{args:List WData}
  (c:l.row.toRowW.claim.pre args=true) (k:WellAll P h vals args) :
  ∃a vs ns,vals=[Value.ref a]/\args=[WData.list (ns.map WData.int)]/\h.get? a=some { cls:=.type "list",data:=.seq vs.toArray }/\IntsAre vs ns/\ns.length<=n:=by
 have j:WShape.hasAll [] args [.list .int]=true:=(pre_splitW c).1;have m:l.pre.holds [] { args:=args }=true:=(pre_splitW c).2;obtain⟨d,r,rfl,o,p⟩:=hasAllW_cons j;obtain rfl:=hasAllW_nil p;obtain⟨xs,rfl,s⟩:=hasW_list o;obtain⟨ns,rfl⟩:=items_int s;have f:ns.length<=n:=by
  unfold OpenLaw.pre at m;have g:(WTm.not (.lt (.lit (.int (n:Int))) (.len (.arg 0)))).holds [] { args:=[.list (ns.map .int)] }=true:=by have g:=(holds_andW m).1;rw[t]at g;exact g
  have i:=condW_of g (w_not (w_lt w_lit (w_len_list (w_arg rfl))));rw[ac]at i;refine iq λq=>?_;have v:(n:Int)<((ns.length:Nat):Int):=by lia
  first
   |(rw[bc v]at i;exact absurd i (by decide))
   |(simp at i;lia)
 cases k with
 |cons w x=>
  cases x;cases w with
  |list u e=>exact⟨_,_,ns,rfl,rfl,u,ints_of_wellAll ns _ e,f⟩
theorem post_true (l:OpenLaw)(args:List WData):l.row.toRowW.claim.post args (.bool true) args=true:=
 postW_of (r:=l.row.toRowW) (X:=(true == true))
  (show WShape.has [] (.bool true) .bool=true by first|rfl|decide|simp[WShape.has,WShape.arms,WShape.armsAll])
  (show(WTm.eq .res (.lit (.bool true))).value [] { args:=args,res:=some (.bool true),after:=args }=some (.bool (true == true)) from w_eq_bool (w_res rfl) w_lit) rfl
end Att
namespace L2
open PySem PySem.Spec PyProof.Rows
theorem vals_ints:∀{vs:Lv} {ns:Li},IntsAre vs ns->Vals (ns.map V.int) vs
 |_,_,.nil=>.nil
 |_,_,.cons n t h=>.cons ⟨t,rfl⟩ (vals_ints h)
def tL (K:Fg):Hp:=λb=>match (oZ K).find? λx=>x.2.1 == b with
 |some x=>some (.tbl ⟨x.2.2,#[]⟩)
 |none=>none
theorem uA {K:Fg}{b:Addr}{o:HO}(h:tL K b=some o):∃x∈oZ K,x.2.1=b/\o=.tbl ⟨x.2.2,#[]⟩:=by
 unfold tL at h;split at h
 .rename_i x e;exact⟨x,gR e,by simpa using List.find?_some e,(aJ h).symm⟩
 .cases h
structure Mi (K:Fg)(h:Heap):Prop where
 e:∀x∈oZ K,h.get? x.2.1=some (W.tabObj #[])
 n:∀x∈oZ K,K.lookup x.2.1=none
 u:∀x∈oZ K,∀y∈oZ K,x.2.1=y.2.1->x.2.2=y.2.2
theorem HF {K:Fg}{x:Addr×Addr×Str}(h:x∈oZ K):W.codeHdIn K x.1 x.2.1=true:=by
 obtain⟨y,_,e⟩:=dY.mp h
 repeat' split at e
 all_goals first
  |(cases e;assumption)
  |cases e
theorem M9 {K:Fg}{h:Heap}(L:Mi K h){x:Addr×Addr×Str}(a:x∈oZ K):tL K x.2.1=some (.tbl ⟨x.2.2,#[]⟩):=by
 unfold tL;split
 .rename_i y e;have c:y.2.1=x.2.1:=by simpa using List.find?_some e
  rw[L.u y (gR e) x a c]
 .rename_i e;have:=List.find?_eq_none.mp e x a;simp at this
theorem law_call {P:Program}{w:World}{K:Fg}{mg mb:Mg}{CX:CXT}{k:Nat}{fa a:Addr}{fd:FuncData}{x:Str}{sp:Sp}{c:Shared}{vs:Lv}{ns:Li}
  (KX:K.In c.heap) (T:c.heap.Ns mainGlobals mg) (y:c.heap.Ns builtinsNs mb) (hbb:∀x:Str,x≠"__name__"->mb x=bootBuiltins x) (S:c.heap.NoLimit) (hg:c.gens = #[])
  (J:c.heap.get? a=some { cls:=.type "list",data:=.seq vs.toArray }) (hi:IntsAre vs ns) (hl:ns.length<=sizeLine) (hr:Room k callerA) (L:Mi K c.heap) (BM:ac9 mg c.heap)
  (F:∀base:Heap,K.In base->base.Ns mainGlobals mg->FnOk P w K mg base CX k fa fd [x] sp) (G:∀(s:Shared) (u:Value),BindsTo s fd ⟨[u],[]⟩ [(x,u)])
  (hsp:∀H:Hp,SqL K H a (ns.map V.int)->sp [.ref a] H (λv _=>v=.bl true) λ_ _ _=>False)
  (hCX:∀H e s',CX [] H c (λ_ _ _=>False) e s' -> False) :
  codeAny (model P w) callerA (.call (.ref fa) ⟨[.ref a],[]⟩) (λr s'=>r=.ok (.ret (.bool true))/\OldK c.heap s'.heap/\s'.os=c.os/\AllBare s'.gens) c:=by
 have rv:=vals_ints hi;have Y:=hi.length;have Z:∀{b:Addr} {o:HO},tL K b=some o->b≠a:=λ{b o} h z=>by obtain⟨x,j,e,_⟩:=uA h;have:=L.e x j;rw[e,z,J]at this;cases this
 have B:∀H:Hp,(∀b,b≠a->H b=tL K b)->SqL K H a (ns.map V.int)->HOk P w H c.heap->(H a≠none->K.lookup a=none/\∃o xs,H a=some (.frz o (.lst xs))) ->
   codeAny (model P w) callerA (.call (.ref fa) ⟨[.ref a],[]⟩) (λr s'=>r=.ok (.ret (.bool true))/\OldK c.heap s'.heap/\s'.os=c.os/\AllBare s'.gens) c:=by
  intro H I hS U hK;have g:∀{b:Addr} {o:Obj},c.heap.get? b=some o->H b=none->(hidT c.heap H).get? b=some o:=λe n=>hidT_get e n;have noA:∀{b:Addr} {o:Obj} {Q:Array DictEntry} {O:Nat},c.heap.get? b=some o->o.data=.dict Q O->H b=none:=λ{b o Q O} e d=>by
   by_cases f:b=a
   .subst f;rw[J]at e;cases e;have d':Data.seq vs.toArray _=Data.dict Q O:=d;cases d'
   .rw[I b f];cases q:tL K b with
    |none=>rfl
    |some u=>obtain⟨x,j,l,_⟩:=uA q;have:=L.e x j;rw[l,e]at this;cases this;cases d
  have noB:∀{b:Addr} {o:Obj},c.heap.get? b=some o->o.cls=.type "module"->H b=none:=λ{b o} e d=>by
   by_cases f:b=a
   .subst f;rw[J]at e;cases e;injection d with z;exact absurd z (by decide)
   .rw[I b f];cases q:tL K b with
    |none=>rfl
    |some u=>obtain⟨x,j,l,_⟩:=uA q;have:=L.e x j;rw[l,e]at this;cases this;cases d
  have A:∀{b:Addr} {m:Mg},c.heap.Ns b m->(hidT c.heap H).Ns b m:=λ{b m} ⟨o,Q,O,e,d,r⟩=>⟨o,Q,O,g e (noA e d),d,r⟩;have R:K.In (hidT c.heap H):=λb o e=>g (KX b o e) (by
   by_cases f:b=a
   .subst f;cases q:H b with
    |none=>rfl
    |some u=>rw[(hK (by rw[q];simp)).1]at e;cases e
   .rw[I b f];cases q:tL K b with
    |none=>rfl
    |some u=>
     obtain⟨x,j,l,_⟩:=uA q;have:=L.n x j;rw[l,e]at this;cases this)
  have hM:Mod K mg (hidT c.heap H):=⟨R,A T,⟨mb,A y,hbb⟩,let ⟨mc,h1,h2⟩:=S;⟨mc,A h1,h2⟩,let ⟨bm,ob,b1,b2,b3,b4,b5⟩:=BM;⟨bm,ob,b1,b2,g b3 (noB b3 b4),b4,b5⟩⟩
  have e0:Env0 P w K mg (hidT c.heap H) callerA [] c H:=⟨rfl,hM,λb o e=>of_hidT e,ja (hidT_size _ _),trivial,⟨λb y=>absurd (show b∈([]:List Addr) from y) (by simp),λx j=>⟨#[],by rw[I _ (Z (M9 L j))];exact M9 L j⟩⟩,U,.of_eq hg⟩;refine fJ ((F _ R (A T)).run callerA [] c H ⟨[.ref a],[]⟩ [.ref a] [.ref a] _ _ hr e0 (G c (.ref a)) (.cons rfl .nil) (hsp H hS)) λr s' h=>?_;cases r with
  |error e=>exact(hCX H e s' h).elim
  |ok fl=>
   cases fl with
   |next=>exact False.elim h
   |brk=>exact False.elim h
   |cont=>exact False.elim h
   |ret u=>
    obtain⟨v,H',os,M,un,D,r',q⟩:=h;have q':v=.bl true:=q;subst q';obtain rfl:u=Value.bool true:=r';have all:∀b o,c.heap.get? b=some o->s'.heap.get? b=some o\/∃x∈oZ K,x.2.1=b/\o=W.tabObj #[]/\∃i,s'.heap.get? b=some (W.tabObj (#[]++i)):=λb o e=>by
     by_cases f:b=a
     .subst f;cases q:H b with
      |none=>exact .inl (un.keep b o e q (by intro z;exact absurd (show b∈([]:List Addr) from z) (by simp)) (by simp))
      |some u=>obtain⟨_,ob,xs,z⟩:=hK (by rw[q];simp);have z2:=un.frzs b ob _ z;obtain⟨l,_⟩:=U b _ z;obtain⟨E,_⟩:=D b _ z2;rw[e]at l;cases l;exact .inl E
     .cases q:tL K b with
      |none=>exact .inl (un.keep b o e (by rw[I b f];exact q) (by intro z;exact absurd (show b∈([]:List Addr) from z) (by simp)) (by simp))
      |some u=>obtain⟨x,j,l,rfl⟩:=uA q;obtain⟨i,E⟩:=un.tbls b _ (by rw[I b f];exact q);obtain⟨e3,_⟩:=D b _ E;have N:=L.e x j;rw[l,e]at N;exact .inr ⟨x,j,l,aJ N,i,e3⟩
    refine⟨rfl,⟨λb o e=>?_,λb o e=>?_⟩,os,M⟩
    .rcases all b o e with z|⟨x,j,l,rfl,i,E⟩
     .exact .inl z
     .have C:W.CodeHd c.heap x.1 x.2.1:=iV KX (HF j);exact .inr (.inl ⟨l ▸ (C.tab (L.e x j)).isCodeTable,rfl,#[],i,rfl,E⟩)
    .rcases all b o e with z|⟨x,j,l,rfl,i,E⟩
     .exact⟨_,z⟩
     .exact⟨_,E⟩
 have t:∀(H:Hp) b u,tL K b=some u->ObjOk P w H c.heap b u:=λH b u q=>by obtain⟨x,j,l,rfl⟩:=uA q;have N:=L.e x j;rw[l]at N;exact⟨N,trivial,λp cv hc=>by cases hc⟩
 cases hk:K.lookup a with
 |some o=>
  have e:=KX a o hk;rw[J]at e;cases e;refine B (tL K) (λ_ _=>rfl) (.inr ⟨_,vs.toArray,_,hk,rfl,rfl,rfl,by rw[aD,Y];exact hl,by simpa using rv⟩) (λb u z=>t _ b u z) λz=>?_;cases q:tL K a with
  |none=>exact absurd q z
  |some u=>exact absurd rfl (Z q)
 |none=>
  refine B (λb=>if b=a then some (.frz { cls:=.type "list",data:=.seq vs.toArray } (.lst (ns.map V.int))) else tL K b) (λb y=>aF y) (.inl (.inr ⟨{ cls:=.type "list",data:=.seq vs.toArray },aL rfl⟩)) (λb u z=>?_) λ_=>⟨hk,_,_,aL rfl⟩;by_cases y:b=a
  .have z':=(aL y).symm.trans z;cases z';subst y;exact⟨J,by rw[ac];exact hl,vs,_,rv,J⟩
  .exact t _ b u ((aF y).symm.trans z)
def inClass (s:Stmt)(j:Nat):Stmt:=match s with
 | .ClassDef _ _ _ a _ _ _ _ _ _ _=>a.getD j (.Pass ⟨0,0,0,0⟩)
 |_=>.Pass ⟨0,0,0,0⟩
def defArgs (s:Stmt):Arguments:=match s with
 | .FunctionDef _ a _ _ _ _ _ _ _ _=>a
 |_=>{ posonlyargs:=[],args:=[],vararg:=none,kwonlyargs:=[],kw_defaults:=[],kwarg:=none,defaults:=[] }
def defBody (s:Stmt):List Stmt:=match s with
 | .FunctionDef _ _ b _ _ _ _ _ _ _=>b
 |_=>[]
def defScope (s:Stmt):Scope:=match s with
 | .FunctionDef _ _ _ _ _ _ a _ _ _=>a
 |_=>{ kind:=.function,names:=[],isGenerator:=false,isCoroutine:=false }
abbrev CX0:CXT:=λ_ _ _ _ _ _=>False
structure Fun (K:Fg)(x qual:Str)(st:Stmt)(f:Addr)(fd:FuncData):Prop where
 ex:∃(oc:Value) (od:Option Addr) (kV doc pm:Value) (an:Option Addr) (cdv ct:Value) (osl:Array (Option Value)),
  fd=W.fnOf x qual (defArgs st) (defBody st) (defScope st) .none kV doc pm an cdv ct/\K.lookup f=some ⟨oc,od,.func fd,osl⟩/\W.codeIn K cdv qual=true
 kp:W.keepIn K (.ref f)=true
section
variable {P:Program}{w:World}{K:Fg}{mg:Mg}{base:Heap}
theorem Fun.binds {x a:Str}{st:Stmt}{f:Addr}{g:FuncData}{e:Ls}(F:Fun K x a st f g)
  (h:∀(kV d p:Value) (an:Option Addr) (c ct:Value) (us:List Value),us.length=e.length->bindArgs (W.fnOf x a (defArgs st) (defBody st) (defScope st) .none kV d p an c ct) ⟨us,[]⟩=pure (e.zip us)):Binds K g e []:=by
 obtain⟨j,k,kV,d,p,an,c,ct,o,rfl,lk,i⟩:=F.ex;exact .all (h kV d p an c ct)
theorem fun_mk {x a:Str}{st:Stmt}{f:Addr}{oc:Value}{g an:Option Addr}{o:Array (Option Value)}{kV e p d ct:Value}(l:K.lookup f=some ⟨oc,g,.func (W.fnOf x a (defArgs st) (defBody st) (defScope st) .none kV e p an d ct),o⟩)
  (c:W.codeIn K d a=true) (k:W.keepIn K (.ref f)=true):Fun K x a st f (W.fnOf x a (defArgs st) (defBody st) (defScope st) .none kV e p an d ct):=⟨⟨oc,g,kV,e,p,an,d,ct,o,rfl,l,c⟩,k⟩
end
structure lN (K:Fg)(mg:Mg)(x:Str)(st:Stmt)(ps:List Str):Prop where
 ex:∃f fd,Fun K x x st f fd/\Binds K fd ps []/\mg x=some (.ref f)
section
variable {P:Program}{w:World}{K:Fg}{mg:Mg}{base:Heap}
theorem lN.mk' {x:Str}{st:Stmt}{p:Ls}{f:Addr}{a:FuncData}(F:Fun K x x st f a)(b:Binds K a p [])(m:mg x=some (.ref f)):lN K mg x st p:=⟨f,a,F,b,m⟩
end
abbrev bmV:List Value:=[.type "ValueError",.type "Exception",.type "BaseException",.type "object"]
abbrev N8 (K:Fg)(C:Addr):Prop:=W.excIn K C bmV "ValueError.__new__"=true
structure Sh (K:Fg)(C:Addr)(m:Str)(f:Addr):Prop where
 ga:W.specialIn K (.ref C) "__getattribute__"=some (some (.builtin "type.__getattribute__"))
 rd:W.readsIn K C (.type "type")=true
 fc:W.findCls K (.ref C) (.type "type") m=some (.val (.ref f))
 kp:W.keepIn K (.ref f)=true
end L2
namespace L2
open PySem PySem.Spec PyProof.Rows PySem.W PySem.Calls
theorem V1:∀(ns:Li),∀n∈ns,WData.weight (.int n)<=WData.weightAll (ns.map WData.int)
 |[],n,h=>by cases h
 |m::r,n,h=>by
  rw[bi];simp only[WData.weightAll];rcases aG.mp h with rfl|h
  .lia
  .have:=V1 r n h;lia
theorem ZZ {ns:Li}(h:WData.layableAll [WData.list (ns.map WData.int)]=true){n:Int}(e:n∈ns):Builtin.Int.intBits n<=2^20:=by have a:WData.layable (WData.list (ns.map WData.int))=true:=b7.mp h _ az;unfold WData.layable at a;rw[dz]at a;have c:=dI a.2;have d:=V1 ns n e;simp only[WData.weight]at c d;exact aj d c
theorem Vi {l:W.OpenLaw}{n k:Nat}{XP:(Str->Option Value)->Heap->Prop}{YP:World->Heap->Prop}{d:DefRec}{K:Params->Fg}{CX:World->CXT}{sp:World->Sp}
  (hn:l.most=some n) (E:n<=sizeLine) (B:d.params.defaults=[]) (hr:Room k callerA) (hY:∀(w:World) (h:Heap),YP w h->(K w.params).In h)
  (F:∀(w:World) (mg:Mg) (y:Addr) (h:Heap),(K w.params).In h->h.Ns mainGlobals mg->mg d.name=some (.ref y) -> ∃z:FuncData,(∀(s:Shared) (u:Value),BindsTo s z ⟨[u],[]⟩ [(x,u)])/\∀base:Heap,(K w.params).In base->base.Ns mainGlobals mg->FnOk l.prog w (K w.params) mg base (CX w) k y z [x] (sp w))
  (Q:∀(w:World) (h:Heap),YP w h->Mi (K w.params) h)
  (I:∀(w:World) (H:Hp) (a:Addr) (ns:List Int),ns.length<=n->(∀m∈ns,Builtin.Int.intBits m<=2^20)->SqL (K w.params) H a (ns.map V.int)->sp w [.ref a] H (λv _=>v=.bl true) λ_ _ _=>False)
  (A:∀(w:World) (H:Hp) (s:Shared) (e:Value) (s':Shared),CX w [] H s (λ_ _ _=>False) e s' -> False):W.WalkO q loose XP YP l.row.toRowW d [] (λf vs=>PySem.call f vs):=by
 intro w O t mg mb G Y y o pm cd S R kV ho hd hcd N D hg M P as p i hrd J hlo;obtain rfl:R=.none:=Dflts.none N B;obtain rfl:kV=.none:=Dflts.noKw N;obtain⟨a,vs,ns,rfl,rfl,j,g,c⟩:=Att.script_of hn p J;have L:=hY w _ Y;obtain⟨z,hb,hF⟩:=F w mg y _ L G.T.g D;refine enter_call (fJ (law_call L G.T.g G.T.b G.T.builtins G.T.nolimit hg j g (aj c E) hr (Q w _ Y) G.T.bmain hF hb (λH hS=>I w H a ns c (λm C=>ZZ i C) hS) λH e s'=>A w H t e s') λr s' hq=>?_);obtain⟨rfl,T,U,Z⟩:=hq;exact⟨.inl ⟨.bool true,.bool true,[],rfl,λ_=>rfl,.bool true,Att.post_true l _,λ_=>⟨List.Pairwise.nil,λ_ C=>(nomatch C)⟩⟩,T,U,Z⟩
def Al (K:Fg):Sp:=λv H Q _=>∃(a:Addr) (n:List Int),v=[.ref a]/\SqL K H a (n.map V.int)/\n.length<=63/\(∀m∈n,Builtin.Int.intBits m<=2^20)/\∀h,Q (.bl true) h
end L2
namespace L3
open PySem PySem.Spec PyProof.Rows L2
open Classical in
def Qp (K:Fg)(a:Value)(q:Str):Prop:=∃c P,a=.ref c/\(c,P,q)∈oZ K
def Fi (K:Fg)(mg:Mg)(x:Str):Prop:=∃f o c a sl,mg x=some (.ref f)/\K.lookup f=some ⟨o,c,.func a,sl⟩/\Qp K a.code (x++".<locals>."++"<lambda>")
def Pn (K:Fg)(a:Value)(q:Str):Bool:=match a with
 | .ref c=>(oZ K).any λx=>x.1 == c && x.2.2 == q
 |_=>false
theorem TF {K:Fg}{f:Value}{q:Str}(h:Pn K f q=true):Qp K f q:=by
 unfold Pn at h;split at h
 .rename_i c;obtain⟨x,j,e⟩:=cr.mp h;rw[dz,i8,i8]at e;obtain⟨a,b,d⟩:=x;obtain⟨g,i⟩:=e;subst g i;exact⟨a,b,rfl,j⟩
 .cases h
def abS (K:Fg)(ts:List Addr):Bool:=(oZ K).all λx=>(ts.contains x.2.1 && (K.lookup x.2.1).isNone) && (oZ K).all λy=>x.2.1 != y.2.1 || x.2.2 == y.2.2
theorem Wg {K:Fg}{h:Heap}{ts:List Addr}(e:abS K ts=true)(t:∀P∈ts,h.get? P=some (W.tabObj #[])):Mi K h:=by
 have a:=λx c=>cY.mp (b7.mp e x c);refine⟨λx c=>t _ ?_,λx c=>?_,λx c y d z=>?_⟩
 .exact List.contains_iff_mem.mp (cY.mp (a x c).1).1
 .exact Option.isNone_iff_eq_none.mp (cY.mp (a x c).1).2
 .have:=b7.mp (a x c).2 y d;rw[Bool.or_eq_true,bne_iff_ne,i8]at this;exact this.resolve_left λn=>n z
end L3
namespace jR
open PySem L2 L3 PyProof.Rows
abbrev DW:Stmt:=top 29
abbrev K5:Stmt:=top 30
abbrev tY:Stmt:=top 31
abbrev xK:Stmt:=top 32
abbrev xM:Stmt:=top 10
abbrev HW:Stmt:=top 11
abbrev WY:Stmt:=top 12
abbrev U4:Stmt:=top 13
abbrev R8:Stmt:=top 14
abbrev KD:Stmt:=top 15
abbrev yS:Stmt:=top 16
abbrev Rc:Stmt:=top 17
abbrev Ik:Stmt:=top 18
abbrev Lx:Stmt:=top 21
abbrev vh:Stmt:=top 22
abbrev xH:Stmt:=top 23
abbrev Nq:Stmt:=top 24
abbrev DX:Stmt:=top 25
abbrev QS:Stmt:=top 38
abbrev yL:Stmt:=top 39
abbrev pF:Stmt:=top 40
abbrev Dq:Stmt:=top 41
abbrev XJ:Stmt:=top 43
abbrev xF:Stmt:=top 44
abbrev BJ:Stmt:=top 45
abbrev Gh:Stmt:=top 46
abbrev Hx:Stmt:=top 47
abbrev Fp:Stmt:=top 49
abbrev MT:Stmt:=top 50
abbrev zO:Stmt:=top 51
abbrev Et:Stmt:=top 52
abbrev yI:Stmt:=top 54
abbrev vm:Stmt:=top 55
abbrev Hf:Stmt:=top 57
abbrev Kq:Stmt:=top 58
abbrev xO:Stmt:=top 59
abbrev tO:Stmt:=top 60
abbrev yH:Stmt:=top 61
abbrev Ge:Stmt:=top 62
abbrev Hu:Stmt:=top 63
abbrev qd:Stmt:=top 64
abbrev Bo:Stmt:=top 65
abbrev rM:Stmt:=top 66
abbrev uB:Stmt:=top 67
abbrev qp:Stmt:=top 68
abbrev xV:Stmt:=top 69
abbrev Lf:Stmt:=top 70
abbrev Bh:Stmt:=top 72
abbrev qQ:Stmt:=top 73
abbrev ww:Stmt:=top 74
abbrev s_split:Stmt:=top 75
abbrev Q3:Stmt:=top 78
abbrev RX:Stmt:=top 80
abbrev pC:Stmt:=top 81
abbrev uC:Stmt:=top 82
abbrev Qv:Stmt:=top 83
abbrev xR:Stmt:=top 84
abbrev Ly:Stmt:=top 86
abbrev tD:Stmt:=top 87
abbrev Ez:Stmt:=top 91
abbrev ug:Stmt:=top 93
abbrev Rr:Stmt:=top 94
abbrev xY:Stmt:=top 97
abbrev Bj:Stmt:=top 98
abbrev Hn:Stmt:=top 99
abbrev yZ:Stmt:=top 100
abbrev Fz:Stmt:=top 101
abbrev Em:Stmt:=top 102
abbrev Lh:Stmt:=top 103
abbrev Ho:Stmt:=top 105
abbrev X5:Stmt:=top 106
abbrev xX:Stmt:=top 107
abbrev VG:Stmt:=top 108
abbrev Bg:Stmt:=top 109
abbrev DN:Stmt:=top 110
abbrev Hl:Stmt:=top 111
abbrev Ig:Stmt:=top 112
abbrev W8:Stmt:=top 113
abbrev Bm:Stmt:=top 114
abbrev Hs:Stmt:=top 116
abbrev Wq:Stmt:=top 117
abbrev Ed:Stmt:=top 118
abbrev uZ:Stmt:=top 119
abbrev Bv:Stmt:=top 120
abbrev yO:Stmt:=top 121
abbrev Nh:Stmt:=top 122
abbrev Wt:Stmt:=top 123
abbrev aaT:Stmt:=top 124
abbrev aaC:Stmt:=top 125
abbrev W7:Stmt:=top 126
abbrev xu:Stmt:=top 127
abbrev Hj:Stmt:=top 128
abbrev Br:Stmt:=inClass (top 33) 0
abbrev zu:Stmt:=inClass (top 33) 1
abbrev Bp:Stmt:=inClass (top 33) 3
abbrev BK:Stmt:=inClass (top 33) 5
abbrev xN:Stmt:=inClass (top 34) 0
abbrev wz:Stmt:=inClass (top 34) 1
abbrev xq:Stmt:=inClass (top 34) 2
abbrev zK:Stmt:=inClass (top 35) 0
abbrev xT:Stmt:=inClass (top 36) 0
structure Top (K:Fg)(mg:Mg)(cNO:Addr)(cNP:Addr)(cNW:Addr)(cHP:Addr)(cBL:Addr)(cNN:Addr)(cK:Addr)(cW:Addr)(cR:Addr)(cP:Addr):Prop where
 Qm:lN K mg "is_prime" DW ["number"]
 UG:lN K mg "turned" K5 ["number","size"]
 zc:lN K mg "refuse_no_prime" tY ["number"]
 Hb:lN K mg "taken_times" xK ["number","many"]
 Ha:lN K mg "cut_noughts" xM ["numbers"]
 Tf:lN K mg "trimmed" HW ["kind","f"]
 ack:lN K mg "plus" WY ["kind","f","g"]
 ab2:lN K mg "less" U4 ["kind","f","g"]
 ZJ:lN K mg "times" R8 ["kind","f","g"]
 Vh:lN K mg "scaled" KD ["kind","f","number"]
 JH:lN K mg "product_of" yS ["kind","factors"]
 Yp:lN K mg "slope" Rc ["kind","f"]
 Ue:lN K mg "divided" Ik ["kind","f","g"]
 XN:lN K mg "common" Lx ["kind","f","g"]
 Cr:lN K mg "with_lead_one" vh ["kind","f"]
 G9:lN K mg "turned_lead" xH ["kind","f"]
 VP:lN K mg "shares" Nq ["kind","f","g"]
 Pk:lN K mg "row_less" DX ["kind","row","often","other"]
 YK:lN K mg "bound" QS ["g"]
 Iz:lN K mg "good_prime" yL ["g"]
 uo:lN K mg "keeps_free_of_squares" pF ["prime","g"]
 Ph:lN K mg "many_for" Dq ["prime","g"]
 ab4:lN K mg "sets" XJ ["count"]
 GR:lN K mg "place_count" xF ["bits"]
 Lj:lN K mg "candidate" BJ ["g","size","ups","bits"]
 OJ:lN K mg "rests_by" Gh ["size","f"]
 T7:lN K mg "nearest" Hx ["size","number"]
 NK:lN K mg "times_by" Fp ["kind","one","other","g"]
 Xn:lN K mg "raised" MT ["kind","f","many","g"]
 Jz:lN K mg "power_rows" zO ["kind","f","count","g"]
 N6:lN K mg "powering" Et ["kind","g"]
 IV:lN K mg "free_parts" yI ["kind","f"]
 BZ:lN K mg "seen_by_slope" vm ["kind","f"]
 Us:lN K mg "product" Hf ["kind","ones","others"]
 Wl:lN K mg "column" Kq ["rows","at"]
 G6:lN K mg "row_product" xO ["kind","row","columns"]
 zP:lN K mg "sum_of_products" tO ["ones","others"]
 Jm:lN K mg "unit_table" yH ["length"]
 Pu:lN K mg "unit_row" Ge ["at","length"]
 Uq:lN K mg "echelon" Hu ["kind","rows"]
 uN:lN K mg "cleared_beside_units" qd ["kind","rows","width"]
 LK:lN K mg "plain_row" Bo ["kind","row"]
 ym:lN K mg "first_not_nought" rM ["rows","at","done"]
 Ak:lN K mg "with_row_moved" uB ["rows","found","done"]
 vp:lN K mg "with_column_cleared" qp ["kind","rows","at","done"]
 Gj:lN K mg "row_without" xV ["kind","row","at","first"]
 Wn:lN K mg "kernel" Lf ["kind","rows"]
 K4:lN K mg "order_key" Bh ["g"]
 wZ:lN K mg "powering_less_one" qQ ["kind","g"]
 Es:lN K mg "row_less_one" ww ["kind","row","at"]
 Z2:lN K mg "split" s_split ["kind","g"]
 Zn:lN K mg "parts" Q3 ["kind","f"]
 Yv:lN K mg "holds" RX ["kind","g","paper"]
 uD:lN K mg "shows_free_of_squares" pC ["kind","g","paper"]
 Ai:lN K mg "shows_one_part" uC ["kind","g","r"]
 Yx:lN K mg "paper" Qv ["kind","g"]
 G5:lN K mg "turned_back" xR ["kind","rows"]
 UT:lN K mg "lifted" Ly ["prime","many","f","pieces"]
 zM:lN K mg "refuse_bad_lift" tD ["rests","f","pieces"]
 Pz:lN K mg "start_of" Ez ["g"]
 Ad:lN K mg "common_divisor" ug ["a","b"]
 YL:lN K mg "bared" Rr ["f"]
 Gr:lN K mg "whole_holds" xY ["g","paper"]
 Ld:lN K mg "size_fits" Bj ["g","prime","many"]
 Ui:lN K mg "ups_fit" Hn ["kind","g","ups"]
 JV:lN K mg "papers_fit" yZ ["kind","ups","papers"]
 Pq:lN K mg "rows_fit" Fz ["g","size","ups","rows"]
 Ot:lN K mg "row_fits" Em ["g","c","q","r"]
 X8:lN K mg "looked" Lh ["g"]
 Uk:lN K mg "_law_cell_at" Ho ["_law_script","_law_k"]
 abd:lN K mg "_law_head" X5 ["_law_script"]
 Gw:lN K mg "_law_small_prime" xX ["_law_cell"]
 acq:lN K mg "_law_trim" VG ["_law_row","_law_size"]
 M5:lN K mg "_law_times" Bg ["_law_f","_law_g","_law_size"]
 O5:lN K mg "_law_plus" DN ["_law_f","_law_g","_law_size"]
 TQ:lN K mg "_law_divisor" Hl ["_law_one","_law_other"]
 SQ:lN K mg "_law_content" Ig ["_law_f"]
 abY:lN K mg "_law_bare" W8 ["_law_f"]
 Lw:lN K mg "_law_bound" Bm ["_law_g"]
 Th:lN K mg "_law_size_of" Hs ["_law_prime","_law_many_here"]
 acp:lN K mg "_law_ones" Wq ["_law_bits"]
 Ou:lN K mg "_law_sets" Ed ["_law_count"]
 Cg:lN K mg "_law_candidate" uZ ["_law_g","_law_size","_law_ups_here","_law_bits"]
 Mp:lN K mg "_law_steps" Bv ["_law_f","_law_c"]
 Iv:lN K mg "_law_turned" yO ["_law_number","_law_size"]
 Wo:lN K mg "_law_pieces" Nh ["_law_script","_law_prime","_law_wide"]
 acj:lN K mg "_law_many" Wt ["_law_g","_law_prime","_law_way"]
 adu:lN K mg "_law_ups" aaT ["_law_pieces_here","_law_prime","_law_size","_law_alike"]
 adZ:lN K mg "_law_led" aaC ["_law_ups_here","_law_size","_law_step"]
 acx:lN K mg "_law_rows" W7 ["_law_g","_law_size","_law_ups_here","_law_way"]
 GQ:lN K mg "_law_drawn_paper" xu ["_law_script","_law_g"]
 abe:Fi K mg "sets"
 J3:Fi K mg "free_parts"
 YM:Fi K mg "parts"
 jM:mg "len"=none
 lM:mg "range"=none
 O8:mg "list"=none
 aap:mg "max"=none
 ae6:mg "min"=none
 mZ:mg "enumerate"=none
 abI:mg "reversed"=none
 Vy:mg "sum"=none
 HS:mg "zip"=none
 Ww:mg "any"=none
 adT:mg "all"=none
 Ii:mg "abs"=none
 yR:mg "sorted"=none
 u6:∃tk,mg "LARGEST_PRIME"=some (.int 9973 tk)
 vC:∃tk,mg "LARGEST_MANY"=some (.int 400 tk)
 Ey:mg "NoOver"=some (.ref cNO)
 Nm:N8 K cNO
 Tr:mg "NoPrime"=some (.ref cNP)
 SM:mg "NoPower"=some (.ref cNW)
 Om:mg "HasParts"=some (.ref cHP)
 TV:mg "BadLift"=some (.ref cBL)
 VJ:mg "Nought"=some (.ref cNN)
 W4:mg "Kind"=some (.ref cK)
 Mv:mg "Wholes"=some (.ref cW)
 uh:Cls K cW
 vN:NoAttr K cW "size"
 Ss:mg "Rests"=some (.ref cR)
 su:Cls K cR
 qD:NoAttr K cR "size"
 Lr:mg "Powers"=some (.ref cP)
 pq:Cls K cP
 pP:NoAttr K cP "size"
 BX:NoAttr K cP "prime"
 Mt:∃f fd,Fun K "__init__" "Kind.__init__" Br f fd/\Binds K fd ["self","size"] []/\Sh K cK "__init__" f
 JK:∃f fd,Fun K "plain" "Kind.plain" zu f fd/\Binds K fd ["self","number"] []/\Meth K cR "plain" f/\Meth K cP "plain" f
 K1:∃f fd,Fun K "less" "Kind.less" Bp f fd/\Binds K fd ["self","a","b"] []/\Meth K cW "less" f/\Meth K cR "less" f/\Meth K cP "less" f
 Ml:∃f fd,Fun K "over" "Kind.over" BK f fd/\Binds K fd ["self","a","b"] []/\Meth K cR "over" f/\Meth K cP "over" f
 GZ:∃f fd,Fun K "__init__" "Wholes.__init__" xN f fd/\Binds K fd ["self"] []/\Mk K cW f
 Dy:∃f fd,Fun K "plain" "Wholes.plain" wz f fd/\Binds K fd ["self","number"] []/\Meth K cW "plain" f
 GF:∃f fd,Fun K "over" "Wholes.over" xq f fd/\Binds K fd ["self","a","b"] []/\Meth K cW "over" f
 Jc:∃f fd,Fun K "__init__" "Rests.__init__" zK f fd/\Binds K fd ["self","prime"] []/\Mk K cR f
 Gy:∃f fd,Fun K "__init__" "Powers.__init__" xT f fd/\Binds K fd ["self","prime","many"] []/\Mk K cP f
section
variable {w:World}{K:Fg}{h:Heap}{mg:Mg}{J f C:Addr}{o an:Option Addr}{sl:Array (Option Value)}{oc kV D p i ct:Value}{x q:Str}{st:Stmt}{j:List Str}{z:Addr}{A:Addr}{B:Addr}{u:Addr}{t:Addr}{y:Addr}{E:Addr}{I:Addr}{H:Addr}{F:Addr}
theorem ado (X:K.In h)(G:h.Ns mainGlobals mg)(a:W.nsIn K mainGlobals x=some (some (.ref f)))(l:K.lookup f=some ⟨oc,o,.func (W.fnOf x x (defArgs st) (defBody st) (defScope st) .none kV D p an i ct),sl⟩)(c:W.codeIn K i x=true)(k:W.keepIn K (.ref f)=true)(b:∀(kV D p:Value) (an:Option Addr) (i ct:Value) (us:Lv),us.length=j.length->bindArgs (W.fnOf x x (defArgs st) (defBody st) (defScope st) .none kV D p an i ct) ⟨us,[]⟩=pure (j.zip us)):lN K mg x st j:=.mk' (fun_mk l c k) ((fun_mk l c k).binds b) (b8 X G a)
theorem adB {d:Arguments}{e:List Stmt}{sc:Scope}{dv:Value}(X:K.In h)(G:h.Ns mainGlobals mg)(a:W.nsIn K mainGlobals x=some (some (.ref f)))(l:K.lookup f=some ⟨oc,o,.func (W.fnOf x x d e sc dv kV D p an i ct),sl⟩)(c:Pn K i (x++".<locals>."++"<lambda>")=true):Fi K mg x:=⟨f,oc,o,_,sl,b8 X G a,l,TF c⟩
theorem adt {v:Int}{tk:Tok}(X:K.In h)(G:h.Ns mainGlobals mg)(a:W.nsIn K mainGlobals x=some (some (.int v tk))):∃tk,mg x=some (.int v tk):=⟨_,b8 X G a⟩
theorem acy {a:Addr}(g:W.findIn K (.ref a) x=some (some (.ref f)))(l:K.lookup f=some ⟨oc,o,.func (W.fnOf x q (defArgs st) (defBody st) (defScope st) .none kV D p an i ct),sl⟩)(c:W.codeIn K i q=true)(k:W.keepIn K (.ref f)=true)(n:W.isFn K (.ref f)=true)(b:∀(kV D p:Value) (an:Option Addr) (i ct:Value) (us:Lv),us.length=j.length->bindArgs (W.fnOf x q (defArgs st) (defBody st) (defScope st) .none kV D p an i ct) ⟨us,[]⟩=pure (j.zip us)):∃f d,Fun K x q st f d/\Binds K d j []/\Meth K a x f:=⟨_,_,fun_mk l c k,(fun_mk l c k).binds b,⟨g,n,k⟩⟩
theorem abw {a d:Addr}(g:W.findIn K (.ref a) x=some (some (.ref f)))(m:W.findIn K (.ref d) x=some (some (.ref f)))(l:K.lookup f=some ⟨oc,o,.func (W.fnOf x q (defArgs st) (defBody st) (defScope st) .none kV D p an i ct),sl⟩)(c:W.codeIn K i q=true)(k:W.keepIn K (.ref f)=true)(n:W.isFn K (.ref f)=true)(b:∀(kV D p:Value) (an:Option Addr) (i ct:Value) (us:Lv),us.length=j.length->bindArgs (W.fnOf x q (defArgs st) (defBody st) (defScope st) .none kV D p an i ct) ⟨us,[]⟩=pure (j.zip us)):∃f e,Fun K x q st f e/\Binds K e j []/\Meth K a x f/\Meth K d x f:=⟨_,_,fun_mk l c k,(fun_mk l c k).binds b,⟨g,n,k⟩,⟨m,n,k⟩⟩
theorem abn {a d e:Addr}(m:W.findIn K (.ref a) x=some (some (.ref f)))(r:W.findIn K (.ref d) x=some (some (.ref f)))(s:W.findIn K (.ref e) x=some (some (.ref f)))(l:K.lookup f=some ⟨oc,o,.func (W.fnOf x q (defArgs st) (defBody st) (defScope st) .none kV D p an i ct),sl⟩)(c:W.codeIn K i q=true)(k:W.keepIn K (.ref f)=true)(n:W.isFn K (.ref f)=true)(b:∀(kV D p:Value) (an:Option Addr) (i ct:Value) (us:Lv),us.length=j.length->bindArgs (W.fnOf x q (defArgs st) (defBody st) (defScope st) .none kV D p an i ct) ⟨us,[]⟩=pure (j.zip us)):∃f g,Fun K x q st f g/\Binds K g j []/\Meth K a x f/\Meth K d x f/\Meth K e x f:=⟨_,_,fun_mk l c k,(fun_mk l c k).binds b,⟨m,n,k⟩,⟨r,n,k⟩,⟨s,n,k⟩⟩
theorem adC (g:W.findIn K (.ref C) "__init__"=some (some (.ref f)))(l:K.lookup f=some ⟨oc,o,.func (W.fnOf x q (defArgs st) (defBody st) (defScope st) .none kV D p an i ct),sl⟩)(c:W.codeIn K i q=true)(k:W.keepIn K (.ref f)=true)(m:W.makesIn K C=true)(n:W.isFn K (.ref f)=true)(d:W.keepIn K (.ref C)=true)(b:∀(kV D p:Value) (an:Option Addr) (i ct:Value) (us:Lv),us.length=j.length->bindArgs (W.fnOf x q (defArgs st) (defBody st) (defScope st) .none kV D p an i ct) ⟨us,[]⟩=pure (j.zip us)):∃f a,Fun K x q st f a/\Binds K a j []/\Mk K C f:=⟨_,_,fun_mk l c k,(fun_mk l c k).binds b,m,g,n,d⟩
theorem adl (g:W.findCls K (.ref C) (.type "type") "__init__"=some (.val (.ref f)))(l:K.lookup f=some ⟨oc,o,.func (W.fnOf x q (defArgs st) (defBody st) (defScope st) .none kV D p an i ct),sl⟩)(c:W.codeIn K i q=true)(k:W.keepIn K (.ref f)=true)(m:W.specialIn K (.ref C) "__getattribute__"=some (some (.builtin "type.__getattribute__")))(n:W.readsIn K C (.type "type")=true)(b:∀(kV D p:Value) (an:Option Addr) (i ct:Value) (us:Lv),us.length=j.length->bindArgs (W.fnOf x q (defArgs st) (defBody st) (defScope st) .none kV D p an i ct) ⟨us,[]⟩=pure (j.zip us)):∃f a,Fun K x q st f a/\Binds K a j []/\Sh K C "__init__" f:=⟨_,_,fun_mk l c k,(fun_mk l c k).binds b,m,n,g,k⟩
theorem ac4 (h:W.findIn K (.ref C) x=some none):NoAttr K C x:=h
theorem acL (h:W.excIn K C bmV "ValueError.__new__"=true):N8 K C:=h
def AMk:Prop:=∀{P:Program} {w:World} {K:Fg} {mg:Mg} {a:Heap} {z:Addr} {A:Addr} {B:Addr} {u:Addr} {t:Addr} {y:Addr} {E:Addr} {I:Addr} {H:Addr} {F:Addr},Top K mg z A B u t y E I H F->∀{f:Addr} {c:FuncData},Fun K "law" "law" Hj f c->FnOk P w K mg a CX0 16 f c ["_law_script"] (Al K)
theorem am {r:W.OpenLaw}(m:AMk)(X:K.In h)(G:h.Ns mainGlobals mg)(d:mg "law"=some (.ref J))(T:Top K mg z A B u t y E I H F)(a:W.nsIn K mainGlobals "law"=some (some (.ref f)))(l:K.lookup f=some ⟨oc,o,.func (W.fnOf "law" "law" (defArgs Hj) (defBody Hj) (defScope Hj) .none kV D p an i ct),sl⟩)(c:W.codeIn K i "law"=true)(k:W.keepIn K (.ref f)=true):∃g:FuncData,(∀(s:Shared) (v:Value),BindsTo s g ⟨[v],[]⟩ [("_law_script",v)])/\∀base:Heap,K.In base->base.Ns mainGlobals mg->FnOk r.prog w K mg base CX0 16 J g ["_law_script"] (Al K):=by have e:=d.symm.trans (b8 X G a);cases e;exact⟨_,λs v=>.of_eq rfl,λbase _ _=>m T (fun_mk l c k)⟩
def bnS {Q:List Value->Prop}(h:∀a,∀us:List Value,us.length=n->Q (a::us)):∀us:List Value,us.length=n+1->Q us|a::t,e=>h a t (Nat.succ.inj e)
theorem bn1 {Q:List Value->Prop}(h:∀a,Q [a]):∀us:List Value,us.length=1->Q us:=bnS λa u e=>List.eq_nil_of_length_eq_zero e▸h a
theorem bn2 {Q:List Value->Prop}(h:∀a b,Q [a,b]):∀us:List Value,us.length=2->Q us:=bnS λa=>bn1 (h a)
theorem bn3 {Q:List Value->Prop}(h:∀a b c,Q [a,b,c]):∀us:List Value,us.length=3->Q us:=bnS λa=>bn2 (h a)
theorem bn4 {Q:List Value->Prop}(h:∀a b c d,Q [a,b,c,d]):∀us:List Value,us.length=4->Q us:=bnS λa=>bn3 (h a)
end
theorem walk {l:W.OpenLaw}{q:Program}{loose:Ls}{XP:(Str->Option Value)->Heap->Prop}{YP:World->Heap->Prop}{d:DefRec}{K:Params->Fg}(r:l.most=some 63)(c:d.params.defaults=[])
  (m:∀(w:World) (h:Heap),YP w h->(K w.params).In h) (i:∀(w:World) (h:Heap),YP w h->Mi (K w.params) h)
  (F:∀(w:World) (mg:Mg) (e:Addr) (h:Heap),(K w.params).In h->h.Ns mainGlobals mg->mg d.name=some (.ref e) -> ∃g:FuncData,(∀(s:Shared) (u:Value),BindsTo s g ⟨[u],[]⟩ [("_law_script",u)])/\∀base:Heap,(K w.params).In base->base.Ns mainGlobals mg->FnOk l.prog w (K w.params) mg base CX0 16 e g ["_law_script"] (Al (K w.params))) :
  W.WalkO q loose XP YP l.row.toRowW d [] (λf vs=>PySem.call f vs):=
 L2.Vi (n:=63) (k:=16) (x:="_law_script") (CX:=λ_=>CX0) (sp:=λw=>Al (K w.params)) r (by decide) c ⟨rfl,by decide,by decide⟩ m F i (λ_ _ a t p o j=>⟨a,t,rfl,j,p,o,λ_=>rfl⟩) λ_ _ _ _ _ z=>z
end jR
section
open PySem PySem.W PyProof.Rows
local macro_rules | `(tactic| o_head $H) => `(tactic| (refine W.holds_open (q:=jR.view) (loose:=[]) (Xt:=λs=>W.xlAt jR.view [] s && W.recOk (W.RowW.records k8) s) (XP:=W.XL jR.view []) (Yf:=W.Hook.obs $H) (Ya:=W.Hook.val $H) (YP:=W.Hook.says $H) (N:=20000) ?hl (W.Hook.of $H) (W.Hook.keeps $H) (λs e=>W.xl_of s (Bool.and_eq_true_iff.mp e).1) W.XL.keeps (by rfl) (by rfl) (by rfl) (λs e=>W.recFacts_of (Bool.and_eq_true_iff.mp e).2) (by rfl) (by first|assumption|decide +kernel) (by decide +kernel) ⟨rfl,rfl,rfl,rfl,rfl,by decide +kernel⟩ ?hw ?hc;(case hl=>(intro w;exact jR.aey w (by kernel_rfl)))))
local macro_rules | `(tactic| walk_at "b") => `(tactic| (first|exact λ_ _ _ _ _ _=>jR.bn1 λ_=>rfl|exact λ_ _ _ _ _ _=>jR.bn2 λ_ _=>rfl|exact λ_ _ _ _ _ _=>jR.bn3 λ_ _ _=>rfl|exact λ_ _ _ _ _ _=>jR.bn4 λ_ _ _ _=>rfl))
def PySem.W.Fast.tw17151291957678765776:=PySem.Challenge.pw_factorforge_k72_whole_no_paper_for_a_who
def PySem.W.Fast.te17151291957678765776:PySem.Challenge.pw_factorforge_k72_whole_no_paper_for_a_who=PySem.W.Fast.tw17151291957678765776:=rfl
set_option maxHeartbeats 0 in
theorem jR.pre (A:jR.AMk):PySem.Challenge.rw_factorforge_k72_whole_no_paper_for_a_who.Holds:=by
 w_on;o_law;k_head;(rotate_left;rotate_right);(· w_witness2)
 k_fill
 refine jR.walk (l:=PySem.Challenge.rw_factorforge_k72_whole_no_paper_for_a_who) rfl rfl (λw h Y=>PySem.W.km_in_of Y) (λw h Y=>L3.Wg (by kernel_rfl) (PySem.W.km_tabs_of Y)) ?F
 case F=>
  intro w i f h d G e
  refine' jR.am A d G e ?T ?a ?l ?c ?k
  case a=>k_is
  case l=>k_is
  case c=>k_is
  case k=>k_is
  case T=>
   constructor
   case Ey=>(refine' b8 d G ?a;(case a=>k_is))
   case Tr=>(refine' b8 d G ?a;(case a=>k_is))
   case SM=>(refine' b8 d G ?a;(case a=>k_is))
   case Om=>(refine' b8 d G ?a;(case a=>k_is))
   case TV=>(refine' b8 d G ?a;(case a=>k_is))
   case VJ=>(refine' b8 d G ?a;(case a=>k_is))
   case W4=>(refine' b8 d G ?a;(case a=>k_is))
   case Mv=>(refine' b8 d G ?a;(case a=>k_is))
   case Ss=>(refine' b8 d G ?a;(case a=>k_is))
   case Lr=>(refine' b8 d G ?a;(case a=>k_is))
   all_goals first|(refine' jR.ado d G ?a ?l ?c ?k ?b;(case a=>k_is);(case l=>k_is);(case c=>k_is);(case k=>k_is);(case b=>walk_at "b"))|(refine' jR.adB d G ?a ?l ?c;(case a=>k_is);(case l=>k_is);(case c=>kernel_rfl))|(refine' PySem.W.mg_none_of d G ?a;(case a=>k_is))|(refine' jR.adt d G ?a;(case a=>k_is))|(refine' jR.acy ?g0 ?l ?c ?k ?n ?b;(case g0=>k_is);(case l=>k_is);(case c=>k_is);(case k=>k_is);(case n=>k_is);(case b=>walk_at "b"))|(refine' jR.abw ?g0 ?g1 ?l ?c ?k ?n ?b;(case g0=>k_is);(case g1=>k_is);(case l=>k_is);(case c=>k_is);(case k=>k_is);(case n=>k_is);(case b=>walk_at "b"))|(refine' jR.abn ?g0 ?g1 ?g2 ?l ?c ?k ?n ?b;(case g0=>k_is);(case g1=>k_is);(case g2=>k_is);(case l=>k_is);(case c=>k_is);(case k=>k_is);(case n=>k_is);(case b=>walk_at "b"))|(refine' jR.adC ?g ?l ?c ?k ?m ?n ?kc ?b;(case g=>k_is);(case l=>k_is);(case c=>k_is);(case k=>k_is);(case m=>k_is);(case n=>k_is);(case kc=>k_is);(case b=>walk_at "b"))|(refine' jR.adl ?g ?l ?c ?k ?m ?n ?b;(case g=>k_is);(case l=>k_is);(case c=>k_is);(case k=>k_is);(case m=>k_is);(case n=>k_is);(case b=>walk_at "b"))|(refine' jR.ac4 ?a;(case a=>k_is))|(refine' jR.acL ?a;(case a=>k_exc))|(constructor<;>k_is)
end
set_option hygiene false
local macro_rules | `('!') => `(by intro _ h;first|(obtain⟨_,rfl,_⟩:=h;rfl)|(obtain⟨_,_,rfl,_⟩:=h;rfl)|(obtain⟨_,_,_,rfl,_⟩:=h;rfl)|(obtain⟨_,_,_,_,rfl,_⟩:=h;rfl)|(obtain⟨_,_,_,_,_,rfl,_⟩:=h;rfl)|(obtain⟨_,_,_,_,_,_,rfl,_⟩:=h;rfl)|(obtain⟨_,_,_,_,_,_,_,rfl,_⟩:=h;rfl)|(obtain⟨_,rfl⟩:=h;rfl)|(obtain⟨_,_,rfl⟩:=h;rfl)|(obtain⟨_,_,_,rfl⟩:=h;rfl))
local macro_rules | `(%[$a|$_]) => `(jq $a ju) | `(%[$a,$b,*|$z]) => `(jq $a %[$b,*|$z])
set_option hygiene true
local macro_rules | `(($x,$z,*)) => `(⟨$x,$z,*⟩)
local macro_rules | `(()) => `(by lia)
local macro_rules | `((())) => `(by decide)
local macro_rules | `($x[$i]!) => `(($x).getD $i 0)
local macro_rules | `($x[$i]'[]) => `(($x).getD $i [])
open _root_.Option renaming some→so
open _root_.List renaming range→ss,replicate→sP
namespace L2
open PySem PySem.Spec PyProof.Rows
theorem Vals.length (r:Vals xs us):xs.length=us.length:=Paired.length r
theorem Vals.get:∀{xs:List V} {us:Lv} {i:Nat} {x:V},Vals xs us->xs[i]?=so x->∃u,us[i]?=so u/\RelV x u
 |_,_,_,_,.nil,e=>by simp at e
 |_,_,0,_,.cons r _,e=>by simp at e;subst e;exact(_,rz,r)
 |_,_,i+1,x,.cons _ t,e=>by obtain⟨u,h,a⟩:=Vals.get (i:=i) (x:=x) t (by simpa using e);exact(u,by simpa using h,a)
theorem Vals.set (r:RelV x u):∀{xs:List V} {us:Lv} (i:Nat),Vals xs us->Vals (xs.set i x) (us.set i u)
 |_,_,_,.nil=>.nil
 |_,_,0,.cons _ t=>.cons r t
 |_,_,i+1,.cons q t=>.cons q (Vals.set r i t)
theorem Vals.append:∀{xs ys:List V} {us w:Lv},Vals xs us->Vals ys w->Vals (xs++ys) (us++w)
 |_,_,_,_,.nil,s=>s
 |_,_,_,_,.cons r t,s=>.cons r (Vals.append t s)
theorem Vals.take:∀{xs:List V} {us:Lv} (n:Nat),Vals xs us->Vals (xs.take n) (us.take n)
 |_,_,0,_=>.nil
 |_,_,_+1,.nil=>.nil
 |_,_,n+1,.cons r t=>.cons r (Vals.take n t)
theorem Vals.drop:∀{xs:List V} {us:Lv} (n:Nat),Vals xs us->Vals (xs.drop n) (us.drop n)
 |_,_,0,r=>r
 |_,_,_+1,.nil=>.nil
 |_,_,n+1,.cons _ t=>Vals.drop n t
theorem Vals.none_of:∀{xs:List V} {us:Lv} {i:Nat},Vals xs us->xs[i]?=none->us[i]?=none:=λ{xs us i} r e=>by have h:=r.length;have a:xs.length<=i:=gS.mp e;exact gS.mpr ()
@[simp] theorem Ce.append_nil (t:Ce):t++(#[]:Array Value)=t:=by obtain⟨q,p⟩:=t;show Ce.mk q (p ++ #[])=(q,p);rw[Array.append_empty]
theorem Ce.append_assoc (t:Ce)(a b:Array Value):t++a++b=t++(a++b):=by obtain⟨q,p⟩:=t;show Ce.mk q (p++a++b)=(q,p++(a++b));rw[Array.append_assoc]
def upd (H:Hp)(a:Addr)(o:HO):Hp:=λb=>if b=a then so o else H b
theorem upd_same:upd H a o a=so o:=by unfold upd;rw[aL rfl]
theorem upd_ne (h:b≠a):upd H a o b=H b:=by unfold upd;rw[aF h]
theorem upd_upd:upd (upd H a o) a u=upd H a u:=by funext b;unfold upd;split<;>rfl
theorem ne_of_none {H:Hp}{a b:Addr}{o:HO}(h:H a=so o)(h':H b=none):a≠b:=by intro e;subst e;rw[h]at h';cases h'
section
variable {P:Program}{w:World}{H i:Hp}{h h':Heap}{a:Addr}{o:HO}
theorem ObjOk.lt (x:ObjOk P w H h a o):a<h.objs.size:=by
 cases o with
 |lst xs=>obtain⟨_,_,_,_,e⟩:=x;exact aE e
 |tup xs=>obtain⟨_,_,_,p⟩:=x;exact p.lt
 |ins C d fs=>obtain⟨_,_,_,e,_⟩:=x;exact aE e
 |own y=>obtain⟨_,e⟩:=x;exact aE e
 |frz ob u=>obtain⟨e,_⟩:=x;exact aE e
 |tbl g=>exact aE x.1
 |ext j=>obtain⟨_,⟨_,e⟩,_⟩:=x;exact aE e
theorem ObjOk.stay (x:ObjOk P w H h a o)(k:∀b u,(b=a\/H b=so (.own a))->h.get? b=so u->h'.get? b=so u)
  (I:∀b,H b=so (.own a)->i b=so (.own a)) (J:∀b xs,H b=so (.tup xs)->i b=so (.tup xs)) (L:∀b o u,H b=so (.frz o u)->i b=so (.frz o u):=by intro _ _ _ q;exact q):ObjOk P w i h' a o:=by
 induction o with
 |lst xs=>obtain⟨z,m,n,r,e⟩:=x;exact(z,m,n,r,k _ _ (.inl rz) e)
 |tup xs=>obtain⟨z,m,r,ob,e,c⟩:=x;exact(z,m,r,ob,k _ _ (.inl rz) e,c)
 |ins C Q fs=>obtain⟨d,z,N,e,A,⟨B,l,j,F,c⟩,r⟩:=x;exact(I _ d,z,N,k _ _ (.inl rz) e,A,(B,l,j,k _ _ (.inr d) F,c),r)
 |own y=>obtain⟨ob,e⟩:=x;exact(ob,k _ _ (.inl rz) e)
 |frz ob u M=>obtain⟨e,q⟩:=x;exact(k _ _ (.inl rz) e,M q)
 |tbl U=>obtain⟨e,t,g⟩:=x;exact(k a _ (.inl rz) e,t,λp E G=>let (c,oc,u,y,z,q):=g p E G;(c,oc,u,y,L _ _ _ z,q))
 |ext Y=>obtain⟨p,⟨o,e⟩,D⟩:=x;exact(D _ _ p λo q=>k _ _ (.inl rz) q,(o,k _ _ (.inl rz) e),D)
theorem HOk.lt (x:HOk P w H h)(e:H a=so o):a<h.objs.size:=(x a o e).lt
theorem HOk.fresh (x:HOk P w H h)(e:h.objs.size<=a):H a=none:=by
 cases q:H a with
 |none=>rfl
 |some u=>exact absurd (aQ (x.lt q) e) (cE _)
theorem HOk.kept (x:HOk P w H h)(k:∀b u,h.get? b=so u->h'.get? b=so u):HOk P w H h':=λa o e=>
 (x a o e).stay (λb u _ q=>k b u q) (λ_ q=>q) λ_ _ q=>q
theorem HOk.laid (x:HOk P w H h)(k:∀b u,h.get? b=so u->h'.get? b=so u)(g:h.objs.size<=a)(new:ObjOk P w (upd H a o) h' a o):HOk P w (upd H a o) h':=λb u e=>by
 have d:=x.fresh g;by_cases f:b=a
 .subst f;rw[upd_same]at e;cases e;exact new
 .rw[upd_ne f]at e;exact(x b u e).stay (λc v _ q=>k c v q) (λc q=>by rw[upd_ne (ne_of_none q d)];exact q) (λc xs q=>by rw[upd_ne (ne_of_none q d)];exact q) λc _ _ q=>by rw[upd_ne (ne_of_none q d)];exact q
end
theorem Rd.ok (r:Rd H a u)(x:HOk P w H h):ObjOk P w H h a u:=by
 rcases r with r|⟨o,r⟩
 .exact x a u r
 .obtain⟨_,q⟩:=x a _ r;exact q
def Mut:Option HO->Prop
 |some (.lst _)=>True
 |some (.ins _ _ _)=>True
 |some (.ext _)=>True
 |_=>False
section
variable {P:Program}{w:World}{H:Hp}{h h':Heap}{x e:Addr}{O:HO}
theorem HOk.write (ok:HOk P w H h)(mu:Mut (H x))(l:e=x\/H e=so (.own x))(k:∀b u,b≠e->h.get? b=so u->h'.get? b=so u)(j:∃u,h'.get? e=so u)
  (new:ObjOk P w (upd H x O) h' x O):HOk P w (upd H x O) h':=λb u q=>by
 have n:∀c y,H c=so (.own y)->c≠x:=λc y r z=>by subst z;rw[r]at mu;exact mu
 have f:∀c xs,H c=so (.tup xs)->c≠x:=λc xs r z=>by subst z;rw[r]at mu;exact mu
 have d:∀c o u,H c=so (.frz o u)->c≠x:=λc o u r z=>by subst z;rw[r]at mu;exact mu
 by_cases g:b=x
 .subst g;rw[upd_same]at q;cases q;exact new
 .rw[upd_ne g]at q;by_cases a:b=e
  .have m:H b=so (.own x):=by
    rcases l with z|z
    .exact absurd (a.trans z) g
    .rw[a];exact z
   rw[q]at m;cases m;obtain⟨v,p⟩:=j;exact(v,by rw[a];exact p)
  .refine(ok b u q).stay (λc v i r=>k c v ?_ r) (λc r=>by rw[upd_ne (n c b r)];exact r) (λc xs r=>by rw[upd_ne (f c xs r)];exact r) λc o u r=>by rw[upd_ne (d c o u r)];exact r
   rcases i with rfl|i
   .exact a
   .rintro rfl;rcases l with z|z
    .exact n c b i z
    .rw[i]at z;cases z;exact g rfl
end
section
variable {fs f ex E:List Addr}{H d g:Hp}{h c i h':Heap}{a x e:Addr}{o:HO}
theorem Un.any (u:Un fs ex H d h c)(q:h.get? b=so ob)(n:H b=none)(k:b∉ex):∃sl,c.get? b=so { ob with slots:=sl }:=by
 by_cases j:b∈fs
 .exact u.slot b ob q n j k
 .exact(ob.slots,u.keep b ob q n j k)
theorem Un.kept (k:∀b u,h.get? b=so u->h'.get? b=so u):Un fs ex H H h h':=
 (λb ob q _ _ _=>k b ob q,λb ob q _ _ _=>(ob.slots,k b ob q),λ_ _ _ n _=>n,λb ob q _=>(ob,k b ob q),λ_ _ q=>q,λ_ _ _ q=>q,λ_ p q=>(#[],by rw[q];simp))
theorem Un.refl:Un fs ex H H h h:=Un.kept λ_ _ q=>q
theorem Un.laid (k:∀b u,h.get? b=so u->h'.get? b=so u)(l:h.objs.size<=a)(j:H a=none):Un fs ex H (upd H a o) h h' where
 keep:=λb u q _ _ _=>k b u q
 slot:=λb u q _ _ _=>(u.slots,k b u q)
 free:=λb u q n _=>by rw[upd_ne (aZ (aQ (aE q) l))];exact n
 there:=λb u q _=>(u,k b u q)
 tups:=λb xs q=>by rw[upd_ne (ne_of_none q j)];exact q
 frzs:=λb u xs q=>by rw[upd_ne (ne_of_none q j)];exact q
 tbls:=λb p q=>(#[],by rw[upd_ne (ne_of_none q j),q];simp)
theorem Un.write (mu:Mut (H x))(t:e=x\/H e=so (.own x))(k:∀b u,b≠e->h.get? b=so u->h'.get? b=so u)(l:∃u,h'.get? e=so u):Un fs ex H (upd H x o) h h':=by
 have s:∀b,H b=none->b≠x:=λb n z=>by subst z;rw[n]at mu;exact mu
 have p:∀b,H b=none->b≠e:=λb n z=>by
  subst z;rcases t with r|r
  .exact s b n r
  .rw[n]at r;cases r
 have m:∀b u,H b=so u->¬Mut (so u)->b≠x:=λb u q v z=>by subst z;rw[q]at mu;exact v mu
 refine(λb u q n _ _=>k b u (p b n) q,λb u q n _ _=>(u.slots,k b u (p b n) q),λb u q n _=>by rw[upd_ne (s b n)];exact n,λb u q _=>?_,
  λb xs q=>by rw[upd_ne (m b _ q λz=>z)];exact q,λb u xs q=>by rw[upd_ne (m b _ q λz=>z)];exact q,λb w q=>(#[],by rw[upd_ne (m b _ q λz=>z),q];simp))
 by_cases j:b=e
 .subst j;exact l
 .exact(u,k b u j q)
end
def allNews (g h:Heap)(L:Addr):List (Addr×Obj):=(ss h.objs.size).filterMap λa=>if a=L\/(g.get? a).isSome=true then none else(h.get? a).map λo=>(a,o)
theorem mem_allNews (d:a≠L)(e:g.get? a=none)(c:h.get? a=so o):(a,o)∈allNews g h L:=
 dY.mpr (a,bA.mpr (aE c),by simp[d,e,c])
theorem of_mem_allNews (c:p∈allNews g h L):p.1≠L/\g.get? p.1=none/\h.get? p.1=so p.2:=by
 obtain⟨b,_,e⟩:=dY.mp c;split at e
 .cases e
 .rename_i a;cases q:h.get? b with
  |none=>rw[q]at e;simp at e
  |some u=>
   rw[q]at e;simp only[d7,Option.some.injEq]at e;subst e;refine(λz=>a (.inl z),?_,q);show g.get? b=none;cases r:g.get? b with
   |none=>rfl
   |some v=>exact(a (.inr (by simp[r]))).elim
def rest (g h:Heap)(L d:Addr):List (Addr×Obj):=(allNews g h L).filter λp=>decide (p.1≠d)
theorem news_all:News g L h (allNews g h L):=λp d=>let (a,b,c):=of_mem_allNews d;(c,a,b)
structure Cx where
 prog:Program
 w:World
 K:Fg
 mg:Str->Option Value
 base:Heap
 A:Around
 N:List Str
 s₀:Shared
 H₀:Hp
 env:Env
 outer:List Env
 stack:List Env
 ex:List Addr
 fn:Str->Bool
 calm:Bool
 pn:List (Addr×Obj)
 xe:Value->Shared->Prop
abbrev Cx.fs (X:Cx):List Addr:=frs X.outer
def Vis (sc:Scope)(x:Str):Prop:=sc.names.lookup x=so .local\/sc.names.lookup x=so .cell\/sc.names.lookup x=so .free
def Loc (sc:Scope)(x:Str):Prop:=sc.names.lookup x=so .local\/sc.names.lookup x=so .cell
def Look (env:Env)(h:Heap)(m:Mg)(x:Str)(u:Value):Prop:=
 (env.kindOf x=so .local/\m x=so u)\/((env.kindOf x=so .cell\/env.kindOf x=so .free)/\∃c,env.cells.lookup x=so c/\h.IsCell c (so u))
structure Cx.Ok (X:Cx):Prop where
 mod:Mod X.K X.mg X.base
 kind:X.env.scope.kind=.function
 glob:X.env.globals=mainGlobals
 blt:X.env.builtins=builtinsNs
 above:X.s₀.heap.objs.size<=X.env.locals
 inj:∀x y c,X.env.cells.lookup x=so c->X.env.cells.lookup y=so c->x=y
 has:∀x,(X.env.kindOf x=so .cell\/X.env.kindOf x=so .free)->∃c,X.env.cells.lookup x=so c
 cab:∀x c,X.fn x=true->X.env.cells.lookup x=so c->X.s₀.heap.objs.size<=c
 hd:X.calm=true->X.A.handled=none
 frames:X.A.frames=so X.stack
 stk:X.stack=X.outer\/(X.stack=X.env::X.outer/\X.env.frame=so X.env.locals)
 exf:∀b∈X.ex,b≠X.env.locals/\∀x c,X.env.cells.lookup x=so c->c≠b
 bs:∀b o,X.base.get? b=so o->X.s₀.heap.get? b=so o/\X.H₀ b=none
 bsz:X.base.objs.size<=X.s₀.heap.objs.size
 noex:∀b o,X.base.get? b=so o->b∉X.ex
 exfs:∀b∈X.ex,b∉X.fs
 funs:X.s₀.heap.FunFrames X.base X.outer
 frf:Frf X.K X.H₀ X.fs
structure Inv (X:Cx)(pins:List (Addr×Obj))(σ:List (Option V))(H:Hp)(s:Shared):Prop where
 ok:X.Ok
 os:s.os=X.s₀.os
 bare:AllBare s.gens
 base:Un X.fs X.ex X.H₀ H X.s₀.heap s.heap
 loc:∃m,s.heap.Ns X.env.locals m/\∀(i:Nat) (x:Str) (v:V),X.N[i]?=so x->σ[i]?=so (so v)->Vis X.env.scope x->∃u,RelV v u/\Look X.env s.heap m x u
 cell:∀x c,X.env.cells.lookup x=so c->∃v,s.heap.IsCell c v
 free:H X.env.locals=none
 freeC:∀x c,X.env.cells.lookup x=so c->H c=none
 pin:∀p∈X.pn++pins,s.heap.get? p.1=so p.2/\H p.1=none/\p.1≠X.env.locals/\p.1∉X.fs/\∀v,p.2.data ≠ .cell v
 hok:HOk X.prog X.w H s.heap
 len:σ.length=X.N.length
section
variable {X:Cx}{P:List (Addr×Obj)}{f:List (Option V)}{H g:Hp}{s:Shared}{h':Heap}
theorem Cx.Ok.nofr (ok:X.Ok)(e:X.base.get? b=so o):b∉X.fs:=λh=>by have:=(ok.funs.mem h).1;rw[e]at this;cases this
theorem Inv.bs (I:Inv X P f H s):∀b o,X.base.get? b=so o->s.heap.get? b=so o/\H b=none:=λb o e=>
 (I.base.keep b o (I.ok.bs b o e).1 (I.ok.bs b o e).2 (I.ok.nofr e) (I.ok.noex b o e),I.base.free b o (I.ok.bs b o e).1 (I.ok.bs b o e).2 (I.ok.noex b o e))
theorem Inv.bk (I:Inv X P f H s):∀b o,X.base.get? b=so o->s.heap.get? b=so o:=λb o e=>(I.bs b o e).1
theorem Inv.mod (I:Inv X P f H s):Mod X.K X.mg X.base:=I.ok.mod
theorem Inv.kIn (I:Inv X P f H s):X.K.In s.heap:=I.ok.mod.kin.keeps I.bk
theorem Inv.fr (I:Inv X P f H s):∃m,Fr X.base X.env.locals s.heap m:=
 let (m,hn,_):=I.loc
 (m,hn,I.bk,aj I.ok.bsz I.ok.above)
theorem Inv.lt (I:Inv X P f H s):X.env.locals<s.heap.objs.size:=let (_,hn,_):=I.loc;hn.lt
theorem Inv.sz (I:Inv X P f H s):X.s₀.heap.objs.size<=s.heap.objs.size:=aj I.ok.above (a7 I.lt)
theorem Inv.nofs (I:Inv X P f H s){a:Addr}(h:s.heap.objs.size<=a):a∉X.fs:=λc=>by obtain⟨_,o,d,_⟩:=I.ok.funs.mem c;exact absurd (aQ (aE d) (aj I.sz h)) (cE _)
theorem Inv.cne (I:Inv X P f H s):∀x c,X.env.cells.lookup x=so c->c≠X.env.locals:=λx c e z=>by obtain⟨v,o,i,d⟩:=I.cell x c e;obtain⟨m,⟨l,k,j,a,h,_⟩,_⟩:=I.loc;rw[z,a]at i;cases i;rw[h]at d;cases d
theorem Inv.funs (I:Inv X P f H s):s.heap.FunFrames X.base X.outer:=by
 have all:∀(l:List Env),(∀b∈frs l,b∈X.fs)->X.s₀.heap.FunFrames X.base l->s.heap.FunFrames X.base l:=by
  intro l
  induction l with
  |nil=>intro _ _;trivial
  |cons i r u=>rintro d ⟨k,⟨L,o,c,n,p,j⟩,t⟩;have h:L∈X.fs:=d L (by unfold frs;rw[bN,c];exact az);obtain⟨sl,e⟩:=I.base.slot L o p (I.ok.frf.f L h) h λz=>I.ok.exfs L z h;exact(k,(L,_,c,n,e,j),u (λb a=>d b (by unfold frs;rw[bN,c];exact ai _ a)) t)
 exact all X.outer (λ_ a=>a) I.ok.funs
theorem Inv.stack (I:Inv X P f H s):s.heap.FunFrames X.base X.stack:=by
 rcases I.ok.stk with e|⟨e,hf⟩
 .rw[e];exact I.funs
 .rw[e];obtain⟨m,h,_⟩:=I.loc;refine .cons (by rw[I.ok.kind];decide) hf h ?_ I.funs;exact fW (aj I.ok.bsz I.ok.above)
theorem Inv.stkSub (I:Inv X P f H s):∀b∈frs X.stack,b∈X.env.locals::X.fs:=λb h=>by
 rcases I.ok.stk with e|⟨e,hf⟩
 .rw[e]at h;exact ai _ h
 .rw[e]at h;unfold frs at h;rw[bN,hf]at h;exact h
theorem Inv.stkFree (I:Inv X P f H s):∀b∈frs X.stack,H b=none:=λb h=>by
 rcases aG.mp (I.stkSub b h) with e|h
 .rw[e];exact I.free
 .obtain⟨_,o,a,_⟩:=I.ok.funs.mem h;exact I.base.free b o a (I.ok.frf.f b h) λz=>I.ok.exfs b z h
theorem Inv.step {g':Array GenState}{t':Nat}{d':Drawn}{ch:List Addr}(I:Inv X P f H s)
  (j:∀b∈ch,(b∈X.ex\/X.s₀.heap.objs.size<=b)/\b≠X.env.locals/\(∀x c,X.env.cells.lookup x=so c->c≠b)/\∀p∈X.pn++P,p.1≠b)
  (t:∀b o,b≠X.env.locals->b∉X.fs->b∉ch->s.heap.get? b=so o->H b=none->h'.get? b=so o)
  (B:∀b o,b≠X.env.locals->b∈X.fs->b∉ch->s.heap.get? b=so o->H b=none->∃sl,h'.get? b=so { o with slots:=sl }) (free:∀b o,b∉ch->s.heap.get? b=so o->H b=none->g b=none)
  (D:∀b o,b∉ch->s.heap.get? b=so o->∃L,h'.get? b=so L)
  (N:∀b xs,H b=so (.tup xs)->g b=so (.tup xs)) (G:∀b o u,H b=so (.frz o u)->g b=so (.frz o u)) (M:∀b O,H b=so (.tbl O)->∃more:Array Value,g b=so (.tbl (O++more)))
  (ns:∀m,s.heap.Ns X.env.locals m->h'.Ns X.env.locals m) (R:HOk X.prog X.w g h') (hg:AllBare g') :
  Inv X P f g { s with heap:=h',gens:=g',drawn:=d',toks:=t' }:=by
 have J:∀b o,X.s₀.heap.get? b=so o->b≠X.env.locals:=λb o e=>aZ (aQ (aE e) I.ok.above);have A:∀b o,X.s₀.heap.get? b=so o->b∉X.ex->b∉ch:=λb o e h C=>by
  rcases (j b C).1 with z|z
  .exact h z
  .exact absurd (aQ (aE e) z) (cE _)
 have a:∀x c,X.env.cells.lookup x=so c->∀v,s.heap.IsCell c v->h'.IsCell c v:=λx c e v (o,E,Q)=>by
  have w:c∉ch:=λz=>(j c z).2.2.1 x c e rfl;by_cases T:c∈X.fs
  .obtain⟨sl,q⟩:=B c o (I.cne x c e) T w E (I.freeC x c e);exact(_,q,Q)
  .exact(o,t c o (I.cne x c e) T w E (I.freeC x c e),Q)
 refine(I.ok,I.os,hg,(λb o e n C h=>?_,λb o e n C h=>?_,λb o e n h=>?_,λb o e h=>?_,λb xs e=>N b xs (I.base.tups b xs e),λb o xs e=>G b o xs (I.base.frzs b o xs e),λb O e=>?_),?_,λx c e=>?_,?_,λx c e=>?_,λp U=>?_,R,I.len)
 .exact t b o (J b o e) C (A b o e h) (I.base.keep b o e n C h) (I.base.free b o e n h)
 .obtain⟨sl,y⟩:=I.base.slot b o e n C h;obtain⟨S,F⟩:=B b _ (J b o e) C (A b o e h) y (I.base.free b o e n h);exact(S,F)
 .obtain⟨L,y⟩:=I.base.there b o e h;exact free b L (A b o e h) y (I.base.free b o e n h)
 .obtain⟨L,y⟩:=I.base.there b o e h;exact D b L (A b o e h) y
 .obtain⟨m1,y⟩:=I.base.tbls b O e;obtain⟨m2,F⟩:=M b _ y;exact(m1++m2,by rw[F,Ce.append_assoc])
 .obtain⟨m,hn,hl⟩:=I.loc;refine(m,ns m hn,λi x v y F e3=>?_);obtain⟨u,r,l⟩:=hl i x v y F e3;refine(u,r,?_);rcases l with l|⟨k,c,e,z⟩
  .exact .inl l
  .exact .inr (k,c,e,a x c e _ z)
 .obtain⟨v,z⟩:=I.cell x c e;exact(v,a x c e v z)
 .obtain⟨m,⟨o,_,_,E,_⟩,_⟩:=I.loc;exact free _ o (λz=>(j _ z).2.1 rz) E I.free
 .obtain⟨v,o,E,Q⟩:=I.cell x c e;exact free c o (λz=>(j c z).2.2.1 x c e rz) E (I.freeC x c e)
 .obtain⟨e,n,Y,Z,d⟩:=I.pin p U;have w:p.1∉ch:=λz=>(j p.1 z).2.2.2 p U rfl;exact(t p.1 p.2 Y Z w e n,free p.1 p.2 w e n,Y,Z,d)
theorem Inv.un {t':Nat}(I:Inv X P f H s)(u:Un X.fs [] H g s.heap h')(i:HOk X.prog X.w g h'):Inv X P f g { s with heap:=h',toks:=t' }:=by
 obtain⟨m,⟨o,v,t,j,r⟩,_⟩:=id I.loc;obtain⟨sl,k⟩:=u.any j I.free (by simp);exact I.step (g':=s.gens) (d':=s.drawn) (ch:=[]) (λ_ z=>nomatch z) (λb o _ d _ e n=>u.keep b o e n d (by simp)) (λb o _ d _ e n=>u.slot b o e n d (by simp)) (λb o _ e n=>u.free b o e n (by simp)) (λb o _ e=>u.there b o e (by simp)) u.tups u.frzs u.tbls (λw l=>by
  obtain⟨x,c,a,h,p⟩:=l;rw[j]at h;cases h;exact(_,c,a,k,p)) i I.bare
theorem Inv.call {g':Array GenState}{t':Nat}{d':Drawn}{ch:List Addr}(I:Inv X P f H s)(u:Un (frs X.stack) ch H g s.heap h')(l:HOk X.prog X.w g h')(w:AllBare g')
  (a:∀b∈ch,(b∈X.ex\/X.s₀.heap.objs.size<=b)/\b≠X.env.locals/\(∀x c,X.env.cells.lookup x=so c->c≠b)/\∀p∈X.pn++P,p.1≠b) :
  Inv X P f g { s with heap:=h',gens:=g',drawn:=d',toks:=t' }:=by
 obtain⟨m,⟨o,C,B,t,r⟩,_⟩:=id I.loc;obtain⟨sl,k⟩:=u.any t I.free λz=>(a _ z).2.1 rfl;exact I.step (ch:=ch) a (λb o k v h e n=>u.keep b o e n (λz=>(aG.mp (I.stkSub b z)).elim k v) h) (λb o _ _ h e n=>u.any e n h) (λb o h e n=>u.free b o e n h) (λb o h e=>u.there b o e h) u.tups u.frzs u.tbls (λD y=>by
  obtain⟨E,j,i,d,A⟩:=y;rw[t]at d;cases d;exact(_,j,i,k,A)) l w
theorem Inv.turned {t':Nat}{i:Addr}(I:Inv X P f H s)(k:∀b o,b≠i->s.heap.get? b=so o->h'.get? b=so o)(C:H i=none)(d:i≠X.env.locals)
  (t:i∈X.ex\/X.s₀.heap.objs.size<=i) (w:∀x c,X.env.cells.lookup x=so c->c≠i) (y:∀p∈X.pn++P,p.1≠i):Inv X P f H { s with heap:=h',toks:=t' }:=by
 have a:∀b u,H b=so u->b≠i:=λb u e z=>by rw[z,C]at e;cases e
 refine I.step (g':=s.gens) (d':=s.drawn) (ch:=[i]) (λb A=>?_) (λb o _ _ h e _=>k b o (λz=>h (by simp[z])) e) (λb o _ _ h e _=>(o.slots,k b o (λz=>h (by simp[z])) e)) (λ_ _ _ _ n=>n)
  (λb o h e=>(o,k b o (λz=>h (by simp[z])) e)) (λ_ _ e=>e) (λ_ _ _ e=>e) (λb E e=>(#[],by rw[e];simp)) (λm B=>?_) (λb u e=>?_) I.bare
 .have e:b=i:=by simpa using A
  subst e;exact(t,d,w,y)
 .obtain⟨o,l,j,D,r⟩:=B;exact(o,l,j,k _ o (de d) D,r)
 .refine(I.hok b u e).stay (λc v h q=>k c v ?_ q) (λ_ q=>q) λ_ _ q=>q;rcases h with z|z
  .rw[z];exact a b u e
  .exact a c _ z
theorem Inv.tok (I:Inv X P f H s)(t:Nat):Inv X P f H { s with toks:=t }:=I.un (h':=s.heap) (t':=t) Un.refl I.hok
theorem Inv.kept (I:Inv X P f H s)(k:∀b u,s.heap.get? b=so u->h'.get? b=so u):Inv X P f H { s with heap:=h',toks:=t' }:=I.un (Un.kept k) (I.hok.kept k)
theorem Inv.laid {a:Addr}{o:HO}{t':Nat}(I:Inv X P f H s)(k:∀b u,s.heap.get? b=so u->h'.get? b=so u)(h:s.heap.objs.size<=a)(new:ObjOk X.prog X.w (upd H a o) h' a o) :
  Inv X P f (upd H a o) { s with heap:=h',toks:=t' }:=I.un (Un.laid k h (I.hok.fresh h)) (I.hok.laid k h new)
theorem Inv.write (I:Inv X P f H s)(mu:Mut (H x))(a:e=x\/H e=so (.own x))(k:∀b u,b≠e->s.heap.get? b=so u->h'.get? b=so u)(h:∃u,h'.get? e=so u)
  (new:ObjOk X.prog X.w (upd H x o) h' x o):Inv X P f (upd H x o) { s with heap:=h',toks:=t' }:=I.un (Un.write mu a k h) (I.hok.write mu a k h new)
theorem Inv.weak (I:Inv X P f H s)(hl:σ'.length=f.length)(w:∀(i:Nat) v,σ'[i]?=so (so v)->f[i]?=so (so v)):Inv X P σ' H s:=
 (I.ok,I.os,I.bare,I.base,let (m,hn,hl'):=I.loc;(m,hn,λi x v e a c=>hl' i x v e (w i v a) c),I.cell,I.free,I.freeC,I.pin,I.hok,hl.trans I.len)
theorem Inv.pins_of (I:Inv X P f H s)(h:∀p∈pins',s.heap.get? p.1=so p.2/\H p.1=none/\p.1≠X.env.locals/\p.1∉X.fs/\∀v,p.2.data ≠ .cell v):Inv X pins' f H s:=
 (I.ok,I.os,I.bare,I.base,I.loc,I.cell,I.free,I.freeC,λp a=>(cF.mp a).elim (λz=>I.pin p (cM _ z)) (h p),I.hok,I.len)
theorem nodup_ix {N:Ls}(h:N.Nodup){i j:Nat}{x:Str}(a:N[i]?=so x)(b:N[j]?=so x):i=j:=by obtain⟨d,e⟩:=ah.mp a;obtain⟨k,c⟩:=ah.mp b;exact(List.getElem_inj h).mp (e.trans c.symm)
theorem store_ok2 {M:Model}{A:Around}{E:Value->Shared->Prop}{i:Nat}{x:Str}{v:V}{u:Value}{Q:Unit->Shared->Prop}(I:Inv X P f H s)(hN:X.N.Nodup)(T:X.N[i]?=so x)(C:Loc X.env.scope x)(r:RelV v u)
  (h:∀s',Inv X P (f.set i (so v)) H s' -> (∃a,Heap.SameBut a s.heap s'.heap/\(a=X.env.locals\/X.env.cells.lookup x=so a))->Q Unit.unit s') (hf:X.fn x=true\/X.env.scope.names.lookup x=so .local:=by walk_at "w"):wpAny M A (storeName X.env x u) Q E s:=by
 obtain⟨m,hn,hl⟩:=id I.loc;have S:(X.env.scope.kind == .class || (X.env.scope.kind == .module && X.env.locals != X.env.globals))=false:=by rw[I.ok.kind];rfl
 have G:i<f.length:=by rw[I.len];exact(ah.mp T).1
 have cne:=I.cne;have w:∀{a:Addr} {h':Heap},(∃o,s.heap.get? a=so o/\H a=none)->Heap.SameBut a s.heap h' -> HOk X.prog X.w H h':=λ{a h'} ha l b ob e=>by
  obtain⟨_,_,D⟩:=ha;refine(I.hok b ob e).stay (λc w' B q=>(l.2 c ?_).trans q) (λ_ q=>q) λ_ _ q=>q;rintro rfl;rcases B with rfl|B
  .rw[D]at e;cases e
  .rw[D]at B;cases B
 rcases C with hk|hk
 .refine wpAny_storeName_local hk hn (λh' hn' l=>?_) S;obtain⟨oL,_,_,hoL,_⟩:=id hn;refine h _ (I.ok,I.os,I.bare,(λb o e n J C=>?_,λb o e n J C=>?_,I.base.free,λb o e C=>?_,I.base.tups,I.base.frzs,I.base.tbls),(_,hn',λj y v' t F e3=>?_),λy c e=>?_,I.free,I.freeC,λp hp=>?_,w (oL,hoL,I.free) l,by simpa using I.len) (_,l,.inl rz)
  .exact(l.2 b (aZ (aQ (aE e) I.ok.above))).trans (I.base.keep b o e n J C)
  .obtain⟨sl,t⟩:=I.base.slot b o e n J C;exact(sl,(l.2 b (aZ (aQ (aE e) I.ok.above))).trans t)
  .obtain⟨o',t⟩:=I.base.there b o e C;exact(o',(l.2 b (aZ (aQ (aE e) I.ok.above))).trans t)
  .by_cases N:j=i
   .subst N;rw[T]at t;cases t;rw[dU G]at F;cases F;exact(u,r,.inl (hk,by simp))
   .rw[cN (de N)]at F;obtain⟨u',r',q⟩:=hl j y v' t F e3;refine(u',r',?_);rcases q with⟨k,e⟩|⟨k,c,e,z⟩
    .refine .inl (k,?_);have:y≠x:=λe=>N (nodup_ix hN t (e ▸ T));simp[this,e]
    .exact .inr (k,c,e,z.sameBut l (cne y c e))
  .obtain⟨w',z⟩:=I.cell y c e;exact(w',z.sameBut l (cne y c e))
  .obtain⟨e,n,ne,nf,d⟩:=I.pin p hp;exact((l.2 p.1 ne).trans e,n,ne,nf,d)
 .have L:X.fn x=true:=by
   rcases hf with z|z
   .exact z
   .rw[z]at hk;cases hk
  obtain⟨c,B⟩:=I.ok.has x (.inl hk);obtain⟨w',z⟩:=I.cell x c B;refine wpAny_storeName_cell I.ok.kind hk B z (λh' O l=>?_);obtain⟨oc,U,Y⟩:=id z;refine h { s with heap:=h' } (I.ok,I.os,I.bare,(λb o e n J C=>?_,λb o e n J C=>?_,I.base.free,λb o e C=>?_,I.base.tups,I.base.frzs,I.base.tbls),(m,hn.sameBut l (de (cne x c B)),λj y v' t F e3=>?_),λy Z e=>?_,I.free,I.freeC,λp hp=>?_,w (oc,U,I.freeC x c B) l,by simpa using I.len) (c,l,.inr B)
  .exact(l.2 b (aZ (aQ (aE e) (I.ok.cab x c L B)))).trans (I.base.keep b o e n J C)
  .obtain⟨sl,t⟩:=I.base.slot b o e n J C;exact(sl,(l.2 b (aZ (aQ (aE e) (I.ok.cab x c L B)))).trans t)
  .obtain⟨o',t⟩:=I.base.there b o e C;exact(o',(l.2 b (aZ (aQ (aE e) (I.ok.cab x c L B)))).trans t)
  .by_cases N:j=i
   .subst N;rw[T]at t;cases t;rw[dU G]at F;cases F;exact(u,r,.inr (.inl hk,c,B,O))
   .rw[cN (de N)]at F;obtain⟨u',r',q⟩:=hl j y v' t F e3;refine(u',r',?_);rcases q with q|⟨k,Z,e,z'⟩
    .exact .inl q
    .refine .inr (k,Z,e,z'.sameBut l ?_);rintro rfl;exact N (nodup_ix hN t (I.ok.inj _ _ _ e B ▸ T))
  .by_cases R:Z=c
   .subst R;exact(_,O)
   .obtain⟨w2,z2⟩:=I.cell y Z e;exact(w2,z2.sameBut l R)
  .obtain⟨e,n,ne,nf,d⟩:=I.pin p hp;refine((l.2 p.1 ?_).trans e,n,ne,nf,d);intro q;rw[q,U]at e;have q':oc=p.2:=aJ e;exact d w' (by rw[<-q'];exact Y)
theorem store_ok (I:Inv X P f H s)(c:X.N.Nodup)(e:X.N[i]?=so x)(j:Loc X.env.scope x)(r:RelV v u)
  (h:∀s',Inv X P (f.set i (so v)) H s' -> Q Unit.unit s') (d:X.fn x=true\/X.env.scope.names.lookup x=so .local:=by walk_at "w"):wpAny M A (storeName X.env x u) Q E s:=
 store_ok2 I c e j r (λs' a _=>h s' a) d
theorem Inv.call' (I:Inv X P f H s)(i:s'.os=s.os)(u:Un (frs X.stack) ch H g s.heap s'.heap)(a:HOk X.prog X.w g s'.heap)(d:AllBare s'.gens)
  (h:∀b∈ch,(b∈X.ex\/X.s₀.heap.objs.size<=b)/\b≠X.env.locals/\(∀x c,X.env.cells.lookup x=so c->c≠b)/\∀p∈X.pn++P,p.1≠b):Inv X P f g s':=by
 obtain⟨h',g',d',t',o⟩:=s';have e:o=s.os:=i;subst e;exact I.call (g':=g') (t':=t') (d':=d') u a d h
end
abbrev St:=List (Option V)
abbrev TE:=St->Hp->VK->Prop
abbrev TT:=St->Hp->(Bool->Hp->Prop)->Prop
abbrev TA:=St->Hp->(List V->Hp->Prop)->Prop
structure Ends where
 nx:St->Hp->Prop
 rt:VK
 bk:St->Hp->Prop:=λ_ _=>False
 ct:St->Hp->Prop:=λ_ _=>False
abbrev TS:=Ends->St->Hp->Prop
def EP (X:Cx)(p:List (Addr×Obj))(a:St)(Q:VK)(u:Value)(s':Shared):Prop:=∃v h,Inv X p a h s'/\RelV v u/\Q v h
def TP (X:Cx)(p:List (Addr×Obj))(a:St)(Q:Bool->Hp->Prop)(b:Bool)(s':Shared):Prop:=∃h,Inv X p a h s'/\Q b h
def AP (X:Cx)(p:List (Addr×Obj))(a:St)(Q:List V->Hp->Prop)(us:List Value)(s':Shared):Prop:=∃v h,Inv X p a h s'/\Vals v us/\Q v h
def SP (X:Cx)(p:List (Addr×Obj))(D:Ends)(f:Flow)(s':Shared):Prop:=
 match f with
 | .next=>∃a h,Inv X p a h s'/\D.nx a h
 | .brk=>∃a h,Inv X p a h s'/\D.bk a h
 | .cont=>∃a h,Inv X p a h s'/\D.ct a h
 | .ret u=>∃v a h,Inv X p a h s'/\RelV v u/\D.rt v h
def PE (X:Cx)(e:Expr)(t:TE):Prop:=
 ∀(p:List (Addr×Obj)) (s:Shared) (σ:St) (H:Hp) (Q:VK),Inv X p σ H s->t σ H Q->wpAny (model X.prog X.w) X.A (eval e X.env) (EP X p σ Q) X.xe s
def PT (X:Cx)(e:Expr)(t:TT):Prop:=
 ∀(p:List (Addr×Obj)) (s:Shared) (σ:St) (H:Hp) (Q:Bool->Hp->Prop),Inv X p σ H s->t σ H Q->wpAny (model X.prog X.w) X.A (isTrue e X.env (eval e X.env)) (TP X p σ Q) X.xe s
def PW (X:Cx)(e:Expr)(t:TT):Prop:=
 ∀(w:Sem Value) (pins:List (Addr×Obj)) (s:Shared) (σ:St) (H:Hp) (Q:Bool->Hp->Prop),Inv X pins σ H s->t σ H Q->wpAny (model X.prog X.w) X.A (isTrue e X.env w) (TP X pins σ Q) X.xe s
theorem PW.pt (h:PW X e t):PT X e t:=h _
def PA (X:Cx)(e:List Expr)(t:TA):Prop:=
 ∀(p:Pos) (pins:List (Addr×Obj)) (s:Shared) (σ:St) (H:Hp) (Q:List V->Hp->Prop),Inv X pins σ H s->t σ H Q->wpAny (model X.prog X.w) X.A (spliced (backTo p (starEach e X.env))) (AP X pins σ Q) X.xe s
def PS (X:Cx)(st:Stmt)(t:TS):Prop:=
 ∀(p:List (Addr×Obj)) (s:Shared) (σ:St) (H:Hp) (D:Ends),Inv X p σ H s->t D σ H->wpAny (model X.prog X.w) X.A (exec st X.env) (SP X p D) X.xe s
def PSs (X:Cx)(st:List Stmt)(t:TS):Prop:=
 ∀(p:List (Addr×Obj)) (s:Shared) (σ:St) (H:Hp) (D:Ends),Inv X p σ H s->t D σ H->wpAny (model X.prog X.w) X.A (execs st X.env) (SP X p D) X.xe s
theorem thn {d:Type}{t:Sem d}{Q c:d->Shared->Prop}{M:Model}{A:Around}{E:Value->Shared->Prop}{s:Shared}(h:wpAny M A t Q E s)(e:∀a s,Q a s->c a s):wpAny M A t c E s:=dJ h e λ_ _ x=>x
section
variable {X:Cx}
def tVar (i:Nat):TE:=λa H Q=>∃v,a[i]?=so (so v)/\Q v H
def tC (v:V):TE:=λ_ H Q=>Q v H
theorem pe_var (k:X.N[i]?=so x)(w:Vis X.env.scope x)(g:(x == ("__debug__":Str))=false:=by decide)(f:(x == ("__classdict__":Str))=false:=by decide):PE X (.Name x pos) (tVar i):=by
 rintro p s y H Q I ⟨v,e,h⟩;obtain⟨m,t,n⟩:=I.loc;obtain⟨u,r,l⟩:=n i x v k e w;have fin:EP X p y Q u s:=(v,H,I,r,h);rcases l with⟨d,o⟩|⟨d,c,j,a⟩
 .exact ge (cZ I.ok.kind d t o fin) g
 .rcases d with d|d
  .exact ge (wpAny_loadName_cell I.ok.kind d j a fin) g
  .exact ge (wpAny_loadName_free I.ok.kind d j a fin f) g
theorem pe_int:PE X (.Constant (.int i) j pos) (tC (.int i)):=λ_ _ _ H _ I h=>gD (.int i,H,I.tok _,(_,rz),h)
theorem pe_bl:PE X (.Constant (.bool b) j pos) (tC (.bl b)):=λ_ _ _ H _ I h=>Constant_bool (.bl b,H,I,rz,h)
theorem pe_non:PE X (.Constant .none j pos) (tC .non):=λ_ _ _ H _ I h=>Constant_none (.non,H,I,rz,h)
theorem pe_str:PE X (.Constant (.str x) j pos) (tC (.str x)):=λ_ _ _ H _ I h=>Calls.Constant_str (.str x,H,I.tok _,(_,rz),h)
def Gl (X:Cx)(x:Str):Prop:=X.env.kindOf x=so .globalImplicit
theorem ld_glob (I:Inv X p e H s)(c:Gl X x)(d:X.mg x=so u)(h:Q u s)
  (a:(x == ("__debug__":Str))=false:=by decide):wpAny (model X.prog X.w) X.A (eval (.Name x pos) X.env) Q E s:=
 du I.ok.kind c (e8 (by rw[I.ok.glob];exact I.mod.glob.keeps I.bk) d h) a
theorem ld_blt (I:Inv X p j H s)(e:Gl X x)(f:X.mg x=none)(i:bootBuiltins x=so u)(h:Q u s)
  (g:x≠"__name__":=by decide) (d:(x == ("__debug__":Str))=false:=by decide):wpAny (model X.prog X.w) X.A (eval (.Name x pos) X.env) Q E s:=by
 obtain⟨m,a,c⟩:=I.mod.blt;exact du I.ok.kind e (Calls.loadGlobal_builtin (by rw[I.ok.glob];exact I.mod.glob.keeps I.bk) f (by rw[I.ok.blt];exact a.keeps I.bk) ((c x g).trans i) h) d
theorem pe_glob (c:Gl X x)(d:X.mg x=so u)(r:RelV v u)(a:(x == ("__debug__":Str))=false:=by decide):PE X (.Name x pos) (tC v):=
 λ_ _ _ H _ I h=>ld_glob I c d (v,H,I,r,h) a
variable {a b:Expr}{f g:TE}{pos:Pos}
def tB (t:TE):TT:=λd H Q=>t d H λx h=>∃c,x=.bl c/\Q c h
theorem pt_val (h:PE X e t)(j:∀w,isTrue e X.env w=(do let v <-w;standAt e.pos;holding [v] (truthy v)):=by intro _;rfl):PT X e (tB t):=by intro p s m H Q I k;refine isTrue_plain (thn (h p s m H _ I k) λv n (x,c,i,r,l)=>?_) (j _);obtain⟨d,rfl,q⟩:=l;cases r;exact c7 (c,i,q)
variable {T k:TT}{rest:List Expr}
def tAnd (t u:TT):TT:=λd H Q=>t d H λc h=>if c=true then u d h Q else Q false h
def tOr (t u:TT):TT:=λd H Q=>t d H λc h=>if c=true then Q true h else u d h Q
def tNot (t:TT):TT:=λd H Q=>t d H λc h=>Q (!c) h
theorem pw_and1 (d:PT X a T):PW X (.BoolOp .And [a] pos) T:=by
 intro w p s i H Q I h;refine isTrue_and (thn (d p s i H Q I h) λc j e=>?_);cases c with
 |true=>exact isTrue_and_nil e
 |false=>exact e
theorem pw_or1 (d:PT X a T):PW X (.BoolOp .Or [a] pos) T:=by
 intro w p s i H Q I h;refine isTrue_or (thn (d p s i H Q I h) λc j e=>?_);cases c with
 |false=>exact isTrue_or_nil e
 |true=>exact e
theorem pw_and (l:PT X a T)(m:PW X (.BoolOp .And (b::rest) pos) k):PW X (.BoolOp .And (a::b::rest) pos) (tAnd T k):=by
 intro w p s j H Q I h;refine isTrue_and (thn (l p s j H _ I h) λc n (d,i,e)=>?_);cases c with
 |true=>exact m w p n j d Q i e
 |false=>exact(d,i,e)
theorem pw_or (l:PT X a T)(m:PW X (.BoolOp .Or (b::rest) pos) k):PW X (.BoolOp .Or (a::b::rest) pos) (tOr T k):=by
 intro w p s j H Q I h;refine isTrue_or (thn (l p s j H _ I h) λc n (d,i,e)=>?_);cases c with
 |true=>exact(d,i,e)
 |false=>exact m w p n j d Q i e
theorem pt_not (e:PT X a T):PT X (.UnaryOp .Not a pos) (tNot T):=by intro p s i H Q I h;exact isTrue_not (e p s i H (λc d=>Q (!c) d) I h)
def tAndV (f g:TE):TE:=λd H Q=>f d H λx h=>∃c,x=.bl c/\if c=true then g d h Q else Q (.bl false) h
def tOrV (f g:TE):TE:=λd H Q=>f d H λx h=>∃c,x=.bl c/\if c=true then Q (.bl true) h else g d h Q
theorem pe_one (h:PE X a t):PE X (.BoolOp op [a] pos) t:=λp s d H Q I c=>BoolOp_one (h p s d H Q I c)
theorem pe_and (l:PE X a f)(m:PE X (.BoolOp .And (b::rest) pos) g):PE X (.BoolOp .And (a::b::rest) pos) (tAndV f g):=by
 intro p s j H Q I h;refine BoolOp_and (thn (l p s j H _ I h) λv n (x,e,i,r,d)=>?_);obtain⟨c,rfl,d⟩:=d;cases r;refine c7 ?_;cases c with
 |true=>exact m p n j e Q i d
 |false=>exact(.bl false,e,i,rz,d)
theorem pe_or (l:PE X a f)(m:PE X (.BoolOp .Or (b::rest) pos) g):PE X (.BoolOp .Or (a::b::rest) pos) (tOrV f g):=by
 intro p s j H Q I h;refine BoolOp_or (thn (l p s j H _ I h) λv n (x,e,i,r,d)=>?_);obtain⟨c,rfl,d⟩:=d;cases r;refine c7 ?_;cases c with
 |false=>exact m p n j e Q i d
 |true=>exact(.bl true,e,i,rz,d)
def tIf (t:TT)(f g:TE):TE:=λd H Q=>t d H λc h=>if c=true then f d h Q else g d h Q
theorem pe_ifExp (r:PT X c T)(n:PE X a f)(o:PE X b g):PE X (.IfExp c a b pos) (tIf T f g):=by
 intro p s e H Q I h;refine wpAny_IfExp (thn (r p s e H _ I h) λd m (i,j,l)=>?_);cases d with
 |true=>exact n p m e i Q j l
 |false=>exact o p m e i Q j l
end
def SqT (K:Fg)(H:Hp)(a:Addr)(xs:List V):Prop:=
 Rd H a (.tup xs) \/
  ∃(o:Obj) (i:Array Value) (n:Nat),K.lookup a=so o/\o.cls=.type "tuple"/\o.data=.seq i n/\i.size<=sizeLine/\Vals xs i.toList
def absV:Value->Option V
 | .none=>so .non
 | .bool b=>so (.bl b)
 | .int i _=>so (.int i)
 | .str x _=>so (.str x)
 | .bytes b _=>so (.byt b)
 | .float b _=>so (.flt b)
 | .ref a=>so (.ref a)
 | .type n=>so (.ty n)
 |_=>none
theorem RelV.abs (r:RelV x u):absV u=so x:=by
 cases x with
 |non=>cases r;rfl
 |bl _=>cases r;rfl
 |int _=>obtain⟨t,rfl⟩:=r;rfl
 |str _=>obtain⟨t,rfl⟩:=r;rfl
 |byt _=>obtain⟨t,rfl⟩:=r;rfl
 |flt _=>obtain⟨t,rfl⟩:=r;rfl
 |ref _=>cases r;rfl
 |ty _=>cases r;rfl
theorem RelV.inj (r:RelV x u)(q:RelV y u):x=y:=aJ (r.abs.symm.trans q.abs)
theorem Vals.inj:∀{xs ys:List V} {us:Lv},Vals xs us->Vals ys us->xs=ys
 |_,_,_,.nil,.nil=>rfl
 |_,_,_,.cons r t,.cons r' t'=>by rw[r.inj r',Vals.inj t t']
section
variable {X:Cx}{P:List (Addr×Obj)}{c:St}{H:Hp}{s:Shared}{a:Addr}{xs ys:List V}
theorem SqL.of {K:Fg}(h:H a=so (.lst xs)):SqL K H a xs:=.inl (.inl h)
theorem SqT.of {K:Fg}(h:H a=so (.tup xs)):SqT K H a xs:=.inl (.inl h)
theorem Inv.list (I:Inv X P c H s)(h:SqL X.K H a xs):∃its:List Value,Vals xs its/\PlainL s.heap a its.toArray/\xs.length<=sizeLine:=by
 rcases h with h|⟨o,its,n,hk,hc,hd,hs,hz,r⟩
 .obtain⟨z,its,n,r,e⟩:=h.ok I.hok;exact(its,r,(_,n,e,rz,rz,rz),z)
 .refine(its.toList,r,(o,n,I.kIn a o hk,hc,hd,by simpa using hs),?_);have e:=r.length;simp only[gq]at e;lia
theorem Inv.tuple (I:Inv X P c H s)(h:SqT X.K H a xs):∃its:List Value,Vals xs its/\IsTup s.heap a its.toArray/\xs.length<=sizeLine:=by
 rcases h with h|⟨o,its,n,hk,hc,hs,hz,r⟩
 .obtain⟨z,its,r,p⟩:=h.ok I.hok;exact(its,r,p,z)
 .refine(its.toList,r,(o,I.kIn a o hk,hc,n,by simpa using hs),?_);have e:=r.length;simp only[gq]at e;lia
theorem Inv.list_inj (I:Inv X P c H s)(h:SqL X.K H a xs)(h':SqL X.K H a ys):xs=ys:=by
 obtain⟨f,r,⟨o,n,e,_,_,d⟩,_⟩:=I.list h;obtain⟨i,k,⟨m,l,j,_,_,g⟩,_⟩:=I.list h';rw[e]at j;cases j;rw[d]at g;injection g with d1 _;have:f=i:=by simpa using congrArg Array.toList d1
 subst this;exact r.inj k
end
abbrev Cx.wish (X:Cx)(E:Value->Shared->Prop):Cx:={ X with xe:=E }
abbrev Cx.nox (X:Cx):Cx:=X.wish λ_ _=>False
theorem Cx.Ok.wish {X:Cx}(ok:X.Ok)(E:Value->Shared->Prop):(X.wish E).Ok:=
 (ok.mod,ok.kind,ok.glob,ok.blt,ok.above,ok.inj,ok.has,ok.cab,ok.hd,ok.frames,ok.stk,ok.exf,ok.bs,ok.bsz,ok.noex,ok.exfs,ok.funs,ok.frf)
theorem Cx.Ok.unwish {X:Cx}{E:Value->Shared->Prop}(ok:(X.wish E).Ok):X.Ok:=
 (ok.mod,ok.kind,ok.glob,ok.blt,ok.above,ok.inj,ok.has,ok.cab,ok.hd,ok.frames,ok.stk,ok.exf,ok.bs,ok.bsz,ok.noex,ok.exfs,ok.funs,ok.frf)
section
variable {X:Cx}{p:List (Addr×Obj)}{a:St}{H:Hp}{s:Shared}{E:Value->Shared->Prop}
theorem Inv.wish (I:Inv X p a H s)(E:Value->Shared->Prop):Inv (X.wish E) p a H s:=(I.ok.wish E,I.os,I.bare,I.base,I.loc,I.cell,I.free,I.freeC,I.pin,I.hok,I.len)
theorem Inv.unwish (I:Inv (X.wish E) p a H s):Inv X p a H s:=(I.ok.unwish,I.os,I.bare,I.base,I.loc,I.cell,I.free,I.freeC,I.pin,I.hok,I.len)
theorem SP.unwish (h:SP (X.wish E) p D f s'):SP X p D f s':=by
 cases f with
 |next=>obtain⟨c,d,I,q⟩:=h;exact(c,d,I.unwish,q)
 |brk=>obtain⟨c,d,I,q⟩:=h;exact(c,d,I.unwish,q)
 |cont=>obtain⟨c,d,I,q⟩:=h;exact(c,d,I.unwish,q)
 |ret u=>obtain⟨v,c,d,I,r,q⟩:=h;exact(v,c,d,I.unwish,r,q)
theorem PSs.nox {st:List Stmt}{t:TS}(h:PSs X.nox st t):PSs X st t:=λp s a H D I c=>
 dJ (h p s a H D (I.wish _) c) (λ_ _ q=>q.unwish) λ_ _ z=>False.elim z
end
section
variable {X:Cx}{st:Stmt}{rest:List Stmt}{t u:TS}{e:Expr}{T:TE}{pos:Pos}
def tNext:TS:=λD a H=>D.nx a H
def tSeq (t u:TS):TS:=λD a H=>t { D with nx:=u D } a H
theorem pss_nil:PSs X [] tNext:=λ_ _ a H _ I h=>gu (a,H,I,h)
theorem pss_cons (d:PS X st t)(g:PSs X rest u):PSs X (st::rest) (tSeq t u):=by
 intro p s k H D I h;refine wpAny_execs_cons (thn (d p s k H { D with nx:=u D } I h) λf j q=>?_);cases f with
 |next=>obtain⟨a,c,i,q⟩:=q;exact g p j a c D i q
 |ret v=>exact q
 |brk=>exact q
 |cont=>exact q
theorem pss_one (a:PS X st t):PSs X [st] t:=by
 intro p s c H D I h;refine wpAny_execs_cons (thn (a p s c H D I h) λf d q=>?_);cases f with
 |next=>exact gu q
 |ret v=>exact q
 |brk=>exact q
 |cont=>exact q
theorem Inv.quiet (I:Inv X p a H s):interactive X.env=false:=by simp[interactive,I.ok.kind]
def tDrop (T:TE):TS:=λD a H=>T a H λ_ h=>D.nx a h
theorem ps_expr (d:PE X e T)(f:swapsWith e none pos.line X.env=pure false:=by rfl):PS X (.Expr e pos) (tDrop T):=by intro p s a H D I h;exact wpAny_Expr_any (thn (d p s a H _ I h) (by rintro v j ⟨x,c,i,r,g⟩;exact (a,c,i,g))) I.quiet f
def tRet (T:TE):TS:=λD a H=>T a H D.rt
theorem ps_ret (d:PE X e T):PS X (.Return (so e) pos) (tRet T):=by intro p s a H D I h;exact wpAny_Return_some (thn (d p s a H _ I h) (by rintro v g ⟨x,c,i,r,f⟩;exact (x,a,c,i,r,f)))
def tIfS (c:TT)(t u:TS):TS:=λD a H=>c a H λb h=>if b=true then t D a h else u D a h
theorem ps_if (n:PT X c tc)(l:PSs X a t)(m:PSs X b u):PS X (.If c a b pos) (tIfS tc t u):=by
 intro p s f H D I h;refine wpAny_If (thn (n p s f H _ I h) λd k (g,i,j)=>?_);cases d with
 |true=>exact l p k f g D i j
 |false=>exact m p k f g D i j
def tNever:TS:=λ_ _ _=>False
theorem ps_never:PS X st tNever:=λ_ _ _ _ _ _ h=>h.elim
end
abbrev TG:=V->St->Hp->(St->Hp->Prop)->Prop
abbrev TGs:=List V->St->Hp->(St->Hp->Prop)->Prop
def PG (X:Cx)(a:Expr)(t:TG):Prop:=
 ∀(p:List (Addr×Obj)) (s:Shared) (σ:St) (H:Hp) (v:V) (u:Value) (Q:St->Hp->Prop),Inv X p σ H s->RelV v u->t v σ H Q ->
  wpAny (model X.prog X.w) X.A (assign a X.env u) (λ_ d=>∃c h,Inv X p c h d/\Q c h) X.xe s
def PGs (X:Cx)(ts:List Expr)(t:TGs):Prop:=
 ∀(p:List (Addr×Obj)) (s:Shared) (σ:St) (H:Hp) (vs:List V) (us:List Value) (Q:St->Hp->Prop),Inv X p σ H s->Vals vs us->t vs σ H Q ->
  wpAny (model X.prog X.w) X.A (assignInOrder ((assignEach ts X.env).map (·.2)) us) (λ_ c=>∃a h,Inv X p a h c/\Q a h) X.xe s
abbrev TSet:=V->V->V->Hp->(Hp->Prop)->Prop
def PSet (X:Cx)(t:TSet):Prop:=
 ∀(p:List (Addr×Obj)) (s:Shared) (σ:St) (H:Hp) (o i v:V) (ov iv u:Value) (Q:Hp->Prop),Inv X p σ H s->RelV o ov->RelV i iv->RelV v u->t o i v H Q ->
  wpAny (model X.prog X.w) X.A (setItem ov iv u) (λ_ a=>∃h,Inv X p σ h a/\Q h) X.xe s
abbrev TIp:=V->V->Hp->VK->Prop
def PIp (X:Cx)(o:Operator)(t:TIp):Prop:=
 ∀(p:List (Addr×Obj)) (s:Shared) (σ:St) (H:Hp) (x y:V) (v u:Value) (Q:VK),Inv X p σ H s->RelV x v->RelV y u->t x y H Q ->
  wpAny (model X.prog X.w) X.A (inplaceOp o v u) (EP X p σ Q) X.xe s
section
variable {X:Cx}{pos:Pos}
def gName (i:Nat):TG:=λv a H Q=>Q (a.set i (so v)) H
theorem pg_name (c:X.N.Nodup)(e:X.N[i]?=so x)(f:Loc X.env.scope x)(d:X.fn x=true\/X.env.scope.names.lookup x=so .local:=by walk_at "w"):PG X (.Name x pos) (gName i):=by intro p s j H v u Q I r h;exact wpAny_assign_Name (store_ok I c e f r (λg a=>(_,H,a,h)) d)
def gNil:TGs:=λv a H Q=>v=[]/\Q a H
def gCons (t:TG)(u:TGs):TGs:=λc d H Q=>∃v r,c=v::r/\t v d H λa h=>u r a h Q
theorem pgs_nil:PGs X [] gNil:=by rintro p s a H v u Q I r ⟨e,h⟩;subst e;cases r;exact assignInOrder_nil (a,H,I,h)
theorem pgs_cons (g:PG X e t)(j:PGs X a u)
  (k:(assignEach (e::a) X.env).map (·.2)=assign e X.env::(assignEach a X.env).map (·.2):=by rfl):PGs X (e::a) (gCons t u):=by
 rintro p s o H y w Q I r ⟨v,x,f,h⟩;subst f;cases r with
 |cons r m=>rw[k];refine gE (thn (g p s o H _ _ _ I r h) λ_ n (c,d,i,l)=>?_);exact j p n c d _ _ Q i m l
def gTup (K:Fg)(n:Nat)(t:TGs):TG:=λv c H Q=>∃a xs,v=.ref a/\SqT K H a xs/\xs.length=n/\t xs c H Q
theorem pg_tup (w:X.calm=true)(h:PGs X c t)
  (y:(assignEach c X.env).length=n:=by rfl) (d:(assignEach c X.env).findIdx? (·.1)=none:=by rfl):PG X (.Tuple c k pos) (gTup X.K n t):=by
 rintro p s i H v u Q I r ⟨a,xs,l,z,x,f⟩;subst l;cases r;obtain⟨C,g,A,D⟩:=I.tuple z;refine assign_Tuple_tuple (I.ok.hd w) A (by simp[y,<-x,g.length]) d λm B=>?_;have j:Inv X p i H { s with heap:=m }:=I.kept (t':=s.toks) λb o e=>B b o (aZ (aE e)) e;exact h p _ i H xs _ Q j (by simpa using g) f
def gSub (f e:TE)(t:TSet):TG:=λv a H Q=>f a H λo h=>e a h λi c=>t o i v c λd=>Q a d
theorem pg_sub (n:PE X o to)(m:PE X i ti)(w:PSet X t)
  (l:∀v,assign (.Subscript o i pos) X.env v=(do
   let ov <-holding [v] (eval o X.env)
   let a <-holding [v,ov] (eval i X.env)
   standAt pos
   holding [v,ov,a] (setItem ov a v)
   release [v,ov,a] []):=by intro _;rfl):PG X (.Subscript o i pos) (gSub to ti t):=by
 intro p s c H v u Q I r h;rw[l];refine aM (fe (thn (n p s c H _ I h) λov E (x,d,g,C,z)=>?_));refine aM (fe (thn (m p E c d _ g z) λa F (y,e,j,D,A)=>?_));refine aM (f9 (aM (fe (thn (w p F c e x y v ov a u _ j C D r A) λ_ G (f,k,B)=>?_))));exact wpAny_release (c,f,k,B)
def tAsg (t:TE)(g:TG):TS:=λD a H=>t a H λx h=>g x a h D.nx
theorem ps_asg (f:PE X e o)(j:PG X t g)(k:swapsWithSole [t] e pos.line X.env=pure false:=by rfl)(l:swappedStores [t] e X.env=pure none:=by rfl)
  (d:(assignEach [t] X.env).map (·.2)=[assign t X.env]:=by rfl):PS X (.Assign [t] e pos) (tAsg o g):=by
 intro p s a H D I h;refine wpAny_Assign_stores (thn (f p s a H _ I h) λv n (x,c,i,r,m)=>?_) k l;rw[d];exact thn (j p n a c x v _ i r m) λ_ u q=>q
theorem ps_set (g:X.N.Nodup)(l:X.N[i]?=so x)(n:Loc X.env.scope x)(j:PE X e t)(m:swapsWith e (so (.Name x a)) pos.line X.env=pure false:=by rfl)(k:X.fn x=true\/X.env.scope.names.lookup x=so .local:=by walk_at "w") :
  PS X (.Assign [.Name x a] e pos) (tAsg t (gName i)):=by
 intro p s u H D I h;refine wpAny_Assign_Name (thn (j p s u H _ I h) λv w (y,c,d,r,o)=>?_) m;exact store_ok d g l n r (λz f=>(_,c,f,o)) k
def tPar (i j:Nat)(t:TA):TS:=λD a H=>t a H λc h=>∃v w,c=[v,w]/\D.nx ((a.set i (so v)).set j (so w)) h
theorem ps_par (N:X.calm=true)(r:X.N.Nodup)(O:X.N[i]?=so x)(P:X.N[j]?=so y)(g:i≠j)
  (t:X.env.scope.names.lookup x=so .local) (z:X.env.scope.names.lookup y=so .local) (M:PA X [a,b] Y)
  (R:swappedStores [.Tuple [.Name x A,.Name y B] kt pt] (.Tuple [a,b] k2 pt2) X.env=pure (so [x,y]))
  (Q:swapsWithSole [.Tuple [.Name x A,.Name y B] kt pt] (.Tuple [a,b] k2 pt2) pos.line X.env=pure false:=by rfl) :
  PS X (.Assign [.Tuple [.Name x A,.Name y B] kt pt] (.Tuple [a,b] k2 pt2) pos) (tPar i j Y):=by
 intro c s C H D I h;rw[exec_Assign_arm];refine aM (f9 ?_);rw[Q];refine aM (bG ?_);rw[aF (())];refine aM (Tuple_ (thn (M _ c s C H _ I h) λZ d (vs,m,E,U,l)=>?_));obtain⟨v,w,L,l⟩:=l;subst L;obtain⟨u,f,rfl,rv,rw'⟩:∃u f,Z=[u,f]/\RelV v u/\RelV w f:=by
  cases U with
  |cons p q=>
   cases q with
   |cons S T=>cases T;exact(_,_,rz,p,S)
 refine gY ?_ ((()):2<=sizeLine);have F:Inv X c C m { d with heap:=d.heap.push { cls:=.type "tuple",data:=.seq [u,f].toArray } }:=E.kept (t':=d.toks) λb o e=>aA _ e;rw[R];refine aM (bG ?_);show wpAny (model X.prog X.w) X.A (do rule "assign.swapped-stores";let items <-unpackItems (.ref d.heap.objs.size) 2 none;assignInOrder [λv=>bindName X.env y v,λv=>bindName X.env x v] items.reverse;pure Flow.next) _ _ _
 refine aM (wpAny_rule (aM (unpackItems_tuple (items:=#[u,f]) (I.ok.hd N) (IsTup.new d.heap _) λh' k=>?_)));have G:=F.kept (h':=h') (t':=d.toks) λb o e=>k b o (aZ (aE e)) e;show wpAny _ _ (assignInOrder [λv=>bindName X.env y v,λv=>bindName X.env x v] [f,u] >>= λ_=>pure Flow.next) _ _ _;refine aM (gE (wpAny_bindName (store_ok G r P (.inl z) rw' (λs2 J=>?_) (.inr z))));refine gE (wpAny_bindName (store_ok J r O (.inl t) rv (λs3 n=>assignInOrder_nil (bG ?_)) (.inr t)));rw[List.set_comm _ _ (de g)]at n;exact(_,m,n,l)
def tAug (i:Nat)(t:TE)(d:TIp):TS:=λD a H=>∃x,a[i]?=so (so x)/\t a H λy h=>d x y h λz c=>D.nx (a.set i (so z)) c
theorem ps_aug (M:X.N.Nodup)(t:X.N[i]?=so x)(j:Loc X.env.scope x)(O:PE X e te)(T:PIp X op ti)(P:X.fn x=true\/X.env.scope.names.lookup x=so .local:=by walk_at "w") :
  PS X (.AugAssign (.Name x A) op e pos) (tAug i te ti):=by
 rintro p s B H D I ⟨v,L,h⟩;obtain⟨m,S,Q⟩:=I.loc;have n:Vis X.env.scope x:=by rcases j with k|k;exact .inl k;exact .inr (.inl k)
 obtain⟨u,r,l⟩:=Q i x v t L n;refine wpAny_AugAssign_Name ?_;have o:wpAny (model X.prog X.w) X.A (eval e X.env) (λw f=>wpAny (model X.prog X.w) X.A (inplaceOp op u w) (λr g=>wpAny (model X.prog X.w) X.A (storeName X.env x r) (λ_=>SP X p D .next) X.xe g) X.xe f) X.xe s:=by refine thn (O p s B H _ I h) λw s1 (y,C,F,Z,U)=>?_;refine thn (T p s1 B C v y u w _ F r Z U) λz s2 (zv,E,G,r2,Y)=>?_;exact store_ok G M t j r2 (λs3 J=>(_,E,J,Y)) P
 rcases l with⟨a,R⟩|⟨a,c,N,d⟩
 .exact cZ I.ok.kind a S R o
 .rcases a with a|a
  .exact wpAny_loadName_cell I.ok.kind a N d o
  .rcases j with k|k
   .have:X.env.scope.names.lookup x=so .free:=a;rw[k]at this;cases this
   .have:X.env.scope.names.lookup x=so .free:=a;rw[k]at this;cases this
def tAugS (n m l:TE)(t:V->V->Hp->VK->Prop)(d:TIp)(a:TSet):TS:=λD c H=>n c H λo h=>m c h λi e=>t o i e λx f=>l c f λy g=>d x y g λz j=>a o i z j λk=>D.nx c k
def PGet (X:Cx)(t:V->V->Hp->VK->Prop):Prop:=
 ∀(p:List (Addr×Obj)) (s:Shared) (σ:St) (H:Hp) (o i:V) (ov iv:Value) (Q:VK),Inv X p σ H s->RelV o ov->RelV i iv->t o i H Q ->
  wpAny (model X.prog X.w) X.A (getItem ov iv) (EP X p σ Q) X.xe s
theorem ps_augS (J:PE X o to)(G:PE X i ti)(F:PGet X tget)(E:PE X e te)(L:PIp X op tip)(M:PSet X tset)
  (C:∀ov a new,augStore i ov a new=(do holding [new,ov,a] (setItem ov a new);release [new,ov,a] [];pure .next):=by intros;rfl):PS X (.AugAssign (.Subscript o i tpos) op e pos) (tAugS to ti te tget tip tset):=by
 intro p s c H D I h;refine wpAny_AugAssign_SubscriptAny (thn (J p s c H _ I h) λov Z (x,j,u,r,N)=>?_) C;refine thn (G p Z c j _ u N) λa s2 (g,k,w,f,O)=>?_;refine thn (F p s2 c k x g ov a _ w r f O) λd s3 (x3,l,y,T,P)=>?_;refine thn (E p s3 c l _ y P) λv s4 (x4,m,z,U,Q)=>?_;refine thn (L p s4 c m x3 x4 d v _ z T U Q) λnew s5 (x5,n,A,Y,R)=>?_;exact thn (M p s5 c n x g x5 ov a new _ A r f Y R) (by rintro _ s6 ⟨t,B,S⟩;exact (c,t,B,S))
end
section
variable {X:Cx}{pos:Pos}
def tWhile (c:TT)(t:TS):TS:=λD a H=>∃W:Nat->St->Hp->Prop,(∃m,W m a H)/\∀m a H,W m a H ->
 c a H λb e=>if b=true then ∃N:St->Hp->Prop,(∀d h,N d h -> ∃f,f<m/\W f d h)/\t { D with nx:=N,ct:=N,bk:=D.nx } a e else D.nx a e
theorem ps_while (A:PassesOwn (model X.prog X.w) X.A X.env X.xe)(E:PT X c tc)(C:PSs X body tb):PS X (.While c body [] pos) (tWhile tc tb):=by
 rintro p s P H D I ⟨W,⟨F,M⟩,t⟩;refine wpAny_While (codeAny_whileLoop (λn G=>∃g r,Inv X p g r G/\W n g r) ?_ F (P,H,I,M));rintro n J ⟨d,u,B,O⟩;refine dM A (thn (E p J d u _ B (t n d u O)) λb L (x,y,i)=>?_);cases b with
 |true=>
  obtain⟨N,z,i⟩:=i;rw[aL rfl];refine dM A (thn (C p L d x _ y i) λf Q j=>?_);cases f with
  |next=>obtain⟨a,e,k,o⟩:=j;obtain⟨m,l,w⟩:=z a e o;exact(m,l,a,e,k,w)
  |cont=>obtain⟨a,e,k,o⟩:=j;obtain⟨m,l,w⟩:=z a e o;exact(m,l,a,e,k,w)
  |brk=>exact j
  |ret v=>exact j
 |false=>rw[aF aU];exact gu (d,x,y,i)
end
structure It where
 go:Nat->Hp->Prop
 yld:Nat->Hp->V->Hp->Prop
 stop:Nat->Hp->Prop
def FpOk (X:Cx)(a:List (Addr×Obj))(H:Hp)(b:Addr):Prop:=
 H b=none/\b≠X.env.locals/\b∉X.fs/\(b∈X.ex\/X.s₀.heap.objs.size<=b)/\(∀x c,X.env.cells.lookup x=so c->c≠b)/\∀p∈X.pn++a,p.1≠b
theorem Inv.fpOk {X:Cx}{a:List (Addr×Obj)}{i:St}{H d:Hp}{s:Shared}{b:Addr}(I:Inv X a i H s)(h:s.heap.objs.size<=b)(f:d b=none):FpOk X a d b:=by
 refine(f,d8 (aQ I.lt h),I.nofs h,.inr (aj I.sz h),λx c e z=>?_,λp g z=>?_)
 .obtain⟨v,q⟩:=I.cell x c e;exact absurd (aQ q.lt (by rw[z];exact h)) (cE _)
 .exact absurd (aQ (aE (I.pin p g).1) (by rw[z];exact h)) (cE _)
structure Turn (P:Program)(w:World)(K:Fg)(tg:Expr)(J:It)(fp:List Addr)(it:Addr)(tn:Nat->Heap->Prop):Prop where
 mem:it∈fp
 obj:∀i h,tn i h->∀b∈fp,∃o,h.get? b=so o/\∀v,o.data ≠ .cell v
 keep:∀i h h',tn i h->(∀b∈fp,∀o,h.get? b=so o->h'.get? b=so o)->tn i h'
 item:∀(X:Cx),X.prog=P->X.w=w->X.K=K->X.calm=true->∀(i:Nat) (pins:List (Addr×Obj)) (s:Shared) (σ:St) (H:Hp) (E:Value->Shared->Prop),Inv X pins σ H s->(∀b∈fp,FpOk X pins H b)->tn i s.heap->J.go i H ->
  wpAny (model P w) X.A (pyNext (.ref it)) (λr s1=>∃u,r=so u /\
   wpAny (model P w) X.A (letOwnedTupleGo tg (.ref it) u) (λ_ s2=>∃x H',Inv X pins σ H' s2/\RelV x u/\J.yld i H x H'/\tn (i+1) s2.heap/\∀b∈fp,H' b=none) E s1) E s
 done:∀(X:Cx),X.prog=P->X.w=w->X.K=K->X.calm=true->∀(i:Nat) (pins:List (Addr×Obj)) (s:Shared) (σ:St) (H:Hp) (E:Value->Shared->Prop),Inv X pins σ H s->(∀b∈fp,FpOk X pins H b)->tn i s.heap->J.stop i H ->
  wpAny (model P w) X.A (pyNext (.ref it)) (λr s1=>r=none/\Inv X pins σ H s1) E s
 self:∀(A:Around) (i:Nat) (s:Shared) (Q:Value->Shared->Prop) (E:Value->Shared->Prop),tn i s.heap->Q (.ref it) s->wpAny (model P w) A (pyIter (.ref it)) Q E s
abbrev TI:=St->Hp->(It->Hp->Prop)->Prop
def PIE (X:Cx)(p:List (Addr×Obj))(d:St)(c:Expr)(R:It->Hp->Prop)(i:Value)(s:Shared):Prop:=
 ∃(a:Addr) (f:List Addr) (t:Nat->Heap->Prop) (J:It) (h:Hp),i=.ref a/\Inv X p d h s/\Turn X.prog X.w X.K c J f a t/\t 0 s.heap/\(∀b∈f,FpOk X p h b)/\R J h
def PI (X:Cx)(t i:Expr)(w:TI):Prop:=
 ∀(p:List (Addr×Obj)) (s:Shared) (σ:St) (H:Hp) (R:It->Hp->Prop),Inv X p σ H s->w σ H R ->
  wpAny (model X.prog X.w) X.A (eval i X.env) (λv a=>wpAny (model X.prog X.w) X.A (pyIter v) (PIE X p σ t R) X.xe a) X.xe s
theorem go_of (f:s.heap.get? i=so o)(c:o.cls=.type n)(d:o.data=.fields vs)
    (e:["enumerate","zip","dict_itemiterator","dict_reverseitemiterator","odict_iterator","itertools.zip_longest","itertools.pairwise"].contains n=false) (a:Q Unit.unit s):wpAny M A (letOwnedTupleGo t (.ref i) u) Q E s:=by
  unfold letOwnedTupleGo;cases t<;>first
    |exact bG a
    | (cases u <;> first
        |exact bG a
        | (refine aM (wpAny_load f ?_)
           rw[c,d];show wpAny M A (if (["enumerate","zip","dict_itemiterator","dict_reverseitemiterator","odict_iterator","itertools.zip_longest","itertools.pairwise"].contains n && vs[0]? == so (rawInt _))=true then _ else _) Q E s;rw[aF (by intro h;rw[e,Bool.false_and]at h;cases h)];exact bG a))
def Itl (K:Fg)(a:Addr):It:=
 (λi H=>∃xs x,SqL K H a xs/\xs[i]?=so x,λi H x h=>h=H/\∀xs,SqL K H a xs->xs[i]?=so x,λi H=>∃xs,SqL K H a xs/\xs.length<=i)
def Itr (l:Int)(n:Nat):It:=(λi _=>i<n,λi H x h=>h=H/\x=.int (l+i),λi _=>n<=i)
theorem turn_list {P:Program}{w:World}{K:Fg}{tg:Expr}(a l:Addr):Turn P w K tg (Itl K a) [l] l (λi h=>h.IsListIter l a i) where
 mem:=by simp
 obj:=λi h f b j=>by
  have e:b=l:=by simpa using j
  subst e;obtain⟨o,e,c,d⟩:=f;exact(o,e,λv z=>by rw[d]at z;cases z)
 keep:=λi h n f k=>f.at λo e=>k l (by simp) o e
 item:=by intro X G L F Q i g s R H E I r f J;subst G L F;obtain⟨xs,x,t,M⟩:=J;obtain⟨N,O,p,hz⟩:=I.list t;obtain⟨u,Y,ru⟩:=O.get M;obtain⟨y,A,U,B,C,D⟩:=r l (by simp);refine wpAny_pyNext_list_item f p.isList (x:=u) (by simpa using Y) λn m sb=>?_;have S:Inv X g R H { s with heap:=n }:=I.turned (t':=s.toks) (λb o j e=>(sb.2 b j).trans e) y A B C D;obtain⟨o,e,c,d⟩:=id m;exact(u,rz,go_of (s:={ s with heap:=n }) e c d (()) (x,H,S,ru,(rz,λys Z=>by rw[I.list_inj Z t];exact M),m,λb j=>(r b j).1))
 done:=by intro X G L F Q i g s R H E I r f J;subst G L F;obtain⟨xs,t,M⟩:=J;obtain⟨N,O,p,hz⟩:=I.list t;obtain⟨y,A,U,B,C,D⟩:=r l (by simp);have hl:=O.length;exact wpAny_pyNext_list_end (I.ok.hd Q) f p.isList (by simp;lia) λn T=>(rz,I.turned (t':=s.toks) (λb o j e=>T b o j e) y A B C D)
 self:=λ_ _ _ _ _ f h=>wpAny_pyIter_listiter f h
theorem turn_range {P:Program}{w:World}{K:Fg}{R:Expr}(c:Addr)(l:Int)(n:Nat):Turn P w K R (Itr l n) [c] c (λi h=>IsRangeIter h c (l+(i:Nat)*1) ((n:Int)-(i:Nat)) 1) where
 mem:=by simp
 obj:=λi h a b d=>by
  have e:b=c:=by simpa using d
  subst e;exact(_,a,λv z=>by
   have S:Data.fields _=Data.cell v:=z;cases S)
 keep:=λi h g a k=>k c (by simp) _ a
 item:=by intro X B F A C i p s J H E I j a D;subst B F A;obtain⟨m,r,N,u,x,y⟩:=j c (by simp);have W:=Walks.range (prog:=X.prog) (w:=X.w) (I.ok.hd C) c l 1 n;refine W.item i s _ _ D a λv g G O f Q=>?_;obtain⟨t,rfl⟩:=O;have L:Inv X p J H { s with heap:=g,toks:=G }:=I.turned (λb o d e=>Q b o (by simpa using d) e) m r u x y;refine(_,rz,go_of (s:={ s with heap:=g,toks:=G }) (n:="range_iterator") f rz rz (()) (.int (l+i),H,L,(t,?_),(rz,rz),f,λb d=>(j b d).1));rw[cG]
 done:=by intro X B F A C i p s J H E I j a D;subst B F A;obtain⟨m,r,N,u,x,y⟩:=j c (by simp);exact wpAny_pyNext_range_end (I.ok.hd C) a (by have:n<=i:=D;lia) λg M=>(rz,I.turned (t':=s.toks) (λb o d e=>M b o d e) m r u x y)
 self:=λ_ _ _ _ _ a h=>wpAny_pyIter_rangeiter a h
section
variable {X:Cx}{c:Expr}
def iList (K:Fg)(t:TE):TI:=λd H R=>t d H λx h=>∃a,x=.ref a/\(∃xs,SqL K h a xs)/\R (Itl K a) h
theorem pi_list {l:Expr}{t:TE}(hl:PE X l t):PI X c l (iList X.K t):=by
 intro d s u H R I h;refine thn (hl d s u H _ I h) λv f (x,g,i,r,n)=>?_;obtain⟨a,e,⟨xs,k⟩,q⟩:=n;subst e;cases r;obtain⟨m,y,p,w⟩:=i.list k;refine gZ p.isList ?_;refine(f.heap.objs.size,[f.heap.objs.size],_,_,g,rz,i.kept (t':=f.toks) λb o e=>aA _ e,turn_list a _,(_,bh _ rz,rz,rz),λb j=>?_,q);have e:b=f.heap.objs.size:=by simpa using j
 subst e;exact i.fpOk (ao _) (i.hok.fresh (ao _))
theorem range_it {p:List (Addr×Obj)}{a:St}{H:Hp}{s:Shared}{R:It->Hp->Prop}{E:Value->Shared->Prop}{l h:Int}{t u v:Tok}{tk:Nat}(I:Inv X p a H s)(g:-(2^62)<=l)(j:l<2^62)(k:-(2^62)<=h)(m:h<2^62)
  (q:R (Itr l (h-l).toNat) H):wpAny (model X.prog X.w) X.A (pyIter (.ref s.heap.objs.size)) (PIE X p a c R) E { s with heap:=s.heap.push { cls:=.type "range",data:=.fields #[.int l t,.int h u,.int 1 v] },toks:=tk }:=by
 refine wpAny_pyIter_range (IsRange.new ..) (small_one g j k m) ?_;have i:Inv X p a H { s with heap:=s.heap.push { cls:=.type "range",data:=.fields #[.int l t,.int h u,.int 1 v] },toks:=tk }:=I.kept λb o e=>aA _ e;refine((s.heap.push { cls:=.type "range",data:=.fields #[.int l t,.int h u,.int 1 v] }).objs.size,[(s.heap.push { cls:=.type "range",data:=.fields #[.int l t,.int h u,.int 1 v] }).objs.size],_,_,H,rz,i.kept (t':=tk) λb o e=>aA _ e,turn_range _ l (h-l).toNat,?_,λb n=>?_,q)
 .have d:l+((0:Nat):Int)*1=l:=by simp
  have f:(((h-l).toNat:Nat):Int)-((0:Nat):Int)=Builtin.Range.rangeSize l h 1:=by rw[rangeSize_one];split<;>lia
  show IsRangeIter _ _ (l+((0:Nat):Int)*1) ((((h-l).toNat:Nat):Int)-((0:Nat):Int)) 1;rw[d,f];exact bh _ rfl
 .have e:b=(s.heap.push { cls:=.type "range",data:=.fields #[.int l t,.int h u,.int 1 v] }).objs.size:=by simpa using n
  subst e;exact i.fpOk (ao _) (i.hok.fresh (ao _))
def iRng1 (t:TA):TI:=λa H R=>t a H λv h=>∃j:Int,v=[.int j] /\ -(2^62)<=j/\j<2^62/\R (Itr 0 j.toNat) h
def iRng2 (t:TA):TI:=λa H R=>t a H λv h=>∃i j:Int,v=[.int i,.int j]/\(-(2^62)<=i/\i<2^62 /\ -(2^62)<=j/\j<2^62)/\R (Itr i (j-i).toNat) h
theorem pi_range1 {a:Expr}{g:TA}{p pos:Pos}(l:Gl X "range")(m:X.mg "range"=none)(k:PA X [a] g)(n:starEach [a] X.env=[(false,eval a X.env)]:=by rfl):PI X c (.Call (.Name "range" p) [a] [] pos) (iRng1 g):=by
 intro d s w H R I h;refine Call_ (ld_blt I l m boot_range (cH (thn (k pos d s w H _ I h) λz y (A,x,i,u,f)=>?_) n rz));obtain⟨j,e,f,o,q⟩:=f;subst e;cases u with
 |cons r v=>cases v;obtain⟨t,rfl⟩:=r;exact call_range_1 (range_it i () () f o (by simpa using q))
theorem pi_range2 (n:Gl X "range")(o:X.mg "range"=none)(m:PA X [a,b] A)(u:starEach [a,b] X.env=[(false,eval a X.env),(false,eval b X.env)]:=by rfl)(d:starEach [b] X.env=[(false,eval b X.env)]:=by rfl) :
  PI X c (.Call (.Name "range" p) [a,b] [] pos) (iRng2 A):=by
 intro f s B H R I h;refine Call_ (ld_blt I n o boot_range (cH (thn (m pos f s B H _ I h) λF D (G,C,l,z,g)=>?_) (by rw[u,d]) (by rw[d];rfl)));obtain⟨i,j,e,⟨g,v,w,x⟩,q⟩:=g;subst e;cases z with
 |cons r k=>
  cases k with
  |cons y k=>cases k;obtain⟨t,rfl⟩:=r;obtain⟨E,rfl⟩:=y;exact call_range_2 (range_it l g v w x q)
def tFor (w:TI)(g:TG)(t:TS):TS:=λD a H=>w a H λJ j=>∃W:Nat->Nat->St->Hp->Prop,(∃m,W 0 m a j)/\∀i m a H,W i m a H ->
 (J.stop i H/\D.nx a H)\/(J.go i H/\∃N:St->Hp->Prop,(∀d h,N d h -> ∃f,f<m/\W (i+1) f d h)/\∀x h,J.yld i H x h -> g x a h λe k=>t { D with nx:=N,ct:=N,bk:=D.nx } e k)
def pinsAt (fp:List Addr)(h:Heap):List (Addr×Obj):=fp.filterMap λb=>(h.get? b).map λo=>(b,o)
theorem mem_pinsAt (a:b∈fp)(e:h.get? b=so o):(b,o)∈pinsAt fp h:=dY.mpr (b,a,by rw[e];rfl)
theorem of_pinsAt (f:p∈pinsAt fp h):p.1∈fp/\h.get? p.1=so p.2:=by
 obtain⟨b,d,e⟩:=dY.mp f;cases q:h.get? b with
 |none=>rw[q]at e;cases e
 |some o=>rw[q]at e;have a:Prod.mk b o=p:=aJ e;subst a;exact(d,q)
theorem Inv.pinned (I:Inv X a n H s)(k:∀b∈fp,FpOk X a H b)(l:∀b∈fp,∃o,s.heap.get? b=so o/\∀v,o.data ≠ .cell v):Inv X (a++pinsAt fp s.heap) n H s:=
 I.pins_of λp m=>(cF.mp m).elim (λz=>I.pin p (aT _ z)) λz=>by obtain⟨h,e⟩:=of_pinsAt z;obtain⟨g,i,j,_⟩:=k p.1 h;obtain⟨o,f,d⟩:=l p.1 h;rw[e]at f;cases f;exact(e,g,i,j,d)
theorem Inv.unpinned (I:Inv X (a++pl) d H s):Inv X a d H s:=I.pins_of λp h=>I.pin p (aT _ (cM _ h))
theorem ps_for (G:PassesOwn (model X.prog X.w) X.A X.env X.xe)(hc:X.calm=true)(hi:PI X c iter wi)(hg:PG X c g)(t:PSs X body tb)
  (hs:∀x,foldedSetIterable iter X.env x=pure x:=by intro _;rfl):PS X (.For c iter body [] pos) (tFor wi g tb):=by
 intro p s σ H D I h;refine wpAny_For (thn (hi p s σ H _ I h) λv s1 h1=>thn h1 λitv s2 h2=>?_) hs;obtain⟨it,E,tn,J,H2,e,I2,T,Z,f2,W,⟨m0,w0⟩,P⟩:=h2;subst e;have w:∀{A:Hp},(∀b∈E,A b=none)->∀b∈E,FpOk X p A b:=λhn b t=>(hn b t,(f2 b t).2);refine codeAny_forLoop_any (λn s'=>∃i y A,Inv X p y A s'/\tn i s'.heap/\(∀b∈E,A b=none)/\W i n y A) ?_ m0 (0,σ,H2,I2,Z,λb t=>(f2 b t).1,w0);rintro n s3 ⟨i,z,Q,I3,M,F,w3⟩;rcases P i n z Q w3 with⟨O,qn⟩|⟨go,N,hN,step⟩
 .refine dM G (thn (T.done X rz rz rz hc i p s3 z Q X.xe I3 (w F) M O) λr s4 (U,I4)=>?_);subst U;exact gu (z,Q,I4,qn)
 .refine dM G (thn (T.item X rz rz rz hc i p s3 z Q X.xe I3 (w F) M go) λr s4 (u,U,h4)=>?_);subst U;refine dM G (thn h4 λ_ s5 (x,H5,I5,r5,y5,C,S)=>?_);have R:=I5.pinned (w S) (T.obj _ _ C);refine dM G (thn (hg _ s5 z H5 x u _ R r5 (step x H5 y5)) λ_ s6 (σ6,H6,I6,q6)=>?_);refine dM G (thn (t _ s6 σ6 H6 _ I6 q6) λf Y B=>?_);have l:∀{a:St} {j:Hp},Inv X (p++pinsAt E s5.heap) a j Y->N a j->∃m,m<n/\∃i y A,Inv X p y A Y/\tn i Y.heap/\(∀b∈E,A b=none)/\W i m y A:=λ{a j} k L=>by obtain⟨m',hm,w7⟩:=hN a j L;refine(m',hm,i+1,a,j,k.unpinned,T.keep _ _ _ C λb t o e=>(k.pin (b,o) (aT _ (aT _ (mem_pinsAt t e)))).1,λb t=>?_,w7);obtain⟨o,e,d⟩:=T.obj _ _ C b t;exact(k.pin (b,o) (aT _ (aT _ (mem_pinsAt t e)))).2.1
  cases f with
  |next=>obtain⟨a,j,k,L⟩:=B;exact l k L
  |cont=>obtain⟨a,j,k,L⟩:=B;exact l k L
  |brk=>obtain⟨a,j,k,B⟩:=B;exact(a,j,k.unpinned,B)
  |ret v=>obtain⟨x7,a,j,k,r7,B⟩:=B;exact(x7,a,j,k.unpinned,r7,B)
end
theorem for_list {K:Fg}{a:Addr}{xs:List V}{g:TG}{t:TS}{D:Ends}{c:St}{H:Hp}(P:Nat->St->Hp->Prop)(h0:P 0 c H)(hl:∀i c H,i<=xs.length->P i c H->SqL K H a xs)
  (r:∀i x c H,xs[i]?=so x->P i c H->g x c H λf k=>t { D with nx:=P (i+1),ct:=P (i+1),bk:=D.nx } f k) (n:∀c H,P xs.length c H->D.nx c H) :
  ∃W:Nat->Nat->St->Hp->Prop,(∃m,W 0 m c H)/\∀i m c H,W i m c H ->
   ((Itl K a).stop i H/\D.nx c H)\/((Itl K a).go i H/\∃N:St->Hp->Prop,(∀d h,N d h -> ∃l,l<m/\W (i+1) l d h)/\∀x h,(Itl K a).yld i H x h -> g x c h λf k=>t { D with nx:=N,ct:=N,bk:=D.nx } f k):=by
 refine(λi m c H=>m=xs.length-i/\i<=xs.length/\P i c H,(xs.length,by simp,bp _,h0),?_);rintro i m c H ⟨rfl,o,p⟩;have q:=hl i c H o p;by_cases j:i<xs.length
 .refine .inr ((xs,xs[i],q,by simp[j]),P (i+1),λd h s=>(xs.length-(i+1),(),rz,j,s),λx h y=>?_);obtain⟨e,y⟩:=y;subst e;exact r i x c _ (y xs q) p
 .have e:i=xs.length:=()
  subst e;exact .inl ((xs,q,ao _),n c H p)
theorem for_range {l:Int}{n:Nat}{g:TG}{t:TS}{D:Ends}{a:St}{H:Hp}(P:Nat->St->Hp->Prop)(h0:P 0 a H)
  (r:∀i a H,i<n->P i a H->g (.int (l+i)) a H λf j=>t { D with nx:=P (i+1),ct:=P (i+1),bk:=D.nx } f j) (o:∀a H,P n a H->D.nx a H) :
  ∃W:Nat->Nat->St->Hp->Prop,(∃m,W 0 m a H)/\∀i m a H,W i m a H ->
   ((Itr l n).stop i H/\D.nx a H)\/((Itr l n).go i H/\∃N:St->Hp->Prop,(∀d h,N d h -> ∃k,k<m/\W (i+1) k d h)/\∀x h,(Itr l n).yld i H x h -> g x a h λf j=>t { D with nx:=N,ct:=N,bk:=D.nx } f j):=by
 refine(λi m a H=>m=n-i/\i<=n/\P i a H,(n,by simp,bp _,h0),?_);rintro i m a H ⟨rfl,u,p⟩;by_cases c:i<n
 .refine .inr (c,P (i+1),λd h s=>(n-(i+1),(),rz,c,s),λx h y=>?_);obtain⟨e,y⟩:=y;subst e y;exact r i a _ c p
 .have e:i=n:=()
  subst e;exact .inl (ao _,o a H p)
theorem while_by (P:St->Hp->Prop)(f:St->Hp->Nat)(h0:P a H)
  (i:∀a H,P a H->c a H λb e=>if b=true then tb { D with nx:=λd h=>P d h/\f d h<f a H,ct:=λd h=>P d h/\f d h<f a H,bk:=D.nx } a e else D.nx a e)
  (mono:∀a H Q g,(∀b e,Q b e->g b e)->c a H Q->c a H g):tWhile c tb D a H:=by
 refine(λm a H=>m=f a H/\P a H,(_,rz,h0),?_);rintro m a H ⟨rfl,p⟩;refine mono a H _ _ (λb e q=>?_) (i a H p);cases b with
 |true=>exact(_,by rintro d h ⟨j,l⟩;exact (_,l,rz,j),q)
 |false=>exact q
abbrev R2:=V->V->Hp->VK->Prop
def OpR (X:Cx)(f:Value->Value->Sem Value)(r:R2):Prop:=
 ∀(p:List (Addr×Obj)) (s:Shared) (σ:St) (H:Hp) (x y:V) (v u:Value) (Q:VK),Inv X p σ H s->RelV x v->RelV y u->r x y H Q ->
  wpAny (model X.prog X.w) X.A (f v u) (EP X p σ Q) X.xe s
def UnR (X:Cx)(f:Value->Sem Value)(r:V->Hp->VK->Prop):Prop:=
 ∀(p:List (Addr×Obj)) (s:Shared) (σ:St) (H:Hp) (x:V) (v:Value) (Q:VK),Inv X p σ H s->RelV x v->r x H Q ->
  wpAny (model X.prog X.w) X.A (f v) (EP X p σ Q) X.xe s
def CallR (X:Cx)(f:Value)(r:List V->Hp->VK->Prop):Prop:=
 ∀(p:List (Addr×Obj)) (s:Shared) (σ:St) (H:Hp) (xs:List V) (us:List Value) (Q:VK),Inv X p σ H s->Vals xs us->r xs H Q ->
  wpAny (model X.prog X.w) X.A (call f us) (EP X p σ Q) X.xe s
def TruR (X:Cx)(r:V->Hp->(Bool->Hp->Prop)->Prop):Prop:=
 ∀(p:List (Addr×Obj)) (s:Shared) (σ:St) (H:Hp) (x:V) (v:Value) (Q:Bool->Hp->Prop),Inv X p σ H s->RelV x v->r x H Q ->
  wpAny (model X.prog X.w) X.A (truthy v) (TP X p σ Q) X.xe s
def tOp (r:R2)(t d:TE):TE:=λa H Q=>t a H λx h=>d a h λy c=>r x y c Q
def tUn (r:V->Hp->VK->Prop)(t:TE):TE:=λa H Q=>t a H λx h=>r x h Q
def rI (C:Int->Int->Prop)(g:Int->Int->V):R2:=λx y H Q=>∃i j,x=.int i/\y=.int j/\C i j/\Q (g i j) H
def rI0 (g:Int->Int->V):R2:=λx y H Q=>∃i j,x=.int i/\y=.int j/\Q (g i j) H
def rU (g:Int->V):V->Hp->VK->Prop:=λx H Q=>∃i,x=.int i/\Q (g i) H
section
variable {X:Cx}{a b c:Expr}{T d e:TE}{pos:Pos}
theorem binT (r:PE X a T)(t:PE X b d){p:List (Addr×Obj)}{R:V->V->Hp->Prop}(I:Inv X p k H s)
  (h:T k H λx m=>d k m λy g=>R x y g) {Q:Value->Shared->Prop} {f:Value->Value->Sem Value}
  (w:∀v u l x y g,Inv X p k g l->RelV x v->RelV y u->R x y g->wpAny (model X.prog X.w) X.A (f v u) Q X.xe l) :
  wpAny (model X.prog X.w) X.A (eval a X.env) (λv i=>wpAny (model X.prog X.w) X.A (eval b X.env) (λu j=>wpAny (model X.prog X.w) X.A (f v u) Q X.xe j) X.xe i) X.xe s:=by
 refine thn (r p s k H _ I h) λv D (x,m,n,B,z)=>?_;refine thn (t p D k m _ n z) λu l (y,g,o,C,A)=>?_;exact w v u l x y g o B C A
theorem pe_op {o:Operator}{r:R2}(k:OpR X (binaryOp o) r)(g:PE X a T)(j:PE X b d):PE X (.BinOp a o b pos) (tOp r T d):=by intro p s t H Q I h;exact wpAny_BinOp (binT g j I h λv u n x y f i l m q=>k p n t f x y v u Q i l m q)
theorem pe_un (k:UnR X (unaryOp op) r)(j:PE X a T):PE X (.UnaryOp op a pos) (tUn r T):=by intro p s f H Q I h;exact UnaryOp_ (thn (j p s f H _ I h) (by rintro v n ⟨x,g,i,m,l⟩;exact k p n f g x v Q i m l))
theorem opI {f:Value->Value->Sem Value}{C:Int->Int->Prop}{g:Int->Int->Int}
  (r:∀(i j:Int) (t u:Tok) (s:Shared) (Q:Value->Shared->Prop) (E:Value->Shared->Prop),C i j->Q (.int (g i j) s.toks) { s with toks:=s.toks+1 }->wpAny (model X.prog X.w) X.A (f (.int i t) (.int j u)) Q E s) :
  OpR X f (rI C λi j=>.int (g i j)):=by
 rintro p s o H x y v u Q I l m ⟨i,j,rfl,rfl,k,q⟩;obtain⟨t,rfl⟩:=l;obtain⟨n,rfl⟩:=m;exact r i j t n s _ _ k (.int (g i j),H,I.tok _,(_,rz),q)
theorem opI0 {f:Value->Value->Sem Value}{g:Int->Int->Int}
  (r:∀(i j:Int) (t u:Tok) (s:Shared) (Q:Value->Shared->Prop) (E:Value->Shared->Prop),Q (.int (g i j) s.toks) { s with toks:=s.toks+1 }->wpAny (model X.prog X.w) X.A (f (.int i t) (.int j u)) Q E s) :
  OpR X f (rI0 λi j=>.int (g i j)):=by
 rintro p s n H x y v u Q I k l ⟨i,j,rfl,rfl,q⟩;obtain⟨t,rfl⟩:=k;obtain⟨m,rfl⟩:=l;exact r i j t m s _ _ (.int (g i j),H,I.tok _,(_,rz),q)
theorem opB0 {f:Value->Value->Sem Value}{g:Int->Int->Bool}
  (r:∀(i j:Int) (t u:Tok) (s:Shared) (Q:Value->Shared->Prop) (E:Value->Shared->Prop),Q (.bool (g i j)) s->wpAny (model X.prog X.w) X.A (f (.int i t) (.int j u)) Q E s) :
  OpR X f (rI0 λi j=>.bl (g i j)):=by
 rintro p s n H x y v u Q I k l ⟨i,j,rfl,rfl,q⟩;obtain⟨t,rfl⟩:=k;obtain⟨m,rfl⟩:=l;exact r i j t m s _ _ (.bl (g i j),H,I,rz,q)
def CDiv (i j:Int):Prop:=0<j/\j<1073741824
def CPow (i j:Int):Prop:=0<=j/\j<=1000000/\i.natAbs<2^64
theorem two_pow_nn (k:Nat):(0:Int)<=2^k:=by rw[two_pow_cast];exact gF _
theorem op_add:OpR X (binaryOp .Add) (rI0 λi j=>.int (i+j)):=opI0 λ_ _ _ _ _ _ _ q=>add_int q
theorem op_sub:OpR X (binaryOp .Sub) (rI0 λi j=>.int (i-j)):=opI0 λ_ _ _ _ _ _ _ q=>sub_int q
theorem op_mod:OpR X (binaryOp .Mod) (rI (λ_ j=>0<j) λi j=>.int (i % j)):=opI λi j _ _ _ _ _ h q=>by have f:(0:Int)<j:=h;exact mod_int' () (by rw[Int.fmod_eq_emod_of_nonneg i ()];exact q)
theorem op_modN:OpR X (binaryOp .Mod) (rI (λ_ j=>j≠0) λi j=>.int (i.fmod j)):=opI λ_ _ _ _ _ _ _ h q=>mod_int' h q
theorem op_pow:OpR X (binaryOp .Pow) (rI CPow λi j=>.int (i^j.toNat)):=opI λ_ _ _ _ _ _ _ h q=>pow_int_small h.1 h.2.1 h.2.2 q
theorem iop_add:OpR X (inplaceOp .Add) (rI0 λi j=>.int (i+j)):=opI0 λ_ _ _ _ _ _ _ q=>iadd_int q
theorem iop_fdiv:OpR X (inplaceOp .FloorDiv) (rI CDiv λi j=>.int (i / j)):=opI λi j _ _ _ _ _ h q=>by have f:(0:Int)<j:=h.1;have g:j<1073741824:=h.2;exact ifloordiv_int () (by rw[dw i ()];exact q) (.inl (PyProof.noPylong_small ()))
theorem iop_shr:OpR X (inplaceOp .RShift) (rI (λ_ j=>0<=j) λi j=>.int (i / 2^j.toNat)):=opI λi j _ _ _ _ _ h q=>
 irshift_int h (by rw[dw i (two_pow_nn _)];exact q)
theorem unI {f:Value->Sem Value}{g:Int->Int}
  (r:∀(i:Int) (t:Tok) (s:Shared) (Q:Value->Shared->Prop) (E:Value->Shared->Prop),Q (.int (g i) s.toks) { s with toks:=s.toks+1 }->wpAny (model X.prog X.w) X.A (f (.int i t)) Q E s) :
  UnR X f (rU λi=>.int (g i)):=by
 rintro p s k H x v Q I j ⟨i,rfl,q⟩;obtain⟨t,rfl⟩:=j;exact r i t s _ _ (.int (g i),H,I.tok _,(_,rz),q)
theorem un_neg:UnR X (unaryOp .USub) (rU λi=>.int (-i)):=unI λ_ _ _ _ _ q=>neg_int q
end
def scal:V->V->Bool
 | .non,.non=>true | .non,.int _=>true | .int _,.non=>true | .non,.bl _=>true | .bl _,.non=>true | .non,.str _=>true | .str _,.non=>true
 | .int _,.int _=>true | .bl _,.bl _=>true | .str _,.str _=>true | .byt _,.byt _=>true
 | .int _,.str _=>true | .str _,.int _=>true | .bl _,.str _=>true | .str _,.bl _=>true
 |_,_=>false
def rEq:R2:=λx y H Q=>scal x y=true/\Q (.bl (decide (x=y))) H
def rNe:R2:=λx y H Q=>scal x y=true/\Q (.bl (!decide (x=y))) H
theorem dec_int:decide (V.int i=V.int j)=(i == j):=by rw[df];simp
theorem dec_bl:decide (V.bl i=V.bl j)=(i == j):=by rw[df];simp
theorem dec_str:decide (V.str i=V.str j)=(i == j):=by rw[df];simp
theorem dec_byt:decide (V.byt i=V.byt j)=(i.toList == j.toList):=by rw[df];cases i;cases j;simp
section
variable {X:Cx}{a b c:Expr}{T d f:TE}{pos:Pos}
theorem fin_bl (I:Inv X p g H s)(q:Q (.bl k) H)(e:k=k'):EP X p g Q (.bool k') s:=by subst e;exact(.bl k,H,I,rz,q)
theorem op_eq:OpR X (compareOp .Eq) rEq:=by
 rintro p s l H x y v u Q I k r ⟨g,q⟩;cases x with
 |non=>
  cases k;cases y with
  |non=>cases r;exact PySem.EqNone.eq_none_none (fin_bl I q (by simp))
  |bl j=>cases r;exact PySem.EqNone.eq_none_bool (fin_bl I q (by simp))
  |int j=>obtain⟨e,rfl⟩:=r;exact PySem.EqNone.eq_none_int (fin_bl I q (by simp))
  |str j=>obtain⟨e,rfl⟩:=r;exact PySem.EqNone.eq_none_str (fin_bl I q (by simp))
  |_=>exact absurd (show false=true from g) aU
 |bl i=>
  cases k;cases y with
  |non=>cases r;exact PySem.EqNone.eq_bool_none (fin_bl I q (by simp))
  |bl j=>cases r;exact eq_bool (fin_bl I q dec_bl)
  |str j=>obtain⟨e,rfl⟩:=r;exact PySem.EqMixed.eq_bool_str (fin_bl I q (by simp))
  |_=>exact absurd (show false=true from g) aU
 |int i=>
  obtain⟨t,rfl⟩:=k;cases y with
  |non=>cases r;exact PySem.EqNone.eq_int_none (fin_bl I q (by simp))
  |int j=>obtain⟨e,rfl⟩:=r;exact eq_int (fin_bl I q dec_int)
  |str j=>obtain⟨e,rfl⟩:=r;exact PySem.EqMixed.eq_int_str (fin_bl I q (by simp))
  |_=>exact absurd (show false=true from g) aU
 |str i=>
  obtain⟨t,rfl⟩:=k;cases y with
  |non=>cases r;exact PySem.EqNone.eq_str_none (fin_bl I q (by simp))
  |bl j=>cases r;exact PySem.EqMixed.eq_str_bool (fin_bl I q (by simp))
  |int j=>obtain⟨e,rfl⟩:=r;exact PySem.EqMixed.eq_str_int (fin_bl I q (by simp))
  |str j=>obtain⟨e,rfl⟩:=r;exact eq_str (fin_bl I q dec_str)
  |_=>exact absurd (show false=true from g) aU
 |byt i=>
  obtain⟨t,rfl⟩:=k;cases y with
  |byt j=>obtain⟨e,rfl⟩:=r;exact W.eq_bytes (fin_bl I q dec_byt)
  |_=>exact absurd (show false=true from g) aU
 |_=>cases y<;>exact absurd (show false=true from g) aU
theorem op_ne:OpR X (compareOp .NotEq) rNe:=by
 rintro p s l H x y v u Q I k r ⟨g,q⟩;cases x with
 |non=>
  cases k;cases y with
  |non=>cases r;exact PySem.EqNone.ne_none_none (fin_bl I q (by simp))
  |bl j=>cases r;exact PySem.EqNone.ne_none_bool (fin_bl I q (by simp))
  |int j=>obtain⟨e,rfl⟩:=r;exact PySem.EqNone.ne_none_int (fin_bl I q (by simp))
  |str j=>obtain⟨e,rfl⟩:=r;exact PySem.EqNone.ne_none_str (fin_bl I q (by simp))
  |_=>exact absurd (show false=true from g) aU
 |bl i=>
  cases k;cases y with
  |non=>cases r;exact PySem.EqNone.ne_bool_none (fin_bl I q (by simp))
  |bl j=>cases r;exact ne_bool (fin_bl I q (congrArg not dec_bl))
  |str j=>obtain⟨e,rfl⟩:=r;exact PySem.EqMixed.ne_bool_str (fin_bl I q (by simp))
  |_=>exact absurd (show false=true from g) aU
 |int i=>
  obtain⟨t,rfl⟩:=k;cases y with
  |non=>cases r;exact PySem.EqNone.ne_int_none (fin_bl I q (by simp))
  |int j=>obtain⟨e,rfl⟩:=r;exact ne_int (fin_bl I q (congrArg not dec_int))
  |str j=>obtain⟨e,rfl⟩:=r;exact PySem.EqMixed.ne_int_str (fin_bl I q (by simp))
  |_=>exact absurd (show false=true from g) aU
 |str i=>
  obtain⟨t,rfl⟩:=k;cases y with
  |non=>cases r;exact PySem.EqNone.ne_str_none (fin_bl I q (by simp))
  |bl j=>cases r;exact PySem.EqMixed.ne_str_bool (fin_bl I q (by simp))
  |int j=>obtain⟨e,rfl⟩:=r;exact PySem.EqMixed.ne_str_int (fin_bl I q (by simp))
  |str j=>obtain⟨e,rfl⟩:=r;exact ne_str (fin_bl I q (congrArg not dec_str))
  |_=>exact absurd (show false=true from g) aU
 |byt i=>
  obtain⟨t,rfl⟩:=k;cases y with
  |byt j=>obtain⟨e,rfl⟩:=r;exact W.ne_bytes (fin_bl I q (congrArg not dec_byt))
  |_=>exact absurd (show false=true from g) aU
 |_=>cases y<;>exact absurd (show false=true from g) aU
theorem op_lt:OpR X (compareOp .Lt) (rI0 λi j=>.bl (decide (i<j))):=opB0 λ_ _ _ _ _ _ _ q=>lt_int q
theorem op_le:OpR X (compareOp .LtE) (rI0 λi j=>.bl (decide (i<=j))):=opB0 λ_ _ _ _ _ _ _ q=>le_int q
theorem op_gt:OpR X (compareOp .Gt) (rI0 λi j=>.bl (decide (j<i))):=opB0 λ_ _ _ _ _ _ _ q=>gt_int q
theorem op_ge:OpR X (compareOp .GtE) (rI0 λi j=>.bl (decide (j<=i))):=opB0 λ_ _ _ _ _ _ _ q=>ge_int q
theorem op_notN:OpR X (compareOp .IsNot) (λx y H Q=>y=.non/\Q (.bl (!decide (x=.non))) H):=by
 rintro p s g H x y v u Q I r e ⟨rfl,q⟩;cases e;refine isnot_none_gen (fin_bl I q ?_);cases x<;>first
  |(cases r;rfl)
  |(obtain⟨t,rfl⟩:=r;rfl)
theorem nomark (b:Expr)(h:op ≠ .In:=by decide)(i:op ≠ .NotIn:=by decide):behindInMarks op b=false:=by
 have e:(op == CmpOp.In)=false:=by cases op<;>first|rfl|exact absurd rz h
 have g:(op == CmpOp.NotIn)=false:=by cases op<;>first|rfl|exact absurd rz i
 cases b<;>simp[behindInMarks,e,g]
theorem pe_cmpR {o:CmpOp}{r:R2}(l:OpR X (compareOp o) r)(g:PE X a T)(j:PE X b d)(k:behindInMarks o b=false):PE X (.Compare a [o] [b] pos) (tOp r T d):=by intro p s w H Q I h;exact wpAny_Compare1 (binT g j I h λv u t x y e i m n q=>l p t w e x y v u Q i m n q) k
def tTest (t:TE):TT:=λe H Q=>t e H λx h=>∃k,x=.bl k/\Q k h
theorem pt_cmpR (B:OpR X (compareOp op) r)(t:PE X a T)(w:PE X b d)(A:behindInMarks op b=false):PT X (.Compare a [op] [b] pos) (tTest (tOp r T d)):=by
 intro p s g H Q I h;refine wpAny_isTrue_Compare1 (thn (t p s g H _ I h) λv L (x,i,m,F,C)=>thn (w p L g i _ m C) λu M (y,j,n,G,D)=> thn (B p M g j x y v u _ n F G D) λc N (z,l,o,J,k,e,E)=>?_) A
 subst e;cases J;exact c7 (l,o,E)
def TruV (K:Fg)(x:V)(H:Hp)(k:Bool):Prop:=
 match x with
 | .non=>k=false
 | .bl b=>k=b
 | .int i=>k=(i != 0)
 | .str y=>y.length<=sizeLine/\k=((y.length:Int) != 0)
 | .byt y=>y.size<=sizeLine/\k=((y.size:Int) != 0)
 | .ref p=>(∃xs,SqL K H p xs/\k = !xs.isEmpty)\/(∃xs,SqT K H p xs/\k = !xs.isEmpty)
 |_=>False
theorem isEmpty_of (r:Vals xs its):(!its.toArray.isEmpty) = !xs.isEmpty:=by cases r<;>simp
theorem line63:(sizeLine:Nat)<2^63:=by rw[cX];decide
theorem tru_ok:TruR X (λx H Q=>∃k,TruV X.K x H k/\Q k H):=by
 rintro A s D H x v Q I n ⟨k,e,q⟩;have B:=line63;have C:sizeLine=16777216:=cX;cases x with
 |non=>cases n;have g:k=false:=e;subst g;exact truthy_none (H,I,q)
 |bl b=>cases n;have g:k=b:=e;subst g;exact c7 (H,I,q)
 |int i=>obtain⟨t,rfl⟩:=n;have g:k=(i != 0):=e;subst g;exact PySem.P.truthy_int (H,I,q)
 |str y=>obtain⟨t,rfl⟩:=n;obtain⟨hy,g⟩:y.length<=sizeLine/\k=((y.length:Int) != 0):=e;subst g;exact PySem.P.truthy_str () (H,I.tok _,q)
 |byt y=>obtain⟨t,rfl⟩:=n;obtain⟨hy,g⟩:y.size<=sizeLine/\k=((y.size:Int) != 0):=e;subst g;exact W.truthy_bytes () (H,I.tok _,q)
 |ref p=>
  cases n;have g:(∃xs,SqL X.K H p xs/\k = !xs.isEmpty)\/(∃xs,SqT X.K H p xs/\k = !xs.isEmpty):=e;rcases g with⟨xs,o,g⟩|⟨xs,o,g⟩
  .subst g;obtain⟨w,r,pl,z⟩:=I.list o;have l:=r.length;exact wpAny_truthy_list pl.isList (by simp only[aD];lia) (H,I.tok _,by rw[isEmpty_of r];exact q)
  .subst g;obtain⟨w,r,pl,z⟩:=I.tuple o;have l:=r.length;exact truthy_tuple pl (by simp only[aD];lia) (H,I.tok _,by rw[isEmpty_of r];exact q)
 |_=>exact(show False from e).elim
theorem pt_truth (l:PE X a T)(m:∀w,isTrue a X.env w=(do let v <-w;standAt a.pos;holding [v] (truthy v))) :
  PT X a (λe H Q=>T e H λx g=>∃k,TruV X.K x g k/\Q k g):=by
 intro p s e H Q I h;exact isTrue_plain (thn (l p s e H _ I h) (by rintro v o ⟨x,i,j,r,n⟩;exact tru_ok p o e i x v Q j r n)) (m _)
theorem vals1 (r:Vals [x] us):∃u,us=[u]/\RelV x u:=by
 cases r with
 |cons e g=>cases g;exact(_,rz,e)
theorem vals2 (r:Vals [x,y] us):∃u w,us=[u,w]/\RelV x u/\RelV y w:=by
 cases r with
 |cons e g=>
  cases g with
  |cons h i=>cases i;exact(_,_,rz,e,h)
theorem call_abs:CallR X (.builtin "abs") (λxs H Q=>∃i,xs=[.int i]/\Q (.int (if i<0 then -i else i)) H):=by rintro p s j H xs g Q I r ⟨i,rfl,q⟩;obtain⟨u,rfl,t,rfl⟩:=vals1 r;exact call_abs_int λu e=>(.int (if i<0 then -i else i),H,I.tok _,(_,rz),q)
theorem call_max2 (g:X.calm=true):CallR X (.builtin "max") (λxs H Q=>∃i j,xs=[.int i,.int j]/\Q (.int (if j > i then j else i)) H):=by
 rintro p s v H xs o Q I r ⟨i,j,rfl,q⟩;obtain⟨u,w,rfl,⟨t,rfl⟩,⟨m,rfl⟩⟩:=vals2 r;refine max_two_ints (I.ok.hd g) λl n k=>(_,H,I.kept k,?_,q);by_cases e:j > i
 .rw[aL e,aL e];exact(_,rz)
 .rw[aF e,aF e];exact(_,rz)
end
structure ObjM (h:Heap)(x dx C:Addr)(mA:Mg):Prop where
 obj:h.get? x=so (W.instObj C dx)
 ns:h.Ns1 dx mA
 ne:dx≠x
theorem lookIn_ns {h:Heap}{f:Addr}{m:Mg}(n:h.Ns1 f m):∃i,h.get? f=so i/\∀c,W.lookIn c i=so (m c):=by
 obtain⟨o,g,u,r,k,l,_,p⟩:=n;refine(o,r,λc=>?_);have e:=p c;unfold nsFind findBy at e;rw[<-Array.find?_toList]at e;unfold W.lookIn;rw[k];dsimp only;split
 .rename_i y q;rw[q]at e;exact congrArg so e
 .rename_i q;rw[q]at e;have a:g.toList.any (·.refKey)=false:=by rw[List.any_eq_false];intro y s;obtain⟨z,t,d⟩:=l y (Array.mem_toList_iff.mp s);simp[DictEntry.refKey,d]
  have j:¬g.toList.any (·.refKey)=true:=by rw[a];exact aU
  rw[aF j];exact congrArg so e
theorem ObjM.look (I:ObjM h x dx C mA):∃o,W.InstAt h x (W.instObj C dx) C (so o)/\∀n,W.lookIn n o=so (mA n):=
 let (o,ho,hl):=lookIn_ns I.ns
 (o,(I.obj,rz,rz,ho),hl)
section
variable {prog:Program}{w:World}{A:Around}{E:Value->Shared->Prop}{s:Shared}{K:Fg}{x D C f:Addr}{m:Mg}{n:Str}{v:Value}
theorem get_map (X:K.In s.heap)(I:ObjM s.heap x D C m)(d:W.plainGet K C n=true)(e:W.hasDictIn K C=true)
  (c:W.findIn K (.ref C) n=so none) (i:m n=so v) (a:W.handedIn v=true) (h:Q v { s with toks:=s.toks+1 }) :
  wpAny (model prog w) A (getAttr (.ref x) n expr) Q E s:=by
 obtain⟨o,J,g⟩:=I.look;exact W.get_value X J (gv d).1 (W.findObj_own e c rz (by rw[g,i])) a h
theorem get_meth (X:K.In s.heap)(I:ObjM s.heap x D C m)(a:W.plainGet K C n=true)
  (c:W.findIn K (.ref C) n=so (so (.ref f))) (e:W.isFn K (.ref f)=true) (g:m n=none) (h:Q (.ref f,[.ref x]) s) :
  wpAny (model prog w) A (getMethod (.ref x) n pl) Q E s:=by
 obtain⟨o,J,d⟩:=I.look;exact W.method_fn X J (gv a).1 (gv a).2 c (beq_iff_eq.mp e) (by show(W.lookIn n o).map (·.isSome)=so false;rw[d,g];rfl) h
theorem set_map (X:K.In s.heap)(I:ObjM s.heap x D C m)
  (u:W.findIn K (.ref C) "__setattr__"=so (so (.builtin "object.__setattr__"))) (t:W.plainOver K C=true) (B:W.takerIn K C n=so none) (p:W.hasDictIn K C=true)
  (F:PySem.Within m ns) (z:ns.length<=sizeLine)
  (h:∀h',ObjM h' x D C (λy=>if y=n then so v else m y)->Heap.SameBut D s.heap h' -> Q Unit.unit { s with heap:=h',toks:=s.toks+2 }) :
  wpAny (model prog w) A (setAttr (.ref x) n v) Q E s:=by
 obtain⟨N,J,L⟩:=I.look;refine W.set_plain X J u (W.osa_open (s:={ s with toks:=s.toks+1 }) (r:=none) X J t B λb=>?_);obtain⟨H,o,g⟩:=W.any_some p;have G:s.heap.get? x=so (.ref C,so D,.plain,#[]):=I.obj;refine aM (bG (aM (aM (wpAny_loadPart G (aM (W.Looks.here (s:={ s with toks:=s.toks+1 }) (W.looks_clsIn X o) ?_))))));rw[g];refine bG (a:=so D) (aM (bG (aM ?_)));refine wpAny_nsSet1 (s:={ s with toks:=s.toks+1 }) I.ns λh' c d=>?_;obtain⟨M,l,k,j,i,e⟩:=c.count (PySem.Within.cons n v F);refine aM (wpAny_lookBehind j (by rw[i];exact pastItsLine_dict (aj e (by rw[bC];lia))) ?_);exact bG (h _ ((d.2 _ (de I.ne)).trans I.obj,c,I.ne) d)
theorem make_map (X:K.In s.heap)(e:W.makesIn K C=true)
  (c:W.findIn K (.ref C) "__init__"=so (so (.ref f))) (a:W.typeIn K (.ref f)=so (.type "function"))
  (h:codeAny (model prog w) (A.under (.builtin "type.__call__" (.ref C::vs,kw))) (.call (.ref f) (.ref (s.heap.objs.size+1)::vs,kw)) (W.InitBack (s.heap.objs.size+1) R) { s with heap:=(s.heap.push W.emptyDict).push (W.instObj C s.heap.objs.size) }) :
  codeAny (model prog w) A (.call (.ref C) (vs,kw)) R s:=by
 obtain⟨i,g,d,t,o⟩:=s;exact W.make_core (W.makes_of X e) (W.looks_findIn X c) (λself=>W.bind_fn X self a) (.inl rz) h
end
def putF (f:Str)(v:V):List (Str×V)->List (Str×V)
 |[]=>[(f,v)]
 |(g,x)::r=>if g=f then(g,v)::r else(g,x)::putF f v r
theorem lookup_putF (f g:Str)(v:V):∀fs:List (Str×V),(putF f v fs).lookup g=if g=f then so v else fs.lookup g
 |[]=>by
  show List.lookup g [(f,v)]=_;by_cases h:g=f
  .have a:(g == f)=true:=beq_iff_eq.mpr h;simp only[List.lookup,a,aL h]
  .have a:(g == f)=false:=beq_eq_false_iff_ne.mpr h;simp only[List.lookup,a,aF h]
 |(k,x)::r=>by
  have i:=lookup_putF f g v r;rw[show putF f v ((k,x)::r)=(if k=f then(k,v)::r else(k,x)::putF f v r) from rfl];by_cases c:k=f
  .rw[aL c];by_cases h:g=k
   .have a:(g == k)=true:=beq_iff_eq.mpr h;simp only[List.lookup,a,aL (h.trans c)]
   .have a:(g == k)=false:=beq_eq_false_iff_ne.mpr h;simp only[List.lookup,a,aF (λe:g=f=>h (e.trans c.symm))]
  .rw[aF c];by_cases h:g=k
   .have a:(g == k)=true:=beq_iff_eq.mpr h;simp only[List.lookup,a,aF (λe:g=f=>c (h.symm.trans e))]
   .have a:(g == k)=false:=beq_eq_false_iff_ne.mpr h;simp only[List.lookup,a];exact i
theorem keys_putF (f:Str)(v:V):∀fs:List (Str×V),f∈(putF f v fs).map (·.1)/\∀g,g∈fs.map (·.1)->g∈(putF f v fs).map (·.1)
 |[]=>(by simp[putF],λg h=>by simp at h)
 |(k,x)::r=>by
  obtain⟨i1,i⟩:=keys_putF f v r;rw[show putF f v ((k,x)::r)=(if k=f then(k,v)::r else(k,x)::putF f v r) from rfl];by_cases a:k=f
  .rw[aL a];subst a;exact(by simp,λg h=>by simpa using h)
  .rw[aF a];refine(?_,λg h=>?_)
   .rw[bi];exact ai _ i1
   .rw[bi]at h ⊢;rcases aG.mp h with e|e
    .exact aG.mpr (.inl e)
    .exact ai _ (i g e)
theorem length_putF (f:Str)(v:V):∀fs:List (Str×V),(putF f v fs).length<=fs.length+1
 |[]=>by simp[putF]
 |(k,x)::r=>by
  have i:=length_putF f v r;rw[show putF f v ((k,x)::r)=(if k=f then(k,v)::r else(k,x)::putF f v r) from rfl];by_cases h:k=f
  .rw[aL h,bC,bC];lia
  .rw[aF h,bC,bC];lia
theorem RelO.some_of (r:RelO (so v) o):∃u,o=so u/\RelV v u:=by
 cases o with
 |none=>exact(show False from r).elim
 |some u=>exact(u,rz,r)
theorem RelO.none_of (r:RelO none o):o=none:=by
 cases o with
 |none=>rfl
 |some u=>exact(show False from r).elim
theorem handed_of (r:RelV v u):W.handedIn u=true:=by
 cases v with
 |non=>cases (show u=Value.none from r);rfl
 |bl b=>cases (show u=Value.bool b from r);rfl
 |int i=>obtain⟨t,e⟩:=(show ∃t,u=Value.int i t from r);cases e;rfl
 |str x=>obtain⟨t,e⟩:=(show ∃t,u=Value.str x t from r);cases e;rfl
 |byt b=>obtain⟨t,e⟩:=(show ∃t,u=Value.bytes b t from r);cases e;rfl
 |flt b=>obtain⟨t,e⟩:=(show ∃t,u=Value.float b t from r);cases e;rfl
 |ref a=>cases (show u=Value.ref a from r);rfl
 |ty n=>cases (show u=Value.type n from r);rfl
section
variable {P:Program}{w:World}{H c:Hp}{h h':Heap}{a C D:Addr}{fs F:List (Str×V)}
theorem ins_get (g:HOk P w H h)(e:H a=so (.ins C D fs)):∃m,ObjM h a D C m/\(∀f,RelO (fs.lookup f) (m f))/\PySem.Within m (fs.map (·.1))/\fs.length<=1000/\H D=so (.own a):=by obtain⟨d,z,i,ob,m,n,r,q⟩:=(show ObjOk P w H h a (.ins C D fs) from g a _ e);exact(m,(ob,n,i),r,q,z,d)
end
theorem Cls.get {K:Fg}{C:Addr}(c:Cls K C)(f:Str):W.plainGet K C f=true:=c.pg
theorem NoAttr.taker {K:Fg}{C:Addr}{f:Str}(n:NoAttr K C f):W.takerIn K C f=so none:=by unfold W.takerIn;rw[show W.findIn K (.ref C) f=so none from n];rfl
section
variable {X:Cx}{p:List (Addr×Obj)}{d:St}{H:Hp}{s:Shared}{a C D:Addr}{fs:List (Str×V)}{f:Str}{v:V}{A:Around}{E:Value->Shared->Prop}
theorem getattr_ok (I:Inv X p d H s)(e:H a=so (.ins C D fs))(c:Cls X.K C)(n:NoAttr X.K C f)(l:fs.lookup f=so v)
  (h:∀u s',Inv X p d H s' -> RelV v u->Q u s'):wpAny (model X.prog X.w) A (getAttr (.ref a) f b) Q E s:=by
 obtain⟨m,O,r,_,_,_⟩:=ins_get I.hok e;obtain⟨u,i,g⟩:=RelO.some_of (v:=v) (o:=m f) (by rw[<-l];exact r f);exact get_map I.kIn O (c.get f) c.hd n i (handed_of g) (h u _ (I.tok _) g)
theorem getmeth_ok (I:Inv X p d H s)(e:H a=so (.ins C D fs))(c:Cls X.K C)(k:Meth X.K C m g)(l:fs.lookup m=none)
  (h:Q (.ref g,[.ref a]) s):wpAny (model X.prog X.w) A (getMethod (.ref a) m pl) Q E s:=by
 obtain⟨j,O,r,_,_,_⟩:=ins_get I.hok e;have i:j m=none:=RelO.none_of (by rw[<-l];exact r m);exact get_meth I.kIn O (c.get m) k.at_ k.fn i h
theorem setattr_ok (I:Inv X p d H s)(e:H a=so (.ins C D fs))(c:Cls X.K C)(n:NoAttr X.K C f)(hl:fs.length<1000)(G:RelV y u)
  (h:∀s',Inv X p d (upd H a (.ins C D (putF f y fs))) s' -> Q Unit.unit s'):wpAny (model X.prog X.w) A (setAttr (.ref a) f u) Q E s:=by
 obtain⟨m,O,r,w,_,j⟩:=ins_get I.hok e;have F:(fs.map (·.1)).length<=sizeLine:=by rw[ac,cX];lia
 refine set_map I.kIn O c.sa c.po n.taker c.hd w F λk i J=>h _ ?_;have t:∃o,k.get? D=so o:=let (o,_,_,e',_):=i.ns;(o,e')
 refine I.write (x:=a) (e:=D) (by rw[e];exact tT) (.inr j) (λb q l z=>(J.2 b l).trans z) t ?_;refine(by rw[upd_ne O.ne];exact j,?_,O.ne,i.obj,_,i.ns,λg=>?_,λg B=>?_)
 .have:=length_putF f y fs;lia
 .show RelO ((putF f y fs).lookup g) (if g=f then so u else m g);rw[lookup_putF];by_cases q:g=f
  .rw[aL q,aL q];exact G
  .rw[aF q,aF q];exact r g
 .by_cases q:g=f
  .rw[q];exact(keys_putF f y fs).1
  .refine(keys_putF f y fs).2 g (w g λz=>B ?_);show(if g=f then so u else m g)=none;rw[aF q];exact z
theorem Inv.made (I:Inv X p d H s):Inv X p d (upd (upd H s.heap.objs.size (.own (s.heap.objs.size+1))) (s.heap.objs.size+1) (.ins C s.heap.objs.size []))
  { s with heap:=(s.heap.push W.emptyDict).push (W.instObj C s.heap.objs.size) }:=by
 have c:(s.heap.push W.emptyDict).get? s.heap.objs.size=so W.emptyDict:=bh s.heap rfl;have g:((s.heap.push W.emptyDict).push (W.instObj C s.heap.objs.size)).get? (s.heap.objs.size+1)=so (W.instObj C s.heap.objs.size):=by
  have:=bh (s.heap.push W.emptyDict) (o:=W.instObj C s.heap.objs.size) rfl
  rwa [Heap.size_push]at this
 have h:(s.heap.push W.emptyDict).Ns s.heap.objs.size (λ_=>none):=(W.emptyDict,#[],_,c,rz,(λe j=>absurd j (by simp)),λ_=>rz);have i:=I.laid (a:=s.heap.objs.size) (o:=.own (s.heap.objs.size+1)) (h':=s.heap.push W.emptyDict) (t':=s.toks) (λb u q=>aA _ q) (ao _) (_,c);refine i.laid (a:=s.heap.objs.size+1) (o:=.ins C s.heap.objs.size []) (t':=s.toks) (λb u q=>aA _ q) (ja (Heap.size_push _ _)) ?_;have n:s.heap.objs.size≠s.heap.objs.size+1:=aZ (dA _);refine(by rw[upd_ne n,upd_same],bp _,n,g,λ_=>none,(Heap.Ns1.of_empty h).at λo q=>aA _ q,λ_=>tT,λy k=>absurd rz k)
theorem attr_of (g:attributeBase e f env (eval e env)=eval e env)
  (h:wpAny (model prog w) A (eval e env) (λo c=>wpAny (model prog w) A (getAttr o f true) Q E c) E s):wpAny (model prog w) A (eval (.Attribute e f pos) env) Q E s:=
 Attribute_any_ h (by rw[arm_eval_Attribute,g])
end
def tFld (K:Fg)(t:TE)(f:Str):TE:=λc H Q=>t c H λx h=>∃a C d fs v,x=.ref a/\h a=so (.ins C d fs)/\Cls K C/\NoAttr K C f/\fs.lookup f=so v/\Q v h
def sFld (K:Fg)(t g:TE)(f:Str):TS:=λD c H=>g c H λy e=>t c e λx h=>∃a C d fs,x=.ref a/\h a=so (.ins C d fs)/\Cls K C/\NoAttr K C f/\fs.length<1000 /\
 D.nx c (upd h a (.ins C d (putF f y fs)))
section
variable {X:Cx}{o e d:Expr}{f:Str}{pos p T:Pos}{t g:TE}
theorem pe_fld (z:PE X e t)(y:attributeBase e f X.env (eval e X.env)=eval e X.env):PE X (.Attribute e f pos) (tFld X.K t f):=by intro i s D H Q I h;refine attr_of y (thn (z i s D H _ I h) λu F (x,j,k,B,a,C,E,fs,v,w,r,c,n,l,q)=>?_);subst w;obtain rfl:u=Value.ref a:=B;exact getattr_ok k r c n l λJ G m A=>(v,j,m,A,q)
theorem ps_fld (A:PE X o t)(E:PE X d g)(B:swapsWith d (so (.Attribute o f p)) pos.line X.env=pure false):PS X (.Assign [.Attribute o f p] d pos) (sFld X.K t g f):=by intro i s j H D I h;refine plainObj_wpAny_Assign_Attribute (thn (E i s j H _ I h) λu M (y,k,m,L,q)=>thn (A i M j k _ m q) λF P (x,N,r,J,a,C,O,fs,z,w,c,n,l,G)=>?_) B;subst z;obtain rfl:F=Value.ref a:=J;exact setattr_ok r w c n l L λQ v=>(j,_,v,G)
end
section
variable {X:Cx}{p:List (Addr×Obj)}{d:St}{H:Hp}{s:Shared}{A:Around}{E:Value->Shared->Prop}{Q:Value->Shared->Prop}{c:Value}{b:Bool}
inductive TyOf (K:Fg)(H:Hp):V->Value->Prop where
 |non:TyOf K H .non (.type "NoneType")
 |bl (x:Bool):TyOf K H (.bl x) (.type "bool")
 |int (i:Int):TyOf K H (.int i) (.type "int")
 |str (x:Str):TyOf K H (.str x) (.type "str")
 |flt (x:UInt64):TyOf K H (.flt x) (.type "float")
 |lst {a:Addr} {xs:List V} (e:H a=so (.lst xs)):TyOf K H (.ref a) (.type "list")
 |frz {a:Addr} {o:Obj} {xs:List V} (e:H a=so (.frz o (.lst xs))):TyOf K H (.ref a) (.type "list")
 |tup {a:Addr} {xs:List V} (e:H a=so (.tup xs)):TyOf K H (.ref a) (.type "tuple")
 |ins {a C dx:Addr} {fs:List (Str×V)} (e:H a=so (.ins C dx fs)) (cl:Cls K C) (ha:W.findIn K (.ref C) "__class__"=so (so (.builtin "object.__class__")))
   (hn:W.specialIn K (.builtin "object.__class__") "__get__"=so (so (.builtin "getset_descriptor.__get__"))) (htk:W.takesIn K (.builtin "object.__class__")=so true)
   (hm:W.mroIn K C (.type "object")=so true):TyOf K H (.ref a) (.ref C)
end
theorem Room.mono (r:Room k A)(h:j<=k):Room j A:=(r.hd,by have:=r.dp;lia,by have:=r.un;lia)
theorem Room.deeper (r:Room (k+1) A)(env:Env):Room k (A.deeper env):=
 (r.hd,by have:=r.dp;show A.depth+1+3*k+5<_;lia,by have:=r.un;show A.units+3+16*k+200<_;lia)
theorem Room.in1 (r:Room (k+1) A):Room k A.in1:=
 (r.hd,by have:=r.dp;show A.depth+3*k+5<_;lia,by have:=r.un;show A.units+1+16*k+200<_;lia)
theorem make_depth {A:Around}{C:Addr}{us:Lv}{k:List (Str×Value)}:(A.under (.builtin "type.__call__" (.ref C::us,k))).depth=A.depth+1:=by
 first|rfl|simp[Around.under,Code.weight,Code.isCreation,Code.isGuard,Code.isCaller,Code.frames,Code.isFrame,guardIds]
theorem make_units {A:Around}{C:Addr}{us:Lv}{k:List (Str×Value)}:(A.under (.builtin "type.__call__" (.ref C::us,k))).units=A.units+1:=by
 first|rfl|simp[Around.under,Code.cUnits,Code.frames,Code.isFrame]
theorem Room.make (r:Room (k+1) A)(C:Addr)(us:Lv)(a:List (Str×Value)):Room k (A.under (.builtin "type.__call__" (.ref C::us,a))):=
 (r.hd,by have:=r.dp;rw[make_depth];lia,by have:=r.un;rw[make_units];lia)
theorem Room.depth (r:Room k A):A.depth<recursionLimit:=by have:=r.dp;lia
theorem Room.units (r:Room k A):A.units+64<cLine:=by have:=r.un;lia
def tNil:TA:=λ_ H Q=>Q [] H
def tCons (t:TE)(tr:TA):TA:=λa H Q=>t a H λx h=>tr a h λxs c=>Q (x::xs) c
section
variable {X:Cx}{e:Expr}{E:List Expr}{T:TE}{t:TA}{pos:Pos}
theorem pa_nil:PA X [] tNil:=λ_ _ _ _ H Q I h=>Calls.spliced_nil ([],H,I,.nil,h)
theorem pa_cons (g:PE X e T)(j:PA X E t)(k:starEach (e::E) X.env=(false,eval e X.env)::starEach E X.env:=by rfl):PA X (e::E) (tCons T t):=by intro pos p s a H Q I h;rw[k];show wpAny _ _ (spliced ((false,eval e X.env)::backTo pos (starEach E X.env))) _ _ s;refine Calls.spliced_cons (thn (g p s a H _ I h) λu o (x,c,i,r,l)=>?_);exact thn (j pos p o a c _ i l) (by rintro w v ⟨xs,d,f,n,m⟩;exact (x::xs,d,f,.cons r n,m))
def tTup (t:TA):TE:=λa H Q=>t a H λxs h=>xs.length<=sizeLine/\∀p,h p=none->Q (.ref p) (upd h p (.tup xs))
def tLst (t:TA):TE:=λa H Q=>t a H λxs h=>xs.length<=sizeLine/\∀p,h p=none->Q (.ref p) (upd h p (.lst xs))
theorem pe_tup (h:PA X E t):PE X (.Tuple E x1 pos) (tTup t):=by intro p s j H Q I f;refine wpAny_Tuple_spliced (thn (h pos p s j H _ I f) λg a (xs,c,i,r,z,q)=>(by rw[<-r.length];exact z,?_));have d:c a.heap.objs.size=none:=i.hok.fresh (ao _);refine(.ref a.heap.objs.size,upd c a.heap.objs.size (.tup xs),i.laid (t':=a.toks) (λb u e=>aA _ e) (ao _) ?_,rz,q _ d);exact(z,g,r,(_,bh _ rz,rz,_,rz))
theorem pe_lst (h:PA X E t):PE X (.List E pos) (tLst t):=by intro p s j H Q I f;refine wpAny_List_spliced (thn (h pos p s j H _ I f) λg a (xs,c,i,r,z,q)=>(by rw[<-r.length];exact z,?_));have d:c a.heap.objs.size=none:=i.hok.fresh (ao _);refine(.ref a.heap.objs.size,upd c a.heap.objs.size (.lst xs),i.laid (t':=a.toks) (λb u e=>aA _ e) (ao _) ?_,rz,q _ d);exact(z,g,0,r,bh _ rz)
end
theorem FnOk.mono {P:Program}{w:World}{K:Fg}{mg:Mg}{base:Heap}{CX:CXT}{j k:Nat}{f:Addr}{c:FuncData}{p:Ls}{sp:Sp}(F:FnOk P w K mg base CX j f c p sp)(h:j<=k) :
  FnOk P w K mg base CX k f c p sp:=(F.len,λA o s H a u v Q E d=>F.run A o s H a u v Q E (d.mono h))
theorem FnOk.imp {P:Program}{w:World}{K:Fg}{mg:Mg}{base:Heap}{CX:CXT}{k:Nat}{f:Addr}{d:FuncData}{p:Ls}{sp c:Sp}(F:FnOk P w K mg base CX k f d p sp)
  (h:∀vs H Q E,c vs H Q E->sp vs H Q E):FnOk P w K mg base CX k f d p c:=
 (λvs H Q E q=>F.len vs H Q E (h _ _ _ _ q),λA o s H a u vs Q E i g e l j=>F.run A o s H a u vs Q E i g e l (h _ _ _ _ j))
theorem Env0.make {P:Program}{w:World}{K:Fg}{mg:Mg}{base:Heap}{A:Around}{outer:List Env}{s:Shared}{H:Hp}(e:Env0 P w K mg base A outer s H)(C:Addr)(us:Lv)(k:List (Str×Value)) :
  Env0 P w K mg base (A.under (.builtin "type.__call__" (.ref C::us,k))) outer s H:=(by first|exact e.frames|(simpa [Around.under,Code.envs,Code.isFrame,pushEnvs] using e.frames),e.mod,e.bs,e.bsz,e.funs,e.frf,e.hok,e.bare)
theorem Env0.in1 {P:Program}{w:World}{K:Fg}{mg:Mg}{base:Heap}{A:Around}{outer:List Env}{s:Shared}{H:Hp}(e:Env0 P w K mg base A outer s H) :
  Env0 P w K mg base A.in1 outer s H:=(e.frames,e.mod,e.bs,e.bsz,e.funs,e.frf,e.hok,e.bare)
section
variable {X:Cx}{p:List (Addr×Obj)}{a:St}{H:Hp}{s s':Shared}
theorem Inv.env0 (I:Inv X p a H s):Env0 X.prog X.w X.K X.mg X.base X.A X.stack s H:=
 (I.ok.frames,I.ok.mod,I.bs,aj I.ok.bsz I.sz,I.stack,(I.stkFree,λx h=>let (ps,e):=I.ok.frf.t x h;let (more,e'):=I.base.tbls x.2.1 _ e;(ps++more,e')),I.hok,I.bare)
theorem Inv.after (I:Inv X p a H s)(h:CE X.stack X.prog X.w H s Q u s'):EP X p a Q u s':=by obtain⟨v,f,j,c,un,e,r,q⟩:=h;obtain⟨i,g,d,t,o⟩:=s';obtain rfl:o=s.os:=j;exact(v,f,I.call (h':=i) (g':=g) (d':=d) (t':=t) (ch:=[]) un e c (λb z=>absurd z (by simp)),r,q)
end
def tCall (sp:Sp)(d:List V)(E:XK)(t:TA):TE:=λa H Q=>t a H λv h=>sp (v++d) h Q E
def tMeth (C:Addr)(m:Str)(sp:Sp)(d:List V)(E:XK)(g:TE)(t:TA):TE:=λc H Q=>g c H λx h=>∃a f fs,x=.ref a/\h a=so (.ins C f fs)/\fs.lookup m=none /\
 t c h λv e=>sp (x::(v++d)) e Q E
def tMake (C:Addr)(sp:Sp)(a:List V)(E:XK)(t:TA):TE:=λf H Q=>t f H λe h=>∀x d,h x=none->h d=none->d≠x ->
 sp (.ref x::(e++a)) (upd (upd h d (.own x)) x (.ins C d [])) (λv c=>v=.non/\Q (.ref x) c) E
def Passes (CX:CXT)(X:Cx)(E:XK):Prop:=∀(p:List (Addr×Obj)) (σ:St) (H:Hp) (s:Shared) (e:Value) (s':Shared),Inv X p σ H s->CX X.stack H s E e s' -> X.xe e s'
section
variable {X:Cx}{CX:CXT}{k:Nat}{f C:Addr}{i:FuncData}{P:List Str}{sp:Sp}{d:List V}{D:List Value}{E:XK}{x m:Str}{p pos A:Pos}{e o:Expr}{g:List Expr}{T:TE}{t:TA}
theorem run_fn (F:FnOk X.prog X.w X.K X.mg X.base CX k f i P sp)(z:Room k X.A)(v:Binds X.K i P D)(w:Vals d D)(B:Passes CX X E)
  (I:Inv X a l H s) (r:Vals vs us) (h:sp (vs++d) H Q E):wpAny (model X.prog X.w) X.A (call (.ref f) us) (EP X a l Q) X.xe s:=by
 have j:Vals (vs++d) (us++D):=r.append w;have y:(us++D).length=P.length:=by rw[<-j.length];exact F.len _ _ _ _ h
 refine gf (fJ (F.run X.A X.stack s H (us,[]) (us++D) (vs++d) Q E z I.env0 (v s us I.kIn y) j h) λr G c=>?_);cases r with
 |error e=>exact B a l H s e G I c
 |ok n=>
  cases n with
  |ret u=>exact I.after c
  |next=>exact False.elim c
  |brk=>exact False.elim c
  |cont=>exact False.elim c
theorem pe_call (F:FnOk X.prog X.w X.K X.mg X.base CX k f i P sp)(G:Room k X.A)(y:Gl X x)(B:X.mg x=so (.ref f))(z:W.keepIn X.K (.ref f)=true)(u:Binds X.K i P D)(v:Vals d D)(J:Passes CX X E)
  (n:PA X (e::g) t) (c:(x == ("__debug__":Str))=false:=by decide) (w:starEach (e::g) X.env=(false,eval e X.env)::starEach g X.env:=by rfl) (j:(backTo pos (starEach g X.env)).any (·.1)=false:=by rfl) :
  PE X (.Call (.Name x p) (e::g) [] pos) (tCall sp d E t):=by
 intro a s L H Q I h;refine bT (ld_glob I y B ?_ c);refine dB (h₀:=X.base) I.ok.mod.kin z (thn (n pos a s L H _ I h) λO N (R,M,l,r,q)=>(l.kIn,?_)) w j;exact run_fn F G u v J l r q
theorem pe_meth (R:PE X o T)(c:Cls X.K C)(z:Meth X.K C m f)(F:FnOk X.prog X.w X.K X.mg X.base CX k f i P sp)(S:Room k X.A)(N:Binds X.K i P D)(O:Vals d D)(Y:Passes CX X E)(M:PA X (e::g) t)
  (v:starEach (e::g) X.env=(false,eval e X.env)::starEach g X.env:=by rfl) (n:(backTo pos (starEach g X.env)).any (·.1)=false:=by rfl)
  (U:eval (.Call (.Attribute o m A) (e::g) [] pos) X.env=(do
   let ov <-eval o X.env
   standAt A.atName
   let (f,first) <-holding [ov] (getMethod ov m pl)
   callWith pos f first (backTo pos (starEach (e::g) X.env)) (backToKw pos (keywordEach [] X.env))):=by rfl) :
  PE X (.Call (.Attribute o m A) (e::g) [] pos) (tMeth C m sp d E T t):=by
 intro j s B H Q I h;refine iD (pl:=pl) (thn (R j s B H _ I h) λu s1 (x,G,w,rx,a,dx,fs,L,J,l,q)=>?_) U;subst L;obtain rfl:u=Value.ref a:=rx;refine getmeth_ok w J c z l ?_;refine dB (first:=[.ref a]) (h₀:=X.base) I.ok.mod.kin z.kp (thn (M pos j s1 B G _ w q) λus s2 (vs,H2,y,r,Z)=>(y.kIn,?_)) v n
 exact run_fn (us:=.ref a::us) (vs:=.ref a::vs) F S N O Y y (.cons rz r) Z
theorem run_make (M:Mk X.K C f)(F:FnOk X.prog X.w X.K X.mg X.base CX k f i P sp)(R:Room (k+1) X.A)(L:Binds X.K i P D)(N:Vals d D)
  (S:Passes CX X E) (I:Inv X c y H s) (r:Vals vs us)
  (h:∀x l,H x=none->H l=none->l≠x->sp (.ref x::(vs++d)) (upd (upd H l (.own x)) x (.ins C l [])) (λv B=>v=.non/\Q (.ref x) B) E) :
  wpAny (model X.prog X.w) X.A (call (.ref C) us) (EP X c y Q) X.xe s:=by
 have n:=h (s.heap.objs.size+1) s.heap.objs.size (I.hok.fresh (jn _)) (I.hok.fresh (ao _)) (aZ (dA _));have j:=Inv.made (C:=C) I;have w:Vals (V.ref (s.heap.objs.size+1)::(vs++d)) (Value.ref (s.heap.objs.size+1)::(us++D)):=.cons rz (r.append N);have O:(Value.ref (s.heap.objs.size+1)::us++D).length=P.length:=by have e:=w.length;rw[F.len _ _ _ _ n]at e;exact e.symm
 refine gf (make_map (f:=f) I.kIn M.makes M.init (beq_iff_eq.mp M.fn) (fJ (F.run _ X.stack _ _ (Value.ref (s.heap.objs.size+1)::us,[]) (Value.ref (s.heap.objs.size+1)::(us++D)) _ _ E (R.make C us []) (j.env0.make C us []) (L _ (Value.ref (s.heap.objs.size+1)::us) j.kIn O) w n) λr Z a=>?_))
 cases r with
 |error e=>exact S c y _ _ e Z j a
 |ok J=>
  cases J with
  |ret u=>obtain⟨v,z,G,Y,ev,U⟩:=j.after a;subst ev;exact(Y,(V.ref (s.heap.objs.size+1),z,G,rz,U))
  |next=>exact False.elim a
  |brk=>exact False.elim a
  |cont=>exact False.elim a
theorem pe_make (M:Mk X.K C f)(F:FnOk X.prog X.w X.K X.mg X.base CX k f i P sp)(B:Room (k+1) X.A)(y:Gl X x)(z:X.mg x=so (.ref C))(u:Binds X.K i P D)(v:Vals d D)(G:Passes CX X E)
  (n:PA X (e::g) t) (c:(x == ("__debug__":Str))=false:=by decide) (w:starEach (e::g) X.env=(false,eval e X.env)::starEach g X.env:=by rfl) (j:(backTo pos (starEach g X.env)).any (·.1)=false:=by rfl) :
  PE X (.Call (.Name x p) (e::g) [] pos) (tMake C sp d E t):=by
 intro a s J H Q I h;refine bT (ld_glob I y z ?_ c);refine dB (h₀:=X.base) I.ok.mod.kin M.kp (thn (n pos a s J H _ I h) λO N (R,L,l,r,q)=>(l.kIn,?_)) w j;exact run_make M F B u v G l r q
theorem pe_make0 (M:Mk X.K C f)(F:FnOk X.prog X.w X.K X.mg X.base CX k f i P sp)(u:Room (k+1) X.A)(n:Gl X x)(r:X.mg x=so (.ref C))(j:Binds X.K i P D)(l:Vals d D)(v:Passes CX X E)
  (a:(x == ("__debug__":Str))=false:=by decide):PE X (.Call (.Name x p) [] [] pos) (tMake C sp d E tNil):=by
 intro c s w H Q I h;refine bT (ld_glob I n r ?_ a);exact W.callWith_K0 I.kIn M.kp (run_make (us:=[]) M F u j l v I .nil h)
end
structure FnScope (N P:List Str)(sc:Scope):Prop where
 kind:sc.kind=.function
 co:sc.isCoroutine=false
 gen:sc.isGenerator=false
 nd:N.Nodup
 pre:N.take P.length=P
 par:∀x∈P,sc.names.lookup x=so .local\/sc.names.lookup x=so .cell
 nofree:∀y∈sc.names,y.2 ≠ .free
theorem bindL_out {k:Str->Option NameKind}:∀{binds:List (Str×Value)} {m:Mg},(∀v,(x,v)∉binds)->bindL k binds m x=m x
 |[],_,_=>rfl
 |(n,v)::r,m,h=>by
  unfold bindL;rw[bindL_out λw a=>h w (ai _ a)];split
  .have:x≠n:=by rintro rfl;exact h v az
   simp[this]
  .rfl
theorem bindC_out {k:Str->Option NameKind}:∀{binds:List (Str×Value)} {m:Mg},(∀v,(x,v)∉binds)->bindC k binds m x=m x
 |[],_,_=>rfl
 |(n,v)::r,m,h=>by
  unfold bindC;rw[bindC_out λw a=>h w (ai _ a)];split
  .rfl
  .have:x≠n:=by rintro rfl;exact h v az
   simp[this]
theorem bindL_get {k:Str->Option NameKind}:∀{P:Ls} {vs:Lv} {i:Nat} {m:Mg},P.Nodup->P[i]?=so x->vs[i]?=so v->k x=so .local ->
  bindL k (P.zip vs) m x=so v
 |[],_,_,_,_,h,_,_=>by simp at h
 |_::_,[],_,_,_,_,h,_=>by simp at h
 |p::P,w::vs,0,m,nd,h1,h2,hk=>by simp at h1 h2;subst h1;subst h2;show bindL k ((p,w)::P.zip vs) m p=_;unfold bindL;rw[bindL_out λv a=>(fh.mp nd).1 (dh a).1,aL hk];simp
 |p::P,w::vs,i+1,m,nd,h1,h2,hk=>by show bindL k ((p,w)::P.zip vs) m x=_;unfold bindL;exact bindL_get (i:=i) (fh.mp nd).2 (by simpa using h1) (by simpa using h2) hk
theorem bindC_get {k:Str->Option NameKind}:∀{P:Ls} {vs:Lv} {i:Nat} {m:Mg},P.Nodup->P[i]?=so x->vs[i]?=so v->k x≠so .local ->
  bindC k (P.zip vs) m x=so v
 |[],_,_,_,_,h,_,_=>by simp at h
 |_::_,[],_,_,_,_,h,_=>by simp at h
 |p::P,w::vs,0,m,nd,h1,h2,hk=>by simp at h1 h2;subst h1;subst h2;show bindC k ((p,w)::P.zip vs) m p=_;unfold bindC;rw[bindC_out λv a=>(fh.mp nd).1 (dh a).1,aF hk];simp
 |p::P,w::vs,i+1,m,nd,h1,h2,hk=>by show bindC k ((p,w)::P.zip vs) m x=_;unfold bindC;exact bindC_get (i:=i) (fh.mp nd).2 (by simpa using h1) (by simpa using h2) hk
def start (N:List Str)(vs:List V):St:=vs.map so++sP (N.length-vs.length) none
def cxOf (CX:CXT)(P:Program)(w:World)(K:Fg)(mg:Mg)(base:Heap)(N:List Str)(a:Str)(scope:Scope)(f:Addr)(d:Value)(A:Around)(outer:List Env)(s:Shared)(H:Hp)(E:XK):Cx where
 prog:=P
 w:=w
 K:=K
 mg:=mg
 base:=base
 A:=A.deeper (envOfC a scope s.heap.objs.size f d)
 N:=N
 s₀:=s
 H₀:=H
 env:=envOfC a scope s.heap.objs.size f d
 outer:=outer
 stack:=envOfC a scope s.heap.objs.size f d::outer
 ex:=[]
 calm:=true
 fn:=λ_=>true
 pn:=[]
 xe:=λe h=>wpAny (model P w) (A.deeper (envOfC a scope s.heap.objs.size f d)) (leaving (envOfC a scope s.heap.objs.size f d) e) (λ_ c=>CX outer H s E e c) (λg c=>CX outer H s E g c) h
theorem cell_has {sc:Scope}{n:Nat}{x:Str}(h:sc.names.lookup x=so .cell):∃c,(cellsFrom n sc.names []).lookup x=so c:=by have q:=iA sc.names n [] (.inl h);exact cV.mp q
theorem inv_start {CX:CXT}{P:Program}{w:World}{K:Fg}{mg:Mg}{base:Heap}{N m:Ls}{d:Str}{scope:Scope}{f:Addr}{B:Value}{A:Around}{outer:List Env}{s I:Shared}{H:Hp}{E:XK}{us:Lv}{vs:List V}
  (S:FnScope N m scope) (L:A.handled=none) (j:Env0 P w K mg base A outer s H) (hl:vs.length=m.length) (r:Vals vs us)
  (x:InCallC s s.heap.objs.size (bindL (envOfC d scope s.heap.objs.size f B).kindOf (m.zip us) λ_=>none) (cellsFrom (s.heap.objs.size+1) scope.names []) (bindC (envOfC d scope s.heap.objs.size f B).kindOf (m.zip us) λ_=>none) I) :
  Inv (cxOf CX P w K mg base N d scope f B A outer s H E) [] (start N vs) H I:=by
 have M:m.length<=N.length:=by have:=congrArg List.length S.pre;rw[cu]at this;lia
 obtain⟨C,R,rfl,F⟩:=x.done;have noA:∀b:Addr,b∉(cxOf CX P w K mg base N d scope f B A outer s H E).ex:=λb z=>absurd (show b∈([]:List Addr) from z) (by simp);refine((j.mod,S.kind,rz,rz,ao _,λy z c C g=>?_,λy l=>?_,λy c _ h=>?_,λ_=>L,Around.frames_deeper j.frames,.inr (rz,rz),λb z=>absurd z (noA b),j.bs,j.bsz,λb _ _=>noA b,λb z=>absurd z (noA b),j.funs,j.frf),rz,j.bare,Un.kept F,(_,x.toInCall.ns,λi y v C g Q=>?_),λy c h=>(_,x.cell y c h),j.hok.fresh (ao _),λy c h=>?_,λp o=>absurd (show p∈([]:List (Addr×Obj)) from o) (by simp),j.hok.kept F,?_)
 .exact name_of_addr x.apart (di C) (di g)
 .have l:scope.names.lookup y=so .cell\/scope.names.lookup y=so .free:=l;rcases l with l|l
  .exact cell_has l
  .exact absurd rz (S.nofree _ (di l))
 .exact a7 (x.above y c (di h))
 .have D:i<vs.length:=by
   unfold start at g;by_cases D:i<vs.length
   .exact D
   .rw[bD (by simpa using D)]at g;rw[cI]at g;split at g<;>cases g
  have J:vs[i]?=so v:=by
   unfold start at g;rw[bB (by simpa using D),ag]at g;cases e:vs[i]? with
   |none=>rw[e]at g;cases g
   |some a=>rw[e]at g;cases g;rfl
  obtain⟨u,G,O⟩:=r.get J;have o:m[i]?=so y:=by rw[<-S.pre,List.getElem?_take_of_lt ()];exact C
  have t:m.Nodup:=by rw[<-S.pre];exact S.nd.sublist (List.take_sublist _ _)
  refine(u,O,?_);rcases S.par y (aP o) with k|k
  .exact .inl (k,bindL_get t o G k)
  .obtain⟨c,e⟩:=cell_has (n:=s.heap.objs.size+1) k;refine .inr (.inl k,c,e,?_);have q:=x.cell y c e;rw[bindC_get t o G (by show scope.names.lookup y≠_;rw[k];decide)]at q;exact q
 .exact j.hok.fresh (a7 (x.above y c (di h)))
 .unfold start;show _=N.length;rw[aS,ac,aR];lia
theorem fn_of {CX:CXT}{P:Program}{w:World}{K:Fg}{mg:Mg}{base:Heap}{k:Nat}{f:Addr}{g a:Str}{p:Arguments}{body:List Stmt}{scope:Scope}{U kV m Y c ct oc:Value}{an od:Option Addr}
  {L:Array (Option Value)} {N C:List Str} {sp:Sp} (lk:K.lookup f=so (oc,od,.func (W.fnOf g a p body scope U kV m Y an c ct),L)) (D:W.codeIn K c a=true) (S:FnScope N C scope)
  (len:∀vs H Q E,sp vs H Q E->vs.length=C.length)
  (i:∀(A:Around) (outer:List Env) (s:Shared) (H:Hp) (vs:List V) (Q:VK) (E:XK),Room k (A.deeper (envOfC a scope s.heap.objs.size f c))->sp vs H Q E -> ∃t,PSs (cxOf CX P w K mg base N a scope f c A outer s H E) body t/\t { nx:=λ_ h=>Q .non h,rt:=Q } (start N vs) H) :
  FnOk P w K mg base CX (k+1) f (W.fnOf g a p body scope U kV m Y an c ct) C sp:=by
 refine(len,λA outer s H T us vs Q E F z hb r B=>?_);have hl:=len _ _ _ _ B;have R:K.In s.heap:=z.mod.kin.keeps λb o e=>(z.bs b o e).1;have G:s.heap.NoLimit:=z.mod.nolimit.keeps λb o e=>(z.bs b o e).1;have j:∀y∈C.zip us,scope.names.lookup y.1=so .local\/(scope.names.lookup y.1=so .cell/\((cellsFrom (s.heap.objs.size+1) scope.names []).lookup y.1).isSome=true):=λ (n,v) hy=>by
  rcases S.par n (dh hy).1 with q|q
  .exact .inl q
  .exact .inr (q,iA _ _ _ (.inl q))
 refine codeAny_call_function F.depth (R _ _ lk) rz S.co S.gen rz (W.codeRec_of R D) (hb _ _ _ _ ?_);refine wpAny_newFunctionEnv_cells S.kind j λenv he Z x=>?_;subst he;refine(G.keeps x.toInCall.keep,codeAny_func ?_);obtain⟨t,ht,hq⟩:=i A outer s H vs Q E (F.deeper _) B;have I:Inv (cxOf CX P w K mg base N a scope f c A outer s H E) [] (start N vs) H Z:=inv_start S F.hd z hl r x;refine dJ (ht [] Z (start N vs) H _ I hq) (λfl O l=>?_) λe O l=>l;have fin:∀{d:St} {h:Hp} {v:V} {u:Value},Inv (cxOf CX P w K mg base N a scope f c A outer s H E) [] d h O -> RelV v u->Q v h -> CE outer P w H s Q u O:=
  λ{d h v u} J M q=>(v,h,J.os,J.bare,J.base,J.hok,M,q)
 cases fl with
 |ret u=>obtain⟨v,d,h,J,M,q⟩:=l;exact fin J M q
 |next=>obtain⟨d,h,J,q⟩:=l;exact fin (v:=V.non) (u:=Value.none) J rz q
 |brk=>obtain⟨_,_,_,q⟩:=l;exact False.elim q
 |cont=>obtain⟨_,_,_,q⟩:=l;exact False.elim q
section
variable {X:Cx}{x:Str}{p pos:Pos}{e:Expr}{E:List Expr}{t:TA}{id T:String}{r:List V->Hp->VK->Prop}
def tCB (r:List V->Hp->VK->Prop)(t:TA):TE:=λa H Q=>t a H λv h=>r v h Q
theorem pe_callB (k:CallR X (.builtin id) r)(m:Gl X x)(n:X.mg x=none)(u:bootBuiltins x=so (.builtin id))(j:PA X (e::E) t)(o:x≠"__name__":=by decide)(c:(x == ("__debug__":Str))=false:=by decide)
  (l:starEach (e::E) X.env=(false,eval e X.env)::starEach E X.env:=by rfl) (d:(backTo pos (starEach E X.env)).any (·.1)=false:=by rfl):PE X (.Call (.Name x p) (e::E) [] pos) (tCB r t):=by
 intro a s f H Q I h;refine bT (ld_blt I m n u ?_ o c);exact PyProof.Rows.callWith_builtin1 (thn (j pos a s f H _ I h) (by rintro z y ⟨A,g,i,w,v⟩;exact k a y f g A z Q i w v)) l d
theorem pe_callTy (k:CallR X (.type T) r)(m:Gl X x)(n:X.mg x=none)(u:bootBuiltins x=so (.type T))(j:PA X (e::E) t)(o:x≠"__name__":=by decide)(c:(x == ("__debug__":Str))=false:=by decide)
  (l:starEach (e::E) X.env=(false,eval e X.env)::starEach E X.env:=by rfl) (d:(backTo pos (starEach E X.env)).any (·.1)=false:=by rfl):PE X (.Call (.Name x p) (e::E) [] pos) (tCB r t):=by
 intro a s f H Q I h;refine bT (ld_blt I m n u ?_ o c);exact cH (thn (j pos a s f H _ I h) (by rintro z y ⟨A,g,i,w,v⟩;exact k a y f g A z Q i w v)) l d
end
end L2
namespace HT
open PySem PyProof.Rows
section
variable {prog:Program}{w:World}{A:Around}{E:Value->Shared->Prop}{s:Shared}
def sIx (n d:Nat):Option Int->Nat
 |none=>d
 |some v=>if v<0 then(v+(n:Int)).toNat else min v.toNat n
theorem sIx_none (n d:Nat):sIx n d none=d:=rfl
theorem sIx_nat (n d k:Nat):sIx n d (so (k:Int))=min k n:=by show(if (k:Int)<0 then((k:Int)+(n:Int)).toNat else min (k:Int).toNat n)=min k n;rw[aF (),ce]
end
end HT
namespace L2
open PySem PySem.Spec PyProof.Rows
abbrev TO:=St->Hp->(Option Int->Hp->Prop)->Prop
def PO (X:Cx)(e:Option Expr)(t:TO):Prop:=
 ∀(p:List (Addr×Obj)) (s:Shared) (σ:St) (H:Hp) (Q:Option Int->Hp->Prop),Inv X p σ H s->t σ H Q ->
  wpAny (model X.prog X.w) X.A (evalPart e X.env) (λu a=>∃o h,Inv X p σ h a/\IsPart u o/\Q o h) X.xe s
def tNoPart:TO:=λ_ H Q=>Q none H
def tPart (t:TE):TO:=λa H Q=>t a H λx h=>∃i,x=.int i/\Q (so i) h
section
variable {X:Cx}{e:Expr}{c:TE}{L a:Option Expr}{f d:TO}{pos p:Pos}
theorem po_none:PO X none tNoPart:=by intro g s i H Q I h;rw[evalPart_none];exact bG (none,H,I,.none,h)
theorem po_some (h:PE X e c):PO X (so e) (tPart c):=by intro g s n H Q I l;rw[evalPart_some];refine thn (h g s n H _ I l) λu o (x,j,k,r,m)=>?_;obtain⟨i,rfl,q⟩:=m;obtain⟨t,rfl⟩:=r;exact(so i,j,k,.int i t,q)
def SlR (X:Cx)(r:V->Option Int->Option Int->Hp->VK->Prop):Prop:=
 ∀(g:List (Addr×Obj)) (s:Shared) (σ:St) (H:Hp) (x:V) (v vl vu:Value) (L a:Option Int) (sl:Addr) (Q:VK),Inv X g σ H s->RelV x v->s.heap.IsSliceOf sl vl vu .none->IsPart vl L->IsPart vu a->r x L a H Q ->
  ∃T id,typeLookup (.type T) "__getitem__"=pure (so (.builtin id))/\s.TypeIs v T/\wpAny (model X.prog X.w) X.A (getItem v (.ref sl)) (EP X g σ Q) X.xe s
def tSl (r:V->Option Int->Option Int->Hp->VK->Prop)(c:TE)(f d:TO):TE:=λg H Q=>c g H λx h=>f g h λl i=>d g i λu j=>r x l u j Q
theorem pe_slice (E:SlR X r)(C:PE X e c)(hl:PO X L f)(G:PO X a d):PE X (.Subscript e (.Slice L a none p) pos) (tSl r c f d):=by intro g s j H Q I h;refine Subscript_ (thn (C g s j H _ I h) λv R (x,o,w,P,M)=>?_);refine wpAny_Slice (thn (hl g R j o _ w M) λk S (l,t,y,pl,N)=>thn (G g S j t _ y N) λm i (u,n,z,J,O)=>?_);rw[evalPart_none];refine bG ?_;have A:Inv X g j n { i with heap:=i.heap.push { cls:=.type "slice",data:=.fields #[k,m,.none] } }:=z.kept (t':=i.toks) λb ob q=>aA _ q;obtain⟨T,id,B,F,D⟩:=E g { i with heap:=i.heap.push { cls:=.type "slice",data:=.fields #[k,m,.none] } } j n x v k m l u i.heap.objs.size Q A P (Heap.IsSliceOf.new ..) pl J O;show wpAny (model X.prog X.w) X.A (subscriptTail e (.Slice L a none p) v (.ref i.heap.objs.size)) (EP X g j Q) X.xe { i with heap:=i.heap.push { cls:=.type "slice",data:=.fields #[k,m,.none] } };exact tail_any (ops:=[.ref i.heap.objs.size,v]) F B D (by with_unfolding_all rfl)
def cutV (xs:List V)(L a:Option Int):List V:=(xs.drop (HT.sIx xs.length 0 L)).take (HT.sIx xs.length xs.length a-HT.sIx xs.length 0 L)
theorem cutV_length (xs:List V)(L a:Option Int):(cutV xs L a).length<=xs.length:=by unfold cutV;rw[cu,bW];lia
end
def ixN (n:Nat)(i:Int):Option Nat:=if 0<=i then(if i<n then so i.toNat else none) else if -(n:Int)<=i then so (i+n).toNat else none
def atI {a:Type}(xs:List a)(i:Int):Option a:=(ixN xs.length i).bind λj=>xs[j]?
theorem ixN_seq (h:ixN n i=so j):seqIndex? i n=so j/\j<n /\ -(n:Int)<=i/\i<n:=by
 unfold ixN at h;by_cases h0:0<=i
 .rw[aL h0]at h;by_cases a:i<n
  .rw[aL a]at h;have e:i.toNat=j:=aJ h;exact(by rw[iW h0 a,e],(),(),a)
  .rw[aF a]at h;cases h
 .rw[aF h0]at h;by_cases a:-(n:Int)<=i
  .rw[aL a]at h;have e:(i+n).toNat=j:=aJ h;exact(by rw[iE () a,e],(),a,())
  .rw[aF a]at h;cases h
theorem atI_get {a:Type}{xs:List a}{i:Int}{v:a}(h:atI xs i=so v):∃j,seqIndex? i xs.length=so j/\xs[j]?=so v/\j<xs.length /\ -(xs.length:Int)<=i/\i<xs.length:=by
 unfold atI at h;cases e:ixN xs.length i with
 |none=>rw[e]at h;cases h
 |some j=>rw[e]at h;obtain⟨c,d,f,g⟩:=ixN_seq e;exact(j,c,h,d,f,g)
theorem atI_nat {a:Type}{xs:List a}{j:Nat}{v:a}(h:xs[j]?=so v):atI xs (j:Int)=so v:=by
 have c:j<xs.length:=(ah.mp h).1;have e:ixN xs.length (j:Int)=so j:=by unfold ixN;rw[aL (),aL ()];simp
 unfold atI;rw[e];exact h
def PlainIx (b:Expr):Prop:=∀o i,subscripted b false o i=operate [o,i] (getItem o i)
def IxR (X:Cx)(r:R2):Prop:=
 ∀(c a:Expr) (pins:List (Addr×Obj)) (s:Shared) (σ:St) (H:Hp) (x y:V) (v u:Value) (Q:VK),Inv X pins σ H s->RelV x v->RelV y u->r x y H Q ->
  subscripted a false v u=operate [v,u] (getItem v u)->wpAny (model X.prog X.w) X.A (subscriptTail c a v u) (EP X pins σ Q) X.xe s
def MtR (X:Cx)(id:String)(r:V->List V->Hp->VK->Prop):Prop:=
 ∀(p:List (Addr×Obj)) (s:Shared) (σ:St) (H:Hp) (x:V) (xs:List V) (v:Value) (us:List Value) (Q:VK),Inv X p σ H s->RelV x v->Vals xs us->r x xs H Q ->
  wpAny (model X.prog X.w) X.A (call (.builtin id) (v::us)) (EP X p σ Q) X.xe s
section
variable {X:Cx}{a b:Expr}{m B:TE}{pos:Pos}
theorem IxR.or (h:IxR X r)(h':IxR X r'):IxR X (λx y H Q=>r x y H Q\/r' x y H Q):=by
 intro d c p s i H x y v u Q I f g q e;rcases q with q|q
 .exact h d c p s i H x y v u Q I f g q e
 .exact h' d c p s i H x y v u Q I f g q e
theorem pe_ix (f:IxR X r)(d:PE X a m)(e:PE X b B)(g:PlainIx b):PE X (.Subscript a b pos) (tOp r m B):=by intro p s n H Q I h;exact Subscript_ (binT d e I h λv u l x y c i j k q=>f a b p l n c x y v u Q i j k q (g _ _))
def rIxL (K:Fg):R2:=λx y H Q=>∃p xs i v,x=.ref p/\y=.int i/\SqL K H p xs/\atI xs i=so v/\Q v H
def rIxT (K:Fg):R2:=λx y H Q=>∃p xs i v,x=.ref p/\y=.int i/\SqT K H p xs/\atI xs i=so v/\Q v H
def rIxS:R2:=λx y H Q=>∃z i c,x=.str z/\y=.int i/\z.length<=sizeLine/\atI z.cps.toList i=so c/\Q (.str ⟨#[c]⟩) H
theorem ix_list:IxR X (rIxL X.K):=by
 intro l k c s A H x y v u Q I L M h o;obtain⟨p,xs,i,z,rfl,rfl,J,F,q⟩:=h;cases L;obtain⟨t,rfl⟩:=M;obtain⟨f,r,pl,R⟩:=I.list J;obtain⟨j,d,C,O,D,E⟩:=atI_get F;obtain⟨w,n,g⟩:=r.get C;have G:=r.length;have P:=line63;have fin:EP X c A Q w s:=(z,H,I,g,q);by_cases h0:0<=i
 .have e:i.toNat=j:=by rw[iW h0 E]at d;exact aJ d
  exact item_listR pl.isList h0 () (by rw[e];simpa using n) fin o
 .have e:(i+(f.toArray.size:Int)).toNat=j:=by rw[iE () D]at d;rw[aD,<-G];exact aJ d
  exact dW (x:=w) pl.isList.typeIs slot_list_getitem.lookup
   (wpAny_getItem_list_neg (Q:=λr N=>r=w/\EP X c A Q r N) pl.isList () (by rw[aD]<;>lia) () (by rw[e];simpa using n) (rz,fin)) o
theorem ix_tup:IxR X (rIxT X.K):=by
 intro f e c s g H x y v u Q I F G h D;obtain⟨p,xs,i,z,rfl,rfl,C,o,q⟩:=h;cases F;obtain⟨t,rfl⟩:=G;obtain⟨E,r,pl,P⟩:=I.tuple C;obtain⟨j,l,n,L,M,N⟩:=atI_get o;obtain⟨w,k,d⟩:=r.get n;have A:=r.length;have O:=line63;have fin:EP X c g Q w s:=(z,H,I,d,q);exact dW (x:=w) pl.typeIs slot_tuple_getitem.lookup
  (getItem_tuple (j:=j) (Q:=λr J=>r=w/\EP X c g Q r J) pl () () (by rw[aD,<-A];exact l) (by simpa using k) (rz,fin)) D
theorem ix_str:IxR X rIxS:=by
 intro e d p s L H x y v u Q I C D h A;obtain⟨z,i,c,rfl,rfl,G,r,q⟩:=h;obtain⟨t,rfl⟩:=C;obtain⟨J,rfl⟩:=D;obtain⟨j,f,l,E,n,o⟩:=atI_get r;have w:z.cps.toList.length=z.length:=by simp[Str.length]
 rw[w]at f n o;have F:=line63;exact tail_any (typeIs_str s z t) slot_str_getitem.lookup (getItem_str (c:=c) (by
  have g:decide (i < -(2^63:Int))=false:=aN ();have k:decide (i ≥ 2^63)=false:=aN ();rw[g,k,Bool.or_false]) (by rw[f];simpa using l) (.str ⟨#[c]⟩,H,I.tok _,(_,rz),q)) A
def rIx (K:Fg):R2:=λx y H Q=>rIxL K x y H Q\/rIxT K x y H Q\/rIxS x y H Q
theorem ix_seq:IxR X (rIx X.K):=ix_list.or (ix_tup.or ix_str)
theorem mapSeq_set (its:Lv)(n j:Nat)(u:Value):Obj.mapSeq (·.setIfInBounds j u) { cls:=.type "list",data:=.seq its.toArray n }={ cls:=.type "list",data:=.seq (its.set j u).toArray n }:=by simp[Obj.mapSeq]
theorem Inv.lst (I:Inv X c d H s)(h:H p=so (.lst xs)) :
  ∃(its:List Value) (n:Nat),Vals xs its/\s.heap.get? p=so { cls:=.type "list",data:=.seq its.toArray n }/\xs.length<=sizeLine:=by
 obtain⟨z,its,n,r,e⟩:=I.hok p _ h;exact(its,n,r,e,z)
theorem Inv.lstUpd {c:List (Addr×Obj)}{i:St}{H:Hp}{s:Shared}{p:Addr}{xs ys:List V}{its its':Lv}{n d:Nat}{f:Obj->Obj}(I:Inv X c i H s)(h:H p=so (.lst xs))
  (k:s.heap.get? p=so { cls:=.type "list",data:=.seq its.toArray n }) (g:f { cls:=.type "list",data:=.seq its.toArray n }={ cls:=.type "list",data:=.seq its'.toArray d }) (r:Vals ys its') (l:ys.length<=sizeLine) (t:Nat) :
  Inv X c i (upd H p (.lst ys)) { s with heap:=s.heap.update p f,toks:=t }:=by
 have e:(s.heap.update p f).get? p=so { cls:=.type "list",data:=.seq its'.toArray d }:=by rw[ee f k (by rw[g]<;>rfl),g]
 refine I.write (x:=p) (e:=p) (by rw[h];trivial) (.inl rz) (λb u j q=>(bO _ _ (de j)).trans q) (_,e) ?_;exact(l,its',d,r,e)
def rSetL:V->V->V->Hp->(Hp->Prop)->Prop:=λo i v H Q=>∃p xs k j,o=.ref p/\i=.int k/\H p=so (.lst xs)/\ixN xs.length k=so j/\Q (upd H p (.lst (xs.set j v)))
theorem set_list:PSet X rSetL:=by
 rintro d s G H o i v N M u Q I E D F ⟨p,xs,k,j,rfl,rfl,z,A,q⟩;cases E;obtain⟨t,rfl⟩:=D;obtain⟨c,n,r,l,C⟩:=I.lst z;obtain⟨e,J,x,y⟩:=ixN_seq A;have g:=r.length;have L:=line63;have w:Inv X d G (upd H p (.lst (xs.set j v))) { s with heap:=s.heap.update p (Obj.mapSeq (·.setIfInBounds j u)) } :=
  I.lstUpd z l (mapSeq_set c n j u) (r.set F j) (by rw[bn];exact C) s.toks
 by_cases h0:0<=k
 .have f:k.toNat=j:=by rw[iW h0 y]at e;exact aJ e
  exact W.ki_setAt l h0 () (by rw[aD,<-g];exact y) (by rw[f];exact(_,w,q))
 .have f:(k+(c.toArray.size:Int)).toNat=j:=by rw[iE () x]at e;rw[aD,<-g];exact aJ e
  exact W.ki_setBack l () (by rw[aD,<-g];exact x) () (by rw[f];exact(_,w,q))
theorem slice_bounds (l c:Option Int)(n:Nat):(sliceBounds l c none n).1=((HT.sIx n 0 l:Nat):Int)/\(sliceBounds l c none n).2.1=((HT.sIx n n c:Nat):Int)/\(sliceBounds l c none n).2.2=1:=by
 refine(?_,?_,rz)
 .cases l with
  |none=>simp[sliceBounds,HT.sIx]
  |some i=>
   simp only[sliceBounds,HT.sIx,Option.getD_none,show(1:Int) > 0 by decide,if_true];by_cases h:i<0
   .simp only[h,if_true]<;>lia
   .simp only[h,jp]<;>lia
 .cases c with
  |none=>simp[sliceBounds,HT.sIx]
  |some i=>
   simp only[sliceBounds,HT.sIx,Option.getD_none,show(1:Int) > 0 by decide,if_true];by_cases h:i<0
   .simp only[h,if_true]<;>lia
   .simp only[h,jp]<;>lia
theorem slicePick_cut (its:Lv)(l h:Option Int):slicePick its.toArray l h none=((its.drop (HT.sIx its.length 0 l)).take (HT.sIx its.length its.length h-HT.sIx its.length 0 l)).toArray:=by obtain⟨c,d,e⟩:=slice_bounds l h its.toArray.size;unfold slicePick;rw[c,d,e];simp only[sliceRange_one,pick_run,aD]<;>rfl
def rSlL (K:Fg):V->Option Int->Option Int->Hp->VK->Prop:=λx l h H Q=>∃a xs,x=.ref a/\SqL K H a xs/\∀p,H p=none->Q (.ref p) (upd H p (.lst (cutV xs l h)))
theorem sl_list:SlR X (rSlL X.K):=by rintro p s w H x v t u l d sl Q I n f pl k ⟨a,xs,rfl,g,q⟩;cases n;obtain⟨j,r,e,i⟩:=I.list g;have c:=r.length;refine("list",_,slot_list_getitem.lookup,e.isList.typeIs,?_);refine wpAny_getItem_list_slice e.isList f pl k .none (by simp) ?_ (by rw[aD]<;>lia);rw[slicePick_cut,<-c];refine(.ref s.heap.objs.size,_,I.laid (t':=s.toks) (o:=.lst (cutV xs l d)) (λb ob q=>aA _ q) (ao _) ?_,rz,q _ (I.hok.fresh (ao _)));exact(aj (cutV_length xs l d) i,_,0,(r.drop (HT.sIx xs.length 0 l)).take (HT.sIx xs.length xs.length d-HT.sIx xs.length 0 l),bh _ rz)
def flatV:V->Bool
 | .non=>true
 | .bl _=>true
 | .int _=>true
 | .str _=>true
 |_=>false
def eqV:V->V->Bool
 | .non,.non=>true
 | .bl a,.bl b=>a == b
 | .bl a,.int b=>(if a then 1 else 0) == b
 | .int a,.bl b=>a == (if b then 1 else 0)
 | .int a,.int b=>a == b
 | .str a,.str b=>a == b
 |_,_=>false
theorem eqAt_V (d:RelV y u)(r:RelV x v)(e:flatV y=true)(f:flatV x=true):SeqAt.EqAt A s u v (eqV y x):=by
 cases y with
 |non=>
  cases d;cases x with
  |non=>cases r;exact SeqAt.EqAt.same _
  |bl b=>cases r;exact SeqAt.EqAt.none_bool b
  |int b=>obtain⟨t,rfl⟩:=r;exact SeqAt.EqAt.none_int b t
  |str b=>obtain⟨t,rfl⟩:=r;exact SeqAt.EqAt.none_str b t
  |_=>exact absurd (show false=true from f) aU
 |bl a=>
  cases d;cases x with
  |non=>cases r;exact SeqAt.EqAt.bool_none a
  |bl b=>cases r;exact SeqAt.EqAt.bool_bool a b
  |int b=>obtain⟨t,rfl⟩:=r;exact SeqAt.EqAt.bool_int a b t
  |str b=>obtain⟨t,rfl⟩:=r;exact SeqAt.EqAt.bool_str a b t
  |_=>exact absurd (show false=true from f) aU
 |int a=>
  obtain⟨c,rfl⟩:=d;cases x with
  |non=>cases r;exact SeqAt.EqAt.int_none a c
  |bl b=>cases r;exact SeqAt.EqAt.int_bool a c b
  |int b=>obtain⟨t,rfl⟩:=r;exact SeqAt.EqAt.int_int a c b t
  |str b=>obtain⟨t,rfl⟩:=r;exact SeqAt.EqAt.int_str a c b t
  |_=>exact absurd (show false=true from f) aU
 |str a=>
  obtain⟨c,rfl⟩:=d;cases x with
  |non=>cases r;exact SeqAt.EqAt.str_none a c
  |bl b=>cases r;exact SeqAt.EqAt.str_bool a c b
  |int b=>obtain⟨t,rfl⟩:=r;exact SeqAt.EqAt.str_int a c b t
  |str b=>obtain⟨t,rfl⟩:=r;exact SeqAt.EqAt.str_str a c b t
  |_=>exact absurd (show false=true from f) aU
 |_=>exact absurd (show false=true from e) aU
def eqU (x:V)(u:Value):Bool:=match u with
 | .none=>eqV .non x
 | .bool b=>eqV (.bl b) x
 | .int i _=>eqV (.int i) x
 | .str z _=>eqV (.str z) x
 |_=>false
theorem eqU_of (r:RelV y u)(f:flatV y=true):eqU x u=eqV y x:=by
 cases y with
 |non=>cases r;rfl
 |bl b=>cases r;rfl
 |int i=>obtain⟨t,rfl⟩:=r;rfl
 |str z=>obtain⟨t,rfl⟩:=r;rfl
 |_=>exact absurd (show false=true from f) aU
theorem any_eqU:∀{xs:List V} {us:Lv},Vals xs us->xs.all flatV=true->us.any (eqU x)=xs.any λy=>eqV y x
 |_,_,.nil,_=>rfl
 |y::xs,u::us,.cons r t,f=>by rw[gd,dz]at f;rw[List.any_cons,List.any_cons,eqU_of r f.1,any_eqU t f.2]
theorem mem_eqAt (d:RelV x v)(c:flatV x=true):∀{xs:List V} {us:Lv},Vals xs us->xs.all flatV=true->∀u∈us,SeqAt.EqAt A s u v (eqU x u)
 |_,_,.nil,_=>λu h=>by cases h
 |y::xs,u::us,.cons r t,f=>λe h=>by
  rw[gd,dz]at f;rcases aG.mp h with rfl|h
  .rw[eqU_of r f.1];exact eqAt_V r d f.1 c
  .exact mem_eqAt d c t f.2 e h
def inV (x:V)(xs:List V):Bool:=xs.any λy=>eqV y x
def rIn (K:Fg)(n:Bool):R2:=λx y H Q=>∃p xs,y=.ref p/\(SqL K H p xs\/SqT K H p xs)/\flatV x=true/\xs.all flatV=true/\Q (.bl (if n then !inV x xs else inV x xs)) H
theorem op_notIn_seq:OpR X (compareOp .NotIn) (rIn X.K true):=by
 rintro e s l H x y v u Q I g k ⟨p,xs,rfl,c,f,fs,q⟩;cases k;rcases c with c|c
 .obtain⟨i,r,pl,j⟩:=I.list c;refine SeqAt.notIn_listAt (eqU x) pl.isList (λw d=>mem_eqAt g f r fs w (by simpa using d)) (.bl _,H,I,rz,?_);rw[show i.toArray.any (eqU x)=i.any (eqU x) by simp,any_eqU r fs];exact q
 .obtain⟨i,r,pl,j⟩:=I.tuple c;refine SeqAt.notIn_tupleAt (eqU x) pl (λw d=>mem_eqAt g f r fs w (by simpa using d)) (.bl _,H,I,rz,?_);rw[show i.toArray.any (eqU x)=i.any (eqU x) by simp,any_eqU r fs];exact q
theorem call_len_seq:CallR X (.builtin "len") (λxs H Q=>∃p ys,xs=[.ref p]/\(SqL X.K H p ys\/SqT X.K H p ys)/\Q (.int ys.length) H):=by
 rintro f s n H xs l Q I r ⟨p,ys,rfl,d,q⟩;obtain⟨u,rfl,j⟩:=vals1 r;cases j;have k:=line63;rcases d with d|d
 .obtain⟨i,e,pl,g⟩:=I.list d;have c:=e.length;exact Calls.call_len_list pl.isList (by simp only[aD]<;>lia) (.int ys.length,H,I.tok _,(s.toks+1,by rw[aD,c]),q)
 .obtain⟨i,e,pl,g⟩:=I.tuple d;have c:=e.length;exact len_tuple pl (by simp only[aD]<;>lia) (.int ys.length,H,I.tok _,(s.toks+1,by rw[aD,c]),q)
theorem call_list_of:CallR X (.type "list") (λxs H Q=>∃p ys,xs=[.ref p]/\(SqL X.K H p ys\/SqT X.K H p ys)/\∀l,H l=none->Q (.ref l) (upd H l (.lst ys))):=by
 rintro v s C H xs D Q I r ⟨p,ys,rfl,j,q⟩;obtain⟨u,rfl,A⟩:=vals1 r;cases A;have fin:∀(i:List Value),Vals ys i->ys.length<=sizeLine->∀(c:Heap) (d:Nat),(∀b z,s.heap.get? b=so z -> c.get? b=so z) ->
   c.get? s.heap.objs.size=so { cls:=.type "list",dict:=none,data:=.seq i.toArray d,slots:=#[] }->EP X v C Q (.ref s.heap.objs.size) { s with heap:=c }:=λi f k c d t e=>
  (.ref s.heap.objs.size,_,I.laid (t':=s.toks) t (ao _) (show ObjOk X.prog X.w _ c _ (.lst ys) from(k,i,d,f,e)),rz,q _ (I.hok.fresh (ao _)))
 rcases j with j|j
 .obtain⟨i,f,pl,k⟩:=I.list j;have g:=f.length;obtain⟨o,y,w,n,x⟩:=pl.isList;exact call_list_seq p (.inl rz) y w x (λc d t e=>fin i f k c d t e) (by simp only[aD]<;>lia)
 .obtain⟨i,f,pl,k⟩:=I.tuple j;have g:=f.length;obtain⟨o,y,w,n,x⟩:=pl;exact call_list_seq p (.inr rz) y w x (λc d t e=>fin i f k c d t e) (by simp only[aD]<;>lia)
def tyV (K:Fg)(T:String)(x:V)(H:Hp):Prop:=match x with
 | .str _=>T="str"
 | .int _=>T="int"
 | .ref p=>(T="list"/\∃xs,SqL K H p xs)\/(T="tuple"/\∃o,K.lookup p=so o/\o.cls=.type "tuple"/\o.dict=none)
 |_=>False
theorem tyV_is (I:Inv X j y H s)(r:RelV x v)(ty:tyV X.K T x H) :
  s.TypeIs v T/\∀a,v=.ref a->∃ob,s.heap.get? a=so ob/\ob.dict=none:=by
 cases x with
 |str z=>obtain⟨t,rfl⟩:=r;cases (show T="str" from ty);exact(typeIs_str s z t,λ_ e=>nomatch e)
 |int i=>obtain⟨t,rfl⟩:=r;cases (show T="int" from ty);exact(typeIs_int s i t,λ_ e=>nomatch e)
 |ref p=>
  cases r;rcases ty with⟨rfl,xs,u⟩|⟨rfl,o,h,l,g⟩
  .obtain⟨w,_,pl,_⟩:=I.list u;refine(pl.isList.typeIs,λa e=>?_);cases e;obtain⟨o,n,e,c,g,_⟩:=pl;exact(o,e,g)
  .refine((o,I.kIn p o h,l),λa e=>?_);cases e;exact(o,I.kIn _ o h,g)
 |_=>exact False.elim ty
def tBM0 (K:Fg)(T:String)(r:V->List V->Hp->VK->Prop)(g:TE):TE:=λc H Q=>g c H λx h=>tyV K T x h/\r x [] h Q
def tBM (K:Fg)(T:String)(r:V->List V->Hp->VK->Prop)(g:TE)(t:TA):TE:=λc H Q=>g c H λx h=>tyV K T x h/\t c h λxs d=>r x xs d Q
variable {o e:Expr}{E:List Expr}{g:TE}{t:TA}{N:Str}{d C:Pos}{T id:String}{r:V->List V->Hp->VK->Prop}
theorem pe_bm0 (D:PlainAttrs T)(i:Slot T N id)(j:typeOf (.builtin id)=pure (.type "method_descriptor"))(z:MtR X id r)(A:PE X o g)
  (c:attributeBase o N X.env (eval o X.env)=eval o X.env:=by rfl) (f:(d.endLine == C.line)=true:=by rfl):PE X (.Call (.Attribute o N d) [] [] C) (tBM0 X.K T r g):=by
 intro p s n H Q I h;refine wpAny_Call_method0_late c f (thn (A p s n H _ I h) λv G (x,u,k,l,ty,F)=>?_);obtain⟨w,y⟩:=tyV_is k l ty;exact(T,id,D,i,j,w,y,Calls.callWith_builtin rz (PySem.evalArgs_none (z p G n u x [] v [] Q k l .nil F)))
theorem pe_bm (P:PlainAttrs T)(k:Slot T N id)(l:typeOf (.builtin id)=pure (.type "method_descriptor"))(L:MtR X id r)(M:PE X o g)(J:PA X (e::E) t)
  (f:attributeBase o N X.env (eval o X.env)=eval o X.env:=by rfl)
  (j:((backTo C (starEach (e::E) X.env)).all (λx=>!x.1) && (backToKw C (keywordEach [] X.env)).all (λx=>x.1.isSome) && decide ((e::E).length+([]:List Keyword).length+(if ([]:List Keyword).isEmpty then 0 else 1)<30))=true:=by rfl)
  (i:(d.endLine == C.line)=true:=by rfl) (O:starEach (e::E) X.env=(false,eval e X.env)::starEach E X.env:=by rfl) (c:(backTo C (starEach E X.env)).any (·.1)=false:=by rfl) :
  PE X (.Call (.Attribute o N d) (e::E) [] C) (tBM X.K T r g t):=by
 intro p s n H Q I h;refine wpAny_Call_method_late f j i rz (thn (M p s n H _ I h) λv Y (x,z,u,y,ty,R)=>?_);obtain⟨F,G⟩:=tyV_is u y ty;refine(T,id,P,k,l,F,G,?_);have w:=J C p Y n z _ u R;rw[O]at w ⊢;refine Calls.callWith_builtin (by show(false || (backTo C (starEach E X.env)).any (·.1))=false;rw[c]<;>rfl) (Calls.evalArgs_plain ?_);exact thn w (by rintro us Z ⟨vs,A,D,U,S⟩;exact L p Z n A x vs v us Q D y U S)
end
def MtM (X:Cx)(id:String)(r:V->List V->Hp->VK->Prop):Prop:=
 ∀(p:List (Addr×Obj)) (s:Shared) (σ:St) (H:Hp) (x:V) (xs:List V) (v:Value) (us:List Value) (Q:VK),Inv X p σ H s->RelV x v->Vals xs us->r x xs H Q ->
  wpAny (model X.prog X.w) X.A (call (.builtin id) (v::us)) (EP X p σ Q) X.xe s
theorem Vals.one:∀{x:V} {us:Lv},Vals [x] us->∃u,us=[u]/\RelV x u
 |_,_,.cons r .nil=>(_,rz,r)
theorem Vals.zero:∀{us:Lv},Vals [] us->us=[]
 |_,.nil=>rfl
theorem Vals.dropLast (h:Vals xs us):Vals xs.dropLast us.dropLast:=by
 induction h with
 |nil=>exact .nil
 |cons r t i=>
  cases t with
  |nil=>exact .nil
  |cons q a=>exact .cons r i
theorem Vals.rep (h:Vals xs us):∀k:Nat,Vals (sP k xs).flatten (sP k us).flatten
 |0=>.nil
 |k+1=>by rw[cB,cB,c8,c8];exact Vals.append h (Vals.rep h k)
theorem erase_last {c:Type}(l:List c):l.eraseIdx (l.length-1)=l.dropLast:=by
 induction l with
 |nil=>rfl
 |cons a r i=>
  cases r with
  |nil=>rfl
  |cons b r=>
   have e:(a::b::r).length-1=((b::r).length-1)+1:=by have h:(a::b::r).length=r.length+2:=rfl;have d:(b::r).length=r.length+1:=rfl;lia
   rw[e,List.eraseIdx_cons_succ,i]
   all_goals rfl
theorem foldl_rep (its:Lv):∀(k:Nat) (a:Lv),
  List.foldl (λx d=>x++d) a.toArray (sP k its.toArray)=(a++(sP k its).flatten).toArray
 |0,a=>by simp
 |k+1,a=>by
  have e:a.toArray++its.toArray=(a++its).toArray:=by simp
  have c:(a++its)++(sP k its).flatten=a++(sP (k+1) its).flatten:=by rw[cB,c8,g5]
  rw[<-c,<-foldl_rep its k (a++its),<-e,cB,List.foldl_cons]
section
variable {X:Cx}{p:List (Addr×Obj)}{a:St}{H:Hp}{s:Shared}{l b:Addr}{xs ys Z:List V}
theorem Inv.lset {its its':Lv}{n:Nat}{f:Array Value->Array Value}{t':Nat}(I:Inv X p a H s)(h:H l=so (.lst xs))
  (e:s.heap.get? l=so { cls:=.type "list",data:=.seq its.toArray n }) (d:f its.toArray=its'.toArray) (i:Vals ys its') (j:ys.length<=sizeLine) :
  Inv X p a (upd H l (.lst ys)) { s with heap:=s.heap.update l (Obj.mapSeq f),toks:=t' }:=by
 have q:=PySem.IsL.update e f;rw[d]at q;refine I.write (x:=l) (e:=l) (by rw[h];exact trivial) (.inl rz) (λk u c g=>(bO s.heap (Obj.mapSeq f) (de c)).trans g) (_,q) ?_;exact(j,its',_,i,q)
theorem Inv.lnew (I:Inv X p a H s)(h:Vals ys its)(c:ys.length<=sizeLine) :
  Inv X p a (upd H s.heap.objs.size (.lst ys)) { s with heap:=s.heap.push { cls:=.type "list",data:=.seq its.toArray },toks:=t' } :=
 I.laid (λ_ _ q=>aA _ q) (ao _) (c,its,0,h,bh _ rz)
theorem Inv.fresh (I:Inv X p a H s):H s.heap.objs.size=none:=I.hok.fresh (ao _)
theorem Inv.lstM (I:Inv X p a H s)(h:H l=so (.lst xs)):xs.length<=sizeLine/\∃(its:Lv) (n:Nat),Vals xs its/\xs.length=its.length/\s.heap.get? l=so { cls:=.type "list",data:=.seq its.toArray n }:=by obtain⟨z,its,n,r,e⟩:=I.hok l _ h;exact(z,its,n,r,r.length,e)
theorem notLongL (h:n<=sizeLine):Builtin.List.listTooLong n=false:=by unfold Builtin.List.listTooLong;exact aN ()
end
section
variable {X:Cx}
def rAppend:V->List V->Hp->VK->Prop:=λx v H Q=>∃l xs y,x=.ref l/\v=[y]/\H l=so (.lst xs)/\xs.length<sizeLine/\Q .non (upd H l (.lst (xs++[y])))
theorem mt_append:MtM X "list.append" rAppend:=by rintro p s o H x m v k Q I f d ⟨l,xs,y,rfl,rfl,a,j,q⟩;cases f;obtain⟨u,rfl,c⟩:=d.one;obtain⟨z,i,n,r,g,e⟩:=I.lstM a;refine iN F.slot_list_append (_,e,rz) F.entry_list_append (F.args_list_append_2 _ _) (PySem.list_append l i.toArray n u (by rw[aD];lia)) (e,?_);refine(.non,_,I.lset (its':=i++[u]) a e (by simp) (r.append (.cons c .nil)) ?_,rz,q);rw[aS,bI];lia
def rPop:V->List V->Hp->VK->Prop:=λx v H Q=>∃l xs y,x=.ref l/\v=[]/\H l=so (.lst xs)/\xs[xs.length-1]?=so y/\Q y (upd H l (.lst xs.dropLast))
theorem mt_pop:MtM X "list.pop" rPop:=by
 rintro p s A H x w v t Q I o m ⟨l,xs,y,rfl,rfl,d,j,q⟩;cases o;have a:=m.zero;subst a;obtain⟨z,i,n,r,f,e⟩:=I.lstM d;obtain⟨u,g,k⟩:=r.get j;have c:i.toArray[i.toArray.size-1]?=so u:=by show i.toArray[i.length-1]?=so u;rw[<-Array.getElem?_toList,<-f];exact g
 refine iN F.slot_list_pop (_,e,rz) F.entry_list_pop (F.args_list_pop_1 _) (MeetsSeq.list_pop_last l i.toArray n u c (by rw[aD];lia)) (e,?_);refine(y,_,I.lset (its':=i.dropLast) d e ?_ r.dropLast ?_,k,q)
 .show i.toArray.eraseIdxIfInBounds (i.toArray.size-1)=i.dropLast.toArray;rw[aD,List.eraseIdxIfInBounds_toArray,erase_last]
 .rw[dF];lia
def rRep:R2:=λx y H Q=>∃l k xs,x=.ref l/\y=.int k/\H l=so (.lst xs) /\ -(2^63)<=k/\k<2^63/\xs.length*k.toNat<=sizeLine /\
 ∀p,H p=none->Q (.ref p) (upd H p (.lst (sP k.toNat xs).flatten))
theorem len_rep {a:Type}(xs:List a)(k:Nat):(sP k xs).flatten.length=k*xs.length:=by
 induction k with
 |zero=>simp
 |succ k i=>rw[cB,c8,aS,i,Nat.succ_mul,jb]
theorem op_rep:OpR X (binaryOp .Mult) rRep:=by
 rintro A s O H x y v u Q I J L ⟨l,k,xs,rfl,rfl,E,C,D,w,q⟩;cases J;obtain⟨t,rfl⟩:=L;obtain⟨z,i,n,r,G,e⟩:=I.lstM E;have g:i.toArray.size*k.toNat<=sizeLine:=by rw[aD,<-G];exact w
 have d:¬i.toArray.size*k.toNat > (2^63-1) / 8:=by
  have:(sizeLine:Nat)<=(2^63-1) / 8:=(())
  lia
 have f:¬(!Builtin.List.listFitsIndex k)=true:=by rw[fitsIndex_both C D];exact aU
 have c:¬Builtin.List.listTooLong (i.toArray.size*k.toNat)=true:=by rw[notLongL g];exact aU
 have j:List.foldl (λo p=>o++p) #[] (sP (if i.toArray.isEmpty=true then 0 else k.toNat) i.toArray)=(sP k.toNat i).flatten.toArray:=by
  have B:∀m:Nat,List.foldl (λo p=>o++p) #[] (sP m i.toArray)=(sP m i).flatten.toArray:=λm=>by have:=foldl_rep i m [];rw[List.nil_append]at this;exact this
  rw[B];cases i with
  |nil=>simp
  |cons a N=>rw[aF (by simp)]
 refine wpAny_binaryOp_repeat_ref (T:="list") (U:="int") (()) (_,e,rz) (λM=>typeIs_int M k t) noFill_list_mul F.fills_int_mul F.slot_int_rmul repeat_list F.slot_int_index.lookup
  (iN F.slot_int_rmul (typeIs_int s k t) F.entry_int_rmul (F.args_int_rmul_2 _ _) (int___rmul___int_list k t l i.toArray n) (e,rz,(_,e,rz),iN F.slot_list_mul (_,e,rz) F.entry_list_mul (F.args_list_mul_2 _ _) (AutoListH.list___mul___list_int_3 l i.toArray n k t f d c) (e,?_)))
 rw[j];exact(.ref _,_,I.lnew (t':=s.toks) (r.rep k.toNat) (by rw[len_rep,jc];exact w),rz,q _ I.fresh)
end
end L2
namespace Att
open PySem PySem.W PySem.Calls PyProof.Rows
section
variable {prog:Program}{w:World}{A:Around}{E:Value->Shared->Prop}{s:Shared}{K:Frag}
end
end Att
namespace L2
open PySem PySem.Spec PyProof.Rows
abbrev E0:XK:=λ_ _ _=>False
theorem pass0:Passes CX0 X E0:=λ_ _ _ _ _ _ _ h=>h.elim
section
variable {P:Program}{w:World}{K:Fg}{mg:Mg}{base:Heap}
theorem Fun.ok {x a:Str}{st:Stmt}{f:Addr}{i:FuncData}{N p:Ls}{k:Nat}{sp:Sp}(F:Fun K x a st f i)(S:FnScope N p (defScope st))(len:∀vs H Q E,sp vs H Q E->vs.length=p.length)
  (d:∀(c:Value) (A:Around) (outer:List Env) (s:Shared) (H:Hp) (vs:List V) (Q:VK) (E:XK),Room k (A.deeper (envOfC a (defScope st) s.heap.objs.size f c))->sp vs H Q E -> ∃t,PSs (cxOf CX0 P w K mg base N a (defScope st) f c A outer s H E).nox (defBody st) t/\t { nx:=λ_ j=>Q .non j,rt:=Q } (start N vs) H):FnOk P w K mg base CX0 (k+1) f i p sp:=by
 obtain⟨r,u,kV,l,v,an,c,n,o,rfl,lk,e⟩:=F.ex;refine fn_of lk e S len λA outer s H vs Q E m g=>?_;obtain⟨t,h,q⟩:=d c A outer s H vs Q E m g;exact(t,h.nox,q)
end
theorem small1000 (h:n<=1000):n<sizeLine:=aK h (())
section
variable {X:Cx}
theorem pv (i:Nat)(a:X.N[i]?=so x:=by rfl)(d:Vis X.env.scope x:=by walk_at "v")(c:(x == ("__debug__":Str))=false:=by decide)
  (h:(x == ("__classdict__":Str))=false:=by decide):PE X (.Name x pos) (tVar i):=pe_var a d c h
end
theorem iteF {A B:Prop}(h:B):if false=true then A else B:=by rw[aF aU];exact h
theorem iteT {A B:Prop}(h:A):if true=true then A else B:=by rw[aL rfl];exact h
def Nx (x:Option HO):HO->Prop
 | .tbl t=>∃p,x=so (.tbl (t.q,p))
 |o=>x=so o
def Same (H h:Hp):Prop:=∀b o,H b=so o->Nx (h b) o
theorem Nx.of (h:x=so o):Nx x o:=by cases o<;>first|exact h|exact(_,h)
theorem Nx.some (h:Nx x o):∃u,x=so u:=by cases o<;>first|exact(_,h)|(obtain⟨p,h⟩:=h;exact(_,h))
theorem uL (h:∀b o,H b=so o->a b=so o):Same H a:=λb o e=>.of (h b o e)
theorem Same.refl (H:Hp):Same H H:=uL λ_ _ h=>h
theorem Same.trans (a:Same H d)(b:Same d H2):Same H H2:=λc o h=>by have q:=a c o h;cases o<;>first|exact b c _ q|(obtain⟨p,q⟩:=q;have z:=b c _ q;exact z)
theorem Same.free (e:Same H a)(h:a l=Option.none):H l=Option.none:=by
 cases q:H l with
 |none=>rfl
 |some o=>obtain⟨u,z⟩:=(e l o q).some;rw[z]at h;cases h
theorem Same.seq {K:Fg}{H c:Hp}{a:Addr}{xs:List V}(e:Same H c)(h:SqL K H a xs):SqL K c a xs:=by
 rcases h with (h|⟨o,h⟩)|h
 .exact .inl (.inl (e _ _ h))
 .exact .inl (.inr (o,e _ _ h))
 .exact .inr h
def gI (a:St)(i:Nat):Int:=match a[i]? with
 |some (so (.int n))=>n
 |_=>0
def hI (a:St)(i:Nat):Prop:=a[i]?=so (so (.int (gI a i)))
def tN (C:St->Hp->Prop)(g:St->Int):TE:=λa H Q=>C a H/\Q (.int (g a)) H
def tP (C:St->Hp->Prop)(p:St->Prop)[∀a,Decidable (p a)]:TT:=λa H Q=>C a H/\Q (decide (p a)) H
def tV (C:St->Hp->Prop)(p:St->Prop)[∀a,Decidable (p a)]:TE:=λa H Q=>C a H/\Q (.bl (decide (p a))) H
def tNs (C:St->Hp->Prop)(g:St->List Int):TA:=λa H Q=>C a H/\Q ((g a).map V.int) H
section
theorem lu (i:Nat)(d:X.N[i]?=so x:=by rfl)(f:Vis X.env.scope x:=by walk_at "v")
  (e:(x == ("__debug__":Str))=false:=by decide) (c:(x == ("__classdict__":Str))=false:=by decide):PE X (.Name x pos) (tN (λa _=>hI a i) (λa=>gI a i)):=
 λp s a H Q I h=>pe_var d f e c p s a H Q I (_,h.1,h.2)
theorem qO:PE X (.Constant (.int i) j pos) (tN (λ_ _=>True) (λ_=>i)):=λp s a H Q I h=>pe_int p s a H Q I h.2
theorem Ru (d:Gl X x)(a:∃tk,X.mg x=so (.int i tk))(c:(x == ("__debug__":Str))=false:=by decide):PE X (.Name x pos) (tN (λ_ _=>True) (λ_=>i)):=
 λp s e H Q I h=>let (_,a):=a;pe_glob d a (v:=.int i) (_,rz) c p s e H Q I h.2
theorem Q8 {o:Operator}{C:Int->Int->Prop}{g:Int->Int->Int}(n:OpR X (binaryOp o) (rI C λi j=>.int (g i j)))(l:PE X a (tN f d))(m:PE X b (tN k e)) :
  PE X (.BinOp a o b pos) (tN (λc H=>f c H/\k c H/\C (d c) (e c)) (λc=>g (d c) (e c))):=
 λp s c H Q I h=>pe_op n l m p s c H Q I (h.1.1,h.1.2.1,_,_,rz,rz,h.1.2.2,h.2)
theorem abb {o:Operator}{g:Int->Int->Int}(m:OpR X (binaryOp o) (rI0 λi j=>.int (g i j)))(k:PE X a (tN C e))(l:PE X b (tN d f)) :
  PE X (.BinOp a o b pos) (tN (λc H=>C c H/\d c H) (λc=>g (e c) (f c))):=
 λp s c H Q I h=>pe_op m k l p s c H Q I (h.1.1,h.1.2,_,_,rz,rz,h.2)
theorem Jb:OpR X (binaryOp .Mult) (rI IntMulOk λi j=>.int (i*j)):=opI λ_ _ _ _ _ _ _ h q=>mul_int q h
theorem Dj:OpR X (inplaceOp .Mult) (rI IntMulOk λi j=>.int (i*j)):=opI λ_ _ _ _ _ _ _ h q=>imul_int q h
def VM (_ j:Int):Prop:=0<j/\j.natAbs.log2<9000
theorem Wy:OpR X (binaryOp .FloorDiv) (rI VM λi j=>.int (i / j)):=opI λi j _ _ _ _ _ h q=>by have a:(0:Int)<j:=h.1;exact floordiv_int () (by rw[dw i ()];exact q) (.inl (eW h.2))
theorem abQ (h:PE X a (tN C g))(f:PE X b (tN e d)):PE X (.BinOp a .Mult b pos) (tN (λc H=>C c H/\e c H/\IntMulOk (g c) (d c)) (λc=>g c*d c)):=Q8 Jb h f
theorem abl (h:PE X a (tN C e))(f:PE X b (tN d g)):PE X (.BinOp a .Mod b pos) (tN (λc H=>C c H/\d c H/\0<g c) (λc=>e c % g c)):=Q8 op_mod h f
theorem abN (d:PE X a (tN C g)):PE X (.UnaryOp .USub a pos) (tN C (λc=>-g c)):=
 λp s c H Q I h=>pe_un un_neg d p s c H Q I (h.1,_,rz,h.2)
theorem yG {o:CmpOp}{p:Int->Int->Prop}[∀i j,Decidable (p i j)](n:OpR X (compareOp o) (rI0 λi j=>.bl (decide (p i j))))(m:behindInMarks o b=false)(k:PE X a (tN C g))(l:PE X b (tN e f)) :
  PT X (.Compare a [o] [b] pos) (tP (λc H=>C c H/\e c H) (λc=>p (g c) (f c))):=
 λd s c H Q I h=>pt_cmpR n k l m d s c H Q I (h.1.1,h.1.2,_,_,rz,rz,_,rz,h.2)
theorem Qd:OpR X (compareOp .Eq) (rI0 λi j=>.bl (decide (i=j))):=λp s c H x y v u Q I r a h=>by obtain⟨i,j,rfl,rfl,q⟩:=h;refine op_eq p s c H _ _ v u Q I r a (rz,?_);rw[dec_int,iF];exact q
theorem Qh:OpR X (compareOp .NotEq) (rI0 λi j=>.bl (decide (¬i=j))):=λp s c H x y v u Q I r a h=>by obtain⟨i,j,rfl,rfl,q⟩:=h;have q:Q (.bl (decide (¬i=j))) H:=q;rw[g6]at q;refine op_ne p s c H _ _ v u Q I r a (rz,?_);rw[dec_int,iF];exact q
theorem Ow (h:PE X a (tN C g))(f:PE X b (tN d e)):PT X (.Compare a [.Lt] [b] pos) (tP (λc H=>C c H/\d c H) (λc=>g c<e c)):=yG op_lt (nomark _) h f
theorem abq (h:PE X a (tN C g))(f:PE X b (tN d e)):PT X (.Compare a [.LtE] [b] pos) (tP (λc H=>C c H/\d c H) (λc=>g c<=e c)):=yG op_le (nomark _) h f
theorem Wk (h:PE X a (tN C g))(f:PE X b (tN d e)):PT X (.Compare a [.Gt] [b] pos) (tP (λc H=>C c H/\d c H) (λc=>e c<g c)):=yG (p:=λi j=>j<i) op_gt (nomark _) h f
theorem VH (h:PE X a (tN C g))(f:PE X b (tN d e)):PT X (.Compare a [.Eq] [b] pos) (tP (λc H=>C c H/\d c H) (λc=>g c=e c)):=yG Qd (nomark _) h f
theorem abz (h:PE X a (tN C g))(f:PE X b (tN d e)):PT X (.Compare a [.NotEq] [b] pos) (tP (λc H=>C c H/\d c H) (λc=>¬g c=e c)):=yG (p:=λi j=>¬i=j) Qh (nomark _) h f
variable {d k:St->Prop}[∀σ,Decidable (d σ)][∀σ,Decidable (k σ)]{rest:List Expr}
theorem Zr (e:PT X a (tP c d)):PT X (.UnaryOp .Not a pos) (tP c (λσ=>¬d σ)):=
 λp s σ H Q I h=>pt_not e p s σ H Q I (h.1,by have q:=h.2;rw[g6]at q;exact q)
theorem pw_or1P (h:PT X a (tP c d)):PW X (.BoolOp .Or [a] pos) (tP c d):=pw_or1 h
theorem pw_orP (g:PT X a (tP C d))(i:PW X (.BoolOp .Or (b::rest) pos) (tP f k)):PW X (.BoolOp .Or (a::b::rest) pos) (tP (λσ H=>C σ H/\(¬d σ->f σ H)) (λσ=>d σ\/k σ)):=
 λw p s σ H Q I h=>pw_or g i w p s σ H Q I (h.1.1,by
  have q:=h.2;by_cases c:d σ
  .rw[bc (Or.inl c:d σ\/k σ)]at q;rw[bc c];refine iteT ?_;exact q
  .rw[aN c];refine iteF ?_;refine(h.1.2 c,?_);have e:decide (d σ\/k σ)=decide (k σ):=by simp[c]
   rw[e]at q;exact q)
theorem aex (h:PE X e (tV c d))(a:∀w,isTrue e X.env w=(do let v <-w;standAt e.pos;holding [v] (truthy v)):=by intro _;rfl):PT X e (tP c d):=
 λp s σ H Q I q=>pt_val h a p s σ H Q I (q.1,_,rz,q.2)
def aeR (C:St->Hp->Prop)(p:St->Prop)(t u:TS):TS:=λD σ H=>C σ H/\(p σ->t D σ H)/\(¬p σ->u D σ H)
theorem Am (a:PT X c (tP C d))(e:PSs X x t)(f:PSs X y u):PS X (.If c x y pos) (aeR C d t u):=
 λp s σ H D I h=>ps_if a e f p s σ H D I (h.1,by
  by_cases c:d σ
  .rw[bc c];refine iteT ?_;exact h.2.1 c
  .rw[aN c];refine iteF ?_;exact h.2.2 c)
def adq (i:Nat)(C:St->Hp->Prop)(g:St->Int):TS:=λD σ H=>C σ H/\∀n,n=g σ->D.nx (σ.set i (so (.int n))) H
theorem R4 (f:X.N.Nodup)(m:X.N[i]?=so x)(o:Loc X.env.scope x)(j:PE X e (tN c g))(n:swapsWith e (so (.Name x a)) pos.line X.env=pure false:=by rfl)
  (l:X.fn x=true\/X.env.scope.names.lookup x=so .local:=by walk_at "w"):PS X (.Assign [.Name x a] e pos) (adq i c g):=
 λp s σ H D I h=>ps_set f m o j n l p s σ H D I (h.1,h.2 _ rz)
def acH (i:Nat)(C:St->Hp->Prop)(g:St->Int)(P:Int->Int->Prop)(f:Int->Int->Int):TS:=λD σ H=>hI σ i/\C σ H/\P (gI σ i) (g σ)/\∀n,n=f (gI σ i) (g σ)->D.nx (σ.set i (so (.int n))) H
theorem Sd (l:X.N.Nodup)(o:X.N[i]?=so x)(t:Loc X.env.scope x)(m:PE X e (tN c g))(r:OpR X (inplaceOp op) (rI P λi j=>.int (f i j)))
  (n:X.fn x=true\/X.env.scope.names.lookup x=so .local:=by walk_at "w"):PS X (.AugAssign (.Name x a) op e pos) (acH i c g P f):=
 λp s σ H D I h=>ps_aug l o t m r n p s σ H D I (_,h.1,h.2.1,_,_,rz,rz,h.2.2.1,h.2.2.2 _ rz)
theorem rP:OpR X (inplaceOp .Add) (rI (λ_ _=>True) λi j=>.int (i+j)):=λp s σ H x y v u Q I r c h=>by obtain⟨i,j,e,a,_,q⟩:=h;exact iop_add p s σ H x y v u Q I r c (i,j,e,a,q)
def Yw (C:St->Hp->Prop)(p:St->Prop)(t:TS):TS:=λD σ H=>∃(W:St->Hp->Prop) (c:St->Hp->Nat),W σ H /\
 ∀σ H,W σ H->C σ H/\(p σ->t { D with nx:=λa h=>W a h/\c a h<c σ H,ct:=λa h=>W a h/\c a h<c σ H,bk:=D.nx } σ H)/\(¬p σ->D.nx σ H)
theorem Ug (j:PassesOwn (model X.prog X.w) X.A X.env X.xe)(i:PT X c (tP C d))(g:PSs X body tb):PS X (.While c body [] pos) (Yw C d tb):=
 λp s σ H D I h=>ps_while j i g p s σ H D I (by
  obtain⟨W,o,n,l⟩:=h;refine while_by W o n (λσ H w=>?_) (λσ H Q r m q=>(q.1,m _ _ q.2));obtain⟨a,e,f⟩:=l σ H w;refine(a,?_);by_cases c:d σ
  .rw[bc c];refine iteT ?_;exact e c
  .rw[aN c];refine iteF ?_;exact f c)
end
theorem wH {ns:Li}{i:Int}(h0:0<=i)(h:i<(ns.length:Int)):atI (ns.map V.int) i=so (V.int ns[i.toNat]!):=by
 have e:i=((i.toNat:Nat):Int):=()
 have l:i.toNat<ns.length:=()
 have q:atI (ns.map V.int) ((i.toNat:Nat):Int)=so (V.int ns[i.toNat]!):=atI_nat (by rw[ag,ae l,gQ,ae l];rfl);rw[<-e]at q;exact q
def ac3 (K:Fg)(j:Nat)(C:St->Hp->Prop)(g:St->Int):TE:=λc H Q=>C c H/\∃(a:Addr) (d:List Int) (n:Int),c[j]?=so (so (.ref a))/\SqL K H a (d.map V.int)/\atI (d.map V.int) (g c)=so (.int n)/\Q (.int n) H
theorem Y0 (j:Nat)(l:PE X b (tN C i))(o:PlainIx b)(k:X.N[j]?=so x:=by rfl)(r:Vis X.env.scope x:=by walk_at "v")
  (m:(x == ("__debug__":Str))=false:=by decide) (d:(x == ("__classdict__":Str))=false:=by decide):PE X (.Subscript (.Name x v) b pos) (ac3 X.K j C i):=by
 rintro p s t H Q I ⟨c,a,u,n,e,f,g,q⟩;exact pe_ix ix_list (pe_var k r m d) l o p s t H Q I (_,e,c,a,_,_,_,rz,rz,f,g,q)
theorem Ys (j:Nat)(a:Addr)(ns:Li){x:Str}{y:Pos}(t:PE X b (tN C g))(v:PlainIx b)(r:X.N[j]?=so x:=by rfl)(w:Vis X.env.scope x:=by walk_at "v")
  (u:(x == ("__debug__":Str))=false:=by decide) (k:(x == ("__classdict__":Str))=false:=by decide) :
  PE X (.Subscript (.Name x y) b pos) (tN (λd H=>C d H/\d[j]?=so (so (.ref a))/\SqL X.K H a (ns.map V.int) /\ -(ns.length:Int)<=g d/\g d<(ns.length:Int)) (λd=>ns.getD (if 0<=g d then g d else g d+ns.length).toNat 0)):=by
 rintro p s d H Q I ⟨⟨c,n,o,l,m⟩,q⟩;refine pe_ix ix_list (pe_var r w u k) t v p s d H Q I (_,n,c,a,_,_,_,rz,rz,o,?_,q);show atI (ns.map V.int) (g d)=so (V.int (ns.getD (if 0<=g d then g d else g d+ns.length).toNat 0));by_cases e:0<=g d
 .rw[aL e];exact wH e m
 .rw[aF e];have f:=wH (ns:=ns) (i:=g d+ns.length) () ();unfold atI ixN at f ⊢;rw[ac]at f ⊢;rw[aL (show 0<=g d+(ns.length:Int) by lia),aL (show g d+(ns.length:Int)<(ns.length:Int) by lia)]at f;rw[aF e,aL l];exact f
theorem abj (j:Nat)(a:Addr)(xs:List V)(m:X.mg "len"=none)(i:X.N[j]?=so x:=by rfl)(l:Gl X "len":=by rfl)(n:Vis X.env.scope x:=by walk_at "v")
  (k:(x == ("__debug__":Str))=false:=by decide) (d:(x == ("__classdict__":Str))=false:=by decide) (f:starEach [.Name x g] X.env=[(false,eval (.Name x g) X.env)]:=by rfl) :
  PE X (.Call (.Name "len" p) [.Name x g] [] pos) (tN (λe H=>e[j]?=so (so (.ref a))/\SqL X.K H a xs) (λ_=>(xs.length:Int))):=by
 intro c s e H Q I h;exact pe_callB call_len_seq l m PySem.boot_len (pa_cons (pe_var i n k d) pa_nil f) (()) (()) f rz c s e H Q I (_,h.1.1,a,_,rz,.inl h.1.2,h.2)
theorem Kg:PA X [] (tNs (λ_ _=>True) (λ_=>[])):=λa p s c H Q I h=>pa_nil a p s c H Q I h.2
theorem zj (j:PE X e (tN C g))(k:PA X c (tNs f i))(l:starEach (e::c) X.env=(false,eval e X.env)::starEach c X.env:=by rfl):PA X (e::c) (tNs (λa H=>C a H/\f a H) (λa=>g a::i a)):=
 λd p s a H Q I h=>pa_cons j k l d p s a H Q I (h.1.1,h.1.2,h.2)
def spI (n:Nat)(pre:List Int->Prop)(F:List Int->Int):Sp:=λv H Q _=>∃a:List Int,a.length=n/\v=a.map V.int/\pre a/\Q (.int (F a)) H
def spB (n:Nat)(pre:List Int->Prop)(F:List Int->Bool):Sp:=λv H Q _=>∃a:List Int,a.length=n/\v=a.map V.int/\pre a/\Q (.bl (F a)) H
structure Ok (P:Program)(w:World)(K:Fg)(mg:Mg)(base:Heap)(k:Nat)(x:Str)(ps:List Str)(sp:Sp):Prop where
 ex:∃f fd,FnOk P w K mg base CX0 k f fd ps sp/\Binds K fd ps []/\W.keepIn K (.ref f)=true/\mg x=so (.ref f)
theorem Ok.imp {P:Program}{w:World}{K:Fg}{mg:Mg}{base:Heap}{k:Nat}{x:Str}{p:Ls}{sp s:Sp}(o:Ok P w K mg base k x p sp)(h:∀vs H Q E,s vs H Q E->sp vs H Q E):Ok P w K mg base k x p s:=by obtain⟨f,c,a,b⟩:=o.ex;exact(f,c,a.imp h,b)
theorem p6 (o:Ok X.prog X.w X.K X.mg X.base j x u sp)(n:Room k X.A)(d:PA X (e::a) t)(l:j<=k:=by decide)(i:Gl X x:=by rfl)(h:(x == ("__debug__":Str))=false:=by decide)
  (g:starEach (e::a) X.env=(false,eval e X.env)::starEach a X.env:=by rfl) (c:(backTo pos (starEach a X.env)).any (·.1)=false:=by rfl):PE X (.Call (.Name x p) (e::a) [] pos) (tCall sp [] E0 t):=by
 obtain⟨f,s,F,b,r,m⟩:=o.ex;exact pe_call (F.mono l) n i m r b .nil pass0 d h g c
theorem Y6 (o:Ok X.prog X.w X.K X.mg X.base j x w (spI n pre F))(v:Room k X.A)(l:PA X (e::d) (tNs C g))(u:∀a,(g a).length=n:=by intro _;rfl)(t:j<=k:=by decide)(r:Gl X x:=by rfl)
  (f:(x == ("__debug__":Str))=false:=by decide) (m:starEach (e::d) X.env=(false,eval e X.env)::starEach d X.env:=by rfl) (i:(backTo pos (starEach d X.env)).any (·.1)=false:=by rfl) :
  PE X (.Call (.Name x p) (e::d) [] pos) (tN (λa H=>C a H/\pre (g a)) (λa=>F (g a))):=
 λc s a H Q I h=>p6 o v l t r f m i c s a H Q I (h.1.1,g a,u a,by rw[bY],h.1.2,h.2)
theorem ZP (o:Ok X.prog X.w X.K X.mg X.base j x w (spB n pre F))(v:Room k X.A)(l:PA X (e::d) (tNs C g))(u:∀a,(g a).length=n:=by intro _;rfl)(t:j<=k:=by decide)(r:Gl X x:=by rfl)
  (f:(x == ("__debug__":Str))=false:=by decide) (m:starEach (e::d) X.env=(false,eval e X.env)::starEach d X.env:=by rfl) (i:(backTo pos (starEach d X.env)).any (·.1)=false:=by rfl) :
  PE X (.Call (.Name x p) (e::d) [] pos) (tV (λa H=>C a H/\pre (g a)) (λa=>F (g a)=true)):=
 λc s a H Q I h=>p6 o v l t r f m i c s a H Q I (h.1.1,g a,u a,by rw[bY],h.1.2,by have q:=h.2;rw[cS]at q;exact q)
section
variable {P:Program}{w:World}{K:Fg}{mg:Mg}{base:Heap}
theorem lN.ok {x:Str}{st:Stmt}{N p:Ls}{k:Nat}{sp:Sp}(d:lN K mg x st p)(S:FnScope N p (defScope st))(len:∀vs H Q E,sp vs H Q E->vs.length=p.length)
  (a:∀(f:Addr) (c:Value) (A:Around) (outer:List Env) (s:Shared) (H:Hp) (vs:List V) (Q:VK) (E:XK),Room k (A.deeper (envOfC x (defScope st) s.heap.objs.size f c))->sp vs H Q E -> ∃t,PSs (cxOf CX0 P w K mg base N x (defScope st) f c A outer s H E).nox (defBody st) t/\t { nx:=λ_ e=>Q .non e,rt:=Q } (start N vs) H):Ok P w K mg base (k+1) x p sp:=by
 obtain⟨f,g,F,b,m⟩:=d.ex;exact(f,g,F.ok S len λc A outer s H vs Q E i h=>a f c A outer s H vs Q E i h,b,F.kp,m)
end
theorem YB:bootBuiltins "list"=so (.type "list"):=by decide +kernel
theorem WM:bootBuiltins "len"=so (.builtin "len"):=by decide +kernel
theorem aa1:bootBuiltins "abs"=so (.builtin "abs"):=by decide +kernel
theorem aca:bootBuiltins "max"=so (.builtin "max"):=by decide +kernel
theorem Yy {ns:Li}(h:ns.length=1):∃a,ns=[a]:=match ns,h with | [a],_=>(a,rz)
theorem Y5 {ns:Li}(h:ns.length=2):∃a b,ns=[a,b]:=match ns,h with | [a,b],_=>(a,b,rz)
theorem same_new (h:H p=none)(o:HO):Same H (upd H p o):=uL λb u q=>by rw[upd_ne (ne_of_none q h)];exact q
theorem bits_le (h:k.natAbs<2^n):Builtin.Int.intBits k<=n:=by
  unfold Builtin.Int.intBits;split
  . exact bp _
  . have a:k.natAbs≠0:=by
      rename_i c;intro z;apply c
      first | exact z | (have:k=0:=by omega
                         simp[this])|lia
    have:=(gw a).mpr h;lia
theorem nR (h:a.natAbs<2^n)(c:b.natAbs<2^m)(e:n<=1048576:=by decide)(d:m<=1048576:=by decide):IntMulOk a b:=
 .of_bits (aj (bits_le h) (aj e (()))) (aj (bits_le c) (aj d (())))
theorem tE (h:-(2^64)<b/\b<2^64):IntMulOk a b:=.of_right (intBits_le_64 h.1 h.2)
theorem mX (h:-(2^64)<a/\a<2^64):IntMulOk a b:=.of_left (intBits_le_64 h.1 h.2)
abbrev ZG:Value->Shared->Prop:=λ_ _=>False
def Hv (a:List Expr)(ev:Env):Sem Bool:=forIn a true λc r=>if r=true then do let ok <-isTrue c ev (eval c ev);pure (ForInStep.yield ok) else pure (ForInStep.yield r)
theorem Sy (I:Nat->Shared->Prop)
  (t:∀n s,I n s->wpAny (model P w) A (pyNext i) (λr c=>(r=none/\R (.ok .next) c)\/∃v,r=so v /\ wpAny (model P w) A (letOwnedTupleGo l i v) (λ_ f=>wpAny (model P w) A (assign l ev v) (λ_ g=>wpAny (model P w) A (Hv p ev) (λok d=> if ok=true then wpAny (model P w) A (eval u ev) (λx j=>wpAny (model P w) A (call (.builtin "list.append") [acc,x]) (λ_ k=>∃m,m<n/\I m k) ZG j) ZG d else ∃m,m<n/\I m d) ZG g) ZG f) ZG c) ZG s)
  (n:Nat) (h:I n s):codeAny (model P w) A (.compLoop (.ListComp u [(l,D,p,0)] sc o) 0 i acc ev) R s:=by
 refine codeAny_loop rz I (λn s hI=>?_) n h;refine wpAny_noted (wpAny_noRaise ?_);rw[compTurn_list];refine aM (f9 (aM (thn (t n s hI) λr c a=>?_)));rcases a with⟨rfl,a⟩|⟨v,rfl,a⟩
 .exact bG a
 .refine aM (thn a λ_ f y=>aM (thn y λ_ g z=>aM (thn z λok d e=>?_)));cases ok with
  |false=>exact bG (rz,e)
  |true=>exact aM (aM (thn e λx j B=>aM (thn B λ_ k C=>bG (bG (rz,C)))))
def uz (X:Cx)(sc:Scope)(cl:List (Str×Addr)):List Str->List (Option Nat)->Prop
 |[],[]=>True
 |_::xs,none::cs=>uz X sc cl xs cs
 |x::xs,so i::cs=>(X.N[i]?=so x/\Vis X.env.scope x/\X.env.kindOf x≠so .local/\((relabel sc X.env).names.lookup x=so .cell\/(relabel sc X.env).names.lookup x=so .free)/\∃c,cl.lookup x=so c/\X.env.cells.lookup x=so c)/\uz X sc cl xs cs
 |_,_=>False
def Qo (ev:Env):List (Str×Addr)->Prop
 |[]=>True
 |(x,c)::r=>ev.cells.lookup x=so c/\Qo ev r
theorem Qo.look:∀{cl:List (Str×Addr)},Qo ev cl->∀{x:Str} {c:Addr},cl.lookup x=so c->ev.cells.lookup x=so c
 |[],_,x,c,h=>by simp at h
 |(y,d)::r,q,x,c,h=>by
  rw[fU]at h;cases e:x == y with
  |true=>
   rw[e]at h;have a:x=y:=by simpa using e
   subst a;cases h;exact q.1
  |false=>rw[e]at h;exact Qo.look q.2 h
def pO (cap:List (Option Nat))(a:St):St:=cap.map λo=>match o with
 |some i=>(a[i]?).join
 |none=>none
def jP (X:Cx)(N':List Str)(sc:Scope)(cl:List (Str×Addr))(s:Shared)(H:Hp)(fp:List Addr):Cx:=
 { X with N:=N',s₀:=s,H₀:=H,env:=compEnvC sc cl s.heap.objs.size X.env,outer:=X.stack,ex:=fp,fn:=λ_=>false,pn:=[],xe:=ZG }
section
variable {X:Cx}{P:List (Addr×Obj)}{a:St}{H:Hp}{s:Shared}{N':List Str}{sc:Scope}{cl:List (Str×Addr)}{cap:List (Option Nat)}{fp:List Addr}
theorem uz.length {X:Cx}{sc:Scope}{cl:List (Str×Addr)}:∀{N':Ls} {cap:List (Option Nat)},uz X sc cl N' cap->cap.length=N'.length
 |[],[],_=>rfl
 |_::xs,none::cs,h=>by have:=uz.length (X:=X) (sc:=sc) (cl:=cl) (N':=xs) (cap:=cs) h;simp[this]
 |_::xs,so i::cs,h=>by have:=uz.length (X:=X) (sc:=sc) (cl:=cl) (N':=xs) (cap:=cs) h.2;simp[this]
 |[],_::_,h=>h.elim
 |_::_,[],h=>h.elim
theorem uz.at:∀{N':Ls} {cap:List (Option Nat)} {j:Nat},uz X sc cl N' cap->N'[j]?=so x->cap[j]?=so (so i) ->
  X.N[i]?=so x/\Vis X.env.scope x/\X.env.kindOf x≠so .local/\((relabel sc X.env).names.lookup x=so .cell\/(relabel sc X.env).names.lookup x=so .free)/\∃c,cl.lookup x=so c/\X.env.cells.lookup x=so c
 |[],[],j,_,h,_=>by simp at h
 |_::xs,none::cs,0,_,_,h=>by simp at h
 |_::xs,none::cs,j+1,q,h1,h2=>uz.at (N':=xs) (cap:=cs) (j:=j) q (by simpa using h1) (by simpa using h2)
 |y::xs,so k::cs,0,q,h1,h2=>by
  have e:y=x:=by simpa using h1
  have d:k=i:=by simpa using h2
  subst e d;exact q.1
 |_::xs,so _::cs,j+1,q,h1,h2=>uz.at (N':=xs) (cap:=cs) (j:=j) q.2 (by simpa using h1) (by simpa using h2)
 |[],_::_,_,h,_,_=>h.elim
 |_::_,[],_,h,_,_=>h.elim
theorem Inv.block (I:Inv X P a H s)(Z:sc.kind=.function)(g:uz X sc cl N' cap)(sub:Qo X.env cl)
  (has:∀x,((relabel sc X.env).names.lookup x=so .cell\/(relabel sc X.env).names.lookup x=so .free)->∃c,cl.lookup x=so c)
  (w:∀b∈fp,FpOk X P H b) (F:∀b∈fp,∃o,s.heap.get? b=so o) (J:h'.Ns s.heap.objs.size m) (L:Heap.SameBut s.heap.objs.size (s.heap.push o) h') :
  Inv (jP X N' sc cl s H fp) [] (pO cap a) H { s with heap:=h',toks:=tk }:=by
 have d:∀b u,s.heap.get? b=so u->h'.get? b=so u:=λb u e=>
  (L.2 b (aZ (aE e))).trans (aA _ e)
 refine((I.ok.mod,Z,I.ok.glob,I.ok.blt,ao _,λx y c A B=>I.ok.inj x y c (sub.look A) (sub.look B),has,(λx c h _=>nomatch h),I.ok.hd,I.ok.frames,.inl rz,λb n=>(?_,λx c e=>(w b n).2.2.2.2.1 x c (sub.look e)),I.bs,aj I.ok.bsz I.sz,λb u e n=>?_,λb n E=>?_,I.stack,I.env0.frf),rz,I.bare,Un.kept d,(m,J,λj x v A B h3=>?_),λx c e=>?_,I.hok.fresh (ao _),λx c e=>I.freeC x c (sub.look e),λp hp=>absurd (show p∈([]:List (Addr×Obj)) from hp) (by simp),I.hok.kept d,?_)
 .obtain⟨u,e⟩:=F b n;exact aZ (aE e)
 .rcases (w b n).2.2.2.1 with z|z
  .exact I.ok.noex b u e z
  .exact absurd (aQ (aE e) (aj I.ok.bsz z)) (cE _)
 .rcases aG.mp (I.stkSub b E) with z|z
  .exact(w b n).2.1 z
  .exact(w b n).2.2.1 z
 .obtain⟨m0,hn0,G⟩:=I.loc;have f:((cap.map λo=>match o with|some i=>(a[i]?).join|none=>none):St)[j]?=so (so v):=B
  rw[ag]at f;cases e:cap[j]? with
  |none=>rw[e]at f;cases f
  |some oi=>
   rw[e]at f;cases oi with
   |none=>cases f
   |some i=>
    have t:(a[i]?).join=so v:=aJ f;have Y:a[i]?=so (so v):=by
     cases z:a[i]? with
     |none=>rw[z]at t;cases t
     |some y=>rw[z]at t;cases t;rfl
    obtain⟨O,Q,R,S,c,T,U⟩:=g.at A e;obtain⟨u,r,l⟩:=G i x v O Y Q;refine(u,r,.inr (S,c,T,?_));rcases l with⟨k,_⟩|⟨_,c',N,ic⟩
    .exact absurd k R
    .rw[U]at N;cases N;obtain⟨M,C,D⟩:=ic;exact(M,d _ _ C,D)
 .obtain⟨v,M,C,D⟩:=I.cell x c (sub.look e);exact(v,M,d _ _ C,D)
 .unfold pO;rw[ac];exact g.length
theorem Inv.YD (I:Inv X P a H s)(c:∀b∈fp,FpOk X P H b)(J:Inv (jP X N' sc cl s H fp) pins' σ' d s'):Inv X P a d s':=
 I.call' (ch:=fp) J.os J.base J.hok J.bare λb h=>((c b h).2.2.2.1,(c b h).2.1,(c b h).2.2.2.2.1,(c b h).2.2.2.2.2)
end
def FW:St->St->Prop
 |[],[]=>True
 |none::a,_::b=>FW a b
 |some v::a,y::b=>y=so v/\FW a b
 |_,_=>False
theorem FW.at:∀{a b:St},FW a b->∀(i:Nat) (v:V),a[i]?=so (so v)->b[i]?=so (so v)
 |[],[],_,i,v,h=>by simp at h
 |none::a,_::b,q,0,v,h=>by simp at h
 |none::a,_::b,q,i+1,v,h=>by have:=FW.at (a:=a) (b:=b) q i v (by simpa using h);simpa using this
 |some u::a,y::b,q,0,v,h=>by
  have e:u=v:=by simpa using h
  rw[q.1,e];rfl
 |some u::a,y::b,q,i+1,v,h=>by have:=FW.at (a:=a) (b:=b) q.2 i v (by simpa using h);simpa using this
 |[],_::_,q,_,_,_=>q.elim
 |none::_,[],q,_,_,_=>q.elim
 |some _::_,[],q,_,_,_=>q.elim
def PTs (X:Cx)(c:List Expr)(t:TT):Prop:=
 ∀(p:List (Addr×Obj)) (s:Shared) (σ:St) (H:Hp) (Q:Bool->Hp->Prop),Inv X p σ H s->t σ H Q->wpAny (model X.prog X.w) X.A (Hv c X.env) (TP X p σ Q) X.xe s
theorem m7:PTs X [] (λ_ H Q=>Q true H):=λ_ _ _ H _ I h=>wpAny_tests_nil (H,I,h)
theorem Rn (h:PT X c t):PTs X [c] t:=λp s a H Q I q=>wpAny_tests_one (h p s a H Q I q)
def lcW (D:Addr)(J:It)(j:St)(g:TG)(l:TT)(t:TE)(Q:VK)(W:Nat->Nat->List V->Hp->Prop):Prop:=
 ∀i m a H,W i m a H->H D=so (.lst a)/\a.length<sizeLine /\
  ((J.stop i H/\Q (.ref D) H)\/(J.go i H/\∀x h,J.yld i H x h -> g x j h λc k=>FW j c/\l c k λok e=> if ok=true then t c e λy f=>f D=so (.lst a)/\∃d,d<m/\W (i+1) d (a++[y]) (upd f D (.lst (a++[y]))) else ∃d,d<m/\W (i+1) d a e))
def Uw (cap:List (Option Nat))(w:TI)(g:TG)(c:TT)(t:TE):TE:=λa H Q=>w a H λJ h=>∀D,h D=none->∃W:Nat->Nat->List V->Hp->Prop,(∃m,W 0 m [] (upd h D (.lst [])))/\lcW D J (pO cap a) g c t Q W
section
variable {X:Cx}{P:List (Addr×Obj)}{a:St}{H:Hp}{s:Shared}{N':List Str}{sc:Scope}{cl:List (Str×Addr)}{cap:List (Option Nat)}{fp:List Addr}
 {E t S:Expr} {d:List Expr} {A:Pos} {g:TG} {w:TT} {l:TE} {J:It} {B:Addr} {f:Nat->Heap->Prop} {Q:VK}
structure sU (X:Cx)(N':List Str)(sc:Scope)(cl:List (Str×Addr))(cap:List (Option Nat)):Prop where
 kind:sc.kind=.function
 clos:closureFor sc X.env=pure cl
 nocell:∀y∈sc.names,y.2 ≠ .cell
 names:∀y∈sc.names,y.2=.local->sc.names.lookup y.1=so .local
 cap:uz X sc cl N' cap
 sub:Qo X.env cl
 has:∀x,((relabel sc X.env).names.lookup x=so .cell\/(relabel sc X.env).names.lookup x=so .free)->∃c,cl.lookup x=so c
theorem kW (kind:sc.kind=.function)(h:closureFor sc X.env=pure cl)(n:(sc.names.all λy=>y.2 != .cell)=true)(o:(sc.names.all λy=>y.2 != .local || sc.names.lookup y.1 == so .local)=true)
  (i:uz X sc cl N' cap) (sub:Qo X.env cl) (p:((relabel sc X.env).names.all λy=>(y.2 != .cell && y.2 != .free) || (cl.lookup y.1).isSome)=true):sU X N' sc cl cap:=by
 refine(kind,h,λy m e=>?_,λy m e=>?_,i,sub,λx u=>?_)
 .have q:=b7.mp n y m;rw[e]at q;exact absurd q (())
 .have q:=b7.mp o y m;rw[e]at q;simpa using q
 .have j:∀k,(k=NameKind.cell\/k=NameKind.free)->(relabel sc X.env).names.lookup x=so k->∃c,cl.lookup x=so c:=λk r e=>by
   have q:=b7.mp p _ (di e);rcases r with rfl|rfl
   .exact cV.mp (by simpa using q)
   .exact cV.mp (by simpa using q)
  rcases u with e|e
  .exact j _ (.inl rz) e
  .exact j _ (.inr rz) e
theorem HB (L:sU X N' sc cl cap)(hc:X.calm=true)(I:Inv X P a H s)(T:Turn X.prog X.w X.K t J fp B f)(st:f 0 s.heap)(hf:∀b∈fp,FpOk X P H b)
  (hg:∀s H fp,PG (jP X N' sc cl s H fp) t g) (ht:∀s H fp,PTs (jP X N' sc cl s H fp) d w) (he:∀s H fp,PE (jP X N' sc cl s H fp) E l)
  (rd:∀D,H D=none->∃W:Nat->Nat->List V->Hp->Prop,(∃m,W 0 m [] (upd H D (.lst [])))/\lcW D J (pO cap a) g w l Q W)
  {Ex:Value->Shared->Prop} {RR:Value->Addr->Result->Shared->Prop} (hR:∀D C m k s',Inv X P a k s' -> s'.heap.Ns C m->FpOk X P k C->Q (.ref D) k -> RR (.ref D) C (.ok .next) s') :
  wpAny (model X.prog X.w) X.A (newList []) (λacc F=>wpAny (model X.prog X.w) X.A (newFunctionEnv sc X.env.globals cl [] X.env.qual none .none (so X.env)) (λcv s4=> codeAny (model X.prog X.w) X.A (.compStart (.ListComp E [(t,S,d,0)] sc A) 0 (.ref B) acc { cv with scope:=relabel sc X.env }) (RR acc cv.locals) s4) Ex F) Ex s:=by
 obtain⟨W,⟨m0,w0⟩,step⟩:=rd _ I.fresh;refine gY (eK L.nocell (by intro y hy;simp at hy) (λh1 M G=>?_) L.kind);have I3:Inv X P a (upd H s.heap.objs.size (.lst [])) { s with heap:=s.heap.push { cls:=.type "list",dict:=none,data:=.seq ([]:List Value).toArray } }:=I.lnew (its:=[]) (t':=s.toks) .nil ((()):0<=sizeLine);have hfo:∀b∈fp,∃o,s.heap.get? b=so o:=λb h=>let (o,e,_):=T.obj 0 s.heap st b h;(o,e)
 have hf3:∀b∈fp,FpOk X P (upd H s.heap.objs.size (.lst [])) b:=λb h=>by obtain⟨o,e⟩:=hfo b h;exact(by rw[upd_ne (aZ (aE e))];exact(hf b h).1,(hf b h).2)
 dsimp only at M G ⊢;generalize hs3:({ s with heap:=s.heap.push { cls:=.type "list",dict:=none,data:=.seq ([]:List Value).toArray } }:Shared)=F at I3 M G ⊢;have hh3:F.heap=s.heap.push { cls:=.type "list",dict:=none,data:=.seq ([]:List Value).toArray }:=by rw[<-hs3]
 have M:h1.Ns F.heap.objs.size (λx=>List.lookup x ([]:List (Str×Value)).reverse):=by rw[hh3];exact M
 have G:Heap.SameBut F.heap.objs.size (F.heap.push { cls:=.type (if (so X.env).isSome=true then "dict" else "frame"),data:=.dict #[] }) h1:=by rw[hh3];exact G
 have N:∀b o,s.heap.get? b=so o->F.heap.get? b=so o:=λb o e=>by rw[hh3];exact aA _ e
 have J0:=I3.block (N':=N') (cap:=cap) (fp:=fp) (tk:=F.toks+([]:List (Str×Value)).length) L.kind L.cap L.sub L.has hf3 (λb h=>let (o,e):=hfo b h;(o,N b o e)) M G
 have st1:f 0 h1:=T.keep 0 s.heap h1 st λb h o e=>(G.2 b (aZ (aE (N b o e)))).trans (aA _ (N b o e));have Y:∀{k:Hp},(∀b∈fp,k b=none)->∀b∈fp,FpOk (jP X N' sc cl F (upd H s.heap.objs.size (.lst [])) fp) [] k b:=λhn b h=>by
  obtain⟨o,e⟩:=hfo b h;refine(hn b h,aZ (aE (N b o e)),λhb'=>?_,.inl h,λx c q=>(hf b h).2.2.2.2.1 x c (L.sub.look q),λp hp=>absurd (show p∈([]:List (Addr×Obj)) from hp) (by simp));rcases aG.mp (I.stkSub b hb') with z|z
  .exact(hf b h).2.1 z
  .exact(hf b h).2.2.1 z
 have R:∀s4:Shared,s4={ F with heap:=h1,toks:=F.toks+([]:List (Str×Value)).length } ->
   codeAny (model X.prog X.w) X.A (.compLoop (.ListComp E [(t,S,d,0)] sc A) 0 (.ref B) (.ref s.heap.objs.size) (compEnvC sc cl F.heap.objs.size X.env)) (RR (.ref s.heap.objs.size) F.heap.objs.size) s4:=by
  rintro s4 rfl;refine Sy (λn s'=>∃i ys k,Inv (jP X N' sc cl F (upd H s.heap.objs.size (.lst [])) fp) [] (pO cap a) k s'/\f i s'.heap/\(∀b∈fp,k b=none)/\W i n ys k) ?_ m0 (0,[],_,J0,st1,λb h=>(hf3 b h).1,w0);rintro n s' ⟨i,ys,k,Ji,sti,fri,wi⟩;obtain⟨hD,hlen,hgo⟩:=step i n ys k wi;rcases hgo with⟨hstop,hq⟩|⟨hgo,Z⟩
  .refine thn (T.done (jP X N' sc cl F (upd H s.heap.objs.size (.lst [])) fp) rz rz rz hc i [] s' _ k ZG Ji (Y fri) sti hstop) λr s1 (hr,J1)=>.inl (hr,?_);obtain⟨m1,hm1,_⟩:=J1.loc;exact hR _ _ m1 k s1 (I3.YD hf3 J1) hm1 (I3.fpOk (ao _) J1.free) hq
  .refine thn (T.item (jP X N' sc cl F (upd H s.heap.objs.size (.lst [])) fp) rz rz rz hc i [] s' _ k ZG Ji (Y fri) sti hgo) λr s1 (u,hr,h4)=>.inr (u,hr,thn h4 λ_ s5 (x,H5,J5,r5,y5,st5,fr5)=>?_);have J5':=J5.pinned (Y fr5) (T.obj _ _ st5);refine thn (hg _ _ _ _ s5 _ H5 x u _ J5' r5 (Z x H5 y5)) λ_ s6 (σ6,H6,J6,ext,q6)=>?_;have O:∀{ys':List V} {H7:Hp} {s7:Shared} {m':Nat},Inv (jP X N' sc cl F (upd H s.heap.objs.size (.lst [])) fp) ([]++pinsAt fp s5.heap) σ6 H7 s7->m'<n->W (i+1) m' ys' H7 ->
     ∃m,m<n/\∃i ys k,Inv (jP X N' sc cl F (upd H s.heap.objs.size (.lst [])) fp) [] (pO cap a) k s7/\f i s7.heap/\(∀b∈fp,k b=none)/\W i m ys k:=λ{ys' H7 s7 m'} U hm w7=>by
    refine(m',hm,i+1,ys',H7,(U.unpinned).weak ?_ λj v z=>ext.at j v z,T.keep _ _ _ st5 λb h o e=>(U.pin (b,o) (aT _ (aT _ (mem_pinsAt h e)))).1,λb h=>?_,w7)
    .rw[U.len,Ji.len]
    .obtain⟨o,e,_⟩:=T.obj _ _ st5 b h;exact(U.pin (b,o) (aT _ (aT _ (mem_pinsAt h e)))).2.1
   refine thn (ht _ _ _ _ s6 _ H6 _ J6 q6) λok s7 (H7,U,q7)=>?_;cases ok with
   |false=>obtain⟨m',hm,w7⟩:=q7;exact O U hm w7
   |true=>refine thn (he _ _ _ _ s7 _ H7 _ U q7) λy s8 (yv,H8,J8,r8,hD8,m',hm,w8)=>?_;exact thn (mt_append _ s8 _ H8 (.ref s.heap.objs.size) [yv] (.ref s.heap.objs.size) [y] (λv H9=>H9=upd H8 s.heap.objs.size (.lst (ys++[yv]))) J8 rz (.cons r8 .nil) (_,ys,yv,rz,rz,hD8,hlen,rz)) λ_ s9 (_,H9,J9,_,e9)=>by subst e9;exact O J9 hm w8
 subst hs3;exact codeAny_compStart_list (R _ rz) (T.self _ 0 _ _ _ st1 (R _ rz))
theorem xU (L:sU X N' sc cl cap)(F:X.calm=true)(N:PI X t S wi)(M:∀s H fp,PG (jP X N' sc cl s H fp) t g)(U:∀s H fp,PTs (jP X N' sc cl s H fp) d w)(G:∀s H fp,PE (jP X N' sc cl s H fp) E l)
  (R:∀x,foldedSetIterable S X.env x=pure x:=by intro _;rfl):PE X (.ListComp E [(t,S,d,0)] sc A) (Uw cap wi g w l):=by
 intro P s a H Q I h;rw[eval_ListComp];refine wpAny_comprehension_free (use:=none) rz R L.clos L.kind L.names (thn (N P s a H _ I h) λv s1 u=>thn u λY s2 y=>?_);obtain⟨B,fp,f,J,H2,rfl,n,T,j,r,rd⟩:=y;refine HB L F n T j r M U G rd (RR:=λi C=>compPost (model X.prog X.w) X.A X.xe none (EP X P a Q) i C) λD C m k Z p O c q=>?_;refine(m,O,λh' sb=>(.ref D,k,p.turned (t':=Z.toks) (λb o z e=>(sb.2 b z).trans e) c.1 c.2.1 c.2.2.2.1 c.2.2.2.2.1 c.2.2.2.2.2,rz,q))
theorem Bk (hN:X.N.Nodup)(M:X.N[i]?=so x)(hx:X.env.scope.names.lookup x=so .local)(L:sU X N' sc cl cap)(hc:X.calm=true)(hi:PI X t S wi)(hg:∀s H fp,PG (jP X N' sc cl s H fp) t g)
  (ht:∀s H fp,PTs (jP X N' sc cl s H fp) d w) (he:∀s H fp,PE (jP X N' sc cl s H fp) E l) (R:swapsWith (.ListComp E [(t,S,d,0)] sc A) (so (.Name x U)) u.line X.env=pure true)
  (hs:∀x,foldedSetIterable S X.env x=pure x:=by intro _;rfl):PS X (.Assign [.Name x U] (.ListComp E [(t,S,d,0)] sc A) u) (tAsg (Uw cap wi g w l) (gName i)):=by
 intro P s a H D I h;rw[exec_Assign_Name_used _ _ _ _ R];refine aM (f9 (aM ?_));refine aM (thn (wpAny_comprehension_free (use:=so (assign (.Name x U) X.env)) (Q:=λ_ k=>SP X P D .next k) rz hs L.clos L.kind L.names (thn (hi P s a H _ I h) λv s1 h1=>thn h1 λitv s2 h2=>?_)) λ_ k q=>bG (bG q));obtain⟨B,fp,f,J,H2,rfl,I2,T,Z,f2,rd⟩:=h2;refine HB L hc I2 T Z f2 hg ht he rd (RR:=λG C=>compPost (model X.prog X.w) X.A X.xe (so (assign (.Name x U) X.env)) (λ_ k=>SP X P D .next k) G C) λD' C m H' k J' hn j q=>?_;obtain⟨y,es,ep,N,r,hr⟩:=hn;have Jp:Inv X (P++[(C,y)]) a H' k:=J'.pins_of λp O=>by
  rcases cF.mp O with z|z
  .exact J'.pin p (aT _ z)
  .have e:p=(C,y):=by simpa using z
   subst e;exact(N,j.1,j.2.1,j.2.2.1,λv z=>by rw[r]at z;cases z)
 refine thn (pg_name (i:=i) hN M (.inl hx) (.inr hx) _ k a H' (.ref D') (.ref D') (λn c=>D.nx n c) Jp rz q) λ_ Y (n,c,F,q2)=>?_;obtain⟨p1,p2,p3,p4,p5⟩:=F.pin (C,y) (aT _ (aT _ (by simp)));refine(m,(y,es,ep,p1,r,hr),λh' sb=>(n,c,(F.pins_of (pins':=P) λp O=>F.pin p (aT _ (cM _ O))).turned (t':=Y.toks) (λb o hb e=>(sb.2 b hb).trans e) p2 j.2.1 j.2.2.2.1 j.2.2.2.2.1 j.2.2.2.2.2,q2))
end
theorem ObjOk.get (x:ObjOk P w H h a o):∃ob,h.get? a=so ob:=by
 cases o with
 |lst xs=>obtain⟨_,_,_,_,e⟩:=x;exact(_,e)
 |tup xs=>obtain⟨_,_,_,ob,e,_⟩:=x;exact(ob,e)
 |ins C d fs=>obtain⟨_,_,_,e,_⟩:=x;exact(_,e)
 |own y=>exact x
 |frz ob u=>obtain⟨e,_⟩:=x;exact(ob,e)
 |tbl p=>exact(_,x.1)
 |ext g=>obtain⟨_,e,_⟩:=x;exact e
structure Lft (fr as:List Addr)(h h2:Heap)(a:Addr)(cls:Value):Prop where
 keep:∀b o,h.get? b=so o->b∉as->h2.get? b=so o
 slot:∀b o,b∈fr->h.get? b=so o->∃sl,h2.get? b=so { o with slots:=sl }
 ex:∃oe vs T oT ts,h2.get? a=so oe/\oe.cls=cls/\oe.dict=none/\oe.data=.fields vs/\vs[1]?=so (.ref T)/\h.get? T=none/\T≠a/\h2.get? T=so oT/\oT.data=.fields ts/\ts[3]?=so .none
theorem DP (f:Array Value->Array Value)(o:Obj):(Obj.mapFields f o).dict=o.dict:=by unfold Obj.mapFields;split<;>rfl
theorem Ie (u:A.frames=so (env::outer))(hl:s.heap.FunFrames base (env::outer))(N:env.frame=so L)(G:s.heap.get? a=so j)(t:j.dict=none)(r:j.data=.fields vs)(f:1<vs.size)
  (p:a∈as) (v:∀b∈frs (env::outer),b∈as) (h:∀h',Lft (frs (env::outer)) as s.heap h' a j.cls->Q Unit.unit { s with heap:=h' }) :
  wpAny M A (do let x <-frameOf env;let pl <-entryPlaceOf L hadNext;let b <-EntryCells.newEntry head x .none (rawInt L) .none pl;setField (.ref a) 1 b) (λ_ s'=>wpAny M A (setFlight (.ref a) none) Q E s') E s:=by
 have i:a∉frs (env::outer):=λz=>by obtain⟨_,o,e,d⟩:=hl.mem z;rw[G]at e;cases e;exact d vs r
 refine aM (wpAny_frameOf_fun u hl N λc k=>aM (wpAny_entryPlaceOf λpl w=>?_));unfold EntryCells.newEntry newFields;refine aM (gY ?_ (w.sizeOk5 _ _ _ _ _));have C:c.get? a=so j:=(k.2.1 a i).trans G;have B:c.objs.size≠a:=d8 (aE C);generalize y:([head,Value.ref L,Value.none,rawInt L,Value.none]++(if pl.isEmpty then sP 6 Value.none else pl)).toArray=ts;have l:3<ts.size:=by rw[<-y];simp
 have D:=aA (h:=c) { cls:=.type "traceback",dict:=none,data:=.fields ts } C;have O:=bh c (o:={ cls:=.type "traceback",dict:=none,data:=.fields ts }) rfl;refine wpAny_setField D r f ?_;have n:=fj r (·.setIfInBounds 1 (Value.ref c.objs.size));have F:=ee (Obj.mapFields (·.setIfInBounds 1 (Value.ref c.objs.size))) D (fN n);have I:=(bO (c.push { cls:=.type "traceback",dict:=none,data:=.fields ts }) (Obj.mapFields (·.setIfInBounds 1 (Value.ref c.objs.size))) (de B)).trans O;refine wpAny_setFlight_none (vs:=vs.setIfInBounds 1 (.ref c.objs.size)) F n (by simp[f]) I rz l (h _ (λb o q H=>?_,λb o q J=>?_,?_))
 .have g:c.get? b=so o:=(k.2.1 b λz=>H (v b z)).trans q;have m:b≠a:=λz=>H (z ▸ p);rw[bO _ _ (d8 (aE g)),bO _ _ (de m)];exact aA _ g
 .obtain⟨sl,g⟩:=k.2.2 b o J;have m:b≠a:=λz=>i (z ▸ q);refine(sl,?_);rw[bO _ _ (d8 (aE g)),bO _ _ (de m)];exact aA _ g
 .refine(_,_,c.objs.size,_,_,(bO _ _ B).trans F,Obj.cls_mapFields _ _,?_,n,by simp[f],?_,B,ee _ I (fN (fj rz _)),fj rz _,by simp[l])
  .rw[DP];exact t
  .cases q:s.heap.get? c.objs.size with
   |none=>rfl
   |some o=>obtain⟨sl,g⟩:=k.2.2 _ o q;exact absurd (aE g) (cE _)
theorem N5 (e:A.frames=so (env::outer))(hl:s.heap.FunFrames base (env::outer))(k:env.frame=so L)(j:s.heap.get? a=so o)(d:o.dict=none)(i:o.data=.fields vs)(g:vs[1]?=so .none)
  (c:a∈as) (f:∀b∈frs (env::outer),b∈as) (h:∀h',Lft (frs (env::outer)) as s.heap h' a o.cls->Q Unit.unit { s with heap:=h' }) :
  wpAny M A (noteFrame (.ref a) env) (λ_ s'=>wpAny M A (setFlight (.ref a) none) Q E s') E s:=by
 unfold noteFrame;simp only[k];refine aM (wpAny_field j i g ?_);rw[aF (())];exact Ie e hl k j d i (eJ.mp g).1 c f h
theorem SJ (p:A.frames=so (env::outer))(hl:s.heap.FunFrames base (env::outer))(J:env.frame=so L)(I:s.heap.get? a=so v)(n:v.dict=none)(H:v.data=.fields vs)(F:vs[1]?=so (.ref T))
  (l:T≠a) (i:s.heap.get? T=so oT) (c:oT.data=.fields ts) (G:ts[3]?=so .none)
  (m:a∈as) (k:T∈as) (r:∀b∈frs (env::outer),b∈as) (h:∀h',Lft (frs (env::outer)) as s.heap h' a v.cls->Q Unit.unit { s with heap:=h' }) :
  wpAny M A (noteFrame (.ref a) env) (λ_ s'=>wpAny M A (setFlight (.ref a) none) Q E s') E s:=by
 unfold noteFrame;simp only[J];refine aM (wpAny_field I H F ?_);rw[aL (show(Value.ref T != Value.none)=true from by simp)];refine aM (wpAny_field i c G ?_);rw[aF (show ¬((Value.none == rawInt L)=true) from by simp[rawInt])];refine aM (wpAny_setField i c (eJ.mp G).1 ?_);have O:T∉frs (env::outer):=λz=>by obtain⟨_,o,e,d⟩:=hl.mem z;rw[i]at e;cases e;exact d ts c
 have f:∀b,b≠T->(s.heap.update T (Obj.mapFields (·.setIfInBounds 3 Value.none))).get? b=s.heap.get? b:=λb j=>bO _ _ (de j);have g:=ee (Obj.mapFields (·.setIfInBounds 3 Value.none)) i (fN (fj c _));refine Ie p (hl.of_keeps λb o j t=>(o,(f b (λz=>by rw[z,i]at j;cases j;exact t ts c)).trans j,rz)) J ((f a (de l)).trans I) n H (eJ.mp F).1 m r λh' q=>h h' (λb o e N=>?_,λb o z e=>?_,?_)
 .exact q.keep b o ((f b λz=>N (z ▸ k)).trans e) N
 .exact q.slot b o z ((f b λy=>O (y ▸ z)).trans e)
 .obtain⟨w,B,D,u,x,P,R,S,U,Y,C,Z⟩:=q.ex;refine(w,B,D,u,x,P,R,S,U,Y,?_,Z);rw[<-f D (λz=>by rw[z,g]at C;cases C)];exact C
structure Fly (h0:Heap)(H:Hp)(h:Heap)(a:Addr)(cls:Value):Prop where
 ex:∃oe vs T oT ts,h.get? a=so oe/\oe.cls=cls/\oe.dict=none/\oe.data=.fields vs/\vs[1]?=so (.ref T)/\T≠a/\h.get? T=so oT/\oT.data=.fields ts/\ts[3]?=so .none/\H T=none/\h0.get? T=none
 un:H a=none
 new:h0.get? a=none
def QJ (P:Program)(w:World):CXT:=λo H s E e c=>∃a cls h,e=.ref a/\c.os=s.os/\AllBare c.gens/\Un (frs o) [] H h s.heap c.heap/\HOk P w h c.heap/\Fly s.heap h c.heap a cls/\E cls none h
section
variable {s s':Shared}
theorem vd {base h h':Heap}:∀{l:List Env},h.FunFrames base l->(∀b∈frs l,∀o,h.get? b=so o->∃sl,h'.get? b=so { o with slots:=sl })->h'.FunFrames base l
 |[],_,_=>tT
 |ev::r,hl,k=>by
  obtain⟨f,⟨L,o,a,g,i,d⟩,j⟩:=hl;have e:frs (ev::r)=L::frs r:=by unfold frs;rw[bN,a]
  obtain⟨sl,q⟩:=k L (by rw[e];exact az) o i;exact(f,(L,_,a,g,q,d),vd j λb c=>k b (by rw[e];exact ai _ c))
theorem Inv.Pa (I:Inv X p c H s)(u:Un (frs X.stack) [] H a s.heap s'.heap):s'.heap.FunFrames X.base X.stack:=
 vd I.stack λb h o e=>u.slot b o e (I.stkFree b h) h (by simp)
theorem Hm (I:Inv X U σ Z s)(O:X.stack=X.env::X.outer)(M:X.env.frame=so X.env.locals)(J:X.ex=[])(ho:s'.os=s.os)(hb:AllBare s'.gens)
  (u:Un (frs X.stack) [] Z H s.heap s'.heap) (C:HOk X.prog X.w H s'.heap) (has:∀b∈as,b∈frs X.stack\/(H b=none/\s.heap.get? b=none)) (hfs:∀b∈frs X.stack,b∈as) (haa:a∈as) (B:H a=none/\s.heap.get? a=none)
  (L:Lft (frs X.stack) as s'.heap h2 a cls) (hE:E cls none H):QJ X.prog X.w X.outer X.H₀ X.s₀ E (.ref a) { s' with heap:=h2 }:=by
 have p:frs X.stack=X.env.locals::frs X.outer:=by rw[O];unfold frs;rw[bN,M]
 have d:∀b:Addr,b∉X.ex:=λb=>by rw[J];simp
 have Y:=I.Pa u;have k:=L.keep;have g:=L.slot;have r:∀b o,X.s₀.heap.get? b=so o->b≠X.env.locals:=λb o e=>aZ (aQ (aE e) I.ok.above);have out:∀b o,s.heap.get? b=so o->b∈as->b∈frs X.stack:=λb o e z=>by
  rcases has b z with q|⟨_,q⟩
  .exact q
  .rw[e]at q;cases q
 have i:∀b o,X.s₀.heap.get? b=so o->∃o',s.heap.get? b=so o':=λb o e=>I.base.there b o e (d b);obtain⟨oe,vs,T,oT,ts,he,y,G,hd,h1,N,F,S,A,h3⟩:=L.ex;have x:T∈as\/s'.heap.get? T=none:=.inr N;have h:∀b∈as,H b=none:=λb z=>by
  rcases has b z with q|⟨q,_⟩
  .obtain⟨_,o,e,_⟩:=I.stack.mem q;exact u.free b o e (I.stkFree b q) (by simp)
  .exact q
 refine(a,cls,H,rz,ho.trans I.os,hb,(λb o e n l _=>?_,λb o e n l _=>?_,λb o e n _=>?_,λb o e _=>?_,λb xs e=>u.tups b xs (I.base.tups b xs e),λb o v e=>u.frzs b o v (I.base.frzs b o v e),λb ps e=>?_),λb o e=>?_,((oe,vs,T,oT,ts,he,y,G,hd,h1,F,S,A,h3,?_,?_),B.1,?_),hE)
 .have f:=I.base.keep b o e n l (d b);have P:=I.base.free b o e n (d b);have w:b∉frs X.stack:=λz=>by rw[p]at z;exact(aG.mp z).elim (r b o e) l
  exact k b o (u.keep b o f P w (by simp)) λz=>w (out b o f z)
 .obtain⟨sl1,f⟩:=I.base.slot b o e n l (d b);have P:=I.base.free b o e n (d b);have w:b∈frs X.stack:=by rw[p];exact ai _ l
  obtain⟨sl2,j⟩:=u.slot b _ f P w (by simp);obtain⟨Q,t⟩:=g b _ w j;exact(Q,t)
 .obtain⟨m,f⟩:=i b o e;exact u.free b m f (I.base.free b o e n (d b)) (by simp)
 .obtain⟨m,f⟩:=i b o e;obtain⟨o2,j⟩:=u.there b m f (by simp);by_cases z:b∈as
  .obtain⟨sl,t⟩:=g b o2 (out b m f z) j;exact(_,t)
  .exact(o2,k b o2 j z)
 .obtain⟨m1,f⟩:=I.base.tbls b ps e;obtain⟨m2,j⟩:=u.tbls b _ f;exact(m1++m2,by rw[j,Ce.append_assoc])
 .refine(C b o e).stay (λc v D q=>k c v q λz=>?_) (λ_ q=>q) λ_ _ q=>q;have:=h c z;rcases D with rfl|D
  .rw[this]at e;cases e
  .rw[this]at D;cases D
 .rcases x with z|z
  .exact h T z
  .cases q:H T with
   |none=>rfl
   |some v=>obtain⟨ob,e⟩:=(C T v q).get;rw[z]at e;cases e
 .cases q:X.s₀.heap.get? T with
  |none=>rfl
  |some o=>
   obtain⟨m,f⟩:=i T o q;obtain⟨o2,j⟩:=u.there T m f (by simp);rcases x with z|z
   .obtain⟨sl,t⟩:=g T o2 (out T m f z) j;obtain⟨_,o4,R,d4⟩:=Y.mem (out T m f z);rw[j]at R;cases R;rw[S]at t;cases t;exact absurd A (d4 ts)
   .rw[z]at j;cases j
 .cases q:X.s₀.heap.get? a with
  |none=>rfl
  |some o=>obtain⟨m,f⟩:=i a o q;rw[B.2]at f;cases f
theorem leave_new (I:Inv X p A j s)(h:X.stack=X.env::X.outer)(c:X.env.frame=so X.env.locals)(f:X.ex=[])(x:s'.os=s.os)(r:AllBare s'.gens)
  (u:Un (frs X.stack) [] j H s.heap s'.heap) (g:HOk X.prog X.w H s'.heap) (d:H a=none/\s.heap.get? a=none) (w:s'.heap.get? a=so o) (t:o.cls=cls) (e:o.dict=none) (v:o.data=.fields vs) (k:vs[1]?=so .none) (m:E cls none H)
  (n:∀i,QJ X.prog X.w X.outer X.H₀ X.s₀ E (.ref a) i->Q Unit.unit i):wpAny M X.A (leaving X.env (.ref a)) Q E' s':=by
 subst t;have l:X.A.frames=so (X.env::X.outer):=by rw[<-h];exact I.ok.frames
 have F:=I.Pa u;refine aM (N5 (as:=a::frs X.stack) l (by rw[<-h];exact F) c w e v k az (λb z=>ai _ (by rw[h];exact z)) λy L=>n _ ?_);rw[<-h]at L;exact Hm I h c f x r u g (λb z=>(aG.mp z).elim (λq=>.inr (by rw[q];exact d)) .inl) (λb z=>ai _ z) az d L m
theorem XF (I:Inv X p P o s)(h:X.stack=X.env::X.outer)(d:X.env.frame=so X.env.locals)(j:X.ex=[])(D:s'.os=s.os)(A:AllBare s'.gens)
  (u:Un (frs X.stack) [] o H s.heap s'.heap) (k:HOk X.prog X.w H s'.heap) (F:Fly s.heap H s'.heap a cls) (w:E cls none H)
  (x:∀m,QJ X.prog X.w X.outer X.H₀ X.s₀ E (.ref a) m->Q Unit.unit m):wpAny M X.A (leaving X.env (.ref a)) Q E' s':=by
 obtain⟨N,O,T,J,ts,C,c,i,B,r,f,y,g,t,e,l⟩:=F.ex;subst c;have v:X.A.frames=so (X.env::X.outer):=by rw[<-h];exact I.ok.frames
 have n:=I.Pa u;refine aM (SJ (as:=a::T::frs X.stack) v (by rw[<-h];exact n) d C i B r f y g t az (ai _ az) (λb z=>ai _ (ai _ (by rw[h];exact z))) λG L=>x _ ?_);rw[<-h]at L;refine Hm I h d j D A u k (λb z=>?_) (λb z=>ai _ (ai _ z)) az (F.un,F.new) L w;rcases aG.mp z with q|z
 .exact .inr (by rw[q];exact(F.un,F.new))
 .rcases aG.mp z with q|z
  .exact .inr (by rw[q];exact(e,l))
  .exact .inl z
end
theorem ac6 {P:Program}{w:World}{K:Fg}{mg:Mg}{base:Heap}{N:Ls}{c:Str}{scope:Scope}{f:Addr}{i:Value}{A:Around}{outer:List Env}{s:Shared}{H:Hp}{E:XK} :
  Passes (QJ P w) (cxOf (QJ P w) P w K mg base N c scope f i A outer s H E) E:=λp v o t e r I h=>by
 obtain⟨a,cls,n,rfl,m,l,u,d,F,k⟩:=h;exact XF I rz rz rz m l u d F k (M:=model P w) (E':=λj g=>QJ P w outer H s E j g) λg q=>q
theorem N8.facts {K:Fg}{h:Heap}{C:Addr}(X:K.In h)(q:N8 K C):∃nm i N bs bm f sn sub ab col dd k0 k1 k2 k3 k5 mN,
  h.get? C=so (excClassObj nm i C N bs bm f sn sub ab col dd k0 k1 k2 k3 k5 "ValueError.__new__")/\h.Ns N mN/\mN "__init__"=none/\OwnTail h bmV bm:=by
 unfold N8 W.excIn at q;split at q
 .rename_i d c s g;split at q
  .rename_i B a o p r t E u m n;simp only[dz,i8,Bool.not_eq_true']at q;obtain⟨⟨⟨⟨⟨w,x⟩,j⟩,y⟩,e⟩,k⟩:=q;subst w x;obtain⟨nm,bs,D,A,i,f,sn,sub,ab,col,v⟩:=c;dsimp only at m j e k;subst m j;have z:s = #[o,p,r,t,so (.builtin "ValueError.__new__"),u]:=by obtain⟨l⟩:=s;simp only at n;rw[n]
   subst z;exact(nm,i,A,bs,a,f,sn,sub,ab,col,d,o,p,r,t,u,_,X _ _ g,.of_isNs (W.isNs_of_in X e),W.nsMap_none_of_in X e k,W.tail_of_in X y)
  .cases q
 .cases q
def Wb (X:Cx)(E:XK):Prop:=∀(p:List (Addr×Obj)) (σ:St) (H:Hp) (s:Shared) (a:Addr) (cls:Value) (vs:List Value) (h':Heap),Inv X p σ H s->Heap.MadeExcOf s.heap h' a cls vs->E cls none H->X.xe (.ref a) { s with heap:=h' }
theorem Inv.untracked (I:Inv X p c H s)(h:s.heap.get? a=none):H a=none:=by
 cases q:H a with
 |none=>rfl
 |some o=>obtain⟨ob,e⟩:=(I.hok a o q).get;rw[h]at e;cases e
theorem adf {P:Program}{w:World}{K:Fg}{mg:Mg}{base:Heap}{N:Ls}{c:Str}{scope:Scope}{f:Addr}{g:Value}{A:Around}{outer:List Env}{s:Shared}{H:Hp}{E:XK} :
  Wb (cxOf (QJ P w) P w K mg base N c scope f g A outer s H E) E:=λp n m l a cls v j I h k=>by
 obtain⟨t,e,_⟩:=h.there;exact leave_new (s':={ l with heap:=j }) I rz rz rz rz I.bare (Un.kept h.keeps) (I.hok.kept h.keeps) (I.untracked h.new,h.new) e rz rz rz rz k (M:=model P w) (E':=λi d=>QJ P w outer H s E i d) λd q=>q
def abZ (C:Addr)(E:XK)(t:TA):TS:=λ_ a H=>t a H λ_ h=>E (.ref C) none h
theorem KJ {X:Cx}{E:XK}{x:Str}{O c pos:Pos}{e:Expr}{d:List Expr}{C:Addr}{t:TA}(J:Wb X E)(z:X.calm=true)(q:N8 X.K C)(F:Gl X x)(G:X.mg x=so (.ref C))(y:PA X (e::d) t)(L:(e::d).length<=1000:=by decide)
  (k:(x == ("__debug__":Str))=false:=by decide) (B:starEach (e::d) X.env=(false,eval e X.env)::starEach d X.env:=by rfl) (o:(backTo c (starEach (e::d) X.env)).any (·.1)=false:=by rfl)
  (hl:∀g H Q,t g H Q->t g H λvs i=>vs.length=(e::d).length/\Q vs i):PS X (.Raise (so (.Call (.Name x O) (e::d) [] c)) none pos) (abZ C E t):=by
 intro p s g H D I h;obtain⟨nm,R,N,bs,bm,A,sn,sub,ab,col,dd,k0,k1,k2,k3,k5,mN,w,n,m,u⟩:=q.facts I.ok.mod.kin;have f:bm.contains (.type "BaseException")=true:=u.hasType (by decide +kernel);refine wpAny_Raise_call_subU (nm:=nm) (q:=R) (C:=C) (N:=N) (bs:=bs) (bm:=bm) (hdct:=A) (sn:=sn) (sub:=sub) (ab:=ab) (col:=col) (dd:=dd) (k0:=k0) (k1:=k1) (k2:=k2) (k3:=k3) (k5:=k5) (mN:=mN)
  gB (by decide +kernel) gB f (I.ok.hd z) o m (ld_glob I F G (rz,?_) k)
 have ev:wpAny (model X.prog X.w) X.A (spliced (backTo c (starEach (e::d) X.env))) (AP X p g λvs i=>vs.length=(e::d).length/\E (.ref C) none i) X.xe s:=y c p s g H _ I (hl g H _ h);rw[B]at ev ⊢;refine Calls.evalArgs_plain (thn ev λT S (vs,i,j,r,M,P)=>(rz,?_,?_))
 .rw[<-r.length,M];exact a7 (small1000 L)
 .exact(j.bk _ _ w,n.keeps j.bk,u.keeps j.bk,λv a l=>J p g i S a (.ref C) _ v j l P)
section
variable {X:Cx}{CX:CXT}{k:Nat}{f C:Addr}{i:FuncData}{P:List Str}{sp:Sp}{D:List V}{g:List Value}{E:XK}{x m:Str}{p pos a:Pos}{e o:Expr}{d:List Expr}{T:TE}{t:TA}
theorem ZF (B:Gl X x)(G:X.mg x=so (.ref C))(c:Sh X.K C m f)(F:FnOk X.prog X.w X.K X.mg X.base CX k f i P sp)(J:Room k X.A)(z:Binds X.K i P g)(A:Vals D g)(M:Passes CX X E)(y:PA X (e::d) t)
  (l:(x == ("__debug__":Str))=false:=by decide) (u:starEach (e::d) X.env=(false,eval e X.env)::starEach d X.env:=by rfl) (n:(backTo pos (starEach d X.env)).any (·.1)=false:=by rfl)
  (L:eval (.Call (.Attribute (.Name x p) m a) (e::d) [] pos) X.env=(do
   let ov <-eval (.Name x p) X.env
   standAt a.atName
   let (f,first) <-holding [ov] (getMethod ov m pl)
   callWith pos f first (backTo pos (starEach (e::d) X.env)) (backToKw pos (keywordEach [] X.env))):=by rfl):PE X (.Call (.Attribute (.Name x p) m a) (e::d) [] pos) (tCall sp D E t):=by
 intro j s N H Q I h;refine iD (pl:=pl) (ld_glob I B G ?_ l) L;refine W.method_cls I.kIn c.ga (W.cls_value I.kIn c.rd c.fc rz ?_);have w:=I.tok (s.toks+1);refine dB (first:=[]) (h₀:=X.base) I.ok.mod.kin c.kp (thn (y pos j _ N H _ w h) λS R (U,O,v,r,q)=>(v.kIn,?_)) u n
 exact run_fn F J z A M v r q
end
structure OkM (P:Program)(w:World)(K:Fg)(mg:Mg)(base:Heap)(CX:CXT)(k:Nat)(C:Addr)(m:Str)(ps:List Str)(sp:Sp):Prop where
 ex:∃f fd,FnOk P w K mg base CX k f fd ps sp/\Binds K fd ps []/\Meth K C m f/\Cls K C
def adV (k:Hp->Addr->Int->Prop)(a:Addr)(z:Int)(n:Nat)(pre:Int->List Int->Prop)(F:Int->List Int->Int):Sp:=λv H Q _=>∃c:List Int,c.length=n/\v=.ref a::c.map V.int/\k H a z/\pre z c/\Q (.int (F z c)) H
structure KM (P:Program)(w:World)(K:Fg)(mg:Mg)(base:Heap)(k:Nat)(KA:Hp->Addr->Int->Prop)(m:Str)(n:Nat)(pre:Int->List Int->Prop)(F:Int->List Int->Int):Prop where
 ex:∀H a z,KA H a z->∃C dx fs ps,H a=so (.ins C dx fs)/\fs.lookup m=none/\OkM P w K mg base CX0 k C m ps (adV KA a z n pre F)
structure OkC (P:Program)(w:World)(K:Fg)(mg:Mg)(base:Heap)(CX:CXT)(k:Nat)(x:Str)(C:Addr)(m:Str)(ps:List Str)(sp:Sp):Prop where
 ex:∃f fd,FnOk P w K mg base CX k f fd ps sp/\Binds K fd ps []/\Sh K C m f/\mg x=so (.ref C)
structure OkI (P:Program)(w:World)(K:Fg)(mg:Mg)(base:Heap)(CX:CXT)(k:Nat)(x:Str)(C:Addr)(ps:List Str)(sp:Sp):Prop where
 ex:∃f fd,FnOk P w K mg base CX k f fd ps sp/\Binds K fd ps []/\Mk K C f/\mg x=so (.ref C)
theorem I8 (o:OkC X.prog X.w X.K X.mg X.base CX j x C m z sp)(s:Room k X.A)(v:Passes CX X E)(l:PA X (e::d) t)(r:j<=k:=by decide)(n:Gl X x:=by rfl)
  (h:(x == ("__debug__":Str))=false:=by decide) (i:starEach (e::d) X.env=(false,eval e X.env)::starEach d X.env:=by rfl) (g:(backTo pos (starEach d X.env)).any (·.1)=false:=by rfl)
  (u:eval (.Call (.Attribute (.Name x p) m a) (e::d) [] pos) X.env=(do
   let ov <-eval (.Name x p) X.env
   standAt a.atName
   let (f,first) <-holding [ov] (getMethod ov m pl)
   callWith pos f first (backTo pos (starEach (e::d) X.env)) (backToKw pos (keywordEach [] X.env))):=by rfl):PE X (.Call (.Attribute (.Name x p) m a) (e::d) [] pos) (tCall sp [] E t):=by
 obtain⟨f,y,F,b,c,w⟩:=o.ex;exact ZF n w c (F.mono r) s b .nil v l h i g u
theorem Mj (o:OkI X.prog X.w X.K X.mg X.base CX j x C v sp)(n:Room k X.A)(r:Passes CX X E)(g:PA X (e::a) t)(m:j+1<=k:=by decide)(l:Gl X x:=by rfl)(h:(x == ("__debug__":Str))=false:=by decide)
  (i:starEach (e::a) X.env=(false,eval e X.env)::starEach a X.env:=by rfl) (d:(backTo pos (starEach a X.env)).any (·.1)=false:=by rfl):PE X (.Call (.Name x p) (e::a) [] pos) (tMake C sp [] E t):=by
 obtain⟨f,u,F,b,c,s⟩:=o.ex;exact pe_make c F (n.mono m) l s b .nil r g h i d
theorem S5 (o:OkI X.prog X.w X.K X.mg X.base CX j x C l sp)(e:Room k X.A)(g:Passes CX X E)(d:j+1<=k:=by decide)(a:Gl X x:=by rfl)(h:(x == ("__debug__":Str))=false:=by decide):PE X (.Call (.Name x p) [] [] pos) (tMake C sp [] E tNil):=by obtain⟨f,i,F,b,c,m⟩:=o.ex;exact pe_make0 c F (e.mono d) a m b .nil g h
def spS (K:Fg)(n:Nat)(pre:List Int->List Int->Prop)(F:List Int->List Int->Int):Sp:=λv H Q _=>∃(a:Addr) (xs i:List Int),i.length=n/\v=.ref a::i.map V.int/\SqL K H a (xs.map V.int)/\pre xs i/\Q (.int (F xs i)) H
def Ar:List Str:=["plain","plus","less","times","over"]
def Yi (e d c:Addr)(H:Hp)(a:Addr)(z:Int):Prop:=∃C f fs,H a=so (.ins C f fs)/\((C=e/\z=0)\/((C=d\/C=c)/\0<z))/\fs.lookup ("size":Str)=so (.int z)/\∀m∈Ar,fs.lookup m=none
theorem Yi.same (k:Yi cW cR cP H a z)(s:Same H h):Yi cW cR cP h a z:=by obtain⟨C,d,fs,e,r⟩:=k;exact(C,d,fs,s _ _ e,r)
def pl (z n:Int):Int:=if z=0 then n else n % z
theorem nU (h:0<z):pl z n=n % z:=by unfold pl;rw[aF ()]
theorem Inv.Cu {ch:List Addr}{t':Nat}(I:Inv X p t H s)(a:∀b∈ch,FpOk X p H b)(k:∀b o,b∉ch->s.heap.get? b=so o->h'.get? b=so o):Inv X p t H { s with heap:=h',toks:=t' }:=by
 have d:∀b u,H b=so u->b∉ch:=λb u e z=>by rw[(a b z).1]at e;cases e
 refine I.step (g':=s.gens) (d':=s.drawn) (ch:=ch) (λb f=>((a b f).2.2.2.1,(a b f).2.1,(a b f).2.2.2.2.1,(a b f).2.2.2.2.2)) (λb o _ _ h e _=>k b o h e) (λb o _ _ h e _=>(o.slots,k b o h e)) (λ_ _ _ _ n=>n)
  (λb o h e=>(o,k b o h e)) (λ_ _ e=>e) (λ_ _ _ e=>e) (λb w e=>(#[],by rw[e];simp)) (λm j=>?_) (λb u e=>?_) I.bare
 .obtain⟨o,i,g,l,r⟩:=j;exact(o,i,g,k _ o (λz=>(a _ z).2.1 rz) l,r)
 .refine(I.hok b u e).stay (λc v h q=>k c v ?_ q) (λ_ q=>q) λ_ _ q=>q;rcases h with z|z
  .rw[z];exact d b u e
  .exact d c _ z
theorem Inv.track (I:Inv X a B H s)(f:FpOk X a H T)(new:ObjOk X.prog X.w (upd H T o) s.heap T o):Inv X a B (upd H T o) s:=by
 obtain⟨l,r,C,t,v,w⟩:=f;have g:∀{b:Addr} {u:HO},H b=so u->b≠T:=λe=>ne_of_none e l;refine(I.ok,I.os,I.bare,(I.base.keep,I.base.slot,λb ob e n x=>?_,I.base.there,λb xs e=>?_,λb ob u e=>?_,λb A e=>?_),I.loc,I.cell,by rw[upd_ne (de r)];exact I.free,λx c e=>?_,λp h=>?_,λb u e=>?_,I.len)
 .have y:b≠T:=λz=>by
   subst z;rcases t with z|z
   .exact x z
   .exact absurd (aQ (aE e) z) (cE _)
  rw[upd_ne y];exact I.base.free b ob e n x
 .have q:=I.base.tups b xs e;rw[upd_ne (g q)];exact q
 .have q:=I.base.frzs b ob u e;rw[upd_ne (g q)];exact q
 .obtain⟨m,q⟩:=I.base.tbls b A e;exact(m,by rw[upd_ne (g q)];exact q)
 .rw[upd_ne (v x c e)];exact I.freeC x c e
 .obtain⟨i,j,k⟩:=I.pin p h;exact(i,by rw[upd_ne (w p h)];exact j,k)
 .by_cases c:b=T
  .subst c;rw[upd_same]at e;cases e;exact new
  .rw[upd_ne c]at e;exact(I.hok b u e).stay (λ_ _ _ q=>q) (λd q=>by rw[upd_ne (g q)];exact q) (λd xs q=>by rw[upd_ne (g q)];exact q) λd _ _ q=>by rw[upd_ne (g q)];exact q
def Ite (K:Fg)(a:Addr):It:=
 (λi H=>∃xs x,SqL K H a xs/\xs[i]?=so x,λi H v h=>∃T y,v=.ref T/\H T=none/\h=upd H T (.tup [.int i,y])/\∀xs,SqL K H a xs->xs[i]?=so y,λi H=>∃xs,SqL K H a xs/\xs.length<=i)
theorem TJ {P:Program}{w:World}{K:Fg}{F:List Expr}{kk:Nat}{tp:Pos}(a e l:Addr)(B:e≠l):Turn P w K (.Tuple F kk tp) (Ite K a) [e,l] e (λi h=>(∃c,IsEnum h e l i c)/\h.IsListIter l a i) where
 mem:=by simp
 obj:=λi h m b d=>by
  obtain⟨⟨c,j⟩,o,N,_,hd⟩:=m;rcases aG.mp d with rfl|d
  .exact(_,j,λv z=>by cases z)
  .have q:b=l:=by simpa using d
   subst q;exact(o,N,λv z=>by rw[hd]at z;cases z)
 keep:=λi h h' m k=>by obtain⟨⟨c,j⟩,f⟩:=m;exact((c,k e (by simp) _ j),f.at λo q=>k l (by simp) o q)
 item:=by
  intro X J O G hc i g s σ H E I C m M;subst J O G;obtain⟨xs,x,D,R⟩:=M;obtain⟨⟨c,j⟩,f⟩:=m;obtain⟨S,T,p,hz⟩:=I.list D;obtain⟨u,hu,ru⟩:=T.get R;refine wpAny_pyNext_enum_item j f p.isList (x:=u) (by simpa using hu) B λh1 N y hT hsz hk=>(_,rz,?_);refine wpAny_letOwnedTupleGo_enum N λh2 L n=>?_;have U:s.heap.objs.size≠e:=d8 (aE j);have t:∀b o,b∉[e,l]->s.heap.get? b=so o->h2.get? b=so o:=λb o d q=>by have Y:b≠e:=λz=>d (by simp[z]);have b2:b≠l:=λz=>d (by simp[z]);exact(n.2 b Y).trans (hk b o Y b2 q)
  have I1:Inv X g σ H { s with heap:=h2,toks:=s.toks+1 }:=I.Cu C t;have Z:FpOk X g H s.heap.objs.size:=I.fpOk (ao _) (I.hok.fresh (ao _));have I2:=I1.track (o:=.tup [.int i,x]) Z (((()):2<=sizeLine),[.int i s.toks,u],.cons (_,rz) (.cons ru .nil),(_,(n.2 _ U).trans hT,rz,_,rz));refine(.ref s.heap.objs.size,_,I2,rz,(_,x,rz,Z.1,rz,λys hy=>by rw[I.list_inj hy D];exact R),((_,by exact_mod_cast L),?_),λb d=>?_)
  .obtain⟨o,q,r⟩:=y;exact(o,(n.2 l (de B)).trans q,r)
  .rw[upd_ne]
   .exact(C b d).1
   .rcases aG.mp d with rfl|d
    .exact de U
    .have q:b=l:=by simpa using d
     subst q;obtain⟨o,q,_⟩:=f;exact aZ (aE q)
 done:=by intro X J O G hc i g s σ H E I C m M;subst J O G;obtain⟨xs,D,R⟩:=M;obtain⟨⟨c,j⟩,f⟩:=m;obtain⟨S,T,p,hz⟩:=I.list D;have hl:=T.length;exact wpAny_pyNext_enum_end (I.ok.hd hc) j f p.isList (by simp;lia) λh1 eb=>(rz,I.Cu C λb o d q=>eb b o (λz=>d (by simp[z])) q)
 self:=λA i s Q E m h=>by obtain⟨⟨c,j⟩,_⟩:=m;exact wpAny_pyIter_enum j h
theorem Jh:bootBuiltins "enumerate"=so (.type "enumerate"):=by decide +kernel
def WK (K:Fg)(t:TA):TI:=λc H R=>t c H λv h=>∃a,v=[.ref a]/\(∃xs,SqL K h a xs)/\R (Ite K a) h
theorem CP {X:Cx}{f:List Expr}{D:Nat}{L:Pos}{l:Expr}{t:TA}{p pos:Pos}(w:Gl X "enumerate")(y:X.mg "enumerate"=none)(v:PA X [l] t)(A:starEach [l] X.env=[(false,eval l X.env)]:=by rfl) :
  PI X (.Tuple f D L) (.Call (.Name "enumerate" p) [l] [] pos) (WK X.K t):=by
 intro c s n H R I h;refine Call_ (ld_blt I w y Jh (cH (thn (v pos c s n H _ I h) λO d (P,k,i,G,F)=>?_) A rz));obtain⟨a,rfl,⟨xs,z⟩,q⟩:=F;obtain⟨u,rfl,J⟩:=vals1 G;cases J;obtain⟨C,N,E,M⟩:=i.list z;refine call_enumerate_list E.isList λr m j B x=>?_;refine wpAny_pyIter_enum m ?_;have o:Inv X c n k { d with heap:=r }:=i.kept (t':=d.toks) x;refine(_,[d.heap.objs.size+1,d.heap.objs.size],_,_,k,rz,o,TJ a (d.heap.objs.size+1) d.heap.objs.size (Nat.succ_ne_self _),((_,m),j),λb g=>?_,q);rcases aG.mp g with rfl|g
 .exact i.fpOk (jn _) (i.hok.fresh (jn _))
 .have e:b=d.heap.objs.size:=by simpa using g
  subst e;exact i.fpOk (ao _) (i.hok.fresh (ao _))
theorem M8 {K:Fg}{a:Addr}{xs:List V}{g:TG}{t:TS}{D:Ends}{c:St}{H:Hp}(P:Nat->St->Hp->Prop)(h0:P 0 c H)(hl:∀i c H,i<=xs.length->P i c H->SqL K H a xs)
  (s:∀i x c H T,xs[i]?=so x->P i c H->H T=none->g (.ref T) c (upd H T (.tup [.int i,x])) λf k=>t { D with nx:=P (i+1),ct:=P (i+1),bk:=D.nx } f k) (o:∀c H,P xs.length c H->D.nx c H) :
  ∃W:Nat->Nat->St->Hp->Prop,(∃m,W 0 m c H)/\∀i m c H,W i m c H ->
   ((Ite K a).stop i H/\D.nx c H)\/((Ite K a).go i H/\∃N:St->Hp->Prop,(∀d h,N d h -> ∃l,l<m/\W (i+1) l d h)/\∀x h,(Ite K a).yld i H x h -> g x c h λf k=>t { D with nx:=N,ct:=N,bk:=D.nx } f k):=by
 refine(λi m c H=>m=xs.length-i/\i<=xs.length/\P i c H,(xs.length,by simp,bp _,h0),?_);rintro i m c H ⟨rfl,r,p⟩;have q:=hl i c H r p;by_cases j:i<xs.length
 .refine .inr ((xs,xs[i],q,by simp[j]),P (i+1),λd h v=>(xs.length-(i+1),(),rz,j,v),λx h y=>?_);obtain⟨T,z,rfl,n,rfl,u⟩:=y;exact s i z c H T (u xs q) p n
 .have e:i=xs.length:=()
  subst e;exact .inl ((xs,q,ao _),o c H p)
theorem int_at {ns:Li}{i:Nat}{x:V}(h:(ns.map V.int)[i]?=so x):∃n,x=.int n/\ns[i]?=so n:=by
 rw[ag]at h;cases e:ns[i]? with
 |none=>rw[e]at h;cases h
 |some n=>rw[e]at h;exact(n,(aJ h).symm,rz)
theorem V4 {ns:Li}{i:Nat}{n:Int}(h:ns[i]?=so n):n∈ns:=aP h
theorem W9 {a:Type}{ns:List a}{i:Nat}{n:a}(h:ns[i]?=so n):i<ns.length:=(ah.mp h).1
theorem pY {a:Type}{ns:List a}{i:Nat}{n:a}(h:ns[i]?=so n):ns.take (i+1)=ns.take i++[n]:=by rw[List.take_add_one,h];rfl
abbrev uU:TT:=λ_ H Q=>Q true H
end L2
namespace FM
open L2
def mR (n:Int):Prop:=2<=n/\n<=9973/\∀d:Int,2<=d->d*d<=n->¬n % d=0
open Classical in
def Nr (n:Int):Bool:=decide (mR n)
open Classical in
theorem Ga (h:mR n):Nr n=true:=by unfold Nr;exact bc h
open Classical in
theorem Hc (h:¬mR n):Nr n=false:=by unfold Nr;exact aN h
open Classical in
theorem Cv:Nr n=true ↔ mR n:=by unfold Nr;exact cJ
def Nk (n d:Int):Prop:=∀e:Int,2<=e->e<d->¬n % e=0
theorem Nk.next (h:Nk n d)(f:¬n % d=0):Nk n (d+1):=λe a g=>by
 by_cases c:e=d
 .rw[c];exact f
 .exact h e a ()
theorem adp {d:Int}(h:2<=d):d<=d*d:=by have:=aH (show(1:Int)<=d by lia) (show(0:Int)<=d by lia);lia
theorem CT {d e:Int}(h0:0<=d)(h:d<=e):d*d<=e*e:=gT h h h0 ()
theorem mR.out {n d:Int}(h:Nk n d)(g:2<=d)(l:2<=n)(f:n<=9973)(i:¬d*d<=n):mR n:=(l,f,λe a j=>by
 by_cases c:e<d
 .exact h e a c
 .have:=CT (d:=d) (e:=e) () ();lia)
theorem aeB:mR 2:=((),(),λd h a=>by have:=CT (d:=2) (e:=d) () h;lia)
def F_P:List Int->Bool:=λa=>match a with
 |[n]=>Nr n
 |_=>false
def yes:List Int->Prop:=λ_=>True
theorem uf (z n:Int):pl z (pl z n)=pl z n:=by
 unfold pl;by_cases h:z=0
 .rw[aL h,aL h]
 .rw[aF h,aF h,dG _ (eX z)]
theorem PX (z a b:Int):pl z (pl z a+b)=pl z (a+b):=by
 unfold pl;by_cases h:z=0
 .rw[aL h,aL h,aL h]
 .rw[aF h,aF h,aF h,Int.emod_add_emod]
theorem yp (z a b:Int):pl z (pl z a*b)=pl z (a*b):=by
 unfold pl;by_cases h:z=0
 .rw[aL h,aL h,aL h]
 .rw[aF h,aF h,aF h,fO,dG _ (eX z),<-fO]
theorem uY (z a b:Int):pl z (a*pl z b)=pl z (a*b):=by rw[bZ,yp,bZ]
theorem Q6 (z a b:Int):pl z (a+pl z b)=pl z (a+b):=by rw[jd,PX,jd]
theorem RL (h:0<z):0<=pl z n/\pl z n<z:=by rw[nU h];exact(a8 _ (),aV _ h)
def jy (xs:List Int):List Int:=(xs.reverse.dropWhile (· == 0)).reverse
theorem yo (xs:Li):jy (xs++[0])=jy xs:=by unfold jy;rw[iX];simp
theorem Ec (xs:Li)(h:x≠0):jy (xs++[x])=xs++[x]:=by unfold jy;rw[iX];simp[h]
theorem lz (xs:Li):(jy xs).length<=xs.length:=by unfold jy;have:=(iB (· == 0) (l:=xs.reverse)).length_le;simpa using this
theorem FZ {x:Int}{X:Nat}(h:x.natAbs<=X)(k:Nat):(x^k).natAbs<=X^k:=by rw[iU];exact Nat.pow_le_pow_left h k
def ev:List Int->Int->Int
 |[],_=>0
 |n::r,x=>n+x*ev r x
end FM
namespace L3
open PySem PySem.Spec PyProof.Rows L2
inductive PV where
 |int (n:Int)|bl (b:Bool)|non|str (s:Str)|ints (ns:List Int)|scr (ns:List Int)|lst (xs:List PV)|tup (xs:List PV)|ob (k:Nat) (z:Int)|ty (n:String)|cls (a:Addr)
structure Gx where
 ob:Nat->Hp->Addr->Int->Prop
 mono:∀k H H' a z,Same H H' -> ob k H a z->ob k H' a z
mutual
def At (K:Fg)(G:Gx)(H:Hp):PV->V->Prop
 | .int n,v=>v=.int n
 | .bl b,v=>v=.bl b
 | .non,v=>v=.non
 | .str s,v=>v=.str s
 | .ints ns,v=>∃a,v=.ref a/\Rd H a (.lst (ns.map V.int))
 | .scr ns,v=>∃a,v=.ref a/\SqL K H a (ns.map V.int)
 | .lst xs,v=>∃a c,v=.ref a/\Rd H a (.lst c)/\my K G H xs c
 | .tup xs,v=>∃a c,v=.ref a/\H a=so (.tup c)/\my K G H xs c
 | .ob k z,v=>∃a,v=.ref a/\G.ob k H a z
 | .ty n,v=>v=.ty n
 | .cls a,v=>v=.ref a
def my (K:Fg)(G:Gx)(H:Hp):List PV->List V->Prop
 |[],vs=>vs=[]
 |p::ps,vs=>∃v r,vs=v::r/\At K G H p v/\my K G H ps r
end
theorem jK (e:Same H c)(h:Rd H a (.lst xs)):Rd c a (.lst xs):=by
 rcases h with h|⟨o,h⟩
 .exact .inl (e _ _ h)
 .exact .inr (o,e _ _ h)
theorem aaR {K:Fg}{H:Hp}{a:Addr}{xs:List V}(h:Rd H a (.lst xs)):SqL K H a xs:=.inl h
theorem Ms {K:Fg}{H c:Hp}{a:Addr}{xs:List V}(e:Same H c)(h:SqT K H a xs):SqT K c a xs:=by
 rcases h with (h|⟨o,h⟩)|h
 .exact .inl (.inl (e _ _ h))
 .exact .inl (.inr (o,e _ _ h))
 .exact .inr h
mutual
theorem At.mono {K:Fg}{G:Gx}{H d:Hp}(s:Same H d):∀(p:PV) (v:V),At K G H p v->At K G d p v
 | .int _,_,h=>h
 | .bl _,_,h=>h
 | .non,_,h=>h
 | .str _,_,h=>h
 | .ints _,_,h=>by obtain⟨a,e,q⟩:=h;exact(a,e,jK s q)
 | .scr _,_,h=>by obtain⟨a,e,q⟩:=h;exact(a,e,s.seq q)
 | .lst xs,_,h=>by obtain⟨a,c,e,q,r⟩:=h;exact(a,c,e,jK s q,my.mono s xs c r)
 | .tup xs,_,h=>by obtain⟨a,c,e,q,r⟩:=h;exact(a,c,e,s _ _ q,my.mono s xs c r)
 | .ob _ _,_,h=>by obtain⟨a,e,q⟩:=h;exact(a,e,G.mono _ _ _ _ _ s q)
 | .ty _,_,h=>h
 | .cls _,_,h=>h
theorem my.mono {K:Fg}{G:Gx}{H c:Hp}(s:Same H c):∀(a:List PV) (vs:List V),my K G H a vs->my K G c a vs
 |[],_,h=>h
 |p::a,_,h=>by obtain⟨v,r,e,q,t⟩:=h;exact(v,r,e,At.mono s p v q,my.mono s a r t)
end
theorem my.length {K:Fg}{G:Gx}{H:Hp}:∀{a:List PV} {vs:List V},my K G H a vs->a.length=vs.length
 |[],_,h=>by cases h;rfl
 |p::a,_,h=>by obtain⟨v,r,rfl,_,t⟩:=h;rw[bC,bC,my.length t]
theorem my.get {K:Fg}{G:Gx}{H:Hp}:∀{a:List PV} {vs:List V} {i:Nat} {v:V},my K G H a vs->vs[i]?=so v->∃p,a[i]?=so p/\At K G H p v
 |[],_,i,v,h,e=>by cases h;simp at e
 |p::a,_,0,v,h,e=>by obtain⟨w,r,rfl,q,t⟩:=h;simp at e;subst e;exact(p,rz,q)
 |p::a,_,i+1,v,h,e=>by obtain⟨w,r,rfl,q,t⟩:=h;obtain⟨d,c,f⟩:=my.get (i:=i) (v:=v) t (by simpa using e);exact(d,by simpa using c,f)
theorem my.at {K:Fg}{G:Gx}{H:Hp}:∀{a:List PV} {vs:List V} {i:Nat} {p:PV},my K G H a vs->a[i]?=so p->∃v,vs[i]?=so v/\At K G H p v
 |[],_,i,v,h,e=>by simp at e
 |p::a,_,0,v,h,e=>by obtain⟨w,r,rfl,q,t⟩:=h;simp at e;subst e;exact(w,rz,q)
 |p::a,_,i+1,v,h,e=>by obtain⟨w,r,rfl,q,t⟩:=h;obtain⟨f,c,d⟩:=my.at (i:=i) (p:=v) t (by simpa using e);exact(f,by simpa using c,d)
theorem my.snoc {K:Fg}{G:Gx}{H:Hp}{p:PV}{v:V}:∀{a:List PV} {vs:List V},my K G H a vs->At K G H p v->my K G H (a++[p]) (vs++[v])
 |[],_,h,q=>by cases h;exact(v,[],rz,q,rz)
 |p'::a,_,h,q=>by obtain⟨w,r,rfl,c,t⟩:=h;exact(w,_,rz,c,my.snoc t q)
def mn (H:Hp)(O:Addr->Bool):Hp:=λb=>if O b=true then none else H b
theorem t8 (h:mn H O b=so o):O b=false/\H b=so o:=by
 unfold mn at h;by_cases c:O b=true
 .rw[aL c]at h;cases h
 .rw[aF c]at h;exact(by simpa using c,h)
theorem pB (h:O b=false):mn H O b=H b:=by unfold mn;rw[aF (by rw[h];decide)]
theorem jZ:Same (mn H O) H:=uL λ_ _ h=>(t8 h).2
theorem lG (s:Same H a):Same (mn H O) (mn a O):=λb o h=>by obtain⟨c,e⟩:=t8 h;rw[pB c];exact s b o e
theorem qX (k:∀a,O a=true->O' a=true):Same (mn H O') (mn H O):=uL λb o h=>by
 obtain⟨c,e⟩:=t8 h;have:O b=false:=by
  cases z:O b with
  |false=>rfl
  |true=>rw[k b z]at c;cases c
 rw[pB this];exact e
def hide (a:Addr)(O:Addr->Bool):Addr->Bool:=λb=>b == a || O b
theorem hide_ne (h:b≠a):hide a O b=O b:=by unfold hide;simp[h]
theorem hide_self:hide a O a=true:=by unfold hide;simp
theorem oX:∀b,O b=true->hide a O b=true:=λb h=>by unfold hide;simp[h]
theorem mO (s:Same H d)(f:H a=none):Same (mn H O) (mn d (hide a O)):=λb o h=>by obtain⟨c,e⟩:=t8 h;rw[pB (by rw[hide_ne (ne_of_none e f)];exact c)];exact s b o e
theorem vO (h:O a=true):mn (upd H a o) O=mn H O:=by
 funext b;unfold mn;by_cases c:O b=true
 .rw[aL c,aL c]
 .rw[aF c,aF c,upd_ne (λz=>c (by rw[z];exact h))]
inductive Sl where
 |un|fr (p:PV)|ow (p:PV)|o2 (xss:List (List Int))
abbrev En:=List Sl
structure Bs where
 H0:Hp
 Oc:Addr->Bool
def HX (K:Fg)(G:Gx)(H:Hp):PV->List V->Prop
 | .ints ns,vs=>vs=ns.map V.int
 | .lst xs,vs=>my K G H xs vs
 |_,_=>False
theorem HX.mono {K:Fg}{G:Gx}{H a:Hp}(s:Same H a){p:PV}{vs:List V}(h:HX K G H p vs):HX K G a p vs:=by cases p<;>first|exact h|exact my.mono s _ _ h
def yg (H:Hp)(as:List Addr)(xss:List (List Int)):Prop:=as.length=xss.length/\∀(k:Nat) a,as[k]?=so a->H a=so (.lst ((xss[k]'[]).map V.int))
theorem yg.mono {H c:Hp}{as:List Addr}{xss:List (List Int)}(s:Same H c)(h:yg H as xss):yg c as xss:=(h.1,λk a e=>s _ _ (h.2 k a e))
theorem yg.has {H:Hp}{as:List Addr}{xss:List (List Int)}(h:yg H as xss){a:Addr}(m:a∈as):H a≠none:=λz=>by obtain⟨k,e⟩:=eh.mp m;rw[h.2 k a e]at z;cases z
structure TX (B:Bs)(σ:L2.St)(H:Hp)(ρ:En)(O:Addr->Bool)(i:Nat)(xss:List (List Int))(D:Addr)(as:List Addr):Prop where
 at_:σ[i]?=so (so (.ref D))
 oD:O D=true
 nD:B.H0 D=none
 hD:H D=so (.lst (as.map V.ref))
 el:∀a∈as,O a=true/\B.H0 a=none
 ea:yg H as xss
 nd:as.Nodup
 un:∀(j:Nat) q c,ρ[j]?=so (.ow q)->σ[j]?=so (so (.ref c))->c≠D/\c∉as
 one:∀(j:Nat) xss',ρ[j]?=so (.o2 xss')->j=i
structure Rep (K:Fg)(G:Gx)(B:Bs)(σ:L2.St)(H:Hp)(ρ:En)(O:Addr->Bool):Prop where
 same:Same B.H0 H
 cd:∀a,B.Oc a=true->B.H0 a≠none
 hid:∀a,B.Oc a=true->O a=true
 dom:∀a,O a=true->H a≠none
 vis:∀a,O a=true->B.Oc a=true\/B.H0 a=none
 fr:∀(i:Nat) p,ρ[i]?=so (.fr p)->∃v,σ[i]?=so (so v)/\At K G (mn H O) p v
 ow:∀(i:Nat) p,ρ[i]?=so (.ow p)->∃a vs,σ[i]?=so (so (.ref a))/\O a=true/\B.H0 a=none/\H a=so (.lst vs)/\HX K G (mn H O) p vs
 inj:∀(i j:Nat) p q a,ρ[i]?=so (.ow p)->ρ[j]?=so (.ow q)->σ[i]?=so (so (.ref a))->σ[j]?=so (so (.ref a))->i=j
 len:σ.length=ρ.length
 o2:∀(i:Nat) xss,ρ[i]?=so (.o2 xss)->∃D as,TX B σ H ρ O i xss D as
section
variable {K:Fg}{G:Gx}{B:Bs}{f:L2.St}{H g:Hp}{d:En}{O:Addr->Bool}{i:Nat}
theorem Rep.grow (R:Rep K G B f H d O)(s:Same H g):Rep K G B f g d O:=by
 refine(R.same.trans s,R.cd,R.hid,λa h z=>R.dom a h (s.free z),R.vis,λi p e=>?_,λi p e=>?_,R.inj,R.len,λi x e=>let (D,as,q):=R.o2 i x e;(D,as,q.at_,q.oD,q.nD,s _ _ q.hD,q.el,q.ea.mono s,q.nd,q.un,q.one))
 .obtain⟨v,c,j⟩:=R.fr i p e;exact(v,c,At.mono (lG s) _ _ j)
 .obtain⟨a,n,c,j,k,l,m⟩:=R.ow i p e;exact(a,n,c,j,k,s _ _ l,m.mono (lG s))
theorem jY {e:Type}{l:List e}{i j:Nat}{x y:e}(h:(l.set i x)[j]?=so y):(i=j/\y=x/\i<l.length)\/(i≠j/\l[j]?=so y):=by
 rw[g7]at h;by_cases c:i=j
 .rw[aL c]at h;by_cases a:i<l.length
  .rw[aL a]at h;exact .inl (c,(aJ h).symm,a)
  .rw[aF a]at h;cases h
 .rw[aF c]at h;exact .inr (c,h)
theorem nH {a:Type}{l:List a}{i j:Nat}{x:a}(h:i≠j):(l.set i x)[j]?=l[j]?:=by rw[g7,aF h]
theorem wj {a:Type}{l:List a}{i:Nat}{x:a}(h:i<l.length):(l.set i x)[i]?=so x:=by rw[g7,aL rz,aL h]
theorem Rep.set (R:Rep K G B f H d O){p:PV}{v:V}(h:At K G (mn H O) p v):Rep K G B (f.set i (so v)) H (d.set i (.fr p)) O:=by
 refine(R.same,R.cd,R.hid,R.dom,R.vis,λj q e=>?_,λj q e=>?_,λj k q r a o s w y=>?_,by rw[bn,bn];exact R.len,λj u e=>?_)
 .rcases jY e with⟨rfl,e,l⟩|⟨n,e⟩
  .cases e;exact(v,wj (by rw[R.len];exact l),h)
  .rw[nH n];exact R.fr j q e
 .rcases jY e with⟨rfl,e,l⟩|⟨n,e⟩
  .cases e
  .rw[nH n];exact R.ow j q e
 .rcases jY o with⟨rfl,e,l⟩|⟨n,e⟩
  .cases e
  .rcases jY s with⟨rfl,m,A⟩|⟨t,m⟩
   .cases m
   .rw[nH n]at w;rw[nH t]at y;exact R.inj j k q r a e m w y
 .rcases jY e with⟨rfl,e,l⟩|⟨n,e⟩
  .cases e
  .obtain⟨D,z,q⟩:=R.o2 j u e;refine(D,z,by rw[nH n];exact q.at_,q.oD,q.nD,q.hD,q.el,q.ea,q.nd,λk r c o s=>?_,λk x o=>?_)
   .rcases jY o with⟨_,m,_⟩|⟨t,m⟩
    .cases m
    .rw[nH t]at s;exact q.un k r c m s
   .rcases jY o with⟨_,m,_⟩|⟨t,m⟩
    .cases m
    .exact q.one k x m
theorem Rep.new (R:Rep K G B f H d O){p:PV}{a:Addr}{vs:List V}(s:Same H g)(A:H a=none)(M:g a=so (.lst vs))(h:HX K G (mn g (hide a O)) p vs):Rep K G B (f.set i (so (.ref a))) g (d.set i (.ow p)) (hide a O):=by
 refine(R.same.trans s,R.cd,λb z=>oX b (R.hid b z),λb z y=>?_,λb z=>?_,λj q e=>?_,λj q e=>?_,λj k q r b t u x w=>?_,by rw[bn,bn];exact R.len,λj J e=>?_)
 .by_cases c:b=a
  .subst c;rw[M]at y;cases y
  .rw[hide_ne c]at z;exact R.dom b z (s.free y)
 .by_cases c:b=a
  .subst c;exact .inr (R.same.free A)
  .rw[hide_ne c]at z;exact R.vis b z
 .rcases jY e with⟨rfl,e,l⟩|⟨n,e⟩
  .cases e
  .obtain⟨v,t,u⟩:=R.fr j q e;exact(v,by rw[nH n];exact t,At.mono (mO s A) _ _ u)
 .rcases jY e with⟨rfl,e,l⟩|⟨n,e⟩
  .cases e;exact(a,vs,wj (by rw[R.len];exact l),hide_self,R.same.free A,M,h)
  .obtain⟨b,N,t,u,x,w,Q⟩:=R.ow j q e;exact(b,N,by rw[nH n];exact t,oX b u,x,s _ _ w,Q.mono (mO s A))
 .have E:∀(m:Nat) q,d[m]?=so (.ow q)->f[m]?=so (so (.ref a))->False:=λm q e z=>by obtain⟨b,N,t,_,_,w,_⟩:=R.ow m q e;rw[z]at t;cases t;rw[A]at w;cases w
  rcases jY t with⟨rfl,e,l⟩|⟨n,e⟩
  .rcases jY u with⟨rfl,o,I⟩|⟨C,o⟩
   .rfl
   .rw[wj (by rw[R.len];exact l)]at x;cases x;rw[nH C]at w;exact(E k r o w).elim
  .rcases jY u with⟨rfl,o,I⟩|⟨C,o⟩
   .rw[wj (by rw[R.len];exact I)]at w;cases w;rw[nH n]at x;exact(E j q e x).elim
   .rw[nH n]at x;rw[nH C]at w;exact R.inj j k q r b e o x w
 .rcases jY e with⟨rfl,e,l⟩|⟨n,e⟩
  .cases e
  .obtain⟨D,P,q⟩:=R.o2 j J e;refine(D,P,by rw[nH n];exact q.at_,oX _ q.oD,q.nD,s _ _ q.hD,λb L=>(oX _ (q.el b L).1,(q.el b L).2),q.ea.mono s,q.nd,λk r c t u=>?_,λk F t=>?_)
   .rcases jY t with⟨rfl,o,I⟩|⟨C,o⟩
    .rw[wj (by rw[R.len];exact I)]at u;cases u;exact(de (ne_of_none q.hD A),λz=>q.ea.has z A)
    .rw[nH C]at u;exact q.un k r c o u
   .rcases jY t with⟨_,o,_⟩|⟨C,o⟩
    .cases o
    .exact q.one k F o
theorem Rep.change (R:Rep K G B f H d O){p p':PV}{a:Addr}{vs:List V}(e:d[i]?=so (.ow p))(w:f[i]?=so (so (.ref a)))(h:HX K G (mn H O) p' vs):Rep K G B f (upd H a (.lst vs)) (d.set i (.ow p')) O:=by
 obtain⟨a',us,t,u,E,e4,e5⟩:=R.ow i p e;rw[w]at t;cases t;have hl:i<d.length:=(ah.mp e).1;refine(λb o z=>?_,R.cd,R.hid,λb z y=>?_,R.vis,λj q v=>?_,λj q v=>?_,λj k q r b Q S T U=>?_,by rw[bn];exact R.len,λj C v=>?_)
 .rw[upd_ne (ne_of_none z E)];exact R.same b o z
 .by_cases c:b=a
  .subst c;rw[upd_same]at y;cases y
  .rw[upd_ne c]at y;exact R.dom b z y
 .rw[vO u];rcases jY v with⟨_,l,_⟩|⟨_,l⟩
  .cases l
  .exact R.fr j q l
 .rw[vO u];rcases jY v with⟨rfl,l,_⟩|⟨n,l⟩
  .cases l;exact(a,vs,w,u,E,upd_same,h)
  .obtain⟨b,ws,I,L,M,N,P⟩:=R.ow j q l;refine(b,ws,I,L,M,?_,P);rw[upd_ne]
   .exact N
   .intro z;subst z;exact n (R.inj i j p q b e l w I)
 .have s:∀(m:Nat) q,(d.set i (.ow p'))[m]?=so (.ow q)->∃A,d[m]?=so (.ow A):=λm q z=>by
   rcases jY z with⟨rfl,_,_⟩|⟨_,z⟩
   .exact(p,e)
   .exact(q,z)
  obtain⟨A,y1⟩:=s j q Q;obtain⟨Y,y2⟩:=s k r S;exact R.inj j k A Y b y1 y2 T U
 .rcases jY v with⟨rfl,l,_⟩|⟨n,l⟩
  .cases l
  .obtain⟨D,J,q⟩:=R.o2 j C l;obtain⟨Z,u2⟩:=q.un i p a e w;refine(D,J,q.at_,q.oD,q.nD,by rw[upd_ne (de Z)];exact q.hD,q.el,(q.ea.1,λk b F=>by rw[upd_ne (λz=>u2 (by rw[<-z];exact aP F))];exact q.ea.2 k b F),q.nd,λk r c t u=>?_,λk x t=>?_)
   .rcases jY t with⟨rfl,_,_⟩|⟨_,t⟩
    .exact q.un i p c e u
    .exact q.un k r c t u
   .rcases jY t with⟨_,l,_⟩|⟨n',l⟩
    .cases l
    .exact q.one k x l
def zV (a:Addr)(O:Addr->Bool):Addr->Bool:=λb=>if b=a then false else O b
theorem yU (h:b≠a):zV a O b=O b:=by unfold zV;rw[aF h]
theorem Ij:zV a O a=false:=by unfold zV;rw[aL rfl]
theorem Iu:∀b,zV a O b=true->O b=true:=λb h=>by
 by_cases c:b=a
 .subst c;rw[Ij]at h;cases h
 .rw[yU c]at h;exact h
def frz (d:En)(i:Nat):En:=match d[i]? with
 |some (.ow p)=>d.set i (.fr p)
 |_=>d
theorem Rep.freeze (R:Rep K G B f H d O)(i:Nat):∃J,Rep K G B f H (frz d i) J:=by
 unfold frz;split
 .rename_i p e;obtain⟨a,E,l,I,M,N,o⟩:=R.ow i p e;have m:Same (mn H O) (mn H (zV a O)):=qX Iu;have s:Rd (mn H (zV a O)) a (.lst E):=.inl (by rw[pB Ij];exact N);have T:At K G (mn H (zV a O)) p (.ref a):=by
   cases p<;>first
    |exact False.elim o
    |(have o:=o.mono m;exact(a,E,rz,s,o))
    |(have w:E=_:=o;subst w;exact(a,rz,s))
  refine(zV a O,R.same,R.cd,λb z=>?_,λb z=>R.dom b (Iu b z),λb z=>R.vis b (Iu b z),λj q t=>?_,λj q t=>?_,λj k q r b U Y Z j4=>?_,by rw[bn];exact R.len,λj F t=>?_)
  .rw[yU]
   .exact R.hid b z
   .intro y;subst y;exact R.cd b z M
  .rcases jY t with⟨rfl,h,_⟩|⟨n,h⟩
   .cases h;exact(.ref a,l,T)
   .obtain⟨v,u,A⟩:=R.fr j q h;exact(v,u,At.mono m _ _ A)
  .rcases jY t with⟨rfl,h,_⟩|⟨n,h⟩
   .cases h
   .obtain⟨b,ws,u,A,P,Q,S⟩:=R.ow j q h;refine(b,ws,u,?_,P,Q,S.mono m);rw[yU]
    .exact A
    .intro z;subst z;exact n (R.inj i j p q b e h l u)
  .rcases jY U with⟨_,h,_⟩|⟨_,y1⟩
   .cases h
   .rcases jY Y with⟨_,h,_⟩|⟨_,y2⟩
    .cases h
    .exact R.inj j k q r b y1 y2 Z j4
  .rcases jY t with⟨rfl,h,_⟩|⟨n,h⟩
   .cases h
   .obtain⟨D,L,q⟩:=R.o2 j F h;obtain⟨u1,u2⟩:=q.un i p a e l;refine(D,L,q.at_,by rw[yU (de u1)];exact q.oD,q.nD,q.hD,λb C=>(by rw[yU (λz=>u2 (by rw[<-z];exact C))];exact(q.el b C).1,(q.el b C).2),q.ea,q.nd,λk r c l I=>?_,λk x l=>?_)
    .rcases jY l with⟨_,h,_⟩|⟨_,l⟩
     .cases h
     .exact q.un k r c l I
    .rcases jY l with⟨_,h,_⟩|⟨n',h⟩
     .cases h
     .exact q.one k x h
 .exact(O,R)
def Bs.at (B:Bs)(H:Hp)(O:Addr->Bool):Bs:=(λb=>if (O b && (B.H0 b).isNone)=true then none else H b,B.Oc)
theorem Bs.at_of (h:O b=false\/B.H0 b≠none):(B.at H O).H0 b=H b:=by
 show(if (O b && (B.H0 b).isNone)=true then none else H b)=H b;rw[aF];rcases h with h|h
 .rw[h];simp
 .cases e:B.H0 b with
  |none=>exact absurd e h
  |some o=>simp
theorem Rep.rebase (R:Rep K G B f H d O):Rep K G (B.at H O) f H d O:=by
 refine(λb o z=>?_,λa z=>?_,R.hid,R.dom,λa z=>?_,R.fr,λi p e=>?_,R.inj,R.len,λi x e=>?_)
 .have z:(if (O b && (B.H0 b).isNone)=true then none else H b)=so o:=z;by_cases c:(O b && (B.H0 b).isNone)=true
  .rw[aL c]at z;cases z
  .rw[aF c]at z;exact .of z
 .rw[Bs.at_of (.inr (R.cd a z))];exact R.dom a (R.hid a z)
 .rcases R.vis a z with y|y
  .exact .inl y
  .refine .inr ?_;show(if (O a && (B.H0 a).isNone)=true then none else H a)=none;rw[aL (by rw[z,y];rfl)]
 .obtain⟨a,v,l,j,m,n,r⟩:=R.ow i p e;refine(a,v,l,j,?_,n,r);show(if (O a && (B.H0 a).isNone)=true then none else H a)=none;rw[aL (by rw[j,m];rfl)]
 .obtain⟨D,k,q⟩:=R.o2 i x e;have z:∀c,O c=true->B.H0 c=none->(B.at H O).H0 c=none:=λc s t=>by show(if (O c && (B.H0 c).isNone)=true then none else H c)=none;rw[aL (by rw[s,t];rfl)]
  exact(D,k,q.at_,q.oD,z D q.oD q.nD,q.hD,λb h=>((q.el b h).1,z b (q.el b h).1 (q.el b h).2),q.ea,q.nd,q.un,q.one)
theorem Rep.pN (R:Rep K G B f H d O):Same B.H0 (B.at H O).H0:=λb o z=>by rw[Bs.at_of (.inr (by rw[z];exact λy=>by cases y))];exact R.same b o z
theorem Rep.sX (B:Bs)(H:Hp)(O:Addr->Bool):Same (mn H O) (B.at H O).H0:=uL λb o z=>by obtain⟨c,e⟩:=t8 z;rw[Bs.at_of (.inl c)];exact e
theorem Rep.O9 {c:L2.St}{ρ':En}{o:Addr->Bool}(R:Rep K G B f H d O)(r:Rep K G (B.at H O) c g ρ' o):Rep K G B c g ρ' o:=by
 refine(R.pN.trans r.same,R.cd,r.hid,r.dom,λa z=>(r.vis a z).imp id λy=>R.pN.free y,r.fr,λi p e=>?_,r.inj,r.len,λi x e=>?_)
 .obtain⟨a,v,k,l,m,n,s⟩:=r.ow i p e;exact(a,v,k,l,R.pN.free m,n,s)
 .obtain⟨D,j,q⟩:=r.o2 i x e;exact(D,j,q.at_,q.oD,R.pN.free q.nD,q.hD,λb h=>((q.el b h).1,R.pN.free (q.el b h).2),q.ea,q.nd,q.un,q.one)
theorem Rep.seen (R:Rep K G B f H d O)(r:Rep K G (B.at H O) σ' g ρ' O'):Same (mn H O) (mn g O'):=λb o z=>by
 obtain⟨c,e⟩:=t8 z;have a:(B.at H O).H0 b=so o:=by rw[Bs.at_of (.inl c)];exact e
 rw[pB]
 .exact r.same b o a
 .cases y:O' b with
  |false=>rfl
  |true=>
   rcases r.vis b y with y|y
   .rw[R.hid b y]at c;cases c
   .rw[a]at y;cases y
end
def vQ (a:En)(i:Nat):Int:=match a[i]? with
 |some (.fr (.int n))=>n
 |_=>0
def isI (a:En)(i:Nat):Prop:=a[i]?=so (.fr (.int (vQ a i)))
def getL (a:En)(i:Nat):List Int:=match a[i]? with
 |some (.fr (.ints ns))=>ns
 |some (.ow (.ints ns))=>ns
 |some (.fr (.scr ns))=>ns
 |_=>[]
def isL (a:En)(i:Nat):Prop:=a[i]?=so (.fr (.ints (getL a i)))
def Z5 (a:En)(i:Nat):Prop:=a[i]?=so (.ow (.ints (getL a i)))
def Py (a:En)(i:Nat):Prop:=isL a i\/Z5 a i\/a[i]?=so (.fr (.scr (getL a i)))
def yr (a:En)(i:Nat):PV:=match a[i]? with
 |some (.fr p)=>p
 |some (.ow p)=>p
 |_=>.non
def isF (a:En)(i:Nat):Prop:=a[i]?=so (.fr (yr a i))
def adb (a:En)(i:Nat):Str:=match a[i]? with
 |some (.fr (.str s))=>s
 |_=>Str.empty
def isS (a:En)(i:Nat):Prop:=a[i]?=so (.fr (.str (adb a i)))
def ac8 (a:En)(i:Nat):Bool:=match a[i]? with
 |some (.fr (.bl b))=>b
 |_=>false
def isB (a:En)(i:Nat):Prop:=a[i]?=so (.fr (.bl (ac8 a i)))
section
variable {K:Fg}{G:Gx}{B:Bs}{d:L2.St}{H e:Hp}{c:En}{O:Addr->Bool}{i:Nat}
theorem Rep.W2 (R:Rep K G B d H c O)(h:Py c i):∃a,d[i]?=so (so (.ref a))/\SqL K H a ((getL c i).map V.int):=by
 rcases h with h|h|h
 .obtain⟨v,f,a,g,j⟩:=R.fr i _ h;subst g;exact(a,f,.inl (jK jZ j))
 .obtain⟨a,m,f,g,j,k,l⟩:=R.ow i _ h;subst l;exact(a,f,.inl (.inl k))
 .obtain⟨v,f,a,g,j⟩:=R.fr i _ h;subst g;exact(a,f,jZ.seq j)
end
def tX (K:Fg)(G:Gx)(C:En->Prop)(g:En->PV):TE:=λc H Q=>∃B a O,Rep K G B c H a O/\C a/\∀v h,Same H h -> At K G (mn h O) (g a) v->Q v h
def CQ (K:Fg)(G:Gx)(C:En->Prop)(g:En->List Int):TE:=λd H Q=>∃B c O,Rep K G B d H c O/\C c/\∀a h,Same H h -> H a=none->h a=so (.lst ((g c).map V.int))->Q (.ref a) h
def yE (K:Fg)(G:Gx)(C:En->Prop)(g:En->List PV):TE:=λd H Q=>∃B c O,Rep K G B d H c O/\C c/\∀a v h,Same H h -> H a=none->h a=so (.lst v)->my K G (mn h (hide a O)) (g c) v->Q (.ref a) h
def Nt (K:Fg)(G:Gx)(C:En->Prop)(g:En->List PV):TA:=λc H Q=>∃B a O,Rep K G B c H a O/\C a/\∀v h,Same H h -> my K G (mn h O) (g a) v->Q v h
def vz (K:Fg)(G:Gx)(C:En->Prop)(p:En->Prop)[∀a,Decidable (p a)]:TT:=λc H Q=>∃B a O,Rep K G B c H a O/\C a/\∀h,Same H h -> Q (decide (p a)) h
abbrev lF (K:Fg)(G:Gx)(C:En->Prop)(g:En->Int):TE:=tX K G C λa=>.int (g a)
abbrev Jw (K:Fg)(G:Gx)(C:En->Prop)(g:En->List Int):TE:=tX K G C λa=>.ints (g a)
abbrev Hy (K:Fg)(G:Gx)(C:En->Prop)(p:En->Prop)[∀a,Decidable (p a)]:TE:=tX K G C λa=>.bl (decide (p a))
abbrev tXS (K:Fg)(G:Gx)(C:En->Prop)(g:En->Str):TE:=tX K G C λa=>.str (g a)
section
variable {X:Cx}
theorem rR (h:PE X e t)(k:∀B d H a O Q,Rep X.K G B d H a O->C a->(∀v f,Same H f -> At X.K G (mn f O) (g a) v->Q v f)->t d H Q):PE X e (tX X.K G C g):=
 by rintro p s d H Q I ⟨B,a,O,R,c,q⟩;exact h p s d H Q I (k B d H a O Q R c q)
theorem Qn (h:PE X e t)(k:∀B f H d O Q,Rep X.K G B f H d O->C d->(∀a g,Same H g -> H a=none->g a=so (.lst ((i d).map V.int))->Q (.ref a) g)->t f H Q):PE X e (CQ X.K G C i):=
 by rintro p s f H Q I ⟨B,d,O,R,c,q⟩;exact h p s f H Q I (k B f H d O Q R c q)
theorem jJ (h:PE X e (CQ X.K G C g)):PE X e (Jw X.K G C g):=rR h λB i H f O Q R c q=>(B,f,O,R,c,λa d s n e=>q _ d s (a,rz,.inl (by
 rw[pB]
 .exact e
 .cases z:O a with
  |false=>rfl
  |true=>exact absurd n (R.dom a z))))
theorem nZ (h:PE X e (yE X.K G C i)):PE X e (tX X.K G C λd=>.lst (i d)):=rR h λB j H d O Q R c q=>(B,d,O,R,c,λa v f s n e g=>q _ f s (a,v,rz,.inl (by
 rw[pB]
 .exact e
 .cases z:O a with
  |false=>rfl
  |true=>exact absurd n (R.dom a z)),my.mono (qX oX) _ _ g))
theorem jt:PE X (.Constant (.int n) j pos) (lF X.K G (λ_=>True) λ_=>n):=rR pe_int λ_ _ H _ _ _ _ _ q=>q _ H (Same.refl H) rfl
theorem vP:PE X (.Constant (.bool n) j pos) (tX X.K G (λ_=>True) λ_=>.bl n):=rR pe_bl λ_ _ H _ _ _ _ _ q=>q _ H (Same.refl H) rfl
theorem abK:PE X (.Constant .none j pos) (tX X.K G (λ_=>True) λ_=>.non):=rR pe_non λ_ _ H _ _ _ _ _ q=>q _ H (Same.refl H) rfl
theorem O4:PE X (.Constant (.str n) j pos) (tXS X.K G (λ_=>True) λ_=>n):=rR pe_str λ_ _ H _ _ _ _ _ q=>q _ H (Same.refl H) rfl
theorem QQ (c:Gl X x)(h:∃tk,X.mg x=so (.int n tk))(a:(x == ("__debug__":Str))=false:=by decide):PE X (.Name x pos) (lF X.K G (λ_=>True) λ_=>n):=
 let (_,h):=h;rR (pe_glob c h (v:=.int n) (_,rz) a) λ_ _ H _ _ _ _ _ q=>q _ H (Same.refl H) rfl
theorem xv (i:Nat)(f:X.N[i]?=so x:=by rfl)(j:Vis X.env.scope x:=by walk_at "v")
  (g:(x == ("__debug__":Str))=false:=by decide) (a:(x == ("__classdict__":Str))=false:=by decide):PE X (.Name x pos) (tX X.K G (λd=>isF d i) λd=>yr d i):=
 rR (pe_var f j g a) λ_ _ H _ _ _ R c q=>let (v,e,h):=R.fr i _ c;(v,e,q v H (Same.refl H) h)
theorem xn (i:Nat)(f:X.N[i]?=so x:=by rfl)(j:Vis X.env.scope x:=by walk_at "v")
  (g:(x == ("__debug__":Str))=false:=by decide) (a:(x == ("__classdict__":Str))=false:=by decide):PE X (.Name x pos) (lF X.K G (λd=>isI d i) λd=>vQ d i):=
 rR (pe_var f j g a) λ_ _ H _ _ _ R c q=>let (v,e,h):=R.fr i _ c;(v,e,q v H (Same.refl H) h)
theorem xl (i:Nat)(f:X.N[i]?=so x:=by rfl)(j:Vis X.env.scope x:=by walk_at "v")
  (g:(x == ("__debug__":Str))=false:=by decide) (a:(x == ("__classdict__":Str))=false:=by decide):PE X (.Name x pos) (Jw X.K G (λd=>isL d i) λd=>getL d i):=
 rR (pe_var f j g a) λ_ _ H _ _ _ R c q=>let (v,e,h):=R.fr i _ c;(v,e,q v H (Same.refl H) h)
theorem xr (i:Nat)(f:X.N[i]?=so x:=by rfl)(j:Vis X.env.scope x:=by walk_at "v")
  (g:(x == ("__debug__":Str))=false:=by decide) (d:(x == ("__classdict__":Str))=false:=by decide):PE X (.Name x pos) (tX X.K G (λa=>a[i]?=so (.fr (.scr (getL a i)))) λa=>.scr (getL a i)):=
 rR (pe_var f j g d) λ_ _ H _ _ _ R c q=>let (v,e,h):=R.fr i _ c;(v,e,q v H (Same.refl H) h)
theorem xs (i:Nat)(f:X.N[i]?=so x:=by rfl)(j:Vis X.env.scope x:=by walk_at "v")
  (g:(x == ("__debug__":Str))=false:=by decide) (a:(x == ("__classdict__":Str))=false:=by decide):PE X (.Name x pos) (tXS X.K G (λd=>isS d i) λd=>adb d i):=
 rR (pe_var f j g a) λ_ _ H _ _ _ R c q=>let (v,e,h):=R.fr i _ c;(v,e,q v H (Same.refl H) h)
theorem xb (i:Nat)(f:X.N[i]?=so x:=by rfl)(j:Vis X.env.scope x:=by walk_at "v")
  (g:(x == ("__debug__":Str))=false:=by decide) (a:(x == ("__classdict__":Str))=false:=by decide):PE X (.Name x pos) (Hy X.K G (λd=>isB d i) λd=>ac8 d i=true):=
 rR (pe_var f j g a) λ_ _ H _ _ _ R c q=>let (v,e,h):=R.fr i _ c;(v,e,q v H (Same.refl H) (by rw[cS];exact h))
theorem two {r:R2}{g d:En->PV}{f:L2.St}{B:Bs}{O:Addr->Bool}(R:Rep X.K G B f H a O)(l:C a)(m:i a)(q:∀v u c h,Same H c->Same c h->At X.K G (mn h O) (g a) v->At X.K G (mn h O) (d a) u->r v u h Q) :
  tOp r (tX X.K G C g) (tX X.K G i d) f H Q:=
 (B,a,O,R,l,λv c s j=>(B,a,O,R.grow s,m,λu h e k=>q v u c h s e (At.mono (lG e) _ _ j) k))
theorem Bq {o:Operator}{C:Int->Int->Prop}{g:Int->Int->Int}(r:OpR X (binaryOp o) (rI C λi j=>.int (g i j)))(n:PE X a (lF X.K G h e))(p:PE X b (lF X.K G k f)) :
  PE X (.BinOp a o b pos) (lF X.K G (λd=>h d/\k d/\C (e d) (f d)) λd=>g (e d) (f d)):=
 rR (pe_op r n p) λ_ _ _ _ _ _ R c q=>two R c.1 c.2.1 λ_ _ _ H s t l m=>(_,_,l,m,c.2.2,q _ H (s.trans t) rz)
theorem VL {o:Operator}{g:Int->Int->Int}(r:OpR X (binaryOp o) (rI0 λi j=>.int (g i j)))(n:PE X a (lF X.K G C l))(p:PE X b (lF X.K G e m)) :
  PE X (.BinOp a o b pos) (lF X.K G (λd=>C d/\e d) λd=>g (l d) (m d)):=
 rR (pe_op r n p) λ_ _ _ _ _ _ R c q=>two R c.1 c.2 λ_ _ _ h s t f k=>(_,_,f,k,q _ h (s.trans t) rz)
theorem km (h:PE X a (lF X.K G C g))(f:PE X b (lF X.K G d e)):PE X (.BinOp a .Add b pos) (lF X.K G (λc=>C c/\d c) λc=>g c+e c):=VL op_add h f
theorem lw (h:PE X a (lF X.K G C g))(f:PE X b (lF X.K G d e)):PE X (.BinOp a .Sub b pos) (lF X.K G (λc=>C c/\d c) λc=>g c-e c):=VL op_sub h f
theorem kO (h:PE X a (lF X.K G C g))(f:PE X b (lF X.K G e d)):PE X (.BinOp a .Mult b pos) (lF X.K G (λc=>C c/\e c/\IntMulOk (g c) (d c)) λc=>g c*d c):=Bq Jb h f
theorem jU (h:PE X a (lF X.K G C e))(f:PE X b (lF X.K G d g)):PE X (.BinOp a .Mod b pos) (lF X.K G (λc=>C c/\d c/\0<g c) λc=>e c % g c):=Bq op_mod h f
theorem nA (h:PE X a (lF X.K G C g))(f:PE X b (lF X.K G e d)):PE X (.BinOp a .FloorDiv b pos) (lF X.K G (λc=>C c/\e c/\VM (g c) (d c)) λc=>g c / d c):=Bq Wy h f
theorem yc (h:PE X a (lF X.K G C g))(f:PE X b (lF X.K G e d)):PE X (.BinOp a .Pow b pos) (lF X.K G (λc=>C c/\e c/\CPow (g c) (d c)) λc=>g c^(d c).toNat):=Bq op_pow h f
theorem lV (f:PE X a (lF X.K G C g)):PE X (.UnaryOp .USub a pos) (lF X.K G C λd=>-g d):=
 rR (pe_un un_neg f) λB _ _ d O _ R c q=>(B,d,O,R,c,λ_ h s e=>(_,e,q _ h s rz))
theorem zW {o:CmpOp}{p:Int->Int->Prop}[∀i j,Decidable (p i j)](u:OpR X (compareOp o) (rI0 λi j=>.bl (decide (p i j))))(t:behindInMarks o b=false)(n:PE X a (lF X.K G C l))(r:PE X b (lF X.K G f m)) :
  PT X (.Compare a [o] [b] pos) (vz X.K G (λe=>C e/\f e) λe=>p (l e) (m e)):=
 by rintro d s x H Q I ⟨_,_,_,R,c,q⟩;exact pt_cmpR u n r t d s x H Q I (two R c.1 c.2 λ_ _ _ h v w g k=>(_,_,g,k,_,rz,q h (v.trans w)))
theorem Ir {o:CmpOp}{p:Int->Int->Prop}[∀i j,Decidable (p i j)](s:OpR X (compareOp o) (rI0 λi j=>.bl (decide (p i j))))(r:behindInMarks o b=false)(m:PE X a (lF X.K G C k))(n:PE X b (lF X.K G e l)) :
  PE X (.Compare a [o] [b] pos) (Hy X.K G (λd=>C d/\e d) λd=>p (k d) (l d)):=
 rR (pe_cmpR s m n r) λ_ _ _ _ _ _ R c q=>two R c.1 c.2 λ_ _ _ h t u f g=>(_,_,f,g,q _ h (t.trans u) rz)
theorem FJ (h:PE X a (lF X.K G C g))(f:PE X b (lF X.K G d e)):PT X (.Compare a [.Lt] [b] pos) (vz X.K G (λc=>C c/\d c) λc=>g c<e c):=zW op_lt (nomark _) h f
theorem XQ (h:PE X a (lF X.K G C g))(f:PE X b (lF X.K G d e)):PT X (.Compare a [.LtE] [b] pos) (vz X.K G (λc=>C c/\d c) λc=>g c<=e c):=zW op_le (nomark _) h f
theorem pZ (h:PE X a (lF X.K G C g))(f:PE X b (lF X.K G d e)):PT X (.Compare a [.Gt] [b] pos) (vz X.K G (λc=>C c/\d c) λc=>e c<g c):=zW (p:=λi j=>j<i) op_gt (nomark _) h f
theorem Xc (h:PE X a (lF X.K G C g))(f:PE X b (lF X.K G d e)):PT X (.Compare a [.GtE] [b] pos) (vz X.K G (λc=>C c/\d c) λc=>e c<=g c):=zW (p:=λi j=>j<=i) op_ge (nomark _) h f
theorem nJ (h:PE X a (lF X.K G C g))(f:PE X b (lF X.K G d e)):PT X (.Compare a [.Eq] [b] pos) (vz X.K G (λc=>C c/\d c) λc=>g c=e c):=zW Qd (nomark _) h f
theorem vV (h:PE X a (lF X.K G C g))(f:PE X b (lF X.K G d e)):PT X (.Compare a [.NotEq] [b] pos) (vz X.K G (λc=>C c/\d c) λc=>¬g c=e c):=zW (p:=λi j=>¬i=j) Qh (nomark _) h f
theorem adW (h:PE X a (lF X.K G C g))(f:PE X b (lF X.K G d e)):PE X (.Compare a [.Lt] [b] pos) (Hy X.K G (λc=>C c/\d c) λc=>g c<e c):=Ir op_lt (nomark _) h f
theorem XR (h:PE X a (lF X.K G C g))(f:PE X b (lF X.K G d e)):PE X (.Compare a [.Gt] [b] pos) (Hy X.K G (λc=>C c/\d c) λc=>e c<g c):=Ir (p:=λi j=>j<i) op_gt (nomark _) h f
theorem adk (h:PE X a (lF X.K G C g))(f:PE X b (lF X.K G d e)):PE X (.Compare a [.Eq] [b] pos) (Hy X.K G (λc=>C c/\d c) λc=>g c=e c):=Ir Qd (nomark _) h f
theorem UW (h:PE X a (lF X.K G C g))(f:PE X b (lF X.K G d e)):PE X (.Compare a [.NotEq] [b] pos) (Hy X.K G (λc=>C c/\d c) λc=>¬g c=e c):=Ir (p:=λi j=>¬i=j) Qh (nomark _) h f
variable {P f:En->Prop}[∀ρ,Decidable (P ρ)][∀ρ,Decidable (f ρ)]{rest:List Expr}
theorem G8 (h:PE X e (Hy X.K G C P))(g:∀w,isTrue e X.env w=(do let v <-w;standAt e.pos;holding [v] (truthy v)):=by intro _;rfl):PT X e (vz X.K G C P):=
 by rintro p s j H Q I ⟨B,ρ,O,R,c,q⟩;exact pt_val h g p s j H Q I (B,ρ,O,R,c,λ_ a i d=>(_,d,q a i))
theorem vJ (d:PT X a (vz X.K G C P)):PT X (.UnaryOp .Not a pos) (vz X.K G C λρ=>¬P ρ):=
 by rintro p s g H Q I ⟨B,ρ,O,R,c,q⟩;exact L2.pt_not d p s g H Q I (B,ρ,O,R,c,λh e=>by have z:=q h e;rw[g6]at z;exact z)
theorem rH (h:PT X a (vz X.K G c P)):PW X (.BoolOp .Or [a] pos) (vz X.K G c P):=pw_or1 h
theorem qW (h:PT X a (vz X.K G c P)):PW X (.BoolOp .And [a] pos) (vz X.K G c P):=pw_and1 h
theorem qK (k:PT X a (vz X.K G C P))(l:PW X (.BoolOp .Or (b::rest) pos) (vz X.K G h f)):PW X (.BoolOp .Or (a::b::rest) pos) (vz X.K G (λρ=>C ρ/\(¬P ρ->h ρ)) λρ=>P ρ\/f ρ):=
 λw p s n H Q I (B,ρ,O,R,c,q)=>pw_or k l w p s n H Q I (B,ρ,O,R,c.1,λi g=>by
  by_cases d:P ρ
  .have z:=q i g;rw[bc (Or.inl d:P ρ\/f ρ)]at z;rw[bc d];refine iteT ?_;exact z
  .rw[aN d];refine iteF ?_;refine(B,ρ,O,R.grow g,c.2 d,λj m=>?_);have z:=q j (g.trans m);have e:decide (P ρ\/f ρ)=decide (f ρ):=by simp[d]
   rw[e]at z;exact z)
theorem uJ (k:PT X a (vz X.K G C P))(l:PW X (.BoolOp .And (b::rest) pos) (vz X.K G h f)):PW X (.BoolOp .And (a::b::rest) pos) (vz X.K G (λρ=>C ρ/\(P ρ->h ρ)) λρ=>P ρ/\f ρ):=
 λw p s n H Q I (B,ρ,O,R,c,q)=>pw_and k l w p s n H Q I (B,ρ,O,R,c.1,λi g=>by
  by_cases d:P ρ
  .rw[bc d];refine iteT ?_;refine(B,ρ,O,R.grow g,c.2 d,λj m=>?_);have z:=q j (g.trans m);have e:decide (P ρ/\f ρ)=decide (f ρ):=by simp[d]
   rw[e]at z;exact z
  .have z:=q i g;rw[aN (λy=>d y.1:¬(P ρ/\f ρ))]at z;rw[aN d];refine iteF ?_;exact z)
theorem adP (k:PE X a (Hy X.K G C P))(l:PE X (.BoolOp .Or (b::rest) pos) (Hy X.K G g f)):PE X (.BoolOp .Or (a::b::rest) pos) (Hy X.K G (λρ=>C ρ/\(¬P ρ->g ρ)) λρ=>P ρ\/f ρ):=
 rR (pe_or k l) λB _ _ ρ O _ R c q=>(B,ρ,O,R,c.1,λ_ h s i=>(_,i,by
  by_cases d:P ρ
  .have z:=q (.bl true) h s (by rw[bc (Or.inl d:P ρ\/f ρ)];rfl);rw[bc d];refine iteT ?_;exact z
  .rw[aN d];refine iteF ?_;refine(B,ρ,O,R.grow s,c.2 d,λv H m j=>q v H (s.trans m) ?_);have e:decide (P ρ\/f ρ)=decide (f ρ):=by simp[d]
   rw[e];exact j))
theorem FN (k:PE X a (Hy X.K G C P))(l:PE X (.BoolOp .And (b::rest) pos) (Hy X.K G g f)):PE X (.BoolOp .And (a::b::rest) pos) (Hy X.K G (λρ=>C ρ/\(P ρ->g ρ)) λρ=>P ρ/\f ρ):=
 rR (pe_and k l) λB _ _ ρ O _ R c q=>(B,ρ,O,R,c.1,λ_ h s i=>(_,i,by
  by_cases d:P ρ
  .rw[bc d];refine iteT ?_;refine(B,ρ,O,R.grow s,c.2 d,λv H m j=>q v H (s.trans m) ?_);have e:decide (P ρ/\f ρ)=decide (f ρ):=by simp[d]
   rw[e];exact j
  .have z:=q (.bl false) h s (by rw[aN (λy=>d y.1:¬(P ρ/\f ρ))];rfl);rw[aN d];refine iteF ?_;exact z))
theorem ju:PA X [] (Nt X.K G (λ_=>True) λ_=>[]):=by rintro a p s c H Q I ⟨_,_,_,_,_,q⟩;exact pa_nil a p s c H Q I (q [] H (Same.refl H) rz)
theorem jq (o:PE X e (tX X.K G C g))(r:PA X a (Nt X.K G j n))(t:starEach (e::a) X.env=(false,eval e X.env)::starEach a X.env:=by rfl):PA X (e::a) (Nt X.K G (λρ=>C ρ/\j ρ) λρ=>g ρ::n ρ):=
 by rintro d p s w H Q I ⟨B,ρ,O,R,c,q⟩;exact pa_cons o r t d p s w H Q I (B,ρ,O,R,c.1,λv x h l=>(B,ρ,O,R.grow h,c.2,λu k i m=>q _ k (h.trans i) (v,u,rz,At.mono (lG i) _ _ l,m)))
end
structure Ps where
 nx:En->Prop
 rt:PV->Prop
 rl:List Int->Prop:=λ_=>False
 rn:PV->Prop:=λ_=>False
 bk:En->Prop:=λ_=>False
 ct:En->Prop:=λ_=>False
 er:Addr->Prop:=λ_=>False
abbrev Ps.sq (P:Ps)(k:En->Prop):Ps:={ P with nx:=k }
abbrev Ps.lp (P:Ps)(k:En->Prop):Ps:={ P with nx:=k,ct:=k,bk:=P.nx }
abbrev ER:=Addr->Hp->Prop
abbrev ER0:ER:=λ_ _=>False
abbrev FS:=Ps->En->Prop
def yx (K:Fg)(G:Gx)(B:Bs)(c:L2.St)(H:Hp)(a:En):Prop:=∃O,Rep K G B c H a O
structure Owe (K:Fg)(G:Gx)(Er:ER)(B:Bs)(P:Ps)(D:Ends):Prop where
 nx:∀σ H ρ,yx K G B σ H ρ->P.nx ρ->D.nx σ H
 rt:∀v H p,Same B.H0 H->At K G (mn H B.Oc) p v->P.rt p->D.rt v H
 rl:∀a H ns,Same B.H0 H->B.H0 a=none->H a=so (.lst (ns.map V.int))->P.rl ns->D.rt (.ref a) H
 rn:∀v H p,Same B.H0 H->At K G (mn H λa=>(B.H0 a).isSome) p v->P.rn p->D.rt v H
 bk:∀σ H ρ,yx K G B σ H ρ->P.bk ρ->D.bk σ H
 ct:∀σ H ρ,yx K G B σ H ρ->P.ct ρ->D.ct σ H
 er:∀H C,Same B.H0 H->P.er C->Er C H
def ts (K:Fg)(G:Gx)(e:ER)(f:FS):TS:=λD c H=>∃B a P,yx K G B c H a/\f P a/\Owe K G e B P D
section
variable {st:Stmt}
theorem toS (h:PS X st t)(k:∀B a H d O P D,Rep X.K G B a H d O->f P d->Owe X.K G e B P D->t D a H):PS X st (ts X.K G e f):=
 by rintro p s a H D I ⟨B,d,P,⟨O,R⟩,c,w⟩;exact h p s a H D I (k B a H d O P D R c w)
theorem jN:PSs X [] (ts X.K G e λP a=>P.nx a):=by rintro p s d H D I ⟨_,a,_,R,c,w⟩;exact pss_nil p s d H D I (w.nx d H a R c)
theorem jw (h:PS X st (ts X.K G e f)):PSs X [st] (ts X.K G e f):=pss_one h
theorem jr (i:PS X st (ts X.K G E h))(j:PSs X a (ts X.K G E f)):PSs X (st::a) (ts X.K G E λP d=>h (P.sq (f P)) d):=
 by rintro p s k H D I ⟨B,d,P,R,c,w⟩;exact pss_cons i j p s k H D I (B,d,{ P with nx:=f P },R,c,(λ_ _ e r g=>(B,e,P,r,g,w),w.rt,w.rl,w.rn,w.bk,w.ct,w.er))
theorem lU (i:PS X st (ts X.K G e g))(j:PSs X a (ts X.K G e h)):PSs X (st::a) (ts X.K G e λP d=>∃J:En->Prop,g (P.sq J) d/\∀ρ',J ρ' -> h P ρ'):=
 by rintro p s l H D I ⟨B,d,P,R,⟨J,c,k⟩,w⟩;exact pss_cons i j p s l H D I (B,d,{ P with nx:=J },R,c,(λ_ _ ρ' r f=>(B,ρ',P,r,k ρ' f,w),w.rt,w.rl,w.rn,w.bk,w.ct,w.er))
theorem j7 (i:Nat)(h:PSs X a (ts X.K G e f)):PSs X a (ts X.K G e λP d=>f P (frz d i)):=
 by rintro p s g H D I ⟨B,d,P,⟨_,R⟩,c,w⟩;exact h p s g H D I (B,frz d i,P,R.freeze i,c,w)
theorem lA:PS X st (ts X.K G e λ_ _=>False):=toS ps_never λ_ _ _ _ _ _ _ _ c _=>c
theorem Wc (h:PE X e (tX X.K G C g))(d:swapsWith e none pos.line X.env=pure false:=by rfl):PS X (.Expr e pos) (ts X.K G E λP a=>C a/\P.nx a):=
 toS (ps_expr h d) λB f _ a O _ _ R c w=>(B,a,O,R,c.1,λ_ H s _=>w.nx f H a (O,R.grow s) c.2)
theorem jB (h:PE X e (tX X.K G C g)):PS X (.Return (so e) pos) (ts X.K G E λP a=>C a/\P.rt (g a)):=
 toS (ps_ret h) λB _ _ a O _ _ R c w=>(B,a,O,R,c.1,λv H s d=>w.rt v H _ (R.same.trans s) (At.mono (qX R.hid) _ _ d) c.2)
theorem mD (h:PE X e (CQ X.K G C g)):PS X (.Return (so e) pos) (ts X.K G E λP d=>C d/\P.rl (g d)):=
 toS (ps_ret h) λB _ _ d O _ _ R c w=>(B,d,O,R,c.1,λa H s n f=>w.rl a H _ (R.same.trans s) (R.same.free n) f c.2)
theorem yQ (i:Nat)(k:X.N[i]?=so x:=by rfl)(m:Vis X.env.scope x:=by walk_at "v")
  (l:(x == ("__debug__":Str))=false:=by decide) (h:(x == ("__classdict__":Str))=false:=by decide):PS X (.Return (so (.Name x p)) pos) (ts X.K G E λP d=>Z5 d i/\P.rl (getL d i)):=
 toS (ps_ret (pe_var k m l h)) λB _ H d O _ _ R c w=>by obtain⟨a,v,f,n,g,j,e⟩:=R.ow i _ c.1;have e:v=(getL d i).map V.int:=e;subst e;exact(_,f,w.rl a H _ R.same g j c.2)
theorem JB (f:X.N.Nodup)(l:X.N[i]?=so x)(n:Loc X.env.scope x)(j:PE X e (tX X.K G C g))(m:swapsWith e (so (.Name x p)) pos.line X.env=pure false:=by rfl)
  (k:X.fn x=true\/X.env.scope.names.lookup x=so .local:=by walk_at "w"):PS X (.Assign [.Name x p] e pos) (ts X.K G E λP a=>C a/\P.nx (a.set i (.fr (g a)))):=
 toS (ps_set f l n j m k) λB o _ a O _ _ R c w=>(B,a,O,R,c.1,λ_ h s d=>w.nx _ h _ (O,(R.grow s).set d) c.2)
theorem jQ (h:X.N.Nodup)(k:X.N[i]?=so x)(m:Loc X.env.scope x)(f:PE X e (tX X.K G C g))(l:swapsWith e (so (.Name x a)) pos.line X.env=pure false:=by rfl)
  (j:X.fn x=true\/X.env.scope.names.lookup x=so .local:=by walk_at "w"):PS X (.Assign [.Name x a] e pos) (ts X.K G E λP d=>C d/\∀p,p=g d->P.nx (d.set i (.fr p))):=
 toS (JB h k m f l j) λB n _ d O P D R c w=>(B,d,P,(O,R),(c.1,c.2 _ rz),w)
theorem jA (h:X.N.Nodup)(j:X.N[i]?=so x)(l:Loc X.env.scope x)(d:PE X e (lF X.K G C g))(k:swapsWith e (so (.Name x p)) pos.line X.env=pure false:=by rfl)
  (f:X.fn x=true\/X.env.scope.names.lookup x=so .local:=by walk_at "w"):PS X (.Assign [.Name x p] e pos) (ts X.K G E λP a=>C a/\∀n,n=g a->P.nx (a.set i (.fr (.int n)))):=
 toS (JB h j l d k f) λB m _ a O P D R c w=>(B,a,P,(O,R),(c.1,c.2 _ rz),w)
theorem jG (h:X.N.Nodup)(j:X.N[i]?=so x)(l:Loc X.env.scope x)(d:PE X e (Jw X.K G C g))(k:swapsWith e (so (.Name x p)) pos.line X.env=pure false:=by rfl)
  (f:X.fn x=true\/X.env.scope.names.lookup x=so .local:=by walk_at "w"):PS X (.Assign [.Name x p] e pos) (ts X.K G E λP a=>C a/\∀ns,ns=g a->P.nx (a.set i (.fr (.ints ns)))):=
 toS (JB h j l d k f) λB m _ a O P D R c w=>(B,a,P,(O,R),(c.1,c.2 _ rz),w)
theorem qZ (k:X.N.Nodup)(n:X.N[i]?=so x)(r:Loc X.env.scope x)(l:PE X e (CQ X.K G C g))(o:swapsWith e (so (.Name x f)) pos.line X.env=pure false:=by rfl)
  (m:X.fn x=true\/X.env.scope.names.lookup x=so .local:=by walk_at "w"):PS X (.Assign [.Name x f] e pos) (ts X.K G E λP d=>C d/\∀ns,ns=g d->P.nx (d.set i (.ow (.ints ns)))):=
 toS (ps_set k n r l o m) λB u _ d O _ _ R c w=>(B,d,O,R,c.1,λa h t s j=>w.nx _ h _ (hide a O,R.new (p:=.ints (g d)) t s j rz) (c.2 _ rz))
theorem oW (l:X.N.Nodup)(o:X.N[i]?=so x)(s:Loc X.env.scope x)(m:PE X e (yE X.K G C g))(r:swapsWith e (so (.Name x f)) pos.line X.env=pure false:=by rfl)
  (n:X.fn x=true\/X.env.scope.names.lookup x=so .local:=by walk_at "w"):PS X (.Assign [.Name x f] e pos) (ts X.K G E λP d=>C d/\∀ns,ns=g d->P.nx (d.set i (.ow (.lst ns)))):=
 toS (ps_set l o s m r n) λB y _ d O _ _ R c w=>(B,d,O,R,c.1,λa v h u t k j=>w.nx _ h _ (hide a O,R.new (p:=.lst (g d)) u t k j) (c.2 _ rz))
theorem tM {i:Nat}{o:Operator}{g:En->Int}{f:Int->Int->Prop}{h:Int->Int->Int}(A:X.N.Nodup)(F:X.N[i]?=so x)(J:Loc X.env.scope x)(D:PE X e (lF X.K G C g))(I:OpR X (inplaceOp o) (rI f λi j=>.int (h i j)))
  (E:X.fn x=true\/X.env.scope.names.lookup x=so .local:=by walk_at "w"):PS X (.AugAssign (.Name x k) o e pos) (ts X.K G M λP a=>isI a i/\C a/\f (vQ a i) (g a)/\∀n,n=h (vQ a i) (g a)->P.nx (a.set i (.fr (.int n)))):=
 toS (ps_aug A F J D I E) λB N H a O _ _ R c w=>by obtain⟨r,s,t,u⟩:=c;obtain⟨v,z,d⟩:=R.fr i _ r;have d:v=.int (vQ a i):=d;subst d;exact(_,z,B,a,O,R,s,λy l L m=>(_,_,rz,m,t,w.nx _ l _ (O,(R.grow L).set (p:=.int _) rz) (u _ rz)))
theorem jX [∀e,Decidable (p e)](j:PT X c (vz X.K G C p))(h:PSs X a (ts X.K G E f))(i:PSs X b (ts X.K G E g)):PS X (.If c a b pos) (ts X.K G E λP e=>C e/\(p e->f P e)/\(¬p e->g P e)):=
 toS (ps_if j h i) λB k _ e O P D R c w=>(B,e,O,R,c.1,λH s=>by
  by_cases d:p e
  .rw[bc d];refine iteT ?_;exact(B,e,P,(O,R.grow s),c.2.1 d,w)
  .rw[aN d];refine iteF ?_;exact(B,e,P,(O,R.grow s),c.2.2 d,w))
theorem lD [∀a,Decidable (p a)](y:PassesOwn (model X.prog X.w) X.A X.env X.xe)(x:PT X c (vz X.K G C p))(v:PSs X body (ts X.K G E f)) :
  PS X (.While c body [] pos) (ts X.K G E λP a=>∃(W:En->Prop) (g:En->Nat),W a/\∀a,W a->C a/\(p a->f (P.lp λρ'=>W ρ'/\g ρ'<g a) a)/\(¬p a->P.nx a)):=
 toS (ps_while y x v) λB j H a O P D R c w=>by
  obtain⟨W,g,A,st⟩:=c;refine(λm j H=>∃a,yx X.K G B j H a/\W a/\m=g a,(g a,a,(O,R),A,rz),?_);rintro m j H ⟨a,⟨O,R⟩,z,rfl⟩;obtain⟨l,n,o⟩:=st a z;refine(B,a,O,R,l,λk s=>?_);by_cases d:p a
  .rw[bc d];refine iteT ?_;refine(λe i=>∃ρ',yx X.K G B e i ρ'/\W ρ'/\g ρ'<g a,by rintro e i ⟨ρ',r,t,u⟩;exact (_,u,ρ',r,t,rz),B,a,_,(O,R.grow s),n d,(λe i ρ' r h=>(ρ',r,h),w.rt,w.rl,w.rn,w.nx,λe i ρ' r h=>(ρ',r,h),w.er))
  .rw[aN d];refine iteF ?_;exact w.nx j k a (O,R.grow s) (o d)
theorem oh (S:PassesOwn (model X.prog X.w) X.A X.env X.xe)(L:X.calm=true)(N:Gl X "range")(Q:X.mg "range"=none)(I:PE X a (lF X.K G C g))(F:X.N.Nodup)(o:X.N[k]?=so x)(T:Loc X.env.scope x)
  (J:PSs X body (ts X.K G E f)) (u:starEach [a] X.env=[(false,eval a X.env)]:=by rfl) (n:∀x,foldedSetIterable (.Call (.Name "range" p) [a] [] j) X.env x=pure x:=by intro _;rfl)
  (M:X.fn x=true\/X.env.scope.names.lookup x=so .local:=by walk_at "w") :
  PS X (.For (.Name x px) (.Call (.Name "range" p) [a] [] j) body [] pos) (ts X.K G E λP d=>C d/\(-(2^62)<=g d/\g d<2^62)/\∃W:Nat->En->Prop,W 0 d/\(∀i ρ',i<(g d).toNat->W i ρ' -> f (P.lp (W (i+1))) (ρ'.set k (.fr (.int i))))/\∀ρ',W (g d).toNat ρ' -> P.nx ρ'):=
 toS (ps_for S L (pi_range1 N Q (pa_cons I pa_nil u) u) (pg_name F o T M) J n) λB l H d O P D R c w=>by
  obtain⟨A,⟨U,Y⟩,W,w0,st,Z⟩:=c;refine(B,d,O,R,A,λv H1 s1 m=>?_);have m:v=.int (g d):=m;subst m;refine(g d,rz,U,Y,for_range (λi l H=>∃ρ',yx X.K G B l H ρ'/\W i ρ') (d,(O,R.grow s1),w0) ?_ ?_)
  .rintro i l H o ⟨ρ',⟨z,r⟩,s⟩;have e:(0:Int)+i=i:=()
   rw[e];exact(B,_,_,(z,r.set (p:=.int i) rz),st i ρ' o s,(λt y ρ' r h=>(ρ',r,h),w.rt,w.rl,w.rn,w.nx,λt y ρ' r h=>(ρ',r,h),w.er))
  .rintro l H ⟨ρ',r,s⟩;exact w.nx l H ρ' r (Z ρ' s)
theorem wO (hp:PassesOwn (model X.prog X.w) X.A X.env X.xe)(Y:X.calm=true)(hg:Gl X "range")(hm:X.mg "range"=none)(T:PE X a (lF X.K G C g))(s:PE X b (lF X.K G I h))(S:X.N.Nodup)(y:X.N[k]?=so x)(hx:Loc X.env.scope x)
  (U:PSs X body (ts X.K G J f)) (E:starEach [a,b] X.env=[(false,eval a X.env),(false,eval b X.env)]:=by rfl) (e:starEach [b] X.env=[(false,eval b X.env)]:=by rfl) (t:∀x,foldedSetIterable (.Call (.Name "range" p) [a,b] [] j) X.env x=pure x:=by intro _;rfl)
  (Z:X.fn x=true\/X.env.scope.names.lookup x=so .local:=by walk_at "w") :
  PS X (.For (.Name x px) (.Call (.Name "range" p) [a,b] [] j) body [] pos) (ts X.K G J λP d=>(C d/\I d)/\(-(2^62)<=g d/\g d<2^62 /\ -(2^62)<=h d/\h d<2^62) /\ ∃W:Nat->En->Prop,W 0 d/\(∀i ρ',i<(h d-g d).toNat->W i ρ' -> f (P.lp (W (i+1))) (ρ'.set k (.fr (.int (g d+i)))))/\∀ρ',W (h d-g d).toNat ρ' -> P.nx ρ'):=
 toS (ps_for hp Y (pi_range2 hg hm (pa_cons T (pa_cons s pa_nil e) (by rw[E,e])) E e) (pg_name S y hx Z) U t) λB m H d O P D R c w=>by
  obtain⟨⟨N,Q⟩,l,W,w0,st,nd⟩:=c;refine(B,d,O,R,N,λv H1 F n=>(B,d,O,R.grow F,Q,λu H2 s2 o=>?_));have n:v=.int (g d):=n;have o:u=.int (h d):=o;subst n o;refine(g d,h d,rz,l,for_range (λi m H=>∃ρ',yx X.K G B m H ρ'/\W i ρ') (d,(O,(R.grow F).grow s2),w0) ?_ ?_)
  .rintro i m H y ⟨ρ',⟨M,r⟩,z⟩;exact(B,_,_,(M,r.set (p:=.int _) rz),st i ρ' y z,(λA L ρ' r h=>(ρ',r,h),w.rt,w.rl,w.rn,w.nx,λA L ρ' r h=>(ρ',r,h),w.er))
  .rintro m H ⟨ρ',r,z⟩;exact w.nx m H ρ' r (nd ρ' z)
theorem sO {B:Bs}{k:L2.St}{H:Hp}{j:En}{O:Addr->Bool}{K:Fg}{P:Ps}{D:Ends}(R:Rep K G B k H j O)(w:Owe K G E B P D):Owe K G E (B.at H O) P D:=
 (by rintro f c d ⟨g,r⟩ h;exact w.nx f c d (g,R.O9 r) h,λv c p s a h=>w.rt v c p (R.pN.trans s) a h,λa c i s n e h=>w.rl a c i (R.pN.trans s) (R.pN.free n) e h,λv c p s a h=>w.rn v c p (R.pN.trans s) (At.mono (qX λb z=>by
  obtain⟨o,e⟩:=cV.mp z;exact cV.mpr (R.pN _ _ e).some) _ _ a) h,by rintro f c d ⟨g,r⟩ h;exact w.bk f c d (g,R.O9 r) h,by rintro f c d ⟨g,r⟩ h;exact w.ct f c d (g,R.O9 r) h,λc C s h=>w.er c C (R.pN.trans s) h)
theorem wC {k:Nat}{x:Str}{l:Expr}{body:List Stmt}{g:En->List Int}{px:Pos}(Z:PassesOwn (model X.prog X.w) X.A X.env X.xe)(T:X.calm=true)(hl:PE X l (Jw X.K G C g))(Q:X.N.Nodup)(Y:X.N[k]?=so x)(hx:Loc X.env.scope x)
  (S:PSs X body (ts X.K G J f)) (u:∀x,foldedSetIterable l X.env x=pure x:=by intro _;rfl) (U:X.fn x=true\/X.env.scope.names.lookup x=so .local:=by walk_at "w") :
  PS X (.For (.Name x px) l body [] pos) (ts X.K G J λP d=>C d/\∃W:Nat->En->Prop,W 0 d/\(∀i n ρ',(g d)[i]?=so n->W i ρ' -> f (P.lp (W (i+1))) (ρ'.set k (.fr (.int n))))/\∀ρ',W (g d).length ρ' -> P.nx ρ'):=
 toS (ps_for Z T (pi_list hl) (pg_name Q Y hx U) S u) λB o H d O P D R c w=>by
  obtain⟨N,W,w0,st,nd⟩:=c;refine(B,d,O,R,N,λv A s1 M=>?_);obtain⟨a,e,I⟩:=M;have F:=R.grow s1;have m:=sO F w;refine(a,e,(_,.inl (jK jZ I)),for_list (xs:=(g d).map V.int) (λi o H=>∃ρ',yx X.K G (B.at A O) o H ρ'/\W i ρ') (d,(O,F.rebase),w0) ?_ ?_ ?_)
  .rintro i o H _ ⟨ρ',⟨E,r⟩,_⟩;exact .inl (jK ((Rep.sX B A O).trans r.same) I)
  .rintro i y o H j ⟨ρ',⟨E,r⟩,s⟩;rw[ag]at j;cases t:(g d)[i]? with
   |none=>rw[t]at j;cases j
   |some n=>rw[t]at j;have j:V.int n=y:=aJ j;subst j;exact(_,_,_,(E,r.set (p:=.int n) rz),st i n ρ' t s,(λz L ρ' r h=>(ρ',r,h),m.rt,m.rl,m.rn,m.nx,λz L ρ' r h=>(ρ',r,h),m.er))
  .rintro o H ⟨ρ',r,s⟩;rw[ac]at s;exact m.nx o H ρ' r (nd ρ' s)
theorem vD {k:Nat}{x:Str}{l:Expr}{body:List Stmt}{g:En->List PV}{px:Pos}(Z:PassesOwn (model X.prog X.w) X.A X.env X.xe)(T:X.calm=true)(hl:PE X l (tX X.K G C λd=>.lst (g d)))(Q:X.N.Nodup)(Y:X.N[k]?=so x)(hx:Loc X.env.scope x)
  (S:PSs X body (ts X.K G F f)) (t:∀x,foldedSetIterable l X.env x=pure x:=by intro _;rfl) (U:X.fn x=true\/X.env.scope.names.lookup x=so .local:=by walk_at "w") :
  PS X (.For (.Name x px) l body [] pos) (ts X.K G F λP d=>C d/\∃W:Nat->En->Prop,W 0 d/\(∀i n ρ',(g d)[i]?=so n->W i ρ' -> f (P.lp (W (i+1))) (ρ'.set k (.fr n)))/\∀ρ',W (g d).length ρ' -> P.nx ρ'):=
 toS (ps_for Z T (pi_list hl) (pg_name Q Y hx U) S t) λB m H d O P D R c w=>by
  obtain⟨L,W,w0,st,nd⟩:=c;refine(B,d,O,R,L,λv z s1 J=>?_);obtain⟨a,vs,e,E,o⟩:=J;have s:=R.grow s1;have j:=sO s w;have M:=o.length;refine(a,e,(_,.inl (jK jZ E)),for_list (xs:=vs) (λi m H=>∃ρ',yx X.K G (B.at z O) m H ρ'/\W i ρ') (d,(O,s.rebase),w0) ?_ ?_ ?_)
  .rintro i m H _ ⟨ρ',⟨A,r⟩,_⟩;exact .inl (jK ((Rep.sX B z O).trans r.same) E)
  .rintro i y m H hy ⟨ρ',⟨A,r⟩,p⟩;obtain⟨n,N,an⟩:=o.get hy;exact(_,_,_,(A,r.set (At.mono (s.seen r) _ _ an)),st i n ρ' N p,(λu I ρ' r h=>(ρ',r,h),j.rt,j.rl,j.rn,j.nx,λu I ρ' r h=>(ρ',r,h),j.er))
  .rintro m H ⟨ρ',r,p⟩;rw[<-M]at p;exact j.nx m H ρ' r (nd ρ' p)
theorem zJ {k j:Nat}{x y:Str}{l:Expr}{body:List Stmt}{g:En->List Int}{N Q p d S:Pos}{M:Nat}(hp:PassesOwn (model X.prog X.w) X.A X.env X.xe)(hc:X.calm=true)(hg:Gl X "enumerate")(hm:X.mg "enumerate"=none)(hl:PE X l (Jw X.K G C g))
  (z:PG X (.Tuple [.Name x N,.Name y Q] M S) (gTup X.K 2 (gCons (gName k) (gCons (gName j) gNil)))) (hb:PSs X body (ts X.K G U f)) (L:starEach [l] X.env=[(false,eval l X.env)]:=by rfl)
  (u:∀x,foldedSetIterable (.Call (.Name "enumerate" p) [l] [] d) X.env x=pure x:=by intro _;rfl) :
  PS X (.For (.Tuple [.Name x N,.Name y Q] M S) (.Call (.Name "enumerate" p) [l] [] d) body [] pos) (ts X.K G U λP m=>C m/\∃W:Nat->En->Prop,W 0 m /\ (∀i n ρ',(g m)[i]?=so n->W i ρ' -> f (P.lp (W (i+1))) ((ρ'.set k (.fr (.int i))).set j (.fr (.int n))))/\∀ρ',W (g m).length ρ' -> P.nx ρ'):=
 toS (ps_for hp hc (CP hg hm (pa_cons hl pa_nil L) L) z hb u) λB s H m O P D R c w=>by
  obtain⟨c1,W,w0,st,nd⟩:=c;refine(B,m,O,R,c1,λv E s1 Z=>?_);obtain⟨a,e,J⟩:=Z;subst e;have I:=R.grow s1;have o:=sO I w;refine(a,rz,(_,.inl (jK jZ J)),M8 (xs:=(g m).map V.int) (λi s H=>∃ρ',yx X.K G (B.at E O) s H ρ'/\W i ρ') (m,(O,I.rebase),w0) ?_ ?_ ?_)
  .rintro i s H _ ⟨ρ',⟨F,r⟩,_⟩;exact .inl (jK ((Rep.sX B E O).trans r.same) J)
  .rintro i y s H T hy ⟨ρ',⟨F,r⟩,t⟩ hT;obtain⟨n,rfl,en⟩:=int_at hy;refine(T,_,rz,SqT.of upd_same,rz,_,_,rz,_,_,rz,rz,?_);exact(_,_,_,(F,((r.grow (same_new hT _)).set (p:=.int i) rz).set (p:=.int n) rz),st i n ρ' en t,(λA Y ρ' r h=>(ρ',r,h),o.rt,o.rl,o.rn,o.nx,λA Y ρ' r h=>(ρ',r,h),o.er))
  .rintro s H ⟨ρ',r,t⟩;rw[ac]at t;exact o.nx s H ρ' r (nd ρ' t)
end
theorem getD_at {ns:Li}{i:Int}(h:-(ns.length:Int)<=i)(d:i<ns.length):atI (ns.map V.int) i=so (V.int (ns.getD (if 0<=i then i else i+ns.length).toNat 0)):=by
 by_cases c:0<=i
 .rw[aL c];exact wH c d
 .rw[aF c];have a:=wH (ns:=ns) (i:=i+ns.length) () ();unfold atI ixN at a ⊢;rw[ac]at a ⊢;rw[aL (show 0<=i+(ns.length:Int) by lia),aL (show i+(ns.length:Int)<(ns.length:Int) by lia)]at a;rw[aF c,aL h];exact a
def j6 (n:Nat)(i:Int):Nat:=(if 0<=i then i else i+n).toNat
theorem yj {n:Nat}(h:-(n:Int)<=i)(a:i<n):ixN n i=so (j6 n i):=by
 unfold ixN j6;by_cases c:0<=i
 .rw[aL c,aL a,aL c]
 .rw[aF c,aL h,aF c]
theorem abM {n:Nat}(h:-(n:Int)<=i)(a:i<n):j6 n i<n:=by
 unfold j6;by_cases c:0<=i
 .rw[aL c];lia
 .rw[aF c];lia
theorem kI (i:Nat)(m:PE X b (lF X.K G C g))(o:PlainIx b)(l:X.N[i]?=so x:=by rfl)(p:Vis X.env.scope x:=by walk_at "v")
  (n:(x == ("__debug__":Str))=false:=by decide) (h:(x == ("__classdict__":Str))=false:=by decide) :
  PE X (.Subscript (.Name x r) b pos) (lF X.K G (λd=>Py d i/\C d /\ -((getL d i).length:Int)<=g d/\g d<((getL d i).length:Int)) λd=>(getL d i)[j6 (getL d i).length (g d)]!):=
 rR (pe_ix ix_list (pe_var l p n h) m o) λB t H d O Q R c q=>by obtain⟨a,j,k⟩:=R.W2 c.1;exact(_,j,B,d,O,R,c.2.1,λu e s f=>(a,_,_,_,rz,f,s.seq k,getD_at c.2.2.1 c.2.2.2,q _ e s rz))
theorem jO (i:Nat)(n:X.mg "len"=none)(k:X.N[i]?=so x:=by rfl)(m:Gl X "len":=by rfl)(o:Vis X.env.scope x:=by walk_at "v")
  (l:(x == ("__debug__":Str))=false:=by decide) (h:(x == ("__classdict__":Str))=false:=by decide) (e:starEach [.Name x f] X.env=[(false,eval (.Name x f) X.env)]:=by rfl) :
  PE X (.Call (.Name "len" p) [.Name x f] [] pos) (lF X.K G (λd=>Py d i) λd=>((getL d i).length:Int)):=
 rR (pe_callB call_len_seq m n WM (pa_cons (pe_var k o l h) pa_nil e) (()) (()) e rz) λB r H d O Q R c q=>by obtain⟨a,g,j⟩:=R.W2 c;exact(_,g,a,_,rz,.inl j,by rw[ac];exact q _ H (Same.refl H) rz)
def adv:PV->Int
 | .ints n=>(n.length:Int)
 | .scr n=>(n.length:Int)
 | .lst xs=>(xs.length:Int)
 | .tup xs=>(xs.length:Int)
 |_=>0
def VB:PV->Prop
 | .ints _=>True
 | .scr _=>True
 | .lst _=>True
 | .tup _=>True
 |_=>False
theorem At.len {K:Fg}{H:Hp}{p:PV}{v:V}(h:At K G H p v)(hl:VB p):∃a ys,v=.ref a/\(SqL K H a ys\/SqT K H a ys)/\(ys.length:Int)=adv p:=by
 cases p<;>first|exact hl.elim|skip
 .obtain⟨a,e,q⟩:=h;exact(a,_,e,.inl (.inl q),by rw[ac];rfl)
 .obtain⟨a,e,q⟩:=h;exact(a,_,e,.inl q,by rw[ac];rfl)
 .obtain⟨a,c,e,q,r⟩:=h;exact(a,c,e,.inl (.inl q),by rw[<-r.length];rfl)
 .obtain⟨a,c,e,q,r⟩:=h;exact(a,c,e,.inr (SqT.of q),by rw[<-r.length];rfl)
theorem lL {g:En->PV}(m:X.mg "len"=none)(j:PE X a (tX X.K G C g))(k:Gl X "len":=by rfl)(h:starEach [a] X.env=[(false,eval a X.env)]:=by rfl) :
  PE X (.Call (.Name "len" p) [a] [] pos) (lF X.K G (λd=>C d/\VB (g d)) λd=>adv (g d)):=
 rR (pe_callB call_len_seq k m WM (pa_cons j pa_nil h) (()) (()) h rz) λB o H d O Q R c q=>(B,d,O,R,c.1,λv f n i=>by
  obtain⟨a,y,e,s,l⟩:=i.len c.2;exact(a,y,by rw[e],s.imp (λz=>jZ.seq z) (λz=>Ms jZ z),by rw[l];exact q _ f n rz))
def vo:PV->Int->PV
 | .lst xs,k=>xs.getD (j6 xs.length k) .non
 | .tup xs,k=>xs.getD (j6 xs.length k) .non
 | .ints ns,k=>.int ns[j6 ns.length k]!
 |_,_=>.non
def lY:PV->Int->Prop
 | .lst xs,k=>-(xs.length:Int)<=k/\k<xs.length
 | .tup xs,k=>-(xs.length:Int)<=k/\k<xs.length
 | .ints xs,k=>-(xs.length:Int)<=k/\k<xs.length
 |_,_=>False
theorem my.item {K:Fg}{H:Hp}{p:List PV}{vs:List V}{k:Int}(h:my K G H p vs)(a:-(p.length:Int)<=k)(c:k<p.length):∃v,atI vs k=so v/\At K G H (p.getD (j6 p.length k) .non) v:=by
 have l:=abM a c;have e:p[j6 p.length k]?=so (p.getD (j6 p.length k) .non):=by rw[gQ,ae l];rfl
 obtain⟨v,ev,d⟩:=h.at e;refine(v,?_,d);unfold atI;rw[<-h.length,yj a c];exact ev
theorem jF {g:En->PV}(y:PE X a (tX X.K G C g))(z:PE X b (lF X.K G x w))(A:PlainIx b):PE X (.Subscript a b pos) (tX X.K G (λd=>C d/\x d/\lY (g d) (w d)) λd=>vo (g d) (w d)):=
 rR (pe_ix ix_seq y z A) λB F H d O Q R c q=>two R c.1 c.2.1 λv u E i s m f k=>by
  have h:=c.2.2;revert f h q;generalize g d=D;intro q f h;cases D<;>first|exact h.elim|skip
  .obtain⟨p,e,r⟩:=f;exact .inl (p,_,_,_,e,k,.inl (jK jZ r),getD_at h.1 h.2,q _ i (s.trans m) rz)
  .obtain⟨p,o,e,r,t⟩:=f;obtain⟨n,l,j⟩:=t.item h.1 h.2;exact .inl (p,o,_,n,e,k,.inl (jK jZ r),l,q _ i (s.trans m) j)
  .obtain⟨p,o,e,r,t⟩:=f;obtain⟨n,l,j⟩:=t.item h.1 h.2;exact .inr (.inl (p,o,_,n,e,k,SqT.of (jZ _ _ r),l,q _ i (s.trans m) j))
theorem sZ (i:Nat)(j:X.N[i]?=so x:=by rfl)(l:Vis X.env.scope x:=by walk_at "v")
  (k:(x == ("__debug__":Str))=false:=by decide) (h:(x == ("__classdict__":Str))=false:=by decide):PT X (.Name x pos) (vz X.K G (λd=>Py d i) λd=>¬getL d i=[]):=
 λp s m H Q I (B,d,O,R,c,q)=>pt_truth (pe_var j l k h) (λ_=>rz) p s m H Q I (by
  obtain⟨a,f,g⟩:=R.W2 c;refine(_,f,_,.inl (_,g,rz),?_);have z:=q H (Same.refl H);have e:(!((getL d i).map V.int).isEmpty)=decide (¬getL d i=[]):=by cases getL d i<;>simp
  rw[e];exact z)
def qy:List PV->List Int
 | .int n::r=>n::qy r
 |_=>[]
def Ft:List PV->Prop
 |[]=>True
 | .int _::r=>Ft r
 |_=>False
theorem my.ints {K:Fg}{H:Hp}:∀{a:List PV} {vs:List V},my K G H a vs->Ft a->vs=(qy a).map V.int
 |[],_,h,_=>h
 |p::a,_,h,c=>by
  cases p<;>first|exact c.elim|skip
  obtain⟨v,r,rfl,e,t⟩:=h;rw[e,my.ints t c];rfl
theorem j8 {g:En->List PV}(h:PA X j (Nt X.K G C g))(k:∀d,(g d).length<=1000:=by intro _;exact eA rz):PE X (.List j pos) (CQ X.K G (λd=>C d/\Ft (g d)) λd=>qy (g d)):=
 Qn (pe_lst h) λB m H d O Q R c q=>(B,d,O,R,c.1,λv l s f=>(by rw[<-f.length];exact a7 (small1000 (k d)),λa i=>by
  have e:=f.ints c.2;refine q a _ (s.trans (same_new i _)) (s.free i) ?_;rw[upd_same,e]))
theorem oN (h:PA X j (Nt X.K G C g))(k:∀e,(g e).length<=1000:=by intro _;exact eA rz):PE X (.List j pos) (yE X.K G C g):=
 by rintro p s l H Q I ⟨B,e,O,R,c,q⟩;exact pe_lst h p s l H Q I (B,e,O,R,c,λv m i f=>(by rw[<-f.length];exact a7 (small1000 (k e)),λa d=>
  q a v _ (i.trans (same_new d _)) (i.free d) upd_same (my.mono (mO (same_new d _) d) _ _ f)))
theorem nj (h:PA X i (Nt X.K G C g))(j:∀d,(g d).length<=1000:=by intro _;exact eA rz):PE X (.Tuple i x1 pos) (tX X.K G C λd=>.tup (g d)):=
 rR (pe_tup h) λB l H d O Q R c q=>(B,d,O,R,c,λv k s f=>(by rw[<-f.length];exact a7 (small1000 (j d)),λa e=>by
  have o:O a=false:=by
   cases z:O a with
   |false=>rfl
   |true=>exact absurd (s.free e) (R.dom a z)
  refine q (.ref a) _ (s.trans (same_new e _)) (a,v,rz,by rw[pB o];exact upd_same,my.mono (lG (same_new e _)) _ _ f)))
theorem Jt (o:X.mg "list"=none)(m:PE X a (tX X.K G C g))(t:∀d,g d=.ints (ns d)\/g d=.scr (ns d))(n:Gl X "list":=by rfl)(h:starEach [a] X.env=[(false,eval a X.env)]:=by rfl) :
  PE X (.Call (.Name "list" p) [a] [] pos) (CQ X.K G C ns):=
 Qn (pe_callTy call_list_of n o YB (pa_cons m pa_nil h) (()) (()) h rz) λB u H d O Q R c q=>(B,d,O,R,c,λv j s f=>by
  have k:∃p,v=.ref p/\SqL X.K j p ((ns d).map V.int):=by
   rcases t d with z|z
   .rw[z]at f;obtain⟨p,e,r⟩:=f;exact(p,e,.inl (jK jZ r))
   .rw[z]at f;obtain⟨p,e,r⟩:=f;exact(p,e,jZ.seq r)
  obtain⟨p,rfl,r⟩:=k;exact(p,_,rz,.inl r,λl i=>q l _ (s.trans (same_new i _)) (s.free i) upd_same))
def qj (xs:List Int)(l h:Option Int):List Int:=(xs.drop (HT.sIx xs.length 0 l)).take (HT.sIx xs.length xs.length h-HT.sIx xs.length 0 l)
theorem VF (xs:Li)(l h:Option Int):cutV (xs.map V.int) l h=(qj xs l h).map V.int:=by unfold cutV qj;rw[ac,<-hZ,<-List.map_take]
def YH (K:Fg)(G:Gx)(C:En->Prop)(g:En->Option Int):TO:=λc H Q=>∃B a O,Rep K G B c H a O/\C a/\∀h,Same H h -> Q (g a) h
theorem mW:PO X none (YH X.K G (λ_=>True) λ_=>none):=by rintro p s a H Q I ⟨_,_,_,_,_,q⟩;exact po_none p s a H Q I (q H (Same.refl H))
theorem lK (h:PE X e (lF X.K G C g)):PO X (so e) (YH X.K G C λa=>so (g a)):=by rintro p s j H Q I ⟨B,a,O,R,c,q⟩;exact po_some h p s j H Q I (B,a,O,R,c,λ_ d i f=>(_,f,q d i))
theorem p7 {u t:Option Expr}{g:En->PV}{ns:En->List Int}{m j:En->Prop}{o n:En->Option Int}(x:PE X a (tX X.K G C g))(hl:PO X u (YH X.K G m o))(y:PO X t (YH X.K G j n))(A:∀d,C d->g d=.ints (ns d)\/g d=.scr (ns d)) :
  PE X (.Subscript a (.Slice u t none F) pos) (CQ X.K G (λd=>C d/\m d/\j d) λd=>qj (ns d) (o d) (n d)):=
 Qn (pe_slice sl_list x hl y) λB I H d O Q R c q=>(B,d,O,R,c.1,λv w s f=>(B,d,O,R.grow s,c.2.1,λD h=>(B,d,O,(R.grow s).grow h,c.2.2,λE i=>by
  have k:∃p,v=.ref p/\SqL X.K w p ((ns d).map V.int):=by
   rcases A d c.1 with z|z
   .rw[z]at f;obtain⟨p,e,r⟩:=f;exact(p,e,.inl (jK jZ r))
   .rw[z]at f;obtain⟨p,e,r⟩:=f;exact(p,e,jZ.seq r)
  obtain⟨p,rfl,r⟩:=k;refine(p,_,rz,(h.trans i).seq r,λl hl=>q l _ (((s.trans h).trans i).trans (same_new hl _)) (((s.trans h).trans i).free hl) ?_);rw[upd_same,VF])))
theorem Inv.zR {X:Cx}{p:List (Addr×Obj)}{a:L2.St}{H:Hp}{s:Shared}{l:Addr}{xs:List V}(I:Inv X p a H s)(h:Rd H l (.lst xs)):xs.length<=sizeLine/\∃(its:Lv) (n:Nat),Vals xs its/\xs.length=its.length/\s.heap.get? l=so { cls:=.type "list",data:=.seq its.toArray n }:=by obtain⟨z,its,n,r,e⟩:=h.ok I.hok;exact(z,its,n,r,r.length,e)
def ady:R2:=λx y H Q=>∃l b xs z,x=.ref l/\y=.ref b/\Rd H l (.lst xs)/\Rd H b (.lst z)/\xs.length+z.length<=sizeLine/\∀p,H p=none->Q (.ref p) (upd H p (.lst (xs++z)))
theorem RM:OpR X (binaryOp .Add) ady:=by
 rintro p s D H x y v u Q I m o ⟨l,b,xs,C,rfl,rfl,g,f,w,q⟩;cases m;cases o;obtain⟨z,a,n,r,t,e⟩:=Inv.zR I g;obtain⟨B,i,A,k,j,c⟩:=Inv.zR I f;refine PySem.P.add_list e c ?_ (by rw[aD,aD];lia);have d:a.toArray++i.toArray=(a++i).toArray:=by simp
 rw[d];exact(.ref _,_,I.lnew (t':=s.toks) (r.append k) (by rw[aS];lia),rz,q _ I.fresh)
theorem uT (k:PE X a (Jw X.K G C g))(m:PE X b (Jw X.K G f hl)):PE X (.BinOp a .Add b pos) (CQ X.K G (λd=>C d/\f d/\(g d).length+(hl d).length<=sizeLine) λd=>g d++hl d):=
 Qn (pe_op RM k m) λB w H d O Q R c q=>two R c.1 c.2.1 λv u o t s e i j=>by obtain⟨l,rfl,r⟩:=i;obtain⟨b,rfl,n⟩:=j;refine(l,b,_,_,rz,rz,jK jZ r,jK jZ n,by rw[ac,ac];exact c.2.2,λp h=>q p _ ((s.trans e).trans (same_new h _)) ((s.trans e).free h) ?_);rw[upd_same,bv]
theorem Kz {a:Type}(x:a):∀k:Nat,(sP k [x]).flatten=sP k x
 |0=>rfl
 |k+1=>by rw[cB,c8,Kz x k];rfl
theorem rW {h:En->List Int}{n:En->Int}(m:PE X a (CQ X.K G C h))(o:PE X b (lF X.K G j g))(r:∀d,h d=[n d]):PE X (.BinOp a .Mult b pos) (CQ X.K G (λd=>C d/\j d /\ -(2^63)<=g d/\(g d).toNat<=1000) λd=>sP (g d).toNat (n d)):=
 Qn (pe_op op_rep m o) λB x H d O Q R c q=>(B,d,O,R,c.1,λl t s w f=>(B,d,O,R.grow s,c.2.1,λu v e k=>by
  rw[r d]at f;refine(l,_,_,rz,k,e _ _ f,c.2.2.1,by have:=c.2.2.2;lia,?_,λp i=>q p _ ((s.trans e).trans (same_new i _)) ((s.trans e).free i) ?_)
  .rw[bi,i9,bI,Nat.one_mul];exact a7 (small1000 c.2.2.2)
  .rw[upd_same,bi,i9,Kz,List.map_replicate]))
def uE (K:Fg)(G:Gx)(pre:List PV->Prop)(F:List PV->PV):Sp:=λd H Q _=>∃c O,(∀a,O a=true->H a≠none)/\my K G (mn H O) c d/\pre c/\∀v h,Same H h -> At K G (mn h O) (F c) v->Q v h
def Ff (K:Fg)(G:Gx)(pre:List PV->Prop)(F:List PV->List Int):Sp:=λv H Q _=>∃c O,(∀a,O a=true->H a≠none)/\my K G (mn H O) c v/\pre c/\∀a h,Same H h -> H a=none->h a=so (.lst ((F c).map V.int))->Q (.ref a) h
theorem xc (o:Ok X.prog X.w X.K X.mg X.base j x A (uE X.K G pre F))(w:Room k X.A)(n:PA X (e::d) (Nt X.K G C g))(u:j<=k:=by decide)(t:Gl X x:=by rfl)(h:(x == ("__debug__":Str))=false:=by decide)
  (r:starEach (e::d) X.env=(false,eval e X.env)::starEach d X.env:=by rfl) (f:(backTo pos (starEach d X.env)).any (·.1)=false:=by rfl) :
  PE X (.Call (.Name x p) (e::d) [] pos) (tX X.K G (λa=>C a/\pre (g a)) λa=>F (g a)):=
 rR (p6 o w n u t h r f) λB E H a O Q R c q=>(B,a,O,R,c.1,λD z s l=>by
  dsimp only;rw[bY];exact(g a,O,(R.grow s).dom,l,c.2,λv i y m=>q v i (s.trans y) m))
theorem m6 (o:Ok X.prog X.w X.K X.mg X.base j x D (Ff X.K G pre F))(w:Room k X.A)(r:PA X (e::f) (Nt X.K G C g))(v:j<=k:=by decide)(u:Gl X x:=by rfl)(h:(x == ("__debug__":Str))=false:=by decide)
  (t:starEach (e::f) X.env=(false,eval e X.env)::starEach f X.env:=by rfl) (i:(backTo pos (starEach f X.env)).any (·.1)=false:=by rfl) :
  PE X (.Call (.Name x p) (e::f) [] pos) (CQ X.K G (λd=>C d/\pre (g d)) λd=>F (g d)):=
 Qn (p6 o w r v u h t i) λB I H d O Q R c q=>(B,d,O,R,c.1,λE A s m=>by
  dsimp only;rw[bY];exact(g d,O,(R.grow s).dom,m,c.2,λa l z y n=>q a l (s.trans z) (s.free y) n))
def nq (N:List Str)(as:List PV):En:=as.map Sl.fr++sP (N.length-as.length) .un
theorem qw {K:Fg}{G:Gx}{H:Hp}{O:Addr->Bool}{as:List PV}{vs:List V}{N:Ls}(f:∀a,O a=true->H a≠none)(h:my K G (mn H O) as vs):Rep K G (H,O) (L2.start N vs) H (nq N as) O:=by
 have g:=h.length;refine(Same.refl H,f,λ_ z=>z,f,λ_ z=>.inl z,λi p e=>?_,λi p e=>?_,λi j p q a e=>?_,by unfold L2.start nq;simp[g],λi x e=>?_)
 .unfold nq at e;by_cases c:i<as.length
  .rw[bB (by rw[ac];exact c),ag]at e;cases d:as[i]? with
   |none=>rw[d]at e;cases e
   |some l=>rw[d]at e;cases e;obtain⟨v,ev,k⟩:=h.at d;refine(v,?_,k);unfold L2.start;rw[bB (by rw[ac,<-g];exact c),ag,ev];rfl
  .rw[bD (by rw[ac];lia),cI]at e;split at e<;>cases e
 .exfalso;unfold nq at e;by_cases c:i<as.length
  .rw[bB (by rw[ac];exact c),ag]at e;cases d:as[i]? <;> rw[d]at e<;>cases e
  .rw[bD (by rw[ac];lia),cI]at e;split at e<;>cases e
 .exfalso;unfold nq at e;by_cases c:i<as.length
  .rw[bB (by rw[ac];exact c),ag]at e;cases d:as[i]? <;> rw[d]at e<;>cases e
  .rw[bD (by rw[ac];lia),cI]at e;split at e<;>cases e
 .exfalso;unfold nq at e;by_cases c:i<as.length
  .rw[bB (by rw[ac];exact c),ag]at e;cases d:as[i]? <;> rw[d]at e<;>cases e
  .rw[bD (by rw[ac];lia),cI]at e;split at e<;>cases e
section
variable {P:Program}{w:World}{K:Fg}{mg:Mg}{base:Heap}{G:Gx}
theorem pX {x:Str}{st:Stmt}{N l:Ls}{k:Nat}{pre:List PV->Prop}{F:List PV->PV}(d:lN K mg x st l)(S:FnScope N l (defScope st))(len:∀as,pre as->as.length=l.length)
  (i:∀(f:Addr) (g:Value) (A:Around) (outer:List Env) (s:Shared) (H:Hp) (E:XK),Room k (A.deeper (envOfC x (defScope st) s.heap.objs.size f g)) -> ∃fs,PSs (cxOf CX0 P w K mg base N x (defScope st) f g A outer s H E).nox (defBody st) (ts K G ER0 fs)/\∀as,pre as->fs { nx:=λ_=>F as=.non,rt:=λp=>p=F as,rl:=λns=>F as=.ints ns } (nq N as)):Ok P w K mg base (k+1) x l (uE K G pre F):=by
 refine lN.ok d S (λC H Q E h=>?_) λf g A outer s H C Q E B h=>?_
 .obtain⟨as,O,_,m,o,_⟩:=h;rw[<-m.length];exact len as o
 obtain⟨as,O,u,m,o,q⟩:=h;obtain⟨fs,b,c⟩:=i f g A outer s H E B;refine(_,b,(H,O),nq N as,_,(O,qw u m),c as o,(λI j D r h=>?_,λv j p t y h=>?_,λa j ns t n e h=>?_,λ_ _ _ _ _ h=>h.elim,λ_ _ _ _ h=>h,λ_ _ _ _ h=>h,λ_ _ _ h=>h))
 .obtain⟨J,r⟩:=r;exact q .non j r.same (by rw[show F as=.non from h];rfl)
 .subst h;exact q v j t y
 .refine q _ j t ?_;rw[h];exact(a,rz,.inl (by
   rw[pB]
   .exact e
   .cases z:O a with
    |false=>rfl
    |true=>exact absurd n (u a z)))
theorem GJ {x:Str}{st:Stmt}{N p:Ls}{k:Nat}{pre:List PV->Prop}{F:List PV->List Int}(d:lN K mg x st p)(S:FnScope N p (defScope st))(len:∀as,pre as->as.length=p.length)
  (i:∀(f:Addr) (g:Value) (A:Around) (outer:List Env) (s:Shared) (H:Hp) (E:XK),Room k (A.deeper (envOfC x (defScope st) s.heap.objs.size f g)) -> ∃fs,PSs (cxOf CX0 P w K mg base N x (defScope st) f g A outer s H E).nox (defBody st) (ts K G ER0 fs)/\∀as,pre as->fs { nx:=λ_=>False,rt:=λ_=>False,rl:=λns=>ns=F as } (nq N as)):Ok P w K mg base (k+1) x p (Ff K G pre F):=by
 refine lN.ok d S (λv H Q E h=>?_) λf g A outer s H v Q E r h=>?_
 .obtain⟨as,O,_,j,l,_⟩:=h;rw[<-j.length];exact len as l
 obtain⟨as,O,o,j,l,q⟩:=h;obtain⟨fs,b,c⟩:=i f g A outer s H E r;refine(_,b,(H,O),nq N as,_,(O,qw o j),c as l,(λ_ _ _ _ h=>h.elim,λ_ _ _ _ _ h=>h.elim,λa m ns t n e h=>?_,λ_ _ _ _ _ h=>h.elim,λ_ _ _ _ h=>h,λ_ _ _ _ h=>h,λ_ _ _ h=>h));subst h;exact q a m t n e
end
def spM (pre:List Int->Prop)(F:List Int->List Int):Sp:=λv H Q _=>∃a n,v=[.ref a]/\H a=so (.lst (n.map V.int))/\pre n/\∀h,(∀b o,b≠a->H b=so o->h b=so o)->h a=so (.lst ((F n).map V.int))->Q .non h
theorem abv (h:∀b o,b≠a->H b=so o->d b=so o)(e:d a=so o):Same (upd H a o) d:=uL λb u z=>by
 by_cases c:b=a
 .subst c;rw[upd_same]at z;cases z;exact e
 .rw[upd_ne c]at z;exact h b u c z
theorem Dm (i:Nat)(M:PE X e (lF X.K G C g))(J:X.N[i]?=so x:=by rfl)(N:Vis X.env.scope x:=by walk_at "v")
  (L:(x == ("__debug__":Str))=false:=by decide) (m:(x == ("__classdict__":Str))=false:=by decide)
  (f:attributeBase (.Name x l) "append" X.env (eval (.Name x l) X.env)=eval (.Name x l) X.env:=by rfl)
  (k:((backTo p (starEach (e::[]) X.env)).all (λx=>!x.1) && (backToKw p (keywordEach [] X.env)).all (λx=>x.1.isSome) && decide ((e::[]).length+([]:List Keyword).length+(if ([]:List Keyword).isEmpty then 0 else 1)<30))=true:=by rfl)
  (j:(u.endLine == p.line)=true:=by rfl) (t:starEach (e::[]) X.env=(false,eval e X.env)::starEach [] X.env:=by rfl) (h:(backTo p (starEach [] X.env)).any (·.1)=false:=by rfl)
  (n:swapsWith (.Call (.Attribute (.Name x l) "append" u) [e] [] p) none pos.line X.env=pure false:=by rfl) :
  PS X (.Expr (.Call (.Attribute (.Name x l) "append" u) [e] [] p) pos) (ts X.K G S λP d=>Z5 d i/\C d/\(getL d i).length<sizeLine/\P.nx (d.set i (.ow (.ints (getL d i++[g d]))))):=
 toS (ps_expr (pe_bm cj eY eZ mt_append (pe_var J N L m) (pa_cons M pa_nil t) f k j t h) n) λB Q H d O P D R c w=>by obtain⟨o,A,E,F⟩:=c;obtain⟨a,Z,r,U,Y,s,I⟩:=R.ow i _ o;subst I;refine(_,r,.inl (rz,_,SqL.of s),B,d,O,R,A,λv T y z=>?_);subst z;refine(a,_,_,rz,rz,y _ _ s,by rw[ac];exact E,w.nx Q _ _ (O,(R.grow y).change o r (p':=.ints (getL d i++[g d])) ?_) F);show _=(getL d i++[g d]).map V.int;rw[bv];rfl
theorem Zm (i:Nat)(t:X.N[i]?=so x:=by rfl)(v:Vis X.env.scope x:=by walk_at "v")
  (u:(x == ("__debug__":Str))=false:=by decide) (f:(x == ("__classdict__":Str))=false:=by decide)
  (h:attributeBase (.Name x p) "pop" X.env (eval (.Name x p) X.env)=eval (.Name x p) X.env:=by rfl) (e:(m.endLine == n.line)=true:=by rfl)
  (g:swapsWith (.Call (.Attribute (.Name x p) "pop" m) [] [] n) none pos.line X.env=pure false:=by rfl) :
  PS X (.Expr (.Call (.Attribute (.Name x p) "pop" m) [] [] n) pos) (ts X.K G E λP d=>Z5 d i/\getL d i≠[]/\P.nx (d.set i (.ow (.ints (getL d i).dropLast)))):=
 toS (ps_expr (pe_bm0 cj fP fQ mt_pop (pe_var t v u f) h e) g) λB y H d O P D R c w=>by
  obtain⟨j,o,r⟩:=c;obtain⟨a,F,k,z,A,l,s⟩:=R.ow i _ j;subst s;have C:0<(getL d i).length:=lP o;refine(_,k,.inl (rz,_,SqL.of l),a,_,V.int ((getL d i)[(getL d i).length-1]'()),rz,rz,l,?_,w.nx y _ _ (O,R.change j k (p':=.ints (getL d i).dropLast) ?_) r)
  .rw[ac,ag,ae ()];rfl
  .show _=(getL d i).dropLast.map V.int;rw[g9]
theorem um (i:Nat)(Q:PE X b (lF X.K G n h))(N:PE X e (lF X.K G C g))(J:X.N[i]?=so x:=by rfl)(T:Vis X.env.scope x:=by walk_at "v")
  (M:(x == ("__debug__":Str))=false:=by decide) (j:(x == ("__classdict__":Str))=false:=by decide)
  (L:∀v,assign (.Subscript (.Name x f) b p) X.env v=(do
   let ov <-holding [v] (eval (.Name x f) X.env)
   let iv <-holding [v,ov] (eval b X.env)
   standAt p
   holding [v,ov,iv] (setItem ov iv v)
   release [v,ov,iv] []):=by intro _;rfl)
  (S:swapsWithSole [.Subscript (.Name x f) b p] e pos.line X.env=pure false:=by rfl) (U:swappedStores [.Subscript (.Name x f) b p] e X.env=pure none:=by rfl)
  (I:(assignEach [.Subscript (.Name x f) b p] X.env).map (·.2)=[assign (.Subscript (.Name x f) b p) X.env]:=by rfl) :
  PS X (.Assign [.Subscript (.Name x f) b p] e pos) (ts X.K G Er λP d=>C d/\Z5 d i/\n d/\(-((getL d i).length:Int)<=h d/\h d<((getL d i).length:Int))/\P.nx (d.set i (.ow (.ints ((getL d i).set (j6 (getL d i).length (h d)) (g d)))))):=
 toS (ps_asg N (pg_sub (pe_var J T M j) Q set_list L) S U I) λB Z H d O P D R c w=>by obtain⟨y,k,z,l,A⟩:=c;refine(B,d,O,R,y,λv H1 Y o=>?_);subst o;have r:=R.grow Y;obtain⟨a,vs,m,e2,e3,E,F⟩:=r.ow i _ k;subst F;refine(_,m,B,d,O,r,z,λu H2 s t=>?_);subst t;refine(a,_,_,_,rz,rz,s _ _ E,by rw[ac];exact yj l.1 l.2,w.nx Z _ _ (O,(r.grow s).change k m (p':=.ints _) ?_) A);show _=((getL d i).set _ _).map V.int;rw[gG]
theorem QL (i:Nat)(o:Ok X.prog X.w X.K X.mg X.base j y Z (spM pre F))(J:Room k X.A)(I:j<=k:=by decide)(E:Gl X y:=by rfl)
  (A:X.N[i]?=so x:=by rfl) (L:Vis X.env.scope x:=by walk_at "v") (C:(x == ("__debug__":Str))=false:=by decide) (h:(x == ("__classdict__":Str))=false:=by decide)
  (e:(y == ("__debug__":Str))=false:=by decide) (n:starEach (.Name x p::[]) X.env=(false,eval (.Name x p) X.env)::starEach [] X.env:=by rfl) (f:(backTo r (starEach [] X.env)).any (·.1)=false:=by rfl)
  (g:swapsWith (.Call (.Name y Q) [.Name x p] [] r) none pos.line X.env=pure false:=by rfl) :
  PS X (.Expr (.Call (.Name y Q) [.Name x p] [] r) pos) (ts X.K G T λP d=>Z5 d i/\pre (getL d i)/\P.nx (d.set i (.ow (.ints (F (getL d i)))))):=
 toS (ps_expr (p6 o J (pa_cons (pe_var A L C h) pa_nil n) I E e n f) g) λB S H d O P D R c w=>by obtain⟨l,t,u⟩:=c;obtain⟨a,vs,m,U,Y,v,z⟩:=R.ow i _ l;subst z;exact(_,m,a,_,rz,v,t,λs M N=>w.nx S s _ (O,(R.change l m (p':=.ints _) rz).grow (abv M N)) u)
def jT (cap:List (Option Nat))(a:En):En:=cap.map λo=>match o with
 |some i=>(match a[i]? with
  |some (.fr p)=>.fr p
  |_=>.un)
 |none=>.un
section
variable {K:Fg}
theorem Ht (R:Rep K G B g h r O)(f:h D=none)(s:Same h H)(n:H D≠none):Rep K G (h,O) (pO cap g) H (jT cap r) (hide D O):=by
 refine(s,R.dom,oX,λa z y=>?_,λa z=>?_,λj p e=>?_,λj p e=>?_,λi j p q a e=>?_,by unfold pO jT;rw[ac,ac],λj x e=>?_)
 .by_cases c:a=D
  .subst c;exact n y
  .rw[hide_ne c]at z;exact R.dom a z (s.free y)
 .by_cases c:a=D
  .subst c;exact .inr f
  .rw[hide_ne c]at z;exact .inl z
 .unfold jT at e;rw[ag]at e;cases d:cap[j]? with
  |none=>rw[d]at e;cases e
  |some o=>
   rw[d]at e;cases o with
   |none=>cases e
   |some i=>
    have e:=aJ e;dsimp only at e;split at e
    .rename_i t m;cases e;obtain⟨v,k,l⟩:=R.fr i p m;refine(v,?_,At.mono (mO s f) _ _ l);unfold pO;rw[ag,d];show so ((g[i]?).join)=so (so v);rw[k];rfl
    .cases e
 .exfalso;unfold jT at e;rw[ag]at e;cases d:cap[j]? with
  |none=>rw[d]at e;cases e
  |some o=>
   rw[d]at e;cases o with
   |none=>cases e
   |some i=>have e:=aJ e;dsimp only at e;split at e<;>cases e
 .exfalso;unfold jT at e;rw[ag]at e;cases d:cap[i]? with
  |none=>rw[d]at e;cases e
  |some o=>
   rw[d]at e;cases o with
   |none=>cases e
   |some i=>have e:=aJ e;dsimp only at e;split at e<;>cases e
 .exfalso;unfold jT at e;rw[ag]at e;cases d:cap[j]? with
  |none=>rw[d]at e;cases e
  |some o=>
   rw[d]at e;cases o with
   |none=>cases e
   |some i=>have e:=aJ e;dsimp only at e;split at e<;>cases e
theorem nM:∀a:L2.St,FW a a
 |[]=>tT
 |none::r=>nM r
 |some _::r=>(rz,nM r)
variable {d:Type}
theorem tW (items:List d)(s:d->V->L2.St)(c:d->En)(p:d->V)(R:Rep K G B E j ρ O)(F:j D=none)(S:items.length<=1000)(L:∀i H,i<items.length->Same j H->J.go i H)
  (w:∀i a x H h,items[i]?=so a->Same j H->J.yld i H x h -> Same H h/\∀k:L2.St->Hp->Prop,k (s a (p a)) h -> g x (pO cap E) h k) (n:∀H,Same j H->J.stop items.length H)
  (u:∀a H,a∈items->Same j H->Rep K G (j,O) (pO cap E) H (jT cap ρ) (hide D O)->Rep K G (j,O) (s a (p a)) H (c a) (hide D O)) (t:∀a,FW (pO cap E) (s a (p a))) (U:∀a∈items,C (c a))
  (Y:∀h ys,Same j h -> h D=so (.lst ys)->my K G (mn h (hide D O)) (items.map λa=>P (c a)) ys->Q (.ref D) h) :
  ∃W:Nat->Nat->List V->Hp->Prop,(∃m,W 0 m [] (upd j D (.lst [])))/\lcW D J (pO cap E) g uU (tX K G C P) Q W:=by
 refine(λi m ys H=>m=items.length-i/\i<=items.length/\Same j H/\H D=so (.lst ys)/\my K G (mn H (hide D O)) ((items.take i).map λa=>P (c a)) ys,(items.length,by simp,bp _,same_new F _,upd_same,rz),?_);rintro i m ys H ⟨rfl,hi,l,I,A⟩;have hl:ys.length=i:=by rw[<-A.length,ac,cu];lia
 refine(I,small1000 (),?_);by_cases f:i<items.length
 .refine .inr (L i H f l,?_);intro x h Z;have N:items[i]?=so items[i]:=ae f;obtain⟨y,kk⟩:=w i _ x H h N l Z;refine kk _ (t _,?_);refine iteT ?_;have r:=y _ _ I;have R2:=u items[i] h (bR f) (l.trans y) (Ht R F (l.trans y) (by rw[r];exact λz=>by cases z));refine(_,_,_,R2,U _ (bR f),λv H2 M T=>(M _ _ r,items.length-(i+1),(),rz,f,?_,upd_same,?_))
  .intro b o z;rw[upd_ne (ne_of_none z F)];exact((l.trans y).trans M) b o z
  .rw[vO hide_self,pY N,bv];exact my.snoc (my.mono (lG (y.trans M)) _ _ A) T
 .have e:i=items.length:=()
  subst e;refine .inl (n H l,Y H ys l I ?_);rw[cw]at A;exact A
theorem Ef:∀{l:List d} {ys:List V},my K G H (l.map λx=>.int (gi x)) ys->ys=(l.map gi).map V.int
 |[],_,h=>h
 |x::r,_,h=>by obtain⟨v,t,rfl,e,q⟩:=h;rw[e,Ef q];rfl
end
section
variable {K:Fg}
theorem acK (h:yE K G (λc=>o c/\(g c).length<=1000/\∀n∈g c,C ((jT (none::cap) c).set 0 (.fr (.int n)))) (λc=>(g c).map λn=>E ((jT (none::cap) c).set 0 (.fr (.int n)))) m H Q) :
  Uw (none::cap) (iList K (Jw K G o g)) (gName 0) uU (tX K G C E) m H Q:=by
 obtain⟨B,c,O,R,⟨y,z,A⟩,q⟩:=h;refine(B,c,O,R,y,λv r e u=>?_);obtain⟨a,rfl,M⟩:=u;have d:SqL K r a ((g c).map V.int):=.inl (jK jZ M);refine(a,rz,(_,d),λD l=>?_);refine tW (g c) (λ_ v=>(pO (none::cap) m).set 0 (so v)) (λn=>(jT (none::cap) c).set 0 (.fr (.int n))) V.int (R.grow e) l z (λi H I s=>(_,.int (g c)[i],s.seq d,by simp[I])) ?_ (λH s=>(_,s.seq d,by simp)) (λn H _ s t=>t.set (p:=.int n) rz) ?_ A ?_
 .rintro i n x H f j s ⟨rfl,N⟩;obtain⟨S,rfl,L⟩:=int_at (N _ (s.seq d));rw[L]at j;cases j;exact(Same.refl _,λk J=>J)
 .intro n;exact nM _
 .intro f P s F w;exact q D P f (e.trans s) (e.free l) F w
theorem aeL (h:yE K G (λc=>z c/\(g c).length<=1000/\∀k:Nat,∀n,(g c)[k]?=so n->C (((jT (none::none::cap) c).set 0 (.fr (.int k))).set 1 (.fr (.int n)))) (λc=>(g c).mapIdx λk n=>l (((jT (none::none::cap) c).set 0 (.fr (.int k))).set 1 (.fr (.int n)))) w H Q) :
  Uw (none::none::cap) (WK K (tCons (Jw K G z g) tNil)) (gTup K 2 (gCons (gName 0) (gCons (gName 1) gNil))) uU (tX K G C l) w H Q:=by
 obtain⟨B,c,O,R,⟨J,L,M⟩,q⟩:=h;refine(B,c,O,R,J,λv A o F=>?_);obtain⟨a,rfl,U⟩:=F;have d:SqL K A a ((g c).map V.int):=.inl (jK jZ U);refine(a,rz,(_,d),λD t=>?_);have m:((g c).zipIdx).length=(g c).length:=gH;refine tW ((g c).zipIdx) (λp _=>((pO (none::none::cap) w).set 0 (so (.int p.2))).set 1 (so (.int p.1))) (λp=>((jT (none::none::cap) c).set 0 (.fr (.int p.2))).set 1 (.fr (.int p.1))) (λp=>.int p.1) (R.grow o) t (by rw[m];exact L)
  (λi H j s=>(_,.int ((g c)[i]'(by rw[m]at j;exact j)),s.seq d,by rw[m]at j;simp[j])) ?_ (λH s=>(_,s.seq d,by simp)) (λp H _ s E=>(E.set (p:=.int p.2) rz).set (p:=.int p.1) rz) ?_ ?_ ?_
 .rintro i ⟨n,k⟩ x H r f s ⟨T,y,rfl,N,rfl,Y⟩;obtain⟨Z,rfl,S⟩:=int_at (Y _ (s.seq d));rw[fX,S]at f;have f:Prod.mk Z (0+i)=(n,k):=aJ f;cases f;refine(same_new N _,λkk u=>(T,_,rz,SqT.of upd_same,rz,_,_,rz,_,_,rz,rz,?_));rw[je]at u;exact u
 .rintro⟨n,k⟩;exact nM _
 .rintro⟨n,k⟩ hm;have:=List.mem_zipIdx_iff_getElem?.mp hm;exact M k n this
 .intro r ys s P I;refine q D ys r (o.trans s) (o.free t) P ?_;have e:((g c).mapIdx λk n=>l (((jT (none::none::cap) c).set 0 (.fr (.int k))).set 1 (.fr (.int n))))=(g c).zipIdx.map λp=>l (((jT (none::none::cap) c).set 0 (.fr (.int p.2))).set 1 (.fr (.int p.1))):=by rw[eN]
  dsimp only;rw[e];exact I
theorem ZM (h:yE K G (λa=>t a/\(0<=g a/\g a<=1000)/\∀k:Nat,k<(g a).toNat->C ((jT (none::cap) a).set 0 (.fr (.int k)))) (λa=>(ss (g a).toNat).map λ(k:Nat)=>E ((jT (none::cap) a).set 0 (.fr (.int k)))) r H Q) :
  Uw (none::cap) (iRng1 (tCons (lF K G t g) tNil)) (gName 0) uU (tX K G C E) r H Q:=by
 obtain⟨B,a,O,R,⟨z,L,A⟩,q⟩:=h;refine(B,a,O,R,z,λv J l w=>?_);subst w;have c:(ss (g a).toNat).length=(g a).toNat:=aC;refine(g a,rz,(),(),λD n=>?_);refine tW (ss (g a).toNat) (λ_ v=>(pO (none::cap) r).set 0 (so v)) (λ(k:Nat)=>(jT (none::cap) a).set 0 (.fr (.int k))) (λ(k:Nat)=>.int k) (R.grow l) n (by rw[c];lia) (λi H o s=>by rw[c]at o;exact o) ?_ (λH s=>by rw[c];exact ao _) (λk H _ s u=>u.set (p:=.int k) rz) ?_ ?_ ?_
 .rintro i k x H m d s ⟨rfl,rfl⟩;have j:i<(g a).toNat:=by have:=(ah.mp d).1;rw[c]at this;exact this
  rw[bU j]at d;cases d;refine(Same.refl _,λM f=>?_);have e:(0:Int)+(i:Nat)=i:=()
  rw[e];exact f
 .intro k;exact nM _
 .intro k f;exact A k (bA.mp f)
 .intro m I s F y;exact q D I m (l.trans s) (l.free n) F y
theorem yu {C:En->Prop}{g:Type}{f:En->List g}{gi:En->g->Int}(h:CQ K G C (λd=>(f d).map (gi d)) k H Q):yE K G C (λd=>(f d).map λx=>.int (gi d x)) k H Q:=by obtain⟨B,d,O,R,c,q⟩:=h;refine(B,d,O,R,c,λa v i s n e j=>q a i s n ?_);rw[e,Ef j]
theorem Zj {C:En->Prop}{f:En->List Int}{gi:En->Nat->Int->Int}(h:CQ K G C (λd=>(f d).mapIdx (gi d)) j H Q):yE K G C (λd=>(f d).mapIdx λk x=>.int (gi d k x)) j H Q:=by obtain⟨B,d,O,R,c,q⟩:=h;refine(B,d,O,R,c,λa v i s n e g=>q a i s n ?_);dsimp only at g ⊢;rw[eN]at g;rw[e,Ef (gi:=λp:Int×Nat=>gi d p.2 p.1) g,eN]
end
theorem pQ (L:sU X N' sc cl (none::cap))(i:X.calm=true)(l:PE X c (Jw X.K G d g))(k:∀s H fp,PG (jP X N' sc cl s H fp) t (gName 0))(j:∀s H fp,PE (jP X N' sc cl s H fp) f (lF X.K G C gi))(m:∀x,foldedSetIterable c X.env x=pure x:=by intro _;rfl) :
  PE X (.ListComp f [(t,c,[],0)] sc e) (CQ X.K G (λa=>d a/\(g a).length<=1000/\∀n∈g a,C ((jT (none::cap) a).set 0 (.fr (.int n)))) λa=>(g a).map λn=>gi ((jT (none::cap) a).set 0 (.fr (.int n)))):=
 λp s o H Q I h=>xU L i (pi_list l) k (λ_ _ _=>m7) j m p s o H Q I (acK (yu h))
theorem abW (L:sU X N' sc cl (none::none::cap))(o:X.calm=true)(i:Gl X "enumerate")(v:X.mg "enumerate"=none)(u:PE X a (Jw X.K G j g))
  (t:∀s H fp,PG (jP X N' sc cl s H fp) (.Tuple els kk tp) (gTup X.K 2 (gCons (gName 0) (gCons (gName 1) gNil)))) (r:∀s H fp,PE (jP X N' sc cl s H fp) m (lF X.K G C gi)) (d:starEach [a] X.env=[(false,eval a X.env)]:=by rfl)
  (w:∀x,foldedSetIterable (.Call (.Name "enumerate" p) [a] [] f) X.env x=pure x:=by intro _;rfl) :
  PE X (.ListComp m [(.Tuple els kk tp,.Call (.Name "enumerate" p) [a] [] f,[],0)] sc l) (CQ X.K G (λc=>j c/\(g c).length<=1000/\∀k:Nat,∀n,(g c)[k]?=so n->C (((jT (none::none::cap) c).set 0 (.fr (.int k))).set 1 (.fr (.int n)))) λc=>(g c).mapIdx λk n=>gi (((jT (none::none::cap) c).set 0 (.fr (.int k))).set 1 (.fr (.int n)))):=
 λe s y H Q I h=>xU L o (CP i v (pa_cons u pa_nil d) d) t (λ_ _ _=>m7) r w e s y H Q I (aeL (Zj h))
theorem acs (L:sU X N' sc cl (none::cap))(n:X.calm=true)(i:Gl X "range")(u:X.mg "range"=none)(t:PE X a (lF X.K G j g))(r:∀s H fp,PG (jP X N' sc cl s H fp) w (gName 0))(o:∀s H fp,PE (jP X N' sc cl s H fp) m (lF X.K G C gi))
  (d:starEach [a] X.env=[(false,eval a X.env)]:=by rfl) (v:∀x,foldedSetIterable (.Call (.Name "range" p) [a] [] f) X.env x=pure x:=by intro _;rfl) :
  PE X (.ListComp m [(w,.Call (.Name "range" p) [a] [] f,[],0)] sc l) (CQ X.K G (λc=>j c/\(0<=g c/\g c<=1000)/\∀k:Nat,k<(g c).toNat->C ((jT (none::cap) c).set 0 (.fr (.int k)))) λc=>(ss (g c).toNat).map λ(k:Nat)=>gi ((jT (none::cap) c).set 0 (.fr (.int k)))):=
 λe s y H Q I h=>xU L n (pi_range1 i u (pa_cons t pa_nil d) d) r (λ_ _ _=>m7) o v e s y H Q I (ZM (yu h))
theorem acd {t:TE}{st:Stmt}{C:En->Prop}{g:En->List Int}(h:PS X st (tAsg t (gName i)))(k:∀e H Q,CQ X.K G C g e H Q->t e H Q):PS X st (ts X.K G E λP d=>C d/\∀ns,ns=g d->P.nx (d.set i (.ow (.ints ns)))):=
 toS h λB e H d O P D R c w=>k e H _ (B,d,O,R,c.1,λa f s n j=>w.nx _ f _ (hide a O,R.new (p:=.ints (g d)) s n j rz) (c.2 _ rz))
theorem aaP {t:TE}{st:Stmt}{C:En->Prop}{g:En->List Int}(h:PS X st (tAsg t (gName i)))(k:∀e H Q,CQ X.K G C g e H Q->t e H Q):PS X st (ts X.K G E λP d=>C d/\∀ns,ns=g d->P.nx (d.set i (.fr (.ints ns)))):=
 toS h λB e H d O P D R c w=>k e H _ (B,d,O,R,c.1,λa f s n j=>w.nx _ f _ (O,(R.grow s).set (p:=.ints _) (a,rz,.inl (by
  rw[pB]
  .exact j
  .cases z:O a with
   |false=>rfl
   |true=>exact absurd n (R.dom a z)))) (c.2 _ rz))
theorem CV (m:X.N.Nodup)(f:X.N[i]?=so x)(w:X.env.scope.names.lookup x=so .local)(L:sU X N' sc cl (none::cap))(o:X.calm=true)(u:PE X a (Jw X.K G l g))(r:∀s H fp,PG (jP X N' sc cl s H fp) t (gName 0))(p:∀s H fp,PE (jP X N' sc cl s H fp) k (lF X.K G C gi))
  (j:swapsWith (.ListComp k [(t,a,[],0)] sc e) (so (.Name x y)) d.line X.env=pure true) (v:∀x,foldedSetIterable a X.env x=pure x:=by intro _;rfl) :
  PS X (.Assign [.Name x y] (.ListComp k [(t,a,[],0)] sc e) d) (ts X.K G E λP c=>(l c/\(g c).length<=1000/\∀n∈g c,C ((jT (none::cap) c).set 0 (.fr (.int n))))/\∀ns,ns=((g c).map λn=>gi ((jT (none::cap) c).set 0 (.fr (.int n))))->P.nx (c.set i (.ow (.ints ns)))):=
 acd (Bk m f w L o (pi_list u) r (λ_ _ _=>m7) p j v) λz H Q h=>acK (yu h)
theorem Wd (u:X.N.Nodup)(m:X.N[i]?=so x)(D:X.env.scope.names.lookup x=so .local)(L:sU X N' sc cl (none::cap))(v:X.calm=true)(l:Gl X "range")(A:X.mg "range"=none)(z:PE X a (lF X.K G r g))(y:∀s H fp,PG (jP X N' sc cl s H fp) t (gName 0))(w:∀s H fp,PE (jP X N' sc cl s H fp) o (lF X.K G C gi))
  (n:swapsWith (.ListComp o [(t,.Call (.Name "range" p) [a] [] c,[],0)] sc j) (so (.Name x E)) f.line X.env=pure true) (e:starEach [a] X.env=[(false,eval a X.env)]:=by rfl) (B:∀x,foldedSetIterable (.Call (.Name "range" p) [a] [] c) X.env x=pure x:=by intro _;rfl) :
  PS X (.Assign [.Name x E] (.ListComp o [(t,.Call (.Name "range" p) [a] [] c,[],0)] sc j) f) (ts X.K G F λP d=>(r d/\(0<=g d/\g d<=1000)/\∀k:Nat,k<(g d).toNat->C ((jT (none::cap) d).set 0 (.fr (.int k))))/\∀ns,ns=((ss (g d).toNat).map λ(k:Nat)=>gi ((jT (none::cap) d).set 0 (.fr (.int k))))->P.nx (d.set i (.fr (.ints ns)))):=
 aaP (Bk u m D L v (pi_range1 l A (pa_cons z pa_nil e) e) y (λ_ _ _=>m7) w n B) λI H Q h=>ZM (yu h)
theorem jD {k:En->Prop}(h:a=ρ')(q:k ρ'):k a:=by rw[h];exact q
theorem zZ (j:X.mg "abs"=none)(g:PE X a (lF X.K G C gi))(i:Gl X "abs":=by rfl)(h:starEach [a] X.env=[(false,eval a X.env)]:=by rfl):PE X (.Call (.Name "abs" p) [a] [] pos) (lF X.K G C λd=>if gi d<0 then -gi d else gi d):=
 rR (pe_callB call_abs i j aa1 (pa_cons g pa_nil h) (()) (()) h rz) λB k H d O Q R c q=>(B,d,O,R,c,λv e s f=>by
  subst f;exact(_,rz,q _ e s rz))
theorem Xa (h:X.calm=true)(t:X.mg "max"=none)(n:PE X a (lF X.K G C gi))(o:PE X b (lF X.K G j g))(r:Gl X "max":=by rfl)(i:starEach [a,b] X.env=(false,eval a X.env)::starEach [b] X.env:=by rfl)(e:starEach [b] X.env=[(false,eval b X.env)]:=by rfl)(f:(backTo pos (starEach [b] X.env)).any (·.1)=false:=by rfl) :
  PE X (.Call (.Name "max" p) [a,b] [] pos) (lF X.K G (λd=>C d/\j d) λd=>if g d > gi d then g d else gi d):=
 rR (pe_callB (call_max2 h) r t aca (pa_cons n (pa_cons o pa_nil e) i) (()) (()) i f) λB y H d O Q R c q=>(B,d,O,R,c.1,λv x s l=>(B,d,O,R.grow s,c.2,λu k w m=>by
  subst l m;exact(_,_,rz,q _ k (s.trans w) rz)))
abbrev rK (K:Fg)(G:Gx)(pre:List PV->Prop)(F:List PV->Int):Sp:=uE K G pre λa=>.int (F a)
abbrev Aj (K:Fg)(G:Gx)(pre:List PV->Prop)(F:List PV->Bool):Sp:=uE K G pre λa=>.bl (F a)
abbrev T6 (K:Fg)(G:Gx)(pre:List PV->Prop)(F:List PV->List Int):Sp:=uE K G pre λa=>.ints (F a)
theorem Yb (o:Ok X.prog X.w X.K X.mg X.base j x r (T6 X.K G pre F))(n:Room k X.A)(f:PA X (e::a) (Nt X.K G C g))(m:j<=k:=by decide)(l:Gl X x:=by rfl)(h:(x == ("__debug__":Str))=false:=by decide)
  (i:starEach (e::a) X.env=(false,eval e X.env)::starEach a X.env:=by rfl) (d:(backTo pos (starEach a X.env)).any (·.1)=false:=by rfl) :
  PE X (.Call (.Name x p) (e::a) [] pos) (Jw X.K G (λc=>C c/\pre (g c)) λc=>F (g c)):=xc o n f m l h i d
theorem yW (o:Ok X.prog X.w X.K X.mg X.base j x r (rK X.K G pre F))(n:Room k X.A)(f:PA X (e::a) (Nt X.K G C g))(m:j<=k:=by decide)(l:Gl X x:=by rfl)(h:(x == ("__debug__":Str))=false:=by decide)
  (i:starEach (e::a) X.env=(false,eval e X.env)::starEach a X.env:=by rfl) (d:(backTo pos (starEach a X.env)).any (·.1)=false:=by rfl) :
  PE X (.Call (.Name x p) (e::a) [] pos) (lF X.K G (λc=>C c/\pre (g c)) λc=>F (g c)):=xc o n f m l h i d
theorem Uu (o:Ok X.prog X.w X.K X.mg X.base j x w (Aj X.K G pre F))(u:Room k X.A)(m:PA X (e::f) (Nt X.K G C i))(t:j<=k:=by decide)(r:Gl X x:=by rfl)(h:(x == ("__debug__":Str))=false:=by decide)
  (n:starEach (e::f) X.env=(false,eval e X.env)::starEach f X.env:=by rfl) (g:(backTo pos (starEach f X.env)).any (·.1)=false:=by rfl) :
  PE X (.Call (.Name x p) (e::f) [] pos) (Hy X.K G (λd=>C d/\pre (i d)) λd=>F (i d)=true):=
 rR (xc o u m t r h n g) λB y H d O Q R c q=>(B,d,O,R,c,λv l s a=>q v l s (by dsimp only;rw[cS];exact a))
def Qe (a:En)(i:Nat):Int:=match a[i]? with
 |some (.fr (.ob 0 z))=>z
 |_=>0
def isK (a:En)(i:Nat):Prop:=a[i]?=so (.fr (.ob 0 (Qe a i)))
def Gk (e d c:Addr):Gx:=(λk H a z=>k=0/\Yi e d c H a z,λ_ _ _ _ _ s h=>(h.1,h.2.same s))
theorem rT {o:Hp->Addr->Int->Prop}{p:Int->List Int->Prop}{F:Int->List Int->Int}{pl:Sem Bool}(i:Nat)(M:KM X.prog X.w X.K X.mg X.base j o m n p F)(hr:Room k X.A)(ha:PA X (e::g) (Nt X.K G C l))(hn:∀c,(l c).length=n:=by intro _;rfl)(hG:∀H a z,G.ob 0 H a z->o H a z:=by first|exact λ_ _ _ h=>h.2|exact λ_ _ _ h=>h.elim (λz=>z.2) λz=>absurd z.1 (()))(r:∀{H D:Hp} {a:Addr} {z:Int},o H a z->Same H D -> o D a z:=by first|exact λh s=>Yi.same h s|exact λh s=>h.same s)(hj:j<=k:=by decide)
  (hN:X.N[i]?=so x:=by rfl) (hv:Vis X.env.scope x:=by walk_at "v") (hd:(x == ("__debug__":Str))=false:=by decide) (w:(x == ("__classdict__":Str))=false:=by decide)
  (A:starEach (e::g) X.env=(false,eval e X.env)::starEach g X.env:=by rfl) (y:(backTo pos (starEach g X.env)).any (·.1)=false:=by rfl)
  (ht:eval (.Call (.Attribute (.Name x J) m d) (e::g) [] pos) X.env=(do
   let ov <-eval (.Name x J) X.env
   standAt d.atName
   let (f,first) <-holding [ov] (getMethod ov m pl)
   callWith pos f first (backTo pos (starEach (e::g) X.env)) (backToKw pos (keywordEach [] X.env))):=by rfl) :
  PE X (.Call (.Attribute (.Name x J) m d) (e::g) [] pos) (lF X.K G (λc=>isK c i/\C c/\Ft (l c)/\p (Qe c i) (qy (l c))) λc=>F (Qe c i) (qy (l c))):=by
 rintro u s σ H Q I ⟨B,c,O,R,⟨U,Y,Z,c3⟩,q⟩;obtain⟨v,e1,a,rfl,ka⟩:=R.fr i _ U;have t:o H a (Qe c i):=r (hG _ _ _ ka) jZ;obtain⟨Cl,dx,fs,ps,f1,f2,S⟩:=M.ex H a _ t;obtain⟨f,fd,N,T,mm,cc⟩:=S.ex;refine pe_meth (pe_var hN hv hd w) cc mm (N.mono hj) hr T .nil pass0 ha A y ht u s σ H Q I (_,e1,a,dx,fs,rz,f1,f2,B,c,O,R,Y,λvs P L E=>?_);have ev:=E.ints Z;have el:(qy (l c)).length=n:=by rw[<-hn c,E.length,ev,ac]
 exact(qy (l c),el,by rw[bY,ev],r t L,c3,q _ P L rz)
theorem zx:∀{as:List PV},Ft as->(qy as).length=as.length
 |[],_=>rfl
 |p::r,h=>by
  cases p<;>first|exact h.elim|skip
  show(qy r).length+1=r.length+1;rw[zx (as:=r) h]
section
variable {K:Fg}
theorem adY (o:Ok P w K mg base k x p (spI n pre F)):Ok P w K mg base k x p (rK K G (λas=>Ft as/\as.length=n/\pre (qy as)) λas=>F (qy as)):=
 o.imp (by rintro v H Q E ⟨as,O,_,a,⟨h,c,d⟩,q⟩;exact (qy as,by rw[zx h,c],a.ints h,d,q _ H (Same.refl H) rz))
theorem ac7 (o:Ok P w K mg base k x p (spB n pre F)):Ok P w K mg base k x p (Aj K G (λas=>Ft as/\as.length=n/\pre (qy as)) λas=>F (qy as)):=
 o.imp (by rintro v H Q E ⟨as,O,_,a,⟨h,c,d⟩,q⟩;exact (qy as,by rw[zx h,c],a.ints h,d,q _ H (Same.refl H) rz))
def acY:List PV->List Int
 | .scr ns::_=>ns
 |_=>[]
def acZ (n:Nat)(pre:List Int->List Int->Prop):List PV->Prop
 | .scr ns::r=>Ft r/\r.length=n/\pre ns (qy r)
 |_=>False
theorem acU (o:Ok P w K mg base k x p (spS K n pre F)):Ok P w K mg base k x p (rK K G (acZ n pre) λas=>F (acY as) (qy as.tail)):=
 o.imp λf H Q E (as,O,_,c,h,q)=>by
  match as,h,c,q with
  | .scr ns::r,(h1,h2,h3),c,q=>obtain⟨v,t,rfl,⟨a,rfl,e⟩,d⟩:=c;exact(a,ns,qy r,by rw[zx h1,h2],by rw[d.ints h1],jZ.seq e,h3,q _ H (Same.refl H) rz)
end
theorem Ve:PGet X (rIxL X.K):=by
 rintro a s D H x y v u Q I B C ⟨p,xs,i,z,rfl,rfl,A,n,q⟩;cases B;obtain⟨t,rfl⟩:=C;obtain⟨e,r,pl,G⟩:=I.list A;obtain⟨j,c,k,E,l,m⟩:=atI_get n;obtain⟨w,g,f⟩:=r.get k;have o:=r.length;have F:=line63;have fin:EP X a D Q w s:=(z,H,I,f,q);by_cases h0:0<=i
 .have d:i.toNat=j:=by rw[iW h0 m]at c;exact aJ c
  exact wpAny_getItem_list pl.isList h0 () (by rw[d];simpa using g) fin
 .have d:(i+(e.toArray.size:Int)).toNat=j:=by rw[iE () l]at c;rw[aD,<-o];exact aJ c
  exact wpAny_getItem_list_neg pl.isList () (by rw[aD]<;>lia) () (by rw[d];simpa using g) fin
theorem Hr (i:Nat){t:Operator}{p:Int->Int->Prop}{h:Int->Int->Int}(U:PE X b (lF X.K G z f))(T:PE X e (lF X.K G C g))(Y:OpR X (inplaceOp t) (rI p λi j=>.int (h i j)))(N:X.N[i]?=so x:=by rfl)(Z:Vis X.env.scope x:=by walk_at "v")
  (S:(x == ("__debug__":Str))=false:=by decide) (m:(x == ("__classdict__":Str))=false:=by decide)
  (Q:∀ov l new,augStore b ov l new=(do holding [new,ov,l] (setItem ov l new);release [new,ov,l] [];pure .next):=by intros;rfl) :
  PS X (.AugAssign (.Subscript (.Name x px) b ps) t e pos) (ts X.K G Er λP d=>Z5 d i/\z d/\(-((getL d i).length:Int)<=f d/\f d<((getL d i).length:Int))/\C d/\p ((getL d i)[j6 (getL d i).length (f d)]!) (g d) /\ P.nx (d.set i (.ow (.ints ((getL d i).set (j6 (getL d i).length (f d)) (h ((getL d i)[j6 (getL d i).length (f d)]!) (g d))))))):=
 toS (ps_augS (pe_var N Z S m) U Ve T Y set_list Q) λB σ H d O P D R c w=>by obtain⟨n,F,k,I,L,J⟩:=c;obtain⟨a,vs,o,e2,e3,r,M⟩:=R.ow i _ n;subst M;refine(_,o,B,d,O,R,F,λu H1 s A=>?_);subst A;refine(a,_,_,_,rz,rz,SqL.of (s _ _ r),getD_at k.1 k.2,B,d,O,R.grow s,I,λv H2 y E=>?_);subst E;refine(_,_,rz,rz,L,a,_,_,_,rz,rz,y _ _ (s _ _ r),by rw[ac];exact yj k.1 k.2,w.nx σ _ _ (O,((R.grow s).grow y).change n o (p':=.ints _) ?_) J);show _=((getL d i).set _ _).map V.int;rw[gG];rfl
end L3
namespace L3
open PySem PyProof.Rows L2 FM
theorem zr (xs:Li)(l h:Option Int):(qj xs l h).length<=xs.length:=by unfold qj;rw[cu,bW];lia
theorem Ia (xs:Li)(a:Nat):qj xs (so (a:Int)) none=xs.drop a:=by
 unfold qj;rw[HT.sIx_nat,HT.sIx_none];by_cases h:a<=xs.length
 .rw[iG h,dk (by rw[bW];lia)]
 .rw[iu (),dX (ao _),dX (),List.take_nil]
theorem ZQ (xs:Li)(b:Nat):qj xs none (so (b:Int))=xs.take b:=by
 unfold qj;rw[HT.sIx_nat,HT.sIx_none,List.drop_zero,jf];by_cases h:b<=xs.length
 .rw[iG h]
 .rw[iu (),dk (ao _),dk ()]
theorem WD {z a:Int}{B:Nat}(e:0<=z)(d:z<(B:Int))(c:a.natAbs<B):(pl z a).natAbs<B:=by
 by_cases h:z=0
 .subst h;exact c
 .have:=RL (z:=z) (n:=a) ();lia
end L3
namespace L2
open PySem PySem.Spec PyProof.Rows
def sV {a:Type}(xs:List a)(l h st:Option Int):List a:=(sliceRange (sliceBounds l h st xs.length).1 (sliceBounds l h st xs.length).2.1 (sliceBounds l h st xs.length).2.2).filterMap λk=>xs[k]?
theorem Ac (r:Vals xs its):∀l:List Nat,Vals (l.filterMap λk=>xs[k]?) (l.filterMap λk=>its[k]?)
 |[]=>.nil
 |k::l=>by
  rw[bN,bN];cases e:xs[k]? with
  |none=>rw[r.none_of e];exact Ac r l
  |some x=>obtain⟨u,a,c⟩:=r.get e;rw[a];exact .cons c (Ac r l)
theorem Vr (xs:List d)(c a st:Option Int):(sV xs c a st).length<=xs.length:=by
 unfold sV;have h:=slicePick_size_le (xs.map λ_=>Value.none).toArray c a st;unfold slicePick at h;rw[aD,aD,ac]at h;refine aj (ja ?_) h;generalize sliceRange _ _ _=l
 induction l with
 |nil=>rfl
 |cons k l i=>
  rw[bN,bN,eB,ag];cases xs[k]? with
  |none=>exact i
  |some x=>simp only[d7,bC,i]
theorem XM (f:c->β)(xs:List c)(a h st:Option Int):sV (xs.map f) a h st=(sV xs a h st).map f:=by
 unfold sV;rw[ac];generalize sliceRange _ _ _=l
 induction l with
 |nil=>rfl
 |cons k l i=>
  rw[bN,bN,ag];cases xs[k]? with
  |none=>exact i
  |some x=>simp only[d7,bi,i]
section
variable {e st:Expr}{L c:Option Expr}
def aej (K:Fg)(t:TE)(m j n:TO):TE:=λd H Q=>t d H λx f=>m d f λl g=>j d g λu i=>n d i λk h=>∃a xs,x=.ref a/\SqL K h a xs/\k≠so 0/\∀p,h p=none->Q (.ref p) (upd h p (.lst (sV xs l u k)))
theorem Ua (F:PE X e te)(hl:PO X L tl)(J:PO X c th)(G:PO X (so st) tt):PE X (.Subscript e (.Slice L c (so st) p2) pos) (aej X.K te tl th tt):=by
 intro p s m H Q I h;refine Subscript_ (thn (F p s m H _ I h) λv Z (x,t,A,Y,R)=>?_);refine wpAny_Slice (thn (hl p Z m t _ A R) λvl s2 (l,w,B,pl,S)=>thn (J p s2 m w _ B S) λvu s3 (u,y,C,P,T)=>thn (G p s3 m y _ C T) λvs g (k,z,D,O,U)=>?_);obtain⟨a,xs,rfl,M,h0,q⟩:=U;cases Y;have n:Inv X p m z { g with heap:=g.heap.push { cls:=.type "slice",data:=.fields #[vl,vu,vs] } }:=D.kept (t':=g.toks) λb ob q=>aA _ q;obtain⟨i,r,f,N⟩:=n.list M;have d:=r.length;refine tail_any (ops:=[.ref a,.ref g.heap.objs.size]) f.isList.typeIs slot_list_getitem.lookup ?_ (by with_unfolding_all rfl);refine wpAny_getItem_list_slice f.isList (Heap.IsSliceOf.new ..) pl P O h0 ?_ (by rw[aD]<;>lia);have E:slicePick i.toArray l u k=(sV i l u k).toArray:=by unfold slicePick sV;rw[aD];congr 1;congr 1;funext j;exact eB
 rw[E];refine(.ref _,_,n.laid (t':=g.toks) (o:=.lst (sV xs l u k)) (λb ob q=>aA _ q) (ao _) ?_,rz,q _ (n.hok.fresh (ao _)));refine(aj (Vr xs l u k) N,_,0,?_,bh _ rz);unfold sV;rw[<-d];exact Ac r _
end
end L2
namespace L3
open PySem PySem.Spec PyProof.Rows L2
theorem S7 {st:Expr}{y x:Option Expr}{g:En->PV}{ns:En->List Int}{o n t:En->Prop}{w u j:En->Option Int}(D:PE X a (tX X.K G C g))(hl:PO X y (YH X.K G o w))(E:PO X x (YH X.K G n u))(I:PO X (so st) (YH X.K G t j))(F:∀d,C d->g d=.ints (ns d)\/g d=.scr (ns d)) :
  PE X (.Subscript a (.Slice y x (so st) N) pos) (CQ X.K G (λd=>C d/\o d/\n d/\t d/\j d≠so 0) λd=>sV (ns d) (w d) (u d) (j d)):=
 Qn (Ua D hl E I) λB P H d O Q R c q=>(B,d,O,R,c.1,λv A s h=>(B,d,O,R.grow s,c.2.1,λJ f=>(B,d,O,(R.grow s).grow f,c.2.2.1,λL i=>(B,d,O,((R.grow s).grow f).grow i,c.2.2.2.1,λM m=>by
  have k:∃p,v=.ref p/\SqL X.K A p ((ns d).map V.int):=by
   rcases F d c.1 with z|z
   .rw[z]at h;obtain⟨p,e,r⟩:=h;exact(p,e,.inl (jK jZ r))
   .rw[z]at h;obtain⟨p,e,r⟩:=h;exact(p,e,jZ.seq r)
  obtain⟨p,rfl,r⟩:=k;refine(p,_,rz,((f.trans i).trans m).seq r,c.2.2.2.2,λl hl=>q l _ ((((s.trans f).trans i).trans m).trans (same_new hl _)) ((((s.trans f).trans i).trans m).free hl) ?_);rw[upd_same,XM]))))
end L3
namespace FM
open L2
theorem jH {xs:Li}{n:Nat}(h:xs.length<=n):xs[n]! =0:=by rw[gQ,bu h];rfl
theorem lC {xs:Li}{n:Nat}(h:n<xs.length):xs[n]! =xs[n]:=by rw[gQ,ae h];rfl
theorem getD_at' {xs:Li}{n:Nat}{x:Int}(h:xs[n]?=so x):xs[n]! =x:=by rw[gQ,h];rfl
theorem getD_mem {xs:Li}{n:Nat}(h:n<xs.length):xs[n]!∈xs:=by rw[lC h];exact bR h
theorem qg (f:Int->Int)(h0:f 0=0)(xs:Li)(n:Nat):(xs.map f)[n]! =f xs[n]!:=by
 by_cases h:n<xs.length
 .rw[lC (by rw[ac];exact h),cA,lC h]
 .rw[jH (by rw[ac];lia),jH (),h0]
theorem oA (z:Int):pl z 0=0:=by
 unfold pl;split
 .rfl
 .exact fk z
theorem Lq (xs:Li)(x:Int)(n:Nat):(xs++[x])[n]! =if n=xs.length then x else xs[n]!:=by
 by_cases h:n<xs.length
 .rw[lC (by rw[aS];lia),hJ h,aF (),lC h]
 .by_cases a:n=xs.length
  .subst a;rw[aL rz,lC (by rw[aS,bI];lia),gU (ao _)];simp
  .rw[aF a,jH (by rw[aS,bI];lia),jH ()]
theorem RG (xs:Li):xs=[]\/∃ys x,xs=ys++[x]:=by
 by_cases h:xs=[]
 .exact .inl h
 .exact .inr (_,_,(dZ h).symm)
theorem Ba:∀(k:Nat) (xs:Li),xs.length=k->∀n,(jy xs)[n]! =xs[n]!
 |0,xs,h,n=>by have:xs=[]:=fq.mp h;subst this;rfl
 |k+1,xs,h,n=>by
  rcases RG xs with rfl|⟨ys,x,rfl⟩
  .rfl
  .by_cases c:x=0
   .subst c;have d:ys.length=k:=by rw[aS,bI]at h;lia
    rw[yo,Ba k ys d n,Lq];by_cases a:n=ys.length
    .rw[aL a,jH ()]
    .rw[aF a]
   .rw[Ec _ c]
theorem qJ (xs:Li)(n:Nat):(jy xs)[n]! =xs[n]!:=Ba _ xs rz n
def j9 (xs:List Int):Prop:=xs≠[]->xs[xs.length-1]!≠0
theorem FQ:∀(k:Nat) (xs:Li),xs.length=k->j9 (jy xs)
 |0,xs,h=>by have:xs=[]:=fq.mp h;subst this;intro h;exact absurd rz h
 |k+1,xs,h=>by
  rcases RG xs with rfl|⟨ys,x,rfl⟩
  .intro h;exact absurd rz h
  .by_cases a:x=0
   .subst a;rw[yo];exact FQ k ys (by rw[aS,bI]at h;lia)
   .rw[Ec _ a];intro _;rw[Lq,aL (by rw[aS,bI];lia)];exact a
theorem lW (xs:Li):j9 (jy xs):=FQ _ xs rfl
theorem mK {a b:Li}(d:j9 a)(j:j9 b)(h:∀n,a[n]! =b[n]!):a=b:=by
 have l:∀{a b:List Int},j9 a->(∀n,a[n]! =b[n]!)->a.length<=b.length:=λ{a b} d h=>by
  by_cases c:a.length<=b.length
  .exact c
  .have e:a≠[]:=λz=>by subst z;exact c (bp _)
   exact absurd (by rw[h,jH ()]) (d e)
 have k:a.length=b.length:=Nat.le_antisymm (l d h) (l j λn=>(h n).symm);refine fV k λi f g=>?_;have:=h i;rw[lC f,lC g]at this;exact this
theorem Ku (h:∀n,a[n]! =b[n]!):jy a=jy b:=
 mK (lW a) (lW b) λn=>by rw[qJ,qJ,h]
theorem Rb {z:Int}{a b:Li}(h:∀n,pl z a[n]! =pl z b[n]!):jy (a.map (pl z))=jy (b.map (pl z)):=
 Ku λn=>by rw[qg _ (oA z),qg _ (oA z),h]
def Tz (z:Int)(f:List Int):List Int:=jy (f.map (pl z))
theorem kZ (z:Int)(f:Li)(n:Nat):(Tz z f)[n]! =pl z f[n]!:=by unfold Tz;rw[qJ,qg _ (oA z)]
theorem lH (z:Int)(f:Li):(Tz z f).length<=f.length:=by unfold Tz;refine aj (lz _) ?_;rw[ac];exact ao _
theorem mem_getD {xs:Li}{m:Int}(h:m∈xs):∃n,n<xs.length/\xs[n]! =m:=by obtain⟨n,a,c⟩:=List.getElem_of_mem h;exact(n,a,by rw[lC a,c])
theorem VD {z:Int}{f:Li}{m:Int}(h:m∈Tz z f):∃k∈f,m=pl z k:=by obtain⟨n,c,a⟩:=mem_getD h;rw[kZ]at a;exact(f[n]!,getD_mem (aQ c (lH z f)),a.symm)
def sm:Nat->(Nat->Int)->Int
 |0,_=>0
 |n+1,f=>sm n f+f n
theorem kY:∀{n:Nat},(∀i,i<n->f i=g i)->sm n f=sm n g
 |0,_=>rfl
 |n+1,h=>by show sm n f+f n=sm n g+g n;rw[kY λi a=>h i (),h n ()]
theorem wR:∀{n:Nat},(∀i,i<n->f i=0)->sm n f=0
 |0,_=>rfl
 |n+1,h=>by show sm n f+f n=0;rw[wR λi a=>h i (),h n ()];rfl
theorem Cw:∀{m:Nat},n<=m->(∀i,n<=i->i<m->f i=0)->sm m f=sm n f
 |0,h,_=>by
  have:n=0:=()
  subst this;rfl
 |m+1,h,z=>by
  by_cases c:n=m+1
  .subst c;rfl
  .show sm m f+f m=sm n f;rw[z m () (),bJ];exact Cw () λi a d=>z i a ()
theorem rC (f:Nat->Int):∀n,sm (n+1) f=f 0+sm n λi=>f (i+1)
 |0=>by show 0+f 0=f 0+0;lia
 |n+1=>by show sm (n+1) f+f (n+1)=f 0+(sm n (λi=>f (i+1))+f (n+1));rw[rC f n];lia
theorem Xf (f:Nat->Int):∀n,sm (n+1) f=sm (n+1) λi=>f (n-i)
 |0=>rfl
 |n+1=>by
  rw[rC (λi=>f (n+1-i)) (n+1)];show sm (n+1) f+f (n+1)=f (n+1-0)+sm (n+1) λi=>f (n+1-(i+1));rw[Xf f n,jf];have:sm (n+1) (λi=>f (n-i))=sm (n+1) λi=>f (n+1-(i+1)):=kY λi _=>by rw[Nat.add_sub_add_right]
  lia
theorem Xo:∀{n:Nat},(∀i,i<n->(f i).natAbs<=M)->(sm n f).natAbs<=n*M
 |0,_=>by simp[sm]
 |n+1,h=>by have a:=Xo (n:=n) λi e=>h i ();have c:=h n ();have d:=Int.natAbs_add_le (sm n f) (f n);show(sm n f+f n).natAbs<=(n+1)*M;rw[Nat.succ_mul];lia
theorem aaw:∀{n:Nat},(∀i,i<n->pl z (f i)=pl z (g i))->pl z (sm n f)=pl z (sm n g)
 |0,_=>rfl
 |n+1,h=>by show pl z (sm n f+f n)=pl z (sm n g+g n);rw[<-PX,<-Q6,aaw λi a=>h i (),h n (),PX,Q6]
def cm (f g:List Int)(n:Nat):Int:=sm (n+1) λi=>f[i]!*g[n-i]!
theorem lB (f g:Li)(n:Nat):cm f g n=cm g f n:=by unfold cm;rw[Xf];refine kY λi h=>?_;rw[bZ,show n-(n-i)=i by lia]
theorem aaM (h:∀n,pl z f[n]! =pl z f'[n]!)(a:∀n,pl z g[n]! =pl z g'[n]!)(n:Nat):pl z (cm f g n)=pl z (cm f' g' n):=
 aaw λi _=>by rw[<-yp,<-uY,h,a,yp,uY]
def LR (f g:List Int)(n i:Nat):Int:=sm i λj=>if j<=n then f[j]!*g[n-j]! else 0
theorem Hg (f g:Li)(n:Nat){i:Nat}(h:f.length<=i):LR f g n i=cm f g n:=by
 have e:cm f g n=LR f g n (n+1):=kY λj k=>by rw[aL ()]
 rw[e];unfold LR;rcases Nat.le_total i (n+1) with c|c
 .refine(Cw c λj a d=>?_).symm;rw[jH (show f.length<=j by lia),bX];split<;>rfl
 .refine Cw c λj a d=>?_;rw[aF ()]
theorem abo {f g:Li}{A B:Nat}(h:∀m∈f,m.natAbs<=A)(a:∀m∈g,m.natAbs<=B)(n:Nat):(cm f g n).natAbs<=g.length*(B*A):=by
 rw[lB,<-Hg g f n (ao _)];refine Xo λi d=>?_;split
 .rw[dS];refine gV (a _ (getD_mem d)) ?_;by_cases c:n-i<f.length
  .exact h _ (getD_mem c)
  .rw[jH ()];exact bp _
 .exact bp _
theorem aai {n:Nat}(h:f.length+g.length<=n+1):cm f g n=0:=by
 unfold cm;refine wR λi a=>?_;by_cases c:i<f.length
 .rw[jH (show g.length<=n-i by lia),aX]
 .rw[jH (show f.length<=i by lia),bX]
def jz (f g:List Int):List Int:=(ss (f.length+g.length)).map (cm f g)
theorem jC (f g:Li)(n:Nat):(jz f g)[n]! =cm f g n:=by
 unfold jz;by_cases h:n<f.length+g.length
 .rw[lC (by rw[ac,aC];exact h),cA,cq]
 .rw[jH (by rw[ac,aC];lia),aai ()]
theorem UV {a b:Li}(hl:a.length=b.length)(h:∀n,a[n]! =b[n]!):a=b:=by refine fV hl λi c d=>?_;have:=h i;rw[lC c,lC d]at this;exact this
def u9 (f g:List Int)(i k:Nat)(row:List Int):Prop:=row.length=f.length+g.length/\∀n,row[n]! =LR f g n i+if i<=n/\n-i<k then f[i]!*g[n-i]! else 0
theorem Hw (f g:Li):u9 f g 0 0 (sP (f.length+g.length) 0):=by
 refine(aR,λn=>?_);rw[aF ()];by_cases h:n<f.length+g.length
 .rw[lC (by rw[aR];exact h),fG];rfl
 .rw[jH (by rw[aR];lia)];rfl
theorem oY (row:Li)(j:Nat)(x:Int)(n:Nat)(h:j<row.length):(row.set j x)[n]! =if n=j then x else row[n]!:=by
 by_cases c:n=j
 .subst c;rw[aL rz,lC (by rw[bn];exact h),List.getElem_set_self]
 .rw[aF c,gQ,cN (),<-gQ]
theorem Lb (h:u9 f g i k row)(j:i<f.length)(l:k<g.length):u9 f g i (k+1) (row.set (i+k) (row[i+k]!+f[i]!*g[k]!)):=by
 obtain⟨e,a⟩:=h;refine(by rw[bn];exact e,λn=>?_);rw[oY _ _ _ _ ()];by_cases c:n=i+k
 .subst c;rw[aL rz,a,aF (),aL (),show i+k-i=k by lia];lia
 .rw[aF c,a];by_cases d:i<=n/\n-i<k
  .rw[aL d,aL ()]
  .rw[aF d,aF ()]
theorem MF {i:Nat}(h:u9 f g i g.length row):u9 f g (i+1) 0 row:=by
 obtain⟨a,e⟩:=h;refine(a,λn=>?_);rw[e,aF (show ¬(i+1<=n/\n-(i+1)<0) by lia)];show _=LR f g n i+(if i<=n then f[i]!*g[n-i]! else 0)+0;by_cases c:i<=n
 .rw[aL c];by_cases d:n-i<g.length
  .rw[aL (c,d)];lia
  .rw[aF (),jH (show g.length<=n-i by lia),aX];lia
 .rw[aF (),aF c];lia
theorem row_end {f g row:Li}(h:u9 f g f.length 0 row):row=jz f g:=by obtain⟨a,c⟩:=h;refine UV (by rw[a];unfold jz;rw[ac,aC]) λn=>?_;rw[c,aF (),jC,Hg f g n (ao _)];lia
theorem DR (z:Int)(f g:Li):Tz z (jz (Tz z f) (Tz z g))=Tz z (jz f g):=
 Rb λn=>by rw[jC,jC];exact aaM (λk=>by rw[kZ,uf]) (λk=>by rw[kZ,uf]) n
end FM
section
open PySem PySem.Spec PyProof.Rows
namespace L3
open L2
theorem aal (H:Hp):mn H (λ_=>false)=H:=by funext b;exact pB rfl
def Kp (K:Fg)(G:Gx)(C:En->Prop)(g:En->PV):TE:=λc H Q=>∃B a O,Rep K G B c H a O/\C a/\∀v h,Same H h -> At K G h (g a) v->Q v h
def Z3 (K:Fg)(G:Gx)(C:En->Prop)(g:En->List PV):TA:=λc H Q=>∃B a O,Rep K G B c H a O/\C a/\∀v h,Same H h -> my K G h (g a) v->Q v h
def nY (a:En)(i:Nat):List (List Int):=match a[i]? with
 |some (.o2 xss)=>xss
 |_=>[]
def isT (a:En)(i:Nat):Prop:=a[i]?=so (.o2 (nY a i))
section
variable {pl:List Str}
theorem G4 (h:PE X e (tX X.K G C g)):PE X e (Kp X.K G C g):=by rintro p s i H Q I ⟨B,f,O,R,c,q⟩;exact h p s i H Q I (B,f,O,R,c,λv d s a=>q v d s (At.mono jZ _ _ a))
theorem aa8:PA X [] (Z3 X.K G (λ_=>True) λ_=>[]):=by rintro a p s c H Q I ⟨_,_,_,_,_,q⟩;exact pa_nil a p s c H Q I (q [] H (Same.refl H) rz)
theorem YJ (o:PE X e (Kp X.K G C g))(r:PA X d (Z3 X.K G j n))(t:starEach (e::d) X.env=(false,eval e X.env)::starEach d X.env:=by rfl):PA X (e::d) (Z3 X.K G (λa=>C a/\j a) λa=>g a::n a):=
 by rintro f p s w H Q I ⟨B,a,O,R,c,q⟩;exact pa_cons o r t f p s w H Q I (B,a,O,R,c.1,λv x h l=>(B,a,O,R.grow h,c.2,λu k i m=>q _ k (h.trans i) (v,u,rz,At.mono i _ _ l,m)))
end
section
variable {K:Fg}{G:Gx}{B:Bs}{p:L2.St}{H g:Hp}{f:En}{O:Addr->Bool}{i k:Nat}{xss:List (List Int)}{Z:List Int}{D a:Addr}{as:List Addr}
theorem TX.Dn (q:TX B p H f O i xss D as):D∉as:=λm=>by
 obtain⟨k,e⟩:=eh.mp m;have h:=q.ea.2 k D e;rw[q.hD]at h;injection h with h;injection h with h;have h0:=congrArg (λl=>l[k]?) h;simp only[ag,e,d7]at h0;cases c:(xss[k]'[])[k]? with
 |none=>rw[c]at h0;cases h0
 |some n=>rw[c]at h0;cases h0
theorem Rep.Yk (R:Rep K G B p H f O)(e:f[i]?=so (.o2 xss))(q:TX B p H f O i xss D as)(v:as[k]?=so a):Rep K G B p (upd H a (.lst (Z.map V.int))) (f.set i (.o2 (xss.set k Z))) O:=by
 have Q:i<f.length:=(ah.mp e).1;have C:a∈as:=aP v;have F:D≠a:=λz=>q.Dn (by rw[z];exact C);have I:=q.el a C;have kl:k<xss.length:=by rw[<-q.ea.1];exact(ah.mp v).1
 have c:∀(m:Nat) r,(f.set i (.o2 (xss.set k Z)))[m]?=so (.ow r)->f[m]?=so (.ow r):=λm r z=>by
  rcases jY z with⟨_,z,_⟩|⟨_,z⟩
  .cases z
  .exact z
 refine(λd o z=>?_,R.cd,R.hid,λd z y=>?_,R.vis,λj r h=>?_,λj r h=>?_,λj k r t d S T U Y=>R.inj j k r t d (c j r S) (c k t T) U Y,by rw[bn];exact R.len,λj s h=>?_)
 .rw[upd_ne (ne_of_none z I.2)];exact R.same d o z
 .by_cases w:d=a
  .subst w;rw[upd_same]at y;cases y
  .rw[upd_ne w]at y;exact R.dom d z y
 .rw[vO I.1];rcases jY h with⟨_,l,_⟩|⟨_,l⟩
  .cases l
  .exact R.fr j r l
 .rw[vO I.1];obtain⟨d,ws,J,L,M,N,P⟩:=R.ow j r (c j r h);obtain⟨u1,u2⟩:=q.un j r d (c j r h) J;refine(d,ws,J,L,M,?_,P);rw[upd_ne (λz=>u2 (by rw[z];exact C))];exact N
 .have ji:j=i:=by
   rcases jY h with⟨rfl,_,_⟩|⟨_,l⟩
   .rfl
   .exact q.one j s l
  subst ji;rw[wj Q]at h;cases h;refine(D,as,q.at_,q.oD,q.nD,by rw[upd_ne F];exact q.hD,q.el,(by rw[bn];exact q.ea.1,λm b u=>?_),q.nd,λm r d n A=>q.un m r d (c m r n) A,λm x n=>?_)
  .by_cases E:m=k
   .subst E;rw[v]at u;cases u;rw[upd_same,gQ,dU kl];rfl
   .have nb:b≠a:=λz=>by subst z;obtain⟨h1,n⟩:=ah.mp v;obtain⟨h2,A⟩:=ah.mp u;exact E ((List.getElem_inj q.nd).mp (A.trans n.symm))
    rw[upd_ne nb,q.ea.2 m b u,gQ,gQ,cN (de E)]
  .rcases jY n with⟨rfl,_,_⟩|⟨_,l⟩
   .rfl
   .exact q.one m x l
theorem Rep.aev (R:Rep K G B p H f O)(e:f[i]?=so (.o2 xss))(q:TX B p H f O i xss D as)(s:Same H g)(A:H a=none)(T:g a=so (.lst (Z.map V.int))):Rep K G B p (upd g D (.lst ((as++[a]).map V.ref))) (f.set i (.o2 (xss++[Z]))) (hide a O):=by
 have hl:i<f.length:=(ah.mp e).1;have N:a≠D:=de (ne_of_none q.hD A);have P:a∉as:=λz=>q.ea.has z A;have C:hide a O D=true:=oX _ q.oD;have R1:=R.grow s;have c:∀(m:Nat) r,(f.set i (.o2 (xss++[Z])))[m]?=so (.ow r)->f[m]?=so (.ow r):=λm r z=>by
  rcases jY z with⟨_,z,_⟩|⟨_,z⟩
  .cases z
  .exact z
 refine(λd o z=>?_,R.cd,λd z=>oX d (R.hid d z),λd z y=>?_,λd z=>?_,λj r h=>?_,λj r h=>?_,λj k r t d j1 j2 j3 j4=>R.inj j k r t d (c j r j1) (c k t j2) j3 j4,by rw[bn];exact R.len,λj I h=>?_)
 .rw[upd_ne (ne_of_none z q.nD)];exact(R.same.trans s) d o z
 .by_cases w:d=D
  .subst w;rw[upd_same]at y;cases y
  .rw[upd_ne w]at y;by_cases w2:d=a
   .subst w2;rw[T]at y;cases y
   .rw[hide_ne w2]at z;exact R1.dom d z y
 .by_cases w:d=a
  .subst w;exact .inr (R.same.free A)
  .rw[hide_ne w]at z;exact R.vis d z
 .rw[vO C];rcases jY h with⟨_,l,_⟩|⟨_,l⟩
  .cases l
  .obtain⟨v,u,M⟩:=R.fr j r l;exact(v,u,At.mono (mO s A) _ _ M)
 .rw[vO C];obtain⟨d,ws,u,M,f3,L,f5⟩:=R.ow j r (c j r h);obtain⟨Q,u2⟩:=q.un j r d (c j r h) u;exact(d,ws,u,oX d M,f3,by rw[upd_ne Q];exact s _ _ L,f5.mono (mO s A))
 .have ji:j=i:=by
   rcases jY h with⟨rfl,_,_⟩|⟨_,l⟩
   .rfl
   .exact q.one j I l
  subst ji;rw[wj hl]at h;cases h;refine(D,as++[a],q.at_,C,q.nD,upd_same,λb F=>?_,(by rw[aS,aS,q.ea.1];rfl,λm b n=>?_),?_,λm r d J S=>?_,λm E J=>?_)
  .rcases cF.mp F with F|F
   .exact(oX _ (q.el b F).1,(q.el b F).2)
   .rw[af.mp F];exact(hide_self,R.same.free A)
  .by_cases Y:m<as.length
   .rw[bB Y]at n;have mb:=aP n;rw[upd_ne (λz=>q.Dn (by rw[<-z];exact mb)),s _ _ (q.ea.2 m b n),gQ,gQ,bB (by rw[<-q.ea.1];exact Y)]
   .rw[bD ()]at n;have U:m-as.length=0:=by have:=(ah.mp n).1;rw[bI]at this;lia
    rw[U]at n;cases n;rw[upd_ne N,T,gQ,bD (by rw[<-q.ea.1];lia),<-q.ea.1,U];rfl
  .exact List.nodup_append.mpr (q.nd,by simp,λx hx y hy z=>P (by rw[af.mp hy]at z;rw[<-z];exact hx))
  .obtain⟨Q,u2⟩:=q.un m r d (c m r J) S;refine(Q,λz=>?_);rcases cF.mp z with z|z
   .exact u2 z
   .obtain⟨d',ws,u,_,_,L,_⟩:=R.ow m r (c m r J);rw[S]at u;cases u;rw[af.mp z,A]at L;cases L
  .rcases jY J with⟨rfl,_,_⟩|⟨_,l⟩
   .rfl
   .exact q.one m E l
def no2 (f:En):Bool:=f.all λs=>match s with
 | .o2 _=>false
 |_=>true
theorem Xm (h:no2 f=true){j:Nat}(e:f[j]?=so (.o2 xss)):False:=by have:=b7.mp h _ (aP e);cases this
def Bt (as:List Addr)(O:Addr->Bool):Addr->Bool:=λb=>if b∈as then true else O b
theorem Ks {b:Addr}(h:b∈as):Bt as O b=true:=by unfold Bt;rw[aL h]
theorem Aq {b:Addr}(h:b∉as):Bt as O b=O b:=by unfold Bt;rw[aF h]
theorem Mz (b:Addr)(h:O b=true):Bt as O b=true:=by
 unfold Bt;split
 .rfl
 .exact h
theorem Rep.aet (R:Rep K G B p H f O)(T:no2 f=true)(s:Same H g)(u:∀a∈as,H a=none)(nd:as.Nodup)(P:yg g as xss)(L:H D=none)(U:g D=so (.lst (as.map V.ref))):Rep K G B (p.set i (so (.ref D))) g (f.set i (.o2 xss)) (Bt (D::as) O):=by
 have Y:∀b,b∈D::as->H b=none:=λb x=>(aG.mp x).elim (λz=>by rw[z];exact L) (u b);have h1:∀b,b∈D::as->g b≠none:=λb x=>(aG.mp x).elim (λz=>by rw[z,U];exact λy=>by cases y) λz=>P.has z;have up:Same (mn H O) (mn g (Bt (D::as) O)):=λc o z=>by
  obtain⟨c1,J⟩:=t8 z;have:c∉D::as:=λy=>by rw[Y c y]at J;cases J
  rw[pB (by rw[Aq this];exact c1)];exact s c o J
 have d:∀(m:Nat) r,(f.set i (.o2 xss))[m]?=so (.ow r)->i≠m/\f[m]?=so (.ow r):=λm r z=>by
  rcases jY z with⟨_,z,_⟩|⟨n,z⟩
  .cases z
  .exact(n,z)
 refine(R.same.trans s,R.cd,λc z=>Mz c (R.hid c z),λc z y=>?_,λc z=>?_,λj r e=>?_,λj r e=>?_,λj k r t c A F M N=>?_,by rw[bn,bn];exact R.len,λj E e=>?_)
 .by_cases m:c∈D::as
  .exact h1 c m y
  .rw[Aq m]at z;exact R.dom c z (s.free y)
 .by_cases m:c∈D::as
  .exact .inr (R.same.free (Y c m))
  .rw[Aq m]at z;exact R.vis c z
 .rcases jY e with⟨_,h,_⟩|⟨n,h⟩
  .cases h
  .obtain⟨v,w,I⟩:=R.fr j r h;exact(v,by rw[nH n];exact w,At.mono up _ _ I)
 .obtain⟨n,h⟩:=d j r e;obtain⟨c,ws,w,I,Q,C,S⟩:=R.ow j r h;exact(c,ws,by rw[nH n];exact w,Mz c I,Q,s _ _ C,S.mono up)
 .obtain⟨n1,y1⟩:=d j r A;obtain⟨n2,y2⟩:=d k t F;rw[nH n1]at M;rw[nH n2]at N;exact R.inj j k r t c y1 y2 M N
 .rcases jY e with⟨rfl,h,l⟩|⟨n,h⟩
  .cases h;refine(D,as,wj (by rw[R.len];exact l),Ks az,R.same.free L,U,λb x=>(Ks (ai _ x),R.same.free (u b x)),P,nd,λj r c A F=>?_,λj E A=>?_)
   .obtain⟨n,y⟩:=d j r A;rw[nH n]at F;obtain⟨c',ws,w,I,Q,C,S⟩:=R.ow j r y;rw[F]at w;cases w;exact(ne_of_none C L,λz=>by rw[u c z]at C;cases C)
   .rcases jY A with⟨rfl,_,_⟩|⟨_,h⟩
    .rfl
    .exact(Xm T h).elim
  .exact(Xm T h).elim
end
end L3
namespace L2
theorem rY:∀{ns:Li} {its:Lv},Vals (ns.map V.int) its->IntsAre its ns
 |[],_,h=>by cases h;exact .nil
 |n::r,_,h=>by
  cases h with
  |cons a b=>obtain⟨t,rfl⟩:=a;exact .cons n t (rY b)
def ad0 (g:List Int->List Int->Bool):R2:=λx y H Q=>∃a b n m,x=.ref a/\y=.ref b/\Rd H a (.lst (n.map V.int))/\Rd H b (.lst (m.map V.int))/\Q (.bl (g n m)) H
section
variable {X:Cx}
theorem QK (g:X.A.units+64<cLine):OpR X (compareOp .Eq) (ad0 λns m=>decide (ns=m)):=by rintro p s w H x y v u Q I l o ⟨a,b,ns,m,rfl,rfl,d,f,q⟩;cases l;cases o;obtain⟨_,j,n,r,_,e⟩:=L3.Inv.zR I d;obtain⟨_,i,t,k,_,c⟩:=L3.Inv.zR I f;exact W.ke_eq_ints (_,e,rz,_,rz) (_,c,rz,_,rz) (rY r) (rY k) g (.bl _,H,I,rz,q)
theorem YX (g:X.A.units+64<cLine):OpR X (compareOp .NotEq) (ad0 λns m=>decide (¬ns=m)):=by rintro p s w H x y v u Q I l o ⟨a,b,ns,m,rfl,rfl,d,f,q⟩;cases l;cases o;obtain⟨_,j,n,r,_,e⟩:=L3.Inv.zR I d;obtain⟨_,i,t,k,_,c⟩:=L3.Inv.zR I f;have q:Q (.bl (decide (¬ns=m))) H:=q;rw[g6]at q;exact W.ke_ne_ints (_,e,rz,_,rz) (_,c,rz,_,rz) (rY r) (rY k) g (.bl _,H,I,rz,q)
theorem abf:bootBuiltins "sum"=so (.builtin "sum"):=by decide +kernel
theorem Ud (j:X.calm=true):CallR X (.builtin "sum") (λxs H Q=>∃(a:Addr) (ns:Li),xs=[.ref a]/\Rd H a (.lst (ns.map V.int))/\Q (.int ns.sum) H):=by
 rintro p s w H xs v Q I m ⟨a,ns,rfl,g,q⟩;obtain⟨u,rfl,l⟩:=vals1 m;cases l;obtain⟨_,i,n,r,_,e⟩:=L3.Inv.zR I g;have f:=rY r;obtain⟨xs,d⟩:=f.allInts.items;have c:(numsOf i.toArray.toList).sum=ns.sum:=by rw[show i.toArray.toList=i from rz,f.numsOf]
 rw[d,nums_intItems]at c;refine sum_intListG (xs:=xs) (I.ok.hd j) (_,e,rz,_,by rw[d]) λo t t' k=>?_;refine(.int ns.sum,H,I.kept (t':=t) k,(t',?_),q);rw[preSum_eq,dk (by simp),c]
end
def Itz (K:Fg)(a b:Addr):It:=
 (λi H=>∃xs c x y,SqL K H a xs/\SqL K H b c/\xs[i]?=so x/\c[i]?=so y,λi H v h=>∃T x y,v=.ref T/\H T=none/\h=upd H T (.tup [x,y])/\(∀xs,SqL K H a xs->xs[i]?=so x)/\∀c,SqL K H b c->c[i]?=so y,λi H=>∃xs c,SqL K H a xs/\SqL K H b c/\(xs.length<=i\/c.length<=i))
theorem X6 {P:Program}{w:World}{K:Fg}{U:List Expr}{kk:Nat}{tp:Pos}(a b z TI TO i1 r:Addr)(D:ZipApart z TI TO i1 r a b) :
  Turn P w K (.Tuple U kk tp) (Itz K a b) [z,TI,TO,i1,r] z (λi h=>IsZip h z TI TO .none/\IsPair h TI (.ref i1) (.ref r)/\(∃u v,IsPair h TO u v)/\h.IsListIter i1 a i/\h.IsListIter r b i) where
 mem:=by simp
 obj:=λi h n c d=>by
  obtain⟨m,f,⟨u,v,g⟩,⟨o1,q1,_,d1⟩,⟨o2,q2,_,d2⟩⟩:=n;rcases aG.mp d with rfl|d
  .exact(_,m,λv y=>by cases y)
  rcases aG.mp d with rfl|d
  .exact(_,f,λv y=>by cases y)
  rcases aG.mp d with rfl|d
  .exact(_,g,λv y=>by cases y)
  rcases aG.mp d with rfl|d
  .exact(o1,q1,λv y=>by rw[d1]at y;cases y)
  .have e:c=r:=by simpa using d
   subst e;exact(o2,q2,λv y=>by rw[d2]at y;cases y)
 keep:=λi h Y n k=>by obtain⟨m,f,⟨u,v,g⟩,G,J⟩:=n;exact(k z (by simp) _ m,k TI (by simp) _ f,(u,v,k TO (by simp) _ g),G.at λo q=>k i1 (by simp) o q,J.at λo q=>k r (by simp) o q)
 item:=by
  intro X hP hw hK d i p s σ H E I O n hg;subst hP hw hK;obtain⟨xs,ys,x,y,j,l,S,hy⟩:=hg;obtain⟨m,f,⟨p0,q0,g⟩,G,J⟩:=n;obtain⟨its,rv,pa,hza⟩:=I.list j;obtain⟨u,hu,ru⟩:=rv.get S;obtain⟨M,F,pb,hzb⟩:=I.list l;obtain⟨u2,hu2,ru2⟩:=F.get hy;refine wpAny_pyNext_zip_item D m f g G J pa.isList pb.isList (x:=u) (y:=u2) (by simpa using hu) (by simpa using hu2) λY hz' L Z h2' hT hsz R=>(_,rz,?_);refine wpAny_letOwnedTupleGo_zip hz' λt hz2 B=>?_;have Tz:s.heap.objs.size≠z:=d8 (aE m);have C:∀c o,c∉[z,TI,TO,i1,r]->s.heap.get? c=so o->t.get? c=so o:=λc o d q=>by have N:c≠z:=λe=>d (by simp[e]);exact(B.2 c N).trans (R c o N (λe=>d (by simp[e])) (λe=>d (by simp[e])) (λe=>d (by simp[e])) q)
  have I1:Inv X p σ H { s with heap:=t,toks:=s.toks }:=I.Cu O C;have fT:FpOk X p H s.heap.objs.size:=I.fpOk (ao _) (I.hok.fresh (ao _));have I2:=I1.track (o:=.tup [x,y]) fT (((()):2<=sizeLine),[u,u2],.cons ru (.cons ru2 .nil),(_,(B.2 _ Tz).trans hT,rz,_,rz));have T:∀c o,c≠z->Y.get? c=so o->t.get? c=so o:=λc o N q=>(B.2 c N).trans q;refine(.ref s.heap.objs.size,_,I2,rz,(_,x,y,rz,fT.1,rz,λzs hq=>by rw[I.list_inj hq j];exact S,λzs hq=>by rw[I.list_inj hq l];exact hy),(hz2,?_,(u,u2,T _ _ D.TOz L),Z.at λo q=>T _ o D.i1z q,h2'.at λo q=>T _ o D.i2z q),λc d=>?_)
  .exact T _ _ D.TIz (R _ _ D.TIz D.TITO D.TIi1 D.TIi2 f)
  .have lt:c<s.heap.objs.size:=by
    rcases aG.mp d with rfl|d
    .exact aE m
    rcases aG.mp d with rfl|d
    .exact aE f
    rcases aG.mp d with rfl|d
    .exact aE g
    rcases aG.mp d with rfl|d
    .obtain⟨o,q,_⟩:=G;exact aE q
    .have e:c=r:=by simpa using d
     subst e;obtain⟨o,q,_⟩:=J;exact aE q
   rw[upd_ne (aZ lt)];exact(O c d).1
 done:=by
  intro X hP hw hK d i p s σ H E I O n hg;subst hP hw hK;obtain⟨xs,ys,j,l,S⟩:=hg;obtain⟨m,f,⟨p0,q0,g⟩,G,J⟩:=n;obtain⟨its,rv,pa,hza⟩:=I.list j;obtain⟨M,F,pb,hzb⟩:=I.list l;have hl:=rv.length;have hl2:=F.length;refine wpAny_pyNext_zip_end (I.ok.hd d) D m f g G J pa.isList pb.isList ?_ λY R=>(rz,I.Cu (t':=s.toks) O λc o d q=>R c o (λe=>d (by simp[e])) (λe=>d (by simp[e])) (λe=>d (by simp[e])) (λe=>d (by simp[e])) q);rcases S with h|h
  .exact .inl (by simp;lia)
  .exact .inr (by simp;lia)
 self:=λA i s Q E n h=>wpAny_pyIter_zip n.1 h
theorem abH:bootBuiltins "zip"=so (.type "zip"):=by decide +kernel
def Z0 (K:Fg)(t:TA):TI:=λc H R=>t c H λv h=>∃a b,v=[.ref a,.ref b]/\(∃xs,SqL K h a xs)/\(∃xs,SqL K h b xs)/\R (Itz K a b) h
theorem DG {X:Cx}{j:List Expr}{kk:Nat}{tp:Pos}{l g:Expr}{G:TA}{p pos:Pos}(O:Gl X "zip")(Q:X.mg "zip"=none)(N:PA X [l,g] G)(S:starEach [l,g] X.env=(false,eval l X.env)::starEach [g] X.env:=by rfl)(t:(backTo pos (starEach [g] X.env)).any (·.1)=false:=by rfl) :
  PI X (.Tuple j kk tp) (.Call (.Name "zip" p) [l,g] [] pos) (Z0 X.K G):=by
 intro f s J H R I h;refine Call_ (ld_blt I O Q abH (cH (thn (N pos f s J H _ I h) λus d (vs,y,i,r1,q1)=>?_) S t));obtain⟨a,b,rfl,⟨xs,v⟩,⟨ys,w⟩,q⟩:=q1;obtain⟨u,u2,rfl,ru,x⟩:=vals2 r1;cases ru;cases x;obtain⟨Z,rv,E,U⟩:=i.list v;obtain⟨B,rv2,F,Y⟩:=i.list w;have la:a<d.heap.objs.size:=by obtain⟨o,e,_⟩:=E.isList;exact aE e
 have lb:b<d.heap.objs.size:=by obtain⟨o,e,_⟩:=F.isList;exact aE e
 refine call_zip_2 E.isList F.isList λM A n r k m T P=>?_;refine wpAny_pyIter_zip A ?_;have L:Inv X f J y { d with heap:=M }:=i.kept (t':=d.toks) P;have D:ZipApart (d.heap.objs.size+4) (d.heap.objs.size+2) (d.heap.objs.size+3) d.heap.objs.size (d.heap.objs.size+1) a b:=by have la':@LT.lt Nat _ a d.heap.objs.size:=la;have lb':@LT.lt Nat _ b d.heap.objs.size:=lb;constructor<;>(show @Ne Nat _ _)<;>lia
 refine(_,[d.heap.objs.size+4,d.heap.objs.size+2,d.heap.objs.size+3,d.heap.objs.size,d.heap.objs.size+1],_,_,y,rz,L,X6 a b _ _ _ _ _ D,(A,n,(_,_,r),k,m),λc z=>?_,q);have C:d.heap.objs.size<=c:=by simp only[aG,List.not_mem_nil,or_false]at z;rcases z with h|h|h|h|h<;>rw[h]<;>first|exact ao _|exact eP _ _
 exact i.fpOk C (i.hok.fresh C)
end L2
namespace L3
open L2
section
variable {X:Cx}{d hl:En->List Int}
theorem Xj (R:Rep X.K G B p H a O)(j:C a)(k:f a)(q:∀l m c h,Same H c->Same c h->Rd h l (.lst ((d a).map V.int))->Rd h m (.lst ((hl a).map V.int))->r (.ref l) (.ref m) h Q) :
  tOp r (Kp X.K G C λa=>.ints (d a)) (Kp X.K G f λa=>.ints (hl a)) p H Q:=
 (B,a,O,R,j,λv c s g=>(B,a,O,R.grow s,k,λu h e i=>by
  obtain⟨l,rfl,n⟩:=g;obtain⟨m,rfl,o⟩:=i;exact q l m c h s e (jK e n) o))
theorem JZ (j:X.A.units+64<cLine)(g:PE X a (Kp X.K G C λe=>.ints (d e)))(i:PE X b (Kp X.K G f λe=>.ints (hl e))):PE X (.Compare a [.Eq] [b] pos) (Hy X.K G (λe=>C e/\f e) λe=>d e=hl e):=
 rR (pe_cmpR (QK j) g i (nomark _)) λ_ _ _ _ _ _ R c q=>Xj R c.1 c.2 λl m _ h s n r k=>(l,m,_,_,rz,rz,r,k,q _ h (s.trans n) rz)
theorem acz (j:X.A.units+64<cLine)(g:PE X a (Kp X.K G C λe=>.ints (d e)))(i:PE X b (Kp X.K G f λe=>.ints (hl e))):PT X (.Compare a [.Eq] [b] pos) (vz X.K G (λe=>C e/\f e) λe=>d e=hl e):=
 by rintro p s t H Q I ⟨_,_,_,R,c,q⟩;exact pt_cmpR (QK j) g i (nomark _) p s t H Q I (Xj R c.1 c.2 λl m _ h n o r k=>(l,m,_,_,rz,rz,r,k,_,rz,q h (n.trans o)))
theorem Pb (j:X.A.units+64<cLine)(g:PE X a (Kp X.K G C λe=>.ints (d e)))(i:PE X b (Kp X.K G f λe=>.ints (hl e))):PT X (.Compare a [.NotEq] [b] pos) (vz X.K G (λe=>C e/\f e) λe=>¬d e=hl e):=
 by rintro p s t H Q I ⟨_,_,_,R,c,q⟩;exact pt_cmpR (YX j) g i (nomark _) p s t H Q I (Xj R c.1 c.2 λl m _ h n o r k=>(l,m,_,_,rz,rz,r,k,_,rz,q h (n.trans o)))
theorem O3 (h:X.calm=true)(m:X.mg "sum"=none)(j:PE X a (Jw X.K G C d))(k:Gl X "sum":=by rfl)(f:starEach [a] X.env=[(false,eval a X.env)]:=by rfl):PE X (.Call (.Name "sum" p) [a] [] pos) (lF X.K G C λe=>(d e).sum):=
 rR (pe_callB (Ud h) k m abf (pa_cons j pa_nil f) (()) (()) f rz) λB n H e O Q R c q=>(B,e,O,R,c,λv g s i=>by
  obtain⟨l,rfl,r⟩:=i;exact(l,_,rz,jK jZ r,q _ g s rz))
def aei (K:Fg)(G:Gx)(C:En->Prop)(g:En->List PV)(B:Bs)(c:En):TA:=λe H Q=>∃O,Rep K G B e H c O/\C c/\∀v h,Same H h -> my K G (mn h λa=>(B.H0 a).isSome) (g c) v->Q v h
def aeQ (K:Fg)(G:Gx)(C:En->Prop)(g:En->PV)(B:Bs)(c:En):TE:=λe H Q=>∃O,Rep K G B e H c O/\C c/\∀v h,Same H h -> At K G (mn h λa=>(B.H0 a).isSome) (g c) v->Q v h
abbrev PN (X:Cx)(G:Gx)(e:Expr)(C:En->Prop)(g:En->PV):Prop:=∀B a,PE X e (aeQ X.K G C g B a)
abbrev PNs (X:Cx)(G:Gx)(e:List Expr)(C:En->Prop)(g:En->List PV):Prop:=∀B a,PA X e (aei X.K G C g B a)
theorem LQ {B:Bs}{H h:Hp}{a:Addr}(s:Same B.H0 H)(n:H a=none):mn h (λa=>(B.H0 a).isSome) a=h a:=pB (by rw[s.free n];rfl)
theorem nI (h:PE X e (lF X.K G C i)):PN X G e C λf=>.int (i f):=by rintro B f p s k H Q I ⟨O,R,c,q⟩;exact h p s k H Q I (B,f,O,R,c,λv g j a=>q v g j (show v=_ from a))
theorem nL (h:PE X e (CQ X.K G C d)):PN X G e C λf=>.ints (d f):=by rintro B f p s j H Q I ⟨O,R,c,q⟩;exact h p s j H Q I (B,f,O,R,c,λa g i n e=>q _ g i (a,rz,.inl (by rw[LQ R.same n];exact e)))
theorem acA:PNs X G [] (λ_=>True) λ_=>[]:=by rintro B e a p s c H Q I ⟨_,_,_,q⟩;exact pa_nil a p s c H Q I (q [] H (Same.refl H) rz)
theorem Q5 (r:PN X G e C g)(t:PNs X G f k o)(u:starEach (e::f) X.env=(false,eval e X.env)::starEach f X.env:=by rfl):PNs X G (e::f) (λa=>C a/\k a) λa=>g a::o a:=
 by rintro B a h p s x H Q I ⟨O,R,c,q⟩;exact pa_cons (r B a) (t B a) u h p s x H Q I (O,R,c.1,λv y i m=>(O,R.grow i,c.2,λw l j n=>q _ l (i.trans j) (v,w,rz,At.mono (lG j) _ _ m,n)))
theorem adc {g:En->List PV}{j:List Expr}{x1}(h:PNs X G j C g)(l:∀e,(g e).length<=1000:=by intro _;exact eA rz):PN X G (.Tuple j x1 pos) C λe=>.tup (g e):=
 by rintro B e p s m H Q I ⟨O,R,c,q⟩;exact pe_tup (h B e) p s m H Q I (O,R,c,λv n k i=>(by rw[<-i.length];exact a7 (small1000 (l e)),λa f=>by
  refine q (.ref a) _ (k.trans (same_new f _)) (a,v,rz,by rw[LQ (R.same.trans k) f];exact upd_same,my.mono (lG (same_new f _)) _ _ i)))
theorem Wx (h:PN X G e C g):PS X (.Return (so e) pos) (ts X.K G E λP a=>C a/\P.rn (g a)):=
 by rintro p s k H D I ⟨B,a,P,⟨O,R⟩,c,w⟩;exact ps_ret (h B a) p s k H D I (O,R,c.1,λv f j i=>w.rn v f _ (R.same.trans j) i c.2)
def spN (K:Fg)(G:Gx)(pre:List PV->Prop)(F:List PV->PV):Sp:=λe H Q _=>∃c,my K G H c e/\pre c/\∀v h,Same H h -> At K G (mn h λa=>(H a).isSome) (F c) v->Q v h
theorem rcn {f:List Expr}{g:En->List PV}{pl:Ls}{pre:List PV->Prop}{F:List PV->PV}(o:Ok X.prog X.w X.K X.mg X.base j x pl (spN X.K G pre F))(A:Room k X.A)(t:PA X (e::f) (Z3 X.K G C g))(y:j<=k:=by decide)(w:Gl X x:=by rfl)(h:(x == ("__debug__":Str))=false:=by decide)
  (u:starEach (e::f) X.env=(false,eval e X.env)::starEach f X.env:=by rfl) (i:(backTo pos (starEach f X.env)).any (·.1)=false:=by rfl) :
  PE X (.Call (.Name x p) (e::f) [] pos) (tX X.K G (λa=>C a/\pre (g a)) λa=>F (g a)):=
 rR (p6 o A t y w h u i) λB I H a O Q R c q=>(B,a,O,R,c.1,λE l s n=>by
  dsimp only;rw[bY];refine(g a,n,c.2,λv m D r=>q v m (s.trans D) (At.mono (qX λb z=>?_) _ _ r));cases e:l b with
  |none=>exact absurd (s.free e) (R.dom b z)
  |some o=>rfl)
theorem Zy (m:PE X a (lF X.K G f l))(n:PE X b (lF X.K G k e)):PE X (.BinOp a .FloorDiv b pos) (lF X.K G (λc=>f c/\k c/\(e c≠0/\(e c).natAbs.log2<9000)) λc=>(l c).fdiv (e c)):=
 Bq (C:=λ_ j=>j≠0/\j.natAbs.log2<9000) (g:=λi j=>i.fdiv j) (opI λi j _ _ _ _ _ h q=>floordiv_int h.1 q (.inl (eW h.2))) m n
def Nv:PV->Int
 | .int n=>n
 |_=>0
def mQ:PV->List Int
 | .ints n=>n
 |_=>[]
theorem n6 (h:PE X e (tX X.K G C g)):PE X e (lF X.K G (λf=>C f/\g f=.int (Nv (g f))) λf=>Nv (g f)):=
 rR h λB j H f O Q R c q=>(B,f,O,R,c.1,λv i s a=>q v i s (by rw[<-c.2];exact a))
theorem xl_of (h:PE X e (tX X.K G C g)):PE X e (Jw X.K G (λf=>C f/\g f=.ints (mQ (g f))) λf=>mQ (g f)):=
 rR h λB j H f O Q R c q=>(B,f,O,R,c.1,λv i s a=>q v i s (by rw[<-c.2];exact a))
def wN:PV->List PV
 | .lst xs=>xs
 |_=>[]
theorem kJ (h:PE X e (tX X.K G C g)):PE X e (tX X.K G (λf=>C f/\g f=.lst (wN (g f))) λf=>.lst (wN (g f))):=
 rR h λB j H f O Q R c q=>(B,f,O,R,c.1,λv i s a=>q v i s (by rw[<-c.2];exact a))
theorem wG {K:Fg}{H:Hp}:∀ns:List Int,my K G H (ns.map PV.int) (ns.map V.int)
 |[]=>rfl
 |n::r=>(_,_,rz,rz,wG r)
theorem aa5 (h:PE X e (Jw X.K G C d)):PE X e (tX X.K G C λf=>.lst ((d f).map PV.int)):=
 rR h λB i H f O Q R c q=>(B,f,O,R,c,λv g s a=>q v g s (by obtain⟨l,e,r⟩:=a;exact(l,_,e,r,wG _)))
theorem Yn (E:PE X e (tX X.K G C g))(h:PG X (.Tuple [.Name x p,.Name y a] kk tp) (gTup X.K 2 (gCons (gName i) (gCons (gName j) gNil))))
  (F:swapsWithSole [.Tuple [.Name x p,.Name y a] kk tp] e pos.line X.env=pure false:=by rfl) (I:swappedStores [.Tuple [.Name x p,.Name y a] kk tp] e X.env=pure none:=by rfl)
  (A:(assignEach [.Tuple [.Name x p,.Name y a] kk tp] X.env).map (·.2)=[assign (.Tuple [.Name x p,.Name y a] kk tp) X.env]:=by rfl) :
  PS X (.Assign [.Tuple [.Name x p,.Name y a] kk tp] e pos) (ts X.K G L λP f=>C f/\∃u v,g f=.tup [u,v]/\P.nx ((f.set i (.fr u)).set j (.fr v))):=
 toS (ps_asg E h F I A) λB U H f O P D R c w=>by obtain⟨r,u,v,z,s⟩:=c;refine(B,f,O,R,r,λt m J k=>?_);rw[z]at k;obtain⟨l,T,rfl,hl,Q,M,rfl,n,S,N,rfl,o,rfl⟩:=k;exact(l,_,rz,SqT.of (jZ _ _ hl),rz,_,_,rz,_,_,rz,rz,w.nx _ m _ (O,((R.grow J).set n).set o) s)
end
section
variable {P:Program}{w:World}{K:Fg}{mg:Mg}{base:Heap}{G:Gx}
theorem okN {x:Str}{st:Stmt}{N g:Ls}{k:Nat}{pre:List PV->Prop}{F:List PV->PV}(d:lN K mg x st g)(S:FnScope N g (defScope st))(len:∀as,pre as->as.length=g.length)
  (e:∀(f:Addr) (a:Value) (A:Around) (outer:List Env) (s:Shared) (H:Hp) (E:XK),Room k (A.deeper (envOfC x (defScope st) s.heap.objs.size f a)) -> ∃fs,PSs (cxOf CX0 P w K mg base N x (defScope st) f a A outer s H E).nox (defBody st) (ts K G ER0 fs)/\∀as,pre as->fs { nx:=λ_=>False,rt:=λ_=>False,rn:=λp=>p=F as } (nq N as)):Ok P w K mg base (k+1) x g (spN K G pre F):=by
 refine lN.ok d S (λr H Q E h=>?_) λf a A outer s H r Q E n h=>?_
 .obtain⟨as,i,j,_⟩:=h;rw[<-i.length];exact len as j
 obtain⟨as,i,j,q⟩:=h;obtain⟨fs,b,c⟩:=e f a A outer s H E n;refine(_,b,(H,λ_=>false),nq N as,_,(_,qw (λ_ z=>by cases z) (by rw[aal];exact i)),c as j,(λ_ _ _ _ h=>h.elim,λ_ _ _ _ _ h=>h.elim,λ_ _ _ _ _ _ h=>h.elim,λv l p o m h=>?_,λ_ _ _ _ h=>h,λ_ _ _ _ h=>h,λ_ _ _ h=>h));subst h;exact q v l o m
end
def Ox (C:Addr):Sp:=λv H Q _=>∃x d:Addr,v=[.ref x]/\H x=so (.ins C d [])/\Q .non (upd H x (.ins C d [("size",.int 0)]))
theorem Io {H:Hp}{O:Addr->Bool}{x:Addr}(c:∀a,O a=true->H a≠none)(d:H x=none){h:Hp}:mn h O x=h x:=pB (by
 cases z:O x with
 |false=>rfl
 |true=>exact absurd d (c x z))
theorem JX (h:H x=none)(a:H dx=none):Same H (upd (upd (upd H dx (.own x)) x (.ins C dx [])) x (.ins C dx fs)):=uL λb o e=>by rw[upd_ne (ne_of_none e h),upd_ne (ne_of_none e h),upd_ne (ne_of_none e a)];exact e
section
variable {X:Cx}
theorem z7 (o:OkI X.prog X.w X.K X.mg X.base CX0 j x C ["self"] (Ox C))(m:Room k X.A)(e:∀(H:Hp) (a d:Addr),H a=so (.ins C d [("size",.int 0)])->G.ob 0 H a 0)(i:j+1<=k:=by decide)(g:Gl X x:=by rfl)(h:(x == ("__debug__":Str))=false:=by decide) :
  PE X (.Call (.Name x p) [] [] pos) (tX X.K G (λ_=>True) λ_=>.ob 0 0):=
 rR (S5 o m pass0 i g h) λB r H n O Q R _ q=>λy d c f l=>by refine(y,d,rz,upd_same,rz,q (.ref y) _ (JX c f) (y,rz,e _ _ d ?_));rw[Io R.dom c];exact upd_same
end
section
variable {K:Fg}
variable {a:Type}{pt:En->Prop}[∀ρ,Decidable (pt ρ)]
theorem Mq (items:List a)(f:a->V->L2.St)(s:a->En)(w:a->V)(R:Rep K G B I l ρ O)(N:l D=none)(Y:items.length<=10000)(S:∀i H,i<items.length->Same l H->J.go i H)
  (F:∀i c x H j,items[i]?=so c->Same l H->J.yld i H x j -> Same H j/\∀k:L2.St->Hp->Prop,k (f c (w c)) j -> g x (pO cap I) j k) (r:∀H,Same l H->J.stop items.length H)
  (E:∀c H,c∈items->Same l H->Rep K G (l,O) (pO cap I) H (jT cap ρ) (hide D O)->Rep K G (l,O) (f c (w c)) H (s c) (hide D O)) (A:∀c,FW (pO cap I) (f c (w c))) (M:∀c∈items,Z (s c)) (hC:∀c∈items,pt (s c)->C (s c))
  (hQ:∀j ys,Same l j -> j D=so (.lst ys)->my K G (mn j (hide D O)) ((items.filter λc=>decide (pt (s c))).map λc=>U (s c)) ys->Q (.ref D) j) :
  ∃W:Nat->Nat->List V->Hp->Prop,(∃m,W 0 m [] (upd l D (.lst [])))/\lcW D J (pO cap I) g (vz K G Z pt) (tX K G C U) Q W:=by
 refine(λi m ys H=>m=items.length-i/\i<=items.length/\Same l H/\H D=so (.lst ys)/\my K G (mn H (hide D O)) (((items.take i).filter λc=>decide (pt (s c))).map λc=>U (s c)) ys,(items.length,by simp,bp _,same_new N _,upd_same,rz),?_);rintro i m ys H ⟨rfl,hi,n,P,y⟩;have hl:ys.length<=i:=by rw[<-y.length,ac];refine aj (fR _ _) ?_;rw[cu];lia
 refine(P,aK (show ys.length<=10000 by lia) (()),?_);by_cases h:i<items.length
 .refine .inr (S i H h n,?_);intro x j hy;have L:items[i]?=so items[i]:=ae h;obtain⟨t,kk⟩:=F i _ x H j L n hy;refine kk _ (A _,?_);have p:=t _ _ P;have R2:=E items[i] j (bR h) (n.trans t) (Ht R N (n.trans t) (by rw[p];exact λz=>by cases z));refine(_,_,_,R2,M _ (bR h),λH3 u=>?_);by_cases d:pt (s items[i])
  .rw[bc d];refine iteT ?_;refine(_,_,_,R2.grow u,hC _ (bR h) d,λv H2 T a2=>(T _ _ (u _ _ p),items.length-(i+1),(),rz,h,?_,upd_same,?_))
   .intro b o z;rw[upd_ne (ne_of_none z N)];exact(((n.trans t).trans u).trans T) b o z
   .rw[vO hide_self,pY L,gJ,ib (by exact bc d),bv];exact my.snoc (my.mono (lG ((t.trans u).trans T)) _ _ y) a2
  .rw[aN d];refine iteF ?_;refine(items.length-(i+1),(),rz,h,n.trans (t.trans u),u _ _ p,?_);rw[pY L,gJ,ft (by simpa using d),List.filter_nil,bY];exact my.mono (lG (t.trans u)) _ _ y
 .have e:i=items.length:=()
  subst e;refine .inl (r H n,hQ H ys n P ?_);rw[cw]at y;exact y
end
section
variable {K:Fg}{pt:En->Prop}[∀ρ,Decidable (pt ρ)]{g c:En->List Int}
theorem aeJ (h:yE K G (λρ=>(P ρ/\C ρ)/\(g ρ).length<=1000/\∀n m,(n,m)∈(g ρ).zip (c ρ)->N (((jT (none::none::cap) ρ).set 0 (.fr (.int n))).set 1 (.fr (.int m)))) (λρ=>((g ρ).zip (c ρ)).map λp=>gp (((jT (none::none::cap) ρ).set 0 (.fr (.int p.1))).set 1 (.fr (.int p.2)))) M H Q) :
  Uw (none::none::cap) (Z0 K (tCons (Kp K G P λρ=>.ints (g ρ)) (tCons (Kp K G C λρ=>.ints (c ρ)) tNil))) (gTup K 2 (gCons (gName 0) (gCons (gName 1) gNil))) uU (tX K G N gp) M H Q:=by
 obtain⟨B,ρ,O,R,⟨⟨c1,r⟩,c2,c3⟩,q⟩:=h;refine(B,ρ,O,R,c1,λv H1 l U=>(B,ρ,O,R.grow l,r,λu F o Y=>?_));obtain⟨a,rfl,hq⟩:=U;obtain⟨b,rfl,w⟩:=Y;have e:SqL K F a ((g ρ).map V.int):=.inl (jK o hq);have f:SqL K F b ((c ρ).map V.int):=.inl w;refine(a,b,rz,(_,e),(_,f),λD L=>?_);have A:((g ρ).zip (c ρ)).length=min (g ρ).length (c ρ).length:=dN;have d:∀i,i<((g ρ).zip (c ρ)).length->i<(g ρ).length/\i<(c ρ).length:=λi h=>by rw[A]at h;lia
 refine tW ((g ρ).zip (c ρ)) (λp _=>((pO (none::none::cap) M).set 0 (so (.int p.1))).set 1 (so (.int p.2))) (λp=>((jT (none::none::cap) ρ).set 0 (.fr (.int p.1))).set 1 (.fr (.int p.2))) (λp=>.int p.1) ((R.grow l).grow o) L (by rw[A];lia)
  (λi H k s=>(_,_,.int ((g ρ)[i]'(d i k).1),.int ((c ρ)[i]'(d i k).2),s.seq e,s.seq f,by simp[(d i k).1],by simp[(d i k).2])) ?_ (λH s=>(_,_,s.seq e,s.seq f,by rw[A,ac,ac];lia)) (λp H _ s S=>(S.set (p:=.int p.1) rz).set (p:=.int p.2) rz) ?_ ?_ ?_
 .rintro i ⟨n,m⟩ x H E j s ⟨T,y,y',rfl,hT,rfl,hx,z⟩;obtain⟨n',rfl,hn⟩:=int_at (hx _ (s.seq e));obtain⟨m',rfl,t⟩:=int_at (z _ (s.seq f));have j:Prod.mk n' m'=(n,m):=by rw[List.getElem?_zip_eq_some]at j;have I:=j.1;have J:=j.2;rw[hn]at I;rw[t]at J;rw[aJ I,aJ J]
  cases j;exact(same_new hT _,λkk hk=>(T,_,rz,SqT.of upd_same,rz,_,_,rz,_,_,rz,rz,hk))
 .rintro⟨n,m⟩;exact nM _
 .rintro⟨n,m⟩ t;exact c3 n m t
 .intro E ys s hd Z;exact q D ys E ((l.trans o).trans s) ((l.trans o).free L) hd Z
end
section
variable {pt:En->Prop}[∀ρ,Decidable (pt ρ)]{g a:En->List Int}
theorem ach (L:sU X N' sc cl (none::none::cap))(z:X.calm=true)(k:Gl X "zip")(D:X.mg "zip"=none)(w:PE X l (Kp X.K G t λρ=>.ints (g ρ)))(y:PE X d (Kp X.K G C λρ=>.ints (a ρ)))(B:∀s H fp,PG (jP X N' sc cl s H fp) (.Tuple els kk tp) (gTup X.K 2 (gCons (gName 0) (gCons (gName 1) gNil))))(A:∀s H fp,PE (jP X N' sc cl s H fp) v (lF X.K G r gi))
  (e:starEach [l,d] X.env=(false,eval l X.env)::starEach [d] X.env:=by rfl) (f:starEach [d] X.env=[(false,eval d X.env)]:=by rfl) (o:(backTo c (starEach [d] X.env)).any (·.1)=false:=by rfl) (j:∀x,foldedSetIterable (.Call (.Name "zip" p) [l,d] [] c) X.env x=pure x:=by intro _;rfl) :
  PE X (.ListComp v [(.Tuple els kk tp,.Call (.Name "zip" p) [l,d] [] c,[],0)] sc u) (CQ X.K G (λρ=>(t ρ/\C ρ)/\(g ρ).length<=1000/\∀n m,(n,m)∈(g ρ).zip (a ρ)->r (((jT (none::none::cap) ρ).set 0 (.fr (.int n))).set 1 (.fr (.int m)))) λρ=>((g ρ).zip (a ρ)).map λp=>gi (((jT (none::none::cap) ρ).set 0 (.fr (.int p.1))).set 1 (.fr (.int p.2)))):=
 λi s E H Q I h=>xU L z (DG k D (pa_cons w (pa_cons y pa_nil f) e) e o) B (λ_ _ _=>m7) A j i s E H Q I (aeJ (yu h))
end
theorem adX {P:Program}{w:World}{K:Fg}{mg:Mg}{base:Heap}{G:Gx}{k:Nat}{x:Str}{st:Stmt}{N:Ls}{f:Addr}{g:FuncData}{y:Str}(F:Fun K x x st f g)(S:FnScope N [y] (defScope st))
  (e:∀(d:Value) (A:Around) (outer:List Env) (s:Shared) (H:Hp) (E:XK),Room k (A.deeper (envOfC x (defScope st) s.heap.objs.size f d)) -> ∃fs,PSs (cxOf CX0 P w K mg base N x (defScope st) f d A outer s H E).nox (defBody st) (ts K G ER0 fs)/\∀ns:List Int,ns.length<=63->(∀m∈ns,Builtin.Int.intBits m<=2^20)->fs { nx:=λ_=>False,rt:=λp=>p=.bl true } (nq N [.scr ns])):FnOk P w K mg base CX0 (k+1) f g [y] (Al K):=by
 refine F.ok S (λu H Q E h=>?_) λd A outer s H u Q E t h=>?_
 .obtain⟨a,ns,rfl,_⟩:=h;rfl
 obtain⟨a,ns,rfl,n,r,o,q⟩:=h;obtain⟨fs,b,c⟩:=e d A outer s H E t;have l:my K G (mn H λ_=>false) [.scr ns] [.ref a]:=(_,_,rz,(a,rz,by rw[aal];exact n),rz);refine(_,b,(H,λ_=>false),nq N [.scr ns],_,(_,qw (λ_ z=>by cases z) l),c ns r o,(λ_ _ _ _ h=>h.elim,λv i p B j h=>?_,λ_ _ _ _ _ _ h=>h.elim,λ_ _ _ _ _ h=>h.elim,λ_ _ _ _ h=>h,λ_ _ _ _ h=>h,λ_ _ _ h=>h));subst h;subst j;exact q i
end L3
end
namespace FM
open L2
structure Eu (n z b r sb s:Int):Prop where
 r0:0<=r
 rb:r<b
 bz:b<=z
 db:z ∣ b-sb*n
 dr:z ∣ r-s*n
 gc:Int.gcd b r=Int.gcd n z
 sg:(sb<=0/\0<=s)\/(0<=sb/\s<=0)
 id:(s.natAbs:Int)*b+(sb.natAbs:Int)*r=z
theorem Km (n z:Int):Int.gcd z (n % z)=Int.gcd n z:=by rw[jg,Int.gcd_sub_mul_left_right,jh]
theorem Eu.start (h:2<=z):Eu n z z (n % z) 0 1:=by
 refine(a8 _ (),aV _ (),ck _,?_,?_,Km n z,.inl ((),()),?_)
 .rw[bX,dR];exact eX z
 .rw[bw,jg];exact(-(n / z),by rw[gx];lia)
 .show(1:Int)*z+((0:Int).natAbs:Int)*(n % z)=z;rw[bw];show z+(0:Int)*(n % z)=z;rw[bX];lia
theorem Eu.rest {b r:Int}(h:0<r):b-b / r*r=b % r:=by rw[jg,bZ]
theorem Eu.step {n z b r c s:Int}(h:Eu n z b r c s)(o:r≠0):Eu n z r (b-b / r*r) s (c-b / r*s):=by
 have j:0<r:=by have:=h.r0;lia
 have d:0<=b / r:=gy (by have:=h.rb;lia) ();have g:=Eu.rest (b:=b) j;have abs:((c-b / r*s).natAbs:Int)=(c.natAbs:Int)+b / r*(s.natAbs:Int):=by
  rcases h.sg with⟨i,a⟩|⟨i,a⟩
  .have k:0<=b / r*s:=eO d a;have f:(s.natAbs:Int)=s:=()
   rw[f];lia
  .have k:b / r*s<=0:=cD d a;have f:(s.natAbs:Int) = -s:=()
   rw[f,gx];lia
 refine(?_,?_,by have:=h.rb;have:=h.bz;lia,h.dr,?_,?_,?_,?_)
 .rw[g];exact a8 _ ()
 .rw[g];exact aV _ j
 .obtain⟨u,l⟩:=h.db;obtain⟨v,m⟩:=h.dr;refine(u-b / r*v,?_);have e:b-b / r*r-(c-b / r*s)*n=(b-c*n)-b / r*(r-s*n):=by rw[ie,cT,bQ];lia
  rw[e,l,m,cT,da]
 .rw[g,<-h.gc,Km]
 .rcases h.sg with⟨i,a⟩|⟨i,a⟩
  .exact .inr (a,by have:=eO d a;lia)
  .exact .inl (a,by have:=cD d a;lia)
 .rw[abs,<-h.id,eS,cT,bQ,bZ (b / r) ((s.natAbs:Int)*r),bQ,bZ r (b / r)];lia
theorem Eu.end (h:Eu n z b 0 sb s):b=(Int.gcd n z:Int):=by have:=h.gc;rw[gK]at this;have:=h.rb;lia
theorem Eu.one (g:2<=z)(h:Eu n z b 0 sb s)(f:b=1):(sb % z*n) % z=1:=by
 have a:=h.db;rw[f]at a;have e:(sb % z*n) % z=(sb*n) % z:=by rw[fO,dG _ (eX z),<-fO]
 rw[e];have c:(1-sb*n) % z=0:=bV a;have d:=(c6 (m:=1) (n:=z) (k:=sb*n)).mpr c;rw[<-d];exact bx () ()
theorem mR.dvd (e:mR p)(h0:0<d)(h:d ∣ p):d=1\/d=p:=by
 obtain⟨k,a⟩:=h;have i:=e.1;have j:0<k:=by
  rcases Int.lt_or_le 0 k with c|c
  .exact c
  .have:=cD (gL h0) c;lia
 by_cases f:d=1
 .exact .inl f
 .by_cases g:k=1
  .right;rw[a,g,cG]
  .exfalso;rcases Int.le_total d k with c|c
   .refine e.2.2 d () ?_ (bV (k,a));rw[a];exact aH c ()
   .refine e.2.2 k () ?_ (bV (d,by rw[a,bZ]));rw[a,bZ d k];exact aH c ()
theorem mR.JR (d:mR p)(h:¬b % p=0):Int.gcd b p=1:=by
 have e:((Int.gcd b p:Nat):Int) ∣ p:=hW b p;have a:((Int.gcd b p:Nat):Int) ∣ b:=iw b p;have f:0<Int.gcd b p:=Int.gcd_pos_of_ne_zero_right _ (by have:=d.1;lia);rcases d.dvd () e with c|c
 .lia
 .rw[c]at a;exact absurd (bV a) h
theorem mR.qI (c:mR p)(h:¬b % p=0)(k:Nat):Int.gcd b (p^k)=1:=by have a:=c.JR h;unfold Int.gcd at a ⊢;rw[iU];exact iH k a
end FM
section
open PySem PySem.Spec PyProof.Rows
namespace L3
open L2
inductive Rs where
 |val (p:PV)|err (C:Addr)
def spE (K:Fg)(G:Gx)(pre:List PV->Prop)(F:List PV->Rs):Sp:=λd H Q E=>∃c O,(∀a,O a=true->H a≠none)/\my K G (mn H O) c d/\pre c/\(∀p,F c=.val p->∀v h,Same H h -> At K G (mn h O) p v->Q v h)/\∀C,F c=.err C->∀h,Same H h -> E (.ref C) none h
structure OkE (P:Program)(w:World)(K:Fg)(mg:Mg)(base:Heap)(k:Nat)(x:Str)(ps:List Str)(sp:Sp):Prop where
 ex:∃f fd,FnOk P w K mg base (QJ P w) k f fd ps sp/\Binds K fd ps []/\W.keepIn K (.ref f)=true/\mg x=so (.ref f)
abbrev erE (E:XK):ER:=λC H=>E (.ref C) none H
section
variable {P:Program}{w:World}{K:Fg}{mg:Mg}{base:Heap}{G:Gx}
theorem okE {x:Str}{st:Stmt}{N o:Ls}{k:Nat}{pre:List PV->Prop}{F:List PV->Rs}(d:lN K mg x st o)(S:FnScope N o (defScope st))(len:∀as,pre as->as.length=o.length)
  (j:∀(f:Addr) (g:Value) (A:Around) (outer:List Env) (s:Shared) (H:Hp) (E:XK),Room k (A.deeper (envOfC x (defScope st) s.heap.objs.size f g)) -> ∃fs,PSs (cxOf (QJ P w) P w K mg base N x (defScope st) f g A outer s H E) (defBody st) (ts K G (erE E) fs)/\∀as,pre as->fs { nx:=λ_=>F as=.val .non,rt:=λp=>F as=.val p,rl:=λns=>F as=.val (.ints ns),er:=λC=>F as=.err C } (nq N as)):OkE P w K mg base (k+1) x o (spE K G pre F):=by
 obtain⟨f,L,B,b,m⟩:=d.ex;refine(f,L,?_,b,B.kp,m);obtain⟨oc,od,kV,J,pm,an,g,ct,R,rfl,lk,u⟩:=B.ex;refine fn_of lk u S (λU H Q E h=>?_) λA outer s H U Q E M h=>?_
 .obtain⟨as,O,_,t,y,_⟩:=h;rw[<-t.length];exact len as y
 obtain⟨as,O,D,t,y,q,T⟩:=h;obtain⟨fs,b,c⟩:=j f g A outer s H E M;refine(_,b,(H,O),nq N as,_,(O,qw D t),c as y,(λZ i Y r h=>?_,λv i p l I h=>q p h v i l I,λa i ns l n e h=>?_,λ_ _ _ _ _ h=>h.elim,λ_ _ _ _ h=>h,λ_ _ _ _ h=>h,λi C l h=>T C h i l))
 .obtain⟨O',r⟩:=r;exact q _ h .non i r.same rfl
 .refine q _ h _ i l (a,rz,.inl ?_);rw[pB]
  .exact e
  .cases z:O a with
   |false=>rfl
   |true=>exact absurd n (D a z)
end
section
variable {X:Cx}{g:En->List PV}
theorem X4 (o:OkE X.prog X.w X.K X.mg X.base j x w sp)(s:Passes (QJ X.prog X.w) X E)(r:Room k X.A)(d:PA X (e::a) t)(n:j<=k:=by decide)(l:Gl X x:=by rfl)(h:(x == ("__debug__":Str))=false:=by decide)
  (i:starEach (e::a) X.env=(false,eval e X.env)::starEach a X.env:=by rfl) (c:(backTo pos (starEach a X.env)).any (·.1)=false:=by rfl):PE X (.Call (.Name x p) (e::a) [] pos) (tCall sp [] E t):=by
 obtain⟨f,v,F,b,u,m⟩:=o.ex;exact pe_call (F.mono n) r l m u b .nil s d h i c
theorem ab8:Passes (QJ X.prog X.w) X E0:=λ_ _ _ _ _ _ _ h=>by obtain⟨_,_,_,_,_,_,_,_,_,q⟩:=h;exact q.elim
def Rs.get:Rs->PV
 | .val p=>p
 | .err _=>.non
def Rs.isV:Rs->Prop
 | .val _=>True
 | .err _=>False
theorem T3 (u:Wb X E)(o:X.calm=true)(q:N8 X.K i)(r:Gl X x)(t:X.mg x=so (.ref i))(n:PA X (e::d) (Nt X.K G C g))(h:∀a,(g a).length=(e::d).length:=by intro _;rfl)(v:(e::d).length<=1000:=by decide)
  (k:(x == ("__debug__":Str))=false:=by decide) (p:starEach (e::d) X.env=(false,eval e X.env)::starEach d X.env:=by rfl) (l:(backTo f (starEach (e::d) X.env)).any (·.1)=false:=by rfl) :
  PS X (.Raise (so (.Call (.Name x A) (e::d) [] f)) none pos) (ts X.K G (erE E) λP a=>C a/\P.er i):=
 toS (KJ u o q r t n v k p l (by rintro z H Q ⟨B,a,O,R,c,q⟩;exact (B,a,O,R,c,λy j s m=>(by rw[<-m.length];exact h a,q y j s m)))) λB z H a O P D R c w=>(B,a,O,R,c.1,λ_ j s _=>w.er j i (R.same.trans s) c.2)
end
end L3
namespace L2
structure afk (K:Fg)(C:Addr):Prop where
 hg:W.findIn K (.ref C) "__getattribute__"=so (so (.builtin "BaseException.__getattribute__"))
 hk:W.findIn K (.ref C) "__getattr__"=so none
 hb:W.mroIn K C (.type "BaseException")=so true
 hd:W.hasDictIn K C=true
 ha:W.findIn K (.ref C) "__class__"=so (so (.builtin "object.__class__"))
 hn:W.specialIn K (.builtin "object.__class__") "__get__"=so (so (.builtin "getset_descriptor.__get__"))
 htk:W.takesIn K (.builtin "object.__class__")=so true
 hm:W.mroIn K C (.type "object")=so true
end L2
namespace L3
open L2
mutual
def dat:PV->PyData
 | .int n=>.int n
 | .bl b=>.bool b
 | .non=>.none
 | .str s=>.str s
 | .ints a=>.list (a.map PyData.int)
 | .lst xs=>.list (vA xs)
 | .tup xs=>.tuple (vA xs)
 |_=>.none
def vA:List PV->List PyData
 |[]=>[]
 |p::ps=>dat p::vA ps
end
mutual
def RJ:PV->Prop
 | .int _=>True
 | .bl _=>True
 | .non=>True
 | .str _=>True
 | .ints _=>True
 | .lst xs=>Fd xs
 | .tup xs=>Fd xs
 |_=>False
def Fd:List PV->Prop
 |[]=>True
 |p::ps=>RJ p/\Fd ps
end
mutual
theorem wB (I:Inv X k z H s):∀(p:PV) (v:V) (u:Value),At X.K G H p v->RJ p->RelV v u->∃as,Reads s.heap u (dat p) as
 | .int n,v,u,h,_,r=>by subst h;obtain⟨t,rfl⟩:=r;exact(_,.int n t)
 | .bl b,v,u,h,_,r=>by subst h;obtain rfl:u=.bool b:=r;exact(_,.bool b)
 | .non,v,u,h,_,r=>by subst h;obtain rfl:u=.none:=r;exact(_,.none)
 | .str x,v,u,h,_,r=>by subst h;obtain⟨t,rfl⟩:=r;exact(_,.str x t)
 | .ints ns,v,u,h,_,r=>by obtain⟨a,rfl,c⟩:=h;obtain rfl:u=.ref a:=r;obtain⟨_,i,n,f,_,e⟩:=Inv.zR I c;exact(_,reads_newData (_,e,rz,_,rz) (W.ke_carried (rY f)))
 | .lst xs,v,u,h,d,r=>by obtain⟨a,j,rfl,c,g⟩:=h;obtain rfl:u=.ref a:=r;obtain⟨_,i,n,f,_,e⟩:=Inv.zR I c;obtain⟨as,q⟩:=wy I xs j i g d f;exact(_,.list e rz rz q)
 | .tup xs,v,u,h,d,r=>by obtain⟨a,j,rfl,c,g⟩:=h;obtain rfl:u=.ref a:=r;obtain⟨_,i,f,⟨o,y,l,m,w⟩⟩:=I.hok a _ c;obtain⟨as,q⟩:=wy I xs j i g d f;exact(_,.tuple y l w q)
 | .scr _,_,_,_,d,_=>d.elim
 | .ob _ _,_,_,_,d,_=>d.elim
 | .ty _,_,_,_,d,_=>d.elim
 | .cls _,_,_,_,d,_=>d.elim
theorem wy (I:Inv X c k H s):∀(a:List PV) (vs:List V) (us:Lv),my X.K G H a vs->Fd a->Vals vs us->∃as,ReadsAll s.heap us (vA a) as
 |[],vs,us,h,_,r=>by subst h;cases r;exact(_,.nil)
 |p::a,vs,us,h,d,r=>by
  obtain⟨v,t,rfl,e,f⟩:=h;cases r with
  |cons i j=>obtain⟨as,q⟩:=wB I p v _ e d.1 i;obtain⟨bs,g⟩:=wy I a t _ f d.2 j;exact(_,.cons q g)
end
structure RZ (p q:PV):Prop where
 a:RJ p
 b:RJ q
 sa:SeqAt.shaped (dat p)=true
 sb:SeqAt.shaped (dat q)=true
 mix:SeqAt.noMix (dat p) (dat q)=true
def eqD (p q:PV):Prop:=PySem.Spec.same (dat p) (dat q)=true
instance (p q:PV):Decidable (eqD p q):=inferInstanceAs (Decidable (_=true))
section
variable {X:Cx}
def aeG (K:Fg)(G:Gx)(f:PV->PV->Bool):R2:=λx y H Q=>∃p q,At K G H p x/\At K G H q y/\RZ p q/\Q (.bl (f p q)) H
theorem acn (g:X.A.units+64<cLine):OpR X (compareOp .Eq) (aeG X.K G λp q=>decide (eqD p q)):=by
 rintro a s n H x y v u Q I j l ⟨p,q,c,f,d,k⟩;obtain⟨m,r⟩:=wB I p x v c d.a j;obtain⟨bs,i⟩:=wB I q y u f d.b l;refine eq_dataH_same r i d.sa d.sb g d.mix (.bl _,H,I,rz,?_);have e:decide (eqD p q)=PySem.Spec.same (dat p) (dat q):=by unfold eqD;exact cS
 rw[<-e];exact k
theorem adA (R:Rep X.K G B m H a O)(i:C a)(j:e a)(q:∀v u c h,Same H c->Same c h->At X.K G h (k a) v->At X.K G h (l a) u->r v u h Q) :
  tOp r (Kp X.K G C k) (Kp X.K G e l) m H Q:=
 (B,a,O,R,i,λv c s f=>(B,a,O,R.grow s,j,λu h d g=>q v u c h s d (At.mono d _ _ f) g))
theorem abT (m:X.A.units+64<cLine)(k:PE X a (Kp X.K G C g))(l:PE X b (Kp X.K G f e)):PE X (.Compare a [.Eq] [b] pos) (Hy X.K G (λd=>C d/\f d/\RZ (g d) (e d)) λd=>eqD (g d) (e d)):=
 rR (pe_cmpR (acn (G:=G) m) k l (nomark _)) λ_ _ _ _ _ _ R c q=>adA R c.1 c.2.1 λv u _ h s n i j=>(_,_,i,j,c.2.2,q _ h (s.trans n) rz)
end
def tR (K:Fg)(G:Gx)(C:En->Prop)(F:En->Rs)(E:XK):TE:=λd H Q=>∃B a O,Rep K G B d H a O/\C a/\(∀p,F a=.val p->∀v h,Same H h -> At K G (mn h O) p v->Q v h)/\∀c,F a=.err c->∀h,Same H h -> E (.ref c) none h
abbrev PR (X:Cx)(G:Gx)(e:Expr)(C:En->Prop)(F:En->Rs):Prop:=∀E,Passes (QJ X.prog X.w) X E->PE X e (tR X.K G C F E)
section
variable {d f:Addr}
theorem Y4 (h:PR X G e C F):PE X e (tX X.K G (λg=>C g/\(F g).isV) λg=>(F g).get):=
 by rintro i s m H Q I ⟨B,g,O,R,c,q⟩;exact h E0 ab8 i s m H Q I (B,g,O,R,c.1,λp l v k s a=>q v k s (by dsimp only;rw[l];exact a),λn j=>by
  have z:=c.2;rw[j]at z;exact z.elim)
structure KSz (K:Fg)(G:Gx):Prop where
 sz:∀(H:Hp) (a:Addr) (z:Int),G.ob 0 H a z->∃C dx fs,H a=so (.ins C dx fs)/\Cls K C/\NoAttr K C "size"/\fs.lookup ("size":Str)=so (.int z)
def pvZ:PV->Int
 | .ob _ z=>z
 |_=>0
theorem JP (r:KSz X.K G)(t:PE X e (tX X.K G C g))(s:attributeBase e "size" X.env (eval e X.env)=eval e X.env:=by rfl):PE X (.Attribute e "size" pos) (lF X.K G (λh=>C h/\g h=.ob 0 (pvZ (g h))) λh=>pvZ (g h)):=
 rR (pe_fld t s) λB w H h O Q R c q=>(B,h,O,R,c.1,λv k u i=>by
  rw[c.2]at i;obtain⟨a,rfl,ob⟩:=i;obtain⟨j,l,fs,m,n,o,p⟩:=r.sz _ _ _ ob;exact(a,j,l,fs,_,rz,jZ _ _ m,n,o,p,q _ k u rz))
def Ol:PV->Bool
 | .non=>true
 |_=>false
end
end L3
namespace L2
def adJ (k:Hp->Addr->Int->Prop)(a:Addr)(z:Int)(n:Nat)(pre:Int->List Int->Prop)(F:Int->List Int->Int ⊕ Addr):Sp:=λv H Q E=>∃d:List Int,d.length=n/\v=.ref a::d.map V.int/\k H a z/\pre z d/\(∀c,F z d=.inl c->∀h,Same H h -> Q (.int c) h)/\∀e,F z d=.inr e->∀h,Same H h -> E (.ref e) none h
structure KME (P:Program)(w:World)(K:Fg)(mg:Mg)(base:Heap)(k:Nat)(KA:Hp->Addr->Int->Prop)(m:Str)(n:Nat)(pre:Int->List Int->Prop)(F:Int->List Int->Int ⊕ Addr):Prop where
 ex:∀H a z,KA H a z->∃C dx fs ps,H a=so (.ins C dx fs)/\fs.lookup m=none/\OkM P w K mg base (QJ P w) k C m ps (adJ KA a z n pre F)
def adI (_ j:Int):Prop:=j≠0/\j.natAbs.log2<9000
theorem WW:OpR X (binaryOp .FloorDiv) (rI adI λi j=>.int (i.fdiv j)):=opI λi j _ _ _ _ _ h q=>floordiv_int h.1 q (.inl (eW h.2))
end L2
namespace L3
open L2
def vq:Int ⊕ Addr->Rs
 | .inl c=>.val (.int c)
 | .inr e=>.err e
theorem CJ {t:Hp->Addr->Int->Prop}{p:Int->List Int->Prop}{F:Int->List Int->Int ⊕ Addr}{pl:Sem Bool}(i:Nat)(M:KME X.prog X.w X.K X.mg X.base j t m n p F)(hr:Room k X.A)(ha:PA X (e::o) (Nt X.K G C r))(hn:∀d,(r d).length=n:=by intro _;rfl)(hG:∀H a z,G.ob 0 H a z->t H a z:=by first|exact λ_ _ _ h=>h.2|exact λ_ _ _ h=>h.elim (λz=>z.2) λz=>absurd z.1 (()))(u:∀{H l:Hp} {a:Addr} {z:Int},t H a z->Same H l -> t l a z:=by first|exact λh s=>Yi.same h s|exact λh s=>h.same s)(hj:j<=k:=by decide)
  (hN:X.N[i]?=so x:=by rfl) (hv:Vis X.env.scope x:=by walk_at "v") (hd:(x == ("__debug__":Str))=false:=by decide) (A:(x == ("__classdict__":Str))=false:=by decide)
  (L:starEach (e::o) X.env=(false,eval e X.env)::starEach o X.env:=by rfl) (J:(backTo pos (starEach o X.env)).any (·.1)=false:=by rfl)
  (ht:eval (.Call (.Attribute (.Name x T) m g) (e::o) [] pos) X.env=(do
   let ov <-eval (.Name x T) X.env
   standAt g.atName
   let (f,first) <-holding [ov] (getMethod ov m pl)
   callWith pos f first (backTo pos (starEach (e::o) X.env)) (backToKw pos (keywordEach [] X.env))):=by rfl) :
  PR X G (.Call (.Attribute (.Name x T) m g) (e::o) [] pos) (λd=>isK d i/\C d/\Ft (r d)/\p (Qe d i) (qy (r d))) λd=>vq (F (Qe d i) (qy (r d))):=by
 rintro E hx y s σ H Q I ⟨B,d,O,R,⟨c0,c1,c2,c3⟩,q,qe⟩;obtain⟨v,e1,a,rfl,ka⟩:=R.fr i _ c0;have w:t H a (Qe d i):=u (hG _ _ _ ka) jZ;obtain⟨Cl,dx,fs,ps,f1,f2,Y⟩:=M.ex H a _ w;obtain⟨f,fd,U,Z,mm,cc⟩:=Y.ex;refine pe_meth (pe_var hN hv hd A) cc mm (U.mono hj) hr Z .nil hx ha L J ht y s σ H Q I (_,e1,a,dx,fs,rz,f1,f2,B,d,O,R,c1,λvs H1 P S=>?_);have ev:=S.ints c2;have el:(qy (r d)).length=n:=by rw[<-hn d,S.length,ev,ac]
 exact(qy (r d),el,by rw[bY,ev],u w P,c3,λc hc l N=>q (.int c) (by dsimp only;rw[hc];rfl) _ l (P.trans N) rz,λer D l N=>qe er (by dsimp only;rw[D];rfl) l (P.trans N))
end L3
namespace L2
theorem aad {K:Fg}{a b:Addr}{xs ys:List V}{g:TG}{t:TS}{D:Ends}{c:St}{H:Hp}(P:Nat->St->Hp->Prop)(h0:P 0 c H)(hl:∀i c H,P i c H->SqL K H a xs/\SqL K H b ys)
  (u:∀i x y c H T,xs[i]?=so x->ys[i]?=so y->P i c H->H T=none->g (.ref T) c (upd H T (.tup [x,y])) λf j=>t { D with nx:=P (i+1),ct:=P (i+1),bk:=D.nx } f j) (s:∀c H,P (min xs.length ys.length) c H->D.nx c H) :
  ∃W:Nat->Nat->St->Hp->Prop,(∃m,W 0 m c H)/\∀i m c H,W i m c H ->
   ((Itz K a b).stop i H/\D.nx c H)\/((Itz K a b).go i H/\∃N:St->Hp->Prop,(∀d h,N d h -> ∃o,o<m/\W (i+1) o d h)/\∀x h,(Itz K a b).yld i H x h -> g x c h λf j=>t { D with nx:=N,ct:=N,bk:=D.nx } f j):=by
 refine(λi m c H=>m=min xs.length ys.length-i/\i<=min xs.length ys.length/\P i c H,(min xs.length ys.length,by simp,bp _,h0),?_);rintro i m c H ⟨rfl,F,p⟩;obtain⟨l,n⟩:=hl i c H p;by_cases k:i<min xs.length ys.length
 .have z:i<xs.length:=()
  have A:i<ys.length:=()
  refine .inr ((xs,ys,xs[i],ys[i],l,n,by simp[z],by simp[A]),P (i+1),λd h B=>(min xs.length ys.length-(i+1),(),rz,k,B),λx h y=>?_);obtain⟨T,C,E,rfl,r,rfl,v,w⟩:=y;exact u i C E c H T (v xs l) (w ys n) p r
 .have e:i=min xs.length ys.length:=()
  subst e;exact .inl ((xs,ys,l,n,()),s c H p)
end L2
namespace L3
open L2
theorem adK (f:PE X e (Jw X.K G C g))(j:∀w,isTrue e X.env w=(do let v <-w;standAt e.pos;holding [v] (truthy v)):=by intro _;rfl):PT X e (vz X.K G C λa=>¬g a=[]):=
 λp s m H Q I (B,a,O,R,c,q)=>pt_truth f j p s m H Q I (B,a,O,R,c,λv h k d=>by
  obtain⟨l,rfl,i⟩:=d;refine(_,.inl (_,.inl (jK jZ i),rz),?_);have z:=q h k;have e:(!((g a).map V.int).isEmpty)=decide (¬g a=[]):=by cases g a<;>simp
  rw[e];exact z)
theorem RC [∀e,Decidable (pt e)](o:PT X c (vz X.K G j pt))(m:PE X a (tX X.K G C k))(n:PE X b (tX X.K G i l)):PE X (.IfExp c a b pos) (tX X.K G (λe=>j e/\(pt e->C e)/\(¬pt e->i e)) λe=>if pt e then k e else l e):=
 rR (pe_ifExp o m n) λB r H e O Q R c q=>(B,e,O,R,c.1,λp s=>by
  by_cases d:pt e
  .rw[bc d];refine iteT (B,e,O,R.grow s,c.2.1 d,λv h g f=>q v h (s.trans g) ?_);rw[aL d];exact f
  .rw[aN d];refine iteF (B,e,O,R.grow s,c.2.2 d,λv h g f=>q v h (s.trans g) ?_);rw[aF d];exact f)
def Cp:PV->PV
 | .tup [a,_]=>a
 |_=>.non
def Cj:PV->PV
 | .tup [_,b]=>b
 |_=>.non
def NT (q:PV):Prop:=q=.tup [Cp q,Cj q]
theorem Le {k j:Nat}{g:En->List PV}{M:Nat}(hp:PassesOwn (model X.prog X.w) X.A X.env X.xe)(hc:X.calm=true)(hl:PE X l (tX X.K G C λd=>.lst (g d)))
  (A:PG X (.Tuple [.Name x px,.Name y py] M tp) (gTup X.K 2 (gCons (gName k) (gCons (gName j) gNil)))) (hb:PSs X body (ts X.K G N f)) (z:∀x,foldedSetIterable l X.env x=pure x:=by intro _;rfl) :
  PS X (.For (.Tuple [.Name x px,.Name y py] M tp) l body [] pos) (ts X.K G N λP d=>(C d/\∀q∈g d,NT q)/\∃W:Nat->En->Prop,W 0 d /\ (∀i n ρ',(g d)[i]?=so n->W i ρ' -> f (P.lp (W (i+1))) ((ρ'.set k (.fr (Cp n))).set j (.fr (Cj n))))/\∀ρ',W (g d).length ρ' -> P.nx ρ'):=
 toS (ps_for hp hc (pi_list hl) A hb z) λB o H d O P D R c w=>by
  obtain⟨⟨Y,Z⟩,W,w0,st,nd⟩:=c;refine(B,d,O,R,Y,λv F s1 S=>?_);obtain⟨a,vs,e,L,s⟩:=S;have u:=R.grow s1;have m:=sO u w;have el:=s.length;refine(a,e,(_,.inl (jK jZ L)),for_list (xs:=vs) (λi o H=>∃ρ',yx X.K G (B.at F O) o H ρ'/\W i ρ') (d,(O,u.rebase),w0) ?_ ?_ ?_)
  .rintro i o H _ ⟨ρ',⟨I,r⟩,_⟩;exact .inl (jK ((Rep.sX B F O).trans r.same) L)
  .rintro i y o H hy ⟨ρ',⟨I,r⟩,t⟩;obtain⟨n,J,an⟩:=s.get hy;have ip:=Z n (aP J);have p:=At.mono (u.seen r) _ _ an;rw[ip]at p;obtain⟨T,us,rfl,hT,U⟩:=p;obtain⟨v1,r1,rfl,x1,v2,r2,rfl,x2,rfl⟩:=U;refine(T,_,rz,SqT.of (jZ _ _ hT),rz,_,_,rz,_,_,rz,rz,?_);exact(_,_,_,(I,(r.set x1).set x2),st i n ρ' J t,(λE Q ρ' r h=>(ρ',r,h),m.rt,m.rl,m.rn,m.nx,λE Q ρ' r h=>(ρ',r,h),m.er))
  .rintro o H ⟨ρ',r,t⟩;rw[<-el]at t;exact m.nx o H ρ' r (nd ρ' t)
section
variable {K:Fg}
theorem aeH {j:En->List PV}(h:yE K G (λg=>Cs g/\(j g).length<=1000/\(∀q∈j g,NT q)/\∀q∈j g,Cb (((jT (none::none::cap) g).set 0 (.fr (Cp q))).set 1 (.fr (Cj q)))) (λg=>(j g).map λq=>U (((jT (none::none::cap) g).set 0 (.fr (Cp q))).set 1 (.fr (Cj q)))) σ H Q) :
  Uw (none::none::cap) (iList K (tX K G Cs λg=>.lst (j g))) (gTup K 2 (gCons (gName 0) (gCons (gName 1) gNil))) uU (tX K G Cb U) σ H Q:=by
 obtain⟨B,g,O,R,⟨c1,c2,c3,c4⟩,q⟩:=h;refine(B,g,O,R,c1,λv l s1 a1=>?_);obtain⟨a,u,rfl,hq,J⟩:=a1;have o:SqL K l a u:=.inl (jK jZ hq);have S:=J.length;have R1:=R.grow s1;refine(a,rz,(_,o),λD Y=>?_);have two:∀i n,(j g)[i]?=so n->∃(T:Addr) (C E:V),u[i]?=so (V.ref T)/\SqT K l T [C,E]/\At K G (mn l O) (Cp n) C/\At K G (mn l O) (Cj n) E:=λi n w=>by
  have P:i<u.length:=by rw[<-S];exact(ah.mp w).1
  obtain⟨n',I,an⟩:=J.get (ae P);rw[w]at I;cases I;rw[c3 n (aP w)]at an;obtain⟨T,us,e,hT,M⟩:=an;obtain⟨C,r1,rfl,x1,E,r2,rfl,x2,rfl⟩:=M;exact(T,C,E,by rw[ae P,e],SqT.of (jZ _ _ hT),x1,x2)
 obtain⟨d,hit⟩:∃d:List (Nat×PV),d=(j g).zipIdx.map λz=>(z.2,z.1):=(_,rz);have k:d.length=(j g).length:=by rw[hit,ac,gH]
 have t:∀(i:Nat) (f:Nat×PV),d[i]?=so f->f.1=i/\(j g)[i]?=so f.2:=λi f e=>by
  rw[hit,ag,fX]at e;cases eg:(j g)[i]? with
  |none=>rw[eg]at e;cases e
  |some n=>rw[eg]at e;have e:=aJ e;subst e;exact(je i,rz)
 have r:∀f∈d,(j g)[f.1]?=so f.2:=λf m=>by obtain⟨i,e⟩:=eh.mp m;obtain⟨y,A⟩:=t i f e;rw[y];exact A
 have L:d.map (λf=>U (((jT (none::none::cap) g).set 0 (.fr (Cp f.2))).set 1 (.fr (Cj f.2))))=(j g).map λq=>U (((jT (none::none::cap) g).set 0 (.fr (Cp q))).set 1 (.fr (Cj q))):=by
  refine eH λi=>?_;rw[ag,ag];by_cases c:i<(j g).length
  .have c':i<d.length:=()
   obtain⟨y,A⟩:=t i d[i] (ae c');rw[ae c',A];rfl
  .rw[bu (show d.length<=i by lia),bu (show(j g).length<=i by lia)];rfl
 have ch:∀f:Nat×PV,∃p:V×V,f∈d->∃T:Addr,u[f.1]?=so (V.ref T)/\SqT K l T [p.1,p.2]/\At K G (mn l O) (Cp f.2) p.1/\At K G (mn l O) (Cj f.2) p.2:=λf=>by
  by_cases m:f∈d
  .obtain⟨T,C,E,y,A,h3,h4⟩:=two _ _ (r f m);exact((C,E),λ_=>(T,y,A,h3,h4))
  .exact((.non,.non),λz=>absurd z m)
 obtain⟨F,Z⟩:=Classical.axiomOfChoice ch;have hv:∀f∈d,∃T:Addr,u[f.1]?=so (V.ref T)/\SqT K l T [(F f).1,(F f).2]/\At K G (mn l O) (Cp f.2) (F f).1/\At K G (mn l O) (Cj f.2) (F f).2:=λf m=>Z f m;refine tW d (λf _=>((pO (none::none::cap) σ).set 0 (so (F f).1)).set 1 (so (F f).2)) (λf=>((jT (none::none::cap) g).set 0 (.fr (Cp f.2))).set 1 (.fr (Cj f.2))) (λf=>.non) R1 Y (by rw[k];exact c2)
  (λi H P s=>(u,u[i]'(by rw[<-S,<-k];exact P),s.seq o,by rw[ae])) ?_ (λH s=>(_,s.seq o,by rw[k,S];exact ao _)) (λf H m s R'=>?_) ?_ ?_ ?_
 .rintro i f x H H' w s ⟨rfl,hx⟩;obtain⟨y,A⟩:=t i f w;obtain⟨T,e1,e2,_,_⟩:=hv f (aP w);have N:=hx _ (s.seq o);rw[y]at e1;rw[e1]at N;cases N;refine(Same.refl _,λkk hk=>(T,_,rz,Ms s e2,rz,_,_,rz,_,_,rz,rz,hk))
 .obtain⟨T,_,_,N,e4⟩:=hv f m;have gr:=mO (O:=O) s Y;exact(R'.set (At.mono gr _ _ N)).set (At.mono gr _ _ e4)
 .intro f;exact nM _
 .intro f m;exact c4 f.2 (aP (r f m))
 .intro H' ys s hd M;refine q D ys H' (s1.trans s) (s1.free Y) hd ?_;rw[L]at M;exact M
end
theorem Ob {t:TE}{st:Stmt}{C:En->Prop}{g:En->List PV}(h:PS X st (tAsg t (gName i)))(k:∀e H Q,yE X.K G C g e H Q->t e H Q):PS X st (ts X.K G E λP d=>C d/\∀ns,ns=g d->P.nx (d.set i (.fr (.lst ns)))):=
 toS h λB e H d O P D R c w=>k e H _ (B,d,O,R,c.1,λa v f s n l j=>w.nx _ f _ (O,(R.grow s).set (p:=.lst _) (a,v,rz,.inl (by
  rw[pB]
  .exact l
  .cases z:O a with
   |false=>rfl
   |true=>exact absurd n (R.dom a z)),by
  refine my.mono ?_ _ _ j;exact qX oX)) (c.2 _ rz))
theorem Up {k:Nat}{g:En->List PV}(o:X.N.Nodup)(f:X.N[i]?=so x)(w:X.env.scope.names.lookup x=so .local)(L:sU X N' sc cl (none::none::cap))(p:X.calm=true)(u:PE X c (tX X.K G m λa=>.lst (g a)))
  (t:∀s H fp,PG (jP X N' sc cl s H fp) (.Tuple els k tp) (gTup X.K 2 (gCons (gName 0) (gCons (gName 1) gNil)))) (r:∀s H fp,PE (jP X N' sc cl s H fp) l (tX X.K G C n))
  (j:swapsWith (.ListComp l [(.Tuple els k tp,c,[],0)] sc e) (so (.Name x y)) d.line X.env=pure true) (v:∀x,foldedSetIterable c X.env x=pure x:=by intro _;rfl) :
  PS X (.Assign [.Name x y] (.ListComp l [(.Tuple els k tp,c,[],0)] sc e) d) (ts X.K G E λP a=>(m a/\(g a).length<=1000/\(∀q∈g a,NT q)/\∀q∈g a,C (((jT (none::none::cap) a).set 0 (.fr (Cp q))).set 1 (.fr (Cj q))))/\∀ns,ns=((g a).map λq=>n (((jT (none::none::cap) a).set 0 (.fr (Cp q))).set 1 (.fr (Cj q))))->P.nx (a.set i (.fr (.lst ns)))):=
 Ob (Bk o f w L p (pi_list u) t (λ_ _ _=>m7) r j v) λz H Q h=>aeH h
end L3
namespace L2
theorem abm:bootBuiltins "any"=so (.builtin "any"):=by decide +kernel
theorem Jl:∀{bs:List Bool} {its:Lv},Vals (bs.map V.bl) its->its=bs.map Value.bool
 |[],_,h=>by cases h;rfl
 |b::r,_,h=>by
  cases h with
  |cons a c=>have e:_=Value.bool b:=a;rw[Jl c,e];rfl
theorem Tv (y:X.calm=true):CallR X (.builtin "any") (λxs H Q=>∃(a:Addr) (bs:List Bool),xs=[.ref a]/\Rd H a (.lst (bs.map V.bl))/\Q (.bl (bs.any id)) H):=by
 rintro p s N H xs M Q I G ⟨a,bs,rfl,x,q⟩;obtain⟨u,rfl,F⟩:=vals1 G;cases F;obtain⟨_,D,n,r,_,e⟩:=L3.Inv.zR I x;have f:=Jl r;subst f;have m:s.heap.IsList a (bs.map Value.bool).toArray:=(_,e,rz,_,rz);have k:a≠s.heap.objs.size:=aZ (aE e);refine call_any_walk (gZ m ?_);refine(_,[s.heap.objs.size,a],[s.heap.objs.size],_,_,_,λi=>bs.getD i false,rz,Walks.list (A:=X.A.in1) (I.ok.hd y) _ a k (bs.map Value.bool).toArray,((_,bh _ rz,rz,rz),m.push _),λi v s Q E c j=>?_,λL J z=>?_)
 .have c:(bs.map Value.bool).toArray[i]?=so v:=c;rw[eB,ag]at c;cases f:bs[i]? with
  |none=>rw[f]at c;cases c
  |some b=>
   rw[f]at c;have c:Value.bool b=v:=aJ c;subst c;have t:bs.getD i false=b:=by rw[gQ,f];rfl
   refine c7 ?_;have j:Q (bs.getD i false) s:=j;rw[t]at j;exact j
 .have w:(ss (bs.map Value.bool).toArray.size).any (λi=>bs.getD i false)=bs.any id:=by
   rw[aD,ac,df,cr,cr];constructor
   .rintro⟨i,d,g⟩;have d:=bA.mp d;refine(bs[i],bR d,?_);rw[gQ,ae d]at g;exact g
   .rintro⟨b,g,C⟩;obtain⟨i,d,rfl⟩:=cO.mp g;refine(i,bA.mpr d,?_);rw[gQ,ae d];exact C
  rw[w];refine(.bl _,H,I.kept (t':=J) λb o l=>z b o (λB=>?_) (aA _ l),rz,q);have:b=s.heap.objs.size:=af.mp B;exact absurd (aE l) (by rw[this];exact cE _)
end L2
namespace L3
open L2
section
variable {d:En->List PV}
def Gn:PV->Bool
 | .bl b=>b
 |_=>false
theorem JG {K:Fg}{H:Hp}:∀{p:List PV} {vs:List V},my K G H p vs->(∀q∈p,∃b,q=.bl b)->vs=(p.map Gn).map V.bl
 |[],_,h,_=>h
 |q::r,_,h,k=>by obtain⟨v,t,rfl,e,z⟩:=h;obtain⟨b,rfl⟩:=k q az;rw[e,JG z λq a=>k q (ai _ a)];rfl
theorem Px (h:X.calm=true)(n:X.mg "any"=none)(k:PE X a (tX X.K G C λe=>.lst (d e)))(m:Gl X "any":=by rfl)(f:starEach [a] X.env=[(false,eval a X.env)]:=by rfl):PE X (.Call (.Name "any" p) [a] [] pos) (Hy X.K G (λe=>C e/\∀q∈d e,∃b,q=.bl b) λe=>((d e).map Gn).any id=true):=
 rR (pe_callB (Tv h) m n abm (pa_cons k pa_nil f) (()) (()) f rz) λB t H e O Q R c q=>(B,e,O,R,c.1,λv g s i=>by
  obtain⟨l,o,rfl,r,j⟩:=i;have ev:=JG j c.2;subst ev;exact(l,_,rz,jK jZ r,q _ g s (by show V.bl _=V.bl (decide _);rw[cS])))
def abJ (a:En)(i:Nat):Prop:=a[i]?=so (.ow (.lst (wN (yr a i))))
theorem sy (i:Nat)(Q:PE X e (tX X.K G C g))(M:X.N[i]?=so x:=by rfl)(S:Vis X.env.scope x:=by walk_at "v")
  (N:(x == ("__debug__":Str))=false:=by decide) (n:(x == ("__classdict__":Str))=false:=by decide)
  (j:attributeBase (.Name x m) "append" X.env (eval (.Name x m) X.env)=eval (.Name x m) X.env:=by rfl)
  (l:((backTo p (starEach (e::[]) X.env)).all (λx=>!x.1) && (backToKw p (keywordEach [] X.env)).all (λx=>x.1.isSome) && decide ((e::[]).length+([]:List Keyword).length+(if ([]:List Keyword).isEmpty then 0 else 1)<30))=true:=by rfl)
  (k:(A.endLine == p.line)=true:=by rfl) (z:starEach (e::[]) X.env=(false,eval e X.env)::starEach [] X.env:=by rfl) (h:(backTo p (starEach [] X.env)).any (·.1)=false:=by rfl)
  (o:swapsWith (.Call (.Attribute (.Name x m) "append" A) [e] [] p) none pos.line X.env=pure false:=by rfl) :
  PS X (.Expr (.Call (.Attribute (.Name x m) "append" A) [e] [] p) pos) (ts X.K G U λP f=>abJ f i/\C f/\(wN (yr f i)).length<sizeLine/\P.nx (f.set i (.ow (.lst (wN (yr f i)++[g f]))))):=
 toS (ps_expr (pe_bm cj eY eZ mt_append (pe_var M S N n) (pa_cons Q pa_nil z) j l k z h) o) λB T H f O P D R c w=>by obtain⟨r,F,I,J⟩:=c;obtain⟨a,vs,t,Z,e3,u,y⟩:=R.ow i _ r;have L:=y.length;refine(_,t,.inl (rz,_,SqL.of u),B,f,O,R,F,λv Y s E=>?_);refine(a,_,_,rz,rz,s _ _ u,by rw[<-L];exact I,w.nx T _ _ (O,(R.grow s).change r t (p':=.lst (wN (yr f i)++[g f])) ?_) J);exact my.snoc (my.mono (lG s) _ _ y) E
end
section
variable {K:Fg}
theorem Z4 {j:En->List PV}(h:yE K G (λg=>Cs g/\(j g).length<=1000/\∀q∈j g,Z ((jT (none::cap) g).set 0 (.fr q))) (λg=>(j g).map λq=>I ((jT (none::cap) g).set 0 (.fr q))) Y H Q) :
  Uw (none::cap) (iList K (tX K G Cs λg=>.lst (j g))) (gName 0) uU (tX K G Z I) Y H Q:=by
 obtain⟨B,g,O,R,⟨c1,c2,c4⟩,q⟩:=h;refine(B,g,O,R,c1,λv N L a1=>?_);obtain⟨a,p,rfl,hq,t⟩:=a1;have l:SqL K N a p:=.inl (jK jZ hq);have F:=t.length;have R1:=R.grow L;refine(a,rz,(_,l),λD J=>?_);have one:∀i n,(j g)[i]?=so n->At K G (mn N O) n (p.getD i .non):=λi n y=>by
  have E:i<p.length:=by rw[<-F];exact(ah.mp y).1
  obtain⟨n',r,an⟩:=t.get (ae E);rw[y]at r;cases r;rw[gQ,ae E];exact an
 obtain⟨d,hit⟩:∃d:List (Nat×PV),d=(j g).zipIdx.map λz=>(z.2,z.1):=(_,rz);have k:d.length=(j g).length:=by rw[hit,ac,gH]
 have o:∀(i:Nat) (f:Nat×PV),d[i]?=so f->f.1=i/\(j g)[i]?=so f.2:=λi f e=>by
  rw[hit,ag,fX]at e;cases T:(j g)[i]? with
  |none=>rw[T]at e;cases e
  |some n=>rw[T]at e;have e:=aJ e;subst e;exact(je i,rz)
 have m:∀f∈d,(j g)[f.1]?=so f.2:=λf u=>by obtain⟨i,e⟩:=eh.mp u;obtain⟨A,C⟩:=o i f e;rw[A];exact C
 have w:d.map (λf=>I ((jT (none::cap) g).set 0 (.fr f.2)))=(j g).map λq=>I ((jT (none::cap) g).set 0 (.fr q)):=by
  refine eH λi=>?_;rw[ag,ag];by_cases c:i<(j g).length
  .have S:i<d.length:=()
   obtain⟨A,C⟩:=o i d[i] (ae S);rw[ae S,C];rfl
  .rw[bu (show d.length<=i by lia),bu (show(j g).length<=i by lia)];rfl
 refine tW d (λ_ v=>(pO (none::cap) Y).set 0 (so v)) (λf=>(jT (none::cap) g).set 0 (.fr f.2)) (λf=>p.getD f.1 .non) R1 J (by rw[k];exact c2)
  (λi H E s=>(p,p[i]'(by rw[<-F,<-k];exact E),s.seq l,by rw[ae])) ?_ (λH s=>(_,s.seq l,by rw[k,F];exact ao _)) (λf H u s R'=>?_) ?_ ?_ ?_
 .rintro i f x H M y s ⟨rfl,hx⟩;obtain⟨A,C⟩:=o i f y;have e3:=hx _ (s.seq l);refine(Same.refl _,λkk U=>?_);rw[A,gQ,e3]at U;exact U
 .exact R'.set (At.mono (mO (O:=O) s J) _ _ (one _ _ (m f u)))
 .intro f;exact nM _
 .intro f u;exact c4 f.2 (aP (m f u))
 .intro M ys s hd P;refine q D ys M (L.trans s) (L.free J) hd ?_;rw[w]at P;exact P
end
section
variable {g:En->List PV}
theorem Ah (L:sU X N' sc cl (none::cap))(j:X.calm=true)(m:PE X c (tX X.K G d λa=>.lst (g a)))(l:∀s H fp,PG (jP X N' sc cl s H fp) t (gName 0))(k:∀s H fp,PE (jP X N' sc cl s H fp) f (tX X.K G C i))(n:∀x,foldedSetIterable c X.env x=pure x:=by intro _;rfl) :
  PE X (.ListComp f [(t,c,[],0)] sc e) (yE X.K G (λa=>d a/\(g a).length<=1000/\∀q∈g a,C ((jT (none::cap) a).set 0 (.fr q))) λa=>(g a).map λq=>i ((jT (none::cap) a).set 0 (.fr q))):=
 λp s o H Q I h=>xU L j (pi_list m) l (λ_ _ _=>m7) k n p s o H Q I (Z4 h)
theorem V5 (L:sU X N' sc cl (none::cap))(i:X.calm=true)(l:PE X c (tX X.K G d λa=>.lst (g a)))(k:∀s H fp,PG (jP X N' sc cl s H fp) t (gName 0))(j:∀s H fp,PE (jP X N' sc cl s H fp) f (lF X.K G C gi))(m:∀x,foldedSetIterable c X.env x=pure x:=by intro _;rfl) :
  PE X (.ListComp f [(t,c,[],0)] sc e) (CQ X.K G (λa=>d a/\(g a).length<=1000/\∀q∈g a,C ((jT (none::cap) a).set 0 (.fr q))) λa=>(g a).map λq=>gi ((jT (none::cap) a).set 0 (.fr q))):=
 λp s n H Q I h=>xU L i (pi_list l) k (λ_ _ _=>m7) j m p s n H Q I (Z4 (yu h))
theorem Vg (L:sU X N' sc cl (none::cap))(r:X.calm=true)(j:Gl X "range")(w:X.mg "range"=none)(v:PE X a (lF X.K G l i))(u:∀s H fp,PG (jP X N' sc cl s H fp) z (gName 0))(t:∀s H fp,PE (jP X N' sc cl s H fp) n (tX X.K G C o))
  (d:starEach [a] X.env=[(false,eval a X.env)]:=by rfl) (y:∀x,foldedSetIterable (.Call (.Name "range" p) [a] [] f) X.env x=pure x:=by intro _;rfl) :
  PE X (.ListComp n [(z,.Call (.Name "range" p) [a] [] f,[],0)] sc m) (yE X.K G (λc=>l c/\(0<=i c/\i c<=1000)/\∀k:Nat,k<(i c).toNat->C ((jT (none::cap) c).set 0 (.fr (.int k)))) λc=>(ss (i c).toNat).map λ(k:Nat)=>o ((jT (none::cap) c).set 0 (.fr (.int k)))):=
 λe s A H Q I h=>xU L r (pi_range1 j w (pa_cons v pa_nil d) d) u (λ_ _ _=>m7) t y e s A H Q I (ZM h)
end
section
variable {K:Fg}
theorem Qy:∀{c:List PV} {vs:List V} {k:Nat} {q:PV} {v:V},my K G H c vs->At K G H q v->my K G H (c.set k q) (vs.set k v)
 |[],_,k,_,_,h,_=>by rw[h];rfl
 |p::r,_,0,q,v,h,a=>by obtain⟨u,t,rfl,e,z⟩:=h;exact(v,t,rz,a,z)
 |p::r,_,k+1,q,v,h,a=>by obtain⟨u,t,rfl,e,z⟩:=h;exact(u,t.set k v,rz,e,Qy z a)
theorem M7:∀{a:List PV} {vs:List V},my K G H a vs->∀k:Nat,my K G H (a.drop k) (vs.drop k)
 |_,_,h,0=>h
 |[],_,h,k+1=>by rw[h];rfl
 |p::r,_,h,k+1=>by obtain⟨u,t,rfl,e,z⟩:=h;exact M7 z k
theorem MP:∀{a:List PV} {vs:List V},my K G H a vs->∀k:Nat,my K G H (a.take k) (vs.take k)
 |_,_,_,0=>rfl
 |[],_,h,k+1=>by rw[h];rfl
 |p::r,_,h,k+1=>by obtain⟨u,t,rfl,e,z⟩:=h;exact(u,t.take k,rz,e,MP z k)
end
section
variable {d:En->List PV}
theorem yM (i:Nat)(r:PE X b (lF X.K G C g))(v:PlainIx b)(p:X.N[i]?=so x:=by rfl)(w:Vis X.env.scope x:=by walk_at "v")
  (t:(x == ("__debug__":Str))=false:=by decide) (h:(x == ("__classdict__":Str))=false:=by decide) :
  PE X (.Subscript (.Name x E) b pos) (tX X.K G (λa=>abJ a i/\C a /\ -((wN (yr a i)).length:Int)<=g a/\g a<((wN (yr a i)).length:Int)) λa=>(wN (yr a i)).getD (j6 (wN (yr a i)).length (g a)) .non):=
 rR (pe_ix ix_list (pe_var p w t h) r v) λB F H a O Q R c q=>by obtain⟨l,z,m,A,D,n,o⟩:=R.ow i _ c.1;refine(_,m,B,a,O,R,c.2.1,λu e s j=>?_);obtain⟨y,k,f⟩:=(my.mono (lG s) _ _ o).item c.2.2.1 c.2.2.2;exact(l,z,_,y,rz,j,s.seq (SqL.of n),k,q _ e s f)
theorem yt (i:Nat)(T:PE X b (lF X.K G y h))(S:PE X e (tX X.K G C g))(M:X.N[i]?=so x:=by rfl)(Y:Vis X.env.scope x:=by walk_at "v")
  (Q:(x == ("__debug__":Str))=false:=by decide) (j:(x == ("__classdict__":Str))=false:=by decide)
  (N:∀v,assign (.Subscript (.Name x f) b p) X.env v=(do
   let ov <-holding [v] (eval (.Name x f) X.env)
   let iv <-holding [v,ov] (eval b X.env)
   standAt p
   holding [v,ov,iv] (setItem ov iv v)
   release [v,ov,iv] []):=by intro _;rfl)
  (U:swapsWithSole [.Subscript (.Name x f) b p] e pos.line X.env=pure false:=by rfl) (Z:swappedStores [.Subscript (.Name x f) b p] e X.env=pure none:=by rfl)
  (L:(assignEach [.Subscript (.Name x f) b p] X.env).map (·.2)=[assign (.Subscript (.Name x f) b p) X.env]:=by rfl) :
  PS X (.Assign [.Subscript (.Name x f) b p] e pos) (ts X.K G Er λP a=>C a/\abJ a i/\y a/\(-((wN (yr a i)).length:Int)<=h a/\h a<((wN (yr a i)).length:Int))/\P.nx (a.set i (.ow (.lst ((wN (yr a i)).set (j6 (wN (yr a i)).length (h a)) (g a)))))):=
 toS (ps_asg S (pg_sub (pe_var M Y Q j) T set_list N) U Z L) λB σ H a O P D R c w=>by obtain⟨E,k,F,m,I⟩:=c;refine(B,a,O,R,E,λv H1 s1 z=>?_);have r:=R.grow s1;obtain⟨l,vs,n,e2,e3,J,o⟩:=r.ow i _ k;have t:=o.length;refine(_,n,B,a,O,r,F,λu H2 s A=>?_);subst A;refine(l,_,_,_,rz,rz,s _ _ J,by rw[<-t];exact yj m.1 m.2,w.nx σ _ _ (O,(r.grow s).change k n (p':=.lst _) ?_) I);rw[t];exact Qy (my.mono (lG s) _ _ o) (At.mono (lG s) _ _ z)
def vy (xs:List PV)(l h:Option Int):List PV:=(xs.drop (HT.sIx xs.length 0 l)).take (HT.sIx xs.length xs.length h-HT.sIx xs.length 0 l)
theorem pW {x w:Option Expr}{t o:En->Prop}{h g:En->Option Int}(D:PE X a (tX X.K G C λe=>.lst (d e)))(hl:PO X x (YH X.K G t h))(E:PO X w (YH X.K G o g)) :
  PE X (.Subscript a (.Slice x w none N) pos) (yE X.K G (λe=>C e/\t e/\o e) λe=>vy (d e) (h e) (g e)):=
 λp s J H Q I (B,e,O,R,c,q)=>pe_slice sl_list D hl E p s J H Q I (B,e,O,R,c.1,λv L j A=>(B,e,O,R.grow j,c.2.1,λM f=>(B,e,O,(R.grow j).grow f,c.2.2,λz k=>by
  obtain⟨l,F,rfl,r,u⟩:=A;have m:=my.mono (lG (f.trans k)) _ _ u;have n:=u.length;refine(l,_,rz,(f.trans k).seq (.inl (jK jZ r)),λy i=>q y _ _ (((j.trans f).trans k).trans (same_new i _)) (((j.trans f).trans k).free i) upd_same (my.mono (mO (same_new i _) i) _ _ ?_));show my X.K G (mn z O) (vy (d e) (h e) (g e)) (cutV F (h e) (g e));unfold vy cutV;rw[n];exact MP (M7 m _) _)))
end
def NZ (C:Addr):Sp:=λv H Q _=>∃(x d:Addr) (p:Int),v=[.ref x,.int p]/\FM.mR p/\H x=so (.ins C d [])/\Q .non (upd H x (.ins C d [("size",.int p)]))
theorem Zu (o:OkI X.prog X.w X.K X.mg X.base CX0 j x C ["self",y] (NZ C))(E:Room k X.A)(t:∀(H:Hp) (a f:Addr) (p:Int),FM.mR p->H a=so (.ins C f [("size",.int p)])->G.ob 0 H a p)(u:PE X e (lF X.K G n g))(A:j+1<=k:=by decide)(z:Gl X x:=by rfl)(h:(x == ("__debug__":Str))=false:=by decide)
  (l:starEach [e] X.env=[(false,eval e X.env)]:=by rfl) (i:(backTo pos (starEach [] X.env)).any (·.1)=false:=by rfl):PE X (.Call (.Name x p) [e] [] pos) (tX X.K G (λd=>n d/\FM.mR (g d)) λd=>.ob 0 (g d)):=
 rR (Mj o E pass0 (pa_cons u pa_nil l) A z h l i) λB I H d O Q R c q=>(B,d,O,R,c.1,λv F s r=>λy f m w D=>by
  subst r;refine(y,f,g d,rz,c.2,upd_same,rz,q (.ref y) _ (s.trans (JX m w)) (y,rz,t _ _ f _ c.2 ?_));rw[Io (R.grow s).dom m];exact upd_same)
def jE (t:List (List Int)):PV:=.lst (t.map PV.ints)
theorem uO:∀t:List (List Int),Fd (t.map PV.ints)
 |[]=>tT
 |_::r=>(tT,uO r)
theorem yf:∀t:List (List Int),PyData.canLayAll0 (vA (t.map PV.ints))=true/\PyData.depthAll (vA (t.map PV.ints))<=1
 |[]=>(rz,(()))
 |g::r=>by
  obtain⟨h,a⟩:=yf r;refine(?_,?_)
  .simp[dat,vA,PyData.canLay0,PyData.canLayAll0,iI,h]
  .simp only[bi,vA,PyData.depthAll];refine Nat.max_le.mpr (?_,a);simp[dat,PyData.depth,W.ke_depthAll]
theorem Ra (t:List (List Int)):(Shape.list (.list .int)).has (dat (jE t))=true:=by
 have k:∀t:List (List Int),((vA (t.map PV.ints)).all (Shape.has (.list .int)))=true:=λt=>by
  induction t with
  |nil=>rfl
  |cons g r i=>have h:(Shape.list .int).has (.list (g.map PyData.int))=true:=list_map_has λ_=>rfl;simp only[bi,vA,gd,i,Bool.and_true];exact h
 unfold jE;simp only[dat,Shape.has];exact k t
theorem Uc (s t:List (List Int)):RZ (jE s) (jE t):=by
 have sh:∀t:List (List Int),SeqAt.shaped (dat (jE t))=true:=λt=>by obtain⟨h,a⟩:=yf t;unfold SeqAt.shaped jE;simp only[dat,PyData.canLay0,PyData.depth,h,Bool.true_and,decide_eq_true_eq];lia
 exact(uO s,uO t,sh s,sh t,SeqAt.noMix_of_shape (.list (.list .int)) rz _ _ (Ra s) (Ra t))
section
variable {f d:En->List PV}
def aaU:PV->Prop
 | .non=>True
 | .int _=>True
 |_=>False
theorem Z1 (m:PE X e (tX X.K G C g)):PT X (.Compare e [.IsNot] [.Constant .none k2 p] pos) (vz X.K G (λa=>C a/\aaU (g a)) λa=>¬Ol (g a)=true):=
 by rintro i s r H Q I ⟨B,a,O,R,c,q⟩;exact pt_cmpR op_notN m pe_non (nomark _) i s r H Q I (B,a,O,R,c.1,λv l o j=>(rz,_,rz,by
  have z:=q l o;have k:(!decide (v=V.non))=decide (¬Ol (g a)=true):=by
   have h:=c.2;revert j h;generalize g a=n;intro j h;cases n<;>first|exact h.elim|skip
   .rw[j];rfl
   .rw[j];rfl
  rw[k];exact z))
theorem ye {K:Fg}{H:Hp}:∀{a c:List PV} {vs us:List V},my K G H a vs->my K G H c us->my K G H (a++c) (vs++us)
 |[],_,_,_,h,k=>by rw[h];exact k
 |p::r,_,_,_,h,k=>by obtain⟨u,t,rfl,e,z⟩:=h;exact(u,_,rz,e,ye z k)
theorem Ds (r:PE X a (tX X.K G C λe=>.lst (f e)))(t:PE X b (tX X.K G m λe=>.lst (d e))):PE X (.BinOp a .Add b pos) (yE X.K G (λe=>C e/\m e/\(f e).length+(d e).length<=sizeLine) λe=>f e++d e):=
 λi s A H Q I (B,e,O,R,c,q)=>pe_op RM r t i s A H Q I (two R c.1 c.2.1 λv u D E j k n o=>by
  obtain⟨l,J,rfl,y,g⟩:=n;obtain⟨b,F,rfl,z,h⟩:=o;have w:=g.length;have x:=h.length;refine(l,b,_,_,rz,rz,jK jZ y,jK jZ z,by rw[<-w,<-x];exact c.2.2,λp d=>q p _ _ ((j.trans k).trans (same_new d _)) ((j.trans k).free d) upd_same ?_);exact my.mono (mO (same_new d _) d) _ _ (ye g h))
theorem ac1 (o:PE X e (tX X.K G C λg=>.lst (f g)))(x:∀w,isTrue e X.env w=(do let v <-w;standAt e.pos;holding [v] (truthy v)):=by intro _;rfl):PT X e (vz X.K G C λg=>¬f g=[]):=
 λp s A H Q I (B,g,O,R,c,q)=>pt_truth o x p s A H Q I (B,g,O,R,c,λv k y m=>by
  obtain⟨l,i,rfl,u,n⟩:=m;refine(_,.inl (_,.inl (jK jZ u),rz),?_);have z:=q k y;have h:=n.length;have e:(!i.isEmpty)=decide (¬f g=[]):=by
   cases j:f g with
   |nil=>rw[j]at h;have:i=[]:=fq.mp h.symm;rw[this];simp
   |cons a r=>
    rw[j]at h;cases i with
    |nil=>cases h
    |cons b t=>simp
  rw[e];exact z)
end
section
variable {K:Fg}{pt:En->Prop}[∀ρ,Decidable (pt ρ)]{g hl:En->List PV}
theorem zN (a:my K G (mn H O) p vs)(h:i<p.length):At K G (mn H O) (p.getD i .non) (vs.getD i .non):=by
 have d:=a.length;have c:i<vs.length:=()
 obtain⟨n,e,an⟩:=a.get (ae c);rw[gQ,gQ,e,ae c];exact an
theorem Rz {d e n:Type}(f:d->e->n)(a:d)(b:e)(l:List d)(m:List e):(ss (min l.length m.length)).map (λi=>f (l.getD i a) (m.getD i b))=(l.zip m).map λp=>f p.1 p.2:=by
 refine eH λi=>?_;rw[ag,ag];by_cases c:i<min l.length m.length
 .have h:i<l.length:=()
  have j:i<m.length:=()
  have k:(l.zip m)[i]?=so (l[i],m[i]):=by rw[ae (by rw[dN];exact c),iy]
  rw[bU c,k];simp only[d7,gQ,ae h,ae j,Option.getD_some]
 .rw[bu (by rw[aC];lia),bu (by rw[dN];lia)];rfl
theorem aan (h:yE K G (λρ=>(Cs ρ/\C ρ)/\(g ρ).length<=1000/\∀q r,(q,r)∈(g ρ).zip (hl ρ)->Z (((jT (none::none::cap) ρ).set 0 (.fr q)).set 1 (.fr r))) (λρ=>((g ρ).zip (hl ρ)).map λp=>S (((jT (none::none::cap) ρ).set 0 (.fr p.1)).set 1 (.fr p.2))) Y H Q) :
  Uw (none::none::cap) (Z0 K (tCons (tX K G Cs λρ=>.lst (g ρ)) (tCons (tX K G C λρ=>.lst (hl ρ)) tNil))) (gTup K 2 (gCons (gName 0) (gCons (gName 1) gNil))) uU (tX K G Z S) Y H Q:=by
 obtain⟨B,ρ,O,R,⟨⟨c1,E⟩,c2,c3⟩,q⟩:=h;refine(B,ρ,O,R,c1,λv H1 w a1=>(B,ρ,O,R.grow w,E,λu N n a2=>?_));obtain⟨a,A,rfl,hq,c⟩:=a1;obtain⟨b,z,rfl,J,j⟩:=a2;have c:=my.mono (lG (O:=O) n) _ _ c;have e:SqL K N a A:=.inl (jK n (jK jZ hq));have f:SqL K N b z:=.inl (jK jZ J);have el:=c.length;have el':=j.length;refine(a,b,rz,(_,e),(_,f),λD o=>?_);have t:(ss (min (g ρ).length (hl ρ).length)).length=min (g ρ).length (hl ρ).length:=aC;have m:∀i,i<(ss (min (g ρ).length (hl ρ).length)).length->i<A.length/\i<z.length:=λi h=>by rw[t]at h;lia
 refine tW (ss (min (g ρ).length (hl ρ).length)) (λi _=>((pO (none::none::cap) Y).set 0 (so (A.getD i .non))).set 1 (so (z.getD i .non))) (λi=>((jT (none::none::cap) ρ).set 0 (.fr ((g ρ).getD i .non))).set 1 (.fr ((hl ρ).getD i .non))) (λ_=>.non) ((R.grow w).grow n) o (by rw[t];lia)
  (λi H d s=>(_,_,A[i]'(m i d).1,z[i]'(m i d).2,s.seq e,s.seq f,by rw[ae],by rw[ae])) ?_ (λH s=>(_,_,s.seq e,s.seq f,by rw[t];lia)) (λi H d s R'=>?_) ?_ ?_ ?_
 .rintro i k x H M F s ⟨T,y,y',rfl,hT,rfl,L,l⟩;have L:=L _ (s.seq e);have l:=l _ (s.seq f);have I:i<min (g ρ).length (hl ρ).length:=by have:=(ah.mp F).1;rw[t]at this;exact this
  rw[bU I]at F;cases F;refine(same_new hT _,λkk U=>(T,_,rz,SqT.of upd_same,rz,_,_,rz,_,_,rz,rz,?_));rw[gQ,gQ,L,l]at U;exact U
 .have d:=bA.mp d;exact(R'.set (At.mono (mO (O:=O) s o) _ _ (zN c ()))).set (At.mono (mO (O:=O) s o) _ _ (zN j ()))
 .intro i;exact nM _
 .intro i d;have d:=bA.mp d;refine c3 _ _ ?_;rw[gQ,gQ,ae (show i<(g ρ).length by lia),ae (show i<(hl ρ).length by lia)];refine cO.mpr (i,by rw[dN];exact d,?_);rw[iy];rfl
 .intro M ys s hd P;refine q D ys M ((w.trans n).trans s) ((w.trans n).free o) hd ?_;rw[Rz (λp r=>S (((jT (none::none::cap) ρ).set 0 (.fr p)).set 1 (.fr r)))]at P;exact P
theorem Y9 {d e:Type}(f:Nat->d->e)(a:d)(l:List d):(ss l.length).map (λi=>f i (l.getD i a))=l.mapIdx f:=by
 refine eH λi=>?_;rw[ag,dH];by_cases c:i<l.length
 .rw[bU c];simp only[d7,gQ,ae c,Option.getD_some]
 .rw[bu (by rw[aC];lia),bu ()];rfl
theorem ac0 (h:yE K G (λρ=>E ρ/\(g ρ).length<=1000/\∀(i:Nat) (q:PV),(g ρ)[i]?=so q->C (((jT (none::none::cap) ρ).set 0 (.fr (.int i))).set 1 (.fr q))) (λρ=>(g ρ).mapIdx λi p=>w (((jT (none::none::cap) ρ).set 0 (.fr (.int i))).set 1 (.fr p))) A H Q) :
  Uw (none::none::cap) (WK K (tCons (tX K G E λρ=>.lst (g ρ)) tNil)) (gTup K 2 (gCons (gName 0) (gCons (gName 1) gNil))) uU (tX K G C w) A H Q:=by
 obtain⟨B,ρ,O,R,⟨L,Z,M⟩,q⟩:=h;refine(B,ρ,O,R,L,λv F o J=>?_);obtain⟨a,r,rfl,U,e⟩:=J;have d:SqL K F a r:=.inl (jK jZ U);have N:=e.length;refine(a,rz,(_,d),λD l=>?_);have f:(ss (g ρ).length).length=(g ρ).length:=aC;refine tW (ss (g ρ).length) (λ(i:Nat) _=>((pO (none::none::cap) A).set 0 (so (.int i))).set 1 (so (r.getD i .non))) (λ(i:Nat)=>((jT (none::none::cap) ρ).set 0 (.fr (.int i))).set 1 (.fr ((g ρ).getD i .non))) (λ_=>.non) (R.grow o) l (by rw[f];lia)
  (λi H c s=>(_,r[i]'(by rw[f]at c;lia),s.seq d,by rw[ae])) ?_ (λH s=>(_,s.seq d,by rw[f,N];exact ao _)) (λi H c s I=>?_) ?_ ?_ ?_
 .rintro i k x H t j s ⟨T,y,rfl,P,rfl,n⟩;have n:=n _ (s.seq d);have m:i<(g ρ).length:=by have:=(ah.mp j).1;rw[f]at this;exact this
  rw[bU m]at j;cases j;refine(same_new P _,λkk z=>(T,_,rz,SqT.of upd_same,rz,_,_,rz,_,_,rz,rz,?_));rw[gQ,n]at z;exact z
 .have c:=bA.mp c;exact(I.set (p:=.int i) rz).set (At.mono (mO (O:=O) s l) _ _ (zN e c))
 .intro i;exact nM _
 .intro i c;have c:=bA.mp c;refine M i _ ?_;rw[gQ,ae c];rfl
 .intro t Y s S u;refine q D Y t (o.trans s) (o.free l) S ?_;rw[Y9 (λ(i:Nat) p=>w (((jT (none::none::cap) ρ).set 0 (.fr (.int i))).set 1 (.fr p)))]at u;exact u
end
section
variable {pt:En->Prop}[∀ρ,Decidable (pt ρ)]{g hl:En->List PV}
theorem rD (m:X.N.Nodup)(e:X.N[i]?=so x)(v:X.env.scope.names.lookup x=so .local)(L:sU X N' sc cl (none::cap))(n:X.calm=true)(r:PE X a (tX X.K G k λρ=>.lst (g ρ)))(p:∀s H fp,PG (jP X N' sc cl s H fp) t (gName 0))(o:∀s H fp,PE (jP X N' sc cl s H fp) j (tX X.K G C l))
  (f:swapsWith (.ListComp j [(t,a,[],0)] sc d) (so (.Name x w)) c.line X.env=pure true) (u:∀x,foldedSetIterable a X.env x=pure x:=by intro _;rfl) :
  PS X (.Assign [.Name x w] (.ListComp j [(t,a,[],0)] sc d) c) (ts X.K G E λP ρ=>(k ρ/\(g ρ).length<=1000/\∀q∈g ρ,C ((jT (none::cap) ρ).set 0 (.fr q)))/\∀ns,ns=((g ρ).map λq=>l ((jT (none::cap) ρ).set 0 (.fr q)))->P.nx (ρ.set i (.fr (.lst ns)))):=
 Ob (Bk m e v L n (pi_list r) p (λ_ _ _=>m7) o f u) λy H Q h=>Z4 h
theorem Zx (L:sU X N' sc cl (none::none::cap))(y:X.calm=true)(j:Gl X "zip")(B:X.mg "zip"=none)(v:PE X l (tX X.K G n λρ=>.lst (g ρ)))(w:PE X c (tX X.K G C λρ=>.lst (hl ρ)))(A:∀s H fp,PG (jP X N' sc cl s H fp) (.Tuple els kk tp) (gTup X.K 2 (gCons (gName 0) (gCons (gName 1) gNil))))(z:∀s H fp,PE (jP X N' sc cl s H fp) t (tX X.K G m u))
  (d:starEach [l,c] X.env=(false,eval l X.env)::starEach [c] X.env:=by rfl) (e:starEach [c] X.env=[(false,eval c X.env)]:=by rfl) (k:(backTo a (starEach [c] X.env)).any (·.1)=false:=by rfl) (i:∀x,foldedSetIterable (.Call (.Name "zip" p) [l,c] [] a) X.env x=pure x:=by intro _;rfl) :
  PE X (.ListComp t [(.Tuple els kk tp,.Call (.Name "zip" p) [l,c] [] a,[],0)] sc o) (yE X.K G (λρ=>(n ρ/\C ρ)/\(g ρ).length<=1000/\∀q r,(q,r)∈(g ρ).zip (hl ρ)->m (((jT (none::none::cap) ρ).set 0 (.fr q)).set 1 (.fr r))) λρ=>((g ρ).zip (hl ρ)).map λp=>u (((jT (none::none::cap) ρ).set 0 (.fr p.1)).set 1 (.fr p.2))):=
 λf s D H Q I h=>xU L y (DG j B (pa_cons v (pa_cons w pa_nil e) d) d k) A (λ_ _ _=>m7) z i f s D H Q I (aan h)
theorem Oz (B:X.N.Nodup)(n:X.N[i]?=so x)(J:X.env.scope.names.lookup x=so .local)(L:sU X N' sc cl (none::none::cap))(D:X.calm=true)(m:Gl X "zip")(I:X.mg "zip"=none)(z:PE X l (tX X.K G w λρ=>.lst (g ρ)))(A:PE X c (tX X.K G C λρ=>.lst (hl ρ)))(F:∀s H fp,PG (jP X N' sc cl s H fp) (.Tuple els kk tp) (gTup X.K 2 (gCons (gName 0) (gCons (gName 1) gNil))))(E:∀s H fp,PE (jP X N' sc cl s H fp) u (tX X.K G v y))
  (t:swapsWith (.ListComp u [(.Tuple els kk tp,.Call (.Name "zip" p) [l,c] [] a,[],0)] sc j) (so (.Name x M)) f.line X.env=pure true) (d:starEach [l,c] X.env=(false,eval l X.env)::starEach [c] X.env:=by rfl) (e:starEach [c] X.env=[(false,eval c X.env)]:=by rfl) (o:(backTo a (starEach [c] X.env)).any (·.1)=false:=by rfl) (k:∀x,foldedSetIterable (.Call (.Name "zip" p) [l,c] [] a) X.env x=pure x:=by intro _;rfl) :
  PS X (.Assign [.Name x M] (.ListComp u [(.Tuple els kk tp,.Call (.Name "zip" p) [l,c] [] a,[],0)] sc j) f) (ts X.K G N λP ρ=>((w ρ/\C ρ)/\(g ρ).length<=1000/\∀q r,(q,r)∈(g ρ).zip (hl ρ)->v (((jT (none::none::cap) ρ).set 0 (.fr q)).set 1 (.fr r)))/\∀ns,ns=(((g ρ).zip (hl ρ)).map λp=>y (((jT (none::none::cap) ρ).set 0 (.fr p.1)).set 1 (.fr p.2)))->P.nx (ρ.set i (.fr (.lst ns)))):=
 Ob (Bk B n J L D (DG m I (pa_cons z (pa_cons A pa_nil e) d) d o) F (λ_ _ _=>m7) E t k) λO H Q h=>aan h
theorem R5 (L:sU X N' sc cl (none::none::cap))(o:X.calm=true)(j:Gl X "enumerate")(v:X.mg "enumerate"=none)(u:PE X a (tX X.K G k λρ=>.lst (g ρ)))(t:∀s H fp,PG (jP X N' sc cl s H fp) (.Tuple els kk tp) (gTup X.K 2 (gCons (gName 0) (gCons (gName 1) gNil))))(r:∀s H fp,PE (jP X N' sc cl s H fp) m (tX X.K G C n))
  (c:starEach [a] X.env=[(false,eval a X.env)]:=by rfl) (f:∀x,foldedSetIterable (.Call (.Name "enumerate" p) [a] [] e) X.env x=pure x:=by intro _;rfl) :
  PE X (.ListComp m [(.Tuple els kk tp,.Call (.Name "enumerate" p) [a] [] e,[],0)] sc l) (yE X.K G (λρ=>k ρ/\(g ρ).length<=1000/\∀(i:Nat) (q:PV),(g ρ)[i]?=so q->C (((jT (none::none::cap) ρ).set 0 (.fr (.int i))).set 1 (.fr q))) λρ=>(g ρ).mapIdx λi p=>n (((jT (none::none::cap) ρ).set 0 (.fr (.int i))).set 1 (.fr p))):=
 λd s w H Q I h=>xU L o (CP j v (pa_cons u pa_nil c) c) t (λ_ _ _=>m7) r f d s w H Q I (ac0 h)
end
theorem QV {t:TE}{st:Stmt}{C:En->Prop}{g:En->List PV}(h:PS X st (tAsg t (gName i)))(k:∀e H Q,yE X.K G C g e H Q->t e H Q):PS X st (ts X.K G E λP d=>C d/\∀ns,ns=g d->P.nx (d.set i (.ow (.lst ns)))):=
 toS h λB e H d O P D R c w=>k e H _ (B,d,O,R,c.1,λa v f s n l j=>w.nx _ f _ (hide a O,R.new (p:=.lst (g d)) s n l j) (c.2 _ rz))
section
variable {K:Fg}{pt:En->Prop}[∀ρ,Decidable (pt ρ)]{g hl:En->List PV}
theorem aaX (h:yE K G (λρ=>(Cs ρ/\I ρ)/\(g ρ).length<=1000/\∀q r,(q,r)∈(g ρ).zip (hl ρ)->Ct (((jT (none::none::cap) ρ).set 0 (.fr q)).set 1 (.fr r))/\(pt (((jT (none::none::cap) ρ).set 0 (.fr q)).set 1 (.fr r))->Cb (((jT (none::none::cap) ρ).set 0 (.fr q)).set 1 (.fr r)))) (λρ=>(((g ρ).zip (hl ρ)).filter λp=>decide (pt (((jT (none::none::cap) ρ).set 0 (.fr p.1)).set 1 (.fr p.2)))).map λp=>M (((jT (none::none::cap) ρ).set 0 (.fr p.1)).set 1 (.fr p.2))) σ H Q) :
  Uw (none::none::cap) (Z0 K (tCons (tX K G Cs λρ=>.lst (g ρ)) (tCons (tX K G I λρ=>.lst (hl ρ)) tNil))) (gTup K 2 (gCons (gName 0) (gCons (gName 1) gNil))) (vz K G Ct pt) (tX K G Cb M) σ H Q:=by
 obtain⟨B,ρ,O,R,⟨⟨c1,J⟩,c2,c3⟩,q⟩:=h;refine(B,ρ,O,R,c1,λv H1 C a1=>(B,ρ,O,R.grow C,J,λu Z w a2=>?_));obtain⟨a,F,rfl,hq,d⟩:=a1;obtain⟨b,E,rfl,P,m⟩:=a2;have d:=my.mono (lG (O:=O) w) _ _ d;have e:SqL K Z a F:=.inl (jK w (jK jZ hq));have j:SqL K Z b E:=.inl (jK jZ P);have el:=d.length;have el':=m.length;refine(a,b,rz,(_,e),(_,j),λD z=>?_);have A:(ss (min (g ρ).length (hl ρ).length)).length=min (g ρ).length (hl ρ).length:=aC;have t:∀i,i<(ss (min (g ρ).length (hl ρ).length)).length->i<F.length/\i<E.length:=λi h=>by rw[A]at h;lia
 have n:∀i,i<min (g ρ).length (hl ρ).length->((g ρ).getD i .non,(hl ρ).getD i .non)∈(g ρ).zip (hl ρ):=λi c=>by rw[gQ,gQ,ae (show i<(g ρ).length by lia),ae (show i<(hl ρ).length by lia)];refine cO.mpr (i,by rw[dN];exact c,?_);rw[iy];rfl
 refine Mq (ss (min (g ρ).length (hl ρ).length)) (λi _=>((pO (none::none::cap) σ).set 0 (so (F.getD i .non))).set 1 (so (E.getD i .non))) (λi=>((jT (none::none::cap) ρ).set 0 (.fr ((g ρ).getD i .non))).set 1 (.fr ((hl ρ).getD i .non))) (λ_=>.non) ((R.grow C).grow w) z (by rw[A];lia)
  (λi H c s=>(_,_,F[i]'(t i c).1,E[i]'(t i c).2,s.seq e,s.seq j,by rw[ae],by rw[ae])) ?_ (λH s=>(_,_,s.seq e,s.seq j,by rw[A];lia)) (λi H c s R'=>?_) ?_ (λi c=>(c3 _ _ (n i (bA.mp c))).1) (λi c=>(c3 _ _ (n i (bA.mp c))).2) ?_
 .rintro i k x H Y L s ⟨T,y,y',rfl,hT,rfl,S,o⟩;have S:=S _ (s.seq e);have o:=o _ (s.seq j);have N:i<min (g ρ).length (hl ρ).length:=by have:=(ah.mp L).1;rw[A]at this;exact this
  rw[bU N]at L;cases L;refine(same_new hT _,λkk hk=>(T,_,rz,SqT.of upd_same,rz,_,_,rz,_,_,rz,rz,?_));rw[gQ,gQ,S,o]at hk;exact hk
 .have c:=bA.mp c;exact(R'.set (At.mono (mO (O:=O) s z) _ _ (zN d ()))).set (At.mono (mO (O:=O) s z) _ _ (zN m ()))
 .intro i;exact nM _
 .intro Y ys s hd al;refine q D ys Y ((C.trans w).trans s) ((C.trans w).free z) hd ?_;have ez:(g ρ).zip (hl ρ)=(ss (min (g ρ).length (hl ρ).length)).map λi=>((g ρ).getD i .non,(hl ρ).getD i .non):=by rw[Rz (λp r=>Prod.mk p r) PV.non PV.non (g ρ) (hl ρ)];simp
  have U:∀(l:List (PV×PV)) (r:List Nat) (f:Nat->PV×PV),l=r.map f->(l.filter λp=>decide (pt (((jT (none::none::cap) ρ).set 0 (.fr p.1)).set 1 (.fr p.2)))).map (λp=>M (((jT (none::none::cap) ρ).set 0 (.fr p.1)).set 1 (.fr p.2)))=(r.filter λi=>decide (pt (((jT (none::none::cap) ρ).set 0 (.fr (f i).1)).set 1 (.fr (f i).2)))).map λi=>M (((jT (none::none::cap) ρ).set 0 (.fr (f i).1)).set 1 (.fr (f i).2)):=λl r f hl=>by rw[hl,List.filter_map,bj];rfl
  dsimp only;rw[U _ _ _ ez];exact al
end
section
variable {pt:En->Prop}[∀ρ,Decidable (pt ρ)]{g hl:En->List PV}
theorem Va (m:X.N.Nodup)(e:X.N[i]?=so x)(v:X.env.scope.names.lookup x=so .local)(L:sU X N' sc cl (none::cap))(n:X.calm=true)(r:PE X a (tX X.K G k λρ=>.lst (g ρ)))(p:∀s H fp,PG (jP X N' sc cl s H fp) t (gName 0))(o:∀s H fp,PE (jP X N' sc cl s H fp) j (tX X.K G C l))
  (f:swapsWith (.ListComp j [(t,a,[],0)] sc d) (so (.Name x w)) c.line X.env=pure true) (u:∀x,foldedSetIterable a X.env x=pure x:=by intro _;rfl) :
  PS X (.Assign [.Name x w] (.ListComp j [(t,a,[],0)] sc d) c) (ts X.K G E λP ρ=>(k ρ/\(g ρ).length<=1000/\∀q∈g ρ,C ((jT (none::cap) ρ).set 0 (.fr q)))/\∀ns,ns=((g ρ).map λq=>l ((jT (none::cap) ρ).set 0 (.fr q)))->P.nx (ρ.set i (.ow (.lst ns)))):=
 QV (Bk m e v L n (pi_list r) p (λ_ _ _=>m7) o f u) λy H Q h=>Z4 h
theorem V9 (L:sU X N' sc cl (none::none::cap))(A:X.calm=true)(j:Gl X "zip")(E:X.mg "zip"=none)(y:PE X l (tX X.K G n λρ=>.lst (g ρ)))(z:PE X c (tX X.K G C λρ=>.lst (hl ρ)))(D:∀s H fp,PG (jP X N' sc cl s H fp) (.Tuple els kk tp) (gTup X.K 2 (gCons (gName 0) (gCons (gName 1) gNil))))(F:∀s H fp,PT (jP X N' sc cl s H fp) t (vz X.K G o pt))(B:∀s H fp,PE (jP X N' sc cl s H fp) v (tX X.K G m w))
  (d:starEach [l,c] X.env=(false,eval l X.env)::starEach [c] X.env:=by rfl) (e:starEach [c] X.env=[(false,eval c X.env)]:=by rfl) (k:(backTo a (starEach [c] X.env)).any (·.1)=false:=by rfl) (i:∀x,foldedSetIterable (.Call (.Name "zip" p) [l,c] [] a) X.env x=pure x:=by intro _;rfl) :
  PE X (.ListComp v [(.Tuple els kk tp,.Call (.Name "zip" p) [l,c] [] a,[t],0)] sc u) (yE X.K G (λρ=>(n ρ/\C ρ)/\(g ρ).length<=1000/\∀q r,(q,r)∈(g ρ).zip (hl ρ)->o (((jT (none::none::cap) ρ).set 0 (.fr q)).set 1 (.fr r))/\(pt (((jT (none::none::cap) ρ).set 0 (.fr q)).set 1 (.fr r))->m (((jT (none::none::cap) ρ).set 0 (.fr q)).set 1 (.fr r)))) λρ=>(((g ρ).zip (hl ρ)).filter λp=>decide (pt (((jT (none::none::cap) ρ).set 0 (.fr p.1)).set 1 (.fr p.2)))).map λp=>w (((jT (none::none::cap) ρ).set 0 (.fr p.1)).set 1 (.fr p.2))):=
 λf s J H Q I h=>xU L A (DG j E (pa_cons y (pa_cons z pa_nil e) d) d k) D (λs H fp=>Rn (F s H fp)) B i f s J H Q I (aaX h)
end
end L3
namespace L2
section
variable {X:Cx}{pos:Pos}
def aaZ (K:Fg)(n:Nat)(t:TGs):TG:=λv c H Q=>∃a xs,v=.ref a/\SqL K H a xs/\xs.length=n/\t xs c H Q
theorem Xl (x:X.calm=true)(h:PGs X c t)
  (z:(assignEach c X.env).length=n:=by rfl) (d:(assignEach c X.env).findIdx? (·.1)=none:=by rfl):PG X (.Tuple c k pos) (aaZ X.K n t):=by
 rintro p s j H v u Q I r ⟨a,xs,m,A,y,f⟩;subst m;cases r;obtain⟨i,g,pl,C⟩:=I.list A;rw[assign_Tuple];refine aM (f9 ?_);unfold unpack;rw[z,d];have e:n=i.toArray.size:=by simp[<-y,g.length]
 rw[e];refine aM (fe (W.kun_itemsOf (I.ok.hd x) pl.isList λw B=>?_));have l:Inv X p j H { s with heap:=w }:=I.kept (t':=s.toks) λb o e=>B b o (aZ (aE e)) e;exact h p _ j H xs _ Q l (by simpa using g) f
end
end L2
namespace L3
open L2
def JW:PV->Int
 | .ints [a,_]=>a
 |_=>0
def Jj:PV->Int
 | .ints [_,b]=>b
 |_=>0
def adR (q:PV):Prop:=q=.ints [JW q,Jj q]
theorem Tj {k j:Nat}{g:En->List PV}{N:Nat}(hp:PassesOwn (model X.prog X.w) X.A X.env X.xe)(hc:X.calm=true)(hl:PE X l (tX X.K G C λd=>.lst (g d)))
  (E:PG X (.Tuple [.Name x px,.Name y py] N tp) (aaZ X.K 2 (gCons (gName k) (gCons (gName j) gNil)))) (hb:PSs X body (ts X.K G Q f)) (A:∀x,foldedSetIterable l X.env x=pure x:=by intro _;rfl) :
  PS X (.For (.Tuple [.Name x px,.Name y py] N tp) l body [] pos) (ts X.K G Q λP d=>(C d/\∀q∈g d,adR q)/\∃W:Nat->En->Prop,W 0 d /\ (∀i n ρ',(g d)[i]?=so n->W i ρ' -> f (P.lp (W (i+1))) ((ρ'.set k (.fr (.int (JW n)))).set j (.fr (.int (Jj n)))))/\∀ρ',W (g d).length ρ' -> P.nx ρ'):=
 toS (ps_for hp hc (pi_list hl) E hb A) λB o H d O P D R c w=>by
  obtain⟨⟨Y,Z⟩,W,w0,st,nd⟩:=c;refine(B,d,O,R,Y,λv I s1 U=>?_);obtain⟨a,vs,e,M,t⟩:=U;have z:=R.grow s1;have m:=sO z w;have el:=t.length;refine(a,e,(_,.inl (jK jZ M)),for_list (xs:=vs) (λi o H=>∃ρ',yx X.K G (B.at I O) o H ρ'/\W i ρ') (d,(O,z.rebase),w0) ?_ ?_ ?_)
  .rintro i o H _ ⟨ρ',⟨J,r⟩,_⟩;exact .inl (jK ((Rep.sX B I O).trans r.same) M)
  .rintro i y o H hy ⟨ρ',⟨J,r⟩,u⟩;obtain⟨n,L,an⟩:=t.get hy;have ip:=Z n (aP L);have s:=At.mono (z.seen r) _ _ an;rw[ip]at s;obtain⟨T,rfl,hT⟩:=s;refine(T,[.int (JW n),.int (Jj n)],rz,.inl (jK jZ hT),rz,_,_,rz,_,_,rz,rz,?_);exact(_,_,_,(J,(r.set (p:=.int (JW n)) rz).set (p:=.int (Jj n)) rz),st i n ρ' L u,(λF S ρ' r h=>(ρ',r,h),m.rt,m.rl,m.rn,m.nx,λF S ρ' r h=>(ρ',r,h),m.er))
  .rintro o H ⟨ρ',r,u⟩;rw[<-el]at u;exact m.nx o H ρ' r (nd ρ' u)
def Jd:PV->List Int
 | .ints l=>l
 |_=>[]
def vR (p:List PV):List (List Int):=p.map Jd
theorem T9 (t:List (List Int)):vR (t.map PV.ints)=t:=by unfold vR;rw[bj];exact(aO λ_ _=>rz).trans (cC t)
def PL (C:Addr):Sp:=λv H Q _=>∃(x d:Addr) (p m:Int),v=[.ref x,.int p,.int m]/\FM.mR p/\1<=m/\m<=400/\H x=so (.ins C d [])/\Q .non (upd H x (.ins C d [("size",.int (p^m.toNat)),("prime",.int p)]))
theorem adL (o:OkI X.prog X.w X.K X.mg X.base CX0 j x C ["self",y,z] (PL C))(U:Room k X.A)(J:∀(H:Hp) (a g:Addr) (p m:Int),FM.mR p->1<=m->H a=so (.ins C g [("size",.int (p^m.toNat)),("prime",.int p)])->G.ob 0 H a (p^m.toNat))(L:PE X e (lF X.K G D i))(M:PE X f (lF X.K G E h))(S:j+1<=k:=by decide)(P:Gl X x:=by rfl)(l:(x == ("__debug__":Str))=false:=by decide)
  (t:starEach [e,f] X.env=(false,eval e X.env)::starEach [f] X.env:=by rfl) (n:starEach [f] X.env=[(false,eval f X.env)]:=by rfl) (r:(backTo pos (starEach [f] X.env)).any (·.1)=false:=by rfl):PE X (.Call (.Name x p) [e,f] [] pos) (tX X.K G (λd=>(D d/\E d)/\FM.mR (i d)/\1<=h d/\h d<=400) λd=>.ob 0 (i d^(h d).toNat)):=
 rR (Mj o U pass0 (pa_cons L (pa_cons M pa_nil n) t) S P l t r) λB σ H d O Q R c q=>(B,d,O,R,c.1.1,λv Y s F=>(B,d,O,R.grow s,c.1.2,λu Z A I=>λy g w N T=>by
  subst F I;refine(y,g,i d,h d,rz,c.2.1,c.2.2.1,c.2.2.2,upd_same,rz,q (.ref y) _ ((s.trans A).trans (JX w N)) (y,rz,J _ _ g _ _ c.2.1 c.2.2.1 ?_));rw[Io ((R.grow s).grow A).dom w];exact upd_same))
theorem ace {fs:List (Str×V)}(h:fs.map (·.1)=(["size"]:Ls)\/fs.map (·.1)=(["size","prime"]:Ls)):∀m∈Ar,fs.lookup m=none:=by
 intro m c;have k:∀m∈Ar,(m == ("size":Str))=false:=by decide +kernel
 have d:∀m∈Ar,(m == ("prime":Str))=false:=by decide +kernel
 rcases h with h|h
 .match fs,h with
  |[(a,v)],h=>
   have e:a="size":=by simpa using h
   subst e;rw[fU,k m c];rfl
 .match fs,h with
  |[(a,v),(b,u)],h=>
   obtain⟨e,e2⟩:a="size"/\b="prime":=by simpa using h
   subst e e2;rw[fU,k m c];rw[fU,d m c];rfl
theorem Az {c f e:Addr}(H:Hp)(a d:Addr)(h:H a=so (.ins c d [("size",.int 0)])):(Gk c f e).ob 0 H a 0:=(rz,c,d,_,h,.inl (rz,rz),rz,ace (.inl rz))
theorem Yl {f c e:Addr}(H:Hp)(a d:Addr)(p:Int)(g:FM.mR p)(h:H a=so (.ins c d [("size",.int p)])):(Gk f c e).ob 0 H a p:=(rz,c,d,_,h,.inr (.inl rz,by have:=g.1;lia),rz,ace (.inl rz))
theorem adx {f e c:Addr}(H:Hp)(a d:Addr)(p m:Int)(g:FM.mR p)(_:1<=m)(h:H a=so (.ins c d [("size",.int (p^m.toNat)),("prime",.int p)])):(Gk f e c).ob 0 H a (p^m.toNat):=(rz,c,d,_,h,.inr (.inr rz,dD (by have:=g.1;lia)),rz,ace (.inr rz))
theorem HN {k j:Nat}{g:En->List PV}{M:Nat}(hp:PassesOwn (model X.prog X.w) X.A X.env X.xe)(hc:X.calm=true)(hg:Gl X "enumerate")(hm:X.mg "enumerate"=none)(hl:PE X l (tX X.K G C λd=>.lst (g d)))
  (A:PG X (.Tuple [.Name x px,.Name y py] M tp) (gTup X.K 2 (gCons (gName k) (gCons (gName j) gNil)))) (hb:PSs X body (ts X.K G N f)) (L:starEach [l] X.env=[(false,eval l X.env)]:=by rfl)
  (z:∀x,foldedSetIterable (.Call (.Name "enumerate" p) [l] [] s) X.env x=pure x:=by intro _;rfl) :
  PS X (.For (.Tuple [.Name x px,.Name y py] M tp) (.Call (.Name "enumerate" p) [l] [] s) body [] pos) (ts X.K G N λP d=>C d/\∃W:Nat->En->Prop,W 0 d /\ (∀i n ρ',(g d)[i]?=so n->W i ρ' -> f (P.lp (W (i+1))) ((ρ'.set k (.fr (.int i))).set j (.fr n)))/\∀ρ',W (g d).length ρ' -> P.nx ρ'):=
 toS (ps_for hp hc (CP hg hm (pa_cons hl pa_nil L) L) A hb z) λB m H d O P D R c w=>by
  obtain⟨U,W,w0,st,nd⟩:=c;refine(B,d,O,R,U,λv F s1 S=>?_);obtain⟨a,vs,rfl,J,o⟩:=S;have u:=R.grow s1;have e:=sO u w;have Y:=o.length;refine(a,rz,(_,.inl (jK jZ J)),M8 (xs:=vs) (λi m H=>∃ρ',yx X.K G (B.at F O) m H ρ'/\W i ρ') (d,(O,u.rebase),w0) ?_ ?_ ?_)
  .rintro i m H _ ⟨ρ',⟨I,r⟩,_⟩;exact .inl (jK ((Rep.sX B F O).trans r.same) J)
  .rintro i y m H T hy ⟨ρ',⟨I,r⟩,t⟩ hT;obtain⟨n,Z,an⟩:=o.get hy;have R2:=r.grow (same_new hT (.tup [.int i,y]));refine(T,_,rz,SqT.of upd_same,rz,_,_,rz,_,_,rz,rz,?_);exact(_,_,_,(I,(R2.set (p:=.int i) rz).set (At.mono (u.seen R2) _ _ an)),st i n ρ' Z t,(λE Q ρ' r h=>(ρ',r,h),e.rt,e.rl,e.rn,e.nx,λE Q ρ' r h=>(ρ',r,h),e.er))
  .rintro m H ⟨ρ',r,t⟩;rw[<-Y]at t;exact e.nx m H ρ' r (nd ρ' t)
theorem HH {k j:Nat}{g h:En->List PV}{kk:Nat}(hp:PassesOwn (model X.prog X.w) X.A X.env X.xe)(hc:X.calm=true)(hg:Gl X "zip")(hm:X.mg "zip"=none)(hl:PE X l (tX X.K G C λd=>.lst (g d)))(Y:PE X o (tX X.K G C2 λd=>.lst (h d)))
  (U:PG X (.Tuple [.Name x px,.Name y py] kk tp) (gTup X.K 2 (gCons (gName k) (gCons (gName j) gNil)))) (hb:PSs X body (ts X.K G Er f))
  (J:starEach [l,o] X.env=(false,eval l X.env)::starEach [o] X.env:=by rfl) (L:starEach [o] X.env=[(false,eval o X.env)]:=by rfl) (Z:(backTo e (starEach [o] X.env)).any (·.1)=false:=by rfl) (S:∀x,foldedSetIterable (.Call (.Name "zip" p) [l,o] [] e) X.env x=pure x:=by intro _;rfl) :
  PS X (.For (.Tuple [.Name x px,.Name y py] kk tp) (.Call (.Name "zip" p) [l,o] [] e) body [] pos) (ts X.K G Er λP d=>(C d/\C2 d)/\∃W:Nat->En->Prop,W 0 d /\ (∀i n m ρ',(g d)[i]?=so n->(h d)[i]?=so m->W i ρ' -> f (P.lp (W (i+1))) ((ρ'.set k (.fr n)).set j (.fr m)))/\∀ρ',W (min (g d).length (h d).length) ρ' -> P.nx ρ'):=
 toS (ps_for hp hc (DG hg hm (pa_cons hl (pa_cons Y pa_nil L) J) J Z) U hb S) λB t H d O P D R c w=>by
  obtain⟨⟨c1,c2⟩,W,w0,st,nd⟩:=c;refine(B,d,O,R,c1,λv H1 s1 a1=>(B,d,O,R.grow s1,c2,λu M s2 a2=>?_));obtain⟨a,vs,rfl,hq,z⟩:=a1;obtain⟨b,us,rfl,F,E⟩:=a2;have N:=(R.grow s1).grow s2;have s:=sO N w;have el:=z.length;have eu:=E.length;have I:Rd (mn M O) a (.lst vs):=jK (lG s2) hq;have A:=my.mono (lG s2) _ _ z;refine(a,b,rz,(_,.inl (jK jZ I)),(_,.inl (jK jZ F)),aad (xs:=vs) (ys:=us) (λi t H=>∃ρ',yx X.K G (B.at M O) t H ρ'/\W i ρ') (d,(O,N.rebase),w0) ?_ ?_ ?_)
  .rintro i t H ⟨ρ',⟨O',r⟩,_⟩;exact(.inl (jK ((Rep.sX B M O).trans r.same) I),.inl (jK ((Rep.sX B M O).trans r.same) F))
  .rintro i x y t H T hx hy ⟨ρ',⟨O',r⟩,Q⟩ hT;obtain⟨n,en,an⟩:=A.get hx;obtain⟨m,em,am⟩:=E.get hy;have R2:=r.grow (same_new hT (.tup [x,y]));refine(T,_,rz,SqT.of upd_same,rz,_,_,rz,_,_,rz,rz,?_);exact(_,_,_,(O',(R2.set (At.mono (N.seen R2) _ _ an)).set (At.mono (N.seen R2) _ _ am)),st i n m ρ' en em Q,(λσ' H' ρ' r h=>(ρ',r,h),s.rt,s.rl,s.rn,s.nx,λσ' H' ρ' r h=>(ρ',r,h),s.er))
  .rintro t H ⟨ρ',r,Q⟩;rw[<-el,<-eu]at Q;exact s.nx t H ρ' r (nd ρ' Q)
end L3
namespace L2
section
variable {X:Cx}
theorem S9 (l:Li):(l.map V.int).all flatV=true:=by rw[List.all_map];exact b7.mpr λ_ _=>rfl
theorem WP (n:Int)(l:Li):inV (.int n) (l.map V.int)=decide (n∈l):=by
 unfold inV;rw[List.any_map];have:∀y:Int,eqV (.int y) (.int n)=(y == n):=λy=>rfl;rw[df,cr,cJ];refine(λ (y,a,e)=>?_,λh=>(n,h,?_))
 .rw[<-eq_of_beq e];exact a
 .exact beq_self_eq_true n
end
end L2
namespace L3
open L2
theorem ZV (k:PE X a (lF X.K G C i))(m:PE X b (Jw X.K G e j))(n:behindInMarks .NotIn b=false:=by rfl):PT X (.Compare a [.NotIn] [b] pos) (vz X.K G (λd=>C d/\e d) λd=>i d∉j d):=
 λp s w H Q I (_,_,_,R,c,q)=>pt_cmpR op_notIn_seq k m n p s w H Q I (two R c.1 c.2 λv u x h r t f g=>by
  subst f;obtain⟨l,rfl,o⟩:=g;refine(l,_,rz,.inl (aaR (jK jZ o)),rz,S9 _,_,rz,?_);have z:=q h (r.trans t);rw[aL rz,WP,<-g6];exact z)
end L3
namespace L2
theorem JM {j k:Type}{f:j->k}{l m:List k}(h:l.Perm m):∀{L:List j},L.map f=m->∃c:List j,c.Perm L/\c.map f=l:=by
 induction h with
 |nil=>intro L e;have:L=[]:=List.map_eq_nil_iff.mp e;subst this;exact([],.nil,rz)
 |cons x _ o=>intro L e;obtain⟨a,r,rfl,rfl,d⟩:=fY.mp e;obtain⟨c,p,q⟩:=o d;exact(a::c,.cons a p,by rw[bi,q])
 |swap x y l=>intro L e;obtain⟨a,z,rfl,rfl,d⟩:=fY.mp e;obtain⟨b,r,rfl,rfl,rfl⟩:=fY.mp d;exact(b::a::r,.swap a b r,rz)
 |trans _ _ i g=>intro L e;obtain⟨w,s,u⟩:=g e;obtain⟨n,t,v⟩:=i u;exact(n,t.trans s,v)
theorem KN {d:Type}(k:d->Int):∀{a b:List d},a.Perm b->a.Pairwise (λx y=>k x<=k y)->b.Pairwise (λx y=>k x<=k y)->(b.map k).Nodup->a=b
 |[],b,p,_,_,_=>(List.Perm.nil_eq p)
 |x::a,[],p,_,_,_=>absurd p.length_eq (by simp)
 |x::a,y::b,p,sa,sb,nd=>by
  rw[List.pairwise_cons]at sa sb;rw[bi,fh]at nd;have e:x=y:=by
   have h:x∈y::b:=p.mem_iff.mp az;have c:y∈x::a:=p.mem_iff.mpr az;rcases aG.mp h with h|h
   .exact h
   rcases aG.mp c with c|c
   .exact c.symm
   have f:=sb.1 x h;have g:=sa.1 y c;have i:k y=k x:=Int.le_antisymm f g;exact absurd (aB.mpr (x,h,i.symm)) nd.1
  subst e;rw[KN k (List.Perm.cons_inv p) sa.2 sb.2 nd.2]
theorem Bw:∀{l m:Lv},TriplesOk l->TriplesOk m->TriplesOk (l++m)
 |[],_,_,h=>h
 | .int _ _ :: .int _ _::_::rest,m,h1,h2=>by exact Bw (l:=rest) h1 h2
theorem Ib:∀{l:Lv},TriplesOk l->codeAmong pos (l++m)=so cv->codeAmong pos l=so cv\/codeAmong pos m=so cv
 |[],_,h=>.inr h
 | .int line t :: .int col u::c::rest,ht,h=>by
  have h:(if line == pos.line && col == pos.col then so c else codeAmong pos (rest++m))=so cv:=h;show(if line == pos.line && col == pos.col then so c else codeAmong pos rest)=so cv\/_;split at h
  .rename_i g;rw[aL g];exact .inl h
  .rename_i g;rw[aF g];exact Ib (l:=rest) ht h
theorem Inv.grown {P c':Addr}{t:Ce}{oc:Obj}{more:Array Value}{h':Heap}{tk:Nat}(I:Inv X k Q H s)(e:H P=so (.tbl t))(l:∀b o,b≠P->s.heap.get? b=so o->h'.get? b=so o)(j:s.heap.objs.size<=c')
  (C:h'.get? c'=so oc) (L:Bu oc t.q) (B:h'.get? P=so (W.tabObj (t.ps++more))) (M:TriplesOk more.toList) (J:∀p i,codeAmong p more.toList=so i->i=.ref c') :
  Inv X k Q (upd (upd H c' (.frz oc (.ext λ_=>True))) P (.tbl (t++more))) { s with heap:=h',toks:=tk }:=by
 have fr:H c'=none:=I.hok.fresh j;have m:c'≠P:=λz=>by rw[z,e]at fr;cases fr
 have d:∀b u,H b=so u->b≠c':=λb u q z=>by rw[z,fr]at q;cases q
 have x:∀b,H b=none->b≠P:=λb q z=>by rw[z,e]at q;cases q
 refine I.un (λb o q n _ _=>l b o (x b n) q,λb o q n _ _=>(o.slots,l b o (x b n) q),λb o q n _=>?_,λb o q _=>?_,λb xs q=>?_,λb o u q=>?_,λb S q=>?_) λb u q=>?_
 .rw[upd_ne (x b n),upd_ne (aZ (aQ (aE q) j))];exact n
 .by_cases z:b=P
  .subst z;exact(_,B)
  .exact(o,l b o z q)
 .rw[upd_ne (λz=>by rw[z,e]at q;cases q),upd_ne (d b _ q)];exact q
 .rw[upd_ne (λz=>by rw[z,e]at q;cases q),upd_ne (d b _ q)];exact q
 .by_cases z:b=P
  .subst z;rw[e]at q;cases q;exact(more,upd_same)
  .exact(#[],by rw[upd_ne z,upd_ne (d b _ q),q];simp)
 .have g:∀c o u,H c=so (.frz o u)->(upd (upd H c' (.frz oc (.ext λ_=>True))) P (.tbl (t++more))) c=so (.frz o u):=λc o u q=>by rw[upd_ne (λz=>by rw[z,e]at q;cases q),upd_ne (d c _ q)];exact q
  by_cases z:b=P
  .subst z;rw[upd_same]at q;cases q;obtain⟨R,A,G⟩:=I.hok b _ e;refine(B,?_,λp i a=>?_)
   .show TriplesOk (t.ps++more).toList;rw[iY];exact Bw A M
   .have a:codeAmong p (t.ps++more).toList=so i:=a;rw[iY]at a;rcases Ib A a with a|a
    .obtain⟨c,D,E,y,N,O⟩:=G p i a;exact(c,D,E,y,g c D E N,O)
    .exact(c',oc,_,J p i a,by rw[upd_ne m,upd_same],L)
  .rw[upd_ne z]at q;by_cases y:b=c'
   .subst y;rw[upd_same]at q;cases q;exact(C,tT,(_,C),λ_ _ h _=>h)
   .rw[upd_ne y]at q;have F:∀c o,H c=so o->c≠P->(upd (upd H c' (.frz oc (.ext λ_=>True))) P (.tbl (t++more))) c=so o:=λc o q n=>by rw[upd_ne n,upd_ne (d c _ q)];exact q
    refine(I.hok b u q).stay (λc v f r=>l c v ?_ r) (λc r=>F c _ r λw=>by rw[w,e]at r;cases r) (λc xs r=>F c _ r λw=>by rw[w,e]at r;cases r) λc o u r=>g c o u r;rcases f with rfl|f
    .exact z
    .exact λw=>by rw[w,e]at f;cases f
theorem Bu.rec {h:Heap}{c:Addr}{oc:Obj}{q:Str}(e:h.get? c=so oc)(k:Bu oc q):h.CodeRec (.ref c) q:=let (vs,t,a,b):=k;(c,oc,vs,t,rz,e,a,b)
theorem Fq (I:Inv X D σ H s)(i:X.env.code=.ref c)(hx:(c,P,q)∈oZ X.K)(hq:X.env.qual++"<lambda>"=q)
  (v:defaultsOf a X.env=([],[])) (r:closureFor scope X.env=pure [])
  (Q:Value->Shared->Prop)
  (h:∀f c' g l s',Inv X D σ l s' -> (∀b o,H b=so o->(∀t,o ≠ .tbl t)->l b=so o)->(∀b t,H b=so (.tbl t)->∃Z,l b=so (.tbl (t.q,Z)))->s'.heap.get? f=so (W.kla_obj "<lambda>" q a body scope [] ((X.mg "__name__").getD .none) c' g)->l f=none -> (∃oc u,l c'=so (.frz oc u)/\Bu oc q)->s'.os=s.os->s.heap.objs.size<=f->Q (.ref f) s') :
  wpAny (model X.prog X.w) X.A (eval (.Lambda a body scope d) X.env) Q E s:=by
 obtain⟨F,e0⟩:=I.ok.frf.t _ hx;obtain⟨m1,j⟩:=I.base.tbls _ _ e0;have j:H P=so (.tbl (q,F++m1)):=j;generalize F++m1=Z at j;obtain⟨hP,ht,hr⟩:=I.hok P _ j;have C:W.CodeHd s.heap c P:=iV I.kIn (HF hx);have hg:s.heap.Ns mainGlobals X.mg:=I.mod.glob.keeps I.bk;have A:∀b o,X.base.get? b=so o->b≠P:=λb o e z=>by have:=(I.bs b o e).2;rw[z,j]at this;cases this
 have T:mainGlobals≠P:=by obtain⟨o,es,ep,e,_⟩:=I.mod.glob;exact A _ _ e
 obtain⟨bm,ob,b1,b2,G,b4,b5,M⟩:=I.mod.bm;have O:bm≠mainGlobals:=λz=>by obtain⟨o,es,ep,e,J,_⟩:=I.mod.glob;rw[z,e]at G;cases G;rw[J]at M;cases M
 have hb:s.heap.BuiltinsAt X.mg P:=(bm,ob,b1,b2,O,A _ _ G,I.bk _ _ G,b4,b5,M);refine W.kla_eval v ?_;rw[hq];cases S:codeAmong d Z.toList with
 |none=>
  refine W.kla_makeFunction (mg:=X.mg) r I.ok.glob hg i C hP ht S T hb λc' g h' tk Y k hlt x U=>?_;obtain⟨c2,oc,vs,t,ec,w,J,hv⟩:=x;cases ec;have I2:=I.grown (c':=c') (oc:=oc) (more:=#[rawInt d.line,rawInt d.col,.ref c']) (h':=h') (tk:=tk) j (λb o n e=>Y b o n e) k w (vs,t,J,hv) U trivial (λp N m=>by
   have m:(if (d.line:Int) == p.line && (d.col:Int) == p.col then so (Value.ref c') else none)=so N:=m;split at m
   .exact(aJ m).symm
   .cases m)
  have L:=I2.kept (h':=h'.push (W.kla_obj "<lambda>" q a body scope [] ((X.mg "__name__").getD .none) c' g)) (t':=tk) λb u e=>aA _ e;have fr:H c'=none:=I.hok.fresh k;have B:∀b u,H b=so u->b≠c':=λb u q z=>by rw[z,fr]at q;cases q
  have R:c'≠P:=λz=>by rw[z,j]at fr;cases fr
  refine h h'.objs.size c' g _ _ L (λb o q n=>?_) (λb t q=>?_) (bh _ rz) (I2.hok.fresh (ao _)) (oc,_,by rw[upd_ne R,upd_same],vs,t,J,hv) rz (aj k (a7 (aE w)))
  .rw[upd_ne (λz=>by rw[z,j]at q;cases q;exact n _ rz),upd_ne (B b _ q)];exact q
  .by_cases z:b=P
   .subst z;rw[j]at q;cases q;exact(_,upd_same)
   .exact(t.ps,by rw[upd_ne z,upd_ne (B b _ q),q])
 |some N=>obtain⟨c',oc,u,rfl,g1,g2⟩:=hr d N S;refine W.kla_makeFunctionHit (mg:=X.mg) r I.ok.glob hg i C hP ht S hb λg h' tk hk y=>?_;have L:=I.kept (h':=h'.push (W.kla_obj "<lambda>" q a body scope [] ((X.mg "__name__").getD .none) c' g)) (t':=tk) λb u e=>aA _ (hk b u e);exact h h'.objs.size c' g _ _ L (λb o q _=>q) (λb t q=>(t.ps,q)) (bh _ rz) (I.hok.fresh y) (oc,u,g1,g2) rz y
theorem wJ:bootBuiltins "sorted"=so (.builtin "sorted"):=by decide +kernel
theorem ab6 {h:Heap}{a:Addr}{m g:Mg}(x:h.Ns a m)(y:h.Ns a g):m=g:=by obtain⟨o,r,p,e,d,_,k⟩:=x;obtain⟨s,j,i,f,c,_,l⟩:=y;rw[e]at f;cases f;rw[d]at c;injection c with d1 _;subst d1;funext n;rw[<-k n,<-l n]
section
variable {prog:Program}{w:World}{A:Around}{s:Shared}{Q:Value->Shared->Prop}{E:Value->Shared->Prop}
theorem Td {f c' t:Addr}{its:Lv}{B O l:Value}{y q:Str}{p:Arguments}{scope:Scope}{L M N:Pos}{j:Nat}
  (P:s.heap.get? f=so (W.kla_obj "<lambda>" q p (.Subscript (.Name y L) (.Constant (.int 1) j M) N) scope [] O c' l)) (C:s.heap.CodeRec (.ref c') q) (k:A.depth<recursionLimit) (n:s.heap.NoLimit)
  (i:bindArgs (W.kla_fn "<lambda>" q p (.Subscript (.Name y L) (.Constant (.int 1) j M) N) scope [] O (.ref c') l) ([.ref t],[])=pure [(y,.ref t)])
  (c:scope.names.lookup y=so .local) (F:∀z∈scope.names,z.2 ≠ .cell) (J:scope.kind=.function) (D:scope.isCoroutine=false) (m:scope.isGenerator=false) (H:(y == ("__debug__":Str))=false)
  (tup:IsTup s.heap t its.toArray) (I:its[1]?=so B)
  (h:∀h' tk,(∀b o,s.heap.get? b=so o->h'.get? b=so o)->Q B { s with heap:=h',toks:=tk }) :
  wpAny (model prog w) A (call (.ref f) [.ref t]) Q E s:=by
 refine gf (fZ k P rz D m rz C ?_);rw[i];refine bG (eK F (λz R=>?_) (λd G u=>(n.fresh _ u,?_)) J)
 .rw[af.mp R];exact c
 have a:∀b o,s.heap.get? b=so o->d.get? b=so o:=λb o e=>u.extBut b o (aZ (aE e)) (aA _ e);refine f6 ?_;have g:IsTup d t its.toArray:=by obtain⟨o,e,r⟩:=tup;exact(o,a _ _ e,r)
 have len:1<its.length:=(ah.mp I).1;refine Subscript_ (ge (cZ J c G (v:=.ref t) ?_ ?_) H)
 .simp
 refine gD ?_;refine dW (x:=B) g.typeIs slot_tuple_getitem.lookup (getItem_tuple (j:=1) (Q:=λr S=>r=B/\_) g (()) (()) ?_ (by simpa using I) (rz,?_)) rfl
 .rw[aD];unfold seqIndex?;have:(1:Int)<(its.length:Int):=()
  simp[this]
 .exact h _ _ a
end
end L2
namespace L3
open L2
def yJ:PV->Int
 | .tup [_,.int k]=>k
 |_=>0
open Classical in
def Eh (p:List PV):List PV:=if h:∃l:List PV,l.Perm p/\l.Pairwise (λa b=>yJ a<=yJ b) then h.choose else[]
theorem Ma (p:l.Perm c)(o:l.Pairwise λa b=>yJ a<=yJ b)(n:(c.map yJ).Nodup):Eh c=l:=by have h:∃l:List PV,l.Perm c/\l.Pairwise (λa b=>yJ a<=yJ b):=(l,p,o);unfold Eh;rw[jo h];have s:=h.choose_spec;exact KN yJ (s.1.trans p.symm) s.2 o ((p.map yJ).nodup_iff.mpr n)
structure aag (ps:List PV):Prop where
 len:ps.length<64
 two:∀p∈ps,∃x,p=.tup [x,.int (yJ p)]
 nd:(ps.map yJ).Nodup
theorem acJ {d i j l:Type}(f:d->l):∀(a:List d) (b:List i) (c:List j),a.length=b.length->b.length=c.length->((a.zip (b.zip c)).map λt=>(f t.1,t.2.2))=(a.map f).zip c/\(a.zip (b.zip c)).map (λt=>t.1)=a
 |[],_,_,_,_=>(rz,rz)
 |x::a,[],_,h,_=>absurd h (by simp)
 |x::a,y::b,[],_,h=>absurd h (by simp)
 |x::a,y::b,z::c,h,k=>by
  obtain⟨e,g⟩:=acJ f a b c (by simpa using h) (by simpa using k);refine(?_,?_)
  .rw[d6,d6,bi,e,bi,d6]
  .rw[d6,d6,bi,g]
section
variable {K:Fg}
theorem Vk:∀{a:List PV} {xs:List V} {its:Lv},my K G H a xs->Vals xs its->∀t∈a.zip (xs.zip its),At K G H t.1 t.2.1/\RelV t.2.1 t.2.2
 |[],_,_,_,_,t,ht=>by simp at ht
 |p::a,_,_,h,r,t,ht=>by
  obtain⟨v,f,rfl,q,c⟩:=h;cases r with
  |cons d e=>
   rcases aG.mp ht with rfl|ht
   .exact(q,d)
   .exact Vk c e t ht
theorem Qw:∀{T:List (PV×V×Value)},(∀t∈T,At K G H t.1 t.2.1)->my K G H (T.map λt=>t.1) (T.map λt=>t.2.1)
 |[],_=>rfl
 |t::T,h=>(_,_,rz,h t az,Qw λx a=>h x (ai _ a))
theorem MK:∀{T:List (PV×V×Value)},(∀t∈T,RelV t.2.1 t.2.2)->Vals (T.map λt=>t.2.1) (T.map λt=>t.2.2)
 |[],_=>.nil
 |t::T,h=>.cons (h t az) (MK λx a=>h x (ai _ a))
end
theorem U0 (hl:Qp X.K X.env.code (X.env.qual++"<lambda>"))(hr:Room k X.A)(hm:X.mg "sorted"=none)(ha:PE X a (tX X.K G Ca ga))(hg:Gl X "sorted":=by rfl)(he:starEach [a] X.env=[(false,eval a X.env)]:=by rfl)
  (hdef:defaultsOf A X.env=([],[]):=by rfl) (hcl:closureFor scope X.env=pure []:=by rfl)
  (hbind:∀(pm ctv:Value) (c' t:Addr),bindArgs (W.kla_fn "<lambda>" (X.env.qual++"<lambda>") A (.Subscript (.Name y p1) (.Constant (.int 1) j p2) p3) scope [] pm (.ref c') ctv) ([.ref t],[])=pure [(y,.ref t)]:=by intros;rfl)
  (hloc:scope.names.lookup y=so .local:=by rfl) (hnc:∀z∈scope.names,z.2 ≠ .cell:=by decide) (hk:scope.kind=.function:=by rfl) (hco:scope.isCoroutine=false:=by rfl) (hgen:scope.isGenerator=false:=by rfl) (hyd:(y == ("__debug__":Str))=false:=by decide) :
  PE X (.Call (.Name "sorted" p) [a] [(so "key",.Lambda A (.Subscript (.Name y p1) (.Constant (.int 1) j p2) p3) scope posL,kp)] pos) (yE X.K G (λZ=>Ca Z/\ga Z=.lst (wN (ga Z))/\aag (wN (ga Z))) λZ=>Eh (wN (ga Z))):=by
 intro pins s σ H Q I (B,Z,O,R,c,q);refine bT (ld_blt I hg hm wJ ?_ (()) (()));refine dO (thn (pa_cons ha pa_nil he pos pins s σ H (λvs H'=>∃l xs,vs=[.ref l]/\Same H H'/\Rd (mn H' O) l (.lst xs)/\my X.K G (mn H' O) (wN (ga Z)) xs) I (B,Z,O,R,c.1,λv H1 s1 a1=>?_)) λus t1 h=>?_) (by rw[he];rfl) (by rw[he];rfl)
 .rw[c.2.1]at a1;obtain⟨l,xs,rfl,r1,al⟩:=a1;exact(l,xs,rz,s1,r1,al)
 obtain⟨vs,H1,I1,rv,l,xs,rfl,s1,rd,al⟩:=h;obtain⟨u,rfl,ru⟩:=vals1 rv;cases ru;obtain⟨cc,P,hcode,hx⟩:=hl;obtain⟨_,_,PO⟩:=c;have q:∀(a:Addr) (vs:List V) (H':Hp),Same H H' -> H a=none->H' a=so (HO.lst vs)->my X.K G (mn H' (hide a O)) (Eh (wN (ga Z))) vs->Q (V.ref a) H':=q;generalize wN (ga Z)=ps at *
 refine kws_cons (Fq I1 hcode hx rz hdef hcl _ λf c' ctv H2 t2 C kp2 tb2 hf fn fz os _=>kws_nil ?_);have s2:Same H1 H2:=λb o e=>by cases o<;>first|exact kp2 b _ e (λt z=>by cases z)|(obtain⟨ps',z⟩:=tb2 b _ e;exact(ps',z))
 obtain⟨_,its,n,r,S,e⟩:=L3.Inv.zR C (jK (jZ.trans s2) rd);have al2:=my.mono (lG s2) _ _ al;have lps:ps.length=xs.length:=al2.length;obtain⟨m,F⟩:=C.fr;have N:=news_all (g:=X.base) (h:=t2.heap) (L:=X.env.locals);have hfL:f≠X.env.locals:=λz=>by obtain⟨m',⟨o,es,ep,ho,hd,_⟩,_⟩:=C.loc;rw[<-z,hf]at ho;cases ho;cases hd
 have kept:∀{h:Heap} {own:List (Addr×Obj)},Fr X.base X.env.locals h m->News X.base X.env.locals h (allNews X.base t2.heap X.env.locals++own)->∀b o,b≠X.env.locals->t2.heap.get? b=so o->h.get? b=so o:=λ{h own} J N' b o hb eb=>by
  cases z:X.base.get? b with
  |some u=>have:=C.bk b u z;rw[eb]at this;cases this;exact J.keep b _ z
  |none=>exact(N' (b,o) (cM _ (mem_allNews hb z eb))).1
 have tr:∀b u,H2 b=so u->b≠X.env.locals:=λb u z w=>by rw[w,C.free]at z;cases z
 obtain⟨oc,fu,fz1,fz2⟩:=fz;have hoc:=(C.hok c' _ fz1).1;refine PyProof.Rows.ksk_sorted (b:=false) (kz:=ps.map yJ) (f:=.ref f) F N (vs:=its) (_,e,rz,n,rz) (by rw[ac,lps,S]) (by rw[<-S,<-lps];exact PO.len) (PyProof.Rows.ksk_s1 _ _) (λx=>PyProof.Rows.ksk_l1 _ _) (λx=>PyProof.Rows.ksk_t1 _ _) (λi v kk hv M h tk own J N'=>?_) (λD h' tk out cz J N' lt ko=>?_)
 .rw[ag]at M;cases hp:ps[i]? with
  |none=>rw[hp]at M;cases M
  |some pp=>
   rw[hp]at M;cases M;obtain⟨xv,hxv,at1⟩:=al2.at hp;obtain⟨v',hv',rl⟩:=r.get hxv;rw[hv]at hv';cases hv';obtain⟨x,ex⟩:=PO.two pp (aP hp);rw[ex]at at1;obtain⟨t,us,rfl,ht,ux,ur,rfl,_,ui,un,rfl,hui,hun⟩:=at1;cases rl;subst hun hui;have ht2:H2 t=so (.tup [ux,.int (yJ pp)]):=(t8 ht).2;obtain⟨_,its2,r2,tup⟩:=C.hok t _ ht2;cases r2 with
   |cons q0 q1=>
    cases q1 with
    |cons q2 q3=>cases q3;obtain⟨tok,rfl⟩:=q2;obtain⟨o,E,ro⟩:=tup;have tup':IsTup h t _:=(o,kept J N' _ _ (tr t _ ht2) E,ro);refine Td (s:={ t2 with heap:=h,toks:=tk }) (kept J N' _ _ hfL hf) (Bu.rec (kept J N' _ _ (tr c' _ fz1) hoc) fz2) hr.depth (C.ok.mod.nolimit.keeps J.keep) (hbind _ _ _ _) hloc hnc hk hco hgen hyd tup' rz λh'' tk' kk=>?_;exact(h'',tk',tok,rz,rz,J.kept kk,λp hp=>(kk _ _ (N' p hp).1,(N' p hp).2))
 .have d:∀b o,b≠X.env.locals->t2.heap.get? b=so o->h'.get? b=so o:=λb o hb eb=>by
   cases z:X.base.get? b with
   |some u=>have:=C.bk b u z;rw[eb]at this;cases this;exact J.keep b _ z
   |none=>exact(N' (b,o) (ai _ (mem_allNews hb z eb))).1
  obtain⟨hD,DL,Db⟩:=N' (D,_) az;have Dn:t2.heap.get? D=none:=by
   cases z:t2.heap.get? D with
   |none=>rfl
   |some o=>exact absurd (lt (D,o) (mem_allNews DL Db z)) (cE _)
  have HD:H2 D=none:=by
   cases z:H2 D with
   |none=>rfl
   |some u=>obtain⟨o,E⟩:=ObjOk.get (C.hok D u z);rw[Dn]at E;cases E
  obtain⟨pz,Y,hout,U⟩:=ko;obtain⟨z1,z2⟩:=acJ yJ ps xs its lps S;rw[<-z1]at Y;obtain⟨T,tp,te⟩:=JM Y rfl;have mem:=Vk al2 r;have eps:T.map (λt=>t.1)=Eh ps:=by
   refine(Ma ?_ ?_ PO.nd).symm
   .have:=tp.map λt=>t.1;rw[z2]at this;exact this
   .rw[<-te]at U;rw[List.pairwise_map]at U ⊢;exact U
  have eout:out.toList=T.map λt=>t.2.2:=by rw[hout,<-te,bj];rfl
  have rv:Vals (T.map λt=>t.2.1) out.toList:=by rw[eout];exact MK λt ht=>(mem t (tp.mem_iff.mp ht)).2
  have alT:my X.K G (mn H2 O) (Eh ps) (T.map λt=>t.2.1):=by rw[<-eps];exact Qw λt ht=>(mem t (tp.mem_iff.mp ht)).1
  have lT:(T.map λt=>t.2.1).length<=sizeLine:=by rw[ac,tp.length_eq,dN,dN];have h1:=PO.len;exact a7 (small1000 ())
  have hobj:h'.get? D=so { cls:=.type "list",data:=.seq out.toList.toArray cz }:=by
   rw[hD]
   all_goals simp[seqObj]
  have I3:Inv X pins σ (upd H2 D (.lst (T.map λt=>t.2.1))) { t2 with heap:=h',gens:=t2.gens,drawn:=t2.drawn,toks:=tk }:=by
   refine C.step (ch:=[]) (λb hb=>absurd hb (by simp)) (λb o hb _ _ E _=>d b o hb E) (λb o hb _ _ E _=>(o.slots,d b o hb E)) (λb o _ E no=>?_) (λb o _ E=>?_) (λb xs z=>?_) (λb o u z=>?_) (λb ps z=>(#[],?_)) (λm0 hm0=>?_) (λb u z=>?_) C.bare
   .rw[upd_ne (λw=>by rw[w,Dn]at E;cases E)];exact no
   .by_cases w:b=X.env.locals
    .obtain⟨o',es,ep,ho,_⟩:=J.ns;rw[w];exact(o',ho)
    .exact(o,d b o w E)
   .rw[upd_ne (ne_of_none z HD)];exact z
   .rw[upd_ne (ne_of_none z HD)];exact z
   .rw[upd_ne (ne_of_none z HD),z];simp
   .have:=ab6 hm0 F.ns;subst this;exact J.ns
   .by_cases w:b=D
    .subst w;rw[upd_same]at z;cases z;exact(lT,out.toList,cz,rv,hobj)
    .rw[upd_ne w]at z;refine(C.hok b u z).stay (λc v hcb rr=>d c v ?_ rr) (λc rr=>by rw[upd_ne (ne_of_none rr HD)];exact rr) (λc _ rr=>by rw[upd_ne (ne_of_none rr HD)];exact rr) λc _ _ rr=>by rw[upd_ne (ne_of_none rr HD)];exact rr
     rcases hcb with rfl|hcb
     .exact tr c _ z
     .exact tr c _ hcb
  have sD:Same H2 (upd H2 D (.lst (T.map λt=>t.2.1))):=same_new HD _;exact(.ref D,_,I3,rz,q D _ _ ((s1.trans s2).trans sD) ((s1.trans s2).free HD) upd_same (my.mono (mO sD HD) _ _ alT))
section
variable {P:Program}{w:World}{K:Fg}{mg:Mg}{base:Heap}{G:Gx}
theorem abp {x:Str}{st:Stmt}{N o:Ls}{k:Nat}{pre:List PV->Prop}{F:List PV->PV}(d:lN K mg x st o)(S:FnScope N o (defScope st))(L:Fi K mg x)(len:∀as,pre as->as.length=o.length)
  (i:∀(f:Addr) (g:Value) (A:Around) (outer:List Env) (s:Shared) (H:Hp) (E:XK),Room k (A.deeper (envOfC x (defScope st) s.heap.objs.size f g))->Qp K g (x++".<locals>."++"<lambda>") -> ∃fs,PSs (cxOf CX0 P w K mg base N x (defScope st) f g A outer s H E).nox (defBody st) (ts K G ER0 fs)/\∀as,pre as->fs { nx:=λ_=>F as=.non,rt:=λp=>p=F as,rl:=λns=>F as=.ints ns } (nq N as)):Ok P w K mg base (k+1) x o (uE K G pre F):=by
 obtain⟨f,T,D,b,m⟩:=d.ex;refine(f,T,?_,b,D.kp,m);obtain⟨oc,od,kV,R,pm,an,g,ct,osl,rfl,lk,u⟩:=D.ex;have y:Qp K g (x++".<locals>."++"<lambda>"):=by obtain⟨f',Z,od',U,sl',J,l,y⟩:=L;rw[m]at J;cases J;rw[lk]at l;cases l;exact y
 refine fn_of lk u S (λvs H Q E h=>?_) λA outer s H vs Q E Y h=>?_
 .obtain⟨as,O,_,t,B,_⟩:=h;rw[<-t.length];exact len as B
 obtain⟨as,O,I,t,B,q⟩:=h;obtain⟨fs,b,c⟩:=i f g A outer s H E Y y;refine(_,b.nox,(H,O),nq N as,_,(O,qw I t),c as B,(λσ' j ρ' r h=>?_,λv j p C M h=>?_,λa j ns C n e h=>?_,λ_ _ _ _ _ h=>h.elim,λ_ _ _ _ h=>h,λ_ _ _ _ h=>h,λ_ _ _ h=>h))
 .obtain⟨O',r⟩:=r;exact q .non j r.same (by rw[show F as=.non from h];rfl)
 .subst h;exact q v j C M
 .refine q _ j C ?_;rw[h];exact(a,rz,.inl (by
   rw[pB]
   .exact e
   .cases z:O a with
    |false=>rfl
    |true=>exact absurd n (I a z)))
end
end L3
namespace L2
def Xk (a b:Int×Int):Bool:=if a.1=b.1 then decide (a.2<b.2) else decide (a.1<b.1)
theorem ZS {x y:Addr}{t u ty m:Tok}{a b:Int×Int}(k:IsTup s.heap x #[.int a.1 t,.int a.2 u])(l:IsTup s.heap y #[.int b.1 ty,.int b.2 m])(h:Q (Xk a b) s):wpAny (model prog w) A (keyLt' (tuples' true) (.ref x) (.ref y)) Q E s:=by
 obtain⟨v,i,n,p,f⟩:=k;obtain⟨z,j,o,r,g⟩:=l;refine W.kat_lt i f j g (W.kat_cons (io ?_));unfold Xk at h;by_cases c:a.1=b.1
 .have e:(a.1 == b.1)=true:=by simpa using c
  rw[e];rw[aL c]at h;refine W.kat_yes (W.kat_cons (io ?_));by_cases d:a.2=b.2
  .have e:(a.2 == b.2)=true:=by simpa using d
   rw[e];rw[aN ()]at h;exact W.kat_yes (W.kat_nil h)
  .have e:(a.2 == b.2)=false:=by simpa using d
   rw[e];exact W.kat_no (W.kat_one _ _ (wpAny_lt_int h))
 .have e:(a.1 == b.1)=false:=by simpa using c
  rw[e];rw[aF c]at h;exact W.kat_no (oneLt_int h)
end L2
end
namespace L2
open PySem PySem.Spec PyProof.Rows PySem.W
def uF (n:Nat){c:Type}(Post:c->Prop):KasT c->Prop
 | .ret a=>Post a
 | .ask i j k=>i<n/\j<n/\∀b,uF n Post (k b)
def T4 (lt:Nat->Nat->Bool){c:Type}:KasT c->c
 | .ret a=>a
 | .ask i j k=>T4 lt (k (lt i j))
section
variable {n:Nat}{lt:Nat->Nat->Bool}{g o:Type}
theorem uF.mono {P Q:g->Prop}(h:∀a,P a->Q a):∀(t:KasT g),uF n P t->uF n Q t
 | .ret a,k=>h a k
 | .ask _ _ k,(a,b,c)=>(a,b,λx=>uF.mono h (k x) (c x))
theorem uF.bind {f:g->KasT o}{Q:o->Prop}:∀(t:KasT g),uF n (λa=>uF n Q (f a)) t->uF n Q (t.bind f)
 | .ret _,k=>k
 | .ask _ _ k,(a,b,c)=>(a,b,λx=>uF.bind (k x) (c x))
theorem uF.run {P:g->Prop}:∀(t:KasT g),uF n P t->P (T4 lt t)
 | .ret _,k=>k
 | .ask _ _ k,h=>uF.run (k _) (h.2.2 _)
theorem uF.wp {P:g->Prop}{c:Nat->Nat->(Bool->Shared->Prop)->Shared->Prop}{s:Shared}(a:∀i j C,i<n->j<n->C (lt i j) s->c i j C s){Q:g->Shared->Prop}:∀(t:KasT g),uF n P t->Q (T4 lt t) s->t.kasWp c Q s
 | .ret _,_,q=>q
 | .ask _ _ k,h,q=>a _ _ _ h.1 h.2.1 (uF.wp a (k _) (h.2.2 _) q)
def PR (n:Nat)(p:Array Nat):Prop:=p.toList.Perm (ss n)
theorem PR.size (h:PR n p):p.size=n:=by have:=List.Perm.length_eq h;rw[aC,gq]at this;exact this
theorem PR.bd {p:Array Nat}(h:PR n p){i:Nat}(a:i<n):p[i]!<n:=by
 have c:i<p.size:=by rw[h.size];exact a
 rw[show p[i]! =p[i] by simp[Array.getD,c]];have:p[i]∈p.toList:=by simp
 exact bA.mp (List.Perm.mem_iff h |>.mp this)
theorem PB {p:Array Nat}(R:PR n p):∀(f m:Nat),0<m->m+f=n->uF n (λk=>m<=k/\k<=n) (kas_asc p f m)
 |0,m,h0,hm=>(ao _,())
 |f+1,m,h0,hm=>by
  refine(R.bd (),R.bd (),λb=>?_);cases b
  .exact uF.mono (λk h=>((),h.2)) _ (PB R f (m+1) () ())
  .exact(ao _,())
theorem Dr {p:Array Nat}{i m:Nat}(R:PR n p):PR n (kas_rev p i m):=by have:=mirror_perm p i m ((m-i) / 2);exact(gC.mp this).trans R
theorem QZ:∀(f:Nat) (p:Array Nat) (m e:Nat),PR n p->0<m->m+f=n->uF n (λr=>PR n r.1/\m<=r.2.1/\r.2.1<=n) (kas_desc f p m e)
 |0,p,m,e,R,h0,hm=>(R,ao _,(():m<=n))
 |f+1,p,m,e,R,h0,hm=>by
  have i:∀a c,PR n a -> uF n (λr:Array Nat×Nat×Nat=>PR n r.1/\m<=r.2.1/\r.2.1<=n) (kas_desc f a (m+1) c):=λa c j=>uF.mono (λr h=>(h.1,Nat.le_of_succ_le h.2.1,h.2.2)) _ (QZ f a (m+1) c j () ());refine(R.bd (),R.bd (),λb=>?_);cases b
  .refine(R.bd (),R.bd (),λd=>?_);cases d
   .exact i _ _ R
   .exact(R,ao _,(():m<=n))
  .show uF n _ (if e > 0 then _ else _);split
   .exact i _ _ (Dr R)
   .exact i _ _ R
theorem RW {p:Array Nat}{m:Nat}(R:PR n p)(h0:0<m)(a:m<=n):uF n (λr=>PR n r.2/\1<=r.1/\r.1<=n) (kas_tail3 m n p):=
 uF.bind _ (uF.mono (λk h=>(Dr R,(():1<=k),h.2)) _ (PB (Dr R) (n-m) m h0 ()))
theorem Zt {p:Array Nat}{k:Nat}(R:PR n p)(a:k<n):uF n (λr=>PR n r.2/\1<=r.1/\r.1<=n) (kas_descPart k n p):=by
 refine uF.bind _ (uF.mono (λr h=>?_) _ (QZ (n-(k+1)) p (k+1) 0 R () ()));have:=h.2;split
 .exact RW (Dr h.1) () h.2.2
 .exact RW h.1 () h.2.2
theorem Wj {p:Array Nat}(R:PR n p)(e:2<=n):uF n (λr=>PR n r.2/\1<=r.1/\r.1<=n) (kas_count n p):=by
 refine uF.bind _ (uF.mono (λk h=>?_) _ (PB R (n-1) 1 (()) ()));by_cases c:k=n
 .rw[aL (by simpa using c)];exact(R,h)
 .rw[aF (by simpa using c)];have pt:=λ{d} (a:PR n d)=>Zt (k:=k) a ();split
  .refine(R.bd (),R.bd (),λb=>?_);cases b
   .exact pt (Dr R)
   .exact(R,h)
  .exact pt R
theorem Ew {p:Array Nat}{k:Nat}(R:PR n p)(a:k<n):∀(f l r:Nat),r<=k->uF n (λ_=>True) (kas_place p k f l r)
 |0,l,r,h=>trivial
 |f+1,l,r,h=>by
  unfold kas_place;split
  .exact trivial
  .refine(R.bd a,R.bd (),λb=>?_);cases b
   .exact Ew R a f _ _ h
   .exact Ew R a f _ _ ()
theorem Xe:∀(f:Nat) (p:Array Nat) (k:Nat),PR n p->k+f=n->uF n (PR n) (kas_bin f p k)
 |0,p,k,R,hk=>R
 |f+1,p,k,R,hk=>uF.bind _ (uF.mono (λl _=>Xe f _ (k+1) ((gC.mp (bubble_perm p k (k-l))).trans R) ()) _ (Ew R () k 0 k (ao _)))
theorem R0 (a:2<=n):uF n (PR n) (kas_sort n):=by
 refine uF.bind _ (uF.mono (λr h=>?_) _ (Wj (List.Perm.refl _) a));split
 .exact Xe _ _ _ h.1 ()
 .exact h.1
end
end L2
section
open PySem PySem.Spec PyProof.Rows
namespace L3
open L2
def Tc (g:Int×Int):PV:=.tup [.int g.1,.int g.2]
def kP (g:List (Int×Int)):List Nat:=if g.length<2 then ss g.length else(T4 (λi j=>Xk (g.getD i (0,0)) (g.getD j (0,0))) (W.kas_sort g.length)).toList
theorem Dd (g:List (Int×Int)):(kP g).Perm (ss g.length):=by
 unfold kP;split
 .exact .refl _
 .exact uF.run _ (R0 ())
theorem De (I:Inv X a c H s)(e:s.heap.get? D=so o)(n:H D=none)(dl:D≠X.env.locals)(fs:D∉X.fs)(d:∀v,o.data ≠ .cell v):Inv X ((D,o)::a) c H s:=
 { I with pin:=λp h=>(cF.mp h).elim (λh=>I.pin p (cM _ h)) λh=>(aG.mp h).elim (λz=>z ▸ (e,n,dl,fs,d)) λh=>I.pin p (aT _ h) }
theorem wQ (I:Inv X (q::c) d H s):Inv X c d H s/\s.heap.get? q.1=so q.2/\H q.1=none:=by obtain⟨a,b,_⟩:=I.pin q (aT _ az);exact({ I with pin:=λp h=>I.pin p ((cF.mp h).elim (λh=>cM _ h) λh=>aT _ (ai _ h)) },a,b)
structure oR (X:Cx)(pins:List (Addr×Obj))(D:Addr):Prop where
 big:X.s₀.heap.objs.size<=D
 loc:D≠X.env.locals
 cel:∀x c,X.env.cells.lookup x=so c->c≠D
 pin:∀p∈X.pn++pins,p.1≠D
 fs:D∉X.fs
theorem oR.of (I:Inv X a g H t)(h:t.heap.objs.size<=D):oR X a D where
 big:=aj I.sz h
 loc:=d8 (aQ I.lt h)
 cel:=λx c e=>by obtain⟨v,o,d,_⟩:=I.cell x c e;exact aZ (aQ (aE d) h)
 pin:=λp f=>aZ (aQ (aE (I.pin p f).1) h)
 fs:=I.nofs h
theorem zg (I:Inv X p w H s)(F:oR X p D)(t:Heap.SameBut D s.heap h')(e:h'.get? D=so o')(n:H D=none):Inv X p w H { s with heap:=h' }:=by
 have k:∀b o,b≠D->s.heap.get? b=so o->h'.get? b=so o:=λb o h q=>by rw[t.2 b h];exact q
 have f:∀b u,H b=so u->b≠D:=λb u q z=>by rw[z,n]at q;cases q
 refine I.step (ch:=[D]) (g':=s.gens) (d':=s.drawn) (t':=s.toks) (λb h=>?_) (λb o _ _ h q _=>k b o (λz=>h (af.mpr z)) q) (λb o _ _ h q _=>(o.slots,k b o (λz=>h (af.mpr z)) q)) (λb o _ _ q=>q) (λb o _ q=>?_) (λb _ q=>q) (λb _ _ q=>q) (λb x q=>(#[],by rw[q];simp)) (λm j=>?_) (λb u q=>?_) I.bare
 .rw[af.mp h];exact(.inr F.big,F.loc,F.cel,F.pin)
 .by_cases z:b=D
  .rw[z];exact(o',e)
  .exact(o,k b o z q)
 .obtain⟨o,i,g,l,r⟩:=j;exact(o,i,g,k _ _ (de F.loc) l,r)
 .refine(I.hok b u q).stay (λc v a d=>k c v ?_ d) (λc d=>d) (λc _ d=>d) λc _ _ d=>d;rcases a with rfl|a
  .exact f _ _ q
  .exact f _ _ a
theorem Qa {g:Int×Int}{e:V}{k:Value}(I:Inv X p C H s)(a:At X.K G (mn H O) (Tc g) e)(r:RelV e k):∃x v z,k=.ref x/\IsTup s.heap x #[.int g.1 v,.int g.2 z]:=by
 obtain⟨x,B,rfl,f,w,A,rfl,h,y,o,rfl,c,d⟩:=a;have d:o=[]:=d;have h:w=.int g.1:=h;have c:y=.int g.2:=c;subst d h c;cases r;obtain⟨_,i,u,tup⟩:=I.hok x _ (t8 f).2;cases u with
 |cons j l=>
  cases l with
  |cons m n=>cases n;obtain⟨tok,rfl⟩:=j;obtain⟨t,rfl⟩:=m;exact(x,tok,t,rz,tup)
section
variable {X:Cx}{g:List (Addr×Obj)}{B:L2.St}{H:Hp}{s t:Shared}{D w:Addr}{G:Gx}{O:Addr->Bool}{A:Around}{f:Value}{its:List Value}{l:List (Int×Int)}{F:Nat}{P:PySem.Fin->Shared->Prop}{E:Value->Shared->Prop}
def Eb (its:List Value)(p:List Nat):List Value:=p.map λi=>its.getD i Value.none
def XS (X:Cx)(g:List (Addr×Obj))(B:L2.St)(H:Hp)(D:Addr)(its:List Value)(l:List (Int×Int))(R:Shared->Prop):Prop:=
 ∀(h:Hp) (c:Nat) (a:Shared),Inv X g B h a -> Same H h -> h D=none->a.heap.get? D=so (seqObj "list" (Eb its (kP l)).toArray c)->R a
theorem RK {st:SortSt}{ks:Lv}{e:Nat}(I:Inv X g B H s)(n:oR X g D)(o:oR X g w)(x:w≠D)(v:s.heap.get? D=so (seqObj "list" #[] F))(d:s.heap.get? w=so (seqObj "list" ks.toArray e))(a:H D=none)(j:H w=none)
  (r:(arrOf st).map (·.2)=(Eb its (kP l)).toArray) (u:failedOf st=none) (z:l.length=its.length) (C:ks.length<64) (J:its.length<64) (fin:XS X g B H D its l λs'=>P (.done (.ret .none)) s') :
  wpAny (model X.prog X.w) A (ksk_tail D false F (.ref w) st) P E s:=by
 have i:=eV s.heap w (Obj.mapSeq λ_=>(#[]:Array Value));have p:=get?_update_seq d λ_=>(#[]:Array Value);have k:=zg I o i p j;have h:(s.heap.update w (Obj.mapSeq λ_=>(#[]:Array Value))).get? D=so (seqObj "list" #[] F):=by rw[i.2 D (de x)];exact v
 have y:=eV (s.heap.update w (Obj.mapSeq λ_=>(#[]:Array Value))) D (Obj.mapSeq λ_=>(Eb its (kP l)).toArray);have c:=get?_update_seq h λ_=>(Eb its (kP l)).toArray;have m:=zg k n y c a;have lp:(Eb its (kP l)).length<64:=by unfold Eb;rw[ac,(Dd l).length_eq,aC];lia
 unfold ksk_tail;dsimp only;rw[r];refine aM (ig d rz (aM (wpAny_letGo (aM (seqEpoch_at h rz (aM (ig h rz ?_ (bp _) (by
  show(if false=true then _ else(Eb its (kP l)).toArray).size<=_;rw[aF (()),aD,cX];lia))))))) (by rw[aD,cX];lia) (bp _))
 rw[u];simp only[bne_self_eq_false,Bool.false_eq_true,jp];exact bG (fin H _ _ m (Same.refl H) a c)
theorem Rv {h:Heap}:∀{ks:Lv},(∀k∈ks,∃x n d m u,k=.ref x/\IsTup h x #[.int n d,.int m u])->∃fs,W.KatTups h ks fs/\fs.length=ks.length/\∀v∈fs,∃n d,v=Value.int n d
 |[],_=>([],tT,rz,λ_ h=>by cases h)
 |k::ks,hk=>by
  obtain⟨fs,a,b,c⟩:=Rv λy r=>hk y (ai _ r);obtain⟨x,n,d,m,u,rfl,o,p,i,z,j⟩:=hk k az;refine(.int n d::fs,W.KatTups.cons p i j rz a,by rw[bC,bC,b],λv e=>?_);rcases aG.mp e with rfl|e
  .exact(n,d,rz)
  .exact c v e
theorem ZX (its:Lv):Eb its (ss its.length)=its:=by unfold Eb;refine fV (by rw[ac,aC]) λi a h=>?_;rw[cA,cq,gQ,ae h];rfl
def aar (X:Cx)(G:Gx)(O:Addr->Bool)(H:Hp)(l:List (Int×Int))(ks:List Value):Prop:=∀j,j<ks.length->∃a k,ks[j]?=so k/\RelV a k/\(2<=l.length->At X.K G (mn H O) (Tc (l.getD j (0,0))) a)
theorem aa0 {ks:Lv}{e:Nat}(I:Inv X g B H s)(Z:oR X g D)(fK:oR X g w)(ne:w≠D)(hD:s.heap.get? D=so (seqObj "list" #[] F))(hK:s.heap.get? w=so (seqObj "list" ks.toArray e))(S:H D=none)(U:H w=none)
  (kl:ks.length=its.length) (z:l.length=its.length) (kg:aar X G O H l ks) (R:its.length<64) (fin:XS X g B H D its l λs'=>P (.done (.ret .none)) s') :
  wpAny (model X.prog X.w) A (ksk_end D false its.toArray F (.ref w) ks.toArray) P E s:=by
 unfold ksk_end;simp only[Bool.false_eq_true,jp];by_cases L:its.length<2
 .rw[aL (by rw[aD];exact L),aL (by rw[aD];exact L)];refine aM (bG (aM (bG ?_)));refine RK I Z fK ne hD hK S U ?_ rz z () R fin;show(ks.toArray.zip its.toArray).map (·.2)=_;unfold kP;rw[aL (),z,ZX];apply Array.toList_inj.mp;rw[Array.toList_map,ksk_zip];show List.map Prod.snd (ks.zip its)=its;exact List.map_snd_zip ()
 .rw[aF (by rw[aD];exact L),aF (by rw[aD];exact L)];have facts:∀j,j<its.length->∃x d m,ks.getD j Value.none=.ref x/\IsTup s.heap x #[.int (l.getD j (0,0)).1 d,.int (l.getD j (0,0)).2 m]:=λj J=>by obtain⟨kv,k,o,rk,ak⟩:=kg j ();obtain⟨x,d,m,rfl,r⟩:=Qa I (ak ()) rk;exact(x,d,m,by rw[gQ,o];rfl,r)
  obtain⟨fs,tu,fl,fi⟩:=Rv (h:=s.heap) (ks:=ks) λk hk=>by obtain⟨j,J,rfl⟩:=cO.mp hk;obtain⟨x,d,m,Y,t⟩:=facts j ();rw[gQ,ae J]at Y;exact(x,_,d,_,m,Y,t)
  refine aM (W.kat_kind (T:=.type "int") tu () (λv hv=>?_) (()) ?_)
  .obtain⟨n,d,rfl⟩:=fi v hv;exact W.Looks.of_pure rfl
  have ok:=R0 (n:=its.length) ();have o:kP l=(T4 (λi j=>Xk (l.getD i (0,0)) (l.getD j (0,0))) (W.kas_sort its.length)).toList:=by unfold kP;rw[aF (),z]
  generalize hp:T4 (λi j=>Xk (l.getD i (0,0)) (l.getD j (0,0))) (W.kas_sort its.length)=p at o;refine aM (dJ (W.kat_run (G:=λp' s'=>s'=s/\p'=p) (Q:=λM s'=>s'=s/\arrOf M=p.map (W.kas_item (ks.toArray.zip its.toArray))/\failedOf M=none) kl () R (λp' M s' _ a b c=>(c.1,by rw[<-c.2];exact a,b)) ?_) (λr s' h=>?_) λ_ _ x=>x)
  .refine uF.wp (λi j C hi J hc=>?_) _ ok (rz,hp);obtain⟨x,d,m,F,t1⟩:=facts i hi;obtain⟨y,ty,uy,e2,t2⟩:=facts j J;show wpAny (model X.prog X.w) A (keyLt' (tuples' true) (ks.getD i Value.none) (ks.getD j Value.none)) C _ s;rw[F,e2];exact ZS t1 t2 hc
  .obtain⟨u,M⟩:=r;obtain⟨N,ar,nf⟩:=h;have N:s'=s:=N;subst N;refine RK I Z fK ne hD hK S U ?_ nf z () R fin;rw[o];exact W.kat_snds kl ar
theorem Zq (I:Inv X g B H s)(T:oR X g D)(y:oR X g w)(ne:w≠D)(hD:s.heap.get? D=so (seqObj "list" #[] F))(hK:s.heap.get? w=so (seqObj "list" #[] 0))(HD:H D=none)(HK:H w=none)
  (gl:l.length=its.length) (l2:its.length<64)
  (U:∀(pins':List (Addr×Obj)) (M:Hp) (o:Shared) (i:Nat) (v:Value),its[i]?=so v->Inv X pins' B M o->(∀q∈g,q∈pins')->Same H M->wpAny (model X.prog X.w) A (call f [v]) (λk s'=>∃J n,Inv X pins' B n s'/\Same M n/\RelV J k/\(2<=l.length->At X.K G (mn n O) (Tc (l.getD i (0,0))) J)) (λ_ _=>False) o)
  (fin:XS X g B H D its l λs'=>P (.done (.ret .none)) s') :
  wpAny (model X.prog X.w) A (ksk_rest D f false its.toArray F (.ref w)) P E s:=by
 unfold ksk_rest;refine aM (wpAny_rule ?_)
 first
  |rw[List.forIn_toArray]
  |(rw[<-Array.forIn_toList];simp only[List.toList_toArray])
 refine aM (ksk_fold (λi s'=>∃m n e,Inv X g B n s'/\Same H n/\n D=none/\n w=none/\s'.heap.get? D=so (seqObj "list" #[] F)/\s'.heap.get? w=so (seqObj "list" (List.toArray m) e)/\m.length=i/\aar X G O n l m) its 0 s ([],H,0,I,Same.refl H,HD,HK,hD,hK,rz,λj hj=>by cases hj) ?_ ?_)
 .rintro j x s' hx ⟨m,n,e,N,o,Q,R,o1,o2,lk,Y⟩;have jl:j<its.length:=(ah.mp hx).1;have Ip:=De (De N o2 R y.loc y.fs λv z=>by cases z) o1 Q T.loc T.fs λv z=>by cases z
  refine aM (wpAny_attempt (dJ (U _ n s' j x hx Ip (λq hq=>ai _ (ai _ hq)) o) (λk p h=>?_) λ_ _ z=>z.elim));obtain⟨J,r,I2,q2,rk,ak⟩:=h;obtain⟨I3,o3,S⟩:=wQ I2;obtain⟨I4,L,u⟩:=wQ I3;have o3:p.heap.get? D=so (seqObj "list" #[] F):=o3;have L:p.heap.get? w=so (seqObj "list" (List.toArray m) e):=L;have S:r D=none:=S;have u:r w=none:=u;have sb:=eV p.heap w (Obj.mapSeq (·.push k));have C:=get?_update_seq L (·.push k);have C:(p.heap.update w (Obj.mapSeq (·.push k))).get? w=so (seqObj "list" (List.toArray (m++[k])) (if (((List.toArray m).push k).size == (List.toArray m).size)=true then e else e+1)):=C.trans (by rw[show(List.toArray m).push k=List.toArray (m++[k]) by simp]);have I5:=zg I4 y sb C u;have o5:(p.heap.update w (Obj.mapSeq (·.push k))).get? D=so (seqObj "list" #[] F):=by rw[sb.2 D (de ne)];exact o3
  refine aM (ig L rz (bG (rz,m++[k],r,_,I5,o.trans q2,S,u,o5,C,by rw[aS,lk];rfl,λi hi=>?_)) (by rw[aD,cX];lia) (by
   show(((List.toArray m).push k).size)<=_;rw[Array.size_push,aD,cX];lia))
  rw[aS,bI]at hi;by_cases c:i<m.length
  .obtain⟨Z,k',a1,a2,a3⟩:=Y i c;exact(Z,k',by rw[bB c];exact a1,a2,λz=>At.mono (lG q2) _ _ (a3 z))
  .have:i=j:=()
   subst this;exact(J,k,by rw[bD (),show i-m.length=0 by lia];rfl,rk,ak)
 .rintro s' ⟨m,n,e,N,o,Q,R,o1,o2,lk,Y⟩;refine aM (listItems_at o2 rz ?_);exact aa0 N T y ne o1 o2 Q R () gl Y l2 λr c p a b d e=>fin r c p a (o.trans b) d e
theorem Y8 {N:Nat}(I:Inv X g B H s)(x:oR X g D)(m:s.heap.get? D=so (seqObj "list" its.toArray N))(u:H D=none)
  (L:l.length=its.length) (M:its.length<64)
  (p:∀(pins':List (Addr×Obj)) (d:Hp) (c:Shared) (i:Nat) (v:Value),its[i]?=so v->Inv X pins' B d c->(∀q∈g,q∈pins')->Same H d->wpAny (model X.prog X.w) A (call f [v]) (λk s'=>∃y h,Inv X pins' B h s'/\Same d h/\RelV y k/\(2<=l.length->At X.K G (mn h O) (Tc (l.getD i (0,0))) y)) (λ_ _=>False) c)
  (fin:XS X g B H D its l λs'=>P (.done (.ret .none)) s') :
  wpAny (model X.prog X.w) A (ksk_tree D f false) P E s:=by
 have c:=eV s.heap D (Obj.mapSeq λ_=>(#[]:Array Value));have a:=get?_update_seq m λ_=>(#[]:Array Value);have j:=zg I x c a u;have n:(s.heap.update D (Obj.mapSeq λ_=>(#[]:Array Value))).objs.size<=((s.heap.update D (Obj.mapSeq λ_=>(#[]:Array Value))).push (seqObj "tuple" its.toArray 0)).objs.size:=by rw[size_push'];lia
 have C:=j.kept (h':=((s.heap.update D (Obj.mapSeq λ_=>(#[]:Array Value))).push (seqObj "tuple" its.toArray 0)).push (seqObj "list" #[] 0)) (t':=s.toks) λb o e=>aA _ (aA _ e);have J:oR X g ((s.heap.update D (Obj.mapSeq λ_=>(#[]:Array Value))).push (seqObj "tuple" its.toArray 0)).objs.size:=oR.of j n;have z:H ((s.heap.update D (Obj.mapSeq λ_=>(#[]:Array Value))).push (seqObj "tuple" its.toArray 0)).objs.size=none:=j.hok.fresh n;have r:((s.heap.update D (Obj.mapSeq λ_=>(#[]:Array Value))).push (seqObj "tuple" its.toArray 0)).objs.size≠D:=d8 (aQ (aE a) n);unfold ksk_tree;refine aM (listItems_at m rz (aM (ig m rz (aM (seqEpoch_at a rz (aM (wpAny_newTuple (aM (wpAny_newList (fe ?_) (bp _))) (by show its.length<=_;rw[cX];lia))))) (by rw[aD,cX];lia) (bp _))));exact Zq (s:={ s with heap:=((s.heap.update D (Obj.mapSeq λ_=>(#[]:Array Value))).push (seqObj "tuple" its.toArray 0)).push (seqObj "list" #[] 0) }) C x J r (aA _ (aA _ a)) (bh _ rz) u z L M p fin
end
def Hi (k:PV->Int×Int)(p:List PV):List PV:=(kP (p.map k)).map λi=>p.getD i .non
theorem Wh (k:PV->Int×Int)(p:List PV):(Hi k p).Perm p:=by
 have h:=(Dd (p.map k)).map λi=>p.getD i .non;rw[ac,show((ss p.length).map λi=>p.getD i .non)=p from fV (by rw[ac,aC]) λi h a=>by
  rw[cA,cq,gQ,ae a];rfl]at h
 exact h
theorem HY (k:PV->Int×Int){a:List PV}(h:a.length<2):Hi k a=a:=by
 match a,h with
 |[],_=>rfl
 |[p],_=>rfl
section
variable {X:Cx}{P:List (Addr×Obj)}{g:L2.St}{H:Hp}{s t:Shared}{D l:Addr}{G:Gx}{O:Addr->Bool}{f:Value}{its:List Value}{h:List (Int×Int)}{E:Value->Shared->Prop}
theorem Tq (I:Inv X P g H s)(F:oR X P D)(n:H D=none)(e:s.heap.get? D=so (seqObj "list" its.toArray c))(j:Vals vs its)(hl:vs.length<=sizeLine):Inv X P g (upd H D (.lst vs)) s:=by
 have a:∀b u,H b=so u->b≠D:=λb u q z=>by rw[z,n]at q;cases q
 refine I.step (ch:=[D]) (h':=s.heap) (g':=s.gens) (d':=s.drawn) (t':=s.toks) (λb d=>?_) (λb o _ _ _ q _=>q) (λb o _ _ _ q _=>(o.slots,q)) (λb o d _ q=>?_) (λb o _ q=>(o,q)) (λb _ q=>?_) (λb _ _ q=>?_) (λb p q=>(#[],?_)) (λm i=>i) (λb u q=>?_) I.bare
 .rw[af.mp d];exact(.inr F.big,F.loc,F.cel,F.pin)
 .rw[upd_ne (λz=>d (af.mpr z))];exact q
 .rw[upd_ne (a _ _ q)];exact q
 .rw[upd_ne (a _ _ q)];exact q
 .rw[upd_ne (a _ _ q),q];simp
 .by_cases z:b=D
  .subst z;rw[upd_same]at q;cases q;exact(hl,its,c,j,e)
  .rw[upd_ne z]at q;exact(I.hok b u q).stay (λc v _ r=>r) (λc r=>by rw[upd_ne (a _ _ r)];exact r) (λc _ r=>by rw[upd_ne (a _ _ r)];exact r) λc _ _ r=>by rw[upd_ne (a _ _ r)];exact r
theorem Vt {Q:Value->Shared->Prop}(I:Inv X P g H t)(hl:t.heap.IsList l its.toArray)(L:h.length=its.length)(R:its.length<64)
  (M:∀x,Builtin.«list.sort» ([.ref x],[(Str.ofString "key",f)])=ksk_tree x f false)
  (u:∀(pins':List (Addr×Obj)) (r:Hp) (F:Shared) (i:Nat) (v:Value),its[i]?=so v->Inv X pins' g r F->(∀q∈P,q∈pins')->Same H r->wpAny (model X.prog X.w) X.A.in1.in1 (call f [v]) (λk s'=>∃B p,Inv X pins' g p s'/\Same r p/\RelV B k/\(2<=h.length->At X.K G (mn p O) (Tc (h.getD i (0,0))) B)) (λ_ _=>False) F)
  (fin:∀D,H D=none->oR X P D->XS X P g H D its h λs'=>Q (.ref D) s') :
  wpAny (model X.prog X.w) X.A (call (.builtin "sorted") [.ref l] [(Str.ofString "key",f)]) Q E t:=by
 refine call_function_entry_kw kind_sorted plain_sorted entry_sorted (ksk_s1 _ _) ?_;unfold Builtin.«sorted»;have j:its.length<=sizeLine:=by rw[cX];lia
 refine aM (m:=checkCount "sorted" 1 1 _) (bG (aM (collect_list hl (aM (wpAny_newList ?_ j)) j)));generalize A:(t.heap.push (seqObj "list" #[] 0)).update t.heap.objs.size (Obj.mapSeq (· ++ its.toArray))=n;have sz:n.objs.size=t.heap.objs.size+1:=by rw[<-A,Heap.size_update,size_push']
 have N:∀b o,t.heap.get? b=so o->n.get? b=so o:=λb o q=>by have:=aE q;rw[<-A,Heap.get?_update_ne _ _ _ _ (aZ this),Heap.get?_push_ne _ _ _ (aZ this)];exact q
 have J:=I.kept (h':=n.push (seqObj "list" its.toArray 0)) (t':=t.toks) λb o q=>aA _ (N b o q);have C:t.heap.objs.size<=n.objs.size:=()
 have z:(n.push (seqObj "list" its.toArray 0)).get? n.objs.size=so (seqObj "list" its.toArray 0):=bh _ rfl;have w:H n.objs.size=none:=I.hok.fresh C;have y:=oR.of I C;refine aM (fe (wpAny_call_entry_kw slot_list_sort (_,z,rz) entry_list_sort ?_ (ksk_l1 _ _)));show wpAny (model X.prog X.w) X.A.in1.in1 (Builtin.«list.sort» ([.ref n.objs.size],[(Str.ofString "key",f)])) _ _ _;rw[M];exact Y8 (s:={ t with heap:=n.push (seqObj "list" its.toArray 0) }) J y z w L R u λp c s' a b d e=>(_,rz,bG (_,rz,fin _ w y p c s' a b d e))
theorem Ae {j:List PV}{xs:List V}{Q:VK}(z:PV->Int×Int)(I:Inv X P g H t)(rd:Rd H l (.lst xs))(al:my X.K G (mn H O) j xs)(l64:j.length<64)
  (ht:∀x,Builtin.«list.sort» ([.ref x],[(Str.ofString "key",f)])=ksk_tree x f false)
  (T:∀(pins':List (Addr×Obj)) (C:Hp) (M:Shared) (p:PV) (v:V) (u:Value),p∈j->At X.K G (mn C O) p v->RelV v u->Inv X pins' g C M->(∀q∈P,q∈pins')->Same H C -> wpAny (model X.prog X.w) X.A.in1.in1 (call f [u]) (λk s'=>∃kv o,Inv X pins' g o s'/\Same C o/\RelV kv k/\(2<=j.length->At X.K G (mn o O) (Tc (z p)) kv)) (λ_ _=>False) M)
  (q:∀(a:Addr) (vs:List V) (o:Hp),Same H o -> H a=none->o a=so (.lst vs)->my X.K G (mn o (hide a O)) (Hi z j) vs->Q (V.ref a) o) :
  wpAny (model X.prog X.w) X.A (call (.builtin "sorted") [.ref l] [(Str.ofString "key",f)]) (EP X P g Q) E t:=by
 obtain⟨_,its,n,r,hlen,e⟩:=L3.Inv.zR I rd;have lps:j.length=xs.length:=al.length;have gl:(j.map z).length=its.length:=by rw[ac];lia
 have J:∀i,i<j.length->∃p,j[i]?=so p/\(j.map z).getD i (0,0)=z p:=λi m=>(j[i],ae m,by rw[gQ,ag,ae m];rfl);refine Vt (G:=G) (O:=O) I (_,e,rz,n,rz) gl () ht (λpins' C M i v hv I1 ip L=>?_) λD nD fD o c s' I' sm hD N=>?_
 .have il:i<its.length:=(ah.mp hv).1;obtain⟨A,F,eg⟩:=J i ();obtain⟨xv,y,B⟩:=al.at F;obtain⟨v',w,U⟩:=r.get y;rw[hv]at w;cases w;rw[eg,ac];exact T pins' C M A xv v (aP F) (At.mono (lG L) _ _ B) U I1 ip L
 .have pr:=Dd (j.map z);have R:Hi z j=(kP (j.map z)).map λi=>j.getD i .non:=rfl;rw[gl]at pr;generalize kP (j.map z)=p at *
  have pl:∀i∈p,i<its.length:=λi m=>bA.mp (pr.mem_iff.mp m);have get:∀i∈p,∃A xv v,j[i]?=so A/\xs[i]?=so xv/\its[i]?=so v/\At X.K G (mn H O) A xv/\RelV xv v:=λi m=>by obtain⟨A,F,_⟩:=J i (by have:=pl i m;lia);obtain⟨xv,y,B⟩:=al.at F;obtain⟨v',w,U⟩:=r.get y;exact(A,xv,v',F,y,w,B,U)
  have rv:Vals (p.map λi=>xs.getD i .non) (Eb its p):=by
   unfold Eb;clear pr N R
   induction p with
   |nil=>exact .nil
   |cons i p S=>obtain⟨A,xv,v,a,b,c',d,e'⟩:=get i az;refine .cons ?_ (S (λi m=>pl i (ai _ m)) λi m=>get i (ai _ m));dsimp only;rw[gQ,gQ,b,c'];exact e'
  have sl:(p.map λi=>xs.getD i .non).length<=sizeLine:=by rw[ac,pr.length_eq,aC,cX];lia
  have Z:=Tq I' fD hD N rv sl;have Y:Same o (upd o D (.lst (p.map λi=>xs.getD i .non))):=same_new hD _;refine(.ref D,_,Z,rz,q D _ _ (sm.trans Y) nD upd_same ?_);rw[R];refine my.mono (mO (sm.trans Y) nD) _ _ ?_;clear pr N R sl Z Y rv
  induction p with
  |nil=>exact rfl
  |cons i p S=>obtain⟨A,xv,v,a,b,c',d,e'⟩:=get i az;refine(_,_,rz,?_,S (λi m=>pl i (ai _ m)) λi m=>get i (ai _ m));dsimp only;rw[gQ,gQ,a,b];exact d
end
end L3
namespace L2
section
variable {prog:Program}{w:World}{A:Around}{s:Shared}{Q:Value->Shared->Prop}{E:Value->Shared->Prop}
theorem SX {f c' t N:Addr}{its:Lv}{J pm u:Value}{y q fn:Str}{p:Arguments}{scope:Scope}{G H I pf pc:Pos}{j:Nat}{K:Fg}{mg:Mg}{base:Heap}
  (ho:s.heap.get? f=so (W.kla_obj "<lambda>" q p (.Call (.Name fn pf) [.Subscript (.Name y G) (.Constant (.int 0) j H) I] [] pc) scope [] pm c' u)) (P:s.heap.CodeRec (.ref c') q) (n:A.depth<recursionLimit) (C:s.heap.NoLimit)
  (k:bindArgs (W.kla_fn "<lambda>" q p (.Call (.Name fn pf) [.Subscript (.Name y G) (.Constant (.int 0) j H) I] [] pc) scope [] pm (.ref c') u) ([.ref t],[])=pure [(y,.ref t)])
  (g:scope.names.lookup y=so .local) (Z:∀z∈scope.names,z.2 ≠ .cell) (U:scope.kind=.function) (R:scope.isCoroutine=false) (B:scope.isGenerator=false) (hyd:(y == ("__debug__":Str))=false)
  (T:scope.names.lookup fn=so .globalImplicit) (S:(fn == ("__debug__":Str))=false) (D:s.heap.Ns mainGlobals mg) (hm:mg fn=so (.ref N)) (O:K.In base) (l:W.keepIn K (.ref N)=true)
  (he:starEach [.Subscript (.Name y G) (.Constant (.int 0) j H) I] (W.envX q scope s.heap.objs.size f (.ref c') [])=(false,eval (.Subscript (.Name y G) (.Constant (.int 0) j H) I) (W.envX q scope s.heap.objs.size f (.ref c') []))::starEach [] (W.envX q scope s.heap.objs.size f (.ref c') []))
  (tup:IsTup s.heap t its.toArray) (hi:its[0]?=so J) (kin:∀h',(∀b o,s.heap.get? b=so o->h'.get? b=so o)->K.In h')
  (h:∀h' tk o M L,(∀b o,s.heap.get? b=so o->h'.get? b=so o)->h'.get? s.heap.objs.size=so o->o.data=.dict M L->s.heap.objs.size<h'.objs.size->wpAny (model prog w) (A.deeper (W.envX q scope s.heap.objs.size f (.ref c') [])) (call (.ref N) [J]) Q (λ_ _=>False) { s with heap:=h',toks:=tk }) :
  wpAny (model prog w) A (call (.ref f) [.ref t]) Q E s:=by
 refine gf (fZ n ho rz R B rz P ?_);rw[k];refine bG (eK Z (λz hz=>?_) (λc m F=>(C.fresh _ F,?_)) U)
 .rw[af.mp hz];exact g
 have a:∀b o,s.heap.get? b=so o->c.get? b=so o:=λb o e=>F.extBut b o (aZ (aE e)) (aA _ e);refine f6 ?_;have i:IsTup c t its.toArray:=by obtain⟨o,e,r⟩:=tup;exact(o,a _ _ e,r)
 have len:0<its.length:=(ah.mp hi).1;have Y:=m.lt;refine bT (du U T (e8 (D.keeps a) hm ?_) S);refine dB (h₀:=base) O l ?_ he rfl;refine args_cons (Subscript_ (ge (cZ U g m (v:=.ref t) ?_ ?_) hyd)) he
 .simp
 refine gD ?_;refine dW (x:=J) i.typeIs slot_tuple_getitem.lookup (getItem_tuple (j:=0) (Q:=λr s'=>r=J/\_) i (()) (()) ?_ (by simpa using hi) (rz,?_)) rfl
 .rw[aD];unfold seqIndex?;have:(0:Int)<(its.length:Int):=()
  simp[this];exact λz=>by rw[z]at len;cases len
 .obtain⟨o,M,L,e,d,_⟩:=m;refine args_nil (kin c a,?_);exact dJ (h _ _ o M L a e d Y) (λ_ _ x=>x) λ_ _ x=>x.elim
end
end L2
namespace L3
open L2
section
variable {X:Cx}{P:List (Addr×Obj)}{c:L2.St}{H:Hp}{s:Shared}{G:Gx}{O:Addr->Bool}{A:Around}{pre:List PV->Prop}{F:List PV->PV}{j k:Nat}{fn:Str}{x:Str}
theorem Qs {outer:List Env}{ch:List Addr}{y:Addr}{B:FuncData}{p:PV}{v:V}{u:Value}(E:FnOk X.prog X.w X.K X.mg X.base CX0 j y B [x] (uE X.K G pre F))(m:Binds X.K B [x] [])(Q:Room j A)(J:Env0 X.prog X.w X.K X.mg X.base A outer s H)(I:Inv X P c H s)
  (M:∀b∈frs outer,b∈frs X.stack\/b∈ch) (t:∀b∈ch,oR X P b) (l:∀a,O a=true->H a≠none) (i:At X.K G (mn H O) p v) (rl:RelV v u) (N:pre [p]) :
  wpAny (model X.prog X.w) A (call (.ref y) [u]) (λk s'=>∃d h,Inv X P c h s'/\Same H h/\RelV d k/\At X.K G (mn h O) (F [p]) d) (λ_ _=>False) s:=by
 refine gf (fJ (E.run A outer s H ([u],[]) [u] [v] (λd h=>Same H h/\At X.K G (mn h O) (F [p]) d) (λ_ _ _=>False) Q J (m s [u] I.kIn rz) (.cons rl .nil) ([p],O,l,(v,[],rz,i,rz),N,λd h a b=>(a,b))) λr s' g=>?_);cases r with
 |error e=>exact False.elim g
 |ok L=>
  cases L with
  |ret u=>
   obtain⟨d,h,R,f,un,w,r,S,T⟩:=g;refine(d,h,I.call' (ch:=ch) R (λb o e n C D=>un.keep b o e n (λz=>(M b z).elim C D) (by simp),λb o e n C D=>?_,λb o e n _=>un.free b o e n (by simp),λb o e _=>un.there b o e (by simp),un.tups,un.frzs,un.tbls) w f λb m=>?_,S,r,T)
   .exact un.any e n (by simp)
   .have F:=t b m;exact(.inr F.big,F.loc,F.cel,F.pin)
  |next=>exact False.elim g
  |brk=>exact False.elim g
  |cont=>exact False.elim g
end
def aaO:PV->PV
 | .tup (x::_)=>x
 |_=>.non
theorem W5 (o:Ok X.prog X.w X.K X.mg X.base j fn [x] (uE X.K G pre F))(hr:Room k X.A)(hm:X.mg "sorted"=none)(ha:PE X a (tX X.K G Y g))(hj:j+2<=k:=by decide)(J:Gl X fn:=by rfl)(D:(fn == ("__debug__":Str))=false:=by decide)(hg:Gl X "sorted":=by rfl)(E:starEach [a] X.env=[(false,eval a X.env)]:=by rfl) :
  PE X (.Call (.Name "sorted" p) [a] [(so "key",.Name fn pk,kp)] pos) (yE X.K G (λf=>Y f/\g f=.lst (wN (g f))/\(wN (g f)).length<2/\∀q∈wN (g f),pre [q]) λf=>wN (g f)):=by
 intro r s σ H Q I (B,f,O,R,c,q);refine bT (ld_blt I hg hm wJ ?_ (()) (()));refine dO (thn (pa_cons ha pa_nil E pos r s σ H (λi d=>∃l xs,i=[.ref l]/\Same H d/\Rd (mn d O) l (.lst xs)/\my X.K G (mn d O) (wN (g f)) xs) I (B,f,O,R,c.1,λv P t U=>?_)) λus t1 h=>?_) (by rw[E];rfl) (by rw[E];rfl)
 .rw[c.2.1]at U;obtain⟨l,xs,rfl,r1,w⟩:=U;exact(l,xs,rz,t,r1,w)
 obtain⟨i,P,S,rv,l,xs,rfl,t,rd,w⟩:=h;obtain⟨u,rfl,ru⟩:=vals1 rv;cases ru;obtain⟨_,_,PO,PF⟩:=c;have q:∀(a:Addr) (i:List V) (d:Hp),Same H d -> H a=none->d a=so (HO.lst i)->my X.K G (mn d (hide a O)) (wN (g f)) i->Q (V.ref a) d:=q;generalize wN (g f)=ps at *
 obtain⟨fa,fd,Z,hb,hkp,L⟩:=o.ex;refine kws_cons (ld_glob S J L (kws_nil ?_) D);show wpAny _ _ (call (.builtin "sorted") [.ref l] [("key",.ref fa)]) _ _ t1;have M:Room (j+2) X.A:=hr.mono hj;have C:∀a,O a=true->P a≠none:=(R.grow t).dom;refine Ae (λ_=>(0,0)) S (jK jZ rd) w () (λx=>ksk_t1 _ _) (λN H2 s2 pp v u hp A rl T _ sm=>?_) λa i d sm n e m=>q a i d (t.trans sm) (t.free n) e (by rw[HY _ PO]at m;exact m);have g1:=PF pp hp;have:=Qs (O:=O) (ch:=[]) Z hb M.in1.in1 T.env0.in1.in1 T (λb z=>.inl z) (λb z=>absurd z (by simp)) (λa z y=>C a z (sm.free y)) A rl g1;exact dJ this (by rintro k s' ⟨kv,d,a,b,c,_⟩;exact (kv,d,a,b,c,λz=>absurd z ())) λ_ _ z=>z
theorem Vw (o:Ok X.prog X.w X.K X.mg X.base j fn [x] (uE X.K G pre F))(hl:Qp X.K X.env.code (X.env.qual++"<lambda>"))(hr:Room k X.A)(hm:X.mg "sorted"=none)(ha:PE X a (tX X.K G Ca D))(hj:j+3<=k:=by decide)(hdb:(fn == ("__debug__":Str))=false:=by decide)(hg:Gl X "sorted":=by rfl)(he:starEach [a] X.env=[(false,eval a X.env)]:=by rfl)
  (Y:defaultsOf g X.env=([],[]):=by rfl) (hcl:closureFor scope X.env=pure []:=by rfl)
  (J:∀(pm T:Value) (c' t:Addr),bindArgs (W.kla_fn "<lambda>" (X.env.qual++"<lambda>") g (.Call (.Name fn pf) [.Subscript (.Name y p1) (.Constant (.int 0) i p2) p3] [] pc) scope [] pm (.ref c') T) ([.ref t],[])=pure [(y,.ref t)]:=by intros;rfl)
  (hse:∀env:Env,starEach [.Subscript (.Name y p1) (.Constant (.int 0) i p2) p3] env=(false,eval (.Subscript (.Name y p1) (.Constant (.int 0) i p2) p3) env)::starEach [] env:=by intros;rfl)
  (hloc:scope.names.lookup y=so .local:=by rfl) (hnc:∀z∈scope.names,z.2 ≠ .cell:=by decide) (hk:scope.kind=.function:=by rfl) (hco:scope.isCoroutine=false:=by rfl) (Z:scope.isGenerator=false:=by rfl) (hyd:(y == ("__debug__":Str))=false:=by decide) (hgl:scope.names.lookup fn=so .globalImplicit:=by rfl) :
  PE X (.Call (.Name "sorted" p) [a] [(so "key",.Lambda g (.Call (.Name fn pf) [.Subscript (.Name y p1) (.Constant (.int 0) i p2) p3] [] pc) scope posL,kp)] pos) (yE X.K G (λw=>Ca w/\D w=.lst (wN (D w))/\(wN (D w)).length<2/\∀q∈wN (D w),(∃r,q=.tup (aaO q::r))/\pre [aaO q]) λw=>wN (D w)):=by
 intro pins s σ H Q I (B,w,O,R,c,q);refine bT (ld_blt I hg hm wJ ?_ (()) (()));refine dO (thn (pa_cons ha pa_nil he pos pins s σ H (λE d=>∃l xs,E=[.ref l]/\Same H d/\Rd (mn d O) l (.lst xs)/\my X.K G (mn d O) (wN (D w)) xs) I (B,w,O,R,c.1,λv H1 s1 a1=>?_)) λus t1 h=>?_) (by rw[he];rfl) (by rw[he];rfl)
 .rw[c.2.1]at a1;obtain⟨l,xs,rfl,r1,al⟩:=a1;exact(l,xs,rz,s1,r1,al)
 obtain⟨E,H1,I1,rv,l,xs,rfl,s1,rd,al⟩:=h;obtain⟨u,rfl,ru⟩:=vals1 rv;cases ru;obtain⟨cc,P,L,hx⟩:=hl;obtain⟨_,_,PO,PF⟩:=c;have q:∀(a:Addr) (E:List V) (d:Hp),Same H d -> H a=none->d a=so (HO.lst E)->my X.K G (mn d (hide a O)) (wN (D w)) E->Q (V.ref a) d:=q;generalize wN (D w)=ps at *
 obtain⟨fa,fd,FF,hb,hkp,hmg⟩:=o.ex;refine kws_cons (Fq I1 L hx rz Y hcl _ λf c' T H2 t2 I2 kp2 tb2 hf fn0 fz os U=>kws_nil ?_);have s2:Same H1 H2:=λb o e=>by cases o<;>first|exact kp2 b _ e (λt z=>by cases z)|(obtain⟨ps',z⟩:=tb2 b _ e;exact(ps',z))
 show wpAny _ _ (call (.builtin "sorted") [.ref l] [("key",.ref f)]) _ _ t2;have hr2:Room (j+3) X.A:=hr.mono hj;have dom:∀a,O a=true->H2 a≠none:=λa z y=>(R.grow s1).dom a z (s2.free y);have fF:=oR.of I1 U;have Ip:=De I2 hf fn0 fF.loc fF.fs λv z=>by cases z
 obtain⟨oc,fu,fz1,fz2⟩:=fz;refine dJ (Ae (Q:=Q) (λ_=>(0,0)) Ip (jK (jZ.trans s2) rd) (my.mono (lG s2) _ _ al) () (λx=>ksk_t1 _ _) (λpins' H3 M pp v u hp S rl m ip sm=>?_) λa E d sm n e N=>q a E d ((s1.trans s2).trans sm) ((s1.trans s2).free n) e (by rw[HY _ PO]at N;exact N)) (λr s' h=>?_) λ_ _ z=>z
 .obtain⟨⟨rr,er⟩,g1⟩:=PF pp hp;rw[er]at S;obtain⟨t,us,rfl,ht,ux,ur,rfl,ax,au⟩:=S;cases rl;obtain⟨_,its2,r2,tup⟩:=m.hok t _ (t8 ht).2;cases r2 with
  |cons q0 q1=>
   have hf3:=(m.pin (f,_) (aT _ (ip _ az))).1;have hc3:H3 c'=so (.frz oc fu):=by have:=sm c' _ fz1;exact this
   have A1:Room (j+1) X.A.in1.in1:=hr2.in1.in1;refine SX (mg:=X.mg) (K:=X.K) (base:=X.base) hf3 (Bu.rec (m.hok c' _ hc3).1 fz2) A1.depth (m.ok.mod.nolimit.keeps m.bk) (J _ _ _ _) hloc hnc hk hco Z hyd hgl hdb (m.mod.glob.keeps m.bk) hmg m.mod.kin hkp (hse _) tup rz (λh' kk=>λb o e=>kk b o (m.kIn b o e)) λh' tk o es ep kk eL dL lt=>?_;have I4:=m.kept (h':=h') (t':=tk) kk;have fL:=oR.of m (ao M.heap.objs.size);have HL:H3 M.heap.objs.size=none:=m.hok.fresh (ao _);have bL:X.base.get? M.heap.objs.size=none:=fW (aj m.env0.bsz (ao _));have C:=I4.env0.in1.in1;have:=Qs (O:=O) (ch:=[M.heap.objs.size]) (outer:=W.envX (X.env.qual++"<lambda>") scope M.heap.objs.size f (.ref c') []::X.stack) (A:=X.A.in1.in1.deeper (W.envX (X.env.qual++"<lambda>") scope M.heap.objs.size f (.ref c') [])) FF hb (A1.deeper _)
    (by
     show Option.map _ X.A.in1.in1.frames=_;rw[C.frames];rfl,C.mod,C.bs,C.bsz,((λz=>nomatch hk.symm.trans (show scope.kind=.module from z)),(M.heap.objs.size,o,rz,bL,eL,λE z=>by rw[dL]at z;cases z),C.funs),(λb hb=>(aG.mp hb).elim (λz=>by rw[z];exact HL) λz=>C.frf.f b z,C.frf.t),C.hok,C.bare)
    I4 (λb z=>(aG.mp z).elim (λz=>.inr (by rw[z];exact af.mpr rz)) λz=>.inl z) (λb z=>by rw[af.mp z];exact fL) (λa z y=>dom a z (sm.free y)) ax q0 g1
   exact dJ this (by rintro k s' ⟨kv,d,a,b,c,_⟩;exact (kv,d,a,b,c,λz=>absurd z ())) λ_ _ z=>z
 .obtain⟨v,d,I',rv,qv⟩:=h;exact(v,d,(wQ I').1,rv,qv)
theorem sS:¬(so NameKind.cell:Option NameKind)=so NameKind.local:=nofun
theorem mC {N p:Ls}{sc:Scope}(a:sc.kind=.function:=by rfl)(b:sc.isCoroutine=false:=by rfl)(c:sc.isGenerator=false:=by rfl)(d:N.Nodup:=by decide +kernel)(e:N.take p.length=p:=by rfl)(f:∀x∈p,sc.names.lookup x=so .local\/sc.names.lookup x=so .cell:=by decide +kernel)(g:∀y∈sc.names,y.2 ≠ .free:=by decide +kernel):FnScope N p sc:=(a,b,c,d,e,f,g)
theorem lO (i:Nat){X:Cx}{x:Str}{pos:Pos}(h:X.N.Nodup:=by(dsimp only[jP];decide +kernel))(c:X.N[i]?=so x:=by rfl)(d:Loc X.env.scope x:=by exact Or.inl rz)(a:X.fn x=true\/X.env.scope.names.lookup x=so .local:=by exact .inr rz):PG X (.Name x pos) (gName i):=pg_name h c d a
end L3
namespace L2
section
variable {prog:Program}{w:World}{A:Around}{s:Shared}{Q:Value->Shared->Prop}{E:Value->Shared->Prop}
theorem Tg {f c' O:Addr}{g pm B:Value}{y q fn:Str}{p:Arguments}{scope:Scope}{n t N M pt:Pos}{x1:Nat}{K:Fg}{mg:Mg}{base:Heap}
  (ho:s.heap.get? f=so (W.kla_obj "<lambda>" q p (.Tuple [.Call (.Name fn N) [.Name y n] [] M,.Name y t] x1 pt) scope [] pm c' B)) (R:s.heap.CodeRec (.ref c') q) (m:A.depth<recursionLimit) (D:s.heap.NoLimit)
  (j:bindArgs (W.kla_fn "<lambda>" q p (.Tuple [.Call (.Name fn N) [.Name y n] [] M,.Name y t] x1 pt) scope [] pm (.ref c') B) ([g],[])=pure [(y,g)])
  (c:scope.names.lookup y=so .local) (hnc:∀z∈scope.names,z.2 ≠ .cell) (L:scope.kind=.function) (S:scope.isCoroutine=false) (C:scope.isGenerator=false) (H:(y == ("__debug__":Str))=false)
  (Z:scope.names.lookup fn=so .globalImplicit) (Y:(fn == ("__debug__":Str))=false) (F:s.heap.Ns mainGlobals mg) (hm:mg fn=so (.ref O)) (P:K.In base) (k:W.keepIn K (.ref O)=true)
  (he:∀env:Env,starEach [.Name y n] env=(false,eval (.Name y n) env)::starEach [] env) (T:∀env:Env,starEach [.Call (.Name fn N) [.Name y n] [] M,.Name y t] env=(false,eval (.Call (.Name fn N) [.Name y n] [] M) env)::starEach [.Name y t] env) (U:∀env:Env,starEach [.Name y t] env=(false,eval (.Name y t) env)::starEach [] env)
  (kin:∀h',(∀b o,s.heap.get? b=so o->h'.get? b=so o)->K.In h')
  (h:∀h' tk o J I,(∀b o,s.heap.get? b=so o->h'.get? b=so o)->h'.get? s.heap.objs.size=so o->o.data=.dict J I->s.heap.objs.size<h'.objs.size->wpAny (model prog w) (A.deeper (W.envX q scope s.heap.objs.size f (.ref c') [])) (call (.ref O) [g]) (λk1 u=>(∃sl,u.heap.get? s.heap.objs.size=so { o with slots:=sl })/\Q (.ref u.heap.objs.size) { u with heap:=u.heap.push { cls:=.type "tuple",data:=.seq #[k1,g] } }) (λ_ _=>False) { s with heap:=h',toks:=tk }) :
  wpAny (model prog w) A (call (.ref f) [g]) Q E s:=by
 refine gf (fZ m ho rz S C rz R ?_);rw[j];refine bG (eK hnc (λz hz=>?_) (λi l G=>(D.fresh _ G,?_)) L)
 .rw[af.mp hz];exact c
 have a:∀b o,s.heap.get? b=so o->i.get? b=so o:=λb o e=>G.extBut b o (aZ (aE e)) (aA _ e);show codeAny _ _ (.expr _ (W.envX q scope s.heap.objs.size f (.ref c') [])) _ _;refine f6 ?_;have hlt:=l.lt;have lk:List.lookup y [(y,g)].reverse=so g:=by simp
 refine wpAny_Tuple_spliced (args_cons (bT (du L Z (e8 (F.keeps a) hm ?_) Y)) (T _));refine dB (h₀:=base) P k ?_ (he _) rfl;refine args_cons (ge (cZ L c l (v:=g) lk ?_) H) (he _);obtain⟨o,J,I,e,d,r⟩:=l;refine args_nil (kin i a,?_);refine dJ (h _ _ o J I a e d hlt) (λk1 u h2=>?_) λ_ _ x=>x.elim;obtain⟨⟨sl,e2⟩,hq⟩:=h2;refine args_cons (ge (cZ L c ((_,J,I,e2,d,r):u.heap.Ns s.heap.objs.size _) (v:=g) lk ?_) H) (U _);exact args_nil (by show 2<=sizeLine;rw[cX];decide,hq)
end
end L2
namespace L3
open L2
theorem BR {K:Fg}{G:Gx}{H:Hp}:∀{ns:Li} {vs:List V},my K G H (ns.map PV.int) vs->vs=ns.map V.int
 |[],vs,h=>h
 |n::r,vs,h=>by obtain⟨v,w,rfl,a,c⟩:=h;have a:v=.int n:=a;rw[a,BR c];rfl
def kfN (c:Int->Int):PV->Int×Int
 | .int n=>(c n,n)
 |_=>(0,0)
def xf (c:Int->Int)(ns:List Int):List Int:=(kP ((ns.map PV.int).map (kfN c))).map λi=>ns[i]!
theorem Ej (c:Int->Int)(ns:Li):Hi (kfN c) (ns.map PV.int)=(xf c ns).map PV.int:=by unfold Hi xf;refine iO (aO λi h=>?_) (bj ..).symm;have:=bA.mp ((Dd _).mem_iff.mp h);rw[ac,ac]at this;show(ns.map PV.int).getD i .non=PV.int ns[i]!;rw[gQ,ag,gQ,ae this];rfl
def aao:PV->Int
 | .int n=>n
 |_=>0
theorem Hk (l:Li):(l.map PV.int).map aao=l:=by rw[bj];exact(aO λ_ _=>rz).trans (cC l)
theorem Mu (c:Int->Int)(ns:Li):(xf c ns).Perm ns:=by have h:=Wh (kfN c) (ns.map PV.int);rw[Ej]at h;have:=h.map aao;rw[Hk,Hk]at this;exact this
section
variable {X:Cx}{P:List (Addr×Obj)}{c:L2.St}{H:Hp}{s:Shared}{G:Gx}{O:Addr->Bool}{A:Around}{pre:List PV->Prop}{F:List PV->PV}{j k:Nat}{fn:Str}{x:Str}
theorem Wf {outer:List Env}{ch:List Addr}{C L:Addr}{y:Obj}{D:FuncData}{p:PV}{v:V}{u:Value}(M:FnOk X.prog X.w X.K X.mg X.base CX0 j C D [x] (uE X.K G pre F))(m:Binds X.K D [x] [])(T:Room j A)(N:Env0 X.prog X.w X.K X.mg X.base A outer s H)(I:Inv X P c H s)
  (R:∀b∈frs outer,b∈frs X.stack\/b∈ch) (t:∀b∈ch,oR X P b) (l:∀a,O a=true->H a≠none) (i:At X.K G (mn H O) p v) (rl:RelV v u) (S:pre [p]) (B:s.heap.get? L=so y) (nL:H L=none) :
  wpAny (model X.prog X.w) A (call (.ref C) [u]) (λk s'=>∃d h,Inv X P c h s'/\Same H h/\RelV d k/\At X.K G (mn h O) (F [p]) d/\h L=none/\∃sl,s'.heap.get? L=so { y with slots:=sl }) (λ_ _=>False) s:=by
 refine gf (fJ (M.run A outer s H ([u],[]) [u] [v] (λd h=>Same H h/\At X.K G (mn h O) (F [p]) d) (λ_ _ _=>False) T N (m s [u] I.kIn rz) (.cons rl .nil) ([p],O,l,(v,[],rz,i,rz),S,λd h a b=>(a,b))) λr s' g=>?_);cases r with
 |error e=>exact False.elim g
 |ok Q=>
  cases Q with
  |ret u=>
   obtain⟨d,h,U,f,un,w,r,Y,Z⟩:=g;refine(d,h,I.call' (ch:=ch) U (λb o e n E J=>un.keep b o e n (λz=>(R b z).elim E J) (by simp),λb o e n E J=>?_,λb o e n _=>un.free b o e n (by simp),λb o e _=>un.there b o e (by simp),un.tups,un.frzs,un.tbls) w f λb m=>?_,Y,r,Z,un.free L y B nL (by simp),un.any B nL (by simp))
   .exact un.any e n (by simp)
   .have F:=t b m;exact(.inr F.big,F.loc,F.cel,F.pin)
  |next=>exact False.elim g
  |brk=>exact False.elim g
  |cont=>exact False.elim g
end
section
variable {X:Cx}{G:Gx}{a:Expr}{pos p J m g i C w pt:Pos}{D:En->Prop}{L:En->PV}{ns:En->List Int}{j k E:Nat}{x y fn:Str}{d:Arguments}{scope:Scope}{pre:List PV->Prop}{F:List PV->Int}
theorem WF (Y:Int->Int)(o:Ok X.prog X.w X.K X.mg X.base j fn [x] (rK X.K G pre F))(hl:Qp X.K X.env.code (X.env.qual++"<lambda>"))(hr:Room k X.A)(hm:X.mg "sorted"=none)(ha:PE X a (tX X.K G D λN=>.ints (ns N)))(hj:j+3<=k:=by decide)(hdb:(fn == ("__debug__":Str))=false:=by decide)(hg:Gl X "sorted":=by rfl)(he:starEach [a] X.env=[(false,eval a X.env)]:=by rfl)
  (hdef:defaultsOf d X.env=([],[]):=by rfl) (hcl:closureFor scope X.env=pure []:=by rfl)
  (Z:∀(pm ctv wv:Value) (c':Addr),bindArgs (W.kla_fn "<lambda>" (X.env.qual++"<lambda>") d (.Tuple [.Call (.Name fn C) [.Name y g] [] w,.Name y i] E pt) scope [] pm (.ref c') ctv) ([wv],[])=pure [(y,wv)]:=by intros;rfl)
  (hs1:∀env:Env,starEach [.Name y g] env=(false,eval (.Name y g) env)::starEach [] env:=by intros;rfl) (hs2:∀env:Env,starEach [.Call (.Name fn C) [.Name y g] [] w,.Name y i] env=(false,eval (.Call (.Name fn C) [.Name y g] [] w) env)::starEach [.Name y i] env:=by intros;rfl) (hs3:∀env:Env,starEach [.Name y i] env=(false,eval (.Name y i) env)::starEach [] env:=by intros;rfl)
  (hloc:scope.names.lookup y=so .local:=by rfl) (hnc:∀z∈scope.names,z.2 ≠ .cell:=by decide) (hk:scope.kind=.function:=by rfl) (hco:scope.isCoroutine=false:=by rfl) (hgen:scope.isGenerator=false:=by rfl) (hyd:(y == ("__debug__":Str))=false:=by decide) (hgl:scope.names.lookup fn=so .globalImplicit:=by rfl) :
  PE X (.Call (.Name "sorted" p) [a] [(so "key",.Lambda d (.Tuple [.Call (.Name fn C) [.Name y g] [] w,.Name y i] E pt) scope m,J)] pos) (CQ X.K G (λN=>D N/\(ns N).length<64/\∀n∈ns N,pre [.int n]/\F [.int n]=Y n) λN=>xf Y (ns N)):=by
 intro pins s σ H Q I (B,N,O,R,c,q);refine bT (ld_blt I hg hm wJ ?_ (()) (()));refine dO (thn (pa_cons ha pa_nil he pos pins s σ H (λvs S=>∃l,vs=[.ref l]/\Same H S/\Rd (mn S O) l (.lst ((ns N).map V.int))) I (B,N,O,R,c.1,λv H1 s1 a1=>?_)) λus t1 h=>?_) (by rw[he];rfl) (by rw[he];rfl)
 .obtain⟨l,rfl,r1⟩:=a1;exact(l,rz,s1,r1)
 obtain⟨vs,H1,I1,rv,l,rfl,s1,rd⟩:=h;obtain⟨u,rfl,ru⟩:=vals1 rv;cases ru;obtain⟨cc,P,hcode,hx⟩:=hl;obtain⟨_,len,PF⟩:=c;have q:∀(a:Addr) (S:Hp),Same H S -> H a=none->S a=so (HO.lst ((xf Y (ns N)).map V.int))->Q (V.ref a) S:=q;generalize ns N=ps at *
 obtain⟨fa,fd,FF,hb,hkp,hmg⟩:=o.ex;refine kws_cons (Fq I1 hcode hx rz hdef hcl _ λf c' ctv H2 t2 I2 kp2 tb2 hf fn0 fz os fnew=>kws_nil ?_);have s2:Same H1 H2:=λb o e=>by cases o<;>first|exact kp2 b _ e (λt z=>by cases z)|(obtain⟨ps',z⟩:=tb2 b _ e;exact(ps',z))
 show wpAny _ _ (call (.builtin "sorted") [.ref l] [("key",.ref f)]) _ _ t2;have hr2:Room (j+3) X.A:=hr.mono hj;have dom:∀a,O a=true->H2 a≠none:=λa z y=>(R.grow s1).dom a z (s2.free y);have fF:=oR.of I1 fnew;have Ip:=De I2 hf fn0 fF.loc fF.fs λv z=>by cases z
 obtain⟨oc,fu,fz1,fz2⟩:=fz;have al:my X.K G (mn H2 O) (ps.map PV.int) (ps.map V.int):=wG ps;refine dJ (Ae (Q:=Q) (kfN Y) Ip (jK (jZ.trans s2) rd) al (by rw[ac];exact len) (λx=>ksk_t1 _ _) (λpins' H3 s3 pp v u hp T rl M ip sm=>?_) λa vs S sm n e alv=>q a S ((s1.trans s2).trans sm) ((s1.trans s2).free n) ?_) (λr s' h=>?_) λ_ _ z=>z
 .obtain⟨n,hn,rfl⟩:=aB.mp hp;obtain⟨g1,g2⟩:=PF n hn;have at0:=T;have T:v=.int n:=T;subst T;obtain⟨tok,rfl⟩:=rl;have hf3:=(M.pin (f,_) (aT _ (ip _ az))).1;have hc3:H3 c'=so (.frz oc fu):=by have:=sm c' _ fz1;exact this
  have A1:Room (j+1) X.A.in1.in1:=hr2.in1.in1;refine Tg (mg:=X.mg) (K:=X.K) (base:=X.base) hf3 (Bu.rec (M.hok c' _ hc3).1 fz2) A1.depth (M.ok.mod.nolimit.keeps M.bk) (Z _ _ _ _) hloc hnc hk hco hgen hyd hgl hdb (M.mod.glob.keeps M.bk) hmg M.mod.kin hkp hs1 hs2 hs3 (λh' kk=>λb o e=>kk b o (M.kIn b o e)) λh' tk o es ep kk eL dL lt=>?_;have I4:=M.kept (h':=h') (t':=tk) kk;have fL:=oR.of M (ao s3.heap.objs.size);have HL:H3 s3.heap.objs.size=none:=M.hok.fresh (ao _);have bL:X.base.get? s3.heap.objs.size=none:=fW (aj M.env0.bsz (ao _));have U:=I4.env0.in1.in1;have:=Wf (O:=O) (ch:=[s3.heap.objs.size]) (outer:=W.envX (X.env.qual++"<lambda>") scope s3.heap.objs.size f (.ref c') []::X.stack) (A:=X.A.in1.in1.deeper (W.envX (X.env.qual++"<lambda>") scope s3.heap.objs.size f (.ref c') [])) (u:=.int n tok) FF hb (A1.deeper _)
   (by
    show Option.map _ X.A.in1.in1.frames=_;rw[U.frames];rfl,U.mod,U.bs,U.bsz,((λz=>nomatch hk.symm.trans (show scope.kind=.module from z)),(s3.heap.objs.size,o,rz,bL,eL,λvs z=>by rw[dL]at z;cases z),U.funs),(λb hb=>(aG.mp hb).elim (λz=>by rw[z];exact HL) λz=>U.frf.f b z,U.frf.t),U.hok,U.bare)
   I4 (λb z=>(aG.mp z).elim (λz=>.inr (by rw[z];exact af.mpr rz)) λz=>.inl z) (λb z=>by rw[af.mp z];exact fL) (λa z y=>dom a z (sm.free y)) at0 (tok,rz) g1 eL HL
  refine dJ this (λk1 s5 h5=>?_) λ_ _ z=>z;obtain⟨kv,H5,I5,sm5,rk,ak,nL5,sl5⟩:=h5;refine(sl5,?_);have ak:kv=.int (F [.int n]):=ak;rw[g2]at ak;subst ak;have hf5:H5 s5.heap.objs.size=none:=I5.hok.fresh (ao _);refine(.ref s5.heap.objs.size,upd H5 s5.heap.objs.size (.tup [.int (Y n),.int n]),I5.laid (t':=s5.toks) (λb u e=>aA _ e) (ao _) ?_,sm5.trans (same_new hf5 _),rz,λ_=>?_)
  .exact(by show 2<=sizeLine;rw[cX];decide,[k1,.int n tok],.cons rk (.cons (tok,rz) .nil),(_,bh _ rz,rz,_,rz))
  .refine(s5.heap.objs.size,[.int (Y n),.int n],rz,?_,.int (Y n),_,rz,rz,.int n,_,rz,rz,rz);rw[pB]
   .exact upd_same
   .cases y:O s5.heap.objs.size with
    |false=>rfl
    |true=>exact absurd ((sm.trans sm5).free hf5) (dom _ y)
 .rw[e];rw[Ej]at alv;rw[BR alv]
 .obtain⟨v,S,I',rv,qv⟩:=h;exact(v,S,(wQ I').1,rv,qv)
end
section
variable {X:Cx}{G:Gx}{a b:Expr}{pos:Pos}{f h:En->Prop}{d c:En->Int}
theorem Vx (l:PE X a (lF X.K G f d))(m:PE X b (lF X.K G h c)):PE X (.BinOp a .LShift b pos) (lF X.K G (λe=>f e/\h e/\(0<=c e/\(Builtin.Int.intBits (d e):Int)+c e<=2^27)) λe=>d e*2^(c e).toNat):=
 Bq (C:=λi j=>0<=j/\(Builtin.Int.intBits i:Int)+j<=2^27) (g:=λi j=>i*2^j.toNat) (opI λi j _ _ _ _ _ k q=>lshift_int k.1 k.2 q) l m
theorem acv (k:Nat):(0:Int)<=2^k:=gL (W.kbt_pos k)
theorem Yq:OpR X (binaryOp .RShift) (rI (λ_ j=>0<=j) λi j=>.int (i / 2^j.toNat)):=opI λi j _ _ _ _ _ e q=>rshift_int e (by rw[dw i (acv _)];exact q)
theorem Yj:OpR X (binaryOp .BitAnd) (rI (λ_ j=>j=1) λi _=>.int (i % 2)):=opI λi j _ _ _ _ _ g q=>and_int (by
 have g:j=1:=g;have e:Builtin.bitAnd i j=i % 2:=by rw[g];exact W.kbt_mask i 1
 rw[e];exact q)
theorem WX (g:PE X a (lF X.K G f d))(i:PE X b (lF X.K G h c)):PE X (.BinOp a .RShift b pos) (lF X.K G (λe=>f e/\h e/\0<=c e) λe=>d e / 2^(c e).toNat):=Bq Yq g i
theorem Rf (g:PE X a (lF X.K G f d))(i:PE X b (lF X.K G h c)):PE X (.BinOp a .BitAnd b pos) (lF X.K G (λe=>f e/\h e/\c e=1) λe=>d e % 2):=Bq Yj g i
end
section
variable {K:Fg}{G:Gx}{c:L2.St}{H:Hp}{Q:VK}{d C f e:En->Prop}{pt:En->Prop}[∀ρ,Decidable (pt ρ)]{g a:En->Int}{j:En->PV}{cap:List (Option Nat)}
theorem acB (h:yE K G (λρ=>(d ρ/\C ρ)/\(-(2^62)<=g ρ/\g ρ<2^62 /\ -(2^62)<=a ρ/\a ρ<2^62)/\(a ρ-g ρ).toNat<=10000/\∀k:Nat,k<(a ρ-g ρ).toNat->f ((jT (none::cap) ρ).set 0 (.fr (.int (g ρ+k))))/\(pt ((jT (none::cap) ρ).set 0 (.fr (.int (g ρ+k))))->e ((jT (none::cap) ρ).set 0 (.fr (.int (g ρ+k)))))) (λρ=>((ss (a ρ-g ρ).toNat).filter λ(k:Nat)=>decide (pt ((jT (none::cap) ρ).set 0 (.fr (.int (g ρ+k)))))).map λ(k:Nat)=>j ((jT (none::cap) ρ).set 0 (.fr (.int (g ρ+k))))) c H Q) :
  Uw (none::cap) (iRng2 (tCons (lF K G d g) (tCons (lF K G C a) tNil))) (gName 0) (vz K G f pt) (tX K G e j) c H Q:=by
 obtain⟨B,ρ,O,R,⟨⟨M,N⟩,l,P,E⟩,q⟩:=h;refine(B,ρ,O,R,M,λv U o r=>(B,ρ,O,R.grow o,N,λu Y z t=>?_));have r:v=.int (g ρ):=r;have t:u=.int (a ρ):=t;subst r t;have n:(ss (a ρ-g ρ).toNat).length=(a ρ-g ρ).toNat:=aC;refine(g ρ,a ρ,rz,l,λD F=>?_);refine Mq (ss (a ρ-g ρ).toNat) (λ_ v=>(pO (none::cap) c).set 0 (so v)) (λ(k:Nat)=>(jT (none::cap) ρ).set 0 (.fr (.int (g ρ+k)))) (λ(k:Nat)=>.int (g ρ+k)) ((R.grow o).grow z) F (by rw[n];exact P) (λi H I s=>by rw[n]at I;exact I) ?_ (λH s=>by rw[n];exact ao _) (λk H _ s J=>J.set (p:=.int _) rz) ?_ (λk m=>(E k (bA.mp m)).1) (λk m=>(E k (bA.mp m)).2) ?_
 .rintro i k x H A w s ⟨rfl,rfl⟩;have y:i<(a ρ-g ρ).toNat:=by have:=(ah.mp w).1;rw[n]at this;exact this
  rw[bU y]at w;cases w;exact(Same.refl _,λZ m=>m)
 .intro k;show FW (none::pO cap c) (so (.int _)::pO cap c);exact nM _
 .intro A T s S L;exact q D T A ((o.trans z).trans s) ((o.trans z).free F) S L
end
section
variable {X:Cx}{G:Gx}{E:ER}{N':List Str}{sc:Scope}{cl:List (Str×Addr)}{cap:List (Option Nat)}{e T a b t:Expr}{A p m c S:Pos}{f C l j:En->Prop}{pt:En->Prop}[∀ρ,Decidable (pt ρ)]{g d:En->Int}{gi:En->Int}{i:Nat}{x:Str}
theorem Oa (w:X.N.Nodup)(u:X.N[i]?=so x)(N:X.env.scope.names.lookup x=so .local)(L:sU X N' sc cl (none::cap))(B:X.calm=true)(r:Gl X "range")(I:X.mg "range"=none)(y:PE X a (lF X.K G f g))(z:PE X b (lF X.K G C d))(F:∀s H fp,PG (jP X N' sc cl s H fp) T (gName 0))(M:∀s H fp,PT (jP X N' sc cl s H fp) t (vz X.K G l pt))(D:∀s H fp,PE (jP X N' sc cl s H fp) e (lF X.K G j gi))
  (v:swapsWith (.ListComp e [(T,.Call (.Name "range" p) [a,b] [] c,[t],0)] sc A) (so (.Name x m)) S.line X.env=pure true) (o:starEach [a,b] X.env=[(false,eval a X.env),(false,eval b X.env)]:=by rfl) (n:starEach [b] X.env=[(false,eval b X.env)]:=by rfl) (J:∀x,foldedSetIterable (.Call (.Name "range" p) [a,b] [] c) X.env x=pure x:=by intro _;rfl) :
  PS X (.Assign [.Name x m] (.ListComp e [(T,.Call (.Name "range" p) [a,b] [] c,[t],0)] sc A) S) (ts X.K G E λP ρ=>((f ρ/\C ρ)/\(-(2^62)<=g ρ/\g ρ<2^62 /\ -(2^62)<=d ρ/\d ρ<2^62)/\(d ρ-g ρ).toNat<=10000/\∀k:Nat,k<(d ρ-g ρ).toNat->l ((jT (none::cap) ρ).set 0 (.fr (.int (g ρ+k))))/\(pt ((jT (none::cap) ρ).set 0 (.fr (.int (g ρ+k))))->j ((jT (none::cap) ρ).set 0 (.fr (.int (g ρ+k))))))/\∀ns,ns=(((ss (d ρ-g ρ).toNat).filter λ(k:Nat)=>decide (pt ((jT (none::cap) ρ).set 0 (.fr (.int (g ρ+k)))))).map λ(k:Nat)=>gi ((jT (none::cap) ρ).set 0 (.fr (.int (g ρ+k)))))->P.nx (ρ.set i (.fr (.ints ns)))):=
 aaP (Bk w u N L B (pi_range2 r I (pa_cons y (pa_cons z pa_nil n) (by rw[o,n])) o n) F (λs H fp=>Rn (M s H fp)) D v J) λO H Q h=>acB (yu h)
end
theorem Qx {as:List Addr}{i:Int}(c:-(as.length:Int)<=i)(d:i<as.length):∃a,as[j6 as.length i]?=so a/\atI (as.map V.ref) i=so (V.ref a):=by
 have h:j6 as.length i<as.length:=by unfold j6;split<;>lia
 refine(as[j6 as.length i],ae h,?_);unfold atI;rw[ac,yj c d];show(as.map V.ref)[j6 as.length i]?=_;rw[ag,ae h];rfl
theorem wH {row:Li}{i:Int}(j:-(row.length:Int)<=i)(a:i<(row.length:Int)):atI (row.map V.int) i=so (.int row[j6 row.length i]!):=by
 have lt:j6 row.length i<row.length:=by unfold j6;split<;>lia
 unfold atI;rw[ac,yj j a];show(row.map V.int)[j6 row.length i]?=_;rw[ag,ae lt,gQ,ae lt];rfl
section
variable {K:Fg}{G:Gx}{B:Bs}{f:L2.St}{H:Hp}{d:En}{O:Addr->Bool}{i:Nat}{Q:VK}{C:En->Prop}{g:En->Int}{cap:List (Option Nat)}
def Bb (as:List Addr)(O:Addr->Bool):Addr->Bool:=λb=>if b∈as then false else O b
theorem Gb {as:List Addr}{b:Addr}(h:b∈as):Bb as O b=false:=by unfold Bb;rw[aL h]
theorem z6 {as:List Addr}{b:Addr}(h:b∉as):Bb as O b=O b:=by unfold Bb;rw[aF h]
theorem Fb {as:List Addr}:∀b,Bb as O b=true->O b=true:=λb h=>by
 by_cases c:b∈as
 .rw[Gb c]at h;cases h
 .rw[z6 c]at h;exact h
def ZW (d:En)(i:Nat):En:=match d[i]? with
 |some (.o2 xss)=>d.set i (.fr (.lst (xss.map PV.ints)))
 |_=>d
theorem Nf {c:Hp}:∀{as:List Addr} {xss:List (List Int)},as.length=xss.length->(∀(k:Nat) a,as[k]?=so a->Rd c a (.lst ((xss[k]'[]).map V.int)))->my K G c (xss.map PV.ints) (as.map V.ref)
 |[],[],_,_=>rfl
 |[],_::_,h,_=>nomatch h
 |_::_,[],h,_=>nomatch h
 |a::as,xs::xss,h,e=>(.ref a,as.map V.ref,rz,(a,rz,e 0 a rz),Nf (Nat.succ.inj h) λk b j=>e (k+1) b j)
theorem Rep.Yo (R:Rep K G B f H d O)(i:Nat):∃w,Rep K G B f H (ZW d i) w:=by
 unfold ZW;split
 .rename_i x e;obtain⟨D,h,z⟩:=R.o2 i x e;have s:Same (mn H O) (mn H (Bb (D::h) O)):=qX Fb;have S:∀b∈D::h,B.H0 b=none:=λb I=>(aG.mp I).elim (λy=>by rw[y];exact z.nD) λy=>(z.el b y).2;have J:At K G (mn H (Bb (D::h) O)) (.lst (x.map PV.ints)) (.ref D):=by refine(D,h.map V.ref,rz,.inl (by rw[pB (Gb az)];exact z.hD),Nf z.ea.1 λk a u=>.inl ?_);rw[pB (Gb (ai _ (aP u)))];exact z.ea.2 k a u
  refine(Bb (D::h) O,R.same,R.cd,λb y=>?_,λb y=>R.dom b (Fb b y),λb y=>R.vis b (Fb b y),λj q l=>?_,λj q l=>?_,λj k q r b L M N P=>?_,by rw[bn];exact R.len,λj o l=>?_)
  .rw[z6 λm=>R.cd b y (S b m)];exact R.hid b y
  .rcases jY l with⟨rfl,c,_⟩|⟨n,c⟩
   .cases c;exact(.ref D,z.at_,J)
   .obtain⟨v,p,t⟩:=R.fr j q c;exact(v,p,At.mono s _ _ t)
  .rcases jY l with⟨rfl,c,_⟩|⟨n,c⟩
   .cases c
   .obtain⟨b,Y,p,t,A,E,F⟩:=R.ow j q c;obtain⟨T,U⟩:=z.un j q b c p;exact(b,Y,p,by rw[z6 λm=>(aG.mp m).elim T U];exact t,A,E,F.mono s)
  .rcases jY L with⟨_,c,_⟩|⟨_,Z⟩
   .cases c
   .rcases jY M with⟨_,c,_⟩|⟨_,y2⟩
    .cases c
    .exact R.inj j k q r b Z y2 N P
  .rcases jY l with⟨_,c,_⟩|⟨n,c⟩
   .cases c
   .exact absurd (z.one j o c).symm n
 .exact(O,R)
end
section
variable {X:Cx}{G:Gx}{E:ER}{f:FS}{S:List Stmt}{b e:Expr}{pos p l pl t m r n:Pos}{i:Nat}{x:Str}{C o A:En->Prop}{g j F:En->Int}
theorem Lz (i:Nat)(h:PSs X S (ts X.K G E f)):PSs X S (ts X.K G E λP d=>f P (ZW d i)):=
 by rintro a s k H D I ⟨B,d,P,⟨_,R⟩,c,w⟩;exact h a s k H D I (B,ZW d i,P,R.Yo i,c,w)
theorem ZR {a:Pos}(v:X.N.Nodup)(I:X.N[i]?=so x)(L:Loc X.env.scope x)
  (J:swapsWith (.List [] pl) (so (.Name x a)) pos.line X.env=pure false:=by rfl) (z:X.fn x=true\/X.env.scope.names.lookup x=so .local:=by walk_at "w") :
  PS X (.Assign [.Name x a] (.List [] pl) pos) (ts X.K G E λP h=>no2 h=true/\P.nx (h.set i (.o2 []))):=
 toS (ps_set v I L (pe_lst pa_nil) J z) λB M H h O P D R c w=>(bp _,λd s=>w.nx _ _ _ (_,R.aet (as:=[]) (xss:=[]) c.1 (same_new s _) (λb y=>by cases y) List.nodup_nil (rz,λk b u=>by cases u) s upd_same) c.2)
theorem S8 (i:Nat){x:Str}{L:En->List Int}(he:PE X e (CQ X.K G C L))(Z:X.N[i]?=so x:=by rfl)(hv:Vis X.env.scope x:=by walk_at "v")
  (hd:(x == ("__debug__":Str))=false:=by decide) (v:(x == ("__classdict__":Str))=false:=by decide)
  (k:attributeBase (.Name x l) "append" X.env (eval (.Name x l) X.env)=eval (.Name x l) X.env:=by rfl)
  (u:((backTo n (starEach (e::[]) X.env)).all (λx=>!x.1) && (backToKw n (keywordEach [] X.env)).all (λx=>x.1.isSome) && decide ((e::[]).length+([]:List Keyword).length+(if ([]:List Keyword).isEmpty then 0 else 1)<30))=true:=by rfl)
  (s:(r.endLine == n.line)=true:=by rfl) (M:starEach (e::[]) X.env=(false,eval e X.env)::starEach [] X.env:=by rfl) (h:(backTo n (starEach [] X.env)).any (·.1)=false:=by rfl)
  (y:swapsWith (.Call (.Attribute (.Name x l) "append" r) [e] [] n) none pos.line X.env=pure false:=by rfl) :
  PS X (.Expr (.Call (.Attribute (.Name x l) "append" r) [e] [] n) pos) (ts X.K G E λP d=>isT d i/\C d/\(nY d i).length<sizeLine/\P.nx (d.set i (.o2 (nY d i++[L d])))):=
 toS (ps_expr (pe_bm cj eY eZ mt_append (pe_var Z hv hd v) (pa_cons he pa_nil M) k u s M h) y) λB σ H d O P D' R c w=>by
  obtain⟨J,U,Q,T⟩:=c;obtain⟨D,I,z⟩:=R.o2 i _ J;refine(_,z.at_,.inl (rz,_,SqL.of z.hD),B,d,O,R,U,λa H1 N na Y=>?_);refine(D,_,_,rz,rz,N _ _ z.hD,by rw[ac,z.ea.1];exact Q,?_);have e:I.map V.ref++[V.ref a]=(I++[a]).map V.ref:=by rw[bv];rfl
  rw[e];exact w.nx σ _ _ (_,R.aev J z N na Y) T
theorem Rk (i:Nat){x:Str}{c:Expr}{I:Pos}{J:En->Prop}{gc:En->Int}(hb:PE X b (lF X.K G o j))(y:PlainIx b)(hc:PE X c (lF X.K G J gc))(w:PlainIx c)(hN:X.N[i]?=so x:=by rfl)(hv:Vis X.env.scope x:=by walk_at "v")
  (hd:(x == ("__debug__":Str))=false:=by decide) (k:(x == ("__classdict__":Str))=false:=by decide) :
  PE X (.Subscript (.Subscript (.Name x l) b m) c I) (lF X.K G (λd=>isT d i/\o d/\(-((nY d i).length:Int)<=j d/\j d<((nY d i).length:Int))/\J d/\(-(((nY d i)[j6 (nY d i).length (j d)]'[]).length:Int)<=gc d/\gc d<(((nY d i)[j6 (nY d i).length (j d)]'[]).length:Int))) λd=>((nY d i)[j6 (nY d i).length (j d)]'[])[j6 ((nY d i)[j6 (nY d i).length (j d)]'[]).length (gc d)]!):=
 rR (pe_ix ix_list (pe_ix ix_list (pe_var hN hv hd k) hb y) hc w) λB σ H d O Q R c q=>by obtain⟨U,Y,⟨i1,i2⟩,Z,j1,j2⟩:=c;obtain⟨D,as,z⟩:=R.o2 i _ U;have h:=z.ea.1;refine(_,z.at_,B,d,O,R,Y,λu H1 s P=>?_);obtain⟨a,ga,ha⟩:=Qx (as:=as) (i:=j d) (by rw[h];exact i1) (by rw[h];exact i2);have L:=z.ea.2 _ a ga;rw[h]at L;refine(D,_,_,_,rz,P,SqL.of (s _ _ z.hD),ha,B,d,O,R.grow s,Z,λv N M T=>?_);exact(a,_,_,_,rz,T,SqL.of (M _ _ (s _ _ L)),wH j1 j2,q _ N (s.trans M) rz)
theorem HR (i:Nat){x:Str}{c:Expr}{h:Pos}{Y:En->Prop}{gc:En->Int}(hb:PE X b (lF X.K G o j))(U:PlainIx b)(hc:PE X c (lF X.K G Y gc))(he:PE X e (lF X.K G C g))(hN:X.N[i]?=so x:=by rfl)(hv:Vis X.env.scope x:=by walk_at "v")
  (hd:(x == ("__debug__":Str))=false:=by decide) (T:(x == ("__classdict__":Str))=false:=by decide)
  (Q:∀v,assign (.Subscript (.Subscript (.Name x l) b m) c h) X.env v=(do
   let ov <-holding [v] (eval (.Subscript (.Name x l) b m) X.env)
   let iv <-holding [v,ov] (eval c X.env)
   standAt h
   holding [v,ov,iv] (setItem ov iv v)
   release [v,ov,iv] []):=by intro _;rfl)
  (hs:swapsWithSole [.Subscript (.Subscript (.Name x l) b m) c h] e pos.line X.env=pure false:=by rfl) (hw:swappedStores [.Subscript (.Subscript (.Name x l) b m) c h] e X.env=pure none:=by rfl)
  (h1:(assignEach [.Subscript (.Subscript (.Name x l) b m) c h] X.env).map (·.2)=[assign (.Subscript (.Subscript (.Name x l) b m) c h) X.env]:=by rfl) :
  PS X (.Assign [.Subscript (.Subscript (.Name x l) b m) c h] e pos) (ts X.K G E λP d=>C d/\isT d i/\o d/\(-((nY d i).length:Int)<=j d/\j d<((nY d i).length:Int))/\Y d/\(-(((nY d i)[j6 (nY d i).length (j d)]'[]).length:Int)<=gc d/\gc d<(((nY d i)[j6 (nY d i).length (j d)]'[]).length:Int)) /\ P.nx (d.set i (.o2 ((nY d i).set (j6 (nY d i).length (j d)) (((nY d i)[j6 (nY d i).length (j d)]'[]).set (j6 ((nY d i)[j6 (nY d i).length (j d)]'[]).length (gc d)) (g d)))))):=
 toS (ps_asg he (pg_sub (pe_ix ix_list (pe_var hN hv hd T) hb U) hc set_list Q) hs hw h1) λB σ H d O P D' R c w=>by
  obtain⟨c1,Z,cb,⟨i1,i2⟩,cc,⟨j1,j2⟩,c3⟩:=c;refine(B,d,O,R,c1,λv H1 s1 J=>?_);have J:v=.int (g d):=J;subst J;have k:=R.grow s1;obtain⟨D,as,z⟩:=k.o2 i _ Z;have M:=z.ea.1;refine(_,z.at_,B,d,O,k,cb,λu H2 s a2=>?_);obtain⟨a,N,Q⟩:=Qx (as:=as) (i:=j d) (by rw[M];exact i1) (by rw[M];exact i2);have ea:=z.ea.2 _ a N;rw[M]at ea N;refine(D,_,_,_,rz,a2,SqL.of (s _ _ z.hD),Q,B,d,O,k.grow s,cc,λy H3 I L=>?_);have L:y=.int (gc d):=L;subst L;have z3:TX B σ H3 d O i (nY d i) D as:=(z.at_,z.oD,z.nD,I _ _ (s _ _ z.hD),z.el,(z.ea.mono s).mono I,z.nd,z.un,z.one);refine(a,_,_,_,rz,rz,I _ _ (s _ _ ea),by rw[ac];exact yj j1 j2,?_);have e:(((nY d i)[j6 (nY d i).length (j d)]'[]).map V.int).set (j6 ((nY d i)[j6 (nY d i).length (j d)]'[]).length (gc d)) (V.int (g d))=(((nY d i)[j6 (nY d i).length (j d)]'[]).set (j6 ((nY d i)[j6 (nY d i).length (j d)]'[]).length (gc d)) (g d)).map V.int:=by rw[gG]
  rw[e];exact w.nx σ _ _ (O,((k.grow s).grow I).Yk Z z3 N) c3
end
end L3
namespace L2
theorem Uj {X:Cx}(y:X.calm=true):CallR X (.builtin "all") (λxs H Q=>∃(a:Addr) (bs:List Bool),xs=[.ref a]/\Rd H a (.lst (bs.map V.bl))/\Q (.bl (bs.all id)) H):=by
 rintro p s M H xs L Q I F ⟨a,bs,rfl,w,q⟩;obtain⟨u,rfl,D⟩:=vals1 F;cases D;obtain⟨_,C,n,r,_,e⟩:=L3.Inv.zR I w;have f:=Jl r;subst f;have l:s.heap.IsList a (bs.map Value.bool).toArray:=(_,e,rz,_,rz);have j:a≠s.heap.objs.size:=aZ (aE e);refine call_all_walk (gZ l ?_);refine(_,[s.heap.objs.size,a],[s.heap.objs.size],_,_,_,λi=>bs.getD i false,rz,Walks.list (A:=X.A.in1) (I.ok.hd y) _ a j (bs.map Value.bool).toArray,((_,bh _ rz,rz,rz),l.push _),λi v s Q E c g=>?_,λJ G z=>?_)
 .have c:(bs.map Value.bool).toArray[i]?=so v:=c;rw[eB,ag]at c;cases f:bs[i]? with
  |none=>rw[f]at c;cases c
  |some b=>
   rw[f]at c;have c:Value.bool b=v:=aJ c;subst c;have m:bs.getD i false=b:=by rw[gQ,f];rfl
   refine c7 ?_;have g:Q (bs.getD i false) s:=g;rw[m]at g;exact g
 .have t:(ss (bs.map Value.bool).toArray.size).all (λi=>bs.getD i false)=bs.all id:=by
   rw[aD,ac,df,b7,b7];constructor
   .intro h b x;obtain⟨i,d,rfl⟩:=cO.mp x;have:=h i (bA.mpr d);rw[gQ,ae d]at this;exact this
   .intro h i d;have d:=bA.mp d;rw[gQ,ae d];exact h _ (bR d)
  rw[t];refine(.bl _,H,I.kept (t':=G) λb o k=>z b o (λB=>?_) (aA _ k),rz,q);have:b=s.heap.objs.size:=af.mp B;exact absurd (aE k) (by rw[this];exact cE _)
end L2
namespace L3
open L2
section
variable {X:Cx}{G:Gx}{a b e:Expr}{p pos A d:Pos}{C f j:En->Prop}{i:En->List PV}
theorem aby (h:X.calm=true)(u:X.mg "all"=none)(s:PE X a (tX X.K G f λg=>.lst (i g)))(r:bootBuiltins "all"=so (.builtin "all"):=by rfl)(t:Gl X "all":=by rfl)(k:starEach [a] X.env=[(false,eval a X.env)]:=by rfl):PE X (.Call (.Name "all" p) [a] [] pos) (Hy X.K G (λg=>f g/\∀q∈i g,∃b,q=.bl b) λg=>((i g).map Gn).all id=true):=
 rR (pe_callB (Uj h) t u r (pa_cons s pa_nil k) (()) (()) k rz) λB z H g O Q R c q=>(B,g,O,R,c.1,λv m x n=>by
  obtain⟨l,y,rfl,w,o⟩:=n;have ev:=JG o c.2;subst ev;exact(l,_,rz,jK jZ w,q _ m x (by show V.bl _=V.bl (decide _);rw[cS])))
theorem M6 {K:Fg}{H:Hp}{c:List PV}{vs:List V}(h:my K G H c vs):∀k:Nat,my K G H (sP k c).flatten (sP k vs).flatten
 |0=>rfl
 |k+1=>by rw[cB,cB,c8,c8];exact ye h (M6 h k)
theorem YS {h:En->Int}(v:PE X a (yE X.K G f i))(w:PE X b (lF X.K G j h)):PE X (.BinOp a .Mult b pos) (yE X.K G (λg=>f g/\j g/\(0<=h g/\h g<=1)/\(i g).length<=1000) λg=>(sP (h g).toNat (i g)).flatten):=
 λk s z H Q I (B,g,O,R,c,q)=>pe_op op_rep v w k s z H Q I (B,g,O,R,c.1,λl J D o F u r=>(B,g,O,R.grow o,c.2.1,λy E n t=>by
  have len:=r.length;have x:(h g).toNat<=1:=by have:=c.2.2.1;lia
  refine(l,_,_,rz,t,n _ _ u,by have:=c.2.2.1;lia,by have:=c.2.2.1;lia,?_,λp m=>q p _ _ ((o.trans n).trans (same_new m _)) ((o.trans n).free m) upd_same ?_)
  .refine aj (iZ _ x) ?_;rw[Nat.mul_one,<-len];exact a7 (small1000 c.2.2.2)
  .exact M6 (my.mono (((qX oX).trans (lG n)).trans (mO (same_new m _) m)) _ _ r) _))
def adU (K:Fg)(G:Gx):V->List V->Hp->VK->Prop:=λx c H Q=>∃(l:List Int) (t:List (List Int)) (v:V),c=[v]/\At K G H (.ints l) v/\At K G H (.lst (t.map PV.ints)) x/\Q (.int (t.count l:Nat)) H
theorem Rj (l:Li):∀t:List (List Int),(vA (t.map PV.ints)).countP (λy=>PyData.eqv y (dat (.ints l)))=t.count l
 |[]=>rfl
 |g::r=>by have c:PyData.eqv (dat (.ints g)) (dat (.ints l))=decide (g=l):=W.ked_eqvAll g l;have k:vA ((g::r).map PV.ints)=dat (.ints g)::vA (r.map PV.ints):=rfl;rw[k,List.countP_cons,c,Rj l r,List.count_cons];by_cases h:g=l<;>simp[h]
theorem aab (T:X.A.units+64<cLine):MtM X "list.count" (adU X.K G):=by
 rintro w s Y H x O v U Q I B N ⟨l,t,y,rfl,D,c,q⟩;obtain⟨u,rfl,M⟩:=N.one;obtain⟨P,L⟩:=wB I (.ints l) y u D tT M;obtain⟨bs,g⟩:=wB I (.lst (t.map PV.ints)) x v c (uO t) B;obtain⟨o,F⟩:=yf t;obtain⟨a,O,rfl,rd,_⟩:=c;cases B;obtain⟨z,J,n,r,S,e⟩:=L3.Inv.zR I rd;have g:Reads s.heap (.ref a) (.list (vA (t.map PV.ints))) bs:=g;cases g with
 |list k R E m=>
  rw[e]at k;cases k;cases E;refine iN ii (_,e,rz) PySem.F.entry_list_count (PySem.F.args_list_count_2 _ _) (PySem.SeqAt.list_countAt a _ n _ _ u λy=>PyData.eqv (SeqAt.readOf s.heap y) (dat (.ints l))) (e,SeqAt.items_eqAt (xs:=vA (t.map PV.ints)) m L o (by simp[dat,PyData.canLay0,iI]) ?_,?_)
  .have:min (PyData.depthAll (vA (t.map PV.ints))) (dat (.ints l)).depth<=1:=aj (Nat.min_le_left _ _) F;lia
  .refine(.int (t.count l:Nat),H,I.tok _,(s.toks,?_),q);rw[<-Rj l t,<-SeqAt.readsAll_map _ _ _ o m,List.countP_map];rfl
theorem Ym {n:En->List PV}{g:En->List Int}(N:X.A.units+64<cLine)(L:PE X e (tX X.K G C λh=>.lst (n h)))(J:PE X a (Jw X.K G f g))(l:attributeBase e "count" X.env (eval e X.env)=eval e X.env:=by rfl)
  (r:((backTo d (starEach [a] X.env)).all (λx=>!x.1) && (backToKw d (keywordEach [] X.env)).all (λx=>x.1.isSome) && decide ([a].length+([]:List Keyword).length+(if ([]:List Keyword).isEmpty then 0 else 1)<30))=true:=by rfl)
  (m:(A.endLine == d.line)=true:=by rfl) (s:starEach [a] X.env=(false,eval a X.env)::starEach [] X.env:=by rfl) (k:(backTo d (starEach [] X.env)).any (·.1)=false:=by rfl) :
  PE X (.Call (.Attribute e "count" A) [a] [] d) (lF X.K G (λh=>C h/\f h/\n h=(vR (n h)).map PV.ints) λh=>((vR (n h)).count (g h):Nat)):=
 rR (pe_bm cj ii PySem.F.type_list_count (aab (G:=G) N) L (pa_cons J pa_nil s) l r m s k) λB T H h O Q R c q=>(B,h,O,R,c.1,λv w t o=>by
  obtain⟨_,F,I⟩:=c;have o:At X.K G (mn w O) (.lst (n h)) v:=o;rw[I]at o;have D:=o;obtain⟨a,S,rfl,M,P⟩:=o;refine(.inl (rz,_,aaR (jK jZ M)),B,h,O,R.grow t,F,λy z u E=>?_);exact(g h,vR (n h),y,rz,At.mono jZ _ _ E,At.mono (jZ.trans u) _ _ D,q _ z (t.trans u) rz))
end
def abA (K:Fg)(G:Gx)(pre:List PV->Prop)(F:List PV->List PV):Sp:=λv H Q _=>∃c O,(∀a,O a=true->H a≠none)/\my K G (mn H O) c v/\pre c/\∀a xs h,Same H h -> H a=none->h a=so (.lst xs)->my K G (mn h (hide a O)) (F c) xs->Q (.ref a) h
section
variable {P:Program}{w:World}{K:Fg}{mg:Mg}{base:Heap}{G:Gx}
theorem aeN {x y:Str}{st u v:Stmt}{t pos:Pos}{N p:Ls}{k i:Nat}{pre:List PV->Prop}{F:List PV->List PV}(d:lN K mg x st p)(S:FnScope N p (defScope st))(hb:defBody st=[u,v,.Return (so (.Name y t)) pos])(hi:N[i]?=so y)(hv:Vis (defScope st) y)(hd:(y == ("__debug__":Str))=false)(n:(y == ("__classdict__":Str))=false)(len:∀as,pre as->as.length=p.length)
  (g:∀(f:Addr) (e:Value) (A:Around) (outer:List Env) (s:Shared) (H:Hp) (E:XK),Room k (A.deeper (envOfC x (defScope st) s.heap.objs.size f e)) -> ∃l m,PS (cxOf CX0 P w K mg base N x (defScope st) f e A outer s H E).nox u (ts K G ER0 l)/\PS (cxOf CX0 P w K mg base N x (defScope st) f e A outer s H E).nox v (ts K G ER0 m) /\ ∀as,pre as->l { nx:=m { nx:=λρ=>ρ[i]?=so (.ow (.lst (F as))),rt:=λ_=>False },rt:=λ_=>False } (nq N as)):Ok P w K mg base (k+1) x p (abA K G pre F):=by
 refine lN.ok d S (λvs H Q E h=>?_) λf e A outer s H vs Q E hr h=>?_
 .obtain⟨as,O,_,j,o,_⟩:=h;rw[<-j.length];exact len as o
 obtain⟨as,O,hO,j,o,q⟩:=h;obtain⟨l,m,D,I,c⟩:=g f e A outer s H E hr;have b:=pss_cons D (pss_cons I (pss_one (ps_ret (pos:=pos) (pe_var (pos:=t) hi hv hd n))));rw[<-hb]at b;refine(_,b,(H,O),nq N as,_,(O,qw hO j),c as o,(λσ1 H1 r R Y=>?_,λ_ _ _ _ _ h=>h.elim,λ_ _ _ _ _ _ h=>h.elim,λ_ _ _ _ _ h=>h.elim,λ_ _ _ _ h=>h,λ_ _ _ _ h=>h,λ_ _ _ h=>h));refine((H,O),r,_,R,Y,(λσ2 C ρ2 R2 Z=>?_,λ_ _ _ _ _ h=>h.elim,λ_ _ _ _ _ _ h=>h.elim,λ_ _ _ _ _ h=>h.elim,λ_ _ _ _ h=>h,λ_ _ _ _ h=>h,λ_ _ _ h=>h));obtain⟨O2,R2⟩:=R2;obtain⟨a,xs,J,L,M,T,U⟩:=R2.ow i _ Z;refine(_,J,q a xs C R2.same M T (my.mono (qX λb z=>?_) _ _ U));by_cases B:b=a
 .rw[B];exact L
 .rw[hide_ne B]at z;exact R2.hid b z
end
section
variable {X:Cx}{G:Gx}{e:Expr}{E:List Expr}{pos p:Pos}{j k:Nat}{x:Str}{P:List Str}{pre:List PV->Prop}{C:En->Prop}{g:En->List PV}
theorem xcp {F:List PV->List PV}(o:Ok X.prog X.w X.K X.mg X.base j x P (abA X.K G pre F))(z:Room k X.A)(u:PA X (e::E) (Nt X.K G C g))(y:j<=k:=by decide)(w:Gl X x:=by rfl)(h:(x == ("__debug__":Str))=false:=by decide)
  (v:starEach (e::E) X.env=(false,eval e X.env)::starEach E X.env:=by rfl) (i:(backTo pos (starEach E X.env)).any (·.1)=false:=by rfl) :
  PE X (.Call (.Name x p) (e::E) [] pos) (yE X.K G (λd=>C d/\pre (g d)) λd=>F (g d)):=
 by rintro f s J H Q I ⟨B,d,O,R,c,q⟩;exact p6 o z u y w h v i f s J H Q I (B,d,O,R,c.1,λM L l n=>by
  dsimp only;rw[bY];exact(g d,O,(R.grow l).dom,n,c.2,λa xs m D A t r=>q a xs m (l.trans D) (l.free A) t r))
end
end L3
namespace L2
theorem abO {X:Cx}:OpR X (compareOp .Is) (λx y H Q=>∃b,x=.bl b/\y=.bl false/\Q (.bl (!b)) H):=by rintro p s c H x y v u Q I r a ⟨b,rfl,rfl,q⟩;have r:v=.bool b:=r;have a:u=.bool false:=a;subst r a;refine wpAny_is_plain rz (.bl (!b),H,I,?_,q);show Value.bool _=Value.bool (!b);cases b<;>rfl
end L2
namespace L3
open L2
section
variable {X:Cx}{G:Gx}{E:ER}{e:Expr}{p pos:Pos}{i j k2:Nat}{C:En->Prop}
theorem abR {d:En->Prop}[∀a,Decidable (d a)](g:PE X e (Hy X.K G C d)):PE X (.Compare e [.Is] [.Constant (.bool false) k2 p] pos) (Hy X.K G C λa=>¬d a):=
 rR (pe_cmpR abO g pe_bl (nomark _)) λB k H a O Q R c q=>(B,a,O,R,c,λv h s f=>(_,f,rz,q _ h s (by show V.bl _=V.bl _;rw[g6])))
theorem U3 {x y:Str}{a d f:Pos}{k:Nat}{g:En->PV}(J:PE X e (tX X.K G C g))(m:PG X (.Tuple [.Name x a,.Name y d] k f) (aaZ X.K 2 (gCons (gName i) (gCons (gName j) gNil))))
  (M:swapsWithSole [.Tuple [.Name x a,.Name y d] k f] e pos.line X.env=pure false:=by rfl) (N:swappedStores [.Tuple [.Name x a,.Name y d] k f] e X.env=pure none:=by rfl)
  (I:(assignEach [.Tuple [.Name x a,.Name y d] k f] X.env).map (·.2)=[assign (.Tuple [.Name x a,.Name y d] k f) X.env]:=by rfl) :
  PS X (.Assign [.Tuple [.Name x a,.Name y d] k f] e pos) (ts X.K G E λP h=>C h/\∃u v,g h=.lst [u,v]/\P.nx ((h.set i (.fr u)).set j (.fr v))):=
 toS (ps_asg J m M N I) λB σ H h O P D R c w=>by obtain⟨z,u,v,F,A⟩:=c;refine(B,h,O,R,z,λt o Q n=>?_);rw[F]at n;obtain⟨l,Z,rfl,L,S,U,rfl,r,T,Y,rfl,s,rfl⟩:=n;exact(l,[S,T],rz,.inl (jK jZ L),rz,_,_,rz,_,_,rz,rz,w.nx _ o _ (O,((R.grow Q).set (p:=u) r).set (p:=v) s) A)
end
theorem rZ {n i:Nat}:j6 n (i:Int)=i:=by unfold j6;rw[aL (gF i)];rfl
section
variable {X:Cx}{G:Gx}{e:ER}{pos:Pos}{C:En->Prop}
theorem Rm {i j:Nat}{x y:Str}{a b:Expr}{l:En->List PV}{f g pt:Pos}{kt k2 pt2}(A:X.calm=true)(t:X.N.Nodup)(E:X.N[i]?=so x)(F:X.N[j]?=so y)(h:i≠j)
  (L:X.env.scope.names.lookup x=so .local) (M:X.env.scope.names.lookup y=so .local) (z:PA X [a,b] (Nt X.K G C l))
  (J:swappedStores [.Tuple [.Name x f,.Name y g] kt pt] (.Tuple [a,b] k2 pt2) X.env=pure (so [x,y]))
  (I:swapsWithSole [.Tuple [.Name x f,.Name y g] kt pt] (.Tuple [a,b] k2 pt2) pos.line X.env=pure false:=by rfl) :
  PS X (.Assign [.Tuple [.Name x f,.Name y g] kt pt] (.Tuple [a,b] k2 pt2) pos) (ts X.K G e λP d=>C d/\∃u v,l d=[u,v]/\P.nx ((d.set i (.fr u)).set j (.fr v))):=
 toS (ps_par A t E F h L M z J I) λB Z H d O P D R c w=>(B,d,O,R,c.1,λY m N k=>by
  obtain⟨_,u,v,s,r⟩:=c;rw[s]at k;obtain⟨Q,T,rfl,n,S,U,rfl,o,rfl⟩:=k;exact(Q,S,rz,w.nx _ m _ (O,((R.grow N).set (p:=u) n).set (p:=v) o) r))
end
end L3
end
namespace jR
open PySem L2 L3 PyProof.Rows FM
theorem wg:FnScope ["number","divisor"] ["number"] (defScope DW):=mC
theorem mU:FnScope ["number","size","before","rest","share_before","share","often","rest_behind","share_behind"] ["number","size"] (defScope K5):=mC
theorem yl:FnScope ["number"] ["number"] (defScope tY):=mC
theorem pR:FnScope ["number","many","product","step"] ["number","many"] (defScope xK):=mC
theorem Dw:FnScope ["numbers"] ["numbers"] (defScope xM):=mC
theorem Ea:FnScope ["kind","f","numbers"] ["kind","f"] (defScope HW):=mC
theorem Cz:FnScope ["kind","f","g","sums","at","number"] ["kind","f","g"] (defScope WY):=mC
theorem Z9:FnScope ["kind","f","g"] ["kind","f","g"] (defScope U4):=mC
theorem qG:FnScope ["kind","f","g","ones","others","sums","at","one","behind","other"] ["kind","f","g"] (defScope R8):=mC
theorem S6:FnScope ["kind","f","number"] ["kind","f","number"] (defScope KD):=mC
theorem qF:FnScope ["kind","factors","product","factor"] ["kind","factors"] (defScope yS):=mC
theorem UL:FnScope ["kind","f"] ["kind","f"] (defScope Rc):=mC
theorem ou:FnScope ["kind","f","g","rest","divisor","quotient","gap","often","at","number"] ["kind","f","g"] (defScope Ik):=mC
theorem rF:FnScope ["kind","f","g","before","rest","behind"] ["kind","f","g"] (defScope Lx):=mC
theorem zY:FnScope ["kind","f"] ["kind","f"] (defScope vh):=mC
theorem Fy:FnScope ["kind","f"] ["kind","f"] (defScope xH):=mC
theorem o8:FnScope ["kind","f","g","before","row","often","behind","factor"] ["kind","f","g"] (defScope Nq):=mC
theorem Nj:FnScope ["kind","row","often","other"] ["kind","row","often","other"] (defScope DX):=mC
theorem Mw:FnScope ["g","whole"] ["g"] (defScope QS):=mC
theorem xx:FnScope ["g","number"] ["g"] (defScope yL):=mC
theorem m5:FnScope ["prime","g","kind","lead"] ["prime","g"] (defScope pF):=mC
theorem o7:FnScope ["prime","g","least","many","size"] ["prime","g"] (defScope Dq):=mC
theorem QD:FnScope ["count","few"] ["count"] (defScope XJ):=mC
theorem oE:FnScope ["bits","count","left"] ["bits"] (defScope xF):=mC
theorem p8:FnScope ["g","size","ups","bits","product","at","up"] ["g","size","ups","bits"] (defScope BJ):=mC
theorem Lk:FnScope ["size","f"] ["size","f"] (defScope Gh):=mC
theorem Dl:FnScope ["size","number","rest"] ["size","number"] (defScope Hx):=mC
theorem MN:FnScope ["kind","one","other","g"] ["kind","one","other","g"] (defScope Fp):=mC
theorem qx:FnScope ["kind","f","many","g","product","square","left"] ["kind","f","many","g"] (defScope MT):=mC
theorem nO:FnScope ["kind","f","count","g","degree","rest","rows","step"] ["kind","f","count","g"] (defScope zO):=mC
theorem BL:FnScope ["kind","g","degree"] ["kind","g"] (defScope Et):=mC
theorem lR:FnScope ["kind","f","left","pairs","factor","found","g","often"] ["kind","f"] (defScope yI):=mC
theorem kh:FnScope ["kind","f","deeper","layer","pairs","often","next_layer","g"] ["kind","f"] (defScope vm):=mC
theorem Dh:FnScope ["kind","ones","others","columns"] ["kind","ones","others"] (defScope Hf):=mC
theorem T5:FnScope ["rows","at"] ["rows","at"] (defScope Kq):=mC
theorem DQ:FnScope ["kind","row","columns"] ["kind","row","columns"] (defScope xO):=mC
theorem yh:FnScope ["ones","others"] ["ones","others"] (defScope tO):=mC
theorem Gz:FnScope ["length"] ["length"] (defScope yH):=mC
theorem BP:FnScope ["at","length","row"] ["at","length"] (defScope Ge):=mC
theorem rN:FnScope ["kind","rows","width","wide","turn","back"] ["kind","rows"] (defScope Hu):=mC
theorem jW:FnScope ["kind","rows","width","units","table","done","at","found"] ["kind","rows","width"] (defScope qd):=mC
theorem Je:FnScope ["kind","row"] ["kind","row"] (defScope Bo):=mC
theorem qR:FnScope ["rows","at","done","place"] ["rows","at","done"] (defScope rM):=mC
theorem yF:FnScope ["rows","found","done"] ["rows","found","done"] (defScope uB):=mC
theorem nu:FnScope ["kind","rows","at","done","factor","first"] ["kind","rows","at","done"] (defScope qp):=mC
theorem EY:FnScope ["kind","row","at","first"] ["kind","row","at","first"] (defScope xV):=mC
theorem HQ:FnScope ["kind","rows","told"] ["kind","rows"] (defScope Lf):=mC
theorem Ko:FnScope ["g"] ["g"] (defScope Bh):=mC
theorem vB:FnScope ["kind","g"] ["kind","g"] (defScope qQ):=mC
theorem Cd:FnScope ["kind","row","at"] ["kind","row","at"] (defScope ww):=mC
theorem zp:FnScope ["kind","g","pieces","staying","h"] ["kind","g"] (defScope s_split):=mC
theorem vU:FnScope ["kind","f","pairs","free","often","g"] ["kind","f"] (defScope Q3):=mC
theorem K7:FnScope ["kind","g","paper","whole"] ["kind","g","paper"] (defScope RX):=mC
theorem oU:FnScope ["kind","g","paper","reckoned"] ["kind","g","paper"] (defScope pC):=mC
theorem tQ:FnScope ["kind","g","r","degree"] ["kind","g","r"] (defScope uC):=mC
theorem Mh:FnScope ["kind","g","shared"] ["kind","g"] (defScope Qv):=mC
theorem oH:FnScope ["kind","rows","told","r","row","turning"] ["kind","rows"] (defScope xR):=mC
theorem pD:FnScope ["prime","many","f","pieces","kind","rests","whole","ones","left","ups","at","told"] ["prime","many","f","pieces"] (defScope Ly):=mC
theorem nG:FnScope ["rests","f","pieces","at","piece","other"] ["rests","f","pieces"] (defScope tD):=mC
theorem ph:FnScope ["g","prime","many","kind","pieces","papers"] ["g"] (defScope Ez):=mC
theorem lX:FnScope ["a","b","before","rest","behind"] ["a","b"] (defScope ug):=mC
theorem uw:FnScope ["f","whole","content","number"] ["f"] (defScope Rr):=mC
theorem pJ:FnScope ["g","paper","whole","kind","ups"] ["g","paper"] (defScope xY):=mC
theorem Jg:FnScope ["g","prime","many"] ["g","prime","many"] (defScope Bj):=mC
theorem Nz:FnScope ["kind","g","ups"] ["kind","g","ups"] (defScope Hn):=mC
theorem xW:FnScope ["kind","ups","papers","rests"] ["kind","ups","papers"] (defScope yZ):=mC
theorem tZ:FnScope ["g","size","ups","rows","asked_for","bits","row"] ["g","size","ups","rows"] (defScope Fz):=mC
theorem vM:FnScope ["g","c","q","r","rest","often"] ["g","c","q","r"] (defScope Em):=mC
theorem rG:FnScope ["g","whole","start","size","rows","bits","c","told"] ["g"] (defScope Lh):=mC
theorem NB:FnScope ["_law_script","_law_k"] ["_law_script","_law_k"] (defScope Ho):=mC
theorem Q7:FnScope ["_law_script","_law_number"] ["_law_script"] (defScope X5):=mC
theorem sH:FnScope ["_law_cell","_law_number"] ["_law_cell"] (defScope xX):=mC
theorem Kc:FnScope ["_law_row","_law_size"] ["_law_row","_law_size"] (defScope VG):=mC
theorem rB:FnScope ["_law_f","_law_g","_law_size","_law_row","_law_i","_law_k"] ["_law_f","_law_g","_law_size"] (defScope Bg):=mC
theorem tK:FnScope ["_law_f","_law_g","_law_size","_law_many_here","_law_fs","_law_gs"] ["_law_f","_law_g","_law_size"] (defScope DN):=mC
theorem qu:FnScope ["_law_one","_law_other","_law_rest"] ["_law_one","_law_other"] (defScope Hl):=mC
theorem uQ:FnScope ["_law_f","_law_found","_law_number"] ["_law_f"] (defScope Ig):=mC
theorem RN:FnScope ["_law_f","_law_content_here"] ["_law_f"] (defScope W8):=mC
theorem rA:FnScope ["_law_g","_law_found","_law_turn"] ["_law_g"] (defScope Bm):=mC
theorem uW:FnScope ["_law_prime","_law_many_here","_law_size","_law_turn"] ["_law_prime","_law_many_here"] (defScope Hs):=mC
theorem CN:FnScope ["_law_bits","_law_found"] ["_law_bits"] (defScope Wq):=mC
theorem tH:FnScope ["_law_count","_law_found","_law_few","_law_bits"] ["_law_count"] (defScope Ed):=mC
theorem lE:FnScope ["_law_g","_law_size","_law_ups_here","_law_bits","_law_made","_law_k","_law_near","_law_number"] ["_law_g","_law_size","_law_ups_here","_law_bits"] (defScope uZ):=mC
theorem mY:FnScope ["_law_f","_law_c","_law_rest","_law_q","_law_top","_law_k","_law_at"] ["_law_f","_law_c"] (defScope Bv):=mC
theorem mF:FnScope ["_law_number","_law_size","_law_one","_law_other","_law_near","_law_far","_law_often"] ["_law_number","_law_size"] (defScope yO):=mC
theorem rE:FnScope ["_law_script","_law_prime","_law_wide","_law_made","_law_k","_law_number","_law_a"] ["_law_script","_law_prime","_law_wide"] (defScope Nh):=mC
theorem IK:FnScope ["_law_g","_law_prime","_law_way","_law_many_here"] ["_law_g","_law_prime","_law_way"] (defScope Wt):=mC
theorem Jk:FnScope ["_law_pieces_here","_law_prime","_law_size","_law_alike","_law_made","_law_b","_law_a"] ["_law_pieces_here","_law_prime","_law_size","_law_alike"] (defScope aaT):=mC
theorem Vz:FnScope ["_law_ups_here","_law_size","_law_step","_law_made"] ["_law_ups_here","_law_size","_law_step"] (defScope aaC):=mC
theorem qC:FnScope ["_law_g","_law_size","_law_ups_here","_law_way","_law_rows_here","_law_bits","_law_c","_law_q","_law_r"] ["_law_g","_law_size","_law_ups_here","_law_way"] (defScope W7):=mC
theorem pI:FnScope ["_law_script","_law_g","_law_cells","_law_right","_law_k"] ["_law_script","_law_g"] (defScope xu):=mC
theorem lZ:FnScope ["_law_script","_law_head_here","_law_prime","_law_pieces_here","_law_alike","_law_g","_law_piece","_law_many_here","_law_size","_law_ups_here","_law_papers","_law_rows_here","_law_way","_law_handed","_law_word","_law_answer"] ["_law_script"] (defScope Hj):=mC
theorem Kl:FnScope ["self","size"] ["self","size"] (defScope Br):=mC
theorem G7:FnScope ["self","number"] ["self","number"] (defScope zu):=mC
theorem Ke:FnScope ["self","a","b"] ["self","a","b"] (defScope Bp):=mC
theorem JS:FnScope ["self","a","b"] ["self","a","b"] (defScope BK):=mC
theorem Ep:FnScope ["self"] ["self"] (defScope xN):=mC
theorem Ci:FnScope ["self","number"] ["self","number"] (defScope wz):=mC
theorem Dt:FnScope ["self","a","b"] ["self","a","b"] (defScope xq):=mC
theorem G3:FnScope ["self","prime"] ["self","prime"] (defScope zK):=mC
theorem Di:FnScope ["self","prime","many"] ["self","prime","many"] (defScope xT):=mC
local macro_rules | `(tactic| walk_at "0") => `(tactic| first|omega|(dsimp only;omega)|(dsimp only [List.length_cons,List.length_nil];omega)|(simp [L2.gI,L2.start] <;> omega))
local macro_rules | `(tactic| walk_at "1") => `(tactic| first|exact tT|rfl|assumption|decide|decide +kernel|exact L2.tE (())|exact L2.mX (())|exact ((()),by decide +kernel)|exact ((()),(()),(()))|walk_at "0"|exact L2.tE (by walk_at "0",by walk_at "0")|exact L2.mX (by walk_at "0",by walk_at "0"))
local macro_rules | `(tactic| walk_at "p") => `(tactic| first|(refine (?_,?_) <;> walk_at "p")|walk_at "1"|(intro _;walk_at "p"))
local macro_rules | `(tactic| walk_at "2") => `(tactic| first|exact tT|exact (rfl:_ = so _)|exact (rfl:L3.isI _ _)|exact (rfl:L3.isL _ _)|exact (rfl:L3.isF _ _)|exact (rfl:L3.isK _ _)|exact (rfl:L3.Z5 _ _)|exact (Or.inl rfl:L3.Py _ _)|exact (Or.inr k4:L3.Py _ _)|exact (Or.inr (Or.inr rz):L3.Py _ _)|walk_at "1")
local macro_rules | `(tactic| walk_at "x") => `(tactic| first|(refine And.intro ?_ ?_ <;> walk_at "x")|walk_at "2")
section
variable {P:Program}{w:World}{K:Fg}{mg:Mg}{base:Heap}{cNO cNP cNW cHP cBL cNN cK cW cR cP:Addr}
variable (T:Top K mg cNO cNP cNW cHP cBL cNN cK cW cR cP)
open _root_.List renaming length → ln
abbrev k6 z:=L3.Sl.fr (.int z)
abbrev k7 l:=L3.Sl.fr (.ints l)
def zI (s:List PV)(k:Nat):Int:=match s.getD k .non with|.int n=>n|.ob _ n=>n|_=>0
def lI (s:List PV)(k:Nat):List Int:=match s.getD k .non with|.ints f=>f|_=>[]
def None (s:List PV)(k:Nat):List PV:=match s.getD k .non with|.lst f=>f|_=>[]
def Bl:Ok P w K mg base 1 "is_prime" ["number"] (spB 1 yes F_P):=by
 refine lN.ok T.Qm wg (λy H Q E h=>?_) (λf u A p s H y Q E D h=>?_)
 .obtain⟨x,o,rfl,_⟩:=h;rw[ac,o];rfl
 obtain⟨x,o,rfl,C,k⟩:=h;obtain⟨n,rfl⟩:=Yy o;refine(_,(pss_cons (Am (pw_orP (Ow (lu 0) qO) (pw_or1P (Wk (lu 0) (Ru (by rfl) T.u6)))).pt (pss_one (ps_ret pe_bl)) pss_nil) (pss_cons (R4 (i:=1) wg.nd rz k4 qO) (pss_cons (Ug aw (abq (abQ (lu 1) (lu 1)) (lu 0)) (pss_cons (Am (VH (abl (lu 0) (lu 1)) qO) (pss_one (ps_ret pe_bl)) pss_nil) (pss_one (Sd (i:=1) wg.nd rz k4 qO rP)))) (pss_one (ps_ret pe_bl))))),?_)
 have k:Q (.bl (Nr n)) H:=k;refine(by walk_at "p",λh=>?_,λh=>?_)
 .have h:n<2\/9973<n:=h;rw[Hc (λq=>by have:=q.1;have:=q.2.1;lia)]at k;exact k
 have h:¬(n<2\/9973<n):=h;refine(by walk_at "p",λv l=>?_);have l:v=2:=l;subst l;refine(λj r=>∃d,j=[so (.int n),so (.int d)]/\r=H/\2<=d/\d<=10000/\Nk n d,λj _=>(10001-gI j 1).toNat,(2,rz,rz,(),(),λe z g=>()),?_);rintro j r ⟨d,rfl,rfl,g,B,t⟩;refine(((rz,rz,tE (?_,?_)),rz),λc=>?_,λc=>?_)
 .show -(2:Int)^64<d;lia
 .show d<(2:Int)^64;lia
 .have c:d*d<=n:=c;have:=adp g;refine(((rz,rz,(():(0:Int)<d)),tT),λa=>?_,λa=>?_)
  .have a:n % d=0:=a;rw[Hc (λq=>q.2.2 d g c a)]at k;exact k
  .have a:¬n % d=0:=a;refine(rz,tT,tT,λm e=>?_);have e:m=d+1:=e;subst e;exact((d+1,rz,rz,(),(),t.next a),(():(10001-(d+1)).toNat<(10001-d).toNat))
 .have c:¬d*d<=n:=c;rw[Ga (.out t g () () c)]at k;exact k
def WQ:Sp:=λv H Q _=>∃n:Int,v=[.int n]/\mR n/\Q .non H
def rO:Ok P w K mg base 2 "refuse_no_prime" ["number"] WQ:=by
 refine lN.ok T.zc yl (λv H Q E h=>?_) (λf a A o s H v Q E e h=>?_)
 .obtain⟨c,rfl,_⟩:=h;rfl
 obtain⟨n,rfl,d,k⟩:=h;refine(_,(pss_one (Am (Zr (aex (ZP (Bl T) e (zj (lu 0) Kg)))) (pss_one ps_never) pss_nil)),?_)
 refine(((rz,tT),tT),λq=>?_,λq=>?_)
 .have q:¬Nr n=true:=q;exact(q (Ga d)).elim
 .exact k
def adM:List Int->Prop:=λa=>match a with
 |[n,m]=>0<=m/\m<=400/\((-(2:Int)^64<n/\n<(2:Int)^64)\/(n.natAbs<=2^300/\m<=8))
 |_=>False
def F_T:List Int->Int:=λa=>match a with
 |[n,m]=>n^m.toNat
 |_=>0
def vG:Ok P w K mg base 1 "taken_times" ["number","many"] (spI 2 adM F_T):=by
 refine lN.ok T.Hb pR (λx H Q E h=>?_) (λf r A o s H x Q E y h=>?_)
 .obtain⟨t,d,rfl,_⟩:=h;rw[ac,d];rfl
 obtain⟨t,d,rfl,g,k⟩:=h;obtain⟨n,m,rfl⟩:=Y5 d;have g:0<=m/\m<=400/\((-(2:Int)^64<n/\n<(2:Int)^64)\/(n.natAbs<=2^300/\m<=8)):=g;obtain⟨z,B,a⟩:=g;have k:Q (.int (n^m.toNat)) H:=k;refine(_,(pss_cons (R4 (i:=2) pR.nd rz k4 qO) (pss_cons (ps_for aw rz (pi_range1 (by rfl) T.lM (zj (lu 1) Kg)) (pg_name (i:=3) pR.nd rz k4) (pss_one (Sd (i:=2) pR.nd rz k4 (lu 0) Dj))) (pss_one (ps_ret (lu 2))))),?_)
 refine(tT,λu e=>?_);have e:u=1:=e;subst e;refine((rz,tT),m,rz,(),(),for_range (λi j c=>∃v,j=[so (.int n),so (.int m),so (.int (n^i)),v]/\c=H) (none,by rw[eC];rfl,rz) ?_ ?_)
 .rintro i j c p ⟨v,rfl,rfl⟩;refine(rz,rz,?_,λu e=>?_)
  .rcases a with a|⟨a,m8⟩
   .exact tE a
   .have p:i<m.toNat:=p;have l:=FZ a i;rw[<-Nat.pow_mul]at l;exact nR (n:=2401) (m:=301) (aK l (aI (()) ())) (aK a (aI (()) (())))
  .have e:u=n^i*n:=e;rw[<-bE]at e;subst e;exact(_,rz,rz)
 .rintro j c ⟨v,rfl,rfl⟩;exact(rz,k)
def pK:Ok P w K mg base 1 "taken_times" ["number","many"] (rK K (Gk cW cR cP) (λas=>Ft as/\ln as=2/\adM (qy as)) λas=>F_T (qy as)):=adY (vG T)
def Yu (K:Fg):Sp:=λv H Q _=>∃(p C d:Addr) (z:Int),v=[.ref p,.int z]/\H p=so (.ins C d [])/\Cls K C/\NoAttr K C "size"/\Q .non (upd H p (.ins C d [("size",.int z)]))
def uR:OkC P w K mg base CX0 1 "Kind" cK "__init__" ["self","size"] (Yu K):=by
 obtain⟨f,g,F,b,c⟩:=T.Mt;refine(f,g,F.ok Kl (λv H Q E h=>?_) (λa A o s H v Q E j h=>?_),b,c,T.W4)
 .obtain⟨p,C,d,z,rfl,_⟩:=h;rfl
 obtain⟨p,C,d,z,rfl,i,e,n,k⟩:=h;refine(_,(pss_one (ps_fld (pv 0) (lu 1) rz)),?_);exact(rz,_,rz,p,C,d,[],rz,i,e,n,(()),k)
def Ox (C:Addr):Sp:=λv H Q _=>∃x d:Addr,v=[.ref x]/\H x=so (.ins C d [])/\Q .non (upd H x (.ins C d [("size",.int 0)]))
def NZ (C:Addr):Sp:=λv H Q _=>∃(x d:Addr) (p:Int),v=[.ref x,.int p]/\mR p/\H x=so (.ins C d [])/\Q .non (upd H x (.ins C d [("size",.int p)]))
def PL (C:Addr):Sp:=λv H Q _=>∃(x d:Addr) (p m:Int),v=[.ref x,.int p,.int m]/\mR p/\1<=m/\m<=400/\H x=so (.ins C d [])/\Q .non (upd H x (.ins C d [("size",.int (p^m.toNat)),("prime",.int p)]))
def mH:OkI P w K mg base CX0 2 "Wholes" cW ["self"] (Ox cW):=by
 obtain⟨f,e,F,b,c⟩:=T.GZ;refine(f,e,F.ok Ep (λv H Q E h=>?_) (λa A o s H v Q E i h=>?_),b,c,T.Mv)
 .obtain⟨p,d,rfl,_⟩:=h;rfl
 obtain⟨p,d,rfl,g,k⟩:=h;refine(_,(pss_one (ps_expr (I8 (uR T) i pass0 (pa_cons (pv 0) (pa_cons qO pa_nil))))),?_);exact(_,rz,tT,p,cW,d,0,rz,g,T.uh,T.vN,k)
def zq:OkI P w K mg base CX0 3 "Rests" cR ["self","prime"] (NZ cR):=by
 obtain⟨f,g,F,b,c⟩:=T.Jc;refine(f,g,F.ok G3 (λv H Q E h=>?_) (λe A o s H v Q E a h=>?_),b,c,T.Ss)
 .obtain⟨x,d,p,rfl,_⟩:=h;rfl
 obtain⟨x,d,p,rfl,i,j,k⟩:=h;refine(_,(pss_cons (ps_expr (p6 (rO T) a (pa_cons (lu 1) pa_nil))) (pss_one (ps_expr (I8 (uR T) a pass0 (pa_cons (pv 0) (pa_cons (lu 1) pa_nil)))))),?_)
 exact(rz,p,rz,i,_,rz,rz,x,cR,d,p,rz,j,T.su,T.qD,k)
def Hz:OkI P w K mg base CX0 3 "Powers" cP ["self","prime","many"] (PL cP):=by
 obtain⟨f,j,F,b,c⟩:=T.Gy;refine(f,j,F.ok Di (λv H Q E h=>?_) (λi A o s H v Q E g h=>?_),b,c,T.Lr)
 .obtain⟨x,d,p,m,rfl,_⟩:=h;rfl
 obtain⟨x,d,p,m,rfl,e,l,a,n,k⟩:=h;refine(_,(pss_cons (ps_expr (p6 (rO T) g (pa_cons (lu 1) pa_nil))) (pss_cons (Am (pw_orP (Ow (lu 2) qO) (pw_or1P (Wk (lu 2) (Ru (by rfl) T.vC)))).pt (pss_one ps_never) pss_nil) (pss_cons (ps_expr (I8 (uR T) g pass0 (pa_cons (pv 0) (pa_cons (Y6 (vG T) g (zj (lu 1) (zj (lu 2) Kg))) pa_nil)))) (pss_one (ps_fld (pv 0) (lu 1) rz))))),?_)
 refine(rz,p,rz,e,((rz,tT),λ_=>(rz,tT)),λq=>?_,λq=>?_)
 .have q:m<1\/400<m:=q;lia
 .refine(_,rz,((rz,rz,tT),((),a,.inl (by have:=e.1;show -(2:Int)^64<p;lia,by have:=e.2.1;show p<(2:Int)^64;lia))),x,cP,d,p^m.toNat,rz,n,T.pq,T.pP,?_);refine(rz,_,rz,x,cP,d,_,rz,upd_same,T.pq,T.BX,((()):1<1000),?_);rw[upd_upd];exact k
def Q4:Int->List Int->Int:=λz a=>match a with
 |[n]=>pl z n
 |_=>0
abbrev abV:Int->List Int->Prop:=λ_ _=>True
def qL:KM P w K mg base 1 (Yi cW cR cP) "plain" 1 abV Q4:=by
 refine⟨λH a z M=>?_⟩;obtain⟨C,G,fs,e,i,O,I⟩:=M;have v:∀(C:Addr),(C=cR\/C=cP)->0<z->OkM P w K mg base CX0 1 C "plain" ["self","number"] (adV (Yi cW cR cP) a z 1 abV Q4):=λC i d=>by
  obtain⟨f,p,F,b,x,N⟩:=T.JK;refine(f,p,F.ok G7 (λB H Q E h=>?_) (λl A o s H B Q E L h=>?_),b,?_,?_)
  .obtain⟨g,c,rfl,_⟩:=h;show ln (g.map V.int)+1=2;rw[ac,c]
  .obtain⟨g,c,rfl,⟨j,m,r,J,t,u,_⟩,_,k⟩:=h;obtain⟨n,rfl⟩:=Yy c;have k:Q (.int (pl z n)) H:=k;rw[nU d]at k;refine(_,(pss_one (ps_ret (pe_op op_mod (lu 1) (pe_fld (pv 0) rz)))),?_);have D:Cls K j/\NoAttr K j "size":=by
    rcases t with⟨_,q⟩|⟨q|q,_⟩
    .lia
    .rw[q];exact(T.su,T.qD)
    .rw[q];exact(T.pq,T.pP)
   exact(rz,_,rz,a,j,m,r,_,rz,J,D.1,D.2,u,_,_,rz,rz,d,k)
  .rcases i with q|q
   .rw[q];exact x
   .rw[q];exact N
  .rcases i with q|q
   .rw[q];exact T.su
   .rw[q];exact T.pq
 rcases i with⟨q,y⟩|⟨q,y⟩
 .subst q y;refine(C,G,fs,["self","number"],e,I "plain" (by decide +kernel),?_);obtain⟨f,p,F,b,x⟩:=T.Dy;refine(f,p,F.ok Ci (λB H Q E h=>?_) (λl A o s H B Q E L h=>?_),b,x,T.uh)
  .obtain⟨g,c,rfl,_⟩:=h;show ln (g.map V.int)+1=2;rw[ac,c]
  .obtain⟨g,c,rfl,_,_,k⟩:=h;obtain⟨n,rfl⟩:=Yy c;refine(_,(pss_one (ps_ret (lu 1))),?_);exact(rz,k)
 .exact(C,G,fs,["self","number"],e,I "plain" (by decide +kernel),v C q y)
def abt:Int->List Int->Int:=λz n=>match n with
 |[a,b]=>pl z (a-b)
 |_=>0
def ZK:KM P w K mg base 2 (Yi cW cR cP) "less" 2 abV abt:=by
 refine⟨λH a z L=>?_⟩;obtain⟨C,u,fs,e,G,hz,I⟩:=id L;obtain⟨f,B,l,b,O,R,S⟩:=T.K1;have j:Meth K C "less" f/\Cls K C:=by
  rcases G with⟨q,_⟩|⟨q|q,_⟩
  .rw[q];exact(O,T.uh)
  .rw[q];exact(R,T.su)
  .rw[q];exact(S,T.pq)
 refine(C,u,fs,["self","a","b"],e,I "less" (by decide +kernel),f,B,l.ok Ke (λY H Q E h=>?_) (λt A o s H Y Q E J h=>?_),b,j.1,j.2)
 .obtain⟨n,i,rfl,_⟩:=h;show ln (n.map V.int)+1=3;rw[ac,i]
 obtain⟨n,i,rfl,c,_,k⟩:=h;obtain⟨x,y,rfl⟩:=Y5 i;have k:Q (.int (pl z (x-y))) H:=k;obtain⟨Z,d,g,U,v,N,M⟩:=(qL (P:=P) (w:=w) (base:=base) T).ex H a z c;obtain⟨f3,D,F,p,m,r⟩:=M.ex;refine(_,(pss_one (ps_ret (pe_meth (pv 0) r m F J p .nil pass0 (pa_cons (abb op_sub (lu 1) (lu 2)) pa_nil)))),?_);exact(_,rz,a,d,g,rz,v,N,(rz,rz),[x-y],rz,rz,c,tT,k)
def ksz:KSz K (Gk cW cR cP):=by
 refine⟨λH a z h=>?_⟩;obtain⟨_,C,d,fs,e,f,g,_⟩:=h;have c:Cls K C/\NoAttr K C "size":=by
  rcases f with⟨q,_⟩|⟨q|q,_⟩
  .rw[q];exact(T.uh,T.vN)
  .rw[q];exact(T.su,T.qD)
  .rw[q];exact(T.pq,T.pP)
 exact(C,d,fs,e,c.1,c.2,g)
def Rq:List Int->List Int->Prop:=λ_ i=>match i with
 |[k]=>0<=k
 |_=>False
def Vl:List Int->List Int->Int:=λxs i=>match i with
 |[k]=>xs[k.toNat]!
 |_=>0
def Qf:Ok P w K mg base 1 "_law_cell_at" ["_law_script","_law_k"] (spS K 1 Rq Vl):=by
 refine lN.ok T.Uk NB (λv H Q E h=>?_) (λf m A o s H v Q E r h=>?_)
 .obtain⟨a,xs,j,c,rfl,_⟩:=h;show ln (j.map V.int)+1=2;rw[ac,c]
 obtain⟨l,n,j,c,rfl,g,d,k⟩:=h;obtain⟨i,rfl⟩:=Yy c;have d:0<=i:=d;have k:Q (.int n[i.toNat]!) H:=k;refine(_,(pss_cons (Am (Ow (lu 1) (abj 0 l (n.map V.int) T.jM)) (pss_one (ps_ret (Ys 0 l n (lu 1) (λ_ _=>rz)))) pss_nil) (pss_one (ps_ret qO))),?_)
 have p:ln (n.map V.int)=ln n:=ac _;refine((rz,(rz,g)),λq=>?_,λq=>?_)
 .have q:i<(ln (n.map V.int):Int):=q;refine((rz,rz,g,?_,?_),?_)
  .show -(ln n:Int)<=i;lia
  .show i<(ln n:Int);lia
  .show Q (.int (n.getD (if 0<=i then i else i+ln n).toNat 0)) H;rw[aL d];exact k
 .have q:¬i<(ln (n.map V.int):Int):=q;have e:n[i.toNat]! =0:=by rw[gQ,bu ()];rfl
  rw[e]at k;exact(tT,k)
def uI:Ok P w K mg base 1 "_law_cell_at" ["_law_script","_law_k"] (rK K (Gk cW cR cP) (L3.acZ 1 Rq) λas=>Vl (acY as) (qy as.tail)):=acU (Qf T)
theorem Dk (h:ns≠[])(h0:ns[ln ns-1]! =0):jy ns.dropLast=jy ns:=by
 have e:ns=ns.dropLast++[0]:=by
  have a:=dZ h;have c:ns.getLast h=0:=by rw[ij];rw[gQ,ae (by have:=lP h;lia)]at h0;exact h0
  rw[c]at a;exact a.symm
 rw[e,yo,List.dropLast_concat]
theorem sG (h:¬(ns≠[]/\ns[ln ns-1]! =0)):jy ns=ns:=by
 by_cases c:ns=[]
 .rw[c];rfl
 .have h0:¬ns[ln ns-1]! =0:=λz=>h (c,z);have e:=dZ c;have a:ns.getLast c≠0:=by rw[ij];rw[gQ,ae (by have:=lP c;lia)]at h0;exact h0
  rw[<-e,Ec _ a]
theorem Ka (ns:Li)(h:ns≠[]):j6 (ln ns) (-1)=ln ns-1:=by have:=lP h;unfold j6;rw[aF ()];lia
def wu:Ok P w K mg base 1 "cut_noughts" ["numbers"] (spM (λ_=>True) jy):=by
 refine lN.ok T.Ha Dw (λy H Q E h=>?_) (λf u A r s H y Q E C h=>?_)
 .obtain⟨a,ns,rfl,_⟩:=h;rfl
 obtain⟨a,ns,rfl,x,_,q⟩:=h;refine(_,(pss_one (ps_while aw (pw_and (pt_truth (pv 0) (λ_=>rz)) (pw_and1 (pt_cmpR op_eq (Y0 0 (abN qO) (λ_ _=>rz)) qO (nomark _)))).pt (pss_one (ps_expr (pe_bm0 cj fP fQ mt_pop (pv 0)))))),?_)
 refine(λm k j=>k=[so (.ref a)]/\∃g,m=ln g/\j=upd H a (.lst (g.map V.int))/\jy g=jy ns,(ln ns,rz,ns,rz,?_,rz),?_)
 .funext b;by_cases c:b=a
  .rw[c,upd_same,x]
  .rw[upd_ne c]
 rintro m k j ⟨rfl,g,rfl,rfl,p⟩;refine(_,rz,_,.inl (_,SqL.of upd_same,rz),?_);by_cases c:g=[]
 .subst c;refine iteF ?_;refine iteF ?_;refine q _ (λb o n e=>?_) ?_
  .rw[upd_ne n];exact e
  .rw[upd_same,<-p];rfl
 .have t:=lP c;have v:(!(g.map V.int).isEmpty)=true:=by cases g<;>simp at c ⊢
  rw[v];refine iteT ?_;refine(tT,a,g,g[ln g-1]!,rz,SqL.of upd_same,?_,?_)
  .have z:=getD_at (ns:=g) (i:=-1) () ();show atI (g.map V.int) (-1)=_;rw[z,aF ()];have:(-1+(ln g:Int)).toNat=ln g-1:=()
   rw[this]
  refine(tT,rz,_,rz,?_);by_cases d:g[ln g-1]! =0
  .have l:decide (V.int g[ln g-1]! =V.int 0)=true:=bc (by rw[d]);rw[l];refine iteT ?_;refine(λk j=>k=[so (.ref a)]/\j=upd H a (.lst (g.dropLast.map V.int)),?_,?_)
   .rintro B j ⟨rfl,rfl⟩;refine(ln g.dropLast,by rw[dF];lia,rz,_,rz,rz,?_);rw[<-p];exact Dk c d
   .refine(_,rz,.inl (rz,_,SqL.of upd_same),a,_,V.int (g[ln g-1]'()),rz,rz,upd_same,?_,rz,?_)
    .rw[ac,ag,ae ()];rfl
    .rw[upd_upd,g9]
  .have l:decide (V.int g[ln g-1]! =V.int 0)=false:=aN (by intro z;exact d (by injection z));rw[l];refine iteF ?_;refine q _ (λb o n e=>?_) ?_
   .rw[upd_ne n];exact e
   .rw[upd_same,<-p,sG λz=>d z.2]
def jL:Ok P w K mg base 2 "trimmed" ["kind","f"] (Ff K (Gk cW cR cP) (λas=>∃z f,as=[.ob 0 z,.ints f]/\ln f<=1000) λs=>(λz f=>jy (f.map (pl z))) (zI s 0) (lI s 1)):=by
 refine GJ T.Tf Ea '!' (λf g A o s H E c=>(_,(jr (CV (i:=2) Ea.nd rz rz (N':=["number","kind"]) (cap:=[so 0]) (kW rz rz rz rz ((rz,.inr (.inl rz),sS,.inl rz,_,rz,rz),tT) (rz,tT) rz) rz (xl 1) (λ_ _ _=>(lO 0)) (λ_ _ _=>(rT 1 (qL T) c %[xn 0|_])) rz) (jr (QL 2 (wu T) c) (jw (yQ 2)))),λas k=>?_))
 obtain⟨z,f,rfl,j⟩:=k;refine((rz,j,λn _=>(rz,(rz,tT),tT,tT)),λd e=>?_);have e:d=f.map (pl z):=e;refine(rz,tT,rz,?_);show jy d=jy (f.map (pl z));rw[e]
def lJ (f g:List Int):List Int:=(ss (max (ln f) (ln g))).map λn=>f[n]!+g[n]!
theorem mL (f g:Li)(n:Nat):(lJ f g)[n]! =f[n]!+g[n]!:=by
 unfold lJ;by_cases h:n<max (ln f) (ln g)
 .rw[lC (by rw[ac,aC];exact h),cA,cq]
 .rw[jH (by rw[ac,aC];lia),jH (),jH ()];rfl
theorem za (f:Li)(k n:Nat):(f++sP k 0)[n]! =f[n]!:=by
 by_cases h:n<ln f
 .rw[lC (by rw[aS];lia),hJ h,lC h]
 .rw[jH (xs:=f) ()];by_cases a:n<ln f+k
  .rw[lC (by rw[aS,aR];exact a),gU (),fG]
  .rw[jH (by rw[aS,aR];lia)]
def K8 (f g:List Int)(i:Nat)(row:List Int):Prop:=ln row=ln f+(ln g-ln f)/\∀n,row[n]! =f[n]!+if n<i then g[n]! else 0
theorem Xz (h:K8 f g i row)(j:i<ln g):K8 f g (i+1) (row.set i (row[i]!+g[i]!)):=by
 obtain⟨e,a⟩:=h;refine(by rw[bn];exact e,λn=>?_);rw[oY _ _ _ _ ()];by_cases c:n=i
 .subst c;rw[aL rz,a,aF (),aL ()];lia
 .rw[aF c,a];by_cases d:n<i
  .rw[aL d,aL ()]
  .rw[aF d,aF ()]
theorem Zg (h:K8 f g (ln g) row):Tz z row=Tz z (lJ f g):=by
 refine Rb λn=>?_;rw[h.2,mL];by_cases d:n<ln g
 .rw[aL d]
 .rw[aF d,jH (xs:=g) ()]
def Ja:Ok P w K mg base 3 "plus" ["kind","f","g"] (Ff K (Gk cW cR cP) (λas=>∃z f g,as=[.ob 0 z,.ints f,.ints g]/\ln f<=500/\ln g<=500) λs=>(λz f g=>Tz z (lJ f g)) (zI s 0) (lI s 1) (lI s 2)):=by
 refine GJ T.ack Cz '!' (λf t A o s H E d=>(_,(jr (qZ (i:=3) Cz.nd rz k4 (uT (jJ (Jt T.O8 (xl 1) (λ_=>.inl rz))) (jJ (rW (j8 %[jt|_]) (lw (jO 2 T.jM) (jO 1 T.jM)) (λ_=>rz))))) (jr (zJ (k:=4) (j:=5) aw rz (by rfl) T.mZ (xl 2) (pg_tup rz (pgs_cons (pg_name (i:=4) Cz.nd rz k4) (pgs_cons (pg_name (i:=5) Cz.nd rz k4) pgs_nil))) (jw (Hr 3 (xn 4) (xn 5) rP))) (j7 3 (jw (mD (m6 (jL T) d %[xv 0,xl 3|_])))))),λas y=>?_))
 obtain⟨z,f,g,rfl,F,G⟩:=y;have u:((ln g:Int)-(ln f:Int)).toNat=ln g-ln f:=()
 refine((rz,(((tT,tT),tT),(.inl rz,.inl rz),?_,?_),?_),λr e=>?_)
 .show -(2:Int)^63<=(ln g:Int)-(ln f:Int);lia
 .show((ln g:Int)-(ln f:Int)).toNat<=1000;lia
 .refine a7 (small1000 ?_);show ln f+(sP ((ln g:Int)-(ln f:Int)).toNat (0:Int)).length<=1000;rw[aR];lia
 have e:r=f++sP (ln g-ln f) 0:=by rw[<-u];exact e
 refine(rz,λi p=>∃row v m,p=[.fr (.ob 0 z),k7 f,k7 g,.ow (.ints row),v,m]/\K8 f g i row,(r,.un,.un,rz,?_),?_,?_)
 .rw[e];refine(by rw[aS,aR],λn=>?_);rw[za,aF (),bJ]
 .rintro i n p l ⟨row,v,m,rfl,d⟩;have l:g[i]?=so n:=l;have x:=W9 l;have C:-(ln row:Int)<=(i:Int):=()
  have D:(i:Int)<(ln row:Int):=by have:=d.1;lia
  have B:j6 (ln row) (i:Int)=i:=rZ;refine(rz,rz,(C,D),rz,tT,row.set i (row[i]!+n),k6 i,k6 n,?_,?_)
  .show[Sl.fr (.ob 0 z),k7 f,k7 g,.ow (.ints (row.set (j6 (ln row) (i:Int)) (row[j6 (ln row) (i:Int)]!+n))),k6 i,k6 n]=_;rw[B]
  .have q:=Xz d x;rw[getD_at' l]at q;exact q
 .rintro p ⟨row,v,m,rfl,d⟩;have d:K8 f g (ln g) row:=d;refine(((rz,rz,tT),z,row,rz,?_),?_)
  .rw[d.1];lia
  .show Tz z row=Tz z (lJ f g);exact Zg d
def JL:Ok P w K mg base 4 "less" ["kind","f","g"] (Ff K (Gk cW cR cP) (λas=>∃z f g,as=[.ob 0 z,.ints f,.ints g]/\ln f<=500/\ln g<=500) λs=>(λz f g=>Tz z (lJ f (g.map λn=>-n))) (zI s 0) (lI s 1) (lI s 2)):=by
 refine GJ T.ab2 Z9 '!' (λf d A o s H E k=>(_,(jw (mD (m6 (Ja T) k %[xv 0,xl 1,jJ (pQ (N':=["number"]) (cap:=[]) (kW rz rz rz rz tT tT rz) rz (xl 2) (λ_ _ _=>(lO 0)) (λ_ _ _=>(lV (xn 0))))|_]))),λas j=>?_));obtain⟨z,f,g,rfl,e,i⟩:=j;refine(((rz,rz,(rz,(():ln g<=1000),λn _=>rz),tT),z,f,_,rz,e,?_),rz);show ln (g.map λn=>-n)<=500;rw[ac];exact i
def pA:Ok P w K mg base 3 "scaled" ["kind","f","number"] (Ff K (Gk cW cR cP) (λas=>∃z f n,as=[.ob 0 z,.ints f,.int n]/\ln f<=1000/\n.natAbs<2^9000/\∀m∈f,m.natAbs<2^9000) λs=>(λz f n=>Tz z (f.map λm=>n*m)) (zI s 0) (lI s 1) (zI s 2)):=by
 refine GJ T.Vh S6 '!' (λf g A o s H E l=>(_,(jw (mD (m6 (jL T) l %[xv 0,jJ (pQ (N':=["one","number"]) (cap:=[so 2]) (kW rz rz rz rz ((rz,.inr (.inl rz),sS,.inl rz,_,rz,rz),tT) (rz,tT) rz) rz (xl 1) (λ_ _ _=>(lO 0)) (λ_ _ _=>(kO (xn 1) (xn 0))))|_]))),λas k=>?_));obtain⟨z,f,n,rfl,e,j,i⟩:=k;refine(((rz,(rz,e,λm d=>(rz,rz,nR (n:=9000) (m:=9000) j (i m d))),tT),z,_,rz,?_),rz);show ln (f.map λm=>n*m)<=1000;rw[ac];exact e
theorem acT (e:0<=z)(h:z<((2^9000:Nat):Int))(a:∀m∈f,m.natAbs<2^9000):∀m∈Tz z f,m.natAbs<2^9000:=λm d=>by obtain⟨k,c,rfl⟩:=VD d;exact WD e h (a k c)
def pL:Ok P w K mg base 3 "times" ["kind","f","g"] (Ff K (Gk cW cR cP) (λas=>∃z f g,as=[.ob 0 z,.ints f,.ints g]/\0<=z/\z<((2^9000:Nat):Int)/\ln f+ln g<=1000/\(∀m∈f,m.natAbs<2^9000)/\(∀m∈g,m.natAbs<2^9000)) λs=>(λz f g=>Tz z (jz (Tz z f) (Tz z g))) (zI s 0) (lI s 1) (lI s 2)):=by
 refine GJ T.ZJ qG '!' (λf M A C s H E l=>(_,(jr (jG (i:=3) qG.nd rz k4 (jJ (m6 (jL T) l %[xv 0,xl 1|_]))) (jr (jG (i:=4) qG.nd rz k4 (jJ (m6 (jL T) l %[xv 0,xl 2|_]))) (jr (qZ (i:=5) qG.nd rz k4 (rW (j8 %[jt|_]) (km (jO 3 T.jM) (jO 4 T.jM)) (λ_=>rz))) (jr (zJ (k:=6) (j:=7) aw rz (by rfl) T.mZ (xl 3) (pg_tup rz (pgs_cons (pg_name (i:=6) qG.nd rz k4) (pgs_cons (pg_name (i:=7) qG.nd rz k4) pgs_nil))) (jw (zJ (k:=8) (j:=9) aw rz (by rfl) T.mZ (xl 4) (pg_tup rz (pgs_cons (pg_name (i:=8) qG.nd rz k4) (pgs_cons (pg_name (i:=9) qG.nd rz k4) pgs_nil))) (jw (Hr 5 (km (xn 6) (xn 8)) (kO (xn 7) (xn 9)) rP))))) (j7 5 (jw (mD (m6 (jL T) l %[xv 0,xl 5|_])))))))),λas Y=>?_))
 obtain⟨z,f,g,rfl,G,B,hl,Q,R⟩:=Y;refine(((rz,rz,tT),z,f,rz,()),λd o=>?_);have o:d=Tz z f:=o;refine(((rz,rz,tT),z,g,rz,()),λe p=>?_);have p:e=Tz z g:=p;have lf:ln d<=ln f:=by rw[o];exact lH _ _
 have lg:ln e<=ln g:=by rw[p];exact lH _ _
 have J:∀m∈d,m.natAbs<2^9000:=by rw[o];exact acT G B Q
 have L:∀m∈e,m.natAbs<2^9000:=by rw[p];exact acT G B R
 have N:((ln d:Int)+(ln e:Int)).toNat=ln d+ln e:=()
 refine((((tT,tT),tT),(.inl rz,.inl rz),?_,?_),λI t=>?_)
 .show -(2:Int)^63<=(ln d:Int)+(ln e:Int);lia
 .show((ln d:Int)+(ln e:Int)).toNat<=1000;lia
 have t:I=sP (ln d+ln e) 0:=by rw[<-N];exact t
 refine(rz,λi u=>∃row D F v r,u=[.fr (.ob 0 z),k7 f,k7 g,k7 d,k7 e,.ow (.ints row),D,F,v,r]/\u9 d e i 0 row,(I,.un,.un,.un,.un,rz,by rw[t];exact Hw d e),?_,?_)
 .rintro i n u y ⟨row,D,F,v,r,rfl,l⟩;have y:d[i]?=so n:=y;have S:=W9 y;refine(rz,λj u=>∃row v r,u=[.fr (.ob 0 z),k7 f,k7 g,k7 d,k7 e,.ow (.ints row),k6 i,k6 n,v,r]/\u9 d e i j row,(row,v,r,rz,l),?_,?_)
  .rintro j m u x ⟨row,v,r,rfl,l⟩;have x:e[j]?=so m:=x;have U:=W9 x;have l1:-(ln row:Int)<=(i:Int)+(j:Int):=()
   have l2:(i:Int)+(j:Int)<(ln row:Int):=by have:=l.1;lia
   have Z:j6 (ln row) ((i:Int)+(j:Int))=i+j:=rZ;refine(rz,(rz,rz),(l1,l2),(rz,rz,?_),tT,row.set (i+j) (row[i+j]!+n*m),k6 j,k6 m,?_,?_)
   .exact nR (n:=9000) (m:=9000) (J n (V4 y)) (L m (V4 x))
   .rw[<-Z];rfl
   .have q:=Lb l S U;rw[getD_at' y,getD_at' x]at q;exact q
  .rintro u ⟨row,v,r,rfl,l⟩;exact(row,_,_,v,r,rz,MF l)
 .rintro u ⟨row,D,F,v,r,rfl,l⟩;have O:=row_end l;refine(((rz,rz,tT),z,row,rz,?_),?_)
  .rw[l.1];lia
  .show jy (row.map (pl z))=_;rw[O,o,p];rfl
def kj (z:Int)(fs:List (List Int)):List Int:=fs.foldl (λa f=>Tz z (jz a f)) [1]
theorem Ny {z:Int}{fs:List (List Int)}{i:Nat}{f:Li}(h:fs[i]?=so f):kj z (fs.take (i+1))=Tz z (jz (kj z (fs.take i)) f):=by unfold kj;rw[pY h,dP];rfl
theorem mV (fs:List (List Int)):(fs.map PV.ints).map mQ=fs:=by rw[bj];have:mQ ∘ PV.ints=id:=rfl;rw[this,cC]
def XH (z:Int)(fs:List (List Int)):Prop:=∀i f,fs[i]?=so f->ln (kj z (fs.take i))+ln f<=1000/\(∀m∈kj z (fs.take i),m.natAbs<2^9000)/\∀m∈f,m.natAbs<2^9000
def xQ:Ok P w K mg base 4 "product_of" ["kind","factors"] (T6 K (Gk cW cR cP) (λas=>∃z fs,as=[.ob 0 z,.lst (fs.map PV.ints)]/\0<=z/\z<((2^9000:Nat):Int)/\XH z fs) λs=>(λz D=>kj z (D.map mQ)) (zI s 0) (None s 1)):=by
 refine pX T.JH qF '!' (λf r A o s H E u=>(_,(jr (jG (i:=2) qF.nd rz k4 (jJ (j8 %[jt|_]))) (jr (vD (k:=3) aw rz (kJ (xv 1)) qF.nd rz k4 (jw (jG (i:=2) qF.nd rz k4 (jJ (m6 (pL T) u %[xv 0,xl 2,xl 3|_]))))) (jw (jB (xl 2))))),λas t=>?_))
 obtain⟨z,fs,rfl,x,l,ok⟩:=t;refine(((tT,tT),tT),λp d=>?_);have d:p=[1]:=d;refine jD (ρ':=[.fr (.ob 0 z),.fr (.lst (fs.map PV.ints)),k7 p,.un]) rz ?_;refine((rz,rz),λi m=>∃v,m=[.fr (.ob 0 z),.fr (.lst (fs.map PV.ints)),k7 (kj z (fs.take i)),v],(.un,by rw[d];rfl),?_,?_)
 .rintro i n m c ⟨v,rfl⟩;have c:(fs.map PV.ints)[i]?=so n:=c;rw[ag]at c;cases e:fs[i]? with
  |none=>rw[e]at c;cases c
  |some g=>rw[e]at c;have c:PV.ints g=n:=aJ c;subst c;obtain⟨y,B,C⟩:=ok i g e;refine(((rz,rz,rz,tT),z,_,g,rz,x,l,y,B,C),λq j=>?_);have j:q=Tz z (jz (Tz z (kj z (fs.take i))) (Tz z g)):=j;rw[DR,<-Ny e]at j;subst j;exact(_,rz)
 .rintro m ⟨v,rfl⟩;refine(rz,?_);show PV.ints (kj z (fs.take (ln (fs.map PV.ints))))=PV.ints (kj z ((fs.map PV.ints).map mQ));rw[ac,cw,mV]
def yP:Ok P w K mg base 3 "slope" ["kind","f"] (Ff K (Gk cW cR cP) (λas=>∃z f,as=[.ob 0 z,.ints f]/\ln f<=1000) λs=>(λz f=>jy (((f.mapIdx λk n=>(k:Int)*n).drop 1).map (pl z))) (zI s 0) (lI s 1)):=by
 refine GJ T.Yp UL '!' (λf d A o s H E i=>(_,(jw (mD (m6 (jL T) i %[xv 0,jJ (p7 (jJ (abW (N':=["at","number"]) (cap:=[]) (kW rz rz rz rz tT tT rz) rz (by rfl) T.mZ (xl 1) (λ_ _ _=>(pg_tup rz (pgs_cons (lO 0) (pgs_cons (lO 1) pgs_nil)))) (λ_ _ _=>(kO (xn 0) (xn 1))))) (lK jt) mW (λ_ _=>.inl rz))|_]))),λas g=>?_));obtain⟨z,f,rfl,c⟩:=g;refine(((rz,(((rz,c,λk n e=>(rz,rz,?_)),tT,tT),tT)),z,_,rz,?_),?_)
 .have j:k<ln f:=(ah.mp e).1;exact mX ((():-(2:Int)^64<(k:Int)),(():(k:Int)<(2:Int)^64))
 .refine aj (zr _ _ _) ?_;rw[fv];exact c
 .show jy ((qj (f.mapIdx λk n=>(k:Int)*n) (so ((1:Nat):Int)) none).map (pl z))=_;rw[Ia];rfl
open Classical in
def tu (n z:Int):Int:=if h:∃x:Int,0<=x/\x<z/\x*n % z=1 then Classical.choose h else 0
theorem Gf (k:2<=z)(h0:0<=x)(h:x<z)(c:x*n % z=1):tu n z=x:=by
 have a:∃x:Int,0<=x/\x<z/\x*n % z=1:=(x,h0,h,c);have e:tu n z=Classical.choose a:=by unfold tu;rw[jo a]
 obtain⟨d,f,g⟩:=fS a;rw[e];generalize Classical.choose a=y at d f g;have i:(y*(x*n)) % z=y:=by rw[fO,c,cG,Int.emod_emod,bx d f]
 have j:(x*(y*n)) % z=x:=by rw[fO,g,cG,Int.emod_emod,bx h0 h]
 exact(i.symm.trans (by rw[da y x n])).trans j
theorem sW (d:2<=z)(h:∃x:Int,0<=x/\x<z/\x*n % z=1):0<=tu n z/\tu n z<z/\tu n z*n % z=1:=by obtain⟨x,h0,a,c⟩:=h;rw[Gf d h0 a c];exact(h0,a,c)
theorem xZ (d:2<=z)(h:Int.gcd n z=1):∃x:Int,0<=x/\x<z/\x*n % z=1:=by
 have run:∀(m:Nat) (b r a s:Int),r.toNat<=m->Eu n z b r a s->∃x:Int,0<=x/\x<z/\x*n % z=1:=by
  intro m
  induction m with
  |zero=>
   intro b r a s f I;have:=I.r0;have e:r=0:=()
   subst e;have gc:=I.end;exact(a % z,a8 _ (),aV _ (),I.one d ())
  |succ m g=>
   intro b r a s f I;by_cases c:r=0
   .subst c;have gc:=I.end;exact(a % z,a8 _ (),aV _ (),I.one d ())
   .have i:=I.step c;have:=i.rb;have:=i.r0;have:=I.r0;exact g _ _ _ _ () i
 exact run _ _ _ _ _ (ao _) (Eu.start d)
def JQ (C:Addr):List PV->Rs:=λa=>match a with
 |[.int n,.int z]=>if Int.gcd n z=1 then .val (.int (tu n z)) else .err C
 |_=>.err C
theorem Ao {x z:Int}(h:(x.natAbs:Int)<=z)(a:z.natAbs<2^9000):x.natAbs<2^9000:=by
 generalize 2^9000=B at *
 lia
def Tu:OkE P w K mg base 1 "turned" ["number","size"] (spE K (Gk cW cR cP) (λas=>∃n z,as=[.int n,.int z]/\2<=z/\z.natAbs<2^9000) (JQ cNO)):=by
 refine okE T.UG mU '!' (λf Z A F s H E hr=>(_,(jr (jA (i:=2) mU.nd rz k4 (xn 1)) (jr (jA (i:=3) mU.nd rz k4 (jU (xn 0) (xn 1))) (jr (jA (i:=4) mU.nd rz k4 jt) (jr (jA (i:=5) mU.nd rz k4 jt) (jr (lD PassesOwn.leaving (vV (xn 3) jt) (jr (jA (i:=6) mU.nd rz k4 (nA (xn 2) (xn 3))) (jr (jA (i:=7) mU.nd rz k4 (lw (xn 2) (kO (xn 6) (xn 3)))) (jr (jA (i:=8) mU.nd rz k4 (lw (xn 4) (kO (xn 6) (xn 5)))) (jr (jA (i:=2) mU.nd rz k4 (xn 3)) (jr (jA (i:=3) mU.nd rz k4 (xn 7)) (jr (jA (i:=4) mU.nd rz k4 (xn 5)) (jw (jA (i:=5) mU.nd rz k4 (xn 8)))))))))) (jr (jX (vV (xn 2) jt) (jw (T3 adf rz T.Nm (by rfl) T.Ey %[O4|_])) jN) (jw (jB (jU (xn 4) (xn 1)))))))))),λas hp=>?_))
 obtain⟨n,z,rfl,D,e⟩:=hp;refine(rz,λa m=>?_);have m:a=z:=m;subst m;refine((rz,rz,(():0<a)),λO B=>?_);have B:O=n % a:=B;refine(tT,λz0 C=>?_);have C:z0=0:=C;subst C;refine(tT,λo0 x=>?_);have x:o0=1:=x;subst x;refine(λl=>∃b r g s o U j,l=[k6 n,k6 a,k6 b,k6 r,k6 g,k6 s,o,U,j]/\Eu n a b r g s,λl=>(vQ l 3).toNat,(a,O,0,1,.un,.un,.un,rz,by rw[B];exact Eu.start D),?_);rintro l ⟨b,r,g,s,o,U,j,rfl,I⟩;have sm:=I.id;have sbz:=I.bz;have rlt:=I.rb;have G:=I.r0;have s9:s.natAbs<2^9000:=Ao (z:=a) (by
  have h1:(s.natAbs:Int)*1<=(s.natAbs:Int)*b:=aH () ();have h2:0<=(g.natAbs:Int)*r:=eO () G;lia) e
 have S:r.natAbs<2^9000:=Ao (z:=a) () e;refine((rz,tT),λc=>?_,λc=>?_)
 .have c:¬r=0:=c;have q0:0<=b / r:=gy () ();have q1:b / r<=b:=Int.ediv_le_self _ ();have N:(b / r).natAbs<2^9000:=Ao (z:=a) () e;refine((rz,rz,(():0<r),(gw (():r.natAbs≠0)).mpr S),λq y=>?_);have y:q=b / r:=y;subst y;refine((rz,rz,rz,nR N S),λQ L=>?_);refine((rz,rz,rz,nR N s9),λY M=>?_);have f1:Q=b-b / r*r:=L;have f2:Y=g-b / r*s:=M;clear L M;refine(rz,λJ v=>?_);have v:J=r:=v;subst v;refine(rz,λR p=>?_);have p:R=Q:=p;subst p;refine(rz,λs2 t=>?_);have t:s2=s:=t;subst t;refine(rz,λs3 u=>?_);have u:s3=Y:=u;subst u;have k:=I.step c;rw[<-f1,<-f2]at k;refine((_,_,_,_,_,_,_,rz,k),?_);show R.toNat<J.toNat;have:=k.rb;have:=k.r0;lia
 .have c:¬¬r=0:=c;have c:r=0:=()
  subst c;have gc:=I.end;refine((rz,tT),λd=>?_,λd=>?_)
  .have d:¬b=1:=d;refine((tT,tT),?_);show JQ cNO [.int n,.int a]=.err cNO;show(if Int.gcd n a=1 then _ else _)=_;rw[aF ()]
  .have d:¬¬b=1:=d;have d:b=1:=()
   refine((rz,rz,(():0<a)),?_);show JQ cNO [.int n,.int a]=.val (.int (g % a));show(if Int.gcd n a=1 then _ else _)=_;rw[aL (),Gf D (a8 _ ()) (aV _ ()) (I.one D d)]
theorem JF (z a b:Int):pl z a=pl z b ↔ z ∣ a-b:=by
 unfold pl;split
 .rename_i h;subst h;rw[jj];lia
 .rw[c6,Int.dvd_iff_emod_eq_zero]
theorem wV (c:pl z a=a)(d:pl z b=b)(h:z ∣ a-b):a=b:=by rw[<-c,<-d];exact(JF z a b).mpr h
theorem nQ (z a:Int):z ∣ pl z a-a:=(JF z _ _).mp (uf z a)
def jx (xs:List Int):Int:=xs[ln xs-1]!
theorem Ek:∀{N:Nat},(∀j,j<N->z ∣ f j)->z ∣ sm N f
 |0,_=>bK z
 |N+1,h=>br (Ek λj a=>h j ()) (h N ())
theorem Vq:∀{N:Nat},i<N->(∀j,j<N->j≠i->z ∣ f j)->z ∣ sm N f-f i
 |0,h,_=>()
 |N+1,h,k=>by
  show z ∣ sm N f+f N-f i;by_cases c:i=N
  .subst c;have e:sm i f+f i-f i=sm i f:=()
   rw[e];exact Ek λj d=>k j () ()
  .have e:sm N f+f N-f i=(sm N f-f i)+f N:=()
   rw[e];exact br (Vq () λj d a=>k j () a) (k N () ())
theorem Xi:∀{N:Nat},(∀i,i<N->i≠k->f i=g i)->sm N f=sm N g+if k<N then f k-g k else 0
 |0,_=>by rw[aF ()];rfl
 |N+1,h=>by
  show sm N f+f N=sm N g+g N+_;rw[Xi (f:=f) (g:=g) (k:=k) λi e a=>h i () a];by_cases c:k=N
  .subst c;rw[aF (),aL ()];lia
  .rw[h N () ()];by_cases d:k<N
   .rw[aL d,aL ()];lia
   .rw[aF d,aF ()];lia
theorem Vu (g:0<ln d)(u:∀j,i<j->z ∣ E[j]!):z ∣ cm E d (i+(ln d-1))-E[i]!*jx d:=by
 have h:=Vq (z:=z) (f:=λj=>E[j]!*d[i+(ln d-1)-j]!) (i:=i) (N:=i+(ln d-1)+1) () λj k a=>by
  rcases Nat.lt_or_gt_of_ne a with c|c
  .rw[jH (show ln d<=i+(ln d-1)-j by lia),aX];exact bK z
  .exact bM (u j c)
 have e:i+(ln d-1)-i=ln d-1:=()
 rw[e]at h;exact h
theorem aci (e:0<ln d)(nz:∀x,z ∣ x*jx d->z ∣ x)(h:∀n,S+(ln d-1)<=n->z ∣ cm E d n):∀i,S<=i->z ∣ E[i]!:=by
 have a:∀k i,S<=i->ln E<=i+k->z ∣ E[i]!:=by
  intro k
  induction k with
  |zero=>intro i _ f;rw[jH ()];exact bK z
  |succ k g=>intro i c f;have one:=Vu (z:=z) (E:=E) e (i:=i) λj l=>g j () ();refine nz _ ?_;have:=fH (h (i+(ln d-1)) ()) one;rw[Int.sub_sub_self]at this;exact this
 exact λi c=>a (ln E) i c ()
theorem aa4 (a:g<ln q)(h0:q[g]! =0)(n:Nat):cm (q.set g c) d n=cm q d n+if g<=n then c*d[n-g]! else 0:=by
 unfold cm;rw[Xi (f:=λi=>(q.set g c)[i]!*d[n-i]!) (g:=λi=>q[i]!*d[n-i]!) (k:=g) λi e h=>by
  rw[oY _ _ _ _ a,aF h]]
 congr 1;by_cases k:g<n+1
 .rw[aL k,aL ()];rw[oY _ _ _ _ a,aL rz,h0];lia
 .rw[aF k,aF ()]
def q8 (a b:List Int):List Int:=(ss (max (ln a) (ln b))).map λi=>a[i]!-b[i]!
theorem oO (a b:Li)(n:Nat):(q8 a b)[n]! =a[n]!-b[n]!:=by
 unfold q8;by_cases h:n<max (ln a) (ln b)
 .rw[lC (by rw[ac,aC];exact h),cA,cq]
 .rw[jH (by rw[ac,aC];lia),jH (xs:=a) (),jH (xs:=b) ()];rfl
theorem Vj (f g:Nat->Int):∀N,sm N (λi=>f i-g i)=sm N f-sm N g
 |0=>rfl
 |N+1=>by show sm N (λi=>f i-g i)+(f N-g N)=sm N f+f N-(sm N g+g N);rw[Vj f g N];lia
theorem Fe (a b d:Li)(n:Nat):cm (q8 a b) d n=cm a d n-cm b d n:=by unfold cm;rw[<-Vj];exact kY λi _=>by rw[oO,ie]
theorem yV {xs:Li}{L:Nat}(a:j9 xs)(h:∀n,L<=n->xs[n]! =0):ln xs<=L:=by
 by_cases c:ln xs<=L
 .exact c
 .exact absurd (h (ln xs-1) ()) (a λe=>by rw[e]at c;exact c (bp _))
def wF (z:Int)(d r:List Int)(c:Int):List Int:=jy ((ss (ln r)).map λn=>if ln r-ln d<=n then pl z (r[n]!-c*d[n-(ln r-ln d)]!) else r[n]!)
theorem Av (a:ln d<=ln r)(n:Nat):(wF z d r c)[n]! =if ln r-ln d<=n then pl z (r[n]!-c*d[n-(ln r-ln d)]!) else r[n]!:=by
 unfold wF;rw[qJ];by_cases h:n<ln r
 .rw[lC (by rw[ac,aC];exact h),cA,cq]
 .rw[jH (by rw[ac,aC];lia),aL (),jH (xs:=r) (),jH (xs:=d) (),aX,dR,oA]
def Sv (z:Int)(ov:Int->Int->Option Int)(d:List Int):Nat->List Int->List Int->Option (List Int×List Int)
 |0,q,r=>so (q,r)
 |n+1,q,r=>if ln r<ln d then so (q,r) else match ov (jx r) (jx d) with
  |none=>none
  |some c=>Sv z ov d n (q.set (ln r-ln d) c) (wF z d r c)
structure yd (z:Int)(f d q r:List Int):Prop where
 eq:∀n,z ∣ cm q d n+r[n]!-f[n]!
 rr:∀n,pl z r[n]! =r[n]!
 rf:j9 r
 qr:∀n,pl z q[n]! =q[n]!
 ql:ln q=ln f+1-ln d
 rl:ln r<=ln f
 q0:∀n,n+ln d<=ln r->q[n]! =0
 qt:ln r<ln f->q[ln f-ln d]!≠0
theorem yd.start (a:j9 f)(c:∀n,pl z f[n]! =f[n]!):yd z f d (sP (ln f+1-ln d) 0) f:=by
 have g:∀n,(sP (ln f+1-ln d) (0:Int))[n]! =0:=λn=>by
  by_cases h:n<ln f+1-ln d
  .rw[lC (by rw[aR];exact h),fG]
  .rw[jH (by rw[aR];lia)]
 refine(λn=>?_,c,a,λn=>?_,aR,ao _,λn _=>g n,λh=>absurd h (cE _))
 .have e:cm (sP (ln f+1-ln d) 0) d n=0:=wR λi _=>by rw[g,bX]
  rw[e];have:(0:Int)+f[n]!-f[n]! =0:=()
  rw[this];exact bK z
 .rw[g,oA]
theorem yd.step {z:Int}{f d q r:Li}{c:Int}(I:yd z f d q r)(y:0<ln d)(hl:ln d<=ln r)(g:pl z (c*jx d)=jx r)(t:pl z c=c):yd z f d (q.set (ln r-ln d) c) (wF z d r c)/\ln (wF z d r c)<ln r:=by
 have a:ln r-ln d<ln q:=by rw[I.ql];have:=I.rl;lia
 have h0:q[ln r-ln d]! =0:=I.q0 _ ();have j:r≠[]:=λe=>by rw[e]at hl;exact absurd hl (():¬ln d<=0)
 have x:jx r≠0:=I.rf j;have i:c≠0:=λe=>by rw[e,bX,oA]at g;exact x g.symm
 have h:ln (wF z d r c)<ln r:=by
  have:ln (wF z d r c)<=ln r-1:=by
   refine yV (lW _) λn o=>?_;rw[Av hl,aL ()];by_cases k:n=ln r-1
   .subst k;have m:ln r-1-(ln r-ln d)=ln d-1:=()
    rw[m];show pl z (jx r-c*jx d)=0;rw[<-oA z];refine(JF z _ _).mpr ?_;have l:=nQ z (c*jx d);rw[g]at l;rw[dR];exact l
   .rw[jH (xs:=r) (),jH (xs:=d) (),aX,dR,oA]
  lia
 refine((λn=>?_,λn=>?_,lW _,λn=>?_,by rw[bn];exact I.ql,by have:=I.rl;lia,λn o=>?_,λ_=>?_),h)
 .rw[aa4 a h0,Av hl];have e:=I.eq n;by_cases k:ln r-ln d<=n
  .rw[aL k,aL k];have p:=nQ z (r[n]!-c*d[n-(ln r-ln d)]!);have s:=br e p;generalize pl z (r[n]!-c*d[n-(ln r-ln d)]!)=u at s ⊢;generalize c*d[n-(ln r-ln d)]! =v at s ⊢;have q:cm q d n+v+u-f[n]! =cm q d n+r[n]!-f[n]!+(u-(r[n]!-v)):=()
   rw[q];exact s
  .rw[aF k,aF k,bJ];exact e
 .rw[Av hl];split
  .exact uf z _
  .exact I.rr n
 .rw[oY _ _ _ _ a];split
  .exact t
  .exact I.qr n
 .rw[oY _ _ _ _ a,aF ()];exact I.q0 n ()
 .rw[oY _ _ _ _ a];split
  .exact i
  .have:=I.rl;exact I.qt ()
theorem Jo (j:0<ln d)(hov:∀a c,pl z a=a->ov a (jx d)=so c->pl z (c*jx d)=a/\pl z c=c):∀(g:Nat) (q r:Li),yd z f d q r->ln r<g ->
  (∀Q R,Sv z ov d g q r=so (Q,R)->yd z f d Q R/\ln R<ln d)/\(Sv z ov d g q r=none->∃m i,yd z f d m i/\ln d<=ln i/\ov (jx i) (jx d)=none)
 |0,_,_,_,h=>()
 |n+1,q,r,I,h=>by
  unfold Sv;by_cases c:ln r<ln d
  .rw[aL c];refine(λQ R e=>?_,λe=>by cases e);cases e;exact(I,c)
  .rw[aF c];cases o:ov (jx r) (jx d) with
   |none=>exact((λQ R e=>by cases e),λ_=>(q,r,I,(),o))
   |some x=>obtain⟨k,l⟩:=hov (jx r) x (I.rr _) o;obtain⟨J,p⟩:=I.step j () k l;exact Jo j hov n _ _ J ()
theorem Yt (k:0<ln d)(hov:∀a c,pl z a=a->ov a (jx d)=so c->pl z (c*jx d)=a/\pl z c=c)(nz:∀x,z ∣ x*jx d->z ∣ x)
  (G:∀a e,pl z a=a->z ∣ a-e*jx d->ov a (jx d)≠none) (Z:j9 f) (A:∀n,pl z f[n]! =f[n]!) (N:j9 Q) (v:∀n,pl z Q[n]! =Q[n]!) (O:j9 R) (y:∀n,pl z R[n]! =R[n]!) (U:ln R<ln d)
  (Y:∀n,z ∣ cm Q d n+R[n]!-f[n]!) (B:ln f<fuel):Sv z ov d fuel (sP (ln f+1-ln d) 0) f=so (Q,R):=by
 obtain⟨L,M⟩:=Jo k hov fuel _ _ (yd.start (d:=d) Z A) B;have g:∀q r,yd z f d q r->∀n,z ∣ cm (q8 Q q) d n-(r[n]!-R[n]!):=λq r I n=>by
  have:=fH (Y n) (I.eq n);rw[Fe];have e:cm Q d n-cm q d n-(r[n]!-R[n]!)=cm Q d n+R[n]!-f[n]!-(cm q d n+r[n]!-f[n]!):=()
  rw[e];exact this
 cases o:Sv z ov d fuel (sP (ln f+1-ln d) 0) f with
 |none=>
  exfalso;obtain⟨q,r,I,hl,no⟩:=M o;have h:=g q r I;have zero:∀n,ln r<=n->z ∣ cm (q8 Q q) d n:=λn D=>by have:=h n;rw[jH (xs:=r) D,jH (xs:=R) ()]at this;simpa using this
  have C:=aci (E:=q8 Q q) (S:=ln r-ln d+1) k nz λn D=>zero n ();have t:=Vu (z:=z) (E:=q8 Q q) k (i:=ln r-ln d) λj hj=>C j ();have l:ln r-ln d+(ln d-1)=ln r-1:=()
  rw[l]at t;have s:=h (ln r-1);rw[jH (xs:=R) (),dR]at s;refine G (jx r) ((q8 Q q)[ln r-ln d]!) (I.rr _) ?_ no;have u:=fH t s;have m:cm (q8 Q q) d (ln r-1)-(q8 Q q)[ln r-ln d]!*jx d-(cm (q8 Q q) d (ln r-1)-r[ln r-1]!)=jx r-(q8 Q q)[ln r-ln d]!*jx d:=by unfold jx;lia
  rw[m]at u;exact u
 |some p=>
  obtain⟨q,r⟩:=p;obtain⟨I,hl⟩:=L q r o;have h:=g q r I;have C:=aci (E:=q8 Q q) (S:=0) k nz λn D=>by have:=h n;rw[jH (xs:=r) (),jH (xs:=R) ()]at this;simpa using this
  have H:∀n,Q[n]! =q[n]!:=λn=>wV (v n) (I.qr n) (by have:=C n (bp _);rw[oO]at this;exact this);have qf:j9 q:=λF=>by
   have l1:=lP F;have e:=I.ql;have m:ln q-1=ln f-ln d:=()
   rw[m];exact I.qt ()
  have l:Q=q:=mK N qf H;subst l;have J:∀n,R[n]! =r[n]!:=λn=>wV (y n) (I.rr n) (by
   have:=h n;have z0:cm (q8 Q Q) d n=0:=by rw[Fe];lia
   rw[z0]at this;have e:R[n]!-r[n]! =0-(r[n]!-R[n]!):=()
   rw[e];exact this)
  rw[mK O I.rf J]
def Af (z:Int)(d r:List Int)(c:Int)(i:Nat)(row:List Int):Prop:=ln row=ln r/\∀n,row[n]! =if ln r-ln d<=n/\n-(ln r-ln d)<i then pl z (r[n]!-c*d[n-(ln r-ln d)]!) else r[n]!
theorem Qk (z:Int)(d r:Li)(c:Int):Af z d r c 0 r:=(rz,λn=>by rw[aF ()])
theorem T8 (h:Af z d r c i row)(hl:ln d<=ln r)(f:i<ln d):Af z d r c (i+1) (row.set (ln r-ln d+i) (pl z (row[ln r-ln d+i]!-c*d[i]!))):=by
 obtain⟨e,a⟩:=h;refine(by rw[bn];exact e,λn=>?_);rw[oY _ _ _ _ ()];by_cases k:n=ln r-ln d+i
 .subst k;rw[aL rz,aL (),a,aF (),show ln r-ln d+i-(ln r-ln d)=i by lia]
 .rw[aF k,a];by_cases q:ln r-ln d<=n/\n-(ln r-ln d)<i
  .rw[aL q,aL ()]
  .rw[aF q,aF ()]
theorem U8 (h:Af z d r c (ln d) row)(hl:ln d<=ln r):jy row=wF z d r c:=by
 unfold wF;refine Ku λn=>?_;rw[h.2 n];by_cases k:n<ln r
 .rw[lC (xs:=(ss (ln r)).map _) (by rw[ac,aC];exact k),cA,cq];by_cases q:ln r-ln d<=n
  .rw[aL (q,()),aL q]
  .rw[aF (),aF q]
 .rw[jH (xs:=(ss (ln r)).map _) (by rw[ac,aC];lia),aF (),jH ()]
theorem lQ (z:Int)(f:Li):j9 (Tz z f):=lW _
theorem o6 (z:Int)(f:Li)(n:Nat):pl z ((Tz z f)[n]!)=(Tz z f)[n]!:=by rw[kZ,uf]
theorem nW (ns:Li)(h:0<ln ns):ns[j6 (ln ns) (-1)]! =jx ns:=by
 have e:j6 (ln ns) (-1)=ln ns-1:=by unfold j6;rw[aF ()];lia
 rw[e];rfl
theorem Aa (f g:Nat->Int):∀N,sm N (λi=>f i+g i)=sm N f+sm N g
 |0=>rfl
 |N+1=>by show sm N (λi=>f i+g i)+(f N+g N)=sm N f+f N+(sm N g+g N);rw[Aa f g N];lia
theorem uV (l:Int)(f:Nat->Int):∀n,sm n (λi=>l*f i)=l*sm n f
 |0=>(aX l).symm
 |n+1=>by show sm n (λi=>l*f i)+l*f n=l*(sm n f+f n);rw[uV l f n,gz]
theorem sI (o:Int)(q d:Li)(i:Nat):cm (o::q) d i=o*d[i]!+if i=0 then 0 else cm q d (i-1):=by
 unfold cm;rw[rC];have e:((o::q)[0]!:Int)=o:=rfl;rw[e,jf];congr 1;by_cases c:i=0
 .subst c;rfl
 .rw[aF c];obtain⟨k,rfl⟩:∃k,i=k+1:=(i-1,());refine kY λj h=>?_;have a:((o::q)[j+1]!:Int)=q[j]!:=rfl;have f:k+1-(j+1)=k-j:=()
  have g:k+1-1-j=k-j:=()
  rw[a,f,g]
theorem oG (d:Li)(n:Nat):cm [] d n=0:=wR λi _=>by rw[jH (bp _),bX]
theorem Ro (h:∀n,f[n]! =0)(n:Nat):cm f g n=0:=wR λi _=>by rw[h i,bX]
theorem uP (h:∀n,f[n]! =f'[n]!)(k:∀n,g[n]! =g'[n]!)(n:Nat):cm f g n=cm f' g' n:=kY λi _=>by rw[h,k]
theorem ZD (l:∀i,a[i]! =o*g[i]!+if i=0 then 0 else u[i-1]!)(n:Nat):cm a h n=o*cm g h n+if n=0 then 0 else cm u h (n-1):=by
 unfold cm;have e:sm (n+1) (λi=>a[i]!*h[n-i]!)=sm (n+1) λi=>o*(g[i]!*h[n-i]!)+(if i=0 then 0 else u[i-1]!)*h[n-i]!:=kY λi _=>by rw[l,eS,bQ]
 rw[e,Aa,uV];congr 1;rw[rC];have d:(if (0:Nat)=0 then(0:Int) else u[0-1]!)*h[n-0]! =0:=by rw[aL rz,bX]
 rw[d,eE];by_cases c:n=0
 .subst c;rfl
 .rw[aF c];obtain⟨k,rfl⟩:∃k,n=k+1:=(n-1,());refine kY λj _=>?_;have f:k+1-(j+1)=k+1-1-j:=()
  rw[aF (),f];rfl
theorem ni (g h:Li):∀(f:Li) (n:Nat),cm (jz f g) h n=cm f (jz g h) n
 |[],n=>by rw[oG,Ro];intro i;rw[jC,oG]
 |o::q,n=>by
  rw[sI,ZD (u:=jz q g) (g:=g) (o:=o) (λi=>by
   rw[jC,sI];congr 1;by_cases c:i=0
   .rw[aL c,aL c]
   .rw[aF c,aF c,jC])]
  rw[jC];congr 1;by_cases c:n=0
  .rw[aL c,aL c]
  .rw[aF c,aF c,ni g h q]
def mu (f g:List Int):List Int:=jy (jz f g)
def mJ (p:Int)(d a b:List Int):Prop:=∃Q:List Int,∀n,p ∣ a[n]!-b[n]!-cm Q d n
theorem mJ.refl (p:Int)(d a:Li):mJ p d a a:=([],λn=>by rw[oG,cQ];exact bK p)
theorem mJ.of (h:∀n,p ∣ a[n]!-b[n]!):mJ p d a b:=([],λn=>by rw[oG,dR];exact h n)
theorem uM (a b d:Li)(n:Nat):cm (lJ a b) d n=cm a d n+cm b d n:=by unfold cm;rw[<-Aa];exact kY λi _=>by rw[mL,eS]
theorem abX (a d:Li)(n:Nat):cm (a.map λx=>-x) d n = -cm a d n:=by have h:=uV (-1) (λi=>a[i]!*d[n-i]!) (n+1);unfold cm;rw[iJ]at h;rw[<-h];exact kY λi _=>by rw[qg _ (()),iJ,Int.neg_mul]
theorem mJ.symm (h:mJ p d a b):mJ p d b a:=by
 obtain⟨Q,h⟩:=h;refine(Q.map λx=>-x,λn=>?_);rw[abX];have e:b[n]!-a[n]! - -cm Q d n = -(a[n]!-b[n]!-cm Q d n):=()
 rw[e];exact bF.mpr (h n)
theorem mJ.trans (h:mJ p d a b)(k:mJ p d b c):mJ p d a c:=by
 obtain⟨Q,h⟩:=h;obtain⟨S,k⟩:=k;refine(lJ Q S,λn=>?_);rw[uM];have e:a[n]!-c[n]!-(cm Q d n+cm S d n)=(a[n]!-b[n]!-cm Q d n)+(b[n]!-c[n]!-cm S d n):=()
 rw[e];exact br (h n) (k n)
theorem wL (h:∀n,p ∣ a[n]!-b[n]!)(n:Nat):p ∣ cm a c n-cm b c n:=by rw[<-Fe];exact Ek λi _=>by rw[oO];exact bM (h i)
theorem mJ.mul (h:mJ p d a b)(c:Li):mJ p d (jz a c) (jz b c):=by
 obtain⟨Q,h⟩:=h;refine(jz Q c,λn=>?_);have k:=wL (p:=p) (a:=q8 a b) (b:=jz Q d) (c:=c) (λi=>by rw[oO,jC];exact h i) n;rw[Fe]at k;have e:cm (jz Q c) d n=cm (jz Q d) c n:=by rw[ni,ni];exact uP (λ_=>rz) (λi=>by rw[jC,jC,lB]) n
 rw[jC,jC,e];exact k
theorem mJ.comm (p:Int)(d a b:Li):mJ p d (jz a b) (jz b a):=.of λn=>by rw[jC,jC,lB,cQ];exact bK p
theorem mJ.abF (h:mJ p d a b)(k:mJ p d c e):mJ p d (jz a c) (jz b e):=
 (h.mul c).trans (((mJ.comm p d b c).trans (k.mul b)).trans (mJ.comm p d e b))
theorem mJ.aaB (p:Int)(d a b c:Li):mJ p d (jz (jz a b) c) (jz a (jz b c)):=.of λn=>by rw[jC,jC,ni,cQ];exact bK p
theorem mJ.Tz (p:Int)(d a:Li):mJ p d a (FM.Tz p a):=.of λn=>by
 rw[kZ];have:=nQ p a[n]!;have e:a[n]!-pl p a[n]! = -(pl p a[n]!-a[n]!):=()
 rw[e];exact bF.mpr this
theorem mJ.one (p:Int)(d a:Li):mJ p d (jz a [1]) a:=.of λn=>by
 rw[jC,lB,sI];by_cases c:n=0
 .rw[aL c,bw,bJ,cQ];exact bK p
 .rw[aF c,oG,bw,bJ,cQ];exact bK p
theorem mJ.by (m:∀n,p ∣ d[n]!-l*e[n]!)(h:mJ p d a b):mJ p e a b:=by
 obtain⟨Q,h⟩:=h;refine(Q.map λx=>l*x,λn=>?_);have k:=wL (p:=p) (a:=d) (b:=e.map λx=>l*x) (c:=Q) (λi=>by rw[qg _ (aX l)];exact m i) n;have g:cm (Q.map λx=>l*x) e n=cm (e.map λx=>l*x) Q n:=by
  have f:∀u v:List Int,cm (u.map λx=>l*x) v n=l*cm u v n:=λu v=>by unfold cm;rw[<-uV];exact kY λi _=>by rw[qg _ (aX l),bQ]
  rw[f,f,lB]
 rw[g];have j:a[n]!-b[n]!-cm (e.map λx=>l*x) Q n=(a[n]!-b[n]!-cm Q d n)+(cm d Q n-cm (e.map λx=>l*x) Q n):=by rw[lB Q d];lia
 rw[j];exact br (h n) k
structure Uo (p:Int)(d r:List Int):Prop where
 form:j9 r
 red:∀n,pl p r[n]! =r[n]!
 len:ln r<ln d
theorem Gd (nz:∀x,p ∣ x*jx d->p ∣ x)(a:Uo p d r)(f:Uo p d s)(h:mJ p d r s):r=s:=by
 obtain⟨Q,h⟩:=h;have g:0<ln d:=aK (bp _) a.len;have l:=a.len;have m:=f.len;have top:=aci (z:=p) (E:=Q) (S:=0) g nz λn j=>by
  have:=h n;rw[jH (xs:=r) (),jH (xs:=s) ()]at this;have e:(0:Int)-0-cm Q d n = -cm Q d n:=()
  rw[e]at this;exact bF.mp this
 refine mK a.form f.form λn=>wV (a.red n) (f.red n) ?_;have k:=h n;have c:p ∣ cm Q d n:=Ek λi _=>bM (top i (bp _));have e:r[n]!-s[n]! =(r[n]!-s[n]!-cm Q d n)+cm Q d n:=()
 rw[e];exact br k c
open Classical in
def rm (p:Int)(d a:List Int):List Int:=if h:∃r,Uo p d r/\mJ p d a r then Classical.choose h else[]
theorem Hq (nz:∀x,p ∣ x*jx d->p ∣ x)(f:Uo p d r)(h:mJ p d a r):rm p d a=r:=by
 have c:∃r,Uo p d r/\mJ p d a r:=(r,f,h);have e:rm p d a=Classical.choose c:=by unfold rm;rw[jo c]
 obtain⟨g,i⟩:=fS c;rw[e];exact Gd nz g f (i.symm.trans h)
def pw (a:List Int):Nat->List Int
 |0=>[1]
 |k+1=>jz (pw a k) a
theorem pw_mod (h:mJ p d a b):∀k,mJ p d (pw a k) (pw b k)
 |0=>.refl p d [1]
 |k+1=>(pw_mod h k).abF h
theorem pw_sq (p:Int)(d a:Li):∀k,mJ p d (pw (jz a a) k) (pw a (2*k))
 |0=>.refl p d [1]
 |k+1=>by
  have e:2*(k+1)=2*k+1+1:=()
  rw[e];exact((pw_sq p d a k).mul _).trans (mJ.aaB p d _ a a).symm
theorem pw_even {p:Int}{d P S s:Li}{h:Nat}(a:mJ p d s (jz S S)):mJ p d (jz P (pw s h)) (jz P (pw S (2*h))):=
 (mJ.refl p d P).abF ((pw_mod a h).trans (pw_sq p d S h))
def W3:Int->List Int->Prop:=λz n=>match n with
 |[a,b]=>b.natAbs<2^9000/\(z=0\/(2<=z/\z.natAbs<2^9000/\a.natAbs<2^9000))
 |_=>False
def zA (C:Addr):Int->List Int->Int ⊕ Addr:=λz n=>match n with
 |[a,b]=>if z=0 then(if b=0\/¬a.fmod b=0 then .inr C else .inl (a.fdiv b)) else(if Int.gcd b z=1 then .inl (pl z (a*tu b z)) else .inr C)
 |_=>.inr C
theorem adD {C:Addr}{x y:Int}(h:y=0\/¬x.fmod y=0):zA C 0 [x,y]=.inr C:=by unfold zA;exact(aL (rfl:(0:Int)=0)).trans (aL h)
theorem abD {C:Addr}{x y:Int}(h:¬(y=0\/¬x.fmod y=0)):zA C 0 [x,y]=.inl (x.fdiv y):=by unfold zA;exact(aL (rfl:(0:Int)=0)).trans (aF h)
theorem Xv {C:Addr}{z x y:Int}(h:z≠0)(g:Int.gcd y z=1):zA C z [x,y]=.inl (pl z (x*tu y z)):=(aF h).trans (aL g)
theorem aes {C:Addr}{z x y:Int}(h:z≠0)(g:¬Int.gcd y z=1):zA C z [x,y]=.inr C:=(aF h).trans (aF g)
theorem aeP {n:Int}(h:n.natAbs<2^9000):n.natAbs.log2<9000:=by
 by_cases c:n.natAbs=0
 .rw[c];decide
 .exact(gw c).mpr h
def zG:KME P w K mg base 2 (Yi cW cR cP) "over" 2 W3 (zA cNO):=by
 refine⟨λH a z ka=>?_⟩;obtain⟨C,dx,fs,e,hC,hz,hm⟩:=id ka;rcases hC with⟨q,q0⟩|⟨q,q0⟩
 .subst q q0;refine(C,dx,fs,["self","a","b"],e,hm "over" (by decide +kernel),?_);obtain⟨f,R,G,b,m1⟩:=T.GF;refine(f,R,?_,b,m1,T.uh);obtain⟨oc,od,kV,M,pm,an,L,ct,osl,rfl,lk,i⟩:=G.ex;refine fn_of lk i Dt (λvs H Q E h=>?_) λA o s H vs Q E Z h=>?_
  .obtain⟨t,hl,rfl,_⟩:=h;show ln (t.map V.int)+1=3;rw[ac,hl]
  obtain⟨t,hl,rfl,_,d,k,ke⟩:=h;obtain⟨x,y,rfl⟩:=Y5 hl;obtain⟨hy,_⟩:=d;refine(_,(pss_cons (Am (pw_orP (VH (lu 2) qO) (pw_or1P (abz (Q8 op_modN (lu 1) (lu 2)) qO))).pt (pss_one (KJ adf rz T.Nm (by rfl) T.Ey (pa_cons pe_str pa_nil) (hl:=λ_ _ _ h=>(rz,h)))) pss_nil) (pss_one (ps_ret (Q8 WW (lu 1) (lu 2))))),?_);refine(((rz,tT),λr=>((rz,rz,r),tT)),λr=>?_,λr=>?_)
  .have r:y=0\/¬x.fmod y=0:=r;exact ke cNO (adD r) H (Same.refl H)
  .have r:¬(y=0\/¬x.fmod y=0):=r;refine((rz,rz,λz=>r (.inl z),aeP hy),?_);exact k _ (abD r) H (Same.refl H)
 .obtain⟨f,R,G,b,m1,m2⟩:=T.Ml;have mc:Meth K C "over" f/\Cls K C:=by
   rcases q with q|q
   .rw[q];exact(m1,T.su)
   .rw[q];exact(m2,T.pq)
  refine(C,dx,fs,["self","a","b"],e,hm "over" (by decide +kernel),f,R,?_,b,mc.1,mc.2);obtain⟨oc,od,kV,M,pm,an,L,ct,osl,rfl,lk,i⟩:=G.ex;refine fn_of lk i JS (λvs H Q E h=>?_) λA o s H vs Q E Z h=>?_
  .obtain⟨t,hl,rfl,_⟩:=h;show ln (t.map V.int)+1=3;rw[ac,hl]
  obtain⟨t,hl,rfl,j,d,k,ke⟩:=h;obtain⟨x,y,rfl⟩:=Y5 hl;obtain⟨hy,u⟩:=d;obtain⟨hz2,h9,hx⟩:2<=z/\z.natAbs<2^9000/\x.natAbs<2^9000:=by
   rcases u with u|u
   .lia
   .exact u
  obtain⟨F,N,S,e2,Y,hz',_⟩:=id j;have l:Cls K F/\NoAttr K F "size":=by
   rcases Y with⟨_,q⟩|⟨q|q,_⟩
   .lia
   .rw[q];exact(T.su,T.qD)
   .rw[q];exact(T.pq,T.pP)
  obtain⟨C3,O,U,ps3,e3,l3,M3⟩:=(qL (P:=P) (w:=w) (base:=base) T).ex H a z j;obtain⟨f3,fd3,F3,b3,mm3,c3⟩:=M3.ex;refine(_,(pss_one (ps_ret (pe_meth (pv 0) c3 mm3 F3 Z b3 .nil pass0 (pa_cons (pe_op Jb (lu 1) (X4 (Tu T) ac6 Z (pa_cons (lu 2) (pa_cons (pe_fld (pv 0) rz) pa_nil)))) pa_nil)))),?_);refine(_,rz,a,O,U,rz,e3,l3,rz,rz,_,rz,a,F,N,S,_,rz,e2,l.1,l.2,hz',[.int y,.int z],λ_=>false,(λ_ z=>by cases z),(_,_,rz,rz,_,_,rz,rz,rz),(y,z,rz,hz2,h9),λp d v I D J=>?_,λer c I D=>?_)
  .have d:JQ cNO [.int y,.int z]=.val p:=d;by_cases g:Int.gcd y z=1
   .rw[show JQ cNO [.int y,.int z]=.val (.int (tu y z)) from aL g]at d;cases d;have J:v=.int (tu y z):=J;subst J;obtain⟨t0,t1,_⟩:=sW hz2 (xZ hz2 g);have tb:(tu y z).natAbs<2^9000:=by
     generalize 2^9000=B at *
     lia
    refine(x,tu y z,rz,rz,nR (n:=9000) (m:=9000) hx tb,[x*tu y z],rz,rz,j.same D,tT,?_);exact k _ (Xv () g) I D
   .rw[show JQ cNO [.int y,.int z]=.err cNO from aF g]at d;cases d
  .have c:JQ cNO [.int y,.int z]=.err er:=c;by_cases g:Int.gcd y z=1
   .rw[show JQ cNO [.int y,.int z]=.val (.int (tu y z)) from aL g]at c;cases c
   .rw[show JQ cNO [.int y,.int z]=.err cNO from aF g]at c;cases c;exact ke cNO (aes () g) I D
def Yc (z a b:Int):Option Int:=so (pl z (a*tu b z))
theorem hov (d:2<=z)(g:Int.gcd b z=1)(a c:Int)(i:pl z a=a)(h:Yc z a b=so c):pl z (c*b)=a/\pl z c=c:=by
 have e:=aJ h;subst e;obtain⟨_,_,t⟩:=sW d (xZ d g);refine(?_,uf _ _);rw[yp];have f:pl z (a*tu b z*b)=pl z (a*pl z (tu b z*b)):=by rw[uY,bQ]
 rw[f,nU (n:=tu b z*b) (),t,cG,i]
def dvT (z:Int)(f d:List Int):Option (List Int×List Int):=Sv z (Yc z) d (ln f+1) (sP (ln f+1-ln d) 0) f
def ud (z:Int)(f d:List Int):PV:=match dvT z f d with
 |none=>.non
 |some p=>.tup [.ints p.1,.ints p.2]
def ZOk (p:Int):Prop:=2<=p/\p.natAbs<2^6000
theorem zok {p:Int}(h:mR p):ZOk p:=(h.1,by
 have:p.natAbs<=2^14:=by have:=h.1;have:=h.2.1;lia
 exact aK this (aI (()) (())))
structure Nu (p:Int)(g:List Int):Prop where
 pr:ZOk p
 len:ln g<=200
 ne:Tz p g≠[]
 gcd:Int.gcd (jx (Tz p g)) p=1
theorem Nu.nz (h:Nu p g)(x:Int)(i:p ∣ x*jx (Tz p g)):p ∣ x:=by
 obtain⟨t,_,_,f⟩:=xZ h.pr.1 h.gcd;have a:=dj f;have c:p ∣ x*jx (Tz p g)*t:=bM i;have d:p ∣ x*(1-t*jx (Tz p g)):=be a;have e:x=x*jx (Tz p g)*t+x*(1-t*jx (Tz p g)):=by rw[cT,cG,bZ t,<-bQ];lia
 rw[e];exact br c d
theorem nF (h:Nu p g)(f:Li):∃q,dvT p (Tz p f) (Tz p g)=so (q,rm p (Tz p g) f)/\Uo p (Tz p g) (rm p (Tz p g) f)/\mJ p (Tz p g) f (rm p (Tz p g) f):=by
 have v:=lP h.ne;have A:2<=p:=h.pr.1;obtain⟨m,s⟩:=Jo (z:=p) (ov:=Yc p) (f:=Tz p f) (d:=Tz p g) v (λa c t u=>hov A h.gcd a c t u) (ln (Tz p f)+1) _ _ (yd.start (lQ p f) (o6 p f)) (dA _);cases o:Sv p (Yc p) (Tz p g) (ln (Tz p f)+1) (sP (ln (Tz p f)+1-ln (Tz p g)) 0) (Tz p f) with
 |none=>obtain⟨_,_,_,_,z⟩:=s o;cases z
 |some x=>
  obtain⟨q,r⟩:=x;obtain⟨I,y⟩:=m q r o;have j:Uo p (Tz p g) r:=(I.rf,I.rr,y);have i:mJ p (Tz p g) f r:=(mJ.Tz p (Tz p g) f).trans (q,λn=>by
   have k:=I.eq n;have e:(Tz p f)[n]!-r[n]!-cm q (Tz p g) n = -(cm q (Tz p g) n+r[n]!-(Tz p f)[n]!):=()
   rw[e];exact bF.mpr k)
  have l:=Hq h.nz j i;rw[l];exact(q,o,j,i)
theorem Xh (h:Nu p g)(e:mJ p (Tz p g) a b):rm p (Tz p g) a=rm p (Tz p g) b:=by obtain⟨_,_,c,d⟩:=nF h b;exact Hq h.nz c (e.trans d)
theorem Zk (hl:ln d<=ln r):Sv z (Yc z) d (n+1) q r=Sv z (Yc z) d n (q.set (ln r-ln d) (pl z (jx r*tu (jx d) z))) (wF z d r (pl z (jx r*tu (jx d) z))):=by
 conv=>lhs;unfold Sv
 rw[aF ()];rfl
theorem aac (hl:ln r<ln d):Sv z (Yc z) d (n+1) q r=so (q,r):=by unfold Sv;rw[aL hl]
theorem HJ (a:mR p)(h:pl p m=m):0<=m/\m<9973:=by have:=RL (z:=p) (n:=m) (by have:=a.1;lia);have:=a.2.1;lia
theorem Fx {p m:Int}(c:ZOk p)(h:pl p m=m):m.natAbs<2^6000:=by
 have a:=RL (z:=p) (n:=m) (by have:=c.1;lia);have b:=c.2;rw[h]at a;generalize 2^6000=B at *
 lia
theorem qH {m:Int}(h:m.natAbs<2^6000):m.natAbs<2^9000:=aQ h (aW (()) (()))
theorem Wm {p:Int}(h:ZOk p):0<=p/\p<((2^9000:Nat):Int):=by
 have a:=h.1;have c:=qH h.2;generalize (2:Nat)^9000=N at *
 lia
def n8:Ok P w K mg base 3 "divided" ["kind","f","g"] (uE K (Gk cW cR cP) (λas=>∃p f g,as=[.ob 0 p,.ints f,.ints g]/\Nu p g/\ln f<=200) λs=>(λp f g=>ud p (Tz p f) (Tz p g)) (zI s 0) (lI s 1) (lI s 2)):=by
 refine pX T.Ue ou '!' (λf cdv A outer s H E S=>(_,(jr (qZ (i:=3) ou.nd rz k4 (m6 (jL T) S %[xv 0,xl 1|_])) (jr (jG (i:=4) ou.nd rz k4 (jJ (m6 (jL T) S %[xv 0,xl 2|_]))) (jr (jX (vJ (sZ 4)) (jw lA) jN) (jr (qZ (i:=5) ou.nd rz k4 (rW (j8 %[jt|_]) (km (lw (jO 3 T.jM) (jO 4 T.jM)) jt) (λ_=>rz))) (jr (lD aw (Xc (jO 3 T.jM) (jO 4 T.jM)) (jr (jA (i:=6) ou.nd rz k4 (lw (jO 3 T.jM) (jO 4 T.jM))) (jr (jA (i:=7) ou.nd rz k4 (n6 (Y4 (CJ 0 (zG T) S %[kI 3 (lV jt) (λ_ _=>rz),kI 4 (lV jt) (λ_ _=>rz)|_])))) (jr (um 5 (xn 6) (xn 7)) (jr (zJ (k:=8) (j:=9) aw rz (by rfl) T.mZ (xl 4) (pg_tup rz (pgs_cons (pg_name (i:=8) ou.nd rz k4) (pgs_cons (pg_name (i:=9) ou.nd rz k4) pgs_nil))) (jw (um 3 (km (xn 6) (xn 8)) (rT 0 (qL T) S %[lw (kI 3 (km (xn 6) (xn 8)) (λ_ _=>rz)) (kO (xn 7) (xn 9))|_])))) (jw (QL 3 (wu T) S))))))) (j7 3 (j7 5 (jw (jB (nj %[xl 5,xl 3|_])))))))))),λas hp=>?_))
 obtain⟨z,f,g,rfl,ok,hfl⟩:=hp;have hgl:=ok.len;have p2:2<=z:=ok.pr.1;have h9:z.natAbs<2^9000:=qH ok.pr.2;refine(((rz,rz,tT),z,f,rz,()),λl t=>?_);have t:l=Tz z f:=t;refine(((rz,rz,tT),z,g,rz,()),λd G=>?_);have G:d=Tz z g:=G;have lf:ln l<=200:=by rw[t];exact aj (lH _ _) hfl
 have lg:ln d<=200:=by rw[G];exact aj (lH _ _) hgl
 have ff:j9 l:=by rw[t];exact lQ z f
 have fr:∀n,pl z l[n]! =l[n]!:=by rw[t];exact o6 z f
 have dr:∀n,pl z d[n]! =d[n]!:=by rw[G];exact o6 z g
 have N:¬d=[]:=by rw[G];exact ok.ne
 have gc:Int.gcd (jx d) z=1:=by rw[G];exact ok.gcd
 have hd:=lP N;have R:∀q r,dvT z l d=so (q,r)->PV.tup [.ints q,.ints r]=ud z (Tz z f) (Tz z g):=λq r h=>by rw[<-t,<-G];unfold ud;rw[h]
 have pr:=ok.pr;clear t G ok;refine jD (ρ':=[.fr (.ob 0 z),k7 f,k7 g,.ow (.ints l),k7 d,.un,.un,.un,.un,.un]) rz ?_;refine(.inl rz,λq=>?_,λ_=>?_)
 .have q:¬¬d=[]:=q;exact q N
 refine((((tT,tT),tT),((.inr (.inl rz),.inl rz),tT),?_,?_),λq0 y=>?_)
 .show -(2:Int)^63<=(ln l:Int)-(ln d:Int)+1;lia
 .show((ln l:Int)-(ln d:Int)+1).toNat<=1000;lia
 have y:q0=sP ((ln l:Int)-(ln d:Int)+1).toNat 0:=y;have Y:((ln l:Int)-(ln d:Int)+1).toNat=ln l+1-ln d:=()
 rw[Y]at y;refine(λL=>∃q r v6 v7 D F e,L=[.fr (.ob 0 z),k7 f,k7 g,.ow (.ints r),k7 d,.ow (.ints q),v6,v7,D,F]/\yd z l d q r/\ln r<e/\Sv z (Yc z) d e q r=dvT z l d,λL=>ln (getL L 3),(q0,l,.un,.un,.un,.un,ln l+1,rz,by rw[y];exact yd.start ff fr,dA _,by rw[y];rfl),?_);rintro L ⟨q,r,v6,v7,D,F,e,rfl,I,hfu,B⟩;refine((.inr (.inl rz),.inl rz),λk=>?_,λk=>?_)
 .have k:(ln d:Int)<=(ln r:Int):=k;have Z:ln d<=ln r:=()
  have rl:=I.rl;obtain⟨e,rfl⟩:∃n,e=n+1:=(e-1,());rw[Zk Z]at B;refine((.inr (.inl rz),.inl rz),λQ u=>?_);have u:Q=(ln r:Int)-(ln d:Int):=u;have u:Q=((ln r-ln d:Nat):Int):=()
  subst u;have lr:r[j6 (ln r) (-1)]! =jx r:=nW r ();have ld:d[j6 (ln d) (-1)]! =jx d:=nW d hd;have O:=Xv (C:=cNO) (z:=z) (x:=jx r) (show z≠0 by lia) gc;have d9:(jx d).natAbs<2^9000:=qH (Fx pr (dr (ln d-1)));have r9:(jx r).natAbs<2^9000:=qH (Fx pr (I.rr (ln r-1)));have U:zA cNO z [r[j6 (ln r) (-1)]!,d[j6 (ln d) (-1)]!]=.inl (pl z (jx r*tu (jx d) z)):=by rw[lr,ld];exact O
  obtain⟨c,hc⟩:∃c,c=pl z (jx r*tu (jx d) z):=(_,rz);rw[<-hc]at U B;refine((((rz,((.inr (.inl rz),tT,(():-(ln r:Int) <= -1),(():(-1:Int)<(ln r:Int))),(.inl rz,tT,(():-(ln d:Int) <= -1),(():(-1:Int)<(ln d:Int))),tT),tT,?_),?_),?_),λo v=>?_)
  .show W3 z [r[j6 (ln r) (-1)]!,d[j6 (ln d) (-1)]!];rw[lr,ld];exact(d9,.inr (p2,h9,r9))
  .show(vq (zA cNO z [r[j6 (ln r) (-1)]!,d[j6 (ln d) (-1)]!])).isV;rw[U];exact tT
  .show(vq (zA cNO z [r[j6 (ln r) (-1)]!,d[j6 (ln d) (-1)]!])).get=.int (Nv (vq (zA cNO z [r[j6 (ln r) (-1)]!,d[j6 (ln d) (-1)]!])).get);rw[U];rfl
  have v:o=Nv (vq (zA cNO z [r[j6 (ln r) (-1)]!,d[j6 (ln d) (-1)]!])).get:=v;rw[U]at v;have v:o=c:=v;subst v;obtain⟨h1,h2⟩:=hov p2 gc _ _ (I.rr (ln r-1)) (show Yc z (jx r) (jx d)=so o by rw[hc];rfl);obtain⟨J,hlt⟩:=I.step hd Z h1 h2;have cs:=Fx pr h2;have ql:=I.ql;refine jD (ρ':=[.fr (.ob 0 z),k7 f,k7 g,.ow (.ints r),k7 d,.ow (.ints q),k6 ((ln r-ln d:Nat):Int),k6 o,D,F]) rz ?_;have ix5:j6 (ln q) ((ln r-ln d:Nat):Int)=ln r-ln d:=by unfold j6;rw[aL ()];lia
  refine(rz,rz,rz,((():-(ln q:Int)<=((ln r-ln d:Nat):Int)),(():((ln r-ln d:Nat):Int)<(ln q:Int))),?_);refine jD (ρ':=[.fr (.ob 0 z),k7 f,k7 g,.ow (.ints r),k7 d,.ow (.ints (q.set (ln r-ln d) o)),k6 ((ln r-ln d:Nat):Int),k6 o,D,F]) (by rw[<-ix5];rfl) ?_;refine(rz,λi L=>∃row D F,L=[.fr (.ob 0 z),k7 f,k7 g,.ow (.ints row),k7 d,.ow (.ints (q.set (ln r-ln d) o)),k6 ((ln r-ln d:Nat):Int),k6 o,D,F]/\Af z d r o i row,(r,D,F,rz,Qk z d r o),?_,?_)
  .rintro i n L hn ⟨row,D,F,rfl,M⟩;have hn:d[i]?=so n:=hn;have hi:=(ah.mp hn).1;have Y:d[i]! =n:=getD_at' hn;have l1:-(ln row:Int)<=((ln r-ln d:Nat):Int)+(i:Int):=()
   have l2:((ln r-ln d:Nat):Int)+(i:Int)<(ln row:Int):=by rw[M.1];lia
   have ix:j6 (ln row) (((ln r-ln d:Nat):Int)+(i:Int))=ln r-ln d+i:=by unfold j6;rw[aL ()];lia
   have ns:=Fx pr (dr i);rw[Y]at ns;refine((rz,(((.inr (.inl rz),(rz,rz),l1,l2),rz,rz,nR (n:=6000) (m:=6000) cs ns),tT),tT,tT),rz,(rz,rz),(l1,l2),row.set (ln r-ln d+i) (pl z (row[ln r-ln d+i]!-o * n)),k6 i,k6 n,?_,?_)
   .rw[<-ix];rfl
   .have:=T8 M Z hi;rw[Y]at this;exact this
  .rintro L ⟨row,D,F,rfl,M⟩;have M:Af z d r o (ln d) row:=M;have et:=U8 M Z;refine(rz,tT,(q.set (ln r-ln d) o,wF z d r o,k6 ((ln r-ln d:Nat):Int),k6 o,D,F,e,?_,J,(),B),?_)
   .rw[<-et];rfl
   .show ln (jy row)<ln r;rw[et];exact hlt
 .have k:¬(ln d:Int)<=(ln r:Int):=k;obtain⟨e,rfl⟩:∃n,e=n+1:=(e-1,());rw[aac ()]at B;exact((rz,rz,tT),R q r B.symm)
def Bd (r:List Int):Prop:=∀m∈r,m.natAbs<2^9000
theorem vL {m:Int}(h:0<=m/\m<9973):m.natAbs<2^9000:=by
 have:m.natAbs<=2^14:=()
 exact aK this (aI (()) (()))
theorem JN (h:Nu p g)(f:Li):∃q,ud p (Tz p f) (Tz p g)=.tup [.ints q,.ints (rm p (Tz p g) f)]:=by obtain⟨q,e,_⟩:=nF h f;exact(q,by unfold ud;rw[e])
theorem Pg (h:mR p):0<=p/\p<((2^9000:Nat):Int):=by
 have a:=h.1;have c:=h.2.1;have d:(2:Nat)^14<=2^9000:=aW (()) (());generalize (2:Nat)^9000=N at *
 lia
theorem Uo.zbd {p:Int}{d r:Li}(c:ZOk p)(h:Uo p d r):Bd r:=λm a=>by obtain⟨n,_,e⟩:=FM.mem_getD a;have:=h.red n;rw[e]at this;exact qH (Fx c this)
def wk:Ok P w K mg base 4 "times_by" ["kind","one","other","g"] (T6 K (Gk cW cR cP) (λas=>∃p a b g,as=[.ob 0 p,.ints a,.ints b,.ints g]/\Nu p g/\ln a+ln b<=200/\Bd a/\Bd b) λs=>(λp a b g=>rm p (Tz p g) (jz a b)) (zI s 0) (lI s 1) (lI s 2) (lI s 3)):=by
 refine pX T.NK MN '!' (λf j A o s H E i=>(_,(jw (jB (xl_of (jF (xc (n8 T) i %[xv 0,jJ (m6 (pL T) i %[xv 0,xl 1,xl 2|_]),xl 3|_]) jt (λ_ _=>rz))))),λas r=>?_));obtain⟨p,a,b,g,rfl,ok,n,l,m⟩:=r;obtain⟨t,u⟩:=Wm ok.pr;have k:ln (Tz p (jz (Tz p a) (Tz p b)))<=200:=by rw[DR];refine aj (lH _ _) ?_;unfold jz;rw[ac,aC];exact n
 obtain⟨q,e⟩:=JN ok (Tz p (jz (Tz p a) (Tz p b)));refine(((((rz,((rz,rz,rz,tT),p,a,b,rz,t,u,(),l,m),rz,tT),p,_,g,rz,ok,k),tT,?_),?_),?_)
 .show lY (ud p (Tz p (Tz p (jz (Tz p a) (Tz p b)))) (Tz p g)) 1;rw[e];exact(((()):(-2:Int)<=1),((()):(1:Int)<2))
 .show vo (ud p (Tz p (Tz p (jz (Tz p a) (Tz p b)))) (Tz p g)) 1=.ints (mQ (vo (ud p (Tz p (Tz p (jz (Tz p a) (Tz p b)))) (Tz p g)) 1));rw[e];rfl
 .show PV.ints (mQ (vo (ud p (Tz p (Tz p (jz (Tz p a) (Tz p b)))) (Tz p g)) 1))=PV.ints (rm p (Tz p g) (jz a b));rw[e];show PV.ints (rm p (Tz p g) (Tz p (jz (Tz p a) (Tz p b))))=PV.ints (rm p (Tz p g) (jz a b));rw[DR,Xh ok (mJ.Tz p (Tz p g) (jz a b)).symm]
theorem pw_odd1 {p:Int}{d P S a:Li}(h:Nat)(c:mJ p d a (jz P S)):mJ p d (jz a (pw S (2*h))) (jz P (pw S (2*h+1))):=by refine(c.mul _).trans ((mJ.aaB p d _ _ _).trans ?_);refine(mJ.comm p d _ _).trans (mJ.trans ?_ (mJ.comm p d _ _));exact(mJ.comm p d S (pw S (2*h))).mul P
def Hh:Ok P w K mg base 5 "raised" ["kind","f","many","g"] (T6 K (Gk cW cR cP) (λas=>∃p f,∃m:Nat,∃g,as=[.ob 0 p,.ints f,.int (m:Int),.ints g]/\Nu p g/\ln f<=200/\ln (Tz p g)<=100) λs=>(λp f m g=>rm p (Tz p g) (pw f m.toNat)) (zI s 0) (lI s 1) (zI s 2) (lI s 3)):=by
 refine pX T.Xn qx '!' (λf cdv A Z s H E I=>(_,(jr (jG (i:=4) qx.nd rz k4 (xl_of (jF (xc (n8 T) I %[xv 0,jJ (j8 %[jt|_]),xl 3|_]) jt (λ_ _=>rz)))) (jr (jG (i:=5) qx.nd rz k4 (xl_of (jF (xc (n8 T) I %[xv 0,xl 1,xl 3|_]) jt (λ_ _=>rz)))) (jr (jA (i:=6) qx.nd rz k4 (xn 2)) (jr (lD aw (pZ (xn 6) jt) (lU (jX (nJ (jU (xn 6) jt) jt) (jw (jG (i:=4) qx.nd rz k4 (Yb (wk T) I %[xv 0,xl 4,xl 5,xl 3|_]))) jN) (jr (jG (i:=5) qx.nd rz k4 (Yb (wk T) I %[xv 0,xl 5,xl 5,xl 3|_])) (jw (tM (i:=6) qx.nd rz k4 jt iop_fdiv))))) (jw (jB (xl 4))))))),λas hp=>?_))
 obtain⟨p,f,m,g,rfl,ok,hl,hd⟩:=hp;have v:ln ([1]:List Int)<=200:=(())
 have item:∀(x:List Int) (q:List Int),ud p (Tz p x) (Tz p g)=.tup [.ints q,.ints (rm p (Tz p g) x)]->lY (ud p (Tz p x) (Tz p g)) 1/\vo (ud p (Tz p x) (Tz p g)) 1=.ints (mQ (vo (ud p (Tz p x) (Tz p g)) 1))/\mQ (vo (ud p (Tz p x) (Tz p g)) 1)=rm p (Tz p g) x:=λx q e=>by rw[e];exact((((()):(-2:Int)<=1),((()):(1:Int)<2)),rz,rz)
 obtain⟨q1,e1⟩:=JN ok [1];obtain⟨q2,e2⟩:=JN ok f;obtain⟨a1,a2,a3⟩:=item _ _ e1;obtain⟨b1,b2,b3⟩:=item _ _ e2;refine(((((rz,((tT,tT),tT),rz,tT),p,[1],g,rz,ok,v),tT,a1),a2),λJ r=>?_);have r:J=mQ (vo (ud p (Tz p [1]) (Tz p g)) 1):=r;rw[a3]at r;refine(((((rz,rz,rz,tT),p,f,g,rz,ok,hl),tT,b1),b2),λM u=>?_);have u:M=mQ (vo (ud p (Tz p f) (Tz p g)) 1):=u;rw[b3]at u;refine(rz,λl0 z=>?_);have z:l0=(m:Int):=z;refine jD (ρ':=[.fr (.ob 0 p),k7 f,k6 (m:Int),k7 g,k7 J,k7 M,k6 l0]) rz ?_;obtain⟨_,_,B,hP⟩:=nF ok [1];obtain⟨_,_,F,hS⟩:=nF ok f;rw[<-r]at B hP;rw[<-u]at F hS;refine(λC=>∃(P S:List Int) (L:Nat),C=[.fr (.ob 0 p),k7 f,k6 (m:Int),k7 g,k7 P,k7 S,k6 (L:Int)]/\Uo p (Tz p g) P/\Uo p (Tz p g) S/\mJ p (Tz p g) (jz P (pw S L)) (pw f m),λC=>(vQ C 6).toNat,(J,M,m,by rw[z],B,F,?_),?_)
 .refine(hP.symm.abF (pw_mod hS.symm m)).trans ((mJ.comm p _ _ _).trans (mJ.one p _ _))
 rintro C ⟨y,S,L,rfl,B,F,O⟩;have lS:=F.len;have lP:=B.len;have N:=F.zbd ok.pr;have bP:=B.zbd ok.pr;refine((rz,tT),λk=>?_,λk=>?_)
 .have k:(L:Int) > 0:=k;refine(λC=>∃n,C=[.fr (.ob 0 p),k7 f,k6 (m:Int),k7 g,k7 n,k7 S,k6 (L:Int)]/\Uo p (Tz p g) n/\mJ p (Tz p g) (jz n (pw S (2*(L / 2)))) (pw f m),(((rz,tT,((()):(0:Int)<2)),tT),λo=>?_,λo=>?_),?_)
  .have o:(L:Int) % 2=1:=o;refine(((rz,rz,rz,rz,tT),p,y,S,g,rz,ok,(),bP,N),λn j=>(n,rz,?_,?_))
   .have j:n=rm p (Tz p g) (jz y S):=j;rw[j];exact(nF ok (jz y S)).choose_spec.2.1
   .have j:n=rm p (Tz p g) (jz y S):=j;have h1:mJ p (Tz p g) n (jz y S):=by rw[j];exact(nF ok (jz y S)).choose_spec.2.2.symm
    have e:L=2*(L / 2)+1:=()
    refine(pw_odd1 (L / 2) h1).trans ?_;rw[<-e];exact O
  .have o:¬(L:Int) % 2=1:=o;refine(y,rz,B,?_);have e:2*(L / 2)=L:=()
   rw[e];exact O
  rintro C ⟨n,rfl,U,Q⟩;refine(((rz,rz,rz,rz,tT),p,S,S,g,rz,ok,(),N,N),λG t=>?_);have t:G=rm p (Tz p g) (jz S S):=t;have Y:Uo p (Tz p g) G:=by rw[t];exact(nF ok (jz S S)).choose_spec.2.1
  have R:mJ p (Tz p g) G (jz S S):=by rw[t];exact(nF ok (jz S S)).choose_spec.2.2.symm
  refine(rz,tT,((()),(())),λl D=>((n,G,L / 2,?_,U,Y,(pw_even R).trans Q),?_))
  .have D:l=(L:Int) / 2:=D;have e:(L:Int) / 2=((L / 2:Nat):Int):=()
   rw[e]at D;rw[D];rfl
  .have D:l=(L:Int) / 2:=D;show l.toNat<((L:Nat):Int).toNat;lia
 .have k:¬(L:Int) > 0:=k;have e:L=0:=()
  subst e;refine(rz,?_);show PV.ints y=PV.ints (rm p (Tz p g) (pw f ((m:Nat):Int).toNat));rw[ce,Hq ok.nz B (O.symm.trans (mJ.one p _ _))]
theorem Zh (h:mR p){d:Nat}(i:(d:Int) ∣ p):d=1\/(d:Int)=p:=by
 obtain⟨m,_,e⟩:=h;obtain⟨c,a⟩:=i;by_cases g:d=1
 .exact .inl g
 have k:d≠0:=λz=>by rw[z]at a;simp at a;lia
 have j:0<c:=by
  rcases Int.lt_or_le 0 c with h|h
  .exact h
  .have:=cD (show(0:Int)<=d by lia) h;lia
 by_cases f:c=1
 .right;rw[a,f,cG]
 exfalso;by_cases l:(d:Int)<=c
 .have sq:(d:Int)*d<=p:=by rw[a];exact aH l ()
  exact e d () sq (by rw[a];exact Int.mul_emod_right _ _)
 .have sq:c*c<=p:=by rw[a];exact aY () ()
  exact e c () sq (by rw[a];exact Int.mul_emod_left _ _)
theorem QB {p b:Int}(h:mR p)(c:¬b % p=0)(m:Nat):Int.gcd b (p^m)=1:=by
 have a:Int.gcd b p=1:=by
  rcases Zh h (d:=Int.gcd b p) (hW ..) with g|g
  .exact g
  .exfalso;have:=iw b p;rw[g]at this;exact c (bV this)
 unfold Int.gcd at a ⊢;rw[iU];exact iH m a
theorem abk:mR 5:=((),(),λd h a=>by
 by_cases c:d=2
 .rw[c];decide
 .have:=CT (d:=3) (e:=d) () ();lia)
theorem t7 (f:Li)(n:Nat):cm f [1] n=f[n]!:=by
 rw[lB,sI];by_cases c:n=0
 .rw[aL c,bw,bJ]
 .rw[aF c,oG,bw,bJ]
def Sm (a b:List Int):Prop:=∀n,a[n]! =b[n]!
theorem Sm.eqm (h:Sm a b):mJ p d a b:=.of λn=>by rw[h n,cQ];exact bK p
def Ih (c:Int)(a:List Int):List Int:=a.map λx=>c*x
theorem qi (c:Int)(a:Li)(n:Nat):(Ih c a)[n]! =c*a[n]!:=qg _ (aX c) a n
theorem mJ.add (h:mJ p d a b)(k:mJ p d c e):mJ p d (lJ a c) (lJ b e):=by
 obtain⟨Q,h⟩:=h;obtain⟨S,k⟩:=k;refine(lJ Q S,λn=>?_);rw[uM,mL,mL];have e:a[n]!+c[n]!-(b[n]!+e[n]!)-(cm Q d n+cm S d n)=(a[n]!-b[n]!-cm Q d n)+(c[n]!-e[n]!-cm S d n):=()
 rw[e];exact br (h n) (k n)
theorem mJ.aeF (c:Int)(h:mJ p d a b):mJ p d (Ih c a) (Ih c b):=by
 obtain⟨Q,h⟩:=h;refine(Ih c Q,λn=>?_);have e:cm (Ih c Q) d n=c*cm Q d n:=by unfold cm;rw[<-uV];exact kY λi _=>by rw[qi,bQ]
 rw[e,qi,qi,<-cT,<-cT];exact be (h n)
def Dv (p:Int)(d a:List Int):Prop:=mJ p d a []
def Lc (p:Int)(f g r:List Int):Prop:=∃s t:List Int,∀n,p ∣ r[n]!-(cm s f n+cm t g n)
theorem KQ (f:Li)(n:Nat):cm [1] f n=f[n]!:=by rw[lB,t7]
theorem W6 (c:Int)(f:Li)(n:Nat):cm [c] f n=c*f[n]!:=by
 rw[sI];by_cases h:n=0
 .rw[aL h,bJ]
 .rw[aF h,oG,bJ]
theorem Lc.left (p:Int)(f g:Li):Lc p f g f:=([1],[],λn=>by rw[KQ,oG,bJ,cQ];exact bK p)
theorem Lc.right (p:Int)(f g:Li):Lc p f g g:=([],[1],λn=>by rw[KQ,oG,eE,cQ];exact bK p)
theorem Lc.add (h:Lc p f g r)(k:Lc p f g s):Lc p f g (lJ r s):=by
 obtain⟨a,b,h⟩:=h;obtain⟨c,d,k⟩:=k;refine(lJ a c,lJ b d,λn=>?_);rw[uM,uM,mL];have e:r[n]!+s[n]!-(cm a f n+cm c f n+(cm b g n+cm d g n))=(r[n]!-(cm a f n+cm b g n))+(s[n]!-(cm c f n+cm d g n)):=()
 rw[e];exact br (h n) (k n)
theorem Lc.congr (h:Lc p f g r)(k:∀n,p ∣ s[n]!-r[n]!):Lc p f g s:=by
 obtain⟨a,b,h⟩:=h;refine(a,b,λn=>?_);have e:s[n]!-(cm a f n+cm b g n)=(s[n]!-r[n]!)+(r[n]!-(cm a f n+cm b g n)):=()
 rw[e];exact br (k n) (h n)
theorem Lc.mul (q:Li)(h:Lc p f g r):Lc p f g (jz q r):=by obtain⟨a,b,h⟩:=h;refine(jz q a,jz q b,λn=>?_);have k:=wL (p:=p) (a:=r) (b:=lJ (jz a f) (jz b g)) (c:=q) (λi=>by rw[mL,jC,jC];exact h i) n;rw[uM,lB r q,lB (jz a f) q,lB (jz b g) q]at k;rw[jC,ni,ni];exact k
theorem Lc.trans (a:Lc p f g b)(c:Lc p f g r)(h:Lc p b r x):Lc p f g x:=by obtain⟨s,t,h⟩:=h;refine((a.mul s).add (c.mul t)).congr λn=>?_;rw[mL,jC,jC];exact h n
theorem Dv.Q0 (a:Dv p d f)(c:Dv p d g)(h:Lc p f g r):Dv p d r:=by
 obtain⟨s,t,h⟩:=h;have z:∀s:List Int,mJ p d (jz [] s) []:=λs=>Sm.eqm λn=>by rw[jC,oG];rfl
 have k:∀{f:List Int},Dv p d f->∀s,mJ p d (jz s f) []:=λ{f} a s=>(mJ.comm p d s f).trans ((mJ.mul a s).trans (z s));have e:mJ p d r (lJ (jz s f) (jz t g)):=.of λn=>by rw[mL,jC,jC];exact h n
 exact e.trans (((k a s).add (k c t)).trans (.refl p d _))
theorem Lc.dv (h:Lc p b [] f):Dv p b f:=by obtain⟨s,t,h⟩:=h;refine(s,λn=>?_);have k:=h n;rw[lB t [],oG,bJ]at k;show p ∣ f[n]!-0-cm s b n;rw[dR];exact k
theorem Dv.self (p:Int)(d:Li):Dv p d d:=(Lc.left p d []).dv
theorem vY:j9 []:=λh=>absurd rz h
theorem R6 (h:jx r=1):r≠[]:=λe=>by rw[e]at h;exact absurd h (())
theorem XC (fr:j9 r)(j:∀n,pl p r[n]! =r[n]!)(f:r=[]\/jx r=1)(fs:j9 s)(l:∀n,pl p s[n]! =s[n]!)(g:s=[]\/jx s=1)(h:Dv p r s)(k:Dv p s r):r=s:=by
 have i:∀{s:List Int},j9 s->(∀n,pl p s[n]! =s[n]!)->Dv p [] s->s=[]:=λ{s} fs l h=>by obtain⟨Q,h⟩:=h;refine mK fs vY λn=>wV (l n) (by exact oA p) ?_;have:=h n;rw[lB,oG,dR]at this;exact this
 rcases f with f|f
 .subst f;exact(i fs l h).symm
 rcases g with g|g
 .subst g;exact i fr j k
 have e:∀{r s:List Int},j9 r->(∀n,pl p r[n]! =r[n]!)->jx r=1->jx s=1->Dv p s r->ln s<=ln r:=λ{r s} fr j f g k=>by
  by_cases c:ln s<=ln r
  .exact c
  .have nz:∀x,p ∣ x*jx s->p ∣ x:=λx h=>by rw[g,cG]at h;exact h
   exact absurd (Gd nz (fr,j,()) (vY,λn=>by show pl p 0=0;exact oA p,(():0<ln s)) k) (R6 f)
 have A:=e fr j f g k;have B:=e fs l g f h;have y:=lP (R6 f);have nz:∀x,p ∣ x*jx s->p ∣ x:=λx h=>by rw[g,cG]at h;exact h
 have o:r[ln r-1]! =1:=f;have t:s[ln s-1]! =1:=g;have u:ln r=ln s:=()
 have C:ln (Tz p (q8 r s))<=ln r-1:=yV (lQ p _) λn v=>by
  rw[kZ,oO];by_cases c:n=ln r-1
  .rw[c,o,u,t];exact oA p
  .rw[jH (xs:=r) (),jH (xs:=s) ()];exact oA p
 have d:mJ p s (q8 r s) []:=by
  have a:Sm (q8 r s) (lJ r (Ih (-1) s)):=λn=>by rw[oO,mL,qi];lia
  exact a.eqm.trans ((mJ.add k ((Dv.self p s).aeF (-1))).trans (.refl p s _))
 have z:=Gd nz (lQ p (q8 r s),o6 p _,()) (vY,λn=>by show pl p 0=0;exact oA p,(():0<ln s)) ((mJ.Tz p s _).symm.trans d);refine mK fr fs λn=>wV (j n) (l n) ?_;have m:(Tz p (q8 r s))[n]! =0:=by rw[z];rfl
 rw[kZ,oO]at m;have:=nQ p (r[n]!-s[n]!);rw[m,Int.zero_sub]at this;exact bF.mp this
structure GC (p:Int)(f g r:List Int):Prop where
 form:j9 r
 red:∀n,pl p r[n]! =r[n]!
 one:r=[]\/jx r=1
 lc:Lc p f g r
 d1:Dv p r f
 d2:Dv p r g
theorem GC.acQ (h:GC p f g r)(k:GC p f g s):r=s:=
 XC h.form h.red h.one k.form k.red k.one (Dv.Q0 h.d1 h.d2 k.lc) (Dv.Q0 k.d1 k.d2 h.lc)
open Classical in
def pick (A:List Int->Prop):List Int:=if h:∃r,A r then Classical.choose h else[]
def gc (p:Int)(f g:List Int):List Int:=pick (GC p f g)
theorem QC (h:GC p f g r):gc p f g=r:=by
 have a:∃r,GC p f g r:=(r,h);have e:gc p f g=Classical.choose a:=by unfold gc pick;rw[jo a]
 rw[e];exact(fS a).acQ h
structure J4 (p:Int)(f g b r:List Int):Prop where
 i1:Lc p f g b
 i2:Lc p f g r
 i3:Lc p b r f
 i4:Lc p b r g
theorem J4.symm (h:J4 p f g b r):J4 p b r f g:=(h.i3,h.i4,h.i1,h.i2)
theorem J4.gc (h:J4 p f g b r)(k:GC p b r x):GC p f g x:=(k.form,k.red,k.one,Lc.trans h.i1 h.i2 k.lc,Dv.Q0 k.d1 k.d2 h.i3,Dv.Q0 k.d1 k.d2 h.i4)
theorem CZ (h:J4 p f g b r):gc p f g=gc p b r:=by have e:GC p f g=GC p b r:=funext λx=>propext (h.symm.gc,h.gc);show pick (GC p f g)=pick (GC p b r);rw[e]
theorem J4.step (h:mJ p r b c):J4 p b r r c:=by
 obtain⟨Q,h⟩:=h;refine(.right p b r,([1],Ih (-1) Q,λn=>?_),(Q,[1],λn=>?_),.left p r c)
 .have e:cm (Ih (-1) Q) r n = -cm Q r n:=by have k:=uV (-1) (λi=>Q[i]!*r[n-i]!) (n+1);unfold cm;rw[iJ]at k;rw[<-k];exact kY λi _=>by rw[qi,bQ]
  rw[KQ,e];have a:c[n]!-(b[n]! + -cm Q r n) = -(b[n]!-c[n]!-cm Q r n):=()
  rw[a];exact bF.mpr (h n)
 .rw[KQ];have a:b[n]!-(cm Q r n+c[n]!)=b[n]!-c[n]!-cm Q r n:=()
  rw[a];exact h n
theorem J4.aeA (h:∀n,p ∣ f[n]!-b[n]!)(k:∀n,p ∣ g[n]!-r[n]!):J4 p f g b r:=by
 have a:∀{x y:Int},p ∣ x-y->p ∣ y-x:=λ{x y} h=>by
  have e:y-x = -(x-y):=()
  rw[e];exact bF.mpr h
 exact((Lc.left p f g).congr λn=>a (h n),(Lc.right p f g).congr λn=>a (k n),(Lc.left p b r).congr h,(Lc.right p b r).congr k)
def CW (p:Int)(b:List Int):Int:=if b=[] then 1 else pl p (1*tu (jx b) p)
def zE (p:Int)(b:List Int):List Int:=Tz p (b.map λm=>CW p b*m)
theorem wA (a:mR p)(f:j9 b)(r:∀n,pl p b[n]! =b[n]!)(e:b≠[]):Int.gcd (jx b) p=1:=by
 have c:=f e;have h:=r (ln b-1);have g:2<=p:=a.1;rw[nU ()]at h;have d:¬jx b % p=0:=by show ¬b[ln b-1]! % p=0;rw[h];exact c
 have:=QB a d 1;rw[Int.pow_one]at this;exact this
theorem qY (f:j9 b)(r:∀n,pl p b[n]! =b[n]!):Tz p b=b:=mK (lQ p b) f λn=>by rw[kZ,r n]
theorem Uz (f:mR p)(j:j9 b)(r:∀n,pl p b[n]! =b[n]!):GC p b [] (zE p b):=by
 by_cases h:b=[]
 .subst h;have e:zE p []=[]:=rfl;rw[e];exact(vY,r,.inl rz,.left p [] [],.self p [],.self p [])
 have v:2<=p:=f.1;have g:=wA f j r h;have one:pl p 1=1:=by rw[nU ()];exact bx (()) ()
 have i:CW p b=pl p (1*tu (jx b) p):=aF h;obtain⟨d,_⟩:=hov v g 1 (CW p b) one (by rw[i];rfl);have a:∀n,(zE p b)[n]! =pl p (CW p b*b[n]!):=λn=>by unfold zE;rw[kZ,qg _ (aX _)]
 have y:=lP h;have k:(zE p b)[ln b-1]! =1:=(a _).trans d;have z:ln (zE p b)<=ln b:=by unfold zE;refine aj (lH _ _) ?_;rw[ac];exact ao _
 have A:ln b<=ln (zE p b):=by
  by_cases c:ln b<=ln (zE p b)
  .exact c
  .rw[jH ()]at k;exact absurd k (())
 have s:ln (zE p b)=ln b:=()
 generalize CW p b=t at *
 have o:p ∣ t*jx b-1:=by
  have:=nQ p (t*jx b);rw[d]at this;have e:t*jx b-1 = -(1-t*jx b):=()
  rw[e];exact bF.mpr this
 refine(lQ p _,o6 p _,.inr ?_,([t],[],λn=>?_),([jx b],λn=>?_),.refl p _ _)
 .show(zE p b)[ln (zE p b)-1]! =1;rw[s];exact k
 .rw[W6,oG,bJ,a];exact nQ p _
 .rw[W6,a];show p ∣ b[n]!-0-jx b*pl p (t*b[n]!);have m:=nQ p (t*b[n]!);generalize pl p (t*b[n]!)=u at *
  generalize b[n]! =x at *
  generalize jx b=l at *
  have e:x-0-l*u = -((t*l-1)*x+l*(u-t*x)):=by rw[ie,cT,bw,bZ t l,bQ];lia
  rw[e];exact bF.mpr (br (bM o) (be m))
theorem ut {p:Int}{r:Li}(h:mR p)(fr:j9 r)(c:∀n,pl p r[n]! =r[n]!)(a:r≠[])(hl:ln r<=200):Nu p r:=by have e:=qY fr c;exact(zok h,hl,by rw[e];exact a,by rw[e];exact wA h fr c a)
theorem aam (a:mR p):∀(k:Nat) (b r:Li),ln r<=k->j9 b->(∀n,pl p b[n]! =b[n]!)->j9 r->(∀n,pl p r[n]! =r[n]!)->ln r<=200->GC p b r (gc p b r)
 |k,b,[],_,fb,rb,_,_,_=>by have h:=Uz a fb rb;rw[QC h];exact h
 |k+1,b,y::r,hk,fb,rb,fr,rr,hl=>by have ok:=ut a fr rr (λz=>by cases z) hl;have e:=qY fr rr;obtain⟨_,_,i,c⟩:=nF ok b;rw[e]at i c;have f:=i.len;have d:=aam a k (y::r) (rm p (y::r) b) () fr rr i.form i.red ();have h:=(J4.step c).gc d;rw[QC h];exact h
theorem J4.tz (p:Int)(f g:Li):J4 p f g (Tz p f) (Tz p g):=by
 have k:∀(f:List Int) n,p ∣ f[n]!-(Tz p f)[n]!:=λf n=>by
  rw[kZ];have:=nQ p f[n]!;have e:f[n]!-pl p f[n]! = -(pl p f[n]!-f[n]!):=()
  rw[e];exact bF.mpr this
 exact J4.aeA (k f) (k g)
theorem U5 (a:mR p)(c:ln g<=200):GC p f g (gc p f g):=by have t:=lH p g;have h:=aam a _ (Tz p f) (Tz p g) (ao _) (lQ p f) (o6 p f) (lQ p g) (o6 p g) ();have h:=(J4.tz p f g).gc h;rw[QC h];exact h
def vW:Ok P w K mg base 3 "turned_lead" ["kind","f"] (rK K (Gk cW cR cP) (λas=>∃p b,as=[.ob 0 p,.ints b]/\mR p/\j9 b/\∀n,pl p b[n]! =b[n]!) λs=>(λp b=>CW p b) (zI s 0) (lI s 1)):=by
 refine pX T.G9 Fy '!' (λf i A o s H E m=>(_,(jw (jB (RC (sZ 1) (n6 (Y4 (CJ 0 (zG T) m %[jt,kI 1 (lV jt) (λ_ _=>rz)|_]))) jt))),λas d=>?_));obtain⟨p,b,rfl,d,j,r⟩:=d;have u:2<=p:=d.1;have k:p.natAbs<2^9000:=by
  have:p.natAbs<=2^14:=by have:=d.2.1;lia
  exact aK this (aI (()) (()))
 have t:(1:Int).natAbs<2^9000:=aK (show(1:Int).natAbs<=2^14 by decide) (aI (()) (()));have g:¬b=[]->zA cNO p [1,b[j6 (ln b) (-1)]!]=.inl (CW p b):=λc=>by have l:=lP c;have ld:b[j6 (ln b) (-1)]! =jx b:=nW b l;have e:CW p b=pl p (1*tu (jx b) p):=aF c;rw[ld,e];exact Xv (by have:=d.1;lia) (wA d j r c)
 refine((.inl rz,λc=>(((rz,(tT,(.inl rz,tT,?_,?_),tT),tT,?_),?_),?_),λ_=>tT),?_)
 .have c:¬b=[]:=c;have l:=lP c;show -(ln b:Int) <= -1;lia
 .have c:¬b=[]:=c;have l:=lP c;show(-1:Int)<(ln b:Int);lia
 .show W3 p [1,b[j6 (ln b) (-1)]!];exact(qH (Fx (zok d) (r _)),.inr (u,k,t))
 .have c:¬b=[]:=c;show(vq (zA cNO p [1,b[j6 (ln b) (-1)]!])).isV;rw[g c];exact tT
 .have c:¬b=[]:=c;show(vq (zA cNO p [1,b[j6 (ln b) (-1)]!])).get=.int (Nv (vq (zA cNO p [1,b[j6 (ln b) (-1)]!])).get);rw[g c];rfl
 .show(if ¬b=[] then PV.int (Nv (vq (zA cNO p [1,b[j6 (ln b) (-1)]!])).get) else .int 1)=.int (CW p b);by_cases c:b=[]
  .rw[aF (λz=>z c)];subst c;rfl
  .rw[aL c,g c];rfl
theorem aas (a:mR p):(CW p b).natAbs<2^9000:=by
 have h:(CW p b).natAbs<=2^14:=by
  unfold CW;split
  .decide
  .have:=HJ a (uf p (1*tu (jx b) p));lia
 exact aK h (aI (()) (()))
def uq:Ok P w K mg base 4 "with_lead_one" ["kind","f"] (Ff K (Gk cW cR cP) (λas=>∃p b,as=[.ob 0 p,.ints b]/\mR p/\ln b<=1000/\j9 b/\∀n,pl p b[n]! =b[n]!) λs=>(λp b=>zE p b) (zI s 0) (lI s 1)):=by
 refine GJ T.Cr zY '!' (λf g A o s H E d=>(_,(jw (mD (m6 (pA T) d %[xv 0,xl 1,yW (vW T) d %[xv 0,xl 1|_]|_]))),λas c=>?_));obtain⟨p,b,rfl,c,j,i,r⟩:=c;refine(((rz,rz,((rz,rz,tT),p,b,rz,c,i,r),tT),p,b,CW p b,rz,j,aas c,λm k=>?_),rz);obtain⟨n,_,e⟩:=FM.mem_getD k;have:=HJ c (r n);rw[e]at this;exact vL this
def wU:Ok P w K mg base 5 "common" ["kind","f","g"] (Ff K (Gk cW cR cP) (λas=>∃p f g,as=[.ob 0 p,.ints f,.ints g]/\mR p/\ln f<=200/\ln g<=200) λs=>(λp f g=>gc p f g) (zI s 0) (lI s 1) (lI s 2)):=by
 refine GJ T.XN rF '!' (λf R A C s H E x=>(_,(jr (jG (i:=3) rF.nd rz k4 (jJ (m6 (jL T) x %[xv 0,xl 1|_]))) (jr (jG (i:=4) rF.nd rz k4 (jJ (m6 (jL T) x %[xv 0,xl 2|_]))) (jr (lD aw (sZ 4) (jr (jG (i:=5) rF.nd rz k4 (xl_of (jF (xc (n8 T) x %[xv 0,xl 3,xl 4|_]) jt (λ_ _=>rz)))) (jr (jG (i:=3) rF.nd rz k4 (xl 4)) (jw (jG (i:=4) rF.nd rz k4 (xl 5)))))) (jw (mD (m6 (uq T) x %[xv 0,xl 3|_])))))),λas t=>?_))
 obtain⟨p,f,g,rfl,t,S,U⟩:=t;refine(((rz,rz,tT),p,f,rz,()),λv d=>?_);have d:v=Tz p f:=d;refine(((rz,rz,tT),p,g,rz,()),λy j=>?_);have j:y=Tz p g:=j;have Y:=lH p f;have Z:=lH p g;have i0:gc p v y=gc p f g:=by rw[d,j];exact(CZ (J4.tz p f g)).symm
 refine jD (ρ':=[.fr (.ob 0 p),k7 f,k7 g,k7 v,k7 y,.un]) rz ?_;refine(λz=>∃b r O,z=[.fr (.ob 0 p),k7 f,k7 g,k7 b,k7 r,O]/\j9 b/\(∀n,pl p b[n]! =b[n]!)/\ln b<=200/\j9 r/\(∀n,pl p r[n]! =r[n]!)/\ln r<=200/\gc p b r=gc p f g,λz=>ln (getL z 4),(v,y,.un,rz,by rw[d];exact lQ p f,by rw[d];exact o6 p f,by rw[d];lia,by rw[j];exact lQ p g,by rw[j];exact o6 p g,by rw[j];lia,i0),?_);rintro z ⟨b,r,O,rfl,J,M,bl,fr,F,N,G⟩;refine(.inl rz,λk=>?_,λk=>?_)
 .have k:¬r=[]:=k;have ok:=ut t fr F k N;have I:=qY fr F;obtain⟨q,e⟩:=JN ok b;obtain⟨_,_,u,B⟩:=nF ok b;rw[I]at u B e;have L:=u.len;have e:ud p (Tz p b) (Tz p r)=.tup [.ints q,.ints (rm p r b)]:=by rw[I];exact e
  refine(((((rz,rz,rz,tT),p,b,r,rz,ok,bl),tT,?_),?_),λc o=>?_)
  .show lY (ud p (Tz p b) (Tz p r)) 1;rw[e];exact(((()):(-2:Int)<=1),((()):(1:Int)<2))
  .show vo (ud p (Tz p b) (Tz p r)) 1=.ints (mQ (vo (ud p (Tz p b) (Tz p r)) 1));rw[e];rfl
  have o:c=mQ (vo (ud p (Tz p b) (Tz p r)) 1):=o;rw[e]at o;have o:c=rm p r b:=o;rw[<-o]at u B L;refine(rz,λQ m=>(rz,λD l=>((r,c,k7 c,?_,fr,F,N,u.form,u.red,(),?_),?_)))
  .have m:Q=r:=m;have l:D=c:=l;rw[m,l];rfl
  .rw[<-G];exact(CZ (J4.step B)).symm
  .have l:D=c:=l;show ln D<ln r;rw[l];exact L
 .have k:¬¬r=[]:=k;have k:r=[]:=bH.mp k;subst k;refine(((rz,rz,tT),p,b,rz,t,(),J,M),?_);show zE p b=gc p f g;rw[<-G];exact(QC (Uz t J M)).symm
structure Fo (p:Int)(f:List Int):Prop where
 form:j9 f
 red:∀n,pl p f[n]! =f[n]!
theorem Fo.tz (p:Int)(f:Li):Fo p (Tz p f):=(lQ p f,o6 p f)
theorem Fo.bd (c:mR p)(h:Fo p f):Bd f:=λm a=>by obtain⟨n,_,e⟩:=FM.mem_getD a;have:=HJ c (h.red n);rw[e]at this;exact vL this
theorem tU (p:Int)(a b:Li):ln (Tz p (jz a b))<=ln a+ln b:=by refine aj (lH _ _) ?_;unfold jz;rw[ac,aC];exact ao _
theorem We (p:Int)(f:Li)(n:Nat):p ∣ (Tz p f)[n]!-f[n]!:=by rw[kZ];exact nQ p _
abbrev Row3:=List Int×List Int×List Int
def Gp (x:Row3):PV:=.tup [.ints x.1,.ints x.2.1,.ints x.2.2]
theorem Yz {p:Int}{g:Li}(h:Nu p g)(f:Li):∃q,ud p (Tz p f) (Tz p g)=.tup [.ints q,.ints (rm p (Tz p g) f)]/\yd p (Tz p f) (Tz p g) q (rm p (Tz p g) f)/\ln (rm p (Tz p g) f)<ln (Tz p g):=by have l:=lP h.ne;have n:2<=p:=h.pr.1;obtain⟨i,_⟩:=Jo (z:=p) (ov:=Yc p) (f:=Tz p f) (d:=Tz p g) l (λa c j k=>hov n h.gcd a c j k) (ln (Tz p f)+1) _ _ (yd.start (lQ p f) (o6 p f)) (dA _);obtain⟨q,e,_,_⟩:=nF h f;obtain⟨I,m⟩:=i _ _ e;exact(q,by unfold ud;rw[e],I,m)
def Cy (p:Int)(a q b:List Int):List Int:=Tz p (lJ a ((Tz p (jz (Tz p q) (Tz p b))).map λn=>-n))
theorem QW (p:Int)(q b:Li)(n:Nat):(Tz p (jz (Tz p q) (Tz p b)))[n]! =pl p (cm q b n):=by rw[kZ,jC];exact aaM (λn=>by rw[kZ,uf]) (λn=>by rw[kZ,uf]) n
theorem Oj (p:Int)(a q b:Li)(n:Nat):(Cy p a q b)[n]! =pl p (a[n]! + -pl p (cm q b n)):=by unfold Cy;rw[kZ,mL,qg _ (()),QW]
theorem PJ (p:Int)(a q b:Li)(n:Nat):p ∣ (Cy p a q b)[n]!-(a[n]!-cm q b n):=by
 rw[Oj];have h:=nQ p (a[n]! + -pl p (cm q b n));have c:=nQ p (cm q b n);generalize pl p (a[n]! + -pl p (cm q b n))=u at *
 generalize pl p (cm q b n)=y at *
 have e:u-(a[n]!-cm q b n)=(u-(a[n]! + -y)) + -(y-cm q b n):=()
 rw[e];exact br h (bF.mpr c)
theorem aaV (p:Int)(a q b:Li):ln (Cy p a q b)<=max (ln a) (ln q+ln b-1):=yV (lQ p _) λn h=>by rw[Oj,jH (xs:=a) (),aai (),oA];exact oA p
theorem Zw (p:Int)(a b:Li):ln (Cy p a [] b)<=ln a:=yV (lQ p _) λn h=>by rw[Oj,jH (xs:=a) h,oG,oA];exact oA p
def rlF (p:Int)(x:Row3)(q:List Int)(y:Row3):Row3:=(Cy p x.1 q y.1,Cy p x.2.1 q y.2.1,Cy p x.2.2 q y.2.2)
def VN (p:Int)(b r:List Int):List Int:=mQ (vo (ud p (Tz p b) (Tz p r)) 0)
open Classical in
def Z6 (p:Int):Nat->Row3->Row3->Row3
 |0,b,_=>b
 |n+1,b,r=>if r.1=[] then b else Z6 p n r (rlF p b (VN p b.1 r.1) r)
structure RI (p:Int)(f g:List Int)(x:Row3):Prop where
 f1:Fo p x.1
 f2:Fo p x.2.1
 f3:Fo p x.2.2
 eq:∀n,p ∣ x.1[n]!-(cm x.2.1 f n+cm x.2.2 g n)
theorem aay (p:Int)(a q b f:Li)(n:Nat):p ∣ cm (Cy p a q b) f n-(cm a f n-cm q (jz b f) n):=by have h:=wL (p:=p) (a:=Cy p a q b) (b:=q8 a (jz q b)) (c:=f) (λi=>by rw[oO,jC];exact PJ p a q b i) n;rw[Fe,ni]at h;exact h
theorem RI.step {p:Int}{f g:Li}{b r:Row3}(A:RI p f g b)(B:RI p f g r)(q:Li):RI p f g (rlF p b q r):=by
 refine(.tz p _,.tz p _,.tz p _,λn=>?_);have s:=PJ p b.1 q r.1 n;have t:=aay p b.2.1 q r.2.1 f n;have u:=aay p b.2.2 q r.2.2 g n;have v:=A.eq n;have h:=wL (p:=p) (a:=r.1) (b:=lJ (jz r.2.1 f) (jz r.2.2 g)) (c:=q) (λi=>by rw[mL,jC,jC];exact B.eq i) n;rw[uM,lB r.1 q,lB (jz r.2.1 f) q,lB (jz r.2.2 g) q]at h;show p ∣ (Cy p b.1 q r.1)[n]!-(cm (Cy p b.2.1 q r.2.1) f n+cm (Cy p b.2.2 q r.2.2) g n);generalize (Cy p b.1 q r.1)[n]! =x at *
 generalize cm (Cy p b.2.1 q r.2.1) f n=d at *
 generalize cm (Cy p b.2.2 q r.2.2) g n=j at *
 generalize b.1[n]! =y at *
 generalize cm b.2.1 f n=k at *
 generalize cm b.2.2 g n=l at *
 generalize cm q r.1 n=z at *
 generalize cm q (jz r.2.1 f) n=m at *
 generalize cm q (jz r.2.2 g) n=o at *
 have e:x-(d+j)=(x-(y-z)) + -(d-(k-m)) + -(j-(l-o))+(y-(k+l)) + -(z-(m+o)):=()
 rw[e];exact br (br (br (br s (bF.mpr t)) (bF.mpr u)) v) (bF.mpr h)
structure SI (p:Int)(f g:List Int)(N:Nat)(b r:Row3):Prop where
 rb:RI p f g b
 rr:RI p f g r
 gcd:gc p b.1 r.1=gc p f g
 l1:ln r.2.1+ln b.1<=N
 l2:ln b.2.1+ln r.1<=N
 l3:ln r.2.2+ln b.1<=N
 l4:ln b.2.2+ln r.1<=N
theorem SI.step {p:Int}{f g:Li}{N:Nat}{b r:Row3}(t:mR p)(h:SI p f g N b r)(d:r.1≠[])(G:N<=200):SI p f g N r (rlF p b (VN p b.1 r.1) r)/\ln (rlF p b (VN p b.1 r.1) r).1<ln r.1/\ud p (Tz p b.1) (Tz p r.1)=.tup [.ints (VN p b.1 r.1),.ints (rm p r.1 b.1)]/\ln (VN p b.1 r.1)<=ln b.1/\Bd (VN p b.1 r.1):=by
 have A:=h.l1;have B:=h.l2;have C:=h.l3;have D:=h.l4;have ok:=ut t h.rr.f1.form h.rr.f1.red d ();have l:=qY h.rr.f1.form h.rr.f1.red;have E:=qY h.rb.f1.form h.rb.f1.red;obtain⟨q,e,I,s⟩:=Yz ok b.1;have j:VN p b.1 r.1=q:=by unfold VN;rw[e];rfl
 rw[j];rw[l]at I s;rw[E]at I;have e:ud p (Tz p b.1) (Tz p r.1)=.tup [.ints q,.ints (rm p r.1 b.1)]:=by rw[e,l]
 obtain⟨_,_,_,o⟩:=nF ok b.1;rw[l]at o;have i:Cy p b.1 q r.1=rm p r.1 b.1:=mK (lQ p _) I.rf λn=>wV (o6 p _ n) (I.rr n) (by
  have u:=PJ p b.1 q r.1 n;have v:=I.eq n;show p ∣ (Cy p b.1 q r.1)[n]!-(rm p r.1 b.1)[n]!;generalize (Cy p b.1 q r.1)[n]! =x at *
  generalize (rm p r.1 b.1)[n]! =y at *
  generalize cm q r.1 n=z at *
  have e:x-y=(x-(b.1[n]!-z)) + -(z+y-b.1[n]!):=()
  rw[e];exact br u (bF.mpr v))
 have J:=lP d;have H:=I.ql;have L:=I.rl;have len:∀{a c:List Int},ln c+ln b.1<=N->ln a+ln r.1<=N->ln (Cy p a q c)+ln r.1<=N:=λ{a c} u v=>by
  by_cases z:q=[]
  .subst z;have:=Zw p a c;lia
  .have:=lP z;have:=aaV p a q c;lia
 refine((h.rr,h.rb.step h.rr q,?_,len A B,?_,len C D,?_),?_,e,(),λm F=>?_)
 .show gc p r.1 (Cy p b.1 q r.1)=gc p f g;rw[i,<-h.gcd];exact(CZ (J4.step o)).symm
 .show ln r.2.1+ln (Cy p b.1 q r.1)<=N;rw[i];lia
 .show ln r.2.2+ln (Cy p b.1 q r.1)<=N;rw[i];lia
 .show ln (Cy p b.1 q r.1)<ln r.1;rw[i];exact s
 .obtain⟨n,_,k⟩:=FM.mem_getD F;have:=HJ t (I.qr n);rw[k]at this;exact vL this
theorem SI.start {p:Int}{f g:Li}{N:Nat}(h:mR p)(a:ln f+1<=N)(c:ln g+1<=N):SI p f g N (Tz p f,[1],[]) (Tz p g,[],[1]):=by
 have i:2<=p:=h.1;have one:Fo p [1]:=by
  refine(λ_=>(()),λn=>?_)
  match n with
  |0=>show pl p 1=1;rw[nU ()];exact bx (()) ()
  |n+1=>have e:([1]:List Int)[n+1]! =0:=jH (():1<=n+1);rw[e,oA]
 have nil:Fo p []:=(vY,λn=>by exact oA p);have l:=lH p f;have d:=lH p g;refine((.tz p f,one,nil,λn=>?_),(.tz p g,nil,one,λn=>?_),(CZ (J4.tz p f g)).symm,?_,?_,?_,?_)
 .show p ∣ (Tz p f)[n]!-(cm [1] f n+cm [] g n);rw[KQ,oG,bJ];exact We p f n
 .show p ∣ (Tz p g)[n]!-(cm [] f n+cm [1] g n);rw[KQ,oG,eE];exact We p g n
 .show 0+ln (Tz p f)<=N;lia
 .show 1+ln (Tz p g)<=N;lia
 .show 1+ln (Tz p f)<=N;lia
 .show 0+ln (Tz p g)<=N;lia
def Zz (t p:Int)(x:List Int):List Int:=Tz p (x.map λm=>t*m)
def Vo (p:Int)(f g:List Int):Row3:=Z6 p (ln (Tz p g)+1) (Tz p f,[1],[]) (Tz p g,[],[1])
def shF (p:Int)(f g:List Int):Row3:=(Zz (CW p (Vo p f g).1) p (Vo p f g).1,Zz (CW p (Vo p f g).1) p (Vo p f g).2.1,Zz (CW p (Vo p f g).1) p (Vo p f g).2.2)
theorem O6 (x:Row3):lY (Gp x) 0:=(((()):-(3:Int)<=0),((()):(0:Int)<3))
theorem aba (x:Row3):lY (Gp x) 1:=(((()):-(3:Int)<=1),((()):(1:Int)<3))
theorem aa3 (x:Row3):lY (Gp x) 2:=(((()):-(3:Int)<=2),((()):(2:Int)<3))
def F00:List PV->PV|[.ob 0 p,.tup [.ints a,.ints b,.ints c],.ints q,.tup [.ints d,.ints e,.ints f]]=>Gp (rlF p (a,b,c) q (d,e,f))|_=>.non
def La:Ok P w K mg base 5 "row_less" ["kind","row","often","other"] (uE K (Gk cW cR cP) (λas=>∃p x q y,as=[.ob 0 p,Gp x,.ints q,Gp y]/\mR p/\(ln x.1<=400/\ln x.2.1<=400/\ln x.2.2<=400)/\(ln q+ln y.1<=400/\ln q+ln y.2.1<=400/\ln q+ln y.2.2<=400)/\Bd q/\Bd y.1/\Bd y.2.1/\Bd y.2.2) F00):=by
 refine pX T.Pk Nj '!' (λf r A o s H E g=>(_,(jw (jB (nj %[jJ (m6 (JL T) g %[xv 0,xl_of (jF (xv 1) jt (λ_ _=>rz)),jJ (m6 (pL T) g %[xv 0,xl 2,xl_of (jF (xv 3) jt (λ_ _=>rz))|_])|_]),jJ (m6 (JL T) g %[xv 0,xl_of (jF (xv 1) jt (λ_ _=>rz)),jJ (m6 (pL T) g %[xv 0,xl 2,xl_of (jF (xv 3) jt (λ_ _=>rz))|_])|_]),jJ (m6 (JL T) g %[xv 0,xl_of (jF (xv 1) jt (λ_ _=>rz)),jJ (m6 (pL T) g %[xv 0,xl 2,xl_of (jF (xv 3) jt (λ_ _=>rz))|_])|_])|_]))),λas k=>?_));obtain⟨p,x,q,y,rfl,k,⟨F,G,I⟩,⟨t,u,v⟩,i,l,m,n⟩:=k;obtain⟨h0,j⟩:=Pg k;have len:∀d:List Int,ln q+ln d<=400->ln (Tz p (jz (Tz p q) (Tz p d)))<=500:=λd h=>by
  have z:=lH p (jz (Tz p q) (Tz p d));have B:=lH p q;have C:=lH p d;have D:ln (jz (Tz p q) (Tz p d))=ln (Tz p q)+ln (Tz p d):=by unfold jz;rw[ac,aC]
  lia
 exact((((rz,((rz,tT,O6 x),rz),((rz,rz,((rz,tT,O6 y),rz),tT),p,q,y.1,rz,h0,j,(),i,l),tT),p,x.1,_,rz,(),len _ t),((rz,((rz,tT,aba x),rz),((rz,rz,((rz,tT,aba y),rz),tT),p,q,y.2.1,rz,h0,j,(),i,m),tT),p,x.2.1,_,rz,(),len _ u),((rz,((rz,tT,aa3 x),rz),((rz,rz,((rz,tT,aa3 y),rz),tT),p,q,y.2.2,rz,h0,j,(),i,n),tT),p,x.2.2,_,rz,(),len _ v),tT),rz)
def Ut:Ok P w K mg base 6 "shares" ["kind","f","g"] (uE K (Gk cW cR cP) (λas=>∃p f g,as=[.ob 0 p,.ints f,.ints g]/\mR p/\ln f<=150/\ln g<=150) λs=>(λp f g=>Gp (shF p f g)) (zI s 0) (lI s 1) (lI s 2)):=by
 refine pX T.VP o8 '!' (λf cdv A D s H E m=>(_,(jr (jQ (i:=3) o8.nd rz k4 (nj %[jJ (m6 (jL T) m %[xv 0,xl 1|_]),jJ (j8 %[jt|_]),jJ (j8 ju)|_])) (jr (jQ (i:=4) o8.nd rz k4 (nj %[jJ (m6 (jL T) m %[xv 0,xl 2|_]),jJ (j8 ju),jJ (j8 %[jt|_])|_])) (jr (lD aw (adK (xl_of (jF (xv 4) jt (λ_ _=>rz)))) (jr (jG (i:=5) o8.nd rz k4 (xl_of (jF (xc (n8 T) m %[xv 0,xl_of (jF (xv 3) jt (λ_ _=>rz)),xl_of (jF (xv 4) jt (λ_ _=>rz))|_]) jt (λ_ _=>rz)))) (jr (jQ (i:=6) o8.nd rz k4 (xc (La T) m %[xv 0,xv 3,xl 5,xv 4|_])) (jr (jQ (i:=3) o8.nd rz k4 (xv 4)) (jw (jQ (i:=4) o8.nd rz k4 (xv 6))))))) (jr (jA (i:=7) o8.nd rz k4 (yW (vW T) m %[xv 0,xl_of (jF (xv 3) jt (λ_ _=>rz))|_])) (jw (jB (nj %[jJ (m6 (pA T) m %[xv 0,xl_of (jF (xv 3) jt (λ_ _=>rz)),xn 7|_]),jJ (m6 (pA T) m %[xv 0,xl_of (jF (xv 3) jt (λ_ _=>rz)),xn 7|_]),jJ (m6 (pA T) m %[xv 0,xl_of (jF (xv 3) jt (λ_ _=>rz)),xn 7|_])|_]))))))),λas d=>?_))
 obtain⟨p,f,g,rfl,d,hf,hg⟩:=d;obtain⟨N,hN⟩:∃N,N=max (ln f) (ln g)+1:=(_,rz);have U:N<=200:=()
 have Y:SI p f g N (Tz p f,[1],[]) (Tz p g,[],[1]):=SI.start d () ();refine((((rz,rz,tT),p,f,rz,()),((tT,tT),tT),(tT,tT),tT),λL o=>?_);have o:L=Gp (Tz p f,[1],[]):=o;refine((((rz,rz,tT),p,g,rz,()),(tT,tT),((tT,tT),tT),tT),λR v=>?_);have v:R=Gp (Tz p g,[],[1]):=v;refine jD (ρ':=[.fr (.ob 0 p),k7 f,k7 g,.fr L,.fr R,.un,.un,.un]) rz ?_;refine(λC=>∃b r I B k,C=[.fr (.ob 0 p),k7 f,k7 g,.fr (Gp b),.fr (Gp r),I,B,.un]/\SI p f g N b r/\ln r.1<k/\Z6 p k b r=Vo p f g,λC=>ln (mQ (vo (yr C 4) 0)),(_,_,.un,.un,ln (Tz p g)+1,by rw[o,v],Y,dA _,rz),?_);rintro C ⟨b,r,I,B,k,rfl,S,hk,M⟩;refine(((rz,tT,O6 r),rz),λc=>?_,λc=>?_)
 .have c:¬r.1=[]:=c;obtain⟨J,O,e,ql,Q⟩:=S.step d c U;have Z:=S.l1;have a2:=S.l2;have a3:=S.l3;have a4:=S.l4;have ok:=ut d S.rr.f1.form S.rr.f1.red c ();obtain⟨k,rfl⟩:∃n,k=n+1:=(k-1,());have l:Z6 p k r (rlF p b (VN p b.1 r.1) r)=Vo p f g:=by
   rw[<-M]
   conv=>rhs;unfold Z6
   rw[aF c]
  refine(((((rz,((rz,tT,O6 b),rz),((rz,tT,O6 r),rz),tT),p,b.1,r.1,rz,ok,()),tT,?_),?_),λq y=>?_)
  .show lY (ud p (Tz p b.1) (Tz p r.1)) 0;rw[e];exact(((()):(-2:Int)<=0),((()):(0:Int)<2))
  .show vo (ud p (Tz p b.1) (Tz p r.1)) 0=.ints (mQ (vo (ud p (Tz p b.1) (Tz p r.1)) 0));rw[e];rfl
  have y:q=VN p b.1 r.1:=y;rw[<-y]at J O ql Q l;clear e y;refine jD (ρ':=[.fr (.ob 0 p),k7 f,k7 g,.fr (Gp b),.fr (Gp r),k7 q,B,.un]) rz ?_;refine(((rz,rz,rz,rz,tT),p,b,q,r,rz,d,((),(),()),((),(),()),Q,S.rr.f1.bd d,S.rr.f2.bd d,S.rr.f3.bd d),λn x=>?_);have x:n=Gp (rlF p b q r):=x;refine jD (ρ':=[.fr (.ob 0 p),k7 f,k7 g,.fr (Gp b),.fr (Gp r),k7 q,.fr n,.un]) rz ?_;refine(rz,λb1 u=>(rz,λF j=>((r,rlF p b q r,k7 q,.fr n,k,?_,J,(),l),?_)))
  .have u:b1=Gp r:=u;have j:F=n:=j;rw[u,j,x];rfl
  .have j:F=n:=j;show ln (mQ (vo F 0))<ln r.1;rw[j,x];exact O
 .have c:¬¬r.1=[]:=c;have c:r.1=[]:=bH.mp c;have Z:=S.l1;have a2:=S.l2;have a4:=S.l4;obtain⟨k,rfl⟩:∃n,k=n+1:=(k-1,());have l:b=Vo p f g:=by rw[<-M];unfold Z6;rw[aL c]
  refine(((rz,((rz,tT,O6 b),rz),tT),p,b.1,rz,d,S.rb.f1.form,S.rb.f1.red),λt z=>?_);have z:t=CW p b.1:=z;have G:t.natAbs<2^9000:=by rw[z];exact aas d
  refine jD (ρ':=[.fr (.ob 0 p),k7 f,k7 g,.fr (Gp b),.fr (Gp r),I,B,k6 t]) rz ?_;refine((((rz,((rz,tT,O6 b),rz),rz,tT),p,b.1,t,rz,(),G,S.rb.f1.bd d),((rz,((rz,tT,aba b),rz),rz,tT),p,b.2.1,t,rz,(),G,S.rb.f2.bd d),((rz,((rz,tT,aa3 b),rz),rz,tT),p,b.2.2,t,rz,(),G,S.rb.f3.bd d),tT),?_);show PV.tup [.ints (Zz t p b.1),.ints (Zz t p b.2.1),.ints (Zz t p b.2.2)]=Gp (shF p f g);unfold shF;rw[<-l,z];rfl
theorem rJ (t:List (List Int)):(t.map PV.ints).map mQ=t:=by rw[bj];have:mQ ∘ PV.ints=id:=rfl;rw[this,cC]
theorem Wz {R:List (List Int)}{k:Nat}(h:k<ln R):(R.map PV.ints).getD k .non=.ints (R[k]'[]):=by rw[gQ,gQ,ag,ae h];rfl
theorem WR {t:List (List Int)}{i:Nat}(h:i<ln t):vo (jE t) (i:Int)=.ints (t[i]'[]):=by show(t.map PV.ints).getD (j6 (ln (t.map PV.ints)) (i:Int)) .non=_;have e:j6 (ln (t.map PV.ints)) (i:Int)=i:=rZ;rw[e,Wz h]
theorem abB {t:List (List Int)}{i:Nat}(h:i<ln t):lY (jE t) (i:Int):=by show -(ln (t.map PV.ints):Int)<=(i:Int)/\(i:Int)<(ln (t.map PV.ints):Int);rw[ac];lia
theorem ab9 {t:List (List Int)}{i:Nat}(h:i<ln t):mQ (vo (jE t) (i:Int))=t[i]'[]:=by rw[WR h];rfl
theorem abC {t:List (List Int)}{i:Nat}(h:i<ln t):vo (jE t) (i:Int)=.ints (mQ (vo (jE t) (i:Int))):=by rw[WR h];rfl
theorem aeD {n j:Nat}(h:j<n):j6 n (j:Int)=j:=rZ
def nY {a:Type}{t:List a}{d:a}{i:Nat}(h:i<ln t):t.getD i d=t[i]:=by rw[gQ,ae h];rfl
def wd (m:Int)(r:List Int):List Int:=r++sP (m-(ln r:Int)).toNat 0
theorem Oi (m:Int)(r:Li)(n:Nat):(wd m r)[n]! =r[n]!:=za r _ n
theorem Qc (h:(ln r:Int)<=m):(ln (wd m r):Int)=m:=by unfold wd;rw[aS,aR];lia
def qm (p:Int)(d f:List Int)(n:Nat):List (List Int):=(ss n).map λk=>wd ((ln d:Int)-1) (rm p d (pw f k))
theorem Od (p:Int)(d f:Li)(n:Nat):qm p d f (n+1)=qm p d f n++[wd ((ln d:Int)-1) (rm p d (pw f n))]:=by unfold qm;rw[fw,bv];rfl
theorem Ab (p:Int)(d f:Li)(n:Nat):ln (qm p d f n)=n:=by unfold qm;rw[ac,aC]
theorem Qt (h:k<n):(qm p d f n)[k]'[]=wd ((ln d:Int)-1) (rm p d (pw f k)):=by unfold qm;rw[gQ,ag,bU h];rfl
def GX:Ok P w K mg base 6 "power_rows" ["kind","f","count","g"] (uE K (Gk cW cR cP) (λas=>∃p f,∃n:Nat,∃g,as=[.ob 0 p,.ints f,.int (n:Int),.ints g]/\Nu p g/\ln f<=50/\Bd f/\ln (Tz p g)<=100/\n<=100) λs=>(λp f n g=>jE (qm p (Tz p g) f n.toNat)) (zI s 0) (lI s 1) (zI s 2) (lI s 3)):=by
 refine pX T.Jz nO '!' (λf C A t s H E r=>(_,(jr (jA (i:=4) nO.nd rz k4 (lw (lL T.jM (jJ (m6 (jL T) r %[xv 0,xl 3|_]))) jt)) (jr (jG (i:=5) nO.nd rz k4 (Yb (Hh T) r %[xv 0,xl 1,jt,xl 3|_])) (jr (oW (i:=6) nO.nd rz k4 (oN ju)) (jr (oh (k:=7) aw rz (by rfl) T.lM (xn 2) nO.nd rz k4 (jr (sy 6 (jJ (uT (xl 5) (jJ (rW (j8 %[jt|_]) (lw (xn 4) (jO 5 T.jM)) (λ_=>rz)))))) (jw (jG (i:=5) nO.nd rz k4 (Yb (wk T) r %[xv 0,xl 5,xl 1,xl 3|_]))))) (j7 6 (jw (jB (xv 6)))))))),λas M=>?_))
 obtain⟨p,f,n,g,rfl,ok,Q,J,L,S⟩:=M;have O:=ok.len;refine(((((rz,rz,tT),p,g,rz,()),tT),tT),λD j=>?_);have j:D=(ln (Tz p g):Int)-1:=j;subst j;refine(((rz,rz,tT,rz,tT),p,f,0,g,rz,ok,(),L),λB m=>?_);have m:B=rm p (Tz p g) (pw f 0):=m;refine(tT,λz l=>?_);have l:z=[]:=l;refine jD (ρ':=[.fr (.ob 0 p),k7 f,k6 (n:Int),k7 g,k6 ((ln (Tz p g):Int)-1),k7 B,.ow (.lst z),.un]) rz ?_;refine(rz,((():-(2:Int)^62<=(n:Int)),(():(n:Int)<2^62)),λi u=>∃v,u=[.fr (.ob 0 p),k7 f,k6 (n:Int),k7 g,k6 ((ln (Tz p g):Int)-1),k7 (rm p (Tz p g) (pw f i)),.ow (jE (qm p (Tz p g) f i)),v],(.un,by rw[m,l];rfl),?_,?_)
 .rintro i u x ⟨v,rfl⟩;have x:i<((n:Nat):Int).toNat:=x;obtain⟨_,_,y,G⟩:=nF ok (pw f i);have F:rm p (Tz p g) (pw f (i+1))=rm p (Tz p g) (jz (rm p (Tz p g) (pw f i)) f):=Xh ok (G.mul f);generalize I:rm p (Tz p g) (pw f i)=R at *
  have U:=y.len;refine(rz,(rz,(((tT,tT),tT),(rz,.inl rz),?_,?_),?_),?_,?_)
  .show -(2:Int)^63<=(ln (Tz p g):Int)-1-(ln R:Int);lia
  .show((ln (Tz p g):Int)-1-(ln R:Int)).toNat<=1000;lia
  .refine a7 (small1000 ?_);show ln R+(sP ((ln (Tz p g):Int)-1-(ln R:Int)).toNat (0:Int)).length<=1000;rw[aR];lia
  .show ln ((qm p (Tz p g) f i).map PV.ints)<sizeLine;rw[ac,Ab];exact small1000 ()
  refine jD (ρ':=[.fr (.ob 0 p),k7 f,k6 (n:Int),k7 g,k6 ((ln (Tz p g):Int)-1),k7 R,.ow (jE (qm p (Tz p g) f (i+1))),k6 (i:Int)]) ?_ ?_
  .have e:jE (qm p (Tz p g) f (i+1))=.lst ((qm p (Tz p g) f i).map PV.ints++[.ints (wd ((ln (Tz p g):Int)-1) R)]):=by rw[Od,I];unfold jE;rw[bv];rfl
   rw[e];rfl
  refine(((rz,rz,rz,rz,tT),p,R,f,g,rz,ok,(),y.zbd ok.pr,J),λN o=>(k6 (i:Int),?_));have o:N=rm p (Tz p g) (jz R f):=o;rw[F,<-o];rfl
 .rintro u ⟨v,rfl⟩;exact(rz,rz)
def LC:Ok P w K mg base 7 "powering" ["kind","g"] (uE K (Gk cW cR cP) (λas=>∃p g,as=[.ob 0 p,.ints g]/\Nu p g/\ln (Tz p g)<=40) λs=>(λp g=>jE (qm p (Tz p g) (rm p (Tz p g) (pw [0,1] p.toNat)) (ln (Tz p g)-1))) (zI s 0) (lI s 1)):=by
 refine pX T.N6 BL '!' (λf k A o s H E c=>(_,(jr (jA (i:=2) BL.nd rz k4 (lw (lL T.jM (jJ (m6 (jL T) c %[xv 0,xl 1|_]))) jt)) (jw (jB (xc (GX T) c %[xv 0,Yb (Hh T) c %[xv 0,jJ (j8 %[jt,jt|_]),JP (ksz T) (xv 0),xl 1|_],xn 2,xl 1|_])))),λas m=>?_))
 obtain⟨p,g,rfl,ok,u⟩:=m;have t:=ok.len;have v:2<=p:=ok.pr.1;have n:=lP ok.ne;refine(((((rz,rz,tT),p,g,rz,()),tT),tT),λd e=>?_);have e:d=(ln (Tz p g):Int)-1:=e;have e:d=((ln (Tz p g)-1:Nat):Int):=()
 subst e;obtain⟨_,_,j,r⟩:=nF ok (pw [0,1] p.toNat);have x:=j.len;have l:((p.toNat:Nat):Int)=p:=()
 refine(((rz,((rz,((tT,tT,tT),tT),(rz,rz),rz,tT),p,[0,1],p.toNat,g,?_,ok,(()),()),rz,rz,tT),p,rm p (Tz p g) (pw [0,1] p.toNat),ln (Tz p g)-1,g,rz,ok,(),j.zbd ok.pr,(),()),rz);show[PV.ob 0 p,.ints [0,1],.int p,.ints g]=[.ob 0 p,.ints [0,1],.int ((p.toNat:Nat):Int),.ints g];rw[l]
def dl (f:List Int):List Int:=(ss (ln f)).map λ(n:Nat)=>((n:Int)+1)*f[n+1]!
theorem Ag (f:Li)(n:Nat):(dl f)[n]! =((n:Int)+1)*f[n+1]!:=by
 unfold dl;by_cases h:n<ln f
 .rw[lC (by rw[ac,aC];exact h),cA,cq]
 .rw[jH (by rw[ac,aC];lia),jH (),aX]
theorem ad1 (u v:Li)(n:Nat):((n:Int)+1)*cm u v (n+1)=cm (dl u) v n+cm u (dl v) n:=by
 have e:cm (dl u) v n=sm (n+1+1) λi=>(i:Int)*(u[i]!*v[n+1-i]!):=by rw[rC];unfold cm;rw[show((0:Nat):Int)*(u[0]!*v[n+1-0]!)=0 by rw[Int.natCast_zero,bX],eE];refine kY λi _=>?_;rw[Ag,show n+1-(i+1)=n-i by lia,bQ];rfl
 have a:cm u (dl v) n=sm (n+1+1) λi=>((n:Int)+1-(i:Int))*(u[i]!*v[n+1-i]!):=by show sm (n+1) _=sm (n+1) _+((n:Int)+1-((n+1:Nat):Int))*_;rw[show(n:Int)+1-((n+1:Nat):Int)=0 by lia,bX,bJ];refine kY λi h=>?_;rw[Ag,show n-i+1=n+1-i by lia,show((n-i:Nat):Int)+1=(n:Int)+1-(i:Int) by lia,da]
 rw[e,a,<-Aa];unfold cm;rw[<-uV];refine kY λi _=>?_;rw[<-eS];congr 1;lia
theorem abr (u v:Li)(n:Nat):(dl (jz u v))[n]! =cm (dl u) v n+cm u (dl v) n:=by rw[Ag,jC,ad1]
def Co (p:Int)(f g:List Int):Prop:=Lc p f g [1]
def Sq (p:Int)(f:List Int):Prop:=Co p f (dl f)
theorem Lc.unit (a:p ∣ t*c-1)(h:Lc p f g [c]):Lc p f g [1]:=(h.mul [t]).congr λn=>by
 rw[jC,W6];cases n with
 |zero=>
  show p ∣ 1-t*c;have e:1-t*c = -(t*c-1):=()
  rw[e];exact bF.mpr a
 |succ n=>show p ∣ 0-t*0;rw[aX];exact bK p
theorem K9 (b a:Int)(f:Li)(n:Nat):cm [b,a] f n=b*f[n]!+if n=0 then 0 else a*f[n-1]!:=by
 rw[sI];congr 1;split
 .rfl
 .rw[W6]
theorem Vn (i:2<=p)(h:GC p f g r):r=[1] ↔ Co p f g:=by
 refine(λe=>by rw[e]at h;exact h.lc,λc=>?_);have o:pl p 1=1:=by rw[nU ()];exact bx () ()
 have d:∀a:List Int,Dv p [1] a:=λa=>(a,λn=>by
  show p ∣ a[n]!-0-cm a [1] n;rw[t7,dR,cQ];exact bK p)
 refine h.acQ (λ_=>(()),λn=>?_,.inr rz,c,d f,d g)
 match n with
 |0=>exact o
 |n+1=>exact oA p
structure oM where
 at':Nat->Int
namespace oM
theorem ext {a b:oM}(h:∀n,a.at' n=b.at' n):a=b:=by cases a;cases b;congr 1;exact funext h
def tr (a:oM)(n:Nat):List Int:=(ss (n+1)).map a.at'
theorem JD {a:oM}{n i:Nat}(h:i<=n):(tr a n)[i]! =a.at' i:=by unfold tr;rw[lC (by rw[ac,aC];lia),cA,cq]
def mul (a b:oM):oM:=⟨λn=>sm (n+1) λi=>a.at' i*b.at' (n-i)⟩
def con (c:Int):oM:=⟨λn=>if n=0 then c else 0⟩
instance:Add oM:=⟨λa b=>⟨λn=>a.at' n+b.at' n⟩⟩
instance:Mul oM:=⟨mul⟩
instance:Neg oM:=⟨λa=>⟨λn=>-a.at' n⟩⟩
instance:Sub oM:=⟨λa b=>⟨λn=>a.at' n-b.at' n⟩⟩
instance:NatCast oM:=⟨λk=>con (k:Int)⟩
instance:IntCast oM:=⟨con⟩
instance (k:Nat):OfNat oM k:=⟨con (k:Int)⟩
instance:SMul Nat oM:=⟨λk a=>con (k:Int)*a⟩
instance:SMul Int oM:=⟨λk a=>con k*a⟩
def pw (a:oM):Nat->oM
 |0=>con 1
 |n+1=>pw a n*a
instance:HPow oM Nat oM:=⟨pw⟩
theorem WL (a b:oM)(n:Nat):(a+b).at' n=a.at' n+b.at' n:=rfl
theorem yw (a b:oM)(n:Nat):(a*b).at' n=sm (n+1) λi=>a.at' i*b.at' (n-i):=rfl
theorem Jr (a b:oM){n m:Nat}(h:n<=m):(a*b).at' n=cm (tr a m) (tr b m) n:=by rw[yw];unfold cm;exact kY λi c=>by rw[JD (),JD ()]
theorem mul_comm (a b:oM):a*b=b*a:=ext λn=>by rw[Jr a b (ao n),Jr b a (ao n),lB]
theorem mul_assoc (a b c:oM):a*b*c=a*(b*c):=ext λn=>by
 have e:(a*b*c).at' n=cm (jz (tr a n) (tr b n)) (tr c n) n:=by rw[yw];unfold cm;exact kY λi h=>by rw[jC,<-Jr a b (show i<=n by lia),JD ()]
 have d:(a*(b*c)).at' n=cm (tr a n) (jz (tr b n) (tr c n)) n:=by rw[yw];unfold cm;exact kY λi h=>by rw[jC,<-Jr b c (show n-i<=n by lia),JD ()]
 rw[e,d,ni]
theorem oK (c:Int)(a:oM)(n:Nat):(con c*a).at' n=c*a.at' n:=by
 rw[yw,rC];have z:(sm n λi=>(con c).at' (i+1)*a.at' (n-(i+1)))=0:=wR λi _=>by show(if i+1=0 then c else 0)*_=0;rw[aF (),bX]
 rw[z,bJ];show(if 0=0 then c else 0)*a.at' (n-0)=c*a.at' n;rw[aL rfl];rfl
theorem Rh (a b c:oM):a*(b+c)=a*b+a*c:=ext λn=>by rw[WL,yw,yw,yw,<-Aa];exact kY λi _=>by rw[WL,gz]
instance:Lean.Grind.CommRing oM where
 add_zero a:=ext λn=>by show a.at' n+(if n=0 then((0:Nat):Int) else 0)=a.at' n;split<;>lia
 add_comm a b:=ext λn=>jd _ _
 add_assoc a b c:=ext λn=>Int.add_assoc _ _ _
 mul_assoc:=mul_assoc
 mul_one a:=by rw[mul_comm];exact ext λn=>by show(con ((1:Nat):Int)*a).at' n=a.at' n;rw[oK];exact bw _
 one_mul a:=ext λn=>by show(con ((1:Nat):Int)*a).at' n=a.at' n;rw[oK];exact bw _
 left_distrib:=Rh
 right_distrib a b c:=by rw[mul_comm,Rh,mul_comm c,mul_comm c]
 mul_zero a:=by rw[mul_comm];exact ext λn=>by show(con ((0:Nat):Int)*a).at' n=(con ((0:Nat):Int)).at' n;rw[oK];show((0:Nat):Int)*a.at' n=if n=0 then((0:Nat):Int) else 0;split<;>simp
 zero_mul a:=ext λn=>by show(con ((0:Nat):Int)*a).at' n=(con ((0:Nat):Int)).at' n;rw[oK];show((0:Nat):Int)*a.at' n=if n=0 then((0:Nat):Int) else 0;split<;>simp
 pow_zero _:=rfl
 pow_succ _ _:=rfl
 ofNat_succ k:=ext λn=>by show(if n=0 then((k+1:Nat):Int) else 0)=(if n=0 then((k:Nat):Int) else 0)+if n=0 then((1:Nat):Int) else 0;split<;>lia
 ofNat_eq_natCast _:=rfl
 nsmul_eq_natCast_mul _ _:=rfl
 neg_add_cancel a:=ext λn=>by show -a.at' n+a.at' n=if n=0 then((0:Nat):Int) else 0;split<;>lia
 sub_eq_add_neg a b:=ext λn=>Int.sub_eq_add_neg
 neg_zsmul i a:=ext λn=>by show(con (-i)*a).at' n = -(con i*a).at' n;rw[oK,oK,Int.neg_mul]
 zsmul_natCast_eq_nsmul _ _:=rfl
 intCast_ofNat _:=rfl
 intCast_neg i:=ext λn=>by show(if n=0 then -i else 0) = -(if n=0 then i else 0);split<;>lia
 mul_comm:=mul_comm
end oM
def sr (l:List Int):oM:=⟨λn=>l[n]!⟩
theorem PQ (a b:Li):sr (lJ a b)=sr a+sr b:=oM.ext λn=>mL a b n
theorem qN (a b:Li):sr (jz a b)=sr a*sr b:=oM.ext λn=>jC a b n
theorem uX (c:Int)(a:Li):sr (Ih c a)=oM.con c*sr a:=oM.ext λn=>by rw[oM.oK];exact qi c a n
theorem UJ {a b:Li}(h:∀n,a[n]! =b[n]!):sr a=sr b:=oM.ext h
theorem Qi:sr [1]=1:=oM.ext λn=>by
 show([1]:List Int)[n]! =if n=0 then((1:Nat):Int) else 0
 match n with
 |0=>rfl
 |n+1=>rfl
theorem adN (a b:Li)(n:Nat):cm a b n=(sr a*sr b).at' n:=rfl
theorem z8 {q:Int}{a:oM}:(∀n,q ∣ a.at' n) ↔ ∃y,a=oM.con q*y:=by
 refine(λh=>?_,λ (y,e) n=>?_)
 .refine(⟨λn=>a.at' n / q⟩,oM.ext λn=>?_);rw[oM.oK];exact(iQ (h n)).symm
 .rw[e,oM.oK];exact Int.dvd_mul_right _ _
theorem Jv {q:Int}{d a b:Li}:mJ q d a b ↔ ∃o:List Int,∃y:oM,sr a=sr b+sr o*sr d+oM.con q*y:=by
 refine(λ (o,h)=>?_,λ (o,y,e)=>(o,λn=>?_))
 .obtain⟨y,e⟩:=(z8 (a:=sr a-sr b-sr o*sr d)).mp h;exact(o,y,by grind)
 .have:sr a-sr b-sr o*sr d=oM.con q*y:=by grind
  exact z8.mpr (y,this) n
def qM:Nat->Nat->Int
 |_,0=>1
 |0,_+1=>0
 |n+1,k+1=>qM n k+qM n (k+1)
theorem vZ (n:Nat):qM n 0=1:=by cases n<;>rfl
theorem wI:∀{n k:Nat},n<k->qM n k=0
 |0,k+1,_=>rfl
 |n+1,k+1,h=>by show qM n k+qM n (k+1)=0;rw[wI (),wI ()];rfl
theorem Ni:∀n,qM n n=1
 |0=>rfl
 |n+1=>by show qM n n+qM n (n+1)=1;rw[Ni n,wI ()];rfl
theorem CK:∀n k:Nat,((k:Int)+1)*qM (n+1) (k+1)=((n:Int)+1)*qM n k
 |0,0=>by rfl
 |0,k+1=>by have c:qM (0+1) (k+1+1)=0:=wI ();have a:qM 0 (k+1)=0:=rfl;rw[c,a,aX,aX]
 |n+1,0=>by have h:=CK n 0;have e:qM (n+1+1) (0+1)=qM (n+1) 0+qM (n+1) (0+1):=rfl;rw[e,gz,h,vZ,vZ];lia
 |n+1,j+1=>by
  have i:=CK n (j+1);have l:=CK n j;have e:qM (n+1+1) (j+1+1)=qM (n+1) (j+1)+qM (n+1) (j+1+1):=rfl;have a:qM (n+1) (j+1)=qM n j+qM n (j+1):=rfl;rw[e,gz,i];have d:(((j+1:Nat):Int)+1)*qM (n+1) (j+1)=((j:Int)+1)*qM (n+1) (j+1)+qM (n+1) (j+1):=by rw[eS,bw];rfl
  rw[d,l];have f:(((n+1:Nat):Int)+1)*qM (n+1) (j+1)=((n:Int)+1)*qM (n+1) (j+1)+qM (n+1) (j+1):=by rw[eS (((n+1:Nat):Int)),bw];rfl
  have g:((n:Int)+1)*qM (n+1) (j+1)=((n:Int)+1)*qM n j+((n:Int)+1)*qM n (j+1):=by rw[a,gz]
  rw[f,g];lia
theorem YW (f:mR p){n j:Nat}(e:(n:Int)+1=p)(i:j<n):p ∣ qM (n+1) (j+1):=by
 have h:=CK n j;have g:Int.gcd ((j:Int)+1) (p^1)=1:=QB f (by rw[bx () ()];lia) 1;rw[Int.pow_one]at g;have d:p ∣ ((j:Int)+1)*qM (n+1) (j+1):=by rw[h,e];exact Int.dvd_mul_right _ _
 have a:=dC.mpr d;rw[dS]at a;have c:Nat.Coprime p.natAbs ((j:Int)+1).natAbs:=by show Nat.gcd p.natAbs ((j:Int)+1).natAbs=1;rw[jk];exact g
 exact dC.mp (c.dvd_of_dvd_mul_left a)
theorem Wr {F:Nat->Nat->Nat->Int}(h:∀i j n,F i j (n+1)=F (i+1) j n+F i (j+1) n):∀n i j,F i j n=sm (n+1) λk=>qM n k*F (i+k) (j+(n-k)) 0
 |0,i,j=>by show F i j 0=0+1*F (i+0) (j+(0-0)) 0;rw[bw,eE];rfl
 |n+1,i,j=>by
  rw[h,Wr h n (i+1) j,Wr h n i (j+1),rC (λk=>qM (n+1) k*F (i+k) (j+(n+1-k)) 0) (n+1)];have g:sm (n+1) (λk=>qM n k*F (i+k) (j+1+(n-k)) 0)=sm (n+2) (λk=>qM n k*F (i+k) (j+1+(n-k)) 0):=
   (Cw () λk o p=>by rw[wI (),bX]).symm
  rw[g,rC (λk=>qM n k*F (i+k) (j+1+(n-k)) 0) (n+1)];have l:qM (n+1) 0*F (i+0) (j+(n+1-0)) 0=qM n 0*F (i+0) (j+1+(n-0)) 0:=by
   rw[vZ,vZ];have:j+(n+1-0)=j+1+(n-0):=()
   rw[this]
  have m:sm (n+1) (λk=>qM (n+1) (k+1)*F (i+(k+1)) (j+(n+1-(k+1))) 0)=sm (n+1) (λk=>qM n k*F (i+1+k) (j+(n-k)) 0)+sm (n+1) (λk=>qM n (k+1)*F (i+(k+1)) (j+1+(n-(k+1))) 0):=by
   rw[<-Aa];refine kY λk r=>?_;have a:i+1+k=i+(k+1):=()
   have d:j+(n+1-(k+1))=j+(n-k):=()
   have e:qM (n+1) (k+1)=qM n k+qM n (k+1):=rfl;rw[a,d,e,eS];by_cases c:k=n
   .rw[wI (show n<k+1 by lia),bX,bX]
   .have f:j+1+(n-(k+1))=j+(n-k):=()
    rw[f]
  rw[l,m];lia
theorem Vs (c:mR p){F:Nat->Nat->Nat->Int}(h:∀i j n,F i j (n+1)=F (i+1) j n+F i (j+1) n):p ∣ F 0 0 p.toNat-(F p.toNat 0 0+F 0 p.toNat 0):=by
 have s:2<=p:=c.1;obtain⟨n,hn⟩:∃n,p.toNat=n+1:=(p.toNat-1,());have a:(n:Int)+1=p:=()
 rw[hn,Wr h (n+1) 0 0];have e:sm (n+1+1) (λk=>qM (n+1) k*F (0+k) (0+(n+1-k)) 0)=qM (n+1) 0*F (0+0) (0+(n+1-0)) 0+sm n (λk=>qM (n+1) (k+1)*F (0+(k+1)) (0+(n+1-(k+1))) 0)+qM (n+1) (n+1)*F (0+(n+1)) (0+(n+1-(n+1))) 0:=by show sm (n+1) _+_=_;rw[rC]
 rw[e,vZ,Ni,bw,bw];have f:0+(n+1-0)=n+1:=()
 have g:0+(n+1-(n+1))=0:=()
 have l:0+(n+1)=n+1:=()
 rw[f,g,l];have d:p ∣ sm n (λk=>qM (n+1) (k+1)*F (0+(k+1)) (0+(n+1-(k+1))) 0):=Ek λk r=>bM (YW c a r);have m:F (0+0) (n+1) 0=F 0 (n+1) 0:=rfl;rw[m];generalize sm n (λk=>qM (n+1) (k+1)*F (0+(k+1)) (0+(n+1-(k+1))) 0)=S at *
 have o:F 0 (n+1) 0+S+F (n+1) 0 0-(F (n+1) 0 0+F 0 (n+1) 0)=S:=()
 rw[o];exact d
theorem adh {p:Int}(g:mR p)(d a b:Li):mJ p d (pw (lJ a b) p.toNat) (lJ (pw a p.toNat) (pw b p.toNat)):=.of λx=>by
 have h:=Vs g (F:=λi j n=>cm (jz (pw a i) (pw b j)) (pw (lJ a b) n) x) λi j n=>by
  show cm (jz (pw a i) (pw b j)) (jz (pw (lJ a b) n) (lJ a b)) x=cm (jz (jz (pw a i) a) (pw b j)) (pw (lJ a b) n) x+cm (jz (pw a i) (jz (pw b j) b)) (pw (lJ a b) n) x;generalize pw (lJ a b) n=W;generalize pw a i=A;generalize pw b j=B;rw[<-ni,lB,uM];have k:cm a (jz (jz A B) W) x=cm (jz (jz A a) B) W x:=by rw[<-ni];refine uP (λn=>?_) (λ_=>rz) x;rw[jC,jC,<-ni];exact uP (λn=>by rw[jC,jC,lB]) (λ_=>rz) n
  have l:cm b (jz (jz A B) W) x=cm (jz A (jz B b)) W x:=by rw[<-ni];refine uP (λn=>?_) (λ_=>rz) x;rw[jC,jC,lB,ni]
  rw[k,l]
 have e:cm (jz (pw a 0) (pw b 0)) (pw (lJ a b) p.toNat) x=(pw (lJ a b) p.toNat)[x]!:=by rw[lB,<-t7 (pw (lJ a b) p.toNat) x];refine uP (λ_=>rz) (λn=>?_) x;rw[jC];exact t7 _ n
 have c:cm (jz (pw a p.toNat) (pw b 0)) (pw (lJ a b) 0) x=(pw a p.toNat)[x]!:=by show cm (jz (pw a p.toNat) [1]) [1] x=_;rw[t7,jC,t7]
 have f:cm (jz (pw a 0) (pw b p.toNat)) (pw (lJ a b) 0) x=(pw b p.toNat)[x]!:=by show cm (jz [1] (pw b p.toNat)) [1] x=_;rw[t7,jC,lB,t7]
 rw[e,c,f]at h;rw[mL];exact h
theorem pw_1 (p:Int)(d:Li):∀n,mJ p d (pw [1] n) [1]
 |0=>.refl p d _
 |n+1=>(mJ.one p d (pw [1] n)).trans (pw_1 p d n)
theorem pw_c (h:mR p)(d:Li):∀c:Nat,mJ p d (pw [(c:Int)] p.toNat) [(c:Int)]
 |0=>by
  have a:2<=p:=h.1;obtain⟨n,hn⟩:∃n,p.toNat=n+1:=(p.toNat-1,());rw[hn];have z:∀n,([((0:Nat):Int)]:List Int)[n]! =0:=λn=>by cases n<;>rfl
  refine Sm.eqm λk=>?_;show(jz (pw [((0:Nat):Int)] n) [((0:Nat):Int)])[k]! =_;rw[jC,lB,Ro z,z]
 |c+1=>by have e:([((c+1:Nat):Int)]:List Int)=lJ [(c:Int)] [1]:=rfl;rw[e];exact(adh h d [(c:Int)] [1]).trans ((pw_c h d c).add (pw_1 p d _))
def lcb (X:Nat->List Int):List Int->Nat->List Int
 |[],_=>[]
 |c::t,s=>lJ (Ih c (X s)) (lcb X t (s+1))
theorem aaa {p a b t:Int}(d:mR p)(g:p ∣ t*a-1):mJ p [b,a] (pw [0,1] p.toNat) [0,1]:=by
 have j:0<p:=by have:=d.1;lia
 have i:=a8 (-(t*b)) (show p≠0 by lia);obtain⟨c,ec⟩:∃c:Nat,(c:Int)=(-(t*b)) % p:=(((-(t*b)) % p).toNat,());have f:p ∣ (c:Int) - -(t*b):=by rw[ec];exact(-(-(t*b) / p),by have:=iK (-(t*b)) p;rw[gx];lia)
 have h:mJ p [b,a] [0,1] [(c:Int)]:=([t],λn=>by
  rw[sI,oG]
  match n with
  |0=>
   show p ∣ 0-(c:Int)-(t*b+0);have e:0-(c:Int)-(t*b+0) = -((c:Int) - -(t*b)):=()
   rw[e];exact bF.mpr f
  |1=>
   show p ∣ 1-0-(t*a+0);have e:1-0-(t*a+0) = -(t*a-1):=()
   rw[e];exact bF.mpr g
  |n+2=>
   show p ∣ 0-0-(t*0+0);rw[aX];exact bK p)
 exact(pw_mod h _).trans ((pw_c d _ c).trans h.symm)
theorem Ax {q:Int}{f g r:Li}:Lc q f g r ↔ ∃s t:List Int,∃y:oM,sr r=sr s*sr f+sr t*sr g+oM.con q*y:=by
 refine(λ (s,t,h)=>?_,λ (s,t,y,e)=>(s,t,λn=>?_))
 .obtain⟨y,e⟩:=(z8 (a:=sr r-(sr s*sr f+sr t*sr g))).mp h;exact(s,t,y,by grind)
 .have:sr r-(sr s*sr f+sr t*sr g)=oM.con q*y:=by grind
  exact z8.mpr (y,this) n
theorem ab5 (a b:Li):sr (q8 a b)=sr a-sr b:=oM.ext λn=>oO a b n
theorem adm (u v:Li):sr (dl (jz u v))=sr (dl u)*sr v+sr u*sr (dl v):=oM.ext λn=>abr u v n
def aco {p:Int}{u v a b:Li}(h:mJ p u a b)(k:mJ p v a b)(c:Co p u v):mJ p (jz u v) a b:=by
 obtain⟨o,g,d⟩:=Jv.mp h;obtain⟨o2,i,f⟩:=Jv.mp k;obtain⟨s,t,y,e⟩:=Ax.mp c;rw[Qi]at e;refine Jv.mpr (lJ (jz o2 s) (jz o t),i*sr s*sr u+g*sr t*sr v+(sr a-sr b)*y,?_);rw[PQ,qN,qN,qN];generalize sr a=A at *
 generalize sr b=B at *
 generalize sr u=U at *
 generalize sr v=V at *
 generalize sr s=S at *
 generalize sr t=T at *
 generalize sr o=O at *
 generalize sr o2=j at *
 generalize oM.con p=Q at *
 have z:A=B+(A-B)*(S*U+T*V+Q*y):=by rw[<-e];grind
 have l:(A-B)*(T*V)=(O*U+Q*g)*(T*V):=by rw[d];clear f e z;grind
 have m:(A-B)*(S*U)=(j*V+Q*i)*(S*U):=by rw[f];clear d e z l;grind
 refine z.trans ?_;clear d f e z h k c;grind
theorem Xr {p:Int}{u v:Li}(h:Sq p (jz u v)):Co p u v/\Sq p v:=by
 obtain⟨s,t,y,e⟩:=Ax.mp h;rw[adm,qN]at e;refine(Ax.mpr (lJ (jz s v) (jz t (dl v)),jz t (dl u),y,?_),Ax.mpr (lJ (jz s u) (jz t (dl u)),jz t u,y,?_))
 .rw[PQ,qN,qN,qN];grind
 .rw[PQ,qN,qN,qN];grind
def By:List (List Int)->List Int
 |[]=>[1]
 |u::r=>jz u (By r)
theorem Sw {p:Int}(d:mR p):∀{L:List (List Int)},(∀u∈L,∃b a t,u=[b,a]/\p ∣ t*a-1)->Sq p (By L)->mJ p (By L) (pw [0,1] p.toNat) [0,1]
 |[],_,_=>(q8 (pw [0,1] p.toNat) [0,1],λn=>by
  show p ∣ _-_-cm _ [1] n;rw[t7,oO,cQ];exact bK p)
 |u::r,h,s=>by obtain⟨c,g⟩:=Xr s;obtain⟨b,a,t,rfl,e⟩:=h u az;exact aco (aaa d e) (Sw d (λv f=>h v (ai _ f)) g) c
def Xd {p l t:Int}{b:Li}{L:List (List Int)}(j:mR p)(d:Nu p b)(tz:Tz p b=b)(G:3<=ln b)(hl:∀n,p ∣ (By L)[n]!-l*b[n]!)(D:p ∣ t*l-1)(A:∀u∈L,∃b a t,u=[b,a]/\p ∣ t*a-1)(s:Sq p b):rm p b (pw [0,1] p.toNat)=[0,1]:=by
 have F:Sq p (By L):=by
  obtain⟨x,y,z,e⟩:=Ax.mp s;have h:∀n,p ∣ b[n]!-(Ih t (By L))[n]!:=λn=>by
   rw[qi];have e:b[n]!-t*(By L)[n]! = -(t*((By L)[n]!-l*b[n]!))-(t*l-1)*b[n]!:=by rw[cT,ie,<-bQ,bw];lia
   rw[e];exact fH (bF.mpr (be (hl n))) (bM D)
  have v:∀n,p ∣ (dl b)[n]!-(Ih t (dl (By L)))[n]!:=λn=>by
   have:=h (n+1);rw[qi]at this;rw[qi,Ag,Ag];have e:((n:Int)+1)*b[n+1]!-t*(((n:Int)+1)*(By L)[n+1]!)=((n:Int)+1)*(b[n+1]!-t*(By L)[n+1]!):=by rw[cT,da t]
   rw[e];exact be this
  obtain⟨k,f⟩:=(z8 (a:=sr b-sr (Ih t (By L)))).mp h;obtain⟨m,c⟩:=(z8 (a:=sr (dl b)-sr (Ih t (dl (By L))))).mp v;rw[uX]at f c;refine Ax.mpr (Ih t x,Ih t y,sr x*k+sr y*m+z,?_);rw[uX,uX,e];generalize sr b=B at *
  generalize sr (dl b)=o at *
  generalize sr (By L)=C at *
  generalize sr (dl (By L))=r at *
  generalize oM.con t=T at *
  generalize oM.con p=Q at *
  have g:B=T*C+Q*k:=by clear e c;grind
  have i:o=T*r+Q*m:=by clear e f g;grind
  rw[g,i];clear e f c g i;grind
 have e:=mJ.by hl (Sw j A F);have H:=j.1;refine Hq (λx E=>by have:=d.nz x;rw[tz]at this;exact this E) (λ_=>((()):(1:Int)≠0),λn=>?_,(():2<ln b)) e
 match n with
 |0=>exact oA p
 |1=>rw[nU ()];exact bx ((()):(0:Int)<=1) (():(1:Int)<p)
 |n+2=>exact oA p
theorem rQ (h:2<=q):pl q 1=1:=by rw[nU ()];exact bx () ()
theorem abi (h:Bd r)(k:Nat):(r[k]!).natAbs<2^9000:=by
 by_cases c:k<ln r
 .exact h _ (FM.getD_mem c)
 .rw[jH ()];exact fI (())
abbrev Tab:=List (List Int)
def unR (n i:Nat):List Int:=(sP n (0:Int)).set i 1
def unT (n:Nat):Tab:=(ss n).map λi=>unR n i
theorem Im (xs:List PV)(a:Nat):vy xs (so (a:Int)) none=xs.drop a:=by
 unfold vy;rw[HT.sIx_nat,HT.sIx_none];by_cases h:a<=ln xs
 .rw[iG h,dk (by rw[bW];lia)]
 .rw[iu (),dX (ao _),dX (),List.take_nil]
def Mm:Ok P w K mg base 1 "unit_row" ["at","length"] (Ff K (Gk cW cR cP) (λas=>∃i n:Nat,as=[.int (i:Int),.int (n:Int)]/\i<n/\n<=1000) λs=>(λi n=>unR n.toNat i.toNat) (zI s 0) (zI s 1)):=by
 refine GJ T.Pu BP '!' (λf c A o s H E k=>(_,(jr (qZ (i:=2) BP.nd rz k4 (rW (j8 %[jt|_]) (xn 1) (λ_=>rz))) (jr (um 2 (xn 0) jt) (jw (yQ 2)))),λas d=>?_))
 obtain⟨i,n,rfl,g,j⟩:=d;refine((((tT,tT),tT),rz,(():-(2:Int)^63<=(n:Int)),(():((n:Int)).toNat<=1000)),λl e=>?_);have e:l=sP n 0:=e;have m:ln l=n:=by rw[e,aR]
 refine(tT,rz,rz,((():-(ln l:Int)<=(i:Int)),(():(i:Int)<(ln l:Int))),?_);refine(rz,?_);show l.set (j6 (ln l) (i:Int)) 1=unR ((n:Int)).toNat ((i:Int)).toNat;rw[aeD (),e,ce,ce];rfl
def xG:Ok P w K mg base 2 "unit_table" ["length"] (uE K (Gk cW cR cP) (λas=>∃n:Nat,as=[.int (n:Int)]/\n<=1000) λs=>(λn=>jE (unT n.toNat)) (zI s 0)):=by
 refine pX T.Jm Gz '!' (λf d A o s H E i=>(_,(jw (jB (nZ (Vg (N':=["at","length"]) (cap:=[so 0]) (kW rz rz rz rz ((rz,.inr (.inl rz),sS,.inl rz,_,rz,rz),tT) (rz,tT) rz) rz (by rfl) T.lM (xn 0) (λ_ _ _=>(lO 0)) (λ_ _ _=>(jJ (m6 (Mm T) i %[xn 0,xn 1|_]))))))),λas g=>?_));obtain⟨n,rfl,e⟩:=g;refine((rz,((():(0:Int)<=(n:Int)),(():(n:Int)<=1000)),λk c=>?_),?_)
 .have c:k<((n:Int)).toNat:=c;exact((rz,rz,tT),k,n,rz,(),e)
 .show PV.lst ((ss ((n:Int)).toNat).map λ(k:Nat)=>PV.ints (unR ((n:Int)).toNat ((k:Int)).toNat))=jE (unT ((n:Int)).toNat);unfold jE unT;rw[bj];rfl
def zT:Ok P w K mg base 2 "plain_row" ["kind","row"] (Ff K (Gk cW cR cP) (λas=>∃z r,as=[.ob 0 z,.ints r]/\ln r<=1000) λs=>(λz r=>r.map (pl z)) (zI s 0) (lI s 1)):=by
 refine GJ T.LK Je '!' (λf d A o s H E g=>(_,(jw (mD (pQ (N':=["number","kind"]) (cap:=[so 0]) (kW rz rz rz rz ((rz,.inr (.inl rz),sS,.inl rz,_,rz,rz),tT) (rz,tT) rz) rz (xl 1) (λ_ _ _=>(lO 0)) (λ_ _ _=>(rT 1 (qL T) g %[xn 0|_]))))),λas e=>?_));obtain⟨z,r,rfl,c⟩:=e;exact((rz,c,λn _=>(rz,(rz,tT),tT,tT)),rz)
def Ws (a b:List Int):Int:=((a.zip b).map λp=>p.1*p.2).sum
def yq:Ok P w K mg base 1 "sum_of_products" ["ones","others"] (rK K (Gk cW cR cP) (λas=>∃a b,as=[.ints a,.ints b]/\ln a<=1000/\Bd a/\Bd b) λs=>(λa b=>Ws a b) (lI s 0) (lI s 1)):=by
 refine pX T.zP yh '!' (λf c A o s H E j=>(_,(jw (jB (O3 rz T.Vy (jJ (ach (N':=["a","b"]) (cap:=[]) (kW rz rz rz rz tT tT rz) rz (by rfl) T.HS (G4 (xl 0)) (G4 (xl 1)) (λ_ _ _=>(pg_tup rz (pgs_cons (lO 0) (pgs_cons (lO 1) pgs_nil)))) (λ_ _ _=>(kO (xn 0) (xn 1)))))))),λas i=>?_));obtain⟨a,b,rfl,g,d,e⟩:=i;exact(((rz,rz),g,λn m h=>(rz,rz,nR (n:=9000) (m:=9000) (d n (dh h).1) (e m (dh h).2))),rz)
def Mr (t:List (List Int))(k:Int):List Int:=t.map λr=>r[j6 (ln r) k]!
theorem abP {t:List (List Int)}(h:∀r∈t,Bd r)(k:Int):Bd (Mr t k):=λm a=>by obtain⟨r,c,rfl⟩:=aB.mp a;exact abi (h r c) _
def Tt:Ok P w K mg base 1 "column" ["rows","at"] (Ff K (Gk cW cR cP) (λas=>∃t k,as=[jE t,.int k]/\ln t<=1000/\∀r∈t,-(ln r:Int)<=k/\k<(ln r:Int)) λs=>(λp k=>Mr (p.map mQ) k) (None s 0) (zI s 1)):=by
 refine GJ T.Wl T5 '!' (λf g A o s H E d=>(_,(jw (mD (V5 (N':=["row","at"]) (cap:=[so 1]) (kW rz rz rz rz ((rz,.inr (.inl rz),sS,.inl rz,_,rz,rz),tT) (rz,tT) rz) rz (kJ (xv 0)) (λ_ _ _=>(lO 0)) (λ_ _ _=>(kI 0 (xn 1) (λ_ _=>rz)))))),λas j=>?_));obtain⟨t,k,rfl,i,e⟩:=j;refine(((rz,rz),by show ln (t.map PV.ints)<=1000;rw[ac];exact i,λq c=>?_),?_)
 .have c:q∈t.map PV.ints:=c;obtain⟨r,d,rfl⟩:=aB.mp c;exact(.inl rz,rz,(e r d).1,(e r d).2)
 .show(t.map PV.ints).map _=Mr ((t.map PV.ints).map mQ) k;rw[rJ,bj];rfl
def Vp (z:Int)(row:List Int)(a:List (List Int)):List Int:=a.map λc=>pl z (Ws row c)
def DK:Ok P w K mg base 2 "row_product" ["kind","row","columns"] (Ff K (Gk cW cR cP) (λas=>∃z row d,as=[.ob 0 z,.ints row,jE d]/\ln row<=1000/\Bd row/\ln d<=1000/\∀c∈d,Bd c) λs=>(λz row p=>Vp z row (p.map mQ)) (zI s 0) (lI s 1) (None s 2)):=by
 refine GJ T.G6 DQ '!' (λf k A o s H E e=>(_,(jw (mD (V5 (N':=["one","kind","row"]) (cap:=[so 0,so 1]) (kW rz rz rz rz ((rz,.inr (.inl rz),sS,.inl rz,_,rz,rz),((rz,.inr (.inl rz),sS,.inl rz,_,rz,rz),tT)) (rz,(rz,tT)) rz) rz (kJ (xv 2)) (λ_ _ _=>(lO 0)) (λ_ _ _=>(rT 1 (qL T) e %[yW (yq T) e %[xl 2,xl 0|_]|_]))))),λas n=>?_));obtain⟨z,row,d,rfl,m,e,i,l⟩:=n;refine(((rz,rz),by show ln (d.map PV.ints)<=1000;rw[ac];exact i,λq j=>?_),?_)
 .have j:q∈d.map PV.ints:=j;obtain⟨c,g,rfl⟩:=aB.mp j;exact(rz,(((rz,rz,tT),row,c,rz,m,e,l c g),tT),tT,tT)
 .show(d.map PV.ints).map _=Vp z row ((d.map PV.ints).map mQ);rw[rJ,bj];rfl
def xJ (b:List (List Int)):List (List Int):=(ss (ln (b[0]'[]))).map λ(k:Nat)=>Mr b (k:Int)
def prodF (z:Int)(a b:List (List Int)):List (List Int):=a.map λrow=>Vp z row (xJ b)
def Oq:Ok P w K mg base 3 "product" ["kind","ones","others"] (uE K (Gk cW cR cP) (λas=>∃z a b,∃wd:Nat,as=[.ob 0 z,jE a,jE b]/\ln a<=1000/\(∀r∈a,ln r<=1000/\Bd r)/\ln b<=1000/\1<=ln b/\wd<=1000/\∀r∈b,ln r=wd/\Bd r) λs=>(λz I qs=>jE (prodF z (I.map mQ) (qs.map mQ))) (zI s 0) (None s 1) (None s 2)):=by
 refine pX T.Us Dh '!' (λf C A u s H E j=>(_,(jr (jQ (i:=3) Dh.nd rz (Or.inr rz) (nZ (Vg (N':=["at","others"]) (cap:=[so 2]) (kW rz rz rz rz ((rz,.inr (.inl rz),sS,.inl rz,_,rz,rz),tT) (rz,tT) rz) rz (by rfl) T.lM (lL T.jM (xl_of (jF (xv 2) jt (λ_ _=>rz)))) (λ_ _ _=>(lO 0)) (λ_ _ _=>(jJ (m6 (Tt T) j %[xv 1,xn 0|_])))))) (jw (jB (nZ (Ah (N':=["row","kind","columns"]) (cap:=[so 0,so 3]) (kW rz rz rz rz ((rz,.inr (.inl rz),sS,.inl rz,_,rz,rz),((rz,.inr (.inl rz),sS,.inl rz,_,rz,rz),tT)) (rz,(rz,tT)) rz) rz (kJ (xv 1)) (λ_ _ _=>(lO 0)) (λ_ _ _=>(jJ (m6 (DK T) j %[xv 1,xl 0,xv 2|_])))))))),λas G=>?_))
 obtain⟨z,a,b,wd,rfl,m,x,p,o,J,n⟩:=G;obtain⟨d,g,rfl⟩:∃d g,b=d::g:=by
  cases b with
  |nil=>exact absurd o (())
  |cons d g=>exact(d,g,rz)
 have h0:=(n d az).1;refine(((((rz,tT,?_),rz),tT),((():(0:Int)<=(ln d:Int)),(():(ln d:Int)<=1000)),λk y=>?_),λv l=>?_)
 .show -(ln ((d::g).map PV.ints):Int)<=0/\(0:Int)<(ln ((d::g).map PV.ints):Int);rw[ac,bC];lia
 .have y:k<(ln d:Int).toNat:=y;exact((rz,rz,tT),d::g,(k:Int),rz,p,λr j=>((),by have:=(n r j).1;lia))
 have l:v=jE (xJ (d::g)):=by have e:v=.lst ((ss ((ln d:Int)).toNat).map λ(k:Nat)=>PV.ints (Mr (((d::g).map PV.ints).map mQ) (k:Int))):=l;rw[e,rJ,ce];unfold jE xJ;rw[bj];rfl
 subst l;refine jD (ρ':=[.fr (.ob 0 z),.fr (jE a),.fr (jE (d::g)),.fr (jE (xJ (d::g)))]) rz ?_;have D:ln (xJ (d::g))<=1000:=by unfold xJ;rw[ac,aC];show ln d<=1000;lia
 have B:∀c∈xJ (d::g),Bd c:=λc F=>by obtain⟨k,_,rfl⟩:=aB.mp F;exact abP (λr j=>(n r j).2) _
 refine(((rz,rz),by show ln (a.map PV.ints)<=1000;rw[ac];exact m,λq t=>?_),?_)
 .have t:q∈a.map PV.ints:=t;obtain⟨r,j,rfl⟩:=aB.mp t;exact((rz,rz,rz,tT),z,r,xJ (d::g),rz,(x r j).1,(x r j).2,D,B)
 .have e:(a.map PV.ints).map (λq=>PV.ints (Vp z (mQ q) (((xJ (d::g)).map PV.ints).map mQ)))=(prodF z ((a.map PV.ints).map mQ) (((d::g).map PV.ints).map mQ)).map PV.ints:=by rw[rJ,rJ,rJ,bj];unfold prodF;rw[bj];rfl
  show PV.lst ((a.map PV.ints).map _)=PV.lst ((prodF z ((a.map PV.ints).map mQ) (((d::g).map PV.ints).map mQ)).map PV.ints);rw[<-e,bj,bj];rfl
theorem Z8 {k:Nat}(h:k<ln f):qj f none (so (k:Int))++[y]++qj f (so ((k:Int)+1)) none=f.set k y:=by rw[ZQ,show((k:Int)+1)=((k+1:Nat):Int) from rz,Ia,g5,List.singleton_append,List.set_eq_take_append_cons_drop,aL h]
def Cm:Ok P w K mg base 3 "row_less_one" ["kind","row","at"] (Ff K (Gk cW cR cP) (λas=>∃z row,∃a:Nat,as=[.ob 0 z,.ints row,.int (a:Int)]/\a<ln row/\ln row<=400) λs=>(λz row a=>row.set a.toNat (pl z (row[a.toNat]!-1))) (zI s 0) (lI s 1) (zI s 2)):=by
 refine GJ T.Es Cd '!' (λf d A o s H E i=>(_,(jw (mD (uT (jJ (uT (jJ (p7 (xl 1) mW (lK (xn 2)) (λ_ _=>.inl rz))) (jJ (j8 %[rT 0 (ZK T) i %[kI 1 (xn 2) (λ_ _=>rz),jt|_]|_])))) (jJ (p7 (xl 1) (lK (km (xn 2) jt)) mW (λ_ _=>.inl rz)))))),λas g=>?_));obtain⟨z,row,a,rfl,e,m⟩:=g;have k:=zr row none (so (a:Int));have l:=zr row (so ((a:Int)+1)) none;have j:j6 (ln row) (a:Int)=a:=rZ;refine((((rz,tT,rz),(((rz,((.inl rz,rz,(():-(ln row:Int)<=(a:Int)),(():(a:Int)<(ln row:Int))),tT,tT),tT,tT),tT),tT),a7 (small1000 (():ln (qj row none (so (a:Int)))+1<=1000))),(rz,(rz,tT),tT),a7 (small1000 ?_)),?_)
 .show(qj row none (so (a:Int))++[pl z (row[j6 (ln row) (a:Int)]!-1)]).length+ln (qj row (so ((a:Int)+1)) none)<=1000;rw[aS,bI];lia
 .show qj row none (so (a:Int))++[pl z (row[j6 (ln row) (a:Int)]!-1)]++qj row (so ((a:Int)+1)) none=row.set a (pl z (row[a]!-1));rw[Z8 e,j]
def pM (p:Int)(t:Tab):Tab:=t.mapIdx λa row=>row.set a (pl p (row[a]!-1))
theorem K3 (p:Int)(t:Tab):ln (pM p t)=ln t:=by unfold pM;rw[fv]
theorem Qz (h:i<ln t):(pM p t)[i]'[]=(t[i]'[]).set i (pl p ((t[i]'[])[i]!-1)):=by unfold pM;rw[gQ,dH,ae h,gQ,ae h];rfl
def qT (p:Int)(b:List Int):Tab:=qm p b (rm p b (pw [0,1] p.toNat)) (ln b-1)
structure Gg (p:Int)(g:List Int):Prop where
 pr:mR p
 ok:Nu p g
 tz:Tz p g=g
 l2:2<=ln g
 l40:ln g<=40
theorem Gg.row {p:Int}{g:Li}(h:Gg p g):ln (qT p g)=ln g-1/\∀k,k<ln g-1->ln ((qT p g)[k]'[])=ln g-1/\∀n,pl p (((qT p g)[k]'[])[n]!)=((qT p g)[k]'[])[n]!:=by have l:=h.l2;refine(Ab _ _ _ _,λk a=>?_);obtain⟨_,_,i,_⟩:=nF h.ok (pw (rm p g (pw [0,1] p.toNat)) k);rw[h.tz]at i;unfold qT;rw[Qt a];have:=i.len;have e:=Qc (m:=(ln g:Int)-1) (r:=rm p g (pw (rm p g (pw [0,1] p.toNat)) k)) ();exact((),λn=>by rw[Oi];exact i.red n)
def oF:Ok P w K mg base 8 "powering_less_one" ["kind","g"] (uE K (Gk cW cR cP) (λas=>∃p g,as=[.ob 0 p,.ints g]/\Gg p g) λs=>(λp g=>jE (pM p (qT p g))) (zI s 0) (lI s 1)):=by
 refine pX T.wZ vB '!' (λf j A o s H E d=>(_,(jw (jB (nZ (R5 (N':=["at","row","kind"]) (cap:=[so 0]) (kW rz rz rz rz ((rz,.inr (.inl rz),sS,.inl rz,_,rz,rz),tT) (rz,tT) rz) rz (by rfl) T.mZ (kJ (xc (LC T) d %[xv 0,xl 1|_])) (λ_ _ _=>(pg_tup rz (pgs_cons (lO 0) (pgs_cons (lO 1) pgs_nil)))) (λ_ _ _=>(jJ (m6 (Cm T) d %[xv 2,xl 1,xn 0|_]))))))),λas l=>?_));obtain⟨p,g,rfl,ok⟩:=l;obtain⟨u,r⟩:=ok.row;have m:=ok.l40;have t:=ok.l2;refine(((((rz,rz,tT),p,g,rz,ok.ok,by rw[ok.tz];lia),rz),?_,λi q c=>?_),?_)
 .show((qm p (Tz p g) (rm p (Tz p g) (pw [0,1] p.toNat)) (ln (Tz p g)-1)).map PV.ints).length<=1000;rw[ac,Ab,ok.tz];lia
 .have c:((qm p (Tz p g) (rm p (Tz p g) (pw [0,1] p.toNat)) (ln (Tz p g)-1)).map PV.ints)[i]?=so q:=c;rw[ok.tz]at c;have c:((qT p g).map PV.ints)[i]?=so q:=c;rw[ag]at c;obtain⟨x,e,rfl⟩:=dm.mp c;have n:=(ah.mp e).1;have k:(qT p g)[i]'[]=x:=by rw[gQ,e];rfl
  have:=(r i ()).1;rw[k]at this;exact((rz,rz,rz,tT),p,x,i,rz,(),())
 .show PV.lst (((qm p (Tz p g) (rm p (Tz p g) (pw [0,1] p.toNat)) (ln (Tz p g)-1)).map PV.ints).mapIdx _)=_;rw[ok.tz];refine congrArg PV.lst (eH λi=>?_);show(((qT p g).map PV.ints).mapIdx _)[i]?=((pM p (qT p g)).map PV.ints)[i]?;unfold pM;rw[dH,ag,ag,dH];cases (qT p g)[i]? <;> rfl
def zm (p:Int)(g:List Int):List Int:=jy (((g.mapIdx λk n=>(k:Int)*n).drop 1).map (pl p))
theorem Yr (p:Int)(g:Li)(n:Nat):(zm p g)[n]! =pl p ((dl g)[n]!):=by
 show(Tz p ((g.mapIdx λk n=>(k:Int)*n).drop 1))[n]! =_;rw[kZ,Ag,gQ,gN,dH,jb 1 n];by_cases c:n+1<ln g
 .rw[ae c,lC c];show pl p (((n+1:Nat):Int)*g[n+1])=_;rw[show((n+1:Nat):Int)=(n:Int)+1 from rfl]
 .rw[bu (),jH (xs:=g) (),aX];rfl
theorem QR (p:Int)(g:Li):ln (zm p g)<=ln g:=by unfold zm;refine aj (lz _) ?_;rw[ac,bW,fv];lia
theorem Zd (p:Int)(g:Li)(n:Nat):p ∣ (zm p g)[n]!-(dl g)[n]!:=by rw[Yr];exact nQ p _
def YG (p:Int)(g a b:List Int):List Int:=Tz p (lJ (Tz p (jz (Tz p a) (Tz p g))) (Tz p (jz (Tz p b) (Tz p (zm p g)))))
theorem aaK {p:Int}(a b:Li)(n:Nat):p ∣ (Tz p (jz (Tz p a) (Tz p b)))[n]!-cm a b n:=by rw[QW];exact nQ p _
theorem adz {p:Int}{g a b:Li}(h:YG p g a b=[1]):Sq p g:=by
 refine(a,b,λn=>?_);have e:(YG p g a b)[n]! =([1]:List Int)[n]!:=by rw[h]
 unfold YG at e;rw[kZ,mL]at e;have d:=nQ p ((Tz p (jz (Tz p a) (Tz p g)))[n]!+(Tz p (jz (Tz p b) (Tz p (zm p g))))[n]!);rw[e]at d;have c:=aaK (p:=p) a g n;have f:=aaK (p:=p) b (zm p g) n;have i:p ∣ cm b (zm p g) n-cm b (dl g) n:=by rw[lB b,lB b];exact wL (Zd p g) n
 have j:([1]:List Int)[n]!-(cm a g n+cm b (dl g) n)=(([1]:List Int)[n]!-((Tz p (jz (Tz p a) (Tz p g)))[n]!+(Tz p (jz (Tz p b) (Tz p (zm p g))))[n]!))+((Tz p (jz (Tz p a) (Tz p g)))[n]!-cm a g n)+((Tz p (jz (Tz p b) (Tz p (zm p g))))[n]!-cm b (zm p g) n)+(cm b (zm p g) n-cm b (dl g) n):=()
 rw[j];exact br (br (br d c) f) i
theorem aav {a b:Li}{r:PV}:lY (.tup [.ints a,.ints b,r]) 0/\lY (.tup [.ints a,.ints b,r]) 1/\lY (.tup [.ints a,.ints b,r]) 2:=((((()):(-3:Int)<=0),((()):(0:Int)<3)),(((()):(-3:Int)<=1),((()):(1:Int)<3)),(((()):(-3:Int)<=2),((()):(2:Int)<3)))
def uc:Ok P w K mg base 4 "shows_free_of_squares" ["kind","g","paper"] (Aj K (Gk cW cR cP) (λas=>∃p g a b r,as=[.ob 0 p,.ints g,.tup [.ints a,.ints b,r]]/\mR p/\ln g<=100/\ln a<=100/\ln b<=100/\Bd g/\Bd a/\Bd b) λas=>match as with|[.ob 0 p,.ints g,.tup [.ints a,.ints b,_]]=>decide (YG p g a b=[1])|_=>false):=by
 refine pX T.uD oU '!' (λf y A o s H E j=>(_,(jr (jG (i:=3) oU.nd rz k4 (jJ (m6 (Ja T) j %[xv 0,jJ (m6 (pL T) j %[xv 0,xl_of (jF (xv 2) jt (λ_ _=>rz)),xl 1|_]),jJ (m6 (pL T) j %[xv 0,xl_of (jF (xv 2) jt (λ_ _=>rz)),jJ (m6 (yP T) j %[xv 0,xl 1|_])|_])|_]))) (jw (jB (JZ j.units (G4 (xl 3)) (G4 (jJ (j8 %[jt|_]))))))),λas l=>?_))
 obtain⟨p,g,a,b,r,rfl,l,D,B,C,x,u,v⟩:=l;obtain⟨n,t⟩:=Pg l;obtain⟨i0,i1,_⟩:=aav (a:=a) (b:=b) (r:=r);have sl:=QR p g;have z:Bd (zm p g):=(show Fo p (zm p g) from Fo.tz p _).bd l;have F:=tU p (Tz p a) (Tz p g);have G:=tU p (Tz p b) (Tz p (zm p g));have I:=lH p a;have J:=lH p b;have L:=lH p g;have ts:=lH p (zm p g);refine(((rz,((rz,((rz,tT,i0),rz),rz,tT),p,a,g,rz,n,t,(),u,x),((rz,((rz,tT,i1),rz),((rz,rz,tT),p,g,rz,()),tT),p,b,zm p g,rz,n,t,(),v,z),tT),p,Tz p (jz (Tz p a) (Tz p g)),Tz p (jz (Tz p b) (Tz p (zm p g))),rz,(),()),λk m=>?_);have m:k=YG p g a b:=m;refine((rz,(tT,tT),tT),?_);show PV.bl (decide (k=[1]))=PV.bl (decide (YG p g a b=[1]));rw[m]
theorem ZL {s t:List (List Int)}(h:eqD (jE s) (jE t)):s=t:=by
 have h:dat (jE s)=dat (jE t):=iL.mp h;have d:∀t:List (List Int),dat (jE t)=.list (t.map λr=>.list (r.map PyData.int)):=λt=>by
  unfold jE;simp only[dat];congr 1
  induction t with
  |nil=>rfl
  |cons a r i=>simp only[bi,vA,dat,i]
 rw[d,d]at h;have h:=PyData.list.inj h;refine List.map_inj_right (λa b e=>?_) |>.mp h
 have e:=PyData.list.inj e;exact List.map_inj_right (λx y e=>PyData.int.inj e) |>.mp e
theorem Lg:∀{a:Type} (l:List a),(l.map λ_=>(0:Int)).sum=0
 |_,[]=>rfl
 |_,_::r=>by rw[bi,fA,Lg r];rfl
def Zf (p:Int)(b:List Int)(r:Tab):Prop:=ln r=ln b-1/\(∀x∈r,ln x=ln b-2)/\prodF p ((pM p (qT p b)).drop 1) r=unT (ln b-2)
open Classical in
def Gs (p:Int)(b:List Int)(r:Tab):Bool:=decide (Zf p b r)
open Classical in
theorem XX {p:Int}{b:Li}{r:Tab}(h:¬Zf p b r):Gs p b r=false:=by unfold Gs;exact aN h
theorem abL {t:Tab}(f:List Int->List Int){i:Nat}(h:i<ln t):(t.map f)[i]'[]=f (t[i]'[]):=by rw[gQ,ag,gQ,ae h];rfl
theorem Gg.plo {p:Int}{b:Li}(h:Gg p b):ln ((pM p (qT p b)).drop 1)=ln b-2/\∀i,i<ln b-2->ln (((pM p (qT p b)).drop 1)[i]'[])=ln b-1/\Bd (((pM p (qT p b)).drop 1)[i]'[]):=by
 obtain⟨k,r⟩:=h.row;have d:=K3 p (qT p b);refine(by rw[bW];lia,λi j=>?_);have c:((pM p (qT p b)).drop 1)[i]'[]=(pM p (qT p b))[i+1]'[]:=by rw[gQ,gN,gQ,jb]
 obtain⟨f,g⟩:=r (i+1) ();rw[c,Qz (),bn];refine(f,λm a=>?_);have:pl p m=m:=by
  rcases List.mem_or_eq_of_mem_set a with a|a
  .obtain⟨n,_,e⟩:=FM.mem_getD a;rw[<-e];exact g n
  .rw[a];exact uf p _
 exact vL (HJ h.pr this)
def zB:Ok P w K mg base 9 "shows_one_part" ["kind","g","r"] (Aj K (Gk cW cR cP) (λas=>∃p b r,as=[.ob 0 p,.ints b,jE r]/\Gg p b/\ln r<=100/\∀x∈r,ln x<=100/\Bd x) λs=>(λp b r=>Gs p b (r.map mQ)) (zI s 0) (lI s 1) (None s 2)):=by
 refine pX T.Ai tQ '!' (λf G A t s H E n=>(_,(jr (jA (i:=3) tQ.nd rz (Or.inr rz) (lw (jO 1 T.jM) jt)) (jr (jX (L2.PW.pt (qK (vV (lL T.jM (xv 2)) (xn 3)) (rH (G8 (Px rz T.Ww (nZ (Ah (N':=["row","degree"]) (cap:=[so 3]) (kW rz rz rz rz ((rz,.inr (.inl rz),sS,.inl rz,_,rz,rz),tT) (rz,tT) rz) rz (kJ (xv 2)) (λ_ _ _=>(lO 0)) (λ_ _ _=>(UW (jO 0 T.jM) (lw (xn 1) jt)))))))))) (jw (jB vP)) jN) (jw (jB (abT n.units (G4 (xc (Oq T) n %[xv 0,nZ (pW (kJ (xc (oF T) n %[xv 0,xl 1|_])) (lK jt) mW),xv 2|_])) (G4 (xc (xG T) n %[lw (xn 3) jt|_]))))))),λas L=>?_))
 obtain⟨p,b,r,rfl,gg,rl,S⟩:=L;have Y:=gg.l2;have Q:=gg.l40;have D:∀v:PV,v=.bl (Gs p b r)->v=.bl (Gs p b ((r.map PV.ints).map mQ)):=λv h=>by rw[rJ];exact h
 have Z:ln (r.map PV.ints)=ln r:=ac _;refine((.inl rz,tT),λd F=>?_);have F:d=(ln b:Int)-1:=F;refine((((rz,tT),rz),λ_=>(((rz,rz),?_,λq l=>?_),λq l=>?_)),λq=>(tT,D _ ?_),λq=>?_)
 .show ln (r.map PV.ints)<=1000;lia
 .have l:q∈r.map PV.ints:=l;obtain⟨x,g,rfl⟩:=aB.mp l;exact(.inl rz,rz,tT)
 .obtain⟨x,_,rfl⟩:=aB.mp l;exact(_,rz)
 .have q:¬(ln (r.map PV.ints):Int)=d\/(((r.map PV.ints).map λq=>PV.bl (decide (¬(ln (getL (([Sl.un,k6 d]:En).set 0 (.fr q)) 0):Int)=d-1))).map Gn).any id=true:=q;refine congrArg PV.bl (XX ?_).symm;rintro⟨U,I,_⟩;rcases q with q|q
  .exact q ()
  .rw[cr]at q;obtain⟨x,g,o⟩:=q;obtain⟨y,N,rfl⟩:=aB.mp g;obtain⟨z,O,rfl⟩:=aB.mp N;obtain⟨u,M,rfl⟩:=aB.mp O;have o:decide (¬(ln u:Int)=d-1)=true:=o;have:=I u M;exact dI o ()
 have q:¬(¬(ln (r.map PV.ints):Int)=d\/(((r.map PV.ints).map λq=>PV.bl (decide (¬(ln (getL (([Sl.un,k6 d]:En).set 0 (.fr q)) 0):Int)=d-1))).map Gn).any id=true):=q;have m:ln r=ln b-1:=by have:=bH.mp λz=>q (.inl z);lia
 have j:∀x∈r,ln x=ln b-2:=λx g=>by refine dE λz=>q (.inr ?_);rw[cr];refine(true,aB.mpr (.bl true,aB.mpr (.ints x,aB.mpr (x,g,rz),?_),rz),rz);show PV.bl (decide (¬(ln x:Int)=d-1))=PV.bl true;rw[bc];lia
 obtain⟨R,B⟩:=gg.plo;have k:vy ((pM p (qT p b)).map PV.ints) (so 1) none=((pM p (qT p b)).drop 1).map PV.ints:=by rw[show(1:Int)=((1:Nat):Int) from rz,Im,hZ]
 have C:d-1=((ln b-2:Nat):Int):=()
 refine((((rz,((((rz,rz,tT),p,b,rz,gg),rz),tT,tT),rz,tT),p,(pM p (qT p b)).drop 1,r,ln b-2,?_,(),λx g=>?_,(),(),(),λx g=>(j x g,(S x g).2)),(((rz,tT),tT),ln b-2,?_,()),?_),D _ ?_)
 .show[PV.ob 0 p,.lst (vy ((pM p (qT p b)).map PV.ints) (so 1) none),jE r]=_;rw[k];rfl
 .obtain⟨i,J,rfl⟩:=cO.mp g;have e:=B i ();rw[gQ,ae J]at e;exact(by show ln ((pM p (qT p b)).drop 1)[i]<=1000;have e:ln ((pM p (qT p b)).drop 1)[i]=ln b-1:=e.1;lia,e.2)
 .show[PV.int (d-1)]=[.int ((ln b-2:Nat):Int)];rw[C]
 .show RZ (jE (prodF p ((vy ((pM p (qT p b)).map PV.ints) (so 1) none).map mQ) ((r.map PV.ints).map mQ))) (jE (unT (d-1).toNat));exact Uc _ _
 .show PV.bl (decide (eqD (jE (prodF p ((vy ((pM p (qT p b)).map PV.ints) (so 1) none).map mQ) ((r.map PV.ints).map mQ))) (jE (unT (d-1).toNat))))=PV.bl (Gs p b r);rw[k,rJ,rJ,C,ce];unfold Gs;congr 1;refine decide_eq_decide.mpr (λz=>(m,j,ZL z),λz=>?_);rw[z.2.2];exact iL.mpr rfl
theorem acb {p:Int}{b:Li}{r:Tab}(gg:Gg p b)(y:3<=ln b)(h:rm p b (pw [0,1] p.toNat)=[0,1]):¬Zf p b r:=by
 rintro⟨A,j,k⟩;obtain⟨B,f⟩:=gg.row;have u:=K3 p (qT p b);have t:=gg.pr.1;have g:(unT (ln b-2))[0]'[]=unR (ln b-2) 0:=by unfold unT;rw[gQ,ag,bU ()];rfl
 have i:((unT (ln b-2))[0]'[])[0]! =1:=by rw[g];unfold unR;rw[oY _ _ _ _ (by rw[aR];lia),aL rfl]
 have l:0<ln ((pM p (qT p b)).drop 1):=by rw[bW];lia
 have row:((pM p (qT p b)).drop 1)[0]'[]=(wd ((ln b:Int)-1) [0,1]).set 1 (pl p (1-1)):=by
  rw[gQ,gN,<-gQ,Nat.add_zero,Qz ()];have e:(qT p b)[1]'[]=wd ((ln b:Int)-1) [0,1]:=by
   unfold qT;rw[Qt (),h];congr 1;have:mJ p b (pw [0,1] 1) [0,1]:=mJ.one p b [0,1];have nz:∀x,p ∣ x*jx b->p ∣ x:=λx s=>by have:=gg.ok.nz x;rw[gg.tz]at this;exact this s
   refine Hq nz (λ_=>((()):(1:Int)≠0),λn=>?_,(():2<ln b)) ?_
   .match n with
    |0=>exact oA p
    |1=>exact rQ t
    |n+2=>exact oA p
   .exact(mJ.comm p b _ _).trans (mJ.one p b [0,1])
  rw[e,Oi];rfl
 have z:∀n,(((pM p (qT p b)).drop 1)[0]'[])[n]! =0:=λn=>by
  rw[row];by_cases c:n=1
  .rw[c,oY _ _ _ _ (by have:=Qc (m:=(ln b:Int)-1) (r:=[0,1]) (():((2:Nat):Int)<=_);lia),aL rz,cQ,oA]
  .rw[oY _ _ _ _ (by have:=Qc (m:=(ln b:Int)-1) (r:=[0,1]) (():((2:Nat):Int)<=_);lia),aF c,Oi]
   match n with
   |0=>rfl
   |1=>exact absurd rz c
   |n+2=>rfl
 have v:ln (r[0]'[])=ln b-2:=by rw[gQ,ae (show 0<ln r by lia)];exact j _ (bR _)
 have d:((prodF p ((pM p (qT p b)).drop 1) r)[0]'[])[0]! =0:=by
  unfold prodF;rw[abL _ l];generalize ((pM p (qT p b)).drop 1)[0]'[]=a at z;unfold Vp xJ;rw[v,bj,gQ,ag,bU ()];show pl p (Ws a (Mr r ((0:Nat):Int)))=0;have:Ws a (Mr r ((0:Nat):Int))=0:=by
   unfold Ws;have:∀q∈a.zip (Mr r ((0:Nat):Int)),q.1*q.2=0:=λq o=>by have:=(dh o).1;obtain⟨n,_,e⟩:=FM.mem_getD this;rw[<-e,z n,bX]
   rw[aO this];exact Lg _
  rw[this,oA]
 rw[k,i]at d;exact absurd d (())
@[irreducible] def hdB (p:Int) (g a b:List Int) (r:Tab):Bool:=decide (YG p g a b=[1]) && Gs p g r
def F01:List PV->Bool|[.ob 0 p,.ints g,.tup [.ints a,.ints b,.lst r]]=>hdB p g a b (r.map mQ)|_=>false
def V7:Ok P w K mg base 10 "holds" ["kind","g","paper"] (Aj K (Gk cW cR cP) (λas=>∃p g a b r,as=[.ob 0 p,.ints g,.tup [.ints a,.ints b,jE r]]/\Gg p g/\jx g=1/\ln a<=100/\ln b<=100/\Bd a/\Bd b/\ln r<=100/\∀x∈r,ln x<=100/\Bd x) F01):=by
 refine pX T.Yv K7 '!' (λf u A o s H E l=>(_,(jr (jG (i:=3) K7.nd rz k4 (jJ (m6 (jL T) l %[xv 0,xl 1|_]))) (jr (jX (L2.PW.pt (qK (FJ (jO 3 T.jM) jt) (rH (vV (kI 3 (lV jt) (λ_ _=>rz)) jt)))) (jw (jB vP)) jN) (jw (jB (FN (Uu (uc T) l %[xv 0,xl 3,xv 2|_]) (pe_one (Uu (zB T) l %[xv 0,xl 3,jF (xv 2) jt (λ_ _=>rz)|_]))))))),λas v=>?_))
 obtain⟨p,g,a,b,r,rfl,gg,m,D,F,n,t,J,I⟩:=v;have M:=gg.l2;have C:=gg.l40;refine(((rz,rz,tT),p,g,rz,()),λj k=>?_);have k:j=Tz p g:=k;rw[gg.tz]at k;subst k;have L:Bd j:=by rw[<-gg.tz];exact(Fo.tz p j).bd gg.pr
 have G:j[j6 (ln j) (-1)]! =1:=(nW j ()).trans m;obtain⟨_,_,B⟩:=aav (a:=a) (b:=b) (r:=jE r);refine(((.inl rz,tT),λ_=>((.inl rz,tT,(():-(ln j:Int) <= -1),(():(-1:Int)<(ln j:Int))),tT)),λq=>?_,λ_=>?_)
 .have q:(ln j:Int)<2\/¬j[j6 (ln j) (-1)]! =1:=q;rcases q with q|q
  .lia
  .exact absurd G q
 refine((((rz,rz,rz,tT),p,j,a,b,jE r,rz,gg.pr,(),D,F,L,n,t),λz=>((rz,rz,(rz,tT,B),tT),p,j,r,rz,gg,J,I)),?_);show PV.bl (decide (decide (YG p j a b=[1])=true/\Gs p j ((r.map PV.ints).map mQ)=true))=PV.bl (hdB p j a b ((r.map PV.ints).map mQ));unfold hdB;generalize decide (YG p j a b=[1])=x;generalize Gs p j ((r.map PV.ints).map mQ)=y;cases x<;>cases y<;>rfl
theorem Kf {x y:Int}(h:0<=x)(a:0<=y):Int.gcd y (x % y)=Int.gcd x y:=by obtain⟨m,rfl⟩:=ik h;obtain⟨n,rfl⟩:=ik a;rw[<-Int.natCast_emod];show Nat.gcd n (m % n)=Nat.gcd m n;rw[jk n,<-Nat.gcd_rec,jk]
def qz (c:Int)(w:List Int):Int:=w.foldl (λc n=>(Int.gcd c n:Int)) c
theorem Lp:∀(w:Li) (c:Int),qz c w ∣ c/\∀n∈w,qz c w ∣ n
 |[],c=>(eX _,λn h=>by cases h)
 |m::r,c=>by
  have i:=Lp r (Int.gcd c m:Int);have e:qz c (m::r)=qz (Int.gcd c m:Int) r:=rfl;rw[e];refine(cU i.1 (iw ..),λn h=>?_);rcases aG.mp h with rfl|h
  .exact cU i.1 (hW ..)
  .exact i.2 n h
theorem Kh:∀(w:Li) (c:Int),0<=c->0<=qz c w
 |[],c,h=>h
 |m::r,c,_=>Kh r _ (gF _)
theorem Mx (c:Int)(a b:Li):qz c (a++b)=qz (qz c a) b:=by unfold qz;rw[dP]
theorem Ei {xs:Li}(h:jy xs≠[]):(jy xs).getLast h≠0:=by unfold jy at h ⊢;have a:xs.reverse.dropWhile (λx:Int=>x == 0)≠[]:=λz=>h (by rw[z];rfl);rw[List.getLast_reverse];have:=List.head_dropWhile_not (λx:Int=>x == 0) (l:=xs.reverse) a;simpa using this
def zU:Ok P w K mg base 1 "common_divisor" ["a","b"] (rK K (Gk cW cR cP) (λas=>∃a b,as=[.int a,.int b]) λs=>(λa b=>(Int.gcd a b:Int)) (zI s 0) (zI s 1)):=by
 refine pX T.Ad lX '!' (λf r A o s H E G=>(_,(jr (jA (i:=2) lX.nd rz k4 (zZ T.Ii (xn 0))) (jr (jA (i:=3) lX.nd rz k4 (zZ T.Ii (xn 1))) (jr (lD aw (vV (xn 3) jt) (jr (jA (i:=4) lX.nd rz k4 (jU (xn 2) (xn 3))) (jr (jA (i:=2) lX.nd rz k4 (xn 3)) (jw (jA (i:=3) lX.nd rz k4 (xn 4)))))) (jw (jB (xn 2)))))),λas t=>?_))
 obtain⟨a,b,rfl⟩:=t;refine(rz,λu g=>(rz,λv ev=>?_));have g:u=if a<0 then -a else a:=g;have ev:v=if b<0 then -b else b:=ev;have B:u=(a.natAbs:Int):=by rw[g];split<;>lia
 have C:v=(b.natAbs:Int):=by rw[ev];split<;>lia
 refine(λd=>∃x y w,d=[k6 a,k6 b,k6 x,k6 y,w]/\0<=x/\0<=y/\Int.gcd x y=Int.gcd a b,λd=>(vQ d 3).toNat,(u,v,.un,rz,(),(),by rw[B,C];rfl),?_);rintro d ⟨x,y,w,rfl,z,p,n⟩;refine((rz,tT),λq=>?_,λq=>?_)
 .have q:¬y=0:=q;refine((rz,rz,(():0<y)),λm e=>(rz,λc j=>(rz,λl k=>?_)));have e:m=x % y:=e;have j:c=y:=j;have k:l=m:=k;subst j k;have D:=a8 x (show c≠0 by lia);have F:=aV x (show 0<c by lia);refine((c,l,_,rz,p,(),by rw[e,Kf z p];exact n),?_);show l.toNat<c.toNat;lia
 .have q:¬¬y=0:=q;have q:y=0:=bH.mp q;refine(rz,?_);show PV.int x=PV.int (Int.gcd a b:Int);rw[<-n,q,gK];congr 1;lia
def cont (w:List Int):Int:=if ¬w=[]/\w[j6 (ln w) (-1)]!<0 then -qz 0 w else qz 0 w
def acr (f:List Int):PV:=.tup [.int (cont (jy f)),.ints ((jy f).map λn=>n.fdiv (cont (jy f)))]
theorem qU (f:Li):f.map (pl 0)=f:=by
 have:(pl 0)=id:=by funext n;rfl
 rw[this,cC]
theorem oJ {xs:Li}{m:Int}(h:m∈jy xs):m∈xs:=by unfold jy at h;exact List.mem_reverse.mp ((iB _).subset (List.mem_reverse.mp h))
theorem zf {w:Li}:∀n∈w,cont w ∣ n:=λn h=>by
 have:=(Lp w 0).2 n h;unfold cont;split
 .exact Int.neg_dvd.mpr this
 .exact this
theorem QT {f:Li}(h:jy f≠[]):cont (jy f)≠0:=λz=>by have a:=zf (w:=jy f) _ (iz h);rw[z]at a;exact Ei h (jj.mp a)
theorem Xx {f:Li}{N:Nat}(e:∀m∈f,m.natAbs<2^N)(h:jy f≠[]):(cont (jy f)).natAbs<2^N:=by have a:=zf (w:=jy f) _ (iz h);have c:=e _ (oJ (iz h));have d:=dC.mpr a;have g:=Ei h;exact aK (Nat.le_of_dvd () d) c
theorem Jx {n:Int}{N:Nat}(h:n.natAbs<2^N)(a:0<N):n.natAbs.log2<N:=by
 by_cases c:n.natAbs=0
 .rw[c];exact a
 .exact(gw c).mpr h
def WT:Ok P w K mg base 4 "bared" ["f"] (spN K (Gk cW cR cP) (λas=>∃f,as=[.ints f]/\ln f<=1000/\∀m∈f,m.natAbs<2^9000) λs=>(λf=>acr f) (lI s 0)):=by
 refine okN T.YL uw '!' (λf C A t s H E r=>(_,(jr (jG (i:=1) uw.nd rz k4 (jJ (m6 (jL T) r %[z7 (mH T) r Az,xl 0|_]))) (jr (jA (i:=2) uw.nd rz (Or.inr rz) jt) (jr (wC (k:=3) aw rz (xl 1) uw.nd rz k4 (jw (jA (i:=2) uw.nd rz (Or.inr rz) (yW (zU T) r %[xn 2,xn 3|_])))) (lU (jX (L2.PW.pt (uJ (sZ 1) (qW (FJ (kI 1 (lV jt) (λ_ _=>rz)) jt)))) (jw (jA (i:=2) uw.nd rz (Or.inr rz) (lV (xn 2)))) jN) (jw (Wx (adc (Q5 (nI (xn 2)) (Q5 (nL (pQ (N':=["number","content"]) (cap:=[so 2]) (kW rz rz rz rz ((rz,.inr (.inl rz),sS,.inl rz,_,rz,rz),tT) (rz,tT) rz) rz (xl 1) (λ_ _ _=>(lO 0)) (λ_ _ _=>(Zy (xn 0) (xn 1))))) acA))))))))),λas J=>?_))
 obtain⟨f,rfl,y,I⟩:=J;have L:ln (jy f)<=1000:=aj (lz f) y;have D:=QT (f:=f);have B:=Xx (N:=9000) I;refine(((tT,rz,tT),0,f,rz,y),λu j=>?_);have j:u=jy f:=by have j:u=jy (f.map (pl 0)):=j;rw[qU]at j;exact j
 refine(tT,λx g=>?_);have g:x=0:=g;refine jD (ρ':=[k7 f,k7 u,k6 x,.un]) rz ?_;refine(rz,λi l=>∃v,l=[k7 f,k7 u,k6 (qz 0 (u.take i)),v],(.un,by rw[g];rfl),?_,?_)
 .rintro i n l d ⟨v,rfl⟩;have d:u[i]?=so n:=d;refine(((rz,rz,tT),_,_,rz),λc e=>?_);have e:c=(Int.gcd (qz 0 (u.take i)) n:Int):=e;have F:qz 0 (u.take (i+1))=c:=by rw[pY d,Mx,e];rfl
  rw[<-F];exact(_,rz)
 rintro l ⟨v,rfl⟩;have G:qz 0 (u.take (ln u))=qz 0 u:=by rw[cw]
 refine jD (ρ':=[k7 f,k7 u,k6 (qz 0 u),v]) (by rw[<-G];rfl) ?_;refine(λl=>l=[k7 f,k7 u,k6 (cont u),v],((.inl rz,λh=>?_),λq=>?_,λq=>?_),?_)
 .have h:¬u=[]:=h;have:=lP h;exact((.inl rz,tT,(():-(ln u:Int) <= -1),(():(-1:Int)<(ln u:Int))),tT)
 .have q:¬u=[]/\u[j6 (ln u) (-1)]!<0:=q;refine(rz,λc e=>?_);have e:c = -qz 0 u:=e;have p:cont u=c:=by unfold cont;rw[aL q,e]
  rw[<-p];rfl
 .have q:¬(¬u=[]/\u[j6 (ln u) (-1)]!<0):=q;have p:cont u=qz 0 u:=by unfold cont;rw[aF q]
  rw[<-p]
 rintro l rfl;subst j;refine((rz,(rz,L,λn d=>(rz,rz,?_)),tT),rz);have o:jy f≠[]:=λz=>by have d:n∈jy f:=d;rw[z]at d;cases d
 exact(D o,Jx (B o) (()))
def jV (n:Int):Int:=if n<0 then -n else n
theorem aa6 {n:Int}{N:Nat}(h:n.natAbs<=N):0<=jV n/\jV n<=(N:Int):=by unfold jV;split<;>lia
theorem RD {N:Nat}:∀{l:Li},(∀m∈l,m.natAbs<=N)->0<=(l.map jV).sum/\(l.map jV).sum<=(ln l:Int)*(N:Int)
 |[],_=>by simp
 |n::r,h=>by
  have c:=aa6 (h n az);have d:=RD (l:=r) λm a=>h m (ai _ a);have e:((ln r+1:Nat):Int)*(N:Int)=(ln r:Int)*(N:Int)+(N:Int):=by push_cast;rw[eS,bw]
  rw[bi,fA,bC,e];lia
def bnd (f:List Int):Int:=(f.map jV).sum*2^(ln f-1)
def Kv:Ok P w K mg base 4 "bound" ["g"] (rK K (Gk cW cR cP) (λas=>∃g,as=[.ints g]/\ln g<=40/\(∀m∈g,m.natAbs<=2^200)/\jy g≠[]) λs=>(λg=>bnd (jy g)) (lI s 0)):=by
 refine pX T.YK Mw '!' (λf k A o s H E j=>(_,(jr (jG (i:=1) Mw.nd rz k4 (jJ (m6 (jL T) j %[z7 (mH T) j Az,xl 0|_]))) (jw (jB (kO (O3 rz T.Vy (jJ (pQ (N':=["number"]) (cap:=[]) (kW rz rz rz rz tT tT rz) rz (xl 1) (λ_ _ _=>(lO 0)) (λ_ _ _=>(zZ T.Ii (xn 0)))))) (yW (pK T) j %[jt,lw (jO 1 T.jM) jt|_]))))),λas x=>?_))
 obtain⟨g,rfl,r,p,d⟩:=x;have G:ln (jy g)<=40:=aj (lz g) r;have y:∀m∈jy g,m.natAbs<=2^200:=λm v=>p m (oJ v);have I:0<ln (jy g):=lP d;refine(((tT,rz,tT),0,g,rz,()),λu c=>?_);have c:u=jy g:=by have c:u=jy (g.map (pl 0)):=c;rw[qU]at c;exact c
 subst c;have F:=RD y;generalize l:(jy g)=t at *
 refine(((rz,(():ln t<=1000),λn _=>rz),((tT,((.inl rz,tT),tT)),tT,rz,?_),?_),?_)
 .exact((():0<=(ln t:Int)-1),(():(ln t:Int)-1<=400),.inl ((()):-(2:Int)^64<2/\(2:Int)<2^64))
 .show IntMulOk (t.map jV).sum ((2:Int)^((ln t:Int)-1).toNat);refine nR (n:=300) (m:=300) ?_ ?_
  .have z:(ln t:Int)*((2^200:Nat):Int)<=40*((2^200:Nat):Int):=aY () ();have C:(40:Int)*((2^200:Nat):Int)<((2^300:Nat):Int):=by decide +kernel
   generalize ((2^200:Nat):Int)=A at *
   generalize D:(2^300:Nat)=B at *
   lia
  .have e:((2:Int)^((ln t:Int)-1).toNat)=((2^((ln t:Int)-1).toNat:Nat):Int):=by push_cast;rfl
   rw[e,Int.natAbs_natCast];exact aI (()) ()
 .show PV.int ((t.map jV).sum*(2:Int)^((ln t:Int)-1).toNat)=PV.int (bnd (jy g));rw[l];unfold bnd;have e:((ln t:Int)-1).toNat=ln t-1:=()
  rw[e]
def qP (p l m:Int):Prop:=1<=m/\l<p^m.toNat/\(m=1\/p^(m-1).toNat<=l)
theorem sJ {p:Int}(f:2<=p){a b:Nat}(h:a<=b):p^a<=p^b:=by obtain⟨k,rfl⟩:=Nat.exists_eq_add_of_le h;rw[Int.pow_add];have c:0<p^a:=dD ();have d:0<p^k:=dD ();have e:p^a*1<=p^a*p^k:=aH () ();lia
theorem qP.one {p l m d:Int}(i:2<=p)(h:qP p l m)(h':qP p l d):m=d:=by
 have k:∀a b:Int,qP p l a->qP p l b->¬a<b:=λa b e f g=>by
  obtain⟨j,n,_⟩:=e;obtain⟨o,_,c⟩:=f;rcases c with c|c
  .lia
  .have:=sJ i (a:=a.toNat) (b:=(b-1).toNat) ();lia
 have:=k _ _ h h';have:=k _ _ h' h;lia
open Classical in
def pH (p l:Int):Int:=if h:∃m,qP p l m then h.choose else 0
theorem El {p l m:Int}(a:2<=p)(h:qP p l m):pH p l=m:=by have e:∃m,qP p l m:=(m,h);unfold pH;rw[jo e];exact qP.one a e.choose_spec h
theorem Q9 {p l:Int}:∀n:Nat,l<p^(n+1)->∃m:Int,m<=n+1/\qP p l m
 |0,h=>(1,(),(),h,.inl rz)
 |n+1,h=>by
  by_cases c:l<p^(n+1)
  .obtain⟨m,d,a⟩:=Q9 n c;exact(m,(),a)
  .exact((n:Int)+2,(),(),by rw[show((n:Int)+2).toNat=n+1+1 by lia];exact h,.inr (by rw[show((n:Int)+2-1).toNat=n+1 by lia];lia))
theorem Rg {p:Int}{fs:Li}(d:2<=p)(hl:ln fs<=13)(g:∀m∈fs,m.natAbs<=2^200):qP p (2*bnd fs) (pH p (2*bnd fs))/\pH p (2*bnd fs)<=400:=by
 have s:=RD g;have h:2*bnd fs<(2:Int)^(299+1):=by
  unfold bnd;have e:(ln fs:Int)*((2^200:Nat):Int)<=13*((2^200:Nat):Int):=aY () ();have c:(2:Int)^(ln fs-1)<=2^12:=sJ (()) ();have o:(fs.map jV).sum*(2:Int)^(ln fs-1)<=(fs.map jV).sum*(2:Int)^12:=aH c s.1;have r:2*(13*((2^200:Nat):Int)*(2:Int)^12)<(2:Int)^(299+1):=by decide +kernel
  have t:(fs.map jV).sum*(2:Int)^12<=13*((2^200:Nat):Int)*(2:Int)^12:=aY () (());generalize (fs.map jV).sum*(2:Int)^(ln fs-1)=X at *
  generalize (fs.map jV).sum*(2:Int)^12=Y at *
  generalize 13*((2^200:Nat):Int)*(2:Int)^12=Z at *
  generalize (2:Int)^(299+1)=W at *
  clear e c s;lia
 have f:(2:Int)^(299+1)<=p^(299+1):=by
  have a:∀n:Nat,(2:Int)^n<=p^n:=λn=>by
   induction n with
   |zero=>simp
   |succ k j=>rw[bE,bE];exact gT j d (()) (gL (dD ()))
  exact a _
 generalize (2:Int)^(299+1)=W at *
 obtain⟨m,u,i⟩:=Q9 (p:=p) (l:=2*bnd fs) 299 (Int.lt_of_lt_of_le h f);rw[El d i];exact(i,())
def Nb:Ok P w K mg base 5 "many_for" ["prime","g"] (rK K (Gk cW cR cP) (λas=>∃p g,as=[.int p,.ints g]/\2<=p/\p<=9973/\ln g<=40/\(∀m∈g,m.natAbs<=2^200)/\jy g≠[]) λs=>(λp g=>pH p (2*bnd (jy g))) (zI s 0) (lI s 1)):=by
 refine pX T.Ph o7 '!' (λf B A x s H E J=>(_,(jr (jA (i:=2) o7.nd rz k4 (kO jt (yW (Kv T) J %[xl 1|_]))) (jr (jA (i:=3) o7.nd rz k4 jt) (jr (jA (i:=4) o7.nd rz k4 (xn 0)) (jr (lD aw (XQ (xn 4) (xn 2)) (jr (tM (i:=4) o7.nd rz k4 (xn 0) Dj) (jw (tM (i:=3) o7.nd rz k4 jt rP)))) (jw (jB (xn 3))))))),λas I=>?_))
 obtain⟨p,g,rfl,N,O,F,D,v⟩:=I;refine((tT,((rz,tT),g,rz,F,D,v),mX (((()):-(2:Int)^64<2),((()):(2:Int)<2^64))),λl y=>?_);have r:l=2*bnd (jy g):=y;clear y;refine(tT,λL e=>?_);have e:L=1:=e;refine(rz,λc d=>?_);have d:c=p:=d;subst e d;refine(λj=>∃m:Int,j=[k6 c,k7 g,k6 l,k6 m,k6 (c^m.toNat)]/\1<=m/\(m=1\/c^(m-1).toNat<=l),λj=>(l+1-vQ j 4).toNat,(1,by show _=_;rw[show c^(1:Int).toNat=c by show c^1=c;rw[bE,eC,bw]];rfl,(),.inl rz),?_);rintro j ⟨m,rfl,M,G⟩;have z:0<c^m.toNat:=dD ();refine((rz,rz),λq=>?_,λq=>?_)
 .have q:c^m.toNat<=l:=q;refine(rz,rz,tE (?_,?_),λn t=>?_)
  .show -(2:Int)^64<c;lia
  .show c<(2:Int)^64;lia
  have t:n=c^m.toNat*c:=t;have C:(m+1).toNat=m.toNat+1:=()
  have u:n=c^(m+1).toNat:=by rw[t,C,bE]
  have grow:c^m.toNat*2<=c^m.toNat*c:=aH () ();refine(rz,tT,tT,λk o=>?_);have o:k=m+1:=o;subst o;refine((m+1,by rw[u];rfl,(),.inr (by rw[show m+1-1=m by lia];exact q)),?_);show(l+1-n).toNat<(l+1-c^m.toNat).toNat;lia
 .have q:¬c^m.toNat<=l:=q;refine(rz,?_);show PV.int m=PV.int (pH c (2*bnd (jy g)));rw[<-r,El N (M,(),G)]
def pcc (n:Nat):Nat:=if h:n=0 then 0 else n % 2+pcc (n / 2)
termination_by n
decreasing_by lia
theorem ac2:pcc 0=0:=by unfold pcc;rw[jo rfl]
theorem acW {n:Nat}(h:0<n):pcc n=n % 2+pcc (n / 2):=by
 conv=>lhs;unfold pcc
 rw[dif_neg ()]
def yC (n:Int):Int:=(pcc n.toNat:Int)
theorem Ri:yC 0=0:=by show((pcc 0:Nat):Int)=0;rw[ac2];rfl
theorem Rp {n:Int}(h:0<n):yC n=n % 2+yC (n / 2):=by unfold yC;rw[acW (),show(n / 2).toNat=n.toNat / 2 by lia];lia
def vX:Ok P w K mg base 1 "place_count" ["bits"] (rK K (Gk cW cR cP) (λas=>∃n,as=[.int n]/\0<=n) λs=>(λn=>yC n) (zI s 0)):=by
 refine pX T.GR oE '!' (λf t A o s H E y=>(_,(jr (jA (i:=1) oE.nd rz k4 jt) (jr (jA (i:=2) oE.nd rz k4 (xn 0)) (jr (lD aw (pZ (xn 2) jt) (jr (tM (i:=1) oE.nd rz k4 (Rf (xn 2) jt) rP) (jw (tM (i:=2) oE.nd rz k4 jt iop_shr)))) (jw (jB (xn 1)))))),λas v=>?_))
 obtain⟨n,rfl,u⟩:=v;refine(tT,λr d=>(rz,λg e=>?_));replace d:r=0:=d;replace e:g=n:=e;subst d e;refine jD (ρ':=[k6 g,k6 0,k6 g]) rz ?_;refine(λk=>∃c l,k=[k6 g,k6 c,k6 l]/\0<=l/\c+yC l=yC g,λk=>(vQ k 2).toNat,(0,g,rz,u,()),?_);rintro k ⟨c,l,rfl,x,p⟩;refine((rz,tT),λq=>?_,λq=>?_)
 .have q:l > 0:=q;have z:=Rp q;refine(rz,(rz,tT,rz),tT,λm d=>(rz,tT,((()):(0:Int)<=1),λj e=>((m,j,rz,?_,?_),?_)))
  .replace e:j=l / 2:=e;lia
  .replace e:j=l / 2:=e;replace d:m=c+l % 2:=d;rw[e,d];lia
  .replace e:j=l / 2:=e;show j.toNat<l.toNat;lia
 .have q:¬l > 0:=q;have:l=0:=()
  subst this;rw[Ri]at p;refine(rz,?_);show PV.int c=PV.int (yC g);rw[<-p];congr 1;lia
def Zv:Ok P w K mg base 1 "_law_ones" ["_law_bits"] (rK K (Gk cW cR cP) (λas=>∃n,as=[.int n]/\0<=n) λs=>(λn=>yC n) (zI s 0)):=by
 refine pX T.acp CN '!' (λf r A o s H E x=>(_,(jr (jA (i:=1) CN.nd rz k4 jt) (jr (lD aw (pZ (xn 0) jt) (jr (jA (i:=1) CN.nd rz k4 (km (xn 1) (jU (xn 0) jt))) (jw (jA (i:=0) CN.nd rz k4 (nA (xn 0) jt))))) (jw (jB (xn 1))))),λas u=>?_))
 obtain⟨n,rfl,t⟩:=u;refine(tT,λp e=>?_);replace e:p=0:=e;subst e;refine jD (ρ':=[k6 n,k6 0]) rz ?_;refine(λj=>∃l c,j=[k6 l,k6 c]/\0<=l/\c+yC l=yC n,λj=>(vQ j 0).toNat,(n,0,rz,t,()),?_);rintro j ⟨l,c,rfl,v,m⟩;refine((rz,tT),λq=>?_,λq=>?_)
 .have q:l > 0:=q;have y:=Rp q;refine((rz,rz,tT,((()):(0:Int)<2)),λk e=>((rz,tT,((()):(0:Int)<2),by show(2:Int).natAbs.log2<9000;decide +kernel),λg d=>((g,k,rz,?_,?_),?_)))
  .replace d:g=l / 2:=d;lia
  .replace d:g=l / 2:=d;replace e:k=c+l % 2:=e;rw[d,e];lia
  .replace d:g=l / 2:=d;show g.toNat<l.toNat;lia
 .have q:¬l > 0:=q;have:l=0:=()
  subst this;rw[Ri]at m;refine(rz,?_);show PV.int c=PV.int (yC n);rw[<-m];congr 1;lia
def wD (n:Int):List Int:=((ss (2^n.toNat-1)).filter λ(k:Nat)=>decide (2*yC (1+k)<=n)).map λ(k:Nat)=>1+(k:Int)
theorem Xw {n:Int}(h:n<=5):ln (wD n)<64:=by unfold wD;rw[ac];refine aK (fR _ _) ?_;rw[aC];have:2^n.toNat<=2^5:=aW (()) ();lia
theorem Wa {n m:Int}(h:m∈wD n):0<m:=by unfold wD at h;obtain⟨k,_,rfl⟩:=aB.mp h;lia
def Sx:Ok P w K mg base 5 "sets" ["count"] (T6 K (Gk cW cR cP) (λas=>∃n,as=[.int n]/\0<=n/\n<=5) λs=>(λn=>xf yC (wD n)) (zI s 0)):=by
 refine abp T.ab4 QD T.abe '!' (λf l A o s H E g r=>(_,(jr (Oa (i:=1) QD.nd rz rz (N':=["bits","count"]) (cap:=[so 0]) (kW rz rz rz rz ((rz,.inr (.inl rz),sS,.inl rz,_,rz,rz),tT) (rz,tT) rz) rz (by rfl) T.lM jt (Vx jt (xn 0)) (λ_ _ _=>(lO 0)) (λ_ _ _=>(XQ (kO jt (yW (vX T) g %[xn 0|_])) (xn 1))) (λ_ _ _=>(xn 0)) rz) (jw (jB (jJ (WF yC (vX T) r g T.yR (xl 1)))))),λas u=>?_))
 obtain⟨n,rfl,h0,c⟩:=u;have p:(2:Int)^n.toNat=((2^n.toNat:Nat):Int):=by rw[iM];rfl
 have x:2^n.toNat<=2^12:=aW (()) ();have j:0<2^n.toNat:=fI (());have d:(1*(2:Int)^n.toNat-1).toNat=2^n.toNat-1:=by rw[p];lia
 refine(((tT,tT,rz,?_),(((()):-(2:Int)^62<=1),((()):(1:Int)<2^62),?_,?_),?_,λk y=>(((tT,((rz,tT),1+(k:Int),rz,()),?_),rz),λ_=>rz)),λv e=>?_)
 .show 0<=n/\(Builtin.Int.intBits 1:Int)+n<=2^27;have:(Builtin.Int.intBits 1:Int)=1:=(())
  lia
 .show -(2:Int)^62<=1*2^n.toNat;rw[p];lia
 .show 1*(2:Int)^n.toNat<2^62;rw[p];lia
 .show(1*(2:Int)^n.toNat-1).toNat<=10000;rw[d];lia
 .exact mX (())
 replace e:v=wD n:=by rw[e];show((ss (1*(2:Int)^n.toNat-1).toNat).filter λ(k:Nat)=>decide (2*yC (1+k)<=n)).map (λ(k:Nat)=>1+(k:Int))=wD n;rw[d];rfl
 subst e;refine jD (ρ':=[k6 n,k7 (wD n)]) rz ?_;exact((rz,Xw c,λm t=>((m,rz,gL (Wa t)),rz)),rz)
def wY (z n:Int):Int:=if 2*(n % z) > z then n % z-z else n % z
def BV:Ok P w K mg base 1 "rests_by" ["size","f"] (Ff K (Gk cW cR cP) (λas=>∃z f,as=[.int z,.ints f]/\0<z/\ln f<=1000) λs=>(λz f=>f.map λn=>n % z) (zI s 0) (lI s 1)):=by
 refine GJ T.OJ Lk '!' (λf c A o s H E i=>(_,(jw (mD (pQ (N':=["number","size"]) (cap:=[so 0]) (kW rz rz rz rz ((rz,.inr (.inl rz),sS,.inl rz,_,rz,rz),tT) (rz,tT) rz) rz (xl 1) (λ_ _ _=>(lO 0)) (λ_ _ _=>(jU (xn 0) (xn 1)))))),λas e=>?_));obtain⟨z,f,rfl,g,d⟩:=e;exact((rz,d,λn _=>(rz,rz,g)),rz)
def Og:Ok P w K mg base 1 "nearest" ["size","number"] (rK K (Gk cW cR cP) (λas=>∃z n,as=[.int z,.int n]/\0<z) λs=>(λz n=>wY z n) (zI s 0) (zI s 1)):=by
 refine pX T.T7 Dl '!' (λf c A o s H E j=>(_,(jr (jA (i:=2) Dl.nd rz k4 (jU (xn 1) (xn 0))) (jw (jB (RC (pZ (kO jt (xn 2)) (xn 0)) (lw (xn 2) (xn 0)) (xn 2))))),λas d=>?_))
 obtain⟨z,n,rfl,g⟩:=d;refine((rz,rz,g),λr e=>?_);replace e:r=n % z:=e;refine jD (ρ':=[k6 z,k6 n,k6 r]) rz ?_;refine((((tT,rz,mX (())),rz),λ_=>(rz,rz),λ_=>rz),?_);show(if 2*r > z then PV.int (r-z) else PV.int r)=PV.int (wY z n);unfold wY;rw[e];split<;>rfl
def xP (z b:Int)(uss:List (List Int))(l0:List Int):Nat->List Int
 |0=>l0
 |i+1=>if b / 2^i % 2=1 then(Tz 0 (jz (Tz 0 (xP z b uss l0 i)) (Tz 0 ((uss[i]'[]).map λn=>n % z)))).map λn=>n % z else xP z b uss l0 i
def Il (z b:Int)(uss:List (List Int))(l0:List Int):Nat->List Int
 |0=>l0
 |i+1=>if b / 2^i % 2=1 then Tz z (jz (Il z b uss l0 i) (uss[i]'[])) else Il z b uss l0 i
theorem aaI {z n:Int}(a:0<z)(h:z<((2^200:Nat):Int)):(n % z).natAbs<2^200:=by have c:=a8 n (show z≠0 by lia);have d:=aV n a;generalize (2:Nat)^200=N at h ⊢;lia
theorem Wv {z b:Int}{uss:List (List Int)}{l0:Li}(d:0<z)(h:z<((2^200:Nat):Int))(hl:ln l0<=1)(a:∀m∈l0,m.natAbs<2^200)(c:∀u∈uss,ln u<=10):∀i,ln (xP z b uss l0 i)<=1+10*i/\∀m∈xP z b uss l0 i,m.natAbs<2^200
 |0=>(hl,a)
 |i+1=>by
  obtain⟨f,g⟩:=Wv (b:=b) d h hl a c i;unfold xP;split
  .refine(?_,λm j=>?_)
   .rw[ac];refine aj (lz _) ?_;rw[ac];unfold jz;rw[ac,aC];have k:ln (Tz 0 (xP z b uss l0 i))<=1+10*i:=aj (aj (lz _) (by rw[ac];exact ao _)) f;have l:ln (Tz 0 ((uss[i]'[]).map λn=>n % z))<=10:=by
     refine aj (lz _) ?_;rw[ac,ac,gQ];cases e:uss[i]? with
     |none=>exact bp _
     |some u=>exact c u (aP e)
    lia
   .obtain⟨n,_,rfl⟩:=aB.mp j;exact aaI d h
  .exact((),g)
theorem tG (f:Li)(n:Nat):(Tz 0 f)[n]! =f[n]!:=by rw[kZ];rfl
theorem uK {f:Int->Int}(h:f 0=0)(l:Li)(n:Nat):(l.map f)[n]! =f l[n]!:=by
 rw[gQ,ag,gQ];cases l[n]? with
 |none=>exact h.symm
 |some x=>rfl
theorem sY (z n:Int):z ∣ n % z-n:=by have:=iK n z;exact(-(n / z),by rw[gx];lia)
def JC:Ok P w K mg base 4 "candidate" ["g","size","ups","bits"] (T6 K (Gk cW cR cP) (λas=>∃(g:List Int) (z:Int) (uss:List (List Int)) (b:Int),as=[.ints g,.int z,.lst (uss.map PV.ints),.int b]/\0<z/\z<((2^200:Nat):Int)/\jy g≠[]/\ln g<=1000/\(∀m∈g,m.natAbs<2^200)/\ln uss<=10/\∀u∈uss,ln u<=10) λs=>(λg z us b=>jy ((xP z b (us.map Jd) [jx (jy g)] (ln us)).map (wY z))) (lI s 0) (zI s 1) (None s 2) (zI s 3)):=by
 refine pX T.Lj p8 '!' (λf Y A L s H E e=>(_,(jr (jG (i:=4) p8.nd rz k4 (jJ (j8 %[n6 (jF (jJ (m6 (jL T) e %[z7 (mH T) e Az,xl 0|_])) (lV jt) (λ_ _=>rz))|_]))) (jr (HN (k:=5) (j:=6) aw rz (by rfl) T.mZ (kJ (xv 2)) (pg_tup rz (pgs_cons (pg_name (i:=5) p8.nd rz k4) (pgs_cons (pg_name (i:=6) p8.nd rz k4) pgs_nil))) (jw (jX (nJ (Rf (WX (xn 3) (xn 5)) jt) jt) (jw (jG (i:=4) p8.nd rz k4 (jJ (m6 (BV T) e %[xn 1,jJ (m6 (pL T) e %[z7 (mH T) e Az,xl 4,jJ (m6 (BV T) e %[xn 1,xl 6|_])|_])|_])))) jN))) (jw (jB (jJ (m6 (jL T) e %[z7 (mH T) e Az,jJ (pQ (N':=["number","size"]) (cap:=[so 1]) (kW rz rz rz rz ((rz,.inr (.inl rz),sS,.inl rz,_,rz,rz),tT) (rz,tT) rz) rz (xl 4) (λ_ _ _=>(lO 0)) (λ_ _ _=>(yW (Og T) e %[xn 1,xn 0|_])))|_])))))),λas hp=>?_))
 obtain⟨g,z,uss,b,rfl,x,y,I,gl,gb,ul,U⟩:=hp;have Z:(uss.map PV.ints).map Jd=uss:=by rw[bj];exact(aO λu _=>rz).trans (cC _)
 have O:Tz 0 g=jy g:=by unfold Tz;rw[show g.map (pl 0)=g from(aO λn _=>rz).trans (cC _)]
 have lT:=lP I;refine(((((((tT,rz,tT),0,g,rz,gl),tT,?_),rz),tT),tT),λl B=>?_)
 .show -(ln (Tz 0 g):Int) <= -1/\(-1:Int)<(ln (Tz 0 g):Int);rw[O];lia
 replace B:l=[jx (jy g)]:=by rw[B];show[(Tz 0 g)[j6 (ln (Tz 0 g)) (-1)]!]=_;rw[O,nW _ lT]
 have R:ln l<=1/\∀m∈l,m.natAbs<2^200:=by
  rw[B];refine(ao _,λm t=>?_);rw[af.mp t];show((jy g)[ln (jy g)-1]!).natAbs<_;rw[Ba _ _ rfl];by_cases c:ln (jy g)-1<ln g
  .exact gb _ (FM.getD_mem c)
  .rw[jH ()];exact fI (())
 have N:=Wv (b:=b) x y R.1 R.2 U;have r:∀{k:Nat},k<2^200->k<2^9000:=λh=>aQ h (aW (()) (()));refine jD (ρ':=[k7 g,k6 z,.fr (.lst (uss.map PV.ints)),k6 b,k7 l,.un,.un]) rz ?_;refine((rz,rz),λi F=>i<=ln uss/\∃v w,F=[k7 g,k6 z,.fr (.lst (uss.map PV.ints)),k6 b,k7 (xP z b uss l i),v,w],(bp _,.un,.un,rz),?_,?_)
 .rintro i q F o ⟨hi,v,w,rfl⟩;have o:(uss.map PV.ints)[i]?=so q:=o;rw[ag]at o;have J:i<ln uss:=by
   rcases Nat.lt_or_ge i (ln uss) with z|z
   .exact z
   .rw[bu z]at o;cases o
  rw[ae J]at o;cases o;have Q:uss[i]'[]=uss[i]:=by rw[gQ,ae J];rfl
  generalize hu:uss[i]=u at Q;have ul1:ln u<=10:=by rw[<-hu];exact U _ (bR J)
  obtain⟨p1,S⟩:=N i;have M:=(N (i+1)).1;refine((((rz,rz,(():(0:Int)<=(i:Int))),tT,rz),tT),λq=>?_,λq=>?_)
  .have q:b / 2^i % 2=1:=q;have C:xP z b uss l (i+1)=(Tz 0 (jz (Tz 0 (xP z b uss l i)) (Tz 0 (u.map λn=>n % z)))).map λn=>n % z:=by
    conv=>lhs;unfold xP
    rw[aL q,Q]
   refine(((rz,((tT,rz,((rz,rz,tT),z,u,rz,x,()),tT),0,xP z b uss l i,u.map λn=>n % z,rz,ck 0,?_,?_,λm t=>r (S m t),λm t=>?_),tT),z,Tz 0 (jz (Tz 0 (xP z b uss l i)) (Tz 0 (u.map λn=>n % z))),rz,x,?_),λp G=>?_)
   .exact gO.mpr (fI (()))
   .rw[ac];lia
   .obtain⟨k,_,rfl⟩:=aB.mp t;exact r (aaI x y)
   .rw[C,ac]at M;lia
   .replace G:p=xP z b uss l (i+1):=by rw[C];exact G
    rw[G];exact((),k6 (i:Int),k7 u,rz)
  .have q:¬b / 2^i % 2=1:=q;have C:xP z b uss l (i+1)=xP z b uss l i:=by
    conv=>lhs;unfold xP
    rw[aF q]
   exact((),k6 (i:Int),k7 u,by rw[C];rfl)
 rintro F ⟨_,v,w,D⟩;have D:F=[k7 g,k6 z,.fr (.lst (uss.map PV.ints)),k6 b,k7 (xP z b uss l (ln (uss.map PV.ints))),v,w]:=D;rw[ac]at D;subst D;obtain⟨p1,S⟩:=N (ln uss);refine(((tT,(rz,?_,λn _=>((rz,rz,tT),z,n,rz,x)),tT),0,(xP z b uss l (ln uss)).map (wY z),rz,?_),?_)
 .show(xP z b uss l (ln uss)).length<=1000;lia
 .rw[ac];lia
 .show PV.ints (jy (((xP z b uss l (ln uss)).map (wY z)).map (pl 0)))=PV.ints (jy ((xP z b ((uss.map PV.ints).map Jd) [jx (jy g)] (ln (uss.map PV.ints))).map (wY z)));rw[Z,ac,<-B,show((xP z b uss l (ln uss)).map (wY z)).map (pl 0)=(xP z b uss l (ln uss)).map (wY z) from(aO λn _=>rz).trans (cC _)]
def Bf:Ok P w K mg base 1 "is_prime" ["number"] (Aj K (Gk cW cR cP) (λas=>Ft as/\ln as=1/\yes (qy as)) λas=>F_P (qy as)):=ac7 (Bl T)
def PP (g:List Int)(p m:Int):Prop:=mR p/\¬jx g % p=0/\1<=m/\m<=400/\2*bnd g<p^m.toNat
open Classical in
def szB (g:List Int)(p m:Int):Bool:=decide (PP g p m)
open Classical in
theorem aak {g:Li}{p m:Int}:szB g p m=true ↔ PP g p m:=by unfold szB;exact cJ
open Classical in
theorem aaH {g:Li}{p m:Int}(h:¬PP g p m):szB g p m=false:=by unfold szB;exact aN h
def Jf:Ok P w K mg base 5 "size_fits" ["g","prime","many"] (Aj K (Gk cW cR cP) (λas=>∃g p m,as=[.ints g,.int p,.int m]/\ln g<=40/\(∀m∈g,m.natAbs<=2^200)/\jy g=g/\g≠[]) λs=>(λg p m=>szB g p m) (lI s 0) (zI s 1) (zI s 2)):=by
 refine pX T.Ld Jg '!' (λf i A o s H E d=>(_,(jr (jX (L2.PW.pt (qK (vJ (G8 (Uu (Bf T) d %[xn 1|_]))) (qK (nJ (jU (kI 0 (lV jt) (λ_ _=>rz)) (xn 1)) jt) (qK (FJ (xn 2) jt) (rH (pZ (xn 2) (QQ (by rfl) T.vC))))))) (jw (jB vP)) jN) (jw (jB (XR (yW (pK T) d %[xn 1,xn 2|_]) (kO jt (yW (Kv T) d %[xl 0|_])))))),λas r=>?_))
 obtain⟨g,p,m,rfl,k,j,tz,n⟩:=r;have t:=lP n;have l:g[j6 (ln g) (-1)]! =jx g:=nW g t;have pt:∀x:Int,F_P [x]=Nr x:=λ_=>rfl;refine((((rz,tT),tT,rz,tT),λq=>((((.inl rz,tT,(():-(ln g:Int) <= -1),(():(-1:Int)<(ln g:Int))),rz,?_),tT),λ_=>((rz,tT),λ_=>(rz,tT)))),λq=>(tT,?_),λq=>?_)
 .have q:¬¬Nr p=true:=q;have:=(Cv.mp (bH.mp q)).1;show 0<p;lia
 .have q:¬Nr p=true\/g[j6 (ln g) (-1)]! % p=0\/m<1\/400<m:=q;rw[l]at q;refine congrArg PV.bl (aaH λz=>?_).symm;obtain⟨v,y,B,C,_⟩:=z;rcases q with q|q|q|q
  .exact q (Ga v)
  .exact y q
  .exact Int.not_le.mpr q B
  .exact Int.not_le.mpr q C
 .have q:¬(¬Nr p=true\/g[j6 (ln g) (-1)]! % p=0\/m<1\/400<m):=q;rw[l]at q;have e:=Cv.mp (bH.mp λz=>q (.inl z));have u:¬jx g % p=0:=λz=>q (.inr (.inl z));have G:¬m<1:=λz=>q (.inr (.inr (.inl z)));have I:¬400<m:=λz=>q (.inr (.inr (.inr z)));have D:=e.1;have F:=e.2.1;refine((((rz,rz,tT),tT,rz,(():0<=m),(():m<=400),.inl ((():-(2:Int)^64<p),(():p<(2:Int)^64))),tT,((rz,tT),g,rz,k,j,by rw[tz];exact n),mX (((()):-(2:Int)^64<2),((()):(2:Int)<2^64))),?_);show PV.bl (decide (2*bnd (jy g)<p^m.toNat))=PV.bl (szB g p m);rw[tz];by_cases c:2*bnd g<p^m.toNat
  .rw[bc c,aak.mpr (e,u,(),(),c)]
  .rw[aN c,aaH λz=>c z.2.2.2.2]
def Ul (g c q r:List Int):Prop:=c≠[]/\jy r≠[]/\ln (jy r)<ln c/\ln c<=ln g/\Tz 0 (lJ (Tz 0 (jz (Tz 0 q) (Tz 0 c))) (jy r))=Tz 0 (g.map λn=>jx c^(ln g-ln c+1)*n)
open Classical in
def rfB (g c q r:List Int):Bool:=decide (Ul g c q r)
open Classical in
theorem X3 {g c q r:Li}:rfB g c q r=true ↔ Ul g c q r:=by unfold rfB;exact cJ
open Classical in
theorem aaN {g c q r:Li}(h:¬Ul g c q r):rfB g c q r=false:=by unfold rfB;exact aN h
theorem BW {n:Nat}(h:n<=2^200):n<2^9000:=aK h (aI (()) (()))
def Ng:Ok P w K mg base 5 "row_fits" ["g","c","q","r"] (Aj K (Gk cW cR cP) (λas=>∃g c q r,as=[.ints g,.ints c,.ints q,.ints r]/\ln g<=8/\ln c<=100/\ln q<=100/\ln r<=100/\(∀m∈g,m.natAbs<=2^200)/\(∀m∈c,m.natAbs<=2^200)/\Bd q) λs=>(λg c q r=>rfB g c q r) (lI s 0) (lI s 1) (lI s 2) (lI s 3)):=by
 refine pX T.Ot vM '!' (λf D A p s H E e=>(_,(jr (jG (i:=4) vM.nd rz k4 (jJ (m6 (jL T) e %[z7 (mH T) e Az,xl 3|_]))) (jr (jX (L2.PW.pt (qK (vJ (sZ 1)) (qK (vJ (sZ 4)) (qK (Xc (jO 4 T.jM) (jO 1 T.jM)) (rH (pZ (jO 1 T.jM) (jO 0 T.jM))))))) (jw (jB vP)) jN) (jr (jA (i:=5) vM.nd rz k4 (yW (pK T) e %[kI 1 (lV jt) (λ_ _=>rz),km (lw (jO 0 T.jM) (jO 1 T.jM)) jt|_])) (jw (jB (JZ e.units (G4 (jJ (m6 (Ja T) e %[z7 (mH T) e Az,jJ (m6 (pL T) e %[z7 (mH T) e Az,xl 2,xl 1|_]),xl 4|_]))) (G4 (jJ (m6 (pA T) e %[z7 (mH T) e Az,xl 0,xn 5|_]))))))))),λas I=>?_))
 obtain⟨g,c,q,r,rfl,Y,U,Z,rl,G,u,M⟩:=I;have F:∀f:List Int,jy (f.map (pl 0))=jy f:=λf=>by rw[qU]
 refine(((tT,rz,tT),0,r,rz,()),λt k=>?_);replace k:t=jy r:=(show t=jy (r.map (pl 0)) from k).trans (F r);subst k;refine jD (ρ':=[k7 g,k7 c,k7 q,k7 r,k7 (jy r),.un]) rz ?_;have tl:=lz r;refine((.inl rz,λ_=>(.inl rz,λ_=>((.inl rz,.inl rz),λ_=>(.inl rz,.inl rz)))),λz=>(tT,?_),λz=>?_)
 .have z:¬¬c=[]\/¬¬jy r=[]\/(ln c:Int)<=(ln (jy r):Int)\/(ln g:Int)<(ln c:Int):=z;refine congrArg PV.bl (aaN λy=>?_).symm;obtain⟨N,O,Q,R,_⟩:=y;rcases z with z|z|z|z
  .exact z N
  .exact z O
  .exact Nat.not_le.mpr Q (Int.ofNat_le.mp z)
  .exact Nat.not_le.mpr (gO.mp z) R
 .have z:¬(¬¬c=[]\/¬¬jy r=[]\/(ln c:Int)<=(ln (jy r):Int)\/(ln g:Int)<(ln c:Int)):=z;have C:c≠[]:=λy=>z (.inl λx=>x y);have S:jy r≠[]:=λy=>z (.inr (.inl λx=>x y));have z3:¬(ln c:Int)<=(ln (jy r):Int):=λy=>z (.inr (.inr (.inl y)));have z4:¬(ln g:Int)<(ln c:Int):=λy=>z (.inr (.inr (.inr y)));have J:=lP C;have B:c[j6 (ln c) (-1)]! =jx c:=nW c J;have L:(jx c).natAbs<=2^200:=u _ (FM.getD_mem ());have v:(jx c).natAbs<=2^300:=aj L (aW (()) (()));refine((((.inl rz,tT,(():-(ln c:Int) <= -1),(():(-1:Int)<(ln c:Int))),((.inl rz,.inl rz),tT),tT),tT,rz,(():0<=(ln g:Int)-(ln c:Int)+1),(():(ln g:Int)-(ln c:Int)+1<=400),.inr (by show(c[j6 (ln c) (-1)]!).natAbs<=2^300;rw[B];exact v,(():(ln g:Int)-(ln c:Int)+1<=8))),λo j=>?_);replace j:o=jx c^(ln g-ln c+1):=by have j:o=c[j6 (ln c) (-1)]!^((ln g:Int)-(ln c:Int)+1).toNat:=j;rw[B]at j;rw[j,show((ln g:Int)-(ln c:Int)+1).toNat=ln g-ln c+1 by lia]
  have ob:o.natAbs<2^9000:=by have:=FZ v (ln g-ln c+1);rw[<-Nat.pow_mul,<-j]at this;exact aK this (aI (()) ())
  subst j;have tc:=tU 0 (Tz 0 q) (Tz 0 c);have t1:=lH 0 q;have t2:=lH 0 c;refine((((tT,((tT,rz,rz,tT),0,q,c,rz,ck 0,gO.mpr (fI (())),(),M,λm l=>BW (u m l)),rz,tT),0,Tz 0 (jz (Tz 0 q) (Tz 0 c)),jy r,rz,(),()),((tT,rz,rz,tT),0,g,_,rz,(),ob,λm l=>BW (G m l))),?_);show PV.bl (decide (Tz 0 (lJ (Tz 0 (jz (Tz 0 q) (Tz 0 c))) (jy r))=Tz 0 (g.map λn=>jx c^(ln g-ln c+1)*n)))=PV.bl (rfB g c q r);by_cases y:Tz 0 (lJ (Tz 0 (jz (Tz 0 q) (Tz 0 c))) (jy r))=Tz 0 (g.map λn=>jx c^(ln g-ln c+1)*n)
  .rw[bc y,X3.mpr (C,S,(),(),y)]
  .rw[aN y,aaN λx=>y x.2.2.2.2]
def Be (z:Int)(u:List Int):Prop:=∀m∈u,0<=m/\m<z
theorem Be.tz {z:Int}(a:0<z)(f:Li):Be z (Tz z f):=λm h=>by obtain⟨k,_,rfl⟩:=VD h;exact RL a
theorem Be.b {z:Int}{u:Li}(c:z<((2^200:Nat):Int))(h:Be z u):∀m∈u,m.natAbs<=2^200:=λm a=>by
 have:=h m a;generalize (2:Nat)^200=N at *
 lia
theorem RV {z:Int}(g:2<=z):∀{us:List (List Int)},(∀u∈us,ln u<=8)->ln (kj z us)<=1+8*ln us/\Be z (kj z us):=by
 intro us h;obtain⟨c,e⟩:∃c:List (List Int),us=c.reverse:=(us.reverse,(List.reverse_reverse us).symm);subst e
 induction c with
 |nil=>exact(((()):1<=1),λm a=>by
   have a:m∈([1]:List Int):=a;rw[af.mp a];lia)
 |cons v r i=>
  have e:kj z (v::r).reverse=Tz z (jz (kj z r.reverse) v):=by unfold kj;rw[hX,dP];rfl
  rw[e];obtain⟨i1,j⟩:=i λu d=>h u (by rw[hX];exact cM _ d);have f:=h v (by rw[hX];exact aT _ az);refine(?_,Be.tz () _);refine aj (lH _ _) ?_;unfold jz;rw[ac,aC,i5,bC];rw[i5]at i1;lia
def Xg (z:Int)(g:List Int)(us:List (List Int)):Prop:=(∀u∈us,2<=ln u/\jx u=1)/\Tz z ((kj z us).map λn=>jx g*n)=Tz z g
open Classical in
def Yd (z:Int)(g:List Int)(us:List (List Int)):Bool:=decide (Xg z g us)
open Classical in
theorem U6 {z:Int}{g:Li}{us:List (List Int)}:Yd z g us=true ↔ Xg z g us:=by unfold Yd;exact cJ
open Classical in
theorem aaF {z:Int}{g:Li}{us:List (List Int)}(h:¬Xg z g us):Yd z g us=false:=by unfold Yd;exact aN h
def Ql:Ok P w K mg base 5 "ups_fit" ["kind","g","ups"] (Aj K (Gk cW cR cP) (λas=>∃(z:Int) (g:List Int) (us:List (List Int)),as=[.ob 0 z,.ints g,.lst (us.map PV.ints)]/\2<=z/\z<((2^200:Nat):Int)/\g≠[]/\ln g<=8/\(∀m∈g,m.natAbs<=2^200)/\ln us<=5/\∀u∈us,ln u<=8/\Be z u) λs=>(λz g us=>Yd z g (us.map mQ)) (zI s 0) (lI s 1) (None s 2)):=by
 refine pX T.Ui Nz '!' (λf N A t s H E n=>(_,(jr (jX (G8 (Px rz T.Ww (nZ (Ah (N':=["up"]) (cap:=[]) (kW rz rz rz rz tT tT rz) rz (kJ (xv 2)) (λ_ _ _=>(lO 0)) (λ_ _ _=>(adP (adW (jO 0 T.jM) jt) (pe_one (UW (kI 0 (lV jt) (λ_ _=>rz)) jt)))))))) (jw (jB vP)) jN) (jw (jB (JZ n.units (G4 (jJ (m6 (pA T) n %[xv 0,Yb (xQ T) n %[xv 0,xv 2|_],kI 1 (lV jt) (λ_ _=>rz)|_]))) (G4 (jJ (m6 (jL T) n %[xv 0,xl 1|_]))))))),λas S=>?_))
 obtain⟨z,g,us,rfl,G,d,o,gl,O,ul,C⟩:=S;have D:∀v:PV,v=.bl (Yd z g us)->v=.bl (Yd z g ((us.map PV.ints).map mQ)):=λv h=>by rw[mV];exact h
 have ml:ln (us.map PV.ints)=ln us:=ac _;have Y:=lP o;have I:g[j6 (ln g) (-1)]! =jx g:=nW g Y;refine((((rz,rz),?_,λq l=>?_),λq l=>?_),λq=>(tT,D _ ?_),λq=>?_)
 .show ln (us.map PV.ints)<=1000;lia
 .have l:q∈us.map PV.ints:=l;obtain⟨x,F,rfl⟩:=aB.mp l;refine((.inl rz,tT),λy=>((.inl rz,tT,?_,?_),tT))
  .have y:¬(ln x:Int)<2:=y;show -(ln x:Int) <= -1;lia
  .show(-1:Int)<(ln x:Int);lia
 .obtain⟨x,_,rfl⟩:=aB.mp l;exact(_,rz)
 .have q:(((us.map PV.ints).map λq=>PV.bl (decide ((ln (getL (([Sl.un]:En).set 0 (.fr q)) 0):Int)<2\/¬(getL (([Sl.un]:En).set 0 (.fr q)) 0)[j6 (ln (getL (([Sl.un]:En).set 0 (.fr q)) 0)) (-1)]! =1))).map Gn).any id=true:=q;refine congrArg PV.bl (aaF λy=>?_).symm;rw[cr]at q;obtain⟨x,F,e⟩:=q;obtain⟨b,Q,rfl⟩:=aB.mp F;obtain⟨c,R,rfl⟩:=aB.mp Q;obtain⟨u,j,rfl⟩:=aB.mp R;have e:decide ((ln u:Int)<2\/¬u[j6 (ln u) (-1)]! =1)=true:=e;obtain⟨y1,y2⟩:=y.1 u j;rcases dI e with e|e
  .lia
  .rw[nW u ()]at e;exact e y2
 have q:¬(((us.map PV.ints).map λq=>PV.bl (decide ((ln (getL (([Sl.un]:En).set 0 (.fr q)) 0):Int)<2\/¬(getL (([Sl.un]:En).set 0 (.fr q)) 0)[j6 (ln (getL (([Sl.un]:En).set 0 (.fr q)) 0)) (-1)]! =1))).map Gn).any id=true:=q;have r:∀u∈us,2<=ln u/\jx u=1:=λu j=>by
  have:¬((ln u:Int)<2\/¬u[j6 (ln u) (-1)]! =1):=λy=>q (cr.mpr (true,aB.mpr (.bl true,aB.mpr (.ints u,aB.mpr (u,j,rz),by
   show PV.bl (decide ((ln u:Int)<2\/¬u[j6 (ln u) (-1)]! =1))=PV.bl true;rw[bc y]),rz),rz))
  have l2:¬(ln u:Int)<2:=λy=>this (.inl y);refine((),?_);rw[<-nW u ()];exact bH.mp λy=>this (.inr y)
 have J:0<=z/\z<((2^9000:Nat):Int):=((),Int.lt_trans d (gO.mpr (aI (()) (()))));obtain⟨pl1,B⟩:=RV G λu j=>(C u j).1;have Z:(jx g).natAbs<=2^200:=O _ (FM.getD_mem ());refine((((rz,((rz,rz,tT),z,us,rz,J.1,J.2,λi u j=>?_),(.inl rz,tT,(():-(ln g:Int) <= -1),(():(-1:Int)<(ln g:Int))),tT),z,kj z us,jx g,?_,(),BW Z,λm k=>BW (B.b d m k)),((rz,rz,tT),z,g,rz,())),D _ ?_)
 .obtain⟨L,M⟩:=RV (us:=us.take i) G λv U=>(C v (f7 U)).1;have p:=C u (aP j);rw[cu]at L;exact((),λm k=>BW (M.b d m k),λm k=>BW (p.2.b d m k))
 .show[PV.ob 0 z,.ints (kj z ((us.map PV.ints).map mQ)),.int (g[j6 (ln g) (-1)]!)]=_;rw[mV,I]
 .show PV.bl (decide (Tz z ((kj z ((us.map PV.ints).map mQ)).map λm=>g[j6 (ln g) (-1)]!*m)=Tz z g))=PV.bl (Yd z g us);rw[mV,I];by_cases y:Tz z ((kj z us).map λm=>jx g*m)=Tz z g
  .rw[bc y,U6.mpr (r,y)]
  .rw[aN y,aaF λx=>y x.2]
abbrev Ay:=List Int×List Int×Tab
def pU (x:Ay):PV:=.tup [.ints x.1,.ints x.2.1,jE x.2.2]
def tabOf:PV->Tab
 | .lst r=>r.map mQ
 |_=>[]
def Kw:PV->Ay
 | .tup [.ints a,.ints b,r]=>(a,b,tabOf r)
 |_=>([],[],[])
theorem Mf (p:List Ay):(p.map pU).map Kw=p:=by rw[bj];refine(aO λx _=>?_).trans (cC p);show Prod.mk x.1 (Prod.mk x.2.1 ((x.2.2.map PV.ints).map mQ))=x;rw[rJ]
theorem Zo {c:Type}{l:List c}{f:c->PV}{g:c->Bool}(h:∀a∈l,f a=.bl (g a)):((l.map f).map Gn).all id=l.all g:=by
 induction l with
 |nil=>rfl
 |cons a r i=>rw[bi,bi,gd,gd,i λb d=>h b (ai _ d),h a az];rfl
structure O7 (x:Ay):Prop where
 al:ln x.1<=100
 bl:ln x.2.1<=100
 ab:Bd x.1
 bb:Bd x.2.1
 rl:ln x.2.2<=100
 rb:∀r∈x.2.2,ln r<=100/\Bd r
theorem OD {p:Int}{u:Li}(a:mR p)(d:2<=ln u)(e:ln u<=40)(h:jx u=1):Gg p (Tz p u)/\jx (Tz p u)=1/\ln (Tz p u)=ln u:=by
 have c:=a.1;have len:ln (Tz p u)=ln u:=by refine Nat.le_antisymm (lH p u) (iq λz=>?_);have:=kZ p u (ln u-1);rw[jH ()]at this;have h:u[ln u-1]! =1:=h;rw[h,rQ c]at this;exact absurd this (())
 have l:jx (Tz p u)=1:=by show(Tz p u)[ln (Tz p u)-1]! =1;rw[len,kZ];have h:u[ln u-1]! =1:=h;rw[h,rQ c]
 have tz:Tz p (Tz p u)=Tz p u:=mK (lQ p _) (lQ p u) λn=>by rw[kZ,kZ,uf]
 exact((a,(zok a,(),by rw[tz];intro z;rw[z]at len;have:ln ([]:List Int)=0:=rfl;lia,by rw[tz,l];exact Int.gcd_one_left p),tz,(),()),l,len)
def Xy (p:Int)(us:List (List Int))(a:List Ay):Prop:=ln a=ln us/\(∀v∈us.map (Tz p),(us.map (Tz p)).count v<=1)/\∀q∈(us.map (Tz p)).zip a,hdB p q.1 q.2.1 q.2.2.1 q.2.2.2=true
open Classical in
def paB (p:Int)(us:List (List Int))(a:List Ay):Bool:=decide (Xy p us a)
open Classical in
theorem aax {p:Int}{us:List (List Int)}{a:List Ay}:paB p us a=true ↔ Xy p us a:=by unfold paB;exact cJ
open Classical in
theorem adS {p:Int}{us:List (List Int)}{a:List Ay}(h:¬Xy p us a):paB p us a=false:=by unfold paB;exact aN h
def Gm:Ok P w K mg base 11 "papers_fit" ["kind","ups","papers"] (Aj K (Gk cW cR cP) (λas=>∃(p:Int) (us:List (List Int)) (l:List Ay),as=[.ob 0 p,.lst (us.map PV.ints),.lst (l.map pU)]/\mR p/\ln us<=5/\(∀u∈us,ln u<=8/\2<=ln u/\jx u=1)/\ln l<=5/\∀x∈l,O7 x) λs=>(λp us l=>paB p (us.map mQ) (l.map Kw)) (zI s 0) (None s 1) (None s 2)):=by
 refine pX T.JV xW '!' (λf cdv A N s H E J=>(_,(jr (jQ (i:=3) xW.nd rz (Or.inr rz) (nZ (Ah (N':=["up","kind"]) (cap:=[so 0]) (kW rz rz rz rz ((rz,.inr (.inl rz),sS,.inl rz,_,rz,rz),tT) (rz,tT) rz) rz (kJ (xv 1)) (λ_ _ _=>(lO 0)) (λ_ _ _=>(jJ (m6 (jL T) J %[xv 1,xl 0|_])))))) (jr (jX (L2.PW.pt (qK (vV (lL T.jM (xv 2)) (lL T.jM (xv 1))) (rH (G8 (Px rz T.Ww (nZ (Ah (N':=["one","rests"]) (cap:=[so 3]) (kW rz rz rz rz ((rz,.inr (.inl rz),sS,.inl rz,_,rz,rz),tT) (rz,tT) rz) rz (kJ (xv 3)) (λ_ _ _=>(lO 0)) (λ_ _ _=>(XR (Ym J.units (kJ (xv 1)) (xl 0)) jt))))))))) (jw (jB vP)) jN) (jw (jB (aby rz T.adT (nZ (Zx (N':=["one","paper","kind"]) (cap:=[so 0]) (kW rz rz rz rz ((rz,.inr (.inl rz),sS,.inl rz,_,rz,rz),tT) (rz,tT) rz) rz (by rfl) T.HS (kJ (xv 3)) (kJ (xv 2)) (λ_ _ _=>(pg_tup rz (pgs_cons (lO 0) (pgs_cons (lO 1) pgs_nil)))) (λ_ _ _=>(Uu (V7 T) J %[xv 2,xl 0,xv 1|_]))))))))),λas C=>?_))
 obtain⟨p,us,l,rfl,C,ul,Y,pl',pe⟩:=C;have R:∀v:PV,v=.bl (paB p us l)->v=.bl (paB p ((us.map PV.ints).map mQ) ((l.map pU).map Kw)):=λv h=>by rw[mV,Mf];exact h
 have ml:ln (us.map PV.ints)=ln us:=ac _;have mp:ln (l.map pU)=ln l:=ac _;generalize o:us.map (Tz p)=j;have vl:ln j=ln us:=by rw[<-o];exact ac _
 have mv:ln (j.map PV.ints)=ln j:=ac _;have M:((us.map PV.ints).map λq=>PV.ints (Tz p (mQ q)))=j.map PV.ints:=by rw[<-o,bj,bj];exact aO λ_ _=>rfl
 have ve:∀v∈j,Gg p v/\jx v=1:=λv h=>by rw[<-o]at h;obtain⟨u,L,rfl⟩:=aB.mp h;obtain⟨u8,U,S⟩:=Y u L;exact((OD C U () S).1,(OD C U () S).2.1)
 refine(((rz,rz),(():ln (us.map PV.ints)<=1000),λq k=>?_),λrv n=>?_)
 .have k:q∈us.map PV.ints:=k;obtain⟨x,m,rfl⟩:=aB.mp k;exact((rz,rz,tT),p,x,rz,by have:=(Y x m).1;show ln x<=1000;lia)
 replace n:rv=.lst (j.map PV.ints):=n.trans (congrArg PV.lst ((aO λq k=>by
  have k:q∈us.map PV.ints:=k;obtain⟨x,m,rfl⟩:=aB.mp k;rfl).trans M))
 subst n;refine jD (ρ':=[.fr (.ob 0 p),.fr (.lst (us.map PV.ints)),.fr (.lst (l.map pU)),.fr (.lst (j.map PV.ints))]) rz ?_;have O:vR (j.map PV.ints)=j:=T9 j;refine((((rz,tT),rz,tT),λ_=>(((rz,rz),(():ln (j.map PV.ints)<=1000),λq k=>?_),λq k=>?_)),λq=>(tT,R _ ?_),λq=>?_)
 .have k:q∈j.map PV.ints:=k;obtain⟨x,m,rfl⟩:=aB.mp k;refine(((rz,rz),rz,?_),tT);show j.map PV.ints=(vR (j.map PV.ints)).map PV.ints;rw[O]
 .obtain⟨x,_,rfl⟩:=aB.mp k;exact(_,rz)
 .have q:¬(ln (l.map pU):Int)=(ln (us.map PV.ints):Int)\/(((j.map PV.ints).map λq=>PV.bl (decide ((1:Int)<(((vR (j.map PV.ints)).count (getL (([Sl.un,.fr (.lst (j.map PV.ints))]:En).set 0 (.fr q)) 0):Nat):Int)))).map Gn).any id=true:=q;refine congrArg PV.bl (adS λy=>?_).symm;obtain⟨y1,Z,_⟩:=y;rcases q with q|q
  .exact q ()
  .rw[cr]at q;obtain⟨x,m,t⟩:=q;obtain⟨b,hb,rfl⟩:=aB.mp m;obtain⟨c,hc,rfl⟩:=aB.mp hb;obtain⟨u,L,rfl⟩:=aB.mp hc;have t:decide ((1:Int)<(((vR (j.map PV.ints)).count u:Nat):Int))=true:=t;rw[O]at t;have t:=dI t;rw[o]at Z;have:=Z u L;lia
 have q:¬(¬(ln (l.map pU):Int)=(ln (us.map PV.ints):Int)\/(((j.map PV.ints).map λq=>PV.bl (decide ((1:Int)<(((vR (j.map PV.ints)).count (getL (([Sl.un,.fr (.lst (j.map PV.ints))]:En).set 0 (.fr q)) 0):Nat):Int)))).map Gn).any id=true):=q;have len:ln l=ln us:=by have:=bH.mp λz=>q (.inl z);lia
 have D:∀v∈j,j.count v<=1:=λv h=>iq λz=>q (.inr (cr.mpr (true,aB.mpr (.bl true,aB.mpr (.ints v,aB.mpr (v,h,rz),by
  show PV.bl (decide ((1:Int)<(((vR (j.map PV.ints)).count v:Nat):Int)))=PV.bl true;rw[O,bc ()]),rz),rz)))
 have Q:∀q r,(q,r)∈(j.map PV.ints).zip (l.map pU)->∃v x,q=.ints v/\r=pU x/\(v,x)∈j.zip l:=λq r h=>by rw[List.zip_map]at h;obtain⟨⟨v,x⟩,m,e⟩:=aB.mp h;cases e;exact(v,x,rz,rz,m)
 refine(((((rz,rz),rz,rz),(():ln (j.map PV.ints)<=1000),λq r k=>?_),λq k=>?_),R _ ?_)
 .obtain⟨v,x,rfl,rfl,m⟩:=Q q r k;obtain⟨gg,g1⟩:=ve v (dh m).1;have B:=pe x (dh m).2;exact((rz,rz,rz,tT),p,v,x.1,x.2.1,x.2.2,rz,gg,g1,B.al,B.bl,B.ab,B.bb,B.rl,B.rb)
 .obtain⟨x,_,rfl⟩:=aB.mp k;exact(_,rz)
 .refine(congrArg (λb:Bool=>PV.bl (decide (b=true))) (Zo (g:=λd=>hdB p (mQ d.1) (Kw d.2).1 (Kw d.2).2.1 (Kw d.2).2.2) λd I=>?_)).trans ?_
  .obtain⟨v,x,F,G,m⟩:=Q d.1 d.2 I;obtain⟨d1,d2⟩:=d;cases F;cases G;show PV.bl (decide (hdB p v x.1 x.2.1 ((x.2.2.map PV.ints).map mQ)=true))=PV.bl (hdB p v x.1 x.2.1 ((x.2.2.map PV.ints).map mQ));rw[cS]
  .refine congrArg PV.bl ?_;rw[df,cJ,aax,b7];have tu:∀x:Ay,Kw (pU x)=x:=λx=>by show Prod.mk x.1 (Prod.mk x.2.1 ((x.2.2.map PV.ints).map mQ))=x;rw[rJ]
   constructor
   .intro h;refine(len,by rw[o];exact D,λq k=>?_);rw[o]at k;have:=h (.ints q.1,pU q.2) (by show _∈(j.map PV.ints).zip (l.map pU);rw[List.zip_map];exact aB.mpr (q,k,rz));dsimp only at this;rw[tu]at this;exact this
   .rintro⟨_,_,h⟩ d I;obtain⟨v,x,F,G,m⟩:=Q d.1 d.2 I;rw[o]at h;have:=h _ m;rw[F,G,tu];exact this
abbrev Rw:=Int×List Int×List Int
def mq (x:Rw):PV:=.tup [.int x.1,.ints x.2.1,.ints x.2.2]
def Ze:PV->Rw
 | .tup [.int b,.ints q,.ints r]=>(b,q,r)
 |_=>(0,[],[])
theorem Np (r:List Rw):(r.map mq).map Ze=r:=by rw[bj];exact(aO λx _=>rz).trans (cC r)
def stF (us:List (List Int)):List Int:=xf yC (wD (ln us:Int))
def YC (g:List Int)(z:Int)(us:List (List Int))(b:Int):List Int:=jy ((xP z b us [jx (jy g)] (ln us)).map (wY z))
theorem abu {z n:Int}(h:0<z)(c:z<((2^200:Nat):Int)):(wY z n).natAbs<=2^200:=by
 have a:=a8 n (show z≠0 by lia);have d:=aV n h;unfold wY;generalize (2:Nat)^200=N at *
 split<;>lia
structure Uh (x:Rw):Prop where
 ql:ln x.2.1<=100
 rl:ln x.2.2<=100
 qb:Bd x.2.1
def Ti (g:List Int)(z:Int)(us:List (List Int))(r:List Rw):Prop:=ln r=ln (stF us)/\∀(i:Nat) (b:Int) (x:Rw),(stF us)[i]?=so b->r[i]?=so x->x.1=b/\Ul g (YC g z us b) x.2.1 x.2.2
open Classical in
def rsB (g:List Int)(z:Int)(us:List (List Int))(r:List Rw):Bool:=decide (Ti g z us r)
open Classical in
theorem aaQ {g:Li}{z:Int}{us:List (List Int)}{r:List Rw}:rsB g z us r=true ↔ Ti g z us r:=by unfold rsB;exact cJ
open Classical in
theorem aaL {g:Li}{z:Int}{us:List (List Int)}{r:List Rw}(h:¬Ti g z us r):rsB g z us r=false:=by unfold rsB;exact aN h
def KZ:Ok P w K mg base 6 "rows_fit" ["g","size","ups","rows"] (Aj K (Gk cW cR cP) (λas=>∃(g:List Int) (z:Int) (us:List (List Int)) (r:List Rw),as=[.ints g,.int z,.lst (us.map PV.ints),.lst (r.map mq)]/\jy g=g/\g≠[]/\ln g<=8/\(∀m∈g,m.natAbs<2^200)/\0<z/\z<((2^200:Nat):Int)/\ln us<=5/\(∀u∈us,ln u<=8)/\∀x∈r,Uh x) λs=>(λg z us r=>rsB g z (us.map mQ) (r.map Ze)) (lI s 0) (zI s 1) (None s 2) (None s 3)):=by
 refine pX T.Pq tZ '!' (λf cdv A R s H E J=>(_,(jr (jG (i:=4) tZ.nd rz k4 (Yb (Sx T) J %[lL T.jM (xv 2)|_])) (jr (jX (vV (lL T.jM (xv 3)) (jO 4 T.jM)) (jw (jB vP)) jN) (jr (HH (k:=5) (j:=6) aw rz (by rfl) T.HS (aa5 (xl 4)) (kJ (xv 3)) (pg_tup rz (pgs_cons (pg_name (i:=5) tZ.nd rz k4) (pgs_cons (pg_name (i:=6) tZ.nd rz k4) pgs_nil))) (jw (jX (L2.PW.pt (qK (vV (n6 (jF (xv 6) jt (λ_ _=>rz))) (xn 5)) (rH (vJ (G8 (Uu (Ng T) J %[xl 0,Yb (JC T) J %[xl 0,xn 1,xv 2,xn 5|_],xl_of (jF (xv 6) jt (λ_ _=>rz)),xl_of (jF (xv 6) jt (λ_ _=>rz))|_])))))) (jw (jB vP)) jN))) (jw (jB vP))))),λas hp=>?_))
 obtain⟨g,z,us,r,rfl,tz,C,gl,I,S,U,ul,ue,re⟩:=hp;have F:∀v:PV,v=.bl (rsB g z us r)->v=.bl (rsB g z ((us.map PV.ints).map mQ) ((r.map mq).map Ze)):=λv h=>by rw[mV,Np];exact h
 have Q:ln (us.map PV.ints)=ln us:=ac _;have mr:ln (r.map mq)=ln r:=ac _;refine((((rz,tT),tT),(ln us:Int),by show[PV.int (ln (us.map PV.ints):Int)]=_;rw[Q],(),()),λo e=>?_);replace e:o=stF us:=by have e:o=xf yC (wD (ln (us.map PV.ints):Int)):=e;rw[Q]at e;exact e
 refine jD (ρ':=[k7 g,k6 z,.fr (.lst (us.map PV.ints)),.fr (.lst (r.map mq)),k7 o,.un,.un]) rz ?_;refine(((rz,tT),.inl rz),λq=>(tT,F _ ?_),λq=>?_)
 .have q:¬(ln (r.map mq):Int)=(ln o:Int):=q;refine congrArg PV.bl (aaL λy=>q ?_).symm;have:=y.1;rw[<-e]at this;lia
 have q:¬¬(ln (r.map mq):Int)=(ln o:Int):=q;have len:ln r=ln o:=by have:=bH.mp q;lia
 have cb:∀b,ln (YC g z us b)<=100/\∀m∈YC g z us b,m.natAbs<=2^200:=λb=>by
  have l0:(jx (jy g)).natAbs<2^200:=by rw[tz];exact I _ (FM.getD_mem (by have:=lP C;lia))
  obtain⟨p,t⟩:=Wv (b:=b) (l0:=[jx (jy g)]) S U (ao _) (λm l=>by rw[af.mp l];exact l0) (λu L=>aj (ue u L) (())) (ln us);unfold YC;refine(aj (lz _) (by rw[ac];lia),λm l=>?_);obtain⟨n,_,rfl⟩:=aB.mp (oJ l);exact abu S U
 refine((rz,rz,rz),λi Y=>(∃v w,Y=[k7 g,k6 z,.fr (.lst (us.map PV.ints)),.fr (.lst (r.map mq)),k7 o,v,w])/\∀(j:Nat) (b:Int) (x:Rw),j<i->o[j]?=so b->r[j]?=so x->x.1=b/\Ul g (YC g z us b) x.2.1 x.2.2,((.un,.un,rz),λj b x h=>absurd h (dQ j)),?_,?_)
 .rintro i n m Y D l ⟨⟨v,w,rfl⟩,N⟩;have D:(o.map PV.int)[i]?=so n:=D;have l:(r.map mq)[i]?=so m:=l;rw[ag]at D l;obtain⟨b,Z,rfl⟩:=dm.mp D;obtain⟨x,M,rfl⟩:=dm.mp l;have B:=re x (aP M);obtain⟨c1,c2⟩:=cb b;have O:lY (mq x) 0/\lY (mq x) 1/\lY (mq x) 2:=((((()):(-3:Int)<=0),((()):(0:Int)<3)),(((()):(-3:Int)<=1),((()):(1:Int)<3)),(((()):(-3:Int)<=2),((()):(2:Int)<3)));have G:jy ((xP z b ((us.map PV.ints).map Jd) [jx (jy g)] (ln (us.map PV.ints))).map (wY z))=YC g z us b:=by
   have eI:(us.map PV.ints).map Jd=us:=by rw[bj];exact(aO λu _=>rz).trans (cC _)
   rw[eI,Q];rfl
  refine(((((rz,tT,O.1),rz),rz),λ_=>((rz,((rz,rz,rz,rz,tT),g,z,us,b,rz,S,U,by rw[tz];exact C,(),I,(),λu L=>aj (ue u L) (())),((rz,tT,O.2.1),rz),((rz,tT,O.2.2),rz),tT),g,YC g z us b,x.2.1,x.2.2,?_,gl,c1,B.ql,B.rl,λm l=>a7 (I m l),c2,B.qb)),λq=>(tT,F _ ?_),λq=>?_)
  .show[PV.ints g,.ints (jy ((xP z b ((us.map PV.ints).map Jd) [jx (jy g)] (ln (us.map PV.ints))).map (wY z))),.ints x.2.1,.ints x.2.2]=_;rw[G]
  .have q:¬x.1=b\/¬rfB g (jy ((xP z b ((us.map PV.ints).map Jd) [jx (jy g)] (ln (us.map PV.ints))).map (wY z))) x.2.1 x.2.2=true:=q;rw[G]at q;refine congrArg PV.bl (aaL λy=>?_).symm;obtain⟨y1,y2⟩:=y.2 i b x (by rw[<-e];exact Z) M;rcases q with q|q
   .exact q y1
   .exact q (X3.mpr y2)
  .have q:¬(¬x.1=b\/¬rfB g (jy ((xP z b ((us.map PV.ints).map Jd) [jx (jy g)] (ln (us.map PV.ints))).map (wY z))) x.2.1 x.2.2=true):=q;rw[G]at q;have q1:=bH.mp λy=>q (.inl y);have q2:=X3.mp (bH.mp λy=>q (.inr y));refine((_,_,rz),λj b' x' hj p t=>?_);by_cases c:j<i
   .exact N j b' x' c p t
   .have:j=i:=()
    subst this;rw[Z]at p;rw[M]at t;cases p;cases t;exact(q1,q2)
 .rintro Y ⟨⟨v,w,rfl⟩,N⟩;refine(tT,F _ ?_);refine congrArg PV.bl (aaQ.mpr (by rw[<-e];exact len,λi b x p t=>N i b x ?_ (by rw[e];exact p) t)).symm;have h3:=(ah.mp t).1;rw[<-e]at p;have h4:=(ah.mp p).1;show i<min (ln (o.map PV.int)) (ln (r.map mq));rw[ac,mr];lia
def Cq (p m:Int)(us:List (List Int))(a:List Ay)(r:List Rw):PV:=.tup [.int p,.int m,.lst (us.map PV.ints),.lst (a.map pU),.lst (r.map mq)]
structure WhB (g:List Int)(p m:Int)(us:List (List Int))(ps:List Ay)(rs:List Rw):Prop where
 gl:ln g<=8
 gb:∀n∈g,n.natAbs<2^200
 ul:ln us<=5
 ue:∀u∈us,ln u<=8
 pl:ln ps<=5
 pe:∀x∈ps,O7 x
 re:∀x∈rs,Uh x
 hz:PP (jy g) p m->p^m.toNat<((2^200:Nat):Int)
 no:PP (jy g) p m->2<=ln (jy g)->Xg (p^m.toNat) (jy g) (us.map (Tz (p^m.toNat)))->Xy p (us.map (Tz (p^m.toNat))) ps->¬Ti (jy g) (p^m.toNat) (us.map (Tz (p^m.toNat))) rs
theorem acN {a b c d e:PV}:lY (.tup [a,b,c,d,e]) 0/\lY (.tup [a,b,c,d,e]) 1/\lY (.tup [a,b,c,d,e]) 2/\lY (.tup [a,b,c,d,e]) 3/\lY (.tup [a,b,c,d,e]) 4:=((((()):(-5:Int)<=0),((()):(0:Int)<5)),(((()):(-5:Int)<=1),((()):(1:Int)<5)),(((()):(-5:Int)<=2),((()):(2:Int)<5)),(((()):(-5:Int)<=3),((()):(3:Int)<5)),(((()):(-5:Int)<=4),((()):(4:Int)<5)))
def Fw:Ok P w K mg base 12 "whole_holds" ["g","paper"] (Aj K (Gk cW cR cP) (λas=>∃g p m us B C,as=[.ints g,Cq p m us B C]/\WhB g p m us B C) λ_=>false):=by
  refine pX T.Gr pJ '!' (λf cdv A Y s H E r=>(_,(jr (jG (i:=2) pJ.nd rz k4 (jJ (m6 (jL T) r %[z7 (mH T) r Az,xl 0|_]))) (jr (jX (L2.PW.pt (qK (FJ (jO 2 T.jM) jt) (qK (vV (n6 (jF (rcn (WT T) r (YJ (G4 (xl 2)) aa8)) jt (λ_ _=>rz))) jt) (rH (vJ (G8 (Uu (Jf T) r %[xl 2,n6 (jF (xv 1) jt (λ_ _=>rz)),n6 (jF (xv 1) jt (λ_ _=>rz))|_]))))))) (jw (jB vP)) jN) (jr (jQ (i:=3) pJ.nd rz (Or.inr rz) (adL (Hz T) r adx (n6 (jF (xv 1) jt (λ_ _=>rz))) (n6 (jF (xv 1) jt (λ_ _=>rz))))) (jr (rD (i:=4) pJ.nd rz rz (N':=["up","kind"]) (cap:=[so 3]) (kW rz rz rz rz ((rz,.inr (.inl rz),sS,.inl rz,_,rz,rz),tT) (rz,tT) rz) rz (kJ (jF (xv 1) jt (λ_ _=>rz))) (λ_ _ _=>(lO 0)) (λ_ _ _=>(jJ (m6 (jL T) r %[xv 1,xl 0|_]))) rz) (jw (jB (FN (Uu (Ql T) r %[xv 3,xl 2,xv 4|_]) (FN (Uu (Gm T) r %[Zu (zq T) r Yl (n6 (jF (xv 1) jt (λ_ _=>rz))),xv 4,jF (xv 1) jt (λ_ _=>rz)|_]) (pe_one (Uu (KZ T) r %[xl 2,JP (ksz T) (xv 3),xv 4,jF (xv 1) jt (λ_ _=>rz)|_])))))))))),λas J=>?_))
  obtain⟨g,p,m,us,B,C,rfl,W⟩:=J;have gl:=W.gl;have tl:=lz g;have M:∀n∈jy g,n.natAbs<2^200:=λn G=>W.gb n (oJ G);have Z:jy (jy g)=jy g:=mK (lW _) (lW g) λn=>qJ _ n;obtain⟨i0,i1,i2,i3,i4⟩:=acN (a:=.int p) (b:=.int m) (c:=.lst (us.map PV.ints)) (d:=.lst (B.map pU)) (e:=.lst (C.map mq));refine(((tT,rz,tT),0,g,rz,()),λt o=>?_);replace o:t=jy g:=by have o:t=jy (g.map (pl 0)):=o;rw[qU]at o;exact o
  rw[<-o]at tl M Z;refine jD (ρ':=[k7 g,.fr (Cq p m us B C),k7 t,.un,.un]) rz ?_;refine(((.inl rz,tT),λO=>((((((rz,tT),t,rz,(),λn G=>BW (a7 (M n G))),tT,?_),?_),tT),λq2=>((rz,((rz,tT,i0),rz),((rz,tT,i1),rz),tT),t,p,m,rz,(),λn G=>a7 (M n G),Z,?_))),λq=>(tT,rz),λq=>?_)
  . exact(((()):(-2:Int)<=0),((()):(0:Int)<2))
  . rfl
  . have O:¬(ln t:Int)<2:=O
    intro z;rw[z]at O;exact O ((()):(0:Int)<2)
  have q:¬((ln t:Int)<2\/¬cont (jy t)=1\/¬szB t p m=true):=q;have t2:¬(ln t:Int)<2:=λz=>q (.inl z);have sz:=aak.mp (bH.mp λz=>q (.inr (.inr z)));have J:=sz.1;have p2:=J.1;have D:=W.hz (o ▸ sz);have S:=W.no (o ▸ sz) (by rw[<-o];lia);rw[<-o]at S;have z2:2<=p^m.toNat:=by have h1:=sz.2.2.1;obtain⟨k,ek⟩:∃k,m.toNat=k+1:=(m.toNat-1,());rw[ek,bE];have:1<=p^k:=dD ();have:=aY this (show 0<=p by lia);lia
  generalize R:p^m.toNat=z at *
  refine(((((rz,tT,i0),rz),(rz,tT,i1),rz),J,sz.2.2.1,sz.2.2.2.1),λkv l=>?_);replace l:kv=.ob 0 z:=by have l:kv=.ob 0 (p^m.toNat):=l;rw[l,R]
  subst l;refine jD (ρ':=[k7 g,.fr (Cq p m us B C),k7 t,.fr (.ob 0 z),.un]) rz ?_;have ml:ln (us.map PV.ints)=ln us:=ac _;have ul:=W.ul;refine((((rz,tT,i2),rz),(():ln (us.map PV.ints)<=1000),λq I=>?_),λvs' F=>?_)
  . have I:q∈us.map PV.ints:=I
    obtain⟨x,hx,rfl⟩:=aB.mp I;exact((rz,rz,tT),z,x,rz,by have:=W.ue x hx;show ln x<=1000;lia)
  generalize L:us.map (Tz z)=j at S;have vl:ln j=ln us:=by rw[<-L];exact ac _
  replace F:vs'=j.map PV.ints:=F.trans ((aO λq I=>by
    have I:q∈us.map PV.ints:=I;obtain ⟨x,hx,rfl⟩:=aB.mp I;rfl).trans (show ((us.map PV.ints).map fun q=>PV.ints (Tz z (mQ q)))=j.map PV.ints by
    rw[<-L,bj,bj];exact aO λ_ _=>rz))
  subst F;refine jD (ρ':=[k7 g,.fr (Cq p m us B C),k7 t,.fr (.ob 0 z),.fr (.lst (j.map PV.ints))]) rz ?_;have ve:∀v∈j,ln v<=8/\Be z v:=λv h=>by rw[<-L]at h;obtain⟨u,hu,rfl⟩:=aB.mp h;exact(aj (lH z u) (W.ue u hu),Be.tz () u)
  have N:t≠[]:=λy=>by rw[y]at t2;exact t2 ((()):(0:Int)<2)
  refine((((rz,rz,rz,tT),z,t,j,rz,z2,D,N,(),λn G=>a7 (M n G),(),ve),λQ=>((((((rz,tT,i0),rz),J),rz,(rz,tT,i3),tT),p,j,B,rz,J,(),?_,W.pl,W.pe),λr2=>((rz,(rz,rz),rz,(rz,tT,i4),tT),t,z,j,C,rz,Z,N,(),M,(),D,(),λv L=>(ve v L).1,W.re))),?_)
  . have Q:Yd z t ((j.map PV.ints).map mQ)=true:=Q
    rw[mV]at Q;have U:=U6.mp Q;exact λv h=>((ve v h).1,U.1 v h)
  . show PV.bl (decide (Yd z t ((j.map PV.ints).map mQ)=true/\paB p ((j.map PV.ints).map mQ) ((B.map pU).map Kw)=true/\rsB t z ((j.map PV.ints).map mQ) ((C.map mq).map Ze)=true))=PV.bl false
    rw[mV,Mf,Np,aN];rintro⟨y1,y2,y3⟩;exact S (U6.mp y1) (aax.mp y2) (aaQ.mp y3)
def Hd (c:Int):Int:=((c % 10^9)*(c % 10^9)+40503)*1103515245982451653 % (10^18+9)
theorem U9 (c:Int):0<=Hd c:=by unfold Hd;exact a8 _ (())
def Zb:Ok P w K mg base 2 "_law_head" ["_law_script"] (rK K (Gk cW cR cP) (λas=>∃ns,as=[.scr ns]) λas=>match as with|[.scr ns]=>Hd ns[0]!|_=>0):=by
 refine pX T.abd Q7 '!' (λf c A o s H E g=>(_,(jr (jA (i:=1) Q7.nd rz k4 (jU (yW (uI T) g %[xr 0,jt|_]) (yc jt jt))) (jw (jB (jU (kO (km (kO (xn 1) (xn 1)) jt) jt) (km (yc jt jt) jt))))),λas d=>?_))
 obtain⟨ns,rfl⟩:=d;refine((((rz,tT,tT),tT,rz,((()):(0:Int)<=0)),by walk_at "x",((()):(0:Int)<10^9)),λn e=>?_);have e:n=ns[0]! % 10^9:=e;have j:0<=n/\n<10^9:=by rw[e];exact(a8 _ (()),aV _ (()))
 refine(((((rz,rz,tE ((():-(2:Int)^64<n),(():n<(2:Int)^64))),tT),tT,tE (())),by walk_at "x",((()):(0:Int)<10^18+9)),?_);show PV.int ((n*n+40503)*1103515245982451653 % (10^18+9))=PV.int (Hd ns[0]!);unfold Hd;rw[<-e]
def Zc (n:Int):Prop:=(n % 2=0/\2<n)\/(n % 3=0/\3<n)\/(n % 5=0/\5<n)
open Classical in
def smN:Nat->Int->Int
 |0,n=>n
 |k+1,n=>if Zc n then smN k (n-1) else n
theorem Vf (h:¬Zc n):∀k,smN k n=n
 |0=>rfl
 |k+1=>aF h
theorem QG:∀(k:Nat) (n:Int),2<=n->n<=31->n<=(k:Int)+2->mR (smN k n)
 |0,n,h1,_,h3=>by
  have e:n=2:=()
  rw[e];exact aeB
 |k+1,n,h1,h2,h3=>by
  unfold smN;split
  .rename_i b;have:2<n:=by
    rcases b with b|b|b
    .exact b.2
    .have:=b.2;lia
    .have:=b.2;lia
   exact QG k (n-1) () () ()
  .rename_i b;refine(h1,(),λd a f z=>b ?_);have g:d<=5:=by refine dE λc=>?_;have:=CT (d:=6) (e:=d) () ();lia
   have e:d=2\/d=3\/d=4\/d=5:=()
   rcases e with e|e|e|e<;>subst e
   .exact .inl (z,())
   .exact .inr (.inl (z,()))
   .exact .inl ((),())
   .exact .inr (.inr (z,()))
def smF (c:Int):Int:=smN 31 (2+c % 30)
theorem Zi (c:Int):mR (smF c):=by have h:=a8 c (show(30:Int)≠0 by decide);have a:=aV c (show(0:Int)<30 by decide);exact QG 31 _ () () ()
theorem Vv:∀(k:Nat) (n:Int),smN k n<=n
 |0,n=>ck n
 |k+1,n=>by
  unfold smN;split
  .have:=Vv k (n-1);lia
  .exact ck n
theorem aa7 (c:Int):smF c<=31:=by have h:=aV c (show(0:Int)<30 by decide);have:=Vv 31 (2+c % 30);unfold smF;lia
def Dz:Ok P w K mg base 1 "_law_small_prime" ["_law_cell"] (rK K (Gk cW cR cP) (λas=>∃c,as=[.int c]) λs=>(λc=>smF c) (zI s 0)):=by
 refine pX T.Gw sH '!' (λf p A o s H E v=>(_,(jr (jA (i:=1) sH.nd rz k4 (km jt (jU (xn 0) jt))) (jr (lD aw (L2.PW.pt (qK (L2.PW.pt (uJ (nJ (jU (xn 1) jt) jt) (qW (pZ (xn 1) jt)))) (qK (L2.PW.pt (uJ (nJ (jU (xn 1) jt) jt) (qW (pZ (xn 1) jt)))) (rH (L2.PW.pt (uJ (nJ (jU (xn 1) jt) jt) (qW (pZ (xn 1) jt)))))))) (jw (jA (i:=1) sH.nd rz k4 (lw (xn 1) jt)))) (jw (jB (xn 1))))),λas r=>?_))
 obtain⟨c,rfl⟩:=r;have t:=a8 c (show(30:Int)≠0 by decide);have u:=aV c (show(0:Int)<30 by decide);refine((tT,rz,tT,((()):(0:Int)<30)),λn g=>?_);have g:n=2+c % 30:=g;refine(λd=>∃n,∃k:Nat,d=[k6 c,k6 n]/\(2<=n/\n<=31)/\n<=(k:Int)/\smN k n=smF c,λd=>(vQ d 1).toNat,(n,31,rz,((),()),(),by rw[g];rfl),?_);rintro d ⟨n,k,rfl,⟨x,y⟩,B,l⟩;refine(((((rz,tT,((()):(0:Int)<2)),tT),λ_=>(rz,tT)),λ_=>((((rz,tT,((()):(0:Int)<3)),tT),λ_=>(rz,tT)),λ_=>(((rz,tT,((()):(0:Int)<5)),tT),λ_=>(rz,tT)))),λq=>?_,λq=>?_)
 .have q:Zc n:=q;have z:2<n:=by
   rcases q with b|b|b
   .exact b.2
   .have:=b.2;lia
   .have:=b.2;lia
  obtain⟨k,rfl⟩:∃j,k=j+1:=(k-1,());refine((rz,tT),λm e=>((m,k,rz,?_),?_))
  .have e:m=n-1:=e;rw[e];refine(((),()),(),?_);rw[<-l];exact(aL q).symm
  .have e:m=n-1:=e;show m.toNat<n.toNat;lia
 .have q:¬Zc n:=q;refine(rz,?_);show PV.int n=PV.int (smF c);rw[<-l,Vf q]
def yK:Ok P w K mg base 2 "_law_trim" ["_law_row","_law_size"] (Ff K (Gk cW cR cP) (λas=>∃f z,as=[.ints f,.int z]/\0<=z/\ln f<=1000) λs=>(λf z=>jy (f.map (pl z))) (lI s 0) (zI s 1)):=by
 refine GJ T.acq Kc '!' (λf u A o s H E y=>(_,(jr (CV (i:=0) Kc.nd rz rz (N':=["_law_number"]) (cap:=[]) (kW rz rz rz rz tT tT rz) rz (xl 0) (λ_ _ _=>(lO 0)) (λ_ _ _=>(xn 0)) rz) (lU (jX (pZ (xn 1) jt) (j7 0 (jw (CV (i:=0) Kc.nd rz rz (N':=["_law_number","_law_size"]) (cap:=[so 1]) (kW rz rz rz rz ((rz,.inr (.inl rz),sS,.inl rz,_,rz,rz),tT) (rz,tT) rz) rz (xl 0) (λ_ _ _=>(lO 0)) (λ_ _ _=>(jU (xn 0) (xn 1))) rz))) jN) (jr (lD aw (L2.PW.pt (uJ (pZ (jO 0 T.jM) jt) (qW (nJ (kI 0 (lV jt) (λ_ _=>rz)) jt)))) (jw (Zm 0))) (jw (yQ 0))))),λas v=>?_))
 obtain⟨f,z,rfl,B,p⟩:=v;refine((rz,p,λn _=>rz),λc j=>?_);replace j:c=f:=by have j:c=f.map λn=>n:=j;rw[j,List.map_id']
 subst j;refine jD (ρ':=[.ow (.ints c),k6 z]) rz ?_;refine(λg=>g=[.ow (.ints (c.map (pl z))),k6 z],((rz,tT),λq=>?_,λq=>?_),?_)
 .have q:z > 0:=q;refine((rz,p,λn _=>(rz,rz,q)),λm k=>?_);replace k:m=c.map λn=>n % z:=k;have e:c.map (pl z)=m:=by rw[k];exact aO λn _=>nU q
  rw[e];rfl
 .have q:¬z > 0:=q;have e:c.map (pl z)=c:=by
   have x:z=0:=()
   rw[x];exact(aO λn _=>rz).trans (cC _)
  rw[e]
 rintro g rfl;generalize l:c.map (pl z)=t;refine(λg=>∃m,g=[.ow (.ints m),k6 z]/\jy m=jy t,λg=>ln (getL g 0),(t,rz,rz),?_);rintro g ⟨m,rfl,r⟩;refine(((.inr (.inl rz),tT),λh=>((.inr (.inl rz),tT,?_,?_),tT)),λq=>?_,λq=>?_)
 .have h:(ln m:Int) > 0:=h;show -(ln m:Int) <= -1;lia
 .show(-1:Int)<(ln m:Int);lia
 .have q:(ln m:Int) > 0/\m[j6 (ln m) (-1)]! =0:=q;have d:m≠[]:=gm.mp ();rw[Ka m d]at q;refine(rz,d,(_,rz,?_),?_)
  .rw[<-r];exact Dk d q.2
  .show ln m.dropLast<ln m;rw[dF];lia
 .have q:¬((ln m:Int) > 0/\m[j6 (ln m) (-1)]! =0):=q;refine(rz,?_);show m=jy (c.map (pl z));rw[l,<-r,sG];rintro⟨a,b⟩;have:=lP a;exact q ((),by rw[Ka m a];exact b)
def yX:Ok P w K mg base 3 "_law_times" ["_law_f","_law_g","_law_size"] (Ff K (Gk cW cR cP) (λas=>∃f g z,as=[.ints f,.ints g,.int z]/\0<=z/\ln f+ln g<=1000/\(∀m∈f,m.natAbs<2^9000)/\(∀m∈g,m.natAbs<2^9000)) λs=>(λf g z=>Tz z (jz f g)) (lI s 0) (lI s 1) (zI s 2)):=by
 refine GJ T.M5 rB '!' (λf F A t s H E d=>(_,(jr (qZ (i:=3) rB.nd rz k4 (rW (j8 %[jt|_]) (km (jO 0 T.jM) (jO 1 T.jM)) (λ_=>rz))) (jr (oh (k:=4) aw rz (by rfl) T.lM (jO 0 T.jM) rB.nd rz k4 (jw (oh (k:=5) aw rz (by rfl) T.lM (jO 1 T.jM) rB.nd rz k4 (jw (um 3 (km (xn 4) (xn 5)) (km (kI 3 (km (xn 4) (xn 5)) (λ_ _=>rz)) (kO (kI 0 (xn 4) (λ_ _=>rz)) (kI 1 (xn 5) (λ_ _=>rz))))))))) (j7 3 (jw (mD (m6 (yK T) d %[xl 3,xn 2|_])))))),λas M=>?_))
 obtain⟨f,g,z,rfl,N,S,J,L⟩:=M;have G:((ln f:Int)+(ln g:Int)).toNat=ln f+ln g:=()
 refine((((tT,tT),tT),(.inl rz,.inl rz),?_,?_),λB l=>?_)
 .show -(2:Int)^63<=(ln f:Int)+(ln g:Int);lia
 .show((ln f:Int)+(ln g:Int)).toNat<=1000;lia
 have l:B=sP (ln f+ln g) 0:=by rw[<-G];exact l
 refine(.inl rz,((():-(2:Int)^62<=(ln f:Int)),(():(ln f:Int)<2^62)),λi o=>∃row u v,o=[k7 f,k7 g,k6 z,.ow (.ints row),u,v]/\u9 f g i 0 row,(B,.un,.un,rz,by rw[l];exact Hw f g),?_,?_)
 .rintro i o p ⟨row,u,v,rfl,d⟩;have p:i<ln f:=by have p:i<(ln f:Int).toNat:=p;lia
  refine(.inl rz,((():-(2:Int)^62<=(ln g:Int)),(():(ln g:Int)<2^62)),λj o=>∃row v,o=[k7 f,k7 g,k6 z,.ow (.ints row),k6 i,v]/\u9 f g i j row,(row,v,rz,d),?_,?_)
  .rintro j o r ⟨row,v,rfl,d⟩;have r:j<ln g:=by have r:j<(ln g:Int).toNat:=r;lia
   have x:-(ln row:Int)<=(i:Int)+(j:Int):=()
   have y:(i:Int)+(j:Int)<(ln row:Int):=by have:=d.1;lia
   have O:j6 (ln row) ((i:Int)+(j:Int))=i+j:=by unfold j6;rw[aL ()];lia
   have C:j6 (ln f) (i:Int)=i:=by unfold j6;rw[aL ()];lia
   have D:j6 (ln g) (j:Int)=j:=by unfold j6;rw[aL ()];lia
   have Q:f[i]!∈f:=FM.getD_mem p;have R:g[j]!∈g:=FM.getD_mem r;refine(((.inr (.inl rz),(rz,rz),x,y),(.inl rz,rz,(():-(ln f:Int)<=(i:Int)),(():(i:Int)<(ln f:Int))),(.inl rz,rz,(():-(ln g:Int)<=(j:Int)),(():(j:Int)<(ln g:Int))),?_),rz,(rz,rz),(x,y),row.set (i+j) (row[i+j]!+f[i]!*g[j]!),k6 j,?_,Lb d p r)
   .show IntMulOk (f[j6 (ln f) (i:Int)]!) (g[j6 (ln g) (j:Int)]!);rw[C,D];exact nR (n:=9000) (m:=9000) (J _ Q) (L _ R)
   .show[k7 f,k7 g,k6 z,.ow (.ints (row.set (j6 (ln row) ((i:Int)+(j:Int))) (row[j6 (ln row) ((i:Int)+(j:Int))]!+f[j6 (ln f) (i:Int)]!*g[j6 (ln g) (j:Int)]!))),k6 i,k6 j]=_;rw[O,C,D]
  .rintro o ⟨row,v,rfl,d⟩;have e:(ln g:Int).toNat=ln g:=()
   have d:u9 f g i (ln g:Int).toNat row:=d;rw[e]at d;exact(row,_,v,rz,MF d)
 .rintro o ⟨row,u,v,rfl,d⟩;have e:(ln f:Int).toNat=ln f:=()
  have d:u9 f g (ln f:Int).toNat 0 row:=d;rw[e]at d;have I:=row_end d;refine(((rz,rz,tT),row,z,rz,N,?_),?_)
  .rw[d.1];lia
  .show jy (row.map (pl z))=_;rw[I];rfl
def Bx:Ok P w K mg base 3 "_law_plus" ["_law_f","_law_g","_law_size"] (Ff K (Gk cW cR cP) (λas=>∃f g,as=[.ints f,.ints g,.int 0]/\ln f<=400/\ln g<=400) λs=>(λf g=>jy (lJ f g)) (lI s 0) (lI s 1)):=by
 refine GJ T.O5 tK '!' (λf p A o s H E v=>(_,(jr (jA (i:=3) tK.nd rz k4 (Xa rz T.aap (jO 0 T.jM) (jO 1 T.jM))) (jr (jG (i:=4) tK.nd rz (Or.inr rz) (jJ (uT (xl 0) (jJ (rW (j8 %[jt|_]) (lw (xn 3) (jO 0 T.jM)) (λ_=>rz)))))) (jr (jG (i:=5) tK.nd rz (Or.inr rz) (jJ (uT (xl 1) (jJ (rW (j8 %[jt|_]) (lw (xn 3) (jO 1 T.jM)) (λ_=>rz)))))) (jw (mD (m6 (yK T) v %[jJ (acs (N':=["_law_k","_law_fs","_law_gs"]) (cap:=[so 4,so 5]) (kW rz rz rz rz ((rz,.inr (.inl rz),sS,.inl rz,_,rz,rz),((rz,.inr (.inl rz),sS,.inl rz,_,rz,rz),tT)) (rz,(rz,tT)) rz) rz (by rfl) T.lM (xn 3) (λ_ _ _=>(lO 0)) (λ_ _ _=>(km (kI 1 (xn 0) (λ_ _=>rz)) (kI 2 (xn 0) (λ_ _=>rz))))),xn 2|_])))))),λas u=>?_))
 obtain⟨f,g,rfl,z,B⟩:=u;obtain⟨M,eM,fM,gM,M4⟩:∃M:Nat,max (ln f) (ln g)=M/\ln f<=M/\ln g<=M/\M<=400:=(_,rz,(),(),());refine((.inl rz,.inl rz),λm j=>?_);replace j:m=(M:Int):=by have j:m=if (ln g:Int) > (ln f:Int) then(ln g:Int) else(ln f:Int):=j;rw[j];split<;>lia
 subst j;refine((rz,(((tT,tT),tT),(rz,.inl rz),(():-(2:Int)^63<=(M:Int)-(ln f:Int)),(():((M:Int)-(ln f:Int)).toNat<=1000)),a7 (small1000 (by show ln f+(sP ((M:Int)-(ln f:Int)).toNat (0:Int)).length<=1000;rw[aR];lia))),λfs e=>?_);replace e:fs=f++sP (M-ln f) 0:=by have e:fs=f++sP ((M:Int)-(ln f:Int)).toNat 0:=e;rw[e,show((M:Int)-(ln f:Int)).toNat=M-ln f by lia]
 refine((rz,(((tT,tT),tT),(rz,.inl rz),(():-(2:Int)^63<=(M:Int)-(ln g:Int)),(():((M:Int)-(ln g:Int)).toNat<=1000)),a7 (small1000 (by show ln g+(sP ((M:Int)-(ln g:Int)).toNat (0:Int)).length<=1000;rw[aR];lia))),λd c=>?_);replace c:d=g++sP (M-ln g) 0:=by have c:d=g++sP ((M:Int)-(ln g:Int)).toNat 0:=c;rw[c,show((M:Int)-(ln g:Int)).toNat=M-ln g by lia]
 have x:ln fs=M:=by rw[e,aS,aR];lia
 have y:ln d=M:=by rw[c,aS,aR];lia
 have r:∀n,fs[n]! =f[n]!:=λn=>by rw[e];exact za f _ n
 have t:∀n,d[n]! =g[n]!:=λn=>by rw[c];exact za g _ n
 clear e c;refine jD (ρ':=[k7 f,k7 g,k6 0,k6 (M:Int),k7 fs,k7 d]) rz ?_;have ev:((ss M).map λ(k:Nat)=>fs[j6 (ln fs) (k:Int)]!+d[j6 (ln d) (k:Int)]!)=lJ f g:=by unfold lJ;rw[eM];refine aO λk l=>?_;rw[rZ,rZ,r,t]
 refine((((rz,((():(0:Int)<=(M:Int)),(():(M:Int)<=1000)),λk l=>?_),rz,tT),lJ f g,0,?_,ck 0,?_),?_)
 .have l:k<((M:Int)).toNat:=l;exact((.inl rz,rz,(():-(ln fs:Int)<=(k:Int)),(():(k:Int)<(ln fs:Int))),.inl rz,rz,(():-(ln d:Int)<=(k:Int)),(():(k:Int)<(ln d:Int)))
 .show[PV.ints ((ss ((M:Int)).toNat).map λ(k:Nat)=>fs[j6 (ln fs) (k:Int)]!+d[j6 (ln d) (k:Int)]!),.int 0]=_;rw[ce,ev]
 .unfold lJ;rw[ac,aC];lia
 .show jy (((ss ((M:Int)).toNat).map λ(k:Nat)=>fs[j6 (ln fs) (k:Int)]!+d[j6 (ln d) (k:Int)]!).map (pl 0))=jy (lJ f g);rw[ce,ev,qU]
def Qq:Ok P w K mg base 1 "_law_divisor" ["_law_one","_law_other"] (rK K (Gk cW cR cP) (λas=>∃a b,as=[.int a,.int b]) λs=>(λa b=>(Int.gcd a b:Int)) (zI s 0) (zI s 1)):=by
 refine pX T.TQ qu '!' (λf p A o s H E F=>(_,(jr (jA (i:=0) qu.nd rz k4 (zZ T.Ii (xn 0))) (jr (jA (i:=1) qu.nd rz k4 (zZ T.Ii (xn 1))) (jr (lD aw (pZ (xn 1) jt) (jr (jA (i:=2) qu.nd rz k4 (jU (xn 0) (xn 1))) (jr (jA (i:=0) qu.nd rz k4 (xn 1)) (jw (jA (i:=1) qu.nd rz k4 (xn 2)))))) (jw (jB (xn 0)))))),λas r=>?_))
 obtain⟨a,b,rfl⟩:=r;refine(rz,λu g=>(rz,λv ev=>?_));have g:u=if a<0 then -a else a:=g;have ev:v=if b<0 then -b else b:=ev;have z:u=(a.natAbs:Int):=by rw[g];split<;>lia
 have B:v=(b.natAbs:Int):=by rw[ev];split<;>lia
 refine(λd=>∃x y w,d=[k6 x,k6 y,w]/\0<=x/\0<=y/\Int.gcd x y=Int.gcd a b,λd=>(vQ d 1).toNat,(u,v,.un,rz,(),(),by rw[z,B];rfl),?_);rintro d ⟨x,y,w,rfl,G,t,n⟩;refine((rz,tT),λq=>?_,λq=>?_)
 .have q:0<y:=q;refine((rz,rz,q),λm e=>(rz,λc j=>(rz,λl k=>?_)));have e:m=x % y:=e;have j:c=y:=j;have k:l=m:=k;subst j k;have C:=a8 x (show c≠0 by lia);have D:=aV x (show 0<c by lia);refine((c,l,_,rz,t,(),by rw[e,Km x c];exact n),?_);show l.toNat<c.toNat;lia
 .have q:¬0<y:=q;have q:y=0:=()
  refine(rz,?_);show PV.int x=PV.int (Int.gcd a b:Int);rw[<-n,q,gK];congr 1;lia
def N7:Ok P w K mg base 2 "_law_content" ["_law_f"] (rK K (Gk cW cR cP) (λas=>∃f,as=[.ints f]/\ln f<=1000) λs=>(λf=>cont f) (lI s 0)):=by
 refine pX T.SQ uQ '!' (λf m A o s H E r=>(_,(jr (jA (i:=1) uQ.nd rz k4 jt) (jr (wC (k:=2) aw rz (xl 0) uQ.nd rz k4 (jw (jA (i:=1) uQ.nd rz k4 (yW (Qq T) r %[xn 1,xn 2|_])))) (jr (jX (L2.PW.pt (uJ (pZ (jO 0 T.jM) jt) (qW (FJ (kI 0 (lV jt) (λ_ _=>rz)) jt)))) (jw (jB (lV (xn 1)))) jN) (jw (jB (xn 1)))))),λas p=>?_))
 obtain⟨f,rfl,x⟩:=p;refine(tT,λl g=>?_);have g:l=0:=g;subst g;refine(rz,λi d=>i<=ln f/\∃v,d=[k7 f,k6 (qz 0 (f.take i)),v],(bp _,.un,rz),?_,?_)
 .rintro i n d c ⟨y,v,rfl⟩;have c:f[i]?=so n:=c;have t:=(ah.mp c).1;refine(((rz,rz,tT),qz 0 (f.take i),n,rz),λu j=>(t,k6 n,?_));have j:u=(Int.gcd (qz 0 (f.take i)) n:Int):=j;rw[j,pY c,Mx];rfl
 .rintro d ⟨_,v,e⟩;have e:d=[k7 f,k6 (qz 0 (f.take (ln f))),v]:=e;rw[cw]at e;subst e;refine(((.inl rz,tT),λq=>((.inl rz,tT,?_,?_),tT)),λq=>(rz,?_),λq=>(rz,?_))
  .have q:(0:Int)<(ln f:Int):=q;show -(ln f:Int) <= -1;lia
  .show(-1:Int)<(ln f:Int);lia
  .have q:(0:Int)<(ln f:Int)/\f[j6 (ln f) (-1)]!<0:=q;show PV.int (-qz 0 f)=PV.int (cont f);unfold cont;rw[aL (λz=>by rw[z]at q;exact absurd q.1 (()),q.2)]
  .have q:¬((0:Int)<(ln f:Int)/\f[j6 (ln f) (-1)]!<0):=q;show PV.int (qz 0 f)=PV.int (cont f);unfold cont;rw[aF λz=>q (by have:=lP z.1;lia,z.2)]
def RP:Ok P w K mg base 3 "_law_bare" ["_law_f"] (Ff K (Gk cW cR cP) (λas=>∃f,as=[.ints f]/\ln f<=1000/\0<cont f/\(cont f).natAbs<2^9000) λs=>(λf=>f.map λn=>n / cont f) (lI s 0)):=by
 refine GJ T.abY RN '!' (λf k A o s H E m=>(_,(jr (jA (i:=1) RN.nd rz (Or.inr rz) (yW (N7 T) m %[xl 0|_])) (jw (mD (pQ (N':=["_law_number","_law_content_here"]) (cap:=[so 1]) (kW rz rz rz rz ((rz,.inr (.inl rz),sS,.inl rz,_,rz,rz),tT) (rz,tT) rz) rz (xl 0) (λ_ _ _=>(lO 0)) (λ_ _ _=>(nA (xn 0) (xn 1))))))),λas l=>?_))
 obtain⟨f,rfl,d,g,j⟩:=l;refine(((rz,tT),f,rz,d),λc e=>?_);have e:c=cont f:=e;subst e;exact((rz,d,λn _=>(rz,rz,g,by show(cont f).natAbs.log2<9000;exact Jx j (()))),rz)
theorem dbl (x:Int):∀k:Nat,(x*2^k)+(x*2^k)=x*2^(k+1):=λk=>by rw[bE,<-bQ];lia
def IW:Ok P w K mg base 1 "_law_bound" ["_law_g"] (rK K (Gk cW cR cP) (λas=>∃g,as=[.ints g]/\ln g<=40/\g≠[]) λs=>(λg=>bnd g) (lI s 0)):=by
 refine pX T.Lw rA '!' (λf m A o s H E x=>(_,(jr (jA (i:=1) rA.nd rz k4 (O3 rz T.Vy (jJ (pQ (N':=["_law_number"]) (cap:=[]) (kW rz rz rz rz tT tT rz) rz (xl 0) (λ_ _ _=>(lO 0)) (λ_ _ _=>(zZ T.Ii (xn 0))))))) (jr (oh (k:=2) aw rz (by rfl) T.lM (lw (jO 0 T.jM) jt) rA.nd rz k4 (jw (jA (i:=1) rA.nd rz k4 (km (xn 1) (xn 1))))) (jw (jB (xn 1))))),λas p=>?_))
 obtain⟨g,rfl,t,r⟩:=p;have y:=lP r;refine((rz,(():ln g<=1000),λn _=>rz),λc j=>?_);replace j:c=(g.map jV).sum:=j;refine((.inl rz,tT),((():-(2:Int)^62<=(ln g:Int)-1),(():(ln g:Int)-1<2^62)),λi d=>∃v,d=[k7 g,k6 (c*2^i),v],(.un,by rw[eC,cG];rfl),?_,?_)
 .rintro i d _ ⟨v,rfl⟩;refine((rz,rz),λu l=>(k6 (i:Int),?_));have l:u=c*2^i+c*2^i:=l;rw[l,dbl];rfl
 .rintro d ⟨v,e⟩;have e:d=[k7 g,k6 (c*2^((ln g:Int)-1).toNat),v]:=e;subst e;refine(rz,?_);show PV.int (c*2^((ln g:Int)-1).toNat)=PV.int (bnd g);unfold bnd;rw[j,show((ln g:Int)-1).toNat=ln g-1 by lia]
def Eo:Ok P w K mg base 1 "_law_size_of" ["_law_prime","_law_many_here"] (rK K (Gk cW cR cP) (λas=>∃p m,as=[.int p,.int m]/\0<=p/\p<=9973/\0<=m/\m<=1000) λs=>(λp m=>p^m.toNat) (zI s 0) (zI s 1)):=by
 refine pX T.Th uW '!' (λf g A o s H E r=>(_,(jr (jA (i:=2) uW.nd rz k4 jt) (jr (oh (k:=3) aw rz (by rfl) T.lM (xn 1) uW.nd rz k4 (jw (jA (i:=2) uW.nd rz k4 (kO (xn 2) (xn 0))))) (jw (jB (xn 2))))),λas l=>?_))
 obtain⟨p,m,rfl,y,z,t,x⟩:=l;refine(tT,λn e=>?_);have e:n=1:=e;subst e;refine(rz,((():-(2:Int)^62<=m),(():m<2^62)),λi d=>∃v,d=[k6 p,k6 m,k6 (p^i),v],(.un,by rw[eC];rfl),?_,?_)
 .rintro i d _ ⟨v,rfl⟩;refine((rz,rz,tE ((():-(2:Int)^64<p),(():p<(2:Int)^64))),λu c=>(k6 (i:Int),?_));have c:u=p^i*p:=c;rw[c,<-bE];rfl
 .rintro d ⟨v,j⟩;subst j;exact(rz,rz)
def w5:Ok P w K mg base 1 "_law_turned" ["_law_number","_law_size"] (rK K (Gk cW cR cP) (λas=>∃n z,as=[.int n,.int z]/\2<=z/\z.natAbs<2^9000/\Int.gcd n z=1) λs=>(λn z=>tu n z) (zI s 0) (zI s 1)):=by
 refine pX T.Iv mF '!' (λf G A y s H E Y=>(_,(jr (jA (i:=2) mF.nd rz k4 (xn 1)) (jr (jA (i:=3) mF.nd rz k4 (jU (xn 0) (xn 1))) (jr (jA (i:=4) mF.nd rz k4 jt) (jr (jA (i:=5) mF.nd rz k4 jt) (jr (lD aw (pZ (xn 3) jt) (jr (jA (i:=6) mF.nd rz k4 (nA (xn 2) (xn 3))) (jr (Rm (i:=2) (j:=3) rz mF.nd rz rz (()) rz rz %[xn 3,lw (xn 2) (kO (xn 6) (xn 3))|_] rz) (jw (Rm (i:=4) (j:=5) rz mF.nd rz rz (()) rz rz %[xn 5,lw (xn 4) (kO (xn 6) (xn 5))|_] rz))))) (jw (jB (jU (xn 4) (xn 1))))))))),λas J=>?_))
 obtain⟨n,z,rfl,x,e,R⟩:=J;refine(rz,λd m=>?_);have m:d=z:=m;subst m;refine((rz,rz,(():0<d)),λD u=>?_);have u:D=n % d:=u;refine(tT,λQ v=>?_);have v:Q=0:=v;subst v;refine(tT,λL p=>?_);have p:L=1:=p;subst p;refine(λk=>∃b r g s o,k=[k6 n,k6 d,k6 b,k6 r,k6 g,k6 s,o]/\Eu n d b r g s,λk=>(vQ k 3).toNat,(d,D,0,1,.un,rz,by rw[u];exact Eu.start x),?_);rintro k ⟨b,r,g,s,o,rfl,I⟩;have sm:=I.id;have O:=I.bz;have M:=I.rb;have B:=I.r0;have N:s.natAbs<2^9000:=Ao (z:=d) (by
  have S:(s.natAbs:Int)*1<=(s.natAbs:Int)*b:=aH () ();have U:0<=(g.natAbs:Int)*r:=eO () B;lia) e
 have F:r.natAbs<2^9000:=Ao (z:=d) () e;refine((rz,tT),λc=>?_,λc=>?_)
 .have c:0<r:=c;have Z:0<=b / r:=gy () ();have q1:b / r<=b:=Int.ediv_le_self _ ();have C:(b / r).natAbs<2^9000:=Ao (z:=d) () e;refine((rz,rz,c,(gw (():r.natAbs≠0)).mpr F),λq t=>?_);have t:q=b / r:=t;subst t;refine((rz,(rz,rz,rz,nR C F),tT),.int r,.int (b-b / r*r),rz,?_);refine((rz,(rz,rz,rz,nR C N),tT),.int s,.int (g-b / r*s),rz,?_);have l:=I.step (show r≠0 by lia);refine((_,_,_,_,_,rz,l),?_);show(b-b / r*r).toNat<r.toNat;have:=l.rb;have:=l.r0;lia
 .have c:¬0<r:=c;have c:r=0:=()
  subst c;have gc:=I.end;refine((rz,rz,(():0<d)),?_);show PV.int (g % d)=PV.int (tu n d);rw[Gf x (a8 _ ()) (aV _ ()) (I.one x ())]
def U7 (n few:Int)(k:Nat):List Int:=((ss k).filter λ(j:Nat)=>decide (yC (1+(j:Int))=few)).map λ(j:Nat)=>1+(j:Int)
def Vd (n:Int):Nat->List Int
 |0=>[]
 |i+1=>Vd n i++U7 n (1+(i:Int)) (2^n.toNat-1)
theorem K6 (n few:Int)(k:Nat):U7 n few (k+1)=U7 n few k++if yC (1+(k:Int))=few then[1+(k:Int)] else[]:=by
 unfold U7;rw[fw,gJ,bv];congr 1;by_cases c:yC (1+(k:Int))=few
 .rw[aL c,ib (by simpa using c)];rfl
 .rw[aF c,ft (by simpa using c)];rfl
theorem aaA {n few:Int}{k:Nat}:ln (U7 n few k)<=k/\∀m∈U7 n few k,0<m:=by unfold U7;refine(by rw[ac];exact aj (fR _ _) (by rw[aC];exact ao _),λm h=>?_);obtain⟨j,_,rfl⟩:=aB.mp h;lia
theorem RB {n:Int}(h:n<=5):∀i,ln (Vd n i)<=31*i/\∀m∈Vd n i,0<m
 |0=>(bp _,λm a=>by cases a)
 |i+1=>by
  obtain⟨e,c⟩:=RB h i;obtain⟨f,d⟩:=aaA (n:=n) (few:=1+(i:Int)) (k:=2^n.toNat-1);have:2^n.toNat<=2^5:=aW (()) ();unfold Vd;refine(by rw[aS];lia,λm a=>?_);rcases cF.mp a with a|a
  .exact c m a
  .exact d m a
def Pj (n:Int):List Int:=Vd n (n / 2).toNat
def KH:Ok P w K mg base 2 "_law_sets" ["_law_count"] (Ff K (Gk cW cR cP) (λas=>∃n,as=[.int n]/\0<=n/\n<=5) λs=>(λn=>Pj n) (zI s 0)):=by
 refine GJ T.Ou tH '!' (λf r A o s H E u=>(_,(jr (qZ (i:=1) tH.nd rz k4 (j8 ju)) (jr (wO (k:=2) aw rz (by rfl) T.lM jt (km (nA (xn 0) jt) jt) tH.nd rz k4 (jw (wO (k:=3) aw rz (by rfl) T.lM jt (Vx jt (xn 0)) tH.nd rz k4 (jw (jX (nJ (yW (Zv T) u %[xn 3|_]) (xn 2)) (jw (Dm 1 (xn 3))) jN))))) (jw (yQ 1)))),λas t=>?_))
 obtain⟨n,rfl,F,y⟩:=t;have p:(2:Int)^n.toNat=((2^n.toNat:Nat):Int):=by rw[iM];rfl
 have z:2^n.toNat<=2^5:=aW (()) ();have m:0<2^n.toNat:=fI (());have j:(1*(2:Int)^n.toNat-1).toNat=2^n.toNat-1:=by rw[p];lia
 refine((tT,tT),λx d=>?_);have d:x=[]:=d;subst d;refine((tT,((rz,tT,((()):(0:Int)<2),((()):(2:Int).natAbs.log2<9000)),tT)),(((()):-(2:Int)^62<=1),((()):(1:Int)<2^62),(():-(2:Int)^62<=n / 2+1),(():n / 2+1<2^62)),λi c=>∃v w,c=[k6 n,.ow (.ints (Vd n i)),v,w],(.un,.un,rz),?_,?_)
 .rintro i c l ⟨v,w,rfl⟩;have l:i<(n / 2+1-1).toNat:=l;have B:0<=n/\(Builtin.Int.intBits 1:Int)+n<=2^27:=by
   have:(Builtin.Int.intBits 1:Int)=1:=(())
   lia
  refine((tT,tT,rz,B),(((()):-(2:Int)^62<=1),((()):(1:Int)<2^62),by show -(2:Int)^62<=1*2^n.toNat;rw[p];lia,by show 1*(2:Int)^n.toNat<2^62;rw[p];lia),λk c=>∃w,c=[k6 n,.ow (.ints (Vd n i++U7 n (1+(i:Int)) k)),k6 (1+(i:Int)),w],(w,by rw[show U7 n (1+(i:Int)) 0=[] from rz,bY];rfl),?_,?_)
  .rintro k c g ⟨w,rfl⟩;have g:k<(1*(2:Int)^n.toNat-1).toNat:=g;rw[j]at g;have C:=(RB y i).1;have D:=(aaA (n:=n) (few:=1+(i:Int)) (k:=k)).1;refine((((rz,tT),1+(k:Int),rz,()),rz),λq=>(rz,rz,?_,?_),λq=>?_)
   .show ln (Vd n i++U7 n (1+(i:Int)) k)<sizeLine;rw[aS];exact small1000 ()
   .have q:yC (1+(k:Int))=1+(i:Int):=q;refine(k6 (1+(k:Int)),?_);rw[K6,aL q,<-g5];rfl
   .have q:¬yC (1+(k:Int))=1+(i:Int):=q;refine(k6 (1+(k:Int)),?_);rw[K6,aF q,bY];rfl
  .rintro c ⟨w,e⟩;have e:c=[k6 n,.ow (.ints (Vd n i++U7 n (1+(i:Int)) (1*(2:Int)^n.toNat-1).toNat)),k6 (1+(i:Int)),w]:=e;rw[j]at e;exact(_,_,e)
 .rintro c ⟨v,w,e⟩;have e:c=[k6 n,.ow (.ints (Vd n (n / 2+1-1).toNat)),v,w]:=e;subst e;refine(rz,?_);show Vd n (n / 2+1-1).toNat=Pj n;unfold Pj;rw[show n / 2+1-1=n / 2 by lia]
theorem Ry {z b:Int}{uss:List (List Int)}{l0:Li}(c:0<z)(hl:ln l0<=1)(h:Be z l0)(a:∀u∈uss,ln u<=8):∀i,ln (Il z b uss l0 i)<=1+8*i/\Be z (Il z b uss l0 i)
 |0=>(hl,h)
 |i+1=>by
  obtain⟨f,d⟩:=Ry (b:=b) c hl h a i;unfold Il;split
  .refine(?_,Be.tz c _);refine aj (lH _ _) ?_;unfold jz;rw[ac,aC];have:ln (uss[i]'[])<=8:=by
    rw[gQ];cases e:uss[i]? with
    |none=>exact bp _
    |some u=>exact a u (aP e)
   lia
  .exact((),d)
def Ov (g:List Int)(z:Int)(us:List (List Int))(b:Int):List Int:=jy ((Il z b us [jx g % z] (ln us)).map (wY z))
def Aw:Ok P w K mg base 4 "_law_candidate" ["_law_g","_law_size","_law_ups_here","_law_bits"] (Ff K (Gk cW cR cP) (λas=>∃(g:List Int) (z:Int) (us:List (List Int)) (b:Int),as=[.ints g,.int z,.lst (us.map PV.ints),.int b]/\g≠[]/\0<z/\z<((2^200:Nat):Int)/\ln us<=5/\(∀u∈us,ln u<=8/\Be z u)/\0<=b) λs=>(λg z us b=>Ov g z (us.map mQ) b) (lI s 0) (zI s 1) (None s 2) (zI s 3)):=by
 refine GJ T.Cg lE '!' (λf cdv A O s H E Y=>(_,(jr (jG (i:=4) lE.nd rz k4 (jJ (j8 %[jU (kI 0 (lV jt) (λ_ _=>rz)) (xn 1)|_]))) (jr (oh (k:=5) aw rz (by rfl) T.lM (lL T.jM (xv 2)) lE.nd rz k4 (jw (jX (nJ (jU (WX (xn 3) (xn 5)) jt) jt) (jw (jG (i:=4) lE.nd rz k4 (jJ (m6 (yX T) Y %[xl 4,xl_of (jF (xv 2) (xn 5) (λ_ _=>rz)),xn 1|_])))) jN))) (jr (qZ (i:=6) lE.nd rz k4 (j8 ju)) (jr (wC (k:=7) aw rz (xl 4) lE.nd rz k4 (jr (jA (i:=7) lE.nd rz k4 (jU (xn 7) (xn 1))) (lU (jX (pZ (km (xn 7) (xn 7)) (xn 1)) (jw (jA (i:=7) lE.nd rz k4 (lw (xn 7) (xn 1)))) jN) (jw (Dm 6 (xn 7)))))) (j7 6 (jw (mD (m6 (yK T) Y %[xl 6,jt|_])))))))),λas hp=>?_))
 obtain⟨g,z,us,b,rfl,J,D,Q,ul,ue,b0⟩:=hp;have l0:=lP J;have lx:g[j6 (ln g) (-1)]! =jx g:=nW g l0;have ml:ln (us.map PV.ints)=ln us:=ac _;have zb:0<=z/\z<((2^9000:Nat):Int):=((),Int.lt_trans Q (gO.mpr (aI (()) (()))));have Z:=Ry (b:=b) (uss:=us) (l0:=[jx g % z]) D (ao _) (λm p=>by rw[af.mp p];exact(a8 _ (),aV _ D)) λu L=>(ue u L).1;refine(((((.inl rz,tT,(():-(ln g:Int) <= -1),(():(-1:Int)<(ln g:Int))),rz,D),tT),tT),λN t=>?_);replace t:N=[jx g % z]:=by have t:N=[g[j6 (ln g) (-1)]! % z]:=t;rw[t,lx]
 refine jD (ρ':=[k7 g,k6 z,.fr (.lst (us.map PV.ints)),k6 b,k7 N,.un,.un,.un]) rz ?_;refine((rz,tT),((():-(2:Int)^62<=(ln (us.map PV.ints):Int)),(():(ln (us.map PV.ints):Int)<2^62)),λi l=>i<=ln us/\∃v,l=[k7 g,k6 z,.fr (.lst (us.map PV.ints)),k6 b,k7 (Il z b us [jx g % z] i),v,.un,.un],(bp _,.un,by rw[t];rfl),?_,?_)
 .rintro i l o ⟨_,v,rfl⟩;have o:i<(ln (us.map PV.ints):Int).toNat:=o;have o:i<ln us:=()
  obtain⟨R,F⟩:=Z i;have L:=ue _ (bR o);have U:us[i]'[]=us[i]:=nY o;refine((((rz,rz,(():(0:Int)<=(i:Int))),tT,((()):(0:Int)<2)),tT),λq=>?_,λq=>?_)
  .have q:b / 2^i % 2=1:=q;have S:=ab9 o;refine(((rz,((rz,rz,abB o),abC o),rz,tT),Il z b us [jx g % z] i,us[i]'[],z,?_,(),?_,λm p=>BW (F.b Q m p),λm p=>?_),λr j=>((),k6 (i:Int),?_))
   .show[PV.ints (Il z b us [jx g % z] i),.ints (mQ (vo (jE us) (i:Int))),.int z]=_;rw[S]
   .rw[U];lia
   .rw[U]at p;exact BW (L.2.b Q m p)
   .have j:r=Tz z (jz (Il z b us [jx g % z] i) (mQ (vo (jE us) (i:Int)))):=j;rw[j,S];have e:Il z b us [jx g % z] (i+1)=Tz z (jz (Il z b us [jx g % z] i) (us[i]'[])):=(show(if b / 2^i % 2=1 then Tz z (jz (Il z b us [jx g % z] i) (us[i]'[])) else Il z b us [jx g % z] i)=_ from aL q);rw[e];rfl
  .have q:¬b / 2^i % 2=1:=q;refine((),k6 (i:Int),?_);have e:Il z b us [jx g % z] (i+1)=Il z b us [jx g % z] i:=(show(if b / 2^i % 2=1 then Tz z (jz (Il z b us [jx g % z] i) (us[i]'[])) else Il z b us [jx g % z] i)=_ from aF q);rw[e];rfl
 .rintro l ⟨_,v,j⟩;have j:l=[k7 g,k6 z,.fr (.lst (us.map PV.ints)),k6 b,k7 (Il z b us [jx g % z] (ln (us.map PV.ints):Int).toNat),v,.un,.un]:=j;rw[ml,ce]at j;subst j;obtain⟨R,F⟩:=Z (ln us);generalize hM:Il z b us [jx g % z] (ln us)=M at R F;refine((tT,tT),λl1 G=>?_);have G:l1=[]:=G;subst G;refine(rz,λi l=>i<=ln M/\∃w,l=[k7 g,k6 z,.fr (.lst (us.map PV.ints)),k6 b,k7 M,v,.ow (.ints ((M.take i).map (wY z))),w],(bp _,.un,rz),?_,?_)
  .rintro i n l C ⟨_,w,rfl⟩;have C:M[i]?=so n:=C;have il:=(ah.mp C).1;refine((rz,rz,D),λx B=>?_);have B:x=n % z:=B;have tk:(M.take (i+1)).map (wY z)=(M.take i).map (wY z)++[wY z n]:=by rw[pY C,bv];rfl
   have sl:ln ((M.take i).map (wY z))<sizeLine:=by rw[ac,cu];exact small1000 ()
   refine(λl=>l=[k7 g,k6 z,.fr (.lst (us.map PV.ints)),k6 b,k7 M,v,.ow (.ints ((M.take i).map (wY z))),k6 (wY z n)],(((rz,rz),rz),λq=>?_,λq=>?_),?_)
   .have q:z<x+x:=q;refine((rz,rz),λy I=>?_);have I:y=x-z:=I;rw[I,B];unfold wY;rw[aL ()];rfl
   .have q:¬z<x+x:=q;rw[B];unfold wY;rw[aF ()];rfl
   .rintro l rfl;refine(rz,rz,sl,il,k6 (wY z n),?_);rw[tk];rfl
  .rintro l ⟨_,w,j⟩;have j:l=[k7 g,k6 z,.fr (.lst (us.map PV.ints)),k6 b,k7 M,v,.ow (.ints ((M.take (ln M)).map (wY z))),w]:=j;rw[cw]at j;subst j;refine(((rz,tT,tT),M.map (wY z),0,rz,ck 0,by rw[ac];lia),?_);show jy ((M.map (wY z)).map (pl 0))=Ov g z ((us.map PV.ints).map mQ) b;rw[mV,qU];unfold Ov;rw[hM]
section
variable {X:Cx}{G:Gx}{E:ER}{pos e d g f:Pos}{i:Nat}{x:Str}
theorem Xb (j:Nat)(m:X.N.Nodup)(L:X.N[i]?=so x)(S:Loc X.env.scope x)(M:(i == j)=false)(F:X.N[j]?=so y:=by rfl)(N:Vis X.env.scope y:=by walk_at "v")
  (I:(y == ("__debug__":Str))=false:=by decide) (o:(y == ("__classdict__":Str))=false:=by decide)
  (k:attributeBase (.Name y d) "pop" X.env (eval (.Name y d) X.env)=eval (.Name y d) X.env:=by rfl) (l:(f.endLine == g.line)=true:=by rfl)
  (J:X.fn x=true\/X.env.scope.names.lookup x=so .local:=by walk_at "w")
  (r:swapsWithSole [.Name x e] (.Call (.Attribute (.Name y d) "pop" f) [] [] g) pos.line X.env=pure false:=by rfl) (Q:swappedStores [.Name x e] (.Call (.Attribute (.Name y d) "pop" f) [] [] g) X.env=pure none:=by rfl)
  (C:(assignEach [.Name x e] X.env).map (·.2)=[assign (.Name x e) X.env]:=by rfl) :
  PS X (.Assign [.Name x e] (.Call (.Attribute (.Name y d) "pop" f) [] [] g) pos) (ts X.K G E λP h=>Z5 h j/\getL h j≠[]/\∀n,n=jx (getL h j)->P.nx ((h.set j (.ow (.ints (getL h j).dropLast))).set i (k6 n))):=
 toS (ps_asg (pe_bm0 cj fP fQ mt_pop (pe_var F N I o) k l) (pg_name m L S J) r Q C) λB σ H h O P D R c w=>by
  obtain⟨s,v,z⟩:=c;obtain⟨a,vs,t,Y,Z,u,A⟩:=R.ow j _ s;subst A;have hl:0<ln (getL h j):=lP v;have U:jx (getL h j)=(getL h j)[ln (getL h j)-1]'():=by show(getL h j)[ln (getL h j)-1]! =_;rw[gQ,ae ()];rfl
  have R2:=R.change s t (p':=.ints (getL h j).dropLast) (vs:=((getL h j).map V.int).dropLast) (by
   show _=(getL h j).dropLast.map V.int;rw[g9])
  refine(_,t,.inl (rz,_,SqL.of u),a,_,V.int ((getL h j)[ln (getL h j)-1]'()),rz,rz,u,?_,w.nx _ _ _ (O,R2.set (p:=.int (jx (getL h j))) ?_) (z _ rz))
  .rw[ac,ag,ae ()];rfl
  .rw[U];rfl
end
def Gi (c:List Int)(top:Int)(r:List Int)(k:Nat):List Int:=(ss k).foldl (λx i=>x.set (ln r+1-ln c+i) (x[ln r+1-ln c+i]!-top*c[i]!)) r
theorem DY (c:Li)(top:Int)(r:Li)(k:Nat):Gi c top r (k+1)=(Gi c top r k).set (ln r+1-ln c+k) ((Gi c top r k)[ln r+1-ln c+k]!-top*c[k]!):=by unfold Gi;rw[fw,dP];rfl
theorem yN (c:Li)(top:Int)(r:Li):∀k,ln (Gi c top r k)=ln r
 |0=>rfl
 |k+1=>by rw[DY,bn,yN c top r k]
theorem aaD {c r:Li}{top:Int}{B C:Nat}(h:∀n,(r[n]!).natAbs<=B)(a:∀n,(top*c[n]!).natAbs<=C):∀k n,((Gi c top r k)[n]!).natAbs<=B+(if n<ln r+1-ln c+k then C else 0)
 |0,n=>aj (h n) (eP _ _)
 |k+1,n=>by
  rw[DY];have i:=aaD h a k;by_cases d:ln r+1-ln c+k<ln (Gi c top r k)
  .rw[oY _ _ _ _ d];split
   .rename_i e;have f:=i (ln r+1-ln c+k);rw[aF ()]at f;have g:=a k;rw[aL ()];lia
   .refine aj (i n) ?_;split
    .rw[aL ()];exact ao _
    .exact eP _ _
  .rw[List.set_eq_of_length_le ()];refine aj (i n) ?_;split
   .rw[aL ()];exact ao _
   .exact eP _ _
def stN (c:List Int):Nat->List Int->List Int->List Int×List Int
 |0,q,r=>(q,r)
 |n+1,q,r=>if ln r<ln c then(q,r) else stN c n (jx r::q.map λm=>jx c*m) (Gi c (jx r) (r.dropLast.map λm=>jx c*m) (ln c-1))
def Fl (f c:List Int):List Int×List Int:=stN c (ln f+1) [] f
structure StB (c q r:List Int)(k:Nat):Prop where
 ql:ln q<=k
 rl:ln r+k<=8
 qb:∀m∈q,m.natAbs<=2^(200+201*k)
 rb:∀m∈r,m.natAbs<=2^(200+201*k)
theorem vK {a b n m:Nat}(h:a<=2^n)(c:b<=2^m):a*b<=2^(n+m):=by rw[Nat.pow_add];exact gV h c
theorem Bc {l:Li}{B:Nat}(h:∀m∈l,m.natAbs<=B)(n:Nat):(l[n]!).natAbs<=B:=by
 by_cases c:n<ln l
 .exact h _ (FM.getD_mem c)
 .rw[jH ()];exact bp _
theorem StB.step {c q r:Li}{k:Nat}(h:StB c q r k)(f:∀m∈c,m.natAbs<=2^200)(i:0<ln r):StB c (jx r::q.map λm=>jx c*m) (Gi c (jx r) (r.dropLast.map λm=>jx c*m) (ln c-1)) (k+1):=by
 have l:(jx c).natAbs<=2^200:=Bc f _;have g:(jx r).natAbs<=2^(200+201*k):=Bc h.rb _;have u:∀{x:Nat},x<=2^(200+(200+201*k))->x<=2^(200+201*(k+1)):=λd=>aj d (aW (()) ());refine(?_,?_,λm a=>?_,λm a=>?_)
 .rw[bC,ac];have:=h.ql;lia
 .rw[yN,ac,dF];have:=h.rl;lia
 .rcases aG.mp a with rfl|a
  .exact aj g (aW (()) ())
  .obtain⟨x,d,rfl⟩:=aB.mp a;rw[dS];exact u (vK l (h.qb x d))
 .obtain⟨n,_,rfl⟩:=FM.mem_getD a;refine aj (aaD (B:=2^(200+(200+201*k))) (C:=2^(200+(200+201*k))) (λn=>?_) (λn=>?_) _ n) ?_
  .refine Bc (λm a=>?_) n;obtain⟨x,d,rfl⟩:=aB.mp a;rw[dS];exact vK l (h.rb x (iR r d))
  .rw[dS,jc];exact vK (Bc f n) g
  .have e:2^(200+201*(k+1))=2^(200+(200+201*k))+2^(200+(200+201*k)):=by rw[show 200+201*(k+1)=200+(200+201*k)+1 by lia,jm];lia
   rw[e];split
   .exact ao _
   .exact eP _ _
theorem Wu {c:Li}(a:∀m∈c,m.natAbs<=2^200)(d:0<ln c):∀(n:Nat) (q r:Li) (k:Nat),StB c q r k->∃e,StB c (stN c n q r).1 (stN c n q r).2 e
 |0,q,r,k,h=>(k,h)
 |n+1,q,r,k,h=>by
  unfold stN;split
  .exact(k,h)
  .exact Wu a d n _ _ _ (h.step a ())
def Ju:Ok P w K mg base 3 "_law_steps" ["_law_f","_law_c"] (uE K (Gk cW cR cP) (λas=>∃f c,as=[.ints f,.ints c]/\ln f<=8/\(∀m∈f,m.natAbs<=2^200)/\0<ln c/\ln c<=100/\∀m∈c,m.natAbs<=2^200) λs=>(λf c=>PV.lst [.ints (jy (Fl f c).1),.ints (jy (Fl f c).2)]) (lI s 0) (lI s 1)):=by
 refine pX T.Mp mY '!' (λf cdv A M s H E U=>(_,(jr (qZ (i:=2) mY.nd rz k4 (Jt T.O8 (xl 0) (λ_=>.inl rz))) (jr (jG (i:=3) mY.nd rz k4 (jJ (j8 ju))) (jr (lD aw (Xc (jO 2 T.jM) (jO 1 T.jM)) (jr (Xb (i:=4) 2 mY.nd rz k4 rz) (jr (jG (i:=3) mY.nd rz k4 (jJ (uT (jJ (j8 %[xn 4|_])) (jJ (pQ (N':=["_law_number","_law_c"]) (cap:=[so 1]) (kW rz rz rz rz ((rz,.inr (.inl rz),sS,.inl rz,_,rz,rz),tT) (rz,tT) rz) rz (xl 3) (λ_ _ _=>(lO 0)) (λ_ _ _=>(kO (kI 1 (lV jt) (λ_ _=>rz)) (xn 0)))))))) (j7 2 (jr (CV (i:=2) mY.nd rz rz (N':=["_law_number","_law_c"]) (cap:=[so 1]) (kW rz rz rz rz ((rz,.inr (.inl rz),sS,.inl rz,_,rz,rz),tT) (rz,tT) rz) rz (xl 2) (λ_ _ _=>(lO 0)) (λ_ _ _=>(kO (kI 1 (lV jt) (λ_ _=>rz)) (xn 0))) rz) (jw (oh (k:=5) aw rz (by rfl) T.lM (lw (jO 1 T.jM) jt) mY.nd rz k4 (jr (jA (i:=6) mY.nd rz k4 (km (km (lw (jO 2 T.jM) (jO 1 T.jM)) jt) (xn 5))) (jw (um 2 (xn 6) (lw (kI 2 (xn 6) (λ_ _=>rz)) (kO (xn 4) (kI 1 (xn 5) (λ_ _=>rz)))))))))))))) (j7 2 (jw (jB (nZ (oN %[jJ (m6 (yK T) U %[xl 3,jt|_]),jJ (m6 (yK T) U %[xl 2,jt|_])|_])))))))),λas hp=>?_))
 obtain⟨f,c,rfl,fl,fb,c0,cl,G⟩:=hp;have F:c[j6 (ln c) (-1)]! =jx c:=nW c c0;have O:-(ln c:Int) <= -1/\(-1:Int)<(ln c:Int):=()
 have N:∀{x k:Nat},k<=8->x<=2^(200+201*k)->x<2^2000:=λhk h=>aK h (aI (()) ());have lcb:(jx c).natAbs<2^2000:=aK (Bc G _) (aI (()) (()));refine(rz,λl L=>?_);replace L:l=f:=L;subst L;refine((tT,tT),λq0 J=>?_);replace J:q0=[]:=J;subst J;refine(λu=>∃q r Z v p k n,u=[k7 l,k7 c,.ow (.ints r),k7 q,Z,v,p]/\StB c q r k/\stN c n q r=Fl l c/\ln r<n,λu=>ln (getL u 2),([],l,.un,.un,.un,0,ln l+1,rz,(ao _,(),(λm t=>by cases t),fb),rz,()),?_);rintro u ⟨q,r,Z,v,p,k,n,rfl,S,Q,hn⟩;have rl:=S.rl;have ql:=S.ql;refine((.inr (.inl rz),.inl rz),λy=>?_,λy=>?_)
 .have y:(ln c:Int)<=(ln r:Int):=y;have Y:0<ln r:=()
  have S2:=S.step G Y;refine(rz,gm.mp Y,λtop D=>?_);replace D:top=jx r:=D;have tb:top.natAbs<2^2000:=by rw[D];exact N () (Bc S.rb _)
  have qb:∀m∈q,m.natAbs<2^2000:=λm t=>N () (S.qb m t);have rb:∀m∈r.dropLast,m.natAbs<2^2000:=λm t=>N () (S.rb m (iR r t));refine((((rz,tT),tT),(rz,(():ln q<=1000),λm t=>((.inl rz,tT,O),rz,?_)),?_),λz j=>?_)
  .show IntMulOk (c[j6 (ln c) (-1)]!) m;rw[F];exact nR lcb (qb m t)
  .exact a7 (small1000 (by show 1+ln (q.map _)<=1000;rw[ac];lia))
  replace j:z=top::q.map λm=>jx c*m:=by have j:z=[top]++q.map λm=>c[j6 (ln c) (-1)]!*m:=j;rw[F]at j;exact j
  refine jD (ρ':=[k7 l,k7 c,.ow (.ints r.dropLast),k7 z,k6 top,v,p]) rz ?_;have dl:ln r.dropLast=ln r-1:=dF;refine((rz,(():ln r.dropLast<=1000),λm t=>((.inl rz,tT,O),rz,?_)),λd g=>?_)
  .show IntMulOk (c[j6 (ln c) (-1)]!) m;rw[F];exact nR lcb (rb m t)
  replace g:d=r.dropLast.map λm=>jx c*m:=by have g:d=r.dropLast.map λm=>c[j6 (ln c) (-1)]!*m:=g;rw[F]at g;exact g
  have l2:ln d=ln r-1:=by rw[g,ac,dl]
  refine jD (ρ':=[k7 l,k7 c,.ow (.ints d),k7 z,k6 top,v,p]) rz ?_;refine((.inl rz,tT),((():-(2:Int)^62<=(ln c:Int)-1),(():(ln c:Int)-1<2^62)),λi u=>∃v p,u=[k7 l,k7 c,.ow (.ints (Gi c top d i)),k7 z,k6 top,v,p],(v,p,rz),?_,?_)
  .rintro i u R ⟨v,p,rfl⟩;have R:i<((ln c:Int)-1).toNat:=R;have bl:=yN c top d i;have ia:ln d+1-ln c+i<ln d:=()
   refine((((.inr (.inl rz),.inl rz),tT),rz),λa C=>?_);replace C:a=((ln d+1-ln c+i:Nat):Int):=by have C:a=(ln (Gi c top d i):Int)-(ln c:Int)+1+(i:Int):=C;rw[C,bl];lia
   subst C;have I:∀n,(c[n]!).natAbs<2^2000:=λn=>aK (Bc G n) (aI (()) (()));refine(((.inr (.inl rz),rz,?_,?_),rz,(.inl rz,rz,?_,?_),?_),rz,rz,(?_,?_),k6 (i:Int),k6 ((ln d+1-ln c+i:Nat):Int),?_)
   .show -(ln (Gi c top d i):Int)<=((ln d+1-ln c+i:Nat):Int);lia
   .show((ln d+1-ln c+i:Nat):Int)<(ln (Gi c top d i):Int);rw[bl];lia
   .show -(ln c:Int)<=(i:Int);lia
   .show(i:Int)<(ln c:Int);lia
   .show IntMulOk top (c[j6 (ln c) (i:Int)]!);rw[rZ];exact nR tb (I i)
   .show -(ln (Gi c top d i):Int)<=((ln d+1-ln c+i:Nat):Int);lia
   .show((ln d+1-ln c+i:Nat):Int)<(ln (Gi c top d i):Int);rw[bl];lia
   .rw[DY];show[k7 l,k7 c,.ow (.ints ((Gi c top d i).set (j6 (ln (Gi c top d i)) ((ln d+1-ln c+i:Nat):Int)) ((Gi c top d i)[j6 (ln (Gi c top d i)) ((ln d+1-ln c+i:Nat):Int)]!-top*c[j6 (ln c) (i:Int)]!))),k7 z,k6 top,k6 (i:Int),k6 ((ln d+1-ln c+i:Nat):Int)]=_;rw[rZ,rZ]
  .rintro u ⟨v,p,o⟩;have o:u=[k7 l,k7 c,.ow (.ints (Gi c top d ((ln c:Int)-1).toNat)),k7 z,k6 top,v,p]:=o;rw[show((ln c:Int)-1).toNat=ln c-1 by lia]at o;obtain⟨B,rfl⟩:∃B,n=B + 1:=(n-1,());refine((z,Gi c top d (ln c-1),_,v,p,k+1,B,o,by rw[j,g,D];exact S2,?_,by rw[yN];lia),?_)
   .rw[<-Q,j,g,D]
    conv=>rhs;unfold stN
    rw[aF ()]
   .rw[o];show(Gi c top d (ln c-1)).length<ln r;rw[yN];lia
 .have y:¬(ln c:Int)<=(ln r:Int):=y;obtain⟨B,rfl⟩:∃B,n=B + 1:=(n-1,());have e:Prod.mk q r=Fl l c:=by rw[<-Q];unfold stN;rw[aL ()]
  refine((((rz,tT,tT),q,0,rz,ck 0,()),((rz,tT,tT),r,0,rz,ck 0,()),tT),?_);show PV.lst [.ints (jy (q.map (pl 0))),.ints (jy (r.map (pl 0)))]=PV.lst [.ints (jy (Fl l c).1),.ints (jy (Fl l c).2)];rw[qU,qU,<-e]
def Gq (g:List Int)(z:Int)(us:List (List Int))(way b:Int):Rw:=
 let c:=if ln (Ov g z us b)=0 then[1] else Ov g z us b
 let q:=jy (Fl g c).1
 let r:=if ln (jy (Fl g c).2)=0/\way=0 then[1] else jy (Fl g c).2
 if way=2 then(b,jy (lJ q [-1]),jy (lJ r c)) else(b,q,r)
def YQ:Ok P w K mg base 5 "_law_rows" ["_law_g","_law_size","_law_ups_here","_law_way"] (uE K (Gk cW cR cP) (λas=>∃(g:List Int) (z:Int) (us:List (List Int)) (way:Int),as=[.ints g,.int z,.lst (us.map PV.ints),.int way]/\g≠[]/\ln g<=8/\(∀m∈g,m.natAbs<=2^200)/\0<z/\z<((2^200:Nat):Int)/\ln us<=5/\∀u∈us,ln u<=8/\Be z u) λs=>(λg z us way=>PV.lst (((Pj (ln us:Int)).map (Gq g z (us.map mQ) way)).map mq)) (lI s 0) (zI s 1) (None s 2) (zI s 3)):=by
 refine pX T.acx qC '!' (λf cdv A outer s H E O=>(_,(jr (oW (i:=4) qC.nd rz k4 (oN ju)) (jr (wC (k:=5) aw rz (jJ (m6 (KH T) O %[lL T.jM (xv 2)|_])) qC.nd rz k4 (jr (jG (i:=6) qC.nd rz k4 (jJ (m6 (Aw T) O %[xl 0,xn 1,xv 2,xn 5|_]))) (lU (jX (nJ (jO 6 T.jM) jt) (jw (jG (i:=6) qC.nd rz k4 (jJ (j8 %[jt|_])))) jN) (jr (U3 (xc (Ju T) O %[xl 0,xl 6|_]) (Xl rz (pgs_cons (pg_name (i:=7) qC.nd rz k4) (pgs_cons (pg_name (i:=8) qC.nd rz k4) pgs_nil)))) (lU (jX (L2.PW.pt (uJ (nJ (jO 8 T.jM) jt) (qW (nJ (xn 3) jt)))) (jw (jG (i:=8) qC.nd rz k4 (jJ (j8 %[jt|_])))) jN) (lU (jX (nJ (xn 3) jt) (jr (jG (i:=7) qC.nd rz k4 (jJ (m6 (Bx T) O %[xl 7,jJ (j8 %[lV jt|_]),jt|_]))) (jw (jG (i:=8) qC.nd rz k4 (jJ (m6 (Bx T) O %[xl 8,xl 6,jt|_]))))) jN) (jw (sy 4 (nj %[xn 5,xl 7,xl 8|_]))))))))) (j7 4 (jw (jB (xv 4)))))),λas hp=>?_))
 obtain⟨g,z,us,way,rfl,gne,gl,gb,z0,z2,ul,ue⟩:=hp;have ml:ln (us.map PV.ints)=ln us:=ac _;have lb:=RB (n:=(ln us:Int)) () ((ln us:Int) / 2).toNat;have cb:∀b,ln (Ov g z us b)<=100/\∀m∈Ov g z us b,m.natAbs<=2^200:=λb=>by obtain⟨h1,_⟩:=Ry (b:=b) (uss:=us) (l0:=[jx g % z]) z0 (ao _) (λm F=>by rw[af.mp F];exact(a8 _ (),aV _ z0)) (λu hu=>(ue u hu).1) (ln us);unfold Ov;refine(aj (lz _) (by rw[ac];lia),λm F=>?_);obtain⟨n,_,rfl⟩:=aB.mp (oJ F);exact abu z0 z2
 refine(tT,λrv D=>?_);replace D:rv=[]:=D;subst D;refine((((rz,tT),tT),(ln us:Int),by show[PV.int (ln (us.map PV.ints):Int)]=_;rw[ml],(),()),?_);have eL:Pj (ln (us.map PV.ints):Int)=Pj (ln us:Int):=by rw[ml]
 have fin:∀l:List Int,PV.lst ((l.map (Gq g z us way)).map mq)=PV.lst ((l.map (Gq g z ((us.map PV.ints).map mQ) way)).map mq):=λl=>by rw[mV]
 have R:∀m∈Pj (ln us:Int),0<m:=lb.2;have llen:(Pj (ln us:Int)).length<=1000:=by have:(Pj (ln us:Int)).length<=31*((ln us:Int) / 2).toNat:=lb.1;lia
 generalize Pj (ln us:Int)=L at *
 refine(λi o=>i<=ln L/\∃v5 v6 M N,o=[k7 g,k6 z,.fr (.lst (us.map PV.ints)),k6 way,.ow (.lst (((L.take i).map (Gq g z us way)).map mq)),v5,v6,M,N],(bp _,.un,.un,.un,.un,rz),?_,?_)
 .rintro i b o I ⟨_,v5,v6,M,N,rfl⟩;have I:(Pj (ln (us.map PV.ints):Int))[i]?=so b:=I;rw[eL]at I;have il:=(ah.mp I).1;have b0:=R b (aP I);obtain⟨c1,Y⟩:=cb b;refine(((rz,rz,rz,rz,tT),g,z,us,b,rz,gne,z0,z2,ul,ue,()),λc y=>?_);replace y:c=Ov g z us b:=by have y:c=Ov g z ((us.map PV.ints).map mQ) b:=y;rw[mV]at y;exact y
  rw[<-y]at c1 Y;refine jD (ρ':=[k7 g,k6 z,.fr (.lst (us.map PV.ints)),k6 way,.ow (.lst (((L.take i).map (Gq g z us way)).map mq)),k6 b,k7 c,M,N]) rz ?_;generalize r:(if ln c=0 then[1] else c)=e ;have p:0<ln e/\ln e<=100/\∀m∈e,m.natAbs<=2^200:=by
   rw[<-r];split
   .exact(Nat.zero_lt_one,((()):1<=100),λm F=>by rw[af.mp F];exact fB)
   .exact((),c1,Y)
  refine(λo=>o=[k7 g,k6 z,.fr (.lst (us.map PV.ints)),k6 way,.ow (.lst (((L.take i).map (Gq g z us way)).map mq)),k6 b,k7 e,M,N],((.inl rz,tT),λq=>(((tT,tT),tT),λY B=>?_),λq=>?_),?_)
  .have q:(ln c:Int)=0:=q;have B:Y=[1]:=B;rw[B,<-r,aL ()];rfl
  .have q:¬(ln c:Int)=0:=q;rw[<-r,aF ()]
  rintro o rfl;refine(((rz,rz,tT),g,e,rz,gl,gb,p.1,p.2.1,p.2.2),.ints (jy (Fl g e).1),.ints (jy (Fl g e).2),rz,?_);generalize hq:jy (Fl g e).1=G;generalize Q:jy (Fl g e).2=U;refine jD (ρ':=[k7 g,k6 z,.fr (.lst (us.map PV.ints)),k6 way,.ow (.lst (((L.take i).map (Gq g z us way)).map mq)),k6 b,k7 e,k7 G,k7 U]) rz ?_;generalize t:(if ln U=0/\way=0 then[1] else U)=J;have lq:ln G<=100/\ln J<=100:=by
   obtain⟨k,S⟩:=Wu p.2.2 p.1 (ln g+1) [] g 0 (ao _,(),(λm F=>by cases F),gb);have h1:=S.ql;have h2:=S.rl;have h3:=lz (Fl g e).1;have h4:=lz (Fl g e).2;have h3:ln (jy (Fl g e).1)<=(stN e (ln g+1) [] g).1.length:=h3;have h4:ln (jy (Fl g e).2)<=(stN e (ln g+1) [] g).2.length:=h4;rw[hq]at h3;rw[Q]at h4;refine((),?_);rw[<-t];split
   .show 1<=100;decide
   .lia
  refine(λo=>o=[k7 g,k6 z,.fr (.lst (us.map PV.ints)),k6 way,.ow (.lst (((L.take i).map (Gq g z us way)).map mq)),k6 b,k7 e,k7 G,k7 J],(((.inl rz,tT),λ_=>(rz,tT)),λq=>(((tT,tT),tT),λr2 j=>?_),λq=>?_),?_)
  .have q:(ln U:Int)=0/\way=0:=q;have j:r2=[1]:=j;rw[j,<-t,aL ((),q.2)];rfl
  .have q:¬((ln U:Int)=0/\way=0):=q;rw[<-t,aF λz=>q ((),z.2)]
  rintro o rfl;have v:Gq g z us way b=if way=2 then(b,jy (lJ G [-1]),jy (lJ J e)) else(b,G,J):=by unfold Gq;dsimp only;rw[<-y,r,hq,Q,t]
  refine(λo=>∃x,x=Gq g z us way b/\o=[k7 g,k6 z,.fr (.lst (us.map PV.ints)),k6 way,.ow (.lst (((L.take i).map (Gq g z us way)).map mq)),k6 b,k7 e,k7 x.2.1,k7 x.2.2]/\x.1=b,((rz,tT),λq=>?_,λq=>?_),?_)
  .have q:way=2:=q;refine(((rz,((tT,tT),tT),tT,tT),G,[-1],rz,(),((()):1<=400)),λq1 C=>?_);have C:q1=jy (lJ G [-1]):=C;refine(((rz,rz,tT,tT),J,e,rz,(),()),λr2 j=>?_);have j:r2=jy (lJ J e):=j;refine(_,rz,?_,?_)
   .rw[v,aL q,C,j];rfl
   .rw[v,aL q]
  .have q:¬way=2:=q;refine(_,rz,?_,?_)
   .rw[v,aF q]
   .rw[v,aF q]
  .rintro o ⟨x,ex,rfl,xb⟩;refine(rz,(rz,rz,rz,tT),?_,il,k6 b,k7 e,k7 x.2.1,k7 x.2.2,?_)
   .show ln (((L.take i).map (Gq g z us way)).map mq)<sizeLine;rw[ac,ac,cu];exact small1000 ()
   .have tk:(((L.take (i+1)).map (Gq g z us way)).map mq)=((L.take i).map (Gq g z us way)).map mq++[mq x]:=by rw[pY I,bv,bv,ex];rfl
    rw[tk];show _=_;have:mq x=.tup [.int b,.ints x.2.1,.ints x.2.2]:=by unfold mq;rw[xb]
    rw[this];rfl
 .rintro o ⟨_,v5,v6,M,N,Z⟩;have Z:o=[k7 g,k6 z,.fr (.lst (us.map PV.ints)),k6 way,.ow (.lst (((L.take (Pj (ln (us.map PV.ints):Int)).length).map (Gq g z us way)).map mq)),v5,v6,M,N]:=Z;rw[eL,cw]at Z;subst Z;refine(rz,?_);show PV.lst ((L.map (Gq g z us way)).map mq)=PV.lst (((Pj (ln (us.map PV.ints):Int)).map (Gq g z ((us.map PV.ints).map mQ) way)).map mq);rw[eL];exact fin L
def Uy (p n:Int):Int:=if (1+n % 3) % p=0 then 1 else 1+n % 3
def Yh (ns:List Int)(p wd:Int)(k:Nat):List Int:=[ns[2+k]! % 10^18 / 3 % (2*wd+1)-wd,Uy p (ns[2+k]! % 10^18)]
def Ky (ns:List Int):Nat:=(2+ns[1]! % 3).toNat
def Ub:Ok P w K mg base 2 "_law_pieces" ["_law_script","_law_prime","_law_wide"] (abA K (Gk cW cR cP) (λas=>∃ns p wd,as=[.scr ns,.int p,.int wd]/\0<p/\0<=wd/\wd<=10^6) λas=>match as with|[.scr ns,.int p,.int wd]=>((ss (Ky ns)).map (Yh ns p wd)).map PV.ints|_=>[]):=by
 refine aeN T.Wo rE rz (i:=3) rz k4 (()) (()) '!' (λf y A t s H E x=>(_,_,(oW (i:=3) rE.nd rz k4 (oN ju)),(oh (k:=4) aw rz (by rfl) T.lM (km jt (jU (yW (uI T) x %[xr 0,jt|_]) jt)) rE.nd rz k4 (jr (jA (i:=5) rE.nd rz k4 (jU (yW (uI T) x %[xr 0,km jt (xn 4)|_]) (yc jt jt))) (jr (jA (i:=6) rE.nd rz k4 (km jt (jU (xn 5) jt))) (lU (jX (nJ (jU (xn 6) (xn 1)) jt) (jw (jA (i:=6) rE.nd rz k4 jt)) jN) (jw (sy 3 (jJ (j8 %[lw (jU (nA (xn 5) jt) (km (kO jt (xn 2)) jt)) (xn 2),xn 6|_])))))))),λas z=>?_))
 obtain⟨ns,p,wd,rfl,B,I,J⟩:=z;refine(tT,λC e=>?_);replace e:C=[]:=e;subst e;refine jD (ρ':=[.fr (.scr ns),k6 p,k6 wd,.ow (.lst []),.un,.un,.un]) rz ?_;have F:0<=ns[1]! % 3/\ns[1]! % 3<3:=(a8 _ (()),aV _ (()));refine((tT,((rz,tT,tT),tT,rz,((()):(0:Int)<=1)),tT,((()):(0:Int)<3)),((():-(2:Int)^62<=2+ns[1]! % 3),(():2+ns[1]! % 3<2^62)),λi d=>∃v l m,d=[.fr (.scr ns),k6 p,k6 wd,.ow (.lst (((ss i).map (Yh ns p wd)).map PV.ints)),v,l,m],(.un,.un,.un,rz),?_,?_)
 .rintro i d u ⟨v,l,m,rfl⟩;have u:i<(2+ns[1]! % 3).toNat:=u;refine((((rz,(tT,rz),tT),tT,rz,(():(0:Int)<=2+(i:Int))),by walk_at "x",((()):(0:Int)<10^18)),λn g=>?_);replace g:n=ns[2+i]! % 10^18:=by have g:n=ns.getD (2+(i:Int)).toNat 0 % 10^18:=g;rw[g,show(2+(i:Int)).toNat=2+i by lia]
  have G:0<=n/\n<10^18:=by rw[g];exact(a8 _ (()),aV _ (()))
  refine((tT,rz,tT,((()):(0:Int)<3)),λa j=>?_);replace j:a=1+n % 3:=j;refine jD (ρ':=[.fr (.scr ns),k6 p,k6 wd,.ow (.lst (((ss i).map (Yh ns p wd)).map PV.ints)),k6 (i:Int),k6 n,k6 a]) rz ?_;refine(λd=>d=[.fr (.scr ns),k6 p,k6 wd,.ow (.lst (((ss i).map (Yh ns p wd)).map PV.ints)),k6 (i:Int),k6 n,k6 (Uy p n)],(((rz,rz,B),tT),λq=>(tT,λb o=>?_),λq=>?_),?_)
  .have q:a % p=0:=q;have o:b=1:=o;rw[j]at q;unfold Uy;rw[aL q,o];rfl
  .have q:¬a % p=0:=q;rw[j]at q;unfold Uy;rw[aF q,j]
  .rintro d rfl;have D:((ss (i+1)).map (Yh ns p wd)).map PV.ints=((ss i).map (Yh ns p wd)).map PV.ints++[.ints [n / 3 % (2*wd+1)-wd,Uy p n]]:=by rw[fw,bv,bv,g];rfl
   refine(rz,(((((rz,tT,((()):(0:Int)<3),((()):(3:Int).natAbs.log2<9000)),((tT,rz,mX ((()):-(2:Int)^64<2/\(2:Int)<2^64)),tT),(():0<2*wd+1)),rz),rz,tT),tT),?_,k6 (i:Int),k6 n,k6 (Uy p n),?_)
   .show ln (((ss i).map (Yh ns p wd)).map PV.ints)<sizeLine;rw[ac,ac,aC];exact small1000 ()
   .rw[D];rfl
 .rintro d ⟨v,l,m,r⟩;have r:d=[.fr (.scr ns),k6 p,k6 wd,.ow (.lst (((ss (2+ns[1]! % 3).toNat).map (Yh ns p wd)).map PV.ints)),v,l,m]:=r;subst r;rfl
def Ux (p:Int)(g:List Int)(way:Int):Int:=
 if way=1 then(if pH p (2*bnd g)-1 > 1 then pH p (2*bnd g)-1 else 1) else if way=2 then 1+pH p (2*bnd g) % 4 else pH p (2*bnd g)
def YZ:Ok P w K mg base 2 "_law_many" ["_law_g","_law_prime","_law_way"] (rK K (Gk cW cR cP) (λas=>∃g p way,as=[.ints g,.int p,.int way]/\g≠[]/\ln g<=13/\(∀m∈g,m.natAbs<=2^200)/\2<=p/\p<=9973) λs=>(λg p way=>Ux p g way) (lI s 0) (zI s 1) (zI s 2)):=by
 refine pX T.acj IK '!' (λf F A y s H E C=>(_,(jr (jA (i:=3) IK.nd rz k4 jt) (jr (lD aw (XQ (yW (Eo T) C %[xn 1,xn 3|_]) (kO jt (yW (IW T) C %[xl 0|_]))) (jw (jA (i:=3) IK.nd rz k4 (km (xn 3) jt)))) (jr (jX (nJ (xn 2) jt) (jw (jB (Xa rz T.aap jt (lw (xn 3) jt)))) jN) (jr (jX (nJ (xn 2) jt) (jw (jB (km jt (jU (xn 3) jt)))) jN) (jw (jB (xn 3))))))),λas L=>?_))
 obtain⟨g,p,way,rfl,v,J,I,B,O⟩:=L;obtain⟨M,Q⟩:=Rg B J I;have G:∀m,qP p (2*bnd g) m->m=pH p (2*bnd g):=λm h=>(El B h).symm;generalize x:pH p (2*bnd g)=l at *
 refine(tT,λN u=>?_);have u:N=1:=u;subst u;have top:∀m:Int,1<=m->(m=1\/p^(m-1).toNat<=2*bnd g)->m<=l:=λm R j=>by
  rcases j with j|j
  .have:=M.1;lia
  .refine Int.le_of_not_gt λz=>?_;have:=sJ B (a:=l.toNat) (b:=(m-1).toNat) (by have:=M.1;lia);have:=M.2.1;lia
 refine(λo=>∃m:Int,o=[k7 g,k6 p,k6 way,k6 m]/\1<=m/\(m=1\/p^(m-1).toNat<=2*bnd g),λo=>(l-vQ o 3).toNat,(1,rz,ck 1,.inl rz),?_);rintro o ⟨m,rfl,D,n⟩;have S:=top m D n;refine((((rz,rz,tT),p,m,rz,(),O,(),()),tT,((rz,tT),g,rz,(),v),mX ((()):-(2:Int)^64<2/\(2:Int)<2^64)),λq=>?_,λq=>?_)
 .have q:p^m.toNat<=2*bnd g:=q;refine((rz,tT),λk t=>?_);have t:k=m+1:=t;subst t;have j:p^(m+1-1).toNat<=2*bnd g:=by rw[show m+1-1=m by lia];exact q
  have:=top (m+1) () (.inr j);exact((m+1,rz,(),.inr j),(():(l-(m+1)).toNat<(l-m).toNat))
 .have q:¬p^m.toNat<=2*bnd g:=q;have e:=G m (D,(),n);subst e;refine((rz,tT),λr=>((tT,rz,tT),?_),λr=>((rz,tT),λd=>((tT,rz,tT,((()):(0:Int)<4)),?_),λd=>(rz,?_)))
  .have r:way=1:=r;show PV.int (if m-1 > 1 then m-1 else 1)=PV.int (Ux p g way);unfold Ux;rw[aL r,x]
  .have r:¬way=1:=r;have d:way=2:=d;show PV.int (1+m % 4)=PV.int (Ux p g way);unfold Ux;rw[aF r,aL d,x]
  .have r:¬way=1:=r;have d:¬way=2:=d;show PV.int m=PV.int (Ux p g way);unfold Ux;rw[aF r,aF d,x]
def uG (x:Int×Int):PV:=.ints [x.1,x.2]
def Oo (z:Int)(x:Int×Int):List Int:=[x.1*tu x.2 z % z,1]
def KC (L:List (Int×Int))(p z:Int)(al:Bool):List (List Int):=
 if al=true then((L.map (Oo z)).set 0 [(((L.map (Oo z))[0]'[])[0]!+z / p) % z,1]).set 1 [(((L.map (Oo z))[1]'[])[0]!-z / p) % z,1] else L.map (Oo z)
def abg:Ok P w K mg base 2 "_law_ups" ["_law_pieces_here","_law_prime","_law_size","_law_alike"] (uE K (Gk cW cR cP) (λas=>∃(L:List (Int×Int)) (p z:Int) (al:Bool),as=[.lst (L.map uG),.int p,.int z,.bl al]/\2<=ln L/\ln L<=5/\0<p/\p<=9973/\2<=z/\z<((2^200:Nat):Int)/\∀x∈L,x.1.natAbs<2^200/\Int.gcd x.2 z=1) λas=>match as with|[.lst ps,.int p,.int z,.bl al]=>.lst ((KC (ps.map λq=>(JW q,Jj q)) p z al).map PV.ints)|_=>.non):=by
 refine pX T.adu Jk '!' (λf S A u s H E hr=>(_,(jr (ZR (i:=4) Jk.nd rz k4) (jr (Tj (k:=5) (j:=6) aw rz (kJ (xv 0)) (Xl rz (pgs_cons (pg_name (i:=5) Jk.nd rz k4) (pgs_cons (pg_name (i:=6) Jk.nd rz k4) pgs_nil))) (jw (S8 4 (j8 %[jU (kO (xn 5) (yW (w5 T) hr %[xn 6,xn 2|_])) (xn 2),jt|_])))) (lU (jX (G8 (xb 3)) (jr (HR 4 jt (λ_ _=>rz) jt (jU (km (Rk 4 jt (λ_ _=>rz) jt (λ_ _=>rz)) (nA (xn 2) (xn 1))) (xn 2))) (jw (HR 4 jt (λ_ _=>rz) jt (jU (lw (Rk 4 jt (λ_ _=>rz) jt (λ_ _=>rz)) (nA (xn 2) (xn 1))) (xn 2))))) jN) (Lz 4 (jw (jB (xv 4))))))),λas hp=>?_))
 obtain⟨L,p,z,al,rfl,l2,l5,p0,p9,y,zb,he⟩:=hp;have Z:(L.map uG).map (λq=>(JW q,Jj q))=L:=by rw[bj];exact(aO λ_ _=>rz).trans (cC L)
 have ul:ln (L.map (Oo z))=ln L:=ac _;refine(rz,?_);refine jD (ρ':=[.fr (.lst (L.map uG)),k6 p,k6 z,.fr (.bl al),.o2 [],.un,.un]) rz ?_;refine(((rz,rz),λn e=>?_),λi o=>i<=ln L/\∃v l,o=[.fr (.lst (L.map uG)),k6 p,k6 z,.fr (.bl al),.o2 ((L.take i).map (Oo z)),v,l],(bp _,.un,.un,rz),?_,?_)
 .have e:n∈L.map uG:=e;obtain⟨x,_,rfl⟩:=aB.mp e;rfl
 .rintro i n o e ⟨_,v,l,rfl⟩;have e:(L.map uG)[i]?=so n:=e;rw[ag]at e;obtain⟨x,t,rfl⟩:=dm.mp e;have il:=(ah.mp t).1;obtain⟨xb,R⟩:=he x (aP t);obtain⟨t0,t1,_⟩:=sW y (xZ y R);have z9:z.natAbs<2^9000:=by have:=BW (n:=z.natAbs) (by generalize (2:Nat)^200=N at *;lia);exact this
  refine(rz,((((rz,((rz,rz,tT),x.2,z,rz,y,z9,R),?_),rz,(():0<z)),tT,tT),tT),?_,il,k6 x.1,k6 x.2,?_)
  .show IntMulOk x.1 (tu x.2 z);refine nR (n:=200) (m:=200) xb ?_;generalize (2:Nat)^200=N at *
   lia
  .show ln ((L.take i).map (Oo z))<sizeLine;rw[ac,cu];exact small1000 ()
  .have tk:(L.take (i+1)).map (Oo z)=(L.take i).map (Oo z)++[[x.1*tu x.2 z % z,1]]:=by rw[pY t,bv];rfl
   rw[tk];rfl
 rintro o ⟨_,v,l,r⟩;have r:o=[.fr (.lst (L.map uG)),k6 p,k6 z,.fr (.bl al),.o2 ((L.take (ln (L.map uG))).map (Oo z)),v,l]:=r;rw[ac,cw]at r;subst r;generalize F:L.map (Oo z)=U at *
 have g:∀i,i<2->∃a,U[i]'[]=[a,1]:=λi hi=>by rw[<-F,gQ,ag,ae (show i<ln L by lia)];exact(_,rz)
 have D:KC L p z al=if al=true then(U.set 0 [((U[0]'[])[0]!+z / p) % z,1]).set 1 [((U[1]'[])[0]!-z / p) % z,1] else U:=by unfold KC;rw[F]
 refine(λo=>o=[.fr (.lst (L.map uG)),k6 p,k6 z,.fr (.bl al),.o2 (KC L p z al),v,l],(rz,λq=>?_,λq=>?_),?_)
 .have q:al=true:=q;have dv:0<p/\p.natAbs.log2<9000:=(p0,Jx (BW (n:=p.natAbs) (aj (show p.natAbs<=2^14 by lia) (aW (()) (())))) (()));have x0:∀n:Nat,j6 n (0:Int)=0:=λn=>rfl;have x1:∀n:Nat,j6 n (1:Int)=1:=λn=>rfl;obtain⟨a0,I⟩:=g 0 (());obtain⟨a1,J⟩:=g 1 (());have B:-(ln (U[0]'[]):Int)<=0/\(0:Int)<(ln (U[0]'[]):Int):=by rw[I];exact(((()):-(2:Int)<=0),((()):(0:Int)<2))
  have M:-(ln U:Int)<=0/\(0:Int)<(ln U:Int):=()
  refine((((rz,tT,M,tT,B),rz,rz,dv),rz,(():0<z)),rz,tT,M,tT,B,?_);have Y:U.set 0 ((U[0]'[]).set 0 (((U[0]'[])[0]!+z / p) % z))=U.set 0 [((U[0]'[])[0]!+z / p) % z,1]:=by rw[I];rfl
  generalize G:U.set 0 [((U[0]'[])[0]!+z / p) % z,1]=V at *
  refine jD (ρ':=[.fr (.lst (L.map uG)),k6 p,k6 z,.fr (.bl al),.o2 V,v,l]) ?_ ?_
  .show[Sl.fr (.lst (L.map uG)),k6 p,k6 z,.fr (.bl al),.o2 (U.set 0 ((U[0]'[]).set 0 (((U[0]'[])[0]!+z / p) % z))),v,l]=_;rw[Y]
  have vl:ln V=ln U:=by rw[<-G,bn]
  have Q:V[1]'[]=U[1]'[]:=by rw[<-G,gQ,cN (()),<-gQ]
  have C:-(ln (V[1]'[]):Int)<=0/\(0:Int)<(ln (V[1]'[]):Int):=by rw[Q,J];exact(((()):-(2:Int)<=0),((()):(0:Int)<2))
  have O:-(ln V:Int)<=1/\(1:Int)<(ln V:Int):=()
  refine((((rz,tT,O,tT,C),rz,rz,dv),rz,(():0<z)),rz,tT,O,tT,C,?_);show[Sl.fr (.lst (L.map uG)),k6 p,k6 z,.fr (.bl al),.o2 (V.set 1 ((V[1]'[]).set 0 (((V[1]'[])[0]!-z / p) % z))),v,l]=_;rw[D,aL q,Q,J];rfl
 .have q:¬al=true:=q;rw[D,aF q]
 .rintro o rfl;refine(rz,?_);show PV.lst ((KC L p z al).map PV.ints)=PV.lst ((KC ((L.map uG).map λq=>(JW q,Jj q)) p z al).map PV.ints);rw[Z]
def Wi (us:List (List Int))(z st:Int):List (List Int):=(us.set 0 ((us[0]'[]).map λn=>n*(1+st) % z)).set 1 ((us[1]'[]).map λn=>n*(1-st) % z)
def aaW:Ok P w K mg base 1 "_law_led" ["_law_ups_here","_law_size","_law_step"] (uE K (Gk cW cR cP) (λas=>∃(us:List (List Int)) (z st:Int),as=[.lst (us.map PV.ints),.int z,.int st]/\2<=ln us/\ln us<=5/\(∀u∈us,ln u<=8/\Be z u)/\0<z/\z<((2^200:Nat):Int)/\0<=st/\st<z) λs=>(λus z st=>PV.lst ((Wi (us.map mQ) z st).map PV.ints)) (None s 0) (zI s 1) (zI s 2)):=by
 refine pX T.adZ Vz '!' (λf F A p s H E hr=>(_,(jr (Va (i:=3) Vz.nd rz rz (N':=["_law_up"]) (cap:=[]) (kW rz rz rz rz tT tT rz) rz (kJ (xv 0)) (λ_ _ _=>(lO 0)) (λ_ _ _=>(jJ (Jt T.O8 (xl 0) (λ_=>.inl rz)))) rz) (jr (yt 3 jt (jJ (pQ (N':=["_law_number","_law_size","_law_step"]) (cap:=[so 1,so 2]) (kW rz rz rz rz ((rz,.inr (.inl rz),sS,.inl rz,_,rz,rz),((rz,.inr (.inl rz),sS,.inl rz,_,rz,rz),tT)) (rz,(rz,tT)) rz) rz (xl_of (yM 3 jt (λ_ _=>rz))) (λ_ _ _=>(lO 0)) (λ_ _ _=>(jU (kO (xn 0) (km jt (xn 2))) (xn 1)))))) (jr (yt 3 jt (jJ (pQ (N':=["_law_number","_law_size","_law_step"]) (cap:=[so 1,so 2]) (kW rz rz rz rz ((rz,.inr (.inl rz),sS,.inl rz,_,rz,rz),((rz,.inr (.inl rz),sS,.inl rz,_,rz,rz),tT)) (rz,(rz,tT)) rz) rz (xl_of (yM 3 jt (λ_ _=>rz))) (λ_ _ _=>(lO 0)) (λ_ _ _=>(jU (kO (xn 0) (lw jt (xn 2))) (xn 1)))))) (j7 3 (jw (jB (xv 3))))))),λas I=>?_))
 obtain⟨us,z,st,rfl,l2,l5,Q,D,z2,s0,s1⟩:=I;have ml:ln (us.map PV.ints)=ln us:=ac _;refine(((rz,rz),(():ln (us.map PV.ints)<=1000),λq g=>?_),λO e=>?_)
 .have g:q∈us.map PV.ints:=g;obtain⟨x,_,rfl⟩:=aB.mp g;exact rfl
 replace e:O=us.map PV.ints:=e.trans ((aO λq g=>by
  have g:q∈us.map PV.ints:=g;obtain⟨x,_,rfl⟩:=aB.mp g;rfl).trans (cC _))
 subst e;refine jD (ρ':=[.fr (.lst (us.map PV.ints)),k6 z,k6 st,.ow (.lst (us.map PV.ints))]) rz ?_;have step:∀(V:List (List Int)) (i:Nat) (t:Int),i<ln V->(∀m∈V[i]'[],0<=m/\m<z)->ln (V[i]'[])<=8->t.natAbs<=2^201 ->
   (-(ln (V.map PV.ints):Int)<=(i:Int)/\(i:Int)<(ln (V.map PV.ints):Int))/\(V.map PV.ints).getD (j6 (ln (V.map PV.ints)) (i:Int)) .non=.ints (V[i]'[])/\∀m∈V[i]'[],IntMulOk m t:=λV i t l G Z J=>by
  rw[ac,rZ];refine((),?_,λm h=>nR (n:=201) (m:=202) ?_ (aK J (aI (()) (()))))
  .rw[gQ,ag,ae l,gQ,ae l];rfl
  .have:=G m h;have r:(2:Nat)^200<=2^201:=aW (()) (());generalize (2:Nat)^200=N at *
   generalize (2:Nat)^201=U at *
   lia
 have y:(1+st).natAbs<=2^201/\(1-st).natAbs<=2^201:=by
  have r:(2:Nat)^201=2^200+2^200:=by rw[show(201:Nat)=200+1 from rz,jm,Nat.mul_two]
  rw[r];have Y:1<=(2:Nat)^200:=fB;generalize (2:Nat)^200=N at *
  lia
 have row:∀i,i<ln us->(∀m∈us[i]'[],0<=m/\m<z)/\ln (us[i]'[])<=8:=λi l=>by rw[gQ,ae l];have:=Q _ (bR l);exact(this.2,this.1)
 obtain⟨B,j,L⟩:=step us 0 (1+st) () (row 0 ()).1 (row 0 ()).2 y.1;have j:(us.map PV.ints).getD (j6 (ln (us.map PV.ints)) 0) .non=.ints (us[0]'[]):=j;have R:j6 (ln (us.map PV.ints)) (0:Int)=0:=rfl;refine((((rz,tT,B),?_),?_,λn d=>?_),rz,tT,B,?_)
 .show(us.map PV.ints).getD (j6 (ln (us.map PV.ints)) 0) .non=.ints (mQ ((us.map PV.ints).getD (j6 (ln (us.map PV.ints)) 0) .non));rw[j];rfl
 .show(mQ ((us.map PV.ints).getD (j6 (ln (us.map PV.ints)) 0) .non)).length<=1000;rw[j];have:=(row 0 ()).2;show ln (us[0]'[])<=1000;lia
 .have d:n∈mQ ((us.map PV.ints).getD (j6 (ln (us.map PV.ints)) 0) .non):=d;rw[j]at d;exact((rz,(tT,rz),L n d),rz,D)
 generalize o:us.set 0 ((us[0]'[]).map λn=>n*(1+st) % z)=V;have vl:ln V=ln us:=by rw[<-o,bn]
 have v:V[1]'[]=us[1]'[]:=by rw[<-o,gQ,cN (()),<-gQ]
 refine jD (ρ':=[.fr (.lst (us.map PV.ints)),k6 z,k6 st,.ow (.lst (V.map PV.ints))]) ?_ ?_
 .show[Sl.fr (.lst (us.map PV.ints)),k6 z,k6 st,.ow (.lst ((us.map PV.ints).set (j6 (ln (us.map PV.ints)) 0) (.ints ((mQ ((us.map PV.ints).getD (j6 (ln (us.map PV.ints)) 0) .non)).map λn=>n*(1+st) % z))))]=_;rw[j,R,<-o,gG];rfl
 obtain⟨C,k,M⟩:=step V 1 (1-st) () (by rw[v];exact(row 1 ()).1) (by rw[v];exact(row 1 ()).2) y.2;have k:(V.map PV.ints).getD (j6 (ln (V.map PV.ints)) 1) .non=.ints (V[1]'[]):=k;have S:j6 (ln (V.map PV.ints)) (1:Int)=1:=rfl;refine((((rz,tT,C),?_),?_,λn d=>?_),rz,tT,C,?_)
 .show(V.map PV.ints).getD (j6 (ln (V.map PV.ints)) 1) .non=.ints (mQ ((V.map PV.ints).getD (j6 (ln (V.map PV.ints)) 1) .non));rw[k];rfl
 .show(mQ ((V.map PV.ints).getD (j6 (ln (V.map PV.ints)) 1) .non)).length<=1000;rw[k,v];have:=(row 1 ()).2;show ln (us[1]'[])<=1000;lia
 .have d:n∈mQ ((V.map PV.ints).getD (j6 (ln (V.map PV.ints)) 1) .non):=d;rw[k]at d;exact((rz,(tT,rz),M n d),rz,D)
 refine(rz,?_);show PV.lst ((V.map PV.ints).set (j6 (ln (V.map PV.ints)) 1) (.ints ((mQ ((V.map PV.ints).getD (j6 (ln (V.map PV.ints)) 1) .non)).map λn=>n*(1-st) % z)))=PV.lst ((Wi ((us.map PV.ints).map mQ) z st).map PV.ints);rw[k,S,mV,v];unfold Wi;rw[o,gG];rfl
def Tw (ns:List Int)(n:Nat):List Int:=(ss n).map λ(k:Nat)=>ns[8+k]! % 10^18 % 31
def dpV (ns g:List Int):PV:=.tup [.ints (qj (Tw ns (ln g*ln g)) none (so (ln g:Int))),.ints (qj (Tw ns (ln g*ln g)) (so (ln g:Int)) (so (2*(ln g:Int)))),.lst (((ss (ln g-1)).map λ(k:Nat)=>qj (Tw ns (ln g*ln g)) (so ((ln g:Int)*(k:Int))) (so ((ln g:Int)*(k:Int)+(ln g:Int)-2))).map PV.ints)]
def Do:Ok P w K mg base 2 "_law_drawn_paper" ["_law_script","_law_g"] (uE K (Gk cW cR cP) (λas=>∃ns g,as=[.scr ns,.ints g]/\1<=ln g/\ln g<=8) λas=>match as with|[.scr ns,.ints g]=>dpV ns g|_=>.non):=by
 refine pX T.GQ pI '!' (λf u A o s H E y=>(_,(jr (Wd (i:=2) pI.nd rz rz (N':=["_law_k","_law_script"]) (cap:=[so 0]) (kW rz rz rz rz ((rz,.inr (.inl rz),sS,.inl rz,_,rz,rz),tT) (rz,tT) rz) rz (by rfl) T.lM (kO (jO 1 T.jM) (jO 1 T.jM)) (λ_ _ _=>(lO 0)) (λ_ _ _=>(jU (jU (yW (uI T) y %[xr 1,km jt (xn 0)|_]) (yc jt jt)) jt)) rz) (jr (oW (i:=3) pI.nd rz k4 (oN ju)) (jr (oh (k:=4) aw rz (by rfl) T.lM (lw (jO 1 T.jM) jt) pI.nd rz k4 (jw (sy 3 (jJ (p7 (xl 2) (lK (kO (jO 1 T.jM) (xn 4))) (lK (lw (km (kO (jO 1 T.jM) (xn 4)) (jO 1 T.jM)) jt)) (λ_ _=>.inl rz)))))) (j7 3 (jw (jB (nj %[jJ (p7 (xl 2) mW (lK (jO 1 T.jM)) (λ_ _=>.inl rz)),jJ (p7 (xl 2) (lK (jO 1 T.jM)) (lK (kO jt (jO 1 T.jM))) (λ_ _=>.inl rz)),xv 3|_]))))))),λas x=>?_))
 obtain⟨ns,g,rfl,B,m⟩:=x;have gg:ln g*ln g<=64:=gV m m;refine(((.inl rz,.inl rz,mX ((():-(2:Int)^64<(ln g:Int)),(():(ln g:Int)<2^64))),(?_,?_),λk C=>((((rz,(tT,rz),tT),tT,rz,(():(0:Int)<=8+(k:Int))),by walk_at "x",((()):(0:Int)<10^18)),tT,((()):(0:Int)<31))),λc e=>?_)
 .show(0:Int)<=(ln g:Int)*(ln g:Int);exact eO () ()
 .show(ln g:Int)*(ln g:Int)<=1000;rw[<-Int.natCast_mul];lia
 replace e:c=Tw ns (ln g*ln g):=by have e:c=(ss ((ln g:Int)*(ln g:Int)).toNat).map λ(k:Nat)=>ns.getD (8+(k:Int)).toNat 0 % 10^18 % 31:=e;rw[e,<-Int.natCast_mul,ce];unfold Tw;exact aO λk _=>by rw[show(8+(k:Int)).toNat=8+k by lia]
 subst e;generalize p:Tw ns (ln g*ln g)=c;refine jD (ρ':=[.fr (.scr ns),k7 g,k7 c,.un,.un]) (by rw[<-p];rfl) ?_;refine(tT,λz d=>?_);replace d:z=[]:=d;subst d;generalize n:(λ(k:Nat)=>qj c (so ((ln g:Int)*(k:Int))) (so ((ln g:Int)*(k:Int)+(ln g:Int)-2)))=R;refine((.inl rz,tT),((():-(2:Int)^62<=(ln g:Int)-1),(():(ln g:Int)-1<2^62)),λi l=>∃v,l=[.fr (.scr ns),k7 g,k7 c,.ow (.lst (((ss i).map R).map PV.ints)),v],(.un,rz),?_,?_)
 .rintro i l r ⟨v,rfl⟩;have r:i<((ln g:Int)-1).toNat:=r;have t:IntMulOk (ln g:Int) (i:Int):=mX ((),());refine(rz,(rz,((.inl rz,rz,t),((.inl rz,rz,t),.inl rz),tT)),?_,k6 (i:Int),?_)
  .show ln (((ss i).map R).map PV.ints)<sizeLine;rw[ac,ac,aC];exact small1000 ()
  .rw[fw,bv,bv,<-n];rfl
 .rintro l ⟨v,j⟩;have j:l=[.fr (.scr ns),k7 g,k7 c,.ow (.lst (((ss ((ln g:Int)-1).toNat).map R).map PV.ints)),v]:=j;rw[show((ln g:Int)-1).toNat=ln g-1 by lia]at j;subst j;refine(((rz,tT,.inl rz),(rz,.inl rz,tT,.inl rz,mX ((()):-(2:Int)^64<2/\(2:Int)<2^64)),rz,tT),?_);show PV.tup [.ints (qj c none (so (ln g:Int))),.ints (qj c (so (ln g:Int)) (so (2*(ln g:Int)))),.lst (((ss (ln g-1)).map R).map PV.ints)]=dpV ns g;unfold dpV;rw[p,<-n]
theorem Tn:PSs X s (ts X.K G e λ_ _=>False):=by rintro _ _ _ _ _ _ ⟨_,_,_,_,c,_⟩;exact c.elim
theorem FO1 {p x:Int}(h:mR p):zA cNO p [x,1]=.inl (pl p x):=by have a:=h.1;rw[Xv () (Int.gcd_one_left p),Gf a (()) () (show 1*1 % p=1 from bx (()) ()),cG]
theorem acR {p x:Int}(a:mR p)(h:x.natAbs<2^9000):W3 p [x,1]:=(gP (()),.inr (a.1,by have:=Pg a;generalize (2:Nat)^9000=N at *;lia,h))
theorem h00 {x:PV}:lY (.lst [x]) 0:=(((()):-(1:Int)<=0),((()):(0:Int)<1))
theorem h02 {a b:Int}:lY (.ints [a,b]) 0:=(((()):-(2:Int)<=0),((()):(0:Int)<2))
def ffC (a:Int):PV:=if a=0 then .non else .int 0
def wX:Ok P w K mg base 1 "first_not_nought" ["rows","at","done"] (uE K (Gk cW cR cP) (λas=>∃a,as=[jE [[a,1]],.int 0,.int 0]) λas=>match as with|[.lst [.ints [a,_]],_,_]=>ffC a|_=>.non):=by
 refine pX T.ym qR '!' (λf e A o s H E j=>(_,(jr (wO (k:=3) aw rz (by rfl) T.lM (xn 2) (lL T.jM (xv 0)) qR.nd rz k4 (jw (jX (vV (n6 (jF (xl_of (jF (xv 0) (xn 3) (λ_ _=>rz))) (xn 1) (λ_ _=>rz))) jt) (jw (jB (xn 3))) jN))) (jw (jB abK))),λas g=>?_))
 obtain⟨a,rfl⟩:=g;refine((rz,rz,tT),(((()):-(2:Int)^62<=0),((()):(0:Int)<2^62),((()):-(2:Int)^62<=1),((()):(1:Int)<2^62)),λi c=>∃v,c=[.fr (jE [[a,1]]),k6 0,k6 0,v]/\(i=0\/a=0),(.un,rz,.inl rz),?_,?_)
 .rintro i c d ⟨v,rfl,_⟩;have d:i<1:=d;obtain rfl:i=0:=()
  refine((((((rz,rz,h00),rz),rz,h02),rz),tT),λq=>?_,λq=>?_)
  .have q:¬a=0:=q;refine(rz,?_);show PV.int (0+0)=ffC a;unfold ffC;rw[aF q];rfl
  .have q:¬¬a=0:=q;exact(_,rz,.inr (bH.mp q))
 .rintro c ⟨v,rfl,h⟩;have h:(1:Nat)=0\/a=0:=h;refine(tT,?_);show PV.non=ffC a;unfold ffC;rw[aL (h.elim (λz=>absurd z (())) id)]
def zy:Ok P w K mg base 1 "with_row_moved" ["rows","found","done"] (uE K (Gk cW cR cP) (λas=>as=[jE [[1,1]],.int 0,.int 0]) λ_=>jE [[1,1]]):=by refine pX T.Ak yF (λas h=>by rw[h];rfl) (λf c A o s H E d=>(_,(jw (jB (nZ (Ds (nZ (Ds (nZ (Ds (nZ (pW (kJ (xv 0)) mW (lK (xn 2)))) (nZ (oN %[xl_of (jF (xv 0) (xn 1) (λ_ _=>rz))|_])))) (nZ (pW (kJ (xv 0)) (lK (xn 2)) (lK (xn 1)))))) (nZ (pW (kJ (xv 0)) (lK (km (xn 1) jt)) mW)))))),λas a=>?_));subst a;exact((((((rz,rz),tT,rz),(((rz,rz,h00),rz),tT),a7 (small1000 ((()):0+1<=1000))),((rz,rz),rz,rz),a7 (small1000 ((()):1+0<=1000))),((rz,rz),(rz,tT),tT),a7 (small1000 ((()):1+0<=1000))),rz)
def Du:Ok P w K mg base 2 "row_without" ["kind","row","at","first"] (Ff K (Gk cW cR cP) (λ_=>False) λ_=>[]):=
 GJ T.Gj EY (λa h=>h.elim) (λf c A o s H E e=>(_,Tn,λa d=>d))
def uH:Ok P w K mg base 3 "with_column_cleared" ["kind","rows","at","done"] (uE K (Gk cW cR cP) (λas=>∃p,as=[.ob 0 p,jE [[1,1]],.int 0,.int 0]/\mR p) λ_=>jE [[1,1]]):=by
 refine pX T.vp nu '!' (λf r A o s H E l=>(_,(jr (jA (i:=4) nu.nd rz (Or.inr rz) (n6 (Y4 (CJ 0 (zG T) l %[jt,n6 (jF (xl_of (jF (xv 1) (xn 3) (λ_ _=>rz))) (xn 2) (λ_ _=>rz))|_])))) (jr (jG (i:=5) nu.nd rz (Or.inr rz) (jJ (m6 (zT T) l %[xv 0,jJ (pQ (N':=["number","factor"]) (cap:=[so 4]) (kW rz rz rz rz ((rz,.inr (.inl rz),sS,.inl rz,_,rz,rz),tT) (rz,tT) rz) rz (xl_of (jF (xv 1) (xn 3) (λ_ _=>rz))) (λ_ _ _=>(lO 0)) (λ_ _ _=>(kO (xn 1) (xn 0))))|_]))) (jw (jB (nZ (R5 (N':=["place","row","first","done","kind","at"]) (cap:=[so 5,so 3,so 0,so 2]) (kW rz rz rz rz ((rz,.inr (.inl rz),sS,.inl rz,_,rz,rz),((rz,.inr (.inl rz),sS,.inl rz,_,rz,rz),((rz,.inr (.inl rz),sS,.inl rz,_,rz,rz),((rz,.inr (.inl rz),sS,.inl rz,_,rz,rz),tT)))) (rz,(rz,(rz,(rz,tT)))) rz) rz (by rfl) T.mZ (kJ (xv 1)) (λ_ _ _=>(pg_tup rz (pgs_cons (lO 0) (pgs_cons (lO 1) pgs_nil)))) (λ_ _ _=>(RC (nJ (xn 0) (xn 3)) (xl 2) (jJ (m6 (Du T) l %[xv 4,xl 1,xn 5,xl 2|_])))))))))),λas j=>?_))
 obtain⟨p,rfl,j⟩:=j;have m:=j.1;have k:zA cNO p [1,1]=.inl 1:=by rw[FO1 j,rQ m]
 refine((((rz,(tT,((((rz,rz,h00),rz),rz,h02),rz),tT),tT,acR j (gP (()))),?_),?_),λg e=>?_)
 .show(vq (zA cNO p [1,1])).isV;rw[k];exact tT
 .show(vq (zA cNO p [1,1])).get=.int (Nv (vq (zA cNO p [1,1])).get);rw[k];rfl
 replace e:g=1:=by have e:g=Nv (vq (zA cNO p [1,1])).get:=e;rw[k]at e;exact e
 subst e;refine jD (ρ':=[.fr (.ob 0 p),.fr (jE [[1,1]]),k6 0,k6 0,k6 1,.un]) rz ?_;refine(((rz,(((rz,rz,h00),rz),((()):2<=1000),λn t=>(rz,rz,mX (((()):-(2:Int)^64<1),((()):(1:Int)<2^64)))),tT),p,_,rz,((()):2<=1000)),λa d=>?_)
 replace d:a=[1,1]:=by
  have d:a=[pl p (1*1),pl p (1*1)]:=d
  rw[d,cG,rQ m]
 subst d;refine jD (ρ':=[.fr (.ob 0 p),.fr (jE [[1,1]]),k6 0,k6 0,k6 1,k7 [1,1]]) rz ?_;refine(((rz,rz),((()):1<=1000),λi q c=>?_),rz);have c:[PV.ints [1,1]][i]?=so q:=c
 match i,c with
 |0,c=>cases c;exact((rz,rz),λ_=>rz,λz=>absurd rz z)
 |_+1,c=>cases c
def pG:Ok P w K mg base 4 "cleared_beside_units" ["kind","rows","width"] (uE K (Gk cW cR cP) (λas=>∃p,mR p/\((∃a,as=[.ob 0 p,jE [[a]],.int 1]/\(a=0\/a=1))\/as=[.ob 0 p,jE [],.int 0])) λas=>match as with
  |[_,.lst [.ints [a]],_]=>jE [[a,1]]
  |[_,.lst [],_]=>jE []
  |_=>.non):=by
 refine pX T.uN jW (λas h=>by obtain⟨p,_,⟨a,h,_⟩|h⟩:=h<;>rw[h]<;>rfl) (λf M A G s H E u=>(_,(jr (jQ (i:=3) jW.nd rz k4 (xc (xG T) u %[lL T.jM (xv 1)|_])) (jr (Oz (i:=4) jW.nd rz rz (N':=["row","unit","kind"]) (cap:=[so 0]) (kW rz rz rz rz ((rz,.inr (.inl rz),sS,.inl rz,_,rz,rz),tT) (rz,tT) rz) rz (by rfl) T.HS (kJ (xv 1)) (kJ (xv 3)) (λ_ _ _=>(pg_tup rz (pgs_cons (lO 0) (pgs_cons (lO 1) pgs_nil)))) (λ_ _ _=>(jJ (m6 (zT T) u %[xv 2,jJ (uT (xl 0) (xl 1))|_]))) rz) (jr (jA (i:=5) jW.nd rz k4 jt) (jr (oh (k:=6) aw rz (by rfl) T.lM (xn 2) jW.nd rz k4 (jr (jQ (i:=7) jW.nd rz k4 (xc (wX T) u %[xv 4,xn 6,xn 5|_])) (jw (jX (Z1 (xv 7)) (jr (jQ (i:=4) jW.nd rz k4 (xc (uH T) u %[xv 0,xc (zy T) u %[xv 4,xv 7,xn 5|_],xn 6,xn 5|_])) (jw (tM (i:=5) jW.nd rz k4 jt rP))) jN)))) (jw (jB (xv 4))))))),λas y=>?_))
 obtain⟨p,y,⟨a,rfl,J⟩|rfl⟩:=y
 all_goals have L:=y.1
 rotate_left
 .refine((((rz,tT),tT),0,rz,(())),λI g=>?_);replace g:I=jE []:=g;subst g;refine jD (ρ':=[.fr (.ob 0 p),.fr (jE []),k6 0,.fr (jE []),.un,.un,.un,.un]) rz ?_;refine((((rz,rz),(rz,rz)),((()):0<=1000),λq r j=>nomatch (show Prod.mk q r∈[] from j)),λB e=>?_);replace e:B=[]:=e;subst e;refine(tT,λC d=>?_);replace d:C=0:=d;subst d;refine jD (ρ':=[.fr (.ob 0 p),.fr (jE []),k6 0,.fr (jE []),.fr (jE []),k6 0,.un,.un]) rz ?_;refine(rz,(((()):-(2:Int)^62<=0),((()):(0:Int)<2^62)),λi l=>∃v m o,l=[.fr (.ob 0 p),.fr (jE []),k6 0,.fr (jE []),.fr (jE []),v,m,o],(_,_,_,rz),λi l x _=>absurd (show i<0 from x) (dQ i),?_);rintro l ⟨v,m,o,rfl⟩;exact(rz,rz)
 refine((((rz,tT),tT),1,rz,(())),λI g=>?_);replace g:I=jE [[1]]:=g;subst g;refine jD (ρ':=[.fr (.ob 0 p),.fr (jE [[a]]),k6 1,.fr (jE [[1]]),.un,.un,.un,.un]) rz ?_;refine((((rz,rz),(rz,rz)),((()):1<=1000),λq r j=>?_),λB e=>?_)
 .have j:Prod.mk q r∈[Prod.mk (PV.ints [a]) (PV.ints [1])]:=j;cases af.mp j;exact((rz,(rz,rz,a7 (small1000 ((()):1+1<=1000))),tT),p,[a,1],rz,((()):2<=1000))
 replace e:B=[PV.ints [a,1]]:=by
  have e:B=[PV.ints [pl p a,pl p 1]]:=e;rw[e,rQ L];rcases J with rfl|rfl
  .rw[oA]
  .rw[rQ L]
 subst e;refine(tT,λC d=>?_);replace d:C=0:=d;subst d;refine jD (ρ':=[.fr (.ob 0 p),.fr (jE [[a]]),k6 1,.fr (jE [[1]]),.fr (jE [[a,1]]),k6 0,.un,.un]) rz ?_;refine(rz,(((()):-(2:Int)^62<=1),((()):(1:Int)<2^62)),λi l=>∃v m o,l=[.fr (.ob 0 p),.fr (jE [[a]]),k6 1,.fr (jE [[1]]),.fr (jE [[a,1]]),v,m,o]/\(i=0->v=k6 0),(_,_,_,rz,λ_=>rz),?_,?_)
 .rintro i l x ⟨v,m,o,rfl,N⟩;have x:i<1:=x;obtain rfl:i=0:=()
  obtain rfl:=N rfl;refine(((rz,rz,rz,tT),a,rz),λF c=>?_);replace c:F=ffC a:=c;rcases J with rfl|rfl
  .replace c:F=.non:=c;subst c;refine jD (ρ':=[.fr (.ob 0 p),.fr (jE [[0]]),k6 1,.fr (jE [[1]]),.fr (jE [[0,1]]),k6 0,k6 0,.fr .non]) rz ?_;exact((rz,tT),(λq=>absurd rz q),λ_=>(_,_,_,rz,λ_=>rz))
  .replace c:F=.int 0:=c;subst c;refine jD (ρ':=[.fr (.ob 0 p),.fr (jE [[1]]),k6 1,.fr (jE [[1]]),.fr (jE [[1,1]]),k6 0,k6 0,k6 0]) rz ?_;refine((rz,tT),λ_=>?_,λq=>absurd (show ¬Ol (.int 0)=true from(λz=>nomatch (show false=true from z))) q);refine(((rz,((rz,rz,rz,tT),rz),rz,rz,tT),p,rz,y),λt D=>?_);replace D:t=jE [[1,1]]:=D;subst D;exact(rz,tT,tT,λn O=>(_,_,_,rz,λz=>absurd z (())))
 .rintro l ⟨v,m,o,rfl,_⟩;exact(rz,rz)
def Eg:Ok P w K mg base 5 "echelon" ["kind","rows"] (uE K (Gk cW cR cP) (λas=>∃p,mR p/\(as=[.ob 0 p,jE [[0]]]\/as=[.ob 0 p,jE []])) λas=>match as with|[_,.lst []]=>.tup [jE [],jE [],jE []]|_=>.tup [jE [[0]],jE [[1]],jE [[1]]]):=by
 refine pX T.Uq rN (λas h=>by obtain⟨p,_,h|h⟩:=h<;>rw[h]<;>rfl) (λf n A o s H E m=>(_,(jr (jQ (i:=2) rN.nd rz (Or.inr rz) (RC (ac1 (kJ (xv 1))) (lL T.jM (xl_of (jF (xv 1) jt (λ_ _=>rz)))) jt)) (jr (jQ (i:=3) rN.nd rz k4 (xc (pG T) m %[xv 0,xv 1,xn 2|_])) (jr (rD (i:=4) rN.nd rz rz (N':=["row","width"]) (cap:=[so 2]) (kW rz rz rz rz ((rz,.inr (.inl rz),sS,.inl rz,_,rz,rz),tT) (rz,tT) rz) rz (kJ (xv 3)) (λ_ _ _=>(lO 0)) (λ_ _ _=>(jJ (p7 (xl 0) (lK (xn 1)) mW (λ_ _=>.inl rz)))) rz) (jr (rD (i:=5) rN.nd rz rz (N':=["row","rows"]) (cap:=[so 1]) (kW rz rz rz rz ((rz,.inr (.inl rz),sS,.inl rz,_,rz,rz),tT) (rz,tT) rz) rz (kJ (xc (pG T) m %[xv 0,xv 4,lL T.jM (xv 1)|_])) (λ_ _ _=>(lO 0)) (λ_ _ _=>(jJ (p7 (xl 0) (lK (lL T.jM (xv 1))) mW (λ_ _=>.inl rz)))) rz) (jw (jB (nj %[nZ (Ah (N':=["row","width"]) (cap:=[so 2]) (kW rz rz rz rz ((rz,.inr (.inl rz),sS,.inl rz,_,rz,rz),tT) (rz,tT) rz) rz (kJ (xv 3)) (λ_ _ _=>(lO 0)) (λ_ _ _=>(jJ (p7 (xl 0) mW (lK (xn 1)) (λ_ _=>.inl rz))))),xv 4,xv 5|_]))))))),λas j=>?_))
 obtain⟨p,j,rfl|rfl⟩:=j
 rotate_left
 .refine(((rz,rz),(λq=>absurd rz (show ¬([]:List PV)=[] from q)),λ_=>tT),λwd d=>?_);replace d:wd=.int 0:=by rw[d];exact aF (λz=>z rz)
  subst d;refine jD (ρ':=[.fr (.ob 0 p),.fr (jE []),k6 0,.un,.un,.un]) rz ?_;refine(((rz,rz,rz,tT),p,j,.inr rz),λl g=>?_);replace g:l=jE []:=g;subst g;refine jD (ρ':=[.fr (.ob 0 p),.fr (jE []),k6 0,.fr (jE []),.un,.un]) rz ?_;refine(((rz,rz),((()):0<=1000),λq a=>nomatch (show q∈[] from a)),λtu c=>?_);replace c:tu=[]:=c;subst c;refine jD (ρ':=[.fr (.ob 0 p),.fr (jE []),k6 0,.fr (jE []),.fr (jE []),.un]) rz ?_;refine(((((rz,rz,(rz,tT),tT),p,j,.inr rz),rz),((()):0<=1000),λq a=>nomatch (show q∈[] from a)),λk e=>?_);replace e:k=[]:=e;subst e;refine jD (ρ':=[.fr (.ob 0 p),.fr (jE []),k6 0,.fr (jE []),.fr (jE []),.fr (jE [])]) rz ?_;exact((((rz,rz),((()):0<=1000),λq a=>nomatch (show q∈[] from a)),rz,rz,tT),rz)
 refine(((rz,rz),λq=>(((rz,tT,h00),rz),tT),λ_=>tT),λwd d=>?_);replace d:wd=.int 1:=by rw[d];exact aL (λz=>nomatch (show[PV.ints [0]]=[] from z))
 subst d;refine jD (ρ':=[.fr (.ob 0 p),.fr (jE [[0]]),k6 1,.un,.un,.un]) rz ?_;refine(((rz,rz,rz,tT),p,j,.inl (0,rz,.inl rz)),λl g=>?_);replace g:l=jE [[0,1]]:=g;subst g;refine jD (ρ':=[.fr (.ob 0 p),.fr (jE [[0]]),k6 1,.fr (jE [[0,1]]),.un,.un]) rz ?_;refine(((rz,rz),((()):1<=1000),λq a=>?_),λtu c=>?_)
 .have a:q∈[PV.ints [0,1]]:=a;cases af.mp a;exact(rz,rz,tT)
 replace c:tu=[PV.ints [1]]:=c;subst c;refine jD (ρ':=[.fr (.ob 0 p),.fr (jE [[0]]),k6 1,.fr (jE [[0,1]]),.fr (jE [[1]]),.un]) rz ?_;refine(((((rz,rz,(rz,tT),tT),p,j,.inl (1,rz,.inr rz)),rz),((()):1<=1000),λq a=>?_),λk e=>?_)
 .have a:q∈[PV.ints [1,1]]:=a;cases af.mp a;exact(rz,(rz,tT),tT)
 replace e:k=[PV.ints [1]]:=e;subst e;refine jD (ρ':=[.fr (.ob 0 p),.fr (jE [[0]]),k6 1,.fr (jE [[0,1]]),.fr (jE [[1]]),.fr (jE [[1]])]) rz ?_;refine((((rz,rz),((()):1<=1000),λq a=>?_),rz,rz,tT),rz);have a:q∈[PV.ints [0,1]]:=a;cases af.mp a;exact(rz,tT,rz)
def Ur:Ok P w K mg base 6 "kernel" ["kind","rows"] (uE K (Gk cW cR cP) (λas=>∃p,as=[.ob 0 p,jE [[0]]]/\mR p) λ_=>jE [[1]]):=by
 refine pX T.Wn HQ '!' (λf g A o s H E d=>(_,(jr (jQ (i:=2) HQ.nd rz k4 (xc (Eg T) d %[xv 0,xv 1|_])) (jw (jB (nZ (V9 (N':=["row","turning"]) (cap:=[]) (kW rz rz rz rz tT tT rz) rz (by rfl) T.HS (kJ (jF (xv 2) jt (λ_ _=>rz))) (kJ (jF (xv 2) jt (λ_ _=>rz))) (λ_ _ _=>(pg_tup rz (pgs_cons (lO 0) (pgs_cons (lO 1) pgs_nil)))) (λ_ _ _=>(acz d.units (G4 (xl 0)) (G4 (jJ (rW (j8 %[jt|_]) (jO 0 T.jM) (λ_=>rz)))))) (λ_ _ _=>(xl 1))))))),λas c=>?_))
 obtain⟨p,rfl,c⟩:=c;refine(((rz,rz,tT),p,c,.inl rz),λt e=>?_);replace e:t=.tup [jE [[0]],jE [[1]],jE [[1]]]:=e;subst e;refine jD (ρ':=[.fr (.ob 0 p),.fr (jE [[0]]),.fr (.tup [jE [[0]],jE [[1]],jE [[1]]])]) rz ?_;refine(((((rz,tT,((()):-(3:Int)<=0/\(0:Int)<3)),rz),((rz,tT,((()):-(3:Int)<=1/\(1:Int)<3)),rz)),((()):1<=1000),λq r a=>?_),rz);have a:Prod.mk q r∈[Prod.mk (PV.ints [0]) (PV.ints [1])]:=a;cases af.mp a;exact((rz,(((tT,tT),tT),.inl rz,((()):-(2:Int)^63<=1),((()):((1:Int)).toNat<=1000))),λ_=>rz)
structure Ln (p c:Int):Prop where
 pr:mR p
 red:pl p c=c
theorem Dc (c:Int):j9 [c,1]:=λ_=>by show(1:Int)≠0;decide
theorem vI:j9 [1]:=λ_=>by show(1:Int)≠0;decide
theorem Ln.rd {p c:Int}(h:Ln p c)(n:Nat):pl p (([c,1]:Li)[n]!)=([c,1]:Li)[n]!:=by
 match n with
 |0=>exact h.red
 |1=>exact rQ h.pr.1
 |n+2=>exact oA p
theorem Jy {p:Int}(h:2<=p)(n:Nat):pl p (([1]:Li)[n]!)=([1]:Li)[n]!:=by
 match n with
 |0=>exact rQ h
 |n+1=>exact oA p
theorem Ln.tz {p c:Int}(h:Ln p c):Tz p [c,1]=[c,1]:=qY (Dc c) h.rd
theorem Dg {p:Int}(h:2<=p):Tz p [1]=[1]:=qY vI (Jy h)
theorem Ln.ok {p c:Int}(h:Ln p c):Nu p [c,1]:=ut h.pr (Dc c) h.rd (by simp) ((()):2<=200)
theorem CG {p:Int}(h:mR p):Nu p [1]:=ut h vI (Jy h.1) (by simp) ((()):1<=200)
theorem Ln.gg {p c:Int}(h:Ln p c):Gg p [c,1]:=(h.pr,h.ok,h.tz,((()):2<=2),((()):2<=40))
theorem Ln.sl {p c:Int}(h:Ln p c):zm p [c,1]=[1]:=by show jy [pl p 1]=[1];rw[rQ h.pr.1];rfl
theorem acO {p:Int}(a:mR p)(f:Li):gc p f [1]=[1]:=by
 have h:ln ([1]:List Int)<=200:=(())
 exact(Vn a.1 (U5 a h)).mpr (Lc.right p f [1])
theorem ade {p:Int}(d:mR p){f:Li}(i:j9 f)(j:∀n,pl p f[n]! =f[n]!):ud p (Tz p f) (Tz p [1])=.tup [.ints f,.ints []]:=by
 have ok:=CG d;have e:=ok.nz;have g:=ok.gcd;rw[Dg d.1]at e g;rw[Dg d.1,qY i j];have:dvT p f [1]=so (f,[]):=Yt (()) (λa c k l=>hov d.1 g a c k l) e (λa _ _ _ h=>nomatch h) i j i j (λz=>absurd rz z) (λn=>oA p) (()) (λn=>by
  rw[t7];show p ∣ f[n]!+0-f[n]!;rw[bJ,cQ];exact bK p) (dA _)
 unfold ud;rw[this]
theorem Ln.q {p c:Int}(h:Ln p c):pM p (qT p [c,1])=[[0]]:=by
 have nz:=h.ok.nz;rw[h.tz]at nz;have e:rm p [c,1] [1]=[1]:=Hq nz (vI,Jy h.pr.1,((()):1<2)) (mJ.refl p _ _);have:qT p [c,1]=[[1]]:=by show[wd 1 (rm p [c,1] [1])]=[[1]];rw[e];rfl
 rw[this];show[[pl p (1-1)]]=[[0]];rw[show(1:Int)-1=0 from rz,oA]
theorem vH {x y:Int}(h:y≠0):jy [x,y]=[x,y]:=sG λz=>h z.2
theorem Df {p a b:Int}(h:mR p)(f:pl p a≠0):∃c,Ln p c/\zE p (Tz p [b,a])=[c,1]:=by
 have i:=h.1;have d:Tz p [b,a]=[pl p b,pl p a]:=vH f;have g:Int.gcd (pl p a) p=1:=wA h (b:=[pl p b,pl p a]) (λ_=>f) (λn=>by rw[<-d];exact o6 p _ n) (by simp);obtain⟨_,_,t⟩:=sW i (xZ i g);refine(pl p (pl p (1*tu (pl p a) p)*pl p b),(h,uf _ _),?_);rw[d];unfold zE CW;rw[aF (by simp)];show jy [pl p (pl p (1*tu (pl p a) p)*pl p b),pl p (pl p (1*tu (pl p a) p)*pl p a)]=_;have e:pl p (pl p (1*tu (pl p a) p)*pl p a)=1:=by rw[bw,yp,nU (),t]
 rw[e];exact vH (())
theorem Ln.sh {p c:Int}(h:Ln p c):shF p [c,1] [1]=([1],[],[1]):=by
 have a:=h.pr.1;have S:=SI.start h.pr (f:=[c,1]) (g:=[1]) (N:=3) ((()):3<=3) ((()):2<=3);rw[Dg a,h.tz]at S;obtain⟨_,l,_⟩:=S.step h.pr (by simp) (());have l:ln (rlF p ([c,1],[1],[]) (VN p [c,1] [1]) ([1],[],[1])).1<1:=l;have e:Vo p [c,1] [1]=([1],[],[1]):=by unfold Vo;rw[Dg a,h.tz];show Z6 p 2 _ _=_;unfold Z6;rw[aF (by simp)];unfold Z6;rw[aL (List.eq_nil_of_length_eq_zero (Nat.lt_one_iff.mp l))]
 have t:CW p [1]=1:=by unfold CW;rw[aF (by simp)];show pl p (1*tu 1 p)=1;rw[Gf a (()) () (show 1*1 % p=1 from bx (()) ())];exact rQ a
 unfold shF;rw[e];show Prod.mk (Zz (CW p [1]) p [1]) (Prod.mk (Zz (CW p [1]) p []) (Zz (CW p [1]) p [1]))=_;rw[t];show Prod.mk (Tz p [1]) (Prod.mk ([]) (Tz p [1]))=_;rw[Dg a]
theorem acw {p:Int}(h:2<=p):sV ([1]:Li) none none (so p)=[1]:=by
 have k:p > 0:=()
 have e:sliceBounds none none (so p) 1=(0,1,p):=by show Prod.mk (if p > 0 then(0:Int) else(1:Nat)-1) (Prod.mk (if p > 0 then((1:Nat):Int) else -1) p)=_;rw[aL k,aL k];rfl
 unfold sV;show(sliceRange (sliceBounds none none (so p) 1).1 (sliceBounds none none (so p) 1).2.1 (sliceBounds none none (so p) 1).2.2).filterMap (λj=>([1]:List Int)[j]?)=_;rw[e];have a:sliceRange 0 1 p=[0]:=by show(ss (if p > 0 then(if (0:Int)<1 then(1-0+p-1) / p else 0) else(if (0:Int) > 1 then(0-1-p-1) / (-p) else 0)).toNat).map (λ(j:Nat)=>((0:Int)+p*(j:Int)).toNat)=_;rw[aL k,aL (()),show(1:Int)-0+p-1=p by lia,Int.ediv_self ()];show[((0:Int)+p*0).toNat]=[0];rw[aX];rfl
 show(sliceRange 0 1 p).filterMap _=_;rw[a];rfl
theorem i0 {a b:PV}:lY (.tup [a,b]) 0:=(((()):(-2:Int)<=0),((()):(0:Int)<2))
theorem i1 {a b:PV}:lY (.tup [a,b]) 1:=(((()):(-2:Int)<=1),((()):(1:Int)<2))
theorem i3 {a b c:PV}{n:Int}(h:0<=n)(k:n<3):lY (.tup [a,b,c]) n:=((():(-3:Int)<=n),k)
section
variable {X:Cx}{G:Gx}{E:ER}{S e t:Expr}{N':List Str}{sc:Scope}{cl:List (Str×Addr)}{cap:List (Option Nat)}{C c:En->Prop}{g:En->Int}{d:En->PV}{i:Nat}{x:Str}{f a A:Pos}
theorem V6 (u:X.N.Nodup)(o:X.N[i]?=so x)(I:X.env.scope.names.lookup x=so .local)(L:sU X N' sc cl (none::cap))(v:X.calm=true)(n:Gl X "range")(D:X.mg "range"=none)(B:PE X S (lF X.K G C g))(z:∀s H fp,PG (jP X N' sc cl s H fp) t (gName 0))(y:∀s H fp,PE (jP X N' sc cl s H fp) e (tX X.K G c d))
  (r:swapsWith (.ListComp e [(t,.Call (.Name "range" p) [S] [] j,[],0)] sc A) (so (.Name x f)) a.line X.env=pure true) (m:starEach [S] X.env=[(false,eval S X.env)]:=by rfl) (F:∀x,foldedSetIterable (.Call (.Name "range" p) [S] [] j) X.env x=pure x:=by intro _;rfl) :
  PS X (.Assign [.Name x f] (.ListComp e [(t,.Call (.Name "range" p) [S] [] j,[],0)] sc A) a) (ts X.K G E λP l=>(C l/\(0<=g l/\g l<=1000)/\∀k:Nat,k<(g l).toNat->c ((jT (none::cap) l).set 0 (k6 k)))/\∀ns,ns=((ss (g l).toNat).map λ(k:Nat)=>d ((jT (none::cap) l).set 0 (k6 k)))->P.nx (l.set i (.ow (.lst ns)))):=
 QV (Bk u o I L v (pi_range1 n D (pa_cons B pa_nil m) m) z (λ_ _ _=>m7) y r F) λJ H Q h=>ZM h
end
def Fv:Ok P w K mg base 6 "turned_back" ["kind","rows"] (uE K (Gk cW cR cP) (λas=>∃p,as=[.ob 0 p,jE []]/\mR p) λ_=>jE [[]]):=by
 refine pX T.G5 oH '!' (λf g A o s H E r=>(_,(jr (jQ (i:=2) oH.nd rz k4 (xc (Eg T) r %[xv 0,xv 1|_])) (jr (V6 (i:=3) oH.nd rz rz (N':=["at","rows"]) (cap:=[so 1]) (kW rz rz rz rz ((rz,.inr (.inl rz),sS,.inl rz,_,rz,rz),tT) (rz,tT) rz) rz (by rfl) T.lM (km (lL T.jM (xv 1)) jt) (λ_ _ _=>(lO 0)) (λ_ _ _=>(jJ (rW (j8 %[jt|_]) (lL T.jM (xv 1)) (λ_=>rz)))) rz) (jr (HH (k:=4) (j:=5) aw rz (by rfl) T.HS (kJ (jF (xv 2) jt (λ_ _=>rz))) (kJ (jF (xv 2) jt (λ_ _=>rz))) (pg_tup rz (pgs_cons (pg_name (i:=4) oH.nd rz k4) (pgs_cons (pg_name (i:=5) oH.nd rz k4) pgs_nil))) (jr (jX (ZV jt (xl 4)) (jw lA) jN) (jw lA))) (j7 3 (jw (jB (xv 3))))))),λas c=>?_))
 obtain⟨p,rfl,c⟩:=c;refine(((rz,rz,tT),p,c,.inr rz),λu a=>?_);replace a:u=.tup [jE [],jE [],jE []]:=a;subst a;refine jD (ρ':=[.fr (.ob 0 p),.fr (jE []),.fr (.tup [jE [],jE [],jE []]),.un,.un,.un]) rz ?_;refine((((rz,tT),tT),(((()):(0:Int)<=0+1),((()):(0:Int)+1<=1000)),λk v=>(((tT,tT),tT),(rz,tT),((()):-(2:Int)^63<=0),((()):(0:Int).toNat<=1000))),λt e=>?_);replace e:t=[.ints []]:=e;subst e;refine jD (ρ':=[.fr (.ob 0 p),.fr (jE []),.fr (.tup [jE [],jE [],jE []]),.ow (.lst [.ints []]),.un,.un]) rz ?_;refine((((rz,tT,i3 (()) (())),rz),((rz,tT,i3 (()) (())),rz)),λi d=>d=[.fr (.ob 0 p),.fr (jE []),.fr (.tup [jE [],jE [],jE []]),.ow (.lst [.ints []]),.un,.un],rz,?_,?_)
 .intro i n m d l;cases (List.getElem?_nil (i:=i)).symm.trans (show([]:List PV)[i]?=so n from l)
 .rintro d rfl;exact(rz,rz)
def Vm:Ok P w K mg base 9 "paper" ["kind","g"] (uE K (Gk cW cR cP) (λas=>∃p c,as=[.ob 0 p,.ints [c,1]]/\Ln p c) λ_=>.tup [.ints [],.ints [1],jE [[]]]):=by
 refine pX T.Yx Mh '!' (λf g A o s H E d=>(_,(jr (jQ (i:=2) Mh.nd rz k4 (xc (Ut T) d %[xv 0,xl 1,jJ (m6 (yP T) d %[xv 0,xl 1|_])|_])) (jr (jX (Pb d.units (G4 (xl_of (jF (xv 2) jt (λ_ _=>rz)))) (G4 (jJ (j8 %[jt|_])))) (jw lA) jN) (jw (jB (nj %[xl_of (jF (xv 2) jt (λ_ _=>rz)),xl_of (jF (xv 2) jt (λ_ _=>rz)),xc (Fv T) d %[xv 0,nZ (pW (kJ (xc (oF T) d %[xv 0,xl 1|_])) (lK jt) mW)|_]|_]))))),λas j=>?_))
 obtain⟨p,c,rfl,l⟩:=j;refine(((rz,rz,((rz,rz,tT),p,[c,1],rz,((()):2<=1000)),tT),p,[c,1],zm p [c,1],rz,l.pr,((()):2<=150),by rw[l.sl];decide),λsh a=>?_);replace a:sh=.tup [.ints [1],.ints [],.ints [1]]:=by have a:sh=Gp (shF p [c,1] (zm p [c,1])):=a;rw[a,l.sl,l.sh];rfl
 subst a;refine jD (ρ':=[.fr (.ob 0 p),k7 [c,1],.fr (.tup [.ints [1],.ints [],.ints [1]])]) rz ?_;refine((((rz,tT,i3 (()) (())),rz),((tT,tT),tT)),(λq=>absurd rz (show ¬([1]:List Int)=[1] from q)),λ_=>?_);have e:((pM p (qT p [c,1])).map PV.ints).drop 1=[]:=by rw[l.q];rfl
 refine((((rz,tT,i3 (()) (())),rz),((rz,tT,i3 (()) (())),rz),((rz,((((rz,rz,tT),p,[c,1],rz,l.gg),rz),tT,tT),tT),p,?_,l.pr),tT),rz);show[PV.ob 0 p,.lst _]=[.ob 0 p,.lst []];rw[<-e];rfl
def zF:Ok P w K mg base 1 "order_key" ["g"] (uE K (Gk cW cR cP) (λas=>∃g,as=[.ints g]) λs=>(λg=>PV.tup [.int (ln g:Int),.ints g]) (lI s 0)):=by
 refine pX T.K4 Ko '!' (λf c A o s H E e=>(_,(jw (jB (nj %[jO 0 T.jM,xl 0|_]))),λas d=>?_));obtain⟨g,rfl⟩:=d;exact((.inl rz,rz,tT),rz)
def Xu:Ok P w K mg base 9 "split" ["kind","g"] (uE K (Gk cW cR cP) (λas=>∃p c,as=[.ob 0 p,.ints [c,1]]/\Ln p c) λs=>(λg=>jE [g]) (lI s 1)):=by
 refine pX T.Z2 zp '!' (λf r A o s H E j=>(_,(jr (jQ (i:=2) zp.nd rz k4 (nZ (oN %[jJ (m6 (jL T) j %[xv 0,xl 1|_])|_]))) (jr (jQ (i:=3) zp.nd rz k4 (xc (Ur T) j %[xv 0,xc (oF T) j %[xv 0,xl 1|_]|_])) (jr (vD (k:=4) aw rz (kJ (xv 3)) zp.nd rz k4 (jw (jX (FJ (lL T.jM (xv 2)) (lL T.jM (xv 3))) (jw lA) jN))) (jw (jB (nZ (W5 (zF T) j T.yR (xv 2)))))))),λas t=>?_))
 obtain⟨p,c,rfl,l⟩:=t;refine((((rz,rz,tT),p,[c,1],rz,((()):2<=1000)),tT),λn e=>?_);replace e:n=jE [[c,1]]:=by have e:n=jE [Tz p [c,1]]:=e;rw[e,l.tz]
 subst e;refine(((rz,((rz,rz,tT),p,[c,1],rz,l.gg),tT),p,?_,l.pr),λu a=>?_)
 .show[PV.ob 0 p,jE (pM p (qT p [c,1]))]=_;rw[l.q]
 replace a:u=jE [[1]]:=a;subst a;refine jD (ρ':=[.fr (.ob 0 p),k7 [c,1],.fr (jE [[c,1]]),.fr (jE [[1]]),.un]) rz ?_;refine((rz,rz),λi m=>∃v,m=[.fr (.ob 0 p),k7 [c,1],.fr (jE [[c,1]]),.fr (jE [[1]]),v],(.un,rz),?_,?_)
 .rintro i q m d ⟨v,rfl⟩;exact(((rz,tT),(rz,tT)),(λz=>absurd (show(1:Int)<1 from z) (())),λ_=>(_,rz))
 .rintro m ⟨v,rfl⟩;refine((rz,rz,((()):1<2),λq d=>?_),rz);have d:q∈[PV.ints [c,1]]:=d;cases af.mp d;exact(_,rz)
def zQ (f:List Int):PV:=.tup [.ints f,.int 1]
def zX:Ok P w K mg base 6 "seen_by_slope" ["kind","f"] (uE K (Gk cW cR cP) (λas=>∃p c,as=[.ob 0 p,.ints [c,1]]/\Ln p c) λs=>(λg=>PV.tup [.lst [zQ g],.ints [1]]) (lI s 1)):=by
 refine pX T.BZ kh '!' (λf L A C s H E v=>(_,(jr (jG (i:=2) kh.nd rz k4 (jJ (m6 (wU T) v %[xv 0,xl 1,jJ (m6 (yP T) v %[xv 0,xl 1|_])|_]))) (jr (jG (i:=3) kh.nd rz k4 (xl_of (jF (xc (n8 T) v %[xv 0,xl 1,xl 2|_]) jt (λ_ _=>rz)))) (jr (oW (i:=4) kh.nd rz k4 (oN ju)) (jr (jA (i:=5) kh.nd rz k4 jt) (jr (lD aw (pZ (jO 3 T.jM) jt) (jr (jG (i:=6) kh.nd rz k4 (jJ (m6 (wU T) v %[xv 0,xl 3,xl 2|_]))) (jr (jG (i:=7) kh.nd rz k4 (xl_of (jF (xc (n8 T) v %[xv 0,xl 3,xl 6|_]) jt (λ_ _=>rz)))) (lU (jX (pZ (jO 7 T.jM) jt) (jw (sy 4 (nj %[xl 7,xn 5|_]))) jN) (jr (jG (i:=2) kh.nd rz k4 (xl_of (jF (xc (n8 T) v %[xv 0,xl 2,xl 6|_]) jt (λ_ _=>rz)))) (jr (jG (i:=3) kh.nd rz k4 (xl 6)) (jw (tM (i:=5) kh.nd rz k4 jt rP)))))))) (j7 4 (jw (jB (nj %[xv 4,xl 2|_]))))))))),λas d=>?_))
 obtain⟨p,c,rfl,x⟩:=d;have d:=x.pr;have t:=ade d (Dc c) x.rd;have B:=ade d vI (Jy d.1);refine(((rz,rz,((rz,rz,tT),p,[c,1],rz,((()):2<=1000)),tT),p,[c,1],zm p [c,1],rz,d,((()):2<=200),by rw[x.sl];decide),λF j=>?_);replace j:F=[1]:=by have j:F=gc p [c,1] (zm p [c,1]):=j;rw[j,x.sl,acO d]
 subst j;refine jD (ρ':=[.fr (.ob 0 p),k7 [c,1],k7 [1],.un,.un,.un,.un,.un]) rz ?_;refine(((((rz,rz,rz,tT),p,[c,1],[1],rz,CG d,((()):2<=200)),tT,?_),?_),λI a=>?_)
 .show lY (ud p (Tz p [c,1]) (Tz p [1])) 0;rw[t];exact i0
 .show vo (ud p (Tz p [c,1]) (Tz p [1])) 0=.ints (mQ (vo (ud p (Tz p [c,1]) (Tz p [1])) 0));rw[t];rfl
 replace a:I=[c,1]:=by have a:I=mQ (vo (ud p (Tz p [c,1]) (Tz p [1])) 0):=a;rw[t]at a;exact a
 subst a;refine(tT,λM l=>(tT,λo r=>?_));replace l:M=[]:=l;replace r:o=1:=r;subst l r;refine jD (ρ':=[.fr (.ob 0 p),k7 [c,1],k7 [1],k7 [c,1],.ow (.lst []),k6 1,.un,.un]) rz ?_;refine(λk=>∃D y,k=[.fr (.ob 0 p),k7 [c,1],k7 [1],k7 [c,1],.ow (.lst []),k6 1,D,y]\/k=[.fr (.ob 0 p),k7 [c,1],k7 [1],k7 [1],.ow (.lst [zQ [c,1]]),k6 2,D,y],λk=>(3-vQ k 5).toNat,(.un,.un,.inl rz),?_);rintro k ⟨D,y,rfl|rfl⟩
 .refine((.inl rz,tT),λ_=>?_,λz=>absurd (show(2:Int) > 1 by decide) z);refine(((rz,rz,rz,tT),p,[c,1],[1],rz,d,((()):2<=200),(())),λJ n=>?_);replace n:J=[1]:=iO (show J=gc p [c,1] [1] from n) (acO d _);subst n;refine jD (ρ':=[.fr (.ob 0 p),k7 [c,1],k7 [1],k7 [c,1],.ow (.lst []),k6 1,k7 [1],y]) rz ?_;refine(((((rz,rz,rz,tT),p,[c,1],[1],rz,CG d,((()):2<=200)),tT,?_),?_),λg u=>?_)
  .show lY (ud p (Tz p [c,1]) (Tz p [1])) 0;rw[t];exact i0
  .show vo (ud p (Tz p [c,1]) (Tz p [1])) 0=.ints (mQ (vo (ud p (Tz p [c,1]) (Tz p [1])) 0));rw[t];rfl
  replace u:g=[c,1]:=by have u:g=mQ (vo (ud p (Tz p [c,1]) (Tz p [1])) 0):=u;rw[t]at u;exact u
  subst u;refine jD (ρ':=[.fr (.ob 0 p),k7 [c,1],k7 [1],k7 [c,1],.ow (.lst []),k6 1,k7 [1],k7 [c,1]]) rz ?_;refine(λk=>k=[.fr (.ob 0 p),k7 [c,1],k7 [1],k7 [c,1],.ow (.lst [zQ [c,1]]),k6 1,k7 [1],k7 [c,1]],((.inl rz,tT),λ_=>(rz,(rz,rz,tT),small1000 ((()):0<=1000),rz),λz=>absurd (show(2:Int) > 1 by decide) z),?_);rintro k rfl;refine(((((rz,rz,rz,tT),p,[1],[1],rz,CG d,((()):1<=200)),tT,?_),?_),λG e=>?_)
  .show lY (ud p (Tz p [1]) (Tz p [1])) 0;rw[B];exact i0
  .show vo (ud p (Tz p [1]) (Tz p [1])) 0=.ints (mQ (vo (ud p (Tz p [1]) (Tz p [1])) 0));rw[B];rfl
  replace e:G=[1]:=by have e:G=mQ (vo (ud p (Tz p [1]) (Tz p [1])) 0):=e;rw[B]at e;exact e
  subst e;refine(rz,λN m=>?_);replace m:N=[1]:=m;subst m;refine(rz,tT,tT,λo r=>?_);replace r:o=2:=r;subst r;exact((_,_,.inr rz),((()):(3-(2:Int)).toNat<(3-(1:Int)).toNat))
 .exact((.inl rz,tT),(λz=>absurd (show(1:Int) > 1 from z) (())),λ_=>((rz,rz,tT),rz))
def GD:Ok P w K mg base 8 "free_parts" ["kind","f"] (uE K (Gk cW cR cP) (λas=>∃p a b,as=[.ob 0 p,.ints [b,a]]/\mR p/\pl p a≠0) λs=>(λp f=>PV.lst [zQ (zE p (Tz p f))]) (zI s 0) (lI s 1)):=by
 refine abp T.IV lR T.J3 '!' (λf N A G s H E B R=>(_,(jr (jG (i:=2) lR.nd rz k4 (jJ (m6 (uq T) B %[xv 0,jJ (m6 (jL T) B %[xv 0,xl 1|_])|_]))) (jr (jX (vJ (sZ 2)) (jw lA) jN) (jr (oW (i:=3) lR.nd rz k4 (oN ju)) (jr (jA (i:=4) lR.nd rz k4 jt) (jr (lD aw (pZ (jO 2 T.jM) jt) (jr (jQ (i:=5) lR.nd rz k4 (xc (zX T) B %[xv 0,xl 2|_])) (jr (Le (k:=6) (j:=7) aw rz (kJ (jF (xv 5) jt (λ_ _=>rz))) (pg_tup rz (pgs_cons (pg_name (i:=6) lR.nd rz k4) (pgs_cons (pg_name (i:=7) lR.nd rz k4) pgs_nil))) (jw (sy 3 (nj %[xl 6,kO (xn 7) (xn 4)|_])))) (jr (jG (i:=2) lR.nd rz k4 (jJ (S7 (xl_of (jF (xv 5) jt (λ_ _=>rz))) mW mW (lK (JP (ksz T) (xv 0))) (λ_ _=>.inl rz)))) (jw (tM (i:=4) lR.nd rz k4 (JP (ksz T) (xv 0)) Dj)))))) (j7 3 (jw (jB (nZ (U0 R B T.yR (xv 3))))))))))),λas u=>?_))
 obtain⟨p,a,b,rfl,u,Q⟩:=u;obtain⟨c,U,J⟩:=Df (b:=b) u Q;refine(((rz,((rz,rz,tT),p,[b,a],rz,((()):2<=1000)),tT),p,Tz p [b,a],rz,u,aj (lH p _) ((()):2<=1000),lQ p _,o6 p _),λx D=>?_);replace D:x=[c,1]:=iO (show x=zE p (Tz p [b,a]) from D) J;subst D;have y:PV.lst [zQ [c,1]]=.lst [zQ (zE p (Tz p [b,a]))]:=by rw[J]
 refine(.inl rz,(λq=>absurd (show ¬¬([c,1]:List Int)=[] from q) (λz=>z (by simp))),λ_=>?_);refine(tT,λS r=>(tT,λM l=>?_));replace r:S=[]:=r;replace l:M=1:=l;subst r l;refine jD (ρ':=[.fr (.ob 0 p),k7 [b,a],k7 [c,1],.ow (.lst []),k6 1,.un,.un,.un]) rz ?_;refine(λg=>∃I v e,g=[.fr (.ob 0 p),k7 [b,a],k7 [c,1],.ow (.lst []),k6 1,I,v,e]\/g=[.fr (.ob 0 p),k7 [b,a],k7 [1],.ow (.lst [zQ [c,1]]),k6 p,I,v,e],λg=>(p-vQ g 4).toNat,(.un,.un,.un,.inl rz),?_);rintro g ⟨I,v,e,rfl|rfl⟩
 .refine((.inl rz,tT),λ_=>?_,λz=>absurd (show(2:Int) > 1 by decide) z);refine(((rz,rz,tT),p,c,rz,U),λO m=>?_);replace m:O=.tup [.lst [zQ [c,1]],.ints [1]]:=m;subst m;refine jD (ρ':=[.fr (.ob 0 p),k7 [b,a],k7 [c,1],.ow (.lst []),k6 1,.fr (.tup [.lst [zQ [c,1]],.ints [1]]),v,e]) rz ?_;refine((((rz,tT,i0),rz),λn d=>?_),λi g=>∃v e,g=[.fr (.ob 0 p),k7 [b,a],k7 [c,1],.ow (.lst (if i=0 then[] else[zQ [c,1]])),k6 1,.fr (.tup [.lst [zQ [c,1]],.ints [1]]),v,e],(v,e,rz),?_,?_)
  .have d:n∈[zQ [c,1]]:=d;rw[af.mp d];rfl
  .rintro i n g d ⟨v,e,rfl⟩;have d:[zQ [c,1]][i]?=so n:=d
   match i,d with
   |0,d=>cases d;exact(rz,(rz,(rz,rz,mX (((()):-(2:Int)^64<1),((()):(1:Int)<2^64))),tT),small1000 ((()):0<=1000),_,_,rz)
   |_+1,d=>cases d
  rintro g ⟨v,e,rfl⟩;refine jD (ρ':=[.fr (.ob 0 p),k7 [b,a],k7 [c,1],.ow (.lst [zQ [c,1]]),k6 1,.fr (.tup [.lst [zQ [c,1]],.ints [1]]),v,e]) rz ?_;refine((((rz,tT,i1),rz),tT,tT,(rz,rz),λz=>absurd (aJ (show so p=so 0 from z)) (by have:=u.1;lia)),λL t=>?_);replace t:L=[1]:=iO (show L=sV [1] none none (so p) from t) (acw u.1);subst t;refine jD (ρ':=[.fr (.ob 0 p),k7 [b,a],k7 [1],.ow (.lst [zQ [c,1]]),k6 1,.fr (.tup [.lst [zQ [c,1]],.ints [1]]),v,e]) rz ?_;refine(rz,(rz,rz),mX (((()):-(2:Int)^64<1),((()):(1:Int)<2^64)),λo C=>?_);replace C:o=p:=iO (show o=1*p from C) (bw p);subst C;refine((_,_,_,.inr rz),?_);show(o-o).toNat<(o-1).toNat;have:=u.1;lia
 .refine((.inl rz,tT),(λz=>absurd (show(1:Int) > 1 from z) (())),λ_=>((rz,rz,(((()):1<64),λq F=>?_,fE ..)),?_))
  .have F:q∈[zQ [c,1]]:=F;rw[af.mp F];exact(_,rz)
  .show PV.lst (Eh [zQ [c,1]])=_;rw[Ma (.refl _) (fE ..) (fE ..)];exact y
def V8:Ok P w K mg base 10 "parts" ["kind","f"] (uE K (Gk cW cR cP) (λas=>∃p a b,as=[.ob 0 p,.ints [b,a]]/\mR p/\pl p a≠0) λs=>(λp f=>PV.tup [.int ((Tz p f)[j6 (ln (Tz p f)) (-1)]!),.lst [zQ (zE p (Tz p f))]]) (zI s 0) (lI s 1)):=by
 refine abp T.Zn vU T.YM '!' (λf B A u s H E o D=>(_,(jr (oW (i:=2) vU.nd rz k4 (oN ju)) (jr (Le (k:=3) (j:=4) aw rz (kJ (xc (GD T) o %[xv 0,xl 1|_])) (pg_tup rz (pgs_cons (pg_name (i:=3) vU.nd rz k4) (pgs_cons (pg_name (i:=4) vU.nd rz k4) pgs_nil))) (jw (vD (k:=5) aw rz (kJ (xc (Xu T) o %[xv 0,xl 3|_])) vU.nd rz k4 (jw (sy 2 (nj %[xl 5,xn 4|_])))))) (j7 2 (jw (jB (nj %[n6 (jF (jJ (m6 (jL T) o %[xv 0,xl 1|_])) (lV jt) (λ_ _=>rz)),nZ (Vw (zF T) D o T.yR (xv 2))|_])))))),λas n=>?_))
 obtain⟨p,a,b,rfl,n,t⟩:=n;obtain⟨c,G,z⟩:=Df (b:=b) n t;have m:PV.tup [.int ((Tz p [b,a])[j6 (ln (Tz p [b,a])) (-1)]!),.lst [zQ [c,1]]]=.tup [.int ((Tz p [b,a])[j6 (ln (Tz p [b,a])) (-1)]!),.lst [zQ (zE p (Tz p [b,a]))]]:=by rw[z]
 refine(tT,λF g=>?_);replace g:F=[]:=g;subst g;refine jD (ρ':=[.fr (.ob 0 p),k7 [b,a],.ow (.lst []),.un,.un,.un]) rz ?_;refine(((((rz,rz,tT),p,a,b,rz,n,t),rz),λq d=>?_),λi l=>∃x y v,l=[.fr (.ob 0 p),k7 [b,a],.ow (.lst (if i=0 then[] else[zQ [c,1]])),x,y,v],(.un,.un,.un,rz),?_,?_)
 .have d:q∈[zQ (zE p (Tz p [b,a]))]:=d;rw[af.mp d];rfl
 .rintro i q l d ⟨x,y,v,rfl⟩;have d:[zQ (zE p (Tz p [b,a]))][i]?=so q:=d;rw[z]at d
  match i,d with
  |0,d=>
   cases d;refine((((rz,rz,tT),p,c,rz,G),rz),λj l=>∃v,l=[.fr (.ob 0 p),k7 [b,a],.ow (.lst (if j=0 then[] else[zQ [c,1]])),k7 [c,1],k6 1,v],(v,rz),?_,?_)
   .rintro j r l e ⟨v,rfl⟩;have e:[PV.ints [c,1]][j]?=so r:=e
    match j,e with
    |0,e=>cases e;exact(rz,(rz,rz,tT),small1000 ((()):0<=1000),_,rz)
    |_+1,e=>cases e
   .rintro l ⟨v,rfl⟩;exact(_,_,_,rz)
  |_+1,d=>cases d
 .rintro l ⟨x,y,v,rfl⟩;have C:Tz p [b,a]=[pl p b,pl p a]:=vH t;refine((((((rz,rz,tT),p,[b,a],rz,((()):2<=1000)),tT,?_),rz),(rz,rz,((()):1<2),λq d=>?_),tT),m)
  .show lY (.ints (Tz p [b,a])) (-1);rw[C];exact(((()):-(2:Int) <= -1),((()):(-1:Int)<2))
  .have d:q∈[zQ [c,1]]:=d;rw[af.mp d];exact((_,rz),(_,rz))
def Yg (p:Int)(g:List Int):Prop:=¬pl p (jx (jy g))=0/\gc p g (zm p g)=[1]
def t6:Ok P w K mg base 6 "keeps_free_of_squares" ["prime","g"] (Aj K (Gk cW cR cP) (λas=>∃p g,as=[.int p,.ints g]/\mR p/\ln g<=100/\jy g≠[]) λs=>(λp g=>@decide (Yg p g) (Classical.propDecidable _)) (zI s 0) (lI s 1)):=by
 refine pX T.uo m5 '!' (λf r A o s H E c=>(_,(jr (jQ (i:=2) m5.nd rz k4 (Zu (zq T) c Yl (xn 0))) (jr (jA (i:=3) m5.nd rz k4 (n6 (jF (jJ (m6 (jL T) c %[z7 (mH T) c Az,xl 1|_])) (lV jt) (λ_ _=>rz)))) (jw (jB (FN (UW (rT 2 (qL T) c %[xn 3|_]) jt) (pe_one (JZ c.units (G4 (jJ (m6 (wU T) c %[xv 2,xl 1,jJ (m6 (yP T) c %[xv 2,xl 1|_])|_]))) (G4 (jJ (j8 %[jt|_])))))))))),λas k=>?_))
 obtain⟨p,g,rfl,k,x,t⟩:=k;refine((rz,k),λv e=>?_);have e:v=.ob 0 p:=e;subst e;clear e;have m:g.map (pl 0)=g:=(aO λn _=>rz).trans (cC g);have d:0<ln (jy g):=lP t;refine jD (ρ':=[k6 p,k7 g,.fr (.ob 0 p),.un]) rz ?_;have u:lY (.ints (jy (g.map (pl 0)))) (-1):=by rw[m];show -(ln (jy g):Int) <= -1/\(-1:Int)<(ln (jy g):Int);lia
 refine(((((tT,rz,tT),0,g,rz,()),tT,u),rz),λl j=>?_);have j:l=(jy (g.map (pl 0)))[j6 (ln (jy (g.map (pl 0)))) (-1)]!:=j;rw[m,nW _ d]at j;refine jD (ρ':=[k6 p,k7 g,.fr (.ob 0 p),k6 l]) rz ?_;have sl:ln (zm p g)<=200:=by unfold zm;refine aj (lz _) ?_;rw[ac,bW,fv];lia
 refine((((rz,(rz,tT),tT,tT),tT),λ_=>(((rz,rz,((rz,rz,tT),p,g,rz,()),tT),p,g,zm p g,rz,k,(),sl),(tT,tT),tT)),?_);show PV.bl (decide (¬pl p l=0/\gc p g (zm p g)=[1]))=PV.bl (@decide (Yg p g) (Classical.propDecidable _));rw[j];unfold Yg;congr 1;exact decide_eq_decide.mpr Iff.rfl
def Tp (q:Int->Bool):Nat->Int->Int
 |0,_=>0
 |n+1,k=>if q k=true then k else Tp q n (k+1)
theorem R7 {q:Int->Bool}:∀{n i:Nat} {k:Int},i<n->(∀j:Nat,j<i->q (k+j)=false)->q (k+i)=true->Tp q n k=k+i
 |0,_,_,h,_,_=>absurd h (dQ _)
 |n+1,0,k,_,_,e=>by
  have e:q k=true:=by simpa using e
  show(if q k=true then k else Tp q n (k+1))=_;rw[aL e];simp
 |n+1,i+1,k,h,l,e=>by
  have a:q k=false:=by simpa using l 0 ()
  show(if q k=true then k else Tp q n (k+1))=_;rw[aF (by rw[a];decide),R7 (n:=n) (i:=i) (k:=k+1) () (λj c=>by have:=l (j+1) ();rw[show k+1+(j:Int)=k+((j+1:Nat):Int) by lia];exact this) (by rw[show k+1+(i:Int)=k+((i+1:Nat):Int) by lia];exact e)];lia
def Uv (g:List Int)(n:Int):Bool:=Nr n && @decide (Yg n g) (Classical.propDecidable _)
theorem JT {g:Li}{n:Int}:Uv g n=true ↔ mR n/\Yg n g:=by unfold Uv;rw[dz,Cv];exact and_congr Iff.rfl (@decide_eq_true_iff _ (Classical.propDecidable _))
def Gu:Ok P w K mg base 7 "good_prime" ["g"] (rK K (Gk cW cR cP) (λas=>∃g,as=[.ints g]/\ln g<=100/\jy g≠[]/\∃p,mR p/\Yg p g) λs=>(λg=>Tp (Uv g) 9972 2) (lI s 0)):=by
 refine pX T.Iz xx '!' (λf u A o s H E t=>(_,(jr (wO (k:=1) aw rz (by rfl) T.lM jt (km (QQ (by rfl) T.u6) jt) xx.nd rz k4 (jw (jX (L2.PW.pt (uJ (G8 (Uu (Bf T) t %[xn 1|_])) (qW (G8 (Uu (t6 T) t %[xn 1,xl 0|_]))))) (jw (jB (xn 1))) jN))) (jw lA)),λas e=>?_))
 obtain⟨g,rfl,y,x,p,e,B⟩:=e;have C:∀m:Int,Uv g m=true ↔ mR m/\Yg m g:=λm=>JT;refine((tT,tT,tT),(((()):-(2:Int)^62<=2),((()):(2:Int)<2^62),((()):-(2:Int)^62<=9973+1),((()):(9973+1:Int)<2^62)),λi n=>(∃v,n=[k7 g,v])/\∀j:Nat,j<i->Uv g (2+j)=false,((_,rz),λj r=>absurd r (dQ _)),?_,?_)
 .rintro i n l ⟨⟨v,rfl⟩,d⟩;have l:i<9972:=l;refine((((rz,tT),tT,rz,tT),λh=>((rz,rz,tT),2+(i:Int),g,rz,Cv.mp h,y,x)),λq=>?_,λq=>?_)
  .have q:Nr (2+(i:Int))=true /\ @decide (Yg (2+(i:Int)) g) (Classical.propDecidable _)=true:=q;have D:Uv g (2+(i:Int))=true:=by unfold Uv;rw[q.1,q.2];rfl
   refine(rz,?_);show PV.int (2+(i:Int))=PV.int (Tp (Uv g) 9972 2);rw[R7 l d D]
  .have q:¬(Nr (2+(i:Int))=true /\ @decide (Yg (2+(i:Int)) g) (Classical.propDecidable _)=true):=q;refine((_,rz),λj r=>?_);by_cases c:j=i
   .rw[c];refine Bool.eq_false_iff.mpr λz=>q ?_;unfold Uv at z;exact cY.mp z
   .exact d j ()
 .rintro n ⟨⟨v,rfl⟩,d⟩;have d:∀j:Nat,j<9972->Uv g (2+j)=false:=d;have F:=e.1;have G:=e.2.1;have:=d (p-2).toNat ();rw[show 2+((p-2).toNat:Int)=p by lia,(C p).mpr (e,B)]at this;cases this
theorem VR {q:Int->Bool}:∀{n i:Nat} {k:Int},i<n->q (k+i)=true->q (Tp q n k)=true/\k<=Tp q n k/\Tp q n k<=k+i
 |0,_,_,h,_=>absurd h (dQ _)
 |n+1,i,k,h,e=>by
  show q (if q k=true then k else Tp q n (k+1))=true/\k<=(if q k=true then k else Tp q n (k+1))/\(if q k=true then k else Tp q n (k+1))<=k+i;by_cases c:q k=true
  .rw[aL c];exact(c,ck _,())
  .rw[aF c];have i0:i≠0:=λz=>c (by subst z;simpa using e);have:=VR (n:=n) (i:=i-1) (k:=k+1) () (by rw[show k+1+((i-1:Nat):Int)=k+i by lia];exact e);exact(this.1,(),())
theorem WN {a b:Int}(h:a=1\/a=2\/a=3):Yg 5 [b,a]:=by
 have p:=abk;have c:a≠0:=()
 have d:jy [b,a]=[b,a]:=vH c;have e:pl 5 a=a:=by rw[nU (())];lia
 refine(?_,(Vn p.1 (U5 p ?_)).mpr ?_)
 .rw[d];show ¬pl 5 a=0;rw[e];exact c
 .exact aj (QR _ _) ((()):2<=200)
 .have sl:zm 5 [b,a]=[a]:=by show jy [pl 5 (1*a)]=[a];rw[bw,e];exact sG λz=>c z.2
  rw[sl];refine Lc.unit (t:=if a=1 then 1 else if a=2 then 3 else 2) ?_ (Lc.right 5 _ [a]);rcases h with rfl|rfl|rfl<;>decide
def zH (g:List Int):Int:=Tp (Uv g) 9972 2
theorem acM {a b:Int}(h:a=1\/a=2\/a=3):mR (zH [b,a])/\pl (zH [b,a]) a≠0/\zH [b,a]<=5:=by have p:=abk;obtain⟨x,y,z⟩:=VR (q:=Uv [b,a]) (n:=9972) (i:=3) (k:=2) (()) (JT.mpr (p,WN h));obtain⟨u,v⟩:=JT.mp x;refine(u,?_,z);have:=v.1;rw[vH ()]at this;exact this
theorem aaY {p a b:Int}(i:mR p)(h:pl p a≠0):∃c,Ln p c/\zE p (Tz p [b,a])=[c,1]/\pl p (a*c)=pl p b:=by
 have k:=i.1;have j:Tz p [b,a]=[pl p b,pl p a]:=vH h;have g:Int.gcd (pl p a) p=1:=wA i (b:=[pl p b,pl p a]) (λ_=>h) (λn=>by rw[<-j];exact o6 p _ n) (by simp);obtain⟨_,_,t⟩:=sW k (xZ k g);obtain⟨c,m,d⟩:=Df (b:=b) i h;refine(c,m,d,?_);have l:c=pl p (pl p (1*tu (pl p a) p)*pl p b):=by
  rw[j]at d;unfold zE CW at d;rw[aF (by simp)]at d;have e:pl p (pl p (1*tu (pl p a) p)*pl p a)=1:=by rw[bw,yp,nU (),t]
  have d:jy [pl p (pl p (1*tu (pl p a) p)*pl p b),pl p (pl p (1*tu (pl p a) p)*pl p a)]=[c,1]:=d;rw[e,vH (())]at d;exact(List.cons.inj d).1.symm
 have f:pl p (tu (pl p a) p*a)=1:=by rw[<-uY,nU (),t]
 rw[l,uY,bw,<-bQ,uY,<-yp,uY,bZ a,f,bw]
theorem adG {p c:Int}(h:Ln p c):kj p [[c,1]]=[c,1]:=by show Tz p (jz [1] [c,1])=[c,1];exact mK (lQ _ _) (Dc c) λn=>by rw[kZ,jC,KQ,h.rd]
def yz:Ok P w K mg base 6 "refuse_bad_lift" ["rests","f","pieces"] (uE K (Gk cW cR cP) (λas=>∃p a b c,as=[.ob 0 p,.ints [b,a],jE [[c,1]]]/\Ln p c/\pl p a≠0/\pl p (a*c)=pl p b/\a.natAbs<2^9000) λ_=>.non):=by
 refine pX T.zM nG '!' (λf G A x s H E g=>(_,(jr (jX (L2.PW.pt (qK (vJ (sZ 1)) (rH (nJ (rT 0 (qL T) g %[kI 1 (lV jt) (λ_ _=>rz)|_]) jt)))) (jw lA) jN) (jr (HN (k:=3) (j:=4) aw rz (by rfl) T.mZ (kJ (xv 2)) (pg_tup rz (pgs_cons (pg_name (i:=3) nG.nd rz k4) (pgs_cons (pg_name (i:=4) nG.nd rz k4) pgs_nil))) (jr (jX (L2.PW.pt (qK (FJ (jO 4 T.jM) jt) (rH (vV (kI 4 (lV jt) (λ_ _=>rz)) jt)))) (jw lA) jN) (jw (vD (k:=5) aw rz (kJ (nZ (pW (kJ (xv 2)) mW (lK (xn 3))))) nG.nd rz k4 (jw (jX (Pb g.units (G4 (jJ (m6 (wU T) g %[xv 0,xl 4,xl 5|_]))) (G4 (jJ (j8 %[jt|_])))) (jw lA) jN)))))) (jw (jX (Pb g.units (G4 (jJ (m6 (pA T) g %[xv 0,Yb (xQ T) g %[xv 0,xv 2|_],kI 1 (lV jt) (λ_ _=>rz)|_]))) (G4 (jJ (m6 (jL T) g %[xv 0,xl 1|_])))) (jw lA) jN)))),λas r=>?_))
 obtain⟨p,a,b,c,rfl,u,I,J,F⟩:=r;have r:=u.pr;obtain⟨M,N⟩:=Wm (zok r);refine((.inl rz,λ_=>((rz,((.inl rz,tT,((()):-(2:Int) <= -1),((()):(-1:Int)<2)),tT),tT,tT),tT)),λq=>?_,λ_=>?_)
 .have q:¬¬([b,a]:List Int)=[]\/pl p a=0:=q;exact q.elim (λz=>z (by simp)) I
 refine((rz,rz),λi l=>∃B C v,l=[.fr (.ob 0 p),k7 [b,a],.fr (jE [[c,1]]),B,C,v],(.un,.un,.un,rz),?_,?_)
 .rintro i n l d ⟨B,C,v,rfl⟩;have d:[PV.ints [c,1]][i]?=so n:=d
  match i,d with
  |0,d=>
   cases d;refine(((.inl rz,tT),λz=>((.inl rz,tT,((()):-(2:Int) <= -1),((()):(-1:Int)<2)),tT)),λq=>?_,λq=>?_)
   .have q:(2:Int)<2\/¬(1:Int)=1:=q;lia
   refine((((rz,rz),tT,rz),rz),λj l=>∃v,l=[.fr (.ob 0 p),k7 [b,a],.fr (jE [[c,1]]),k6 0,k7 [c,1],v],(_,rz),?_,?_)
   .intro j n l d;cases (List.getElem?_nil (i:=j)).symm.trans (show([]:List PV)[j]?=so n from d)
   .rintro l ⟨v,rfl⟩;exact(_,_,_,rz)
  |_+1,d=>cases d
 rintro l ⟨B,C,v,rfl⟩;have y:=adG u;have D:∀m∈([c,1]:List Int),m.natAbs<2^9000:=λm t=>by obtain⟨n,_,e⟩:=FM.mem_getD t;have:=HJ r (u.rd n);rw[e]at this;exact vL this
 have L:XH p [[c,1]]:=λi f o=>by
  match i,o with
  |0,o=>cases o;refine(((()):1+2<=1000),λm t=>?_,D);cases af.mp t;exact gP (())
  |_+1,o=>cases o
 refine((((rz,((rz,rz,tT),p,[[c,1]],rz,M,N,L),(.inl rz,tT,((()):-(2:Int) <= -1),((()):(-1:Int)<2)),tT),p,_,_,rz,?_,F,?_),((rz,rz,tT),p,[b,a],rz,((()):2<=1000))),λq=>?_,λq=>rz)
 .show ln (kj p [[c,1]])<=1000;rw[y];show 2<=1000;decide
 .show ∀m∈kj p [[c,1]],m.natAbs<2^9000;rw[y];exact D
 .have q:¬Tz p ((kj p [[c,1]]).map λm=>a*m)=Tz p [b,a]:=q;rw[y]at q;refine q ?_;show jy [pl p (a*c),pl p (a*1)]=jy [pl p b,pl p a];rw[J,cG]
def lfV (z:Int)(g:List Int):Int:=pl z (1*tu (jx g) z)
def NP (z:Int)(g:List Int):List Int:=Tz z (g.map λn=>lfV z g*n)
structure LfO (p:Int)(m:Nat)(a b:Int):Prop where
 pr:mR p
 m1:1<=m
 m2:m<=400
 ld:pl p a≠0
 a9:a.natAbs<2^9000
 b9:b.natAbs<2^9000
 zk:ZOk (p^m)
 g:Int.gcd a (p^m)=1
def SN:Ok P w K mg base 7 "lifted" ["prime","many","f","pieces"] (uE K (Gk cW cR cP) (λas=>∃p m a b,as=[.int p,.int (m:Nat),.ints [b,a],jE [zE p (Tz p [b,a])]]/\LfO p m a b) λs=>(λp m f=>jE [NP (p^m.toNat) f]) (zI s 0) (zI s 1) (lI s 2)):=by
 refine pX T.UT pD '!' (λf L A D s H E j=>(_,(jr (jQ (i:=4) pD.nd rz k4 (adL (Hz T) j adx (xn 0) (xn 1))) (jr (jQ (i:=5) pD.nd rz (Or.inr rz) (Zu (zq T) j Yl (xn 0))) (jr (jG (i:=6) pD.nd rz k4 (jJ (m6 (jL T) j %[z7 (mH T) j Az,xl 2|_]))) (jr (rD (i:=7) pD.nd rz rz (N':=["piece","rests"]) (cap:=[so 5]) (kW rz rz rz rz ((rz,.inr (.inl rz),sS,.inl rz,_,rz,rz),tT) (rz,tT) rz) rz (kJ (xv 3)) (λ_ _ _=>(lO 0)) (λ_ _ _=>(jJ (m6 (jL T) j %[xv 1,xl 0|_]))) rz) (jr (Wc (xc (yz T) j %[xv 5,xl 6,xv 7|_])) (jr (jG (i:=8) pD.nd rz k4 (jJ (m6 (pA T) j %[xv 4,xl 6,n6 (Y4 (CJ 4 (zG T) j %[jt,kI 6 (lV jt) (λ_ _=>rz)|_]))|_]))) (jr (oW (i:=9) pD.nd rz k4 (oN ju)) (jr (oh (k:=10) aw rz (by rfl) T.lM (lw (lL T.jM (xv 7)) jt) pD.nd rz k4 (jr lA (jr lA (jw lA)))) (j7 9 (jw (jB (nZ (Ds (kJ (xv 9)) (nZ (oN %[xl 8|_]))))))))))))))),λas Q=>?_))
 obtain⟨p,m,a,b,rfl,ok⟩:=Q;have pr:=ok.pr;have Y:=ok.m1;have Z:=ok.m2;obtain⟨c,G,N,bk⟩:=aaY (b:=b) pr ok.ld;have J:a≠0:=λz=>ok.ld (by rw[z];exact oA p);rw[N];have y:=ok.zk;have M:jy (([b,a]:List Int).map (pl 0))=[b,a]:=vH J;have U:(1:Int).natAbs<2^9000:=aK (show(1:Int).natAbs<=2^14 by decide) (aI (()) (()));have v:zA cNO (p^m) [1,a]=.inl (lfV (p^m) [b,a]):=Xv (by have:=y.1;lia) ok.g;have g:jE [NP (p^m) [b,a]]=jE [NP (p^((m:Nat):Int).toNat) [b,a]]:=rfl;refine(((rz,rz),pr,(():(1:Int)<=(m:Int)),(():(m:Int)<=400)),λR l=>?_);replace l:R=.ob 0 (p^m):=l;subst l;refine((rz,pr),λrd r=>?_);replace r:rd=.ob 0 p:=r;subst r;refine(((tT,rz,tT),0,[b,a],rz,((()):2<=1000)),λI t=>?_);replace t:I=[b,a]:=iO (show I=jy (([b,a]:List Int).map (pl 0)) from t) M;subst t;refine jD (ρ':=[k6 p,k6 (m:Int),k7 [b,a],.fr (jE [[c,1]]),.fr (.ob 0 (p^m)),.fr (.ob 0 p),k7 [b,a],.un,.un,.un,.un,.un]) rz ?_;refine(((rz,rz),((()):1<=1000),λq C=>?_),λu d=>?_)
 .have C:q∈[PV.ints [c,1]]:=C;cases af.mp C;exact((rz,rz,tT),p,[c,1],rz,((()):2<=1000))
 replace d:u=[.ints [c,1]]:=by have d:u=[PV.ints (Tz p [c,1])]:=d;rw[d,G.tz]
 subst d;refine jD (ρ':=[k6 p,k6 (m:Int),k7 [b,a],.fr (jE [[c,1]]),.fr (.ob 0 (p^m)),.fr (.ob 0 p),k7 [b,a],.fr (jE [[c,1]]),.un,.un,.un,.un]) rz ?_;refine(((rz,rz,rz,tT),p,a,b,c,rz,G,ok.ld,bk,ok.a9),?_);refine(((rz,rz,(((rz,(tT,(.inl rz,tT,((()):-(2:Int) <= -1),((()):(-1:Int)<2)),tT),tT,?_),?_),?_),tT),p^m,[b,a],_,rz,((()):2<=1000),?_,?_),λx e=>?_)
 .show W3 (p^m) [1,a];exact(ok.a9,.inr (y.1,qH y.2,U))
 .show(vq (zA cNO (p^m) [1,a])).isV;rw[v];exact tT
 .show(vq (zA cNO (p^m) [1,a])).get=.int (Nv (vq (zA cNO (p^m) [1,a])).get);rw[v];rfl
 .show(Nv (vq (zA cNO (p^m) [1,a])).get).natAbs<2^9000;rw[v];exact qH (Fx y (uf _ _))
 .intro n B;rcases aG.mp B with rfl|B
  .exact ok.b9
  .cases af.mp B;exact ok.a9
 replace e:x=NP (p^m) [b,a]:=by have e:x=Tz (p^m) (([b,a]:List Int).map λn=>Nv (vq (zA cNO (p^m) [1,a])).get*n):=e;rw[v]at e;exact e
 rw[<-e]at g;refine(tT,λS o=>?_);replace o:S=[]:=o;subst o;refine jD (ρ':=[k6 p,k6 (m:Int),k7 [b,a],.fr (jE [[c,1]]),.fr (.ob 0 (p^m)),.fr (.ob 0 p),k7 [b,a],.fr (jE [[c,1]]),k7 x,.ow (.lst []),.un,.un]) rz ?_;refine(((rz,tT),tT),(((()):-(2:Int)^62<=1-1),((()):(1:Int)-1<2^62)),λi F=>F=[k6 p,k6 (m:Int),k7 [b,a],.fr (jE [[c,1]]),.fr (.ob 0 (p^m)),.fr (.ob 0 p),k7 [b,a],.fr (jE [[c,1]]),k7 x,.ow (.lst []),.un,.un],rz,λi F O=>absurd (show i<0 from O) (dQ i),?_);rintro F rfl;exact(((rz,rz),(rz,tT),a7 (small1000 ((()):0+1<=1000))),g)
theorem Sg (h:a ∣ b*c)(g:Int.gcd a b=1):a ∣ c:=by have d:=dC.mpr h;rw[dS]at d;exact dC.mp (Nat.Coprime.dvd_of_dvd_mul_left g d)
theorem Iw (d:mR p)(h:p ∣ a*b):p ∣ a\/p ∣ b:=by
 by_cases c:a % p=0
 .exact .inl (cL c)
 .right;have g:=d.JR c;rw[jh]at g;exact Sg h g
theorem R3 (a:mR p)(h:¬p ∣ x):∃t,p ∣ t*x-1:=by
 have g:=a.JR (b:=x) λz=>h (cL z);obtain⟨t,_,_,e⟩:=xZ a.1 g;refine(t,?_);have c:=dj e;have:t*x-1 = -(1-t*x):=()
 rw[this];exact bF.mpr c
theorem Js {a b:Int}{H:Li}(c:a≠0){N:Nat}(h:∀n,N<=n->cm [b,a] H (n+1)=0):∀k n,N<=n->ln H<=n+k->H[n]! =0
 |0,n,_,l=>jH ()
 |k+1,n,hn,l=>by have e:=h n hn;rw[K9,aF (),Js c h k (n+1) () (),aX,eE]at e;exact(gA.mp e).resolve_left c
def Za {a b C:Int}{T:Li}(c:a≠0)(h:∀n,cm [b,a] T n=if n=0 then C else 0):C=0:=by have e:=h 0;rw[K9,aL rz,aL rz,Js c (N:=0) (λn _=>by rw[h,aF ()]) (ln T) 0 (ao _) (),aX,bJ]at e;exact e.symm
structure Rt (g:List Int)(b a d:Int)(H:List Int):Prop where
 d0:0<d
 a0:a=1\/a=2\/a=3
 e:∀n,d*g[n]! =cm [b,a] H n
 g2:2<=ln g
theorem Rt.top {g H:Li}{b a d:Int}(h:Rt g b a d H){n:Nat}(c:ln g<=n+1):H[n]! =0:=
 Js (a:=a) (b:=b) (by have:=h.a0;lia) (N:=ln g-1) (λn c=>by rw[<-h.e,jH (),aX]) (ln H) n () ()
theorem Rt.ld {g H:Li}{b a d:Int}(h:Rt g b a d H):d*jx g=a*H[ln g-2]!:=by have c:=h.g2;have e:=h.e (ln g-1);rw[K9,aF (),h.top (),aX,eE]at e;exact e
def sA (g:List Int):Nat->Int
 |0=>jV g[0]!
 |n+1=>sA g n+jV g[n+1]!
theorem wK (n:Int):0<=jV n:=by unfold jV;split<;>lia
theorem zL (n:Int):jV n=(n.natAbs:Int):=by unfold jV;split<;>lia
theorem oV (a b:Int):jV (a*b)=jV a*jV b:=by rw[zL,zL,zL,dS];rfl
theorem Su (c:Int)(t:Li):∀n,sA (c::t) (n+1)=jV c+sA t n
 |0=>rfl
 |n+1=>by show sA (c::t) (n+1)+jV t[n+1]! =jV c+(sA t n+jV t[n+1]!);rw[Su c t n];lia
theorem Oh (l:Li):0<=(l.map jV).sum:=by
 induction l with
 |nil=>exact ck 0
 |cons c t i=>rw[bi,fA];have:=wK c;lia
theorem aaJ:∀(g:Li) (n:Nat),sA g n<=(g.map jV).sum
 |[],n=>by
  have:∀n,sA [] n=0:=λn=>by
   induction n with
   |zero=>rfl
   |succ n i=>show sA [] n+jV 0=0;rw[i];rfl
  rw[this];exact ck 0
 |c::t,0=>by rw[bi,fA];have:=Oh t;show jV c<=_;lia
 |c::t,n+1=>by rw[Su,bi,fA];have:=aaJ t n;lia
theorem R9 {l:Li}{x:Int}(h:x∈l):jV x<=(l.map jV).sum:=by
 induction l with
 |nil=>cases h
 |cons c t i=>
  rw[bi,fA];have a:=wK c;have d:=Oh t;rcases aG.mp h with rfl|h
  .lia
  .have:=i h;lia
theorem Rt.bd {g H:Li}{b a d:Int}(h:Rt g b a d H)(c:a<=jV b):∀n,jV b*jV H[n]!<=d*sA g n
 |0=>by have e:=h.e 0;rw[K9,aL rz,bJ]at e;rw[<-oV,<-e,oV,show jV d=d by unfold jV;rw[aF (by have:=h.d0;lia)]];exact ck _
 |n+1=>by
  have e:=h.e (n+1);rw[K9,aF ()]at e;have k:=h.bd c n;have i:=h.d0;have f:jV (b*H[n+1]!)<=jV (d*g[n+1]!)+jV (a*H[n]!):=by rw[e,show n+1-1=n by lia];simp only[zL];lia
  rw[oV,oV,oV,show jV d=d by unfold jV;rw[aF ()],show jV a=a by unfold jV;rw[aF (by have:=h.a0;lia)]]at f;have j:a*jV H[n]!<=jV b*jV H[n]!:=aY c (wK _);show _<=d*(sA g n+jV g[n+1]!);rw[gz];lia
theorem Rt.root {g H:Li}{b a d:Int}(h:Rt g b a d H):jV (jx g*b)<=a*(g.map jV).sum:=by
 have s:=h.g2;have o:=h.a0;have i:=h.d0;have m:jV (jx g)<=(g.map jV).sum:=R9 (FM.getD_mem ());have n:=wK (jx g);by_cases c:a<=jV b
 .have f:=h.bd c (ln g-2);have e:=congrArg jV h.ld;rw[oV,oV,show jV d=d by unfold jV;rw[aF ()],show jV a=a by unfold jV;rw[aF ()]]at e;have j:=aaJ g (ln g-2);rw[oV];have k:d*(jV (jx g)*jV b)<=d*(a*(g.map jV).sum):=by
   have l:d*(jV (jx g)*jV b)=a*(jV b*jV H[ln g-2]!):=by rw[<-bQ,e,bQ,bZ (jV b)]
   rw[l];have p:a*(jV b*jV H[ln g-2]!)<=a*(d*sA g (ln g-2)):=aH f ();have r:a*(d*sA g (ln g-2))<=a*(d*(g.map jV).sum):=aH (aH j ()) ();rw[da d a];lia
  exact gW k i
 .rw[oV,bZ];have f:jV b*jV (jx g)<=a*jV (jx g):=aY () n;have e:a*jV (jx g)<=a*(g.map jV).sum:=aH m ();lia
def sE (g:List Int)(b a:Int):Nat->Int
 |0=>g[0]!
 |k+1=>a*sE g b a k+g[k+1]!*(-b)^(k+1)
theorem Rt.sE {g H:Li}{b a d:Int}(h:Rt g b a d H):∀k,d*sE g b a k=(-b)^k*(b*H[k]!)
 |0=>by have e:=h.e 0;rw[K9,aL rz,bJ]at e;rw[eC,bw];exact e
 |k+1=>by
  have e:=h.e (k+1);rw[K9,aF (),show k+1-1=k by lia]at e;have i:=h.sE k;show d*(a*jR.sE g b a k+g[k+1]!*(-b)^(k+1))=_;rw[bE];generalize (-b)^k=B at *
  generalize jR.sE g b a k=S at *
  generalize g[k+1]! =G at *
  generalize H[k+1]! =f at *
  generalize H[k]! =c at *
  grind
theorem QX {p a:Int}(c:mR p):∀k:Nat,p ∣ a^(k+1)->p ∣ a
 |0,h=>by rw[bE,eC,bw]at h;exact h
 |k+1,h=>by
  rw[bE]at h;rcases Iw c h with q|q
  .exact QX c k q
  .exact q
theorem acS {a:Int}(h:a=2\/a=3):mR a:=by refine((),(),λd c e=>?_);have:2*d<=d*d:=aY c ();lia
theorem Rt.dvd {g H:Li}{b a d:Int}(h:Rt g b a d H):a ∣ jx g*b:=by
 have i:=h.g2;have e:=h.sE (ln g-1);rw[h.top (),aX,aX]at e;have c:=(gA.mp e).resolve_left (by have:=h.d0;lia);obtain⟨N,hN⟩:∃N,ln g-1=N+1:=(ln g-2,());have f:jx g=g[N+1]!:=by show g[ln g-1]! =_;rw[hN]
 rw[hN]at c;have c:a*jR.sE g b a N+g[N+1]!*(-b)^(N+1)=0:=c;rw[f];have dv:a ∣ g[N+1]!*(-b)^(N+1):=(-jR.sE g b a N,by rw[gx];lia);rcases h.a0 with q|q|q
 .rw[q];exact Int.one_dvd _
 all_goals
  have p:mR a:=acS ();rcases Iw p dv with y|y
  .exact bM y
  .exact be (bF.mp (QX p N y))
theorem adF {z x y:Int}(h:z ∣ x-y)(i:2*jV y<z):wY z x=y:=by
 have a:x % z=y % z:=c6.mpr (bV h);have d:=wK y;have f:jV y=y\/jV y = -y:=by unfold jV;split<;>lia
 have g:y<=jV y /\ -y<=jV y:=by unfold jV;split<;>lia
 unfold wY;rw[a];by_cases c:0<=y
 .rw[bx c (),aF ()]
 .have e:y % z=y+z:=by rw[<-Int.add_emod_right,bx () ()]
  rw[e,aL ()];lia
theorem Oe (g:Li):(g.map jV).sum<=bnd g:=by unfold bnd;have h:(1:Int)<=2^(ln g-1):=dD (());have:=aH h (Oh g);lia
theorem Rx {z:Int}{us:List (List Int)}{l0:Li}:∀i,xP z 1 us l0 (i+1)=xP z 1 us l0 1
 |0=>rfl
 |i+1=>by
  show(if (1:Int) / 2^(i+1) % 2=1 then _ else xP z 1 us l0 (i+1))=_;rw[aF,Rx i];have h:(1:Int)<2^(i+1):=by rw[bE];have:(1:Int)<=2^i:=dD (());lia
  rw[Int.ediv_eq_zero_of_lt (()) h];decide
theorem Y7 {n:Int}(h:2<=n)(a:n<=5):1∈wD n:=by
 unfold wD;refine aB.mpr (0,iC.mpr (bA.mpr ?_,bc ?_),rz)
 .have:2^1<=2^n.toNat:=aW (()) ();lia
 .show 2*yC 1<=n;rw[Rp (()),show(1:Int) / 2=0 by decide,Ri];lia
theorem aa9 {g H:Li}{b a d z c w:Int}{us:List (List Int)}(h:Rt g b a d H)(tz:jy g=g)(p:jx g≠0)(x:2*bnd g<z)(u:us[0]'[]=[c,1])(B:1<=ln us)(s:z ∣ a*c-b)(r:Int.gcd a z=1)(i:a*w=jx g*b):YC g z us 1=[w,jx g]:=by
 have A:=Oe g;have v:=h.g2;have t:=h.a0;have y:jV (jx g)<=(g.map jV).sum:=R9 (FM.getD_mem ());have C:jV w<=(g.map jV).sum:=by have e:=h.root;rw[<-i,oV,show jV a=a by unfold jV;rw[aF ()]]at e;exact gW e ()
 have D:0<z:=by have:=wK (jx g);lia
 obtain⟨k,hk⟩:∃k,ln us=k+1:=(ln us-1,());unfold YC;rw[tz,hk,Rx];refine mK (lW _) (λ_=>p) λn=>?_;rw[qJ,uK (by unfold wY;rw[fk,aF ()])];refine adF ?_ ?_
 .show z ∣ (if (1:Int) / 2^0 % 2=1 then(Tz 0 (jz (Tz 0 [jx g]) (Tz 0 ((us[0]'[]).map λn=>n % z)))).map λn=>n % z else[jx g])[n]!-_;rw[aL (()),u,uK (fk z),tG,jC];have j:cm (Tz 0 [jx g]) (Tz 0 (([c,1]:List Int).map λn=>n % z)) n=jx g*(([c,1]:List Int)[n]! % z):=by rw[uP (tG _) (tG _),W6,uK (fk z)]
  rw[j];have l:z ∣ jx g*([c,1]:List Int)[n]!-([w,jx g]:List Int)[n]!:=by
   match n with
   |0=>
    show z ∣ jx g*c-w;have m:z ∣ a*(jx g*c-w):=by
     have:a*(jx g*c-w)=jx g*(a*c-b):=by rw[cT,i,cT,da]
     rw[this];exact be s
    exact Sg m (by rw[jh];exact r)
   |1=>show z ∣ jx g*1-jx g;rw[cG,cQ];exact bK z
   |n+2=>show z ∣ jx g*0-0;rw[aX];exact bK z
  have o:=sY z (jx g*(([c,1]:List Int)[n]! % z));have f:z ∣ jx g*(([c,1]:List Int)[n]! % z-([c,1]:List Int)[n]!):=be (sY z _);rw[cT]at f;have:=br (br o f) l;refine(congrArg (z ∣ ·) ?_).mp this;lia
 .match n with
  |0=>show 2*jV w<z;lia
  |1=>show 2*jV (jx g)<z;lia
  |n+2=>show 2*jV 0<z;show 2*0<z;lia
theorem acX {g H q r:Li}{b a d w:Int}(h:Rt g b a d H)(z:jx g≠0)(p:a*w=jx g*b):¬Ul g [w,jx g] q r:=by
 rintro⟨_,s,j,_,e⟩;have m:a≠0:=by have:=h.a0;lia
 have u:=h.d0;have j:ln (jy r)<2:=j;obtain⟨i,er⟩:∃i,jy r=[i]:=by
  match hr:jy r,s,j with
  |[x],_,_=>exact(x,rz)
  |_::_::l,_,h=>exact absurd h (by simp[bC])
 have t:i≠0:=by have:=lW r (by rw[er];simp);rw[er]at this;exact this
 generalize ln g-ln ([w,jx g]:List Int)+1=k at e;have e:∀n,(sr (Tz 0 q)*sr [w,jx g]+sr [i]).at' n=(oM.con (jx g^k)*sr g).at' n:=λn=>by have:=congrArg (λl=>l[n]!) e;have this:(Tz 0 (lJ (Tz 0 (jz (Tz 0 q) (Tz 0 [w,jx g]))) (jy r)))[n]! =(Tz 0 (g.map λn=>jx g^k*n))[n]!:=this;rw[tG,tG,mL,tG,jC,er,uP (λ_=>rz) (tG _),uK (aX _)]at this;rw[oM.oK];exact this
 have e:=oM.ext e;have f:oM.con d*sr g=sr [b,a]*sr H:=oM.ext λn=>by rw[oM.oK];exact h.e n
 have c:oM.con a*sr [w,jx g]=oM.con (jx g)*sr [b,a]:=by
  rw[<-uX,<-uX];refine UJ λn=>?_;rw[qi,qi]
  match n with
  |0=>exact p
  |1=>exact bZ _ _
  |n+2=>show a*0=jx g*0;rw[aX,aX]
 have o:oM.con a*(oM.con d*sr [i])=sr [b,a]*sr (q8 (Ih a (Ih (jx g^k) H)) (Ih d (Ih (jx g) (Tz 0 q)))):=by
  rw[ab5,uX,uX,uX,uX];generalize sr [b,a]=A at *
  generalize sr [w,jx g]=C at *
  generalize sr H=B at *
  generalize sr g=G at *
  generalize sr [i]=R at *
  generalize sr (Tz 0 q)=Q at *
  generalize oM.con a=x at *
  generalize oM.con d=y at *
  generalize oM.con (jx g)=l at *
  generalize oM.con (jx g^k)=v at *
  clear h z p s j er t m u;grind
 have:=Za (C:=a*(d*i)) m λn=>by
  rw[adN,<-o,oM.oK,oM.oK];show a*(d*([i]:List Int)[n]!)=_
  match n with
  |0=>rfl
  |n+1=>rw[aF ()];show a*(d*0)=0;rw[aX,aX]
 rcases gA.mp this with q|q
 .exact m q
 .rcases gA.mp q with q|q
  .lia
  .exact t q
theorem aem {g H:Li}{b a d z j:Int}{us:List (List Int)}{r:List Rw}(h:Rt g b a d H)(tz:jy g=g)(p:2*bnd g<z)(v:us[0]'[]=[j,1])(y:2<=ln us)(A:ln us<=5)(s:z ∣ a*j-b)(n:Int.gcd a z=1):¬Ti g z us r:=by
 rintro⟨x,u⟩;have c:=h.g2;have f:jx g≠0:=by have:=lW g (by rw[tz];intro z;rw[z]at c;exact absurd c (()));rw[tz]at this;exact this
 obtain⟨w,e⟩:=h.dvd;have t:1∈stF us:=(Mu yC (wD (ln us:Int))).mem_iff.mpr (Y7 () ());obtain⟨i,o,k⟩:=cO.mp t;have l:(stF us)[i]?=so 1:=by rw[ae o,k]
 have m:r[i]?=so r[i]:=ae ();have:=(u i 1 _ l m).2;rw[aa9 h tz f p v () s n e.symm]at this;exact acX h f e.symm this
structure Pcs (p:Int)(L:List (Int×Int)):Prop where
 pr:mR p
 p31:p<=31
 l2:2<=ln L
 l4:ln L<=4
 b:∀x∈L,x.1.natAbs<=2^21
 a:∀x∈L,x.2=1\/x.2=2\/x.2=3
 g:∀x∈L,¬p ∣ x.2
def wW (x:Int×Int):List Int:=[x.1,x.2]
def prA:List (Int×Int)->Int
 |[]=>1
 |x::r=>x.2*prA r
theorem Jq:∀L:List (Int×Int),(By (L.map wW))[ln L]! =prA L/\∀n,ln L<n->(By (L.map wW))[n]! =0
 |[]=>(rz,λn h=>jH (by show 1<=n;exact h))
 |x::r=>by
  obtain⟨c,a⟩:=Jq r;have e:∀n,(By ((x::r).map wW))[n]! =x.1*(By (r.map wW))[n]!+if n=0 then 0 else x.2*(By (r.map wW))[n-1]!:=λn=>(jC _ _ n).trans (K9 ..);refine(?_,λn h=>?_)
  .rw[e,bC,aF (),a _ (),aX,eE,show ln r+1-1=ln r by lia,c];rfl
  .have h:ln r+1<n:=h;rw[e,aF (),a _ (),a _ (),aX,aX,bJ]
theorem QH:∀{L:List (Int×Int)},(∀x∈L,x.2=1\/x.2=2\/x.2=3)->0<prA L
 |[],_=>by show(0:Int)<1;decide
 |x::r,h=>by have d:=h x az;have a:=QH λy c=>h y (ai _ c);exact Int.mul_pos () a
theorem V2 {p:Int}(c:mR p):∀{L:List (Int×Int)},(∀x∈L,¬p ∣ x.2)->¬p ∣ prA L
 |[],_,h=>by have h:p ∣ 1:=h;have:=i7 (()) h;have:=c.1;lia
 |x::r,h,d=>by
  rcases Iw c (a:=x.2) (b:=prA r) d with q|q
  .exact h x az q
  .exact V2 c (λy e=>h y (ai _ e)) q
theorem Kr:∀(us:List (List Int)) (l:Li),sr (us.foldl (λa f=>Tz 0 (jz a f)) l)=sr l*sr (By us)
 |[],l=>by show sr l=sr l*sr [1];rw[Qi];grind
 |u::r,l=>by show sr (r.foldl (λa f=>Tz 0 (jz a f)) (Tz 0 (jz l u)))=sr l*sr (jz u (By r));rw[Kr,UJ (tG (jz l u)),qN,qN];grind
structure Ye (p:Int)(L:List (Int×Int))(d:Int)(g:List Int):Prop where
 pc:Pcs p L
 d0:0<d
 e:∀n,d*g[n]! =(By (L.map wW))[n]!
 gl:ln g=ln L+1
 tz:jy g=g
 gb:∀m∈g,m.natAbs<=2^92
theorem adw {f:Li}{b a:Int}{A B:Nat}(e:∀m∈f,m.natAbs<=A)(d:b.natAbs<=B)(c:a.natAbs<=B)(n:Nat):(cm f [b,a] n).natAbs<=2*(B*A):=by
 refine abo (g:=[b,a]) e (λm h=>?_) n;rcases aG.mp h with rfl|h
 .exact d
 .rw[af.mp h];exact c
theorem V0 {A k:Nat}(h:A<=2^(22*k)):2*(2^21*A)<=2^(22*(k+1)):=by
 have e:2^(22*(k+1))=2^22*2^(22*k):=by rw[<-Nat.pow_add];congr 1;lia
 rw[e];have:=iZ (2^22) h;lia
theorem Qg {p:Int}{L:List (Int×Int)}(h:Pcs p L):∀i,i<=ln L->ln (kj 0 ((L.take i).map wW))<=1+2*i/\∀m∈kj 0 ((L.take i).map wW),m.natAbs<=2^(22*i)
 |0,_=>(((()):1<=1),λm a=>by rw[af.mp (show m∈[1] from a)];decide)
 |i+1,hi=>by
  obtain⟨j,c⟩:=Qg h i ();have g:L[i]?=so L[i]:=ae ();have a:L[i]∈L:=bR _;have e:kj 0 ((L.take (i+1)).map wW)=Tz 0 (jz (kj 0 ((L.take i).map wW)) (wW L[i])):=by unfold kj;rw[pY g,bv,dP];rfl
  have f:=h.b _ a;have d:=h.a _ a;rw[e];refine(aj (tU 0 _ _) ?_,λm a=>?_)
  .show _+2<=_;lia
  .have a:=oJ a;rw[qU]at a;unfold jz at a;obtain⟨n,_,rfl⟩:=aB.mp a;refine aj (adw c f ?_ n) (V0 (ao _));rcases d with q|q|q<;>rw[q]<;>decide
theorem Um {us:List (List Int)}:∀{l:Li},j9 l->j9 (us.foldl (λa f=>Tz 0 (jz a f)) l):=by
 induction us with
 |nil=>exact λh=>h
 |cons u r i=>exact λ_=>i (lW _)
theorem XD {g:Li}{N:Nat}(h:j9 g)(e:g[N]!≠0)(f:∀n,N<n->g[n]! =0):ln g=N+1:=by
 have a:N<ln g:=dE λz=>e (jH ());have d:g≠[]:=λz=>by rw[z]at a;exact absurd a (dQ _)
 have b:=h d;have c:¬N<ln g-1:=λz=>b (f _ z);lia
theorem drn {p:Int}{L:List (Int×Int)}(h:Pcs p L):0<cont (kj 0 (L.map wW))/\(cont (kj 0 (L.map wW))).natAbs<2^9000/\ln (kj 0 (L.map wW))<=9/\Ye p L (cont (kj 0 (L.map wW))) ((kj 0 (L.map wW)).map λn=>n / cont (kj 0 (L.map wW))):=by
 obtain⟨y,l⟩:=Qg h (ln L) (ao _);rw[cw]at y l;have H:=h.l4;have G:=h.l2;have A:=QH h.a;obtain⟨x,B⟩:=Jq L;have a:∀n,(kj 0 (L.map wW))[n]! =(By (L.map wW))[n]!:=λn=>by
  have:=Kr (L.map wW) [1];rw[Qi]at this;have e:sr (kj 0 (L.map wW))=sr (By (L.map wW)):=by unfold kj;rw[this];grind
  exact congrArg (λs=>s.at' n) e
 have t:j9 (kj 0 (L.map wW)):=Um vI;generalize F:kj 0 (L.map wW)=P at *
 have g:ln P=ln L+1:=XD t (by rw[a,x];lia) λn j=>by rw[a,B n j]
 have tz:jy P=P:=mK (lW _) t λn=>qJ _ n;have k:P≠[]:=λz=>by rw[z]at g;exact absurd g (():¬0=ln L+1)
 have v:P[ln P-1]! =prA L:=by rw[g,show ln L+1-1=ln L by lia,a,x]
 have o:∀m∈P,m.natAbs<2^92:=λm i=>aK (l m i) (aI (()) ());have d:(cont P).natAbs<2^92:=by have:=Xx (f:=P) o (by rw[tz];exact k);rw[tz]at this;exact this
 have r:0<cont P:=by
  have C:cont P≠0:=by have:=QT (f:=P) (by rw[tz];exact k);rw[tz]at this;exact this
  have D:cont P=qz 0 P:=by unfold cont;rw[aF];rintro⟨_,z⟩;rw[Ka P k,v]at z;lia
  have E:=Kh P 0 (ck 0);lia
 have dv:∀n,cont P*(P[n]! / cont P)=P[n]!:=λn=>by
  refine iQ ?_;by_cases c:n<ln P
  .exact zf _ (FM.getD_mem c)
  .rw[jH ()];exact bK _
 have u:∀n,(P.map λn=>n / cont P)[n]! =P[n]! / cont P:=λn=>uK (f:=λn=>n / cont P) (Int.zero_ediv _) P n;refine(r,Nat.lt_trans d (aI (()) (())),(),h,r,λn=>by rw[u,dv,a],by rw[ac,g],?_,λm i=>?_)
 .refine sG λz=>?_;have z:=z.2;rw[u,ac]at z;have:=dv (ln P-1);rw[z,v,aX]at this;lia
 .obtain⟨n,j,rfl⟩:=aB.mp i;exact aj (gX _ _) (a7 (o n j))
theorem Ye.ld {p d:Int}{L:List (Int×Int)}{g:Li}(h:Ye p L d g):d*jx g=prA L:=by have e:=h.e (ln g-1);rw[show ln g-1=ln L by have:=h.gl;lia,(Jq L).1]at e;rw[<-e];show d*g[ln g-1]! =_;rw[show ln g-1=ln L by have:=h.gl;lia]
theorem Ye.lp {p d:Int}{L:List (Int×Int)}{g:Li}(h:Ye p L d g):¬p ∣ jx g:=λz=>V2 h.pc.pr h.pc.g (by rw[<-h.ld];exact be z)
theorem Ye.rt {p d:Int}{x:Int×Int}{r:List (Int×Int)}{g:Li}(h:Ye p (x::r) d g):Rt g x.1 x.2 d (By (r.map wW)):=(h.d0,h.pc.a x az,λn=>by rw[h.e];exact jC _ _ n,by have:=h.gl;have:=h.pc.l2;lia)
def QF (g:List Int)(p m:Int)(us:List (List Int))(a:List Ay):Prop:=∀r,PP g p m->Xg (p^m.toNat) g (us.map (Tz (p^m.toNat)))->Xy p (us.map (Tz (p^m.toNat))) a->¬Ti g (p^m.toNat) (us.map (Tz (p^m.toNat))) r
theorem QF.len {g:Li}{p m:Int}{us:List (List Int)}{a:List Ay}(h:ln a≠ln us):QF g p m us a:=λr _ _ q _=>h (by rw[q.1,ac])
theorem QF.prime {g:Li}{p m:Int}{us:List (List Int)}{a:List Ay}(h:¬mR p):QF g p m us a:=λr q _ _ _=>h q.1
theorem wM {p:Int}(a:2<=p){m:Nat}(h:1<=m):2<=p^m/\p ∣ p^m:=by obtain⟨k,rfl⟩:∃k,m=k+1:=(m-1,());have:1<=p^k:=dD ();rw[bE];have:=aY this (show 0<=p by lia);exact((),Int.dvd_mul_left _ _)
theorem noA {p d m:Int}{L:List (Int×Int)}{g:Li}{k:List Ay}(h:Ye p L d g)(s:1<=m):QF g p m (L.map (Oo (p^m.toNat))) k:=by
 intro v sz _ _;have j:=h.pc.pr.1;obtain⟨a,_⟩:=wM j (m:=m.toNat) ()
 match L,h with
 |[],h=>exact absurd h.pc.l2 ((()):¬2<=0)
 |x::r,h=>
  have c:Int.gcd x.2 (p^m.toNat)=1:=h.pc.pr.qI (λz=>h.pc.g x az (cL z)) _;have o:=h.pc.l4;have l:=h.pc.l2;have i:=sz.2.2.2.2;generalize p^m.toNat=z at *
  obtain⟨y,A,t⟩:=sW a (xZ a c);have u:(((x::r).map (Oo z)).map (Tz z))[0]'[]=[x.1*tu x.2 z % z,1]:=by
   show Tz z [x.1*tu x.2 z % z,1]=_;refine qY (λ_=>((()):(1:Int)≠0)) λn=>?_;rw[nU ()]
   match n with
   |0=>exact dG _ (eX z)
   |1=>exact bx ((()):(0:Int)<=1) (():(1:Int)<z)
   |n+2=>exact fk z
  refine aem h.rt h.tz i u (by rw[ac,ac];exact l) (by rw[ac,ac];lia) ?_ c;have e:z ∣ x.2*(x.1*tu x.2 z % z)-x.2*(x.1*tu x.2 z):=by rw[<-cT];exact be (sY z _)
  have f:z ∣ x.1*(tu x.2 z*x.2-1):=by refine be ?_;have:=dj t;rw[show tu x.2 z*x.2-1 = -(1-tu x.2 z*x.2) by lia];exact bF.mpr this
  have:=br e f;refine(congrArg (z ∣ ·) ?_).mp this;rw[cT,cG,show x.2*(x.1*tu x.2 z)=x.1*(tu x.2 z*x.2) by rw[da,bZ x.2]];lia
theorem noL {g:Li}{p m w:Int}{us:List (List Int)}{j:List Ay}(h:2<=p)(t:2<=m)(x:2<=ln us)(l:us[0]'[]=[w,1]):QF g p m (Wi us (p^m.toNat) (p^m.toNat / p)) j:=by
 intro v _ u _ _;obtain⟨k,hk⟩:∃k,m.toNat=k+2:=(m.toNat-2,());rw[hk]at u;have i:1<=p^k:=dD ();have n:p^(k+1)=p^k*p:=bE ..;have e:p^(k+2)=p^(k+1)*p:=bE ..;have o:=aY i (show 0<=p by lia);have r:=aH h (show 0<=p^(k+1) by lia);have a:p^(k+2) / p=p^(k+1):=by rw[e];exact i6 _ ()
 rw[a]at u;generalize p^(k+2)=z at *
 generalize p^(k+1)=s at *
 have f:(Wi us z s)[0]?=so [w*(1+s) % z,1*(1+s) % z]:=by unfold Wi;rw[cN (()),dU (),l];rfl
 have d:Tz z [w*(1+s) % z,1*(1+s) % z]∈(Wi us z s).map (Tz z):=aB.mpr (_,aP f,rz);have:=(u.1 _ d).2;have c:Tz z [w*(1+s) % z,1*(1+s) % z]=[pl z (w*(1+s) % z),1+s]:=by
  have:pl z (1*(1+s) % z)=1+s:=by rw[bw,bx () (),nU (),bx () ()]
  show jy [pl z (w*(1+s) % z),pl z (1*(1+s) % z)]=_;rw[this];exact vH ()
 rw[c]at this;have this:1+s=1:=this;lia
theorem noC {g:Li}{p m c d a k:Int}{r:List (Int×Int)}{F:List Ay}{al:Bool}(D:2<=p)(G:1<=m)(E:al=true->2<=m)(e:d=c+p*k):QF g p m (KC ((c,a)::(d,a)::r) p (p^m.toNat) al) F:=by
 intro H _ _ B _;obtain⟨I,j⟩:=wM D (m:=m.toNat) ();have u:al=true->p ∣ p^m.toNat / p:=λh=>by have:=E h;obtain⟨k,hk⟩:∃k,m.toNat=k+2:=(m.toNat-2,());rw[hk,bE,i6 _ (),bE];exact Int.dvd_mul_left _ _
 generalize p^m.toNat=z at *
 obtain⟨f,i,t,eu,dv⟩:∃f i t,KC ((c,a)::(d,a)::r) p z al=[f,1]::[i,1]::t/\p ∣ f-i:=by
  have A:p ∣ c*tu a z % z-d*tu a z % z:=by have l:=cU j (sY z (c*tu a z));have o:=cU j (sY z (d*tu a z));have v:p ∣ (c-d)*tu a z:=bM (-k,by rw[e,gx];lia);have:=br (fH l o) v;refine(congrArg (p ∣ ·) ?_).mp this;rw[ie];lia
  unfold KC;cases al with
  |false=>exact(_,_,_,rz,A)
  |true=>
   refine(_,_,_,rz,?_);have u:=u rfl;show p ∣ (c*tu a z % z+z / p) % z-(d*tu a z % z-z / p) % z;generalize c*tu a z % z=x at *
   generalize d*tu a z % z=y at *
   generalize z / p=s at *
   have l:=cU j (sY z (x+s));have o:=cU j (sY z (y-s));have:=br (br (fH l o) A) (br u u);refine(congrArg (p ∣ ·) ?_).mp this;lia
 rw[eu]at B;have C:Tz p (Tz z [f,1])=Tz p (Tz z [i,1]):=mK (lQ _ _) (lQ _ _) λn=>by
  rw[kZ,kZ,kZ,kZ];refine(JF p _ _).mpr ?_;have l:=cU j (nQ z (([f,1]:List Int)[n]!));have o:=cU j (nQ z (([i,1]:List Int)[n]!));have v:p ∣ ([f,1]:List Int)[n]!-([i,1]:List Int)[n]!:=by
   match n with
   |0=>exact dv
   |1=>exact(0,(():(1:Int)-1=p*0))
   |n+2=>exact(0,(():(0:Int)-0=p*0))
  have:=br (fH l o) v;refine(congrArg (p ∣ ·) ?_).mp this;lia
 have:=B.2.1 (Tz p (Tz z [f,1])) az;rw[bi,bi,bi,bi,<-C,iT,iT]at this;lia
theorem noD {p d m:Int}{L:List (Int×Int)}{g:Li}{x:Ay}(h:Ye p L d g)(m1:1<=m):QF g p m [g.map λn=>n*tu (jx g) (p^m.toNat) % p^m.toNat] [x]:=by
 intro rs sz R N _;have c:=h.pc.pr;have M:=c.1;obtain⟨A,C⟩:=wM M (m:=m.toNat) ();have E:Int.gcd (jx g) (p^m.toNat)=1:=c.qI (λz=>h.lp (cL z)) _;have l4:=h.pc.l4;have Z:=h.pc.l2;have Y:=h.gl;generalize p^m.toNat=z at *
 obtain⟨t0,t1,r⟩:=sW A (xZ A E);generalize tu (jx g) z=t at *
 obtain⟨U,S⟩:=R.1 _ (af.mpr rz);have s:∀n,(Tz z (g.map λn=>n*t % z))[n]! =g[n]!*t % z:=λn=>by rw[kZ,uK (f:=λn=>n*t % z) (by rw[bX,fk]),nU ()];exact dG _ (eX z)
 have vl:ln (Tz z (g.map λn=>n*t % z))=ln g:=by
  have a:=lH z (g.map λn=>n*t % z);rw[ac]at a;have b:¬ln (Tz z (g.map λn=>n*t % z))<=ln g-1:=λy=>by
   have:=s (ln g-1);rw[jH y]at this;have e:g[ln g-1]!*t % z=1:=by rw[bZ];exact r
   lia
  lia
 have o:=N.2.2 (Tz p (Tz z (g.map λn=>n*t % z)),x) (af.mpr rz);generalize Tz z (g.map λn=>n*t % z)=v at *
 obtain⟨gg,_,bl⟩:=OD c U () S;have D:∀n,p ∣ (Tz p v)[n]!-g[n]!*t:=λn=>by rw[kZ];have k:=nQ p v[n]!;have i:=cU C (sY z (g[n]!*t));rw[<-s n]at i;have:=br k i;refine(congrArg (p ∣ ·) ?_).mp this;lia
 have Q:p ∣ t*jx g-1:=by have:=cU C (dj r);rw[show t*jx g-1 = -(1-t*jx g) by lia];exact bF.mpr this
 unfold hdB at o;rw[dz]at o;obtain⟨O,j⟩:=o;have j:Zf p (Tz p v) x.2.2:=dE λy=>by rw[XX y]at j;cases j
 generalize Tz p v=b at *
 obtain⟨y,J⟩:=R3 c (V2 c h.pc.g);refine acb gg () (Xd (l:=prA L) (L:=L.map wW) c gg.ok gg.tz () (λn=>?_) J (λu I=>?_) (adz (dI O))) j
 .rw[<-h.e,<-h.ld];have k:p ∣ d*jx g*(b[n]!-g[n]!*t):=be (D n);have i:p ∣ d*g[n]!*(t*jx g-1):=be Q;have:=bF.mpr (br k i);refine(congrArg (p ∣ ·) ?_).mp this;generalize g[n]! =G;generalize b[n]! =B;generalize jx g=l;grind
 .obtain⟨q,F,rfl⟩:=aB.mp I;obtain⟨t,H⟩:=R3 c (h.pc.g q F);exact(q.1,q.2,t,rz,H)
theorem noE {g v:Li}{p m:Int}{h:List Ay}(j:3<=ln g)(k:ln v<=2):QF g p m [v] h:=by
 intro r sz u _ _;have f:=sz.1.1;obtain⟨o,i⟩:=wM f (m:=m.toNat) (by have:=sz.2.2.1;lia);have d:=sz.2.1;generalize p^m.toNat=z at *
 have e:=congrArg (λl=>l[ln g-1]!) u.2;have e:(Tz z ((kj z [Tz z v]).map λn=>jx g*n))[ln g-1]! =(Tz z g)[ln g-1]!:=e;rw[kZ,uK (aX _),kZ]at e;have a:(kj z [Tz z v])[ln g-1]! =0:=by show(Tz z (jz [1] (Tz z v)))[ln g-1]! =0;rw[kZ,jC,KQ,kZ,jH (),oA,oA]
 rw[a,aX,oA]at e;have:=nQ z (jx g);have c:pl z (jx g)=0:=e.symm;rw[c,Int.zero_sub]at this;exact d (bV (cU i (bF.mp this)))
theorem Fj (n:Nat):((2^n:Nat):Int)=(2:Int)^n:=by rw[iM];rfl
theorem Vb {p:Int}{g:Li}(j:2<=p)(a:p<=31)(n:ln g<=5)(c:∀m∈g,m.natAbs<=2^92):1<=pH p (2*bnd g)/\pH p (2*bnd g)<=400/\p^(pH p (2*bnd g)).toNat<((2^200:Nat):Int):=by
 obtain⟨⟨e,_,f⟩,i⟩:=Rg (fs:=g) j () λm d=>aj (c m d) (aW (()) (()));refine(e,i,?_);have b:bnd g<=2^99:=by
  obtain⟨s,l⟩:=RD c;unfold bnd;have h:(2:Int)^(ln g-1)<=2^4:=sJ (()) ();have o:(g.map jV).sum<=5*2^92:=by rw[Fj]at l;have r:(ln g:Int)*2^92<=5*2^92:=aY () (());lia
  have t:(g.map jV).sum*2^(ln g-1)<=(g.map jV).sum*2^4:=aH h s;lia
 generalize pH p (2*bnd g)=m at *
 rw[Fj];rcases f with q|q
 .rw[q];show p^1<_;rw[bE,eC,bw];lia
 .obtain⟨k,hk⟩:∃k,m.toNat=k+1:=(m.toNat-1,());rw[show(m-1).toNat=k by lia]at q;rw[hk,bE];have h0:0<=p^k:=gL (dD ());have h:p^k*p<=p^k*31:=aH a h0;lia
def yD (f:List Int):Int:=pH (zH f) (2*bnd f)
theorem Qj {a b:Int}(e:a=1\/a=2\/a=3)(f:b.natAbs<=2^21):LfO (zH [b,a]) (yD [b,a]).toNat a b/\1<=yD [b,a]/\yD [b,a]<=400/\zH [b,a]<=5/\zH [b,a]^(yD [b,a]).toNat<((2^200:Nat):Int):=by
 obtain⟨pr,ld,o⟩:=acM (b:=b) e;have p:=pr.1;obtain⟨i,j,d⟩:=Vb (g:=[b,a]) p () ((()):2<=5) λm c=>by
  rcases aG.mp c with rfl|c
  .exact aj f (())
  .rw[af.mp c];rcases e with rfl|rfl|rfl<;>decide
 have r:=(wM p (m:=(yD [b,a]).toNat) (by unfold yD;lia)).1;have l:¬a % zH [b,a]=0:=λz=>ld (by rw[nU ()];exact z);have t:∀{n k:Nat},n<=2^k->k<9000->n<2^9000:=λh k=>aK h (aI (()) k);refine((pr,by unfold yD;lia,by unfold yD;lia,ld,t (k:=2) () (()),t f (()),(r,?_),pr.qI l _),i,j,o,d);have d:zH [b,a]^(yD [b,a]).toNat<((2^200:Nat):Int):=d;generalize zH [b,a]^(yD [b,a]).toNat=z at *
 have:z.natAbs<2^200:=()
 exact aQ this (aW (()) (()))
def Gv:PV:=.tup [.ints [],.ints [1],jE [[]]]
def KY:Ok P w K mg base 11 "start_of" ["g"] (uE K (Gk cW cR cP) (λas=>∃a b,as=[.ints [b,a]]/\(a=1\/a=2\/a=3)/\b.natAbs<=2^21) λs=>(λf=>PV.tup [.int (zH f),.int (yD f),jE [NP (zH f^(yD f).toNat) f],.lst [Gv]]) (lI s 0)):=by
 refine pX T.Pz ph '!' (λf G A u s H E o=>(_,(jr (jA (i:=1) ph.nd rz k4 (yW (Gu T) o %[xl 0|_])) (jr (jA (i:=2) ph.nd rz k4 (yW (Nb T) o %[xn 1,xl 0|_])) (jr (jQ (i:=3) ph.nd rz (Or.inr rz) (Zu (zq T) o Yl (xn 1))) (jr (Up (i:=4) ph.nd rz rz (N':=["piece","often"]) (cap:=[]) (kW rz rz rz rz tT tT rz) rz (kJ (jF (xc (V8 T) o %[xv 3,xl 0|_]) jt (λ_ _=>rz))) (λ_ _ _=>(pg_tup rz (pgs_cons (lO 0) (pgs_cons (lO 1) pgs_nil)))) (λ_ _ _=>(xl 0)) rz) (jr (rD (i:=5) ph.nd rz rz (N':=["piece","kind"]) (cap:=[so 3]) (kW rz rz rz rz ((rz,.inr (.inl rz),sS,.inl rz,_,rz,rz),tT) (rz,tT) rz) rz (kJ (xv 4)) (λ_ _ _=>(lO 0)) (λ_ _ _=>(xc (Vm T) o %[xv 1,xl 0|_])) rz) (jw (jB (nj %[xn 1,xn 2,xc (SN T) o %[xn 1,xn 2,xl 0,xv 4|_],xv 5|_])))))))),λas L=>?_))
 obtain⟨a,b,rfl,x,y⟩:=L;obtain⟨l,O,Q,R,S⟩:=Qj x y;have F:a≠0:=()
 have v:jy [b,a]=[b,a]:=vH F;have C:jy [b,a]≠[]:=by rw[v];simp
 have M:=l.pr.1;have J:∀m∈([b,a]:List Int),m.natAbs<=2^200:=λm t=>by
  rcases aG.mp t with rfl|t
  .exact aj y (aW (()) (()))
  .rw[af.mp t];exact aj (show a.natAbs<=2^2 by lia) (aW (()) (()))
 obtain⟨c,z,r⟩:=Df (b:=b) l.pr l.ld;have B:(((yD [b,a]).toNat:Nat):Int)=yD [b,a]:=()
 refine(((rz,tT),[b,a],rz,((()):2<=100),C,5,abk,WN x),λp g=>?_);replace g:p=zH [b,a]:=g;refine(((rz,rz,tT),p,[b,a],rz,by rw[g];exact M,by rw[g];lia,((()):2<=40),J,C),λm n=>?_);replace n:m=yD [b,a]:=by have n:m=pH p (2*bnd (jy [b,a])):=n;rw[n,v,g];rfl
 have I:PV.tup [.int p,.int m,jE [NP (p^m.toNat) [b,a]],.lst [Gv]]=.tup [.int (zH [b,a]),.int (yD [b,a]),jE [NP (zH [b,a]^(yD [b,a]).toNat) [b,a]],.lst [Gv]]:=by rw[g,n]
 rw[<-g]at l z r;rw[<-n]at l B;refine((rz,l.pr),λrd k=>?_);replace k:rd=.ob 0 p:=k;subst k;refine jD (ρ':=[k7 [b,a],k6 p,k6 m,.fr (.ob 0 p),.un,.un]) rz ?_;refine((((((rz,rz,tT),p,a,b,rz,l.pr,l.ld),tT,i1),rz),((()):1<=1000),λq d=>?_,λq d=>?_),λD e=>?_)
 .have d:q∈[zQ (zE p (Tz p [b,a]))]:=d;rw[af.mp d];rfl
 .have d:q∈[zQ (zE p (Tz p [b,a]))]:=d;rw[af.mp d];rfl
 replace e:D=[.ints [c,1]]:=by have e:D=[PV.ints (zE p (Tz p [b,a]))]:=e;rw[e,r]
 subst e;refine jD (ρ':=[k7 [b,a],k6 p,k6 m,.fr (.ob 0 p),.fr (.lst [.ints [c,1]]),.un]) rz ?_;refine(((rz,rz),((()):1<=1000),λq d=>?_),λN j=>?_)
 .have d:q∈[PV.ints [c,1]]:=d;rw[af.mp d];exact((rz,rz,tT),p,c,rz,z)
 replace j:N=[Gv]:=j;subst j;refine jD (ρ':=[k7 [b,a],k6 p,k6 m,.fr (.ob 0 p),.fr (.lst [.ints [c,1]]),.fr (.lst [Gv])]) rz ?_;refine((rz,rz,((rz,rz,rz,rz,tT),p,m.toNat,a,b,?_,l),rz,tT),?_)
 .rw[B,r];rfl
 .exact I
theorem YF:xf yC (wD 1)=[]:=by
 have e:wD 1=[]:=by
  unfold wD;show((ss 1).filter λ(k:Nat)=>decide (2*yC (1+(k:Int))<=1)).map (λ(k:Nat)=>1+(k:Int))=[];have:yC (1+((0:Nat):Int))=1:=by show yC 1=1;rw[Rp (()),show(1:Int) / 2=0 by decide,Ri];rfl
  rw[show ss 1=[0] from rz,ft (by rw[this];decide)];rfl
 rw[e];exact(Mu yC []).eq_nil
theorem i4 {a b c d:PV}{n:Int}(h:0<=n)(k:n<4):lY (.tup [a,b,c,d]) n:=((():(-4:Int)<=n),k)
def TY:Ok P w K mg base 12 "looked" ["g"] (uE K (Gk cW cR cP) (λas=>∃a b,as=[.ints [b,a]]/\(a=1\/a=2\/a=3)/\b.natAbs<=2^21) λs=>(λf=>PV.tup [.str "paper",Cq (zH f) (yD f) [NP (zH f^(yD f).toNat) f] [([],[1],[[]])] []]) (lI s 0)):=by
 refine pX T.X8 rG '!' (λf B A r s H E g=>(_,(jr (jG (i:=1) rG.nd rz k4 (jJ (m6 (jL T) g %[z7 (mH T) g Az,xl 0|_]))) (jr (jQ (i:=2) rG.nd rz k4 (xc (KY T) g %[xl 1|_])) (jr (jA (i:=3) rG.nd rz k4 (yW (pK T) g %[n6 (jF (xv 2) jt (λ_ _=>rz)),n6 (jF (xv 2) jt (λ_ _=>rz))|_])) (jr (oW (i:=4) rG.nd rz k4 (oN ju)) (jr (wC (k:=5) aw rz (Yb (Sx T) g %[lL T.jM (jF (xv 2) jt (λ_ _=>rz))|_]) rG.nd rz k4 (jr lA (jr lA (jr lA (jw lA))))) (j7 4 (jw (jB (nj %[O4,nj %[n6 (jF (xv 2) jt (λ_ _=>rz)),n6 (jF (xv 2) jt (λ_ _=>rz)),jF (xv 2) jt (λ_ _=>rz),jF (xv 2) jt (λ_ _=>rz),xv 4|_]|_]))))))))),λas D=>?_))
 obtain⟨a,b,rfl,t,v⟩:=D;obtain⟨F,G,I,L,O⟩:=Qj t v;have J:=F.pr.1;have y:a≠0:=()
 have C:jy (([b,a]:List Int).map (pl 0))=[b,a]:=vH y;refine(((tT,rz,tT),0,[b,a],rz,((()):2<=1000)),λx d=>?_);replace d:x=[b,a]:=iO (show x=jy (([b,a]:List Int).map (pl 0)) from d) C;subst d;refine(((rz,tT),a,b,rz,t,v),λN c=>?_);replace c:N=.tup [.int (zH [b,a]),.int (yD [b,a]),jE [NP (zH [b,a]^(yD [b,a]).toNat) [b,a]],.lst [Gv]]:=c;subst c;obtain⟨p,ep⟩:∃p,p=zH [b,a]:=(_,rz);obtain⟨m,em⟩:∃m,m=yD [b,a]:=(_,rz);obtain⟨u,eu⟩:∃u,u=NP (p^m.toNat) [b,a]:=(_,rz);have fin:PV.tup [.str "paper",Cq p m [u] [([],[1],[[]])] []]=.tup [.str "paper",Cq (zH [b,a]) (yD [b,a]) [NP (zH [b,a]^(yD [b,a]).toNat) [b,a]] [([],[1],[[]])] []]:=by rw[eu,ep,em]
 rw[<-ep,<-em]at O;rw[<-ep]at J L;rw[<-em]at G I;rw[<-ep,<-em,<-eu];refine jD (ρ':=[k7 [b,a],k7 [b,a],.fr (.tup [.int p,.int m,jE [u],.lst [Gv]]),.un,.un,.un,.un,.un]) rz ?_;refine(((((rz,tT,i4 (()) (())),rz),((rz,tT,i4 (()) (())),rz),tT),tT,rz,(():0<=m),(():m<=400),.inl ((():-(2:Int)^64<p),(():p<(2:Int)^64))),λz Q=>?_);refine(tT,λM e=>?_);replace e:M=[]:=e;subst e;refine jD (ρ':=[k7 [b,a],k7 [b,a],.fr (.tup [.int p,.int m,jE [u],.lst [Gv]]),k6 z,.ow (.lst []),.un,.un,.un]) rz ?_;refine(((((rz,tT,i4 (()) (())),tT),tT),1,rz,(()),(())),λi l=>l=[k7 [b,a],k7 [b,a],.fr (.tup [.int p,.int m,jE [u],.lst [Gv]]),k6 z,.ow (.lst []),.un,.un,.un],rz,?_,?_)
 .intro i n l j _;have j:(xf yC (wD 1))[i]?=so n:=j;rw[YF]at j;cases j
 .intro l o;have o:l=[k7 [b,a],k7 [b,a],.fr (.tup [.int p,.int m,jE [u],.lst [Gv]]),k6 z,.ow (.lst []),.un,.un,.un]:=o;subst o;exact((tT,(((rz,tT,i4 (()) (())),rz),((rz,tT,i4 (()) (())),rz),(rz,tT,i4 (()) (())),(rz,tT,i4 (()) (())),rz,tT),tT),fin)
section
variable {X:Cx}{G:Gx}{pos:Pos}{C:En->Prop}
theorem ab1 {a b:Expr}{i:En->Prop}{g e:En->Str}(l:PE X a (tXS X.K G C g))(m:PE X b (tXS X.K G i e)):PT X (.Compare a [.NotEq] [b] pos) (vz X.K G (λd=>C d/\i d) λd=>¬g d=e d):=
 λp s r H Q I (_,d,_,R,c,q)=>pt_cmpR op_ne l m (nomark _) p s r H Q I (two R c.1 c.2 λv u _ j n o f h=>by
  have f:v=.str (g d):=f;have h:u=.str (e d):=h;subst f h;refine(rz,_,rz,?_);have k:=q j (n.trans o);by_cases z:g d=e d
  .simpa [z] using k
  .simpa [z] using k)
end
def pcP (ns:List Int)(p wd:Int)(k:Nat):Int×Int:=(ns[2+k]! % 10^18 / 3 % (2*wd+1)-wd,Uy p (ns[2+k]! % 10^18))
def GK (ns:List Int)(p wd:Int):List (Int×Int):=(ss (Ky ns)).map (pcP ns p wd)
theorem ab0 (ns:Li)(p wd:Int):((ss (Ky ns)).map (Yh ns p wd)).map PV.ints=(GK ns p wd).map uG:=by unfold GK;rw[bj,bj];exact aO λ_ _=>rfl
theorem ab7 {p n:Int}(a:mR p):(Uy p n=1\/Uy p n=2\/Uy p n=3)/\¬p ∣ Uy p n:=by
 have c:=a.1;have h:¬p ∣ 1:=λz=>by have:=i7 (()) z;lia
 unfold Uy;split
 .exact(.inl rz,h)
 .rename_i q;exact((),λz=>q (bV z))
theorem Z7 {ns:Li}{p wd:Int}(e:mR p)(a:p<=31)(i:0<=wd)(j:wd<=10^6):Pcs p (GK ns p wd)/\∀x∈GK ns p wd,x.1.natAbs<=10^6:=by
 have l:ln (GK ns p wd)=Ky ns:=by unfold GK;rw[ac,aC]
 have d:∀x∈GK ns p wd,x.1.natAbs<=10^6:=λx h=>by
  obtain⟨k,_,rfl⟩:=aB.mp h;have f:=a8 (ns[2+k]! % 10^18 / 3) (show 2*wd+1≠0 by lia);have g:=aV (ns[2+k]! % 10^18 / 3) (show 0<2*wd+1 by lia);show(ns[2+k]! % 10^18 / 3 % (2*wd+1)-wd).natAbs<=10^6;generalize ns[2+k]! % 10^18 / 3 % (2*wd+1)=y at *
  lia
 have c:∀x∈GK ns p wd,(x.2=1\/x.2=2\/x.2=3)/\¬p ∣ x.2:=λx h=>by obtain⟨k,_,rfl⟩:=aB.mp h;exact ab7 e
 have n:2<=Ky ns/\Ky ns<=4:=by unfold Ky;lia
 exact((e,a,(),(),λx h=>aj (d x h) (()),λx h=>(c x h).1,λx h=>(c x h).2),d)
theorem V3 {p k:Int}{x y:Int×Int}{r:List (Int×Int)}(h:Pcs p (x::y::r))(f:x.1.natAbs<=10^6)(k1:1<=k)(d:k<=4):Pcs p (x::(x.1+p*k,x.2)::r):=by
 have g:=h.pr.1;have c:=h.p31;have m:∀q∈x::(x.1+p*k,x.2)::r,q=(x.1+p*k,x.2)\/q∈x::y::r:=λq a=>by
  rcases aG.mp a with rfl|a
  .exact .inr az
  .rcases aG.mp a with rfl|a
   .exact .inl rfl
   .exact .inr (ai _ (ai _ a))
 have h0:p*1<=p*k:=aH k1 ();have e:p*k<=p*4:=aH d ();refine(h.pr,c,h.l2,h.l4,λq a=>?_,λq a=>?_,λq a=>?_)
 .rcases m q a with rfl|q'
  .show(x.1+p*k).natAbs<=2^21;lia
  .exact h.b q q'
 .rcases m q a with rfl|q'
  .exact h.a x az
  .exact h.a q q'
 .rcases m q a with rfl|q'
  .exact h.g x az
  .exact h.g q q'
theorem I9 {z n:Int}(h:0<z):0<=n % z/\n % z<z:=(a8 _ (),aV _ h)
theorem NQ {z n:Int}(a:2<=z):ln ([n % z,1]:Li)=2/\Be z [n % z,1]:=(rz,λm h=>by
 rcases aG.mp h with rfl|h
 .exact I9 ()
 .rw[af.mp h];lia)
theorem ab3 {L:List (Int×Int)}{p z:Int}{al:Bool}(a:2<=z)(l:2<=ln L):ln (KC L p z al)=ln L/\(∀u∈KC L p z al,ln u=2/\Be z u)/\∃w,(KC L p z al)[0]'[]=[w,1]:=by
 match L,l with
 |x::y::r,_=>
  have h0:∀u∈(x::y::r).map (Oo z),ln u=2/\Be z u:=λu h=>by obtain⟨q,_,rfl⟩:=aB.mp h;exact NQ a
  unfold KC;cases al with
  |false=>exact(ac _,h0,_,rz)
  |true=>
   refine(by show((ln (List.map (Oo z) r)+1)+1)=(ln r+1)+1;rw[ac],λu h=>?_,_,rz);rcases aG.mp h with rfl|h
   .exact NQ a
   .rcases aG.mp h with rfl|h
    .exact NQ a
    .exact h0 u (ai _ (ai _ h))
theorem acg {us:List (List Int)}{z st:Int}(j:0<z)(i:2<=ln us)(h:∀u∈us,ln u=2/\Be z u):ln (Wi us z st)=ln us/\∀u∈Wi us z st,ln u=2/\Be z u:=by
 match us,i with
 |x::y::r,_=>
  have e:=h x az;have g:=h y (ai _ az);refine(rz,λu a=>?_);have c:∀(f:Int->Int) (l:List Int),Be z (l.map λn=>f n % z):=λf l m d=>by obtain⟨n,_,rfl⟩:=aB.mp d;exact I9 j
  rcases aG.mp a with rfl|a
  .exact(by rw[ac];exact e.1,c (λn=>n*(1+st)) x)
  .rcases aG.mp a with rfl|a
   .exact(by rw[ac];exact g.1,c (λn=>n*(1-st)) y)
   .exact h u (ai _ (ai _ a))
theorem aeC {p d way:Int}{L:List (Int×Int)}{g:Li}(h:Ye p L d g):1<=Ux p g way/\Ux p g way<=400/\p^(Ux p g way).toNat<((2^200:Nat):Int):=by
 have c:=h.pc.pr.1;have a:=h.pc.p31;obtain⟨i,j,f⟩:=Vb (g:=g) c a (by have:=h.gl;have:=h.pc.l4;lia) h.gb;unfold Ux;generalize pH p (2*bnd g)=m at *
 split
 .split
  .exact((),(),Int.lt_of_le_of_lt (sJ c ()) f)
  .exact((),(),Int.lt_of_le_of_lt (sJ c ()) f)
 .split
  .refine((),(),?_);have k:p^(1+m % 4).toNat<=p^4:=sJ c ();have l:p^4<=31^4:=by
    have e:∀x:Int,x^4=(x*x)*(x*x):=λx=>by rw[bE,bE,bE,bE,eC,bw,bQ]
    rw[e,e];have:p*p<=31*31:=gT a a () (());exact gT this this (eO () ()) (())
   rw[Fj];lia
  .exact(i,j,f)
theorem Qu:O7 ([],[1],[[]]):=by
 have n:Bd []:=λm h=>by cases h
 have ob:Bd [1]:=λm h=>by rw[af.mp h];exact aK (show(1:Int).natAbs<=2^0 by decide) (aI (()) (()))
 exact(((()):0<=100),((()):1<=100),n,ob,((()):1<=100),λr a=>by rw[af.mp a];exact(((()):0<=100),n))
def dpP (ns g:List Int):Ay:=(qj (Tw ns (ln g*ln g)) none (so (ln g:Int)),qj (Tw ns (ln g*ln g)) (so (ln g:Int)) (so (2*(ln g:Int))),(ss (ln g-1)).map λ(k:Nat)=>qj (Tw ns (ln g*ln g)) (so ((ln g:Int)*(k:Int))) (so ((ln g:Int)*(k:Int)+(ln g:Int)-2)))
theorem abh {ns g:Li}(h:ln g<=8):O7 (dpP ns g):=by
 have l:ln g*ln g<=64:=gV h h;have n:(Tw ns (ln g*ln g)).length<=64:=by unfold Tw;rw[ac,aC];exact l
 have i:Bd (Tw ns (ln g*ln g)):=λm e=>by obtain⟨k,_,rfl⟩:=aB.mp e;have o:=a8 (ns[8+k]! % 10^18) (show(31:Int)≠0 by decide);have p:=aV (ns[8+k]! % 10^18) (show(0:Int)<31 by decide);refine aK (show(ns[8+k]! % 10^18 % 31).natAbs<=2^5 by lia) (aI (()) (()))
 unfold dpP;generalize Tw ns (ln g*ln g)=c at *
 have a:∀f d,ln (qj c f d)<=100/\Bd (qj c f d):=λf d=>(aj (zr _ _ _) (),λm e=>i m (f8 (f7 e)));refine((a _ _).1,(a _ _).1,(a _ _).2,(a _ _).2,by show((ss (ln g-1)).map _).length<=100;rw[ac,aC];lia,λr j=>?_);obtain⟨k,_,rfl⟩:=aB.mp j;exact a _ _
theorem rw_ok {g:Li}{z way b:Int}{us:List (List Int)}(H:ln g<=8)(o:∀m∈g,m.natAbs<=2^200)(f:0<z)(D:z<((2^200:Nat):Int))(M:ln us<=5)(C:∀u∈us,ln u<=8/\Be z u):Uh (Gq g z us way b):=by
 have l:ln (Ov g z us b)<=50/\∀m∈Ov g z us b,m.natAbs<=2^200:=by obtain⟨s,_⟩:=Ry (b:=b) (uss:=us) (l0:=[jx g % z]) f (ao _) (λm h=>by rw[af.mp h];exact I9 f) (λu x=>(C u x).1) (ln us);unfold Ov;refine(aj (lz _) (by rw[ac];lia),λm h=>?_);obtain⟨n,_,rfl⟩:=aB.mp (oJ h);exact abu f D
 unfold Gq;dsimp only;generalize e:(if ln (Ov g z us b)=0 then[1] else Ov g z us b)=c;have d:0<ln c/\ln c<=50/\∀m∈c,m.natAbs<=2^200:=by
  rw[<-e];split
  .exact(Nat.zero_lt_one,((()):1<=50),λm h=>by rw[af.mp h];exact fB)
  .exact((),l)
 obtain⟨k,S⟩:=Wu d.2.2 d.1 (ln g+1) [] g 0 (ao _,(),(λm h=>by cases h),o);have y:k<=8:=by have:=S.rl;lia
 have s:ln (jy (Fl g c).1)<=8:=aj (lz _) (aj S.ql y);have t:ln (jy (Fl g c).2)<=8:=aj (lz _) (by have:=S.rl;show(stN c (ln g+1) [] g).2.length<=8;lia);have j:∀m∈jy (Fl g c).1,m.natAbs<=2^2000:=λm h=>aj (S.qb m (oJ h)) (aW (()) ());have p:(2:Nat)^2001<2^9000:=aI (()) (());have G:(2:Nat)^2001=2*2^2000:=by rw[jm,jc]
 have o2:1<=(2:Nat)^2000:=fB;generalize jy (Fl g c).1=q at *
 generalize v:(if ln (jy (Fl g c).2)=0/\way=0 then[1] else jy (Fl g c).2)=r;have I:ln r<=8:=by
  rw[<-v];split
  .show 1<=8;decide
  .exact t
 have i:∀a b:List Int,ln a<=50->ln b<=50->ln (jy (lJ a b))<=100:=λa b J L=>aj (lz _) (by unfold lJ;rw[ac,aC];lia);generalize (2:Nat)^2001=A at *
 generalize (2:Nat)^2000=B at *
 split
 .refine(i q [-1] () ((()):1<=50),i r c () d.2.1,λm h=>aK ?_ p);have h:=oJ h;unfold lJ at h;obtain⟨n,_,rfl⟩:=aB.mp h;have E:=Bc j n;have F:(([-1]:List Int)[n]!).natAbs<=1:=by
   match n with
   |0=>decide
   |n+1=>show(0:Int).natAbs<=1;decide
  lia
 .exact((():ln q<=100),(():ln r<=100),λm h=>aK (by have:=j m h;lia) p)
theorem MJ {d:Type}(f:d->PV)(l:List d)(c h:Option Int):∃a:List d,vy (l.map f) c h=a.map f/\(∀x∈a,x∈l)/\ln a<=ln l:=((l.drop (HT.sIx (ln l) 0 c)).take (HT.sIx (ln l) (ln l) h-HT.sIx (ln l) 0 c),by unfold vy;rw[ac,List.map_take,hZ],λx e=>f8 (f7 e),by rw[cu,bW];lia)
theorem trim_zeros {g:Li}(h:jy g=g)(k:Nat):jy (g++sP k 0)=g:=by
 refine mK (lW _) (by rw[<-h];exact lW g) λn=>?_;rw[qJ,gQ,gQ];by_cases c:n<ln g
 .rw[bB c]
 .rw[bD (),bu (l:=g) (),cI];split<;>rfl
theorem whb {g:Li}{k:Nat}{p m:Int}{us:List (List Int)}{d:List Ay}{r:List Rw}(y:ln g<=5)(k2:k<=2)(f:∀m∈g,m.natAbs<=2^92)(tz:jy g=g)(v:ln us<=5)(t:∀u∈us,ln u<=8)(pl:ln d<=5)(o:∀x∈d,O7 x)(s:∀x∈r,Uh x)(j:PP g p m->p^m.toNat<((2^200:Nat):Int))(l:QF g p m us d):WhB (g++sP k 0) p m us d r:=by
 have e:=trim_zeros tz k;refine(by rw[aS,aR];lia,λn i=>?_,v,t,pl,o,s,by rw[e];exact j,by rw[e];exact λa _ b c=>l r a b c);rcases cF.mp i with h|h
 .exact aK (f n h) (aI (()) (()))
 .rw[(List.mem_replicate.mp h).2];exact fI (())
theorem Vc {p:Int}{x:Int×Int}{r:List (Int×Int)}(h:Pcs p (x::r)):0<cont [x.1,x.2]/\(cont [x.1,x.2]).natAbs<2^9000/\(x.2 / cont [x.1,x.2]=1\/x.2 / cont [x.1,x.2]=2\/x.2 / cont [x.1,x.2]=3)/\(x.1 / cont [x.1,x.2]).natAbs<=2^21:=by
 have k:=h.a x az;have e:=h.b x az;have m:x.2∈[x.1,x.2]:=ai _ az;have dv:=zf (w:=[x.1,x.2]) _ m;have a:0<cont [x.1,x.2]:=by
  have g:cont [x.1,x.2]≠0:=λz=>by rw[z]at dv;have:=jj.mp dv;lia
  have i:cont [x.1,x.2]=qz 0 [x.1,x.2]:=by unfold cont;rw[aF];rintro⟨_,z⟩;have z:x.2<0:=z;lia
  have j:=Kh [x.1,x.2] 0 (ck 0);lia
 have f:=i7 () dv;obtain⟨q,l⟩:=dv;generalize cont [x.1,x.2]=c at *
 have d:c=1\/c=2\/c=3:=()
 refine(a,aK (show c.natAbs<=2^2 by lia) (aI (()) (())),?_,aj (gX _ _) e);rcases d with rfl|rfl|rfl<;>lia
set_option maxHeartbeats 8000000
structure aeq (p:Int)(L:List (Int×Int))(al:Bool):Prop where
 pc:Pcs p L
 ak:al=true->∃b a k r,L=(b,a)::(b+p*k,a)::r
def abE {f:Addr}{fd:FuncData}(F:Fun K "law" "law" Hj f fd):FnOk P w K mg base CX0 16 f fd ["_law_script"] (Al K):=by
 refine adX (G:=Gk cW cR cP) F lZ (λcdv A outer s H E U=>(_,(jr (jA (i:=1) lZ.nd rz k4 (yW (Zb T) U %[xr 0|_])) (jr (jA (i:=2) lZ.nd rz k4 (yW (Dz T) U %[jU (nA (xn 1) jt) jt|_])) (jr (oW (i:=3) lZ.nd rz k4 (xcp (Ub T) U %[xr 0,xn 2,n6 (jF (jJ (j8 %[jt,yc jt jt|_])) (jU (nA (xn 1) jt) jt) (λ_ _=>rz))|_])) (jr (jQ (i:=4) lZ.nd rz k4 (adk (jU (xn 1) jt) jt)) (lU (jX (G8 (xb 4)) (jw (yt 3 jt (jJ (j8 %[km (n6 (jF (xl_of (yM 3 jt (λ_ _=>rz))) jt (λ_ _=>rz))) (kO (xn 2) (km jt (jU (nA (xn 1) jt) jt))),n6 (jF (xl_of (yM 3 jt (λ_ _=>rz))) jt (λ_ _=>rz))|_])))) jN) (j7 3 (jr (jG (i:=5) lZ.nd rz (Or.inr rz) (jJ (j8 %[jt|_]))) (jr (vD (k:=6) aw rz (kJ (xv 3)) lZ.nd rz k4 (jw (jG (i:=5) lZ.nd rz (Or.inr rz) (jJ (m6 (yX T) U %[xl 5,xl 6,jt|_]))))) (jr (jG (i:=5) lZ.nd rz (Or.inr rz) (jJ (m6 (RP T) U %[xl 5|_]))) (jr (jA (i:=7) lZ.nd rz k4 (yW (YZ T) U %[xl 5,xn 2,jU (nA (xn 1) jt) jt|_])) (jr (jA (i:=8) lZ.nd rz (Or.inr rz) (yW (Eo T) U %[xn 2,xn 7|_])) (jr (jQ (i:=9) lZ.nd rz k4 (xc (abg T) U %[xv 3,xn 2,xn 8,FN (xb 4) (pe_one (XR (xn 7) jt))|_])) (lU (jX (L2.PW.pt (uJ (nJ (jU (nA (xn 1) (yc jt jt)) jt) jt) (qW (pZ (xn 7) jt)))) (jw (jQ (i:=9) lZ.nd rz k4 (xc (aaW T) U %[xv 9,xn 8,nA (xn 8) (xn 2)|_]))) jN) (jr (rD (i:=10) lZ.nd rz rz (N':=["_law_up"]) (cap:=[]) (kW rz rz rz rz tT tT rz) rz (kJ (xv 9)) (λ_ _ _=>(lO 0)) (λ_ _ _=>(nj %[jJ (j8 ju),jJ (j8 %[jt|_]),nZ (oN %[jJ (j8 ju)|_])|_])) rz) (lU (jX (nJ (jU (nA (xn 1) jt) jt) jt) (jr (jQ (i:=9) lZ.nd rz k4 (nZ (oN %[jJ (pQ (N':=["_law_number","_law_size","_law_g"]) (cap:=[so 8,so 5]) (kW rz rz rz rz ((rz,.inr (.inl rz),sS,.inl rz,_,rz,rz),((rz,.inr (.inl rz),sS,.inl rz,_,rz,rz),tT)) (rz,(rz,tT)) rz) rz (xl 5) (λ_ _ _=>(lO 0)) (λ_ _ _=>(jU (kO (xn 0) (yW (w5 T) U %[kI 2 (lV jt) (λ_ _=>rz),xn 1|_])) (xn 1))))|_]))) (jw (jQ (i:=10) lZ.nd rz k4 (nZ (oN %[xc (Do T) U %[xr 0,xl 5|_]|_]))))) jN) (jr (jQ (i:=11) lZ.nd rz k4 (xc (YQ T) U %[xl 5,xn 8,xv 9,jU (nA (xn 1) jt) jt|_])) (jr (jA (i:=12) lZ.nd rz k4 (jU (nA (xn 1) jt) jt)) (lU (jX (nJ (xn 12) jt) (jw (jQ (i:=11) lZ.nd rz k4 (nZ (Ds (nZ (pW (kJ (xv 11)) (lK jt) mW)) (nZ (pW (kJ (xv 11)) mW (lK (jU (lL T.jM (xv 11)) jt)))))))) jN) (lU (jX (nJ (xn 12) jt) (jw (jA (i:=2) lZ.nd rz k4 (kO (xn 2) (km jt (jU (nA (xn 1) jt) jt))))) jN) (lU (jX (L2.PW.pt (qK (nJ (xn 12) jt) (rH (nJ (xn 12) jt)))) (jw (jQ (i:=10) lZ.nd rz k4 (nZ (YS (pW (kJ (xv 10)) (lK jt) mW) (lw jt (xn 12)))))) jN) (jr (jQ (i:=13) lZ.nd rz k4 (nj %[xn 2,xn 7,xv 9,xv 10,xv 11|_])) (lU (jX (nJ (xn 12) jt) (jr (Yn (xc (TY T) U %[jJ (m6 (RP T) U %[xl_of (jF (xv 3) jt (λ_ _=>rz))|_])|_]) (pg_tup rz (pgs_cons (pg_name (i:=14) lZ.nd rz k4) (pgs_cons (pg_name (i:=15) lZ.nd rz k4) pgs_nil)))) (jr (jX (ab1 (xs 14) O4) (jw (jB vP)) jN) (jw (jQ (i:=13) lZ.nd rz k4 (xv 15))))) jN) (jw (jB (abR (Uu (Fw T) U %[jJ (uT (xl 5) (jJ (rW (j8 %[jt|_]) (jU (nA (xn 1) (yc jt jt)) jt) (λ_=>rz)))),xv 13|_])))))))))))))))))))))))))),λns h63 hbits=>?_))
 clear hbits;refine(((rz,tT),ns,rz),λc ehd=>?_);have hd0:0<=c:=by have ehd:c=Hd ns[0]!:=ehd;rw[ehd];exact U9 _
 clear ehd;have dv:∀k:Int,0<k->k<=10^10->VM c k:=λk k0 k1=>(k0,(gw ()).mpr (aK (show k.natAbs<=2^34 by lia) (aI (()) (()))));refine(((((rz,tT,dv 3 (()) (())),tT,((()):(0:Int)<30)),tT),_,rz),λp ep=>?_);have hp:mR p/\p<=31:=by have ep:p=smF (c / 3 % 30):=ep;rw[ep];exact(Zi _,aa7 _)
 clear ep;obtain⟨hp,p31⟩:=hp;have p2:2<=p:=hp.1;refine jD (ρ':=[.fr (.scr ns),k6 c,k6 p,.un,.un,.un,.un,.un,.un,.un,.un,.un,.un,.un,.un,.un]) rz ?_;have M:lY (.ints [9,10^6]) (c / 90 % 2)/\0<=Nv (vo (.ints [9,10^6]) (c / 90 % 2))/\Nv (vo (.ints [9,10^6]) (c / 90 % 2))<=10^6:=by
  rcases (by lia:c / 90 % 2=0\/c / 90 % 2=1) with h|h
  .rw[h];exact((((()):-(2:Int)<=0),((()):(0:Int)<2)),((()):(0:Int)<=9),((()):(9:Int)<=10^6))
  .rw[h];exact((((()):-(2:Int)<=1),((()):(1:Int)<2)),((()):(0:Int)<=10^6),((()):(10^6:Int)<=10^6))
 refine(((rz,rz,((((tT,(by walk_at "x"),tT),tT),((rz,tT,dv 90 (()) (())),tT,((()):(0:Int)<2)),M.1),rz),tT),ns,p,Nv (vo (.ints [9,10^6]) (c / 90 % 2)),rz,(),M.2.1,M.2.2),λpv I=>?_);obtain⟨wd,ewd⟩:∃wd,wd=Nv (vo (.ints [9,10^6]) (c / 90 % 2)):=(_,rz);obtain⟨P0,B0⟩:=Z7 (ns:=ns) hp p31 (wd:=wd) (by rw[ewd];exact M.2.1) (by rw[ewd];exact M.2.2);replace I:pv=(GK ns p wd).map uG:=by have I:pv=((ss (Ky ns)).map (Yh ns p (Nv (vo (.ints [9,10^6]) (c / 90 % 2))))).map PV.ints:=I;rw[I,<-ewd,ab0]
 clear ewd M;subst I;generalize GK ns p wd=L0 at *
 refine(((rz,tT,((()):(0:Int)<3)),tT),λav eav=>?_);replace eav:av=.bl (decide (c % 3=1)):=eav;subst eav;generalize decide (c % 3=1)=t;refine jD (ρ':=[.fr (.scr ns),k6 c,k6 p,.ow (.lst (L0.map uG)),.fr (.bl t),.un,.un,.un,.un,.un,.un,.un,.un,.un,.un,.un]) rz ?_;refine(λC=>∃L,aeq p L t/\C=[.fr (.scr ns),k6 c,k6 p,.ow (.lst (L.map uG)),.fr (.bl t),.un,.un,.un,.un,.un,.un,.un,.un,.un,.un,.un],(rz,λq=>?_,λq=>?_),?_)
 .have l2:=P0.l2
  match L0,l2,P0,B0 with
  |x::y::r,_,P0,B0=>
   have it:lY (.ints [x.1,x.2]) 0/\lY (.ints [x.1,x.2]) 1:=((((()):-(2:Int)<=0),((()):(0:Int)<2)),((()):-(2:Int)<=1),((()):(1:Int)<2));have bd:-((ln (r.map uG)+1+1:Nat):Int)<=0/\(0:Int)<((ln (r.map uG)+1+1:Nat):Int)/\(1:Int)<((ln (r.map uG)+1+1:Nat):Int):=()
   refine((((((((rz,tT,bd.1,bd.2.1),rz),tT,it.1),rz),rz,(tT,(rz,tT,dv 180 (()) (())),tT,((()):(0:Int)<4)),mX ((():-(2:Int)^64<p),(():p<(2:Int)^64))),((((rz,tT,bd.1,bd.2.1),rz),tT,it.2),rz),tT),tT),rz,tT,((),bd.2.2),x::(x.1+p*(1+c / 180 % 4),x.2)::r,(V3 P0 (B0 x az) () (),λ_=>(x.1,x.2,_,r,rz)),rz)
 .have q:¬t=true:=q;exact(L0,(P0,λz=>absurd z q),rz)
 clear B0 P0 L0;rintro C ⟨L,AK,rfl⟩;refine(((tT,tT),tT),λg1 eg1=>?_);replace eg1:g1=[1]:=eg1;subst eg1;refine jD (ρ':=[.fr (.scr ns),k6 c,k6 p,.fr (.lst (L.map uG)),.fr (.bl t),k7 [1],.un,.un,.un,.un,.un,.un,.un,.un,.un,.un]) rz ?_;have l4:=AK.pc.l4;have l2:=AK.pc.l2;refine((rz,rz),λi C=>i<=ln L/\∃v,C=[.fr (.scr ns),k6 c,k6 p,.fr (.lst (L.map uG)),.fr (.bl t),k7 (kj 0 ((L.take i).map wW)),v,.un,.un,.un,.un,.un,.un,.un,.un,.un],(bp _,.un,rz),?_,?_)
 .rintro i n C hn ⟨_,v,rfl⟩;have hn:(L.map uG)[i]?=so n:=hn;rw[ag]at hn;obtain⟨x,R,rfl⟩:=dm.mp hn;have il:=(ah.mp R).1;have xm:=aP R;obtain⟨b1,b2⟩:=Qg AK.pc i ();refine(((rz,rz,tT,tT),kj 0 ((L.take i).map wW),[x.1,x.2],0,rz,ck 0,(():_+2<=1000),λm hm=>aK (b2 m hm) (aI (()) ()),λm hm=>?_),λg2 eg2=>(il,k7 [x.1,x.2],?_))
  .refine aK (m:=2^21) ?_ (aI (()) (()));rcases aG.mp hm with rfl|hm
   .exact AK.pc.b x xm
   .rw[af.mp hm];have:=AK.pc.a x xm;lia
  .have eg2:g2=Tz 0 (jz (kj 0 ((L.take i).map wW)) [x.1,x.2]):=eg2;have tk:kj 0 ((L.take (i+1)).map wW)=Tz 0 (jz (kj 0 ((L.take i).map wW)) [x.1,x.2]):=by unfold kj;rw[pY R,bv,dP];rfl
   rw[tk,<-eg2];rfl
 rintro C ⟨_,v,er⟩;replace er:C=[.fr (.scr ns),k6 c,k6 p,.fr (.lst (L.map uG)),.fr (.bl t),k7 (kj 0 ((L.take (ln (L.map uG))).map wW)),v,.un,.un,.un,.un,.un,.un,.un,.un,.un]:=er;rw[ac,cw]at er;subst er;obtain⟨c0,c9,pl9,D⟩:=drn AK.pc;generalize hP:kj 0 (L.map wW)=Pr at *
 generalize hd':cont Pr=d at *
 refine(((rz,tT),Pr,rz,(),by rw[hd'];exact c0,by rw[hd'];exact c9),λg eg=>?_);replace eg:g=Pr.map λn=>n / d:=by have eg:g=Pr.map λn=>n / cont Pr:=eg;rw[eg,hd']
 rw[<-eg]at D;clear eg hd' hP c0 c9 pl9;have gl:=D.gl;have gb:=D.gb;have gb2:∀m∈g,m.natAbs<=2^200:=λm hm=>aj (gb m hm) (aW (()) (()));have gne:g≠[]:=λz=>by rw[z]at gl;exact absurd gl (():¬0=ln L+1)
 refine jD (ρ':=[.fr (.scr ns),k6 c,k6 p,.fr (.lst (L.map uG)),.fr (.bl t),k7 g,v,.un,.un,.un,.un,.un,.un,.un,.un,.un]) rz ?_;refine(((rz,rz,((rz,tT,dv 720 (()) (())),tT,((()):(0:Int)<3)),tT),g,p,c / 720 % 3,rz,gne,(),gb2,p2,()),λm em=>?_);replace em:m=Ux p g (c / 720 % 3):=em;obtain⟨m1,m4,zb⟩:=aeC (way:=c / 720 % 3) D;rw[<-em]at m1 m4 zb;clear em;refine(((rz,rz,tT),p,m,rz,(),(),(),()),λz ez=>?_);replace ez:z=p^m.toNat:=ez;obtain⟨z2,zd⟩:=wM p2 (m:=m.toNat) ();have co:∀x∈L,x.1.natAbs<2^200/\Int.gcd x.2 z=1:=λx R=>(aK (AK.pc.b x R) (aI (()) (())),by rw[ez];exact hp.qI (λy=>AK.pc.g x R (cL y)) _);have cg:Int.gcd (jx g) z=1:=by rw[ez];exact hp.qI (λy=>D.lp (cL y)) _
 rw[<-ez]at z2 zd zb;refine(((rz,rz,rz,(rz,λ_=>(rz,tT)),tT),L,p,z,decide (t=true/\1<m),rz,l2,(),(),(),z2,zb,co),λuv J=>?_);replace J:uv=.lst ((KC L p z (decide (t=true/\1<m))).map PV.ints):=by have J:uv=.lst ((KC ((L.map uG).map λq=>(JW q,Jj q)) p z (decide (t=true/\1<m))).map PV.ints):=J;rw[J,bj,(aO λ_ _=>rfl:List.map ((λq=>(JW q,Jj q)) ∘ uG) L=L.map id),cC]
 subst J;obtain⟨ul0,Q,w0,u00⟩:=ab3 (L:=L) (p:=p) (al:=decide (t=true/\1<m)) z2 l2;have noU:∀j,QF g p m (KC L p z (decide (t=true/\1<m))) j:=λj=>by
  rw[ez];cases t with
  |true=>obtain⟨b,a,k,r,eL⟩:=AK.ak rfl;rw[eL];exact noC p2 m1 (λh=>(dI h).2) rfl
  |false=>rw[aN (λh=>by cases h.1)];exact noA D m1
 generalize KC L p z (decide (t=true/\1<m))=e at *
 refine jD (ρ':=[.fr (.scr ns),k6 c,k6 p,.fr (.lst (L.map uG)),.fr (.bl t),k7 g,v,k6 m,k6 z,.fr (.lst (e.map PV.ints)),.un,.un,.un,.un,.un,.un]) rz ?_;refine(λC=>∃o:List (List Int),ln o=ln L/\(∀u∈o,ln u=2/\Be z u)/\(∀j,QF g p m o j)/\C=[.fr (.scr ns),k6 c,k6 p,.fr (.lst (L.map uG)),.fr (.bl t),k7 g,v,k6 m,k6 z,.fr (.lst (o.map PV.ints)),.un,.un,.un,.un,.un,.un],(((((rz,(by walk_at "x"),dv (10^10) (()) (())),tT,((()):(0:Int)<3)),tT),λ_=>(rz,tT)),λq=>?_,λq=>?_),?_)
 .have q2:1<m:=q.2;have st0:0<=z / p/\z / p<z:=(gy () (),Int.ediv_lt_self_of_pos_of_ne_one () ());refine(((rz,rz,(rz,rz,((():0<p),by show p.natAbs.log2<9000;exact Jx (aK (show p.natAbs<=2^5 by lia) (aI (()) (()))) (()))),tT),e,z,z / p,rz,(),(),λu hu=>(by have:=(Q u hu).1;lia,(Q u hu).2),(),zb,st0.1,st0.2),λlv elv=>?_);have elv:lv=.lst ((Wi ((e.map PV.ints).map mQ) z (z / p)).map PV.ints):=elv;rw[mV]at elv;subst elv;obtain⟨a1,a2⟩:=acg (st:=z / p) (show 0<z by lia) () Q;exact(Wi e z (z / p),(),a2,λj=>by rw[ez];exact noL p2 () () u00,rz)
 .exact(e,ul0,Q,noU,rz)
 clear noU u00 Q ul0 e;rintro C ⟨e,ul0,Q,noU,rfl⟩;have ml0:ln (e.map PV.ints)=ln e:=ac _;refine(((rz,rz),(():ln (e.map PV.ints)<=1000),λq hq=>((tT,tT),((tT,tT),tT),((tT,tT),tT),tT)),λpv I=>?_);replace I:pv=(e.map λ_=>(([],[1],[[]]):Ay)).map pU:=by have I:pv=(e.map PV.ints).map λ_=>.tup [.ints [],.ints [1],.lst [.ints []]]:=I;rw[I,bj,bj];exact aO λ_ _=>rfl
 subst I;refine jD (ρ':=[.fr (.scr ns),k6 c,k6 p,.fr (.lst (L.map uG)),.fr (.bl t),k7 g,v,k6 m,k6 z,.fr (.lst (e.map PV.ints)),.fr (.lst ((e.map λ_=>(([],[1],[[]]):Ay)).map pU)),.un,.un,.un,.un,.un]) rz ?_;refine(λC=>∃(o:List (List Int)) (j:List Ay),1<=ln o/\ln o<=5/\(∀u∈o,ln u<=8/\Be z u)/\ln j=ln o/\(∀x∈j,O7 x)/\QF g p m o j/\C=[.fr (.scr ns),k6 c,k6 p,.fr (.lst (L.map uG)),.fr (.bl t),k7 g,v,k6 m,k6 z,.fr (.lst (o.map PV.ints)),.fr (.lst (j.map pU)),.un,.un,.un,.un,.un],((((rz,tT,dv 2160 (()) (())),tT,((()):(0:Int)<5)),tT),λq=>?_,λq=>?_),?_)
 .have lx:g[j6 (ln g) (-1)]! =jx g:=nW g ();obtain⟨t0,t1,_⟩:=sW z2 (xZ z2 cg);refine(((rz,(():ln g<=1000),λn hn=>((rz,(((.inl rz,tT,(():-(ln g:Int) <= -1),(():(-1:Int)<(ln g:Int))),rz,tT),g[j6 (ln g) (-1)]!,z,rz,z2,BW ?_,by rw[lx];exact cg),?_),rz,(():0<z))),tT),λuv J=>?_)
  .generalize (2:Nat)^200=N at *
   lia
  .show IntMulOk n (tu (g[j6 (ln g) (-1)]!) z);rw[lx];refine nR (n:=93) (m:=200) (aK (gb n hn) (())) ?_;generalize (2:Nat)^200=N at *
   lia
  replace J:uv=.lst [.ints (g.map λn=>n*tu (jx g) z % z)]:=by have J:uv=.lst [.ints (g.map λn=>n*tu (g[j6 (ln g) (-1)]!) z % z)]:=J;rw[J,lx]
  subst J;refine((((rz,rz,tT),ns,g,rz,(),()),tT),λdv' edv=>?_);have edv:dv'=.lst [pU (dpP ns g)]:=edv;subst edv;refine([g.map λn=>n*tu (jx g) z % z],[dpP ns g],ao _,((()):1<=5),λu hu=>?_,rz,λx R=>?_,by rw[ez];exact noD D m1,rz)
  .rw[af.mp hu];refine(by rw[ac];lia,λy hy=>?_);obtain⟨n,_,rfl⟩:=aB.mp hy;exact I9 ()
  .rw[af.mp R];exact abh ()
 .exact(e,e.map λ_=>([],[1],[[]]),(),(),λu hu=>(by have:=(Q u hu).1;lia,(Q u hu).2),ac _,λx R=>by
   obtain⟨_,_,rfl⟩:=aB.mp R;exact Qu,noU _,rz)
 clear noU Q ul0 ml0 e;rintro C ⟨o,j,u1,u5,ue,pl',pe,no,rfl⟩;refine(((rz,rz,rz,((rz,tT,dv 10800 (()) (())),tT,((()):(0:Int)<3)),tT),g,z,o,c / 10800 % 3,rz,gne,(),gb2,(),zb,u5,ue),λrv Z=>?_);obtain⟨l,re0,rl0,Z⟩:∃l:List Rw,(∀x∈l,Uh x)/\ln l<=300/\rv=.lst (l.map mq):=by
  have Z:rv=.lst (((Pj (ln (o.map PV.ints):Int)).map (Gq g z ((o.map PV.ints).map mQ) (c / 10800 % 3))).map mq):=Z;rw[mV]at Z;refine(_,λx R=>?_,?_,Z)
  .obtain⟨b,_,rfl⟩:=aB.mp R;exact rw_ok () gb2 () zb u5 ue
  .rw[ac,ac];have:(Pj (ln o:Int)).length<=31*((ln o:Int) / 2).toNat:=(RB (n:=(ln o:Int)) () ((ln o:Int) / 2).toNat).1;lia
 subst Z;refine(((rz,tT,dv 32400 (()) (())),tT,((()):(0:Int)<7)),λway _=>?_);refine jD (ρ':=[.fr (.scr ns),k6 c,k6 p,.fr (.lst (L.map uG)),.fr (.bl t),k7 g,v,k6 m,k6 z,.fr (.lst (o.map PV.ints)),.fr (.lst (j.map pU)),.fr (.lst (l.map mq)),k6 way,.un,.un,.un]) rz ?_;refine(λC=>∃rs:List Rw,(∀x∈rs,Uh x)/\C=[.fr (.scr ns),k6 c,k6 p,.fr (.lst (L.map uG)),.fr (.bl t),k7 g,v,k6 m,k6 z,.fr (.lst (o.map PV.ints)),.fr (.lst (j.map pU)),.fr (.lst (rs.map mq)),k6 way,.un,.un,.un],((rz,tT),λq=>?_,λq=>(l,re0,rz)),?_)
 .obtain⟨r1,e1,i1',l1⟩:=MJ mq l (so 1) none;obtain⟨r2,e2,i2',l2'⟩:=MJ mq l none (so ((ln (l.map mq):Int) % 2));refine((((rz,rz),tT,tT),((rz,rz),tT,((rz,tT),tT,((()):(0:Int)<2))),?_),λsv B=>?_)
  .show ln (vy (l.map mq) (so 1) none)+(vy (l.map mq) none (so ((ln (l.map mq):Int) % 2))).length<=sizeLine;rw[e1,e2,ac,ac];exact a7 (small1000 ())
  .have B:sv=.lst (vy (l.map mq) (so 1) none++vy (l.map mq) none (so ((ln (l.map mq):Int) % 2))):=B;rw[e1,e2,<-bv]at B;subst B;refine(r1++r2,λx R=>?_,rz);rcases cF.mp R with h|h
   .exact re0 x (i1' x h)
   .exact re0 x (i2' x h)
 clear re0 rl0;rintro C ⟨rs,re,rfl⟩;refine(λC=>∃Y,(Y=p\/¬mR Y)/\C=[.fr (.scr ns),k6 c,k6 Y,.fr (.lst (L.map uG)),.fr (.bl t),k7 g,v,k6 m,k6 z,.fr (.lst (o.map PV.ints)),.fr (.lst (j.map pU)),.fr (.lst (rs.map mq)),k6 way,.un,.un,.un],((rz,tT),λq=>?_,λq=>(p,.inl rz,rz)),?_)
 .refine((rz,(tT,(rz,tT,dv 226800 (()) (())),tT,((()):(0:Int)<9)),mX ((():-(2:Int)^64<p),(():p<(2:Int)^64))),λY ep'=>(Y,.inr λz=>?_,rz));have ep':Y=p*(2+c / 226800 % 9):=ep';have k2:2<=2+c / 226800 % 9:=()
  generalize 2+c / 226800 % 9=k at *
  have pk:p*2<=p*k:=aH k2 ();rcases z.dvd (d:=p) () (k,ep') with y|y
  .lia
  .have:=Int.eq_of_mul_eq_mul_left (show p≠0 by lia) (show p*k=p*1 by lia);lia
 rintro C ⟨Y,hp',rfl⟩;refine(λC=>∃j:List Ay,ln j<=5/\(∀x∈j,O7 x)/\QF g p m o j/\C=[.fr (.scr ns),k6 c,k6 Y,.fr (.lst (L.map uG)),.fr (.bl t),k7 g,v,k6 m,k6 z,.fr (.lst (o.map PV.ints)),.fr (.lst (j.map pU)),.fr (.lst (rs.map mq)),k6 way,.un,.un,.un],(((rz,tT),λ_=>(rz,tT)),λq=>?_,λq=>(j,(),pe,no,rz)),?_)
 .have q:way=4\/way=5:=q;have e1:vy (j.map pU) (so 1) none=(j.drop 1).map pU:=by rw[show(so (1:Int))=so ((1:Nat):Int) from rz,Im,hZ]
  refine((((rz,rz),tT,tT),(tT,rz),((():0<=5-way),(():5-way<=1)),?_),λsv B=>?_)
  .show ln (vy (j.map pU) (so 1) none)<=1000;rw[e1,ac,bW];lia
  .have B:sv=.lst (sP (5-way).toNat (vy (j.map pU) (so 1) none)).flatten:=B;rw[e1]at B;rcases q with q|q
   .rw[q,show((5:Int)-4).toNat=1 from rz,List.replicate_one,List.flatten_singleton]at B;subst B;exact(j.drop 1,by rw[bW];lia,λx R=>pe x (f8 R),.len (by rw[bW];lia),rz)
   .rw[q,show((5:Int)-5).toNat=0 from rz,List.replicate_zero,List.flatten_nil]at B;subst B;exact([],((()):0<=5),(λx R=>by cases R),.len (():0≠ln o),rz)
 clear no pe pl';rintro C ⟨j,pl',pe,no,rfl⟩;refine((rz,rz,rz,rz,rz,tT),λhv S=>?_);replace S:hv=Cq Y m o j rs:=S;subst S;have nk:(c / 10^9 % 3).toNat<=2:=()
 have W0:WhB (g++sP (c / 10^9 % 3).toNat 0) Y m o j rs:=by
  refine whb () nk gb D.tz u5 (λu hu=>(ue u hu).1) pl' pe re (λsz=>?_) ?_
  .rcases hp' with q|q
   .rw[q,<-ez];exact zb
   .exact absurd sz.1 q
  .rcases hp' with q|q
   .rw[q];exact no
   .exact .prime q
 refine jD (ρ':=[.fr (.scr ns),k6 c,k6 Y,.fr (.lst (L.map uG)),.fr (.bl t),k7 g,v,k6 m,k6 z,.fr (.lst (o.map PV.ints)),.fr (.lst (j.map pU)),.fr (.lst (rs.map mq)),k6 way,.fr (Cq Y m o j rs),.un,.un]) rz ?_;refine(λC=>∃(q:Int) (n:Int) (us':List (List Int)) (ps':List Ay) (rs':List Rw) (a b:Sl),WhB (g++sP (c / 10^9 % 3).toNat 0) q n us' ps' rs'/\C=[.fr (.scr ns),k6 c,k6 Y,.fr (.lst (L.map uG)),.fr (.bl t),k7 g,v,k6 m,k6 z,.fr (.lst (o.map PV.ints)),.fr (.lst (j.map pU)),.fr (.lst (rs.map mq)),k6 way,.fr (Cq q n us' ps' rs'),a,b],((rz,tT),λq=>?_,λq=>(Y,m,o,j,rs,.un,.un,W0,rz)),?_)
 .clear W0
  match L,l2,AK with
  |x::r,l2,AK=>
   obtain⟨c0,c9,ha,hb⟩:=Vc AK.pc;refine(((((((rz,tT,(():-((ln (r.map uG)+1:Nat):Int)<=0),(():(0:Int)<((ln (r.map uG)+1:Nat):Int))),rz),tT),[x.1,x.2],rz,((()):2<=1000),c0,c9),tT),x.2 / cont [x.1,x.2],x.1 / cont [x.1,x.2],rz,ha,hb),?_);obtain⟨lo,_,_,_,zb'⟩:=Qj ha hb;generalize hf:[x.1 / cont [x.1,x.2],x.2 / cont [x.1,x.2]]=O at *
   have f2:ln O=2:=by rw[<-hf];rfl
   refine(.str "paper",Cq (zH O) (yD O) [NP (zH O^(yD O).toNat) O] [([],[1],[[]])] [],by rw[<-hf];rfl,?_);refine((rz,tT),λy=>absurd rz y,λ_=>?_);refine(rz,λhv S=>?_);have S:hv=Cq (zH O) (yD O) [NP (zH O^(yD O).toNat) O] [([],[1],[[]])] []:=S;subst S;have lf2:ln (NP (zH O^(yD O).toNat) O)<=2:=by refine aj (lH _ _) ?_;rw[ac];lia
   refine(zH O,yD O,[NP (zH O^(yD O).toNat) O],[([],[1],[[]])],[],_,_,whb () nk gb D.tz ((()):1<=5) (λu hu=>?_) ((()):1<=5) (λy hy=>?_) (λy hy=>by cases hy) (λ_=>zb') (noE () lf2),rz)
   .rw[af.mp hu];lia
   .rw[af.mp hy];exact Qu
 rintro C ⟨q,n,us',ps',rs',a,b,W,rfl⟩;refine((((rz,(((tT,tT),tT),((rz,(by walk_at "x"),dv (10^9) (()) (())),tT,((()):(0:Int)<3)),?_,?_),?_),rz,tT),g++sP (c / 10^9 % 3).toNat 0,q,n,us',ps',rs',rz,W),rz)
 .show -(2^63:Int)<=c / 10^9 % 3;lia
 .show(c / 10^9 % 3).toNat<=1000;lia
 .show ln g+ln (sP (c / 10^9 % 3).toNat (0:Int))<=sizeLine;rw[aR];exact a7 (small1000 ())
end
end jR
theorem PySem.Challenge.cw_factorforge_k72_whole_no_paper_for_a_who_holds : PySem.Challenge.rw_factorforge_k72_whole_no_paper_for_a_who.Holds :=
  jR.pre fun T => jR.abE T
