import PyProof.Rows.All
import Wide.All
import OpenK.AllK
import Wide.FinOn
import Lean
import PyProof.EqAt
import PyProof.EqKinds
import PyProof.TupleCall
import PyProof.ExcClass3
import PyProof.StationsW
import PyProof.ExcBaseAll.ValueError
import PyProof.ExcArgsOwn
import PyProof.IsiBase
import PyProof.IsiH_tuple
import PyProof.ExcAttrAll.ValueError
import PyProof.Rows.RuleN_isinstance
import PyProof.MeetsSeq
import PyProof.RulesAs
import PyProof.IsiH_list
import PyProof.AttrMiss
import KE.KDictOf
import PyProof.Rows.SumAny
import PyProof.Rows.MinMaxN
import PyProof.Rows.SortShellK
import PyProof.Rows.SortWalk
import PyProof.ZipIter
import PyProof.WalksMore
import PyProof.DictWalks
import PyProof.AutoSeq1
import PyProof.Rows.Range3
import PyProof.CollectWalk
import KE.KSortTup
import PyProof.EnumMake
import PyProof.ListRange
import KE.KRevIter
import PySem.Challenge.RW_farclocks_k41_whole_orders
variable{M a c ep i j kk l1 m n t' t2 x1:Nat}{Ty:String}{b f p t1 tt:Bool}{d s x y:Int}{g:Int->Int->Int}{hi lo:Option Int}{ks w:List Nat}{ns r:List Int}{α β κ:Type}
noncomputable section
open PySem.Challenge renaming pw_farclocks_k41_whole_orders→On,rw_farclocks_k41_whole_orders→Ss
open PySem.Builtin.SmallTypes renaming ownedTupleHandOut→OR,ownedTupleIsFree→Nv,nextOf→NB
open PySem.AutoListH renaming list___mul___list_int_3→Uk
open PyProof.Rows renaming slot_tuple_getitem→Oo,callWith_builtin1→Qc,get?_update_seq→Vs,callWith_type1→N1,subscriptTail_builtinR→S4,entry_tuple_getitem→Ub,args_tuple_getitem→UA,KK_mirror_equal→PC,tupleItemsOf_→UB,subscriptTail→UC,listUpdate_at→UG,wpS_forRange→RE,seqEpoch_at→VR,sortedHeap→Rr,wpS_modify→U0,setPending→U1,SortedToK→O5,pendingOf→QR,wpS_bind→OB,wpS_pure→Pc,failedOf→SQ,SortKind→TL,IntsAre→Po,AllBare→SO,NonIncK→Ud,wpS_get→VQ,SortSt→RX,Keyed→VP,IsTup→VS
open PySem.Builtin.Tuple renaming tupleCompareSizes→UJ,tupleItemsOf→R1,tupleIsExact→R3,tupleExact→Pj
open PySem.F renaming args_dict_keyiterator_next_1→Ry,entry_dict_keyiterator_next→RI,slot_dict_keyiterator_next→OW,args_tuple_iterator_next_1→RO,entry_tuple_iterator_next→RU,slot_tuple_iterator_next→PF,excBase_ValueError→R4,slot_list_getattribute→P8,args_tuple_add_2→Q2,slot_zip_getattribute→Qk,entry_tuple_add→Q5,plainAttrs_list→Q6,args_dict_get_2→SD,slot_tuple_add→Rj,entry_dict_get→S0,slot_dict_get→Rw,slot_enumerate_next→Ta,kt_typeCall_dict_1→TQ,args_object_init_3→TR,plain_extend_loop→Ql,entry_extend_loop→T8,args_dict_init_2→Uo,args_zip_next_1→QF,args_int_rmul_2→UL,slot_tuple_rmul→UN,entry_dict_init→UP,args_zip_iter_1→US,plain_list_iadd→UT,entry_zip_next→QX,slot_tuple_mul→SV,slot_int_index→Vf,entry_int_rmul→Vg,kt_called_dict→Vj,entry_zip_iter→Vk,typeCall_zip_2→Vl,slot_dict_iter→Vm,slot_zip_next→OI,slot_int_rmul→RT,slot_zip_iter→RW,fills_int_mul→Vy,newCall_zip_2→VD,entry_zip_new→VE
open PySem renaming wpAny_typeNameOfWhole_keyiter→Pp,wpAny_newFunctionEnv_cells→R8,wpAny_binaryOp_repeat_ref→Sh,wpAny_typeNameOf_keyiter→Qb,wpAny_callSpecial?_slot→NT,wpAny_nextOf_list_item→Rm,wpAny_pyNext_list_item→S3,wpAny_Call_method_late→S5,builtinLookup_eq_fast→Ph,wpAny_notOrdered_dict→RD,wpAny_pyNext_list_end→Ts,codeAny_call_function→Tu,wpAny_isTrue_Compare1→Tx,wpAny_nextOf_list_end→TB,wpAny_isOneOf_keyiter→TF,wpAny_updateSeq_pair→P0,wpAny_raiseAttrError→TX,codeAny_call_builtin→TY,mem_of_lookup→Pz,wpAny_Call_Name_kw→Oy,wpAny_setField_rec→OH,wpAny_pyIter_tuple→PM,tupleKind_room_in1→PP,wpAny_List_spliced→Ux,sub_AttributeError→UE,wpAny_dictSet_heap→UF,foldedSetIterable→N7,wpAny_newObj_type→Ox,wpAny_truthy_bool→OL,wpAny_pyIter_list→QK,wpAny_pyIter_slot→SB,wpAny_dictEntries→SC,wpAny_assign_Name→UW,wpAny_sequenceKey→UY,wpAny_pyIter_enum→UZ,wpAny_call_entry→N9,wpAny_isInstance→RJ,wpAny_eqBool_int→SY,noFill_tuple_add→SZ,seqSlot_of→Vi,wpAny_execs_cons→Vp,kt_code_dict_new→Vq,wpAny_loadPart'→O4,codeAny_builtin→PB,typeLookup_type→QB,letOwnedTupleGo→Rg,wpAny_execs_nil→RY,pushCells_keeps→Tw,wpAny_specialOf→Tz,wpAny_dictEpoch→TC,wpAny_updateSeq→TH,importedModules→VI,wpAny_passesOwn→VJ,wpAny_seqItems→Oc,wpAny_newTuple→Ru,wpAny_setField→Si,firstArgMember→Sj,isSubtype_stop→Sk,wpAny_holding→OA,attributeBase→Pb,wpAny_attempt→PN,plainId_quiet→Qm,behindInMarks→QL,wpAny_onRaise→Rh,swapsWithSole→Uv,swappedStores→Uw,seq_tuple_add→Uy,comprehension→UD,bootBuiltins→N5,wpAny_typeOf→Qe,codeAny_mono→Tt,concat_meets→Vb,callType_new→Vc,wpAny_field→NS,mainGlobals→Ob,sizeLine_eq→ON,sliceBounds→Rq,excClassObj→RZ,wpAny_letGo→SR,subscripted→Uc,keywordEach→VM,wpAny_bind→M7,wpAny_pure→Nh,assignEach→O8,wpAny_mono→Pl,sysModules→PH,typeLookup→P9,wpAny_rule→Qa,call_meets→RP,builtinsNs→SA,typeIs_int→TK,compareOp→Og,swapsWith→Ov,cellsFrom→Qq,DictEntry→RB,tupleKind→RC,Arguments→Tq,pushCells→Tv,starEach→NF,binaryOp→Pm,FuncData→Pn,boot_len→PQ,NameKind→QJ,Program→NH,BindsTo→UX,Keyword→VO,Shared→Ng,Around→N4,IsPair→PD,IsPart→Uz,Paired→VH,Result→VL,Value→Nf,World→Ou,Scope→Q1
open PySem.Builtin.Dict_items renaming ownsTuple→RN
open PySem.Builtin.Slice renaming slicePartIndex→Vr,sliceApplied→R0,slicePlaces→PR,sliceAdjust→QP
open PySem.Builtin.List renaming listExtendWith→Qt,listTooLong→P2,listSameRef→Sr
open List renaming getElem?_append_right→QM,nodup_iff_pairwise_ne→R7,getElem?_eq_some_iff→Nu,drop_eq_getElem_cons→O9,getElem?_append_left→PU,pairwise_iff_getElem→PX,getElem?_eq_none_iff→Sf,getElem?_eq_getElem→Nk,getElem?_cons_succ→OZ,getElem?_replicate→Ra,pairwise_mergeSort→SH,length_eq_zero_iff→SI,getElem?_cons_zero→SJ,filter_cons_of_pos→SM,filter_cons_of_neg→SN,getElem?_set_self→NG,drop_eq_nil_of_le→Qs,take_of_length_le→S2,mem_append_right→NM,length_singleton→Pe,getElem?_eq_none→Pg,set_getElem_self→Tb,take_append_drop→Th,mem_cons_of_mem→Na,getElem?_set_ne→NI,mem_append_left→OD,mem_of_getElem?→PZ,getElem?_of_mem→TU,mem_erase_of_ne→TV,map_congr_left→NQ,replicate_succ→O6,filterMap_cons→Qh,getElem_of_mem→Qi,mergeSort_perm→T5,drop_succ_cons→Ua,mem_cons_self→Nb,length_append→Nm,mem_singleton→Ny,mem_filterMap→Pk,forIn_toArray→Rc,zip_cons_cons→Sa,getElem_range→Us,append_of_mem→Ut,pairwise_cons→Uu,size_toArray→Nz,getElem?_map→NC,append_assoc→ND,nodup_append→Ot,length_range→O7,pairwise_map→Px,flatMap_cons→Py,flatten_cons→P6,any_eq_false→Su,mapM_toArray→UR,ext_getElem?→UU,length_cons→Nj,all_eq_true→NN,not_mem_nil→N8,getElem_mem→Oi,lookup_cons→Om,length_drop→Qn,mem_flatMap→Qp,length_take→QU,any_eq_true→QV,getElem_map→RF,zipIdx_cons→SX,drop_length→Vh,filter_cons→Vn,length_map→Nc,mem_append→NO,nodup_cons→NP,map_append→NR,append_nil→Oj,length_set→Os,nil_append→OC,forIn_cons→Pf,length_nil→P5,find?_cons→Qy,mem_filter→Q8,of_mem_zip→Q9,zipIdx_nil→Te,range_succ→Ti,foldl_cons→Vx,idxOf_cons→VF,head?_drop→VG,replicate→NL,mem_range→OJ,nodup_nil→Pu,forIn_nil→PV,map_cons→Nd,mem_cons→Nl,sum_cons→Pa,any_cons→Qj,all_cons→Um,mem_map→NA,map_map→N3,map_nil→Qv,zipWith→Tg,toArray→U4,all_map→U5,set_set→U9,length→OE,lookup→Q0,map_id→VA,Nodup→NU,range→Oz,foldl→Sv,cons→Re,map→Vt
open PySem.Calls renaming Name_function_global→R5,callWith_builtin→Rk,evalArgs_plain→QN,spliced_cons→PJ,Constant_str→Ui,spliced_nil→P3
open Array renaming perm_iff_toList_perm→R6,getElem?_eq_getElem→Sg,getElem?_eq_none→Rl,getElem?_toList→Rx,length_toList→NX,find?_toList→Uj,toList→R9
open Option renaming isSome_iff_exists→P4,map_eq_some_iff→OG,isSome_some→Ul,isSome_map→UO,getD_none→Ve,map_some→Tf,some→Of
open PySem.Builtin.Dict renaming addKeywords→So,selfAndRest→Sq,updateFrom→Qg,pairItems→S1,showsAll→S7
open Int renaming eq_ofNat_of_zero_le→Ol,emod_lt_of_pos→Sd,toNat_natCast→Oq,emod_nonneg→To,le_antisymm→VB,zero_sub→Va,le_refl→O0
open PySem.Heap renaming get?_push_of_some→M8,get?_update_other→OP,get?_update_self→Qx,get?_push_size→Nn,get?_update_ne→T7,get?_push_ne→Sz,size_update→Qo,NewAttrErr→RV,size_push→NY,lt_size→Np,SameBut→Qu,ExtBut→T4
open PySem.W renaming cellsFrom_some→Ri,hideAll_none→TM,hideAll_get→RQ,of_hideAll→Ue,callWith_K→Ug,codeRec_of→Uh,methodObj→Sm,kitx_list→UH,kitx_dict→UI,plainGet→Vd,kia_one→OQ,instObj→S6,hideAll→Vu,keepIn→Rt,lookIn→TZ,codeIn→T1,mg_of→SE,Frag→M9,nsIn→Q3,fnOf→Rv
open PySem.Obj renaming isFreed_of_fields→S9,data_mapFields→Rb,cls_mapFields→UM,mapSeq→Qr
open Bool renaming and_eq_false_iff→Tj,and_eq_true_iff→Pq,false_ne_true→NJ,false_eq_true→NW,not_eq_true'→UV,and_eq_true→Ni,or_eq_true→Vz,true_and→Rf,false_or→SG
open PySem.Around renaming under_plainId→OM,units→RA
open Nat renaming le_sub_one_of_lt→RL,sub_one_lt_of_lt→RM,lt_of_lt_of_le→Nq,lt_of_le_of_lt→PK,lt_succ_of_lt→P7,le_of_succ_le→QD,le_of_lt_succ→Sx,lt_trichotomy→Sy,max_eq_right→RH,le_of_not_lt→SS,lt_succ_self→SU,succ_le_succ→SW,mod_eq_of_lt→Vo,le_antisymm→VC,lt_irrefl→NK,le_trans→NV,ne_of_lt→Oa,le_of_lt→OV,le_of_eq→Pt,ne_of_gt→Qd,lt_or_ge→Q4,sub_self→Sb,lt_trans→S8,sub_zero→Tc,zero_add→Td,add_comm→U2,mul_comm→U3,min_self→U6,le_refl→Nr,zero_le→OF,sub_le→UQ
open PySem.Value renaming notImplemented→TN,isInt→T2,none→Oe,bool→OK,type→OU,ref→Nx,int→OS,str→Pd
open PySem.Heap.SameBut renaming update→QY,refl→UK
open PyProof.Rows.KeyOrd renaming kle_antisymm→T6,kle_of_klt→Sw,kle_trans→RG,kle_refl→Qz
open Option.some renaming injEq→Rn,inj→NZ
open List.Pairwise renaming nil→Sn
open ForInStep renaming yield→Qw
open List.cons renaming injEq→RS
open PySem.Expr renaming Subscript→Pv,Attribute→QQ,Constant→SK,ListComp→Ur,Compare→U7,UnaryOp→U8,BoolOp→PY,Name→N6,Call→Pr
open PySem.NameKind renaming free→Oh,cell→OY
open PySem.Paired renaming length→Q7
open PySem.Str renaming ofString→Nt
open PySem.Stmt renaming Assign→Rp
open PySem.Shared renaming heap→SF
open PySem.Scope renaming names→SL
open PySem.Pos renaming endLine→T9,line→QH
open Prod.mk renaming inj→Vv
open True renaming intro→Pw
open False renaming elim→QC
open PySem.BoolOp renaming And→TJ,Or→Uq
open PySem.Env renaming scope→PL
open PyProof.Rows.IsTup renaming new→Vw
open Ne renaming symm→QZ
open Iff renaming rfl→Ro
open Sum renaming inr→Se,inl→T3
open Option renaming some→ZA,none→ZB
open Bool renaming true→ZC,false→ZD
open PySem renaming Addr→ZE,Stmt→ZF,Expr→ZG,Heap→ZH,sizeLine→ZI,wpAny→ZJ,model→ZK,codeAny→ZL
set_option Elab.async false
set_option compiler.extract_closed false
set_option bootstrap.genMatcherCode false
set_option genSizeOf false
set_option compiler.reuse false
set_option linter.all false
set_option maxRecDepth 100000
set_option maxHeartbeats 8000000
abbrev V0:=PySem.Str->Option Nf
abbrev V1:=Nf->Ng->Prop
abbrev V2:=List (PySem.Addr×PySem.Obj)
variable{A:N4}{E Q:V1}{K:M9}{P prog q:NH}{R:VL->Ng->Prop}{bm its us vs:List Nf}{fd:Pn}{k0:TL}{res ux v vl vu:Nf}{s s':Ng}{sc scope:Q1}{st:RX}{w:Ou}
noncomputable section
abbrev nDb(x:PySem.Str):Prop:=(x == PySem.Str.ofString "__debug__")=ZD
def qr_(h:True:=by first|exact .inl rfl|exact .inr rfl|assumption):True:=trivial
def r_:=qr_._auto_1
def qs_(h:True:=by decide):True:=trivial
def s_:=qs_._auto_1
def qt_(h:True:=by intro _;rfl):True:=trivial
def t_:=qt_._auto_1
def qu_(h:True:=by first|exact Or.inl rfl|exact Or.inr (Or.inl rfl)|exact Or.inr (Or.inr rfl)):True:=trivial
def u_:=qu_._auto_1
def qv_(h:True:=by with_unfolding_all rfl):True:=trivial
def v_:=qv_._auto_1
def qw_(h:True:=by intro _ _;rfl):True:=trivial
def w_:=qw_._auto_1
def qx_(h:True:=by first|exact Or.inl rfl|exact Or.inr rfl):True:=trivial
def x_:=qx_._auto_1
def qy_(h:True:=by intro z;cases z):True:=trivial
def y_:=qy_._auto_1
def qz_(h:True:=by decide+kernel):True:=trivial
def z_:=qz_._auto_1
namespace L2
open PySem PySem.Spec PyProof.Rows
inductive V where
 |non|bl (b:Bool)|int (i:Int)|str (x:Str)|byt (b:Array UInt8)|flt (b:UInt64)|ref (a:ZE)|ty (n:String)
 deriving DecidableEq
noncomputable def Gm(s:ZF)(j:Nat):ZF:=match s with
 |.ClassDef _ _ _ body _ _ _ _ _ _ _=>body.getD j (.Pass ⟨0,0,0,0⟩)
 |_=>.Pass ⟨0,0,0,0⟩
def hW(s:ZF):Tq:=match s with
 |.FunctionDef _ a _ _ _ _ _ _ _ _=>a
 |_=>{posonlyargs:=[],args:=[],vararg:=ZB,kwonlyargs:=[],kw_defaults:=[],kwarg:=ZB,defaults:=[]}
def dJ(s:ZF):List ZF:=match s with
 |.FunctionDef _ _ b _ _ _ _ _ _ _=>b
 |_=>[]
noncomputable def ao(s:ZF):Q1:=match s with
 |.FunctionDef _ _ _ _ _ _ sc _ _ _=>sc
 |_=>{kind:=.function,names:=[],isGenerator:=ZD,isCoroutine:=ZD}
end L2
namespace Tr
open PySem PySem.Spec PyProof.Rows L2
inductive T where
 |non|bl (b:Bool)|int (i:Int)|str (x:Str)|tup (l:List T)|lst (l:List T)
 /-- the law's script: a list of ints that is only read -/
 |scr (l:List Int)
 /-- a dict: its keys,its values -/
 |dct (ks vs:List T)
 /-- an instance: its class,the names of its attributes,what they are -/
 |ob (C:Str) (ns:List Str) (ts:List T)
inductive OT where
 |lst (l:List T)|dct (ks ts:List T)|dd (ks:List T) (rows:List (List T×List T))
 /-- an instance,its attributes own lists -/
 |ob (C:Str) (ns:List Str) (ls:List (List T))
noncomputable def OT.view:OT->T
 |.lst l=>.lst l
 |.dct ks ts=>.dct ks ts
 |.dd ks rows=>.dct ks (rows.map λr=>.dct r.1 r.2)
 |.ob C ns ls=>.ob C ns (ls.map T.lst)
def calmNames:List Str:=["__init__","__getattribute__","__getattr__","__class__"]
def B4:Nf->Bool
 |.str _ _=>ZC
 |_=>ZD
noncomputable def cH:List Int->List Int->Bool
 |[],[] =>ZD
 |[],_::_=>ZC
 |_::_,[] =>ZD
 |a::l,b::m=>if a=b then cH l m else decide (a<b)
structure RK where
 V:ZH->Nf->List Int->Prop
 inj:∀{h v a b},V h v a->V h v b->a=b
 on:∀{h h':ZH} {v a},V h v a->(∀b o,h.get? b=ZA o->h'.get? b=ZA o)->V h' v a
 fst:∀{h v a},V h v a->∃ad xs n o m t,v=.ref ad/\h.get? ad=ZA o/\o.cls=.type "tuple"/\o.data=.seq xs n/\xs[0]?=ZA (.int m t)
 lt:∀{prog w A s E x y a b} {Q:Bool->Ng->Prop},A.units+60<cLine->V s.heap x a->V s.heap y b->Q (cH a b) s->ZJ (ZK prog w) A (keyLt' (tuples' ZC) x y) Q E s
variable (R:RK)
open Classical in
def RK.key(h:ZH)(v:Nf):Option (List Int):=if e:∃ns,R.V h v ns then ZA e.choose else ZB
variable {R:RK}
end Tr
namespace Tr
open PySem PySem.Spec PyProof.Rows L2 PySem.W
def DH(h:ZH):Frag:=(Oz h.objs.size).filterMap λa=>(h.get? a).map λo=>(a,o)
noncomputable def obF(K:Frag)(n:Str):Option (Str×Str×Tq×FuncBody×Q1×ZE×List (Str×ZE)×Nf×ZE×Bool×Bool):=match nsIn K Ob n with
 |some (ZA (.ref f))=>match K.lookup f with
  |some ⟨_,_,.func d,_⟩=>ZA (d.name,d.qualname,d.params,d.body,d.scope,d.globals,d.closure,d.defaults,d.builtins,codeIn K d.code n,keepIn K (.ref f))
  |_=>ZB
 |_=>ZB
noncomputable def exF(n:Str)(st:ZF):Option (Str×Str×Tq×FuncBody×Q1×ZE×List (Str×ZE)×Nf×ZE×Bool×Bool):=
 ZA (n,n,hW st,.stmts (dJ st),ao st,Ob,[],.none,SA,ZC,ZC)
def K8(K:Frag)(N:ZE)(n:Str):Bool:=match nsIn K N n with|some ZB=>ZC|_=>ZD
noncomputable def LW(K:Frag)(n:Str):Option Int:=match nsIn K Ob n with|some (ZA (.int i _))=>ZA i|_=>ZB
noncomputable def zx:List Nf->Bool
 |[.type a,.type b,.type c,.type d] =>a == "ValueError" &&b == "Exception" &&c == "BaseException" &&d == "object"
 |_=>ZD
noncomputable def BZ(D:Option ZE)(m:List Nf):Bool:=match D with
 |none=>zx m
 |some D=>match m with
  |.ref E::m=>E == D&&zx m
  |_=>ZD
noncomputable def F6(K:Frag)(D:Option ZE)(n:Str):Option ZE:=match nsIn K Ob n with
 |some (ZA (.ref C))=>match K.lookup C with
  |some ⟨.type t,_,.cls c,⟨[_,_,_,_,ZA (.builtin b),_]⟩⟩=>match c.mro,K.lookup c.ns with
   |.ref E::m,ZA ⟨_,_,.dict es _,_⟩=>
    if (t == "type" &&b == "ValueError.__new__" && !c.hasDel&&(es.toList.all λe=>B4 e.key)&&calmNames.all (K8 K c.ns)&&E == C&&BZ D m)=ZC then ZA C else ZB
   |_,_=>ZB
  |_=>ZB
 |_=>ZB
noncomputable def zg{α:Type}:List (Option α)->Option (List α)
 |[] =>ZA []
 |none::_=>ZB
 |some a::r=>match zg r with|some l=>ZA (a::l)|none=>ZB
def uq:List ZE->Bool
 |[] =>ZC
 |a::r=>(r.all λb=>!(a == b))&&uq r
noncomputable def LV(K:Frag):List Str->Bool
 |[] =>ZC
 |m::es=>match F6 K ZB m with
  |some D=>match zg (es.map (F6 K (ZA D)))with|some l=>uq (l++[D])|none=>ZD
  |none=>ZD
structure Eu where
 tab:List (Str×Nat)
 zs:List Str
 cs:List (Str×Int)
 es:List Str
noncomputable def yB(S:Eu)(K:Frag):=(S.tab.map (λp=>obF K p.1),S.zs.all (K8 K Ob),S.cs.map (λc=>LW K c.1),LV K S.es)
noncomputable def xV(S:Eu)(top:Nat->ZF):=(S.tab.map (λp=>exF p.1 (top p.2)),ZC,S.cs.map (λc=>ZA c.2),ZC)
noncomputable def obM(K:Frag)(C:ZE)(m q:Str):Option (Str×Str×Tq×FuncBody×Q1×ZE×List (Str×ZE)×Nf×ZE×Bool×Bool×Bool):=match findIn K (.ref C) m with
 |some (ZA (.ref f))=>match K.lookup f with
  |some ⟨_,_,.func d,_⟩=>ZA (d.name,d.qualname,d.params,d.body,d.scope,d.globals,d.closure,d.defaults,d.builtins,codeIn K d.code q,keepIn K (.ref f),isFn K (.ref f))
  |_=>ZB
 |_=>ZB
noncomputable def exM(m q:Str)(st:ZF):Option (Str×Str×Tq×FuncBody×Q1×ZE×List (Str×ZE)×Nf×ZE×Bool×Bool×Bool):=
 ZA (m,q,hW st,.stmts (dJ st),ao st,Ob,[],.none,SA,ZC,ZC,ZC)
def noAt(K:Frag)(C:ZE)(f:Str):Bool:=match findIn K (.ref C) f with|some ZB=>ZC|_=>ZD
noncomputable def saOk(K:Frag)(C:ZE):Bool:=match findIn K (.ref C) "__setattr__" with|some (ZA (.builtin b))=>b == "object.__setattr__" |_=>ZD
noncomputable def Ly(K:Frag)(C:ZE)(as:List Str):Bool:=plainGet K C Str.empty&&hasDictIn K C&&plainOver K C&&saOk K C&&makesIn K C&&keepIn K (.ref C)&&as.all (noAt K C)
structure J4 where
 c:Str
 i:Nat
 as:List Str
 ms:List (Str×Str×Nat)
noncomputable def obK(K:Frag)(A:J4):=match nsIn K Ob A.c with
 |some (ZA (.ref C))=>ZA (Ly K C A.as,A.ms.map λ(m:Str×Str×Nat)=>obM K C m.1 m.2.1)
 |_=>ZB
def exK(top:Nat->ZF)(A:J4):=ZA (ZC,A.ms.map λ(m:Str×Str×Nat)=>exM m.1 m.2.1 (Gm (top A.i) m.2.2))
structure xR where
 a:Eu
 ks:List J4
def CV(S:xR)(K:Frag):=(yB S.a K,S.ks.map (obK K))
def BX(S:xR)(top:Nat->ZF):=(xV S.a top,S.ks.map (exK top))
end Tr
namespace G
open PySem PySem.Spec PyProof.Rows L2 Tr
def top(i:Nat):ZF:=On.main.body.getD i (.Pass ⟨0,0,0,0⟩)
noncomputable def Ef:Eu:=⟨([("_law_cell",60),("_law_drawn",61),("_law_events",64),("_law_letter",63),("_law_clock",62),("_law_record",65),("is_long",14),("is_whole",12),("is_within",13),("is_pace",17),("rises",15),("are_readings",16),("is_clock",18),("are_clocks",19),("is_event",20)]:List (Str×Nat))++([("is_delay",21),("is_letter",22),("are_letters",23),("is_record",24),("need_record",25),("events",27),("_law_bounds",66),("_law_table",67),("is_better",34),("settle",33),("greatest_world",36),("bounds_of_clock",29),("bounds_of_letter",30),("bounds",31),("world",37)]:List (Str×Nat))++([("has_world",38),("need_world",39),("walks_from",42),("most_of",43),("all_most",46),("sure_pairs",52),("told_order",53),("an_order",54),("if_record",57),("with_letter",58),("_law_keeps",71),("_law_lead_on",70),("_law_drawn_world",69),("need_event",26),("need_events",41)]:List (Str×Nat))++([("most_between",44),("least_between",45),("surely_ahead",48),("maybe_ahead",49),("verdict",51),("fits_order",55),("maybe_at_once",50),("law",72)]:List (Str×Nat)),(["all","bool","dict","enumerate","int","isinstance","len","max","min","range","sorted","tuple","zip"]:List Str),[("MOST_CLOCKS",4),("MOST_LETTERS",8),("MOST_READINGS",4),("LAST_READING",99),("SLOWEST",9),("LONGEST",999)],["ClockError","NoRecord","NoEvent","NoWorld"]⟩
def asks:xR:=⟨Ef,[]⟩
def vw:NH:=PySem.W.view On [72]
noncomputable def lse:List Str:=(["ClockError","NoRecord","NoEvent","NoWorld","MOST_CLOCKS","MOST_LETTERS","MOST_READINGS","LAST_READING","SLOWEST","LONGEST","is_whole","is_within","is_long","rises","are_readings","is_pace","is_clock","are_clocks","is_event","is_delay"]:List Str)++(["is_letter","are_letters","is_record","need_record","need_event","events","bounds_of_clock","bounds_of_letter","bounds","settle","is_better","greatest_world","world","has_world","need_world","need_events","walks_from","most_of","most_between","least_between"]:List Str)++(["all_most","surely_ahead","maybe_ahead","maybe_at_once","verdict","sure_pairs","told_order","an_order","fits_order","if_record","with_letter","_law_cell","_law_drawn","_law_clock","_law_letter","_law_events","_law_record","_law_bounds","_law_table","_law_world"]:List Str)++(["_law_drawn_world","_law_lead_on","_law_keeps"]:List Str)
noncomputable def lhs(w:Ou)(h:ZH)(d:Drawn)(t:Nat)(os:OsState):=(PySem.W.topFrom treeTable On w 9000 ⟨h,⟨[]⟩,d,t,os⟩).map (λs=>(PySem.W.openSeen vw lse (VI On.main.body) (λ_=>ZC) ZC s,CV asks (DH s.heap)))
def rhs(w:Ou):=ZA (PySem.W.openGood vw lse,BX asks top)
def lhs_r:lhs=lhs:=rfl
def rhs_r:rhs=rhs:=rfl
end G
section
lay_quick G.lhs G.rhs
name_quick lhsz for G.lhs by G.lhs_r
name_quick rhsz for G.rhs by G.rhs_r
open PySem PySem.W PyProof.Rows
set_option maxRecDepth 100000 in
theorem G.MQ(w:Ou)(os:OsState):PySem.W.Fast.lhsz w (boot_heap w.params) boot_drawn boot_toks os=PySem.W.Fast.rhsz w:=by kernel_rfl
end
namespace L2
open PySem PySem.Spec PyProof.Rows
abbrev Key:=Sum Int Str
def sf:Key->Nf->Bool
 |.inl k,v=>T2 k v
 |.inr x,v=>Value.isStrOf x v
def keyH(w:Ou):Key->Int
 |.inl k=>hashInt k
 |.inr x=>hashStr w x
theorem cQ:∀{k:Key}{v:Nf},sf k v=ZC->(∃i t,k=T3 i/\v=OS i t)\/(∃x t,k=Se x/\v=Pd x t)
 |.inl i,v,h=>by
  obtain⟨t,e⟩:=Value.isInt_shape (k:=i) (v:=v) h
  exact .inl ⟨i,t,rfl,e⟩
 |.inr x,v,h=>by
  obtain⟨t,e⟩:=Value.isStrOf_shape (x:=x) (v:=v) h;exact .inr ⟨x,t,rfl,e⟩
def Be(i:Int)(t:Tok):sf (.inl i) (.int i t)=ZC:=by simp[sf,T2]
def Bd(x:Str)(t:Tok):sf (.inr x) (.str x t)=ZC:=by simp[sf,Value.isStrOf]
def Js(a b:Int):decide ((T3 a:Key)=T3 b)=(a == b):=by
 by_cases e:a=b
 ·subst e;simp
 ·have h:¬ (T3 a:Key)=T3 b:=λq=>e (T3.inj q)
  rw[decide_eq_false h];exact(beq_eq_false_iff_ne.mpr e).symm
def Jo(a b:Str):decide ((Se a:Key)=Se b)=decide (a=b):=by
 by_cases e:a=b
 ·subst e;simp
 ·have h:¬ (Se a:Key)=Se b:=λq=>e (Se.inj q)
  rw[decide_eq_false h,decide_eq_false e]
def Jr(a:Int)(b:Str):decide ((T3 a:Key)=Se b)=ZD:=decide_eq_false (λq=>nomatch q)
def Jp(a:Str)(b:Int):decide ((Se a:Key)=T3 b)=ZD:=decide_eq_false (λq=>nomatch q)
noncomputable def cj(prog:NH)(w:Ou):PySem.KeyKind prog w Key where
 is:=sf
 hash:=keyH w
 inj:=λv a b ha hb=>by
  rcases cQ ha with⟨i,t,rfl,rfl⟩|⟨x,t,rfl,rfl⟩
  ·rcases cQ hb with⟨j,u,rfl,e⟩|⟨y,u,rfl,e⟩
   ·injection e with e1 _;rw[e1]
   ·exact nomatch e
  ·rcases cQ hb with⟨j,u,rfl,e⟩|⟨y,u,rfl,e⟩
   ·exact nomatch e
   ·injection e with e1 _;rw[e1]
 byValue:=λk v h=>by
  rcases cQ h with⟨i,t,rfl,rfl⟩|⟨x,t,rfl,rfl⟩ <;> rfl
 pyHash:=λhv h=>by
  rcases cQ hv with⟨i,t,rfl,rfl⟩|⟨x,t,rfl,rfl⟩
  ·exact wpAny_pyHash_int h
  ·exact wpAny_pyHash_str h
 eqBool:=λhu hv h=>by
  rcases cQ hu with⟨i,t,rfl,rfl⟩|⟨x,t,rfl,rfl⟩
  ·rcases cQ hv with⟨j,u,rfl,rfl⟩|⟨y,u,rfl,rfl⟩
   ·rw[Js]at h;exact SY h
   ·rw[Jr]at h;exact SeqAt.EqAt.int_str i t y u _ _ _ _ h
  ·rcases cQ hv with⟨j,u,rfl,rfl⟩|⟨y,u,rfl,rfl⟩
   ·rw[Jp]at h;exact SeqAt.EqAt.str_int x t j u _ _ _ _ h
   ·rw[Jo]at h;exact wpAny_eqBool_str h
 «strs»:=λk x t v h=>by
  rcases cQ h with⟨i,u,rfl,e⟩|⟨y,u,rfl,e⟩
  ·exact nomatch e
  ·injection e with e1 _
   subst e1;cases v <;> rfl
def wY(prog:NH)(w:Ou)(i:Int)(t:Tok):(cj prog w).is (.inl i) (.int i t)=ZC:=Be i t
def wX(prog:NH)(w:Ou)(x:Str)(t:Tok):(cj prog w).is (.inr x) (.str x t)=ZC:=Bd x t
def RelV:V->Nf->Prop
 |.non,u=>u=Oe
 |.bl b,u=>u=OK b
 |.int i,u=>∃t,u=OS i t
 |.str x,u=>∃t,u=Pd x t
 |.byt b,u=>∃t,u=Value.bytes b t
 |.flt b,u=>∃t,u=Value.float b t
 |.ref a,u=>u=Nx a
 |.ty n,u=>u=OU n
abbrev Vals:List V->List Nf->Prop:=VH RelV
variable{xs:List V}
def Vals.length(r:Vals xs us):xs.length=us.length:=Q7 r
theorem Vals.get:∀{xs:List V}{us:List Nf}{i:Nat}{x:V},Vals xs us->xs[i]?=ZA x->∃u,us[i]?=ZA u/\RelV x u
 |_,_,_,_,.nil,e=>by simp at e
 |_,_,0,_,.cons r _,e=>by simp at e;subst e;exact⟨_,rfl,r⟩
 |_,_,i+1,x,.cons _ t,e=>by
  obtain⟨u,h1,h2⟩:=Vals.get (i:=i) (x:=x) t (by simpa using e)
  exact⟨u,by simpa using h1,h2⟩
theorem Vals.append:∀{xs ys:List V}{us ws:List Nf},Vals xs us->Vals ys ws->Vals (xs++ys) (us++ws)
 |_,_,_,_,.nil,s=>s
 |_,_,_,_,.cons r t,s=>.cons r (Vals.append t s)
theorem Vals.take:∀{xs:List V}{us:List Nf}(n:Nat),Vals xs us->Vals (xs.take n) (us.take n)
 |_,_,0,_=>.nil
 |_,_,_+1,.nil=>.nil
 |_,_,n+1,.cons r t=>.cons r (Vals.take n t)
theorem Vals.drop:∀{xs:List V}{us:List Nf}(n:Nat),Vals xs us->Vals (xs.drop n) (us.drop n)
 |_,_,0,r=>r
 |_,_,_+1,.nil=>.nil
 |_,_,n+1,.cons _ t=>Vals.drop n t
def RelO:Option V->Option Nf->Prop
 |some v,ZA u=>RelV v u
 |none,ZB=>True
 |_,_=>False
def KV{κ:Type}:List (κ×V)->List (κ×Nf)->Prop:=VH λ(p:κ×V)(q:κ×Nf)=>p.1=q.1/\RelV p.2 q.2
def kV:Key->V
 |.inl i=>.int i
 |.inr x=>.str x
inductive HO where
 /-- a list -/
 |lst (xs:List V)
 /-- a tuple (never changes) -/
 |tup (xs:List V)
 /-- a dict whose keys are ints and texts;one whose keys are tuples of ints and texts (the empty one is both) -/
 |dK (kvs:List (Key×V))|dT (kvs:List (List Key×V))
 /-- a set of ints: its members,its size -/
 |set (S:Int->Bool) (n:Nat)
 /-- an instance of the class at C,its dict at dx,its attributes -/
 |ins (C dx:ZE) (fs:List (Str×V))
 /-- the dict of the instance at x -/
 |own (x:ZE)
 /-- the dict of an exception -/
 |xd (fs:List (Str×V))
 /-- a bound method,f of x -/
 |met (f x:ZE)
 /-- a range object lo,lo+1,.. below hi -/
 |rng (lo hi:Int)
 /-- a thing that is known to the object (the script;a dict while a loop walks it): read,never written while it is so -/
 |frz (o:Obj) (u:HO)
 /-- a code object's table -/
 |tbl (ps:Array Nf)
 /-- any other thing,by what is ZC of its one object (a def of one's own: SetO a S n:=HO.ext λh=>..) -/
 |ext (φ:ZH->Prop)
abbrev Hp:=ZE->Option HO
def upd(H:Hp)(a:ZE)(o:HO):Hp:=λb=>if b=a then ZA o else H b
variable{H:Hp}{a:ZE}
def aI{o:HO}:upd H a o a=ZA o:=by unfold upd;rw[if_pos rfl]
variable{b:ZE}
def aG{o:HO}(h:b≠a):upd H a o b=H b:=by unfold upd;rw[if_neg h]
def iX{o u:HO}:upd (upd H a o) a u=upd H a u:=by
 funext b;unfold upd;split <;> rfl
def jV{o u:HO}(h:H a=ZA o)(h':H b=ZA u)(d:o≠u):a≠b:=by
 intro e;subst e;rw[h]at h';exact d (NZ h')
def cA{o:HO}(h:H a=ZA o)(h':H b=ZB):a≠b:=by
 intro e;subst e;rw[h]at h';cases h'
section
variable (P:NH)(w:Ou)
def ObjOk(H:Hp)(h:ZH)(a:ZE):HO->Prop
 |.lst xs=>xs.length<=ZI/\∃(its:List Nf)(n:Nat),Vals xs its/\h.get? a=ZA {cls:=.type "list",data:=.seq its.toArray n}
 |.tup xs=>xs.length<=ZI/\∃its:List Nf,Vals xs its/\VS h a its.toArray
 |.dK kvs=>kvs.length<=ZI/\(a == PH)=ZD/\∃vs,KV kvs vs/\h.DictOf (cj P w) a vs
 |.dT kvs=>kvs.length<=ZI/\(a == PH)=ZD/\∃xs:List (List Key×ZE×Nf),
   VH (λ(p:List Key×V)(q:List Key×ZE×Nf)=>p.1=q.1/\H q.2.1=ZA (.tup (p.1.map kV))/\RelV p.2 q.2.2) kvs xs ∧
   ∃o es ep,h.get? a=ZA o/\o.ExactDict/\o.data=.dict es ep/\es.toList=xs.map (entryOfKey (RC (cj P w)))/\(xs.map (·.1)).Nodup
 |.set S n=>h.SetOf (intKind P w) a S n
 |.ins C dx fs=>H dx=ZA (.own a)/\fs.length<=1000/\dx≠a/\h.get? a=ZA (S6 C dx) ∧
   ∃mA,h.Ns1 dx mA/\(∀f,RelO (fs.lookup f) (mA f))/\PySem.Within mA (fs.map (·.1))
 |.own _=>∃o,h.get? a=ZA o
 |.xd fs=>∃mA,h.Ns1 a mA/\∀f,RelO (fs.lookup f) (mA f)
 |.rng lo hi=>∃t u v,h.get? a=ZA {cls:=.type "range",data:=.fields #[.int lo t,.int hi u,.int 1 v]}
 |.frz o u=>h.get? a=ZA o/\ObjOk H h a u
 |.tbl ps=>h.get? a=ZA {cls:=.none,data:=.fields ps}
 |.met f x=>h.get? a=ZA (Sm (.ref f) (.ref x))
 |.ext φ=>φ h/\(∃o,h.get? a=ZA o)/\∀h1 h2:ZH,φ h1->(∀o,h1.get? a=ZA o->h2.get? a=ZA o)->φ h2
def HOk(H:Hp)(h:ZH):Prop:=∀a o,H a=ZA o->ObjOk P w H h a o
end
variable{H':Hp}{h h':ZH}
section
variable {o:HO}
theorem ObjOk.lt(x:ObjOk P w H h a o):a<h.objs.size:=by
 cases o with
 |lst xs=>obtain⟨_,_,_,_,e⟩:=x;exact Np e
 |tup xs=>obtain⟨_,_,_,p⟩:=x;exact p.lt
 |dK kvs=>obtain⟨_,_,_,_,o,_,_,e,_⟩:=x;exact Np e
 |dT kvs=>obtain⟨_,_,_,_,o,_,_,e,_⟩:=x;exact Np e
 |set S n=>obtain⟨o,_,_,_,e,_⟩:=x;exact Np e
 |ins C dx fs=>obtain⟨_,_,_,e,_⟩:=x;exact Np e
 |own y=>obtain⟨_,e⟩:=x;exact Np e
 |xd fs=>obtain⟨_,⟨_,_,_,e,_⟩,_⟩:=x;exact Np e
 |rng lo hi=>obtain⟨_,_,_,e⟩:=x;exact Np e
 |frz ob u=>obtain⟨e,_⟩:=x;exact Np e
 |tbl ps=>exact Np (show h.get? a=ZA _ from x)
 |met f y=>exact Np (show h.get? a=ZA _ from x)
 |ext φ=>obtain⟨_,⟨_,e⟩,_⟩:=x;exact Np e
theorem Paired.MJ{F G:α->β->Prop}:∀{l₁:List α}{l₂:List β},VH F l₁ l₂->(∀a b,F a b->G a b)->VH G l₁ l₂
 |_,_,.nil,_=>.nil
 |_,_,.cons r t,f=>.cons (f _ _ r) (Paired.MJ t f)
def ObjOk.L8(x:ObjOk P w H h a o)(k:∀b u,(b=a\/H b=ZA (.own a))->h.get? b=ZA u->h'.get? b=ZA u)
  (ho:∀b,H b=ZA (.own a)->H' b=ZA (.own a)) (ht:∀b xs,H b=ZA (.tup xs)->H' b=ZA (.tup xs)):ObjOk P w H' h' a o:=by
 induction o with
 |lst xs=>obtain⟨z,its,n,r,e⟩:=x;exact⟨z,its,n,r,k _ _ (.inl rfl) e⟩
 |tup xs=>obtain⟨z,its,r,ob,e,c⟩:=x;exact⟨z,its,r,ob,k _ _ (.inl rfl) e,c⟩
 |dK kvs=>obtain⟨z,y,vs,r,ob,es,ep,e,c⟩:=x;exact⟨z,y,vs,r,ob,es,ep,k _ _ (.inl rfl) e,c⟩
 |dT kvs=>
  obtain⟨z,y,xs,r,ob,es,ep,e,c⟩:=x
  exact⟨z,y,xs,Paired.MJ r λp q z=>⟨z.1,ht _ _ z.2.1,z.2.2⟩,ob,es,ep,k _ _ (.inl rfl) e,c⟩
 |set S n=>obtain⟨ob,es,ep,t,e,c⟩:=x;exact⟨ob,es,ep,t,k _ _ (.inl rfl) e,c⟩
 |ins C dx fs=>
  obtain⟨d,z,ne,e,mA,⟨od,es,ep,e2,c⟩,r⟩:=x
  exact⟨ho _ d,z,ne,k _ _ (.inl rfl) e,mA,⟨od,es,ep,k _ _ (.inr d) e2,c⟩,r⟩
 |own y=>obtain⟨ob,e⟩:=x;exact⟨ob,k _ _ (.inl rfl) e⟩
 |xd fs=>obtain⟨mA,⟨od,es,ep,e,c⟩,r⟩:=x;exact⟨mA,⟨od,es,ep,k _ _ (.inl rfl) e,c⟩,r⟩
 |rng lo hi=>obtain⟨t,u,v,e⟩:=x;exact⟨t,u,v,k _ _ (.inl rfl) e⟩
 |frz ob u ih=>obtain⟨e,q⟩:=x;exact⟨k _ _ (.inl rfl) e,ih q⟩
 |tbl ps=>
  have e:h.get? a=ZA {cls:=.none,data:=.fields ps}:=x
  show h'.get? a=ZA {cls:=.none,data:=.fields ps}
  exact k a _ (.inl rfl) e
 |met f y=>
  have e:h.get? a=ZA (Sm (.ref f) (.ref y)):=x
  show h'.get? a=ZA (Sm (.ref f) (.ref y))
  exact k a _ (.inl rfl) e
 |ext φ=>obtain⟨p,⟨o,e⟩,st⟩:=x;exact⟨st _ _ p λo q=>k _ _ (.inl rfl) q,⟨o,k _ _ (.inl rfl) e⟩,st⟩
theorem HOk.lt(x:HOk P w H h)(e:H a=ZA o):a<h.objs.size:=(x a o e).lt
def HOk.fresh(x:HOk P w H h)(e:h.objs.size<=a):H a=ZB:=by
 cases q:H a with
 |none=>rfl
 |some u=>exact absurd (Nq (x.lt q) e) (NK _)
def HOk.kept(x:HOk P w H h)(k:∀b u,h.get? b=ZA u->h'.get? b=ZA u):HOk P w H h':=λa o e=>
 (x a o e).L8 (λb u _ q=>k b u q) (λ_ q=>q) λ_ _ q=>q
def HOk.laid(x:HOk P w H h)(k:∀b u,h.get? b=ZA u->h'.get? b=ZA u)(hp:h.objs.size<=a)(new:ObjOk P w (upd H a o) h' a o):HOk P w (upd H a o) h':=λb u e=>by
 have hn:=x.fresh hp
 by_cases hb:b=a
 ·subst hb;rw[aI]at e;cases e;exact new
 ·rw[aG hb]at e
  exact(x b u e).L8 (λc v _ q=>k c v q) (λc q=>by rw[aG (cA q hn)];exact q) λc xs q=>by rw[aG (cA q hn)];exact q
end
def Rd(H:Hp)(a:ZE)(u:HO):Prop:=H a=ZA u\/∃o,H a=ZA (.frz o u)
def Rd.ok{u:HO}(r:Rd H a u)(x:HOk P w H h):ObjOk P w H h a u:=by
 rcases r with r|⟨o,r⟩
 ·exact x a u r
 ·obtain⟨_,q⟩:=x a _ r
  exact q
def LG:Option HO->Prop
 |some (.lst _)=>True
 |some (.dK _)=>True
 |some (.dT _)=>True
 |some (.set _ _)=>True
 |some (.ins _ _ _)=>True
 |some (.ext _)=>True
 |_=>False
variable{e:ZE}
section
variable {x:ZE}{o':HO}
def HOk.write(ok:HOk P w H h)(mu:LG (H x))(he:e=x\/H e=ZA (.own x))(k:∀b u,b≠e->h.get? b=ZA u->h'.get? b=ZA u)(heo:∃u,h'.get? e=ZA u)
  (new:ObjOk P w (upd H x o') h' x o'):HOk P w (upd H x o') h':=λb u q=>by
 have nown:∀c y,H c=ZA (.own y)->c≠x:=λc y r z=>by subst z;rw[r]at mu;exact mu
 have ntup:∀c xs,H c=ZA (.tup xs)->c≠x:=λc xs r z=>by subst z;rw[r]at mu;exact mu
 by_cases hb:b=x
 ·subst hb;rw[aI]at q;cases q;exact new
 ·rw[aG hb]at q
  by_cases hbe:b=e
  ·have q':H b=ZA (.own x):=by
    rcases he with z|z
    ·exact absurd (hbe.trans z) hb
    ·rw[hbe];exact z
   rw[q]at q';cases q';obtain⟨v,hv⟩:=heo;exact⟨v,by rw[hbe];exact hv⟩
  ·refine(ok b u q).L8 (λc v hc r=>k c v ?_ r) (λc r=>by rw[aG (nown c b r)];exact r) λc xs r=>by rw[aG (ntup c xs r)];exact r
   rcases hc with rfl|hc
   ·exact hbe
   ·rintro rfl
    rcases he with z|z
    ·exact nown c b hc z
    ·rw[hc]at z;cases z;exact hb rfl
end
structure Un (fs ex:List ZE)(H H':Hp)(h h':ZH):Prop where
 keep:∀b o,h.get? b=ZA o->H b=ZB->b∉fs->b∉ex->h'.get? b=ZA o
 slot:∀b o,h.get? b=ZA o->H b=ZB->b∈fs->b∉ex->∃sl,h'.get? b=ZA {o with slots:=sl}
 free:∀b o,h.get? b=ZA o->H b=ZB->b∉ex->H' b=ZB
 there:∀b o,h.get? b=ZA o->b∉ex->∃o',h'.get? b=ZA o'
 tups:∀b xs,H b=ZA (.tup xs)->H' b=ZA (.tup xs)
 frzs:∀b o u,H b=ZA (.frz o u)->H' b=ZA (.frz o u)
 tbls:∀b ps,H b=ZA (.tbl ps)->∃more,H' b=ZA (.tbl (ps++more))
section
variable {fs fs' ex ex':List ZE}{H1 H2:Hp}{h1 h2:ZH}{x:ZE}{o:HO}
def Un.any(u:Un fs ex H H1 h h1){ob:Obj}(q:h.get? b=ZA ob)(n:H b=ZB)(hx:b∉ex):∃sl,h1.get? b=ZA {ob with slots:=sl}:=by
 by_cases hb:b∈fs
 ·exact u.slot b ob q n hb hx
 ·exact⟨ob.slots,u.keep b ob q n hb hx⟩
def Un.kept(k:∀b u,h.get? b=ZA u->h'.get? b=ZA u):Un fs ex H H h h':=
 ⟨λb ob q _ _ _=>k b ob q,λb ob q _ _ _=>⟨ob.slots,k b ob q⟩,λ_ _ _ n _=>n,λb ob q _=>⟨ob,k b ob q⟩,λ_ _ q=>q,λ_ _ _ q=>q,λ_ ps q=>⟨#[],by rw[q];simp⟩⟩
def Un.refl:Un fs ex H H h h:=Un.kept λ_ _ q=>q
def Un.laid(k:∀b u,h.get? b=ZA u->h'.get? b=ZA u)(hp:h.objs.size<=a)(hn:H a=ZB):Un fs ex H (upd H a o) h h' where
 keep:=λb u q _ _ _=>k b u q
 slot:=λb u q _ _ _=>⟨u.slots,k b u q⟩
 free:=λb u q n _=>by rw[aG (Oa (Nq (Np q) hp))];exact n
 there:=λb u q _=>⟨u,k b u q⟩
 tups:=λb xs q=>by rw[aG (cA q hn)];exact q
 frzs:=λb u xs q=>by rw[aG (cA q hn)];exact q
 tbls:=λb ps q=>⟨#[],by rw[aG (cA q hn),q];simp⟩
def Un.write(mu:LG (H x))(he:e=x\/H e=ZA (.own x))(k:∀b u,b≠e->h.get? b=ZA u->h'.get? b=ZA u)(heo:∃u,h'.get? e=ZA u):Un fs ex H (upd H x o) h h':=by
 have hx:∀b,H b=ZB->b≠x:=λb n z=>by subst z;rw[n]at mu;exact mu
 have hb:∀b,H b=ZB->b≠e:=λb n z=>by
  subst z;rcases he with r|r
  ·exact hx b n r
  ·rw[n]at r;cases r
 have hm:∀b u,H b=ZA u->¬ LG (ZA u)->b≠x:=λb u q nm z=>by subst z;rw[q]at mu;exact nm mu
 refine⟨λb u q n _ _=>k b u (hb b n) q,λb u q n _ _=>⟨u.slots,k b u (hb b n) q⟩,λb u q n _=>by rw[aG (hx b n)];exact n,λb u q _=>?_,
  λb xs q=>by rw[aG (hm b _ q λz=>z)];exact q,λb u xs q=>by rw[aG (hm b _ q λz=>z)];exact q,λb ps q=>⟨#[],by rw[aG (hm b _ q λz=>z),q];simp⟩⟩
 by_cases hbe:b=e
 ·subst hbe;exact heo
 ·exact⟨u,k b u hbe q⟩
end
def trk(h:ZH)(H:Hp):List ZE:=(Oz h.objs.size).filter λa=>(H a).isSome
def uU(h:ZH)(H:Hp):ZH:=Vu h (trk h H)
def Bj(h:ZH)(H:Hp):(uU h H).objs.size=h.objs.size:=PySem.W.hideAll_size _ _
def DD{o:Obj}(e:h.get? b=ZA o)(n:H b=ZB):(uU h H).get? b=ZA o:=
 RQ _ e λhm=>by
  have q:(H b).isSome=ZC:=(Q8.mp hm).2;rw[n]at q;simp at q
def F5{o:Obj}(e:(uU h H).get? b=ZA o):h.get? b=ZA o/\H b=ZB:=by
 have e':h.get? b=ZA o:=Ue (trk h H) e;refine⟨e',?_⟩
 cases q:H b with
 |none=>rfl
 |some x=>
  have hm:b∈trk h H:=Q8.mpr ⟨OJ.mpr (Np e'),by simp[q]⟩
  have z:(uU h H).get? b=ZB:=TM (trk h H) hm;rw[z]at e;cases e
def GL(g h:ZH)(L:ZE):V2:=(Oz h.objs.size).filterMap λa=>if a=L\/(g.get? a).isSome=ZC then ZB else(h.get? a).map λo=>(a,o)
def rest(g h:ZH)(L d:ZE):V2:=(GL g h L).filter λp=>decide (p.1≠d)
structure Mod (K:M9)(mg:V0)(base:ZH):Prop where
 kin:K.In base
 glob:base.Ns Ob mg
 blt:∃mb,base.Ns SA mb/\∀x:Str,x≠ "__name__"->mb x=N5 x
 nolimit:base.NoLimit
set_option genInjectivity false in
structure Cx where
 prog:NH
 w:Ou
 K:M9
 mg:V0
 base:ZH
 A:N4
 N:List Str
 s₀:Ng
 H₀:Hp
 env:Env
 outer:List Env
 stack:List Env
 ex:List ZE
 fn:Str->Bool
 calm:Bool
 pn:V2
 xe:V1
def uW(l:List Env):List ZE:=l.filterMap (·.frame)
abbrev Cx.fs(X:Cx):List ZE:=uW X.outer
def vo(sc:Q1)(x:Str):Prop:=sc.names.lookup x=ZA .local\/sc.names.lookup x=ZA .cell\/sc.names.lookup x=ZA .free
def Loc(sc:Q1)(x:Str):Prop:=sc.names.lookup x=ZA .local\/sc.names.lookup x=ZA .cell
def Look(env:Env)(h:ZH)(m:V0)(x:Str)(u:Nf):Prop:=
 (env.kindOf x=ZA .local/\m x=ZA u)\/((env.kindOf x=ZA .cell\/env.kindOf x=ZA .free)/\∃c,env.cells.lookup x=ZA c/\h.IsCell c (ZA u))
structure Cx.Ok (X:Cx):Prop where
 mod:Mod X.K X.mg X.base
 kind:X.env.scope.kind=.function
 glob:X.env.globals=Ob
 blt:X.env.builtins=SA
 above:X.s₀.heap.objs.size<=X.env.locals
 inj:∀x y c,X.env.cells.lookup x=ZA c->X.env.cells.lookup y=ZA c->x=y
 has:∀x,(X.env.kindOf x=ZA .cell\/X.env.kindOf x=ZA .free)->∃c,X.env.cells.lookup x=ZA c
 cab:∀x c,X.fn x=ZC->X.env.cells.lookup x=ZA c->X.s₀.heap.objs.size<=c
 hd:X.calm=ZC->X.A.handled=ZB
 frames:X.A.frames=ZA X.stack
 stk:X.stack=X.outer\/(X.stack=X.env::X.outer/\X.env.frame=ZA X.env.locals)
 exf:∀b∈X.ex,b≠X.env.locals/\∀x c,X.env.cells.lookup x=ZA c->c≠b
 bs:∀b o,X.base.get? b=ZA o->X.s₀.heap.get? b=ZA o/\X.H₀ b=ZB
 bsz:X.base.objs.size<=X.s₀.heap.objs.size
 noex:∀b o,X.base.get? b=ZA o->b∉X.ex
 exfs:∀b∈X.ex,b∉X.fs
 funs:X.s₀.heap.FunFrames X.base X.outer
 frf:∀b∈X.fs,X.H₀ b=ZB
structure Inv (X:Cx)(bv:V2)(σ:List (Option V))(H:Hp)(s:Ng):Prop where
 ok:X.Ok
 os:s.os=X.s₀.os
 bare:SO s.gens
 base:Un X.fs X.ex X.H₀ H X.s₀.heap s.heap
 loc:∃m,s.heap.Ns X.env.locals m/\∀(i:Nat)(x:Str)(v:V),X.N[i]?=ZA x->σ[i]?=ZA (ZA v)->vo X.env.scope x->∃u,RelV v u/\Look X.env s.heap m x u
 cell:∀x c,X.env.cells.lookup x=ZA c->∃v,s.heap.IsCell c v
 free:H X.env.locals=ZB
 freeC:∀x c,X.env.cells.lookup x=ZA c->H c=ZB
 pin:∀p∈X.pn++bv,s.heap.get? p.1=ZA p.2/\H p.1=ZB/\p.1≠X.env.locals/\p.1∉X.fs/\∀v,p.2.data≠ .cell v
 hok:HOk X.prog X.w H s.heap
 len:σ.length=X.N.length
variable{M:Model}{N:List Str}{X:Cx}{it:ZE}{bv:V2}{v:V}{x:Str}
section
variable {σ:List (Option V)}
def Cx.Ok.M0(ok:X.Ok){o:Obj}(e:X.base.get? b=ZA o):b∉X.fs:=λhb=>by
 have:=(ok.funs.mem hb).1;rw[e]at this;cases this
theorem Inv.bs(I:Inv X bv σ H s):∀b o,X.base.get? b=ZA o->s.heap.get? b=ZA o/\H b=ZB:=λb o e=>
 ⟨I.base.keep b o (I.ok.bs b o e).1 (I.ok.bs b o e).2 (I.ok.M0 e) (I.ok.noex b o e),I.base.free b o (I.ok.bs b o e).1 (I.ok.bs b o e).2 (I.ok.noex b o e)⟩
def Inv.bk(I:Inv X bv σ H s):∀b o,X.base.get? b=ZA o->s.heap.get? b=ZA o:=λb o e=>(I.bs b o e).1
theorem Inv.mod(I:Inv X bv σ H s):Mod X.K X.mg X.base:=I.ok.mod
def Inv.kIn(I:Inv X bv σ H s):X.K.In s.heap:=I.ok.mod.kin.keeps I.bk
theorem Inv.lt(I:Inv X bv σ H s):X.env.locals<s.heap.objs.size:=let ⟨_,hn,_⟩:=I.loc;hn.lt
def Inv.sz(I:Inv X bv σ H s):X.s₀.heap.objs.size<=s.heap.objs.size:=NV I.ok.above (OV I.lt)
def Inv.MY(I:Inv X bv σ H s)(h:s.heap.objs.size<=a):a∉X.fs:=λhb=>by
 obtain⟨_,o,ho,_⟩:=I.ok.funs.mem hb;exact absurd (Nq (Np ho) (NV I.sz h)) (NK _)
def Inv.cne(I:Inv X bv σ H s):∀x c,X.env.cells.lookup x=ZA c->c≠X.env.locals:=λx c e z=>by
 obtain⟨v,o,ho,hd⟩:=I.cell x c e;obtain⟨m,⟨o',es,ep,ho',hd',_⟩,_⟩:=I.loc;rw[z,ho']at ho;cases ho;rw[hd']at hd;cases hd
theorem Inv.funs(I:Inv X bv σ H s):s.heap.FunFrames X.base X.outer:=by
 have all:∀(l:List Env),(∀b∈uW l,b∈X.fs)->X.s₀.heap.FunFrames X.base l->s.heap.FunFrames X.base l:=by
  intro l
  induction l with
  |nil=>intro _ _;trivial
  |cons env r ih=>
   intro hs hl;obtain⟨hk,⟨L,o,hf,hn,ho,hd⟩,hr⟩:=hl
   have hL:L∈X.fs:=hs L (by unfold uW;rw[Qh,hf];exact Nb)
   obtain⟨sl,e⟩:=I.base.slot L o ho (I.ok.frf L hL) hL λz=>I.ok.exfs L z hL
   exact⟨hk,⟨L,_,hf,hn,e,hd⟩,ih (λb hb=>hs b (by unfold uW;rw[Qh,hf];exact Na _ hb)) hr⟩
 exact all X.outer (λ_ hb=>hb) I.ok.funs
def Inv.stack(I:Inv X bv σ H s):s.heap.FunFrames X.base X.stack:=by
 rcases I.ok.stk with e|⟨e,hf⟩
 ·rw[e];exact I.funs
 ·rw[e]
  obtain⟨m,hn,_⟩:=I.loc;refine .cons (by rw[I.ok.kind];decide) hf hn ?_ I.funs
  exact Heap.get?_none_of_le (NV I.ok.bsz I.ok.above)
def Inv.Mj(I:Inv X bv σ H s):∀b∈uW X.stack,b∈X.env.locals::X.fs:=λb hb=>by
 rcases I.ok.stk with e|⟨e,hf⟩
 ·rw[e]at hb;exact Na _ hb
 ·rw[e]at hb
  unfold uW at hb;rw[Qh,hf]at hb;exact hb
def Inv.Me(I:Inv X bv σ H s):∀b∈uW X.stack,H b=ZB:=λb hb=>by
 rcases Nl.mp (I.Mj b hb)with e|hb
 ·rw[e];exact I.free
 ·obtain⟨_,o,ho,_⟩:=I.ok.funs.mem hb
  exact I.base.free b o ho (I.ok.frf b hb) λz=>I.ok.exfs b z hb
def Inv.step{g':Array GenState}{t':Nat}{d':Drawn}{ch:List ZE}(I:Inv X bv σ H s)
  (hch:∀b∈ch,(b∈X.ex\/X.s₀.heap.objs.size<=b)/\b≠X.env.locals/\(∀x c,X.env.cells.lookup x=ZA c->c≠b)/\∀p∈X.pn++bv,p.1≠b)
  (keep:∀b o,b≠X.env.locals->b∉X.fs->b∉ch->s.heap.get? b=ZA o->H b=ZB->h'.get? b=ZA o)
  (slot:∀b o,b≠X.env.locals->b∈X.fs->b∉ch->s.heap.get? b=ZA o->H b=ZB->∃sl,h'.get? b=ZA {o with slots:=sl}) (free:∀b o,b∉ch->s.heap.get? b=ZA o->H b=ZB->H' b=ZB)
  (there:∀b o,b∉ch->s.heap.get? b=ZA o->∃o',h'.get? b=ZA o')
  (tups:∀b xs,H b=ZA (.tup xs)->H' b=ZA (.tup xs)) (frzs:∀b o u,H b=ZA (.frz o u)->H' b=ZA (.frz o u)) (tbls:∀b ps,H b=ZA (.tbl ps)->∃more,H' b=ZA (.tbl (ps++more)))
  (ns:∀m,s.heap.Ns X.env.locals m->h'.Ns X.env.locals m) (hok:HOk X.prog X.w H' h') (hg:SO g'):
  Inv X bv σ H' {s with heap:=h',gens:=g',drawn:=d',toks:=t'}:=by
 have neL:∀b o,X.s₀.heap.get? b=ZA o->b≠X.env.locals:=λb o e=>Oa (Nq (Np e) I.ok.above)
 have neC:∀b o,X.s₀.heap.get? b=ZA o->b∉X.ex->b∉ch:=λb o e hx hb=>by
  rcases(hch b hb).1 with z|z
  ·exact hx z
  ·exact absurd (Nq (Np e) z) (NK _)
 have cellK:∀x c,X.env.cells.lookup x=ZA c->∀v,s.heap.IsCell c v->h'.IsCell c v:=λx c e v hh_=>by
  obtain⟨o,ho,hd⟩:=hh_
  have nch:c∉ch:=λz=>(hch c z).2.2.1 x c e rfl
  by_cases hc:c∈X.fs
  ·obtain⟨sl,q⟩:=slot c o (I.cne x c e) hc nch ho (I.freeC x c e)
   exact⟨_,q,hd⟩
  ·exact⟨o,keep c o (I.cne x c e) hc nch ho (I.freeC x c e),hd⟩
 refine⟨I.ok,I.os,hg,⟨λb o e n hb hx=>?_,λb o e n hb hx=>?_,λb o e n hx=>?_,λb o e hx=>?_,λb xs e=>tups b xs (I.base.tups b xs e),λb o xs e=>frzs b o xs (I.base.frzs b o xs e),λb ps e=>?_⟩,?_,λx c e=>?_,?_,λx c e=>?_,λp hp=>?_,hok,I.len⟩
 ·exact keep b o (neL b o e) hb (neC b o e hx) (I.base.keep b o e n hb hx) (I.base.free b o e n hx)
 ·obtain⟨sl,e1⟩:=I.base.slot b o e n hb hx
  obtain⟨sl',e2⟩:=slot b _ (neL b o e) hb (neC b o e hx) e1 (I.base.free b o e n hx);exact⟨sl',e2⟩
 ·obtain⟨o',e1⟩:=I.base.there b o e hx
  exact free b o' (neC b o e hx) e1 (I.base.free b o e n hx)
 ·obtain⟨o',e1⟩:=I.base.there b o e hx
  exact there b o' (neC b o e hx) e1
 ·obtain⟨m1,e1⟩:=I.base.tbls b ps e
  obtain⟨m2,e2⟩:=tbls b _ e1;exact⟨m1++m2,by rw[e2,Array.append_assoc]⟩
 ·obtain⟨m,hn,hl⟩:=I.loc
  refine⟨m,ns m hn,λi x v e1 e2 e3=>?_⟩
  obtain⟨u,r,l⟩:=hl i x v e1 e2 e3;refine⟨u,r,?_⟩
  rcases l with l|⟨k,c,e,z⟩
  ·exact .inl l
  ·exact .inr ⟨k,c,e,cellK x c e _ z⟩
 ·obtain⟨v,z⟩:=I.cell x c e
  exact⟨v,cellK x c e v z⟩
 ·obtain⟨m,⟨o,_,_,ho,_⟩,_⟩:=I.loc
  exact free _ o (λz=>(hch _ z).2.1 rfl) ho I.free
 ·obtain⟨v,o,ho,hd⟩:=I.cell x c e
  exact free c o (λz=>(hch c z).2.2.1 x c e rfl) ho (I.freeC x c e)
 ·obtain⟨e,n,ne,nf,d⟩:=I.pin p hp
  have nch:p.1∉ch:=λz=>(hch p.1 z).2.2.2 p hp rfl
  exact⟨keep p.1 p.2 ne nf nch e n,free p.1 p.2 nch e n,ne,nf,d⟩
def Inv.un(I:Inv X bv σ H s)(u:Un X.fs [] H H' s.heap h')(hok:HOk X.prog X.w H' h'):Inv X bv σ H' {s with heap:=h',toks:=t'}:=by
 obtain⟨m,⟨o,es,ep,ho,r⟩,_⟩:=id I.loc;obtain⟨sl,hL⟩:=u.any ho I.free (by simp)
 exact I.step (g':=s.gens) (d':=s.drawn) (ch:=[]) (λ_ z=>nomatch z) (λb o _ hb _ e n=>u.keep b o e n hb (by simp)) (λb o _ hb _ e n=>u.slot b o e n hb (by simp)) (λb o _ e n=>u.free b o e n (by simp)) (λb o _ e=>u.there b o e (by simp)) u.tups u.frzs u.tbls (λm' hm=>by
  obtain⟨o',es',ep',ho',r'⟩:=hm;rw[ho]at ho';cases ho';exact⟨_,es',ep',hL,r'⟩) hok I.bare
def Inv.call{g':Array GenState}{d':Drawn}{ch:List ZE}(I:Inv X bv σ H s)(u:Un (uW X.stack) ch H H' s.heap h')(hok:HOk X.prog X.w H' h')(hg:SO g')
  (hch:∀b∈ch,(b∈X.ex\/X.s₀.heap.objs.size<=b)/\b≠X.env.locals/\(∀x c,X.env.cells.lookup x=ZA c->c≠b)/\∀p∈X.pn++bv,p.1≠b):
  Inv X bv σ H' {s with heap:=h',gens:=g',drawn:=d',toks:=t'}:=by
 obtain⟨m,⟨o,es,ep,ho,r⟩,_⟩:=id I.loc;obtain⟨sl,hL⟩:=u.any ho I.free λz=>(hch _ z).2.1 rfl
 exact I.step (ch:=ch) hch (λb o hL hb hc e n=>u.keep b o e n (λz=>(Nl.mp (I.Mj b z)).elim hL hb) hc) (λb o _ _ hc e n=>u.any e n hc) (λb o hc e n=>u.free b o e n hc) (λb o hc e=>u.there b o e hc) u.tups u.frzs u.tbls (λm' hm=>by
  obtain⟨o',es',ep',ho',r'⟩:=hm;rw[ho]at ho';cases ho';exact⟨_,es',ep',hL,r'⟩) hok hg
def Inv.turned(I:Inv X bv σ H s)(k:∀b o,b≠it->s.heap.get? b=ZA o->h'.get? b=ZA o)(hn:H it=ZB)(hL:it≠X.env.locals)
  (h1:it∈X.ex\/X.s₀.heap.objs.size<=it) (h2:∀x c,X.env.cells.lookup x=ZA c->c≠it) (h3:∀p∈X.pn++bv,p.1≠it):Inv X bv σ H {s with heap:=h',toks:=t'}:=by
 have nit:∀b u,H b=ZA u->b≠it:=λb u e z=>by rw[z,hn]at e;cases e
 refine I.step (g':=s.gens) (d':=s.drawn) (ch:=[it]) (λb hb=>?_) (λb o _ _ hc e _=>k b o (λz=>hc (by simp[z])) e) (λb o _ _ hc e _=>⟨o.slots,k b o (λz=>hc (by simp[z])) e⟩) (λ_ _ _ _ n=>n)
  (λb o hc e=>⟨o,k b o (λz=>hc (by simp[z])) e⟩) (λ_ _ e=>e) (λ_ _ _ e=>e) (λb ps e=>⟨#[],by rw[e];simp⟩) (λm hm=>?_) (λb u e=>?_) I.bare
 ·have e:b=it:=by simpa using hb
  subst e;exact⟨h1,hL,h2,h3⟩
 ·obtain⟨o,es,ep,ho,r⟩:=hm
  exact⟨o,es,ep,k _ o (QZ hL) ho,r⟩
 ·refine(I.hok b u e).L8 (λc v hc q=>k c v ?_ q) (λ_ q=>q) λ_ _ q=>q
  rcases hc with z|z
  ·rw[z];exact nit b u e
  ·exact nit c _ z
def Inv.tok(I:Inv X bv σ H s)(t:Nat):Inv X bv σ H {s with toks:=t}:=I.un (h':=s.heap) (t':=t) Un.refl I.hok
theorem Inv.kept(I:Inv X bv σ H s)(k:∀b u,s.heap.get? b=ZA u->h'.get? b=ZA u):Inv X bv σ H {s with heap:=h',toks:=t'}:=I.un (Un.kept k) (I.hok.kept k)
theorem Inv.laid{o:HO}(I:Inv X bv σ H s)(k:∀b u,s.heap.get? b=ZA u->h'.get? b=ZA u)(hp:s.heap.objs.size<=a)(new:ObjOk X.prog X.w (upd H a o) h' a o):
  Inv X bv σ (upd H a o) {s with heap:=h',toks:=t'}:=I.un (Un.laid k hp (I.hok.fresh hp)) (I.hok.laid k hp new)
theorem Inv.write{x:ZE}{o:HO}(I:Inv X bv σ H s)(mu:LG (H x))(he:e=x\/H e=ZA (.own x))(k:∀b u,b≠e->s.heap.get? b=ZA u->h'.get? b=ZA u)(heo:∃u,h'.get? e=ZA u)
  (new:ObjOk X.prog X.w (upd H x o) h' x o):Inv X bv σ (upd H x o) {s with heap:=h',toks:=t'}:=I.un (Un.write mu he k heo) (I.hok.write mu he k heo new)
def Inv.Ml{pins':V2}(I:Inv X bv σ H s)(h:∀p∈pins',s.heap.get? p.1=ZA p.2/\H p.1=ZB/\p.1≠X.env.locals/\p.1∉X.fs/\∀v,p.2.data≠ .cell v):Inv X pins' σ H s:=
 ⟨I.ok,I.os,I.bare,I.base,I.loc,I.cell,I.free,I.freeC,λp hp=>(NO.mp hp).elim (λz=>I.pin p (OD _ z)) (h p),I.hok,I.len⟩
def wJ(hN:N.Nodup)(a:N[i]?=ZA x)(b:N[j]?=ZA x):i=j:=by
 obtain⟨h1,e1⟩:=Nu.mp a
 obtain⟨h2,e2⟩:=Nu.mp b
 exact(List.getElem_inj hN).mp (e1.trans e2.symm)
variable{Q:Unit->Ng->Prop}
def rM{u:Nf}(I:Inv X bv σ H s)(hN:X.N.Nodup)(hi:X.N[i]?=ZA x)(hx:Loc X.env.scope x)(r:RelV v u)
  (h:∀s',Inv X bv (σ.set i (ZA v)) H s'->(∃a,Qu a s.heap s'.heap/\(a=X.env.locals\/X.env.cells.lookup x=ZA a))->Q () s') (hf:autoParam (X.fn x=ZC\/X.env.scope.names.lookup x=ZA .local) r_):ZJ M A (storeName X.env x u) Q E s:=by
 obtain⟨m,hn,hl⟩:=id I.loc
 have hcls:(X.env.scope.kind == .class||(X.env.scope.kind == .module&&X.env.locals != X.env.globals))=ZD:=by rw[I.ok.kind];rfl
 have hiσ:i<σ.length:=by rw[I.len];exact(Nu.mp hi).1
 have cne:=I.cne
 have tracked:∀{a:ZE}{h':ZH},(∃o,s.heap.get? a=ZA o/\H a=ZB)->Qu a s.heap h'->HOk X.prog X.w H h':=λ{a h'} ha hs b ob e=>by
  obtain⟨_,_,hfree⟩:=ha;refine(I.hok b ob e).L8 (λc w' hc q=>(hs.2 c ?_).trans q) (λ_ q=>q) λ_ _ q=>q
  rintro rfl
  rcases hc with rfl|hc
  ·rw[hfree]at e;cases e
  ·rw[hfree]at hc;cases hc
 rcases hx with hk|hk
 ·refine wpAny_storeName_local hk hn (λh' hn' hs=>?_) hcls
  obtain⟨oL,_,_,hoL,_⟩:=id hn;refine h _ ⟨I.ok,I.os,I.bare,⟨λb o e n hb hx=>?_,λb o e n hb hx=>?_,I.base.free,λb o e hx=>?_,I.base.tups,I.base.frzs,I.base.tbls⟩,⟨_,hn',λj y v' e1 e2 e3=>?_⟩,λy c e=>?_,I.free,I.freeC,λp hp=>?_,tracked ⟨oL,hoL,I.free⟩ hs,by simpa using I.len⟩ ⟨_,hs,.inl rfl⟩
  ·exact(hs.2 b (Oa (Nq (Np e) I.ok.above))).trans (I.base.keep b o e n hb hx)
  ·obtain⟨sl,e1⟩:=I.base.slot b o e n hb hx
   exact⟨sl,(hs.2 b (Oa (Nq (Np e) I.ok.above))).trans e1⟩
  ·obtain⟨o',e1⟩:=I.base.there b o e hx
   exact⟨o',(hs.2 b (Oa (Nq (Np e) I.ok.above))).trans e1⟩
  ·by_cases hj:j=i
   ·subst hj
    rw[hi]at e1;cases e1;rw[NG hiσ]at e2
    cases e2;exact⟨u,r,.inl ⟨hk,by simp⟩⟩
   ·rw[NI (QZ hj)]at e2
    obtain⟨u',r',q⟩:=hl j y v' e1 e2 e3;refine⟨u',r',?_⟩
    rcases q with⟨k,e⟩|⟨k,c,e,z⟩
    ·refine .inl ⟨k,?_⟩
     have:y≠x:=λe=>hj (wJ hN e1 (e▸hi))
     simp[this,e]
    ·exact .inr ⟨k,c,e,z.sameBut hs (cne y c e)⟩
  ·obtain⟨w',z⟩:=I.cell y c e
   exact⟨w',z.sameBut hs (cne y c e)⟩
  ·obtain⟨e,n,ne,nf,d⟩:=I.pin p hp
   exact⟨(hs.2 p.1 ne).trans e,n,ne,nf,d⟩
 ·have hfn:X.fn x=ZC:=by
   rcases hf with z|z
   ·exact z
   ·rw[z]at hk;cases hk
  obtain⟨c,hc⟩:=I.ok.has x (.inl hk);obtain⟨w',z⟩:=I.cell x c hc;refine wpAny_storeName_cell I.ok.kind hk hc z (λh' hc' hs=>?_)
  obtain⟨oc,hoc,hocd⟩:=id z;refine h {s with heap:=h'} ⟨I.ok,I.os,I.bare,⟨λb o e n hb hx=>?_,λb o e n hb hx=>?_,I.base.free,λb o e hx=>?_,I.base.tups,I.base.frzs,I.base.tbls⟩,⟨m,hn.sameBut hs (QZ (cne x c hc)),λj y v' e1 e2 e3=>?_⟩,λy c' e=>?_,I.free,I.freeC,λp hp=>?_,tracked ⟨oc,hoc,I.freeC x c hc⟩ hs,by simpa using I.len⟩ ⟨c,hs,.inr hc⟩
  ·exact(hs.2 b (Oa (Nq (Np e) (I.ok.cab x c hfn hc)))).trans (I.base.keep b o e n hb hx)
  ·obtain⟨sl,e1⟩:=I.base.slot b o e n hb hx
   exact⟨sl,(hs.2 b (Oa (Nq (Np e) (I.ok.cab x c hfn hc)))).trans e1⟩
  ·obtain⟨o',e1⟩:=I.base.there b o e hx
   exact⟨o',(hs.2 b (Oa (Nq (Np e) (I.ok.cab x c hfn hc)))).trans e1⟩
  ·by_cases hj:j=i
   ·subst hj
    rw[hi]at e1;cases e1;rw[NG hiσ]at e2
    cases e2;exact⟨u,r,.inr ⟨.inl hk,c,hc,hc'⟩⟩
   ·rw[NI (QZ hj)]at e2
    obtain⟨u',r',q⟩:=hl j y v' e1 e2 e3;refine⟨u',r',?_⟩
    rcases q with q|⟨k,c',e,z'⟩
    ·exact .inl q
    ·refine .inr ⟨k,c',e,z'.sameBut hs ?_⟩
     rintro rfl
     exact hj (wJ hN e1 (I.ok.inj _ _ _ e hc▸hi))
  ·by_cases hcc:c'=c
   ·subst hcc;exact⟨_,hc'⟩
   ·obtain⟨w2,z2⟩:=I.cell y c' e
    exact⟨w2,z2.sameBut hs hcc⟩
  ·obtain⟨e,n,ne,nf,d⟩:=I.pin p hp
   refine⟨(hs.2 p.1 ?_).trans e,n,ne,nf,d⟩
   intro q;rw[q,hoc]at e
   have q':oc=p.2:=NZ e;exact d w' (by rw[<-q'];exact hocd)
def vN{u:Nf}(I:Inv X bv σ H s)(hN:X.N.Nodup)(hi:X.N[i]?=ZA x)(hx:Loc X.env.scope x)(r:RelV v u)
  (h:∀s',Inv X bv (σ.set i (ZA v)) H s'->Q () s') (hf:autoParam (X.fn x=ZC\/X.env.scope.names.lookup x=ZA .local) r_):ZJ M A (storeName X.env x u) Q E s:=
 rM I hN hi hx r (λs' I' _=>h s' I') hf
def Inv.My{ch:List ZE}(I:Inv X bv σ H s)(ho:s'.os=s.os)(u:Un (uW X.stack) ch H H' s.heap s'.heap)(hok:HOk X.prog X.w H' s'.heap)(hg:SO s'.gens)
  (hch:∀b∈ch,(b∈X.ex\/X.s₀.heap.objs.size<=b)/\b≠X.env.locals/\(∀x c,X.env.cells.lookup x=ZA c->c≠b)/\∀p∈X.pn++bv,p.1≠b):Inv X bv σ H' s':=by
 obtain⟨h',g',d',t',o'⟩:=s'
 have e:o'=s.os:=ho;subst e;exact I.call (g':=g') (t':=t') (d':=d') u hok hg hch
end
abbrev XK:=Nf->Option ZE->Hp->Prop
abbrev St:=List (Option V)
abbrev VK:=V->Hp->Prop
abbrev TE:=St->Hp->VK->Prop
abbrev TT:=St->Hp->(Bool->Hp->Prop)->Prop
abbrev TA:=St->Hp->(List V->Hp->Prop)->Prop
structure qJ where
 nx:St->Hp->Prop
 rt:VK
 bk:St->Hp->Prop:=λ_ _=>False
 ct:St->Hp->Prop:=λ_ _=>False
abbrev TS:=qJ->St->Hp->Prop
def EP(X:Cx)(bv:V2)(σ:St)(Q:VK)(u:Nf)(s':Ng):Prop:=∃v H',Inv X bv σ H' s'/\RelV v u/\Q v H'
def TP(X:Cx)(bv:V2)(σ:St)(Q:Bool->Hp->Prop)(b:Bool)(s':Ng):Prop:=∃H',Inv X bv σ H' s'/\Q b H'
def AP(X:Cx)(bv:V2)(σ:St)(Q:List V->Hp->Prop)(us:List Nf)(s':Ng):Prop:=∃vs H',Inv X bv σ H' s'/\Vals vs us/\Q vs H'
def SP(X:Cx)(bv:V2)(D:qJ)(f:Flow)(s':Ng):Prop:=
 match f with
 |.next=>∃σ' H',Inv X bv σ' H' s'/\D.nx σ' H'
 |.brk=>∃σ' H',Inv X bv σ' H' s'/\D.bk σ' H'
 |.cont=>∃σ' H',Inv X bv σ' H' s'/\D.ct σ' H'
 |.ret u=>∃v σ' H',Inv X bv σ' H' s'/\RelV v u/\D.rt v H'
def PE(X:Cx)(e:ZG)(t:TE):Prop:=
 ∀(bv:V2)(s:Ng)(σ:St)(H:Hp)(Q:VK),Inv X bv σ H s->t σ H Q->ZJ (ZK X.prog X.w) X.A (eval e X.env) (EP X bv σ Q) X.xe s
def PT(X:Cx)(e:ZG)(t:TT):Prop:=
 ∀(bv:V2)(s:Ng)(σ:St)(H:Hp)(Q:Bool->Hp->Prop),Inv X bv σ H s->t σ H Q->ZJ (ZK X.prog X.w) X.A (isTrue e X.env (eval e X.env)) (TP X bv σ Q) X.xe s
def PW(X:Cx)(e:ZG)(t:TT):Prop:=
 ∀(whole:Sem Nf)(bv:V2)(s:Ng)(σ:St)(H:Hp)(Q:Bool->Hp->Prop),Inv X bv σ H s->t σ H Q->ZJ (ZK X.prog X.w) X.A (isTrue e X.env whole) (TP X bv σ Q) X.xe s
variable{e:ZG}
def PW.pt{t:TT}(h:PW X e t):PT X e t:=h _
def PA(X:Cx)(es:List ZG)(t:TA):Prop:=
 ∀(pos:Pos)(bv:V2)(s:Ng)(σ:St)(H:Hp)(Q:List V->Hp->Prop),Inv X bv σ H s->t σ H Q->ZJ (ZK X.prog X.w) X.A (spliced (backTo pos (NF es X.env))) (AP X bv σ Q) X.xe s
def PS(X:Cx)(st:ZF)(t:TS):Prop:=
 ∀(bv:V2)(s:Ng)(σ:St)(H:Hp)(D:qJ),Inv X bv σ H s->t D σ H->ZJ (ZK X.prog X.w) X.A (exec st X.env) (SP X bv D) X.xe s
def PSs(X:Cx)(st:List ZF)(t:TS):Prop:=
 ∀(bv:V2)(s:Ng)(σ:St)(H:Hp)(D:qJ),Inv X bv σ H s->t D σ H->ZJ (ZK X.prog X.w) X.A (execs st X.env) (SP X bv D) X.xe s
def cz{t:Sem α}{Q Q':α->Ng->Prop}(h:ZJ M A t Q E s)(hQ:∀a s,Q a s->Q' a s):ZJ M A t Q' E s:=Pl h hQ λ_ _ x=>x
variable{c:ZG}{ta:TE}{σ:St}
section
def vK(i:Nat):TE:=λσ H Q=>∃v,σ[i]?=ZA (ZA v)/\Q v H
def tC(v:V):TE:=λ_ H Q=>Q v H
def jO{pos:Pos}(hN:X.N[i]?=ZA x)(hv:vo X.env.scope x)(hd:autoParam ((x == ("__debug__" : Str))=ZD) s_)(hcd:autoParam ((x == ("__classdict__" : Str))=ZD) s_):PE X (.Name x pos) (vK i):=by
 intro bv s σ H Q I h;obtain⟨v,e,h⟩:=h;obtain⟨m,hn,hl⟩:=I.loc;obtain⟨u,r,l⟩:=hl i x v hN e hv
 have fin:EP X bv σ Q u s:=⟨v,H,I,r,h⟩;rcases l with⟨hk,hm⟩|⟨hk,c,hc,hcell⟩
 ·exact wpAny_Name (wpAny_loadName_local I.ok.kind hk hn hm fin) hd
 ·rcases hk with hk|hk
  ·exact wpAny_Name (wpAny_loadName_cell I.ok.kind hk hc hcell fin) hd
  ·exact wpAny_Name (wpAny_loadName_free I.ok.kind hk hc hcell fin hcd) hd
def IS{i j pos}:PE X (.Constant (.int i) j pos) (tC (.int i)):=λ_ _ _ H _ I h=>wpAny_Constant_int ⟨.int i,H,I.tok _,⟨_,rfl⟩,h⟩
def K0{b j pos}:PE X (.Constant (.bool b) j pos) (tC (.bl b)):=λ_ _ _ H _ I h=>Constant_bool ⟨.bl b,H,I,rfl,h⟩
def CH{j pos}:PE X (.Constant .none j pos) (tC .non):=λ_ _ _ H _ I h=>Constant_none ⟨.non,H,I,rfl,h⟩
def i0{x j pos}:PE X (.Constant (.str x) j pos) (tC (.str x)):=λ_ _ _ H _ I h=>Ui ⟨.str x,H,I.tok _,⟨_,rfl⟩,h⟩
def Gl(X:Cx)(x:Str):Prop:=X.env.kindOf x=ZA .globalImplicit
def ox{u:Nf}{pos:Pos}(I:Inv X bv σ H s)(hg:Gl X x)(hm:X.mg x=ZA u)(h:Q u s)
  (hd:autoParam ((x == ("__debug__" : Str))=ZD) s_):ZJ (ZK X.prog X.w) X.A (eval (.Name x pos) X.env) Q E s:=
 R5 I.ok.kind hg (Calls.loadGlobal_global (by rw[I.ok.glob];exact I.mod.glob.keeps I.bk) hm h) hd
def fO{u:Nf}{pos:Pos}(I:Inv X bv σ H s)(hg:Gl X x)(hm:X.mg x=ZB)(hv:N5 x=ZA u)(h:Q u s)
  (hn:autoParam (x≠ "__name__") s_) (hd:autoParam ((x == ("__debug__" : Str))=ZD) s_):ZJ (ZK X.prog X.w) X.A (eval (.Name x pos) X.env) Q E s:=by
 obtain⟨mb,h1,h2⟩:=I.mod.blt;exact R5 I.ok.kind hg (Calls.loadGlobal_builtin (by rw[I.ok.glob];exact I.mod.glob.keeps I.bk) hm (by rw[I.ok.blt];exact h1.keeps I.bk) ((h2 x hn).trans hv) h) hd
def FX{u:Nf}{pos:Pos}(hg:Gl X x)(hm:X.mg x=ZA u)(r:RelV v u)(hd:autoParam ((x == ("__debug__" : Str))=ZD) s_):PE X (.Name x pos) (tC v):=
 λ_ _ _ H _ I h=>ox I hg hm ⟨v,H,I,r,h⟩ hd
def FZ{u:Nf}{pos:Pos}(hg:Gl X x)(hm:X.mg x=ZB)(hv:N5 x=ZA u)(r:RelV v u)(hn:autoParam (x≠ "__name__") s_)(hd:autoParam ((x == ("__debug__" : Str))=ZD) s_):PE X (.Name x pos) (tC v):=
 λ_ _ _ H _ I h=>fO I hg hm hv ⟨v,H,I,r,h⟩ hn hd
variable {a b:ZG}{tb:TE}{pos:Pos}
def tB(t:TE):TT:=λσ H Q=>t σ H λx H1=>∃c,x=.bl c/\Q c H1
def IF{t:TE}(h:PE X e t)(he:autoParam (∀whole,isTrue e X.env whole=(do let v <-whole;standAt e.pos;holding [v] (truthy v))) t_):PT X e (tB t):=by
 intro bv s σ H Q I hw;refine isTrue_plain (cz (h bv s σ H _ I hw) λv s1 ⟨x,H1,I1,r1,q1⟩=>?_) (he _)
 obtain⟨d,rfl,q⟩:=q1;cases r1;exact OL ⟨H1,I1,q⟩
variable {tA tB':TT}{rest:List ZG}
def tAnd(t u:TT):TT:=λσ H Q=>t σ H λc H1=>if c=ZC then u σ H1 Q else Q ZD H1
def tOr(t u:TT):TT:=λσ H Q=>t σ H λc H1=>if c=ZC then Q ZC H1 else u σ H1 Q
def tNot(t:TT):TT:=λσ H Q=>t σ H λc H1=>Q (!c) H1
def FG(ha:PT X a tA):PW X (.BoolOp .And [a] pos) tA:=by
 intro wh bv s σ H Q I h;refine isTrue_and (cz (ha bv s σ H Q I h) λc s1 e=>?_)
 cases c with
 |true=>exact isTrue_and_nil e
 |false=>exact e
def IC(ha:PT X a tA):PW X (.BoolOp .Or [a] pos) tA:=by
 intro wh bv s σ H Q I h;refine isTrue_or (cz (ha bv s σ H Q I h) λc s1 e=>?_)
 cases c with
 |false=>exact isTrue_or_nil e
 |true=>exact e
def IE(ha:PT X a tA)(hb:PW X (.BoolOp .And (b::rest) pos) tB'):PW X (.BoolOp .And (a::b::rest) pos) (tAnd tA tB'):=by
 intro wh bv s σ H Q I h;refine isTrue_and (cz (ha bv s σ H _ I h) λc s1 hh_=>?_)
 obtain⟨H1,I1,q1⟩:=hh_
 cases c with
 |true=>exact hb wh bv s1 σ H1 Q I1 q1
 |false=>exact⟨H1,I1,q1⟩
def KU(ha:PT X a tA)(hb:PW X (.BoolOp .Or (b::rest) pos) tB'):PW X (.BoolOp .Or (a::b::rest) pos) (tOr tA tB'):=by
 intro wh bv s σ H Q I h;refine isTrue_or (cz (ha bv s σ H _ I h) λc s1 hh_=>?_)
 obtain⟨H1,I1,q1⟩:=hh_
 cases c with
 |true=>exact⟨H1,I1,q1⟩
 |false=>exact hb wh bv s1 σ H1 Q I1 q1
def IG(ha:PT X a tA):PT X (.UnaryOp .Not a pos) (tNot tA):=by
 intro bv s σ H Q I h;exact isTrue_not (ha bv s σ H (λc H1=>Q (!c) H1) I h)
def Kl(ta tb:TE):TE:=λσ H Q=>ta σ H λx H1=>∃c,x=.bl c/\if c=ZC then tb σ H1 Q else Q (.bl ZD) H1
def tOrV(ta tb:TE):TE:=λσ H Q=>ta σ H λx H1=>∃c,x=.bl c/\if c=ZC then Q (.bl ZC) H1 else tb σ H1 Q
def Kc(ta:TE):TE:=λσ H Q=>ta σ H λx H1=>∃c,x=.bl c/\Q (.bl (!c)) H1
def IM{op}{t:TE}(h:PE X a t):PE X (.BoolOp op [a] pos) t:=λbv s σ H Q I hw=>BoolOp_one (h bv s σ H Q I hw)
def IT(ha:PE X a ta)(hb:PE X (.BoolOp .And (b::rest) pos) tb):PE X (.BoolOp .And (a::b::rest) pos) (Kl ta tb):=by
 intro bv s σ H Q I h;refine BoolOp_and (cz (ha bv s σ H _ I h) λv s1 hh_=>?_)
 obtain⟨x,H1,I1,r1,q1⟩:=hh_;obtain⟨c,rfl,q1⟩:=q1;cases r1;refine OL ?_
 cases c with
 |true=>exact hb bv s1 σ H1 Q I1 q1
 |false=>exact⟨.bl ZD,H1,I1,rfl,q1⟩
def KZ(ha:PE X a ta)(hb:PE X (.BoolOp .Or (b::rest) pos) tb):PE X (.BoolOp .Or (a::b::rest) pos) (tOrV ta tb):=by
 intro bv s σ H Q I h;refine BoolOp_or (cz (ha bv s σ H _ I h) λv s1 hh_=>?_)
 obtain⟨x,H1,I1,r1,q1⟩:=hh_;obtain⟨c,rfl,q1⟩:=q1;cases r1;refine OL ?_
 cases c with
 |false=>exact hb bv s1 σ H1 Q I1 q1
 |true=>exact⟨.bl ZC,H1,I1,rfl,q1⟩
def IP(ha:PE X a ta):PE X (.UnaryOp .Not a pos) (Kc ta):=by
 intro bv s σ H Q I h;refine UnaryOp_ (cz (ha bv s σ H _ I h) λv s1 hh_=>?_)
 obtain⟨x,H1,I1,r1,q1⟩:=hh_;obtain⟨c,rfl,q1⟩:=q1;cases r1;exact not_of (OL ⟨.bl (!c),H1,I1,rfl,q1⟩)
def tIf(t:TT)(ta tb:TE):TE:=λσ H Q=>t σ H λc H1=>if c=ZC then ta σ H1 Q else tb σ H1 Q
def CI(hc:PT X c tA)(ha:PE X a ta)(hb:PE X b tb):PE X (.IfExp c a b pos) (tIf tA ta tb):=by
 intro bv s σ H Q I h;refine wpAny_IfExp (cz (hc bv s σ H _ I h) λd s1 hh_=>?_)
 obtain⟨H1,I1,q1⟩:=hh_
 cases d with
 |true=>exact ha bv s1 σ H1 Q I1 q1
 |false=>exact hb bv s1 σ H1 Q I1 q1
end
def SqL(K:M9)(H:Hp)(a:ZE)(xs:List V):Prop:=
 Rd H a (.lst xs) ∨
  ∃(o:Obj)(its:Array Nf)(n:Nat),K.lookup a=ZA o/\o.cls=.type "list"/\o.dict=ZB/\o.data=.seq its n/\its.size<=ZI/\Vals xs its.toList
def SqT(K:M9)(H:Hp)(a:ZE)(xs:List V):Prop:=
 Rd H a (.tup xs) ∨
  ∃(o:Obj)(its:Array Nf)(n:Nat),K.lookup a=ZA o/\o.cls=.type "tuple"/\o.data=.seq its n/\its.size<=ZI/\Vals xs its.toList
noncomputable def absV:Nf->Option V
 |.none=>ZA .non
 |.bool b=>ZA (.bl b)
 |.int i _=>ZA (.int i)
 |.str x _=>ZA (.str x)
 |.bytes b _=>ZA (.byt b)
 |.float b _=>ZA (.flt b)
 |.ref a=>ZA (.ref a)
 |.type n=>ZA (.ty n)
 |_=>ZB
def RelV.abs{x:V}{u:Nf}(r:RelV x u):absV u=ZA x:=by
 cases x with
 |non=>cases r;rfl
 |bl _=>cases r;rfl
 |int _=>obtain⟨t,rfl⟩:=r;rfl
 |str _=>obtain⟨t,rfl⟩:=r;rfl
 |byt _=>obtain⟨t,rfl⟩:=r;rfl
 |flt _=>obtain⟨t,rfl⟩:=r;rfl
 |ref _=>cases r;rfl
 |ty _=>cases r;rfl
def RelV.inj{x y:V}{u:Nf}(r:RelV x u)(q:RelV y u):x=y:=NZ (r.abs.symm.trans q.abs)
theorem Vals.inj:∀{xs ys:List V}{us:List Nf},Vals xs us->Vals ys us->xs=ys
 |_,_,_,.nil,.nil=>rfl
 |_,_,_,.cons r t,.cons r' t'=>by rw[r.inj r',Vals.inj t t']
section
variable {ys:List V}
def SqL.of(h:H a=ZA (.lst xs)):SqL K H a xs:=.inl (.inl h)
def SqT.of(h:H a=ZA (.tup xs)):SqT K H a xs:=.inl (.inl h)
def Inv.list(I:Inv X bv σ H s)(h:SqL X.K H a xs):∃its:List Nf,Vals xs its/\PlainL s.heap a its.toArray/\xs.length<=ZI:=by
 rcases h with h|⟨o,its,n,hk,hc,hd,hs,hz,r⟩
 ·obtain⟨z,its,n,r,e⟩:=h.ok I.hok
  exact⟨its,r,⟨_,n,e,rfl,rfl,rfl⟩,z⟩
 ·refine⟨its.toList,r,⟨o,n,I.kIn a o hk,hc,hd,by simpa using hs⟩,?_⟩
  have e:=r.length;simp only[NX]at e;omega
def Inv.tuple(I:Inv X bv σ H s)(h:SqT X.K H a xs):∃its:List Nf,Vals xs its/\VS s.heap a its.toArray/\xs.length<=ZI:=by
 rcases h with h|⟨o,its,n,hk,hc,hs,hz,r⟩
 ·obtain⟨z,its,r,p⟩:=h.ok I.hok
  exact⟨its,r,p,z⟩
 ·refine⟨its.toList,r,⟨o,I.kIn a o hk,hc,n,by simpa using hs⟩,?_⟩
  have e:=r.length;simp only[NX]at e;omega
def Inv.Mb(I:Inv X bv σ H s)(h:SqL X.K H a xs)(h':SqL X.K H a ys):xs=ys:=by
 obtain⟨its,r,⟨o,n,e,_,_,d⟩,_⟩:=I.list h;obtain⟨its',r',⟨o',n',e',_,_,d'⟩,_⟩:=I.list h';rw[e]at e';cases e';rw[d]at d';injection d' with d1 _
 have:its=its':=by simpa using congrArg R9 d1
 subst this;exact r.inj r'
def Inv.Ma(I:Inv X bv σ H s)(h:SqT X.K H a xs)(h':SqT X.K H a ys):xs=ys:=by
 obtain⟨its,r,⟨o,e,_,n,d⟩,_⟩:=I.tuple h;obtain⟨its',r',⟨o',e',_,n',d'⟩,_⟩:=I.tuple h';rw[e]at e';cases e';rw[d]at d';injection d' with d1 _
 have:its=its':=by simpa using congrArg R9 d1
 subst this;exact r.inj r'
end
noncomputable abbrev Cx.FS(X:Cx)(E:V1):Cx:={X with xe:=E}
noncomputable abbrev Cx.nox(X:Cx):Cx:=X.FS λ_ _=>False
def Cx.Ok.FS(ok:X.Ok)(E:V1):(X.FS E).Ok:=
 ⟨ok.mod,ok.kind,ok.glob,ok.blt,ok.above,ok.inj,ok.has,ok.cab,ok.hd,ok.frames,ok.stk,ok.exf,ok.bs,ok.bsz,ok.noex,ok.exfs,ok.funs,ok.frf⟩
def Cx.Ok.IR(ok:(X.FS E).Ok):X.Ok:=
 ⟨ok.mod,ok.kind,ok.glob,ok.blt,ok.above,ok.inj,ok.has,ok.cab,ok.hd,ok.frames,ok.stk,ok.exf,ok.bs,ok.bsz,ok.noex,ok.exfs,ok.funs,ok.frf⟩
theorem Inv.FS(I:Inv X bv σ H s)(E:V1):Inv (X.FS E) bv σ H s:=⟨I.ok.FS E,I.os,I.bare,I.base,I.loc,I.cell,I.free,I.freeC,I.pin,I.hok,I.len⟩
theorem Inv.IR(I:Inv (X.FS E) bv σ H s):Inv X bv σ H s:=⟨I.ok.IR,I.os,I.bare,I.base,I.loc,I.cell,I.free,I.freeC,I.pin,I.hok,I.len⟩
theorem SP.IR{D:qJ}{f:Flow}(h:SP (X.FS E) bv D f s'):SP X bv D f s':=by
 cases f with
 |next=>obtain⟨σ',H',I,q⟩:=h;exact⟨σ',H',I.IR,q⟩
 |brk=>obtain⟨σ',H',I,q⟩:=h;exact⟨σ',H',I.IR,q⟩
 |cont=>obtain⟨σ',H',I,q⟩:=h;exact⟨σ',H',I.IR,q⟩
 |ret u=>obtain⟨v,σ',H',I,r,q⟩:=h;exact⟨v,σ',H',I.IR,r,q⟩
def PSs.nox{st:List ZF}{t:TS}(h:PSs X.nox st t):PSs X st t:=λbv s σ H D I hw=>
 Pl (h bv s σ H D (I.FS _) hw) (λ_ _ q=>q.IR) λ_ _ z=>QC z
variable{tc:TT}{te:TE}
section
variable {st:ZF}{rest:List ZF}{t u:TS}{pos:Pos}
def Kd:TS:=λD σ H=>D.nx σ H
def HH(t u:TS):TS:=λD σ H=>t {D with nx:=u D} σ H
def FI:PSs X [] Kd:=λ_ _ σ H _ I h=>RY ⟨σ,H,I,h⟩
def pf(h1:PS X st t)(h2:PSs X rest u):PSs X (st::rest) (HH t u):=by
 intro bv s σ H D I h;refine Vp (cz (h1 bv s σ H {D with nx:=u D} I h) λf s1 q=>?_)
 cases f with
 |next=>
  obtain⟨σ',H',I',q⟩:=q
  exact h2 bv s1 σ' H' D I' q
 |ret v=>exact q
 |brk=>exact q
 |cont=>exact q
def FH(h1:PS X st t):PSs X [st] t:=by
 intro bv s σ H D I h;refine Vp (cz (h1 bv s σ H D I h) λf s1 q=>?_)
 cases f with
 |next=>exact RY q
 |ret v=>exact q
 |brk=>exact q
 |cont=>exact q
def Kj:TS:=λD σ H=>D.ct σ H
def wt:PS X (.Continue pos) Kj:=λ_ _ σ H _ I h=>wpAny_Continue ⟨σ,H,I,h⟩
def Inv.quiet(I:Inv X bv σ H s):interactive X.env=ZD:=by simp[interactive,I.ok.kind]
def Kg(te:TE):TS:=λD σ H=>te σ H λ_ H1=>D.nx σ H1
def tX(he:PE X e te)(hs:Ov e ZB pos.line X.env=pure ZD:=by rfl):PS X (.Expr e pos) (Kg te):=by
 intro bv s σ H D I h;exact wpAny_Expr_any (cz (he bv s σ H _ I h) λv s1 ⟨x,H1,I1,r1,q1⟩=>⟨σ,H1,I1,q1⟩) I.quiet hs
def tRet(te:TE):TS:=λD σ H=>te σ H D.rt
def IH(he:PE X e te):PS X (.Return (ZA e) pos) (tRet te):=by
 intro bv s σ H D I h;exact wpAny_Return_some (cz (he bv s σ H _ I h) λv s1 ⟨x,H1,I1,r1,q1⟩=>⟨x,σ,H1,I1,r1,q1⟩)
def Kf(c:TT)(t u:TS):TS:=λD σ H=>c σ H λb H1=>if b=ZC then t D σ H1 else u D σ H1
def Hf{a b:List ZF}(hc:PT X c tc)(ha:PSs X a t)(hb:PSs X b u):PS X (.If c a b pos) (Kf tc t u):=by
 intro bv s σ H D I h;refine wpAny_If (cz (hc bv s σ H _ I h) λd s1 hh_=>?_)
 obtain⟨H1,I1,q1⟩:=hh_
 cases d with
 |true=>exact ha bv s1 σ H1 D I1 q1
 |false=>exact hb bv s1 σ H1 D I1 q1
end
abbrev TG:=V->St->Hp->(St->Hp->Prop)->Prop
abbrev GO:=List V->St->Hp->(St->Hp->Prop)->Prop
def PG(X:Cx)(target:ZG)(t:TG):Prop:=
 ∀(bv:V2)(s:Ng)(σ:St)(H:Hp)(v:V)(u:Nf)(Q:St->Hp->Prop),Inv X bv σ H s->RelV v u->t v σ H Q →
  ZJ (ZK X.prog X.w) X.A (assign target X.env u) (λ_ s'=>∃σ' H',Inv X bv σ' H' s'/\Q σ' H') X.xe s
def PGs(X:Cx)(ts:List ZG)(t:GO):Prop:=
 ∀(bv:V2)(s:Ng)(σ:St)(H:Hp)(vs:List V)(us:List Nf)(Q:St->Hp->Prop),Inv X bv σ H s->Vals vs us->t vs σ H Q →
  ZJ (ZK X.prog X.w) X.A (assignInOrder ((O8 ts X.env).map (·.2)) us) (λ_ s'=>∃σ' H',Inv X bv σ' H' s'/\Q σ' H') X.xe s
variable{es:List ZG}{tg:ZG}
section
variable {pos:Pos}
def DE(i:Nat):TG:=λv σ H Q=>Q (σ.set i (ZA v)) H
def FV(hN:X.N.Nodup)(hi:X.N[i]?=ZA x)(hx:Loc X.env.scope x)(hf:autoParam (X.fn x=ZC\/X.env.scope.names.lookup x=ZA .local) r_):PG X (.Name x pos) (DE i):=by
 intro bv s σ H v u Q I r h;exact UW (vN I hN hi hx r (λs' I'=>⟨_,H,I',h⟩) hf)
def gNil:GO:=λvs σ H Q=>vs=[]/\Q σ H
def Lp(t:TG)(u:GO):GO:=λvs σ H Q=>∃v r,vs=v::r/\t v σ H λσ' H'=>u r σ' H' Q
def FT:PGs X [] gNil:=by
 intro bv s σ H vs us Q I r h;obtain⟨e,h⟩:=h;subst e;cases r;exact assignInOrder_nil ⟨σ,H,I,h⟩
def CF{t:TG}{u:GO}(h1:PG X e t)(h2:PGs X es u)
  (hs:(O8 (e::es) X.env).map (·.2)=assign e X.env::(O8 es X.env).map (·.2):=by rfl):PGs X (e::es) (Lp t u):=by
 intro bv s σ H vs us Q I r h;obtain⟨v,vr,e1,h⟩:=h;subst e1
 cases r with
 |cons r rr=>
  rw[hs];refine assignInOrder_cons (cz (h1 bv s σ H _ _ _ I r h) λ_ s1 hh_=>?_)
  obtain⟨σ1,H1,I1,q1⟩:=hh_;exact h2 bv s1 σ1 H1 _ _ Q I1 rr q1
def gTup(K:M9)(n:Nat)(t:GO):TG:=λv σ H Q=>∃a xs,v=.ref a/\SqT K H a xs/\xs.length=n/\t xs σ H Q
def IK{k:Nat}{t:GO}(hc:X.calm=ZC)(h:PGs X es t)
  (hn:(O8 es X.env).length=n:=by rfl) (hst:(O8 es X.env).findIdx? (·.1)=ZB:=by rfl):PG X (.Tuple es k pos) (gTup X.K n t):=by
 intro bv s σ H v u Q I r hw;obtain⟨a,xs,e1,hq,hl,hw⟩:=hw;subst e1;cases r;obtain⟨its,rv,ht,hz⟩:=I.tuple hq;refine assign_Tuple_tuple (I.ok.hd hc) ht (by simp[hn,<-hl,rv.length]) hst λh' hx=>?_
 have I1:Inv X bv σ H {s with heap:=h'}:=I.kept (t':=s.toks) λb o e=>hx b o (Oa (Np e)) e
 exact h bv _ σ H xs _ Q I1 (by simpa using rv) hw
def B3(te:TE)(g:TG):TS:=λD σ H=>te σ H λx H1=>g x σ H1 D.nx
def II{g:TG}(he:PE X e te)(hg:PG X tg g)(hs:Uv [tg] e pos.line X.env=pure ZD:=by rfl)(hw:Uw [tg] e X.env=pure ZB:=by rfl)
  (h1:(O8 [tg] X.env).map (·.2)=[assign tg X.env]:=by rfl):PS X (.Assign [tg] e pos) (B3 te g):=by
 intro bv s σ H D I h;refine wpAny_Assign_stores (cz (he bv s σ H _ I h) λv s1 ⟨x,H1,I1,r1,q1⟩=>?_) hs hw
 rw[h1];exact cz (hg bv s1 σ H1 x v _ I1 r1 q1) λ_ s2 q=>q
def ph{pos':Pos}(hN:X.N.Nodup)(hi:X.N[i]?=ZA x)(hx:Loc X.env.scope x)(he:PE X e te)(hs:Ov e (ZA (.Name x pos')) pos.line X.env=pure ZD:=by rfl)(hf:autoParam (X.fn x=ZC\/X.env.scope.names.lookup x=ZA .local) r_):
  PS X (.Assign [.Name x pos'] e pos) (B3 te (DE i)):=by
 intro bv s σ H D I h;refine wpAny_Assign_Name (cz (he bv s σ H _ I h) λv s1 ⟨y,H1,I1,r1,q1⟩=>?_) hs
 exact vN I1 hN hi hx r1 (λs2 I2=>⟨_,H1,I2,q1⟩) hf
end
variable{body:List ZF}
section
variable {pos:Pos}
def xZ(c:TT)(tb:TS):TS:=λD σ H=>∃W:Nat->St->Hp->Prop,(∃m,W m σ H)/\∀m σ H,W m σ H →
 c σ H λb H1=>if b=ZC then ∃N:St->Hp->Prop,(∀σ' H',N σ' H'->∃m',m'<m/\W m' σ' H')/\tb {D with nx:=N,ct:=N,bk:=D.nx} σ H1 else D.nx σ H1
def Cy{tb:TS}(hp:PassesOwn (ZK X.prog X.w) X.A X.env X.xe)(hc:PT X c tc)(hb:PSs X body tb):PS X (.While c body [] pos) (xZ tc tb):=by
 intro bv s σ H D I h;obtain⟨W,⟨m0,w0⟩,turn⟩:=h;refine wpAny_While (codeAny_whileLoop (λn s'=>∃σ' H',Inv X bv σ' H' s'/\W n σ' H') ?_ m0 ⟨σ,H,I,w0⟩)
 rintro n s1 ⟨σ1,H1,I1,w1⟩
 refine VJ hp (cz (hc bv s1 σ1 H1 _ I1 (turn n σ1 H1 w1)) λb s2 hh_=>?_)
 obtain⟨H2,I2,q2⟩:=hh_
 cases b with
 |true=>
  obtain⟨N,hN,q2⟩:=q2;rw[if_pos rfl];refine VJ hp (cz (hb bv s2 σ1 H2 _ I2 q2) λf s3 q3=>?_)
  cases f with
  |next=>
   obtain⟨σ3,H3,I3,n3⟩:=q3;obtain⟨m',hm,w3⟩:=hN σ3 H3 n3
   exact⟨m',hm,σ3,H3,I3,w3⟩
  |cont=>
   obtain⟨σ3,H3,I3,n3⟩:=q3;obtain⟨m',hm,w3⟩:=hN σ3 H3 n3
   exact⟨m',hm,σ3,H3,I3,w3⟩
  |brk=>exact q3
  |ret v=>exact q3
 |false=>
  rw[if_neg NJ];exact RY ⟨σ1,H2,I2,q2⟩
end
structure It where
 go:Nat->Hp->Prop
 yld:Nat->Hp->V->Hp->Prop
 stop:Nat->Hp->Prop
def mK(X:Cx)(bv:V2)(H:Hp)(b:ZE):Prop:=
 H b=ZB/\b≠X.env.locals/\b∉X.fs/\(b∈X.ex\/X.s₀.heap.objs.size<=b)/\(∀x c,X.env.cells.lookup x=ZA c->c≠b)/\∀p∈X.pn++bv,p.1≠b
def Inv.Mi(I:Inv X bv σ H s)(hb:s.heap.objs.size<=b)(hn:H' b=ZB):mK X bv H' b:=by
 refine⟨hn,Qd (Nq I.lt hb),I.MY hb,.inr (NV I.sz hb),λx c e z=>?_,λp hp z=>?_⟩
 ·obtain⟨v,q⟩:=I.cell x c e
  exact absurd (Nq q.lt (by rw[z];exact hb)) (NK _)
 ·exact absurd (Nq (Np (I.pin p hp).1) (by rw[z];exact hb)) (NK _)
structure By (P:NH)(w:Ou)(K:M9)(tg:ZG)(J:It)(fp:List ZE)(it:ZE)(tn:Nat->ZH->Prop):Prop where
 mem:it∈fp
 obj:∀i h,tn i h->∀b∈fp,∃o,h.get? b=ZA o/\∀v,o.data≠ .cell v
 keep:∀i h h',tn i h->(∀b∈fp,∀o,h.get? b=ZA o->h'.get? b=ZA o)->tn i h'
 item:∀(X:Cx),X.prog=P->X.w=w->X.K=K->X.calm=ZC->∀(i:Nat)(bv:V2)(s:Ng)(σ:St)(H:Hp)(E:V1),Inv X bv σ H s->(∀b∈fp,mK X bv H b)->tn i s.heap->J.go i H →
  ZJ (ZK P w) X.A (pyNext (.ref it)) (λr s1=>∃u,r=ZA u ∧
   ZJ (ZK P w) X.A (Rg tg (.ref it) u) (λ_ s2=>∃x H',Inv X bv σ H' s2/\RelV x u/\J.yld i H x H'/\tn (i+1) s2.heap/\∀b∈fp,H' b=ZB) E s1) E s
 done:∀(X:Cx),X.prog=P->X.w=w->X.K=K->X.calm=ZC->∀(i:Nat)(bv:V2)(s:Ng)(σ:St)(H:Hp)(E:V1),Inv X bv σ H s->(∀b∈fp,mK X bv H b)->tn i s.heap->J.stop i H →
  ZJ (ZK P w) X.A (pyNext (.ref it)) (λr s1=>r=ZB/\Inv X bv σ H s1) E s
 self:∀(A:N4)(i:Nat)(s:Ng)(Q:V1)(E:V1),tn i s.heap->Q (.ref it) s->ZJ (ZK P w) A (pyIter (.ref it)) Q E s
abbrev TI:=St->Hp->(It->Hp->Prop)->Prop
def PIE(X:Cx)(bv:V2)(σ:St)(tg:ZG)(R:It->Hp->Prop)(itv:Nf)(s2:Ng):Prop:=
 ∃(it:ZE)(fp:List ZE)(tn:Nat->ZH->Prop)(J:It)(H':Hp),itv=.ref it/\Inv X bv σ H' s2/\By X.prog X.w X.K tg J fp it tn/\tn 0 s2.heap/\(∀b∈fp,mK X bv H' b)/\R J H'
def PI(X:Cx)(tg iter:ZG)(wi:TI):Prop:=
 ∀(bv:V2)(s:Ng)(σ:St)(H:Hp)(R:It->Hp->Prop),Inv X bv σ H s->wi σ H R →
  ZJ (ZK X.prog X.w) X.A (eval iter X.env) (λv s1=>ZJ (ZK X.prog X.w) X.A (pyIter v) (PIE X bv σ tg R) X.xe s1) X.xe s
def Am{u:Nf}{o:Obj}{n:String}{vs:Array Nf}{Q:Unit->Ng->Prop}(ho:s.heap.get? it=ZA o)(hc:o.cls=.type n)(hd:o.data=.fields vs)
  (hn:["enumerate","zip","dict_itemiterator","dict_reverseitemiterator","odict_iterator","itertools.zip_longest","itertools.pairwise"].contains n=ZD) (hQ:Q () s):ZJ M A (Rg tg (.ref it) u) Q E s:=by
 unfold Rg
 cases tg <;> first
  |exact Nh hQ
  | (cases u <;> first
    |exact Nh hQ
    | (refine M7 (wpAny_load ho ?_)
       rw[hc,hd]
       show ZJ M A (if (["enumerate","zip","dict_itemiterator","dict_reverseitemiterator","odict_iterator","itertools.zip_longest","itertools.pairwise"].contains n&&vs[0]? == ZA (rawInt _))=ZC then _ else _) Q E s
       rw[if_neg (by intro h;rw[hn,Bool.false_and]at h;cases h)]
       exact Nh hQ))
def Itl(K:M9)(a:ZE):It:=
 ⟨λi H=>∃xs x,SqL K H a xs/\xs[i]?=ZA x,λi H x H'=>H'=H/\∀xs,SqL K H a xs->xs[i]?=ZA x,λi H=>∃xs,SqL K H a xs/\xs.length<=i⟩
def Itt(K:M9)(a:ZE):It:=
 ⟨λi H=>∃xs x,SqT K H a xs/\xs[i]?=ZA x,λi H x H'=>H'=H/\∀xs,SqT K H a xs->xs[i]?=ZA x,λi H=>∃xs,SqT K H a xs/\xs.length<=i⟩
def Itr(lo:Int)(n:Nat):It:=⟨λi _=>i<n,λi H x H'=>H'=H/\x=.int (lo+i),λi _=>n<=i⟩
def AM(a it:ZE):By P w K tg (Itl K a) [it] it (λi h=>h.IsListIter it a i) where
 mem:=by simp
 obj:=λi h st b hb=>by
  have e:b=it:=by simpa using hb
  subst e;obtain⟨o,e,c,d⟩:=st;exact⟨o,e,λv z=>by rw[d]at z;cases z⟩
 keep:=λi h h' st k=>st.at λo e=>k it (by simp) o e
 item:=by
  intro X hP hw hK hc i bv s σ H E I hf st hg;subst hP hw hK;obtain⟨xs,x,hq,hx⟩:=hg;obtain⟨its,rv,p,hz⟩:=I.list hq;obtain⟨u,hu,ru⟩:=rv.get hx;obtain⟨f0,f1,f2,f3,f4,f5⟩:=hf it (by simp)
  refine S3 st p.isList (x:=u) (by simpa using hu) λh' st' sb=>?_
  have I1:Inv X bv σ H {s with heap:=h'}:=I.turned (t':=s.toks) (λb o hb e=>(sb.2 b hb).trans e) f0 f1 f3 f4 f5
  obtain⟨o,e,c,d⟩:=id st';exact⟨u,rfl,Am (s:={s with heap:=h'}) e c d (by decide) ⟨x,H,I1,ru,⟨rfl,λys hy=>by rw[I.Mb hy hq];exact hx⟩,st',λb hb=>(hf b hb).1⟩⟩
 done:=by
  intro X hP hw hK hc i bv s σ H E I hf st hg;subst hP hw hK;obtain⟨xs,hq,hx⟩:=hg;obtain⟨its,rv,p,hz⟩:=I.list hq;obtain⟨f0,f1,f2,f3,f4,f5⟩:=hf it (by simp)
  have hl:=rv.length;exact Ts (I.ok.hd hc) st p.isList (by simp;omega) λh' eb=>⟨rfl,I.turned (t':=s.toks) (λb o hb e=>eb b o hb e) f0 f1 f3 f4 f5⟩
 self:=λ_ _ _ _ _ st h=>wpAny_pyIter_listiter st h
def xW(a it:ZE):By P w K tg (Itt K a) [it] it (λi h=>h.IsTupleIter it a i) where
 mem:=by simp
 obj:=λi h st b hb=>by
  have e:b=it:=by simpa using hb
  subst e;obtain⟨o,e,c,d⟩:=st;exact⟨o,e,λv z=>by rw[d]at z;cases z⟩
 keep:=λi h h' st k=>st.at λo e=>k it (by simp) o e
 item:=by
  intro X hP hw hK hc i bv s σ H E I hf st hg;subst hP hw hK;obtain⟨xs,x,hq,hx⟩:=hg;obtain⟨its,rv,p,hz⟩:=I.tuple hq;obtain⟨u,hu,ru⟩:=rv.get hx;obtain⟨f0,f1,f2,f3,f4,f5⟩:=hf it (by simp)
  refine wpAny_pyNext_tuple_item st (show s.heap.IsTuple a its.toArray from p) (x:=u) (by simpa using hu) λh' st' sb=>?_
  have I1:Inv X bv σ H {s with heap:=h'}:=I.turned (t':=s.toks) (λb o hb e=>(sb.2 b hb).trans e) f0 f1 f3 f4 f5
  obtain⟨o,e,c,d⟩:=id st';exact⟨u,rfl,Am (s:={s with heap:=h'}) e c d (by decide) ⟨x,H,I1,ru,⟨rfl,λys hy=>by rw[I.Ma hy hq];exact hx⟩,st',λb hb=>(hf b hb).1⟩⟩
 done:=by
  intro X hP hw hK hc i bv s σ H E I hf st hg;subst hP hw hK;obtain⟨xs,hq,hx⟩:=hg;obtain⟨its,rv,p,hz⟩:=I.tuple hq;obtain⟨f0,f1,f2,f3,f4,f5⟩:=hf it (by simp)
  have hl:=rv.length;exact wpAny_pyNext_tuple_end (I.ok.hd hc) st (show s.heap.IsTuple a its.toArray from p) (by simp;omega) λh' eb=>⟨rfl,I.turned (t':=s.toks) (λb o hb e=>eb b o hb e) f0 f1 f3 f4 f5⟩
 self:=λ_ _ _ _ _ st h=>wpAny_pyIter_tupleiter st h
def xX(it:ZE)(lo:Int)(n:Nat):By P w K tg (Itr lo n) [it] it (λi h=>IsRangeIter h it (lo+(i:Nat)*1) ((n:Int) - (i:Nat)) 1) where
 mem:=by simp
 obj:=λi h st b hb=>by
  have e:b=it:=by simpa using hb
  subst e
  exact⟨_,st,λv z=>by
   have z':Data.fields _=Data.cell v:=z;cases z'⟩
 keep:=λi h h' st k=>k it (by simp) _ st
 item:=by
  intro X hP hw hK hc i bv s σ H E I hf st hg;subst hP hw hK;obtain⟨f0,f1,f2,f3,f4,f5⟩:=hf it (by simp)
  have W:=Walks.range (prog:=X.prog) (w:=X.w) (I.ok.hd hc) it lo 1 n;refine W.item i s _ _ hg st λv h' tk hv st' kk=>?_
  obtain⟨t,rfl⟩:=hv
  have I1:Inv X bv σ H {s with heap:=h',toks:=tk}:=I.turned (λb o hb e=>kk b o (by simpa using hb) e) f0 f1 f3 f4 f5
  refine⟨_,rfl,Am (s:={s with heap:=h',toks:=tk}) (n:="range_iterator") st' rfl rfl (by decide) ⟨.int (lo+i),H,I1,⟨t,?_⟩,⟨rfl,rfl⟩,st',λb hb=>(hf b hb).1⟩⟩
  rw[Int.mul_one]
 done:=by
  intro X hP hw hK hc i bv s σ H E I hf st hg;subst hP hw hK;obtain⟨f0,f1,f2,f3,f4,f5⟩:=hf it (by simp)
  exact wpAny_pyNext_range_end (I.ok.hd hc) st (by have:n<=i:=hg;omega) λh' eb=>⟨rfl,I.turned (t':=s.toks) (λb o hb e=>eb b o hb e) f0 f1 f3 f4 f5⟩
 self:=λ_ _ _ _ _ st h=>wpAny_pyIter_rangeiter st h
variable{fp:List ZE}{l:ZG}{tl:TE}
def Lo(K:M9)(tl:TE):TI:=λσ H R=>tl σ H λx H1=>∃a,x=.ref a/\(∃xs,SqL K H1 a xs)/\R (Itl K a) H1
def iTup(K:M9)(tl:TE):TI:=λσ H R=>tl σ H λx H1=>∃a,x=.ref a/\(∃xs,SqT K H1 a xs)/\R (Itt K a) H1
def FQ(hl:PE X l tl):PI X tg l (Lo X.K tl):=by
 intro bv s σ H R I h;refine cz (hl bv s σ H _ I h) λv s1 hh_=>?_
 obtain⟨x,H1,I1,r1,q1⟩:=hh_;obtain⟨a,e,⟨xs,hq⟩,q⟩:=q1;subst e;cases r1;obtain⟨its,rv,p,hz⟩:=I1.list hq;refine QK p.isList ?_
 refine⟨s1.heap.objs.size,[s1.heap.objs.size],_,_,H1,rfl,I1.kept (t':=s1.toks) λb o e=>M8 _ e,AM a _,⟨_,Nn _ rfl,rfl,rfl⟩,λb hb=>?_,q⟩
 have e:b=s1.heap.objs.size:=by simpa using hb
 subst e;exact I1.Mi (Nr _) (I1.hok.fresh (Nr _))
def IJ(hl:PE X l tl):PI X tg l (iTup X.K tl):=by
 intro bv s σ H R I h;refine cz (hl bv s σ H _ I h) λv s1 hh_=>?_
 obtain⟨x,H1,I1,r1,q1⟩:=hh_;obtain⟨a,e,⟨xs,hq⟩,q⟩:=q1;subst e;cases r1;obtain⟨its,rv,p,hz⟩:=I1.tuple hq;refine PM (show s1.heap.IsTuple a its.toArray from p) ?_
 refine⟨s1.heap.objs.size,[s1.heap.objs.size],_,_,H1,rfl,I1.kept (t':=s1.toks) λb o e=>M8 _ e,xW a _,⟨_,Nn _ rfl,rfl,rfl⟩,λb hb=>?_,q⟩
 have e:b=s1.heap.objs.size:=by simpa using hb
 subst e;exact I1.Mi (Nr _) (I1.hok.fresh (Nr _))
def l5{R:It->Hp->Prop}{lo hi:Int}{t u v:Tok}{tk:Nat}(I:Inv X bv σ H s)(h1 : -(2 ^ 62)<=lo)(h2:lo<2 ^ 62)(h3 : -(2 ^ 62)<=hi)(h4:hi<2 ^ 62)
  (q:R (Itr lo (hi - lo).toNat) H):ZJ (ZK X.prog X.w) X.A (pyIter (.ref s.heap.objs.size)) (PIE X bv σ tg R) E {s with heap:=s.heap.push {cls:=.type "range",data:=.fields #[.int lo t,.int hi u,.int 1 v]},toks:=tk}:=by
 refine wpAny_pyIter_range (IsRange.new ..) (small_one h1 h2 h3 h4) ?_
 have I1:Inv X bv σ H {s with heap:=s.heap.push {cls:=.type "range",data:=.fields #[.int lo t,.int hi u,.int 1 v]},toks:=tk}:=I.kept λb o e=>M8 _ e
 refine⟨(s.heap.push {cls:=.type "range",data:=.fields #[.int lo t,.int hi u,.int 1 v]}).objs.size,[(s.heap.push {cls:=.type "range",data:=.fields #[.int lo t,.int hi u,.int 1 v]}).objs.size],_,_,H,rfl,
  I1.kept (t':=tk) λb o e=>M8 _ e,xX _ lo (hi - lo).toNat,?_,λb hb=>?_,q⟩
 ·have e1:lo+((0:Nat):Int)*1=lo:=by simp
  have e2:(((hi - lo).toNat:Nat):Int) - ((0:Nat):Int)=Builtin.Range.rangeSize lo hi 1:=by rw[rangeSize_one];split <;> omega
  show IsRangeIter _ _ (lo+((0:Nat):Int)*1) ((((hi - lo).toNat:Nat):Int) - ((0:Nat):Int)) 1
  rw[e1,e2];exact Nn _ rfl
 ·have e:b=(s.heap.push {cls:=.type "range",data:=.fields #[.int lo t,.int hi u,.int 1 v]}).objs.size:=by simpa using hb
  subst e;exact I1.Mi (Nr _) (I1.hok.fresh (Nr _))
def tFor(wi:TI)(g:TG)(tb:TS):TS:=λD σ H=>wi σ H λJ H1=>∃W:Nat->Nat->St->Hp->Prop,(∃m,W 0 m σ H1)/\∀i m σ H,W i m σ H →
 (J.stop i H/\D.nx σ H)\/(J.go i H/\∃N:St->Hp->Prop,(∀σ' H',N σ' H'->∃m',m'<m/\W (i+1) m' σ' H')/\∀x H',J.yld i H x H'->g x σ H' λσ2 H2=>tb {D with nx:=N,ct:=N,bk:=D.nx} σ2 H2)
def pq(fp:List ZE)(h:ZH):V2:=fp.filterMap λb=>(h.get? b).map λo=>(b,o)
def i6{o:Obj}(hb:b∈fp)(e:h.get? b=ZA o):(b,o)∈pq fp h:=Pk.mpr ⟨b,hb,by rw[e];rfl⟩
def A2{p:ZE×Obj}(hp:p∈pq fp h):p.1∈fp/\h.get? p.1=ZA p.2:=by
 obtain⟨b,hb,e⟩:=Pk.mp hp
 cases q:h.get? b with
 |none=>rw[q]at e;cases e
 |some o=>
  rw[q]at e
  have e':(b,o)=p:=NZ e;subst e';exact⟨hb,q⟩
def Inv.pinned(I:Inv X bv σ H s)(hf:∀b∈fp,mK X bv H b)(ho:∀b∈fp,∃o,s.heap.get? b=ZA o/\∀v,o.data≠ .cell v):Inv X (bv++pq fp s.heap) σ H s:=
 I.Ml λp hp=>(NO.mp hp).elim (λz=>I.pin p (NM _ z)) λz=>by
  obtain⟨hb,e⟩:=A2 z;obtain⟨f0,f1,f2,_⟩:=hf p.1 hb;obtain⟨o,e',d⟩:=ho p.1 hb;rw[e]at e';cases e';exact⟨e,f0,f1,f2,d⟩
def Inv.L5{pl:V2}(I:Inv X (bv++pl) σ H s):Inv X bv σ H s:=I.Ml λp hp=>I.pin p (NM _ (OD _ hp))
abbrev R2:=V->V->Hp->VK->Prop
def rJ(X:Cx)(f:Nf->Nf->Sem Nf)(r:R2):Prop:=
 ∀(bv:V2)(s:Ng)(σ:St)(H:Hp)(x y:V)(v u:Nf)(Q:VK),Inv X bv σ H s->RelV x v->RelV y u->r x y H Q →
  ZJ (ZK X.prog X.w) X.A (f v u) (EP X bv σ Q) X.xe s
def UnR(X:Cx)(f:Nf->Sem Nf)(r:V->Hp->VK->Prop):Prop:=
 ∀(bv:V2)(s:Ng)(σ:St)(H:Hp)(x:V)(v:Nf)(Q:VK),Inv X bv σ H s->RelV x v->r x H Q →
  ZJ (ZK X.prog X.w) X.A (f v) (EP X bv σ Q) X.xe s
def CallR(X:Cx)(f:Nf)(r:List V->Hp->VK->Prop):Prop:=
 ∀(bv:V2)(s:Ng)(σ:St)(H:Hp)(xs:List V)(us:List Nf)(Q:VK),Inv X bv σ H s->Vals xs us->r xs H Q →
  ZJ (ZK X.prog X.w) X.A (call f us) (EP X bv σ Q) X.xe s
def tUn(r:V->Hp->VK->Prop)(ta:TE):TE:=λσ H Q=>ta σ H λx H1=>r x H1 Q
def rI(C:Int->Int->Prop)(g:Int->Int->V):R2:=λx y H Q=>∃i j,x=.int i/\y=.int j/\C i j/\Q (g i j) H
def Ff(g:Int->Int->V):R2:=λx y H Q=>∃i j,x=.int i/\y=.int j/\Q (g i j) H
def rU(g:Int->V):V->Hp->VK->Prop:=λx H Q=>∃i,x=.int i/\Q (g i) H
variable{f:Nf->Nf->Sem Nf}
section
variable {a b:ZG}{tb tc:TE}{pos:Pos}
def KY{op:UnaryOp}{r:V->Hp->VK->Prop}(ho:UnR X (unaryOp op) r)(ha:PE X a ta):PE X (.UnaryOp op a pos) (tUn r ta):=by
 intro bv s σ H Q I h;exact UnaryOp_ (cz (ha bv s σ H _ I h) λv s1 ⟨x,H1,I1,r1,q1⟩=>ho bv s1 σ H1 x v Q I1 r1 q1)
def opI{C:Int->Int->Prop}
  (rule:∀(i j:Int)(t u:Tok)(s:Ng)(Q:V1)(E:V1),C i j->Q (.int (g i j) s.toks) {s with toks:=s.toks+1}->ZJ (ZK X.prog X.w) X.A (f (.int i t) (.int j u)) Q E s):
  rJ X f (rI C λi j=>.int (g i j)):=by
 intro bv s σ H x y v u Q I rx ry h;obtain⟨i,j,rfl,rfl,hc,q⟩:=h;obtain⟨t,rfl⟩:=rx;obtain⟨t',rfl⟩:=ry;exact rule i j t t' s _ _ hc ⟨.int (g i j),H,I.tok _,⟨_,rfl⟩,q⟩
def K7 
  (rule:∀(i j:Int)(t u:Tok)(s:Ng)(Q:V1)(E:V1),Q (.int (g i j) s.toks) {s with toks:=s.toks+1}->ZJ (ZK X.prog X.w) X.A (f (.int i t) (.int j u)) Q E s):
  rJ X f (Ff λi j=>.int (g i j)):=by
 intro bv s σ H x y v u Q I rx ry h;obtain⟨i,j,rfl,rfl,q⟩:=h;obtain⟨t,rfl⟩:=rx;obtain⟨t',rfl⟩:=ry;exact rule i j t t' s _ _ ⟨.int (g i j),H,I.tok _,⟨_,rfl⟩,q⟩
def F4{g:Int->Int->Bool}
  (rule:∀(i j:Int)(t u:Tok)(s:Ng)(Q:V1)(E:V1),Q (.bool (g i j)) s->ZJ (ZK X.prog X.w) X.A (f (.int i t) (.int j u)) Q E s):
  rJ X f (Ff λi j=>.bl (g i j)):=by
 intro bv s σ H x y v u Q I rx ry h;obtain⟨i,j,rfl,rfl,q⟩:=h;obtain⟨t,rfl⟩:=rx;obtain⟨t',rfl⟩:=ry;exact rule i j t t' s _ _ ⟨.bl (g i j),H,I,rfl,q⟩
def CDiv(i j:Int):Prop:=0<j/\j<1073741824
def CMul(i j:Int):Prop:=(-(2 ^ 64)<i/\i<2 ^ 64)\/(-(2 ^ 64)<j/\j<2 ^ 64)
def CMul.ok{i j:Int}(h:CMul i j):IntMulOk i j:=by
 rcases h with⟨h1,h2⟩|⟨h1,h2⟩
 ·exact .of_left (intBits_le_64 h1 h2)
 ·exact .of_right (intBits_le_64 h1 h2)
def Jc:rJ X (Pm .Add) (Ff λi j=>.int (i+j)):=K7 λ_ _ _ _ _ _ _ q=>add_int q
def IW:rJ X (Pm .Sub) (Ff λi j=>.int (i - j)):=K7 λ_ _ _ _ _ _ _ q=>sub_int q
def IY:rJ X (Pm .Mult) (rI CMul λi j=>.int (i*j)):=opI λ_ _ _ _ _ _ _ hc q=>mul_int q hc.ok
def F2:rJ X (Pm .FloorDiv) (rI CDiv λi j=>.int (i / j)):=opI λi j _ _ _ _ _ hc q=>by
 have h1:(0:Int)<j:=hc.1
 have h2:j<1073741824:=hc.2;exact floordiv_int (by omega) (by rw[Int.fdiv_eq_ediv_of_nonneg i (by omega)];exact q) (.inl (PyProof.noPylong_small (by omega)))
def IZ:rJ X (Pm .Mod) (rI (λ_ j=>0<j) λi j=>.int (i % j)):=opI λi j _ _ _ _ _ hc q=>by
 have h1:(0:Int)<j:=hc;exact mod_int' (by omega) (by rw[Int.fmod_eq_emod_of_nonneg i (by omega)];exact q)
def unI{f:Nf->Sem Nf}{g:Int->Int}
  (rule:∀(i:Int)(t:Tok)(s:Ng)(Q:V1)(E:V1),Q (.int (g i) s.toks) {s with toks:=s.toks+1}->ZJ (ZK X.prog X.w) X.A (f (.int i t)) Q E s):
  UnR X f (rU λi=>.int (g i)):=by
 intro bv s σ H x v Q I rx h;obtain⟨i,rfl,q⟩:=h;obtain⟨t,rfl⟩:=rx;exact rule i t s _ _ ⟨.int (g i),H,I.tok _,⟨_,rfl⟩,q⟩
def HC:UnR X (unaryOp .USub) (rU λi=>.int (-i)):=unI λ_ _ _ _ _ q=>neg_int q
end
section
variable {a b:ZG}{tb tc:TE}{pos:Pos}
def DL{Q:VK}{k k':Bool}(I:Inv X bv σ H s)(q:Q (.bl k) H)(e:k=k'):EP X bv σ Q (.bool k') s:=by
 subst e;exact⟨.bl k,H,I,rfl,q⟩
def K3:rJ X (Og .Lt) (Ff λi j=>.bl (decide (i<j))):=F4 λ_ _ _ _ _ _ _ q=>lt_int q
def K4:rJ X (Og .LtE) (Ff λi j=>.bl (decide (i<=j))):=F4 λ_ _ _ _ _ _ _ q=>le_int q
def K5:rJ X (Og .Gt) (Ff λi j=>.bl (decide (j<i))):=F4 λ_ _ _ _ _ _ _ q=>gt_int q
def K6:rJ X (Og .GtE) (Ff λi j=>.bl (decide (j<=i))):=F4 λ_ _ _ _ _ _ _ q=>ge_int q
def Ja:rJ X (Og .Is) (λx y H Q=>y=.non/\Q (.bl (decide (x=.non))) H):=by
 intro bv s σ H x y v u Q I rx ry h;obtain⟨rfl,q⟩:=h;cases ry;refine is_none_gen (DL I q ?_)
 cases x <;> first
  | (cases rx;rfl)
  | (obtain⟨t,rfl⟩:=rx;rfl)
def F1:rJ X (Og .IsNot) (λx y H Q=>y=.non/\Q (.bl (!decide (x=.non))) H):=by
 intro bv s σ H x y v u Q I rx ry h;obtain⟨rfl,q⟩:=h;cases ry;refine isnot_none_gen (DL I q ?_)
 cases x <;> first
  | (cases rx;rfl)
  | (obtain⟨t,rfl⟩:=rx;rfl)
def pW:(ZI:Nat)<2 ^ 63:=by rw[ON];decide
def yw:rJ X (Pm .Add) (λx y H Q=>∃i j,x=.str i/\y=.str j/\i.length+j.length<=ZI/\Q (.str (i++j)) H):=by
 intro bv s σ H x y v u Q I rx ry h;obtain⟨i,j,rfl,rfl,hz,q⟩:=h;obtain⟨t,rfl⟩:=rx;obtain⟨t',rfl⟩:=ry;exact add_str (λt' tk=>⟨.str (i++j),H,I.tok _,⟨_,rfl⟩,q⟩) hz
def kQ{x:V}(r:Vals [x] us):∃u,us=[u]/\RelV x u:=by
 cases r with
 |cons r1 r2=>cases r2;exact⟨_,rfl,r1⟩
def BV{x y:V}(r:Vals [x,y] us):∃u w',us=[u,w']/\RelV x u/\RelV y w':=by
 cases r with
 |cons r1 r2=>
  cases r2 with
  |cons r3 r4=>cases r4;exact⟨_,_,rfl,r1,r3⟩
def Bv(hc:X.calm=ZC):CallR X (.builtin "max") (λxs H Q=>∃i j,xs=[.int i,.int j]/\Q (.int (if j > i then j else i)) H):=by
 intro bv s σ H xs us Q I r h;obtain⟨i,j,rfl,q⟩:=h;obtain⟨u,w',rfl,⟨t,rfl⟩,⟨t',rfl⟩⟩:=BV r;refine max_two_ints (I.ok.hd hc) λh' tk k=>⟨_,H,I.kept k,?_,q⟩
 by_cases hj:j > i
 ·rw[if_pos hj,if_pos hj];exact⟨_,rfl⟩
 ·rw[if_neg hj,if_neg hj];exact⟨_,rfl⟩
def Bu(hc:X.calm=ZC):CallR X (.builtin "min") (λxs H Q=>∃i j,xs=[.int i,.int j]/\Q (.int (if j<i then j else i)) H):=by
 intro bv s σ H xs us Q I r h;obtain⟨i,j,rfl,q⟩:=h;obtain⟨u,w',rfl,⟨t,rfl⟩,⟨t',rfl⟩⟩:=BV r;refine min_two_ints (I.ok.hd hc) λh' tk k=>⟨_,H,I.kept k,?_,q⟩
 by_cases hj:j<i
 ·rw[if_pos hj,if_pos hj];exact⟨_,rfl⟩
 ·rw[if_neg hj,if_neg hj];exact⟨_,rfl⟩
def Bw:CallR X (.type "int") (λxs H Q=>(∃i,xs=[.int i]/\Q (.int i) H)\/∃k,xs=[.bl k]/\Q (.int (if k then 1 else 0)) H):=by
 intro bv s σ H xs us Q I r h;rcases h with⟨i,rfl,q⟩|⟨k,rfl,q⟩
 ·obtain⟨u,rfl,t,rfl⟩:=kQ r
  exact call_int_int ⟨.int i,H,I,⟨_,rfl⟩,q⟩
 ·obtain⟨u,rfl,r1⟩:=kQ r
  cases r1;exact call_int_bool ⟨.int (if k then 1 else 0),H,I.tok _,⟨_,rfl⟩,q⟩
end
structure ObjM (h:ZH)(x dx C:ZE)(mA:V0):Prop where
 obj:h.get? x=ZA (S6 C dx)
 ns:h.Ns1 dx mA
 ne:dx≠x
variable{dx:ZE}{mA:V0}
def Ba(n:h.Ns1 dx mA):∃od,h.get? dx=ZA od/\∀name,TZ name od=ZA (mA name):=by
 obtain⟨o,es,ep,ho,hd,hk,_,hm⟩:=n;refine⟨o,ho,λname=>?_⟩
 have e:=hm name;unfold nsFind findBy at e;rw[<-Uj]at e
 unfold TZ;rw[hd]
 dsimp only
 split
 ·rename_i y q
  rw[q]at e;exact congrArg ZA e
 ·rename_i q
  rw[q]at e
  have a:es.toList.any (·.refKey)=ZD:=by
   rw[Su];intro y hy;obtain⟨z,t,hkey⟩:=hk y (Array.mem_toList_iff.mp hy);simp[DictEntry.refKey,hkey]
  have a':¬ es.toList.any (·.refKey)=ZC:=by rw[a];exact NJ
  rw[if_neg a'];exact congrArg ZA e
variable{C:ZE}
def ObjM.look{x:ZE}(I:ObjM h x dx C mA):∃od,PySem.W.InstAt h x (S6 C dx) C (ZA od)/\∀name,TZ name od=ZA (mA name):=
 let ⟨od,ho,hl⟩:=Ba I.ns
 ⟨od,⟨I.obj,rfl,rfl,ho⟩,hl⟩
def RelO.some_of{o:Option Nf}(r:RelO (ZA v) o):∃u,o=ZA u/\RelV v u:=by
 cases o with
 |none=>exact(show False from r).elim
 |some u=>exact⟨u,rfl,r⟩
section
variable {fs fs':List (Str×V)}
def Gk(hok:HOk P w H h)(e:H a=ZA (.ins C dx fs)):∃mA,ObjM h a dx C mA/\(∀f,RelO (fs.lookup f) (mA f))/\PySem.Within mA (fs.map (·.1))/\fs.length<=1000/\H dx=ZA (.own a):=by
 obtain⟨d,z,ne,ob,mA,n,r,q⟩:=(show ObjOk P w H h a (.ins C dx fs)from hok a _ e)
 exact⟨mA,⟨ob,n,ne⟩,r,q,z,d⟩
end
structure Cls (K:M9)(C:ZE):Prop where
 pg:Vd K C Str.empty=ZC
 hd:PySem.W.hasDictIn K C=ZC
 po:PySem.W.plainOver K C=ZC
 sa:PySem.W.findIn K (.ref C) "__setattr__" =ZA (ZA (.builtin "object.__setattr__"))
def Cls.get(c:Cls K C)(f:Str):Vd K C f=ZC:=c.pg
section
variable {c:Nf}{b:Bool}
inductive nA (K:M9) (H:Hp):V->Nf->Prop where
 |non:nA K H .non (.type "NoneType")
 |bl (x:Bool):nA K H (.bl x) (.type "bool")
 |int (i:Int):nA K H (.int i) (.type "int")
 |str (x:Str):nA K H (.str x) (.type "str")
 |flt (x:UInt64):nA K H (.flt x) (.type "float")
 |lst {a:ZE} {xs:List V} (e:H a=ZA (.lst xs)):nA K H (.ref a) (.type "list")
 |frz {a:ZE} {o:Obj} {xs:List V} (e:H a=ZA (.frz o (.lst xs))):nA K H (.ref a) (.type "list")
 |tup {a:ZE} {xs:List V} (e:H a=ZA (.tup xs)):nA K H (.ref a) (.type "tuple")
 |dK {a:ZE} {kvs:List (Key×V)} (e:H a=ZA (.dK kvs)):nA K H (.ref a) (.type "dict")
 |dT {a:ZE} {kvs:List (List Key×V)} (e:H a=ZA (.dT kvs)):nA K H (.ref a) (.type "dict")
 |ins {a C dx:ZE} {fs:List (Str×V)} (e:H a=ZA (.ins C dx fs)) (cl:Cls K C) (ha:PySem.W.findIn K (.ref C) "__class__" =ZA (ZA (.builtin "object.__class__")))
   (hn:PySem.W.specialIn K (.builtin "object.__class__") "__get__" =ZA (ZA (.builtin "getset_descriptor.__get__"))) (htk:PySem.W.takesIn K (.builtin "object.__class__")=ZA ZC)
   (hm:PySem.W.mroIn K C (.type "object")=ZA ZC):nA K H (.ref a) (.ref C)
def Bg{x:V}{u t:Nf}(I:Inv X bv σ H s)(rx:RelV x u)(ty:nA X.K H x t)(e:PySem.W.kitOne X.K t c=ZA b)(h:∀tk,Q (.bool b) {s with toks:=tk}):
  ZJ (ZK X.prog X.w) A (call (.builtin "isinstance") [u,c]) Q E s:=by
 cases ty with
 |non=>cases (show u=Oe from rx);exact OQ PySem.W.kitx_none I.kIn Pw e (λz=>nomatch z) h
 |bl y=>cases (show u=OK y from rx);exact OQ PySem.W.kitx_bool I.kIn Pw e (λz=>nomatch z) h
 |int i=>obtain⟨t,q⟩:=(show ∃t,u=OS i t from rx);cases q;exact OQ PySem.W.kitx_int I.kIn Pw e (λz=>nomatch z) h
 |str y=>obtain⟨t,q⟩:=(show ∃t,u=Pd y t from rx);cases q;exact OQ PySem.W.kitx_str I.kIn Pw e (λz=>nomatch z) h
 |flt y=>obtain⟨t,q⟩:=(show ∃t,u=Value.float y t from rx);cases q;exact OQ PySem.W.kitx_float I.kIn Pw e (λz=>nomatch z) h
 |@lst a xs ea=>
  cases (show u=Nx a from rx)
  obtain⟨_,_,n,_,h1⟩:=(show ObjOk X.prog X.w H s.heap a (.lst xs)from I.hok a _ ea)
  exact OQ UH I.kIn ⟨_,h1,rfl⟩ e (λz=>nomatch z) h
 |@frz a ob xs ea=>
  cases (show u=Nx a from rx)
  obtain⟨_,_,_,n,_,h1⟩:=(show ObjOk X.prog X.w H s.heap a (.frz ob (.lst xs))from I.hok a _ ea)
  exact OQ UH I.kIn ⟨_,h1,rfl⟩ e (λz=>nomatch z) h
 |@tup a xs ea=>
  cases (show u=Nx a from rx)
  obtain⟨_,_,_,p⟩:=(show ObjOk X.prog X.w H s.heap a (.tup xs)from I.hok a _ ea)
  obtain⟨o,h1,h2,_⟩:=p
  exact OQ PySem.W.kitx_tuple I.kIn ⟨o,h1,h2⟩ e (λz=>nomatch z) h
 |@dK a kvs ea=>
  cases (show u=Nx a from rx)
  obtain⟨_,_,vs,_,p⟩:=(show ObjOk X.prog X.w H s.heap a (.dK kvs)from I.hok a _ ea)
  obtain⟨o,es,ep,h1,h2,_⟩:=p
  exact OQ UI I.kIn ⟨o,h1,h2.1⟩ e (λz=>nomatch z) h
 |@dT a kvs ea=>
  cases (show u=Nx a from rx)
  obtain⟨_,_,xs,_,o,es,ep,h1,h2,_⟩:=(show ObjOk X.prog X.w H s.heap a (.dT kvs)from I.hok a _ ea)
  exact OQ UI I.kIn ⟨o,h1,h2.1⟩ e (λz=>nomatch z) h
 |@ins a C dx fs ea cl ha hn htk hm=>
  cases (show u=Nx a from rx)
  obtain⟨mA,O,_⟩:=Gk I.hok ea;obtain⟨od,J,_⟩:=O.look;exact OQ (PySem.W.kitx_own (cl.get _) cl.hd ha hn htk hm) I.kIn J e (λz=>nomatch z) h
end
structure Room (k:Nat)(A:N4):Prop where
 hd:A.handled=ZB
 dp:A.depth+3*k+5<recursionLimit
 un:A.units+16*k+200<cLine
def Room.mono{k:Nat}(r:Room k A)(h:j<=k):Room j A:=⟨r.hd,by have:=r.dp;omega,by have:=r.un;omega⟩
def Room.deeper{k:Nat}(r:Room (k+1) A)(env:Env):Room k (A.deeper env):=
 ⟨r.hd,by have:=r.dp;show A.depth+1+3*k+5<_;omega,by have:=r.un;show A.units+3+16*k+200<_;omega⟩
def Room.depth{k:Nat}(r:Room k A):A.depth<recursionLimit:=by have:=r.dp;omega
def B2:TA:=λ_ H Q=>Q [] H
def lR(ta:TE)(tr:TA):TA:=λσ H Q=>ta σ H λx H1=>tr σ H1 λxs H2=>Q (x::xs) H2
section
variable {t:TA}{pos:Pos}
def jP:PA X [] B2:=λ_ _ _ _ H Q I h=>P3 ⟨[],H,I,.nil,h⟩
def ft(ha:PE X e te)(hr:PA X es t)(hs:NF (e::es) X.env=(ZD,eval e X.env)::NF es X.env:=by rfl):PA X (e::es) (lR te t):=by
 intro pos bv s σ H Q I h;rw[hs]
 show ZJ _ _ (spliced ((ZD,eval e X.env)::backTo pos (NF es X.env))) _ _ s
 refine PJ (cz (ha bv s σ H _ I h) λu s1 hh_=>?_)
 obtain⟨x,H1,I1,r1,q1⟩:=hh_;exact cz (hr pos bv s1 σ H1 _ I1 q1) λus s2 ⟨xs,H2,I2,r2,q2⟩=>⟨x::xs,H2,I2,.cons r1 r2,q2⟩
def EU(t:TA):TE:=λσ H Q=>t σ H λxs H1=>xs.length<=ZI/\∀p,H1 p=ZB->Q (.ref p) (upd H1 p (.tup xs))
def tLst(t:TA):TE:=λσ H Q=>t σ H λxs H1=>xs.length<=ZI/\∀p,H1 p=ZB->Q (.ref p) (upd H1 p (.lst xs))
def yu{x1}(h:PA X es t):PE X (.Tuple es x1 pos) (EU t):=by
 intro bv s σ H Q I hq;refine wpAny_Tuple_spliced (cz (h pos bv s σ H _ I hq) λus s1 ⟨xs,H1,I1,r,z,q⟩=>⟨by rw[<-r.length];exact z,?_⟩)
 have hf:H1 s1.heap.objs.size=ZB:=I1.hok.fresh (Nr _);refine⟨.ref s1.heap.objs.size,upd H1 s1.heap.objs.size (.tup xs),I1.laid (t':=s1.toks) (λb u e=>M8 _ e) (Nr _) ?_,rfl,q _ hf⟩
 exact⟨z,us,r,⟨_,Nn _ rfl,rfl,_,rfl⟩⟩
def IQ(h:PA X es t):PE X (.List es pos) (tLst t):=by
 intro bv s σ H Q I hq;refine Ux (cz (h pos bv s σ H _ I hq) λus s1 ⟨xs,H1,I1,r,z,q⟩=>⟨by rw[<-r.length];exact z,?_⟩)
 have hf:H1 s1.heap.objs.size=ZB:=I1.hok.fresh (Nr _);refine⟨.ref s1.heap.objs.size,upd H1 s1.heap.objs.size (.lst xs),I1.laid (t':=s1.toks) (λb u e=>M8 _ e) (Nr _) ?_,rfl,q _ hf⟩
 exact⟨z,us,0,r,Nn _ rfl⟩
end
abbrev Sp:=List V->Hp->VK->XK->Prop
abbrev EB:=List Env->Hp->Ng->XK->V1
structure Et (P:NH)(w:Ou)(K:M9)(mg:V0)(base:ZH)(A:N4)(outer:List Env)(s:Ng)(H:Hp):Prop where
 frames:A.frames=ZA outer
 mod:Mod K mg base
 bs:∀b o,base.get? b=ZA o->s.heap.get? b=ZA o/\H b=ZB
 bsz:base.objs.size<=s.heap.objs.size
 funs:s.heap.FunFrames base outer
 frf:∀b∈uW outer,H b=ZB
 hok:HOk P w H s.heap
 bare:SO s.gens
def CE(outer:List Env)(P:NH)(w:Ou)(H:Hp)(s:Ng)(Q:VK)(u:Nf)(s':Ng):Prop:=
 ∃v H',s'.os=s.os/\SO s'.gens/\Un (uW outer) [] H H' s.heap s'.heap/\HOk P w H' s'.heap/\RelV v u/\Q v H'
def CR(CX:EB)(outer:List Env)(P:NH)(w:Ou)(H:Hp)(s:Ng)(Q:VK)(E:XK)(r:VL)(s':Ng):Prop:=
 match r with
 |.ok (.ret u)=>CE outer P w H s Q u s'
 |.ok _=>False
 |.error e=>CX outer H s E e s'
structure vq (P:NH)(w:Ou)(K:M9)(mg:V0)(base:ZH)(CX:EB)(k:Nat)(f:ZE)(fd:Pn)(ps:List Str)(sp:Sp):Prop where
 len:∀vs H Q E,sp vs H Q E->vs.length=ps.length
 run:∀(A:N4)(outer:List Env)(s:Ng)(H:Hp)(args:Args)(us:List Nf)(vs:List V)(Q:VK)(E:XK),Room k A->Et P w K mg base A outer s H->UX s fd args (ps.zip us)->Vals vs us->sp vs H Q E →
  ZL (ZK P w) A (.call (.ref f) args) (CR CX outer P w H s Q E) s
variable{Q:VK}
def Inv.MP(I:Inv X bv σ H s):Et X.prog X.w X.K X.mg X.base X.A X.stack s H:=
 ⟨I.ok.frames,I.ok.mod,I.bs,NV I.ok.bsz I.sz,I.stack,I.Me,I.hok,I.bare⟩
def Inv.after{u:Nf}(I:Inv X bv σ H s)(h:CE X.stack X.prog X.w H s Q u s'):EP X bv σ Q u s':=by
 obtain⟨v,H',os,bare,un,hok,r,q⟩:=h;obtain⟨hh,g,d,t,os'⟩:=s';obtain rfl:os'=s.os:=os;exact⟨v,H',I.call (h':=hh) (g':=g) (d':=d) (t':=t) (ch:=[]) un hok bare (λb z=>absurd z (by simp)),r,q⟩
def Kk(sp:Sp)(dvs:List V)(E:XK)(t:TA):TE:=λσ H Q=>t σ H λvs H1=>sp (vs++dvs) H1 Q E
def Binds(K:M9)(fd:Pn)(ps:List Str)(ds:List Nf):Prop:=
 ∀(s:Ng)(us:List Nf),K.In s.heap->(us++ds).length=ps.length->UX s fd ⟨us,[]⟩ (ps.zip (us++ds))
variable{ps:List Str}
def Binds.all(h:∀us:List Nf,us.length=ps.length->bindArgs fd ⟨us,[]⟩=pure (ps.zip us)):Binds K fd ps []:=λs us _ hl=>by
 rw[Oj]at hl ⊢;exact .of_eq (h us hl)
def zi(CX:EB)(X:Cx)(E:XK):Prop:=∀(bv:V2)(σ:St)(H:Hp)(s:Ng)(e:Nf)(s':Ng),Inv X bv σ H s->CX X.stack H s E e s'->X.xe e s'
variable{CX:EB}{E:XK}{f:ZE}{sp:Sp}{vs:List V}
section
variable {k:Nat}{dvs:List V}{ds:List Nf}{m:Str}{p pos apos:Pos}{o:ZG}{t:TA}
def HR(F:vq X.prog X.w X.K X.mg X.base CX k f fd ps sp)(hr:Room k X.A)(hb:Binds X.K fd ps ds)(hd:Vals dvs ds)(hx:zi CX X E)
  (I:Inv X bv σ H s) (r:Vals vs us) (h:sp (vs++dvs) H Q E):ZJ (ZK X.prog X.w) X.A (call (.ref f) us) (EP X bv σ Q) X.xe s:=by
 have r2:Vals (vs++dvs) (us++ds):=r.append hd
 have hl:(us++ds).length=ps.length:=by rw[<-r2.length];exact F.len _ _ _ _ h
 refine wpAny_call (Tt (F.run X.A X.stack s H ⟨us,[]⟩ (us++ds) (vs++dvs) Q E hr I.MP (hb s us I.kIn hl) r2 h) λr s' hq=>?_)
 cases r with
 |error e=>exact hx bv σ H s e s' I hq
 |ok fl=>
  cases fl with
  |ret u=>exact I.after hq
  |next=>exact QC hq
  |brk=>exact QC hq
  |cont=>exact QC hq
def zL(F:vq X.prog X.w X.K X.mg X.base CX k f fd ps sp)(hr:Room k X.A)(hg:Gl X x)(hm:X.mg x=ZA (.ref f))(hk:Rt X.K (.ref f)=ZC)(hb:Binds X.K fd ps ds)(hd:Vals dvs ds)(hx:zi CX X E)
  (ha:PA X (e::es) t) (hdb:autoParam ((x == ("__debug__" : Str))=ZD) s_) (he:NF (e::es) X.env=(ZD,eval e X.env)::NF es X.env:=by rfl) (hpl:(backTo pos (NF es X.env)).any (·.1)=ZD:=by rfl):
  PE X (.Call (.Name x p) (e::es) [] pos) (Kk sp dvs E t):=by
 intro bv s σ H Q I h;refine Oy (ox I hg hm ?_ hdb)
 refine Ug (h₀:=X.base) I.ok.mod.kin hk (cz (ha pos bv s σ H _ I h) λus s1 ⟨vs,H1,I1,r,q⟩=>⟨I1.kIn,?_⟩) he hpl
 exact HR F hr hb hd hx I1 r q
end
structure aE (N P:List Str)(sc:Q1):Prop where
 kind:sc.kind=.function
 co:sc.isCoroutine=ZD
 gen:sc.isGenerator=ZD
 nd:N.Nodup
 pre:N.take P.length=P
 par:∀x∈P,sc.names.lookup x=ZA .local\/sc.names.lookup x=ZA .cell
 nofree:∀y∈sc.names,y.2≠ .free
variable{kindOf:Str->Option QJ}
theorem sR:∀{binds:List (Str×Nf)}{m:V0},(∀v,(x,v)∉binds)->bindL kindOf binds m x=m x
 |[],_,_=>rfl
 | (n,v)::r,m,h=>by
  unfold bindL;rw[sR λw hw=>h w (Na _ hw)]
  split
  ·have:x≠n:=by rintro rfl;exact h v Nb
   simp[this]
  ·rfl
theorem sT:∀{binds:List (Str×Nf)}{m:V0},(∀v,(x,v)∉binds)->bindC kindOf binds m x=m x
 |[],_,_=>rfl
 | (n,v)::r,m,h=>by
  unfold bindC;rw[sT λw hw=>h w (Na _ hw)]
  split
  ·rfl
  ·have:x≠n:=by rintro rfl;exact h v Nb
   simp[this]
variable{v:Nf}
theorem sS:∀{P:List Str}{vs:List Nf}{i:Nat}{m:V0},P.Nodup->P[i]?=ZA x->vs[i]?=ZA v->kindOf x=ZA .local →
  bindL kindOf (P.zip vs) m x=ZA v
 |[],_,_,_,_,h,_,_=>by simp at h
 |_::_,[],_,_,_,_,h,_=>by simp at h
 |p::P,w::vs,0,m,nd,h1,h2,hk=>by
  simp at h1 h2;subst h1;subst h2
  show bindL kindOf ((p,w)::P.zip vs) m p=_
  unfold bindL;rw[sR λv hv=>(NP.mp nd).1 (Q9 hv).1,if_pos hk]
  simp
 |p::P,w::vs,i+1,m,nd,h1,h2,hk=>by
  show bindL kindOf ((p,w)::P.zip vs) m x=_
  unfold bindL;exact sS (i:=i) (NP.mp nd).2 (by simpa using h1) (by simpa using h2) hk
theorem sU:∀{P:List Str}{vs:List Nf}{i:Nat}{m:V0},P.Nodup->P[i]?=ZA x->vs[i]?=ZA v->kindOf x≠ZA .local →
  bindC kindOf (P.zip vs) m x=ZA v
 |[],_,_,_,_,h,_,_=>by simp at h
 |_::_,[],_,_,_,_,h,_=>by simp at h
 |p::P,w::vs,0,m,nd,h1,h2,hk=>by
  simp at h1 h2;subst h1;subst h2
  show bindC kindOf ((p,w)::P.zip vs) m p=_
  unfold bindC;rw[sT λv hv=>(NP.mp nd).1 (Q9 hv).1,if_neg hk]
  simp
 |p::P,w::vs,i+1,m,nd,h1,h2,hk=>by
  show bindC kindOf ((p,w)::P.zip vs) m x=_
  unfold bindC;exact sU (i:=i) (NP.mp nd).2 (by simpa using h1) (by simpa using h2) hk
def start(N:List Str)(vs:List V):St:=vs.map ZA++NL (N.length - vs.length) ZB
noncomputable def ni(CX:EB)(P:NH)(w:Ou)(K:M9)(mg:V0)(base:ZH)(N:List Str)(qual:Str)(scope:Q1)(f:ZE)(cd:Nf)(A:N4)(outer:List Env)(s:Ng)(H:Hp)(E:XK):Cx where
 prog:=P
 w:=w
 K:=K
 mg:=mg
 base:=base
 A:=A.deeper (envOfC qual scope s.heap.objs.size f cd)
 N:=N
 s₀:=s
 H₀:=H
 env:=envOfC qual scope s.heap.objs.size f cd
 outer:=outer
 stack:=envOfC qual scope s.heap.objs.size f cd::outer
 ex:=[]
 calm:=ZC
 fn:=λ_=>ZC
 pn:=[]
 xe:=λe s'=>ZJ (ZK P w) (A.deeper (envOfC qual scope s.heap.objs.size f cd)) (leaving (envOfC qual scope s.heap.objs.size f cd) e) (λ_ s''=>CX outer H s E e s'') (λe' s''=>CX outer H s E e' s'') s'
def xM(h:sc.names.lookup x=ZA .cell):∃c,(Qq n sc.names []).lookup x=ZA c:=by
 have q:=Ri sc.names n [] (.inl h);exact P4.mp q
variable{mg:V0}{qual:Str}
def sk{base:ZH}{cd:Nf}{outer:List Env}{s1:Ng}
  (S:aE N ps scope) (hd:A.handled=ZB) (e0:Et P w K mg base A outer s H) (hl:vs.length=ps.length) (r:Vals vs us)
  (x:InCallC s s.heap.objs.size (bindL (envOfC qual scope s.heap.objs.size f cd).kindOf (ps.zip us) λ_=>ZB) (Qq (s.heap.objs.size+1) scope.names []) (bindC (envOfC qual scope s.heap.objs.size f cd).kindOf (ps.zip us) λ_=>ZB) s1):
  Inv (ni CX P w K mg base N qual scope f cd A outer s H E) [] (start N vs) H s1:=by
 have hpl:ps.length<=N.length:=by have:=congrArg OE S.pre;rw[QU]at this;omega
 obtain⟨h1,tk,rfl,hk⟩:=x.done
 have noA:∀b:ZE,b∉(ni CX P w K mg base N qual scope f cd A outer s H E).ex:=λb z=>absurd (show b∈([]:List ZE)from z) (by simp)
 refine⟨⟨e0.mod,S.kind,rfl,rfl,Nr _,λy z c h1 h2=>?_,λy hy=>?_,λy c _ h=>?_,λ_=>hd,Around.frames_deeper e0.frames,.inr ⟨rfl,rfl⟩,λb z=>absurd z (noA b),e0.bs,e0.bsz,λb _ _=>noA b,λb z=>absurd z (noA b),e0.funs,e0.frf⟩,
  rfl,e0.bare,Un.kept hk,⟨_,x.toInCall.ns,λi y v h1 h2 h3=>?_⟩,λy c h=>⟨_,x.cell y c h⟩,e0.hok.fresh (Nr _),λy c h=>?_,λp hp=>absurd (show p∈([]:V2)from hp) (by simp),e0.hok.kept hk,?_⟩
 ·exact name_of_addr x.apart (Pz h1) (Pz h2)
 ·have hy:scope.names.lookup y=ZA .cell\/scope.names.lookup y=ZA .free:=hy
  rcases hy with hy|hy
  ·exact xM hy
  ·exact absurd rfl (S.nofree _ (Pz hy))
 ·exact OV (x.above y c (Pz h))
 ·have hi:i<vs.length:=by
   unfold start at h2
   by_cases hi:i<vs.length
   ·exact hi
   ·rw[QM (by simpa using hi)]at h2
    rw[Ra]at h2
    split at h2 <;> cases h2
  have ha:vs[i]?=ZA v:=by
   unfold start at h2;rw[PU (by simpa using hi),NC]at h2
   cases e:vs[i]? with
   |none=>rw[e]at h2;cases h2
   |some a=>rw[e]at h2;cases h2;rfl
  obtain⟨u,hu,rv⟩:=r.get ha
  have hp:ps[i]?=ZA y:=by
   rw[<-S.pre,List.getElem?_take_of_lt (by omega)];exact h1
  have ndP:ps.Nodup:=by rw[<-S.pre];exact S.nd.sublist (List.take_sublist _ _)
  refine⟨u,rv,?_⟩
  rcases S.par y (PZ hp)with k|k
  ·exact .inl ⟨k,sS ndP hp hu k⟩
  ·obtain⟨c,e⟩:=xM (n:=s.heap.objs.size+1) k
   refine .inr ⟨.inl k,c,e,?_⟩
   have q:=x.cell y c e;rw[sU ndP hp hu (by show scope.names.lookup y≠_;rw[k];decide)]at q
   exact q
 ·exact e0.hok.fresh (OV (x.above y c (Pz h)))
 ·unfold start
  show _=N.length
  rw[Nm,Nc,List.length_replicate];omega
def Lr{base:ZH}{k:Nat}{name:Str}{params:Tq}{dV kV doc pm cdv ct oc:Nf}{an od:Option ZE}
  {osl:Array (Option Nf)}   (lk:K.lookup f=ZA ⟨oc,od,.func (Rv name qual params body scope dV kV doc pm an cdv ct),osl⟩) (hcd:T1 K cdv qual=ZC) (S:aE N ps scope)
  (len:∀vs H Q E,sp vs H Q E->vs.length=ps.length)
  (hbody:∀(A:N4)(outer:List Env)(s:Ng)(H:Hp)(vs:List V)(Q:VK)(E:XK),Room k (A.deeper (envOfC qual scope s.heap.objs.size f cdv))->sp vs H Q E →
   ∃t,PSs (ni CX P w K mg base N qual scope f cdv A outer s H E) body t/\t {nx:=λ_ H'=>Q .non H',rt:=Q} (start N vs) H):
  vq P w K mg base CX (k+1) f (Rv name qual params body scope dV kV doc pm an cdv ct) ps sp:=by
 refine⟨len,λA outer s H args us vs Q E hr e0 hb r hsp=>?_⟩
 have hl:=len _ _ _ _ hsp
 have KX:K.In s.heap:=e0.mod.kin.keeps λb o e=>(e0.bs b o e).1
 have lim:s.heap.NoLimit:=e0.mod.nolimit.keeps λb o e=>(e0.bs b o e).1
 have hkind:∀y∈ps.zip us,scope.names.lookup y.1=ZA .local\/(scope.names.lookup y.1=ZA .cell/\((Qq (s.heap.objs.size+1) scope.names []).lookup y.1).isSome=ZC):=λ⟨n,v⟩ hy=>by
  rcases S.par n (Q9 hy).1 with q|q
  ·exact .inl q
  ·exact .inr ⟨q,Ri _ _ _ (.inl q)⟩
 refine Tu hr.depth (KX _ _ lk) rfl S.co S.gen rfl (Uh KX hcd) (hb _ _ _ _ ?_)
 refine R8 S.kind hkind λenv he s1 x=>?_
 subst he;refine⟨lim.keeps x.toInCall.keep,codeAny_func ?_⟩
 obtain⟨t,ht,hq⟩:=hbody A outer s H vs Q E (hr.deeper _) hsp
 have I:Inv (ni CX P w K mg base N qual scope f cdv A outer s H E) [] (start N vs) H s1:=sk S hr.hd e0 hl r x;refine Pl (ht [] s1 (start N vs) H _ I hq) (λfl s' hs=>?_) λe s' hs=>hs
 have fin:∀{σ':St}{H':Hp}{v:V}{u:Nf},Inv (ni CX P w K mg base N qual scope f cdv A outer s H E) [] σ' H' s'->RelV v u->Q v H'->CE outer P w H s Q u s':=
  λ{σ' H' v u} J rv q=>⟨v,H',J.os,J.bare,J.base,J.hok,rv,q⟩
 cases fl with
 |ret u=>
  obtain⟨v,σ',H',J,rv,q⟩:=hs
  exact fin J rv q
 |next=>
  obtain⟨σ',H',J,q⟩:=hs
  exact fin (v:=V.non) (u:=Oe) J rfl q
 |brk=>
  obtain⟨_,_,_,q⟩:=hs
  exact QC q
 |cont=>
  obtain⟨_,_,_,q⟩:=hs;exact QC q
end L2
namespace HT
open PySem PyProof.Rows
noncomputable def lexLt:List Int->List Int->Bool
 |[],[] =>ZD
 |[],_::_=>ZC
 |_::_,[] =>ZD
 |x::xs,y::ys=>if x=y then lexLt xs ys else decide (x<y)
def lexLt_cons(x y:Int)(xs ys:List Int):lexLt (x::xs) (y::ys)=if x=y then lexLt xs ys else decide (x<y):=rfl
def rF:lexLt [] []=ZD:=rfl
def pY(y:Int)(ys:List Int):lexLt [] (y::ys)=ZC:=rfl
def pZ(x:Int)(xs:List Int):lexLt (x::xs) []=ZD:=rfl
def DP(A:N4)(s:Ng)(a:Int)(t:Tok)(c:Int)(u:Tok):∃e,SeqAt.EqAt A s (.int a t) (.int c u) e/\(e=ZC↔a=c):=
 ⟨(a == c),SeqAt.EqAt.int_int a t c u,by simp⟩
def Cj(A:N4)(s:Ng)(a:Int)(t:Tok)(c:Int)(u:Tok)(prog:NH)(w:Ou)(E:V1)(Q:V1)(h:Q (.bool (decide (a<c))) s):
  ZJ (ZK prog w) A (richCompare .Lt (.int a t) (.int c u)) Q E s:=
 (PyProof.Rows.lt_int h:ZJ (ZK prog w) A (Og .Lt (.int a t) (.int c u)) Q E s)
section
open PySem.SeqAt
open PySem.AutoSeq1 (wpAny_loadPart')
open PySem.MeetsSeq PySem.MeetsSeq2 PySem.MeetsSeq3
def qM(l b:ZE)(items items2:Array Nf)(n n2:Nat)(dd dd2:Option ZE)(sl sl2:Array (Option Nf))(ns ms:List Int)(hi:Po items.toList ns)(hj:Po items2.toList ms):
  Meets (Builtin.«tuple.__lt__» ⟨[.ref l,.ref b],[]⟩)
   (λ_ R s=>s.heap.get? l=ZA {cls:=.type "tuple",dict:=dd,data:=.seq items n,slots:=sl}/\s.heap.get? b=ZA {cls:=.type "tuple",dict:=dd2,data:=.seq items2 n2,slots:=sl2} ∧
    R (.ok (.ret (.bool (lexLt ns ms)))) s):=
 .of_wp λprog w A R s h=>by
  obtain⟨hp,g,d,tk,os⟩:=s;obtain⟨hl,hb,h⟩:=h
  have f2:=AutoSeq1.sub_tuple_tuple
  have z1:items.size=ns.length:=by rw[<-hi.length];simp
  have z2:items2.size=ms.length:=by rw[<-hj.length];simp
  wp_walk using O4 hl,O4 hb,wpAny_forIn_list _ (λrest b s'=>b.1=ZB/\s'=⟨hp,g,d,tk,os⟩/\∃(vs ws:List Nf)(ns' ms':List Int),rest=vs.zip ws ∧
   Po vs ns'/\Po ws ms'/\ns'.length+items2.size=ms'.length+items.size/\R (.ok (.ret (.bool (lexLt ns' ms')))) ⟨hp,g,d,tk,os⟩) _
  case turn=>
   rintro ⟨y,x⟩ rest b s' ⟨hb',rfl,vs,ws,ns',ms',hz,hvi,hwi,hlen,hR⟩
   cases hvi with
   |nil=>rw[List.zip_nil_left]at hz;cases hz
   |cons a t hvi'=>
    cases hwi with
    |nil=>rw[List.zip_nil_right]at hz;cases hz
    |cons c u hwi'=>
     rw[Sa]at hz;injection hz with hyx hrest
     injection hyx with hy hx
     subst hy hx;rw[lexLt_cons]at hR;simp only[Nj]at hlen;obtain⟨e,he,hiff⟩:=DP A.in1 ⟨hp,g,d,tk,os⟩ a t c u;refine M7 (he prog w _ _ ?_)
     cases e with
     |true=>
      rw[if_pos (hiff.mp rfl)]at hR
      wp_walk
      exact⟨rfl,rfl,_,_,_,_,hrest,hvi',hwi',by omega,hR⟩
     |false=>
      rw[if_neg (λq=>absurd (hiff.mpr q) NJ)]at hR
      have hri:=Cj A.in1 ⟨hp,g,d,tk,os⟩ a t c u prog w
      wp_walk using hri
      exact⟨_,rfl,by simpa using hR⟩
  case fin=>
   rintro ⟨b1,b2⟩ s' ⟨hb',rfl,vs,ws,ns',ms',hz,hvi,hwi,hlen,hR⟩
   simp only at hb';subst hb'
   have hv:lexLt ns' ms'=decide (items.size<items2.size):=by
    cases hvi with
    |nil=>
     cases hwi with
     |nil=>
      simp only[P5]at hlen;rw[rF]
      exact(decide_eq_false (by omega)).symm
     |cons c u hw=>
      simp only[P5,Nj]at hlen;rw[pY]
      exact(decide_eq_true (by omega)).symm
    |cons a t hv=>
     cases hwi with
     |nil=>
      simp only[P5,Nj]at hlen;rw[pZ]
      exact(decide_eq_false (by omega)).symm
     |cons c u hw=>
      rw[Sa]at hz;cases hz
   rw[hv]at hR
   wp_walk
   exact⟨_,rfl,by simpa [UJ]using hR⟩
  case h=>
   exact⟨rfl,rfl,items.toList,items2.toList,ns,ms,rfl,hi,hj,by omega,h⟩
end
def lt_tupInts{l b:ZE}{items items2:Array Nf}{ms:List Int}(hl:VS s.heap l items)(hb:VS s.heap b items2)(hi:Po items.toList ns)(hj:Po items2.toList ms)
  (hu:A.units<cLine) (h:Q (.bool (lexLt ns ms)) s):ZJ (ZK prog w) A (Og .Lt (.ref l) (.ref b)) Q E s:=by
 obtain⟨⟨cls,dd,data,sl⟩,ho,hc,n,hd⟩:=id hl;obtain⟨⟨cls2,dd2,data2,sl2⟩,ho2,hc2,n2,hd2⟩:=id hb;simp only at hc hd hc2 hd2;subst hc hd hc2 hd2
 exact richCompare_meets_room (op:=.Lt) ⟨_,ho,rfl⟩ ⟨_,ho2,rfl⟩ PySem.F.slot_tuple_lt PySem.F.entry_tuple_lt (PySem.F.args_tuple_lt_2 _ _) (qM l b items items2 n n2 dd dd2 sl sl2 ns ms hi hj)
  ⟨ho,ho2,show OK (lexLt ns ms)≠TN/\Q (.bool (lexLt ns ms)) s from⟨(λx=>nomatch x),h⟩⟩ hu
def cat_tup{t b:ZE}{ws:List Nf}(ht:VS s.heap t vs.toArray)(hb:VS s.heap b ws.toArray)(hv:vs≠ [])
  (h1:ws=[]->Q (.ref t) s) (h2:ws≠ []->Q (.ref s.heap.objs.size) {s with heap:=s.heap.push {cls:=.type "tuple",data:=.seq (vs++ws).toArray}})
  (hsz:vs.length+ws.length<=ZI):ZJ (ZK prog w) A (Pm .Add (.ref t) (.ref b)) Q E s:=by
 obtain⟨⟨cls,dd,data,sl⟩,ho,hc,n,hd⟩:=id ht;obtain⟨⟨cls2,dd2,data2,sl2⟩,ho2,hc2,n2,hd2⟩:=id hb;simp only at hc hd hc2 hd2;subst hc hd hc2 hd2
 have e:vs.toArray++ws.toArray=(vs++ws).toArray:=by simp
 by_cases hw:ws=[]
 ·exact Vb ⟨_,ho,rfl⟩ ⟨_,ho2,rfl⟩ SZ Uy Rj Q5 (Q2 _ _)
   (tuple_addW1 t b vs.toArray ws.toArray n n2 dd dd2 sl sl2 (by simpa using hv) (by simp[hw])) ⟨ho,ho2,h1 hw⟩
 ·refine Vb ⟨_,ho,rfl⟩ ⟨_,ho2,rfl⟩ SZ Uy Rj Q5 (Q2 _ _)
   (tuple_addW2 t b vs.toArray ws.toArray n n2 dd dd2 sl sl2 (by simpa using hv) (by simpa using hw) (by rw[Nz,Nz];exact hsz)) ⟨ho,ho2,?_⟩
  rw[e];exact h2 hw
noncomputable def sIx(n d:Nat):Option Int->Nat
 |none=>d
 |some v=>if v<0 then(v+(n:Int)).toNat else min v.toNat n
def sIx_none(n d:Nat):sIx n d ZB=d:=rfl
def sIx_nat(n d k:Nat):sIx n d (ZA (k:Int))=min k n:=by
 show(if (k:Int)<0 then((k:Int)+(n:Int)).toNat else min (k:Int).toNat n)=min k n
 rw[if_neg (by omega),Oq]
def HQ(n d:Nat)(hd:d<=n)(o:Option Int):sIx n d o<=n:=by
 cases o with
 |none=>exact hd
 |some v=>
  show(if v<0 then(v+(n:Int)).toNat else min v.toNat n)<=n
  by_cases hv:v<0
  ·rw[if_pos hv];omega
  ·rw[if_neg hv];exact Nat.min_le_right _ _
def Aw(v:Int)(n d:Nat):(if v<0 then max (v+(n:Int)) 0 else min v (n:Int))=((sIx n d (ZA v):Nat):Int):=by
 show(if v<0 then max (v+(n:Int)) 0 else min v (n:Int))=(((if v<0 then(v+(n:Int)).toNat else min v.toNat n):Nat):Int)
 by_cases hv:v<0
 ·simp only[if_pos hv];omega
 ·simp only[if_neg hv];omega
def zh(lo hi:Option Int)(n:Nat):QP lo hi 1 (n:Int)=(((sIx n 0 lo:Nat):Int),((sIx n n hi:Nat):Int)):=by
 have h1:¬ ((1:Int)<0):=by omega
 unfold QP;simp only[h1,if_false];refine Prod.ext ?_ ?_
 ·cases lo with
  |none=>rfl
  |some v=>exact Aw v n 0
 ·cases hi with
  |none=>rfl
  |some v=>exact Aw v n n
def yk(i j:Nat):PR (i:Int) (j:Int) 1=j - i:=by
 unfold PR
 have h1:(1:Int) > 0:=by omega
 simp only[h1,if_true,Int.ediv_one]
 split <;> omega
def oY{o:Option Int}{Q:Option Int->Ng->Prop}(p:Uz v o)(h:Q o s):ZJ (ZK prog w) A (Vr v) Q E s:=by
 cases p with
 |none=>exact slicePart_none h
 |int i t=>exact slicePart_int h
def iG{sl:ZE}{Q:Int×Int×Nat->Ng->Prop}(hs:s.heap.IsSliceOf sl vl vu .none)(pl:Uz vl lo)(pu:Uz vu hi)
  (h:Q (((sIx n 0 lo:Nat):Int),1,sIx n n hi - sIx n 0 lo) s):ZJ (ZK prog w) A (R0 (.ref sl) (pure (n:Int))) Q E s:=by
 obtain⟨os,hos,hcs,hds⟩:=id hs;unfold R0 Builtin.Slice.sliceFields;refine M7 (M7 (NS hos hds (x:=vl) rfl (M7 (NS hos hds (x:=vu) rfl (M7 (NS hos hds (x:=.none) rfl (Nh ?_)))))))
 refine M7 (slicePart_none ?_)
 show ZJ _ _ (if ((1:Int) == 0)=ZC then _ else _) _ _ s
 rw[if_neg (by decide)]
 refine M7 (oY pl (M7 (oY pu (M7 (Nh ?_)))))
 show ZJ _ _ (match QP lo hi 1 (n:Int)with| (lo,hi)=>pure (lo,(1:Int),PR lo hi 1)) _ _ s
 rw[zh lo hi n]
 show ZJ _ _ (pure (((sIx n 0 lo:Nat):Int),(1:Int),PR ((sIx n 0 lo:Nat):Int) ((sIx n n hi:Nat):Int) 1)) _ _ s
 rw[yk];exact Nh h
def CC(xs:Array Nf)(i k:Nat):((Oz k).filterMap λ(m:Nat)=>xs[((i:Int)+(m:Int)*1).toNat]?).toArray=((xs.toList.drop i).take k).toArray:=by
 have e:(λ(m:Nat)=>xs[((i:Int)+(m:Int)*1).toNat]?)=λm=>xs[i+m]?:=by
  funext m
  have:((i:Int)+(m:Int)*1).toNat=i+m:=by omega
  rw[this]
 rw[e]
 have:=pick_run xs i k;rw[List.filterMap_map]at this
 have e2:((λx=>xs[x]?)∘λx=>i+x)=λm=>xs[i+m]?:=rfl
 rw[e2]at this;rw[this]
def getItem_tuple_cut{t sl:ZE}{items:Array Nf}(ht:VS s.heap t items)(hs:s.heap.IsSliceOf sl vl vu .none)(pl:Uz vl lo)(pu:Uz vu hi)
  (hw:¬ (sIx items.size 0 lo=0/\sIx items.size items.size hi=items.size))
  (h:Q (.ref s.heap.objs.size) {s with heap:=s.heap.push {cls:=.type "tuple",data:=.seq ((items.toList.drop (sIx items.size 0 lo)).take (sIx items.size items.size hi - sIx items.size 0 lo)).toArray}})
  (hsz:items.size<=ZI):ZJ (ZK prog w) A (getItem (.ref t) (.ref sl)) Q E s:=by
 have htake:sizeOk (.seq ((items.toList.drop (sIx items.size 0 lo)).take (sIx items.size items.size hi - sIx items.size 0 lo)).toArray):=by
  show((items.toList.drop (sIx items.size 0 lo)).take (sIx items.size items.size hi - sIx items.size 0 lo)).toArray.size<=ZI
  rw[Nz,QU,Qn,NX];omega
 have hj:sIx items.size items.size hi<=items.size:=HQ _ _ (Nr _) hi;obtain⟨os,hos,hcs,hds⟩:=id hs
 have hTs:s.TypeIs (.ref sl) "slice":=⟨os,hos,hcs⟩;unfold getItem
 try with_reducible refine OA ?_
 first|refine M7 (Nh ?_)|skip
 refine M7 (UY ht.typeIs (by decide) ?_)
 refine M7 (NT (name:=Nt "__getitem__") ht.typeIs Oo
  (N9 Oo ht.typeIs Ub ?_ (UA _ _)))
 show ZJ _ _ (R1 (.ref t) >>= _) _ _ s
 refine M7 (UB ht ?_)
 refine M7 (Qe hTs ?_)
 rw[if_pos (by decide)]
 refine M7 (iG hs pl pu ?_)
 have hno:¬ ((((sIx items.size 0 lo:Nat):Int) == 0&&(1:Int) == 1&&(sIx items.size items.size hi - sIx items.size 0 lo) == items.size)=ZC):=by
  intro q;rw[Ni,Ni]at q
  have q1:((sIx items.size 0 lo:Nat):Int)=0:=eq_of_beq q.1.1
  have q2:sIx items.size items.size hi - sIx items.size 0 lo=items.size:=eq_of_beq q.2;exact hw ⟨by omega,by omega⟩
 show ZJ _ _ (if (((sIx items.size 0 lo:Nat):Int) == 0&&(1:Int) == 1&&(sIx items.size items.size hi - sIx items.size 0 lo) == items.size)=ZC then _ else _) _ _ s
 rw[if_neg hno,CC]
 first
  |exact M7 (m:=Pj _) (Ox (Nh ⟨_,rfl,Nh h⟩) htake)
  |exact M7 (m:=Pj _) (Ox (M7 (Nh (Nh ⟨_,rfl,Nh h⟩))) htake)
  |exact M7 (M7 (m:=Pj _) (Ox (Nh (Nh ⟨_,rfl,Nh h⟩)) htake))
  |exact M7 (M7 (m:=Pj _) (Ox (Nh ⟨_,rfl,Nh h⟩) htake))
end HT
variable{i:Int}
namespace L2
open PySem PySem.Spec PyProof.Rows
abbrev TO:=St->Hp->(Option Int->Hp->Prop)->Prop
def PO(X:Cx)(e:Option ZG)(t:TO):Prop:=
 ∀(bv:V2)(s:Ng)(σ:St)(H:Hp)(Q:Option Int->Hp->Prop),Inv X bv σ H s->t σ H Q →
  ZJ (ZK X.prog X.w) X.A (evalPart e X.env) (λu s'=>∃o H',Inv X bv σ H' s'/\Uz u o/\Q o H') X.xe s
def EW:TO:=λ_ H Q=>Q ZB H
def Kb(t:TE):TO:=λσ H Q=>t σ H λx H1=>∃i,x=.int i/\Q (ZA i) H1
def yU:∀{us:List Nf},Vals (ns.map V.int) us->Po us ns:=by
 induction ns with
 |nil=>intro us r;rw[Qv]at r;cases r;exact .nil
 |cons n ns ih=>
  intro us r;rw[Nd]at r
  cases r with
  |cons r1 r2=>
   obtain⟨t,e⟩:=r1;subst e;exact .cons n t (ih r2)
variable{X:Cx}{e:ZG}{r:V->Option Int->Option Int->Hp->VK->Prop}{xs:List V}
section
variable {te:TE}{lo hi:Option ZG}{tl th:TO}{pos p2:Pos}
def FN:PO X ZB EW:=by
 intro bv s σ H Q I h;rw[evalPart_none];exact Nh ⟨ZB,H,I,.none,h⟩
def FL(h:PE X e te):PO X (ZA e) (Kb te):=by
 intro bv s σ H Q I hw;rw[evalPart_some];refine cz (h bv s σ H _ I hw) λu s1 hh_=>?_
 obtain⟨x,H1,I1,r1,q1⟩:=hh_;obtain⟨i,rfl,q⟩:=q1;obtain⟨t,rfl⟩:=r1;exact⟨ZA i,H1,I1,.int i t,q⟩
def SlR(X:Cx)(r:V->Option Int->Option Int->Hp->VK->Prop):Prop:=
 ∀(bv:V2)(s:Ng)(σ:St)(H:Hp)(x:V)(v vl vu:Nf)(lo hi:Option Int)(sl:ZE)(Q:VK),Inv X bv σ H s->RelV x v->s.heap.IsSliceOf sl vl vu .none->Uz vl lo->Uz vu hi->r x lo hi H Q →
  ∃T id,P9 (.type T) "__getitem__" =pure (ZA (.builtin id))/\s.TypeIs v T/\ZJ (ZK X.prog X.w) X.A (getItem v (.ref sl)) (EP X bv σ Q) X.xe s
def SlR.or{r':V->Option Int->Option Int->Hp->VK->Prop}(h:SlR X r)(h':SlR X r'):SlR X (λx lo hi H Q=>r x lo hi H Q\/r' x lo hi H Q):=by
 intro bv s σ H x v vl vu lo hi sl Q I rx hs pl pu q;rcases q with q|q
 ·exact h bv s σ H x v vl vu lo hi sl Q I rx hs pl pu q
 ·exact h' bv s σ H x v vl vu lo hi sl Q I rx hs pl pu q
def tSl(r:V->Option Int->Option Int->Hp->VK->Prop)(te:TE)(tl th:TO):TE:=λσ H Q=>te σ H λx H1=>tl σ H1 λl H2=>th σ H2 λu H3=>r x l u H3 Q
def CG(hr:SlR X r)(he:PE X e te)(hl:PO X lo tl)(hu:PO X hi th):PE X (.Subscript e (.Slice lo hi ZB p2) pos) (tSl r te tl th):=by
 intro bv s σ H Q I h;refine Subscript_ (cz (he bv s σ H _ I h) λv s1 hh_=>?_)
 obtain⟨x,H1,I1,r1,q1⟩:=hh_;refine wpAny_Slice (cz (hl bv s1 σ H1 _ I1 q1) λvl s2 ⟨l,H2,I2,pl,q2⟩=>cz (hu bv s2 σ H2 _ I2 q2) λvu s3 hh_=>?_)
 obtain⟨u,H3,I3,pu,q3⟩:=hh_;rw[evalPart_none];refine Nh ?_
 have I4:Inv X bv σ H3 {s3 with heap:=s3.heap.push {cls:=.type "slice",data:=.fields #[vl,vu,.none]}}:=I3.kept (t':=s3.toks) λb ob q=>M8 _ q
 obtain⟨T,id,hT,ht,hg⟩:=hr bv {s3 with heap:=s3.heap.push {cls:=.type "slice",data:=.fields #[vl,vu,.none]}} σ H3 x v vl vu l u s3.heap.objs.size Q I4 r1 (Heap.IsSliceOf.new ..) pl pu q3
 show ZJ (ZK X.prog X.w) X.A (UC e (.Slice lo hi ZB p2) v (.ref s3.heap.objs.size)) (EP X bv σ Q) X.xe {s3 with heap:=s3.heap.push {cls:=.type "slice",data:=.fields #[vl,vu,.none]}}
 exact tail_any (ops:=[.ref s3.heap.objs.size,v]) ht hT hg (by with_unfolding_all rfl)
def xK(xs:List V)(lo hi:Option Int):List V:=(xs.drop (HT.sIx xs.length 0 lo)).take (HT.sIx xs.length xs.length hi - HT.sIx xs.length 0 lo)
def nS(xs:List V)(lo hi:Option Int):(xK xs lo hi).length<=xs.length:=by
 unfold xK;rw[QU,Qn];omega
def rSlT(K:M9):V->Option Int->Option Int->Hp->VK->Prop:=λx lo hi H Q=>∃a xs,x=.ref a/\SqT K H a xs ∧
 ¬(HT.sIx xs.length 0 lo=0/\HT.sIx xs.length xs.length hi=xs.length)/\∀p,H p=ZB->Q (.ref p) (upd H p (.tup (xK xs lo hi)))
def sl_tup:SlR X (rSlT X.K):=by
 intro bv s σ H x v vl vu lo hi sl Q I rx hs pl pu h;obtain⟨a,xs,rfl,hx,hw,q⟩:=h;cases rx;obtain⟨its,r,ht,hz⟩:=I.tuple hx
 have hlen:its.toArray.size=xs.length:=by rw[Nz];exact r.length.symm
 refine⟨"tuple",_,Oo.lookup,ht.typeIs,?_⟩
 refine HT.getItem_tuple_cut ht hs pl pu (by rw[hlen];exact hw) ?_ (by rw[hlen];exact hz)
 rw[hlen];refine⟨.ref s.heap.objs.size,_,I.laid (t':=s.toks) (o:=.tup (xK xs lo hi)) (λb ob q=>M8 _ q) (Nr _) ?_,rfl,q _ (I.hok.fresh (Nr _))⟩
 exact⟨NV (nS xs lo hi) hz,_,(r.drop (HT.sIx xs.length 0 lo)).take (HT.sIx xs.length xs.length hi - HT.sIx xs.length 0 lo),Vw _ _⟩
def Ku(K:M9):R2:=λx y H Q=>∃a b xs ys,x=.ref a/\y=.ref b/\SqT K H a xs/\SqT K H b ys/\xs≠ []/\xs.length+ys.length<=ZI ∧
 (ys=[]->Q (.ref a) H)/\(ys≠ []->∀p,H p=ZB->Q (.ref p) (upd H p (.tup (xs++ys))))
def Vals.AC(r:Vals xs us):us=[] ↔xs=[]:=by
 cases r with
 |nil=>simp
 |cons _ _=>simp
def F3:rJ X (Pm .Add) (Ku X.K):=by
 intro bv s σ H x y v u Q I rx ry h;obtain⟨a,b,xs,ys,rfl,rfl,ha,hb,hx,hz,q1,q2⟩:=h;cases rx;cases ry;obtain⟨its,r1,p1,_⟩:=I.tuple ha;obtain⟨its2,r2,p2,_⟩:=I.tuple hb;refine HT.cat_tup p1 p2 (λz=>hx (r1.AC.mp z)) (λz=>⟨.ref a,H,I,rfl,q1 (r2.AC.mp z)⟩) (λz=>?_) (by rw[<-r1.length,<-r2.length];exact hz)
 refine⟨.ref s.heap.objs.size,_,I.laid (t':=s.toks) (o:=.tup (xs++ys)) (λb ob q=>M8 _ q) (Nr _) ?_,rfl,q2 (λw=>z (r2.AC.mpr w)) _ (I.hok.fresh (Nr _))⟩
 exact⟨by rw[Nm];exact hz,_,r1.append r2,Vw _ _⟩
end
noncomputable def ixN(n:Nat)(i:Int):Option Nat:=if 0<=i then(if i<n then ZA i.toNat else ZB)else if -(n:Int)<=i then ZA (i+n).toNat else ZB
def atI{α:Type}(xs:List α)(i:Int):Option α:=(ixN xs.length i).bind λj=>xs[j]?
def Gi(h:ixN n i=ZA j):seqIndex? i n=ZA j/\j<n/\-(n:Int)<=i/\i<n:=by
 unfold ixN at h
 by_cases h0:0<=i
 ·rw[if_pos h0]at h
  by_cases h1:i<n
  ·rw[if_pos h1]at h
   have e:i.toNat=j:=NZ h;exact⟨by rw[seqIndex_of h0 h1,e],by omega,by omega,h1⟩
  ·rw[if_neg h1]at h;cases h
 ·rw[if_neg h0]at h
  by_cases h1 : -(n:Int)<=i
  ·rw[if_pos h1]at h
   have e:(i+n).toNat=j:=NZ h;exact⟨by rw[seqIndex_neg (by omega) h1,e],by omega,h1,by omega⟩
  ·rw[if_neg h1]at h;cases h
def vj{xs:List α}{v:α}(h:atI xs i=ZA v):∃j,seqIndex? i xs.length=ZA j/\xs[j]?=ZA v/\j<xs.length/\-(xs.length:Int)<=i/\i<xs.length:=by
 unfold atI at h
 cases e:ixN xs.length i with
 |none=>rw[e]at h;cases h
 |some j=>
  rw[e]at h;obtain⟨h1,h2,h3,h4⟩:=Gi e;exact⟨j,h1,h,h2,h3,h4⟩
def AE(b:ZG):Prop:=∀o i,Uc b ZD o i=operate [o,i] (getItem o i)
def IxR(X:Cx)(r:R2):Prop:=
 ∀(value slice:ZG)(bv:V2)(s:Ng)(σ:St)(H:Hp)(x y:V)(v u:Nf)(Q:VK),Inv X bv σ H s->RelV x v->RelV y u->r x y H Q →
  Uc slice ZD v u=operate [v,u] (getItem v u)->ZJ (ZK X.prog X.w) X.A (UC value slice v u) (EP X bv σ Q) X.xe s
def MtR(X:Cx)(id:String)(r:V->List V->Hp->VK->Prop):Prop:=
 ∀(bv:V2)(s:Ng)(σ:St)(H:Hp)(x:V)(xs:List V)(v:Nf)(us:List Nf)(Q:VK),Inv X bv σ H s->RelV x v->Vals xs us->r x xs H Q →
  ZJ (ZK X.prog X.w) X.A (call (.builtin id) (v::us)) (EP X bv σ Q) X.xe s
variable{H:Hp}{bv:V2}{σ:St}
section
variable {a b:ZG}{ta tb:TE}{pos:Pos}
def IxR.or{r r':R2}(h:IxR X r)(h':IxR X r'):IxR X (λx y H Q=>r x y H Q\/r' x y H Q):=by
 intro value slice bv s σ H x y v u Q I rx ry q hs;rcases q with q|q
 ·exact h value slice bv s σ H x y v u Q I rx ry q hs
 ·exact h' value slice bv s σ H x y v u Q I rx ry q hs
def Kt(K:M9):R2:=λx y H Q=>∃p xs i v,x=.ref p/\y=.int i/\SqL K H p xs/\atI xs i=ZA v/\Q v H
def Kr(K:M9):R2:=λx y H Q=>∃p xs i v,x=.ref p/\y=.int i/\SqT K H p xs/\atI xs i=ZA v/\Q v H
def Ks:R2:=λx y H Q=>∃z i c,x=.str z/\y=.int i/\z.length<=ZI/\atI z.cps.toList i=ZA c/\Q (.str ⟨#[c]⟩) H
def ix_list:IxR X (Kt X.K):=by
 intro value slice bv s σ H x y v u Q I rx ry h hs;obtain⟨p,xs,i,z,rfl,rfl,hq,he,q⟩:=h;cases rx;obtain⟨t,rfl⟩:=ry;obtain⟨its,r,pl,hz⟩:=I.list hq;obtain⟨j,h1,h2,h3,h4,h5⟩:=vj he;obtain⟨w,ew,rw'⟩:=r.get h2
 have hl:=r.length
 have hn:=pW
 have fin:EP X bv σ Q w s:=⟨z,H,I,rw',q⟩
 by_cases h0:0<=i
 ·have hj:i.toNat=j:=by
   rw[seqIndex_of h0 h5]at h1;exact NZ h1
  exact item_listR pl.isList h0 (by omega) (by rw[hj];simpa using ew) fin hs
 ·have hj:(i+(its.toArray.size:Int)).toNat=j:=by
   rw[seqIndex_neg (by omega) h4]at h1
   rw[Nz,<-hl];exact NZ h1
  exact S4 (x:=w) pl.isList.typeIs slot_list_getitem.lookup
   (wpAny_getItem_list_neg (Q:=λr s'=>r=w/\EP X bv σ Q r s') pl.isList (by omega) (by rw[Nz] <;> omega) (by omega) (by rw[hj];simpa using ew) ⟨rfl,fin⟩) hs
def ix_tup:IxR X (Kr X.K):=by
 intro value slice bv s σ H x y v u Q I rx ry h hs;obtain⟨p,xs,i,z,rfl,rfl,hq,he,q⟩:=h;cases rx;obtain⟨t,rfl⟩:=ry;obtain⟨its,r,pl,hz⟩:=I.tuple hq;obtain⟨j,h1,h2,h3,h4,h5⟩:=vj he;obtain⟨w,ew,rw'⟩:=r.get h2
 have hl:=r.length
 have hn:=pW
 have fin:EP X bv σ Q w s:=⟨z,H,I,rw',q⟩
 exact S4 (x:=w) pl.typeIs slot_tuple_getitem.lookup
  (getItem_tuple (j:=j) (Q:=λr s'=>r=w/\EP X bv σ Q r s') pl (by omega) (by omega) (by rw[Nz,<-hl];exact h1) (by simpa using ew) ⟨rfl,fin⟩) hs
def Jy:IxR X Ks:=by
 intro value slice bv s σ H x y v u Q I rx ry h hs;obtain⟨z,i,c,rfl,rfl,hz,he,q⟩:=h;obtain⟨t,rfl⟩:=rx;obtain⟨t',rfl⟩:=ry;obtain⟨j,h1,h2,h3,h4,h5⟩:=vj he
 have hl:z.cps.toList.length=z.length:=by simp[Str.length]
 rw[hl]at h1 h4 h5
 have hn:=pW
 exact tail_any (typeIs_str s z t) slot_str_getitem.lookup (getItem_str (c:=c) (by
  have e1:decide (i< -(2 ^ 63:Int))=ZD:=decide_eq_false (by omega)
  have e2:decide (i ≥ 2 ^ 63)=ZD:=decide_eq_false (by omega)
  rw[e1,e2,Bool.or_false]) (by rw[h1];simpa using h2) ⟨.str ⟨#[c]⟩,H,I.tok _,⟨_,rfl⟩,q⟩) hs
def rIx(K:M9):R2:=λx y H Q=>Kt K x y H Q\/Kr K x y H Q\/Ks x y H Q
def Jz:IxR X (rIx X.K):=ix_list.or (ix_tup.or Jy)
def tG(lo hi:Option Int)(n:Nat):(Rq lo hi ZB n).1=((HT.sIx n 0 lo:Nat):Int)/\(Rq lo hi ZB n).2.1=((HT.sIx n n hi:Nat):Int)/\(Rq lo hi ZB n).2.2=1:=by
 refine⟨?_,?_,rfl⟩
 ·cases lo with
  |none=>simp[Rq,HT.sIx]
  |some i=>
   simp only[Rq,HT.sIx,Ve,show(1:Int) > 0 by decide,if_true]
   by_cases h:i<0
   ·simp only[h,if_true] <;> omega
   ·simp only[h,if_false] <;> omega
 ·cases hi with
  |none=>simp[Rq,HT.sIx]
  |some i=>
   simp only[Rq,HT.sIx,Ve,show(1:Int) > 0 by decide,if_true]
   by_cases h:i<0
   ·simp only[h,if_true] <;> omega
   ·simp only[h,if_false] <;> omega
def qN(its:List Nf)(lo hi:Option Int):slicePick its.toArray lo hi ZB=((its.drop (HT.sIx its.length 0 lo)).take (HT.sIx its.length its.length hi - HT.sIx its.length 0 lo)).toArray:=by
 obtain⟨h1,h2,h3⟩:=tG lo hi its.toArray.size;unfold slicePick;rw[h1,h2,h3];simp only[sliceRange_one,pick_run,Nz] <;> rfl
def rSlL(K:M9):V->Option Int->Option Int->Hp->VK->Prop:=λx lo hi H Q=>∃a xs,x=.ref a/\SqL K H a xs/\∀p,H p=ZB->Q (.ref p) (upd H p (.lst (xK xs lo hi)))
def E8:SlR X (rSlL X.K):=by
 intro bv s σ H x v vl vu lo hi sl Q I rx hs pl pu h;obtain⟨a,xs,rfl,hx,q⟩:=h;cases rx;obtain⟨its,r,ht,hz⟩:=I.list hx
 have hlen:=r.length;refine⟨"list",_,slot_list_getitem.lookup,ht.isList.typeIs,?_⟩
 refine wpAny_getItem_list_slice ht.isList hs pl pu .none (by simp) ?_ (by rw[Nz] <;> omega)
 rw[qN,<-hlen];refine⟨.ref s.heap.objs.size,_,I.laid (t':=s.toks) (o:=.lst (xK xs lo hi)) (λb ob q=>M8 _ q) (Nr _) ?_,rfl,q _ (I.hok.fresh (Nr _))⟩
 exact⟨NV (nS xs lo hi) hz,_,0,(r.drop (HT.sIx xs.length 0 lo)).take (HT.sIx xs.length xs.length hi - HT.sIx xs.length 0 lo),Nn _ rfl⟩
def call_len_seq:CallR X (.builtin "len") (λxs H Q=>∃p ys,xs=[.ref p]/\(SqL X.K H p ys\/SqT X.K H p ys)/\Q (.int ys.length) H):=by
 intro bv s σ H xs us Q I r h;obtain⟨p,ys,rfl,hq,q⟩:=h;obtain⟨u,rfl,rx⟩:=kQ r;cases rx
 have hn:=pW;rcases hq with hq|hq
 ·obtain⟨its,r',pl,hz⟩:=I.list hq
  have hlen:=r'.length;exact Calls.call_len_list pl.isList (by simp only[Nz] <;> omega) ⟨.int ys.length,H,I.tok _,⟨s.toks+1,by rw[Nz,hlen]⟩,q⟩
 ·obtain⟨its,r',pl,hz⟩:=I.tuple hq
  have hlen:=r'.length;exact len_tuple pl (by simp only[Nz] <;> omega) ⟨.int ys.length,H,I.tok _,⟨s.toks+1,by rw[Nz,hlen]⟩,q⟩
def vg:CallR X (.builtin "len") (λxs H Q=>∃z,xs=[.str z]/\z.length<=ZI/\Q (.int z.length) H):=by
 intro bv s σ H xs us Q I r h;obtain⟨z,rfl,hz,q⟩:=h;obtain⟨u,rfl,t,rfl⟩:=kQ r
 have hn:=pW;exact len_str (by omega) ⟨.int z.length,H,I.tok _,⟨_,rfl⟩,q⟩
def CallR.or{f:Nf}{r r':List V->Hp->VK->Prop}(h:CallR X f r)(h':CallR X f r'):CallR X f (λxs H Q=>r xs H Q\/r' xs H Q):=by
 intro bv s σ H xs us Q I rs q;rcases q with q|q
 ·exact h bv s σ H xs us Q I rs q
 ·exact h' bv s σ H xs us Q I rs q
def rG:CallR X (.type "tuple") (λxs H Q=>∃p ys,xs=[.ref p]/\((SqL X.K H p ys/\∀l,H l=ZB->Q (.ref l) (upd H l (.tup ys)))\/(SqT X.K H p ys/\Q (.ref p) H))):=by
 intro bv s σ H xs us Q I r h;obtain⟨p,ys,rfl,h⟩:=h;obtain⟨u,rfl,rx⟩:=kQ r;cases rx;rcases h with⟨hq,q⟩|⟨hq,q⟩
 ·obtain⟨its,r',pl,hz⟩:=I.list hq
  have hlen:=r'.length;refine call_tuple_list pl.isList (λh' kp=>?_) (by simp only[Nz] <;> omega)
  have I1:Inv X bv σ H {s with heap:=h'}:=I.kept (t':=s.toks) kp
  have I2:Inv X bv σ (upd H h'.objs.size (.tup ys)) {s with heap:=h'.push {cls:=.type "tuple",data:=.seq its.toArray}}:=
   I1.laid (t':=s.toks) (λb o e=>M8 _ e) (Nr _) (show ObjOk X.prog X.w _ _ _ (.tup ys)from⟨hz,its,r',Vw _ _⟩)
  exact⟨.ref h'.objs.size,_,I2,rfl,q _ (I1.hok.fresh (Nr _))⟩
 ·obtain⟨its,r',pl,hz⟩:=I.tuple hq
  exact call_tuple_same pl ⟨.ref p,H,I,rfl,q⟩
def tyV(K:M9)(T:String)(x:V)(H:Hp):Prop:=match x with
 |.str _=>T= "str"
 |.int _=>T= "int"
 |.ref p=>(T= "list"/\∃xs,SqL K H p xs)\/(T= "tuple"/\∃o,K.lookup p=ZA o/\o.cls=.type "tuple"/\o.dict=ZB) ∨
   (T= "dict"/\((∃kvs,H p=ZA (.dK kvs))\/∃kvs,H p=ZA (.dT kvs)))\/(T= "set"/\∃S n,H p=ZA (.set S n))
 |_=>False
def B0{T:String}{x:V}(I:Inv X bv σ H s)(r:RelV x v)(ty:tyV X.K T x H):
  s.TypeIs v T/\∀a,v=.ref a->∃ob,s.heap.get? a=ZA ob/\ob.dict=ZB:=by
 cases x with
 |str z=>
  obtain⟨t,rfl⟩:=r;cases (show T= "str" from ty)
  exact⟨typeIs_str s z t,λ_ e=>nomatch e⟩
 |int i=>
  obtain⟨t,rfl⟩:=r;cases (show T= "int" from ty)
  exact⟨TK s i t,λ_ e=>nomatch e⟩
 |ref p=>
  cases r;rcases ty with⟨rfl,xs,hq⟩|⟨rfl,o,hk,hc,hd⟩|⟨rfl,hk⟩|⟨rfl,S,n,hk⟩
  ·obtain⟨its,_,pl,_⟩:=I.list hq
   refine⟨pl.isList.typeIs,λa e=>?_⟩
   cases e;obtain⟨o,n,e,c,hd,_⟩:=pl;exact⟨o,e,hd⟩
  ·refine⟨⟨o,I.kIn p o hk,hc⟩,λa e=>?_⟩
   cases e;exact⟨o,I.kIn _ o hk,hd⟩
  ·have z:∃o,s.heap.get? p=ZA o/\o.ExactDict:=by
    rcases hk with⟨kvs,hk⟩|⟨kvs,hk⟩
    ·obtain⟨_,_,_,_,o,_,_,e,ex,_⟩:=I.hok p _ hk
     exact⟨o,e,ex⟩
    ·obtain⟨_,_,_,_,o,_,_,e,ex,_⟩:=I.hok p _ hk
     exact⟨o,e,ex⟩
   obtain⟨o,e,ex⟩:=z;refine⟨⟨o,e,ex.1⟩,λa e2=>?_⟩
   cases e2;exact⟨o,e,ex.2.1⟩
  ·obtain⟨o,_,_,_,e,ex,_⟩:=I.hok p _ hk
   refine⟨⟨o,e,ex.1⟩,λa e2=>?_⟩
   cases e2
   exact⟨o,e,ex.2.1⟩
 |_=>exact QC ty
def tBM(K:M9)(T:String)(r:V->List V->Hp->VK->Prop)(to:TE)(t:TA):TE:=λσ H Q=>to σ H λx H1=>tyV K T x H1/\t σ H1 λxs H2=>r x xs H2 Q
variable {o:ZG}{es:List ZG}{to:TE}{t:TA}{name:Str}{apos cpos:Pos}{T id:String}{r:V->List V->Hp->VK->Prop}
def Hg(pa:PlainAttrs T)(slot:Slot T name id)(hty:typeOf (.builtin id)=pure (.type "method_descriptor"))(hm:MtR X id r)(ho:PE X o to)(ha:PA X (e::es) t)
  (hbase:Pb o name X.env (eval o X.env)=eval o X.env:=by rfl)
  (hfew:((backTo cpos (NF (e::es) X.env)).all (λx=>!x.1)&&(backToKw cpos (VM [] X.env)).all (λx=>x.1.isSome)
   &&decide ((e::es).length+([]:List VO).length+(if ([]:List VO).isEmpty then 0 else 1)<30))=ZC:=by rfl)
  (hline:(apos.endLine == cpos.line)=ZC:=by rfl) (hs:NF (e::es) X.env=(ZD,eval e X.env)::NF es X.env:=by rfl) (hplain:(backTo cpos (NF es X.env)).any (·.1)=ZD:=by rfl):
  PE X (.Call (.Attribute o name apos) (e::es) [] cpos) (tBM X.K T r to t):=by
 intro bv s σ H Q I h;refine S5 hbase hfew hline rfl (cz (ho bv s σ H _ I h) λv s1 hh_=>?_)
 obtain⟨x,H1,I1,r1,ty,q1⟩:=hh_;obtain⟨h1,h2⟩:=B0 I1 r1 ty;refine⟨T,id,pa,slot,hty,h1,h2,?_⟩
 have hA:=ha cpos bv s1 σ H1 _ I1 q1;rw[hs]at hA ⊢;refine Rk (by show(ZD||(backTo cpos (NF es X.env)).any (·.1))=ZD;rw[hplain] <;> rfl) (QN ?_)
 exact cz hA λus s2 ⟨vs,H2,I2,r2,q2⟩=>hm bv s2 σ H2 x vs v us Q I2 r1 r2 q2
end
def MtM(X:Cx)(id:String)(r:V->List V->Hp->VK->Prop):Prop:=
 ∀(bv:V2)(s:Ng)(σ:St)(H:Hp)(x:V)(xs:List V)(v:Nf)(us:List Nf)(Q:VK),Inv X bv σ H s->RelV x v->Vals xs us->r x xs H Q →
  ZJ (ZK X.prog X.w) X.A (call (.builtin id) (v::us)) (EP X bv σ Q) X.xe s
theorem Vals.one:∀{x:V}{us:List Nf},Vals [x] us->∃u,us=[u]/\RelV x u
 |_,_,.cons r .nil=>⟨_,rfl,r⟩
theorem Vals.rep(h:Vals xs us):∀k:Nat,Vals (NL k xs).flatten (NL k us).flatten
 |0=>.nil
 |k+1=>by
  rw[O6,O6,P6,P6];exact Vals.append h (Vals.rep h k)
theorem foldl_rep(its:List Nf):∀(k:Nat)(acc:List Nf),
  Sv (λx1 x2=>x1++x2) acc.toArray (NL k its.toArray)=(acc++(NL k its).flatten).toArray
 |0,acc=>by simp
 |k+1,acc=>by
  have e:acc.toArray++its.toArray=(acc++its).toArray:=by simp
  have e2:(acc++its)++(NL k its).flatten=acc++(NL (k+1) its).flatten:=by
   rw[O6,P6,ND]
  rw[<-e2,<-foldl_rep its k (acc++its),<-e,O6,Vx]
section
variable {l b:ZE}{ys zs:List V}
def Inv.MR{its':List Nf}{f:Array Nf->Array Nf}(I:Inv X bv σ H s)(hH:H l=ZA (.lst xs))
  (e:s.heap.get? l=ZA {cls:=.type "list",data:=.seq its.toArray n}) (hf:f its.toArray=its'.toArray) (hv:Vals ys its') (hz:ys.length<=ZI):
  Inv X bv σ (upd H l (.lst ys)) {s with heap:=s.heap.update l (Qr f),toks:=t'}:=by
 have q:=PySem.IsL.update e f;rw[hf]at q;refine I.write (x:=l) (e:=l) (by rw[hH];exact trivial) (.inl rfl) (λb' u hb hu=>(OP s.heap (Qr f) (QZ hb)).trans hu) ⟨_,q⟩ ?_
 exact⟨hz,its',_,hv,q⟩
def Inv.MG(I:Inv X bv σ H s)(hv:Vals ys its)(hz:ys.length<=ZI):
  Inv X bv σ (upd H s.heap.objs.size (.lst ys)) {s with heap:=s.heap.push {cls:=.type "list",data:=.seq its.toArray},toks:=t'}:=
 I.laid (λ_ _ q=>M8 _ q) (Nr _) ⟨hz,its,0,hv,Nn _ rfl⟩
theorem Inv.fresh(I:Inv X bv σ H s):H s.heap.objs.size=ZB:=I.hok.fresh (Nr _)
def Inv.Mc(I:Inv X bv σ H s)(hH:H l=ZA (.lst xs)):xs.length<=ZI/\∃(its:List Nf)(n:Nat),Vals xs its/\xs.length=its.length/\s.heap.get? l=ZA {cls:=.type "list",data:=.seq its.toArray n}:=by
 obtain⟨z,its,n,r,e⟩:=I.hok l _ hH;exact⟨z,its,n,r,r.length,e⟩
def wI(h:n<=ZI):P2 n=ZD:=by
 unfold P2;exact decide_eq_false (by omega)
end
def Fh:V->List V->Hp->VK->Prop:=λx vs H Q=>∃l xs y,x=.ref l/\vs=[y]/\H l=ZA (.lst xs)/\xs.length<ZI/\Q .non (upd H l (.lst (xs++[y])))
def r8:MtM X "list.append" Fh:=by
 intro bv s σ H x vs v us Q I rx rv h;obtain⟨l,xs,y,rfl,rfl,hH,hz,q⟩:=h;cases rx;obtain⟨u,rfl,ru⟩:=rv.one;obtain⟨z,its,n,r,hl,e⟩:=I.Mc hH;refine RP F.slot_list_append ⟨_,e,rfl⟩ F.entry_list_append (F.args_list_append_2 _ _) (PySem.list_append l its.toArray n u (by rw[Nz];omega)) ⟨e,?_⟩
 refine⟨.non,_,I.MR (its':=its++[u]) hH e (by simp) (r.append (.cons ru .nil)) ?_,rfl,q⟩
 rw[Nm,Pe];omega
def Fg:V->List V->Hp->VK->Prop:=λx vs H Q=>∃l b xs zs,x=.ref l/\vs=[.ref b]/\H l=ZA (.lst xs)/\H b=ZA (.lst zs)/\xs.length+zs.length<=ZI/\Q .non (upd H l (.lst (xs++zs)))
def A6:MtM X "list.extend" Fg:=by
 intro bv s σ H x vs v us Q I rx rv h;obtain⟨l,b,xs,zs,rfl,rfl,hH,hB,hz,q⟩:=h;cases rx;obtain⟨u,rfl,ru⟩:=rv.one;cases ru;obtain⟨z,its,n,r,hl,e⟩:=I.Mc hH;obtain⟨z2,its2,n2,r2,hl2,e2⟩:=I.Mc hB
 have hsz:its.toArray.size+its2.toArray.size<=ZI:=by rw[Nz,Nz];omega
 have hlong:¬ (!its.toArray.isEmpty&&P2 (its.toArray.size+its2.toArray.size))=ZC:=by
  rw[wI hsz,Bool.and_false];exact NJ
 refine RP F.slot_list_extend ⟨_,e,rfl⟩ F.entry_list_extend (F.args_list_extend_2 _ _)
  (AutoSeq1.list_extend_list_list_0 l its.toArray n b its2.toArray n2 hlong (by rw[Nz];omega) (by omega)) ⟨e,e2,?_⟩
 refine⟨.non,_,I.MR (its':=its++its2) hH e (by simp) (r.append r2) ?_,rfl,q⟩
 rw[Nm];omega
def rCat:R2:=λx y H Q=>∃l b xs zs,x=.ref l/\y=.ref b/\H l=ZA (.lst xs)/\H b=ZA (.lst zs)/\xs.length+zs.length<=ZI/\∀p,H p=ZB->Q (.ref p) (upd H p (.lst (xs++zs)))
def Jb:rJ X (Pm .Add) rCat:=by
 intro bv s σ H x y v u Q I rx ry h;obtain⟨l,b,xs,zs,rfl,rfl,hH,hB,hz,q⟩:=h;cases rx;cases ry;obtain⟨z,its,n,r,hl,e⟩:=I.Mc hH;obtain⟨z2,its2,n2,r2,hl2,e2⟩:=I.Mc hB;refine PySem.P.add_list e e2 ?_ (by rw[Nz,Nz];omega)
 have ea:its.toArray++its2.toArray=(its++its2).toArray:=by simp
 rw[ea];exact⟨.ref _,_,I.MG (t':=s.toks) (r.append r2) (by rw[Nm];omega),rfl,q _ I.fresh⟩
def rRep:R2:=λx y H Q=>∃l k xs,x=.ref l/\y=.int k/\H l=ZA (.lst xs)/\-(2 ^ 63)<=k/\k<2 ^ 63/\xs.length*k.toNat<=ZI ∧
 ∀p,H p=ZB->Q (.ref p) (upd H p (.lst (NL k.toNat xs).flatten))
def len_rep(xs:List α)(k:Nat):(NL k xs).flatten.length=k*xs.length:=by
 induction k with
 |zero=>simp
 |succ k ih=>rw[O6,P6,Nm,ih,Nat.succ_mul,U2]
def IX:rJ X (Pm .Mult) rRep:=by
 intro bv s σ H x y v u Q I rx ry h;obtain⟨l,k,xs,rfl,rfl,hH,h1,h2,hz,q⟩:=h;cases rx;obtain⟨t,rfl⟩:=ry;obtain⟨z,its,n,r,hl,e⟩:=I.Mc hH
 have hlen:its.toArray.size*k.toNat<=ZI:=by rw[Nz,<-hl];exact hz
 have hcap:¬ its.toArray.size*k.toNat > (2 ^ 63 - 1) / 8:=by
  have:(ZI:Nat)<=(2 ^ 63 - 1) / 8:=by decide
  omega
 have hfit:¬ (!Builtin.List.listFitsIndex k)=ZC:=by
  rw[fitsIndex_both h1 h2];exact NJ
 have hlong:¬ P2 (its.toArray.size*k.toNat)=ZC:=by
  rw[wI hlen];exact NJ
 have hnew:Sv (λx1 x2=>x1++x2) #[] (NL (if its.toArray.isEmpty=ZC then 0 else k.toNat) its.toArray)=(NL k.toNat its).flatten.toArray:=by
  have f0:∀m:Nat,Sv (λx1 x2=>x1++x2) #[] (NL m its.toArray)=(NL m its).flatten.toArray:=λm=>by
   have:=foldl_rep its m [];rw[OC]at this;exact this
  rw[f0]
  cases its with
  |nil=>simp
  |cons a r'=>rw[if_neg (by simp)]
 refine Sh (T:="list") (U:="int") (by decide) ⟨_,e,rfl⟩ (λs'=>TK s' k t) noFill_list_mul Vy RT repeat_list Vf.lookup
  (RP RT (TK s k t) Vg (UL _ _) (int___rmul___int_list k t l its.toArray n)
   ⟨e,rfl,⟨_,e,rfl⟩,RP F.slot_list_mul ⟨_,e,rfl⟩ F.entry_list_mul (F.args_list_mul_2 _ _) (Uk l its.toArray n k t hfit hcap hlong) ⟨e,?_⟩⟩)
 rw[hnew];exact⟨.ref _,_,I.MG (t':=s.toks) (r.rep k.toNat) (by rw[len_rep,U3];exact hz),rfl,q _ I.fresh⟩
end L2
namespace Att
open PySem PySem.W PySem.Calls PyProof.Rows
variable{P:Params}{h:ZH}
def og:∀(ns:List Int)(vs:List Nf),WellAll P h vs (ns.map WData.int)->Po vs ns:=by
 intro ns
 induction ns with
 |nil=>
  intro vs w;rw[Qv]at w;cases w
  exact .nil
 |cons n ns ih=>
  intro vs w;rw[Nd]at w
  cases w with
  |cons a b=>
   cases a;exact .cons _ _ (ih _ b)
variable{l:OpenLaw}
def AU(hn:l.most=ZA n){args:List WData}{vals:List Nf}
  (hpre:l.row.toRowW.claim.pre args=ZC) (hwl:WellAll P h vals args):
  ∃a vs ns,vals=[Nx a]/\args=[WData.list (ns.map WData.int)]/\h.get? a=ZA {cls:=.type "list",data:=.seq vs.toArray}/\Po vs ns/\ns.length<=n:=by
 have hsh:WShape.hasAll [] args [.list .int]=ZC:=(pre_splitW hpre).1
 have hc:l.pre.holds [] {args:=args}=ZC:=(pre_splitW hpre).2;obtain⟨d,r,rfl,h1,h2⟩:=hasAllW_cons hsh;obtain rfl:=hasAllW_nil h2;obtain⟨xs,rfl,h3⟩:=hasW_list h1;obtain⟨ns,rfl⟩:=items_int h3
 have hlen:ns.length<=n:=by
  unfold OpenLaw.pre at hc
  have h4:(WTm.not (.lt (.lit (.int (n:Int))) (.len (.arg 0)))).holds [] {args:=[.list (ns.map .int)]}=ZC:=by
   have h4:=(holds_andW hc).1;rw[hn]at h4;exact h4
  have h5:=condW_of h4 (w_not (w_lt w_lit (w_len_list (w_arg rfl))));rw[Nc]at h5;refine SS λq=>?_
  have q':(n:Int)<((ns.length:Nat):Int):=by omega
  first
   | (rw[decide_eq_true q']at h5;exact absurd h5 (by decide))
   | (simp at h5;omega)
 cases hwl with
 |cons w1 w2=>
  cases w2
  cases w1 with
  |list ho hall=>exact⟨_,_,ns,rfl,rfl,ho,og ns _ hall,hlen⟩
def AY(l:OpenLaw)(args:List WData):l.row.toRowW.claim.post args (.bool ZC) args=ZC:=
 postW_of (r:=l.row.toRowW) (X:=(ZC == ZC))
  (show WShape.has [] (.bool ZC) .bool=ZC by first|rfl|decide|simp[WShape.has,WShape.arms,WShape.armsAll])
  (show(WTm.eq .res (.lit (.bool ZC))).value [] {args:=args,res:=ZA (.bool ZC),after:=args}=ZA (.bool (ZC == ZC))from w_eq_bool (w_res rfl) w_lit) rfl
def attach_call{loose:List Str}{XP:(V0)->ZH->Prop}{YP:Ou->ZH->Prop}{d:DefRec}
  (hn:l.most=ZA n) (hdf:d.params.defaults=[])
  (call:∀(w:Ou)(s₀ s₁:Ng)(mg mb:V0)(fa:ZE)(o:Obj)(pm cd doc:Nf)(a:ZE)(vs:List Nf)(ns:List Int),
   Ground q loose [] XP w s₀ mg mb s₁.heap->YP w s₁.heap →
   s₁.heap.get? fa=ZA o->o.data=.func (docDef d.name d.params d.body d.scope pm cd doc)->s₁.heap.CodeRec cd d.name->mg d.name=ZA (.ref fa) →
   s₁.heap.get? a=ZA {cls:=.type "list",data:=.seq vs.toArray}->Po vs ns->ns.length<=n->s₁.gens= #[] →
   ZL (ZK l.prog w) callerA (.call (.ref fa) ⟨[.ref a],[]⟩) (λr s'=>r=.ok (.ret (.bool ZC))/\OldK s₁.heap s'.heap/\s'.os=s₁.os/\SO s'.gens) s₁):
  WalkO q loose XP YP l.row.toRowW d [] (λf vs=>PySem.call f vs):=by
 intro w s₀ s₁ mg mb G Y fa o pm cd doc dV kV ho hd hcd hD hmg hg args vals as hpre hlay hrd hwl hlo;obtain rfl:dV=.none:=Dflts.none hD hdf;obtain rfl:kV=.none:=Dflts.noKw hD;obtain⟨a,vs,ns,rfl,rfl,hobj,hints,hlen⟩:=AU hn hpre hwl;refine enter_call (Tt (call w s₀ s₁ mg mb fa o pm cd doc a vs ns G Y ho (fd_plain hd) hcd hmg hobj hints hlen hg) λr s' hq=>?_)
 obtain⟨rfl,h2,h3,h4⟩:=hq;exact⟨.inl ⟨.bool ZC,.bool ZC,[],rfl,λ_=>rfl,.bool ZC,AY l _,λ_=>⟨Sn,λ_ hm=>(nomatch hm)⟩⟩,h2,h3,h4⟩
end Att
namespace L2
open PySem PySem.Spec PyProof.Rows
theorem rK:∀{vs:List Nf}{ns:List Int},Po vs ns->Vals (ns.map V.int) vs
 |_,_,.nil=>.nil
 |_,_,.cons n t h=>.cons ⟨t,rfl⟩ (rK h)
def J2(H:Hp):Prop:=∀b,H b=ZB\/∃o xs,H b=ZA (.frz o (.lst xs))
variable{mg:V0}{sp:Sp}{x:Str}
def Dj{mb:V0}{CX:EB}{k:Nat}{fa a:ZE}{s₁:Ng}
  (KX:K.In s₁.heap) (hns:s₁.heap.Ns Ob mg) (hb:s₁.heap.Ns SA mb) (hbb:∀x:Str,x≠ "__name__"->mb x=N5 x) (hlim:s₁.heap.NoLimit) (hg:s₁.gens= #[])
  (ha:s₁.heap.get? a=ZA {cls:=.type "list",data:=.seq vs.toArray}) (hi:Po vs ns) (hl:ns.length<=ZI) (hr:Room k callerA)
  (F:∀base:ZH,K.In base->base.Ns Ob mg->vq P w K mg base CX k fa fd [x] sp) (hbind:∀(s:Ng)(u:Nf),UX s fd ⟨[u],[]⟩ [(x,u)])
  (hsp:∀H:Hp,J2 H->SqL K H a (ns.map V.int)->sp [.ref a] H (λv _=>v=.bl ZC) λ_ _ _=>False)
  (hCX:∀H e s',CX [] H s₁ (λ_ _ _=>False) e s'->False):
  ZL (ZK P w) callerA (.call (.ref fa) ⟨[.ref a],[]⟩) (λr s'=>r=.ok (.ret (.bool ZC))/\OldK s₁.heap s'.heap/\s'.os=s₁.os/\SO s'.gens) s₁:=by
 have rv:=rK hi
 have lenV:=hi.length
 have core:∀H:Hp,J2 H->SqL K H a (ns.map V.int)->HOk P w H s₁.heap->(∀b,H b≠ZB->b=a)->(H a≠ZB->K.lookup a=ZB) →
   ZL (ZK P w) callerA (.call (.ref fa) ⟨[.ref a],[]⟩) (λr s'=>r=.ok (.ret (.bool ZC))/\OldK s₁.heap s'.heap/\s'.os=s₁.os/\SO s'.gens) s₁:=by
  intro H hO hS hok hA hK
  have base_of:∀{b:ZE}{o:Obj},s₁.heap.get? b=ZA o->H b=ZB->(uU s₁.heap H).get? b=ZA o:=λe n=>DD e n
  have noA:∀{b:ZE}{o:Obj}{es:Array RB}{ep:Nat},s₁.heap.get? b=ZA o->o.data=.dict es ep->H b=ZB:=λ{b o es ep} e d=>by
   cases q:H b with
   |none=>rfl
   |some u=>
    have e':b=a:=hA b (by rw[q];simp)
    subst e';rw[ha]at e;cases e
    have d':Data.seq vs.toArray _=Data.dict es ep:=d;cases d'
  have nsK:∀{b:ZE}{m:V0},s₁.heap.Ns b m->(uU s₁.heap H).Ns b m:=λ{b m} ⟨o,es,ep,e,d,r⟩=>⟨o,es,ep,base_of e (noA e d),d,r⟩
  have hKb:K.In (uU s₁.heap H):=λb o e=>base_of (KX b o e) (by
   cases q:H b with
   |none=>rfl
   |some u=>
    have e':b=a:=hA b (by rw[q];simp)
    subst e';rw[hK (by rw[q];simp)]at e;cases e)
  have hM:Mod K mg (uU s₁.heap H):=⟨hKb,nsK hns,⟨mb,nsK hb,hbb⟩,let ⟨mc,h1,h2⟩:=hlim;⟨mc,nsK h1,h2⟩⟩
  have e0:Et P w K mg (uU s₁.heap H) callerA [] s₁ H:=⟨rfl,hM,λb o e=>F5 e,Pt (Bj _ _),trivial,λb hb=>absurd (show b∈([]:List ZE)from hb) (by simp),hok,.of_eq hg⟩
  refine Tt ((F _ hKb (nsK hns)).run callerA [] s₁ H ⟨[.ref a],[]⟩ [.ref a] [.ref a] _ _ hr e0 (hbind s₁ (.ref a)) (.cons rfl .nil) (hsp H hO hS)) λr s' h=>?_
  cases r with
  |error e=>exact(hCX H e s' h).elim
  |ok fl=>
   cases fl with
   |next=>exact QC h
   |brk=>exact QC h
   |cont=>exact QC h
   |ret u=>
    obtain⟨v,H',os,bare,un,hok',r',q⟩:=h
    have q':v=.bl ZC:=q;subst q';obtain rfl:u=OK ZC:=r';refine⟨rfl,OldK.of_keep λb o e=>?_,os,bare⟩
    cases q:H b with
    |none=>exact un.keep b o e q (by intro z;exact absurd (show b∈([]:List ZE)from z) (by simp)) (by simp)
    |some u=>
     rcases hO b with z|⟨ob,xs,z⟩
     ·rw[q]at z;cases z
     ·have z2:=un.frzs b ob _ z
      obtain⟨e1,_⟩:=hok b _ z;obtain⟨e2,_⟩:=hok' b _ z2;rw[e]at e1;cases e1;exact e2
 cases hk:K.lookup a with
 |some o=>
  have e:=KX a o hk;rw[ha]at e;cases e
  refine core (λ_=>ZB) (λ_=>.inl rfl) (.inr ⟨_,vs.toArray,_,hk,rfl,rfl,rfl,by rw[Nz,lenV];exact hl,by simpa using rv⟩) (λb u z=>by have z':(ZB:Option HO)=ZA u:=z;cases z') (λb z=>absurd rfl z) λz=>absurd rfl z
 |none=>
  refine core (λb=>if b=a then ZA (.frz {cls:=.type "list",data:=.seq vs.toArray} (.lst (ns.map V.int)))else ZB) (λb=>?_) (.inl (.inr ⟨{cls:=.type "list",data:=.seq vs.toArray},if_pos rfl⟩)) (λb u z=>?_) (λb z=>?_) λ_=>hk
  ·by_cases hb:b=a
   ·exact .inr ⟨_,_,if_pos hb⟩
   ·exact .inl (if_neg hb)
  ·by_cases hb:b=a
   ·have z':=(if_pos hb).symm.trans z
    cases z';subst hb;exact⟨ha,by rw[Nc];exact hl,vs,_,rv,ha⟩
   ·have z':=(if_neg hb).symm.trans z
    cases z'
  ·by_cases hb:b=a
   ·exact hb
   ·exact absurd (if_neg hb) z
abbrev CX0:EB:=λ_ _ _ _ _ _=>False
abbrev E0:XK:=λ_ _ _=>False
variable{X:Cx}
def Hh:zi CX0 X E0:=λ_ _ _ _ _ _ _ h=>h.elim
structure Fun (K:M9)(x qual:Str)(st:ZF)(f:ZE)(fd:Pn):Prop where
 ex:∃(oc:Nf)(od:Option ZE)(kV doc pm:Nf)(an:Option ZE)(cdv ct:Nf)(osl:Array (Option Nf)),
  fd=Rv x qual (hW st) (dJ st) (ao st) .none kV doc pm an cdv ct/\K.lookup f=ZA ⟨oc,od,.func fd,osl⟩/\T1 K cdv qual=ZC
 kp:Rt K (.ref f)=ZC
variable{f:ZE}{ps:List Str}{qual:Str}{st:ZF}
section
variable {base:ZH}
def Fun.ok{N:List Str}{k:Nat}(F:Fun K x qual st f fd)(S:aE N ps (ao st))(len:∀vs H Q E,sp vs H Q E->vs.length=ps.length)
  (hbody:∀(cdv:Nf)(A:N4)(outer:List Env)(s:Ng)(H:Hp)(vs:List V)(Q:VK)(E:XK),Room k (A.deeper (envOfC qual (ao st) s.heap.objs.size f cdv))->sp vs H Q E →
   ∃t,PSs (ni CX0 P w K mg base N qual (ao st) f cdv A outer s H E).nox (dJ st) t/\t {nx:=λ_ H'=>Q .non H',rt:=Q} (start N vs) H):vq P w K mg base CX0 (k+1) f fd ps sp:=by
 obtain⟨oc,od,kV,doc,pm,an,cdv,ct,osl,rfl,lk,hcd⟩:=F.ex;refine Lr lk hcd S len λA outer s H vs Q E hr hsp=>?_
 obtain⟨t,h,q⟩:=hbody cdv A outer s H vs Q E hr hsp;exact⟨t,h.nox,q⟩
def Fun.binds(F:Fun K x qual st f fd)
  (h:∀(kV doc pm:Nf)(an:Option ZE)(cdv ct:Nf)(us:List Nf),us.length=ps.length->bindArgs (Rv x qual (hW st) (dJ st) (ao st) .none kV doc pm an cdv ct) ⟨us,[]⟩=pure (ps.zip us)):Binds K fd ps []:=by
 obtain⟨oc,od,kV,doc,pm,an,cdv,ct,osl,rfl,lk,hcd⟩:=F.ex;exact .all (h kV doc pm an cdv ct)
def JI{oc:Nf}{od an:Option ZE}{osl:Array (Option Nf)}{kV doc pm cdv ct:Nf}(l:K.lookup f=ZA ⟨oc,od,.func (Rv x qual (hW st) (dJ st) (ao st) .none kV doc pm an cdv ct),osl⟩)
  (c:T1 K cdv qual=ZC) (k:Rt K (.ref f)=ZC):Fun K x qual st f (Rv x qual (hW st) (dJ st) (ao st) .none kV doc pm an cdv ct):=⟨⟨oc,od,kV,doc,pm,an,cdv,ct,osl,rfl,l,c⟩,k⟩
end
def pv(i:Nat){pos:Pos}(hN:X.N[i]?=ZA x:=by rfl)(hv:autoParam (vo X.env.scope x) u_)(hd:autoParam ((x == ("__debug__" : Str))=ZD) s_)
  (hcd:autoParam ((x == ("__classdict__" : Str))=ZD) s_):PE X (.Name x pos) (vK i):=jO hN hv hd hcd
def iteF{A B:Prop}(h:B):if ZD=ZC then A else B:=by
 rw[if_neg NJ];exact h
def iteT{A B:Prop}(h:A):if ZC=ZC then A else B:=by
 rw[if_pos rfl];exact h
def Same(H H':Hp):Prop:=∀b o,H b=ZA o->H' b=ZA o
def Same.refl(H:Hp):Same H H:=λ_ _ h=>h
def Same.trans{H H1 H2:Hp}(a:Same H H1)(b:Same H1 H2):Same H H2:=λc o h=>b c o (a c o h)
variable{env:Env}
theorem lL:∀(names:List (Str×QJ))(acc:List (Str×ZE)),
  (∀x,(x,Oh)∈names->∃c,env.cells.lookup x=ZA c) →
  (∀x c,acc.lookup x=ZA c->env.cells.lookup x=ZA c) →
  ∃cl,(forIn (m:=Sem) names acc (λx cs=>(if (x.2 == Oh)=ZC then do let a <-cellOf env x.1;pure (Qw ((x.1,a)::cs))else pure (Qw cs))))=pure cl ∧
   (∀x c,cl.lookup x=ZA c->env.cells.lookup x=ZA c) ∧
   (∀x,(x,Oh)∈names->∃c,cl.lookup x=ZA c)/\(∀x c,acc.lookup x=ZA c->∃c',cl.lookup x=ZA c')
 |[],acc,_,h=>⟨acc,rfl,h,λx hx=>by simp at hx,λx c e=>⟨c,e⟩⟩
 | (n,k)::r,acc,hf,h=>by
  by_cases hk:k=Oh
  ·subst hk
   obtain⟨c,hc⟩:=hf n (by simp)
   have h':∀x c',((n,c)::acc).lookup x=ZA c'->env.cells.lookup x=ZA c':=λx c' e=>by
    rw[Om]at e
    cases q:x == n with
    |true=>
     rw[q]at e
     have e2:c=c':=NZ e
     have e3:x=n:=by simpa using q
     rw[<-e2,e3];exact hc
    |false=>rw[q]at e;exact h x c' e
   obtain⟨cl,e1,e2,e3,e4⟩:=lL r ((n,c)::acc) (λx hx=>hf x (Na _ hx)) h'
   refine⟨cl,?_,e2,λx hx=>?_,λx c' e=>?_⟩
   ·rw[Pf]
    simp only[beq_self_eq_true,if_true,cellOf,hc,pure_bind];exact e1
   ·rcases Nl.mp hx with z|z
    ·have z1:x=n:=by injection z
     subst z1;exact e4 x c (by simp[Om])
    ·exact e3 x z
   ·cases q:x == n with
    |true=>exact e4 x c (by simp[Om,q])
    |false=>exact e4 x c' (by simp[Om,q,e])
  ·have hb:(k == Oh)=ZD:=by simpa using hk
   obtain⟨cl,e1,e2,e3,e4⟩:=lL r acc (λx hx=>hf x (Na _ hx)) h
   refine⟨cl,?_,e2,λx hx=>?_,e4⟩
   ·rw[Pf]
    simp only[hb,NW,if_false,pure_bind];exact e1
   ·rcases Nl.mp hx with z|z
    ·have z1:Oh=k:=by injection z
     exact absurd z1.symm hk
    ·exact e3 x z
def zd(hf:∀x,(x,Oh)∈scope.names->∃c,env.cells.lookup x=ZA c):
  ∃cl,closureFor scope env=pure cl/\(∀x c,cl.lookup x=ZA c->env.cells.lookup x=ZA c)/\(∀x,(x,Oh)∈scope.names->∃c,cl.lookup x=ZA c):=by
 obtain⟨cl,e1,e2,e3,_⟩:=lL scope.names [] hf (λx c e=>by simp at e)
 refine⟨cl,?_,e2,e3⟩
 unfold closureFor;refine Eq.trans ?_ (congrArg (λz=>z >>= pure) e1|>.trans (by simp))
 rfl
variable{tg:ZG}
def ve{pr:NH}{wd:Ou}{Ar:N4}{Rz:VL->Ng->Prop}{s0:Ng}{el it0:ZG}{cs:List ZG}{ps:Pos}{itv av:Nf}{ev:Env}(W:Nat->Ng->Prop)
  (go:∀k st,W k st->ZJ (ZK pr wd) Ar (pyNext itv) (λr s1=>match r with
   |none=>Rz (.ok .next) s1
   |some v=>ZJ (ZK pr wd) Ar (Rg tg itv v) (λ_ s2=>ZJ (ZK pr wd) Ar (assign tg ev v) (λ_ s3=>
     ZJ (ZK pr wd) Ar (forIn cs ZC λc b=>if b=ZC then do let z <-isTrue c ev (eval c ev);pure (Qw z)else pure (Qw b)) (λz s4=>
      if z=ZC then ZJ (ZK pr wd) Ar (eval el ev) (λy s5=>
       ZJ (ZK pr wd) Ar (call (.builtin "list.append") [av,y]) (λ_ s6=>∃m,m<k/\W m s6) (λ_ _=>False) s5) (λ_ _=>False) s4
      else ∃m,m<k/\W m s4) (λ_ _=>False) s3) (λ_ _=>False) s2) (λ_ _=>False) s1) (λ_ _=>False) st)
  (k:Nat) (hk:W k s0):ZL (ZK pr wd) Ar (.compLoop (.ListComp el [⟨tg,it0,cs,0⟩] sc ps) 0 itv av ev) Rz s0:=by
 refine codeAny_loop rfl W (λk st hw=>?_) k hk
 show ZJ (ZK pr wd) Ar ((compTurn (.ListComp el [⟨tg,it0,cs,0⟩] sc ps) 0 itv av ev).onRaise (λz=>do noteFrame z ev;theTreesLotGoes z)) _ _ st
 refine wpAny_noted ?_
 rw[compTurn_list]
 have no:∀{α:Type}{t:Sem α}{Q Q':α->Ng->Prop}{E':V1}{x:Ng},ZJ (ZK pr wd) Ar t Q (λ_ _=>False) x->(∀y z,Q y z->Q' y z)->ZJ (ZK pr wd) Ar t Q' E' x:=λh f=>Pl h f λ_ _ z=>z.elim
 refine M7 (wpAny_standAt (M7 (no (go k st hw) λr s1 g1=>?_)))
 cases r with
 |none=>exact Nh g1
 |some v=>
  refine M7 (no g1 λ_ s2 g2=>M7 (no g2 λ_ s3 g3=>M7 (no g3 λz s4 g4=>?_)))
  cases z with
  |false=>exact Nh (And.intro rfl g4)
  |true=>exact M7 (M7 (no g4 λy s5 g5=>M7 (no g5 λ_ s6 g6=>Nh (Nh (And.intro rfl g6)))))
noncomputable def bL(X:Cx)(scope:Q1)(cl:List (Str×ZE))(N':List Str)(C:ZE)(s₀:Ng)(H₀:Hp)(fp:List ZE):Cx:=
 {X with N:=N',s₀:=s₀,H₀:=H₀,env:=compEnvC scope cl C X.env,outer:=X.stack,stack:=X.stack,ex:=fp,fn:=λx=>scope.names.lookup x == ZA .cell,xe:=λ_ _=>False}
def gy(src:List (Option Nat))(σ:St):St:=src.map λo=>match o with
 |some i=>(σ[i]?).join
 |none=>ZB
theorem jW{env:Env}:∀{names:List (Str×QJ)}{x:Str}{k:QJ},
  (names.map λ(n,k)=>if (k == Oh&&env.scope.kind == .function&&env.kindOf n == ZA .cell)then(n,OY)else(n,k)).lookup x=ZA k →
  ∃k',names.lookup x=ZA k'/\(k=k'\/k'=.free)
 |[],_,_,h=>by simp at h
 | (n,k0)::r,x,k,h=>by
  have ih:=@jW env r x k
  have h':Q0 x ((if (k0 == Oh&&env.scope.kind == .function&&env.kindOf n == ZA .cell)=ZC then(n,OY)else(n,k0))::(r.map λ(n,k)=>if (k == Oh&&env.scope.kind == .function&&env.kindOf n == ZA .cell)then(n,OY)else(n,k)))=ZA k:=h
  by_cases hc:(k0 == Oh&&env.scope.kind == .function&&env.kindOf n == ZA .cell)=ZC
  ·rw[if_pos hc]at h'
   rw[Om]at h' ⊢
   cases hx:x == n with
   |true=>
    refine⟨k0,rfl,.inr ?_⟩
    have:=Pq.mp hc|>.1
    have:=Pq.mp this|>.1
    simpa using this
   |false=>rw[hx]at h';exact ih h'
  ·rw[if_neg hc]at h'
   rw[Om]at h' ⊢
   cases hx:x == n with
   |true=>rw[hx]at h';exact⟨k0,rfl,.inl (NZ h').symm⟩
   |false=>rw[hx]at h';exact ih h'
def kB{names:List (Str×QJ)}{k:QJ}(h:names.lookup x=ZA k):(x,k)∈names:=Pz h
theorem jz{env:Env}:∀{names:List (Str×QJ)}{x:Str},names.lookup x=ZA .free →
  (names.map λ(n,k)=>if (k == Oh&&env.scope.kind == .function&&env.kindOf n == ZA .cell)then(n,OY)else(n,k)).lookup x=ZA .cell ∨
  (names.map λ(n,k)=>if (k == Oh&&env.scope.kind == .function&&env.kindOf n == ZA .cell)then(n,OY)else(n,k)).lookup x=ZA .free
 |[],_,h=>by simp at h
 | (n,k0)::r,x,h=>by
  have ih:=@jz env r x
  show Q0 x ((if (k0 == Oh&&env.scope.kind == .function&&env.kindOf n == ZA .cell)=ZC then(n,OY)else(n,k0))::_)=_\/Q0 x ((if (k0 == Oh&&env.scope.kind == .function&&env.kindOf n == ZA .cell)=ZC then(n,OY)else(n,k0))::_)=_
  rw[Om]at h
  by_cases hc:(k0 == Oh&&env.scope.kind == .function&&env.kindOf n == ZA .cell)=ZC
  ·rw[if_pos hc]
   rw[Om]
   cases hx:x == n with
   |true=>exact .inl rfl
   |false=>rw[hx]at h;exact ih h
  ·rw[if_neg hc]
   rw[Om]
   cases hx:x == n with
   |true=>rw[hx]at h;exact .inr h
   |false=>rw[hx]at h;exact ih h
variable{N':List Str}{elt iter:ZG}{g:TG}{ifs:List ZG}{tc:TT}{te:TE}{wi:TI}
structure LcScope (X:Cx)(scope:Q1)(N':List Str)(src:List (Option Nat)):Prop where
 kind:scope.kind=.function
 cel:∀y∈scope.names,y.2=.cell->scope.names.lookup y.1=ZA .cell
 loc:∀y∈scope.names,y.2=.local->scope.names.lookup y.1=ZA .local
 len:src.length=N'.length
 from_:∀(j i:Nat)(x:Str),src[j]?=ZA (ZA i)->N'[j]?=ZA x->X.N[i]?=ZA x/\scope.names.lookup x=ZA .free
 free:∀x,(x,Oh)∈scope.names->X.env.kindOf x=ZA .cell\/X.env.kindOf x=ZA .free
def HI(K:M9)(wi:TI)(src:List (Option Nat))(g:TG)(tc:TT)(te:TE):TE:=λσ H Q=>wi σ H λJ H1=>∀D,H1 D=ZB->K.lookup D=ZB →
 ∃W:Nat->Nat->St->List V->Hp->Prop,(∃m,W 0 m (gy src σ) [] (upd H1 D (.lst [])))/\∀i m σ ys H,W i m σ ys H->H D=ZA (.lst ys) ∧
  ((J.stop i H/\Q (.ref D) H)\/(J.go i H/\ys.length<ZI/\∀x H',J.yld i H x H'->g x σ H' λσ2 H2=>tc σ2 H2 λb H3=>
   if b=ZC then te σ2 H3 λv H4=>H4 D=ZA (.lst ys)/\∃m',m'<m/\W (i+1) m' σ2 (ys++[v]) (upd H4 D (.lst (ys++[v])))else ∃m',m'<m/\W (i+1) m' σ2 ys H3))
def AF(X:Cx)(ifs:List ZG)(t:TT):Prop:=
 ∀(bv:V2)(s:Ng)(σ:St)(H:Hp)(Q:Bool->Hp->Prop),Inv X bv σ H s->t σ H Q →
  ZJ (ZK X.prog X.w) X.A (forIn ifs ZC λc r=>if r=ZC then do let ok <-isTrue c X.env (eval c X.env);pure (Qw ok)else pure (Qw r)) (TP X bv σ Q) X.xe s
def vL:TT:=λ_ H Q=>Q ZC H
def tZ:AF X [] vL:=λ_ _ _ H _ I h=>wpAny_tests_nil ⟨H,I,h⟩
def FO{c:ZG}{t:TT}(h:PT X c t):AF X [c] t:=λbv s σ H Q I q=>wpAny_tests_one (h bv s σ H Q I q)
theorem nj:∀(names:List (Str×QJ))(h:ZH)(acc:List (Str×ZE)),(∀x y c,acc.lookup x=ZA c->acc.lookup y=ZA c->x=y)->(∀x c,acc.lookup x=ZA c->c<h.objs.size) →
  (∀x c,(Qq h.objs.size names acc).lookup x=ZA c->acc.lookup x=ZA c\/(h.objs.size<=c/\(Tv h names).IsCell c ZB)) ∧
  (∀x y c,(Qq h.objs.size names acc).lookup x=ZA c->(Qq h.objs.size names acc).lookup y=ZA c->x=y) ∧
  (∀x,(x,OY)∉names->(Qq h.objs.size names acc).lookup x=acc.lookup x) ∧
  (∀x,((x,OY)∈names\/∃c,acc.lookup x=ZA c)->∃c,(Qq h.objs.size names acc).lookup x=ZA c) ∧
  (∀x c,(x,OY)∈names->(Qq h.objs.size names acc).lookup x=ZA c->h.objs.size<=c)
 |[],h,acc,hi,_=>⟨λ_ _ e=>.inl e,hi,λ_ _=>rfl,λx e=>e.elim (λz=>absurd z N8) id,λ_ _ z=>absurd z N8⟩
 | (n,k)::r,h,acc,hi,hl=>by
  unfold Qq Tv
  by_cases hk:k=.cell
  ·subst hk
   rw[if_pos (by rfl),if_pos (by rfl)]
   have hz:(h.push {cls:=.type "cell",data:=.cell ZB}).objs.size=h.objs.size+1:=NY ..
   have lk:∀x,((n,h.objs.size)::acc).lookup x=if x=n then ZA h.objs.size else acc.lookup x:=λx=>by
    rw[Om]
    by_cases e:x=n
    ·rw[if_pos e,beq_iff_eq.mpr e]
    ·rw[if_neg e,beq_eq_false_iff_ne.mpr e]
   obtain⟨c1,c2,c3,c4,c5⟩:=nj r (h.push {cls:=.type "cell",data:=.cell ZB}) ((n,h.objs.size)::acc) (λx y c e1 e2=>by
     rw[lk]at e1 e2
     by_cases q1:x=n
     ·by_cases q2:y=n
      ·rw[q1,q2]
      ·rw[if_pos q1]at e1;rw[if_neg q2]at e2
       cases e1;exact absurd (hl _ _ e2) (NK _)
     ·rw[if_neg q1]at e1
      by_cases q2:y=n
      ·rw[if_pos q2]at e2
       cases e2;exact absurd (hl _ _ e1) (NK _)
      ·rw[if_neg q2]at e2;exact hi x y c e1 e2) (λx c e=>by
     rw[lk]at e;rw[hz]
     by_cases q:x=n
     ·rw[if_pos q]at e;cases e;exact SU _
     ·rw[if_neg q]at e;exact P7 (hl x c e))
   rw[hz]at c1 c2 c3 c4 c5;refine⟨λx c e=>?_,c2,λx hx=>?_,λx hx=>?_,λx c hx e=>?_⟩
   ·rcases c1 x c e with z|z
    ·rw[lk]at z
     by_cases q:x=n
     ·rw[if_pos q]at z;cases z
      exact .inr ⟨Nr _,_,Tw r _ _ _ (Nn _ rfl),rfl⟩
     ·rw[if_neg q]at z;exact .inl z
    ·exact .inr ⟨QD z.1,z.2⟩
   ·rw[c3 x λz=>hx (Na _ z),lk,if_neg λz=>hx (by rw[z];exact Nb)]
   ·refine c4 x ?_
    rcases hx with hx|hx
    ·rcases Nl.mp hx with z|z
     ·cases z
      exact .inr ⟨_,by rw[lk,if_pos rfl]⟩
     ·exact .inl z
    ·by_cases q:x=n
     ·exact .inr ⟨_,by rw[lk,if_pos q]⟩
     ·exact .inr (by rw[lk,if_neg q];exact hx)
   ·rcases Nl.mp hx with z|z
    ·have q:x=n:=(Vv z).1
     rcases c1 x c e with y|y
     ·rw[lk,if_pos q]at y;cases y;exact Nr _
     ·exact QD y.1
    ·exact QD (c5 x c z e)
  ·have hb:¬ (k == OY)=ZC:=λz=>hk (by simpa using z)
   rw[if_neg hb,if_neg hb];obtain⟨c1,c2,c3,c4,c5⟩:=nj r h acc hi hl;exact⟨c1,c2,λx hx=>c3 x λz=>hx (Na _ z),λx hx=>c4 x (hx.imp (λz=>(Nl.mp z).resolve_left λz=>hk (Vv z).2.symm) id),λx c hx=>c5 x c ((Nl.mp hx).resolve_left λz=>hk (Vv z).2.symm)⟩
def A4{M:Model}{globals:ZE}{cl:List (Str×ZE)}{Q:Env->Ng->Prop}
  (q:Q (newEnv scope s.heap.objs.size globals (Qq (s.heap.objs.size+1) scope.names cl) qual ZB .none (ZA env) SA) {s with heap:=Tv (s.heap.push {cls:=.type "dict",data:=.dict #[]}) scope.names}):
  ZJ M A (newFunctionEnv scope globals cl [] qual ZB .none (ZA env)) Q E s:=by
 simp only[newFunctionEnv,Ul,if_true];refine M7 (wpAny_alloc (M7 (wpAny_layCells _ (λname kind cells=>by cases hkc:kind == OY <;> simp[hkc]) _ _ _ _ ?_)))
 rw[show({s with heap:=s.heap.push {cls:=.type "dict",data:=.dict #[]}}:Ng).heap.objs.size=s.heap.objs.size+1 from NY ..]
 rw[PV];exact M7 (Nh (Nh q))
def Aa{pos fpos:Pos}{src:List (Option Nat)}{use:Option (Nf->Sem Unit)}{Qf:V1}
  {bv:V2}  {σ:St} {H:Hp} {Q:VK}
  (hc:X.calm=ZC) (S:LcScope X scope N' src) (hi:PI X tg iter wi)
  (block:∀cl C s₀ H₀ fp,PG (bL X scope cl N' C s₀ H₀ fp) tg g/\AF (bL X scope cl N' C s₀ H₀ fp) ifs tc/\PE (bL X scope cl N' C s₀ H₀ fp) elt te)
  (hs:∀x,N7 iter X.env x=pure x) (I:Inv X bv σ H s) (h:HI X.K wi src g tc te σ H Q)
  (hend:∀(D C:ZE)(H':Hp)(s':Ng),(∃m,s'.heap.Ns C m)->(∀h',Qu C s'.heap h'->Inv X bv σ H' {s' with heap:=h'})->(H' C=ZB/\C≠X.env.locals/\X.s₀.heap.objs.size<=C/\(∀x c,X.env.cells.lookup x=ZA c->c≠C)/\∀p∈X.pn++bv,p.1≠C)->Q (.ref D) H' →
   compPost (ZK X.prog X.w) X.A X.xe use Qf (.ref D) C (.ok .next) s'):
  ZJ (ZK X.prog X.w) X.A (UD (.ListComp elt [⟨tg,iter,ifs,0⟩] scope pos) scope X.env fpos (newList []) ZD (eval iter X.env) use) Qf X.xe s:=by
 have hcell:∀x,(x,Oh)∈scope.names->∃c,X.env.cells.lookup x=ZA c:=λx hx=>I.ok.has x (S.free x hx)
 obtain⟨cl0,hcl,cl01,cl02⟩:=zd (env:=X.env) (scope:=scope) hcell;refine wpAny_comprehension_free (use:=use) rfl hs hcl S.kind S.loc (cz (hi bv s σ H _ I h) λv s1 h1=>cz h1 λitv s2 h2=>?_)
 obtain⟨it,fp,tn,J,H2,e,I2,T,st2,f2,hq⟩:=h2;subst e
 refine Ox ?_
 have hD:H2 s2.heap.objs.size=ZB:=I2.hok.fresh (Nr _)
 have hDK:X.K.lookup s2.heap.objs.size=ZB:=by
  cases q:X.K.lookup s2.heap.objs.size with
  |none=>rfl
  |some o=>exact absurd (Np (I2.kIn _ o q)) (NK _)
 obtain⟨W,⟨m0,w0⟩,turn⟩:=hq s2.heap.objs.size hD hDK
 have I3:=I2.MG (its:=[]) (ys:=[]) (t':=s2.toks) .nil (OF _)
 generalize hs3:({s2 with heap:=s2.heap.push {cls:=.type "list",data:=.seq ([]:List Nf).toArray},toks:=s2.toks}:Ng)=s3 at I3
 generalize hH3:upd H2 s2.heap.objs.size (.lst [])=H3 at I3 w0
 have hDsz:s2.heap.objs.size<s3.heap.objs.size:=by rw[<-hs3];simp[NY]
 have fr3:∀b∈fp,H3 b=ZB:=λb hb=>by
  obtain⟨o,eo,_⟩:=T.obj _ _ st2 b hb;rw[<-hH3,aG (Oa (Np eo))];exact(f2 b hb).1
 have st3:tn 0 s3.heap:=T.keep _ _ _ st2 λb hb o e=>by rw[<-hs3];exact M8 _ e
 have f3:∀b∈fp,mK X bv H3 b:=λb hb=>⟨fr3 b hb,(f2 b hb).2⟩
 have D3:H3 s2.heap.objs.size=ZA (.lst []):=by rw[<-hH3];exact aI
 generalize s2.heap.objs.size=D at*
 clear hs3 hH3 hD hDK
 refine A4 ?_
 have old:∀b o,s3.heap.get? b=ZA o->(Tv (s3.heap.push {cls:=.type "dict",data:=.dict #[]}) scope.names).get? b=ZA o:=λb o e=>Tw _ _ b o (M8 _ e)
 have hns₁:(Tv (s3.heap.push {cls:=.type "dict",data:=.dict #[]}) scope.names).Ns s3.heap.objs.size (λ_=>ZB):=(Heap.Ns.new s3.heap (.type "dict")).keeps (Tw _ _)
 have hz3:(s3.heap.push {cls:=.type "dict",data:=.dict #[]}).objs.size=s3.heap.objs.size+1:=NY ..
 have lt0:∀x c,cl0.lookup x=ZA c->c<s3.heap.objs.size:=λx c e=>let ⟨_,ic⟩:=I3.cell x c (cl01 x c e);ic.lt
 obtain⟨c1,c2,c3,c4,c5⟩:=nj scope.names (s3.heap.push {cls:=.type "dict",data:=.dict #[]}) cl0 (λx y c e1 e2=>I3.ok.inj x y c (cl01 x c e1) (cl01 y c e2)) λx c e=>by rw[hz3];exact P7 (lt0 x c e)
 rw[hz3]at c1 c2 c3 c4 c5
 generalize hcl':Qq (s3.heap.objs.size+1) scope.names cl0=cl at*
 generalize hh₁:Tv (s3.heap.push {cls:=.type "dict",data:=.dict #[]}) scope.names=h₁ at*
 have below:∀b o,s3.heap.get? b=ZA o->b≠s3.heap.objs.size:=λb o e=>Oa (Np e)
 have cl1:∀x c,cl.lookup x=ZA c->X.env.cells.lookup x=ZA c\/(s3.heap.objs.size<c/\h₁.IsCell c ZB):=λx c e=>(c1 x c e).imp (cl01 x c) id
 generalize hC:s3.heap.objs.size=C at*
 have stk:∀b,b≠X.env.locals->b∉X.fs->b∉uW X.stack:=λb h1 h2 z=>(Nl.mp (I3.Mj b z)).elim h1 h2
 have apart:∀b∈fp,∀x c,cl.lookup x=ZA c->c≠b:=λb hb x c e=>by
  rcases cl1 x c e with z|z
  ·exact(f3 b hb).2.2.2.2.1 x c z
  ·obtain⟨o,eo,_⟩:=T.obj _ _ st3 b hb
   have h1:=Np eo;rw[hC]at h1;exact Qd (S8 h1 z.1)
 have I4:Inv (bL X scope cl N' C s3 H3 fp) bv (gy src σ) H3 {s3 with heap:=h₁}:=by
  refine⟨⟨I3.ok.mod,S.kind,I3.ok.glob,I3.ok.blt,Pt hC,c2,λx hx=>?_,λx c hx e=>OV (hC▸c5 x c (kB (beq_iff_eq.mp hx)) e),I3.ok.hd,I3.ok.frames,.inl rfl,
    λb hb=>⟨?_,λx c e=>apart b hb x c e⟩,I3.bs,NV I3.ok.bsz I3.sz,λb o e z=>?_,λb hb=>stk b (f3 b hb).2.1 (f3 b hb).2.2.1,I3.stack,I3.Me⟩,
   rfl,I3.bare,Un.kept old,⟨_,hns₁,λj x v e1 e2 e3=>?_⟩,λx c e=>?_,I3.hok.fresh (Pt hC),λx c e=>(cl1 x c e).elim (I3.freeC x c) λz=>I3.hok.fresh (by rw[hC];exact OV z.1),λp hp=>?_,I3.hok.kept old,?_⟩
  ·have key:∀k,(relabel scope X.env).names.lookup x=ZA k->(k=.cell\/k=.free)->∃c,cl.lookup x=ZA c:=λk e hk=>by
    obtain⟨k',e',z⟩:=jW e
    have hk':k'=.cell\/k'=.free:=z.elim (λz=>z▸hk) .inr
    rcases hk' with q|q
    ·exact c4 x (.inl (q▸kB e'))
    ·exact c4 x (.inr (cl02 x (q▸kB e')))
   rcases hx with hx|hx
   ·exact key _ hx (.inl rfl)
   ·exact key _ hx (.inr rfl)
  ·obtain⟨o,eo,_⟩:=T.obj _ _ st3 b hb
   show b≠C
   exact below b o eo
  ·have z':b∈fp:=z
   obtain⟨_,_,_,z1,_⟩:=f3 b z';rcases z1 with z1|z1
   ·exact I3.ok.noex b o e z1
   ·exact absurd (Nq (Np (I3.ok.bs b o e).1) z1) (NK _)
  ·unfold gy at e2
   rw[NC]at e2
   cases q:src[j]? with
   |none=>rw[q]at e2;simp at e2
   |some o=>
    rw[q]at e2
    cases o with
    |none=>simp at e2
    |some i=>
     have e2':(σ[i]?).join=ZA v:=by simpa using e2
     have e2'':σ[i]?=ZA (ZA v):=by
      cases q2:σ[i]? with
      |none=>rw[q2]at e2';simp at e2'
      |some z=>rw[q2]at e2';simp at e2';rw[e2']
     obtain⟨hN,hfree⟩:=S.from_ j i x q e1
     have hm:=kB hfree
     have hk:=S.free x hm;obtain⟨m,hn,hl⟩:=I3.loc
     have hv:vo X.env.scope x:=by
      rcases hk with z|z
      ·exact .inr (.inl z)
      ·exact .inr (.inr z)
     obtain⟨u,r,l⟩:=hl i x v hN e2'' hv;refine⟨u,r,.inr ⟨?_,?_⟩⟩
     ·exact jz hfree
     ·rcases l with⟨z,_⟩|⟨_,c,ec,ic⟩
      ·rcases hk with z'|z' <;> rw[z']at z <;> cases z
      ·obtain⟨c',ec0⟩:=cl02 x hm
       have ec':cl.lookup x=ZA c':=(c3 x λz=>by have:=S.cel _ z rfl;rw[hfree]at this;cases this).trans ec0
       have:=cl01 x c' ec0;rw[ec]at this;cases this;obtain⟨o,ho,hd⟩:=ic;exact⟨c,ec',o,old _ _ ho,hd⟩
  ·rcases cl1 x c e with z|z
   ·obtain⟨v,o,ho,hd⟩:=I3.cell x c z
    exact⟨v,o,old _ _ ho,hd⟩
   ·exact⟨ZB,z.2⟩
  ·obtain⟨e,n,ne,nf,d⟩:=I3.pin p hp
   exact⟨old _ _ e,n,below _ _ e,stk _ ne nf,d⟩
  ·show(gy src σ).length=N'.length
   unfold gy;rw[Nc];exact S.len
 obtain⟨bG,bI,bE⟩:=block cl C s3 H3 fp
 have stat:∀{H':Hp},(∀b∈fp,H' b=ZB)->∀b∈fp,mK (bL X scope cl N' C s3 H3 fp) bv H' b:=λhn b hb=>by
  obtain⟨o,eo,_⟩:=T.obj _ _ st3 b hb;exact⟨hn b hb,below b o eo,stk b (f3 b hb).2.1 (f3 b hb).2.2.1,.inl hb,apart b hb,(f3 b hb).2.2.2.2.2⟩
 have st4:tn 0 h₁:=T.keep _ _ _ st3 λb hb o e=>old b o e
 have after:∀(H':Hp)(s':Ng)(σ':St),Inv (bL X scope cl N' C s3 H3 fp) bv σ' H' s'->Q (.ref D) H' →
   compPost (ZK X.prog X.w) X.A X.xe use Qf (.ref D) C (.ok .next) s':=λH' s' σ' I' q=>by
  obtain⟨m,hn,_⟩:=id I'.loc
  have fC:X.s₀.heap.objs.size<=C:=by rw[<-hC];exact I3.sz
  have ltC:∀b o,s3.heap.get? b=ZA o->b<C:=λb o e=>by rw[<-hC];exact Np e
  refine hend D C H' s' ⟨m,hn⟩ (λh' hsb=>?_) ⟨I'.free,?_,fC,λx c e z=>?_,λp hp z=>?_⟩ q
  rotate_left
  ·have:=I3.lt;rw[hC]at this;exact Qd this
  ·obtain⟨v,ic⟩:=I3.cell x c e
   have:=ic.lt;rw[hC,z]at this;exact NK _ this
  ·have:=ltC _ _ (I3.pin p hp).1;rw[z]at this;exact NK _ this
  have u:Un (uW X.stack) fp H3 H' s3.heap s'.heap:=I'.base
  have lift:∀b o,s3.heap.get? b=ZA o->∀o',s'.heap.get? b=ZA o'->h'.get? b=ZA o':=λb o e o' e'=>hsb.extBut b o' (below b o e) e'
  have u':Un (uW X.stack) fp H3 H' s3.heap h':=
   ⟨λb o e n hb hx=>lift b o e o (u.keep b o e n hb hx),λb o e n hb hx=>by
     obtain⟨sl,z⟩:=u.slot b o e n hb hx;exact⟨sl,lift b o e _ z⟩,u.free,λb o e hx=>by
     obtain⟨o',z⟩:=u.there b o e hx;exact⟨o',lift b o e _ z⟩,u.tups,u.frzs,u.tbls⟩
  have hCn:H' C=ZB:=I'.free
  have hok':HOk X.prog X.w H' h':=λb ob e=>by
   refine(I'.hok b ob e).L8 (λc w' hc' q'=>(hsb.2 c ?_).trans q') (λ_ q=>q) λ_ _ q=>q
   rintro rfl
   rcases hc' with rfl|hc'
   ·rw[hCn]at e;cases e
   ·rw[hCn]at hc';cases hc'
  have I5:Inv X bv σ H' {s' with heap:=h'}:=I3.My (s':={s' with heap:=h'}) (ch:=fp) I'.os u' hok' I'.bare λb hb=>⟨(f3 b hb).2.2.2.1,(f3 b hb).2.1,(f3 b hb).2.2.2.2.1,(f3 b hb).2.2.2.2.2⟩
  exact I5
 have loop:ZL (ZK X.prog X.w) X.A (.compLoop (.ListComp elt [⟨tg,iter,ifs,0⟩] scope pos) 0 (.ref it) (.ref D) (compEnvC scope cl C X.env))
   (compPost (ZK X.prog X.w) X.A X.xe use Qf (.ref D) C) {s3 with heap:=h₁}:=by
  refine ve (λn s'=>∃i σ' ys H',Inv (bL X scope cl N' C s3 H3 fp) bv σ' H' s'/\tn i s'.heap/\(∀b∈fp,H' b=ZB)/\W i n σ' ys H') ?_ m0 ⟨0,_,[],H3,I4,st4,fr3,w0⟩
  rintro n s5 ⟨i,σ5,ys,H5,I5,st5,fr5,w5⟩
  obtain⟨hDl,alt⟩:=turn i n σ5 ys H5 w5;rcases alt with⟨stop,qn⟩|⟨go,hlen,step⟩
  ·refine cz (T.done (bL X scope cl N' C s3 H3 fp) rfl rfl rfl hc i bv s5 σ5 H5 _ I5 (stat fr5) st5 stop) λr s6 ⟨hr,I6⟩=>?_
   subst hr;exact after H5 s6 σ5 I6 qn
  ·refine cz (T.item (bL X scope cl N' C s3 H3 fp) rfl rfl rfl hc i bv s5 σ5 H5 _ I5 (stat fr5) st5 go) λr s6 ⟨u,hr,h6⟩=>?_
   subst hr;refine cz h6 λ_ s7 hh_=>?_
   obtain⟨x,H7,I7,r7,y7,st7,fr7⟩:=hh_
   have I7':=I7.pinned (stat fr7) (T.obj _ _ st7);refine cz (bG _ s7 σ5 H7 x u _ I7' r7 (step x H7 y7)) λ_ s8 hh_=>?_
   obtain⟨σ8,H8,I8,q8⟩:=hh_;refine cz (bI _ s8 σ8 H8 _ I8 q8) λok s9 hh_=>?_
   obtain⟨H9,I9,q9⟩:=hh_
   have again:∀{σx:St}{Hx:Hp}{sx:Ng}{ys':List V},Inv (bL X scope cl N' C s3 H3 fp) (bv++pq fp s7.heap) σx Hx sx->(∃m',m'<n/\W (i+1) m' σx ys' Hx) →
     ∃m,m<n/\∃i σ' ys H',Inv (bL X scope cl N' C s3 H3 fp) bv σ' H' sx/\tn i sx.heap/\(∀b∈fp,H' b=ZB)/\W i m σ' ys H':=λ{σx Hx sx ys'} Ix nx=>by
    obtain⟨m',hm,wx⟩:=nx;refine⟨m',hm,i+1,σx,ys',Hx,Ix.L5,T.keep _ _ _ st7 λb hb o e=>(Ix.pin (b,o) (NM _ (NM _ (i6 hb e)))).1,λb hb=>?_,wx⟩
    obtain⟨o,e,d⟩:=T.obj _ _ st7 b hb;exact(Ix.pin (b,o) (NM _ (NM _ (i6 hb e)))).2.1
   cases ok with
   |false=>
    rw[if_neg NJ]at q9 ⊢
    exact again I9 q9
   |true=>
    rw[if_pos rfl]at q9 ⊢;refine cz (bE _ s9 σ8 H9 _ I9 q9) λv s10 hh_=>?_
    obtain⟨y,H10,I10,r10,hD10,q10⟩:=hh_;refine cz (r8 _ s10 σ8 H10 (.ref D) [y] (.ref D) [v] (λ_ H'=>H'=upd H10 D (.lst (ys++[y]))) I10 rfl (.cons r10 .nil) ⟨D,ys,y,rfl,rfl,hD10,hlen,rfl⟩) λ_ s11 hh_=>?_
    obtain⟨_,H11,I11,_,e11⟩:=hh_;subst e11;exact again I11 q10
 exact codeAny_compStart_list loop (T.self _ 0 _ _ _ st4 loop)
def wu{pos:Pos}{src:List (Option Nat)}
  (hc:X.calm=ZC) (S:LcScope X scope N' src) (hi:PI X tg iter wi)
  (block:∀cl C s₀ H₀ fp,PG (bL X scope cl N' C s₀ H₀ fp) tg g/\AF (bL X scope cl N' C s₀ H₀ fp) ifs tc/\PE (bL X scope cl N' C s₀ H₀ fp) elt te)
  (hs:autoParam (∀x,N7 iter X.env x=pure x) t_):
  PE X (.ListComp elt [⟨tg,iter,ifs,0⟩] scope pos) (HI X.K wi src g tc te):=by
 intro bv s σ H Q I h;rw[eval_ListComp];exact Aa (use:=ZB) hc S hi block hs I h λD C H' s' ⟨m,hn⟩ inv _ q=>⟨m,hn,λh' hsb=>⟨.ref D,H',inv h' hsb,rfl,q⟩⟩
def He{pos py spos:Pos}{src:List (Option Nat)}{i:Nat}{y:Str}
  (hc:X.calm=ZC) (S:LcScope X scope N' src) (hi:PI X tg iter wi)
  (block:∀cl C s₀ H₀ fp,PG (bL X scope cl N' C s₀ H₀ fp) tg g/\AF (bL X scope cl N' C s₀ H₀ fp) ifs tc/\PE (bL X scope cl N' C s₀ H₀ fp) elt te)
  (hN:X.N.Nodup) (hiy:X.N[i]?=ZA y) (hy:Loc X.env.scope y) (hsw:Ov (.ListComp elt [⟨tg,iter,ifs,0⟩] scope pos) (ZA (.Name y py)) spos.line X.env=pure ZC)
  (hf:X.fn y=ZC\/X.env.scope.names.lookup y=ZA .local) (hs:autoParam (∀x,N7 iter X.env x=pure x) t_):
  PS X (.Assign [.Name y py] (.ListComp elt [⟨tg,iter,ifs,0⟩] scope pos) spos) (B3 (HI X.K wi src g tc te) (DE i)):=by
 intro bv s σ H D I h;rw[exec_Assign_Name_used _ _ _ _ hsw];refine M7 (wpAny_standAt (M7 ?_))
 show ZJ (ZK X.prog X.w) X.A (do let _ <-UD (.ListComp elt [⟨tg,iter,ifs,0⟩] scope pos) scope X.env _ (newList []) ZD (eval iter X.env) (ZA (assign (.Name y py) X.env))) _ _ s
 refine M7 (cz (Aa (use:=ZA (assign (.Name y py) X.env)) (Qf:=λ_ s'=>SP X bv D .next s') (Q:=λv H'=>D.nx (σ.set i (ZA v)) H') hc S hi block hs I h λL C H' s' ⟨m,hn⟩ inv ⟨c0,c1,c2,c3,c4⟩ q=>?_) λ_ s' hq=>Nh (Nh hq))
 have I0:Inv X bv σ H' s':=inv s'.heap (UK ..)
 show ZJ (ZK X.prog X.w) X.A (assign (.Name y py) X.env (.ref L)) _ _ s'
 refine UW (rM I0 hN hiy hy (v:=.ref L) rfl (λs2 I2 ⟨b,sb,hb⟩=>?_) hf)
 have hbC:C≠b:=by
  rcases hb with z|z
  ·rw[z];exact c1
  ·exact λw=>c3 y b z w.symm
 refine⟨m,hn.sameBut sb hbC,λh' hsb=>?_⟩
 exact⟨_,H',I2.turned (t':=s2.toks) (λb' o hb' e=>(hsb.2 b' hb').trans e) c0 c1 (.inr c2) c3 c4,q⟩
end L2
namespace Tr
open PySem PySem.Spec PyProof.Rows L2
def JX(K:M9)(c:Str):ZE:=match Q3 K Ob c with
 |some (ZA (.ref C))=>C
 |_=>0
def Hk:T->Option Key
 |.int i=>ZA (.inl i)
 |.str x=>ZA (.inr x)
 |_=>ZB
noncomputable def lI:List T->Option (List Key)
 |[] =>ZA []
 |t::l=>match Hk t,lI l with
  |some k,ZA r=>ZA (k::r)
  |_,_=>ZB
def keyOf:T->Option (List Key)
 |.tup l=>lI l
 |_=>ZB
inductive Rs (α:Type) where
 |ok (a:α)|err (c:Str)|bad
noncomputable def Rs.bind{α β:Type}(x:Rs α)(f:α->Rs β):Rs β:=match x with
 |.ok a=>f a
 |.err c=>.err c
 |.bad=>.bad
noncomputable instance:Monad Rs where
 pure:=Rs.ok
 bind:=Rs.bind
@[simp] theorem aF {α β:Type} (a:α) (f:α->Rs β):(Rs.ok a >>= f)=f a:=rfl
@[simp] theorem LU {α:Type} (a:α):(pure a:Rs α)=Rs.ok a:=rfl
@[simp] theorem Lz {α β:Type} (f:α->Rs β):((Rs.bad:Rs α) >>= f)=.bad:=rfl
@[simp] theorem Lu {α β:Type} (c:Str) (f:α->Rs β):((Rs.err c:Rs α) >>= f)=.err c:=rfl
abbrev Ow:=ZE->Prop
mutual
def Rep(K:M9)(O:Ow)(H:Hp):T->V->Prop
 |.non,v=>v=.non
 |.bl b,v=>v=.bl b
 |.int i,v=>v=.int i
 |.str x,v=>v=.str x
 |.tup l,v=>∃a vs,v=.ref a/\¬ O a/\H a=ZA (.tup vs)/\Reps K O H l vs
 |.lst l,v=>∃a vs,v=.ref a/\¬ O a/\H a=ZA (.lst vs)/\Reps K O H l vs
 |.scr l,v=>∃a,v=.ref a/\¬ O a/\SqL K H a (l.map V.int)
 |.dct ks ts,v=>∃a kvs,v=.ref a/\¬ O a/\Rd H a (.dT kvs)/\ks.map keyOf=kvs.map (λp=>ZA p.1)/\Reps K O H ts (kvs.map (·.2))
 |.ob C ns ts,v=>∃a dx fs,v=.ref a/\¬ O a/\H a=ZA (.ins (JX K C) dx fs)/\fs.map (·.1)=ns/\Reps K O H ts (fs.map (·.2))
def Reps(K:M9)(O:Ow)(H:Hp):List T->List V->Prop
 |[],vs=>vs=[]
 |t::r,vs=>∃v ws,vs=v::ws/\Rep K O H t v/\Reps K O H r ws
end
def SameO(P:Ow)(H H':Hp):Prop:=∀b o,H b=ZA o->¬ P b->H' b=ZA o
variable{H H':Hp}{P:Ow}
def SameO.of(h:Same H H'):SameO P H H':=λb o e _=>h b o e
variable{a:ZE}
def Rd.MC{u:HO}(h:SameO P H H')(n:¬ P a)(q:Rd H a u):Rd H' a u:=q.elim (λe=>.inl (h _ _ e n)) λ⟨o,e⟩=>.inr ⟨o,h _ _ e n⟩
variable{vs:List V}
def SqL.keep(h:SameO P H H')(n:¬ P a)(q:SqL K H a vs):SqL K H' a vs:=by
 rcases q with(q|⟨o,q⟩)|q
 ·exact .inl (.inl (h _ _ q n))
 ·exact .inl (.inr ⟨o,h _ _ q n⟩)
 ·exact .inr q
mutual
theorem Rep.keep{K:M9}{O P:Ow}{H H':Hp}(h:SameO P H H')(sub:∀a,P a->O a):∀{t:T}{v:V},Rep K O H t v->Rep K O H' t v
 |.non,_,r=>by unfold Rep at r ⊢;exact r
 |.bl _,_,r=>by unfold Rep at r ⊢;exact r
 |.int _,_,r=>by unfold Rep at r ⊢;exact r
 |.str _,_,r=>by unfold Rep at r ⊢;exact r
 |.tup l,_,r=>by
  unfold Rep at r ⊢;obtain⟨a,vs,e,n,q,z⟩:=r
  exact⟨a,vs,e,n,h _ _ q (λp=>n (sub a p)),Reps.keep h sub z⟩
 |.lst l,_,r=>by
  unfold Rep at r ⊢;obtain⟨a,vs,e,n,q,z⟩:=r
  exact⟨a,vs,e,n,h _ _ q (λp=>n (sub a p)),Reps.keep h sub z⟩
 |.scr l,_,r=>by
  unfold Rep at r ⊢;obtain⟨a,e,n,q⟩:=r
  exact⟨a,e,n,SqL.keep h (λp=>n (sub a p)) q⟩
 |.dct ks ts,_,r=>by
  unfold Rep at r ⊢;obtain⟨a,kvs,e,n,q,k,z⟩:=r
  exact⟨a,kvs,e,n,Rd.MC h (λp=>n (sub a p)) q,k,Reps.keep h sub z⟩
 |.ob C ns ts,_,r=>by
  unfold Rep at r ⊢;obtain⟨a,dx,fs,e,n,q,k,z⟩:=r;exact⟨a,dx,fs,e,n,h _ _ q (λp=>n (sub a p)),k,Reps.keep h sub z⟩
theorem Reps.keep{K:M9}{O P:Ow}{H H':Hp}(h:SameO P H H')(sub:∀a,P a->O a):∀{l:List T}{vs:List V},Reps K O H l vs->Reps K O H' l vs
 |[],_,r=>by unfold Reps at r ⊢;exact r
 |t::l,_,r=>by
  unfold Reps at r ⊢;obtain⟨v,ws,e,p,q⟩:=r;exact⟨v,ws,e,Rep.keep h sub p,Reps.keep h sub q⟩
end
mutual
theorem Rep.less{K:M9}{O O':Ow}{H:Hp}(sub:∀a,O' a->O a):∀{t:T}{v:V},Rep K O H t v->Rep K O' H t v
 |.non,_,r=>by unfold Rep at r ⊢;exact r
 |.bl _,_,r=>by unfold Rep at r ⊢;exact r
 |.int _,_,r=>by unfold Rep at r ⊢;exact r
 |.str _,_,r=>by unfold Rep at r ⊢;exact r
 |.tup l,_,r=>by
  unfold Rep at r ⊢;obtain⟨a,vs,e,n,q,z⟩:=r
  exact⟨a,vs,e,λp=>n (sub a p),q,Reps.less sub z⟩
 |.lst l,_,r=>by
  unfold Rep at r ⊢;obtain⟨a,vs,e,n,q,z⟩:=r
  exact⟨a,vs,e,λp=>n (sub a p),q,Reps.less sub z⟩
 |.scr l,_,r=>by
  unfold Rep at r ⊢;obtain⟨a,e,n,z⟩:=r
  exact⟨a,e,λp=>n (sub a p),z⟩
 |.dct ks ts,_,r=>by
  unfold Rep at r ⊢;obtain⟨a,kvs,e,n,q,k,z⟩:=r
  exact⟨a,kvs,e,λp=>n (sub a p),q,k,Reps.less sub z⟩
 |.ob C ns ts,_,r=>by
  unfold Rep at r ⊢;obtain⟨a,dx,fs,e,n,q,k,z⟩:=r;exact⟨a,dx,fs,e,λp=>n (sub a p),q,k,Reps.less sub z⟩
theorem Reps.less{K:M9}{O O':Ow}{H:Hp}(sub:∀a,O' a->O a):∀{l:List T}{vs:List V},Reps K O H l vs->Reps K O' H l vs
 |[],_,r=>by unfold Reps at r ⊢;exact r
 |t::l,_,r=>by
  unfold Reps at r ⊢;obtain⟨v,ws,e,p,q⟩:=r;exact⟨v,ws,e,Rep.less sub p,Reps.less sub q⟩
end
variable{O:Ow}{l ts:List T}{v:V}
section
variable {t:T}
def Rep.same(h:Same H H')(r:Rep K O H t v):Rep K O H' t v:=Rep.keep (P:=λ_=>False) (SameO.of h) (λ_ z=>z.elim) r
def Reps.same(h:Same H H')(r:Reps K O H l vs):Reps K O H' l vs:=Reps.keep (P:=λ_=>False) (SameO.of h) (λ_ z=>z.elim) r
def Rep.Mv:Rep K O H .non .non:=by unfold Rep;rfl
def Rep.bl_(b:Bool):Rep K O H (.bl b) (.bl b):=by unfold Rep;rfl
def Rep.GE(i:Int):Rep K O H (.int i) (.int i):=by unfold Rep;rfl
def Rep.Mu(x:Str):Rep K O H (.str x) (.str x):=by unfold Rep;rfl
def Rep.Do:Rep K O H (.tup l) v↔ ∃a vs,v=.ref a/\¬ O a/\H a=ZA (.tup vs)/\Reps K O H l vs:=by unfold Rep;exact Ro
def Rep.Fk:Rep K O H (.lst l) v↔ ∃a vs,v=.ref a/\¬ O a/\H a=ZA (.lst vs)/\Reps K O H l vs:=by unfold Rep;exact Ro
def Rep.Gc{ks:List T}:Rep K O H (.dct ks ts) v↔ ∃a kvs,v=.ref a/\¬ O a/\Rd H a (.dT kvs)/\ks.map keyOf=kvs.map (λp=>ZA p.1)/\Reps K O H ts (kvs.map (·.2)):=by unfold Rep;exact Ro
def Rep.Mq{C:Str}{ns:List Str}:Rep K O H (.ob C ns ts) v↔ ∃a dx fs,v=.ref a/\¬ O a/\H a=ZA (.ins (JX K C) dx fs)/\fs.map (·.1)=ns/\Reps K O H ts (fs.map (·.2)):=by unfold Rep;exact Ro
def Rep.Da:Rep K O H (.int i) v↔v=.int i:=by unfold Rep;exact Ro
def Rep.FB:Rep K O H (.bl b) v↔v=.bl b:=by unfold Rep;exact Ro
def Rep.GM{b:Str}:Rep K O H (.str b) v↔v=.str b:=by unfold Rep;exact Ro
def Rep.KM:Rep K O H .non v↔v=.non:=by unfold Rep;exact Ro
def Reps.nil_:Reps K O H [] []:=by unfold Reps;rfl
def Reps.FM(r:Rep K O H t v)(q:Reps K O H l vs):Reps K O H (t::l) (v::vs):=by unfold Reps;exact⟨v,vs,rfl,r,q⟩
def Reps.AC:Reps K O H [] vs↔vs=[]:=by unfold Reps;exact Ro
def Reps.me:Reps K O H (t::l) vs↔ ∃v ws,vs=v::ws/\Rep K O H t v/\Reps K O H l ws:=by
 constructor
 ·intro h;unfold Reps at h;exact h
 ·intro h;unfold Reps;exact h
end
theorem Reps.length:∀{l:List T}{vs:List V},Reps K O H l vs->l.length=vs.length
 |[],vs,r=>by rw[Reps.AC.mp r];rfl
 |t::l,vs,r=>by
  obtain⟨v,ws,rfl,_,q⟩:=Reps.me.mp r;simp[q.length]
theorem Reps.get:∀{l:List T}{vs:List V}{i:Nat}{t:T},Reps K O H l vs->l[i]?=ZA t->∃v,vs[i]?=ZA v/\Rep K O H t v
 |[],_,_,_,_,e=>by simp at e
 |t::l,vs,i,u,r,e=>by
  obtain⟨v,ws,rfl,p,q⟩:=Reps.me.mp r
  cases i with
  |zero=>simp at e;subst e;exact⟨v,rfl,p⟩
  |succ i=>
   obtain⟨z,e1,e2⟩:=q.get (i:=i) (t:=u) (by simpa using e)
   exact⟨z,by simpa using e1,e2⟩
theorem Reps.append:∀{l m:List T}{vs ws:List V},Reps K O H l vs->Reps K O H m ws->Reps K O H (l++m) (vs++ws)
 |[],_,vs,_,r,s=>by rw[Reps.AC.mp r];exact s
 |t::l,m,vs,ws,r,s=>by
  obtain⟨v,us,rfl,p,q⟩:=Reps.me.mp r;exact Reps.FM p (q.append s)
theorem Reps.take:∀{l:List T}{vs:List V}(n:Nat),Reps K O H l vs->Reps K O H (l.take n) (vs.take n)
 |_,_,0,_=>Reps.nil_
 |[],vs,n+1,r=>by rw[Reps.AC.mp r];exact Reps.nil_
 |t::l,vs,n+1,r=>by
  obtain⟨v,us,rfl,p,q⟩:=Reps.me.mp r;exact Reps.FM p (q.take n)
theorem Reps.drop:∀{l:List T}{vs:List V}(n:Nat),Reps K O H l vs->Reps K O H (l.drop n) (vs.drop n)
 |_,_,0,r=>r
 |[],vs,n+1,r=>by rw[Reps.AC.mp r];exact Reps.nil_
 |t::l,vs,n+1,r=>by
  obtain⟨v,us,rfl,p,q⟩:=Reps.me.mp r;exact q.drop n
theorem Reps.ints:∀{ns:List Int},Reps K O H (ns.map T.int) (ns.map V.int)
 |[] =>Reps.nil_
 |n::r=>Reps.FM (Rep.GE n) Reps.ints
def RowsR(K:M9)(O:Ow)(H:Hp):List (List T×List T)->List ZE->Prop
 |[],as=>as=[]
 |r::rs,as=>∃b bs kvs,as=b::bs/\H b=ZA (.dT kvs)/\r.1.map keyOf=kvs.map (λp=>ZA p.1)/\Reps K O H r.2 (kvs.map (·.2))/\RowsR K O H rs bs
def LsR(K:M9)(O:Ow)(H:Hp):List (List T)->List ZE->Prop
 |[],as=>as=[]
 |l::ls,as=>∃b bs vs,as=b::bs/\H b=ZA (.lst vs)/\Reps K O H l vs/\LsR K O H ls bs
def ORep(K:M9)(O M:Ow)(H:Hp):OT->V->Prop
 |.lst l,v=>∃a vs,v=.ref a/\(∀b,M b↔b=a)/\H a=ZA (.lst vs)/\Reps K O H l vs
 |.dct ks ts,v=>∃a kvs,v=.ref a/\(∀b,M b↔b=a)/\H a=ZA (.dT kvs)/\ks.map keyOf=kvs.map (λp=>ZA p.1)/\Reps K O H ts (kvs.map (·.2))
 |.dd ks rows,v=>∃a kvs as,v=.ref a/\(∀b,M b↔b=a\/b∈as)/\a∉as/\as.Nodup/\H a=ZA (.dT kvs)/\ks.map keyOf=kvs.map (λp=>ZA p.1)/\kvs.map (·.2)=as.map V.ref/\RowsR K O H rows as
 |.ob C ns ls,v=>∃a dx as,v=.ref a/\(∀b,M b↔b=a\/b=dx\/b∈as)/\(a∉as/\dx∉as/\dx≠a/\as.Nodup)/\H a=ZA (.ins (JX K C) dx (ns.zip (as.map V.ref)))/\H dx=ZA (.own a)/\ns.length=as.length/\ns.Nodup/\LsR K O H ls as
inductive Sl where
 |em|va (t:T)|ow (o:OT)
abbrev En:=List Sl
abbrev V6:=En->Rs Bool
abbrev V5:=En->Rs T
abbrev V3:=En->Rs (List T)
abbrev Mn:=Nat->Ow
def Mn.u(M:Mn):Ow:=λa=>∃i,M i a
def isO:HO->Bool
 |.ins _ _ _=>ZC
 |.own _=>ZC
 |_=>ZD
def Mtb(H:Hp)(a:ZE):Prop:=(∃vs,H a=ZA (.lst vs))\/(∃kvs,H a=ZA (.dT kvs))\/∃o,H a=ZA o/\isO o=ZC
def Mtb.some(h:Mtb H a):∃o,H a=ZA o:=by
 rcases h with⟨_,e⟩|⟨_,e⟩|⟨_,e,_⟩ <;> exact⟨_,e⟩
def Mtb.at(s:∀o,H a=Of o->H' a=Of o)(h:Mtb H a):Mtb H' a:=by
 rcases h with⟨vs,e⟩|⟨k,e⟩|⟨o,e,q⟩
 ·exact .inl ⟨vs,s _ e⟩
 ·exact .inr (.inl ⟨k,s _ e⟩)
 ·exact .inr (.inr ⟨o,s _ e,q⟩)
def Mtb.same(s:Same H H')(h:Mtb H a):Mtb H' a:=h.at λo e=>s a o e
structure EnvM (K:M9)(O:Ow)(M:Mn)(H:Hp)(Z:En)(σ:L2.St):Prop where
 len:Z.length=σ.length
 val:∀(i:Nat)(t:T),Z[i]?=ZA (.va t)->∃v,σ[i]?=ZA (ZA v)/\Rep K O H t v
 own:∀(i:Nat)(o:OT),Z[i]?=ZA (.ow o)->∃v,σ[i]?=ZA (ZA v)/\ORep K O (M i) H o v
 sub:∀(i:Nat)(a:ZE),M i a->O a
 dis:∀(i j:Nat)(a:ZE),M i a->M j a->i=j
 trk:∀(a:ZE),O a->Mtb H a
theorem RowsR.same(h:Same H H'):∀{rs:List (List T×List T)}{as:List ZE},RowsR K O H rs as->RowsR K O H' rs as
 |[],_,r=>r
 |_::_,_,⟨b,bs,kvs,e1,e2,e3,e4,e5⟩=>⟨b,bs,kvs,e1,h _ _ e2,e3,e4.same h,e5.same h⟩
theorem LsR.same(h:Same H H'):∀{ls:List (List T)}{as:List ZE},LsR K O H ls as->LsR K O H' ls as
 |[],_,r=>r
 |_::_,_,⟨b,bs,vs,e1,e2,e3,e4⟩=>⟨b,bs,vs,e1,h _ _ e2,e3.same h,e4.same h⟩
theorem ORep.same{M:Ow}(h:Same H H'){o:OT}(r:ORep K O M H o v):ORep K O M H' o v:=by
 cases o with
 |lst l=>obtain⟨a,vs,e1,e2,e3,e4⟩:=r;exact⟨a,vs,e1,e2,h _ _ e3,e4.same h⟩
 |dct ks ts=>obtain⟨a,kvs,e1,e2,e3,e4,e5⟩:=r;exact⟨a,kvs,e1,e2,h _ _ e3,e4,e5.same h⟩
 |dd ks rows=>obtain⟨a,kvs,as,e1,e2,e3,e4,e5,e6,e7,e8⟩:=r;exact⟨a,kvs,as,e1,e2,e3,e4,h _ _ e5,e6,e7,e8.same h⟩
 |ob C ns ls=>obtain⟨a,dx,as,e1,e2,e3,e4,e5,e6,e7,e8⟩:=r;exact⟨a,dx,as,e1,e2,e3,h _ _ e4,h _ _ e5,e6,e7,e8.same h⟩
variable{Z:En}{σ:L2.St}
theorem EnvM.same{M:Mn}(h:Same H H')(e:EnvM K O M H Z σ):EnvM K O M H' Z σ where
 len:=e.len
 val:=λi t q=>let ⟨v,e1,e2⟩:=e.val i t q;⟨v,e1,e2.same h⟩
 own:=λi o q=>let ⟨v,e1,e2⟩:=e.own i o q;⟨v,e1,e2.same h⟩
 sub:=e.sub
 dis:=e.dis
 trk:=λa q=>(e.trk a q).same h
def EnvO(K:M9)(O:Ow)(H:Hp)(Z:En)(σ:L2.St):Prop:=∃M,EnvM K O M H Z σ
variable{p:ZE}
theorem EnvO.val(e:EnvO K O H Z σ)(i:Nat)(t:T)(q:Z[i]?=ZA (.va t)):∃v,σ[i]?=ZA (ZA v)/\Rep K O H t v:=e.elim λ_ e=>e.val i t q
def EnvO.mtb(e:EnvO K O H Z σ):∀a,O a->Mtb H a:=e.elim λ_ e=>e.trk
def EnvO.trk(e:EnvO K O H Z σ)(a:ZE)(z:O a):∃o,H a=ZA o:=(e.mtb a z).some
theorem EnvO.same(h:Same H H')(e:EnvO K O H Z σ):EnvO K O H' Z σ:=e.elim λM e=>⟨M,e.same h⟩
def EnvO.fresh(e:EnvO K O H Z σ)(h:H p=ZB):¬ O p:=λz=>by
 obtain⟨o,q⟩:=e.trk p z;rw[h]at q;cases q
def L4(h:ZH)(C e:ZE):Option ZE->Prop
 |none=>∃oe vs,h.get? e=ZA oe/\oe.cls=.ref C/\oe.data=.fields vs/\vs[1]?=ZA .none
 |some T=>T≠e/\∃oe vs,h.get? e=ZA oe/\oe.cls=.ref C/\oe.data=.fields vs/\vs[1]?=ZA (.ref T)/\∃oT ts,h.get? T=ZA oT/\oT.data=.fields ts/\ts[3]?=ZA .none
def RzP(X:Cx)(bv:V2)(P:Ow)(H:Hp)(c:Str)(ev:Nf)(s':Ng):Prop:=
 ∃e T C σ' H',ev=.ref e/\X.mg c=ZA (.ref C)/\Inv X bv σ' H' s'/\SameO P H H'/\H' e=ZB/\(X.ex=[]->X.s₀.heap.get? e=ZB)/\L4 s'.heap C e T/\(∀t,T=ZA t->H' t=ZB/\(X.ex=[]->X.s₀.heap.get? t=ZB))/\∀p∈X.pn++bv,p.1≠e/\T≠ZA p.1
def Nw(K:M9)(H:Hp):Ow:=λa=>H a=ZB/\K.lookup a=ZB
variable{H1:Hp}
def i5(h:SameO P H H1)(n:Nw K H1 a):P a\/Nw K H a:=by
 by_cases hp:P a
 ·exact .inl hp
 ·refine .inr ⟨?_,n.2⟩
  cases q:H a with
  |none=>rfl
  |some o=>have:=h a o q hp;rw[n.1]at this;cases this
def SameO.trans{P1:Ow}{H2:Hp}(h:SameO P H H1)(h1:SameO P1 H1 H2)(sub:∀a,P1 a->P a\/Nw K H a):SameO P H H2:=λb o e n=>
 h1 b o (h b o e n) λz=>(sub b z).elim n λw=>by rw[w.1]at e;cases e
def XA(X:Cx)(P:Ow)(H:Hp)(c:Str):Prop:=∀bv ev s',RzP X bv P H c ev s'->X.xe ev s'
variable{X:Cx}
def XA.later{P1:Ow}{c:Str}(h:XA X P H c)(s:SameO P H H1)(sub:∀a,P1 a->P a\/Nw X.K H a):XA X P1 H1 c:=λbv ev s' ⟨e,T,C,σ',H',a1,a2,a3,a4,a5⟩=>
 h bv ev s' ⟨e,T,C,σ',H',a1,a2,a3,s.trans a4 sub,a5⟩
abbrev yF:Ow:=λ_=>False
def Post{α:Type}(X:Cx)(H:Hp)(r:Rs α)(k:α->Hp->Prop):Prop:=match r with
 |.ok t=>∀H',Same H H'->k t H'
 |.err c=>XA X yF H c
 |.bad=>False
def Post.mono{r:Rs α}{k k':α->Hp->Prop}(h:Post X H r k)(f:∀t H',Same H H'->k t H'->k' t H'):Post X H r k':=by
 cases r with
 |ok t=>exact λH' s=>f t H' s (h H' s)
 |err c=>exact h
 |bad=>exact h
theorem Post.later{r:Rs α}{k:α->Hp->Prop}(h:Post X H r k)(s:Same H H1):Post X H1 r k:=by
 cases r with
 |ok t=>exact λH' s'=>h H' (s.trans s')
 |err c=>exact XA.later h (SameO.of s) λ_ z=>z.elim
 |bad=>exact h
def Post.bind{r:Rs α}{f:α->Rs β}{k:β->Hp->Prop}(h:Post X H (r >>= f) k):Post X H r λt H'=>Post X H' (f t) k:=by
 cases r with
 |ok t=>exact λH' s=>Post.later h s
 |err c=>exact h
 |bad=>exact h
def tP(X:Cx)(f:V5):TE:=λσ H Q=>∃Z O,EnvO X.K O H Z σ/\Post X H (f Z) λt H'=>∀v,Rep X.K O H' t v->Q v H'
def tPA(X:Cx)(f:V3):TA:=λσ H Q=>∃Z O,EnvO X.K O H Z σ/\Post X H (f Z) λt H'=>∀v,Reps X.K O H' t v->Q v H'
def zy(X:Cx)(f:V6):TT:=λσ H Q=>∃Z O,EnvO X.K O H Z σ/\Post X H (f Z) λb H'=>Q b H'
abbrev cJ(X:Cx)(e:ZG)(f:V5):Prop:=PE X e (tP X f)
abbrev sW(X:Cx)(e:List ZG)(f:V3):Prop:=PA X e (tPA X f)
abbrev xS(X:Cx)(e:ZG)(f:V6):Prop:=PT X e (zy X f)
variable{e:ZG}
def PE.imp{t t':TE}(h:PE X e t)(w:∀σ H Q,t' σ H Q->t σ H Q):PE X e t':=λbv s σ H Q I q=>h bv s σ H Q I (w σ H Q q)
def PA.imp{e:List ZG}{t t':TA}(h:PA X e t)(w:∀σ H Q,t' σ H Q->t σ H Q):PA X e t':=λpos bv s σ H Q I q=>h pos bv s σ H Q I (w σ H Q q)
def PT.imp{t t':TT}(h:PT X e t)(w:∀σ H Q,t' σ H Q->t σ H Q):PT X e t':=λbv s σ H Q I q=>h bv s σ H Q I (w σ H Q q)
def PS.imp{e:ZF}{t t':TS}(h:PS X e t)(w:∀D σ H,t' D σ H->t D σ H):PS X e t':=λbv s σ H D I q=>h bv s σ H D I (w D σ H q)
def PSs.imp{e:List ZF}{t t':TS}(h:PSs X e t)(w:∀D σ H,t' D σ H->t D σ H):PSs X e t':=λbv s σ H D I q=>h bv s σ H D I (w D σ H q)
variable{es:List ZG}{f:V3}{x:Str}
def bf{f:V5}{k:T->Rs α}{Q:α->Hp->Prop}(E:EnvO X.K O H Z σ)(h:Post X H (f Z >>= k) Q):
  tP X f σ H λv H'=>∃t,Rep X.K O H' t v/\Same H H'/\EnvO X.K O H' Z σ/\Post X H' (k t) Q:=
 ⟨Z,O,E,Post.mono h.bind λt H' s q v r=>⟨t,r,s,E.same s,q⟩⟩
def fh{k:List T->Rs α}{Q:α->Hp->Prop}(E:EnvO X.K O H Z σ)(h:Post X H (f Z >>= k) Q):
  tPA X f σ H λv H'=>∃t,Reps X.K O H' t v/\Same H H'/\EnvO X.K O H' Z σ/\Post X H' (k t) Q:=
 ⟨Z,O,E,Post.mono h.bind λt H' s q v r=>⟨t,r,s,E.same s,q⟩⟩
def lQ{f:V6}{k:Bool->Rs α}{Q:α->Hp->Prop}(E:EnvO X.K O H Z σ)(h:Post X H (f Z >>= k) Q):
  zy X f σ H λb H'=>Same H H'/\EnvO X.K O H' Z σ/\Post X H' (k b) Q:=
 ⟨Z,O,E,Post.mono h.bind λt H' s q=>⟨s,E.same s,q⟩⟩
noncomputable def vr(i:Nat)(Z:En):Rs T:=match Z[i]? with
 |some (.va t)=>.ok t
 |_=>.bad
def cn(t:T)(_:En):Rs T:=.ok t
def KA(i:Nat){pos:Pos}(hN:X.N[i]?=ZA x:=by rfl)(hv:autoParam (vo X.env.scope x) u_)(hd:autoParam ((x == ("__debug__" : Str))=ZD) s_)
  (hcd:autoParam ((x == ("__classdict__" : Str))=ZD) s_):cJ X (.Name x pos) (vr i):=PE.imp (jO hN hv hd hcd) λσ H Q hh_=>by
 obtain⟨Z,O,E,h⟩:=hh_;unfold vr at h
 split at h
 ·rename_i t e
  obtain⟨v,e1,e2⟩:=E.val i t e;exact⟨v,e1,h H (Same.refl H) v e2⟩
 ·exact h.elim
def KO{i j pos}:cJ X (.Constant (.int i) j pos) (cn (.int i)):=PE.imp IS λσ H Q ⟨Z,O,E,h⟩=>h H (Same.refl H) _ (Rep.GE i)
def q_bl{i j pos}:cJ X (.Constant (.bool i) j pos) (cn (.bl i)):=PE.imp K0 λσ H Q ⟨Z,O,E,h⟩=>h H (Same.refl H) _ (Rep.bl_ i)
def KI{j pos}:cJ X (.Constant .none j pos) (cn .non):=PE.imp CH λσ H Q ⟨Z,O,E,h⟩=>h H (Same.refl H) _ Rep.Mv
def KD{i j pos}:cJ X (.Constant (.str i) j pos) (cn (.str i)):=PE.imp i0 λσ H Q ⟨Z,O,E,h⟩=>h H (Same.refl H) _ (Rep.Mu i)
def Iw{u:Nf}{pos:Pos}(hm:X.mg x=ZA u)(r:RelV (.int i) u)(hg:Gl X x:=by rfl)(hd:autoParam ((x == ("__debug__" : Str))=ZD) s_):cJ X (.Name x pos) (cn (.int i)):=
 PE.imp (FX hg hm r hd) λσ H Q ⟨Z,O,E,h⟩=>h H (Same.refl H) _ (Rep.GE i)
def ai(_:En):Rs (List T):=.ok []
def af(f:V5)(g:V3)(Z:En):Rs (List T):=do
 let t <-f Z
 let r <-g Z
 .ok (t::r)
def Iu:sW X [] ai:=PA.imp jP λσ H Q ⟨Z,O,E,h⟩=>h H (Same.refl H) _ Reps.nil_
def FA{f:V5}{g:V3}(he:cJ X e f)(hr:sW X es g)(hs:NF (e::es) X.env=(ZD,eval e X.env)::NF es X.env:=by rfl):sW X (e::es) (af f g):=by
 intro pos bv s σ H Q I h;obtain⟨Z,O,E,h⟩:=h;refine ft he hr hs pos bv s σ H Q I ?_
 obtain⟨Z1,O1,E1,h1⟩:=bf E h;refine⟨Z1,O1,E1,Post.mono h1 λt H' s q v r=>?_⟩
 obtain⟨t',r',s',E',q'⟩:=q v r;refine⟨Z,O,E',Post.mono q'.bind λts H2 s2 q2 vs rs=>?_⟩
 exact q2 H2 (Same.refl H2) _ (Reps.FM (r'.same s2) rs)
variable{g:T->T->Rs T}{op:CmpOp}
section
def lb(l:List T):Rs T:=if l.length<=ZI then .ok (.tup l)else .bad
def lg(l:List T):Rs T:=if l.length<=ZI then .ok (.lst l)else .bad
def bA(f:V3)(Z:En):Rs T:=f Z >>= lb
def dF(f:V3)(Z:En):Rs T:=f Z >>= lg
def aV(h:H p=ZB)(o:HO):Same H (upd H p o):=λb u q=>by rw[aG (cA q h)];exact q
def iI(h:H p=ZB)(n:¬ O p)(r:Reps K O H l vs):Rep K O (upd H p (.tup vs)) (.tup l) (.ref p):=
 Rep.Do.mpr ⟨p,vs,rfl,n,aI,r.same (aV h _)⟩
def jN(h:H p=ZB)(n:¬ O p)(r:Reps K O H l vs):Rep K O (upd H p (.lst vs)) (.lst l) (.ref p):=
 Rep.Fk.mpr ⟨p,vs,rfl,n,aI,r.same (aV h _)⟩
def KC{pos:Pos}(h:sW X es f):cJ X (.Tuple es x1 pos) (bA f):=by
 intro bv s σ H Q I ⟨Z,O,E,hq⟩;refine yu h bv s σ H Q I ?_
 obtain⟨Z1,O1,E1,h1⟩:=fh E hq;refine⟨Z1,O1,E1,Post.mono h1 λts H1 s1 q vs r=>?_⟩
 obtain⟨t',r',s',E',q'⟩:=q vs r;unfold lb at q'
 split at q'
 ·rename_i hz
  refine⟨by rw[<-r'.length];exact hz,λp hp=>?_⟩
  exact q' _ (aV hp _) _ (iI hp (E'.fresh hp) r')
 ·exact q'.elim
def KL{pos:Pos}(h:sW X es f):cJ X (.List es pos) (dF f):=by
 intro bv s σ H Q I ⟨Z,O,E,hq⟩;refine IQ h bv s σ H Q I ?_
 obtain⟨Z1,O1,E1,h1⟩:=fh E hq;refine⟨Z1,O1,E1,Post.mono h1 λts H1 s1 q vs r=>?_⟩
 obtain⟨t',r',s',E',q'⟩:=q vs r;unfold lg at q'
 split at q'
 ·rename_i hz
  refine⟨by rw[<-r'.length];exact hz,λp hp=>?_⟩
  exact q' _ (aV hp _) _ (jN hp (E'.fresh hp) r')
 ·exact q'.elim
def OpT(X:Cx)(f:Nf->Nf->Sem Nf)(g:T->T->Rs T):Prop:=
 ∀(bv:V2)(s:Ng)(σ:L2.St)(H:Hp)(O:Ow)(x y:T)(vx vy:V)(ux uy:Nf)(Q:VK),Inv X bv σ H s->(∀p,H p=ZB->¬ O p)->Rep X.K O H x vx->Rep X.K O H y vy->RelV vx ux->RelV vy uy →
  Post X H (g x y) (λt H'=>∀v,Rep X.K O H' t v->Q v H')->ZJ (ZK X.prog X.w) X.A (f ux uy) (EP X bv σ Q) X.xe s
def o2(g:T->T->Rs T)(fa fb:V5)(Z:En):Rs T:=do
 let x <-fa Z
 let y <-fb Z
 g x y
variable {a b c:ZG}{fa fb fc:V5}{pos:Pos}
def KR{op:Operator}(ho:OpT X (Pm op) g)(ha:cJ X a fa)(hb:cJ X b fb):cJ X (.BinOp a op b pos) (o2 g fa fb):=by
 intro bv s σ H Q I ⟨Z,O,E,hq⟩
 have h1:=bf E hq;refine wpAny_BinOp (cz (ha bv s σ H _ I h1) λv s1 hh_=>?_)
 obtain⟨x,H1,I1,r1,t,rt,s',E',q1⟩:=hh_
 have h2:=bf (f:=fb) E' q1;refine cz (hb bv s1 σ H1 _ I1 h2) λu s2 hh_=>?_
 obtain⟨y,H2,I2,r2,t2,rt2,s'',E'',q2⟩:=hh_;exact ho bv s2 σ H2 O t t2 x y v u Q I2 (λp=>E''.fresh) (rt.same s'') rt2 r1 r2 q2
def KQ(ho:OpT X (Og op) g)(ha:cJ X a fa)(hb:cJ X b fb)(hm:QL op b=ZD:=by rfl):cJ X (.Compare a [op] [b] pos) (o2 g fa fb):=by
 intro bv s σ H Q I ⟨Z,O,E,hq⟩
 have h1:=bf E hq;refine wpAny_Compare1 (cz (ha bv s σ H _ I h1) λv s1 ⟨x,H1,I1,r1,t,rt,s',E',q1⟩=>?_) hm
 have h2:=bf (f:=fb) E' q1;refine cz (hb bv s1 σ H1 _ I1 h2) λu s2 hh_=>?_
 obtain⟨y,H2,I2,r2,t2,rt2,s'',E'',q2⟩:=hh_;exact ho bv s2 σ H2 O t t2 x y v u Q I2 (λp=>E''.fresh) (rt.same s'') rt2 r1 r2 q2
def OpT.of{f:Nf->Nf->Sem Nf}{r:R2}(h:rJ X f r)
  (w:∀(H:Hp)(O:Ow)(x y:T)(vx vy:V)(Q:VK),(∀p,H p=ZB->¬ O p)->Rep X.K O H x vx->Rep X.K O H y vy->Post X H (g x y) (λt H'=>∀v,Rep X.K O H' t v->Q v H')->r vx vy H Q):OpT X f g:=
 λbv s σ H O x y vx vy ux uy Q I hf rx ry r1 r2 hp=>h bv s σ H vx vy ux uy Q I r1 r2 (w H O x y vx vy Q hf rx ry hp)
def cX:T->T->Rs T
 |.int i,.int j=>.ok (.int (i - j))
 |_,_=>.bad
def dD:OpT X (Pm .Sub) cX:=OpT.of IW λH O x y vx vy Q hf rx ry hp=>by
 unfold cX at hp
 split at hp
 ·exact⟨_,_,Rep.Da.mp rx,Rep.Da.mp ry,hp H (Same.refl H) _ (Rep.GE _)⟩
 ·exact hp.elim
noncomputable def mC:T->T->Rs T
 |.int i,.int j=>if 0<j/\j<1073741824 then .ok (.int (i / j))else .bad
 |_,_=>.bad
noncomputable def ml:T->T->Rs T
 |.int i,.int j=>if 0<j then .ok (.int (i % j))else .bad
 |_,_=>.bad
def oq:OpT X (Pm .FloorDiv) mC:=OpT.of F2 λH O x y vx vy Q hf rx ry hp=>by
 unfold mC at hp
 split at hp
 ·split at hp
  ·rename_i h
   exact⟨_,_,Rep.Da.mp rx,Rep.Da.mp ry,h,hp H (Same.refl H) _ (Rep.GE _)⟩
  ·exact hp.elim
 ·exact hp.elim
def lC:OpT X (Pm .Mod) ml:=OpT.of IZ λH O x y vx vy Q hf rx ry hp=>by
 unfold ml at hp
 split at hp
 ·split at hp
  ·rename_i h
   exact⟨_,_,Rep.Da.mp rx,Rep.Da.mp ry,h,hp H (Same.refl H) _ (Rep.GE _)⟩
  ·exact hp.elim
 ·exact hp.elim
def CQ:rJ X (Pm .Add) (λx y H Q=>∃a b ys,x=.ref a/\y=.ref b/\SqT X.K H a []/\SqT X.K H b ys/\Q (.ref b) H):=by
 intro bv s σ H x y v u Q I rx ry h;obtain⟨a,b,ys,rfl,rfl,ha,hb,q⟩:=h;cases rx;cases ry;obtain⟨its,r1,p1,_⟩:=I.tuple ha;obtain⟨its2,r2,p2,_⟩:=I.tuple hb;obtain⟨⟨cls,dd,data,sl⟩,ho,hc,n,hd⟩:=id p1;obtain⟨⟨cls2,dd2,data2,sl2⟩,ho2,hc2,n2,hd2⟩:=id p2;simp only at hc hd hc2 hd2;subst hc hd hc2 hd2
 have e:its=[]:=by cases r1;rfl
 subst e;exact HT_concat0 ho ho2 ⟨.ref b,H,I,rfl,q⟩
where
 HT_concat0 {prog:NH} {w:Ou} {A:N4} {E:V1} {s:Ng} {t b:ZE} {ws:Array Nf} {n n2:Nat} {dd dd2:Option ZE} {sl sl2:Array (Option Nf)} {Q:V1}
   (ho:s.heap.get? t=ZA {cls:=.type "tuple",dict:=dd,data:=.seq (([]:List Nf).toArray) n,slots:=sl}) (ho2:s.heap.get? b=ZA {cls:=.type "tuple",dict:=dd2,data:=.seq ws n2,slots:=sl2}) (h:Q (.ref b) s):
   ZJ (ZK prog w) A (Pm .Add (.ref t) (.ref b)) Q E s:=
  Vb ⟨_,ho,rfl⟩ ⟨_,ho2,rfl⟩ SZ Uy Rj Q5 (Q2 _ _)
   (tuple_addW0 t b _ _ n n2 dd dd2 sl sl2 (by simp)) ⟨ho,ho2,h⟩
noncomputable def aU:T->T->Rs T
 |.int i,.int j=>.ok (.int (i+j))
 |.str i,.str j=>if i.length+j.length<=ZI then .ok (.str (i++j))else .bad
 |.tup l,.tup m=>lb (l++m)
 |.lst l,.lst m=>lg (l++m)
 |_,_=>.bad
def aQ:OpT X (Pm .Add) aU:=by
 intro bv s σ H O x y vx vy ux uy Q I hf rx ry r1 r2 hp;unfold aU at hp
 split at hp
 ·exact Jc bv s σ H vx vy ux uy Q I r1 r2 ⟨_,_,Rep.Da.mp rx,Rep.Da.mp ry,hp H (Same.refl H) _ (Rep.GE _)⟩
 ·split at hp
  ·rename_i h
   exact yw bv s σ H vx vy ux uy Q I r1 r2 ⟨_,_,Rep.GM.mp rx,Rep.GM.mp ry,h,hp H (Same.refl H) _ (Rep.Mu _)⟩
  ·exact hp.elim
 ·rename_i l m
  unfold lb at hp
  split at hp
  ·rename_i h
   obtain⟨a,vs,e1,n1,q1,z1⟩:=Rep.Do.mp rx;obtain⟨b,ws,e2,n2,q2,z2⟩:=Rep.Do.mp ry
   have hl1:=z1.length
   have hl2:=z2.length;rw[Nm]at h
   cases vs with
   |nil=>
    have e:l=[]:=by cases l with
     |nil=>rfl
     |cons _ _=>simp at hl1
    subst e
    exact CQ bv s σ H vx vy ux uy Q I r1 r2 ⟨a,b,ws,e1,e2,SqT.of q1,SqT.of q2,hp H (Same.refl H) _ (Rep.Do.mpr ⟨b,ws,rfl,n2,q2,z2⟩)⟩
   |cons v0 vr=>
    refine F3 bv s σ H vx vy ux uy Q I r1 r2 ⟨a,b,v0::vr,ws,e1,e2,SqT.of q1,SqT.of q2,by simp,by omega,λhw=>?_,λ_ p hpn=>?_⟩
    ·subst hw
     have e:m=[]:=by cases m with
      |nil=>rfl
      |cons _ _=>simp at hl2
     subst e;rw[Oj]at hp;exact hp H (Same.refl H) _ (Rep.Do.mpr ⟨a,_,rfl,n1,q1,z1⟩)
    ·exact hp _ (aV hpn _) _ (iI hpn (hf p hpn) (z1.append z2))
  ·exact hp.elim
 ·rename_i l m
  unfold lg at hp
  split at hp
  ·rename_i h
   obtain⟨a,vs,e1,n1,q1,z1⟩:=Rep.Fk.mp rx;obtain⟨b,ws,e2,n2,q2,z2⟩:=Rep.Fk.mp ry
   have hl1:=z1.length
   have hl2:=z2.length;rw[Nm]at h;exact Jb bv s σ H vx vy ux uy Q I r1 r2 ⟨a,b,vs,ws,e1,e2,q1,q2,by omega,λp hpn=>hp _ (aV hpn _) _ (jN hpn (hf p hpn) (z1.append z2))⟩
  ·exact hp.elim
 ·exact hp.elim
noncomputable def yM:T->T->Rs T
 |.int i,.int j=>if (-(2 ^ 64)<i/\i<2 ^ 64)\/(-(2 ^ 64)<j/\j<2 ^ 64)then .ok (.int (i*j))else .bad
 |.lst l,.int k=>if -(2 ^ 63)<=k/\k<2 ^ 63/\l.length*k.toNat<=ZI then .ok (.lst (NL k.toNat l).flatten)else .bad
 |_,_=>.bad
theorem Reps.rep(h:Reps K O H l vs):∀k:Nat,Reps K O H (NL k l).flatten (NL k vs).flatten
 |0=>Reps.nil_
 |k+1=>by rw[O6,O6,P6,P6];exact h.append (h.rep k)
def IU:OpT X (Pm .Mult) yM:=by
 intro bv s σ H O x y vx vy ux uy Q I hf rx ry r1 r2 hp;unfold yM at hp
 split at hp
 ·split at hp
  ·rename_i h
   exact IY bv s σ H vx vy ux uy Q I r1 r2 ⟨_,_,Rep.Da.mp rx,Rep.Da.mp ry,h,hp H (Same.refl H) _ (Rep.GE _)⟩
  ·exact hp.elim
 ·split at hp
  ·rename_i l k h
   obtain⟨a,vs,e1,n1,q1,z1⟩:=Rep.Fk.mp rx
   have hl1:=z1.length;exact IX bv s σ H vx vy ux uy Q I r1 r2 ⟨a,k,vs,e1,Rep.Da.mp ry,q1,h.1,h.2.1,by rw[<-hl1];exact h.2.2,λp hpn=>hp _ (aV hpn _) _ (jN hpn (hf p hpn) (z1.rep _))⟩
  ·exact hp.elim
 ·exact hp.elim
def uG:T->Rs T
 |.int i=>.ok (.int (-i))
 |_=>.bad
def o1(g:T->Rs T)(fa:V5)(Z:En):Rs T:=fa Z >>= g
def KJ(ha:cJ X a fa):cJ X (.UnaryOp .USub a pos) (o1 uG fa):=by
 intro bv s σ H Q I ⟨Z,O,E,hq⟩;refine KY HC ha bv s σ H Q I ?_
 obtain⟨Z1,O1,E1,h1⟩:=bf E hq;refine⟨Z1,O1,E1,Post.mono h1 λts H1 s1 q vs r=>?_⟩
 obtain⟨t',r',s',E',q'⟩:=q vs r;unfold uG at q'
 split at q'
 ·exact⟨_,Rep.Da.mp r',q' H1 (Same.refl H1) _ (Rep.GE _)⟩
 ·exact q'.elim
def vf(p:Int->Int->Bool):T->T->Rs T
 |.int i,.int j=>.ok (.bl (p i j))
 |_,_=>.bad
def ou{p:Int->Int->Bool}(h:rJ X (Og op) (Ff λi j=>.bl (p i j))):OpT X (Og op) (vf p):=OpT.of h λH O x y vx vy Q hf rx ry hp=>by
 unfold vf at hp
 split at hp
 ·exact⟨_,_,Rep.Da.mp rx,Rep.Da.mp ry,hp H (Same.refl H) _ (Rep.bl_ _)⟩
 ·exact hp.elim
abbrev rC:=vf λi j=>decide (i<j)
abbrev Lb:=vf λi j=>decide (i<=j)
abbrev JH:=vf λi j=>decide (j<i)
abbrev geT:=vf λi j=>decide (j<=i)
def nM:OpT X (Og .Lt) rC:=ou K3
def zN:OpT X (Og .LtE) Lb:=ou K4
def CO:OpT X (Og .Gt) JH:=ou K5
def K2:OpT X (Og .GtE) geT:=ou K6
def T.isN:T->Bool
 |.non=>ZC
 |_=>ZD
def Rep.isN{t:T}(r:Rep K O H t v):decide (v=.non)=t.isN:=by
 cases t with
 |non=>rw[Rep.KM.mp r];rfl
 |bl _=>rw[Rep.FB.mp r];rfl
 |int _=>rw[Rep.Da.mp r];rfl
 |str _=>rw[Rep.GM.mp r];rfl
 |tup _=>obtain⟨a,vs,e,_⟩:=Rep.Do.mp r;rw[e];rfl
 |lst _=>obtain⟨a,vs,e,_⟩:=Rep.Fk.mp r;rw[e];rfl
 |scr _=>unfold Rep at r;obtain⟨a,e,_⟩:=r;rw[e];rfl
 |dct _ _=>obtain⟨a,_,e,_⟩:=Rep.Gc.mp r;rw[e];rfl
 |ob _ _ _=>obtain⟨a,_,_,e,_⟩:=Rep.Mq.mp r;rw[e];rfl
def gj:T->T->Rs T
 |x,.non=>.ok (.bl x.isN)
 |_,_=>.bad
def cL:T->T->Rs T
 |x,.non=>.ok (.bl (!x.isN))
 |_,_=>.bad
def jR:OpT X (Og .Is) gj:=OpT.of Ja λH O x y vx vy Q hf rx ry hp=>by
 unfold gj at hp
 split at hp
 ·exact⟨Rep.KM.mp ry,hp H (Same.refl H) _ (by rw[rx.isN];exact Rep.bl_ _)⟩
 ·exact hp.elim
def dO:OpT X (Og .IsNot) cL:=OpT.of F1 λH O x y vx vy Q hf rx ry hp=>by
 unfold cL at hp
 split at hp
 ·exact⟨Rep.KM.mp ry,hp H (Same.refl H) _ (by rw[rx.isN];exact Rep.bl_ _)⟩
 ·exact hp.elim
end
open PySem.SeqAt
mutual
def ReV(s:Ng):T->Nf->Prop
 |.non,u=>u=.none
 |.bl b,u=>u=.bool b
 |.int i,u=>∃t,u=.int i t
 |.str x,u=>∃t,u=.str x t
 |.tup l,u=>∃a its,u=.ref a/\s.heap.IsTuple a (U4 its)/\ReVs s l its
 |.lst l,u=>∃a its,u=.ref a/\s.heap.IsList a (U4 its)/\ReVs s l its
 |.scr l,u=>∃a its,u=.ref a/\s.heap.IsList a (U4 its)/\Po its l
 |.dct _ _,_=>False
 |.ob _ _ _,_=>False
def ReVs(s:Ng):List T->List Nf->Prop
 |[],us=>us=[]
 |t::r,us=>∃u ws,us=u::ws/\ReV s t u/\ReVs s r ws
end
def ReVs.AC:ReVs s [] us↔us=[]:=by unfold ReVs;exact Ro
def ReVs.me{t:T}:ReVs s (t::l) us↔ ∃u ws,us=u::ws/\ReV s t u/\ReVs s l ws:=by
 constructor
 ·intro h;unfold ReVs at h;exact h
 ·intro h;unfold ReVs;exact h
theorem ReVs.length:∀{l:List T}{us:List Nf},ReVs s l us->l.length=us.length
 |[],us,r=>by rw[ReVs.AC.mp r];rfl
 |t::l,us,r=>by
  obtain⟨v,ws,rfl,_,q⟩:=ReVs.me.mp r;simp[q.length]
theorem ReVs.get:∀{l:List T}{us:List Nf}{i:Nat}{t:T},ReVs s l us->l[i]?=ZA t->∃v,us[i]?=ZA v/\ReV s t v
 |[],_,_,_,_,e=>by simp at e
 |t::l,vs,i,u,r,e=>by
  obtain⟨v,ws,rfl,p,q⟩:=ReVs.me.mp r
  cases i with
  |zero=>simp at e;subst e;exact⟨v,rfl,p⟩
  |succ i=>
   obtain⟨z,e1,e2⟩:=q.get (i:=i) (t:=u) (by simpa using e)
   exact⟨z,by simpa using e1,e2⟩
mutual
def T.nd:T->Bool
 |.dct _ _=>ZD
 |.ob _ _ _=>ZD
 |.tup l=>nds l
 |.lst l=>nds l
 |_=>ZC
def nds:List T->Bool
 |[] =>ZC
 |t::l=>t.nd&&nds l
end
def wW{t:T}(h:nds (t::l)=ZC):t.nd=ZC/\nds l=ZC:=by unfold nds at h;exact Pq.mp h
theorem C1:∀{l:List T},(∀t∈l,t.nd=ZC)->nds l=ZC
 |[],_=>rfl
 |t::l,h=>by unfold nds;rw[h t Nb,C1 λu hu=>h u (Na _ hu)];rfl
section
variable {bv:V2}
mutual
theorem Rep.val(I:Inv X bv σ H s):∀{t:T}{v:V}{u:Nf},t.nd=ZC->Rep X.K O H t v->RelV v u->ReV s t u
 |.non,v,u,hn,r,q=>by cases Rep.KM.mp r;unfold ReV;exact q
 |.bl b,v,u,hn,r,q=>by cases Rep.FB.mp r;unfold ReV;exact q
 |.int b,v,u,hn,r,q=>by cases Rep.Da.mp r;unfold ReV;exact q
 |.str b,v,u,hn,r,q=>by cases Rep.GM.mp r;unfold ReV;exact q
 |.tup l,v,u,hn,r,q=>by
  obtain⟨a,vs,rfl,_,z,w⟩:=Rep.Do.mp r;cases q;obtain⟨its,rv,p,_⟩:=I.tuple (SqT.of z);unfold ReV
  exact⟨a,its,rfl,p,Reps.val I (by unfold T.nd at hn;exact hn) w rv⟩
 |.lst l,v,u,hn,r,q=>by
  obtain⟨a,vs,rfl,_,z,w⟩:=Rep.Fk.mp r;cases q;obtain⟨its,rv,p,_⟩:=I.list (SqL.of z);unfold ReV
  exact⟨a,its,rfl,p.isList,Reps.val I (by unfold T.nd at hn;exact hn) w rv⟩
 |.scr l,v,u,hn,r,q=>by
  unfold Rep at r;obtain⟨a,rfl,_,z⟩:=r;cases q;obtain⟨its,rv,p,_⟩:=I.list z;unfold ReV
  exact⟨a,its,rfl,p.isList,yU rv⟩
 |.dct _ _,v,u,hn,r,q=>by cases hn
 |.ob _ _ _,v,u,hn,r,q=>by cases hn
theorem Reps.val(I:Inv X bv σ H s):∀{l:List T}{vs:List V}{us:List Nf},nds l=ZC->Reps X.K O H l vs->Vals vs us->ReVs s l us
 |[],vs,us,hn,r,q=>by
  cases Reps.AC.mp r;cases q
  exact ReVs.AC.mpr rfl
 |t::l,vs,us,hn,r,q=>by
  obtain⟨v,ws,rfl,p,z⟩:=Reps.me.mp r
  cases q with
  |cons q1 q2=>exact ReVs.me.mpr ⟨_,_,rfl,Rep.val I (wW hn).1 p q1,Reps.val I (wW hn).2 z q2⟩
end
end
mutual
def T.dep:T->Nat
 |.tup l=>deps l+1
 |.lst l=>deps l+1
 |.scr _=>1
 |_=>0
def deps:List T->Nat
 |[] =>0
 |t::l=>max t.dep (deps l)
end
def GI(i:Int):T->Bool
 |.int j=>i == j
 |.bl b=>i == (if b then 1 else 0)
 |_=>ZD
def ly:List Int->List T->Bool
 |[],[] =>ZC
 |i::r,t::l=>GI i t&&ly r l
 |_,_=>ZD
mutual
def bc:T->T->Bool
 |.non,.non=>ZC
 |.bl a,.bl b=>a == b
 |.bl a,.int b=>(if a then 1 else 0) == b
 |.int a,.bl b=>a == (if b then 1 else 0)
 |.int a,.int b=>a == b
 |.str a,.str b=>a == b
 |.tup l,.tup m=>beqTs l m
 |.lst l,.lst m=>beqTs l m
 |.lst l,.scr m=>beqTs l (m.map .int)
 |.scr l,.lst m=>ly l m
 |.scr l,.scr m=>l == m
 |_,_=>ZD
def beqTs:List T->List T->Bool
 |[],[] =>ZC
 |t::l,u::m=>bc t u&&beqTs l m
 |_,_=>ZD
end
def qF(n:Nat)(e:Nat->Bool):(Oz (n+1)).all e=(e 0&&(Oz n).all λj=>e (j+1)):=by
 rw[List.range_succ_eq_map,Um,U5];rfl
theorem nt:∀(l m:List T)(e:Nat->Bool),(∀(j:Nat) t u,l[j]?=ZA t->m[j]?=ZA u->e j=bc t u) →
  beqTs l m=((Oz (min l.length m.length)).all e&&l.length == m.length)
 |[],[],_,_=>by simp[beqTs]
 |[],_::_,_,_=>by simp[beqTs]
 |_::_,[],_,_=>by simp[beqTs]
 |t::l,u::m,e,h=>by
  have ih:=nt l m (λj=>e (j+1)) λj t' u' h1 h2=>h (j+1) t' u' (by simpa using h1) (by simpa using h2)
  rw[beqTs,ih]
  have h0:=h 0 t u rfl rfl;simp only[Nj];rw[Nat.succ_min_succ,qF,h0,Bool.and_assoc]
  congr 2
  simp
theorem sV:∀{l m:List T},l.length≠m.length->beqTs l m=ZD
 |[],[],h=>absurd rfl h
 |[],_::_,_=>by simp[beqTs]
 |_::_,[],_=>by simp[beqTs]
 |t::l,u::m,h=>by
  rw[beqTs,sV (l:=l) (m:=m) (by intro z;exact h (by simp[z]))]
  simp
theorem j7:∀{l:List T}{i:Nat}{t:T},l[i]?=ZA t->t.dep<=deps l
 |[],_,_,e=>by simp at e
 |t::l,0,u,e=>by simp at e;subst e;unfold deps;exact Nat.le_max_left _ _
 |t::l,i+1,u,e=>by
  have:=j7 (l:=l) (i:=i) (t:=u) (by simpa using e)
  unfold deps;exact NV this (Nat.le_max_right _ _)
def jZ{x y:List Nf}(h:s.heap.IsTuple a x.toArray)(h':s.heap.IsTuple a y.toArray):x=y:=by
 obtain⟨o,e,_,n,d⟩:=h;obtain⟨o',e',_,n',d'⟩:=h';rw[e]at e';cases e';rw[d]at d';injection d' with d1 _
 simpa using congrArg R9 d1
def dA{x y:List Nf}(h:s.heap.IsList a x.toArray)(h':s.heap.IsList a y.toArray):x=y:=by
 obtain⟨o,e,_,n,d⟩:=h;obtain⟨o',e',_,n',d'⟩:=h';rw[e]at e';cases e';rw[d]at d';injection d' with d1 _
 simpa using congrArg R9 d1
def Bx{t:T}{k:Tok}(r:ReV s t (.int i k)):GI i t=ZC:=by
 cases t with
 |non=>unfold ReV at r;cases r
 |bl b=>unfold ReV at r;cases r
 |int j=>unfold ReV at r;obtain⟨t,e⟩:=r;injection e with e1 _;subst e1;simp[GI]
 |str x=>unfold ReV at r;obtain⟨t,e⟩:=r;cases e
 |tup l=>unfold ReV at r;obtain⟨a,its,e,_⟩:=r;cases e
 |lst l=>unfold ReV at r;obtain⟨a,its,e,_⟩:=r;cases e
 |scr l=>unfold ReV at r;obtain⟨a,its,e,_⟩:=r;cases e
 |dct _ _=>unfold ReV at r;exact r.elim
 |ob _ _ _=>unfold ReV at r;exact r.elim
theorem qD:∀{ns:List Int}{us:List Nf}{l:List T},Po us ns->ReVs s l us->ly ns l=ZC
 |[],us,l,h,r=>by
  cases h
  cases l with
  |nil=>rfl
  |cons t l=>obtain⟨_,_,e,_⟩:=ReVs.me.mp r;cases e
 |n::ns,us,l,h,r=>by
  cases h with
  |cons a b hh=>
   cases l with
   |nil=>have:=ReVs.AC.mp r;cases this
   |cons t l=>
    obtain⟨u,ws,e,p,q⟩:=ReVs.me.mp r;injection e with e1 e2
    subst e1 e2;rw[ly,Bx p,qD hh q];rfl
theorem eV:∀{us:List Nf}{ns:List Int},Po us ns->ReVs s (ns.map T.int) us
 |_,_,.nil=>ReVs.AC.mpr rfl
 |_,_,.cons n t h=>ReVs.me.mpr ⟨_,_,rfl,by unfold ReV;exact⟨_,rfl⟩,eV h⟩
theorem j0:∀{us:List Nf}{ns ms:List Int},Po us ns->Po us ms->ns=ms
 |_,_,_,.nil,.nil=>rfl
 |_,_,_,.cons n t h,.cons _ _ h'=>by rw[j0 h h']
mutual
theorem ReV.refl{s:Ng}:∀{t u:T}{v:Nf},ReV s t v->ReV s u v->bc t u=ZC
 |.non,u,v,r,q=>by
  unfold ReV at r;subst r
  cases u <;> (unfold ReV at q) <;> first|rfl| (cases q;done)| (obtain⟨_,e⟩:=q;cases e;done)| (obtain⟨_,_,e,_⟩:=q;cases e;done)
 |.bl b,u,v,r,q=>by
  unfold ReV at r;subst r
  cases u <;> (unfold ReV at q) <;> first| (cases q;done)| (cases q;simp[bc];done)| (obtain⟨_,e⟩:=q;cases e;done)| (obtain⟨_,_,e,_⟩:=q;cases e;done)
 |.int b,u,v,r,q=>by
  unfold ReV at r;obtain⟨k,rfl⟩:=r
  cases u <;> (unfold ReV at q) <;> first| (cases q;done)| (obtain⟨_,e⟩:=q;cases e;simp[bc];done)| (obtain⟨_,e⟩:=q;cases e;done)| (obtain⟨_,_,e,_⟩:=q;cases e;done)
 |.str b,u,v,r,q=>by
  unfold ReV at r;obtain⟨k,rfl⟩:=r
  cases u <;> (unfold ReV at q) <;> first| (cases q;done)| (obtain⟨_,e⟩:=q;cases e;simp[bc];done)| (obtain⟨_,e⟩:=q;cases e;done)| (obtain⟨_,_,e,_⟩:=q;cases e;done)
 |.tup l,u,v,r,q=>by
  unfold ReV at r;obtain⟨a,its,rfl,h1,h2⟩:=r
  cases u with
  |non=>unfold ReV at q;cases q
  |dct _ _=>unfold ReV at q;exact q.elim
  |ob _ _ _=>unfold ReV at q;exact q.elim
  |bl _=>unfold ReV at q;cases q
  |int _=>unfold ReV at q;obtain⟨_,e⟩:=q;cases e
  |str _=>unfold ReV at q;obtain⟨_,e⟩:=q;cases e
  |tup m=>
   unfold ReV at q;obtain⟨a',its',e,h1',h2'⟩:=q;injection e with e;subst e
   have:=jZ h1 h1';subst this;unfold bc
   exact ReVs.refl h2 h2'
  |lst m=>unfold ReV at q;obtain⟨a',its',e,h1',h2'⟩:=q;injection e with e;subst e;exact absurd rfl (ne_of_list_tuple h1' h1)
  |scr m=>unfold ReV at q;obtain⟨a',its',e,h1',h2'⟩:=q;injection e with e;subst e;exact absurd rfl (ne_of_list_tuple h1' h1)
 |.lst l,u,v,r,q=>by
  unfold ReV at r;obtain⟨a,its,rfl,h1,h2⟩:=r
  cases u with
  |non=>unfold ReV at q;cases q
  |dct _ _=>unfold ReV at q;exact q.elim
  |ob _ _ _=>unfold ReV at q;exact q.elim
  |bl _=>unfold ReV at q;cases q
  |int _=>unfold ReV at q;obtain⟨_,e⟩:=q;cases e
  |str _=>unfold ReV at q;obtain⟨_,e⟩:=q;cases e
  |lst m=>
   unfold ReV at q;obtain⟨a',its',e,h1',h2'⟩:=q;injection e with e;subst e
   have:=dA h1 h1';subst this;unfold bc
   exact ReVs.refl h2 h2'
  |tup m=>unfold ReV at q;obtain⟨a',its',e,h1',h2'⟩:=q;injection e with e;subst e;exact absurd rfl (ne_of_list_tuple h1 h1')
  |scr m=>
   unfold ReV at q;obtain⟨a',its',e,h1',h2'⟩:=q;injection e with e;subst e
   have:=dA h1 h1';subst this;unfold bc
   exact ReVs.refl h2 (eV h2')
 |.scr l,u,v,r,q=>by
  unfold ReV at r;obtain⟨a,its,rfl,h1,h2⟩:=r
  cases u with
  |non=>unfold ReV at q;cases q
  |dct _ _=>unfold ReV at q;exact q.elim
  |ob _ _ _=>unfold ReV at q;exact q.elim
  |bl _=>unfold ReV at q;cases q
  |int _=>unfold ReV at q;obtain⟨_,e⟩:=q;cases e
  |str _=>unfold ReV at q;obtain⟨_,e⟩:=q;cases e
  |lst m=>
   unfold ReV at q;obtain⟨a',its',e,h1',h2'⟩:=q;injection e with e;subst e
   have:=dA h1 h1';subst this;unfold bc
   exact qD h2 h2'
  |tup m=>unfold ReV at q;obtain⟨a',its',e,h1',h2'⟩:=q;injection e with e;subst e;exact absurd rfl (ne_of_list_tuple h1 h1')
  |scr m=>
   unfold ReV at q;obtain⟨a',its',e,h1',h2'⟩:=q;injection e with e;subst e
   have:=dA h1 h1';subst this;unfold bc
   have:=j0 h2 h2'
   simp[this]
 |.dct _ _,u,v,r,q=>by unfold ReV at r;exact r.elim
 |.ob _ _ _,u,v,r,q=>by unfold ReV at r;exact r.elim
theorem ReVs.refl{s:Ng}:∀{l m:List T}{us:List Nf},ReVs s l us->ReVs s m us->beqTs l m=ZC
 |[],m,us,r,q=>by
  cases ReVs.AC.mp r
  cases m with
  |nil=>simp[beqTs]
  |cons _ _=>obtain⟨_,_,e,_⟩:=ReVs.me.mp q;cases e
 |t::l,m,us,r,q=>by
  obtain⟨v,ws,rfl,p,z⟩:=ReVs.me.mp r
  cases m with
  |nil=>cases ReVs.AC.mp q
  |cons u m=>
   obtain⟨v',ws',e,p',z'⟩:=ReVs.me.mp q;injection e with e1 e2
   subst e1 e2;rw[beqTs,ReV.refl p p',ReVs.refl z z'];rfl
end
theorem qC:∀(l:List Int)(m:List T),ly l m=beqTs (l.map T.int) m
 |[],[] =>by simp[ly,beqTs]
 |[],_::_=>by simp[ly,beqTs]
 |_::_,[] =>by simp[ly,beqTs]
 |i::l,t::m=>by
  rw[ly,Nd,beqTs,qC l m]
  congr 1
  cases t <;> simp[GI,bc]
theorem tI:∀(l m:List Int),(l == m)=beqTs (l.map T.int) (m.map T.int)
 |[],[] =>by simp[beqTs]
 |[],_::_=>by simp[beqTs]
 |_::_,[] =>by simp[beqTs]
 |i::l,t::m=>by
  rw[Nd,Nd,beqTs,<-tI l m];simp[bc]
theorem gC:∀(l:List Int),deps (l.map T.int)=0
 |[] =>rfl
 |i::l=>by rw[Nd,deps,gC l];simp[T.dep]
def kx:T->T->Prop
 |.tup _,.tup _=>False
 |.lst _,.lst _=>False
 |.lst _,.scr _=>False
 |.scr _,.lst _=>False
 |.scr _,.scr _=>False
 |_,_=>True
def xE(A:N4)(s:Ng)(x y:T)(u v:Nf)(hn:kx x y)(hu:A.units<cLine)(rx:ReV s x u)(ry:ReV s y v):EqAt A s u v (bc x y)/\RcAt A s u v (bc x y)/\RcNeAt A s u v (!bc x y):=by
 match x,y,hn,rx,ry with
 |.dct _ _,_,_,rx,_=>exact(by unfold ReV at rx;exact rx:False).elim
 |.ob _ _ _,_,_,rx,_=>exact(by unfold ReV at rx;exact rx:False).elim
 |_,.dct _ _,_,_,ry=>exact(by unfold ReV at ry;exact ry:False).elim
 |_,.ob _ _ _,_,_,ry=>exact(by unfold ReV at ry;exact ry:False).elim
 |.non,.non,hn,rx,ry=>
  obtain rfl:u=Oe:=by unfold ReV at rx;exact rx
  obtain rfl:v=Oe:=by unfold ReV at ry;exact ry
  exact⟨EqAt.same _,RcAt.none_none ,RcNeAt.none_none ⟩
 |.non,.bl b2,hn,rx,ry=>
  obtain rfl:u=Oe:=by unfold ReV at rx;exact rx
  obtain rfl:v=OK b2:=by unfold ReV at ry;exact ry
  exact⟨EqAt.none_bool b2,RcAt.none_bool b2,RcNeAt.none_bool b2⟩
 |.non,.int i2,hn,rx,ry=>
  obtain rfl:u=Oe:=by unfold ReV at rx;exact rx
  obtain⟨k2,rfl⟩:∃k,v=OS i2 k:=by unfold ReV at ry;exact ry
  exact⟨EqAt.none_int i2 k2,RcAt.none_int i2 k2,RcNeAt.none_int i2 k2⟩
 |.non,.str x2,hn,rx,ry=>
  obtain rfl:u=Oe:=by unfold ReV at rx;exact rx
  obtain⟨k2,rfl⟩:∃k,v=Pd x2 k:=by unfold ReV at ry;exact ry
  exact⟨EqAt.none_str x2 k2,RcAt.none_str x2 k2,RcNeAt.none_str x2 k2⟩
 |.non,.tup l2,hn,rx,ry=>
  obtain rfl:u=Oe:=by unfold ReV at rx;exact rx
  unfold ReV at ry;obtain⟨a2,us2,rfl,h2,q2⟩:=ry
  exact⟨EqAt.none_tuple h2 hu,RcAt.none_tuple h2 hu,RcNeAt.none_tuple h2 hu⟩
 |.non,.lst l2,hn,rx,ry=>
  obtain rfl:u=Oe:=by unfold ReV at rx;exact rx
  unfold ReV at ry;obtain⟨a2,us2,rfl,h2,q2⟩:=ry
  exact⟨EqAt.none_list h2 hu,RcAt.none_list h2 hu,RcNeAt.none_list h2 hu⟩
 |.non,.scr l2,hn,rx,ry=>
  obtain rfl:u=Oe:=by unfold ReV at rx;exact rx
  unfold ReV at ry;obtain⟨a2,us2,rfl,h2,q2⟩:=ry
  exact⟨EqAt.none_list h2 hu,RcAt.none_list h2 hu,RcNeAt.none_list h2 hu⟩
 |.bl b1,.non,hn,rx,ry=>
  obtain rfl:u=OK b1:=by unfold ReV at rx;exact rx
  obtain rfl:v=Oe:=by unfold ReV at ry;exact ry
  exact⟨EqAt.bool_none b1,RcAt.bool_none b1,RcNeAt.bool_none b1⟩
 |.bl b1,.bl b2,hn,rx,ry=>
  obtain rfl:u=OK b1:=by unfold ReV at rx;exact rx
  obtain rfl:v=OK b2:=by unfold ReV at ry;exact ry
  exact⟨EqAt.bool_bool b1 b2,RcAt.bool_bool b1 b2,RcNeAt.bool_bool b1 b2⟩
 |.bl b1,.int i2,hn,rx,ry=>
  obtain rfl:u=OK b1:=by unfold ReV at rx;exact rx
  obtain⟨k2,rfl⟩:∃k,v=OS i2 k:=by unfold ReV at ry;exact ry
  exact⟨EqAt.bool_int b1 i2 k2,RcAt.bool_int b1 i2 k2,RcNeAt.bool_int b1 i2 k2⟩
 |.bl b1,.str x2,hn,rx,ry=>
  obtain rfl:u=OK b1:=by unfold ReV at rx;exact rx
  obtain⟨k2,rfl⟩:∃k,v=Pd x2 k:=by unfold ReV at ry;exact ry
  exact⟨EqAt.bool_str b1 x2 k2,RcAt.bool_str b1 x2 k2,RcNeAt.bool_str b1 x2 k2⟩
 |.bl b1,.tup l2,hn,rx,ry=>
  obtain rfl:u=OK b1:=by unfold ReV at rx;exact rx
  unfold ReV at ry;obtain⟨a2,us2,rfl,h2,q2⟩:=ry
  exact⟨EqAt.bool_tuple b1 h2 hu,RcAt.bool_tuple b1 h2 hu,RcNeAt.bool_tuple b1 h2 hu⟩
 |.bl b1,.lst l2,hn,rx,ry=>
  obtain rfl:u=OK b1:=by unfold ReV at rx;exact rx
  unfold ReV at ry;obtain⟨a2,us2,rfl,h2,q2⟩:=ry
  exact⟨EqAt.bool_list b1 h2 hu,RcAt.bool_list b1 h2 hu,RcNeAt.bool_list b1 h2 hu⟩
 |.bl b1,.scr l2,hn,rx,ry=>
  obtain rfl:u=OK b1:=by unfold ReV at rx;exact rx
  unfold ReV at ry;obtain⟨a2,us2,rfl,h2,q2⟩:=ry
  exact⟨EqAt.bool_list b1 h2 hu,RcAt.bool_list b1 h2 hu,RcNeAt.bool_list b1 h2 hu⟩
 |.int i1,.non,hn,rx,ry=>
  obtain⟨k1,rfl⟩:∃k,u=OS i1 k:=by unfold ReV at rx;exact rx
  obtain rfl:v=Oe:=by unfold ReV at ry;exact ry
  exact⟨EqAt.int_none i1 k1,RcAt.int_none i1 k1,RcNeAt.int_none i1 k1⟩
 |.int i1,.bl b2,hn,rx,ry=>
  obtain⟨k1,rfl⟩:∃k,u=OS i1 k:=by unfold ReV at rx;exact rx
  obtain rfl:v=OK b2:=by unfold ReV at ry;exact ry
  exact⟨EqAt.int_bool i1 k1 b2,RcAt.int_bool i1 k1 b2,RcNeAt.int_bool i1 k1 b2⟩
 |.int i1,.int i2,hn,rx,ry=>
  obtain⟨k1,rfl⟩:∃k,u=OS i1 k:=by unfold ReV at rx;exact rx
  obtain⟨k2,rfl⟩:∃k,v=OS i2 k:=by unfold ReV at ry;exact ry
  exact⟨EqAt.int_int i1 k1 i2 k2,RcAt.int_int i1 k1 i2 k2,RcNeAt.int_int i1 k1 i2 k2⟩
 |.int i1,.str x2,hn,rx,ry=>
  obtain⟨k1,rfl⟩:∃k,u=OS i1 k:=by unfold ReV at rx;exact rx
  obtain⟨k2,rfl⟩:∃k,v=Pd x2 k:=by unfold ReV at ry;exact ry
  exact⟨EqAt.int_str i1 k1 x2 k2,RcAt.int_str i1 k1 x2 k2,RcNeAt.int_str i1 k1 x2 k2⟩
 |.int i1,.tup l2,hn,rx,ry=>
  obtain⟨k1,rfl⟩:∃k,u=OS i1 k:=by unfold ReV at rx;exact rx
  unfold ReV at ry;obtain⟨a2,us2,rfl,h2,q2⟩:=ry
  exact⟨EqAt.int_tuple i1 k1 h2 hu,RcAt.int_tuple i1 k1 h2 hu,RcNeAt.int_tuple i1 k1 h2 hu⟩
 |.int i1,.lst l2,hn,rx,ry=>
  obtain⟨k1,rfl⟩:∃k,u=OS i1 k:=by unfold ReV at rx;exact rx
  unfold ReV at ry;obtain⟨a2,us2,rfl,h2,q2⟩:=ry
  exact⟨EqAt.int_list i1 k1 h2 hu,RcAt.int_list i1 k1 h2 hu,RcNeAt.int_list i1 k1 h2 hu⟩
 |.int i1,.scr l2,hn,rx,ry=>
  obtain⟨k1,rfl⟩:∃k,u=OS i1 k:=by unfold ReV at rx;exact rx
  unfold ReV at ry;obtain⟨a2,us2,rfl,h2,q2⟩:=ry
  exact⟨EqAt.int_list i1 k1 h2 hu,RcAt.int_list i1 k1 h2 hu,RcNeAt.int_list i1 k1 h2 hu⟩
 |.str x1,.non,hn,rx,ry=>
  obtain⟨k1,rfl⟩:∃k,u=Pd x1 k:=by unfold ReV at rx;exact rx
  obtain rfl:v=Oe:=by unfold ReV at ry;exact ry
  exact⟨EqAt.str_none x1 k1,RcAt.str_none x1 k1,RcNeAt.str_none x1 k1⟩
 |.str x1,.bl b2,hn,rx,ry=>
  obtain⟨k1,rfl⟩:∃k,u=Pd x1 k:=by unfold ReV at rx;exact rx
  obtain rfl:v=OK b2:=by unfold ReV at ry;exact ry
  exact⟨EqAt.str_bool x1 k1 b2,RcAt.str_bool x1 k1 b2,RcNeAt.str_bool x1 k1 b2⟩
 |.str x1,.int i2,hn,rx,ry=>
  obtain⟨k1,rfl⟩:∃k,u=Pd x1 k:=by unfold ReV at rx;exact rx
  obtain⟨k2,rfl⟩:∃k,v=OS i2 k:=by unfold ReV at ry;exact ry
  exact⟨EqAt.str_int x1 k1 i2 k2,RcAt.str_int x1 k1 i2 k2,RcNeAt.str_int x1 k1 i2 k2⟩
 |.str x1,.str x2,hn,rx,ry=>
  obtain⟨k1,rfl⟩:∃k,u=Pd x1 k:=by unfold ReV at rx;exact rx
  obtain⟨k2,rfl⟩:∃k,v=Pd x2 k:=by unfold ReV at ry;exact ry
  exact⟨EqAt.str_str x1 k1 x2 k2,RcAt.str_str x1 k1 x2 k2,RcNeAt.str_str x1 k1 x2 k2⟩
 |.str x1,.tup l2,hn,rx,ry=>
  obtain⟨k1,rfl⟩:∃k,u=Pd x1 k:=by unfold ReV at rx;exact rx
  unfold ReV at ry;obtain⟨a2,us2,rfl,h2,q2⟩:=ry
  exact⟨EqAt.str_tuple x1 k1 h2 hu,RcAt.str_tuple x1 k1 h2 hu,RcNeAt.str_tuple x1 k1 h2 hu⟩
 |.str x1,.lst l2,hn,rx,ry=>
  obtain⟨k1,rfl⟩:∃k,u=Pd x1 k:=by unfold ReV at rx;exact rx
  unfold ReV at ry;obtain⟨a2,us2,rfl,h2,q2⟩:=ry
  exact⟨EqAt.str_list x1 k1 h2 hu,RcAt.str_list x1 k1 h2 hu,RcNeAt.str_list x1 k1 h2 hu⟩
 |.str x1,.scr l2,hn,rx,ry=>
  obtain⟨k1,rfl⟩:∃k,u=Pd x1 k:=by unfold ReV at rx;exact rx
  unfold ReV at ry;obtain⟨a2,us2,rfl,h2,q2⟩:=ry
  exact⟨EqAt.str_list x1 k1 h2 hu,RcAt.str_list x1 k1 h2 hu,RcNeAt.str_list x1 k1 h2 hu⟩
 |.tup l1,.non,hn,rx,ry=>
  unfold ReV at rx;obtain⟨a1,us1,rfl,h1,q1⟩:=rx;obtain rfl:v=Oe:=by unfold ReV at ry;exact ry
  exact⟨EqAt.tuple_none h1 hu,RcAt.tuple_none h1 hu,RcNeAt.tuple_none h1 hu⟩
 |.tup l1,.bl b2,hn,rx,ry=>
  unfold ReV at rx;obtain⟨a1,us1,rfl,h1,q1⟩:=rx;obtain rfl:v=OK b2:=by unfold ReV at ry;exact ry
  exact⟨EqAt.tuple_bool b2 h1 hu,RcAt.tuple_bool b2 h1 hu,RcNeAt.tuple_bool b2 h1 hu⟩
 |.tup l1,.int i2,hn,rx,ry=>
  unfold ReV at rx;obtain⟨a1,us1,rfl,h1,q1⟩:=rx;obtain⟨k2,rfl⟩:∃k,v=OS i2 k:=by unfold ReV at ry;exact ry
  exact⟨EqAt.tuple_int i2 k2 h1 hu,RcAt.tuple_int i2 k2 h1 hu,RcNeAt.tuple_int i2 k2 h1 hu⟩
 |.tup l1,.str x2,hn,rx,ry=>
  unfold ReV at rx;obtain⟨a1,us1,rfl,h1,q1⟩:=rx;obtain⟨k2,rfl⟩:∃k,v=Pd x2 k:=by unfold ReV at ry;exact ry
  exact⟨EqAt.tuple_str x2 k2 h1 hu,RcAt.tuple_str x2 k2 h1 hu,RcNeAt.tuple_str x2 k2 h1 hu⟩
 |.tup _,.tup _,hn,_,_=>exact hn.elim
 |.tup l1,.lst l2,hn,rx,ry=>
  unfold ReV at rx;obtain⟨a1,us1,rfl,h1,q1⟩:=rx;unfold ReV at ry;obtain⟨a2,us2,rfl,h2,q2⟩:=ry
  exact⟨EqAt.tuple_list h1 h2 hu,RcAt.tuple_list h1 h2 hu,RcNeAt.tuple_list h1 h2 hu⟩
 |.tup l1,.scr l2,hn,rx,ry=>
  unfold ReV at rx;obtain⟨a1,us1,rfl,h1,q1⟩:=rx;unfold ReV at ry;obtain⟨a2,us2,rfl,h2,q2⟩:=ry
  exact⟨EqAt.tuple_list h1 h2 hu,RcAt.tuple_list h1 h2 hu,RcNeAt.tuple_list h1 h2 hu⟩
 |.lst l1,.non,hn,rx,ry=>
  unfold ReV at rx;obtain⟨a1,us1,rfl,h1,q1⟩:=rx;obtain rfl:v=Oe:=by unfold ReV at ry;exact ry
  exact⟨EqAt.list_none h1 hu,RcAt.list_none h1 hu,RcNeAt.list_none h1 hu⟩
 |.lst l1,.bl b2,hn,rx,ry=>
  unfold ReV at rx;obtain⟨a1,us1,rfl,h1,q1⟩:=rx;obtain rfl:v=OK b2:=by unfold ReV at ry;exact ry
  exact⟨EqAt.list_bool b2 h1 hu,RcAt.list_bool b2 h1 hu,RcNeAt.list_bool b2 h1 hu⟩
 |.lst l1,.int i2,hn,rx,ry=>
  unfold ReV at rx;obtain⟨a1,us1,rfl,h1,q1⟩:=rx;obtain⟨k2,rfl⟩:∃k,v=OS i2 k:=by unfold ReV at ry;exact ry
  exact⟨EqAt.list_int i2 k2 h1 hu,RcAt.list_int i2 k2 h1 hu,RcNeAt.list_int i2 k2 h1 hu⟩
 |.lst l1,.str x2,hn,rx,ry=>
  unfold ReV at rx;obtain⟨a1,us1,rfl,h1,q1⟩:=rx;obtain⟨k2,rfl⟩:∃k,v=Pd x2 k:=by unfold ReV at ry;exact ry
  exact⟨EqAt.list_str x2 k2 h1 hu,RcAt.list_str x2 k2 h1 hu,RcNeAt.list_str x2 k2 h1 hu⟩
 |.lst l1,.tup l2,hn,rx,ry=>
  unfold ReV at rx;obtain⟨a1,us1,rfl,h1,q1⟩:=rx;unfold ReV at ry;obtain⟨a2,us2,rfl,h2,q2⟩:=ry
  exact⟨EqAt.list_tuple h1 h2 hu,RcAt.list_tuple h1 h2 hu,RcNeAt.list_tuple h1 h2 hu⟩
 |.lst _,.lst _,hn,_,_=>exact hn.elim
 |.lst _,.scr _,hn,_,_=>exact hn.elim
 |.scr l1,.non,hn,rx,ry=>
  unfold ReV at rx;obtain⟨a1,us1,rfl,h1,q1⟩:=rx;obtain rfl:v=Oe:=by unfold ReV at ry;exact ry
  exact⟨EqAt.list_none h1 hu,RcAt.list_none h1 hu,RcNeAt.list_none h1 hu⟩
 |.scr l1,.bl b2,hn,rx,ry=>
  unfold ReV at rx;obtain⟨a1,us1,rfl,h1,q1⟩:=rx;obtain rfl:v=OK b2:=by unfold ReV at ry;exact ry
  exact⟨EqAt.list_bool b2 h1 hu,RcAt.list_bool b2 h1 hu,RcNeAt.list_bool b2 h1 hu⟩
 |.scr l1,.int i2,hn,rx,ry=>
  unfold ReV at rx;obtain⟨a1,us1,rfl,h1,q1⟩:=rx;obtain⟨k2,rfl⟩:∃k,v=OS i2 k:=by unfold ReV at ry;exact ry
  exact⟨EqAt.list_int i2 k2 h1 hu,RcAt.list_int i2 k2 h1 hu,RcNeAt.list_int i2 k2 h1 hu⟩
 |.scr l1,.str x2,hn,rx,ry=>
  unfold ReV at rx;obtain⟨a1,us1,rfl,h1,q1⟩:=rx;obtain⟨k2,rfl⟩:∃k,v=Pd x2 k:=by unfold ReV at ry;exact ry
  exact⟨EqAt.list_str x2 k2 h1 hu,RcAt.list_str x2 k2 h1 hu,RcNeAt.list_str x2 k2 h1 hu⟩
 |.scr l1,.tup l2,hn,rx,ry=>
  unfold ReV at rx;obtain⟨a1,us1,rfl,h1,q1⟩:=rx;unfold ReV at ry;obtain⟨a2,us2,rfl,h2,q2⟩:=ry
  exact⟨EqAt.list_tuple h1 h2 hu,RcAt.list_tuple h1 h2 hu,RcNeAt.list_tuple h1 h2 hu⟩
 |.scr _,.lst _,hn,_,_=>exact hn.elim
 |.scr _,.scr _,hn,_,_=>exact hn.elim
def Gu:∀(n:Nat)(A:N4)(s:Ng)(x y:T)(u v:Nf),(x.dep<=n\/y.dep<=n)->A.units+n<cLine->ReV s x u->ReV s y v->EqAt A s u v (bc x y)/\RcAt A s u v (bc x y)/\RcNeAt A s u v (!bc x y):=by
 intro n
 induction n with
 |zero=>
  intro A s x y u v hd hu rx ry
  exact xE A s x y u v (by cases x <;> cases y <;> simp_all [kx,T.dep]) (by omega) rx ry
 |succ n ih=>
  intro A s x y u v hd hu rx ry
  have hin:A.in1.units+n<cLine:=by show A.units+1+n<cLine;omega
  have items:∀(l m:List T)(us vs:List Nf),(deps l<=n\/deps m<=n)->ReVs s l us->ReVs s m vs->∃e:Nat->Bool,(∀j (h1:j<us.toArray.size) (h2:j<vs.toArray.size),EqAt A.in1 s us.toArray[j] vs.toArray[j] (e j)) ∧
    (∀(j:Nat) t u,l[j]?=ZA t->m[j]?=ZA u->e j=bc t u):=λl m us vs hd r1 r2=>by
   refine⟨λj=>bc (l.getD j .non) (m.getD j .non),λj h1 h2=>?_,λj t u e1 e2=>by simp[List.getD,e1,e2]⟩
   have l1:=r1.length
   have l2:=r2.length
   have h1':j<l.length:=by rw[l1];simpa using h1
   have h2':j<m.length:=by rw[l2];simpa using h2
   have e1:l[j]?=ZA l[j]:=by simp
   have e2:m[j]?=ZA m[j]:=by simp
   obtain⟨u1,z1,w1⟩:=r1.get e1;obtain⟨u2,z2,w2⟩:=r2.get e2
   have q1:us.toArray[j]=u1:=by
    have:us[j]?=ZA us.toArray[j]:=by simp
    rw[z1]at this;exact(NZ this).symm
   have q2:vs.toArray[j]=u2:=by
    have:vs[j]?=ZA vs.toArray[j]:=by simp
    rw[z2]at this;exact(NZ this).symm
   rw[q1,q2]
   have g1:l.getD j .non=l[j]:=by simp[List.getD,e1]
   have g2:m.getD j .non=m[j]:=by simp[List.getD,e2]
   show EqAt A.in1 s u1 u2 (bc (l.getD j .non) (m.getD j .non))
   rw[g1,g2];refine(ih A.in1 s l[j] m[j] u1 u2 ?_ hin w1 w2).1
   rcases hd with hd|hd
   ·exact .inl (NV (j7 e1) hd)
   ·exact .inr (NV (j7 e2) hd)
  have lists:∀(l m:List T)(a b:ZE)(us vs:List Nf),(deps l<=n\/deps m<=n)->ReVs s l us->ReVs s m vs->s.heap.IsList a us.toArray->s.heap.IsList b vs.toArray →
    EqAt A s (.ref a) (.ref b) (beqTs l m)/\RcAt A s (.ref a) (.ref b) (beqTs l m)/\RcNeAt A s (.ref a) (.ref b) (!beqTs l m):=λl m a b us vs hd r1 r2 h1 h2=>by
   have l1:=r1.length
   have l2:=r2.length
   have key:RcAt A s (.ref a) (.ref b) (beqTs l m)/\RcNeAt A s (.ref a) (.ref b) (!beqTs l m):=by
    by_cases hl:l.length=m.length
    ·obtain⟨e,he,hb⟩:=items l m us vs hd r1 r2
     have q:=nt l m e hb
     have q2:beqTs l m=(Oz us.toArray.size).all e:=by
      rw[q,hl,U6];simp[l2.symm,hl.symm,l1]
     rw[q2]
     have hsz:us.toArray.size=vs.toArray.size:=by simp;omega
     exact⟨RcAt.lists h1 h2 hsz (by omega) he,RcNeAt.lists h1 h2 hsz (by omega) he⟩
    ·rw[sV hl]
     have hsz:(us.toArray.size != vs.toArray.size)=ZC:=by simp;omega
     exact⟨RcAt.lists_lengths h1 h2 hsz (by omega),RcNeAt.lists_lengths h1 h2 hsz (by omega)⟩
   refine⟨?_,key⟩
   by_cases hab:a=b
   ·subst hab
    have:=dA h1 h2;subst this;rw[ReVs.refl r1 r2];exact EqAt.same _
   ·exact EqAt.of_refs hab key.1
  cases x with
  |tup l=>
   cases y with
   |tup m=>
    unfold ReV at rx ry;obtain⟨a,us,rfl,h1,r1⟩:=rx;obtain⟨b,vs,rfl,h2,r2⟩:=ry
    have hd':deps l<=n\/deps m<=n:=by
     simp only[T.dep]at hd;omega
    have l1:=r1.length
    have l2:=r2.length;obtain⟨e,he,hb⟩:=items l m us vs hd' r1 r2
    have q:=nt l m e hb
    have q2:beqTs l m=((Oz (min us.toArray.size vs.toArray.size)).all e&&us.toArray.size == vs.toArray.size):=by
     rw[q];simp[l1,l2]
    have key:RcAt A s (.ref a) (.ref b) (beqTs l m)/\RcNeAt A s (.ref a) (.ref b) (!beqTs l m):=by
     rw[q2];exact⟨RcAt.tuples h1 h2 (by omega) he,RcNeAt.tuples h1 h2 (by omega) he⟩
    unfold bc;refine⟨?_,key⟩
    by_cases hab:a=b
    ·subst hab
     have:=jZ h1 h2;subst this;rw[ReVs.refl r1 r2];exact EqAt.same _
    ·exact EqAt.of_refs hab key.1
   |_=>exact xE A s _ _ u v (by simp[kx]) (by omega) rx ry
  |lst l=>
   cases y with
   |lst m=>
    unfold ReV at rx ry;obtain⟨a,us,rfl,h1,r1⟩:=rx;obtain⟨b,vs,rfl,h2,r2⟩:=ry;unfold bc
    exact lists l m a b us vs (by simp only[T.dep]at hd;omega) r1 r2 h1 h2
   |scr m=>
    unfold ReV at rx ry;obtain⟨a,us,rfl,h1,r1⟩:=rx;obtain⟨b,vs,rfl,h2,r2⟩:=ry;unfold bc
    exact lists l (m.map T.int) a b us vs (by rw[gC];omega) r1 (eV r2) h1 h2
   |_=>exact xE A s _ _ u v (by simp[kx]) (by omega) rx ry
  |scr l=>
   cases y with
   |lst m=>
    unfold ReV at rx ry;obtain⟨a,us,rfl,h1,r1⟩:=rx;obtain⟨b,vs,rfl,h2,r2⟩:=ry;unfold bc;rw[qC]
    exact lists (l.map T.int) m a b us vs (by rw[gC];omega) (eV r1) r2 h1 h2
   |scr m=>
    unfold ReV at rx ry;obtain⟨a,us,rfl,h1,r1⟩:=rx;obtain⟨b,vs,rfl,h2,r2⟩:=ry;unfold bc;rw[tI]
    exact lists (l.map T.int) (m.map T.int) a b us vs (by rw[gC];omega) (eV r1) (eV r2) h1 h2
   |_=>exact xE A s _ _ u v (by simp[kx]) (by omega) rx ry
  |_=>exact xE A s _ _ u v (by simp[kx]) (by omega) rx ry
mutual
def T.nf:T->T
 |.tup l=>.tup (nfs l)
 |.lst l=>.lst (nfs l)
 |.scr l=>.lst (l.map .int)
 |.non=>.non
 |.bl b=>.bl b
 |.int b=>.int b
 |.str b=>.str b
 |.dct a b=>.dct a b
 |.ob a b c=>.ob a b c
def nfs:List T->List T
 |[] =>[]
 |t::l=>t.nf::nfs l
end
theorem wU:∀(l:List Int),nfs (l.map T.int)=l.map T.int
 |[] =>rfl
 |i::l=>by rw[Nd,nfs,wU l];simp[T.nf]
mutual
theorem mJ:∀(t x:T),bc t.nf x=bc t x
 |.non,x=>by simp[T.nf]
 |.bl _,x=>by simp[T.nf]
 |.int _,x=>by simp[T.nf]
 |.str _,x=>by simp[T.nf]
 |.tup l,x=>by cases x <;> simp[T.nf,bc,beqTs_nf l]
 |.lst l,x=>by cases x <;> simp[T.nf,bc,beqTs_nf l]
 |.scr l,x=>by cases x <;> simp[T.nf,bc,qC,tI]
 |.dct _ _,x=>by simp[T.nf]
 |.ob _ _ _,x=>by simp[T.nf]
theorem beqTs_nf:∀(l m:List T),beqTs (nfs l) m=beqTs l m
 |[],m=>by simp[nfs]
 |t::l,m=>by cases m <;> simp[nfs,beqTs,mJ t,beqTs_nf l]
end
def JB{t:T}{k:Tok}(r:ReV s t (.int i k)):t.nf=.int i:=by
 cases t with
 |non=>unfold ReV at r;cases r
 |bl b=>unfold ReV at r;cases r
 |int j=>unfold ReV at r;obtain⟨t,e⟩:=r;injection e with e1 _;subst e1;rfl
 |str x=>unfold ReV at r;obtain⟨t,e⟩:=r;cases e
 |tup l=>unfold ReV at r;obtain⟨a,its,e,_⟩:=r;cases e
 |lst l=>unfold ReV at r;obtain⟨a,its,e,_⟩:=r;cases e
 |scr l=>unfold ReV at r;obtain⟨a,its,e,_⟩:=r;cases e
 |dct _ _=>unfold ReV at r;exact r.elim
 |ob _ _ _=>unfold ReV at r;exact r.elim
theorem Al:∀{l:List T}{us:List Nf}{ns:List Int},ReVs s l us->Po us ns->nfs l=ns.map T.int
 |[],us,ns,r,h=>by cases ReVs.AC.mp r;cases h;rfl
 |t::l,us,ns,r,h=>by
  obtain⟨u,ws,rfl,p,q⟩:=ReVs.me.mp r
  cases h with
  |cons a b hh=>rw[nfs,JB p,Al q hh];rfl
mutual
theorem ReV.nf{s:Ng}:∀{t u:T}{v:Nf},ReV s t v->ReV s u v->t.nf=u.nf
 |.non,u,v,r,q=>by
  unfold ReV at r;subst r
  cases u <;> (unfold ReV at q) <;> first|rfl| (cases q;done)| (obtain⟨_,e⟩:=q;cases e;done)| (obtain⟨_,_,e,_⟩:=q;cases e;done)
 |.bl b,u,v,r,q=>by
  unfold ReV at r;subst r
  cases u <;> (unfold ReV at q) <;> first| (cases q;done)| (cases q;rfl)| (obtain⟨_,e⟩:=q;cases e;done)| (obtain⟨_,_,e,_⟩:=q;cases e;done)
 |.int b,u,v,r,q=>by
  unfold ReV at r;obtain⟨k,rfl⟩:=r
  cases u <;> (unfold ReV at q) <;> first| (cases q;done)| (obtain⟨_,e⟩:=q;cases e;done)| (obtain⟨_,e⟩:=q;cases e;rfl)| (obtain⟨_,_,e,_⟩:=q;cases e;done)
 |.str b,u,v,r,q=>by
  unfold ReV at r;obtain⟨k,rfl⟩:=r
  cases u <;> (unfold ReV at q) <;> first| (cases q;done)| (obtain⟨_,e⟩:=q;cases e;done)| (obtain⟨_,e⟩:=q;cases e;rfl)| (obtain⟨_,_,e,_⟩:=q;cases e;done)
 |.tup l,u,v,r,q=>by
  unfold ReV at r;obtain⟨a,its,rfl,h1,h2⟩:=r
  cases u with
  |non=>unfold ReV at q;cases q
  |dct _ _=>unfold ReV at q;exact q.elim
  |ob _ _ _=>unfold ReV at q;exact q.elim
  |bl _=>unfold ReV at q;cases q
  |int _=>unfold ReV at q;obtain⟨_,e⟩:=q;cases e
  |str _=>unfold ReV at q;obtain⟨_,e⟩:=q;cases e
  |tup m=>
   unfold ReV at q;obtain⟨a',its',e,h1',h2'⟩:=q;injection e with e;subst e
   have:=jZ h1 h1';subst this;unfold T.nf
   rw[ReVs.nf h2 h2']
  |lst m=>unfold ReV at q;obtain⟨a',its',e,h1',h2'⟩:=q;injection e with e;subst e;exact absurd rfl (ne_of_list_tuple h1' h1)
  |scr m=>unfold ReV at q;obtain⟨a',its',e,h1',h2'⟩:=q;injection e with e;subst e;exact absurd rfl (ne_of_list_tuple h1' h1)
 |.lst l,u,v,r,q=>by
  unfold ReV at r;obtain⟨a,its,rfl,h1,h2⟩:=r
  cases u with
  |non=>unfold ReV at q;cases q
  |dct _ _=>unfold ReV at q;exact q.elim
  |ob _ _ _=>unfold ReV at q;exact q.elim
  |bl _=>unfold ReV at q;cases q
  |int _=>unfold ReV at q;obtain⟨_,e⟩:=q;cases e
  |str _=>unfold ReV at q;obtain⟨_,e⟩:=q;cases e
  |lst m=>
   unfold ReV at q;obtain⟨a',its',e,h1',h2'⟩:=q;injection e with e;subst e
   have:=dA h1 h1';subst this;unfold T.nf
   rw[ReVs.nf h2 h2']
  |tup m=>unfold ReV at q;obtain⟨a',its',e,h1',h2'⟩:=q;injection e with e;subst e;exact absurd rfl (ne_of_list_tuple h1 h1')
  |scr m=>
   unfold ReV at q;obtain⟨a',its',e,h1',h2'⟩:=q;injection e with e;subst e
   have:=dA h1 h1';subst this;unfold T.nf
   rw[ReVs.nf h2 (eV h2'),wU]
 |.scr l,u,v,r,q=>by
  unfold ReV at r;obtain⟨a,its,rfl,h1,h2⟩:=r
  cases u with
  |non=>unfold ReV at q;cases q
  |dct _ _=>unfold ReV at q;exact q.elim
  |ob _ _ _=>unfold ReV at q;exact q.elim
  |bl _=>unfold ReV at q;cases q
  |int _=>unfold ReV at q;obtain⟨_,e⟩:=q;cases e
  |str _=>unfold ReV at q;obtain⟨_,e⟩:=q;cases e
  |lst m=>
   unfold ReV at q;obtain⟨a',its',e,h1',h2'⟩:=q;injection e with e;subst e
   have:=dA h1 h1';subst this
   have z:=Al h2' h2;unfold T.nf
   rw[z]
  |tup m=>unfold ReV at q;obtain⟨a',its',e,h1',h2'⟩:=q;injection e with e;subst e;exact absurd rfl (ne_of_list_tuple h1 h1')
  |scr m=>
   unfold ReV at q;obtain⟨a',its',e,h1',h2'⟩:=q;injection e with e;subst e
   have:=dA h1 h1';subst this
   rw[j0 h2 h2']
 |.dct _ _,u,v,r,q=>by unfold ReV at r;exact r.elim
 |.ob _ _ _,u,v,r,q=>by unfold ReV at r;exact r.elim
theorem ReVs.nf{s:Ng}:∀{l m:List T}{us:List Nf},ReVs s l us->ReVs s m us->nfs l=nfs m
 |[],m,us,r,q=>by
  cases ReVs.AC.mp r
  cases m with
  |nil=>rfl
  |cons _ _=>obtain⟨_,_,e,_⟩:=ReVs.me.mp q;cases e
 |t::l,m,us,r,q=>by
  obtain⟨v,ws,rfl,p,z⟩:=ReVs.me.mp r
  cases m with
  |nil=>cases ReVs.AC.mp q
  |cons u m=>
   obtain⟨v',ws',e,p',z'⟩:=ReVs.me.mp q;injection e with e1 e2
   subst e1 e2;rw[nfs,nfs,ReV.nf p p',ReVs.nf z z']
end
variable{x y:T}
section
variable {a b c:ZG}{fa fb fc:V5}{pos:Pos}
def gQ(x y:T):Bool:=(decide (x.dep<=60)||decide (y.dep<=60))&&(x.nd&&y.nd)
def qr(x y:T):Rs T:=if gQ x y=ZC then .ok (.bl (bc x y))else .bad
def jy(x y:T):Rs T:=if gQ x y=ZC then .ok (.bl (!bc x y))else .bad
def iP(h:x.dep<=60)(hx:x.nd=ZC)(hy:y.nd=ZC):gQ x y=ZC:=by unfold gQ;rw[decide_eq_true h,hx,hy];rfl
def xy(h:y.dep<=60)(hx:x.nd=ZC)(hy:y.nd=ZC):gQ x y=ZC:=by unfold gQ;rw[decide_eq_true h,hx,hy,Bool.or_true];rfl
def kH(h:gQ x y=ZC):x.nd=ZC/\y.nd=ZC:=by
 unfold gQ at h;exact Pq.mp (Pq.mp h).2
def sA(h:gQ x y=ZC):x.dep<=60\/y.dep<=60:=by
 unfold gQ at h
 replace h:=(Pq.mp h).1
 rcases Bool.or_eq_true_iff.mp h with h|h
 ·exact .inl (of_decide_eq_true h)
 ·exact .inr (of_decide_eq_true h)
def pA(hu:X.A.units+60<cLine):OpT X (Og .Eq) qr:=by
 intro bv s σ H O x y vx vy ux uy Q I hf rx ry r1 r2 hp;unfold qr at hp
 split at hp
 ·rename_i h
  have z:=Gu 60 X.A s x y ux uy (sA h) hu (Rep.val I (kH h).1 rx r1) (Rep.val I (kH h).2 ry r2);exact z.2.1 _ _ _ _ ⟨.bl _,H,I,rfl,hp H (Same.refl H) _ (Rep.bl_ _)⟩
 ·exact hp.elim
def jQ(hu:X.A.units+60<cLine):OpT X (Og .NotEq) jy:=by
 intro bv s σ H O x y vx vy ux uy Q I hf rx ry r1 r2 hp;unfold jy at hp
 split at hp
 ·rename_i h
  have z:=Gu 60 X.A s x y ux uy (sA h) hu (Rep.val I (kH h).1 rx r1) (Rep.val I (kH h).2 ry r2);exact z.2.2 _ _ _ _ ⟨.bl _,H,I,rfl,hp H (Same.refl H) _ (Rep.bl_ _)⟩
 ·exact hp.elim
noncomputable def T.items:T->Option (List T)
 |.tup l=>ZA l
 |.lst l=>ZA l
 |.scr l=>ZA (l.map T.int)
 |_=>ZB
def j9(x:T)(l:List T):Bool:=l.any λy=>bc y x
noncomputable def J7(x y:T):Rs T:=match y.items with
 |some l=>if (x.dep<=60\/deps l<=60)/\x.nd=ZC/\y.nd=ZC then .ok (.bl (j9 x l))else .bad
 |none=>.bad
noncomputable def mY(x y:T):Rs T:=match y.items with
 |some l=>if (x.dep<=60\/deps l<=60)/\x.nd=ZC/\y.nd=ZC then .ok (.bl (!j9 x l))else .bad
 |none=>.bad
def zT(rx:ReV s x ux)(hu:A.units+60<cLine)(hd:x.dep<=60\/deps l<=60)(r:ReVs s l us):
  ∃e:Nf->Bool,(∀y∈us,EqAt A s y ux (e y))/\us.any e=j9 x l:=by
 classical
 have ex:∀y∈us,∃t∈l,ReV s t y:=λy hy=>by
  obtain⟨i,hi,rfl⟩:=Qi hy
  have hl:=r.length
  have e1:l[i]?=ZA l[i]:=by simp
  obtain⟨u,q1,q2⟩:=r.get e1
  have:us[i]?=ZA us[i]:=by simp
  rw[this]at q1;cases q1;exact⟨l[i],Oi _,q2⟩
 let e:Nf->Bool:=λy=>decide (∃t∈l,ReV s t y/\bc t x=ZC)
 have dep:∀t∈l,t.dep<=60\/x.dep<=60:=λt ht=>by
  rcases hd with h|h
  ·exact .inr h
  ·obtain⟨i,hi,rfl⟩:=Qi ht
   exact .inl (NV (j7 (i:=i) (by simp)) h)
 have uniq:∀y t t',ReV s t y->ReV s t' y->bc t x=bc t' x:=λy t t' z z'=>by
  rw[<-mJ t,<-mJ t',ReV.nf z z']
 have agree:∀y t,t∈l->ReV s t y->e y=bc t x:=λy t h z=>by
  show decide (∃t∈l,ReV s t y/\bc t x=ZC)=bc t x
  cases q:bc t x with
  |true=>exact decide_eq_true ⟨t,h,z,q⟩
  |false=>
   refine decide_eq_false ?_
   rintro ⟨t',h',z',q'⟩
   rw[<-uniq y t t' z z',q]at q';cases q'
 refine⟨e,λy hy=>?_,?_⟩
 ·obtain⟨t,h,z⟩:=ex y hy
  rw[agree y t h z];exact(Gu 60 A s t x y ux (dep t h) hu z rx).1
 ·have go:∀(l':List T)(us':List Nf),(∀t∈l',t∈l)->ReVs s l' us'->us'.any e=l'.any λy=>bc y x:=by
   intro l'
   induction l' with
   |nil=>intro us' _ r';rw[ReVs.AC.mp r'];rfl
   |cons t l' ih=>
    intro us' sub r';obtain⟨u,ws,rfl,p,q⟩:=ReVs.me.mp r';rw[Qj,Qj,ih ws (λt ht=>sub t (Na _ ht)) q,agree u t (sub t Nb) p]
  exact go l us (λ_ h=>h) r
def si{u:Nf}(r:ReV s y u)(h:y.items=ZA l):∃a us,u=.ref a/\ReVs s l us/\(s.heap.IsTuple a us.toArray\/s.heap.IsList a us.toArray):=by
 cases y with
 |tup m=>cases h;unfold ReV at r;obtain⟨a,us,e,h1,h2⟩:=r;exact⟨a,us,e,h2,.inl h1⟩
 |lst m=>cases h;unfold ReV at r;obtain⟨a,us,e,h1,h2⟩:=r;exact⟨a,us,e,h2,.inr h1⟩
 |scr m=>cases h;unfold ReV at r;obtain⟨a,us,e,h1,h2⟩:=r;exact⟨a,us,e,eV h2,.inr h1⟩
 |_=>cases h
def K1(hu:X.A.units+61<cLine):OpT X (Og .In) J7:=by
 intro bv s σ H O x y vx vy ux uy Q I hf rx ry r1 r2 hp;unfold J7 at hp
 split at hp
 ·rename_i l hl
  split at hp
  ·rename_i hd3
   obtain⟨hd,hnx,hny⟩:=hd3;obtain⟨a,us,rfl,rs,hh⟩:=si (Rep.val I hny ry r2) hl;obtain⟨e,he,ha⟩:=zT (A:=X.A.in1) (Rep.val I hnx rx r1) (by show X.A.units+1+60<cLine;omega) hd rs
   have q:=hp H (Same.refl H) _ (Rep.bl_ (j9 x l))
   have he':∀y,y∈us.toArray->EqAt X.A.in1 s y ux (e y):=λy hy=>he y (by simpa using hy)
   have ha':us.toArray.any e=j9 x l:=by simpa using ha
   rcases hh with hh|hh
   ·exact in_tupleAt e hh he' (by rw[ha'];exact⟨.bl _,H,I,rfl,q⟩)
   ·exact in_listAt e hh he' (by rw[ha'];exact⟨.bl _,H,I,rfl,q⟩)
  ·exact hp.elim
 ·exact hp.elim
def pz(hu:X.A.units+61<cLine):OpT X (Og .NotIn) mY:=by
 intro bv s σ H O x y vx vy ux uy Q I hf rx ry r1 r2 hp;unfold mY at hp
 split at hp
 ·rename_i l hl
  split at hp
  ·rename_i hd3
   obtain⟨hd,hnx,hny⟩:=hd3;obtain⟨a,us,rfl,rs,hh⟩:=si (Rep.val I hny ry r2) hl;obtain⟨e,he,ha⟩:=zT (A:=X.A.in1) (Rep.val I hnx rx r1) (by show X.A.units+1+60<cLine;omega) hd rs
   have q:=hp H (Same.refl H) _ (Rep.bl_ (!j9 x l))
   have he':∀y,y∈us.toArray->EqAt X.A.in1 s y ux (e y):=λy hy=>he y (by simpa using hy)
   have ha':us.toArray.any e=j9 x l:=by simpa using ha
   rcases hh with hh|hh
   ·exact notIn_tupleAt e hh he' (by rw[ha'];exact⟨.bl _,H,I,rfl,q⟩)
   ·exact notIn_listAt e hh he' (by rw[ha'];exact⟨.bl _,H,I,rfl,q⟩)
  ·exact hp.elim
 ·exact hp.elim
noncomputable def ch(g g':T->T->Rs T)(fa fb fc:V5)(Z:En):Rs T:=do
 let x <-fa Z
 let y <-fb Z
 let z <-g x y
 match z with
 |.bl ZC=>do
  let w <-fc Z
  g' y w
 |.bl ZD=>.ok (.bl ZD)
 |_=>.bad
def FD{op':CmpOp}{g g':T->T->Rs T}(ho:OpT X (Og op) g)(ho':OpT X (Og op') g')(ha:cJ X a fa)(hb:cJ X b fb)(hc:cJ X c fc)
  (hm:autoParam (lastMarks [op,op'] [b,c]=ZD) v_):cJ X (.Compare a [op,op'] [b,c] pos) (ch g g' fa fb fc):=by
 intro bv s σ H Q I ⟨Z,O,E,hq⟩
 have h1:=bf E hq;refine Compare_chain (cz (ha bv s σ H _ I h1) λv s1 ⟨x,H1,I1,r1,t,rt,s',E',q1⟩=>chain_link ?_) hm
 have h2:=bf (f:=fb) E' q1;refine cz (hb bv s1 σ H1 _ I1 h2) λu s2 hh_=>?_
 obtain⟨y,H2,I2,r2,t2,rt2,s'',E'',q2⟩:=hh_
 refine cz (ho bv s2 σ H2 O t t2 x y v u (λv' H'=>∃t',Rep X.K O H' t' v'/\Same H2 H'/\Post X H' (match t' with
  |.bl ZC=>fc Z >>= λw=>g' t2 w
  |.bl ZD=>.ok (.bl ZD)
  |_=>.bad) (λt H'=>∀v,Rep X.K O H' t v->Q v H')) I2 (λp=>E''.fresh) (rt.same s'') rt2 r1 r2 (Post.mono q2.bind λt' H' s3 q v rv=>⟨t',rv,s3,q⟩)) λd s3 ⟨z,H3,I3,r3,t3,rt3,sm3,q3⟩=>?_
 have E3:=E''.same sm3
 split at q3
 ·cases Rep.FB.mp rt3
  cases r3;refine OL (ite_tt (chain_last ?_))
  have h4:=bf (f:=fc) E3 q3;refine cz (hc bv s3 σ H3 _ I3 h4) λw' s4 ⟨z',H4,I4,r4,t4,rt4,s4',E4,q4⟩=>?_
  exact ho' bv s4 σ H4 O t2 t4 y z' u w' Q I4 (λp=>E4.fresh) ((rt2.same sm3).same s4') rt4 r2 r4 q4
 ·cases Rep.FB.mp rt3
  cases r3;refine OL (ite_ff ⟨.bl ZD,H3,I3,rfl,q3 H3 (Same.refl H3) _ (Rep.bl_ ZD)⟩)
 ·exact q3.elim
def tb(f:V5)(Z:En):Rs Bool:=do
 let x <-f Z
 match x with
 |.bl k=>.ok k
 |_=>.bad
def bt(f:V6)(Z:En):Rs T:=do
 let k <-f Z
 .ok (.bl k)
def Ia{f:V5}(h:cJ X e f)(he:autoParam (∀whole,isTrue e X.env whole=(do let v <-whole;standAt e.pos;holding [v] (truthy v))) t_):xS X e (tb f):=by
 intro bv s σ H Q I ⟨Z,O,E,hq⟩;refine IF h he bv s σ H Q I ?_
 obtain⟨Z1,O1,E1,h1⟩:=bf E hq;refine⟨Z1,O1,E1,Post.mono h1 λts H1 s1 q vs r=>?_⟩
 obtain⟨t',r',s',E',q'⟩:=q vs r
 split at q'
 ·exact⟨_,Rep.FB.mp r',q' H1 (Same.refl H1)⟩
 ·exact q'.elim
def Ic{g:T->T->Rs T}(ho:OpT X (Og op) g)(ha:cJ X a fa)(hb:cJ X b fb)(hm:QL op b=ZD:=by rfl):xS X (.Compare a [op] [b] pos) (tb (o2 g fa fb)):=by
 intro bv s σ H Q I ⟨Z,O,E,hq⟩
 have hq':Post X H (o2 g fa fb Z) λt H'=>∀v,Rep X.K O H' t v->∃k,v=.bl k/\Q k H':=Post.mono hq.bind λt H' s' q v r=>by
  split at q
  ·exact⟨_,Rep.FB.mp r,q H' (Same.refl H')⟩
  ·exact q.elim
 have h1:=bf E hq';refine Tx (cz (ha bv s σ H _ I h1) λv s1 ⟨x,H1,I1,r1,t,rt,s',E',q1⟩=>?_) hm
 have h2:=bf (f:=fb) E' q1;refine cz (hb bv s1 σ H1 _ I1 h2) λu s2 hh_=>?_
 obtain⟨y,H2,I2,r2,t2,rt2,s'',E'',q2⟩:=hh_;refine cz (ho bv s2 σ H2 O t t2 x y v u _ I2 (λp=>E''.fresh) (rt.same s'') rt2 r1 r2 q2) λd s3 hh_=>?_
 obtain⟨z,H3,I3,r3,k,e,q3⟩:=hh_;subst e;cases r3;exact OL ⟨H3,I3,q3⟩
def kP(f g:V6)(Z:En):Rs Bool:=do
 let k <-f Z
 if k then g Z else .ok ZD
def l8(f g:V6)(Z:En):Rs Bool:=do
 let k <-f Z
 if k then .ok ZC else g Z
def dt(f:V6)(Z:En):Rs Bool:=do
 let k <-f Z
 .ok (!k)
variable {f g:V6}{rest:List ZG}
abbrev Hu(X:Cx)(e:ZG)(f:V6):Prop:=PW X e (zy X f)
def Fi(ha:xS X a f):Hu X (.BoolOp .And [a] pos) f:=FG ha
def HZ(ha:xS X a f):Hu X (.BoolOp .Or [a] pos) f:=IC ha
def H0(ha:xS X a f)(hb:Hu X (.BoolOp .And (b::rest) pos) g):Hu X (.BoolOp .And (a::b::rest) pos) (kP f g):=by
 intro wh bv s σ H Q I ⟨Z,O,E,hq⟩;refine IE ha hb wh bv s σ H Q I ?_
 obtain⟨Z1,O1,E1,h1⟩:=lQ E hq;refine⟨Z1,O1,E1,Post.mono h1 λk H1 s1 q=>?_⟩
 obtain⟨s',E',q'⟩:=q
 cases k with
 |true=>rw[if_pos rfl];exact⟨Z,O,E',by simpa using q'⟩
 |false=>rw[if_neg NJ];exact q' H1 (Same.refl H1)
def Kv(ha:xS X a f)(hb:Hu X (.BoolOp .Or (b::rest) pos) g):Hu X (.BoolOp .Or (a::b::rest) pos) (l8 f g):=by
 intro wh bv s σ H Q I ⟨Z,O,E,hq⟩;refine KU ha hb wh bv s σ H Q I ?_
 obtain⟨Z1,O1,E1,h1⟩:=lQ E hq;refine⟨Z1,O1,E1,Post.mono h1 λk H1 s1 q=>?_⟩
 obtain⟨s',E',q'⟩:=q
 cases k with
 |true=>rw[if_pos rfl];exact q' H1 (Same.refl H1)
 |false=>rw[if_neg NJ];exact⟨Z,O,E',by simpa using q'⟩
def qt_w(h:Hu X e f):xS X e f:=h.pt
def Ib(ha:xS X a f):xS X (.UnaryOp .Not a pos) (dt f):=by
 intro bv s σ H Q I ⟨Z,O,E,hq⟩;refine IG ha bv s σ H Q I ?_
 obtain⟨Z1,O1,E1,h1⟩:=lQ E hq;exact⟨Z1,O1,E1,Post.mono h1 λk H1 s1 ⟨s',E',q'⟩=>q' H1 (Same.refl H1)⟩
def cE(f g:V5)(Z:En):Rs T:=do
 let x <-f Z
 match x with
 |.bl ZC=>g Z
 |.bl ZD=>.ok (.bl ZD)
 |_=>.bad
def BD(f g:V5)(Z:En):Rs T:=do
 let x <-f Z
 match x with
 |.bl ZC=>.ok (.bl ZC)
 |.bl ZD=>g Z
 |_=>.bad
def yD:T->Rs T
 |.bl k=>.ok (.bl (!k))
 |_=>.bad
def KG{op}(h:cJ X a fa):cJ X (.BoolOp op [a] pos) fa:=IM h
def KS(ha:cJ X a fa)(hb:cJ X (.BoolOp .And (b::rest) pos) fb):cJ X (.BoolOp .And (a::b::rest) pos) (cE fa fb):=by
 intro bv s σ H Q I ⟨Z,O,E,hq⟩;refine IT ha hb bv s σ H Q I ?_
 obtain⟨Z1,O1,E1,h1⟩:=bf E hq;refine⟨Z1,O1,E1,Post.mono h1 λts H1 s1 q vs r=>?_⟩
 obtain⟨t',r',s',E',q'⟩:=q vs r
 split at q'
 ·exact⟨ZC,Rep.FB.mp r',by rw[if_pos rfl];exact⟨Z,O,E',q'⟩⟩
 ·exact⟨ZD,Rep.FB.mp r',by rw[if_neg NJ];exact q' H1 (Same.refl H1) _ (Rep.bl_ ZD)⟩
 ·exact q'.elim
def q_or(ha:cJ X a fa)(hb:cJ X (.BoolOp .Or (b::rest) pos) fb):cJ X (.BoolOp .Or (a::b::rest) pos) (BD fa fb):=by
 intro bv s σ H Q I ⟨Z,O,E,hq⟩;refine KZ ha hb bv s σ H Q I ?_
 obtain⟨Z1,O1,E1,h1⟩:=bf E hq;refine⟨Z1,O1,E1,Post.mono h1 λts H1 s1 q vs r=>?_⟩
 obtain⟨t',r',s',E',q'⟩:=q vs r
 split at q'
 ·exact⟨ZC,Rep.FB.mp r',by rw[if_pos rfl];exact q' H1 (Same.refl H1) _ (Rep.bl_ ZC)⟩
 ·exact⟨ZD,Rep.FB.mp r',by rw[if_neg NJ];exact⟨Z,O,E',q'⟩⟩
 ·exact q'.elim
def KH(ha:cJ X a fa):cJ X (.UnaryOp .Not a pos) (o1 yD fa):=by
 intro bv s σ H Q I ⟨Z,O,E,hq⟩;refine IP ha bv s σ H Q I ?_
 obtain⟨Z1,O1,E1,h1⟩:=bf E hq;refine⟨Z1,O1,E1,Post.mono h1 λts H1 s1 q vs r=>?_⟩
 obtain⟨t',r',s',E',q'⟩:=q vs r;unfold yD at q'
 split at q'
 ·exact⟨_,Rep.FB.mp r',q' H1 (Same.refl H1) _ (Rep.bl_ _)⟩
 ·exact q'.elim
noncomputable def qi(f:V6)(fa fb:V5)(Z:En):Rs T:=do
 let k <-f Z
 if k then fa Z else fb Z
def q_if(hc:xS X c f)(ha:cJ X a fa)(hb:cJ X b fb):cJ X (.IfExp c a b pos) (qi f fa fb):=by
 intro bv s σ H Q I ⟨Z,O,E,hq⟩;refine CI hc ha hb bv s σ H Q I ?_
 obtain⟨Z1,O1,E1,h1⟩:=lQ E hq;refine⟨Z1,O1,E1,Post.mono h1 λk H1 s1 q=>?_⟩
 obtain⟨s',E',q'⟩:=q
 cases k with
 |true=>rw[if_pos rfl];exact⟨Z,O,E',by simpa using q'⟩
 |false=>rw[if_neg NJ];exact⟨Z,O,E',by simpa using q'⟩
end
end Tr
namespace HT
open PySem PyProof.Rows
def kR{t:ZE}{items:Array Nf}{Q:Bool->Ng->Prop}(ht:VS s.heap t items)(h:Q ZC s):ZJ (ZK prog w) A (R3 (.ref t)) Q E s:=by
 unfold R3;refine M7 (Qe ht.typeIs (Nh ?_))
 exact h
def getItem_tuple_whole{t sl:ZE}{items:Array Nf}(ht:VS s.heap t items)(hs:s.heap.IsSliceOf sl vl vu .none)(pl:Uz vl lo)(pu:Uz vu hi)
  (hw:sIx items.size 0 lo=0/\sIx items.size items.size hi=items.size) (h:Q (.ref t) s):ZJ (ZK prog w) A (getItem (.ref t) (.ref sl)) Q E s:=by
 obtain⟨os,hos,hcs,hds⟩:=id hs
 have hTs:s.TypeIs (.ref sl) "slice":=⟨os,hos,hcs⟩;unfold getItem
 try with_reducible refine OA ?_
 first|refine M7 (Nh ?_)|skip
 refine M7 (UY ht.typeIs (by decide) ?_)
 refine M7 (NT (name:=Nt "__getitem__") ht.typeIs Oo
  (N9 Oo ht.typeIs Ub ?_ (UA _ _)))
 show ZJ _ _ (R1 (.ref t) >>= _) _ _ s
 refine M7 (UB ht ?_)
 refine M7 (Qe hTs ?_)
 rw[if_pos (by decide)]
 refine M7 (iG hs pl pu ?_)
 have hyes:(((sIx items.size 0 lo:Nat):Int) == 0&&(1:Int) == 1&&(sIx items.size items.size hi - sIx items.size 0 lo) == items.size)=ZC:=by
  rw[hw.1,hw.2];simp
 show ZJ _ _ (if (((sIx items.size 0 lo:Nat):Int) == 0&&(1:Int) == 1&&(sIx items.size items.size hi - sIx items.size 0 lo) == items.size)=ZC then _ else _) _ _ s
 rw[if_pos hyes]
 first
  |refine M7 (kR ht ?_)
  |refine kR ht ?_
 try rw[if_pos rfl]
 first
  |exact M7 (Qa (Nh ⟨_,rfl,Nh h⟩))
  |exact M7 (Qa (M7 (Nh (Nh ⟨_,rfl,Nh h⟩))))
end HT
variable{i:Nat}
namespace Tr
open PySem PySem.Spec PyProof.Rows L2
variable{H:Hp}{O:Ow}{X:Cx}{Z:En}{e:ZG}{es:List ZG}{fa fb fc:V5}{l:List T}{p:Pos}{v:V}{vs:List V}{x:Str}{σ:L2.St}
section
variable {a b c:ZG}{pos:Pos}
theorem Reps.atI{i:Int}{t:T}(r:Reps K O H l vs)(e:L2.atI l i=ZA t):∃v,L2.atI vs i=ZA v/\Rep K O H t v:=by
 unfold L2.atI at e ⊢;rw[r.length]at e
 cases q:ixN vs.length i with
 |none=>rw[q]at e;cases e
 |some j=>
  rw[q]at e;obtain⟨v,e1,e2⟩:=r.get (i:=j) (t:=t) e;exact⟨v,e1,e2⟩
def aY(x y:T):Rs T:=match x.items,y with
 |some l,.int i=>match L2.atI l i with
  |some t=>.ok t
  |none=>.bad
 |_,_=>.bad
def q_ix(ha:cJ X a fa)(hb:cJ X b fb)(hs:autoParam (AE b) w_):cJ X (.Subscript a b pos) (o2 aY fa fb):=by
 intro bv s σ H Q I ⟨Z,O,E,hq⟩
 have h1:=bf E hq;refine Subscript_ (cz (ha bv s σ H _ I h1) λv s1 hh_=>?_)
 obtain⟨x,H1,I1,r1,t,rt,s',E',q1⟩:=hh_
 have h2:=bf (f:=fb) E' q1;refine cz (hb bv s1 σ H1 _ I1 h2) λu s2 hh_=>?_
 obtain⟨y,H2,I2,r2,t2,rt2,s'',E'',q2⟩:=hh_
 have rt':=rt.same s'';unfold aY at q2
 split at q2
 ·rename_i l i hl
  split at q2
  ·rename_i z hz
   have hy:=Rep.Da.mp rt2;refine Jz a b bv s2 σ H2 x y v u Q I2 r1 r2 ?_ (hs _ _)
   cases t with
   |tup m=>
    cases hl;obtain⟨p,vs,e,n,q,rr⟩:=Rep.Do.mp rt';obtain⟨w,ew,rw'⟩:=rr.atI hz
    exact .inr (.inl ⟨p,vs,i,w,e,hy,SqT.of q,ew,q2 H2 (Same.refl H2) _ rw'⟩)
   |lst m=>
    cases hl;obtain⟨p,vs,e,n,q,rr⟩:=Rep.Fk.mp rt';obtain⟨w,ew,rw'⟩:=rr.atI hz
    exact .inl ⟨p,vs,i,w,e,hy,SqL.of q,ew,q2 H2 (Same.refl H2) _ rw'⟩
   |scr m=>
    cases hl;unfold Rep at rt';obtain⟨p,e,n,q⟩:=rt';obtain⟨w,ew,rw'⟩:=(Reps.ints (K:=X.K) (O:=O) (H:=H2) (ns:=m)).atI hz
    exact .inl ⟨p,_,i,w,e,hy,q,ew,q2 H2 (Same.refl H2) _ rw'⟩
   |_=>cases hl
  ·exact q2.elim
 ·exact q2.elim
noncomputable def vc(l:List T)(lo hi:Option Int):List T:=(l.drop (HT.sIx l.length 0 lo)).take (HT.sIx l.length l.length hi - HT.sIx l.length 0 lo)
def Reps.cut(r:Reps K O H l vs)(lo hi:Option Int):Reps K O H (vc l lo hi) (xK vs lo hi):=by
 unfold vc xK;rw[r.length];exact(r.drop _).take _
def Bt(h:HT.sIx l.length 0 lo=0/\HT.sIx l.length l.length hi=l.length):vc l lo hi=l:=by
 unfold vc;rw[h.1,h.2];simp
def sl_tup_whole:SlR X (λx lo hi H Q=>∃a xs,x=.ref a/\SqT X.K H a xs/\(HT.sIx xs.length 0 lo=0/\HT.sIx xs.length xs.length hi=xs.length)/\Q (.ref a) H):=by
 intro bv s σ H x v vl vu lo hi sl Q I rx hs pl pu h;obtain⟨a,xs,rfl,hx,hw,q⟩:=h;cases rx;obtain⟨its,r,ht,hz⟩:=I.tuple hx
 have hlen:its.toArray.size=xs.length:=by rw[Nz];exact r.length.symm
 refine⟨"tuple",_,Oo.lookup,ht.typeIs,?_⟩
 exact HT.getItem_tuple_whole ht hs pl pu (by rw[hlen];exact hw) ⟨.ref a,H,I,rfl,q⟩
def pN(_:En):Rs (Option Int):=.ok ZB
def pS(f:V5)(Z:En):Rs (Option Int):=do
 let x <-f Z
 match x with
 |.int i=>.ok (ZA i)
 |_=>.bad
def tPO(X:Cx)(f:En->Rs (Option Int)):TO:=λσ H Q=>∃Z O,EnvO X.K O H Z σ/\Post X H (f Z) λb H'=>Q b H'
abbrev LF(X:Cx)(e:Option ZG)(f:En->Rs (Option Int)):Prop:=PO X e (tPO X f)
def Ft:LF X ZB pN:=by
 intro bv s σ H Q I ⟨Z,O,E,hq⟩;exact FN bv s σ H Q I (hq H (Same.refl H))
def Fs(ha:cJ X a fa):LF X (ZA a) (pS fa):=by
 intro bv s σ H Q I ⟨Z,O,E,hq⟩;refine FL ha bv s σ H Q I ?_
 obtain⟨Z1,O1,E1,h1⟩:=bf E hq;refine⟨Z1,O1,E1,Post.mono h1 λts H1 s1 q vs r=>?_⟩
 obtain⟨t',r',s',E',q'⟩:=q vs r
 split at q'
 ·exact⟨_,Rep.Da.mp r',q' H1 (Same.refl H1)⟩
 ·exact q'.elim
def slT(x:T)(lo hi:Option Int):Rs T:=match x with
 |.tup l=>.ok (.tup (vc l lo hi))
 |.lst l=>.ok (.lst (vc l lo hi))
 |_=>.bad
noncomputable def sl(fe:V5)(fl fu:En->Rs (Option Int))(Z:En):Rs T:=do
 let x <-fe Z
 let l <-fl Z
 let u <-fu Z
 slT x l u
def vM{f:En->Rs (Option Int)}{k:Option Int->Rs α}{Q:α->Hp->Prop}(E:EnvO X.K O H Z σ)(h:Post X H (f Z >>= k) Q):
  tPO X f σ H λb H'=>Same H H'/\EnvO X.K O H' Z σ/\Post X H' (k b) Q:=
 ⟨Z,O,E,Post.mono h.bind λt H' s q=>⟨s,E.same s,q⟩⟩
def FC{lo hi:Option ZG}{p2:Pos}{fl fu:En->Rs (Option Int)}(ha:cJ X a fa)(hl:LF X lo fl)(hu:LF X hi fu):cJ X (.Subscript a (.Slice lo hi ZB p2) pos) (sl fa fl fu):=by
 intro bv s σ H Q I ⟨Z,O,E,hq⟩;refine CG (sl_tup.or (sl_tup_whole.or E8)) ha hl hu bv s σ H Q I ?_
 obtain⟨Z1,O1,E1,h1⟩:=bf E hq;refine⟨Z1,O1,E1,Post.mono h1 λts H1 s1 q vs r=>?_⟩
 obtain⟨t',r',s',E',q'⟩:=q vs r;obtain⟨Z2,O2,E2,h2⟩:=vM E' q';refine⟨Z2,O2,E2,Post.mono h2 λo1 H2 s2 q=>?_⟩
 obtain⟨s2',E2',q2⟩:=q;obtain⟨Z3,O3,E3,h3⟩:=vM E2' q2;refine⟨Z3,O3,E3,Post.mono h3 λo2 H3 s3 q=>?_⟩
 obtain⟨s3',E3',q3⟩:=q
 have rt:=(r'.same s2').same s3';unfold slT at q3
 split at q3
 ·rename_i l
  obtain⟨p,ws,e,n,q,rr⟩:=Rep.Do.mp rt
  have hlen:=rr.length
  by_cases hw:HT.sIx ws.length 0 o1=0/\HT.sIx ws.length ws.length o2=ws.length
  ·refine .inr (.inl ⟨p,ws,e,SqT.of q,hw,?_⟩)
   rw[<-hlen]at hw;refine q3 H3 (Same.refl H3) _ ?_
   rw[Bt hw];exact Rep.Do.mpr ⟨p,ws,rfl,n,q,rr⟩
  ·exact .inl ⟨p,ws,e,SqT.of q,hw,λp' hp=>q3 _ (aV hp _) _ (iI hp (E3'.fresh hp) (rr.cut o1 o2))⟩
 ·rename_i l
  obtain⟨p,ws,e,n,q,rr⟩:=Rep.Fk.mp rt;exact .inr (.inr ⟨p,ws,e,SqL.of q,λp' hp=>q3 _ (aV hp _) _ (jN hp (E3'.fresh hp) (rr.cut o1 o2))⟩)
 ·exact q3.elim
def CallT(X:Cx)(f:Nf)(g:List T->Rs T):Prop:=
 ∀(bv:V2)(s:Ng)(σ:L2.St)(H:Hp)(O:Ow)(ts:List T)(vs:List V)(us:List Nf)(Q:VK),Inv X bv σ H s->(∀p,H p=ZB->¬ O p)->Reps X.K O H ts vs->Vals vs us →
  Post X H (g ts) (λt H'=>∀v,Rep X.K O H' t v->Q v H')->ZJ (ZK X.prog X.w) X.A (call f us) (EP X bv σ Q) X.xe s
def CallT.of{f:Nf}{r:List V->Hp->VK->Prop}(h:CallR X f r){g:List T->Rs T}
  (w:∀(H:Hp)(O:Ow)(ts:List T)(vs:List V)(Q:VK),(∀p,H p=ZB->¬ O p)->Reps X.K O H ts vs->Post X H (g ts) (λt H'=>∀v,Rep X.K O H' t v->Q v H')->r vs H Q):CallT X f g:=
 λbv s σ H O ts vs us Q I hf rs rv hp=>h bv s σ H vs us Q I rv (w H O ts vs Q hf rs hp)
def cl(g:List T->Rs T)(fs:V3)(Z:En):Rs T:=fs Z >>= g
variable {fs:V3}{id:String}{g:List T->Rs T}
def FE(hc:CallT X (.builtin id) g)(hm:X.mg x=ZB)(hv:N5 x=ZA (.builtin id))(ha:sW X (e::es) fs)(hg:Gl X x:=by rfl)(hn:autoParam (x≠ "__name__") s_)(hdb:autoParam ((x == ("__debug__" : Str))=ZD) s_)
  (he:NF (e::es) X.env=(ZD,eval e X.env)::NF es X.env:=by rfl) (hpl:(backTo pos (NF es X.env)).any (·.1)=ZD:=by rfl):cJ X (.Call (.Name x p) (e::es) [] pos) (cl g fs):=by
 intro bv s σ H Q I ⟨Z,O,E,hq⟩;refine Oy (fO I hg hm hv ?_ hn hdb)
 have h1:=fh E hq;exact Qc (cz (ha pos bv s σ H _ I h1) λus s1 ⟨vs,H1,I1,r1,ts,rs,s',E',q1⟩=>hc bv s1 σ H1 O ts vs us Q I1 (λp=>E'.fresh) rs r1 q1) he hpl
def Cu(hc:CallT X (.type Ty) g)(hm:X.mg x=ZB)(hv:N5 x=ZA (.type Ty))(ha:sW X (e::es) fs)(hg:Gl X x:=by rfl)(hn:autoParam (x≠ "__name__") s_)(hdb:autoParam ((x == ("__debug__" : Str))=ZD) s_)
  (he:NF (e::es) X.env=(ZD,eval e X.env)::NF es X.env:=by rfl) (hpl:(backTo pos (NF es X.env)).any (·.1)=ZD:=by rfl):cJ X (.Call (.Name x p) (e::es) [] pos) (cl g fs):=by
 intro bv s σ H Q I ⟨Z,O,E,hq⟩;refine Oy (fO I hg hm hv ?_ hn hdb)
 have h1:=fh E hq;exact N1 (cz (ha pos bv s σ H _ I h1) λus s1 ⟨vs,H1,I1,r1,ts,rs,s',E',q1⟩=>hc bv s1 σ H1 O ts vs us Q I1 (λp=>E'.fresh) rs r1 q1) he hpl
def Reps.one{t:T}(r:Reps K O H [t] vs):∃v,vs=[v]/\Rep K O H t v:=by
 obtain⟨v,ws,rfl,p,q⟩:=Reps.me.mp r;cases Reps.AC.mp q;exact⟨v,rfl,p⟩
def Rep.sq{t:T}(r:Rep K O H t v)(h:t.items=ZA l):∃a vs,v=.ref a/\¬ O a/\Reps K O H l vs/\(SqL K H a vs\/SqT K H a vs):=by
 cases t with
 |tup m=>cases h;obtain⟨a,vs,e,n,q,z⟩:=Rep.Do.mp r;exact⟨a,vs,e,n,z,.inr (SqT.of q)⟩
 |lst m=>cases h;obtain⟨a,vs,e,n,q,z⟩:=Rep.Fk.mp r;exact⟨a,vs,e,n,z,.inl (SqL.of q)⟩
 |scr m=>cases h;unfold Rep at r;obtain⟨a,e,n,q⟩:=r;exact⟨a,_,e,n,Reps.ints,.inl q⟩
 |_=>cases h
noncomputable def dj:List T->Rs T
 |[.str x] =>if x.length<=ZI then .ok (.int x.length)else .bad
 |[x] =>match x.items with
  |some l=>.ok (.int l.length)
  |none=>.bad
 |_=>.bad
def dG:CallT X (.builtin "len") dj:=CallT.of (call_len_seq.or vg) λH O ts vs Q hf rs hp=>by
 unfold dj at hp
 split at hp
 ·obtain⟨v,rfl,r⟩:=rs.one
  split at hp
  ·rename_i h
   exact .inr ⟨_,by rw[Rep.GM.mp r],h,hp H (Same.refl H) _ (Rep.GE _)⟩
  ·exact hp.elim
 ·obtain⟨v,rfl,r⟩:=rs.one
  split at hp
  ·rename_i l hl
   obtain⟨a,vs,rfl,n,z,q⟩:=r.sq hl;exact .inl ⟨a,vs,rfl,q,hp H (Same.refl H) _ (by rw[<-z.length];exact Rep.GE _)⟩
  ·exact hp.elim
 ·exact hp.elim
noncomputable def fL:List T->Rs T
 |[.tup l] =>.ok (.tup l)
 |[.lst l] =>.ok (.tup l)
 |_=>.bad
def iU:CallT X (.type "tuple") fL:=CallT.of rG λH O ts vs Q hf rs hp=>by
 unfold fL at hp
 split at hp
 ·obtain⟨v,rfl,r⟩:=rs.one
  obtain⟨a,ws,rfl,n,q,z⟩:=Rep.Do.mp r;exact⟨a,ws,rfl,.inr ⟨SqT.of q,hp H (Same.refl H) _ (Rep.Do.mpr ⟨a,ws,rfl,n,q,z⟩)⟩⟩
 ·obtain⟨v,rfl,r⟩:=rs.one
  obtain⟨a,ws,rfl,n,q,z⟩:=Rep.Fk.mp r;exact⟨a,ws,rfl,.inl ⟨SqL.of q,λl hl=>hp _ (aV hl _) _ (iI hl (hf l hl) z)⟩⟩
 ·exact hp.elim
noncomputable def DA:List T->Rs T
 |[.int i] =>.ok (.int i)
 |[.bl k] =>.ok (.int (if k then 1 else 0))
 |_=>.bad
def JW:CallT X (.type "int") DA:=CallT.of Bw λH O ts vs Q hf rs hp=>by
 unfold DA at hp
 split at hp
 ·obtain⟨v,rfl,r⟩:=rs.one
  exact .inl ⟨_,by rw[Rep.Da.mp r],hp H (Same.refl H) _ (Rep.GE _)⟩
 ·obtain⟨v,rfl,r⟩:=rs.one
  exact .inr ⟨_,by rw[Rep.FB.mp r],hp H (Same.refl H) _ (Rep.GE _)⟩
 ·exact hp.elim
noncomputable def qB:List T->Option (List Bool)
 |[] =>ZA []
 |.bl k::r=>(qB r).map (k:: ·)
 |_=>ZB
noncomputable def rH:List T->Rs T
 |[.lst l] =>match qB l with
  |some ks=>.ok (.bl (ks.all λk=>k))
  |none=>.bad
 |_=>.bad
theorem qA:∀{l:List T}{ks:List Bool}{vs:List V}{us:List Nf},qB l=ZA ks->Reps K O H l vs->Vals vs us->us=ks.map OK
 |[],ks,vs,us,e,r,v=>by cases e;cases Reps.AC.mp r;cases v;rfl
 |t::l,ks,vs,us,e,r,v=>by
  obtain⟨w,ws,rfl,p,q⟩:=Reps.me.mp r
  cases t with
  |bl k=>
   unfold qB at e
   cases z:qB l with
   |none=>rw[z]at e;cases e
   |some ks'=>
    rw[z]at e;cases e
    cases v with
    |cons v1 v2=>
     cases Rep.FB.mp p;cases v1
     rw[qA z q v2];rfl
  |_=>cases e
def vd(hc:X.calm=ZC):CallT X (.builtin "all") rH:=by
 intro bv s σ H O ts vs us Q I hf rs rv hp;unfold rH at hp
 split at hp
 ·obtain⟨v,rfl,r⟩:=rs.one
  split at hp
  ·rename_i ks hk
   obtain⟨a,ws,rfl,n,q,z⟩:=Rep.Fk.mp r;obtain⟨u,rfl,ru⟩:=kQ rv;cases ru;obtain⟨its,r',pl,hz⟩:=I.list (SqL.of q)
   have hits:=qA hk z r';refine call_all_walk (QK pl.isList ?_)
   have hne:a≠s.heap.objs.size:=λe=>by
    obtain⟨o,ho,_⟩:=pl.isList;rw[e]at ho;exact absurd (Np ho) (NK _)
   refine⟨s.heap.objs.size,_,_,_,_,_,λi=>(ks[i]?).getD ZC,rfl,Walks.list (A:=X.A.in1) (I.ok.hd hc) s.heap.objs.size a hne its.toArray,⟨⟨_,Nn _ rfl,rfl,rfl⟩,?_⟩,?_,?_⟩
   ·obtain⟨o,ho,hh⟩:=pl.isList
    exact⟨o,M8 _ ho,hh⟩
   ·intro i v s' Q' E' hP hQ'
    subst hits
    dsimp only at hQ'
    have hP':(ks.map OK)[i]?=ZA v:=by simpa using hP
    rw[NC]at hP'
    cases e:ks[i]? with
    |none=>rw[e]at hP';cases hP'
    |some k=>
     rw[e]at hP' hQ';cases hP';exact OL hQ'
   ·intro h' tk hk'
    have hlen:its.toArray.size=ks.length:=by rw[hits];simp
    have e:((Oz its.toArray.size).all λi=>(ks[i]?).getD ZC)=(ks.all λk=>k):=by
     rw[hlen];rw[Bool.eq_iff_iff,NN,NN]
     constructor
     ·intro h x hx
      obtain⟨i,hi,rfl⟩:=Qi hx
      have:=h i (OJ.mpr hi)
      simpa [hi]using this
     ·intro h i hi
      have hi':=OJ.mp hi
      have:=h ks[i] (Oi hi')
      simpa [hi']using this
    rw[e]
    have I1:Inv X bv σ H {s with heap:=s.heap.push {cls:=.type "list_iterator",data:=.fields #[.ref a,.int 0 0]}}:=I.kept (t':=s.toks) λb o e=>M8 _ e
    have I2:Inv X bv σ H {s with heap:=h',toks:=tk}:=by
     have:=I1.turned (h':=h') (t':=tk) (it:=s.heap.objs.size) (λb o hb e=>hk' b o (by simpa using hb) e) (I.hok.fresh (Nr _))
      (Qd I.lt) (.inr I.sz) (λx c e z=>?_) (λp hp z=>?_)
     ·exact this
     ·obtain⟨v,q⟩:=I.cell x c e
      exact absurd (Nq q.lt (Pt z.symm)) (NK _)
     ·exact absurd (Nq (Np (I.pin p hp).1) (Pt z.symm)) (NK _)
    exact⟨.bl _,H,I2,rfl,hp H (Same.refl H) _ (Rep.bl_ _)⟩
  ·exact hp.elim
 ·exact hp.elim
end
noncomputable def T.ty:T->Option String
 |.non=>ZA "NoneType"
 |.bl _=>ZA "bool"
 |.int _=>ZA "int"
 |.str _=>ZA "str"
 |.tup _=>ZA "tuple"
 |.lst _=>ZA "list"
 |.scr _=>ZB
 |.dct _ _=>ZB
 |.ob _ _ _=>ZB
noncomputable def xA(i b t l s:Bool)(Ty:String):Option Bool:=match Ty with
 | "int" =>ZA i| "bool" =>ZA b| "tuple" =>ZA t| "list" =>ZA l| "str" =>ZA s
 |_=>ZB
noncomputable def Ak(n Ty:String):Option Bool:=match n with
 | "NoneType" =>xA ZD ZD ZD ZD ZD Ty
 | "bool" =>xA ZC ZC ZD ZD ZD Ty
 | "int" =>xA ZC ZD ZD ZD ZD Ty
 | "str" =>xA ZD ZD ZD ZD ZC Ty
 | "tuple" =>xA ZD ZD ZC ZD ZD Ty
 | "list" =>xA ZD ZD ZD ZC ZD Ty
 |_=>ZB
def Bh(K:M9){n:String}(h:Ak n Ty=ZA b):PySem.W.kitOne K (.type n) (.type Ty)=ZA b:=by
 unfold Ak at h
 split at h <;> first| (cases h;done)| (unfold xA at h;split at h <;> first| (cases h;done)| (cases h;kernel_rfl))
noncomputable def Gj(Ty:String)(t:T):Rs T:=match t.ty with
 |some n=>match Ak n Ty with
  |some b=>.ok (.bl b)
  |none=>.bad
 |none=>.bad
def Rep.M4{t:T}{n:String}(r:Rep K O H t v)(h:t.ty=ZA n):nA K H v (.type n):=by
 cases t with
 |non=>cases h;cases Rep.KM.mp r;exact .non
 |bl b=>cases h;cases Rep.FB.mp r;exact .bl b
 |int b=>cases h;cases Rep.Da.mp r;exact .int b
 |str b=>cases h;cases Rep.GM.mp r;exact .str b
 |tup l=>cases h;obtain⟨a,vs,rfl,_,q,_⟩:=Rep.Do.mp r;exact .tup q
 |lst l=>cases h;obtain⟨a,vs,rfl,_,q,_⟩:=Rep.Fk.mp r;exact .lst q
 |scr l=>cases h
 |dct _ _=>cases h
 |ob _ _ _=>cases h
variable{H':Hp}{M:Mn}{O':Ow}{g:T->En->Rs En}{gs:List T->En->Rs En}{iter tg:ZG}{bv:V2}{ps:List Str}
section
variable {a b c:ZG}{fs:V3}{pos p2:Pos}
def oj:N5 "isinstance" =ZA (.builtin "isinstance"):=by decide+kernel
def KN{tn:Str}(hm:X.mg "isinstance" =ZB)(hmt:X.mg tn=ZB)(hv:N5 tn=ZA (.type Ty))(ha:cJ X a fa)(hg:Gl X "isinstance":=by rfl)(hgt:Gl X tn:=by rfl)
  (hn:autoParam (tn≠ "__name__") s_) (hd:autoParam ((tn == ("__debug__" : Str))=ZD) s_)
  (he:NF [a,.Name tn p2] X.env=(ZD,eval a X.env)::NF [.Name tn p2] X.env:=by rfl) (hpl:(backTo pos (NF [.Name tn p2] X.env)).any (·.1)=ZD:=by rfl)
  (hs:NF [.Name tn p2] X.env=(ZD,eval (.Name tn p2) X.env)::NF [] X.env:=by rfl):
  cJ X (.Call (.Name "isinstance" p) [a,.Name tn p2] [] pos) (o1 (Gj Ty) fa):=by
 intro bv s σ H Q I ⟨Z,O,E,hq⟩;refine Oy (fO I hg hm oj ?_ (by decide) (by decide))
 have hA:PA X [a,.Name tn p2] (lR (tP X fa) (lR (tC (.ty Ty)) B2)):=ft ha (ft (FZ (v:=.ty Ty) hgt hmt hv rfl hn hd) jP hs) he;obtain⟨Z1,O1,E1,h1⟩:=bf E hq;refine Qc (cz (hA pos bv s σ H (λvs H'=>∃v t,vs=[v,.ty Ty]/\Rep X.K O H' t v/\Post X H' (Gj Ty t) (λt H'=>∀v,Rep X.K O H' t v->Q v H')) I ?_) λus s1 ⟨vs,H1,I1,r1,v,t,e1,rt,q⟩=>?_) he hpl
 ·refine⟨Z1,O1,E1,Post.mono h1 λts H1 s1 q vs r=>?_⟩
  obtain⟨t',r',s',E',q'⟩:=q vs r;exact⟨vs,t',rfl,r',q'⟩
 ·subst e1
  obtain⟨u,w',rfl,ru,rw'⟩:=BV r1;cases rw';unfold Gj at q
  split at q
  ·rename_i n hn'
   split at q
   ·rename_i bb hb
    exact Bg I1 ru (rt.M4 hn') (Bh _ hb) λtk=>⟨.bl bb,H1,I1.tok _,rfl,q H1 (Same.refl H1) _ (Rep.bl_ _)⟩
   ·exact q.elim
  ·exact q.elim
def spP(K:M9)(n:Nat)(g:List T->Rs T):Sp:=λvs H Q _=>∃ts O,Reps K O H ts vs/\(∀a,O a->Mtb H a)/\ts.length=n ∧
 match g ts with
 |.ok t=>∀v H',Same H H'->Rep K O H' t v->Q v H'
 |_=>False
def RzC(P:NH)(w:Ou)(mg:V0)(outer:List Env)(H:Hp)(s:Ng)(c:Str)(ev:Nf)(s':Ng):Prop:=
 ∃e T C H',ev=.ref e/\mg c=ZA (.ref C)/\s'.os=s.os/\SO s'.gens/\Un (uW outer) [] H H' s.heap s'.heap/\HOk P w H' s'.heap/\Same H H'/\H' e=ZB/\s.heap.get? e=ZB/\L4 s'.heap C e (ZA T)/\H' T=ZB/\s.heap.get? T=ZB
def FnX(P:NH)(w:Ou)(K:M9)(mg:V0)(base:ZH)(k:Nat)(f:ZE)(fd:Pn)(ps:List Str)(n:Nat)(g:List T->Rs T):Prop:=
 ∀(A:N4)(outer:List Env)(s:Ng)(H:Hp)(args:Args)(us:List Nf)(vs:List V)(O:Ow)(ts:List T)(c:Str)(R:VL->Ng->Prop),Room k A->Et P w K mg base A outer s H->UX s fd args (ps.zip us)->Vals vs us →
  Reps K O H ts vs->(∀a,O a->Mtb H a)->ts.length=n->g ts=.err c->(∀ev s',RzC P w mg outer H s c ev s'->R (.error ev) s')->ZL (ZK P w) A (.call (.ref f) args) R s
structure J3 (P:NH)(w:Ou)(K:M9)(mg:V0)(base:ZH)(k:Nat)(f:ZE)(fd:Pn)(ps:List Str)(n:Nat)(g:List T->Rs T):Prop where
 h:vq P w K mg base CX0 k f fd ps (spP K n g)
 x:FnX P w K mg base k f fd ps n g
def CT{h:ZH}{a:ZE}{o:HO}(x:ObjOk P w H h a o):∃u,h.get? a=ZA u:=by
 cases o with
 |lst xs=>obtain⟨_,_,_,_,e⟩:=x;exact⟨_,e⟩
 |tup xs=>obtain⟨_,_,_,ob,e,_⟩:=x;exact⟨_,e⟩
 |dK kvs=>obtain⟨_,_,_,_,o,_,_,e,_⟩:=x;exact⟨_,e⟩
 |dT kvs=>obtain⟨_,_,_,_,o,_,_,e,_⟩:=x;exact⟨_,e⟩
 |set S n=>obtain⟨o,_,_,_,e,_⟩:=x;exact⟨_,e⟩
 |ins C dx fs=>obtain⟨_,_,_,e,_⟩:=x;exact⟨_,e⟩
 |own y=>obtain⟨_,e⟩:=x;exact⟨_,e⟩
 |xd fs=>obtain⟨_,⟨_,_,_,e,_⟩,_⟩:=x;exact⟨_,e⟩
 |rng lo hi=>obtain⟨_,_,_,e⟩:=x;exact⟨_,e⟩
 |frz ob u=>obtain⟨e,_⟩:=x;exact⟨_,e⟩
 |tbl ps=>exact⟨_,(show h.get? a=ZA _ from x)⟩
 |met f y=>exact⟨_,(show h.get? a=ZA _ from x)⟩
 |ext φ=>obtain⟨_,⟨_,e⟩,_⟩:=x;exact⟨_,e⟩
def wK(I:Inv X bv σ H s){e:ZE}(n:s.heap.get? e=ZB):H e=ZB:=by
 cases z:H e with
 |none=>rfl
 |some o=>
  obtain⟨o',ho'⟩:=CT (I.hok e o z);rw[n]at ho';cases ho'
def ur(I:Inv X bv σ H s)(hex:X.ex=[]){e:ZE}(n:s.heap.get? e=ZB):X.s₀.heap.get? e=ZB:=by
 cases z:X.s₀.heap.get? e with
 |none=>rfl
 |some o=>
  obtain⟨o',ho'⟩:=I.base.there e o z (by rw[hex];simp)
  rw[n]at ho';cases ho'
def IA{k:Nat}{f:ZE}{g:List T->Rs T}(F:J3 X.prog X.w X.K X.mg X.base k f fd ps n g)(hr:Room k X.A)(hm:X.mg x=ZA (.ref f))(hk:Rt X.K (.ref f)=ZC)(hb:Binds X.K fd ps [])(hps:ps.length=n)
  (hl:∀Z ts,fs Z=.ok ts->ts.length=n) (ha:sW X (e::es) fs) (hg:Gl X x:=by rfl) (hdb:autoParam ((x == ("__debug__" : Str))=ZD) s_) (he:NF (e::es) X.env=(ZD,eval e X.env)::NF es X.env:=by rfl) (hpl:(backTo pos (NF es X.env)).any (·.1)=ZD:=by rfl):
  cJ X (.Call (.Name x p) (e::es) [] pos) (cl g fs):=by
 intro bv s σ H Q I ⟨Z,O,E,hq⟩
 have hq':Post X H (fs Z >>= g) λt H'=>∀v,Rep X.K O H' t v->Q v H':=hq
 cases q:fs Z with
 |bad=>rw[q]at hq';exact hq'.elim
 |err c=>
  rw[q]at hq';refine zL (E:=E0) F.h hr hg hm hk hb .nil Hh ha hdb he hpl bv s σ H Q I ⟨Z,O,E,?_⟩
  rw[q]
  exact hq'
 |ok ts=>
  rw[q]at hq'
  have hq2:Post X H (g ts) λt H'=>∀v,Rep X.K O H' t v->Q v H':=hq'
  cases q2:g ts with
  |bad=>rw[q2]at hq2;exact hq2.elim
  |ok t=>
   rw[q2]at hq2;refine zL (E:=E0) F.h hr hg hm hk hb .nil Hh ha hdb he hpl bv s σ H Q I ⟨Z,O,E,?_⟩
   rw[q];intro H1 s1 vs rs;rw[Oj];refine⟨ts,O,rs,(E.same s1).mtb,hl Z ts q,?_⟩
   rw[q2]
   exact λv H' s2 r=>hq2 H' (s1.trans s2) v r
  |err c=>
   rw[q2]at hq2;refine Oy (ox I hg hm ?_ hdb)
   refine Ug (h₀:=X.base) I.ok.mod.kin hk (cz (ha pos bv s σ H (λvs H'=>Same H H'/\Reps X.K O H' ts vs) I ⟨Z,O,E,?_⟩) (λus s1 ⟨vs,H1,I1,r,sm,rs⟩=>⟨I1.kIn,?_⟩)) he hpl
   ·rw[q];exact λH' sm vs rs=>⟨sm,rs⟩
   ·have hlen:us.length=ps.length:=by rw[<-r.length,<-rs.length,hl Z ts q,hps]
    have hb':=hb s1 us I1.kIn (by rw[Oj];exact hlen)
    rw[Oj]at hb';refine wpAny_call (Tt (F.x X.A X.stack s1 H1 ⟨us,[]⟩ us vs O ts c (λr s'=>match r with|.error ev=>X.xe ev s'|_=>False) hr I1.MP hb' r rs (E.same sm).mtb (hl Z ts q) q2 λev s' w=>?_) λr s' hq=>?_)
    ·obtain⟨ea,T,C,H',rfl,hmc,ho,hbare,hun,hok,sm2,hea,heo,fl,hT,hTo⟩:=w
     have I2:Inv X bv σ H' s':=I1.My ho hun hok hbare (λb z=>absurd z (by simp))
     exact hq2 bv _ _ ⟨ea,ZA T,C,σ,H',rfl,hmc,I2,λb o q _=>sm2 b o (sm b o q),hea,λhex=>ur I1 hex heo,fl,(λt zt=>by cases zt;exact⟨hT,λhex=>ur I1 hex hTo⟩),λpp hpp=>⟨λzz=>(by have:=(I1.pin pp hpp).1;rw[zz,heo]at this;cases this),λzz=>(by cases zz;have:=(I1.pin pp hpp).1;rw[hTo]at this;cases this)⟩⟩
    ·cases r with
     |error ev=>exact hq
     |ok fl=>exact hq.elim
def AQ(X:Cx)(g:T->En->Rs En):TG:=λv σ H Q=>∃Z O M t,EnvM X.K O M H Z σ/\Rep X.K O H t v/\match g t Z with
 |.ok Z'=>∀σ',EnvM X.K O M H Z' σ'->Q σ' H
 |_=>False
abbrev Eo(X:Cx)(tg:ZG)(g:T->En->Rs En):Prop:=PG X tg (AQ X g)
def tPGs(X:Cx)(g:List T->En->Rs En):GO:=λvs σ H Q=>∃Z O M ts,EnvM X.K O M H Z σ/\Reps X.K O H ts vs/\match g ts Z with
 |.ok Z'=>∀σ',EnvM X.K O M H Z' σ'->Q σ' H
 |_=>False
abbrev Ep(X:Cx)(tg:List ZG)(g:List T->En->Rs En):Prop:=PGs X tg (tPGs X g)
def PG.imp{t t':TG}(h:PG X e t)(w:∀v σ H Q,t' v σ H Q->t v σ H Q):PG X e t':=λbv s σ H v u Q I r q=>h bv s σ H v u Q I r (w v σ H Q q)
def PGs.imp{e:List ZG}{t t':GO}(h:PGs X e t)(w:∀v σ H Q,t' v σ H Q->t v σ H Q):PGs X e t':=λbv s σ H v u Q I r q=>h bv s σ H v u Q I r (w v σ H Q q)
noncomputable def gN(i:Nat)(t:T)(Z:En):Rs En:=if i<Z.length then .ok (Z.set i (.va t))else .bad
def EnvM.set{t:T}(E:EnvM K O M H Z σ)(hi:i<Z.length)(r:Rep K O H t v):EnvM K O M H (Z.set i (.va t)) (σ.set i (ZA v)) where
 len:=by rw[Os,Os];exact E.len
 val:=λj u e=>by
  by_cases hj:i=j
  ·subst hj
   rw[NG hi]at e
   cases e;exact⟨v,NG (by rw[<-E.len];exact hi),r⟩
  ·rw[NI hj]at e
   obtain⟨w,e1,e2⟩:=E.val j u e;exact⟨w,by rw[NI hj];exact e1,e2⟩
 own:=λj o e=>by
  by_cases hj:i=j
  ·subst hj
   rw[NG hi]at e
   cases e
  ·rw[NI hj]at e
   obtain⟨w,e1,e2⟩:=E.own j o e;exact⟨w,by rw[NI hj];exact e1,e2⟩
 sub:=E.sub
 dis:=E.dis
 trk:=E.trk
def Fz(i:Nat)(hN:X.N.Nodup)(hi:X.N[i]?=ZA x:=by rfl)(hx:autoParam (Loc X.env.scope x) x_)(hf:autoParam (X.fn x=ZC\/X.env.scope.names.lookup x=ZA .local) r_):Eo X (.Name x pos) (gN i):=
 PG.imp (FV hN hi hx hf) λv σ H Q hh_=>by
  obtain⟨Z,O,M,t,E,r,h⟩:=hh_;unfold gN at h
  split at h
  ·rename_i Z' e
   split at e
   ·rename_i hl
    cases e;exact h _ (E.set hl r)
   ·cases e
  ·exact h.elim
def j4(ts:List T)(Z:En):Rs En:=match ts with
 |[] =>.ok Z
 |_=>.bad
def dE(g:T->En->Rs En)(gs:List T->En->Rs En)(ts:List T)(Z:En):Rs En:=match ts with
 |t::r=>do
  let Z1 <-g t Z
  gs r Z1
 |[] =>.bad
def Fy:Ep X [] j4:=PGs.imp FT λvs σ H Q hh_=>by
 obtain⟨Z,O,M,ts,E,r,h⟩:=hh_;unfold j4 at h
 cases ts with
 |nil=>exact⟨Reps.AC.mp r,h σ E⟩
 |cons _ _=>exact h.elim
def Cr(h1:Eo X e g)(h2:Ep X es gs)
  (hs:(O8 (e::es) X.env).map (·.2)=assign e X.env::(O8 es X.env).map (·.2):=by rfl):Ep X (e::es) (dE g gs):=
 PGs.imp (CF h1 h2 hs) λvs σ H Q hh_=>by
  obtain⟨Z,O,M,ts,E,r,h⟩:=hh_
  cases ts with
  |nil=>exact h.elim
  |cons t ts=>
   obtain⟨v,ws,rfl,p,q⟩:=Reps.me.mp r;refine⟨v,ws,rfl,Z,O,M,t,E,p,?_⟩
   unfold dE at h
   cases e1:g t Z with
   |bad=>simp[e1]at h
   |err c=>simp[e1]at h
   |ok Z1=>
    intro σ1 E1;refine⟨Z1,O,M,ts,E1,q,?_⟩
    simp only[e1,aF]at h
    cases e2:gs ts Z1 with
    |bad=>simp[e2]at h
    |err c=>simp[e2]at h
    |ok Z2=>
     simp only[e2]at h;exact λσ2 E2=>h σ2 E2
def gT(n:Nat)(gs:List T->En->Rs En)(t:T)(Z:En):Rs En:=match t with
 |.tup l=>if l.length=n then gs l Z else .bad
 |_=>.bad
def Ir{k:Nat}(hc:X.calm=ZC)(h:Ep X es gs)(hn:(O8 es X.env).length=n:=by rfl)(hst:(O8 es X.env).findIdx? (·.1)=ZB:=by rfl):Eo X (.Tuple es k pos) (gT n gs):=
 PG.imp (IK hc h hn hst) λv σ H Q hh_=>by
  obtain⟨Z,O,M,t,E,r,h⟩:=hh_;unfold gT at h
  cases t with
  |tup l=>
   obtain⟨a,vs,rfl,n',q,z⟩:=Rep.Do.mp r
   by_cases hl:l.length=n
   ·simp only[if_pos hl]at h
    exact⟨a,vs,rfl,SqT.of q,by rw[<-z.length];exact hl,Z,O,M,l,E,z,h⟩
   ·simp only[if_neg hl]at h
  |_=>exact h.elim
def SqL.nn{a:ZE}(q:SqL K H a vs):¬ Nw K H a:=λ⟨h1,h2⟩=>by
 rcases q with(q|⟨o,q⟩)|⟨o,_,_,q,_⟩
 ·rw[h1]at q;cases q
 ·rw[h1]at q;cases q
 ·rw[h2]at q;cases q
mutual
theorem Rep.more{K:M9}{O O':Ow}{H:Hp}(sub:∀a,O' a->O a\/Nw K H a):∀{t:T}{v:V},Rep K O H t v->Rep K O' H t v
 |.non,_,r=>by unfold Rep at r ⊢;exact r
 |.bl _,_,r=>by unfold Rep at r ⊢;exact r
 |.int _,_,r=>by unfold Rep at r ⊢;exact r
 |.str _,_,r=>by unfold Rep at r ⊢;exact r
 |.tup l,_,r=>by
  unfold Rep at r ⊢;obtain⟨a,vs,e,n,q,z⟩:=r
  exact⟨a,vs,e,λp=>(sub a p).elim n λw=>(by rw[w.1]at q;cases q),q,Reps.more sub z⟩
 |.lst l,_,r=>by
  unfold Rep at r ⊢;obtain⟨a,vs,e,n,q,z⟩:=r
  exact⟨a,vs,e,λp=>(sub a p).elim n λw=>(by rw[w.1]at q;cases q),q,Reps.more sub z⟩
 |.scr l,_,r=>by
  unfold Rep at r ⊢;obtain⟨a,e,n,q⟩:=r
  exact⟨a,e,λp=>(sub a p).elim n λw=>Tr.SqL.nn q w,q⟩
 |.dct ks ts,_,r=>by
  unfold Rep at r ⊢;obtain⟨a,kvs,e,n,q,k,z⟩:=r
  exact⟨a,kvs,e,λp=>(sub a p).elim n λw=>(by rcases q with q|⟨_,q⟩ <;> rw[w.1]at q <;> cases q),q,k,Reps.more sub z⟩
 |.ob C ns ts,_,r=>by
  unfold Rep at r ⊢;obtain⟨a,dx,fs,e,n,q,k,z⟩:=r;exact⟨a,dx,fs,e,λp=>(sub a p).elim n λw=>(by rw[w.1]at q;cases q),q,k,Reps.more sub z⟩
theorem Reps.more{K:M9}{O O':Ow}{H:Hp}(sub:∀a,O' a->O a\/Nw K H a):∀{l:List T}{vs:List V},Reps K O H l vs->Reps K O' H l vs
 |[],_,r=>by unfold Reps at r ⊢;exact r
 |t::l,_,r=>by
  unfold Reps at r ⊢;obtain⟨v,ws,e,p,q⟩:=r;exact⟨v,ws,e,Rep.more sub p,Reps.more sub q⟩
end
def Rep.move{P:Ow}{t:T}(hP:∀a,P a->O a\/Nw K H a)(hO:∀a,O' a->O a\/Nw K H a)(h:SameO P H H')(r:Rep K O H t v):Rep K O' H' t v:=
 Rep.less (O:=λa=>O' a\/P a) (λ_ z=>.inl z) (Rep.keep h (λ_ z=>.inr z) (Rep.more (λa z=>z.elim (hO a) (hP a)) r))
def Reps.move{P:Ow}{t:List T}{v:List V}(hP:∀a,P a->O a\/Nw K H a)(hO:∀a,O' a->O a\/Nw K H a)(h:SameO P H H')(r:Reps K O H t v):Reps K O' H' t v:=
 Reps.less (O:=λa=>O' a\/P a) (λ_ z=>.inl z) (Reps.keep h (λ_ z=>.inr z) (Reps.more (λa z=>z.elim (hO a) (hP a)) r))
def LH(K:M9)(O:Ow)(H:Hp)(ts:List T)(J:It):Prop:=∀(P O':Ow),(∀a,P a->O a\/Nw K H a)->(∀a,O' a->O a\/Nw K H a)->∀(i:Nat)(Hc:Hp),SameO P H Hc->(∀a,O' a->∃o,Hc a=ZA o) →
 (ts.length<=i->J.stop i Hc)/\(∀t,ts[i]?=ZA t->J.go i Hc/\∀x Hc',J.yld i Hc x Hc'->Same Hc Hc'/\Rep K O' Hc' t x)
def LQ(X:Cx)(f:V3):TI:=λσ H R=>∃Z O,EnvO X.K O H Z σ/\Post X H (f Z) λts H'=>∀J,LH X.K O H' ts J->R J H'
abbrev BH(X:Cx)(tg iter:ZG)(f:V3):Prop:=PI X tg iter (LQ X f)
def PI.imp{t t':TI}(h:PI X tg iter t)(w:∀σ H R,t' σ H R->t σ H R):PI X tg iter t':=λbv s σ H R I q=>h bv s σ H R I (w σ H R q)
def iL(f:V5)(Z:En):Rs (List T):=do
 let x <-f Z
 match x with
 |.lst l=>.ok l
 |_=>.bad
def iT(f:V5)(Z:En):Rs (List T):=do
 let x <-f Z
 match x with
 |.tup l=>.ok l
 |_=>.bad
def zH(ha:cJ X a fa):BH X tg a (iL fa):=PI.imp (FQ ha) λσ H R hh_=>by
 obtain⟨Z,O,E,h⟩:=hh_;obtain⟨Z1,O1,E1,h1⟩:=bf E h;refine⟨Z1,O1,E1,Post.mono h1 λts H1 s1 q vs r=>?_⟩
 obtain⟨t',r',s',E',q'⟩:=q vs r
 split at q'
 ·rename_i l
  obtain⟨a,ws,rfl,n,q,z⟩:=Rep.Fk.mp r';refine⟨a,rfl,⟨ws,SqL.of q⟩,q' H1 (Same.refl H1) _ λP O' hP hO i Hc hs ht=>?_⟩
  have hnP:¬ P a:=λz=>(hP a z).elim n λw=>by rw[w.1]at q;cases q
  refine⟨λhi=>⟨ws,SqL.of (hs _ _ q hnP),by rw[<-z.length];exact hi⟩,λt ht'=>?_⟩
  obtain⟨v,e1,e2⟩:=z.get ht';refine⟨⟨ws,v,SqL.of (hs _ _ q hnP),e1⟩,λx Hc' y=>?_⟩
  obtain⟨e,y⟩:=y;subst e
  have:=y ws (SqL.of (hs _ _ q hnP));rw[e1]at this;cases this;exact⟨Same.refl _,e2.move hP hO hs⟩
 ·exact q'.elim
def Ip(ha:cJ X a fa):BH X tg a (iT fa):=PI.imp (IJ ha) λσ H R hh_=>by
 obtain⟨Z,O,E,h⟩:=hh_;obtain⟨Z1,O1,E1,h1⟩:=bf E h;refine⟨Z1,O1,E1,Post.mono h1 λts H1 s1 q vs r=>?_⟩
 obtain⟨t',r',s',E',q'⟩:=q vs r
 split at q'
 ·rename_i l
  obtain⟨a,ws,rfl,n,q,z⟩:=Rep.Do.mp r';refine⟨a,rfl,⟨ws,SqT.of q⟩,q' H1 (Same.refl H1) _ λP O' hP hO i Hc hs ht=>?_⟩
  have hnP:¬ P a:=λz=>(hP a z).elim n λw=>by rw[w.1]at q;cases q
  refine⟨λhi=>⟨ws,SqT.of (hs _ _ q hnP),by rw[<-z.length];exact hi⟩,λt ht'=>?_⟩
  obtain⟨v,e1,e2⟩:=z.get ht';refine⟨⟨ws,v,SqT.of (hs _ _ q hnP),e1⟩,λx Hc' y=>?_⟩
  obtain⟨e,y⟩:=y;subst e
  have:=y ws (SqT.of (hs _ _ q hnP));rw[e1]at this;cases this;exact⟨Same.refl _,e2.move hP hO hs⟩
 ·exact q'.elim
def rng(lo hi:Int):List T:=(Oz (hi - lo).toNat).map λ(k:Nat)=>T.int (lo+(k:Int))
def vA(i:Int):Bool:=decide (-(2 ^ 62)<=i)&&decide (i<2 ^ 62)
noncomputable def iR(f:V3)(Z:En):Rs (List T):=do
 let x <-f Z
 match x with
 |[.int j] =>if vA j then .ok (rng 0 j)else .bad
 |[.int i,.int j] =>if vA i&&vA j then .ok (rng i j)else .bad
 |_=>.bad
def kF{i:Int}(h:vA i=ZC): -(2 ^ 62)<=i/\i<2 ^ 62:=by
 unfold vA at h;rw[Ni]at h;exact⟨of_decide_eq_true h.1,of_decide_eq_true h.2⟩
def oy(lo hi:Int):LH K O H (rng lo hi) (Itr lo (hi - lo).toNat):=λP O' hP hO i Hc hs ht=>by
 refine⟨λh=>?_,λt h=>?_⟩
 ·show(hi - lo).toNat<=i
  unfold rng at h;rw[Nc,O7]at h;exact h
 ·unfold rng at h
  rw[NC]at h
  by_cases hi':i<(hi - lo).toNat
  ·rw[List.getElem?_range hi']at h
   cases h;refine⟨hi',λx Hc' y=>?_⟩
   obtain⟨e,y⟩:=y;subst e y;exact⟨Same.refl _,Rep.GE _⟩
  ·rw[Pg (by simpa using hi')]at h
   cases h
def AW(hm:X.mg "range" =ZB)(ha:sW X [a] fs)(hg:Gl X "range":=by rfl)(hs:NF [a] X.env=[(ZD,eval a X.env)]:=by rfl):BH X tg (.Call (.Name "range" p) [a] [] pos) (iR fs):=by
 intro bv s σ H R I ⟨Z,O,E,h⟩
 have h1:=fh E h;refine Call_ (fO I hg hm boot_range (N1 (cz (ha pos bv s σ H _ I h1) λus s1 ⟨vs,H1,I1,r1,ts,rs,s',E',q1⟩=>?_) hs rfl))
 split at q1
 ·obtain⟨v,rfl,r⟩:=rs.one
  split at q1
  ·rename_i j hj
   obtain⟨b1,b2⟩:=kF hj;cases Rep.Da.mp r
   cases r1 with
   |cons r rr=>
    cases rr;obtain⟨t,rfl⟩:=r;exact call_range_1 (l5 I1 (by omega) (by omega) b1 b2 (q1 H1 (Same.refl H1) _ (oy 0 j)))
  ·exact q1.elim
 ·obtain⟨v,ws,rfl,p1,q⟩:=Reps.me.mp rs
  obtain⟨v2,rfl,r⟩:=q.one
  split at q1
  ·rename_i i j hj
   rw[Ni]at hj;obtain⟨b1,b2⟩:=kF hj.1;obtain⟨b3,b4⟩:=kF hj.2;cases Rep.Da.mp p1;cases Rep.Da.mp r
   cases r1 with
   |cons r rr=>
    cases rr with
    |cons r' rr=>
     cases rr;obtain⟨t,rfl⟩:=r;obtain⟨t',rfl⟩:=r';exact call_range_2 (l5 I1 b1 b2 b3 b4 (q1 H1 (Same.refl H1) _ (oy i j)))
  ·exact q1.elim
 ·exact q1.elim
def AV(hm:X.mg "range" =ZB)(ha:sW X [a,b] fs)(hg:Gl X "range":=by rfl)(hs:NF [a,b] X.env=[(ZD,eval a X.env),(ZD,eval b X.env)]:=by rfl)(hs2:NF [b] X.env=[(ZD,eval b X.env)]:=by rfl):
  BH X tg (.Call (.Name "range" p) [a,b] [] pos) (iR fs):=by
 intro bv s σ H R I ⟨Z,O,E,h⟩
 have h1:=fh E h;refine Call_ (fO I hg hm boot_range (N1 (cz (ha pos bv s σ H _ I h1) λus s1 ⟨vs,H1,I1,r1,ts,rs,s',E',q1⟩=>?_) (by rw[hs,hs2]) (by rw[hs2];rfl)))
 split at q1
 ·obtain⟨v,rfl,r⟩:=rs.one
  split at q1
  ·rename_i j hj
   obtain⟨b1,b2⟩:=kF hj;cases Rep.Da.mp r
   cases r1 with
   |cons r rr=>
    cases rr;obtain⟨t,rfl⟩:=r;exact call_range_1 (l5 I1 (by omega) (by omega) b1 b2 (q1 H1 (Same.refl H1) _ (oy 0 j)))
  ·exact q1.elim
 ·obtain⟨v,ws,rfl,p1,q⟩:=Reps.me.mp rs
  obtain⟨v2,rfl,r⟩:=q.one
  split at q1
  ·rename_i i j hj
   rw[Ni]at hj;obtain⟨b1,b2⟩:=kF hj.1;obtain⟨b3,b4⟩:=kF hj.2;cases Rep.Da.mp p1;cases Rep.Da.mp r
   cases r1 with
   |cons r rr=>
    cases rr with
    |cons r' rr=>
     cases rr;obtain⟨t,rfl⟩:=r;obtain⟨t',rfl⟩:=r';exact call_range_2 (l5 I1 b1 b2 b3 b4 (q1 H1 (Same.refl H1) _ (oy i j)))
  ·exact q1.elim
 ·exact q1.elim
end
variable{B:Ow}{D:qJ}{N':List Str}{Q:VK}{body:List ZF}{f:V6}{fe:V5}{fi:V3}{ifs:List ZG}{st:ZF}{tgt:T->En->Rs En}
section
variable {a b c:ZG}{fs:V3}{pos p2:Pos}
def bR(src:List (Option Nat))(Z:En):En:=src.map λo=>match o with
 |some i=>match Z[i]? with
  |some (.va t)=>.va t
  |_=>.em
 |none=>.em
noncomputable def dg(tgt:T->En->Rs En)(fc:V6)(fe:V5):List T->V3
 |[],_=>.ok []
 |t::r,Z=>do
  let Z1 <-tgt t Z
  let k <-fc Z1
  if k then do
   let y <-fe Z1
   let ys <-dg tgt fc fe r Z1
   .ok (y::ys)
  else dg tgt fc fe r Z1
noncomputable def eh(fi:V3)(src:List (Option Nat))(tgt:T->En->Rs En)(fc:V6)(fe:V5)(Z:En):Rs T:=do
 let ts <-fi Z
 if ts.length<=ZI then match dg tgt fc fe ts (bR src Z)with
  |.ok ys=>.ok (.lst ys)
  |_=>.bad
 else .bad
def bT(_:En):Rs Bool:=.ok ZC
def tP0(K:M9)(f:V5):TE:=λσ H Q=>∃Z O,EnvO K O H Z σ/\match f Z with
 |.ok t=>∀H',Same H H'->∀v,Rep K O H' t v->Q v H'
 |_=>False
def tPT0(K:M9)(f:V6):TT:=λσ H Q=>∃Z O,EnvO K O H Z σ/\match f Z with
 |.ok t=>∀H',Same H H'->Q t H'
 |_=>False
def tP0.up{f:V5}(h:tP0 X.K f σ H Q):tP X f σ H Q:=by
 obtain⟨Z,O,E,h⟩:=h;refine⟨Z,O,E,?_⟩
 cases q:f Z with
 |ok t=>rw[q]at h;exact h
 |err c=>rw[q]at h;exact h.elim
 |bad=>rw[q]at h;exact h.elim
def tPT0.up{Q:Bool->Hp->Prop}(h:tPT0 X.K f σ H Q):zy X f σ H Q:=by
 obtain⟨Z,O,E,h⟩:=h;refine⟨Z,O,E,?_⟩
 cases q:f Z with
 |ok t=>rw[q]at h;exact h
 |err c=>rw[q]at h;exact h.elim
 |bad=>rw[q]at h;exact h.elim
def Fv:AF X [] (zy X bT):=λbv s σ H Q I ⟨Z,O,E,h⟩=>tZ bv s σ H Q I (h H (Same.refl H))
def Fu(h:xS X c f):AF X [c] (zy X f):=FO h
abbrev noM:Mn:=λ_ _=>False
def Bc{src:List (Option Nat)}{o:OT}(e:(bR src Z)[j]?=ZA (.ow o)):False:=by
 unfold bR at e;rw[NC]at e
 cases q:src[j]? with
 |none=>rw[q]at e;cases e
 |some o'=>
  rw[q]at e
  cases o' with
  |none=>cases e
  |some i=>
   have e':(match Z[i]? with|some (Sl.va t)=>Sl.va t|_=>Sl.em)=Sl.ow o:=NZ e
   split at e' <;> cases e'
def xh(E:EnvO K O H Z σ)(src:List (Option Nat)):EnvM K O noM H (bR src Z) (gy src σ) where
 len:=by unfold bR gy;rw[Nc,Nc]
 val:=λj t e=>by
  unfold bR at e;unfold gy;rw[NC]at e ⊢
  cases q:src[j]? with
  |none=>rw[q]at e;cases e
  |some o=>
   rw[q]at e
   cases o with
   |none=>cases e
   |some i=>
    have e':(match Z[i]? with|some (Sl.va t)=>Sl.va t|_=>Sl.em)=Sl.va t:=NZ e
    cases q2:Z[i]? with
    |none=>rw[q2]at e';cases e'
    |some z=>
     rw[q2]at e'
     cases z with
     |em=>cases e'
     |ow l=>cases e'
     |va t'=>
      cases e';obtain⟨v,e1,e2⟩:=E.val i _ q2;exact⟨v,by simp[e1],e2⟩
 own:=λj o e=>(Bc e).elim
 sub:=λ_ _ z=>z.elim
 dis:=λ_ _ _ z=>z.elim
 trk:=E.mtb
def ORep.no{o:OT}(r:ORep K O yF H o v):False:=by
 cases o with
 |lst l=>obtain⟨a,_,_,e,_⟩:=r;exact(e a).mpr rfl
 |dct ks ts=>obtain⟨a,_,_,e,_⟩:=r;exact(e a).mpr rfl
 |dd ks rows=>obtain⟨a,_,_,_,e,_⟩:=r;exact(e a).mpr (.inl rfl)
 |ob C ns ls=>obtain⟨a,_,_,_,e,_⟩:=r;exact(e a).mpr (.inl rfl)
theorem EnvM.move{P:Ow}(E:EnvM K O noM H Z σ)(hP:∀a,P a->O a\/Nw K H a)(hO:∀a,O' a->O a\/Nw K H a)(h:SameO P H H')(trk:∀a,O' a->Mtb H' a):EnvM K O' noM H' Z σ where
 len:=E.len
 val:=λi t e=>let ⟨v,e1,e2⟩:=E.val i t e;⟨v,e1,e2.move hP hO h⟩
 own:=λi o e=>let ⟨_,_,r⟩:=E.own i o e;r.no.elim
 sub:=λ_ _ z=>z.elim
 dis:=λ_ _ _ z=>z.elim
 trk:=trk
noncomputable def J6(fi:V3)(src:List (Option Nat))(tgt:T->En->Rs En)(fc:V6)(fe:V5)(Z:En):Rs (List T):=fi Z >>= λts=>if ts.length<=ZI then(match dg tgt fc fe ts (bR src Z)with|.ok ys=>Rs.ok ys|_=>.bad)else .bad
def Di{src:List (Option Nat)}{fc:V6}:eh fi src tgt fc fe Z=J6 fi src tgt fc fe Z >>= λl=>.ok (.lst l):=by
 unfold eh J6
 cases fi Z with
 |bad=>rfl
 |err c=>rfl
 |ok ts=>
  rw[aF,aF]
  by_cases hz:ts.length<=ZI
  ·rw[if_pos hz,if_pos hz]
   cases dg tgt fc fe ts (bR src Z) <;> rfl
  ·rw[if_neg hz,if_neg hz];rfl
def Dh{src:List (Option Nat)}{fc:V6}(E:EnvO X.K O H Z σ)
  (hq1:Post X H (J6 fi src tgt fc fe Z) λall H1=>∀D ys H',Nw X.K H1 D->Same H1 H'->H' D=ZA (.lst ys)->Reps X.K (λa=>O a\/a=D) H' all ys->Q (.ref D) H'):HI X.K (LQ X fi) src (AQ X tgt) (tPT0 X.K fc) (tP0 X.K fe) σ H Q:=by
 unfold J6 at hq1;refine⟨Z,O,E,Post.mono hq1.bind λts H1 s1 q1 J hJ D hD hK=>?_⟩
 have E1:=E.same s1
 by_cases hz:ts.length<=ZI
 ·rw[if_pos hz]at q1
  cases hall:dg tgt fc fe ts (bR src Z)with
  |bad=>rw[hall]at q1;exact q1.elim
  |err c=>rw[hall]at q1;exact q1.elim
  |ok all=>
   rw[hall]at q1
   have q2:∀D ys H',Nw X.K H1 D->Same H1 H'->H' D=ZA (.lst ys)->Reps X.K (λa=>O a\/a=D) H' all ys->Q (.ref D) H':=q1 H1 (Same.refl H1)
   have nD:Nw X.K H1 D:=⟨hD,hK⟩
   let O':Ow:=λa=>O a\/a=D
   have subO:∀a,O' a->O a\/Nw X.K H1 a:=λa z=>z.elim .inl λw=>.inr (w▸nD)
   refine⟨λi m σ' ys H'=>m=ts.length - i/\i<=ts.length/\ys.length<=i/\H' D=ZA (.lst ys)/\SameO (λa=>a=D) (upd H1 D (.lst [])) H' ∧
    ∃Z' yts zs,EnvM X.K O' noM H' Z' σ'/\Reps X.K O' H' yts ys/\dg tgt fc fe (ts.drop i) Z'=.ok zs/\yts++zs=all,⟨ts.length,?_⟩,?_⟩
   ·have sN:Same H1 (upd H1 D (.lst [])):=aV hD _
    refine⟨by omega,OF _,Nr _,aI,λb o e _=>e,bR src Z,[],all,?_,Reps.nil_,by simpa using hall,rfl⟩
    have E2:EnvM X.K O noM H1 (bR src Z) (gy src σ):=xh E1 src
    exact E2.move (P:=λa=>a=D) (λa z=>.inr (z▸nD)) subO (λb o e _=>sN b o e) λa z=>by
     rcases z with z|z
     ·exact(E1.mtb a z).same sN
     ·rw[z];exact .inl ⟨_,aI⟩
   ·rintro i m σ' ys H' ⟨rfl,hi',hyl,hDl,hsm,Z',yts,zs,E',ry,hl,hyz⟩
    refine⟨hDl,?_⟩
    have sm1:SameO (λa=>a=D) H1 H':=λb o e nb=>hsm b o (by rw[aG nb];exact e) nb
    have it:=hJ (λa=>a=D) O' (λa z=>.inr (z▸nD)) subO i H' sm1 (λa z=>(E'.trk a z).some)
    by_cases hlt:i<ts.length
    ·refine .inr ?_
     have hti:ts[i]?=ZA ts[i]:=by simp
     obtain⟨go,yl⟩:=it.2 ts[i] hti;refine⟨go,by omega,λxx Hc y=>?_⟩
     obtain⟨sc,rx⟩:=yl xx Hc y
     have Ec:=E'.same sc;rw[O9 hlt]at hl;unfold dg at hl;refine⟨Z',O',noM,ts[i],Ec,rx,?_⟩
     cases e1:tgt ts[i] Z' with
     |bad=>rw[e1]at hl;cases hl
     |err cc=>rw[e1]at hl;cases hl
     |ok Z1=>
      rw[e1,aF]at hl;intro σ1 Eg;refine⟨Z1,O',⟨noM,Eg⟩,?_⟩
      cases e2:fc Z1 with
      |bad=>rw[e2]at hl;cases hl
      |err cc=>rw[e2]at hl;cases hl
      |ok k=>
       rw[e2,aF]at hl;intro H3 s3
       have E3:=Eg.same s3
       have tot:Same H' H3:=sc.trans s3
       have D3:H3 D=ZA (.lst ys):=tot _ _ hDl
       have sm3:SameO (λa=>a=D) (upd H1 D (.lst [])) H3:=λb o e nb=>tot _ _ (hsm b o e nb)
       cases k with
       |false=>
        refine L2.iteF ?_
        have hl':dg tgt fc fe (ts.drop (i+1)) Z1=.ok zs:=by simpa using hl
        exact⟨ts.length - (i+1),by omega,rfl,hlt,by omega,D3,sm3,Z1,yts,zs,E3,ry.same tot,hl',hyz⟩
       |true=>
        refine L2.iteT ?_
        have hl':(fe Z1 >>= λy=>dg tgt fc fe (ts.drop (i+1)) Z1 >>= λys=>Rs.ok (y::ys))=.ok zs:=by simpa using hl
        refine⟨Z1,O',⟨noM,E3⟩,?_⟩
        cases e3:fe Z1 with
        |bad=>rw[e3]at hl';cases hl'
        |err cc=>rw[e3]at hl';cases hl'
        |ok yt=>
         rw[e3,aF]at hl'
         cases e4:dg tgt fc fe (ts.drop (i+1)) Z1 with
         |bad=>rw[e4]at hl';cases hl'
         |err cc=>rw[e4]at hl';cases hl'
         |ok zs'=>
          rw[e4,aF]at hl'
          have hzs:yt::zs'=zs:=by injection hl'
          intro H4 s4 v rv
          have D4:H4 D=ZA (.lst ys):=s4 _ _ D3
          have E4:=E3.same s4
          have tot4:Same H' H4:=tot.trans s4
          have smD:SameO (λa=>a=D) H4 (upd H4 D (.lst (ys++[v]))):=λb o e nb=>by rw[aG nb];exact e
          have inO:∀a,a=D->O' a\/Nw X.K H4 a:=λa z=>.inl (.inr z)
          refine⟨D4,ts.length - (i+1),by omega,rfl,hlt,?_,aI,λb o e nb=>smD b o (s4 _ _ (sm3 b o e nb)) nb,Z1,yts++[yt],zs',?_,?_,e4,?_⟩
          ·rw[Nm,Pe];omega
          ·exact E4.move inO (λa z=>.inl z) smD λaa z=>by
            by_cases hz:aa=D
            ·rw[hz];exact .inl ⟨_,aI⟩
            ·unfold Mtb;rw[aG hz];exact E4.trk aa z
          ·have r1:Reps X.K O' H4 (yts++[yt]) (ys++[v]):=(ry.same tot4).append (Reps.FM rv Reps.nil_)
           exact r1.move inO (λa z=>.inl z) smD
          ·rw[ND,List.singleton_append,hzs];exact hyz
    ·refine .inl ⟨it.1 (by omega),?_⟩
     have hi2:i=ts.length:=by omega
     subst hi2;rw[Vh]at hl
     have hzs:zs=[]:=by unfold dg at hl;injection hl with hl;exact hl.symm
     subst hzs;rw[Oj]at hyz;subst hyz
     have sF:Same H1 H':=λb o e=>sm1 b o e λz=>by rw[z,hD]at e;cases e
     exact q2 D ys H' nD sF hDl ry
 ·rw[if_neg hz]at q1
  exact q1.elim
def uO{src:List (Option Nat)}{fc:V6}(h0:tP X (eh fi src tgt fc fe) σ H Q):HI X.K (LQ X fi) src (AQ X tgt) (tPT0 X.K fc) (tP0 X.K fe) σ H Q:=by
 obtain⟨Z,O,E,hq⟩:=h0;refine Dh E ?_
 have e:eh fi src tgt fc fe Z=J6 fi src tgt fc fe Z >>= λl=>.ok (.lst l):=Di
 rw[e]at hq
 cases q:J6 fi src tgt fc fe Z with
 |bad=>rw[q]at hq;exact hq.elim
 |err c=>rw[q]at hq;exact hq
 |ok l=>
  rw[q,aF]at hq;intro H1 s1 D ys H' nD sD eD rD;exact hq H' (s1.trans sD) _ (Rep.Fk.mpr ⟨D,ys,rfl,λz=>(E.same s1).fresh nD.1 z,eD,rD.less λa z=>.inl z⟩)
def q_lc{elt:ZG}{src:List (Option Nat)}{fc:V6}
  (hc:X.calm=ZC) (S:LcScope X scope N' src) (hi:BH X tg iter fi)
  (block:∀cl C s₀ H₀ fp,Eo (bL X scope cl N' C s₀ H₀ fp) tg tgt/\AF (bL X scope cl N' C s₀ H₀ fp) ifs (zy (bL X scope cl N' C s₀ H₀ fp) fc)/\cJ (bL X scope cl N' C s₀ H₀ fp) elt fe)
  (hs:autoParam (∀x,N7 iter X.env x=pure x) t_):
  cJ X (.ListComp elt [⟨tg,iter,ifs,0⟩] scope pos) (eh fi src tgt fc fe):=by
 have hPG:∀cl C s₀ H₀ fp,PG (bL X scope cl N' C s₀ H₀ fp) tg (AQ X tgt):=λcl C s₀ H₀ fp=>(block cl C s₀ H₀ fp).1
 have hPI:∀cl C s₀ H₀ fp,AF (bL X scope cl N' C s₀ H₀ fp) ifs (tPT0 X.K fc):=λcl C s₀ H₀ fp bv s σ H Q I h=>(block cl C s₀ H₀ fp).2.1 bv s σ H Q I (tPT0.up (X:=bL X scope cl N' C s₀ H₀ fp) h)
 have hPE:∀cl C s₀ H₀ fp,PE (bL X scope cl N' C s₀ H₀ fp) elt (tP0 X.K fe):=λcl C s₀ H₀ fp bv s σ H Q I h=>(block cl C s₀ H₀ fp).2.2 bv s σ H Q I (tP0.up (X:=bL X scope cl N' C s₀ H₀ fp) h)
 exact PE.imp (wu (g:=AQ X tgt) (tc:=tPT0 X.K fc) (te:=tP0 X.K fe) hc S hi (λcl C s₀ H₀ fp=>⟨hPG cl C s₀ H₀ fp,hPI cl C s₀ H₀ fp,hPE cl C s₀ H₀ fp⟩) hs) λσ H Q h=>uO h
inductive Fl where
 |nx (Z:En)|rt (t:T)|bk (Z:En)|ct (Z:En)
abbrev V4:=En->Rs Fl
def OO(B:Ow)(M:Mn):Ow:=λa=>B a\/M.u a
structure Ev (K:M9)(B:Ow)(M:Mn)(H:Hp)(Z:En)(σ:L2.St):Prop where
 env:EnvM K (OO B M) M H Z σ
 mine:∀a,M.u a->¬ B a
theorem Ev.same(h:Same H H')(e:Ev K B M H Z σ):Ev K B M H' Z σ:=⟨e.env.same h,e.mine⟩
def Ev.o(e:Ev K B M H Z σ):EnvO K (OO B M) H Z σ:=⟨M,e.env⟩
def PostF(X:Cx)(B P:Ow)(H:Hp)(r:Rs Fl)(D:qJ):Prop:=match r with
 |.ok (.nx Z')=>∀σ' H' M',SameO P H H'->Ev X.K B M' H' Z' σ'->(∀a,M'.u a->P a\/Nw X.K H a)->D.nx σ' H'
 |.ok (.rt t)=>∀v H',SameO P H H'->Rep X.K B H' t v->D.rt v H'
 |.ok (.bk Z')=>∀σ' H' M',SameO P H H'->Ev X.K B M' H' Z' σ'->(∀a,M'.u a->P a\/Nw X.K H a)->D.bk σ' H'
 |.ok (.ct Z')=>∀σ' H' M',SameO P H H'->Ev X.K B M' H' Z' σ'->(∀a,M'.u a->P a\/Nw X.K H a)->D.ct σ' H'
 |.err c=>XA X P H c
 |.bad=>False
def Ew(X:Cx)(F:V4):TS:=λD σ H=>∃Z B M,Ev X.K B M H Z σ/\PostF X B M.u H (F Z) D
abbrev qG(X:Cx)(s:ZF)(F:V4):Prop:=PS X s (Ew X F)
abbrev lN(X:Cx)(s:List ZF)(F:V4):Prop:=PSs X s (Ew X F)
theorem PostF.later{P P1:Ow}{H1:Hp}{r:Rs Fl}(h:PostF X B P H r D)(s:SameO P H H1)(sub:∀a,P1 a->P a\/Nw X.K H a):PostF X B P1 H1 r D:=by
 have back:∀a,P1 a\/Nw X.K H1 a->P a\/Nw X.K H a:=λa z=>z.elim (sub a) (i5 s)
 cases r with
 |bad=>exact h
 |err c=>exact XA.later h s sub
 |ok f=>
  cases f with
  |nx Z'=>exact λσ' H' M' s' E' o'=>h σ' H' M' (s.trans s' sub) E' λa z=>back a (o' a z)
  |rt t=>exact λv H' s' r=>h v H' (s.trans s' sub) r
  |bk Z'=>exact λσ' H' M' s' E' o'=>h σ' H' M' (s.trans s' sub) E' λa z=>back a (o' a z)
  |ct Z'=>exact λσ' H' M' s' E' o'=>h σ' H' M' (s.trans s' sub) E' λa z=>back a (o' a z)
def PostF.xa{P:Ow}{c:Str}(h:PostF X B P H (.err c) D):XA X yF H c:=XA.later (P:=P) h (λ_ _ e _=>e) λ_ z=>z.elim
def sN(Z:En):Rs Fl:=.ok (.nx Z)
def ax(F G:V4)(Z:En):Rs Fl:=do
 let f <-F Z
 match f with
 |.nx Z'=>G Z'
 |f=>.ok f
def Cn:lN X [] sN:=PSs.imp FI λD σ H ⟨Z,B,M,E,h⟩=>h σ H M (λ_ _ e _=>e) E λa z=>.inl z
def Fq{rest:List ZF}{F G:V4}(h1:qG X st F)(h2:lN X rest G):lN X (st::rest) (ax F G):=PSs.imp (pf h1 h2) λD σ H hh_=>by
 obtain⟨Z,B,M,E,h⟩:=hh_;refine⟨Z,B,M,E,?_⟩
 unfold ax at h
 cases q:F Z with
 |bad=>rw[q]at h;exact h.elim
 |err c=>rw[q]at h;exact h
 |ok f=>
  rw[q,aF]at h
  cases f with
  |nx Z'=>exact λσ' H' M' s' E' o'=>⟨Z',B,M',E',h.later s' o'⟩
  |rt t=>exact h
  |bk Z'=>exact h
  |ct Z'=>exact h
def Ih{F:V4}(h:qG X st F):lN X [st] F:=FH h
def aM(f:V5)(Z:En):Rs Fl:=do
 let t <-f Z
 .ok (.rt t)
def Ie(ha:cJ X a fa):qG X (.Return (ZA a) pos) (aM fa):=PS.imp (IH ha) λD σ H hh_=>by
 obtain⟨Z,B,M,E,h⟩:=hh_;refine⟨Z,OO B M,E.o,?_⟩
 unfold aM at h
 cases q:fa Z with
 |bad=>rw[q]at h;exact h.elim
 |err c=>rw[q]at h;exact PostF.xa h
 |ok t=>
  rw[q,aF]at h;exact λH' s v r=>h v H' (SameO.of s) (r.less λ_ z=>.inl z)
def ee(f:V6)(F G:V4)(Z:En):Rs Fl:=do
 let k <-f Z
 if k then F Z else G Z
def Ky{A B:List ZF}{F G:V4}(hc:xS X c f)(ha:lN X A F)(hb:lN X B G):qG X (.If c A B pos) (ee f F G):=PS.imp (Hf hc ha hb) λD σ H hh_=>by
 obtain⟨Z,B,M,E,h⟩:=hh_;refine⟨Z,OO B M,E.o,?_⟩
 unfold ee at h
 cases q:f Z with
 |bad=>rw[q]at h;exact h.elim
 |err c=>rw[q]at h;exact PostF.xa h
 |ok k=>
  rw[q,aF]at h;intro H' s
  have E':Ev X.K B M H' Z σ:=E.same s
  cases k with
  |true=>refine L2.iteT ?_;exact⟨Z,B,M,E',PostF.later (by simpa using h) (SameO.of s) λa z=>.inl z⟩
  |false=>refine L2.iteF ?_;exact⟨Z,B,M,E',PostF.later (by simpa using h) (SameO.of s) λa z=>.inl z⟩
noncomputable def cS(f:V5)(g:T->En->Rs En)(Z:En):Rs Fl:=do
 let t <-f Z
 match g t Z with
 |.ok Z'=>.ok (.nx Z')
 |_=>.bad
variable{f:V5}
def Cd(E:Ev X.K B M H Z σ)(h:PostF X B M.u H (cS f g Z) D):B3 (tP X f) (AQ X g) D σ H:=by
 refine⟨Z,OO B M,E.o,?_⟩
 unfold cS at h
 cases q:f Z with
 |bad=>rw[q]at h;exact h.elim
 |err c=>rw[q]at h;exact PostF.xa h
 |ok t=>
  rw[q,aF]at h;intro H' s v r;refine⟨Z,OO B M,M,t,E.env.same s,r,?_⟩
  cases q2:g t Z with
  |bad=>rw[q2]at h;exact h.elim
  |err c=>rw[q2]at h;exact h.elim
  |ok Z'=>
   rw[q2]at h;exact λσ' E'=>h σ' H' M (SameO.of s) ⟨E',E.mine⟩ λa z=>.inl z
def EV{Q':VK}(h:tP X f σ H Q)(w:∀v H',Q v H'->Q' v H'):tP X f σ H Q':=by
 obtain⟨Z,O,E,q⟩:=h;exact⟨Z,O,E,Post.mono q λt H' _ z v r=>w v H' (z v r)⟩
def Kx{elt:ZG}{spos py:Pos}{src:List (Option Nat)}{fc:V6}(i:Nat){y:Str}
  (hc:X.calm=ZC) (S:LcScope X scope N' src) (hi:BH X tg iter fi)
  (block:∀cl C s₀ H₀ fp,Eo (bL X scope cl N' C s₀ H₀ fp) tg tgt/\AF (bL X scope cl N' C s₀ H₀ fp) ifs (zy (bL X scope cl N' C s₀ H₀ fp) fc)/\cJ (bL X scope cl N' C s₀ H₀ fp) elt fe)
  (hN:X.N.Nodup) (hiy:X.N[i]?=ZA y:=by rfl) (hy:autoParam (Loc X.env.scope y) x_) (hsw:Ov (.ListComp elt [⟨tg,iter,ifs,0⟩] scope pos) (ZA (.Name y py)) spos.line X.env=pure ZC:=by rfl)
  (hf:autoParam (X.fn y=ZC\/X.env.scope.names.lookup y=ZA .local) r_) (hs:autoParam (∀x,N7 iter X.env x=pure x) t_):
  qG X (.Assign [.Name y py] (.ListComp elt [⟨tg,iter,ifs,0⟩] scope pos) spos) (cS (eh fi src tgt fc fe) (gN i)):=by
 have hPG:∀cl C s₀ H₀ fp,PG (bL X scope cl N' C s₀ H₀ fp) tg (AQ X tgt):=λcl C s₀ H₀ fp=>(block cl C s₀ H₀ fp).1
 have hPI:∀cl C s₀ H₀ fp,AF (bL X scope cl N' C s₀ H₀ fp) ifs (tPT0 X.K fc):=λcl C s₀ H₀ fp bv s σ H Q I h=>(block cl C s₀ H₀ fp).2.1 bv s σ H Q I (tPT0.up (X:=bL X scope cl N' C s₀ H₀ fp) h)
 have hPE:∀cl C s₀ H₀ fp,PE (bL X scope cl N' C s₀ H₀ fp) elt (tP0 X.K fe):=λcl C s₀ H₀ fp bv s σ H Q I h=>(block cl C s₀ H₀ fp).2.2 bv s σ H Q I (tP0.up (X:=bL X scope cl N' C s₀ H₀ fp) h)
 refine PS.imp (He (g:=AQ X tgt) (tc:=tPT0 X.K fc) (te:=tP0 X.K fe) (i:=i) hc S hi (λcl C s₀ H₀ fp=>⟨hPG cl C s₀ H₀ fp,hPI cl C s₀ H₀ fp,hPE cl C s₀ H₀ fp⟩) hN hiy hy hsw hf hs) λD σ H ⟨Z,B,M,E,h⟩=>uO (EV (Cd E h) λv H' z=>?_)
 obtain⟨Z',O,M',t,E',r,q⟩:=z;unfold gN at q
 split at q
 ·rename_i Z2 e
  split at e
  ·rename_i hl
   cases e;exact q _ (E'.set hl r)
  ·cases e
 ·exact q.elim
def Im(ha:cJ X a fa)(hg:Eo X tg g)(hs:Uv [tg] a pos.line X.env=pure ZD:=by rfl)(hw:Uw [tg] a X.env=pure ZB:=by rfl)
  (h1:(O8 [tg] X.env).map (·.2)=[assign tg X.env]:=by rfl):qG X (.Assign [tg] a pos) (cS fa g):=PS.imp (II ha hg hs hw h1) λD σ H ⟨Z,B,M,E,h⟩=>Cd E h
def rS(f:V5)(Z:En):Rs Fl:=do
 let _ <-f Z
 .ok (.nx Z)
def Fp(ha:cJ X a fa)(hs:Ov a ZB pos.line X.env=pure ZD:=by rfl):qG X (.Expr a pos) (rS fa):=PS.imp (tX ha hs) λD σ H hh_=>by
 obtain⟨Z,B,M,E,h⟩:=hh_;refine⟨Z,OO B M,E.o,?_⟩
 unfold rS at h
 cases q:fa Z with
 |bad=>rw[q]at h;exact h.elim
 |err c=>rw[q]at h;exact PostF.xa h
 |ok t=>
  rw[q,aF]at h;exact λH' s v r=>h σ H' M (SameO.of s) (E.same s) λa z=>.inl z
noncomputable def a8(g:T->En->Rs En)(F:V4):List T->V4
 |[],Z=>.ok (.nx Z)
 |t::r,Z=>do
  let Z1 <-g t Z
  let f <-F Z1
  match f with
  |.nx Z2=>a8 g F r Z2
  |.ct Z2=>a8 g F r Z2
  |.bk Z2=>.ok (.nx Z2)
  |.rt t=>.ok (.rt t)
def dM(fi:V3)(g:T->En->Rs En)(F:V4)(Z:En):Rs Fl:=do
 let ts <-fi Z
 match a8 g F ts Z with
 |.ok f=>.ok f
 |_=>.bad
def mX{t:Sem α}{Q:α->Ng->Prop}(h:ZJ (ZK P w) A t Q (λ_ _=>False) s):ZJ (ZK P w) A t Q E s:=Pl h (λ_ _ q=>q) λ_ _ z=>z.elim
def FJ{wi:TI}{g:TG}{tb:TS}{pos:Pos}(hc:X.calm=ZC)(hi:PI X tg iter wi)(hg:PG X.nox tg g)(hb:PSs X.nox body tb)
  (hs:autoParam (∀x,N7 iter X.env x=pure x) t_):PS X (.For tg iter body [] pos) (tFor wi g tb):=by
 intro bv s σ H D I h;refine wpAny_For (cz (hi bv s σ H _ I h) λv s1 h1=>cz h1 λitv s2 h2=>?_) hs
 obtain⟨it,fp,tn,J,H2,e,I2,T,st2,f2,W,⟨m0,w0⟩,turn⟩:=h2;subst e
 have stat:∀{H':Hp},(∀b∈fp,H' b=ZB)->∀b∈fp,mK X bv H' b:=λhn b hb=>⟨hn b hb,(f2 b hb).2⟩
 refine codeAny_forLoop_any (λn s'=>∃i σ' H',Inv X bv σ' H' s'/\tn i s'.heap/\(∀b∈fp,H' b=ZB)/\W i n σ' H') ?_ m0 ⟨0,σ,H2,I2,st2,λb hb=>(f2 b hb).1,w0⟩
 rintro n s3 ⟨i,σ3,H3,I3,st3,fr3,w3⟩
 rcases turn i n σ3 H3 w3 with⟨stop,qn⟩|⟨go,N,hN,step⟩
 ·refine mX (cz (T.done X.nox rfl rfl rfl hc i bv s3 σ3 H3 _ (I3.FS _) (stat fr3) st3 stop) λr s4 ⟨hr,I4⟩=>?_)
  subst hr;exact RY ⟨σ3,H3,I4.FS _,qn⟩
 ·refine mX (cz (T.item X.nox rfl rfl rfl hc i bv s3 σ3 H3 _ (I3.FS _) (stat fr3) st3 go) λr s4 ⟨u,hr,h4⟩=>?_)
  subst hr;refine mX (cz h4 λ_ s5 hh_=>?_)
  obtain⟨x,H5,I5,r5,y5,st5,fr5⟩:=hh_
  have I5':=Inv.pinned (X:=X.nox) I5 (stat fr5) (T.obj _ _ st5);refine mX (cz (hg _ s5 σ3 H5 x u _ I5' r5 (step x H5 y5)) λ_ s6 hh_=>?_)
  obtain⟨σ6,H6,I6,q6⟩:=hh_;refine mX (cz (hb _ s6 σ6 H6 _ I6 q6) λf s7 q7=>?_)
  have again:∀{σ7:L2.St}{H7:Hp},Inv X.nox (bv++pq fp s5.heap) σ7 H7 s7->N σ7 H7->∃m,m<n/\∃i σ' H',Inv X bv σ' H' s7/\tn i s7.heap/\(∀b∈fp,H' b=ZB)/\W i m σ' H':=λ{σ7 H7} I7 n7=>by
   obtain⟨m',hm,w7⟩:=hN σ7 H7 n7;refine⟨m',hm,i+1,σ7,H7,(Inv.L5 (X:=X.nox) I7).FS _,T.keep _ _ _ st5 λb hb o e=>(I7.pin (b,o) (NM _ (NM _ (i6 hb e)))).1,λb hb=>?_,w7⟩
   obtain⟨o,e,d⟩:=T.obj _ _ st5 b hb;exact(I7.pin (b,o) (NM _ (NM _ (i6 hb e)))).2.1
  cases f with
  |next=>obtain⟨σ7,H7,I7,n7⟩:=q7;exact again I7 n7
  |cont=>obtain⟨σ7,H7,I7,n7⟩:=q7;exact again I7 n7
  |brk=>obtain⟨σ7,H7,I7,q7⟩:=q7;exact⟨σ7,H7,(Inv.L5 (X:=X.nox) I7).FS _,q7⟩
  |ret v=>obtain⟨x7,σ7,H7,I7,r7,q7⟩:=q7;exact⟨x7,σ7,H7,(Inv.L5 (X:=X.nox) I7).FS _,r7,q7⟩
def Ij{F:V4}(hc:X.calm=ZC)(hi:BH X tg iter fi)(hg:Eo X.nox tg g)(hb:lN X.nox body F)
  (hs:autoParam (∀x,N7 iter X.env x=pure x) t_):qG X (.For tg iter body [] pos) (dM fi g F):=PS.imp (FJ hc hi hg hb hs) λD σ H hh_=>by
 obtain⟨Z,B,M,E,h⟩:=hh_;refine⟨Z,OO B M,E.o,?_⟩
 unfold dM at h
 cases q:fi Z with
 |bad=>rw[q]at h;exact h.elim
 |err c=>rw[q]at h;exact PostF.xa h
 |ok ts=>
  rw[q,aF]at h
  cases qq:a8 g F ts Z with
  |bad=>rw[qq]at h;exact h.elim
  |err c=>rw[qq]at h;exact h.elim
  |ok fin=>
  rw[qq]at h;intro H1 s1 J hJ
  have E1:Ev X.K B M H1 Z σ:=E.same s1
  have h1:PostF X B M.u H1 (.ok fin) D:=PostF.later h (SameO.of s1) λa z=>.inl z
  refine⟨λi m σ' H'=>m=ts.length - i/\i<=ts.length/\SameO M.u H1 H'/\∃Z' M',Ev X.K B M' H' Z' σ'/\(∀a,M'.u a->M.u a\/Nw X.K H1 a)/\a8 g F (ts.drop i) Z'=.ok fin,
   ⟨ts.length,by omega,OF _,λ_ _ e _=>e,Z,M,E1,λa z=>.inl z,by simpa using qq⟩,?_⟩
  rintro i m σ' H' ⟨rfl,hi',sm,Z',M',E',ow,hl⟩
  have it:=hJ M.u (OO B M') (λa z=>.inl (.inr z)) (λa z=>z.elim (λw=>.inl (.inl w)) λw=>(ow a w).elim (λy=>.inl (.inr y)) .inr) i H' sm (λa z=>(E'.env.trk a z).some)
  by_cases hlt:i<ts.length
  ·have hti:ts[i]?=ZA ts[i]:=by simp
   obtain⟨go,yl⟩:=it.2 ts[i] hti;rw[O9 hlt]at hl;unfold a8 at hl;refine .inr ⟨go,λσ2 H2=>∃m',m'<ts.length - i/\(m'=ts.length - (i+1)/\i+1<=ts.length/\SameO M.u H1 H2/\∃Z2 M2,Ev X.K B M2 H2 Z2 σ2/\(∀a,M2.u a->M.u a\/Nw X.K H1 a)/\a8 g F (ts.drop (i+1)) Z2=.ok fin),λσ2 H2 z=>z,λx Hc y=>?_⟩
   obtain⟨sc,rx⟩:=yl x Hc y;refine⟨Z',OO B M',M',ts[i],E'.env.same sc,rx,?_⟩
   cases e1:g ts[i] Z' with
   |bad=>rw[e1]at hl;cases hl
   |err cc=>rw[e1]at hl;cases hl
   |ok Z1=>
    rw[e1,aF]at hl;intro σ1 Eg
    have E2:Ev X.K B M' Hc Z1 σ1:=⟨Eg,E'.mine⟩;refine⟨Z1,B,M',E2,?_⟩
    have smc:SameO M.u H1 Hc:=λb o e n=>sc _ _ (sm b o e n)
    have onward:∀{σ3:L2.St}{H3:Hp}{Z3:En}{M3:Mn},SameO M'.u Hc H3->Ev X.K B M3 H3 Z3 σ3->(∀a,M3.u a->M'.u a\/Nw X.K Hc a)->a8 g F (ts.drop (i+1)) Z3=.ok fin →
      ∃m',m'<ts.length - i/\(m'=ts.length - (i+1)/\i+1<=ts.length/\SameO M.u H1 H3/\∃Z2 M2,Ev X.K B M2 H3 Z2 σ3/\(∀a,M2.u a->M.u a\/Nw X.K H1 a)/\a8 g F (ts.drop (i+1)) Z2=.ok fin):=
     λ{σ3 H3 Z3 M3} s3 E3 o3 p3=>⟨_,by omega,rfl,hlt,smc.trans s3 ow,Z3,M3,E3,λa z=>(o3 a z).elim (ow a) (i5 smc),p3⟩
    cases e2:F Z1 with
    |bad=>rw[e2]at hl;cases hl
    |err cc=>rw[e2]at hl;cases hl
    |ok f=>
     rw[e2,aF]at hl
     cases f with
     |nx Z2=>exact λσ3 H3 M3 s3 E3 o3=>onward s3 E3 o3 hl
     |ct Z2=>exact λσ3 H3 M3 s3 E3 o3=>onward s3 E3 o3 hl
     |bk Z2=>
      cases hl
      exact λσ3 H3 M3 s3 E3 o3=>h1 σ3 H3 M3 (smc.trans s3 ow) E3 λa z=>(o3 a z).elim (ow a) (i5 smc)
     |rt t=>
      cases hl;exact λv H3 s3 r=>h1 v H3 (smc.trans s3 ow) r
  ·refine .inl ⟨it.1 (by omega),?_⟩
   have hi2:i=ts.length:=by omega
   subst hi2;rw[Vh]at hl;cases hl;exact h1 σ' H' M' sm E' ow
noncomputable def bX(c:V6)(F:V4):Nat->V4
 |0,_=>.bad
 |n+1,Z=>match c Z with
  |.ok ZD=>.ok (.nx Z)
  |.ok ZC=>match F Z with
   |.ok (.nx Z')=>bX c F n Z'
   |.ok (.ct Z')=>bX c F n Z'
   |.ok (.bk Z')=>.ok (.nx Z')
   |.ok (.rt t)=>.ok (.rt t)
   |_=>.bad
  |_=>.bad
def Ck{fc:V6}{F:V4}(n:Nat)(hc:xS X.nox c fc)(hb:lN X.nox body F):qG X (.While c body [] pos) (bX fc F n):=by
 have base:PS X.nox (.While c body [] pos) (xZ (zy X.nox fc) (Ew X.nox F)):=Cy PassesOwn.never hc hb;intro bv s σ H D I ⟨Z,B,M,E,h⟩
 cases qq:bX fc F n Z with
 |bad=>rw[qq]at h;exact h.elim
 |err c=>
  exfalso
  have:∀n Z,bX fc F n Z≠ .err c:=by
   intro n
   induction n with
   |zero=>intro Z z;cases z
   |succ n ih=>
    intro Z z;unfold bX at z
    split at z
    ·cases z
    ·split at z <;> first|exact ih _ z|cases z
    ·cases z
  exact this n Z qq
 |ok fin=>
  rw[qq]at h
  have goal:xZ (zy X.nox fc) (Ew X.nox F) D σ H:=by
   refine⟨λm σ' H'=>SameO M.u H H'/\∃Z' M',Ev X.K B M' H' Z' σ'/\(∀a,M'.u a->M.u a\/Nw X.K H a)/\bX fc F m Z'=.ok fin,⟨n,λ_ _ e _=>e,Z,M,E,λa z=>.inl z,qq⟩,?_⟩
   rintro m σ' H' ⟨sm,Z',M',E',ow,hl⟩
   cases m with
   |zero=>cases hl
   |succ m=>
    refine⟨Z',OO B M',E'.o,?_⟩
    unfold bX at hl
    cases e1:fc Z' with
    |bad=>rw[e1]at hl;cases hl
    |err cc=>rw[e1]at hl;cases hl
    |ok k=>
     rw[e1]at hl;intro H2 s2
     have E2:Ev X.K B M' H2 Z' σ':=E'.same s2
     have sm2:SameO M.u H H2:=λb o e n=>s2 _ _ (sm b o e n)
     cases k with
     |false=>
      cases hl;refine L2.iteF ?_
      exact h σ' H2 M' sm2 E2 ow
     |true=>
      refine L2.iteT ?_
      refine⟨λσ3 H3=>SameO M.u H H3/\∃Z3 M3,Ev X.K B M3 H3 Z3 σ3/\(∀a,M3.u a->M.u a\/Nw X.K H a)/\bX fc F m Z3=.ok fin,λσ3 H3 z=>⟨m,SU m,z⟩,Z',B,M',E2,?_⟩
      have hl':(match F Z' with|.ok (.nx Z')=>bX fc F m Z'|.ok (.ct Z')=>bX fc F m Z'|.ok (.bk Z')=>.ok (.nx Z')|.ok (.rt t)=>.ok (.rt t)|_=>.bad)=.ok fin:=hl
      cases e2:F Z' with
      |bad=>rw[e2]at hl';cases hl'
      |err cc=>rw[e2]at hl';cases hl'
      |ok f=>
       rw[e2]at hl'
       cases f with
       |nx Z2=>exact λσ3 H3 M3 s3 E3 o3=>⟨sm2.trans s3 ow,Z2,M3,E3,λa z=>(o3 a z).elim (ow a) (i5 sm2),hl'⟩
       |ct Z2=>exact λσ3 H3 M3 s3 E3 o3=>⟨sm2.trans s3 ow,Z2,M3,E3,λa z=>(o3 a z).elim (ow a) (i5 sm2),hl'⟩
       |bk Z2=>
        cases hl'
        exact λσ3 H3 M3 s3 E3 o3=>h σ3 H3 M3 (sm2.trans s3 ow) E3 λa z=>(o3 a z).elim (ow a) (i5 sm2)
       |rt t=>
        cases hl';exact λv H3 s3 r=>h v H3 (sm2.trans s3 ow) r
  refine mX (cz (base bv s σ H D (I.FS _) goal) λf s' q=>?_)
  cases f with
  |next=>obtain⟨σ7,H7,I7,n7⟩:=q;exact⟨σ7,H7,I7.FS _,n7⟩
  |cont=>obtain⟨σ7,H7,I7,n7⟩:=q;exact⟨σ7,H7,I7.FS _,n7⟩
  |brk=>obtain⟨σ7,H7,I7,n7⟩:=q;exact⟨σ7,H7,I7.FS _,n7⟩
  |ret v=>obtain⟨x7,σ7,H7,I7,r7,q7⟩:=q;exact⟨x7,σ7,H7,I7.FS _,r7,q7⟩
def Hb(Z:En):Rs Fl:=.ok (.ct Z)
end
noncomputable def bQ(F:V4)(Z:En):Rs T:=do
 let f <-F Z
 match f with
 |.nx _=>.ok .non
 |.rt t=>.ok t
 |_=>.bad
def aR(n:Nat)(ts:List T):En:=ts.map Sl.va++NL (n - ts.length) Sl.em
variable{ts:List T}
def AR{o:OT}(e:(aR n ts)[i]?=ZA (.ow o)):False:=by
 unfold aR at e
 by_cases hi:i<ts.length
 ·rw[PU (by simpa using hi),NC,Nk hi]at e
  cases e
 ·rw[QM (by simpa using hi),Ra]at e
  split at e <;> cases e
variable{N:List Str}
def rN(r:Reps K O H ts vs)(hl:ts.length<=N.length)(trk:∀a,O a->Mtb H a):Ev K O noM H (aR N.length ts) (start N vs):=by
 have hlen:=r.length
 have sub:∀a,OO O noM a->O a:=λa z=>z.elim id λ⟨_,w⟩=>w.elim
 refine⟨⟨by unfold aR L2.start;simp;omega,λi t e=>?_,λi o e=>(AR e).elim,λ_ _ z=>z.elim,λ_ _ _ z=>z.elim,λa z=>trk a (sub a z)⟩,λa ⟨_,z⟩=>z.elim⟩
 unfold aR at e;unfold L2.start
 by_cases hi:i<ts.length
 ·rw[PU (by simpa using hi),NC,Nk hi]at e
  have e':ts[i]=t:=by injection e with e;injection e
  obtain⟨v,e1,e2⟩:=r.get (i:=i) (t:=t) (by rw[<-e'];simp)
  refine⟨v,?_,e2.less sub⟩
  rw[PU (by simp;omega),NC,e1];rfl
 ·rw[QM (by simpa using hi),Ra]at e
  split at e <;> cases e
section
variable {mg:V0}{base:ZH}
def Lq{qual:Str}{f:ZE}{k:Nat}{g:List T->Rs T}(Fn:L2.Fun K x qual st f fd)(S:aE N ps (ao st))(hn:ps.length=n)
  (hbody:∀(cdv:Nf)(A:N4)(outer:List Env)(s:Ng)(H:Hp)(E:XK),Room k (A.deeper (envOfC qual (ao st) s.heap.objs.size f cdv)) →
   ∃F,lN (ni CX0 P w K mg base N qual (ao st) f cdv A outer s H E).nox (dJ st) F/\∀ts,ts.length=n->∀t,g ts=.ok t->bQ F (aR N.length ts)=.ok t):vq P w K mg base CX0 (k+1) f fd ps (spP K n g):=by
 have hpl:ps.length<=N.length:=by have:=congrArg OE S.pre;rw[QU]at this;omega
 refine Fn.ok S (λvs H Q E h=>?_) (λcdv A outer s H vs Q E hr h=>?_)
 ·obtain⟨ts,O,r,_,hl,_⟩:=h
  rw[<-r.length,hl,hn]
 ·obtain⟨ts,O,r,trk,hl,h⟩:=h
  obtain⟨F,hF,hv⟩:=hbody cdv A outer s H E hr;refine⟨_,hF,aR N.length ts,O,noM,rN r (by omega) trk,?_⟩
  have no:∀a,¬noM.u a:=λa ⟨_,z⟩=>z
  cases q:g ts with
  |bad=>rw[q]at h;exact h.elim
  |err c=>rw[q]at h;exact h.elim
  |ok t=>
   rw[q]at h
   have hb:=hv ts hl t q;unfold bQ at hb
   cases q2:F (aR N.length ts)with
   |bad=>rw[q2]at hb;cases hb
   |err c=>rw[q2]at hb;cases hb
   |ok fl=>
    rw[q2,aF]at hb
    have sameOf:∀H',SameO noM.u H H'->Same H H':=λH' s b o e=>s b o e (no b)
    cases fl with
    |nx Z'=>cases hb;exact λσ' H' M' s' E' o'=>h .non H' (sameOf H' s') Rep.Mv
    |rt t'=>cases hb;exact λv H' s' r'=>h v H' (sameOf H' s') r'
    |bk Z'=>cases hb
    |ct Z'=>cases hb
end
end Tr
variable{x:Nf}
namespace Enu
open PySem
open AutoSeq1 (wpAny_loadPart')
variable{its:Array Nf}
def tupNext{it tt:ZE}{k:Nat}(hi:s.heap.IsTupleIter it tt k)(ht:s.heap.IsTuple tt its)(hx:its[k]?=ZA x)
  (hQ:∀h',h'.IsTupleIter it tt (k+1)->Qu it s.heap h'->Q x {s with heap:=h'}):ZJ (ZK prog w) A (NB (.ref it)) Q E s:=by
 obtain⟨ob,g1,g2,g3⟩:=id hi;obtain⟨ot,k1,_,m,k3⟩:=ht;unfold NB;refine M7 (NT (name:=Nt "__next__") hi.typeIs PF (N9 PF hi.typeIs RU ?_ (RO _)))
 show ZJ (ZK prog w) _ (field (.ref it) 0 >>= _) _ _ s
 refine M7 (NS g1 g3 (x:=.ref tt) rfl ?_)
 show ZJ (ZK prog w) _ (if (Nx tt == Oe)=ZC then _ else _) _ _ s
 rw[if_neg (show ¬((Nx tt == Oe)=ZC)by exact NJ)]
 show ZJ (ZK prog w) _ (field (.ref it) 1 >>= _) _ _ s
 refine M7 (NS g1 g3 (x:=.int k 0) rfl ?_)
 show ZJ (ZK prog w) _ (seqItems? (.ref tt) >>= _) _ _ s
 refine M7 (Oc k1 k3 ?_)
 simp only[hx,Oq];refine M7 (Si g1 g3 (by simp) (Nh ⟨x,rfl,Nh (hQ _ ?_ (QY ..))⟩))
 refine⟨_,Qx _ g1 (S9 (Rb g3 _)),(UM ..).trans g2,?_⟩
 rw[Rb g3];simp[rawInt]
def tupStop{it tt:ZE}{k:Nat}(hh:A.handled=ZB)(hi:s.heap.IsTupleIter it tt k)(ht:s.heap.IsTuple tt its)(hx:its[k]?=ZB)
  (hE:∀h' e,T4 it s.heap h'->(∃o,h'.get? e=ZA o/\o.cls=.type "StopIteration")->E (.ref e) {s with heap:=h'}):ZJ (ZK prog w) A (NB (.ref it)) Q E s:=by
 obtain⟨ob,g1,g2,g3⟩:=id hi;obtain⟨ot,k1,_,m,k3⟩:=ht;unfold NB;refine M7 (NT (name:=Nt "__next__") hi.typeIs PF (N9 PF hi.typeIs RU ?_ (RO _)))
 show ZJ (ZK prog w) _ (field (.ref it) 0 >>= _) _ _ s
 refine M7 (NS g1 g3 (x:=.ref tt) rfl ?_)
 show ZJ (ZK prog w) _ (if (Nx tt == Oe)=ZC then _ else _) _ _ s
 rw[if_neg (show ¬((Nx tt == Oe)=ZC)by exact NJ)]
 show ZJ (ZK prog w) _ (field (.ref it) 1 >>= _) _ _ s
 refine M7 (NS g1 g3 (x:=.int k 0) rfl ?_)
 show ZJ (ZK prog w) _ (seqItems? (.ref tt) >>= _) _ _ s
 refine M7 (Oc k1 k3 ?_)
 simp only[hx,Oq];refine M7 (Qa (M7 (Si g1 g3 (by simp) ?_)))
 show ZJ (ZK prog w) _ (newExc (.type "StopIteration") [] >>= _) _ _ _
 refine M7 ?_
 simp only[newTuple,newExc];refine M7 (Ox ?_ (by size_fits))
 refine M7 (m:=Sj _ _) (wpAny_of_eq (a:=Oe) (by first| (simp only[Sj];rfl)|rfl) ?_)
 refine Ox ?_ (by size_fits)
 simp only[raiseNew];refine M7 (wpAny_handled ?_)
 first|rw[hh]|rw[show A.in1.handled=ZB from hh]
 refine M7 (Nh (wpAny_throw ?_))
 refine hE _ _ (((QY ..).extBut.push _).push _) ⟨_,Nn _ rfl,rfl⟩
def tupDraws(hh:A.handled=ZB)(it tt:ZE)(hne:tt≠it)(its:Array Nf):
  Draws prog w A it [it,tt] its.size (λi v=>its[i]?=ZA v) (λi h=>h.IsTupleIter it tt i/\h.IsTuple tt its) where
 live:=λ_ _ st=>by obtain⟨o,ho,_⟩:=st.1;exact⟨o,ho⟩
 frame:=λ_ _ _ st hk=>by
  obtain⟨⟨o,e,r⟩,⟨o',e',r'⟩⟩:=st;exact⟨⟨o,hk it (by simp) o e,r⟩,⟨o',hk tt (by simp) o' e',r'⟩⟩
 item:=λi s Q E hi st hQ=>by
  refine tupNext st.1 st.2 (x:=its[i]) (by simp[hi]) λh' hit' hs'=>?_
  obtain⟨o',e',r'⟩:=st.2;exact hQ _ h' s.toks (by simp[hi]) ⟨hit',⟨o',(hs'.2 tt hne).trans e',r'⟩⟩ hs'
 done:=λs Q E st hE=>tupStop hh st.1 st.2 (by simp) hE
def newT(l:ZE)(items:Array Nf)(n:Nat)(dct:Option ZE)(sl:Array (Option Nf)):
  Meets (Builtin.«enumerate.__new__» ⟨[.type "enumerate",.ref l],[]⟩) (λ_ R s=>s.heap.get? l=ZA {cls:=.type "tuple",dict:=dct,data:=.seq items n,slots:=sl} ∧
   R (.ok (.ret (.ref (s.heap.push {cls:=.type "tuple_iterator",data:=.fields #[.ref l,.int 0 0]}).objs.size)))
    {s with heap:=(s.heap.push {cls:=.type "tuple_iterator",data:=.fields #[.ref l,.int 0 0]}).push {cls:=.type "enumerate",data:=.fields #[.none,.bool ZD,.ref s.heap.objs.size,rawInt 0,.none,.none]}}):=
 .of_wp λprog w A R s h=>by
  obtain⟨hp,g,d,tk,os⟩:=s;obtain⟨hl,h⟩:=h
  have hsub:=sub_enumerate
  have hT:Heap.IsTuple (SF ⟨hp,g,d,tk,os⟩) l items:=⟨_,hl,rfl,n,rfl⟩
  wp_walk using O4 hl
  refine wpAny_stack_any λst=>Nh ?_
  split
  ·rename_i c _ _ _ _ _
   cases (c == OU "enumerate")
   ·wp_walk using O4 hl,PM hT
    exact⟨_,rfl,h⟩
   ·wp_walk using O4 hl,PM hT
    exact⟨_,rfl,h⟩
  ·wp_walk using O4 hl,PM hT
   exact⟨_,rfl,h⟩
def callT{l:ZE}{items:Array Nf}(hL:s.heap.IsTuple l items)
  (h:∀h',IsEnum h' (s.heap.objs.size+1) s.heap.objs.size 0 .none->h'.IsTupleIter s.heap.objs.size l 0->h'.objs.size=s.heap.objs.size+2 →
   (∀b o,s.heap.get? b=ZA o->h'.get? b=ZA o)->Q (.ref (s.heap.objs.size+1)) {s with heap:=h'}):ZJ (ZK prog w) A (call (.type "enumerate") [.ref l]) Q E s:=by
 obtain⟨⟨cc,dc,dd,ss⟩,hl,hc,n,hd⟩:=hL
 replace hc:cc=.type "tuple":=hc
 replace hd:dd=.seq items n:=hd
 subst hc hd;refine Vc F.called_enumerate (by decide) (F.typeCall_enumerate_1 _) (F.newCall_enumerate_1 _) (λobj=>F.args_object_init_2 obj _) F.entry_enumerate_new (newT l items n dc ss) ⟨hl,?_⟩
 have hz:(s.heap.push {cls:=.type "tuple_iterator",data:=.fields #[.ref l,.int 0 0]}).objs.size=s.heap.objs.size+1:=NY ..
 show _/\_
 rw[hz]
 have he:IsEnum ((s.heap.push {cls:=.type "tuple_iterator",data:=.fields #[.ref l,.int 0 0]}).push
   {cls:=.type "enumerate",data:=.fields #[.none,.bool ZD,.ref s.heap.objs.size,rawInt 0,.none,.none]}) (s.heap.objs.size+1) s.heap.objs.size 0 .none:=by
  have q:=Nn (s.heap.push {cls:=.type "tuple_iterator",data:=.fields #[.ref l,.int 0 0]})
   (o:={cls:=.type "enumerate",data:=.fields #[.none,.bool ZD,.ref s.heap.objs.size,rawInt 0,.none,.none]}) rfl
  rw[hz]at q;exact q
 refine⟨⟨_,he,rfl⟩,h _ he ⟨_,M8 _ (Nn _ rfl),rfl,rfl⟩ (by rw[NY,hz]) λb o x=>M8 _ (M8 _ x)⟩
end Enu
namespace L2
open PySem PySem.Spec PyProof.Rows
variable{X:Cx}{fp:List ZE}{h':ZH}
section
variable {bv:V2}{σ:L2.St}{H:Hp}
def Inv.Mt{Tp:ZE}{xs:List V}(I:Inv X bv σ H s)(hf:∀b∈fp,mK X bv H b)(k:∀b o,b∉fp->s.heap.get? b=ZA o->h'.get? b=ZA o)
  (ht:∀b∈fp,∃o,h'.get? b=ZA o) (hT:s.heap.objs.size<=Tp) (new:ObjOk X.prog X.w (upd H Tp (.tup xs)) h' Tp (.tup xs)):Inv X bv σ (upd H Tp (.tup xs)) {s with heap:=h',toks:=t'}:=by
 have hn:H Tp=ZB:=I.hok.fresh hT
 have jy:∀b o,s.heap.get? b=ZA o->b≠Tp:=λb o e=>Oa (Nq (Np e) hT)
 have nf:∀b u,H b=ZA u->b∉fp:=λb u e z=>by rw[(hf b z).1]at e;cases e
 refine I.step (g':=s.gens) (d':=s.drawn) (ch:=fp) (λb hb=>⟨(hf b hb).2.2.2.1,(hf b hb).2.1,(hf b hb).2.2.2.2.1,(hf b hb).2.2.2.2.2⟩) (λb o _ _ hc e _=>k b o hc e) (λb o _ _ hc e _=>⟨o.slots,k b o hc e⟩)
  (λb o _ e n=>by rw[aG (jy b o e)];exact n) (λb o hc e=>⟨o,k b o hc e⟩) (λb ys e=>by rw[aG (cA e hn)];exact e) (λb o u e=>by rw[aG (cA e hn)];exact e)
  (λb ps e=>⟨#[],by rw[aG (cA e hn),e];simp⟩) (λm hm=>?_) (λb u e=>?_) I.bare
 ·obtain⟨o,es,ep,ho,r⟩:=hm
  exact⟨o,es,ep,k _ o (λz=>(hf _ z).2.1 rfl) ho,r⟩
 ·by_cases hb:b=Tp
  ·subst hb;rw[aI]at e;cases e;exact new
  ·rw[aG hb]at e
   refine(I.hok b u e).L8 (λc v hc q=>k c v ?_ q) (λc q=>by rw[aG (cA q hn)];exact q) λc ys q=>by rw[aG (cA q hn)];exact q
   rcases hc with z|z
   ·rw[z];exact nf b u e
   ·exact nf c _ z
def Inv.KB(I:Inv X bv σ H s)(hf:∀b∈fp,mK X bv H b)(k:∀b o,b∉fp->s.heap.get? b=ZA o->h'.get? b=ZA o):Inv X bv σ H {s with heap:=h',toks:=t'}:=by
 have nf:∀b u,H b=ZA u->b∉fp:=λb u e z=>by rw[(hf b z).1]at e;cases e
 refine I.step (g':=s.gens) (d':=s.drawn) (ch:=fp) (λb hb=>⟨(hf b hb).2.2.2.1,(hf b hb).2.1,(hf b hb).2.2.2.2.1,(hf b hb).2.2.2.2.2⟩) (λb o _ _ hc e _=>k b o hc e) (λb o _ _ hc e _=>⟨o.slots,k b o hc e⟩)
  (λb o _ e n=>n) (λb o hc e=>⟨o,k b o hc e⟩) (λb ys e=>e) (λb o u e=>e)
  (λb ps e=>⟨#[],by rw[e];simp⟩) (λm hm=>?_) (λb u e=>?_) I.bare
 ·obtain⟨o,es,ep,ho,r⟩:=hm
  exact⟨o,es,ep,k _ o (λz=>(hf _ z).2.1 rfl) ho,r⟩
 ·refine(I.hok b u e).L8 (λc v hc q=>k c v ?_ q) (λc q=>q) λc ys q=>q
  rcases hc with z|z
  ·rw[z];exact nf b u e
  ·exact nf c _ z
end
def BG(K:M9)(H:Hp)(a:ZE)(tt:Bool)(xs:List V):Prop:=if tt then SqT K H a xs else SqL K H a xs
def L1(K:M9)(a:ZE)(tt:Bool):It:=
 ⟨λi H=>∃xs x,BG K H a tt xs/\xs[i]?=ZA x,λi H x H'=>∃p v,x=.ref p/\H p=ZB/\H'=upd H p (.tup [.int (i:Nat),v])/\∀xs,BG K H a tt xs->xs[i]?=ZA v,λi H=>∃xs,BG K H a tt xs/\xs.length<=i⟩
def itAt(tt:Bool)(h:ZH)(it a:ZE)(i:Nat):Prop:=if tt then h.IsTupleIter it a i else h.IsListIter it a i
variable{h:ZH}
def itAt.obj{it a:ZE}(st:itAt tt h it a i):∃o,h.get? it=ZA o/\∀v,o.data≠ .cell v:=by
 cases tt with
 |true=>obtain⟨o,e,c,d⟩:=(show h.IsTupleIter it a i from st);exact⟨o,e,λv z=>by rw[d]at z;cases z⟩
 |false=>obtain⟨o,e,c,d⟩:=(show h.IsListIter it a i from st);exact⟨o,e,λv z=>by rw[d]at z;cases z⟩
def itAt.keep{it a:ZE}(st:itAt tt h it a i)(k:∀o,h.get? it=ZA o->h'.get? it=ZA o):itAt tt h' it a i:=by
 cases tt with
 |true=>obtain⟨o,e,r⟩:=(show h.IsTupleIter it a i from st);exact(show h'.IsTupleIter it a i from⟨o,k o e,r⟩)
 |false=>obtain⟨o,e,r⟩:=(show h.IsListIter it a i from st);exact(show h'.IsListIter it a i from⟨o,k o e,r⟩)
variable{elts:List ZG}
def AN{pos:Pos}(tt:Bool)(a e it:ZE)(hei:e≠it):
  By P w K (.Tuple elts kk pos) (L1 K a tt) [e,it] e (λi h=>(∃old,IsEnum h e it i old)/\itAt tt h it a i) where
 mem:=by simp
 obj:=λi h st b hb=>by
  obtain⟨⟨old,he⟩,hi⟩:=st;rcases Nl.mp hb with rfl|hb
  ·exact⟨_,he,λv z=>by have z':Data.fields _=Data.cell v:=z;cases z'⟩
  ·rw[Ny.mp hb];exact hi.obj
 keep:=λi h h' st k=>by
  obtain⟨⟨old,he⟩,hi⟩:=st;exact⟨⟨old,k e (by simp) _ he⟩,hi.keep λo q=>k it (by simp) o q⟩
 item:=by
  intro X hP hw hK hc i bv s σ H E I hf st hg;subst hP hw hK;obtain⟨xs,x,hq,hx⟩:=hg;obtain⟨⟨old,he⟩,hi⟩:=st
  have key:∀(its:List Nf),Vals xs its->(∀ys,BG X.K H a tt ys->ys=xs)->∀(fp0:List ZE)(St:Nat->ZH->Prop),Draws X.prog X.w X.A.in1 it fp0 its.toArray.size (λi v=>its.toArray[i]?=ZA v) St->e∉fp0->it∈fp0->St i s.heap →
    (∀h',St (i+1) h'->itAt tt h' it a (i+1)) →
    ZJ (ZK X.prog X.w) X.A (pyNext (.ref e)) (λr s1=>∃u,r=ZA u/\ZJ (ZK X.prog X.w) X.A (Rg (.Tuple elts kk pos) (.ref e) u) (λ_ s2=>∃x' H',Inv X bv σ H' s2/\RelV x' u/\(L1 X.K a tt).yld i H x' H' ∧
     ((∃old,IsEnum s2.heap e it (i+1:Nat) old)/\itAt tt s2.heap it a (i+1))/\∀b∈ [e,it],H' b=ZB) E s1) E s:=by
   intro its rv uniq fp0 St D hef hif hst hnext;obtain⟨u,hu,ru⟩:=rv.get hx
   have hlt:i<its.toArray.size:=by
    have:=(Nu.mp hu).1
    simpa using this
   have W:=WalksT.enumerateD D e hei hef hif;refine W.item i s _ _ hlt ⟨⟨old,he⟩,hst⟩ λTp vals h1 tk hPt hTsz hTup hMid hk=>⟨.ref Tp,rfl,?_⟩
   refine W.go elts kk pos i Tp {s with heap:=h1,toks:=tk} _ _ hMid λh2 hst2 hk2=>?_
   obtain⟨t,x',hPx,hvals⟩:=hPt;subst hvals
   have hxe:x'=u:=by
    have h1':its.toArray[i]?=ZA x':=hPx
    have h2':its.toArray[i]?=ZA u:=by simpa using hu
    rw[h1']at h2';exact NZ h2'
   subst hxe
   have hTw:=W.apart i Tp h1 hMid;obtain⟨oT,eT,rT⟩:=hTup
   have eT2:h2.get? Tp=ZA oT:=hk2 Tp oT hTw eT
   have kAll:∀b o,b∉ [e,it]->s.heap.get? b=ZA o->h2.get? b=ZA o:=λb o hb q=>hk2 b o hb (hk b o hb q)
   obtain⟨⟨old2,he2⟩,hs2⟩:=hst2
   have hit2:=hnext h2 hs2
   have there:∀b∈ [e,it],∃o,h2.get? b=ZA o:=λb hb=>by
    rcases Nl.mp hb with rfl|hb
    ·exact⟨_,he2⟩
    ·rw[Ny.mp hb];obtain⟨o,q,_⟩:=hit2.obj;exact⟨o,q⟩
   have hn:H Tp=ZB:=I.hok.fresh hTsz
   have new:ObjOk X.prog X.w (upd H Tp (.tup [.int (i:Nat),x])) h2 Tp (.tup [.int (i:Nat),x]):=
    ⟨by show 2<=ZI;decide,[.int (i:Nat) t,x'],.cons ⟨t,rfl⟩ (.cons ru .nil),⟨oT,eT2,rT⟩⟩
   have I2:=I.Mt (t':=tk) hf kAll there hTsz new;refine⟨.ref Tp,_,I2,rfl,⟨Tp,x,rfl,hn,rfl,λys hy=>by rw[uniq ys hy];exact hx⟩,⟨⟨old2,he2⟩,hit2⟩,λb hb=>?_⟩
   have hbT:b≠Tp:=λz=>by
    obtain⟨o,q⟩:∃o,s.heap.get? b=ZA o:=by
     rcases Nl.mp hb with rfl|hb
     ·exact⟨_,he⟩
     ·rw[Ny.mp hb];obtain⟨o,q,_⟩:=hi.obj;exact⟨o,q⟩
    exact absurd (Nq (Np q) hTsz) (by rw[z];exact NK _)
   rw[aG hbT];exact(hf b hb).1
  have hne:∀b∈ [e,it],a≠b:=λb hb z=>by
   have hb':=(hf b hb).1;rw[<-z]at hb'
   have hbs:=hf b hb
   cases tt with
   |true=>
    have hq':SqT X.K H a xs:=hq;rcases hq' with(q|⟨o,q⟩)|⟨o,its,n,q,_⟩
    ·rw[hb']at q;cases q
    ·rw[hb']at q;cases q
    ·rcases hbs.2.2.2.1 with z1|z1
     ·exact I.ok.noex a o (I.ok.mod.kin a o q) (z▸z1)
     ·exact absurd (Nq (Np (I.ok.bs a o (I.ok.mod.kin a o q)).1) (z▸z1)) (NK _)
   |false=>
    have hq':SqL X.K H a xs:=hq;rcases hq' with(q|⟨o,q⟩)|⟨o,its,n,q,_⟩
    ·rw[hb']at q;cases q
    ·rw[hb']at q;cases q
    ·rcases hbs.2.2.2.1 with z1|z1
     ·exact I.ok.noex a o (I.ok.mod.kin a o q) (z▸z1)
     ·exact absurd (Nq (Np (I.ok.bs a o (I.ok.mod.kin a o q)).1) (z▸z1)) (NK _)
  have hea:e≠a:=λz=>hne e (by simp) z.symm
  have hia:it≠a:=λz=>hne it (by simp) z.symm
  cases tt with
  |true=>
   have hq':SqT X.K H a xs:=hq;obtain⟨its,rv,p,hz⟩:=I.tuple hq'
   exact key its rv (λys hy=>I.Ma hy hq') _ _ (Enu.tupDraws (A:=X.A.in1) (I.ok.hd hc) it a (QZ hia) its.toArray) (by simp[hei,hea]) (by simp) ⟨hi,p⟩ λh' z=>z.1
  |false=>
   have hq':SqL X.K H a xs:=hq;obtain⟨its,rv,p,hz⟩:=I.list hq';exact key its rv (λys hy=>I.Mb hy hq') _ _ (Draws.list (A:=X.A.in1) (I.ok.hd hc) it a (QZ hia) its.toArray) (by simp[hei,hea]) (by simp) ⟨hi,p.isList⟩ λh' z=>z.1
 done:=by
  intro X hP hw hK hc i bv s σ H E I hf st hg;subst hP hw hK;obtain⟨xs,hq,hx⟩:=hg;obtain⟨⟨old,he⟩,hi⟩:=st
  have fin:∀h',T4 it s.heap h'->(ZB:Option Nf)=ZB/\Inv X bv σ H {s with heap:=h'}:=λh' eb=>⟨rfl,I.KB (t':=s.toks) hf λb o hb q=>eb b o (λz=>hb (by simp[z])) q⟩
  cases tt with
  |true=>
   have hq':SqT X.K H a xs:=hq;obtain⟨its,rv,p,hz⟩:=I.tuple hq'
   have hl:=rv.length
   have hnone:its.toArray[i]?=ZB:=by simp;omega
   have hT:s.TypeIs (.ref e) "enumerate":=⟨_,he,rfl⟩;unfold pyNext;refine M7 (PN (NT (name:=Nt "__next__") hT Ta (N9 Ta hT F.entry_enumerate_next ?_ (F.args_enumerate_next_1 _))))
   show ZJ (ZK X.prog X.w) _ (field (.ref e) 2 >>= _) _ _ _
   refine M7 (NS he rfl (x:=.ref it) rfl ?_)
   refine M7 (Enu.tupStop (I.ok.hd hc) hi p hnone λh' x he' hx'=>?_)
   obtain⟨o,ho,hcl⟩:=hx'
   exact M7 (RJ (T:="StopIteration") (b:=ZC) ⟨o,ho,hcl⟩ Sk (Nh (fin h' he')))
  |false=>
   have hq':SqL X.K H a xs:=hq;obtain⟨its,rv,p,hz⟩:=I.list hq'
   have hl:=rv.length
   have hnone:its.toArray[i]?=ZB:=by simp;omega
   exact wpAny_pyNext_enum_end (I.ok.hd hc) he hi p.isList hnone fin
 self:=λ_ _ _ _ _ st h=>by
  obtain⟨⟨old,he⟩,_⟩:=st;exact UZ he h
section
variable {tpos:Pos}
def qz:N5 "enumerate" =ZA (.type "enumerate"):=by decide+kernel
def iEnu(K:M9)(tl:TA):TI:=λσ H R=>tl σ H λvs H1=>∃a tt,vs=[.ref a]/\(∃xs,BG K H1 a tt xs)/\R (L1 K a tt) H1
def FR{l:ZG}{tl:TA}{p pos:Pos}(hg:Gl X "enumerate")(hm:X.mg "enumerate" =ZB)(hl:PA X [l] tl)(hs:NF [l] X.env=[(ZD,eval l X.env)]:=by rfl):PI X (.Tuple elts kk tpos) (.Call (.Name "enumerate" p) [l] [] pos) (iEnu X.K tl):=by
 intro bv s σ H R I h;refine Call_ (fO I hg hm qz (N1 (cz (hl pos bv s σ H _ I h) λus s1 ⟨vs,H1,I1,r1,q1⟩=>?_) hs rfl))
 obtain⟨a,tt,e,⟨xs,hq⟩,q⟩:=q1;subst e;obtain⟨u,rfl,ru⟩:=kQ r1;cases ru
 have fin:∀h',IsEnum h' (s1.heap.objs.size+1) s1.heap.objs.size 0 .none->itAt tt h' s1.heap.objs.size a 0->h'.objs.size=s1.heap.objs.size+2->(∀b o,s1.heap.get? b=ZA o->h'.get? b=ZA o) →
   ZJ (ZK X.prog X.w) X.A (pyIter (.ref (s1.heap.objs.size+1))) (PIE X bv σ (.Tuple elts kk tpos) R) X.xe {s1 with heap:=h'}:=λh' he hi hsz hk=>by
  refine UZ he ?_
  have I2:Inv X bv σ H1 {s1 with heap:=h'}:=I1.kept (t':=s1.toks) hk
  refine⟨s1.heap.objs.size+1,[s1.heap.objs.size+1,s1.heap.objs.size],_,_,H1,rfl,I2,AN tt a (s1.heap.objs.size+1) s1.heap.objs.size (Nat.succ_ne_self _),⟨⟨_,he⟩,hi⟩,λb hb=>?_,q⟩
  rcases Nl.mp hb with rfl|hb
  ·exact I1.Mi (by omega) (I1.hok.fresh (by omega))
  ·rw[Ny.mp hb];exact I1.Mi (Nr _) (I1.hok.fresh (Nr _))
 cases tt with
 |true=>
  have hq':SqT X.K H1 a xs:=hq;obtain⟨its,rv,pl,hz⟩:=I1.tuple hq'
  exact Enu.callT pl λh' he hi hsz hk=>fin h' he hi hsz hk
 |false=>
  have hq':SqL X.K H1 a xs:=hq;obtain⟨its,rv,pl,hz⟩:=I1.list hq';exact call_enumerate_list pl.isList λh' he hi hsz hk=>fin h' he hi hsz hk
end
end L2
namespace Tr
open PySem PySem.Spec PyProof.Rows L2
section
variable {X:Cx}{a:ZG}{fa:V5}{fs:V3}{p pos:Pos}
def iS(f:V5)(Z:En):Rs (List T):=do
 let x <-f Z
 match x with
 |.lst l=>.ok l
 |.tup l=>.ok l
 |_=>.bad
def Iq{tg:ZG}(ha:cJ X a fa):BH X tg a (iS fa):=by
 intro bv s σ H R I ⟨Z,O,E,h⟩;unfold iS at h
 cases q:fa Z with
 |bad=>rw[q]at h;exact h.elim
 |err c=>exact zH ha bv s σ H R I ⟨Z,O,E,by unfold iL;rw[q]at h ⊢;exact h⟩
 |ok x=>
  rw[q,aF]at h
  cases x with
  |lst l=>exact zH ha bv s σ H R I ⟨Z,O,E,by unfold iL;rw[q];exact h⟩
  |tup l=>exact Ip ha bv s σ H R I ⟨Z,O,E,by unfold iT;rw[q];exact h⟩
  |_=>exact h.elim
noncomputable def cb:Nat->List T->List T
 |_,[] =>[]
 |n,t::r=>.tup [.int n,t] ::cb (n+1) r
theorem sI:∀(l:List T)(n i:Nat),(cb n l)[i]?=(l[i]?).map λt=>T.tup [.int ((n+i:Nat):Int),t]
 |[],n,i=>by simp[cb]
 |t::l,n,0=>by simp[cb]
 |t::l,n,i+1=>by
  rw[cb,OZ,sI l (n+1) i,OZ]
  congr 2
  funext t
  congr 4
  omega
theorem sH:∀(l:List T)(n:Nat),(cb n l).length=l.length
 |[],n=>rfl
 |t::l,n=>by rw[cb,Nj,Nj,sH l]
noncomputable def iE(f:V3)(Z:En):Rs (List T):=do
 let xs <-f Z
 match xs with
 |[x] =>match x.items with
  |some l=>.ok (cb 0 l)
  |none=>.bad
 |_=>.bad
def Fw{elts:List ZG}{tpos:Pos}(hm:X.mg "enumerate" =ZB)(ha:sW X [a] fs)(hg:Gl X "enumerate":=by rfl)(hs:NF [a] X.env=[(ZD,eval a X.env)]:=by rfl):
  BH X (.Tuple elts kk tpos) (.Call (.Name "enumerate" p) [a] [] pos) (iE fs):=PI.imp (FR hg hm ha hs) λσ H R hh_=>by
 obtain⟨Z,O,E,h⟩:=hh_;obtain⟨Z1,O1,E1,h1⟩:=fh E h;refine⟨Z1,O1,E1,Post.mono h1 λts H1 s1 q vs r=>?_⟩
 obtain⟨t',r',s',E',q'⟩:=q vs r
 split at q'
 ·rename_i x0
  obtain⟨v,rfl,rv⟩:=r'.one
  split at q'
  ·rename_i l hl
   have main:∀(aa:ZE)(tt:Bool)(ws:List V),v=.ref aa->¬ O aa->Reps X.K O H1 l ws->BG X.K H1 aa tt ws->(∀P Hc,SameO P H1 Hc->¬ P aa->BG X.K Hc aa tt ws)->¬ Nw X.K H1 aa →
     ∃a tt,[v]=[V.ref a]/\(∃xs,BG X.K H1 a tt xs)/\R (L1 X.K a tt) H1:=λaa tt ws e n z sq mv nn=>by
    refine⟨aa,tt,by rw[e],⟨ws,sq⟩,q' H1 (Same.refl H1) _ λP O' hP hO i Hc hsm htr=>?_⟩
    have hnP:¬ P aa:=λy=>(hP aa y).elim n nn
    have sqc:=mv P Hc hsm hnP;refine⟨λhi=>⟨ws,sqc,by rw[<-z.length,<-sH l 0];exact hi⟩,λt ht=>?_⟩
    rw[sI]at ht
    cases e1:l[i]? with
    |none=>rw[e1]at ht;cases ht
    |some t0=>
     rw[e1]at ht;cases ht;obtain⟨v0,f1,f2⟩:=z.get e1;refine⟨⟨ws,v0,sqc,f1⟩,λx Hc' y=>?_⟩
     obtain⟨pp,vv,e2,hpn,e3,hy⟩:=y
     have:=hy ws sqc;rw[f1]at this;cases this;subst e2 e3;refine⟨aV hpn _,iI hpn (λzz=>?_) (Reps.FM (by simpa using Rep.GE _) (Reps.FM (f2.move hP hO hsm) Reps.nil_))⟩
     obtain⟨o,w⟩:=htr pp zz;rw[hpn]at w;cases w
   cases x0 with
   |tup m=>
    cases hl;obtain⟨aa,ws,e,n,qq,z⟩:=Rep.Do.mp rv
    exact main aa ZC ws e n z (show SqT X.K H1 aa ws from SqT.of qq) (λP Hc hsm hn=>show SqT X.K Hc aa ws from SqT.of (hsm _ _ qq hn)) λw=>by rw[w.1]at qq;cases qq
   |lst m=>
    cases hl;obtain⟨aa,ws,e,n,qq,z⟩:=Rep.Fk.mp rv
    exact main aa ZD ws e n z (show SqL X.K H1 aa ws from SqL.of qq) (λP Hc hsm hn=>show SqL X.K Hc aa ws from SqL.of (hsm _ _ qq hn)) λw=>by rw[w.1]at qq;cases qq
   |scr m=>
    cases hl;unfold Rep at rv;obtain⟨aa,e,n,qq⟩:=rv
    exact main aa ZD _ e n Reps.ints (show SqL X.K H1 aa _ from qq) (λP Hc hsm hn=>show SqL X.K Hc aa _ from Tr.SqL.keep hsm hn qq) (Tr.SqL.nn qq)
   |_=>cases hl
  ·exact q'.elim
 ·exact q'.elim
end
end Tr
namespace Tm
open PySem PyProof.Rows
def m3:fillsNumberSlot (.type "tuple") "mul" =pure ZD:=
 PySem.fillsNumberSlot_seq (id:="tuple.__mul__") (r:=ZA (.builtin "tuple.__rmul__")) SV.lookup (by decide+kernel) UN.lookup (by decide+kernel)
def tU:seqRepeat? (.type "tuple")=pure (ZA (.builtin "tuple.__mul__")):=by
 unfold seqRepeat?;rw[Vi (T:="tuple") (name:="__mul__") (id:="tuple.__mul__") SV.lookup (by decide+kernel),Vi (T:="tuple") (name:="__rmul__") (id:="tuple.__rmul__") UN.lookup (by decide+kernel)]
 rfl
def yh(a:Int)(t:Tok)(l:ZE)(items:Array Nf)(n:Nat)(dd:Option ZE)(sl:Array (Option Nf)):
  Meets (Builtin.«int.__rmul__» ⟨[.int a t,.ref l],[]⟩) (λ_ R s=>s.heap.get? l=ZA {cls:=.type "tuple",dict:=dd,data:=.seq items n,slots:=sl}/\R (.ok (.ret TN)) s):=
 .of_wp λprog w A R s h=>by obtain⟨hp,g,d,tk,os⟩:=s;obtain⟨hl,h⟩:=h;wp_walk;exact⟨_,rfl,h⟩
open AutoSeq1 (wpAny_loadPart')
def C3(l:ZE)(items:Array Nf)(n:Nat)(dd:Option ZE)(sl:Array (Option Nf))(x:Int)(u:Tok)(h1:1<x)(h2:x<2 ^ 31)(hne:items.isEmpty=ZD)(hz:items.size*x.toNat<=ZI)
  (hz2:(Sv (λa b=>a++b) #[] (NL x.toNat items)).size<=ZI):
  Meets (Builtin.«tuple.__mul__» ⟨[.ref l,.int x u],[]⟩) (λ_ R s=>s.heap.get? l=ZA {cls:=.type "tuple",dict:=dd,data:=.seq items n,slots:=sl} ∧
   R (.ok (.ret (Nx s.heap.objs.size))) {s with heap:=s.heap.push {cls:=OU "tuple",data:=Data.seq (Sv (λa b=>a++b) #[] (NL x.toNat items))}}):=
 .of_wp λprog w A R s h=>by
  obtain⟨hp,g,d,tk,os⟩:=s;obtain⟨hl,h⟩:=h
  have hT:VS hp l items:=⟨_,hl,rfl,n,rfl⟩
  have hx:((items.size:Nat):Int)*x=((items.size*x.toNat:Nat):Int):=by
   have e:x=((x.toNat:Nat):Int):=by omega
   rw[Int.natCast_mul,<-e]
  wp_walk using O4 hl
  rw[if_neg (by simp;omega)]
  refine M7 (UB (s:=⟨hp,g,d,tk,os⟩) hT ?_)
  dsimp only
  rw[if_neg (by rw[hne];simp;omega),if_neg (by rw[hne];simp;omega),hx,if_neg (by have:(ZI:Nat)<=1000000000:=(by decide);omega),if_neg (by unfold Builtin.Tuple.tupleTooMany;rw[decide_eq_true_iff];omega)]
  refine M7 (m:=Pj _) (Ox ?_ hz2)
  exact Nh ⟨_,rfl,h⟩
def mul_tuple{t:ZE}{k:Int}{tk:Tok}(ht:VS s.heap t vs.toArray)(h1:1<k)(h2:k<2 ^ 31)(hv:vs≠ [])(hz:vs.length*k.toNat<=ZI)
  (h:Q (.ref s.heap.objs.size) {s with heap:=s.heap.push {cls:=.type "tuple",data:=.seq (NL k.toNat vs).flatten.toArray}}):
  ZJ (ZK prog w) A (Pm .Mult (.ref t) (.int k tk)) Q E s:=by
 obtain⟨⟨cls,dd,data,sl⟩,ho,hc,n,hd⟩:=id ht;simp only at hc hd;subst hc hd
 have e:Sv (λa b=>a++b) #[] (NL k.toNat vs.toArray)=(NL k.toNat vs).flatten.toArray:=by
  have q:=L2.foldl_rep vs k.toNat []
  simpa using q
 refine Sh (T:="tuple") (U:="int") (by decide) ⟨_,ho,rfl⟩ (λs'=>TK s' k tk) m3 Vy RT tU Vf.lookup
  (RP RT (TK s k tk) Vg (UL _ _) (yh k tk t vs.toArray n dd sl)
   ⟨ho,rfl,⟨_,ho,rfl⟩,RP SV ⟨_,ho,rfl⟩ F.entry_tuple_mul (F.args_tuple_mul_2 _ _) (C3 t vs.toArray n dd sl k tk h1 h2 (by simpa using hv) (by simpa using hz) (by rw[e,Nz,L2.len_rep,U3];exact hz)) ⟨ho,?_⟩⟩)
 rw[e];exact h
end Tm
namespace Tr
open PySem PySem.Spec PyProof.Rows L2
variable{X:Cx}
noncomputable def cp(x y:T):Rs T:=match x,y with
 |.tup l,.int k=>if 1<k/\k<2 ^ 31/\l≠ []/\l.length*k.toNat<=ZI then .ok (.tup (NL k.toNat l).flatten)else .bad
 |x,y=>yM x y
instance (l:List T):Decidable (l≠ []):=by cases l <;> simp <;> infer_instance
def da:OpT X (Pm .Mult) cp:=by
 intro bv s σ H O x y vx vy ux uy Q I hf rx ry r1 r2 hp;unfold cp at hp
 split at hp
 ·rename_i l k
  split at hp
  ·rename_i h
   obtain⟨a,vs,e1,n1,q1,z1⟩:=Rep.Do.mp rx;subst e1;cases Rep.Da.mp ry;cases r1;obtain⟨tk,rfl⟩:=r2;obtain⟨its,rv,pl,hz⟩:=I.tuple (SqT.of q1)
   have hl1:=z1.length
   have hl2:=rv.length
   have hne:its≠ []:=λz=>h.2.2.1 (List.eq_nil_of_length_eq_zero (by rw[hl1,hl2,z];rfl))
   refine Tm.mul_tuple pl h.1 h.2.1 hne (by rw[<-hl2,<-hl1];exact h.2.2.2) ?_
   have hn:=I.hok.fresh (Nr _);refine⟨.ref _,_,I.laid (t':=s.toks) (o:=.tup (NL k.toNat vs).flatten) (λb ob q=>M8 _ q) (Nr _) ?_,rfl,hp _ (aV hn _) _ (iI hn (hf _ hn) (z1.rep _))⟩
   refine⟨?_,_,rv.rep k.toNat,Vw _ _⟩
   rw[len_rep,U3,<-hl1];exact h.2.2.2
  ·exact hp.elim
 ·exact IU bv s σ H O _ _ vx vy ux uy Q I hf rx ry r1 r2 hp
noncomputable def Jm(outer:List (Str×QJ))(N:List Str)(names:List (Str×QJ))(N':List Str)(src:List (Option Nat)):Bool:=
 names.all (λy=>y.2 != .cell||names.lookup y.1 == ZA .cell)&&names.all (λy=>y.2 != .local||names.lookup y.1 == ZA .local)&&src.length == N'.length&&
 (Oz N'.length).all (λj=>match src[j]? with
  |some (ZA i)=>match N'[j]? with
   |some x=>N[i]? == ZA x&&names.lookup x == ZA .free
   |none=>ZC
  |_=>ZC)&&
 names.all (λy=>y.2 != .free||(outer.lookup y.1 == ZA .cell||outer.lookup y.1 == ZA .free))
variable{N:List Str}
theorem LcScope.by{N':List Str}{src:List (Option Nat)}{names:List (Str×QJ)}(hN:X.N=N)(hs:X.env.scope.names=names)(hk:scope.kind=.function)(h:Jm names N scope.names N' src=ZC):LcScope X scope N' src:=by
 unfold Jm at h;simp only[Ni]at h;obtain⟨⟨⟨⟨h1,h2⟩,h3⟩,h4⟩,h5⟩:=h
 have a1:=NN.mp h1
 have a2:=NN.mp h2
 have a4:=NN.mp h4
 have a5:=NN.mp h5;refine⟨hk,λy hy hl=>by have:=a1 y hy;rw[hl]at this;simpa using this,λy hy hl=>?_,by simpa using h3,λj i x e1 e2=>?_,λx hx=>?_⟩
 ·have:=a2 y hy
  rw[hl]at this
  simpa using this
 ·have hj:j<N'.length:=(Nu.mp e2).1
  have:=a4 j (OJ.mpr hj);rw[e1]at this;simp only[e2]at this;rw[Ni]at this;rw[hN];exact⟨by simpa using this.1,by simpa using this.2⟩
 ·have:=a5 _ hx
  simp only[bne_self_eq_false,SG,Vz]at this
  show X.env.scope.names.lookup x=_\/X.env.scope.names.lookup x=_
  rw[hs];rcases this with z|z
  ·exact .inl (by simpa using z)
  ·exact .inr (by simpa using z)
def bN:ZG->Bool
 |.Starred .. =>ZD
 |_=>ZC
def bM:List ZG->Bool
 |[] =>ZC
 |e::r=>bN e&&bM r
variable{e:ZG}{env:Env}{es:List ZG}
def bh(h:bN e=ZC):NF (e::es) env=(ZD,eval e env)::NF es env:=by
 cases e <;> first|rfl|cases h
theorem gG{pos:Pos}{env:Env}:∀{es:List ZG},bM es=ZC->(backTo pos (NF es env)).any (·.1)=ZD
 |[],_=>rfl
 |e::r,h=>by
  unfold bM at h;rw[Ni]at h;rw[bh h.1]
  have ih:=gG (pos:=pos) (env:=env) h.2
  show(ZD||(backTo pos (NF r env)).any (·.1))=ZD
  rw[ih];rfl
variable{a:ZG}{f fa:V5}{g:List T->Rs T}{ps:List Str}{x:Str}
section
variable {b:ZG}{fs:V3}{pos p p2:Pos}
def qa_c{g:V3}(he:cJ X e f)(hr:sW X es g)(hn:bN e=ZC:=by rfl):sW X (e::es) (af f g):=FA he hr (bh hn)
def q_cB{id:String}(hc:CallT X (.builtin id) g)(hm:X.mg x=ZB)(hv:N5 x=ZA (.builtin id))(ha:sW X (e::es) fs)(hn:bM (e::es)=ZC:=by rfl)(hg:Gl X x:=by rfl)(h1:autoParam (x≠ "__name__") s_)(h2:autoParam ((x == ("__debug__" : Str))=ZD) s_):
  cJ X (.Call (.Name x p) (e::es) [] pos) (cl g fs):=by
 unfold bM at hn;rw[Ni]at hn;exact FE hc hm hv ha hg h1 h2 (bh hn.1) (gG hn.2)
def q_cT(hc:CallT X (.type Ty) g)(hm:X.mg x=ZB)(hv:N5 x=ZA (.type Ty))(ha:sW X (e::es) fs)(hn:bM (e::es)=ZC:=by rfl)(hg:Gl X x:=by rfl)(h1:autoParam (x≠ "__name__") s_)(h2:autoParam ((x == ("__debug__" : Str))=ZD) s_):
  cJ X (.Call (.Name x p) (e::es) [] pos) (cl g fs):=by
 unfold bM at hn;rw[Ni]at hn;exact Cu hc hm hv ha hg h1 h2 (bh hn.1) (gG hn.2)
def q_c{k:Nat}{f:ZE}(F:J3 X.prog X.w X.K X.mg X.base k f fd ps n g)(hr:Room k X.A)(hm:X.mg x=ZA (.ref f))(hk:Rt X.K (.ref f)=ZC)(hb:Binds X.K fd ps [])
  (hl:∀Z ts,fs Z=.ok ts->ts.length=n) (ha:sW X (e::es) fs) (hps:ps.length=n:=by rfl) (hn:bM (e::es)=ZC:=by rfl) (hg:Gl X x:=by rfl) (h2:autoParam ((x == ("__debug__" : Str))=ZD) s_):cJ X (.Call (.Name x p) (e::es) [] pos) (cl g fs):=by
 unfold bM at hn;rw[Ni]at hn;exact IA F hr hm hk hb hps hl ha hg h2 (bh hn.1) (gG hn.2)
def q_is{tn:Str}(hm:X.mg "isinstance" =ZB)(hmt:X.mg tn=ZB)(hv:N5 tn=ZA (.type Ty))(ha:cJ X a fa)(hn:bN a=ZC:=by rfl)(hg:Gl X "isinstance":=by rfl)(hgt:Gl X tn:=by rfl)
  (h1:autoParam (tn≠ "__name__") s_) (h2:autoParam ((tn == ("__debug__" : Str))=ZD) s_):cJ X (.Call (.Name "isinstance" p) [a,.Name tn p2] [] pos) (o1 (Gj Ty) fa):=
 KN hm hmt hv ha hg hgt h1 h2 (bh hn) (gG rfl) (bh rfl)
end
def LB(Z:En)(ts:List T)(h:ai Z=.ok ts):ts.length=0:=by cases h;rfl
def LA{g:V3}(hg:∀Z ts,g Z=.ok ts->ts.length=n)(Z:En)(ts:List T)(h:af f g Z=.ok ts):ts.length=n+1:=by
 unfold af at h
 cases q:f Z with
 |bad=>rw[q]at h;cases h
 |err c=>rw[q]at h;cases h
 |ok t=>
  rw[q,aF]at h
  cases q2:g Z with
  |bad=>rw[q2]at h;cases h
  |err c=>rw[q2]at h;cases h
  |ok r=>
   rw[q2,aF]at h;cases h;rw[Nj,hg Z r q2]
def jB{k:Nat}(h:Room k A):A.units+60<cLine:=by have:=h.un;omega
def yV{k:Nat}(h:Room k A):A.units+61<cLine:=by have:=h.un;omega
structure Fn (K:M9)(mg:V0)(x:Str)(st:ZF)(ps:List Str)(f:ZE)(fd:Pn):Prop where
 fn:L2.Fun K x x st f fd
 bd:Binds K fd ps []
 mg:mg x=ZA (.ref f)
def val(n m:Nat)(F:V4)(ts:List T):Rs T:=if ts.length=n then bQ F (aR m ts)else .bad
variable{ts:List T}
def HB{F:V4}{t:T}(h:val n m F ts=.ok t):bQ F (aR m ts)=.ok t:=by
 unfold val at h
 split at h
 ·exact h
 ·cases h
variable{H:Hp}
def sp_script{a:ZE}{E:XK}(hS:SqL K H a (ns.map V.int))(h:g [.scr ns]=.ok (.bl ZC)):spP K 1 g [.ref a] H (λv _=>v=.bl ZC) E:=by
 refine⟨[.scr ns],λ_=>False,Reps.FM ?_ Reps.nil_,λ_ z=>z.elim,rfl,?_⟩
 ·unfold Rep;exact⟨a,rfl,λz=>z,hS⟩
 ·rw[h];exact λv H' _ r=>Rep.FB.mp r
def vS{l:List α}{z:α}(h:l[i]?=ZA z):l.set i z=l:=by
 obtain⟨hi,rfl⟩:=Nu.mp h
 exact Tb hi
def Mn.set(M:Mn)(i:Nat)(m:Ow):Mn:=λj=>if j=i then m else M j
variable{M:Mn}{m:Ow}
def Mn.Mg{a:ZE}(h:(M.set i m).u a):m a\/M.u a:=by
 obtain⟨j,h⟩:=h;unfold Mn.set at h
 by_cases z:j=i
 ·rw[if_pos z]at h;exact .inl h
 ·rw[if_neg z]at h;exact .inr ⟨j,h⟩
def Mn.MF:M.set i m i=m:=by unfold Mn.set;rw[if_pos rfl]
def Mn.Mk(h:j≠i):M.set i m j=M j:=by unfold Mn.set;rw[if_neg h]
variable{H':Hp}{O O':Ow}
theorem RowsR.move{P:Ow}(hP:∀a,P a->O a\/Nw K H a)(hO:∀a,O' a->O a\/Nw K H a)(h:SameO P H H'):∀{rs:List (List T×List T)}{as:List ZE},(∀b∈as,¬P b)->RowsR K O H rs as->RowsR K O' H' rs as
 |[],_,_,r=>r
 |_::_,_,hb,⟨b,bs,kvs,e1,e2,e3,e4,e5⟩=>by
  subst e1;exact⟨b,bs,kvs,rfl,h _ _ e2 (hb b Nb),e3,e4.move hP hO h,e5.move hP hO h λc hc=>hb c (Na _ hc)⟩
theorem LsR.move{P:Ow}(hP:∀a,P a->O a\/Nw K H a)(hO:∀a,O' a->O a\/Nw K H a)(h:SameO P H H'):∀{rs:List (List T)}{as:List ZE},(∀b∈as,¬P b)->LsR K O H rs as->LsR K O' H' rs as
 |[],_,_,r=>r
 |_::_,_,hb,⟨b,bs,vs,e1,e2,e4,e5⟩=>by
  subst e1;exact⟨b,bs,vs,rfl,h _ _ e2 (hb b Nb),e4.move hP hO h,e5.move hP hO h λc hc=>hb c (Na _ hc)⟩
variable{v:V}
theorem ORep.move{P M:Ow}{o:OT}(hP:∀a,P a->O a\/Nw K H a)(hO:∀a,O' a->O a\/Nw K H a)(h:SameO P H H')(hM:∀a,M a->¬ P a)(r:ORep K O M H o v):ORep K O' M H' o v:=by
 cases o with
 |lst l=>obtain⟨a,vs,e1,e2,e3,e4⟩:=r;exact⟨a,vs,e1,e2,h _ _ e3 (hM a ((e2 a).mpr rfl)),e4.move hP hO h⟩
 |dct ks ts=>obtain⟨a,kvs,e1,e2,e3,e4,e5⟩:=r;exact⟨a,kvs,e1,e2,h _ _ e3 (hM a ((e2 a).mpr rfl)),e4,e5.move hP hO h⟩
 |dd ks rows=>
  obtain⟨a,kvs,as,e1,e2,e3,e4,e5,e6,e7,e8⟩:=r
  exact⟨a,kvs,as,e1,e2,e3,e4,h _ _ e5 (hM a ((e2 a).mpr (.inl rfl))),e6,e7,e8.move hP hO h λb hb=>hM b ((e2 b).mpr (.inr hb))⟩
 |ob C ns ls=>
  obtain⟨a,dx,as,e1,e2,e3,e4,e5,e6,e7,e8⟩:=r;exact⟨a,dx,as,e1,e2,e3,h _ _ e4 (hM a ((e2 a).mpr (.inl rfl))),h _ _ e5 (hM dx ((e2 dx).mpr (.inr (.inl rfl)))),e6,e7,e8.move hP hO h λb hb=>hM b ((e2 b).mpr (.inr (.inr hb)))⟩
theorem RowsR.mtb:∀{rs:List (List T×List T)}{as:List ZE},RowsR K O H rs as->∀b∈as,∃kvs,H b=ZA (.dT kvs)
 |[],_,r,b,hb=>by unfold RowsR at r;subst r;simp at hb
 |_::_,_,⟨b0,bs,kvs,e1,e2,e3,e4,e5⟩,b,hb=>by
  subst e1;rcases Nl.mp hb with rfl|hb
  ·exact⟨kvs,e2⟩
  ·exact e5.mtb b hb
theorem LsR.mtb:∀{rs:List (List T)}{as:List ZE},LsR K O H rs as->∀b∈as,∃vs,H b=ZA (.lst vs)
 |[],_,r,b,hb=>by unfold LsR at r;subst r;simp at hb
 |_::_,_,⟨b0,bs,kvs,e1,e2,e4,e5⟩,b,hb=>by
  subst e1;rcases Nl.mp hb with rfl|hb
  ·exact⟨kvs,e2⟩
  ·exact e5.mtb b hb
def LO(H:Hp)(a:ZE):Prop:=(∃vs,H a=ZA (.lst vs))\/∃o,H a=ZA o/\isO o=ZC
def OT.isD:OT->Bool
 |.lst _=>ZD
 |.ob _ _ _=>ZD
 |_=>ZC
def ORep.kind{M:Ow}{o:OT}(r:ORep K O M H o v):∀a,M a->if o.isD then ∃kvs,H a=ZA (.dT kvs)else LO H a:=λa z=>by
 cases o with
 |lst l=>obtain⟨b,vs,e1,e2,e3,e4⟩:=r;cases (e2 a).mp z;exact .inl ⟨vs,e3⟩
 |dct ks ts=>obtain⟨b,kvs,e1,e2,e3,e4,e5⟩:=r;cases (e2 a).mp z;exact⟨kvs,e3⟩
 |dd ks rows=>
  obtain⟨b,kvs,as,e1,e2,e3,e4,e5,e6,e7,e8⟩:=r
  rcases(e2 a).mp z with z|z
  ·cases z;exact⟨kvs,e5⟩
  ·exact e8.mtb a z
 |ob C ns ls=>
  obtain⟨b,dx,as,e1,e2,e3,e4,e5,e6,e7,e8⟩:=r
  rcases(e2 a).mp z with z|z|z
  ·cases z;exact .inr ⟨_,e4,rfl⟩
  ·cases z;exact .inr ⟨_,e5,rfl⟩
  ·exact .inl (e8.mtb a z)
def ORep.mtb{M:Ow}{o:OT}(r:ORep K O M H o v)(a:ZE)(z:M a):Mtb H a:=by
 have:=r.kind a z
 split at this
 ·exact .inr (.inl this)
 ·exact this.imp_right .inr
theorem v7:∀{rs:List (List T×List T)}{as:List ZE},(∀b∈as,¬O b)->RowsR K O H rs as->Reps K O H (rs.map λr=>T.dct r.1 r.2) (as.map V.ref)
 |[],_,_,r=>by unfold RowsR at r;subst r;exact Reps.nil_
 |_::_,_,hn,⟨b,bs,kvs,e1,e2,e3,e4,e5⟩=>by
  subst e1;exact Reps.FM (Rep.Gc.mpr ⟨b,kvs,rfl,hn b Nb,.inl e2,e3,e4⟩) (v7 (λc hc=>hn c (Na _ hc)) e5)
theorem RowsR.less(sub:∀a,O' a->O a):∀{rs:List (List T×List T)}{as:List ZE},RowsR K O H rs as->RowsR K O' H rs as
 |[],_,r=>r
 |_::_,_,⟨b,bs,kvs,e1,e2,e3,e4,e5⟩=>⟨b,bs,kvs,e1,e2,e3,e4.less sub,e5.less sub⟩
theorem LsR.less(sub:∀a,O' a->O a):∀{rs:List (List T)}{as:List ZE},LsR K O H rs as->LsR K O' H rs as
 |[],_,r=>r
 |_::_,_,⟨b,bs,kvs,e1,e2,e4,e5⟩=>⟨b,bs,kvs,e1,e2,e4.less sub,e5.less sub⟩
theorem LsR.rep:∀{rs:List (List T)}{as:List ZE},(∀b∈as,¬O b)->LsR K O H rs as->Reps K O H (rs.map T.lst) (as.map V.ref)
 |[],_,_,r=>by unfold LsR at r;subst r;exact Reps.nil_
 |_::_,_,hn,⟨b,bs,kvs,e1,e2,e4,e5⟩=>by
  subst e1;exact Reps.FM (Rep.Fk.mpr ⟨b,kvs,rfl,hn b Nb,e2,e4⟩) (LsR.rep (λc hc=>hn c (Na _ hc)) e5)
theorem zu:∀{l:List α}{m:List β},l.length=m.length->(l.zip m).map (·.1)=l
 |[],[],_=>rfl
 |a::l,b::m,h=>by
  have h':l.length=m.length:=by simpa using h
  show a::(l.zip m).map (·.1)=_
  rw[zu h']
theorem zr:∀{l:List α}{m:List β},l.length=m.length->(l.zip m).map (·.2)=m
 |[],[],_=>rfl
 |a::l,b::m,h=>by
  have h':l.length=m.length:=by simpa using h
  show b::(l.zip m).map (·.2)=_
  rw[zr h']
theorem ORep.rep{M:Ow}{o:OT}(sub:∀a,O' a->O a)(hn:∀a,M a->¬ O' a)(r:ORep K O M H o v):Rep K O' H o.view v:=by
 cases o with
 |lst l=>obtain⟨a,vs,e1,e2,e3,e4⟩:=r;exact Rep.Fk.mpr ⟨a,vs,e1,hn a ((e2 a).mpr rfl),e3,e4.less sub⟩
 |dct ks ts=>obtain⟨a,kvs,e1,e2,e3,e4,e5⟩:=r;exact Rep.Gc.mpr ⟨a,kvs,e1,hn a ((e2 a).mpr rfl),.inl e3,e4,e5.less sub⟩
 |dd ks rows=>
  obtain⟨a,kvs,as,e1,e2,e3,e4,e5,e6,e7,e8⟩:=r;refine Rep.Gc.mpr ⟨a,kvs,e1,hn a ((e2 a).mpr (.inl rfl)),.inl e5,e6,?_⟩
  rw[e7]
  exact v7 (λb hb=>hn b ((e2 b).mpr (.inr hb))) (e8.less sub)
 |ob C ns ls=>
  obtain⟨a,dx,as,e1,e2,e3,e4,e5,e6,e7,e8⟩:=r
  have hl:ns.length=(as.map V.ref).length:=by rw[Nc];exact e6
  refine Rep.Mq.mpr ⟨a,dx,_,e1,hn a ((e2 a).mpr (.inl rfl)),e4,zu hl,?_⟩
  rw[zr hl];exact(e8.less sub).rep λb hb=>hn b ((e2 b).mpr (.inr (.inr hb)))
variable{B:Ow}{Z:En}{σ:L2.St}
section
variable {o o':OT}
def Ev.new(E:Ev K B M H Z σ)(hl:i<Z.length)(hm:∀a,m a->Nw K H a)(s:Same H H')(r:ORep K (OO B (M.set i m)) m H' o v):
  Ev K B (M.set i m) H' (Z.set i (.ow o)) (σ.set i (ZA v))/\∀a,(M.set i m).u a->M.u a\/Nw K H a:=by
 have hls:i<σ.length:=by rw[<-E.env.len];exact hl
 have sub:∀a,(M.set i m).u a->M.u a\/Nw K H a:=λa z=>(Mn.Mg z).elim (λw=>.inr (hm a w)) .inl
 have subO:∀a,OO B (M.set i m) a->OO B M a\/Nw K H a:=λa z=>z.elim (λw=>.inl (.inl w)) λw=>(sub a w).elim (λy=>.inl (.inr y)) .inr
 have dt:∀a,Nw K H a->¬ OO B M a:=λa w z=>by
  obtain⟨o,e⟩:=(E.env.trk a z).some;rw[w.1]at e;cases e
 refine⟨⟨⟨by rw[Os,Os];exact E.env.len,λj t e=>?_,λj o' e=>?_,λj a z=>.inr ⟨j,z⟩,λj k a z1 z2=>?_,λa z=>?_⟩,λa z=>?_⟩,sub⟩
 ·by_cases hj:i=j
  ·subst hj;rw[NG hl]at e;cases e
  ·rw[NI hj]at e
   obtain⟨w,e1,e2⟩:=E.env.val j t e;exact⟨w,by rw[NI hj];exact e1,(e2.more subO).same s⟩
 ·by_cases hj:i=j
  ·subst hj
   rw[NG hl]at e
   cases e;exact⟨v,NG hls,by rw[Mn.MF];exact r⟩
  ·rw[NI hj]at e
   obtain⟨w,e1,e2⟩:=E.env.own j o' e;refine⟨w,by rw[NI hj];exact e1,?_⟩
   rw[Mn.Mk (λz=>hj z.symm)]
   exact(e2.move (P:=yF) (λ_ z=>z.elim) subO (λb u q _=>q) λ_ _ z=>z).same s
 ·unfold Mn.set at z1 z2
  by_cases hj:j=i
  ·by_cases hk:k=i
   ·exact hj.trans hk.symm
   ·rw[if_pos hj]at z1;rw[if_neg hk]at z2
    exact(dt a (hm a z1) (.inr ⟨k,z2⟩)).elim
  ·by_cases hk:k=i
   ·rw[if_neg hj]at z1;rw[if_pos hk]at z2
    exact(dt a (hm a z2) (.inr ⟨j,z1⟩)).elim
   ·rw[if_neg hj]at z1;rw[if_neg hk]at z2
    exact E.env.dis j k a z1 z2
 ·rcases z with z|z
  ·exact(E.env.trk a (.inl z)).same s
  ·rcases Mn.Mg z with w|w
   ·exact r.mtb a w
   ·exact(E.env.trk a (.inr w)).same s
 ·intro hb
  rcases Mn.Mg z with w|w
  ·exact dt a (hm a w) (.inl hb)
  ·exact E.mine a w hb
def Ev.put(E:Ev K B M H Z σ)(hi:Z[i]?=ZA (.ow o))(hs:σ[i]?=ZA (ZA v))(s:SameO (M i) H H')(r:ORep K (OO B M) (M i) H' o' v):Ev K B M H' (Z.set i (.ow o')) σ/\SameO M.u H H':=by
 have hl:i<Z.length:=(Nu.mp hi).1
 have inO:∀a,M i a->OO B M a\/Nw K H a:=λa z=>.inl (.inr ⟨i,z⟩)
 have idO:∀a,OO B M a->OO B M a\/Nw K H a:=λa z=>.inl z
 refine⟨⟨⟨by rw[Os];exact E.env.len,λj t e=>?_,λj o2 e=>?_,E.env.sub,E.env.dis,λa z=>?_⟩,E.mine⟩,λb u e n=>s b u e λz=>n ⟨i,z⟩⟩
 ·by_cases hj:i=j
  ·subst hj;rw[NG hl]at e;cases e
  ·rw[NI hj]at e
   obtain⟨w,e1,e2⟩:=E.env.val j t e;exact⟨w,e1,e2.move inO idO s⟩
 ·by_cases hj:i=j
  ·subst hj
   rw[NG hl]at e
   cases e;exact⟨v,hs,r⟩
  ·rw[NI hj]at e
   obtain⟨w,e1,e2⟩:=E.env.own j o2 e;exact⟨w,e1,e2.move inO idO s λa z y=>hj (E.env.dis i j a y z)⟩
 ·by_cases hz:M i a
  ·exact r.mtb a hz
  ·exact(E.env.trk a z).at λo e=>s _ _ e hz
def disown(i:Nat)(Z:En):En:=match Z[i]? with
 |some (.ow o)=>Z.set i (.va o.view)
 |_=>Z
theorem EnvM.disown(E:EnvM K O M H Z σ)(i:Nat)(sub:∀a,O' a->O a)(hn:∀a,M i a->¬ O' a)(hin:∀j a,j≠i->M j a->O' a):EnvM K O' (M.set i yF) H (disown i Z) σ:=by
 have base:EnvM K O' (M.set i yF) H (Z.set i (match Z[i]? with|some (.ow o)=>.va o.view|some x=>x|none=>.em)) σ:=by
  refine⟨by rw[Os];exact E.len,λj t e=>?_,λj o e=>?_,λj a z=>?_,λj k a z1 z2=>?_,λa z=>E.trk a (sub a z)⟩
  ·by_cases hj:i=j
   ·subst hj
    by_cases hl:i<Z.length
    ·rw[NG hl]at e
     cases q:Z[i]? with
     |none=>rw[q]at e;cases e
     |some z=>
      rw[q]at e
      cases z with
      |em=>cases e
      |va t'=>cases e;obtain⟨w,e1,e2⟩:=E.val i _ q;exact⟨w,e1,e2.less sub⟩
      |ow o=>cases e;obtain⟨w,e1,e2⟩:=E.own i _ q;exact⟨w,e1,e2.rep sub hn⟩
    ·rw[Pg (by rw[Os];omega)]at e;cases e
   ·rw[NI hj]at e
    obtain⟨w,e1,e2⟩:=E.val j t e;exact⟨w,e1,e2.less sub⟩
  ·by_cases hj:i=j
   ·subst hj
    by_cases hl:i<Z.length
    ·rw[NG hl]at e
     cases q:Z[i]? with
     |none=>rw[q]at e;cases e
     |some z=>
      rw[q]at e
      cases z with
      |em=>cases e
      |va t'=>cases e
      |ow o=>cases e
    ·rw[Pg (by rw[Os];omega)]at e;cases e
   ·rw[NI hj]at e
    obtain⟨w,e1,e2⟩:=E.own j o e;refine⟨w,e1,?_⟩
    rw[Mn.Mk (λz=>hj z.symm)]
    exact e2.move (P:=yF) (λ_ z=>z.elim) (λa z=>.inl (sub a z)) (λb u q _=>q) λ_ _ z=>z
  ·unfold Mn.set at z
   by_cases hj:j=i
   ·rw[if_pos hj]at z;exact z.elim
   ·rw[if_neg hj]at z;exact hin j a hj z
  ·unfold Mn.set at z1 z2
   by_cases hj:j=i
   ·rw[if_pos hj]at z1;exact z1.elim
   ·by_cases hk:k=i
    ·rw[if_pos hk]at z2;exact z2.elim
    ·rw[if_neg hj]at z1;rw[if_neg hk]at z2;exact E.dis j k a z1 z2
 unfold Tr.disown
 cases q:Z[i]? with
 |none=>rw[q,List.set_eq_of_length_le (Sf.mp q)]at base;exact base
 |some z=>
  rw[q]at base
  cases z with
  |em=>rw[vS q]at base;exact base
  |va t=>rw[vS q]at base;exact base
  |ow o=>exact base
theorem Ev.disown(E:Ev K B M H Z σ)(i:Nat):Ev K B (M.set i yF) H (disown i Z) σ/\∀a,(M.set i yF).u a->M.u a:=by
 have sub:∀a,(M.set i yF).u a->M.u a:=λa z=>(Mn.Mg z).elim (λw=>w.elim) id
 refine⟨⟨E.env.disown i (λa z=>z.elim .inl λw=>.inr (sub a w)) (λa z y=>?_) λj a hj z=>.inr ⟨j,by rw[Mn.Mk hj];exact z⟩,λa z=>E.mine a (sub a z)⟩,sub⟩
 rcases y with y|⟨j,y⟩
 ·exact E.mine a ⟨i,z⟩ y
 ·unfold Mn.set at y
  by_cases hj:j=i
  ·rw[if_pos hj]at y;exact y
  ·rw[if_neg hj]at y;exact hj (E.env.dis j i a y z)
end
variable{apos cpos:Pos}{st:ZF}
section
variable {pos p2 p3:Pos}
def Ev.subO(hm:∀a,m a->Nw K H a)(a:ZE)(z:OO B (M.set i m) a):OO B M a\/Nw K H a:=
 z.elim (λw=>.inl (.inl w)) λw=>(Mn.Mg w).elim (λy=>.inr (hm a y)) λy=>.inl (.inr y)
def mf{H1:Hp}(s:Same H H1){a:ZE}(n:Nw K H1 a):Nw K H a:=(i5 (SameO.of (P:=yF) s) n).elim (λz=>z.elim) id
def Ke(X:Cx)(t:TA):TE:=λσ H Q=>t σ H λxs H1=>xs.length<=ZI/\∀p,Nw X.K H1 p->Q (.ref p) (upd H1 p (.lst xs))
def FW{t:TA}(h:PA X es t):PE X (.List es pos) (Ke X t):=by
 intro bv s σ H Q I hq;refine Ux (cz (h pos bv s σ H _ I hq) λus s1 ⟨xs,H1,I1,r,z,q⟩=>⟨by rw[<-r.length];exact z,?_⟩)
 have hf:H1 s1.heap.objs.size=ZB:=I1.hok.fresh (Nr _)
 have hk:X.K.lookup s1.heap.objs.size=ZB:=by
  cases q:X.K.lookup s1.heap.objs.size with
  |none=>rfl
  |some o=>exact absurd (Np (I1.kIn _ o q)) (NK _)
 refine⟨.ref s1.heap.objs.size,upd H1 s1.heap.objs.size (.lst xs),I1.laid (t':=s1.toks) (λb u e=>M8 _ e) (Nr _) ?_,rfl,q _ ⟨hf,hk⟩⟩
 exact⟨z,us,0,r,Nn _ rfl⟩
noncomputable def iH(i:Nat)(f:V3)(Z:En):Rs Fl:=do
 let l <-f Z
 if i<Z.length/\l.length<=ZI then .ok (.nx (Z.set i (.ow (.lst l))))else .bad
def Fm(i:Nat){f:V3}(hN:X.N.Nodup)(ha:sW X es f)(hi:X.N[i]?=ZA x:=by rfl)(hx:autoParam (Loc X.env.scope x) x_)(hs:Ov (.List es p2) (ZA (.Name x p3)) pos.line X.env=pure ZD:=by rfl)
  (hf:autoParam (X.fn x=ZC\/X.env.scope.names.lookup x=ZA .local) r_):qG X (.Assign [.Name x p3] (.List es p2) pos) (iH i f):=PS.imp (ph hN hi hx (FW ha) hs hf) λD σ H hh_=>by
 obtain⟨Z,B,M,E,h⟩:=hh_;refine⟨Z,OO B M,E.o,?_⟩
 unfold iH at h
 cases q:f Z with
 |bad=>rw[q]at h;exact h.elim
 |err c=>rw[q]at h;exact PostF.xa h
 |ok l=>
  rw[q,aF]at h;intro H1 s1 vs rs
  by_cases hl:i<Z.length/\l.length<=ZI
  ·rw[if_pos hl]at h
   refine⟨by rw[<-rs.length];exact hl.2,λp hp=>?_⟩
   have hm:∀a,a=p->Nw X.K H1 a:=λa z=>z▸hp
   obtain⟨E2,sub⟩:=(E.same s1).new (m:=λa=>a=p) (o:=.lst l) (v:=.ref p) (H':=upd H1 p (.lst vs)) hl.1 hm (aV hp.1 _) ⟨p,vs,rfl,λb=>Ro,aI,(rs.more (Ev.subO hm)).same (aV hp.1 _)⟩
   exact h _ _ _ (SameO.of (s1.trans (aV hp.1 _))) E2 λa z=>(sub a z).imp_right (mf s1)
  ·rw[if_neg hl]at h
   exact h.elim
noncomputable def gY(i:Nat)(f:V5)(Z:En):Rs Fl:=match Z[i]? with
 |some (.ow (.lst l))=>f Z >>= λt=>if l.length<ZI then .ok (.nx (Z.set i (.ow (.lst (l++[t])))))else .bad
 |_=>.bad
def Ev.putL{o:OT}{l':List T}{b:ZE}{vs':List V}(E:Ev K B M H Z σ)(hi:Z[i]?=ZA (.ow o))(hs:σ[i]?=ZA (ZA (.ref b)))(hM:∀c,M i c↔c=b)(r:Reps K (OO B M) H l' vs'):
  Ev K B M (upd H b (.lst vs')) (Z.set i (.ow (.lst l'))) σ/\SameO M.u H (upd H b (.lst vs')):=by
 have sm:SameO (M i) H (upd H b (.lst vs')):=λc u e nb=>by rw[aG (λz=>nb ((hM c).mpr z))];exact e
 exact E.put hi hs sm ⟨b,vs',rfl,hM,aI,r.move (P:=M i) (λa z=>.inl (.inr ⟨i,z⟩)) (λa z=>.inl z) sm⟩
def Io(i:Nat)(ha:cJ X a fa)(hN:X.N[i]?=ZA x:=by rfl)(hv:autoParam (vo X.env.scope x) u_)(hn:bN a=ZC:=by rfl)
  (hbase:Pb (.Name x p2) "append" X.env (eval (.Name x p2) X.env)=eval (.Name x p2) X.env:=by rfl) (hline:(apos.endLine == cpos.line)=ZC:=by rfl)
  (hd:autoParam ((x == ("__debug__" : Str))=ZD) s_) (hcd:autoParam ((x == ("__classdict__" : Str))=ZD) s_)
  (hsw:Ov (.Call (.Attribute (.Name x p2) "append" apos) [a] [] cpos) ZB pos.line X.env=pure ZD:=by rfl):qG X (.Expr (.Call (.Attribute (.Name x p2) "append" apos) [a] [] cpos) pos) (gY i fa):=by
 have h1:NF [a] X.env=(ZD,eval a X.env)::NF [] X.env:=bh hn;refine PS.imp (tX (Hg Q6 PySem.F.slot_list_append PySem.F.type_list_append r8 (jO hN hv hd hcd) (ft ha jP h1) hbase ?_ hline h1 rfl) hsw) λD σ H ⟨Z,B,M,E,h⟩=>?_
 ·rw[h1];rfl
 unfold gY at h
 split at h
 ·rename_i l hl
  obtain⟨v0,e1,b,vs,rfl,hM,e3,e4⟩:=E.env.own i _ hl;refine⟨.ref b,e1,.inl ⟨rfl,vs,SqL.of e3⟩,Z,OO B M,E.o,?_⟩
  cases q:fa Z with
  |bad=>rw[q]at h;exact h.elim
  |err c=>rw[q]at h;exact PostF.xa h
  |ok t=>
   rw[q,aF]at h
   split at h
   ·rename_i hz
    intro H1 s1 v r
    have e3':=s1 _ _ e3;refine⟨b,vs,v,rfl,rfl,e3',by rw[<-e4.length];exact hz,?_⟩
    obtain⟨g1,g2⟩:=(E.same s1).putL (l':=l++[t]) (vs':=vs++[v]) hl e1 hM ((e4.same s1).append (Reps.FM r Reps.nil_));exact h σ _ M (λc o e nb=>g2 c o (s1 _ _ e) nb) g1 λc z=>.inl z
   ·exact h.elim
 ·exact h.elim
noncomputable def JM(i:Nat)(l:List T)(Z:En):T->Rs Fl
 |.lst m=>if l.length+m.length<=ZI then .ok (.nx (Z.set i (.ow (.lst (l++m)))))else .bad
 |_=>.bad
def o8(i:Nat)(f:V5)(Z:En):Rs Fl:=match Z[i]? with
 |some (.ow (.lst l))=>f Z >>= JM i l Z
 |_=>.bad
def Ik(i:Nat)(ha:cJ X a fa)(hN:X.N[i]?=ZA x:=by rfl)(hv:autoParam (vo X.env.scope x) u_)(hn:bN a=ZC:=by rfl)
  (hbase:Pb (.Name x p2) "extend" X.env (eval (.Name x p2) X.env)=eval (.Name x p2) X.env:=by rfl) (hline:(apos.endLine == cpos.line)=ZC:=by rfl)
  (hd:autoParam ((x == ("__debug__" : Str))=ZD) s_) (hcd:autoParam ((x == ("__classdict__" : Str))=ZD) s_)
  (hsw:Ov (.Call (.Attribute (.Name x p2) "extend" apos) [a] [] cpos) ZB pos.line X.env=pure ZD:=by rfl):qG X (.Expr (.Call (.Attribute (.Name x p2) "extend" apos) [a] [] cpos) pos) (o8 i fa):=by
 have h1:NF [a] X.env=(ZD,eval a X.env)::NF [] X.env:=bh hn;refine PS.imp (tX (Hg Q6 PySem.F.slot_list_extend PySem.F.type_list_extend A6 (jO hN hv hd hcd) (ft ha jP h1) hbase ?_ hline h1 rfl) hsw) λD σ H ⟨Z,B,M,E,h⟩=>?_
 ·rw[h1];rfl
 unfold o8 at h
 split at h
 ·rename_i l hl
  obtain⟨v0,e1,b,vs,rfl,hM,e3,e4⟩:=E.env.own i _ hl;refine⟨.ref b,e1,.inl ⟨rfl,vs,SqL.of e3⟩,Z,OO B M,E.o,?_⟩
  cases q:fa Z with
  |bad=>rw[q]at h;exact h.elim
  |err c=>rw[q]at h;exact PostF.xa h
  |ok t=>
   rw[q,aF]at h;unfold JM at h
   split at h
   ·rename_i m
    split at h
    ·rename_i hz
     intro H1 s1 v r;obtain⟨c,ws,rfl,nO,hc,rm⟩:=Rep.Fk.mp r
     have e3':=s1 _ _ e3;refine⟨b,c,vs,ws,rfl,rfl,e3',hc,by rw[<-e4.length,<-rm.length];exact hz,?_⟩
     obtain⟨g1,g2⟩:=(E.same s1).putL (l':=l++m) (vs':=vs++ws) hl e1 hM ((e4.same s1).append rm);exact h σ _ M (λc o e nb=>g2 c o (s1 _ _ e) nb) g1 λc z=>.inl z
    ·exact h.elim
   ·exact h.elim
 ·exact h.elim
def mS(i:Nat)(F:V4)(Z:En):Rs Fl:=F (disown i Z)
def Il(i:Nat){F:V4}(h:qG X st F):qG X st (mS i F):=PS.imp h λD σ H hh_=>by
 obtain⟨Z,B,M,E,q⟩:=hh_;obtain⟨E',sub⟩:=E.disown i;exact⟨disown i Z,B,_,E',PostF.later q (λ_ _ e _=>e) λa z=>.inl (sub a z)⟩
mutual
def T.nk(D:Bool):T->Bool
 |.scr _=>ZD
 |.dct _ ts=>!D&&nks D ts
 |.ob _ _ _=>ZD
 |.lst l=>D&&nks D l
 |.tup l=>nks D l
 |_=>ZC
def nks(D:Bool):List T->Bool
 |[] =>ZC
 |t::l=>t.nk D&&nks D l
end
mutual
theorem Rep.lend{K:M9}{O O':Ow}{H:Hp}{D:Bool}(hk:∀a,O a->O' a\/if D then ∃kvs,Rd H a (.dT kvs)else LO H a):∀{t:T}{v:V},t.nk D=ZC->Rep K O' H t v->Rep K O H t v
 |.non,_,_,r=>by unfold Rep at r ⊢;exact r
 |.bl _,_,_,r=>by unfold Rep at r ⊢;exact r
 |.int _,_,_,r=>by unfold Rep at r ⊢;exact r
 |.str _,_,_,r=>by unfold Rep at r ⊢;exact r
 |.tup l,_,h,r=>by
  unfold Rep at r ⊢;unfold T.nk at h;obtain⟨a,vs,e,n,q,z⟩:=r;refine⟨a,vs,e,λp=>(hk a p).elim n λw=>?_,q,Reps.lend hk h z⟩
  split at w
  ·obtain⟨_,w|⟨_,w⟩⟩:=w <;> rw[q]at w <;> cases w
  ·rcases w with⟨_,w⟩|⟨_,w,y⟩ <;> rw[q]at w <;> cases w <;> cases y
 |.lst l,_,h,r=>by
  unfold Rep at r ⊢;unfold T.nk at h;rw[Ni]at h;obtain⟨h1,h2⟩:=h;subst h1;obtain⟨a,vs,e,n,q,z⟩:=r;refine⟨a,vs,e,λp=>(hk a p).elim n λw=>?_,q,Reps.lend hk h2 z⟩
  rw[if_pos rfl]at w;obtain⟨_,w|⟨_,w⟩⟩:=w <;> rw[q]at w <;> cases w
 |.scr l,_,h,r=>by unfold T.nk at h;cases h
 |.dct ks ts,_,h,r=>by
  unfold Rep at r ⊢;unfold T.nk at h;rw[Ni]at h;obtain⟨h1,h2⟩:=h
  cases D with
  |true=>cases h1
  |false=>
   obtain⟨a,kvs,e,n,q,k,z⟩:=r;refine⟨a,kvs,e,λp=>(hk a p).elim n λw=>?_,q,k,Reps.lend hk h2 z⟩
   rw[if_neg NJ]at w;rcases w with⟨_,w⟩|⟨_,w,y⟩ <;> rcases q with q|⟨_,q⟩ <;> rw[q]at w <;> cases w <;> cases y
 |.ob _ _ _,_,h,r=>by unfold T.nk at h;cases h
theorem Reps.lend{K:M9}{O O':Ow}{H:Hp}{D:Bool}(hk:∀a,O a->O' a\/if D then ∃kvs,Rd H a (.dT kvs)else LO H a):∀{l:List T}{vs:List V},nks D l=ZC->Reps K O' H l vs->Reps K O H l vs
 |[],_,_,r=>by unfold Reps at r ⊢;exact r
 |t::l,_,h,r=>by
  unfold Reps at r ⊢;unfold nks at h;rw[Ni]at h;obtain⟨v,ws,e,p,q⟩:=r;exact⟨v,ws,e,Rep.lend hk h.1 p,Reps.lend hk h.2 q⟩
end
noncomputable def ln(i:Nat)(f:V5)(Z:En):Rs T:=match Z[i]? with
 |some (.ow o)=>f (disown i Z) >>= λt=>if t.nk o.isD=ZC then .ok t else .bad
 |_=>f Z
def Jk(i:Nat)(f:V6)(Z:En):Rs Bool:=f (disown i Z)
def sY(E:EnvM K O M H Z σ)(i:Nat):EnvM K (λa=>O a/\¬ M i a) (M.set i yF) H (disown i Z) σ:=
 E.disown i (λa z=>z.1) (λa z y=>y.2 z) λj a hj z=>⟨E.sub j a z,λy=>hj (E.dis j i a z y)⟩
def q_ln(i:Nat)(h:cJ X e f):cJ X e (ln i f):=PE.imp h λσ H Q ⟨Z,O,⟨M,E⟩,q⟩=>by
 unfold ln at q
 split at q
 ·rename_i o hi
  refine⟨disown i Z,_,⟨_,sY E i⟩,?_⟩
  obtain⟨w,e1,r⟩:=E.own i o hi;refine Post.mono (Post.bind q) λt H' s q2 v rv=>?_
  split at q2
  ·rename_i hk
   have kd:=(r.same s).kind;refine q2 H' (Same.refl _) v (Rep.lend (λa z=>?_) hk rv)
   by_cases hm:M i a
   ·refine .inr ?_
    have this:=kd a hm
    by_cases hD:o.isD=ZC
    ·rw[if_pos hD]at this ⊢;exact this.imp λ_ z=>.inl z
    ·rw[if_neg hD]at this ⊢;exact this
   ·exact .inl ⟨z,hm⟩
  ·exact q2.elim
 ·exact⟨Z,O,⟨M,E⟩,q⟩
def Kw(i:Nat){f:V6}(h:xS X e f):xS X e (Jk i f):=PT.imp h λσ H Q ⟨Z,O,⟨M,E⟩,q⟩=>⟨disown i Z,_,⟨_,sY E i⟩,q⟩
end
noncomputable def kO:List T->List T->List Key->Option T
 |k'::ks,v::vs,k=>if keyOf k'=ZA k then ZA v else kO ks vs k
 |_,_,_=>ZB
noncomputable def gA(k v:T):List T->List T->List T×List T
 |k'::ks,v'::vs=>if keyOf k'=keyOf k then(k'::ks,v::vs)else(k'::(gA k v ks vs).1,v'::(gA k v ks vs).2)
 |_,_=>([k],[v])
def aN(x y:T):Rs T:=match x,keyOf y with
 |.dct ks vs,ZA k=>match kO ks vs k with
  |some t=>.ok t
  |none=>.bad
 |_,_=>.bad
def jA(x y:T):Rs T:=match x,keyOf y with
 |.dct ks vs,ZA k=>match kO ks vs k with
  |some t=>.ok t
  |none=>.ok .non
 |_,_=>.bad
def D9(x y:T):Rs T:=match y,keyOf x with
 |.dct ks vs,ZA k=>.ok (.bl (kO ks vs k).isSome)
 |_,_=>.bad
def oD(g:T->T->Rs T)(fa fb:V5)(Z:En):Rs T:=fa Z >>= λx=>match x with
 |.dct ks vs=>fb Z >>= g (.dct ks vs)
 |_=>.bad
def oL(g:T->T->Rs T)(fa fb:V5)(Z:En):Rs T:=fa Z >>= λx=>match x with
 |.lst l=>fb Z >>= g (.lst l)
 |_=>.bad
noncomputable def J5:List T->Option (List (T×T))
 |[] =>ZA []
 |.tup [k,v] ::l=>match keyOf k,J5 l with
  |some _,ZA r=>ZA ((k,v)::r)
  |_,_=>ZB
 |_=>ZB
def gS:List (T×T)->List T×List T->List T×List T
 |[],d=>d
 | (k,v)::r,d=>gS r (gA k v d.1 d.2)
noncomputable def Au:List T->Rs T
 |[.lst l] =>match J5 l with
  |some ps=>if l.length<=1000 then .ok (.dct (gS ps ([],[])).1 (gS ps ([],[])).2)else .bad
  |none=>.bad
 |_=>.bad
def iO:List T->Bool
 |[] =>ZC
 |k::l=>(keyOf k).isSome&&iO l
noncomputable def rR(i:Nat)(f:V5)(Z:En):Rs Fl:=f Z >>= λt=>Au [t] >>= λd=>match d with
 |.dct ks vs=>if i<Z.length then .ok (.nx (Z.set i (.ow (.dct ks vs))))else .bad
 |_=>.bad
noncomputable def tQ(i:Nat)(Z:En):Rs Fl:=if i<Z.length then .ok (.nx (Z.set i (.ow (.dct [] []))))else .bad
noncomputable def qT(i:Nat)(fk fv:V5)(Z:En):Rs Fl:=match Z[i]? with
 |some (.ow (.dct ks vs))=>fv Z >>= λv=>fk Z >>= λk=>match keyOf k with
  |some _=>if ks.length<1000 then .ok (.nx (Z.set i (.ow (.dct (gA k v ks vs).1 (gA k v ks vs).2))))else .bad
  |none=>.bad
 |_=>.bad
noncomputable def o7(i j:Nat)(Z:En):Rs Fl:=match Z[j]? with
 |some (.va (.lst l))=>if i<Z.length/\iO l=ZC/\(l.map keyOf).Nodup/\l.length<=1000 then .ok (.nx (Z.set i (.ow (.dd l (l.map λ_=>(l,l.map λ_=>.non))))))else .bad
 |_=>.bad
noncomputable def qV:List T->List (List T×List T)->List Key->Option (List T×List T)
 |k'::ks,r::rs,k=>if keyOf k'=ZA k then ZA r else qV ks rs k
 |_,_,_=>ZB
noncomputable def qU(k:List Key)(x:List T×List T):List T->List (List T×List T)->List (List T×List T)
 |k'::ks,r::rs=>if keyOf k'=ZA k then x::rs else r::qU k x ks rs
 |_,rs=>rs
noncomputable def jv(i:Nat)(fa fb fv:V5)(Z:En):Rs Fl:=match Z[i]? with
 |some (.ow (.dd ks rows))=>fv Z >>= λv=>fa Z >>= λa=>match(keyOf a).bind λka=>(qV ks rows ka).map λr=>(ka,r)with
  |some (ka,r)=>fb Z >>= λb=>if (keyOf b).isSome=ZC/\r.1.length<1000 then .ok (.nx (Z.set i (.ow (.dd ks (qU ka (gA b v r.1 r.2) ks rows)))))else .bad
  |none=>.bad
 |_=>.bad
noncomputable def dZ:List T->Option (List Int)
 |[] =>ZA []
 |.int i::l=>(dZ l).map (i:: ·)
 |_=>ZB
def gx(i:Int):List Int->Int
 |[] =>i
 |j::l=>gx (if j<i then j else i) l
def ir(i:Int):List Int->Int
 |[] =>i
 |j::l=>ir (if i<j then j else i) l
noncomputable def uK:List T->Rs T
 |[.lst l] =>match dZ l with
  |some (i::ns)=>.ok (.int (gx i ns))
  |_=>.bad
 |[.int i,.int j] =>.ok (.int (gx i [j]))
 |_=>.bad
noncomputable def A8:List T->Rs T
 |[.lst l] =>match dZ l with
  |some (i::ns)=>.ok (.int (ir i ns))
  |_=>.bad
 |[.int i,.int j] =>.ok (.int (ir i [j]))
 |_=>.bad
def kI(x:T):List T->Nat->Option Nat
 |[],_=>ZB
 |t::l,n=>if bc t x then ZA n else kI x l (n+1)
noncomputable def eJ(y x:T):Rs T:=match y with
 |.lst l=>if (x.dep<=60\/deps l<=60)/\x.nd=ZC/\nds l=ZC then match kI x l 0 with
   |some n=>.ok (.int n)
   |none=>.bad
  else .bad
 |_=>.bad
def iD(f:V5)(Z:En):Rs (List T):=f Z >>= λx=>match x with
 |.dct ks _=>.ok ks
 |_=>.bad
def FU:Nat:=1000000000000
variable{h:ZH}
theorem lx{b b':ZH}:∀{l:List Env},h.FunFrames b l->(∀a∈l.filterMap (·.frame),b'.get? a=ZB)->h.FunFrames b' l
 |[],_,_=>trivial
 |env::rest,⟨hk,⟨L,o,hf,hn,ho,hd⟩,hr⟩,q=>by
  rw[Qh,hf]at q;exact⟨hk,⟨L,o,hf,q L Nb,ho,hd⟩,lx hr λa ha=>q a (Na _ ha)⟩
variable{C:ZE}
section
variable {M:Model}
structure Gone (fs:List ZE)(C e:ZE)(T:Option ZE)(h h':ZH)(T':ZE):Prop where
 flt:L4 h' C e (ZA T')
 new:T=ZA T'\/h.get? T'=ZB
 keep:∀b o,b∉fs->b≠e->T≠ZA b->h.get? b=ZA o->h'.get? b=ZA o
 slot:∀b o,b∈fs->h.get? b=ZA o->∃sl,h'.get? b=ZA {o with slots:=sl}
def Jl{base:ZH}{outer:List Env}{L e:ZE}{T:Option ZE}{Q:Unit->Ng->Prop}(hfr:A.frames=ZA (env::outer))(hl:s.heap.FunFrames base (env::outer))(hf:env.frame=ZA L)
  (F:L4 s.heap C e T) (h:∀h' T',Gone ((env::outer).filterMap (·.frame)) C e T s.heap h' T'->Q () {s with heap:=h'}):ZJ M A (leaving env (.ref e)) Q E s:=by
 generalize hB:Vu s.heap (e::(T.toList++(env::outer).filterMap (·.frame)))=B
 have bm:∀b,b∈e::(T.toList++(env::outer).filterMap (·.frame))->B.get? b=ZB:=λb m=>by rw[<-hB];exact TM _ m
 have hl':s.heap.FunFrames B (env::outer):=lx hl λa ha=>bm a (Na _ (NM _ ha))
 have hst:B.StaysIn s.heap:=λb o q=>by rw[<-hB]at q;exact Ue _ q
 have hen:B.get? e=ZB:=bm e Nb
 have main:∀h',Heap.Left B (env::outer) e (.ref C) s.heap h'->Q () {s with heap:=h'}:=λh' ⟨x1,x2,⟨oe,vs,T',oT,ts,he,hc,hd,h1,hnT,hTe,hT,hdT,h3⟩,x4⟩=>by
  refine h h' T' ⟨⟨hTe,oe,vs,he,hc,hd,h1,oT,ts,hT,hdT,h3⟩,?_,λb o n1 n2 n3 q=>?_,λb o m q=>?_⟩
  ·cases q:s.heap.get? T' with
   |none=>exact .inr rfl
   |some o=>
    left
    by_cases z:T'∈e::(T.toList++(env::outer).filterMap (·.frame))
    ·rcases Nl.mp z with z|z
     ·exact absurd z hTe
     ·rcases NO.mp z with z|z
      ·cases T with
       |none=>simp at z
       |some t=>simp at z;rw[z]
      ·obtain⟨_,o',ho',hnf⟩:=x2.mem z
       rw[hT]at ho';cases ho';exact absurd hdT (hnf ts)
    ·rw[<-hB,RQ _ q z]at hnT;cases hnT
  ·refine x1 b o ?_
   rw[<-hB];refine RQ _ q λz=>?_
   rcases Nl.mp z with z|z
   ·exact n2 z
   ·rcases NO.mp z with z|z
    ·cases T with
     |none=>simp at z
     |some t=>simp at z;exact n3 (by rw[z])
    ·exact n1 z
  ·obtain⟨_,o',ho',hnf⟩:=hl.mem m
   rw[q]at ho';cases ho';exact x4 b o q hnf
 cases T with
 |none=>
  obtain⟨oe,vs,he,hc,hd,h1⟩:=F;refine wpAny_leaving_first hfr hl' hf he hst hen hd h1 λh' x=>main h' ?_
  rw[hc]at x;exact x
 |some t=>
  obtain⟨hte,oe,vs,he,hc,hd,h1,oT,ts,hT,hdT,h3⟩:=F;exact wpAny_leaving_next hfr hl' hf ⟨oe,vs,t,oT,ts,he,hc,hd,h1,bm t (Na _ (OD _ (by simp))),hte,hT,hdT,h3⟩ hst hen main
end
abbrev ze:List Nf:=[.type "ValueError",.type "Exception",.type "BaseException",.type "object"]
structure OwnExc (K:M9)(C:ZE)(bm:List Nf):Prop where
 at_:∀h:ZH,K.In h->∃nm q N bs hdct sn sub ab col dd k0 k1 k2 k3 k5 mN,h.get? C=ZA (RZ nm q C N bs bm hdct sn sub ab col dd k0 k1 k2 k3 k5 "ValueError.__new__")/\h.Ns N mN/\mN "__init__" =ZB/\OwnTail h ze bm
def OwnExc.base(O:OwnExc K C bm)(k:K.In h):bm.contains (.type "BaseException")=ZC:=by
 obtain⟨_,_,_,_,_,_,_,_,_,_,_,_,_,_,_,_,_,_,_,T⟩:=O.at_ h k;exact T.hasType (by decide)
def Cc(c:Str)(_:En):Rs Fl:=.err c
variable{c:Str}
def Cm{msg:Str}{np p1 pos:Pos}(O:OwnExc X.K C bm)(hc:X.calm=ZC)(hm:X.mg c=ZA (.ref C))(hg:Gl X c:=by rfl)(hd:autoParam ((c == ("__debug__" : Str))=ZD) s_):
  qG X (.Raise (ZA (.Call (.Name c np) [.Constant (.str msg) j p1] [] cpos)) ZB pos) (Cc c):=by
 intro bv s σ H D I ⟨Z,B,M,E,k⟩
 have k:XA X M.u H c:=k;obtain⟨nm,q,N,bs,hdct,sn,sub,ab,col,dd,k0,k1,k2,k3,k5,mN,hC,hN,hni,T⟩:=O.at_ s.heap I.kIn;refine wpAny_Raise_call_subU (C:=C) (mN:=mN) (nm:=nm) (q:=q) (N:=N) (bs:=bs) (hdct:=hdct) (sn:=sn) (sub:=sub) (ab:=ab) (col:=col) (dd:=dd) (k0:=k0) (k1:=k1) (k2:=k2) (k3:=k3) (k5:=k5) R4 (Bn:="ValueError") (by decide) R4 (O.base I.kIn) (I.ok.hd hc) (by rfl) hni (ox I hg hm ⟨rfl,?_⟩ hd)
 show ZJ _ _ (evalArgs (.ref C) ZC ((ZD,eval (.Constant (.str msg) j p1) X.env)::backTo cpos (NF [] X.env)) []) _ _ s
 refine QN (PJ (Ui (P3 ?_)))
 refine⟨rfl,by show 1<=ZI;decide,hC,hN,T,λh' e hm'=>k bv _ _ ?_⟩
 obtain⟨t,ht,ht2,ht3⟩:=hm'.there
 have I':Inv X bv σ H {s with heap:=h',toks:=s.toks+1}:=I.kept (t':=s.toks+1) λb o z=>hm'.keeps b o z
 refine⟨e,ZB,C,σ,H,rfl,hm,I',λb o z _=>z,?_,?_,⟨_,_,ht,rfl,rfl,rfl⟩,(λt z=>by cases z),λp hp=>⟨λz=>?_,λz=>by cases z⟩⟩
 ·exact wK I hm'.new
 ·exact λhex=>ur I hex hm'.new
 ·have:=(I.pin p hp).1
  rw[z,show s.heap.get? e=ZB from hm'.new]at this
  cases this
variable{f:ZE}{mg:V0}{qual:Str}
section
variable {base:ZH}
def JK{k:Nat}(Fn:L2.Fun K x qual st f fd)(S:aE N ps (ao st))(hn:ps.length=n)
  (hbody:∀(cdv:Nf)(A:N4)(outer:List Env)(s:Ng)(H:Hp)(E:XK),Room k (A.deeper (envOfC qual (ao st) s.heap.objs.size f cdv)) →
   ∃F,(∀xe,lN ((ni CX0 P w K mg base N qual (ao st) f cdv A outer s H E).FS xe) (dJ st) F)/\∀ts,ts.length=n->∀c,g ts=.err c->F (aR N.length ts)=.err c):FnX P w K mg base (k+1) f fd ps n g:=by
 intro A outer s H args us vs O ts c R hr e0 hb r rs trk hl hg hR
 have hpl:ps.length<=N.length:=by have:=congrArg OE S.pre;rw[QU]at this;omega
 obtain⟨oc,od,kV,doc,pm,an,cdv,ct,osl,rfl,lk,hcd⟩:=Fn.ex
 have hlen:vs.length=ps.length:=by rw[<-rs.length,hl,hn]
 have KX:K.In s.heap:=e0.mod.kin.keeps λb o e=>(e0.bs b o e).1
 have lim:s.heap.NoLimit:=e0.mod.nolimit.keeps λb o e=>(e0.bs b o e).1
 have hkind:∀y∈ps.zip us,(ao st).names.lookup y.1=ZA .local\/((ao st).names.lookup y.1=ZA .cell/\((Qq (s.heap.objs.size+1) (ao st).names []).lookup y.1).isSome=ZC):=λ⟨n,v⟩ hy=>by
  rcases S.par n (Q9 hy).1 with q|q
  ·exact .inl q
  ·exact .inr ⟨q,Ri _ _ _ (.inl q)⟩
 refine Tu hr.depth (KX _ _ lk) rfl S.co S.gen rfl (Uh KX hcd) (hb _ _ _ _ ?_)
 refine R8 S.kind hkind λenv he s1 x=>?_
 subst he;refine⟨lim.keeps x.toInCall.keep,codeAny_func ?_⟩
 obtain⟨F,hF,hv⟩:=hbody cdv A outer s H E0 (hr.deeper _)
 let xe:V1:=λev s'=>ZJ (ZK P w) (A.deeper (envOfC qual (ao st) s.heap.objs.size f cdv)) (leaving (envOfC qual (ao st) s.heap.objs.size f cdv) ev) (λ_ s''=>R (.error ev) s'') (λe' s''=>R (.error e') s'') s'
 have I:Inv ((ni CX0 P w K mg base N qual (ao st) f cdv A outer s H E0).FS xe) [] (start N vs) H s1:=(sk S hr.hd e0 hlen r x).FS _
 have no:∀a,¬noM.u a:=λa ⟨_,z⟩=>z
 refine Pl (hF xe [] s1 (start N vs) H {nx:=λ_ _=>False,rt:=λ_ _=>False,bk:=λ_ _=>False,ct:=λ_ _=>False} I ⟨aR N.length ts,O,noM,rN rs (by omega) trk,?_⟩) (λfl s' z=>?_) λe s' hs=>hs
 rotate_left
 ·cases fl with
  |next=>obtain⟨_,_,_,z⟩:=z;exact z.elim
  |cont=>obtain⟨_,_,_,z⟩:=z;exact z.elim
  |brk=>obtain⟨_,_,_,z⟩:=z;exact z.elim
  |ret v=>obtain⟨_,_,_,_,_,z⟩:=z;exact z.elim
 rw[hv ts hl c hg];intro bv ev s' w'
 show ZJ _ _ _ _ _ _
 obtain⟨e,T,C,σ',H',rfl,hm,I',sm,he,heo,fl,hT,_⟩:=w'
 have heo:=heo rfl
 have hT:∀t,T=ZA t->H' t=ZB/\s.heap.get? t=ZB:=λt z=>⟨(hT t z).1,(hT t z).2 rfl⟩
 refine Jl (base:=base) (outer:=outer) (L:=s.heap.objs.size) I'.ok.frames I'.stack rfl fl λh' T' g=>hR _ _ ?_
 have hex:((ni CX0 P w K mg base N qual (ao st) f cdv A outer s H E0).FS xe).ex=[]:=rfl
 have Tn:H' T'=ZB/\s.heap.get? T'=ZB:=by
  rcases g.new with z|z
  ·exact hT T' z
  ·exact⟨wK I' z,ur I' hex z⟩
 have out:∀b o,s.heap.get? b=ZA o->b≠s.heap.objs.size:=λb o q z=>by
  have:=Np q;rw[z]at this;exact absurd this (NK _)
 have mem:∀b,b∈uW ((envOfC qual (ao st) s.heap.objs.size f cdv)::outer)->b=s.heap.objs.size\/b∈uW outer:=λb z=>by
  have z':b∈s.heap.objs.size::uW outer:=z;exact Nl.mp z'
 have ne:∀b o,s.heap.get? b=ZA o->b≠e/\T≠ZA b:=λb o q=>⟨λz=>(by subst z;rw[show s.heap.get? b=ZB from heo]at q;cases q),λz=>(by rw[show s.heap.get? b=ZB from(hT b z).2]at q;cases q)⟩
 have keepH:∀b u,H' b≠ZB->s'.heap.get? b=ZA u->h'.get? b=ZA u:=λb u hb q=>by
  refine g.keep b u (λz=>hb (I'.Me b z)) (λz=>hb (by rw[z];exact he)) (λz=>hb (hT b z).1) q
 refine⟨e,T',C,H',rfl,hm,I'.os,I'.bare,⟨λb o q n hb hx=>?_,λb o q n hb hx=>?_,λb o q n hx=>I'.base.free b o q n hx,λb o q hx=>?_,I'.base.tups,I'.base.frzs,I'.base.tbls⟩,λa o q=>?_,λb o q=>sm b o q (no b),he,heo,g.flt,Tn.1,Tn.2⟩
 ·exact g.keep b o (λz=>(mem b z).elim (out b o q) hb) (ne b o q).1 (ne b o q).2 (I'.base.keep b o q n hb hx)
 ·obtain⟨sl,q1⟩:=I'.base.slot b o q n hb hx
  obtain⟨sl',q2⟩:=g.slot b _ (Na _ hb) q1;exact⟨sl',q2⟩
 ·obtain⟨o',q1⟩:=I'.base.there b o q hx
  by_cases z:b∈uW ((envOfC qual (ao st) s.heap.objs.size f cdv)::outer)
  ·obtain⟨sl,q2⟩:=g.slot b o' z q1
   exact⟨_,q2⟩
  ·exact⟨o',g.keep b o' z (ne b o q).1 (ne b o q).2 q1⟩
 ·refine(I'.hok a o q).L8 (λb u hb z=>keepH b u ?_ z) (λ_ z=>z) λ_ _ z=>z
  rcases hb with rfl|hb
  ·rw[q];simp
  ·rw[hb];simp
end
def EO{m:Nat}{F:V4}(h:val n m F ts=.err c):F (aR m ts)=.err c:=by
 unfold val at h
 split at h
 ·unfold bQ at h
  cases z:F (aR m ts)with
  |bad=>rw[z]at h;cases h
  |err c'=>rw[z]at h;cases h;rfl
  |ok f=>
   rw[z,aF]at h;cases f <;> cases h
 ·cases h
section
variable {base:ZH}
def JL{k:Nat}{F:V4}(Fn:L2.Fun K x qual st f fd)(S:aE N ps (ao st))(hn:ps.length=n)
  (hbody:∀(cdv:Nf)(A:N4)(outer:List Env)(s:Ng)(H:Hp)(E:XK),Room k (A.deeper (envOfC qual (ao st) s.heap.objs.size f cdv)) →
   ∀xe,lN ((ni CX0 P w K mg base N qual (ao st) f cdv A outer s H E).FS xe) (dJ st) F):J3 P w K mg base (k+1) f fd ps n (val n N.length F):=
 ⟨Lq Fn S hn λcdv A outer s H E hr=>⟨F,hbody cdv A outer s H E hr _,λts _ _ h=>HB h⟩,JK Fn S hn λcdv A outer s H E hr=>⟨F,hbody cdv A outer s H E hr,λts _ c h=>EO h⟩⟩
end
section
variable {pos p:Pos}
def Kz:qG X (.Continue pos) Hb:=PS.imp wt λD σ H ⟨Z,B,M,E,h⟩=>h σ H M (λ_ _ e _=>e) E λa z=>.inl z
end
inductive OTail (h:ZH):List Nf->Prop
 |base:OTail h ze
 |own {A:ZE} {c0:Nf} {dd:Option ZE} {cd:ClassData} {sl:Array (Option Nf)} {mA:V0} {tl:List Nf} :
   h.get? A=ZA {cls:=c0,dict:=dd,data:=.cls cd,slots:=sl}->h.Ns cd.ns mA->(∀n∈calmNames,mA n=ZB)->OTail h tl->OTail h (.ref A::tl)
def OTail.tail{tl:List Nf}(T:OTail h tl):OwnTail h ze tl:=by
 induction T with
 |base=>exact .base
 |own hA hN hq _ ih=>exact .own hA hN (hq _ (.head _)) ih
structure OX (K:M9)(C:ZE)(bm:List Nf):Prop where
 at_:∀h:ZH,K.In h->∃nm q N bs hdct sn sub ab col dd k0 k1 k2 k3 k5 mN,h.get? C=ZA (RZ nm q C N bs bm hdct sn sub ab col dd k0 k1 k2 k3 k5 "ValueError.__new__")/\h.Ns N mN/\(∀n∈calmNames,mN n=ZB)/\OTail h bm
def OX.own(O:OX K C bm):OwnExc K C bm:=⟨λh k=>by
 obtain⟨nm,q,N,bs,hdct,sn,sub,ab,col,dd,k0,k1,k2,k3,k5,mN,h1,h2,h3,h4⟩:=O.at_ h k;exact⟨nm,q,N,bs,hdct,sn,sub,ab,col,dd,k0,k1,k2,k3,k5,mN,h1,h2,h3 _ (.head _),h4.tail⟩⟩
variable{N:ZE}
def K9{ob:Nf}{oe:Option ZE}{es:Array RB}{oz:Array (Option Nf)}(r:K.lookup N=ZA ⟨ob,oe,.dict es n,oz⟩)(s:(es.toList.all λe=>B4 e.key)=ZC)
  (u0:Q3 K N "__init__" =ZA ZB) (u1:Q3 K N "__getattribute__" =ZA ZB) (u2:Q3 K N "__getattr__" =ZA ZB) (u3:Q3 K N "__class__" =ZA ZB):
  ∀h:ZH,K.In h->∃mN,h.Ns N mN/\∀n∈calmNames,mN n=ZB:=λh k=>by
 refine⟨nsFind es,⟨_,es,n,k _ _ r,rfl,λe he=>?_,λ_=>rfl⟩,λx hx=>?_⟩
 ·have:=NN.mp s e (by simpa using he)
  cases q:e.key <;> rw[q]at this <;> first|exact⟨_,_,rfl⟩|cases this
 ·have key:∀x,Q3 K N x=ZA ZB->nsFind es x=ZB:=λx u=>by
   unfold Q3 at u;rw[r]at u;simp only at u
   split at u
   ·cases u
   ·rename_i he
    unfold nsFind findBy;rw[<-Uj,he];rfl
  unfold calmNames at hx;simp only[Nl,N8,or_false]at hx;rcases hx with rfl|rfl|rfl|rfl
  ·exact key _ u0
  ·exact key _ u1
  ·exact key _ u2
  ·exact key _ u3
section
variable {nm q:Str}{bs:List Nf}{hdct:Bool}{sn:List Str}{sub:List Nf}{ab:Bool}{col:Option Bool}{dd:Option ZE}{k0 k1 k2 k3 k5:Option Nf}
variable {nm' q':Str}{D N':ZE}{bs':List Nf}{hdct':Bool}{sn':List Str}{sub':List Nf}{ab':Bool}{col':Option Bool}{dd':Option ZE}{k0' k1' k2' k3' k5':Option Nf}
def F0(w:K.lookup C=ZA (RZ nm q C N bs ze hdct sn sub ab col dd k0 k1 k2 k3 k5 "ValueError.__new__"))(ns:∀h:ZH,K.In h->∃mN,h.Ns N mN/\∀n∈calmNames,mN n=ZB):OX K C ze:=⟨λh k=>by
 obtain⟨mN,h1,h2⟩:=ns h k;exact⟨nm,q,N,bs,hdct,sn,sub,ab,col,dd,k0,k1,k2,k3,k5,mN,k _ _ w,h1,h2,.base⟩⟩
def CN(w:K.lookup C=ZA (RZ nm q C N bs (.ref D::ze) hdct sn sub ab col dd k0 k1 k2 k3 k5 "ValueError.__new__"))(ns:∀h:ZH,K.In h->∃mN,h.Ns N mN/\∀n∈calmNames,mN n=ZB)
  (wD:K.lookup D=ZA (RZ nm' q' D N' bs' ze hdct' sn' sub' ab' col' dd' k0' k1' k2' k3' k5' "ValueError.__new__")) (nsD:∀h:ZH,K.In h->∃mN,h.Ns N' mN/\∀n∈calmNames,mN n=ZB):OX K C (.ref D::ze):=⟨λh k=>by
 obtain⟨mN,h1,h2⟩:=ns h k;obtain⟨mD,d1,d2⟩:=nsD h k;exact⟨nm,q,N,bs,hdct,sn,sub,ab,col,dd,k0,k1,k2,k3,k5,mN,k _ _ w,h1,h2,.own (k _ _ wD) d1 d2 .base⟩⟩
end
end Tr
namespace L2
open PySem PySem.Spec PyProof.Rows
variable{y:V}
section
variable {κ:Type}[DecidableEq κ]
noncomputable def gu(kvs:List (κ×V))(k:κ):Option V:=(kvs.find? λkv=>decide (kv.1=k)).map (·.2)
noncomputable def cF(kvs:List (κ×V))(k:κ)(v:V):List (κ×V):=
 if (kvs.any λkv=>decide (kv.1=k))=ZC then kvs.map (λkv=>if kv.1=k then(kv.1,v)else kv)else kvs++[(k,v)]
def BW{k:κ}:gu ([]:List (κ×V)) k=ZB:=rfl
def fV{p:κ×V}{r:List (κ×V)}{k:κ}(e:p.1=k):gu (p::r) k=ZA p.2:=by simp[gu,Qy,e]
def fW{p:κ×V}{r:List (κ×V)}{k:κ}(e:¬ p.1=k):gu (p::r) k=gu r k:=by simp[gu,Qy,e]
theorem vH(k:κ):∀kvs:List (κ×V),(kvs.any λkv=>decide (kv.1=k))=(gu kvs k).isSome
 |[] =>rfl
 |p::r=>by
  rw[Qj]
  by_cases e:p.1=k
  ·simp only[fV e,decide_eq_true e,Bool.true_or,Ul]
  ·rw[fW e,decide_eq_false e,SG];exact vH k r
def dU(kvs:List (κ×V))(k:κ)(v:V):(cF kvs k v).length<=kvs.length+1:=by
 unfold cF;split
 ·rw[Nc];omega
 ·rw[Nm,Nj,P5];omega
def RelO.L9{o:Option V}{u:Option Nf}(r:RelO o u):o.isSome=u.isSome:=by
 cases o with
 |none=>cases u with
  |none=>rfl
  |some _=>exact(show False from r).elim
 |some _=>cases u with
  |none=>exact(show False from r).elim
  |some _=>rfl
def RelO.getD{o:Option V}{u:Option Nf}{d:V}{d':Nf}(r:RelO o u)(rd:RelV d d'):RelV (o.getD d) (u.getD d'):=by
 cases o with
 |none=>cases u with
  |none=>exact rd
  |some _=>exact(show False from r).elim
 |some _=>cases u with
  |none=>exact(show False from r).elim
  |some _=>exact r
def KV.val{kvs:List (κ×V)}{vs:List (κ×Nf)}(r:KV kvs vs)(k:κ):RelO (gu kvs k) (valueAt vs k):=by
 unfold KV at r
 induction r with
 |nil=>exact Pw
 |@cons p q ps qs h t ih=>
  obtain⟨h1,h2⟩:=h
  by_cases e:p.1=k
  ·have e':q.1=k:=h1.symm.trans e
   have b:valueAt (q::qs) k=ZA q.2:=by simp[valueAt,Qy,e']
   rw[fV e,b];exact h2
  ·have e':¬ q.1=k:=λz=>e (h1.trans z)
   have b:valueAt (q::qs) k=valueAt qs k:=by simp[valueAt,Qy,e']
   rw[fW e,b];exact ih
def KV.any{kvs:List (κ×V)}{vs:List (κ×Nf)}(r:KV kvs vs)(k:κ):(kvs.any λkv=>decide (kv.1=k))=vs.any λkv=>decide (kv.1=k):=by
 unfold KV at r
 induction r with
 |nil=>rfl
 |cons h t ih=>rw[Qj,Qj,ih,h.1]
def KV.MI{kvs:List (κ×V)}{vs:List (κ×Nf)}(r:KV kvs vs)(k:κ){u:Nf}(ry:RelV y u):
  KV (kvs.map λkv=>if kv.1=k then(kv.1,y)else kv) (vs.map λkv=>if kv.1=k then(kv.1,u)else kv):=by
 unfold KV at r ⊢
 induction r with
 |nil=>exact .nil
 |@cons p q ps qs h t ih=>
  rw[Nd,Nd];refine .cons ?_ ih
  obtain⟨h1,h2⟩:=h
  by_cases e:p.1=k
  ·rw[if_pos e,if_pos (h1.symm.trans e)];exact⟨h1,ry⟩
  ·rw[if_neg e,if_neg (λz=>e (h1.trans z))];exact⟨h1,h2⟩
def KV.put{kvs:List (κ×V)}{vs:List (κ×Nf)}(r:KV kvs vs)(k:κ){u:Nf}(ry:RelV y u):KV (cF kvs k y) (stored vs k u):=by
 unfold cF stored;rw[r.any k]
 by_cases e:(vs.any λkv=>decide (kv.1=k))=ZC
 ·rw[if_pos e,if_pos e];exact r.MI k ry
 ·rw[if_neg e,if_neg e];exact Paired.snoc r ⟨rfl,ry⟩
def KV.length{kvs:List (κ×V)}{vs:List (κ×Nf)}(r:KV kvs vs):kvs.length=vs.length:=Q7 r
end
def sh{k:Key}{u:Nf}(r:RelV (kV k) u):(cj P w).is k u=ZC:=by
 cases k with
 |inl i=>obtain⟨t,e⟩:=(show ∃t,u=OS i t from r);subst e;exact wY P w i t
 |inr x=>obtain⟨t,e⟩:=(show ∃t,u=Pd x t from r);subst e;exact wX P w x t
theorem sj:∀{ks:List Key}{us:List Nf},Vals (ks.map kV) us->ItemsAre (cj P w) ks us
 |[],_,r=>by rw[Qv]at r;cases r;exact .nil
 |k::ks,_,r=>by
  rw[Nd]at r
  cases r with
  |cons h t=>exact .cons (sh h) (sj t)
abbrev KT(H:Hp):List (List Key×V)->List (List Key×ZE×Nf)->Prop:=VH λp q=>p.1=q.1/\H q.2.1=ZA (.tup (p.1.map kV))/\RelV p.2 q.2.2
variable{H:Hp}{kvs:List (List Key×V)}{xs:List (List Key×ZE×Nf)}
def KT.val(r:KT H kvs xs)(k:List Key):RelO (gu kvs k) ((atKey xs k).map (·.2)):=by
 induction r with
 |nil=>exact Pw
 |@cons p q ps qs h t ih=>
  obtain⟨h1,_,h2⟩:=h
  by_cases e:p.1=k
  ·have e':q.1=k:=h1.symm.trans e
   have b:atKey (q::qs) k=ZA q.2:=by simp[atKey,Qy,e']
   rw[fV e,b];exact h2
  ·have e':¬ q.1=k:=λz=>e (h1.trans z)
   have b:atKey (q::qs) k=atKey qs k:=by simp[atKey,Qy,e']
   rw[fW e,b];exact ih
def KT.MI(r:KT H kvs xs)(k:List Key){u:Nf}(ry:RelV y u):
  KT H (kvs.map λkv=>if kv.1=k then(kv.1,y)else kv) (xs.map (putAt k u)):=by
 induction r with
 |nil=>exact .nil
 |@cons p q ps qs h t ih=>
  rw[Nd,Nd];refine .cons ?_ ih
  obtain⟨h1,h2,h3⟩:=h;unfold putAt
  by_cases e:p.1=k
  ·rw[if_pos e,if_pos (h1.symm.trans e)];exact⟨h1,h2,ry⟩
  ·rw[if_neg e,if_neg (λz=>e (h1.trans z))];exact⟨h1,h2,h3⟩
variable{b:ZE}
def KT.put(r:KT H kvs xs)(k:List Key){u:Nf}(hb:H b=ZA (.tup (k.map kV)))(ry:RelV y u):
  KT H (cF kvs k y) (storedH xs k b u):=by
 have e:(kvs.any λkv=>decide (kv.1=k))=(atKey xs k).isSome:=by
  rw[vH,(r.val k).L9,UO]
 unfold cF storedH;rw[e]
 by_cases q:(atKey xs k).isSome=ZC
 ·rw[if_pos q,if_pos q];exact r.MI k ry
 ·rw[if_neg q,if_neg q];exact Paired.snoc r ⟨rfl,hb,ry⟩
variable{H':Hp}
def KT.keeps(r:KT H kvs xs)(ht:∀b ys,H b=ZA (.tup ys)->H' b=ZA (.tup ys)):KT H' kvs xs:=
 Paired.MJ r λ_ _ z=>⟨z.1,ht _ _ z.2.1,z.2.2⟩
variable{a:ZE}
section
variable {h:ZH}
def wq{u:HO}(ok:HOk P w H h)(e:Rd H a u):ObjOk P w H h a u:=e.ok ok
def sP{kvs:List (Key×V)}(ok:HOk P w H h)(e:Rd H a (.dK kvs)):kvs.length<=ZI/\(a == PH)=ZD/\∃vs,KV kvs vs/\h.DictOf (cj P w) a vs:=
 show ObjOk P w H h a (.dK kvs)from wq ok e
def Hr{kvs:List (Key×V)}(ok:HOk P w H h)(e:H a=ZA (.dK kvs)):kvs.length<=ZI/\(a == PH)=ZD/\∃vs,KV kvs vs/\h.DictOf (cj P w) a vs:=sP ok (.inl e)
def key_of{ks:List Key}(ok:HOk P w H h)(e:H a=ZA (.tup (ks.map kV))):(RC (cj P w)).is h ks a:=by
 obtain⟨_,its,r,o,h1,h2,n,h3⟩:=(show ObjOk P w H h a (.tup (ks.map kV))from ok a _ e)
 exact⟨o,its.toArray,n,h1,h2,h3,by simpa using sj r⟩
def sL(ok:HOk P w H h)(e:Rd H a (.dT kvs)):kvs.length<=ZI/\(a == PH)=ZD ∧
  ∃xs,KT H kvs xs/\h.DictOfH (RC (cj P w)) a xs:=by
 obtain⟨z,y,xs,r,o,es,ep,h1,h2,h3,h4,h5⟩:=(show ObjOk P w H h a (.dT kvs)from wq ok e)
 refine⟨z,y,xs,r,o,es,ep,h1,h2,h3,h4,λx hx=>?_,h5⟩
 have all:∀{l:List (List Key×V)}{m:List (List Key×ZE×Nf)},KT H l m->∀x∈m,(RC (cj P w)).is h x.1 x.2.1:=by
  intro l m q
  induction q with
  |nil=>intro x hx;exact nomatch hx
  |@cons p q ps qs hq t ih=>
   intro x hx;rcases Nl.mp hx with e|hx
   ·subst e
    exact key_of ok (by rw[<-hq.1];exact hq.2.1)
   ·exact ih x hx
 exact all r x hx
def Aq(ok:HOk P w H h)(e:H a=ZA (.dT kvs)):kvs.length<=ZI/\(a == PH)=ZD ∧
  ∃xs,KT H kvs xs/\h.DictOfH (RC (cj P w)) a xs:=sL ok (.inl e)
end
def DGet(H:Hp)(a:ZE)(y:V)(r:Option V):Prop:=
 (∃kvs k,Rd H a (.dK kvs)/\y=kV k/\r=gu kvs k)\/∃kvs k b,Rd H a (.dT kvs)/\y=.ref b/\H b=ZA (.tup (k.map kV))/\r=gu kvs k
def DPut(H:Hp)(a:ZE)(y v:V)(H':Hp):Prop:=
 (∃kvs k,H a=ZA (.dK kvs)/\y=kV k/\kvs.length<ZI/\H'=upd H a (.dK (cF kvs k v))) ∨
 ∃kvs k b,H a=ZA (.dT kvs)/\y=.ref b/\H b=ZA (.tup (k.map kV))/\kvs.length<ZI/\H'=upd H a (.dT (cF kvs k v))
theorem DGet.k{kvs:List (Key×V)}{k:Key}(e:H a=ZA (.dK kvs)):DGet H a (kV k) (gu kvs k):=.inl ⟨kvs,k,.inl e,rfl,rfl⟩
def DGet.t{k:List Key}(e:H a=ZA (.dT kvs))(eb:H b=ZA (.tup (k.map kV))):DGet H a (.ref b) (gu kvs k):=.inr ⟨kvs,k,b,.inl e,rfl,eb,rfl⟩
def DPut.t{k:List Key}{v:V}(e:H a=ZA (.dT kvs))(eb:H b=ZA (.tup (k.map kV)))(hl:kvs.length<ZI):
  DPut H a (.ref b) v (upd H a (.dT (cF kvs k v))):=.inr ⟨kvs,k,b,e,rfl,eb,hl,rfl⟩
variable{X:Cx}{h':ZH}{bv:V2}{σ:St}
section
variable {v:V}{u r:Nf}{o:Option V}
def Inv.big(I:Inv X bv σ H s):PH<s.heap.objs.size:=by
 have h:Ob<s.heap.objs.size:=(I.mod.glob.keeps I.bk).lt;exact S8 (by decide) h
def Bs(hu:A.units+1<cLine)(I:Inv X bv σ H s)(g:DGet H a y (ZA v))(ry:RelV y u)(h:∀w' s',Inv X bv σ H s'->RelV v w'->Q w' s'):
  ZJ (ZK X.prog X.w) A (getItem (.ref a) u) Q E s:=by
 rcases g with⟨kvs,k,e,ey,l⟩|⟨kvs,k,b,e,ey,eb,l⟩
 ·subst ey
  obtain⟨z,hd,vs,rel,dd⟩:=sP I.hok e;obtain⟨w',hw,rw'⟩:=RelO.some_of (v:=v) (o:=valueAt vs k) (by rw[l];exact rel.val k)
  exact wpAny_getItem_of (sh ry) dd.mapOf hw (h w' _ (I.tok _) rw')
 ·subst ey
  cases (show u=Nx b from ry)
  obtain⟨z,hd,xs,rel,dd⟩:=sL I.hok e;obtain⟨w',hw,rw'⟩:=RelO.some_of (v:=v) (o:=(atKey xs k).map (·.2)) (by rw[l];exact rel.val k)
  obtain⟨p,hp,hp2⟩:=OG.mp hw;refine wpAny_getItem_heap (PP hu) (key_of I.hok eb) dd hp ?_
  rw[hp2];exact h w' _ (I.tok _) rw'
def d_in(hu:A.units+1<cLine)(I:Inv X bv σ H s)(g:DGet H a y o)(ry:RelV y u)(h:∀s',Inv X bv σ H s'->Q (.bool o.isSome) s'):
  ZJ (ZK X.prog X.w) A (Og .In u (.ref a)) Q E s:=by
 rcases g with⟨kvs,k,e,ey,l⟩|⟨kvs,k,b,e,ey,eb,l⟩
 ·subst ey
  obtain⟨z,hd,vs,rel,dd⟩:=sP I.hok e;refine wpAny_in_of (sh ry) hd dd.mapOf ?_
  rw[<-(rel.val k).L9,<-l];exact h _ (I.tok _)
 ·subst ey
  cases (show u=Nx b from ry)
  obtain⟨z,hd,xs,rel,dd⟩:=sL I.hok e;refine wpAny_in_heap (PP hu) (key_of I.hok eb) hd dd ?_
  have q:=(rel.val k).L9;rw[UO]at q;rw[<-q,<-l];exact h _ (I.tok _)
def kJ{ob:HO}(I:Inv X bv σ H s)(mu:LG (H a))(hs:Qu a s.heap h')(he:∃q,h'.get? a=ZA q)(new:ObjOk X.prog X.w (upd H a ob) h' a ob):
  Inv X bv σ (upd H a ob) {s with heap:=h',toks:=t'}:=
 I.write (x:=a) (e:=a) mu (.inl rfl) (λb q hb z=>(hs.2 b hb).trans z) he new
def D6{kvs:List (Key×V)}{vs:List (Key×Nf)}(z:kvs.length<=ZI)(hd:(a == PH)=ZD)(rel:KV kvs vs)(dd:h'.DictOf (cj P w) a vs):
  ObjOk P w H' h' a (.dK kvs):=⟨z,hd,vs,rel,dd⟩
def Br{Q:Unit->Ng->Prop}(hu:A.units+1<cLine)(I:Inv X bv σ H s)(g:DPut H a y v H')(ry:RelV y u)(rv:RelV v r)(h:∀s',Inv X bv σ H' s'->Q () s'):
  ZJ (ZK X.prog X.w) A (setItem (.ref a) u r) Q E s:=by
 rcases g with⟨kvs,k,e,ey,l,eH⟩|⟨kvs,k,b,e,ey,eb,l,eH⟩
 ·subst ey eH
  obtain⟨z,hd,vs,rel,dd⟩:=Hr I.hok e
  have hz:vs.length<=ZI:=by rw[<-rel.length];exact z
  have hl:(cF kvs k v).length<=ZI:=by have:=dU kvs k v;omega
  refine wpAny_setItem_pairs (hsz:=hz) (sh ry) dd λh' dd' hs=>h _ ?_
  have he:∃q,h'.get? a=ZA q:=let ⟨q,_,_,hq,_⟩:=dd';⟨q,hq⟩
  exact kJ I (by rw[e];exact Pw) hs he (D6 hl hd (rel.put k rv) dd')
 ·subst ey eH
  cases (show u=Nx b from ry)
  obtain⟨z,hd,xs,rel,dd⟩:=Aq I.hok e
  have hz:xs.length<=ZI:=by rw[<-Q7 rel];exact z
  have hl:(cF kvs k v).length<=ZI:=by have:=dU kvs k v;omega
  refine wpAny_setItem_heap (hsz:=hz) (PP hu) (key_of I.hok eb) dd λh' dd' hs=>h _ ?_
  obtain⟨q,es,ep,hq,h2,h3,h4,_,h5⟩:=dd';refine kJ I (by rw[e];exact Pw) hs ⟨q,hq⟩ ⟨hl,hd,_,(rel.put k eb rv).keeps λc ys ec=>?_,q,es,ep,hq,h2,h3,h4,h5⟩
  rw[aG (jV ec e (λz=>nomatch z))]
  exact ec
end
def vp(i:ZG):Prop:=∀ov iv,Uc i ZD ov iv=operate [ov,iv] (getItem ov iv)
variable{value:ZG}
def EZ{env:Env}{slice:ZG}{pos:Pos}{T id:String}
  (hl:P9 (.type T) "__getitem__" =pure (ZA (.builtin id))) (hs:vp slice)
  (h:ZJ (ZK prog w) A (eval value env) (λo s₁=>ZJ (ZK prog w) A (eval slice env) (λi s₂=>s₂.TypeIs o T/\ZJ (ZK prog w) A (getItem o i) Q E s₂) E s₁) E s):
  ZJ (ZK prog w) A (eval (.Subscript value slice pos) env) Q E s:=by
 refine Subscript_ (Pl h (λo s₁ h₁=>Pl h₁ (λi s₂ h₂=>?_) λ_ _ x=>x) λ_ _ x=>x)
 obtain⟨hT,h₂⟩:=h₂;unfold UC;refine M7 ?_
 rw[getitemInPython_of_ne hT.not_modules];refine M7 (Tz hT hl ?_)
 have fin:ZJ (ZK prog w) A (Uc slice ZD o i) (λr s₃=>ZJ (ZK prog w) A (letTemporaryGo value o r >>= λ_=>pure r) Q E s₃) E s₂:=by
  rw[hs o i];exact wpAny_operating (Pl h₂ (λr s₃ h₃=>M7 (wpAny_letTemporaryGo (Nh h₃))) λ_ _ x=>x)
 first
  |exact Nh (M7 fin)
  |exact M7 (Nh (M7 fin))
  |exact M7 fin
def xH{o:Option V}(I:Inv X bv σ H s)(g:DGet H a y o):s.TypeIs (.ref a) "dict":=by
 rcases g with⟨kvs,k,e,_,_⟩|⟨kvs,k,b,e,_,_,_⟩
 ·obtain⟨_,_,vs,_,dd⟩:=sP I.hok e
  exact dd.typeIs
 ·obtain⟨_,_,xs,_,dd⟩:=sL I.hok e
  exact dd.typeIs
def Ki(td ty:TE):TE:=λσ H Q=>td σ H λx H1=>ty σ H1 λy H2=>∃a v,x=.ref a/\DGet H2 a y (ZA v)/\Q v H2
def Kq(td ty tv:TE):TS:=λD σ H=>tv σ H λv H1=>td σ H1 λx H2=>ty σ H2 λy H3=>∃a H4,x=.ref a/\DPut H3 a y v H4/\D.nx σ H4
section
variable {o i e:ZG}{pos pos' tpos:Pos}{td ty tv:TE}
def t9(hu:X.A.units+1<cLine)(ho:PE X o td)(hi:PE X i ty)(hs:vp i):PE X (.Subscript o i pos) (Ki td ty):=by
 intro bv s σ H Q I h;refine EZ PySem.F.slot_dict_getitem.lookup hs (cz (ho bv s σ H _ I h) λu s1 ⟨x,H1,I1,rx,q1⟩=>cz (hi bv s1 σ H1 _ I1 q1) λiv s2 hh_=>?_)
 obtain⟨y,H2,I2,ry,a,v,ex,g,q2⟩:=hh_;subst ex;obtain rfl:u=Nx a:=rx;exact⟨xH I2 g,Bs hu I2 g ry λw' s3 I3 rw'=>⟨v,H2,I3,rw',q2⟩⟩
def zI(hu:X.A.units+1<cLine)(ho:PE X o td)(hi:PE X i ty)(hv:PE X value tv)(hs:Ov value (ZA (.Subscript o i pos')) pos.line X.env=pure ZD):
  PS X (.Assign [.Subscript o i pos'] value pos) (Kq td ty tv):=by
 intro bv s σ H D I h;refine wpAny_Assign_Subscript (cz (hv bv s σ H _ I h) λr s1 ⟨v,H1,I1,rv,q1⟩=>cz (ho bv s1 σ H1 _ I1 q1) λu s2 ⟨x,H2,I2,rx,q2⟩=>cz (hi bv s2 σ H2 _ I2 q2) λiv s3 ⟨y,H3,I3,ry,a,H4,ex,g,q3⟩=>?_) hs
 subst ex;obtain rfl:u=Nx a:=rx;exact Br hu I3 g ry rv λs4 I4=>⟨σ,H4,I4,q3⟩
end
def D7(h:ZH)(hb:PH<h.objs.size):ObjOk P w H (h.push {cls:=.type "dict",data:=.dict #[]}) h.objs.size (.dK []):=
 ⟨OF _,beq_eq_false_iff_ne.mpr (QZ (Oa hb)),[],.nil,Heap.DictOf.new h⟩
def qw(h:ZH)(hb:PH<h.objs.size):ObjOk P w H (h.push {cls:=.type "dict",data:=.dict #[]}) h.objs.size (.dT []):=
 ⟨OF _,beq_eq_false_iff_ne.mpr (QZ (Oa hb)),[],.nil,_,#[],0,Nn _ rfl,⟨rfl,rfl,rfl⟩,rfl,rfl,Pu⟩
def oO:List (TE×TE)->St->Hp->(List (V×V)->Hp->Prop)->Prop
 |[],_,H,Q=>Q [] H
 | (tk,tv)::r,σ,H,Q=>tk σ H λx H1=>tv σ H1 λy H2=>oO r σ H2 λps H3=>Q ((x,y)::ps) H3
abbrev VV:List (V×V)->List (Nf×Nf)->Prop:=VH λp q=>RelV p.1 q.1/\RelV p.2 q.2
def J8(X:Cx)(pos:Pos)(keys:List (Option ZG))(values:List ZG)(trs:List (TE×TE)):Prop:=
 ∀(bv:V2)(s:Ng)(σ:St)(H:Hp)(Q:List (V×V)->Hp->Prop),Inv X bv σ H s->oO trs σ H Q →
  ZJ (ZK X.prog X.w) X.A (evalPairs (pairTrees keys values X.env pos)) (λvs s'=>∃ps H',Inv X bv σ H' s'/\VV ps vs/\Q ps H') X.xe s
def FK{pos:Pos}:J8 X pos [] [] []:=λbv s σ H Q I h=>pairTrees_nil_walk ⟨[],H,I,.nil,h⟩
variable{trs:List (TE×TE)}
def l7{pos:Pos}{k v:ZG}{ks:List (Option ZG)}{vs:List ZG}{tk tv:TE}(hk:PE X k tk)(hv:PE X v tv)(hr:J8 X pos ks vs trs):
  J8 X pos (ZA k::ks) (v::vs) ((tk,tv)::trs):=λbv s σ H Q I h=>
 pairTrees_cons_walk (cz (hk bv s σ H _ I h) λu s1 ⟨x,H1,I1,rx,q1⟩=>cz (hv bv s1 σ H1 _ I1 q1) λw2 s2 ⟨y,H2,I2,ry,q2⟩=>
  cz (hr bv s2 σ H2 _ I2 q2) λws s3 ⟨ps,H3,I3,rel,q3⟩=>⟨(x,y)::ps,H3,I3,.cons ⟨rx,ry⟩ rel,q3⟩)
def gh(kvs more:List (Key×V)):List (Key×V):=more.foldl (λacc kv=>cF acc kv.1 kv.2) kvs
def KV.merge:∀{more:List (Key×V)}{rs:List (Key×Nf)}{kvs:List (Key×V)}{vs:List (Key×Nf)},KV more rs->KV kvs vs->KV (gh kvs more) (merged vs rs):=by
 intro more rs kvs vs r;unfold KV at r
 induction r generalizing kvs vs with
 |nil=>intro q;exact q
 |@cons p q ps qs h t ih=>
  intro r0
  have e:KV (cF kvs p.1 p.2) (stored vs q.1 q.2):=by
   have:=r0.put p.1 h.2;rw[<-h.1];exact this
  exact ih e
theorem lq:∀(more kvs:List (Key×V)),(gh kvs more).length<=kvs.length+more.length
 |[],kvs=>by show kvs.length<=kvs.length+0;omega
 |p::r,kvs=>by
  have h1:=lq r (cF kvs p.1 p.2)
  have h2:=dU kvs p.1 p.2
  show(gh (cF kvs p.1 p.2) r).length<=_
  rw[Nj];omega
theorem qy{P:NH}{w:Ou}:∀{kvs:List (Key×V)}{ws:List (Nf×Nf)},VV (kvs.map λkv=>(kV kv.1,kv.2)) ws->∃rs,Carries (cj P w) ws rs/\KV kvs rs
 |[],_,r=>by rw[Qv]at r;cases r;exact⟨[],Pw,.nil⟩
 |p::kvs,_,r=>by
  rw[Nd]at r
  cases r with
  |@cons a b as bs h t=>
   obtain⟨rs,c,q⟩:=qy (P:=P) (w:=w) t;obtain⟨b1,b2⟩:=b;exact⟨(p.1,b2)::rs,⟨sh h.1,rfl,c⟩,.cons ⟨rfl,h.2⟩ q⟩
def Kh(trs:List (TE×TE)):TE:=λσ H Q=>∀p,H p=ZB->oO trs σ (upd H p (.dK [])) λps H2=>H2 p=ZA (.dK [])/\∃kvs:List (Key×V),ps=kvs.map (λkv=>(kV kv.1,kv.2))/\kvs.length<=15/\Q (.ref p) (upd H2 p (.dK (gh [] kvs)))
def FY{pos:Pos}{keys:List (Option ZG)}{values:List ZG}(h:J8 X pos keys values trs)(hall:keys.all (·.isSome)=ZC)(hl:keys.length=values.length)(h0:keys≠ [])
  (h15:keys.length<=15):PE X (.Dict keys values pos) (Kh trs):=by
 intro bv s σ H Q I q
 have hn:=I.hok.fresh (Nr s.heap.objs.size)
 have I1:=I.laid (a:=s.heap.objs.size) (o:=.dK []) (h':=s.heap.push {cls:=.type "dict",data:=.dict #[]}) (t':=s.toks) (λ_ _ q=>M8 _ q) (Nr _) (D7 s.heap I.big)
 refine wpAny_Dict_walk (knd:=cj X.prog X.w) hall hl h0 h15 (cz (h bv _ σ _ _ I1 (q _ hn)) λws s2 hh_=>?_)
 obtain⟨ps,H2,I2,rel,e,kvs,ep,lk,q2⟩:=hh_;subst ep;obtain⟨rs,c,rk⟩:=qy (P:=X.prog) (w:=X.w) rel;obtain⟨z,hd,vs0,r0,dd⟩:=Hr I2.hok e;cases r0;refine⟨rs,c,dd,λh' dd' hs=>⟨.ref s.heap.objs.size,_,?_,rfl,q2⟩⟩
 have hz:(gh [] kvs).length<=ZI:=by
  have h1:=lq kvs [];rw[P5]at h1;rw[ON];omega
 have he:∃q,h'.get? s.heap.objs.size=ZA q:=let ⟨q,_,_,hq,_⟩:=dd';⟨q,hq⟩
 exact kJ I2 (by rw[e];exact Pw) hs he (D6 hz hd (rk.merge .nil) dd')
structure M1 (X:Cx)(o:ZG)(m:Str)(apos:Pos)(e:ZG)(cpos:Pos):Prop where
 base:Pb o m X.env (eval o X.env)=eval o X.env
 few:((backTo cpos (NF [e] X.env)).all (λx=>!x.1)&&(backToKw cpos (VM [] X.env)).all (λx=>x.1.isSome)
  &&decide (([e]:List ZG).length+([]:List VO).length+(if ([]:List VO).isEmpty then 0 else 1)<30))=ZC
 line:(apos.endLine == cpos.line)=ZC
 trees:backTo cpos (NF [e] X.env)=[(ZD,eval e X.env)]
structure M2 (X:Cx)(o:ZG)(m:Str)(apos:Pos)(e f:ZG)(cpos:Pos):Prop where
 base:Pb o m X.env (eval o X.env)=eval o X.env
 few:((backTo cpos (NF [e,f] X.env)).all (λx=>!x.1)&&(backToKw cpos (VM [] X.env)).all (λx=>x.1.isSome)
  &&decide (([e,f]:List ZG).length+([]:List VO).length+(if ([]:List VO).isEmpty then 0 else 1)<30))=ZC
 line:(apos.endLine == cpos.line)=ZC
 trees:backTo cpos (NF [e,f] X.env)=[(ZD,eval e X.env),(ZD,eval f X.env)]
def IsD(H:Hp)(a:ZE):Prop:=(∃kvs,Rd H a (.dK kvs))\/∃kvs,Rd H a (.dT kvs)
def JA(I:Inv X bv σ H s)(d:IsD H a):
  s.TypeIs (.ref a) "dict"/\(∀b,Nx a=.ref b->∃ob,s.heap.get? b=ZA ob/\ob.dict=ZB)/\(a == PH)=ZD:=by
 rcases d with⟨kvs,e⟩|⟨kvs,e⟩
 ·obtain⟨_,hd,vs,_,dd⟩:=sP I.hok e
  refine⟨dd.typeIs,λb q=>?_,hd⟩
  cases q;obtain⟨ob,_,_,h1,h2,_⟩:=dd;exact⟨ob,h1,h2.2.1⟩
 ·obtain⟨_,hd,xs,_,dd⟩:=sL I.hok e
  refine⟨dd.typeIs,λb q=>?_,hd⟩
  cases q;obtain⟨ob,_,_,h1,h2,_⟩:=dd;exact⟨ob,h1,h2.2.1⟩
section
variable {d:V}{u r:Nf}{o:Option V}
def JU(hu:A.units+1<cLine)(I:Inv X bv σ H s)(g:DGet H a y o)(ry:RelV y u)(h:∀w' s',Inv X bv σ H s'->RelV (o.getD .non) w'->Q w' s'):
  ZJ (ZK X.prog X.w) A (call (.builtin "dict.get") [.ref a,u]) Q E s:=by
 rcases g with⟨kvs,k,e,ey,l⟩|⟨kvs,k,b,e,ey,eb,l⟩
 ·subst ey
  obtain⟨z,hd,vs,rel,dd⟩:=sP I.hok e;refine call_meetsIn Rw dd.typeIs S0 (SD _ _) (meets_dict_get (cj X.prog X.w) a (sh ry) hd) ⟨_,dd.mapOf,h _ _ (I.tok _) ?_⟩
  rw[l];exact(rel.val k).getD rfl
 ·subst ey
  cases (show u=Nx b from ry)
  obtain⟨z,hd,xs,rel,dd⟩:=sL I.hok e;refine call_meetsIn Rw dd.typeIs S0 (SD _ _) (meetsH_dict_get (RC (cj X.prog X.w)) a b hd) ⟨PP hu,k,xs,key_of I.hok eb,dd,h _ _ (I.tok _) ?_⟩
  rw[l];exact(rel.val k).getD rfl
end
def HL(td ty:TE):TE:=λσ H Q=>td σ H λx H1=>∃a,x=.ref a/\IsD H1 a/\ty σ H1 λy H2=>∃o,DGet H2 a y o/\Q (o.getD .non) H2
section
variable {o e f:ZG}{apos cpos:Pos}{td ty tx:TE}
def CL(hu:X.A.units+1<cLine)(ho:PE X o td)(he:PE X e ty)(m:M1 X o "get" apos e cpos):PE X (.Call (.Attribute o "get" apos) [e] [] cpos) (HL td ty):=by
 intro bv s σ H Q I h;refine wpAny_Call_method m.base m.few m.line PySem.F.plainAttrs_dict Rw PySem.F.type_dict_get (cz (ho bv s σ H _ I h) λu s1 hh_=>?_)
 obtain⟨x,H1,I1,rx,a,ex,d,q1⟩:=hh_;subst ex;obtain rfl:u=Nx a:=rx;obtain⟨t1,t2,_⟩:=JA I1 d;refine⟨t1,t2,?_⟩
 rw[m.trees];refine Rk rfl (QN (PJ (cz (he bv s1 σ H1 _ I1 q1) λiv s2 ⟨y,H2,I2,ry,ov,g,q2⟩=>P3 ?_)))
 exact JU hu I2 g ry λw' s3 I3 rw'=>⟨_,H2,I3,rw',q2⟩
end
end L2
namespace Tr
open PySem PySem.Spec PyProof.Rows L2
variable{H:Hp}{a:ZE}{kvs:List (List Key×V)}
def DGet.MK{b:ZE}{k:List Key}(e:Rd H a (.dT kvs))(eb:H b=ZA (.tup (k.map kV))):DGet H a (.ref b) (gu kvs k):=.inr ⟨kvs,k,b,e,rfl,eb,rfl⟩
def g8{k:Nat}(h:Room k A):A.units+1<cLine:=by have:=h.un;omega
variable{O:Ow}
theorem p9:∀{l:List T}{vs:List V}{k:List Key},lI l=ZA k->Reps K O H l vs->vs=k.map kV
 |[],vs,k,h,r=>by cases Reps.AC.mp r;cases h;rfl
 |t::l,vs,k,h,r=>by
  obtain⟨v,ws,rfl,p,q⟩:=Reps.me.mp r;unfold lI at h
  cases e1:Hk t with
  |none=>rw[e1]at h;cases h
  |some a=>
   cases e2:lI l with
   |none=>rw[e1,e2]at h;cases h
   |some b=>
    rw[e1,e2]at h;cases h;rw[p9 e2 q,Nd]
    congr 1
    cases t with
    |int i=>cases e1;exact Rep.Da.mp p
    |str x=>cases e1;exact Rep.GM.mp p
    |_=>cases e1
variable{v:V}
def gz{y:T}{k:List Key}(h:keyOf y=ZA k)(r:Rep K O H y v):∃b,v=.ref b/\H b=ZA (.tup (k.map kV)):=by
 cases y with
 |tup l=>
  obtain⟨a,vs,e1,_,e3,e4⟩:=Rep.Do.mp r;rw[p9 h e4]at e3
  exact⟨a,e1,e3⟩
 |_=>cases h
theorem mG{k:List Key}:∀{ks ts:List T}{kvs:List (List Key×V)},ks.map keyOf=kvs.map (λp=>ZA p.1)->Reps K O H ts (kvs.map (·.2))->match kO ks ts k with
  |some t=>∃v,gu kvs k=ZA v/\Rep K O H t v
  |none=>gu kvs k=ZB
 |[],ts,kvs,h,r=>by
  cases kvs with
  |nil=>unfold kO;exact BW
  |cons _ _=>cases h
 |k'::ks,ts,kvs,h,r=>by
  cases kvs with
  |nil=>cases h
  |cons p kvs=>
   rw[Nd,Nd]at h;injection h with h1 h2
   rw[Nd]at r
   cases ts with
   |nil=>have:=Reps.AC.mp r;cases this
   |cons t ts=>
    obtain⟨v,ws,e,q1,q2⟩:=Reps.me.mp r;injection e with e1 e2
    subst e1 e2;unfold kO
    by_cases hk:keyOf k'=ZA k
    ·rw[if_pos hk]
     rw[h1]at hk;injection hk with hk
     exact⟨_,fV hk,q1⟩
    ·rw[if_neg hk]
     have hk2:¬ p.1=k:=λz=>hk (by rw[h1,z])
     rw[fW hk2];exact mG h2 q2
def tV [DecidableEq κ]{k:κ}{p:κ×V}{r:List (κ×V)}(h:¬ p.1=k):cF (p::r) k v=p::cF r k v:=by
 unfold cF;rw[Qj,decide_eq_false h,SG]
 by_cases q:(r.any λkv=>decide (kv.1=k))=ZC
 ·rw[if_pos q,if_pos q,Nd,if_neg h]
 ·rw[if_neg q,if_neg q];rfl
def tW [DecidableEq κ]{k:κ}{p:κ×V}{r:List (κ×V)}(h:p.1=k)(hn:∀q∈r,q.1≠k):cF (p::r) k v=(p.1,v)::r:=by
 unfold cF;rw[Qj,decide_eq_true h,Bool.true_or,if_pos rfl,Nd,if_pos h]
 congr 1
 conv=>rhs;rw[<-VA r]
 exact NQ λq hq=>if_neg (hn q hq)
theorem mF{kT vT:T}{k:List Key}(hk:keyOf kT=ZA k)(hv:Rep K O H vT v):∀{ks ts:List T}{kvs:List (List Key×V)},ks.map keyOf=kvs.map (λp=>ZA p.1)->Reps K O H ts (kvs.map (·.2))->(kvs.map (·.1)).Nodup →
  (gA kT vT ks ts).1.map keyOf=(cF kvs k v).map (λp=>ZA p.1)/\Reps K O H (gA kT vT ks ts).2 ((cF kvs k v).map (·.2))
 |[],ts,kvs,h,r,_=>by
  cases kvs with
  |nil=>
   unfold gA;refine⟨?_,Reps.FM hv Reps.nil_⟩
   simp[cF,hk]
  |cons _ _=>cases h
 |k'::ks,ts,kvs,h,r,hn=>by
  cases kvs with
  |nil=>cases h
  |cons p kvs=>
   rw[Nd,Nd]at h;injection h with h1 h2
   rw[Nd]at r;rw[Nd]at hn;obtain⟨n1,n2⟩:=NP.mp hn
   cases ts with
   |nil=>have:=Reps.AC.mp r;cases this
   |cons t ts=>
    obtain⟨v',ws,e,q1,q2⟩:=Reps.me.mp r;injection e with e1 e2
    subst e1 e2;unfold gA
    by_cases hz:keyOf k'=keyOf kT
    ·rw[if_pos hz]
     have hp:p.1=k:=by rw[hz,hk]at h1;injection h1 with h1;exact h1.symm
     rw[tW hp λq hq z=>n1 (by rw[hp,<-z];exact List.mem_map_of_mem hq)]
     exact⟨by rw[Nd,Nd,h1,h2],Reps.FM hv q2⟩
    ·rw[if_neg hz]
     have hp:¬ p.1=k:=λz=>hz (by rw[h1,z,hk])
     obtain⟨a1,a2⟩:=mF hk hv h2 q2 n2;rw[tV hp];exact⟨by rw[Nd,Nd,h1,a1],Reps.FM q1 a2⟩
def GQ{xs:List (List Key×ZE×Nf)}(rel:KT H kvs xs):kvs.map (·.1)=xs.map (·.1):=by
 induction rel with
 |nil=>rfl
 |cons h t ih=>rw[Nd,Nd,ih,h.1]
variable{X:Cx}
def xJ{bv:V2}{σ:L2.St}(I:Inv X bv σ H s)(e:H a=ZA (.dT kvs)):(kvs.map (·.1)).Nodup/\kvs.length<=ZI:=by
 obtain⟨z,_,xs,rel,_,_,_,_,_,_,_,_,hn⟩:=Aq I.hok e;rw[GQ rel];exact⟨hn,z⟩
variable{a b:ZG}{fa fb:V5}
section
variable {pos:Pos}
def KP(hu:X.A.units+1<cLine)(ha:cJ X a fa)(hb:cJ X b fb)(hs:autoParam (vp b) w_):cJ X (.Subscript a b pos) (o2 aN fa fb):=by
 refine PE.imp (t9 hu ha hb hs) λσ H Q ⟨Z,O,E,hq⟩=>?_
 obtain⟨Z1,O1,E1,h1⟩:=bf E hq;refine⟨Z1,O1,E1,Post.mono h1 λt H1 s1 q v r=>?_⟩
 obtain⟨t',r',s',E',q'⟩:=q v r;obtain⟨Z2,O2,E2,h2⟩:=bf (f:=fb) E' q';refine⟨Z2,O2,E2,Post.mono h2 λt2 H2 s2 q2 v2 r2=>?_⟩
 obtain⟨t2',r2',s2',E2',q2'⟩:=q2 v2 r2
 have r'':=r'.same s2';unfold aN at q2'
 split at q2'
 ·rename_i ks vs k hk
  split at q2'
  ·rename_i x hx
   obtain⟨a,kvs,e1,e2,e3,e4,e5⟩:=Rep.Gc.mp r'';obtain⟨b,f1,f2⟩:=gz hk r2'
   have g:=mG (k:=k) e4 e5;rw[hx]at g;obtain⟨w,g1,g2⟩:=g;exact⟨a,w,e1,by rw[f1,<-g1];exact DGet.MK e3 f2,q2' H2 (Same.refl H2) w g2⟩
  ·exact q2'.elim
 ·exact q2'.elim
end
open PySem.SeqAt
variable{x:T}
def C6(rx:ReV s x ux)(hu:A.units+60<cLine){l:List T}(hd:x.dep<=60\/deps l<=60)(r:ReVs s l us):
  ∃e:Nf->Bool,(∀y∈us,EqAt A s y ux (e y))/\us.map e=l.map λt=>bc t x:=by
 classical
 have ex:∀y∈us,∃t∈l,ReV s t y:=λy hy=>by
  obtain⟨i,hi,rfl⟩:=Qi hy
  have hl:=r.length
  have e1:l[i]?=ZA l[i]:=by simp
  obtain⟨u,q1,q2⟩:=r.get e1
  have:us[i]?=ZA us[i]:=by simp
  rw[this]at q1;cases q1;exact⟨l[i],Oi _,q2⟩
 let e:Nf->Bool:=λy=>decide (∃t∈l,ReV s t y/\bc t x=ZC)
 have dep:∀t∈l,t.dep<=60\/x.dep<=60:=λt ht=>by
  rcases hd with h|h
  ·exact .inr h
  ·obtain⟨i,hi,rfl⟩:=Qi ht
   exact .inl (NV (j7 (i:=i) (by simp)) h)
 have uniq:∀y t t',ReV s t y->ReV s t' y->bc t x=bc t' x:=λy t t' z z'=>by
  rw[<-mJ t,<-mJ t',ReV.nf z z']
 have agree:∀y t,t∈l->ReV s t y->e y=bc t x:=λy t h z=>by
  show decide (∃t∈l,ReV s t y/\bc t x=ZC)=bc t x
  cases q:bc t x with
  |true=>exact decide_eq_true ⟨t,h,z,q⟩
  |false=>
   refine decide_eq_false ?_
   rintro ⟨t',h',z',q'⟩
   rw[<-uniq y t t' z z',q]at q';cases q'
 refine⟨e,λy hy=>?_,?_⟩
 ·obtain⟨t,h,z⟩:=ex y hy
  rw[agree y t h z];exact(Gu 60 A s t x y ux (dep t h) hu z rx).1
 ·have go:∀(l':List T)(us':List Nf),(∀t∈l',t∈l)->ReVs s l' us'->us'.map e=l'.map λy=>bc y x:=by
   intro l'
   induction l' with
   |nil=>intro us' _ r';rw[ReVs.AC.mp r'];rfl
   |cons t l' ih=>
    intro us' sub r';obtain⟨u,ws,rfl,p,q⟩:=ReVs.me.mp r';rw[Nd,Nd,ih ws (λt ht=>sub t (Na _ ht)) q,agree u t (sub t Nb) p]
  exact go l us (λ_ h=>h) r
theorem qm:∀{l:List T}{n k:Nat},kI x l n=ZA k->n<=k/\(l.map λt=>bc t x)[k - n]?=ZA ZC/\∀m,m<k - n->(l.map λt=>bc t x)[m]?=ZA ZD
 |[],n,k,h=>by cases h
 |t::l,n,k,h=>by
  unfold kI at h
  cases q:bc t x with
  |true=>
   rw[q,if_pos rfl]at h;cases h;refine⟨Nr _,?_,λm hm=>by omega⟩
   rw[Sb,Nd,q];rfl
  |false=>
   rw[q,if_neg (by decide)]at h
   obtain⟨h1,h2,h3⟩:=qm h
   have e:k - n=(k - (n+1))+1:=by omega
   refine⟨by omega,?_,λm hm=>?_⟩
   ·rw[e,Nd,OZ];exact h2
   ·cases m with
    |zero=>rw[Nd,q];rfl
    |succ m=>rw[Nd,OZ];exact h3 m (by omega)
section
variable {pos apos cpos:Pos}
def Ct(hu:X.A.units+61<cLine)(ha:cJ X a fa)(hb:cJ X b fb)(hn:bN b=ZC:=by rfl)
  (hbase:Pb a "index" X.env (eval a X.env)=eval a X.env:=by rfl) (hline:(apos.endLine == cpos.line)=ZC:=by rfl):cJ X (.Call (.Attribute a "index" apos) [b] [] cpos) (oL eJ fa fb):=by
 have hs:NF [b] X.env=(ZD,eval b X.env)::NF [] X.env:=bh hn;intro bv s σ H Q I ⟨Z,O,E,hq⟩;refine S5 hbase (by rw[hs];rfl) hline rfl (cz (ha bv s σ H _ I (bf E hq)) λv s1 hh_=>?_)
 obtain⟨x,H1,I1,r1,t,rt,s',E',q1⟩:=hh_
 cases t with
 |lst l=>
  obtain⟨c,vs,e1,e2,e3,e4⟩:=Rep.Fk.mp rt;subst e1;obtain rfl:v=Nx c:=r1;obtain⟨h1,h2⟩:=B0 I1 (show RelV (.ref c) (.ref c)from rfl) (.inl ⟨rfl,vs,SqL.of e3⟩)
  refine⟨_,_,Q6,PySem.F.slot_list_index,PySem.F.type_list_index,h1,h2,?_⟩
  rw[hs];refine Rk rfl (QN (PJ (cz (hb bv s1 σ H1 _ I1 (bf (f:=fb) E' q1)) λu s2 ⟨y,H2,I2,r2,t2,rt2,s'',E'',q2⟩=>P3 ?_)))
  unfold eJ at q2
  split at q2
  ·rename_i l' heq
   cases heq
   split at q2
   ·rename_i hd3
    obtain⟨hd,hnx,hny⟩:=hd3
    split at q2
    ·rename_i k hk
     have rv:=Rep.val I2 (show(T.lst l).nd=ZC by unfold T.nd;exact hny) (rt.same s'') (show RelV (.ref c) (.ref c)from rfl)
     unfold ReV at rv;obtain⟨c',us,ec,hl,rs⟩:=rv;cases ec;obtain⟨⟨cls,dd,data,sl⟩,ho,hc,n,hdd⟩:=id hl;simp only at hc hdd;subst hc hdd;obtain⟨e,he,ha⟩:=C6 (A:=X.A.in1) (Rep.val I2 hnx rt2 r2) (by show X.A.units+1+60<cLine;omega) hd rs
     obtain⟨_,k1,k2⟩:=qm hk;rw[Tc]at k1 k2;rw[<-ha]at k1 k2
     have hkl:k<us.length:=by have:=(Nu.mp k1).1;rwa [Nc]at this
     have hz:us.length<=ZI:=by
      have z:=(I2.Mc (s'' _ _ e3)).1
      have h3:=rs.length
      have h4:=e4.length;omega
     refine RP F.slot_list_index ⟨_,ho,rfl⟩ F.entry_list_index (F.args_list_index_2 _ _) (list_indexAt c us.toArray n dd sl u e k (by simpa using hkl) (by rw[ON]at hz;omega) ?_ ?_) ⟨ho,λy hy=>he y (by simpa using hy),?_⟩
     ·have:=(Nu.mp k1).2
      rw[RF]at this
      simpa using this
     ·intro m hm hmk
      have:=(Nu.mp (k2 m hmk)).2
      rw[RF]at this
      simpa using this
     ·exact⟨.int _,H2,I2.tok _,⟨_,rfl⟩,q2 H2 (Same.refl H2) _ (Rep.GE _)⟩
    ·exact q2.elim
   ·exact q2.elim
  ·rename_i hno
   exact(hno l rfl).elim
 |_=>exact q1.elim
def Iz(hu:X.A.units+1<cLine)(ha:cJ X a fa)(hb:cJ X b fb)(hn:bN b=ZC:=by rfl)
  (hbase:Pb a "get" X.env (eval a X.env)=eval a X.env:=by rfl) (hline:(apos.endLine == cpos.line)=ZC:=by rfl):cJ X (.Call (.Attribute a "get" apos) [b] [] cpos) (oD jA fa fb):=by
 have hs:NF [b] X.env=(ZD,eval b X.env)::NF [] X.env:=bh hn;refine PE.imp (CL hu ha hb ⟨hbase,by rw[hs];rfl,hline,by rw[hs];rfl⟩) λσ H Q ⟨Z,O,E,hq⟩=>?_
 obtain⟨Z1,O1,E1,h1⟩:=bf E hq;refine⟨Z1,O1,E1,Post.mono h1 λt H1 s1 q v r=>?_⟩
 obtain⟨t',r',s',E',q'⟩:=q v r
 cases t' with
 |dct ks vs=>
  obtain⟨c,kvs,e1,e2,e3,e4,e5⟩:=Rep.Gc.mp r';refine⟨c,e1,.inr ⟨kvs,e3⟩,?_⟩
  obtain⟨Z2,O2,E2,h2⟩:=bf (f:=fb) E' q';refine⟨Z2,O2,E2,Post.mono h2 λt2 H2 s2 q2 v2 r2=>?_⟩
  obtain⟨t2',r2',s2',E2',q2'⟩:=q2 v2 r2;unfold jA at q2'
  split at q2'
  ·rename_i ks' vs' k heq hk
   cases heq;obtain⟨b,f1,f2⟩:=gz hk r2'
   have g:=mG (k:=k) e4 (e5.same s2');refine⟨gu kvs k,by rw[f1];exact DGet.MK (Rd.MC (P:=yF) (SameO.of s2') (λz=>z) e3) f2,?_⟩
   cases hx:kO ks vs k with
   |some z=>
    rw[hx]at g q2';obtain⟨w,g1,g2⟩:=g;rw[g1]
    exact q2' H2 (Same.refl H2) w g2
   |none=>
    rw[hx]at g q2';rw[g];exact q2' H2 (Same.refl H2) .non Rep.Mv
  ·exact q2'.elim
 |_=>exact q'.elim
def IV(hu:X.A.units+1<cLine):OpT X (Og .In) D9:=by
 intro bv s σ H O x y vx vy ux uy Q I hf rx ry r1 r2 hp;unfold D9 at hp
 split at hp
 ·rename_i ks vs k hk
  obtain⟨c,kvs,e1,e2,e3,e4,e5⟩:=Rep.Gc.mp ry;obtain⟨b,f1,f2⟩:=gz hk rx;subst e1 f1;obtain rfl:uy=Nx c:=r2
  have g:=mG (k:=k) e4 e5
  have hsome:(kO ks vs k).isSome=(gu kvs k).isSome:=by
   cases hx:kO ks vs k with
   |some z=>rw[hx]at g;obtain⟨w,g1,_⟩:=g;rw[g1];rfl
   |none=>rw[hx]at g;rw[g];rfl
  refine d_in hu I (DGet.MK e3 f2) r1 λs' I'=>⟨.bl _,H,I',rfl,?_⟩
  rw[<-hsome];exact hp H (Same.refl H) _ (Rep.bl_ _)
 ·exact hp.elim
end
section
variable {c:ZG}{fc:V5}{pos p2 p3 p4:Pos}{x:Str}
def HK(X:Cx):TE:=λ_ H Q=>∀p,Nw X.K H p->Q (.ref p) (upd H p (.dT []))
def CJ:PE X (.Dict [] [] pos) (HK X):=λbv s σ H Q I h=>by
 have hk:X.K.lookup s.heap.objs.size=ZB:=by
  cases q:X.K.lookup s.heap.objs.size with
  |none=>rfl
  |some o=>exact absurd (Np (I.kIn _ o q)) (NK _)
 exact wpAny_Dict_empty ⟨.ref s.heap.objs.size,_,I.laid (a:=s.heap.objs.size) (o:=.dT []) (t':=s.toks) (λ_ _ q=>M8 _ q) (Nr _) (qw s.heap I.big),rfl,h _ ⟨I.hok.fresh (Nr _),hk⟩⟩
def Cp(i:Nat)(hN:X.N.Nodup)(hi:X.N[i]?=ZA x:=by rfl)(hx:autoParam (Loc X.env.scope x) x_)(hs:Ov (.Dict [] [] p2) (ZA (.Name x p3)) pos.line X.env=pure ZD:=by rfl)
  (hf:autoParam (X.fn x=ZC\/X.env.scope.names.lookup x=ZA .local) r_):qG X (.Assign [.Name x p3] (.Dict [] [] p2) pos) (tQ i):=PS.imp (ph hN hi hx CJ hs hf) λD σ H hh_=>by
 obtain⟨Z,B,M,E,h⟩:=hh_;unfold tQ at h;intro p hp
 by_cases hl:i<Z.length
 ·rw[if_pos hl]at h
  have hm:∀a,a=p->Nw X.K H a:=λa z=>z▸hp
  obtain⟨E2,sub⟩:=E.new (m:=λa=>a=p) (o:=.dct [] []) (v:=.ref p) (H':=upd H p (.dT [])) hl hm (aV hp.1 _) ⟨p,[],rfl,λb=>Ro,aI,rfl,Reps.nil_⟩
  exact h _ _ _ (SameO.of (aV hp.1 _)) E2 sub
 ·rw[if_neg hl]at h
  exact h.elim
def Ig(i:Nat)(hu:X.A.units+1<cLine)(hb:cJ X b fb)(hc:cJ X c fc)(hN:X.N[i]?=ZA x:=by rfl)(hv:autoParam (vo X.env.scope x) u_)
  (hd:autoParam ((x == ("__debug__" : Str))=ZD) s_) (hcd:autoParam ((x == ("__classdict__" : Str))=ZD) s_)
  (hs:Ov c (ZA (.Subscript (.Name x p2) b p3)) pos.line X.env=pure ZD:=by rfl):qG X (.Assign [.Subscript (.Name x p2) b p3] c pos) (qT i fb fc):=by
 intro bv s σ H D I ⟨Z,B,M,E,h⟩;refine zI hu (jO hN hv hd hcd) hb hc hs bv s σ H D I ?_
 unfold qT at h
 split at h
 ·rename_i ks vs hl
  obtain⟨v0,e1,d,kvs,rfl,hM,e3,e4,e5⟩:=E.env.own i _ hl;obtain⟨nd,nz⟩:=xJ I e3;refine⟨Z,OO B M,E.o,?_⟩
  cases q:fc Z with
  |bad=>rw[q]at h;exact h.elim
  |err c=>rw[q]at h;exact PostF.xa h
  |ok vT=>
   rw[q,aF]at h;intro H1 s1 v r;refine⟨.ref d,e1,Z,OO B M,(E.same s1).o,?_⟩
   have h1:=h.later (SameO.of s1) (P1:=M.u) λa z=>.inl z
   cases q2:fb Z with
   |bad=>rw[q2]at h1;exact h1.elim
   |err c=>rw[q2]at h1;exact PostF.xa h1
   |ok kT=>
    rw[q2,aF]at h1;intro H2 s2 y ry
    cases q3:keyOf kT with
    |none=>rw[q3]at h1;exact h1.elim
    |some k=>
     rw[q3]at h1
     have h2:=h1.later (SameO.of s2) (P1:=M.u) λa z=>.inl z
     have hlen:ks.length=kvs.length:=by have:=congrArg OE e4;simpa using this
     by_cases hz:ks.length<1000
     ·simp only[if_pos hz]at h2
      obtain⟨kb,f1,f2⟩:=gz q3 ry
      have e3':=s2 _ _ (s1 _ _ e3);obtain⟨g1,g2⟩:=mF q3 (r.same s2) e4 ((e5.same s1).same s2) nd;refine⟨d,upd H2 d (.dT (cF kvs k v)),rfl,by rw[f1];exact DPut.t e3' f2 (by rw[ON];omega),?_⟩
      have sm:SameO (M i) H2 (upd H2 d (.dT (cF kvs k v))):=λc u e nb=>by rw[aG (λz=>nb ((hM c).mpr z))];exact e
      obtain⟨g3,g4⟩:=((E.same s1).same s2).put (o':=.dct (gA kT vT ks vs).1 (gA kT vT ks vs).2) hl e1 sm ⟨d,_,rfl,hM,aI,g1,g2.move (P:=M i) (λa z=>.inl (.inr ⟨i,z⟩)) (λa z=>.inl z) sm⟩
      exact h2 σ _ M g4 g3 λc z=>.inl z
     ·simp only[if_neg hz]at h2
      exact h2.elim
 ·exact h.elim
theorem vG{k:List Key}:∀{kvs:List (List Key×V)}{as:List ZE}{v:V},kvs.map (·.2)=as.map V.ref->gu kvs k=ZA v->∃b∈as,v=.ref b
 |[],as,v,_,h=>by cases h
 |p::kvs,as,v,e,h=>by
  cases as with
  |nil=>cases e
  |cons b0 bs=>
   rw[Nd,Nd]at e;injection e with e1 e2
   by_cases hk:p.1=k
   ·rw[fV hk]at h
    cases h;exact⟨b0,Nb,e1⟩
   ·rw[fW hk]at h
    obtain⟨b,hb,e⟩:=vG e2 h;exact⟨b,Na _ hb,e⟩
theorem wg{k:List Key}{r:List T×List T}:∀{ks:List T}{rows:List (List T×List T)}{kvs:List (List Key×V)}{as:List ZE},ks.map keyOf=kvs.map (λp=>ZA p.1)->kvs.map (·.2)=as.map V.ref->RowsR K O H rows as->qV ks rows k=ZA r →
  ∃b kv,gu kvs k=ZA (.ref b)/\b∈as/\H b=ZA (.dT kv)/\r.1.map keyOf=kv.map (λp=>ZA p.1)/\Reps K O H r.2 (kv.map (·.2))
 |[],rows,kvs,as,h1,h2,h3,h=>by unfold qV at h;cases h
 |k'::ks,rows,kvs,as,h1,h2,h3,h=>by
  cases rows with
  |nil=>unfold qV at h;cases h
  |cons r0 rows=>
   cases kvs with
   |nil=>cases h1
   |cons p kvs=>
    rw[Nd,Nd]at h1;injection h1 with h1 h1'
    obtain⟨b0,bs,kv0,rfl,e2,e3,e4,e5⟩:=h3;rw[Nd,Nd]at h2;injection h2 with h2 h2'
    unfold qV at h
    by_cases hk:keyOf k'=ZA k
    ·rw[if_pos hk]at h
     cases h;rw[h1]at hk;injection hk with hk
     exact⟨b0,kv0,by rw[fV hk,h2],Nb,e2,e3,e4⟩
    ·rw[if_neg hk]at h
     have hk2:¬ p.1=k:=λz=>hk (by rw[h1,z])
     obtain⟨b,kv,g1,g2,g3⟩:=wg h1' h2' e5 h;exact⟨b,kv,by rw[fW hk2];exact g1,Na _ g2,g3⟩
theorem v5{H':Hp}{k:List Key}{xr:List T×List T}{b:ZE}{kv':List (List Key×V)}(hO:O b)(hS:SameO (λc=>c=b) H H')(hb:H' b=ZA (.dT kv'))(hx1:xr.1.map keyOf=kv'.map (λp=>ZA p.1))(hx2:Reps K O H' xr.2 (kv'.map (·.2))):
  ∀{ks:List T}{rows:List (List T×List T)}{kvs:List (List Key×V)}{as:List ZE},ks.map keyOf=kvs.map (λp=>ZA p.1)->kvs.map (·.2)=as.map V.ref->RowsR K O H rows as->as.Nodup->gu kvs k=ZA (.ref b)->RowsR K O H' (qU k xr ks rows) as
 |[],rows,kvs,as,h1,h2,h3,hn,h=>by
  cases kvs with
  |nil=>cases h
  |cons _ _=>cases h1
 |k'::ks,rows,kvs,as,h1,h2,h3,hn,h=>by
  have inO:∀a,a=b->O a\/Nw K H a:=λa z=>.inl (z▸hO)
  cases kvs with
  |nil=>cases h1
  |cons p kvs=>
   rw[Nd,Nd]at h1;injection h1 with h1 h1'
   cases rows with
   |nil=>unfold RowsR at h3;subst h3;cases h2
   |cons r0 rows=>
    obtain⟨b0,bs,kv0,rfl,e2,e3,e4,e5⟩:=h3;rw[Nd,Nd]at h2;injection h2 with h2 h2'
    obtain⟨n1,n2⟩:=NP.mp hn;unfold qU
    by_cases hk:keyOf k'=ZA k
    ·rw[if_pos hk]
     rw[h1]at hk;injection hk with hk
     rw[fV hk,h2]at h;cases h;exact⟨b,bs,kv',rfl,hb,hx1,hx2,e5.move (P:=λc=>c=b) inO (λa z=>.inl z) hS λc hc z=>n1 (z▸hc)⟩
    ·rw[if_neg hk]
     have hk2:¬ p.1=k:=λz=>hk (by rw[h1,z])
     rw[fW hk2]at h;obtain⟨b',hb',e'⟩:=vG h2' h;cases e'
     have hne:b0≠b:=λz=>n1 (z▸hb')
     exact⟨b0,bs,kv0,rfl,hS _ _ e2 hne,e3,e4.move (P:=λc=>c=b) inO (λa z=>.inl z) hS,v5 hO hS hb hx1 hx2 h1' h2' e5 n2 h⟩
def Fj(i:Nat)(hu:X.A.units+1<cLine)(ha:cJ X a fa)(hb:cJ X b fb)(hc:cJ X c fc)(hsl:autoParam (vp a) w_)(hN:X.N[i]?=ZA x:=by rfl)(hv:autoParam (vo X.env.scope x) u_)
  (hd:autoParam ((x == ("__debug__" : Str))=ZD) s_) (hcd:autoParam ((x == ("__classdict__" : Str))=ZD) s_)
  (hs:Ov c (ZA (.Subscript (.Subscript (.Name x p2) a p3) b p4)) pos.line X.env=pure ZD:=by rfl):qG X (.Assign [.Subscript (.Subscript (.Name x p2) a p3) b p4] c pos) (jv i fa fb fc):=by
 intro bv s σ H D I ⟨Z,B,M,E,h⟩;refine zI hu (t9 hu (jO hN hv hd hcd) ha hsl) hb hc hs bv s σ H D I ?_
 unfold jv at h
 split at h
 ·rename_i ks rows hl
  obtain⟨v0,e1,d,kvs,as,rfl,hM,na,nas,e5,e6,e7,e8⟩:=E.env.own i _ hl;refine⟨Z,OO B M,E.o,?_⟩
  cases q:fc Z with
  |bad=>rw[q]at h;exact h.elim
  |err c=>rw[q]at h;exact PostF.xa h
  |ok vT=>
   rw[q,aF]at h;intro H1 s1 v r;refine⟨.ref d,e1,Z,OO B M,(E.same s1).o,?_⟩
   have h1:=h.later (SameO.of s1) (P1:=M.u) λa z=>.inl z
   cases q2:fa Z with
   |bad=>rw[q2]at h1;exact h1.elim
   |err c=>rw[q2]at h1;exact PostF.xa h1
   |ok aT=>
    rw[q2,aF]at h1;intro H2 s2 y ry
    have h2:=h1.later (SameO.of s2) (P1:=M.u) λa z=>.inl z
    have E2:=(E.same s1).same s2
    have s12:=s1.trans s2
    split at h2
    ·rename_i ka rr hk
     obtain⟨ka',q3,hk⟩:=Option.bind_eq_some_iff.mp hk;obtain⟨r',q4,hk⟩:=OG.mp hk;cases hk;obtain⟨rb,kv,g1,g2,g3,g4,g5⟩:=wg e6 e7 e8 q4;obtain⟨ndr,nzr⟩:=xJ I g3;obtain⟨ab,f1,f2⟩:=gz q3 ry;refine⟨d,.ref rb,rfl,by rw[f1,<-g1];exact DGet.t (s12 _ _ e5) f2,Z,OO B M,E2.o,?_⟩
     cases q5:fb Z with
     |bad=>rw[q5]at h2;exact h2.elim
     |err c=>rw[q5]at h2;exact PostF.xa h2
     |ok bT=>
      rw[q5,aF]at h2;intro H3 s3 y2 ry2
      have h3:=h2.later (SameO.of s3) (P1:=M.u) λa z=>.inl z
      have s13:=s12.trans s3
      have E3:=E2.same s3
      have hlen:rr.1.length=kv.length:=by have:=congrArg OE g4;simpa using this
      by_cases hz:(keyOf bT).isSome=ZC/\rr.1.length<1000
      ·rw[if_pos hz]at h3
       obtain⟨kb,q6⟩:=P4.mp hz.1;obtain⟨bb,f3,f4⟩:=gz q6 ry2;obtain⟨u1,u2⟩:=mF q6 ((r.same s2).same s3) g4 (g5.same s13) ndr;refine⟨rb,upd H3 rb (.dT (cF kv kb v)),rfl,by rw[f3];exact DPut.t (s13 _ _ g3) f4 (by rw[ON];omega),?_⟩
       have mrb:M i rb:=(hM rb).mpr (.inr g2)
       have hOb:OO B M rb:=.inr ⟨i,mrb⟩
       have sm1:SameO (λc=>c=rb) H3 (upd H3 rb (.dT (cF kv kb v))):=λc u e nb=>by rw[aG nb];exact e
       have sm:SameO (M i) H3 (upd H3 rb (.dT (cF kv kb v))):=λc u e nb=>sm1 c u e λz=>nb (z▸mrb)
       have inO:∀a,a=rb->OO B M a\/Nw X.K H3 a:=λa z=>.inl (z▸hOb)
       have dne:d≠rb:=λz=>na (z▸g2)
       obtain⟨g6,g7⟩:=E3.put (o':=.dd ks (qU ka (gA bT vT rr.1 rr.2) ks rows)) hl e1 sm ⟨d,kvs,as,rfl,hM,na,nas,sm1 _ _ (s13 _ _ e5) dne,e6,e7,v5 hOb sm1 aI u1 (u2.move (P:=λc=>c=rb) inO (λa z=>.inl z) sm1) e6 e7 (e8.same s13) nas g1⟩
       exact h3 σ _ M g7 g6 λc z=>.inl z
      ·rw[if_neg hz]at h3
       exact h3.elim
    ·exact h2.elim
 ·exact h.elim
end
end Tr
namespace PySem
open Sem (wp)
namespace F
def lk_list_keys:P9 (.type "list") "keys" =pure ZB:=by rw[QB,Ph];kernel_rfl
def lk_list_getattr:P9 (.type "list") "__getattr__" =pure ZB:=by rw[QB,Ph];kernel_rfl
end F
variable{tk:Tok}
section
variable {h:ZH}{g:Array GenState}{d:Drawn}{t:Nat}{os:OsState}{a:ZE}{its:Array Nf}
def n8{Q:Fin->Ng->Prop}(hx:h.get? a=ZA {cls:=.type "list",data:=.seq its n})(hh:A.handled=ZB)
  (hq:∀h' tk' e,RV h h' e (.ref a) "keys"->E (.ref e) ⟨h',g,d,tk',os⟩):
  ZJ (ZK prog w) A (Builtin.«object.__getattribute__» ⟨[.ref a,.str "keys" tk],[]⟩) Q E ⟨h,g,d,t,os⟩:=by
 have hT:(⟨h,g,d,t,os⟩:Ng).TypeIs (.ref a) "list":=⟨_,hx,rfl⟩
 have f4:=F.lk_list_keys
 repeat (any_goals (first|assumption|wp_step))
 exact TX hh (λh' tk e hx=>hq h' tk e hx) (attrMsg_fits (by decide+kernel) (by rw[ON];decide))
def p7(hx:h.get? a=ZA {cls:=.type "list",data:=.seq its n})(hh:A.handled=ZB)
  (hq:∀h' tk' e,RV h h' e (.ref a) "keys"->R (.error (.ref e)) ⟨h',g,d,tk',os⟩):
  ZL (ZK prog w) A (.call (.builtin "list.__getattribute__") ⟨[.ref a,.str "keys" tk],[]⟩) R ⟨h,g,d,t,os⟩:=
 TY P8.plain F.entry_list_ga (P8.check _ _ _ _ _ _ _ _ (show(⟨h,g,d,t,os⟩:Ng).TypeIs (.ref a) "list" from⟨_,hx,rfl⟩) (F.args_list_getattribute_2 _ _) (n8 hx hh hq))
def p8{Q:Option Nf->Ng->Prop}(hx:h.get? a=ZA {cls:=.type "list",data:=.seq its n})(hh:A.handled=ZB)
  (hq:∀h' tk',(∀b o,h.get? b=ZA o->h'.get? b=ZA o)->Q ZB ⟨h',g,d,tk',os⟩):ZJ (ZK prog w) A (getAttr? (.ref a) "keys") Q E ⟨h,g,d,t,os⟩:=by
 have hT:∀tk,(⟨h,g,d,tk,os⟩:Ng).TypeIs (.ref a) "list":=λ_=>⟨_,hx,rfl⟩
 have f1:=UE
 have f2:=P8.lookup
 have f3:=P8.bind (.ref a)
 have f5:=F.lk_list_getattr;unfold getAttr? getAttrBy? getAttrBy
 repeat (any_goals (first|assumption|exact hT _|wp_step))
 refine p7 hx hh λh' tk' e hx'=>?_
 obtain⟨t',u',he⟩:=hx'.there
 repeat (any_goals (first|assumption|exact hT _|wp_step))
 exact hq _ _ hx'.keeps
end
end PySem
namespace PySem.F
def entry_dict_update_loop:entryFor table "dict.update.loop" =ZA Builtin.«dict.update.loop»:=entryFor_of_tree (by kernel_rfl)
def plain_dict_update_loop:plainId "dict.update.loop" =ZC:=by decide+kernel
end PySem.F
variable{Q:Option Nat->RX->Prop}
namespace Tr
open PySem PySem.Spec PyProof.Rows L2
def et(kvs:List (List Key×V)):List (List Key×V)->List (List Key×V)
 |[] =>kvs
 |p::ps=>et (cF kvs p.1 p.2) ps
def PairsAt(H:Hp):List V->List (List Key×V)->Prop
 |[],ps=>ps=[]
 |x::xs,ps=>∃b kb p r,ps=p::r/\x=.ref b/\H b=ZA (.tup [.ref kb,p.2])/\H kb=ZA (.tup (p.1.map kV))/\PairsAt H xs r
variable{H:Hp}{d:ZE}{kvs:List (List Key×V)}
theorem PairsAt.upd{o:HO}(hd:H d=ZA (.dT kvs)):∀{xs:List V}{ps:List (List Key×V)},PairsAt H xs ps->PairsAt (L2.upd H d o) xs ps
 |[],_,h=>h
 |x::xs,_,⟨b,kb,p,r,e1,e2,e3,e4,e5⟩=>⟨b,kb,p,r,e1,e2,by rw[aG (jV e3 hd (λz=>nomatch z))];exact e3,by rw[aG (jV e4 hd (λz=>nomatch z))];exact e4,e5.upd hd⟩
def iX{a b:HO}:upd (upd H d a) d b=upd H d b:=by
 funext c
 by_cases h:c=d
 ·rw[h,aI,aI]
 ·rw[aG h,aG h,aG h]
variable{X:Cx}{bv:V2}{xs:List V}{σ:L2.St}
section
variable {R:VL->Ng->Prop}{l it:ZE}
def Bq(hh:A.handled=ZB)(hu:A.units+3<cLine):∀(k i:Nat)(s:Ng)(H:Hp)(kvs ps:List (List Key×V)),xs.length - i=k->i<=xs.length->H l=ZA (.lst xs)->H d=ZA (.dT kvs)->kvs.length+(xs.length - i)<=1000->Inv X bv σ H s->s.heap.IsListIter it l i->mK X bv H it->PairsAt H (xs.drop i) ps →
  (∀s',Inv X bv σ (upd H d (.dT (et kvs ps))) s'->R (.ok (.ret res)) s')->ZL (ZK X.prog X.w) A (.builtin "dict.update.loop" ⟨[.ref d,.ref it,rawInt i,res],[]⟩) R s:=by
 intro k
 induction k with
 |zero=>
  intro i s H kvs ps hk hi hl hd hz I hit hf hp hR;refine PB F.entry_dict_update_loop ?_
  rw[OM F.plain_dict_update_loop _];obtain⟨z,its,n,r,hlen,e⟩:=I.Mc hl
  have hL:s.heap.IsList l its.toArray:=⟨_,e,rfl,n,rfl⟩
  show ZJ _ A.in1 (pyNext (.ref it) >>= _) _ _ s
  refine M7 (Ts hh hit hL (by simp;omega) λh' hm=>?_)
  show ZJ _ _ (So d [] >>= _) _ _ _
  refine M7 (Nh (Nh ?_))
  have hnil:xs.drop i=[]:=Qs (by omega)
  rw[hnil]at hp;unfold PairsAt at hp;subst hp
  have e2:upd H d (.dT (et kvs []))=H:=by
   funext b
   by_cases hb:b=d
   ·rw[hb,aI,hd];rfl
   ·rw[aG hb]
  rw[e2]at hR
  exact hR _ (I.KB (fp:=[it]) (t':=s.toks) (λb hb=>by rw[Ny.mp hb];exact hf) λb o hb eb=>hm b o (λz=>hb (by rw[z];exact Ny.mpr rfl)) eb)
 |succ k ih=>
  intro i s H kvs ps hk hi hl hd hz I hit hf hp hR;refine PB F.entry_dict_update_loop ?_
  rw[OM F.plain_dict_update_loop _];obtain⟨z,its,n,r,hlen,e⟩:=I.Mc hl
  have hL:s.heap.IsList l its.toArray:=⟨_,e,rfl,n,rfl⟩
  have hlt:i<xs.length:=by omega
  have hlt':i<its.length:=by omega
  show ZJ _ A.in1 (pyNext (.ref it) >>= _) _ _ s
  refine M7 (S3 hit hL (x:=its[i]) (by simp[hlt']) λh' hit' hm=>?_)
  have I1:Inv X bv σ H {s with heap:=h'}:=I.KB (fp:=[it]) (t':=s.toks) (λb hb=>by rw[Ny.mp hb];exact hf) λb o hb eb=>(hm.2 b (λz=>hb (by rw[z];exact Ny.mpr rfl))).trans eb
  have hdrop:xs.drop i=xs[i] ::xs.drop (i+1):=O9 hlt;rw[hdrop]at hp;obtain⟨b,kb,p,r',rfl,ex,hb,hkb,hp'⟩:=hp
  have rx:RelV xs[i] its[i]:=by
   obtain⟨u,q1,q2⟩:=r.get (Nk hlt)
   rw[Nk hlt']at q1
   cases q1;exact q2
  rw[ex]at rx
  have eu:its[i]=Nx b:=rx;rw[eu];obtain⟨z2,its2,r2,ob,hob1,hob2,nb,hob3⟩:=(show ObjOk X.prog X.w H h' b (.tup [.ref kb,p.2])from I1.hok b _ hb)
  obtain⟨u1,us1,q1,rfl⟩:∃u1 us1,RelV (V.ref kb) u1/\its2=u1::us1:=by cases r2 with|cons a b=>exact⟨_,_,a,rfl⟩
  cases r2 with
  |cons ra rb=>
   obtain⟨u2,q2,rfl⟩:∃u2,RelV p.2 u2/\us1=[u2]:=by cases rb with|cons a b=>cases b;exact⟨_,a,rfl⟩
   obtain rfl:u1=Nx kb:=q1
   show ZJ _ A.in1 (holding [Nx b] _ >>= _) _ _ _
   refine M7 (OA ?_)
   refine M7 (wpAny_tryCatch ?_)
   unfold S1;refine M7 (Qe (s:={s with heap:=h'}) (T:="tuple") ⟨ob,hob1,hob2⟩ ?_)
   rw[if_pos (by decide)]
   refine M7 (Oc (s:={s with heap:=h'}) hob1 hob3 (Nh ?_))
   show ZJ _ _ (holding [Nx kb,u2] (dictSet d (.ref kb) u2)) _ _ _
   refine OA ?_
   obtain⟨zz,hds,xs2,rel,dd⟩:=Aq I1.hok hd
   have hzl:xs2.length<=ZI:=by rw[<-Q7 rel];exact zz
   have hkl:kvs.length<ZI:=by rw[ON];omega
   have hl2:(cF kvs p.1 p.2).length<=ZI:=by have:=dU kvs p.1 p.2;omega
   refine UF (hsz:=hzl) (PP (by show A.units+1<cLine;omega)) (key_of I1.hok hkb) dd λh2 dd2 hs2=>?_
   obtain⟨q,es,ep,hq,h22,h3,h4,_,h5⟩:=dd2
   have I2:Inv X bv σ (upd H d (.dT (cF kvs p.1 p.2))) {s with heap:=h2,toks:=s.toks+(RC (cj X.prog X.w)).draws p.1}:=
    kJ (s:={s with heap:=h'}) I1 (by rw[hd];exact Pw) hs2 ⟨q,hq⟩ ⟨hl2,hds,_,(rel.put p.1 hkb q2).keeps λc ys ec=>by rw[aG (jV ec hd (λz=>nomatch z))];exact ec,q,es,ep,hq,h22,h3,h4,h5⟩
   have hld:l≠d:=jV hl hd (λz=>nomatch z)
   have hitd:it≠d:=λz=>by have:=hf.1;rw[z,hd]at this;cases this
   have hcast:(i:Int)+1=((i+1:Nat):Int):=by omega
   refine Nh ⟨Qm F.plain_dict_update_loop _,?_⟩
   rw[hcast];refine ih (i+1) _ (upd H d (.dT (cF kvs p.1 p.2))) (cF kvs p.1 p.2) r' (by omega) (by omega) (by rw[aG hld];exact hl) aI (by have:=dU kvs p.1 p.2;omega) I2 ?_ ⟨by rw[aG hitd];exact hf.1,hf.2⟩ (hp'.upd hd) λs' I'=>?_
   ·obtain⟨oi,ho1,ho2,ho3⟩:=hit'
    exact⟨oi,(hs2.2 it hitd).trans ho1,ho2,ho3⟩
   ·rw[iX]at I'
    exact hR s' I'
end
theorem PairsAt.same{H':Hp}(s:Same H H'):∀{xs:List V}{ps:List (List Key×V)},PairsAt H xs ps->PairsAt H' xs ps
 |[],_,h=>h
 |x::xs,_,⟨b,kb,p,r,e1,e2,e3,e4,e5⟩=>⟨b,kb,p,r,e1,e2,s _ _ e3,s _ _ e4,e5.same s⟩
section
variable {l:ZE}{ps:List (List Key×V)}
def xI{Q:V1}(hh:A.handled=ZB)(hu:A.units+8<cLine)(I:Inv X bv σ H s)(hl:H l=ZA (.lst xs))(hz:xs.length<=1000)(hp:PairsAt H xs ps)
  (h:∀p s',Nw X.K H p->Inv X bv σ (upd H p (.dT (et [] ps))) s'->Q (.ref p) s'):ZJ (ZK X.prog X.w) A (call (.type "dict") [.ref l]) Q E s:=by
 have hk:X.K.lookup s.heap.objs.size=ZB:=by
  cases q:X.K.lookup s.heap.objs.size with
  |none=>rfl
  |some o=>exact absurd (Np (I.kIn _ o q)) (NK _)
 have hn:H s.heap.objs.size=ZB:=I.hok.fresh (Nr _)
 have hlp:l≠s.heap.objs.size:=λz=>by rw[z,hn]at hl;cases hl
 refine callType_codes (Q₁:=λobj s₁=>obj=.ref s.heap.objs.size/\s₁= {s with heap:=s.heap.push {cls:=.type "dict",data:=.dict #[]}}) Vj (TQ _) UP (Vq _ ⟨rfl,rfl⟩) ?_
 rintro obj s₁ ⟨rfl,rfl⟩
 have I1:Inv X bv σ (upd H s.heap.objs.size (.dT [])) {s with heap:=s.heap.push {cls:=.type "dict",data:=.dict #[]}}:=I.laid (a:=s.heap.objs.size) (o:=.dT []) (t':=s.toks) (λ_ _ q=>M8 _ q) (Nr _) (qw s.heap I.big)
 have hT:({s with heap:=s.heap.push {cls:=.type "dict",data:=.dict #[]}}:Ng).TypeIs (.ref s.heap.objs.size) "dict":=⟨_,Nn _ rfl,rfl⟩
 have hl1:upd H s.heap.objs.size (.dT []) l=ZA (.lst xs):=by rw[aG hlp];exact hl
 obtain⟨z,its,n,r,hlen,e⟩:=I1.Mc hl1;refine⟨hT,Uo _ _,?_⟩
 unfold Builtin.«dict.__init__»;refine M7 ?_
 unfold Sq;refine M7 (RD hT ?_)
 show ZJ _ _ (pure (s.heap.objs.size,[Nx l])) _ _ _
 refine Nh ?_
 show ZJ _ _ (Qg "dict.__init__" s.heap.objs.size (.ref l) [] .none) _ _ _
 unfold Qg;refine M7 (Qe (T:="list") ⟨_,e,rfl⟩ ?_)
 rw[if_pos (by decide)]
 refine M7 (p8 e hh λh' tk' kp=>?_)
 have I2:Inv X bv σ (upd H s.heap.objs.size (.dT [])) {s with heap:=h',toks:=tk'}:=I1.kept (t':=tk') kp
 rw[if_pos (by rfl)]
 refine M7 (Qa ?_)
 have eL:({s with heap:=h',toks:=tk'}:Ng).heap.IsList l its.toArray:=⟨_,kp _ _ e,rfl,n,rfl⟩
 refine M7 (QK eL ?_)
 have I3:Inv X bv σ (upd H s.heap.objs.size (.dT [])) {s with heap:=h'.push {cls:=.type "list_iterator",data:=.fields #[.ref l,.int 0 0]},toks:=tk'}:=I2.kept (t':=tk') λb u q=>M8 _ q
 have hpl:s.heap.objs.size<h'.objs.size:=Np (kp _ _ (Nn _ rfl))
 have hni:upd H s.heap.objs.size (.dT []) h'.objs.size=ZB:=by
  rw[aG (Qd hpl)];exact I.hok.fresh (OV hpl)
 have hp1:PairsAt (upd H s.heap.objs.size (.dT [])) xs ps:=hp.same (aV hn _);refine Nh ⟨Qm F.plain_dict_update_loop _,?_⟩
 refine Bq (A:=A.in1) (X:=X) (bv:=bv) (σ:=σ) (l:=l) (xs:=xs) (it:=h'.objs.size) hh (by show A.units+1+3<cLine;omega) xs.length 0 _ (upd H s.heap.objs.size (.dT [])) [] ps (by omega) (OF _) hl1 aI (by simp;omega) I3 ⟨_,Nn _ rfl,rfl,rfl⟩ (I2.Mi (Nr _) hni) hp1 λs' I'=>?_
 rw[iX]at I';exact⟨rfl,h _ _ ⟨hn,hk⟩ I'⟩
end
def LY{k:Nat}(h:Room k A):A.units+8<cLine:=by have:=h.un;omega
def yE{k:List Key}{v:V}(h:(kvs.map (·.1)).Nodup):((cF kvs k v).map (·.1)).Nodup:=by
 unfold cF
 by_cases a:(kvs.any λkv=>decide (kv.1=k))=ZC
 ·rw[if_pos a,N3]
  have:((λx=>x.1)∘λkv:List Key×V=>if kv.1=k then(kv.1,v)else kv)=λx=>x.1:=by
   funext x
   show(if x.1=k then(x.1,v)else x).1=x.1
   by_cases e:x.1=k
   ·rw[if_pos e]
   ·rw[if_neg e]
  rw[this];exact h
 ·rw[if_neg a,NR,Ot]
  refine⟨h,by simp,λx hx y hy=>?_⟩
  simp only[Nd,Qv,Ny]at hy;subst hy;intro z;subst z;obtain⟨p,hp,e⟩:=NA.mp hx;exact a (QV.mpr ⟨p,hp,decide_eq_true e⟩)
def LD(K:M9)(O:Ow)(H:Hp):List (T×T)->List (List Key×V)->Prop
 |[],ps=>ps=[]
 |a::l,ps=>∃p r,ps=p::r/\keyOf a.1=ZA p.1/\Rep K O H a.2 p.2/\LD K O H l r
variable{O:Ow}
theorem ng:∀{l:List (T×T)}{ps:List (List Key×V)}{ks ts:List T}{kvs:List (List Key×V)},LD K O H l ps->ks.map keyOf=kvs.map (λp=>ZA p.1)->Reps K O H ts (kvs.map (·.2))->(kvs.map (·.1)).Nodup →
  (gS l (ks,ts)).1.map keyOf=(et kvs ps).map (λp=>ZA p.1)/\Reps K O H (gS l (ks,ts)).2 ((et kvs ps).map (·.2))
 |[],ps,ks,ts,kvs,h,h1,h2,hn=>by unfold LD at h;subst h;exact⟨h1,h2⟩
 | (a,b)::l,ps,ks,ts,kvs,h,h1,h2,hn=>by
  obtain⟨p,r,rfl,e1,e2,e3⟩:=h;obtain⟨g1,g2⟩:=mF (vT:=b) e1 e2 h1 h2 hn
  show(gS l (gA a b ks ts)).1.map keyOf=(et (cF kvs p.1 p.2) r).map (λp=>ZA p.1)/\Reps K O H (gS l (gA a b ks ts)).2 ((et (cF kvs p.1 p.2) r).map (·.2))
  exact ng (l:=l) e3 g1 g2 (yE hn)
theorem zJ:∀{l:List T}{tps:List (T×T)}{xs:List V},J5 l=ZA tps->Reps K O H l xs->∃ps,PairsAt H xs ps/\LD K O H tps ps
 |[],tps,xs,h,r=>by cases Reps.AC.mp r;cases h;exact⟨[],rfl,rfl⟩
 |t::l,tps,xs,h,r=>by
  obtain⟨v,ws,rfl,p,q⟩:=Reps.me.mp r;unfold J5 at h
  split at h
  ·rename_i heq;cases heq
  ·rename_i k v' l' heq
   cases heq
   split at h
   ·rename_i kk rr hk hr
    cases h;obtain⟨ps,g1,g2⟩:=zJ hr q;obtain⟨b,vs,e1,e2,e3,e4⟩:=Rep.Do.mp p;obtain⟨u1,us1,rfl,f1,f2⟩:=Reps.me.mp e4;obtain⟨u2,us2,rfl,f3,f4⟩:=Reps.me.mp f2;cases Reps.AC.mp f4;obtain⟨kb,f5,f6⟩:=gz hk f1;subst f5;exact⟨(kk,u2)::ps,⟨b,kb,(kk,u2),ps,rfl,e1,e3,f6,g1⟩,⟨(kk,u2),ps,rfl,hk,f3,g2⟩⟩
   ·cases h
  ·cases h
section
variable {e:ZG}{f:V5}{x y:Str}{p pos p2 p3:Pos}
def HJ(X:Cx)(f:V5):TE:=λσ H Q=>tP X f σ H λv H'=>∃a xs ps,v=.ref a/\H' a=ZA (.lst xs)/\xs.length<=1000/\PairsAt H' xs ps/\∀q,Nw X.K H' q->Q (.ref q) (upd H' q (.dT (et [] ps)))
def CK(hu:X.A.units+8<cLine)(hc:X.calm=ZC)(hm:X.mg "dict" =ZB)(ha:cJ X e f)(hg:Gl X "dict")(hs:bN e=ZC):PE X (.Call (.Name "dict" p) [e] [] pos) (HJ X f):=by
 have h1:NF [e] X.env=(ZD,eval e X.env)::NF [] X.env:=bh hs;intro bv s σ H Q I hq;refine Oy (fO I hg hm (show N5 "dict" =ZA (.type "dict")by decide+kernel) ?_ (by decide) (by decide))
 refine N1 (cz (ft (te:=tP X f) ha jP h1 pos bv s σ H (λxs H'=>∃v,xs=[v]/\∃a xs ps,v=.ref a/\H' a=ZA (.lst xs)/\xs.length<=1000/\PairsAt H' xs ps/\∀q,Nw X.K H' q->Q (.ref q) (upd H' q (.dT (et [] ps)))) I ?_) λus s1 hh=>?_) h1 rfl
 ·obtain⟨Z,O,E,h⟩:=hq
  exact⟨Z,O,E,Post.mono h λt H' _ g v r=>⟨v,rfl,g v r⟩⟩
 ·obtain⟨vs,H1,I1,r1,v,rfl,a,xs,ps,ev,e1,e2,e3,e4⟩:=hh
  subst ev;obtain⟨u,rfl,ru⟩:=r1.one;obtain rfl:u=Nx a:=ru;exact xI (I1.ok.hd hc) hu I1 e1 e2 e3 λq s' nw I'=>⟨.ref q,_,I',rfl,e4 q nw⟩
def Fo(i:Nat)(hu:X.A.units+8<cLine)(hc:X.calm=ZC)(hm:X.mg "dict" =ZB)(hN:X.N.Nodup)(ha:cJ X e f)(hst:bN e=ZC:=by rfl)(hg:Gl X "dict":=by rfl)(hi:X.N[i]?=ZA x:=by rfl)(hx:autoParam (Loc X.env.scope x) x_)(hs:Ov (.Call (.Name "dict" p) [e] [] p2) (ZA (.Name x p3)) pos.line X.env=pure ZD:=by rfl)
  (hf:autoParam (X.fn x=ZC\/X.env.scope.names.lookup x=ZA .local) r_):qG X (.Assign [.Name x p3] (.Call (.Name "dict" p) [e] [] p2) pos) (rR i f):=PS.imp (ph hN hi hx (CK hu hc hm ha hg hst) hs hf) λD σ H hh_=>by
 obtain⟨Z,B,M,E,h⟩:=hh_;refine⟨Z,OO B M,E.o,?_⟩
 unfold rR at h
 cases q:f Z with
 |bad=>rw[q]at h;exact h.elim
 |err c=>rw[q]at h;exact PostF.xa h
 |ok t=>
  rw[q,aF]at h;intro H1 s1 v r
  have h1:=h.later (SameO.of s1) (P1:=M.u) λa z=>.inl z
  cases t with
  |lst l=>
   obtain⟨a,xs,rfl,e2,e3,e4⟩:=Rep.Fk.mp r;unfold Au at h1
   split at h1
   ·rename_i l' heq
    cases heq
    split at h1
    ·rename_i tps hps
     by_cases hz:l.length<=1000
     ·rw[if_pos hz,aF]at h1
      obtain⟨ps,g1,g2⟩:=zJ hps e4;refine⟨a,xs,ps,rfl,e3,by rw[<-e4.length];exact hz,g1,λnd nw=>?_⟩
      by_cases hl:i<Z.length
      ·simp only[if_pos hl]at h1
       have hm:∀a,a=nd->Nw X.K H1 a:=λa z=>z▸nw
       obtain⟨k1,k2⟩:=ng (ks:=[]) (ts:=[]) (kvs:=[]) g2 rfl Reps.nil_ Pu;obtain⟨E2,sub⟩:=(E.same s1).new (m:=λa=>a=nd) (o:=.dct (gS tps ([],[])).1 (gS tps ([],[])).2) (v:=.ref nd) (H':=upd H1 nd (.dT (et [] ps))) hl hm (aV nw.1 _) ⟨nd,_,rfl,λb=>Ro,aI,k1,(k2.more (Ev.subO hm)).same (aV nw.1 _)⟩
       exact h1 _ _ _ (SameO.of (aV nw.1 _)) E2 sub
      ·simp only[if_neg hl]at h1;exact h1.elim
     ·rw[if_neg hz]at h1;exact h1.elim
    ·exact h1.elim
   ·rename_i hno
    exact(hno l rfl).elim
  |_=>exact h1.elim
end
theorem fM:∀{l:List T}{ns:List Int}{xs:List V}{us:List Nf},dZ l=ZA ns->Reps K O H l xs->Vals xs us->Po us ns
 |[],ns,xs,us,h,r,v=>by cases Reps.AC.mp r;cases v;cases h;exact .nil
 |t::l,ns,xs,us,h,r,v=>by
  obtain⟨w,ws,rfl,p,q⟩:=Reps.me.mp r
  cases v with
  |cons v1 v2=>
   cases t with
   |int i=>
    unfold dZ at h;obtain⟨m,h1,rfl⟩:=OG.mp h;cases Rep.Da.mp p;obtain⟨k,rfl⟩:=v1
    exact .cons _ _ (fM h1 q v2)
   |_=>cases h
theorem r9:∀(l:List Int)(i:Int),gx i l∈i::l/\∀a∈i::l,gx i l<=a
 |[],i=>⟨Nb,λa h=>by cases Ny.mp h;exact O0 _⟩
 |j::l,i=>by
  obtain⟨h1,h2⟩:=r9 l (if j<i then j else i)
  unfold gx
  have h3:=h2 _ Nb;refine⟨?_,λa ha=>?_⟩
  ·rcases Nl.mp h1 with e|e
   ·rw[e]
    by_cases h:j<i
    ·rw[if_pos h];simp
    ·rw[if_neg h];simp
   ·exact Na _ (Na _ e)
  ·rcases Nl.mp ha with rfl|ha
   ·by_cases h:j<a
    ·rw[if_pos h]at h3 ⊢;omega
    ·rw[if_neg h]at h3 ⊢;omega
   ·rcases Nl.mp ha with rfl|ha
    ·by_cases h:a<i
     ·rw[if_pos h]at h3 ⊢;omega
     ·rw[if_neg h]at h3 ⊢;omega
    ·exact h2 a (Na _ ha)
theorem sd:∀(l:List Int)(i:Int),ir i l∈i::l/\∀a∈i::l,a<=ir i l
 |[],i=>⟨Nb,λa h=>by cases Ny.mp h;exact O0 _⟩
 |j::l,i=>by
  obtain⟨h1,h2⟩:=sd l (if i<j then j else i)
  unfold ir
  have h3:=h2 _ Nb;refine⟨?_,λa ha=>?_⟩
  ·rcases Nl.mp h1 with e|e
   ·rw[e]
    by_cases h:i<j
    ·rw[if_pos h];simp
    ·rw[if_neg h];simp
   ·exact Na _ (Na _ e)
  ·rcases Nl.mp ha with rfl|ha
   ·by_cases h:a<j
    ·rw[if_pos h]at h3 ⊢;omega
    ·rw[if_neg h]at h3 ⊢;omega
   ·rcases Nl.mp ha with rfl|ha
    ·by_cases h:i<a
     ·rw[if_pos h]at h3 ⊢;omega
     ·rw[if_neg h]at h3 ⊢;omega
    ·exact h2 a (Na _ ha)
def Eb(hc:X.calm=ZC):CallT X (.builtin "min") uK:=by
 intro bv s σ H O ts vs us Q I hf rs rv hp;unfold uK at hp
 split at hp
 ·rename_i l
  obtain⟨v,rfl,r⟩:=rs.one
  split at hp
  ·rename_i i ns hk
   obtain⟨a,ws,rfl,n,q,z⟩:=Rep.Fk.mp r;obtain⟨u,rfl,ru⟩:=kQ rv;cases ru;obtain⟨its,r',pl,hz⟩:=I.list (SqL.of q)
   have hi:=fM hk z r';obtain⟨xs,e⟩:=hi.allInts.items
   have hns:i::ns=xs.toList.map (·.1):=by rw[<-hi.numsOf,<-nums_intItems,<-e]
   have hl:s.heap.IsList a (intItems xs):=by rw[<-e];exact pl.isList
   have hsz:0<xs.size:=by
    have h3:=congrArg OE hns;rw[Nj,Nc]at h3;rw[<-NX];omega
   refine min_intList (I.ok.hd hc) hl hsz λv h' tk hv hk'=>?_
   obtain⟨t,rfl⟩:=intItems_at hv;obtain⟨h1,h2⟩:=argBest_lt (numAt xs) (xs.size - 1);refine⟨.int _,H,I.kept (t':=tk) hk',⟨_,rfl⟩,?_⟩
   have eM:numAt xs (argBest (λi j=>decide (numAt xs i<numAt xs j)) (xs.size - 1))=gx i ns:=by
    obtain⟨g1,g2⟩:=r9 ns i
    have m1:numAt xs (argBest (λi j=>decide (numAt xs i<numAt xs j)) (xs.size - 1))∈i::ns:=by
     rw[hns,numAt_eq];exact PySem.getD_mem (by rw[Nc,NX];omega)
    have k1:=g2 _ m1;rw[hns]at g1;obtain⟨j,hj,ej⟩:=mem_getD g1;rw[Nc,NX]at hj;rw[<-numAt_eq]at ej
    have k2:=h2 j (by omega)
    rw[ej]at k2;exact VB k2 k1
   rw[eM];exact hp H (Same.refl H) _ (Rep.GE _)
  ·exact hp.elim
 ·rename_i i j
  obtain⟨v,ws,rfl,p,q⟩:=Reps.me.mp rs;obtain⟨v2,rfl,p2⟩:=q.one;cases Rep.Da.mp p;cases Rep.Da.mp p2;refine Bu hc bv s σ H _ us Q I rv ⟨i,j,rfl,?_⟩
  exact hp H (Same.refl H) _ (Rep.GE _)
 ·exact hp.elim
def JV(hc:X.calm=ZC):CallT X (.builtin "max") A8:=by
 intro bv s σ H O ts vs us Q I hf rs rv hp;unfold A8 at hp
 split at hp
 ·rename_i l
  obtain⟨v,rfl,r⟩:=rs.one
  split at hp
  ·rename_i i ns hk
   obtain⟨a,ws,rfl,n,q,z⟩:=Rep.Fk.mp r;obtain⟨u,rfl,ru⟩:=kQ rv;cases ru;obtain⟨its,r',pl,hz⟩:=I.list (SqL.of q)
   have hi:=fM hk z r';obtain⟨xs,e⟩:=hi.allInts.items
   have hns:i::ns=xs.toList.map (·.1):=by rw[<-hi.numsOf,<-nums_intItems,<-e]
   have hl:s.heap.IsList a (intItems xs):=by rw[<-e];exact pl.isList
   have hsz:0<xs.size:=by
    have h3:=congrArg OE hns;rw[Nj,Nc]at h3;rw[<-NX];omega
   refine max_intList (I.ok.hd hc) hl hsz λv h' tk hv hk'=>?_
   obtain⟨t,rfl⟩:=intItems_at hv;obtain⟨h1,h2⟩:=argBest_gt (numAt xs) (xs.size - 1);refine⟨.int _,H,I.kept (t':=tk) hk',⟨_,rfl⟩,?_⟩
   have eM:numAt xs (argBest (λi j=>decide (numAt xs i > numAt xs j)) (xs.size - 1))=ir i ns:=by
    obtain⟨g1,g2⟩:=sd ns i
    have m1:numAt xs (argBest (λi j=>decide (numAt xs i > numAt xs j)) (xs.size - 1))∈i::ns:=by
     rw[hns,numAt_eq];exact PySem.getD_mem (by rw[Nc,NX];omega)
    have k1:=g2 _ m1;rw[hns]at g1;obtain⟨j,hj,ej⟩:=mem_getD g1;rw[Nc,NX]at hj;rw[<-numAt_eq]at ej
    have k2:=h2 j (by omega)
    rw[ej]at k2;exact VB k1 k2
   rw[eM];exact hp H (Same.refl H) _ (Rep.GE _)
  ·exact hp.elim
 ·rename_i i j
  obtain⟨v,ws,rfl,p,q⟩:=Reps.me.mp rs;obtain⟨v2,rfl,p2⟩:=q.one;cases Rep.Da.mp p;cases Rep.Da.mp p2;refine Bv hc bv s σ H _ us Q I rv ⟨i,j,rfl,?_⟩
  exact hp H (Same.refl H) _ (Rep.GE _)
 ·exact hp.elim
noncomputable def rowsT:List T->Option (List (List Int))
 |[] =>ZA []
 |.tup l::r=>match dZ l,rowsT r with
  |some ns,ZA k=>if ns=[]then ZB else ZA (ns::k)
  |_,_=>ZB
 |_=>ZB
def jY(a b:List Int):Bool:=!cH b a
noncomputable def rP:List T->Rs T
 |[.lst l] =>match rowsT l with
  |some k=>if k.length<64 then .ok (.lst ((k.mergeSort jY).map λns=>.tup (ns.map .int)))else .bad
  |none=>.bad
 |_=>.bad
theorem jX:∀l,cH l l=ZD
 |[] =>rfl
 |a::l=>by unfold cH;rw[if_pos rfl];exact jX l
theorem mm:∀a b c,cH a b=ZC->cH b c=ZC->cH a c=ZC
 |[],[],_,h,_=>absurd h (by simp[cH])
 |_::_,[],_,h,_=>absurd h (by simp[cH])
 |[],_::_,[],_,h=>absurd h (by simp[cH])
 |[],_::_,_::_,_,_=>rfl
 |_::_,_::_,[],_,h=>absurd h (by simp[cH])
 |x::a,y::b,z::c,h,g=>by
  unfold cH at h g ⊢
  by_cases e:x=y
  ·subst e
   rw[if_pos rfl]at h
   by_cases e2:x=z
   ·rw[if_pos e2]at g ⊢;exact mm a b c h g
   ·rw[if_neg e2]at g ⊢;exact g
  ·rw[if_neg e]at h
   by_cases e2:y=z
   ·subst e2;rw[if_neg e];exact h
   ·rw[if_neg e2]at g
    have h1:=of_decide_eq_true h
    have h2:=of_decide_eq_true g;rw[if_neg (by omega)]
    exact decide_eq_true (by omega)
theorem mn:∀a b,cH a b=ZD->cH b a=ZD->a=b
 |[],[],_,_=>rfl
 |[],_::_,h,_=>absurd h (by simp[cH])
 |_::_,[],_,h=>absurd h (by simp[cH])
 |x::a,y::b,h,g=>by
  unfold cH at h g
  by_cases e:x=y
  ·subst e
   rw[if_pos rfl]at h g;rw[mn a b h g]
  ·rw[if_neg e]at h
   rw[if_neg (λz=>e z.symm)]at g
   have h1:=of_decide_eq_false h
   have h2:=of_decide_eq_false g;omega
def xc(a b c:List Int)(h:cH a c=ZC):cH a b=ZC\/cH b c=ZC:=by
 cases h1:cH a b with
 |true=>exact .inl rfl
 |false=>
  cases h2:cH b a with
  |true=>exact .inr (mm _ _ _ h2 h)
  |false=>rw[<-mn _ _ h1 h2];exact .inr h
def Df(a b c:List Int)(h:jY a b=ZC)(g:jY b c=ZC):jY a c=ZC:=by
 unfold jY at*
 cases z:cH c a with
 |false=>rfl
 |true=>
  rcases xc c b a z with y|y
  ·rw[y]at g;cases g
  ·rw[y]at h;cases h
def z8(a b:List Int):(jY a b||jY b a)=ZC:=by
 unfold jY
 cases z:cH b a with
 |false=>rfl
 |true=>
  cases y:cH a b with
  |false=>rfl
  |true=>have:=mm _ _ _ z y;rw[jX]at this;cases this
def Dg(a b:List Int)(h:jY a b=ZC)(g:jY b a=ZC):a=b:=by
 unfold jY at h g;refine mn a b ?_ ?_
 ·cases z:cH a b with
  |false=>rfl
  |true=>rw[z]at g;cases g
 ·cases z:cH b a with
  |false=>rfl
  |true=>rw[z]at h;cases h
def lZ{k m:List (List Int)}(p:m.Perm k)(s:m.Pairwise (λa b=>jY a b=ZC)):m=k.mergeSort jY:=
 List.Perm.eq_of_pairwise (le:=λa b=>jY a b=ZC) (λa b _ _ h g=>Dg a b h g) s (SH Df z8 k) (p.trans (T5 k jY).symm)
structure SrtB (k0:TL)(o:Array VP)(st:RX):Prop where
 p:(arrOf st).Perm o
 k:kindOf st=k0
 f:SQ st=ZB
 e:QR st= #[]
def SrtB.len{o:Array VP}(b:SrtB k0 o st):(arrOf st).size=o.size:=b.p.size_eq
variable{xs:Array VP}
def SrtB.arr{o:Array VP}(b:SrtB k0 o st)(h:xs.Perm (arrOf st)):SrtB k0 o (setArr st xs):=⟨h.trans b.p,b.k,b.f,b.e⟩
def xP(κ:KeyKind)(k0:TL)(prog:NH)(w:Ou)(A:N4)(s:Ng):Prop:=
 ∀(E:V1)(x y:Nf)(a b:κ.α)(Q:Bool->Ng->Prop),κ.keyOf x=ZA a->κ.keyOf y=ZA b->Q (κ.blt a b) s->ZJ (ZK prog w) A (keyLt' k0 x y) Q E s
abbrev gk(κ:KeyKind)(st:RX)(i:Nat):κ.α:=KK κ (arrOf st) i
variable{κ:KeyKind}
def ER(h:O5 κ xs n)(hl:κ.kle (KK κ xs (n - 1)) (KK κ xs n)):O5 κ xs (n+1):=λi j le lt=>by
 rcases Q4 j n with z|z
 ·exact h i j le z
 ·obtain rfl:j=n:=by omega
  rcases Q4 i j with y|y
  ·exact RG (h i (j - 1) (by omega) (by omega)) hl
  ·rw[show i=j by omega];exact Qz _
def oE(h:Ud κ xs n)(hl:κ.kle (KK κ xs n) (KK κ xs (n - 1))):Ud κ xs (n+1):=λi j le lt=>by
 rcases Q4 j n with z|z
 ·exact h i j le z
 ·obtain rfl:j=n:=by omega
  rcases Q4 i j with y|y
  ·exact RG hl (h i (j - 1) (by omega) (by omega))
  ·rw[show i=j by omega];exact Qz _
def BY(h:n<=1):O5 κ xs n:=λi j le lt=>by rw[show i=j by omega];exact Qz _
def JS(h:n<=1):Ud κ xs n:=λi j le lt=>by rw[show i=j by omega];exact Qz _
section
variable {o:Array VP}
def G9(b:SrtB k0 o st)(ks:KeysOf κ o)(hi:i<o.size):∃z,(arrOf st)[i]?=ZA z/\κ.keyOf z.1=ZA (gk κ st i):=by
 have h1:i<(arrOf st).size:=b.len▸hi;obtain⟨a,ha⟩:=ks _ ((R6.mp b.p).mem_iff.mp (Array.getElem_mem_toList h1))
 have e:=getElem?_pos (arrOf st) i h1
 refine⟨_,e,?_⟩
 show _=ZA (KK κ (arrOf st) i)
 unfold KK;rw[e,ha];simp[ha]
def vQ(c:xP κ k0 prog w A s)(ks:KeysOf κ o)(b:SrtB k0 o st){Q:Option Bool->RX->Prop}(hi:i<o.size)(hj:j<o.size)(q:Q (ZA (κ.blt (gk κ st i) (gk κ st j))) st):
  wpS (ZK prog w) A E s (ltAt' i j) Q st:=by
 obtain⟨⟨x,x2⟩,e1,k1⟩:=G9 b ks hi;obtain⟨⟨y,y2⟩,e2,k2⟩:=G9 b ks hj;rw[ltAt'_eq];refine OB (VQ ?_)
 dsimp only
 rw[elem'_eq,elem'_eq,e1,e2];refine OB (Pc (OB (Pc ?_)))
 rw[lt'_eq];refine OB (VQ ?_)
 rw[b.k];exact OB (wpS_lift (PN (c _ x y _ _ _ k1 k2 ⟨rfl,Pc q⟩)))
def G8{Q:AscSt->RX->Prop}(c:xP κ k0 prog w A s)(ks:KeysOf κ o)(b:SrtB k0 o st)(hm:m<=o.size)(h1:1<=a)(h2:a<=m)(so:O5 κ (arrOf st) a)
  (q:∀n,a<=n->n<=m->O5 κ (arrOf st) n->(n≠m->κ.klt (gk κ st n) (gk κ st (n - 1)))->Q (ZB,n) st):wpS (ZK prog w) A E s (ascLoop a m) Q st:=by
 unfold ascLoop;refine RE (I:=λn r st'=>r=(ZB,n)/\st'=st/\O5 κ (arrOf st) n) (λn r st' l1 l2 hI=>?_) (λr st' hI=>?_) ⟨rfl,rfl,so⟩
 ·obtain⟨rfl,rfl,sn⟩:=hI
  refine OB (vQ c ks b (Nq l2 hm) (PK (UQ _ _) (Nq l2 hm)) ?_)
  cases z:κ.blt (gk κ st' n) (gk κ st' (n - 1))with
  |true=>exact Pc (q n l1 (OV l2) sn λ_=>z)
  |false=>exact Pc ⟨rfl,rfl,ER sn z⟩
 ·obtain⟨rfl,rfl,sn⟩:=hI
  have e:max a m=m:=RH h2;rw[e]at sn ⊢;exact q m h2 (Nr _) sn λh=>absurd rfl h
def tF{Q:Unit->RX->Prop}(b:SrtB k0 o st)(q:∀st',SrtB k0 o st'->arrOf st'=mirror (arrOf st) i j ((j - i) / 2)->Q () st'):wpS (ZK prog w) A E s (reverseSlice' i j) Q st:=by
 rw[reverseSlice'_eq];exact U0 (q _ (b.arr (mirror_perm _ _ _ _)) rfl)
abbrev Em(κ:KeyKind)(k0:TL)(o:Array VP)(m:Nat)(Q:Option Nat->RX->Prop):Prop:=∀n st',SrtB k0 o st'->1<=n->n<=m->O5 κ (arrOf st') n->Q (ZA n) st'
def zB(c:xP κ k0 prog w A s)(ks:KeysOf κ o)(b:SrtB k0 o st)(hm:m<=o.size)(h1:1<=n)(h2:n<=m)(dn:Ud κ (arrOf st) n)(q:Em κ k0 o m Q):
  wpS (ZK prog w) A E s (tail3 n m) Q st:=by
 unfold tail3;refine OB (tF b λst' b' e=>OB (G8 c ks b' hm h1 h2 (λi j le lt=>?_) λk l1 l2 so _=>Pc (q k st' b' (by omega) l2 so)))
 have hz:n<=(arrOf st).size:=by rw[b.len];omega
 rw[e,KK_mirror hz,KK_mirror hz,if_pos ⟨OF _,by omega⟩,if_pos ⟨OF _,by omega⟩]
 exact dn _ _ (by omega) (by omega)
def ud{k:Nat}(g1:k - 1<=i)(g2:i<k):i=k - 1:=VC (RL g2) g1
def Ko{Q:DescSt->RX->Prop}(c:xP κ k0 prog w A s)(ks:KeysOf κ o)(b:SrtB k0 o st)(hm:m<=o.size)(h1:1<=n)(h2:n<=m)(dn:Ud κ (arrOf st) n)
  (q:∀k r st',SrtB k0 o st'->n<=k->k<=m->Ud κ (arrOf st') k->r+1<=k->(∀i,k - (r+1)<=i->i<k->gk κ st' i=gk κ st' (k - 1))->Q (ZB,k,r) st'):wpS (ZK prog w) A E s (descLoop n m) Q st:=by
 unfold descLoop
 refine RE (I:=λk c st'=>∃r,c=(ZB,k,r)/\SrtB k0 o st'/\Ud κ (arrOf st') k/\r+1<=k/\∀i,k - (r+1)<=i->i<k->gk κ st' i=gk κ st' (k - 1)) (λk r st' l1 l2 hI=>?_) (λr st' hI=>?_)
  ⟨0,rfl,b,dn,h1,λi g1 g2=>by rw[ud g1 g2]⟩
 ·obtain⟨r,rfl,b',d',hr,eq⟩:=hI
  dsimp only
  have kk:=Nq l2 hm
  have kp:k - 1<o.size:=PK (UQ _ _) kk
  have hz:k<=(arrOf st').size:=by rw[b'.len];exact OV kk
  refine OB (vQ c ks b' kk kp ?_)
  cases z:κ.blt (gk κ st' k) (gk κ st' (k - 1))with
  |true=>
   have d2:=oE d' (Sw z)
   show wpS _ _ _ _ (if r > 0 then _ else _) _ _
   by_cases hr0:r > 0
   ·rw[if_pos hr0]
    refine OB (tF b' λst2 b2 e2=>Pc ⟨0,rfl,b2,λi j le lt=>?_,SW (OF _),λi g1 g2=>by rw[ud g1 g2]⟩)
    rw[e2,PC hz eq,PC hz eq];exact d2 i j le lt
   ·rw[if_neg hr0]
    exact Pc ⟨0,rfl,b',d2,SW (OF _),λi g1 g2=>by rw[ud g1 g2]⟩
  |false=>
   refine OB (vQ c ks b' kp kk ?_)
   cases y:κ.blt (gk κ st' (k - 1)) (gk κ st' k)with
   |true=>exact Pc (q k r st' b' l1 (OV l2) d' hr eq)
   |false=>
    refine Pc ⟨r+1,rfl,b',oE d' y,SW hr,λi g1 g2=>?_⟩
    have e:gk κ st' k=gk κ st' (k - 1):=T6 y z;rw[Nat.add_sub_cancel];rcases Q4 i k with g3|g3
    ·rw[e];exact eq i (by rw[Nat.add_sub_add_right]at g1;exact g1) g3
    ·rw[VC (Sx g2) g3]
 ·obtain⟨r,rfl,b',d',hr,eq⟩:=hI
  have e:max n m=m:=RH h2;rw[e]at d' hr eq ⊢;exact q m r st' b' h2 (Nr _) d' hr eq
def zC(c:xP κ k0 prog w A s)(ks:KeysOf κ o)(b:SrtB k0 o st)(hm:m<=o.size)(h2:n+1<=m)(dn:Ud κ (arrOf st) (n+1))(q:Em κ k0 o m Q):
  wpS (ZK prog w) A E s (descPart n m) Q st:=by
 unfold descPart;refine OB (wpS_lift (Qa ⟨rfl,OB (Ko c ks b hm (by omega) h2 dn λk r st' b' l1 l2 d' hr eq=>?_)⟩))
 dsimp only
 have hz:k<=(arrOf st').size:=by rw[b'.len];omega
 by_cases hr0:r > 0
 ·rw[if_pos hr0]
  refine OB (tF b' λst2 b2 e2=>zB c ks b2 hm (by omega) l2 (λi j le lt=>?_) q)
  rw[e2,PC hz eq,PC hz eq];exact d' i j le lt
 ·rw[if_neg hr0]
  exact zB c ks b' hm (by omega) l2 d' q
def HM(c:xP κ k0 prog w A s)(ks:KeysOf κ o)(b:SrtB k0 o st)(hm:m<=o.size)(h1:1<=m)(q:Em κ k0 o m Q):wpS (ZK prog w) A E s (countRun' 0 m) Q st:=by
 rw[countRun0_eq];refine OB (G8 c ks b hm (Nr 1) h1 (BY (Nr 1)) λn l1 l2 so lt=>?_)
 dsimp only
 by_cases e:n=m
 ·rw[if_pos (beq_iff_eq.mpr e)]
  exact Pc (q n st b l1 l2 so)
 rw[if_neg (λz=>e (beq_iff_eq.mp z))]
 have fall:=Sw (lt e)
 by_cases g:n > 1
 ·rw[if_pos g]
  refine OB (vQ c ks b (by omega) (by omega) ?_)
  cases z:κ.blt (gk κ st 0) (gk κ st (n - 1))with
  |true=>exact Pc (q n st b l1 l2 so)
  |false=>
   have all:∀k,0<=k->k<n->gk κ st k=gk κ st (n - 1):=λk _ hk=>
    T6 (so k (n - 1) (by omega) (by omega)) (RG (show κ.kle (gk κ st (n - 1)) (gk κ st 0)from z) (so 0 k (by omega) hk))
   have hz:n<=(arrOf st).size:=by rw[b.len];omega
   refine OB (tF b λst2 b2 e2=>zC c ks b2 hm (by omega) (oE (λi j le lt=>?_) ?_) q)
   ·rw[e2,PC hz all,PC hz all]
    show κ.kle (gk κ st j) (gk κ st i)
    rw[all i (OF _) (by omega),all j (OF _) (by omega)]
    exact Qz _
   ·rw[e2,PC hz all,PC hz all]
    exact fall
 ·rw[if_neg g]
  exact zC c ks b hm (by omega) (oE (JS (by omega)) fall) q
def Jh{l u:Nat}(h:l<u):l<=(l+u) / 2/\(l+u) / 2<u:=⟨by omega,by omega⟩
def JC{k l:Nat}(hk:k<xs.size)(lk:l<=k)(so:O5 κ xs k)(lo:∀i,i<l->κ.kle (KK κ xs i) (KK κ xs k))(hi:∀i,l<=i->i<k->κ.klt (KK κ xs k) (KK κ xs i)):O5 κ (bubble xs k (k - l)) (k+1):=λi j le lt=>by
 rw[KK_bubble hk (UQ _ _),KK_bubble hk (UQ _ _),Nat.sub_sub_self lk]
 have lt:=Sx lt;rcases Sy i l with i1|i1|i1
 ·rw[if_neg (Oa i1),if_neg λz=>Nat.lt_asymm z.1 i1]
  rcases Sy j l with j1|j1|j1
  ·rw[if_neg (Oa j1),if_neg λz=>Nat.lt_asymm z.1 j1];exact so _ _ le (Nq j1 lk)
  ·rw[if_pos j1];exact lo i i1
  ·rw[if_neg (Qd j1),if_pos ⟨j1,lt⟩];exact so _ _ (RL (S8 i1 j1)) (Nq (RM j1) lt)
 ·rw[if_pos i1]
  rcases Nat.lt_or_eq_of_le (i1▸le:l<=j)with j1|j1
  ·rw[if_neg (Qd j1),if_pos ⟨j1,lt⟩];exact Sw (hi _ (RL j1) (Nq (RM j1) lt))
  ·rw[if_pos j1.symm];exact Qz _
 ·have j1:=Nq i1 le
  rw[if_neg (Qd i1),if_pos ⟨i1,NV le lt⟩,if_neg (Qd j1),if_pos ⟨j1,lt⟩];exact so _ _ (Nat.sub_le_sub_right le 1) (Nq (RM j1) lt)
def HN{Q:Bool->RX->Prop}(c:xP κ k0 prog w A s)(ks:KeysOf κ o)(b:SrtB k0 o st)(h1:1<=n)(hn:n<=o.size)(ha:a<=n)(so:O5 κ (arrOf st) a)
  (q:∀st',SrtB k0 o st'->O5 κ (arrOf st') n->Q ZC st'):wpS (ZK prog w) A E s (binarySort' 0 n a) Q st:=by
 rw[binarySort'_eq];simp only[Td];refine OB (RE (I:=λk r st'=>r=(ZB,())/\SrtB k0 o st'/\O5 κ (arrOf st') k) (λk r st1 l1 l2 hI=>?_) (λr st1 hI=>?_) ⟨rfl,b,?_⟩)
 ·obtain⟨rfl,b1,so1⟩:=hI
  have hk:k<o.size:=Nq l2 hn
  refine OB (wpS_mono (RE (I:=λx r st2=>st2=st1/\∃l u,r=(ZB,l,u)/\l<=u/\u<=k/\u<=k+l - x/\(∀i,i<l->κ.kle (gk κ st1 i) (gk κ st1 k))/\∀i,u<=i->i<k->κ.klt (gk κ st1 k) (gk κ st1 i))
   (Q:=λr st2=>st2=st1/\∃l u,r=(ZB,l,u)/\l<=k/\(∀i,i<l->κ.kle (gk κ st1 i) (gk κ st1 k))/\∀i,l<=i->i<k->κ.klt (gk κ st1 k) (gk κ st1 i)) (λx r st2 y1 y2 hJ=>?stp) (λr st2 hJ=>?fin) ⟨rfl,0,k,rfl,OF _,Nr _,Nr _,λi hi=>absurd hi (Nat.not_lt_zero _),λi g1 g2=>absurd g2 (Nat.not_lt.mpr g1)⟩) λr st2 hJ=>?pst)
  case stp=>
   obtain⟨rfl,l,u,rfl,lu,uk,mz,lo,hi⟩:=hJ
   dsimp only
   by_cases g:l ≥ u
   ·rw[if_pos g]
    exact Pc ⟨rfl,l,u,rfl,NV lu uk,lo,λi g1 g2=>hi i (NV g g1) g2⟩
   ·rw[if_neg g]
    have hm:=Jh (Nat.lt_of_not_le g)
    generalize (l+u) / 2=m at hm ⊢
    have mk:m<k:=Nq hm.2 uk;refine OB (vQ c ks b1 hk (S8 mk hk) ?_)
    have am:u<=k+(m+1) - (x+1)/\m<=k+l - (x+1):=by
     clear lo hi so so1 q ks c b b1 hn ha h1
     omega
    cases z:κ.blt (gk κ st2 k) (gk κ st2 m)with
    |true=>exact Pc ⟨rfl,l,m,rfl,hm.1,OV mk,am.2,lo,λi g1 g2=>KeyOrd.klt_of_klt_of_kle z (so1 _ i g1 g2)⟩
    |false=>exact Pc ⟨rfl,m+1,u,rfl,hm.2,uk,am.1,λi g1=>RG (so1 i m (Sx g1) mk) z,hi⟩
  case fin=>
   obtain⟨rfl,l,u,rfl,lu,uk,mz,lo,hi⟩:=hJ
   have e:u<=l:=by
    clear lo hi so so1 q ks c b b1 hn ha h1
    omega
   exact⟨rfl,l,u,rfl,NV lu uk,lo,λi g1 g2=>hi i (NV e g1) g2⟩
  case pst=>
   obtain⟨rfl,l,u,rfl,lk,lo,hi⟩:=hJ
   dsimp only
   rw[moveDown'_eq];exact OB (U0 (Pc ⟨rfl,b1.arr (bubble_perm _ _ _),JC (by rw[b1.len];exact hk) lk so1 lo hi⟩))
 ·obtain⟨rfl,b1,so1⟩:=hI
  rw[RH (Nat.max_le.mpr ⟨ha,h1⟩)]at so1;exact Pc (q st1 b1 so1)
 ·rcases Nat.le_total a 1 with g|g
  ·rw[RH g];exact BY (Nr 1)
  ·rw[Nat.max_eq_left g];exact so
def HP{Q:Unit->RX->Prop}(c:xP κ k0 prog w A s)(ks:KeysOf κ o)(b:SrtB k0 o st)(h2:2<=o.size)(h64:o.size<64)
  (q:∀st',(arrOf st').Perm o->SQ st'=ZB->O5 κ (arrOf st') o.size->Q () st'):wpS (ZK prog w) A E s sortRuns' Q st:=by
 rw[sortRuns'_eq];refine OB (VQ ?_)
 dsimp only
 have hmr:minRun' o.size o.size 0=o.size:=by
  cases hz:o.size with
  |zero=>omega
  |succ f=>rw[minRun'_succ,if_pos (by omega)]
 simp only[b.len,hmr]
 refine OB (wpS_mono (RE (I:=λx r st1=>(x=0/\r=(ZB,0)/\SrtB k0 o st1)\/(x≠0/\r=(ZB,o.size)/\(arrOf st1).Perm o/\SQ st1=ZB/\(QR st1).size=1/\O5 κ (arrOf st1) o.size))
  (Q:=λr st1=>r=(ZB,o.size)/\(arrOf st1).Perm o/\SQ st1=ZB/\(QR st1).size=1/\O5 κ (arrOf st1) o.size) (λx r st1 l1 l2 hI=>?stp) (λr st1 hI=>?fin) (.inl ⟨rfl,rfl,b⟩)) λr st1 hI=>?pst)
 case stp=>
  rcases hI with⟨rfl,rfl,b1⟩|⟨_,rfl,hI⟩
  ·dsimp only
   rw[if_neg (by omega)]
   simp only[Tc,U6,Td];refine OB (HM c ks b1 (Nr _) (by omega) λn st2 b2 n1 n2 so2=>?_)
   dsimp only
   have fin:∀st3,SrtB k0 o st3->O5 κ (arrOf st3) o.size->(arrOf (U1 st3 ((QR st3).push (0,o.size,0)))).Perm o/\SQ (U1 st3 ((QR st3).push (0,o.size,0)))=ZB ∧
     (QR (U1 st3 ((QR st3).push (0,o.size,0)))).size=1/\O5 κ (arrOf (U1 st3 ((QR st3).push (0,o.size,0)))) o.size:=λst3 b3 so3=>⟨b3.p,b3.f,by
    show((QR st3).push _).size=1
    rw[b3.e];rfl,so3⟩
   by_cases g:n<o.size
   ·rw[if_pos g]
    refine OB (wpS_lift (Qa ⟨rfl,OB (HN c ks b2 (QD h2) (Nr _) n2 so2 λst3 b3 so3=>?_)⟩))
    simp only[Bool.not_true,NW,if_false];refine OB (VQ ?_)
    rw[show(QR st3).back?=ZB by rw[b3.e];rfl]
    exact OB (U0 (Pc (.inr ⟨by omega,rfl,fin st3 b3 so3⟩)))
   ·rw[if_neg g]
    obtain rfl:n=o.size:=by omega
    refine OB (VQ ?_)
    rw[show(QR st2).back?=ZB by rw[b2.e];rfl]
    exact OB (U0 (Pc (.inr ⟨by omega,rfl,fin st2 b2 so2⟩)))
  ·dsimp only
   rw[if_pos (Nr _)];exact Pc ⟨rfl,hI⟩
 case fin=>
  rcases hI with⟨h,_,_⟩|⟨_,hI⟩
  ·omega
  ·exact hI
 case pst=>
  obtain⟨rfl,hp,hf,he,hs⟩:=hI
  dsimp only
  refine OB (wpS_mono (RE (I:=λ_ r st2=>st2=st1/\r=(ZB,())) (Q:=λr st2=>st2=st1/\r=(ZB,())) (λx r st2 _ _ hJ=>?stp) (λ_ _ h=>h) ⟨rfl,rfl⟩) λr st2 hJ=>?pst)
  case stp=>
   obtain⟨rfl,rfl⟩:=hJ;refine OB (VQ ?_)
   rw[if_pos (Pt he)];exact Pc ⟨rfl,rfl⟩
  case pst=>
   obtain⟨rfl,rfl⟩:=hJ;exact Pc (q _ hp hf hs)
end
def RowV(h:ZH)(v:Nf)(ns:List Int):Prop:=∃a its,v=.ref a/\h.IsTuple a its/\Po its.toList ns/\ns≠ []
variable{h:ZH}
def RowV.inj{ms:List Int}(r:RowV h v ns)(q:RowV h v ms):ns=ms:=by
 obtain⟨a,its,rfl,⟨o,e,_,n,d⟩,i,_⟩:=r;obtain⟨b,jts,eb,⟨o',e',_,n',d'⟩,j,_⟩:=q;cases eb;rw[e]at e';cases e';rw[d]at d';cases d';rw[<-i.nums,<-j.nums]
open Classical in
def keyV(h:ZH)(v:Nf):Option (List Int):=if e:∃ns,RowV h v ns then ZA e.choose else ZB
def rk(h:ZH)(v:Nf):List Int:=(keyV h v).getD []
def qE:Nf->V
 |.ref a=>.ref a
 |_=>.non
theorem ku:∀{m:List T}{ns:List Int},dZ m=ZA ns->m=ns.map .int
 |[],ns,h=>by cases h;rfl
 |t::m,ns,h=>by
  cases t with
  |int i=>
   unfold dZ at h;obtain⟨k,h1,rfl⟩:=OG.mp h
   rw[ku h1];rfl
  |_=>cases h
variable (R:RK)
variable {R:RK}
theorem RK.key_of(r:R.V h v ns):R.key h v=ZA ns:=by
 unfold RK.key
 have e:∃ns,R.V h v ns:=⟨ns,r⟩;rw[dif_pos e,R.inj e.choose_spec r]
theorem RK.Mr(e:R.key h v=ZA ns):R.V h v ns:=by
 unfold RK.key at e
 split at e
 ·rename_i g
  cases e;exact g.choose_spec
 ·cases e
def RK.kind(R:RK)(h:ZH):PyProof.Rows.KeyKind:={α:=List Int,blt:=cH,irrefl:=jX,trans:=mm,negTrans:=xc,total:=mn,keyOf:=R.key h,dflt:=[]}
def RK.row(R:RK)(h:ZH)(v:Nf):List Int:=(R.key h v).getD []
theorem RK.KF(r:R.V h v ns):R.row h v=ns:=by unfold RK.row;rw[RK.key_of r];rfl
theorem JJ(v:Nf):firstOfTuple' v=(typeOf v >>= λt=>if t != .type "tuple" then pure ZB else Builtin.List.listItems v >>= λxs=>pure xs[0]?):=rfl
theorem An:∀{vs:List Nf}{Q:List (Option Nf)->Ng->Prop},(∀v∈vs,∃ns,R.V s.heap v ns)->(∀us ns,Po us ns->us.length=vs.length->Q (us.map ZA) s)->ZJ (ZK prog w) A (vs.mapM firstOfTuple') Q E s
 |[],Q,_,q=>by
  rw[List.mapM_nil]
  exact Nh (q [] [] .nil rfl)
 |v::vs,Q,h,q=>by
  rw[List.mapM_cons,JJ];obtain⟨ns,r⟩:=h _ Nb;obtain⟨a,its,n,o,m,t,rfl,e,hc,d,e0⟩:=R.fst r;refine M7 (M7 (Qe (T:="tuple") ⟨o,e,hc⟩ ?_))
  rw[if_neg (by decide+kernel)]
  refine M7 (listItems_at e d (Nh ?_))
  rw[e0];exact M7 (An (λv hv=>h v (Na _ hv)) λus ns j hl=>Nh (q (.int m t::us) (m::ns) (.cons m t j) (by rw[Nj,Nj,hl])))
theorem kk3{Q:TL->Ng->Prop}(hv:∀v∈vs,∃ns,R.V s.heap v ns)(ne:vs≠ [])(q:Q (tuples' ZC) s):ZJ (ZK prog w) A (keyKind' vs.toArray) Q E s:=by
 rw[keyKind'_eq,UR];refine M7 ?_
 rw[map_eq_pure_bind];refine M7 (An hv λus ns i hl=>Nh ?_)
 rw[if_pos (by simp)]
 refine M7 (Qa ?_)
 have ef:(us.map ZA).toArray.filterMap id=us.toArray:=by simp
 rw[ef,oneTypeOnly'_eq,UR,mapM_typeOf_ints i]
 cases i with
 |nil=>exact absurd (SI.mp hl.symm) ne
 |@cons m t us' ns' i'=>
  simp only[map_pure,pure_bind]
  have hall:((Vt (λ_=>OU "int") (OS m t::us')).toArray.all λx=>x == OU "int")=ZC:=by
   simp only[List.all_toArray,U5,NN];intro _ _;rfl
  rw[show(Vt (λ_=>OU "int") (OS m t::us')).toArray[0]?=ZA (OU "int")by simp]
  simp only[hall,if_true,pure_bind];exact Nh q
theorem out3{o:Array VP}(hp:xs.Perm o)(hs:O5 (R.kind h) xs o.size):xs.toList.Perm o.toList/\(xs.toList.map λp=>R.row h p.1).Pairwise (λa b=>jY a b=ZC):=by
 refine⟨R6.mp hp,?_⟩
 rw[PX];intro i j hi hj hij
 have hi':i<xs.size:=by simpa using hi
 have hj':j<xs.size:=by simpa using hj
 have z:cH (KK (R.kind h) xs j) (KK (R.kind h) xs i)=ZD:=hs i j (OV hij) (by rw[<-hp.size_eq];exact hj')
 have g:∀k (hk:k<xs.size),KK (R.kind h) xs k=R.row h xs[k].1:=λk hk=>by unfold KK;rw[getElem?_pos xs k hk];rfl
 rw[g i hi',g j hj']at z;simp only[RF,Array.getElem_toList];unfold jY;rw[z];rfl
theorem run3{ks:List Nf}{Q:RX->Ng->Prop}(hu:A.units+60<cLine)(hl:ks.length=vs.length)(hk:∀v∈ks,∃ns,R.V s.heap v ns)(h2:2<=vs.length)(h64:vs.length<64)
  (q:∀st',SQ st'=ZB->(arrOf st').toList.Perm (ks.zip vs)->((arrOf st').toList.map λp=>R.row s.heap p.1).Pairwise (λa b=>jY a b=ZC)->Q st' s):
  ZJ (ZK prog w) A ((sortRuns').run (SortSt.mk' (tuples' ZC) (ks.toArray.zip vs.toArray) #[] 7 ZB)) (λr s'=>Q r.2 s') E s:=by
 have hz:(ks.toArray.zip vs.toArray).size=vs.length:=by simp[hl]
 have hz2:(ks.toArray.zip vs.toArray).toList=ks.zip vs:=by simp
 have kso:PyProof.Rows.KeysOf (R.kind s.heap) (ks.toArray.zip vs.toArray):=λp hp=>by
  rw[hz2]at hp;obtain⟨ns,r⟩:=hk p.1 (Q9 hp).1;exact⟨ns,RK.key_of r⟩
 refine Pl (HP (κ:=R.kind s.heap) (k0:=tuples' ZC) (o:=ks.toArray.zip vs.toArray) (st:=SortSt.mk' (tuples' ZC) (ks.toArray.zip vs.toArray) #[] 7 ZB)
  (Q:=λ_ st'=>(arrOf st').Perm (ks.toArray.zip vs.toArray)/\SQ st'=ZB/\O5 (R.kind s.heap) (arrOf st') (ks.toArray.zip vs.toArray).size) (λE x y a b Q hx hy q=>R.lt hu (RK.Mr hx) (RK.Mr hy) q) kso ⟨Array.Perm.refl _,rfl,rfl,rfl⟩
  (by rw[hz];omega) (by rw[hz];exact h64) λst' a1 a2 a3=>⟨a1,a2,a3⟩) ?_ λ_ _ e=>e
 rintro ⟨⟨⟩,st'⟩ s' ⟨rfl,hp,hf,hs⟩
 obtain⟨g1,g2⟩:=out3 hp hs;exact q st' hf (by rw[<-hz2];exact g1) g2
theorem ls3{a:ZE}{h0:ZH}{P:Fin->Ng->Prop}(hu:A.units+60<cLine)(ho:s.heap.get? a=ZA (seqObj "list" vs.toArray n))(ext:∀b o,h0.get? b=ZA o->b≠a/\s.heap.get? b=ZA o)(hv:∀v∈vs,∃ns,R.V h0 v ns)(h64:vs.length<64)
  (q:∀out:Array Nf,out.toList.Perm vs->(out.toList.map (R.row h0)).Pairwise (λa b=>jY a b=ZC)->P (.done (.ret .none)) {s with heap:=Rr s.heap a vs out}):
  ZJ (ZK prog w) A (Builtin.«list.sort» ⟨[.ref a],[]⟩) P E s:=by
 rw[list_sort_plain]
 have ha:=Np ho;refine M7 (listItems_at ho rfl (M7 (UG ho rfl ?_)))
 have ho1:=get?_update_seq ho (λ_=>#[])
 generalize hm:(if (#[]:Array Nf).size == vs.toArray.size then n else n+1)=m at ho1
 refine M7 (VR ho1 rfl (M7 (Ru (M7 (wpAny_newList (OA ?_))))))
 generalize hh:((s.heap.update a (Qr λ_=>#[])).push (seqObj "tuple" vs.toArray 0)).push (seqObj "list" #[] 0)=h6
 have old:∀b,b<s.heap.objs.size->h6.get? b=(s.heap.update a (Qr λ_=>#[])).get? b:=λb hb=>by
  rw[<-hh,Sz _ _ _ (by rw[size_push',Qo];exact Oa (P7 hb)),Sz _ _ _ (by rw[Qo];exact Oa hb)]
 have ho6:h6.get? a=ZA (seqObj "list" #[] m):=(old a ha).trans ho1
 have hrow:∀v ns,R.V h0 v ns->R.V h6 v ns:=λv ns r=>R.on r λb o e=>by
  obtain⟨nb,e'⟩:=ext b o e;rw[old b (Np e'),T7 _ _ _ _ nb]
  exact e'
 have hv6:∀v∈vs,∃ns,R.V h6 v ns:=λv hm=>let ⟨ns,r⟩:=hv v hm;⟨ns,hrow v ns r⟩
 have hrk:∀v∈vs,R.row h6 v=R.row h0 v:=λv hm=>by
  obtain⟨ns,r⟩:=hv v hm;rw[RK.KF r,RK.KF (hrow v ns r)]
 have fin:∀xs:Array VP,xs.toList.Perm (vs.zip vs)->(xs.toList.map λp=>R.row h6 p.1).Pairwise (λa b=>jY a b=ZC)->(xs.map (·.2)).size<=ZI+1/\P (.done (.ret .none)) {s with heap:=h6.update a (Qr λ_=>xs.map (·.2))}:=λxs hp hs=>by
  have e:(xs.map (·.2)).toList=xs.toList.map (·.1):=by
   rw[Array.toList_map];exact NQ λp hp'=>(mem_zip_self (hp.mem_iff.mp hp')).1.symm
  have g1:(xs.map (·.2)).toList.Perm vs:=by
   rw[e]
   have:=hp.map (·.1)
   rwa [List.map_fst_zip (Nr _)]at this
  refine⟨?_,?_⟩
  ·have:=g1.length_eq
   rw[NX]at this;rw[this,ON];omega
  ·have g2:((xs.map (·.2)).toList.map (R.row h0)).Pairwise (λa b=>jY a b=ZC):=by
    rw[NQ λv hm=>(hrk v (g1.mem_iff.mp hm)).symm,e,N3]
    exact hs
   have:=q _ g1 g2;unfold Rr at this;rw[hh]at this;exact this
 show ZJ (ZK prog w) A _ P E {s with heap:=h6}
 dsimp only
 by_cases h2:vs.toArray.size<2
 ·rw[if_pos h2,if_pos h2]
  obtain⟨f1,f2⟩:=fin (pairsOf vs) (by rw[pairsOf_toList]) (by
   have:(pairsOf vs).toList.length<=1:=by rw[pairsOf_toList,List.length_zip,U6];rw[Nz]at h2;omega
   generalize (pairsOf vs).toList=l at this
   cases l with
   |nil=>exact Sn
   |cons x r=>cases r with
    |nil=>exact List.pairwise_singleton _ _
    |cons y r=>simp at this)
  refine M7 (Nh ?_)
  rw[StateT.run_pure];refine M7 (Nh ?_)
  dsimp only
  refine M7 (VR ho6 rfl (M7 (UG ho6 rfl ?_ (hsz2:=f1))))
  simp only[bne_self_eq_false,NW,if_false];exact Nh f2
 ·rw[if_neg h2,if_neg h2]
  rw[Nz]at h2;refine M7 (kk3 (R:=R) hv6 (λz=>by subst z;exact h2 (by decide)) ?_)
  refine M7 (Pl (run3 (R:=R) (s:={s with heap:=h6}) (Q:=λst' s'=>s'= {s with heap:=h6}/\SQ st'=ZB/\(arrOf st').toList.Perm (vs.zip vs)/\((arrOf st').toList.map λp=>R.row h6 p.1).Pairwise (λa b=>jY a b=ZC)) hu rfl hv6 (by omega) h64 λst' hf hp hs=>⟨rfl,hf,hp,hs⟩) (λr s' z=>?_) λ_ _ e=>e)
  obtain⟨es,hf,hp,hs⟩:=z;subst es;obtain⟨f1,f2⟩:=fin _ hp hs;refine M7 (VR ho6 rfl (M7 (UG ho6 rfl ?_ (hsz2:=f1))))
  rw[hf];simp only[bne_self_eq_false,NW,if_false];exact Nh f2
theorem zA{I:ZE}{Q:V1}(hu:A.units+65<cLine)(hc:∀A':N4,A'.handled=A.handled->ZJ (ZK prog w) A' (collect (.ref I)) (λvs s1=>(∀v∈vs,∃ns,R.V s1.heap v ns)/\vs.length<64 ∧
   ∀out:Array Nf,out.toList.Perm vs->(out.toList.map (R.row s1.heap)).Pairwise (λa b=>jY a b=ZC)->Q (.ref s1.heap.objs.size) {s1 with heap:=Rr (s1.heap.push (seqObj "list" vs.toArray 0)) s1.heap.objs.size vs out}) E s):
  ZJ (ZK prog w) A (call (.builtin "sorted") [.ref I]) Q E s:=by
 refine Calls.call_function_entry kind_sorted plain_sorted entry_sorted (args_sorted1 _) ?_
 unfold Builtin.«sorted»;refine M7 (m:=checkCount "sorted" 1 1 _) (Nh (M7 (Pl (hc _ ?_) (λvs s1 ⟨hv,h64,q⟩=>M7 (wpAny_newList ?_)) λ_ _ e=>e)))
 ·rfl
 have hoL:(s1.heap.push (seqObj "list" vs.toArray 0)).get? s1.heap.objs.size=ZA (seqObj "list" vs.toArray 0):=Nn _ rfl
 show ZJ (ZK prog w) _ _ _ _ {s1 with heap:=s1.heap.push (seqObj "list" vs.toArray 0)}
 refine M7 (OA (N9 slot_list_sort ⟨_,hoL,rfl⟩ entry_list_sort (ls3 (R:=R) (h0:=s1.heap) (s:={s1 with heap:=s1.heap.push (seqObj "list" vs.toArray 0)}) ?_ hoL (λb o e=>⟨Oa (Np e),M8 _ e⟩) hv h64 λout g1 g2=>⟨_,rfl,?_⟩) (args_list_sort _)))
 ·show A.units+1+1+60<cLine
  omega
 exact Nh ⟨_,rfl,q out g1 g2⟩
end Tr
namespace Tr
noncomputable def Lx:List T->Rs T
 |[.lst l,.tup m] =>if iO l=ZC/\l.length=m.length/\1<=l.length/\l.length<=1000 then .ok (.dct (gS (l.zip m) ([],[])).1 (gS (l.zip m) ([],[])).2)else .bad
 |_=>.bad
end Tr
variable{Q:Option Nf->Ng->Prop}
namespace PySem
open Sem (wp)
namespace F
def zk_keys:P9 (.type "zip") "keys" =pure ZB:=by rw[QB,Ph];kernel_rfl
def zk_ga:P9 (.type "zip") "__getattr__" =pure ZB:=by rw[QB,Ph];kernel_rfl
def zk_entry:entryFor table "zip.__getattribute__" =ZA Builtin.«object.__getattribute__»:=
 entryFor_alias (id':="object.__getattribute__") (by kernel_rfl) (by first|rfl|decide+kernel| (unfold String.splitOn;simp+decide [String.splitOnAux])) (by decide+kernel) (by kernel_rfl)
end F
abbrev zO(h:ZH)(z ti to:ZE)(f0 f1:Nf):Prop:=h.get? z=ZA {cls:=.type "zip",dict:=ZB,data:=.fields #[f0,f1,.bool ZD,.ref ti,.ref to],slots:=#[]}
variable{h:ZH}{tk:Tok}
section
variable {g:Array GenState}{d:Drawn}{t:Nat}{os:OsState}{z ti to:ZE}{f0 f1:Nf}
def zk1{Q:Fin->Ng->Prop}(hx:zO h z ti to f0 f1)(hh:A.handled=ZB)(hq:∀h' tk' e,RV h h' e (.ref z) "keys"->E (.ref e) ⟨h',g,d,tk',os⟩):
  ZJ (ZK prog w) A (Builtin.«object.__getattribute__» ⟨[.ref z,.str "keys" tk],[]⟩) Q E ⟨h,g,d,t,os⟩:=by
 have hT:(⟨h,g,d,t,os⟩:Ng).TypeIs (.ref z) "zip":=⟨_,hx,rfl⟩
 have f4:=F.zk_keys
 repeat (any_goals (first|assumption|wp_step))
 exact TX hh (λh' tk e hx=>hq h' tk e hx) (attrMsg_fits (by decide+kernel) (by rw[ON];decide))
def zk2(hx:zO h z ti to f0 f1)(hh:A.handled=ZB)(hq:∀h' tk' e,RV h h' e (.ref z) "keys"->R (.error (.ref e)) ⟨h',g,d,tk',os⟩):
  ZL (ZK prog w) A (.call (.builtin "zip.__getattribute__") ⟨[.ref z,.str "keys" tk],[]⟩) R ⟨h,g,d,t,os⟩:=
 TY Qk.plain F.zk_entry (Qk.check _ _ _ _ _ _ _ _ (show(⟨h,g,d,t,os⟩:Ng).TypeIs (.ref z) "zip" from⟨_,hx,rfl⟩) (F.args_zip_getattribute_2 _ _) (zk1 hx hh hq))
def zk3(hx:zO h z ti to f0 f1)(hh:A.handled=ZB)(hq:∀h' tk',(∀b o,h.get? b=ZA o->h'.get? b=ZA o)->Q ZB ⟨h',g,d,tk',os⟩):ZJ (ZK prog w) A (getAttr? (.ref z) "keys") Q E ⟨h,g,d,t,os⟩:=by
 have hT:∀tk,(⟨h,g,d,tk,os⟩:Ng).TypeIs (.ref z) "zip":=λ_=>⟨_,hx,rfl⟩
 have f1:=UE
 have f2:=Qk.lookup
 have f3:=Qk.bind (.ref z)
 have f5:=F.zk_ga;unfold getAttr? getAttrBy? getAttrBy
 repeat (any_goals (first|assumption|exact hT _|wp_step))
 refine zk2 hx hh λh' tk' e hx'=>?_
 obtain⟨t',u',he⟩:=hx'.there
 repeat (any_goals (first|assumption|exact hT _|wp_step))
 exact hq _ _ hx'.keeps
end
structure Zp (h:ZH)(n l1 t2 k:Nat)(xs ys:Array Nf):Prop where
 b1:l1<n
 b2:t2<n
 pr:PD h (n+2) (.ref n) (.ref (n+1))
 i1:h.IsListIter n l1 k
 i2:h.IsTupleIter (n+1) t2 k
 s1:h.IsList l1 xs
 s2:h.IsTuple t2 ys
variable{h':ZH}{xs:Array Nf}
def hZ{a:ZE}(x:h.IsTuple a xs)(e:∀o,h.get? a=ZA o->h'.get? a=ZA o):h'.IsTuple a xs:=let ⟨o,ho,r⟩:=x;⟨o,e _ ho,r⟩
variable{ys:Array Nf}
def Zp.keep{k:Nat}(q:Zp h n l1 t2 k xs ys)(e:∀c o,c<n+3->h.get? c=ZA o->h'.get? c=ZA o):Zp h' n l1 t2 k xs ys where
 b1:=q.b1
 b2:=q.b2
 pr:=e _ _ (by omega) q.pr
 i1:=q.i1.at λo=>e _ o (by omega)
 i2:=q.i2.at λo=>e _ o (by omega)
 s1:=q.s1.at λo=>e _ o (by have:=q.b1;omega)
 s2:=hZ q.s2 λo=>e _ o (by have:=q.b2;omega)
section
variable {k:Nat}{y:Nf}
def vE{a:ZE}{Q:Option Obj->Ng->Prop}(q:Q (s.heap.get? a) s):ZJ (ZK prog w) A (loadIfAlive a) Q E s:=λΓ p _=>by
 show Sem.wp _ _ (Sem.loadIfAlive a pure) _ _ _ _
 rw[Sem.wp_loadIfAlive];exact q
end
variable{ob:Obj}
section
variable {k:Nat}{y:Nf}
def bJ{b:Nat}(h:a<b\/b<a):a≠b:=by omega
def Zp.one(q:Zp h n l1 t2 k xs ys)(i:h'.IsListIter n l1 (k+1))(e:Qu n h h'):h'.IsTupleIter (n+1) t2 k/\h'.IsList l1 xs/\h'.IsTuple t2 ys/\PD h' (n+2) (.ref n) (.ref (n+1)):=by
 have b1:=q.b1
 have b2:=q.b2;exact⟨q.i2.at λo g=>e.extBut _ _ (bJ (by omega)) g,q.s1.at λo g=>e.extBut _ _ (bJ (by omega)) g,hZ q.s2 λo g=>e.extBut _ _ (bJ (by omega)) g,e.extBut _ _ (bJ (by omega)) q.pr⟩
def lP{T:ZE}{Q:Bool->Ng->Prop}(kz:zO s.heap (n+4) (n+2) (n+3) (rawInt T) (.bool f))(kT:s.heap.get? T=ZA ob)
  (hk:∀h',zO h' (n+4) (n+2) (n+3) (rawInt T) (.bool ZC)->(∀c o,c≠n+4->s.heap.get? c=ZA o->h'.get? c=ZA o)->h'.objs.size=s.heap.objs.size->Q ZD {s with heap:=h'}):ZJ (ZK prog w) A (Nv (.ref (n+4))) Q E s:=by
 unfold Nv;refine M7 (NS kz rfl (x:=rawInt T) rfl ?_)
 show ZJ _ _ (loadIfAlive (Int.toNat (T:Int)) >>= _) _ _ _
 rw[Oq];refine M7 (vE ?_)
 rw[kT]
 show ZJ _ _ (field (.ref (n+4)) 1 >>= _) _ _ _
 refine M7 (NS kz rfl (x:=.bool f) rfl ?_)
 cases f with
 |true=>
  rw[if_neg (by decide)]
  exact Nh (hk _ kz (λ_ _ _ e=>e) rfl)
 |false=>
  rw[if_pos (by decide)]
  refine M7 (OH kz (by simp) λh₁ kz₁ hs₁=>Nh (hk h₁ kz₁ (λc o c1 e=>hs₁.extBut _ _ c1 e) hs₁.1))
def BS{T:ZE}{Q:V1}(q:Zp s.heap n l1 t2 k xs ys)(kz:zO s.heap (n+4) (n+2) (n+3) (rawInt T) (.bool f))(kT:s.heap.get? T=ZA ob)(hx:xs[k]?=ZA x)(hy:ys[k]?=ZA y)
  (kq:∀h' p,s.heap.objs.size<=p->PD h' p x y->zO h' (n+4) (n+2) (n+3) (rawInt T) (.bool ZC)->Zp h' n l1 t2 (k+1) xs ys->(∀c o,c≠n->c≠n+1->c≠n+4->s.heap.get? c=ZA o->h'.get? c=ZA o)->Q (.ref p) {s with heap:=h'}):
  ZJ (ZK prog w) A (Builtin.«zip.__next__» ⟨[.ref (n+4)],[]⟩) (λfin s'=>∃v,fin=.done (.ret v)/\Q v s') E s:=by
 have b1:=q.b1
 have b2:=q.b2
 show ZJ _ _ (field (.ref (n+4)) 2 >>= _) _ _ _
 refine M7 (NS kz rfl (x:=.bool ZD) rfl ?_)
 show ZJ _ _ (field (.ref (n+4)) 3 >>= _) _ _ _
 refine M7 (NS kz rfl (x:=.ref (n+2)) rfl ?_)
 refine M7 (Oc q.pr rfl ?_)
 show ZJ _ _ (Nv (.ref (n+4)) >>= _) _ _ _
 refine M7 (lP kz kT λh₁ kz₁ e₁ z₁=>?_)
 have q₁:Zp h₁ n l1 t2 k xs ys:=q.keep λc o hc g=>e₁ c o (by omega) g
 simp only[NW,if_false,Rc,Pf,PV];refine M7 (M7 (M7 (OA ?_)))
 show ZJ _ _ (NB (.ref n) >>= _) _ _ _
 refine M7 (Rm q₁.i1 q₁.s1 hx λh₂ g₂ e₂=>Nh ?_)
 obtain⟨r1,r2,r3,r4⟩:=q₁.one g₂ e₂;refine Nh (M7 (M7 (OA ?_)))
 show ZJ _ _ (NB (.ref (n+1)) >>= _) _ _ _
 refine M7 (Enu.tupNext r1 r3 hy λh₃ g₃ e₃=>Nh (Nh (Nh ?_)))
 show ZJ _ _ (newTuple [x,y] >>= _) _ _ _
 refine M7 (Ru (Nh ⟨_,rfl,?_⟩))
 have z₃:h₃.objs.size=s.heap.objs.size:=by rw[e₃.1,e₂.1,z₁]
 have up:∀c o,c≠n->c≠n+1->h₁.get? c=ZA o->(h₃.push {cls:=.type "tuple",data:=.seq #[x,y]}).get? c=ZA o:=λc o c1 c2 g=>M8 _ (e₃.extBut _ _ c2 (e₂.extBut _ _ c1 g))
 refine kq _ h₃.objs.size (Pt z₃.symm) (Nn _ rfl) (up _ _ (bJ (by omega)) (bJ (by omega)) kz₁) ⟨b1,b2,up _ _ (bJ (by omega)) (bJ (by omega)) q₁.pr,?_,?_,?_,?_⟩ λc o c1 c2 c4 g=>up c o c1 c2 (e₁ c o c4 g)
 ·exact g₂.at λo g=>M8 _ (e₃.extBut _ _ (bJ (by omega)) g)
 ·exact g₃.at λo g=>M8 _ g
 ·exact q₁.s1.at λo g=>up _ o (bJ (by omega)) (bJ (by omega)) g
 ·exact hZ q₁.s2 λo g=>up _ o (bJ (by omega)) (bJ (by omega)) g
def AL{a b:Nf}{Q:V1}(q:Zp s.heap n l1 t2 k xs ys)(kz:zO s.heap (n+4) (n+2) (n+3) .none (.bool ZD))(ho:PD s.heap (n+3) a b)(hx:xs[k]?=ZA x)(hy:ys[k]?=ZA y)
  (kq:∀h' p,s.heap.objs.size<=p->PD h' p x y->zO h' (n+4) (n+2) (n+3) (rawInt p) (.bool ZD)->Zp h' n l1 t2 (k+1) xs ys->(∀c o,c≠n->c≠n+1->c≠n+3->c≠n+4->s.heap.get? c=ZA o->h'.get? c=ZA o)->Q (.ref p) {s with heap:=h'}):
  ZJ (ZK prog w) A (Builtin.«zip.__next__» ⟨[.ref (n+4)],[]⟩) (λfin s'=>∃v,fin=.done (.ret v)/\Q v s') E s:=by
 have b1:=q.b1
 have b2:=q.b2
 show ZJ _ _ (field (.ref (n+4)) 2 >>= _) _ _ _
 refine M7 (NS kz rfl (x:=.bool ZD) rfl ?_)
 show ZJ _ _ (field (.ref (n+4)) 3 >>= _) _ _ _
 refine M7 (NS kz rfl (x:=.ref (n+2)) rfl ?_)
 refine M7 (Oc q.pr rfl ?_)
 show ZJ _ _ (Nv (.ref (n+4)) >>= _) _ _ _
 have fr:ZJ (ZK prog w) A (Nv (.ref (n+4))) (λv s'=>v=ZC/\s'=s) E s:=by
  unfold Nv;exact M7 (NS kz rfl (x:=.none) rfl (Nh ⟨rfl,rfl⟩))
 refine M7 (Pl fr (λv s' hv=>?_) λ_ _ z=>z)
 obtain⟨rfl,rfl⟩:=hv;simp only[if_true];refine M7 (Qa (M7 (NS kz rfl (x:=.ref (n+3)) rfl (M7 (OH kz (by simp) λh₁ kz₁ e₁=>?_)))))
 replace kz₁:zO h₁ (n+4) (n+2) (n+3) .ellipsis (.bool ZD):=kz₁
 have q₁:Zp h₁ n l1 t2 k xs ys:=q.keep λc o hc g=>e₁.extBut c o (bJ (by omega)) g
 simp only[SX,Te,Pf,PV];refine M7 (M7 (M7 (Rh ?_)))
 show ZJ _ _ (NB (.ref n) >>= _) _ _ _
 refine M7 (Rm q₁.i1 q₁.s1 hx λh₂ g₂ e₂=>Nh ?_)
 obtain⟨r1,r2,r3,r4⟩:=q₁.one g₂ e₂
 have o₂:PD h₂ (n+3) a b:=e₂.extBut _ _ (bJ (by omega)) (e₁.extBut _ _ (bJ (by omega)) ho)
 refine M7 (Oc o₂ rfl (M7 (P0 o₂ λh₃ o₃ e₃=>M7 (SR (Nh ?_)))))
 replace o₃:PD h₃ (n+3) x b:=o₃
 refine M7 (M7 (Rh ?_))
 show ZJ _ _ (NB (.ref (n+1)) >>= _) _ _ _
 refine M7 (Enu.tupNext (r1.at λo g=>e₃.extBut _ _ (bJ (by omega)) g) (hZ r3 λo g=>e₃.extBut _ _ (bJ (by omega)) g) hy λh₄ g₄ e₄=>Nh ?_)
 have o₄:PD h₄ (n+3) x b:=e₄.extBut _ _ (bJ (by omega)) o₃
 refine M7 (Oc o₄ rfl (M7 (P0 o₄ λh₅ o₅ e₅=>M7 (SR (Nh (Nh ?_))))))
 replace o₅:PD h₅ (n+3) x y:=o₅
 refine M7 (Oc o₅ rfl (M7 (Ru ?_)))
 have z₅:h₅.objs.size=s'.heap.objs.size:=by rw[e₅.1,e₄.1,e₃.1,e₂.1,e₁.1]
 have up:∀c o,c≠n->c≠n+1->c≠n+3->h₁.get? c=ZA o->h₅.get? c=ZA o:=λc o c1 c2 c3 g=>e₅.extBut _ _ c3 (e₄.extBut _ _ c2 (e₃.extBut _ _ c3 (e₂.extBut _ _ c1 g)))
 show ZJ _ _ (OR (.ref (n+4)) (.ref h₅.objs.size) >>= _) _ _ _
 have z5:zO (h₅.push {cls:=.type "tuple",data:=.seq #[x,y]}) (n+4) (n+2) (n+3) .ellipsis (.bool ZD):=M8 _ (up _ _ (bJ (by omega)) (bJ (by omega)) (bJ (by omega)) kz₁)
 have hn:n+4<h₅.objs.size:=Np (up _ _ (bJ (by omega)) (bJ (by omega)) (bJ (by omega)) kz₁)
 refine M7 ?_
 unfold OR;refine M7 (OH z5 (by simp) λh₇ z₇ e₇=>?_)
 replace z₇:zO h₇ (n+4) (n+2) (n+3) (rawInt h₅.objs.size) (.bool ZD):=z₇
 refine OH z₇ (by simp) λh₈ z₈ e₈=>Nh ⟨_,rfl,?_⟩
 replace z₈:zO h₈ (n+4) (n+2) (n+3) (rawInt h₅.objs.size) (.bool ZD):=z₈
 have up8:∀c o,c≠n+4->h₅.get? c=ZA o->h₈.get? c=ZA o:=λc o c1 g=>e₈.extBut _ _ c1 (e₇.extBut _ _ c1 (M8 _ g))
 refine kq h₈ h₅.objs.size (Pt z₅.symm) (e₈.extBut _ _ (bJ (by omega)) (e₇.extBut _ _ (bJ (by omega)) (Nn _ rfl))) z₈ ⟨b1,b2,up8 _ _ (bJ (by omega)) (up _ _ (bJ (by omega)) (bJ (by omega)) (bJ (by omega)) q₁.pr),?_,?_,?_,?_⟩ λc o c1 c2 c3 c4 g=>up8 c o c4 (up c o c1 c2 c3 (e₁.extBut _ _ c4 g))
 ·exact g₂.at λo g=>up8 _ _ (bJ (by omega)) (e₅.extBut _ _ (bJ (by omega)) (e₄.extBut _ _ (bJ (by omega)) (e₃.extBut _ _ (bJ (by omega)) g)))
 ·exact g₄.at λo g=>up8 _ _ (bJ (by omega)) (e₅.extBut _ _ (bJ (by omega)) g)
 ·exact q₁.s1.at λo g=>up8 _ _ (bJ (by omega)) (up _ o (bJ (by omega)) (bJ (by omega)) (bJ (by omega)) g)
 ·exact hZ q₁.s2 λo g=>up8 _ _ (bJ (by omega)) (up _ o (bJ (by omega)) (bJ (by omega)) (bJ (by omega)) g)
def BR{T:ZE}{Q:Fin->Ng->Prop}(hh:A.handled=ZB)(q:Zp s.heap n l1 t2 k xs ys)(kz:zO s.heap (n+4) (n+2) (n+3) (rawInt T) (.bool f))(kT:s.heap.get? T=ZA ob)(hx:xs[k]?=ZB)
  (ke:∀h' e,(∀c o,c≠n->c≠n+4->s.heap.get? c=ZA o->h'.get? c=ZA o)->(∃o,h'.get? e=ZA o/\o.cls=.type "StopIteration")->E (.ref e) {s with heap:=h'}):
  ZJ (ZK prog w) A (Builtin.«zip.__next__» ⟨[.ref (n+4)],[]⟩) Q E s:=by
 show ZJ _ _ (field (.ref (n+4)) 2 >>= _) _ _ _
 refine M7 (NS kz rfl (x:=.bool ZD) rfl ?_)
 show ZJ _ _ (field (.ref (n+4)) 3 >>= _) _ _ _
 refine M7 (NS kz rfl (x:=.ref (n+2)) rfl ?_)
 refine M7 (Oc q.pr rfl ?_)
 show ZJ _ _ (Nv (.ref (n+4)) >>= _) _ _ _
 refine M7 (lP kz kT λh₁ kz₁ e₁ z₁=>?_)
 have q₁:Zp h₁ n l1 t2 k xs ys:=q.keep λc o hc g=>e₁ c o (by omega) g
 simp only[NW,if_false,Rc,Pf,PV];refine M7 (M7 (M7 (OA ?_)))
 show ZJ _ _ (NB (.ref n) >>= _) _ _ _
 exact M7 (TB hh q₁.i1 q₁.s1 hx λh₂ e e₂ he=>ke h₂ e (λc o c1 c4 g=>e₂ _ _ c1 (e₁ c o c4 g)) he)
def EJ{T:ZE}(q:Zp s.heap n l1 t2 k xs ys)(kz:zO s.heap (n+4) (n+2) (n+3) (rawInt T) (.bool f))(kT:s.heap.get? T=ZA ob)(hx:xs[k]?=ZA x)(hy:ys[k]?=ZA y)
  (kq:∀h' p,s.heap.objs.size<=p->PD h' p x y->zO h' (n+4) (n+2) (n+3) (rawInt T) (.bool ZC)->Zp h' n l1 t2 (k+1) xs ys->(∀c o,c≠n->c≠n+1->c≠n+4->s.heap.get? c=ZA o->h'.get? c=ZA o)->Q (ZA (.ref p)) {s with heap:=h'}):
  ZJ (ZK prog w) A (pyNext (.ref (n+4))) Q E s:=by
 have hy':s.TypeIs (.ref (n+4)) "zip":=⟨_,kz,rfl⟩;unfold pyNext;exact M7 (PN (NT (name:=Nt "__next__") hy' OI (N9 OI hy' QX (BS q kz kT hx hy λh' p a1 a2 a3 a4 a5=>Nh (kq h' p a1 a2 a3 a4 a5)) (QF _))))
def BQ{a b:Nf}(q:Zp s.heap n l1 t2 k xs ys)(kz:zO s.heap (n+4) (n+2) (n+3) .none (.bool ZD))(ho:PD s.heap (n+3) a b)(hx:xs[k]?=ZA x)(hy:ys[k]?=ZA y)
  (kq:∀h' p,s.heap.objs.size<=p->PD h' p x y->zO h' (n+4) (n+2) (n+3) (rawInt p) (.bool ZD)->Zp h' n l1 t2 (k+1) xs ys->(∀c o,c≠n->c≠n+1->c≠n+3->c≠n+4->s.heap.get? c=ZA o->h'.get? c=ZA o)->Q (ZA (.ref p)) {s with heap:=h'}):
  ZJ (ZK prog w) A (pyNext (.ref (n+4))) Q E s:=by
 have hy':s.TypeIs (.ref (n+4)) "zip":=⟨_,kz,rfl⟩;unfold pyNext;exact M7 (PN (NT (name:=Nt "__next__") hy' OI (N9 OI hy' QX (AL q kz ho hx hy λh' p a1 a2 a3 a4 a5=>Nh (kq h' p a1 a2 a3 a4 a5)) (QF _))))
def EI{T:ZE}(hh:A.handled=ZB)(q:Zp s.heap n l1 t2 k xs ys)(kz:zO s.heap (n+4) (n+2) (n+3) (rawInt T) (.bool f))(kT:s.heap.get? T=ZA ob)(hx:xs[k]?=ZB)
  (kq:∀h',(∀c o,c≠n->c≠n+4->s.heap.get? c=ZA o->h'.get? c=ZA o)->Q ZB {s with heap:=h'}):ZJ (ZK prog w) A (pyNext (.ref (n+4))) Q E s:=by
 have hy':s.TypeIs (.ref (n+4)) "zip":=⟨_,kz,rfl⟩;unfold pyNext;refine M7 (PN (NT (name:=Nt "__next__") hy' OI (N9 OI hy' QX (BR hh q kz kT hx λh' e a1 he=>?_) (QF _))))
 obtain⟨o,ho,hc⟩:=he;exact M7 (RJ (T:="StopIteration") (b:=ZC) ⟨o,ho,hc⟩ Sk (Nh (kq _ a1)))
def EK{f0 f1:Nf}{Q:V1}(kz:zO s.heap (n+4) (n+2) (n+3) f0 f1)(h:Q (.ref (n+4)) s):ZJ (ZK prog w) A (pyIter (.ref (n+4))) Q E s:=by
 have hy':s.TypeIs (.ref (n+4)) "zip":=⟨_,kz,rfl⟩;refine SB hy' RW (N9 RW hy' Vk ?_ (US _))
 show ZJ _ _ (ret (.ref (n+4))) _ _ s
 exact Nh ⟨_,rfl,"zip",_,hy',OI.lookup,h⟩
end
noncomputable abbrev J9(h:ZH)(l t:ZE):ZH:=h.push {cls:=.type "list_iterator",data:=.fields #[.ref l,.int 0 0]}
abbrev LP(h:ZH)(l t:ZE):ZH:=(J9 h l t).push {cls:=.type "tuple_iterator",data:=.fields #[.ref t,.int 0 0]}
noncomputable abbrev LN(h:ZH)(l t:ZE):ZH:=(LP h l t).push {cls:=.type "tuple",data:=.seq #[.ref h.objs.size,.ref (J9 h l t).objs.size]}
noncomputable abbrev LM(h:ZH)(l t:ZE):ZH:=(LN h l t).push {cls:=.type "tuple",data:=.seq #[.none,.none]}
noncomputable abbrev GW(h:ZH)(l t:ZE):ZH:=(LM h l t).push {cls:=.type "zip",data:=.fields #[.none,.bool ZD,.bool ZD,.ref (LP h l t).objs.size,.ref (LN h l t).objs.size]}
def A7(l t:ZE)(xs ys:Array Nf):Meets (Builtin.«zip.__new__» ⟨[.type "zip",.ref l,.ref t],[]⟩) (λ_ R s=>s.heap.IsList l xs/\s.heap.IsTuple t ys/\R (.ok (.ret (.ref (LM s.heap l t).objs.size))) {s with heap:=GW s.heap l t}):=
 .of_wp λprog w A R s q=>by
  obtain⟨hp,g,d,tk,os⟩:=s;obtain⟨a1,a2,q⟩:=q
  have k0:=sub_zip
  have k1:Heap.IsList (SF ⟨hp,g,d,tk,os⟩) l xs:=a1
  have k2:Heap.IsTuple (SF ⟨J9 hp l t,g,d,tk,os⟩) t ys:=hZ a2 λo e=>M8 _ e
  wp_walk using QK k1,PM k2
  exact⟨_,rfl,q⟩
def EL{l t:ZE}{Q:V1}(a1:s.heap.IsList l xs)(a2:s.heap.IsTuple t ys)
  (q:∀h',Zp h' s.heap.objs.size l t 0 xs ys->zO h' (s.heap.objs.size+4) (s.heap.objs.size+2) (s.heap.objs.size+3) .none (.bool ZD)->PD h' (s.heap.objs.size+3) .none .none->h'.objs.size=s.heap.objs.size+5 →
   (∀c o,s.heap.get? c=ZA o->h'.get? c=ZA o)->Q (.ref (s.heap.objs.size+4)) {s with heap:=h'}):
  ZJ (ZK prog w) A (call (.type "zip") [.ref l,.ref t]) Q E s:=by
 refine Vc F.called_zip (by decide) (Vl _ _) (VD _ _) (λobj=>TR obj _ _) VE (A7 l t xs ys) ⟨a1,a2,?_⟩
 have z1:(J9 s.heap l t).objs.size=s.heap.objs.size+1:=NY ..
 have z2:(LP s.heap l t).objs.size=s.heap.objs.size+2:=by rw[NY,z1]
 have z3:(LN s.heap l t).objs.size=s.heap.objs.size+3:=by rw[NY,z2]
 have z4:(LM s.heap l t).objs.size=s.heap.objs.size+4:=by rw[NY,z3]
 have z5:(GW s.heap l t).objs.size=s.heap.objs.size+5:=by rw[NY,z4]
 have g5:(GW s.heap l t).get? (LM s.heap l t).objs.size=ZA _:=Nn _ rfl
 have g4:(GW s.heap l t).get? (LN s.heap l t).objs.size=ZA _:=M8 _ (Nn _ rfl)
 have g3:(GW s.heap l t).get? (LP s.heap l t).objs.size=ZA _:=M8 _ (M8 _ (Nn _ rfl))
 have g2:(GW s.heap l t).get? (J9 s.heap l t).objs.size=ZA _:=M8 _ (M8 _ (M8 _ (Nn _ rfl)))
 have g1:(GW s.heap l t).get? s.heap.objs.size=ZA _:=M8 _ (M8 _ (M8 _ (M8 _ (Nn _ rfl))))
 have up:∀c o,s.heap.get? c=ZA o->(GW s.heap l t).get? c=ZA o:=λc o e=>M8 _ (M8 _ (M8 _ (M8 _ (M8 _ e))))
 show _/\_
 rw[z2,z3,z4]at g5;rw[z1,z2]at g3;rw[z3]at g4;rw[z1]at g2;rw[z4]
 have lt1:l<s.heap.objs.size:=by obtain⟨o,e,_⟩:=a1;exact Np e
 have lt2:t<s.heap.objs.size:=by obtain⟨o,e,_⟩:=a2;exact Np e
 exact⟨⟨_,g5,rfl⟩,q _ ⟨lt1,lt2,g3,⟨_,g1,rfl,rfl⟩,⟨_,g2,rfl,rfl⟩,a1.at λo e=>up _ o e,hZ a2 λo e=>up _ o e⟩ g5 g4 z5 up⟩
end PySem
namespace Tr
open PySem PySem.Spec PyProof.Rows L2
def ZAt(H:Hp):List V->List V->List (List Key×V)->Prop
 |[],[],ps=>ps=[]
 |x::xs,y::ys,ps=>∃kb p r,ps=p::r/\x=.ref kb/\H kb=ZA (.tup (p.1.map kV))/\p.2=y/\ZAt H xs ys r
 |_,_,_=>False
variable{H:Hp}
theorem ZAt.mono{H':Hp}(h:∀b vs,H b=ZA (.tup vs)->H' b=ZA (.tup vs)):∀{xs ys:List V}{ps:List (List Key×V)},ZAt H xs ys ps->ZAt H' xs ys ps
 |[],[],_,z=>z
 |[],_::_,_,z=>z
 |_::_,[],_,z=>z
 |x::xs,y::ys,_,⟨kb,p,r,e1,e2,e3,e4,e5⟩=>⟨kb,p,r,e1,e2,h _ _ e3,e4,e5.mono h⟩
theorem ZAt.len:∀{xs ys:List V}{ps:List (List Key×V)},ZAt H xs ys ps->xs.length=ys.length
 |[],[],_,_=>rfl
 |[],_::_,_,z=>z.elim
 |_::_,[],_,z=>z.elim
 |x::xs,y::ys,_,⟨kb,p,r,e1,e2,e3,e4,e5⟩=>by rw[Nj,Nj,e5.len]
variable{X:Cx}{bv:V2}{σ:L2.St}
section
variable {d it:ZE}
def As{Ex:ZH->Prop}{kvs:List (List Key×V)}{kb:ZE}{kk:List Key}{v:V}(hu:A.units+3<cLine)(hd:H d=ZA (.dT kvs))(hz:kvs.length<1000)(hk:H kb=ZA (.tup (kk.map kV)))
  (hn:∀{Q:Option Nf->Ng->Prop}{E:V1},(∀h' p u2,Inv X bv σ H {s with heap:=h'}->PD h' p (.ref kb) u2->RelV v u2->Ex h'->Q (ZA (.ref p)) {s with heap:=h'})->ZJ (ZK X.prog X.w) A.in1 (pyNext (.ref it)) Q E s)
  (nx:∀h' h2 tk,Ex h'->(∀c,c≠d->h2.get? c=h'.get? c)->Inv X bv σ (upd H d (.dT (cF kvs kk v))) {s with heap:=h2,toks:=tk}->ZL (ZK X.prog X.w) A (.builtin "dict.update.loop" ⟨[.ref d,.ref it,rawInt ((i+1:Nat):Int),res],[]⟩) R {s with heap:=h2,toks:=tk}):
  ZL (ZK X.prog X.w) A (.builtin "dict.update.loop" ⟨[.ref d,.ref it,rawInt (i:Nat),res],[]⟩) R s:=by
 refine PB F.entry_dict_update_loop ?_
 rw[OM F.plain_dict_update_loop _]
 show ZJ _ A.in1 (pyNext (.ref it) >>= _) _ _ s
 refine M7 (hn λh' p u2 I1 hp q2 hx=>?_)
 show ZJ _ A.in1 (holding [Nx p] _ >>= _) _ _ _
 refine M7 (OA (M7 (wpAny_tryCatch ?_)))
 unfold S1;refine M7 (Qe (s:={s with heap:=h'}) (T:="tuple") ⟨_,hp,rfl⟩ ?_)
 rw[if_pos (by decide)]
 refine M7 (Oc (s:={s with heap:=h'}) hp rfl (Nh ?_))
 show ZJ _ _ (holding [Nx kb,u2] (dictSet d (.ref kb) u2)) _ _ _
 refine OA ?_
 obtain⟨zz,hds,xs2,rel,dd⟩:=Aq I1.hok hd
 have hzl:xs2.length<=ZI:=by rw[<-Q7 rel];exact zz
 have hkl:kvs.length<ZI:=by rw[ON];omega
 have hl2:(cF kvs kk v).length<=ZI:=by have:=dU kvs kk v;omega
 refine UF (hsz:=hzl) (PP (by show A.units+1<cLine;omega)) (key_of I1.hok hk) dd λh2 dd2 hs2=>?_
 obtain⟨q,es,ep,hq,h22,h3,h4,_,h5⟩:=dd2
 have I2:Inv X bv σ (upd H d (.dT (cF kvs kk v))) {s with heap:=h2,toks:=s.toks+(RC (cj X.prog X.w)).draws kk}:=
  kJ (s:={s with heap:=h'}) I1 (by rw[hd];exact Pw) hs2 ⟨q,hq⟩ ⟨hl2,hds,_,(rel.put kk hk q2).keeps λc ys ec=>by rw[aG (jV ec hd (λz=>nomatch z))];exact ec,q,es,ep,hq,h22,h3,h4,h5⟩
 have hcast:(i:Int)+1=((i+1:Nat):Int):=by omega
 refine Nh ⟨Qm F.plain_dict_update_loop _,?_⟩
 rw[hcast];exact nx h' h2 _ hx (λc hc=>hs2.2 c hc) I2
def JT(hn:∀{Q:Option Nf->Ng->Prop}{E:V1},(∀h',R (.ok (.ret res)) {s with heap:=h'}->Q ZB {s with heap:=h'})->ZJ (ZK X.prog X.w) A.in1 (pyNext (.ref it)) Q E s):
  ZL (ZK X.prog X.w) A (.builtin "dict.update.loop" ⟨[.ref d,.ref it,rawInt (i:Nat),res],[]⟩) R s:=by
 refine PB F.entry_dict_update_loop ?_
 rw[OM F.plain_dict_update_loop _]
 show ZJ _ A.in1 (pyNext (.ref it) >>= _) _ _ s
 refine M7 (hn λh' hr=>?_)
 show ZJ _ _ (So d [] >>= _) _ _ _
 exact M7 (Nh (Nh hr))
def EM{us ws:Array Nf}{xs ys:List V}{T:ZE}(hh:A.handled=ZB)(hu:A.units+3<cLine)(rx:Vals xs us.toList)(ry:Vals ys ws.toList)(hTn:n+4<T)(hTd:T≠d):∀(k i:Nat)(s:Ng)(H:Hp)(kvs ps:List (List Key×V))(f:Bool)(ob:Obj),xs.length - i=k->i<=xs.length->H d=ZA (.dT kvs)->kvs.length+(xs.length - i)<=1000 →
  Inv X bv σ H s->Zp s.heap n l1 t2 i us ws->zO s.heap (n+4) (n+2) (n+3) (rawInt T) (.bool f)->s.heap.get? T=ZA ob->(∀j:Nat,j<5->mK X bv H (n+j))->l1≠d->t2≠d->ZAt H (xs.drop i) (ys.drop i) ps →
  (∀s',Inv X bv σ (upd H d (.dT (et kvs ps))) s'->R (.ok (.ret res)) s')->ZL (ZK X.prog X.w) A (.builtin "dict.update.loop" ⟨[.ref d,.ref (n+4),rawInt i,res],[]⟩) R s:=by
 have lenx:=rx.length
 have leny:=ry.length;intro k
 induction k with
 |zero=>
  intro i s H kvs ps f ob hk hi hd hz I q kz kT hf hl1 ht2 hp hR
  have hnil:xs.drop i=[]:=Qs (by omega)
  have hny:ys.drop i=[]:=by
   have:=hp.len;rw[hnil]at this;exact SI.mp this.symm
  rw[hnil,hny]at hp;unfold ZAt at hp;subst hp
  have e2:upd H d (.dT (et kvs []))=H:=by
   funext b
   by_cases hb:b=d
   ·rw[hb,aI,hd];rfl
   ·rw[aG hb]
  rw[e2]at hR;refine JT λ{Q E} hq=>EI hh q kz kT (by rw[Rl];rw[<-NX];omega) λh' e=>hq h' (hR _ ?_)
  exact I.KB (fp:=[n,n+4]) (t':=s.toks) (λb hb=>by
   simp only[Nl,N8,or_false]at hb;rcases hb with rfl|rfl
   ·exact hf 0 (by omega)
   ·exact hf 4 (by omega)) λb o hb eb=>e b o (λz=>hb (by rw[z];simp)) (λz=>hb (by rw[z];simp)) eb
 |succ k ih=>
  intro i s H kvs ps f ob hk hi hd hz I q kz kT hf hl1 ht2 hp hR
  have hlt:i<xs.length:=by omega
  have hdx:xs.drop i=xs[i] ::xs.drop (i+1):=O9 hlt
  have hyl:i<ys.length:=by
   have:=hp.len;rw[Qn,Qn]at this;omega
  have hdy:ys.drop i=ys[i] ::ys.drop (i+1):=O9 hyl;rw[hdx,hdy]at hp;obtain⟨kb,p,r,rfl,ex,hkb,ep,hp'⟩:=hp;obtain⟨u1,q1,q2⟩:=rx.get (Nk hlt)
  obtain⟨u2,q3,q4⟩:=ry.get (Nk hyl)
  rw[Rx]at q1 q3
  rw[ex]at q2;obtain rfl:u1=Nx kb:=q2;rw[<-ep]at q4
  have hd0:∀j:Nat,j<5->n+j≠d:=λj hj z=>by have:=(hf j hj).1;rw[z,hd]at this;cases this
  refine As (bv:=bv) (σ:=σ) (Ex:=λh'=>Zp h' n l1 t2 (i+1) us ws/\zO h' (n+4) (n+2) (n+3) (rawInt T) (.bool ZC)/\h'.get? T=ZA ob) hu hd (by omega) hkb (λ{Q E} hq=>EJ q kz kT q1 q3 λh' b _ a2 a3 a4 a5=>hq h' b u2 ?_ a2 q4 ⟨a4,a3,a5 _ _ (bJ (by omega)) (bJ (by omega)) (bJ (by omega)) kT⟩) λh1 h2 tk hx3 e2 I2=>?_
  ·exact I.KB (fp:=[n,n+1,n+4]) (t':=s.toks) (λb hb=>by
    simp only[Nl,N8,or_false]at hb;rcases hb with rfl|rfl|rfl
    ·exact hf 0 (by omega)
    ·exact hf 1 (by omega)
    ·exact hf 4 (by omega)) λb o hb eb=>a5 b o (λz=>hb (by rw[z];simp)) (λz=>hb (by rw[z];simp)) (λz=>hb (by rw[z];simp)) eb
  ·obtain⟨x1,x2,x3⟩:=hx3
   have lt1:=x1.b1
   have lt2:=x1.b2
   have x1':Zp h2 n l1 t2 (i+1) us ws:=⟨x1.b1,x1.b2,(e2 _ (hd0 2 (by omega))).trans x1.pr,x1.i1.at λo g=>(e2 _ (hd0 0 (by omega))).trans g,x1.i2.at λo g=>(e2 _ (hd0 1 (by omega))).trans g,x1.s1.at λo g=>(e2 _ hl1).trans g,hZ x1.s2 λo g=>(e2 _ ht2).trans g⟩
   refine ih (i+1) _ (upd H d (.dT (cF kvs p.1 p.2))) (cF kvs p.1 p.2) r ZC ob (by omega) (by omega) aI (by have:=dU kvs p.1 p.2;omega) I2 x1' ((e2 _ (hd0 4 (by omega))).trans x2) ((e2 _ hTd).trans x3) (λj hj=>⟨by rw[aG (hd0 j hj)];exact(hf j hj).1,(hf j hj).2⟩) hl1 ht2 (hp'.mono λb vs e=>by rw[aG (jV e hd (λz=>nomatch z))];exact e) λs' I'=>?_
   rw[iX]at I';exact hR s' I'
end
section
variable {us ws:Array Nf}{xs ys:List V}{ps:List (List Key×V)}
def GG{Q:V1}(hh:A.handled=ZB)(hu:A.units+8<cLine)(I:Inv X bv σ H s)(q:Zp s.heap n l1 t2 0 us ws)(kz:zO s.heap (n+4) (n+2) (n+3) .none (.bool ZD))(ko:PD s.heap (n+3) .none .none)
  (hf:∀j:Nat,j<5->mK X bv H (n+j)) (rx:Vals xs us.toList) (ry:Vals ys ws.toList) (h1:1<=xs.length) (hz:xs.length<=1000) (hp:ZAt H xs ys ps)
  (h:∀p s',Nw X.K H p->Inv X bv σ (upd H p (.dT (et [] ps))) s'->Q (.ref p) s'):ZJ (ZK X.prog X.w) A (call (.type "dict") [.ref (n+4)]) Q E s:=by
 have hk:X.K.lookup s.heap.objs.size=ZB:=by
  cases q:X.K.lookup s.heap.objs.size with
  |none=>rfl
  |some o=>exact absurd (Np (I.kIn _ o q)) (NK _)
 have hn:H s.heap.objs.size=ZB:=I.hok.fresh (Nr _)
 have z4:n+4<s.heap.objs.size:=Np kz
 have b1:=q.b1
 have b2:=q.b2;refine callType_codes (Q₁:=λobj s₁=>obj=.ref s.heap.objs.size/\s₁= {s with heap:=s.heap.push {cls:=.type "dict",data:=.dict #[]}}) Vj (TQ _) UP (Vq _ ⟨rfl,rfl⟩) ?_
 rintro obj s₁ ⟨rfl,rfl⟩
 have I1:Inv X bv σ (upd H s.heap.objs.size (.dT [])) {s with heap:=s.heap.push {cls:=.type "dict",data:=.dict #[]}}:=I.laid (a:=s.heap.objs.size) (o:=.dT []) (t':=s.toks) (λ_ _ q=>M8 _ q) (Nr _) (qw s.heap I.big)
 have hT:({s with heap:=s.heap.push {cls:=.type "dict",data:=.dict #[]}}:Ng).TypeIs (.ref s.heap.objs.size) "dict":=⟨_,Nn _ rfl,rfl⟩
 have kz1:zO (s.heap.push {cls:=.type "dict",data:=.dict #[]}) (n+4) (n+2) (n+3) .none (.bool ZD):=M8 _ kz
 refine⟨hT,Uo _ _,?_⟩
 unfold Builtin.«dict.__init__»;refine M7 ?_
 unfold Sq;refine M7 (RD hT ?_)
 show ZJ _ _ (pure (s.heap.objs.size,[Nx (n+4)])) _ _ _
 refine Nh ?_
 show ZJ _ _ (Qg "dict.__init__" s.heap.objs.size (.ref (n+4)) [] .none) _ _ _
 unfold Qg;refine M7 (Qe (T:="zip") ⟨_,kz1,rfl⟩ ?_)
 rw[if_pos (by decide)]
 refine M7 (zk3 kz1 hh λh' tk' kp=>?_)
 have I2:Inv X bv σ (upd H s.heap.objs.size (.dT [])) {s with heap:=h',toks:=tk'}:=I1.kept (t':=tk') kp
 have up:∀c o,s.heap.get? c=ZA o->h'.get? c=ZA o:=λc o e=>kp c o (M8 _ e)
 rw[if_pos (by rfl)]
 refine M7 (Qa ?_)
 have kz2:zO h' (n+4) (n+2) (n+3) .none (.bool ZD):=up _ _ kz;refine M7 (EK (s:={s with heap:=h',toks:=tk'}) kz2 ?_)
 refine Nh ⟨Qm F.plain_dict_update_loop _,?_⟩
 have q2:Zp h' n l1 t2 0 us ws:=q.keep λc o _ e=>up c o e
 have hsz:s.heap.objs.size<h'.objs.size:=Np (kp _ _ (Nn _ rfl))
 have hf2:∀j:Nat,j<5->mK X bv (upd H s.heap.objs.size (.dT [])) (n+j):=λj hj=>⟨by rw[aG (bJ (by omega))];exact(hf j hj).1,(hf j hj).2⟩
 obtain⟨x,xs',rfl⟩:∃x xs',xs=x::xs':=by
  cases xs with
  |nil=>simp at h1
  |cons x xs'=>exact⟨x,xs',rfl⟩
 obtain⟨y,ys',rfl⟩:∃y ys',ys=y::ys':=by
  cases ys with
  |nil=>exact hp.elim
  |cons y ys'=>exact⟨y,ys',rfl⟩
 obtain⟨kb,p,r,rfl,ex,hkb,ep,hp'⟩:=hp;obtain⟨u1,v1,v2⟩:=rx.get (i:=0) rfl;obtain⟨u2,v3,v4⟩:=ry.get (i:=0) rfl;rw[Rx]at v1 v3
 rw[ex]at v2;obtain rfl:u1=Nx kb:=v2;rw[<-ep]at v4;rw[Nj]at hz
 have tupk:∀(o:List (List Key×V)) b vs,H b=ZA (.tup vs)->upd H s.heap.objs.size (.dT o) b=ZA (.tup vs):=λo b vs e=>by rw[aG (λz=>by rw[z,hn]at e;cases e)];exact e
 refine As (A:=A.in1) (X:=X) (bv:=bv) (σ:=σ) (i:=0) (kvs:=[]) (Ex:=λh1=>Zp h1 n l1 t2 1 us ws/\∃T ob,h'.objs.size<=T/\zO h1 (n+4) (n+2) (n+3) (rawInt T) (.bool ZD)/\h1.get? T=ZA ob) (by show A.units+1+3<cLine;omega) aI (by simp) (tupk _ _ _ hkb)
  (λ{Q E} hq=>BQ q2 kz2 (up _ _ ko) v1 v3 λh1 b a1 a2 a3 a4 a5=>hq h1 b u2 ?_ a2 v4 ⟨a4,b,_,a1,a3,a2⟩) λh1 h2 tk hx3 e2 I3=>?_
 ·exact I2.KB (fp:=[n,n+1,n+3,n+4]) (t':=tk') (λb hb=>by
   simp only[Nl,N8,or_false]at hb;rcases hb with rfl|rfl|rfl|rfl
   ·exact hf2 0 (by omega)
   ·exact hf2 1 (by omega)
   ·exact hf2 3 (by omega)
   ·exact hf2 4 (by omega)) λb o hb eb=>a5 b o (λz=>hb (by rw[z];simp)) (λz=>hb (by rw[z];simp)) (λz=>hb (by rw[z];simp)) (λz=>hb (by rw[z];simp)) eb
 ·obtain⟨x1,T,ob,hTs,x2,x3⟩:=hx3
  have hd0:∀j:Nat,j<5->n+j≠s.heap.objs.size:=λj hj=>bJ (by omega)
  have x1':Zp h2 n l1 t2 1 us ws:=⟨x1.b1,x1.b2,(e2 _ (hd0 2 (by omega))).trans x1.pr,x1.i1.at λo g=>(e2 _ (hd0 0 (by omega))).trans g,x1.i2.at λo g=>(e2 _ (hd0 1 (by omega))).trans g,x1.s1.at λo g=>(e2 _ (bJ (by omega))).trans g,hZ x1.s2 λo g=>(e2 _ (bJ (by omega))).trans g⟩
  rw[iX]at I3;refine EM (A:=A.in1) (X:=X) (bv:=bv) (σ:=σ) (xs:=x::xs') (ys:=y::ys') (T:=T) hh (by show A.units+1+3<cLine;omega) rx ry (by omega) (bJ (by omega)) xs'.length 1 _ (upd H s.heap.objs.size (.dT (cF [] p.1 p.2))) (cF [] p.1 p.2) r ZD ob (by rw[Nj];omega) (by rw[Nj];omega) aI (by rw[Nj];show 1+_<=1000;omega) I3 x1' ((e2 _ (hd0 4 (by omega))).trans x2) ((e2 _ (bJ (by omega))).trans x3) (λj hj=>⟨by rw[aG (hd0 j hj)];exact(hf j hj).1,(hf j hj).2⟩) (bJ (by omega)) (bJ (by omega)) (hp'.mono (tupk _)) λs' I'=>?_
  rw[iX]at I';exact⟨rfl,h _ _ ⟨hn,hk⟩ I'⟩
theorem GX{O:Ow}:∀{l m:List T}{xs ys:List V},iO l=ZC->l.length=m.length->Reps K O H l xs->Reps K O H m ys->∃ps,ZAt H xs ys ps/\LD K O H (l.zip m) ps
 |[],[],xs,ys,_,_,r1,r2=>by cases Reps.AC.mp r1;cases Reps.AC.mp r2;exact⟨[],rfl,rfl⟩
 |[],_::_,_,_,_,h,_,_=>by simp at h
 |_::_,[],_,_,_,h,_,_=>by simp at h
 |a::l,b::m,xs,ys,hk,h,r1,r2=>by
  obtain⟨v,vs,rfl,p1,q1⟩:=Reps.me.mp r1;obtain⟨w,ws,rfl,p2,q2⟩:=Reps.me.mp r2;unfold iO at hk;rw[Ni]at hk;obtain⟨kk,ek⟩:=P4.mp hk.1;obtain⟨ps,g1,g2⟩:=GX hk.2 (by simpa using h) q1 q2
  obtain⟨kb,f5,f6⟩:=gz ek p1;exact⟨(kk,w)::ps,⟨kb,(kk,w),ps,rfl,f5,f6,rfl,g1⟩,⟨(kk,w),ps,rfl,ek,p2,g2⟩⟩
end
section
variable {a b:ZG}{fs:V3}{p p1 p2 pos:Pos}
def Iy(hu:X.A.units+8<cLine)(hc:X.calm=ZC)(hm:X.mg "dict" =ZB)(hmz:X.mg "zip" =ZB)(ha:sW X [a,b] fs)(hst:bM [a,b]=ZC:=by rfl)(hg:Gl X "dict":=by rfl)(hgz:Gl X "zip":=by rfl):
  cJ X (.Call (.Name "dict" p) [.Call (.Name "zip" p1) [a,b] [] p2] [] pos) (cl Lx fs):=by
 intro bv s σ H Q I ⟨Z,O,Ev,hq⟩
 have e1:NF [Pr (.Name "zip" p1) [a,b] [] p2] X.env=(ZD,eval (.Call (.Name "zip" p1) [a,b] [] p2) X.env)::NF [] X.env:=bh rfl;unfold bM at hst;rw[Ni]at hst
 have e2:NF [a,b] X.env=(ZD,eval a X.env)::NF [b] X.env:=bh hst.1;refine Oy (fO I hg hm (show N5 "dict" =ZA (.type "dict")by decide+kernel) ?_ (by decide) (by decide))
 refine N1 ?_ e1 rfl
 rw[e1];refine PJ ?_
 refine Oy (fO I hgz hmz (show N5 "zip" =ZA (.type "zip")by decide+kernel) ?_ (by decide) (by decide))
 refine N1 (cz (ha p2 bv s σ H _ I (fh Ev hq)) λus s1 ⟨vs,H1,I1,r1,ts,rs,s',E',q1⟩=>?_) e2 (gG hst.2)
 unfold Lx at q1
 split at q1
 ·rename_i l m
  by_cases hz:iO l=ZC/\l.length=m.length/\1<=l.length/\l.length<=1000
  ·rw[if_pos hz]at q1
   obtain⟨v1,vs1,rfl,ra,rb⟩:=Reps.me.mp rs;obtain⟨v2,rfl,rc⟩:=rb.one;obtain⟨c1,xs,rfl,_,hx,rx⟩:=Rep.Fk.mp ra;obtain⟨c2,ys,rfl,_,hy,ry⟩:=Rep.Do.mp rc
   cases r1 with
   |cons w1 w2=>
    obtain⟨u2,rfl,w3⟩:=Vals.one w2;cases w1;obtain rfl:u2=Nx c2:=w3;obtain⟨z,its,n,rv,hlen,e⟩:=I1.Mc hx;obtain⟨z2,its2,r2,ob,hob1,hob2,nb,hob3⟩:=(show ObjOk X.prog X.w H1 s1.heap c2 (.tup ys)from I1.hok c2 _ hy)
    refine EL (xs:=its.toArray) (ys:=its2.toArray) ⟨_,e,rfl,n,rfl⟩ ⟨ob,hob1,hob2,nb,hob3⟩ λh' g1 g2 g3 g4 g5=>?_
    refine P3 ?_
    have I2:Inv X bv σ H1 {s1 with heap:=h'}:=I1.kept (t':=s1.toks) g5
    obtain⟨ps,k1,k2⟩:=GX hz.1 hz.2.1 rx ry;refine GG (I2.ok.hd hc) hu I2 g1 g2 g3 (λj hj=>I1.Mi (by omega) (I1.hok.fresh (by omega))) rv r2 (by rw[<-rx.length];exact hz.2.2.1) (by rw[<-rx.length];exact hz.2.2.2) k1 λq s' nw I'=>⟨.ref q,_,I',rfl,q1 _ (aV nw.1 _) _ ?_⟩
    obtain⟨d1,d2⟩:=ng (ks:=[]) (ts:=[]) (kvs:=[]) k2 rfl Reps.nil_ Pu;exact Rep.Gc.mpr ⟨q,_,rfl,E'.fresh nw.1,.inl aI,d1,d2.same (aV nw.1 _)⟩
  ·rw[if_neg hz]at q1;exact q1.elim
 ·exact q1.elim
end
def tR(i j:Nat)(src:List (Option Nat))(tgt:T->En->Rs En)(fc:V6)(fe:V5)(Z:En):Rs Fl:=match Z[i]? with
 |some (.ow (.dct _ _))=>match eh (iD (vr i)) src tgt fc fe (disown i Z)with
  |.ok t=>if t.nk ZC=ZC/\j<Z.length then .ok (.nx (Z.set j (.va t)))else .bad
  |_=>.bad
 |_=>.bad
end Tr
namespace PySem
open Sem (wp)
section
variable {d it:ZE}{ob:Obj}{es:Array RB}
def Gb{Q:V1}(k0:(d == PH)=ZD)(k1:s.heap.get? d=ZA ob)(k2:ob.ExactDict)(k3:ob.data=.dict es ep)
  (q:Q (.ref s.heap.objs.size) {s with heap:=s.heap.push {cls:=.type "dict_keyiterator",data:=.fields #[.ref d,.int 0 0,.int es.size 0,.int ep 0]}}):ZJ (ZK prog w) A (pyIter (.ref d)) Q E s:=by
 have ty:s.TypeIs (.ref d) "dict":=⟨ob,k1,k2.1⟩;refine SB ty Vm (N9 Vm ty F.entry_dict_iter ?_ (F.args_dict_iter_1 _))
 unfold Builtin.«dict.__iter__» Builtin.Dict.dictSlotNone;refine M7 (M7 (RD ty ?_))
 show ZJ _ _ (pure (Nx d)) _ _ s
 refine Nh ?_
 show ZJ _ _ (S7 d >>= _) _ _ s
 unfold S7;rw[if_neg (by rw[k0];exact NJ)]
 refine M7 (Nh (M7 (SC k1 k3 (M7 (TC k1 k3 ?_)))))
 refine M7 (Ox (Nh ⟨_,rfl,"dict_keyiterator",_,⟨_,Nn _ rfl,rfl⟩,OW.lookup,?_⟩))
 simpa [rawInt]using q
def Gd{e:RB}(ki:s.heap.IsKeyIter it d i es.size ep)(k1:s.heap.get? d=ZA ob)(k3:ob.data=.dict es ep)(ke:es[i]?=ZA e)
  (q:∀h',h'.IsKeyIter it d (i+1) es.size ep->Qu it s.heap h'->Q (ZA e.key) {s with heap:=h'}):ZJ (ZK prog w) A (pyNext (.ref it)) Q E s:=by
 obtain⟨oi,g1,g2,g3⟩:=id ki;unfold pyNext;refine M7 (PN (NT (name:=Nt "__next__") ki.typeIs OW (N9 OW ki.typeIs RI ?_ (Ry _))))
 refine M7 (Nh (M7 (M7 ?_)))
 first|refine M7 (Pp ki.typeIs (Nh ?_))|refine M7 (Qb ki.typeIs (Nh ?_))
 refine M7 (wpAny_fieldsOf g1 g3 ?_)
 have own:RN "dict_keyiterator" =ZD:=by decide
 simp only[own,NW,if_false]
 show ZJ _ _ (if (Nx d == Oe)=ZC then _ else _) _ _ s
 rw[if_neg (show ¬((Nx d == Oe)=ZC)from NJ)]
 refine M7 (Nh (M7 (SC k1 k3 ?_)))
 rw[if_neg (by simp)]
 refine M7 (Nh (M7 (TC k1 k3 ?_)))
 rw[if_neg (by simp)]
 refine Nh ?_
 simp only[show ¬((i:Int)<0)from by omega,if_false,Oq,ke]
 refine M7 ?_
 first|refine M7 (Pp ki.typeIs (Nh ?_))|refine M7 (Qb ki.typeIs (Nh ?_))
 refine M7 (TF ki.typeIs ?_)
 show ZJ _ _ (setField (.ref it) 1 (rawInt ((i:Int)+1)) >>= _) _ _ s
 refine M7 (Si g1 g3 (by simp) ?_)
 have ki':(s.heap.update it (Obj.mapFields (·.setIfInBounds 1 (rawInt ((i:Int)+1))))).IsKeyIter it d (i+1) es.size ep:=
  ⟨_,Qx _ g1 (S9 (Rb g3 _)),(UM ..).trans g2,by rw[Rb g3];simp[rawInt]⟩
 refine M7 (OA (M7 (TF (s:={s with heap:=s.heap.update it (Obj.mapFields (·.setIfInBounds 1 (rawInt ((i:Int)+1))))}) ki'.typeIs ?_)))
 show ZJ _ _ (pure e.key) _ _ _
 exact Nh (Nh ⟨_,rfl,Nh (q _ ki' (QY ..))⟩)
def Jn(hh:A.handled=ZB)(ki:s.heap.IsKeyIter it d i es.size ep)(k1:s.heap.get? d=ZA ob)(k3:ob.data=.dict es ep)(ke:es.size<=i)
  (q:∀h',T4 it s.heap h'->Q ZB {s with heap:=h'}):ZJ (ZK prog w) A (pyNext (.ref it)) Q E s:=by
 obtain⟨oi,g1,g2,g3⟩:=id ki;unfold pyNext;refine M7 (PN (NT (name:=Nt "__next__") ki.typeIs OW (N9 OW ki.typeIs RI ?_ (Ry _))))
 refine M7 (Nh (M7 (M7 ?_)))
 first|refine M7 (Pp ki.typeIs (Nh ?_))|refine M7 (Qb ki.typeIs (Nh ?_))
 refine M7 (wpAny_fieldsOf g1 g3 ?_)
 have own:RN "dict_keyiterator" =ZD:=by decide
 simp only[own,NW,if_false]
 show ZJ _ _ (if (Nx d == Oe)=ZC then _ else _) _ _ s
 rw[if_neg (show ¬((Nx d == Oe)=ZC)from NJ)]
 refine M7 (Nh (M7 (SC k1 k3 ?_)))
 rw[if_neg (by simp)]
 refine M7 (Nh (M7 (TC k1 k3 ?_)))
 rw[if_neg (by simp)]
 refine Nh ?_
 simp only[show ¬((i:Int)<0)from by omega,if_false,Oq,Rl ke]
 refine M7 ?_
 first|refine M7 (Pp ki.typeIs (Nh ?_))|refine M7 (Qb ki.typeIs (Nh ?_))
 show ZJ _ _ (setField (.ref it) 0 .none >>= _) _ _ s
 refine M7 (Si g1 g3 (by simp) ?_)
 show ZJ _ _ (newExc (.type "StopIteration") [] >>= _) _ _ _
 refine M7 ?_
 simp only[newExc,newTuple];refine M7 (Ox ?_ (by size_fits))
 refine M7 (m:=Sj _ _) (wpAny_of_eq (a:=Oe) (by first|rfl| (simp only[Sj];rfl)) (Ox ?_ (by size_fits)))
 simp only[raiseNew];refine M7 (wpAny_handled ?_)
 rw[show A.in1.handled=ZB from hh]
 refine M7 (Nh (wpAny_throw ?_))
 refine M7 (RJ (T:="StopIteration") (b:=ZC) ⟨_,Nn _ rfl,rfl⟩ Sk ?_)
 exact Nh (q _ (((QY ..).extBut.push _).push _))
end
end PySem
namespace Tr
open PySem PySem.Spec PyProof.Rows L2
variable{H:Hp}{X:Cx}{d:ZE}{es:Array RB}{kvs:List (List Key×V)}{ob:Obj}{tg:ZG}
section
variable {bv:V2}{σ:L2.St}
def yT(I:Inv X bv σ H s)(hd:H d=ZA (.dT kvs))(ho:s.heap.get? d=ZA ob):Inv X bv σ (upd H d (.frz ob (.dT kvs))) s:=by
 have x:ObjOk X.prog X.w H s.heap d (.dT kvs):=I.hok d _ hd
 have ne:∀b (u:HO),H b=ZA u->(∀k,u≠ .dT k)->b≠d:=λb u e hu z=>by rw[z,hd]at e;cases e;exact hu _ rfl
 exact kJ (h':=s.heap) (t':=s.toks) (ob:=.frz ob (.dT kvs)) I (by rw[hd];exact Pw) (UK ..) ⟨ob,ho⟩ ⟨ho,x.L8 (λb u _ e=>e) (λb e=>by rw[aG (ne b _ e (λ_ z=>nomatch z))];exact e) λb xs e=>by rw[aG (ne b _ e (λ_ z=>nomatch z))];exact e⟩
def Dz(I:Inv X bv σ H s)(hd:H d=ZA (.frz ob (.dT kvs)))(h0:∀o u,X.H₀ d≠ZA (.frz o u)):Inv X bv σ (upd H d (.dT kvs)) s:=by
 have ne:∀b,H b=ZB->b≠d:=λb e z=>by rw[z,hd]at e;cases e
 have ne2:∀b (u:HO),H b=ZA u->(∀o k,u≠ .frz o k)->b≠d:=λb u e hu z=>by rw[z,hd]at e;cases e;exact hu _ _ rfl
 have up:∀b (u:HO),H b=ZA u->b≠d->upd H d (.dT kvs) b=ZA u:=λb u e z=>by rw[aG z];exact e
 have un:∀b,H b=ZB->upd H d (.dT kvs) b=ZB:=λb e=>by rw[aG (ne b e)];exact e
 have x:ObjOk X.prog X.w H s.heap d (.frz ob (.dT kvs)):=I.hok d _ hd
 have ow:∀c b,H b=ZA (.own c)->upd H d (.dT kvs) b=ZA (.own c):=λc b e=>up b _ e (ne2 b _ e (λ_ _ z=>nomatch z))
 have tu:∀b xs,H b=ZA (.tup xs)->upd H d (.dT kvs) b=ZA (.tup xs):=λb xs e=>up b _ e (ne2 b _ e (λ_ _ z=>nomatch z))
 refine⟨I.ok,I.os,I.bare,⟨I.base.keep,I.base.slot,λb o e n hx=>un b (I.base.free b o e n hx),I.base.there,λb xs e=>tu b xs (I.base.tups b xs e),λb o u e=>?_,λb ps e=>?_⟩,I.loc,I.cell,un _ I.free,λy c e=>un _ (I.freeC y c e),λp hp=>?_,λa u e=>?_,I.len⟩
 ·exact up b _ (I.base.frzs b o u e) λz=>h0 o u (z▸e)
 ·obtain⟨more,q⟩:=I.base.tbls b ps e
  exact⟨more,up b _ q (ne2 b _ q (λ_ _ z=>nomatch z))⟩
 ·obtain⟨p1,p2,p3⟩:=I.pin p hp
  exact⟨p1,un _ p2,p3⟩
 ·by_cases ha:a=d
  ·subst ha
   rw[aI]at e;cases e;exact x.2.L8 (λb u _ e=>e) (ow a) tu
  ·rw[aG ha]at e
   exact(I.hok a u e).L8 (λb u _ e=>e) (ow a) tu
def L3(d:ZE)(ob:Obj)(es:Array RB):It where
 go:=λi H=>∃kvs,H d=ZA (.frz ob (.dT kvs))/\i<kvs.length
 yld:=λi H x H'=>H'=H/\∃e b,es[i]?=ZA e/\e.key=.ref b/\x=.ref b
 stop:=λi H=>∃kvs,H d=ZA (.frz ob (.dT kvs))/\kvs.length<=i
def uV{h:ZH}(x:ObjOk P w H h d (.frz ob (.dT kvs)))(hx:ob.data=.dict es ep):h.get? d=ZA ob/\ob.ExactDict/\(d == PH)=ZD/\es.size=kvs.length/\∀(i:Nat) p,kvs[i]?=ZA p->∃e b,es[i]?=ZA e/\e.key=.ref b/\H b=ZA (.tup (p.1.map kV)):=by
 obtain⟨e1,z,y,xs,r,o',es',ep',e2,ex,e3,e4,nd⟩:=x;rw[e1]at e2;cases e2;rw[hx]at e3;cases e3
 have hl:es.size=xs.length:=by rw[<-NX,e4,Nc]
 refine⟨e1,ex,y,by rw[hl,Q7 r],λi p hp=>?_⟩
 have key:∀{ks:List (List Key×V)}{xs:List (List Key×ZE×Nf)},VH (λ(p:List Key×V)(q:List Key×ZE×Nf)=>p.1=q.1/\H q.2.1=ZA (.tup (p.1.map kV))/\RelV p.2 q.2.2) ks xs->∀{i:Nat} {p},ks[i]?=ZA p->∃q,xs[i]?=ZA q/\H q.2.1=ZA (.tup (p.1.map kV)):=by
  intro ks xs r
  induction r with
  |nil=>intro i p h;simp at h
  |cons a _ ih=>
   intro i p h
   cases i with
   |zero=>simp only[SJ,Rn]at h ⊢;subst h;exact⟨_,rfl,a.2.1⟩
   |succ i=>simp only[OZ]at h ⊢;exact ih h
 obtain⟨q,hq,hb⟩:=key r hp;refine⟨entryOfKey (RC (cj P w)) q,q.2.1,?_,rfl,hb⟩
 rw[<-Rx,e4,NC,hq]
 rfl
def xY{it:ZE}(hx:ob.data=.dict es ep):By P w K tg (L3 d ob es) [it] it (λi h=>h.IsKeyIter it d i es.size ep) where
 mem:=by simp
 obj:=λi h st b hb=>by
  have e:b=it:=by simpa using hb
  subst e;obtain⟨o,e,c,d⟩:=st;exact⟨o,e,λv z=>by rw[d]at z;cases z⟩
 keep:=λi h h' st k=>st.at λo e=>k it (by simp) o e
 item:=by
  intro X hP hw hK hc i bv s σ H E I hf st hg;subst hP hw hK;obtain⟨kvs,hq,hi⟩:=hg;obtain⟨f0,f1,f2,f3,f4,f5⟩:=hf it (by simp)
  obtain⟨e1,ex,_,sz,at_⟩:=uV (I.hok d _ hq) hx;obtain⟨e,b,ge,ek,_⟩:=at_ i kvs[i] (Nk hi)
  refine Gd st e1 hx ge λh' st' sb=>?_
  have I1:Inv X bv σ H {s with heap:=h'}:=I.turned (t':=s.toks) (λb o hb e=>(sb.2 b hb).trans e) f0 f1 f3 f4 f5
  obtain⟨o,eo,c,dd⟩:=id st';exact⟨e.key,rfl,Am (s:={s with heap:=h'}) eo c dd (by decide) ⟨.ref b,H,I1,ek,⟨rfl,e,b,ge,ek,rfl⟩,st',λb hb=>(hf b hb).1⟩⟩
 done:=by
  intro X hP hw hK hc i bv s σ H E I hf st hg;subst hP hw hK;obtain⟨kvs,hq,hi⟩:=hg;obtain⟨f0,f1,f2,f3,f4,f5⟩:=hf it (by simp)
  obtain⟨e1,ex,_,sz,_⟩:=uV (I.hok d _ hq) hx;exact Jn (I.ok.hd hc) st e1 hx (by omega) λh' eb=>⟨rfl,I.turned (t':=s.toks) (λb o hb e=>eb b o hb e) f0 f1 f3 f4 f5⟩
 self:=λ_ _ _ _ _ st h=>wpAny_pyIter_keyiter st h
def iDF(d:ZE)(ob:Obj)(es:Array RB)(te:TE):TI:=λσ H R=>te σ H λx H1=>x=.ref d/\(∃kvs,H1 d=ZA (.frz ob (.dT kvs)))/\R (L3 d ob es) H1
def CD{l:ZG}{te:TE}(hx:ob.data=.dict es ep)(hl:PE X l te):PI X tg l (iDF d ob es te):=by
 intro bv s σ H R I h;refine cz (hl bv s σ H _ I h) λv s1 hh_=>?_
 obtain⟨x,H1,I1,r1,q1⟩:=hh_;obtain⟨e,⟨kvs,hq⟩,q⟩:=q1;subst e;obtain rfl:v=Nx d:=r1;obtain⟨e1,ex,y,sz,_⟩:=uV (I1.hok d _ hq) hx;refine Gb y e1 ex hx ⟨s1.heap.objs.size,[s1.heap.objs.size],_,_,H1,rfl,I1.kept (t':=s1.toks) λb o e=>M8 _ e,xY hx,⟨_,Nn _ rfl,rfl,rfl⟩,λb hb=>?_,q⟩
 have e:b=s1.heap.objs.size:=by simpa using hb
 subst e;exact I1.Mi (Nr _) (I1.hok.fresh (Nr _))
end
variable{O:Ow}
theorem nQ:∀{l:List T}{kk:List Key},lI l=ZA kk->Reps K O H l (kk.map kV)
 |[],kk,h=>by cases h;exact Reps.nil_
 |t::l,kk,h=>by
  unfold lI at h
  split at h
  ·rename_i k r hk hr
   cases h;refine Reps.FM ?_ (nQ hr)
   cases t with
   |int i=>cases hk;exact Rep.GE i
   |str x=>cases hk;exact Rep.Mu x
   |_=>cases hk
  ·cases h
def Dk{t:T}{kk:List Key}{b:ZE}(h:keyOf t=ZA kk)(hb:H b=ZA (.tup (kk.map kV)))(n:¬ O b):Rep K O H t (.ref b):=by
 cases t with
 |tup l=>exact Rep.Do.mpr ⟨b,_,rfl,n,hb,nQ h⟩
 |_=>cases h
def Dx{ks:List T}(hd:H d=ZA (.frz ob (.dT kvs)))(hk:ks.map keyOf=kvs.map (λp=>ZA p.1))(nO:¬ O d)(tr:∀a vs,H a=ZA (.tup vs)->¬ O a)
  (at_:∀(i:Nat) p,kvs[i]?=ZA p->∃e b,es[i]?=ZA e/\e.key=.ref b/\H b=ZA (.tup (p.1.map kV))):LH K O H ks (L3 d ob es):=λP O' hP hO i Hc hs ht=>by
 have hl:ks.length=kvs.length:=by have:=congrArg OE hk;rwa [Nc,Nc]at this
 have hnP:¬ P d:=λz=>(hP d z).elim nO λw=>by rw[w.1]at hd;cases hd
 have hd':Hc d=ZA (.frz ob (.dT kvs)):=hs _ _ hd hnP;refine⟨λhi=>⟨kvs,hd',by omega⟩,λt ht'=>?_⟩
 have hi:i<kvs.length:=by rw[<-hl];exact(Nu.mp ht').1
 refine⟨⟨kvs,hd',hi⟩,λx Hc' y=>?_⟩
 obtain⟨rfl,e,b,ge,ek,rfl⟩:=y;obtain⟨e2,b2,ge2,ek2,hb⟩:=at_ i kvs[i] (Nk hi)
 rw[ge]at ge2;cases ge2;rw[ek]at ek2;cases ek2
 have kt:keyOf t=ZA kvs[i].1:=by
  have:=congrArg (λl=>l[i]?) hk
  simp only[NC,ht',Nk hi,Tf,Rn]at this
  exact this
 exact⟨Same.refl _,(Dk kt hb (tr b _ hb)).move hP hO hs⟩
def tPIF(X:Cx)(d:ZE)(ob:Obj)(es:Array RB)(i:Nat):TI:=λσ H R=>σ[i]?=ZA (ZA (.ref d))/\(∃kvs,H d=ZA (.frz ob (.dT kvs)))/\R (L3 d ob es) H
def Ii{elt:ZG}{ifs:List ZG}{spos py pos pn:Pos}{N':List Str}{src:List (Option Nat)}{tgt:T->En->Rs En}{fc:V6}{fe:V5}(i j:Nat){y D:Str}
  (hc:X.calm=ZC) (S:LcScope X scope N' src)
  (block:∀cl C s₀ H₀ fp,Eo (bL X scope cl N' C s₀ H₀ fp) tg tgt/\AF (bL X scope cl N' C s₀ H₀ fp) ifs (zy (bL X scope cl N' C s₀ H₀ fp) fc)/\cJ (bL X scope cl N' C s₀ H₀ fp) elt fe)
  (hN:X.N.Nodup) (hD:X.N[i]?=ZA D:=by rfl) (hDv:autoParam (vo X.env.scope D) u_) (hDd:autoParam ((D == ("__debug__" : Str))=ZD) s_) (hDc:autoParam ((D == ("__classdict__" : Str))=ZD) s_)
  (hiy:X.N[j]?=ZA y:=by rfl) (hy:autoParam (Loc X.env.scope y) x_) (hsw:Ov (.ListComp elt [⟨tg,.Name D pn,ifs,0⟩] scope pos) (ZA (.Name y py)) spos.line X.env=pure ZC:=by rfl)
  (hf:autoParam (X.fn y=ZC\/X.env.scope.names.lookup y=ZA .local) r_) (hs:autoParam (∀x,N7 (.Name D pn) X.env x=pure x) t_):
  qG X (.Assign [.Name y py] (.ListComp elt [⟨tg,.Name D pn,ifs,0⟩] scope pos) spos) (tR i j src tgt fc fe):=by
 intro bv s σ H E0 I ⟨Z,B,M,E,h⟩;unfold tR at h
 split at h
 ·rename_i ks ts hi
  obtain⟨v,sv,r⟩:=E.env.own i _ hi;obtain⟨d,kvs,rfl,hM,hd,hk,rt⟩:=r
  cases qt:eh (iD (vr i)) src tgt fc fe (disown i Z)with
  |bad=>rw[qt]at h;exact h.elim
  |err c=>rw[qt]at h;exact h.elim
  |ok t=>
  rw[qt]at h
  dsimp only at h
  by_cases hh:t.nk ZC=ZC/\j<Z.length
  ·rw[if_pos hh]at h
   obtain⟨z0,y0,xs0,r0,ob,es,ep,ho,hex,hdat,he,hnd⟩:=(show ObjOk X.prog X.w H s.heap d (.dT kvs)from I.hok d _ hd)
   have h0:∀o u,X.H₀ d≠ZA (.frz o u):=λo u e=>by
    have:=I.base.frzs d o u e;rw[hd]at this;cases this
   have I1:=yT I hd ho
   have hPG:∀cl C s₀ H₀ fp,PG (bL X scope cl N' C s₀ H₀ fp) tg (AQ X tgt):=λcl C s₀ H₀ fp=>(block cl C s₀ H₀ fp).1
   have hPI:∀cl C s₀ H₀ fp,AF (bL X scope cl N' C s₀ H₀ fp) ifs (tPT0 X.K fc):=λcl C s₀ H₀ fp bv s σ H Q I h=>(block cl C s₀ H₀ fp).2.1 bv s σ H Q I (tPT0.up (X:=bL X scope cl N' C s₀ H₀ fp) h)
   have hPE:∀cl C s₀ H₀ fp,PE (bL X scope cl N' C s₀ H₀ fp) elt (tP0 X.K fe):=λcl C s₀ H₀ fp bv s σ H Q I h=>(block cl C s₀ H₀ fp).2.2 bv s σ H Q I (tP0.up (X:=bL X scope cl N' C s₀ H₀ fp) h)
   have hPI2:PI X tg (.Name D pn) (tPIF X d ob es i):=PI.imp (CD (d:=d) (ob:=ob) hdat (jO hD hDv hDd hDc)) λσ H R ⟨a,b,c⟩=>⟨_,a,rfl,b,c⟩
   have rule:=He (g:=AQ X tgt) (tc:=tPT0 X.K fc) (te:=tP0 X.K fe) (i:=j) (y:=y) (py:=py) (spos:=spos) (pos:=pos) hc S hPI2 (λcl C s₀ H₀ fp=>⟨hPG cl C s₀ H₀ fp,hPI cl C s₀ H₀ fp,hPE cl C s₀ H₀ fp⟩) hN hiy hy hsw hf hs
   have sO:SameO (λa=>a=d) H (upd H d (.frz ob (.dT kvs))):=λb o e nb=>by rw[aG nb];exact e
   have Md:M i d:=(hM d).mpr rfl
   have Od:OO B M d:=.inr ⟨i,Md⟩;refine cz (rule bv s σ (upd H d (.frz ob (.dT kvs))) {nx:=λσ' H'=>H' d=ZA (.frz ob (.dT kvs))/\E0.nx σ' (upd H' d (.dT kvs)),rt:=λ_ _=>False} I1 ?_) λf s' hf=>?_
   ·-- the UD,with the dict standing still
    have rdE:∀{u:T}{v:V},Rep X.K (OO B M) H u v->Rep X.K (λa=>OO B M a/\¬ M i a) (upd H d (.frz ob (.dT kvs))) u v:=λr=>(Rep.keep sO (λa z=>by rw[z];exact Od) r).less λa z=>z.1
    have E1:EnvM X.K (λa=>OO B M a/\¬ M i a) (M.set i yF) (upd H d (.frz ob (.dT kvs))) (disown i Z) σ:=by
     have ed:disown i Z=Z.set i (.va (.dct ks ts)):=by unfold disown;rw[hi];rfl
     have il:i<Z.length:=(Nu.mp hi).1
     rw[ed];refine⟨by rw[Os];exact E.env.len,λk u e=>?_,λk o e=>?_,λk a z=>?_,λk k' a z1 z2=>?_,λa z=>?_⟩
     ·by_cases hk':i=k
      ·subst hk'
       rw[NG il]at e
       cases e;exact⟨.ref d,sv,Rep.Gc.mpr ⟨d,kvs,rfl,λz=>z.2 Md,.inr ⟨ob,aI⟩,hk,(Reps.keep sO (λa z=>by rw[z];exact Od) rt).less λa z=>z.1⟩⟩
      ·rw[NI hk']at e
       obtain⟨v,e1,e2⟩:=E.env.val k u e;exact⟨v,e1,rdE e2⟩
     ·by_cases hk':i=k
      ·subst hk'
       rw[NG il]at e
       cases e
      ·rw[NI hk']at e
       obtain⟨v,e1,e2⟩:=E.env.own k o e;refine⟨v,e1,?_⟩
       have em:M.set i yF k=M k:=by unfold Mn.set;rw[if_neg λz=>hk' z.symm]
       rw[em];exact e2.move (P:=λa=>a=d) (λa z=>.inl (by rw[z];exact Od)) (λa z=>.inl z.1) sO λa z w=>hk' (E.env.dis k i a z (by rw[w];exact Md)).symm
     ·unfold Mn.set at z
      split at z
      ·exact z.elim
      ·rename_i hk'
       exact⟨E.env.sub k a z,λw=>hk' (E.env.dis k i a z w)⟩
     ·unfold Mn.set at z1 z2
      split at z1
      ·exact z1.elim
      ·split at z2
       ·exact z2.elim
       ·exact E.env.dis k k' a z1 z2
     ·have ne:a≠d:=λw=>z.2 (by rw[w];exact Md)
      exact(E.env.trk a z.1).at λo q=>by rw[aG ne];exact q
    have fk:iD (vr i) (disown i Z)=.ok ks:=by
     have:vr i (disown i Z)=.ok (.dct ks ts):=by
      unfold vr disown;rw[hi];simp only[NG (Nu.mp hi).1]
      rfl
     unfold iD;rw[this]
     rfl
    have qt':eh (λ_=>.ok ks) src tgt fc fe (disown i Z)=.ok t:=by
     rw[<-qt];unfold eh;rw[fk]
    have rd:=uO (X:=X) (fi:=λ_=>.ok ks) (src:=src) (tgt:=tgt) (fc:=fc) (fe:=fe) (σ:=σ) (H:=upd H d (.frz ob (.dT kvs))) (Q:=λv H'=>H' d=ZA (.frz ob (.dT kvs))/\E0.nx (σ.set j (ZA v)) (upd H' d (.dT kvs))) ⟨disown i Z,_,⟨_,E1⟩,by
     rw[qt'];intro H' sm v rv
     have hd':H' d=ZA (.frz ob (.dT kvs)):=sm _ _ aI;refine⟨hd',?_⟩
     have sm2:Same H (upd H' d (.dT kvs)):=λb o e=>by
      by_cases hb:b=d
      ·subst hb;rw[aI,<-hd];exact e
      ·rw[aG hb];exact sm b o (by rw[aG hb];exact e)
     have rl:Rep X.K (OO B M) H' t v:=Rep.lend (D:=ZC) (λa z=>by
      by_cases hm:M i a
      ·refine .inr ?_
       rw[if_pos rfl,(hM a).mp hm];exact⟨kvs,.inr ⟨ob,hd'⟩⟩
      ·exact .inl ⟨z,hm⟩) hh.1 rv
     have r2:Rep X.K (OO B M) (upd H' d (.dT kvs)) t v:=Rep.keep (P:=λa=>a=d) (λb o e nb=>by rw[aG nb];exact e) (λa z=>by rw[z];exact Od) rl
     exact h _ _ M (SameO.of sm2) ⟨(E.env.same sm2).set hh.2 r2,E.mine⟩ λa z=>.inl z⟩
    obtain⟨Z',O',⟨M',E'⟩,P'⟩:=rd;refine⟨sv,⟨kvs,aI⟩,P' _ (Same.refl _) _ (Dx aI hk (λz=>?_) (λa vs q z=>?_) (uV (I1.hok d _ aI) hdat).2.2.2.2)⟩
    ·rcases E'.trk d z with⟨_,q⟩|⟨_,q⟩|⟨_,q,y⟩ <;> rw[aI]at q <;> cases q <;> cases y
    ·rcases E'.trk a z with⟨_,w⟩|⟨_,w⟩|⟨_,w,y⟩ <;> rw[q]at w <;> cases w <;> cases y
   ·cases f with
    |next=>
     obtain⟨σ',H',I',e1,e2⟩:=hf
     exact⟨σ',_,Dz I' e1 h0,e2⟩
    |brk=>obtain⟨_,_,_,z⟩:=hf;exact z.elim
    |cont=>obtain⟨_,_,_,z⟩:=hf;exact z.elim
    |ret u=>obtain⟨_,_,_,_,_,z⟩:=hf;exact z.elim
  ·rw[if_neg hh]at h;exact h.elim
 ·exact h.elim
end Tr
variable{Q:V1}{t2:Bool}
namespace PySem
open Sem (wp)
open L2 (itAt)
def sqAt(tt:Bool)(h:ZH)(a:ZE)(xs:Array Nf):Prop:=if tt then h.IsTuple a xs else h.IsList a xs
variable{a:ZE}{h:ZH}{xs:Array Nf}
def sqAt.keep{h':ZH}(q:sqAt tt h a xs)(k:∀o,h.get? a=ZA o->h'.get? a=ZA o):sqAt tt h' a xs:=by
 cases tt with
 |true=>exact hZ (show h.IsTuple a xs from q) k
 |false=>exact Heap.IsList.at (show h.IsList a xs from q) k
def sqAt.lt(q:sqAt tt h a xs):a<h.objs.size:=by
 cases tt with
 |true=>obtain⟨o,e,_⟩:=(show h.IsTuple a xs from q);exact Np e
 |false=>obtain⟨o,e,_⟩:=(show h.IsList a xs from q);exact Np e
section
def md{it:ZE}{k:Nat}{xs:Array Nf}{x:Nf}(hi:itAt tt s.heap it a k)(hs:sqAt tt s.heap a xs)(hx:xs[k]?=ZA x)
  (hQ:∀h',itAt tt h' it a (k+1)->Qu it s.heap h'->Q x {s with heap:=h'}):ZJ (ZK prog w) A (NB (.ref it)) Q E s:=by
 cases tt with
 |true=>exact Enu.tupNext hi hs hx hQ
 |false=>exact Rm hi hs hx hQ
def yC{it:ZE}{k:Nat}{xs:Array Nf}(hh:A.handled=ZB)(hi:itAt tt s.heap it a k)(hs:sqAt tt s.heap a xs)(hx:xs[k]?=ZB)
  (hE:∀h' e,T4 it s.heap h'->(∃o,h'.get? e=ZA o/\o.cls=.type "StopIteration")->E (.ref e) {s with heap:=h'}):ZJ (ZK prog w) A (NB (.ref it)) Q E s:=by
 cases tt with
 |true=>exact Enu.tupStop hh hi hs hx hE
 |false=>exact TB hh hi hs hx hE
structure Zw (h:ZH)(n a1 a2:Nat)(t1 t2:Bool)(k:Nat):Prop where
 pr:PD h (n+2) (.ref n) (.ref (n+1))
 ow:∃a b,PD h (n+3) a b
 i1:itAt t1 h n a1 k
 i2:itAt t2 h (n+1) a2 k
variable {a1 a2 k:Nat}{ys:Array Nf}{y:Nf}
theorem Zw.keep{h':ZH}(q:Zw h n a1 a2 t1 t2 k)(e:∀c o,n<=c->c<n+4->h.get? c=ZA o->h'.get? c=ZA o):Zw h' n a1 a2 t1 t2 k where
 pr:=e _ _ (by omega) (by omega) q.pr
 ow:=let ⟨a,b,z⟩:=q.ow;⟨a,b,e _ _ (by omega) (by omega) z⟩
 i1:=q.i1.keep λo=>e _ o (by omega) (by omega)
 i2:=q.i2.keep λo=>e _ o (by omega) (by omega)
def EE(q:Zw s.heap n a1 a2 t1 t2 k)(kz:zO s.heap (n+4) (n+2) (n+3) .none (.bool ZD))(s1:sqAt t1 s.heap a1 xs)(s2:sqAt t2 s.heap a2 ys)(b1:a1<n\/n+4<a1)(b2:a2<n\/n+4<a2)(hx:xs[k]?=ZA x)(hy:ys[k]?=ZA y)
  (kq:∀h' p,s.heap.objs.size<=p->PD h' p x y->zO h' (n+4) (n+2) (n+3) (rawInt p) (.bool ZD)->Zw h' n a1 a2 t1 t2 (k+1)->(∀c o,c≠n->c≠n+1->c≠n+3->c≠n+4->s.heap.get? c=ZA o->h'.get? c=ZA o)->Q (.ref p) {s with heap:=h'}):
  ZJ (ZK prog w) A (Builtin.«zip.__next__» ⟨[.ref (n+4)],[]⟩) (λfin s'=>∃v,fin=.done (.ret v)/\Q v s') E s:=by
 obtain⟨oa,ob,ho⟩:=q.ow
 show ZJ _ _ (field (.ref (n+4)) 2 >>= _) _ _ _
 refine M7 (NS kz rfl (x:=.bool ZD) rfl ?_)
 show ZJ _ _ (field (.ref (n+4)) 3 >>= _) _ _ _
 refine M7 (NS kz rfl (x:=.ref (n+2)) rfl ?_)
 refine M7 (Oc q.pr rfl ?_)
 show ZJ _ _ (Nv (.ref (n+4)) >>= _) _ _ _
 have fr:ZJ (ZK prog w) A (Nv (.ref (n+4))) (λv s'=>v=ZC/\s'=s) E s:=by
  unfold Nv;exact M7 (NS kz rfl (x:=.none) rfl (Nh ⟨rfl,rfl⟩))
 refine M7 (Pl fr (λv s' hv=>?_) λ_ _ z=>z)
 obtain⟨rfl,rfl⟩:=hv;simp only[if_true];refine M7 (Qa (M7 (NS kz rfl (x:=.ref (n+3)) rfl (M7 (OH kz (by simp) λh₁ kz₁ e₁=>?_)))))
 replace kz₁:zO h₁ (n+4) (n+2) (n+3) .ellipsis (.bool ZD):=kz₁
 have q₁:Zw h₁ n a1 a2 t1 t2 k:=q.keep λc o _ hc g=>e₁.extBut c o (bJ (by omega)) g
 simp only[SX,Te,Pf,PV];refine M7 (M7 (M7 (Rh ?_)))
 show ZJ _ _ (NB (.ref n) >>= _) _ _ _
 refine M7 (md q₁.i1 (s1.keep λo g=>e₁.extBut _ _ (bJ (by omega)) g) hx λh₂ g₂ e₂=>Nh ?_)
 have o₂:PD h₂ (n+3) oa ob:=e₂.extBut _ _ (bJ (by omega)) (e₁.extBut _ _ (bJ (by omega)) ho)
 refine M7 (Oc o₂ rfl (M7 (P0 o₂ λh₃ o₃ e₃=>M7 (SR (Nh ?_)))))
 replace o₃:PD h₃ (n+3) x ob:=o₃
 refine M7 (M7 (Rh ?_))
 show ZJ _ _ (NB (.ref (n+1)) >>= _) _ _ _
 refine M7 (md (q₁.i2.keep λo g=>e₃.extBut _ _ (bJ (by omega)) (e₂.extBut _ _ (bJ (by omega)) g)) (s2.keep λo g=>e₃.extBut _ _ (bJ (by omega)) (e₂.extBut _ _ (bJ (by omega)) (e₁.extBut _ _ (bJ (by omega)) g))) hy λh₄ g₄ e₄=>Nh ?_)
 have o₄:PD h₄ (n+3) x ob:=e₄.extBut _ _ (bJ (by omega)) o₃
 refine M7 (Oc o₄ rfl (M7 (P0 o₄ λh₅ o₅ e₅=>M7 (SR (Nh (Nh ?_))))))
 replace o₅:PD h₅ (n+3) x y:=o₅
 refine M7 (Oc o₅ rfl (M7 (Ru ?_)))
 have z₅:h₅.objs.size=s'.heap.objs.size:=by rw[e₅.1,e₄.1,e₃.1,e₂.1,e₁.1]
 have up:∀c o,c≠n->c≠n+1->c≠n+3->h₁.get? c=ZA o->h₅.get? c=ZA o:=λc o c1 c2 c3 g=>e₅.extBut _ _ c3 (e₄.extBut _ _ c2 (e₃.extBut _ _ c3 (e₂.extBut _ _ c1 g)))
 show ZJ _ _ (OR (.ref (n+4)) (.ref h₅.objs.size) >>= _) _ _ _
 have z5:zO (h₅.push {cls:=.type "tuple",data:=.seq #[x,y]}) (n+4) (n+2) (n+3) .ellipsis (.bool ZD):=M8 _ (up _ _ (bJ (by omega)) (bJ (by omega)) (bJ (by omega)) kz₁)
 have hn:n+4<h₅.objs.size:=Np (up _ _ (bJ (by omega)) (bJ (by omega)) (bJ (by omega)) kz₁)
 refine M7 ?_
 unfold OR;refine M7 (OH z5 (by simp) λh₇ z₇ e₇=>?_)
 replace z₇:zO h₇ (n+4) (n+2) (n+3) (rawInt h₅.objs.size) (.bool ZD):=z₇
 refine OH z₇ (by simp) λh₈ z₈ e₈=>Nh ⟨_,rfl,?_⟩
 replace z₈:zO h₈ (n+4) (n+2) (n+3) (rawInt h₅.objs.size) (.bool ZD):=z₈
 have up8:∀c o,c≠n+4->h₅.get? c=ZA o->h₈.get? c=ZA o:=λc o c1 g=>e₈.extBut _ _ c1 (e₇.extBut _ _ c1 (M8 _ g))
 refine kq h₈ h₅.objs.size (Pt z₅.symm) (e₈.extBut _ _ (bJ (by omega)) (e₇.extBut _ _ (bJ (by omega)) (Nn _ rfl))) z₈ ⟨up8 _ _ (bJ (by omega)) (up _ _ (bJ (by omega)) (bJ (by omega)) (bJ (by omega)) q₁.pr),⟨x,y,up8 _ _ (bJ (by omega)) o₅⟩,?_,?_⟩ λc o c1 c2 c3 c4 g=>up8 c o c4 (up c o c1 c2 c3 (e₁.extBut _ _ c4 g))
 ·exact g₂.keep λo g=>up8 _ _ (bJ (by omega)) (e₅.extBut _ _ (bJ (by omega)) (e₄.extBut _ _ (bJ (by omega)) (e₃.extBut _ _ (bJ (by omega)) g)))
 ·exact g₄.keep λo g=>up8 _ _ (bJ (by omega)) (e₅.extBut _ _ (bJ (by omega)) g)
def Hw{Q:Fin->Ng->Prop}(hh:A.handled=ZB)(q:Zw s.heap n a1 a2 t1 t2 k)(kz:zO s.heap (n+4) (n+2) (n+3) .none (.bool ZD))(s1:sqAt t1 s.heap a1 xs)(s2:sqAt t2 s.heap a2 ys)(b1:a1<n\/n+4<a1)(b2:a2<n\/n+4<a2)(hend:xs[k]?=ZB\/ys[k]?=ZB)
  (ke:∀h' e,(∀c o,c≠n->c≠n+1->c≠n+3->c≠n+4->s.heap.get? c=ZA o->h'.get? c=ZA o)->(∃o,h'.get? e=ZA o/\o.cls=.type "StopIteration")->E (.ref e) {s with heap:=h'}):
  ZJ (ZK prog w) A (Builtin.«zip.__next__» ⟨[.ref (n+4)],[]⟩) Q E s:=by
 show ZJ _ _ (field (.ref (n+4)) 2 >>= _) _ _ _
 refine M7 (NS kz rfl (x:=.bool ZD) rfl ?_)
 show ZJ _ _ (field (.ref (n+4)) 3 >>= _) _ _ _
 refine M7 (NS kz rfl (x:=.ref (n+2)) rfl ?_)
 refine M7 (Oc q.pr rfl ?_)
 show ZJ _ _ (Nv (.ref (n+4)) >>= _) _ _ _
 have fr:ZJ (ZK prog w) A (Nv (.ref (n+4))) (λv s'=>v=ZC/\s'=s) E s:=by
  unfold Nv;exact M7 (NS kz rfl (x:=.none) rfl (Nh ⟨rfl,rfl⟩))
 refine M7 (Pl fr (λv s' hv=>?_) λ_ _ z=>z)
 obtain⟨rfl,rfl⟩:=hv;simp only[if_true];refine M7 (Qa (M7 (NS kz rfl (x:=.ref (n+3)) rfl (M7 (OH kz (by simp) λh₁ kz₁ e₁=>?_)))))
 replace kz₁:zO h₁ (n+4) (n+2) (n+3) .ellipsis (.bool ZD):=kz₁
 have q₁:Zw h₁ n a1 a2 t1 t2 k:=q.keep λc o _ hc g=>e₁.extBut c o (bJ (by omega)) g
 simp only[SX,Te,Pf,PV];refine M7 (M7 (M7 (Rh ?_)))
 show ZJ _ _ (NB (.ref n) >>= _) _ _ _
 cases hx:xs[k]? with
 |none=>
  refine M7 (yC hh q₁.i1 (s1.keep λo g=>e₁.extBut _ _ (bJ (by omega)) g) hx λh₂ e e₂ he=>?_)
  obtain⟨oe,hoe,hce⟩:=he
  have hz₂:zO h₂ (n+4) (n+2) (n+3) .ellipsis (.bool ZD):=e₂ _ _ (bJ (by omega)) kz₁
  have hez:e≠n+4:=λx=>by subst x;rw[hz₂]at hoe;cases hoe;simp at hce
  exact OH hz₂ (by simp) λh₃ _ hs₃=>ke h₃ e (λc o c1 c2 c3 c4 g=>hs₃.extBut _ _ c4 (e₂ _ _ c1 (e₁.extBut _ _ c4 g))) ⟨oe,hs₃.extBut _ _ hez hoe,hce⟩
 |some x=>
  have hy:ys[k]?=ZB:=by
   rcases hend with h|h
   ·rw[hx]at h;cases h
   ·exact h
  obtain⟨oa,ob,ho⟩:=q.ow;refine M7 (md q₁.i1 (s1.keep λo g=>e₁.extBut _ _ (bJ (by omega)) g) hx λh₂ g₂ e₂=>Nh ?_)
  have o₂:PD h₂ (n+3) oa ob:=e₂.extBut _ _ (bJ (by omega)) (e₁.extBut _ _ (bJ (by omega)) ho)
  refine M7 (Oc o₂ rfl (M7 (P0 o₂ λh₃ o₃ e₃=>M7 (SR (Nh ?_)))))
  refine M7 (M7 (Rh ?_))
  show ZJ _ _ (NB (.ref (n+1)) >>= _) _ _ _
  refine M7 (yC hh (q₁.i2.keep λo g=>e₃.extBut _ _ (bJ (by omega)) (e₂.extBut _ _ (bJ (by omega)) g)) (s2.keep λo g=>e₃.extBut _ _ (bJ (by omega)) (e₂.extBut _ _ (bJ (by omega)) (e₁.extBut _ _ (bJ (by omega)) g))) hy λh₄ e e₄ he=>?_)
  obtain⟨oe,hoe,hce⟩:=he
  have hz₄:zO h₄ (n+4) (n+2) (n+3) .ellipsis (.bool ZD):=e₄ _ _ (bJ (by omega)) (e₃.extBut _ _ (bJ (by omega)) (e₂.extBut _ _ (bJ (by omega)) kz₁))
  have hez:e≠n+4:=λx=>by subst x;rw[hz₄]at hoe;cases hoe;simp at hce
  exact OH hz₄ (by simp) λh₅ _ hs₅=>ke h₅ e (λc o c1 c2 c3 c4 g=>hs₅.extBut _ _ c4 (e₄ _ _ c2 (e₃.extBut _ _ c3 (e₂.extBut _ _ c1 (e₁.extBut _ _ c4 g))))) ⟨oe,hs₅.extBut _ _ hez hoe,hce⟩
noncomputable abbrev Hy(h:ZH)(t1:Bool)(a1:ZE):ZH:=h.push {cls:=.type (if t1 then "tuple_iterator" else "list_iterator"),data:=.fields #[.ref a1,.int 0 0]}
end
def Dy(q:sqAt tt s.heap a xs)(h:Q (.ref s.heap.objs.size) {s with heap:=Hy s.heap tt a}):ZJ (ZK prog w) A (pyIter (.ref a)) Q E s:=by
 cases tt with
 |true=>exact PM (show s.heap.IsTuple a xs from q) h
 |false=>exact QK (show s.heap.IsList a xs from q) h
noncomputable abbrev LL(h:ZH)(t1 t2:Bool)(l t:ZE):ZH:=Hy (Hy h t1 l) t2 t
noncomputable abbrev LK(h:ZH)(t1 t2:Bool)(l t:ZE):ZH:=(LL h t1 t2 l t).push {cls:=.type "tuple",data:=.seq #[.ref h.objs.size,.ref (Hy h t1 l).objs.size]}
noncomputable abbrev LJ(h:ZH)(t1 t2:Bool)(l t:ZE):ZH:=(LK h t1 t2 l t).push {cls:=.type "tuple",data:=.seq #[.none,.none]}
noncomputable abbrev GV(h:ZH)(t1 t2:Bool)(l t:ZE):ZH:=(LJ h t1 t2 l t).push {cls:=.type "zip",data:=.fields #[.none,.bool ZD,.bool ZD,.ref (LL h t1 t2 l t).objs.size,.ref (LK h t1 t2 l t).objs.size]}
def C7(t1 t2:Bool)(l t:ZE)(xs ys:Array Nf):Meets (Builtin.«zip.__new__» ⟨[.type "zip",.ref l,.ref t],[]⟩) (λ_ R s=>sqAt t1 s.heap l xs/\sqAt t2 s.heap t ys/\R (.ok (.ret (.ref (LJ s.heap t1 t2 l t).objs.size))) {s with heap:=GV s.heap t1 t2 l t}):=
 .of_wp λprog w A R s q=>by
  obtain⟨hp,g,d,tk,os⟩:=s;obtain⟨a1,a2,q⟩:=q
  have k0:=sub_zip
  have k1:sqAt t1 (SF ⟨hp,g,d,tk,os⟩) l xs:=a1
  have k2:sqAt t2 (SF ⟨Hy hp t1 l,g,d,tk,os⟩) t ys:=sqAt.keep a2 λo e=>M8 _ e
  wp_walk using Dy k1,Dy k2
  exact⟨_,rfl,q⟩
def EF{l t:ZE}{ys:Array Nf}(a1:sqAt t1 s.heap l xs)(a2:sqAt t2 s.heap t ys)
  (q:∀h',Zw h' s.heap.objs.size l t t1 t2 0->zO h' (s.heap.objs.size+4) (s.heap.objs.size+2) (s.heap.objs.size+3) .none (.bool ZD)->h'.objs.size=s.heap.objs.size+5 →
   (∀c o,s.heap.get? c=ZA o->h'.get? c=ZA o)->Q (.ref (s.heap.objs.size+4)) {s with heap:=h'}):
  ZJ (ZK prog w) A (call (.type "zip") [.ref l,.ref t]) Q E s:=by
 refine Vc F.called_zip (by decide) (Vl _ _) (VD _ _) (λobj=>TR obj _ _) VE (C7 t1 t2 l t xs ys) ⟨a1,a2,?_⟩
 have z1:(Hy s.heap t1 l).objs.size=s.heap.objs.size+1:=NY ..
 have z2:(LL s.heap t1 t2 l t).objs.size=s.heap.objs.size+2:=by rw[NY,z1]
 have z3:(LK s.heap t1 t2 l t).objs.size=s.heap.objs.size+3:=by rw[NY,z2]
 have z4:(LJ s.heap t1 t2 l t).objs.size=s.heap.objs.size+4:=by rw[NY,z3]
 have z5:(GV s.heap t1 t2 l t).objs.size=s.heap.objs.size+5:=by rw[NY,z4]
 have g5:(GV s.heap t1 t2 l t).get? (LJ s.heap t1 t2 l t).objs.size=ZA _:=Nn _ rfl
 have g4:(GV s.heap t1 t2 l t).get? (LK s.heap t1 t2 l t).objs.size=ZA _:=M8 _ (Nn _ rfl)
 have g3:(GV s.heap t1 t2 l t).get? (LL s.heap t1 t2 l t).objs.size=ZA _:=M8 _ (M8 _ (Nn _ rfl))
 have g2:(GV s.heap t1 t2 l t).get? (Hy s.heap t1 l).objs.size=ZA _:=M8 _ (M8 _ (M8 _ (Nn _ rfl)))
 have g1:(GV s.heap t1 t2 l t).get? s.heap.objs.size=ZA _:=M8 _ (M8 _ (M8 _ (M8 _ (Nn _ rfl))))
 have up:∀c o,s.heap.get? c=ZA o->(GV s.heap t1 t2 l t).get? c=ZA o:=λc o e=>M8 _ (M8 _ (M8 _ (M8 _ (M8 _ e))))
 show _/\_
 rw[z2,z3,z4]at g5;rw[z1,z2]at g3;rw[z3]at g4;rw[z1]at g2;rw[z4];refine⟨⟨_,g5,rfl⟩,q _ ⟨g3,⟨_,_,g4⟩,?_,?_⟩ g5 z5 up⟩
 ·cases t1 with
  |true=>exact⟨_,g1,rfl,rfl⟩
  |false=>exact⟨_,g1,rfl,rfl⟩
 ·cases t2 with
  |true=>exact⟨_,g2,rfl,rfl⟩
  |false=>exact⟨_,g2,rfl,rfl⟩
end PySem
namespace L2
open PySem PySem.Spec PyProof.Rows
section
variable {X:Cx}{bv:V2}{σ:L2.St}{H:Hp}
def vP{a:ZE}{xs:List V}(I:Inv X bv σ H s)(q:BG X.K H a tt xs):∃its:List Nf,Vals xs its/\sqAt tt s.heap a its.toArray/\∀ys,BG X.K H a tt ys->ys=xs:=by
 cases tt with
 |true=>
  have q':SqT X.K H a xs:=q;obtain⟨its,rv,p,hz⟩:=I.tuple q'
  exact⟨its,rv,p,λys hy=>I.Ma hy q'⟩
 |false=>
  have q':SqL X.K H a xs:=q;obtain⟨its,rv,p,hz⟩:=I.list q';exact⟨its,rv,p.isList,λys hy=>I.Mb hy q'⟩
end
def xA{b:Nat}:b∈ [n+4,n,n+1,n+2,n+3] ↔n<=b/\b<n+5:=by
 simp only[Nl,N8,or_false];omega
end L2
namespace Tr
open PySem PySem.Spec PyProof.Rows L2
def Wk(K:M9)(O:Ow)(H1:Hp)(l:List T)(v:V):Prop:=∃(aa:ZE)(tt:Bool)(ws:List V),v=.ref aa/\¬ O aa/\Reps K O H1 l ws/\BG K H1 aa tt ws/\(∀P Hc,SameO P H1 Hc->¬ P aa->BG K Hc aa tt ws)/\¬ Nw K H1 aa
def GY{O:Ow}{H1:Hp}{x:T}{l:List T}{v:V}(hl:x.items=ZA l)(rv:Rep K O H1 x v):Wk K O H1 l v:=by
 cases x with
 |tup m=>
  cases hl;obtain⟨aa,ws,e,n,qq,z⟩:=Rep.Do.mp rv
  exact⟨aa,ZC,ws,e,n,z,(show SqT K H1 aa ws from SqT.of qq),(λP Hc hsm hn=>show SqT K Hc aa ws from SqT.of (hsm _ _ qq hn)),λw=>by rw[w.1]at qq;cases qq⟩
 |lst m=>
  cases hl;obtain⟨aa,ws,e,n,qq,z⟩:=Rep.Fk.mp rv
  exact⟨aa,ZD,ws,e,n,z,(show SqL K H1 aa ws from SqL.of qq),(λP Hc hsm hn=>show SqL K Hc aa ws from SqL.of (hsm _ _ qq hn)),λw=>by rw[w.1]at qq;cases qq⟩
 |scr m=>
  cases hl;unfold Rep at rv;obtain⟨aa,e,n,qq⟩:=rv
  exact⟨aa,ZD,_,e,n,Reps.ints,(show SqL K H1 aa _ from qq),(λP Hc hsm hn=>show SqL K Hc aa _ from Tr.SqL.keep hsm hn qq),(Tr.SqL.nn qq)⟩
 |_=>cases hl
def c0(g:List T->Rs T)(_:En):Rs T:=match g []with
 |.ok t=>.ok t
 |_=>.bad
def unN:List Int->T
 |t::ns=>.tup [.int t,.tup (ns.map .int)]
 |[] =>.non
noncomputable def G6:List T->Rs T
 |[a,b] =>match a.items,b.items with
  |some l,ZA m=>match dZ l,rowsT m with
   |some ts,ZA ks=>if ts.length=ks.length/\0<ts.length/\ts.length<64 then .ok (.lst (((Tg Re ts ks).mergeSort jY).map unN))else .bad
   |_,_=>.bad
  |_,_=>.bad
 |_=>.bad
end Tr
variable{R:Nat->Nf->Nf->Prop}
namespace PySem
open Sem (wp)
open L2 (itAt)
structure PW (prog:NH)(w:Ou)(A:N4)(I:ZE)(T:String)(fp wr:List ZE)(n:Nat)(R:Nat->Nf->Nf->Prop)(St:Nat->Option ZE->ZH->Prop):Prop where
 sub:∀b∈wr,b∈fp
 ty:∀i o (s:Ng),St i o s.heap->s.TypeIs (.ref I) T
 frame:∀i o h h',St i o h->(∀b∈fp,∀ob,h.get? b=ZA ob->h'.get? b=ZA ob)->St i o h'
 item:∀i o (s:Ng) (Q:Option Nf->Ng->Prop) (E:V1),i<n->St i o s.heap->(∀t,o=ZA t->∃ob,s.heap.get? t=ZA ob) →
  (∀p h' tk x y,R i x y->s.heap.objs.size<=p->PD h' p x y->St (i+1) (ZA (o.getD p)) h'->(∀b ob,b∉wr->s.heap.get? b=ZA ob->h'.get? b=ZA ob)->Q (ZA (.ref p)) {s with heap:=h',toks:=tk})->ZJ (ZK prog w) A (pyNext (.ref I)) Q E s
 done:∀o (s:Ng) (Q:Option Nf->Ng->Prop) (E:V1),St n o s.heap->(∀t,o=ZA t->∃ob,s.heap.get? t=ZA ob)->(∀h' tk,(∀b ob,b∉wr->s.heap.get? b=ZA ob->h'.get? b=ZA ob)->Q ZB {s with heap:=h',toks:=tk})->ZJ (ZK prog w) A (pyNext (.ref I)) Q E s
 self:∀i o (s:Ng) (Q:V1) (E:V1),St i o s.heap->Q (.ref I) s->ZJ (ZK prog w) A (pyIter (.ref I)) Q E s
noncomputable abbrev i9(ps:List ZE)(c:Nat):Obj:={cls:=.type "list",dict:=ZB,data:=.seq (ps.map Nx).toArray c,slots:=#[]}
variable{I:ZE}
section
variable {RR:VL->Ng->Prop}{T:String}{fp wr:List ZE}{St:Nat->Option ZE->ZH->Prop}
def FF(W:PW prog w A.in1 I T fp wr n R St)(hn:n<=ZI)(S N0:Nat)(hSf:S∉fp)(hSN:S<N0)(hw:∀b:Nat,b∈wr->b<N0)(res:Nf):
  ∀(k i:Nat)(s:Ng)(ps:List ZE)(c:Nat),n - i=k->i<=n->St i ps.head? s.heap->N0<=s.heap.objs.size->s.heap.get? S=ZA (i9 ps c)->ps.length=i->(∀(j:Nat)(p:Nat),ps[j]?=ZA p->N0<=p/\∃x y,R j x y/\PD s.heap p x y) →
  (∀h' tk ps' c',(∀b ob,b≠S->b∉wr->s.heap.get? b=ZA ob->h'.get? b=ZA ob)->h'.get? S=ZA (i9 ps' c')->ps'.length=n->(∀(j:Nat)(p:Nat),ps'[j]?=ZA p->N0<=p/\∃x y,R j x y/\PD h' p x y)->RR (.ok (.ret res)) {s with heap:=h',toks:=tk}) →
  ZL (ZK prog w) A (.builtin "list.extend.loop" ⟨[.ref S,.ref I,res],[]⟩) RR s:=by
 have hSw:S∉wr:=λh=>hSf (W.sub _ h)
 intro k
 induction k with
 |zero=>
  intro i s ps c hk hi hst hN hS hl hp hR
  have hin:i=n:=by omega
  subst hin;refine PB T8 ?_
  rw[OM Ql _]
  show ZJ _ A.in1 (pyNext (.ref I) >>= _) _ _ s
  have alive:∀t,ps.head?=ZA t->∃ob,s.heap.get? t=ZA ob:=λt ht=>by
   obtain⟨_,x,y,_,hx⟩:=hp 0 t (by rw[<-List.head?_eq_getElem?];exact ht)
   exact⟨_,hx⟩
  refine M7 (W.done ps.head? s _ _ hst alive λh' tk kp=>?_)
  exact Nh (hR h' tk ps c (λb ob _ hb e=>kp b ob hb e) (kp S _ hSw hS) hl λj p hj=>by
   obtain⟨a,x,y,r,z⟩:=hp j p hj
   exact⟨a,x,y,r,kp p _ (λm=>NK _ (Nq (hw p m) a)) z⟩)
 |succ k ih=>
  intro i s ps c hk hi hst hN hS hl hp hR
  have hlt:i<n:=by omega
  refine PB T8 ?_
  rw[OM Ql _]
  show ZJ _ A.in1 (pyNext (.ref I) >>= _) _ _ s
  have alive:∀t,ps.head?=ZA t->∃ob,s.heap.get? t=ZA ob:=λt ht=>by
   obtain⟨_,x,y,_,hx⟩:=hp 0 t (by rw[<-List.head?_eq_getElem?];exact ht)
   exact⟨_,hx⟩
  refine M7 (W.item i ps.head? s _ _ hlt hst alive λp h' tk x y r hsz ip st' kp=>?_)
  have hS':=kp S _ hSw hS
  have hSl:S<s.heap.objs.size:=Np hS
  have hpS:p≠S:=λz=>by rw[z]at hsz;exact NK _ (Nq hSl hsz)
  show ZJ _ A.in1 (updateSeq S (·.push (.ref p)) >>= _) _ _ _
  refine M7 ?_
  have hd:(ps++[p]).head?=ZA (ps.head?.getD p):=by cases ps <;> rfl
  have hlen:(ps.map Nx).toArray.size=i:=by rw[Nz,Nc,hl]
  obtain⟨c2,hS2⟩:∃c2,(h'.update S (Qr (·.push (.ref p)))).get? S=ZA (i9 (ps++[p]) c2):=by
   have g:=Vs (show h'.get? S=ZA (PyProof.Rows.seqObj "list" (ps.map Nx).toArray c)from hS') (·.push (.ref p))
   have e:(ps.map Nx).toArray.push (Nx p)=((ps++[p]).map Nx).toArray:=by rw[NR,Nd,Qv,List.push_toArray]
   rw[e]at g;exact⟨_,g⟩
  refine TH hS' rfl (Nh ⟨Qm Ql _,ih (i+1) {s with heap:=h'.update S (Qr (·.push (.ref p))),toks:=tk} (ps++[p]) c2 (by omega) hlt (by
   rw[hd];exact W.frame _ _ _ _ st' λb hb ob e=>(OP _ _ (λh:S=b=>hSf (by rw[h];exact hb))).trans e) (by rw[Qo];exact NV hN (OV (PK hsz (Np ip)))) hS2 (by rw[Nm];simp[hl]) (λj q hj=>?_) λh'' tk'' ps' c' kp' hS'' hl' hp'=>?_⟩)
   (by rw[hlen];omega) (by show((ps.map Nx).toArray.push (.ref p)).size<=ZI+1;rw[Array.size_push,hlen];omega)
  ·rw[List.getElem?_append]at hj
   split at hj
   ·rename_i hjl
    obtain⟨a,x',y',r',z⟩:=hp j q hj
    have hqS:q≠S:=λz=>by rw[z]at a;exact NK _ (Nq hSN a)
    exact⟨a,x',y',r',(OP _ _ (QZ hqS)).trans (kp q _ (λm=>NK _ (Nq (hw q m) a)) z)⟩
   ·rename_i hjl
    have hj0:j=i:=by
     have:=(Nu.mp hj).1
     simp at this;omega
    subst hj0;rw[hl,Sb]at hj;cases hj;exact⟨NV hN hsz,x,y,r,(OP _ _ (QZ hpS)).trans ip⟩
  ·exact hR h'' tk'' ps' c' (λb ob hb hbw e=>kp' b ob hb hbw ((OP _ _ (QZ hb)).trans (kp b ob hbw e))) hS'' hl' hp'
def AX(W:PW prog w A.in1 I T fp wr n R St)(hn:n<=ZI){S c0:Nat}(hSf:S∉fp)(hIf:I∈fp)(hw:∀b:Nat,b∈wr->b<s.heap.objs.size)(res:Nf)(hst:St 0 ZB s.heap)(hS:s.heap.get? S=ZA (i9 [] c0))
  (t1:(OU T == OU "list")=ZD) (t2:(OU T == OU "tuple")=ZD) (nl:P9 (.type T) "__len__" =pure ZB) (nh:P9 (.type T) "__length_hint__" =pure ZB)
  (hR:∀h' tk ps c',(∀b ob,b≠S->b∉wr->s.heap.get? b=ZA ob->h'.get? b=ZA ob)->h'.get? S=ZA (i9 ps c')->ps.length=n->(∀(j:Nat)(p:Nat),ps[j]?=ZA p->s.heap.objs.size<=p/\∃x y,R j x y/\PD h' p x y)->RR (.ok (.ret res)) {s with heap:=h',toks:=tk}):
  ZJ (ZK prog w) A.in1 (Qt (.ref S) (.ref I) res)
   (λfin s'=>match fin with|.done f=>RR (.ok f) s'|.again c'=>c'.quiet=ZC/\ZL (ZK prog w) A c' RR s') (λe s'=>RR (.error e) s') s:=by
 have hSI:S≠I:=λe=>hSf (e▸hIf)
 unfold Qt;refine M7 (Qe (W.ty 0 ZB s hst) ?_)
 have h1:Sr (.ref S) (.ref I)=ZD:=by simp[Sr,hSI]
 simp only[h1,t1,t2,Bool.or_false,NW,if_false];refine M7 (W.self 0 ZB _ _ _ hst ?_)
 refine M7 (OA ?_)
 unfold Builtin.List.listLengthHint;refine M7 (Tz (W.ty 0 ZB s hst) nl ?_)
 show ZJ _ A.in1 (specialOf (Nx I) (Nt "__length_hint__") >>= _) _ _ _
 refine M7 (Tz (W.ty 0 ZB s hst) nh ?_)
 refine Nh ?_
 have hSl:S<s.heap.objs.size:=Np hS
 have key:∀(h:ZH)(c₁:Nat),h.objs.size=s.heap.objs.size->(∀b o,b≠S->s.heap.get? b=ZA o->h.get? b=ZA o)->h.get? S=ZA (i9 [] c₁)->ZL (ZK prog w) A (.builtin "list.extend.loop" ⟨[.ref S,.ref I,res],[]⟩) RR {s with heap:=h}:=λh c₁ hz hk hS₁=>
  FF W hn S s.heap.objs.size hSf hSl hw res n 0 {s with heap:=h} [] c₁ rfl (OF _) (W.frame _ _ _ _ hst λb hb ob e=>hk b ob (λz=>hSf (z▸hb)) e) (Pt hz.symm) hS₁ rfl (λj p hj=>by cases hj)
   λh' tk ps c' kp a b c=>hR h' tk ps c' (λb ob hb hbw e=>kp b ob hb hbw (hk b ob hb e)) a b c
 refine wpAny_ite_split (λ_=>?_) (λ_=>Nh ⟨Qm Ql _,key s.heap c0 rfl (λb o _ e=>e) hS⟩)
 refine M7 (Qa ?_)
 refine M7 ?_
 show ZJ _ A.in1 (updateSeq S (·.push .none) >>= λ_=>updateSeq S (·.pop)) _ _ _
 refine M7 (TH hS rfl ?_)
 have hS₂:=Qx (Qr (·.push Oe)) hS rfl
 refine TH hS₂ rfl ?_
 have hS₃:=Qx (Qr (·.pop)) hS₂ rfl
 refine Nh ⟨Qm Ql _,key _ _ (by rw[Qo,Qo]) (λb o hb e=>(OP _ _ (QZ hb)).trans ((OP _ _ (QZ hb)).trans e)) hS₃⟩
end
namespace F
def zip_no_len:P9 (.type "zip") "__len__" =pure ZB:=by rw[QB,Ph];kernel_rfl
def zip_no_hint:P9 (.type "zip") "__length_hint__" =pure ZB:=by rw[QB,Ph];kernel_rfl
end F
variable{ob:Obj}
section
variable {a1 a2 k:Nat}{xs ys:Array Nf}{y:Nf}
def ED{T:ZE}(q:Zw s.heap n a1 a2 t1 t2 k)(kz:zO s.heap (n+4) (n+2) (n+3) (rawInt T) (.bool f))(kT:s.heap.get? T=ZA ob)(s1:sqAt t1 s.heap a1 xs)(s2:sqAt t2 s.heap a2 ys)(b1:a1<n)(b2:a2<n)(hx:xs[k]?=ZA x)(hy:ys[k]?=ZA y)
  (kq:∀h' p,s.heap.objs.size<=p->PD h' p x y->zO h' (n+4) (n+2) (n+3) (rawInt T) (.bool ZC)->Zw h' n a1 a2 t1 t2 (k+1)->(∀c o,c≠n->c≠n+1->c≠n+4->s.heap.get? c=ZA o->h'.get? c=ZA o)->Q (.ref p) {s with heap:=h'}):
  ZJ (ZK prog w) A (Builtin.«zip.__next__» ⟨[.ref (n+4)],[]⟩) (λfin s'=>∃v,fin=.done (.ret v)/\Q v s') E s:=by
 show ZJ _ _ (field (.ref (n+4)) 2 >>= _) _ _ _
 refine M7 (NS kz rfl (x:=.bool ZD) rfl ?_)
 show ZJ _ _ (field (.ref (n+4)) 3 >>= _) _ _ _
 refine M7 (NS kz rfl (x:=.ref (n+2)) rfl ?_)
 refine M7 (Oc q.pr rfl ?_)
 show ZJ _ _ (Nv (.ref (n+4)) >>= _) _ _ _
 refine M7 (lP kz kT λh₁ kz₁ e₁ z₁=>?_)
 have q₁:Zw h₁ n a1 a2 t1 t2 k:=q.keep λc o _ hc g=>e₁ c o (bJ (by omega)) g
 simp only[NW,if_false,Rc,Pf,PV];refine M7 (M7 (M7 (OA ?_)))
 show ZJ _ _ (NB (.ref n) >>= _) _ _ _
 refine M7 (md q₁.i1 (s1.keep λo g=>e₁ _ _ (bJ (by omega)) g) hx λh₂ g₂ e₂=>Nh ?_)
 refine Nh (M7 (M7 (OA ?_)))
 show ZJ _ _ (NB (.ref (n+1)) >>= _) _ _ _
 refine M7 (md (q₁.i2.keep λo g=>e₂.extBut _ _ (bJ (by omega)) g) (s2.keep λo g=>e₂.extBut _ _ (bJ (by omega)) (e₁ _ _ (bJ (by omega)) g)) hy λh₃ g₃ e₃=>Nh (Nh (Nh ?_)))
 show ZJ _ _ (newTuple [x,y] >>= _) _ _ _
 refine M7 (Ru (Nh ⟨_,rfl,?_⟩))
 have z₃:h₃.objs.size=s.heap.objs.size:=by rw[e₃.1,e₂.1,z₁]
 have up:∀c o,c≠n->c≠n+1->h₁.get? c=ZA o->(h₃.push {cls:=.type "tuple",data:=.seq #[x,y]}).get? c=ZA o:=λc o c1 c2 g=>M8 _ (e₃.extBut _ _ c2 (e₂.extBut _ _ c1 g))
 obtain⟨oa,ob',ho⟩:=q₁.ow;refine kq _ h₃.objs.size (Pt z₃.symm) (Nn _ rfl) (up _ _ (bJ (by omega)) (bJ (by omega)) kz₁) ⟨up _ _ (bJ (by omega)) (bJ (by omega)) q₁.pr,⟨oa,ob',up _ _ (bJ (by omega)) (bJ (by omega)) ho⟩,?_,?_⟩ λc o c1 c2 c4 g=>up c o c1 c2 (e₁ c o c4 g)
 ·exact g₂.keep λo g=>M8 _ (e₃.extBut _ _ (bJ (by omega)) g)
 ·exact g₃.keep λo g=>M8 _ g
def EC{T:ZE}{Q:Fin->Ng->Prop}(hh:A.handled=ZB)(q:Zw s.heap n a1 a2 t1 t2 k)(kz:zO s.heap (n+4) (n+2) (n+3) (rawInt T) (.bool f))(kT:s.heap.get? T=ZA ob)(s1:sqAt t1 s.heap a1 xs)(b1:a1<n)(hx:xs[k]?=ZB)
  (ke:∀h' e,(∀c o,c≠n->c≠n+4->s.heap.get? c=ZA o->h'.get? c=ZA o)->(∃o,h'.get? e=ZA o/\o.cls=.type "StopIteration")->E (.ref e) {s with heap:=h'}):
  ZJ (ZK prog w) A (Builtin.«zip.__next__» ⟨[.ref (n+4)],[]⟩) Q E s:=by
 show ZJ _ _ (field (.ref (n+4)) 2 >>= _) _ _ _
 refine M7 (NS kz rfl (x:=.bool ZD) rfl ?_)
 show ZJ _ _ (field (.ref (n+4)) 3 >>= _) _ _ _
 refine M7 (NS kz rfl (x:=.ref (n+2)) rfl ?_)
 refine M7 (Oc q.pr rfl ?_)
 show ZJ _ _ (Nv (.ref (n+4)) >>= _) _ _ _
 refine M7 (lP kz kT λh₁ kz₁ e₁ z₁=>?_)
 have q₁:Zw h₁ n a1 a2 t1 t2 k:=q.keep λc o _ hc g=>e₁ c o (bJ (by omega)) g
 simp only[NW,if_false,Rc,Pf,PV];refine M7 (M7 (M7 (OA ?_)))
 show ZJ _ _ (NB (.ref n) >>= _) _ _ _
 exact M7 (yC hh q₁.i1 (s1.keep λo g=>e₁ _ _ (bJ (by omega)) g) hx λh₂ e e₂ he=>ke h₂ e (λc o c1 c4 g=>e₂ _ _ c1 (e₁ c o c4 g)) he)
noncomputable def Gn(e:ZE):Sem (Option Nf):=do if <-isInstance (.ref e) (.type "StopIteration")then pure ZB else throw (.ref e)
def ZS(n a1 a2:Nat)(t1 t2:Bool)(xs ys:Array Nf)(k:Nat)(o:Option ZE)(h:ZH):Prop:=
 Zw h n a1 a2 t1 t2 k/\sqAt t1 h a1 xs/\sqAt t2 h a2 ys/\match o with
  |none=>zO h (n+4) (n+2) (n+3) .none (.bool ZD)
  |some T=>∃f,zO h (n+4) (n+2) (n+3) (rawInt T) (.bool f)
def zk{o:Option ZE}(q:ZS n a1 a2 t1 t2 xs ys k o s.heap):s.TypeIs (.ref (n+4)) "zip":=by
 cases o with
 |none=>exact⟨_,q.2.2.2,rfl⟩
 |some T=>obtain⟨f,e⟩:=q.2.2.2;exact⟨_,e,rfl⟩
def IB(hh:A.handled=ZB)(b1:a1<n)(b2:a2<n)(hl:xs.size=ys.size):
  PW prog w A (n+4) "zip" [n+4,n,n+1,n+2,n+3,a1,a2] [n+4,n,n+1,n+3] xs.size (λi x y=>xs[i]?=ZA x/\ys[i]?=ZA y) (ZS n a1 a2 t1 t2 xs ys) where
 sub:=λb hb=>by simp only[Nl,N8,or_false]at hb ⊢;rcases hb with rfl|rfl|rfl|rfl <;> simp
 ty:=λi o s q=>zk q
 frame:=λi o h h' ⟨q,s1,s2,z⟩ e=>by
  have up:∀c:Nat,(n<=c/\c<n+5)\/c=a1\/c=a2->∀ob,h.get? c=ZA ob->h'.get? c=ZA ob:=λc hc ob g=>e c (by
   simp only[Nl,N8,or_false];rcases hc with hc|rfl|rfl
   ·have:c=n\/c=n+1\/c=n+2\/c=n+3\/c=n+4:=by omega
    rcases this with rfl|rfl|rfl|rfl|rfl <;> simp
   ·simp
   ·simp) ob g
  refine⟨q.keep λc o h1 h2 g=>up c (.inl ⟨h1,P7 h2⟩) o g,s1.keep λo g=>up a1 (.inr (.inl rfl)) o g,s2.keep λo g=>up a2 (.inr (.inr rfl)) o g,?_⟩
  cases o with
  |none=>exact up (n+4) (.inl ⟨by omega,by omega⟩) _ z
  |some T=>obtain⟨f,z⟩:=z;exact⟨f,up (n+4) (.inl ⟨by omega,by omega⟩) _ z⟩
 item:=λi o s Q E hi ⟨q,s1,s2,z⟩ al kq=>by
  have hx:xs[i]?=ZA xs[i]:=Sg hi
  have hy:ys[i]?=ZA ys[i]:=Sg (hl▸hi)
  have hy':s.TypeIs (.ref (n+4)) "zip":=zk (o:=o) ⟨q,s1,s2,z⟩
  have nw:∀{b:ZE},b∉ [n+4,n,n+1,n+3]->b≠n/\b≠n+1/\b≠n+3/\b≠n+4:=λ{b} hb=>by
   simp only[Nl,N8,or_false,not_or]at hb;exact⟨hb.2.1,hb.2.2.1,hb.2.2.2,hb.1⟩
  unfold pyNext;refine M7 (PN (NT (name:=Nt "__next__") hy' OI (N9 OI hy' QX ?_ (QF _))))
  cases o with
  |none=>
   refine EE q z s1 s2 (.inl b1) (.inl b2) hx hy λh' p hs ip zo zw kp=>Nh (kq p h' s.toks _ _ ⟨hx,hy⟩ hs ip ⟨zw,s1.keep λo g=>kp _ _ (bJ (by omega)) (bJ (by omega)) (bJ (by omega)) (bJ (by omega)) g,s2.keep λo g=>kp _ _ (bJ (by omega)) (bJ (by omega)) (bJ (by omega)) (bJ (by omega)) g,ZD,zo⟩ λb ob hb g=>?_)
   obtain⟨c1,c2,c3,c4⟩:=nw hb
   exact kp b ob c1 c2 c3 c4 g
  |some T=>
   obtain⟨f,z⟩:=z;obtain⟨ob,hT⟩:=al T rfl;refine ED q z hT s1 s2 b1 b2 hx hy λh' p hs ip zo zw kp=>Nh (kq p h' s.toks _ _ ⟨hx,hy⟩ hs ip ⟨zw,s1.keep λo g=>kp _ _ (bJ (by omega)) (bJ (by omega)) (bJ (by omega)) g,s2.keep λo g=>kp _ _ (bJ (by omega)) (bJ (by omega)) (bJ (by omega)) g,ZC,zo⟩ λb ob hb g=>?_)
   obtain⟨c1,c2,c3,c4⟩:=nw hb;exact kp b ob c1 c2 c4 g
 done:=λo s Q E ⟨q,s1,s2,z⟩ al kq=>by
  have hy':s.TypeIs (.ref (n+4)) "zip":=zk (o:=o) ⟨q,s1,s2,z⟩
  have fin:∀h' e,(∀c ob,c≠n->c≠n+1->c≠n+3->c≠n+4->s.heap.get? c=ZA ob->h'.get? c=ZA ob)->(∃o,h'.get? e=ZA o/\o.cls=.type "StopIteration")->ZJ (ZK prog w) A (Gn e) Q E {s with heap:=h'}:=λh' e kp he=>by
   obtain⟨o,ho,hc⟩:=he;refine M7 (RJ (T:="StopIteration") (b:=ZC) ⟨o,ho,hc⟩ Sk (Nh (kq h' s.toks λb ob hb g=>?_)))
   simp only[Nl,N8,or_false,not_or]at hb;exact kp b ob hb.2.1 hb.2.2.1 hb.2.2.2 hb.1 g
  have hend:xs[xs.size]?=ZB:=Rl (Nr _)
  unfold pyNext;refine M7 (PN (NT (name:=Nt "__next__") hy' OI (N9 OI hy' QX ?_ (QF _))))
  cases o with
  |none=>exact Hw hh q z s1 s2 (.inl b1) (.inl b2) (.inl hend) λh' e kp he=>fin h' e kp he
  |some T=>
   obtain⟨f,z⟩:=z;obtain⟨ob,hT⟩:=al T rfl;exact EC hh q z hT s1 b1 hend λh' e kp he=>fin h' e (λc ob c1 _ _ c4 g=>kp c ob c1 c4 g) he
 self:=λi o s Q E q h=>by
  have hy':s.TypeIs (.ref (n+4)) "zip":=zk q;refine SB hy' RW (N9 RW hy' Vk ?_ (US _))
  show ZJ _ _ (ret (.ref (n+4))) _ _ s
  exact Nh ⟨_,rfl,"zip",_,hy',OI.lookup,h⟩
end
section
variable {T:String}{fp wr:List ZE}{St:Nat->Option ZE->ZH->Prop}
def yj{Q:List Nf->Ng->Prop}(W:PW prog w A.in1 I T fp wr n R St)(hn:n<=ZI)(hfp:∀b:Nat,b∈fp->b<s.heap.objs.size)(hI:I∈fp)(hst:St 0 ZB s.heap)
  (t1:(OU T == OU "list")=ZD) (t2:(OU T == OU "tuple")=ZD) (nl:P9 (.type T) "__len__" =pure ZB) (nh:P9 (.type T) "__length_hint__" =pure ZB)
  (hQ:∀h' tk (ps:List ZE),(∀b ob,b∉wr->s.heap.get? b=ZA ob->h'.get? b=ZA ob)->ps.length=n->(∀(j:Nat)(p:Nat),ps[j]?=ZA p->s.heap.objs.size<=p/\∃x y,R j x y/\PD h' p x y)->Q (ps.map Nx) {s with heap:=h',toks:=tk}):
  ZJ (ZK prog w) A (collect (.ref I)) Q E s:=by
 have hSf:s.heap.objs.size∉fp:=λhm=>NK _ (hfp _ hm)
 unfold collect;refine M7 (wpAny_runValue (PB F.entry_proto_collect ?_))
 rw[OM F.plain_proto_collect _]
 show ZJ _ A.in1 (newList [] >>= λl=>again (.builtin "list.__iadd__" ⟨[l,.ref I],[]⟩)) _ _ s
 refine M7 (Ox ?_)
 refine Nh ⟨Qm UT _,PB F.entry_list_iadd ?_⟩
 rw[OM UT _]
 have up:∀b ob,s.heap.get? b=ZA ob->(s.heap.push (i9 [] 0)).get? b=ZA ob:=λb ob e=>M8 _ e
 show ZJ _ A.in1 (Qt (.ref s.heap.objs.size) (.ref I) (.ref s.heap.objs.size)) _ _ {s with heap:=s.heap.push (i9 [] 0)}
 refine AX (RR:=λr s'=>match r with
  |.ok (.ret v)=>ZJ (ZK prog w) A (match v with
   |.ref a=>do
    let o <-load a
    match o.data with
    |.seq xs _=>pure xs.toList
    |_=>unsupported "internal:collect"
   |_=>unsupported "internal:collect") Q E s'
  |.ok _=>False
  |.error e=>E e s') (s:={s with heap:=s.heap.push (i9 [] 0)}) W hn hSf hI (λb hb=>?_) _ (W.frame _ _ _ _ hst λb _ ob e=>up b ob e) (Nn _ rfl) t1 t2 nl nh λh' tk ps c' kp hS hl hp=>?_
 ·rw[NY];exact P7 (hfp b (W.sub b hb))
 show ZJ _ A (load s.heap.objs.size >>= _) _ _ _
 refine M7 (wpAny_load hS ?_)
 show ZJ _ A (pure (ps.map Nx).toArray.toList) Q E _
 refine Nh (hQ h' tk ps (λb ob hb e=>kp b ob (Oa (Np e)) hb (up b ob e)) hl λj p hj=>?_)
 obtain⟨a,r⟩:=hp j p hj;rw[NY]at a;exact⟨QD a,r⟩
end
end PySem
variable{Q:Bool->Ng->Prop}
namespace Tr
open PySem PySem.Spec PyProof.Rows L2 PySem.W
theorem qg:∀{vs:List Nf}{ns:List Int},Po vs ns->PySem.ItemsAre (intKind prog w) ns vs
 |_,_,.nil=>.nil
 |_,_,.cons n t r=>.cons (by show T2 n (.int n t)=ZC;simp[T2]) (qg r)
def VN(h:ZH)(v:Nf)(ns:List Int):Prop:=∃a t k b its ms,v=.ref a/\PD h a (.int t k) (.ref b)/\h.IsTuple b its/\Po its.toList ms/\ns=t::ms
def w9(t u:Int)(a b:List Int):cH (t::a) (u::b)=if t=u then cH a b else decide (t<u):=rfl
theorem Ae{a b:Int}{t u:Tok}(h:Q (decide (a<b)) s):∀k,ZJ (ZK prog w) A (oneLt' k (.int a t) (.int b u)) Q E s
 |true=>oneLt_int h
 |false=>by
  rw[oneLt'_eq];simp only[NW,if_false];exact M7 (wpAny_lt_int (show ZJ (ZK prog w) A (truthOfDropped (.bool (decide (a<b)))) Q E s from OL h))
theorem Dc:∀(l m:List Int),HT.lexLt l m=cH l m
 |[],[] =>rfl
 |[],_::_=>rfl
 |_::_,[] =>rfl
 |a::l,b::m=>by
  rw[HT.lexLt_cons,Dc l m]
  rfl
def rkN:RK where
 V:=VN
 inj:=λ⟨a,t,k,b,its,ms,e,p,q,i,r⟩ ⟨a',t',k',b',its',ms',e',p',q',i',r'⟩=>by
  subst e;cases e'
  have pp:=NZ (p.symm.trans p');injection pp with _ _ pd
  injection pd with px
  have px':=congrArg R9 px;simp only[RS,OS.injEq,Nx.injEq,and_true]at px';obtain⟨⟨rfl,rfl⟩,rfl⟩:=px';obtain⟨o,ho,_,n,hd⟩:=q;obtain⟨o',ho',_,n',hd'⟩:=q';rw[ho]at ho';cases ho';rw[hd]at hd';cases hd';rw[r,r',<-i.nums,<-i'.nums]
 on:=λ⟨a,t,k,b,its,ms,e,p,⟨o,ho,q⟩,i,r⟩ up=>⟨a,t,k,b,its,ms,e,up _ _ p,⟨o,up _ _ ho,q⟩,i,r⟩
 fst:=λ⟨a,t,k,b,its,ms,e,p,q,i,r⟩=>⟨a,_,_,_,t,k,e,p,rfl,rfl,rfl⟩
 lt:=λ{prog w A s E x y a b Q} hu ⟨xa,t,k,xb,xi,xm,ex,xp,xq,xi',xr⟩ ⟨ya,u,k',yb,yi,ym,ey,yp,yq,yi',yr⟩ q=>by
  subst ex ey xr yr;refine kat_lt xp rfl yp rfl ?_
  refine kat_cons (SY ?_)
  rw[w9]at q
  by_cases z:t=u
  ·rw[beq_iff_eq.mpr z]
   rw[if_pos z]at q;refine kat_yes (kat_cons (wpAny_eqBool_tuple (knd:=intKind prog w) (by omega) ?_ ?_ (x:=xm) (y:=ym) ?_))
   ·obtain⟨o,ho,hc,n,hd⟩:=xq;exact⟨o,xi,n,ho,hc,hd,qg xi'⟩
   ·obtain⟨o,ho,hc,n,hd⟩:=yq;exact⟨o,yi,n,ho,hc,hd,qg yi'⟩
   ·by_cases z2:xm=ym
    ·rw[decide_eq_true z2]
     subst z2;rw[jX]at q;exact kat_yes (kat_nil q)
    ·rw[decide_eq_false z2]
     refine kat_no (kat_one _ _ (HT.lt_tupInts xq yq xi' yi' (by omega) ?_))
     rw[Dc];exact q
  ·rw[beq_eq_false_iff_ne.mpr z]
   rw[if_neg z]at q;exact kat_no (Ae q _)
end Tr
namespace L2
open PySem PySem.Spec PyProof.Rows
def Ga(n:Nat)(H:Hp)(f:ZE->Option HO):Hp:=λa=>if (a:Nat)<n then H a else f a
variable{a b:ZE}
section
variable {X:Cx}{bv:V2}{σ:List (Option V)}{H:Hp}{h':ZH}{f:ZE->Option HO}
def uP(h:(a:Nat)<n):Ga n H f a=H a:=by unfold Ga;rw[if_pos h]
def uQ(h:n<=(a:Nat)):Ga n H f a=f a:=by unfold Ga;rw[if_neg (Nat.not_lt.mpr h)]
def Inv.tlt(I:Inv X bv σ H s){o:HO}(e:H b=ZA o):(b:Nat)<s.heap.objs.size:=(I.hok b o e).lt
def Inv.GT(I:Inv X bv σ H s){o:HO}(e:H b=ZA o):Ga s.heap.objs.size H f b=ZA o:=by rw[uP (I.tlt e)];exact e
def Inv.MT(I:Inv X bv σ H s)(k:∀b u,s.heap.get? b=ZA u->h'.get? b=ZA u)(hf:∀a o,s.heap.objs.size<=(a:Nat)->f a=ZA o->ObjOk X.prog X.w (Ga s.heap.objs.size H f) h' a o):
  Inv X bv σ (Ga s.heap.objs.size H f) {s with heap:=h',toks:=t'}:=by
 refine I.un ⟨λb u q _ _ _=>k b u q,λb u q _ _ _=>⟨u.slots,k b u q⟩,λb u q n _=>by rw[uP (Np q)];exact n,λb u q _=>⟨u,k b u q⟩,λb xs q=>I.GT q,λb o u q=>I.GT q,λb ps q=>⟨#[],by rw[I.GT q];simp⟩⟩ λb u e=>?_
 by_cases hb:(b:Nat)<s.heap.objs.size
 ·rw[uP hb]at e
  exact(I.hok b u e).L8 (λc v _ q=>k c v q) (λc q=>I.GT q) λc xs q=>I.GT q
 ·rw[uQ (SS hb)]at e
  exact hf b u (SS hb) e
end
end L2
namespace Tr
open PySem PySem.Spec PyProof.Rows L2
def JZ:Nf->V
 |.int n _=>.int n
 |.ref a=>.ref a
 |_=>.non
noncomputable def Aj(h:ZH)(a:ZE):List Nf:=match h.get? a with
 |some o=>match o.data with
  |.seq xs _=>xs.toList
  |_=>[]
 |none=>[]
noncomputable def wV(h:ZH)(r:ZE)(out:List Nf):ZE->Option HO:=λa=>by
 classical exact if a=r then ZA (.lst (out.map JZ))else if Nx a∈out then ZA (.tup ((Aj h a).map JZ))else ZB
variable{H:Hp}{O:Ow}{X:Cx}{a b:ZG}{p p1:Pos}
section
variable {fs:V3}{p2 pos:Pos}
theorem rX:∀{m:List T}{ns:List Int},dZ m=ZA ns->m=ns.map .int
 |[],ns,h=>by cases h;rfl
 |t::m,ns,h=>by
  cases t with
  |int i=>
   unfold dZ at h;obtain⟨k,h1,rfl⟩:=OG.mp h
   rw[rX h1];rfl
  |_=>cases h
theorem v9:∀{m:List T}{ks:List (List Int)},rowsT m=ZA ks->∀(j:Nat)(t:T),m[j]?=ZA t->∃ns,ks[j]?=ZA ns/\t=.tup (ns.map .int)
 |[],ks,h,j,t,e=>by cases e
 |u::m,ks,h,j,t,e=>by
  cases u with
  |tup l=>
   unfold rowsT at h
   split at h
   ·rename_i ns k' h1 h2
    by_cases ne:ns=[]
    ·rw[if_pos ne]at h;cases h
    ·rw[if_neg ne]at h;cases h
     cases j with
     |zero=>cases e;exact⟨ns,rfl,by rw[rX h1]⟩
     |succ j=>obtain⟨ms,q1,q2⟩:=v9 h2 j t (by simpa using e);exact⟨ms,by simpa using q1,q2⟩
   ·cases h
  |_=>cases h
theorem o9:∀{m:List T}{ks:List (List Int)},rowsT m=ZA ks->m.length=ks.length
 |[],ks,h=>by cases h;rfl
 |u::m,ks,h=>by
  cases u with
  |tup l=>
   unfold rowsT at h
   split at h
   ·rename_i ns k' h1 h2
    by_cases ne:ns=[]
    ·rw[if_pos ne]at h;cases h
    ·rw[if_neg ne]at h;cases h
     rw[Nj,Nj,o9 h2]
   ·cases h
  |_=>cases h
theorem zG:∀{l:List T}{vs:List V}{j:Nat}{t:T},Reps K O H l vs->l[j]?=ZA t->∃v,vs[j]?=ZA v/\Rep K O H t v
 |[],_,_,_,_,e=>by cases e
 |_::_,_,0,_,r,e=>by obtain⟨v,ws,rfl,p,q⟩:=Reps.me.mp r;cases e;exact⟨v,rfl,p⟩
 |_::_,_,j+1,_,r,e=>by obtain⟨v,ws,rfl,p,q⟩:=Reps.me.mp r;obtain⟨u,h1,h2⟩:=zG q (by simpa using e);exact⟨u,by simpa using h1,h2⟩
theorem wm{g:Nf->T}:∀{us:List Nf},(∀u∈us,Rep K O H (g u) (JZ u))->Reps K O H (us.map g) (us.map JZ)
 |[],_=>Reps.nil_
 |u::us,h=>Reps.FM (h u Nb) (wm λv hv=>h v (Na _ hv))
theorem vF:∀{us:List Nf},(∀u∈us,RelV (JZ u) u)->Vals (us.map JZ) us
 |[],_=>.nil
 |u::us,h=>.cons (h u Nb) (vF λv hv=>h v (Na _ hv))
def Iv(hu:X.A.units+70<cLine)(hc:X.calm=ZC)(hm:X.mg "sorted" =ZB)(hmz:X.mg "zip" =ZB)(ha:sW X [a,b] fs)(hst:bM [a,b]=ZC:=by rfl)(hg:Gl X "sorted":=by rfl)(hgz:Gl X "zip":=by rfl):
  cJ X (.Call (.Name "sorted" p) [.Call (.Name "zip" p1) [a,b] [] p2] [] pos) (cl G6 fs):=by
 intro bv s σ H Q I ⟨Z,O,Ev,hq⟩
 have e1:NF [Pr (.Name "zip" p1) [a,b] [] p2] X.env=(ZD,eval (.Call (.Name "zip" p1) [a,b] [] p2) X.env)::NF [] X.env:=bh rfl;unfold bM at hst;rw[Ni]at hst
 have e2:NF [a,b] X.env=(ZD,eval a X.env)::NF [b] X.env:=bh hst.1;refine Oy (fO I hg hm (show N5 "sorted" =ZA (.builtin "sorted")by decide+kernel) ?_ (by decide) (by decide))
 refine Qc ?_ e1 rfl
 rw[e1];refine PJ ?_
 refine Oy (fO I hgz hmz (show N5 "zip" =ZA (.type "zip")by decide+kernel) ?_ (by decide) (by decide))
 refine N1 (cz (ha p2 bv s σ H _ I (fh Ev hq)) λus s1 ⟨vs,H1,I1,r1,ts,rs,s',E',q1⟩=>?_) e2 (gG hst.2)
 unfold G6 at q1
 split at q1
 ·rename_i x y
  split at q1
  ·rename_i l m hl hm'
   split at q1
   ·rename_i tn km htn hkm
    by_cases hz:tn.length=km.length/\0<tn.length/\tn.length<64
    ·rw[if_pos hz]at q1
     obtain⟨v1,vs1,rfl,ra,rb⟩:=Reps.me.mp rs;obtain⟨v2,rfl,rc⟩:=rb.one;obtain⟨c1,k1,w1,rfl,n1,rx,sx,_,nx⟩:=GY hl ra;obtain⟨c2,k2,w2,rfl,n2,ry,sy,_,ny⟩:=GY hm' rc
     cases r1 with
     |cons z1 z2=>
      obtain⟨u2,rfl,z3⟩:=Vals.one z2;cases z1;obtain rfl:u2=Nx c2:=z3;obtain⟨i1,y1,a1,_⟩:=vP I1 sx;obtain⟨i2,y2,a2,_⟩:=vP I1 sy
      have hi:=fM htn rx y1
      have l1:i1.length=tn.length:=hi.length
      have l2:i2.length=tn.length:=by rw[<-y2.length,<-ry.length,o9 hkm];exact hz.1.symm
      have lt1:=a1.lt
      have lt2:=a2.lt;refine EF a1 a2 λh' g1 g2 g3 g4=>?_
      refine P3 ?_
      have szn:i1.toArray.size=tn.length:=by rw[Nz];exact l1
      refine zA (R:=rkN) (s:={s1 with heap:=h'}) (by omega) λA' hA'=>?_
      refine yj (s:={s1 with heap:=h'}) (IB (t1:=k1) (t2:=k2) (xs:=i1.toArray) (ys:=i2.toArray) (show A'.in1.handled=ZB from hA'.trans (I1.ok.hd hc)) lt1 lt2 (by rw[Nz,Nz,l1,l2])) (by rw[szn,ON];omega) ?_ (by simp) ⟨g1,a1.keep λo e=>g4 _ _ e,a2.keep λo e=>g4 _ _ e,g2⟩ (by decide) (by decide) F.zip_no_len F.zip_no_hint λh2 tk ps kp hl2 hps=>?_
      ·intro b hb
       show b<h'.objs.size
       rw[g3];simp only[Nl,N8,or_false]at hb;rcases hb with rfl|rfl|rfl|rfl|rfl|rfl|rfl
       ·omega
       ·omega
       ·omega
       ·omega
       ·omega
       ·exact Nq lt1 (by omega)
       ·exact Nq lt2 (by omega)
      have keep1:∀b ob,s1.heap.get? b=ZA ob->h2.get? b=ZA ob:=λb ob e=>kp b ob (λhb=>by
       have:=Np e;simp only[Nl,N8,or_false]at hb;rcases hb with rfl|rfl|rfl|rfl
       ·exact absurd this (by show ¬(s1.heap.objs.size+4<s1.heap.objs.size);omega)
       ·exact absurd this (NK _)
       ·exact absurd this (by show ¬(s1.heap.objs.size+1<s1.heap.objs.size);omega)
       ·exact absurd this (by show ¬(s1.heap.objs.size+3<s1.heap.objs.size);omega)) (g4 b ob e)
      have pair:∀(j:Nat)(q:Nat),ps[j]?=ZA q->s1.heap.objs.size<=q/\∃t k b ms,tn[j]?=ZA t/\km[j]?=ZA ms/\PD h2 q (.int t k) (.ref b)/\VN h2 (.ref q) (t::ms)/\Rep X.K O H1 (.tup (ms.map .int)) (.ref b):=λj q hj=>by
       obtain⟨hq,x,y,⟨hx,hy⟩,ip⟩:=hps j q hj
       have hq':s1.heap.objs.size<=q:=by have:h'.objs.size<=q:=hq;rw[g3]at this;omega
       rw[List.getElem?_toArray]at hx hy
       obtain⟨t,k,rfl,ht⟩:=hi.at j x hx
       have hj2:j<m.length:=by
        have:=(Nu.mp hy).1
        rw[o9 hkm,<-hz.1,<-l2];exact this
       obtain⟨ms,hms,em⟩:=v9 hkm j m[j] (Nk hj2)
       obtain⟨v,hv,rv⟩:=zG ry (Nk hj2)
       obtain⟨u,hu',ru⟩:=y2.get hv;rw[hy]at hu';cases hu';rw[em]at rv;obtain⟨b,ws,rfl,nb,hb,rb'⟩:=Rep.Do.mp rv;obtain rfl:y=Nx b:=ru;obtain⟨its,wv,tp,_⟩:=I1.tuple (SqT.of hb)
       have hin:Po its ms:=fM (l:=ms.map .int) (by
        clear hms em rv rb' hb
        induction ms with
        |nil=>rfl
        |cons i ms ih=>show(dZ (ms.map .int)).map (i:: ·)=_;rw[ih];rfl) rb' wv
       refine⟨hq',t,k,b,ms,ht,hms,ip,⟨q,t,k,b,its.toArray,ms,rfl,ip,?_,by simpa using hin,rfl⟩,rv⟩
       obtain⟨o,ho,hr⟩:=tp;exact⟨o,keep1 _ _ ho,hr⟩
      have rowsE:(ps.map Nx).map (rkN.row h2)=Tg Re tn km:=by
       apply UU
       intro j;rw[N3,NC,List.getElem?_zipWith]
       cases hj:ps[j]? with
       |none=>
        have:tn[j]?=ZB:=Pg (by have:=Sf.mp hj;rw[<-szn,<-hl2];exact this)
        rw[this];rfl
       |some q=>
        obtain⟨_,t,k,b,ms,ht,hk,_,vn,_⟩:=pair j q hj;rw[ht,hk]
        show ZA (rkN.row h2 (.ref q))=ZA (t::ms)
        rw[RK.KF (R:=rkN) vn]
      refine⟨λv hv=>?_,by rw[Nc,hl2,szn];exact hz.2.2,λout g5 g6=>?_⟩
      ·obtain⟨q,hq,rfl⟩:=NA.mp hv
       obtain⟨j,hj⟩:=TU hq
       obtain⟨_,t,k,b,ms,_,_,_,vn,_⟩:=pair j q hj;exact⟨_,vn⟩
      have g6':(out.toList.map (rkN.row h2)).Pairwise (λa b=>jY a b=ZC):=g6
      have eo:=lZ ((g5.map (rkN.row h2)).trans (by rw[rowsE])) g6'
      have inout:∀u∈out.toList,∃q:Nat,u=.ref q/\s1.heap.objs.size<=q/\∃t k b ms,PD h2 q (.int t k) (.ref b)/\rkN.row h2 u=t::ms/\Rep X.K O H1 (.tup (ms.map .int)) (.ref b):=λu hu'=>by
       obtain⟨q,hq,rfl⟩:=NA.mp (g5.mem_iff.mp hu');obtain⟨j,hj⟩:=TU hq
       obtain⟨h1,t,k,b,ms,_,_,ip,vn,rv⟩:=pair j q hj;exact⟨q,rfl,h1,t,k,b,ms,ip,RK.KF (R:=rkN) vn,rv⟩
      have hoL:(h2.push (seqObj "list" (ps.map Nx).toArray 0)).get? h2.objs.size=ZA (seqObj "list" (ps.map Nx).toArray 0):=Nn _ rfl
      obtain⟨ep,hat⟩:=sortedHeap_at (out:=out) hoL
      have keep2:∀b ob,h2.get? b=ZA ob->(Rr (h2.push (seqObj "list" (ps.map Nx).toArray 0)) h2.objs.size (ps.map Nx) out).get? b=ZA ob:=λb ob e=>by
       have hb:=Np e;rw[sortedHeap_old (Oa hb) (by rw[NY];exact P7 hb)]
       exact M8 _ e
      have hz2:s1.heap.objs.size<=h2.objs.size:=by
       match ps,hl2,hps with
       |[],hl2,_=>rw[szn]at hl2;simp at hl2;omega
       |q::_,_,hps=>obtain⟨hq,x,y,_,ip⟩:=hps 0 q rfl;have h3:=Np ip;have:h'.objs.size<=q:=hq;rw[g3]at this;exact OV (PK (by omega) h3)
      have I3:Inv X bv σ (Ga s1.heap.objs.size H1 (wV (Rr (h2.push (seqObj "list" (ps.map Nx).toArray 0)) h2.objs.size (ps.map Nx) out) h2.objs.size out.toList)) {s1 with heap:=Rr (h2.push (seqObj "list" (ps.map Nx).toArray 0)) h2.objs.size (ps.map Nx) out,toks:=tk}:=by
       refine I1.MT (λb ob e=>keep2 _ _ (keep1 _ _ e)) λc o hc' e=>?_
       unfold wV at e
       by_cases cr:c=h2.objs.size
       ·rw[if_pos cr]at e
        cases e;subst cr;refine⟨?_,out.toList,ep,vF λu hu'=>?_,by simpa using hat⟩
        ·rw[Nc,g5.length_eq,Nc,hl2,szn,ON];omega
        ·obtain⟨q,rfl,_⟩:=inout u hu';rfl
       ·rw[if_neg cr]at e
        by_cases co:Nx c∈out.toList
        ·rw[if_pos co]at e
         cases e;obtain⟨q,eq,_,t,k,b,ms,ip,_,_⟩:=inout _ co;cases eq
         have ip2:=keep2 _ _ ip
         have ei:Aj (Rr (h2.push (seqObj "list" (ps.map Nx).toArray 0)) h2.objs.size (ps.map Nx) out) c=[.int t k,.ref b]:=by unfold Aj;rw[ip2]
         rw[ei];exact⟨by show 2<=ZI;rw[ON];omega,[.int t k,.ref b],.cons ⟨k,rfl⟩ (.cons rfl .nil),⟨_,ip2,rfl,0,rfl⟩⟩
        ·rw[if_neg co]at e;cases e
      have sm:Same H1 (Ga s1.heap.objs.size H1 (wV (Rr (h2.push (seqObj "list" (ps.map Nx).toArray 0)) h2.objs.size (ps.map Nx) out) h2.objs.size out.toList)):=λc o e=>I1.GT e
      have fr:∀c:ZE,s1.heap.objs.size<=(c:Nat)->¬ O c:=λc hc'=>E'.fresh (I1.hok.fresh hc')
      refine⟨.ref h2.objs.size,_,I3,rfl,q1 _ sm _ ?_⟩
      refine Rep.Fk.mpr ⟨h2.objs.size,out.toList.map JZ,rfl,fr _ hz2,?_,?_⟩
      ·rw[uQ hz2];unfold wV;rw[if_pos rfl]
      ·rw[<-eo,N3]
       refine wm λu hu'=>?_
       obtain⟨q,rfl,hq,t,k,b,ms,ip,er,rv⟩:=inout u hu'
       show Rep X.K O _ (unN (rkN.row h2 (.ref q))) (.ref q)
       rw[er];refine Rep.Do.mpr ⟨q,[.int t,.ref b],rfl,fr q hq,?_,Reps.FM (Rep.GE t) (Reps.FM (rv.same sm) Reps.nil_)⟩
       rw[uQ hq];unfold wV
       have ip2:=keep2 _ _ ip
       have nr:q≠h2.objs.size:=Oa (Np ip);rw[if_neg nr,if_pos hu'];unfold Aj;rw[ip2]
       rfl
    ·rw[if_neg hz]at q1;exact q1.elim
   ·exact q1.elim
  ·exact q1.elim
 ·exact q1.elim
end
open PySem.W
theorem xj{b fin:Bool}:∀{xs:List Nf}{ns:List Int}(_:Po xs ns){ys:List Nf}{ms:List Int}(_:Po ys ms)(i:Nat),fin=decide (xs.length<ys.length)->Q (cH ns ms) s->KatLex prog w A b fin Q (xs.zip ys) i s
 |_,_,.nil,_,_,.nil,i,hf,q=>kat_nil (by subst hf;exact q)
 |_,_,.nil,_,_,.cons _ _ _,i,hf,q=>kat_nil (by rw[hf,decide_eq_true (by simp)];exact q)
 |_,_,.cons _ _ _,_,_,.nil,i,hf,q=>kat_nil (by rw[hf,decide_eq_false (by simp)];exact q)
 |_,_,.cons n t r,_,_,.cons m u r2,i,hf,q=>by
  rw[w9]at q;refine kat_cons (SY ?_)
  by_cases z:n=m
  ·rw[beq_iff_eq.mpr z]
   rw[if_pos z]at q;exact kat_yes (xj r r2 (i+1) (by rw[hf];simp) q)
  ·rw[beq_eq_false_iff_ne.mpr z]
   rw[if_neg z]at q;exact kat_no (Ae q _)
def rkR:RK where
 V:=RowV
 inj:=RowV.inj
 on:=λ⟨a,its,e,⟨o,ho,hc⟩,i,ne⟩ up=>⟨a,its,e,⟨o,up _ _ ho,hc⟩,i,ne⟩
 fst:=λ⟨a,its,e,⟨o,ho,hc,n,hd⟩,i,ne⟩=>by
  obtain⟨xs⟩:=its
  cases i with
  |nil=>exact absurd rfl ne
  |cons m t r=>exact⟨a,_,n,o,m,t,e,ho,hc,hd,rfl⟩
 lt:=λ{prog w A s E x y a b Q} hu ⟨xa,xi,ex,⟨xo,xp,_,xn,xd⟩,xi',_⟩ ⟨ya,yi,ey,⟨yo,yp,_,yn,yd⟩,yi',_⟩ q=>by
  subst ex ey;exact kat_lt xp xd yp yd (xj xi' yi' 0 (by rw[NX,NX]) q)
variable{h:ZH}{σ:L2.St}
theorem wa{bv:V2}(I:Inv X bv σ H s):∀{l:List T}{k:List (List Int)}{vs:List V}{us:List Nf},rowsT l=ZA k->Reps X.K O H l vs->Vals vs us →
  us.map (rkR.row s.heap)=k/\∀u∈us,RowV s.heap u (rkR.row s.heap u)/\RelV (qE u) u/\Rep X.K O H (.tup ((rkR.row s.heap u).map .int)) (qE u)
 |[],k,vs,us,h,r,v=>by
  cases Reps.AC.mp r;cases v;cases h
  exact⟨rfl,λu hu=>by cases hu⟩
 |t::l,k,vs,us,h,r,v=>by
  obtain⟨x,xs,rfl,p,q⟩:=Reps.me.mp r
  cases v with
  |@cons _ u _ us' v1 v2=>
   cases t with
   |tup m=>
    unfold rowsT at h
    split at h
    ·rename_i ns k' h1 h2
     by_cases ne:ns=[]
     ·rw[if_pos ne]at h;cases h
     ·rw[if_neg ne]at h;cases h
      obtain⟨e1,e2⟩:=wa I h2 q v2;obtain⟨a,ws,rfl,_,g3,g4⟩:=Rep.Do.mp p;obtain rfl:u=Nx a:=v1;obtain⟨its,w1,t1,_⟩:=I.tuple (SqT.of g3)
      have hi:=fM h1 g4 w1;obtain⟨o,ho,hc,n,hd⟩:=t1
      have row:RowV s.heap (.ref a) ns:=⟨a,_,rfl,⟨o,ho,hc,n,hd⟩,by simpa using hi,ne⟩
      have em:m=ns.map .int:=ku h1;subst em;refine⟨by rw[Nd,e1,RK.KF (R:=rkR) row],λu hu=>?_⟩
      rcases Nl.mp hu with rfl|hu
      ·rw[RK.KF (R:=rkR) row];exact⟨row,rfl,p⟩
      ·exact e2 u hu
    ·cases h
   |_=>cases h
theorem oK:∀{us:List Nf},(∀u∈us,RelV (qE u) u/\Rep K O H (.tup ((rkR.row h u).map .int)) (qE u))->Vals (us.map qE) us/\Reps K O H (us.map λu=>.tup ((rkR.row h u).map .int)) (us.map qE)
 |[],_=>⟨.nil,Reps.nil_⟩
 |u::us,hu=>by
  obtain⟨h1,h2⟩:=hu u Nb;obtain⟨g1,g2⟩:=oK λv hv=>hu v (Na _ hv)
  exact⟨.cons h1 g1,Reps.me.mpr ⟨_,_,rfl,h2,g2⟩⟩
def zc(hu:X.A.units+70<cLine):CallT X (.builtin "sorted") rP:=by
 intro bv s σ H O ts vs us Q I hf rs rv hp;unfold rP at hp
 split at hp
 ·rename_i l
  obtain⟨v,rfl,r⟩:=rs.one
  split at hp
  ·rename_i k hk
   by_cases h64:k.length<64
   ·rw[if_pos h64]at hp
    obtain⟨a,ws,rfl,n,q,z⟩:=Rep.Fk.mp r;obtain⟨u,rfl,ru⟩:=kQ rv;obtain rfl:u=Nx a:=ru;obtain⟨its,r',pl,hz⟩:=I.list (SqL.of q);obtain⟨e1,e2⟩:=wa I hk z r'
    have hz1:((s.heap.push (seqObj "list" #[] 0)).update s.heap.objs.size (Qr (· ++its.toArray))).objs.size=s.heap.objs.size+1:=by rw[Qo,NY]
    have keep:∀b o,s.heap.get? b=ZA o->((s.heap.push (seqObj "list" #[] 0)).update s.heap.objs.size (Qr (· ++its.toArray))).get? b=ZA o:=λb o e=>by
     have nb:b≠s.heap.objs.size:=Oa (Np e);rw[T7 _ _ _ _ nb,Sz _ _ _ nb]
     exact e
    refine zA (R:=rkR) (by omega) λA' _=>collect_list pl.isList ⟨λv hv=>⟨_,rkR.on (e2 v hv).1 keep⟩,by rw[<-Nc (rkR.row s.heap),e1];exact h64,λout g1 g2=>?_⟩ (by rw[<-Nc (rkR.row s.heap),e1,ON];omega)
    rw[NQ λv hm=>show _=rkR.row s.heap v from RK.KF (R:=rkR) (rkR.on (e2 v (g1.mem_iff.mp hm)).1 keep)]at g2
    dsimp only
    rw[hz1]
    have g3:=lZ (e1▸g1.map (rkR.row s.heap)) g2;obtain⟨k1,k2⟩:=oK (us:=out.toList) (K:=X.K) (O:=O) (H:=H) (h:=s.heap) λu hu=>(e2 u (g1.mem_iff.mp hu)).2
    obtain⟨e,he⟩:=sortedAll_at s.heap its out
    have hfr:H (s.heap.objs.size+1)=ZB:=I.hok.fresh (Nat.le_succ _);refine⟨.ref (s.heap.objs.size+1),_,I.laid (t':=s.toks) (λ_ _=>sortedAll_old) (Nat.le_succ _) (show ObjOk X.prog X.w _ _ _ (.lst (out.toList.map qE))from⟨?_,out.toList,e,k1,he⟩),rfl,hp _ (aV hfr _) _ ?_⟩
    ·rw[Nc,g1.length_eq,<-Nc (rkR.row s.heap),e1,ON];omega
    ·have:=jN (p:=s.heap.objs.size+1) hfr (hf _ hfr) k2
     rw[<-g3,N3];exact this
   ·rw[if_neg h64]at hp;exact hp.elim
  ·exact hp.elim
 ·exact hp.elim
inductive Fx where
 |nx (Z:En)|rt (t:T) (Z:En)
def mN(Z:En):Rs Fx:=.ok (.nx Z)
def LS(i:Nat)(Z:En):Rs Fl:=if i<Z.length then .ok (.nx (Z.set i .em))else .bad
noncomputable def xO(ps:List (Str×Str)):T->Rs T
 |.str x=>match ps.lookup x with
  |some y=>.ok (.str y)
  |none=>.bad
 |_=>.bad
abbrev one(j:Nat)(m:Ow):Mn:=noM.set j m
abbrev BM(B m:Ow):Ow:=λa=>B a\/m a
def AS(K:M9)(n j:Nat)(g:List Sl->Rs (T×OT)):Sp:=λvs H Q _=>∃sls B m v,Ev K B (one j m) H sls (vs.map ZA)/\sls.length=n/\vs[j]?=ZA v ∧
 match g sls with
 |.ok p=>∀u H' m',SameO m H H'->ORep K (BM B m') m' H' p.2 v->(∀a,m' a->m a\/Nw K H a)->Rep K (BM B m') H' p.1 u->Q u H'
 |_=>False
structure QE (X:Cx)(e:ZG)(f:V5):Prop where
 h:cJ X e f
structure QA (X:Cx)(e:List ZG)(f:V3):Prop where
 h:sW X e f
structure QT (X:Cx)(e:ZG)(f:V6):Prop where
 h:xS X e f
structure QW (X:Cx)(e:ZG)(f:V6):Prop where
 h:Hu X e f
structure QS (X:Cx)(e:ZF)(f:V4):Prop where
 h:qG X e f
structure Bz (X:Cx)(e:List ZF)(f:V4):Prop where
 h:lN X e f
structure QG (X:Cx)(e:ZG)(f:T->En->Rs En):Prop where
 h:Eo X e f
structure L0 (X:Cx)(e:List ZG)(f:List T->En->Rs En):Prop where
 h:Ep X e f
structure QI (X:Cx)(t e:ZG)(f:V3):Prop where
 h:BH X t e f
structure QO (X:Cx)(e:Option ZG)(f:En->Rs (Option Int)):Prop where
 h:LF X e f
structure LC (X:Cx)(e:List ZG)(f:V6):Prop where
 h:AF X e (zy X f)
variable{x:Str}
def ae(i:Nat){pos:Pos}(hN:(Cx.N X)[i]?=ZA x:=by rfl)(hv:autoParam (vo (PL (Cx.env X)) x) u_)(hd:autoParam ((x == Nt "__debug__")=ZD) s_)(hcd:autoParam ((x == Nt "__classdict__")=ZD) s_):QE X (N6 x pos) (vr i):=
 ⟨KA (i:=i) (hN:=hN) (hv:=hv) (hd:=hd) (hcd:=hcd)⟩
def aq{i:Int}{pos:Pos}:QE X (SK (Const.int i) j pos) (cn (T.int i)):=
 ⟨KO ⟩
def fg{i:Bool}{pos:Pos}:QE X (SK (Const.bool i) j pos) (cn (T.bl i)):=
 ⟨q_bl ⟩
def bH{pos:Pos}:QE X (SK Const.none j pos) (cn T.non):=
 ⟨KI ⟩
def tf{i:Str}{pos:Pos}:QE X (SK (Const.str i) j pos) (cn (T.str i)):=
 ⟨KD ⟩
def EG{i:Int}{u:Nf}{pos:Pos}(hm:Cx.mg X x=ZA u)(r:L2.RelV (V.int i) u)(hg:Gl X x:=by rfl)(hd:autoParam ((x == Nt "__debug__")=ZD) s_):QE X (N6 x pos) (cn (T.int i)):=
 ⟨Iw (hm:=hm) (r:=r) (hg:=hg) (hd:=hd)⟩
def ah:QA X [] ai:=
 ⟨Iu ⟩
variable{e:ZG}{es:List ZG}
def ag{f:V5}{g:V3}(he:QE X e f)(hr:QA X es g)(hn:bN e=ZC:=by rfl):QA X (e::es) (af f g):=
 ⟨qa_c (he:=he.h) (hr:=hr.h) (hn:=hn)⟩
variable{f:V3}
def bD{pos:Pos}(h:QA X es f):QE X (Expr.Tuple es x1 pos) (bA f):=
 ⟨KC (h:=h.h)⟩
def eO{pos:Pos}(h:QA X es f):QE X (Expr.List es pos) (dF f):=
 ⟨KL (h:=h.h)⟩
variable{fa fb:V5}{g:T->T->Rs T}
def aw{pos:Pos}{op:Operator}(ho:OpT X (Pm op) g)(ha:QE X a fa)(hb:QE X b fb):QE X (Expr.BinOp a op b pos) (o2 g fa fb):=
 ⟨KR (ho:=ho) (ha:=ha.h) (hb:=hb.h)⟩
variable{op:CmpOp}
def ff{pos:Pos}(ho:OpT X (Og op) g)(ha:QE X a fa)(hb:QE X b fb)(hm:QL op b=ZD:=by rfl):QE X (U7 a [op] [b] pos) (o2 g fa fb):=
 ⟨KQ (ho:=ho) (ha:=ha.h) (hb:=hb.h) (hm:=hm)⟩
def tj{pos:Pos}(ha:QE X a fa):QE X (U8 UnaryOp.USub a pos) (o1 uG fa):=
 ⟨KJ (ha:=ha.h)⟩
variable{c:ZG}
def vC{fc:V5}{pos:Pos}{op':CmpOp}{g':T->T->Rs T}(ho:OpT X (Og op) g)(ho':OpT X (Og op') g')(ha:QE X a fa)(hb:QE X b fb)(hc:QE X c fc)(hm:autoParam (lastMarks [op,op'] [b,c]=ZD) v_):QE X (U7 a [op,op'] [b,c] pos) (ch g g' fa fb fc):=
 ⟨FD (ho:=ho) (ho':=ho') (ha:=ha.h) (hb:=hb.h) (hc:=hc.h) (hm:=hm)⟩
def bV{f:V5}(h:QE X e f)(he:autoParam (∀(whole:Sem Nf),PySem.isTrue e (Cx.env X) whole=(do let v <-whole;standAt (Expr.pos e);holding [v] (truthy v))) t_):QT X e (tb f):=
 ⟨Ia (h:=h.h) (he:=he)⟩
def aP{pos:Pos}(ho:OpT X (Og op) g)(ha:QE X a fa)(hb:QE X b fb)(hm:QL op b=ZD:=by rfl):QT X (U7 a [op] [b] pos) (tb (o2 g fa fb)):=
 ⟨Ic (ho:=ho) (ha:=ha.h) (hb:=hb.h) (hm:=hm)⟩
variable{f:V6}
def iB{pos:Pos}(ha:QT X a f):QW X (PY TJ [a] pos) f:=
 ⟨Fi (ha:=ha.h)⟩
def gp{pos:Pos}(ha:QT X a f):QW X (PY Uq [a] pos) f:=
 ⟨HZ (ha:=ha.h)⟩
def kj{pos:Pos}{g:V6}{rest:List ZG}(ha:QT X a f)(hb:QW X (PY TJ (b::rest) pos) g):QW X (PY TJ (a::b::rest) pos) (kP f g):=
 ⟨H0 (ha:=ha.h) (hb:=hb.h)⟩
def iV{pos:Pos}{g:V6}{rest:List ZG}(ha:QT X a f)(hb:QW X (PY Uq (b::rest) pos) g):QW X (PY Uq (a::b::rest) pos) (l8 f g):=
 ⟨Kv (ha:=ha.h) (hb:=hb.h)⟩
def gD(h:QW X e f):QT X e f:=
 ⟨qt_w (h:=h.h)⟩
def cY{pos:Pos}(ha:QT X a f):QT X (U8 UnaryOp.Not a pos) (dt f):=
 ⟨Ib (ha:=ha.h)⟩
def d7{pos:Pos}{op:BoolOp}(h:QE X a fa):QE X (PY op [a] pos) fa:=
 ⟨KG (h:=h.h)⟩
def d8{pos:Pos}{rest:List ZG}(ha:QE X a fa)(hb:QE X (PY TJ (b::rest) pos) fb):QE X (PY TJ (a::b::rest) pos) (cE fa fb):=
 ⟨KS (ha:=ha.h) (hb:=hb.h)⟩
def BO{pos:Pos}{rest:List ZG}(ha:QE X a fa)(hb:QE X (PY Uq (b::rest) pos) fb):QE X (PY Uq (a::b::rest) pos) (BD fa fb):=
 ⟨q_or (ha:=ha.h) (hb:=hb.h)⟩
def xT{pos:Pos}(ha:QE X a fa):QE X (U8 UnaryOp.Not a pos) (o1 yD fa):=
 ⟨KH (ha:=ha.h)⟩
def nE{pos:Pos}(hc:QT X c f)(ha:QE X a fa)(hb:QE X b fb):QE X (Expr.IfExp c a b pos) (qi f fa fb):=
 ⟨q_if (hc:=hc.h) (ha:=ha.h) (hb:=hb.h)⟩
def aK{pos:Pos}(ha:QE X a fa)(hb:QE X b fb)(hs:autoParam (AE b) w_):QE X (Pv a b pos) (o2 aY fa fb):=
 ⟨q_ix (ha:=ha.h) (hb:=hb.h) (hs:=hs)⟩
def BL:QO X ZB pN:=
 ⟨Ft ⟩
def BK(ha:QE X a fa):QO X (ZA a) (pS fa):=
 ⟨Fs (ha:=ha.h)⟩
def BN{pos:Pos}{lo hi:Option ZG}{p2:Pos}{fl fu:En->Rs (Option Int)}(ha:QE X a fa)(hl:QO X lo fl)(hu:QO X hi fu):QE X (Pv a (Expr.Slice lo hi ZB p2) pos) (sl fa fl fu):=
 ⟨FC (ha:=ha.h) (hl:=hl.h) (hu:=hu.h)⟩
variable{g:List T->Rs T}
def dk{fs:V3}{pos:Pos}{id:String}(hc:CallT X (Value.builtin id) g)(hm:Cx.mg X x=ZB)(hv:N5 x=ZA (Value.builtin id))(ha:QA X (e::es) fs)(hn:bM (e::es)=ZC:=by rfl)(hg:Gl X x:=by rfl)(h1:autoParam (x≠Nt "__name__") s_)(h2:autoParam ((x == Nt "__debug__")=ZD) s_):QE X (Pr (N6 x p) (e::es) [] pos) (cl g fs):=
 ⟨q_cB (hc:=hc) (hm:=hm) (hv:=hv) (ha:=ha.h) (hn:=hn) (hg:=hg) (h1:=h1) (h2:=h2)⟩
def oH{fs:V3}{pos:Pos}(hc:CallT X (OU Ty) g)(hm:Cx.mg X x=ZB)(hv:N5 x=ZA (OU Ty))(ha:QA X (e::es) fs)(hn:bM (e::es)=ZC:=by rfl)(hg:Gl X x:=by rfl)(h1:autoParam (x≠Nt "__name__") s_)(h2:autoParam ((x == Nt "__debug__")=ZD) s_):QE X (Pr (N6 x p) (e::es) [] pos) (cl g fs):=
 ⟨q_cT (hc:=hc) (hm:=hm) (hv:=hv) (ha:=ha.h) (hn:=hn) (hg:=hg) (h1:=h1) (h2:=h2)⟩
variable{ps:List Str}
def zq_c{fs:V3}{pos:Pos}{k:Nat}{f:ZE}(F:J3 (Cx.prog X) (Cx.w X) (Cx.K X) (Cx.mg X) (Cx.base X) k f fd ps n g)(hr:Room k (Cx.A X))(hm:Cx.mg X x=ZA (Nx f))(hk:W.keepIn (Cx.K X) (Nx f)=ZC)(hb:L2.Binds (Cx.K X) fd ps [])(hl:∀(Z:En)(ts:List T),fs Z=Rs.ok ts->OE ts=n)(ha:QA X (e::es) fs)(hps:OE ps=n:=by rfl)(hn:bM (e::es)=ZC:=by rfl)(hg:Gl X x:=by rfl)(h2:autoParam ((x == Nt "__debug__")=ZD) s_):QE X (Pr (N6 x p) (e::es) [] pos) (cl g fs):=
 ⟨q_c (F:=F) (hr:=hr) (hm:=hm) (hk:=hk) (hb:=hb) (hl:=hl) (ha:=ha.h) (hps:=hps) (hn:=hn) (hg:=hg) (h2:=h2)⟩
def BP{pos p2:Pos}{tn:Str}(hm:Cx.mg X (Nt "isinstance")=ZB)(hmt:Cx.mg X tn=ZB)(hv:N5 tn=ZA (OU Ty))(ha:QE X a fa)(hn:bN a=ZC:=by rfl)(hg:Gl X (Nt "isinstance"):=by rfl)(hgt:Gl X tn:=by rfl)(h1:autoParam (tn≠Nt "__name__") s_)(h2:autoParam ((tn == Nt "__debug__")=ZD) s_):QE X (Pr (N6 (Nt "isinstance") p) [a,N6 tn p2] [] pos) (o1 (Gj Ty) fa):=
 ⟨q_is (hm:=hm) (hmt:=hmt) (hv:=hv) (ha:=ha.h) (hn:=hn) (hg:=hg) (hgt:=hgt) (h1:=h1) (h2:=h2)⟩
def aj{pos:Pos}(i:Nat)(hN:NU (Cx.N X))(hi:(Cx.N X)[i]?=ZA x:=by rfl)(hx:autoParam (L2.Loc (PL (Cx.env X)) x) x_)(hf:autoParam (Cx.fn X x=ZC\/Q0 x (SL (PL (Cx.env X)))=ZA NameKind.local) r_):QG X (N6 x pos) (gN i):=
 ⟨Fz (i:=i) (hN:=hN) (hi:=hi) (hx:=hx) (hf:=hf)⟩
def ck:L0 X [] j4:=
 ⟨Fy ⟩
variable{g:T->En->Rs En}{gs:List T->En->Rs En}
def aJ(h1:QG X e g)(h2:L0 X es gs)(hs:Vt (λx=>Prod.snd x) (O8 (e::es) (Cx.env X))=assign e (Cx.env X)::Vt (λx=>Prod.snd x) (O8 es (Cx.env X)):=by rfl):L0 X (e::es) (dE g gs):=
 ⟨Cr (h1:=h1.h) (h2:=h2.h) (hs:=hs)⟩
def cZ{pos:Pos}{k:Nat}(hc:Cx.calm X=ZC)(h:L0 X es gs)(hn:OE (O8 es (Cx.env X))=n:=by rfl)(hst:List.findIdx? (λx=>Prod.fst x) (O8 es (Cx.env X))=ZB:=by rfl):QG X (Expr.Tuple es k pos) (gT n gs):=
 ⟨Ir (hc:=hc) (h:=h.h) (hn:=hn) (hst:=hst)⟩
variable{tg:ZG}
def dq{fs:V3}{pos:Pos}(hm:Cx.mg X (Nt "range")=ZB)(ha:QA X [a] fs)(hg:Gl X (Nt "range"):=by rfl)(hs:NF [a] (Cx.env X)=[(ZD,eval a (Cx.env X))]:=by rfl):QI X tg (Pr (N6 (Nt "range") p) [a] [] pos) (iR fs):=
 ⟨AW (hm:=hm) (ha:=ha.h) (hg:=hg) (hs:=hs)⟩
def oG{fs:V3}{pos:Pos}(hm:Cx.mg X (Nt "range")=ZB)(ha:QA X [a,b] fs)(hg:Gl X (Nt "range"):=by rfl)(hs:NF [a,b] (Cx.env X)=[(ZD,eval a (Cx.env X)),(ZD,eval b (Cx.env X))]:=by rfl)(hs2:NF [b] (Cx.env X)=[(ZD,eval b (Cx.env X))]:=by rfl):QI X tg (Pr (N6 (Nt "range") p) [a,b] [] pos) (iR fs):=
 ⟨AV (hm:=hm) (ha:=ha.h) (hg:=hg) (hs:=hs) (hs2:=hs2)⟩
def cy:LC X [] bT:=
 ⟨Fv ⟩
def gF(h:QT X c f):LC X [c] f:=
 ⟨Fu (h:=h.h)⟩
variable{N':List Str}{elt iter:ZG}{fc:V6}{fe:V5}{fi:V3}{ifs:List ZG}{tgt:T->En->Rs En}
def fI{pos:Pos}{src:List (Option Nat)}(hc:Cx.calm X=ZC)(S:LcScope X scope N' src)(hi:QI X tg iter fi)(block:∀(cl:List (Str×ZE))(C:ZE)(s₀:Ng)(H₀:Hp)(fp:List ZE),QG (bL X scope cl N' C s₀ H₀ fp) tg tgt/\LC (bL X scope cl N' C s₀ H₀ fp) ifs fc/\QE (bL X scope cl N' C s₀ H₀ fp) elt fe)(hs:autoParam (∀(x:Nf),N7 iter (Cx.env X) x=pure x) t_):QE X (Ur elt [{target:=tg,iter:=iter,ifs:=ifs,is_async:=0}] scope pos) (eh fi src tgt fc fe):=
 ⟨q_lc (hc:=hc) (S:=S) (hi:=hi.h) (block:=λa1 a2 a3 a4 a5=>⟨(block a1 a2 a3 a4 a5).1.h,(block a1 a2 a3 a4 a5).2.1.h,(block a1 a2 a3 a4 a5).2.2.h⟩) (hs:=hs)⟩
def aX:Bz X [] sN:=
 ⟨Cn ⟩
variable{G:V4}{st:ZF}
def ak{rest:List ZF}{F:V4}(h1:QS X st F)(h2:Bz X rest G):Bz X (st::rest) (ax F G):=
 ⟨Fq (h1:=h1.h) (h2:=h2.h)⟩
def ar{F:V4}(h:QS X st F):Bz X [st] F:=
 ⟨Ih (h:=h.h)⟩
def az{pos:Pos}(ha:QE X a fa):QS X (Stmt.Return (ZA a) pos) (aM fa):=
 ⟨Ie (ha:=ha.h)⟩
def bB{pos:Pos}{A B:List ZF}{F:V4}(hc:QT X c f)(ha:Bz X A F)(hb:Bz X B G):QS X (Stmt.If c A B pos) (ee f F G):=
 ⟨Ky (hc:=hc.h) (ha:=ha.h) (hb:=hb.h)⟩
variable{py spos:Pos}{y:Str}
def BJ{pos:Pos}{src:List (Option Nat)}(i:Nat)(hc:Cx.calm X=ZC)(S:LcScope X scope N' src)(hi:QI X tg iter fi)(block:∀(cl:List (Str×ZE))(C:ZE)(s₀:Ng)(H₀:Hp)(fp:List ZE),QG (bL X scope cl N' C s₀ H₀ fp) tg tgt/\LC (bL X scope cl N' C s₀ H₀ fp) ifs fc/\QE (bL X scope cl N' C s₀ H₀ fp) elt fe)(hN:NU (Cx.N X))(hiy:(Cx.N X)[i]?=ZA y:=by rfl)(hy:autoParam (L2.Loc (PL (Cx.env X)) y) x_)(hsw:Ov (Ur elt [{target:=tg,iter:=iter,ifs:=ifs,is_async:=0}] scope pos) (ZA (N6 y py)) (QH spos) (Cx.env X)=pure ZC:=by rfl)(hf:autoParam (Cx.fn X y=ZC\/Q0 y (SL (PL (Cx.env X)))=ZA NameKind.local) r_)(hs:autoParam (∀(x:Nf),N7 iter (Cx.env X) x=pure x) t_):QS X (Rp [N6 y py] (Ur elt [{target:=tg,iter:=iter,ifs:=ifs,is_async:=0}] scope pos) spos) (cS (eh fi src tgt fc fe) (gN i)):=
 ⟨Kx (i:=i) (hc:=hc) (S:=S) (hi:=hi.h) (block:=λa1 a2 a3 a4 a5=>⟨(block a1 a2 a3 a4 a5).1.h,(block a1 a2 a3 a4 a5).2.1.h,(block a1 a2 a3 a4 a5).2.2.h⟩) (hN:=hN) (hiy:=hiy) (hy:=hy) (hsw:=hsw) (hf:=hf) (hs:=hs)⟩
def aH{pos:Pos}(ha:QE X a fa)(hg:QG X tg g)(hs:Uv [tg] a (QH pos) (Cx.env X)=pure ZD:=by rfl)(hw:Uw [tg] a (Cx.env X)=pure ZB:=by rfl)(h1:Vt (λx=>Prod.snd x) (O8 [tg] (Cx.env X))=[assign tg (Cx.env X)]:=by rfl):QS X (Rp [tg] a pos) (cS fa g):=
 ⟨Im (ha:=ha.h) (hg:=hg.h) (hs:=hs) (hw:=hw) (h1:=h1)⟩
def dB{pos:Pos}(ha:QE X a fa)(hs:Ov a ZB (QH pos) (Cx.env X)=pure ZD:=by rfl):QS X (Stmt.Expr a pos) (rS fa):=
 ⟨Fp (ha:=ha.h) (hs:=hs)⟩
variable{body:List ZF}
def bK{pos:Pos}{F:V4}(hc:Cx.calm X=ZC)(hi:QI X tg iter fi)(hg:QG (Cx.nox X) tg g)(hb:Bz (Cx.nox X) body F)(hs:autoParam (∀(x:Nf),N7 iter (Cx.env X) x=pure x) t_):QS X (Stmt.For tg iter body [] pos) (dM fi g F):=
 ⟨Ij (hc:=hc) (hi:=hi.h) (hg:=hg.h) (hb:=hb.h) (hs:=hs)⟩
def AH{pos:Pos}{F:V4}(n:Nat)(hc:QT (Cx.nox X) c fc)(hb:Bz (Cx.nox X) body F):QS X (Stmt.While c body [] pos) (bX fc F n):=
 ⟨Ck (n:=n) (hc:=hc.h) (hb:=hb.h)⟩
def bu(ha:QE X a fa):QI X tg a (iS fa):=
 ⟨Iq (ha:=ha.h)⟩
def fU{fs:V3}{pos:Pos}{elts:List ZG}{tpos:Pos}(hm:Cx.mg X (Nt "enumerate")=ZB)(ha:QA X [a] fs)(hg:Gl X (Nt "enumerate"):=by rfl)(hs:NF [a] (Cx.env X)=[(ZD,eval a (Cx.env X))]:=by rfl):QI X (Expr.Tuple elts kk tpos) (Pr (N6 (Nt "enumerate") p) [a] [] pos) (iE fs):=
 ⟨Fw (hm:=hm) (ha:=ha.h) (hg:=hg) (hs:=hs)⟩
variable{p3:Pos}
def gE{pos p2:Pos}(i:Nat){f:V3}(hN:NU (Cx.N X))(ha:QA X es f)(hi:(Cx.N X)[i]?=ZA x:=by rfl)(hx:autoParam (L2.Loc (PL (Cx.env X)) x) x_)(hs:Ov (Expr.List es p2) (ZA (N6 x p3)) (QH pos) (Cx.env X)=pure ZD:=by rfl)(hf:autoParam (Cx.fn X x=ZC\/Q0 x (SL (PL (Cx.env X)))=ZA NameKind.local) r_):QS X (Rp [N6 x p3] (Expr.List es p2) pos) (iH i f):=
 ⟨Fm (i:=i) (hN:=hN) (ha:=ha.h) (hi:=hi) (hx:=hx) (hs:=hs) (hf:=hf)⟩
variable{apos cpos:Pos}
def gq{pos p2:Pos}(i:Nat)(ha:QE X a fa)(hN:(Cx.N X)[i]?=ZA x:=by rfl)(hv:autoParam (vo (PL (Cx.env X)) x) u_)(hn:bN a=ZC:=by rfl)(hbase:Pb (N6 x p2) (Nt "append") (Cx.env X) (eval (N6 x p2) (Cx.env X))=eval (N6 x p2) (Cx.env X):=by rfl)(hline:(T9 apos == QH cpos)=ZC:=by rfl)(hd:autoParam ((x == Nt "__debug__")=ZD) s_)(hcd:autoParam ((x == Nt "__classdict__")=ZD) s_)(hsw:Ov (Pr (QQ (N6 x p2) (Nt "append") apos) [a] [] cpos) ZB (QH pos) (Cx.env X)=pure ZD:=by rfl):QS X (Stmt.Expr (Pr (QQ (N6 x p2) (Nt "append") apos) [a] [] cpos) pos) (gY i fa):=
 ⟨Io (i:=i) (ha:=ha.h) (hN:=hN) (hv:=hv) (hn:=hn) (hbase:=hbase) (hline:=hline) (hd:=hd) (hcd:=hcd) (hsw:=hsw)⟩
def sZ{pos p2:Pos}(i:Nat)(ha:QE X a fa)(hN:(Cx.N X)[i]?=ZA x:=by rfl)(hv:autoParam (vo (PL (Cx.env X)) x) u_)(hn:bN a=ZC:=by rfl)(hbase:Pb (N6 x p2) (Nt "extend") (Cx.env X) (eval (N6 x p2) (Cx.env X))=eval (N6 x p2) (Cx.env X):=by rfl)(hline:(T9 apos == QH cpos)=ZC:=by rfl)(hd:autoParam ((x == Nt "__debug__")=ZD) s_)(hcd:autoParam ((x == Nt "__classdict__")=ZD) s_)(hsw:Ov (Pr (QQ (N6 x p2) (Nt "extend") apos) [a] [] cpos) ZB (QH pos) (Cx.env X)=pure ZD:=by rfl):QS X (Stmt.Expr (Pr (QQ (N6 x p2) (Nt "extend") apos) [a] [] cpos) pos) (o8 i fa):=
 ⟨Ik (i:=i) (ha:=ha.h) (hN:=hN) (hv:=hv) (hn:=hn) (hbase:=hbase) (hline:=hline) (hd:=hd) (hcd:=hcd) (hsw:=hsw)⟩
def g9(i:Nat){F:V4}(h:QS X st F):QS X st (mS i F):=
 ⟨Il (i:=i) (h:=h.h)⟩
def jC(i:Nat){f:V5}(h:QE X e f):QE X e (ln i f):=
 ⟨q_ln (i:=i) (h:=h.h)⟩
def Hz(i:Nat)(h:QT X e f):QT X e (Jk i f):=
 ⟨Kw (i:=i) (h:=h.h)⟩
def HA{pos:Pos}:QS X (Stmt.Continue pos) Hb:=
 ⟨Kz ⟩
variable{C:ZE}
def mL{c:Str}{msg:Str}{np pos:Pos}(O:OX X.K C bm)(hm:X.mg c=ZA (.ref C))(hc:X.calm=ZC:=by rfl)(hg:Gl X c:=by rfl)(hd:autoParam ((c == ("__debug__" : Str))=ZD) s_):
  QS X (.Raise (ZA (.Call (.Name c np) [.Constant (.str msg) j p1] [] cpos)) ZB pos) (Cc c):=⟨Cm O.own hc hm hg hd⟩
variable{N:List Str}{mg:V0}
def zv{base:ZH}{qual:Str}{f:ZE}{k:Nat}{F:V4}(Fn:L2.Fun K x qual st f fd)(S:aE N ps (ao st))(hn:ps.length=n)
  (hbody:∀(cdv:Nf)(A:N4)(outer:List Env)(s:Ng)(H:Hp)(E:XK),Room k (A.deeper (envOfC qual (ao st) s.heap.objs.size f cdv)) →
   ∀xe,Bz ((ni CX0 P w K mg base N qual (ao st) f cdv A outer s H E).FS xe) (dJ st) F):J3 P w K mg base (k+1) f fd ps n (val n N.length F):=JL Fn S hn λcdv A outer s H E hr xe=>(hbody cdv A outer s H E hr xe).h
def bo{pos:Pos}(hu:RA (Cx.A X)+1<cLine)(ha:QE X a fa)(hb:QE X b fb)(hs:autoParam (vp b) w_):QE X (Pv a b pos) (o2 aN fa fb):=
 ⟨KP (hu:=hu) (ha:=ha.h) (hb:=hb.h) (hs:=hs)⟩
def zq(hu:RA (Cx.A X)+1<cLine)(ha:QE X a fa)(hb:QE X b fb)(hn:bN b=ZC:=by rfl)(hbase:Pb a (Nt "get") (Cx.env X) (eval a (Cx.env X))=eval a (Cx.env X):=by rfl)(hline:(T9 apos == QH cpos)=ZC:=by rfl):QE X (Pr (QQ a (Nt "get") apos) [b] [] cpos) (oD jA fa fb):=
 ⟨Iz (hu:=hu) (ha:=ha.h) (hb:=hb.h) (hn:=hn) (hbase:=hbase) (hline:=hline)⟩
def mM(hu:RA (Cx.A X)+61<cLine)(ha:QE X a fa)(hb:QE X b fb)(hn:bN b=ZC:=by rfl)(hbase:Pb a (Nt "index") (Cx.env X) (eval a (Cx.env X))=eval a (Cx.env X):=by rfl)(hline:(T9 apos == QH cpos)=ZC:=by rfl):QE X (Pr (QQ a (Nt "index") apos) [b] [] cpos) (oL eJ fa fb):=
 ⟨Ct (hu:=hu) (ha:=ha.h) (hb:=hb.h) (hn:=hn) (hbase:=hbase) (hline:=hline)⟩
def AJ{pos p2:Pos}(i:Nat)(hN:NU (Cx.N X))(hi:(Cx.N X)[i]?=ZA x:=by rfl)(hx:autoParam (L2.Loc (PL (Cx.env X)) x) x_)(hs:Ov (Expr.Dict [] [] p2) (ZA (N6 x p3)) (QH pos) (Cx.env X)=pure ZD:=by rfl)(hf:autoParam (Cx.fn X x=ZC\/Q0 x (SL (PL (Cx.env X)))=ZA NameKind.local) r_):QS X (Rp [N6 x p3] (Expr.Dict [] [] p2) pos) (tQ i):=
 ⟨Cp (i:=i) (hN:=hN) (hi:=hi) (hx:=hx) (hs:=hs) (hf:=hf)⟩
def BI{f:V5}{pos p2:Pos}(i:Nat)(hu:RA (Cx.A X)+8<cLine)(hc:Cx.calm X=ZC)(hm:Cx.mg X (Nt "dict")=ZB)(hN:NU (Cx.N X))(ha:QE X e f)(hst:bN e=ZC:=by rfl)(hg:Gl X (Nt "dict"):=by rfl)(hi:(Cx.N X)[i]?=ZA x:=by rfl)(hx:autoParam (L2.Loc (PL (Cx.env X)) x) x_)(hs:Ov (Pr (N6 (Nt "dict") p) [e] [] p2) (ZA (N6 x p3)) (QH pos) (Cx.env X)=pure ZD:=by rfl)(hf:autoParam (Cx.fn X x=ZC\/Q0 x (SL (PL (Cx.env X)))=ZA NameKind.local) r_):QS X (Rp [N6 x p3] (Pr (N6 (Nt "dict") p) [e] [] p2) pos) (rR i f):=
 ⟨Fo (i:=i) (hu:=hu) (hc:=hc) (hm:=hm) (hN:=hN) (ha:=ha.h) (hst:=hst) (hg:=hg) (hi:=hi) (hx:=hx) (hs:=hs) (hf:=hf)⟩
def zl{fc:V5}{pos p2:Pos}(i:Nat)(hu:RA (Cx.A X)+1<cLine)(hb:QE X b fb)(hc:QE X c fc)(hN:(Cx.N X)[i]?=ZA x:=by rfl)(hv:autoParam (vo (PL (Cx.env X)) x) u_)(hd:autoParam ((x == Nt "__debug__")=ZD) s_)(hcd:autoParam ((x == Nt "__classdict__")=ZD) s_)(hs:Ov c (ZA (Pv (N6 x p2) b p3)) (QH pos) (Cx.env X)=pure ZD:=by rfl):QS X (Rp [Pv (N6 x p2) b p3] c pos) (qT i fb fc):=
 ⟨Ig (i:=i) (hu:=hu) (hb:=hb.h) (hc:=hc.h) (hN:=hN) (hv:=hv) (hd:=hd) (hcd:=hcd) (hs:=hs)⟩
def oF{fc:V5}{pos p2 p4:Pos}(i:Nat)(hu:RA (Cx.A X)+1<cLine)(ha:QE X a fa)(hb:QE X b fb)(hc:QE X c fc)(hsl:autoParam (vp a) w_)(hN:(Cx.N X)[i]?=ZA x:=by rfl)(hv:autoParam (vo (PL (Cx.env X)) x) u_)(hd:autoParam ((x == Nt "__debug__")=ZD) s_)(hcd:autoParam ((x == Nt "__classdict__")=ZD) s_)(hs:Ov c (ZA (Pv (Pv (N6 x p2) a p3) b p4)) (QH pos) (Cx.env X)=pure ZD:=by rfl):QS X (Rp [Pv (Pv (N6 x p2) a p3) b p4] c pos) (jv i fa fb fc):=
 ⟨Fj (i:=i) (hu:=hu) (ha:=ha.h) (hb:=hb.h) (hc:=hc.h) (hsl:=hsl) (hN:=hN) (hv:=hv) (hd:=hd) (hcd:=hcd) (hs:=hs)⟩
def LcScope.byN{src:List (Option Nat)}(hN:X.N=N)(hk:scope.kind=.function)(h:Jm scope.names N scope.names N' src=ZC)
  (hf:(scope.names.all λy=>y.2 != .free||(X.env.scope.names.lookup y.1 == ZA .cell||X.env.scope.names.lookup y.1 == ZA .free))=ZC):LcScope X scope N' src:=by
 have z:=LcScope.by (X:={X with env:={X.env with scope:=scope}}) hN rfl hk h
 refine⟨hk,z.cel,z.loc,z.len,z.from_,λx hx=>?_⟩
 have:=NN.mp hf _ hx;simp only[bne_self_eq_false,SG,Vz]at this
 show X.env.scope.names.lookup x=_\/X.env.scope.names.lookup x=_
 rcases this with z|z
 ·exact .inl (by simpa using z)
 ·exact .inr (by simpa using z)
def DG(h:ZH):(DH h).In h:=by
 have key:∀(l:List Nat)(a:ZE)(o:Obj),(l.filterMap λa=>(h.get? a).map λo=>(a,o)).lookup a=ZA o->h.get? a=ZA o:=by
  intro l
  induction l with
  |nil=>intro a o e;cases e
  |cons b r ih=>
   intro a o e
   cases hb:h.get? b with
   |none=>rw[List.filterMap_cons_none (by rw[hb];rfl)]at e;exact ih a o e
   |some ob=>
    rw[List.filterMap_cons_some (b:=(b,ob)) (by rw[hb];rfl),Om]at e
    cases q:a == b with
    |true=>rw[q]at e;cases e;rw[eq_of_beq q];exact hb
    |false=>rw[q]at e;exact ih a o e
 exact λa o e=>key _ a o e
variable{K:Frag}{n:Str}
def Hn(e:obF K n=exF n st):∃f fd,nsIn K Ob n=ZA (ZA (.ref f))/\L2.Fun K n n st f fd:=by
 unfold obF at e
 split at e
 ·rename_i f hf
  split at e
  ·rename_i oc od d sl hl
   cases d;unfold exF at e;simp only[Rn,Prod.mk.injEq]at e;obtain⟨h1,h2,h3,h4,h5,h6,h7,h8,h9,h10,h11⟩:=e;subst h1 h2 h3 h4 h5 h6 h7 h8 h9;exact⟨f,_,hf,JI hl h10 h11⟩
  ·cases e
 ·cases e
def pL{N:ZE}(e:K8 K N n=ZC):nsIn K N n=ZA ZB:=by
 unfold K8 at e
 split at e
 ·assumption
 ·cases e
def Jf{i:Int}(e:LW K n=ZA i):∃t,nsIn K Ob n=ZA (ZA (.int i t)):=by
 unfold LW at e
 split at e
 ·rename_i i' t h;cases e;exact⟨t,h⟩
 ·cases e
def oM:∀{l:List Nf},zx l=ZC->l=ze:=by
 intro l e;unfold zx at e
 split at e
 ·simp only[Ni,beq_iff_eq]at e
  obtain⟨⟨⟨h1,h2⟩,h3⟩,h4⟩:=e;subst h1 h2 h3 h4;rfl
 ·cases e
def lE{D:Option ZE}(e:F6 K D n=ZA C):nsIn K Ob n=ZA (ZA (.ref C)) ∧
  ∃nm q N bs bm hd sn su ab co dd k0 k1 k2 k3 k5,BZ D bm=ZC/\K.lookup C=ZA (RZ nm q C N bs bm hd sn su ab co dd k0 k1 k2 k3 k5 "ValueError.__new__")/\∀h:ZH,K.In h->∃mN,h.Ns N mN/\∀n∈calmNames,mN n=ZB:=by
 unfold F6 at e
 split at e
 ·rename_i C' hC
  split at e
  ·rename_i t dd c k0 k1 k2 k3 b k5 hl
   split at e
   ·rename_i E m ob oe es ep oz hm hN
    split at e
    ·rename_i hq
     cases e;simp only[Ni,beq_iff_eq,UV]at hq;obtain⟨⟨⟨⟨⟨⟨h1,h2⟩,h3⟩,h4⟩,h5⟩,h6⟩,h7⟩:=hq
     have z:=NN.mp h5;refine⟨hC,c.name,c.qualname,c.ns,c.bases,m,c.hasDict,c.slotNames,c.subclasses,c.abstract,c.collection,dd,k0,k1,k2,k3,k5,h7,?_,K9 hN h4 (pL (z _ (.head _))) (pL (z _ (.tail _ (.head _)))) (pL (z _ (.tail _ (.tail _ (.head _))))) (pL (z _ (.tail _ (.tail _ (.tail _ (.head _))))))⟩
     rw[hl];cases c;simp only at hm h3;subst h1 h2 hm h3 h6
     rfl
    ·cases e
   ·cases e
  ·cases e
 ·cases e
def ox0(e:F6 K ZB n=ZA C):OX K C ze:=by
 obtain⟨_,_,_,_,_,_,_,_,_,_,_,_,_,_,_,_,_,hu,hl,hn⟩:=lE e;cases oM hu;exact F0 hl hn
variable{m:Str}
def ox1{D:ZE}(e:F6 K (ZA D) n=ZA C)(d:F6 K ZB m=ZA D):OX K C (.ref D::ze):=by
 obtain⟨_,_,_,_,_,bm,_,_,_,_,_,_,_,_,_,_,_,hu,hl,hn⟩:=lE e;obtain⟨_,_,_,_,_,_,_,_,_,_,_,_,_,_,_,_,_,hu',hl',hn'⟩:=lE d;cases oM hu';unfold BZ at hu;simp only at hu
 split at hu
 ·rw[Ni]at hu
  cases eq_of_beq hu.1;cases oM hu.2;exact CN hl hn hl' hn'
 ·cases hu
def nu{o:Option α}{r:List (Option α)}{l:List α}(e:zg (o::r)=ZA l):∃a l',o=ZA a/\l=a::l'/\zg r=ZA l':=by
 cases o with
 |none=>cases e
 |some a=>
  unfold zg at e
  split at e
  ·rename_i l' h;cases e;exact⟨a,l',rfl,rfl,h⟩
  ·cases e
def Ei{l:List α}(e:zg ([]:List (Option α))=ZA l):l=[]:=by cases e;rfl
theorem rY:∀{l:List ZE},uq l=ZC->l.Nodup
 |[],_=>.nil
 |a::r,h=>by
  unfold uq at h;rw[Ni]at h;refine NP.mpr ⟨λhm=>?_,rY h.2⟩
  have:=NN.mp h.1 a hm
  simp at this
def Je{es:List Str}(e:LV K (m::es)=ZC):∃D l,F6 K ZB m=ZA D/\zg (es.map (F6 K (ZA D)))=ZA l/\(l++[D]).Nodup:=by
 rw[LV]at e
 split at e
 ·rename_i D hD
  split at e
  ·rename_i l hl;exact⟨D,l,hD,hl,rY e⟩
  ·cases e
 ·cases e
section
variable {S:Eu}{top:Nat->ZF}
theorem uL{f g:α->β}:∀{l:List α}(j:Nat){a:α},l.map f=l.map g->l[j]?=ZA a->f a=g a
 |[],_,_,_,q=>by cases q
 |b::l,0,a,e,q=>by cases q;exact(Re.inj e).1
 |b::l,j+1,a,e,q=>uL (l:=l) j (Re.inj e).2 q
def cg(j:Nat)(X:K.In h)(G:h.Ns Ob mg)(e:yB S K=xV S top)(q:S.tab[j]?=ZA (n,i))
  (hb:∀(kV doc pm:Nf)(an:Option ZE)(cdv ct:Nf)(us:List Nf),us.length=ps.length->bindArgs (fnOf n n (hW (top i)) (dJ (top i)) (ao (top i)) .none kV doc pm an cdv ct) ⟨us,[]⟩=pure (ps.zip us)):
  ∃f fd,Fn K mg n (top i) ps f fd:=by
 obtain⟨f,fd,h1,h2⟩:=Hn (uL j (congrArg (·.1) e) q)
 exact⟨f,fd,h2,h2.binds hb,mg_of X G h1⟩
def Lj(j:Nat){fa:ZE}(X:K.In h)(G:h.Ns Ob mg)(e:yB S K=xV S top)(q:S.tab[j]?=ZA (n,i))(hfa:mg n=ZA (.ref fa))
  (hb:∀(kV doc pm:Nf)(an:Option ZE)(cdv ct u:Nf),bindArgs (fnOf n n (hW (top i)) (dJ (top i)) (ao (top i)) .none kV doc pm an cdv ct) ⟨[u],[]⟩=pure [(x,u)]):
  ∃fd,Fn K mg n (top i) [x] fa fd/\∀(s:Ng)(u:Nf),UX s fd ⟨[u],[]⟩ [(x,u)]:=by
 obtain⟨f,fd,h1,h2⟩:=Hn (uL j (congrArg (·.1) e) q)
 have z:=hfa.symm.trans (mg_of X G h1);cases z
 have hh:=h2;obtain⟨oc,od,kV,doc,pm,an,cdv,ct,osl,rfl,lk,hcd⟩:=hh.ex;exact⟨_,⟨h2,.all λus hl=>match us,hl with|[u],_=>hb kV doc pm an cdv ct u,mg_of X G h1⟩,λs u=>.of_eq (hb kV doc pm an cdv ct u)⟩
def fP(j:Nat)(X:K.In h)(G:h.Ns Ob mg)(e:yB S K=xV S top)(q:S.zs[j]?=ZA n):mg n=ZB:=
 mg_none_of X G (pL (NN.mp (congrArg (·.2.1) e:S.zs.all (K8 K Ob)=ZC) n (PZ q)))
def sg(j:Nat){i:Int}(X:K.In h)(G:h.Ns Ob mg)(e:yB S K=xV S top)(q:S.cs[j]?=ZA (n,i)):∃t,mg n=ZA (.int i t):=by
 obtain⟨t,ht⟩:=Jf (uL (f:=λc=>LW K c.1) (g:=λc=>ZA c.2) j (congrArg (·.2.2.1) e) q)
 exact⟨t,mg_of X G ht⟩
def Lm(e:yB S K=xV S top):LV K S.es=ZC:=congrArg (·.2.2.2) e
end
variable{loose:List Str}
def left_of{p:NH}{Xt:Ng->Bool}{Yf:Ng->α}{Ya:Ou->α}{N:Nat}{g0:Bool}
  (e:opening p=plainProg p.main.scope.names) (hN:Nat.ble 600 N=ZC) (f:∀s,fenceModules? p s=ZA s)
  (h:∀(w:Ou)(os:OsState),(topFrom treeTable p w N ⟨boot_heap w.params,⟨[]⟩,boot_drawn,boot_toks,os⟩).map (λs=>(openSeen q loose (VI p.main.body) Xt g0 s,Yf s))=ZA (openGood q loose,Ya w)):
  LeftO p q loose Xt Yf Ya N g0:=λw=>by
 obtain⟨⟨h0,gs,d,k,os⟩,e1,e2⟩:=OG.mp (boot_open e hN f w);simp only[Prod.mk.injEq]at e2;obtain⟨rfl,rfl,rfl,rfl⟩:=e2;unfold openEnds;rw[e1];exact h w os
structure Cl (P:NH)(w:Ou)(K:Frag)(mg:V0)(base:ZH)(k:Nat)(x:Str)(n:Nat)(m:List T->Rs T):Prop where
 ex:∃f fd ps,mg x=ZA (.ref f)/\keepIn K (.ref f)=ZC/\Binds K fd ps []/\ps.length=n/\J3 P w K mg base k f fd ps n m
abbrev gc(K:Frag)(mg:V0)(x:Str)(st:ZF)(ps:List Str):Prop:=∃f fd,Fn K mg x st ps f fd
variable{n:Nat}
section
variable {base:ZH}{k:Nat}{F:V4}
def a9(H:gc K mg x st ps)(S:aE N ps (ao st))(hn:ps.length=n)
  (hbody:∀(f:ZE)(cdv:Nf)(A:N4)(outer:List Env)(s:Ng)(H:Hp)(E:XK),Room k (A.deeper (envOfC x (ao st) s.heap.objs.size f cdv)) →
   ∀xe,Bz ((ni CX0 P w K mg base N x (ao st) f cdv A outer s H E).FS xe) (dJ st) F):Cl P w K mg base (k+1) x n (val n N.length F):=by
 obtain⟨f,fd,h⟩:=H;exact⟨f,fd,ps,h.mg,h.fn.kp,h.bd,hn,zv h.fn S hn (hbody f)⟩
end
section
variable {fs:V3}{pos:Pos}{k k':Nat}{g:List T->Rs T}
def aL(c:Cl X.prog X.w X.K X.mg X.base k x n g)(hr:Room k' X.A)(ha:QA X (e::es) fs)(hk:autoParam (k<=k') s_)(hl:∀(Z:En)(ts:List T),fs Z=.ok ts->ts.length=n:=by repeat first|exact LB|refine LA ?_)
  (hn:bM (e::es)=ZC:=by rfl) (hg:Gl X x:=by rfl) (h2:autoParam ((x == Nt "__debug__")=ZD) s_):QE X (.Call (.Name x p) (e::es) [] pos) (cl g fs):=by
 obtain⟨f,fd,ps,h1,h3,h4,h5,h6⟩:=c.ex;exact zq_c h6 (hr.mono hk) h1 h3 h4 hl ha h5 hn hg h2
def vB{i:Int}(h:∃t,X.mg x=ZA (.int i t))(hg:Gl X x:=by rfl)(hd:autoParam ((x == Nt "__debug__")=ZD) s_):QE X (.Name x pos) (cn (.int i)):=by
 obtain⟨t,h⟩:=h;exact EG h ⟨_,rfl⟩ hg hd
end
noncomputable def hookC(S:xR)(top:Nat->ZF):Hook:=
 ⟨_,λs=>CV S (DH s.heap),λ_=>BX S top,λ_ h=>∃K:Frag,K.In h/\CV S K=BX S top,λ_ s e=>⟨_,DG s.heap,e⟩,λ_ _ _ ⟨K,a,b⟩ k=>⟨K,a.keeps k,b⟩⟩
def walk_c{l:OpenLaw}{k:Nat}{XP:(V0)->ZH->Prop}{d:DefRec}{S:xR}{top:Nat->ZF}{CX:EB}{sp:Frag->Sp}
  (hn:l.most=ZA n) (hn2:n<=ZI) (hdf:d.params.defaults=[]) (hr:Room k callerA)
  (F:∀(w:Ou)(K:Frag)(mg:V0)(fa:ZE)(h:ZH),K.In h->CV S K=BX S top->h.Ns Ob mg->mg d.name=ZA (.ref fa) →
   ∃fd:Pn,(∀(s:Ng)(u:Nf),UX s fd ⟨[u],[]⟩ [(x,u)])/\∀base:ZH,K.In base->base.Ns Ob mg->vq l.prog w K mg base CX k fa fd [x] (sp K))
  (hsp:∀(K:Frag)(H:Hp)(a:ZE)(ns:List Int),ns.length<=n->J2 H->SqL K H a (ns.map V.int)->sp K [.ref a] H (λv _=>v=.bl ZC) λ_ _ _=>False)
  (hCX:∀(H:Hp)(s:Ng)(e:Nf)(s':Ng),CX [] H s (λ_ _ _=>False) e s'->False):
  WalkO q loose XP (hookC S top).says l.row.toRowW d [] (λf vs=>PySem.call f vs):=by
 refine Att.attach_call hn hdf λw s₀ s₁ mg mb fa o pm cd doc a vs ns G Y ho hd hcd hmg hobj hints hlen hg=>?_
 obtain⟨K,KX,e⟩:=Y;obtain⟨fd,hb,hF⟩:=F w K mg fa _ KX e G.T.g hmg;exact Dj KX G.T.g G.T.b G.T.builtins G.T.nolimit hg hobj hints (NV hlen hn2) hr hF hb (λH hO hS=>hsp K H a ns hlen hO hS) λH e s'=>hCX H s₁ e s'
def AD(ps:List (Str×Str)):List (Key×V):=ps.map λp=>(.inr p.1,.str p.2)
def LZ(ps:List (Str×Str)):List (TE×TE):=ps.map λp=>(tC (.str p.1),tC (.str p.2))
theorem xN:∀{ps:List (Str×Str)}{Q:List (V×V)->Hp->Prop},Q ((AD ps).map λkv=>(kV kv.1,kv.2)) H->oO (LZ ps) σ H Q
 |[],_,h=>h
 |p::r,Q,h=>by
  show oO (LZ r) σ H λqs H3=>Q ((V.str p.1,V.str p.2)::qs) H3
  exact xN h
def Ab(i:Nat)(ps:List (Str×Str))(σ:L2.St)(H:Hp):Prop:=∃p,σ[i]?=ZA (ZA (.ref p))/\H p=ZA (.dK (gh [] (AD ps)))
def AbV(ps:List (Str×Str)):Prop:=∀x y,ps.lookup x=ZA y->gu (gh [] (AD ps)) (.inr x)=ZA (.str y)
variable{Z:En}
def Hq{x:Sl}(e:(Z.set i .em)[j]?=ZA x)(hx:x≠ .em):i≠j/\Z[j]?=ZA x:=by
 rw[List.getElem?_set]at e
 split at e
 ·split at e
  ·cases e;exact absurd rfl hx
  ·cases e
 ·rename_i h;exact⟨h,e⟩
variable{K:M9}
def Ev.em{B:Ow}{M:Mn}{v:V}(E:Ev K B M H Z σ):Ev K B M H (Z.set i .em) (σ.set i (ZA v)):=
 ⟨⟨by rw[Os,Os];exact E.env.len,λj u e=>by
  obtain⟨h,e⟩:=Hq e (by intro z;cases z)
  rw[NI h];exact E.env.val j u e,λj u e=>by
  obtain⟨h,e⟩:=Hq e (by intro z;cases z)
  rw[NI h];exact E.env.own j u e,E.env.sub,E.env.dis,E.env.trk⟩,E.mine⟩
variable{D:qJ}{keys:List (Option ZG)}{ps:List (Str×Str)}{values:List ZG}
section
variable {p2 p4 dpos:Pos}
def B9{F:V4}(h:Ew X (ax F G) D σ H):HH (Ew X F) (Ew X G) D σ H:=by
 obtain⟨Z,B,M,E,h⟩:=h;refine⟨Z,B,M,E,?_⟩
 unfold ax at h
 cases q:F Z with
 |bad=>rw[q]at h;exact h.elim
 |err c=>rw[q]at h;exact h
 |ok f=>
  rw[q,aF]at h
  cases f with
  |nx Z'=>exact λσ' H' M' s' E' o'=>⟨Z',B,M',E',h.later s' o'⟩
  |rt t=>exact h
  |bk Z'=>exact h
  |ct Z'=>exact h
def Gp{F:V4}(h:Ew X (ee f F G) D σ H):Kf (zy X f) (Ew X F) (Ew X G) D σ H:=by
 obtain⟨Z,B,M,E,h⟩:=h;refine⟨Z,OO B M,E.o,?_⟩
 unfold ee at h
 cases q:f Z with
 |bad=>rw[q]at h;exact h.elim
 |err c=>rw[q]at h;exact PostF.xa h
 |ok k=>
  rw[q,aF]at h;intro H' s
  have E':Ev X.K B M H' Z σ:=E.same s
  cases k with
  |true=>refine L2.iteT ?_;exact⟨Z,B,M,E',PostF.later (by simpa using h) (SameO.of s) λa z=>.inl z⟩
  |false=>refine L2.iteF ?_;exact⟨Z,B,M,E',PostF.later (by simpa using h) (SameO.of s) λa z=>.inl z⟩
def Cw(hu:X.A.units+1<cLine)(hv:AbV ps)(ho:OpT X (Og .NotEq) jy)(he:cJ X e fe)(hb:cJ X b fb)(hN:X.N[i]?=ZA y)(hy:vo X.env.scope y)(hd:(y == ("__debug__" : Str))=ZD)(hcd:(y == ("__classdict__" : Str))=ZD)
  (hs:vp e) (hm:QL .NotEq b=ZD):PT X (.Compare (.Subscript (.Name y p1) e p2) [.NotEq] [b] p3) (λσ H Q=>Ab i ps σ H/\zy X (tb (o2 jy (o1 (xO ps) fe) fb)) σ H Q):=by
 intro bv s σ H Q I ⟨A,Z,O,E,hq⟩
 have hq':Post X H (o2 jy (o1 (xO ps) fe) fb Z) λt H'=>∀v,Rep X.K O H' t v->∃k,v=.bl k/\Q k H':=Post.mono hq.bind λt H' s' q v r=>by
  split at q
  ·exact⟨_,Rep.FB.mp r,q H' (Same.refl H')⟩
  ·exact q.elim
 have h0:Post X H (fe Z >>= λx=>xO ps x >>= λx'=>fb Z >>= λy'=>jy x' y') λt H'=>∀v,Rep X.K O H' t v->∃k,v=.bl k/\Q k H':=by
  have e0:o2 jy (o1 (xO ps) fe) fb Z=(fe Z >>= λx=>xO ps x >>= λx'=>fb Z >>= λy'=>jy x' y'):=by
   unfold o2 o1;cases fe Z <;> rfl
  rw[<-e0];exact hq'
 obtain⟨p,ep,hp⟩:=A;refine Tx (cz (t9 (Q:=λv H2=>∃x z,v=.str z/\Same H H2/\xO ps x=.ok (.str z)/\EnvO X.K O H2 Z σ/\Post X H2 (fb Z >>= λy'=>jy (.str z) y') λt H'=>∀v,Rep X.K O H' t v->∃k,v=.bl k/\Q k H') hu (jO hN hy hd hcd) he hs bv s σ H I ⟨.ref p,ep,?_⟩) λv s1 ⟨x,H1,I1,r1,xx,z,ez,s',_,E',q1⟩=>?_) hm
 ·obtain⟨Z1,O1,E1,h1⟩:=bf E h0
  refine⟨Z1,O1,E1,Post.mono h1 λt H1 s1 q v r=>?_⟩
  obtain⟨t',r',s',E',q'⟩:=q v r
  have A':H1 p=ZA (.dK (gh [] (AD ps))):=s' _ _ hp
  cases hx:xO ps t' with
  |bad=>rw[hx]at q';exact q'.elim
  |err c=>rw[hx]at q';unfold xO at hx;split at hx;(split at hx <;> cases hx);cases hx
  |ok w=>
   rw[hx,aF]at q'
   have hx':=hx;unfold xO at hx
   split at hx
   ·rename_i k
    split at hx
    ·rename_i z hz
     cases hx;obtain rfl:=Rep.GM.mp r';refine⟨p,.str z,rfl,?_,_,z,rfl,s',hx',E',q'⟩
     have:=DGet.k (k:=Se k) A';rw[hv _ _ hz]at this;exact this
    ·cases hx
   ·cases hx
 ·subst ez
  have h2:=bf (f:=fb) E' q1;refine cz (hb bv s1 σ H1 _ I1 h2) λu s2 hh_=>?_
  obtain⟨y,H2,I2,r2,t2,rt2,s'',E'',q2⟩:=hh_;refine cz (ho bv s2 σ H2 O (.str z) t2 _ y v u _ I2 (λp=>E''.fresh) (Rep.Mu z) rt2 r1 r2 q2) λd s3 hh_=>?_
  obtain⟨z,H3,I3,r3,k,e,q3⟩:=hh_;subst e;cases r3;exact OL ⟨H3,I3,q3⟩
def Cq(i:Nat){A rest:List ZF}{F:V4}(hu:X.A.units+1<cLine)(hv:AbV ps)(ho:OpT X (Og .NotEq) jy)(hk:J8 X dpos keys values (LZ ps))(hN':X.N.Nodup)
  (he:cJ X e fe) (hb:cJ X b fb) (ha:lN X A F) (hr:lN X rest G) (hl':ps.length<=15) (hN:X.N[i]?=ZA y) (hy:vo X.env.scope y) (hL:Loc X.env.scope y) (hd:(y == ("__debug__" : Str))=ZD) (hcd:(y == ("__classdict__" : Str))=ZD)
  (hs:vp e) (hm:QL .NotEq b=ZD) (hall:keys.all (·.isSome)=ZC) (hl:keys.length=values.length) (h0:keys≠ []) (h15:keys.length<=15)
  (hsw:Ov (.Dict keys values dpos) (ZA (.Name y py)) spos.line X.env=pure ZD) (hf:X.fn y=ZC\/X.env.scope.names.lookup y=ZA .local):
  lN X (.Assign [.Name y py] (.Dict keys values dpos) spos:: .If (.Compare (.Subscript (.Name y p1) e p2) [.NotEq] [b] p3) A [] p4::rest) (ax (LS i) (ax (ee (tb (o2 jy (o1 (xO ps) fe) fb)) F sN) G)):=by
 have h2:=Hf (pos:=p4) (Cw (p1:=p1) (p2:=p2) (p3:=p3) hu hv ho he hb hN hy hd hcd hs hm) ha Cn;refine PSs.imp (pf (ph hN' hN hL (FY hk hall hl h0 h15) hsw hf) (pf h2 hr)) λD σ H ⟨Z,B,M,E,h⟩=>?_
 intro p hp;refine xN ⟨aI,AD ps,rfl,by unfold AD;rw[Nc];exact hl',?_⟩
 rw[iX]
 show HH _ _ D (σ.set i (ZA (.ref p))) _
 have sm:Same H (upd H p (.dK (gh [] (AD ps)))):=λc o ec=>by
  rw[aG];exact ec;intro z;subst z;rw[hp]at ec;cases ec
 unfold ax LS at h
 by_cases hi:i<Z.length
 ·rw[if_pos hi,aF]at h
  have E':Ev X.K B M (upd H p (.dK (gh [] (AD ps)))) (Z.set i .em) (σ.set i (ZA (.ref p))):=(E.same sm).em
  have h':=PostF.later h (SameO.of sm) (P1:=M.u) λa z=>.inl z
  have h3:=Gp (B9 ⟨_,B,M,E',h'⟩);exact⟨⟨p,NG (by rw[<-E.env.len];exact hi),aI⟩,h3⟩
 ·rw[if_neg hi]at h
  exact h.elim
theorem Ej:∀{ps:List (Str×Str)},gu (AD ps) (.inr x)=(ps.lookup x).map V.str
 |[] =>rfl
 |p::r=>by
  show gu ((Se p.1,V.str p.2)::AD r) _=_
  by_cases h:p.1=x
  ·rw[fV (by rw[h]),Om,h,beq_self_eq_true];rfl
  ·rw[fW (λz=>h (Se.inj z)),Om,Ej,beq_eq_false_iff_ne.mpr (QZ h)]
def J0(h:gh [] (AD ps)=AD ps):AbV ps:=λx y e=>by rw[h,Ej,e];rfl
def AK(i:Nat)(ps:List (Str×Str)){A rest:List ZF}{F:V4}{k:Nat}(hr:Room k X.A)(hN':X.N.Nodup)(hk:J8 X dpos keys values (LZ ps))
  (he:QE X e fe) (hb:QE X b fb) (ha:Bz X A F) (hc:Bz X rest G) (hv:gh [] (AD ps)=AD ps:=by rfl) (hl':autoParam (ps.length<=15) s_) (hN:X.N[i]?=ZA y:=by rfl) (hy:autoParam (vo X.env.scope y) u_) (hL:autoParam (Loc X.env.scope y) x_) (hd:autoParam ((y == ("__debug__" : Str))=ZD) s_) (hcd:autoParam ((y == ("__classdict__" : Str))=ZD) s_)
  (hs:autoParam (vp e) w_) (hm:QL .NotEq b=ZD:=by rfl) (hall:keys.all (·.isSome)=ZC:=by rfl) (hl:keys.length=values.length:=by rfl) (h0:autoParam (keys≠ []) y_) (h15:autoParam (keys.length<=15) s_)
  (hsw:Ov (.Dict keys values dpos) (ZA (.Name y py)) spos.line X.env=pure ZD:=by rfl) (hf:autoParam (X.fn y=ZC\/X.env.scope.names.lookup y=ZA .local) r_):
  Bz X (.Assign [.Name y py] (.Dict keys values dpos) spos:: .If (.Compare (.Subscript (.Name y p1) e p2) [.NotEq] [b] p3) A [] p4::rest) (ax (LS i) (ax (ee (tb (o2 jy (o1 (xO ps) fe) fb)) F sN) G)):=
 ⟨Cq i (by have:=hr.un;omega) (J0 hv) (jQ (jB hr)) hk hN' he.h hb.h ha.h hc.h hl' hN hy hL hd hcd hs hm hall hl h0 h15 hsw hf⟩
end
theorem PairsAt.snoc{b kb:ZE}{p:List Key×V}(h1:H b=ZA (.tup [.ref kb,p.2]))(h2:H kb=ZA (.tup (p.1.map kV))):∀{xs:List V}{ps:List (List Key×V)},PairsAt H xs ps->PairsAt H (xs++[.ref b]) (ps++[p])
 |[],_,h=>by
  unfold PairsAt at h;subst h
  exact⟨b,kb,p,[],rfl,rfl,h1,h2,rfl⟩
 |x::xs,_,⟨b',kb',p',r,e1,e2,e3,e4,e5⟩=>by
  subst e1;exact⟨b',kb',p',r++[p],rfl,e2,e3,e4,e5.snoc h1 h2⟩
theorem PairsAt.move{H':Hp}{D:ZE}{zs:List V}(hD:H D=ZA (.lst zs))(s:SameO (λa=>a=D) H H'):∀{xs:List V}{ps:List (List Key×V)},PairsAt H xs ps->PairsAt H' xs ps
 |[],_,h=>h
 |x::xs,_,⟨b,kb,p,r,e1,e2,e3,e4,e5⟩=>⟨b,kb,p,r,e1,e2,s _ _ e3 (jV e3 hD (λz=>nomatch z)),s _ _ e4 (jV e4 hD (λz=>nomatch z)),e5.move hD s⟩
theorem PairsAt.len:∀{xs:List V}{ps:List (List Key×V)},PairsAt H xs ps->xs.length=ps.length
 |[],_,h=>by unfold PairsAt at h;subst h;rfl
 |x::xs,_,⟨b,kb,p,r,e1,e2,e3,e4,e5⟩=>by subst e1;rw[Nj,Nj,e5.len]
variable{Q:VK}{kk:List (List Key)}{l:List T}
def xg{src:List (Option Nat)}{wi:TI}{te:TE}(E:EnvO X.K O H Z σ)(hwi:∀R,(∀H1,Same H H1->∀J,LH X.K O H1 l J->R J H1)->wi σ H R)(hz:l.length<=1000)(hk:l.map keyOf=kk.map ZA)(hs:0<src.length)
  (Acc:Hp->ZE->List V->Prop) (a0:∀H1 D,Same H H1->Nw X.K H1 D->Acc (upd H1 D (.lst [])) D [])
  (am:∀H1 H2 D vs ys,Acc H1 D vs->H1 D=ZA (.lst ys)->SameO (λa=>a=D) H1 H2->Acc H2 D vs)
  (hte:∀t∈l,∀σ' H' O' D vs ys (Q':VK),EnvM X.K O' noM H' ((bR src Z).set 0 (.va t)) σ'->Acc H' D vs->H' D=ZA (.lst ys)->(∀v H'',Same H' H''->Acc H'' D (vs++[v])->Q' v H'')->te σ' H' Q')
  (hq:∀H1 D ys ps H',Same H H1->Nw X.K H1 D->Same H1 H'->H' D=ZA (.lst ys)->PairsAt H' ys ps->ps.map (·.1)=kk->Acc H' D (ps.map (·.2))->Q (.ref D) H'):
  HI X.K wi src (AQ X (gN 0)) vL (EU (lR (vK 0) (lR te B2))) σ H Q:=by
 refine hwi _ λH1 s1 J hJ D hD hK=>?_
 have nD:Nw X.K H1 D:=⟨hD,hK⟩
 have E1:=E.same s1
 have lk:l.length=kk.length:=by have:=congrArg OE hk;rwa [Nc,Nc]at this
 have hlen:0<(bR src Z).length:=by unfold bR;rw[Nc];exact hs
 let O':Ow:=λa=>O a\/a=D
 have subO:∀a,O' a->O a\/Nw X.K H1 a:=λa z=>z.elim .inl λw=>.inr (w▸nD)
 refine⟨λi m σ' ys H'=>m=l.length - i/\i<=l.length/\ys.length=i/\H' D=ZA (.lst ys)/\SameO (λa=>a=D) (upd H1 D (.lst [])) H' ∧
  ∃s0 ps,EnvM X.K O' noM H' ((bR src Z).set 0 s0) σ'/\PairsAt H' ys ps/\ps.map (·.1)=kk.take i/\Acc H' D (ps.map (·.2)),⟨l.length,?_⟩,?_⟩
 ·have sN:Same H1 (upd H1 D (.lst [])):=aV hD _
  refine⟨by omega,OF _,rfl,aI,λb o e _=>e,(bR src Z)[0],[],?_,rfl,rfl,a0 H1 D s1 nD⟩
  rw[Tb]
  exact(xh E1 src).move (P:=λa=>a=D) (λa z=>.inr (z▸nD)) subO (λb o e _=>sN b o e) λa z=>by
   rcases z with z|z
   ·exact(E1.mtb a z).same sN
   ·rw[z];exact .inl ⟨_,aI⟩
 ·rintro i m σ' ys H' ⟨rfl,hi',hyl,hDl,hsm,s0,ps,E',hp,hkk,hacc⟩
  refine⟨hDl,?_⟩
  have sm1:SameO (λa=>a=D) H1 H':=λb o e nb=>hsm b o (by rw[aG nb];exact e) nb
  have it:=hJ (λa=>a=D) O' (λa z=>.inr (z▸nD)) subO i H' sm1 (λa z=>(E'.trk a z).some)
  by_cases hlt:i<l.length
  ·refine .inr ?_
   obtain⟨go,yl⟩:=it.2 l[i] (by simp)
   refine⟨go,by rw[hyl,ON];omega,λxx Hc y=>?_⟩
   obtain⟨sc,rx⟩:=yl xx Hc y
   have Ec:=E'.same sc
   have eg:gN 0 l[i] ((bR src Z).set 0 s0)=.ok ((bR src Z).set 0 (.va l[i])):=by unfold gN;rw[if_pos (by rw[Os];exact hlen),U9]
   refine⟨(bR src Z).set 0 s0,O',noM,l[i],Ec,rx,?_⟩
   rw[eg];intro σ1 Eg;unfold vL
   dsimp only
   rw[if_pos rfl];obtain⟨kv,ekv,rkv⟩:=Eg.val 0 l[i] (by rw[NG hlen])
   refine⟨kv,ekv,?_⟩
   have aC:Acc Hc D (ps.map (·.2)):=am H' Hc D _ ys hacc hDl λb o e _=>sc b o e
   have DC:Hc D=ZA (.lst ys):=sc _ _ hDl;refine hte l[i] (Oi hlt) σ1 Hc O' D _ ys _ Eg aC DC λv H4 s4 acc4=>⟨by show 2<=ZI;rw[ON];omega,λp hpn=>?_⟩
   have D4:H4 D=ZA (.lst ys):=s4 _ _ DC
   have pD:p≠D:=λz=>by rw[z,D4]at hpn;cases hpn
   have E4:=Eg.same s4
   have ki:kk[i]'(by omega)=kk[i]'(by omega):=rfl
   have hki:keyOf l[i]=ZA (kk[i]'(by omega)):=by
    have:=congrArg (λz=>z[i]?) hk
    simp only[NC,Nk hlt,Nk (show i<kk.length by omega),Tf]at this
    exact NZ this
   obtain⟨kb,rfl,hkb⟩:=gz hki (rkv.same s4)
   have s46:SameO (λa=>a=D) H4 (upd (upd H4 p (.tup [.ref kb,v])) D (.lst (ys++[.ref p]))):=λb o e nb=>by
    rw[aG nb,aG (λz=>by rw[z,hpn]at e;cases e)];exact e
   refine⟨by rw[aG (QZ pD)];exact D4,l.length - (i+1),by omega,rfl,hlt,?_,aI,λb o e nb=>s46 b o (s4 _ _ (sc _ _ (hsm b o e nb))) nb,.va l[i],ps++[(kk[i]'(by omega),v)],?_,?_,?_,?_⟩
   ·rw[Nm,hyl];rfl
   ·exact E4.move (λa z=>.inl (.inr z)) (λa z=>.inl z) s46 λaa z=>by
     by_cases hz:aa=D
     ·rw[hz];exact .inl ⟨_,aI⟩
     ·exact(E4.trk aa z).at λo e=>s46 _ _ e hz
   ·refine((hp.same (sc.trans s4)).move D4 s46).snoc (kb:=kb) (p:=(kk[i]'(by omega),v)) ?_ ?_
    ·rw[aG pD,aI]
    ·exact s46 _ _ hkb (jV hkb D4 (λz=>nomatch z))
   ·rw[NR,hkk]
    show kk.take i++[kk[i]'(by omega)]=kk.take (i+1)
    rw[List.take_append_getElem]
   ·rw[NR]
    exact am H4 _ D _ ys acc4 D4 s46
  ·refine .inl ⟨it.1 (by omega),?_⟩
   have sF:Same H1 H':=λb o e=>sm1 b o e λz=>by rw[z,hD]at e;cases e
   exact hq H1 D ys ps H' s1 nD sF hDl hp (by rw[hkk,S2 (by omega)]) hacc
def tD(K:M9)(t:TE):TE:=λσ H Q=>t σ H λv H'=>∃a xs ps,v=.ref a/\H' a=ZA (.lst xs)/\xs.length<=1000/\PairsAt H' xs ps/\∀q,Nw K H' q->Q (.ref q) (upd H' q (.dT (et [] ps)))
def wy{t:TE}{pos:Pos}(hu:X.A.units+8<cLine)(hc:X.calm=ZC)(hm:X.mg "dict" =ZB)(ha:PE X e t)(hg:Gl X "dict")(hs:bN e=ZC):PE X (.Call (.Name "dict" p) [e] [] pos) (tD X.K t):=by
 have h1:NF [e] X.env=(ZD,eval e X.env)::NF [] X.env:=bh hs;intro bv s σ H Q I hq;refine Oy (fO I hg hm (show N5 "dict" =ZA (.type "dict")by decide+kernel) ?_ (by decide) (by decide))
 refine N1 (cz (ft (te:=t) ha jP h1 pos bv s σ H (λzs H'=>match zs with|[v] =>∃a xs ps,v=.ref a/\H' a=ZA (.lst xs)/\xs.length<=1000/\PairsAt H' xs ps/\∀q,Nw X.K H' q->Q (.ref q) (upd H' q (.dT (et [] ps)))|_=>False) I ?_) λus s1 hh=>?_) h1 rfl
 ·exact hq
 ·obtain⟨vs,H1,I1,r1,hv⟩:=hh
  match vs,hv,r1 with
  |[v],hv,r1=>
  obtain⟨a,xs,ps,ev,e1,e2,e3,e4⟩:=hv;subst ev;obtain⟨u,rfl,ru⟩:=r1.one;obtain rfl:u=Nx a:=ru;exact xI (I1.ok.hd hc) hu I1 e1 e2 e3 λq s' nw I'=>⟨.ref q,_,I',rfl,e4 q nw⟩
theorem mT:∀(ps kvs:List (List Key×V)),((kvs++ps).map (·.1)).Nodup->et kvs ps=kvs++ps
 |[],kvs,_=>by rw[et,Oj]
 |p::ps,kvs,h=>by
  have e:cF kvs p.1 p.2=kvs++[p]:=by
   unfold cF;rw[if_neg];intro z;obtain⟨q,hq,e⟩:=QV.mp z
   have e:=of_decide_eq_true e;rw[NR,Ot]at h;exact h.2.2 q.1 (NA.mpr ⟨q,hq,rfl⟩) p.1 (by simp) e
  rw[et,e,mT ps (kvs++[p]) (by rw[ND];exact h),ND]
  rfl
def gM(kk:List (List Key)):List (List Key×V):=kk.map λk=>(k,V.non)
def HS:∀{ps:List (List Key×V)},ps.map (·.1)=kk->(∀v∈ps.map (·.2),v=V.non)->ps=gM kk:=by
 intro ps h1 h2;subst h1;unfold gM;rw[N3]
 conv=>lhs;rw[<-VA ps]
 exact NQ λp hp=>Prod.ext rfl (h2 p.2 (NA.mpr ⟨p,hp,rfl⟩))
def tPI0(K:M9)(f:V3):TI:=λσ H R=>∃Z O,EnvO K O H Z σ/\match f Z with
 |.ok ts=>∀H',Same H H'->∀J,LH K O H' ts J->R J H'
 |_=>False
def tPI0.up{f:V3}{R:It->Hp->Prop}(h:tPI0 X.K f σ H R):LQ X f σ H R:=by
 obtain⟨Z,O,E,h⟩:=h;refine⟨Z,O,E,?_⟩
 cases q:f Z with
 |ok t=>rw[q]at h;exact h
 |err c=>rw[q]at h;exact h.elim
 |bad=>rw[q]at h;exact h.elim
def x5(X:Cx)(src:List (Option Nat)):TE:=tD X.K (HI X.K (tPI0 X.K (iS (vr 1))) src (AQ X (gN 0)) vL (EU (lR (vK 0) (lR (tC .non) B2))))
def IL{eb tb ib:ZG}{q1 pc lp pos:Pos}{jj:Nat}{src:List (Option Nat)}{x1}(hu:X.A.units+8<cLine)(hc:X.calm=ZC)(hm:X.mg "dict" =ZB)(hg:Gl X "dict")(S:LcScope X sc N' src)(hi:BH X tb ib (iS (vr 1)))
  (blk:∀cl C s₀ H₀ fp,Eo (bL X sc cl N' C s₀ H₀ fp) tb (gN 0)/\PE (bL X sc cl N' C s₀ H₀ fp) eb (vK 0)/\bN eb=ZC) (hs:∀x,N7 ib X.env x=pure x):
  PE X (.Call (.Name "dict" p) [.ListComp (.Tuple [eb,.Constant .none jj pc] x1 q1) [⟨tb,ib,[],0⟩] sc lp] [] pos) (x5 X src):=
 PE.imp (wy hu hc hm (wu hc S hi (λcl C s₀ H₀ fp=>⟨(blk cl C s₀ H₀ fp).1,tZ,yu (ft (blk cl C s₀ H₀ fp).2.1 (ft CH jP (bh rfl)) (bh (blk cl C s₀ H₀ fp).2.2))⟩) hs) hg rfl) λσ H Q h=>tPI0.up h
def Cf{src:List (Option Nat)}(E:EnvO X.K O H Z σ)(hf:iS (vr 1) Z=.ok l)(hz:l.length<=1000)(hk:l.map keyOf=kk.map ZA)(hn:kk.Nodup)(hs:0<src.length)
  (hq:∀d H',Same H H'->Nw X.K H d->H' d=ZA (.dT (gM kk))->Q (.ref d) H'):x5 X src σ H Q:=by
 have lk:l.length=kk.length:=by have:=congrArg OE hk;rwa [Nc,Nc]at this
 unfold x5 tD;refine xg (X:=X) (te:=tC .non) E (λR h=>⟨Z,O,E,by rw[hf];exact h⟩) hz hk hs (λ_ _ vs=>∀v∈vs,v=V.non) (λ_ _ _ _ v h=>nomatch h) (λ_ _ _ _ _ h _ _=>h) (λt ht σ' H' O' D vs ys Q' _ acc _ k=>k _ H' (Same.refl H') λv hv=>?_) λH1 D ys ps H' s1 nD s2 hD hp h1 h2=>?_
 ·rcases NO.mp hv with z|z
  ·exact acc v z
  ·exact Ny.mp z
 ·have e:ps=gM kk:=HS h1 h2
  refine⟨D,ys,ps,rfl,hD,by rw[hp.len,e];unfold gM;rw[Nc];omega,hp,λq nq=>?_⟩
  have e2:et [] ps=gM kk:=by rw[mT ps [] (by rw[OC,h1];exact hn),OC,e]
  rw[e2];exact hq q _ ((s1.trans s2).trans (aV nq.1 _)) (mf (s1.trans s2) nq) aI
theorem wj:∀(l:List T)(kk:List (List Key)),l.length=kk.length->Reps K O H (l.map λ_=>T.non) ((gM kk).map (·.2))
 |[],[],_=>Reps.nil_
 |_::l,_::kk,h=>Reps.FM Rep.Mv (wj l kk (by simpa using h))
 |[],_::_,h=>by simp at h
 |_::_,[],h=>by simp at h
theorem v8(hk:l.map keyOf=kk.map ZA):∀{m:List T}{ds:List ZE},m.length=ds.length->(∀d∈ds,H d=ZA (.dT (gM kk)))->RowsR K O H (m.map λ_=>(l,l.map λ_=>T.non)) ds
 |[],[],_,_=>rfl
 |_::m,d::ds,h,hd=>⟨d,ds,gM kk,rfl,hd d Nb,by unfold gM;rw[N3];exact hk,wj l kk (by have:=congrArg OE hk;rwa [Nc,Nc]at this),v8 hk (by simpa using h) λe he=>hd e (Na _ he)⟩
 |[],_::_,h,_=>by simp at h
 |_::_,[],h,_=>by simp at h
theorem Ad:∀{l:List T},iO l=ZC->∃kk:List (List Key),l.map keyOf=kk.map ZA
 |[],_=>⟨[],rfl⟩
 |t::l,h=>by
  unfold iO at h;rw[Ni]at h;obtain⟨kk,e⟩:=Ad h.2;obtain⟨k,ek⟩:=P4.mp h.1;exact⟨k::kk,by rw[Nd,Nd,ek,e]⟩
def Co(i j:Nat){ea r ta ia:ZG}{q1 lp p2 pos:Pos}{x1}{src:List (Option Nat)}(hu:X.A.units+8<cLine)(hc:X.calm=ZC)(hm:X.mg "dict" =ZB)(hN:X.N.Nodup)
  (S:LcScope X sc N' [ZB,ZA j]) (hi:BH X ta ia (iS (vr j))) (hsr:0<src.length)
  (blk:∀cl C s₀ H₀ fp,Eo (bL X sc cl N' C s₀ H₀ fp) ta (gN 0)/\PE (bL X sc cl N' C s₀ H₀ fp) ea (vK 0)/\PE (bL X sc cl N' C s₀ H₀ fp) r (x5 X src)) (h1:bN ea=ZC:=by rfl) (h2:bN r=ZC:=by rfl)
  (hs:autoParam (∀x,N7 ia X.env x=pure x) t_) (hg:Gl X "dict":=by rfl) (hix:X.N[i]?=ZA x:=by rfl) (hx:autoParam (Loc X.env.scope x) x_)
  (hsw:Ov (.Call (.Name "dict" p) [.ListComp (.Tuple [ea,r] x1 q1) [⟨ta,ia,[],0⟩] sc lp] [] p2) (ZA (.Name x p3)) pos.line X.env=pure ZD:=by rfl)
  (hf:autoParam (X.fn x=ZC\/X.env.scope.names.lookup x=ZA .local) r_):
  qG X (.Assign [.Name x p3] (.Call (.Name "dict" p) [.ListComp (.Tuple [ea,r] x1 q1) [⟨ta,ia,[],0⟩] sc lp] [] p2) pos) (o7 i j):=
 PS.imp (ph hN hix hx (wy hu hc hm (wu (g:=AQ X (gN 0)) (tc:=vL) (te:=EU (lR (vK 0) (lR (x5 X src) B2))) hc S hi (λcl C s₀ H₀ fp=>⟨(blk cl C s₀ H₀ fp).1,tZ,yu (ft (blk cl C s₀ H₀ fp).2.1 (ft (blk cl C s₀ H₀ fp).2.2 jP (bh h2)) (bh h1))⟩) hs) hg rfl) hsw hf) λD σ H hh_=>by
  obtain⟨Z,B,M,E,h⟩:=hh_;unfold o7 at h
  cases qj:Z[j]? with
  |none=>rw[qj]at h;exact h.elim
  |some z=>
   rw[qj]at h
   match z,h,qj with
   |.va (.lst l),h,qj=>
    dsimp only at h
    by_cases hh:i<Z.length/\iO l=ZC/\(l.map keyOf).Nodup/\l.length<=1000
    ·rw[if_pos hh]at h
     obtain⟨hl,hky,hnd,hz⟩:=hh;obtain⟨kk,hk⟩:=Ad hky
     have lk:l.length=kk.length:=by have:=congrArg OE hk;rwa [Nc,Nc]at this
     have hn:kk.Nodup:=by
      rw[hk]at hnd;exact(Px.mp hnd).imp λh z=>h (by rw[z])
     have fj:iS (vr j) Z=.ok l:=by unfold iS vr;rw[qj];rfl
     have hlc:bR [ZB,ZA j] Z=[.em,.va (.lst l)]:=by unfold bR;simp[qj]
     unfold B3 tD
     refine xg (X:=X) (te:=x5 X src) E.o (λR h=>⟨Z,OO B M,E.o,by rw[fj];exact h⟩) hz hk (by simp)
      (λH' D vs=>H D=ZB/\Same H H'/\∃ds:List ZE,vs=ds.map V.ref/\ds.Nodup/\∀d∈ds,Nw X.K H d/\H' d=ZA (.dT (gM kk)))
      (λH1 D s1 nD=>⟨(mf s1 nD).1,s1.trans (aV nD.1 _),[],rfl,Pu,λd h=>nomatch h⟩)
      (λH1 H2 D vs ys ⟨c1,c2,ds,c3,c4,c5⟩ hD s=>⟨c1,(λb o e=>s b o (c2 b o e) (λz=>by rw[z,c1]at e;cases e)),ds,c3,c4,λd hd=>⟨(c5 d hd).1,s _ _ (c5 d hd).2 (jV (c5 d hd).2 hD (λz=>nomatch z))⟩⟩)
      (λt ht σ' H' O' D vs ys Q' E' ⟨c1,c2,ds,c3,c4,c5⟩ hD k=>Cf (l:=l) (kk:=kk) ⟨noM,E'⟩ (by rw[hlc];rfl) hz hk hn hsr λd H'' s' nd hd=>?_) λH1 D ys ps H' s1 nD s2 hD hp e1 ⟨c1,c2,ds,c3,c4,c5⟩=>?_
     ·refine k _ H'' s' ⟨c1,c2.trans s',ds++[d],by rw[c3,NR];rfl,?_,λe he=>?_⟩
      ·refine Ot.mpr ⟨c4,by simp,λu hu w hw=>?_⟩
       rw[Ny.mp hw];intro z
       have:=(c5 u hu).2;rw[z,nd.1]at this;cases this
      ·rcases NO.mp he with z|z
       ·exact⟨(c5 e z).1,s' _ _ (c5 e z).2⟩
       ·rw[Ny.mp z]
        exact⟨mf c2 nd,hd⟩
     ·have hpl:ps.length=kk.length:=by rw[<-e1,Nc]
      refine⟨D,ys,ps,rfl,hD,by rw[hp.len];omega,hp,λq nq=>?_⟩
      have e2:et [] ps=ps:=by rw[mT ps [] (by rw[OC,e1];exact hn),OC]
      rw[e2]
      have qd:q∉ds:=λz=>by have:=(c5 q z).2;rw[nq.1]at this;cases this
      have dl:ds.length=ps.length:=by have:=congrArg OE c3;rw[Nc,Nc]at this;exact this.symm
      have hm':∀b,b=q\/b∈ds->Nw X.K H b:=λb z=>z.elim (λw=>w▸mf c2 nq) λw=>(c5 b w).1
      have sF:Same H (upd H' q (.dT ps)):=c2.trans (aV nq.1 _);obtain⟨E2,sub⟩:=E.new (m:=λb=>b=q\/b∈ds) (o:=.dd l (l.map λ_=>(l,l.map λ_=>.non))) (v:=.ref q) (H':=upd H' q (.dT ps)) hl hm' sF ⟨q,ps,ds,rfl,λb=>Ro,qd,c4,aI,by rw[hk,<-e1,N3];rfl,c3,v8 hk (by omega) λd hd=>by rw[aG (show d≠q from λz=>qd (z▸hd))];exact(c5 d hd).2⟩
      exact h _ _ _ (SameO.of sF) E2 sub
    ·rw[if_neg hh]at h;exact h.elim
   |.em,h,_=>exact h.elim
   |.ow _,h,_=>exact h.elim
   |.va .non,h,_=>exact h.elim
   |.va (.bl _),h,_=>exact h.elim
   |.va (.int _),h,_=>exact h.elim
   |.va (.str _),h,_=>exact h.elim
   |.va (.tup _),h,_=>exact h.elim
   |.va (.scr _),h,_=>exact h.elim
   |.va (.dct _ _),h,_=>exact h.elim
def AI(i j:Nat){ea r ta ia:ZG}{q1 lp p2 pos:Pos}{x1}{src:List (Option Nat)}(hu:X.A.units+8<cLine)(hc:X.calm=ZC)(hm:X.mg "dict" =ZB)(hN:X.N.Nodup)
  (S:LcScope X sc N' [ZB,ZA j]) (hi:QI X ta ia (iS (vr j))) (hsr:0<src.length)
  (blk:∀cl C s₀ H₀ fp,QG (bL X sc cl N' C s₀ H₀ fp) ta (gN 0)/\PE (bL X sc cl N' C s₀ H₀ fp) ea (vK 0)/\PE (bL X sc cl N' C s₀ H₀ fp) r (x5 X src)) (h1:bN ea=ZC:=by rfl) (h2:bN r=ZC:=by rfl)
  (hs:autoParam (∀x,N7 ia X.env x=pure x) t_) (hg:Gl X "dict":=by rfl) (hix:X.N[i]?=ZA x:=by rfl) (hx:autoParam (Loc X.env.scope x) x_)
  (hsw:Ov (.Call (.Name "dict" p) [.ListComp (.Tuple [ea,r] x1 q1) [⟨ta,ia,[],0⟩] sc lp] [] p2) (ZA (.Name x p3)) pos.line X.env=pure ZD:=by rfl)
  (hf:autoParam (X.fn x=ZC\/X.env.scope.names.lookup x=ZA .local) r_):
  QS X (.Assign [.Name x p3] (.Call (.Name "dict" p) [.ListComp (.Tuple [ea,r] x1 q1) [⟨ta,ia,[],0⟩] sc lp] [] p2) pos) (o7 i j):=
 ⟨Co i j hu hc hm hN S hi.h hsr (λcl C s₀ H₀ fp=>⟨(blk cl C s₀ H₀ fp).1.h,(blk cl C s₀ H₀ fp).2⟩) h1 h2 hs hg hix hx hsw hf⟩
def EH{fs:V3}{p2 pos:Pos}(hu:X.A.units+8<cLine)(hc:X.calm=ZC)(hm:X.mg "dict" =ZB)(hmz:X.mg "zip" =ZB)(ha:QA X [a,b] fs)(hst:bM [a,b]=ZC:=by rfl)(hg:Gl X "dict":=by rfl)(hgz:Gl X "zip":=by rfl):
  QE X (.Call (.Name "dict" p) [.Call (.Name "zip" p1) [a,b] [] p2] [] pos) (cl Lx fs):=⟨Iy hu hc hm hmz ha.h hst hg hgz⟩
def zm{pos pn:Pos}{src:List (Option Nat)}(i j:Nat){D:Str}
  (hc:X.calm=ZC) (S:LcScope X scope N' src) (block:∀cl C s₀ H₀ fp,QG (bL X scope cl N' C s₀ H₀ fp) tg tgt/\LC (bL X scope cl N' C s₀ H₀ fp) ifs fc/\QE (bL X scope cl N' C s₀ H₀ fp) elt fe)
  (hN:X.N.Nodup) (hD:X.N[i]?=ZA D:=by rfl) (hDv:autoParam (vo X.env.scope D) u_) (hDd:autoParam ((D == ("__debug__" : Str))=ZD) s_) (hDc:autoParam ((D == ("__classdict__" : Str))=ZD) s_)
  (hiy:X.N[j]?=ZA y:=by rfl) (hy:autoParam (Loc X.env.scope y) x_) (hsw:Ov (.ListComp elt [⟨tg,.Name D pn,ifs,0⟩] scope pos) (ZA (.Name y py)) spos.line X.env=pure ZC:=by rfl)
  (hf:autoParam (X.fn y=ZC\/X.env.scope.names.lookup y=ZA .local) r_) (hs:autoParam (∀x,N7 (.Name D pn) X.env x=pure x) t_):
  QS X (.Assign [.Name y py] (.ListComp elt [⟨tg,.Name D pn,ifs,0⟩] scope pos) spos) (tR i j src tgt fc fe):=
 ⟨Ii i j hc S (λa b c d e=>⟨(block a b c d e).1.h,(block a b c d e).2.1.h,(block a b c d e).2.2.h⟩) hN hD hDv hDd hDc hiy hy hsw hf hs⟩
def fZ{P:List Str}(h1:sc.kind=.function:=by rfl)(h2:sc.isCoroutine=ZD:=by rfl)(h3:sc.isGenerator=ZD:=by rfl)(h4:autoParam (N.Nodup) z_)(h5:N.take P.length=P:=by rfl)
  (h6:autoParam (∀x∈P,sc.names.lookup x=ZA .local\/sc.names.lookup x=ZA .cell) z_) (h7:autoParam (∀y∈sc.names,y.2≠ .free) z_):aE N P sc:=⟨h1,h2,h3,h4,h5,h6,h7⟩
def JG{k:Nat}(h:Room k A):A.units+70<cLine:=by have:=h.un;omega
def zp{fs:V3}{p2 pos:Pos}(hu:X.A.units+70<cLine)(hc:X.calm=ZC)(hm:X.mg "sorted" =ZB)(hmz:X.mg "zip" =ZB)(ha:QA X [a,b] fs)(hst:bM [a,b]=ZC:=by rfl)(hg:Gl X "sorted":=by rfl)(hgz:Gl X "zip":=by rfl):
  QE X (.Call (.Name "sorted" p) [.Call (.Name "zip" p1) [a,b] [] p2] [] pos) (cl G6 fs):=⟨Iv hu hc hm hmz ha.h hst hg hgz⟩
end Tr
namespace G
open PySem PySem.Spec PyProof.Rows L2 Tr
structure Bl (mg:V0):Prop where
 b_all:mg "all" =ZB
 b_bool:mg "bool" =ZB
 b_dict:mg "dict" =ZB
 b_enumerate:mg "enumerate" =ZB
 b_int:mg "int" =ZB
 b_isinstance:mg "isinstance" =ZB
 b_len:mg "len" =ZB
 b_max:mg "max" =ZB
 b_min:mg "min" =ZB
 b_range:mg "range" =ZB
 b_sorted:mg "sorted" =ZB
 b_tuple:mg "tuple" =ZB
 b_zip:mg "zip" =ZB
structure Cs (mg:V0):Prop where
 MOST_CLOCKS:∃t,mg "MOST_CLOCKS" =ZA (.int 4 t)
 MOST_LETTERS:∃t,mg "MOST_LETTERS" =ZA (.int 8 t)
 MOST_READINGS:∃t,mg "MOST_READINGS" =ZA (.int 4 t)
 LAST_READING:∃t,mg "LAST_READING" =ZA (.int 99 t)
 SLOWEST:∃t,mg "SLOWEST" =ZA (.int 9 t)
 LONGEST:∃t,mg "LONGEST" =ZA (.int 999 t)
def vh:N5 "bool" =ZA (.type "bool"):=by decide+kernel
def nU:N5 "int" =ZA (.type "int"):=by decide+kernel
def cW:N5 "tuple" =ZA (.type "tuple"):=by decide+kernel
structure Xs (K:M9)(mg:V0)(ac ap bi bn:ZE):Prop where
 m_NoRecord:mg "NoRecord" =ZA (.ref ac)
 m_NoEvent:mg "NoEvent" =ZA (.ref ap)
 m_NoWorld:mg "NoWorld" =ZA (.ref bi)
 m_ClockError:mg "ClockError" =ZA (.ref bn)
 o_NoRecord:OX K ac (.ref bn::ze)
 o_NoEvent:OX K ap (.ref bn::ze)
 o_NoWorld:OX K bi (.ref bn::ze)
 o_ClockError:OX K bn ze
 d:[ac,ap,bi,bn].Nodup
def kh:V4:=
 (ax (ee (tb (o2 qr (vr 0) (dF ai))) (aM (o2 cp (cn (.int 7)) (vr 1))) sN) (aM (o2 aU (o2 aY (vr 0) (o2 ml (vr 1) (cl dj (af (vr 0) ai)))) (o2 cp (cn (.int 6553)) (o2 mC (vr 1) (cl dj (af (vr 0) ai)))))))
def fY:List T->Rs T:=val 2 2 kh
def jo:V4:=
 (ax (cS (o2 ml (o2 aU (o2 cp (o2 ml (cl fY (af (vr 0) (af (vr 1) ai))) (cn (.int 2147483563))) (cn (.int 69069))) (o2 cp (cn (.int 104723)) (o2 aU (vr 1) (cn (.int 1))))) (cn (.int 2147483563))) (gN 3)) (ax (cS (o2 ml (o2 aU (o2 cp (vr 3) (vr 3)) (o2 mC (vr 3) (cn (.int 3)))) (cn (.int 2147483399))) (gN 3)) (aM (o2 ml (o2 mC (o2 ml (o2 aU (o2 cp (vr 3) (vr 3)) (o2 mC (vr 3) (cn (.int 7)))) (cn (.int 2147483647))) (cn (.int 11))) (vr 2)))))
def aD:List T->Rs T:=val 3 4 jo
abbrev evF:V4:=cS (o2 aU (vr 1) (eh (iR (af (cl dj (af (o2 aY (vr 3) (cn (.int 2))) ai)) ai)) [ZB,ZA 2] (gN 0) bT (bA (af (vr 1) (af (vr 0) ai))))) (gN 1)
def lz:V4:=
 (ax (cS (dF ai) (gN 1)) (ax (dM (iE (af (vr 0) ai)) (gT 2 (dE (gN 2) (dE (gN 3) j4))) evF) (aM (vr 1))))
def eC:List T->Rs T:=val 1 4 lz
def eG:V4:=
 (ax (cS (cl eC (af (vr 2) ai)) (gN 3)) (ax (ee (tb (o2 rC (cl dj (af (vr 3) ai)) (cn (.int 2)))) (aM (cn .non)) sN) (ax (cS (cl aD (af (vr 0) (af (vr 1) (af (cl dj (af (vr 3) ai)) ai)))) (gN 4)) (ax (cS (o2 ml (o2 aU (o2 aU (vr 4) (cn (.int 1))) (cl aD (af (vr 0) (af (o2 aU (vr 1) (cn (.int 1))) (af (o2 cX (cl dj (af (vr 3) ai)) (cn (.int 1))) ai))))) (cl dj (af (vr 3) ai))) (gN 5)) (ax (cS (cl aD (af (vr 0) (af (o2 aU (vr 1) (cn (.int 2))) (af (cn (.int 8)) ai)))) (gN 6)) (ax (cS (qi (tb (o2 qr (cl aD (af (vr 0) (af (o2 aU (vr 1) (cn (.int 3))) (af (cn (.int 3)) ai)))) (cn (.int 0)))) (cn .non) (o2 aU (vr 6) (cl aD (af (vr 0) (af (o2 aU (vr 1) (cn (.int 4))) (af (cn (.int 9)) ai)))))) (gN 7)) (aM (bA (af (o2 aY (vr 3) (vr 4)) (af (o2 aY (vr 3) (vr 5)) (af (vr 6) (af (vr 7) ai))))))))))))
def cw:List T->Rs T:=val 3 8 eG
abbrev clF:V4:=cS (o2 aU (vr 3) (bA (af (o2 aU (o2 aU (o2 aY (vr 3) (o1 uG (cn (.int 1)))) (cn (.int 1))) (cl aD (af (vr 0) (af (o2 aU (o2 aU (vr 1) (cn (.int 3))) (vr 4)) (af (cn (.int 5)) ai))))) ai))) (gN 3)
def jq:V4:=
 (ax (cS (o2 aU (cn (.int 1)) (cl aD (af (vr 0) (af (vr 1) (af (cn (.int 3)) ai))))) (gN 2)) (ax (cS (bA (af (cl aD (af (vr 0) (af (o2 aU (vr 1) (cn (.int 2))) (af (cn (.int 6)) ai)))) ai)) (gN 3)) (ax (dM (iR (af (cl aD (af (vr 0) (af (o2 aU (vr 1) (cn (.int 1))) (af (cn (.int 3)) ai)))) ai)) (gN 4) clF) (aM (bA (af (vr 2) (af (o2 aU (vr 2) (cl aD (af (vr 0) (af (o2 aU (vr 1) (cn (.int 6))) (af (cn (.int 3)) ai))))) (af (vr 3) ai))))))))
def cP:List T->Rs T:=val 2 5 jq
abbrev leF:V4:=ax (cS (cl cw (af (vr 0) (af (o2 aU (o2 aU (vr 1) (cn (.int 31))) (o2 cp (cn (.int 6)) (vr 5))) (af (vr 3) ai)))) (gN 6)) (cS (o2 aU (vr 4) (o2 cp (dF (af (vr 6) ai)) (cl DA (af (o2 cL (vr 6) (cn .non)) ai)))) (gN 4))
def iz:V4:=
 (ax (cS (cl fL (af (eh (iR (af (o2 aU (cn (.int 1)) (cl aD (af (vr 0) (af (vr 1) (af (cn (.int 3)) ai))))) ai)) [ZB,ZA 0,ZA 1] (gN 0) bT (cl cP (af (vr 1) (af (o2 aU (o2 aU (vr 2) (cn (.int 1))) (o2 cp (cn (.int 8)) (vr 0))) ai)))) ai)) (gN 3)) (ax (cS (dF ai) (gN 4)) (ax (dM (iR (af (cl aD (af (vr 0) (af (o2 aU (vr 1) (cn (.int 30))) (af (o2 aU (vr 2) (cn (.int 1))) ai)))) ai)) (gN 5) leF) (aM (bA (af (vr 3) (af (cl fL (af (vr 4) ai)) ai)))))))
def fS:List T->Rs T:=val 3 7 iz
def sX:V4:=
 (aM (cE (o1 (Gj "tuple") (vr 0)) (ch Lb Lb (vr 1) (cl dj (af (vr 0) ai)) (vr 2))))
def aS:List T->Rs T:=val 3 3 sX
def zj:V4:=
 (aM (cE (o1 (Gj "int") (vr 0)) (o1 yD (o1 (Gj "bool") (vr 0)))))
def i7:List T->Rs T:=val 1 1 zj
def kf:V4:=
 (aM (cE (cl i7 (af (vr 0) ai)) (ch Lb Lb (vr 1) (vr 0) (vr 2))))
def bj:List T->Rs T:=val 3 3 kf
def nC:V4:=
 (aM (cE (cl bj (af (vr 0) (af (cn (.int 1)) (af (cn (.int 9)) ai)))) (cl bj (af (vr 1) (af (vr 0) (af (cn (.int 9)) ai))))))
def gB:List T->Rs T:=val 2 2 nC
def AG:V4:=
 (aM (cl rH (af (eh (iR (af (o2 cX (cl dj (af (vr 0) ai)) (cn (.int 1))) ai)) [ZB,ZA 0] (gN 0) bT (o2 rC (o2 aY (vr 1) (vr 0)) (o2 aY (vr 1) (o2 aU (vr 0) (cn (.int 1)))))) ai)))
def kD:List T->Rs T:=val 1 1 AG
def fE:V4:=
 (ax (ee (dt (tb (cl aS (af (vr 0) (af (cn (.int 1)) (af (cn (.int 4)) ai)))))) (aM (cn (.bl ZD))) sN) (aM (cE (cl rH (af (eh (iS (vr 0)) [ZB] (gN 0) bT (cl bj (af (vr 0) (af (cn (.int 0)) (af (cn (.int 99)) ai))))) ai)) (cl kD (af (vr 0) ai)))))
def bZ:List T->Rs T:=val 1 1 fE
def ji:V4:=
 (aM (cE (cl aS (af (vr 0) (af (cn (.int 3)) (af (cn (.int 3)) ai)))) (cE (cl gB (af (o2 aY (vr 0) (cn (.int 0))) (af (o2 aY (vr 0) (cn (.int 1))) ai))) (cl bZ (af (o2 aY (vr 0) (cn (.int 2))) ai)))))
def dQ:List T->Rs T:=val 1 1 ji
def jl:V4:=
 (aM (cE (cl aS (af (vr 0) (af (cn (.int 1)) (af (cn (.int 4)) ai)))) (cl rH (af (eh (iS (vr 0)) [ZB] (gN 0) bT (cl dQ (af (vr 0) ai))) ai))))
def dY:List T->Rs T:=val 1 1 jl
def jg:V4:=
 (ax (ee (l8 (dt (tb (cl aS (af (vr 1) (af (cn (.int 2)) (af (cn (.int 2)) ai)))))) (dt (tb (cl bj (af (o2 aY (vr 1) (cn (.int 0))) (af (cn (.int 0)) (af (o2 cX (cl dj (af (vr 0) ai)) (cn (.int 1))) ai))))))) (aM (cn (.bl ZD))) sN) (aM (cl bj (af (o2 aY (vr 1) (cn (.int 1))) (af (cn (.int 0)) (af (o2 cX (cl dj (af (o2 aY (o2 aY (vr 0) (o2 aY (vr 1) (cn (.int 0)))) (cn (.int 2))) ai)) (cn (.int 1))) ai))))))
def cU:List T->Rs T:=val 2 2 jg
def jh:V4:=
 (aM (cE (cl bj (af (vr 0) (af (cn (.int 0)) (af (cn (.int 999)) ai)))) (BD (o2 gj (vr 1) (cn .non)) (cl bj (af (vr 1) (af (vr 0) (af (cn (.int 999)) ai)))))))
def eQ:List T->Rs T:=val 2 2 jh
def e9:V4:=
 (ax (ee (l8 (dt (tb (cl aS (af (vr 1) (af (cn (.int 4)) (af (cn (.int 4)) ai)))))) (dt (tb (cl eQ (af (o2 aY (vr 1) (cn (.int 2))) (af (o2 aY (vr 1) (cn (.int 3))) ai)))))) (aM (cn (.bl ZD))) sN) (aM (cE (cl cU (af (vr 0) (af (o2 aY (vr 1) (cn (.int 0))) ai))) (cE (cl cU (af (vr 0) (af (o2 aY (vr 1) (cn (.int 1))) ai))) (o2 jy (o2 aY (vr 1) (cn (.int 0))) (o2 aY (vr 1) (cn (.int 1))))))))
def cv:List T->Rs T:=val 2 2 e9
def iy:V4:=
 (aM (cE (cl aS (af (vr 1) (af (cn (.int 0)) (af (cn (.int 8)) ai)))) (cl rH (af (eh (iS (vr 1)) [ZB,ZA 0] (gN 0) bT (cl cv (af (vr 1) (af (vr 0) ai)))) ai))))
def dC:List T->Rs T:=val 2 2 iy
def hY:V4:=
 (aM (cE (cl aS (af (vr 0) (af (cn (.int 2)) (af (cn (.int 2)) ai)))) (cE (cl dY (af (o2 aY (vr 0) (cn (.int 0))) ai)) (cl dC (af (o2 aY (vr 0) (cn (.int 0))) (af (o2 aY (vr 0) (cn (.int 1))) ai))))))
def dP:List T->Rs T:=val 1 1 hY
def eF:V4:=
 (ee (dt (tb (cl dP (af (vr 0) ai)))) (Cc "NoRecord") sN)
def aW:List T->Rs T:=val 1 1 eF
abbrev peF:V4:=o8 1 (eh (iR (af (cl dj (af (o2 aY (vr 3) (cn (.int 2))) ai)) ai)) [ZB,ZA 2] (gN 0) bT (bA (af (vr 1) (af (vr 0) ai))))
def qH:V4:=
 (ax (rS (cl aW (af (vr 0) ai))) (ax (iH 1 ai) (ax (dM (iE (af (o2 aY (vr 0) (cn (.int 0))) ai)) (gT 2 (dE (gN 2) (dE (gN 3) j4))) peF) (mS 1 (aM (vr 1))))))
def cq:List T->Rs T:=val 1 4 qH
abbrev lkF:V4:=(ax (cS (o2 cX (o2 aY (vr 5) (vr 6)) (o2 aY (vr 5) (o2 cX (vr 6) (cn (.int 1))))) (gN 7)) (ax (gY 1 (bA (af (bA (af (vr 2) (af (o2 cX (vr 6) (cn (.int 1))) ai))) (af (bA (af (vr 2) (af (vr 6) ai))) (af (o2 cp (vr 4) (vr 7)) ai))))) (gY 1 (bA (af (bA (af (vr 2) (af (vr 6) ai))) (af (bA (af (vr 2) (af (o2 cX (vr 6) (cn (.int 1))) ai))) (af (o2 cX (cn (.int 0)) (o2 cp (vr 3) (vr 7))) ai)))))))
abbrev llF:V4:=(ax (gY 1 (bA (af (vr 9) (af (vr 8) (af (o2 cX (cn (.int 0)) (vr 10)) ai))))) (ee (tb (o2 cL (vr 11) (cn .non))) (gY 1 (bA (af (vr 8) (af (vr 9) (af (vr 11) ai))))) sN))
def iA:V4:=
 (ax (iH 1 ai) (ax (dM (iE (af (o2 aY (vr 0) (cn (.int 0))) ai)) (gT 2 (dE (gN 2) (dE (gT 3 (dE (gN 3) (dE (gN 4) (dE (gN 5) j4)))) j4))) (dM (iR (af (cn (.int 1)) (af (cl dj (af (vr 5) ai)) ai))) (gN 6) lkF)) (ax (dM (iS (o2 aY (vr 0) (cn (.int 1)))) (gT 4 (dE (gN 8) (dE (gN 9) (dE (gN 10) (dE (gN 11) j4))))) llF) (mS 1 (aM (vr 1))))))
def eE:List T->Rs T:=val 1 12 iA
abbrev Ka:V4:=(ee (kP (tb (o2 cL (ln 2 (o2 aN (o2 aN (vr 2) (vr 3)) (vr 6))) (cn .non))) (tb (o2 cL (ln 2 (o2 aN (o2 aN (vr 2) (vr 6)) (vr 4))) (cn .non)))) (ax (cS (o2 aU (ln 2 (o2 aN (o2 aN (vr 2) (vr 3)) (vr 6))) (ln 2 (o2 aN (o2 aN (vr 2) (vr 6)) (vr 4)))) (gN 7)) (ee (l8 (tb (o2 gj (ln 2 (o2 aN (o2 aN (vr 2) (vr 3)) (vr 4))) (cn .non))) (tb (o2 rC (vr 7) (ln 2 (o2 aN (o2 aN (vr 2) (vr 3)) (vr 4)))))) (jv 2 (vr 3) (vr 4) (vr 7)) sN)) sN)
def jm:V4:=
 (ax (o7 2 0) (ax (dM (iS (vr 0)) (gN 3) (jv 2 (vr 3) (vr 3) (cn (.int 0)))) (ax (dM (iS (vr 1)) (gT 3 (dE (gN 3) (dE (gN 4) (dE (gN 5) j4)))) (ee (l8 (tb (o2 gj (ln 2 (o2 aN (o2 aN (vr 2) (vr 3)) (vr 4))) (cn .non))) (tb (o2 rC (vr 5) (ln 2 (o2 aN (o2 aN (vr 2) (vr 3)) (vr 4)))))) (jv 2 (vr 3) (vr 4) (vr 5)) sN)) (ax (dM (iS (vr 0)) (gN 6) (dM (iS (vr 0)) (gN 3) (dM (iS (vr 0)) (gN 4) Ka))) (mS 2 (aM (qi (tb (o2 qr (eh (iS (vr 0)) [ZB,ZA 2] (gN 0) (tb (o2 rC (o2 aN (o2 aN (vr 1) (vr 0)) (vr 0)) (cn (.int 0)))) (vr 0)) (dF ai))) (vr 2) (cn .non))))))))
def fx:List T->Rs T:=val 2 8 jm
def kg:V4:=
 (ax (cS (oD jA (vr 0) (o2 aY (vr 1) (cn (.int 1)))) (gN 3)) (aM (BD (o2 gj (vr 3) (cn .non)) (o2 rC (o2 aU (o2 aY (vr 2) (cn (.int 0))) (o2 aY (vr 1) (cn (.int 2)))) (o2 aY (vr 3) (cn (.int 0)))))))
def dR:List T->Rs T:=val 3 4 kg
abbrev Ey:V4:=(ax (cS (ln 2 (oD jA (vr 2) (o2 aY (vr 5) (cn (.int 0))))) (gN 6)) (ax (ee (l8 (tb (o2 gj (vr 6) (cn .non))) (dt (Jk 2 (tb (cl dR (af (vr 2) (af (vr 5) (af (vr 6) ai)))))))) Hb sN) (ax (cS (o2 aU (o2 aY (vr 6) (cn (.int 1))) (dF (af (vr 4) ai))) (gN 7)) (ax (cS (eh (iS (vr 7)) [ZB,ZA 0] (gN 0) bT (o2 aY (o2 aY (vr 1) (vr 0)) (cn (.int 0)))) (gN 8)) (ax (ee (tb (o2 J7 (o2 aY (vr 5) (cn (.int 1))) (vr 8))) (aM (bA (af (cn .non) (af (sl (vr 7) (pS (oL eJ (vr 8) (o2 aY (vr 5) (cn (.int 1))))) pN) ai)))) sN) (ax (qT 2 (o2 aY (vr 5) (cn (.int 1))) (bA (af (o2 aU (o2 aY (vr 6) (cn (.int 0))) (o2 aY (vr 5) (cn (.int 2)))) (af (vr 7) ai)))) (cS (cn (.bl ZC)) (gN 3))))))))
def kc:V4:=
 (ax (rR 2 (eh (iS (vr 1)) [ZB] (gN 0) bT (bA (af (vr 0) (af (bA (af (cn (.int 0)) (af (dF ai) ai))) ai))))) (ax (cS (cn (.bl ZC)) (gN 3)) (ax (bX (tb (vr 3)) (ax (cS (cn (.bl ZD)) (gN 3)) (dM (iE (af (vr 0) ai)) (gT 2 (dE (gN 4) (dE (gN 5) j4))) Ey)) FU) (mS 2 (aM (bA (af (vr 2) (af (cn .non) ai))))))))
def fX:List T->Rs T:=val 2 9 kc
def dh:V4:=
 (ax (cS (cl cq (af (vr 0) ai)) (gN 2)) (ax (cS (o2 aY (cl fX (af (vr 1) (af (vr 2) ai))) (cn (.int 0))) (gN 3)) (ax (ee (tb (o2 gj (vr 3) (cn .non))) (aM (cn .non)) sN) (aM (cl fL (af (eh (iS (vr 2)) [ZB,ZA 3] (gN 0) bT (o2 aY (o2 aN (vr 1) (vr 0)) (cn (.int 0)))) ai))))))
def bx:List T->Rs T:=val 2 4 dh
abbrev bcF:V4:=(ax (cS (bA (af (vr 0) (af (vr 4) ai))) (gN 5)) (ax (cS (bA (af (vr 0) (af (o2 aU (vr 4) (cn (.int 1))) ai))) (gN 6)) (ax (cS (o2 cX (o2 aY (vr 2) (o2 aU (vr 4) (cn (.int 1)))) (o2 aY (vr 2) (vr 4))) (gN 7)) (ax (gY 3 (bA (af (vr 5) (af (vr 6) (af (o2 cp (vr 7) (o2 aY (vr 1) (cn (.int 1)))) ai))))) (gY 3 (bA (af (vr 6) (af (vr 5) (af (o2 cp (o1 uG (vr 7)) (o2 aY (vr 1) (cn (.int 0)))) ai)))))))))
def fD:V4:=
 (ax (cS (o2 aY (vr 1) (cn (.int 2))) (gN 2)) (ax (iH 3 ai) (ax (dM (iR (af (o2 cX (cl dj (af (vr 2) ai)) (cn (.int 1))) ai)) (gN 4) bcF) (mS 3 (aM (vr 3))))))
def cO:List T->Rs T:=val 2 8 fD
def eR:V4:=
 (ax (iH 1 (af (bA (af (o2 aY (vr 0) (cn (.int 1))) (af (o2 aY (vr 0) (cn (.int 0))) (af (o1 uG (o2 aY (vr 0) (cn (.int 2)))) ai)))) ai)) (ax (ee (tb (o2 cL (o2 aY (vr 0) (cn (.int 3))) (cn .non))) (gY 1 (bA (af (o2 aY (vr 0) (cn (.int 0))) (af (o2 aY (vr 0) (cn (.int 1))) (af (o2 aY (vr 0) (cn (.int 3))) ai))))) sN) (mS 1 (aM (vr 1)))))
def cD:List T->Rs T:=val 1 2 eR
abbrev bdF:V4:=o8 1 (cl cO (af (vr 2) (af (vr 3) ai)))
def qI:V4:=
 (ax (rS (cl aW (af (vr 0) ai))) (ax (iH 1 ai) (ax (dM (iE (af (o2 aY (vr 0) (cn (.int 0))) ai)) (gT 2 (dE (gN 2) (dE (gN 3) j4))) bdF) (ax (dM (iS (o2 aY (vr 0) (cn (.int 1)))) (gN 4) (o8 1 (cl cD (af (vr 4) ai)))) (mS 1 (aM (vr 1)))))))
def fw:List T->Rs T:=val 1 5 qI
def GS:V4:=
 (aM (cl bx (af (vr 0) (af (cl fw (af (vr 0) ai)) ai))))
def dH:List T->Rs T:=val 1 1 GS
def xQ:V4:=
 (aM (o2 cL (cl dH (af (vr 0) ai)) (cn .non)))
def dm:List T->Rs T:=val 1 1 xQ
def je:V4:=
 (ee (dt (tb (cl dm (af (vr 0) ai)))) (Cc "NoWorld") sN)
def dX:List T->Rs T:=val 1 1 je
def vt:V4:=
 (aM (o2 aY (cl fX (af (cl fw (af (vr 0) ai)) (af (dF (af (vr 1) ai)) ai))) (cn (.int 0))))
def du:List T->Rs T:=val 2 2 vt
def BB:V4:=
 (aM (qi (tb (o2 D9 (vr 1) (vr 0))) (o2 aY (o2 aN (vr 0) (vr 1)) (cn (.int 0))) (cn .non)))
def eX:List T->Rs T:=val 2 2 BB
abbrev amF:V4:=(ax (cS (cl du (af (vr 0) (af (vr 3) ai))) (gN 4)) (gY 2 (cl fL (af (eh (iS (vr 1)) [ZB,ZA 4] (gN 0) bT (cl eX (af (vr 1) (af (vr 0) ai)))) ai))))
def lO:V4:=
 (ax (rS (cl dX (af (vr 0) ai))) (ax (cS (cl cq (af (vr 0) ai)) (gN 1)) (ax (iH 2 ai) (ax (dM (iS (vr 1)) (gN 3) amF) (aM (ln 2 (cl fL (af (vr 2) ai))))))))
def i8:List T->Rs T:=val 1 5 lO
abbrev spI:V4:=(ee (kP (tb (o2 cL (o2 aY (o2 aY (vr 1) (vr 6)) (vr 4)) (cn .non))) (tb (o2 rC (o2 aY (o2 aY (vr 1) (vr 6)) (vr 4)) (cn (.int 0))))) (gY 3 (bA (af (vr 5) (af (vr 7) ai)))) sN)
def jd:V4:=
 (ax (cS (cl i8 (af (vr 0) ai)) (gN 1)) (ax (cS (cl cq (af (vr 0) ai)) (gN 2)) (ax (iH 3 ai) (ax (dM (iE (af (vr 2) ai)) (gT 2 (dE (gN 4) (dE (gN 5) j4))) (dM (iE (af (vr 2) ai)) (gT 2 (dE (gN 6) (dE (gN 7) j4))) spI)) (mS 3 (aM (vr 3)))))))
def dW:List T->Rs T:=val 1 8 jd
def vz:V4:=
 (aM (eh (iS (cl G6 (af (vr 1) (af (cl cq (af (vr 0) ai)) ai)))) [ZB] (gN 0) bT (o2 aY (vr 0) (cn (.int 1)))))
def dv:List T->Rs T:=val 2 2 vz
def gW:V4:=
 (ax (cS (cl dH (af (vr 0) ai)) (gN 1)) (aM (qi (tb (o2 gj (vr 1) (cn .non))) (cn .non) (cl dv (af (vr 0) (af (vr 1) ai))))))
def fN:List T->Rs T:=val 1 2 gW
def gd:V4:=
 (ax (rS (cl aW (af (vr 0) ai))) (aM (vr 0)))
def eY:List T->Rs T:=val 1 1 gd
def iu:V4:=
 (ax (rS (cl aW (af (vr 0) ai))) (aM (cl eY (af (bA (af (o2 aY (vr 0) (cn (.int 0))) (af (o2 aU (o2 aY (vr 0) (cn (.int 1))) (bA (af (vr 1) ai))) ai))) ai))))
def cT:List T->Rs T:=val 2 2 iu
def jn:V4:=
 (ax (ee (l8 (tb (o2 gj (vr 1) (cn .non))) (dt (tb (cl dm (af (cl cT (af (vr 0) (af (vr 1) ai))) ai))))) (aM (cn (.bl ZC))) sN) (ax (cS (cl dW (af (cl cT (af (vr 0) (af (vr 1) ai))) ai)) (gN 3)) (aM (o2 qr (eh (iS (vr 2)) [ZB,ZA 3] (gN 0) (tb (o2 mY (vr 0) (vr 1))) (vr 0)) (dF ai)))))
def gv:List T->Rs T:=val 3 4 jn
def gX:V4:=
 (ax (dM (iS (vr 0)) (gT 2 (dE (gN 2) (dE (gN 3) j4))) (ee (tb (o2 jy (eh (iS (vr 0)) [ZB,ZB,ZA 3,ZA 2,ZA 0] (gT 2 (dE (gN 0) (dE (gN 1) j4))) (kP (tb (o2 qr (vr 0) (vr 2))) (tb (o2 mY (bA (af (vr 3) (af (vr 1) ai))) (vr 4)))) (vr 1)) (dF ai))) (aM (cn (.bl ZD))) sN)) (ax (dM (iR (af (cn (.int 1)) (af (cl dj (af (vr 1) ai)) ai))) (gN 4) (ee (kP (tb (o2 qr (o2 aY (o2 aY (vr 1) (vr 4)) (cn (.int 0))) (o2 aY (o2 aY (vr 1) (o2 cX (vr 4) (cn (.int 1)))) (cn (.int 0))))) (tb (o2 mY (bA (af (o2 aY (vr 1) (o2 cX (vr 4) (cn (.int 1)))) (af (o2 aY (vr 1) (vr 4)) ai))) (vr 0)))) (aM (cn (.bl ZD))) sN)) (aM (cn (.bl ZC)))))
def fy:List T->Rs T:=val 2 5 gX
abbrev DW:V4:=(ax (tR 5 8 [ZB,ZA 5,ZA 4,ZA 7] (gN 0) (tb (o2 cL (o2 aN (o2 aN (vr 2) (vr 0)) (vr 3)) (cn .non))) (o2 aU (o2 aN (vr 1) (vr 0)) (o2 aN (o2 aN (vr 2) (vr 0)) (vr 3)))) (ax (tR 5 9 [ZB,ZA 5,ZA 4,ZA 7] (gN 0) (tb (o2 cL (o2 aN (o2 aN (vr 2) (vr 3)) (vr 0)) (cn .non))) (o2 cX (o2 aN (vr 1) (vr 0)) (o2 aN (o2 aN (vr 2) (vr 3)) (vr 0)))) (ax (cS (qi (tb (o2 jy (vr 9) (dF ai))) (cl A8 (af (vr 9) ai)) (qi (tb (o2 jy (vr 8) (dF ai))) (o2 cX (cl uK (af (vr 8) ai)) (cn (.int 5))) (cn (.int 0)))) (gN 10)) (ax (cS (qi (tb (o2 jy (vr 8) (dF ai))) (cl uK (af (vr 8) ai)) (o2 aU (vr 10) (cn (.int 5)))) (gN 11)) (qT 5 (vr 7) (o2 aU (vr 10) (cl aD (af (vr 0) (af (o2 aU (vr 1) (vr 6)) (af (o2 aU (o2 cX (vr 11) (vr 10)) (cn (.int 1))) ai))))))))))
def eU:V4:=
 (ax (tQ 5) (ax (dM (iE (af (vr 2) ai)) (gT 2 (dE (gN 6) (dE (gN 7) j4))) DW) (aM (cl fL (af (ln 5 (eh (iS (vr 2)) [ZB,ZA 5] (gN 0) bT (o2 aN (vr 1) (vr 0)))) ai)))))
def dy:List T->Rs T:=val 5 12 eU
def jf:V4:=
 (ee (dt (tb (cl cU (af (o2 aY (vr 0) (cn (.int 0))) (af (vr 1) ai))))) (Cc "NoEvent") sN)
def cM:List T->Rs T:=val 2 2 jf
def iw:V4:=
 (ax (rS (cl aW (af (vr 0) ai))) (ax (rS (cl cM (af (vr 0) (af (vr 1) ai)))) (rS (cl cM (af (vr 0) (af (vr 2) ai))))))
def fR:List T->Rs T:=val 3 3 iw
def gV:V4:=
 (ax (rS (cl fR (af (vr 0) (af (vr 1) (af (vr 2) ai))))) (ax (rS (cl dX (af (vr 0) ai))) (aM (cl eX (af (cl du (af (vr 0) (af (vr 1) ai))) (af (vr 2) ai))))))
def cC:List T->Rs T:=val 3 3 gV
def gm:V4:=
 (ax (cS (cl cC (af (vr 0) (af (vr 2) (af (vr 1) ai)))) (gN 3)) (aM (qi (tb (o2 gj (vr 3) (cn .non))) (cn .non) (o1 uG (vr 3)))))
def eI:List T->Rs T:=val 3 4 gm
def gU:V4:=
 (ax (cS (cl eI (af (vr 0) (af (vr 1) (af (vr 2) ai)))) (gN 3)) (aM (cE (o2 cL (vr 3) (cn .non)) (o2 JH (vr 3) (cn (.int 0))))))
def bY:List T->Rs T:=val 3 4 gU
def ix:V4:=
 (ax (cS (cl cC (af (vr 0) (af (vr 1) (af (vr 2) ai)))) (gN 3)) (aM (BD (o2 gj (vr 3) (cn .non)) (o2 JH (vr 3) (cn (.int 0))))))
def bW:List T->Rs T:=val 3 4 ix
def nB:V4:=
 (ax (ee (tb (cl bY (af (vr 0) (af (vr 1) (af (vr 2) ai))))) (aM (cn (.str "ahead"))) sN) (ax (ee (tb (cl bY (af (vr 0) (af (vr 2) (af (vr 1) ai))))) (aM (cn (.str "behind"))) sN) (ax (ee (l8 (tb (cl bW (af (vr 0) (af (vr 1) (af (vr 2) ai))))) (tb (cl bW (af (vr 0) (af (vr 2) (af (vr 1) ai)))))) (aM (cn (.str "open"))) sN) (aM (cn (.str "at once"))))))
def iN:List T->Rs T:=val 3 3 nB
def jk:V4:=
 (ax (rS (cl aW (af (vr 0) ai))) (ax (dM (iS (vr 1)) (gN 2) (rS (cl cM (af (vr 0) (af (vr 2) ai))))) (ax (ee (tb (o2 jy (cl rP (af (vr 1) ai)) (cl cq (af (vr 0) ai)))) (aM (cn (.bl ZD))) sN) (ax (cS (eh (iR (af (o2 cX (cl dj (af (vr 1) ai)) (cn (.int 1))) ai)) [ZB,ZA 1] (gN 0) bT (bA (af (o2 aY (vr 1) (o2 aU (vr 0) (cn (.int 1)))) (af (o2 aY (vr 1) (vr 0)) (af (cn (.int 0)) ai))))) (gN 3)) (aM (o2 cL (cl bx (af (vr 0) (af (o2 aU (cl fw (af (vr 0) ai)) (vr 3)) ai))) (cn .non)))))))
def cN:List T->Rs T:=val 2 4 jk
def om:V4:=
 (aM (cE (o1 yD (cl bY (af (vr 0) (af (vr 1) (af (vr 2) ai))))) (o1 yD (cl bY (af (vr 0) (af (vr 2) (af (vr 1) ai)))))))
def cK:List T->Rs T:=val 3 3 om
def Es:V4:=
 (ax (cS (cl fS (af (vr 0) (af (cn (.int 0)) (af (cn (.int 5)) ai)))) (gN 1)) (ax (ee (dt (tb (cl dm (af (vr 1) ai)))) (aM (o2 gj (cl fN (af (vr 1) ai)) (cn .non))) sN) (ax (cS (cl cq (af (vr 1) ai)) (gN 2)) (ax (cS (cl eE (af (vr 1) ai)) (gN 3)) (ax (cS (cl fx (af (vr 2) (af (vr 3) ai))) (gN 4)) (ax (cS (cl dW (af (vr 1) ai)) (gN 5)) (ax (ee (dt (tb (cl fy (af (vr 5) (af (vr 2) ai))))) (aM (cn (.bl ZD))) sN) (ax (dM (iR (af (cn (.int 2)) ai)) (gN 6) (ax (cS (cl dy (af (vr 0) (af (o2 aU (cn (.int 80)) (o2 cp (cn (.int 20)) (vr 6))) (af (vr 2) (af (vr 3) (af (vr 4) ai)))))) (gN 7)) (ax (cS (cl Lx (af (vr 2) (af (vr 7) ai))) (gN 8)) (ax (ee (tb (o2 jy (eh (iS (vr 5)) [ZB,ZB,ZA 8] (gT 2 (dE (gN 0) (dE (gN 1) j4))) (tb (o2 geT (o2 aN (vr 2) (vr 0)) (o2 aN (vr 2) (vr 1)))) (vr 0)) (dF ai))) (aM (cn (.bl ZD))) sN) (ax (cS (cl dv (af (vr 1) (af (vr 7) ai))) (gN 9)) (ax (ee (l8 (tb (o2 jy (vr 9) (eh (iS (cl G6 (af (vr 7) (af (vr 2) ai)))) [ZB,ZB] (gT 2 (dE (gN 0) (dE (gN 1) j4))) bT (vr 1)))) (dt (tb (cl cN (af (vr 1) (af (vr 9) ai)))))) (aM (cn (.bl ZD))) sN) (ax (cS (o2 aY (vr 2) (cl aD (af (vr 0) (af (o2 aU (cn (.int 120)) (o2 cp (cn (.int 2)) (vr 6))) (af (cl dj (af (vr 2) ai)) ai))))) (gN 10)) (ax (cS (o2 aY (vr 2) (cl aD (af (vr 0) (af (o2 aU (cn (.int 121)) (o2 cp (cn (.int 2)) (vr 6))) (af (cl dj (af (vr 2) ai)) ai))))) (gN 11)) (ax (ee (kP (tb (o2 rC (o2 aN (vr 8) (vr 10)) (o2 aN (vr 8) (vr 11)))) (dt (tb (cl bW (af (vr 1) (af (vr 10) (af (vr 11) ai))))))) (aM (cn (.bl ZD))) sN) (ax (ee (kP (tb (o2 qr (o2 aN (vr 8) (vr 10)) (o2 aN (vr 8) (vr 11)))) (dt (tb (cl cK (af (vr 1) (af (vr 10) (af (vr 11) ai))))))) (aM (cn (.bl ZD))) sN) (ax (LS 12) (ax (ee (tb (o2 jy (o1 (xO [("ahead","behind"),("behind","ahead"),("open","open"),("at once","at once")]) (cl iN (af (vr 1) (af (vr 10) (af (vr 11) ai))))) (cl iN (af (vr 1) (af (vr 11) (af (vr 10) ai)))))) (aM (cn (.bl ZD))) sN) sN)))))))))))) (ax (cS (cl fN (af (vr 1) ai)) (gN 13)) (ax (ee (l8 (tb (o2 jy (vr 13) (cl dv (af (vr 1) (af (cl dH (af (vr 1) ai)) ai))))) (dt (tb (cl cN (af (vr 1) (af (vr 13) ai)))))) (aM (cn (.bl ZD))) sN) (ax (ee (tb (o2 jy (eh (iS (vr 5)) [ZB,ZB,ZA 13] (gT 2 (dE (gN 0) (dE (gN 1) j4))) (tb (o2 JH (oL eJ (vr 2) (vr 0)) (oL eJ (vr 2) (vr 1)))) (vr 0)) (dF ai))) (aM (cn (.bl ZD))) sN) (aM (cl gv (af (vr 1) (af (cl cw (af (vr 0) (af (cn (.int 130)) (af (o2 aY (vr 1) (cn (.int 0))) ai)))) (af (vr 5) ai))))))))))))))))
def m_law:List T->Rs T:=val 1 14 Es
variable{bn ap ac bi:ZE}{mg:V0}
section
variable (P:NH)(w:Ou)(base:ZH)
abbrev lY:ZF:=top 60
abbrev uE:List Str:=["_law_script","_law_k"]
theorem tO:aE uE ["_law_script","_law_k"] (ao lY):=fZ
theorem um(F:gc K mg "_law_cell" lY ["_law_script","_law_k"])(B:Bl mg):Cl P w K mg base 1 "_law_cell" 2 fY:=
 a9 F tO rfl λf c A o s H E hr x=>(ak (bB (aP (pA (jB hr)) (ae 0) (eO ah)) (ar (az (aw da aq (ae 1)))) aX) (ar (az (aw aQ (aK (ae 0) (aw lC (ae 1) (dk dG B.b_len PQ (ag (ae 0) ah)))) (aw da aq (aw oq (ae 1) (dk dG B.b_len PQ (ag (ae 0) ah))))))))
abbrev kZ:ZF:=top 61
abbrev rA:List Str:=["_law_script","_law_k","_law_many","_law_cell_here"]
theorem aaK:aE rA ["_law_script","_law_k","_law_many"] (ao kZ):=fZ
theorem rj(F:gc K mg "_law_drawn" kZ ["_law_script","_law_k","_law_many"])(ab0:Cl P w K mg base 1 "_law_cell" 2 fY):Cl P w K mg base 2 "_law_drawn" 3 aD:=
 a9 F aaK rfl λf c A o s H E hr x=>(by(apply ak;exact(aH (aw lC (aw aQ (aw da (aw lC (aL ab0 hr (ag (ae 0) (ag (ae 1) ah))) aq) aq) (aw da aq (aw aQ (ae 1) aq))) aq) (aj 3 aaK.nd));apply ak;exact(aH (aw lC (aw aQ (aw da (ae 3) (ae 3)) (aw oq (ae 3) aq)) aq) (aj 3 aaK.nd));exact ar (az (aw lC (aw oq (aw lC (aw aQ (aw da (ae 3) (ae 3)) (aw oq (ae 3) aq)) aq) aq) (ae 2)))))
abbrev gK:ZF:=top 64
abbrev jU:List Str:=["_law_clocks","_law_found","_law_number","_law_clock_here"]
theorem aam:aE jU ["_law_clocks"] (ao gK):=fZ
theorem pJ(F:gc K mg "_law_events" gK ["_law_clocks"])(B:Bl mg):Cl P w K mg base 1 "_law_events" 1 eC:=
 a9 F aam rfl λf c A o s H E hr x=>(by(apply ak;exact(aH (eO ah) (aj 1 aam.nd));apply ak;exact(bK rfl (fU B.b_enumerate (ag (ae 0) ah)) (cZ rfl (aJ (aj 2 aam.nd) (aJ (aj 3 aam.nd) ck))) (ar (aH (aw aQ (ae 1) (fI (N':=["_law_place","_law_number"]) (src:=[ZB,ZA 2]) rfl (LcScope.by (N:=jU) (names:=(ao gK).names) rfl rfl rfl (by decide+kernel)) (dq B.b_range (ag (dk dG B.b_len PQ (ag (aK (ae 3) aq) ah)) ah)) (λ_ _ _ _ _=>⟨(aj 0 (show NU (["_law_place","_law_number"]:List Str)by decide+kernel)),cy,(bD (ag (ae 1) (ag (ae 0) ah)))⟩))) (aj 1 aam.nd))));exact ar (az (ae 1))))
abbrev jK:ZF:=top 63
noncomputable abbrev pT:List Str:=["_law_script","_law_at","_law_clocks","_law_row","_law_place","_law_other","_law_least","_law_most"]
theorem aaf:aE pT ["_law_script","_law_at","_law_clocks"] (ao jK):=fZ
theorem pI(F:gc K mg "_law_letter" jK ["_law_script","_law_at","_law_clocks"])(aaL:Cl P w K mg base 1 "_law_events" 1 eC)(aa0:Cl P w K mg base 2 "_law_drawn" 3 aD)(B:Bl mg):Cl P w K mg base 3 "_law_letter" 3 cw:=
 a9 F aaf rfl λf c A o s H E hr x=>(by(apply ak;exact(aH (aL aaL hr (ag (ae 2) ah)) (aj 3 aaf.nd));apply ak;exact(bB (aP nM (dk dG B.b_len PQ (ag (ae 3) ah)) aq) (ar (az bH)) aX);apply ak;exact(aH (aL aa0 hr (ag (ae 0) (ag (ae 1) (ag (dk dG B.b_len PQ (ag (ae 3) ah)) ah)))) (aj 4 aaf.nd));apply ak;exact(aH (aw lC (aw aQ (aw aQ (ae 4) aq) (aL aa0 hr (ag (ae 0) (ag (aw aQ (ae 1) aq) (ag (aw dD (dk dG B.b_len PQ (ag (ae 3) ah)) aq) ah))))) (dk dG B.b_len PQ (ag (ae 3) ah))) (aj 5 aaf.nd));apply ak;exact(aH (aL aa0 hr (ag (ae 0) (ag (aw aQ (ae 1) aq) (ag aq ah)))) (aj 6 aaf.nd));apply ak;exact(aH (nE (aP (pA (jB hr)) (aL aa0 hr (ag (ae 0) (ag (aw aQ (ae 1) aq) (ag aq ah)))) aq) bH (aw aQ (ae 6) (aL aa0 hr (ag (ae 0) (ag (aw aQ (ae 1) aq) (ag aq ah)))))) (aj 7 aaf.nd));exact ar (az (bD (ag (aK (ae 3) (ae 4)) (ag (aK (ae 3) (ae 5)) (ag (ae 6) (ag (ae 7) ah))))))))
abbrev k4:ZF:=top 62
abbrev rB:List Str:=["_law_script","_law_at","_law_slow","_law_readings","_law_k"]
theorem aas:aE rB ["_law_script","_law_at"] (ao k4):=fZ
theorem rn(F:gc K mg "_law_clock" k4 ["_law_script","_law_at"])(aa0:Cl P w K mg base 2 "_law_drawn" 3 aD)(B:Bl mg):Cl P w K mg base 3 "_law_clock" 2 cP:=
 a9 F aas rfl λf c A o s H E hr x=>(by(apply ak;exact(aH (aw aQ aq (aL aa0 hr (ag (ae 0) (ag (ae 1) (ag aq ah))))) (aj 2 aas.nd));apply ak;exact(aH (bD (ag (aL aa0 hr (ag (ae 0) (ag (aw aQ (ae 1) aq) (ag aq ah)))) ah)) (aj 3 aas.nd));apply ak;exact(bK rfl (dq B.b_range (ag (aL aa0 hr (ag (ae 0) (ag (aw aQ (ae 1) aq) (ag aq ah)))) ah)) (aj 4 aas.nd) (ar (aH (aw aQ (ae 3) (bD (ag (aw aQ (aw aQ (aK (ae 3) (tj aq)) aq) (aL aa0 hr (ag (ae 0) (ag (aw aQ (aw aQ (ae 1) aq) (ae 4)) (ag aq ah))))) ah))) (aj 3 aas.nd))));exact ar (az (bD (ag (ae 2) (ag (aw aQ (ae 2) (aL aa0 hr (ag (ae 0) (ag (aw aQ (ae 1) aq) (ag aq ah))))) (ag (ae 3) ah)))))))
abbrev gJ:ZF:=top 65
noncomputable abbrev jT:List Str:=["_law_script","_law_at","_law_most","_law_clocks","_law_letters","_law_k","_law_letter_here"]
theorem aag:aE jT ["_law_script","_law_at","_law_most"] (ao gJ):=fZ
theorem pH(F:gc K mg "_law_record" gJ ["_law_script","_law_at","_law_most"])(aa0:Cl P w K mg base 2 "_law_drawn" 3 aD)(aak:Cl P w K mg base 3 "_law_letter" 3 cw)(aaS:Cl P w K mg base 3 "_law_clock" 2 cP)(B:Bl mg):Cl P w K mg base 4 "_law_record" 3 fS:=
 a9 F aag rfl λf c A o s H E hr x=>(by(apply ak;exact(aH (oH iU B.b_tuple cW (ag (fI (N':=["_law_k","_law_script","_law_at"]) (src:=[ZB,ZA 0,ZA 1]) rfl (LcScope.by (N:=jT) (names:=(ao gJ).names) rfl rfl rfl (by decide+kernel)) (dq B.b_range (ag (aw aQ aq (aL aa0 hr (ag (ae 0) (ag (ae 1) (ag aq ah))))) ah)) (λ_ _ _ _ _=>⟨(aj 0 (show NU (["_law_k","_law_script","_law_at"]:List Str)by decide+kernel)),cy,(aL aaS hr (ag (ae 1) (ag (aw aQ (aw aQ (ae 2) aq) (aw da aq (ae 0))) ah)))⟩)) ah)) (aj 3 aag.nd));apply ak;exact(aH (eO ah) (aj 4 aag.nd));apply ak;exact(bK rfl (dq B.b_range (ag (aL aa0 hr (ag (ae 0) (ag (aw aQ (ae 1) aq) (ag (aw aQ (ae 2) aq) ah)))) ah)) (aj 5 aag.nd) (ak (aH (aL aak hr (ag (ae 0) (ag (aw aQ (aw aQ (ae 1) aq) (aw da aq (ae 5))) (ag (ae 3) ah)))) (aj 6 aag.nd)) (ar (aH (aw aQ (ae 4) (aw da (eO (ag (ae 6) ah)) (oH JW B.b_int nU (ag (ff dO (ae 6) bH) ah)))) (aj 4 aag.nd)))));exact ar (az (bD (ag (ae 3) (ag (oH iU B.b_tuple cW (ag (ae 4) ah)) ah))))))
abbrev oV:ZF:=top 14
abbrev yJ:List Str:=["thing","least","most"]
theorem yg:aE yJ ["thing","least","most"] (ao oV):=fZ
theorem yA(F:gc K mg "is_long" oV ["thing","least","most"])(B:Bl mg):Cl P w K mg base 1 "is_long" 3 aS:=
 a9 F yg rfl λf c A o s H E hr x=>(ar (az (d8 (BP B.b_isinstance B.b_tuple cW (ae 0)) (d7 (vC zN zN (ae 1) (dk dG B.b_len PQ (ag (ae 0) ah)) (ae 2))))))
abbrev nH:ZF:=top 12
abbrev wM:List Str:=["thing"]
theorem vV:aE wM ["thing"] (ao nH):=fZ
theorem wz(F:gc K mg "is_whole" nH ["thing"])(B:Bl mg):Cl P w K mg base 1 "is_whole" 1 i7:=
 a9 F vV rfl λf c A o s H E hr x=>(ar (az (d8 (BP B.b_isinstance B.b_int nU (ae 0)) (d7 (xT (BP B.b_isinstance B.b_bool vh (ae 0)))))))
abbrev lS:ZF:=top 13
abbrev uw:List Str:=["thing","least","most"]
theorem tJ:aE uw ["thing","least","most"] (ao lS):=fZ
theorem ue(F:gc K mg "is_within" lS ["thing","least","most"])(aba:Cl P w K mg base 1 "is_whole" 1 i7):Cl P w K mg base 2 "is_within" 3 bj:=
 a9 F tJ rfl λf c A o s H E hr x=>(ar (az (d8 (aL aba hr (ag (ae 0) ah)) (d7 (vC zN zN (ae 1) (ae 0) (ae 2))))))
abbrev oU:ZF:=top 17
abbrev yI:List Str:=["slow","fast"]
theorem yf:aE yI ["slow","fast"] (ao oU):=fZ
theorem yz(F:gc K mg "is_pace" oU ["slow","fast"])(aa4:Cl P w K mg base 2 "is_within" 3 bj)(C:Cs mg):Cl P w K mg base 3 "is_pace" 2 gB:=
 a9 F yf rfl λf c A o s H E hr x=>(ar (az (d8 (aL aa4 hr (ag (ae 0) (ag aq (ag (vB C.SLOWEST) ah)))) (d7 (aL aa4 hr (ag (ae 1) (ag (ae 0) (ag (vB C.SLOWEST) ah))))))))
abbrev oQ:ZF:=top 15
abbrev wL:List Str:=["numbers"]
theorem Cb:aE wL ["numbers"] (ao oQ):=fZ
theorem CU(F:gc K mg "rises" oQ ["numbers"])(B:Bl mg):Cl P w K mg base 1 "rises" 1 kD:=
 a9 F Cb rfl λf c A o s H E hr x=>(ar (az (dk (vd rfl) B.b_all boot_all (ag (fI (N':=["k","numbers"]) (src:=[ZB,ZA 0]) rfl (LcScope.by (N:=wL) (names:=(ao oQ).names) rfl rfl rfl (by decide+kernel)) (dq B.b_range (ag (aw dD (dk dG B.b_len PQ (ag (ae 0) ah)) aq) ah)) (λ_ _ _ _ _=>⟨(aj 0 (show NU (["k","numbers"]:List Str)by decide+kernel)),cy,(ff nM (aK (ae 1) (ae 0)) (aK (ae 1) (aw aQ (ae 0) aq)))⟩)) ah))))
abbrev gf:ZF:=top 16
abbrev jw:List Str:=["thing"]
theorem nW:aE jw ["thing"] (ao gf):=fZ
theorem nZ(F:gc K mg "are_readings" gf ["thing"])(aa2:Cl P w K mg base 1 "is_long" 3 aS)(abi:Cl P w K mg base 1 "rises" 1 kD)(aa4:Cl P w K mg base 2 "is_within" 3 bj)(B:Bl mg)(C:Cs mg):Cl P w K mg base 3 "are_readings" 1 bZ:=
 a9 F nW rfl λf c A o s H E hr x=>(ak (bB (cY (bV (aL aa2 hr (ag (ae 0) (ag aq (ag (vB C.MOST_READINGS) ah)))))) (ar (az fg)) aX) (ar (az (d8 (dk (vd rfl) B.b_all boot_all (ag (fI (N':=["part"]) (src:=[ZB]) rfl (LcScope.by (N:=jw) (names:=(ao gf).names) rfl rfl rfl (by decide+kernel)) (bu (ae 0)) (λ_ _ _ _ _=>⟨(aj 0 (show NU (["part"]:List Str)by decide+kernel)),cy,(aL aa4 hr (ag (ae 0) (ag aq (ag (vB C.LAST_READING) ah))))⟩)) ah)) (d7 (aL abi hr (ag (ae 0) ah)))))))
abbrev nK:ZF:=top 18
abbrev wQ:List Str:=["thing"]
theorem vY:aE wQ ["thing"] (ao nK):=fZ
theorem wC(F:gc K mg "is_clock" nK ["thing"])(aa2:Cl P w K mg base 1 "is_long" 3 aS)(abf:Cl P w K mg base 3 "is_pace" 2 gB)(aaG:Cl P w K mg base 3 "are_readings" 1 bZ):Cl P w K mg base 4 "is_clock" 1 dQ:=
 a9 F vY rfl λf c A o s H E hr x=>(ar (az (d8 (aL aa2 hr (ag (ae 0) (ag aq (ag aq ah)))) (d8 (aL abf hr (ag (aK (ae 0) aq) (ag (aK (ae 0) aq) ah))) (d7 (aL aaG hr (ag (aK (ae 0) aq) ah)))))))
abbrev ij:ZF:=top 19
abbrev k8:List Str:=["thing"]
theorem qS:aE k8 ["thing"] (ao ij):=fZ
theorem rg(F:gc K mg "are_clocks" ij ["thing"])(aa2:Cl P w K mg base 1 "is_long" 3 aS)(abb:Cl P w K mg base 4 "is_clock" 1 dQ)(B:Bl mg)(C:Cs mg):Cl P w K mg base 5 "are_clocks" 1 dY:=
 a9 F qS rfl λf c A o s H E hr x=>(ar (az (d8 (aL aa2 hr (ag (ae 0) (ag aq (ag (vB C.MOST_CLOCKS) ah)))) (d7 (dk (vd rfl) B.b_all boot_all (ag (fI (N':=["part"]) (src:=[ZB]) rfl (LcScope.by (N:=k8) (names:=(ao ij).names) rfl rfl rfl (by decide+kernel)) (bu (ae 0)) (λ_ _ _ _ _=>⟨(aj 0 (show NU (["part"]:List Str)by decide+kernel)),cy,(aL abb hr (ag (ae 0) ah))⟩)) ah))))))
abbrev nI:ZF:=top 20
abbrev wN:List Str:=["clocks","thing"]
theorem vW:aE wN ["clocks","thing"] (ao nI):=fZ
theorem wA(F:gc K mg "is_event" nI ["clocks","thing"])(aa4:Cl P w K mg base 2 "is_within" 3 bj)(aa2:Cl P w K mg base 1 "is_long" 3 aS)(B:Bl mg):Cl P w K mg base 3 "is_event" 2 cU:=
 a9 F vW rfl λf c A o s H E hr x=>(ak (bB (gD (iV (cY (bV (aL aa2 hr (ag (ae 1) (ag aq (ag aq ah)))))) (gp (cY (bV (aL aa4 hr (ag (aK (ae 1) aq) (ag aq (ag (aw dD (dk dG B.b_len PQ (ag (ae 0) ah)) aq) ah))))))))) (ar (az fg)) aX) (ar (az (aL aa4 hr (ag (aK (ae 1) aq) (ag aq (ag (aw dD (dk dG B.b_len PQ (ag (aK (aK (ae 0) (aK (ae 1) aq)) aq) ah)) aq) ah)))))))
abbrev nJ:ZF:=top 21
abbrev wO:List Str:=["least","most"]
theorem vX:aE wO ["least","most"] (ao nJ):=fZ
theorem wB(F:gc K mg "is_delay" nJ ["least","most"])(aa4:Cl P w K mg base 2 "is_within" 3 bj)(C:Cs mg):Cl P w K mg base 3 "is_delay" 2 eQ:=
 a9 F vX rfl λf c A o s H E hr x=>(ar (az (d8 (aL aa4 hr (ag (ae 0) (ag aq (ag (vB C.LONGEST) ah)))) (d7 (BO (ff jR (ae 1) bH) (d7 (aL aa4 hr (ag (ae 1) (ag (ae 0) (ag (vB C.LONGEST) ah))))))))))
abbrev lU:ZF:=top 22
abbrev uA:List Str:=["clocks","thing"]
theorem tL:aE uA ["clocks","thing"] (ao lU):=fZ
theorem ug(F:gc K mg "is_letter" lU ["clocks","thing"])(aaq:Cl P w K mg base 3 "is_event" 2 cU)(aa2:Cl P w K mg base 1 "is_long" 3 aS)(abc:Cl P w K mg base 3 "is_delay" 2 eQ):Cl P w K mg base 4 "is_letter" 2 cv:=
 a9 F tL rfl λf c A o s H E hr x=>(ak (bB (gD (iV (cY (bV (aL aa2 hr (ag (ae 1) (ag aq (ag aq ah)))))) (gp (cY (bV (aL abc hr (ag (aK (ae 1) aq) (ag (aK (ae 1) aq) ah)))))))) (ar (az fg)) aX) (ar (az (d8 (aL aaq hr (ag (ae 0) (ag (aK (ae 1) aq) ah))) (d8 (aL aaq hr (ag (ae 0) (ag (aK (ae 1) aq) ah))) (d7 (ff (jQ (jB hr)) (aK (ae 1) aq) (aK (ae 1) aq))))))))
abbrev gI:ZF:=top 23
abbrev jS:List Str:=["clocks","thing"]
theorem o6:aE jS ["clocks","thing"] (ao gI):=fZ
theorem pG(F:gc K mg "are_letters" gI ["clocks","thing"])(aa2:Cl P w K mg base 1 "is_long" 3 aS)(ab5:Cl P w K mg base 4 "is_letter" 2 cv)(B:Bl mg)(C:Cs mg):Cl P w K mg base 5 "are_letters" 2 dC:=
 a9 F o6 rfl λf c A o s H E hr x=>(ar (az (d8 (aL aa2 hr (ag (ae 1) (ag aq (ag (vB C.MOST_LETTERS) ah)))) (d7 (dk (vd rfl) B.b_all boot_all (ag (fI (N':=["part","clocks"]) (src:=[ZB,ZA 0]) rfl (LcScope.by (N:=jS) (names:=(ao gI).names) rfl rfl rfl (by decide+kernel)) (bu (ae 1)) (λ_ _ _ _ _=>⟨(aj 0 (show NU (["part","clocks"]:List Str)by decide+kernel)),cy,(aL ab5 hr (ag (ae 1) (ag (ae 0) ah)))⟩)) ah))))))
abbrev lT:ZF:=top 24
abbrev uz:List Str:=["thing"]
theorem tK:aE uz ["thing"] (ao lT):=fZ
theorem uf(F:gc K mg "is_record" lT ["thing"])(aa2:Cl P w K mg base 1 "is_long" 3 aS)(aaT:Cl P w K mg base 5 "are_clocks" 1 dY)(aaM:Cl P w K mg base 5 "are_letters" 2 dC):Cl P w K mg base 6 "is_record" 1 dP:=
 a9 F tK rfl λf c A o s H E hr x=>(ar (az (d8 (aL aa2 hr (ag (ae 0) (ag aq (ag aq ah)))) (d8 (aL aaT hr (ag (aK (ae 0) aq) ah)) (d7 (aL aaM hr (ag (aK (ae 0) aq) (ag (aK (ae 0) aq) ah))))))))
abbrev jG:ZF:=top 25
abbrev pP:List Str:=["thing"]
theorem o4:aE pP ["thing"] (ao jG):=fZ
theorem pC(F:gc K mg "need_record" jG ["thing"])(ab6:Cl P w K mg base 6 "is_record" 1 dP)(S:Xs K mg ac ap bi bn):Cl P w K mg base 7 "need_record" 1 aW:=
 a9 F o4 rfl λf c A o s H E hr x=>(ar (bB (cY (bV (aL ab6 hr (ag (ae 0) ah)))) (ar (mL S.o_NoRecord S.m_NoRecord)) aX))
abbrev mP:ZF:=top 27
abbrev rZ:List Str:=["record","told","number","clock"]
theorem aaX:aE rZ ["record"] (ao mP):=fZ
theorem A0(F:gc K mg "events" mP ["record"])(aa1:Cl P w K mg base 7 "need_record" 1 aW)(B:Bl mg):Cl P w K mg base 8 "events" 1 cq:=
 a9 F aaX rfl λf c A o s H E hr x=>(by(apply ak;exact(dB (aL aa1 hr (ag (ae 0) ah)));apply ak;exact(gE 1 aaX.nd ah);apply ak;exact(bK rfl (fU B.b_enumerate (ag (aK (ae 0) aq) ah)) (cZ rfl (aJ (aj 2 aaX.nd) (aJ (aj 3 aaX.nd) ck))) (ar (sZ 1 (fI (N':=["k","number"]) (src:=[ZB,ZA 2]) rfl (LcScope.by (N:=rZ) (names:=(ao mP).names) rfl rfl rfl (by decide+kernel)) (dq B.b_range (ag (dk dG B.b_len PQ (ag (aK (ae 3) aq) ah)) ah)) (λ_ _ _ _ _=>⟨(aj 0 (show NU (["k","number"]:List Str)by decide+kernel)),cy,(bD (ag (ae 1) (ag (ae 0) ah)))⟩)))));exact ar (g9 1 (az (ae 1)))))
abbrev jL:ZF:=top 66
noncomputable abbrev pU:List Str:=["_law_record_here","_law_found","_law_number","_law_slow","_law_fast","_law_readings","_law_k","_law_steps","_law_one","_law_other","_law_least","_law_most"]
theorem aa3:aE pU ["_law_record_here"] (ao jL):=fZ
theorem pK(F:gc K mg "_law_bounds" jL ["_law_record_here"])(B:Bl mg):Cl P w K mg base 1 "_law_bounds" 1 eE:=
 a9 F aa3 rfl λf c A o s H E hr x=>(by(apply ak;exact(gE 1 aa3.nd ah);apply ak;exact(bK rfl (fU B.b_enumerate (ag (aK (ae 0) aq) ah)) (cZ rfl (aJ (aj 2 aa3.nd) (aJ (cZ rfl (aJ (aj 3 aa3.nd) (aJ (aj 4 aa3.nd) (aJ (aj 5 aa3.nd) ck)))) ck))) (ar (bK rfl (oG B.b_range (ag aq (ag (dk dG B.b_len PQ (ag (ae 5) ah)) ah))) (aj 6 aa3.nd) (by(apply ak;exact(aH (aw dD (aK (ae 5) (ae 6)) (aK (ae 5) (aw dD (ae 6) aq))) (aj 7 aa3.nd));apply ak;exact(gq 1 (bD (ag (bD (ag (ae 2) (ag (aw dD (ae 6) aq) ah))) (ag (bD (ag (ae 2) (ag (ae 6) ah))) (ag (aw da (ae 4) (ae 7)) ah)))));exact ar (gq 1 (bD (ag (bD (ag (ae 2) (ag (ae 6) ah))) (ag (bD (ag (ae 2) (ag (aw dD (ae 6) aq) ah))) (ag (aw dD aq (aw da (ae 3) (ae 7))) ah))))))))));apply ak;exact(bK rfl (bu (aK (ae 0) aq)) (cZ rfl (aJ (aj 8 aa3.nd) (aJ (aj 9 aa3.nd) (aJ (aj 10 aa3.nd) (aJ (aj 11 aa3.nd) ck))))) (ak (gq 1 (bD (ag (ae 9) (ag (ae 8) (ag (aw dD aq (ae 10)) ah))))) (ar (bB (aP dO (ae 11) bH) (ar (gq 1 (bD (ag (ae 8) (ag (ae 9) (ag (ae 11) ah)))))) aX))));exact ar (g9 1 (az (ae 1)))))
abbrev fQ:ZF:=top 67
abbrev iq:List Str:=["_law_places","_law_row","_law_far","_law_one","_law_other","_law_most","_law_middle","_law_whole"]
theorem aa8:aE iq ["_law_places","_law_row"] (ao fQ):=fZ
theorem rh(F:gc K mg "_law_table" fQ ["_law_places","_law_row"])(B:Bl mg):Cl P w K mg base 1 "_law_table" 2 fx:=
 a9 F aa8 rfl λf c A o s H E hr x=>(by(apply ak;exact(AI 2 0 (N':=["_law_one","_law_places"]) (src:=[ZB]) (LY hr) rfl B.b_dict aa8.nd (LcScope.by (N:=iq) (names:=(ao fQ).names) rfl rfl rfl (by decide+kernel)) (bu (ae 0)) (by decide) (λ_ _ _ _ _=>⟨(aj 0 (show NU (["_law_one","_law_places"]:List Str)by decide+kernel)),pv 0,IL (LY hr) rfl B.b_dict rfl (LcScope.byN (N:=["_law_one","_law_places"]) (N':=["_law_other"]) rfl rfl (by decide+kernel) rfl) (bu (ae 1)).h (λ_ _ _ _ _=>⟨(aj 0 (show NU (["_law_other"]:List Str)by decide+kernel)).h,pv 0,rfl⟩) (λ_=>rfl)⟩));apply ak;exact(bK rfl (bu (ae 0)) (aj 3 aa8.nd) (ar (oF 2 (g8 hr) (ae 3) (ae 3) aq)));apply ak;exact(bK rfl (bu (ae 1)) (cZ rfl (aJ (aj 3 aa8.nd) (aJ (aj 4 aa8.nd) (aJ (aj 5 aa8.nd) ck)))) (ar (bB (gD (iV (aP jR (jC 2 (bo (g8 hr) (bo (g8 hr) (ae 2) (ae 3)) (ae 4))) bH) (gp (aP nM (ae 5) (jC 2 (bo (g8 hr) (bo (g8 hr) (ae 2) (ae 3)) (ae 4))))))) (ar (oF 2 (g8 hr) (ae 3) (ae 4) (ae 5))) aX)));apply ak;exact(bK rfl (bu (ae 0)) (aj 6 aa8.nd) (ar (bK rfl (bu (ae 0)) (aj 3 aa8.nd) (ar (bK rfl (bu (ae 0)) (aj 4 aa8.nd) (ar (bB (gD (kj (aP dO (jC 2 (bo (g8 hr) (bo (g8 hr) (ae 2) (ae 3)) (ae 6))) bH) (iB (aP dO (jC 2 (bo (g8 hr) (bo (g8 hr) (ae 2) (ae 6)) (ae 4))) bH)))) (ak (aH (aw aQ (jC 2 (bo (g8 hr) (bo (g8 hr) (ae 2) (ae 3)) (ae 6))) (jC 2 (bo (g8 hr) (bo (g8 hr) (ae 2) (ae 6)) (ae 4)))) (aj 7 aa8.nd)) (ar (bB (gD (iV (aP jR (jC 2 (bo (g8 hr) (bo (g8 hr) (ae 2) (ae 3)) (ae 4))) bH) (gp (aP nM (ae 7) (jC 2 (bo (g8 hr) (bo (g8 hr) (ae 2) (ae 3)) (ae 4))))))) (ar (oF 2 (g8 hr) (ae 3) (ae 4) (ae 7))) aX))) aX)))))));exact ar (g9 2 (az (nE (aP (pA (jB hr)) (fI (N':=["_law_one","_law_far"]) (src:=[ZB,ZA 2]) rfl (LcScope.by (N:=iq) (names:=(ao fQ).names) rfl rfl rfl (by decide+kernel)) (bu (ae 0)) (λ_ _ _ _ _=>⟨(aj 0 (show NU (["_law_one","_law_far"]:List Str)by decide+kernel)),(gF (aP nM (bo (g8 hr) (bo (g8 hr) (ae 1) (ae 0)) (ae 0)) aq)),(ae 0)⟩)) (eO ah)) (ae 2) bH)))))
abbrev lV:ZF:=top 34
abbrev uB:List Str:=["best","bound","ahead","known"]
theorem abg:aE uB ["best","bound","ahead"] (ao lV):=fZ
theorem uh(F:gc K mg "is_better" lV ["best","bound","ahead"]):Cl P w K mg base 1 "is_better" 3 dR:=
 a9 F abg rfl λf c A o s H E hr x=>(ak (aH (zq (g8 hr) (ae 0) (aK (ae 1) aq)) (aj 3 abg.nd)) (ar (az (BO (ff jR (ae 3) bH) (d7 (ff nM (aw aQ (aK (ae 2) aq) (aK (ae 1) aq)) (aK (ae 3) aq)))))))
abbrev kl:ZF:=top 33
noncomputable abbrev m4:List Str:=["limits","starts","best","moved","number","bound","ahead","walk","passed"]
theorem aae:aE m4 ["limits","starts"] (ao kl):=fZ
theorem AZ(F:gc K mg "settle" kl ["limits","starts"])(ab7:Cl P w K mg base 1 "is_better" 3 dR)(B:Bl mg):Cl P w K mg base 2 "settle" 2 fX:=
 a9 F aae rfl λf c A o s H E hr x=>(by(apply ak;exact(BI 2 (LY hr) rfl B.b_dict aae.nd (fI (N':=["event"]) (src:=[ZB]) rfl (LcScope.by (N:=m4) (names:=(ao kl).names) rfl rfl rfl (by decide+kernel)) (bu (ae 1)) (λ_ _ _ _ _=>⟨(aj 0 (show NU (["event"]:List Str)by decide+kernel)),cy,(bD (ag (ae 0) (ag (bD (ag aq (ag (eO ah) ah))) ah)))⟩)));apply ak;exact(aH fg (aj 3 aae.nd));apply ak;exact(AH FU (bV (ae 3)) (ak (aH fg (aj 3 aae.nd)) (ar (bK rfl (fU B.b_enumerate (ag (ae 0) ah)) (cZ rfl (aJ (aj 4 aae.nd) (aJ (aj 5 aae.nd) ck))) (by(apply ak;exact(aH (jC 2 (zq (g8 hr) (ae 2) (aK (ae 5) aq))) (aj 6 aae.nd));apply ak;exact(bB (gD (iV (aP jR (ae 6) bH) (gp (cY (Hz 2 (bV (aL ab7 hr (ag (ae 2) (ag (ae 5) (ag (ae 6) ah)))))))))) (ar HA) aX);apply ak;exact(aH (aw aQ (aK (ae 6) aq) (eO (ag (ae 4) ah))) (aj 7 aae.nd));apply ak;exact(BJ 8 (N':=["step","limits"]) (src:=[ZB,ZA 0]) rfl (LcScope.by (N:=m4) (names:=(ao kl).names) rfl rfl rfl (by decide+kernel)) (bu (ae 7)) (λ_ _ _ _ _=>⟨(aj 0 (show NU (["step","limits"]:List Str)by decide+kernel)),cy,(aK (aK (ae 1) (ae 0)) aq)⟩) aae.nd);apply ak;exact(bB (aP (K1 (yV hr)) (aK (ae 5) aq) (ae 8)) (ar (az (bD (ag bH (ag (BN (ae 7) (BK (mM (yV hr) (ae 8) (aK (ae 5) aq))) BL) ah))))) aX);apply ak;exact(zl 2 (g8 hr) (aK (ae 5) aq) (bD (ag (aw aQ (aK (ae 6) aq) (aK (ae 5) aq)) (ag (ae 7) ah))));exact ar (aH fg (aj 3 aae.nd))))))));exact ar (g9 2 (az (bD (ag (ae 2) (ag bH ah)))))))
abbrev fo:ZF:=top 36
abbrev hG:List Str:=["record","limits","places","best"]
theorem aax:aE hG ["record","limits"] (ao fo):=fZ
theorem l9(F:gc K mg "greatest_world" fo ["record","limits"])(aa6:Cl P w K mg base 8 "events" 1 cq)(aaH:Cl P w K mg base 2 "settle" 2 fX)(B:Bl mg):Cl P w K mg base 9 "greatest_world" 2 bx:=
 a9 F aax rfl λf c A o s H E hr x=>(by(apply ak;exact(aH (aL aa6 hr (ag (ae 0) ah)) (aj 2 aax.nd));apply ak;exact(aH (aK (aL aaH hr (ag (ae 1) (ag (ae 2) ah))) aq) (aj 3 aax.nd));apply ak;exact(bB (aP jR (ae 3) bH) (ar (az bH)) aX);exact ar (az (oH iU B.b_tuple cW (ag (fI (N':=["event","best"]) (src:=[ZB,ZA 3]) rfl (LcScope.by (N:=hG) (names:=(ao fo).names) rfl rfl rfl (by decide+kernel)) (bu (ae 2)) (λ_ _ _ _ _=>⟨(aj 0 (show NU (["event","best"]:List Str)by decide+kernel)),cy,(aK (bo (g8 hr) (ae 1) (ae 0)) aq)⟩)) ah)))))
abbrev gH:ZF:=top 29
abbrev lG:List Str:=["number","clock","readings","told","k","first","second","steps"]
theorem aa7:aE lG ["number","clock"] (ao gH):=fZ
theorem lD(F:gc K mg "bounds_of_clock" gH ["number","clock"])(B:Bl mg):Cl P w K mg base 1 "bounds_of_clock" 2 cO:=
 a9 F aa7 rfl λf c A o s H E hr x=>(by(apply ak;exact(aH (aK (ae 1) aq) (aj 2 aa7.nd));apply ak;exact(gE 3 aa7.nd ah);apply ak;exact(bK rfl (dq B.b_range (ag (aw dD (dk dG B.b_len PQ (ag (ae 2) ah)) aq) ah)) (aj 4 aa7.nd) (by(apply ak;exact(aH (bD (ag (ae 0) (ag (ae 4) ah))) (aj 5 aa7.nd));apply ak;exact(aH (bD (ag (ae 0) (ag (aw aQ (ae 4) aq) ah))) (aj 6 aa7.nd));apply ak;exact(aH (aw dD (aK (ae 2) (aw aQ (ae 4) aq)) (aK (ae 2) (ae 4))) (aj 7 aa7.nd));apply ak;exact(gq 3 (bD (ag (ae 5) (ag (ae 6) (ag (aw da (ae 7) (aK (ae 1) aq)) ah)))));exact ar (gq 3 (bD (ag (ae 6) (ag (ae 5) (ag (aw da (tj (ae 7)) (aK (ae 1) aq)) ah))))))));exact ar (g9 3 (az (ae 3)))))
abbrev gn:ZF:=top 30
abbrev kN:List Str:=["letter","told"]
theorem aaF:aE kN ["letter"] (ao gn):=fZ
theorem kL(F:gc K mg "bounds_of_letter" gn ["letter"]):Cl P w K mg base 1 "bounds_of_letter" 1 cD:=
 a9 F aaF rfl λf c A o s H E hr x=>(by(apply ak;exact(gE 1 aaF.nd (ag (bD (ag (aK (ae 0) aq) (ag (aK (ae 0) aq) (ag (tj (aK (ae 0) aq)) ah)))) ah));apply ak;exact(bB (aP dO (aK (ae 0) aq) bH) (ar (gq 1 (bD (ag (aK (ae 0) aq) (ag (aK (ae 0) aq) (ag (aK (ae 0) aq) ah)))))) aX);exact ar (g9 1 (az (ae 1)))))
abbrev rO:ZF:=top 31
abbrev A3:List Str:=["record","told","number","clock","letter"]
theorem aaJ:aE A3 ["record"] (ao rO):=fZ
theorem A1(F:gc K mg "bounds" rO ["record"])(aa1:Cl P w K mg base 7 "need_record" 1 aW)(aay:Cl P w K mg base 1 "bounds_of_clock" 2 cO)(aau:Cl P w K mg base 1 "bounds_of_letter" 1 cD)(B:Bl mg):Cl P w K mg base 8 "bounds" 1 fw:=
 a9 F aaJ rfl λf c A o s H E hr x=>(by(apply ak;exact(dB (aL aa1 hr (ag (ae 0) ah)));apply ak;exact(gE 1 aaJ.nd ah);apply ak;exact(bK rfl (fU B.b_enumerate (ag (aK (ae 0) aq) ah)) (cZ rfl (aJ (aj 2 aaJ.nd) (aJ (aj 3 aaJ.nd) ck))) (ar (sZ 1 (aL aay hr (ag (ae 2) (ag (ae 3) ah))))));apply ak;exact(bK rfl (bu (aK (ae 0) aq)) (aj 4 aaJ.nd) (ar (sZ 1 (aL aau hr (ag (ae 4) ah)))));exact ar (g9 1 (az (ae 1)))))
abbrev vO:ZF:=top 37
abbrev CZ:List Str:=["record"]
theorem Ca:aE CZ ["record"] (ao vO):=fZ
theorem CS(F:gc K mg "world" vO ["record"])(aab:Cl P w K mg base 9 "greatest_world" 2 bx)(aar:Cl P w K mg base 8 "bounds" 1 fw):Cl P w K mg base 10 "world" 1 dH:=
 a9 F Ca rfl λf c A o s H E hr x=>(ar (az (aL aab hr (ag (ae 0) (ag (aL aar hr (ag (ae 0) ah)) ah)))))
abbrev lX:ZF:=top 38
abbrev uD:List Str:=["record"]
theorem tN:aE uD ["record"] (ao lX):=fZ
theorem uj(F:gc K mg "has_world" lX ["record"])(aaw:Cl P w K mg base 10 "world" 1 dH):Cl P w K mg base 11 "has_world" 1 dm:=
 a9 F tN rfl λf c A o s H E hr x=>(ar (az (ff dO (aL aaw hr (ag (ae 0) ah)) bH)))
abbrev kX:ZF:=top 39
abbrev rq:List Str:=["record"]
theorem qQ:aE rq ["record"] (ao kX):=fZ
theorem qZ(F:gc K mg "need_world" kX ["record"])(aac:Cl P w K mg base 11 "has_world" 1 dm)(S:Xs K mg ac ap bi bn):Cl P w K mg base 12 "need_world" 1 dX:=
 a9 F qQ rfl λf c A o s H E hr x=>(ar (bB (cY (bV (aL aac hr (ag (ae 0) ah)))) (ar (mL S.o_NoWorld S.m_NoWorld)) aX))
abbrev kU:ZF:=top 42
abbrev ro:List Str:=["record","one"]
theorem qO:aE ro ["record","one"] (ao kU):=fZ
theorem qW(F:gc K mg "walks_from" kU ["record","one"])(aaH:Cl P w K mg base 2 "settle" 2 fX)(aar:Cl P w K mg base 8 "bounds" 1 fw):Cl P w K mg base 9 "walks_from" 2 du:=
 a9 F qO rfl λf c A o s H E hr x=>(ar (az (aK (aL aaH hr (ag (aL aar hr (ag (ae 0) ah)) (ag (eO (ag (ae 1) ah)) ah))) aq)))
abbrev oR:ZF:=top 43
abbrev yH:List Str:=["walks","other"]
theorem ye:aE yH ["walks","other"] (ao oR):=fZ
theorem yy(F:gc K mg "most_of" oR ["walks","other"]):Cl P w K mg base 1 "most_of" 2 eX:=
 a9 F ye rfl λf c A o s H E hr x=>(ar (az (nE (aP (IV (g8 hr)) (ae 1) (ae 0)) (aK (bo (g8 hr) (ae 0) (ae 1)) aq) bH)))
abbrev jJ:ZF:=top 46
noncomputable abbrev nN:List Str:=["record","places","told","one","walks"]
theorem aaz:aE nN ["record"] (ao jJ):=fZ
theorem wH(F:gc K mg "all_most" jJ ["record"])(aan:Cl P w K mg base 12 "need_world" 1 dX)(aa6:Cl P w K mg base 8 "events" 1 cq)(aao:Cl P w K mg base 9 "walks_from" 2 du)(aaB:Cl P w K mg base 1 "most_of" 2 eX)(B:Bl mg):Cl P w K mg base 13 "all_most" 1 i8:=
 a9 F aaz rfl λf c A o s H E hr x=>(by(apply ak;exact(dB (aL aan hr (ag (ae 0) ah)));apply ak;exact(aH (aL aa6 hr (ag (ae 0) ah)) (aj 1 aaz.nd));apply ak;exact(gE 2 aaz.nd ah);apply ak;exact(bK rfl (bu (ae 1)) (aj 3 aaz.nd) (ak (aH (aL aao hr (ag (ae 0) (ag (ae 3) ah))) (aj 4 aaz.nd)) (ar (gq 2 (oH iU B.b_tuple cW (ag (fI (N':=["other","walks"]) (src:=[ZB,ZA 4]) rfl (LcScope.by (N:=nN) (names:=(ao jJ).names) rfl rfl rfl (by decide+kernel)) (bu (ae 1)) (λ_ _ _ _ _=>⟨(aj 0 (show NU (["other","walks"]:List Str)by decide+kernel)),cy,(aL aaB hr (ag (ae 1) (ag (ae 0) ah)))⟩)) ah))))));exact ar (az (jC 2 (oH iU B.b_tuple cW (ag (ae 2) ah))))))
abbrev kW:ZF:=top 52
noncomputable abbrev rp:List Str:=["record","most","places","told","k","one","j","other"]
theorem aaa:aE rp ["record"] (ao kW):=fZ
theorem qY(F:gc K mg "sure_pairs" kW ["record"])(abd:Cl P w K mg base 13 "all_most" 1 i8)(aa6:Cl P w K mg base 8 "events" 1 cq)(B:Bl mg):Cl P w K mg base 14 "sure_pairs" 1 dW:=
 a9 F aaa rfl λf c A o s H E hr x=>(by(apply ak;exact(aH (aL abd hr (ag (ae 0) ah)) (aj 1 aaa.nd));apply ak;exact(aH (aL aa6 hr (ag (ae 0) ah)) (aj 2 aaa.nd));apply ak;exact(gE 3 aaa.nd ah);apply ak;exact(bK rfl (fU B.b_enumerate (ag (ae 2) ah)) (cZ rfl (aJ (aj 4 aaa.nd) (aJ (aj 5 aaa.nd) ck))) (ar (bK rfl (fU B.b_enumerate (ag (ae 2) ah)) (cZ rfl (aJ (aj 6 aaa.nd) (aJ (aj 7 aaa.nd) ck))) (ar (bB (gD (kj (aP dO (aK (aK (ae 1) (ae 6)) (ae 4)) bH) (iB (aP nM (aK (aK (ae 1) (ae 6)) (ae 4)) aq)))) (ar (gq 3 (bD (ag (ae 5) (ag (ae 7) ah))))) aX)))));exact ar (g9 3 (az (ae 3)))))
abbrev ie:ZF:=top 53
abbrev k6:List Str:=["record","times"]
theorem qP:aE k6 ["record","times"] (ao ie):=fZ
theorem qX(F:gc K mg "told_order" ie ["record","times"])(aa6:Cl P w K mg base 8 "events" 1 cq)(B:Bl mg):Cl P w K mg base 9 "told_order" 2 dv:=
 a9 F qP rfl λf c A o s H E hr x=>(ar (az (fI (N':=["pair"]) (src:=[ZB]) rfl (LcScope.by (N:=k6) (names:=(ao ie).names) rfl rfl rfl (by decide+kernel)) (bu (zp (JG hr) rfl B.b_sorted B.b_zip (ag (ae 1) (ag (aL aa6 hr (ag (ae 0) ah)) ah)))) (λ_ _ _ _ _=>⟨(aj 0 (show NU (["pair"]:List Str)by decide+kernel)),cy,(aK (ae 0) aq)⟩))))
abbrev nL:ZF:=top 54
abbrev wR:List Str:=["record","times"]
theorem abh:aE wR ["record"] (ao nL):=fZ
theorem wG(F:gc K mg "an_order" nL ["record"])(aaw:Cl P w K mg base 10 "world" 1 dH)(aai:Cl P w K mg base 9 "told_order" 2 dv):Cl P w K mg base 11 "an_order" 1 fN:=
 a9 F abh rfl λf c A o s H E hr x=>(ak (aH (aL aaw hr (ag (ae 0) ah)) (aj 1 abh.nd)) (ar (az (nE (aP jR (ae 1) bH) bH (aL aai hr (ag (ae 0) (ag (ae 1) ah)))))))
abbrev lW:ZF:=top 57
abbrev uC:List Str:=["thing"]
theorem tM:aE uC ["thing"] (ao lW):=fZ
theorem ui(F:gc K mg "if_record" lW ["thing"])(aa1:Cl P w K mg base 7 "need_record" 1 aW):Cl P w K mg base 8 "if_record" 1 eY:=
 a9 F tM rfl λf c A o s H E hr x=>(ak (dB (aL aa1 hr (ag (ae 0) ah))) (ar (az (ae 0))))
abbrev jF:ZF:=top 58
abbrev pO:List Str:=["record","letter"]
theorem oZ:aE pO ["record","letter"] (ao jF):=fZ
theorem pB(F:gc K mg "with_letter" jF ["record","letter"])(aa1:Cl P w K mg base 7 "need_record" 1 aW)(ab8:Cl P w K mg base 8 "if_record" 1 eY):Cl P w K mg base 9 "with_letter" 2 cT:=
 a9 F oZ rfl λf c A o s H E hr x=>(ak (dB (aL aa1 hr (ag (ae 0) ah))) (ar (az (aL ab8 hr (ag (bD (ag (aK (ae 0) aq) (ag (aw aQ (aK (ae 0) aq) (bD (ag (ae 1) ah))) ah))) ah)))))
abbrev ik:ZF:=top 71
abbrev k9:List Str:=["_law_record_here","_law_letter_here","_law_pairs","_law_more"]
theorem abe:aE k9 ["_law_record_here","_law_letter_here","_law_pairs"] (ao ik):=fZ
theorem ri(F:gc K mg "_law_keeps" ik ["_law_record_here","_law_letter_here","_law_pairs"])(aap:Cl P w K mg base 14 "sure_pairs" 1 dW)(aaA:Cl P w K mg base 9 "with_letter" 2 cT)(aac:Cl P w K mg base 11 "has_world" 1 dm):Cl P w K mg base 15 "_law_keeps" 3 gv:=
 a9 F abe rfl λf c A o s H E hr x=>(by(apply ak;exact(bB (gD (iV (aP jR (ae 1) bH) (gp (cY (bV (aL aac hr (ag (aL aaA hr (ag (ae 0) (ag (ae 1) ah))) ah))))))) (ar (az fg)) aX);apply ak;exact(aH (aL aap hr (ag (aL aaA hr (ag (ae 0) (ag (ae 1) ah))) ah)) (aj 3 abe.nd));exact ar (az (ff (pA (jB hr)) (fI (N':=["_law_pair","_law_more"]) (src:=[ZB,ZA 3]) rfl (LcScope.by (N:=k9) (names:=(ao ik).names) rfl rfl rfl (by decide+kernel)) (bu (ae 2)) (λ_ _ _ _ _=>⟨(aj 0 (show NU (["_law_pair","_law_more"]:List Str)by decide+kernel)),(gF (aP (pz (yV hr)) (ae 0) (ae 1))),(ae 0)⟩)) (eO ah)))))
abbrev gg:ZF:=top 70
abbrev jx:List Str:=["_law_pairs","_law_places","_law_one","_law_other","_law_at"]
theorem aat:aE jx ["_law_pairs","_law_places"] (ao gg):=fZ
theorem n4(F:gc K mg "_law_lead_on" gg ["_law_pairs","_law_places"])(B:Bl mg):Cl P w K mg base 1 "_law_lead_on" 2 fy:=
 a9 F aat rfl λf c A o s H E hr x=>(by(apply ak;exact(bK rfl (bu (ae 0)) (cZ rfl (aJ (aj 2 aat.nd) (aJ (aj 3 aat.nd) ck))) (ar (bB (aP (jQ (jB hr)) (fI (N':=["_law_first","_law_third","_law_other","_law_one","_law_pairs"]) (src:=[ZB,ZB,ZA 3,ZA 2,ZA 0]) rfl (LcScope.by (N:=jx) (names:=(ao gg).names) rfl rfl rfl (by decide+kernel)) (bu (ae 0)) (λ_ _ _ _ _=>⟨(cZ rfl (aJ (aj 0 (show NU (["_law_first","_law_third","_law_other","_law_one","_law_pairs"]:List Str)by decide+kernel)) (aJ (aj 1 (show NU (["_law_first","_law_third","_law_other","_law_one","_law_pairs"]:List Str)by decide+kernel)) ck))),(gF (gD (kj (aP (pA (jB hr)) (ae 0) (ae 2)) (iB (aP (pz (yV hr)) (bD (ag (ae 3) (ag (ae 1) ah))) (ae 4)))))),(ae 1)⟩)) (eO ah)) (ar (az fg)) aX)));apply ak;exact(bK rfl (oG B.b_range (ag aq (ag (dk dG B.b_len PQ (ag (ae 1) ah)) ah))) (aj 4 aat.nd) (ar (bB (gD (kj (aP (pA (jB hr)) (aK (aK (ae 1) (ae 4)) aq) (aK (aK (ae 1) (aw dD (ae 4) aq)) aq)) (iB (aP (pz (yV hr)) (bD (ag (aK (ae 1) (aw dD (ae 4) aq)) (ag (aK (ae 1) (ae 4)) ah))) (ae 0))))) (ar (az fg)) aX)));exact ar (az fg)))
abbrev cm:ZF:=top 69
noncomputable abbrev de:List Str:=["_law_script","_law_at","_law_places","_law_row","_law_table_here","_law_times","_law_k","_law_event","_law_highs","_law_lows","_law_low","_law_high"]
theorem aa5:aE de ["_law_script","_law_at","_law_places","_law_row","_law_table_here"] (ao cm):=fZ
theorem kM(F:gc K mg "_law_drawn_world" cm ["_law_script","_law_at","_law_places","_law_row","_law_table_here"])(aa0:Cl P w K mg base 2 "_law_drawn" 3 aD)(B:Bl mg):Cl P w K mg base 3 "_law_drawn_world" 5 dy:=
 a9 F aa5 rfl λf c A o s H E hr x=>(by(apply ak;exact(AJ 5 aa5.nd);apply ak;exact(bK rfl (fU B.b_enumerate (ag (ae 2) ah)) (cZ rfl (aJ (aj 6 aa5.nd) (aJ (aj 7 aa5.nd) ck))) (by(apply ak;exact(zm 5 8 (N':=["_law_one","_law_times","_law_table_here","_law_event"]) (src:=[ZB,ZA 5,ZA 4,ZA 7]) rfl (LcScope.by (N:=de) (names:=(ao cm).names) rfl rfl rfl (by decide+kernel))  (λ_ _ _ _ _=>⟨(aj 0 (show NU (["_law_one","_law_times","_law_table_here","_law_event"]:List Str)by decide+kernel)),(gF (aP dO (bo (g8 hr) (bo (g8 hr) (ae 2) (ae 0)) (ae 3)) bH)),(aw aQ (bo (g8 hr) (ae 1) (ae 0)) (bo (g8 hr) (bo (g8 hr) (ae 2) (ae 0)) (ae 3)))⟩) aa5.nd);apply ak;exact(zm 5 9 (N':=["_law_one","_law_times","_law_table_here","_law_event"]) (src:=[ZB,ZA 5,ZA 4,ZA 7]) rfl (LcScope.by (N:=de) (names:=(ao cm).names) rfl rfl rfl (by decide+kernel))  (λ_ _ _ _ _=>⟨(aj 0 (show NU (["_law_one","_law_times","_law_table_here","_law_event"]:List Str)by decide+kernel)),(gF (aP dO (bo (g8 hr) (bo (g8 hr) (ae 2) (ae 3)) (ae 0)) bH)),(aw dD (bo (g8 hr) (ae 1) (ae 0)) (bo (g8 hr) (bo (g8 hr) (ae 2) (ae 3)) (ae 0)))⟩) aa5.nd);apply ak;exact(aH (nE (aP (jQ (jB hr)) (ae 9) (eO ah)) (dk (JV rfl) B.b_max boot_max (ag (ae 9) ah)) (nE (aP (jQ (jB hr)) (ae 8) (eO ah)) (aw dD (dk (Eb rfl) B.b_min boot_min (ag (ae 8) ah)) aq) aq)) (aj 10 aa5.nd));apply ak;exact(aH (nE (aP (jQ (jB hr)) (ae 8) (eO ah)) (dk (Eb rfl) B.b_min boot_min (ag (ae 8) ah)) (aw aQ (ae 10) aq)) (aj 11 aa5.nd));exact ar (zl 5 (g8 hr) (ae 7) (aw aQ (ae 10) (aL aa0 hr (ag (ae 0) (ag (aw aQ (ae 1) (ae 6)) (ag (aw aQ (aw dD (ae 11) (ae 10)) aq) ah)))))))));exact ar (az (oH iU B.b_tuple cW (ag (jC 5 (fI (N':=["_law_event","_law_times"]) (src:=[ZB,ZA 5]) rfl (LcScope.by (N:=de) (names:=(ao cm).names) rfl rfl rfl (by decide+kernel)) (bu (ae 2)) (λ_ _ _ _ _=>⟨(aj 0 (show NU (["_law_event","_law_times"]:List Str)by decide+kernel)),cy,(bo (g8 hr) (ae 1) (ae 0))⟩))) ah)))))
abbrev kY:ZF:=top 26
abbrev rz:List Str:=["record","thing"]
theorem qR:aE rz ["record","thing"] (ao kY):=fZ
theorem q0(F:gc K mg "need_event" kY ["record","thing"])(aaq:Cl P w K mg base 3 "is_event" 2 cU)(S:Xs K mg ac ap bi bn):Cl P w K mg base 4 "need_event" 2 cM:=
 a9 F qR rfl λf c A o s H E hr x=>(ar (bB (cY (bV (aL aaq hr (ag (aK (ae 0) aq) (ag (ae 1) ah))))) (ar (mL S.o_NoEvent S.m_NoEvent)) aX))
abbrev jH:ZF:=top 41
abbrev pQ:List Str:=["record","one","other"]
theorem o5:aE pQ ["record","one","other"] (ao jH):=fZ
theorem pE(F:gc K mg "need_events" jH ["record","one","other"])(aa1:Cl P w K mg base 7 "need_record" 1 aW)(aaj:Cl P w K mg base 4 "need_event" 2 cM):Cl P w K mg base 8 "need_events" 3 fR:=
 a9 F o5 rfl λf c A o s H E hr x=>(by(apply ak;exact(dB (aL aa1 hr (ag (ae 0) ah)));apply ak;exact(dB (aL aaj hr (ag (ae 0) (ag (ae 1) ah))));exact ar (dB (aL aaj hr (ag (ae 0) (ag (ae 2) ah))))))
abbrev ju:ZF:=top 44
abbrev n6:List Str:=["record","one","other"]
theorem nV:aE n6 ["record","one","other"] (ao ju):=fZ
theorem nY(F:gc K mg "most_between" ju ["record","one","other"])(aaN:Cl P w K mg base 8 "need_events" 3 fR)(aan:Cl P w K mg base 12 "need_world" 1 dX)(aaB:Cl P w K mg base 1 "most_of" 2 eX)(aao:Cl P w K mg base 9 "walks_from" 2 du):Cl P w K mg base 13 "most_between" 3 cC:=
 a9 F nV rfl λf c A o s H E hr x=>(by(apply ak;exact(dB (aL aaN hr (ag (ae 0) (ag (ae 1) (ag (ae 2) ah)))));apply ak;exact(dB (aL aan hr (ag (ae 0) ah)));exact ar (az (aL aaB hr (ag (aL aao hr (ag (ae 0) (ag (ae 1) ah))) (ag (ae 2) ah))))))
abbrev iF:ZF:=top 45
abbrev m6:List Str:=["record","one","other","most"]
theorem aaU:aE m6 ["record","one","other"] (ao iF):=fZ
theorem mW(F:gc K mg "least_between" iF ["record","one","other"])(aah:Cl P w K mg base 13 "most_between" 3 cC):Cl P w K mg base 14 "least_between" 3 eI:=
 a9 F aaU rfl λf c A o s H E hr x=>(ak (aH (aL aah hr (ag (ae 0) (ag (ae 2) (ag (ae 1) ah)))) (aj 3 aaU.nd)) (ar (az (nE (aP jR (ae 3) bH) bH (tj (ae 3))))))
abbrev jt:ZF:=top 48
abbrev n5:List Str:=["record","one","other","least"]
theorem aaY:aE n5 ["record","one","other"] (ao jt):=fZ
theorem nX(F:gc K mg "surely_ahead" jt ["record","one","other"])(aaC:Cl P w K mg base 14 "least_between" 3 eI):Cl P w K mg base 15 "surely_ahead" 3 bY:=
 a9 F aaY rfl λf c A o s H E hr x=>(ak (aH (aL aaC hr (ag (ae 0) (ag (ae 1) (ag (ae 2) ah)))) (aj 3 aaY.nd)) (ar (az (d8 (ff dO (ae 3) bH) (d7 (ff CO (ae 3) aq))))))
abbrev jI:ZF:=top 49
abbrev pR:List Str:=["record","one","other","most"]
theorem ab9:aE pR ["record","one","other"] (ao jI):=fZ
theorem pF(F:gc K mg "maybe_ahead" jI ["record","one","other"])(aah:Cl P w K mg base 13 "most_between" 3 cC):Cl P w K mg base 14 "maybe_ahead" 3 bW:=
 a9 F ab9 rfl λf c A o s H E hr x=>(ak (aH (aL aah hr (ag (ae 0) (ag (ae 1) (ag (ae 2) ah)))) (aj 3 ab9.nd)) (ar (az (BO (ff jR (ae 3) bH) (d7 (ff CO (ae 3) aq))))))
abbrev oP:ZF:=top 51
abbrev yG:List Str:=["record","one","other"]
theorem yc:aE yG ["record","one","other"] (ao oP):=fZ
theorem yx(F:gc K mg "verdict" oP ["record","one","other"])(aa9:Cl P w K mg base 15 "surely_ahead" 3 bY)(aad:Cl P w K mg base 14 "maybe_ahead" 3 bW):Cl P w K mg base 16 "verdict" 3 iN:=
 a9 F yc rfl λf c A o s H E hr x=>(by(apply ak;exact(bB (bV (aL aa9 hr (ag (ae 0) (ag (ae 1) (ag (ae 2) ah))))) (ar (az tf)) aX);apply ak;exact(bB (bV (aL aa9 hr (ag (ae 0) (ag (ae 2) (ag (ae 1) ah))))) (ar (az tf)) aX);apply ak;exact(bB (gD (iV (bV (aL aad hr (ag (ae 0) (ag (ae 1) (ag (ae 2) ah))))) (gp (bV (aL aad hr (ag (ae 0) (ag (ae 2) (ag (ae 1) ah)))))))) (ar (az tf)) aX);exact ar (az tf)))
abbrev ig:ZF:=top 55
abbrev k7:List Str:=["record","order","event","rising"]
theorem aaO:aE k7 ["record","order"] (ao ig):=fZ
theorem rf(F:gc K mg "fits_order" ig ["record","order"])(aa1:Cl P w K mg base 7 "need_record" 1 aW)(aaj:Cl P w K mg base 4 "need_event" 2 cM)(aa6:Cl P w K mg base 8 "events" 1 cq)(aab:Cl P w K mg base 9 "greatest_world" 2 bx)(aar:Cl P w K mg base 8 "bounds" 1 fw)(B:Bl mg):Cl P w K mg base 10 "fits_order" 2 cN:=
 a9 F aaO rfl λf c A o s H E hr x=>(by(apply ak;exact(dB (aL aa1 hr (ag (ae 0) ah)));apply ak;exact(bK rfl (bu (ae 1)) (aj 2 aaO.nd) (ar (dB (aL aaj hr (ag (ae 0) (ag (ae 2) ah))))));apply ak;exact(bB (aP (jQ (jB hr)) (dk (zc (JG hr)) B.b_sorted boot_sorted (ag (ae 1) ah)) (aL aa6 hr (ag (ae 0) ah))) (ar (az fg)) aX);apply ak;exact(BJ 3 (N':=["k","order"]) (src:=[ZB,ZA 1]) rfl (LcScope.by (N:=k7) (names:=(ao ig).names) rfl rfl rfl (by decide+kernel)) (dq B.b_range (ag (aw dD (dk dG B.b_len PQ (ag (ae 1) ah)) aq) ah)) (λ_ _ _ _ _=>⟨(aj 0 (show NU (["k","order"]:List Str)by decide+kernel)),cy,(bD (ag (aK (ae 1) (aw aQ (ae 0) aq)) (ag (aK (ae 1) (ae 0)) (ag aq ah))))⟩) aaO.nd);exact ar (az (ff dO (aL aab hr (ag (ae 0) (ag (aw aQ (aL aar hr (ag (ae 0) ah)) (ae 3)) ah))) bH))))
abbrev iC:ZF:=top 50
abbrev m5:List Str:=["record","one","other"]
theorem mQ:aE m5 ["record","one","other"] (ao iC):=fZ
theorem mV(F:gc K mg "maybe_at_once" iC ["record","one","other"])(aa9:Cl P w K mg base 15 "surely_ahead" 3 bY):Cl P w K mg base 16 "maybe_at_once" 3 cK:=
 a9 F mQ rfl λf c A o s H E hr x=>(ar (az (d8 (xT (aL aa9 hr (ag (ae 0) (ag (ae 1) (ag (ae 2) ah))))) (d7 (xT (aL aa9 hr (ag (ae 0) (ag (ae 2) (ag (ae 1) ah)))))))))
abbrev oS:ZF:=top 72
noncomputable abbrev uv:List Str:=["_law_script","_law_record_here","_law_places","_law_row","_law_table_here","_law_pairs","_law_k","_law_times","_law_when","_law_order","_law_one","_law_other","_law_about","_law_told"]
theorem aal:aE uv ["_law_script"] (ao oS):=fZ
theorem Jd{f:ZE}(abj:Fn K mg "law" oS ["_law_script"] f fd)(aaP:Cl P w K mg base 4 "_law_record" 3 fS)(aa6:Cl P w K mg base 8 "events" 1 cq)(aaQ:Cl P w K mg base 1 "_law_bounds" 1 eE)(aaV:Cl P w K mg base 1 "_law_table" 2 fx)(aap:Cl P w K mg base 14 "sure_pairs" 1 dW)(aaR:Cl P w K mg base 11 "an_order" 1 fN)(aaW:Cl P w K mg base 15 "_law_keeps" 3 gv)(aac:Cl P w K mg base 11 "has_world" 1 dm)(aaI:Cl P w K mg base 1 "_law_lead_on" 2 fy)(aav:Cl P w K mg base 3 "_law_drawn_world" 5 dy)(aai:Cl P w K mg base 9 "told_order" 2 dv)(aak:Cl P w K mg base 3 "_law_letter" 3 cw)(aa0:Cl P w K mg base 2 "_law_drawn" 3 aD)(aaZ:Cl P w K mg base 16 "verdict" 3 iN)(aaD:Cl P w K mg base 10 "fits_order" 2 cN)(aad:Cl P w K mg base 14 "maybe_ahead" 3 bW)(aaE:Cl P w K mg base 16 "maybe_at_once" 3 cK)(aaw:Cl P w K mg base 10 "world" 1 dH)(B:Bl mg):J3 P w K mg base 17 f fd ["_law_script"] 1 m_law:=
 zv abj.fn aal rfl λc A o s H E hr x=>(by(apply ak;exact(aH (aL aaP hr (ag (ae 0) (ag aq (ag aq ah)))) (aj 1 aal.nd));apply ak;exact(bB (cY (bV (aL aac hr (ag (ae 1) ah)))) (ar (az (ff jR (aL aaR hr (ag (ae 1) ah)) bH))) aX);apply ak;exact(aH (aL aa6 hr (ag (ae 1) ah)) (aj 2 aal.nd));apply ak;exact(aH (aL aaQ hr (ag (ae 1) ah)) (aj 3 aal.nd));apply ak;exact(aH (aL aaV hr (ag (ae 2) (ag (ae 3) ah))) (aj 4 aal.nd));apply ak;exact(aH (aL aap hr (ag (ae 1) ah)) (aj 5 aal.nd));apply ak;exact(bB (cY (bV (aL aaI hr (ag (ae 5) (ag (ae 2) ah))))) (ar (az fg)) aX);apply ak;exact(bK rfl (dq B.b_range (ag aq ah)) (aj 6 aal.nd) (by(apply ak;exact(aH (aL aav hr (ag (ae 0) (ag (aw aQ aq (aw da aq (ae 6))) (ag (ae 2) (ag (ae 3) (ag (ae 4) ah)))))) (aj 7 aal.nd));apply ak;exact(aH (EH (LY hr) rfl B.b_dict B.b_zip (ag (ae 2) (ag (ae 7) ah))) (aj 8 aal.nd));apply ak;exact(bB (aP (jQ (jB hr)) (fI (N':=["_law_one","_law_other","_law_when"]) (src:=[ZB,ZB,ZA 8]) rfl (LcScope.by (N:=uv) (names:=(ao oS).names) rfl rfl rfl (by decide+kernel)) (bu (ae 5)) (λ_ _ _ _ _=>⟨(cZ rfl (aJ (aj 0 (show NU (["_law_one","_law_other","_law_when"]:List Str)by decide+kernel)) (aJ (aj 1 (show NU (["_law_one","_law_other","_law_when"]:List Str)by decide+kernel)) ck))),(gF (aP K2 (bo (g8 hr) (ae 2) (ae 0)) (bo (g8 hr) (ae 2) (ae 1)))),(ae 0)⟩)) (eO ah)) (ar (az fg)) aX);apply ak;exact(aH (aL aai hr (ag (ae 1) (ag (ae 7) ah))) (aj 9 aal.nd));apply ak;exact(bB (gD (iV (aP (jQ (jB hr)) (ae 9) (fI (N':=["_law_time","_law_event"]) (src:=[ZB,ZB]) rfl (LcScope.by (N:=uv) (names:=(ao oS).names) rfl rfl rfl (by decide+kernel)) (bu (zp (JG hr) rfl B.b_sorted B.b_zip (ag (ae 7) (ag (ae 2) ah)))) (λ_ _ _ _ _=>⟨(cZ rfl (aJ (aj 0 (show NU (["_law_time","_law_event"]:List Str)by decide+kernel)) (aJ (aj 1 (show NU (["_law_time","_law_event"]:List Str)by decide+kernel)) ck))),cy,(ae 1)⟩))) (gp (cY (bV (aL aaD hr (ag (ae 1) (ag (ae 9) ah)))))))) (ar (az fg)) aX);apply ak;exact(aH (aK (ae 2) (aL aa0 hr (ag (ae 0) (ag (aw aQ aq (aw da aq (ae 6))) (ag (dk dG B.b_len PQ (ag (ae 2) ah)) ah))))) (aj 10 aal.nd));apply ak;exact(aH (aK (ae 2) (aL aa0 hr (ag (ae 0) (ag (aw aQ aq (aw da aq (ae 6))) (ag (dk dG B.b_len PQ (ag (ae 2) ah)) ah))))) (aj 11 aal.nd));apply ak;exact(bB (gD (kj (aP nM (bo (g8 hr) (ae 8) (ae 10)) (bo (g8 hr) (ae 8) (ae 11))) (iB (cY (bV (aL aad hr (ag (ae 1) (ag (ae 10) (ag (ae 11) ah))))))))) (ar (az fg)) aX);apply ak;exact(bB (gD (kj (aP (pA (jB hr)) (bo (g8 hr) (ae 8) (ae 10)) (bo (g8 hr) (ae 8) (ae 11))) (iB (cY (bV (aL aaE hr (ag (ae 1) (ag (ae 10) (ag (ae 11) ah))))))))) (ar (az fg)) aX);exact(AK 12 [("ahead","behind"),("behind","ahead"),("open","open"),("at once","at once")] hr aal.nd (l7 i0 i0 (l7 i0 i0 (l7 i0 i0 (l7 i0 i0 FK)))) (aL aaZ hr (ag (ae 1) (ag (ae 10) (ag (ae 11) ah)))) (aL aaZ hr (ag (ae 1) (ag (ae 11) (ag (ae 10) ah)))) (ar (az fg)) aX))));apply ak;exact(aH (aL aaR hr (ag (ae 1) ah)) (aj 13 aal.nd));apply ak;exact(bB (gD (iV (aP (jQ (jB hr)) (ae 13) (aL aai hr (ag (ae 1) (ag (aL aaw hr (ag (ae 1) ah)) ah)))) (gp (cY (bV (aL aaD hr (ag (ae 1) (ag (ae 13) ah)))))))) (ar (az fg)) aX);apply ak;exact(bB (aP (jQ (jB hr)) (fI (N':=["_law_one","_law_other","_law_told"]) (src:=[ZB,ZB,ZA 13]) rfl (LcScope.by (N:=uv) (names:=(ao oS).names) rfl rfl rfl (by decide+kernel)) (bu (ae 5)) (λ_ _ _ _ _=>⟨(cZ rfl (aJ (aj 0 (show NU (["_law_one","_law_other","_law_told"]:List Str)by decide+kernel)) (aJ (aj 1 (show NU (["_law_one","_law_other","_law_told"]:List Str)by decide+kernel)) ck))),(gF (aP CO (mM (yV hr) (ae 2) (ae 0)) (mM (yV hr) (ae 2) (ae 1)))),(ae 0)⟩)) (eO ah)) (ar (az fg)) aX);exact ar (az (aL aaW hr (ag (ae 1) (ag (aL aak hr (ag (ae 0) (ag aq (ag (aK (ae 1) aq) ah)))) (ag (ae 5) ah)))))))
end
@[elab_as_elim] theorem fA {α:Type} {p:List α->Prop} (h:∀a0,p [a0]):∀us:List α,us.length=1->p us
 |[a0],_=>h a0
@[elab_as_elim] theorem fJ {α:Type} {p:List α->Prop} (h:∀a0 a1,p [a0,a1]):∀us:List α,us.length=2->p us
 |[a0,a1],_=>h a0 a1
@[elab_as_elim] theorem hU {α:Type} {p:List α->Prop} (h:∀a0 a1 a2,p [a0,a1,a2]):∀us:List α,us.length=3->p us
 |[a0,a1,a2],_=>h a0 a1 a2
@[elab_as_elim] theorem La {α:Type} {p:List α->Prop} (h:∀a0 a1 a2 a3 a4,p [a0,a1,a2,a3,a4]):∀us:List α,us.length=5->p us
 |[a0,a1,a2,a3,a4],_=>h a0 a1 a2 a3 a4
def all_ok{l:PySem.W.OpenLaw}{h:ZH}{fa:ZE}(X:K.In h)(e0:CV asks K=BX asks top)(G:h.Ns Ob mg)(hfa:mg "law" =ZA (.ref fa)):
  ∃fd:Pn,(∀(s:Ng)(v:Nf),UX s fd ⟨[v],[]⟩ [("_law_script",v)])/\∀base:ZH,K.In base->base.Ns Ob mg->vq l.prog w K mg base CX0 17 fa fd ["_law_script"] (spP K 1 m_law):=by
 have e:yB Ef K=xV Ef top:=congrArg (·.1) e0
 have B:Bl mg:=⟨fP 0 X G e rfl,fP 1 X G e rfl,fP 2 X G e rfl,fP 3 X G e rfl,fP 4 X G e rfl,fP 5 X G e rfl,fP 6 X G e rfl,fP 7 X G e rfl,fP 8 X G e rfl,fP 9 X G e rfl,fP 10 X G e rfl,fP 11 X G e rfl,fP 12 X G e rfl⟩
 have C:Cs mg:=⟨sg 0 X G e rfl,sg 1 X G e rfl,sg 2 X G e rfl,sg 3 X G e rfl,sg 4 X G e rfl,sg 5 X G e rfl⟩;obtain⟨bn,ls,xD,xl,nd⟩:=Je (Lm e);obtain⟨ac,ls0,x_NoRecord,rfl,xl0⟩:=nu xl;obtain⟨ap,ls1,x_NoEvent,rfl,xl1⟩:=nu xl0;obtain⟨bi,ls2,x_NoWorld,rfl,xl2⟩:=nu xl1;cases Ei xl2
 have S:Xs K mg ac ap bi bn:=⟨SE X G (lE x_NoRecord).1,SE X G (lE x_NoEvent).1,SE X G (lE x_NoWorld).1,SE X G (lE xD).1,ox1 x_NoRecord xD,ox1 x_NoEvent xD,ox1 x_NoWorld xD,ox0 xD,nd⟩;obtain⟨fd52,abj,bnd⟩:=Lj (n:="law") (i:=72) (x:="_law_script") 52 X G e rfl hfa λ_ _ _ _ _ _ _=>rfl
 refine⟨fd52,bnd,λbase _ _=>?_⟩
 have ab0:=um l.prog w base (cg 0 X G e rfl λ_ _ _ _ _ _=>fJ λ_ _=>rfl) B
 have aa0:=rj l.prog w base (cg 1 X G e rfl λ_ _ _ _ _ _=>hU λ_ _ _=>rfl) ab0
 have aaL:=pJ l.prog w base (cg 2 X G e rfl λ_ _ _ _ _ _=>fA λ_=>rfl) B
 have aak:=pI l.prog w base (cg 3 X G e rfl λ_ _ _ _ _ _=>hU λ_ _ _=>rfl) aaL aa0 B
 have aaS:=rn l.prog w base (cg 4 X G e rfl λ_ _ _ _ _ _=>fJ λ_ _=>rfl) aa0 B
 have aaP:=pH l.prog w base (cg 5 X G e rfl λ_ _ _ _ _ _=>hU λ_ _ _=>rfl) aa0 aak aaS B
 have aa2:=yA l.prog w base (cg 6 X G e rfl λ_ _ _ _ _ _=>hU λ_ _ _=>rfl) B
 have aba:=wz l.prog w base (cg 7 X G e rfl λ_ _ _ _ _ _=>fA λ_=>rfl) B
 have aa4:=ue l.prog w base (cg 8 X G e rfl λ_ _ _ _ _ _=>hU λ_ _ _=>rfl) aba
 have abf:=yz l.prog w base (cg 9 X G e rfl λ_ _ _ _ _ _=>fJ λ_ _=>rfl) aa4 C
 have abi:=CU l.prog w base (cg 10 X G e rfl λ_ _ _ _ _ _=>fA λ_=>rfl) B
 have aaG:=nZ l.prog w base (cg 11 X G e rfl λ_ _ _ _ _ _=>fA λ_=>rfl) aa2 abi aa4 B C
 have abb:=wC l.prog w base (cg 12 X G e rfl λ_ _ _ _ _ _=>fA λ_=>rfl) aa2 abf aaG
 have aaT:=rg l.prog w base (cg 13 X G e rfl λ_ _ _ _ _ _=>fA λ_=>rfl) aa2 abb B C
 have aaq:=wA l.prog w base (cg 14 X G e rfl λ_ _ _ _ _ _=>fJ λ_ _=>rfl) aa4 aa2 B
 have abc:=wB l.prog w base (cg 15 X G e rfl λ_ _ _ _ _ _=>fJ λ_ _=>rfl) aa4 C
 have ab5:=ug l.prog w base (cg 16 X G e rfl λ_ _ _ _ _ _=>fJ λ_ _=>rfl) aaq aa2 abc
 have aaM:=pG l.prog w base (cg 17 X G e rfl λ_ _ _ _ _ _=>fJ λ_ _=>rfl) aa2 ab5 B C
 have ab6:=uf l.prog w base (cg 18 X G e rfl λ_ _ _ _ _ _=>fA λ_=>rfl) aa2 aaT aaM
 have aa1:=pC l.prog w base (cg 19 X G e rfl λ_ _ _ _ _ _=>fA λ_=>rfl) ab6 S
 have aa6:=A0 l.prog w base (cg 20 X G e rfl λ_ _ _ _ _ _=>fA λ_=>rfl) aa1 B
 have aaQ:=pK l.prog w base (cg 21 X G e rfl λ_ _ _ _ _ _=>fA λ_=>rfl) B
 have aaV:=rh l.prog w base (cg 22 X G e rfl λ_ _ _ _ _ _=>fJ λ_ _=>rfl) B
 have ab7:=uh l.prog w base (cg 23 X G e rfl λ_ _ _ _ _ _=>hU λ_ _ _=>rfl)
 have aaH:=AZ l.prog w base (cg 24 X G e rfl λ_ _ _ _ _ _=>fJ λ_ _=>rfl) ab7 B
 have aab:=l9 l.prog w base (cg 25 X G e rfl λ_ _ _ _ _ _=>fJ λ_ _=>rfl) aa6 aaH B
 have aay:=lD l.prog w base (cg 26 X G e rfl λ_ _ _ _ _ _=>fJ λ_ _=>rfl) B
 have aau:=kL l.prog w base (cg 27 X G e rfl λ_ _ _ _ _ _=>fA λ_=>rfl)
 have aar:=A1 l.prog w base (cg 28 X G e rfl λ_ _ _ _ _ _=>fA λ_=>rfl) aa1 aay aau B
 have aaw:=CS l.prog w base (cg 29 X G e rfl λ_ _ _ _ _ _=>fA λ_=>rfl) aab aar
 have aac:=uj l.prog w base (cg 30 X G e rfl λ_ _ _ _ _ _=>fA λ_=>rfl) aaw
 have aan:=qZ l.prog w base (cg 31 X G e rfl λ_ _ _ _ _ _=>fA λ_=>rfl) aac S
 have aao:=qW l.prog w base (cg 32 X G e rfl λ_ _ _ _ _ _=>fJ λ_ _=>rfl) aaH aar
 have aaB:=yy l.prog w base (cg 33 X G e rfl λ_ _ _ _ _ _=>fJ λ_ _=>rfl)
 have abd:=wH l.prog w base (cg 34 X G e rfl λ_ _ _ _ _ _=>fA λ_=>rfl) aan aa6 aao aaB B
 have aap:=qY l.prog w base (cg 35 X G e rfl λ_ _ _ _ _ _=>fA λ_=>rfl) abd aa6 B
 have aai:=qX l.prog w base (cg 36 X G e rfl λ_ _ _ _ _ _=>fJ λ_ _=>rfl) aa6 B
 have aaR:=wG l.prog w base (cg 37 X G e rfl λ_ _ _ _ _ _=>fA λ_=>rfl) aaw aai
 have ab8:=ui l.prog w base (cg 38 X G e rfl λ_ _ _ _ _ _=>fA λ_=>rfl) aa1
 have aaA:=pB l.prog w base (cg 39 X G e rfl λ_ _ _ _ _ _=>fJ λ_ _=>rfl) aa1 ab8
 have aaW:=ri l.prog w base (cg 40 X G e rfl λ_ _ _ _ _ _=>hU λ_ _ _=>rfl) aap aaA aac
 have aaI:=n4 l.prog w base (cg 41 X G e rfl λ_ _ _ _ _ _=>fJ λ_ _=>rfl) B
 have aav:=kM l.prog w base (cg 42 X G e rfl λ_ _ _ _ _ _=>La λ_ _ _ _ _=>rfl) aa0 B
 have aaj:=q0 l.prog w base (cg 43 X G e rfl λ_ _ _ _ _ _=>fJ λ_ _=>rfl) aaq S
 have aaN:=pE l.prog w base (cg 44 X G e rfl λ_ _ _ _ _ _=>hU λ_ _ _=>rfl) aa1 aaj
 have aah:=nY l.prog w base (cg 45 X G e rfl λ_ _ _ _ _ _=>hU λ_ _ _=>rfl) aaN aan aaB aao
 have aaC:=mW l.prog w base (cg 46 X G e rfl λ_ _ _ _ _ _=>hU λ_ _ _=>rfl) aah
 have aa9:=nX l.prog w base (cg 47 X G e rfl λ_ _ _ _ _ _=>hU λ_ _ _=>rfl) aaC
 have aad:=pF l.prog w base (cg 48 X G e rfl λ_ _ _ _ _ _=>hU λ_ _ _=>rfl) aah
 have aaZ:=yx l.prog w base (cg 49 X G e rfl λ_ _ _ _ _ _=>hU λ_ _ _=>rfl) aa9 aad
 have aaD:=rf l.prog w base (cg 50 X G e rfl λ_ _ _ _ _ _=>fJ λ_ _=>rfl) aa1 aaj aa6 aab aar B
 have aaE:=mV l.prog w base (cg 51 X G e rfl λ_ _ _ _ _ _=>hU λ_ _ _=>rfl) aa9
 exact(Jd l.prog w base abj aaP aa6 aaQ aaV aap aaR aaW aac aaI aav aai aak aa0 aaZ aaD aad aaE aaw B).h
end G
namespace Tr
open PySem
abbrev RR(cs ls:List T):T:=.tup [.tup cs,.tup ls]
mutual
def T.pl:T->Bool
 |.scr _=>ZD
 |.dct _ _=>ZD
 |.ob _ _ _=>ZD
 |.tup l=>plS l
 |.lst l=>plS l
 |_=>ZC
def plS:List T->Bool
 |[] =>ZC
 |t::l=>t.pl&&plS l
end
theorem iZ:∀{l:List T}{t:T},plS l=ZC->t∈l->t.pl=ZC
 |[],_,_,h=>by cases h
 |u::l,t,h,m=>by
  unfold plS at h;rw[Ni]at h;rcases Nl.mp m with rfl|m
  ·exact h.1
  ·exact iZ h.2 m
mutual
theorem T.L6:∀(t:T),t.pl=ZC->t.nd=ZC
 |.non,_=>rfl
 |.bl _,_=>rfl
 |.int _,_=>rfl
 |.str _,_=>rfl
 |.scr _,h=>by cases h
 |.dct _ _,h=>by cases h
 |.ob _ _ _,h=>by cases h
 |.tup l,h=>by unfold T.pl at h;unfold T.nd;exact plS_nds l h
 |.lst l,h=>by unfold T.pl at h;unfold T.nd;exact plS_nds l h
theorem plS_nds:∀(l:List T),plS l=ZC->nds l=ZC
 |[],_=>rfl
 |t::l,h=>by
  unfold plS at h;rw[Ni]at h;unfold nds;rw[T.L6 t h.1,plS_nds l h.2];rfl
end
variable{fe:V5}{h:T->T}
theorem yO:∀(ts:List T)(Z:En),0<Z.length->(∀t∈ts,fe (Z.set 0 (.va t))=.ok (h t))->dg (gN 0) bT fe ts Z=.ok (ts.map h)
 |[],_,_,_=>rfl
 |t::r,Z,hl,hf=>by
  unfold dg
  have e1:gN 0 t Z=.ok (Z.set 0 (.va t)):=by unfold gN;rw[if_pos hl]
  have ih:=yO r (Z.set 0 (.va t)) (by rw[Os];exact hl) (λu hu=>by rw[U9];exact hf u (Na _ hu))
  simp only[e1,aF,bT,if_true,hf t Nb,ih,Nd]
theorem se{fc:V6}{p:T->Bool}:∀(ts:List T)(Z:En),0<Z.length->(∀t∈ts,fc (Z.set 0 (.va t))=.ok (p t)/\(p t=ZC->fe (Z.set 0 (.va t))=.ok (h t)))->dg (gN 0) fc fe ts Z=.ok ((ts.filter p).map h)
 |[],_,_,_=>rfl
 |t::r,Z,hl,hf=>by
  unfold dg
  have e1:gN 0 t Z=.ok (Z.set 0 (.va t)):=by unfold gN;rw[if_pos hl]
  have ih:=se r (Z.set 0 (.va t)) (by rw[Os];exact hl) (λu hu=>by rw[U9];exact hf u (Na _ hu))
  obtain⟨h1,h2⟩:=hf t Nb;simp only[e1,aF,h1]
  cases q:p t with
  |true=>simp only[if_true,h2 q,aF,ih,Vn,q,Nd]
  |false=>simp only[NW,if_false,ih,Vn,q]
theorem sQ(p:T->Bool):∀l:List T,qB (l.map λt=>T.bl (p t))=ZA (l.map p)
 |[] =>rfl
 |t::l=>by rw[Nd,qB,sQ p l];rfl
def all_map(p:T->Bool)(l:List T):rH [.lst (l.map λt=>T.bl (p t))]=.ok (.bl (l.all p)):=by
 simp only[rH,sQ,U5]
 rfl
def lM{l:List α}{k:Nat}{t:α}(h:l[k]?=ZA t):L2.atI l (k:Int)=ZA t:=by
 have hk:k<l.length:=(Nu.mp h).1
 unfold L2.atI L2.ixN;rw[if_pos (by omega),if_pos (by omega),Oq]
 exact h
def aA{k:Nat}(h:n<=k)(hk:autoParam (k<=1000) s_):n<=ZI:=by unfold ZI;omega
variable{fi:V3}{g:T->En->Rs En}{ks:List T}{x:Rs T}
section
variable {f fa fb fc:V5}{fs:V3}{b c:V6}{F G:V4}{Z Z' Z1 Z2:En}{t u r:T}{ts l m:List T}
variable{g:T->T->Rs T}
def aB(ha:fa Z=.ok t)(hb:fb Z=.ok u)(hg:g t u=x):o2 g fa fb Z=x:=by unfold o2;rw[ha,hb];exact hg
def Jw{g:T->Rs T}(ha:fa Z=.ok t)(hg:g t=x):o1 g fa Z=x:=by unfold o1;rw[ha];exact hg
def Lh{vs:List T}(ha:fa Z=.ok (.dct ks vs))(hb:fb Z=.ok u)(hg:g (.dct ks vs) u=x):oD g fa fb Z=x:=by unfold oD;rw[ha];show(fb Z >>= g (.dct ks vs))=_;rw[hb];exact hg
def Jv(ha:fa Z=.ok (.lst ks))(hb:fb Z=.ok u)(hg:g (.lst ks) u=x):oL g fa fb Z=x:=by unfold oL;rw[ha];show(fb Z >>= g (.lst ks))=_;rw[hb];exact hg
def au(h:f Z=.ok t)(hs:fs Z=.ok ts):af f fs Z=.ok (t::ts):=by unfold af;rw[h,hs];rfl
def aO{g:List T->Rs T}(h:fs Z=.ok ts)(hg:g ts=x):cl g fs Z=x:=by unfold cl;rw[h];exact hg
def aZ{k:Bool}(h:f Z=.ok (.bl k)):tb f Z=.ok k:=by unfold tb;rw[h];rfl
def hV{k:Bool}(h:b Z=.ok k):dt b Z=.ok (!k):=by unfold dt;rw[h];rfl
def Af(h:b Z=.ok ZC):l8 b c Z=.ok ZC:=by unfold l8;rw[h];rfl
variable{x:Rs Bool}
def nR(h:b Z=.ok ZD)(h2:c Z=x):l8 b c Z=x:=by unfold l8;rw[h];exact h2
def m8(h:b Z=.ok ZD):kP b c Z=.ok ZD:=by unfold kP;rw[h];rfl
def lJ(h:b Z=.ok ZC)(h2:c Z=x):kP b c Z=x:=by unfold kP;rw[h];exact h2
def k_or{q:Bool}(h:b Z=.ok p)(h2:p=ZD->c Z=.ok q):l8 b c Z=.ok (p||q):=by
 cases p with
 |true=>exact Af h
 |false=>exact nR h (h2 rfl)
def Dw(h:fa Z=.ok (.bl ZC)):cE fa fb Z=fb Z:=by unfold cE;rw[h];rfl
def Ai(h:fa Z=.ok (.bl ZD)):cE fa fb Z=.ok (.bl ZD):=by unfold cE;rw[h];rfl
def Gg{q:Bool}(h:fa Z=.ok (.bl p))(h2:p=ZC->fb Z=.ok (.bl q)):cE fa fb Z=.ok (.bl (p&&q)):=by
 cases p with
 |true=>rw[Dw h,h2 rfl];rfl
 |false=>rw[Ai h];rfl
def Dp(h:fa Z=.ok (.bl ZC)):BD fa fb Z=.ok (.bl ZC):=by unfold BD;rw[h];rfl
def Dq(h:fa Z=.ok (.bl ZD)):BD fa fb Z=fb Z:=by unfold BD;rw[h];rfl
def Dr{k:Bool}(h:fa Z=.ok (.bl k)):o1 yD fa Z=.ok (.bl (!k)):=Jw h rfl
def lr(h:b Z=.ok p):qi b fa fb Z=if p then fa Z else fb Z:=by unfold qi;rw[h];rfl
variable{g:T->En->Rs En}
def bS(h:f Z=.ok t)(hg:g t Z=.ok Z'):cS f g Z=.ok (.nx Z'):=by unfold cS;rw[h];show(match g t Z with|.ok Z'=>Rs.ok (Fl.nx Z')|_=>.bad)=_;rw[hg]
def ay(h:F Z=.ok (.nx Z')):ax F G Z=G Z':=by unfold ax;rw[h];rfl
def gi(h:F Z=.ok (.rt t)):ax F G Z=.ok (.rt t):=by unfold ax;rw[h];rfl
def Dn(h:F Z=.ok (.ct Z')):ax F G Z=.ok (.ct Z'):=by unfold ax;rw[h];rfl
def Jt{c:Str}(h:F Z=.err c):ax F G Z=.err c:=by unfold ax;rw[h];rfl
def eZ(h:b Z=.ok ZC):ee b F G Z=F Z:=by unfold ee;rw[h];rfl
def cu(h:b Z=.ok ZD):ee b F G Z=G Z:=by unfold ee;rw[h];rfl
def bP(h:f Z=.ok t):aM f Z=.ok (.rt t):=by unfold aM;rw[h];rfl
def Ju{c:Str}(h:f Z=.err c):aM f Z=.err c:=by unfold aM;rw[h];rfl
def n9(h:f Z=.ok t):rS f Z=.ok (.nx Z):=by unfold rS;rw[h];rfl
def Ll{c:Str}(h:f Z=.err c):rS f Z=.err c:=by unfold rS;rw[h];rfl
def d6{x:Fl}(h:fi Z=.ok ts)(h2:a8 g F ts Z=.ok x):dM fi g F Z=.ok x:=by unfold dM;rw[h];show(match a8 g F ts Z with|.ok f=>Rs.ok f|_=>.bad)=_;rw[h2]
def cI(h:g t Z=.ok Z1)(h2:F Z1=.ok (.nx Z2)):a8 g F (t::ts) Z=a8 g F ts Z2:=by rw[a8,h];show(F Z1 >>= _)=_;rw[h2];rfl
def Ge(h:g t Z=.ok Z1)(h2:F Z1=.ok (.ct Z2)):a8 g F (t::ts) Z=a8 g F ts Z2:=by rw[a8,h];show(F Z1 >>= _)=_;rw[h2];rfl
def Ag(h:g t Z=.ok Z1)(h2:F Z1=.ok (.rt r)):a8 g F (t::ts) Z=.ok (.rt r):=by rw[a8,h];show(F Z1 >>= _)=_;rw[h2];rfl
def Dm(h:c Z=.ok ZD):bX c F (n+1) Z=.ok (.nx Z):=by unfold bX;rw[h]
def xk(h:c Z=.ok ZC)(h2:F Z=.ok (.nx Z')):bX c F (n+1) Z=bX c F n Z':=by rw[bX,h];simp only[h2]
def Dl(h:c Z=.ok ZC)(h2:F Z=.ok (.rt t)):bX c F (n+1) Z=.ok (.rt t):=by rw[bX,h];simp only[h2]
def bz{m:Nat}(hl:ts.length=n)(h:F (aR m ts)=.ok (.rt t)):val n m F ts=.ok t:=by unfold val;rw[if_pos hl];unfold bQ;rw[h];rfl
def yQ{m:Nat}{c:Str}(hl:ts.length=n)(h:F (aR m ts)=.err c):val n m F ts=.err c:=by unfold val;rw[if_pos hl];unfold bQ;rw[h];rfl
def uR{m:Nat}(hl:ts.length=n)(h:F (aR m ts)=.ok (.nx Z)):val n m F ts=.ok .non:=by unfold val;rw[if_pos hl];unfold bQ;rw[h];rfl
def qf{src:List (Option Nat)}(hi:fi Z=.ok ts)(hs:ts.length<=ZI)(hn:0<src.length)(hf:∀t∈ts,fe ((bR src Z).set 0 (.va t))=.ok (h t)):
  eh fi src (gN 0) bT fe Z=.ok (.lst (ts.map h)):=by
 have e:=yO (fe:=fe) (h:=h) ts (bR src Z) (by unfold bR;rw[Nc];exact hn) hf
 unfold eh;rw[hi,aF,if_pos hs,e]
def Dt{src:List (Option Nat)}{fc:V6}{p:T->Bool}(hi:fi Z=.ok ts)(hs:ts.length<=ZI)(hn:0<src.length)
  (hf:∀t∈ts,fc ((bR src Z).set 0 (.va t))=.ok (p t)/\(p t=ZC->fe ((bR src Z).set 0 (.va t))=.ok (h t))):eh fi src (gN 0) fc fe Z=.ok (.lst ((ts.filter p).map h)):=by
 have e:=se (fc:=fc) (fe:=fe) (p:=p) (h:=h) ts (bR src Z) (by unfold bR;rw[Nc];exact hn) hf
 unfold eh;rw[hi,aF,if_pos hs,e]
def cG(h:fs Z=.ok ts)(hl:ts.length<=ZI):bA fs Z=.ok (.tup ts):=by unfold bA;rw[h];show lb ts=_;unfold lb;rw[if_pos hl]
def mr(h:fs Z=.ok ts)(hl:ts.length<=ZI):dF fs Z=.ok (.lst ts):=by unfold dF;rw[h];show lg ts=_;unfold lg;rw[if_pos hl]
def Ds{f:V3}(h:f Z=.ok l)(hi:i<Z.length)(hl:l.length<=1000):iH i f Z=.ok (.nx (Z.set i (.ow (.lst l)))):=by
 unfold iH;rw[h,aF,if_pos ⟨hi,aA hl (by omega)⟩]
def qe(hi:i<Z.length):iH i ai Z=.ok (.nx (Z.set i (.ow (.lst [])))):=Ds rfl hi (OF _)
def mw(h:f Z=.ok t)(hi:Z[i]?=ZA (.ow (.lst l)))(hl:l.length<=1000):gY i f Z=.ok (.nx (Z.set i (.ow (.lst (l++[t]))))):=by
 unfold gY;rw[hi];simp only[h,aF];rw[if_pos (by unfold ZI;omega)]
def Du(h:f Z=.ok (.lst m))(hi:Z[i]?=ZA (.ow (.lst l)))(hl:l.length+m.length<=1000):o8 i f Z=.ok (.nx (Z.set i (.ow (.lst (l++m))))):=by
 unfold o8;rw[hi];simp only[h,aF,JM];rw[if_pos (by unfold ZI;omega)]
def gO(h:f Z=.ok (.lst l)):iS f Z=.ok l:=by unfold iS;rw[h];rfl
def Ah(h:fs Z=.ok [.lst l]):iE fs Z=.ok (cb 0 l):=by unfold iE;rw[h];rfl
def Hm(e:l[n]?=ZA t):aY (.tup l) (.int (n:Int))=.ok t:=by show(match L2.atI l _ with|some t=>Rs.ok t|none=>.bad)=_;rw[lM e]
def Jx(e:l[n]?=ZA t):aY (.lst l) (.int (n:Int))=.ok t:=by show(match L2.atI l _ with|some t=>Rs.ok t|none=>.bad)=_;rw[lM e]
def Bf(h:fa Z=.ok (.tup l))(h2:fb Z=.ok (.int (n:Int)))(e:l[n]?=ZA t):o2 aY fa fb Z=.ok t:=aB h h2 (Hm e)
def xt(h:fa Z=.ok (.lst l))(h2:fb Z=.ok (.int (n:Int)))(e:l[n]?=ZA t):o2 aY fa fb Z=.ok t:=aB h h2 (Jx e)
def Lf{fl fu:En->Rs (Option Int)}(h:fe Z=.ok (.lst l))(h1:fl Z=.ok lo)(h2:fu Z=.ok hi):sl fe fl fu Z=.ok (.lst (vc l lo hi)):=by
 unfold sl;rw[h,h1,h2];rfl
def k_pS{i:Int}(h:f Z=.ok (.int i)):pS f Z=.ok (ZA i):=by unfold pS;rw[h];rfl
def Ea(l:List T)(n:Nat):vc l (ZA (n:Int)) ZB=l.drop n:=by
 unfold vc;rw[HT.sIx_none,HT.sIx_nat]
 by_cases h:n<=l.length
 ·rw[Nat.min_eq_left h]
  exact S2 (by rw[Qn];omega)
 ·rw[Nat.min_eq_right (by omega),Qs (Nr _),Qs (by omega),List.take_nil]
def Gf{o:OT}(hi:Z[i]?=ZA (.ow o))(h:f (disown i Z)=.ok t)(hk:t.nk o.isD=ZC):ln i f Z=.ok t:=by
 unfold ln;rw[hi];simp only[h,aF,hk,if_true]
def Li{k:Bool}(h:b (disown i Z)=.ok k):Jk i b Z=.ok k:=h
def Dv{x:Rs Fl}(h:F (disown i Z)=x):mS i F Z=x:=h
end
def mk2(a b:T):lb [a,b]=.ok (.tup [a,b]):=by unfold lb;rw[if_pos (aA (k:=1000) (by simp only[Nj,P5];omega))]
def kr(n:Nat):(rng 0 n).length=n:=by unfold rng;rw[Nc,O7];omega
end Tr
variable{m s x:Int}{w:List Nat}
namespace Gr
variable {ν:Type}[DecidableEq ν]
abbrev bU(ν:Type):=List (ν×ν×Int)
inductive Wk (L:bU ν):ν->ν->Int->Prop
 |nil (a:ν):Wk L a a 0
 |step {a b c:ν} {m s:Int}:(a,b,m)∈L->Wk L b c s->Wk L a c (m+s)
def Wk.one{L:bU ν}{a b:ν}(h:(a,b,m)∈L):Wk L a b m:=by
 have:=Wk.step h (Wk.nil (L:=L) b)
 rwa [Int.add_zero]at this
def Wk.app{L:bU ν}{a b c:ν}{t:Int}(h:Wk L a b s)(k:Wk L b c t):Wk L a c (s+t):=by
 induction h with
 |nil a=>rwa [Int.zero_add]
 |step e _ ih=>rw[Int.add_assoc];exact .step e (ih k)
def Wk.mono{L M:bU ν}(h:∀x∈L,x∈M){a b:ν}(w:Wk L a b s):Wk M a b s:=by
 induction w with
 |nil a=>exact .nil a
 |step e _ ih=>exact .step (h _ e) ih
def Holds(L:bU ν)(t:ν->Int):Prop:=∀a b m,(a,b,m)∈L->t b - t a<=m
def Holds.walk{L:bU ν}{t:ν->Int}(h:Holds L t){a b:ν}(w:Wk L a b s):t b - t a<=s:=by
 induction w with
 |nil a=>omega
 |step e _ ih=>have:=h _ _ _ e;omega
def cf(L:bU ν):Prop:=∀a s,Wk L a a s->0<=s
def Holds.Mo{L:bU ν}{t:ν->Int}(h:Holds L t):cf L:=λa s w=>by have:=h.walk w;omega
def Ch(L:bU ν):ν->List Nat->ν->Prop
 |a,[],b=>a=b
 |a,k::r,b=>∃c m,L[k]?=ZA (a,c,m)/\Ch L c r b
noncomputable def most(L:bU ν)(k:Nat):Int:=match L[k]? with
 |some x=>x.2.2
 |none=>0
def fH(L:bU ν):List Nat->Int
 |[] =>0
 |k::r=>most L k+fH L r
theorem mI(L:bU ν):∀(p q:List Nat),fH L (p++q)=fH L p+fH L q
 |[],q=>by simp[fH]
 |k::p,q=>by rw[List.cons_append,fH,fH,mI L p q];omega
theorem Ch.wk{L:bU ν}:∀{ks:List Nat}{a b:ν},Ch L a ks b->Wk L a b (fH L ks)
 |[],a,b,h=>by cases h;exact .nil a
 |k::r,a,b,⟨c,m,e,h⟩=>by
  have:fH L (k::r)=m+fH L r:=by rw[fH,most,e]
  rw[this];exact .step (PZ e) h.wk
theorem Ch.app{L:bU ν}:∀{p q:List Nat}{a b c:ν},Ch L a p b->Ch L b q c->Ch L a (p++q) c
 |[],q,a,b,c,h,k=>by cases h;exact k
 |x::p,q,a,b,c,⟨d,m,e,h⟩,k=>⟨d,m,e,Ch.app h k⟩
theorem Ch.lt{L:bU ν}:∀{ks:List Nat}{a b:ν},Ch L a ks b->∀k∈ks,k<L.length
 |[],_,_,_,k,hk=>by simp at hk
 |x::r,a,b,⟨c,m,e,h⟩,k,hk=>by
  rcases Nl.mp hk with rfl|hk
  ·exact(Nu.mp e).1
  ·exact h.lt k hk
def Ch.snoc{L:bU ν}{p:List Nat}{k:Nat}{a b c:ν}(h:Ch L a p b)(e:L[k]?=ZA (b,c,m)):Ch L a (p++[k]) c:=h.app ⟨c,m,e,rfl⟩
noncomputable def src(L:bU ν)(k:Nat):Option ν:=(L[k]?).map (·.1)
abbrev cx(ν:Type):=ν->Option (Int×List Nat)
def put(b:cx ν)(v:ν)(x:Int×List Nat):cx ν:=λu=>if u=v then ZA x else b u
variable{x:Int×List Nat}
def fq{b:cx ν}{v:ν}:put b v x v=ZA x:=by unfold put;rw[if_pos rfl]
def lA{b:cx ν}{u v:ν}(h:u≠v):put b v x u=b u:=by unfold put;rw[if_neg h]
def fF(L:bU ν)(ks:List Nat):List ν:=ks.filterMap (src L)
noncomputable def fB(b:cx ν)(v:ν)(d:Int):Bool:=match b v with
 |none=>ZC
 |some x=>decide (d<x.1)
noncomputable def iJ(L:bU ν)(b:cx ν)(k:Nat)(x:ν×ν×Int):Sum (Option (cx ν)) (List Nat):=match b x.1 with
 |none=>.inl ZB
 |some (d,w)=>if fB b x.2.1 (d+x.2.2)=ZC then
   if x.2.1∈fF L (w++[k])then .inr ((w++[k]).drop ((fF L (w++[k])).idxOf x.2.1))else .inl (ZA (put b x.2.1 (d+x.2.2,w++[k])))
  else .inl ZB
noncomputable def jr(L:bU ν):Nat->bU ν->cx ν->Bool->Sum (cx ν×Bool) (List Nat)
 |_,[],b,mv=>.inl (b,mv)
 |k,x::r,b,mv=>match iJ L b k x with
  |.inr q=>.inr q
  |.inl ZB=>jr L (k+1) r b mv
  |.inl (ZA b')=>jr L (k+1) r b' ZC
noncomputable def settle(L:bU ν):Nat->cx ν->Option (Sum (cx ν) (List Nat))
 |0,_=>ZB
 |n+1,b=>match jr L 0 L b ZD with
  |.inr q=>ZA (.inr q)
  |.inl (b',ZC)=>settle L n b'
  |.inl (b',ZD)=>ZA (.inl b')
def ub(L:bU ν)(p q:List Nat):fF L (p++q)=fF L p++fF L q:=by unfold fF;rw[List.filterMap_append]
def ua{L:bU ν}{k:Nat}{x:ν×ν×Int}(e:L[k]?=ZA x):fF L [k]=[x.1]:=by unfold fF src;simp[e]
def Ch.L7{L:bU ν}{k:Nat}{r:List Nat}{a b:ν}(h:Ch L a (k::r) b):fF L (k::r)=a::fF L r:=by
 obtain⟨c,m,e,_⟩:=h;rw[show k::r=[k] ++r from rfl,ub,ua e];rfl
theorem Ch.cut{L:bU ν}{v:ν}:∀{ks:List Nat}{a b:ν},Ch L a ks b->v∈fF L ks->Ch L a (ks.take ((fF L ks).idxOf v)) v/\Ch L v (ks.drop ((fF L ks).idxOf v)) b/\(fF L ks).idxOf v<ks.length
 |[],a,b,_,hv=>by simp[fF]at hv
 |k::r,a,b,h,hv=>by
  rw[h.L7]at hv ⊢
  have h0:=h;obtain⟨c,m,e,h⟩:=h
  by_cases z:a=v
  ·subst z
   rw[List.idxOf_cons_self];exact⟨rfl,h0,by simp⟩
  ·have hv':v∈fF L r:=by
    rcases Nl.mp hv with q|q
    ·exact absurd q.symm z
    ·exact q
   obtain⟨h1,h2,h3⟩:=h.cut hv'
   have ei:(a::fF L r).idxOf v=(fF L r).idxOf v+1:=by
    rw[VF]
    have:(a == v)=ZD:=by rw[beq_eq_false_iff_ne];exact z
    rw[this];rfl
   rw[ei];exact⟨⟨c,m,e,h1⟩,h2,by simpa using h3⟩
structure Kept (L:bU ν)(S:List ν)(b:cx ν):Prop where
 walk:∀v d w,b v=ZA (d,w)->∃s∈S,Ch L s w v/\fH L w=d/\v∉fF L w/\(fF L w).Nodup/\∀p q u,w=p++q->Ch L s p u->∃d' w',b u=ZA (d',w')/\d'<=fH L p
 start:∀s∈S,∃d w,b s=ZA (d,w)/\d<=0
theorem Kept.put{L:bU ν}{S:List ν}{b:cx ν}(K:Kept L S b){k:Nat}{a c:ν}(e:L[k]?=ZA (a,c,m))(ha:b a=ZA (d,w))(hb:fB b c (d+m)=ZC)(hn:c∉fF L (w++[k])):
  Kept L S (put b c (d+m,w++[k])):=by
 have low:∀u d' w',b u=ZA (d',w')->∃d'' w'',Gr.put b c (d+m,w++[k]) u=ZA (d'',w'')/\d''<=d':=λu d' w' h=>by
  by_cases z:u=c
  ·subst z
   refine⟨_,_,fq,?_⟩
   unfold fB at hb;rw[h]at hb
   have:=of_decide_eq_true hb;omega
  ·exact⟨d',w',by rw[lA z];exact h,O0 _⟩
 obtain⟨s,hs,h1,h2,h3,h4,h5⟩:=K.walk a d w ha
 have hch:Ch L s (w++[k]) c:=h1.snoc e
 have hcost:fH L (w++[k])=d+m:=by rw[mI,h2,fH,fH,most,e];simp
 refine⟨λv d' w' h=>?_,λs' hs'=>?_⟩
 ·by_cases z:v=c
  ·subst z
   rw[fq]at h;cases h;refine⟨s,hs,hch,hcost,hn,?_,λp q u hpq hp=>?_⟩
   ·rw[ub,ua e]
    exact Ot.mpr ⟨h4,by simp,λx hx y hy=>by simp at hy;subst hy;exact λz=>h3 (z▸hx)⟩
   ·by_cases hq:q=[]
    ·subst hq
     rw[Oj]at hpq;subst hpq
     have:u=v:=by
      clear low hb hn h5
      have aux:∀{ks:List Nat}{x y z:ν},Ch L x ks y->Ch L x ks z->y=z:=by
       intro ks
       induction ks with
       |nil=>intro x y z h1 h2;cases h1;cases h2;rfl
       |cons k r ih=>
        rintro x y z ⟨c1,m1,e1,r1⟩ ⟨c2,m2,e2,r2⟩
        rw[e1]at e2;cases e2;exact ih r1 r2
      exact aux hp hch
     subst this;exact⟨_,_,fq,by rw[hcost];exact O0 _⟩
    ·have hw:∃q',w=p++q':=by
      refine⟨q.dropLast,?_⟩
      have:=congrArg List.dropLast hpq;rw[List.dropLast_concat,List.dropLast_append_of_ne_nil hq]at this;exact this
     obtain⟨q',hw⟩:=hw;obtain⟨d1,w1,e1,l1⟩:=h5 p q' u hw hp;obtain⟨d2,w2,e2,l2⟩:=low u d1 w1 e1;exact⟨d2,w2,e2,by omega⟩
  ·rw[lA z]at h
   obtain⟨s',hs',g1,g2,g3,g4,g5⟩:=K.walk v d' w' h;refine⟨s',hs',g1,g2,g3,g4,λp q u hpq hp=>?_⟩
   obtain⟨d1,w1,e1,l1⟩:=g5 p q u hpq hp;obtain⟨d2,w2,e2,l2⟩:=low u d1 w1 e1;exact⟨d2,w2,e2,by omega⟩
 ·obtain⟨d1,w1,e1,l1⟩:=K.start s' hs'
  obtain⟨d2,w2,e2,l2⟩:=low s' d1 w1 e1;exact⟨d2,w2,e2,by omega⟩
def Bar(L:bU ν)(q:List Nat):Prop:=q≠ []/\(∃a,Ch L a q a)/\fH L q<0/\(fF L q).Nodup
theorem Ch.Mh{L:bU ν}:∀{ks:List Nat}{a b:ν}(i:Nat),Ch L a ks b->fF L (ks.drop i)=(fF L ks).drop i
 |[],_,_,i,_=>by simp[fF]
 |k::r,a,b,0,_=>rfl
 |k::r,a,b,i+1,h=>by
  have:=h;obtain⟨c,m,e,h'⟩:=this;rw[h.L7,Ua,Ua,h'.Mh i]
def Kept.round{L:bU ν}{S:List ν}{b:cx ν}(K:Kept L S b){k:Nat}{a c:ν}(e:L[k]?=ZA (a,c,m))(ha:b a=ZA (d,w))(hb:fB b c (d+m)=ZC)(hn:c∈fF L (w++[k])):
  Bar L ((w++[k]).drop ((fF L (w++[k])).idxOf c)):=by
 obtain⟨s,hs,h1,h2,h3,h4,h5⟩:=K.walk a d w ha
 have hch:Ch L s (w++[k]) c:=h1.snoc e
 have hcost:fH L (w++[k])=d+m:=by rw[mI,h2,fH,fH,most,e];simp
 obtain⟨c1,c2,c3⟩:=hch.cut hn
 generalize hi:(fF L (w++[k])).idxOf c=i at c1 c2 c3
 refine⟨λz=>?_,⟨c,c2⟩,?_,?_⟩
 ·have:=congrArg OE z
  rw[Qn]at this
  simp at this c3
  omega
 ·have hsum:fH L ((w++[k]).take i)+fH L ((w++[k]).drop i)=d+m:=by rw[<-mI,Th,hcost]
  have hiw:i<=w.length:=by simp at c3;omega
  have ht:(w++[k]).take i=w.take i:=by rw[List.take_append_of_le_length hiw]
  rw[ht]at c1 hsum;obtain⟨d1,w1,e1,l1⟩:=h5 (w.take i) (w.drop i) c (Th i w).symm c1;unfold fB at hb;rw[e1]at hb
  have:=of_decide_eq_true hb;simp only at this;omega
 ·rw[hch.Mh,ub,ua e]
  refine(List.drop_sublist _ _).nodup (Ot.mpr ⟨h4,by simp,λx hx y hy=>?_⟩)
  rw[Ny.mp hy];exact λz=>h3 (by have z:x=a:=z;rw[<-z];exact hx)
def size(L:bU ν):Nat:=(L.map λx=>x.2.2.natAbs).sum
theorem kS{f:Nat->Nat}:∀{ks rs:List Nat},ks.Nodup->(∀k∈ks,k∈rs)->(ks.map f).sum<=(rs.map f).sum
 |[],rs,_,_=>by simp
 |k::ks,rs,hn,hs=>by
  have hk:k∈rs:=hs k Nb;rw[NP]at hn
  have hp:=List.perm_cons_erase hk
  have e:(rs.map f).sum=f k+((rs.erase k).map f).sum:=by
   have:=(hp.map f).sum_nat
   rwa [Nd,Pa]at this
  rw[e,Nd,Pa]
  have:=kS (f:=f) hn.2 (rs:=rs.erase k) λj hj=>by
   have h1:=hs j (Na _ hj);exact(TV (λ(z:j=k)=>hn.1 (z▸hj))).mpr h1
  omega
def x6(L:bU ν):size L=((Oz L.length).map λk=>(most L k).natAbs).sum:=by
 unfold size
 congr 1
 apply List.ext_getElem
 ·simp
 ·intro i h1 h2
  simp only[RF,Us];unfold most;rw[Nk (by simpa using h1)]
theorem Av(L:bU ν):∀(ks:List Nat),(fH L ks).natAbs<=(ks.map λk=>(most L k).natAbs).sum
 |[] =>by simp[fH]
 |k::r=>by
  have:=Av L r;rw[fH,Nd,Pa];omega
theorem Ch.nodup{L:bU ν}:∀{ks:List Nat}{a b:ν},Ch L a ks b->(fF L ks).Nodup->ks.Nodup
 |[],_,_,_,_=>Pu
 |k::r,a,b,h,hn=>by
  have h0:=h;rw[h.L7,NP]at hn;obtain⟨c,m,e,h⟩:=h;rw[NP];refine⟨λhk=>hn.1 ?_,h.nodup hn.2⟩
  unfold fF src;exact Pk.mpr ⟨k,hk,by rw[e];rfl⟩
def Ch.small{L:bU ν}{a b:ν}(h:Ch L a ks b)(hn:(fF L ks).Nodup):(fH L ks).natAbs<=size L:=by
 rw[x6];exact NV (Av L ks) (kS (h.nodup hn) λk hk=>OJ.mpr (h.lt k hk))
noncomputable def val(M:Nat)(b:cx ν)(v:ν):Nat:=match b v with
 |none=>2*M+1
 |some x=>(x.1+M).toNat
def left(M:Nat)(b:cx ν)(L:bU ν):Nat:=(L.map λx=>val M b x.2.1).sum
theorem zY{b b':cx ν}:∀{L:bU ν},(∀x∈L,val M b' x.2.1<=val M b x.2.1)->left M b' L<=left M b L
 |[],_=>by simp[left]
 |x::L,h=>by
  have h1:=h x Nb
  have h2:=zY (L:=L) λy hy=>h y (Na _ hy)
  unfold left at h2 ⊢;rw[Nd,Pa,Nd,Pa];omega
theorem zX{b b':cx ν}{x:ν×ν×Int}:∀{L:bU ν},x∈L->(∀x∈L,val M b' x.2.1<=val M b x.2.1)->val M b' x.2.1<val M b x.2.1->left M b' L<left M b L
 |[],hx,_,_=>by simp at hx
 |y::L,hx,h,hl=>by
  have h1:=h y Nb
  have h2:=zY (L:=L) λy hy=>h y (Na _ hy)
  unfold left at h2 ⊢;rw[Nd,Pa,Nd,Pa];rcases Nl.mp hx with rfl|hx
  ·omega
  ·have h3:=zX (L:=L) hx (λy hy=>h y (Na _ hy)) hl
   unfold left at h3;omega
def Dd{L:bU ν}{S:List ν}{b:cx ν}(K:Kept L S b){k:Nat}{a c:ν}(e:L[k]?=ZA (a,c,m))(ha:b a=ZA (d,w))(hb:fB b c (d+m)=ZC)(hn:c∉fF L (w++[k])):
  left (size L) (put b c (d+m,w++[k])) L<left (size L) b L:=by
 have K':=K.put e ha hb hn;obtain⟨s,hs,h1,h2,h3,h4,h5⟩:=K'.walk c (d+m) (w++[k]) fq
 have sm:=h1.small h4;rw[h2]at sm
 have lt:val (size L) (put b c (d+m,w++[k])) c<val (size L) b c:=by
  unfold val fB at*;rw[fq]
  cases z:b c with
  |none=>simp only;omega
  |some y=>
   rw[z]at hb
   have hb:=of_decide_eq_true hb;simp only;omega
 refine zX (x:=(a,c,m)) (PZ e) (λy _=>?_) lt
 by_cases z:y.2.1=c
 ·rw[z];exact OV lt
 ·unfold val;rw[lA z];exact Nr _
def El(b:cx ν)(x:ν×ν×Int):Prop:=∀d w,b x.1=ZA (d,w)->∃d' w',b x.2.1=ZA (d',w')/\d'<=d+x.2.2
def B5{b:cx ν}{x:ν×ν×Int}(h:∀d w,b x.1=ZA (d,w)->fB b x.2.1 (d+x.2.2)=ZD):El b x:=λd w e=>by
 have:=h d w e;unfold fB at this
 cases z:b x.2.1 with
 |none=>rw[z]at this;cases this
 |some y=>
  rw[z]at this
  have:=of_decide_eq_false this;exact⟨y.1,y.2,rfl,by omega⟩
theorem jD{L:bU ν}{S:List ν}:∀(r:bU ν)(k:Nat)(b:cx ν)(mv:Bool),L.drop k=r->Kept L S b->match jr L k r b mv with
  |.inr q=>Bar L q
  |.inl (b',mv')=>Kept L S b'/\(mv'=ZD->mv=ZD/\b'=b/\∀x∈r,El b x)/\left (size L) b' L<=left (size L) b L/\(mv'=ZC->mv=ZC\/left (size L) b' L<left (size L) b L)
 |[],k,b,mv,_,K=>⟨K,λh=>⟨h,rfl,λx hx=>by simp at hx⟩,Nr _,λh=>.inl h⟩
 |x::r,k,b,mv,hr,K=>by
  have e:L[k]?=ZA x:=by
   have:=congrArg (·[0]?) hr
   simpa using this
  have hr':L.drop (k+1)=r:=by
   have:=congrArg (List.drop 1) hr
   simpa [List.drop_drop,U2]using this
  rw[jr];obtain⟨a,c,m⟩:=x;unfold iJ
  cases z:b a with
  |none=>
   simp only[z]
   have ih:=jD r (k+1) b mv hr' K
   revert ih
   generalize jr L (k+1) r b mv=R
   cases R with
   |inr q=>exact id
   |inl p=>
    obtain⟨b',mv'⟩:=p
    rintro ⟨i1,i2,i3,i4⟩
    refine⟨i1,λh=>?_,i3,i4⟩
    obtain⟨j1,j2,j3⟩:=i2 h;refine⟨j1,j2,λx hx=>?_⟩
    rcases Nl.mp hx with rfl|hx
    ·intro d w q;rw[z]at q;cases q
    ·exact j3 x hx
  |some y=>
   obtain⟨d,w⟩:=y;simp only[z]
   by_cases hb:fB b c (d+m)=ZC
   ·rw[if_pos hb]
    by_cases hn:c∈fF L (w++[k])
    ·rw[if_pos hn]
     exact K.round e z hb hn
    ·rw[if_neg hn]
     have K':=K.put e z hb hn
     have lt:=Dd K e z hb hn
     have ih:=jD r (k+1) (put b c (d+m,w++[k])) ZC hr' K'
     revert ih
     simp only
     generalize jr L (k+1) r (put b c (d+m,w++[k])) ZC=R
     cases R with
     |inr q=>exact id
     |inl p=>
      obtain⟨b',mv'⟩:=p
      rintro ⟨i1,i2,i3,i4⟩
      refine⟨i1,λh=>?_,by omega,λ_=>.inr (by omega)⟩
      obtain⟨j1,_⟩:=i2 h;cases j1
   ·rw[if_neg hb]
    have ih:=jD r (k+1) b mv hr' K
    revert ih
    simp only
    generalize jr L (k+1) r b mv=R
    cases R with
    |inr q=>exact id
    |inl p=>
     obtain⟨b',mv'⟩:=p
     rintro ⟨i1,i2,i3,i4⟩
     refine⟨i1,λh=>?_,i3,i4⟩
     obtain⟨j1,j2,j3⟩:=i2 h;refine⟨j1,j2,λx hx=>?_⟩
     rcases Nl.mp hx with rfl|hx
     ·refine B5 λd' w' q=>?_
      simp only at q;rw[z]at q;cases q
      simpa using hb
     ·exact j3 x hx
structure Settled (L:bU ν)(S:List ν)(b:cx ν):Prop where
 walk:∀v d w,b v=ZA (d,w)->∃s∈S,Ch L s w v/\fH L w=d/\v∉fF L w/\(fF L w).Nodup
 least:∀s∈S,∀v t,Wk L s v t->∃d w,b v=ZA (d,w)/\d<=t
def x8{L:bU ν}{S:List ν}{b:cx ν}(K:Kept L S b)(h:∀x∈L,El b x):Settled L S b where
 walk:=λv d w e=>by
  obtain⟨s,h1,h2,h3,h4,h5,_⟩:=K.walk v d w e;exact⟨s,h1,h2,h3,h4,h5⟩
 least:=by
  have go:∀{u v:ν}{t:Int},Wk L u v t->∀d w,b u=ZA (d,w)->∃d' w',b v=ZA (d',w')/\d'<=d+t:=by
   intro u v t hw
   induction hw with
   |nil a=>exact λd w e=>⟨d,w,e,by omega⟩
   |step e _ ih=>
    intro d w q;obtain⟨d1,w1,e1,l1⟩:=h _ e d w q;obtain⟨d2,w2,e2,l2⟩:=ih d1 w1 e1;exact⟨d2,w2,e2,by simp only at l1;omega⟩
  intro s hs v t hw;obtain⟨d,w,e,l⟩:=K.start s hs;obtain⟨d2,w2,e2,l2⟩:=go hw d w e;exact⟨d2,w2,e2,by omega⟩
theorem rQ{L:bU ν}{S:List ν}:∀(n:Nat)(b:cx ν),Kept L S b->left (size L) b L<n->∃r,settle L n b=ZA r/\match r with
  |.inr q=>Bar L q
  |.inl b'=>Settled L S b'
 |0,b,K,h=>by omega
 |n+1,b,K,h=>by
  have s:=jD (S:=S) L 0 b ZD rfl K;rw[settle]
  revert s
  generalize jr L 0 L b ZD=R
  cases R with
  |inr q=>exact λs=>⟨_,rfl,s⟩
  |inl p=>
   obtain⟨b',mv'⟩:=p
   rintro ⟨i1,i2,i3,i4⟩
   cases mv' with
   |false=>
    obtain⟨_,j2,j3⟩:=i2 rfl;subst j2
    exact⟨_,rfl,x8 i1 j3⟩
   |true=>
    rcases i4 rfl with z|z
    ·cases z
    ·exact rQ n b' i1 (by omega)
noncomputable def start(S:List ν):cx ν:=λv=>if v∈S then ZA (0,[])else ZB
def qc(L:bU ν)(S:List ν):Kept L S (start S) where
 walk:=λv d w e=>by
  unfold start at e
  split at e
  ·rename_i h
   cases e;refine⟨v,h,rfl,rfl,by simp[fF],by simp[fF],λp q u hpq hp=>?_⟩
   obtain⟨rfl,rfl⟩:=List.append_eq_nil_iff.mp hpq.symm;cases hp;exact⟨0,[],by unfold start;rw[if_pos h],by simp[fH]⟩
  ·cases e
 start:=λs hs=>⟨0,[],by unfold start;rw[if_pos hs],O0 _⟩
def De(L:bU ν)(S:List ν):left (size L) (start S) L<=L.length*(2*size L+1):=by
 unfold left
 have:∀M:bU ν,(M.map λx=>val (size L) (start S) x.2.1).sum<=M.length*(2*size L+1):=by
  intro M
  induction M with
  |nil=>simp
  |cons x M ih=>
   rw[Nd,Pa,Nj,Nat.succ_mul]
   have:val (size L) (start S) x.2.1<=2*size L+1:=by
    unfold val start;split
    ·exact Nr _
    ·rename_i h
     split at h
     ·cases h;simp;omega
     ·cases h
   omega
 exact this L
theorem x9(L:bU ν)(S:List ν)(h:L.length*(2*size L+1)<n):∃r,settle L n (start S)=ZA r/\match r with
  |.inr q=>Bar L q
  |.inl b'=>Settled L S b':=rQ n (start S) (qc L S) (PK (De L S) h)
def Bar.neg{L:bU ν}{q:List Nat}(h:Bar L q):¬ cf L:=λn=>by
 obtain⟨_,⟨a,ha⟩,hc,_⟩:=h
 have:=n a _ ha.wk;omega
def Settled.holds{L:bU ν}{S:List ν}{b:cx ν}(h:Settled L S b)(hS:∀x∈L,x.1∈S/\x.2.1∈S){t:ν->Int}(ht:∀v∈S,∃w,b v=ZA (t v,w)):Holds L t:=λa c m hx=>by
 obtain⟨ha,hc⟩:=hS _ hx;obtain⟨w,e⟩:=ht a ha;obtain⟨s,hs,h1,h2,_⟩:=h.walk a _ _ e;obtain⟨d,w',e',l⟩:=h.least s hs c _ (h1.wk.app (.one hx));obtain⟨w2,e2⟩:=ht c hc;rw[e2]at e';cases e';omega
inductive Pth (L:bU ν):ν->List ν->ν->Int->Prop
 |one {a b:ν} {m:Int}:(a,b,m)∈L->Pth L a [] b m
 |cons {a x b:ν} {ms:List ν} {m s:Int}:(a,x,m)∈L->Pth L x ms b s->Pth L a (x::ms) b (m+s)
theorem Pth.cut{L:bU ν}{x:ν}{q:List ν}:∀{p:List ν}{a b:ν}{s:Int},Pth L a (p++x::q) b s->∃s1 s2,Pth L a p x s1/\Pth L x q b s2/\s=s1+s2
 |[],a,b,s,h=>by
  cases h with
  |cons e h=>exact⟨_,_,.one e,h,rfl⟩
 |y::p,a,b,s,h=>by
  cases h with
  |cons e h=>
   obtain⟨s1,s2,h1,h2,h3⟩:=Pth.cut h;exact⟨_,s2,.cons e h1,h2,by omega⟩
def J1(L:bU ν)(u v:ν)(s:Int):Prop:=(u=v/\s=0)\/(u≠v/\∃ms,Pth L u ms v s/\ms.Nodup/\u∉ms/\v∉ms)
def Er(L:bU ν):Prop:=∃x ms s,Pth L x ms x s/\ms.Nodup/\x∉ms/\s<0
def Wk.simple{L:bU ν}{u v:ν}(w:Wk L u v s):Er L\/∃s',s'<=s/\J1 L u v s':=by
 induction w with
 |nil a=>exact .inr ⟨0,O0 _,.inl ⟨rfl,rfl⟩⟩
 |@step a b c m s e w ih=>
  rcases ih with ih|⟨s',hs,ih⟩
  ·exact .inl ih
  by_cases hab:a=b
  ·subst hab
   by_cases hm:m<0
   ·exact .inl ⟨a,[],m,.one e,Pu,by simp,hm⟩
   ·exact .inr ⟨s',by omega,ih⟩
  rcases ih with⟨rfl,rfl⟩|⟨hbc,ms,hp,hn,hb,hc⟩
  ·exact .inr ⟨m,by omega,.inr ⟨hab,[],.one e,Pu,by simp,by simp⟩⟩
  by_cases hac:a=c
  ·subst hac
   by_cases hm:m+s'<0
   ·exact .inl ⟨a,b::ms,m+s',.cons e hp,NP.mpr ⟨hb,hn⟩,by simp[hab,hc],hm⟩
   ·exact .inr ⟨0,by omega,.inl ⟨rfl,rfl⟩⟩
  by_cases ham:a∈ms
  ·obtain⟨p,q,rfl⟩:=Ut ham
   obtain⟨s1,s2,h1,h2,h3⟩:=hp.cut;rw[Ot]at hn;obtain⟨n1,n2,n3⟩:=hn;rw[NP]at n2
   have hap:a∉p:=λz=>n3 a z a Nb rfl
   by_cases hm:m+s1<0
   ·refine .inl ⟨a,b::p,m+s1,.cons e h1,NP.mpr ⟨λz=>hb (OD _ z),n1⟩,by simp[hab,hap],hm⟩
   ·exact .inr ⟨s2,by omega,.inr ⟨hac,q,h2,n2.2,n2.1,λz=>hc (NM _ (Na _ z))⟩⟩
  ·refine .inr ⟨m+s',by omega,.inr ⟨hac,b::ms,.cons e hp,NP.mpr ⟨hb,hn⟩,by simp[hab,ham],?_⟩⟩
   simp only[Nl,not_or];exact⟨λz=>hbc z.symm,hc⟩
abbrev di(ν:Type):=ν->ν->Option Int
noncomputable def j5(f:di ν)(a b:ν)(x:Int):di ν:=λu v=>if u=a/\v=b then ZA x else f u v
noncomputable def oh(f:di ν)(a b:ν)(x:Int):di ν:=match f a b with
 |none=>j5 f a b x
 |some y=>if x<y then j5 f a b x else f
noncomputable def my(mid one other:ν)(f:di ν):di ν:=match f one mid,f mid other with
 |some x,ZA y=>oh f one other (x+y)
 |_,_=>f
noncomputable def vJ(P:List ν):di ν:=λu v=>if u∈P/\u=v then ZA 0 else ZB
noncomputable def B1(P:List ν)(L:bU ν):di ν:=L.foldl (λf x=>oh f x.1 x.2.1 x.2.2) (vJ P)
noncomputable def mB(mid one:ν)(P:List ν)(f:di ν):di ν:=P.foldl (λf other=>my mid one other f) f
noncomputable def ql(mid:ν)(Q P:List ν)(f:di ν):di ν:=Q.foldl (λf one=>mB mid one P f) f
noncomputable def xw(M P:List ν)(f:di ν):di ν:=M.foldl (λf mid=>ql mid P P f) f
noncomputable def table(P:List ν)(L:bU ν):di ν:=xw P P (B1 P L)
def Le(f g:di ν):Prop:=∀u v x,g u v=ZA x->∃y,f u v=ZA y/\y<=x
def Le.refl(f:di ν):Le f f:=λu v x h=>⟨x,h,O0 _⟩
def Le.trans{f g h:di ν}(a:Le f g)(b:Le g h):Le f h:=λu v x e=>by
 obtain⟨y,e1,l1⟩:=b u v x e;obtain⟨z,e2,l2⟩:=a u v y e1;exact⟨z,e2,by omega⟩
variable{x:Int}
def m9{f:di ν}{a b:ν}:j5 f a b x a b=ZA x:=by unfold j5;rw[if_pos ⟨rfl,rfl⟩]
def uX(f:di ν)(a b:ν)(x:Int):Le (oh f a b x) f:=λu v y e=>by
 unfold oh
 cases q:f a b with
 |none=>
  by_cases z:u=a/\v=b
  ·obtain⟨rfl,rfl⟩:=z;rw[q]at e;cases e
  ·exact⟨y,by simp only;unfold j5;rw[if_neg z];exact e,O0 _⟩
 |some y0=>
  simp only;split
  ·by_cases z:u=a/\v=b
   ·obtain⟨rfl,rfl⟩:=z;rw[q]at e;cases e
    exact⟨x,m9,by omega⟩
   ·exact⟨y,by unfold j5;rw[if_neg z];exact e,O0 _⟩
  ·exact⟨y,e,O0 _⟩
def Ao(f:di ν)(a b:ν)(x:Int):∃y,oh f a b x a b=ZA y/\y<=x:=by
 unfold oh
 cases q:f a b with
 |none=>exact⟨x,m9,O0 _⟩
 |some y0=>
  simp only;split
  ·exact⟨x,m9,O0 _⟩
  ·exact⟨y0,q,by omega⟩
def qo{L:bU ν}{f:di ν}{a b:ν}(h:∀u v y,f u v=ZA y->Wk L u v y)(hx:Wk L a b x):∀u v y,oh f a b x u v=ZA y->Wk L u v y:=λu v y e=>by
 have key:j5 f a b x u v=ZA y->Wk L u v y:=λe'=>by
  unfold j5 at e'
  by_cases z:u=a/\v=b
  ·rw[if_pos z]at e';injection e' with e';rw[z.1,z.2,<-e'];exact hx
  ·rw[if_neg z]at e';exact h u v y e'
 unfold oh at e
 cases q:f a b with
 |none=>rw[q]at e;exact key e
 |some y0=>
  rw[q]at e;simp only at e
  split at e
  ·exact key e
  ·exact h u v y e
def xu(mid one other:ν)(f:di ν):Le (my mid one other f) f:=by
 unfold my;split
 ·exact uX _ _ _ _
 ·exact Le.refl f
def DF{mid one other:ν}{f:di ν}(h1:f one mid=ZA x)(h2:f mid other=ZA y):∃z,my mid one other f one other=ZA z/\z<=x+y:=by
 unfold my;rw[h1,h2];exact Ao _ _ _ _
theorem kG(step:di ν->α->di ν)(hs:∀f a,Le (step f a) f):∀(l:List α)(f:di ν),Le (l.foldl step f) f
 |[],f=>Le.refl f
 |a::l,f=>(kG step hs l (step f a)).trans (hs f a)
def qk(mid one:ν)(P:List ν)(f:di ν):Le (mB mid one P f) f:=kG _ (λf o=>xu mid one o f) P f
def xv(mid:ν)(Q P:List ν)(f:di ν):Le (ql mid Q P f) f:=kG _ (λf o=>qk mid o P f) Q f
def DJ(M P:List ν)(f:di ν):Le (xw M P f) f:=kG _ (λf o=>xv o P P f) M f
theorem oB(step:di ν->α->di ν)(hs:∀f a,Le (step f a) f):∀(l:List α)(f:di ν)(a:α),a∈l->∃g,Le g f/\Le (l.foldl step f) (step g a)
 |[],f,a,h=>by simp at h
 |b::l,f,a,h=>by
  rcases Nl.mp h with rfl|h
  ·exact⟨f,Le.refl f,kG step hs l (step f a)⟩
  ·obtain⟨g,h1,h2⟩:=oB step hs l (step f b) a h
   exact⟨g,h1.trans (hs f b),h2⟩
def DI{mid u v:ν}{P:List ν}{f:di ν}(hu:u∈P)(hv:v∈P)(h1:f u mid=ZA x)(h2:f mid v=ZA y):∃z,ql mid P P f u v=ZA z/\z<=x+y:=by
 obtain⟨g,g1,g2⟩:=oB (λf one=>mB mid one P f) (λf o=>qk mid o P f) P f u hu
 obtain⟨g',g3,g4⟩:=oB (λf other=>my mid u other f) (λf o=>xu mid u o f) P g v hv
 have l:Le g' f:=g3.trans g1;obtain⟨x',e1,l1⟩:=l _ _ _ h1;obtain⟨y',e2,l2⟩:=l _ _ _ h2;obtain⟨z,e3,l3⟩:=DF e1 e2;obtain⟨z',e4,l4⟩:=(g2.trans g4) _ _ _ e3;exact⟨z',e4,by omega⟩
def Up(L:bU ν)(M:List ν)(f:di ν):Prop:=∀u v ms s,Pth L u ms v s->ms.Nodup->(∀x∈ms,x∈M)->∃y,f u v=ZA y/\y<=s
def Pth.ends{L:bU ν}{P:List ν}(hL:∀x∈L,x.1∈P/\x.2.1∈P){u v:ν}{ms:List ν}(h:Pth L u ms v s):u∈P/\v∈P/\∀x∈ms,x∈P:=by
 induction h with
 |one e=>exact⟨(hL _ e).1,(hL _ e).2,by simp⟩
 |cons e _ ih=>exact⟨(hL _ e).1,ih.2.1,λx hx=>by
   rcases Nl.mp hx with rfl|hx
   ·exact ih.1
   ·exact ih.2.2 x hx⟩
def Up.mid{L:bU ν}{P M:List ν}{f:di ν}(hL:∀x∈L,x.1∈P/\x.2.1∈P)(h:Up L M f)(k:ν):Up L (k::M) (ql k P P f):=λu v ms s hp hn hm=>by
 by_cases hk:k∈ms
 ·obtain⟨p,q,rfl⟩:=Ut hk
  obtain⟨s1,s2,h1,h2,h3⟩:=hp.cut;rw[Ot]at hn;obtain⟨n1,n2,n3⟩:=hn;rw[NP]at n2
  have hp':∀x∈p,x∈M:=λx hx=>by
   rcases Nl.mp (hm x (OD _ hx))with rfl|z
   ·exact absurd rfl (n3 x hx x Nb)
   ·exact z
  have hq':∀x∈q,x∈M:=λx hx=>by
   rcases Nl.mp (hm x (NM _ (Na _ hx)))with rfl|z
   ·exact absurd hx n2.1
   ·exact z
  obtain⟨y1,e1,l1⟩:=h u k p s1 h1 n1 hp';obtain⟨y2,e2,l2⟩:=h k v q s2 h2 n2.2 hq';obtain⟨z,e3,l3⟩:=DI (P:=P) (h1.ends hL).1 (h2.ends hL).2.1 e1 e2;exact⟨z,e3,by omega⟩
 ·obtain⟨y,e,l⟩:=h u v ms s hp hn λx hx=>by
   rcases Nl.mp (hm x hx)with rfl|z
   ·exact absurd hx hk
   ·exact z
  obtain⟨z,e2,l2⟩:=xv k P P f u v y e;exact⟨z,e2,by omega⟩
theorem Up.MW{L:bU ν}{P:List ν}(hL:∀x∈L,x.1∈P/\x.2.1∈P):∀(Q M:List ν)(f:di ν),Up L M f->∃M',(∀x,x∈Q\/x∈M->x∈M')/\Up L M' (xw Q P f)
 |[],M,f,h=>⟨M,λx hx=>hx.elim (λz=>by simp at z) id,h⟩
 |k::Q,M,f,h=>by
  obtain⟨M',h1,h2⟩:=Up.MW hL Q (k::M) (ql k P P f) (h.mid hL k);refine⟨M',λx hx=>h1 x ?_,h2⟩
  rcases hx with hx|hx
  ·rcases Nl.mp hx with rfl|hx
   ·exact .inr Nb
   ·exact .inl hx
  ·exact .inr (Na _ hx)
def ET{P:List ν}{L:bU ν}:Up L [] (B1 P L):=λu v ms s hp hn hm=>by
 have:ms=[]:=by
  cases ms with
  |nil=>rfl
  |cons x r=>exact absurd (hm x Nb) (by simp)
 subst this
 cases hp with
 |one e=>
  obtain⟨g,h1,h2⟩:=oB (λ(f:di ν)(x:ν×ν×Int)=>oh f x.1 x.2.1 x.2.2) (λf x=>uX f _ _ _) L (vJ P) _ e
  obtain⟨y,e1,l1⟩:=Ao g u v s;obtain⟨z,e2,l2⟩:=h2 u v y e1;exact⟨z,e2,by omega⟩
theorem gP{L:bU ν}(step:di ν->α->di ν):∀(l:List α)(f:di ν),(∀f,∀a∈l,(∀u v y,f u v=ZA y->Wk L u v y)->∀u v y,step f a u v=ZA y->Wk L u v y)->(∀u v y,f u v=ZA y->Wk L u v y)->∀u v y,l.foldl step f u v=ZA y->Wk L u v y
 |[],f,_,h=>h
 |a::l,f,hs,h=>gP step l (step f a) (λf b hb=>hs f b (Na _ hb)) (hs f a Nb h)
def nF(P:List ν)(L:bU ν):∀u v y,table P L u v=ZA y->Wk L u v y:=by
 unfold table xw;refine gP _ P _ (λf m _ h=>?_) ?_
 ·unfold ql
  refine gP _ P _ (λf o _ h=>?_) h
  unfold mB;refine gP _ P _ (λf v _ h=>?_) h
  unfold my
  cases e1:f o m with
  |none=>exact h
  |some x=>
   cases e2:f m v with
   |none=>exact h
   |some y=>exact qo h ((h _ _ _ e1).app (h _ _ _ e2))
 ·unfold B1
  refine gP _ L _ (λf x hx h=>qo h (.one hx)) λu v y e=>?_
  unfold vJ at e
  split at e
  ·rename_i z;obtain⟨_,rfl⟩:=z;cases e;exact .nil u
  ·cases e
def vI{P:List ν}{L:bU ν}(hL:∀x∈L,x.1∈P/\x.2.1∈P):∀u v ms s,Pth L u ms v s->ms.Nodup->∃y,table P L u v=ZA y/\y<=s:=λu v ms s hp hn=>by
 obtain⟨M',h1,h2⟩:=Up.MW hL P [] (B1 P L) ET;exact h2 u v ms s hp hn λx hx=>h1 x (.inl ((hp.ends hL).2.2 x hx))
def oN{P:List ν}{L:bU ν}{u:ν}(hu:u∈P):∃y,table P L u u=ZA y/\y<=0:=by
 have h0:vJ P u u=ZA 0:=by unfold vJ;rw[if_pos ⟨hu,rfl⟩]
 have h1:Le (table P L) (vJ P):=(DJ P P _).trans (kG _ (λf x=>uX f _ _ _) L _)
 exact h1 u u 0 h0
structure cR (L:bU ν)(P:List ν)(f:di ν):Prop where
 is:∀u v d,f u v=ZA d->Wk L u v d
 le:∀u∈P,∀v t,Wk L u v t->∃d,f u v=ZA d/\d<=t
def rL{P:List ν}{L:bU ν}{u:ν}(h:table P L u u=ZA y)(hy:y<0):¬ cf L:=λn=>by
 have:=n u y (nF P L u u y h);omega
def nG{P:List ν}{L:bU ν}(hL:∀x∈L,x.1∈P/\x.2.1∈P)(h:∀u∈P,∀y,table P L u u=ZA y->0<=y):cf L/\cR L P (table P L):=by
 have nc:¬ Er L:=λ⟨x,ms,s,hp,hn,_,hs⟩=>by
  obtain⟨y,e,l⟩:=vI hL x x ms s hp hn
  have:=h x (hp.ends hL).1 y e;omega
 have le:∀u∈P,∀v t,Wk L u v t->∃d,table P L u v=ZA d/\d<=t:=λu hu v t w=>by
  rcases w.simple with z|⟨s',hs,z⟩
  ·exact absurd z nc
  ·rcases z with⟨rfl,rfl⟩|⟨_,ms,hp,hn,_⟩
   ·obtain⟨y,e,l⟩:=oN (L:=L) hu
    exact⟨y,e,by omega⟩
   ·obtain⟨y,e,l⟩:=vI hL u v ms s' hp hn
    exact⟨y,e,by omega⟩
 refine⟨λa s w=>?_,λu v d e=>nF P L u v d e,le⟩
 by_cases ha:a∈P
 ·obtain⟨d,e,l⟩:=le a ha a s w
  have:=h a ha d e;omega
 ·cases w with
  |nil=>exact O0 _
  |step e _=>exact absurd (hL _ e).1 ha
end Gr
variable{j:Int}
namespace G
open PySem Tr
def isI:T->Bool
 |.int _=>ZC
 |_=>ZD
def Gv(t:T)(h:t.pl=ZC):i7 [t]=.ok (.bl (isI t)):=by
 cases t <;> first|rfl| (simp[T.pl]at h;done)
def bw(t:T)(a b:Int):Bool:=match t with
 |.int i=>decide (a<=i)&&decide (i<=b)
 |_=>ZD
def gR(t:T)(a b:Int)(h:t.pl=ZC):bj [t,.int a,.int b]=.ok (.bl (bw t a b)):=by
 have w:=Gv t h
 cases t with
 |int i=>
  simp[bj,val,bQ,kf,aR,aM,cE,vr,ch,cl,af,ai,vf,bw,w,isI]
  cases decide (a<=i) <;> rfl
 |scr _=>simp[T.pl]at h
 |dct _ _=>simp[T.pl]at h
 |ob _ _ _=>simp[T.pl]at h
 |_=>simp[bj,val,bQ,kf,aR,aM,cE,vr,ch,cl,af,ai,bw,w,isI]
def fz(t:T)(a b:Nat):Bool:=match t with
 |.tup l=>decide (a<=l.length)&&decide (l.length<=b)
 |_=>ZD
def lK(t:T)(a b:Nat)(h:t.pl=ZC):aS [t,.int a,.int b]=.ok (.bl (fz t a b)):=by
 cases t with
 |tup l=>
  simp[aS,val,bQ,sX,aR,aM,cE,o1,vr,Gj,T.ty,Ak,ch,cl,af,ai,dj,T.items,vf,fz]
  cases decide (a<=l.length) <;> rfl
 |scr _=>simp[T.pl]at h
 |dct _ _=>simp[T.pl]at h
 |ob _ _ _=>simp[T.pl]at h
 |_=>rfl
def pw(x y:T):Bool:=bw x 1 9&&(match x with
 |.int i=>bw y i 9
 |_=>ZD)
def JN(x y:T)(hx:x.pl=ZC)(hy:y.pl=ZC):gB [x,y]=.ok (.bl (pw x y)):=by
 have w:=gR x 1 9 hx;unfold pw
 cases q:bw x 1 9 with
 |false=>rw[q]at w;simp[gB,val,bQ,nC,aR,aM,cE,vr,cn,cl,af,ai,w]
 |true=>
  rw[q]at w
  cases x with
  |int i=>simp[gB,val,bQ,nC,aR,aM,cE,vr,cn,cl,af,ai,w,gR y i 9 hy]
  |_=>cases q
def oo:List Int->Bool
 |a::b::r=>decide (a<b)&&oo (b::r)
 |_=>ZC
def Fd(a b:Int)(r:List Int):oo (a::b::r)=(decide (a<b)&&oo (b::r)):=rfl
variable{Z:En}{l:List T}{p:T->Bool}
def vk{fe:V5}{fi:V3}{src:List (Option Nat)}(hi:fi Z=.ok l)(hs:l.length<=ZI)(hn:0<src.length)(hf:∀t∈l,fe ((bR src Z).set 0 (.va t))=.ok (.bl (p t))):
  cl rH (af (eh fi src (gN 0) bT fe) ai) Z=.ok (.bl (l.all p)):=by
 have e:=yO (fe:=fe) (h:=λt=>T.bl (p t)) l (bR src Z) (by unfold bR;rw[Nc];exact hn) hf
 simp only[cl,af,ai,eh,hi,aF,if_pos hs,e,all_map]
noncomputable def m7(l:List T):T->Bool
 |.int k=>match L2.atI l k,L2.atI l (k+1)with
  |some (.int a),ZA (.int b)=>decide (a<b)
  |_,_=>ZD
 |_=>ZD
def kn{t:T}(h:t∈rng 0 j):∃k:Nat,t=.int k/\(k:Int)<j:=by
 unfold rng at h;obtain⟨k,hk,e⟩:=NA.mp h;rw[OJ]at hk;exact⟨k,by rw[<-e];simp,by omega⟩
theorem HV:(l:List Int)->l.length<=4->(rng 0 ((l.length:Int) - 1)).all (m7 (l.map .int))=oo l
 |[],_=>rfl
 |[a],_=>rfl
 |[a,b],_=>by simp[rng,Ti,m7,L2.atI,L2.ixN,oo]
 |[a,b,c],_=>by simp[rng,Ti,m7,L2.atI,L2.ixN,oo]
 |[a,b,c,d],_=>by simp[rng,Ti,m7,L2.atI,L2.ixN,oo,Bool.and_assoc]
 |a::b::c::d::e::r,h=>absurd h (by simp only[Nj];omega)
def Gx(l:List Int)(h:l.length<=4):kD [.tup (l.map .int)]=.ok (.bl (oo l)):=by
 have hr:iR (af (o2 cX (cl dj (af (vr 0) ai)) (cn (.int 1))) ai) [.va (.tup (l.map .int))]=.ok (rng 0 ((l.length:Int) - 1)):=by
  have:vA ((l.length:Int) - 1)=ZC:=by unfold vA;rw[Ni];exact⟨decide_eq_true (by omega),decide_eq_true (by omega)⟩
  simp[iR,af,ai,o2,cl,vr,cn,dj,T.items,cX,this]
 have hs:(rng 0 ((l.length:Int) - 1)).length<=ZI:=by
  unfold rng ZI;rw[Nc,O7];omega
 have e:=vk (fe:=o2 rC (o2 aY (vr 1) (vr 0)) (o2 aY (vr 1) (o2 aU (vr 0) (cn (.int 1))))) (p:=m7 (l.map .int)) (src:=[ZB,ZA 0]) hr hs (by decide) (λt ht=>by
  obtain⟨k,rfl,hk⟩:=kn ht
  have h1:(l.map T.int)[k]?=ZA (.int (l[k]'(by omega))):=by simp
  have h2:(l.map T.int)[k+1]?=ZA (.int (l[k+1]'(by omega))):=by rw[NC,Nk (by omega)];rfl
  have g1:=lM h1
  have g2:L2.atI (l.map T.int) ((k:Int)+1)=ZA (.int (l[k+1]'(by omega))):=lM h2
  simp[o2,vr,bR,cn,aU,aY,T.items,g1,g2,vf,m7])
 rw[HV l h]at e;simp only[kD,val,Pe,if_true,AG,bQ,aM,aR]
 show(do let f <-(do let t <-cl rH _ [.va (.tup (l.map .int))];Rs.ok (Fl.rt t));_)=_
 rw[e]
 rfl
noncomputable def nums:List T->Option (List Int)
 |[] =>ZA []
 |.int i::l=>match nums l with
  |some m=>ZA (i::m)
  |none=>ZB
 |_::_=>ZB
noncomputable def df(t:T):Bool:=fz t 1 4&&(match t with
 |.tup l=>l.all (λu=>bw u 0 99)&&(match nums l with|some m=>oo m|none=>ZD)
 |_=>ZD)
theorem pM:∀{l:List T}{m:List Int},nums l=ZA m->l=m.map .int
 |[],m,h=>by cases h;rfl
 |t::l,m,h=>by
  cases t with
  |int i=>
   unfold nums at h
   cases q:nums l with
   |none=>rw[q]at h;cases h
   |some m'=>rw[q]at h;cases h;rw[Nd,<-pM q]
  |_=>cases h
theorem uo:∀{l:List T}{a b:Int},(l.all λu=>bw u a b)=ZC->∃m,nums l=ZA m
 |[],_,_,_=>⟨[],rfl⟩
 |t::l,a,b,h=>by
  rw[Um,Ni]at h
  cases t with
  |int i=>
   obtain⟨m,e⟩:=uo h.2
   exact⟨i::m,by unfold nums;rw[e]⟩
  |_=>exact absurd h.1 (by simp[bw])
def dS{t:T}{b:Nat}(h:fz t a b=ZC):∃l,t=.tup l/\a<=l.length/\l.length<=b:=by
 cases t with
 |tup l=>unfold fz at h;rw[Ni]at h;exact⟨l,rfl,of_decide_eq_true h.1,of_decide_eq_true h.2⟩
 |_=>cases h
def small{k:Nat}(h:n<=k)(hk:autoParam (k<=1000) s_):n<=ZI:=by unfold ZI;omega
def yX(t:T)(h:t.pl=ZC):bZ [t]=.ok (.bl (df t)):=by
 have w:aS [t,.int 1,.int 4]=.ok (.bl (fz t 1 4)):=lK t 1 4 h;unfold df
 cases q:fz t 1 4 with
 |false=>rw[q]at w;simp[bZ,val,bQ,fE,aR,ax,ee,dt,tb,sN,aM,cl,vr,cn,af,ai,w]
 |true=>
  rw[q]at w;obtain⟨l,rfl,h1,h2⟩:=dS q
  have hp:∀u∈l,u.pl=ZC:=λu hu=>iZ (by unfold T.pl at h;exact h) hu
  have e:=vk (fe:=cl bj (af (vr 0) (af (cn (.int 0)) (af (cn (.int 99)) ai)))) (p:=λu=>bw u 0 99) (src:=[ZB]) (fi:=iS (vr 0)) (Z:=[.va (.tup l)]) rfl (small h2) (by decide) (λu hu=>by
   simp[cl,af,ai,vr,cn,bR,gR u 0 99 (hp u hu)])
  have w':cl aS (af (vr 0) (af (cn (.int 1)) (af (cn (.int 4)) ai))) [.va (.tup l)]=.ok (.bl ZC):=w
  show bZ _=.ok (.bl (ZC&&(l.all (λu=>bw u 0 99)&&(match nums l with|some m=>oo m|none=>ZD))))
  cases qa:l.all λu=>bw u 0 99 with
  |false=>
   rw[qa]at e
   simp[bZ,val,bQ,fE,aR,ax,ee,dt,tb,sN,aM,cE,e,w']
  |true=>
   rw[qa]at e;obtain⟨m,em⟩:=uo qa
   have el:=pM em
   have er:=Gx m (by rw[el,Nc]at h2;exact h2)
   rw[<-el]at er
   have er':cl kD (af (vr 0) ai) [.va (.tup l)]=.ok (.bl (oo m)):=er;simp[bZ,val,bQ,fE,aR,ax,ee,dt,tb,sN,aM,cE,e,w',er',em]
def at_(t:T)(k:Nat):T:=match t.items with
 |some l=>l.getD k .non
 |none=>.non
noncomputable def bO(t:T):Bool:=fz t 3 3&&(match t with
 |.tup [x,y,r] =>pw x y&&df r
 |_=>ZD)
def GA(t:T)(h:t.pl=ZC):dQ [t]=.ok (.bl (bO t)):=by
 have w:aS [t,.int 3,.int 3]=.ok (.bl (fz t 3 3)):=lK t 3 3 h;unfold bO
 cases q:fz t 3 3 with
 |false=>rw[q]at w;simp[dQ,val,bQ,ji,aR,aM,cE,cl,vr,cn,af,ai,w]
 |true=>
  rw[q]at w;obtain⟨l,rfl,h1,h2⟩:=dS q
  match l,h1,h2 with
  |[x,y,r],_,_=>
   simp[T.pl,plS]at h;obtain⟨px,py,pr⟩:=h
   have g0:aY (.tup [x,y,r]) (.int 0)=.ok x:=rfl
   have g1:aY (.tup [x,y,r]) (.int 1)=.ok y:=rfl
   have g2:aY (.tup [x,y,r]) (.int 2)=.ok r:=rfl
   have ep:=JN x y px py
   have er:=yX r pr
   cases qp:pw x y with
   |false=>rw[qp]at ep;simp[dQ,val,bQ,ji,aR,aM,cE,cl,vr,cn,af,ai,o2,w,g0,g1,ep,qp]
   |true=>rw[qp]at ep;simp[dQ,val,bQ,ji,aR,aM,cE,cl,vr,cn,af,ai,o2,w,g0,g1,g2,ep,er,qp]
def br(t:T):Bool:=fz t 1 4&&(match t with
 |.tup l=>l.all bO
 |_=>ZD)
def DZ(t:T)(h:t.pl=ZC):dY [t]=.ok (.bl (br t)):=by
 have w:aS [t,.int 1,.int 4]=.ok (.bl (fz t 1 4)):=lK t 1 4 h;unfold br
 cases q:fz t 1 4 with
 |false=>rw[q]at w;simp[dY,val,bQ,jl,aR,aM,cE,cl,vr,cn,af,ai,w]
 |true=>
  rw[q]at w;obtain⟨l,rfl,h1,h2⟩:=dS q
  have hp:∀u∈l,u.pl=ZC:=λu hu=>iZ (by unfold T.pl at h;exact h) hu
  have e:=vk (fe:=cl dQ (af (vr 0) ai)) (p:=bO) (src:=[ZB]) (fi:=iS (vr 0)) (Z:=[.va (.tup l)]) rfl (small h2) (by decide) (λu hu=>by
   simp[cl,af,ai,vr,cn,bR,GA u (hp u hu)])
  have w':cl aS (af (vr 0) (af (cn (.int 1)) (af (cn (.int 4)) ai))) [.va (.tup l)]=.ok (.bl ZC):=w;simp[dY,val,bQ,jl,aR,aM,cE,e,w']
def fT(x y:T):Bool:=bw x 0 999&&(match x,y with
 |_,.non=>ZC
 |.int i,_=>bw y i 999
 |_,_=>ZD)
def Gz(x y:T)(hx:x.pl=ZC)(hy:y.pl=ZC):eQ [x,y]=.ok (.bl (fT x y)):=by
 have w:=gR x 0 999 hx;unfold fT
 cases q:bw x 0 999 with
 |false=>rw[q]at w;simp[eQ,val,bQ,jh,aR,aM,cE,vr,cn,cl,af,ai,w]
 |true=>
  rw[q]at w
  cases x with
  |int i=>
   have e:=gR y i 999 hy
   cases y with
   |non=>simp[eQ,val,bQ,jh,aR,aM,cE,BD,vr,cn,cl,af,ai,o2,gj,T.isN,w]
   |_=>simp[eQ,val,bQ,jh,aR,aM,cE,BD,vr,cn,cl,af,ai,o2,gj,T.isN,w,e]
  |_=>cases q
noncomputable def reads(cs:List T)(c:Int):Nat:=if 0<=c then(match cs[c.toNat]? with
 |some (.tup [_,_,.tup r])=>r.length
 |_=>0)else 0
noncomputable def bp(cs:List T)(t:T):Bool:=match t with
 |.tup [.int c,.int k] =>decide (0<=c)&&decide (c<cs.length)&&(decide (0<=k)&&decide (k<reads cs c))
 |_=>ZD
def nT{t:T}(h:bO t=ZC):∃x y r,t=.tup [x,y,.tup r]:=by
 unfold bO at h;rw[Ni]at h;obtain⟨h1,h2⟩:=h;obtain⟨l,rfl,h3,h4⟩:=dS h1
 match l,h3,h4,h2 with
 |[x,y,r],_,_,h2=>
  simp only[Ni]at h2;obtain⟨_,h5⟩:=h2;unfold df at h5;rw[Ni]at h5;obtain⟨m,rfl,_⟩:=dS h5.1;exact⟨x,y,m,rfl⟩
def dN{t:T}{a b:Int}(h:bw t a b=ZC):∃i,t=.int i/\a<=i/\i<=b:=by
 cases t with
 |int i=>unfold bw at h;rw[Ni]at h;exact⟨i,rfl,of_decide_eq_true h.1,of_decide_eq_true h.2⟩
 |_=>cases h
def u5(cs:List T)(t:T)(hc:br (.tup cs)=ZC)(h:t.pl=ZC):cU [.tup cs,t]=.ok (.bl (bp cs t)):=by
 have w:aS [t,.int 2,.int 2]=.ok (.bl (fz t 2 2)):=lK t 2 2 h
 cases q:fz t 2 2 with
 |false=>
  rw[q]at w
  have:bp cs t=ZD:=by
   unfold bp;split
   ·cases q
   ·rfl
  simp[cU,val,bQ,jg,aR,ax,ee,l8,dt,tb,sN,aM,cl,vr,cn,af,ai,w,this]
 |true=>
  rw[q]at w;obtain⟨l,rfl,h1,h2⟩:=dS q
  match l,h1,h2 with
  |[x,y],_,_=>
   simp[T.pl,plS]at h;obtain⟨px,py⟩:=h
   have g0:aY (.tup [x,y]) (.int 0)=.ok x:=rfl
   have g1:aY (.tup [x,y]) (.int 1)=.ok y:=rfl
   have gl:dj [.tup cs]=.ok (.int cs.length):=rfl
   have e1:=gR x 0 ((cs.length:Int) - 1) px
   cases q1:bw x 0 ((cs.length:Int) - 1)with
   |false=>
    rw[q1]at e1
    have:bp cs (.tup [x,y])=ZD:=by
     cases x with
     |int c=>
      cases y with
      |int k=>
       simp only[bw,Tj,decide_eq_false_iff_not]at q1;simp only[bp,Tj,decide_eq_false_iff_not]
       omega
      |_=>rfl
     |_=>rfl
    simp[cU,val,bQ,jg,aR,ax,ee,l8,dt,tb,sN,aM,cl,vr,cn,af,ai,o2,cX,w,g0,gl,e1,this]
   |true=>
    rw[q1]at e1;obtain⟨c,rfl,c1,c2⟩:=dN q1;obtain⟨n,rfl⟩:=Ol c1
    have hn:n<cs.length:=by omega
    have hcl:bO cs[n]=ZC:=by
     unfold br at hc;rw[Ni]at hc;exact NN.mp hc.2 _ (Oi hn)
    obtain⟨a,b,r,er⟩:=nT hcl
    have g2:aY (.tup cs) (.int (n:Int))=.ok (.tup [a,b,.tup r]):=by
     simp only[aY,T.items];rw[lM (Nk hn),er]
    have g3:aY (.tup [a,b,.tup r]) (.int 2)=.ok (.tup r):=rfl
    have gr:dj [.tup r]=.ok (.int r.length):=rfl
    have e2:=gR y 0 ((r.length:Int) - 1) py
    have:bp cs (.tup [.int n,y])=bw y 0 ((r.length:Int) - 1):=by
     have er2:reads cs (n:Int)=r.length:=by
      unfold reads;rw[if_pos c1,Oq,Nk hn,er]
     cases y with
     |int k=>
      simp only[bp,bw,er2];rw[decide_eq_true c1,decide_eq_true (show(n:Int)<cs.length by omega)]
      simp only[Rf]
      congr 1
      exact decide_eq_decide.mpr (by omega)
     |_=>rfl
    simp[cU,val,bQ,jg,aR,ax,ee,l8,dt,tb,sN,aM,cl,vr,cn,af,ai,o2,cX,w,g0,g1,g2,g3,gl,gr,e1,e2,this]
noncomputable def bF(cs:List T)(t:T):Bool:=match t with
 |.tup [a,b,x,y] =>fT x y&&(bp cs a&&(bp cs b&& !bc a b))
 |_=>ZD
variable{cs:List T}
def f7{t:T}(h:bp cs t=ZC):∃c k:Int,t=.tup [.int c,.int k]:=by
 unfold bp at h
 split at h
 ·exact⟨_,_,rfl⟩
 ·cases h
def DS(cs:List T)(t:T)(hc:br (.tup cs)=ZC)(h:t.pl=ZC):cv [.tup cs,t]=.ok (.bl (bF cs t)):=by
 have w:aS [t,.int 4,.int 4]=.ok (.bl (fz t 4 4)):=lK t 4 4 h
 cases q:fz t 4 4 with
 |false=>
  rw[q]at w
  have:bF cs t=ZD:=by
   unfold bF;split
   ·cases q
   ·rfl
  simp[cv,val,bQ,e9,aR,ax,ee,l8,dt,tb,sN,aM,cl,vr,cn,af,ai,w,this]
 |true=>
  rw[q]at w;obtain⟨l,rfl,h1,h2⟩:=dS q
  match l,h1,h2 with
  |[a,b,x,y],_,_=>
   simp[T.pl,plS]at h;obtain⟨pa,pb,px,py⟩:=h
   have g0:aY (.tup [a,b,x,y]) (.int 0)=.ok a:=rfl
   have g1:aY (.tup [a,b,x,y]) (.int 1)=.ok b:=rfl
   have g2:aY (.tup [a,b,x,y]) (.int 2)=.ok x:=rfl
   have g3:aY (.tup [a,b,x,y]) (.int 3)=.ok y:=rfl
   have e1:=Gz x y px py
   have e2:=u5 cs a hc pa
   have e3:=u5 cs b hc pb
   show _=Rs.ok (T.bl (fT x y&&(bp cs a&&(bp cs b&& !bc a b))))
   cases q1:fT x y with
   |false=>
    rw[q1]at e1
    simp[cv,val,bQ,e9,aR,ax,ee,l8,dt,tb,sN,aM,cl,vr,cn,af,ai,o2,w,g2,g3,e1]
   |true=>
    rw[q1]at e1
    cases q2:bp cs a with
    |false=>
     rw[q2]at e2
     simp[cv,val,bQ,e9,aR,ax,ee,l8,dt,tb,sN,aM,cE,cl,vr,cn,af,ai,o2,w,g0,g2,g3,e1,e2]
    |true=>
     rw[q2]at e2
     cases q3:bp cs b with
     |false=>
      rw[q3]at e3
      simp[cv,val,bQ,e9,aR,ax,ee,l8,dt,tb,sN,aM,cE,cl,vr,cn,af,ai,o2,w,g0,g1,g2,g3,e1,e2,e3]
     |true=>
      rw[q3]at e3;obtain⟨c,k,rfl⟩:=f7 q2
      have f:gQ (.tup [.int c,.int k]) b=ZC:=iP (by simp[T.dep,deps]) rfl (T.L6 _ pb)
      have g4:jy (.tup [.int c,.int k]) b=.ok (.bl (!bc (.tup [.int c,.int k]) b)):=by unfold jy;rw[if_pos f]
      simp[cv,val,bQ,e9,aR,ax,ee,l8,dt,tb,sN,aM,cE,cl,vr,cn,af,ai,o2,w,g0,g1,g2,g3,g4,e1,e2,e3]
def kE(cs:List T)(t:T):Bool:=fz t 0 8&&(match t with
 |.tup l=>l.all (bF cs)
 |_=>ZD)
def Bm(cs:List T)(t:T)(hc:br (.tup cs)=ZC)(h:t.pl=ZC):dC [.tup cs,t]=.ok (.bl (kE cs t)):=by
 have w:aS [t,.int 0,.int 8]=.ok (.bl (fz t 0 8)):=lK t 0 8 h;unfold kE
 cases q:fz t 0 8 with
 |false=>rw[q]at w;simp[dC,val,bQ,iy,aR,aM,cE,cl,vr,cn,af,ai,w]
 |true=>
  rw[q]at w;obtain⟨l,rfl,h1,h2⟩:=dS q
  have hp:∀u∈l,u.pl=ZC:=λu hu=>iZ (by unfold T.pl at h;exact h) hu
  have e:=vk (fe:=cl cv (af (vr 1) (af (vr 0) ai))) (p:=bF cs) (src:=[ZB,ZA 0]) (fi:=iS (vr 1)) (Z:=[.va (.tup cs),.va (.tup l)]) rfl (small h2) (by decide) (λu hu=>by
   simp[cl,af,ai,vr,cn,bR,DS cs u hc (hp u hu)])
  have w':cl aS (af (vr 1) (af (cn (.int 0)) (af (cn (.int 8)) ai))) [.va (.tup cs),.va (.tup l)]=.ok (.bl ZC):=w;simp[dC,val,bQ,iy,aR,aM,cE,e,w']
noncomputable def fK(t:T):Bool:=match t with
 |.tup [.tup cs,ls] =>br (.tup cs)&&kE cs ls
 |_=>ZD
def xF(t:T)(h:t.pl=ZC):dP [t]=.ok (.bl (fK t)):=by
 have w:aS [t,.int 2,.int 2]=.ok (.bl (fz t 2 2)):=lK t 2 2 h
 cases q:fz t 2 2 with
 |false=>
  rw[q]at w
  have:fK t=ZD:=by
   unfold fK;split
   ·cases q
   ·rfl
  simp[dP,val,bQ,hY,aR,aM,cE,cl,vr,cn,af,ai,w,this]
 |true=>
  rw[q]at w;obtain⟨l,rfl,h1,h2⟩:=dS q
  match l,h1,h2 with
  |[x,y],_,_=>
   simp[T.pl,plS]at h;obtain⟨px,py⟩:=h
   have g0:aY (.tup [x,y]) (.int 0)=.ok x:=rfl
   have g1:aY (.tup [x,y]) (.int 1)=.ok y:=rfl
   have e1:=DZ x px
   cases q1:br x with
   |false=>
    rw[q1]at e1
    have:fK (.tup [x,y])=ZD:=by
     cases x with
     |tup cs=>show(br (.tup cs)&&_)=ZD;rw[q1];rfl
     |_=>rfl
    simp[dP,val,bQ,hY,aR,aM,cE,cl,vr,cn,af,ai,o2,w,g0,e1,this]
   |true=>
    rw[q1]at e1
    cases x with
    |tup cs=>
     have e2:=Bm cs y q1 py
     have:fK (.tup [.tup cs,y])=kE cs y:=by show(br (.tup cs)&&_)=_;rw[q1];rfl
     simp[dP,val,bQ,hY,aR,aM,cE,cl,vr,cn,af,ai,o2,w,g0,g1,e1,e2,this]
    |_=>cases q1
theorem gC:∀m:List Int,deps (m.map .int)=0
 |[] =>rfl
 |a::m=>by rw[Nd,deps,gC m];rfl
def mE(i n:Nat):List T:=(rng 0 n).map λt=>T.tup [.int i,t]
def HY:T->Nat
 |.tup [_,_,.tup r] =>r.length
 |_=>0
def fG:Nat->List T->List T
 |_,[] =>[]
 |i,c::r=>mE i (HY c)++fG (i+1) r
def f9{t:T}(h:bO t=ZC):∃x y r,t=.tup [x,y,.tup r]/\1<=r.length/\r.length<=4:=by
 obtain⟨x,y,r,rfl⟩:=nT h
 have:df (.tup r)=ZC:=by
  have h':(pw x y&&df (.tup r))=ZC:=h;rw[Ni]at h';exact h'.2
 unfold df at this;rw[Ni]at this;obtain⟨l,e,h1,h2⟩:=dS this.1;cases e;exact⟨x,y,r,rfl,h1,h2⟩
def iQ(i n:Nat):(mE i n).length=n:=by unfold mE;rw[Nc,kr]
abbrev evG:T->En->Rs En:=gT 2 (dE (gN 2) (dE (gN 3) j4))
def JF{f:V3}(h:f Z=.ok [.int j])(h0:0<=j)(h1:j<=100000):iR f Z=.ok (rng 0 j):=by
 have e:vA j=ZC:=by unfold vA;rw[Ni];exact⟨decide_eq_true (by omega),decide_eq_true (by omega)⟩
 unfold iR;rw[h]
 show(if vA j=ZC then _ else _)=_
 rw[e];rfl
def vm(l m:List T)(h:(l++m).length<=1000):aU (.lst l) (.lst m)=.ok (.lst (l++m)):=by
 show lg (l++m)=_
 unfold lg;rw[if_pos (aA h)]
def AB(l m:List T)(h:(l++m).length<=1000):aU (.tup l) (.tup m)=.ok (.tup (l++m)):=by
 show lb (l++m)=_
 unfold lb;rw[if_pos (aA h)]
def Ls(c0 acc x y:T)(r:List T)(i:Nat)(h:r.length<=4):
  eh (iR (af (cl dj (af (o2 aY (vr 3) (cn (.int 2))) ai)) ai)) [ZB,ZA 2] (gN 0) bT (bA (af (vr 1) (af (vr 0) ai))) [.va c0,.va acc,.va (.int i),.va (.tup [x,y,.tup r])]=.ok (.lst (mE i r.length)):=
 qf (JF (j:=(r.length:Int)) rfl (by omega) (by omega)) (aA (k:=4) (by rw[kr];exact h)) (by simp) λt _=>mk2 _ _
def Gq(c0 x y:T)(acc r:List T)(i:Nat)(h:r.length<=4)(ha:acc.length<=100):evF [.va c0,.va (.lst acc),.va (.int i),.va (.tup [x,y,.tup r])]=.ok (.nx [.va c0,.va (.lst (acc++mE i r.length)),.va (.int i),.va (.tup [x,y,.tup r])]):=
 bS (aB (t:=.lst acc) rfl (Ls c0 (.lst acc) x y r i h) (vm _ _ (by rw[Nm,iQ];omega))) rfl
theorem Ap:∀(cs:List T)(c0:T)(acc:List T)(i:Nat)(s2 s3:Sl),(∀c∈cs,bO c=ZC)->acc.length+4*cs.length<=100 →
  ∃y2 y3,a8 evG evF (cb i cs) [.va c0,.va (.lst acc),s2,s3]=.ok (.nx [.va c0,.va (.lst (acc++fG i cs)),y2,y3])
 |[],c0,acc,i,s2,s3,_,_=>⟨s2,s3,by simp[cb,a8,fG]⟩
 |c::cs,c0,acc,i,s2,s3,hc,hl=>by
  obtain⟨x,y,r,rfl,r1,r2⟩:=f9 (hc c Nb);rw[Nj]at hl;obtain⟨z2,z3,ih⟩:=Ap cs c0 (acc++mE i r.length) (i+1) (.va (.int i)) (.va (.tup [x,y,.tup r])) (λc h=>hc c (Na _ h)) (by rw[Nm,iQ];omega)
  refine⟨z2,z3,?_⟩
  rw[cb,cI (Z1:=[.va c0,.va (.lst acc),.va (.int i),.va (.tup [x,y,.tup r])]) rfl (Gq c0 x y acc r i r2 (by omega)),ih,fG,ND]
  rfl
def cV(hc:br (.tup cs)=ZC):(∀c∈cs,bO c=ZC)/\1<=cs.length/\cs.length<=4:=by
 unfold br at hc;rw[Ni]at hc;obtain⟨l,e,h1,h2⟩:=dS hc.1;cases e;exact⟨λc h=>NN.mp hc.2 c h,h1,h2⟩
def DV(cs:List T)(hc:br (.tup cs)=ZC):eC [.tup cs]=.ok (.lst (fG 0 cs)):=by
 obtain⟨ha,h1,h2⟩:=cV hc;obtain⟨y2,y3,e⟩:=Ap cs (.tup cs) [] 0 .em .em ha (by simp;omega)
 rw[OC]at e;refine bz rfl ?_
 unfold lz;rw[ay (Z':=[.va (.tup cs),.va (.lst []),.em,.em]) rfl,ay ((d6 (ts:=cb 0 cs) rfl e))]
 rfl
def F7{k:Nat}(h:k<n):T.int (k:Int)∈rng 0 (n:Int):=by
 unfold rng;exact NA.mpr ⟨k,OJ.mpr (by omega),by simp⟩
def rV(cs:List T)(c:Nat):reads cs (c:Int)=HY (cs.getD c .non):=by
 unfold reads;rw[if_pos (by omega),Oq,List.getD_eq_getElem?_getD]
 cases cs[c]? with
 |none=>rfl
 |some t=>
  cases t with
  |tup l=>
   match l with
   |[] =>rfl
   |[_] =>rfl
   |[_,_] =>rfl
   |[_,_,z] =>cases z <;> rfl
   |_::_::z::_::_=>cases z <;> rfl
  |_=>rfl
theorem w4{g:T->En->Rs En}{F:V4}(J:En->Prop):∀(ts:List T),(∀t∈ts,∀Z,J Z->∃Z1,g t Z=.ok Z1/\(p t=ZC->∃Z2,F Z1=.ok (.nx Z2)/\J Z2)/\(p t=ZD->F Z1=.ok (.rt (.bl ZD)))) →
  ∀Z,J Z->(ts.all p=ZC->∃Z',a8 g F ts Z=.ok (.nx Z')/\J Z')/\(ts.all p=ZD->a8 g F ts Z=.ok (.rt (.bl ZD)))
 |[],_,Z,hj=>⟨λ_=>⟨Z,rfl,hj⟩,λh=>(by cases h)⟩
 |t::ts,hs,Z,hj=>by
  obtain⟨Z1,h1,h2,h3⟩:=hs t Nb Z hj;rw[Um]
  cases q:p t with
  |false=>exact⟨λh=>(by cases h),λ_=>Ag h1 (h3 q)⟩
  |true=>
   obtain⟨Z2,e2,j2⟩:=h2 q;rw[cI h1 e2,Rf];exact w4 J ts (λt ht=>hs t (Na _ ht)) Z2 j2
mutual
def sm(n:Nat):T->Bool
 |.dct _ _=>ZD
 |.ob _ _ _=>ZD
 |.scr _=>ZD
 |.tup l=>decide (l.length<=n)&&sms n l
 |.lst l=>decide (l.length<=n)&&sms n l
 |_=>ZC
def sms(n:Nat):List T->Bool
 |[] =>ZC
 |t::l=>sm n t&&sms n l
end
mutual
theorem Ha{n:Nat}:∀(t:T),sm n t=ZC->t.pl=ZC
 |.scr _,h=>by simp[sm]at h
 |.dct _ _,h=>by simp[sm]at h
 |.ob _ _ _,h=>by simp[sm]at h
 |.tup l,h=>by rw[sm,Ni]at h;rw[T.pl];exact sms_pl l h.2
 |.lst l,h=>by rw[sm,Ni]at h;rw[T.pl];exact sms_pl l h.2
 |.non,_=>by simp[T.pl]
 |.bl _,_=>by simp[T.pl]
 |.int _,_=>by simp[T.pl]
 |.str _,_=>by simp[T.pl]
theorem sms_pl{n:Nat}:∀(l:List T),sms n l=ZC->plS l=ZC
 |[],_=>by simp[plS]
 |t::l,h=>by rw[sms,Ni]at h;rw[plS,Ha t h.1,sms_pl l h.2];rfl
end
theorem zD:∀{l:List T},sms n l=ZC↔ ∀t∈l,sm n t=ZC
 |[] =>by simp[sms]
 |t::l=>by rw[sms,Ni,zD (l:=l)];simp
def sm_tup:sm n (.tup l)=ZC↔l.length<=n/\∀t∈l,sm n t=ZC:=by rw[sm,Ni,zD,decide_eq_true_iff]
def lH{i:Int}(h:0<j):ml (.int i) (.int j)=.ok (.int (i % j)):=by show(if _ then _ else _)=_;rw[if_pos h]
def oC{i:Int}(h:0<j)(h2:j<1073741824):mC (.int i) (.int j)=.ok (.int (i / j)):=by show(if _ then _ else _)=_;rw[if_pos ⟨h,h2⟩]
def mj{i:Int}(h : -18446744073709551616<i)(h2:i<18446744073709551616):cp (.int i) (.int j)=.ok (.int (i*j)):=by
 show yM (.int i) (.int j)=_
 show(if _ then _ else _)=_
 rw[if_pos (.inl ⟨by omega,by omega⟩)]
def C2{i:Int}(h : -18446744073709551616<j)(h2:j<18446744073709551616):cp (.int i) (.int j)=.ok (.int (i*j)):=by
 show yM (.int i) (.int j)=_
 show(if _ then _ else _)=_
 rw[if_pos (.inr ⟨by omega,by omega⟩)]
def JP(ns:List Int)(k:Nat)(hn:ns.length<=63):∃c,fY [.scr ns,.int k]=.ok (.int c):=by
 have e0:o2 qr (vr 0) (dF ai) [.va (.scr ns),.va (.int k)]=.ok (.bl (ly ns [])):=by
  refine aB (t:=.scr ns) (u:=.lst []) rfl (mr (ts:=[]) rfl (aA (k:=0) (Nr _))) ?_
  unfold qr;rw[if_pos (iP (by simp[T.dep]) rfl rfl)]
  rfl
 cases ns with
 |nil=>
  refine⟨7*k,bz rfl ?_⟩
  unfold kh
  refine gi ((eZ (aZ e0)).trans (bP (aB (t:=.int 7) (u:=.int k) rfl rfl (mj (by omega) (by omega)))))
 |cons a r=>
  have hl:(0:Int)<((a::r).length:Nat):=by simp only[Nj];omega
  have hl2:(((a::r).length:Nat):Int)<1073741824:=by simp only[Nj]at hn ⊢;omega
  have hi:k % (a::r).length<(a::r).length:=Nat.mod_lt _ (by simp)
  have g0:o2 ml (vr 1) (cl dj (af (vr 0) ai)) [.va (.scr (a::r)),.va (.int k)]=.ok (.int ((k % (a::r).length:Nat):Int)):=by
   refine aB (t:=.int k) (u:=.int ((a::r).length:Nat)) rfl ?_ (by rw[lH hl];rfl)
   refine aO (ts:=[.scr (a::r)]) rfl ?_
   show Rs.ok (T.int (((a::r).map T.int).length:Nat))=_
   rw[Nc]
  have g1:aY (.scr (a::r)) (.int ((k % (a::r).length:Nat):Int))=.ok (.int (a::r)[k % (a::r).length]):=by
   have e:((a::r).map T.int)[k % (a::r).length]?=ZA (.int (a::r)[k % (a::r).length]):=by rw[NC,Nk hi];rfl
   show(match L2.atI ((a::r).map T.int) ((k % (a::r).length:Nat):Int)with|some t=>Rs.ok t|none=>.bad)=_
   rw[lM e]
  have g2:o2 mC (vr 1) (cl dj (af (vr 0) ai)) [.va (.scr (a::r)),.va (.int k)]=.ok (.int ((k:Int) / ((a::r).length:Nat))):=by
   refine aB (t:=.int k) (u:=.int ((a::r).length:Nat)) rfl ?_ (oC hl hl2)
   refine aO (ts:=[.scr (a::r)]) rfl ?_
   show Rs.ok (T.int (((a::r).map T.int).length:Nat))=_
   rw[Nc]
  refine⟨(a::r)[k % (a::r).length] +6553*((k:Int) / ((a::r).length:Nat)),bz rfl ?_⟩
  unfold kh
  show ax _ _ [.va (.scr (a::r)),.va (.int k)]=_
  refine(ay (Z':=[.va (.scr (a::r)),.va (.int k)]) ((cu (aZ e0)).trans rfl)).trans ?_
  exact bP (aB (aB (t:=.scr (a::r)) rfl g0 g1) (aB (t:=.int 6553) rfl g2 (mj (by omega) (by omega))) rfl)
def dI(ns:List Int)(k:Nat)(m:Int)(hn:ns.length<=63)(hm:0<m):∃r,aD [.scr ns,.int k,.int m]=.ok (.int r)/\0<=r/\r<m:=by
 obtain⟨c,hc⟩:=JP ns k hn
 have b1:∀x:Int,0<=x % 2147483563/\x % 2147483563<2147483563:=λx=>⟨To _ (by omega),Sd _ (by omega)⟩
 have b2:∀x:Int,0<=x % 2147483399/\x % 2147483399<2147483399:=λx=>⟨To _ (by omega),Sd _ (by omega)⟩
 generalize hx:(c % 2147483563*69069+104723*((k:Int)+1)) % 2147483563=x
 have hx':=b1 (c % 2147483563*69069+104723*((k:Int)+1));rw[hx]at hx'
 generalize hy:(x*x+x / 3) % 2147483399=y
 have hy':=b2 (x*x+x / 3);rw[hy]at hy';refine⟨(y*y+y / 7) % 2147483647 / 11 % m,bz rfl ?_,To _ (by omega),Sd _ hm⟩
 show jo [.va (.scr ns),.va (.int k),.va (.int m),.em]=_
 unfold jo
 have s1:cS (o2 ml (o2 aU (o2 cp (o2 ml (cl fY (af (vr 0) (af (vr 1) ai))) (cn (.int 2147483563))) (cn (.int 69069))) (o2 cp (cn (.int 104723)) (o2 aU (vr 1) (cn (.int 1))))) (cn (.int 2147483563))) (gN 3) [.va (.scr ns),.va (.int k),.va (.int m),.em]=.ok (.nx [.va (.scr ns),.va (.int k),.va (.int m),.va (.int x)]):=by
  refine bS (t:=.int x) (aB (u:=.int 2147483563) (aB (aB (u:=.int 69069) (aB (u:=.int 2147483563) (aO (ts:=[.scr ns,.int k]) rfl hc) rfl (lH (by omega))) rfl (C2 (by omega) (by omega))) (aB (t:=.int 104723) (u:=.int ((k:Int)+1)) rfl rfl (mj (by omega) (by omega))) rfl) rfl ?_) rfl
  rw[lH (by omega),hx]
 have s2:cS (o2 ml (o2 aU (o2 cp (vr 3) (vr 3)) (o2 mC (vr 3) (cn (.int 3)))) (cn (.int 2147483399))) (gN 3) [.va (.scr ns),.va (.int k),.va (.int m),.va (.int x)]=.ok (.nx [.va (.scr ns),.va (.int k),.va (.int m),.va (.int y)]):=by
  refine bS (t:=.int y) (aB (u:=.int 2147483399) (aB (aB (t:=.int x) (u:=.int x) rfl rfl (mj (by omega) (by omega))) (aB (t:=.int x) (u:=.int 3) rfl rfl (oC (by omega) (by omega))) rfl) rfl ?_) rfl
  rw[lH (by omega),hy]
 rw[ay s1,ay s2];exact bP (aB (u:=.int m) (aB (u:=.int 11) (aB (u:=.int 2147483647) (aB (aB (t:=.int y) (u:=.int y) rfl rfl (mj (by omega) (by omega))) (aB (t:=.int y) (u:=.int 7) rfl rfl (oC (by omega) (by omega))) rfl) rfl (lH (by omega))) rfl (oC (by omega) (by omega))) rfl (lH hm))
def eK{k:Nat}{r:Int}{f g h:V5}(e:aD [.scr ns,.int k,.int m]=.ok (.int r))(h1:f Z=.ok (.scr ns))(h2:g Z=.ok (.int k))(h3:h Z=.ok (.int m)):
  cl aD (af f (af g (af h ai))) Z=.ok (.int r):=aO (au h1 (au h2 (au h3 rfl))) e
theorem we:∀(l:List Int)(z y:Int),oo (l++[z])=ZC->z<y->oo (l++[z] ++[y])=ZC
 |[],z,y,_,h=>by simp[oo,h]
 |[a],z,y,h,hy=>by
  simp[oo]at h ⊢
  omega
 |a::b::l,z,y,h,hy=>by
  have h':oo (a::b::(l++[z]))=ZC:=h;rw[Fd,Ni]at h'
  have ih:=we (b::l) z y h'.2 hy
  show oo (a::b::(l++[z] ++[y]))=ZC
  rw[Fd,h'.1];exact ih
theorem mh:∀l:List Int,nums (l.map .int)=ZA l
 |[] =>rfl
 |a::l=>by rw[Nd,nums,mh l]
def RdOk(l:List Int):Prop:=∃(l':List Int)(z:Int),l=l'++[z]/\oo l=ZC/\(∀x∈l,0<=x/\x<=5*l.length)/\z<=5*l.length
def Gh(l:List T)(z:T):aY (.tup (l++[z])) (.int (-1))=.ok z:=by
 have e:L2.atI (l++[z]) (-1)=ZA z:=by
  unfold L2.atI L2.ixN;simp;rw[if_pos (by omega)]
  have q:(-1+((l.length:Int)+1)).toNat=l.length:=by omega
  show(l++[z])[(-1+((l.length:Int)+1)).toNat]?=ZA z
  rw[q];simp
 show(match L2.atI (l++[z]) (-1)with|some t=>Rs.ok t|none=>.bad)=_
 rw[e]
def GH(ns:List Int)(hn:ns.length<=63)(a j:Nat)(s:T)(l:List Int)(h:RdOk l)(hl:l.length<=3):∃l2,clF [.va (.scr ns),.va (.int a),.va s,.va (.tup (l.map .int)),.va (.int j)]=.ok (.nx [.va (.scr ns),.va (.int a),.va s,.va (.tup (l2.map .int)),.va (.int j)])/\RdOk l2/\l2.length=l.length+1:=by
 obtain⟨l',z,rfl,h1,h2,h3⟩:=h;obtain⟨d,ed,d0,d1⟩:=dI ns (a+3+j) 5 hn (by omega)
 refine⟨l'++[z] ++[z+1+d],?_,⟨l'++[z],z+1+d,rfl,we l' z _ h1 (by omega),?_,?_⟩,by simp⟩
 ·refine bS (t:=.tup ((l'++[z] ++[z+1+d]).map .int)) (aB (t:=.tup ((l'++[z]).map .int)) (u:=.tup [.int (z+1+d)]) rfl (cG (ts:=[.int (z+1+d)]) (au (aB (t:=.int (z+1)) (u:=.int d) (aB (t:=.int z) (u:=.int 1) (aB (t:=.tup ((l'++[z]).map .int)) (u:=.int (-1)) rfl rfl ?_) rfl rfl) (eK (k:=a+3+j) ed rfl ?_ rfl) rfl) rfl) (aA (k:=1) (by simp))) ?_) rfl
  ·rw[NR];exact Gh _ _
  ·refine aB (t:=.int ((a:Int)+3)) (u:=.int j) (aB (t:=.int a) (u:=.int 3) rfl rfl rfl) rfl ?_
   show Rs.ok (T.int ((a:Int)+3+j))=_
   congr 2
  ·rw[NR (l₁:=l'++[z])]
   exact AB _ _ (by rw[Nm,Nc];simp at hl ⊢;omega)
 ·intro x hx
  rcases NO.mp hx with hx|hx
  ·have:=h2 x hx
   simp only[Nm,Pe]at this ⊢;omega
  ·rw[Ny]at hx
   subst hx
   have hz:=h2 z (by simp)
   simp only[Nm,Pe]at h3 ⊢;omega
 ·simp only[Nm,Pe]at h3 ⊢
  omega
theorem Ax(ns:List Int)(hn:ns.length<=63)(a:Nat)(s:T):∀(js:List Nat)(l:List Int)(s4:Sl),RdOk l->l.length+js.length<=4->∃l2 s5,a8 (gN 4) clF (js.map λ(j:Nat)=>T.int j) [.va (.scr ns),.va (.int a),.va s,.va (.tup (l.map .int)),s4]=.ok (.nx [.va (.scr ns),.va (.int a),.va s,.va (.tup (l2.map .int)),s5])/\RdOk l2/\l2.length=l.length+js.length
 |[],l,s4,h,_=>⟨l,s4,rfl,h,rfl⟩
 |j::js,l,s4,h,hl=>by
  rw[Nj]at hl;obtain⟨l2,e2,h2,n2⟩:=GH ns hn a j s l h (by omega)
  obtain⟨l3,s5,e3,h3,n3⟩:=Ax ns hn a s js l2 (.va (.int j)) h2 (by omega)
  refine⟨l3,s5,?_,h3,by rw[n3,n2,Nj];omega⟩
  rw[Nd,cI (Z1:=[.va (.scr ns),.va (.int a),.va s,.va (.tup (l.map .int)),.va (.int j)]) rfl e2];exact e3
def tT(n:Nat):rng 0 (n:Int)=(Oz n).map λ(j:Nat)=>T.int j:=by
 unfold rng;simp
def RdOk.reads{l:List Int}(h:RdOk l)(hl:l.length<=4):df (.tup (l.map .int))=ZC:=by
 obtain⟨l',z,rfl,h1,h2,h3⟩:=h;unfold df;rw[Ni];refine⟨?_,?_⟩
 ·simp[fz];simp at hl;omega
 ·show(((l'++[z]).map T.int).all (λu=>bw u 0 99)&&(match nums ((l'++[z]).map T.int)with|some m=>oo m|none=>ZD))=ZC
  rw[mh]
  show(_&&oo (l'++[z]))=ZC
  rw[h1,Bool.and_true,NN];intro t ht;obtain⟨x,hx,rfl⟩:=NA.mp ht
  have:=h2 x hx;simp only[bw,Ni,decide_eq_true_eq];omega
def E7(n:Nat)(l:List Int)(h:l.length<=n):sm n (.tup (l.map .int))=ZC:=sm_tup.mpr ⟨by rw[Nc];exact h,λt ht=>by obtain⟨x,_,rfl⟩:=NA.mp ht;simp[sm]⟩
def DY(ns:List Int)(hn:ns.length<=63)(a:Nat):∃c,cP [.scr ns,.int a]=.ok c/\bO c=ZC/\sm 8 c=ZC:=by
 obtain⟨d1,e1,p1,q1⟩:=dI ns a 3 hn (by omega)
 obtain⟨d2,e2,p2,q2⟩:=dI ns (a+2) 6 hn (by omega)
 obtain⟨d3,e3,p3,q3⟩:=dI ns (a+1) 3 hn (by omega)
 obtain⟨d4,e4,p4,q4⟩:=dI ns (a+6) 3 hn (by omega)
 obtain⟨n3,rfl⟩:=Ol p3;obtain⟨l,s5,el,hl,nl⟩:=Ax ns hn a (.int (1+d1)) (Oz n3) [d2] .em ⟨[],d2,rfl,rfl,λx hx=>by rw[Ny]at hx;subst hx;simp;omega,by simp;omega⟩ (by simp;omega)
 have nl':l.length<=4:=by rw[nl];simp;omega
 have hr:=hl.reads nl';refine⟨.tup [.int (1+d1),.int (1+d1+d4),.tup (l.map .int)],bz rfl ?_,?_,?_⟩
 ·show jq [.va (.scr ns),.va (.int a),.em,.em,.em]=_
  unfold jq;rw[ay (Z':=[.va (.scr ns),.va (.int a),.va (.int (1+d1)),.em,.em]) (bS (t:=.int (1+d1)) (aB (t:=.int 1) rfl (eK e1 rfl rfl rfl) rfl) rfl)];rw[ay (Z':=[.va (.scr ns),.va (.int a),.va (.int (1+d1)),.va (.tup ([d2].map .int)),.em]) (bS (t:=.tup [.int d2]) (cG (ts:=[.int d2]) (au (eK (k:=a+2) e2 rfl rfl rfl) rfl) (aA (k:=1) (by simp))) rfl)]
  rw[ay ((d6 (JF (au (eK (k:=a+1) e3 rfl rfl rfl) rfl) (by omega) (by omega)) (by rw[tT];exact el)))]
  exact bP (cG (au (t:=.int (1+d1)) rfl (au (aB (t:=.int (1+d1)) rfl (eK (k:=a+6) e4 rfl rfl rfl) rfl) (au (t:=.tup (l.map .int)) rfl rfl))) (aA (k:=3) (by simp)))
 ·show(ZC&&(pw (.int (1+d1)) (.int (1+d1+d4))&&df _))=ZC
  rw[hr];simp only[pw,bw,Rf,Bool.and_true,Ni,decide_eq_true_eq];omega
 ·refine sm_tup.mpr ⟨by simp,λt ht=>?_⟩
  rcases Nl.mp ht with rfl|ht
  ·simp[sm]
  ·rcases Nl.mp ht with rfl|ht
   ·simp[sm]
   ·rw[Ny]at ht;subst ht;exact E7 8 l (by omega)
variable{y:T}
theorem kC:∀(cs:List T)(i:Nat),y∈fG i cs->∃c k:Nat,y=.tup [.int c,.int k]/\i<=c/\c<i+cs.length/\k<HY (cs.getD (c - i) .non)
 |[],i,h=>by cases h
 |x::cs,i,h=>by
  rw[fG]at h;rcases NO.mp h with h|h
  ·unfold mE at h
   obtain⟨t,ht,rfl⟩:=NA.mp h;obtain⟨j,rfl,hj⟩:=kn ht;refine⟨i,j,rfl,Nr _,by rw[Nj];omega,?_⟩
   rw[Sb]
   show j<HY x
   omega
  ·obtain⟨c,k,e,h1,h2,h3⟩:=kC cs (i+1) h
   refine⟨c,k,e,by omega,by rw[Nj];omega,?_⟩
   have:c - i=(c - (i+1))+1:=by omega
   rw[this];exact h3
def DN(h:y∈fG 0 cs):bp cs y=ZC:=by
 obtain⟨c,k,rfl,_,h2,h3⟩:=kC cs 0 h
 show(decide ((0:Int)<=(c:Int))&&decide ((c:Int)<(cs.length:Int))&&(decide ((0:Int)<=(k:Int))&&decide ((k:Int)<(reads cs (c:Int):Int))))=ZC
 rw[Tc]at h3;rw[rV];simp only[Ni,decide_eq_true_eq];omega
theorem mZ:∀(cs:List T)(i:Nat),(fG i cs).Nodup
 |[],i=>Pu
 |x::cs,i=>by
  rw[fG,Ot];refine⟨?_,mZ cs (i+1),?_⟩
  ·unfold mE rng
   rw[N3];rw[R7,Px];refine List.nodup_range.imp ?_
   intro a b hab e
   simp at e
   exact hab (by omega)
  ·intro a ha b hb e
   subst e;unfold mE at ha;obtain⟨t,ht,rfl⟩:=NA.mp ha;obtain⟨c,k,e,h1,_,_⟩:=kC cs (i+1) hb
   simp at e
   omega
def CY(h:l.Nodup){j:Nat}(hi:i<l.length)(hj:j<l.length)(hij:i≠j):l[i] ≠l[j]:=by
 rw[R7,PX]at h;rcases Q4 i j with q|q
 ·exact h i j hi hj q
 ·exact λe=>h j i hj hi (by omega) e.symm
theorem uZ:∀(cs:List T)(i:Nat),(∀c∈cs,bO c=ZC)->(fG i cs).length<=4*cs.length
 |[],i,_=>Nr _
 |x::cs,i,h=>by
  obtain⟨a,b,r,rfl,_,h2⟩:=f9 (h x Nb)
  have:=uZ cs (i+1) λc hc=>h c (Na _ hc)
  rw[fG,Nm,iQ,Nj]
  show r.length+_<=_
  omega
def DM{a b:T}(ha:bp cs a=ZC)(hb:bp cs b=ZC)(h:a≠b):bc a b=ZD:=by
 obtain⟨c,k,rfl⟩:=f7 ha;obtain⟨c',k',rfl⟩:=f7 hb;rw[Bool.eq_false_iff];intro e;simp[bc,beqTs]at e;exact h (by rw[e.1,e.2])
def vR{a:T}(ha:bp cs a=ZC):sm 8 a=ZC:=by
 obtain⟨c,k,rfl⟩:=f7 ha;simp[sm,sms]
def yS(h:i<l.length):aY (.lst l) (.int (i:Int))=.ok l[i]:=by
 show(match L2.atI l (i:Int)with|some t=>Rs.ok t|none=>.bad)=_
 rw[lM (Nk h)]
def u4(a b:Int):qr (.int a) (.int b)=.ok (.bl (a == b)):=by
 unfold qr;rw[if_pos (iP (by simp[T.dep]) rfl rfl)]
 rfl
def sJ(ns:List Int)(hn:ns.length<=63)(a:Nat)(cs:List T)(hc:br (.tup cs)=ZC):∃r,cw [.scr ns,.int a,.tup cs]=.ok r/\(r=.non\/(bF cs r=ZC/\sm 8 r=ZC)):=by
 obtain⟨ha,h1,h4⟩:=cV hc
 have hlen:=uZ cs 0 ha
 have er:=DV cs hc
 have gl:∀s4 s5 s6 s7:Sl,cl dj (af (vr 3) ai) [.va (.scr ns),.va (.int a),.va (.tup cs),.va (.lst (fG 0 cs)),s4,s5,s6,s7]=.ok (.int ((fG 0 cs).length:Nat)):=λ_ _ _ _=>rfl
 have s1:cS (cl eC (af (vr 2) ai)) (gN 3) [.va (.scr ns),.va (.int a),.va (.tup cs),.em,.em,.em,.em,.em]=.ok (.nx [.va (.scr ns),.va (.int a),.va (.tup cs),.va (.lst (fG 0 cs)),.em,.em,.em,.em]):=bS (aO (ts:=[.tup cs]) rfl er) rfl
 have lt:o2 rC (cl dj (af (vr 3) ai)) (cn (.int 2)) [.va (.scr ns),.va (.int a),.va (.tup cs),.va (.lst (fG 0 cs)),.em,.em,.em,.em]=.ok (.bl (decide (((fG 0 cs).length:Int)<2))):=aB (t:=.int ((fG 0 cs).length:Nat)) (u:=.int 2) (gl _ _ _ _) rfl rfl
 by_cases hs:(fG 0 cs).length<2
 ·refine⟨.non,bz rfl ?_,.inl rfl⟩
  show eG [.va (.scr ns),.va (.int a),.va (.tup cs),.em,.em,.em,.em,.em]=_
  unfold eG;rw[ay s1];rw[decide_eq_true (by omega)]at lt
  exact gi ((eZ (aZ lt)).trans rfl)
 ·rw[decide_eq_false (by omega)]at lt
  generalize hN:(fG 0 cs).length=n at*
  obtain⟨d1,e1,p1,q1⟩:=dI ns a (n:Int) hn (by omega)
  obtain⟨d2,e2,p2,q2⟩:=dI ns (a+1) ((n:Int) - 1) hn (by omega)
  obtain⟨d3,e3,p3,q3⟩:=dI ns (a+2) 8 hn (by omega)
  obtain⟨d4,e4,p4,q4⟩:=dI ns (a+3) 3 hn (by omega)
  obtain⟨d5,e5,p5,q5⟩:=dI ns (a+4) 9 hn (by omega)
  obtain⟨i,rfl⟩:=Ol p1;obtain⟨d2,rfl⟩:=Ol p2
  have hi:i<(fG 0 cs).length:=by omega
  have hj:(i+1+d2) % n<(fG 0 cs).length:=by rw[hN];exact Nat.mod_lt _ (by omega)
  have hij:i≠(i+1+d2) % n:=by
   rcases Q4 (i+1+d2) n with q|q
   ·rw[Vo q];omega
   ·have:(i+1+d2) % n=i+1+d2 - n:=by
     rw[Nat.mod_eq_sub_mod q,Vo (by omega)]
    rw[this];omega
  have eA:=DN (Oi hi)
  have eB:=DN (Oi hj)
  have eN:(fG 0 cs)[i] ≠(fG 0 cs)[(i+1+d2) % n]:=CY (mZ cs 0) hi hj hij
  generalize hA:(fG 0 cs)[i]=A at*
  generalize hB:(fG 0 cs)[(i+1+d2) % n]=B at*
  let y:T:=if d4 == 0 then .non else .int (d3+d5)
  refine⟨.tup [A,B,.int d3,y],bz rfl ?_,.inr ⟨?_,?_⟩⟩
  ·show eG [.va (.scr ns),.va (.int a),.va (.tup cs),.em,.em,.em,.em,.em]=_
   unfold eG;rw[ay s1];rw[ay (Z':=[.va (.scr ns),.va (.int a),.va (.tup cs),.va (.lst (fG 0 cs)),.em,.em,.em,.em]) ((cu (aZ lt)).trans rfl)];rw[ay (Z':=[.va (.scr ns),.va (.int a),.va (.tup cs),.va (.lst (fG 0 cs)),.va (.int (i:Nat)),.em,.em,.em]) (bS (eK e1 rfl rfl (gl _ _ _ _)) rfl)];rw[ay (Z':=[.va (.scr ns),.va (.int a),.va (.tup cs),.va (.lst (fG 0 cs)),.va (.int (i:Nat)),.va (.int ((i+1+d2) % n:Nat)),.em,.em]) (bS (t:=.int ((i+1+d2) % n:Nat)) (aB (t:=.int ((i:Int)+1+d2)) (u:=.int n) (aB (t:=.int ((i:Int)+1)) (u:=.int d2) rfl (eK (k:=a+1) e2 rfl rfl (aB (t:=.int n) (u:=.int 1) (gl _ _ _ _) rfl rfl)) rfl) (gl _ _ _ _) (lH (by omega))) rfl)]
   rw[ay (Z':=[.va (.scr ns),.va (.int a),.va (.tup cs),.va (.lst (fG 0 cs)),.va (.int (i:Nat)),.va (.int ((i+1+d2) % n:Nat)),.va (.int d3),.em]) (bS (eK (k:=a+2) e3 rfl rfl rfl) rfl)]
   have ey:qi (tb (o2 qr (cl aD (af (vr 0) (af (o2 aU (vr 1) (cn (.int 3))) (af (cn (.int 3)) ai)))) (cn (.int 0)))) (cn .non) (o2 aU (vr 6) (cl aD (af (vr 0) (af (o2 aU (vr 1) (cn (.int 4))) (af (cn (.int 9)) ai))))) [.va (.scr ns),.va (.int a),.va (.tup cs),.va (.lst (fG 0 cs)),.va (.int (i:Nat)),.va (.int ((i+1+d2) % n:Nat)),.va (.int d3),.em]=.ok y:=by
    rw[lr (aZ (aB (u:=.int 0) (eK (k:=a+3) e4 rfl rfl rfl) rfl (u4 _ _)))]
    show _=Rs.ok (if d4 == 0 then T.non else .int (d3+d5))
    cases d4 == 0 with
    |true=>rfl
    |false=>exact aB (t:=.int d3) rfl (eK (k:=a+4) e5 rfl rfl rfl) rfl
   rw[ay (Z':=[.va (.scr ns),.va (.int a),.va (.tup cs),.va (.lst (fG 0 cs)),.va (.int (i:Nat)),.va (.int ((i+1+d2) % n:Nat)),.va (.int d3),.va y]) (bS ey rfl)];refine bP (cG (au (t:=A) (aB (t:=.lst (fG 0 cs)) (u:=.int (i:Nat)) rfl rfl ?_) (au (t:=B) (aB (t:=.lst (fG 0 cs)) (u:=.int ((i+1+d2) % n:Nat)) rfl rfl ?_) (au (t:=.int d3) rfl (au (t:=y) rfl rfl)))) (aA (k:=4) (by simp)))
   ·rw[<-hA];exact yS hi
   ·rw[<-hB];exact yS hj
  ·show(fT (.int d3) y&&(bp cs A&&(bp cs B&& !bc A B)))=ZC
   rw[eA,eB,DM eA eB eN]
   have:fT (.int d3) y=ZC:=by
    show(bw (.int d3) 0 999&&(match(T.int d3),(if d4 == 0 then T.non else .int (d3+d5))with|_,.non=>ZC|.int i,_=>bw (if d4 == 0 then T.non else .int (d3+d5)) i 999|_,_=>ZD))=ZC
    cases d4 == 0 with
    |true=>simp[bw];omega
    |false=>simp[bw];omega
   rw[this];rfl
  ·refine sm_tup.mpr ⟨by simp,λt ht=>?_⟩
   have hy:sm 8 y=ZC:=by show sm 8 (if d4 == 0 then T.non else .int (d3+d5))=ZC;cases d4 == 0 <;> simp[sm]
   simp only[Nl,N8,or_false]at ht;rcases ht with rfl|rfl|rfl|rfl
   ·exact vR eA
   ·exact vR eB
   ·simp[sm]
   ·exact hy
def okv:Rs T->T
 |.ok t=>t
 |_=>.non
def zQ(l:List T)(k:Int)(h : -(2 ^ 63)<=k/\k<2 ^ 63/\l.length*k.toNat<=ZI):cp (.lst l) (.int k)=.ok (.lst (NL k.toNat l).flatten):=by
 show yM (.lst l) (.int k)=_
 unfold yM;exact if_pos h
def mul_one(x:T)(b:Bool):cp (.lst [x]) (.int (if b then 1 else 0))=.ok (.lst (if b then [x]else [])):=by
 cases b with
 |true=>exact zQ [x] 1 ⟨by decide,by decide,aA (k:=1) (by simp)⟩
 |false=>exact zQ [x] 0 ⟨by decide,by decide,aA (k:=1) (by simp)⟩
def BA(cs ls:List T):Prop:=∀t∈ls,bF cs t=ZC/\sm 8 t=ZC
def F9(ns:List Int)(hn:ns.length<=63)(a j:Nat)(m:T)(cs ls:List T)(hc:br (.tup cs)=ZC)(h:BA cs ls)(hl:ls.length<=100)(s6:Sl):
  ∃ls2 s7,leF [.va (.scr ns),.va (.int a),.va m,.va (.tup cs),.va (.lst ls),.va (.int j),s6]=.ok (.nx [.va (.scr ns),.va (.int a),.va m,.va (.tup cs),.va (.lst ls2),.va (.int j),s7])/\BA cs ls2/\ls2.length<=ls.length+1:=by
 obtain⟨r,er,hr⟩:=sJ ns hn (a+31+6*j) cs hc
 have e1:∀G,ax (cS (cl cw (af (vr 0) (af (o2 aU (o2 aU (vr 1) (cn (.int 31))) (o2 cp (cn (.int 6)) (vr 5))) (af (vr 3) ai)))) (gN 6)) G [.va (.scr ns),.va (.int a),.va m,.va (.tup cs),.va (.lst ls),.va (.int j),s6]=G [.va (.scr ns),.va (.int a),.va m,.va (.tup cs),.va (.lst ls),.va (.int j),.va r]:=λG=>by
  refine ay (bS (t:=r) (aO (ts:=[.scr ns,.int (a+31+6*j:Nat),.tup cs]) (au (t:=.scr ns) rfl (au (t:=.int (a+31+6*j:Nat)) (aB (t:=.int ((a:Int)+31)) (u:=.int (6*(j:Int))) rfl (aB (t:=.int 6) (u:=.int j) rfl rfl (mj (by omega) (by omega))) rfl) (au (t:=.tup cs) rfl rfl))) er) rfl)
 have e2:cl DA (af (o2 cL (vr 6) (cn .non)) ai) [.va (.scr ns),.va (.int a),.va m,.va (.tup cs),.va (.lst ls),.va (.int j),.va r]=.ok (.int (if !r.isN then 1 else 0)):=aO (ts:=[.bl (!r.isN)]) rfl rfl
 refine⟨ls++(if !r.isN then [r]else []),.va r,?_,?_,?_⟩
 ·refine(e1 _).trans (bS (aB (t:=.lst ls) (u:=.lst (if !r.isN then [r]else [])) rfl (aB (t:=.lst [r]) (mr (ts:=[r]) rfl (aA (k:=1) (by simp))) e2 (mul_one _ _)) (vm _ _ ?_)) rfl)
  rw[Nm];cases r.isN <;> simp <;> omega
 ·intro t ht
  rcases NO.mp ht with ht|ht
  ·exact h t ht
  ·rcases hr with rfl|hr
   ·cases ht
   ·cases q:r.isN with
    |true=>rw[q]at ht;cases ht
    |false=>
     rw[q]at ht;rw[show t=r by simpa using ht]
     exact hr
 ·rw[Nm]
  cases r.isN <;> simp
theorem zZ(ns:List Int)(hn:ns.length<=63)(a:Nat)(m:T)(cs:List T)(hc:br (.tup cs)=ZC):∀(js:List Nat)(ls:List T)(s5 s6:Sl),BA cs ls->ls.length+js.length<=100 →
  ∃ls2 t5 t6,a8 (gN 5) leF (js.map λ(j:Nat)=>T.int j) [.va (.scr ns),.va (.int a),.va m,.va (.tup cs),.va (.lst ls),s5,s6]=.ok (.nx [.va (.scr ns),.va (.int a),.va m,.va (.tup cs),.va (.lst ls2),t5,t6])/\BA cs ls2/\ls2.length<=ls.length+js.length
 |[],ls,s5,s6,h,_=>⟨ls,s5,s6,rfl,h,Nr _⟩
 |j::js,ls,s5,s6,h,hl=>by
  rw[Nj]at hl;obtain⟨l2,s7,e2,h2,n2⟩:=F9 ns hn a j m cs ls hc h (by omega) s6
  obtain⟨l3,t5,t6,e3,h3,n3⟩:=zZ ns hn a m cs hc js l2 (.va (.int j)) s7 h2 (by omega)
  refine⟨l3,t5,t6,?_,h3,by rw[Nj];omega⟩
  rw[Nd,cI (Z1:=[.va (.scr ns),.va (.int a),.va m,.va (.tup cs),.va (.lst ls),.va (.int j),s6]) rfl e2];exact e3
def JO(ns:List Int)(hn:ns.length<=63)(a m:Nat)(hm:m<=8):∃cs ls,fS [.scr ns,.int a,.int m]=.ok (RR cs ls)/\br (.tup cs)=ZC/\cs.length<=3/\(∀c∈cs,sm 8 c=ZC)/\BA cs ls/\ls.length<=m:=by
 obtain⟨d1,e1,p1,q1⟩:=dI ns a 3 hn (by omega)
 obtain⟨d2,e2,p2,q2⟩:=dI ns (a+30) ((m:Int)+1) hn (by omega)
 obtain⟨d1,rfl⟩:=Ol p1;obtain⟨d2,rfl⟩:=Ol p2
 let hcl:T->T:=λt=>match t with
  |.int k=>okv (cP [.scr ns,.int ((a:Int)+1+8*k)])
  |_=>.non
 have hh:∀t∈rng 0 ((1+d1:Nat):Int),∃k:Nat,t=.int k/\cP [.scr ns,.int ((a+1+8*k:Nat):Int)]=.ok (hcl t)/\bO (hcl t)=ZC/\sm 8 (hcl t)=ZC:=λt ht=>by
  obtain⟨k,rfl,_⟩:=kn ht;obtain⟨c,ec,h1,h2⟩:=DY ns hn (a+1+8*k)
  have e:hcl (.int k)=c:=by
   show okv (cP [.scr ns,.int ((a+1+8*k:Nat):Int)])=c
   rw[ec];rfl
  exact⟨k,rfl,by rw[e];exact ec,by rw[e];exact h1,by rw[e];exact h2⟩
 generalize hcs:(rng 0 ((1+d1:Nat):Int)).map hcl=cs
 have lc:cs.length=1+d1:=by rw[<-hcs,Nc,kr]
 have hc:br (.tup cs)=ZC:=by
  show(fz (.tup cs) 1 4&&cs.all bO)=ZC
  rw[Ni,NN];refine⟨by simp[fz];omega,λc h=>?_⟩
  rw[<-hcs]at h;obtain⟨t,ht,rfl⟩:=NA.mp h;obtain⟨_,_,_,h1,_⟩:=hh t ht;exact h1
 have hsm:∀c∈cs,sm 8 c=ZC:=λc h=>by
  rw[<-hcs]at h;obtain⟨t,ht,rfl⟩:=NA.mp h;obtain⟨_,_,_,_,h1⟩:=hh t ht;exact h1
 obtain⟨ls,t5,t6,el,hl,nl⟩:=zZ ns hn a (.int m) cs hc (Oz d2) [] .em .em (λt h=>by cases h) (by simp;omega)
 refine⟨cs,ls,bz rfl ?_,hc,by omega,hsm,hl,by simp at nl;omega⟩
 show iz [.va (.scr ns),.va (.int a),.va (.int m),.em,.em,.em,.em]=_
 unfold iz
 have s1:cS (cl fL (af (eh (iR (af (o2 aU (cn (.int 1)) (cl aD (af (vr 0) (af (vr 1) (af (cn (.int 3)) ai))))) ai)) [ZB,ZA 0,ZA 1] (gN 0) bT (cl cP (af (vr 1) (af (o2 aU (o2 aU (vr 2) (cn (.int 1))) (o2 cp (cn (.int 8)) (vr 0))) ai)))) ai)) (gN 3) [.va (.scr ns),.va (.int a),.va (.int m),.em,.em,.em,.em]=.ok (.nx [.va (.scr ns),.va (.int a),.va (.int m),.va (.tup cs),.em,.em,.em]):=by
  refine bS (t:=.tup cs) (aO (ts:=[.lst cs]) (au (t:=.lst cs) ?_ rfl) rfl) rfl
  rw[<-hcs];refine qf (ts:=rng 0 ((1+d1:Nat):Int)) (h:=hcl) (JF (au (t:=.int ((1+d1:Nat):Int)) (aB (t:=.int 1) (u:=.int d1) rfl (eK e1 rfl rfl rfl) rfl) rfl) (by omega) (by omega)) (aA (k:=3) (by rw[kr];omega)) (by simp) λt ht=>?_
  obtain⟨k,rfl,ek,_,_⟩:=hh t ht;refine aO (ts:=[.scr ns,.int ((a+1+8*k:Nat):Int)]) (au (t:=.scr ns) rfl (au (aB (t:=.int ((a:Int)+1)) (u:=.int (8*(k:Int))) rfl (aB (t:=.int 8) (u:=.int k) rfl rfl (mj (by omega) (by omega))) rfl) rfl)) ek
 rw[ay s1];rw[ay (Z':=[.va (.scr ns),.va (.int a),.va (.int m),.va (.tup cs),.va (.lst []),.em,.em]) (bS (mr (ts:=[]) rfl (aA (k:=0) (by simp))) rfl)]
 rw[ay ((d6 (JF (au (eK (k:=a+30) e2 rfl rfl (aB (t:=.int m) (u:=.int 1) rfl rfl rfl)) rfl) (by omega) (by omega)) (by rw[tT];exact el)))]
 exact bP (cG (au (t:=.tup cs) rfl (au (t:=.tup ls) rfl rfl)) (aA (k:=2) (by simp)))
def mq{t:T}(h:bF cs t=ZC):∃a b x y,t=.tup [a,b,x,y]/\fT x y=ZC/\bp cs a=ZC/\bp cs b=ZC/\bc a b=ZD:=by
 unfold bF at h
 split at h
 ·simp only[Ni,UV]at h
  exact⟨_,_,_,_,rfl,h.1,h.2.1,h.2.2.1,h.2.2.2⟩
 ·cases h
def HX{ls:List T}(hc:br (.tup cs)=ZC)(hs:∀c∈cs,sm 8 c=ZC)(hl:BA cs ls)(hn:ls.length<=8):fK (RR cs ls)=ZC/\sm 8 (RR cs ls)=ZC:=by
 refine⟨?_,?_⟩
 ·show(br (.tup cs)&&(fz (.tup ls) 0 8&&ls.all (bF cs)))=ZC
  rw[hc,Rf,Ni,NN];exact⟨by simp[fz];exact hn,λt ht=>(hl t ht).1⟩
 ·refine sm_tup.mpr ⟨by simp,λt ht=>?_⟩
  simp only[Nl,N8,or_false]at ht;rcases ht with rfl|rfl
  ·exact sm_tup.mpr ⟨by have:=(cV hc).2.2;omega,hs⟩
  ·exact sm_tup.mpr ⟨hn,λt ht=>(hl t ht).2⟩
end G
namespace Tr
open PySem
section
variable {f fa fb:V5}{fs:V3}{b c:V6}{F G:V4}{Z Z' Z1 Z2:En}{t u r:T}{ts l m:List T}
mutual
theorem kK:∀(t:T),t.pl=ZC->bc t t=ZC
 |.non,_=>rfl
 |.bl a,_=>by simp[bc]
 |.int a,_=>by simp[bc]
 |.str a,_=>by simp[bc]
 |.tup l,h=>by rw[bc];exact beqTs_refl l (by unfold T.pl at h;exact h)
 |.lst l,h=>by rw[bc];exact beqTs_refl l (by unfold T.pl at h;exact h)
 |.scr _,h=>by simp[T.pl]at h
theorem beqTs_refl:∀(l:List T),plS l=ZC->beqTs l l=ZC
 |[],_=>rfl
 |t::l,h=>by
  unfold plS at h;rw[Ni]at h;rw[beqTs,kK t h.1,beqTs_refl l h.2];rfl
end
def mi(hp:t.pl=ZC)(hd:t.dep<=60):jy t t=.ok (.bl ZD):=by
 unfold jy;rw[if_pos (iP hd (T.L6 _ hp) (T.L6 _ hp)),kK t hp];rfl
def Gs(hp:t.pl=ZC)(hd:t.dep<=60):qr t t=.ok (.bl ZC):=by
 unfold qr;rw[if_pos (iP hd (T.L6 _ hp) (T.L6 _ hp)),kK t hp]
theorem u9:∀{l:List T},(∀t∈l,t.dep<=n)->deps l<=n
 |[],_=>by unfold deps;omega
 |t::l,h=>by
  unfold deps
  have:=u9 (l:=l) λu hu=>h u (Na _ hu)
  have:=h t Nb;omega
theorem mU:∀{l:List T},(∀t∈l,t.pl=ZC)->plS l=ZC
 |[],_=>rfl
 |t::l,h=>by unfold plS;rw[h t Nb,mU λu hu=>h u (Na _ hu)];rfl
end
end Tr
variable{j:Nat}
namespace G
open PySem Tr
def dr(r:List Int)(k:Nat):Int:=r.getD (k+1) 0 - r.getD k 0
noncomputable def pr(n:Nat)(x y:Int)(r:List Int)(k:Nat):List T:=
 [.tup [.tup [.int n,.int k],.tup [.int n,.int ((k+1:Nat):Int)],.int (dr r k*y)],.tup [.tup [.int n,.int ((k+1:Nat):Int)],.tup [.int n,.int k],.int (-dr r k*x)]]
def cB(n:Nat)(x y:Int)(r:List Int):List T:=(Oz (r.length - 1)).flatMap (pr n x y r)
noncomputable abbrev Ee(n:Nat)(x y:Int)(r:List Int)(acc:List T)(s4 s5 s6 s7:Sl):En:=[.va (.int n),.va (.tup [.int x,.int y,.tup (r.map .int)]),.va (.tup (r.map .int)),.ow (.lst acc),s4,s5,s6,s7]
def oA{k:Nat}(h:k<r.length):(r.map T.int)[k]?=ZA (.int (r.getD k 0)):=by
 rw[NC,Nk h]
 simp[h]
def GK(n:Nat)(x y:Int)(r:List Int)(acc:List T)(k:Nat)(s5 s6 s7:Sl)(hk:k+1<r.length)(hx:0<=x/\x<=9)(hy:0<=y/\y<=9)(ha:acc.length<=100):
  bcF (Ee n x y r acc (.va (.int k)) s5 s6 s7)=.ok (.nx (Ee n x y r (acc++pr n x y r k) (.va (.int k)) (.va (.tup [.int n,.int k])) (.va (.tup [.int n,.int ((k+1:Nat):Int)])) (.va (.int (dr r k))))):=by
 have h2:([T.int n,T.int k]:List T).length<=ZI:=aA (k:=2) (by simp)
 have ek:((k:Int)+1)=((k+1:Nat):Int):=by omega
 refine(ay (Z':=Ee n x y r acc (.va (.int k)) (.va (.tup [.int n,.int k])) s6 s7) (bS (cG rfl (aA (k:=2) (by simp))) rfl)).trans ?_
 refine(ay (Z':=Ee n x y r acc (.va (.int k)) (.va (.tup [.int n,.int k])) (.va (.tup [.int n,.int ((k+1:Nat):Int)])) s7) (bS (cG (au rfl (au (t:=.int ((k+1:Nat):Int)) (aB (t:=.int k) (u:=.int 1) rfl rfl (congrArg (λz=>Rs.ok (T.int z)) ek)) rfl)) (aA (k:=2) (by simp))) rfl)).trans ?_
 refine(ay (Z':=Ee n x y r acc (.va (.int k)) (.va (.tup [.int n,.int k])) (.va (.tup [.int n,.int ((k+1:Nat):Int)])) (.va (.int (dr r k)))) (bS (t:=.int (dr r k)) (aB (t:=.int (r.getD (k+1) 0)) (u:=.int (r.getD k 0)) (Bf (n:=k+1) rfl (aB (t:=.int k) (u:=.int 1) rfl rfl (congrArg (λz=>Rs.ok (T.int z)) ek)) (oA hk)) (Bf (n:=k) rfl rfl (oA (by omega))) rfl) rfl)).trans ?_
 refine(ay (Z':=Ee n x y r (acc++[.tup [.tup [.int n,.int k],.tup [.int n,.int ((k+1:Nat):Int)],.int (dr r k*y)]]) (.va (.int k)) (.va (.tup [.int n,.int k])) (.va (.tup [.int n,.int ((k+1:Nat):Int)])) (.va (.int (dr r k)))) (mw (l:=acc) (cG (au rfl (au rfl (au (aB (t:=.int (dr r k)) (u:=.int y) rfl rfl (C2 (by omega) (by omega))) rfl))) (aA (k:=3) (by simp))) rfl (by omega))).trans ?_
 refine(mw (l:=acc++[.tup [.tup [.int n,.int k],.tup [.int n,.int ((k+1:Nat):Int)],.int (dr r k*y)]]) (cG (au rfl (au rfl (au (aB (t:=.int (-dr r k)) (u:=.int x) rfl rfl (C2 (by omega) (by omega))) rfl))) (aA (k:=3) (by simp))) rfl (by rw[Nm];simp;omega)).trans ?_
 rw[ND]
 rfl
theorem AA(n:Nat)(x y:Int)(r:List Int)(hx:0<=x/\x<=9)(hy:0<=y/\y<=9):∀(js:List Nat)(acc:List T)(s4 s5 s6 s7:Sl),(∀k∈js,k+1<r.length)->acc.length+2*js.length<=100 →
  ∃t4 t5 t6 t7,a8 (gN 4) bcF (js.map λ(k:Nat)=>T.int k) (Ee n x y r acc s4 s5 s6 s7)=.ok (.nx (Ee n x y r (acc++js.flatMap (pr n x y r)) t4 t5 t6 t7))
 |[],acc,s4,s5,s6,s7,_,_=>⟨s4,s5,s6,s7,by simp[a8]⟩
 |k::js,acc,s4,s5,s6,s7,hk,hl=>by
  rw[Nj]at hl
  have e:=GK n x y r acc k s5 s6 s7 (hk k Nb) hx hy (by omega)
  obtain⟨t4,t5,t6,t7,ih⟩:=AA n x y r hx hy js (acc++pr n x y r k) (.va (.int k)) (.va (.tup [.int n,.int k])) (.va (.tup [.int n,.int ((k+1:Nat):Int)])) (.va (.int (dr r k))) (λj hj=>hk j (Na _ hj)) (by rw[Nm];simp[pr];omega)
  refine⟨t4,t5,t6,t7,?_⟩
  rw[Nd,cI (Z1:=Ee n x y r acc (.va (.int k)) s5 s6 s7) rfl e,ih,Py,ND]
def D5(n:Nat)(x y:Int)(r:List Int)(hx:0<=x/\x<=9)(hy:0<=y/\y<=9)(h1:1<=r.length)(h4:r.length<=4):cO [.int n,.tup [.int x,.int y,.tup (r.map .int)]]=.ok (.lst (cB n x y r)):=by
 refine bz rfl ?_
 show fD [.va (.int n),.va (.tup [.int x,.int y,.tup (r.map .int)]),.em,.em,.em,.em,.em,.em]=_
 unfold fD;rw[ay (Z':=[.va (.int n),.va (.tup [.int x,.int y,.tup (r.map .int)]),.va (.tup (r.map .int)),.em,.em,.em,.em,.em]) (bS (t:=.tup (r.map .int)) rfl rfl)];rw[ay (Z':=Ee n x y r [] .em .em .em .em) rfl];obtain⟨t4,t5,t6,t7,e⟩:=AA n x y r hx hy (Oz (r.length - 1)) [] .em .em .em .em (λk hk=>by have:=OJ.mp hk;omega) (by simp;omega)
 have e1:iR (af (o2 cX (cl dj (af (vr 2) ai)) (cn (.int 1))) ai) (Ee n x y r [] .em .em .em .em)=.ok (rng 0 ((r.length - 1:Nat):Int)):=by
  refine JF (j:=((r.length - 1:Nat):Int)) (au (aB (t:=.int (r.length:Nat)) (u:=.int 1) (aO (ts:=[.tup (r.map .int)]) rfl (by show Rs.ok (T.int ((r.map T.int).length:Nat))=_;rw[Nc])) rfl (congrArg (λz=>Rs.ok (T.int z)) (by omega))) rfl) (by omega) (by omega)
 rw[ay ((d6 (ts:=(Oz (r.length - 1)).map λ(k:Nat)=>T.int k) (by rw[e1,tT]) e))]
 rfl
def jc{t:T}(h:bO t=ZC):∃(x y:Int)(r:List Int),t=.tup [.int x,.int y,.tup (r.map .int)]/\(0<=x/\x<=9)/\(0<=y/\y<=9)/\1<=r.length/\r.length<=4:=by
 obtain⟨x,y,r,rfl,h1,h4⟩:=f9 h
 have h':(pw x y&&df (.tup r))=ZC:=h;rw[Ni]at h';obtain⟨hp,hr⟩:=h';unfold pw at hp;rw[Ni]at hp;obtain⟨i,rfl,i1,i2⟩:=dN hp.1;obtain⟨j,rfl,j1,j2⟩:=dN (t:=y) (a:=i) (b:=9) hp.2;unfold df at hr;rw[Ni]at hr
 have hr2:((r.all λu=>bw u 0 99)&&(match nums r with|some m=>oo m|none=>ZD))=ZC:=hr.2
 rw[Ni]at hr2;obtain⟨m,em⟩:=uo hr2.1
 have e:=pM em;subst e;rw[Nc]at h1 h4;exact⟨i,j,m,rfl,⟨by omega,by omega⟩,⟨by omega,by omega⟩,h1,h4⟩
noncomputable def xB(n:Nat)(t:T):List T:=match t with
 |.tup [.int x,.int y,.tup r] =>match nums r with
  |some m=>cB n x y m
  |none=>[]
 |_=>[]
def bC:Nat->List T->List T
 |_,[] =>[]
 |i,c::r=>xB i c++bC (i+1) r
noncomputable def lB(t:T):List T:=match t with
 |.tup [a,b,.int le,mo] =>.tup [b,a,.int (-le)] ::(if mo.isN then []else [.tup [a,b,mo]])
 |_=>[]
def EA(cs ls:List T):List T:=bC 0 cs++ls.flatMap lB
def oJ(n:Nat)(x y:Int)(r:List Int):xB n (.tup [.int x,.int y,.tup (r.map .int)])=cB n x y r:=by
 unfold xB;simp only[mh]
def JY(n:Nat)(x y:Int)(r:List Int):(cB n x y r).length=2*(r.length - 1):=by
 unfold cB;rw[List.length_flatMap]
 have:∀l:List Nat,(l.map λk=>(pr n x y r k).length).sum=2*l.length:=by
  intro l
  induction l with
  |nil=>rfl
  |cons a l ih=>rw[Nd,Pa,ih,Nj];simp[pr];omega
 rw[this,O7]
def xU{t:T}(h:bO t=ZC):(xB n t).length<=6:=by
 obtain⟨x,y,r,rfl,_,_,h1,h4⟩:=jc h;rw[oJ,JY];omega
theorem vi:∀{cs:List T}{i:Nat},(∀c∈cs,bO c=ZC)->(bC i cs).length<=6*cs.length
 |[],i,_=>by simp[bC]
 |c::cs,i,h=>by
  rw[bC,Nm,Nj]
  have:=xU (n:=i) (h c Nb)
  have:=vi (cs:=cs) (i:=i+1) λc hc=>h c (Na _ hc)
  omega
def yP(t:T):(lB t).length<=2:=by
 unfold lB;split
 ·rename_i a b le mo
  cases mo.isN <;> simp
 ·simp
theorem Ac:∀(ls:List T),(ls.flatMap lB).length<=2*ls.length
 |[] =>by simp
 |t::ls=>by
  rw[Py,Nm,Nj]
  have:=yP t
  have:=Ac ls;omega
variable{cs:List T}
def nP{t:T}(h:bF cs t=ZC):∃(a b mo:T)(le:Int),t=.tup [a,b,.int le,mo]/\bp cs a=ZC/\bp cs b=ZC:=by
 obtain⟨a,b,x,y,rfl,hd,ha,hb,_⟩:=mq h;unfold fT at hd;rw[Ni]at hd;obtain⟨i,rfl,_⟩:=dN hd.1;exact⟨a,b,y,i,rfl,ha,hb⟩
def Bp{t:T}(h:bF cs t=ZC):cD [t]=.ok (.lst (lB t)):=by
 obtain⟨a,b,mo,le,rfl,_,_⟩:=nP h;refine bz rfl ?_
 show eR [.va (.tup [a,b,.int le,mo]),.em]=_
 unfold eR;rw[ay (Z':=[.va (.tup [a,b,.int le,mo]),.ow (.lst [.tup [b,a,.int (-le)]])]) (Ds (l:=[.tup [b,a,.int (-le)]]) (au (cG (au rfl (au rfl (au rfl rfl))) (aA (k:=3) (by simp))) rfl) (by simp) (by simp))]
 have e:∀(Z:En) l,Z=[.va (.tup [a,b,.int le,mo]),.ow (.lst l)]->o2 cL (o2 aY (vr 0) (cn (.int 3))) (cn .non) Z=.ok (.bl (!mo.isN)):=λZ l z=>by subst z;rfl
 have e2:lB (.tup [a,b,.int le,mo])=.tup [b,a,.int (-le)] ::(if mo.isN then []else [.tup [a,b,mo]]):=rfl
 rw[e2]
 cases q:mo.isN with
 |true=>
  rw[ay (Z':=[.va (.tup [a,b,.int le,mo]),.ow (.lst [.tup [b,a,.int (-le)]])]) ((cu (aZ (by rw[e _ _ rfl,q];rfl))).trans rfl)]
  rfl
 |false=>
  rw[ay (Z':=[.va (.tup [a,b,.int le,mo]),.ow (.lst ([.tup [b,a,.int (-le)]] ++[.tup [a,b,mo]]))]) ((eZ (aZ (by rw[e _ _ rfl,q];rfl))).trans (mw (l:=[.tup [b,a,.int (-le)]]) (cG (au rfl (au rfl (au rfl rfl))) (aA (k:=3) (by simp))) rfl (by simp)))]
  rfl
abbrev bdG:T->En->Rs En:=gT 2 (dE (gN 2) (dE (gN 3) j4))
theorem Az(R:T)(s4:Sl):∀(cs:List T)(acc:List T)(i:Nat)(s2 s3:Sl),(∀c∈cs,bO c=ZC)->acc.length+6*cs.length<=100 →
  ∃y2 y3,a8 bdG bdF (cb i cs) [.va R,.ow (.lst acc),s2,s3,s4]=.ok (.nx [.va R,.ow (.lst (acc++bC i cs)),y2,y3,s4])
 |[],acc,i,s2,s3,_,_=>⟨s2,s3,by simp[cb,a8,bC]⟩
 |c::cs,acc,i,s2,s3,hc,hl=>by
  have h0:=hc c Nb
  have hx:=xU (n:=i) h0;obtain⟨x,y,r,rfl,a1,a2,a3,a4⟩:=jc h0;rw[Nj]at hl;rw[oJ]at hx
  have st:bdF [.va R,.ow (.lst acc),.va (.int i),.va (.tup [.int x,.int y,.tup (r.map .int)]),s4]=.ok (.nx [.va R,.ow (.lst (acc++cB i x y r)),.va (.int i),.va (.tup [.int x,.int y,.tup (r.map .int)]),s4]):=
   Du (l:=acc) (aO (ts:=[.int i,.tup [.int x,.int y,.tup (r.map .int)]]) rfl (D5 i x y r a1 a2 a3 a4)) rfl (by omega)
  obtain⟨z2,z3,ih⟩:=Az R s4 cs (acc++cB i x y r) (i+1) (.va (.int i)) (.va (.tup [.int x,.int y,.tup (r.map .int)])) (λc h=>hc c (Na _ h)) (by rw[Nm];omega)
  refine⟨z2,z3,?_⟩
  rw[cb,cI (Z1:=[.va R,.ow (.lst acc),.va (.int i),.va (.tup [.int x,.int y,.tup (r.map .int)]),s4]) rfl st,ih,bC,oJ,ND]
abbrev blF:V4:=o8 1 (cl cD (af (vr 4) ai))
theorem Ay(R:T)(cs:List T)(s2 s3:Sl):∀(ls:List T)(acc:List T)(s4:Sl),(∀t∈ls,bF cs t=ZC)->acc.length+2*ls.length<=100 →
  ∃y4,a8 (gN 4) blF ls [.va R,.ow (.lst acc),s2,s3,s4]=.ok (.nx [.va R,.ow (.lst (acc++ls.flatMap lB)),s2,s3,y4])
 |[],acc,s4,_,_=>⟨s4,by simp[a8]⟩
 |t::ls,acc,s4,hl,hn=>by
  rw[Nj]at hn
  have:=yP t
  have st:blF [.va R,.ow (.lst acc),s2,s3,.va t]=.ok (.nx [.va R,.ow (.lst (acc++lB t)),s2,s3,.va t]):=Du (l:=acc) (aO (ts:=[t]) rfl (Bp (hl t Nb))) rfl (by omega)
  obtain⟨y4,ih⟩:=Ay R cs s2 s3 ls (acc++lB t) (.va t) (λu h=>hl u (Na _ h)) (by rw[Nm];omega)
  refine⟨y4,?_⟩
  rw[cI (Z1:=[.va R,.ow (.lst acc),s2,s3,.va t]) rfl st,ih,Py,ND]
variable{R:T}
def iM(hp:R.pl=ZC)(h:fK R=ZC):aW [R]=.ok .non:=by
 refine uR (Z:=[.va R]) rfl ?_
 show eF [.va R]=_
 unfold eF;exact(cu ((hV (k:=ZC) (aZ (aO (ts:=[R]) rfl (by rw[xF R hp,h])))))).trans rfl
def A5(hp:R.pl=ZC)(h:fK R=ZD):aW [R]=.err "NoRecord":=by
 refine yQ rfl ?_
 show eF [.va R]=_
 unfold eF;exact(eZ ((hV (k:=ZD) (aZ (aO (ts:=[R]) rfl (by rw[xF R hp,h])))))).trans rfl
structure Good (cs ls:List T):Prop where
 c:br (.tup cs)=ZC
 l:∀t∈ls,bF cs t=ZC
 n:ls.length<=8
 p:(RR cs ls).pl=ZC
variable{ls:List T}
def Good.ok(g:Good cs ls):fK (RR cs ls)=ZC:=by
 show(br (.tup cs)&&(fz (.tup ls) 0 8&&ls.all (bF cs)))=ZC
 rw[g.c,Rf,Ni,NN];exact⟨by simp[fz];exact g.n,g.l⟩
def D1(g:Good cs ls):fw [RR cs ls]=.ok (.lst (EA cs ls)):=by
 obtain⟨hc,c1,c4⟩:=cV g.c
 have hn:=g.n;refine bz rfl ?_
 show qI [.va (RR cs ls),.em,.em,.em,.em]=_
 unfold qI;rw[ay (n9 (t:=.non) (aO (ts:=[RR cs ls]) rfl (iM g.p g.ok)))];rw[ay (Z':=[.va (RR cs ls),.ow (.lst []),.em,.em,.em]) (qe (by simp))]
 obtain⟨y2,y3,e⟩:=Az (RR cs ls) .em cs [] 0 .em .em hc (by simp;omega)
 rw[ay ((d6 (ts:=cb 0 cs) rfl e))]
 have:=vi (i:=0) hc;obtain⟨y4,e2⟩:=Ay (RR cs ls) cs y2 y3 ls ([] ++bC 0 cs) .em g.l (by rw[OC];omega)
 rw[ay ((d6 (ts:=ls) rfl e2))]
 rfl
noncomputable abbrev BE(R:T)(acc:List T)(n:Nat)(x y:Int)(r:List Int)(s6 s7 s8 s9 s10 s11:Sl):En:=[.va R,.ow (.lst acc),.va (.int n),.va (.int x),.va (.int y),.va (.tup (r.map .int)),s6,s7,s8,s9,s10,s11]
def F8(R:T)(n:Nat)(x y:Int)(r:List Int)(acc:List T)(k:Nat)(s7 s8 s9 s10 s11:Sl)(hk:k+1<r.length)(hx:0<=x/\x<=9)(hy:0<=y/\y<=9)(ha:acc.length<=100):
  lkF (BE R acc n x y r (.va (.int ((k+1:Nat):Int))) s7 s8 s9 s10 s11)=.ok (.nx (BE R (acc++pr n x y r k) n x y r (.va (.int ((k+1:Nat):Int))) (.va (.int (dr r k))) s8 s9 s10 s11)):=by
 have sb:∀acc s7,o2 cX (vr 6) (cn (.int 1)) (BE R acc n x y r (.va (.int ((k+1:Nat):Int))) s7 s8 s9 s10 s11)=.ok (.int k):=λacc s7=>aB (t:=.int ((k+1:Nat):Int)) (u:=.int 1) rfl rfl (congrArg (λz=>Rs.ok (T.int z)) (by omega))
 refine(ay (Z':=BE R acc n x y r (.va (.int ((k+1:Nat):Int))) (.va (.int (dr r k))) s8 s9 s10 s11) (bS (t:=.int (dr r k)) (aB (t:=.int (r.getD (k+1) 0)) (u:=.int (r.getD k 0)) (Bf (n:=k+1) rfl rfl (oA hk)) (Bf (n:=k) rfl (sb acc s7) (oA (by omega))) rfl) rfl)).trans ?_
 refine(ay (Z':=BE R (acc++[.tup [.tup [.int n,.int k],.tup [.int n,.int ((k+1:Nat):Int)],.int (dr r k*y)]]) n x y r (.va (.int ((k+1:Nat):Int))) (.va (.int (dr r k))) s8 s9 s10 s11) (mw (l:=acc) (cG (au (cG (au rfl (au (sb _ _) rfl)) (aA (k:=2) (by simp))) (au (cG rfl (aA (k:=2) (by simp))) (au (aB (t:=.int y) (u:=.int (dr r k)) rfl rfl ((mj (by omega) (by omega)).trans (by rw[Int.mul_comm]))) rfl))) (aA (k:=3) (by simp))) rfl (by omega))).trans ?_
 refine(mw (l:=acc++[.tup [.tup [.int n,.int k],.tup [.int n,.int ((k+1:Nat):Int)],.int (dr r k*y)]]) (t:=.tup [.tup [.int n,.int ((k+1:Nat):Int)],.tup [.int n,.int k],.int (-dr r k*x)]) (cG (au (cG rfl (aA (k:=2) (by simp))) (au (cG (au rfl (au (sb _ _) rfl)) (aA (k:=2) (by simp))) (au (aB (t:=.int 0) (u:=.int (x*dr r k)) rfl (aB (t:=.int x) (u:=.int (dr r k)) rfl rfl (mj (by omega) (by omega))) (congrArg (λz=>Rs.ok (T.int z)) (by rw[Int.neg_mul,Int.mul_comm x,Va]))) rfl))) (aA (k:=3) (by simp))) rfl (by rw[Nm];simp;omega)).trans ?_
 rw[ND]
 rfl
theorem zW(R:T)(n:Nat)(x y:Int)(r:List Int)(s8 s9 s10 s11:Sl)(hx:0<=x/\x<=9)(hy:0<=y/\y<=9):∀(js:List Nat)(acc:List T)(s6 s7:Sl),(∀k∈js,k+1<r.length)->acc.length+2*js.length<=100 →
  ∃t6 t7,a8 (gN 6) lkF (js.map λ(k:Nat)=>T.int ((k+1:Nat):Int)) (BE R acc n x y r s6 s7 s8 s9 s10 s11)=.ok (.nx (BE R (acc++js.flatMap (pr n x y r)) n x y r t6 t7 s8 s9 s10 s11))
 |[],acc,s6,s7,_,_=>⟨s6,s7,by simp[a8]⟩
 |k::js,acc,s6,s7,hk,hl=>by
  rw[Nj]at hl
  have e:=F8 R n x y r acc k s7 s8 s9 s10 s11 (hk k Nb) hx hy (by omega)
  obtain⟨t6,t7,ih⟩:=zW R n x y r s8 s9 s10 s11 hx hy js (acc++pr n x y r k) (.va (.int ((k+1:Nat):Int))) (.va (.int (dr r k))) (λj hj=>hk j (Na _ hj)) (by rw[Nm];simp[pr];omega)
  refine⟨t6,t7,?_⟩
  rw[Nd,cI (Z1:=BE R acc n x y r (.va (.int ((k+1:Nat):Int))) s7 s8 s9 s10 s11) rfl e,ih,Py,ND]
def Fc(n:Nat)(h:1<=n):rng 1 (n:Int)=(Oz (n - 1)).map λ(k:Nat)=>T.int ((k+1:Nat):Int):=by
 unfold rng
 have:((n:Int) - 1).toNat=n - 1:=by omega
 rw[this];exact NQ λk _=>congrArg T.int (by omega)
variable{Z:En}
def iR2{f:V3}{i j:Int}(h:f Z=.ok [.int i,.int j])(h0:0<=i)(h1:i<=100000)(h2:0<=j)(h3:j<=100000):iR f Z=.ok (rng i j):=by
 unfold iR;rw[h]
 have e:(vA i&&vA j)=ZC:=by unfold vA;simp;omega
 show(if (vA i&&vA j)=ZC then _ else _)=_
 rw[e];rfl
abbrev Lc:V4:=(dM (iR (af (cn (.int 1)) (af (cl dj (af (vr 5) ai)) ai))) (gN 6) lkF)
abbrev lcG:T->En->Rs En:=gT 2 (dE (gN 2) (dE (gT 3 (dE (gN 3) (dE (gN 4) (dE (gN 5) j4)))) j4))
theorem z9(R:T)(s8 s9 s10 s11:Sl):∀(cs:List T)(acc:List T)(i:Nat)(s2 s3 s4 s5 s6 s7:Sl),(∀c∈cs,bO c=ZC)->acc.length+6*cs.length<=90 →
  ∃y2 y3 y4 y5 y6 y7,a8 lcG Lc (cb i cs) [.va R,.ow (.lst acc),s2,s3,s4,s5,s6,s7,s8,s9,s10,s11]=.ok (.nx [.va R,.ow (.lst (acc++bC i cs)),y2,y3,y4,y5,y6,y7,s8,s9,s10,s11])
 |[],acc,i,s2,s3,s4,s5,s6,s7,_,_=>⟨s2,s3,s4,s5,s6,s7,by simp[cb,a8,bC]⟩
 |c::cs,acc,i,s2,s3,s4,s5,s6,s7,hc,hl=>by
  have h0:=hc c Nb
  have hx:=xU (n:=i) h0;obtain⟨x,y,r,rfl,a1,a2,a3,a4⟩:=jc h0;rw[Nj]at hl;rw[oJ]at hx;obtain⟨t6,t7,e⟩:=zW R i x y r s8 s9 s10 s11 a1 a2 (Oz (r.length - 1)) acc s6 s7 (λk hk=>by have:=OJ.mp hk;omega) (by rw[O7];omega)
  have e1:iR (af (cn (.int 1)) (af (cl dj (af (vr 5) ai)) ai)) (BE R acc i x y r s6 s7 s8 s9 s10 s11)=.ok (rng 1 (r.length:Nat)):=
   iR2 (i:=1) (j:=(r.length:Nat)) (au rfl (au (aO (ts:=[.tup (r.map .int)]) rfl (by show Rs.ok (T.int ((r.map T.int).length:Nat))=_;rw[Nc])) rfl)) (by omega) (by omega) (by omega) (by omega)
  have st:Lc (BE R acc i x y r s6 s7 s8 s9 s10 s11)=.ok (.nx (BE R (acc++cB i x y r) i x y r t6 t7 s8 s9 s10 s11)):=(d6 (ts:=(Oz (r.length - 1)).map λ(k:Nat)=>T.int ((k+1:Nat):Int)) (by rw[e1,Fc _ a3]) e)
  obtain⟨z2,z3,z4,z5,z6,z7,ih⟩:=z9 R s8 s9 s10 s11 cs (acc++cB i x y r) (i+1) (.va (.int i)) (.va (.int x)) (.va (.int y)) (.va (.tup (r.map .int))) t6 t7 (λc h=>hc c (Na _ h)) (by rw[Nm];omega)
  refine⟨z2,z3,z4,z5,z6,z7,?_⟩
  rw[cb,cI (Z1:=BE R acc i x y r s6 s7 s8 s9 s10 s11) rfl st,ih,bC,oJ,ND]
abbrev llG:T->En->Rs En:=gT 4 (dE (gN 8) (dE (gN 9) (dE (gN 10) (dE (gN 11) j4))))
theorem zV(R:T)(cs:List T)(s2 s3 s4 s5 s6 s7:Sl):∀(ls:List T)(acc:List T)(s8 s9 s10 s11:Sl),(∀t∈ls,bF cs t=ZC)->acc.length+2*ls.length<=100 →
  ∃y8 y9 y10 y11,a8 llG llF ls [.va R,.ow (.lst acc),s2,s3,s4,s5,s6,s7,s8,s9,s10,s11]=.ok (.nx [.va R,.ow (.lst (acc++ls.flatMap lB)),s2,s3,s4,s5,s6,s7,y8,y9,y10,y11])
 |[],acc,s8,s9,s10,s11,_,_=>⟨s8,s9,s10,s11,by simp[a8]⟩
 |t::ls,acc,s8,s9,s10,s11,hl,hn=>by
  rw[Nj]at hn
  have hlb:=yP t;obtain⟨a,b,mo,le,rfl,_,_⟩:=nP (hl t Nb)
  have e2:lB (.tup [a,b,.int le,mo])=.tup [b,a,.int (-le)] ::(if mo.isN then []else [.tup [a,b,mo]]):=rfl
  have e:∀l,o2 cL (vr 11) (cn .non) [.va R,.ow (.lst l),s2,s3,s4,s5,s6,s7,.va a,.va b,.va (.int le),.va mo]=.ok (.bl (!mo.isN)):=λl=>rfl
  have st:llF [.va R,.ow (.lst acc),s2,s3,s4,s5,s6,s7,.va a,.va b,.va (.int le),.va mo]=.ok (.nx [.va R,.ow (.lst (acc++lB (.tup [a,b,.int le,mo]))),s2,s3,s4,s5,s6,s7,.va a,.va b,.va (.int le),.va mo]):=by
   refine(ay (Z':=[.va R,.ow (.lst (acc++[.tup [b,a,.int (-le)]])),s2,s3,s4,s5,s6,s7,.va a,.va b,.va (.int le),.va mo]) (mw (l:=acc) (t:=.tup [b,a,.int (-le)]) (cG (au rfl (au rfl (au (aB (t:=.int 0) (u:=.int le) rfl rfl (congrArg (λz=>Rs.ok (T.int z)) (Va le))) rfl))) (aA (k:=3) (by simp))) rfl (by omega))).trans ?_
   rw[e2]
   cases q:mo.isN with
   |true=>exact(cu (aZ (by rw[e,q];rfl))).trans rfl
   |false=>
    refine(eZ (aZ (by rw[e,q];rfl))).trans ((mw (l:=acc++[.tup [b,a,.int (-le)]]) (t:=.tup [a,b,mo]) (cG (au rfl (au rfl (au rfl rfl))) (aA (k:=3) (by simp))) rfl (by rw[Nm];simp;omega)).trans ?_)
    rw[ND]
    rfl
  obtain⟨y8,y9,y10,y11,ih⟩:=zV R cs s2 s3 s4 s5 s6 s7 ls (acc++lB (.tup [a,b,.int le,mo])) (.va a) (.va b) (.va (.int le)) (.va mo) (λu h=>hl u (Na _ h)) (by rw[Nm];omega)
  refine⟨y8,y9,y10,y11,?_⟩
  rw[cI (Z1:=[.va R,.ow (.lst acc),s2,s3,s4,s5,s6,s7,.va a,.va b,.va (.int le),.va mo]) rfl st,ih,Py,ND]
def Bo(hcs:br (.tup cs)=ZC)(hls:∀t∈ls,bF cs t=ZC)(hn:ls.length<=8):eE [RR cs ls]=.ok (.lst (EA cs ls)):=by
 obtain⟨hc,c1,c4⟩:=cV hcs;refine bz rfl ?_
 show iA [.va (RR cs ls),.em,.em,.em,.em,.em,.em,.em,.em,.em,.em,.em]=_
 unfold iA;rw[ay (Z':=[.va (RR cs ls),.ow (.lst []),.em,.em,.em,.em,.em,.em,.em,.em,.em,.em]) (qe (by simp))]
 obtain⟨y2,y3,y4,y5,y6,y7,e⟩:=z9 (RR cs ls) .em .em .em .em cs [] 0 .em .em .em .em .em .em hc (by simp;omega)
 rw[ay ((d6 (ts:=cb 0 cs) rfl e))]
 have:=vi (i:=0) hc;obtain⟨y8,y9,y10,y11,e2⟩:=zV (RR cs ls) cs y2 y3 y4 y5 y6 y7 ls ([] ++bC 0 cs) .em .em .em .em hls (by rw[OC];omega)
 rw[ay ((d6 (ts:=ls) rfl e2))]
 rfl
variable{l:List T}
def pk:(T.tup l).pl=plS l:=by unfold T.pl;rfl
def Good.parts(g:Good cs ls):(T.tup cs).pl=ZC/\∀t∈ls,t.pl=ZC:=by
 have:=g.p;rw[pk]at this;unfold plS at this;rw[Ni]at this
 have h2:=this.2;unfold plS at h2;rw[Ni,pk]at h2;exact⟨this.1,λt ht=>iZ h2.1 ht⟩
def FP{r:Int}(h0:0<=r)(h1:r<l.length):∃t∈l,aY (.lst l) (.int r)=.ok t:=by
 obtain⟨n,rfl⟩:=Ol h0
 have hn:n<l.length:=by omega
 exact⟨l[n],Oi hn,yS hn⟩
def B8{t:T}(h:sm 8 t=ZC):t.pl=ZC:=Ha t h
def wu(c0 s1:Sl)(x y:T)(r:List T)(i:Nat)(h:r.length<=4):
  eh (iR (af (cl dj (af (o2 aY (vr 3) (cn (.int 2))) ai)) ai)) [ZB,ZA 2] (gN 0) bT (bA (af (vr 1) (af (vr 0) ai))) [c0,s1,.va (.int i),.va (.tup [x,y,.tup r])]=.ok (.lst (mE i r.length)):=
 qf (JF (j:=(r.length:Int)) rfl (by omega) (by omega)) (aA (k:=4) (by rw[kr];exact h)) (by simp) λt _=>mk2 _ _
theorem zK:∀(cs:List T)(c0:T)(acc:List T)(i:Nat)(s2 s3:Sl),(∀c∈cs,bO c=ZC)->acc.length+4*cs.length<=100 →
  ∃y2 y3,a8 evG peF (cb i cs) [.va c0,.ow (.lst acc),s2,s3]=.ok (.nx [.va c0,.ow (.lst (acc++fG i cs)),y2,y3])
 |[],c0,acc,i,s2,s3,_,_=>⟨s2,s3,by simp[cb,a8,fG]⟩
 |c::cs,c0,acc,i,s2,s3,hc,hl=>by
  obtain⟨x,y,r,rfl,r1,r2⟩:=f9 (hc c Nb);rw[Nj]at hl
  have st:peF [.va c0,.ow (.lst acc),.va (.int i),.va (.tup [x,y,.tup r])]=.ok (.nx [.va c0,.ow (.lst (acc++mE i r.length)),.va (.int i),.va (.tup [x,y,.tup r])]):=Du (l:=acc) (wu _ _ x y r i r2) rfl (by rw[iQ];omega)
  obtain⟨z2,z3,ih⟩:=zK cs c0 (acc++mE i r.length) (i+1) (.va (.int i)) (.va (.tup [x,y,.tup r])) (λc h=>hc c (Na _ h)) (by rw[Nm,iQ];omega)
  refine⟨z2,z3,?_⟩
  rw[cb,cI (Z1:=[.va c0,.ow (.lst acc),.va (.int i),.va (.tup [x,y,.tup r])]) rfl st,ih,fG,ND]
  rfl
def CM(g:Good cs ls):cq [RR cs ls]=.ok (.lst (fG 0 cs)):=by
 obtain⟨hc,c1,c4⟩:=cV g.c;refine bz rfl ?_
 show qH [.va (RR cs ls),.em,.em,.em]=_
 unfold qH;rw[ay (n9 (t:=.non) (aO (ts:=[RR cs ls]) rfl (iM g.p g.ok)))];rw[ay (Z':=[.va (RR cs ls),.ow (.lst []),.em,.em]) (qe (by simp))]
 obtain⟨y2,y3,e⟩:=zK cs (RR cs ls) [] 0 .em .em hc (by simp;omega)
 rw[ay ((d6 (ts:=cb 0 cs) rfl e))]
 rfl
def uH{t:T}(g:Good cs ls)(ht:t.pl=ZC)(h:bp cs t=ZC):cM [RR cs ls,t]=.ok .non:=by
 refine uR (Z:=[.va (RR cs ls),.va t]) rfl ?_
 show jf [.va (RR cs ls),.va t]=_
 unfold jf;exact(cu ((hV (k:=ZC) (aZ (aO (ts:=[.tup cs,t]) rfl (by rw[u5 cs t g.c ht,h])))))).trans rfl
variable{g:T->En->Rs En}{ts:List T}
def A9{F:V4}(J:En->Prop)(h:∀t∈ts,∀Z,J Z->∃Z1 Z2,g t Z=.ok Z1/\F Z1=.ok (.nx Z2)/\J Z2)(hj:J Z):∃Z',a8 g F ts Z=.ok (.nx Z')/\J Z':=
 (w4 (p:=λ_=>ZC) J ts (λt ht Z hj=>by
  obtain⟨Z1,Z2,a,b,c⟩:=h t ht Z hj;exact⟨Z1,a,λ_=>⟨Z2,b,c⟩,λh=>by cases h⟩) Z hj).1 (by simp)
def p2{a b:V5}{t u:T}(ha:a Z=.ok t)(hb:b Z=.ok u):bA (af a (af b ai)) Z=.ok (.tup [t,u]):=cG (au ha (au hb rfl)) (aA (k:=2) (by simp))
def mO:fL [.lst l]=.ok (.tup l):=rfl
def GJ(g:Good cs ls):(EA cs ls).length<=60:=by
 unfold EA;rw[Nm];obtain⟨hc,c1,c4⟩:=cV g.c
 have:=vi (i:=0) hc
 have:=Ac ls
 have:=g.n;omega
open Gr
structure N2 where
 c:Int
 k:Int
deriving DecidableEq
theorem N2.ext':∀{u v:N2},u.c=v.c->u.k=v.k->u=v
 |⟨_,_⟩,⟨_,_⟩,rfl,rfl=>rfl
def en(v:N2):T:=.tup [.int v.c,.int v.k]
noncomputable def eB(x:N2×N2×Int):T:=.tup [en x.1,en x.2.1,.int x.2.2]
def eN(ks:List Nat):List T:=ks.map λk=>.int (k:Nat)
def eW(x:Int×List Nat):T:=.tup [.int x.1,.lst (eN x.2)]
noncomputable def ky(v:N2):List L2.Key:=[.inl v.c,.inl v.k]
def bq(v:N2):keyOf (en v)=ZA (ky v):=rfl
variable{v:N2}
def ja{u:N2}(h:ZA (ky u)=ZA (ky v)):u=v:=by
 injection h with h
 injection h with h1 h2
 injection h2 with h2 _
 injection h1 with h1
 injection h2 with h2
 exact N2.ext' h1 h2
def qu{u:N2}(h:en u=en v):u=v:=ja (by rw[<-bq u,<-bq v,h])
def zf(u v:N2):bc (en u) (en v)=decide (u=v):=by
 unfold en bc beqTs bc beqTs beqTs
 by_cases h:u=v
 ·subst h;simp[bc]
 ·have:¬ (u.c=v.c/\u.k=v.k):=λz=>h (N2.ext' z.1 z.2)
  simp[h,bc];exact λz=>λy=>this ⟨z,y⟩
theorem mH(g:N2->T)(v:N2):∀(ns:List N2),kO (ns.map en) (ns.map g) (ky v)=if v∈ns then ZA (g v)else ZB
 |[] =>rfl
 |u::ns=>by
  rw[Nd,Nd,kO,bq]
  by_cases h:u=v
  ·subst h;rw[if_pos rfl,if_pos Nb]
  ·rw[if_neg (λz=>h (ja z)),mH g v ns]
   have:(v∈u::ns)↔v∈ns:=by rw[Nl];exact⟨λz=>z.elim (λy=>absurd y.symm h) id,.inr⟩
   simp only[this]
theorem j6(x:T)(v:N2)(g:N2->T):∀(ns:List N2),v∉ns->gA (en v) x (ns.map en) (ns.map g)=(ns.map en++[en v],ns.map g++[x])
 |[],_=>rfl
 |u::ns,h=>by
  rw[Nl,not_or]at h;rw[Nd,Nd,gA,bq,bq,if_neg (λz=>h.1 (ja z).symm),j6 x v g ns h.2]
  rfl
theorem u6(x:T)(v:N2)(g:N2->T):∀(ns:List N2),ns.Nodup->v∈ns->gA (en v) x (ns.map en) (ns.map g)=(ns.map en,ns.map λu=>if u=v then x else g u)
 |[],_,h=>by simp at h
 |u::ns,hn,h=>by
  rw[NP]at hn;rw[Nd,Nd,Nd,gA,bq,bq]
  by_cases z:u=v
  ·subst z
   rw[if_pos rfl,if_pos rfl]
   congr 2
   exact NQ λw hw=>by rw[if_neg (λ(y:w=u)=>hn.1 (y▸hw))]
  ·rw[if_neg (λy=>z (ja y)),if_neg z]
   have h':v∈ns:=(Nl.mp h).elim (λy=>absurd y.symm z) id
   rw[u6 x v g ns hn.2 h']
theorem kA [DecidableEq α]:∀{l m:List α},l.Nodup->(∀x∈l,x∈m)->l.length<=m.length
 |[],_,_,_=>OF _
 |x::l,m,hn,h=>by
  rw[NP]at hn
  have hx:=h x Nb
  have:=kA (m:=m.erase x) hn.2 λy hy=>(TV (λ(z:y=x)=>hn.1 (z▸hy))).mpr (h y (Na _ hy))
  rw[List.length_erase_of_mem hx]at this
  have:0<m.length:=List.length_pos_of_mem hx;rw[Nj];omega
def oW(o:Option (Int×List Nat)):T:=match o with
 |some x=>eW x
 |none=>.non
structure DR (P ns:List N2)(b:cx N2):Prop where
 nd:ns.Nodup
 mem:∀v,v∈ns↔(b v).isSome=ZC
 sub:∀v∈ns,v∈P
def dV(ns:List N2)(b:cx N2):List T:=ns.map λv=>oW (b v)
variable{P ns:List N2}{b:cx N2}
def DR.get(D:DR P ns b)(v:N2):kO (ns.map en) (dV ns b) (ky v)=(b v).map eW:=by
 unfold dV;rw[mH (λv=>oW (b v))]
 have:=D.mem v
 cases q:b v with
 |none=>rw[q]at this;rw[if_neg (λz=>by simpa using this.mp z)];rfl
 |some x=>rw[q]at this;rw[if_pos (this.mpr rfl)];rfl
def DR.put(D:DR P ns b)(hv:v∈P)(y:Int×List Nat):∃ns',DR P ns' (Gr.put b v y)/\gA (en v) (eW y) (ns.map en) (dV ns b)=(ns'.map en,dV ns' (Gr.put b v y)):=by
 by_cases h:v∈ns
 ·refine⟨ns,⟨D.nd,λu=>?_,D.sub⟩,?_⟩
  ·by_cases z:u=v
   ·subst z;rw[fq];exact⟨λ_=>rfl,λ_=>h⟩
   ·rw[lA z];exact D.mem u
  ·unfold dV
   rw[u6 _ _ _ _ D.nd h]
   congr 1
   refine NQ λu _=>?_
   by_cases z:u=v
   ·subst z;rw[if_pos rfl,fq];rfl
   ·rw[if_neg z,lA z]
 ·refine⟨ns++[v],⟨?_,λu=>?_,λu hu=>?_⟩,?_⟩
  ·exact Ot.mpr ⟨D.nd,by simp,λx hx y hy=>by simp at hy;subst hy;exact λz=>h (z▸hx)⟩
  ·rw[NO,Ny]
   by_cases z:u=v
   ·subst z;rw[fq];exact⟨λ_=>rfl,λ_=>.inr rfl⟩
   ·rw[lA z,<-D.mem u];exact⟨λw=>w.elim id λy=>absurd y z,.inl⟩
  ·rcases NO.mp hu with w|w
   ·exact D.sub u w
   ·rw[Ny.mp w];exact hv
  ·unfold dV
   rw[j6 _ _ _ _ h,NR,NR]
   congr 1
   congr 1
   ·refine NQ λu hu=>?_
    rw[lA (λ(z:u=v)=>h (z▸hu))]
   ·simp[fq,oW]
def D2(D:DR P ns b)(x:N2×N2×Int)(d:Int)(w:List Nat):
  dR [.dct (ns.map en) (dV ns b),eB x,eW (d,w)]=.ok (.bl (fB b x.2.1 (d+x.2.2))):=by
 refine bz rfl ?_
 show kg [.va (.dct (ns.map en) (dV ns b)),.va (eB x),.va (eW (d,w)),.em]=_
 unfold kg
 have g:oD jA (vr 0) (o2 aY (vr 1) (cn (.int 1))) [.va (.dct (ns.map en) (dV ns b)),.va (eB x),.va (eW (d,w)),.em]=.ok (oW (b x.2.1)):=by
  refine Lh (ks:=ns.map en) (vs:=dV ns b) (u:=en x.2.1) rfl rfl ?_
  unfold jA;rw[bq];simp only[D.get];cases b x.2.1 <;> rfl
 rw[ay (bS (t:=oW (b x.2.1)) (Z':=[.va (.dct (ns.map en) (dV ns b)),.va (eB x),.va (eW (d,w)),.va (oW (b x.2.1))]) g rfl)];refine bP ?_
 unfold fB
 cases q:b x.2.1 with
 |none=>exact Dp (aB (t:=.non) (u:=.non) rfl rfl rfl)
 |some y=>exact(Dq (aB (t:=eW y) (u:=.non) rfl rfl rfl)).trans (aB (t:=.int (d+x.2.2)) (u:=.int y.1) rfl rfl rfl)
abbrev LR:T->En->Rs En:=gT 2 (dE (gN 4) (dE (gN 5) j4))
def eL(L:bU N2):T:=.lst (L.map eB)
def B6(L:bU N2)(t:T):T:=match t with
 |.int j=>match L[j.toNat]? with
  |some x=>en x.1
  |none=>.non
 |_=>.non
variable{L:bU N2}
theorem zM:∀{ks:List Nat}{a b:N2},Ch L a ks b->(eN ks).map (B6 L)=(fF L ks).map en
 |[],_,_,_=>rfl
 |k::r,a,b,h=>by
  rw[h.L7];obtain⟨c,m,e,h⟩:=h
  show B6 L (.int k)::(eN r).map (B6 L)=en a::(fF L r).map en
  rw[zM h]
  congr 1
  unfold B6;simp only[Oq,e]
theorem Eh(v:N2):∀(l:List N2),j9 (en v) (l.map en)=decide (v∈l)
 |[] =>rfl
 |u::l=>by
  have ih:=Eh v l;unfold j9 at ih ⊢;rw[Nd,Qj,ih,zf]
  by_cases h:u=v
  ·subst h;simp
  ·have h':¬ v=u:=λz=>h z.symm
   simp[h,h']
theorem xC(v:N2):∀(l:List N2)(n:Nat),v∈l->kI (en v) (l.map en) n=ZA (n+l.idxOf v)
 |[],n,h=>by simp at h
 |u::l,n,h=>by
  rw[Nd,kI,zf,VF]
  by_cases z:u=v
  ·subst z;simp
  ·have h':v∈l:=(Nl.mp h).elim (λy=>absurd y.symm z) id
   have zb:(u == v)=ZD:=by rw[beq_eq_false_iff_ne];exact z
   rw[zb,decide_eq_false z,if_neg NJ,xC v l (n+1) h'];simp only[cond_false]
   congr 1
   omega
def Hi(v:N2):(en v).nd=ZC:=rfl
theorem uJ(f:α->T)(h:∀a,(f a).nd=ZC):∀l:List α,nds (l.map f)=ZC
 |[] =>rfl
 |a::l=>by rw[Nd,nds,h a,uJ f h l];rfl
def yZ(v:N2):(en v).dep<=60:=by show(T.tup [.int v.c,.int v.k]).dep<=60;simp[T.dep,deps]
def Ln(v:N2)(l:List N2):J7 (en v) (.lst (l.map en))=.ok (.bl (decide (v∈l))):=by
 show(if (_\/_)/\_/\(T.lst (l.map en)).nd=ZC then _ else _)=_
 rw[if_pos ⟨.inl (yZ v),rfl,uJ en Hi l⟩,Eh]
def qh(v:N2)(l:List N2)(h:v∈l):eJ (.lst (l.map en)) (en v)=.ok (.int ((l.idxOf v:Nat):Int)):=by
 unfold eJ;simp only;rw[if_pos ⟨.inl (yZ v),rfl,uJ en Hi l⟩,xC v l 0 h,Td]
def JQ(p q:List Nat):eN (p++q)=eN p++eN q:=by unfold eN;rw[NR]
theorem C0(D:Bool):∀ks:List Nat,nks D (eN ks)=ZC
 |[] =>rfl
 |k::r=>by show nks D (.int k::eN r)=ZC;unfold nks;rw[C0 D r];rfl
variable{a:N2}
def Ch.len{b:N2}(h:Ch L a ks b)(hn:(fF L ks).Nodup):ks.length<=L.length:=by
 have:=kA (h.nodup hn) (m:=Oz L.length) λk hk=>OJ.mpr (h.lt k hk)
 rwa [O7]at this
noncomputable abbrev sE(L:bU N2)(st:T)(o:OT)(b:Bool)(k:Nat)(x:N2×N2×Int)(s6 s7 s8:Sl):En:=[.va (eL L),.va st,.ow o,.va (.bl b),.va (.int k),.va (eB x),s6,s7,s8]
def Ht(L:bU N2)(P ns:List N2)(b:cx N2)(k:Nat)(x:N2×N2×Int)(st:T)(mv:Bool)(s6 s7 s8:Sl):Sum (Option (cx N2)) (List Nat)->Prop
 |.inl ZB=>∃s6' s7' s8',Ey (sE L st (.dct (ns.map en) (dV ns b)) mv k x s6 s7 s8)=.ok (.ct (sE L st (.dct (ns.map en) (dV ns b)) mv k x s6' s7' s8'))
 |.inl (ZA b')=>∃ns' s6' s7' s8',DR P ns' b'/\Ey (sE L st (.dct (ns.map en) (dV ns b)) mv k x s6 s7 s8)=.ok (.nx (sE L st (.dct (ns'.map en) (dV ns' b')) ZC k x s6' s7' s8'))
 |.inr q=>Ey (sE L st (.dct (ns.map en) (dV ns b)) mv k x s6 s7 s8)=.ok (.rt (.tup [.non,.lst (eN q)]))
def E9{S:List N2}{k:Nat}{x:N2×N2×Int}(K:Kept L S b)(D:DR P ns b)(hL:L.length<=500)(hP:P.length<1000)(e:L[k]?=ZA x)(hx:x.2.1∈P)(st:T)(mv:Bool)(s6 s7 s8:Sl):
  Ht L P ns b k x st mv s6 s7 s8 (iJ L b k x):=by
 obtain⟨a,c,m⟩:=x;unfold Ht
 generalize hks:ns.map en=ks
 generalize hvs:dV ns b=vs
 have get:∀s7 s8,ln 2 (oD jA (vr 2) (o2 aY (vr 5) (cn (.int 0)))) (sE L st (.dct ks vs) mv k (a,c,m) s6 s7 s8)=.ok (oW (b a)):=λs7 s8=>by
  refine Gf (o:=.dct ks vs) rfl (Lh (ks:=ks) (vs:=vs) (u:=en a) rfl rfl ?_) ?_
  ·unfold jA
   rw[bq,<-hks,<-hvs];simp only[D.get];cases b a <;> rfl
  ·cases b a with
   |none=>rfl
   |some y=>show nks ZC [.int y.1,.lst (eN y.2)]=ZC;simp[nks,T.nk,C0]
 have s1:∀G,ax (cS (ln 2 (oD jA (vr 2) (o2 aY (vr 5) (cn (.int 0))))) (gN 6)) G (sE L st (.dct ks vs) mv k (a,c,m) s6 s7 s8)=G (sE L st (.dct ks vs) mv k (a,c,m) (.va (oW (b a))) s7 s8):=λG=>
  ay (bS (t:=oW (b a)) (get s7 s8) rfl)
 cases qa:b a with
 |none=>
  rw[show iJ L b k (a,c,m)=.inl ZB from by unfold iJ;simp only[qa]]
  simp only;refine⟨.va .non,s7,s8,?_⟩
  unfold Ey;rw[s1,qa]
  exact Dn (eZ (F:=Hb) (Af (aZ (aB (t:=.non) (u:=.non) rfl rfl rfl))))
 |some y=>
  obtain⟨d,w⟩:=y
  have bt:∀s7 s8,Jk 2 (tb (cl dR (af (vr 2) (af (vr 5) (af (vr 6) ai))))) (sE L st (.dct ks vs) mv k (a,c,m) (.va (eW (d,w))) s7 s8)=.ok (fB b c (d+m)):=λs7 s8=>by
   refine Li (aZ (aO (ts:=[.dct ks vs,eB (a,c,m),eW (d,w)]) rfl ?_))
   rw[<-hks,<-hvs];exact D2 D (a,c,m) d w
  have nn:tb (o2 gj (vr 6) (cn .non)) (sE L st (.dct ks vs) mv k (a,c,m) (.va (eW (d,w))) s7 s8)=.ok ZD:=aZ (aB (t:=eW (d,w)) (u:=.non) rfl rfl rfl)
  have cond:=nR nn (hV (bt s7 s8))
  have s1':∀G,ax (cS (ln 2 (oD jA (vr 2) (o2 aY (vr 5) (cn (.int 0))))) (gN 6)) G (sE L st (.dct ks vs) mv k (a,c,m) s6 s7 s8)=G (sE L st (.dct ks vs) mv k (a,c,m) (.va (eW (d,w))) s7 s8):=λG=>by rw[s1 G,qa];rfl
  cases hb:fB b c (d+m)with
  |false=>
   rw[show iJ L b k (a,c,m)=.inl ZB from by unfold iJ;simp only[qa,hb];rfl]
   simp only;rw[hb]at cond;refine⟨.va (eW (d,w)),s7,s8,?_⟩
   unfold Ey;rw[s1']
   exact Dn (eZ (F:=Hb) cond)
  |true=>
   rw[hb]at cond;obtain⟨s,hs,h1,h2,h3,h4,h5⟩:=K.walk a d w qa
   have hch:Ch L s (w++[k]) c:=h1.snoc e
   have hwl:w.length<=500:=NV (Ch.len h1 h4) hL
   have s2:∀G,ax (ee (l8 (tb (o2 gj (vr 6) (cn .non))) (dt (Jk 2 (tb (cl dR (af (vr 2) (af (vr 5) (af (vr 6) ai)))))))) Hb sN) G (sE L st (.dct ks vs) mv k (a,c,m) (.va (eW (d,w))) s7 s8)=G (sE L st (.dct ks vs) mv k (a,c,m) (.va (eW (d,w))) s7 s8):=λG=>
    ay (Z':=(sE L st (.dct ks vs) mv k (a,c,m) (.va (eW (d,w))) s7 s8)) ((cu (F:=Hb) (G:=sN) cond).trans rfl)
   have wk:o2 aU (o2 aY (vr 6) (cn (.int 1))) (dF (af (vr 4) ai)) (sE L st (.dct ks vs) mv k (a,c,m) (.va (eW (d,w))) s7 s8)=.ok (.lst (eN (w++[k]))):=by
    refine aB (t:=.lst (eN w)) (u:=.lst (eN [k])) rfl (mr (ts:=[.int k]) rfl (aA (k:=1) (by simp))) ?_
    show lg (eN w++eN [k])=_
    rw[<-JQ];unfold lg;rw[if_pos (aA (k:=1000) (by unfold eN;rw[Nc,Nm];simp;omega))]
   have s3:∀G,ax (cS (o2 aU (o2 aY (vr 6) (cn (.int 1))) (dF (af (vr 4) ai))) (gN 7)) G (sE L st (.dct ks vs) mv k (a,c,m) (.va (eW (d,w))) s7 s8)=G (sE L st (.dct ks vs) mv k (a,c,m) (.va (eW (d,w))) (.va (.lst (eN (w++[k])))) s8):=λG=>ay (bS wk rfl)
   have ps:eh (iS (vr 7)) [ZB,ZA 0] (gN 0) bT (o2 aY (o2 aY (vr 1) (vr 0)) (cn (.int 0))) (sE L st (.dct ks vs) mv k (a,c,m) (.va (eW (d,w))) (.va (.lst (eN (w++[k])))) s8)=.ok (.lst ((fF L (w++[k])).map en)):=by
    rw[<-zM hch];refine qf (ts:=eN (w++[k])) (gO rfl) (aA (k:=1000) (by unfold eN;rw[Nc,Nm];simp;omega)) (by simp) λt ht=>?_
    unfold eN at ht;obtain⟨j,hj,rfl⟩:=NA.mp ht
    have hjl:=hch.lt j hj;refine aB (t:=eB L[j]) (u:=.int 0) (xt (l:=L.map eB) (n:=j) rfl rfl (by rw[NC,Nk hjl];rfl)) rfl ?_
    unfold B6;simp only[Oq,Nk hjl]
    rfl
   have s4:∀G,ax (cS (eh (iS (vr 7)) [ZB,ZA 0] (gN 0) bT (o2 aY (o2 aY (vr 1) (vr 0)) (cn (.int 0)))) (gN 8)) G (sE L st (.dct ks vs) mv k (a,c,m) (.va (eW (d,w))) (.va (.lst (eN (w++[k])))) s8)=G (sE L st (.dct ks vs) mv k (a,c,m) (.va (eW (d,w))) (.va (.lst (eN (w++[k])))) (.va (.lst ((fF L (w++[k])).map en)))):=λG=>ay (bS ps rfl)
   have inn:tb (o2 J7 (o2 aY (vr 5) (cn (.int 1))) (vr 8)) (sE L st (.dct ks vs) mv k (a,c,m) (.va (eW (d,w))) (.va (.lst (eN (w++[k])))) (.va (.lst ((fF L (w++[k])).map en))))=.ok (decide (c∈fF L (w++[k]))):=
    aZ (aB (t:=en c) (u:=.lst ((fF L (w++[k])).map en)) rfl rfl (Ln c _))
   by_cases hn:c∈fF L (w++[k])
   ·rw[show iJ L b k (a,c,m)=.inr ((w++[k]).drop ((fF L (w++[k])).idxOf c))from by unfold iJ;simp only[qa,hb,if_pos hn,if_true]]
    simp only;unfold Ey;rw[s1',s2,s3,s4];rw[decide_eq_true hn]at inn;refine gi ((eZ inn).trans (bP ?_))
    have sle:sl (vr 7) (pS (oL eJ (vr 8) (o2 aY (vr 5) (cn (.int 1))))) pN (sE L st (.dct ks vs) mv k (a,c,m) (.va (eW (d,w))) (.va (.lst (eN (w++[k])))) (.va (.lst ((fF L (w++[k])).map en))))=.ok (.lst (eN ((w++[k]).drop ((fF L (w++[k])).idxOf c)))):=by
     rw[Lf (l:=eN (w++[k])) (lo:=ZA (((fF L (w++[k])).idxOf c:Nat):Int)) (hi:=ZB) rfl (k_pS (Jv (ks:=(fF L (w++[k])).map en) (u:=en c) rfl rfl (qh c _ hn))) rfl,Ea];unfold eN;rw[List.map_drop]
    exact(cG (ts:=[.non,.lst (eN ((w++[k]).drop ((fF L (w++[k])).idxOf c)))]) (au rfl (au sle rfl)) (aA (k:=2) (by simp)))
   ·rw[show iJ L b k (a,c,m)=.inl (ZA (Gr.put b c (d+m,w++[k])))from by unfold iJ;simp only[qa,hb,if_neg hn,if_true]]
    simp only;rw[decide_eq_false hn]at inn;obtain⟨ns',D',hd⟩:=D.put hx (d+m,w++[k]);refine⟨ns',.va (eW (d,w)),.va (.lst (eN (w++[k]))),.va (.lst ((fF L (w++[k])).map en)),D',?_⟩
    unfold Ey;rw[s1',s2,s3,s4];rw[ay (Z':=(sE L st (.dct ks vs) mv k (a,c,m) (.va (eW (d,w))) (.va (.lst (eN (w++[k])))) (.va (.lst ((fF L (w++[k])).map en))))) ((cu (G:=sN) inn).trans rfl)]
    have pt:qT 2 (o2 aY (vr 5) (cn (.int 1))) (bA (af (o2 aU (o2 aY (vr 6) (cn (.int 0))) (o2 aY (vr 5) (cn (.int 2)))) (af (vr 7) ai))) (sE L st (.dct ks vs) mv k (a,c,m) (.va (eW (d,w))) (.va (.lst (eN (w++[k])))) (.va (.lst ((fF L (w++[k])).map en))))
      = .ok (.nx (sE L st (.dct (ns'.map en) (dV ns' (Gr.put b c (d+m,w++[k])))) mv k (a,c,m) (.va (eW (d,w))) (.va (.lst (eN (w++[k])))) (.va (.lst ((fF L (w++[k])).map en))))):=by
     have ev:bA (af (o2 aU (o2 aY (vr 6) (cn (.int 0))) (o2 aY (vr 5) (cn (.int 2)))) (af (vr 7) ai)) (sE L st (.dct ks vs) mv k (a,c,m) (.va (eW (d,w))) (.va (.lst (eN (w++[k])))) (.va (.lst ((fF L (w++[k])).map en))))=.ok (eW (d+m,w++[k])):=
      cG (ts:=[.int (d+m),.lst (eN (w++[k]))]) rfl (aA (k:=2) (by simp))
     have ek:o2 aY (vr 5) (cn (.int 1)) (sE L st (.dct ks vs) mv k (a,c,m) (.va (eW (d,w))) (.va (.lst (eN (w++[k])))) (.va (.lst ((fF L (w++[k])).map en))))=.ok (en c):=rfl
     show(bA _ _ >>= λv=>o2 aY (vr 5) (cn (.int 1)) _ >>= λkk=>match keyOf kk with|some _=>if ks.length<1000 then Rs.ok (Fl.nx _)else .bad|none=>.bad)=_
     rw[ev,aF,ek,aF,bq]
     have hlen:ks.length<1000:=by rw[<-hks,Nc];exact PK (kA D.nd D.sub) hP
     simp only[if_pos hlen]
     have hd1:gA (en c) (eW (d+m,w++[k])) ks vs=(ns'.map en,dV ns' (Gr.put b c (d+m,w++[k]))):=by rw[<-hks,<-hvs];exact hd
     rw[hd1]
     rfl
    rw[ay pt];exact bS (t:=.bl ZC) rfl rfl
noncomputable def BC(L:bU N2)(st:T)(ns:List N2)(b:cx N2)(mv:Bool)(s4 s5 s6 s7 s8:Sl):En:=[.va (eL L),.va st,.ow (.dct (ns.map en) (dV ns b)),.va (.bl mv),s4,s5,s6,s7,s8]
def Ek(L:bU N2)(P:List N2)(st:T)(X:Rs Fl):Sum (cx N2×Bool) (List Nat)->Prop
 |.inr q=>X=.ok (.rt (.tup [.non,.lst (eN q)]))
 |.inl (b',mv')=>∃ns' s4 s5 s6 s7 s8,DR P ns' b'/\X=.ok (.nx (BC L st ns' b' mv' s4 s5 s6 s7 s8))
theorem tH{S:List N2}(hL:L.length<=500)(hP:P.length<1000)(hx:∀x∈L,x.2.1∈P)(st:T):∀(r:bU N2)(k:Nat)(b:cx N2)(mv:Bool)(ns:List N2)(s4 s5 s6 s7 s8:Sl),L.drop k=r->Kept L S b->DR P ns b →
  Ek L P st (a8 LR Ey (cb k (r.map eB)) (BC L st ns b mv s4 s5 s6 s7 s8)) (jr L k r b mv)
 |[],k,b,mv,ns,s4,s5,s6,s7,s8,_,K,D=>⟨ns,s4,s5,s6,s7,s8,D,rfl⟩
 |x::r,k,b,mv,ns,s4,s5,s6,s7,s8,hr,K,D=>by
  have e:L[k]?=ZA x:=by
   have:=congrArg (·[0]?) hr
   simpa using this
  have hr':L.drop (k+1)=r:=by
   have:=congrArg (List.drop 1) hr
   simpa [List.drop_drop,U2]using this
  have tg:LR (.tup [.int k,eB x]) (BC L st ns b mv s4 s5 s6 s7 s8)=.ok [.va (eL L),.va st,.ow (.dct (ns.map en) (dV ns b)),.va (.bl mv),.va (.int k),.va (eB x),s6,s7,s8]:=rfl
  have tn:=E9 K D hL hP e (hx x (PZ e)) st mv s6 s7 s8;rw[jr,Nd,cb]
  cases q:iJ L b k x with
  |inr w=>
   rw[q]at tn;simp only;unfold Ek
   exact Ag tg tn
  |inl o=>
   rw[q]at tn
   cases o with
   |none=>
    obtain⟨s6',s7',s8',tn⟩:=tn;simp only;rw[Ge tg tn]
    exact tH hL hP hx st r (k+1) b mv ns _ _ _ _ _ hr' K D
   |some b'=>
    obtain⟨ns',s6',s7',s8',D',tn⟩:=tn;simp only;rw[cI tg tn];refine tH (S:=S) hL hP hx st r (k+1) b' ZC ns' _ _ _ _ _ hr' ?_ D'
    obtain⟨a,c,m⟩:=x;unfold iJ at q
    cases qa:b a with
    |none=>simp only[qa]at q;cases q
    |some y=>
     obtain⟨d,w⟩:=y;simp only[qa]at q
     split at q
     ·rename_i hb
      split at q
      ·cases q
      ·rename_i hn
       cases q;exact K.put e qa hb hn
     ·cases q
abbrev wF:V4:=ax (cS (cn (.bl ZD)) (gN 3)) (dM (iE (af (vr 0) ai)) LR Ey)
def SetP(L:bU N2)(P:List N2)(st:T)(X:Rs Fl):Sum (cx N2) (List Nat)->Prop
 |.inr q=>X=.ok (.rt (.tup [.non,.lst (eN q)]))
 |.inl b'=>∃ns' s4 s5 s6 s7 s8,DR P ns' b'/\X=.ok (.nx (BC L st ns' b' ZD s4 s5 s6 s7 s8))
theorem vU{S:List N2}(hL:L.length<=500)(hP:P.length<1000)(hx:∀x∈L,x.2.1∈P)(st:T):∀(n:Nat)(b:cx N2)(ns:List N2)(s4 s5 s6 s7 s8:Sl)(r:Sum (cx N2) (List Nat)),Kept L S b->DR P ns b->Gr.settle L n b=ZA r →
  SetP L P st (bX (tb (vr 3)) wF (n+1) (BC L st ns b ZC s4 s5 s6 s7 s8)) r
 |0,_,_,_,_,_,_,_,_,_,_,h=>by cases h
 |n+1,b,ns,s4,s5,s6,s7,s8,r,K,D,h=>by
  have sw:=tH hL hP hx st L 0 b ZD ns s4 s5 s6 s7 s8 rfl K D
  have ok:=jD (S:=S) L 0 b ZD rfl K
  have body:∀X,a8 LR Ey (cb 0 (L.map eB)) (BC L st ns b ZD s4 s5 s6 s7 s8)=.ok X->wF (BC L st ns b ZC s4 s5 s6 s7 s8)=.ok X:=λX hX=>by
   show ax _ _ _=_
   rw[ay (Z':=BC L st ns b ZD s4 s5 s6 s7 s8) (bS (t:=.bl ZD) rfl rfl)];exact d6 (ts:=cb 0 (L.map eB)) (Ah rfl) hX
  have tt:tb (vr 3) (BC L st ns b ZC s4 s5 s6 s7 s8)=.ok ZC:=rfl;rw[Gr.settle]at h
  revert sw ok h
  generalize jr L 0 L b ZD=R
  intro h sw ok
  cases R with
  |inr q=>
   simp only at h;cases h
   exact Dl tt (body _ sw)
  |inl p=>
   obtain⟨b',mv'⟩:=p;obtain⟨ns',t4,t5,t6,t7,t8,D',sw⟩:=sw;obtain⟨K',_⟩:=ok
   cases mv' with
   |true=>
    simp only at h
    have ih:=vU hL hP hx st n b' ns' t4 t5 t6 t7 t8 r K' D' h;rw[xk tt (body _ sw)]
    exact ih
   |false=>
    simp only at h;cases h;refine⟨ns',t4,t5,t6,t7,t8,D',?_⟩
    rw[xk tt (body _ sw)];exact Dm rfl
theorem iW{c:V6}{F:V4}{x:Fl}:∀{n m:Nat}{Z:En},n<=m->bX c F n Z=.ok x->bX c F m Z=.ok x
 |0,_,_,_,h=>by cases h
 |n+1,0,_,hl,_=>absurd hl (by omega)
 |n+1,m+1,Z,hl,h=>by
  unfold bX at h ⊢
  cases q:c Z with
  |bad=>rw[q]at h;cases h
  |err _=>rw[q]at h;cases h
  |ok k=>
   rw[q]at h
   cases k with
   |false=>exact h
   |true=>
    simp only at h ⊢
    cases q2:F Z with
    |bad=>rw[q2]at h;cases h
    |err _=>rw[q2]at h;cases h
    |ok f=>
     rw[q2]at h
     cases f with
     |nx Z'=>exact iW (by omega) h
     |ct Z'=>exact iW (by omega) h
     |bk Z'=>exact h
     |rt t=>exact h
theorem Cz(w:T):∀S:List N2,J5 (S.map λv=>.tup [en v,w])=ZA (S.map λv=>(en v,w))
 |[] =>rfl
 |v::S=>by rw[Nd,J5,bq,Cz w S];rfl
theorem xG(w:T):∀(S ns:List N2)(g:N2->T),(ns++S).Nodup->(∀v∈S,g v=w)->gS (S.map λv=>(en v,w)) (ns.map en,ns.map g)=((ns++S).map en,(ns++S).map g)
 |[],ns,g,_,_=>by rw[Oj];rfl
 |v::S,ns,g,hn,hg=>by
  have hv:v∉ns:=λz=>by
   rw[Ot]at hn;exact hn.2.2 v z v Nb rfl
  rw[Nd,gS,j6 _ _ _ _ hv]
  have e1:ns.map en++[en v]=(ns++[v]).map en:=by rw[NR];rfl
  have e2:ns.map g++[w]=(ns++[v]).map g:=by rw[NR,<-hg v Nb];rfl
  rw[e1,e2,xG w S (ns++[v]) g (by rw[ND];exact hn) λu hu=>hg u (Na _ hu),ND]
  rfl
def GD(w:T)(S:List N2)(hn:S.Nodup)(hl:S.length<=1000):Au [.lst (S.map λv=>.tup [en v,w])]=.ok (.dct (S.map en) (S.map λ_=>w)):=by
 unfold Au;simp only[Cz];rw[if_pos (by rw[Nc];exact hl)]
 have:=xG w S [] (λ_=>w) (by simpa using hn) (λ_ _=>rfl)
 rw[OC]at this;rw[show(([]:List T),([]:List T))=(([]:List N2).map en,([]:List N2).map λ_=>w)from rfl,this]
def eS(S:List N2):T:=.lst (S.map en)
def GP(L:bU N2)(P:List N2)(X:Rs T):Sum (cx N2) (List Nat)->Prop
 |.inr q=>X=.ok (.tup [.non,.lst (eN q)])
 |.inl b'=>∃ns',DR P ns' b'/\X=.ok (.tup [.dct (ns'.map en) (dV ns' b'),.non])
structure GR (L:bU N2)(P:List N2):Prop where
 len:L.length<=500
 size:size L<=100000000
 ends:∀x∈L,x.1∈P/\x.2.1∈P
 pl:P.length<1000
def SOk(L:bU N2)(S:List N2):Sum (cx N2) (List Nat)->Prop
 |.inr q=>Bar L q
 |.inl b'=>Settled L S b'
def qv{S:List N2}(F:GR L P)(hS:S.Nodup)(hSP:∀v∈S,v∈P):∃r,GP L P (fX [eL L,eS S]) r/\SOk L S r:=by
 have bound:L.length*(2*size L+1)<1000000000000 - 1:=by
  have h1:=F.len
  have h2:=F.size
  have:L.length*(2*size L+1)<=500*(2*100000000+1):=Nat.mul_le_mul h1 (by omega)
  omega
 obtain⟨r,hr,ok⟩:=x9 L S bound
 have ok':SOk L S r:=by cases r <;> exact ok
 refine⟨r,?_,ok'⟩
 have hSl:S.length<=1000:=NV (kA hS hSP) (by have:=F.pl;omega)
 have D0:DR P S (Gr.start S):=⟨hS,λv=>by unfold Gr.start;by_cases h:v∈S <;> simp[h],hSP⟩
 have dv0:dV S (Gr.start S)=S.map λ_=>eW (0,[]):=NQ λv hv=>by unfold Gr.start;rw[if_pos hv];rfl
 have w:=vU F.len F.pl (λx hx=>(F.ends x hx).2) (eS S) _ (Gr.start S) S .em .em .em .em .em r (qc L S) D0 hr
 have lc:eh (iS (vr 1)) [ZB] (gN 0) bT (bA (af (vr 0) (af (bA (af (cn (.int 0)) (af (dF ai) ai))) ai))) [.va (eL L),.va (eS S),.em,.em,.em,.em,.em,.em,.em]=.ok (.lst (S.map λv=>.tup [en v,eW (0,[])])):=by
  have:=qf (fi:=iS (vr 1)) (src:=[ZB]) (fe:=bA (af (vr 0) (af (bA (af (cn (.int 0)) (af (dF ai) ai))) ai))) (h:=λt=>.tup [t,eW (0,[])]) (Z:=[.va (eL L),.va (eS S),.em,.em,.em,.em,.em,.em,.em]) (ts:=S.map en) (gO rfl) (aA (k:=1000) (by rw[Nc];exact hSl)) (by simp) λt _=>
   cG (ts:=[t,eW (0,[])]) (au rfl (au (cG (ts:=[.int 0,.lst []]) (au rfl (au (mr (ts:=[]) rfl (OF _)) rfl)) (aA (k:=2) (by simp))) rfl)) (aA (k:=2) (by simp))
  rw[this,N3];rfl
 have n0:rR 2 (eh (iS (vr 1)) [ZB] (gN 0) bT (bA (af (vr 0) (af (bA (af (cn (.int 0)) (af (dF ai) ai))) ai)))) [.va (eL L),.va (eS S),.em,.em,.em,.em,.em,.em,.em]=.ok (.nx [.va (eL L),.va (eS S),.ow (.dct (S.map en) (dV S (Gr.start S))),.em,.em,.em,.em,.em,.em]):=by
  unfold rR;rw[lc,aF,GD _ S hS hSl,aF,dv0]
  rfl
 have main:∀G X,bX (tb (vr 3)) wF FU (BC L (eS S) S (Gr.start S) ZC .em .em .em .em .em)=.ok X->kc [.va (eL L),.va (eS S),.em,.em,.em,.em,.em,.em,.em]=G->(ax (bX (tb (vr 3)) wF FU) (mS 2 (aM (bA (af (vr 2) (af (cn .non) ai)))))) (BC L (eS S) S (Gr.start S) ZC .em .em .em .em .em)=G:=λG X _ h=>by
  rw[<-h];unfold kc;rw[ay n0,ay (Z':=BC L (eS S) S (Gr.start S) ZC .em .em .em .em .em) (bS (t:=.bl ZC) rfl rfl)]
 cases r with
 |inr q=>
  have w':=iW (m:=FU) (by unfold FU;omega) w
  refine bz rfl ?_
  show kc [.va (eL L),.va (eS S),.em,.em,.em,.em,.em,.em,.em]=_
  rw[<-main _ _ w' rfl]
  exact gi w'
 |inl b'=>
  obtain⟨ns',s4,s5,s6,s7,s8,D',w⟩:=w
  have w':=iW (m:=FU) (by unfold FU;omega) w
  refine⟨ns',D',bz rfl ?_⟩
  show kc [.va (eL L),.va (eS S),.em,.em,.em,.em,.em,.em,.em]=_
  rw[<-main _ _ w' rfl,ay w'];exact Dv (bP (cG (ts:=[.dct (ns'.map en) (dV ns' b'),.non]) rfl (aA (k:=2) (by simp))))
theorem pX{f:α->T}{p:α->Prop}:∀{l:List T},(∀t∈l,∃x,t=f x/\p x)->∃L:List α,l=L.map f/\∀x∈L,p x
 |[],_=>⟨[],rfl,λ_ h=>nomatch h⟩
 |t::l,h=>by
  obtain⟨x,e,hx⟩:=h t Nb;obtain⟨L,e2,h2⟩:=pX (l:=l) λu hu=>h u (Na _ hu)
  exact⟨x::L,by rw[e,e2];rfl,λy hy=>(Nl.mp hy).elim (λz=>z▸hx) (h2 y)⟩
def qx{t:T}(h:bO t=ZC):∃(x y:Int)(r:List Int),t=.tup [.int x,.int y,.tup (r.map .int)]/\(0<=x/\x<=9)/\(0<=y/\y<=9)/\∀k,0<=r.getD k 0/\r.getD k 0<=99:=by
 obtain⟨x,y,r,rfl,h1,h2,h3,h4⟩:=jc h;refine⟨x,y,r,rfl,h1,h2,λk=>?_⟩
 have h':(pw (.int x) (.int y)&&df (.tup (r.map .int)))=ZC:=h;rw[Ni]at h'
 have hr:=h'.2;unfold df at hr;rw[Ni]at hr
 have hr2:(((r.map T.int).all λu=>bw u 0 99)&&(match nums (r.map .int)with|some m=>oo m|none=>ZD))=ZC:=hr.2
 rw[Ni]at hr2
 by_cases hk:k<r.length
 ·have:=NN.mp hr2.1 (.int r[k]) (NA.mpr ⟨_,Oi hk,rfl⟩)
  obtain⟨i,e,a,b⟩:=dN this;cases e;simp[hk];exact⟨a,b⟩
 ·simp[hk]
def zS{cs:List T}:∀{cs0:List T}{c k:Nat},i<=c->c<i+cs0.length->k<HY (cs0.getD (c - i) .non)->T.tup [.int c,.int k] ∈fG i cs0:=by
 intro cs0
 induction cs0 generalizing i with
 |nil=>intro c k h1 h2;simp at h2;omega
 |cons a r ih=>
  intro c k h1 h2 h3;rw[fG,NO]
  by_cases e:c=i
  ·subst e
   rw[Sb]at h3
   have h3':k<HY a:=h3;exact .inl (NA.mpr ⟨.int k,F7 h3',rfl⟩)
  ·refine .inr (ih (by omega) (by rw[Nj]at h2;omega) ?_)
   rw[show c - i=(c - (i+1))+1 by omega]at h3
   exact h3
def sG{t:T}(h:bp cs t=ZC):t∈fG 0 cs:=by
 obtain⟨c,k,rfl⟩:=f7 h;unfold bp at h;simp only[Ni,decide_eq_true_eq]at h;obtain⟨⟨h1,h2⟩,h3,h4⟩:=h;obtain⟨c,rfl⟩:=Ol h1;obtain⟨k,rfl⟩:=Ol h3;rw[rV]at h4;exact zS (cs:=cs) (OF _) (by omega) (by rw[Tc];omega)
def DO{t:T}(h:t∈fG 0 cs):∃v:N2,t=en v/\True:=by
 obtain⟨c,k,rfl,_⟩:=kC cs 0 h;exact⟨⟨c,k⟩,rfl,trivial⟩
def big(x:N2×N2×Int):Prop:=x.2.2.natAbs<=999
def r6{a b:Int}(ha : -99<=a/\a<=99)(hb:0<=b/\b<=9):(a*b).natAbs<=999:=by
 rw[Int.natAbs_mul]
 have h1:a.natAbs<=99:=by omega
 have h2:b.natAbs<=9:=by omega
 exact NV (Nat.mul_le_mul h1 h2) (by decide)
theorem Hs{cs0:List T}:∀{cs:List T}{i:Nat},(∀c∈cs,bO c=ZC)->(∀c k:Nat,i<=c->c<i+cs.length->k<HY (cs.getD (c - i) .non)->T.tup [.int c,.int k] ∈fG 0 cs0) →
  ∀t∈bC i cs,∃x,t=eB x/\(en x.1∈fG 0 cs0/\en x.2.1∈fG 0 cs0/\big x)
 |[],_,_,_,t,h=>by simp[bC]at h
 |c::cs,i,hc,hm,t,h=>by
  rw[bC,NO]at h;rcases h with h|h
  ·obtain⟨x,y,r,rfl,hx,hy,hr⟩:=qx (hc c Nb)
   have hm0:∀k,k<r.length->T.tup [.int i,.int k] ∈fG 0 cs0:=λk hk=>hm i k (Nr _) (by simp) (by rw[Sb];show k<(r.map T.int).length;rw[Nc];exact hk)
   rw[oJ]at h;unfold cB at h;obtain⟨k,hk,hp⟩:=Qp.mp h
   have hk:=OJ.mp hk
   have d : -99<=dr r k/\dr r k<=99:=by have:=hr k;have:=hr (k+1);unfold dr;omega
   unfold pr at hp;simp only[Nl,N8,or_false]at hp;rcases hp with rfl|rfl
   ·exact⟨(⟨i,k⟩,⟨i,((k+1:Nat):Int)⟩,dr r k*y),rfl,hm0 k (by omega),hm0 (k+1) (by omega),r6 d hy⟩
   ·exact⟨(⟨i,((k+1:Nat):Int)⟩,⟨i,k⟩,-dr r k*x),rfl,hm0 (k+1) (by omega),hm0 k (by omega),r6 (by omega) hx⟩
  ·exact Hs (cs:=cs) (i:=i+1) (λc h=>hc c (Na _ h)) (λc k h1 h2 h3=>hm c k (by omega) (by rw[Nj];omega) (by rw[show c - i=(c - (i+1))+1 by omega];exact h3)) t h
def Ld{u:T}(hu:bF cs u=ZC):∀t∈lB u,∃x,t=eB x/\(en x.1∈fG 0 cs/\en x.2.1∈fG 0 cs/\big x):=by
 intro t ht;obtain⟨a,b,x,y,rfl,hd,ha,hb,_⟩:=mq hu
 have ma:=sG ha
 have mb:=sG hb;obtain⟨va,rfl,_⟩:=DO ma;obtain⟨vb,rfl,_⟩:=DO mb;unfold fT at hd;rw[Ni]at hd;obtain⟨i,rfl,i1,i2⟩:=dN hd.1
 have e2:lB (.tup [en va,en vb,.int i,y])=.tup [en vb,en va,.int (-i)] ::(if y.isN then []else [.tup [en va,en vb,y]]):=rfl
 rw[e2]at ht;rcases Nl.mp ht with rfl|ht
 ·exact⟨(vb,va,-i),rfl,mb,ma,by unfold big;simp only;omega⟩
 ·cases q:y.isN with
  |true=>rw[q]at ht;simp at ht
  |false=>
   rw[q]at ht
   have ht:t=.tup [en va,en vb,y]:=by simpa using ht
   have hw:bw y i 999=ZC:=by
    cases y with
    |non=>cases q
    |_=>exact hd.2
   obtain⟨j,rfl,j1,j2⟩:=dN hw;exact⟨(va,vb,j),ht,ma,mb,by unfold big;simp only;omega⟩
structure Rd (cs ls:List T)(L:bU N2)(P:List N2):Prop where
 g:Good cs ls
 b:EA cs ls=L.map eB
 e:fG 0 cs=P.map en
 f:GR L P
 nd:P.Nodup
 pl:P.length<=16
 ll:L.length<=60
 bg:∀x∈L,big x
def zE(h:∀x∈L,big x):size L<=999*L.length:=by
 unfold size
 induction L with
 |nil=>simp
 |cons x L ih=>
  rw[Nd,Pa,Nj]
  have:=ih λy hy=>h y (Na _ hy)
  have:=h x Nb;unfold big at this;omega
def CW(h:(P.map en).Nodup):P.Nodup:=by
 induction P with
 |nil=>exact Pu
 |cons a r ih=>
  rw[Nd,NP]at h;exact NP.mpr ⟨λz=>h.1 (NA.mpr ⟨a,z,rfl⟩),ih h.2⟩
def wq(g:Good cs ls):∃L P,Rd cs ls L P:=by
 obtain⟨hc,c1,c4⟩:=cV g.c;obtain⟨P,eP,_⟩:=pX (f:=en) (p:=λ_=>True) (l:=fG 0 cs) λt ht=>DO ht
 have key:∀t∈EA cs ls,∃x,t=eB x/\(en x.1∈fG 0 cs/\en x.2.1∈fG 0 cs/\big x):=λt ht=>by
  unfold EA at ht;rw[NO]at ht;rcases ht with h|h
  ·exact Hs hc (λc k h1 h2 h3=>zS (cs:=cs) h1 h2 h3) t h
  ·obtain⟨u,hu,h⟩:=Qp.mp h
   exact Ld (g.l u hu) t h
 obtain⟨L,eL,hL⟩:=pX key
 have mem:∀v:N2,en v∈fG 0 cs->v∈P:=λv hv=>by
  rw[eP]at hv;obtain⟨u,hu,e⟩:=NA.mp hv;rw[<-qu e];exact hu
 have hl:=GJ g;rw[eL,Nc]at hl
 have hp:=uZ cs 0 hc;rw[eP,Nc]at hp
 have hs:=zE λx hx=>(hL x hx).2.2
 exact⟨L,P,g,eL,eP,⟨by omega,by omega,λx hx=>⟨mem _ (hL x hx).1,mem _ (hL x hx).2.1⟩,by omega⟩,CW (eP▸mZ cs 0),by omega,hl,λx hx=>(hL x hx).2.2⟩
def CA:(T.lst l).pl=plS l:=by unfold T.pl;rfl
noncomputable def run(L:bU N2):N2->List Nat->Option N2
 |a,[] =>ZA a
 |a,k::r=>match L[k]? with
  |some x=>if x.1=a then run L x.2.1 r else ZB
  |none=>ZB
def Ho(u v:N2):qr (en u) (en v)=.ok (.bl (decide (u=v))):=by
 unfold qr;rw[if_pos (iP (yZ u) rfl rfl),zf]
theorem ku(f:Nat->Int):∀ks:List Nat,dZ (ks.map λk=>T.int (f k))=ZA (ks.map f)
 |[] =>rfl
 |k::ks=>by rw[Nd,dZ,ku f ks];rfl
def Rd.ev(R:Rd cs ls L P)(h:v∈P):bp cs (en v)=ZC:=DN (by rw[R.e];exact NA.mpr ⟨v,h,rfl⟩)
def Rd.bounds(R:Rd cs ls L P):fw [RR cs ls]=.ok (eL L):=by rw[D1 R.g,R.b];rfl
def Rd.MN(R:Rd cs ls L P){b:N2}(ha:a∈P)(hb:b∈P):fR [RR cs ls,en a,en b]=.ok .non:=by
 refine uR (Z:=[.va (RR cs ls),.va (en a),.va (en b)]) rfl ?_
 show iw [.va (RR cs ls),.va (en a),.va (en b)]=_
 unfold iw;rw[ay (n9 (t:=.non) (aO (ts:=[RR cs ls]) rfl (iM R.g.p R.g.ok)))];rw[ay (n9 (t:=.non) (aO (ts:=[RR cs ls,en a]) rfl (uH R.g rfl (R.ev ha))))];exact n9 (t:=.non) (aO (ts:=[RR cs ls,en b]) rfl (uH R.g rfl (R.ev hb)))
variable{c:N2}
def Rd.events(R:Rd cs ls L P):cq [RR cs ls]=.ok (eS P):=by rw[CM R.g,R.e];rfl
def u7(D:DR P ns b){x:Int×List Nat}(e:b v=ZA x):aN (.dct (ns.map en) (dV ns b)) (en v)=.ok (eW x):=by
 unfold aN;simp only[bq];rw[D.get,e];rfl
def D8(D:DR P ns b)(v:N2):D9 (en v) (.dct (ns.map en) (dV ns b))=.ok (.bl (b v).isSome):=by
 unfold D9;simp only[bq];rw[D.get];cases b v <;> rfl
def tq(P:List N2)(t:N2->Int):T:=.tup (P.map λv=>.int (t v))
def GZ(b:cx N2)(v:N2):Int:=match b v with
 |some x=>x.1
 |none=>0
noncomputable def atT(t:N2->Int)(u:T):T:=match u with
 |.tup [.int c,.int k] =>.int (t ⟨c,k⟩)
 |_=>.non
def Rd.Mp(R:Rd cs ls L P):(¬cf L/\dH [(RR cs ls)]=.ok .non)\/(cf L/\∃t b,Settled L P b/\(∀v∈P,∃w,b v=ZA (t v,w))/\dH [(RR cs ls)]=.ok (tq P t)):=by
 obtain⟨r,hr,ok⟩:=qv R.f R.nd (λv h=>h)
 have wrap:∀{w:T},bx [(RR cs ls),eL L]=.ok w->dH [(RR cs ls)]=.ok w:=λ{w} e=>bz rfl (bP (aO (ts:=[(RR cs ls),eL L]) (au rfl (au (aO (ts:=[(RR cs ls)]) rfl R.bounds) rfl)) e))
 have begin_:∀{x z:T}{y:Rs Fl},fX [eL L,eS P]=.ok (.tup [x,z])->((ax (ee (tb (o2 gj (vr 3) (cn .non))) (aM (cn .non)) sN) (aM (cl fL (af (eh (iS (vr 2)) [ZB,ZA 3] (gN 0) bT (o2 aY (o2 aN (vr 1) (vr 0)) (cn (.int 0)))) ai)))) [.va (RR cs ls),.va (eL L),.va (eS P),.va x]=y)->dh [.va (RR cs ls),.va (eL L),.em,.em]=y:=λ{x z y} hs hy=>by
  unfold dh;rw[ay (Z':=[.va (RR cs ls),.va (eL L),.va (eS P),.em]) (bS (aO (ts:=[(RR cs ls)]) rfl R.events) rfl)];rw[ay (Z':=[.va (RR cs ls),.va (eL L),.va (eS P),.va x]) (bS (aB (u:=.int 0) (aO (ts:=[eL L,eS P]) rfl hs) rfl rfl) rfl)];exact hy
 cases r with
 |inr q=>exact .inl ⟨λn=>absurd n (Bar.neg ok),wrap (bz rfl (begin_ hr (gi ((eZ (aZ (aB (t:=.non) (u:=.non) rfl rfl rfl))).trans rfl))))⟩
 |inl b=>
  obtain⟨ns,D,hr⟩:=hr
  have ok:Settled L P b:=ok
  have htm:∀v∈P,∃w,b v=ZA (GZ b v,w):=λv hv=>by
   obtain⟨d,w,e,_⟩:=ok.least v hv v 0 (.nil v);exact⟨w,by unfold GZ;rw[e]⟩
  refine .inr ⟨(ok.holds R.f.ends htm).Mo,GZ b,b,ok,htm,wrap (bz rfl (begin_ hr ?_))⟩
  generalize GZ b=tm at htm
  have lc:eh (iS (vr 2)) [ZB,ZA 3] (gN 0) bT (o2 aY (o2 aN (vr 1) (vr 0)) (cn (.int 0))) [.va (RR cs ls),.va (eL L),.va (eS P),.va (.dct (ns.map en) (dV ns b))]=.ok (.lst ((P.map en).map (atT tm))):=
   qf (ts:=P.map en) (gO rfl) (aA (k:=16) (by rw[Nc];exact R.pl)) (by simp) λt ht=>by
    obtain⟨v,hv,rfl⟩:=NA.mp ht;obtain⟨w,e⟩:=htm v hv;exact aB (t:=eW (tm v,w)) (u:=.int 0) (aB (t:=.dct (ns.map en) (dV ns b)) (u:=en v) rfl rfl (u7 D e)) rfl rfl
  rw[N3]at lc;rw[ay (Z':=[.va (RR cs ls),.va (eL L),.va (eS P),.va (.dct (ns.map en) (dV ns b))]) ((cu (aZ (aB (t:=.dct (ns.map en) (dV ns b)) (u:=.non) rfl rfl rfl))).trans rfl)];exact bP (aO (au lc rfl) rfl)
def Rd.MM(R:Rd cs ls L P):∃hw:Bool,dm [(RR cs ls)]=.ok (.bl hw)/\(hw=ZC↔cf L):=by
 rcases R.Mp with⟨n,e⟩|⟨n,t,b,_,_,e⟩
 ·exact⟨ZD,bz rfl (bP (aB (t:=.non) (u:=.non) (aO (ts:=[(RR cs ls)]) rfl e) rfl rfl)),λz=>(by cases z),λz=>absurd z n⟩
 ·exact⟨ZC,bz rfl (bP (aB (t:=tq P t) (u:=.non) (aO (ts:=[(RR cs ls)]) rfl e) rfl rfl)),λ_=>n,λ_=>rfl⟩
def Rd.MA(R:Rd cs ls L P)(n:cf L):dX [RR cs ls]=.ok .non:=by
 obtain⟨hw,e,i⟩:=R.MM;rw[i.mpr n]at e;refine uR (Z:=[.va (RR cs ls)]) rfl ?_
 show je [.va (RR cs ls)]=_
 unfold je;exact(cu (hV (k:=ZC) (aZ (aO (ts:=[RR cs ls]) rfl e)))).trans rfl
def Rd.from_(R:Rd cs ls L P)(n:cf L)(ha:a∈P):∃b ns,Settled L [a] b/\DR P ns b/\du [RR cs ls,en a]=.ok (.dct (ns.map en) (dV ns b)):=by
 obtain⟨r,hr,ok⟩:=qv (S:=[a]) R.f (by simp) (λv h=>by rw[Ny.mp h];exact ha)
 cases r with
 |inr q=>exact absurd n (Bar.neg ok)
 |inl b=>
  obtain⟨ns,D,hr⟩:=hr;refine⟨b,ns,ok,D,bz rfl (bP (aB (u:=.int 0) (aO (ts:=[eL L,eS [a]]) (au (aO (ts:=[RR cs ls]) rfl R.bounds) (au (mr (ts:=[en a]) rfl (aA (k:=1) (by simp))) rfl)) hr) rfl rfl))⟩
def C4(o:Option (Int×List Nat)):T:=match o with
 |some x=>.int x.1
 |none=>.non
def Rd.M5(R:Rd cs ls L P)(n:cf L)(ha:a∈P)(hc:c∈P):∃b,Settled L [a] b/\cC [RR cs ls,en a,en c]=.ok (C4 (b c)):=by
 obtain⟨b,ns,S,D,e⟩:=R.from_ n ha;refine⟨b,S,bz rfl ?_⟩
 show gV [.va (RR cs ls),.va (en a),.va (en c)]=_
 unfold gV;rw[ay (n9 (t:=.non) (aO (ts:=[RR cs ls,en a,en c]) rfl (R.MN ha hc)))];rw[ay (n9 (t:=.non) (aO (ts:=[RR cs ls]) rfl (R.MA n)))];refine bP (aO (ts:=[.dct (ns.map en) (dV ns b),en c]) (au (aO (ts:=[RR cs ls,en a]) rfl e) rfl) (bz rfl ?_))
 refine bP ((lr (p:=(b c).isSome) (aZ (aB (t:=en c) (u:=.dct (ns.map en) (dV ns b)) rfl rfl (D8 D c)))).trans ?_)
 cases q:b c with
 |none=>rfl
 |some x=>exact aB (t:=eW x) (u:=.int 0) (aB (t:=.dct (ns.map en) (dV ns b)) (u:=en c) rfl rfl (u7 D q)) rfl rfl
def oI(o:Option Int):T:=match o with
 |some x=>.int x
 |none=>.non
def rowsT(P:List N2)(f:di N2):List (List T×List T):=P.map λu=>(P.map en,P.map λv=>oI (f u v))
def d9(P:List N2)(f:di N2):T:=.dct (P.map en) (P.map λu=>.dct (P.map en) (P.map λv=>oI (f u v)))
noncomputable abbrev iY(P:List N2)(L:bU N2)(f:di N2)(s3 s4 s5 s6 s7:Sl):En:=[.va (eS P),.va (eL L),.ow (.dd (P.map en) (rowsT P f)),s3,s4,s5,s6,s7]
abbrev HG(P:List N2)(L:bU N2)(f:di N2)(s3 s4 s5 s6 s7:Sl):En:=[.va (eS P),.va (eL L),.va (d9 P f),s3,s4,s5,s6,s7]
variable{a b:V5}{f:di N2}{s3 s4 s5 s6 s7:Sl}
section
def yY(s3 s4 s5 s6 s7:Sl):disown 2 (iY P L f s3 s4 s5 s6 s7)=HG P L f s3 s4 s5 s6 s7:=by
 show [Sl.va (eS P),.va (eL L),.va (OT.view (.dd (P.map en) (rowsT P f))),s3,s4,s5,s6,s7]=_
 have e:OT.view (.dd (P.map en) (rowsT P f))=d9 P f:=by
  show T.dct (P.map en) ((rowsT P f).map λr=>T.dct r.1 r.2)=_
  unfold rowsT d9;rw[N3]
  rfl
 rw[e]
variable{c:V5}
def tw{u:N2}(hc:c Z=.ok (d9 P f))(ha:a Z=.ok (en u))(hb:b Z=.ok (en v))(hu:u∈P)(hv:v∈P):o2 aN (o2 aN c a) b Z=.ok (oI (f u v)):=by
 refine aB (t:=.dct (P.map en) (P.map λw=>oI (f u w))) (u:=en v) (aB (t:=d9 P f) (u:=en u) hc ha ?_) hb ?_
 ·show(match kO (P.map en) (P.map λu=>T.dct (P.map en) (P.map λv=>oI (f u v))) (ky u)with|some t=>Rs.ok t|none=>.bad)=_
  rw[mH (λu=>T.dct (P.map en) (P.map λv=>oI (f u v))),if_pos hu]
 ·show(match kO (P.map en) (P.map λw=>oI (f u w)) (ky v)with|some t=>Rs.ok t|none=>.bad)=_
  rw[mH (λw=>oI (f u w)),if_pos hv]
def C9{u:N2}(ha:a (HG P L f s3 s4 s5 s6 s7)=.ok (en u))(hb:b (HG P L f s3 s4 s5 s6 s7)=.ok (en v))(hu:u∈P)(hv:v∈P):ln 2 (o2 aN (o2 aN (vr 2) a) b) (iY P L f s3 s4 s5 s6 s7)=.ok (oI (f u v)):=
 Gf (o:=.dd (P.map en) (rowsT P f)) rfl (by rw[yY];exact tw rfl ha hb hu hv) (by cases f u v <;> rfl)
theorem Ci(g:N2->List T×List T)(u:N2):∀(Q:List N2),u∈Q->qV (Q.map en) (Q.map g) (ky u)=ZA (g u)
 |w::Q,h=>by
  rw[Nd,Nd,qV,bq]
  by_cases e:w=u
  ·subst e;rw[if_pos rfl]
  ·rw[if_neg (λz=>e (ja z)),Ci g u Q ((Nl.mp h).elim (λz=>absurd z.symm e) id)]
theorem Ce(g:N2->List T×List T)(u:N2)(x:List T×List T):∀(Q:List N2),Q.Nodup->qU (ky u) x (Q.map en) (Q.map g)=Q.map λw=>if w=u then x else g w
 |[],_=>rfl
 |w::Q,h=>by
  rw[NP]at h;rw[Nd,Nd,qU,bq,Nd]
  by_cases e:w=u
  ·subst e
   rw[if_pos rfl,if_pos rfl]
   congr 1
   exact NQ λz hz=>by rw[if_neg (λ(y:z=w)=>h.1 (y▸hz))]
  ·rw[if_neg (λz=>e (ja z)),if_neg e,Ce g u x Q h.2]
def Cv(nd:P.Nodup)(pl:P.length<1000){u:N2}(ha:a (iY P L f s3 s4 s5 s6 s7)=.ok (en u))(hb:b (iY P L f s3 s4 s5 s6 s7)=.ok (en v))(hc:c (iY P L f s3 s4 s5 s6 s7)=.ok (.int x))(hu:u∈P)(hv:v∈P):
  jv 2 a b c (iY P L f s3 s4 s5 s6 s7)=.ok (.nx (iY P L (j5 f u v x) s3 s4 s5 s6 s7)):=by
 unfold jv
 show(c (iY P L f s3 s4 s5 s6 s7) >>= λw=>a (iY P L f s3 s4 s5 s6 s7) >>= λz=>match(keyOf z).bind λka=>(qV (P.map en) (rowsT P f) ka).map λr=>(ka,r)with
  |some (ka,r)=>b (iY P L f s3 s4 s5 s6 s7) >>= λy=>if (keyOf y).isSome=ZC/\r.1.length<1000 then Rs.ok (Fl.nx ((iY P L f s3 s4 s5 s6 s7).set 2 (.ow (.dd (P.map en) (qU ka (gA y w r.1 r.2) (P.map en) (rowsT P f))))))else .bad
  |none=>.bad)=_
 rw[hc,aF,ha,aF,bq]
 have e1:qV (P.map en) (rowsT P f) (ky u)=ZA (P.map en,P.map λv=>oI (f u v)):=Ci (λu=>(P.map en,P.map λv=>oI (f u v))) u P hu
 simp only[Option.bind_some,e1,Tf];rw[hb,aF,bq,if_pos ⟨rfl,by rw[Nc];exact pl⟩,u6 (.int x) v (λv=>oI (f u v)) P nd hv]
 have e2:=Ce (λu=>(P.map en,P.map λv=>oI (f u v))) u (P.map en,P.map λw=>if w=v then T.int x else oI (f u w)) P nd
 have e3:(P.map λw=>if w=u then(P.map en,P.map λw=>if w=v then T.int x else oI (f u w))else(P.map en,P.map λv=>oI (f w v)))=rowsT P (j5 f u v x):=by
  unfold rowsT j5;refine NQ λw _=>?_
  by_cases e:w=u
  ·subst e
   rw[if_pos rfl]
   congr 1
   refine NQ λz _=>?_
   by_cases h:z=v
   ·rw[if_pos h,if_pos ⟨rfl,h⟩];rfl
   ·rw[if_neg h,if_neg (λq=>h q.2)]
  ·rw[if_neg e]
   congr 1
   exact NQ λz _=>by rw[if_neg (λq=>e q.1)]
 show Rs.ok (Fl.nx [.va (eS P),.va (eL L),.ow (.dd (P.map en) (qU (ky u) (P.map en,P.map λw=>if w=v then T.int x else oI (f u w)) (P.map en) (rowsT P f))),s3,s4,s5,s6,s7])=_
 rw[show qU (ky u) (P.map en,P.map λw=>if w=v then T.int x else oI (f u w)) (P.map en) (rowsT P f)=rowsT P (j5 f u v x)from e2.trans e3]
def DB(nd:P.Nodup)(pl:P.length<1000){u:N2}(ha:a (iY P L f s3 s4 s5 s6 s7)=.ok (en u))(hb:b (iY P L f s3 s4 s5 s6 s7)=.ok (en v))(ha':a (HG P L f s3 s4 s5 s6 s7)=.ok (en u))(hb':b (HG P L f s3 s4 s5 s6 s7)=.ok (en v))(hc:c (iY P L f s3 s4 s5 s6 s7)=.ok (.int x))(hu:u∈P)(hv:v∈P):
  ee (l8 (tb (o2 gj (ln 2 (o2 aN (o2 aN (vr 2) a) b)) (cn .non))) (tb (o2 rC c (ln 2 (o2 aN (o2 aN (vr 2) a) b))))) (jv 2 a b c) sN (iY P L f s3 s4 s5 s6 s7)=.ok (.nx (iY P L (oh f u v x) s3 s4 s5 s6 s7)):=by
 have g:=C9 (P:=P) (L:=L) (f:=f) ha' hb' hu hv
 have p:=Cv (P:=P) (L:=L) (f:=f) nd pl ha hb hc hu hv;unfold oh
 cases q:f u v with
 |none=>
  rw[q]at g
  exact(eZ (Af (aZ (aB (t:=.non) (u:=.non) g rfl rfl)))).trans p
 |some y=>
  rw[q]at g
  have c2:tb (o2 rC c (ln 2 (o2 aN (o2 aN (vr 2) a) b))) (iY P L f s3 s4 s5 s6 s7)=.ok (decide (x<y)):=aZ (aB (t:=.int x) (u:=.int y) hc g rfl)
  by_cases h:x<y
  ·rw[decide_eq_true h]at c2
   simp only[if_pos h];exact(eZ (nR (aZ (aB (t:=.int y) (u:=.non) g rfl rfl)) c2)).trans p
  ·rw[decide_eq_false h]at c2
   simp only[if_neg h];exact(cu (nR (aZ (aB (t:=.int y) (u:=.non) g rfl rfl)) c2)).trans rfl
end
theorem p6:∀(P:List N2),iO (P.map en)=ZC
 |[] =>rfl
 |u::P=>by
  have:=p6 P;simp[iO,bq,this]
def Jq(nd:P.Nodup):((P.map en).map keyOf).Nodup:=by
 rw[N3];exact nd.map _ λa b h e=>h (ja e)
def HE(nd:P.Nodup)(pl:P.length<=1000):o7 2 0 [.va (eS P),.va (eL L),.em,.em,.em,.em,.em,.em]=.ok (.nx (iY P L (λ_ _=>ZB) .em .em .em .em .em)):=by
 show(if (2:Nat)<8/\iO (P.map en)=ZC/\((P.map en).map keyOf).Nodup/\(P.map en).length<=1000 then Rs.ok (Fl.nx [.va (eS P),.va (eL L),.ow (.dd (P.map en) ((P.map en).map λ_=>(P.map en,(P.map en).map λ_=>T.non))),.em,.em,.em,.em,.em])else .bad)=_
 rw[if_pos ⟨by omega,p6 P,Jq nd,by rw[Nc];exact pl⟩,N3,N3]
 rfl
theorem G4(nd:P.Nodup)(pl:P.length<1000):∀(Q:List N2)(f:di N2)(s3 s4 s5 s6 s7:Sl),(∀u∈Q,u∈P)->∃s3',
  a8 (gN 3) (jv 2 (vr 3) (vr 3) (cn (.int 0))) (Q.map en) (iY P L f s3 s4 s5 s6 s7)=.ok (.nx (iY P L (Q.foldl (λf u=>j5 f u u 0) f) s3' s4 s5 s6 s7))
 |[],f,s3,s4,s5,s6,s7,_=>⟨s3,rfl⟩
 |u::Q,f,s3,s4,s5,s6,s7,h=>by
  have hu:=h u Nb;rw[Nd,cI (Z1:=iY P L f (.va (en u)) s4 s5 s6 s7) rfl (Cv nd pl (u:=u) (v:=u) (x:=0) rfl rfl rfl hu hu)];exact G4 nd pl Q _ _ _ _ _ _ λw hw=>h w (Na _ hw)
theorem sr:∀(Q:List N2)(f:di N2)(u v:N2),Q.foldl (λf u=>j5 f u u 0) f u v=if u∈Q/\u=v then ZA 0 else f u v
 |[],f,u,v=>by rw[if_neg (λh=>nomatch h.1)];rfl
 |w::Q,f,u,v=>by
  rw[Vx,sr Q]
  by_cases e:u=v
  ·subst e
   by_cases m:u∈Q
   ·rw[if_pos ⟨m,rfl⟩,if_pos ⟨Na _ m,rfl⟩]
   ·rw[if_neg (λz=>m z.1)]
    unfold j5
    by_cases q:u=w
    ·subst q;rw[if_pos ⟨rfl,rfl⟩,if_pos ⟨Nb,rfl⟩]
    ·rw[if_neg (λz=>q z.1),if_neg (λz=>(Nl.mp z.1).elim q m)]
  ·rw[if_neg (λz=>e z.2),if_neg (λz=>e z.2)]
   unfold j5;rw[if_neg (λz=>e (z.1.trans z.2.symm))]
def Bk(P:List N2):P.foldl (λf u=>j5 f u u 0) (λ_ _=>ZB)=vJ P:=by
 funext u v
 rw[sr]
 rfl
theorem G3(nd:P.Nodup)(pl:P.length<1000):∀(M:bU N2)(f:di N2)(s3 s4 s5 s6 s7:Sl),(∀x∈M,x.1∈P/\x.2.1∈P)->∃s3' s4' s5',
  a8 (gT 3 (dE (gN 3) (dE (gN 4) (dE (gN 5) j4)))) (ee (l8 (tb (o2 gj (ln 2 (o2 aN (o2 aN (vr 2) (vr 3)) (vr 4))) (cn .non))) (tb (o2 rC (vr 5) (ln 2 (o2 aN (o2 aN (vr 2) (vr 3)) (vr 4)))))) (jv 2 (vr 3) (vr 4) (vr 5)) sN) (M.map eB) (iY P L f s3 s4 s5 s6 s7)=.ok (.nx (iY P L (M.foldl (λf x=>oh f x.1 x.2.1 x.2.2) f) s3' s4' s5' s6 s7))
 |[],f,s3,s4,s5,s6,s7,_=>⟨s3,s4,s5,rfl⟩
 |x::M,f,s3,s4,s5,s6,s7,h=>by
  have hx:=h x Nb;rw[Nd,cI (Z1:=iY P L f (.va (en x.1)) (.va (en x.2.1)) (.va (.int x.2.2)) s6 s7) rfl (DB nd pl (u:=x.1) (v:=x.2.1) (x:=x.2.2) rfl rfl rfl rfl rfl hx.1 hx.2)];exact G3 nd pl M _ _ _ _ _ _ λw hw=>h w (Na _ hw)
def ES(nd:P.Nodup)(pl:P.length<1000){mid one other:N2}(hm:mid∈P)(h1:one∈P)(h2:other∈P)(f:di N2)(s5 s7:Sl):∃s7',
  Ka (iY P L f (.va (en one)) (.va (en other)) s5 (.va (en mid)) s7)=.ok (.nx (iY P L (my mid one other f) (.va (en one)) (.va (en other)) s5 (.va (en mid)) s7')):=by
 have ga:∀s7,ln 2 (o2 aN (o2 aN (vr 2) (vr 3)) (vr 6)) (iY P L f (.va (en one)) (.va (en other)) s5 (.va (en mid)) s7)=.ok (oI (f one mid)):=λs7=>C9 rfl rfl h1 hm
 have gb:∀s7,ln 2 (o2 aN (o2 aN (vr 2) (vr 6)) (vr 4)) (iY P L f (.va (en one)) (.va (en other)) s5 (.va (en mid)) s7)=.ok (oI (f mid other)):=λs7=>C9 rfl rfl hm h2
 unfold my Ka
 cases qa:f one mid with
 |none=>
  have ga:=ga s7;rw[qa]at ga
  exact⟨s7,(cu (m8 (aZ (aB (t:=.non) (u:=.non) ga rfl rfl)))).trans rfl⟩
 |some x=>
  have ga:=ga s7;rw[qa]at ga
  have c1:=aZ (aB (g:=cL) (t:=.int x) (u:=.non) (fb:=cn .non) ga rfl rfl)
  cases qb:f mid other with
  |none=>
   have gb:=gb s7;rw[qb]at gb
   exact⟨s7,(cu (lJ c1 (aZ (aB (t:=.non) (u:=.non) gb rfl rfl)))).trans rfl⟩
  |some y=>
   have gb:=gb s7;rw[qb]at gb;refine⟨.va (.int (x+y)),(eZ (lJ c1 (aZ (aB (t:=.int y) (u:=.non) gb rfl rfl)))).trans ?_⟩
   rw[ay (bS (Z':=iY P L f (.va (en one)) (.va (en other)) s5 (.va (en mid)) (.va (.int (x+y)))) (aB (t:=.int x) (u:=.int y) ga gb rfl) rfl)];exact DB nd pl (u:=one) (v:=other) (x:=x+y) rfl rfl rfl rfl rfl h1 h2
theorem G2(nd:P.Nodup)(pl:P.length<1000){mid one:N2}(hm:mid∈P)(h1:one∈P):∀(Q:List N2)(f:di N2)(s4 s5 s7:Sl),(∀u∈Q,u∈P)->∃s4' s7',
  a8 (gN 4) Ka (Q.map en) (iY P L f (.va (en one)) s4 s5 (.va (en mid)) s7)=.ok (.nx (iY P L (mB mid one Q f) (.va (en one)) s4' s5 (.va (en mid)) s7'))
 |[],f,s4,s5,s7,_=>⟨s4,s7,rfl⟩
 |u::Q,f,s4,s5,s7,h=>by
  have hu:=h u Nb;obtain⟨s7',e⟩:=ES (L:=L) nd pl hm h1 hu f s5 s7;rw[Nd,cI (Z1:=iY P L f (.va (en one)) (.va (en u)) s5 (.va (en mid)) s7) rfl e];exact G2 nd pl hm h1 Q _ _ _ _ λw hw=>h w (Na _ hw)
theorem G1(nd:P.Nodup)(pl:P.length<1000){mid:N2}(hm:mid∈P):∀(Q:List N2)(f:di N2)(s3 s4 s5 s7:Sl),(∀u∈Q,u∈P)->∃s3' s4' s7',
  a8 (gN 3) (dM (iS (vr 0)) (gN 4) Ka) (Q.map en) (iY P L f s3 s4 s5 (.va (en mid)) s7)=.ok (.nx (iY P L (ql mid Q P f) s3' s4' s5 (.va (en mid)) s7'))
 |[],f,s3,s4,s5,s7,_=>⟨s3,s4,s7,rfl⟩
 |u::Q,f,s3,s4,s5,s7,h=>by
  have hu:=h u Nb;obtain⟨s4',s7',e⟩:=G2 (L:=L) nd pl hm hu P f s4 s5 s7 λ_ z=>z
  rw[Nd,cI (Z1:=iY P L f (.va (en u)) s4 s5 (.va (en mid)) s7) rfl (d6 (ts:=P.map en) rfl e)];exact G1 nd pl hm Q _ _ _ _ _ λw hw=>h w (Na _ hw)
theorem G0(nd:P.Nodup)(pl:P.length<1000):∀(Q:List N2)(f:di N2)(s3 s4 s5 s6 s7:Sl),(∀u∈Q,u∈P)->∃s3' s4' s6' s7',
  a8 (gN 6) (dM (iS (vr 0)) (gN 3) (dM (iS (vr 0)) (gN 4) Ka)) (Q.map en) (iY P L f s3 s4 s5 s6 s7)=.ok (.nx (iY P L (xw Q P f) s3' s4' s5 s6' s7'))
 |[],f,s3,s4,s5,s6,s7,_=>⟨s3,s4,s6,s7,rfl⟩
 |u::Q,f,s3,s4,s5,s6,s7,h=>by
  have hu:=h u Nb;obtain⟨s3',s4',s7',e⟩:=G1 (L:=L) nd pl hu P f s3 s4 s5 s7 λ_ z=>z
  rw[Nd,cI (Z1:=iY P L f s3 s4 s5 (.va (en u)) s7) rfl (d6 (ts:=P.map en) rfl e)];exact G0 nd pl Q _ _ _ _ _ _ λw hw=>h w (Na _ hw)
def GU(P:List N2)(f:di N2):Prop:=∀u∈P,∀y,f u u=ZA y->0<=y
def HF(hd:∀u∈P,∃y,table P L u u=ZA y)(pl:P.length<1000)(s3 s4 s5 s6 s7:Sl):
  ∃t,((GU P (table P L)/\t=d9 P (table P L))\/(¬GU P (table P L)/\t=.non))/\mS 2 (aM (qi (tb (o2 qr (eh (iS (vr 0)) [ZB,ZA 2] (gN 0) (tb (o2 rC (o2 aN (o2 aN (vr 1) (vr 0)) (vr 0)) (cn (.int 0)))) (vr 0)) (dF ai))) (vr 2) (cn .non))) (iY P L (table P L) s3 s4 s5 s6 s7)=.ok (.rt t):=by
 generalize hf:table P L=f
 rw[hf]at hd
 have lc:eh (iS (vr 0)) [ZB,ZA 2] (gN 0) (tb (o2 rC (o2 aN (o2 aN (vr 1) (vr 0)) (vr 0)) (cn (.int 0)))) (vr 0) (HG P L f s3 s4 s5 s6 s7)=.ok (.lst (((P.map en).filter λt=>P.any λu=>decide (keyOf t=ZA (ky u))&&(match f u u with|some y=>decide (y<0)|none=>ZD)).map id)):=by
  refine Dt (ts:=P.map en) rfl (aA (k:=1000) (by rw[Nc];omega)) (by simp) λt ht=>?_
  obtain⟨u,hu,rfl⟩:=NA.mp ht;obtain⟨y,hy⟩:=hd u hu;refine⟨?_,λ_=>rfl⟩
  have e:(P.any λw=>decide (keyOf (en u)=ZA (ky w))&&(match f w w with|some y=>decide (y<0)|none=>ZD))=decide (y<0):=by
   by_cases h:y<0
   ·rw[decide_eq_true h]
    exact QV.mpr ⟨u,hu,by rw[hy];simp[h,bq]⟩
   ·rw[decide_eq_false h,Su]
    intro w hw
    by_cases q:w=u
    ·subst q;rw[hy];simp[h]
    ·rw[decide_eq_false (λz=>q (ja ((bq u).symm.trans z)).symm)];simp
  rw[e]
  have g:=tw (P:=P) (f:=f) (u:=u) (v:=u) (Z:=[.va (en u),.va (d9 P f)]) (c:=vr 1) (a:=vr 0) (b:=vr 0) rfl rfl rfl hu hu;rw[hy]at g;exact aZ (aB (t:=.int y) (u:=.int 0) g rfl rfl)
 rw[VA]at lc
 generalize hp:(λt=>P.any λu=>decide (keyOf t=ZA (ky u))&&(match f u u with|some y=>decide (y<0)|none=>ZD))=p at lc
 have pu:∀u∈P,∀y,f u u=ZA y->p (en u)=decide (y<0):=by
  intro u hu y hy;rw[<-hp]
  show(P.any λw=>decide (keyOf (en u)=ZA (ky w))&&(match f w w with|some y=>decide (y<0)|none=>ZD))=decide (y<0)
  by_cases h:y<0
  ·rw[decide_eq_true h]
   exact QV.mpr ⟨u,hu,by rw[hy];simp[h,bq]⟩
  ·rw[decide_eq_false h,Su]
   intro w hw
   by_cases q:w=u
   ·subst q;rw[hy];simp[h]
   ·rw[decide_eq_false (λz=>q (ja ((bq u).symm.trans z)).symm)];simp
 have iff:(P.map en).filter p=[] ↔GU P f:=by
  rw[List.filter_eq_nil_iff]
  constructor
  ·intro h u hu y hy
   have:=h (en u) (NA.mpr ⟨u,hu,rfl⟩);rw[pu u hu y hy]at this
   simpa using this
  ·intro h t ht
   obtain⟨u,hu,rfl⟩:=NA.mp ht;obtain⟨y,hy⟩:=hd u hu;rw[pu u hu y hy]
   have:=h u hu y hy
   simpa using this
 have nd:nds ((P.map en).filter p)=ZC:=C1 λt ht=>by
  obtain⟨u,_,rfl⟩:=NA.mp (Q8.mp ht).1
  rfl
 have eq:o2 qr (eh (iS (vr 0)) [ZB,ZA 2] (gN 0) (tb (o2 rC (o2 aN (o2 aN (vr 1) (vr 0)) (vr 0)) (cn (.int 0)))) (vr 0)) (dF ai) (HG P L f s3 s4 s5 s6 s7)=.ok (.bl (bc (.lst ((P.map en).filter p)) (.lst []))):=
  aB (u:=.lst []) lc (mr rfl (aA (k:=1) (by simp))) (by unfold qr;rw[if_pos (xy (by simp[T.dep,deps]) (by simpa [T.nd]using nd) rfl)])
 by_cases D:GU P f
 ·refine⟨d9 P f,.inl ⟨D,rfl⟩,?_⟩
  rw[iff.mpr D]at eq;refine Dv ?_
  rw[yY];exact bP ((lr (p:=ZC) (aZ eq)).trans rfl)
 ·refine⟨.non,.inr ⟨D,rfl⟩,?_⟩
  have:(P.map en).filter p≠ []:=λz=>D (iff.mp z)
  cases q:(P.map en).filter p with
  |nil=>exact absurd q this
  |cons a l=>
   rw[q]at eq;refine Dv ?_
   rw[yY];exact bP ((lr (p:=ZD) (aZ (eq.trans (by simp[bc,beqTs])))).trans rfl)
def Gw(nd:P.Nodup)(pl:P.length<1000)(hL:∀x∈L,x.1∈P/\x.2.1∈P):
  ∃t,((cf L/\cR L P (table P L)/\t=d9 P (table P L))\/(¬cf L/\t=.non))/\fx [eS P,eL L]=.ok t:=by
 obtain⟨a3,e1⟩:=G4 (L:=L) nd pl P (λ_ _=>ZB) .em .em .em .em .em λ_ z=>z
 rw[Bk]at e1;obtain⟨b3,b4,b5,e2⟩:=G3 (L:=L) nd pl L (vJ P) a3 .em .em .em .em hL;obtain⟨c3,c4,c6,c7,e3⟩:=G0 (L:=L) nd pl P (B1 P L) b3 b4 b5 .em .em λ_ z=>z
 obtain⟨t,ht,e4⟩:=HF (P:=P) (L:=L) (λu hu=>let ⟨y,h,_⟩:=oN (L:=L) hu;⟨y,h⟩) pl c3 c4 b5 c6 c7
 refine⟨t,ht.elim (λh=>.inl ?_) (λh=>.inr ⟨λn=>h.1 λu hu y hy=>?_,h.2⟩),bz rfl ?_⟩
 ·have:=nG hL h.1
  exact⟨this.1,this.2,h.2⟩
 ·exact Int.not_lt.mp λz=>rL hy z n
 ·show jm [.va (eS P),.va (eL L),.em,.em,.em,.em,.em,.em]=_
  unfold jm;rw[ay (HE nd (by omega)),ay (d6 (ts:=P.map en) rfl e1),ay (d6 (ts:=L.map eB) rfl e2)]
  exact(ay (d6 (ts:=P.map en) rfl e3)).trans e4
variable{ns:List Int}
section
variable{a:N2}{b:cx N2}
def zR(S:Settled L [a] b)(F:cR L P f)(ha:a∈P)(c:N2):C4 (b c)=oI (f a c):=by
 cases q:b c with
 |none=>
  cases e:f a c with
  |none=>rfl
  |some y=>
   obtain⟨d,w,z,_⟩:=S.least a (by simp) c y (F.is a c y e)
   rw[q]at z;cases z
 |some x=>
  obtain⟨d,w⟩:=x;obtain⟨s,hs,h1,h2,_⟩:=S.walk c d w q;rw[Ny.mp hs]at h1
  have wk:Wk L a c d:=h2▸h1.wk;obtain⟨y,e,hy⟩:=F.le a ha c d wk;obtain⟨d',w',z,hd⟩:=S.least a (by simp) c y (F.is a c y e)
  rw[q]at z;cases z;rw[e]
  show T.int d=.int y
  congr 1
  omega
def Rd.Mx(R:Rd cs ls L P)(n:cf L)(F:cR L P f)(ha:a∈P)(hc:c∈P):cC [(RR cs ls),en a,en c]=.ok (oI (f a c)):=by
 obtain⟨b,S,e⟩:=R.M5 n ha hc;rw[e,zR S F ha]
def ngI(o:Option Int):T:=match o with
 |some x=>.int (0 - x)
 |none=>.non
def Rd.ML(R:Rd cs ls L P)(n:cf L)(F:cR L P f)(ha:a∈P)(hc:c∈P):eI [(RR cs ls),en a,en c]=.ok (ngI (f c a)):=by
 refine bz rfl ?_
 show gm [.va (RR cs ls),.va (en a),.va (en c),.em]=_
 unfold gm;rw[ay (Z':=[.va (RR cs ls),.va (en a),.va (en c),.va (oI (f c a))]) (bS (aO (ts:=[(RR cs ls),en c,en a]) rfl (R.Mx n F hc ha)) rfl)]
 cases f c a with
 |none=>exact bP ((lr (p:=ZC) (aZ (aB (t:=.non) (u:=.non) rfl rfl rfl))).trans rfl)
 |some x=>
  refine bP ((lr (p:=ZD) (aZ (aB (t:=.int x) (u:=.non) rfl rfl rfl))).trans ((Jw (t:=.int x) rfl rfl).trans ?_))
  show Rs.ok (T.int (-x))=.ok (.int (0 - x))
  rw[Va]
theorem yK{D:Bool}:∀{l:List T},(∀t∈l,t.nk D=ZC)->nks D l=ZC
 |[],_=>rfl
 |t::l,h=>by unfold nks;rw[h t Nb,yK λu hu=>h u (Na _ hu)];rfl
def wb(P:List N2)(f:di N2)(u:N2):T:=.tup (P.map λv=>oI (f u v))
def AO(P:List N2)(f:di N2):T:=.tup (P.map (wb P f))
def Jg(D:Bool)(P:List N2)(f:di N2):(AO P f).nk D=ZC:=by
 show nks D (P.map (wb P f))=ZC
 refine yK λt ht=>?_
 obtain⟨u,_,rfl⟩:=NA.mp ht
 show nks D (P.map λv=>oI (f u v))=ZC
 refine yK λt ht=>?_
 obtain⟨v,_,rfl⟩:=NA.mp ht;cases f u v <;> rfl
def DQ{ms:List N2}(D:DR P ms b)(c:N2):eX [.dct (ms.map en) (dV ms b),en c]=.ok (C4 (b c)):=by
 refine bz rfl ?_
 refine bP ((lr (p:=(b c).isSome) (aZ (aB (t:=en c) (u:=.dct (ms.map en) (dV ms b)) rfl rfl (D8 D c)))).trans ?_)
 cases q:b c with
 |none=>rfl
 |some x=>exact aB (t:=eW x) (u:=.int 0) (aB (t:=.dct (ms.map en) (dV ms b)) (u:=en c) rfl rfl (u7 D q)) rfl rfl
noncomputable def deO(f:di N2)(u:N2)(t:T):T:=match t with
 |.tup [.int c,.int k] =>oI (f u ⟨c,k⟩)
 |_=>.non
def GF(P:List N2)(f:di N2)(u:N2):(P.map en).map (deO f u)=P.map λv=>oI (f u v):=by rw[N3];rfl
theorem Rd.Mm(R:Rd cs ls L P)(n:cf L)(F:cR L P f):∀(Q:List N2)(acc:List T)(s3 s4:Sl),(∀u∈Q,u∈P)->acc.length+Q.length<=1000->∃s3' s4',
  a8 (gN 3) amF (Q.map en) [.va (RR cs ls),.va (eS P),.ow (.lst acc),s3,s4]=.ok (.nx [.va (RR cs ls),.va (eS P),.ow (.lst (acc++Q.map (wb P f))),s3',s4'])
 |[],acc,s3,s4,_,_=>⟨s3,s4,by simp only[Qv,Oj];rfl⟩
 |u::Q,acc,s3,s4,h,hl=>by
  have hu:=h u Nb;rw[Nj]at hl;obtain⟨b,ms,S,D,e⟩:=R.from_ n hu
  have lc:eh (iS (vr 1)) [ZB,ZA 4] (gN 0) bT (cl eX (af (vr 1) (af (vr 0) ai))) [.va (RR cs ls),.va (eS P),.ow (.lst acc),.va (en u),.va (.dct (ms.map en) (dV ms b))]=.ok (.lst ((P.map en).map (deO f u))):=
   qf (ts:=P.map en) (gO rfl) (aA (k:=16) (by rw[Nc];exact R.pl)) (by simp) λt ht=>by
    obtain⟨v,hv,rfl⟩:=NA.mp ht;refine(aO (ts:=[.dct (ms.map en) (dV ms b),en v]) rfl (DQ D v)).trans ?_
    rw[zR S F hu];rfl
  rw[GF]at lc
  have st:amF [.va (RR cs ls),.va (eS P),.ow (.lst acc),.va (en u),s4]=.ok (.nx [.va (RR cs ls),.va (eS P),.ow (.lst (acc++[wb P f u])),.va (en u),.va (.dct (ms.map en) (dV ms b))]):=by
   refine(ay (Z':=[.va (RR cs ls),.va (eS P),.ow (.lst acc),.va (en u),.va (.dct (ms.map en) (dV ms b))]) (bS (aO (ts:=[(RR cs ls),en u]) rfl e) rfl)).trans ?_
   exact mw (l:=acc) (aO (au lc rfl) mO) rfl (by omega)
  obtain⟨a,c,ih⟩:=R.Mm n F Q (acc++[wb P f u]) (.va (en u)) (.va (.dct (ms.map en) (dV ms b))) (λw hw=>h w (Na _ hw)) (by rw[Nm];simp only[Nj,P5];omega)
  refine⟨a,c,?_⟩
  rw[Nd,cI (Z1:=[.va (RR cs ls),.va (eS P),.ow (.lst acc),.va (en u),s4]) rfl st,ih,ND]
  rfl
def Rd.MZ(R:Rd cs ls L P)(n:cf L)(F:cR L P f):i8 [(RR cs ls)]=.ok (AO P f):=by
 refine bz rfl ?_
 show lO [.va (RR cs ls),.em,.em,.em,.em]=_
 unfold lO;rw[ay (n9 (t:=.non) (aO (ts:=[(RR cs ls)]) rfl (R.MA n)))];rw[ay (Z':=[.va (RR cs ls),.va (eS P),.em,.em,.em]) (bS (aO (ts:=[(RR cs ls)]) rfl R.events) rfl)];rw[ay (Z':=[.va (RR cs ls),.va (eS P),.ow (.lst []),.em,.em]) (qe (by simp))]
 obtain⟨a,c,e⟩:=R.Mm n F P [] .em .em (λ_ z=>z) (by have:=R.pl;simp;omega)
 rw[ay (d6 (ts:=P.map en) (gO rfl) e),OC];exact bP (Gf (o:=.lst (P.map (wb P f))) rfl (aO (ts:=[.lst (P.map (wb P f))]) rfl mO) (Jg _ P f))
end
variable{fc:V6}{fe:V5}
theorem p0{p:T->Bool}{h:T->T}(I:En->Prop):∀(ts:List T)(Z:En),I Z->(∀t∈ts,∀Z,I Z->∃Z1,g t Z=.ok Z1/\I Z1/\fc Z1=.ok (p t)/\fe Z1=.ok (h t))->dg g fc fe ts Z=.ok ((ts.filter p).map h)
 |[],_,_,_=>rfl
 |t::r,Z,hI,hf=>by
  obtain⟨Z1,e1,i1,e2,e3⟩:=hf t Nb Z hI
  have ih:=p0 I r Z1 i1 λu hu=>hf u (Na _ hu)
  unfold dg
  cases q:p t with
  |true=>simp only[e1,aF,e2,q,if_true,e3,ih,SM q,Nd]
  |false=>simp only[e1,aF,e2,q,NW,if_false,ih,SN (show ¬p t=ZC by rw[q];decide)]
theorem sM(g:N2->T):∀(S ns:List N2),(ns++S).Nodup->gS ((S.map en).zip (S.map g)) (ns.map en,ns.map g)=((ns++S).map en,(ns++S).map g)
 |[],ns,_=>by rw[Oj];rfl
 |v::S,ns,hn=>by
  have hv:v∉ns:=λz=>by
   rw[Ot]at hn;exact hn.2.2 v z v Nb rfl
  rw[Nd,Nd,Sa,gS,j6 _ _ _ _ hv]
  have e1:ns.map en++[en v]=(ns++[v]).map en:=by rw[NR];rfl
  have e2:ns.map g++[g v]=(ns++[v]).map g:=by rw[NR];rfl
  rw[e1,e2,sM g S (ns++[v]) (by rw[ND];exact hn),ND]
  rfl
def Ez(P:List N2)(t:N2->Int):T:=.dct (P.map en) (P.map λv=>.int (t v))
def hB(t:N2->Int)(x:N2×N2×Int):Bool:=decide (t x.2.1 - t x.1<=x.2.2)
def Rd.pos(R:Rd cs ls L P):0<P.length:=by
 obtain⟨hcl,c1,_⟩:=cV R.g.c
 have e:=congrArg OE R.e;rw[Nc]at e;rw[<-e]
 cases cs with
 |nil=>simp at c1
 |cons c cs=>
  obtain⟨x,y,r,rfl,r1,_⟩:=f9 (hcl c Nb);rw[fG,Nm,iQ]
  show 0<r.length+_
  omega
def Rd.dz(R:Rd cs ls L P)(t:N2->Int):Lx [eS P,tq P t]=.ok (Ez P t):=by
 have h0:=R.pos
 have h1:=R.pl
 show(if iO (P.map en)=ZC/\(P.map en).length=(P.map λv=>T.int (t v)).length/\1<=(P.map en).length/\(P.map en).length<=1000 then _ else _)=_
 rw[if_pos ⟨p6 P,by rw[Nc,Nc],by rw[Nc];omega,by rw[Nc];omega⟩]
 have:=sM (λv=>.int (t v)) P [] (by simpa using R.nd)
 rw[OC]at this;rw[show(([]:List T),([]:List T))=(([]:List N2).map en,([]:List N2).map λv=>T.int (t v))from rfl,this]
 rfl
def j8{t:N2->Int}(ha:a Z=.ok (Ez P t))(hb:b Z=.ok (en v))(hv:v∈P):o2 aN a b Z=.ok (.int (t v)):=by
 refine aB (t:=Ez P t) (u:=en v) ha hb ?_
 show(match kO (P.map en) (P.map λv=>T.int (t v)) (ky v)with|some t=>Rs.ok t|none=>.bad)=_
 rw[mH (λv=>T.int (t v)),if_pos hv]
theorem uN:∀(ns:List Int)(i:Int),gx i ns<=i/\∀x∈ns,gx i ns<=x
 |[],i=>⟨O0 _,λx h=>by cases h⟩
 |j::ns,i=>by
  have h:=uN ns (if j<i then j else i)
  rw[gx];refine⟨?_,λx hx=>?_⟩
  ·have:=h.1;split at this <;> omega
  ·rcases Nl.mp hx with rfl|hx
   ·have:=h.1;split at this <;> omega
   ·exact h.2 x hx
theorem w6:∀(ns:List Int)(i:Int),gx i ns=i\/gx i ns∈ns
 |[],i=>.inl rfl
 |j::ns,i=>by
  rw[gx];rcases w6 ns (if j<i then j else i)with h|h
  ·rw[h]
   split
   ·exact .inr Nb
   ·exact .inl rfl
  ·exact .inr (Na _ h)
theorem zU:∀(ns:List Int)(i:Int),i<=ir i ns/\∀x∈ns,x<=ir i ns
 |[],i=>⟨O0 _,λx h=>by cases h⟩
 |j::ns,i=>by
  have h:=zU ns (if i<j then j else i)
  rw[ir];refine⟨?_,λx hx=>?_⟩
  ·refine Int.le_trans ?_ h.1;split <;> omega
  ·rcases Nl.mp hx with rfl|hx
   ·refine Int.le_trans ?_ h.1;split <;> omega
   ·exact h.2 x hx
theorem w8:∀(ns:List Int)(i:Int),ir i ns=i\/ir i ns∈ns
 |[],i=>.inl rfl
 |j::ns,i=>by
  rw[ir];rcases w8 ns (if i<j then j else i)with h|h
  ·rw[h]
   split
   ·first|exact .inr Nb|exact .inl rfl
   ·first|exact .inl rfl|exact .inr Nb
  ·exact .inr (Na _ h)
theorem lF:∀l:List Int,dZ (l.map .int)=ZA l
 |[] =>rfl
 |x::l=>by rw[Nd,dZ,lF l];rfl
noncomputable def deN(t:T):N2:=match t with
 |.tup [.int c,.int k] =>⟨c,k⟩
 |_=>⟨0,0⟩
def jb(u:N2):deN (en u)=u:=rfl
def l0(g:N2->Option Int)(t:T):Bool:=(g (deN t)).isSome
def oX(g:N2->Option Int)(t:T):T:=match g (deN t)with
 |some x=>.int x
 |none=>.non
theorem uY(g:N2->Option Int):∀Q:List N2,((Q.map en).filter (l0 g)).map (oX g)=(Q.filterMap g).map .int
 |[] =>rfl
 |u::Q=>by
  have ih:=uY g Q;rw[Nd,Qh]
  cases q:g u with
  |none=>rw[SN (by unfold l0;rw[jb,q];decide)];exact ih
  |some x=>
   rw[SM (by unfold l0;rw[jb,q];rfl),Nd,ih]
   show oX g (en u)::_=T.int x::_
   unfold oX;rw[jb,q]
def Hl{src:List (Option Nat)}{tgt:T->En->Rs En}{ks:List T}{t:T}(hi:Z[i]?=ZA (.ow (.dct ks ts)))(h:eh (iD (vr i)) src tgt fc fe (disown i Z)=.ok t)(hk:t.nk ZC=ZC)(hj:j<Z.length):tR i j src tgt fc fe Z=.ok (.nx (Z.set j (.va t))):=by
 unfold tR;rw[hi]
 dsimp only
 rw[h]
 dsimp only
 rw[if_pos ⟨hk,hj⟩]
def uF(l:List Int):(T.lst (l.map .int)).nk ZC=ZC:=by
 show(ZC&&nks ZC (l.map .int))=ZC
 rw[Rf]
 induction l with
 |nil=>rfl
 |cons x l ih=>exact ih
def uI(l:List Int):jy (.lst (l.map .int)) (.lst [])=.ok (.bl (!l.isEmpty)):=by
 have pl:(T.lst (l.map .int)).pl=ZC:=by unfold T.pl;exact mU λu hu=>by obtain⟨k,_,rfl⟩:=NA.mp hu;rfl
 unfold jy;rw[if_pos (xy (by simp[T.dep,deps]) (T.L6 _ pl) (T.L6 _ (by rfl)))]
 cases l with
 |nil=>rfl
 |cons a l=>simp[bc,beqTs]
variable{Q:List N2}
noncomputable def qL(f:di N2)(t:N2->Int)(v u:N2):Option Int:=(f u v).map λx=>t u+x
def rE(f:di N2)(t:N2->Int)(v u:N2):Option Int:=(f v u).map λx=>t u - x
def Hv(f:di N2)(Q:List N2)(t:N2->Int):Prop:=∀u∈Q,∀w∈Q,∀d,f u w=ZA d->t w - t u<=d
noncomputable def pV(lo hi:List Int):Int:=match lo with
 |x::l=>ir x l
 |[] =>match hi with
  |x::l=>gx x l - 5
  |[] =>0
def BF(lo hi:List Int):Int:=match hi with
 |x::l=>gx x l
 |[] =>pV lo hi+5
def Hj{t:N2->Int}(F:cR L P f)(hv:v∈P)(hQ:∀u∈Q,u∈P)(h:Hv f Q t):
  pV (Q.filterMap (rE f t v)) (Q.filterMap (qL f t v))<=BF (Q.filterMap (rE f t v)) (Q.filterMap (qL f t v))/\(∀x∈Q.filterMap (rE f t v),x<=pV (Q.filterMap (rE f t v)) (Q.filterMap (qL f t v)))/\∀x∈Q.filterMap (qL f t v),BF (Q.filterMap (rE f t v)) (Q.filterMap (qL f t v))<=x:=by
 have key:∀x∈Q.filterMap (rE f t v),∀y∈Q.filterMap (qL f t v),x<=y:=λx hx y hy=>by
  obtain⟨u,hu,eu⟩:=Pk.mp hx;obtain⟨w,hw,ew⟩:=Pk.mp hy;unfold rE at eu;unfold qL at ew;obtain⟨p,hp,rfl⟩:=OG.mp eu;obtain⟨q,hq,rfl⟩:=OG.mp ew;obtain⟨d,hd,hle⟩:=F.le w (hQ w hw) u _ ((F.is w v q hq).app (F.is v u p hp))
  have:=h w hw u hu d hd;omega
 generalize Q.filterMap (rE f t v)=lo at key
 generalize Q.filterMap (qL f t v)=hi at key
 cases lo with
 |nil=>
  cases hi with
  |nil=>exact⟨by show(0:Int)<=0+5;omega,(λx h=>by cases h),λx h=>by cases h⟩
  |cons y hi=>
   have m:=uN hi y;refine⟨by show gx y hi - 5<=gx y hi;omega,(λx h=>by cases h),λx hx=>?_⟩
   show gx y hi<=x
   rcases Nl.mp hx with rfl|hx
   ·exact m.1
   ·exact m.2 x hx
 |cons x lo=>
  have mx:=zU lo x
  have up:∀z∈x::lo,z<=ir x lo:=λz hz=>by
   rcases Nl.mp hz with rfl|hz
   ·exact mx.1
   ·exact mx.2 z hz
  cases hi with
  |nil=>exact⟨by show ir x lo<=ir x lo+5;omega,up,λx h=>by cases h⟩
  |cons y hi=>
   have m:=uN hi y;refine⟨?_,up,λz hz=>?_⟩
   ·show ir x lo<=gx y hi
    have h1:ir x lo∈x::lo:=(w8 lo x).elim (λe=>by rw[e];exact Nb) λe=>Na _ e
    have h2:gx y hi∈y::hi:=(w6 hi y).elim (λe=>by rw[e];exact Nb) λe=>Na _ e
    exact key _ h1 _ h2
   ·show gx y hi<=z
    rcases Nl.mp hz with rfl|hz
    ·exact m.1
    ·exact m.2 z hz
def DK{t:N2->Int}(n:cf L)(F:cR L P f)(hv:v∈P)(hq:v∉Q)(hQ:∀u∈Q,u∈P)(h:Hv f Q t)(h1:pV (Q.filterMap (rE f t v)) (Q.filterMap (qL f t v))<=x)(h2:x<=BF (Q.filterMap (rE f t v)) (Q.filterMap (qL f t v))):
  Hv f (Q++[v]) (λu=>if u=v then x else t u):=by
 obtain⟨_,l1,l2⟩:=Hj F hv hQ h;intro u hu w hw d hd
 have nv:∀u∈Q,u≠v:=λu hu z=>hq (z▸hu)
 show(if w=v then x else t w) - (if u=v then x else t u)<=d
 rcases NO.mp hu with hu|hu <;> rcases NO.mp hw with hw|hw
 ·rw[if_neg (nv u hu),if_neg (nv w hw)];exact h u hu w hw d hd
 ·rw[Ny.mp hw]at hd ⊢
  rw[if_neg (nv u hu),if_pos rfl]
  have:=l2 (t u+d) (Pk.mpr ⟨u,hu,by unfold qL;rw[hd];rfl⟩)
  omega
 ·rw[Ny.mp hu]at hd ⊢
  rw[if_neg (nv w hw),if_pos rfl]
  have:=l1 (t w - d) (Pk.mpr ⟨w,hw,by unfold rE;rw[hd];rfl⟩)
  omega
 ·rw[Ny.mp hu,Ny.mp hw]at hd
  rw[Ny.mp hu,Ny.mp hw]
  have:=n v d (F.is v v d hd);omega
def za{t:N2->Int}(ha:a Z=.ok (.dct (Q.map en) (Q.map λv=>.int (t v))))(hb:b Z=.ok (en v))(hv:v∈Q):o2 aN a b Z=.ok (.int (t v)):=j8 (P:=Q) ha hb hv
def wZ(x:Int)(l:List Int):uK [.lst ((x::l).map .int)]=.ok (.int (gx x l)):=by
 show(match dZ ((x::l).map .int)with|some (i::ns)=>Rs.ok (T.int (gx i ns))|_=>.bad)=_
 rw[lF]
def C8(x:Int)(l:List Int):A8 [.lst ((x::l).map .int)]=.ok (.int (ir x l)):=by
 show(match dZ ((x::l).map .int)with|some (i::ns)=>Rs.ok (T.int (ir i ns))|_=>.bad)=_
 rw[lF]
def Lg{fk fv:V5}{ks vs:List T}{k v:T}{kk:List L2.Key}(hi:Z[i]?=ZA (.ow (.dct ks vs)))(hv:fv Z=.ok v)(hk:fk Z=.ok k)(e:keyOf k=ZA kk)(hl:ks.length<1000):qT i fk fv Z=.ok (.nx (Z.set i (.ow (.dct (gA k v ks vs).1 (gA k v ks vs).2)))):=by
 unfold qT;rw[hi]
 dsimp only
 rw[hv,aF,hk,aF,e]
 dsimp only
 rw[if_pos hl]
def GB(hn:ns.length<=63)(n:cf L)(F:cR L P f)(pl:P.length<=16){t:N2->Int}(hv:v∈P)(hq:v∉Q)(hQ:∀u∈Q,u∈P)(hl:Q.length<=16)(h:Hv f Q t)(a k:Nat)(row:T)(s8 s9 s10 s11:Sl):∃x b8 b9 b10 b11,Hv f (Q++[v]) (λu=>if u=v then x else t u) ∧
  DW [.va (.scr ns),.va (.int (a:Nat)),.va (eS P),.va row,.va (d9 P f),.ow (.dct (Q.map en) (Q.map λv=>.int (t v))),.va (.int (k:Nat)),.va (en v),s8,s9,s10,s11]=.ok (.nx [.va (.scr ns),.va (.int (a:Nat)),.va (eS P),.va row,.va (d9 P f),.ow (.dct ((Q++[v]).map en) ((Q++[v]).map λu=>.int (if u=v then x else t u))),.va (.int (k:Nat)),.va (en v),b8,b9,b10,b11]):=by
 obtain⟨lh,_,_⟩:=Hj F hv hQ h
 have lch:eh (iD (vr 5)) [ZB,ZA 5,ZA 4,ZA 7] (gN 0) (tb (o2 cL (o2 aN (o2 aN (vr 2) (vr 0)) (vr 3)) (cn .non))) (o2 aU (o2 aN (vr 1) (vr 0)) (o2 aN (o2 aN (vr 2) (vr 0)) (vr 3))) (disown 5 [.va (.scr ns),.va (.int (a:Nat)),.va (eS P),.va row,.va (d9 P f),.ow (.dct (Q.map en) (Q.map λv=>.int (t v))),.va (.int (k:Nat)),.va (en v),s8,s9,s10,s11])=.ok (.lst ((Q.filterMap (qL f t v)).map .int)):=by
  rw[<-uY (qL f t v) Q];refine Dt (ts:=Q.map en) rfl (aA (k:=16) (by rw[Nc];exact hl)) (by simp) λu0 hu0=>?_
  obtain⟨u,hu,rfl⟩:=NA.mp hu0
  have e:=tw (P:=P) (f:=f) (u:=u) (v:=v) (a:=vr 0) (b:=vr 3) (c:=vr 2) (Z:=[.va (en u),.va (.dct (Q.map en) (Q.map λv=>.int (t v))),.va (d9 P f),.va (en v)]) rfl rfl rfl (hQ u hu) hv
  have e2:=za (Q:=Q) (t:=t) (v:=u) (a:=vr 1) (b:=vr 0) (Z:=[.va (en u),.va (.dct (Q.map en) (Q.map λv=>.int (t v))),.va (d9 P f),.va (en v)]) rfl rfl hu
  refine⟨?_,λhp=>?_⟩
  ·show _=Rs.ok (l0 (qL f t v) (en u))
   refine aZ ((aB (u:=.non) e rfl rfl).trans ?_)
   unfold l0 qL;rw[jb];cases f u v <;> rfl
  ·show _=Rs.ok (oX (qL f t v) (en u))
   unfold l0 qL at hp;rw[jb]at hp
   cases q:f u v with
   |none=>rw[q]at hp;cases hp
   |some d=>
    rw[q]at e;unfold oX qL;rw[jb,q];exact aB (t:=.int (t u)) (u:=.int d) e2 e rfl
 have lcl:eh (iD (vr 5)) [ZB,ZA 5,ZA 4,ZA 7] (gN 0) (tb (o2 cL (o2 aN (o2 aN (vr 2) (vr 3)) (vr 0)) (cn .non))) (o2 cX (o2 aN (vr 1) (vr 0)) (o2 aN (o2 aN (vr 2) (vr 3)) (vr 0))) (disown 5 [.va (.scr ns),.va (.int (a:Nat)),.va (eS P),.va row,.va (d9 P f),.ow (.dct (Q.map en) (Q.map λv=>.int (t v))),.va (.int (k:Nat)),.va (en v),.va (.lst ((Q.filterMap (qL f t v)).map .int)),s9,s10,s11])=.ok (.lst ((Q.filterMap (rE f t v)).map .int)):=by
  rw[<-uY (rE f t v) Q];refine Dt (ts:=Q.map en) rfl (aA (k:=16) (by rw[Nc];exact hl)) (by simp) λu0 hu0=>?_
  obtain⟨u,hu,rfl⟩:=NA.mp hu0
  have e:=tw (P:=P) (f:=f) (u:=v) (v:=u) (a:=vr 3) (b:=vr 0) (c:=vr 2) (Z:=[.va (en u),.va (.dct (Q.map en) (Q.map λv=>.int (t v))),.va (d9 P f),.va (en v)]) rfl rfl rfl hv (hQ u hu)
  have e2:=za (Q:=Q) (t:=t) (v:=u) (a:=vr 1) (b:=vr 0) (Z:=[.va (en u),.va (.dct (Q.map en) (Q.map λv=>.int (t v))),.va (d9 P f),.va (en v)]) rfl rfl hu
  refine⟨?_,λhp=>?_⟩
  ·show _=Rs.ok (l0 (rE f t v) (en u))
   refine aZ ((aB (u:=.non) e rfl rfl).trans ?_)
   unfold l0 rE;rw[jb];cases f v u <;> rfl
  ·show _=Rs.ok (oX (rE f t v) (en u))
   unfold l0 rE at hp;rw[jb]at hp
   cases q:f v u with
   |none=>rw[q]at hp;cases hp
   |some d=>
    rw[q]at e;unfold oX rE;rw[jb,q];exact aB (t:=.int (t u)) (u:=.int d) e2 e rfl
 have fm:∀{x:Int},pV (Q.filterMap (rE f t v)) (Q.filterMap (qL f t v))<=x->x<=BF (Q.filterMap (rE f t v)) (Q.filterMap (qL f t v))->Hv f (Q++[v]) (λu=>if u=v then x else t u):=λ{x} h1 h2=>DK n F hv hq hQ h h1 h2
 generalize Q.filterMap (qL f t v)=hi at lch lcl fm lh
 generalize Q.filterMap (rE f t v)=lo at lcl fm lh
 unfold DW;rw[ay (Z':=[.va (.scr ns),.va (.int (a:Nat)),.va (eS P),.va row,.va (d9 P f),.ow (.dct (Q.map en) (Q.map λv=>.int (t v))),.va (.int (k:Nat)),.va (en v),.va (.lst (hi.map .int)),s9,s10,s11]) (Hl rfl lch (uF _) (by simp))]
 rw[ay (Z':=[.va (.scr ns),.va (.int (a:Nat)),.va (eS P),.va row,.va (d9 P f),.ow (.dct (Q.map en) (Q.map λv=>.int (t v))),.va (.int (k:Nat)),.va (en v),.va (.lst (hi.map .int)),.va (.lst (lo.map .int)),s10,s11]) (Hl rfl lcl (uF _) (by simp))]
 have nil_:∀(Z:En),dF ai Z=.ok (.lst []):=λZ=>mr rfl (aA (k:=1) (by simp))
 have e10:(qi (tb (o2 jy (vr 9) (dF ai))) (cl A8 (af (vr 9) ai)) (qi (tb (o2 jy (vr 8) (dF ai))) (o2 cX (cl uK (af (vr 8) ai)) (cn (.int 5))) (cn (.int 0)))) [.va (.scr ns),.va (.int (a:Nat)),.va (eS P),.va row,.va (d9 P f),.ow (.dct (Q.map en) (Q.map λv=>.int (t v))),.va (.int (k:Nat)),.va (en v),.va (.lst (hi.map .int)),.va (.lst (lo.map .int)),s10,s11]=.ok (.int (pV lo hi)):=by
  rw[lr (aZ (aB (t:=.lst (lo.map .int)) (u:=.lst []) rfl (nil_ _) (uI lo)))]
  cases lo with
  |cons x l=>exact aO (ts:=[.lst ((x::l).map .int)]) rfl (C8 x l)
  |nil=>
   show qi _ _ _ _=_
   rw[lr (aZ (aB (t:=.lst (hi.map .int)) (u:=.lst []) rfl (nil_ _) (uI hi)))]
   cases hi with
   |cons x l=>exact aB (t:=.int (gx x l)) (u:=.int 5) (aO (ts:=[.lst ((x::l).map .int)]) rfl (wZ x l)) rfl rfl
   |nil=>rfl
 rw[ay (Z':=[.va (.scr ns),.va (.int (a:Nat)),.va (eS P),.va row,.va (d9 P f),.ow (.dct (Q.map en) (Q.map λv=>.int (t v))),.va (.int (k:Nat)),.va (en v),.va (.lst (hi.map .int)),.va (.lst (lo.map .int)),.va (.int (pV lo hi)),s11]) (bS e10 rfl)]
 have e11:(qi (tb (o2 jy (vr 8) (dF ai))) (cl uK (af (vr 8) ai)) (o2 aU (vr 10) (cn (.int 5)))) [.va (.scr ns),.va (.int (a:Nat)),.va (eS P),.va row,.va (d9 P f),.ow (.dct (Q.map en) (Q.map λv=>.int (t v))),.va (.int (k:Nat)),.va (en v),.va (.lst (hi.map .int)),.va (.lst (lo.map .int)),.va (.int (pV lo hi)),s11]=.ok (.int (BF lo hi)):=by
  rw[lr (aZ (aB (t:=.lst (hi.map .int)) (u:=.lst []) rfl (nil_ _) (uI hi)))]
  cases hi with
  |cons x l=>exact aO (ts:=[.lst ((x::l).map .int)]) rfl (wZ x l)
  |nil=>rfl
 rw[ay (Z':=[.va (.scr ns),.va (.int (a:Nat)),.va (eS P),.va row,.va (d9 P f),.ow (.dct (Q.map en) (Q.map λv=>.int (t v))),.va (.int (k:Nat)),.va (en v),.va (.lst (hi.map .int)),.va (.lst (lo.map .int)),.va (.int (pV lo hi)),.va (.int (BF lo hi))]) (bS e11 rfl)]
 obtain⟨r,er,r0,r1⟩:=dI ns (a+k) (BF lo hi - pV lo hi+1) hn (by omega)
 refine⟨pV lo hi+r,.va (.lst (hi.map .int)),.va (.lst (lo.map .int)),.va (.int (pV lo hi)),.va (.int (BF lo hi)),fm (by omega) (by omega),?_⟩
 have pv:o2 aU (vr 10) (cl aD (af (vr 0) (af (o2 aU (vr 1) (vr 6)) (af (o2 aU (o2 cX (vr 11) (vr 10)) (cn (.int 1))) ai)))) [.va (.scr ns),.va (.int (a:Nat)),.va (eS P),.va row,.va (d9 P f),.ow (.dct (Q.map en) (Q.map λv=>.int (t v))),.va (.int (k:Nat)),.va (en v),.va (.lst (hi.map .int)),.va (.lst (lo.map .int)),.va (.int (pV lo hi)),.va (.int (BF lo hi))]=.ok (.int (pV lo hi+r)):=
  aB (t:=.int (pV lo hi)) (u:=.int r) rfl (aO (ts:=[.scr ns,.int ((a+k:Nat):Int),.int (BF lo hi - pV lo hi+1)]) (au rfl (au (aB (t:=.int (a:Nat)) (u:=.int (k:Nat)) rfl rfl rfl) (au (aB (t:=.int (BF lo hi - pV lo hi)) (u:=.int 1) (aB (t:=.int (BF lo hi)) (u:=.int (pV lo hi)) rfl rfl rfl) rfl rfl) rfl))) er) rfl
 have mp:(Q.map λv=>T.int (t v))=Q.map λu=>.int (if u=v then pV lo hi+r else t u):=NQ λu hu=>by rw[if_neg (show ¬u=v from λz=>hq (z▸hu))]
 rw[Lg rfl pv rfl (bq v) (by rw[Nc];omega),j6 _ _ _ _ hq,mp]
 rw[NR,NR]
 show Rs.ok (Fl.nx [_,_,_,_,_,.ow (.dct (Q.map en++[en v]) ((Q.map λu=>T.int (if u=v then pV lo hi+r else t u))++[.int (pV lo hi+r)])),_,_,_,_,_,_])=Rs.ok (Fl.nx [_,_,_,_,_,.ow (.dct (Q.map en++[en v]) ((Q.map λu=>T.int (if u=v then pV lo hi+r else t u))++[.int (if v=v then pV lo hi+r else t v)])),_,_,_,_,_,_])
 rw[if_pos rfl]
def GC(hn:ns.length<=63)(n:cf L)(F:cR L P f)(pl:P.length<=16)(a:Nat)(row:T):∀(rest Q:List N2)(t:N2->Int)(k:Nat)(s6 s7 s8 s9 s10 s11:Sl),(Q++rest).Nodup->(∀u∈Q++rest,u∈P)->(Q++rest).length<=16->Hv f Q t->∃t' b6 b7 b8 b9 b10 b11,Hv f (Q++rest) t' ∧
  a8 (gT 2 (dE (gN 6) (dE (gN 7) j4))) DW (cb k (rest.map en)) [.va (.scr ns),.va (.int (a:Nat)),.va (eS P),.va row,.va (d9 P f),.ow (.dct (Q.map en) (Q.map λv=>.int (t v))),s6,s7,s8,s9,s10,s11]=.ok (.nx [.va (.scr ns),.va (.int (a:Nat)),.va (eS P),.va row,.va (d9 P f),.ow (.dct ((Q++rest).map en) ((Q++rest).map λv=>.int (t' v))),b6,b7,b8,b9,b10,b11]):=by
 intro rest
 induction rest with
 |nil=>
  intro Q t k s6 s7 s8 s9 s10 s11 _ _ _ h;refine⟨t,s6,s7,s8,s9,s10,s11,by rw[Oj];exact h,?_⟩
  rw[Oj]
  rfl
 |cons v rest ih=>
  intro Q t k s6 s7 s8 s9 s10 s11 nd hP hl h
  have hq:v∉Q:=λz=>by
   rw[Ot]at nd;exact nd.2.2 v z v Nb rfl
  have asc:Q++v::rest=Q++[v] ++rest:=by rw[ND];rfl
  obtain⟨x,b8,b9,b10,b11,h1,e1⟩:=GB (ns:=ns) hn n F pl (hP v (NM _ Nb)) hq (λu hu=>hP u (OD _ hu)) (by rw[Nm]at hl;omega) h a k row s8 s9 s10 s11
  rw[asc]at nd hP hl ⊢;obtain⟨t',c6,c7,c8,c9,c10,c11,h2,e2⟩:=ih (Q++[v]) _ (k+1) (.va (.int (k:Nat))) (.va (en v)) b8 b9 b10 b11 nd hP hl h1;refine⟨t',c6,c7,c8,c9,c10,c11,h2,?_⟩
  rw[Nd,cb,cI (Z1:=[.va (.scr ns),.va (.int (a:Nat)),.va (eS P),.va row,.va (d9 P f),.ow (.dct (Q.map en) (Q.map λv=>.int (t v))),.va (.int (k:Nat)),.va (en v),s8,s9,s10,s11]) rfl e1,e2]
def DX(hn:ns.length<=63)(n:cf L)(F:cR L P f)(pl:P.length<=16)(nd:P.Nodup)(hL:∀x∈L,x.1∈P/\x.2.1∈P)(a:Nat)(row:T):∃t,Holds L t/\dy [.scr ns,.int (a:Nat),eS P,row,d9 P f]=.ok (tq P t):=by
 obtain⟨t,b6,b7,b8,b9,b10,b11,h,e⟩:=GC (ns:=ns) hn n F pl a row P [] (λ_=>0) 0 .em .em .em .em .em .em (by simpa using nd) (λu hu=>by simpa using hu) (by simpa using pl) (λu hu=>by cases hu)
 rw[OC]at h e;refine⟨t,λu v m hm=>?_,bz rfl ?_⟩
 ·have hp:=hL _ hm
  obtain⟨d,hd,hle⟩:=F.le u hp.1 v m (Wk.one hm)
  have:=h u hp.1 v hp.2 d hd;omega
 ·show eU [.va (.scr ns),.va (.int (a:Nat)),.va (eS P),.va row,.va (d9 P f),.em,.em,.em,.em,.em,.em,.em]=_
  unfold eU;rw[ay (Z':=[.va (.scr ns),.va (.int (a:Nat)),.va (eS P),.va row,.va (d9 P f),.ow (.dct [] []),.em,.em,.em,.em,.em,.em]) rfl];refine(ay (d6 (Ah (l:=P.map en) rfl) e)).trans ?_
  refine bP (aO (ts:=[.lst (P.map λv=>.int (t v))]) (au (Gf (o:=.dct (P.map en) (P.map λv=>.int (t v))) rfl ?_ ?_) rfl) mO)
  ·refine(qf (ts:=P.map en) (h:=atT t) (gO rfl) (aA (k:=16) (by rw[Nc];exact pl)) (by simp) λu0 hu0=>?_).trans (by rw[N3];rfl)
   obtain⟨u,hu,rfl⟩:=NA.mp hu0;exact za (Q:=P) (t:=t) (v:=u) rfl rfl hu
  ·have:(P.map λv=>T.int (t v))=(P.map t).map .int:=by rw[N3];rfl
   rw[this];exact uF _
variable{M:bU N2}
def Rd.gw(R:Rd cs ls L P)(fm:GR M P):(¬cf M/\bx [(RR cs ls),eL M]=.ok .non)\/(cf M/\∃t,Holds M t/\bx [(RR cs ls),eL M]=.ok (tq P t)):=by
 obtain⟨r,hr,ok⟩:=qv fm R.nd (λv h=>h)
 have begin_:∀{x z:T}{y:Rs Fl},fX [eL M,eS P]=.ok (.tup [x,z])->((ax (ee (tb (o2 gj (vr 3) (cn .non))) (aM (cn .non)) sN) (aM (cl fL (af (eh (iS (vr 2)) [ZB,ZA 3] (gN 0) bT (o2 aY (o2 aN (vr 1) (vr 0)) (cn (.int 0)))) ai)))) [.va (RR cs ls),.va (eL M),.va (eS P),.va x]=y)->dh [.va (RR cs ls),.va (eL M),.em,.em]=y:=λ{x z y} hs hy=>by
  unfold dh;rw[ay (Z':=[.va (RR cs ls),.va (eL M),.va (eS P),.em]) (bS (aO (ts:=[(RR cs ls)]) rfl R.events) rfl)];rw[ay (Z':=[.va (RR cs ls),.va (eL M),.va (eS P),.va x]) (bS (aB (u:=.int 0) (aO (ts:=[eL M,eS P]) rfl hs) rfl rfl) rfl)];exact hy
 cases r with
 |inr q=>exact .inl ⟨λn=>absurd n (Bar.neg ok),bz rfl (begin_ hr (gi ((eZ (aZ (aB (t:=.non) (u:=.non) rfl rfl rfl))).trans rfl)))⟩
 |inl b=>
  obtain⟨ms,D,hr⟩:=hr
  have ok:Settled M P b:=ok
  have htm:∀v∈P,∃w,b v=ZA (GZ b v,w):=λv hv=>by
   obtain⟨d,w,e,_⟩:=ok.least v hv v 0 (.nil v);exact⟨w,by unfold GZ;rw[e]⟩
  have hol:=ok.holds fm.ends htm;refine .inr ⟨hol.Mo,GZ b,hol,bz rfl (begin_ hr ?_)⟩
  generalize GZ b=tm at htm
  have lc:eh (iS (vr 2)) [ZB,ZA 3] (gN 0) bT (o2 aY (o2 aN (vr 1) (vr 0)) (cn (.int 0))) [.va (RR cs ls),.va (eL M),.va (eS P),.va (.dct (ms.map en) (dV ms b))]=.ok (.lst ((P.map en).map (atT tm))):=
   qf (ts:=P.map en) (gO rfl) (aA (k:=16) (by rw[Nc];exact R.pl)) (by simp) λt ht=>by
    obtain⟨v,hv,rfl⟩:=NA.mp ht;obtain⟨w,e⟩:=htm v hv;exact aB (t:=eW (tm v,w)) (u:=.int 0) (aB (t:=.dct (ms.map en) (dV ms b)) (u:=en v) rfl rfl (u7 D e)) rfl rfl
  rw[N3]at lc;rw[ay (Z':=[.va (RR cs ls),.va (eL M),.va (eS P),.va (.dct (ms.map en) (dV ms b))]) ((cu (aZ (aB (t:=.dct (ms.map en) (dV ms b)) (u:=.non) rfl rfl rfl))).trans rfl)];exact bP (aO (au lc rfl) rfl)
def HU(hi:i<P.length)(hj:j<P.length){c:V5}(ha:a Z=.ok (AO P f))(hb:b Z=.ok (.int (i:Nat)))(hc:c Z=.ok (.int (j:Nat))):o2 aY (o2 aY a b) c Z=.ok (oI (f P[i] P[j])):=by
 refine Bf (n:=j) (l:=P.map λv=>oI (f P[i] v)) (Bf (n:=i) (l:=P.map (wb P f)) ha hb ?_) hc ?_
 ·rw[NC,Nk hi];rfl
 ·rw[NC,Nk hj];rfl
def Rd.pick(R:Rd cs ls L P)(hn:ns.length<=63)(k:Nat):∃r v,v∈P/\aD [.scr ns,.int k,.int (P.length:Nat)]=.ok (.int r)/\aY (eS P) (.int r)=.ok (en v):=by
 have:=R.pos;obtain⟨r,e,r0,r1⟩:=dI ns k (P.length:Nat) hn (by omega)
 obtain⟨t,ht,e2⟩:=FP (l:=P.map en) r0 (by rw[Nc];exact r1)
 obtain⟨v,hv,rfl⟩:=NA.mp ht;exact⟨r,v,hv,e,e2⟩
def yN{f:V5}(h:f Z=.ok (eS P)):cl dj (af f ai) Z=.ok (.int (P.length:Nat)):=aO (ts:=[eS P]) (au h rfl) (by show Rs.ok (T.int ((P.map en).length:Nat))=_;rw[Nc])
def Fb(v:N2):List Int:=[v.c,v.k]
theorem tS:∀Q:List N2,Tr.rowsT (Q.map en)=ZA (Q.map Fb)
 |[] =>rfl
 |v::Q=>by
  show(match dZ [.int v.c,.int v.k],Tr.rowsT (Q.map en)with|some ns,ZA k=>if ns=[]then ZB else ZA (ns::k)|_,_=>ZB)=_
  rw[tS Q]
  rfl
def E6(h:Q.length<64):rP [.lst (Q.map en)]=.ok (.lst (((Q.map Fb).mergeSort jY).map λns=>.tup (ns.map .int))):=by
 unfold rP;simp only[tS Q];rw[Nc,if_pos h]
def uM(c k c' k':Int):cH [c,k] [c',k']=(if c=c' then decide (k<k')else decide (c<c')):=by
 unfold cH cH cH
 by_cases h:c=c'
 ·rw[if_pos h,if_pos h]
  by_cases h2:k=k'
  ·rw[if_pos h2,h2];simp
  ·rw[if_neg h2]
 ·rw[if_neg h,if_neg h]
noncomputable def Hd(t:T):List Int:=match t with
 |.tup [.int c,.int k] =>[c,k]
 |_=>[]
theorem yW:∀(cs:List T)(i:Nat),(fG i cs).Pairwise λa b=>cH (Hd a) (Hd b)=ZC
 |[],i=>Sn
 |x::cs,i=>by
  rw[fG,List.pairwise_append];refine⟨?_,yW cs (i+1),λa ha b hb=>?_⟩
  ·unfold mE rng
   rw[N3,Px];refine List.pairwise_lt_range.imp ?_
   intro a b hab
   show cH [(i:Int),0+(a:Int)] [(i:Int),0+(b:Int)]=ZC
   rw[uM,if_pos rfl];exact decide_eq_true (by omega)
  ·unfold mE at ha
   obtain⟨t,ht,rfl⟩:=NA.mp ha;obtain⟨j,rfl,hj⟩:=kn ht;obtain⟨c,k,rfl,h1,_,_⟩:=kC cs (i+1) hb
   show cH [(i:Int),(j:Int)] [(c:Int),(k:Int)]=ZC
   rw[uM,if_neg (by omega)]
   exact decide_eq_true (by omega)
def Rd.up(R:Rd cs ls L P):(P.map Fb).Pairwise λa b=>jY a b=ZC:=by
 have h:=yW cs 0;rw[R.e,Px]at h;rw[Px];refine h.imp λ{a b} hab=>?_
 have hab:cH (Fb a) (Fb b)=ZC:=hab;unfold jY
 cases z:cH (Fb b) (Fb a)with
 |false=>rfl
 |true=>have:=mm _ _ _ hab z;rw[jX]at this;cases this
def Rd.sorted(R:Rd cs ls L P)(p:Q.Perm P):rP [.lst (Q.map en)]=.ok (eS P):=by
 rw[E6 (by rw[p.length_eq];have:=R.pl;omega),<-lZ ((p.symm.map Fb)) R.up,N3]
 rfl
def sC(Q:List N2):(T.lst (Q.map en)).pl=ZC/\(T.lst (Q.map en)).dep<=60:=by
 refine⟨?_,?_⟩
 ·rw[CA];exact mU λt ht=>by obtain⟨v,_,rfl⟩:=NA.mp ht;rfl
 ·unfold T.dep
  have:deps (Q.map en)<=5:=u9 λt ht=>by obtain⟨v,_,rfl⟩:=NA.mp ht;simp[en,T.dep,deps]
  omega
noncomputable def gZ:List N2->bU N2
 |a::b::r=>(b,a,0)::gZ (b::r)
 |_=>[]
theorem zF:∀(Q:List N2)(k:Nat){a b:N2},Q[k]?=ZA a->Q[k+1]?=ZA b->(gZ Q)[k]?=ZA (b,a,0)
 |[],_,_,_,h,_=>by cases h
 |[x],0,_,_,_,h=>by cases h
 |[x],k+1,_,_,h,_=>by cases h
 |x::y::r,0,a,b,h,g=>by cases h;cases g;rfl
 |x::y::r,k+1,a,b,h,g=>by
  show(gZ (y::r))[k]?=_
  exact zF (y::r) k (by simpa using h) (by simpa using g)
theorem jM:∀Q:List N2,(gZ Q).length=Q.length - 1
 |[] =>rfl
 |[x] =>rfl
 |x::y::r=>by rw[gZ,Nj,jM (y::r)];simp
def wc:∀x∈gZ Q,x.1∈Q/\x.2.1∈Q/\x.2.2=0:=by
 induction Q with
 |nil=>intro x hx;cases hx
 |cons a Q ih=>
  cases Q with
  |nil=>intro x hx;cases hx
  |cons b r=>
   intro x hx;rcases Nl.mp hx with rfl|hx
   ·exact⟨by simp,by simp,rfl⟩
   ·obtain⟨h1,h2,h3⟩:=ih x hx
    exact⟨Na _ h1,Na _ h2,h3⟩
def riT(Q:List N2)(t:T):T:=match t with
 |.int k=>match(gZ Q)[k.toNat]? with
  |some x=>eB x
  |none=>.non
 |_=>.non
def HW(Q:List N2):(rng 0 ((Q.length - 1:Nat):Int)).map (riT Q)=(gZ Q).map eB:=by
 apply UU
 intro k;unfold rng;rw[NC,NC,NC]
 by_cases h:k<Q.length - 1
 ·have hk:k<(gZ Q).length:=by rw[jM];exact h
  have e:(gZ Q)[k]?=ZA (gZ Q)[k]:=Nk hk
  rw[Nk (by rw[O7];omega),Us,e]
  show ZA (match(gZ Q)[(0+(k:Int)).toNat]? with|some x=>eB x|none=>T.non)=_
  rw[show(0+(k:Int)).toNat=k by omega,e]
  rfl
 ·rw[Pg (by rw[O7];omega),Pg (by rw[jM];omega)]
  rfl
def Rd.MO(R:Rd cs ls L P)(p:Q.Perm P):GR (L++gZ Q) P:=by
 have hs:=zE R.bg
 have ll:=R.ll
 have pl:=R.pl
 have hq:Q.length=P.length:=p.length_eq;refine⟨?_,?_,λx hx=>?_,by omega⟩
 ·rw[Nm,jM];omega
 ·have:((gZ Q).map λx:N2×N2×Int=>x.2.2.natAbs).sum=0:=by
   have:∀l:bU N2,(∀x∈l,x.2.2=0)->(l.map λx:N2×N2×Int=>x.2.2.natAbs).sum=0:=λl=>by
    induction l with
    |nil=>intro _;rfl
    |cons a l ih=>intro h;rw[Nd,Pa,ih λx hx=>h x (Na _ hx),h a Nb];rfl
   exact this _ λx hx=>(wc x hx).2.2
  unfold size at hs ⊢;rw[NR,List.sum_append];omega
 ·rcases NO.mp hx with hx|hx
  ·exact R.f.ends x hx
  ·obtain⟨h1,h2,_⟩:=wc x hx
   exact⟨p.mem_iff.mp h1,p.mem_iff.mp h2⟩
def iK(o:Option Int):Bool:=match o with
 |some y=>decide (y<0)
 |none=>ZD
def pj(o:Option Int):Bool:=match o with
 |some y=>decide (y > 0)
 |none=>ZC
def Lv{o:Option Int}(h:vr i Z=.ok (oI o)):BD (o2 gj (vr i) (cn .non)) (o2 JH (vr i) (cn (.int 0))) Z=.ok (.bl (pj o)):=by
 cases o with
 |none=>exact Dp (aB (t:=.non) (u:=.non) h rfl rfl)
 |some y=>exact(Dq (aB (t:=.int y) (u:=.non) h rfl rfl)).trans (aB (t:=.int y) (u:=.int 0) h rfl rfl)
def Lw{o:Option Int}(h:vr i Z=.ok (ngI o)):cE (o2 cL (vr i) (cn .non)) (o2 JH (vr i) (cn (.int 0))) Z=.ok (.bl (iK o)):=by
 cases o with
 |none=>exact Ai (aB (t:=.non) (u:=.non) h rfl rfl)
 |some y=>
  refine(Dw (aB (t:=.int (0 - y)) (u:=.non) h rfl rfl)).trans (aB (t:=.int (0 - y)) (u:=.int 0) h rfl ?_)
  show Rs.ok (T.bl (decide (0 - y > 0)))=.ok (.bl (decide (y<0)))
  congr 2
  exact decide_eq_decide.mpr (by omega)
noncomputable def word(f:di N2)(a c:N2):Str:=if iK (f c a)then "ahead" else if iK (f a c)then "behind" else if pj (f a c)||pj (f c a)then "open" else "at once"
variable{a:N2}
def Rd.Mf(R:Rd cs ls L P)(n:cf L)(F:cR L P f)(ha:a∈P)(hc:c∈P):bY [RR cs ls,en a,en c]=.ok (.bl (iK (f c a))):=by
 refine bz rfl ?_
 show gU [.va (RR cs ls),.va (en a),.va (en c),.em]=_
 unfold gU;rw[ay (Z':=[.va (RR cs ls),.va (en a),.va (en c),.va (ngI (f c a))]) (bS (aO (ts:=[RR cs ls,en a,en c]) rfl (R.ML n F ha hc)) rfl)];exact bP (Lw rfl)
def Rd.Ms(R:Rd cs ls L P)(n:cf L)(F:cR L P f)(ha:a∈P)(hc:c∈P):bW [RR cs ls,en a,en c]=.ok (.bl (pj (f a c))):=by
 refine bz rfl ?_
 show ix [.va (RR cs ls),.va (en a),.va (en c),.em]=_
 unfold ix;rw[ay (Z':=[.va (RR cs ls),.va (en a),.va (en c),.va (oI (f a c))]) (bS (aO (ts:=[RR cs ls,en a,en c]) rfl (R.Mx n F ha hc)) rfl)];exact bP (Lv rfl)
def Rd.once(R:Rd cs ls L P)(n:cf L)(F:cR L P f)(ha:a∈P)(hc:c∈P):cK [RR cs ls,en a,en c]=.ok (.bl (!iK (f c a)&& !iK (f a c))):=by
 refine bz rfl ?_
 exact bP (Gg (Dr (aO (ts:=[RR cs ls,en a,en c]) rfl (R.Mf n F ha hc))) λ_=>Dr (aO (ts:=[RR cs ls,en c,en a]) rfl (R.Mf n F hc ha)))
def Rd.MV(R:Rd cs ls L P)(n:cf L)(F:cR L P f)(ha:a∈P)(hc:c∈P):iN [RR cs ls,en a,en c]=.ok (.str (word f a c)):=by
 refine bz rfl ?_
 show nB [.va (RR cs ls),.va (en a),.va (en c)]=_
 unfold nB word
 have s1:=aZ (Z:=[.va (RR cs ls),.va (en a),.va (en c)]) (aO (fs:=af (vr 0) (af (vr 1) (af (vr 2) ai))) (ts:=[RR cs ls,en a,en c]) rfl (R.Mf n F ha hc))
 have s2:=aZ (Z:=[.va (RR cs ls),.va (en a),.va (en c)]) (aO (fs:=af (vr 0) (af (vr 2) (af (vr 1) ai))) (ts:=[RR cs ls,en c,en a]) rfl (R.Mf n F hc ha))
 have s3:=k_or (Z:=[.va (RR cs ls),.va (en a),.va (en c)]) (aZ (aO (fs:=af (vr 0) (af (vr 1) (af (vr 2) ai))) (ts:=[RR cs ls,en a,en c]) rfl (R.Ms n F ha hc))) λ_=>(aZ (aO (fs:=af (vr 0) (af (vr 2) (af (vr 1) ai))) (ts:=[RR cs ls,en c,en a]) rfl (R.Ms n F hc ha)))
 cases q1:iK (f c a)with
 |true=>rw[q1]at s1;exact gi ((eZ s1).trans rfl)
 |false=>
  rw[q1]at s1;rw[ay ((cu s1).trans rfl)]
  cases q2:iK (f a c)with
  |true=>rw[q2]at s2;exact gi ((eZ s2).trans rfl)
  |false=>
   rw[q2]at s2;rw[ay ((cu s2).trans rfl)]
   cases q3:(pj (f a c)||pj (f c a))with
   |true=>rw[q3]at s3;exact gi ((eZ s3).trans rfl)
   |false=>
    rw[q3]at s3;rw[ay ((cu s3).trans rfl)]
    rfl
noncomputable def AS(cs ls:List T)(P:List N2)(f:di N2)(acc:List T)(s4 s5 s6 s7:Sl):En:=[.va (RR cs ls),.va (AO P f),.va (eS P),.ow (.lst acc),s4,s5,s6,s7]
def pairsOf(f:di N2)(a:N2)(Q:List N2):List T:=(Q.filter λc=>iK (f c a)).map λc=>.tup [en a,en c]
theorem G7(hi:i<P.length)(pl:P.length<=16):∀(Q:List N2)(j:Nat)(acc:List T)(s6 s7:Sl),P.drop j=Q->acc.length+Q.length<=1000->∃s6' s7',
  a8 (gT 2 (dE (gN 6) (dE (gN 7) j4))) spI (cb j (Q.map en)) (AS cs ls P f acc (.va (.int (i:Nat))) (.va (en P[i])) s6 s7)=.ok (.nx (AS cs ls P f (acc++pairsOf f P[i] Q) (.va (.int (i:Nat))) (.va (en P[i])) s6' s7'))
 |[],j,acc,s6,s7,_,_=>⟨s6,s7,by unfold pairsOf;simp only[Qv,List.filter_nil,Oj];rfl⟩
 |c::Q,j,acc,s6,s7,hd,hl=>by
  have hj:P[j]?=ZA c:=by rw[<-VG,hd];rfl
  obtain⟨hj',ej⟩:=Nu.mp hj
  rw[Nj]at hl
  have st:∃acc',acc'=(acc++pairsOf f P[i] [c])/\acc'.length<=acc.length+1/\spI (AS cs ls P f acc (.va (.int (i:Nat))) (.va (en P[i])) (.va (.int (j:Nat))) (.va (en c)))=.ok (.nx (AS cs ls P f acc' (.va (.int (i:Nat))) (.va (en P[i])) (.va (.int (j:Nat))) (.va (en c)))):=by
   have ev:o2 aY (o2 aY (vr 1) (vr 6)) (vr 4) (AS cs ls P f acc (.va (.int (i:Nat))) (.va (en P[i])) (.va (.int (j:Nat))) (.va (en c)))=.ok (oI (f c P[i])):=by
    rw[<-ej];exact HU hj' hi rfl rfl rfl
   unfold pairsOf
   cases q:f c P[i]with
   |none=>
    rw[q]at ev
    refine⟨acc,by simp[q,iK],by omega,(cu (m8 (aZ (aB (t:=.non) (u:=.non) ev rfl rfl)))).trans rfl⟩
   |some y=>
    rw[q]at ev
    have t1:=lJ (aZ (aB (g:=cL) (fb:=cn .non) (t:=.int y) (u:=.non) ev rfl rfl)) (aZ (aB (g:=rC) (fb:=cn (.int 0)) (t:=.int y) (u:=.int 0) ev rfl rfl))
    replace t1:_=Rs.ok (decide (y<0)):=t1
    by_cases hy:y<0
    ·rw[decide_eq_true hy]at t1
     refine⟨acc++[.tup [en P[i],en c]],by simp[q,iK,hy],by simp,(eZ t1).trans (mw (l:=acc) (p2 rfl rfl) rfl (by omega))⟩
    ·rw[decide_eq_false hy]at t1
     exact⟨acc,by simp[q,iK,hy],by omega,(cu t1).trans rfl⟩
  obtain⟨acc',ea,la,st⟩:=st;obtain⟨a,b,ih⟩:=G7 hi pl Q (j+1) acc' (.va (.int (j:Nat))) (.va (en c)) (by rw[<-List.tail_drop,hd];rfl) (by omega)
  refine⟨a,b,?_⟩
  have g:gT 2 (dE (gN 6) (dE (gN 7) j4)) (.tup [.int (j:Nat),en c]) (AS cs ls P f acc (.va (.int (i:Nat))) (.va (en P[i])) s6 s7)=.ok (AS cs ls P f acc (.va (.int (i:Nat))) (.va (en P[i])) (.va (.int (j:Nat))) (.va (en c))):=rfl;rw[Nd,cb,cI g st,ih,ea,ND]
  have:pairsOf f P[i] [c] ++pairsOf f P[i] Q=pairsOf f P[i] (c::Q):=by unfold pairsOf;rw[<-NR,<-List.filter_append];rfl
  rw[this]
abbrev spO:V4:=(dM (iE (af (vr 2) ai)) (gT 2 (dE (gN 6) (dE (gN 7) j4))) spI)
def rW(f:di N2)(a:N2)(Q:List N2):(pairsOf f a Q).length<=Q.length:=by unfold pairsOf;rw[Nc];exact List.length_filter_le _ _
theorem B7(pl:P.length<=16):∀(Q:List N2)(i:Nat)(acc:List T)(s4 s5 s6 s7:Sl),P.drop i=Q->acc.length+16*Q.length<=900->∃s4' s5' s6' s7',
  a8 (gT 2 (dE (gN 4) (dE (gN 5) j4))) spO (cb i (Q.map en)) (AS cs ls P f acc s4 s5 s6 s7)=.ok (.nx (AS cs ls P f (acc++Q.flatMap λa=>pairsOf f a P) s4' s5' s6' s7'))
 |[],i,acc,s4,s5,s6,s7,_,_=>⟨s4,s5,s6,s7,by simp only[List.flatMap_nil,Oj];rfl⟩
 |c::Q,i,acc,s4,s5,s6,s7,hd,hl=>by
  have hi:P[i]?=ZA c:=by rw[<-VG,hd];rfl
  obtain⟨hi',ei⟩:=Nu.mp hi
  rw[Nj]at hl;obtain⟨a6,a7,st⟩:=G7 (cs:=cs) (ls:=ls) (f:=f) hi' pl P 0 acc s6 s7 rfl (by omega)
  rw[ei]at st
  have hlen:=rW f c P;obtain⟨b4,b5,b6,b7,ih⟩:=B7 pl Q (i+1) (acc++pairsOf f c P) (.va (.int (i:Nat))) (.va (en c)) a6 a7 (by rw[<-List.tail_drop,hd];rfl) (by rw[Nm];omega)
  refine⟨b4,b5,b6,b7,?_⟩
  have g:gT 2 (dE (gN 4) (dE (gN 5) j4)) (.tup [.int (i:Nat),en c]) (AS cs ls P f acc s4 s5 s6 s7)=.ok (AS cs ls P f acc (.va (.int (i:Nat))) (.va (en c)) s6 s7):=rfl;rw[Nd,cb,cI g (d6 (Ah (l:=P.map en) rfl) st),ih,ND,Py]
def ba(P:List N2)(f:di N2):List T:=P.flatMap λa=>pairsOf f a P
def Rd.ME(R:Rd cs ls L P)(n:cf L)(F:cR L P f):dW [RR cs ls]=.ok (.lst (ba P f)):=by
 refine bz rfl ?_
 show jd [.va (RR cs ls),.em,.em,.em,.em,.em,.em,.em]=_
 unfold jd;rw[ay (Z':=[.va (RR cs ls),.va (AO P f),.em,.em,.em,.em,.em,.em]) (bS (aO (ts:=[RR cs ls]) rfl (R.MZ n F)) rfl)];rw[ay (Z':=[.va (RR cs ls),.va (AO P f),.va (eS P),.em,.em,.em,.em,.em]) (bS (aO (ts:=[RR cs ls]) rfl R.events) rfl)];rw[ay (Z':=AS cs ls P f [] .em .em .em .em) (qe (by simp))]
 obtain⟨b4,b5,b6,b7,e⟩:=B7 (cs:=cs) (ls:=ls) (f:=f) R.pl P 0 [] .em .em .em .em rfl (by have:=R.pl;simp;omega)
 rw[OC]at e;rw[ay (d6 (Ah (l:=P.map en) rfl) e)]
 rfl
theorem Rd.Mw(R:Rd cs ls L P)(l:List T)(s3:Sl):∀(Q:List N2)(s2:Sl),(∀v∈Q,v∈P)->∃s2',a8 (gN 2) (rS (cl cM (af (vr 0) (af (vr 2) ai)))) (Q.map en) [.va (RR cs ls),.va (.lst l),s2,s3]=.ok (.nx [.va (RR cs ls),.va (.lst l),s2',s3])
 |[],s2,_=>⟨s2,rfl⟩
 |v::Q,s2,h=>by
  obtain⟨a,ih⟩:=R.Mw l s3 Q (.va (en v)) λw hw=>h w (Na _ hw)
  refine⟨a,?_⟩
  have g:gN 2 (en v) [.va (RR cs ls),.va (.lst l),s2,s3]=.ok [.va (RR cs ls),.va (.lst l),.va (en v),s3]:=rfl;rw[Nd,cI g (n9 (t:=.non) (aO (ts:=[RR cs ls,en v]) rfl (uH R.g rfl (R.ev (h v Nb))))),ih]
def Rd.fits(R:Rd cs ls L P)(p:Q.Perm P):(¬cf (L++gZ Q)/\cN [RR cs ls,.lst (Q.map en)]=.ok (.bl ZD))\/(cf (L++gZ Q)/\cN [RR cs ls,.lst (Q.map en)]=.ok (.bl ZC)):=by
 have hql:Q.length<=16:=by rw[p.length_eq];exact R.pl
 have hpos:0<Q.length:=by rw[p.length_eq];exact R.pos
 have wrap:∀{w:T}{b:Bool},bx [RR cs ls,eL (L++gZ Q)]=.ok w->cL w .non=.ok (.bl b)->cN [RR cs ls,.lst (Q.map en)]=.ok (.bl b):=λ{w b} hw hb=>by
  refine bz rfl ?_
  show jk [.va (RR cs ls),.va (.lst (Q.map en)),.em,.em]=_
  unfold jk;rw[ay (n9 (t:=.non) (aO (ts:=[RR cs ls]) rfl (iM R.g.p R.g.ok)))];obtain⟨s2,e⟩:=R.Mw (Q.map en) .em Q .em λv hv=>p.mem_iff.mp hv
  rw[ay (d6 (gO rfl) e)];rw[ay (Z':=[.va (RR cs ls),.va (.lst (Q.map en)),s2,.em]) ((cu (aZ (aB (t:=eS P) (u:=eS P) (aO (ts:=[.lst (Q.map en)]) rfl (R.sorted p)) (aO (ts:=[RR cs ls]) rfl R.events) (mi (sC P).1 (sC P).2)))).trans rfl)]
  have ln:cl dj (af (vr 1) ai) [.va (RR cs ls),.va (.lst (Q.map en)),s2,.em]=.ok (.int (Q.length:Nat)):=aO (ts:=[.lst (Q.map en)]) rfl (by show Rs.ok (T.int ((Q.map en).length:Nat))=_;rw[Nc])
  have lc:eh (iR (af (o2 cX (cl dj (af (vr 1) ai)) (cn (.int 1))) ai)) [ZB,ZA 1] (gN 0) bT (bA (af (o2 aY (vr 1) (o2 aU (vr 0) (cn (.int 1)))) (af (o2 aY (vr 1) (vr 0)) (af (cn (.int 0)) ai)))) [.va (RR cs ls),.va (.lst (Q.map en)),s2,.em]=.ok (.lst ((rng 0 ((Q.length - 1:Nat):Int)).map (riT Q))):=
   qf (ts:=rng 0 ((Q.length - 1:Nat):Int)) (JF (j:=((Q.length - 1:Nat):Int)) (au (aB (t:=.int (Q.length:Nat)) (u:=.int 1) ln rfl (by show Rs.ok (T.int ((Q.length:Int) - 1))=_;congr 2;omega)) rfl) (by omega) (by omega)) (aA (k:=16) (by rw[kr];omega)) (by simp) λt ht=>by
    obtain⟨k,rfl,hk⟩:=kn ht
    have hk':k+1<Q.length:=by omega
    have e1:Q[k]?=ZA Q[k]:=Nk (by omega)
    have e2:Q[k+1]?=ZA Q[k+1]:=Nk hk'
    have er:=zF Q k e1 e2
    have:riT Q (.int (k:Nat))=eB (Q[k+1],Q[k],0):=by
     show(match(gZ Q)[((k:Nat):Int).toNat]? with|some x=>eB x|none=>T.non)=_
     rw[Oq,er]
    rw[this];exact cG (au (xt (n:=k+1) (l:=Q.map en) rfl (aB (t:=.int (k:Nat)) (u:=.int 1) rfl rfl rfl) (by rw[NC,e2];rfl)) (au (xt (n:=k) (l:=Q.map en) rfl rfl (by rw[NC,e1];rfl)) rfl)) (aA (k:=3) (by simp))
  rw[HW]at lc;rw[ay (Z':=[.va (RR cs ls),.va (.lst (Q.map en)),s2,.va (eL (gZ Q))]) (bS lc rfl)];refine bP (aB (t:=w) (u:=.non) (aO (ts:=[RR cs ls,eL (L++gZ Q)]) (au rfl (au (aB (t:=eL L) (u:=eL (gZ Q)) (aO (ts:=[RR cs ls]) rfl R.bounds) rfl ?_) rfl)) hw) rfl hb)
  unfold eL;rw[vm _ _ (by rw[Nm,Nc,Nc,jM];have:=R.ll;omega),NR]
 rcases R.gw (R.MO p)with⟨n2,e⟩|⟨n2,t,h,e⟩
 ·exact .inl ⟨n2,wrap e rfl⟩
 ·exact .inr ⟨n2,wrap e rfl⟩
def vZ(t:N2->Int)(v:N2):List Int:=[t v,v.c,v.k]
def qK(P:List N2)(t:N2->Int):List N2:=P.mergeSort λa b=>jY (vZ t a) (vZ t b)
def gL(P:List N2)(t:N2->Int):(qK P t).Perm P:=T5 _ _
def CP(P:List N2)(t:N2->Int):(qK P t).Pairwise λa b=>jY (vZ t a) (vZ t b)=ZC:=
 SH (le:=λa b=>jY (vZ t a) (vZ t b)) (λa b c=>Df (vZ t a) (vZ t b) (vZ t c)) (λa b=>z8 (vZ t a) (vZ t b)) P
variable{b:N2}
def Bb{t:N2->Int}(h:jY (vZ t a) (vZ t b)=ZC):t a<=t b:=by
 unfold jY vZ cH at h
 by_cases e:t b=t a
 ·omega
 ·rw[if_neg e]at h
  have:¬ t b<t a:=λz=>by rw[decide_eq_true z]at h;cases h
  omega
def yv(P:List N2)(t:N2->Int):(qK P t).Pairwise λa b=>t a<=t b:=(CP P t).imp Bb
def Kp(u:T):T:=match u with
 |.tup [_,b] =>b
 |_=>.non
theorem zP(t:N2->Int):∀P:List N2,dZ (P.map λv=>T.int (t v))=ZA (P.map t)
 |[] =>rfl
 |v::P=>by show(dZ (P.map λv=>T.int (t v))).map (t v:: ·)=_;rw[zP t P];rfl
theorem vD(t:N2->Int):∀P:List N2,Tg Re (P.map t) (P.map Fb)=P.map (vZ t)
 |[] =>rfl
 |v::P=>by rw[Nd,Nd,List.zipWith_cons_cons,vD t P];rfl
def G5(t:N2->Int)(h0:0<P.length)(h1:P.length<64):G6 [tq P t,eS P]=.ok (.lst ((qK P t).map λv=>.tup [.int (t v),en v])):=by
 show(match dZ (P.map λv=>T.int (t v)),Tr.rowsT (P.map en)with
   |some ts,ZA ks=>if ts.length=ks.length/\0<ts.length/\ts.length<64 then Rs.ok (T.lst (((Tg Re ts ks).mergeSort jY).map unN))else .bad
   |_,_=>.bad)=_
 rw[zP,tS]
 dsimp only
 rw[if_pos ⟨by rw[Nc,Nc],by rw[Nc];exact h0,by rw[Nc];exact h1⟩,vD]
 have e:(qK P t).map (vZ t)=(P.map (vZ t)).mergeSort jY:=lZ ((gL P t).map _) (by rw[Px];exact CP P t)
 rw[<-e,N3]
 rfl
def Rd.told(R:Rd cs ls L P)(t:N2->Int):dv [RR cs ls,tq P t]=.ok (eS (qK P t)):=by
 have hl:(qK P t).length<=16:=by rw[(gL P t).length_eq];exact R.pl
 have lc:eh (iS (cl G6 (af (vr 1) (af (cl cq (af (vr 0) ai)) ai)))) [ZB] (gN 0) bT (o2 aY (vr 0) (cn (.int 1))) [.va (RR cs ls),.va (tq P t)]=.ok (.lst (((qK P t).map λv=>T.tup [.int (t v),en v]).map Kp)):=
  qf (ts:=(qK P t).map λv=>T.tup [.int (t v),en v]) (gO (aO (ts:=[tq P t,eS P]) (au rfl (au (aO (ts:=[RR cs ls]) rfl R.events) rfl)) (G5 t R.pos (by have:=R.pl;omega)))) (aA (k:=16) (by rw[Nc];exact hl)) (by simp) λu hu=>by
   obtain⟨v,_,rfl⟩:=NA.mp hu;exact aB (t:=.tup [.int (t v),en v]) (u:=.int 1) rfl rfl (Hm (n:=1) rfl)
 rw[N3]at lc;exact bz rfl (bP lc)
theorem pe{t:N2->Int}:∀{Q:List N2},Q.Pairwise (λa b=>t a<=t b)->Holds (gZ Q) t
 |[],_=>λ_ _ _ h=>by cases h
 |[_],_=>λ_ _ _ h=>by cases h
 |a::b::r,h=>λu v m hm=>by
  rcases Nl.mp hm with e|hm
  ·cases e
   have:=(Uu.mp h).1 b Nb;omega
  ·exact pe (Uu.mp h).2 u v m hm
def Bi{N:bU N2}{t:N2->Int}(h:Holds M t)(g:Holds N t):Holds (M++N) t:=λu v m hm=>(NO.mp hm).elim (h u v m) (g u v m)
def Rd.Mz(R:Rd cs ls L P)(p:Q.Perm P){t:N2->Int}(h:Holds L t)(g:Q.Pairwise λa b=>t a<=t b):cN [RR cs ls,.lst (Q.map en)]=.ok (.bl ZC):=by
 rcases R.fits p with⟨n,_⟩|⟨_,e⟩
 ·exact absurd (Bi h (pe g)).Mo n
 ·exact e
def ID{t:N2->Int}(h:Q.Pairwise λa b=>t a<=t b)(hi:Q[i]?=ZA a)(hj:Q[j]?=ZA b)(hij:i<j):t a<=t b:=by
 obtain⟨h1,rfl⟩:=Nu.mp hi
 obtain⟨h2,rfl⟩:=Nu.mp hj
 exact PX.mp h i j h1 h2 hij
def uS(h:a∈Q):Q[Q.idxOf a]?=ZA a:=by
 rw[Nk (List.idxOf_lt_length_iff.mpr h),List.getElem_idxOf]
def JE{t:N2->Int}(h:Q.Pairwise λa b=>t a<=t b)(ha:a∈Q)(hb:b∈Q)(lt:t a<t b):Q.idxOf a<Q.idxOf b:=by
 rcases Sy (Q.idxOf a) (Q.idxOf b)with z|z|z
 ·exact z
 ·have h1:=uS ha
  have h2:=uS hb;rw[z,h2]at h1;cases h1;omega
 ·have:=ID h (uS hb) (uS ha) z
  omega
def DT{t:T}(hp:t.pl=ZC)(h:fK t=ZC):eY [t]=.ok t:=by
 refine bz rfl ?_
 show gd [.va t]=_
 unfold gd;rw[ay (n9 (t:=.non) (aO (ts:=[t]) rfl (iM hp h)))];exact bP rfl
def DU{t:T}(hp:t.pl=ZC)(h:fK t=ZD):eY [t]=.err "NoRecord":=by
 refine yQ rfl ?_
 show gd [.va t]=_
 unfold gd;exact Jt (Ll (aO (ts:=[t]) rfl (A5 hp h)))
def wo(t:T):Rs T:=if fK t then .ok t else .err "NoRecord"
def Gy{t:T}(hp:t.pl=ZC):eY [t]=wo t:=by
 unfold wo
 cases h:fK t with
 |true=>exact DT hp h
 |false=>exact DU hp h
def Fe{f:V5}{t:T}(h:f Z=wo t):aM f Z=(if fK t then .ok (.rt t)else .err "NoRecord"):=by
 unfold wo at h
 cases q:fK t with
 |true=>rw[q]at h;exact bP h
 |false=>rw[q]at h;exact Ju h
def EN{m:Nat}{F:V4}{t:T}(hl:ts.length=n)(h:F (aR m ts)=(if fK t then .ok (.rt t)else .err "NoRecord")):val n m F ts=wo t:=by
 unfold wo
 cases q:fK t with
 |true=>rw[q]at h;exact bz hl h
 |false=>rw[q]at h;exact yQ hl h
def tY{a b:T}(ha:a.pl=ZC)(hb:b.pl=ZC):(T.tup [a,b]).pl=ZC:=by simp[T.pl,plS,ha,hb]
def CB{m:List T}(h1:(T.tup l).pl=ZC)(h2:(T.tup m).pl=ZC):(T.tup (l++m)).pl=ZC:=by
 rw[pk]at*;exact mU λt ht=>(NO.mp ht).elim (iZ h1) (iZ h2)
def Good.pls(g:Good cs ls):(T.tup ls).pl=ZC:=by rw[pk];exact mU g.parts.2
def uc{t:T}(hc:(T.tup cs).pl=ZC)(hl:(T.tup ls).pl=ZC)(hn:ls.length<=20)(ht:t.pl=ZC)(ok:fK (RR cs ls)=ZC):cT [RR cs ls,t]=wo (.tup [.tup cs,.tup (ls++[t])]):=by
 refine EN rfl ?_
 show iu [.va (RR cs ls),.va t]=_
 unfold iu;rw[ay (n9 (t:=.non) (aO (ts:=[RR cs ls]) rfl (iM (tY hc hl) ok)))];refine Fe (aO (ts:=[.tup [.tup cs,.tup (ls++[t])]]) (au (cG (au (t:=.tup cs) rfl (au (t:=.tup (ls++[t])) (aB (t:=.tup ls) (u:=.tup [t]) rfl (cG rfl (aA (k:=1) (by simp))) (AB _ _ (by simp;omega))) rfl)) (aA (k:=2) (by simp))) rfl) (Gy (tY hc (CB hl (by simp[T.pl,plS,ht])))))
def JR{x y:N2×N2×Int}(h:eB x=eB y):x=y:=by
 obtain⟨a,b,m⟩:=x;obtain⟨a',b',m'⟩:=y;unfold eB at h
 have h':=T.tup.inj h;simp only[RS,T.int.injEq,and_true]at h';rw[qu h'.1,qu h'.2.1,h'.2.2]
theorem BU{x:T}{c:T}:∀{cs:List T}{i j:Nat},cs[j]?=ZA c->x∈xB (i+j) c->x∈bC i cs
 |[],i,j,e,_=>by simp at e
 |c'::cs,i,0,e,h=>by
  simp only[SJ,Rn]at e
  subst e
  exact OD _ h
 |c'::cs,i,j+1,e,h=>by
  rw[OZ]at e
  exact NM _ (BU (i:=i+1) e (by rw[show i+1+j=i+(j+1)by omega];exact h))
def Rd.same{ms:List T}(R:Rd cs ls L P)(S:Rd cs ms M Q):Q=P:=by
 have:P.map en=Q.map en:=by rw[<-R.e,<-S.e]
 clear R S
 induction P generalizing Q with
 |nil=>cases Q with
  |nil=>rfl
  |cons a Q=>simp at this
 |cons v P ih=>cases Q with
  |nil=>simp at this
  |cons a Q=>
   rw[Nd,Nd,RS]at this;rw[qu this.1,ih this.2]
variable{fi:V3}
def jE{u:T}(h:u∈ba P f):∃a c d,a∈P/\c∈P/\f c a=ZA d/\d<0/\u=.tup [en a,en c]:=by
 unfold ba at h;obtain⟨a,ha,h⟩:=Qp.mp h;unfold pairsOf at h;obtain⟨c,hc,rfl⟩:=NA.mp h;obtain⟨hc,hn⟩:=Q8.mp hc;unfold iK at hn
 split at hn
 ·rename_i d q;exact⟨a,c,d,ha,hc,q,of_decide_eq_true hn,rfl⟩
 ·cases hn
def EY(ha:a∈P)(hc:c∈P)(e:f c a=ZA d)(hd:d<0):T.tup [en a,en c] ∈ba P f:=by
 unfold ba;refine Qp.mpr ⟨a,ha,?_⟩
 unfold pairsOf;exact NA.mpr ⟨c,Q8.mpr ⟨hc,by rw[e];exact decide_eq_true hd⟩,rfl⟩
def KW(a:N2)(Q:List N2):∀t∈pairsOf f a Q,t.pl=ZC/\t.dep<=5:=λt ht=>by
 unfold pairsOf at ht;obtain⟨c,_,rfl⟩:=NA.mp ht;exact⟨rfl,by simp[en,T.dep,deps]⟩
def Kn(P:List N2)(f:di N2):(T.lst (ba P f)).pl=ZC/\(T.lst (ba P f)).dep<=60:=by
 have h:∀t∈ba P f,t.pl=ZC/\t.dep<=5:=λt ht=>by
  unfold ba at ht;obtain⟨a,_,ht⟩:=Qp.mp ht;exact KW a P t ht
 refine⟨by rw[CA];exact mU λt ht=>(h t ht).1,?_⟩
 unfold T.dep
 have:=u9 (n:=5) λt ht=>(h t ht).2
 omega
def tE(pl:P.length<=16):(ba P f).length<=256:=by
 have:∀Q:List N2,(Q.flatMap λa=>pairsOf f a P).length<=16*Q.length:=λQ=>by
  induction Q with
  |nil=>simp
  |cons a Q ih=>
   rw[Py,Nm,Nj]
   have:=rW f a P;omega
 have:=this P;unfold ba;omega
def uu(ha:a∈P)(hc:c∈P)(e:f c a=ZA d)(hd:d<0):mY (.tup [en a,en c]) (.lst (ba P f))=.ok (.bl ZD):=by
 have h1:=Kn P f
 have h2:j9 (.tup [en a,en c]) (ba P f)=ZC:=QV.mpr ⟨_,EY ha hc e hd,kK _ rfl⟩
 show(if ((T.tup [en a,en c]).dep<=60\/deps (ba P f)<=60)/\(T.tup [en a,en c]).nd=ZC/\(T.lst (ba P f)).nd=ZC then Rs.ok (T.bl (!j9 (.tup [en a,en c]) (ba P f)))else .bad)=_
 rw[if_pos ⟨.inr (by have:=h1.2;unfold T.dep at this;omega),rfl,T.L6 _ h1.1⟩,h2];rfl
def LX{src:List (Option Nat)}(I:En->Prop)(hi:fi Z=.ok ts)(hs:ts.length<=ZI)(h0:I (bR src Z))(h:∀t∈ts,∀Z,I Z->∃Z1,g t Z=.ok Z1/\I Z1/\fc Z1=.ok ZD):eh fi src g fc fe Z=.ok (.lst []):=by
 have e:∀(ts:List T)(Z:En),I Z->(∀t∈ts,∀Z,I Z->∃Z1,g t Z=.ok Z1/\I Z1/\fc Z1=.ok ZD)->dg g fc fe ts Z=.ok []:=λts=>by
  induction ts with
  |nil=>intro _ _ _;rfl
  |cons t r ih=>
   intro Z i h;obtain⟨Z1,e1,i1,e2⟩:=h t Nb Z i;unfold dg;simp only[e1,aF,e2,NW,if_false,ih Z1 i1 λu hu=>h u (Na _ hu)]
 unfold eh;rw[hi,aF,if_pos hs,e ts _ h0 h]
def yR{F H:V4}{x:Rs Fl}(J:En->Prop)(hi:fi Z=.ok ts)(h:∀t∈ts,∀Z,J Z->∃Z1 Z2,g t Z=.ok Z1/\F Z1=.ok (.nx Z2)/\J Z2)(hj:J Z)(k:∀Z',J Z'->H Z'=x):ax (dM fi g F) H Z=x:=by
 obtain⟨Z',lo,j⟩:=A9 J h hj;exact(ay (d6 hi lo)).trans (k Z' j)
def yL{fa fb:V5}(h:fa Z=.ok (.lst []))(h2:fb Z=.ok (.lst [])):tb (o2 jy fa fb) Z=.ok ZD:=aZ (aB (t:=.lst []) (u:=.lst []) h h2 (mi rfl (by simp[T.dep,deps])))
def nil_:dF ai Z=.ok (.lst []):=mr rfl (aA (k:=0) (by simp))
def lead{e:N2}(F:cR L P f)(he:e∈P){d1 d2:Int}(h1:f c a=ZA d1)(h2:f e c=ZA d2):∃d,f e a=ZA d/\d<=d2+d1:=F.le e he a _ ((F.is _ _ _ h2).app (F.is _ _ _ h1))
theorem Cg:∀{r:List Int}{k:Nat},oo r=ZC->k+1<r.length->0<dr r k
 |[],k,_,h=>by simp at h
 |[a],k,_,h=>by simp at h
 |a::b::r,0,h,_=>by
  rw[Fd,Ni]at h
  have:=of_decide_eq_true h.1
  show 0<b - a
  omega
 |a::b::r,k+1,h,hk=>by
  rw[Fd,Ni]at h;exact Cg (r:=b::r) (k:=k) h.2 (by simpa using hk)
def Ed{t:T}(h:bO t=ZC):∃(x y:Int)(r:List Int),t=.tup [.int x,.int y,.tup (r.map .int)]/\1<=x/\∀k,k+1<r.length->0<dr r k:=by
 obtain⟨x,y,r,rfl,h1,h2,h3⟩:=qx h
 have h':(pw (.int x) (.int y)&&df (.tup (r.map .int)))=ZC:=h;rw[Ni]at h';refine⟨x,y,r,rfl,?_,?_⟩
 ·have hp:(bw (.int x) 1 9&&bw (.int y) x 9)=ZC:=h'.1
  rw[Ni]at hp;obtain⟨i,e,a,b⟩:=dN hp.1;cases e;exact a
 ·have hr:=h'.2
  unfold df at hr;rw[Ni]at hr
  have hr2:(((r.map T.int).all λu=>bw u 0 99)&&(match nums (r.map .int)with|some m=>oo m|none=>ZD))=ZC:=hr.2
  rw[Ni,mh]at hr2;exact λk hk=>Cg hr2.2 hk
def Rd.inL(R:Rd cs ls L P){x:N2×N2×Int}(h:eB x∈EA cs ls):x∈L:=by
 rw[R.b]at h;obtain⟨y,hy,e⟩:=NA.mp h;rw[<-JR e];exact hy
def Rd.MD(R:Rd cs ls L P){c k:Nat}(e:cs[c]?=ZA (.tup [.int x,.int y,.tup (r.map .int)]))(hx:1<=x)(hr:∀k,k+1<r.length->0<dr r k)(hk:k+1<r.length):∃s,s<0/\Wk L ⟨c,((k+1:Nat):Int)⟩ ⟨c,k⟩ s:=by
 refine⟨-dr r k*x,?_,Wk.one (R.inL ?_)⟩
 ·have h1:=hr k hk
  have:0<dr r k*x:=Int.mul_pos h1 (by omega)
  rw[Int.neg_mul];omega
 ·refine OD _ (BU (i:=0) e ?_)
  rw[Td,oJ];refine Qp.mpr ⟨k,OJ.mpr (by omega),?_⟩
  exact Na _ Nb
theorem Rd.MU(R:Rd cs ls L P){c:Nat}(e:cs[c]?=ZA (.tup [.int x,.int y,.tup (r.map .int)]))(hx:1<=x)(hr:∀k,k+1<r.length->0<dr r k){k:Nat}:∀(j:Nat),k+j+1<r.length->∃s,s<0/\Wk L ⟨c,((k+j+1:Nat):Int)⟩ ⟨c,k⟩ s
 |0,h=>R.MD e hx hr h
 |j+1,h=>by
  obtain⟨s,hs,w⟩:=R.MU e hx hr (k:=k) j (by omega)
  obtain⟨s',hs',w'⟩:=R.MD e hx hr (k:=k+j+1) (by omega)
  exact⟨s'+s,by omega,w'.app w⟩
def Rd.shape(R:Rd cs ls L P)(hv:v∈P):∃(c k:Nat)(x y:Int)(r:List Int),v=⟨c,k⟩/\cs[c]?=ZA (.tup [.int x,.int y,.tup (r.map .int)])/\1<=x/\(∀k,k+1<r.length->0<dr r k)/\k<r.length:=by
 have h:en v∈fG 0 cs:=by rw[R.e];exact NA.mpr ⟨v,hv,rfl⟩
 obtain⟨hc,c1,c4⟩:=cV R.g.c;obtain⟨c,k,e,h1,h2,h3⟩:=kC cs 0 h
 have hcl:c<cs.length:=by omega
 have e0:cs.getD (c - 0) .non=cs[c]:=by simp[hcl]
 rw[e0]at h3;obtain⟨x,z,r,e',a1,a2⟩:=Ed (hc cs[c] (Oi hcl));rw[e']at h3
 have h3':k<r.length:=by
  have:k<(r.map T.int).length:=h3
  rwa [Nc]at this
 exact⟨c,k,x,z,r,qu (v:=⟨c,k⟩) e,by rw[Nk hcl,e'],a1,a2,h3'⟩
def Rd.M6(R:Rd cs ls L P)(F:cR L P f)(ha:a∈P)(hb:b∈P)(e:a.c=b.c)(h:a.k<b.k):∃d,f b a=ZA d/\d<0:=by
 obtain⟨c,k,x,y,r,rfl,e1,hx,hr,hk⟩:=R.shape ha;obtain⟨c',k',x',y',r',rfl,e1',hx',hr',hk'⟩:=R.shape hb
 have e:(c:Int)=c':=e
 have h:(k:Int)<k':=h;obtain rfl:c=c':=by omega
 rw[e1]at e1'
 have e1':=T.tup.inj (NZ e1');simp only[RS,T.int.injEq,T.tup.injEq,and_true]at e1'
 have hl:r.length=r'.length:=by
  have:=congrArg OE e1'.2.2
  simpa using this
 obtain⟨j,rfl⟩:∃j,k'=k+j+1:=⟨k' - k - 1,by omega⟩
 obtain⟨s,hs,w⟩:=R.MU e1 hx hr (k:=k) j (by omega)
 obtain⟨d,e2,hd⟩:=F.le _ hb _ _ w;exact⟨d,e2,by omega⟩
def Rd.upk(R:Rd cs ls L P)(hij:i<j)(hi:P[i]?=ZA a)(hj:P[j]?=ZA b)(e:a.c=b.c):a.k<b.k:=by
 have h:=yW cs 0;rw[R.e,Px]at h;obtain⟨li,rfl⟩:=Nu.mp hi
 obtain⟨lj,rfl⟩:=Nu.mp hj
 have:=PX.mp h i j li lj hij
 have this:cH [P[i].c,P[i].k] [P[j].c,P[j].k]=ZC:=this;rw[uM,if_pos e]at this;exact of_decide_eq_true this
def C5{t:T}(h:t∈rng 1 (n:Nat)):∃j:Nat,t=.int ((j+1:Nat):Int)/\j+1<n:=by
 unfold rng at h;obtain⟨k,hk,rfl⟩:=NA.mp h
 have:=OJ.mp hk;exact⟨k,by rw[show((k+1:Nat):Int)=1+(k:Int)by omega],by omega⟩
noncomputable abbrev E2(P:List N2)(f:di N2)(s2 s3 s4:Sl):En:=[.va (.lst (ba P f)),.va (eS P),s2,s3,s4]
def Rd.MH(R:Rd cs ls L P)(F:cR L P f):fy [.lst (ba P f),eS P]=.ok (.bl ZC):=by
 refine bz rfl ?_
 show gX (E2 P f .em .em .em)=_
 unfold gX
 have hl:(ba P f).length<=ZI:=aA (tE R.pl)
 refine yR
  (λZ=>∃s2 s3,Z=E2 P f s2 s3 .em) (ts:=ba P f) (gO rfl)
  (λu hu Z hh=>by
   obtain⟨s2,s3,rfl⟩:=hh;obtain⟨a,c,d,ha,hc,e,hd,rfl⟩:=jE hu;refine⟨E2 P f (.va (en a)) (.va (en c)) .em,E2 P f (.va (en a)) (.va (en c)) .em,rfl,?_,_,_,rfl⟩
   refine(cu (yL (LX (λZ=>∃s0 s1,Z=[s0,s1,.va (en c),.va (en a),.va (.lst (ba P f))]) (ts:=ba P f) (gO rfl) hl ⟨_,_,rfl⟩ (λw hw Z hh=>?_)) nil_)).trans rfl
   obtain⟨s0,s1,rfl⟩:=hh;obtain⟨c',g,d',hc',hg,e',hd',rfl⟩:=jE hw;refine⟨[.va (en c'),.va (en g),.va (en c),.va (en a),.va (.lst (ba P f))],rfl,⟨_,_,rfl⟩,?_⟩
   by_cases z:c'=c
   ·subst z
    obtain⟨d2,e2,h2⟩:=lead F hg e e';exact lJ (aZ (aB (t:=en c') (u:=en c') rfl rfl (by rw[Ho,decide_eq_true rfl]))) (aZ (aB (t:=.tup [en a,en g]) (u:=.lst (ba P f)) (cG rfl (aA (k:=2) (by simp))) rfl (uu ha hg e2 (by omega))))
   ·exact m8 (aZ (aB (t:=en c') (u:=en c) rfl rfl (by rw[Ho,decide_eq_false z])))) ⟨_,_,rfl⟩ λZ' hJ=>?_
 obtain⟨s2,s3,rfl⟩:=hJ
 refine yR
  (λZ=>∃s4,Z=E2 P f s2 s3 s4) (ts:=rng 1 (P.length:Nat)) ?_
  (λu hu Z hh=>by
   obtain⟨s4,rfl⟩:=hh;obtain⟨j,rfl,hj⟩:=C5 hu
   have hj0:j<P.length:=by omega
   have e1:(P.map en)[j+1]?=ZA (en P[j+1]):=by rw[NC,Nk hj];rfl
   have e0:(P.map en)[j]?=ZA (en P[j]):=by rw[NC,Nk hj0];rfl
   refine⟨E2 P f s2 s3 (.va (.int ((j+1:Nat):Int))),E2 P f s2 s3 (.va (.int ((j+1:Nat):Int))),rfl,?_,_,rfl⟩
   have sb:∀{Z:En},vr 4 Z=.ok (.int ((j+1:Nat):Int))->o2 cX (vr 4) (cn (.int 1)) Z=.ok (.int (j:Nat)):=λ{Z} h=>aB (t:=.int ((j+1:Nat):Int)) (u:=.int 1) h rfl (by show Rs.ok (T.int (((j+1:Nat):Int) - 1))=_;rw[show((j+1:Nat):Int) - 1=(j:Nat)by omega])
   have x1:o2 aY (vr 1) (vr 4) (E2 P f s2 s3 (.va (.int ((j+1:Nat):Int))))=.ok (en P[j+1]):=xt (l:=P.map en) rfl rfl e1
   have x0:o2 aY (vr 1) (o2 cX (vr 4) (cn (.int 1))) (E2 P f s2 s3 (.va (.int ((j+1:Nat):Int))))=.ok (en P[j]):=xt (l:=P.map en) rfl (sb rfl) e0
   have c1:=aB (g:=aY) (t:=en P[j+1]) (u:=.int 0) (fb:=cn (.int 0)) x1 rfl (x:=.ok (.int P[j+1].c)) rfl
   have c0:=aB (g:=aY) (t:=en P[j]) (u:=.int 0) (fb:=cn (.int 0)) x0 rfl (x:=.ok (.int P[j].c)) rfl
   have eq:∀i j:Int,qr (.int i) (.int j)=.ok (.bl (decide (i=j))):=λi j=>u4 i j
   by_cases z:P[j+1].c=P[j].c
   ·have up:=R.upk (SU j) (Nk hj0) (Nk hj) z.symm
    obtain⟨d,e,hd⟩:=R.M6 F (Oi hj0) (Oi hj) z.symm up;exact(cu (lJ (aZ (aB c1 c0 (by rw[eq,decide_eq_true z]))) (aZ (aB (t:=.tup [en P[j],en P[j+1]]) (u:=.lst (ba P f)) (cG (au x0 (au x1 rfl)) (aA (k:=2) (by simp))) rfl (uu (Oi hj0) (Oi hj) e hd))))).trans rfl
   ·exact(cu (m8 (aZ (aB c1 c0 (by rw[eq,decide_eq_false z]))))).trans rfl) ⟨_,rfl⟩ λZ' hJ=>by
   obtain⟨s4,rfl⟩:=hJ;exact bP rfl
 have:=R.pl;unfold iR;rw[show(af (cn (T.int 1)) (af (cl dj (af (vr 1) ai)) ai)) [Sl.va (T.lst (ba P f)),Sl.va (eS P),s2,s3,Sl.em]=.ok [.int 1,.int (P.length:Nat)]from au rfl (au (yN rfl) rfl),aF]
 show(if vA 1&&vA (P.length:Nat)then Rs.ok (rng 1 (P.length:Nat))else .bad)=_
 rw[if_pos];unfold vA;simp only[Ni,decide_eq_true_eq];omega
def Lk{b:V6}{x y:V5}(h:b Z=.ok ZD):qi b x y Z=y Z:=by unfold qi;rw[h];rfl
def ano0(h:dH [RR cs ls]=.ok .non):fN [RR cs ls]=.ok .non:=by
 refine bz rfl ?_
 show gW [.va (RR cs ls),.em]=_
 unfold gW;refine(ay (bS (aO (ts:=[RR cs ls]) rfl h) rfl)).trans ?_
 rfl
def Rd.MX(R:Rd cs ls L P){t:N2->Int}(h:dH [RR cs ls]=.ok (tq P t)):fN [RR cs ls]=.ok (eS (qK P t)):=by
 refine bz rfl ?_
 show gW [.va (RR cs ls),.em]=_
 unfold gW;refine(ay (bS (aO (ts:=[RR cs ls]) rfl h) rfl)).trans ?_
 exact bP ((Lk (aZ (aB (t:=tq P t) (u:=.non) rfl rfl rfl))).trans (aO (ts:=[RR cs ls,tq P t]) rfl (R.told t)))
def Rd.MB(R:Rd cs ls L P)(h5:ls.length<=7){u:T}(hu:bF cs u=ZC)(pu:u.pl=ZC):Good cs (ls++[u]):=by
 refine⟨R.g.c,λt ht=>?_,by rw[Nm];simpa using h5,tY R.g.parts.1 (CB R.g.pls (by rw[pk];simp[plS,pu]))⟩
 rcases NO.mp ht with h|h
 ·exact R.g.l t h
 ·rw[Ny.mp h];exact hu
def Rd.MS(R:Rd cs ls L P)(h5:ls.length<=7){u:T}(hu:bF cs u=ZC)(pu:u.pl=ZC):cT [RR cs ls,u]=.ok (RR cs (ls++[u])):=by
 rw[uc R.g.parts.1 R.g.pls (by omega) pu R.g.ok]
 unfold wo;rw[if_pos (R.MB h5 hu pu).ok]
def xf(R:Rd cs ls L P)(n:cf L):cR L P (table P L):=(nG R.f.ends λu _ y h=>Int.not_lt.mp λz=>rL h z n).2
def Rd.keeps(R:Rd cs ls L P)(F:cR L P f)(h5:ls.length<=7){u:T}(hu:u=.non\/(bF cs u=ZC/\u.pl=ZC)):gv [RR cs ls,u,.lst (ba P f)]=.ok (.bl ZC):=by
 refine bz rfl ?_
 show jn [.va (RR cs ls),.va u,.va (.lst (ba P f)),.em]=_
 unfold jn;rcases hu with rfl|⟨hu,pu⟩
 ·exact gi ((eZ (Af (aZ (aB (t:=.non) (u:=.non) rfl rfl rfl)))).trans (bP rfl))
 have hn:gj u .non=.ok (.bl ZD):=by
  cases u with
  |non=>cases hu
  |_=>rfl
 obtain⟨L',P',S⟩:=wq (R.MB h5 hu pu);obtain rfl:=R.same S
 have w:=R.MS h5 hu pu;obtain⟨hw,e,iff⟩:=S.MM
 have wl:∀{Z:En},vr 0 Z=.ok (RR cs ls)->vr 1 Z=.ok u->cl cT (af (vr 0) (af (vr 1) ai)) Z=.ok (RR cs (ls++[u])):=λh0 h1=>aO (ts:=[RR cs ls,u]) (au h0 (au h1 rfl)) w
 cases hw with
 |false=>exact gi ((eZ (nR (aZ (aB (t:=u) (u:=.non) rfl rfl hn)) (hV (k:=ZD) (aZ (aO (ts:=[RR cs (ls++[u])]) (au (wl rfl rfl) rfl) e))))).trans (bP rfl))
 |true=>
  have n:cf L':=iff.mp rfl
  have F':=xf S n;refine(ay ((cu (nR (aZ (aB (t:=u) (u:=.non) rfl rfl hn)) (hV (k:=ZC) (aZ (aO (ts:=[RR cs (ls++[u])]) (au (wl rfl rfl) rfl) e))))).trans rfl)).trans ?_
  refine(ay (bS (aO (ts:=[RR cs (ls++[u])]) (au (wl rfl rfl) rfl) (S.ME n F')) rfl)).trans ?_
  have sub:∀x∈L,x∈L':=λx hx=>S.inL (by
   have:eB x∈EA cs ls:=by rw[R.b];exact NA.mpr ⟨x,hx,rfl⟩
   unfold EA at this ⊢;rw[List.flatMap_append,<-ND];exact OD _ this)
  refine bP (aB (t:=.lst []) (u:=.lst []) (LX (λZ=>∃s0,Z=[s0,.va (.lst (ba P' (table P' L')))]) (ts:=ba P' f) (gO rfl) (aA (tE R.pl)) ⟨_,rfl⟩ λw hw Z hh=>?_) nil_ (Gs rfl (by simp[T.dep,deps])))
  obtain⟨s0,rfl⟩:=hh;obtain⟨a,c,d,ha,hc,e,hd,rfl⟩:=jE hw;obtain⟨d2,e2,h2⟩:=F'.le c hc a _ ((F.is _ _ _ e).mono sub);exact⟨[.va (.tup [en a,en c]),.va (.lst (ba P' (table P' L')))],rfl,⟨_,rfl⟩,aZ (aB (t:=.tup [en a,en c]) (u:=.lst (ba P' (table P' L'))) rfl rfl (uu ha hc e2 (by omega)))⟩
noncomputable abbrev E5(ns:List Int)(cs ls:List T)(L:bU N2)(P:List N2)(f:di N2)(s6 s7 s8 s9 s10 s11 s12 s13:Sl):En:=[.va (.scr ns),.va (RR cs ls),.va (eS P),.va (eL L),.va (d9 P f),.va (.lst (ba P f)),s6,s7,s8,s9,s10,s11,s12,s13]
noncomputable abbrev LI:List (Str×Str):=[("ahead","behind"),("behind","ahead"),("open","open"),("at once","at once")]
def ab1:xO LI (.str "ahead")=.ok (.str "behind"):=by rfl
def ab2:xO LI (.str "behind")=.ok (.str "ahead"):=by rfl
def ab3:xO LI (.str "open")=.ok (.str "open"):=by rfl
def ab4:xO LI (.str "at once")=.ok (.str "at once"):=by rfl
def HD(n:cf L)(F:cR L P f)(h:iK (f c a)=ZC):iK (f a c)=ZD:=by
 cases h1:f c a with
 |none=>rw[h1]at h;cases h
 |some d=>
  cases h2:f a c with
  |none=>rfl
  |some e=>
   rw[h1]at h
   have hd:d<0:=of_decide_eq_true h
   have:=n c _ ((F.is _ _ _ h1).app (F.is _ _ _ h2));exact decide_eq_false (by omega)
def GN(n:cf L)(F:cR L P f):xO LI (.str (word f a c))=.ok (.str (word f c a)):=by
 unfold word
 cases h1:iK (f c a)with
 |true=>
  rw[HD n F h1]
  exact ab1
 |false=>
  cases h2:iK (f a c)with
  |true=>exact ab2
  |false=>
   rw[Bool.or_comm (pj (f c a))]
   cases pj (f a c)||pj (f c a)with
   |true=>exact ab3
   |false=>exact ab4
def uT{t:N2->Int}(h:Holds L t)(F:cR L P f){u:N2}(e:f u v=ZA d):t v - t u<=d:=h.walk (F.is _ _ _ e)
def Ji{t:N2->Int}(m:bW [RR cs ls,en a,en c]=.ok (.bl (pj (f a c))))(h1:vr 1 Z=.ok (RR cs ls))(h8:vr 8 Z=.ok (Ez P t))(h10:vr 10 Z=.ok (en a))(h11:vr 11 Z=.ok (en c))(ha:a∈P)(hc:c∈P)(h:Holds L t)(F:cR L P f):
  kP (tb (o2 rC (o2 aN (vr 8) (vr 10)) (o2 aN (vr 8) (vr 11)))) (dt (tb (cl bW (af (vr 1) (af (vr 10) (af (vr 11) ai)))))) Z=.ok ZD:=by
 by_cases z:t a<t c
 ·have p:pj (f a c)=ZC:=by
   cases e:f a c with
   |none=>rfl
   |some d=>have:=uT h F e;exact decide_eq_true (by omega)
  rw[p]at m;exact lJ (aZ (aB (t:=.int (t a)) (u:=.int (t c)) (j8 h8 h10 ha) (j8 h8 h11 hc) (by show Rs.ok (T.bl (decide (t a<t c)))=_;rw[decide_eq_true z]))) (hV (k:=ZC) (aZ (aO (ts:=[RR cs ls,en a,en c]) (au h1 (au h10 (au h11 rfl))) m)))
 ·exact m8 (aZ (aB (t:=.int (t a)) (u:=.int (t c)) (j8 h8 h10 ha) (j8 h8 h11 hc) (by show Rs.ok (T.bl (decide (t a<t c)))=_;rw[decide_eq_false z])))
def Jj{t:N2->Int}(m:cK [RR cs ls,en a,en c]=.ok (.bl (!iK (f c a)&& !iK (f a c))))(h1:vr 1 Z=.ok (RR cs ls))(h8:vr 8 Z=.ok (Ez P t))(h10:vr 10 Z=.ok (en a))(h11:vr 11 Z=.ok (en c))(ha:a∈P)(hc:c∈P)(h:Holds L t)(F:cR L P f):
  kP (tb (o2 qr (o2 aN (vr 8) (vr 10)) (o2 aN (vr 8) (vr 11)))) (dt (tb (cl cK (af (vr 1) (af (vr 10) (af (vr 11) ai)))))) Z=.ok ZD:=by
 by_cases z:t a=t c
 ·have p:∀u v,t u=t v->iK (f u v)=ZD:=λu v e0=>by
   cases e:f u v with
   |none=>rfl
   |some d=>have:=uT h F e;exact decide_eq_false (by omega)
  rw[p a c z,p c a z.symm]at m;exact lJ (aZ (aB (t:=.int (t a)) (u:=.int (t c)) (j8 h8 h10 ha) (j8 h8 h11 hc) (by rw[u4,beq_iff_eq.mpr z]))) (hV (k:=ZC) (aZ (aO (ts:=[RR cs ls,en a,en c]) (au h1 (au h10 (au h11 rfl))) m)))
 ·exact m8 (aZ (aB (t:=.int (t a)) (u:=.int (t c)) (j8 h8 h10 ha) (j8 h8 h11 hc) (by rw[u4,beq_eq_false_iff_ne.mpr z])))
def Km(R:Rd cs ls L P)(t:N2->Int)(h7:vr 7 Z=.ok (tq P t))(h2:vr 2 Z=.ok (eS P))(h0:bR [ZB,ZB] Z=[.em,.em]):eh (iS (cl G6 (af (vr 7) (af (vr 2) ai)))) [ZB,ZB] (gT 2 (dE (gN 0) (dE (gN 1) j4))) bT (vr 1) Z=.ok (eS (qK P t)):=by
 have hl:(qK P t).length<=16:=by rw[(gL P t).length_eq];exact R.pl
 have e:=p0 (g:=gT 2 (dE (gN 0) (dE (gN 1) j4))) (fc:=bT) (fe:=vr 1) (p:=λ_=>ZC) (h:=Kp) (λZ=>∃s0 s1,Z=[s0,s1]) ((qK P t).map λv=>T.tup [.int (t v),en v]) [.em,.em] ⟨_,_,rfl⟩ λu hu Z hh=>by
  obtain⟨s0,s1,rfl⟩:=hh;obtain⟨v,_,rfl⟩:=NA.mp hu;exact⟨[.va (.int (t v)),.va (en v)],rfl,⟨_,_,rfl⟩,rfl,rfl⟩
 rw[List.filter_eq_self.mpr (λ_ _=>rfl),N3]at e
 unfold eh;rw[gO (aO (ts:=[tq P t,eS P]) (au h7 (au h2 rfl)) (G5 t R.pos (by have:=R.pl;omega))),aF,if_pos (aA (k:=16) (by rw[Nc];exact hl)),h0,e]
 rfl
def EX{t:N2->Int}(h:Holds L t)(F:cR L P f):∀u∈ba P f,∀Z:En,(∃s0 s1,Z=[s0,s1,.va (Ez P t)])->∃Z1,gT 2 (dE (gN 0) (dE (gN 1) j4)) u Z=.ok Z1/\(∃s0 s1,Z1=[s0,s1,.va (Ez P t)])/\tb (o2 geT (o2 aN (vr 2) (vr 0)) (o2 aN (vr 2) (vr 1))) Z1=.ok ZD:=λu hu Z hh=>by
 obtain⟨s0,s1,rfl⟩:=hh;obtain⟨x,y,d,hx,hy,e,hd,rfl⟩:=jE hu
 have:=uT h F e;exact⟨[.va (en x),.va (en y),.va (Ez P t)],rfl,⟨_,_,rfl⟩,aZ (aB (t:=.int (t x)) (u:=.int (t y)) (j8 rfl rfl hx) (j8 rfl rfl hy) (by show Rs.ok (T.bl (decide (t x ≥ t y)))=_;rw[decide_eq_false (by omega)]))⟩
def Rd.lbs(R:Rd cs ls L P):eE [RR cs ls]=.ok (eL L):=by rw[Bo R.g.c R.g.l R.g.n,R.b];rfl
def JD{t:N2->Int}(g:Q.Pairwise λa b=>t a<=t b)(h2:vr 2 Z=.ok (eS Q))(h0:vr 0 Z=.ok (en a))(h1:vr 1 Z=.ok (en c))(ha:a∈Q)(hc:c∈Q)(lt:t a<t c):tb (o2 JH (oL eJ (vr 2) (vr 0)) (oL eJ (vr 2) (vr 1))) Z=.ok ZD:=by
 refine aZ (aB (t:=.int ((Q.idxOf a:Nat):Int)) (u:=.int ((Q.idxOf c:Nat):Int)) (Jv (ks:=Q.map en) (u:=en a) h2 h0 (qh a Q ha)) (Jv (ks:=Q.map en) (u:=en c) h2 h1 (qh c Q hc)) ?_)
 have:=JE g ha hc lt
 show Rs.ok (T.bl (decide (((Q.idxOf a:Nat):Int) > ((Q.idxOf c:Nat):Int))))=_
 rw[decide_eq_false (by omega)]
def pure_law(ns:List Int)(hn:ns.length<=63):m_law [.scr ns]=.ok (.bl ZC):=by
 obtain⟨cs,ls,er,hc,c3,hs,hl,l6⟩:=JO ns hn 0 5 (by omega)
 obtain⟨hR,mR⟩:=HX hc hs hl (by omega)
 have g:Good cs ls:=⟨hc,λt ht=>(hl t ht).1,by omega,B8 mR⟩
 obtain⟨L,P,R⟩:=wq g;refine bz rfl ?_
 show Es [.va (.scr ns),.em,.em,.em,.em,.em,.em,.em,.em,.em,.em,.em,.em,.em]=_
 obtain⟨hw,e,iff⟩:=R.MM;unfold Es;refine(ay (bS (aO (ts:=[.scr ns,.int 0,.int 5]) rfl er) rfl)).trans ?_
 cases hw with
 |false=>
  have nn:¬ cf L:=λz=>by have:=iff.mpr z;cases this
  have w:dH [RR cs ls]=.ok .non:=by
   rcases R.Mp with⟨_,e⟩|⟨n,_⟩
   ·exact e
   ·exact absurd n nn
  exact gi ((eZ (hV (k:=ZD) (aZ (aO (ts:=[RR cs ls]) rfl e)))).trans (bP (aB (t:=.non) (u:=.non) (aO (ts:=[RR cs ls]) rfl (ano0 w)) rfl rfl)))
 |true=>
  have n:cf L:=iff.mp rfl
  have F:cR L P (table P L):=xf R n
  obtain⟨t0,h0,wd⟩:∃t0,Holds L t0/\dH [RR cs ls]=.ok (tq P t0):=by
   rcases R.Mp with⟨n2,_⟩|⟨_,t,b,S,hb,e⟩
   ·exact absurd n n2
   ·exact⟨t,S.holds R.f.ends hb,e⟩
  have tb:fx [eS P,eL L]=.ok (d9 P (table P L)):=by
   obtain⟨t,h,e⟩:=Gw R.nd (by have:=R.pl;omega) R.f.ends
   rcases h with⟨_,_,rfl⟩|⟨z,_⟩
   ·exact e
   ·exact absurd n z
  refine(ay ((cu (hV (k:=ZC) (aZ (aO (ts:=[RR cs ls]) rfl e)))).trans rfl)).trans ?_
  refine(ay (bS (aO (ts:=[RR cs ls]) rfl R.events) rfl)).trans ?_
  refine(ay (bS (aO (ts:=[RR cs ls]) rfl R.lbs) rfl)).trans ?_
  refine(ay (bS (aO (ts:=[eS P,eL L]) rfl tb) rfl)).trans ?_
  refine(ay (bS (aO (ts:=[RR cs ls]) rfl (R.ME n F)) rfl)).trans ?_
  refine(ay ((cu (hV (k:=ZC) (aZ (aO (ts:=[.lst (ba P (table P L)),eS P]) rfl (R.MH F))))).trans rfl)).trans ?_
  refine yR (λZ=>∃s6 s7 s8 s9 s10 s11 s12,Z=E5 ns cs ls L P (table P L) s6 s7 s8 s9 s10 s11 s12 .em) (ts:=rng 0 2) rfl (λu hu Z hh=>?_) ⟨_,_,_,_,_,_,_,rfl⟩ λZ' hJ=>?_
  ·obtain⟨s6,s7,s8,s9,s10,s11,s12,rfl⟩:=hh
   obtain⟨k,rfl,hk⟩:=kn hu
   have hk:k=0\/k=1:=by omega
   obtain⟨t,h,dw⟩:=DX hn n F R.pl R.nd R.f.ends (80+20*k) (eL L);obtain⟨r1,a,ha,d1,i1⟩:=R.pick hn (120+2*k);obtain⟨r2,c,hc,d2,i2⟩:=R.pick hn (121+2*k);refine⟨E5 ns cs ls L P (table P L) (.va (.int (k:Nat))) s7 s8 s9 s10 s11 s12 .em,E5 ns cs ls L P (table P L) (.va (.int (k:Nat))) (.va (tq P t)) (.va (Ez P t)) (.va (eS (qK P t))) (.va (en a)) (.va (en c)) .em .em,rfl,?_,_,_,_,_,_,_,_,rfl⟩
   refine(ay (bS (aO (ts:=[.scr ns,.int ((80+20*k:Nat):Int),eS P,eL L,d9 P (table P L)]) (au rfl (au (by rcases hk with rfl|rfl <;> rfl) rfl)) dw) rfl)).trans ?_
   refine(ay (bS (aO (ts:=[eS P,tq P t]) rfl (R.dz t)) rfl)).trans ?_
   refine(ay ((cu (yL (LX (λZ=>∃s0 s1,Z=[s0,s1,.va (Ez P t)]) (ts:=ba P (table P L)) (gO rfl) (aA (tE R.pl)) ⟨_,_,rfl⟩ (EX h F)) nil_)).trans rfl)).trans ?_
   refine(ay (bS (aO (ts:=[RR cs ls,tq P t]) rfl (R.told t)) rfl)).trans ?_
   refine(ay ((cu (nR (aZ (aB (t:=eS (qK P t)) (u:=eS (qK P t)) rfl (Km R t rfl rfl rfl) (mi (sC _).1 (sC _).2))) (hV (k:=ZC) (aZ (aO (ts:=[RR cs ls,eS (qK P t)]) rfl (R.Mz (gL P t) h (yv P t))))))).trans rfl)).trans ?_
   refine(ay (bS (aB (t:=eS P) (u:=.int r1) rfl (aO (ts:=[.scr ns,.int ((120+2*k:Nat):Int),.int (P.length:Nat)]) (au rfl (au (by rcases hk with rfl|rfl <;> rfl) (au (yN rfl) rfl))) d1) i1) rfl)).trans ?_
   refine(ay (bS (aB (t:=eS P) (u:=.int r2) rfl (aO (ts:=[.scr ns,.int ((121+2*k:Nat):Int),.int (P.length:Nat)]) (au rfl (au (by rcases hk with rfl|rfl <;> rfl) (au (yN rfl) rfl))) d2) i2) rfl)).trans ?_
   refine(ay ((cu (Ji (R.Ms n F ha hc) rfl rfl rfl rfl ha hc h F)).trans rfl)).trans ?_
   refine(ay ((cu (Jj (R.once n F ha hc) rfl rfl rfl rfl ha hc h F)).trans rfl)).trans ?_
   refine(ay (rfl)).trans ?_
   refine(ay ((cu (aZ (aB (t:=.str (word (table P L) c a)) (u:=.str (word (table P L) c a)) (Jw (t:=.str (word (table P L) a c)) (aO (ts:=[RR cs ls,en a,en c]) rfl (R.MV n F ha hc)) (GN n F)) (aO (ts:=[RR cs ls,en c,en a]) rfl (R.MV n F hc ha)) (mi rfl (by simp[T.dep]))))).trans rfl)).trans rfl
  obtain⟨s6,s7,s8,s9,s10,s11,s12,rfl⟩:=hJ;refine(ay (bS (aO (ts:=[RR cs ls]) rfl (R.MX wd)) rfl)).trans ?_
  refine(ay ((cu (nR (aZ (aB (t:=eS (qK P t0)) (u:=eS (qK P t0)) rfl (aO (ts:=[RR cs ls,tq P t0]) (au rfl (au (aO (ts:=[RR cs ls]) rfl wd) rfl)) (R.told t0)) (mi (sC _).1 (sC _).2))) (hV (k:=ZC) (aZ (aO (ts:=[RR cs ls,eS (qK P t0)]) rfl (R.Mz (gL P t0) h0 (yv P t0))))))).trans rfl)).trans ?_
  refine(ay ((cu (yL (LX (λZ=>∃s0 s1,Z=[s0,s1,.va (eS (qK P t0))]) (ts:=ba P (table P L)) (gO rfl) (aA (tE R.pl)) ⟨_,_,rfl⟩ (λu hu Z hh=>by
   obtain⟨s0,s1,rfl⟩:=hh;obtain⟨x,y,d,hx,hy,e,hd,rfl⟩:=jE hu
   have:=uT h0 F e;exact⟨[.va (en x),.va (en y),.va (eS (qK P t0))],rfl,⟨_,_,rfl⟩,JD (yv P t0) rfl rfl rfl ((gL P t0).mem_iff.mpr hx) ((gL P t0).mem_iff.mpr hy) (by omega)⟩)) nil_)).trans rfl)).trans ?_
  obtain⟨u,eu,hu⟩:=sJ ns hn 130 cs hc;refine bP (aO (ts:=[RR cs ls,u,.lst (ba P (table P L))]) (au rfl (au (aO (ts:=[.scr ns,.int 130,.tup cs]) (au rfl (au rfl (au rfl rfl))) eu) rfl)) (R.keeps F (by omega) ?_))
  rcases hu with h|⟨h1,h2⟩
  ·exact .inl h
  ·exact .inr ⟨h1,B8 h2⟩
end G
end
open PySem PySem.W PyProof.Rows
set_option maxRecDepth 100000 in
set_option maxHeartbeats 0 in
theorem PySem.Challenge.cw_farclocks_k41_whole_orders_holds : PySem.Challenge.rw_farclocks_k41_whole_orders.Holds := by
  w_on; o_law
  refine holds_open (q :=G.vw) (loose :=G.lse) (Xt :=λ_ =>true) (XP :=λ_ _ =>True) (Yf :=(Tr.hookC G.asks G.top).obs) (Ya :=(Tr.hookC G.asks G.top).val) (YP :=(Tr.hookC G.asks G.top).says) (N :=9000) (Tr.left_of (by rfl) (by rfl) (λ_ =>rfl) λw os =>?hl) (Tr.hookC G.asks G.top).of (Tr.hookC G.asks G.top).keeps (λ_ _ =>trivial) (λ_ _ _ _ _ =>trivial) (by rfl) (by rfl) (by rfl) (λs _ =>recFacts_of (s :=s) rfl) (by rfl) (by assumption) (by decide +kernel) ⟨rfl, rfl, rfl, rfl, rfl, by decide +kernel⟩ ?hw ?hc
  case hl =>exact ((congrFun (congrFun (congrFun (congrFun (congrFun PySem.W.Fast.lhsz_eq w) _) _) _) os).trans (G.MQ w os)).trans (congrFun PySem.W.Fast.rhsz_eq w).symm
  case hw =>w_witness2
  case hc =>exact Tr.walk_c (n :=63) (k :=17) (x := "_law_script") (CX :=L2.CX0) (sp :=λK =>Tr.spP K 1 G.m_law) rfl (by decide) rfl ⟨rfl, by decide, by decide⟩ (λw K mg fa h X e g hf =>G.all_ok X e g hf) (λK H a ns hl _ hS =>Tr.sp_script hS (G.pure_law ns hl)) λ_ _ _ _ z =>z
