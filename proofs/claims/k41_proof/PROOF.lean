import PyProof.Rows.All
import Wide.All
import OpenK.AllK
import Wide.FinOn
import Lean
import PyProof.EqAt
import PyProof.EqKinds
import PyProof.TupleCall
import PyProof.ExcClass3
import PyProof.StationsW
import PyProof.ExcBaseAll.ValueError
import PyProof.ExcArgsOwn
import PyProof.IsiBase
import PyProof.IsiH_tuple
import PyProof.ExcAttrAll.ValueError
import PyProof.Rows.RuleN_isinstance
import PyProof.MeetsSeq
import PyProof.RulesAs
import PyProof.IsiH_list
import PyProof.AttrMiss
import KE.KDictOf
import PyProof.Rows.SumAny
import PyProof.Rows.MinMaxN
import PyProof.Rows.SortShellK
import PyProof.Rows.SortWalk
import PyProof.ZipIter
import PyProof.WalksMore
import PyProof.DictWalks
import PyProof.AutoSeq1
import PyProof.Rows.Range3
import PyProof.CollectWalk
import KE.KSortTup
import PyProof.EnumMake
import PyProof.ListRange
import KE.KRevIter
import PySem.Challenge.RW_farclocks_k41_whole_orders
variable{M a c ep i j kk l1 m n t' t2 x1:Nat}{Ty:String}{b f p t1 tt:Bool}{d s x y:Int}{g:Int->Int->Int}{hi lo:Option Int}{ks w:List Nat}{ns r:List Int}{α β κ:Type}
noncomputable section
open PySem.Challenge renaming pw_farclocks_k41_whole_orders→NX,rw_farclocks_k41_whole_orders→S1
open PySem.Builtin.SmallTypes renaming ownedTupleHandOut→Ph,ownedTupleIsFree→NO,nextOf→NT
open PySem.AutoListH renaming list___mul___list_int_3→UW
open PyProof.Rows renaming slot_tuple_getitem→OL,callWith_builtin1→Qy,get?_update_seq→Wd,callWith_type1→On,subscriptTail_builtinR→TL,KeyKind→Ut,KeysOf→UE,entry_tuple_getitem→UN,args_tuple_getitem→Vb,mapM_typeOf_ints→Wb,KK_mirror_equal→P5,oneTypeOnly'_eq→Wz,list_sort_plain→WA,get?_update_seq→WB,entry_list_sort→WC,pairsOf_toList→SV,listUpdate_at→RJ,firstOfTuple'→Ts,tupleItemsOf_→Vc,subscriptTail→Vd,wpS_forRange→R7,listItems_at→R8,mem_zip_self→VP,pairsOf_size→VQ,seqEpoch_at→Sy,sortedHeap→Q9,wpS_modify→VB,setPending→VC,SortedToK→Pj,pendingOf→Rg,wpS_bind→OV,wpS_pure→PC,failedOf→SJ,SortKind→Tq,IntsAre→PH,AllBare→To,NonIncK→UP,wpS_get→Wy,SortSt→Sv,Keyed→VA,IsTup→WD
open PySem.Builtin.Tuple renaming tupleCompareSizes→Vj,tupleItemsOf→SA,tupleIsExact→SB,tupleExact→PK
open PySem.F renaming args_dict_keyiterator_next_1→R1,entry_dict_keyiterator_next→Sd,slot_dict_keyiterator_next→Pk,args_tuple_iterator_next_1→Si,entry_tuple_iterator_next→Sq,slot_tuple_iterator_next→P7,excBase_ValueError→SC,slot_list_getattribute→Qu,args_tuple_add_2→Rq,slot_zip_getattribute→QH,entry_tuple_add→Ru,plainAttrs_list→Rv,args_dict_get_2→Ta,slot_tuple_add→RN,entry_dict_get→TF,slot_dict_get→RZ,slot_enumerate_next→TY,kt_typeCall_dict_1→Uv,args_object_init_3→Ux,plain_extend_loop→QJ,entry_extend_loop→UK,args_dict_init_2→UZ,args_zip_next_1→Q4,args_int_rmul_2→Vm,slot_tuple_rmul→Vo,entry_dict_init→Vq,args_zip_iter_1→Vs,plain_list_iadd→Vt,entry_zip_next→Rl,slot_tuple_mul→Tx,slot_int_index→VW,entry_int_rmul→VX,kt_called_dict→V0,entry_zip_iter→V4,typeCall_zip_2→V5,slot_dict_iter→V6,slot_zip_next→O8,slot_int_rmul→So,slot_zip_iter→Su,fills_int_mul→Wi,newCall_zip_2→Wp,entry_zip_new→Wq
open PySem renaming wpAny_typeNameOfWhole_keyiter→PQ,wpAny_newFunctionEnv_cells→SF,wpAny_binaryOp_repeat_ref→SQ,wpAny_typeNameOf_keyiter→Qx,wpAny_callSpecial?_slot→Og,wpAny_nextOf_list_item→RQ,wpAny_pyNext_list_item→TK,wpAny_Call_method_late→TM,builtinLookup_eq_fast→PJ,wpAny_notOrdered_dict→R6,wpAny_pyNext_list_end→Ub,codeAny_call_function→Ud,wpAny_isTrue_Compare1→Uh,wpAny_nextOf_list_end→Uj,wpAny_isOneOf_keyiter→Ul,wpAny_updateSeq_pair→Qo,wpAny_raiseAttrError→UA,codeAny_call_builtin→UB,mem_of_lookup→P3,wpAny_Call_Name_kw→OS,wpAny_setField_rec→O6,wpAny_pyIter_tuple→Qe,tupleKind_room_in1→Qi,wpAny_List_spliced→U8,sub_AttributeError→Vf,wpAny_dictSet_heap→Vg,foldedSetIterable→Ou,wpAny_newObj_type→OR,wpAny_truthy_bool→OY,wpAny_pyIter_list→Q7,wpAny_pyIter_slot→S8,wpAny_dictEntries→S9,wpAny_assign_Name→Vw,wpAny_sequenceKey→Vy,wpAny_pyIter_enum→Vz,wpAny_call_entry→Ol,wpAny_isInstance→Se,wpAny_eqBool_int→TB,noFill_tuple_add→TC,seqSlot_of→VZ,wpAny_execs_cons→V9,kt_code_dict_new→Wa,wpAny_loadPart'→Pp,codeAny_builtin→P4,typeLookup_type→Q1,letOwnedTupleGo→RI,wpAny_execs_nil→Sw,importedModules→Ua,pushCells_keeps→Ug,wpAny_specialOf→Ui,wpAny_dictEpoch→Uk,wpAny_updateSeq→Um,wpAny_passesOwn→Wu,wpAny_seqItems→Oz,wpAny_newTuple→Rh,wpAny_setField→SR,firstArgMember→SS,isSubtype_stop→SU,wpAny_holding→OJ,attributeBase→PB,wpAny_attempt→Qh,plainId_quiet→QK,behindInMarks→Q8,wpAny_onRaise→RL,wpAny_newList→Tt,swapsWithSole→U6,swappedStores→U7,seq_tuple_add→U9,comprehension→Ve,bootBuiltins→Oq,wpAny_typeOf→Qg,codeAny_mono→Uc,concat_meets→VM,callType_new→VO,wpAny_field→Of,mainGlobals→Oy,sizeLine_eq→O9,sliceBounds→RW,excClassObj→Sx,wpAny_letGo→Tu,subscripted→UO,keywordEach→Ww,wpAny_bind→Nq,wpAny_pure→Nz,wpAny_mono→Pu,assignEach→Pv,sysModules→P9,wpAny_rule→Qa,typeLookup→Qw,call_meets→Sj,builtinsNs→S7,typeIs_int→Ur,compareOp→OD,swapsWith→OQ,cellsFrom→QN,DictEntry→R4,tupleKind→R5,Arguments→T9,pushCells→Ue,treeTable→U5,starEach→NZ,binaryOp→PM,FuncData→PN,boot_len→Qj,NameKind→Q6,Program→N1,OsState→SO,BindsTo→Vx,Keyword→Wx,Shared→NB,Around→Os,IsPair→P6,IsPart→Va,Paired→Wt,Result→Wv,Value→NA,World→OF,Scope→Rp
open PySem.Builtin.Dict_items renaming ownsTuple→Sh
open PySem.Builtin.Slice renaming slicePartIndex→Wc,sliceApplied→Sz,slicePlaces→Qk,sliceAdjust→Re
open PySem.Builtin.List renaming listExtendWith→QR,listTooLong→Qp,listSameRef→S0,listItems→QP
open List renaming getElem?_append_right→Ra,nodup_iff_pairwise_ne→SE,getElem?_eq_some_iff→NN,drop_eq_getElem_cons→Px,pairwise_iff_getElem→Py,getElem?_append_left→Ql,getElem?_eq_none_iff→SL,getElem?_eq_getElem→NF,getElem?_cons_succ→Pn,getElem?_replicate→RA,length_eq_zero_iff→RE,pairwise_mergeSort→Te,getElem?_cons_zero→Tf,filter_cons_of_pos→Ti,filter_cons_of_neg→Tj,getElem?_set_self→NV,drop_eq_nil_of_le→QQ,take_of_length_le→TJ,mem_append_right→N7,getElem?_eq_none→O7,length_singleton→PF,set_getElem_self→TZ,take_append_drop→T5,mem_cons_of_mem→Nu,getElem?_set_ne→NW,mem_append_left→OZ,mem_of_getElem?→Qn,getElem?_of_mem→Uy,mem_erase_of_ne→Uz,map_congr_left→N6,replicate_succ→Pq,filterMap_cons→QC,getElem_of_mem→QD,mergeSort_perm→UI,drop_succ_cons→UM,mem_cons_self→Nv,length_append→NH,mem_singleton→NR,mem_filterMap→PL,zip_cons_cons→RB,forIn_toArray→RF,zip_nil_right→UV,getElem_range→U2,append_of_mem→U3,pairwise_cons→U4,size_toArray→NP,getElem?_map→NU,append_assoc→NY,nodup_append→OP,length_range→Pt,pairwise_map→P0,flatMap_cons→P2,flatten_cons→Qt,mapM_toArray→RU,any_eq_false→S2,zip_nil_left→Vl,ext_getElem?→Vu,length_cons→ND,all_eq_true→N9,not_mem_nil→Ox,getElem_mem→OG,lookup_cons→OK,length_drop→QL,mem_flatMap→QM,length_take→Ri,getElem_map→Rj,any_eq_true→Rk,zipIdx_cons→Sb,drop_length→VY,all_toArray→V1,map_fst_zip→V3,filter_cons→V7,length_map→Ny,mem_append→Oa,nodup_cons→Oc,map_append→Oe,length_set→OC,append_nil→OH,nil_append→OW,forIn_cons→Pl,length_nil→Qs,find?_cons→QZ,mem_filter→Rx,of_mem_zip→Ry,zipIdx_nil→RD,range_succ→T6,foldl_cons→Wh,idxOf_cons→Wr,head?_drop→Ws,replicate→N5,mem_range→Pa,forIn_nil→Pw,nodup_nil→PX,map_cons→Nx,mem_cons→NG,sum_cons→Pz,any_cons→QF,all_cons→UY,mem_map→NS,map_map→Oo,map_nil→QV,all_map→TV,zipWith→T4,toArray→VF,set_set→VJ,length→O0,lookup→Ro,map_id→Wl,Nodup→Oi,range→OU,foldl→S3,cons→RG,map→Uo
open Array renaming perm_iff_toList_perm→Rb,getElem?_eq_getElem→SN,getElem?_eq_none→RP,getElem?_toList→R0,getElem_toList→Uw,length_toList→Ob,find?_toList→UU,toList_map→V2,toList→SG
open PySem.Calls renaming Name_function_global→SD,call_function_entry→SM,callWith_builtin→RO,evalArgs_plain→Rc,spliced_cons→Qb,Constant_str→UT,spliced_nil→Qq
open Option renaming isSome_iff_exists→Qr,map_eq_some_iff→O5,isSome_some→UX,isSome_map→Vp,getD_none→VU,map_some→T3,some→OB
open PySem.Builtin.Dict renaming addKeywords→SY,selfAndRest→SZ,updateFrom→QB,pairItems→TH,showsAll→TR
open Int renaming eq_ofNat_of_zero_le→OI,emod_lt_of_pos→SI,toNat_natCast→ON,emod_nonneg→T8,le_antisymm→Wm,zero_sub→VL,le_refl→Po
open PySem.Heap renaming get?_push_of_some→Nr,get?_update_other→Pf,get?_update_self→QY,get?_push_size→NI,get?_update_ne→Ss,get?_push_ne→Qv,size_update→PP,NewAttrErr→Sr,size_push→Ov,lt_size→NJ,SameBut→QU,ExtBut→UH
open PySem.W renaming cellsFrom_some→RM,hideAll_none→Us,hideAll_get→Sm,of_hideAll→UQ,callWith_K→UR,codeRec_of→US,methodObj→SW,kitx_list→Vh,kitx_dict→Vi,openSeen→VR,openGood→VS,plainGet→VT,kia_one→Pg,topFrom→Sk,instObj→TN,hideAll→We,keepIn→RX,lookIn→UC,codeIn→UD,mg_of→Tb,Frag→Nt,nsIn→Rr,fnOf→RY
open PySem.Obj renaming isFreed_of_fields→TX,data_mapFields→RC,cls_mapFields→Vn,mapSeq→P8
open Bool renaming and_eq_false_iff→T7,and_eq_true_iff→PR,false_ne_true→N3,false_eq_true→N8,not_eq_true'→Vv,and_eq_true→NC,or_eq_true→Wj,true_and→RH,false_or→Td
open PySem.Around renaming under_plainId→Pd,units→R3
open Nat renaming le_sub_one_of_lt→Sf,sub_one_lt_of_lt→Sg,lt_of_lt_of_le→NK,lt_of_le_of_lt→Qc,lt_succ_of_lt→Pr,le_of_succ_le→Q3,le_of_lt_succ→S5,lt_trichotomy→S6,max_eq_right→Sa,le_of_not_lt→Tv,lt_succ_self→Tw,succ_le_succ→Tz,mod_eq_of_lt→V8,le_antisymm→Wn,lt_irrefl→N4,ne_of_lt→Oh,le_trans→Oj,le_of_lt→Pe,le_of_eq→PV,ne_of_gt→Qz,lt_or_ge→Rt,sub_self→SH,lt_trans→TU,sub_zero→T1,zero_add→T2,add_comm→VD,mul_comm→VE,min_self→VG,le_refl→NL,zero_le→O4,sub_le→Vr
open PySem.Value renaming notImplemented→Uu,isInt→UF,none→OA,type→OM,bool→Pb,ref→NQ,int→Pc,str→PD
open PySem.Heap.SameBut renaming update→Rm,refl→Vk
open PyProof.Rows.KeyOrd renaming kle_antisymm→UJ,kle_of_klt→S4,kle_trans→R9,kle_refl→Q0
open Option.some renaming injEq→RS,inj→Om
open List.Pairwise renaming nil→SX
open ForInStep renaming yield→QX
open List.cons renaming injEq→Sn
open Array.Perm renaming refl→TQ
open StateT renaming run_pure→Wo
open PySem.Expr renaming Subscript→PY,Attribute→Rf,Constant→Tg,ListComp→U1,Compare→VH,UnaryOp→VI,BoolOp→Qm,Name→Ot,Call→PU
open PySem.NameKind renaming free→OE,cell→Pm
open PySem.Paired renaming length→Rw
open PySem.Str renaming ofString→NM
open PySem.Stmt renaming Assign→RV
open PySem.Shared renaming heap→Tc
open PySem.Scope renaming names→Th
open PySem.Pos renaming endLine→UL,line→Q5
open Prod.mk renaming inj→Wf
open True renaming intro→PZ
open False renaming elim→Q2
open PySem.BoolOp renaming And→Uq,Or→U0
open PySem.Env renaming scope→Qd
open PyProof.Rows.IsTup renaming new→Wg
open Ne renaming symm→Rn
open Iff renaming rfl→RT
open Sum renaming inr→SK,inl→UG
open Option renaming some→ZA,none→ZB
open Bool renaming true→ZC,false→ZD
open PySem renaming Addr→ZE,Stmt→ZF,Expr→ZG,Heap→ZH,sizeLine→ZI,wpAny→ZJ,model→ZK,codeAny→ZL
set_option Elab.async false
set_option linter.all false
set_option maxRecDepth 100000
set_option maxHeartbeats 8000000
abbrev W0:=PySem.Str->Option NA
abbrev W1:=NA->NB->Prop
abbrev W2:=List (PySem.Addr×PySem.Obj)
variable{A:Os}{E Q:W1}{K:Nt}{P prog q:N1}{R:Wv->NB->Prop}{bm its us vs:List NA}{fd:PN}{k0:Tq}{os:SO}{res ux v vl vu:NA}{s s':NB}{sc scope:Rp}{st:Sv}{w:OF}
noncomputable section
abbrev nDb(x:PySem.Str):Prop:=(x == PySem.Str.ofString "__debug__")=ZD
def qr_(h:True:=by first|exact .inl rfl|exact .inr rfl|assumption):True:=trivial
def r_:=qr_._auto_1
def qs_(h:True:=by decide):True:=trivial
def s_:=qs_._auto_1
def qt_(h:True:=by intro _;rfl):True:=trivial
def t_:=qt_._auto_1
def qu_(h:True:=by rfl):True:=trivial
def u_:=qu_._auto_1
def qv_(h:True:=by first|exact Or.inl rfl|exact Or.inr (Or.inl rfl)|exact Or.inr (Or.inr rfl)):True:=trivial
def v_:=qv_._auto_1
def qw_(h:True:=by with_unfolding_all rfl):True:=trivial
def w_:=qw_._auto_1
def qx_(h:True:=by intro _ _;rfl):True:=trivial
def x_:=qx_._auto_1
def qy_(h:True:=by first|exact Or.inl rfl|exact Or.inr rfl):True:=trivial
def y_:=qy_._auto_1
def qz_(h:True:=by intro z;cases z):True:=trivial
def z_:=qz_._auto_1
def qa_(h:True:=by decide+kernel):True:=trivial
def a_:=qa_._auto_1
namespace L2
open PySem PySem.Spec PyProof.Rows
inductive V where
 |non|bl (b:Bool)|int (i:Int)|str (x:Str)|byt (b:Array UInt8)|flt (b:UInt64)|ref (a:ZE)|ty (n:String)
 deriving DecidableEq
def Gx(s:ZF)(j:Nat):ZF:=match s with
 |.ClassDef _ _ _ body _ _ _ _ _ _ _=>body.getD j (.Pass ⟨0,0,0,0⟩)
 |_=>.Pass ⟨0,0,0,0⟩
def ie(s:ZF):T9:=match s with
 |.FunctionDef _ a _ _ _ _ _ _ _ _=>a
 |_=>{posonlyargs:=[],args:=[],vararg:=ZB,kwonlyargs:=[],kw_defaults:=[],kwarg:=ZB,defaults:=[]}
def dP(s:ZF):List ZF:=match s with
 |.FunctionDef _ _ b _ _ _ _ _ _ _=>b
 |_=>[]
def ao(s:ZF):Rp:=match s with
 |.FunctionDef _ _ _ _ _ _ sc _ _ _=>sc
 |_=>{kind:=.function,names:=[],isGenerator:=ZD,isCoroutine:=ZD}
end L2
namespace Tr
open PySem PySem.Spec PyProof.Rows L2
inductive T where
 |non|bl (b:Bool)|int (i:Int)|str (x:Str)|tup (l:List T)|lst (l:List T)
 /-- the law's script: a list of ints that is only read -/
 |scr (l:List Int)
 /-- a dict: its keys,its values -/
 |dct (ks vs:List T)
 /-- an instance: its class,the names of its attributes,what they are -/
 |ob (C:Str) (ns:List Str) (ts:List T)
inductive OT where
 |lst (l:List T)|dct (ks ts:List T)|dd (ks:List T) (rows:List (List T×List T))
 /-- an instance,its attributes own lists -/
 |ob (C:Str) (ns:List Str) (ls:List (List T))
def OT.view:OT->T
 |.lst l=>.lst l
 |.dct ks ts=>.dct ks ts
 |.dd ks rows=>.dct ks (rows.map λr=>.dct r.1 r.2)
 |.ob C ns ls=>.ob C ns (ls.map T.lst)
def calmNames:List Str:=["__init__","__getattribute__","__getattr__","__class__"]
def B9:NA->Bool
 |.str _ _=>ZC
 |_=>ZD
def cz:List Int->List Int->Bool
 |[],[] =>ZD
 |[],_::_=>ZC
 |_::_,[] =>ZD
 |a::l,b::m=>if a=b then cz l m else decide (a<b)
structure RK where
 V:ZH->NA->List Int->Prop
 inj:∀{h v a b},V h v a->V h v b->a=b
 on:∀{h h':ZH} {v a},V h v a->(∀b o,h.get? b=ZA o->h'.get? b=ZA o)->V h' v a
 fst:∀{h v a},V h v a->∃ad xs n o m t,v=.ref ad/\h.get? ad=ZA o/\o.cls=.type "tuple"/\o.data=.seq xs n/\xs[0]?=ZA (.int m t)
 lt:∀{prog w A s E x y a b} {Q:Bool->NB->Prop},A.units+60<cLine->V s.heap x a->V s.heap y b->Q (cz a b) s->ZJ (ZK prog w) A (keyLt' (tuples' ZC) x y) Q E s
variable (R:RK)
open Classical in
def RK.key(h:ZH)(v:NA):Option (List Int):=if e:∃ns,R.V h v ns then ZA e.choose else ZB
variable {R:RK}
end Tr
namespace Tr
open PySem PySem.Spec PyProof.Rows L2 PySem.W
def xH(h:ZH):Frag:=(OU h.objs.size).filterMap λa=>(h.get? a).map λo=>(a,o)
def obF(K:Frag)(n:Str):Option (Str×Str×T9×FuncBody×Rp×ZE×List (Str×ZE)×NA×ZE×Bool×Bool):=match nsIn K Oy n with
 |some (ZA (.ref f))=>match K.lookup f with
  |some ⟨_,_,.func d,_⟩=>ZA (d.name,d.qualname,d.params,d.body,d.scope,d.globals,d.closure,d.defaults,d.builtins,codeIn K d.code n,keepIn K (.ref f))
  |_=>ZB
 |_=>ZB
def exF(n:Str)(st:ZF):Option (Str×Str×T9×FuncBody×Rp×ZE×List (Str×ZE)×NA×ZE×Bool×Bool):=
 ZA (n,n,ie st,.stmts (dP st),ao st,Oy,[],.none,S7,ZC,ZC)
def Lh(K:Frag)(N:ZE)(n:Str):Bool:=match nsIn K N n with|some ZB=>ZC|_=>ZD
def Ma(K:Frag)(n:Str):Option Int:=match nsIn K Oy n with|some (ZA (.int i _))=>ZA i|_=>ZB
def zA:List NA->Bool
 |[.type a,.type b,.type c,.type d] =>a == "ValueError" &&b == "Exception" &&c == "BaseException" &&d == "object"
 |_=>ZD
def B4(D:Option ZE)(m:List NA):Bool:=match D with
 |none=>zA m
 |some D=>match m with
  |.ref E::m=>E == D&&zA m
  |_=>ZD
def Ge(K:Frag)(D:Option ZE)(n:Str):Option ZE:=match nsIn K Oy n with
 |some (ZA (.ref C))=>match K.lookup C with
  |some ⟨.type t,_,.cls c,⟨[_,_,_,_,ZA (.builtin b),_]⟩⟩=>match c.mro,K.lookup c.ns with
   |.ref E::m,ZA ⟨_,_,.dict es _,_⟩=>
    if (t == "type" &&b == "ValueError.__new__" && !c.hasDel&&(es.toList.all λe=>B9 e.key)&&calmNames.all (Lh K c.ns)&&E == C&&B4 D m)=ZC then ZA C else ZB
   |_,_=>ZB
  |_=>ZB
 |_=>ZB
def zi{α:Type}:List (Option α)->Option (List α)
 |[] =>ZA []
 |none::_=>ZB
 |some a::r=>match zi r with|some l=>ZA (a::l)|none=>ZB
def uB:List ZE->Bool
 |[] =>ZC
 |a::r=>(r.all λb=>!(a == b))&&uB r
def L9(K:Frag):List Str->Bool
 |[] =>ZC
 |m::es=>match Ge K ZB m with
  |some D=>match zi (es.map (Ge K (ZA D)))with|some l=>uB (l++[D])|none=>ZD
  |none=>ZD
structure ED where
 tab:List (Str×Nat)
 zs:List Str
 cs:List (Str×Int)
 es:List Str
def wV(S:ED)(K:Frag):=(S.tab.map (λp=>obF K p.1),S.zs.all (Lh K Oy),S.cs.map (λc=>Ma K c.1),L9 K S.es)
def vS(S:ED)(top:Nat->ZF):=(S.tab.map (λp=>exF p.1 (top p.2)),ZC,S.cs.map (λc=>ZA c.2),ZC)
def obM(K:Frag)(C:ZE)(m q:Str):Option (Str×Str×T9×FuncBody×Rp×ZE×List (Str×ZE)×NA×ZE×Bool×Bool×Bool):=match findIn K (.ref C) m with
 |some (ZA (.ref f))=>match K.lookup f with
  |some ⟨_,_,.func d,_⟩=>ZA (d.name,d.qualname,d.params,d.body,d.scope,d.globals,d.closure,d.defaults,d.builtins,codeIn K d.code q,keepIn K (.ref f),isFn K (.ref f))
  |_=>ZB
 |_=>ZB
def exM(m q:Str)(st:ZF):Option (Str×Str×T9×FuncBody×Rp×ZE×List (Str×ZE)×NA×ZE×Bool×Bool×Bool):=
 ZA (m,q,ie st,.stmts (dP st),ao st,Oy,[],.none,S7,ZC,ZC,ZC)
def noAt(K:Frag)(C:ZE)(f:Str):Bool:=match findIn K (.ref C) f with|some ZB=>ZC|_=>ZD
def saOk(K:Frag)(C:ZE):Bool:=match findIn K (.ref C) "__setattr__" with|some (ZA (.builtin b))=>b == "object.__setattr__" |_=>ZD
def LM(K:Frag)(C:ZE)(as:List Str):Bool:=plainGet K C Str.empty&&hasDictIn K C&&plainOver K C&&saOk K C&&makesIn K C&&keepIn K (.ref C)&&as.all (noAt K C)
structure Ka where
 c:Str
 i:Nat
 as:List Str
 ms:List (Str×Str×Nat)
def obK(K:Frag)(A:Ka):=match nsIn K Oy A.c with
 |some (ZA (.ref C))=>ZA (LM K C A.as,A.ms.map λ(m:Str×Str×Nat)=>obM K C m.1 m.2.1)
 |_=>ZB
def exK(top:Nat->ZF)(A:Ka):=ZA (ZC,A.ms.map λ(m:Str×Str×Nat)=>exM m.1 m.2.1 (Gx (top A.i) m.2.2))
structure xY where
 a:ED
 ks:List Ka
def C2(S:xY)(K:Frag):=(wV S.a K,S.ks.map (obK K))
def B3(S:xY)(top:Nat->ZF):=(vS S.a top,S.ks.map (exK top))
end Tr
namespace G
open PySem PySem.Spec PyProof.Rows L2 Tr
def top(i:Nat):ZF:=NX.main.body.getD i (.Pass ⟨0,0,0,0⟩)
def Eo:ED:=⟨([("_law_cell",60),("_law_drawn",61),("_law_events",64),("_law_letter",63),("_law_clock",62),("_law_record",65),("is_long",14),("is_whole",12),("is_within",13),("is_pace",17),("rises",15),("are_readings",16),("is_clock",18),("are_clocks",19),("is_event",20)]:List (Str×Nat))++([("is_delay",21),("is_letter",22),("are_letters",23),("is_record",24),("need_record",25),("events",27),("_law_bounds",66),("_law_table",67),("is_better",34),("settle",33),("greatest_world",36),("bounds_of_clock",29),("bounds_of_letter",30),("bounds",31),("world",37)]:List (Str×Nat))++([("has_world",38),("need_world",39),("walks_from",42),("most_of",43),("all_most",46),("sure_pairs",52),("told_order",53),("an_order",54),("if_record",57),("with_letter",58),("_law_keeps",71),("_law_lead_on",70),("_law_drawn_world",69),("need_event",26),("need_events",41)]:List (Str×Nat))++([("most_between",44),("least_between",45),("surely_ahead",48),("maybe_ahead",49),("verdict",51),("fits_order",55),("maybe_at_once",50),("law",72)]:List (Str×Nat)),(["all","bool","dict","enumerate","int","isinstance","len","max","min","range","sorted","tuple","zip"]:List Str),[("MOST_CLOCKS",4),("MOST_LETTERS",8),("MOST_READINGS",4),("LAST_READING",99),("SLOWEST",9),("LONGEST",999)],["ClockError","NoRecord","NoEvent","NoWorld"]⟩
def asks:xY:=⟨Eo,[]⟩
def vw:N1:=PySem.W.view NX [72]
def lse:List Str:=(["ClockError","NoRecord","NoEvent","NoWorld","MOST_CLOCKS","MOST_LETTERS","MOST_READINGS","LAST_READING","SLOWEST","LONGEST","is_whole","is_within","is_long","rises","are_readings","is_pace","is_clock","are_clocks","is_event","is_delay"]:List Str)++(["is_letter","are_letters","is_record","need_record","need_event","events","bounds_of_clock","bounds_of_letter","bounds","settle","is_better","greatest_world","world","has_world","need_world","need_events","walks_from","most_of","most_between","least_between"]:List Str)++(["all_most","surely_ahead","maybe_ahead","maybe_at_once","verdict","sure_pairs","told_order","an_order","fits_order","if_record","with_letter","_law_cell","_law_drawn","_law_clock","_law_letter","_law_events","_law_record","_law_bounds","_law_table","_law_world"]:List Str)++(["_law_drawn_world","_law_lead_on","_law_keeps"]:List Str)
def lhs(w:OF)(h:ZH)(d:Drawn)(t:Nat)(os:SO):=(Sk U5 NX w 9000 ⟨h,⟨[]⟩,d,t,os⟩).map (λs=>(VR vw lse (Ua NX.main.body) (λ_=>ZC) ZC s,C2 asks (xH s.heap)))
def rhs(w:OF):=ZA (VS vw lse,B3 asks top)
open PySem.W
def lhA(w:OF)(h:ZH)(d:Drawn)(t:Nat)(os:SO):=(Sk U5 NX w 9000 ⟨h,⟨[]⟩,d,t,os⟩).map λs=>VR vw lse (Ua NX.main.body) (λ_=>ZC) ZC s
def rhA(_:OF):=ZA (VS vw lse)
def lhA_r:lhA=lhA:=rfl
def rhA_r:rhA=rhA:=rfl
def lhB(w:OF)(h:ZH)(d:Drawn)(t:Nat)(os:SO):=(Sk U5 NX w 9000 ⟨h,⟨[]⟩,d,t,os⟩).map λs=>wV asks.a (xH s.heap)
def rhB(_:OF):=ZA (vS asks.a top)
def lhB_r:lhB=lhB:=rfl
def rhB_r:rhB=rhB:=rfl
def lhC(w:OF)(h:ZH)(d:Drawn)(t:Nat)(os:SO):=(Sk U5 NX w 9000 ⟨h,⟨[]⟩,d,t,os⟩).map λs=>asks.ks.map (obK (xH s.heap))
def rhC(_:OF):=ZA (asks.ks.map (exK top))
def lhC_r:lhC=lhC:=rfl
def rhC_r:rhC=rhC:=rfl
def join3{γ δ:Type}{o:Option α}{f:α->β}{g:α->γ}{k:α->δ}{a:β}{b:γ}{c:δ}(h1:o.map f=ZA a)(h2:o.map g=ZA b)(h3:o.map k=ZA c):o.map (λs=>(f s,g s,k s))=ZA (a,b,c):=by
 cases o with
 |none=>cases h1
 |some s=>cases h1;cases h2;cases h3;rfl
end G
lay_quick G.lhA G.rhA G.lhB G.rhB G.lhC G.rhC
name_quick lhAz for G.lhA by G.lhA_r
name_quick rhAz for G.rhA by G.rhA_r
name_quick lhBz for G.lhB by G.lhB_r
name_quick rhBz for G.rhB by G.rhB_r
name_quick lhCz for G.lhC by G.lhC_r
name_quick rhCz for G.rhC by G.rhC_r
section
open PySem PySem.W PyProof.Rows
set_option maxRecDepth 100000 in
theorem G.Na(w:OF)(os:SO):PySem.W.Fast.lhAz w (boot_heap w.params) boot_drawn boot_toks os=PySem.W.Fast.rhAz w:=by kernel_rfl
set_option maxRecDepth 100000 in
theorem G.Nb(w:OF)(os:SO):PySem.W.Fast.lhBz w (boot_heap w.params) boot_drawn boot_toks os=PySem.W.Fast.rhBz w:=by kernel_rfl
set_option maxRecDepth 100000 in
theorem G.Nd(w:OF)(os:SO):PySem.W.Fast.lhCz w (boot_heap w.params) boot_drawn boot_toks os=PySem.W.Fast.rhCz w:=by kernel_rfl
def G.M8(w:OF)(os:SO):G.lhs w (boot_heap w.params) boot_drawn boot_toks os=G.rhs w:=G.join3 (((congrFun (congrFun (congrFun (congrFun (congrFun PySem.W.Fast.lhAz_eq w) _) _) _) os).trans (G.Na w os)).trans (congrFun PySem.W.Fast.rhAz_eq w).symm) (((congrFun (congrFun (congrFun (congrFun (congrFun PySem.W.Fast.lhBz_eq w) _) _) _) os).trans (G.Nb w os)).trans (congrFun PySem.W.Fast.rhBz_eq w).symm) (((congrFun (congrFun (congrFun (congrFun (congrFun PySem.W.Fast.lhCz_eq w) _) _) _) os).trans (G.Nd w os)).trans (congrFun PySem.W.Fast.rhCz_eq w).symm)
end
namespace L2
open PySem PySem.Spec PyProof.Rows
abbrev Key:=Sum Int Str
def sr:Key->NA->Bool
 |.inl k,v=>UF k v
 |.inr x,v=>Value.isStrOf x v
def keyH(w:OF):Key->Int
 |.inl k=>hashInt k
 |.inr x=>hashStr w x
theorem cX:∀{k:Key}{v:NA},sr k v=ZC->(∃i t,k=UG i/\v=Pc i t)\/(∃x t,k=SK x/\v=PD x t)
 |.inl i,v,h=>by
  obtain⟨t,e⟩:=Value.isInt_shape (k:=i) (v:=v) h
  exact .inl ⟨i,t,rfl,e⟩
 |.inr x,v,h=>by
  obtain⟨t,e⟩:=Value.isStrOf_shape (x:=x) (v:=v) h;exact .inr ⟨x,t,rfl,e⟩
def Bi(i:Int)(t:Tok):sr (.inl i) (.int i t)=ZC:=by simp[sr,UF]
def Bh(x:Str)(t:Tok):sr (.inr x) (.str x t)=ZC:=by simp[sr,Value.isStrOf]
def Jz(a b:Int):decide ((UG a:Key)=UG b)=(a == b):=by
 by_cases e:a=b
 ·subst e;simp
 ·have h:¬ (UG a:Key)=UG b:=λq=>e (UG.inj q)
  rw[decide_eq_false h];exact(beq_eq_false_iff_ne.mpr e).symm
def Jv(a b:Str):decide ((SK a:Key)=SK b)=decide (a=b):=by
 by_cases e:a=b
 ·subst e;simp
 ·have h:¬ (SK a:Key)=SK b:=λq=>e (SK.inj q)
  rw[decide_eq_false h,decide_eq_false e]
def Jy(a:Int)(b:Str):decide ((UG a:Key)=SK b)=ZD:=decide_eq_false (λq=>nomatch q)
def Jw(a:Str)(b:Int):decide ((SK a:Key)=UG b)=ZD:=decide_eq_false (λq=>nomatch q)
def cp(prog:N1)(w:OF):PySem.KeyKind prog w Key where
 is:=sr
 hash:=keyH w
 inj:=λv a b ha hb=>by
  rcases cX ha with⟨i,t,rfl,rfl⟩|⟨x,t,rfl,rfl⟩
  ·rcases cX hb with⟨j,u,rfl,e⟩|⟨y,u,rfl,e⟩
   ·injection e with e1 _;rw[e1]
   ·exact nomatch e
  ·rcases cX hb with⟨j,u,rfl,e⟩|⟨y,u,rfl,e⟩
   ·exact nomatch e
   ·injection e with e1 _;rw[e1]
 byValue:=λk v h=>by
  rcases cX h with⟨i,t,rfl,rfl⟩|⟨x,t,rfl,rfl⟩ <;> rfl
 pyHash:=λhv h=>by
  rcases cX hv with⟨i,t,rfl,rfl⟩|⟨x,t,rfl,rfl⟩
  ·exact wpAny_pyHash_int h
  ·exact wpAny_pyHash_str h
 eqBool:=λhu hv h=>by
  rcases cX hu with⟨i,t,rfl,rfl⟩|⟨x,t,rfl,rfl⟩
  ·rcases cX hv with⟨j,u,rfl,rfl⟩|⟨y,u,rfl,rfl⟩
   ·rw[Jz]at h;exact TB h
   ·rw[Jy]at h;exact SeqAt.EqAt.int_str i t y u _ _ _ _ h
  ·rcases cX hv with⟨j,u,rfl,rfl⟩|⟨y,u,rfl,rfl⟩
   ·rw[Jw]at h;exact SeqAt.EqAt.str_int x t j u _ _ _ _ h
   ·rw[Jv]at h;exact wpAny_eqBool_str h
 «strs»:=λk x t v h=>by
  rcases cX h with⟨i,u,rfl,e⟩|⟨y,u,rfl,e⟩
  ·exact nomatch e
  ·injection e with e1 _
   subst e1;cases v <;> rfl
def xk(prog:N1)(w:OF)(i:Int)(t:Tok):(cp prog w).is (.inl i) (.int i t)=ZC:=Bi i t
def xj(prog:N1)(w:OF)(x:Str)(t:Tok):(cp prog w).is (.inr x) (.str x t)=ZC:=Bh x t
def RelV:V->NA->Prop
 |.non,u=>u=OA
 |.bl b,u=>u=Pb b
 |.int i,u=>∃t,u=Pc i t
 |.str x,u=>∃t,u=PD x t
 |.byt b,u=>∃t,u=Value.bytes b t
 |.flt b,u=>∃t,u=Value.float b t
 |.ref a,u=>u=NQ a
 |.ty n,u=>u=OM n
abbrev Vals:List V->List NA->Prop:=Wt RelV
variable{xs:List V}
def Vals.length(r:Vals xs us):xs.length=us.length:=Rw r
theorem Vals.get:∀{xs:List V}{us:List NA}{i:Nat}{x:V},Vals xs us->xs[i]?=ZA x->∃u,us[i]?=ZA u/\RelV x u
 |_,_,_,_,.nil,e=>by simp at e
 |_,_,0,_,.cons r _,e=>by simp at e;subst e;exact⟨_,rfl,r⟩
 |_,_,i+1,x,.cons _ t,e=>by
  obtain⟨u,h1,h2⟩:=Vals.get (i:=i) (x:=x) t (by simpa using e)
  exact⟨u,by simpa using h1,h2⟩
theorem Vals.append:∀{xs ys:List V}{us ws:List NA},Vals xs us->Vals ys ws->Vals (xs++ys) (us++ws)
 |_,_,_,_,.nil,s=>s
 |_,_,_,_,.cons r t,s=>.cons r (Vals.append t s)
theorem Vals.take:∀{xs:List V}{us:List NA}(n:Nat),Vals xs us->Vals (xs.take n) (us.take n)
 |_,_,0,_=>.nil
 |_,_,_+1,.nil=>.nil
 |_,_,n+1,.cons r t=>.cons r (Vals.take n t)
theorem Vals.drop:∀{xs:List V}{us:List NA}(n:Nat),Vals xs us->Vals (xs.drop n) (us.drop n)
 |_,_,0,r=>r
 |_,_,_+1,.nil=>.nil
 |_,_,n+1,.cons _ t=>Vals.drop n t
def RelO:Option V->Option NA->Prop
 |some v,ZA u=>RelV v u
 |none,ZB=>True
 |_,_=>False
def KV{κ:Type}:List (κ×V)->List (κ×NA)->Prop:=Wt λ(p:κ×V)(q:κ×NA)=>p.1=q.1/\RelV p.2 q.2
def kV:Key->V
 |.inl i=>.int i
 |.inr x=>.str x
inductive HO where
 /-- a list -/
 |lst (xs:List V)
 /-- a tuple (never changes) -/
 |tup (xs:List V)
 /-- a dict whose keys are ints and texts;one whose keys are tuples of ints and texts (the empty one is both) -/
 |dK (kvs:List (Key×V))|dT (kvs:List (List Key×V))
 /-- a set of ints: its members,its size -/
 |set (S:Int->Bool) (n:Nat)
 /-- an instance of the class at C,its dict at dx,its attributes -/
 |ins (C dx:ZE) (fs:List (Str×V))
 /-- the dict of the instance at x -/
 |own (x:ZE)
 /-- the dict of an exception -/
 |xd (fs:List (Str×V))
 /-- a bound method,f of x -/
 |met (f x:ZE)
 /-- a range object lo,lo+1,.. below hi -/
 |rng (lo hi:Int)
 /-- a thing that is known to the object (the script;a dict while a loop walks it): read,never written while it is so -/
 |frz (o:Obj) (u:HO)
 /-- a code object's table -/
 |tbl (ps:Array NA)
 /-- any other thing,by what is ZC of its one object (a def of one's own: SetO a S n:=HO.ext λh=>..) -/
 |ext (φ:ZH->Prop)
abbrev Hp:=ZE->Option HO
def upd(H:Hp)(a:ZE)(o:HO):Hp:=λb=>if b=a then ZA o else H b
variable{H:Hp}{a:ZE}
def aI{o:HO}:upd H a o a=ZA o:=by unfold upd;rw[if_pos rfl]
variable{b:ZE}
def aG{o:HO}(h:b≠a):upd H a o b=H b:=by unfold upd;rw[if_neg h]
def i6{o u:HO}:upd (upd H a o) a u=upd H a u:=by
 funext b;unfold upd;split <;> rfl
def j5{o u:HO}(h:H a=ZA o)(h':H b=ZA u)(d:o≠u):a≠b:=by
 intro e;subst e;rw[h]at h';exact d (Om h')
def cH{o:HO}(h:H a=ZA o)(h':H b=ZB):a≠b:=by
 intro e;subst e;rw[h]at h';cases h'
section
variable (P:N1)(w:OF)
def ObjOk(H:Hp)(h:ZH)(a:ZE):HO->Prop
 |.lst xs=>xs.length<=ZI/\∃(its:List NA)(n:Nat),Vals xs its/\h.get? a=ZA {cls:=.type "list",data:=.seq its.toArray n}
 |.tup xs=>xs.length<=ZI/\∃its:List NA,Vals xs its/\WD h a its.toArray
 |.dK kvs=>kvs.length<=ZI/\(a == P9)=ZD/\∃vs,KV kvs vs/\h.DictOf (cp P w) a vs
 |.dT kvs=>kvs.length<=ZI/\(a == P9)=ZD/\∃xs:List (List Key×ZE×NA),
   Wt (λ(p:List Key×V)(q:List Key×ZE×NA)=>p.1=q.1/\H q.2.1=ZA (.tup (p.1.map kV))/\RelV p.2 q.2.2) kvs xs ∧
   ∃o es ep,h.get? a=ZA o/\o.ExactDict/\o.data=.dict es ep/\es.toList=xs.map (entryOfKey (R5 (cp P w)))/\(xs.map (·.1)).Nodup
 |.set S n=>h.SetOf (intKind P w) a S n
 |.ins C dx fs=>H dx=ZA (.own a)/\fs.length<=1000/\dx≠a/\h.get? a=ZA (TN C dx) ∧
   ∃mA,h.Ns1 dx mA/\(∀f,RelO (fs.lookup f) (mA f))/\PySem.Within mA (fs.map (·.1))
 |.own _=>∃o,h.get? a=ZA o
 |.xd fs=>∃mA,h.Ns1 a mA/\∀f,RelO (fs.lookup f) (mA f)
 |.rng lo hi=>∃t u v,h.get? a=ZA {cls:=.type "range",data:=.fields #[.int lo t,.int hi u,.int 1 v]}
 |.frz o u=>h.get? a=ZA o/\ObjOk H h a u
 |.tbl ps=>h.get? a=ZA {cls:=.none,data:=.fields ps}
 |.met f x=>h.get? a=ZA (SW (.ref f) (.ref x))
 |.ext φ=>φ h/\(∃o,h.get? a=ZA o)/\∀h1 h2:ZH,φ h1->(∀o,h1.get? a=ZA o->h2.get? a=ZA o)->φ h2
def HOk(H:Hp)(h:ZH):Prop:=∀a o,H a=ZA o->ObjOk P w H h a o
end
variable{H':Hp}{h h':ZH}
section
variable {o:HO}
theorem ObjOk.lt(x:ObjOk P w H h a o):a<h.objs.size:=by
 cases o with
 |lst xs=>obtain⟨_,_,_,_,e⟩:=x;exact NJ e
 |tup xs=>obtain⟨_,_,_,p⟩:=x;exact p.lt
 |dK kvs=>obtain⟨_,_,_,_,o,_,_,e,_⟩:=x;exact NJ e
 |dT kvs=>obtain⟨_,_,_,_,o,_,_,e,_⟩:=x;exact NJ e
 |set S n=>obtain⟨o,_,_,_,e,_⟩:=x;exact NJ e
 |ins C dx fs=>obtain⟨_,_,_,e,_⟩:=x;exact NJ e
 |own y=>obtain⟨_,e⟩:=x;exact NJ e
 |xd fs=>obtain⟨_,⟨_,_,_,e,_⟩,_⟩:=x;exact NJ e
 |rng lo hi=>obtain⟨_,_,_,e⟩:=x;exact NJ e
 |frz ob u=>obtain⟨e,_⟩:=x;exact NJ e
 |tbl ps=>exact NJ (show h.get? a=ZA _ from x)
 |met f y=>exact NJ (show h.get? a=ZA _ from x)
 |ext φ=>obtain⟨_,⟨_,e⟩,_⟩:=x;exact NJ e
theorem Paired.MW{F G:α->β->Prop}:∀{l₁:List α}{l₂:List β},Wt F l₁ l₂->(∀a b,F a b->G a b)->Wt G l₁ l₂
 |_,_,.nil,_=>.nil
 |_,_,.cons r t,f=>.cons (f _ _ r) (Paired.MW t f)
def ObjOk.Mm(x:ObjOk P w H h a o)(k:∀b u,(b=a\/H b=ZA (.own a))->h.get? b=ZA u->h'.get? b=ZA u)
  (ho:∀b,H b=ZA (.own a)->H' b=ZA (.own a)) (ht:∀b xs,H b=ZA (.tup xs)->H' b=ZA (.tup xs)):ObjOk P w H' h' a o:=by
 induction o with
 |lst xs=>obtain⟨z,its,n,r,e⟩:=x;exact⟨z,its,n,r,k _ _ (.inl rfl) e⟩
 |tup xs=>obtain⟨z,its,r,ob,e,c⟩:=x;exact⟨z,its,r,ob,k _ _ (.inl rfl) e,c⟩
 |dK kvs=>obtain⟨z,y,vs,r,ob,es,ep,e,c⟩:=x;exact⟨z,y,vs,r,ob,es,ep,k _ _ (.inl rfl) e,c⟩
 |dT kvs=>
  obtain⟨z,y,xs,r,ob,es,ep,e,c⟩:=x
  exact⟨z,y,xs,Paired.MW r λp q z=>⟨z.1,ht _ _ z.2.1,z.2.2⟩,ob,es,ep,k _ _ (.inl rfl) e,c⟩
 |set S n=>obtain⟨ob,es,ep,t,e,c⟩:=x;exact⟨ob,es,ep,t,k _ _ (.inl rfl) e,c⟩
 |ins C dx fs=>
  obtain⟨d,z,ne,e,mA,⟨od,es,ep,e2,c⟩,r⟩:=x
  exact⟨ho _ d,z,ne,k _ _ (.inl rfl) e,mA,⟨od,es,ep,k _ _ (.inr d) e2,c⟩,r⟩
 |own y=>obtain⟨ob,e⟩:=x;exact⟨ob,k _ _ (.inl rfl) e⟩
 |xd fs=>obtain⟨mA,⟨od,es,ep,e,c⟩,r⟩:=x;exact⟨mA,⟨od,es,ep,k _ _ (.inl rfl) e,c⟩,r⟩
 |rng lo hi=>obtain⟨t,u,v,e⟩:=x;exact⟨t,u,v,k _ _ (.inl rfl) e⟩
 |frz ob u ih=>obtain⟨e,q⟩:=x;exact⟨k _ _ (.inl rfl) e,ih q⟩
 |tbl ps=>
  have e:h.get? a=ZA {cls:=.none,data:=.fields ps}:=x
  show h'.get? a=ZA {cls:=.none,data:=.fields ps}
  exact k a _ (.inl rfl) e
 |met f y=>
  have e:h.get? a=ZA (SW (.ref f) (.ref y)):=x
  show h'.get? a=ZA (SW (.ref f) (.ref y))
  exact k a _ (.inl rfl) e
 |ext φ=>obtain⟨p,⟨o,e⟩,st⟩:=x;exact⟨st _ _ p λo q=>k _ _ (.inl rfl) q,⟨o,k _ _ (.inl rfl) e⟩,st⟩
theorem HOk.lt(x:HOk P w H h)(e:H a=ZA o):a<h.objs.size:=(x a o e).lt
def HOk.fresh(x:HOk P w H h)(e:h.objs.size<=a):H a=ZB:=by
 cases q:H a with
 |none=>rfl
 |some u=>exact absurd (NK (x.lt q) e) (N4 _)
def HOk.kept(x:HOk P w H h)(k:∀b u,h.get? b=ZA u->h'.get? b=ZA u):HOk P w H h':=λa o e=>
 (x a o e).Mm (λb u _ q=>k b u q) (λ_ q=>q) λ_ _ q=>q
def HOk.laid(x:HOk P w H h)(k:∀b u,h.get? b=ZA u->h'.get? b=ZA u)(hp:h.objs.size<=a)(new:ObjOk P w (upd H a o) h' a o):HOk P w (upd H a o) h':=λb u e=>by
 have hn:=x.fresh hp
 by_cases hb:b=a
 ·subst hb;rw[aI]at e;cases e;exact new
 ·rw[aG hb]at e
  exact(x b u e).Mm (λc v _ q=>k c v q) (λc q=>by rw[aG (cH q hn)];exact q) λc xs q=>by rw[aG (cH q hn)];exact q
end
def Rd(H:Hp)(a:ZE)(u:HO):Prop:=H a=ZA u\/∃o,H a=ZA (.frz o u)
def Rd.ok{u:HO}(r:Rd H a u)(x:HOk P w H h):ObjOk P w H h a u:=by
 rcases r with r|⟨o,r⟩
 ·exact x a u r
 ·obtain⟨_,q⟩:=x a _ r
  exact q
def LV:Option HO->Prop
 |some (.lst _)=>True
 |some (.dK _)=>True
 |some (.dT _)=>True
 |some (.set _ _)=>True
 |some (.ins _ _ _)=>True
 |some (.ext _)=>True
 |_=>False
variable{e:ZE}
section
variable {x:ZE}{o':HO}
def HOk.write(ok:HOk P w H h)(mu:LV (H x))(he:e=x\/H e=ZA (.own x))(k:∀b u,b≠e->h.get? b=ZA u->h'.get? b=ZA u)(heo:∃u,h'.get? e=ZA u)
  (new:ObjOk P w (upd H x o') h' x o'):HOk P w (upd H x o') h':=λb u q=>by
 have nown:∀c y,H c=ZA (.own y)->c≠x:=λc y r z=>by subst z;rw[r]at mu;exact mu
 have ntup:∀c xs,H c=ZA (.tup xs)->c≠x:=λc xs r z=>by subst z;rw[r]at mu;exact mu
 by_cases hb:b=x
 ·subst hb;rw[aI]at q;cases q;exact new
 ·rw[aG hb]at q
  by_cases hbe:b=e
  ·have q':H b=ZA (.own x):=by
    rcases he with z|z
    ·exact absurd (hbe.trans z) hb
    ·rw[hbe];exact z
   rw[q]at q';cases q';obtain⟨v,hv⟩:=heo;exact⟨v,by rw[hbe];exact hv⟩
  ·refine(ok b u q).Mm (λc v hc r=>k c v ?_ r) (λc r=>by rw[aG (nown c b r)];exact r) λc xs r=>by rw[aG (ntup c xs r)];exact r
   rcases hc with rfl|hc
   ·exact hbe
   ·rintro rfl
    rcases he with z|z
    ·exact nown c b hc z
    ·rw[hc]at z;cases z;exact hb rfl
end
structure Un (fs ex:List ZE)(H H':Hp)(h h':ZH):Prop where
 keep:∀b o,h.get? b=ZA o->H b=ZB->b∉fs->b∉ex->h'.get? b=ZA o
 slot:∀b o,h.get? b=ZA o->H b=ZB->b∈fs->b∉ex->∃sl,h'.get? b=ZA {o with slots:=sl}
 free:∀b o,h.get? b=ZA o->H b=ZB->b∉ex->H' b=ZB
 there:∀b o,h.get? b=ZA o->b∉ex->∃o',h'.get? b=ZA o'
 tups:∀b xs,H b=ZA (.tup xs)->H' b=ZA (.tup xs)
 frzs:∀b o u,H b=ZA (.frz o u)->H' b=ZA (.frz o u)
 tbls:∀b ps,H b=ZA (.tbl ps)->∃more,H' b=ZA (.tbl (ps++more))
section
variable {fs fs' ex ex':List ZE}{H1 H2:Hp}{h1 h2:ZH}{x:ZE}{o:HO}
def Un.any(u:Un fs ex H H1 h h1){ob:Obj}(q:h.get? b=ZA ob)(n:H b=ZB)(hx:b∉ex):∃sl,h1.get? b=ZA {ob with slots:=sl}:=by
 by_cases hb:b∈fs
 ·exact u.slot b ob q n hb hx
 ·exact⟨ob.slots,u.keep b ob q n hb hx⟩
def Un.kept(k:∀b u,h.get? b=ZA u->h'.get? b=ZA u):Un fs ex H H h h':=
 ⟨λb ob q _ _ _=>k b ob q,λb ob q _ _ _=>⟨ob.slots,k b ob q⟩,λ_ _ _ n _=>n,λb ob q _=>⟨ob,k b ob q⟩,λ_ _ q=>q,λ_ _ _ q=>q,λ_ ps q=>⟨#[],by rw[q];simp⟩⟩
def Un.refl:Un fs ex H H h h:=Un.kept λ_ _ q=>q
def Un.laid(k:∀b u,h.get? b=ZA u->h'.get? b=ZA u)(hp:h.objs.size<=a)(hn:H a=ZB):Un fs ex H (upd H a o) h h' where
 keep:=λb u q _ _ _=>k b u q
 slot:=λb u q _ _ _=>⟨u.slots,k b u q⟩
 free:=λb u q n _=>by rw[aG (Oh (NK (NJ q) hp))];exact n
 there:=λb u q _=>⟨u,k b u q⟩
 tups:=λb xs q=>by rw[aG (cH q hn)];exact q
 frzs:=λb u xs q=>by rw[aG (cH q hn)];exact q
 tbls:=λb ps q=>⟨#[],by rw[aG (cH q hn),q];simp⟩
def Un.write(mu:LV (H x))(he:e=x\/H e=ZA (.own x))(k:∀b u,b≠e->h.get? b=ZA u->h'.get? b=ZA u)(heo:∃u,h'.get? e=ZA u):Un fs ex H (upd H x o) h h':=by
 have hx:∀b,H b=ZB->b≠x:=λb n z=>by subst z;rw[n]at mu;exact mu
 have hb:∀b,H b=ZB->b≠e:=λb n z=>by
  subst z;rcases he with r|r
  ·exact hx b n r
  ·rw[n]at r;cases r
 have hm:∀b u,H b=ZA u->¬ LV (ZA u)->b≠x:=λb u q nm z=>by subst z;rw[q]at mu;exact nm mu
 refine⟨λb u q n _ _=>k b u (hb b n) q,λb u q n _ _=>⟨u.slots,k b u (hb b n) q⟩,λb u q n _=>by rw[aG (hx b n)];exact n,λb u q _=>?_,
  λb xs q=>by rw[aG (hm b _ q λz=>z)];exact q,λb u xs q=>by rw[aG (hm b _ q λz=>z)];exact q,λb ps q=>⟨#[],by rw[aG (hm b _ q λz=>z),q];simp⟩⟩
 by_cases hbe:b=e
 ·subst hbe;exact heo
 ·exact⟨u,k b u hbe q⟩
end
def trk(h:ZH)(H:Hp):List ZE:=(OU h.objs.size).filter λa=>(H a).isSome
def u6(h:ZH)(H:Hp):ZH:=We h (trk h H)
def Bp(h:ZH)(H:Hp):(u6 h H).objs.size=h.objs.size:=PySem.W.hideAll_size _ _
def DK{o:Obj}(e:h.get? b=ZA o)(n:H b=ZB):(u6 h H).get? b=ZA o:=
 Sm _ e λhm=>by
  have q:(H b).isSome=ZC:=(Rx.mp hm).2;rw[n]at q;simp at q
def Gd{o:Obj}(e:(u6 h H).get? b=ZA o):h.get? b=ZA o/\H b=ZB:=by
 have e':h.get? b=ZA o:=UQ (trk h H) e;refine⟨e',?_⟩
 cases q:H b with
 |none=>rfl
 |some x=>
  have hm:b∈trk h H:=Rx.mpr ⟨Pa.mpr (NJ e'),by simp[q]⟩
  have z:(u6 h H).get? b=ZB:=Us (trk h H) hm;rw[z]at e;cases e
def GV(g h:ZH)(L:ZE):W2:=(OU h.objs.size).filterMap λa=>if a=L\/(g.get? a).isSome=ZC then ZB else(h.get? a).map λo=>(a,o)
def rest(g h:ZH)(L d:ZE):W2:=(GV g h L).filter λp=>decide (p.1≠d)
structure Mod (K:Nt)(mg:W0)(base:ZH):Prop where
 kin:K.In base
 glob:base.Ns Oy mg
 blt:∃mb,base.Ns S7 mb/\∀x:Str,x≠ "__name__"->mb x=Oq x
 nolimit:base.NoLimit
structure Cx where
 prog:N1
 w:OF
 K:Nt
 mg:W0
 base:ZH
 A:Os
 N:List Str
 s₀:NB
 H₀:Hp
 env:Env
 outer:List Env
 stack:List Env
 ex:List ZE
 fn:Str->Bool
 calm:Bool
 pn:W2
 xe:W1
def u9(l:List Env):List ZE:=l.filterMap (·.frame)
abbrev Cx.fs(X:Cx):List ZE:=u9 X.outer
def vD(sc:Rp)(x:Str):Prop:=sc.names.lookup x=ZA .local\/sc.names.lookup x=ZA .cell\/sc.names.lookup x=ZA .free
def Loc(sc:Rp)(x:Str):Prop:=sc.names.lookup x=ZA .local\/sc.names.lookup x=ZA .cell
def Look(env:Env)(h:ZH)(m:W0)(x:Str)(u:NA):Prop:=
 (env.kindOf x=ZA .local/\m x=ZA u)\/((env.kindOf x=ZA .cell\/env.kindOf x=ZA .free)/\∃c,env.cells.lookup x=ZA c/\h.IsCell c (ZA u))
structure Cx.Ok (X:Cx):Prop where
 mod:Mod X.K X.mg X.base
 kind:X.env.scope.kind=.function
 glob:X.env.globals=Oy
 blt:X.env.builtins=S7
 above:X.s₀.heap.objs.size<=X.env.locals
 inj:∀x y c,X.env.cells.lookup x=ZA c->X.env.cells.lookup y=ZA c->x=y
 has:∀x,(X.env.kindOf x=ZA .cell\/X.env.kindOf x=ZA .free)->∃c,X.env.cells.lookup x=ZA c
 cab:∀x c,X.fn x=ZC->X.env.cells.lookup x=ZA c->X.s₀.heap.objs.size<=c
 hd:X.calm=ZC->X.A.handled=ZB
 frames:X.A.frames=ZA X.stack
 stk:X.stack=X.outer\/(X.stack=X.env::X.outer/\X.env.frame=ZA X.env.locals)
 exf:∀b∈X.ex,b≠X.env.locals/\∀x c,X.env.cells.lookup x=ZA c->c≠b
 bs:∀b o,X.base.get? b=ZA o->X.s₀.heap.get? b=ZA o/\X.H₀ b=ZB
 bsz:X.base.objs.size<=X.s₀.heap.objs.size
 noex:∀b o,X.base.get? b=ZA o->b∉X.ex
 exfs:∀b∈X.ex,b∉X.fs
 funs:X.s₀.heap.FunFrames X.base X.outer
 frf:∀b∈X.fs,X.H₀ b=ZB
structure Inv (X:Cx)(bv:W2)(σ:List (Option V))(H:Hp)(s:NB):Prop where
 ok:X.Ok
 os:s.os=X.s₀.os
 bare:To s.gens
 base:Un X.fs X.ex X.H₀ H X.s₀.heap s.heap
 loc:∃m,s.heap.Ns X.env.locals m/\∀(i:Nat)(x:Str)(v:V),X.N[i]?=ZA x->σ[i]?=ZA (ZA v)->vD X.env.scope x->∃u,RelV v u/\Look X.env s.heap m x u
 cell:∀x c,X.env.cells.lookup x=ZA c->∃v,s.heap.IsCell c v
 free:H X.env.locals=ZB
 freeC:∀x c,X.env.cells.lookup x=ZA c->H c=ZB
 pin:∀p∈X.pn++bv,s.heap.get? p.1=ZA p.2/\H p.1=ZB/\p.1≠X.env.locals/\p.1∉X.fs/\∀v,p.2.data≠ .cell v
 hok:HOk X.prog X.w H s.heap
 len:σ.length=X.N.length
variable{M:Model}{N:List Str}{X:Cx}{it:ZE}{bv:W2}{v:V}{x:Str}
section
variable {σ:List (Option V)}
def Cx.Ok.Nn(ok:X.Ok){o:Obj}(e:X.base.get? b=ZA o):b∉X.fs:=λhb=>by
 have:=(ok.funs.mem hb).1;rw[e]at this;cases this
theorem Inv.bs(I:Inv X bv σ H s):∀b o,X.base.get? b=ZA o->s.heap.get? b=ZA o/\H b=ZB:=λb o e=>
 ⟨I.base.keep b o (I.ok.bs b o e).1 (I.ok.bs b o e).2 (I.ok.Nn e) (I.ok.noex b o e),I.base.free b o (I.ok.bs b o e).1 (I.ok.bs b o e).2 (I.ok.noex b o e)⟩
def Inv.bk(I:Inv X bv σ H s):∀b o,X.base.get? b=ZA o->s.heap.get? b=ZA o:=λb o e=>(I.bs b o e).1
theorem Inv.mod(I:Inv X bv σ H s):Mod X.K X.mg X.base:=I.ok.mod
def Inv.kIn(I:Inv X bv σ H s):X.K.In s.heap:=I.ok.mod.kin.keeps I.bk
theorem Inv.lt(I:Inv X bv σ H s):X.env.locals<s.heap.objs.size:=let ⟨_,hn,_⟩:=I.loc;hn.lt
def Inv.sz(I:Inv X bv σ H s):X.s₀.heap.objs.size<=s.heap.objs.size:=Oj I.ok.above (Pe I.lt)
def Inv.Np(I:Inv X bv σ H s)(h:s.heap.objs.size<=a):a∉X.fs:=λhb=>by
 obtain⟨_,o,ho,_⟩:=I.ok.funs.mem hb;exact absurd (NK (NJ ho) (Oj I.sz h)) (N4 _)
def Inv.cne(I:Inv X bv σ H s):∀x c,X.env.cells.lookup x=ZA c->c≠X.env.locals:=λx c e z=>by
 obtain⟨v,o,ho,hd⟩:=I.cell x c e;obtain⟨m,⟨o',es,ep,ho',hd',_⟩,_⟩:=I.loc;rw[z,ho']at ho;cases ho;rw[hd']at hd;cases hd
theorem Inv.funs(I:Inv X bv σ H s):s.heap.FunFrames X.base X.outer:=by
 have all:∀(l:List Env),(∀b∈u9 l,b∈X.fs)->X.s₀.heap.FunFrames X.base l->s.heap.FunFrames X.base l:=by
  intro l
  induction l with
  |nil=>intro _ _;trivial
  |cons env r ih=>
   intro hs hl;obtain⟨hk,⟨L,o,hf,hn,ho,hd⟩,hr⟩:=hl
   have hL:L∈X.fs:=hs L (by unfold u9;rw[QC,hf];exact Nv)
   obtain⟨sl,e⟩:=I.base.slot L o ho (I.ok.frf L hL) hL λz=>I.ok.exfs L z hL
   exact⟨hk,⟨L,_,hf,hn,e,hd⟩,ih (λb hb=>hs b (by unfold u9;rw[QC,hf];exact Nu _ hb)) hr⟩
 exact all X.outer (λ_ hb=>hb) I.ok.funs
def Inv.stack(I:Inv X bv σ H s):s.heap.FunFrames X.base X.stack:=by
 rcases I.ok.stk with e|⟨e,hf⟩
 ·rw[e];exact I.funs
 ·rw[e]
  obtain⟨m,hn,_⟩:=I.loc;refine .cons (by rw[I.ok.kind];decide) hf hn ?_ I.funs
  exact Heap.get?_none_of_le (Oj I.ok.bsz I.ok.above)
def Inv.Mz(I:Inv X bv σ H s):∀b∈u9 X.stack,b∈X.env.locals::X.fs:=λb hb=>by
 rcases I.ok.stk with e|⟨e,hf⟩
 ·rw[e]at hb;exact Nu _ hb
 ·rw[e]at hb
  unfold u9 at hb;rw[QC,hf]at hb;exact hb
def Inv.Mu(I:Inv X bv σ H s):∀b∈u9 X.stack,H b=ZB:=λb hb=>by
 rcases NG.mp (I.Mz b hb)with e|hb
 ·rw[e];exact I.free
 ·obtain⟨_,o,ho,_⟩:=I.ok.funs.mem hb
  exact I.base.free b o ho (I.ok.frf b hb) λz=>I.ok.exfs b z hb
def Inv.step{g':Array GenState}{t':Nat}{d':Drawn}{ch:List ZE}(I:Inv X bv σ H s)
  (hch:∀b∈ch,(b∈X.ex\/X.s₀.heap.objs.size<=b)/\b≠X.env.locals/\(∀x c,X.env.cells.lookup x=ZA c->c≠b)/\∀p∈X.pn++bv,p.1≠b)
  (keep:∀b o,b≠X.env.locals->b∉X.fs->b∉ch->s.heap.get? b=ZA o->H b=ZB->h'.get? b=ZA o)
  (slot:∀b o,b≠X.env.locals->b∈X.fs->b∉ch->s.heap.get? b=ZA o->H b=ZB->∃sl,h'.get? b=ZA {o with slots:=sl}) (free:∀b o,b∉ch->s.heap.get? b=ZA o->H b=ZB->H' b=ZB)
  (there:∀b o,b∉ch->s.heap.get? b=ZA o->∃o',h'.get? b=ZA o')
  (tups:∀b xs,H b=ZA (.tup xs)->H' b=ZA (.tup xs)) (frzs:∀b o u,H b=ZA (.frz o u)->H' b=ZA (.frz o u)) (tbls:∀b ps,H b=ZA (.tbl ps)->∃more,H' b=ZA (.tbl (ps++more)))
  (ns:∀m,s.heap.Ns X.env.locals m->h'.Ns X.env.locals m) (hok:HOk X.prog X.w H' h') (hg:To g'):
  Inv X bv σ H' {s with heap:=h',gens:=g',drawn:=d',toks:=t'}:=by
 have neL:∀b o,X.s₀.heap.get? b=ZA o->b≠X.env.locals:=λb o e=>Oh (NK (NJ e) I.ok.above)
 have neC:∀b o,X.s₀.heap.get? b=ZA o->b∉X.ex->b∉ch:=λb o e hx hb=>by
  rcases(hch b hb).1 with z|z
  ·exact hx z
  ·exact absurd (NK (NJ e) z) (N4 _)
 have cellK:∀x c,X.env.cells.lookup x=ZA c->∀v,s.heap.IsCell c v->h'.IsCell c v:=λx c e v hh_=>by
  obtain⟨o,ho,hd⟩:=hh_
  have nch:c∉ch:=λz=>(hch c z).2.2.1 x c e rfl
  by_cases hc:c∈X.fs
  ·obtain⟨sl,q⟩:=slot c o (I.cne x c e) hc nch ho (I.freeC x c e)
   exact⟨_,q,hd⟩
  ·exact⟨o,keep c o (I.cne x c e) hc nch ho (I.freeC x c e),hd⟩
 refine⟨I.ok,I.os,hg,⟨λb o e n hb hx=>?_,λb o e n hb hx=>?_,λb o e n hx=>?_,λb o e hx=>?_,λb xs e=>tups b xs (I.base.tups b xs e),λb o xs e=>frzs b o xs (I.base.frzs b o xs e),λb ps e=>?_⟩,?_,λx c e=>?_,?_,λx c e=>?_,λp hp=>?_,hok,I.len⟩
 ·exact keep b o (neL b o e) hb (neC b o e hx) (I.base.keep b o e n hb hx) (I.base.free b o e n hx)
 ·obtain⟨sl,e1⟩:=I.base.slot b o e n hb hx
  obtain⟨sl',e2⟩:=slot b _ (neL b o e) hb (neC b o e hx) e1 (I.base.free b o e n hx);exact⟨sl',e2⟩
 ·obtain⟨o',e1⟩:=I.base.there b o e hx
  exact free b o' (neC b o e hx) e1 (I.base.free b o e n hx)
 ·obtain⟨o',e1⟩:=I.base.there b o e hx
  exact there b o' (neC b o e hx) e1
 ·obtain⟨m1,e1⟩:=I.base.tbls b ps e
  obtain⟨m2,e2⟩:=tbls b _ e1;exact⟨m1++m2,by rw[e2,Array.append_assoc]⟩
 ·obtain⟨m,hn,hl⟩:=I.loc
  refine⟨m,ns m hn,λi x v e1 e2 e3=>?_⟩
  obtain⟨u,r,l⟩:=hl i x v e1 e2 e3;refine⟨u,r,?_⟩
  rcases l with l|⟨k,c,e,z⟩
  ·exact .inl l
  ·exact .inr ⟨k,c,e,cellK x c e _ z⟩
 ·obtain⟨v,z⟩:=I.cell x c e
  exact⟨v,cellK x c e v z⟩
 ·obtain⟨m,⟨o,_,_,ho,_⟩,_⟩:=I.loc
  exact free _ o (λz=>(hch _ z).2.1 rfl) ho I.free
 ·obtain⟨v,o,ho,hd⟩:=I.cell x c e
  exact free c o (λz=>(hch c z).2.2.1 x c e rfl) ho (I.freeC x c e)
 ·obtain⟨e,n,ne,nf,d⟩:=I.pin p hp
  have nch:p.1∉ch:=λz=>(hch p.1 z).2.2.2 p hp rfl
  exact⟨keep p.1 p.2 ne nf nch e n,free p.1 p.2 nch e n,ne,nf,d⟩
def Inv.un(I:Inv X bv σ H s)(u:Un X.fs [] H H' s.heap h')(hok:HOk X.prog X.w H' h'):Inv X bv σ H' {s with heap:=h',toks:=t'}:=by
 obtain⟨m,⟨o,es,ep,ho,r⟩,_⟩:=id I.loc;obtain⟨sl,hL⟩:=u.any ho I.free (by simp)
 exact I.step (g':=s.gens) (d':=s.drawn) (ch:=[]) (λ_ z=>nomatch z) (λb o _ hb _ e n=>u.keep b o e n hb (by simp)) (λb o _ hb _ e n=>u.slot b o e n hb (by simp)) (λb o _ e n=>u.free b o e n (by simp)) (λb o _ e=>u.there b o e (by simp)) u.tups u.frzs u.tbls (λm' hm=>by
  obtain⟨o',es',ep',ho',r'⟩:=hm;rw[ho]at ho';cases ho';exact⟨_,es',ep',hL,r'⟩) hok I.bare
def Inv.call{g':Array GenState}{d':Drawn}{ch:List ZE}(I:Inv X bv σ H s)(u:Un (u9 X.stack) ch H H' s.heap h')(hok:HOk X.prog X.w H' h')(hg:To g')
  (hch:∀b∈ch,(b∈X.ex\/X.s₀.heap.objs.size<=b)/\b≠X.env.locals/\(∀x c,X.env.cells.lookup x=ZA c->c≠b)/\∀p∈X.pn++bv,p.1≠b):
  Inv X bv σ H' {s with heap:=h',gens:=g',drawn:=d',toks:=t'}:=by
 obtain⟨m,⟨o,es,ep,ho,r⟩,_⟩:=id I.loc;obtain⟨sl,hL⟩:=u.any ho I.free λz=>(hch _ z).2.1 rfl
 exact I.step (ch:=ch) hch (λb o hL hb hc e n=>u.keep b o e n (λz=>(NG.mp (I.Mz b z)).elim hL hb) hc) (λb o _ _ hc e n=>u.any e n hc) (λb o hc e n=>u.free b o e n hc) (λb o hc e=>u.there b o e hc) u.tups u.frzs u.tbls (λm' hm=>by
  obtain⟨o',es',ep',ho',r'⟩:=hm;rw[ho]at ho';cases ho';exact⟨_,es',ep',hL,r'⟩) hok hg
def Inv.turned(I:Inv X bv σ H s)(k:∀b o,b≠it->s.heap.get? b=ZA o->h'.get? b=ZA o)(hn:H it=ZB)(hL:it≠X.env.locals)
  (h1:it∈X.ex\/X.s₀.heap.objs.size<=it) (h2:∀x c,X.env.cells.lookup x=ZA c->c≠it) (h3:∀p∈X.pn++bv,p.1≠it):Inv X bv σ H {s with heap:=h',toks:=t'}:=by
 have nit:∀b u,H b=ZA u->b≠it:=λb u e z=>by rw[z,hn]at e;cases e
 refine I.step (g':=s.gens) (d':=s.drawn) (ch:=[it]) (λb hb=>?_) (λb o _ _ hc e _=>k b o (λz=>hc (by simp[z])) e) (λb o _ _ hc e _=>⟨o.slots,k b o (λz=>hc (by simp[z])) e⟩) (λ_ _ _ _ n=>n)
  (λb o hc e=>⟨o,k b o (λz=>hc (by simp[z])) e⟩) (λ_ _ e=>e) (λ_ _ _ e=>e) (λb ps e=>⟨#[],by rw[e];simp⟩) (λm hm=>?_) (λb u e=>?_) I.bare
 ·have e:b=it:=by simpa using hb
  subst e;exact⟨h1,hL,h2,h3⟩
 ·obtain⟨o,es,ep,ho,r⟩:=hm
  exact⟨o,es,ep,k _ o (Rn hL) ho,r⟩
 ·refine(I.hok b u e).Mm (λc v hc q=>k c v ?_ q) (λ_ q=>q) λ_ _ q=>q
  rcases hc with z|z
  ·rw[z];exact nit b u e
  ·exact nit c _ z
def Inv.tok(I:Inv X bv σ H s)(t:Nat):Inv X bv σ H {s with toks:=t}:=I.un (h':=s.heap) (t':=t) Un.refl I.hok
theorem Inv.kept(I:Inv X bv σ H s)(k:∀b u,s.heap.get? b=ZA u->h'.get? b=ZA u):Inv X bv σ H {s with heap:=h',toks:=t'}:=I.un (Un.kept k) (I.hok.kept k)
theorem Inv.laid{o:HO}(I:Inv X bv σ H s)(k:∀b u,s.heap.get? b=ZA u->h'.get? b=ZA u)(hp:s.heap.objs.size<=a)(new:ObjOk X.prog X.w (upd H a o) h' a o):
  Inv X bv σ (upd H a o) {s with heap:=h',toks:=t'}:=I.un (Un.laid k hp (I.hok.fresh hp)) (I.hok.laid k hp new)
theorem Inv.write{x:ZE}{o:HO}(I:Inv X bv σ H s)(mu:LV (H x))(he:e=x\/H e=ZA (.own x))(k:∀b u,b≠e->s.heap.get? b=ZA u->h'.get? b=ZA u)(heo:∃u,h'.get? e=ZA u)
  (new:ObjOk X.prog X.w (upd H x o) h' x o):Inv X bv σ (upd H x o) {s with heap:=h',toks:=t'}:=I.un (Un.write mu he k heo) (I.hok.write mu he k heo new)
def Inv.MA{pins':W2}(I:Inv X bv σ H s)(h:∀p∈pins',s.heap.get? p.1=ZA p.2/\H p.1=ZB/\p.1≠X.env.locals/\p.1∉X.fs/\∀v,p.2.data≠ .cell v):Inv X pins' σ H s:=
 ⟨I.ok,I.os,I.bare,I.base,I.loc,I.cell,I.free,I.freeC,λp hp=>(Oa.mp hp).elim (λz=>I.pin p (OZ _ z)) (h p),I.hok,I.len⟩
def wX(hN:N.Nodup)(a:N[i]?=ZA x)(b:N[j]?=ZA x):i=j:=by
 obtain⟨h1,e1⟩:=NN.mp a
 obtain⟨h2,e2⟩:=NN.mp b
 exact(List.getElem_inj hN).mp (e1.trans e2.symm)
variable{Q:Unit->NB->Prop}
def rR{u:NA}(I:Inv X bv σ H s)(hN:X.N.Nodup)(hi:X.N[i]?=ZA x)(hx:Loc X.env.scope x)(r:RelV v u)
  (h:∀s',Inv X bv (σ.set i (ZA v)) H s'->(∃a,QU a s.heap s'.heap/\(a=X.env.locals\/X.env.cells.lookup x=ZA a))->Q () s') (hf:autoParam (X.fn x=ZC\/X.env.scope.names.lookup x=ZA .local) r_):ZJ M A (storeName X.env x u) Q E s:=by
 obtain⟨m,hn,hl⟩:=id I.loc
 have hcls:(X.env.scope.kind == .class||(X.env.scope.kind == .module&&X.env.locals != X.env.globals))=ZD:=by rw[I.ok.kind];rfl
 have hiσ:i<σ.length:=by rw[I.len];exact(NN.mp hi).1
 have cne:=I.cne
 have tracked:∀{a:ZE}{h':ZH},(∃o,s.heap.get? a=ZA o/\H a=ZB)->QU a s.heap h'->HOk X.prog X.w H h':=λ{a h'} ha hs b ob e=>by
  obtain⟨_,_,hfree⟩:=ha;refine(I.hok b ob e).Mm (λc w' hc q=>(hs.2 c ?_).trans q) (λ_ q=>q) λ_ _ q=>q
  rintro rfl
  rcases hc with rfl|hc
  ·rw[hfree]at e;cases e
  ·rw[hfree]at hc;cases hc
 rcases hx with hk|hk
 ·refine wpAny_storeName_local hk hn (λh' hn' hs=>?_) hcls
  obtain⟨oL,_,_,hoL,_⟩:=id hn;refine h _ ⟨I.ok,I.os,I.bare,⟨λb o e n hb hx=>?_,λb o e n hb hx=>?_,I.base.free,λb o e hx=>?_,I.base.tups,I.base.frzs,I.base.tbls⟩,⟨_,hn',λj y v' e1 e2 e3=>?_⟩,λy c e=>?_,I.free,I.freeC,λp hp=>?_,tracked ⟨oL,hoL,I.free⟩ hs,by simpa using I.len⟩ ⟨_,hs,.inl rfl⟩
  ·exact(hs.2 b (Oh (NK (NJ e) I.ok.above))).trans (I.base.keep b o e n hb hx)
  ·obtain⟨sl,e1⟩:=I.base.slot b o e n hb hx
   exact⟨sl,(hs.2 b (Oh (NK (NJ e) I.ok.above))).trans e1⟩
  ·obtain⟨o',e1⟩:=I.base.there b o e hx
   exact⟨o',(hs.2 b (Oh (NK (NJ e) I.ok.above))).trans e1⟩
  ·by_cases hj:j=i
   ·subst hj
    rw[hi]at e1;cases e1;rw[NV hiσ]at e2
    cases e2;exact⟨u,r,.inl ⟨hk,by simp⟩⟩
   ·rw[NW (Rn hj)]at e2
    obtain⟨u',r',q⟩:=hl j y v' e1 e2 e3;refine⟨u',r',?_⟩
    rcases q with⟨k,e⟩|⟨k,c,e,z⟩
    ·refine .inl ⟨k,?_⟩
     have:y≠x:=λe=>hj (wX hN e1 (e▸hi))
     simp[this,e]
    ·exact .inr ⟨k,c,e,z.sameBut hs (cne y c e)⟩
  ·obtain⟨w',z⟩:=I.cell y c e
   exact⟨w',z.sameBut hs (cne y c e)⟩
  ·obtain⟨e,n,ne,nf,d⟩:=I.pin p hp
   exact⟨(hs.2 p.1 ne).trans e,n,ne,nf,d⟩
 ·have hfn:X.fn x=ZC:=by
   rcases hf with z|z
   ·exact z
   ·rw[z]at hk;cases hk
  obtain⟨c,hc⟩:=I.ok.has x (.inl hk);obtain⟨w',z⟩:=I.cell x c hc;refine wpAny_storeName_cell I.ok.kind hk hc z (λh' hc' hs=>?_)
  obtain⟨oc,hoc,hocd⟩:=id z;refine h {s with heap:=h'} ⟨I.ok,I.os,I.bare,⟨λb o e n hb hx=>?_,λb o e n hb hx=>?_,I.base.free,λb o e hx=>?_,I.base.tups,I.base.frzs,I.base.tbls⟩,⟨m,hn.sameBut hs (Rn (cne x c hc)),λj y v' e1 e2 e3=>?_⟩,λy c' e=>?_,I.free,I.freeC,λp hp=>?_,tracked ⟨oc,hoc,I.freeC x c hc⟩ hs,by simpa using I.len⟩ ⟨c,hs,.inr hc⟩
  ·exact(hs.2 b (Oh (NK (NJ e) (I.ok.cab x c hfn hc)))).trans (I.base.keep b o e n hb hx)
  ·obtain⟨sl,e1⟩:=I.base.slot b o e n hb hx
   exact⟨sl,(hs.2 b (Oh (NK (NJ e) (I.ok.cab x c hfn hc)))).trans e1⟩
  ·obtain⟨o',e1⟩:=I.base.there b o e hx
   exact⟨o',(hs.2 b (Oh (NK (NJ e) (I.ok.cab x c hfn hc)))).trans e1⟩
  ·by_cases hj:j=i
   ·subst hj
    rw[hi]at e1;cases e1;rw[NV hiσ]at e2
    cases e2;exact⟨u,r,.inr ⟨.inl hk,c,hc,hc'⟩⟩
   ·rw[NW (Rn hj)]at e2
    obtain⟨u',r',q⟩:=hl j y v' e1 e2 e3;refine⟨u',r',?_⟩
    rcases q with q|⟨k,c',e,z'⟩
    ·exact .inl q
    ·refine .inr ⟨k,c',e,z'.sameBut hs ?_⟩
     rintro rfl
     exact hj (wX hN e1 (I.ok.inj _ _ _ e hc▸hi))
  ·by_cases hcc:c'=c
   ·subst hcc;exact⟨_,hc'⟩
   ·obtain⟨w2,z2⟩:=I.cell y c' e
    exact⟨w2,z2.sameBut hs hcc⟩
  ·obtain⟨e,n,ne,nf,d⟩:=I.pin p hp
   refine⟨(hs.2 p.1 ?_).trans e,n,ne,nf,d⟩
   intro q;rw[q,hoc]at e
   have q':oc=p.2:=Om e;exact d w' (by rw[<-q'];exact hocd)
def vZ{u:NA}(I:Inv X bv σ H s)(hN:X.N.Nodup)(hi:X.N[i]?=ZA x)(hx:Loc X.env.scope x)(r:RelV v u)
  (h:∀s',Inv X bv (σ.set i (ZA v)) H s'->Q () s') (hf:autoParam (X.fn x=ZC\/X.env.scope.names.lookup x=ZA .local) r_):ZJ M A (storeName X.env x u) Q E s:=
 rR I hN hi hx r (λs' I' _=>h s' I') hf
def Inv.MN{ch:List ZE}(I:Inv X bv σ H s)(ho:s'.os=s.os)(u:Un (u9 X.stack) ch H H' s.heap s'.heap)(hok:HOk X.prog X.w H' s'.heap)(hg:To s'.gens)
  (hch:∀b∈ch,(b∈X.ex\/X.s₀.heap.objs.size<=b)/\b≠X.env.locals/\(∀x c,X.env.cells.lookup x=ZA c->c≠b)/\∀p∈X.pn++bv,p.1≠b):Inv X bv σ H' s':=by
 obtain⟨h',g',d',t',o'⟩:=s'
 have e:o'=s.os:=ho;subst e;exact I.call (g':=g') (t':=t') (d':=d') u hok hg hch
end
abbrev XK:=NA->Option ZE->Hp->Prop
abbrev St:=List (Option V)
abbrev VK:=V->Hp->Prop
abbrev TE:=St->Hp->VK->Prop
abbrev TT:=St->Hp->(Bool->Hp->Prop)->Prop
abbrev TA:=St->Hp->(List V->Hp->Prop)->Prop
structure qO where
 nx:St->Hp->Prop
 rt:VK
 bk:St->Hp->Prop:=λ_ _=>False
 ct:St->Hp->Prop:=λ_ _=>False
abbrev TS:=qO->St->Hp->Prop
def EP(X:Cx)(bv:W2)(σ:St)(Q:VK)(u:NA)(s':NB):Prop:=∃v H',Inv X bv σ H' s'/\RelV v u/\Q v H'
def TP(X:Cx)(bv:W2)(σ:St)(Q:Bool->Hp->Prop)(b:Bool)(s':NB):Prop:=∃H',Inv X bv σ H' s'/\Q b H'
def AP(X:Cx)(bv:W2)(σ:St)(Q:List V->Hp->Prop)(us:List NA)(s':NB):Prop:=∃vs H',Inv X bv σ H' s'/\Vals vs us/\Q vs H'
def SP(X:Cx)(bv:W2)(D:qO)(f:Flow)(s':NB):Prop:=
 match f with
 |.next=>∃σ' H',Inv X bv σ' H' s'/\D.nx σ' H'
 |.brk=>∃σ' H',Inv X bv σ' H' s'/\D.bk σ' H'
 |.cont=>∃σ' H',Inv X bv σ' H' s'/\D.ct σ' H'
 |.ret u=>∃v σ' H',Inv X bv σ' H' s'/\RelV v u/\D.rt v H'
def PE(X:Cx)(e:ZG)(t:TE):Prop:=
 ∀(bv:W2)(s:NB)(σ:St)(H:Hp)(Q:VK),Inv X bv σ H s->t σ H Q->ZJ (ZK X.prog X.w) X.A (eval e X.env) (EP X bv σ Q) X.xe s
def PT(X:Cx)(e:ZG)(t:TT):Prop:=
 ∀(bv:W2)(s:NB)(σ:St)(H:Hp)(Q:Bool->Hp->Prop),Inv X bv σ H s->t σ H Q->ZJ (ZK X.prog X.w) X.A (isTrue e X.env (eval e X.env)) (TP X bv σ Q) X.xe s
def PW(X:Cx)(e:ZG)(t:TT):Prop:=
 ∀(whole:Sem NA)(bv:W2)(s:NB)(σ:St)(H:Hp)(Q:Bool->Hp->Prop),Inv X bv σ H s->t σ H Q->ZJ (ZK X.prog X.w) X.A (isTrue e X.env whole) (TP X bv σ Q) X.xe s
variable{e:ZG}
def PW.pt{t:TT}(h:PW X e t):PT X e t:=h _
def PA(X:Cx)(es:List ZG)(t:TA):Prop:=
 ∀(pos:Pos)(bv:W2)(s:NB)(σ:St)(H:Hp)(Q:List V->Hp->Prop),Inv X bv σ H s->t σ H Q->ZJ (ZK X.prog X.w) X.A (spliced (backTo pos (NZ es X.env))) (AP X bv σ Q) X.xe s
def PS(X:Cx)(st:ZF)(t:TS):Prop:=
 ∀(bv:W2)(s:NB)(σ:St)(H:Hp)(D:qO),Inv X bv σ H s->t D σ H->ZJ (ZK X.prog X.w) X.A (exec st X.env) (SP X bv D) X.xe s
def PSs(X:Cx)(st:List ZF)(t:TS):Prop:=
 ∀(bv:W2)(s:NB)(σ:St)(H:Hp)(D:qO),Inv X bv σ H s->t D σ H->ZJ (ZK X.prog X.w) X.A (execs st X.env) (SP X bv D) X.xe s
def cF{t:Sem α}{Q Q':α->NB->Prop}(h:ZJ M A t Q E s)(hQ:∀a s,Q a s->Q' a s):ZJ M A t Q' E s:=Pu h hQ λ_ _ x=>x
variable{c:ZG}{ta:TE}{σ:St}
section
def vW(i:Nat):TE:=λσ H Q=>∃v,σ[i]?=ZA (ZA v)/\Q v H
def tC(v:V):TE:=λ_ H Q=>Q v H
def jU{pos:Pos}(hN:X.N[i]?=ZA x)(hv:vD X.env.scope x)(hd:autoParam ((x == ("__debug__" : Str))=ZD) s_)(hcd:autoParam ((x == ("__classdict__" : Str))=ZD) s_):PE X (.Name x pos) (vW i):=by
 intro bv s σ H Q I h;obtain⟨v,e,h⟩:=h;obtain⟨m,hn,hl⟩:=I.loc;obtain⟨u,r,l⟩:=hl i x v hN e hv
 have fin:EP X bv σ Q u s:=⟨v,H,I,r,h⟩;rcases l with⟨hk,hm⟩|⟨hk,c,hc,hcell⟩
 ·exact wpAny_Name (wpAny_loadName_local I.ok.kind hk hn hm fin) hd
 ·rcases hk with hk|hk
  ·exact wpAny_Name (wpAny_loadName_cell I.ok.kind hk hc hcell fin) hd
  ·exact wpAny_Name (wpAny_loadName_free I.ok.kind hk hc hcell fin hcd) hd
def IY{i j pos}:PE X (.Constant (.int i) j pos) (tC (.int i)):=λ_ _ _ H _ I h=>wpAny_Constant_int ⟨.int i,H,I.tok _,⟨_,rfl⟩,h⟩
def K8{b j pos}:PE X (.Constant (.bool b) j pos) (tC (.bl b)):=λ_ _ _ H _ I h=>Constant_bool ⟨.bl b,H,I,rfl,h⟩
def CN{j pos}:PE X (.Constant .none j pos) (tC .non):=λ_ _ _ H _ I h=>Constant_none ⟨.non,H,I,rfl,h⟩
def i9{x j pos}:PE X (.Constant (.str x) j pos) (tC (.str x)):=λ_ _ _ H _ I h=>UT ⟨.str x,H,I.tok _,⟨_,rfl⟩,h⟩
def Gl(X:Cx)(x:Str):Prop:=X.env.kindOf x=ZA .globalImplicit
def oF{u:NA}{pos:Pos}(I:Inv X bv σ H s)(hg:Gl X x)(hm:X.mg x=ZA u)(h:Q u s)
  (hd:autoParam ((x == ("__debug__" : Str))=ZD) s_):ZJ (ZK X.prog X.w) X.A (eval (.Name x pos) X.env) Q E s:=
 SD I.ok.kind hg (Calls.loadGlobal_global (by rw[I.ok.glob];exact I.mod.glob.keeps I.bk) hm h) hd
def fR{u:NA}{pos:Pos}(I:Inv X bv σ H s)(hg:Gl X x)(hm:X.mg x=ZB)(hv:Oq x=ZA u)(h:Q u s)
  (hn:autoParam (x≠ "__name__") s_) (hd:autoParam ((x == ("__debug__" : Str))=ZD) s_):ZJ (ZK X.prog X.w) X.A (eval (.Name x pos) X.env) Q E s:=by
 obtain⟨mb,h1,h2⟩:=I.mod.blt;exact SD I.ok.kind hg (Calls.loadGlobal_builtin (by rw[I.ok.glob];exact I.mod.glob.keeps I.bk) hm (by rw[I.ok.blt];exact h1.keeps I.bk) ((h2 x hn).trans hv) h) hd
def F4{u:NA}{pos:Pos}(hg:Gl X x)(hm:X.mg x=ZA u)(r:RelV v u)(hd:autoParam ((x == ("__debug__" : Str))=ZD) s_):PE X (.Name x pos) (tC v):=
 λ_ _ _ H _ I h=>oF I hg hm ⟨v,H,I,r,h⟩ hd
def F6{u:NA}{pos:Pos}(hg:Gl X x)(hm:X.mg x=ZB)(hv:Oq x=ZA u)(r:RelV v u)(hn:autoParam (x≠ "__name__") s_)(hd:autoParam ((x == ("__debug__" : Str))=ZD) s_):PE X (.Name x pos) (tC v):=
 λ_ _ _ H _ I h=>fR I hg hm hv ⟨v,H,I,r,h⟩ hn hd
variable {a b:ZG}{tb:TE}{pos:Pos}
def tB(t:TE):TT:=λσ H Q=>t σ H λx H1=>∃c,x=.bl c/\Q c H1
def IL{t:TE}(h:PE X e t)(he:autoParam (∀whole,isTrue e X.env whole=(do let v <-whole;standAt e.pos;holding [v] (truthy v))) t_):PT X e (tB t):=by
 intro bv s σ H Q I hw;refine isTrue_plain (cF (h bv s σ H _ I hw) λv s1 ⟨x,H1,I1,r1,q1⟩=>?_) (he _)
 obtain⟨d,rfl,q⟩:=q1;cases r1;exact OY ⟨H1,I1,q⟩
variable {tA tB':TT}{rest:List ZG}
def tAnd(t u:TT):TT:=λσ H Q=>t σ H λc H1=>if c=ZC then u σ H1 Q else Q ZD H1
def tOr(t u:TT):TT:=λσ H Q=>t σ H λc H1=>if c=ZC then Q ZC H1 else u σ H1 Q
def tNot(t:TT):TT:=λσ H Q=>t σ H λc H1=>Q (!c) H1
def FO(ha:PT X a tA):PW X (.BoolOp .And [a] pos) tA:=by
 intro wh bv s σ H Q I h;refine isTrue_and (cF (ha bv s σ H Q I h) λc s1 e=>?_)
 cases c with
 |true=>exact isTrue_and_nil e
 |false=>exact e
def II(ha:PT X a tA):PW X (.BoolOp .Or [a] pos) tA:=by
 intro wh bv s σ H Q I h;refine isTrue_or (cF (ha bv s σ H Q I h) λc s1 e=>?_)
 cases c with
 |false=>exact isTrue_or_nil e
 |true=>exact e
def IK(ha:PT X a tA)(hb:PW X (.BoolOp .And (b::rest) pos) tB'):PW X (.BoolOp .And (a::b::rest) pos) (tAnd tA tB'):=by
 intro wh bv s σ H Q I h;refine isTrue_and (cF (ha bv s σ H _ I h) λc s1 hh_=>?_)
 obtain⟨H1,I1,q1⟩:=hh_
 cases c with
 |true=>exact hb wh bv s1 σ H1 Q I1 q1
 |false=>exact⟨H1,I1,q1⟩
def K4(ha:PT X a tA)(hb:PW X (.BoolOp .Or (b::rest) pos) tB'):PW X (.BoolOp .Or (a::b::rest) pos) (tOr tA tB'):=by
 intro wh bv s σ H Q I h;refine isTrue_or (cF (ha bv s σ H _ I h) λc s1 hh_=>?_)
 obtain⟨H1,I1,q1⟩:=hh_
 cases c with
 |true=>exact⟨H1,I1,q1⟩
 |false=>exact hb wh bv s1 σ H1 Q I1 q1
def IM(ha:PT X a tA):PT X (.UnaryOp .Not a pos) (tNot tA):=by
 intro bv s σ H Q I h;exact isTrue_not (ha bv s σ H (λc H1=>Q (!c) H1) I h)
def Ks(ta tb:TE):TE:=λσ H Q=>ta σ H λx H1=>∃c,x=.bl c/\if c=ZC then tb σ H1 Q else Q (.bl ZD) H1
def tOrV(ta tb:TE):TE:=λσ H Q=>ta σ H λx H1=>∃c,x=.bl c/\if c=ZC then Q (.bl ZC) H1 else tb σ H1 Q
def Kj(ta:TE):TE:=λσ H Q=>ta σ H λx H1=>∃c,x=.bl c/\Q (.bl (!c)) H1
def IV{op}{t:TE}(h:PE X a t):PE X (.BoolOp op [a] pos) t:=λbv s σ H Q I hw=>BoolOp_one (h bv s σ H Q I hw)
def IZ(ha:PE X a ta)(hb:PE X (.BoolOp .And (b::rest) pos) tb):PE X (.BoolOp .And (a::b::rest) pos) (Ks ta tb):=by
 intro bv s σ H Q I h;refine BoolOp_and (cF (ha bv s σ H _ I h) λv s1 hh_=>?_)
 obtain⟨x,H1,I1,r1,q1⟩:=hh_;obtain⟨c,rfl,q1⟩:=q1;cases r1;refine OY ?_
 cases c with
 |true=>exact hb bv s1 σ H1 Q I1 q1
 |false=>exact⟨.bl ZD,H1,I1,rfl,q1⟩
def K7(ha:PE X a ta)(hb:PE X (.BoolOp .Or (b::rest) pos) tb):PE X (.BoolOp .Or (a::b::rest) pos) (tOrV ta tb):=by
 intro bv s σ H Q I h;refine BoolOp_or (cF (ha bv s σ H _ I h) λv s1 hh_=>?_)
 obtain⟨x,H1,I1,r1,q1⟩:=hh_;obtain⟨c,rfl,q1⟩:=q1;cases r1;refine OY ?_
 cases c with
 |false=>exact hb bv s1 σ H1 Q I1 q1
 |true=>exact⟨.bl ZC,H1,I1,rfl,q1⟩
def IW(ha:PE X a ta):PE X (.UnaryOp .Not a pos) (Kj ta):=by
 intro bv s σ H Q I h;refine UnaryOp_ (cF (ha bv s σ H _ I h) λv s1 hh_=>?_)
 obtain⟨x,H1,I1,r1,q1⟩:=hh_;obtain⟨c,rfl,q1⟩:=q1;cases r1;exact not_of (OY ⟨.bl (!c),H1,I1,rfl,q1⟩)
def tIf(t:TT)(ta tb:TE):TE:=λσ H Q=>t σ H λc H1=>if c=ZC then ta σ H1 Q else tb σ H1 Q
def CO(hc:PT X c tA)(ha:PE X a ta)(hb:PE X b tb):PE X (.IfExp c a b pos) (tIf tA ta tb):=by
 intro bv s σ H Q I h;refine wpAny_IfExp (cF (hc bv s σ H _ I h) λd s1 hh_=>?_)
 obtain⟨H1,I1,q1⟩:=hh_
 cases d with
 |true=>exact ha bv s1 σ H1 Q I1 q1
 |false=>exact hb bv s1 σ H1 Q I1 q1
end
def SqL(K:Nt)(H:Hp)(a:ZE)(xs:List V):Prop:=
 Rd H a (.lst xs) ∨
  ∃(o:Obj)(its:Array NA)(n:Nat),K.lookup a=ZA o/\o.cls=.type "list"/\o.dict=ZB/\o.data=.seq its n/\its.size<=ZI/\Vals xs its.toList
def SqT(K:Nt)(H:Hp)(a:ZE)(xs:List V):Prop:=
 Rd H a (.tup xs) ∨
  ∃(o:Obj)(its:Array NA)(n:Nat),K.lookup a=ZA o/\o.cls=.type "tuple"/\o.data=.seq its n/\its.size<=ZI/\Vals xs its.toList
def absV:NA->Option V
 |.none=>ZA .non
 |.bool b=>ZA (.bl b)
 |.int i _=>ZA (.int i)
 |.str x _=>ZA (.str x)
 |.bytes b _=>ZA (.byt b)
 |.float b _=>ZA (.flt b)
 |.ref a=>ZA (.ref a)
 |.type n=>ZA (.ty n)
 |_=>ZB
def RelV.abs{x:V}{u:NA}(r:RelV x u):absV u=ZA x:=by
 cases x with
 |non=>cases r;rfl
 |bl _=>cases r;rfl
 |int _=>obtain⟨t,rfl⟩:=r;rfl
 |str _=>obtain⟨t,rfl⟩:=r;rfl
 |byt _=>obtain⟨t,rfl⟩:=r;rfl
 |flt _=>obtain⟨t,rfl⟩:=r;rfl
 |ref _=>cases r;rfl
 |ty _=>cases r;rfl
def RelV.inj{x y:V}{u:NA}(r:RelV x u)(q:RelV y u):x=y:=Om (r.abs.symm.trans q.abs)
theorem Vals.inj:∀{xs ys:List V}{us:List NA},Vals xs us->Vals ys us->xs=ys
 |_,_,_,.nil,.nil=>rfl
 |_,_,_,.cons r t,.cons r' t'=>by rw[r.inj r',Vals.inj t t']
section
variable {ys:List V}
def SqL.of(h:H a=ZA (.lst xs)):SqL K H a xs:=.inl (.inl h)
def SqT.of(h:H a=ZA (.tup xs)):SqT K H a xs:=.inl (.inl h)
def Inv.list(I:Inv X bv σ H s)(h:SqL X.K H a xs):∃its:List NA,Vals xs its/\PlainL s.heap a its.toArray/\xs.length<=ZI:=by
 rcases h with h|⟨o,its,n,hk,hc,hd,hs,hz,r⟩
 ·obtain⟨z,its,n,r,e⟩:=h.ok I.hok
  exact⟨its,r,⟨_,n,e,rfl,rfl,rfl⟩,z⟩
 ·refine⟨its.toList,r,⟨o,n,I.kIn a o hk,hc,hd,by simpa using hs⟩,?_⟩
  have e:=r.length;simp only[Ob]at e;omega
def Inv.tuple(I:Inv X bv σ H s)(h:SqT X.K H a xs):∃its:List NA,Vals xs its/\WD s.heap a its.toArray/\xs.length<=ZI:=by
 rcases h with h|⟨o,its,n,hk,hc,hs,hz,r⟩
 ·obtain⟨z,its,r,p⟩:=h.ok I.hok
  exact⟨its,r,p,z⟩
 ·refine⟨its.toList,r,⟨o,I.kIn a o hk,hc,n,by simpa using hs⟩,?_⟩
  have e:=r.length;simp only[Ob]at e;omega
def Inv.Mr(I:Inv X bv σ H s)(h:SqL X.K H a xs)(h':SqL X.K H a ys):xs=ys:=by
 obtain⟨its,r,⟨o,n,e,_,_,d⟩,_⟩:=I.list h;obtain⟨its',r',⟨o',n',e',_,_,d'⟩,_⟩:=I.list h';rw[e]at e';cases e';rw[d]at d';injection d' with d1 _
 have:its=its':=by simpa using congrArg SG d1
 subst this;exact r.inj r'
def Inv.Mo(I:Inv X bv σ H s)(h:SqT X.K H a xs)(h':SqT X.K H a ys):xs=ys:=by
 obtain⟨its,r,⟨o,e,_,n,d⟩,_⟩:=I.tuple h;obtain⟨its',r',⟨o',e',_,n',d'⟩,_⟩:=I.tuple h';rw[e]at e';cases e';rw[d]at d';injection d' with d1 _
 have:its=its':=by simpa using congrArg SG d1
 subst this;exact r.inj r'
end
abbrev Cx.FS(X:Cx)(E:W1):Cx:={X with xe:=E}
abbrev Cx.nox(X:Cx):Cx:=X.FS λ_ _=>False
def Cx.Ok.FS(ok:X.Ok)(E:W1):(X.FS E).Ok:=
 ⟨ok.mod,ok.kind,ok.glob,ok.blt,ok.above,ok.inj,ok.has,ok.cab,ok.hd,ok.frames,ok.stk,ok.exf,ok.bs,ok.bsz,ok.noex,ok.exfs,ok.funs,ok.frf⟩
def Cx.Ok.IR(ok:(X.FS E).Ok):X.Ok:=
 ⟨ok.mod,ok.kind,ok.glob,ok.blt,ok.above,ok.inj,ok.has,ok.cab,ok.hd,ok.frames,ok.stk,ok.exf,ok.bs,ok.bsz,ok.noex,ok.exfs,ok.funs,ok.frf⟩
theorem Inv.FS(I:Inv X bv σ H s)(E:W1):Inv (X.FS E) bv σ H s:=⟨I.ok.FS E,I.os,I.bare,I.base,I.loc,I.cell,I.free,I.freeC,I.pin,I.hok,I.len⟩
theorem Inv.IR(I:Inv (X.FS E) bv σ H s):Inv X bv σ H s:=⟨I.ok.IR,I.os,I.bare,I.base,I.loc,I.cell,I.free,I.freeC,I.pin,I.hok,I.len⟩
theorem SP.IR{D:qO}{f:Flow}(h:SP (X.FS E) bv D f s'):SP X bv D f s':=by
 cases f with
 |next=>obtain⟨σ',H',I,q⟩:=h;exact⟨σ',H',I.IR,q⟩
 |brk=>obtain⟨σ',H',I,q⟩:=h;exact⟨σ',H',I.IR,q⟩
 |cont=>obtain⟨σ',H',I,q⟩:=h;exact⟨σ',H',I.IR,q⟩
 |ret u=>obtain⟨v,σ',H',I,r,q⟩:=h;exact⟨v,σ',H',I.IR,r,q⟩
def PSs.nox{st:List ZF}{t:TS}(h:PSs X.nox st t):PSs X st t:=λbv s σ H D I hw=>
 Pu (h bv s σ H D (I.FS _) hw) (λ_ _ q=>q.IR) λ_ _ z=>Q2 z
variable{tc:TT}{te:TE}
section
variable {st:ZF}{rest:List ZF}{t u:TS}{pos:Pos}
def Kk:TS:=λD σ H=>D.nx σ H
def HN(t u:TS):TS:=λD σ H=>t {D with nx:=u D} σ H
def FQ:PSs X [] Kk:=λ_ _ σ H _ I h=>Sw ⟨σ,H,I,h⟩
def pw(h1:PS X st t)(h2:PSs X rest u):PSs X (st::rest) (HN t u):=by
 intro bv s σ H D I h;refine V9 (cF (h1 bv s σ H {D with nx:=u D} I h) λf s1 q=>?_)
 cases f with
 |next=>
  obtain⟨σ',H',I',q⟩:=q
  exact h2 bv s1 σ' H' D I' q
 |ret v=>exact q
 |brk=>exact q
 |cont=>exact q
def FP(h1:PS X st t):PSs X [st] t:=by
 intro bv s σ H D I h;refine V9 (cF (h1 bv s σ H D I h) λf s1 q=>?_)
 cases f with
 |next=>exact Sw q
 |ret v=>exact q
 |brk=>exact q
 |cont=>exact q
def Kq:TS:=λD σ H=>D.ct σ H
def wJ:PS X (.Continue pos) Kq:=λ_ _ σ H _ I h=>wpAny_Continue ⟨σ,H,I,h⟩
def Inv.quiet(I:Inv X bv σ H s):interactive X.env=ZD:=by simp[interactive,I.ok.kind]
def Kn(te:TE):TS:=λD σ H=>te σ H λ_ H1=>D.nx σ H1
def ud(he:PE X e te)(hs:autoParam (OQ e ZB pos.line X.env=pure ZD) u_):PS X (.Expr e pos) (Kn te):=by
 intro bv s σ H D I h;exact wpAny_Expr_any (cF (he bv s σ H _ I h) λv s1 ⟨x,H1,I1,r1,q1⟩=>⟨σ,H1,I1,q1⟩) I.quiet hs
def tRet(te:TE):TS:=λD σ H=>te σ H D.rt
def IP(he:PE X e te):PS X (.Return (ZA e) pos) (tRet te):=by
 intro bv s σ H D I h;exact wpAny_Return_some (cF (he bv s σ H _ I h) λv s1 ⟨x,H1,I1,r1,q1⟩=>⟨x,σ,H1,I1,r1,q1⟩)
def Km(c:TT)(t u:TS):TS:=λD σ H=>c σ H λb H1=>if b=ZC then t D σ H1 else u D σ H1
def Hm{a b:List ZF}(hc:PT X c tc)(ha:PSs X a t)(hb:PSs X b u):PS X (.If c a b pos) (Km tc t u):=by
 intro bv s σ H D I h;refine wpAny_If (cF (hc bv s σ H _ I h) λd s1 hh_=>?_)
 obtain⟨H1,I1,q1⟩:=hh_
 cases d with
 |true=>exact ha bv s1 σ H1 D I1 q1
 |false=>exact hb bv s1 σ H1 D I1 q1
end
abbrev TG:=V->St->Hp->(St->Hp->Prop)->Prop
abbrev GX:=List V->St->Hp->(St->Hp->Prop)->Prop
def PG(X:Cx)(target:ZG)(t:TG):Prop:=
 ∀(bv:W2)(s:NB)(σ:St)(H:Hp)(v:V)(u:NA)(Q:St->Hp->Prop),Inv X bv σ H s->RelV v u->t v σ H Q →
  ZJ (ZK X.prog X.w) X.A (assign target X.env u) (λ_ s'=>∃σ' H',Inv X bv σ' H' s'/\Q σ' H') X.xe s
def PGs(X:Cx)(ts:List ZG)(t:GX):Prop:=
 ∀(bv:W2)(s:NB)(σ:St)(H:Hp)(vs:List V)(us:List NA)(Q:St->Hp->Prop),Inv X bv σ H s->Vals vs us->t vs σ H Q →
  ZJ (ZK X.prog X.w) X.A (assignInOrder ((Pv ts X.env).map (·.2)) us) (λ_ s'=>∃σ' H',Inv X bv σ' H' s'/\Q σ' H') X.xe s
variable{es:List ZG}{tg:ZG}
section
variable {pos:Pos}
def DL(i:Nat):TG:=λv σ H Q=>Q (σ.set i (ZA v)) H
def F2(hN:X.N.Nodup)(hi:X.N[i]?=ZA x)(hx:Loc X.env.scope x)(hf:autoParam (X.fn x=ZC\/X.env.scope.names.lookup x=ZA .local) r_):PG X (.Name x pos) (DL i):=by
 intro bv s σ H v u Q I r h;exact Vw (vZ I hN hi hx r (λs' I'=>⟨_,H,I',h⟩) hf)
def gNil:GX:=λvs σ H Q=>vs=[]/\Q σ H
def LD(t:TG)(u:GX):GX:=λvs σ H Q=>∃v r,vs=v::r/\t v σ H λσ' H'=>u r σ' H' Q
def F1:PGs X [] gNil:=by
 intro bv s σ H vs us Q I r h;obtain⟨e,h⟩:=h;subst e;cases r;exact assignInOrder_nil ⟨σ,H,I,h⟩
def CL{t:TG}{u:GX}(h1:PG X e t)(h2:PGs X es u)
  (hs:autoParam ((Pv (e::es) X.env).map (·.2)=assign e X.env::(Pv es X.env).map (·.2)) u_):PGs X (e::es) (LD t u):=by
 intro bv s σ H vs us Q I r h;obtain⟨v,vr,e1,h⟩:=h;subst e1
 cases r with
 |cons r rr=>
  rw[hs];refine assignInOrder_cons (cF (h1 bv s σ H _ _ _ I r h) λ_ s1 hh_=>?_)
  obtain⟨σ1,H1,I1,q1⟩:=hh_;exact h2 bv s1 σ1 H1 _ _ Q I1 rr q1
def gTup(K:Nt)(n:Nat)(t:GX):TG:=λv σ H Q=>∃a xs,v=.ref a/\SqT K H a xs/\xs.length=n/\t xs σ H Q
def IT{k:Nat}{t:GX}(hc:X.calm=ZC)(h:PGs X es t)
  (hn:autoParam ((Pv es X.env).length=n) u_) (hst:autoParam ((Pv es X.env).findIdx? (·.1)=ZB) u_):PG X (.Tuple es k pos) (gTup X.K n t):=by
 intro bv s σ H v u Q I r hw;obtain⟨a,xs,e1,hq,hl,hw⟩:=hw;subst e1;cases r;obtain⟨its,rv,ht,hz⟩:=I.tuple hq;refine assign_Tuple_tuple (I.ok.hd hc) ht (by simp[hn,<-hl,rv.length]) hst λh' hx=>?_
 have I1:Inv X bv σ H {s with heap:=h'}:=I.kept (t':=s.toks) λb o e=>hx b o (Oh (NJ e)) e
 exact h bv _ σ H xs _ Q I1 (by simpa using rv) hw
def B8(te:TE)(g:TG):TS:=λD σ H=>te σ H λx H1=>g x σ H1 D.nx
def IQ{g:TG}(he:PE X e te)(hg:PG X tg g)(hs:autoParam (U6 [tg] e pos.line X.env=pure ZD) u_)(hw:autoParam (U7 [tg] e X.env=pure ZB) u_)
  (h1:autoParam ((Pv [tg] X.env).map (·.2)=[assign tg X.env]) u_):PS X (.Assign [tg] e pos) (B8 te g):=by
 intro bv s σ H D I h;refine wpAny_Assign_stores (cF (he bv s σ H _ I h) λv s1 ⟨x,H1,I1,r1,q1⟩=>?_) hs hw
 rw[h1];exact cF (hg bv s1 σ H1 x v _ I1 r1 q1) λ_ s2 q=>q
def pz{pos':Pos}(hN:X.N.Nodup)(hi:X.N[i]?=ZA x)(hx:Loc X.env.scope x)(he:PE X e te)(hs:autoParam (OQ e (ZA (.Name x pos')) pos.line X.env=pure ZD) u_)(hf:autoParam (X.fn x=ZC\/X.env.scope.names.lookup x=ZA .local) r_):
  PS X (.Assign [.Name x pos'] e pos) (B8 te (DL i)):=by
 intro bv s σ H D I h;refine wpAny_Assign_Name (cF (he bv s σ H _ I h) λv s1 ⟨y,H1,I1,r1,q1⟩=>?_) hs
 exact vZ I1 hN hi hx r1 (λs2 I2=>⟨_,H1,I2,q1⟩) hf
end
variable{body:List ZF}
section
variable {pos:Pos}
def ye(c:TT)(tb:TS):TS:=λD σ H=>∃W:Nat->St->Hp->Prop,(∃m,W m σ H)/\∀m σ H,W m σ H →
 c σ H λb H1=>if b=ZC then ∃N:St->Hp->Prop,(∀σ' H',N σ' H'->∃m',m'<m/\W m' σ' H')/\tb {D with nx:=N,ct:=N,bk:=D.nx} σ H1 else D.nx σ H1
def CF{tb:TS}(hp:PassesOwn (ZK X.prog X.w) X.A X.env X.xe)(hc:PT X c tc)(hb:PSs X body tb):PS X (.While c body [] pos) (ye tc tb):=by
 intro bv s σ H D I h;obtain⟨W,⟨m0,w0⟩,turn⟩:=h;refine wpAny_While (codeAny_whileLoop (λn s'=>∃σ' H',Inv X bv σ' H' s'/\W n σ' H') ?_ m0 ⟨σ,H,I,w0⟩)
 rintro n s1 ⟨σ1,H1,I1,w1⟩
 refine Wu hp (cF (hc bv s1 σ1 H1 _ I1 (turn n σ1 H1 w1)) λb s2 hh_=>?_)
 obtain⟨H2,I2,q2⟩:=hh_
 cases b with
 |true=>
  obtain⟨N,hN,q2⟩:=q2;rw[if_pos rfl];refine Wu hp (cF (hb bv s2 σ1 H2 _ I2 q2) λf s3 q3=>?_)
  cases f with
  |next=>
   obtain⟨σ3,H3,I3,n3⟩:=q3;obtain⟨m',hm,w3⟩:=hN σ3 H3 n3
   exact⟨m',hm,σ3,H3,I3,w3⟩
  |cont=>
   obtain⟨σ3,H3,I3,n3⟩:=q3;obtain⟨m',hm,w3⟩:=hN σ3 H3 n3
   exact⟨m',hm,σ3,H3,I3,w3⟩
  |brk=>exact q3
  |ret v=>exact q3
 |false=>
  rw[if_neg N3];exact Sw ⟨σ1,H2,I2,q2⟩
end
structure It where
 go:Nat->Hp->Prop
 yld:Nat->Hp->V->Hp->Prop
 stop:Nat->Hp->Prop
def mQ(X:Cx)(bv:W2)(H:Hp)(b:ZE):Prop:=
 H b=ZB/\b≠X.env.locals/\b∉X.fs/\(b∈X.ex\/X.s₀.heap.objs.size<=b)/\(∀x c,X.env.cells.lookup x=ZA c->c≠b)/\∀p∈X.pn++bv,p.1≠b
def Inv.Mw(I:Inv X bv σ H s)(hb:s.heap.objs.size<=b)(hn:H' b=ZB):mQ X bv H' b:=by
 refine⟨hn,Qz (NK I.lt hb),I.Np hb,.inr (Oj I.sz hb),λx c e z=>?_,λp hp z=>?_⟩
 ·obtain⟨v,q⟩:=I.cell x c e
  exact absurd (NK q.lt (by rw[z];exact hb)) (N4 _)
 ·exact absurd (NK (NJ (I.pin p hp).1) (by rw[z];exact hb)) (N4 _)
structure BE (P:N1)(w:OF)(K:Nt)(tg:ZG)(J:It)(fp:List ZE)(it:ZE)(tn:Nat->ZH->Prop):Prop where
 mem:it∈fp
 obj:∀i h,tn i h->∀b∈fp,∃o,h.get? b=ZA o/\∀v,o.data≠ .cell v
 keep:∀i h h',tn i h->(∀b∈fp,∀o,h.get? b=ZA o->h'.get? b=ZA o)->tn i h'
 item:∀(X:Cx),X.prog=P->X.w=w->X.K=K->X.calm=ZC->∀(i:Nat)(bv:W2)(s:NB)(σ:St)(H:Hp)(E:W1),Inv X bv σ H s->(∀b∈fp,mQ X bv H b)->tn i s.heap->J.go i H →
  ZJ (ZK P w) X.A (pyNext (.ref it)) (λr s1=>∃u,r=ZA u ∧
   ZJ (ZK P w) X.A (RI tg (.ref it) u) (λ_ s2=>∃x H',Inv X bv σ H' s2/\RelV x u/\J.yld i H x H'/\tn (i+1) s2.heap/\∀b∈fp,H' b=ZB) E s1) E s
 done:∀(X:Cx),X.prog=P->X.w=w->X.K=K->X.calm=ZC->∀(i:Nat)(bv:W2)(s:NB)(σ:St)(H:Hp)(E:W1),Inv X bv σ H s->(∀b∈fp,mQ X bv H b)->tn i s.heap->J.stop i H →
  ZJ (ZK P w) X.A (pyNext (.ref it)) (λr s1=>r=ZB/\Inv X bv σ H s1) E s
 self:∀(A:Os)(i:Nat)(s:NB)(Q:W1)(E:W1),tn i s.heap->Q (.ref it) s->ZJ (ZK P w) A (pyIter (.ref it)) Q E s
abbrev TI:=St->Hp->(It->Hp->Prop)->Prop
def PIE(X:Cx)(bv:W2)(σ:St)(tg:ZG)(R:It->Hp->Prop)(itv:NA)(s2:NB):Prop:=
 ∃(it:ZE)(fp:List ZE)(tn:Nat->ZH->Prop)(J:It)(H':Hp),itv=.ref it/\Inv X bv σ H' s2/\BE X.prog X.w X.K tg J fp it tn/\tn 0 s2.heap/\(∀b∈fp,mQ X bv H' b)/\R J H'
def PI(X:Cx)(tg iter:ZG)(wi:TI):Prop:=
 ∀(bv:W2)(s:NB)(σ:St)(H:Hp)(R:It->Hp->Prop),Inv X bv σ H s->wi σ H R →
  ZJ (ZK X.prog X.w) X.A (eval iter X.env) (λv s1=>ZJ (ZK X.prog X.w) X.A (pyIter v) (PIE X bv σ tg R) X.xe s1) X.xe s
def Ap{u:NA}{o:Obj}{n:String}{vs:Array NA}{Q:Unit->NB->Prop}(ho:s.heap.get? it=ZA o)(hc:o.cls=.type n)(hd:o.data=.fields vs)
  (hn:["enumerate","zip","dict_itemiterator","dict_reverseitemiterator","odict_iterator","itertools.zip_longest","itertools.pairwise"].contains n=ZD) (hQ:Q () s):ZJ M A (RI tg (.ref it) u) Q E s:=by
 unfold RI
 cases tg <;> first
  |exact Nz hQ
  | (cases u <;> first
    |exact Nz hQ
    | (refine Nq (wpAny_load ho ?_)
       rw[hc,hd]
       show ZJ M A (if (["enumerate","zip","dict_itemiterator","dict_reverseitemiterator","odict_iterator","itertools.zip_longest","itertools.pairwise"].contains n&&vs[0]? == ZA (rawInt _))=ZC then _ else _) Q E s
       rw[if_neg (by intro h;rw[hn,Bool.false_and]at h;cases h)]
       exact Nz hQ))
def Itl(K:Nt)(a:ZE):It:=
 ⟨λi H=>∃xs x,SqL K H a xs/\xs[i]?=ZA x,λi H x H'=>H'=H/\∀xs,SqL K H a xs->xs[i]?=ZA x,λi H=>∃xs,SqL K H a xs/\xs.length<=i⟩
def Itt(K:Nt)(a:ZE):It:=
 ⟨λi H=>∃xs x,SqT K H a xs/\xs[i]?=ZA x,λi H x H'=>H'=H/\∀xs,SqT K H a xs->xs[i]?=ZA x,λi H=>∃xs,SqT K H a xs/\xs.length<=i⟩
def Itr(lo:Int)(n:Nat):It:=⟨λi _=>i<n,λi H x H'=>H'=H/\x=.int (lo+i),λi _=>n<=i⟩
def AQ(a it:ZE):BE P w K tg (Itl K a) [it] it (λi h=>h.IsListIter it a i) where
 mem:=by simp
 obj:=λi h st b hb=>by
  have e:b=it:=by simpa using hb
  subst e;obtain⟨o,e,c,d⟩:=st;exact⟨o,e,λv z=>by rw[d]at z;cases z⟩
 keep:=λi h h' st k=>st.at λo e=>k it (by simp) o e
 item:=by
  intro X hP hw hK hc i bv s σ H E I hf st hg;subst hP hw hK;obtain⟨xs,x,hq,hx⟩:=hg;obtain⟨its,rv,p,hz⟩:=I.list hq;obtain⟨u,hu,ru⟩:=rv.get hx;obtain⟨f0,f1,f2,f3,f4,f5⟩:=hf it (by simp)
  refine TK st p.isList (x:=u) (by simpa using hu) λh' st' sb=>?_
  have I1:Inv X bv σ H {s with heap:=h'}:=I.turned (t':=s.toks) (λb o hb e=>(sb.2 b hb).trans e) f0 f1 f3 f4 f5
  obtain⟨o,e,c,d⟩:=id st';exact⟨u,rfl,Ap (s:={s with heap:=h'}) e c d (by decide) ⟨x,H,I1,ru,⟨rfl,λys hy=>by rw[I.Mr hy hq];exact hx⟩,st',λb hb=>(hf b hb).1⟩⟩
 done:=by
  intro X hP hw hK hc i bv s σ H E I hf st hg;subst hP hw hK;obtain⟨xs,hq,hx⟩:=hg;obtain⟨its,rv,p,hz⟩:=I.list hq;obtain⟨f0,f1,f2,f3,f4,f5⟩:=hf it (by simp)
  have hl:=rv.length;exact Ub (I.ok.hd hc) st p.isList (by simp;omega) λh' eb=>⟨rfl,I.turned (t':=s.toks) (λb o hb e=>eb b o hb e) f0 f1 f3 f4 f5⟩
 self:=λ_ _ _ _ _ st h=>wpAny_pyIter_listiter st h
def x9(a it:ZE):BE P w K tg (Itt K a) [it] it (λi h=>h.IsTupleIter it a i) where
 mem:=by simp
 obj:=λi h st b hb=>by
  have e:b=it:=by simpa using hb
  subst e;obtain⟨o,e,c,d⟩:=st;exact⟨o,e,λv z=>by rw[d]at z;cases z⟩
 keep:=λi h h' st k=>st.at λo e=>k it (by simp) o e
 item:=by
  intro X hP hw hK hc i bv s σ H E I hf st hg;subst hP hw hK;obtain⟨xs,x,hq,hx⟩:=hg;obtain⟨its,rv,p,hz⟩:=I.tuple hq;obtain⟨u,hu,ru⟩:=rv.get hx;obtain⟨f0,f1,f2,f3,f4,f5⟩:=hf it (by simp)
  refine wpAny_pyNext_tuple_item st (show s.heap.IsTuple a its.toArray from p) (x:=u) (by simpa using hu) λh' st' sb=>?_
  have I1:Inv X bv σ H {s with heap:=h'}:=I.turned (t':=s.toks) (λb o hb e=>(sb.2 b hb).trans e) f0 f1 f3 f4 f5
  obtain⟨o,e,c,d⟩:=id st';exact⟨u,rfl,Ap (s:={s with heap:=h'}) e c d (by decide) ⟨x,H,I1,ru,⟨rfl,λys hy=>by rw[I.Mo hy hq];exact hx⟩,st',λb hb=>(hf b hb).1⟩⟩
 done:=by
  intro X hP hw hK hc i bv s σ H E I hf st hg;subst hP hw hK;obtain⟨xs,hq,hx⟩:=hg;obtain⟨its,rv,p,hz⟩:=I.tuple hq;obtain⟨f0,f1,f2,f3,f4,f5⟩:=hf it (by simp)
  have hl:=rv.length;exact wpAny_pyNext_tuple_end (I.ok.hd hc) st (show s.heap.IsTuple a its.toArray from p) (by simp;omega) λh' eb=>⟨rfl,I.turned (t':=s.toks) (λb o hb e=>eb b o hb e) f0 f1 f3 f4 f5⟩
 self:=λ_ _ _ _ _ st h=>wpAny_pyIter_tupleiter st h
def yc(it:ZE)(lo:Int)(n:Nat):BE P w K tg (Itr lo n) [it] it (λi h=>IsRangeIter h it (lo+(i:Nat)*1) ((n:Int) - (i:Nat)) 1) where
 mem:=by simp
 obj:=λi h st b hb=>by
  have e:b=it:=by simpa using hb
  subst e
  exact⟨_,st,λv z=>by
   have z':Data.fields _=Data.cell v:=z;cases z'⟩
 keep:=λi h h' st k=>k it (by simp) _ st
 item:=by
  intro X hP hw hK hc i bv s σ H E I hf st hg;subst hP hw hK;obtain⟨f0,f1,f2,f3,f4,f5⟩:=hf it (by simp)
  have W:=Walks.range (prog:=X.prog) (w:=X.w) (I.ok.hd hc) it lo 1 n;refine W.item i s _ _ hg st λv h' tk hv st' kk=>?_
  obtain⟨t,rfl⟩:=hv
  have I1:Inv X bv σ H {s with heap:=h',toks:=tk}:=I.turned (λb o hb e=>kk b o (by simpa using hb) e) f0 f1 f3 f4 f5
  refine⟨_,rfl,Ap (s:={s with heap:=h',toks:=tk}) (n:="range_iterator") st' rfl rfl (by decide) ⟨.int (lo+i),H,I1,⟨t,?_⟩,⟨rfl,rfl⟩,st',λb hb=>(hf b hb).1⟩⟩
  rw[Int.mul_one]
 done:=by
  intro X hP hw hK hc i bv s σ H E I hf st hg;subst hP hw hK;obtain⟨f0,f1,f2,f3,f4,f5⟩:=hf it (by simp)
  exact wpAny_pyNext_range_end (I.ok.hd hc) st (by have:n<=i:=hg;omega) λh' eb=>⟨rfl,I.turned (t':=s.toks) (λb o hb e=>eb b o hb e) f0 f1 f3 f4 f5⟩
 self:=λ_ _ _ _ _ st h=>wpAny_pyIter_rangeiter st h
variable{fp:List ZE}{l:ZG}{tl:TE}
def LB(K:Nt)(tl:TE):TI:=λσ H R=>tl σ H λx H1=>∃a,x=.ref a/\(∃xs,SqL K H1 a xs)/\R (Itl K a) H1
def iTup(K:Nt)(tl:TE):TI:=λσ H R=>tl σ H λx H1=>∃a,x=.ref a/\(∃xs,SqT K H1 a xs)/\R (Itt K a) H1
def FZ(hl:PE X l tl):PI X tg l (LB X.K tl):=by
 intro bv s σ H R I h;refine cF (hl bv s σ H _ I h) λv s1 hh_=>?_
 obtain⟨x,H1,I1,r1,q1⟩:=hh_;obtain⟨a,e,⟨xs,hq⟩,q⟩:=q1;subst e;cases r1;obtain⟨its,rv,p,hz⟩:=I1.list hq;refine Q7 p.isList ?_
 refine⟨s1.heap.objs.size,[s1.heap.objs.size],_,_,H1,rfl,I1.kept (t':=s1.toks) λb o e=>Nr _ e,AQ a _,⟨_,NI _ rfl,rfl,rfl⟩,λb hb=>?_,q⟩
 have e:b=s1.heap.objs.size:=by simpa using hb
 subst e;exact I1.Mw (NL _) (I1.hok.fresh (NL _))
def IS(hl:PE X l tl):PI X tg l (iTup X.K tl):=by
 intro bv s σ H R I h;refine cF (hl bv s σ H _ I h) λv s1 hh_=>?_
 obtain⟨x,H1,I1,r1,q1⟩:=hh_;obtain⟨a,e,⟨xs,hq⟩,q⟩:=q1;subst e;cases r1;obtain⟨its,rv,p,hz⟩:=I1.tuple hq;refine Qe (show s1.heap.IsTuple a its.toArray from p) ?_
 refine⟨s1.heap.objs.size,[s1.heap.objs.size],_,_,H1,rfl,I1.kept (t':=s1.toks) λb o e=>Nr _ e,x9 a _,⟨_,NI _ rfl,rfl,rfl⟩,λb hb=>?_,q⟩
 have e:b=s1.heap.objs.size:=by simpa using hb
 subst e;exact I1.Mw (NL _) (I1.hok.fresh (NL _))
def mj{R:It->Hp->Prop}{lo hi:Int}{t u v:Tok}{tk:Nat}(I:Inv X bv σ H s)(h1 : -(2 ^ 62)<=lo)(h2:lo<2 ^ 62)(h3 : -(2 ^ 62)<=hi)(h4:hi<2 ^ 62)
  (q:R (Itr lo (hi - lo).toNat) H):ZJ (ZK X.prog X.w) X.A (pyIter (.ref s.heap.objs.size)) (PIE X bv σ tg R) E {s with heap:=s.heap.push {cls:=.type "range",data:=.fields #[.int lo t,.int hi u,.int 1 v]},toks:=tk}:=by
 refine wpAny_pyIter_range (IsRange.new ..) (small_one h1 h2 h3 h4) ?_
 have I1:Inv X bv σ H {s with heap:=s.heap.push {cls:=.type "range",data:=.fields #[.int lo t,.int hi u,.int 1 v]},toks:=tk}:=I.kept λb o e=>Nr _ e
 refine⟨(s.heap.push {cls:=.type "range",data:=.fields #[.int lo t,.int hi u,.int 1 v]}).objs.size,[(s.heap.push {cls:=.type "range",data:=.fields #[.int lo t,.int hi u,.int 1 v]}).objs.size],_,_,H,rfl,
  I1.kept (t':=tk) λb o e=>Nr _ e,yc _ lo (hi - lo).toNat,?_,λb hb=>?_,q⟩
 ·have e1:lo+((0:Nat):Int)*1=lo:=by simp
  have e2:(((hi - lo).toNat:Nat):Int) - ((0:Nat):Int)=Builtin.Range.rangeSize lo hi 1:=by rw[rangeSize_one];split <;> omega
  show IsRangeIter _ _ (lo+((0:Nat):Int)*1) ((((hi - lo).toNat:Nat):Int) - ((0:Nat):Int)) 1
  rw[e1,e2];exact NI _ rfl
 ·have e:b=(s.heap.push {cls:=.type "range",data:=.fields #[.int lo t,.int hi u,.int 1 v]}).objs.size:=by simpa using hb
  subst e;exact I1.Mw (NL _) (I1.hok.fresh (NL _))
def tFor(wi:TI)(g:TG)(tb:TS):TS:=λD σ H=>wi σ H λJ H1=>∃W:Nat->Nat->St->Hp->Prop,(∃m,W 0 m σ H1)/\∀i m σ H,W i m σ H →
 (J.stop i H/\D.nx σ H)\/(J.go i H/\∃N:St->Hp->Prop,(∀σ' H',N σ' H'->∃m',m'<m/\W (i+1) m' σ' H')/\∀x H',J.yld i H x H'->g x σ H' λσ2 H2=>tb {D with nx:=N,ct:=N,bk:=D.nx} σ2 H2)
def pC(fp:List ZE)(h:ZH):W2:=fp.filterMap λb=>(h.get? b).map λo=>(b,o)
def jb{o:Obj}(hb:b∈fp)(e:h.get? b=ZA o):(b,o)∈pC fp h:=PL.mpr ⟨b,hb,by rw[e];rfl⟩
def A6{p:ZE×Obj}(hp:p∈pC fp h):p.1∈fp/\h.get? p.1=ZA p.2:=by
 obtain⟨b,hb,e⟩:=PL.mp hp
 cases q:h.get? b with
 |none=>rw[q]at e;cases e
 |some o=>
  rw[q]at e
  have e':(b,o)=p:=Om e;subst e';exact⟨hb,q⟩
def Inv.pinned(I:Inv X bv σ H s)(hf:∀b∈fp,mQ X bv H b)(ho:∀b∈fp,∃o,s.heap.get? b=ZA o/\∀v,o.data≠ .cell v):Inv X (bv++pC fp s.heap) σ H s:=
 I.MA λp hp=>(Oa.mp hp).elim (λz=>I.pin p (N7 _ z)) λz=>by
  obtain⟨hb,e⟩:=A6 z;obtain⟨f0,f1,f2,_⟩:=hf p.1 hb;obtain⟨o,e',d⟩:=ho p.1 hb;rw[e]at e';cases e';exact⟨e,f0,f1,f2,d⟩
def Inv.Mk{pl:W2}(I:Inv X (bv++pl) σ H s):Inv X bv σ H s:=I.MA λp hp=>I.pin p (N7 _ (OZ _ hp))
abbrev R2:=V->V->Hp->VK->Prop
def rN(X:Cx)(f:NA->NA->Sem NA)(r:R2):Prop:=
 ∀(bv:W2)(s:NB)(σ:St)(H:Hp)(x y:V)(v u:NA)(Q:VK),Inv X bv σ H s->RelV x v->RelV y u->r x y H Q →
  ZJ (ZK X.prog X.w) X.A (f v u) (EP X bv σ Q) X.xe s
def UnR(X:Cx)(f:NA->Sem NA)(r:V->Hp->VK->Prop):Prop:=
 ∀(bv:W2)(s:NB)(σ:St)(H:Hp)(x:V)(v:NA)(Q:VK),Inv X bv σ H s->RelV x v->r x H Q →
  ZJ (ZK X.prog X.w) X.A (f v) (EP X bv σ Q) X.xe s
def CallR(X:Cx)(f:NA)(r:List V->Hp->VK->Prop):Prop:=
 ∀(bv:W2)(s:NB)(σ:St)(H:Hp)(xs:List V)(us:List NA)(Q:VK),Inv X bv σ H s->Vals xs us->r xs H Q →
  ZJ (ZK X.prog X.w) X.A (call f us) (EP X bv σ Q) X.xe s
def tUn(r:V->Hp->VK->Prop)(ta:TE):TE:=λσ H Q=>ta σ H λx H1=>r x H1 Q
def rI(C:Int->Int->Prop)(g:Int->Int->V):R2:=λx y H Q=>∃i j,x=.int i/\y=.int j/\C i j/\Q (g i j) H
def Fp(g:Int->Int->V):R2:=λx y H Q=>∃i j,x=.int i/\y=.int j/\Q (g i j) H
def rU(g:Int->V):V->Hp->VK->Prop:=λx H Q=>∃i,x=.int i/\Q (g i) H
variable{f:NA->NA->Sem NA}
section
variable {a b:ZG}{tb tc:TE}{pos:Pos}
def K6{op:UnaryOp}{r:V->Hp->VK->Prop}(ho:UnR X (unaryOp op) r)(ha:PE X a ta):PE X (.UnaryOp op a pos) (tUn r ta):=by
 intro bv s σ H Q I h;exact UnaryOp_ (cF (ha bv s σ H _ I h) λv s1 ⟨x,H1,I1,r1,q1⟩=>ho bv s1 σ H1 x v Q I1 r1 q1)
def opI{C:Int->Int->Prop}
  (rule:∀(i j:Int)(t u:Tok)(s:NB)(Q:W1)(E:W1),C i j->Q (.int (g i j) s.toks) {s with toks:=s.toks+1}->ZJ (ZK X.prog X.w) X.A (f (.int i t) (.int j u)) Q E s):
  rN X f (rI C λi j=>.int (g i j)):=by
 intro bv s σ H x y v u Q I rx ry h;obtain⟨i,j,rfl,rfl,hc,q⟩:=h;obtain⟨t,rfl⟩:=rx;obtain⟨t',rfl⟩:=ry;exact rule i j t t' s _ _ hc ⟨.int (g i j),H,I.tok _,⟨_,rfl⟩,q⟩
def Lg 
  (rule:∀(i j:Int)(t u:Tok)(s:NB)(Q:W1)(E:W1),Q (.int (g i j) s.toks) {s with toks:=s.toks+1}->ZJ (ZK X.prog X.w) X.A (f (.int i t) (.int j u)) Q E s):
  rN X f (Fp λi j=>.int (g i j)):=by
 intro bv s σ H x y v u Q I rx ry h;obtain⟨i,j,rfl,rfl,q⟩:=h;obtain⟨t,rfl⟩:=rx;obtain⟨t',rfl⟩:=ry;exact rule i j t t' s _ _ ⟨.int (g i j),H,I.tok _,⟨_,rfl⟩,q⟩
def Gb{g:Int->Int->Bool}
  (rule:∀(i j:Int)(t u:Tok)(s:NB)(Q:W1)(E:W1),Q (.bool (g i j)) s->ZJ (ZK X.prog X.w) X.A (f (.int i t) (.int j u)) Q E s):
  rN X f (Fp λi j=>.bl (g i j)):=by
 intro bv s σ H x y v u Q I rx ry h;obtain⟨i,j,rfl,rfl,q⟩:=h;obtain⟨t,rfl⟩:=rx;obtain⟨t',rfl⟩:=ry;exact rule i j t t' s _ _ ⟨.bl (g i j),H,I,rfl,q⟩
def CDiv(i j:Int):Prop:=0<j/\j<1073741824
def CMul(i j:Int):Prop:=(-(2 ^ 64)<i/\i<2 ^ 64)\/(-(2 ^ 64)<j/\j<2 ^ 64)
def CMul.ok{i j:Int}(h:CMul i j):IntMulOk i j:=by
 rcases h with⟨h1,h2⟩|⟨h1,h2⟩
 ·exact .of_left (intBits_le_64 h1 h2)
 ·exact .of_right (intBits_le_64 h1 h2)
def Ji:rN X (PM .Add) (Fp λi j=>.int (i+j)):=Lg λ_ _ _ _ _ _ _ q=>add_int q
def Jc:rN X (PM .Sub) (Fp λi j=>.int (i - j)):=Lg λ_ _ _ _ _ _ _ q=>sub_int q
def Je:rN X (PM .Mult) (rI CMul λi j=>.int (i*j)):=opI λ_ _ _ _ _ _ _ hc q=>mul_int q hc.ok
def F9:rN X (PM .FloorDiv) (rI CDiv λi j=>.int (i / j)):=opI λi j _ _ _ _ _ hc q=>by
 have h1:(0:Int)<j:=hc.1
 have h2:j<1073741824:=hc.2;exact floordiv_int (by omega) (by rw[Int.fdiv_eq_ediv_of_nonneg i (by omega)];exact q) (.inl (PyProof.noPylong_small (by omega)))
def Jf:rN X (PM .Mod) (rI (λ_ j=>0<j) λi j=>.int (i % j)):=opI λi j _ _ _ _ _ hc q=>by
 have h1:(0:Int)<j:=hc;exact mod_int' (by omega) (by rw[Int.fmod_eq_emod_of_nonneg i (by omega)];exact q)
def unI{f:NA->Sem NA}{g:Int->Int}
  (rule:∀(i:Int)(t:Tok)(s:NB)(Q:W1)(E:W1),Q (.int (g i) s.toks) {s with toks:=s.toks+1}->ZJ (ZK X.prog X.w) X.A (f (.int i t)) Q E s):
  UnR X f (rU λi=>.int (g i)):=by
 intro bv s σ H x v Q I rx h;obtain⟨i,rfl,q⟩:=h;obtain⟨t,rfl⟩:=rx;exact rule i t s _ _ ⟨.int (g i),H,I.tok _,⟨_,rfl⟩,q⟩
def HI:UnR X (unaryOp .USub) (rU λi=>.int (-i)):=unI λ_ _ _ _ _ q=>neg_int q
end
section
variable {a b:ZG}{tb tc:TE}{pos:Pos}
def DT{Q:VK}{k k':Bool}(I:Inv X bv σ H s)(q:Q (.bl k) H)(e:k=k'):EP X bv σ Q (.bool k') s:=by
 subst e;exact⟨.bl k,H,I,rfl,q⟩
def Lb:rN X (OD .Lt) (Fp λi j=>.bl (decide (i<j))):=Gb λ_ _ _ _ _ _ _ q=>lt_int q
def Lc:rN X (OD .LtE) (Fp λi j=>.bl (decide (i<=j))):=Gb λ_ _ _ _ _ _ _ q=>le_int q
def Ld:rN X (OD .Gt) (Fp λi j=>.bl (decide (j<i))):=Gb λ_ _ _ _ _ _ _ q=>gt_int q
def Lf:rN X (OD .GtE) (Fp λi j=>.bl (decide (j<=i))):=Gb λ_ _ _ _ _ _ _ q=>ge_int q
def Jg:rN X (OD .Is) (λx y H Q=>y=.non/\Q (.bl (decide (x=.non))) H):=by
 intro bv s σ H x y v u Q I rx ry h;obtain⟨rfl,q⟩:=h;cases ry;refine is_none_gen (DT I q ?_)
 cases x <;> first
  | (cases rx;rfl)
  | (obtain⟨t,rfl⟩:=rx;rfl)
def F8:rN X (OD .IsNot) (λx y H Q=>y=.non/\Q (.bl (!decide (x=.non))) H):=by
 intro bv s σ H x y v u Q I rx ry h;obtain⟨rfl,q⟩:=h;cases ry;refine isnot_none_gen (DT I q ?_)
 cases x <;> first
  | (cases rx;rfl)
  | (obtain⟨t,rfl⟩:=rx;rfl)
def p6:(ZI:Nat)<2 ^ 63:=by rw[O9];decide
def yB:rN X (PM .Add) (λx y H Q=>∃i j,x=.str i/\y=.str j/\i.length+j.length<=ZI/\Q (.str (i++j)) H):=by
 intro bv s σ H x y v u Q I rx ry h;obtain⟨i,j,rfl,rfl,hz,q⟩:=h;obtain⟨t,rfl⟩:=rx;obtain⟨t',rfl⟩:=ry;exact add_str (λt' tk=>⟨.str (i++j),H,I.tok _,⟨_,rfl⟩,q⟩) hz
def kY{x:V}(r:Vals [x] us):∃u,us=[u]/\RelV x u:=by
 cases r with
 |cons r1 r2=>cases r2;exact⟨_,rfl,r1⟩
def B1{x y:V}(r:Vals [x,y] us):∃u w',us=[u,w']/\RelV x u/\RelV y w':=by
 cases r with
 |cons r1 r2=>
  cases r2 with
  |cons r3 r4=>cases r4;exact⟨_,_,rfl,r1,r3⟩
def BA(hc:X.calm=ZC):CallR X (.builtin "max") (λxs H Q=>∃i j,xs=[.int i,.int j]/\Q (.int (if j > i then j else i)) H):=by
 intro bv s σ H xs us Q I r h;obtain⟨i,j,rfl,q⟩:=h;obtain⟨u,w',rfl,⟨t,rfl⟩,⟨t',rfl⟩⟩:=B1 r;refine max_two_ints (I.ok.hd hc) λh' tk k=>⟨_,H,I.kept k,?_,q⟩
 by_cases hj:j > i
 ·rw[if_pos hj,if_pos hj];exact⟨_,rfl⟩
 ·rw[if_neg hj,if_neg hj];exact⟨_,rfl⟩
def Bz(hc:X.calm=ZC):CallR X (.builtin "min") (λxs H Q=>∃i j,xs=[.int i,.int j]/\Q (.int (if j<i then j else i)) H):=by
 intro bv s σ H xs us Q I r h;obtain⟨i,j,rfl,q⟩:=h;obtain⟨u,w',rfl,⟨t,rfl⟩,⟨t',rfl⟩⟩:=B1 r;refine min_two_ints (I.ok.hd hc) λh' tk k=>⟨_,H,I.kept k,?_,q⟩
 by_cases hj:j<i
 ·rw[if_pos hj,if_pos hj];exact⟨_,rfl⟩
 ·rw[if_neg hj,if_neg hj];exact⟨_,rfl⟩
def BC:CallR X (.type "int") (λxs H Q=>(∃i,xs=[.int i]/\Q (.int i) H)\/∃k,xs=[.bl k]/\Q (.int (if k then 1 else 0)) H):=by
 intro bv s σ H xs us Q I r h;rcases h with⟨i,rfl,q⟩|⟨k,rfl,q⟩
 ·obtain⟨u,rfl,t,rfl⟩:=kY r
  exact call_int_int ⟨.int i,H,I,⟨_,rfl⟩,q⟩
 ·obtain⟨u,rfl,r1⟩:=kY r
  cases r1;exact call_int_bool ⟨.int (if k then 1 else 0),H,I.tok _,⟨_,rfl⟩,q⟩
end
structure ObjM (h:ZH)(x dx C:ZE)(mA:W0):Prop where
 obj:h.get? x=ZA (TN C dx)
 ns:h.Ns1 dx mA
 ne:dx≠x
variable{dx:ZE}{mA:W0}
def Bd(n:h.Ns1 dx mA):∃od,h.get? dx=ZA od/\∀name,UC name od=ZA (mA name):=by
 obtain⟨o,es,ep,ho,hd,hk,_,hm⟩:=n;refine⟨o,ho,λname=>?_⟩
 have e:=hm name;unfold nsFind findBy at e;rw[<-UU]at e
 unfold UC;rw[hd]
 dsimp only
 split
 ·rename_i y q
  rw[q]at e;exact congrArg ZA e
 ·rename_i q
  rw[q]at e
  have a:es.toList.any (·.refKey)=ZD:=by
   rw[S2];intro y hy;obtain⟨z,t,hkey⟩:=hk y (Array.mem_toList_iff.mp hy);simp[DictEntry.refKey,hkey]
  have a':¬ es.toList.any (·.refKey)=ZC:=by rw[a];exact N3
  rw[if_neg a'];exact congrArg ZA e
variable{C:ZE}
def ObjM.look{x:ZE}(I:ObjM h x dx C mA):∃od,PySem.W.InstAt h x (TN C dx) C (ZA od)/\∀name,UC name od=ZA (mA name):=
 let ⟨od,ho,hl⟩:=Bd I.ns
 ⟨od,⟨I.obj,rfl,rfl,ho⟩,hl⟩
def RelO.some_of{o:Option NA}(r:RelO (ZA v) o):∃u,o=ZA u/\RelV v u:=by
 cases o with
 |none=>exact(show False from r).elim
 |some u=>exact⟨u,rfl,r⟩
section
variable {fs fs':List (Str×V)}
def Gw(hok:HOk P w H h)(e:H a=ZA (.ins C dx fs)):∃mA,ObjM h a dx C mA/\(∀f,RelO (fs.lookup f) (mA f))/\PySem.Within mA (fs.map (·.1))/\fs.length<=1000/\H dx=ZA (.own a):=by
 obtain⟨d,z,ne,ob,mA,n,r,q⟩:=(show ObjOk P w H h a (.ins C dx fs)from hok a _ e)
 exact⟨mA,⟨ob,n,ne⟩,r,q,z,d⟩
end
structure Cls (K:Nt)(C:ZE):Prop where
 pg:VT K C Str.empty=ZC
 hd:PySem.W.hasDictIn K C=ZC
 po:PySem.W.plainOver K C=ZC
 sa:PySem.W.findIn K (.ref C) "__setattr__" =ZA (ZA (.builtin "object.__setattr__"))
def Cls.get(c:Cls K C)(f:Str):VT K C f=ZC:=c.pg
section
variable {c:NA}{b:Bool}
inductive nG (K:Nt) (H:Hp):V->NA->Prop where
 |non:nG K H .non (.type "NoneType")
 |bl (x:Bool):nG K H (.bl x) (.type "bool")
 |int (i:Int):nG K H (.int i) (.type "int")
 |str (x:Str):nG K H (.str x) (.type "str")
 |flt (x:UInt64):nG K H (.flt x) (.type "float")
 |lst {a:ZE} {xs:List V} (e:H a=ZA (.lst xs)):nG K H (.ref a) (.type "list")
 |frz {a:ZE} {o:Obj} {xs:List V} (e:H a=ZA (.frz o (.lst xs))):nG K H (.ref a) (.type "list")
 |tup {a:ZE} {xs:List V} (e:H a=ZA (.tup xs)):nG K H (.ref a) (.type "tuple")
 |dK {a:ZE} {kvs:List (Key×V)} (e:H a=ZA (.dK kvs)):nG K H (.ref a) (.type "dict")
 |dT {a:ZE} {kvs:List (List Key×V)} (e:H a=ZA (.dT kvs)):nG K H (.ref a) (.type "dict")
 |ins {a C dx:ZE} {fs:List (Str×V)} (e:H a=ZA (.ins C dx fs)) (cl:Cls K C) (ha:PySem.W.findIn K (.ref C) "__class__" =ZA (ZA (.builtin "object.__class__")))
   (hn:PySem.W.specialIn K (.builtin "object.__class__") "__get__" =ZA (ZA (.builtin "getset_descriptor.__get__"))) (htk:PySem.W.takesIn K (.builtin "object.__class__")=ZA ZC)
   (hm:PySem.W.mroIn K C (.type "object")=ZA ZC):nG K H (.ref a) (.ref C)
def Bk{x:V}{u t:NA}(I:Inv X bv σ H s)(rx:RelV x u)(ty:nG X.K H x t)(e:PySem.W.kitOne X.K t c=ZA b)(h:∀tk,Q (.bool b) {s with toks:=tk}):
  ZJ (ZK X.prog X.w) A (call (.builtin "isinstance") [u,c]) Q E s:=by
 cases ty with
 |non=>cases (show u=OA from rx);exact Pg PySem.W.kitx_none I.kIn PZ e (λz=>nomatch z) h
 |bl y=>cases (show u=Pb y from rx);exact Pg PySem.W.kitx_bool I.kIn PZ e (λz=>nomatch z) h
 |int i=>obtain⟨t,q⟩:=(show ∃t,u=Pc i t from rx);cases q;exact Pg PySem.W.kitx_int I.kIn PZ e (λz=>nomatch z) h
 |str y=>obtain⟨t,q⟩:=(show ∃t,u=PD y t from rx);cases q;exact Pg PySem.W.kitx_str I.kIn PZ e (λz=>nomatch z) h
 |flt y=>obtain⟨t,q⟩:=(show ∃t,u=Value.float y t from rx);cases q;exact Pg PySem.W.kitx_float I.kIn PZ e (λz=>nomatch z) h
 |@lst a xs ea=>
  cases (show u=NQ a from rx)
  obtain⟨_,_,n,_,h1⟩:=(show ObjOk X.prog X.w H s.heap a (.lst xs)from I.hok a _ ea)
  exact Pg Vh I.kIn ⟨_,h1,rfl⟩ e (λz=>nomatch z) h
 |@frz a ob xs ea=>
  cases (show u=NQ a from rx)
  obtain⟨_,_,_,n,_,h1⟩:=(show ObjOk X.prog X.w H s.heap a (.frz ob (.lst xs))from I.hok a _ ea)
  exact Pg Vh I.kIn ⟨_,h1,rfl⟩ e (λz=>nomatch z) h
 |@tup a xs ea=>
  cases (show u=NQ a from rx)
  obtain⟨_,_,_,p⟩:=(show ObjOk X.prog X.w H s.heap a (.tup xs)from I.hok a _ ea)
  obtain⟨o,h1,h2,_⟩:=p
  exact Pg PySem.W.kitx_tuple I.kIn ⟨o,h1,h2⟩ e (λz=>nomatch z) h
 |@dK a kvs ea=>
  cases (show u=NQ a from rx)
  obtain⟨_,_,vs,_,p⟩:=(show ObjOk X.prog X.w H s.heap a (.dK kvs)from I.hok a _ ea)
  obtain⟨o,es,ep,h1,h2,_⟩:=p
  exact Pg Vi I.kIn ⟨o,h1,h2.1⟩ e (λz=>nomatch z) h
 |@dT a kvs ea=>
  cases (show u=NQ a from rx)
  obtain⟨_,_,xs,_,o,es,ep,h1,h2,_⟩:=(show ObjOk X.prog X.w H s.heap a (.dT kvs)from I.hok a _ ea)
  exact Pg Vi I.kIn ⟨o,h1,h2.1⟩ e (λz=>nomatch z) h
 |@ins a C dx fs ea cl ha hn htk hm=>
  cases (show u=NQ a from rx)
  obtain⟨mA,O,_⟩:=Gw I.hok ea;obtain⟨od,J,_⟩:=O.look;exact Pg (PySem.W.kitx_own (cl.get _) cl.hd ha hn htk hm) I.kIn J e (λz=>nomatch z) h
end
structure Room (k:Nat)(A:Os):Prop where
 hd:A.handled=ZB
 dp:A.depth+3*k+5<recursionLimit
 un:A.units+16*k+200<cLine
def Room.mono{k:Nat}(r:Room k A)(h:j<=k):Room j A:=⟨r.hd,by have:=r.dp;omega,by have:=r.un;omega⟩
def Room.deeper{k:Nat}(r:Room (k+1) A)(env:Env):Room k (A.deeper env):=
 ⟨r.hd,by have:=r.dp;show A.depth+1+3*k+5<_;omega,by have:=r.un;show A.units+3+16*k+200<_;omega⟩
def Room.depth{k:Nat}(r:Room k A):A.depth<recursionLimit:=by have:=r.dp;omega
def B7:TA:=λ_ H Q=>Q [] H
def lZ(ta:TE)(tr:TA):TA:=λσ H Q=>ta σ H λx H1=>tr σ H1 λxs H2=>Q (x::xs) H2
section
variable {t:TA}{pos:Pos}
def jV:PA X [] B7:=λ_ _ _ _ H Q I h=>Qq ⟨[],H,I,.nil,h⟩
def fx(ha:PE X e te)(hr:PA X es t)(hs:autoParam (NZ (e::es) X.env=(ZD,eval e X.env)::NZ es X.env) u_):PA X (e::es) (lZ te t):=by
 intro pos bv s σ H Q I h;rw[hs]
 show ZJ _ _ (spliced ((ZD,eval e X.env)::backTo pos (NZ es X.env))) _ _ s
 refine Qb (cF (ha bv s σ H _ I h) λu s1 hh_=>?_)
 obtain⟨x,H1,I1,r1,q1⟩:=hh_;exact cF (hr pos bv s1 σ H1 _ I1 q1) λus s2 ⟨xs,H2,I2,r2,q2⟩=>⟨x::xs,H2,I2,.cons r1 r2,q2⟩
def E6(t:TA):TE:=λσ H Q=>t σ H λxs H1=>xs.length<=ZI/\∀p,H1 p=ZB->Q (.ref p) (upd H1 p (.tup xs))
def tLst(t:TA):TE:=λσ H Q=>t σ H λxs H1=>xs.length<=ZI/\∀p,H1 p=ZB->Q (.ref p) (upd H1 p (.lst xs))
def yz{x1}(h:PA X es t):PE X (.Tuple es x1 pos) (E6 t):=by
 intro bv s σ H Q I hq;refine wpAny_Tuple_spliced (cF (h pos bv s σ H _ I hq) λus s1 ⟨xs,H1,I1,r,z,q⟩=>⟨by rw[<-r.length];exact z,?_⟩)
 have hf:H1 s1.heap.objs.size=ZB:=I1.hok.fresh (NL _);refine⟨.ref s1.heap.objs.size,upd H1 s1.heap.objs.size (.tup xs),I1.laid (t':=s1.toks) (λb u e=>Nr _ e) (NL _) ?_,rfl,q _ hf⟩
 exact⟨z,us,r,⟨_,NI _ rfl,rfl,_,rfl⟩⟩
def IX(h:PA X es t):PE X (.List es pos) (tLst t):=by
 intro bv s σ H Q I hq;refine U8 (cF (h pos bv s σ H _ I hq) λus s1 ⟨xs,H1,I1,r,z,q⟩=>⟨by rw[<-r.length];exact z,?_⟩)
 have hf:H1 s1.heap.objs.size=ZB:=I1.hok.fresh (NL _);refine⟨.ref s1.heap.objs.size,upd H1 s1.heap.objs.size (.lst xs),I1.laid (t':=s1.toks) (λb u e=>Nr _ e) (NL _) ?_,rfl,q _ hf⟩
 exact⟨z,us,0,r,NI _ rfl⟩
end
abbrev Sp:=List V->Hp->VK->XK->Prop
abbrev EH:=List Env->Hp->NB->XK->W1
structure EC (P:N1)(w:OF)(K:Nt)(mg:W0)(base:ZH)(A:Os)(outer:List Env)(s:NB)(H:Hp):Prop where
 frames:A.frames=ZA outer
 mod:Mod K mg base
 bs:∀b o,base.get? b=ZA o->s.heap.get? b=ZA o/\H b=ZB
 bsz:base.objs.size<=s.heap.objs.size
 funs:s.heap.FunFrames base outer
 frf:∀b∈u9 outer,H b=ZB
 hok:HOk P w H s.heap
 bare:To s.gens
def CE(outer:List Env)(P:N1)(w:OF)(H:Hp)(s:NB)(Q:VK)(u:NA)(s':NB):Prop:=
 ∃v H',s'.os=s.os/\To s'.gens/\Un (u9 outer) [] H H' s.heap s'.heap/\HOk P w H' s'.heap/\RelV v u/\Q v H'
def CR(CX:EH)(outer:List Env)(P:N1)(w:OF)(H:Hp)(s:NB)(Q:VK)(E:XK)(r:Wv)(s':NB):Prop:=
 match r with
 |.ok (.ret u)=>CE outer P w H s Q u s'
 |.ok _=>False
 |.error e=>CX outer H s E e s'
structure vG (P:N1)(w:OF)(K:Nt)(mg:W0)(base:ZH)(CX:EH)(k:Nat)(f:ZE)(fd:PN)(ps:List Str)(sp:Sp):Prop where
 len:∀vs H Q E,sp vs H Q E->vs.length=ps.length
 run:∀(A:Os)(outer:List Env)(s:NB)(H:Hp)(args:Args)(us:List NA)(vs:List V)(Q:VK)(E:XK),Room k A->EC P w K mg base A outer s H->Vx s fd args (ps.zip us)->Vals vs us->sp vs H Q E →
  ZL (ZK P w) A (.call (.ref f) args) (CR CX outer P w H s Q E) s
variable{Q:VK}
def Inv.Nh(I:Inv X bv σ H s):EC X.prog X.w X.K X.mg X.base X.A X.stack s H:=
 ⟨I.ok.frames,I.ok.mod,I.bs,Oj I.ok.bsz I.sz,I.stack,I.Mu,I.hok,I.bare⟩
def Inv.after{u:NA}(I:Inv X bv σ H s)(h:CE X.stack X.prog X.w H s Q u s'):EP X bv σ Q u s':=by
 obtain⟨v,H',os,bare,un,hok,r,q⟩:=h;obtain⟨hh,g,d,t,os'⟩:=s';obtain rfl:os'=s.os:=os;exact⟨v,H',I.call (h':=hh) (g':=g) (d':=d) (t':=t) (ch:=[]) un hok bare (λb z=>absurd z (by simp)),r,q⟩
def Kr(sp:Sp)(dvs:List V)(E:XK)(t:TA):TE:=λσ H Q=>t σ H λvs H1=>sp (vs++dvs) H1 Q E
def Binds(K:Nt)(fd:PN)(ps:List Str)(ds:List NA):Prop:=
 ∀(s:NB)(us:List NA),K.In s.heap->(us++ds).length=ps.length->Vx s fd ⟨us,[]⟩ (ps.zip (us++ds))
variable{ps:List Str}
def Binds.all(h:∀us:List NA,us.length=ps.length->bindArgs fd ⟨us,[]⟩=pure (ps.zip us)):Binds K fd ps []:=λs us _ hl=>by
 rw[OH]at hl ⊢;exact .of_eq (h us hl)
def zk(CX:EH)(X:Cx)(E:XK):Prop:=∀(bv:W2)(σ:St)(H:Hp)(s:NB)(e:NA)(s':NB),Inv X bv σ H s->CX X.stack H s E e s'->X.xe e s'
variable{CX:EH}{E:XK}{f:ZE}{sp:Sp}{vs:List V}
section
variable {k:Nat}{dvs:List V}{ds:List NA}{m:Str}{p pos apos:Pos}{o:ZG}{t:TA}
def HY(F:vG X.prog X.w X.K X.mg X.base CX k f fd ps sp)(hr:Room k X.A)(hb:Binds X.K fd ps ds)(hd:Vals dvs ds)(hx:zk CX X E)
  (I:Inv X bv σ H s) (r:Vals vs us) (h:sp (vs++dvs) H Q E):ZJ (ZK X.prog X.w) X.A (call (.ref f) us) (EP X bv σ Q) X.xe s:=by
 have r2:Vals (vs++dvs) (us++ds):=r.append hd
 have hl:(us++ds).length=ps.length:=by rw[<-r2.length];exact F.len _ _ _ _ h
 refine wpAny_call (Uc (F.run X.A X.stack s H ⟨us,[]⟩ (us++ds) (vs++dvs) Q E hr I.Nh (hb s us I.kIn hl) r2 h) λr s' hq=>?_)
 cases r with
 |error e=>exact hx bv σ H s e s' I hq
 |ok fl=>
  cases fl with
  |ret u=>exact I.after hq
  |next=>exact Q2 hq
  |brk=>exact Q2 hq
  |cont=>exact Q2 hq
def zN(F:vG X.prog X.w X.K X.mg X.base CX k f fd ps sp)(hr:Room k X.A)(hg:Gl X x)(hm:X.mg x=ZA (.ref f))(hk:RX X.K (.ref f)=ZC)(hb:Binds X.K fd ps ds)(hd:Vals dvs ds)(hx:zk CX X E)
  (ha:PA X (e::es) t) (hdb:autoParam ((x == ("__debug__" : Str))=ZD) s_) (he:autoParam (NZ (e::es) X.env=(ZD,eval e X.env)::NZ es X.env) u_) (hpl:autoParam ((backTo pos (NZ es X.env)).any (·.1)=ZD) u_):
  PE X (.Call (.Name x p) (e::es) [] pos) (Kr sp dvs E t):=by
 intro bv s σ H Q I h;refine OS (oF I hg hm ?_ hdb)
 refine UR (h₀:=X.base) I.ok.mod.kin hk (cF (ha pos bv s σ H _ I h) λus s1 ⟨vs,H1,I1,r,q⟩=>⟨I1.kIn,?_⟩) he hpl
 exact HY F hr hb hd hx I1 r q
end
structure aE (N P:List Str)(sc:Rp):Prop where
 kind:sc.kind=.function
 co:sc.isCoroutine=ZD
 gen:sc.isGenerator=ZD
 nd:N.Nodup
 pre:N.take P.length=P
 par:∀x∈P,sc.names.lookup x=ZA .local\/sc.names.lookup x=ZA .cell
 nofree:∀y∈sc.names,y.2≠ .free
variable{kindOf:Str->Option Q6}
theorem sZ:∀{binds:List (Str×NA)}{m:W0},(∀v,(x,v)∉binds)->bindL kindOf binds m x=m x
 |[],_,_=>rfl
 | (n,v)::r,m,h=>by
  unfold bindL;rw[sZ λw hw=>h w (Nu _ hw)]
  split
  ·have:x≠n:=by rintro rfl;exact h v Nv
   simp[this]
  ·rfl
theorem tj:∀{binds:List (Str×NA)}{m:W0},(∀v,(x,v)∉binds)->bindC kindOf binds m x=m x
 |[],_,_=>rfl
 | (n,v)::r,m,h=>by
  unfold bindC;rw[tj λw hw=>h w (Nu _ hw)]
  split
  ·rfl
  ·have:x≠n:=by rintro rfl;exact h v Nv
   simp[this]
variable{v:NA}
theorem tf:∀{P:List Str}{vs:List NA}{i:Nat}{m:W0},P.Nodup->P[i]?=ZA x->vs[i]?=ZA v->kindOf x=ZA .local →
  bindL kindOf (P.zip vs) m x=ZA v
 |[],_,_,_,_,h,_,_=>by simp at h
 |_::_,[],_,_,_,_,h,_=>by simp at h
 |p::P,w::vs,0,m,nd,h1,h2,hk=>by
  simp at h1 h2;subst h1;subst h2
  show bindL kindOf ((p,w)::P.zip vs) m p=_
  unfold bindL;rw[sZ λv hv=>(Oc.mp nd).1 (Ry hv).1,if_pos hk]
  simp
 |p::P,w::vs,i+1,m,nd,h1,h2,hk=>by
  show bindL kindOf ((p,w)::P.zip vs) m x=_
  unfold bindL;exact tf (i:=i) (Oc.mp nd).2 (by simpa using h1) (by simpa using h2) hk
theorem tq:∀{P:List Str}{vs:List NA}{i:Nat}{m:W0},P.Nodup->P[i]?=ZA x->vs[i]?=ZA v->kindOf x≠ZA .local →
  bindC kindOf (P.zip vs) m x=ZA v
 |[],_,_,_,_,h,_,_=>by simp at h
 |_::_,[],_,_,_,_,h,_=>by simp at h
 |p::P,w::vs,0,m,nd,h1,h2,hk=>by
  simp at h1 h2;subst h1;subst h2
  show bindC kindOf ((p,w)::P.zip vs) m p=_
  unfold bindC;rw[tj λv hv=>(Oc.mp nd).1 (Ry hv).1,if_neg hk]
  simp
 |p::P,w::vs,i+1,m,nd,h1,h2,hk=>by
  show bindC kindOf ((p,w)::P.zip vs) m x=_
  unfold bindC;exact tq (i:=i) (Oc.mp nd).2 (by simpa using h1) (by simpa using h2) hk
def start(N:List Str)(vs:List V):St:=vs.map ZA++N5 (N.length - vs.length) ZB
def nB(CX:EH)(P:N1)(w:OF)(K:Nt)(mg:W0)(base:ZH)(N:List Str)(qual:Str)(scope:Rp)(f:ZE)(cd:NA)(A:Os)(outer:List Env)(s:NB)(H:Hp)(E:XK):Cx where
 prog:=P
 w:=w
 K:=K
 mg:=mg
 base:=base
 A:=A.deeper (envOfC qual scope s.heap.objs.size f cd)
 N:=N
 s₀:=s
 H₀:=H
 env:=envOfC qual scope s.heap.objs.size f cd
 outer:=outer
 stack:=envOfC qual scope s.heap.objs.size f cd::outer
 ex:=[]
 calm:=ZC
 fn:=λ_=>ZC
 pn:=[]
 xe:=λe s'=>ZJ (ZK P w) (A.deeper (envOfC qual scope s.heap.objs.size f cd)) (leaving (envOfC qual scope s.heap.objs.size f cd) e) (λ_ s''=>CX outer H s E e s'') (λe' s''=>CX outer H s E e' s'') s'
def xV(h:sc.names.lookup x=ZA .cell):∃c,(QN n sc.names []).lookup x=ZA c:=by
 have q:=RM sc.names n [] (.inl h);exact Qr.mp q
variable{mg:W0}{qual:Str}
def sI{base:ZH}{cd:NA}{outer:List Env}{s1:NB}
  (S:aE N ps scope) (hd:A.handled=ZB) (e0:EC P w K mg base A outer s H) (hl:vs.length=ps.length) (r:Vals vs us)
  (x:InCallC s s.heap.objs.size (bindL (envOfC qual scope s.heap.objs.size f cd).kindOf (ps.zip us) λ_=>ZB) (QN (s.heap.objs.size+1) scope.names []) (bindC (envOfC qual scope s.heap.objs.size f cd).kindOf (ps.zip us) λ_=>ZB) s1):
  Inv (nB CX P w K mg base N qual scope f cd A outer s H E) [] (start N vs) H s1:=by
 have hpl:ps.length<=N.length:=by have:=congrArg O0 S.pre;rw[Ri]at this;omega
 obtain⟨h1,tk,rfl,hk⟩:=x.done
 have noA:∀b:ZE,b∉(nB CX P w K mg base N qual scope f cd A outer s H E).ex:=λb z=>absurd (show b∈([]:List ZE)from z) (by simp)
 refine⟨⟨e0.mod,S.kind,rfl,rfl,NL _,λy z c h1 h2=>?_,λy hy=>?_,λy c _ h=>?_,λ_=>hd,Around.frames_deeper e0.frames,.inr ⟨rfl,rfl⟩,λb z=>absurd z (noA b),e0.bs,e0.bsz,λb _ _=>noA b,λb z=>absurd z (noA b),e0.funs,e0.frf⟩,
  rfl,e0.bare,Un.kept hk,⟨_,x.toInCall.ns,λi y v h1 h2 h3=>?_⟩,λy c h=>⟨_,x.cell y c h⟩,e0.hok.fresh (NL _),λy c h=>?_,λp hp=>absurd (show p∈([]:W2)from hp) (by simp),e0.hok.kept hk,?_⟩
 ·exact name_of_addr x.apart (P3 h1) (P3 h2)
 ·have hy:scope.names.lookup y=ZA .cell\/scope.names.lookup y=ZA .free:=hy
  rcases hy with hy|hy
  ·exact xV hy
  ·exact absurd rfl (S.nofree _ (P3 hy))
 ·exact Pe (x.above y c (P3 h))
 ·have hi:i<vs.length:=by
   unfold start at h2
   by_cases hi:i<vs.length
   ·exact hi
   ·rw[Ra (by simpa using hi)]at h2
    rw[RA]at h2
    split at h2 <;> cases h2
  have ha:vs[i]?=ZA v:=by
   unfold start at h2;rw[Ql (by simpa using hi),NU]at h2
   cases e:vs[i]? with
   |none=>rw[e]at h2;cases h2
   |some a=>rw[e]at h2;cases h2;rfl
  obtain⟨u,hu,rv⟩:=r.get ha
  have hp:ps[i]?=ZA y:=by
   rw[<-S.pre,List.getElem?_take_of_lt (by omega)];exact h1
  have ndP:ps.Nodup:=by rw[<-S.pre];exact S.nd.sublist (List.take_sublist _ _)
  refine⟨u,rv,?_⟩
  rcases S.par y (Qn hp)with k|k
  ·exact .inl ⟨k,tf ndP hp hu k⟩
  ·obtain⟨c,e⟩:=xV (n:=s.heap.objs.size+1) k
   refine .inr ⟨.inl k,c,e,?_⟩
   have q:=x.cell y c e;rw[tq ndP hp hu (by show scope.names.lookup y≠_;rw[k];decide)]at q
   exact q
 ·exact e0.hok.fresh (Pe (x.above y c (P3 h)))
 ·unfold start
  show _=N.length
  rw[NH,Ny,List.length_replicate];omega
def LH{base:ZH}{k:Nat}{name:Str}{params:T9}{dV kV doc pm cdv ct oc:NA}{an od:Option ZE}
  {osl:Array (Option NA)}   (lk:K.lookup f=ZA ⟨oc,od,.func (RY name qual params body scope dV kV doc pm an cdv ct),osl⟩) (hcd:UD K cdv qual=ZC) (S:aE N ps scope)
  (len:∀vs H Q E,sp vs H Q E->vs.length=ps.length)
  (hbody:∀(A:Os)(outer:List Env)(s:NB)(H:Hp)(vs:List V)(Q:VK)(E:XK),Room k (A.deeper (envOfC qual scope s.heap.objs.size f cdv))->sp vs H Q E →
   ∃t,PSs (nB CX P w K mg base N qual scope f cdv A outer s H E) body t/\t {nx:=λ_ H'=>Q .non H',rt:=Q} (start N vs) H):
  vG P w K mg base CX (k+1) f (RY name qual params body scope dV kV doc pm an cdv ct) ps sp:=by
 refine⟨len,λA outer s H args us vs Q E hr e0 hb r hsp=>?_⟩
 have hl:=len _ _ _ _ hsp
 have KX:K.In s.heap:=e0.mod.kin.keeps λb o e=>(e0.bs b o e).1
 have lim:s.heap.NoLimit:=e0.mod.nolimit.keeps λb o e=>(e0.bs b o e).1
 have hkind:∀y∈ps.zip us,scope.names.lookup y.1=ZA .local\/(scope.names.lookup y.1=ZA .cell/\((QN (s.heap.objs.size+1) scope.names []).lookup y.1).isSome=ZC):=λ⟨n,v⟩ hy=>by
  rcases S.par n (Ry hy).1 with q|q
  ·exact .inl q
  ·exact .inr ⟨q,RM _ _ _ (.inl q)⟩
 refine Ud hr.depth (KX _ _ lk) rfl S.co S.gen rfl (US KX hcd) (hb _ _ _ _ ?_)
 refine SF S.kind hkind λenv he s1 x=>?_
 subst he;refine⟨lim.keeps x.toInCall.keep,codeAny_func ?_⟩
 obtain⟨t,ht,hq⟩:=hbody A outer s H vs Q E (hr.deeper _) hsp
 have I:Inv (nB CX P w K mg base N qual scope f cdv A outer s H E) [] (start N vs) H s1:=sI S hr.hd e0 hl r x;refine Pu (ht [] s1 (start N vs) H _ I hq) (λfl s' hs=>?_) λe s' hs=>hs
 have fin:∀{σ':St}{H':Hp}{v:V}{u:NA},Inv (nB CX P w K mg base N qual scope f cdv A outer s H E) [] σ' H' s'->RelV v u->Q v H'->CE outer P w H s Q u s':=
  λ{σ' H' v u} J rv q=>⟨v,H',J.os,J.bare,J.base,J.hok,rv,q⟩
 cases fl with
 |ret u=>
  obtain⟨v,σ',H',J,rv,q⟩:=hs
  exact fin J rv q
 |next=>
  obtain⟨σ',H',J,q⟩:=hs
  exact fin (v:=V.non) (u:=OA) J rfl q
 |brk=>
  obtain⟨_,_,_,q⟩:=hs
  exact Q2 q
 |cont=>
  obtain⟨_,_,_,q⟩:=hs;exact Q2 q
end L2
namespace HT
open PySem PyProof.Rows
def lexLt:List Int->List Int->Bool
 |[],[] =>ZD
 |[],_::_=>ZC
 |_::_,[] =>ZD
 |x::xs,y::ys=>if x=y then lexLt xs ys else decide (x<y)
def lexLt_cons(x y:Int)(xs ys:List Int):lexLt (x::xs) (y::ys)=if x=y then lexLt xs ys else decide (x<y):=rfl
def rK:lexLt [] []=ZD:=rfl
def p8(y:Int)(ys:List Int):lexLt [] (y::ys)=ZC:=rfl
def p9(x:Int)(xs:List Int):lexLt (x::xs) []=ZD:=rfl
def DY(A:Os)(s:NB)(a:Int)(t:Tok)(c:Int)(u:Tok):∃e,SeqAt.EqAt A s (.int a t) (.int c u) e/\(e=ZC↔a=c):=
 ⟨(a == c),SeqAt.EqAt.int_int a t c u,by simp⟩
def Cq(A:Os)(s:NB)(a:Int)(t:Tok)(c:Int)(u:Tok)(prog:N1)(w:OF)(E:W1)(Q:W1)(h:Q (.bool (decide (a<c))) s):
  ZJ (ZK prog w) A (richCompare .Lt (.int a t) (.int c u)) Q E s:=
 (PyProof.Rows.lt_int h:ZJ (ZK prog w) A (OD .Lt (.int a t) (.int c u)) Q E s)
section
open PySem.SeqAt
open PySem.AutoSeq1 (wpAny_loadPart')
open PySem.MeetsSeq PySem.MeetsSeq2 PySem.MeetsSeq3
def qR(l b:ZE)(items items2:Array NA)(n n2:Nat)(dd dd2:Option ZE)(sl sl2:Array (Option NA))(ns ms:List Int)(hi:PH items.toList ns)(hj:PH items2.toList ms):
  Meets (Builtin.«tuple.__lt__» ⟨[.ref l,.ref b],[]⟩)
   (λ_ R s=>s.heap.get? l=ZA {cls:=.type "tuple",dict:=dd,data:=.seq items n,slots:=sl}/\s.heap.get? b=ZA {cls:=.type "tuple",dict:=dd2,data:=.seq items2 n2,slots:=sl2} ∧
    R (.ok (.ret (.bool (lexLt ns ms)))) s):=
 .of_wp λprog w A R s h=>by
  obtain⟨hp,g,d,tk,os⟩:=s;obtain⟨hl,hb,h⟩:=h
  have f2:=AutoSeq1.sub_tuple_tuple
  have z1:items.size=ns.length:=by rw[<-hi.length];simp
  have z2:items2.size=ms.length:=by rw[<-hj.length];simp
  wp_walk using Pp hl,Pp hb,wpAny_forIn_list _ (λrest b s'=>b.1=ZB/\s'=⟨hp,g,d,tk,os⟩/\∃(vs ws:List NA)(ns' ms':List Int),rest=vs.zip ws ∧
   PH vs ns'/\PH ws ms'/\ns'.length+items2.size=ms'.length+items.size/\R (.ok (.ret (.bool (lexLt ns' ms')))) ⟨hp,g,d,tk,os⟩) _
  case turn=>
   rintro ⟨y,x⟩ rest b s' ⟨hb',rfl,vs,ws,ns',ms',hz,hvi,hwi,hlen,hR⟩
   cases hvi with
   |nil=>rw[Vl]at hz;cases hz
   |cons a t hvi'=>
    cases hwi with
    |nil=>rw[UV]at hz;cases hz
    |cons c u hwi'=>
     rw[RB]at hz;injection hz with hyx hrest
     injection hyx with hy hx
     subst hy hx;rw[lexLt_cons]at hR;simp only[ND]at hlen;obtain⟨e,he,hiff⟩:=DY A.in1 ⟨hp,g,d,tk,os⟩ a t c u;refine Nq (he prog w _ _ ?_)
     cases e with
     |true=>
      rw[if_pos (hiff.mp rfl)]at hR
      wp_walk
      exact⟨rfl,rfl,_,_,_,_,hrest,hvi',hwi',by omega,hR⟩
     |false=>
      rw[if_neg (λq=>absurd (hiff.mpr q) N3)]at hR
      have hri:=Cq A.in1 ⟨hp,g,d,tk,os⟩ a t c u prog w
      wp_walk using hri
      exact⟨_,rfl,by simpa using hR⟩
  case fin=>
   rintro ⟨b1,b2⟩ s' ⟨hb',rfl,vs,ws,ns',ms',hz,hvi,hwi,hlen,hR⟩
   simp only at hb';subst hb'
   have hv:lexLt ns' ms'=decide (items.size<items2.size):=by
    cases hvi with
    |nil=>
     cases hwi with
     |nil=>
      simp only[Qs]at hlen;rw[rK]
      exact(decide_eq_false (by omega)).symm
     |cons c u hw=>
      simp only[Qs,ND]at hlen;rw[p8]
      exact(decide_eq_true (by omega)).symm
    |cons a t hv=>
     cases hwi with
     |nil=>
      simp only[Qs,ND]at hlen;rw[p9]
      exact(decide_eq_false (by omega)).symm
     |cons c u hw=>
      rw[RB]at hz;cases hz
   rw[hv]at hR
   wp_walk
   exact⟨_,rfl,by simpa [Vj]using hR⟩
  case h=>
   exact⟨rfl,rfl,items.toList,items2.toList,ns,ms,rfl,hi,hj,by omega,h⟩
end
def lt_tupInts{l b:ZE}{items items2:Array NA}{ms:List Int}(hl:WD s.heap l items)(hb:WD s.heap b items2)(hi:PH items.toList ns)(hj:PH items2.toList ms)
  (hu:A.units<cLine) (h:Q (.bool (lexLt ns ms)) s):ZJ (ZK prog w) A (OD .Lt (.ref l) (.ref b)) Q E s:=by
 obtain⟨⟨cls,dd,data,sl⟩,ho,hc,n,hd⟩:=id hl;obtain⟨⟨cls2,dd2,data2,sl2⟩,ho2,hc2,n2,hd2⟩:=id hb;simp only at hc hd hc2 hd2;subst hc hd hc2 hd2
 exact richCompare_meets_room (op:=.Lt) ⟨_,ho,rfl⟩ ⟨_,ho2,rfl⟩ PySem.F.slot_tuple_lt PySem.F.entry_tuple_lt (PySem.F.args_tuple_lt_2 _ _) (qR l b items items2 n n2 dd dd2 sl sl2 ns ms hi hj)
  ⟨ho,ho2,show Pb (lexLt ns ms)≠Uu/\Q (.bool (lexLt ns ms)) s from⟨(λx=>nomatch x),h⟩⟩ hu
def cat_tup{t b:ZE}{ws:List NA}(ht:WD s.heap t vs.toArray)(hb:WD s.heap b ws.toArray)(hv:vs≠ [])
  (h1:ws=[]->Q (.ref t) s) (h2:ws≠ []->Q (.ref s.heap.objs.size) {s with heap:=s.heap.push {cls:=.type "tuple",data:=.seq (vs++ws).toArray}})
  (hsz:vs.length+ws.length<=ZI):ZJ (ZK prog w) A (PM .Add (.ref t) (.ref b)) Q E s:=by
 obtain⟨⟨cls,dd,data,sl⟩,ho,hc,n,hd⟩:=id ht;obtain⟨⟨cls2,dd2,data2,sl2⟩,ho2,hc2,n2,hd2⟩:=id hb;simp only at hc hd hc2 hd2;subst hc hd hc2 hd2
 have e:vs.toArray++ws.toArray=(vs++ws).toArray:=by simp
 by_cases hw:ws=[]
 ·exact VM ⟨_,ho,rfl⟩ ⟨_,ho2,rfl⟩ TC U9 RN Ru (Rq _ _)
   (tuple_addW1 t b vs.toArray ws.toArray n n2 dd dd2 sl sl2 (by simpa using hv) (by simp[hw])) ⟨ho,ho2,h1 hw⟩
 ·refine VM ⟨_,ho,rfl⟩ ⟨_,ho2,rfl⟩ TC U9 RN Ru (Rq _ _)
   (tuple_addW2 t b vs.toArray ws.toArray n n2 dd dd2 sl sl2 (by simpa using hv) (by simpa using hw) (by rw[NP,NP];exact hsz)) ⟨ho,ho2,?_⟩
  rw[e];exact h2 hw
def sIx(n d:Nat):Option Int->Nat
 |none=>d
 |some v=>if v<0 then(v+(n:Int)).toNat else min v.toNat n
def sIx_none(n d:Nat):sIx n d ZB=d:=rfl
def sIx_nat(n d k:Nat):sIx n d (ZA (k:Int))=min k n:=by
 show(if (k:Int)<0 then((k:Int)+(n:Int)).toNat else min (k:Int).toNat n)=min k n
 rw[if_neg (by omega),ON]
def HX(n d:Nat)(hd:d<=n)(o:Option Int):sIx n d o<=n:=by
 cases o with
 |none=>exact hd
 |some v=>
  show(if v<0 then(v+(n:Int)).toNat else min v.toNat n)<=n
  by_cases hv:v<0
  ·rw[if_pos hv];omega
  ·rw[if_neg hv];exact Nat.min_le_right _ _
def Az(v:Int)(n d:Nat):(if v<0 then max (v+(n:Int)) 0 else min v (n:Int))=((sIx n d (ZA v):Nat):Int):=by
 show(if v<0 then max (v+(n:Int)) 0 else min v (n:Int))=(((if v<0 then(v+(n:Int)).toNat else min v.toNat n):Nat):Int)
 by_cases hv:v<0
 ·simp only[if_pos hv];omega
 ·simp only[if_neg hv];omega
def zj(lo hi:Option Int)(n:Nat):Re lo hi 1 (n:Int)=(((sIx n 0 lo:Nat):Int),((sIx n n hi:Nat):Int)):=by
 have h1:¬ ((1:Int)<0):=by omega
 unfold Re;simp only[h1,if_false];refine Prod.ext ?_ ?_
 ·cases lo with
  |none=>rfl
  |some v=>exact Az v n 0
 ·cases hi with
  |none=>rfl
  |some v=>exact Az v n n
def yy(i j:Nat):Qk (i:Int) (j:Int) 1=j - i:=by
 unfold Qk
 have h1:(1:Int) > 0:=by omega
 simp only[h1,if_true,Int.ediv_one]
 split <;> omega
def o7{o:Option Int}{Q:Option Int->NB->Prop}(p:Va v o)(h:Q o s):ZJ (ZK prog w) A (Wc v) Q E s:=by
 cases p with
 |none=>exact slicePart_none h
 |int i t=>exact slicePart_int h
def iK{sl:ZE}{Q:Int×Int×Nat->NB->Prop}(hs:s.heap.IsSliceOf sl vl vu .none)(pl:Va vl lo)(pu:Va vu hi)
  (h:Q (((sIx n 0 lo:Nat):Int),1,sIx n n hi - sIx n 0 lo) s):ZJ (ZK prog w) A (Sz (.ref sl) (pure (n:Int))) Q E s:=by
 obtain⟨os,hos,hcs,hds⟩:=id hs;unfold Sz Builtin.Slice.sliceFields;refine Nq (Nq (Of hos hds (x:=vl) rfl (Nq (Of hos hds (x:=vu) rfl (Nq (Of hos hds (x:=.none) rfl (Nz ?_)))))))
 refine Nq (slicePart_none ?_)
 show ZJ _ _ (if ((1:Int) == 0)=ZC then _ else _) _ _ s
 rw[if_neg (by decide)]
 refine Nq (o7 pl (Nq (o7 pu (Nq (Nz ?_)))))
 show ZJ _ _ (match Re lo hi 1 (n:Int)with| (lo,hi)=>pure (lo,(1:Int),Qk lo hi 1)) _ _ s
 rw[zj lo hi n]
 show ZJ _ _ (pure (((sIx n 0 lo:Nat):Int),(1:Int),Qk ((sIx n 0 lo:Nat):Int) ((sIx n n hi:Nat):Int) 1)) _ _ s
 rw[yy];exact Nz h
def CJ(xs:Array NA)(i k:Nat):((OU k).filterMap λ(m:Nat)=>xs[((i:Int)+(m:Int)*1).toNat]?).toArray=((xs.toList.drop i).take k).toArray:=by
 have e:(λ(m:Nat)=>xs[((i:Int)+(m:Int)*1).toNat]?)=λm=>xs[i+m]?:=by
  funext m
  have:((i:Int)+(m:Int)*1).toNat=i+m:=by omega
  rw[this]
 rw[e]
 have:=pick_run xs i k;rw[List.filterMap_map]at this
 have e2:((λx=>xs[x]?)∘λx=>i+x)=λm=>xs[i+m]?:=rfl
 rw[e2]at this;rw[this]
def getItem_tuple_cut{t sl:ZE}{items:Array NA}(ht:WD s.heap t items)(hs:s.heap.IsSliceOf sl vl vu .none)(pl:Va vl lo)(pu:Va vu hi)
  (hw:¬ (sIx items.size 0 lo=0/\sIx items.size items.size hi=items.size))
  (h:Q (.ref s.heap.objs.size) {s with heap:=s.heap.push {cls:=.type "tuple",data:=.seq ((items.toList.drop (sIx items.size 0 lo)).take (sIx items.size items.size hi - sIx items.size 0 lo)).toArray}})
  (hsz:items.size<=ZI):ZJ (ZK prog w) A (getItem (.ref t) (.ref sl)) Q E s:=by
 have htake:sizeOk (.seq ((items.toList.drop (sIx items.size 0 lo)).take (sIx items.size items.size hi - sIx items.size 0 lo)).toArray):=by
  show((items.toList.drop (sIx items.size 0 lo)).take (sIx items.size items.size hi - sIx items.size 0 lo)).toArray.size<=ZI
  rw[NP,Ri,QL,Ob];omega
 have hj:sIx items.size items.size hi<=items.size:=HX _ _ (NL _) hi;obtain⟨os,hos,hcs,hds⟩:=id hs
 have hTs:s.TypeIs (.ref sl) "slice":=⟨os,hos,hcs⟩;unfold getItem
 try with_reducible refine OJ ?_
 first|refine Nq (Nz ?_)|skip
 refine Nq (Vy ht.typeIs (by decide) ?_)
 refine Nq (Og (name:=NM "__getitem__") ht.typeIs OL
  (Ol OL ht.typeIs UN ?_ (Vb _ _)))
 show ZJ _ _ (SA (.ref t) >>= _) _ _ s
 refine Nq (Vc ht ?_)
 refine Nq (Qg hTs ?_)
 rw[if_pos (by decide)]
 refine Nq (iK hs pl pu ?_)
 have hno:¬ ((((sIx items.size 0 lo:Nat):Int) == 0&&(1:Int) == 1&&(sIx items.size items.size hi - sIx items.size 0 lo) == items.size)=ZC):=by
  intro q;rw[NC,NC]at q
  have q1:((sIx items.size 0 lo:Nat):Int)=0:=eq_of_beq q.1.1
  have q2:sIx items.size items.size hi - sIx items.size 0 lo=items.size:=eq_of_beq q.2;exact hw ⟨by omega,by omega⟩
 show ZJ _ _ (if (((sIx items.size 0 lo:Nat):Int) == 0&&(1:Int) == 1&&(sIx items.size items.size hi - sIx items.size 0 lo) == items.size)=ZC then _ else _) _ _ s
 rw[if_neg hno,CJ]
 first
  |exact Nq (m:=PK _) (OR (Nz ⟨_,rfl,Nz h⟩) htake)
  |exact Nq (m:=PK _) (OR (Nq (Nz (Nz ⟨_,rfl,Nz h⟩))) htake)
  |exact Nq (Nq (m:=PK _) (OR (Nz (Nz ⟨_,rfl,Nz h⟩)) htake))
  |exact Nq (Nq (m:=PK _) (OR (Nz ⟨_,rfl,Nz h⟩) htake))
end HT
variable{i:Int}
namespace L2
open PySem PySem.Spec PyProof.Rows
abbrev TO:=St->Hp->(Option Int->Hp->Prop)->Prop
def PO(X:Cx)(e:Option ZG)(t:TO):Prop:=
 ∀(bv:W2)(s:NB)(σ:St)(H:Hp)(Q:Option Int->Hp->Prop),Inv X bv σ H s->t σ H Q →
  ZJ (ZK X.prog X.w) X.A (evalPart e X.env) (λu s'=>∃o H',Inv X bv σ H' s'/\Va u o/\Q o H') X.xe s
def E8:TO:=λ_ H Q=>Q ZB H
def Ki(t:TE):TO:=λσ H Q=>t σ H λx H1=>∃i,x=.int i/\Q (ZA i) H1
def yX:∀{us:List NA},Vals (ns.map V.int) us->PH us ns:=by
 induction ns with
 |nil=>intro us r;rw[QV]at r;cases r;exact .nil
 |cons n ns ih=>
  intro us r;rw[Nx]at r
  cases r with
  |cons r1 r2=>
   obtain⟨t,e⟩:=r1;subst e;exact .cons n t (ih r2)
variable{X:Cx}{e:ZG}{r:V->Option Int->Option Int->Hp->VK->Prop}{xs:List V}
section
variable {te:TE}{lo hi:Option ZG}{tl th:TO}{pos p2:Pos}
def FW:PO X ZB E8:=by
 intro bv s σ H Q I h;rw[evalPart_none];exact Nz ⟨ZB,H,I,.none,h⟩
def FV(h:PE X e te):PO X (ZA e) (Ki te):=by
 intro bv s σ H Q I hw;rw[evalPart_some];refine cF (h bv s σ H _ I hw) λu s1 hh_=>?_
 obtain⟨x,H1,I1,r1,q1⟩:=hh_;obtain⟨i,rfl,q⟩:=q1;obtain⟨t,rfl⟩:=r1;exact⟨ZA i,H1,I1,.int i t,q⟩
def SlR(X:Cx)(r:V->Option Int->Option Int->Hp->VK->Prop):Prop:=
 ∀(bv:W2)(s:NB)(σ:St)(H:Hp)(x:V)(v vl vu:NA)(lo hi:Option Int)(sl:ZE)(Q:VK),Inv X bv σ H s->RelV x v->s.heap.IsSliceOf sl vl vu .none->Va vl lo->Va vu hi->r x lo hi H Q →
  ∃T id,Qw (.type T) "__getitem__" =pure (ZA (.builtin id))/\s.TypeIs v T/\ZJ (ZK X.prog X.w) X.A (getItem v (.ref sl)) (EP X bv σ Q) X.xe s
def SlR.or{r':V->Option Int->Option Int->Hp->VK->Prop}(h:SlR X r)(h':SlR X r'):SlR X (λx lo hi H Q=>r x lo hi H Q\/r' x lo hi H Q):=by
 intro bv s σ H x v vl vu lo hi sl Q I rx hs pl pu q;rcases q with q|q
 ·exact h bv s σ H x v vl vu lo hi sl Q I rx hs pl pu q
 ·exact h' bv s σ H x v vl vu lo hi sl Q I rx hs pl pu q
def tSl(r:V->Option Int->Option Int->Hp->VK->Prop)(te:TE)(tl th:TO):TE:=λσ H Q=>te σ H λx H1=>tl σ H1 λl H2=>th σ H2 λu H3=>r x l u H3 Q
def CM(hr:SlR X r)(he:PE X e te)(hl:PO X lo tl)(hu:PO X hi th):PE X (.Subscript e (.Slice lo hi ZB p2) pos) (tSl r te tl th):=by
 intro bv s σ H Q I h;refine Subscript_ (cF (he bv s σ H _ I h) λv s1 hh_=>?_)
 obtain⟨x,H1,I1,r1,q1⟩:=hh_;refine wpAny_Slice (cF (hl bv s1 σ H1 _ I1 q1) λvl s2 ⟨l,H2,I2,pl,q2⟩=>cF (hu bv s2 σ H2 _ I2 q2) λvu s3 hh_=>?_)
 obtain⟨u,H3,I3,pu,q3⟩:=hh_;rw[evalPart_none];refine Nz ?_
 have I4:Inv X bv σ H3 {s3 with heap:=s3.heap.push {cls:=.type "slice",data:=.fields #[vl,vu,.none]}}:=I3.kept (t':=s3.toks) λb ob q=>Nr _ q
 obtain⟨T,id,hT,ht,hg⟩:=hr bv {s3 with heap:=s3.heap.push {cls:=.type "slice",data:=.fields #[vl,vu,.none]}} σ H3 x v vl vu l u s3.heap.objs.size Q I4 r1 (Heap.IsSliceOf.new ..) pl pu q3
 show ZJ (ZK X.prog X.w) X.A (Vd e (.Slice lo hi ZB p2) v (.ref s3.heap.objs.size)) (EP X bv σ Q) X.xe {s3 with heap:=s3.heap.push {cls:=.type "slice",data:=.fields #[vl,vu,.none]}}
 exact tail_any (ops:=[.ref s3.heap.objs.size,v]) ht hT hg (by with_unfolding_all rfl)
def xU(xs:List V)(lo hi:Option Int):List V:=(xs.drop (HT.sIx xs.length 0 lo)).take (HT.sIx xs.length xs.length hi - HT.sIx xs.length 0 lo)
def nY(xs:List V)(lo hi:Option Int):(xU xs lo hi).length<=xs.length:=by
 unfold xU;rw[Ri,QL];omega
def rSlT(K:Nt):V->Option Int->Option Int->Hp->VK->Prop:=λx lo hi H Q=>∃a xs,x=.ref a/\SqT K H a xs ∧
 ¬(HT.sIx xs.length 0 lo=0/\HT.sIx xs.length xs.length hi=xs.length)/\∀p,H p=ZB->Q (.ref p) (upd H p (.tup (xU xs lo hi)))
def sl_tup:SlR X (rSlT X.K):=by
 intro bv s σ H x v vl vu lo hi sl Q I rx hs pl pu h;obtain⟨a,xs,rfl,hx,hw,q⟩:=h;cases rx;obtain⟨its,r,ht,hz⟩:=I.tuple hx
 have hlen:its.toArray.size=xs.length:=by rw[NP];exact r.length.symm
 refine⟨"tuple",_,OL.lookup,ht.typeIs,?_⟩
 refine HT.getItem_tuple_cut ht hs pl pu (by rw[hlen];exact hw) ?_ (by rw[hlen];exact hz)
 rw[hlen];refine⟨.ref s.heap.objs.size,_,I.laid (t':=s.toks) (o:=.tup (xU xs lo hi)) (λb ob q=>Nr _ q) (NL _) ?_,rfl,q _ (I.hok.fresh (NL _))⟩
 exact⟨Oj (nY xs lo hi) hz,_,(r.drop (HT.sIx xs.length 0 lo)).take (HT.sIx xs.length xs.length hi - HT.sIx xs.length 0 lo),Wg _ _⟩
def KD(K:Nt):R2:=λx y H Q=>∃a b xs ys,x=.ref a/\y=.ref b/\SqT K H a xs/\SqT K H b ys/\xs≠ []/\xs.length+ys.length<=ZI ∧
 (ys=[]->Q (.ref a) H)/\(ys≠ []->∀p,H p=ZB->Q (.ref p) (upd H p (.tup (xs++ys))))
def Vals.AC(r:Vals xs us):us=[] ↔xs=[]:=by
 cases r with
 |nil=>simp
 |cons _ _=>simp
def Ga:rN X (PM .Add) (KD X.K):=by
 intro bv s σ H x y v u Q I rx ry h;obtain⟨a,b,xs,ys,rfl,rfl,ha,hb,hx,hz,q1,q2⟩:=h;cases rx;cases ry;obtain⟨its,r1,p1,_⟩:=I.tuple ha;obtain⟨its2,r2,p2,_⟩:=I.tuple hb;refine HT.cat_tup p1 p2 (λz=>hx (r1.AC.mp z)) (λz=>⟨.ref a,H,I,rfl,q1 (r2.AC.mp z)⟩) (λz=>?_) (by rw[<-r1.length,<-r2.length];exact hz)
 refine⟨.ref s.heap.objs.size,_,I.laid (t':=s.toks) (o:=.tup (xs++ys)) (λb ob q=>Nr _ q) (NL _) ?_,rfl,q2 (λw=>z (r2.AC.mpr w)) _ (I.hok.fresh (NL _))⟩
 exact⟨by rw[NH];exact hz,_,r1.append r2,Wg _ _⟩
end
def ixN(n:Nat)(i:Int):Option Nat:=if 0<=i then(if i<n then ZA i.toNat else ZB)else if -(n:Int)<=i then ZA (i+n).toNat else ZB
def atI{α:Type}(xs:List α)(i:Int):Option α:=(ixN xs.length i).bind λj=>xs[j]?
def Gu(h:ixN n i=ZA j):seqIndex? i n=ZA j/\j<n/\-(n:Int)<=i/\i<n:=by
 unfold ixN at h
 by_cases h0:0<=i
 ·rw[if_pos h0]at h
  by_cases h1:i<n
  ·rw[if_pos h1]at h
   have e:i.toNat=j:=Om h;exact⟨by rw[seqIndex_of h0 h1,e],by omega,by omega,h1⟩
  ·rw[if_neg h1]at h;cases h
 ·rw[if_neg h0]at h
  by_cases h1 : -(n:Int)<=i
  ·rw[if_pos h1]at h
   have e:(i+n).toNat=j:=Om h;exact⟨by rw[seqIndex_neg (by omega) h1,e],by omega,h1,by omega⟩
  ·rw[if_neg h1]at h;cases h
def vA{xs:List α}{v:α}(h:atI xs i=ZA v):∃j,seqIndex? i xs.length=ZA j/\xs[j]?=ZA v/\j<xs.length/\-(xs.length:Int)<=i/\i<xs.length:=by
 unfold atI at h
 cases e:ixN xs.length i with
 |none=>rw[e]at h;cases h
 |some j=>
  rw[e]at h;obtain⟨h1,h2,h3,h4⟩:=Gu e;exact⟨j,h1,h,h2,h3,h4⟩
def AH(b:ZG):Prop:=∀o i,UO b ZD o i=operate [o,i] (getItem o i)
def IxR(X:Cx)(r:R2):Prop:=
 ∀(value slice:ZG)(bv:W2)(s:NB)(σ:St)(H:Hp)(x y:V)(v u:NA)(Q:VK),Inv X bv σ H s->RelV x v->RelV y u->r x y H Q →
  UO slice ZD v u=operate [v,u] (getItem v u)->ZJ (ZK X.prog X.w) X.A (Vd value slice v u) (EP X bv σ Q) X.xe s
def MtR(X:Cx)(id:String)(r:V->List V->Hp->VK->Prop):Prop:=
 ∀(bv:W2)(s:NB)(σ:St)(H:Hp)(x:V)(xs:List V)(v:NA)(us:List NA)(Q:VK),Inv X bv σ H s->RelV x v->Vals xs us->r x xs H Q →
  ZJ (ZK X.prog X.w) X.A (call (.builtin id) (v::us)) (EP X bv σ Q) X.xe s
variable{H:Hp}{bv:W2}{σ:St}
section
variable {a b:ZG}{ta tb:TE}{pos:Pos}
def IxR.or{r r':R2}(h:IxR X r)(h':IxR X r'):IxR X (λx y H Q=>r x y H Q\/r' x y H Q):=by
 intro value slice bv s σ H x y v u Q I rx ry q hs;rcases q with q|q
 ·exact h value slice bv s σ H x y v u Q I rx ry q hs
 ·exact h' value slice bv s σ H x y v u Q I rx ry q hs
def KC(K:Nt):R2:=λx y H Q=>∃p xs i v,x=.ref p/\y=.int i/\SqL K H p xs/\atI xs i=ZA v/\Q v H
def Kz(K:Nt):R2:=λx y H Q=>∃p xs i v,x=.ref p/\y=.int i/\SqT K H p xs/\atI xs i=ZA v/\Q v H
def KA:R2:=λx y H Q=>∃z i c,x=.str z/\y=.int i/\z.length<=ZI/\atI z.cps.toList i=ZA c/\Q (.str ⟨#[c]⟩) H
def ix_list:IxR X (KC X.K):=by
 intro value slice bv s σ H x y v u Q I rx ry h hs;obtain⟨p,xs,i,z,rfl,rfl,hq,he,q⟩:=h;cases rx;obtain⟨t,rfl⟩:=ry;obtain⟨its,r,pl,hz⟩:=I.list hq;obtain⟨j,h1,h2,h3,h4,h5⟩:=vA he;obtain⟨w,ew,rw'⟩:=r.get h2
 have hl:=r.length
 have hn:=p6
 have fin:EP X bv σ Q w s:=⟨z,H,I,rw',q⟩
 by_cases h0:0<=i
 ·have hj:i.toNat=j:=by
   rw[seqIndex_of h0 h5]at h1;exact Om h1
  exact item_listR pl.isList h0 (by omega) (by rw[hj];simpa using ew) fin hs
 ·have hj:(i+(its.toArray.size:Int)).toNat=j:=by
   rw[seqIndex_neg (by omega) h4]at h1
   rw[NP,<-hl];exact Om h1
  exact TL (x:=w) pl.isList.typeIs slot_list_getitem.lookup
   (wpAny_getItem_list_neg (Q:=λr s'=>r=w/\EP X bv σ Q r s') pl.isList (by omega) (by rw[NP] <;> omega) (by omega) (by rw[hj];simpa using ew) ⟨rfl,fin⟩) hs
def ix_tup:IxR X (Kz X.K):=by
 intro value slice bv s σ H x y v u Q I rx ry h hs;obtain⟨p,xs,i,z,rfl,rfl,hq,he,q⟩:=h;cases rx;obtain⟨t,rfl⟩:=ry;obtain⟨its,r,pl,hz⟩:=I.tuple hq;obtain⟨j,h1,h2,h3,h4,h5⟩:=vA he;obtain⟨w,ew,rw'⟩:=r.get h2
 have hl:=r.length
 have hn:=p6
 have fin:EP X bv σ Q w s:=⟨z,H,I,rw',q⟩
 exact TL (x:=w) pl.typeIs slot_tuple_getitem.lookup
  (getItem_tuple (j:=j) (Q:=λr s'=>r=w/\EP X bv σ Q r s') pl (by omega) (by omega) (by rw[NP,<-hl];exact h1) (by simpa using ew) ⟨rfl,fin⟩) hs
def JF:IxR X KA:=by
 intro value slice bv s σ H x y v u Q I rx ry h hs;obtain⟨z,i,c,rfl,rfl,hz,he,q⟩:=h;obtain⟨t,rfl⟩:=rx;obtain⟨t',rfl⟩:=ry;obtain⟨j,h1,h2,h3,h4,h5⟩:=vA he
 have hl:z.cps.toList.length=z.length:=by simp[Str.length]
 rw[hl]at h1 h4 h5
 have hn:=p6
 exact tail_any (typeIs_str s z t) slot_str_getitem.lookup (getItem_str (c:=c) (by
  have e1:decide (i< -(2 ^ 63:Int))=ZD:=decide_eq_false (by omega)
  have e2:decide (i ≥ 2 ^ 63)=ZD:=decide_eq_false (by omega)
  rw[e1,e2,Bool.or_false]) (by rw[h1];simpa using h2) ⟨.str ⟨#[c]⟩,H,I.tok _,⟨_,rfl⟩,q⟩) hs
def rIx(K:Nt):R2:=λx y H Q=>KC K x y H Q\/Kz K x y H Q\/KA x y H Q
def JG:IxR X (rIx X.K):=ix_list.or (ix_tup.or JF)
def tN(lo hi:Option Int)(n:Nat):(RW lo hi ZB n).1=((HT.sIx n 0 lo:Nat):Int)/\(RW lo hi ZB n).2.1=((HT.sIx n n hi:Nat):Int)/\(RW lo hi ZB n).2.2=1:=by
 refine⟨?_,?_,rfl⟩
 ·cases lo with
  |none=>simp[RW,HT.sIx]
  |some i=>
   simp only[RW,HT.sIx,VU,show(1:Int) > 0 by decide,if_true]
   by_cases h:i<0
   ·simp only[h,if_true] <;> omega
   ·simp only[h,if_false] <;> omega
 ·cases hi with
  |none=>simp[RW,HT.sIx]
  |some i=>
   simp only[RW,HT.sIx,VU,show(1:Int) > 0 by decide,if_true]
   by_cases h:i<0
   ·simp only[h,if_true] <;> omega
   ·simp only[h,if_false] <;> omega
def qS(its:List NA)(lo hi:Option Int):slicePick its.toArray lo hi ZB=((its.drop (HT.sIx its.length 0 lo)).take (HT.sIx its.length its.length hi - HT.sIx its.length 0 lo)).toArray:=by
 obtain⟨h1,h2,h3⟩:=tN lo hi its.toArray.size;unfold slicePick;rw[h1,h2,h3];simp only[sliceRange_one,pick_run,NP] <;> rfl
def rSlL(K:Nt):V->Option Int->Option Int->Hp->VK->Prop:=λx lo hi H Q=>∃a xs,x=.ref a/\SqL K H a xs/\∀p,H p=ZB->Q (.ref p) (upd H p (.lst (xU xs lo hi)))
def Fg:SlR X (rSlL X.K):=by
 intro bv s σ H x v vl vu lo hi sl Q I rx hs pl pu h;obtain⟨a,xs,rfl,hx,q⟩:=h;cases rx;obtain⟨its,r,ht,hz⟩:=I.list hx
 have hlen:=r.length;refine⟨"list",_,slot_list_getitem.lookup,ht.isList.typeIs,?_⟩
 refine wpAny_getItem_list_slice ht.isList hs pl pu .none (by simp) ?_ (by rw[NP] <;> omega)
 rw[qS,<-hlen];refine⟨.ref s.heap.objs.size,_,I.laid (t':=s.toks) (o:=.lst (xU xs lo hi)) (λb ob q=>Nr _ q) (NL _) ?_,rfl,q _ (I.hok.fresh (NL _))⟩
 exact⟨Oj (nY xs lo hi) hz,_,0,(r.drop (HT.sIx xs.length 0 lo)).take (HT.sIx xs.length xs.length hi - HT.sIx xs.length 0 lo),NI _ rfl⟩
def call_len_seq:CallR X (.builtin "len") (λxs H Q=>∃p ys,xs=[.ref p]/\(SqL X.K H p ys\/SqT X.K H p ys)/\Q (.int ys.length) H):=by
 intro bv s σ H xs us Q I r h;obtain⟨p,ys,rfl,hq,q⟩:=h;obtain⟨u,rfl,rx⟩:=kY r;cases rx
 have hn:=p6;rcases hq with hq|hq
 ·obtain⟨its,r',pl,hz⟩:=I.list hq
  have hlen:=r'.length;exact Calls.call_len_list pl.isList (by simp only[NP] <;> omega) ⟨.int ys.length,H,I.tok _,⟨s.toks+1,by rw[NP,hlen]⟩,q⟩
 ·obtain⟨its,r',pl,hz⟩:=I.tuple hq
  have hlen:=r'.length;exact len_tuple pl (by simp only[NP] <;> omega) ⟨.int ys.length,H,I.tok _,⟨s.toks+1,by rw[NP,hlen]⟩,q⟩
def vq:CallR X (.builtin "len") (λxs H Q=>∃z,xs=[.str z]/\z.length<=ZI/\Q (.int z.length) H):=by
 intro bv s σ H xs us Q I r h;obtain⟨z,rfl,hz,q⟩:=h;obtain⟨u,rfl,t,rfl⟩:=kY r
 have hn:=p6;exact len_str (by omega) ⟨.int z.length,H,I.tok _,⟨_,rfl⟩,q⟩
def CallR.or{f:NA}{r r':List V->Hp->VK->Prop}(h:CallR X f r)(h':CallR X f r'):CallR X f (λxs H Q=>r xs H Q\/r' xs H Q):=by
 intro bv s σ H xs us Q I rs q;rcases q with q|q
 ·exact h bv s σ H xs us Q I rs q
 ·exact h' bv s σ H xs us Q I rs q
def rL:CallR X (.type "tuple") (λxs H Q=>∃p ys,xs=[.ref p]/\((SqL X.K H p ys/\∀l,H l=ZB->Q (.ref l) (upd H l (.tup ys)))\/(SqT X.K H p ys/\Q (.ref p) H))):=by
 intro bv s σ H xs us Q I r h;obtain⟨p,ys,rfl,h⟩:=h;obtain⟨u,rfl,rx⟩:=kY r;cases rx;rcases h with⟨hq,q⟩|⟨hq,q⟩
 ·obtain⟨its,r',pl,hz⟩:=I.list hq
  have hlen:=r'.length;refine call_tuple_list pl.isList (λh' kp=>?_) (by simp only[NP] <;> omega)
  have I1:Inv X bv σ H {s with heap:=h'}:=I.kept (t':=s.toks) kp
  have I2:Inv X bv σ (upd H h'.objs.size (.tup ys)) {s with heap:=h'.push {cls:=.type "tuple",data:=.seq its.toArray}}:=
   I1.laid (t':=s.toks) (λb o e=>Nr _ e) (NL _) (show ObjOk X.prog X.w _ _ _ (.tup ys)from⟨hz,its,r',Wg _ _⟩)
  exact⟨.ref h'.objs.size,_,I2,rfl,q _ (I1.hok.fresh (NL _))⟩
 ·obtain⟨its,r',pl,hz⟩:=I.tuple hq
  exact call_tuple_same pl ⟨.ref p,H,I,rfl,q⟩
def tyV(K:Nt)(T:String)(x:V)(H:Hp):Prop:=match x with
 |.str _=>T= "str"
 |.int _=>T= "int"
 |.ref p=>(T= "list"/\∃xs,SqL K H p xs)\/(T= "tuple"/\∃o,K.lookup p=ZA o/\o.cls=.type "tuple"/\o.dict=ZB) ∨
   (T= "dict"/\((∃kvs,H p=ZA (.dK kvs))\/∃kvs,H p=ZA (.dT kvs)))\/(T= "set"/\∃S n,H p=ZA (.set S n))
 |_=>False
def B5{T:String}{x:V}(I:Inv X bv σ H s)(r:RelV x v)(ty:tyV X.K T x H):
  s.TypeIs v T/\∀a,v=.ref a->∃ob,s.heap.get? a=ZA ob/\ob.dict=ZB:=by
 cases x with
 |str z=>
  obtain⟨t,rfl⟩:=r;cases (show T= "str" from ty)
  exact⟨typeIs_str s z t,λ_ e=>nomatch e⟩
 |int i=>
  obtain⟨t,rfl⟩:=r;cases (show T= "int" from ty)
  exact⟨Ur s i t,λ_ e=>nomatch e⟩
 |ref p=>
  cases r;rcases ty with⟨rfl,xs,hq⟩|⟨rfl,o,hk,hc,hd⟩|⟨rfl,hk⟩|⟨rfl,S,n,hk⟩
  ·obtain⟨its,_,pl,_⟩:=I.list hq
   refine⟨pl.isList.typeIs,λa e=>?_⟩
   cases e;obtain⟨o,n,e,c,hd,_⟩:=pl;exact⟨o,e,hd⟩
  ·refine⟨⟨o,I.kIn p o hk,hc⟩,λa e=>?_⟩
   cases e;exact⟨o,I.kIn _ o hk,hd⟩
  ·have z:∃o,s.heap.get? p=ZA o/\o.ExactDict:=by
    rcases hk with⟨kvs,hk⟩|⟨kvs,hk⟩
    ·obtain⟨_,_,_,_,o,_,_,e,ex,_⟩:=I.hok p _ hk
     exact⟨o,e,ex⟩
    ·obtain⟨_,_,_,_,o,_,_,e,ex,_⟩:=I.hok p _ hk
     exact⟨o,e,ex⟩
   obtain⟨o,e,ex⟩:=z;refine⟨⟨o,e,ex.1⟩,λa e2=>?_⟩
   cases e2;exact⟨o,e,ex.2.1⟩
  ·obtain⟨o,_,_,_,e,ex,_⟩:=I.hok p _ hk
   refine⟨⟨o,e,ex.1⟩,λa e2=>?_⟩
   cases e2
   exact⟨o,e,ex.2.1⟩
 |_=>exact Q2 ty
def tBM(K:Nt)(T:String)(r:V->List V->Hp->VK->Prop)(to:TE)(t:TA):TE:=λσ H Q=>to σ H λx H1=>tyV K T x H1/\t σ H1 λxs H2=>r x xs H2 Q
variable {o:ZG}{es:List ZG}{to:TE}{t:TA}{name:Str}{apos cpos:Pos}{T id:String}{r:V->List V->Hp->VK->Prop}
def Hn(pa:PlainAttrs T)(slot:Slot T name id)(hty:typeOf (.builtin id)=pure (.type "method_descriptor"))(hm:MtR X id r)(ho:PE X o to)(ha:PA X (e::es) t)
  (hbase:autoParam (PB o name X.env (eval o X.env)=eval o X.env) u_)
  (hfew:((backTo cpos (NZ (e::es) X.env)).all (λx=>!x.1)&&(backToKw cpos (Ww [] X.env)).all (λx=>x.1.isSome)
   &&decide ((e::es).length+([]:List Wx).length+(if ([]:List Wx).isEmpty then 0 else 1)<30))=ZC:=by rfl)
  (hline:autoParam ((apos.endLine == cpos.line)=ZC) u_) (hs:autoParam (NZ (e::es) X.env=(ZD,eval e X.env)::NZ es X.env) u_) (hplain:autoParam ((backTo cpos (NZ es X.env)).any (·.1)=ZD) u_):
  PE X (.Call (.Attribute o name apos) (e::es) [] cpos) (tBM X.K T r to t):=by
 intro bv s σ H Q I h;refine TM hbase hfew hline rfl (cF (ho bv s σ H _ I h) λv s1 hh_=>?_)
 obtain⟨x,H1,I1,r1,ty,q1⟩:=hh_;obtain⟨h1,h2⟩:=B5 I1 r1 ty;refine⟨T,id,pa,slot,hty,h1,h2,?_⟩
 have hA:=ha cpos bv s1 σ H1 _ I1 q1;rw[hs]at hA ⊢;refine RO (by show(ZD||(backTo cpos (NZ es X.env)).any (·.1))=ZD;rw[hplain] <;> rfl) (Rc ?_)
 exact cF hA λus s2 ⟨vs,H2,I2,r2,q2⟩=>hm bv s2 σ H2 x vs v us Q I2 r1 r2 q2
end
def MtM(X:Cx)(id:String)(r:V->List V->Hp->VK->Prop):Prop:=
 ∀(bv:W2)(s:NB)(σ:St)(H:Hp)(x:V)(xs:List V)(v:NA)(us:List NA)(Q:VK),Inv X bv σ H s->RelV x v->Vals xs us->r x xs H Q →
  ZJ (ZK X.prog X.w) X.A (call (.builtin id) (v::us)) (EP X bv σ Q) X.xe s
theorem Vals.one:∀{x:V}{us:List NA},Vals [x] us->∃u,us=[u]/\RelV x u
 |_,_,.cons r .nil=>⟨_,rfl,r⟩
theorem Vals.rep(h:Vals xs us):∀k:Nat,Vals (N5 k xs).flatten (N5 k us).flatten
 |0=>.nil
 |k+1=>by
  rw[Pq,Pq,Qt,Qt];exact Vals.append h (Vals.rep h k)
theorem foldl_rep(its:List NA):∀(k:Nat)(acc:List NA),
  S3 (λx1 x2=>x1++x2) acc.toArray (N5 k its.toArray)=(acc++(N5 k its).flatten).toArray
 |0,acc=>by simp
 |k+1,acc=>by
  have e:acc.toArray++its.toArray=(acc++its).toArray:=by simp
  have e2:(acc++its)++(N5 k its).flatten=acc++(N5 (k+1) its).flatten:=by
   rw[Pq,Qt,NY]
  rw[<-e2,<-foldl_rep its k (acc++its),<-e,Pq,Wh]
section
variable {l b:ZE}{ys zs:List V}
def Inv.M5{its':List NA}{f:Array NA->Array NA}(I:Inv X bv σ H s)(hH:H l=ZA (.lst xs))
  (e:s.heap.get? l=ZA {cls:=.type "list",data:=.seq its.toArray n}) (hf:f its.toArray=its'.toArray) (hv:Vals ys its') (hz:ys.length<=ZI):
  Inv X bv σ (upd H l (.lst ys)) {s with heap:=s.heap.update l (P8 f),toks:=t'}:=by
 have q:=PySem.IsL.update e f;rw[hf]at q;refine I.write (x:=l) (e:=l) (by rw[hH];exact trivial) (.inl rfl) (λb' u hb hu=>(Pf s.heap (P8 f) (Rn hb)).trans hu) ⟨_,q⟩ ?_
 exact⟨hz,its',_,hv,q⟩
def Inv.MX(I:Inv X bv σ H s)(hv:Vals ys its)(hz:ys.length<=ZI):
  Inv X bv σ (upd H s.heap.objs.size (.lst ys)) {s with heap:=s.heap.push {cls:=.type "list",data:=.seq its.toArray},toks:=t'}:=
 I.laid (λ_ _ q=>Nr _ q) (NL _) ⟨hz,its,0,hv,NI _ rfl⟩
theorem Inv.fresh(I:Inv X bv σ H s):H s.heap.objs.size=ZB:=I.hok.fresh (NL _)
def Inv.Mq(I:Inv X bv σ H s)(hH:H l=ZA (.lst xs)):xs.length<=ZI/\∃(its:List NA)(n:Nat),Vals xs its/\xs.length=its.length/\s.heap.get? l=ZA {cls:=.type "list",data:=.seq its.toArray n}:=by
 obtain⟨z,its,n,r,e⟩:=I.hok l _ hH;exact⟨z,its,n,r,r.length,e⟩
def wW(h:n<=ZI):Qp n=ZD:=by
 unfold Qp;exact decide_eq_false (by omega)
end
def Fs:V->List V->Hp->VK->Prop:=λx vs H Q=>∃l xs y,x=.ref l/\vs=[y]/\H l=ZA (.lst xs)/\xs.length<ZI/\Q .non (upd H l (.lst (xs++[y])))
def sh:MtM X "list.append" Fs:=by
 intro bv s σ H x vs v us Q I rx rv h;obtain⟨l,xs,y,rfl,rfl,hH,hz,q⟩:=h;cases rx;obtain⟨u,rfl,ru⟩:=rv.one;obtain⟨z,its,n,r,hl,e⟩:=I.Mq hH;refine Sj F.slot_list_append ⟨_,e,rfl⟩ F.entry_list_append (F.args_list_append_2 _ _) (PySem.list_append l its.toArray n u (by rw[NP];omega)) ⟨e,?_⟩
 refine⟨.non,_,I.M5 (its':=its++[u]) hH e (by simp) (r.append (.cons ru .nil)) ?_,rfl,q⟩
 rw[NH,PF];omega
def Fq:V->List V->Hp->VK->Prop:=λx vs H Q=>∃l b xs zs,x=.ref l/\vs=[.ref b]/\H l=ZA (.lst xs)/\H b=ZA (.lst zs)/\xs.length+zs.length<=ZI/\Q .non (upd H l (.lst (xs++zs)))
def Ba:MtM X "list.extend" Fq:=by
 intro bv s σ H x vs v us Q I rx rv h;obtain⟨l,b,xs,zs,rfl,rfl,hH,hB,hz,q⟩:=h;cases rx;obtain⟨u,rfl,ru⟩:=rv.one;cases ru;obtain⟨z,its,n,r,hl,e⟩:=I.Mq hH;obtain⟨z2,its2,n2,r2,hl2,e2⟩:=I.Mq hB
 have hsz:its.toArray.size+its2.toArray.size<=ZI:=by rw[NP,NP];omega
 have hlong:¬ (!its.toArray.isEmpty&&Qp (its.toArray.size+its2.toArray.size))=ZC:=by
  rw[wW hsz,Bool.and_false];exact N3
 refine Sj F.slot_list_extend ⟨_,e,rfl⟩ F.entry_list_extend (F.args_list_extend_2 _ _)
  (AutoSeq1.list_extend_list_list_0 l its.toArray n b its2.toArray n2 hlong (by rw[NP];omega) (by omega)) ⟨e,e2,?_⟩
 refine⟨.non,_,I.M5 (its':=its++its2) hH e (by simp) (r.append r2) ?_,rfl,q⟩
 rw[NH];omega
def rCat:R2:=λx y H Q=>∃l b xs zs,x=.ref l/\y=.ref b/\H l=ZA (.lst xs)/\H b=ZA (.lst zs)/\xs.length+zs.length<=ZI/\∀p,H p=ZB->Q (.ref p) (upd H p (.lst (xs++zs)))
def Jh:rN X (PM .Add) rCat:=by
 intro bv s σ H x y v u Q I rx ry h;obtain⟨l,b,xs,zs,rfl,rfl,hH,hB,hz,q⟩:=h;cases rx;cases ry;obtain⟨z,its,n,r,hl,e⟩:=I.Mq hH;obtain⟨z2,its2,n2,r2,hl2,e2⟩:=I.Mq hB;refine PySem.P.add_list e e2 ?_ (by rw[NP,NP];omega)
 have ea:its.toArray++its2.toArray=(its++its2).toArray:=by simp
 rw[ea];exact⟨.ref _,_,I.MX (t':=s.toks) (r.append r2) (by rw[NH];omega),rfl,q _ I.fresh⟩
def rRep:R2:=λx y H Q=>∃l k xs,x=.ref l/\y=.int k/\H l=ZA (.lst xs)/\-(2 ^ 63)<=k/\k<2 ^ 63/\xs.length*k.toNat<=ZI ∧
 ∀p,H p=ZB->Q (.ref p) (upd H p (.lst (N5 k.toNat xs).flatten))
def len_rep(xs:List α)(k:Nat):(N5 k xs).flatten.length=k*xs.length:=by
 induction k with
 |zero=>simp
 |succ k ih=>rw[Pq,Qt,NH,ih,Nat.succ_mul,VD]
def Jd:rN X (PM .Mult) rRep:=by
 intro bv s σ H x y v u Q I rx ry h;obtain⟨l,k,xs,rfl,rfl,hH,h1,h2,hz,q⟩:=h;cases rx;obtain⟨t,rfl⟩:=ry;obtain⟨z,its,n,r,hl,e⟩:=I.Mq hH
 have hlen:its.toArray.size*k.toNat<=ZI:=by rw[NP,<-hl];exact hz
 have hcap:¬ its.toArray.size*k.toNat > (2 ^ 63 - 1) / 8:=by
  have:(ZI:Nat)<=(2 ^ 63 - 1) / 8:=by decide
  omega
 have hfit:¬ (!Builtin.List.listFitsIndex k)=ZC:=by
  rw[fitsIndex_both h1 h2];exact N3
 have hlong:¬ Qp (its.toArray.size*k.toNat)=ZC:=by
  rw[wW hlen];exact N3
 have hnew:S3 (λx1 x2=>x1++x2) #[] (N5 (if its.toArray.isEmpty=ZC then 0 else k.toNat) its.toArray)=(N5 k.toNat its).flatten.toArray:=by
  have f0:∀m:Nat,S3 (λx1 x2=>x1++x2) #[] (N5 m its.toArray)=(N5 m its).flatten.toArray:=λm=>by
   have:=foldl_rep its m [];rw[OW]at this;exact this
  rw[f0]
  cases its with
  |nil=>simp
  |cons a r'=>rw[if_neg (by simp)]
 refine SQ (T:="list") (U:="int") (by decide) ⟨_,e,rfl⟩ (λs'=>Ur s' k t) noFill_list_mul Wi So repeat_list VW.lookup
  (Sj So (Ur s k t) VX (Vm _ _) (int___rmul___int_list k t l its.toArray n)
   ⟨e,rfl,⟨_,e,rfl⟩,Sj F.slot_list_mul ⟨_,e,rfl⟩ F.entry_list_mul (F.args_list_mul_2 _ _) (UW l its.toArray n k t hfit hcap hlong) ⟨e,?_⟩⟩)
 rw[hnew];exact⟨.ref _,_,I.MX (t':=s.toks) (r.rep k.toNat) (by rw[len_rep,VE];exact hz),rfl,q _ I.fresh⟩
end L2
namespace Att
open PySem PySem.W PySem.Calls PyProof.Rows
variable{P:Params}{h:ZH}
def ou:∀(ns:List Int)(vs:List NA),WellAll P h vs (ns.map WData.int)->PH vs ns:=by
 intro ns
 induction ns with
 |nil=>
  intro vs w;rw[QV]at w;cases w
  exact .nil
 |cons n ns ih=>
  intro vs w;rw[Nx]at w
  cases w with
  |cons a b=>
   cases a;exact .cons _ _ (ih _ b)
variable{l:OpenLaw}
def AY(hn:l.most=ZA n){args:List WData}{vals:List NA}
  (hpre:l.row.toRowW.claim.pre args=ZC) (hwl:WellAll P h vals args):
  ∃a vs ns,vals=[NQ a]/\args=[WData.list (ns.map WData.int)]/\h.get? a=ZA {cls:=.type "list",data:=.seq vs.toArray}/\PH vs ns/\ns.length<=n:=by
 have hsh:WShape.hasAll [] args [.list .int]=ZC:=(pre_splitW hpre).1
 have hc:l.pre.holds [] {args:=args}=ZC:=(pre_splitW hpre).2;obtain⟨d,r,rfl,h1,h2⟩:=hasAllW_cons hsh;obtain rfl:=hasAllW_nil h2;obtain⟨xs,rfl,h3⟩:=hasW_list h1;obtain⟨ns,rfl⟩:=items_int h3
 have hlen:ns.length<=n:=by
  unfold OpenLaw.pre at hc
  have h4:(WTm.not (.lt (.lit (.int (n:Int))) (.len (.arg 0)))).holds [] {args:=[.list (ns.map .int)]}=ZC:=by
   have h4:=(holds_andW hc).1;rw[hn]at h4;exact h4
  have h5:=condW_of h4 (w_not (w_lt w_lit (w_len_list (w_arg rfl))));rw[Ny]at h5;refine Tv λq=>?_
  have q':(n:Int)<((ns.length:Nat):Int):=by omega
  first
   | (rw[decide_eq_true q']at h5;exact absurd h5 (by decide))
   | (simp at h5;omega)
 cases hwl with
 |cons w1 w2=>
  cases w2
  cases w1 with
  |list ho hall=>exact⟨_,_,ns,rfl,rfl,ho,ou ns _ hall,hlen⟩
def A2(l:OpenLaw)(args:List WData):l.row.toRowW.claim.post args (.bool ZC) args=ZC:=
 postW_of (r:=l.row.toRowW) (X:=(ZC == ZC))
  (show WShape.has [] (.bool ZC) .bool=ZC by first|rfl|decide|simp[WShape.has,WShape.arms,WShape.armsAll])
  (show(WTm.eq .res (.lit (.bool ZC))).value [] {args:=args,res:=ZA (.bool ZC),after:=args}=ZA (.bool (ZC == ZC))from w_eq_bool (w_res rfl) w_lit) rfl
def attach_call{loose:List Str}{XP:(W0)->ZH->Prop}{YP:OF->ZH->Prop}{d:DefRec}
  (hn:l.most=ZA n) (hdf:d.params.defaults=[])
  (call:∀(w:OF)(s₀ s₁:NB)(mg mb:W0)(fa:ZE)(o:Obj)(pm cd doc:NA)(a:ZE)(vs:List NA)(ns:List Int),
   Ground q loose [] XP w s₀ mg mb s₁.heap->YP w s₁.heap →
   s₁.heap.get? fa=ZA o->o.data=.func (docDef d.name d.params d.body d.scope pm cd doc)->s₁.heap.CodeRec cd d.name->mg d.name=ZA (.ref fa) →
   s₁.heap.get? a=ZA {cls:=.type "list",data:=.seq vs.toArray}->PH vs ns->ns.length<=n->s₁.gens= #[] →
   ZL (ZK l.prog w) callerA (.call (.ref fa) ⟨[.ref a],[]⟩) (λr s'=>r=.ok (.ret (.bool ZC))/\OldK s₁.heap s'.heap/\s'.os=s₁.os/\To s'.gens) s₁):
  WalkO q loose XP YP l.row.toRowW d [] (λf vs=>PySem.call f vs):=by
 intro w s₀ s₁ mg mb G Y fa o pm cd doc dV kV ho hd hcd hD hmg hg args vals as hpre hlay hrd hwl hlo;obtain rfl:dV=.none:=Dflts.none hD hdf;obtain rfl:kV=.none:=Dflts.noKw hD;obtain⟨a,vs,ns,rfl,rfl,hobj,hints,hlen⟩:=AY hn hpre hwl;refine enter_call (Uc (call w s₀ s₁ mg mb fa o pm cd doc a vs ns G Y ho (fd_plain hd) hcd hmg hobj hints hlen hg) λr s' hq=>?_)
 obtain⟨rfl,h2,h3,h4⟩:=hq;exact⟨.inl ⟨.bool ZC,.bool ZC,[],rfl,λ_=>rfl,.bool ZC,A2 l _,λ_=>⟨SX,λ_ hm=>(nomatch hm)⟩⟩,h2,h3,h4⟩
end Att
namespace L2
open PySem PySem.Spec PyProof.Rows
theorem rO:∀{vs:List NA}{ns:List Int},PH vs ns->Vals (ns.map V.int) vs
 |_,_,.nil=>.nil
 |_,_,.cons n t h=>.cons ⟨t,rfl⟩ (rO h)
def J8(H:Hp):Prop:=∀b,H b=ZB\/∃o xs,H b=ZA (.frz o (.lst xs))
variable{mg:W0}{sp:Sp}{x:Str}
def Dr{mb:W0}{CX:EH}{k:Nat}{fa a:ZE}{s₁:NB}
  (KX:K.In s₁.heap) (hns:s₁.heap.Ns Oy mg) (hb:s₁.heap.Ns S7 mb) (hbb:∀x:Str,x≠ "__name__"->mb x=Oq x) (hlim:s₁.heap.NoLimit) (hg:s₁.gens= #[])
  (ha:s₁.heap.get? a=ZA {cls:=.type "list",data:=.seq vs.toArray}) (hi:PH vs ns) (hl:ns.length<=ZI) (hr:Room k callerA)
  (F:∀base:ZH,K.In base->base.Ns Oy mg->vG P w K mg base CX k fa fd [x] sp) (hbind:∀(s:NB)(u:NA),Vx s fd ⟨[u],[]⟩ [(x,u)])
  (hsp:∀H:Hp,J8 H->SqL K H a (ns.map V.int)->sp [.ref a] H (λv _=>v=.bl ZC) λ_ _ _=>False)
  (hCX:∀H e s',CX [] H s₁ (λ_ _ _=>False) e s'->False):
  ZL (ZK P w) callerA (.call (.ref fa) ⟨[.ref a],[]⟩) (λr s'=>r=.ok (.ret (.bool ZC))/\OldK s₁.heap s'.heap/\s'.os=s₁.os/\To s'.gens) s₁:=by
 have rv:=rO hi
 have lenV:=hi.length
 have core:∀H:Hp,J8 H->SqL K H a (ns.map V.int)->HOk P w H s₁.heap->(∀b,H b≠ZB->b=a)->(H a≠ZB->K.lookup a=ZB) →
   ZL (ZK P w) callerA (.call (.ref fa) ⟨[.ref a],[]⟩) (λr s'=>r=.ok (.ret (.bool ZC))/\OldK s₁.heap s'.heap/\s'.os=s₁.os/\To s'.gens) s₁:=by
  intro H hO hS hok hA hK
  have base_of:∀{b:ZE}{o:Obj},s₁.heap.get? b=ZA o->H b=ZB->(u6 s₁.heap H).get? b=ZA o:=λe n=>DK e n
  have noA:∀{b:ZE}{o:Obj}{es:Array R4}{ep:Nat},s₁.heap.get? b=ZA o->o.data=.dict es ep->H b=ZB:=λ{b o es ep} e d=>by
   cases q:H b with
   |none=>rfl
   |some u=>
    have e':b=a:=hA b (by rw[q];simp)
    subst e';rw[ha]at e;cases e
    have d':Data.seq vs.toArray _=Data.dict es ep:=d;cases d'
  have nsK:∀{b:ZE}{m:W0},s₁.heap.Ns b m->(u6 s₁.heap H).Ns b m:=λ{b m} ⟨o,es,ep,e,d,r⟩=>⟨o,es,ep,base_of e (noA e d),d,r⟩
  have hKb:K.In (u6 s₁.heap H):=λb o e=>base_of (KX b o e) (by
   cases q:H b with
   |none=>rfl
   |some u=>
    have e':b=a:=hA b (by rw[q];simp)
    subst e';rw[hK (by rw[q];simp)]at e;cases e)
  have hM:Mod K mg (u6 s₁.heap H):=⟨hKb,nsK hns,⟨mb,nsK hb,hbb⟩,let ⟨mc,h1,h2⟩:=hlim;⟨mc,nsK h1,h2⟩⟩
  have e0:EC P w K mg (u6 s₁.heap H) callerA [] s₁ H:=⟨rfl,hM,λb o e=>Gd e,PV (Bp _ _),trivial,λb hb=>absurd (show b∈([]:List ZE)from hb) (by simp),hok,.of_eq hg⟩
  refine Uc ((F _ hKb (nsK hns)).run callerA [] s₁ H ⟨[.ref a],[]⟩ [.ref a] [.ref a] _ _ hr e0 (hbind s₁ (.ref a)) (.cons rfl .nil) (hsp H hO hS)) λr s' h=>?_
  cases r with
  |error e=>exact(hCX H e s' h).elim
  |ok fl=>
   cases fl with
   |next=>exact Q2 h
   |brk=>exact Q2 h
   |cont=>exact Q2 h
   |ret u=>
    obtain⟨v,H',os,bare,un,hok',r',q⟩:=h
    have q':v=.bl ZC:=q;subst q';obtain rfl:u=Pb ZC:=r';refine⟨rfl,OldK.of_keep λb o e=>?_,os,bare⟩
    cases q:H b with
    |none=>exact un.keep b o e q (by intro z;exact absurd (show b∈([]:List ZE)from z) (by simp)) (by simp)
    |some u=>
     rcases hO b with z|⟨ob,xs,z⟩
     ·rw[q]at z;cases z
     ·have z2:=un.frzs b ob _ z
      obtain⟨e1,_⟩:=hok b _ z;obtain⟨e2,_⟩:=hok' b _ z2;rw[e]at e1;cases e1;exact e2
 cases hk:K.lookup a with
 |some o=>
  have e:=KX a o hk;rw[ha]at e;cases e
  refine core (λ_=>ZB) (λ_=>.inl rfl) (.inr ⟨_,vs.toArray,_,hk,rfl,rfl,rfl,by rw[NP,lenV];exact hl,by simpa using rv⟩) (λb u z=>by have z':(ZB:Option HO)=ZA u:=z;cases z') (λb z=>absurd rfl z) λz=>absurd rfl z
 |none=>
  refine core (λb=>if b=a then ZA (.frz {cls:=.type "list",data:=.seq vs.toArray} (.lst (ns.map V.int)))else ZB) (λb=>?_) (.inl (.inr ⟨{cls:=.type "list",data:=.seq vs.toArray},if_pos rfl⟩)) (λb u z=>?_) (λb z=>?_) λ_=>hk
  ·by_cases hb:b=a
   ·exact .inr ⟨_,_,if_pos hb⟩
   ·exact .inl (if_neg hb)
  ·by_cases hb:b=a
   ·have z':=(if_pos hb).symm.trans z
    cases z';subst hb;exact⟨ha,by rw[Ny];exact hl,vs,_,rv,ha⟩
   ·have z':=(if_neg hb).symm.trans z
    cases z'
  ·by_cases hb:b=a
   ·exact hb
   ·exact absurd (if_neg hb) z
abbrev CX0:EH:=λ_ _ _ _ _ _=>False
abbrev E0:XK:=λ_ _ _=>False
variable{X:Cx}
def Ho:zk CX0 X E0:=λ_ _ _ _ _ _ _ h=>h.elim
structure Fun (K:Nt)(x qual:Str)(st:ZF)(f:ZE)(fd:PN):Prop where
 ex:∃(oc:NA)(od:Option ZE)(kV doc pm:NA)(an:Option ZE)(cdv ct:NA)(osl:Array (Option NA)),
  fd=RY x qual (ie st) (dP st) (ao st) .none kV doc pm an cdv ct/\K.lookup f=ZA ⟨oc,od,.func fd,osl⟩/\UD K cdv qual=ZC
 kp:RX K (.ref f)=ZC
variable{f:ZE}{ps:List Str}{qual:Str}{st:ZF}
section
variable {base:ZH}
def Fun.ok{N:List Str}{k:Nat}(F:Fun K x qual st f fd)(S:aE N ps (ao st))(len:∀vs H Q E,sp vs H Q E->vs.length=ps.length)
  (hbody:∀(cdv:NA)(A:Os)(outer:List Env)(s:NB)(H:Hp)(vs:List V)(Q:VK)(E:XK),Room k (A.deeper (envOfC qual (ao st) s.heap.objs.size f cdv))->sp vs H Q E →
   ∃t,PSs (nB CX0 P w K mg base N qual (ao st) f cdv A outer s H E).nox (dP st) t/\t {nx:=λ_ H'=>Q .non H',rt:=Q} (start N vs) H):vG P w K mg base CX0 (k+1) f fd ps sp:=by
 obtain⟨oc,od,kV,doc,pm,an,cdv,ct,osl,rfl,lk,hcd⟩:=F.ex;refine LH lk hcd S len λA outer s H vs Q E hr hsp=>?_
 obtain⟨t,h,q⟩:=hbody cdv A outer s H vs Q E hr hsp;exact⟨t,h.nox,q⟩
def Fun.binds(F:Fun K x qual st f fd)
  (h:∀(kV doc pm:NA)(an:Option ZE)(cdv ct:NA)(us:List NA),us.length=ps.length->bindArgs (RY x qual (ie st) (dP st) (ao st) .none kV doc pm an cdv ct) ⟨us,[]⟩=pure (ps.zip us)):Binds K fd ps []:=by
 obtain⟨oc,od,kV,doc,pm,an,cdv,ct,osl,rfl,lk,hcd⟩:=F.ex;exact .all (h kV doc pm an cdv ct)
def JO{oc:NA}{od an:Option ZE}{osl:Array (Option NA)}{kV doc pm cdv ct:NA}(l:K.lookup f=ZA ⟨oc,od,.func (RY x qual (ie st) (dP st) (ao st) .none kV doc pm an cdv ct),osl⟩)
  (c:UD K cdv qual=ZC) (k:RX K (.ref f)=ZC):Fun K x qual st f (RY x qual (ie st) (dP st) (ao st) .none kV doc pm an cdv ct):=⟨⟨oc,od,kV,doc,pm,an,cdv,ct,osl,rfl,l,c⟩,k⟩
end
def pv(i:Nat){pos:Pos}(hN:autoParam (X.N[i]?=ZA x) u_)(hv:autoParam (vD X.env.scope x) v_)(hd:autoParam ((x == ("__debug__" : Str))=ZD) s_)
  (hcd:autoParam ((x == ("__classdict__" : Str))=ZD) s_):PE X (.Name x pos) (vW i):=jU hN hv hd hcd
def iteF{A B:Prop}(h:B):if ZD=ZC then A else B:=by
 rw[if_neg N3];exact h
def iteT{A B:Prop}(h:A):if ZC=ZC then A else B:=by
 rw[if_pos rfl];exact h
def Same(H H':Hp):Prop:=∀b o,H b=ZA o->H' b=ZA o
def Same.refl(H:Hp):Same H H:=λ_ _ h=>h
def Same.trans{H H1 H2:Hp}(a:Same H H1)(b:Same H1 H2):Same H H2:=λc o h=>b c o (a c o h)
variable{env:Env}
theorem lS:∀(names:List (Str×Q6))(acc:List (Str×ZE)),
  (∀x,(x,OE)∈names->∃c,env.cells.lookup x=ZA c) →
  (∀x c,acc.lookup x=ZA c->env.cells.lookup x=ZA c) →
  ∃cl,(forIn (m:=Sem) names acc (λx cs=>(if (x.2 == OE)=ZC then do let a <-cellOf env x.1;pure (QX ((x.1,a)::cs))else pure (QX cs))))=pure cl ∧
   (∀x c,cl.lookup x=ZA c->env.cells.lookup x=ZA c) ∧
   (∀x,(x,OE)∈names->∃c,cl.lookup x=ZA c)/\(∀x c,acc.lookup x=ZA c->∃c',cl.lookup x=ZA c')
 |[],acc,_,h=>⟨acc,rfl,h,λx hx=>by simp at hx,λx c e=>⟨c,e⟩⟩
 | (n,k)::r,acc,hf,h=>by
  by_cases hk:k=OE
  ·subst hk
   obtain⟨c,hc⟩:=hf n (by simp)
   have h':∀x c',((n,c)::acc).lookup x=ZA c'->env.cells.lookup x=ZA c':=λx c' e=>by
    rw[OK]at e
    cases q:x == n with
    |true=>
     rw[q]at e
     have e2:c=c':=Om e
     have e3:x=n:=by simpa using q
     rw[<-e2,e3];exact hc
    |false=>rw[q]at e;exact h x c' e
   obtain⟨cl,e1,e2,e3,e4⟩:=lS r ((n,c)::acc) (λx hx=>hf x (Nu _ hx)) h'
   refine⟨cl,?_,e2,λx hx=>?_,λx c' e=>?_⟩
   ·rw[Pl]
    simp only[beq_self_eq_true,if_true,cellOf,hc,pure_bind];exact e1
   ·rcases NG.mp hx with z|z
    ·have z1:x=n:=by injection z
     subst z1;exact e4 x c (by simp[OK])
    ·exact e3 x z
   ·cases q:x == n with
    |true=>exact e4 x c (by simp[OK,q])
    |false=>exact e4 x c' (by simp[OK,q,e])
  ·have hb:(k == OE)=ZD:=by simpa using hk
   obtain⟨cl,e1,e2,e3,e4⟩:=lS r acc (λx hx=>hf x (Nu _ hx)) h
   refine⟨cl,?_,e2,λx hx=>?_,e4⟩
   ·rw[Pl]
    simp only[hb,N8,if_false,pure_bind];exact e1
   ·rcases NG.mp hx with z|z
    ·have z1:OE=k:=by injection z
     exact absurd z1.symm hk
    ·exact e3 x z
def zf(hf:∀x,(x,OE)∈scope.names->∃c,env.cells.lookup x=ZA c):
  ∃cl,closureFor scope env=pure cl/\(∀x c,cl.lookup x=ZA c->env.cells.lookup x=ZA c)/\(∀x,(x,OE)∈scope.names->∃c,cl.lookup x=ZA c):=by
 obtain⟨cl,e1,e2,e3,_⟩:=lS scope.names [] hf (λx c e=>by simp at e)
 refine⟨cl,?_,e2,e3⟩
 unfold closureFor;refine Eq.trans ?_ (congrArg (λz=>z >>= pure) e1|>.trans (by simp))
 rfl
variable{tg:ZG}
def vo{pr:N1}{wd:OF}{Ar:Os}{Rz:Wv->NB->Prop}{s0:NB}{el it0:ZG}{cs:List ZG}{ps:Pos}{itv av:NA}{ev:Env}(W:Nat->NB->Prop)
  (go:∀k st,W k st->ZJ (ZK pr wd) Ar (pyNext itv) (λr s1=>match r with
   |none=>Rz (.ok .next) s1
   |some v=>ZJ (ZK pr wd) Ar (RI tg itv v) (λ_ s2=>ZJ (ZK pr wd) Ar (assign tg ev v) (λ_ s3=>
     ZJ (ZK pr wd) Ar (forIn cs ZC λc b=>if b=ZC then do let z <-isTrue c ev (eval c ev);pure (QX z)else pure (QX b)) (λz s4=>
      if z=ZC then ZJ (ZK pr wd) Ar (eval el ev) (λy s5=>
       ZJ (ZK pr wd) Ar (call (.builtin "list.append") [av,y]) (λ_ s6=>∃m,m<k/\W m s6) (λ_ _=>False) s5) (λ_ _=>False) s4
      else ∃m,m<k/\W m s4) (λ_ _=>False) s3) (λ_ _=>False) s2) (λ_ _=>False) s1) (λ_ _=>False) st)
  (k:Nat) (hk:W k s0):ZL (ZK pr wd) Ar (.compLoop (.ListComp el [⟨tg,it0,cs,0⟩] sc ps) 0 itv av ev) Rz s0:=by
 refine codeAny_loop rfl W (λk st hw=>?_) k hk
 show ZJ (ZK pr wd) Ar ((compTurn (.ListComp el [⟨tg,it0,cs,0⟩] sc ps) 0 itv av ev).onRaise (λz=>do noteFrame z ev;theTreesLotGoes z)) _ _ st
 refine wpAny_noted ?_
 rw[compTurn_list]
 have no:∀{α:Type}{t:Sem α}{Q Q':α->NB->Prop}{E':W1}{x:NB},ZJ (ZK pr wd) Ar t Q (λ_ _=>False) x->(∀y z,Q y z->Q' y z)->ZJ (ZK pr wd) Ar t Q' E' x:=λh f=>Pu h f λ_ _ z=>z.elim
 refine Nq (wpAny_standAt (Nq (no (go k st hw) λr s1 g1=>?_)))
 cases r with
 |none=>exact Nz g1
 |some v=>
  refine Nq (no g1 λ_ s2 g2=>Nq (no g2 λ_ s3 g3=>Nq (no g3 λz s4 g4=>?_)))
  cases z with
  |false=>exact Nz (And.intro rfl g4)
  |true=>exact Nq (Nq (no g4 λy s5 g5=>Nq (no g5 λ_ s6 g6=>Nz (Nz (And.intro rfl g6)))))
def bN(X:Cx)(scope:Rp)(cl:List (Str×ZE))(N':List Str)(C:ZE)(s₀:NB)(H₀:Hp)(fp:List ZE):Cx:=
 {X with N:=N',s₀:=s₀,H₀:=H₀,env:=compEnvC scope cl C X.env,outer:=X.stack,stack:=X.stack,ex:=fp,fn:=λx=>scope.names.lookup x == ZA .cell,xe:=λ_ _=>False}
def gB(src:List (Option Nat))(σ:St):St:=src.map λo=>match o with
 |some i=>(σ[i]?).join
 |none=>ZB
theorem j6{env:Env}:∀{names:List (Str×Q6)}{x:Str}{k:Q6},
  (names.map λ(n,k)=>if (k == OE&&env.scope.kind == .function&&env.kindOf n == ZA .cell)then(n,Pm)else(n,k)).lookup x=ZA k →
  ∃k',names.lookup x=ZA k'/\(k=k'\/k'=.free)
 |[],_,_,h=>by simp at h
 | (n,k0)::r,x,k,h=>by
  have ih:=@j6 env r x k
  have h':Ro x ((if (k0 == OE&&env.scope.kind == .function&&env.kindOf n == ZA .cell)=ZC then(n,Pm)else(n,k0))::(r.map λ(n,k)=>if (k == OE&&env.scope.kind == .function&&env.kindOf n == ZA .cell)then(n,Pm)else(n,k)))=ZA k:=h
  by_cases hc:(k0 == OE&&env.scope.kind == .function&&env.kindOf n == ZA .cell)=ZC
  ·rw[if_pos hc]at h'
   rw[OK]at h' ⊢
   cases hx:x == n with
   |true=>
    refine⟨k0,rfl,.inr ?_⟩
    have:=PR.mp hc|>.1
    have:=PR.mp this|>.1
    simpa using this
   |false=>rw[hx]at h';exact ih h'
  ·rw[if_neg hc]at h'
   rw[OK]at h' ⊢
   cases hx:x == n with
   |true=>rw[hx]at h';exact⟨k0,rfl,.inl (Om h').symm⟩
   |false=>rw[hx]at h';exact ih h'
def kG{names:List (Str×Q6)}{k:Q6}(h:names.lookup x=ZA k):(x,k)∈names:=P3 h
theorem jF{env:Env}:∀{names:List (Str×Q6)}{x:Str},names.lookup x=ZA .free →
  (names.map λ(n,k)=>if (k == OE&&env.scope.kind == .function&&env.kindOf n == ZA .cell)then(n,Pm)else(n,k)).lookup x=ZA .cell ∨
  (names.map λ(n,k)=>if (k == OE&&env.scope.kind == .function&&env.kindOf n == ZA .cell)then(n,Pm)else(n,k)).lookup x=ZA .free
 |[],_,h=>by simp at h
 | (n,k0)::r,x,h=>by
  have ih:=@jF env r x
  show Ro x ((if (k0 == OE&&env.scope.kind == .function&&env.kindOf n == ZA .cell)=ZC then(n,Pm)else(n,k0))::_)=_\/Ro x ((if (k0 == OE&&env.scope.kind == .function&&env.kindOf n == ZA .cell)=ZC then(n,Pm)else(n,k0))::_)=_
  rw[OK]at h
  by_cases hc:(k0 == OE&&env.scope.kind == .function&&env.kindOf n == ZA .cell)=ZC
  ·rw[if_pos hc]
   rw[OK]
   cases hx:x == n with
   |true=>exact .inl rfl
   |false=>rw[hx]at h;exact ih h
  ·rw[if_neg hc]
   rw[OK]
   cases hx:x == n with
   |true=>rw[hx]at h;exact .inr h
   |false=>rw[hx]at h;exact ih h
variable{N':List Str}{elt iter:ZG}{g:TG}{ifs:List ZG}{tc:TT}{te:TE}{wi:TI}
structure LcScope (X:Cx)(scope:Rp)(N':List Str)(src:List (Option Nat)):Prop where
 kind:scope.kind=.function
 cel:∀y∈scope.names,y.2=.cell->scope.names.lookup y.1=ZA .cell
 loc:∀y∈scope.names,y.2=.local->scope.names.lookup y.1=ZA .local
 len:src.length=N'.length
 from_:∀(j i:Nat)(x:Str),src[j]?=ZA (ZA i)->N'[j]?=ZA x->X.N[i]?=ZA x/\scope.names.lookup x=ZA .free
 free:∀x,(x,OE)∈scope.names->X.env.kindOf x=ZA .cell\/X.env.kindOf x=ZA .free
def HP(K:Nt)(wi:TI)(src:List (Option Nat))(g:TG)(tc:TT)(te:TE):TE:=λσ H Q=>wi σ H λJ H1=>∀D,H1 D=ZB->K.lookup D=ZB →
 ∃W:Nat->Nat->St->List V->Hp->Prop,(∃m,W 0 m (gB src σ) [] (upd H1 D (.lst [])))/\∀i m σ ys H,W i m σ ys H->H D=ZA (.lst ys) ∧
  ((J.stop i H/\Q (.ref D) H)\/(J.go i H/\ys.length<ZI/\∀x H',J.yld i H x H'->g x σ H' λσ2 H2=>tc σ2 H2 λb H3=>
   if b=ZC then te σ2 H3 λv H4=>H4 D=ZA (.lst ys)/\∃m',m'<m/\W (i+1) m' σ2 (ys++[v]) (upd H4 D (.lst (ys++[v])))else ∃m',m'<m/\W (i+1) m' σ2 ys H3))
def AI(X:Cx)(ifs:List ZG)(t:TT):Prop:=
 ∀(bv:W2)(s:NB)(σ:St)(H:Hp)(Q:Bool->Hp->Prop),Inv X bv σ H s->t σ H Q →
  ZJ (ZK X.prog X.w) X.A (forIn ifs ZC λc r=>if r=ZC then do let ok <-isTrue c X.env (eval c X.env);pure (QX ok)else pure (QX r)) (TP X bv σ Q) X.xe s
def vX:TT:=λ_ H Q=>Q ZC H
def uf:AI X [] vX:=λ_ _ _ H _ I h=>wpAny_tests_nil ⟨H,I,h⟩
def FX{c:ZG}{t:TT}(h:PT X c t):AI X [c] t:=λbv s σ H Q I q=>wpAny_tests_one (h bv s σ H Q I q)
theorem nC:∀(names:List (Str×Q6))(h:ZH)(acc:List (Str×ZE)),(∀x y c,acc.lookup x=ZA c->acc.lookup y=ZA c->x=y)->(∀x c,acc.lookup x=ZA c->c<h.objs.size) →
  (∀x c,(QN h.objs.size names acc).lookup x=ZA c->acc.lookup x=ZA c\/(h.objs.size<=c/\(Ue h names).IsCell c ZB)) ∧
  (∀x y c,(QN h.objs.size names acc).lookup x=ZA c->(QN h.objs.size names acc).lookup y=ZA c->x=y) ∧
  (∀x,(x,Pm)∉names->(QN h.objs.size names acc).lookup x=acc.lookup x) ∧
  (∀x,((x,Pm)∈names\/∃c,acc.lookup x=ZA c)->∃c,(QN h.objs.size names acc).lookup x=ZA c) ∧
  (∀x c,(x,Pm)∈names->(QN h.objs.size names acc).lookup x=ZA c->h.objs.size<=c)
 |[],h,acc,hi,_=>⟨λ_ _ e=>.inl e,hi,λ_ _=>rfl,λx e=>e.elim (λz=>absurd z Ox) id,λ_ _ z=>absurd z Ox⟩
 | (n,k)::r,h,acc,hi,hl=>by
  unfold QN Ue
  by_cases hk:k=.cell
  ·subst hk
   rw[if_pos (by rfl),if_pos (by rfl)]
   have hz:(h.push {cls:=.type "cell",data:=.cell ZB}).objs.size=h.objs.size+1:=Ov ..
   have lk:∀x,((n,h.objs.size)::acc).lookup x=if x=n then ZA h.objs.size else acc.lookup x:=λx=>by
    rw[OK]
    by_cases e:x=n
    ·rw[if_pos e,beq_iff_eq.mpr e]
    ·rw[if_neg e,beq_eq_false_iff_ne.mpr e]
   obtain⟨c1,c2,c3,c4,c5⟩:=nC r (h.push {cls:=.type "cell",data:=.cell ZB}) ((n,h.objs.size)::acc) (λx y c e1 e2=>by
     rw[lk]at e1 e2
     by_cases q1:x=n
     ·by_cases q2:y=n
      ·rw[q1,q2]
      ·rw[if_pos q1]at e1;rw[if_neg q2]at e2
       cases e1;exact absurd (hl _ _ e2) (N4 _)
     ·rw[if_neg q1]at e1
      by_cases q2:y=n
      ·rw[if_pos q2]at e2
       cases e2;exact absurd (hl _ _ e1) (N4 _)
      ·rw[if_neg q2]at e2;exact hi x y c e1 e2) (λx c e=>by
     rw[lk]at e;rw[hz]
     by_cases q:x=n
     ·rw[if_pos q]at e;cases e;exact Tw _
     ·rw[if_neg q]at e;exact Pr (hl x c e))
   rw[hz]at c1 c2 c3 c4 c5;refine⟨λx c e=>?_,c2,λx hx=>?_,λx hx=>?_,λx c hx e=>?_⟩
   ·rcases c1 x c e with z|z
    ·rw[lk]at z
     by_cases q:x=n
     ·rw[if_pos q]at z;cases z
      exact .inr ⟨NL _,_,Ug r _ _ _ (NI _ rfl),rfl⟩
     ·rw[if_neg q]at z;exact .inl z
    ·exact .inr ⟨Q3 z.1,z.2⟩
   ·rw[c3 x λz=>hx (Nu _ z),lk,if_neg λz=>hx (by rw[z];exact Nv)]
   ·refine c4 x ?_
    rcases hx with hx|hx
    ·rcases NG.mp hx with z|z
     ·cases z
      exact .inr ⟨_,by rw[lk,if_pos rfl]⟩
     ·exact .inl z
    ·by_cases q:x=n
     ·exact .inr ⟨_,by rw[lk,if_pos q]⟩
     ·exact .inr (by rw[lk,if_neg q];exact hx)
   ·rcases NG.mp hx with z|z
    ·have q:x=n:=(Wf z).1
     rcases c1 x c e with y|y
     ·rw[lk,if_pos q]at y;cases y;exact NL _
     ·exact Q3 y.1
    ·exact Q3 (c5 x c z e)
  ·have hb:¬ (k == Pm)=ZC:=λz=>hk (by simpa using z)
   rw[if_neg hb,if_neg hb];obtain⟨c1,c2,c3,c4,c5⟩:=nC r h acc hi hl;exact⟨c1,c2,λx hx=>c3 x λz=>hx (Nu _ z),λx hx=>c4 x (hx.imp (λz=>(NG.mp z).resolve_left λz=>hk (Wf z).2.symm) id),λx c hx=>c5 x c ((NG.mp hx).resolve_left λz=>hk (Wf z).2.symm)⟩
def A8{M:Model}{globals:ZE}{cl:List (Str×ZE)}{Q:Env->NB->Prop}
  (q:Q (newEnv scope s.heap.objs.size globals (QN (s.heap.objs.size+1) scope.names cl) qual ZB .none (ZA env) S7) {s with heap:=Ue (s.heap.push {cls:=.type "dict",data:=.dict #[]}) scope.names}):
  ZJ M A (newFunctionEnv scope globals cl [] qual ZB .none (ZA env)) Q E s:=by
 simp only[newFunctionEnv,UX,if_true];refine Nq (wpAny_alloc (Nq (wpAny_layCells _ (λname kind cells=>by cases hkc:kind == Pm <;> simp[hkc]) _ _ _ _ ?_)))
 rw[show({s with heap:=s.heap.push {cls:=.type "dict",data:=.dict #[]}}:NB).heap.objs.size=s.heap.objs.size+1 from Ov ..]
 rw[Pw];exact Nq (Nz (Nz q))
def Ae{pos fpos:Pos}{src:List (Option Nat)}{use:Option (NA->Sem Unit)}{Qf:W1}
  {bv:W2}  {σ:St} {H:Hp} {Q:VK}
  (hc:X.calm=ZC) (S:LcScope X scope N' src) (hi:PI X tg iter wi)
  (block:∀cl C s₀ H₀ fp,PG (bN X scope cl N' C s₀ H₀ fp) tg g/\AI (bN X scope cl N' C s₀ H₀ fp) ifs tc/\PE (bN X scope cl N' C s₀ H₀ fp) elt te)
  (hs:∀x,Ou iter X.env x=pure x) (I:Inv X bv σ H s) (h:HP X.K wi src g tc te σ H Q)
  (hend:∀(D C:ZE)(H':Hp)(s':NB),(∃m,s'.heap.Ns C m)->(∀h',QU C s'.heap h'->Inv X bv σ H' {s' with heap:=h'})->(H' C=ZB/\C≠X.env.locals/\X.s₀.heap.objs.size<=C/\(∀x c,X.env.cells.lookup x=ZA c->c≠C)/\∀p∈X.pn++bv,p.1≠C)->Q (.ref D) H' →
   compPost (ZK X.prog X.w) X.A X.xe use Qf (.ref D) C (.ok .next) s'):
  ZJ (ZK X.prog X.w) X.A (Ve (.ListComp elt [⟨tg,iter,ifs,0⟩] scope pos) scope X.env fpos (newList []) ZD (eval iter X.env) use) Qf X.xe s:=by
 have hcell:∀x,(x,OE)∈scope.names->∃c,X.env.cells.lookup x=ZA c:=λx hx=>I.ok.has x (S.free x hx)
 obtain⟨cl0,hcl,cl01,cl02⟩:=zf (env:=X.env) (scope:=scope) hcell;refine wpAny_comprehension_free (use:=use) rfl hs hcl S.kind S.loc (cF (hi bv s σ H _ I h) λv s1 h1=>cF h1 λitv s2 h2=>?_)
 obtain⟨it,fp,tn,J,H2,e,I2,T,st2,f2,hq⟩:=h2;subst e
 refine OR ?_
 have hD:H2 s2.heap.objs.size=ZB:=I2.hok.fresh (NL _)
 have hDK:X.K.lookup s2.heap.objs.size=ZB:=by
  cases q:X.K.lookup s2.heap.objs.size with
  |none=>rfl
  |some o=>exact absurd (NJ (I2.kIn _ o q)) (N4 _)
 obtain⟨W,⟨m0,w0⟩,turn⟩:=hq s2.heap.objs.size hD hDK
 have I3:=I2.MX (its:=[]) (ys:=[]) (t':=s2.toks) .nil (O4 _)
 generalize hs3:({s2 with heap:=s2.heap.push {cls:=.type "list",data:=.seq ([]:List NA).toArray},toks:=s2.toks}:NB)=s3 at I3
 generalize hH3:upd H2 s2.heap.objs.size (.lst [])=H3 at I3 w0
 have hDsz:s2.heap.objs.size<s3.heap.objs.size:=by rw[<-hs3];simp[Ov]
 have fr3:∀b∈fp,H3 b=ZB:=λb hb=>by
  obtain⟨o,eo,_⟩:=T.obj _ _ st2 b hb;rw[<-hH3,aG (Oh (NJ eo))];exact(f2 b hb).1
 have st3:tn 0 s3.heap:=T.keep _ _ _ st2 λb hb o e=>by rw[<-hs3];exact Nr _ e
 have f3:∀b∈fp,mQ X bv H3 b:=λb hb=>⟨fr3 b hb,(f2 b hb).2⟩
 have D3:H3 s2.heap.objs.size=ZA (.lst []):=by rw[<-hH3];exact aI
 generalize s2.heap.objs.size=D at*
 clear hs3 hH3 hD hDK
 refine A8 ?_
 have old:∀b o,s3.heap.get? b=ZA o->(Ue (s3.heap.push {cls:=.type "dict",data:=.dict #[]}) scope.names).get? b=ZA o:=λb o e=>Ug _ _ b o (Nr _ e)
 have hns₁:(Ue (s3.heap.push {cls:=.type "dict",data:=.dict #[]}) scope.names).Ns s3.heap.objs.size (λ_=>ZB):=(Heap.Ns.new s3.heap (.type "dict")).keeps (Ug _ _)
 have hz3:(s3.heap.push {cls:=.type "dict",data:=.dict #[]}).objs.size=s3.heap.objs.size+1:=Ov ..
 have lt0:∀x c,cl0.lookup x=ZA c->c<s3.heap.objs.size:=λx c e=>let ⟨_,ic⟩:=I3.cell x c (cl01 x c e);ic.lt
 obtain⟨c1,c2,c3,c4,c5⟩:=nC scope.names (s3.heap.push {cls:=.type "dict",data:=.dict #[]}) cl0 (λx y c e1 e2=>I3.ok.inj x y c (cl01 x c e1) (cl01 y c e2)) λx c e=>by rw[hz3];exact Pr (lt0 x c e)
 rw[hz3]at c1 c2 c3 c4 c5
 generalize hcl':QN (s3.heap.objs.size+1) scope.names cl0=cl at*
 generalize hh₁:Ue (s3.heap.push {cls:=.type "dict",data:=.dict #[]}) scope.names=h₁ at*
 have below:∀b o,s3.heap.get? b=ZA o->b≠s3.heap.objs.size:=λb o e=>Oh (NJ e)
 have cl1:∀x c,cl.lookup x=ZA c->X.env.cells.lookup x=ZA c\/(s3.heap.objs.size<c/\h₁.IsCell c ZB):=λx c e=>(c1 x c e).imp (cl01 x c) id
 generalize hC:s3.heap.objs.size=C at*
 have stk:∀b,b≠X.env.locals->b∉X.fs->b∉u9 X.stack:=λb h1 h2 z=>(NG.mp (I3.Mz b z)).elim h1 h2
 have apart:∀b∈fp,∀x c,cl.lookup x=ZA c->c≠b:=λb hb x c e=>by
  rcases cl1 x c e with z|z
  ·exact(f3 b hb).2.2.2.2.1 x c z
  ·obtain⟨o,eo,_⟩:=T.obj _ _ st3 b hb
   have h1:=NJ eo;rw[hC]at h1;exact Qz (TU h1 z.1)
 have I4:Inv (bN X scope cl N' C s3 H3 fp) bv (gB src σ) H3 {s3 with heap:=h₁}:=by
  refine⟨⟨I3.ok.mod,S.kind,I3.ok.glob,I3.ok.blt,PV hC,c2,λx hx=>?_,λx c hx e=>Pe (hC▸c5 x c (kG (beq_iff_eq.mp hx)) e),I3.ok.hd,I3.ok.frames,.inl rfl,
    λb hb=>⟨?_,λx c e=>apart b hb x c e⟩,I3.bs,Oj I3.ok.bsz I3.sz,λb o e z=>?_,λb hb=>stk b (f3 b hb).2.1 (f3 b hb).2.2.1,I3.stack,I3.Mu⟩,
   rfl,I3.bare,Un.kept old,⟨_,hns₁,λj x v e1 e2 e3=>?_⟩,λx c e=>?_,I3.hok.fresh (PV hC),λx c e=>(cl1 x c e).elim (I3.freeC x c) λz=>I3.hok.fresh (by rw[hC];exact Pe z.1),λp hp=>?_,I3.hok.kept old,?_⟩
  ·have key:∀k,(relabel scope X.env).names.lookup x=ZA k->(k=.cell\/k=.free)->∃c,cl.lookup x=ZA c:=λk e hk=>by
    obtain⟨k',e',z⟩:=j6 e
    have hk':k'=.cell\/k'=.free:=z.elim (λz=>z▸hk) .inr
    rcases hk' with q|q
    ·exact c4 x (.inl (q▸kG e'))
    ·exact c4 x (.inr (cl02 x (q▸kG e')))
   rcases hx with hx|hx
   ·exact key _ hx (.inl rfl)
   ·exact key _ hx (.inr rfl)
  ·obtain⟨o,eo,_⟩:=T.obj _ _ st3 b hb
   show b≠C
   exact below b o eo
  ·have z':b∈fp:=z
   obtain⟨_,_,_,z1,_⟩:=f3 b z';rcases z1 with z1|z1
   ·exact I3.ok.noex b o e z1
   ·exact absurd (NK (NJ (I3.ok.bs b o e).1) z1) (N4 _)
  ·unfold gB at e2
   rw[NU]at e2
   cases q:src[j]? with
   |none=>rw[q]at e2;simp at e2
   |some o=>
    rw[q]at e2
    cases o with
    |none=>simp at e2
    |some i=>
     have e2':(σ[i]?).join=ZA v:=by simpa using e2
     have e2'':σ[i]?=ZA (ZA v):=by
      cases q2:σ[i]? with
      |none=>rw[q2]at e2';simp at e2'
      |some z=>rw[q2]at e2';simp at e2';rw[e2']
     obtain⟨hN,hfree⟩:=S.from_ j i x q e1
     have hm:=kG hfree
     have hk:=S.free x hm;obtain⟨m,hn,hl⟩:=I3.loc
     have hv:vD X.env.scope x:=by
      rcases hk with z|z
      ·exact .inr (.inl z)
      ·exact .inr (.inr z)
     obtain⟨u,r,l⟩:=hl i x v hN e2'' hv;refine⟨u,r,.inr ⟨?_,?_⟩⟩
     ·exact jF hfree
     ·rcases l with⟨z,_⟩|⟨_,c,ec,ic⟩
      ·rcases hk with z'|z' <;> rw[z']at z <;> cases z
      ·obtain⟨c',ec0⟩:=cl02 x hm
       have ec':cl.lookup x=ZA c':=(c3 x λz=>by have:=S.cel _ z rfl;rw[hfree]at this;cases this).trans ec0
       have:=cl01 x c' ec0;rw[ec]at this;cases this;obtain⟨o,ho,hd⟩:=ic;exact⟨c,ec',o,old _ _ ho,hd⟩
  ·rcases cl1 x c e with z|z
   ·obtain⟨v,o,ho,hd⟩:=I3.cell x c z
    exact⟨v,o,old _ _ ho,hd⟩
   ·exact⟨ZB,z.2⟩
  ·obtain⟨e,n,ne,nf,d⟩:=I3.pin p hp
   exact⟨old _ _ e,n,below _ _ e,stk _ ne nf,d⟩
  ·show(gB src σ).length=N'.length
   unfold gB;rw[Ny];exact S.len
 obtain⟨bG,bI,bE⟩:=block cl C s3 H3 fp
 have stat:∀{H':Hp},(∀b∈fp,H' b=ZB)->∀b∈fp,mQ (bN X scope cl N' C s3 H3 fp) bv H' b:=λhn b hb=>by
  obtain⟨o,eo,_⟩:=T.obj _ _ st3 b hb;exact⟨hn b hb,below b o eo,stk b (f3 b hb).2.1 (f3 b hb).2.2.1,.inl hb,apart b hb,(f3 b hb).2.2.2.2.2⟩
 have st4:tn 0 h₁:=T.keep _ _ _ st3 λb hb o e=>old b o e
 have after:∀(H':Hp)(s':NB)(σ':St),Inv (bN X scope cl N' C s3 H3 fp) bv σ' H' s'->Q (.ref D) H' →
   compPost (ZK X.prog X.w) X.A X.xe use Qf (.ref D) C (.ok .next) s':=λH' s' σ' I' q=>by
  obtain⟨m,hn,_⟩:=id I'.loc
  have fC:X.s₀.heap.objs.size<=C:=by rw[<-hC];exact I3.sz
  have ltC:∀b o,s3.heap.get? b=ZA o->b<C:=λb o e=>by rw[<-hC];exact NJ e
  refine hend D C H' s' ⟨m,hn⟩ (λh' hsb=>?_) ⟨I'.free,?_,fC,λx c e z=>?_,λp hp z=>?_⟩ q
  rotate_left
  ·have:=I3.lt;rw[hC]at this;exact Qz this
  ·obtain⟨v,ic⟩:=I3.cell x c e
   have:=ic.lt;rw[hC,z]at this;exact N4 _ this
  ·have:=ltC _ _ (I3.pin p hp).1;rw[z]at this;exact N4 _ this
  have u:Un (u9 X.stack) fp H3 H' s3.heap s'.heap:=I'.base
  have lift:∀b o,s3.heap.get? b=ZA o->∀o',s'.heap.get? b=ZA o'->h'.get? b=ZA o':=λb o e o' e'=>hsb.extBut b o' (below b o e) e'
  have u':Un (u9 X.stack) fp H3 H' s3.heap h':=
   ⟨λb o e n hb hx=>lift b o e o (u.keep b o e n hb hx),λb o e n hb hx=>by
     obtain⟨sl,z⟩:=u.slot b o e n hb hx;exact⟨sl,lift b o e _ z⟩,u.free,λb o e hx=>by
     obtain⟨o',z⟩:=u.there b o e hx;exact⟨o',lift b o e _ z⟩,u.tups,u.frzs,u.tbls⟩
  have hCn:H' C=ZB:=I'.free
  have hok':HOk X.prog X.w H' h':=λb ob e=>by
   refine(I'.hok b ob e).Mm (λc w' hc' q'=>(hsb.2 c ?_).trans q') (λ_ q=>q) λ_ _ q=>q
   rintro rfl
   rcases hc' with rfl|hc'
   ·rw[hCn]at e;cases e
   ·rw[hCn]at hc';cases hc'
  have I5:Inv X bv σ H' {s' with heap:=h'}:=I3.MN (s':={s' with heap:=h'}) (ch:=fp) I'.os u' hok' I'.bare λb hb=>⟨(f3 b hb).2.2.2.1,(f3 b hb).2.1,(f3 b hb).2.2.2.2.1,(f3 b hb).2.2.2.2.2⟩
  exact I5
 have loop:ZL (ZK X.prog X.w) X.A (.compLoop (.ListComp elt [⟨tg,iter,ifs,0⟩] scope pos) 0 (.ref it) (.ref D) (compEnvC scope cl C X.env))
   (compPost (ZK X.prog X.w) X.A X.xe use Qf (.ref D) C) {s3 with heap:=h₁}:=by
  refine vo (λn s'=>∃i σ' ys H',Inv (bN X scope cl N' C s3 H3 fp) bv σ' H' s'/\tn i s'.heap/\(∀b∈fp,H' b=ZB)/\W i n σ' ys H') ?_ m0 ⟨0,_,[],H3,I4,st4,fr3,w0⟩
  rintro n s5 ⟨i,σ5,ys,H5,I5,st5,fr5,w5⟩
  obtain⟨hDl,alt⟩:=turn i n σ5 ys H5 w5;rcases alt with⟨stop,qn⟩|⟨go,hlen,step⟩
  ·refine cF (T.done (bN X scope cl N' C s3 H3 fp) rfl rfl rfl hc i bv s5 σ5 H5 _ I5 (stat fr5) st5 stop) λr s6 ⟨hr,I6⟩=>?_
   subst hr;exact after H5 s6 σ5 I6 qn
  ·refine cF (T.item (bN X scope cl N' C s3 H3 fp) rfl rfl rfl hc i bv s5 σ5 H5 _ I5 (stat fr5) st5 go) λr s6 ⟨u,hr,h6⟩=>?_
   subst hr;refine cF h6 λ_ s7 hh_=>?_
   obtain⟨x,H7,I7,r7,y7,st7,fr7⟩:=hh_
   have I7':=I7.pinned (stat fr7) (T.obj _ _ st7);refine cF (bG _ s7 σ5 H7 x u _ I7' r7 (step x H7 y7)) λ_ s8 hh_=>?_
   obtain⟨σ8,H8,I8,q8⟩:=hh_;refine cF (bI _ s8 σ8 H8 _ I8 q8) λok s9 hh_=>?_
   obtain⟨H9,I9,q9⟩:=hh_
   have again:∀{σx:St}{Hx:Hp}{sx:NB}{ys':List V},Inv (bN X scope cl N' C s3 H3 fp) (bv++pC fp s7.heap) σx Hx sx->(∃m',m'<n/\W (i+1) m' σx ys' Hx) →
     ∃m,m<n/\∃i σ' ys H',Inv (bN X scope cl N' C s3 H3 fp) bv σ' H' sx/\tn i sx.heap/\(∀b∈fp,H' b=ZB)/\W i m σ' ys H':=λ{σx Hx sx ys'} Ix nx=>by
    obtain⟨m',hm,wx⟩:=nx;refine⟨m',hm,i+1,σx,ys',Hx,Ix.Mk,T.keep _ _ _ st7 λb hb o e=>(Ix.pin (b,o) (N7 _ (N7 _ (jb hb e)))).1,λb hb=>?_,wx⟩
    obtain⟨o,e,d⟩:=T.obj _ _ st7 b hb;exact(Ix.pin (b,o) (N7 _ (N7 _ (jb hb e)))).2.1
   cases ok with
   |false=>
    rw[if_neg N3]at q9 ⊢
    exact again I9 q9
   |true=>
    rw[if_pos rfl]at q9 ⊢;refine cF (bE _ s9 σ8 H9 _ I9 q9) λv s10 hh_=>?_
    obtain⟨y,H10,I10,r10,hD10,q10⟩:=hh_;refine cF (sh _ s10 σ8 H10 (.ref D) [y] (.ref D) [v] (λ_ H'=>H'=upd H10 D (.lst (ys++[y]))) I10 rfl (.cons r10 .nil) ⟨D,ys,y,rfl,rfl,hD10,hlen,rfl⟩) λ_ s11 hh_=>?_
    obtain⟨_,H11,I11,_,e11⟩:=hh_;subst e11;exact again I11 q10
 exact codeAny_compStart_list loop (T.self _ 0 _ _ _ st4 loop)
def wK{pos:Pos}{src:List (Option Nat)}
  (hc:X.calm=ZC) (S:LcScope X scope N' src) (hi:PI X tg iter wi)
  (block:∀cl C s₀ H₀ fp,PG (bN X scope cl N' C s₀ H₀ fp) tg g/\AI (bN X scope cl N' C s₀ H₀ fp) ifs tc/\PE (bN X scope cl N' C s₀ H₀ fp) elt te)
  (hs:autoParam (∀x,Ou iter X.env x=pure x) t_):
  PE X (.ListComp elt [⟨tg,iter,ifs,0⟩] scope pos) (HP X.K wi src g tc te):=by
 intro bv s σ H Q I h;rw[eval_ListComp];exact Ae (use:=ZB) hc S hi block hs I h λD C H' s' ⟨m,hn⟩ inv _ q=>⟨m,hn,λh' hsb=>⟨.ref D,H',inv h' hsb,rfl,q⟩⟩
def Hl{pos py spos:Pos}{src:List (Option Nat)}{i:Nat}{y:Str}
  (hc:X.calm=ZC) (S:LcScope X scope N' src) (hi:PI X tg iter wi)
  (block:∀cl C s₀ H₀ fp,PG (bN X scope cl N' C s₀ H₀ fp) tg g/\AI (bN X scope cl N' C s₀ H₀ fp) ifs tc/\PE (bN X scope cl N' C s₀ H₀ fp) elt te)
  (hN:X.N.Nodup) (hiy:X.N[i]?=ZA y) (hy:Loc X.env.scope y) (hsw:OQ (.ListComp elt [⟨tg,iter,ifs,0⟩] scope pos) (ZA (.Name y py)) spos.line X.env=pure ZC)
  (hf:X.fn y=ZC\/X.env.scope.names.lookup y=ZA .local) (hs:autoParam (∀x,Ou iter X.env x=pure x) t_):
  PS X (.Assign [.Name y py] (.ListComp elt [⟨tg,iter,ifs,0⟩] scope pos) spos) (B8 (HP X.K wi src g tc te) (DL i)):=by
 intro bv s σ H D I h;rw[exec_Assign_Name_used _ _ _ _ hsw];refine Nq (wpAny_standAt (Nq ?_))
 show ZJ (ZK X.prog X.w) X.A (do let _ <-Ve (.ListComp elt [⟨tg,iter,ifs,0⟩] scope pos) scope X.env _ (newList []) ZD (eval iter X.env) (ZA (assign (.Name y py) X.env))) _ _ s
 refine Nq (cF (Ae (use:=ZA (assign (.Name y py) X.env)) (Qf:=λ_ s'=>SP X bv D .next s') (Q:=λv H'=>D.nx (σ.set i (ZA v)) H') hc S hi block hs I h λL C H' s' ⟨m,hn⟩ inv ⟨c0,c1,c2,c3,c4⟩ q=>?_) λ_ s' hq=>Nz (Nz hq))
 have I0:Inv X bv σ H' s':=inv s'.heap (Vk ..)
 show ZJ (ZK X.prog X.w) X.A (assign (.Name y py) X.env (.ref L)) _ _ s'
 refine Vw (rR I0 hN hiy hy (v:=.ref L) rfl (λs2 I2 ⟨b,sb,hb⟩=>?_) hf)
 have hbC:C≠b:=by
  rcases hb with z|z
  ·rw[z];exact c1
  ·exact λw=>c3 y b z w.symm
 refine⟨m,hn.sameBut sb hbC,λh' hsb=>?_⟩
 exact⟨_,H',I2.turned (t':=s2.toks) (λb' o hb' e=>(hsb.2 b' hb').trans e) c0 c1 (.inr c2) c3 c4,q⟩
end L2
namespace Tr
open PySem PySem.Spec PyProof.Rows L2
def J3(K:Nt)(c:Str):ZE:=match Rr K Oy c with
 |some (ZA (.ref C))=>C
 |_=>0
def Hs:T->Option Key
 |.int i=>ZA (.inl i)
 |.str x=>ZA (.inr x)
 |_=>ZB
def lP:List T->Option (List Key)
 |[] =>ZA []
 |t::l=>match Hs t,lP l with
  |some k,ZA r=>ZA (k::r)
  |_,_=>ZB
def keyOf:T->Option (List Key)
 |.tup l=>lP l
 |_=>ZB
inductive Rs (α:Type) where
 |ok (a:α)|err (c:Str)|bad
def Rs.bind{α β:Type}(x:Rs α)(f:α->Rs β):Rs β:=match x with
 |.ok a=>f a
 |.err c=>.err c
 |.bad=>.bad
instance:Monad Rs where
 pure:=Rs.ok
 bind:=Rs.bind
@[simp] theorem aF {α β:Type} (a:α) (f:α->Rs β):(Rs.ok a >>= f)=f a:=rfl
@[simp] theorem L8 {α:Type} (a:α):(pure a:Rs α)=Rs.ok a:=rfl
@[simp] theorem LN {α β:Type} (f:α->Rs β):((Rs.bad:Rs α) >>= f)=.bad:=rfl
@[simp] theorem LJ {α β:Type} (c:Str) (f:α->Rs β):((Rs.err c:Rs α) >>= f)=.err c:=rfl
abbrev Ow:=ZE->Prop
mutual
def Rep(K:Nt)(O:Ow)(H:Hp):T->V->Prop
 |.non,v=>v=.non
 |.bl b,v=>v=.bl b
 |.int i,v=>v=.int i
 |.str x,v=>v=.str x
 |.tup l,v=>∃a vs,v=.ref a/\¬ O a/\H a=ZA (.tup vs)/\Reps K O H l vs
 |.lst l,v=>∃a vs,v=.ref a/\¬ O a/\H a=ZA (.lst vs)/\Reps K O H l vs
 |.scr l,v=>∃a,v=.ref a/\¬ O a/\SqL K H a (l.map V.int)
 |.dct ks ts,v=>∃a kvs,v=.ref a/\¬ O a/\Rd H a (.dT kvs)/\ks.map keyOf=kvs.map (λp=>ZA p.1)/\Reps K O H ts (kvs.map (·.2))
 |.ob C ns ts,v=>∃a dx fs,v=.ref a/\¬ O a/\H a=ZA (.ins (J3 K C) dx fs)/\fs.map (·.1)=ns/\Reps K O H ts (fs.map (·.2))
def Reps(K:Nt)(O:Ow)(H:Hp):List T->List V->Prop
 |[],vs=>vs=[]
 |t::r,vs=>∃v ws,vs=v::ws/\Rep K O H t v/\Reps K O H r ws
end
def SameO(P:Ow)(H H':Hp):Prop:=∀b o,H b=ZA o->¬ P b->H' b=ZA o
variable{H H':Hp}{P:Ow}
def SameO.of(h:Same H H'):SameO P H H':=λb o e _=>h b o e
variable{a:ZE}
def Rd.MK{u:HO}(h:SameO P H H')(n:¬ P a)(q:Rd H a u):Rd H' a u:=q.elim (λe=>.inl (h _ _ e n)) λ⟨o,e⟩=>.inr ⟨o,h _ _ e n⟩
variable{vs:List V}
def SqL.keep(h:SameO P H H')(n:¬ P a)(q:SqL K H a vs):SqL K H' a vs:=by
 rcases q with(q|⟨o,q⟩)|q
 ·exact .inl (.inl (h _ _ q n))
 ·exact .inl (.inr ⟨o,h _ _ q n⟩)
 ·exact .inr q
mutual
theorem Rep.keep{K:Nt}{O P:Ow}{H H':Hp}(h:SameO P H H')(sub:∀a,P a->O a):∀{t:T}{v:V},Rep K O H t v->Rep K O H' t v
 |.non,_,r=>by unfold Rep at r ⊢;exact r
 |.bl _,_,r=>by unfold Rep at r ⊢;exact r
 |.int _,_,r=>by unfold Rep at r ⊢;exact r
 |.str _,_,r=>by unfold Rep at r ⊢;exact r
 |.tup l,_,r=>by
  unfold Rep at r ⊢;obtain⟨a,vs,e,n,q,z⟩:=r
  exact⟨a,vs,e,n,h _ _ q (λp=>n (sub a p)),Reps.keep h sub z⟩
 |.lst l,_,r=>by
  unfold Rep at r ⊢;obtain⟨a,vs,e,n,q,z⟩:=r
  exact⟨a,vs,e,n,h _ _ q (λp=>n (sub a p)),Reps.keep h sub z⟩
 |.scr l,_,r=>by
  unfold Rep at r ⊢;obtain⟨a,e,n,q⟩:=r
  exact⟨a,e,n,SqL.keep h (λp=>n (sub a p)) q⟩
 |.dct ks ts,_,r=>by
  unfold Rep at r ⊢;obtain⟨a,kvs,e,n,q,k,z⟩:=r
  exact⟨a,kvs,e,n,Rd.MK h (λp=>n (sub a p)) q,k,Reps.keep h sub z⟩
 |.ob C ns ts,_,r=>by
  unfold Rep at r ⊢;obtain⟨a,dx,fs,e,n,q,k,z⟩:=r;exact⟨a,dx,fs,e,n,h _ _ q (λp=>n (sub a p)),k,Reps.keep h sub z⟩
theorem Reps.keep{K:Nt}{O P:Ow}{H H':Hp}(h:SameO P H H')(sub:∀a,P a->O a):∀{l:List T}{vs:List V},Reps K O H l vs->Reps K O H' l vs
 |[],_,r=>by unfold Reps at r ⊢;exact r
 |t::l,_,r=>by
  unfold Reps at r ⊢;obtain⟨v,ws,e,p,q⟩:=r;exact⟨v,ws,e,Rep.keep h sub p,Reps.keep h sub q⟩
end
mutual
theorem Rep.less{K:Nt}{O O':Ow}{H:Hp}(sub:∀a,O' a->O a):∀{t:T}{v:V},Rep K O H t v->Rep K O' H t v
 |.non,_,r=>by unfold Rep at r ⊢;exact r
 |.bl _,_,r=>by unfold Rep at r ⊢;exact r
 |.int _,_,r=>by unfold Rep at r ⊢;exact r
 |.str _,_,r=>by unfold Rep at r ⊢;exact r
 |.tup l,_,r=>by
  unfold Rep at r ⊢;obtain⟨a,vs,e,n,q,z⟩:=r
  exact⟨a,vs,e,λp=>n (sub a p),q,Reps.less sub z⟩
 |.lst l,_,r=>by
  unfold Rep at r ⊢;obtain⟨a,vs,e,n,q,z⟩:=r
  exact⟨a,vs,e,λp=>n (sub a p),q,Reps.less sub z⟩
 |.scr l,_,r=>by
  unfold Rep at r ⊢;obtain⟨a,e,n,z⟩:=r
  exact⟨a,e,λp=>n (sub a p),z⟩
 |.dct ks ts,_,r=>by
  unfold Rep at r ⊢;obtain⟨a,kvs,e,n,q,k,z⟩:=r
  exact⟨a,kvs,e,λp=>n (sub a p),q,k,Reps.less sub z⟩
 |.ob C ns ts,_,r=>by
  unfold Rep at r ⊢;obtain⟨a,dx,fs,e,n,q,k,z⟩:=r;exact⟨a,dx,fs,e,λp=>n (sub a p),q,k,Reps.less sub z⟩
theorem Reps.less{K:Nt}{O O':Ow}{H:Hp}(sub:∀a,O' a->O a):∀{l:List T}{vs:List V},Reps K O H l vs->Reps K O' H l vs
 |[],_,r=>by unfold Reps at r ⊢;exact r
 |t::l,_,r=>by
  unfold Reps at r ⊢;obtain⟨v,ws,e,p,q⟩:=r;exact⟨v,ws,e,Rep.less sub p,Reps.less sub q⟩
end
variable{O:Ow}{l ts:List T}{v:V}
section
variable {t:T}
def Rep.same(h:Same H H')(r:Rep K O H t v):Rep K O H' t v:=Rep.keep (P:=λ_=>False) (SameO.of h) (λ_ z=>z.elim) r
def Reps.same(h:Same H H')(r:Reps K O H l vs):Reps K O H' l vs:=Reps.keep (P:=λ_=>False) (SameO.of h) (λ_ z=>z.elim) r
def Rep.MH:Rep K O H .non .non:=by unfold Rep;rfl
def Rep.bl_(b:Bool):Rep K O H (.bl b) (.bl b):=by unfold Rep;rfl
def Rep.GE(i:Int):Rep K O H (.int i) (.int i):=by unfold Rep;rfl
def Rep.MI(x:Str):Rep K O H (.str x) (.str x):=by unfold Rep;rfl
def Rep.Fk:Rep K O H (.tup l) v↔ ∃a vs,v=.ref a/\¬ O a/\H a=ZA (.tup vs)/\Reps K O H l vs:=by unfold Rep;exact RT
def Rep.Do:Rep K O H (.lst l) v↔ ∃a vs,v=.ref a/\¬ O a/\H a=ZA (.lst vs)/\Reps K O H l vs:=by unfold Rep;exact RT
def Rep.Gc{ks:List T}:Rep K O H (.dct ks ts) v↔ ∃a kvs,v=.ref a/\¬ O a/\Rd H a (.dT kvs)/\ks.map keyOf=kvs.map (λp=>ZA p.1)/\Reps K O H ts (kvs.map (·.2)):=by unfold Rep;exact RT
def Rep.MD{C:Str}{ns:List Str}:Rep K O H (.ob C ns ts) v↔ ∃a dx fs,v=.ref a/\¬ O a/\H a=ZA (.ins (J3 K C) dx fs)/\fs.map (·.1)=ns/\Reps K O H ts (fs.map (·.2)):=by unfold Rep;exact RT
def Rep.Da:Rep K O H (.int i) v↔v=.int i:=by unfold Rep;exact RT
def Rep.FB:Rep K O H (.bl b) v↔v=.bl b:=by unfold Rep;exact RT
def Rep.GM{b:Str}:Rep K O H (.str b) v↔v=.str b:=by unfold Rep;exact RT
def Rep.KF:Rep K O H .non v↔v=.non:=by unfold Rep;exact RT
def Reps.nil_:Reps K O H [] []:=by unfold Reps;rfl
def Reps.FM(r:Rep K O H t v)(q:Reps K O H l vs):Reps K O H (t::l) (v::vs):=by unfold Reps;exact⟨v,vs,rfl,r,q⟩
def Reps.AC:Reps K O H [] vs↔vs=[]:=by unfold Reps;exact RT
def Reps.me:Reps K O H (t::l) vs↔ ∃v ws,vs=v::ws/\Rep K O H t v/\Reps K O H l ws:=by
 constructor
 ·intro h;unfold Reps at h;exact h
 ·intro h;unfold Reps;exact h
end
theorem Reps.length:∀{l:List T}{vs:List V},Reps K O H l vs->l.length=vs.length
 |[],vs,r=>by rw[Reps.AC.mp r];rfl
 |t::l,vs,r=>by
  obtain⟨v,ws,rfl,_,q⟩:=Reps.me.mp r;simp[q.length]
theorem Reps.get:∀{l:List T}{vs:List V}{i:Nat}{t:T},Reps K O H l vs->l[i]?=ZA t->∃v,vs[i]?=ZA v/\Rep K O H t v
 |[],_,_,_,_,e=>by simp at e
 |t::l,vs,i,u,r,e=>by
  obtain⟨v,ws,rfl,p,q⟩:=Reps.me.mp r
  cases i with
  |zero=>simp at e;subst e;exact⟨v,rfl,p⟩
  |succ i=>
   obtain⟨z,e1,e2⟩:=q.get (i:=i) (t:=u) (by simpa using e)
   exact⟨z,by simpa using e1,e2⟩
theorem Reps.append:∀{l m:List T}{vs ws:List V},Reps K O H l vs->Reps K O H m ws->Reps K O H (l++m) (vs++ws)
 |[],_,vs,_,r,s=>by rw[Reps.AC.mp r];exact s
 |t::l,m,vs,ws,r,s=>by
  obtain⟨v,us,rfl,p,q⟩:=Reps.me.mp r;exact Reps.FM p (q.append s)
theorem Reps.take:∀{l:List T}{vs:List V}(n:Nat),Reps K O H l vs->Reps K O H (l.take n) (vs.take n)
 |_,_,0,_=>Reps.nil_
 |[],vs,n+1,r=>by rw[Reps.AC.mp r];exact Reps.nil_
 |t::l,vs,n+1,r=>by
  obtain⟨v,us,rfl,p,q⟩:=Reps.me.mp r;exact Reps.FM p (q.take n)
theorem Reps.drop:∀{l:List T}{vs:List V}(n:Nat),Reps K O H l vs->Reps K O H (l.drop n) (vs.drop n)
 |_,_,0,r=>r
 |[],vs,n+1,r=>by rw[Reps.AC.mp r];exact Reps.nil_
 |t::l,vs,n+1,r=>by
  obtain⟨v,us,rfl,p,q⟩:=Reps.me.mp r;exact q.drop n
theorem Reps.ints:∀{ns:List Int},Reps K O H (ns.map T.int) (ns.map V.int)
 |[] =>Reps.nil_
 |n::r=>Reps.FM (Rep.GE n) Reps.ints
def RowsR(K:Nt)(O:Ow)(H:Hp):List (List T×List T)->List ZE->Prop
 |[],as=>as=[]
 |r::rs,as=>∃b bs kvs,as=b::bs/\H b=ZA (.dT kvs)/\r.1.map keyOf=kvs.map (λp=>ZA p.1)/\Reps K O H r.2 (kvs.map (·.2))/\RowsR K O H rs bs
def LsR(K:Nt)(O:Ow)(H:Hp):List (List T)->List ZE->Prop
 |[],as=>as=[]
 |l::ls,as=>∃b bs vs,as=b::bs/\H b=ZA (.lst vs)/\Reps K O H l vs/\LsR K O H ls bs
def ORep(K:Nt)(O M:Ow)(H:Hp):OT->V->Prop
 |.lst l,v=>∃a vs,v=.ref a/\(∀b,M b↔b=a)/\H a=ZA (.lst vs)/\Reps K O H l vs
 |.dct ks ts,v=>∃a kvs,v=.ref a/\(∀b,M b↔b=a)/\H a=ZA (.dT kvs)/\ks.map keyOf=kvs.map (λp=>ZA p.1)/\Reps K O H ts (kvs.map (·.2))
 |.dd ks rows,v=>∃a kvs as,v=.ref a/\(∀b,M b↔b=a\/b∈as)/\a∉as/\as.Nodup/\H a=ZA (.dT kvs)/\ks.map keyOf=kvs.map (λp=>ZA p.1)/\kvs.map (·.2)=as.map V.ref/\RowsR K O H rows as
 |.ob C ns ls,v=>∃a dx as,v=.ref a/\(∀b,M b↔b=a\/b=dx\/b∈as)/\(a∉as/\dx∉as/\dx≠a/\as.Nodup)/\H a=ZA (.ins (J3 K C) dx (ns.zip (as.map V.ref)))/\H dx=ZA (.own a)/\ns.length=as.length/\ns.Nodup/\LsR K O H ls as
inductive Sl where
 |em|va (t:T)|ow (o:OT)
abbrev En:=List Sl
abbrev W6:=En->Rs Bool
abbrev W5:=En->Rs T
abbrev W3:=En->Rs (List T)
abbrev Mn:=Nat->Ow
def Mn.u(M:Mn):Ow:=λa=>∃i,M i a
def isO:HO->Bool
 |.ins _ _ _=>ZC
 |.own _=>ZC
 |_=>ZD
def Mtb(H:Hp)(a:ZE):Prop:=(∃vs,H a=ZA (.lst vs))\/(∃kvs,H a=ZA (.dT kvs))\/∃o,H a=ZA o/\isO o=ZC
def Mtb.some(h:Mtb H a):∃o,H a=ZA o:=by
 rcases h with⟨_,e⟩|⟨_,e⟩|⟨_,e,_⟩ <;> exact⟨_,e⟩
def Mtb.at(s:∀o,H a=OB o->H' a=OB o)(h:Mtb H a):Mtb H' a:=by
 rcases h with⟨vs,e⟩|⟨k,e⟩|⟨o,e,q⟩
 ·exact .inl ⟨vs,s _ e⟩
 ·exact .inr (.inl ⟨k,s _ e⟩)
 ·exact .inr (.inr ⟨o,s _ e,q⟩)
def Mtb.same(s:Same H H')(h:Mtb H a):Mtb H' a:=h.at λo e=>s a o e
structure EnvM (K:Nt)(O:Ow)(M:Mn)(H:Hp)(Z:En)(σ:L2.St):Prop where
 len:Z.length=σ.length
 val:∀(i:Nat)(t:T),Z[i]?=ZA (.va t)->∃v,σ[i]?=ZA (ZA v)/\Rep K O H t v
 own:∀(i:Nat)(o:OT),Z[i]?=ZA (.ow o)->∃v,σ[i]?=ZA (ZA v)/\ORep K O (M i) H o v
 sub:∀(i:Nat)(a:ZE),M i a->O a
 dis:∀(i j:Nat)(a:ZE),M i a->M j a->i=j
 trk:∀(a:ZE),O a->Mtb H a
theorem RowsR.same(h:Same H H'):∀{rs:List (List T×List T)}{as:List ZE},RowsR K O H rs as->RowsR K O H' rs as
 |[],_,r=>r
 |_::_,_,⟨b,bs,kvs,e1,e2,e3,e4,e5⟩=>⟨b,bs,kvs,e1,h _ _ e2,e3,e4.same h,e5.same h⟩
theorem LsR.same(h:Same H H'):∀{ls:List (List T)}{as:List ZE},LsR K O H ls as->LsR K O H' ls as
 |[],_,r=>r
 |_::_,_,⟨b,bs,vs,e1,e2,e3,e4⟩=>⟨b,bs,vs,e1,h _ _ e2,e3.same h,e4.same h⟩
theorem ORep.same{M:Ow}(h:Same H H'){o:OT}(r:ORep K O M H o v):ORep K O M H' o v:=by
 cases o with
 |lst l=>obtain⟨a,vs,e1,e2,e3,e4⟩:=r;exact⟨a,vs,e1,e2,h _ _ e3,e4.same h⟩
 |dct ks ts=>obtain⟨a,kvs,e1,e2,e3,e4,e5⟩:=r;exact⟨a,kvs,e1,e2,h _ _ e3,e4,e5.same h⟩
 |dd ks rows=>obtain⟨a,kvs,as,e1,e2,e3,e4,e5,e6,e7,e8⟩:=r;exact⟨a,kvs,as,e1,e2,e3,e4,h _ _ e5,e6,e7,e8.same h⟩
 |ob C ns ls=>obtain⟨a,dx,as,e1,e2,e3,e4,e5,e6,e7,e8⟩:=r;exact⟨a,dx,as,e1,e2,e3,h _ _ e4,h _ _ e5,e6,e7,e8.same h⟩
variable{Z:En}{σ:L2.St}
theorem EnvM.same{M:Mn}(h:Same H H')(e:EnvM K O M H Z σ):EnvM K O M H' Z σ where
 len:=e.len
 val:=λi t q=>let ⟨v,e1,e2⟩:=e.val i t q;⟨v,e1,e2.same h⟩
 own:=λi o q=>let ⟨v,e1,e2⟩:=e.own i o q;⟨v,e1,e2.same h⟩
 sub:=e.sub
 dis:=e.dis
 trk:=λa q=>(e.trk a q).same h
def EnvO(K:Nt)(O:Ow)(H:Hp)(Z:En)(σ:L2.St):Prop:=∃M,EnvM K O M H Z σ
variable{p:ZE}
theorem EnvO.val(e:EnvO K O H Z σ)(i:Nat)(t:T)(q:Z[i]?=ZA (.va t)):∃v,σ[i]?=ZA (ZA v)/\Rep K O H t v:=e.elim λ_ e=>e.val i t q
def EnvO.mtb(e:EnvO K O H Z σ):∀a,O a->Mtb H a:=e.elim λ_ e=>e.trk
def EnvO.trk(e:EnvO K O H Z σ)(a:ZE)(z:O a):∃o,H a=ZA o:=(e.mtb a z).some
theorem EnvO.same(h:Same H H')(e:EnvO K O H Z σ):EnvO K O H' Z σ:=e.elim λM e=>⟨M,e.same h⟩
def EnvO.fresh(e:EnvO K O H Z σ)(h:H p=ZB):¬ O p:=λz=>by
 obtain⟨o,q⟩:=e.trk p z;rw[h]at q;cases q
def Mj(h:ZH)(C e:ZE):Option ZE->Prop
 |none=>∃oe vs,h.get? e=ZA oe/\oe.cls=.ref C/\oe.data=.fields vs/\vs[1]?=ZA .none
 |some T=>T≠e/\∃oe vs,h.get? e=ZA oe/\oe.cls=.ref C/\oe.data=.fields vs/\vs[1]?=ZA (.ref T)/\∃oT ts,h.get? T=ZA oT/\oT.data=.fields ts/\ts[3]?=ZA .none
def RzP(X:Cx)(bv:W2)(P:Ow)(H:Hp)(c:Str)(ev:NA)(s':NB):Prop:=
 ∃e T C σ' H',ev=.ref e/\X.mg c=ZA (.ref C)/\Inv X bv σ' H' s'/\SameO P H H'/\H' e=ZB/\(X.ex=[]->X.s₀.heap.get? e=ZB)/\Mj s'.heap C e T/\(∀t,T=ZA t->H' t=ZB/\(X.ex=[]->X.s₀.heap.get? t=ZB))/\∀p∈X.pn++bv,p.1≠e/\T≠ZA p.1
def Nw(K:Nt)(H:Hp):Ow:=λa=>H a=ZB/\K.lookup a=ZB
variable{H1:Hp}
def ja(h:SameO P H H1)(n:Nw K H1 a):P a\/Nw K H a:=by
 by_cases hp:P a
 ·exact .inl hp
 ·refine .inr ⟨?_,n.2⟩
  cases q:H a with
  |none=>rfl
  |some o=>have:=h a o q hp;rw[n.1]at this;cases this
def SameO.trans{P1:Ow}{H2:Hp}(h:SameO P H H1)(h1:SameO P1 H1 H2)(sub:∀a,P1 a->P a\/Nw K H a):SameO P H H2:=λb o e n=>
 h1 b o (h b o e n) λz=>(sub b z).elim n λw=>by rw[w.1]at e;cases e
def XA(X:Cx)(P:Ow)(H:Hp)(c:Str):Prop:=∀bv ev s',RzP X bv P H c ev s'->X.xe ev s'
variable{X:Cx}
def XA.later{P1:Ow}{c:Str}(h:XA X P H c)(s:SameO P H H1)(sub:∀a,P1 a->P a\/Nw X.K H a):XA X P1 H1 c:=λbv ev s' ⟨e,T,C,σ',H',a1,a2,a3,a4,a5⟩=>
 h bv ev s' ⟨e,T,C,σ',H',a1,a2,a3,s.trans a4 sub,a5⟩
abbrev yJ:Ow:=λ_=>False
def Post{α:Type}(X:Cx)(H:Hp)(r:Rs α)(k:α->Hp->Prop):Prop:=match r with
 |.ok t=>∀H',Same H H'->k t H'
 |.err c=>XA X yJ H c
 |.bad=>False
def Post.mono{r:Rs α}{k k':α->Hp->Prop}(h:Post X H r k)(f:∀t H',Same H H'->k t H'->k' t H'):Post X H r k':=by
 cases r with
 |ok t=>exact λH' s=>f t H' s (h H' s)
 |err c=>exact h
 |bad=>exact h
theorem Post.later{r:Rs α}{k:α->Hp->Prop}(h:Post X H r k)(s:Same H H1):Post X H1 r k:=by
 cases r with
 |ok t=>exact λH' s'=>h H' (s.trans s')
 |err c=>exact XA.later h (SameO.of s) λ_ z=>z.elim
 |bad=>exact h
def Post.bind{r:Rs α}{f:α->Rs β}{k:β->Hp->Prop}(h:Post X H (r >>= f) k):Post X H r λt H'=>Post X H' (f t) k:=by
 cases r with
 |ok t=>exact λH' s=>Post.later h s
 |err c=>exact h
 |bad=>exact h
def tP(X:Cx)(f:W5):TE:=λσ H Q=>∃Z O,EnvO X.K O H Z σ/\Post X H (f Z) λt H'=>∀v,Rep X.K O H' t v->Q v H'
def tPA(X:Cx)(f:W3):TA:=λσ H Q=>∃Z O,EnvO X.K O H Z σ/\Post X H (f Z) λt H'=>∀v,Reps X.K O H' t v->Q v H'
def zB(X:Cx)(f:W6):TT:=λσ H Q=>∃Z O,EnvO X.K O H Z σ/\Post X H (f Z) λb H'=>Q b H'
abbrev cQ(X:Cx)(e:ZG)(f:W5):Prop:=PE X e (tP X f)
abbrev tD(X:Cx)(e:List ZG)(f:W3):Prop:=PA X e (tPA X f)
abbrev xZ(X:Cx)(e:ZG)(f:W6):Prop:=PT X e (zB X f)
variable{e:ZG}
def PE.imp{t t':TE}(h:PE X e t)(w:∀σ H Q,t' σ H Q->t σ H Q):PE X e t':=λbv s σ H Q I q=>h bv s σ H Q I (w σ H Q q)
def PA.imp{e:List ZG}{t t':TA}(h:PA X e t)(w:∀σ H Q,t' σ H Q->t σ H Q):PA X e t':=λpos bv s σ H Q I q=>h pos bv s σ H Q I (w σ H Q q)
def PT.imp{t t':TT}(h:PT X e t)(w:∀σ H Q,t' σ H Q->t σ H Q):PT X e t':=λbv s σ H Q I q=>h bv s σ H Q I (w σ H Q q)
def PS.imp{e:ZF}{t t':TS}(h:PS X e t)(w:∀D σ H,t' D σ H->t D σ H):PS X e t':=λbv s σ H D I q=>h bv s σ H D I (w D σ H q)
def PSs.imp{e:List ZF}{t t':TS}(h:PSs X e t)(w:∀D σ H,t' D σ H->t D σ H):PSs X e t':=λbv s σ H D I q=>h bv s σ H D I (w D σ H q)
variable{es:List ZG}{f:W3}{x:Str}
def bj{f:W5}{k:T->Rs α}{Q:α->Hp->Prop}(E:EnvO X.K O H Z σ)(h:Post X H (f Z >>= k) Q):
  tP X f σ H λv H'=>∃t,Rep X.K O H' t v/\Same H H'/\EnvO X.K O H' Z σ/\Post X H' (k t) Q:=
 ⟨Z,O,E,Post.mono h.bind λt H' s q v r=>⟨t,r,s,E.same s,q⟩⟩
def fq{k:List T->Rs α}{Q:α->Hp->Prop}(E:EnvO X.K O H Z σ)(h:Post X H (f Z >>= k) Q):
  tPA X f σ H λv H'=>∃t,Reps X.K O H' t v/\Same H H'/\EnvO X.K O H' Z σ/\Post X H' (k t) Q:=
 ⟨Z,O,E,Post.mono h.bind λt H' s q v r=>⟨t,r,s,E.same s,q⟩⟩
def lY{f:W6}{k:Bool->Rs α}{Q:α->Hp->Prop}(E:EnvO X.K O H Z σ)(h:Post X H (f Z >>= k) Q):
  zB X f σ H λb H'=>Same H H'/\EnvO X.K O H' Z σ/\Post X H' (k b) Q:=
 ⟨Z,O,E,Post.mono h.bind λt H' s q=>⟨s,E.same s,q⟩⟩
noncomputable def vr(i:Nat)(Z:En):Rs T:=match Z[i]? with
 |some (.va t)=>.ok t
 |_=>.bad
def cn(t:T)(_:En):Rs T:=.ok t
def KN(i:Nat){pos:Pos}(hN:autoParam (X.N[i]?=ZA x) u_)(hv:autoParam (vD X.env.scope x) v_)(hd:autoParam ((x == ("__debug__" : Str))=ZD) s_)
  (hcd:autoParam ((x == ("__classdict__" : Str))=ZD) s_):cQ X (.Name x pos) (vr i):=PE.imp (jU hN hv hd hcd) λσ H Q hh_=>by
 obtain⟨Z,O,E,h⟩:=hh_;unfold vr at h
 split at h
 ·rename_i t e
  obtain⟨v,e1,e2⟩:=E.val i t e;exact⟨v,e1,h H (Same.refl H) v e2⟩
 ·exact h.elim
def KZ{i j pos}:cQ X (.Constant (.int i) j pos) (cn (.int i)):=PE.imp IY λσ H Q ⟨Z,O,E,h⟩=>h H (Same.refl H) _ (Rep.GE i)
def q_bl{i j pos}:cQ X (.Constant (.bool i) j pos) (cn (.bl i)):=PE.imp K8 λσ H Q ⟨Z,O,E,h⟩=>h H (Same.refl H) _ (Rep.bl_ i)
def KS{j pos}:cQ X (.Constant .none j pos) (cn .non):=PE.imp CN λσ H Q ⟨Z,O,E,h⟩=>h H (Same.refl H) _ Rep.MH
def KP{i j pos}:cQ X (.Constant (.str i) j pos) (cn (.str i)):=PE.imp i9 λσ H Q ⟨Z,O,E,h⟩=>h H (Same.refl H) _ (Rep.MI i)
def ID{u:NA}{pos:Pos}(hm:X.mg x=ZA u)(r:RelV (.int i) u)(hg:autoParam (Gl X x) u_)(hd:autoParam ((x == ("__debug__" : Str))=ZD) s_):cQ X (.Name x pos) (cn (.int i)):=
 PE.imp (F4 hg hm r hd) λσ H Q ⟨Z,O,E,h⟩=>h H (Same.refl H) _ (Rep.GE i)
def ai(_:En):Rs (List T):=.ok []
def af(f:W5)(g:W3)(Z:En):Rs (List T):=do
 let t <-f Z
 let r <-g Z
 .ok (t::r)
def IB:tD X [] ai:=PA.imp jV λσ H Q ⟨Z,O,E,h⟩=>h H (Same.refl H) _ Reps.nil_
def FI{f:W5}{g:W3}(he:cQ X e f)(hr:tD X es g)(hs:autoParam (NZ (e::es) X.env=(ZD,eval e X.env)::NZ es X.env) u_):tD X (e::es) (af f g):=by
 intro pos bv s σ H Q I h;obtain⟨Z,O,E,h⟩:=h;refine fx he hr hs pos bv s σ H Q I ?_
 obtain⟨Z1,O1,E1,h1⟩:=bj E h;refine⟨Z1,O1,E1,Post.mono h1 λt H' s q v r=>?_⟩
 obtain⟨t',r',s',E',q'⟩:=q v r;refine⟨Z,O,E',Post.mono q'.bind λts H2 s2 q2 vs rs=>?_⟩
 exact q2 H2 (Same.refl H2) _ (Reps.FM (r'.same s2) rs)
variable{g:T->T->Rs T}{op:CmpOp}
section
def lz(l:List T):Rs T:=if l.length<=ZI then .ok (.tup l)else .bad
def lA(l:List T):Rs T:=if l.length<=ZI then .ok (.lst l)else .bad
def bx(f:W3)(Z:En):Rs T:=f Z >>= lz
def dF(f:W3)(Z:En):Rs T:=f Z >>= lA
def aW(h:H p=ZB)(o:HO):Same H (upd H p o):=λb u q=>by rw[aG (cH q h)];exact q
def iN(h:H p=ZB)(n:¬ O p)(r:Reps K O H l vs):Rep K O (upd H p (.tup vs)) (.tup l) (.ref p):=
 Rep.Fk.mpr ⟨p,vs,rfl,n,aI,r.same (aW h _)⟩
def jT(h:H p=ZB)(n:¬ O p)(r:Reps K O H l vs):Rep K O (upd H p (.lst vs)) (.lst l) (.ref p):=
 Rep.Do.mpr ⟨p,vs,rfl,n,aI,r.same (aW h _)⟩
def KO{pos:Pos}(h:tD X es f):cQ X (.Tuple es x1 pos) (bx f):=by
 intro bv s σ H Q I ⟨Z,O,E,hq⟩;refine yz h bv s σ H Q I ?_
 obtain⟨Z1,O1,E1,h1⟩:=fq E hq;refine⟨Z1,O1,E1,Post.mono h1 λts H1 s1 q vs r=>?_⟩
 obtain⟨t',r',s',E',q'⟩:=q vs r;unfold lz at q'
 split at q'
 ·rename_i hz
  refine⟨by rw[<-r'.length];exact hz,λp hp=>?_⟩
  exact q' _ (aW hp _) _ (iN hp (E'.fresh hp) r')
 ·exact q'.elim
def KW{pos:Pos}(h:tD X es f):cQ X (.List es pos) (dF f):=by
 intro bv s σ H Q I ⟨Z,O,E,hq⟩;refine IX h bv s σ H Q I ?_
 obtain⟨Z1,O1,E1,h1⟩:=fq E hq;refine⟨Z1,O1,E1,Post.mono h1 λts H1 s1 q vs r=>?_⟩
 obtain⟨t',r',s',E',q'⟩:=q vs r;unfold lA at q'
 split at q'
 ·rename_i hz
  refine⟨by rw[<-r'.length];exact hz,λp hp=>?_⟩
  exact q' _ (aW hp _) _ (jT hp (E'.fresh hp) r')
 ·exact q'.elim
def OpT(X:Cx)(f:NA->NA->Sem NA)(g:T->T->Rs T):Prop:=
 ∀(bv:W2)(s:NB)(σ:L2.St)(H:Hp)(O:Ow)(x y:T)(vx vy:V)(ux uy:NA)(Q:VK),Inv X bv σ H s->(∀p,H p=ZB->¬ O p)->Rep X.K O H x vx->Rep X.K O H y vy->RelV vx ux->RelV vy uy →
  Post X H (g x y) (λt H'=>∀v,Rep X.K O H' t v->Q v H')->ZJ (ZK X.prog X.w) X.A (f ux uy) (EP X bv σ Q) X.xe s
def o2(g:T->T->Rs T)(fa fb:W5)(Z:En):Rs T:=do
 let x <-fa Z
 let y <-fb Z
 g x y
variable {a b c:ZG}{fa fb fc:W5}{pos:Pos}
def K2{op:Operator}(ho:OpT X (PM op) g)(ha:cQ X a fa)(hb:cQ X b fb):cQ X (.BinOp a op b pos) (o2 g fa fb):=by
 intro bv s σ H Q I ⟨Z,O,E,hq⟩
 have h1:=bj E hq;refine wpAny_BinOp (cF (ha bv s σ H _ I h1) λv s1 hh_=>?_)
 obtain⟨x,H1,I1,r1,t,rt,s',E',q1⟩:=hh_
 have h2:=bj (f:=fb) E' q1;refine cF (hb bv s1 σ H1 _ I1 h2) λu s2 hh_=>?_
 obtain⟨y,H2,I2,r2,t2,rt2,s'',E'',q2⟩:=hh_;exact ho bv s2 σ H2 O t t2 x y v u Q I2 (λp=>E''.fresh) (rt.same s'') rt2 r1 r2 q2
def K1(ho:OpT X (OD op) g)(ha:cQ X a fa)(hb:cQ X b fb)(hm:autoParam (Q8 op b=ZD) u_):cQ X (.Compare a [op] [b] pos) (o2 g fa fb):=by
 intro bv s σ H Q I ⟨Z,O,E,hq⟩
 have h1:=bj E hq;refine wpAny_Compare1 (cF (ha bv s σ H _ I h1) λv s1 ⟨x,H1,I1,r1,t,rt,s',E',q1⟩=>?_) hm
 have h2:=bj (f:=fb) E' q1;refine cF (hb bv s1 σ H1 _ I1 h2) λu s2 hh_=>?_
 obtain⟨y,H2,I2,r2,t2,rt2,s'',E'',q2⟩:=hh_;exact ho bv s2 σ H2 O t t2 x y v u Q I2 (λp=>E''.fresh) (rt.same s'') rt2 r1 r2 q2
def OpT.of{f:NA->NA->Sem NA}{r:R2}(h:rN X f r)
  (w:∀(H:Hp)(O:Ow)(x y:T)(vx vy:V)(Q:VK),(∀p,H p=ZB->¬ O p)->Rep X.K O H x vx->Rep X.K O H y vy->Post X H (g x y) (λt H'=>∀v,Rep X.K O H' t v->Q v H')->r vx vy H Q):OpT X f g:=
 λbv s σ H O x y vx vy ux uy Q I hf rx ry r1 r2 hp=>h bv s σ H vx vy ux uy Q I r1 r2 (w H O x y vx vy Q hf rx ry hp)
def cR:T->T->Rs T
 |.int i,.int j=>.ok (.int (i - j))
 |_,_=>.bad
def dI:OpT X (PM .Sub) cR:=OpT.of Jc λH O x y vx vy Q hf rx ry hp=>by
 unfold cR at hp
 split at hp
 ·exact⟨_,_,Rep.Da.mp rx,Rep.Da.mp ry,hp H (Same.refl H) _ (Rep.GE _)⟩
 ·exact hp.elim
def mI:T->T->Rs T
 |.int i,.int j=>if 0<j/\j<1073741824 then .ok (.int (i / j))else .bad
 |_,_=>.bad
def mB:T->T->Rs T
 |.int i,.int j=>if 0<j then .ok (.int (i % j))else .bad
 |_,_=>.bad
def oC:OpT X (PM .FloorDiv) mI:=OpT.of F9 λH O x y vx vy Q hf rx ry hp=>by
 unfold mI at hp
 split at hp
 ·split at hp
  ·rename_i h
   exact⟨_,_,Rep.Da.mp rx,Rep.Da.mp ry,h,hp H (Same.refl H) _ (Rep.GE _)⟩
  ·exact hp.elim
 ·exact hp.elim
def lJ:OpT X (PM .Mod) mB:=OpT.of Jf λH O x y vx vy Q hf rx ry hp=>by
 unfold mB at hp
 split at hp
 ·split at hp
  ·rename_i h
   exact⟨_,_,Rep.Da.mp rx,Rep.Da.mp ry,h,hp H (Same.refl H) _ (Rep.GE _)⟩
  ·exact hp.elim
 ·exact hp.elim
def CY:rN X (PM .Add) (λx y H Q=>∃a b ys,x=.ref a/\y=.ref b/\SqT X.K H a []/\SqT X.K H b ys/\Q (.ref b) H):=by
 intro bv s σ H x y v u Q I rx ry h;obtain⟨a,b,ys,rfl,rfl,ha,hb,q⟩:=h;cases rx;cases ry;obtain⟨its,r1,p1,_⟩:=I.tuple ha;obtain⟨its2,r2,p2,_⟩:=I.tuple hb;obtain⟨⟨cls,dd,data,sl⟩,ho,hc,n,hd⟩:=id p1;obtain⟨⟨cls2,dd2,data2,sl2⟩,ho2,hc2,n2,hd2⟩:=id p2;simp only at hc hd hc2 hd2;subst hc hd hc2 hd2
 have e:its=[]:=by cases r1;rfl
 subst e;exact HT_concat0 ho ho2 ⟨.ref b,H,I,rfl,q⟩
where
 HT_concat0 {prog:N1} {w:OF} {A:Os} {E:W1} {s:NB} {t b:ZE} {ws:Array NA} {n n2:Nat} {dd dd2:Option ZE} {sl sl2:Array (Option NA)} {Q:W1}
   (ho:s.heap.get? t=ZA {cls:=.type "tuple",dict:=dd,data:=.seq (([]:List NA).toArray) n,slots:=sl}) (ho2:s.heap.get? b=ZA {cls:=.type "tuple",dict:=dd2,data:=.seq ws n2,slots:=sl2}) (h:Q (.ref b) s):
   ZJ (ZK prog w) A (PM .Add (.ref t) (.ref b)) Q E s:=
  VM ⟨_,ho,rfl⟩ ⟨_,ho2,rfl⟩ TC U9 RN Ru (Rq _ _)
   (tuple_addW0 t b _ _ n n2 dd dd2 sl sl2 (by simp)) ⟨ho,ho2,h⟩
def aS:T->T->Rs T
 |.int i,.int j=>.ok (.int (i+j))
 |.str i,.str j=>if i.length+j.length<=ZI then .ok (.str (i++j))else .bad
 |.tup l,.tup m=>lz (l++m)
 |.lst l,.lst m=>lA (l++m)
 |_,_=>.bad
def aR:OpT X (PM .Add) aS:=by
 intro bv s σ H O x y vx vy ux uy Q I hf rx ry r1 r2 hp;unfold aS at hp
 split at hp
 ·exact Ji bv s σ H vx vy ux uy Q I r1 r2 ⟨_,_,Rep.Da.mp rx,Rep.Da.mp ry,hp H (Same.refl H) _ (Rep.GE _)⟩
 ·split at hp
  ·rename_i h
   exact yB bv s σ H vx vy ux uy Q I r1 r2 ⟨_,_,Rep.GM.mp rx,Rep.GM.mp ry,h,hp H (Same.refl H) _ (Rep.MI _)⟩
  ·exact hp.elim
 ·rename_i l m
  unfold lz at hp
  split at hp
  ·rename_i h
   obtain⟨a,vs,e1,n1,q1,z1⟩:=Rep.Fk.mp rx;obtain⟨b,ws,e2,n2,q2,z2⟩:=Rep.Fk.mp ry
   have hl1:=z1.length
   have hl2:=z2.length;rw[NH]at h
   cases vs with
   |nil=>
    have e:l=[]:=by cases l with
     |nil=>rfl
     |cons _ _=>simp at hl1
    subst e
    exact CY bv s σ H vx vy ux uy Q I r1 r2 ⟨a,b,ws,e1,e2,SqT.of q1,SqT.of q2,hp H (Same.refl H) _ (Rep.Fk.mpr ⟨b,ws,rfl,n2,q2,z2⟩)⟩
   |cons v0 vr=>
    refine Ga bv s σ H vx vy ux uy Q I r1 r2 ⟨a,b,v0::vr,ws,e1,e2,SqT.of q1,SqT.of q2,by simp,by omega,λhw=>?_,λ_ p hpn=>?_⟩
    ·subst hw
     have e:m=[]:=by cases m with
      |nil=>rfl
      |cons _ _=>simp at hl2
     subst e;rw[OH]at hp;exact hp H (Same.refl H) _ (Rep.Fk.mpr ⟨a,_,rfl,n1,q1,z1⟩)
    ·exact hp _ (aW hpn _) _ (iN hpn (hf p hpn) (z1.append z2))
  ·exact hp.elim
 ·rename_i l m
  unfold lA at hp
  split at hp
  ·rename_i h
   obtain⟨a,vs,e1,n1,q1,z1⟩:=Rep.Do.mp rx;obtain⟨b,ws,e2,n2,q2,z2⟩:=Rep.Do.mp ry
   have hl1:=z1.length
   have hl2:=z2.length;rw[NH]at h;exact Jh bv s σ H vx vy ux uy Q I r1 r2 ⟨a,b,vs,ws,e1,e2,q1,q2,by omega,λp hpn=>hp _ (aW hpn _) _ (jT hpn (hf p hpn) (z1.append z2))⟩
  ·exact hp.elim
 ·exact hp.elim
def yQ:T->T->Rs T
 |.int i,.int j=>if (-(2 ^ 64)<i/\i<2 ^ 64)\/(-(2 ^ 64)<j/\j<2 ^ 64)then .ok (.int (i*j))else .bad
 |.lst l,.int k=>if -(2 ^ 63)<=k/\k<2 ^ 63/\l.length*k.toNat<=ZI then .ok (.lst (N5 k.toNat l).flatten)else .bad
 |_,_=>.bad
theorem Reps.rep(h:Reps K O H l vs):∀k:Nat,Reps K O H (N5 k l).flatten (N5 k vs).flatten
 |0=>Reps.nil_
 |k+1=>by rw[Pq,Pq,Qt,Qt];exact h.append (h.rep k)
def Ja:OpT X (PM .Mult) yQ:=by
 intro bv s σ H O x y vx vy ux uy Q I hf rx ry r1 r2 hp;unfold yQ at hp
 split at hp
 ·split at hp
  ·rename_i h
   exact Je bv s σ H vx vy ux uy Q I r1 r2 ⟨_,_,Rep.Da.mp rx,Rep.Da.mp ry,h,hp H (Same.refl H) _ (Rep.GE _)⟩
  ·exact hp.elim
 ·split at hp
  ·rename_i l k h
   obtain⟨a,vs,e1,n1,q1,z1⟩:=Rep.Do.mp rx
   have hl1:=z1.length;exact Jd bv s σ H vx vy ux uy Q I r1 r2 ⟨a,k,vs,e1,Rep.Da.mp ry,q1,h.1,h.2.1,by rw[<-hl1];exact h.2.2,λp hpn=>hp _ (aW hpn _) _ (jT hpn (hf p hpn) (z1.rep _))⟩
  ·exact hp.elim
 ·exact hp.elim
def uN:T->Rs T
 |.int i=>.ok (.int (-i))
 |_=>.bad
def o1(g:T->Rs T)(fa:W5)(Z:En):Rs T:=fa Z >>= g
def KU(ha:cQ X a fa):cQ X (.UnaryOp .USub a pos) (o1 uN fa):=by
 intro bv s σ H Q I ⟨Z,O,E,hq⟩;refine K6 HI ha bv s σ H Q I ?_
 obtain⟨Z1,O1,E1,h1⟩:=bj E hq;refine⟨Z1,O1,E1,Post.mono h1 λts H1 s1 q vs r=>?_⟩
 obtain⟨t',r',s',E',q'⟩:=q vs r;unfold uN at q'
 split at q'
 ·exact⟨_,Rep.Da.mp r',q' H1 (Same.refl H1) _ (Rep.GE _)⟩
 ·exact q'.elim
def vp(p:Int->Int->Bool):T->T->Rs T
 |.int i,.int j=>.ok (.bl (p i j))
 |_,_=>.bad
def oE{p:Int->Int->Bool}(h:rN X (OD op) (Fp λi j=>.bl (p i j))):OpT X (OD op) (vp p):=OpT.of h λH O x y vx vy Q hf rx ry hp=>by
 unfold vp at hp
 split at hp
 ·exact⟨_,_,Rep.Da.mp rx,Rep.Da.mp ry,hp H (Same.refl H) _ (Rep.bl_ _)⟩
 ·exact hp.elim
abbrev qP:=vp λi j=>decide (i<j)
abbrev Ll:=vp λi j=>decide (i<=j)
abbrev JN:=vp λi j=>decide (j<i)
abbrev Me:=vp λi j=>decide (j<=i)
def nS:OpT X (OD .Lt) qP:=oE Lb
def zQ:OpT X (OD .LtE) Ll:=oE Lc
def CV:OpT X (OD .Gt) JN:=oE Ld
def La:OpT X (OD .GtE) Me:=oE Lf
def T.isN:T->Bool
 |.non=>ZC
 |_=>ZD
def Rep.isN{t:T}(r:Rep K O H t v):decide (v=.non)=t.isN:=by
 cases t with
 |non=>rw[Rep.KF.mp r];rfl
 |bl _=>rw[Rep.FB.mp r];rfl
 |int _=>rw[Rep.Da.mp r];rfl
 |str _=>rw[Rep.GM.mp r];rfl
 |tup _=>obtain⟨a,vs,e,_⟩:=Rep.Fk.mp r;rw[e];rfl
 |lst _=>obtain⟨a,vs,e,_⟩:=Rep.Do.mp r;rw[e];rfl
 |scr _=>unfold Rep at r;obtain⟨a,e,_⟩:=r;rw[e];rfl
 |dct _ _=>obtain⟨a,_,e,_⟩:=Rep.Gc.mp r;rw[e];rfl
 |ob _ _ _=>obtain⟨a,_,_,e,_⟩:=Rep.MD.mp r;rw[e];rfl
def gp:T->T->Rs T
 |x,.non=>.ok (.bl x.isN)
 |_,_=>.bad
def cS:T->T->Rs T
 |x,.non=>.ok (.bl (!x.isN))
 |_,_=>.bad
def jX:OpT X (OD .Is) gp:=OpT.of Jg λH O x y vx vy Q hf rx ry hp=>by
 unfold gp at hp
 split at hp
 ·exact⟨Rep.KF.mp ry,hp H (Same.refl H) _ (by rw[rx.isN];exact Rep.bl_ _)⟩
 ·exact hp.elim
def dU:OpT X (OD .IsNot) cS:=OpT.of F8 λH O x y vx vy Q hf rx ry hp=>by
 unfold cS at hp
 split at hp
 ·exact⟨Rep.KF.mp ry,hp H (Same.refl H) _ (by rw[rx.isN];exact Rep.bl_ _)⟩
 ·exact hp.elim
end
open PySem.SeqAt
mutual
def ReV(s:NB):T->NA->Prop
 |.non,u=>u=.none
 |.bl b,u=>u=.bool b
 |.int i,u=>∃t,u=.int i t
 |.str x,u=>∃t,u=.str x t
 |.tup l,u=>∃a its,u=.ref a/\s.heap.IsTuple a (VF its)/\ReVs s l its
 |.lst l,u=>∃a its,u=.ref a/\s.heap.IsList a (VF its)/\ReVs s l its
 |.scr l,u=>∃a its,u=.ref a/\s.heap.IsList a (VF its)/\PH its l
 |.dct _ _,_=>False
 |.ob _ _ _,_=>False
def ReVs(s:NB):List T->List NA->Prop
 |[],us=>us=[]
 |t::r,us=>∃u ws,us=u::ws/\ReV s t u/\ReVs s r ws
end
def ReVs.AC:ReVs s [] us↔us=[]:=by unfold ReVs;exact RT
def ReVs.me{t:T}:ReVs s (t::l) us↔ ∃u ws,us=u::ws/\ReV s t u/\ReVs s l ws:=by
 constructor
 ·intro h;unfold ReVs at h;exact h
 ·intro h;unfold ReVs;exact h
theorem ReVs.length:∀{l:List T}{us:List NA},ReVs s l us->l.length=us.length
 |[],us,r=>by rw[ReVs.AC.mp r];rfl
 |t::l,us,r=>by
  obtain⟨v,ws,rfl,_,q⟩:=ReVs.me.mp r;simp[q.length]
theorem ReVs.get:∀{l:List T}{us:List NA}{i:Nat}{t:T},ReVs s l us->l[i]?=ZA t->∃v,us[i]?=ZA v/\ReV s t v
 |[],_,_,_,_,e=>by simp at e
 |t::l,vs,i,u,r,e=>by
  obtain⟨v,ws,rfl,p,q⟩:=ReVs.me.mp r
  cases i with
  |zero=>simp at e;subst e;exact⟨v,rfl,p⟩
  |succ i=>
   obtain⟨z,e1,e2⟩:=q.get (i:=i) (t:=u) (by simpa using e)
   exact⟨z,by simpa using e1,e2⟩
mutual
def T.nd:T->Bool
 |.dct _ _=>ZD
 |.ob _ _ _=>ZD
 |.tup l=>nds l
 |.lst l=>nds l
 |_=>ZC
def nds:List T->Bool
 |[] =>ZC
 |t::l=>t.nd&&nds l
end
def xh{t:T}(h:nds (t::l)=ZC):t.nd=ZC/\nds l=ZC:=by unfold nds at h;exact PR.mp h
theorem C7:∀{l:List T},(∀t∈l,t.nd=ZC)->nds l=ZC
 |[],_=>rfl
 |t::l,h=>by unfold nds;rw[h t Nv,C7 λu hu=>h u (Nu _ hu)];rfl
section
variable {bv:W2}
mutual
theorem Rep.val(I:Inv X bv σ H s):∀{t:T}{v:V}{u:NA},t.nd=ZC->Rep X.K O H t v->RelV v u->ReV s t u
 |.non,v,u,hn,r,q=>by cases Rep.KF.mp r;unfold ReV;exact q
 |.bl b,v,u,hn,r,q=>by cases Rep.FB.mp r;unfold ReV;exact q
 |.int b,v,u,hn,r,q=>by cases Rep.Da.mp r;unfold ReV;exact q
 |.str b,v,u,hn,r,q=>by cases Rep.GM.mp r;unfold ReV;exact q
 |.tup l,v,u,hn,r,q=>by
  obtain⟨a,vs,rfl,_,z,w⟩:=Rep.Fk.mp r;cases q;obtain⟨its,rv,p,_⟩:=I.tuple (SqT.of z);unfold ReV
  exact⟨a,its,rfl,p,Reps.val I (by unfold T.nd at hn;exact hn) w rv⟩
 |.lst l,v,u,hn,r,q=>by
  obtain⟨a,vs,rfl,_,z,w⟩:=Rep.Do.mp r;cases q;obtain⟨its,rv,p,_⟩:=I.list (SqL.of z);unfold ReV
  exact⟨a,its,rfl,p.isList,Reps.val I (by unfold T.nd at hn;exact hn) w rv⟩
 |.scr l,v,u,hn,r,q=>by
  unfold Rep at r;obtain⟨a,rfl,_,z⟩:=r;cases q;obtain⟨its,rv,p,_⟩:=I.list z;unfold ReV
  exact⟨a,its,rfl,p.isList,yX rv⟩
 |.dct _ _,v,u,hn,r,q=>by cases hn
 |.ob _ _ _,v,u,hn,r,q=>by cases hn
theorem Reps.val(I:Inv X bv σ H s):∀{l:List T}{vs:List V}{us:List NA},nds l=ZC->Reps X.K O H l vs->Vals vs us->ReVs s l us
 |[],vs,us,hn,r,q=>by
  cases Reps.AC.mp r;cases q
  exact ReVs.AC.mpr rfl
 |t::l,vs,us,hn,r,q=>by
  obtain⟨v,ws,rfl,p,z⟩:=Reps.me.mp r
  cases q with
  |cons q1 q2=>exact ReVs.me.mpr ⟨_,_,rfl,Rep.val I (xh hn).1 p q1,Reps.val I (xh hn).2 z q2⟩
end
end
mutual
def T.dep:T->Nat
 |.tup l=>deps l+1
 |.lst l=>deps l+1
 |.scr _=>1
 |_=>0
def deps:List T->Nat
 |[] =>0
 |t::l=>max t.dep (deps l)
end
def GR(i:Int):T->Bool
 |.int j=>i == j
 |.bl b=>i == (if b then 1 else 0)
 |_=>ZD
def lF:List Int->List T->Bool
 |[],[] =>ZC
 |i::r,t::l=>GR i t&&lF r l
 |_,_=>ZD
mutual
def bh:T->T->Bool
 |.non,.non=>ZC
 |.bl a,.bl b=>a == b
 |.bl a,.int b=>(if a then 1 else 0) == b
 |.int a,.bl b=>a == (if b then 1 else 0)
 |.int a,.int b=>a == b
 |.str a,.str b=>a == b
 |.tup l,.tup m=>beqTs l m
 |.lst l,.lst m=>beqTs l m
 |.lst l,.scr m=>beqTs l (m.map .int)
 |.scr l,.lst m=>lF l m
 |.scr l,.scr m=>l == m
 |_,_=>ZD
def beqTs:List T->List T->Bool
 |[],[] =>ZC
 |t::l,u::m=>bh t u&&beqTs l m
 |_,_=>ZD
end
def qK(n:Nat)(e:Nat->Bool):(OU (n+1)).all e=(e 0&&(OU n).all λj=>e (j+1)):=by
 rw[List.range_succ_eq_map,UY,TV];rfl
theorem nE:∀(l m:List T)(e:Nat->Bool),(∀(j:Nat) t u,l[j]?=ZA t->m[j]?=ZA u->e j=bh t u) →
  beqTs l m=((OU (min l.length m.length)).all e&&l.length == m.length)
 |[],[],_,_=>by simp[beqTs]
 |[],_::_,_,_=>by simp[beqTs]
 |_::_,[],_,_=>by simp[beqTs]
 |t::l,u::m,e,h=>by
  have ih:=nE l m (λj=>e (j+1)) λj t' u' h1 h2=>h (j+1) t' u' (by simpa using h1) (by simpa using h2)
  rw[beqTs,ih]
  have h0:=h 0 t u rfl rfl;simp only[ND];rw[Nat.succ_min_succ,qK,h0,Bool.and_assoc]
  congr 2
  simp
theorem tw:∀{l m:List T},l.length≠m.length->beqTs l m=ZD
 |[],[],h=>absurd rfl h
 |[],_::_,_=>by simp[beqTs]
 |_::_,[],_=>by simp[beqTs]
 |t::l,u::m,h=>by
  rw[beqTs,tw (l:=l) (m:=m) (by intro z;exact h (by simp[z]))]
  simp
theorem kg:∀{l:List T}{i:Nat}{t:T},l[i]?=ZA t->t.dep<=deps l
 |[],_,_,e=>by simp at e
 |t::l,0,u,e=>by simp at e;subst e;unfold deps;exact Nat.le_max_left _ _
 |t::l,i+1,u,e=>by
  have:=kg (l:=l) (i:=i) (t:=u) (by simpa using e)
  unfold deps;exact Oj this (Nat.le_max_right _ _)
def j8{x y:List NA}(h:s.heap.IsTuple a x.toArray)(h':s.heap.IsTuple a y.toArray):x=y:=by
 obtain⟨o,e,_,n,d⟩:=h;obtain⟨o',e',_,n',d'⟩:=h';rw[e]at e';cases e';rw[d]at d';injection d' with d1 _
 simpa using congrArg SG d1
def dE{x y:List NA}(h:s.heap.IsList a x.toArray)(h':s.heap.IsList a y.toArray):x=y:=by
 obtain⟨o,e,_,n,d⟩:=h;obtain⟨o',e',_,n',d'⟩:=h';rw[e]at e';cases e';rw[d]at d';injection d' with d1 _
 simpa using congrArg SG d1
def BD{t:T}{k:Tok}(r:ReV s t (.int i k)):GR i t=ZC:=by
 cases t with
 |non=>unfold ReV at r;cases r
 |bl b=>unfold ReV at r;cases r
 |int j=>unfold ReV at r;obtain⟨t,e⟩:=r;injection e with e1 _;subst e1;simp[GR]
 |str x=>unfold ReV at r;obtain⟨t,e⟩:=r;cases e
 |tup l=>unfold ReV at r;obtain⟨a,its,e,_⟩:=r;cases e
 |lst l=>unfold ReV at r;obtain⟨a,its,e,_⟩:=r;cases e
 |scr l=>unfold ReV at r;obtain⟨a,its,e,_⟩:=r;cases e
 |dct _ _=>unfold ReV at r;exact r.elim
 |ob _ _ _=>unfold ReV at r;exact r.elim
theorem qI:∀{ns:List Int}{us:List NA}{l:List T},PH us ns->ReVs s l us->lF ns l=ZC
 |[],us,l,h,r=>by
  cases h
  cases l with
  |nil=>rfl
  |cons t l=>obtain⟨_,_,e,_⟩:=ReVs.me.mp r;cases e
 |n::ns,us,l,h,r=>by
  cases h with
  |cons a b hh=>
   cases l with
   |nil=>have:=ReVs.AC.mp r;cases this
   |cons t l=>
    obtain⟨u,ws,e,p,q⟩:=ReVs.me.mp r;injection e with e1 e2
    subst e1 e2;rw[lF,BD p,qI hh q];rfl
theorem eY:∀{us:List NA}{ns:List Int},PH us ns->ReVs s (ns.map T.int) us
 |_,_,.nil=>ReVs.AC.mpr rfl
 |_,_,.cons n t h=>ReVs.me.mpr ⟨_,_,rfl,by unfold ReV;exact⟨_,rfl⟩,eY h⟩
theorem j9:∀{us:List NA}{ns ms:List Int},PH us ns->PH us ms->ns=ms
 |_,_,_,.nil,.nil=>rfl
 |_,_,_,.cons n t h,.cons _ _ h'=>by rw[j9 h h']
mutual
theorem ReV.refl{s:NB}:∀{t u:T}{v:NA},ReV s t v->ReV s u v->bh t u=ZC
 |.non,u,v,r,q=>by
  unfold ReV at r;subst r
  cases u <;> (unfold ReV at q) <;> first|rfl| (cases q;done)| (obtain⟨_,e⟩:=q;cases e;done)| (obtain⟨_,_,e,_⟩:=q;cases e;done)
 |.bl b,u,v,r,q=>by
  unfold ReV at r;subst r
  cases u <;> (unfold ReV at q) <;> first| (cases q;done)| (cases q;simp[bh];done)| (obtain⟨_,e⟩:=q;cases e;done)| (obtain⟨_,_,e,_⟩:=q;cases e;done)
 |.int b,u,v,r,q=>by
  unfold ReV at r;obtain⟨k,rfl⟩:=r
  cases u <;> (unfold ReV at q) <;> first| (cases q;done)| (obtain⟨_,e⟩:=q;cases e;simp[bh];done)| (obtain⟨_,e⟩:=q;cases e;done)| (obtain⟨_,_,e,_⟩:=q;cases e;done)
 |.str b,u,v,r,q=>by
  unfold ReV at r;obtain⟨k,rfl⟩:=r
  cases u <;> (unfold ReV at q) <;> first| (cases q;done)| (obtain⟨_,e⟩:=q;cases e;simp[bh];done)| (obtain⟨_,e⟩:=q;cases e;done)| (obtain⟨_,_,e,_⟩:=q;cases e;done)
 |.tup l,u,v,r,q=>by
  unfold ReV at r;obtain⟨a,its,rfl,h1,h2⟩:=r
  cases u with
  |non=>unfold ReV at q;cases q
  |dct _ _=>unfold ReV at q;exact q.elim
  |ob _ _ _=>unfold ReV at q;exact q.elim
  |bl _=>unfold ReV at q;cases q
  |int _=>unfold ReV at q;obtain⟨_,e⟩:=q;cases e
  |str _=>unfold ReV at q;obtain⟨_,e⟩:=q;cases e
  |tup m=>
   unfold ReV at q;obtain⟨a',its',e,h1',h2'⟩:=q;injection e with e;subst e
   have:=j8 h1 h1';subst this;unfold bh
   exact ReVs.refl h2 h2'
  |lst m=>unfold ReV at q;obtain⟨a',its',e,h1',h2'⟩:=q;injection e with e;subst e;exact absurd rfl (ne_of_list_tuple h1' h1)
  |scr m=>unfold ReV at q;obtain⟨a',its',e,h1',h2'⟩:=q;injection e with e;subst e;exact absurd rfl (ne_of_list_tuple h1' h1)
 |.lst l,u,v,r,q=>by
  unfold ReV at r;obtain⟨a,its,rfl,h1,h2⟩:=r
  cases u with
  |non=>unfold ReV at q;cases q
  |dct _ _=>unfold ReV at q;exact q.elim
  |ob _ _ _=>unfold ReV at q;exact q.elim
  |bl _=>unfold ReV at q;cases q
  |int _=>unfold ReV at q;obtain⟨_,e⟩:=q;cases e
  |str _=>unfold ReV at q;obtain⟨_,e⟩:=q;cases e
  |lst m=>
   unfold ReV at q;obtain⟨a',its',e,h1',h2'⟩:=q;injection e with e;subst e
   have:=dE h1 h1';subst this;unfold bh
   exact ReVs.refl h2 h2'
  |tup m=>unfold ReV at q;obtain⟨a',its',e,h1',h2'⟩:=q;injection e with e;subst e;exact absurd rfl (ne_of_list_tuple h1 h1')
  |scr m=>
   unfold ReV at q;obtain⟨a',its',e,h1',h2'⟩:=q;injection e with e;subst e
   have:=dE h1 h1';subst this;unfold bh
   exact ReVs.refl h2 (eY h2')
 |.scr l,u,v,r,q=>by
  unfold ReV at r;obtain⟨a,its,rfl,h1,h2⟩:=r
  cases u with
  |non=>unfold ReV at q;cases q
  |dct _ _=>unfold ReV at q;exact q.elim
  |ob _ _ _=>unfold ReV at q;exact q.elim
  |bl _=>unfold ReV at q;cases q
  |int _=>unfold ReV at q;obtain⟨_,e⟩:=q;cases e
  |str _=>unfold ReV at q;obtain⟨_,e⟩:=q;cases e
  |lst m=>
   unfold ReV at q;obtain⟨a',its',e,h1',h2'⟩:=q;injection e with e;subst e
   have:=dE h1 h1';subst this;unfold bh
   exact qI h2 h2'
  |tup m=>unfold ReV at q;obtain⟨a',its',e,h1',h2'⟩:=q;injection e with e;subst e;exact absurd rfl (ne_of_list_tuple h1 h1')
  |scr m=>
   unfold ReV at q;obtain⟨a',its',e,h1',h2'⟩:=q;injection e with e;subst e
   have:=dE h1 h1';subst this;unfold bh
   have:=j9 h2 h2'
   simp[this]
 |.dct _ _,u,v,r,q=>by unfold ReV at r;exact r.elim
 |.ob _ _ _,u,v,r,q=>by unfold ReV at r;exact r.elim
theorem ReVs.refl{s:NB}:∀{l m:List T}{us:List NA},ReVs s l us->ReVs s m us->beqTs l m=ZC
 |[],m,us,r,q=>by
  cases ReVs.AC.mp r
  cases m with
  |nil=>simp[beqTs]
  |cons _ _=>obtain⟨_,_,e,_⟩:=ReVs.me.mp q;cases e
 |t::l,m,us,r,q=>by
  obtain⟨v,ws,rfl,p,z⟩:=ReVs.me.mp r
  cases m with
  |nil=>cases ReVs.AC.mp q
  |cons u m=>
   obtain⟨v',ws',e,p',z'⟩:=ReVs.me.mp q;injection e with e1 e2
   subst e1 e2;rw[beqTs,ReV.refl p p',ReVs.refl z z'];rfl
end
theorem qH:∀(l:List Int)(m:List T),lF l m=beqTs (l.map T.int) m
 |[],[] =>by simp[lF,beqTs]
 |[],_::_=>by simp[lF,beqTs]
 |_::_,[] =>by simp[lF,beqTs]
 |i::l,t::m=>by
  rw[lF,Nx,beqTs,qH l m]
  congr 1
  cases t <;> simp[GR,bh]
theorem tQ:∀(l m:List Int),(l == m)=beqTs (l.map T.int) (m.map T.int)
 |[],[] =>by simp[beqTs]
 |[],_::_=>by simp[beqTs]
 |_::_,[] =>by simp[beqTs]
 |i::l,t::m=>by
  rw[Nx,Nx,beqTs,<-tQ l m];simp[bh]
theorem gF:∀(l:List Int),deps (l.map T.int)=0
 |[] =>rfl
 |i::l=>by rw[Nx,deps,gF l];simp[T.dep]
def kE:T->T->Prop
 |.tup _,.tup _=>False
 |.lst _,.lst _=>False
 |.lst _,.scr _=>False
 |.scr _,.lst _=>False
 |.scr _,.scr _=>False
 |_,_=>True
def xO(A:Os)(s:NB)(x y:T)(u v:NA)(hn:kE x y)(hu:A.units<cLine)(rx:ReV s x u)(ry:ReV s y v):EqAt A s u v (bh x y)/\RcAt A s u v (bh x y)/\RcNeAt A s u v (!bh x y):=by
 match x,y,hn,rx,ry with
 |.dct _ _,_,_,rx,_=>exact(by unfold ReV at rx;exact rx:False).elim
 |.ob _ _ _,_,_,rx,_=>exact(by unfold ReV at rx;exact rx:False).elim
 |_,.dct _ _,_,_,ry=>exact(by unfold ReV at ry;exact ry:False).elim
 |_,.ob _ _ _,_,_,ry=>exact(by unfold ReV at ry;exact ry:False).elim
 |.non,.non,hn,rx,ry=>
  obtain rfl:u=OA:=by unfold ReV at rx;exact rx
  obtain rfl:v=OA:=by unfold ReV at ry;exact ry
  exact⟨EqAt.same _,RcAt.none_none ,RcNeAt.none_none ⟩
 |.non,.bl b2,hn,rx,ry=>
  obtain rfl:u=OA:=by unfold ReV at rx;exact rx
  obtain rfl:v=Pb b2:=by unfold ReV at ry;exact ry
  exact⟨EqAt.none_bool b2,RcAt.none_bool b2,RcNeAt.none_bool b2⟩
 |.non,.int i2,hn,rx,ry=>
  obtain rfl:u=OA:=by unfold ReV at rx;exact rx
  obtain⟨k2,rfl⟩:∃k,v=Pc i2 k:=by unfold ReV at ry;exact ry
  exact⟨EqAt.none_int i2 k2,RcAt.none_int i2 k2,RcNeAt.none_int i2 k2⟩
 |.non,.str x2,hn,rx,ry=>
  obtain rfl:u=OA:=by unfold ReV at rx;exact rx
  obtain⟨k2,rfl⟩:∃k,v=PD x2 k:=by unfold ReV at ry;exact ry
  exact⟨EqAt.none_str x2 k2,RcAt.none_str x2 k2,RcNeAt.none_str x2 k2⟩
 |.non,.tup l2,hn,rx,ry=>
  obtain rfl:u=OA:=by unfold ReV at rx;exact rx
  unfold ReV at ry;obtain⟨a2,us2,rfl,h2,q2⟩:=ry
  exact⟨EqAt.none_tuple h2 hu,RcAt.none_tuple h2 hu,RcNeAt.none_tuple h2 hu⟩
 |.non,.lst l2,hn,rx,ry=>
  obtain rfl:u=OA:=by unfold ReV at rx;exact rx
  unfold ReV at ry;obtain⟨a2,us2,rfl,h2,q2⟩:=ry
  exact⟨EqAt.none_list h2 hu,RcAt.none_list h2 hu,RcNeAt.none_list h2 hu⟩
 |.non,.scr l2,hn,rx,ry=>
  obtain rfl:u=OA:=by unfold ReV at rx;exact rx
  unfold ReV at ry;obtain⟨a2,us2,rfl,h2,q2⟩:=ry
  exact⟨EqAt.none_list h2 hu,RcAt.none_list h2 hu,RcNeAt.none_list h2 hu⟩
 |.bl b1,.non,hn,rx,ry=>
  obtain rfl:u=Pb b1:=by unfold ReV at rx;exact rx
  obtain rfl:v=OA:=by unfold ReV at ry;exact ry
  exact⟨EqAt.bool_none b1,RcAt.bool_none b1,RcNeAt.bool_none b1⟩
 |.bl b1,.bl b2,hn,rx,ry=>
  obtain rfl:u=Pb b1:=by unfold ReV at rx;exact rx
  obtain rfl:v=Pb b2:=by unfold ReV at ry;exact ry
  exact⟨EqAt.bool_bool b1 b2,RcAt.bool_bool b1 b2,RcNeAt.bool_bool b1 b2⟩
 |.bl b1,.int i2,hn,rx,ry=>
  obtain rfl:u=Pb b1:=by unfold ReV at rx;exact rx
  obtain⟨k2,rfl⟩:∃k,v=Pc i2 k:=by unfold ReV at ry;exact ry
  exact⟨EqAt.bool_int b1 i2 k2,RcAt.bool_int b1 i2 k2,RcNeAt.bool_int b1 i2 k2⟩
 |.bl b1,.str x2,hn,rx,ry=>
  obtain rfl:u=Pb b1:=by unfold ReV at rx;exact rx
  obtain⟨k2,rfl⟩:∃k,v=PD x2 k:=by unfold ReV at ry;exact ry
  exact⟨EqAt.bool_str b1 x2 k2,RcAt.bool_str b1 x2 k2,RcNeAt.bool_str b1 x2 k2⟩
 |.bl b1,.tup l2,hn,rx,ry=>
  obtain rfl:u=Pb b1:=by unfold ReV at rx;exact rx
  unfold ReV at ry;obtain⟨a2,us2,rfl,h2,q2⟩:=ry
  exact⟨EqAt.bool_tuple b1 h2 hu,RcAt.bool_tuple b1 h2 hu,RcNeAt.bool_tuple b1 h2 hu⟩
 |.bl b1,.lst l2,hn,rx,ry=>
  obtain rfl:u=Pb b1:=by unfold ReV at rx;exact rx
  unfold ReV at ry;obtain⟨a2,us2,rfl,h2,q2⟩:=ry
  exact⟨EqAt.bool_list b1 h2 hu,RcAt.bool_list b1 h2 hu,RcNeAt.bool_list b1 h2 hu⟩
 |.bl b1,.scr l2,hn,rx,ry=>
  obtain rfl:u=Pb b1:=by unfold ReV at rx;exact rx
  unfold ReV at ry;obtain⟨a2,us2,rfl,h2,q2⟩:=ry
  exact⟨EqAt.bool_list b1 h2 hu,RcAt.bool_list b1 h2 hu,RcNeAt.bool_list b1 h2 hu⟩
 |.int i1,.non,hn,rx,ry=>
  obtain⟨k1,rfl⟩:∃k,u=Pc i1 k:=by unfold ReV at rx;exact rx
  obtain rfl:v=OA:=by unfold ReV at ry;exact ry
  exact⟨EqAt.int_none i1 k1,RcAt.int_none i1 k1,RcNeAt.int_none i1 k1⟩
 |.int i1,.bl b2,hn,rx,ry=>
  obtain⟨k1,rfl⟩:∃k,u=Pc i1 k:=by unfold ReV at rx;exact rx
  obtain rfl:v=Pb b2:=by unfold ReV at ry;exact ry
  exact⟨EqAt.int_bool i1 k1 b2,RcAt.int_bool i1 k1 b2,RcNeAt.int_bool i1 k1 b2⟩
 |.int i1,.int i2,hn,rx,ry=>
  obtain⟨k1,rfl⟩:∃k,u=Pc i1 k:=by unfold ReV at rx;exact rx
  obtain⟨k2,rfl⟩:∃k,v=Pc i2 k:=by unfold ReV at ry;exact ry
  exact⟨EqAt.int_int i1 k1 i2 k2,RcAt.int_int i1 k1 i2 k2,RcNeAt.int_int i1 k1 i2 k2⟩
 |.int i1,.str x2,hn,rx,ry=>
  obtain⟨k1,rfl⟩:∃k,u=Pc i1 k:=by unfold ReV at rx;exact rx
  obtain⟨k2,rfl⟩:∃k,v=PD x2 k:=by unfold ReV at ry;exact ry
  exact⟨EqAt.int_str i1 k1 x2 k2,RcAt.int_str i1 k1 x2 k2,RcNeAt.int_str i1 k1 x2 k2⟩
 |.int i1,.tup l2,hn,rx,ry=>
  obtain⟨k1,rfl⟩:∃k,u=Pc i1 k:=by unfold ReV at rx;exact rx
  unfold ReV at ry;obtain⟨a2,us2,rfl,h2,q2⟩:=ry
  exact⟨EqAt.int_tuple i1 k1 h2 hu,RcAt.int_tuple i1 k1 h2 hu,RcNeAt.int_tuple i1 k1 h2 hu⟩
 |.int i1,.lst l2,hn,rx,ry=>
  obtain⟨k1,rfl⟩:∃k,u=Pc i1 k:=by unfold ReV at rx;exact rx
  unfold ReV at ry;obtain⟨a2,us2,rfl,h2,q2⟩:=ry
  exact⟨EqAt.int_list i1 k1 h2 hu,RcAt.int_list i1 k1 h2 hu,RcNeAt.int_list i1 k1 h2 hu⟩
 |.int i1,.scr l2,hn,rx,ry=>
  obtain⟨k1,rfl⟩:∃k,u=Pc i1 k:=by unfold ReV at rx;exact rx
  unfold ReV at ry;obtain⟨a2,us2,rfl,h2,q2⟩:=ry
  exact⟨EqAt.int_list i1 k1 h2 hu,RcAt.int_list i1 k1 h2 hu,RcNeAt.int_list i1 k1 h2 hu⟩
 |.str x1,.non,hn,rx,ry=>
  obtain⟨k1,rfl⟩:∃k,u=PD x1 k:=by unfold ReV at rx;exact rx
  obtain rfl:v=OA:=by unfold ReV at ry;exact ry
  exact⟨EqAt.str_none x1 k1,RcAt.str_none x1 k1,RcNeAt.str_none x1 k1⟩
 |.str x1,.bl b2,hn,rx,ry=>
  obtain⟨k1,rfl⟩:∃k,u=PD x1 k:=by unfold ReV at rx;exact rx
  obtain rfl:v=Pb b2:=by unfold ReV at ry;exact ry
  exact⟨EqAt.str_bool x1 k1 b2,RcAt.str_bool x1 k1 b2,RcNeAt.str_bool x1 k1 b2⟩
 |.str x1,.int i2,hn,rx,ry=>
  obtain⟨k1,rfl⟩:∃k,u=PD x1 k:=by unfold ReV at rx;exact rx
  obtain⟨k2,rfl⟩:∃k,v=Pc i2 k:=by unfold ReV at ry;exact ry
  exact⟨EqAt.str_int x1 k1 i2 k2,RcAt.str_int x1 k1 i2 k2,RcNeAt.str_int x1 k1 i2 k2⟩
 |.str x1,.str x2,hn,rx,ry=>
  obtain⟨k1,rfl⟩:∃k,u=PD x1 k:=by unfold ReV at rx;exact rx
  obtain⟨k2,rfl⟩:∃k,v=PD x2 k:=by unfold ReV at ry;exact ry
  exact⟨EqAt.str_str x1 k1 x2 k2,RcAt.str_str x1 k1 x2 k2,RcNeAt.str_str x1 k1 x2 k2⟩
 |.str x1,.tup l2,hn,rx,ry=>
  obtain⟨k1,rfl⟩:∃k,u=PD x1 k:=by unfold ReV at rx;exact rx
  unfold ReV at ry;obtain⟨a2,us2,rfl,h2,q2⟩:=ry
  exact⟨EqAt.str_tuple x1 k1 h2 hu,RcAt.str_tuple x1 k1 h2 hu,RcNeAt.str_tuple x1 k1 h2 hu⟩
 |.str x1,.lst l2,hn,rx,ry=>
  obtain⟨k1,rfl⟩:∃k,u=PD x1 k:=by unfold ReV at rx;exact rx
  unfold ReV at ry;obtain⟨a2,us2,rfl,h2,q2⟩:=ry
  exact⟨EqAt.str_list x1 k1 h2 hu,RcAt.str_list x1 k1 h2 hu,RcNeAt.str_list x1 k1 h2 hu⟩
 |.str x1,.scr l2,hn,rx,ry=>
  obtain⟨k1,rfl⟩:∃k,u=PD x1 k:=by unfold ReV at rx;exact rx
  unfold ReV at ry;obtain⟨a2,us2,rfl,h2,q2⟩:=ry
  exact⟨EqAt.str_list x1 k1 h2 hu,RcAt.str_list x1 k1 h2 hu,RcNeAt.str_list x1 k1 h2 hu⟩
 |.tup l1,.non,hn,rx,ry=>
  unfold ReV at rx;obtain⟨a1,us1,rfl,h1,q1⟩:=rx;obtain rfl:v=OA:=by unfold ReV at ry;exact ry
  exact⟨EqAt.tuple_none h1 hu,RcAt.tuple_none h1 hu,RcNeAt.tuple_none h1 hu⟩
 |.tup l1,.bl b2,hn,rx,ry=>
  unfold ReV at rx;obtain⟨a1,us1,rfl,h1,q1⟩:=rx;obtain rfl:v=Pb b2:=by unfold ReV at ry;exact ry
  exact⟨EqAt.tuple_bool b2 h1 hu,RcAt.tuple_bool b2 h1 hu,RcNeAt.tuple_bool b2 h1 hu⟩
 |.tup l1,.int i2,hn,rx,ry=>
  unfold ReV at rx;obtain⟨a1,us1,rfl,h1,q1⟩:=rx;obtain⟨k2,rfl⟩:∃k,v=Pc i2 k:=by unfold ReV at ry;exact ry
  exact⟨EqAt.tuple_int i2 k2 h1 hu,RcAt.tuple_int i2 k2 h1 hu,RcNeAt.tuple_int i2 k2 h1 hu⟩
 |.tup l1,.str x2,hn,rx,ry=>
  unfold ReV at rx;obtain⟨a1,us1,rfl,h1,q1⟩:=rx;obtain⟨k2,rfl⟩:∃k,v=PD x2 k:=by unfold ReV at ry;exact ry
  exact⟨EqAt.tuple_str x2 k2 h1 hu,RcAt.tuple_str x2 k2 h1 hu,RcNeAt.tuple_str x2 k2 h1 hu⟩
 |.tup _,.tup _,hn,_,_=>exact hn.elim
 |.tup l1,.lst l2,hn,rx,ry=>
  unfold ReV at rx;obtain⟨a1,us1,rfl,h1,q1⟩:=rx;unfold ReV at ry;obtain⟨a2,us2,rfl,h2,q2⟩:=ry
  exact⟨EqAt.tuple_list h1 h2 hu,RcAt.tuple_list h1 h2 hu,RcNeAt.tuple_list h1 h2 hu⟩
 |.tup l1,.scr l2,hn,rx,ry=>
  unfold ReV at rx;obtain⟨a1,us1,rfl,h1,q1⟩:=rx;unfold ReV at ry;obtain⟨a2,us2,rfl,h2,q2⟩:=ry
  exact⟨EqAt.tuple_list h1 h2 hu,RcAt.tuple_list h1 h2 hu,RcNeAt.tuple_list h1 h2 hu⟩
 |.lst l1,.non,hn,rx,ry=>
  unfold ReV at rx;obtain⟨a1,us1,rfl,h1,q1⟩:=rx;obtain rfl:v=OA:=by unfold ReV at ry;exact ry
  exact⟨EqAt.list_none h1 hu,RcAt.list_none h1 hu,RcNeAt.list_none h1 hu⟩
 |.lst l1,.bl b2,hn,rx,ry=>
  unfold ReV at rx;obtain⟨a1,us1,rfl,h1,q1⟩:=rx;obtain rfl:v=Pb b2:=by unfold ReV at ry;exact ry
  exact⟨EqAt.list_bool b2 h1 hu,RcAt.list_bool b2 h1 hu,RcNeAt.list_bool b2 h1 hu⟩
 |.lst l1,.int i2,hn,rx,ry=>
  unfold ReV at rx;obtain⟨a1,us1,rfl,h1,q1⟩:=rx;obtain⟨k2,rfl⟩:∃k,v=Pc i2 k:=by unfold ReV at ry;exact ry
  exact⟨EqAt.list_int i2 k2 h1 hu,RcAt.list_int i2 k2 h1 hu,RcNeAt.list_int i2 k2 h1 hu⟩
 |.lst l1,.str x2,hn,rx,ry=>
  unfold ReV at rx;obtain⟨a1,us1,rfl,h1,q1⟩:=rx;obtain⟨k2,rfl⟩:∃k,v=PD x2 k:=by unfold ReV at ry;exact ry
  exact⟨EqAt.list_str x2 k2 h1 hu,RcAt.list_str x2 k2 h1 hu,RcNeAt.list_str x2 k2 h1 hu⟩
 |.lst l1,.tup l2,hn,rx,ry=>
  unfold ReV at rx;obtain⟨a1,us1,rfl,h1,q1⟩:=rx;unfold ReV at ry;obtain⟨a2,us2,rfl,h2,q2⟩:=ry
  exact⟨EqAt.list_tuple h1 h2 hu,RcAt.list_tuple h1 h2 hu,RcNeAt.list_tuple h1 h2 hu⟩
 |.lst _,.lst _,hn,_,_=>exact hn.elim
 |.lst _,.scr _,hn,_,_=>exact hn.elim
 |.scr l1,.non,hn,rx,ry=>
  unfold ReV at rx;obtain⟨a1,us1,rfl,h1,q1⟩:=rx;obtain rfl:v=OA:=by unfold ReV at ry;exact ry
  exact⟨EqAt.list_none h1 hu,RcAt.list_none h1 hu,RcNeAt.list_none h1 hu⟩
 |.scr l1,.bl b2,hn,rx,ry=>
  unfold ReV at rx;obtain⟨a1,us1,rfl,h1,q1⟩:=rx;obtain rfl:v=Pb b2:=by unfold ReV at ry;exact ry
  exact⟨EqAt.list_bool b2 h1 hu,RcAt.list_bool b2 h1 hu,RcNeAt.list_bool b2 h1 hu⟩
 |.scr l1,.int i2,hn,rx,ry=>
  unfold ReV at rx;obtain⟨a1,us1,rfl,h1,q1⟩:=rx;obtain⟨k2,rfl⟩:∃k,v=Pc i2 k:=by unfold ReV at ry;exact ry
  exact⟨EqAt.list_int i2 k2 h1 hu,RcAt.list_int i2 k2 h1 hu,RcNeAt.list_int i2 k2 h1 hu⟩
 |.scr l1,.str x2,hn,rx,ry=>
  unfold ReV at rx;obtain⟨a1,us1,rfl,h1,q1⟩:=rx;obtain⟨k2,rfl⟩:∃k,v=PD x2 k:=by unfold ReV at ry;exact ry
  exact⟨EqAt.list_str x2 k2 h1 hu,RcAt.list_str x2 k2 h1 hu,RcNeAt.list_str x2 k2 h1 hu⟩
 |.scr l1,.tup l2,hn,rx,ry=>
  unfold ReV at rx;obtain⟨a1,us1,rfl,h1,q1⟩:=rx;unfold ReV at ry;obtain⟨a2,us2,rfl,h2,q2⟩:=ry
  exact⟨EqAt.list_tuple h1 h2 hu,RcAt.list_tuple h1 h2 hu,RcNeAt.list_tuple h1 h2 hu⟩
 |.scr _,.lst _,hn,_,_=>exact hn.elim
 |.scr _,.scr _,hn,_,_=>exact hn.elim
def GC:∀(n:Nat)(A:Os)(s:NB)(x y:T)(u v:NA),(x.dep<=n\/y.dep<=n)->A.units+n<cLine->ReV s x u->ReV s y v->EqAt A s u v (bh x y)/\RcAt A s u v (bh x y)/\RcNeAt A s u v (!bh x y):=by
 intro n
 induction n with
 |zero=>
  intro A s x y u v hd hu rx ry
  exact xO A s x y u v (by cases x <;> cases y <;> simp_all [kE,T.dep]) (by omega) rx ry
 |succ n ih=>
  intro A s x y u v hd hu rx ry
  have hin:A.in1.units+n<cLine:=by show A.units+1+n<cLine;omega
  have items:∀(l m:List T)(us vs:List NA),(deps l<=n\/deps m<=n)->ReVs s l us->ReVs s m vs->∃e:Nat->Bool,(∀j (h1:j<us.toArray.size) (h2:j<vs.toArray.size),EqAt A.in1 s us.toArray[j] vs.toArray[j] (e j)) ∧
    (∀(j:Nat) t u,l[j]?=ZA t->m[j]?=ZA u->e j=bh t u):=λl m us vs hd r1 r2=>by
   refine⟨λj=>bh (l.getD j .non) (m.getD j .non),λj h1 h2=>?_,λj t u e1 e2=>by simp[List.getD,e1,e2]⟩
   have l1:=r1.length
   have l2:=r2.length
   have h1':j<l.length:=by rw[l1];simpa using h1
   have h2':j<m.length:=by rw[l2];simpa using h2
   have e1:l[j]?=ZA l[j]:=by simp
   have e2:m[j]?=ZA m[j]:=by simp
   obtain⟨u1,z1,w1⟩:=r1.get e1;obtain⟨u2,z2,w2⟩:=r2.get e2
   have q1:us.toArray[j]=u1:=by
    have:us[j]?=ZA us.toArray[j]:=by simp
    rw[z1]at this;exact(Om this).symm
   have q2:vs.toArray[j]=u2:=by
    have:vs[j]?=ZA vs.toArray[j]:=by simp
    rw[z2]at this;exact(Om this).symm
   rw[q1,q2]
   have g1:l.getD j .non=l[j]:=by simp[List.getD,e1]
   have g2:m.getD j .non=m[j]:=by simp[List.getD,e2]
   show EqAt A.in1 s u1 u2 (bh (l.getD j .non) (m.getD j .non))
   rw[g1,g2];refine(ih A.in1 s l[j] m[j] u1 u2 ?_ hin w1 w2).1
   rcases hd with hd|hd
   ·exact .inl (Oj (kg e1) hd)
   ·exact .inr (Oj (kg e2) hd)
  have lists:∀(l m:List T)(a b:ZE)(us vs:List NA),(deps l<=n\/deps m<=n)->ReVs s l us->ReVs s m vs->s.heap.IsList a us.toArray->s.heap.IsList b vs.toArray →
    EqAt A s (.ref a) (.ref b) (beqTs l m)/\RcAt A s (.ref a) (.ref b) (beqTs l m)/\RcNeAt A s (.ref a) (.ref b) (!beqTs l m):=λl m a b us vs hd r1 r2 h1 h2=>by
   have l1:=r1.length
   have l2:=r2.length
   have key:RcAt A s (.ref a) (.ref b) (beqTs l m)/\RcNeAt A s (.ref a) (.ref b) (!beqTs l m):=by
    by_cases hl:l.length=m.length
    ·obtain⟨e,he,hb⟩:=items l m us vs hd r1 r2
     have q:=nE l m e hb
     have q2:beqTs l m=(OU us.toArray.size).all e:=by
      rw[q,hl,VG];simp[l2.symm,hl.symm,l1]
     rw[q2]
     have hsz:us.toArray.size=vs.toArray.size:=by simp;omega
     exact⟨RcAt.lists h1 h2 hsz (by omega) he,RcNeAt.lists h1 h2 hsz (by omega) he⟩
    ·rw[tw hl]
     have hsz:(us.toArray.size != vs.toArray.size)=ZC:=by simp;omega
     exact⟨RcAt.lists_lengths h1 h2 hsz (by omega),RcNeAt.lists_lengths h1 h2 hsz (by omega)⟩
   refine⟨?_,key⟩
   by_cases hab:a=b
   ·subst hab
    have:=dE h1 h2;subst this;rw[ReVs.refl r1 r2];exact EqAt.same _
   ·exact EqAt.of_refs hab key.1
  cases x with
  |tup l=>
   cases y with
   |tup m=>
    unfold ReV at rx ry;obtain⟨a,us,rfl,h1,r1⟩:=rx;obtain⟨b,vs,rfl,h2,r2⟩:=ry
    have hd':deps l<=n\/deps m<=n:=by
     simp only[T.dep]at hd;omega
    have l1:=r1.length
    have l2:=r2.length;obtain⟨e,he,hb⟩:=items l m us vs hd' r1 r2
    have q:=nE l m e hb
    have q2:beqTs l m=((OU (min us.toArray.size vs.toArray.size)).all e&&us.toArray.size == vs.toArray.size):=by
     rw[q];simp[l1,l2]
    have key:RcAt A s (.ref a) (.ref b) (beqTs l m)/\RcNeAt A s (.ref a) (.ref b) (!beqTs l m):=by
     rw[q2];exact⟨RcAt.tuples h1 h2 (by omega) he,RcNeAt.tuples h1 h2 (by omega) he⟩
    unfold bh;refine⟨?_,key⟩
    by_cases hab:a=b
    ·subst hab
     have:=j8 h1 h2;subst this;rw[ReVs.refl r1 r2];exact EqAt.same _
    ·exact EqAt.of_refs hab key.1
   |_=>exact xO A s _ _ u v (by simp[kE]) (by omega) rx ry
  |lst l=>
   cases y with
   |lst m=>
    unfold ReV at rx ry;obtain⟨a,us,rfl,h1,r1⟩:=rx;obtain⟨b,vs,rfl,h2,r2⟩:=ry;unfold bh
    exact lists l m a b us vs (by simp only[T.dep]at hd;omega) r1 r2 h1 h2
   |scr m=>
    unfold ReV at rx ry;obtain⟨a,us,rfl,h1,r1⟩:=rx;obtain⟨b,vs,rfl,h2,r2⟩:=ry;unfold bh
    exact lists l (m.map T.int) a b us vs (by rw[gF];omega) r1 (eY r2) h1 h2
   |_=>exact xO A s _ _ u v (by simp[kE]) (by omega) rx ry
  |scr l=>
   cases y with
   |lst m=>
    unfold ReV at rx ry;obtain⟨a,us,rfl,h1,r1⟩:=rx;obtain⟨b,vs,rfl,h2,r2⟩:=ry;unfold bh;rw[qH]
    exact lists (l.map T.int) m a b us vs (by rw[gF];omega) (eY r1) r2 h1 h2
   |scr m=>
    unfold ReV at rx ry;obtain⟨a,us,rfl,h1,r1⟩:=rx;obtain⟨b,vs,rfl,h2,r2⟩:=ry;unfold bh;rw[tQ]
    exact lists (l.map T.int) (m.map T.int) a b us vs (by rw[gF];omega) (eY r1) (eY r2) h1 h2
   |_=>exact xO A s _ _ u v (by simp[kE]) (by omega) rx ry
  |_=>exact xO A s _ _ u v (by simp[kE]) (by omega) rx ry
mutual
def T.nf:T->T
 |.tup l=>.tup (nfs l)
 |.lst l=>.lst (nfs l)
 |.scr l=>.lst (l.map .int)
 |.non=>.non
 |.bl b=>.bl b
 |.int b=>.int b
 |.str b=>.str b
 |.dct a b=>.dct a b
 |.ob a b c=>.ob a b c
def nfs:List T->List T
 |[] =>[]
 |t::l=>t.nf::nfs l
end
theorem xf:∀(l:List Int),nfs (l.map T.int)=l.map T.int
 |[] =>rfl
 |i::l=>by rw[Nx,nfs,xf l];simp[T.nf]
mutual
theorem mP:∀(t x:T),bh t.nf x=bh t x
 |.non,x=>by simp[T.nf]
 |.bl _,x=>by simp[T.nf]
 |.int _,x=>by simp[T.nf]
 |.str _,x=>by simp[T.nf]
 |.tup l,x=>by cases x <;> simp[T.nf,bh,beqTs_nf l]
 |.lst l,x=>by cases x <;> simp[T.nf,bh,beqTs_nf l]
 |.scr l,x=>by cases x <;> simp[T.nf,bh,qH,tQ]
 |.dct _ _,x=>by simp[T.nf]
 |.ob _ _ _,x=>by simp[T.nf]
theorem beqTs_nf:∀(l m:List T),beqTs (nfs l) m=beqTs l m
 |[],m=>by simp[nfs]
 |t::l,m=>by cases m <;> simp[nfs,beqTs,mP t,beqTs_nf l]
end
def JI{t:T}{k:Tok}(r:ReV s t (.int i k)):t.nf=.int i:=by
 cases t with
 |non=>unfold ReV at r;cases r
 |bl b=>unfold ReV at r;cases r
 |int j=>unfold ReV at r;obtain⟨t,e⟩:=r;injection e with e1 _;subst e1;rfl
 |str x=>unfold ReV at r;obtain⟨t,e⟩:=r;cases e
 |tup l=>unfold ReV at r;obtain⟨a,its,e,_⟩:=r;cases e
 |lst l=>unfold ReV at r;obtain⟨a,its,e,_⟩:=r;cases e
 |scr l=>unfold ReV at r;obtain⟨a,its,e,_⟩:=r;cases e
 |dct _ _=>unfold ReV at r;exact r.elim
 |ob _ _ _=>unfold ReV at r;exact r.elim
theorem Ao:∀{l:List T}{us:List NA}{ns:List Int},ReVs s l us->PH us ns->nfs l=ns.map T.int
 |[],us,ns,r,h=>by cases ReVs.AC.mp r;cases h;rfl
 |t::l,us,ns,r,h=>by
  obtain⟨u,ws,rfl,p,q⟩:=ReVs.me.mp r
  cases h with
  |cons a b hh=>rw[nfs,JI p,Ao q hh];rfl
mutual
theorem ReV.nf{s:NB}:∀{t u:T}{v:NA},ReV s t v->ReV s u v->t.nf=u.nf
 |.non,u,v,r,q=>by
  unfold ReV at r;subst r
  cases u <;> (unfold ReV at q) <;> first|rfl| (cases q;done)| (obtain⟨_,e⟩:=q;cases e;done)| (obtain⟨_,_,e,_⟩:=q;cases e;done)
 |.bl b,u,v,r,q=>by
  unfold ReV at r;subst r
  cases u <;> (unfold ReV at q) <;> first| (cases q;done)| (cases q;rfl)| (obtain⟨_,e⟩:=q;cases e;done)| (obtain⟨_,_,e,_⟩:=q;cases e;done)
 |.int b,u,v,r,q=>by
  unfold ReV at r;obtain⟨k,rfl⟩:=r
  cases u <;> (unfold ReV at q) <;> first| (cases q;done)| (obtain⟨_,e⟩:=q;cases e;done)| (obtain⟨_,e⟩:=q;cases e;rfl)| (obtain⟨_,_,e,_⟩:=q;cases e;done)
 |.str b,u,v,r,q=>by
  unfold ReV at r;obtain⟨k,rfl⟩:=r
  cases u <;> (unfold ReV at q) <;> first| (cases q;done)| (obtain⟨_,e⟩:=q;cases e;done)| (obtain⟨_,e⟩:=q;cases e;rfl)| (obtain⟨_,_,e,_⟩:=q;cases e;done)
 |.tup l,u,v,r,q=>by
  unfold ReV at r;obtain⟨a,its,rfl,h1,h2⟩:=r
  cases u with
  |non=>unfold ReV at q;cases q
  |dct _ _=>unfold ReV at q;exact q.elim
  |ob _ _ _=>unfold ReV at q;exact q.elim
  |bl _=>unfold ReV at q;cases q
  |int _=>unfold ReV at q;obtain⟨_,e⟩:=q;cases e
  |str _=>unfold ReV at q;obtain⟨_,e⟩:=q;cases e
  |tup m=>
   unfold ReV at q;obtain⟨a',its',e,h1',h2'⟩:=q;injection e with e;subst e
   have:=j8 h1 h1';subst this;unfold T.nf
   rw[ReVs.nf h2 h2']
  |lst m=>unfold ReV at q;obtain⟨a',its',e,h1',h2'⟩:=q;injection e with e;subst e;exact absurd rfl (ne_of_list_tuple h1' h1)
  |scr m=>unfold ReV at q;obtain⟨a',its',e,h1',h2'⟩:=q;injection e with e;subst e;exact absurd rfl (ne_of_list_tuple h1' h1)
 |.lst l,u,v,r,q=>by
  unfold ReV at r;obtain⟨a,its,rfl,h1,h2⟩:=r
  cases u with
  |non=>unfold ReV at q;cases q
  |dct _ _=>unfold ReV at q;exact q.elim
  |ob _ _ _=>unfold ReV at q;exact q.elim
  |bl _=>unfold ReV at q;cases q
  |int _=>unfold ReV at q;obtain⟨_,e⟩:=q;cases e
  |str _=>unfold ReV at q;obtain⟨_,e⟩:=q;cases e
  |lst m=>
   unfold ReV at q;obtain⟨a',its',e,h1',h2'⟩:=q;injection e with e;subst e
   have:=dE h1 h1';subst this;unfold T.nf
   rw[ReVs.nf h2 h2']
  |tup m=>unfold ReV at q;obtain⟨a',its',e,h1',h2'⟩:=q;injection e with e;subst e;exact absurd rfl (ne_of_list_tuple h1 h1')
  |scr m=>
   unfold ReV at q;obtain⟨a',its',e,h1',h2'⟩:=q;injection e with e;subst e
   have:=dE h1 h1';subst this;unfold T.nf
   rw[ReVs.nf h2 (eY h2'),xf]
 |.scr l,u,v,r,q=>by
  unfold ReV at r;obtain⟨a,its,rfl,h1,h2⟩:=r
  cases u with
  |non=>unfold ReV at q;cases q
  |dct _ _=>unfold ReV at q;exact q.elim
  |ob _ _ _=>unfold ReV at q;exact q.elim
  |bl _=>unfold ReV at q;cases q
  |int _=>unfold ReV at q;obtain⟨_,e⟩:=q;cases e
  |str _=>unfold ReV at q;obtain⟨_,e⟩:=q;cases e
  |lst m=>
   unfold ReV at q;obtain⟨a',its',e,h1',h2'⟩:=q;injection e with e;subst e
   have:=dE h1 h1';subst this
   have z:=Ao h2' h2;unfold T.nf
   rw[z]
  |tup m=>unfold ReV at q;obtain⟨a',its',e,h1',h2'⟩:=q;injection e with e;subst e;exact absurd rfl (ne_of_list_tuple h1 h1')
  |scr m=>
   unfold ReV at q;obtain⟨a',its',e,h1',h2'⟩:=q;injection e with e;subst e
   have:=dE h1 h1';subst this
   rw[j9 h2 h2']
 |.dct _ _,u,v,r,q=>by unfold ReV at r;exact r.elim
 |.ob _ _ _,u,v,r,q=>by unfold ReV at r;exact r.elim
theorem ReVs.nf{s:NB}:∀{l m:List T}{us:List NA},ReVs s l us->ReVs s m us->nfs l=nfs m
 |[],m,us,r,q=>by
  cases ReVs.AC.mp r
  cases m with
  |nil=>rfl
  |cons _ _=>obtain⟨_,_,e,_⟩:=ReVs.me.mp q;cases e
 |t::l,m,us,r,q=>by
  obtain⟨v,ws,rfl,p,z⟩:=ReVs.me.mp r
  cases m with
  |nil=>cases ReVs.AC.mp q
  |cons u m=>
   obtain⟨v',ws',e,p',z'⟩:=ReVs.me.mp q;injection e with e1 e2
   subst e1 e2;rw[nfs,nfs,ReV.nf p p',ReVs.nf z z']
end
variable{x y:T}
section
variable {a b c:ZG}{fa fb fc:W5}{pos:Pos}
def gU(x y:T):Bool:=(decide (x.dep<=60)||decide (y.dep<=60))&&(x.nd&&y.nd)
def nX(x y:T):Rs T:=if gU x y=ZC then .ok (.bl (bh x y))else .bad
def iG(x y:T):Rs T:=if gU x y=ZC then .ok (.bl (!bh x y))else .bad
def iW(h:x.dep<=60)(hx:x.nd=ZC)(hy:y.nd=ZC):gU x y=ZC:=by unfold gU;rw[decide_eq_true h,hx,hy];rfl
def xK(h:y.dep<=60)(hx:x.nd=ZC)(hy:y.nd=ZC):gU x y=ZC:=by unfold gU;rw[decide_eq_true h,hx,hy,Bool.or_true];rfl
def kN(h:gU x y=ZC):x.nd=ZC/\y.nd=ZC:=by
 unfold gU at h;exact PR.mp (PR.mp h).2
def sL(h:gU x y=ZC):x.dep<=60\/y.dep<=60:=by
 unfold gU at h
 replace h:=(PR.mp h).1
 rcases Bool.or_eq_true_iff.mp h with h|h
 ·exact .inl (of_decide_eq_true h)
 ·exact .inr (of_decide_eq_true h)
def pG(hu:X.A.units+60<cLine):OpT X (OD .Eq) nX:=by
 intro bv s σ H O x y vx vy ux uy Q I hf rx ry r1 r2 hp;unfold nX at hp
 split at hp
 ·rename_i h
  have z:=GC 60 X.A s x y ux uy (sL h) hu (Rep.val I (kN h).1 rx r1) (Rep.val I (kN h).2 ry r2);exact z.2.1 _ _ _ _ ⟨.bl _,H,I,rfl,hp H (Same.refl H) _ (Rep.bl_ _)⟩
 ·exact hp.elim
def jW(hu:X.A.units+60<cLine):OpT X (OD .NotEq) iG:=by
 intro bv s σ H O x y vx vy ux uy Q I hf rx ry r1 r2 hp;unfold iG at hp
 split at hp
 ·rename_i h
  have z:=GC 60 X.A s x y ux uy (sL h) hu (Rep.val I (kN h).1 rx r1) (Rep.val I (kN h).2 ry r2);exact z.2.2 _ _ _ _ ⟨.bl _,H,I,rfl,hp H (Same.refl H) _ (Rep.bl_ _)⟩
 ·exact hp.elim
def T.items:T->Option (List T)
 |.tup l=>ZA l
 |.lst l=>ZA l
 |.scr l=>ZA (l.map T.int)
 |_=>ZB
def kj(x:T)(l:List T):Bool:=l.any λy=>bh y x
def Kd(x y:T):Rs T:=match y.items with
 |some l=>if (x.dep<=60\/deps l<=60)/\x.nd=ZC/\y.nd=ZC then .ok (.bl (kj x l))else .bad
 |none=>.bad
def jY(x y:T):Rs T:=match y.items with
 |some l=>if (x.dep<=60\/deps l<=60)/\x.nd=ZC/\y.nd=ZC then .ok (.bl (!kj x l))else .bad
 |none=>.bad
def zV(rx:ReV s x ux)(hu:A.units+60<cLine)(hd:x.dep<=60\/deps l<=60)(r:ReVs s l us):
  ∃e:NA->Bool,(∀y∈us,EqAt A s y ux (e y))/\us.any e=kj x l:=by
 classical
 have ex:∀y∈us,∃t∈l,ReV s t y:=λy hy=>by
  obtain⟨i,hi,rfl⟩:=QD hy
  have hl:=r.length
  have e1:l[i]?=ZA l[i]:=by simp
  obtain⟨u,q1,q2⟩:=r.get e1
  have:us[i]?=ZA us[i]:=by simp
  rw[this]at q1;cases q1;exact⟨l[i],OG _,q2⟩
 let e:NA->Bool:=λy=>decide (∃t∈l,ReV s t y/\bh t x=ZC)
 have dep:∀t∈l,t.dep<=60\/x.dep<=60:=λt ht=>by
  rcases hd with h|h
  ·exact .inr h
  ·obtain⟨i,hi,rfl⟩:=QD ht
   exact .inl (Oj (kg (i:=i) (by simp)) h)
 have uniq:∀y t t',ReV s t y->ReV s t' y->bh t x=bh t' x:=λy t t' z z'=>by
  rw[<-mP t,<-mP t',ReV.nf z z']
 have agree:∀y t,t∈l->ReV s t y->e y=bh t x:=λy t h z=>by
  show decide (∃t∈l,ReV s t y/\bh t x=ZC)=bh t x
  cases q:bh t x with
  |true=>exact decide_eq_true ⟨t,h,z,q⟩
  |false=>
   refine decide_eq_false ?_
   rintro ⟨t',h',z',q'⟩
   rw[<-uniq y t t' z z',q]at q';cases q'
 refine⟨e,λy hy=>?_,?_⟩
 ·obtain⟨t,h,z⟩:=ex y hy
  rw[agree y t h z];exact(GC 60 A s t x y ux (dep t h) hu z rx).1
 ·have go:∀(l':List T)(us':List NA),(∀t∈l',t∈l)->ReVs s l' us'->us'.any e=l'.any λy=>bh y x:=by
   intro l'
   induction l' with
   |nil=>intro us' _ r';rw[ReVs.AC.mp r'];rfl
   |cons t l' ih=>
    intro us' sub r';obtain⟨u,ws,rfl,p,q⟩:=ReVs.me.mp r';rw[QF,QF,ih ws (λt ht=>sub t (Nu _ ht)) q,agree u t (sub t Nv) p]
  exact go l us (λ_ h=>h) r
def sG{u:NA}(r:ReV s y u)(h:y.items=ZA l):∃a us,u=.ref a/\ReVs s l us/\(s.heap.IsTuple a us.toArray\/s.heap.IsList a us.toArray):=by
 cases y with
 |tup m=>cases h;unfold ReV at r;obtain⟨a,us,e,h1,h2⟩:=r;exact⟨a,us,e,h2,.inl h1⟩
 |lst m=>cases h;unfold ReV at r;obtain⟨a,us,e,h1,h2⟩:=r;exact⟨a,us,e,h2,.inr h1⟩
 |scr m=>cases h;unfold ReV at r;obtain⟨a,us,e,h1,h2⟩:=r;exact⟨a,us,e,eY h2,.inr h1⟩
 |_=>cases h
def K9(hu:X.A.units+61<cLine):OpT X (OD .In) Kd:=by
 intro bv s σ H O x y vx vy ux uy Q I hf rx ry r1 r2 hp;unfold Kd at hp
 split at hp
 ·rename_i l hl
  split at hp
  ·rename_i hd3
   obtain⟨hd,hnx,hny⟩:=hd3;obtain⟨a,us,rfl,rs,hh⟩:=sG (Rep.val I hny ry r2) hl;obtain⟨e,he,ha⟩:=zV (A:=X.A.in1) (Rep.val I hnx rx r1) (by show X.A.units+1+60<cLine;omega) hd rs
   have q:=hp H (Same.refl H) _ (Rep.bl_ (kj x l))
   have he':∀y,y∈us.toArray->EqAt X.A.in1 s y ux (e y):=λy hy=>he y (by simpa using hy)
   have ha':us.toArray.any e=kj x l:=by simpa using ha
   rcases hh with hh|hh
   ·exact in_tupleAt e hh he' (by rw[ha'];exact⟨.bl _,H,I,rfl,q⟩)
   ·exact in_listAt e hh he' (by rw[ha'];exact⟨.bl _,H,I,rfl,q⟩)
  ·exact hp.elim
 ·exact hp.elim
def pF(hu:X.A.units+61<cLine):OpT X (OD .NotIn) jY:=by
 intro bv s σ H O x y vx vy ux uy Q I hf rx ry r1 r2 hp;unfold jY at hp
 split at hp
 ·rename_i l hl
  split at hp
  ·rename_i hd3
   obtain⟨hd,hnx,hny⟩:=hd3;obtain⟨a,us,rfl,rs,hh⟩:=sG (Rep.val I hny ry r2) hl;obtain⟨e,he,ha⟩:=zV (A:=X.A.in1) (Rep.val I hnx rx r1) (by show X.A.units+1+60<cLine;omega) hd rs
   have q:=hp H (Same.refl H) _ (Rep.bl_ (!kj x l))
   have he':∀y,y∈us.toArray->EqAt X.A.in1 s y ux (e y):=λy hy=>he y (by simpa using hy)
   have ha':us.toArray.any e=kj x l:=by simpa using ha
   rcases hh with hh|hh
   ·exact notIn_tupleAt e hh he' (by rw[ha'];exact⟨.bl _,H,I,rfl,q⟩)
   ·exact notIn_listAt e hh he' (by rw[ha'];exact⟨.bl _,H,I,rfl,q⟩)
  ·exact hp.elim
 ·exact hp.elim
def ch(g g':T->T->Rs T)(fa fb fc:W5)(Z:En):Rs T:=do
 let x <-fa Z
 let y <-fb Z
 let z <-g x y
 match z with
 |.bl ZC=>do
  let w <-fc Z
  g' y w
 |.bl ZD=>.ok (.bl ZD)
 |_=>.bad
def FK{op':CmpOp}{g g':T->T->Rs T}(ho:OpT X (OD op) g)(ho':OpT X (OD op') g')(ha:cQ X a fa)(hb:cQ X b fb)(hc:cQ X c fc)
  (hm:autoParam (lastMarks [op,op'] [b,c]=ZD) w_):cQ X (.Compare a [op,op'] [b,c] pos) (ch g g' fa fb fc):=by
 intro bv s σ H Q I ⟨Z,O,E,hq⟩
 have h1:=bj E hq;refine Compare_chain (cF (ha bv s σ H _ I h1) λv s1 ⟨x,H1,I1,r1,t,rt,s',E',q1⟩=>chain_link ?_) hm
 have h2:=bj (f:=fb) E' q1;refine cF (hb bv s1 σ H1 _ I1 h2) λu s2 hh_=>?_
 obtain⟨y,H2,I2,r2,t2,rt2,s'',E'',q2⟩:=hh_
 refine cF (ho bv s2 σ H2 O t t2 x y v u (λv' H'=>∃t',Rep X.K O H' t' v'/\Same H2 H'/\Post X H' (match t' with
  |.bl ZC=>fc Z >>= λw=>g' t2 w
  |.bl ZD=>.ok (.bl ZD)
  |_=>.bad) (λt H'=>∀v,Rep X.K O H' t v->Q v H')) I2 (λp=>E''.fresh) (rt.same s'') rt2 r1 r2 (Post.mono q2.bind λt' H' s3 q v rv=>⟨t',rv,s3,q⟩)) λd s3 ⟨z,H3,I3,r3,t3,rt3,sm3,q3⟩=>?_
 have E3:=E''.same sm3
 split at q3
 ·cases Rep.FB.mp rt3
  cases r3;refine OY (ite_tt (chain_last ?_))
  have h4:=bj (f:=fc) E3 q3;refine cF (hc bv s3 σ H3 _ I3 h4) λw' s4 ⟨z',H4,I4,r4,t4,rt4,s4',E4,q4⟩=>?_
  exact ho' bv s4 σ H4 O t2 t4 y z' u w' Q I4 (λp=>E4.fresh) ((rt2.same sm3).same s4') rt4 r2 r4 q4
 ·cases Rep.FB.mp rt3
  cases r3;refine OY (ite_ff ⟨.bl ZD,H3,I3,rfl,q3 H3 (Same.refl H3) _ (Rep.bl_ ZD)⟩)
 ·exact q3.elim
def tb(f:W5)(Z:En):Rs Bool:=do
 let x <-f Z
 match x with
 |.bl k=>.ok k
 |_=>.bad
def bt(f:W6)(Z:En):Rs T:=do
 let k <-f Z
 .ok (.bl k)
def Ii{f:W5}(h:cQ X e f)(he:autoParam (∀whole,isTrue e X.env whole=(do let v <-whole;standAt e.pos;holding [v] (truthy v))) t_):xZ X e (tb f):=by
 intro bv s σ H Q I ⟨Z,O,E,hq⟩;refine IL h he bv s σ H Q I ?_
 obtain⟨Z1,O1,E1,h1⟩:=bj E hq;refine⟨Z1,O1,E1,Post.mono h1 λts H1 s1 q vs r=>?_⟩
 obtain⟨t',r',s',E',q'⟩:=q vs r
 split at q'
 ·exact⟨_,Rep.FB.mp r',q' H1 (Same.refl H1)⟩
 ·exact q'.elim
def Ik{g:T->T->Rs T}(ho:OpT X (OD op) g)(ha:cQ X a fa)(hb:cQ X b fb)(hm:autoParam (Q8 op b=ZD) u_):xZ X (.Compare a [op] [b] pos) (tb (o2 g fa fb)):=by
 intro bv s σ H Q I ⟨Z,O,E,hq⟩
 have hq':Post X H (o2 g fa fb Z) λt H'=>∀v,Rep X.K O H' t v->∃k,v=.bl k/\Q k H':=Post.mono hq.bind λt H' s' q v r=>by
  split at q
  ·exact⟨_,Rep.FB.mp r,q H' (Same.refl H')⟩
  ·exact q.elim
 have h1:=bj E hq';refine Uh (cF (ha bv s σ H _ I h1) λv s1 ⟨x,H1,I1,r1,t,rt,s',E',q1⟩=>?_) hm
 have h2:=bj (f:=fb) E' q1;refine cF (hb bv s1 σ H1 _ I1 h2) λu s2 hh_=>?_
 obtain⟨y,H2,I2,r2,t2,rt2,s'',E'',q2⟩:=hh_;refine cF (ho bv s2 σ H2 O t t2 x y v u _ I2 (λp=>E''.fresh) (rt.same s'') rt2 r1 r2 q2) λd s3 hh_=>?_
 obtain⟨z,H3,I3,r3,k,e,q3⟩:=hh_;subst e;cases r3;exact OY ⟨H3,I3,q3⟩
def iZ(f g:W6)(Z:En):Rs Bool:=do
 let k <-f Z
 if k then g Z else .ok ZD
def lW(f g:W6)(Z:En):Rs Bool:=do
 let k <-f Z
 if k then .ok ZC else g Z
def dg(f:W6)(Z:En):Rs Bool:=do
 let k <-f Z
 .ok (!k)
variable {f g:W6}{rest:List ZG}
abbrev HB(X:Cx)(e:ZG)(f:W6):Prop:=PW X e (zB X f)
def Ft(ha:xZ X a f):HB X (.BoolOp .And [a] pos) f:=FO ha
def Ig(ha:xZ X a f):HB X (.BoolOp .Or [a] pos) f:=II ha
def Ih(ha:xZ X a f)(hb:HB X (.BoolOp .And (b::rest) pos) g):HB X (.BoolOp .And (a::b::rest) pos) (iZ f g):=by
 intro wh bv s σ H Q I ⟨Z,O,E,hq⟩;refine IK ha hb wh bv s σ H Q I ?_
 obtain⟨Z1,O1,E1,h1⟩:=lY E hq;refine⟨Z1,O1,E1,Post.mono h1 λk H1 s1 q=>?_⟩
 obtain⟨s',E',q'⟩:=q
 cases k with
 |true=>rw[if_pos rfl];exact⟨Z,O,E',by simpa using q'⟩
 |false=>rw[if_neg N3];exact q' H1 (Same.refl H1)
def KG(ha:xZ X a f)(hb:HB X (.BoolOp .Or (b::rest) pos) g):HB X (.BoolOp .Or (a::b::rest) pos) (lW f g):=by
 intro wh bv s σ H Q I ⟨Z,O,E,hq⟩;refine K4 ha hb wh bv s σ H Q I ?_
 obtain⟨Z1,O1,E1,h1⟩:=lY E hq;refine⟨Z1,O1,E1,Post.mono h1 λk H1 s1 q=>?_⟩
 obtain⟨s',E',q'⟩:=q
 cases k with
 |true=>rw[if_pos rfl];exact q' H1 (Same.refl H1)
 |false=>rw[if_neg N3];exact⟨Z,O,E',by simpa using q'⟩
def qt_w(h:HB X e f):xZ X e f:=h.pt
def Ij(ha:xZ X a f):xZ X (.UnaryOp .Not a pos) (dg f):=by
 intro bv s σ H Q I ⟨Z,O,E,hq⟩;refine IM ha bv s σ H Q I ?_
 obtain⟨Z1,O1,E1,h1⟩:=lY E hq;exact⟨Z1,O1,E1,Post.mono h1 λk H1 s1 ⟨s',E',q'⟩=>q' H1 (Same.refl H1)⟩
def cL(f g:W5)(Z:En):Rs T:=do
 let x <-f Z
 match x with
 |.bl ZC=>g Z
 |.bl ZD=>.ok (.bl ZD)
 |_=>.bad
def BJ(f g:W5)(Z:En):Rs T:=do
 let x <-f Z
 match x with
 |.bl ZC=>.ok (.bl ZC)
 |.bl ZD=>g Z
 |_=>.bad
def yH:T->Rs T
 |.bl k=>.ok (.bl (!k))
 |_=>.bad
def KQ{op}(h:cQ X a fa):cQ X (.BoolOp op [a] pos) fa:=IV h
def K3(ha:cQ X a fa)(hb:cQ X (.BoolOp .And (b::rest) pos) fb):cQ X (.BoolOp .And (a::b::rest) pos) (cL fa fb):=by
 intro bv s σ H Q I ⟨Z,O,E,hq⟩;refine IZ ha hb bv s σ H Q I ?_
 obtain⟨Z1,O1,E1,h1⟩:=bj E hq;refine⟨Z1,O1,E1,Post.mono h1 λts H1 s1 q vs r=>?_⟩
 obtain⟨t',r',s',E',q'⟩:=q vs r
 split at q'
 ·exact⟨ZC,Rep.FB.mp r',by rw[if_pos rfl];exact⟨Z,O,E',q'⟩⟩
 ·exact⟨ZD,Rep.FB.mp r',by rw[if_neg N3];exact q' H1 (Same.refl H1) _ (Rep.bl_ ZD)⟩
 ·exact q'.elim
def q_or(ha:cQ X a fa)(hb:cQ X (.BoolOp .Or (b::rest) pos) fb):cQ X (.BoolOp .Or (a::b::rest) pos) (BJ fa fb):=by
 intro bv s σ H Q I ⟨Z,O,E,hq⟩;refine K7 ha hb bv s σ H Q I ?_
 obtain⟨Z1,O1,E1,h1⟩:=bj E hq;refine⟨Z1,O1,E1,Post.mono h1 λts H1 s1 q vs r=>?_⟩
 obtain⟨t',r',s',E',q'⟩:=q vs r
 split at q'
 ·exact⟨ZC,Rep.FB.mp r',by rw[if_pos rfl];exact q' H1 (Same.refl H1) _ (Rep.bl_ ZC)⟩
 ·exact⟨ZD,Rep.FB.mp r',by rw[if_neg N3];exact⟨Z,O,E',q'⟩⟩
 ·exact q'.elim
def KR(ha:cQ X a fa):cQ X (.UnaryOp .Not a pos) (o1 yH fa):=by
 intro bv s σ H Q I ⟨Z,O,E,hq⟩;refine IW ha bv s σ H Q I ?_
 obtain⟨Z1,O1,E1,h1⟩:=bj E hq;refine⟨Z1,O1,E1,Post.mono h1 λts H1 s1 q vs r=>?_⟩
 obtain⟨t',r',s',E',q'⟩:=q vs r;unfold yH at q'
 split at q'
 ·exact⟨_,Rep.FB.mp r',q' H1 (Same.refl H1) _ (Rep.bl_ _)⟩
 ·exact q'.elim
def qu(f:W6)(fa fb:W5)(Z:En):Rs T:=do
 let k <-f Z
 if k then fa Z else fb Z
def q_if(hc:xZ X c f)(ha:cQ X a fa)(hb:cQ X b fb):cQ X (.IfExp c a b pos) (qu f fa fb):=by
 intro bv s σ H Q I ⟨Z,O,E,hq⟩;refine CO hc ha hb bv s σ H Q I ?_
 obtain⟨Z1,O1,E1,h1⟩:=lY E hq;refine⟨Z1,O1,E1,Post.mono h1 λk H1 s1 q=>?_⟩
 obtain⟨s',E',q'⟩:=q
 cases k with
 |true=>rw[if_pos rfl];exact⟨Z,O,E',by simpa using q'⟩
 |false=>rw[if_neg N3];exact⟨Z,O,E',by simpa using q'⟩
end
end Tr
namespace HT
open PySem PyProof.Rows
def kZ{t:ZE}{items:Array NA}{Q:Bool->NB->Prop}(ht:WD s.heap t items)(h:Q ZC s):ZJ (ZK prog w) A (SB (.ref t)) Q E s:=by
 unfold SB;refine Nq (Qg ht.typeIs (Nz ?_))
 exact h
def getItem_tuple_whole{t sl:ZE}{items:Array NA}(ht:WD s.heap t items)(hs:s.heap.IsSliceOf sl vl vu .none)(pl:Va vl lo)(pu:Va vu hi)
  (hw:sIx items.size 0 lo=0/\sIx items.size items.size hi=items.size) (h:Q (.ref t) s):ZJ (ZK prog w) A (getItem (.ref t) (.ref sl)) Q E s:=by
 obtain⟨os,hos,hcs,hds⟩:=id hs
 have hTs:s.TypeIs (.ref sl) "slice":=⟨os,hos,hcs⟩;unfold getItem
 try with_reducible refine OJ ?_
 first|refine Nq (Nz ?_)|skip
 refine Nq (Vy ht.typeIs (by decide) ?_)
 refine Nq (Og (name:=NM "__getitem__") ht.typeIs OL
  (Ol OL ht.typeIs UN ?_ (Vb _ _)))
 show ZJ _ _ (SA (.ref t) >>= _) _ _ s
 refine Nq (Vc ht ?_)
 refine Nq (Qg hTs ?_)
 rw[if_pos (by decide)]
 refine Nq (iK hs pl pu ?_)
 have hyes:(((sIx items.size 0 lo:Nat):Int) == 0&&(1:Int) == 1&&(sIx items.size items.size hi - sIx items.size 0 lo) == items.size)=ZC:=by
  rw[hw.1,hw.2];simp
 show ZJ _ _ (if (((sIx items.size 0 lo:Nat):Int) == 0&&(1:Int) == 1&&(sIx items.size items.size hi - sIx items.size 0 lo) == items.size)=ZC then _ else _) _ _ s
 rw[if_pos hyes]
 first
  |refine Nq (kZ ht ?_)
  |refine kZ ht ?_
 try rw[if_pos rfl]
 first
  |exact Nq (Qa (Nz ⟨_,rfl,Nz h⟩))
  |exact Nq (Qa (Nq (Nz (Nz ⟨_,rfl,Nz h⟩))))
end HT
variable{i:Nat}
namespace Tr
open PySem PySem.Spec PyProof.Rows L2
variable{H:Hp}{O:Ow}{X:Cx}{Z:En}{e:ZG}{es:List ZG}{fa fb fc:W5}{l:List T}{p:Pos}{v:V}{vs:List V}{x:Str}{σ:L2.St}
section
variable {a b c:ZG}{pos:Pos}
theorem Reps.atI{i:Int}{t:T}(r:Reps K O H l vs)(e:L2.atI l i=ZA t):∃v,L2.atI vs i=ZA v/\Rep K O H t v:=by
 unfold L2.atI at e ⊢;rw[r.length]at e
 cases q:ixN vs.length i with
 |none=>rw[q]at e;cases e
 |some j=>
  rw[q]at e;obtain⟨v,e1,e2⟩:=r.get (i:=j) (t:=t) e;exact⟨v,e1,e2⟩
def aX(x y:T):Rs T:=match x.items,y with
 |some l,.int i=>match L2.atI l i with
  |some t=>.ok t
  |none=>.bad
 |_,_=>.bad
def q_ix(ha:cQ X a fa)(hb:cQ X b fb)(hs:autoParam (AH b) x_):cQ X (.Subscript a b pos) (o2 aX fa fb):=by
 intro bv s σ H Q I ⟨Z,O,E,hq⟩
 have h1:=bj E hq;refine Subscript_ (cF (ha bv s σ H _ I h1) λv s1 hh_=>?_)
 obtain⟨x,H1,I1,r1,t,rt,s',E',q1⟩:=hh_
 have h2:=bj (f:=fb) E' q1;refine cF (hb bv s1 σ H1 _ I1 h2) λu s2 hh_=>?_
 obtain⟨y,H2,I2,r2,t2,rt2,s'',E'',q2⟩:=hh_
 have rt':=rt.same s'';unfold aX at q2
 split at q2
 ·rename_i l i hl
  split at q2
  ·rename_i z hz
   have hy:=Rep.Da.mp rt2;refine JG a b bv s2 σ H2 x y v u Q I2 r1 r2 ?_ (hs _ _)
   cases t with
   |tup m=>
    cases hl;obtain⟨p,vs,e,n,q,rr⟩:=Rep.Fk.mp rt';obtain⟨w,ew,rw'⟩:=rr.atI hz
    exact .inr (.inl ⟨p,vs,i,w,e,hy,SqT.of q,ew,q2 H2 (Same.refl H2) _ rw'⟩)
   |lst m=>
    cases hl;obtain⟨p,vs,e,n,q,rr⟩:=Rep.Do.mp rt';obtain⟨w,ew,rw'⟩:=rr.atI hz
    exact .inl ⟨p,vs,i,w,e,hy,SqL.of q,ew,q2 H2 (Same.refl H2) _ rw'⟩
   |scr m=>
    cases hl;unfold Rep at rt';obtain⟨p,e,n,q⟩:=rt';obtain⟨w,ew,rw'⟩:=(Reps.ints (K:=X.K) (O:=O) (H:=H2) (ns:=m)).atI hz
    exact .inl ⟨p,_,i,w,e,hy,q,ew,q2 H2 (Same.refl H2) _ rw'⟩
   |_=>cases hl
  ·exact q2.elim
 ·exact q2.elim
def vk(l:List T)(lo hi:Option Int):List T:=(l.drop (HT.sIx l.length 0 lo)).take (HT.sIx l.length l.length hi - HT.sIx l.length 0 lo)
def Reps.cut(r:Reps K O H l vs)(lo hi:Option Int):Reps K O H (vk l lo hi) (xU vs lo hi):=by
 unfold vk xU;rw[r.length];exact(r.drop _).take _
def Bx(h:HT.sIx l.length 0 lo=0/\HT.sIx l.length l.length hi=l.length):vk l lo hi=l:=by
 unfold vk;rw[h.1,h.2];simp
def sl_tup_whole:SlR X (λx lo hi H Q=>∃a xs,x=.ref a/\SqT X.K H a xs/\(HT.sIx xs.length 0 lo=0/\HT.sIx xs.length xs.length hi=xs.length)/\Q (.ref a) H):=by
 intro bv s σ H x v vl vu lo hi sl Q I rx hs pl pu h;obtain⟨a,xs,rfl,hx,hw,q⟩:=h;cases rx;obtain⟨its,r,ht,hz⟩:=I.tuple hx
 have hlen:its.toArray.size=xs.length:=by rw[NP];exact r.length.symm
 refine⟨"tuple",_,OL.lookup,ht.typeIs,?_⟩
 exact HT.getItem_tuple_whole ht hs pl pu (by rw[hlen];exact hw) ⟨.ref a,H,I,rfl,q⟩
def pN(_:En):Rs (Option Int):=.ok ZB
def pS(f:W5)(Z:En):Rs (Option Int):=do
 let x <-f Z
 match x with
 |.int i=>.ok (ZA i)
 |_=>.bad
def tPO(X:Cx)(f:En->Rs (Option Int)):TO:=λσ H Q=>∃Z O,EnvO X.K O H Z σ/\Post X H (f Z) λb H'=>Q b H'
abbrev LU(X:Cx)(e:Option ZG)(f:En->Rs (Option Int)):Prop:=PO X e (tPO X f)
def FC:LU X ZB pN:=by
 intro bv s σ H Q I ⟨Z,O,E,hq⟩;exact FW bv s σ H Q I (hq H (Same.refl H))
def FA(ha:cQ X a fa):LU X (ZA a) (pS fa):=by
 intro bv s σ H Q I ⟨Z,O,E,hq⟩;refine FV ha bv s σ H Q I ?_
 obtain⟨Z1,O1,E1,h1⟩:=bj E hq;refine⟨Z1,O1,E1,Post.mono h1 λts H1 s1 q vs r=>?_⟩
 obtain⟨t',r',s',E',q'⟩:=q vs r
 split at q'
 ·exact⟨_,Rep.Da.mp r',q' H1 (Same.refl H1)⟩
 ·exact q'.elim
def slT(x:T)(lo hi:Option Int):Rs T:=match x with
 |.tup l=>.ok (.tup (vk l lo hi))
 |.lst l=>.ok (.lst (vk l lo hi))
 |_=>.bad
def sl(fe:W5)(fl fu:En->Rs (Option Int))(Z:En):Rs T:=do
 let x <-fe Z
 let l <-fl Z
 let u <-fu Z
 slT x l u
def vY{f:En->Rs (Option Int)}{k:Option Int->Rs α}{Q:α->Hp->Prop}(E:EnvO X.K O H Z σ)(h:Post X H (f Z >>= k) Q):
  tPO X f σ H λb H'=>Same H H'/\EnvO X.K O H' Z σ/\Post X H' (k b) Q:=
 ⟨Z,O,E,Post.mono h.bind λt H' s q=>⟨s,E.same s,q⟩⟩
def FJ{lo hi:Option ZG}{p2:Pos}{fl fu:En->Rs (Option Int)}(ha:cQ X a fa)(hl:LU X lo fl)(hu:LU X hi fu):cQ X (.Subscript a (.Slice lo hi ZB p2) pos) (sl fa fl fu):=by
 intro bv s σ H Q I ⟨Z,O,E,hq⟩;refine CM (sl_tup.or (sl_tup_whole.or Fg)) ha hl hu bv s σ H Q I ?_
 obtain⟨Z1,O1,E1,h1⟩:=bj E hq;refine⟨Z1,O1,E1,Post.mono h1 λts H1 s1 q vs r=>?_⟩
 obtain⟨t',r',s',E',q'⟩:=q vs r;obtain⟨Z2,O2,E2,h2⟩:=vY E' q';refine⟨Z2,O2,E2,Post.mono h2 λo1 H2 s2 q=>?_⟩
 obtain⟨s2',E2',q2⟩:=q;obtain⟨Z3,O3,E3,h3⟩:=vY E2' q2;refine⟨Z3,O3,E3,Post.mono h3 λo2 H3 s3 q=>?_⟩
 obtain⟨s3',E3',q3⟩:=q
 have rt:=(r'.same s2').same s3';unfold slT at q3
 split at q3
 ·rename_i l
  obtain⟨p,ws,e,n,q,rr⟩:=Rep.Fk.mp rt
  have hlen:=rr.length
  by_cases hw:HT.sIx ws.length 0 o1=0/\HT.sIx ws.length ws.length o2=ws.length
  ·refine .inr (.inl ⟨p,ws,e,SqT.of q,hw,?_⟩)
   rw[<-hlen]at hw;refine q3 H3 (Same.refl H3) _ ?_
   rw[Bx hw];exact Rep.Fk.mpr ⟨p,ws,rfl,n,q,rr⟩
  ·exact .inl ⟨p,ws,e,SqT.of q,hw,λp' hp=>q3 _ (aW hp _) _ (iN hp (E3'.fresh hp) (rr.cut o1 o2))⟩
 ·rename_i l
  obtain⟨p,ws,e,n,q,rr⟩:=Rep.Do.mp rt;exact .inr (.inr ⟨p,ws,e,SqL.of q,λp' hp=>q3 _ (aW hp _) _ (jT hp (E3'.fresh hp) (rr.cut o1 o2))⟩)
 ·exact q3.elim
def CallT(X:Cx)(f:NA)(g:List T->Rs T):Prop:=
 ∀(bv:W2)(s:NB)(σ:L2.St)(H:Hp)(O:Ow)(ts:List T)(vs:List V)(us:List NA)(Q:VK),Inv X bv σ H s->(∀p,H p=ZB->¬ O p)->Reps X.K O H ts vs->Vals vs us →
  Post X H (g ts) (λt H'=>∀v,Rep X.K O H' t v->Q v H')->ZJ (ZK X.prog X.w) X.A (call f us) (EP X bv σ Q) X.xe s
def CallT.of{f:NA}{r:List V->Hp->VK->Prop}(h:CallR X f r){g:List T->Rs T}
  (w:∀(H:Hp)(O:Ow)(ts:List T)(vs:List V)(Q:VK),(∀p,H p=ZB->¬ O p)->Reps X.K O H ts vs->Post X H (g ts) (λt H'=>∀v,Rep X.K O H' t v->Q v H')->r vs H Q):CallT X f g:=
 λbv s σ H O ts vs us Q I hf rs rv hp=>h bv s σ H vs us Q I rv (w H O ts vs Q hf rs hp)
def cl(g:List T->Rs T)(fs:W3)(Z:En):Rs T:=fs Z >>= g
variable {fs:W3}{id:String}{g:List T->Rs T}
def FL(hc:CallT X (.builtin id) g)(hm:X.mg x=ZB)(hv:Oq x=ZA (.builtin id))(ha:tD X (e::es) fs)(hg:autoParam (Gl X x) u_)(hn:autoParam (x≠ "__name__") s_)(hdb:autoParam ((x == ("__debug__" : Str))=ZD) s_)
  (he:autoParam (NZ (e::es) X.env=(ZD,eval e X.env)::NZ es X.env) u_) (hpl:autoParam ((backTo pos (NZ es X.env)).any (·.1)=ZD) u_):cQ X (.Call (.Name x p) (e::es) [] pos) (cl g fs):=by
 intro bv s σ H Q I ⟨Z,O,E,hq⟩;refine OS (fR I hg hm hv ?_ hn hdb)
 have h1:=fq E hq;exact Qy (cF (ha pos bv s σ H _ I h1) λus s1 ⟨vs,H1,I1,r1,ts,rs,s',E',q1⟩=>hc bv s1 σ H1 O ts vs us Q I1 (λp=>E'.fresh) rs r1 q1) he hpl
def CB(hc:CallT X (.type Ty) g)(hm:X.mg x=ZB)(hv:Oq x=ZA (.type Ty))(ha:tD X (e::es) fs)(hg:autoParam (Gl X x) u_)(hn:autoParam (x≠ "__name__") s_)(hdb:autoParam ((x == ("__debug__" : Str))=ZD) s_)
  (he:autoParam (NZ (e::es) X.env=(ZD,eval e X.env)::NZ es X.env) u_) (hpl:autoParam ((backTo pos (NZ es X.env)).any (·.1)=ZD) u_):cQ X (.Call (.Name x p) (e::es) [] pos) (cl g fs):=by
 intro bv s σ H Q I ⟨Z,O,E,hq⟩;refine OS (fR I hg hm hv ?_ hn hdb)
 have h1:=fq E hq;exact On (cF (ha pos bv s σ H _ I h1) λus s1 ⟨vs,H1,I1,r1,ts,rs,s',E',q1⟩=>hc bv s1 σ H1 O ts vs us Q I1 (λp=>E'.fresh) rs r1 q1) he hpl
def Reps.one{t:T}(r:Reps K O H [t] vs):∃v,vs=[v]/\Rep K O H t v:=by
 obtain⟨v,ws,rfl,p,q⟩:=Reps.me.mp r;cases Reps.AC.mp q;exact⟨v,rfl,p⟩
def Rep.sq{t:T}(r:Rep K O H t v)(h:t.items=ZA l):∃a vs,v=.ref a/\¬ O a/\Reps K O H l vs/\(SqL K H a vs\/SqT K H a vs):=by
 cases t with
 |tup m=>cases h;obtain⟨a,vs,e,n,q,z⟩:=Rep.Fk.mp r;exact⟨a,vs,e,n,z,.inr (SqT.of q)⟩
 |lst m=>cases h;obtain⟨a,vs,e,n,q,z⟩:=Rep.Do.mp r;exact⟨a,vs,e,n,z,.inl (SqL.of q)⟩
 |scr m=>cases h;unfold Rep at r;obtain⟨a,e,n,q⟩:=r;exact⟨a,_,e,n,Reps.ints,.inl q⟩
 |_=>cases h
def dh:List T->Rs T
 |[.str x] =>if x.length<=ZI then .ok (.int x.length)else .bad
 |[x] =>match x.items with
  |some l=>.ok (.int l.length)
  |none=>.bad
 |_=>.bad
def dJ:CallT X (.builtin "len") dh:=CallT.of (call_len_seq.or vq) λH O ts vs Q hf rs hp=>by
 unfold dh at hp
 split at hp
 ·obtain⟨v,rfl,r⟩:=rs.one
  split at hp
  ·rename_i h
   exact .inr ⟨_,by rw[Rep.GM.mp r],h,hp H (Same.refl H) _ (Rep.GE _)⟩
  ·exact hp.elim
 ·obtain⟨v,rfl,r⟩:=rs.one
  split at hp
  ·rename_i l hl
   obtain⟨a,vs,rfl,n,z,q⟩:=r.sq hl;exact .inl ⟨a,vs,rfl,q,hp H (Same.refl H) _ (by rw[<-z.length];exact Rep.GE _)⟩
  ·exact hp.elim
 ·exact hp.elim
def fN:List T->Rs T
 |[.tup l] =>.ok (.tup l)
 |[.lst l] =>.ok (.tup l)
 |_=>.bad
def iY:CallT X (.type "tuple") fN:=CallT.of rL λH O ts vs Q hf rs hp=>by
 unfold fN at hp
 split at hp
 ·obtain⟨v,rfl,r⟩:=rs.one
  obtain⟨a,ws,rfl,n,q,z⟩:=Rep.Fk.mp r;exact⟨a,ws,rfl,.inr ⟨SqT.of q,hp H (Same.refl H) _ (Rep.Fk.mpr ⟨a,ws,rfl,n,q,z⟩)⟩⟩
 ·obtain⟨v,rfl,r⟩:=rs.one
  obtain⟨a,ws,rfl,n,q,z⟩:=Rep.Do.mp r;exact⟨a,ws,rfl,.inl ⟨SqL.of q,λl hl=>hp _ (aW hl _) _ (iN hl (hf l hl) z)⟩⟩
 ·exact hp.elim
def DI:List T->Rs T
 |[.int i] =>.ok (.int i)
 |[.bl k] =>.ok (.int (if k then 1 else 0))
 |_=>.bad
def J2:CallT X (.type "int") DI:=CallT.of BC λH O ts vs Q hf rs hp=>by
 unfold DI at hp
 split at hp
 ·obtain⟨v,rfl,r⟩:=rs.one
  exact .inl ⟨_,by rw[Rep.Da.mp r],hp H (Same.refl H) _ (Rep.GE _)⟩
 ·obtain⟨v,rfl,r⟩:=rs.one
  exact .inr ⟨_,by rw[Rep.FB.mp r],hp H (Same.refl H) _ (Rep.GE _)⟩
 ·exact hp.elim
def qG:List T->Option (List Bool)
 |[] =>ZA []
 |.bl k::r=>(qG r).map (k:: ·)
 |_=>ZB
def rM:List T->Rs T
 |[.lst l] =>match qG l with
  |some ks=>.ok (.bl (ks.all λk=>k))
  |none=>.bad
 |_=>.bad
theorem qF:∀{l:List T}{ks:List Bool}{vs:List V}{us:List NA},qG l=ZA ks->Reps K O H l vs->Vals vs us->us=ks.map Pb
 |[],ks,vs,us,e,r,v=>by cases e;cases Reps.AC.mp r;cases v;rfl
 |t::l,ks,vs,us,e,r,v=>by
  obtain⟨w,ws,rfl,p,q⟩:=Reps.me.mp r
  cases t with
  |bl k=>
   unfold qG at e
   cases z:qG l with
   |none=>rw[z]at e;cases e
   |some ks'=>
    rw[z]at e;cases e
    cases v with
    |cons v1 v2=>
     cases Rep.FB.mp p;cases v1
     rw[qF z q v2];rfl
  |_=>cases e
def vm(hc:X.calm=ZC):CallT X (.builtin "all") rM:=by
 intro bv s σ H O ts vs us Q I hf rs rv hp;unfold rM at hp
 split at hp
 ·obtain⟨v,rfl,r⟩:=rs.one
  split at hp
  ·rename_i ks hk
   obtain⟨a,ws,rfl,n,q,z⟩:=Rep.Do.mp r;obtain⟨u,rfl,ru⟩:=kY rv;cases ru;obtain⟨its,r',pl,hz⟩:=I.list (SqL.of q)
   have hits:=qF hk z r';refine call_all_walk (Q7 pl.isList ?_)
   have hne:a≠s.heap.objs.size:=λe=>by
    obtain⟨o,ho,_⟩:=pl.isList;rw[e]at ho;exact absurd (NJ ho) (N4 _)
   refine⟨s.heap.objs.size,_,_,_,_,_,λi=>(ks[i]?).getD ZC,rfl,Walks.list (A:=X.A.in1) (I.ok.hd hc) s.heap.objs.size a hne its.toArray,⟨⟨_,NI _ rfl,rfl,rfl⟩,?_⟩,?_,?_⟩
   ·obtain⟨o,ho,hh⟩:=pl.isList
    exact⟨o,Nr _ ho,hh⟩
   ·intro i v s' Q' E' hP hQ'
    subst hits
    dsimp only at hQ'
    have hP':(ks.map Pb)[i]?=ZA v:=by simpa using hP
    rw[NU]at hP'
    cases e:ks[i]? with
    |none=>rw[e]at hP';cases hP'
    |some k=>
     rw[e]at hP' hQ';cases hP';exact OY hQ'
   ·intro h' tk hk'
    have hlen:its.toArray.size=ks.length:=by rw[hits];simp
    have e:((OU its.toArray.size).all λi=>(ks[i]?).getD ZC)=(ks.all λk=>k):=by
     rw[hlen];rw[Bool.eq_iff_iff,N9,N9]
     constructor
     ·intro h x hx
      obtain⟨i,hi,rfl⟩:=QD hx
      have:=h i (Pa.mpr hi)
      simpa [hi]using this
     ·intro h i hi
      have hi':=Pa.mp hi
      have:=h ks[i] (OG hi')
      simpa [hi']using this
    rw[e]
    have I1:Inv X bv σ H {s with heap:=s.heap.push {cls:=.type "list_iterator",data:=.fields #[.ref a,.int 0 0]}}:=I.kept (t':=s.toks) λb o e=>Nr _ e
    have I2:Inv X bv σ H {s with heap:=h',toks:=tk}:=by
     have:=I1.turned (h':=h') (t':=tk) (it:=s.heap.objs.size) (λb o hb e=>hk' b o (by simpa using hb) e) (I.hok.fresh (NL _))
      (Qz I.lt) (.inr I.sz) (λx c e z=>?_) (λp hp z=>?_)
     ·exact this
     ·obtain⟨v,q⟩:=I.cell x c e
      exact absurd (NK q.lt (PV z.symm)) (N4 _)
     ·exact absurd (NK (NJ (I.pin p hp).1) (PV z.symm)) (N4 _)
    exact⟨.bl _,H,I2,rfl,hp H (Same.refl H) _ (Rep.bl_ _)⟩
  ·exact hp.elim
 ·exact hp.elim
end
def T.ty:T->Option String
 |.non=>ZA "NoneType"
 |.bl _=>ZA "bool"
 |.int _=>ZA "int"
 |.str _=>ZA "str"
 |.tup _=>ZA "tuple"
 |.lst _=>ZA "list"
 |.scr _=>ZB
 |.dct _ _=>ZB
 |.ob _ _ _=>ZB
def xM(i b t l s:Bool)(Ty:String):Option Bool:=match Ty with
 | "int" =>ZA i| "bool" =>ZA b| "tuple" =>ZA t| "list" =>ZA l| "str" =>ZA s
 |_=>ZB
def An(n Ty:String):Option Bool:=match n with
 | "NoneType" =>xM ZD ZD ZD ZD ZD Ty
 | "bool" =>xM ZC ZC ZD ZD ZD Ty
 | "int" =>xM ZC ZD ZD ZD ZD Ty
 | "str" =>xM ZD ZD ZD ZD ZC Ty
 | "tuple" =>xM ZD ZD ZC ZD ZD Ty
 | "list" =>xM ZD ZD ZD ZC ZD Ty
 |_=>ZB
def Bm(K:Nt){n:String}(h:An n Ty=ZA b):PySem.W.kitOne K (.type n) (.type Ty)=ZA b:=by
 unfold An at h
 split at h <;> first| (cases h;done)| (unfold xM at h;split at h <;> first| (cases h;done)| (cases h;kernel_rfl))
def Gv(Ty:String)(t:T):Rs T:=match t.ty with
 |some n=>match An n Ty with
  |some b=>.ok (.bl b)
  |none=>.bad
 |none=>.bad
def Rep.Nk{t:T}{n:String}(r:Rep K O H t v)(h:t.ty=ZA n):nG K H v (.type n):=by
 cases t with
 |non=>cases h;cases Rep.KF.mp r;exact .non
 |bl b=>cases h;cases Rep.FB.mp r;exact .bl b
 |int b=>cases h;cases Rep.Da.mp r;exact .int b
 |str b=>cases h;cases Rep.GM.mp r;exact .str b
 |tup l=>cases h;obtain⟨a,vs,rfl,_,q,_⟩:=Rep.Fk.mp r;exact .tup q
 |lst l=>cases h;obtain⟨a,vs,rfl,_,q,_⟩:=Rep.Do.mp r;exact .lst q
 |scr l=>cases h
 |dct _ _=>cases h
 |ob _ _ _=>cases h
variable{H':Hp}{M:Mn}{O':Ow}{g:T->En->Rs En}{gs:List T->En->Rs En}{iter tg:ZG}{bv:W2}{ps:List Str}
section
variable {a b c:ZG}{fs:W3}{pos p2:Pos}
def oy:Oq "isinstance" =ZA (.builtin "isinstance"):=by decide+kernel
def KY{tn:Str}(hm:X.mg "isinstance" =ZB)(hmt:X.mg tn=ZB)(hv:Oq tn=ZA (.type Ty))(ha:cQ X a fa)(hg:autoParam (Gl X "isinstance") u_)(hgt:autoParam (Gl X tn) u_)
  (hn:autoParam (tn≠ "__name__") s_) (hd:autoParam ((tn == ("__debug__" : Str))=ZD) s_)
  (he:autoParam (NZ [a,.Name tn p2] X.env=(ZD,eval a X.env)::NZ [.Name tn p2] X.env) u_) (hpl:autoParam ((backTo pos (NZ [.Name tn p2] X.env)).any (·.1)=ZD) u_)
  (hs:autoParam (NZ [.Name tn p2] X.env=(ZD,eval (.Name tn p2) X.env)::NZ [] X.env) u_):
  cQ X (.Call (.Name "isinstance" p) [a,.Name tn p2] [] pos) (o1 (Gv Ty) fa):=by
 intro bv s σ H Q I ⟨Z,O,E,hq⟩;refine OS (fR I hg hm oy ?_ (by decide) (by decide))
 have hA:PA X [a,.Name tn p2] (lZ (tP X fa) (lZ (tC (.ty Ty)) B7)):=fx ha (fx (F6 (v:=.ty Ty) hgt hmt hv rfl hn hd) jV hs) he;obtain⟨Z1,O1,E1,h1⟩:=bj E hq;refine Qy (cF (hA pos bv s σ H (λvs H'=>∃v t,vs=[v,.ty Ty]/\Rep X.K O H' t v/\Post X H' (Gv Ty t) (λt H'=>∀v,Rep X.K O H' t v->Q v H')) I ?_) λus s1 ⟨vs,H1,I1,r1,v,t,e1,rt,q⟩=>?_) he hpl
 ·refine⟨Z1,O1,E1,Post.mono h1 λts H1 s1 q vs r=>?_⟩
  obtain⟨t',r',s',E',q'⟩:=q vs r;exact⟨vs,t',rfl,r',q'⟩
 ·subst e1
  obtain⟨u,w',rfl,ru,rw'⟩:=B1 r1;cases rw';unfold Gv at q
  split at q
  ·rename_i n hn'
   split at q
   ·rename_i bb hb
    exact Bk I1 ru (rt.Nk hn') (Bm _ hb) λtk=>⟨.bl bb,H1,I1.tok _,rfl,q H1 (Same.refl H1) _ (Rep.bl_ _)⟩
   ·exact q.elim
  ·exact q.elim
def spP(K:Nt)(n:Nat)(g:List T->Rs T):Sp:=λvs H Q _=>∃ts O,Reps K O H ts vs/\(∀a,O a->Mtb H a)/\ts.length=n ∧
 match g ts with
 |.ok t=>∀v H',Same H H'->Rep K O H' t v->Q v H'
 |_=>False
def RzC(P:N1)(w:OF)(mg:W0)(outer:List Env)(H:Hp)(s:NB)(c:Str)(ev:NA)(s':NB):Prop:=
 ∃e T C H',ev=.ref e/\mg c=ZA (.ref C)/\s'.os=s.os/\To s'.gens/\Un (u9 outer) [] H H' s.heap s'.heap/\HOk P w H' s'.heap/\Same H H'/\H' e=ZB/\s.heap.get? e=ZB/\Mj s'.heap C e (ZA T)/\H' T=ZB/\s.heap.get? T=ZB
def FnX(P:N1)(w:OF)(K:Nt)(mg:W0)(base:ZH)(k:Nat)(f:ZE)(fd:PN)(ps:List Str)(n:Nat)(g:List T->Rs T):Prop:=
 ∀(A:Os)(outer:List Env)(s:NB)(H:Hp)(args:Args)(us:List NA)(vs:List V)(O:Ow)(ts:List T)(c:Str)(R:Wv->NB->Prop),Room k A->EC P w K mg base A outer s H->Vx s fd args (ps.zip us)->Vals vs us →
  Reps K O H ts vs->(∀a,O a->Mtb H a)->ts.length=n->g ts=.err c->(∀ev s',RzC P w mg outer H s c ev s'->R (.error ev) s')->ZL (ZK P w) A (.call (.ref f) args) R s
structure J9 (P:N1)(w:OF)(K:Nt)(mg:W0)(base:ZH)(k:Nat)(f:ZE)(fd:PN)(ps:List Str)(n:Nat)(g:List T->Rs T):Prop where
 h:vG P w K mg base CX0 k f fd ps (spP K n g)
 x:FnX P w K mg base k f fd ps n g
def C0{h:ZH}{a:ZE}{o:HO}(x:ObjOk P w H h a o):∃u,h.get? a=ZA u:=by
 cases o with
 |lst xs=>obtain⟨_,_,_,_,e⟩:=x;exact⟨_,e⟩
 |tup xs=>obtain⟨_,_,_,ob,e,_⟩:=x;exact⟨_,e⟩
 |dK kvs=>obtain⟨_,_,_,_,o,_,_,e,_⟩:=x;exact⟨_,e⟩
 |dT kvs=>obtain⟨_,_,_,_,o,_,_,e,_⟩:=x;exact⟨_,e⟩
 |set S n=>obtain⟨o,_,_,_,e,_⟩:=x;exact⟨_,e⟩
 |ins C dx fs=>obtain⟨_,_,_,e,_⟩:=x;exact⟨_,e⟩
 |own y=>obtain⟨_,e⟩:=x;exact⟨_,e⟩
 |xd fs=>obtain⟨_,⟨_,_,_,e,_⟩,_⟩:=x;exact⟨_,e⟩
 |rng lo hi=>obtain⟨_,_,_,e⟩:=x;exact⟨_,e⟩
 |frz ob u=>obtain⟨e,_⟩:=x;exact⟨_,e⟩
 |tbl ps=>exact⟨_,(show h.get? a=ZA _ from x)⟩
 |met f y=>exact⟨_,(show h.get? a=ZA _ from x)⟩
 |ext φ=>obtain⟨_,⟨_,e⟩,_⟩:=x;exact⟨_,e⟩
def wY(I:Inv X bv σ H s){e:ZE}(n:s.heap.get? e=ZB):H e=ZB:=by
 cases z:H e with
 |none=>rfl
 |some o=>
  obtain⟨o',ho'⟩:=C0 (I.hok e o z);rw[n]at ho';cases ho'
def uC(I:Inv X bv σ H s)(hex:X.ex=[]){e:ZE}(n:s.heap.get? e=ZB):X.s₀.heap.get? e=ZB:=by
 cases z:X.s₀.heap.get? e with
 |none=>rfl
 |some o=>
  obtain⟨o',ho'⟩:=I.base.there e o z (by rw[hex];simp)
  rw[n]at ho';cases ho'
def IG{k:Nat}{f:ZE}{g:List T->Rs T}(F:J9 X.prog X.w X.K X.mg X.base k f fd ps n g)(hr:Room k X.A)(hm:X.mg x=ZA (.ref f))(hk:RX X.K (.ref f)=ZC)(hb:Binds X.K fd ps [])(hps:ps.length=n)
  (hl:∀Z ts,fs Z=.ok ts->ts.length=n) (ha:tD X (e::es) fs) (hg:autoParam (Gl X x) u_) (hdb:autoParam ((x == ("__debug__" : Str))=ZD) s_) (he:autoParam (NZ (e::es) X.env=(ZD,eval e X.env)::NZ es X.env) u_) (hpl:autoParam ((backTo pos (NZ es X.env)).any (·.1)=ZD) u_):
  cQ X (.Call (.Name x p) (e::es) [] pos) (cl g fs):=by
 intro bv s σ H Q I ⟨Z,O,E,hq⟩
 have hq':Post X H (fs Z >>= g) λt H'=>∀v,Rep X.K O H' t v->Q v H':=hq
 cases q:fs Z with
 |bad=>rw[q]at hq';exact hq'.elim
 |err c=>
  rw[q]at hq';refine zN (E:=E0) F.h hr hg hm hk hb .nil Ho ha hdb he hpl bv s σ H Q I ⟨Z,O,E,?_⟩
  rw[q]
  exact hq'
 |ok ts=>
  rw[q]at hq'
  have hq2:Post X H (g ts) λt H'=>∀v,Rep X.K O H' t v->Q v H':=hq'
  cases q2:g ts with
  |bad=>rw[q2]at hq2;exact hq2.elim
  |ok t=>
   rw[q2]at hq2;refine zN (E:=E0) F.h hr hg hm hk hb .nil Ho ha hdb he hpl bv s σ H Q I ⟨Z,O,E,?_⟩
   rw[q];intro H1 s1 vs rs;rw[OH];refine⟨ts,O,rs,(E.same s1).mtb,hl Z ts q,?_⟩
   rw[q2]
   exact λv H' s2 r=>hq2 H' (s1.trans s2) v r
  |err c=>
   rw[q2]at hq2;refine OS (oF I hg hm ?_ hdb)
   refine UR (h₀:=X.base) I.ok.mod.kin hk (cF (ha pos bv s σ H (λvs H'=>Same H H'/\Reps X.K O H' ts vs) I ⟨Z,O,E,?_⟩) (λus s1 ⟨vs,H1,I1,r,sm,rs⟩=>⟨I1.kIn,?_⟩)) he hpl
   ·rw[q];exact λH' sm vs rs=>⟨sm,rs⟩
   ·have hlen:us.length=ps.length:=by rw[<-r.length,<-rs.length,hl Z ts q,hps]
    have hb':=hb s1 us I1.kIn (by rw[OH];exact hlen)
    rw[OH]at hb';refine wpAny_call (Uc (F.x X.A X.stack s1 H1 ⟨us,[]⟩ us vs O ts c (λr s'=>match r with|.error ev=>X.xe ev s'|_=>False) hr I1.Nh hb' r rs (E.same sm).mtb (hl Z ts q) q2 λev s' w=>?_) λr s' hq=>?_)
    ·obtain⟨ea,T,C,H',rfl,hmc,ho,hbare,hun,hok,sm2,hea,heo,fl,hT,hTo⟩:=w
     have I2:Inv X bv σ H' s':=I1.MN ho hun hok hbare (λb z=>absurd z (by simp))
     exact hq2 bv _ _ ⟨ea,ZA T,C,σ,H',rfl,hmc,I2,λb o q _=>sm2 b o (sm b o q),hea,λhex=>uC I1 hex heo,fl,(λt zt=>by cases zt;exact⟨hT,λhex=>uC I1 hex hTo⟩),λpp hpp=>⟨λzz=>(by have:=(I1.pin pp hpp).1;rw[zz,heo]at this;cases this),λzz=>(by cases zz;have:=(I1.pin pp hpp).1;rw[hTo]at this;cases this)⟩⟩
    ·cases r with
     |error ev=>exact hq
     |ok fl=>exact hq.elim
def AU(X:Cx)(g:T->En->Rs En):TG:=λv σ H Q=>∃Z O M t,EnvM X.K O M H Z σ/\Rep X.K O H t v/\match g t Z with
 |.ok Z'=>∀σ',EnvM X.K O M H Z' σ'->Q σ' H
 |_=>False
abbrev Ey(X:Cx)(tg:ZG)(g:T->En->Rs En):Prop:=PG X tg (AU X g)
def tPGs(X:Cx)(g:List T->En->Rs En):GX:=λvs σ H Q=>∃Z O M ts,EnvM X.K O M H Z σ/\Reps X.K O H ts vs/\match g ts Z with
 |.ok Z'=>∀σ',EnvM X.K O M H Z' σ'->Q σ' H
 |_=>False
abbrev Ez(X:Cx)(tg:List ZG)(g:List T->En->Rs En):Prop:=PGs X tg (tPGs X g)
def PG.imp{t t':TG}(h:PG X e t)(w:∀v σ H Q,t' v σ H Q->t v σ H Q):PG X e t':=λbv s σ H v u Q I r q=>h bv s σ H v u Q I r (w v σ H Q q)
def PGs.imp{e:List ZG}{t t':GX}(h:PGs X e t)(w:∀v σ H Q,t' v σ H Q->t v σ H Q):PGs X e t':=λbv s σ H v u Q I r q=>h bv s σ H v u Q I r (w v σ H Q q)
def gN(i:Nat)(t:T)(Z:En):Rs En:=if i<Z.length then .ok (Z.set i (.va t))else .bad
def EnvM.set{t:T}(E:EnvM K O M H Z σ)(hi:i<Z.length)(r:Rep K O H t v):EnvM K O M H (Z.set i (.va t)) (σ.set i (ZA v)) where
 len:=by rw[OC,OC];exact E.len
 val:=λj u e=>by
  by_cases hj:i=j
  ·subst hj
   rw[NV hi]at e
   cases e;exact⟨v,NV (by rw[<-E.len];exact hi),r⟩
  ·rw[NW hj]at e
   obtain⟨w,e1,e2⟩:=E.val j u e;exact⟨w,by rw[NW hj];exact e1,e2⟩
 own:=λj o e=>by
  by_cases hj:i=j
  ·subst hj
   rw[NV hi]at e
   cases e
  ·rw[NW hj]at e
   obtain⟨w,e1,e2⟩:=E.own j o e;exact⟨w,by rw[NW hj];exact e1,e2⟩
 sub:=E.sub
 dis:=E.dis
 trk:=E.trk
def FH(i:Nat)(hN:X.N.Nodup)(hi:autoParam (X.N[i]?=ZA x) u_)(hx:autoParam (Loc X.env.scope x) y_)(hf:autoParam (X.fn x=ZC\/X.env.scope.names.lookup x=ZA .local) r_):Ey X (.Name x pos) (gN i):=
 PG.imp (F2 hN hi hx hf) λv σ H Q hh_=>by
  obtain⟨Z,O,M,t,E,r,h⟩:=hh_;unfold gN at h
  split at h
  ·rename_i Z' e
   split at e
   ·rename_i hl
    cases e;exact h _ (E.set hl r)
   ·cases e
  ·exact h.elim
def jh(ts:List T)(Z:En):Rs En:=match ts with
 |[] =>.ok Z
 |_=>.bad
def du(g:T->En->Rs En)(gs:List T->En->Rs En)(ts:List T)(Z:En):Rs En:=match ts with
 |t::r=>do
  let Z1 <-g t Z
  gs r Z1
 |[] =>.bad
def FG:Ez X [] jh:=PGs.imp F1 λvs σ H Q hh_=>by
 obtain⟨Z,O,M,ts,E,r,h⟩:=hh_;unfold jh at h
 cases ts with
 |nil=>exact⟨Reps.AC.mp r,h σ E⟩
 |cons _ _=>exact h.elim
def Cz(h1:Ey X e g)(h2:Ez X es gs)
  (hs:autoParam ((Pv (e::es) X.env).map (·.2)=assign e X.env::(Pv es X.env).map (·.2)) u_):Ez X (e::es) (du g gs):=
 PGs.imp (CL h1 h2 hs) λvs σ H Q hh_=>by
  obtain⟨Z,O,M,ts,E,r,h⟩:=hh_
  cases ts with
  |nil=>exact h.elim
  |cons t ts=>
   obtain⟨v,ws,rfl,p,q⟩:=Reps.me.mp r;refine⟨v,ws,rfl,Z,O,M,t,E,p,?_⟩
   unfold du at h
   cases e1:g t Z with
   |bad=>simp[e1]at h
   |err c=>simp[e1]at h
   |ok Z1=>
    intro σ1 E1;refine⟨Z1,O,M,ts,E1,q,?_⟩
    simp only[e1,aF]at h
    cases e2:gs ts Z1 with
    |bad=>simp[e2]at h
    |err c=>simp[e2]at h
    |ok Z2=>
     simp only[e2]at h;exact λσ2 E2=>h σ2 E2
def gT(n:Nat)(gs:List T->En->Rs En)(t:T)(Z:En):Rs En:=match t with
 |.tup l=>if l.length=n then gs l Z else .bad
 |_=>.bad
def IA{k:Nat}(hc:X.calm=ZC)(h:Ez X es gs)(hn:autoParam ((Pv es X.env).length=n) u_)(hst:autoParam ((Pv es X.env).findIdx? (·.1)=ZB) u_):Ey X (.Tuple es k pos) (gT n gs):=
 PG.imp (IT hc h hn hst) λv σ H Q hh_=>by
  obtain⟨Z,O,M,t,E,r,h⟩:=hh_;unfold gT at h
  cases t with
  |tup l=>
   obtain⟨a,vs,rfl,n',q,z⟩:=Rep.Fk.mp r
   by_cases hl:l.length=n
   ·simp only[if_pos hl]at h
    exact⟨a,vs,rfl,SqT.of q,by rw[<-z.length];exact hl,Z,O,M,l,E,z,h⟩
   ·simp only[if_neg hl]at h
  |_=>exact h.elim
def SqL.nn{a:ZE}(q:SqL K H a vs):¬ Nw K H a:=λ⟨h1,h2⟩=>by
 rcases q with(q|⟨o,q⟩)|⟨o,_,_,q,_⟩
 ·rw[h1]at q;cases q
 ·rw[h1]at q;cases q
 ·rw[h2]at q;cases q
mutual
theorem Rep.more{K:Nt}{O O':Ow}{H:Hp}(sub:∀a,O' a->O a\/Nw K H a):∀{t:T}{v:V},Rep K O H t v->Rep K O' H t v
 |.non,_,r=>by unfold Rep at r ⊢;exact r
 |.bl _,_,r=>by unfold Rep at r ⊢;exact r
 |.int _,_,r=>by unfold Rep at r ⊢;exact r
 |.str _,_,r=>by unfold Rep at r ⊢;exact r
 |.tup l,_,r=>by
  unfold Rep at r ⊢;obtain⟨a,vs,e,n,q,z⟩:=r
  exact⟨a,vs,e,λp=>(sub a p).elim n λw=>(by rw[w.1]at q;cases q),q,Reps.more sub z⟩
 |.lst l,_,r=>by
  unfold Rep at r ⊢;obtain⟨a,vs,e,n,q,z⟩:=r
  exact⟨a,vs,e,λp=>(sub a p).elim n λw=>(by rw[w.1]at q;cases q),q,Reps.more sub z⟩
 |.scr l,_,r=>by
  unfold Rep at r ⊢;obtain⟨a,e,n,q⟩:=r
  exact⟨a,e,λp=>(sub a p).elim n λw=>Tr.SqL.nn q w,q⟩
 |.dct ks ts,_,r=>by
  unfold Rep at r ⊢;obtain⟨a,kvs,e,n,q,k,z⟩:=r
  exact⟨a,kvs,e,λp=>(sub a p).elim n λw=>(by rcases q with q|⟨_,q⟩ <;> rw[w.1]at q <;> cases q),q,k,Reps.more sub z⟩
 |.ob C ns ts,_,r=>by
  unfold Rep at r ⊢;obtain⟨a,dx,fs,e,n,q,k,z⟩:=r;exact⟨a,dx,fs,e,λp=>(sub a p).elim n λw=>(by rw[w.1]at q;cases q),q,k,Reps.more sub z⟩
theorem Reps.more{K:Nt}{O O':Ow}{H:Hp}(sub:∀a,O' a->O a\/Nw K H a):∀{l:List T}{vs:List V},Reps K O H l vs->Reps K O' H l vs
 |[],_,r=>by unfold Reps at r ⊢;exact r
 |t::l,_,r=>by
  unfold Reps at r ⊢;obtain⟨v,ws,e,p,q⟩:=r;exact⟨v,ws,e,Rep.more sub p,Reps.more sub q⟩
end
def Rep.move{P:Ow}{t:T}(hP:∀a,P a->O a\/Nw K H a)(hO:∀a,O' a->O a\/Nw K H a)(h:SameO P H H')(r:Rep K O H t v):Rep K O' H' t v:=
 Rep.less (O:=λa=>O' a\/P a) (λ_ z=>.inl z) (Rep.keep h (λ_ z=>.inr z) (Rep.more (λa z=>z.elim (hO a) (hP a)) r))
def Reps.move{P:Ow}{t:List T}{v:List V}(hP:∀a,P a->O a\/Nw K H a)(hO:∀a,O' a->O a\/Nw K H a)(h:SameO P H H')(r:Reps K O H t v):Reps K O' H' t v:=
 Reps.less (O:=λa=>O' a\/P a) (λ_ z=>.inl z) (Reps.keep h (λ_ z=>.inr z) (Reps.more (λa z=>z.elim (hO a) (hP a)) r))
def LW(K:Nt)(O:Ow)(H:Hp)(ts:List T)(J:It):Prop:=∀(P O':Ow),(∀a,P a->O a\/Nw K H a)->(∀a,O' a->O a\/Nw K H a)->∀(i:Nat)(Hc:Hp),SameO P H Hc->(∀a,O' a->∃o,Hc a=ZA o) →
 (ts.length<=i->J.stop i Hc)/\(∀t,ts[i]?=ZA t->J.go i Hc/\∀x Hc',J.yld i Hc x Hc'->Same Hc Hc'/\Rep K O' Hc' t x)
def L6(X:Cx)(f:W3):TI:=λσ H R=>∃Z O,EnvO X.K O H Z σ/\Post X H (f Z) λts H'=>∀J,LW X.K O H' ts J->R J H'
abbrev BO(X:Cx)(tg iter:ZG)(f:W3):Prop:=PI X tg iter (L6 X f)
def PI.imp{t t':TI}(h:PI X tg iter t)(w:∀σ H R,t' σ H R->t σ H R):PI X tg iter t':=λbv s σ H R I q=>h bv s σ H R I (w σ H R q)
def iL(f:W5)(Z:En):Rs (List T):=do
 let x <-f Z
 match x with
 |.lst l=>.ok l
 |_=>.bad
def iT(f:W5)(Z:En):Rs (List T):=do
 let x <-f Z
 match x with
 |.tup l=>.ok l
 |_=>.bad
def zJ(ha:cQ X a fa):BO X tg a (iL fa):=PI.imp (FZ ha) λσ H R hh_=>by
 obtain⟨Z,O,E,h⟩:=hh_;obtain⟨Z1,O1,E1,h1⟩:=bj E h;refine⟨Z1,O1,E1,Post.mono h1 λts H1 s1 q vs r=>?_⟩
 obtain⟨t',r',s',E',q'⟩:=q vs r
 split at q'
 ·rename_i l
  obtain⟨a,ws,rfl,n,q,z⟩:=Rep.Do.mp r';refine⟨a,rfl,⟨ws,SqL.of q⟩,q' H1 (Same.refl H1) _ λP O' hP hO i Hc hs ht=>?_⟩
  have hnP:¬ P a:=λz=>(hP a z).elim n λw=>by rw[w.1]at q;cases q
  refine⟨λhi=>⟨ws,SqL.of (hs _ _ q hnP),by rw[<-z.length];exact hi⟩,λt ht'=>?_⟩
  obtain⟨v,e1,e2⟩:=z.get ht';refine⟨⟨ws,v,SqL.of (hs _ _ q hnP),e1⟩,λx Hc' y=>?_⟩
  obtain⟨e,y⟩:=y;subst e
  have:=y ws (SqL.of (hs _ _ q hnP));rw[e1]at this;cases this;exact⟨Same.refl _,e2.move hP hO hs⟩
 ·exact q'.elim
def Iy(ha:cQ X a fa):BO X tg a (iT fa):=PI.imp (IS ha) λσ H R hh_=>by
 obtain⟨Z,O,E,h⟩:=hh_;obtain⟨Z1,O1,E1,h1⟩:=bj E h;refine⟨Z1,O1,E1,Post.mono h1 λts H1 s1 q vs r=>?_⟩
 obtain⟨t',r',s',E',q'⟩:=q vs r
 split at q'
 ·rename_i l
  obtain⟨a,ws,rfl,n,q,z⟩:=Rep.Fk.mp r';refine⟨a,rfl,⟨ws,SqT.of q⟩,q' H1 (Same.refl H1) _ λP O' hP hO i Hc hs ht=>?_⟩
  have hnP:¬ P a:=λz=>(hP a z).elim n λw=>by rw[w.1]at q;cases q
  refine⟨λhi=>⟨ws,SqT.of (hs _ _ q hnP),by rw[<-z.length];exact hi⟩,λt ht'=>?_⟩
  obtain⟨v,e1,e2⟩:=z.get ht';refine⟨⟨ws,v,SqT.of (hs _ _ q hnP),e1⟩,λx Hc' y=>?_⟩
  obtain⟨e,y⟩:=y;subst e
  have:=y ws (SqT.of (hs _ _ q hnP));rw[e1]at this;cases this;exact⟨Same.refl _,e2.move hP hO hs⟩
 ·exact q'.elim
def rng(lo hi:Int):List T:=(OU (hi - lo).toNat).map λ(k:Nat)=>T.int (lo+(k:Int))
def vJ(i:Int):Bool:=decide (-(2 ^ 62)<=i)&&decide (i<2 ^ 62)
def iR(f:W3)(Z:En):Rs (List T):=do
 let x <-f Z
 match x with
 |[.int j] =>if vJ j then .ok (rng 0 j)else .bad
 |[.int i,.int j] =>if vJ i&&vJ j then .ok (rng i j)else .bad
 |_=>.bad
def kL{i:Int}(h:vJ i=ZC): -(2 ^ 62)<=i/\i<2 ^ 62:=by
 unfold vJ at h;rw[NC]at h;exact⟨of_decide_eq_true h.1,of_decide_eq_true h.2⟩
def oG(lo hi:Int):LW K O H (rng lo hi) (Itr lo (hi - lo).toNat):=λP O' hP hO i Hc hs ht=>by
 refine⟨λh=>?_,λt h=>?_⟩
 ·show(hi - lo).toNat<=i
  unfold rng at h;rw[Ny,Pt]at h;exact h
 ·unfold rng at h
  rw[NU]at h
  by_cases hi':i<(hi - lo).toNat
  ·rw[List.getElem?_range hi']at h
   cases h;refine⟨hi',λx Hc' y=>?_⟩
   obtain⟨e,y⟩:=y;subst e y;exact⟨Same.refl _,Rep.GE _⟩
  ·rw[O7 (by simpa using hi')]at h
   cases h
def A0(hm:X.mg "range" =ZB)(ha:tD X [a] fs)(hg:autoParam (Gl X "range") u_)(hs:autoParam (NZ [a] X.env=[(ZD,eval a X.env)]) u_):BO X tg (.Call (.Name "range" p) [a] [] pos) (iR fs):=by
 intro bv s σ H R I ⟨Z,O,E,h⟩
 have h1:=fq E h;refine Call_ (fR I hg hm boot_range (On (cF (ha pos bv s σ H _ I h1) λus s1 ⟨vs,H1,I1,r1,ts,rs,s',E',q1⟩=>?_) hs rfl))
 split at q1
 ·obtain⟨v,rfl,r⟩:=rs.one
  split at q1
  ·rename_i j hj
   obtain⟨b1,b2⟩:=kL hj;cases Rep.Da.mp r
   cases r1 with
   |cons r rr=>
    cases rr;obtain⟨t,rfl⟩:=r;exact call_range_1 (mj I1 (by omega) (by omega) b1 b2 (q1 H1 (Same.refl H1) _ (oG 0 j)))
  ·exact q1.elim
 ·obtain⟨v,ws,rfl,p1,q⟩:=Reps.me.mp rs
  obtain⟨v2,rfl,r⟩:=q.one
  split at q1
  ·rename_i i j hj
   rw[NC]at hj;obtain⟨b1,b2⟩:=kL hj.1;obtain⟨b3,b4⟩:=kL hj.2;cases Rep.Da.mp p1;cases Rep.Da.mp r
   cases r1 with
   |cons r rr=>
    cases rr with
    |cons r' rr=>
     cases rr;obtain⟨t,rfl⟩:=r;obtain⟨t',rfl⟩:=r';exact call_range_2 (mj I1 b1 b2 b3 b4 (q1 H1 (Same.refl H1) _ (oG i j)))
  ·exact q1.elim
 ·exact q1.elim
def AZ(hm:X.mg "range" =ZB)(ha:tD X [a,b] fs)(hg:autoParam (Gl X "range") u_)(hs:autoParam (NZ [a,b] X.env=[(ZD,eval a X.env),(ZD,eval b X.env)]) u_)(hs2:autoParam (NZ [b] X.env=[(ZD,eval b X.env)]) u_):
  BO X tg (.Call (.Name "range" p) [a,b] [] pos) (iR fs):=by
 intro bv s σ H R I ⟨Z,O,E,h⟩
 have h1:=fq E h;refine Call_ (fR I hg hm boot_range (On (cF (ha pos bv s σ H _ I h1) λus s1 ⟨vs,H1,I1,r1,ts,rs,s',E',q1⟩=>?_) (by rw[hs,hs2]) (by rw[hs2];rfl)))
 split at q1
 ·obtain⟨v,rfl,r⟩:=rs.one
  split at q1
  ·rename_i j hj
   obtain⟨b1,b2⟩:=kL hj;cases Rep.Da.mp r
   cases r1 with
   |cons r rr=>
    cases rr;obtain⟨t,rfl⟩:=r;exact call_range_1 (mj I1 (by omega) (by omega) b1 b2 (q1 H1 (Same.refl H1) _ (oG 0 j)))
  ·exact q1.elim
 ·obtain⟨v,ws,rfl,p1,q⟩:=Reps.me.mp rs
  obtain⟨v2,rfl,r⟩:=q.one
  split at q1
  ·rename_i i j hj
   rw[NC]at hj;obtain⟨b1,b2⟩:=kL hj.1;obtain⟨b3,b4⟩:=kL hj.2;cases Rep.Da.mp p1;cases Rep.Da.mp r
   cases r1 with
   |cons r rr=>
    cases rr with
    |cons r' rr=>
     cases rr;obtain⟨t,rfl⟩:=r;obtain⟨t',rfl⟩:=r';exact call_range_2 (mj I1 b1 b2 b3 b4 (q1 H1 (Same.refl H1) _ (oG i j)))
  ·exact q1.elim
 ·exact q1.elim
end
variable{B:Ow}{D:qO}{N':List Str}{Q:VK}{body:List ZF}{f:W6}{fe:W5}{fi:W3}{ifs:List ZG}{st:ZF}{tgt:T->En->Rs En}
section
variable {a b c:ZG}{fs:W3}{pos p2:Pos}
def bV(src:List (Option Nat))(Z:En):En:=src.map λo=>match o with
 |some i=>match Z[i]? with
  |some (.va t)=>.va t
  |_=>.em
 |none=>.em
def dt(tgt:T->En->Rs En)(fc:W6)(fe:W5):List T->W3
 |[],_=>.ok []
 |t::r,Z=>do
  let Z1 <-tgt t Z
  let k <-fc Z1
  if k then do
   let y <-fe Z1
   let ys <-dt tgt fc fe r Z1
   .ok (y::ys)
  else dt tgt fc fe r Z1
def ee(fi:W3)(src:List (Option Nat))(tgt:T->En->Rs En)(fc:W6)(fe:W5)(Z:En):Rs T:=do
 let ts <-fi Z
 if ts.length<=ZI then match dt tgt fc fe ts (bV src Z)with
  |.ok ys=>.ok (.lst ys)
  |_=>.bad
 else .bad
def bT(_:En):Rs Bool:=.ok ZC
def tP0(K:Nt)(f:W5):TE:=λσ H Q=>∃Z O,EnvO K O H Z σ/\match f Z with
 |.ok t=>∀H',Same H H'->∀v,Rep K O H' t v->Q v H'
 |_=>False
def tPT0(K:Nt)(f:W6):TT:=λσ H Q=>∃Z O,EnvO K O H Z σ/\match f Z with
 |.ok t=>∀H',Same H H'->Q t H'
 |_=>False
def tP0.up{f:W5}(h:tP0 X.K f σ H Q):tP X f σ H Q:=by
 obtain⟨Z,O,E,h⟩:=h;refine⟨Z,O,E,?_⟩
 cases q:f Z with
 |ok t=>rw[q]at h;exact h
 |err c=>rw[q]at h;exact h.elim
 |bad=>rw[q]at h;exact h.elim
def tPT0.up{Q:Bool->Hp->Prop}(h:tPT0 X.K f σ H Q):zB X f σ H Q:=by
 obtain⟨Z,O,E,h⟩:=h;refine⟨Z,O,E,?_⟩
 cases q:f Z with
 |ok t=>rw[q]at h;exact h
 |err c=>rw[q]at h;exact h.elim
 |bad=>rw[q]at h;exact h.elim
def FE:AI X [] (zB X bT):=λbv s σ H Q I ⟨Z,O,E,h⟩=>uf bv s σ H Q I (h H (Same.refl H))
def FD(h:xZ X c f):AI X [c] (zB X f):=FX h
abbrev noM:Mn:=λ_ _=>False
def Bf{src:List (Option Nat)}{o:OT}(e:(bV src Z)[j]?=ZA (.ow o)):False:=by
 unfold bV at e;rw[NU]at e
 cases q:src[j]? with
 |none=>rw[q]at e;cases e
 |some o'=>
  rw[q]at e
  cases o' with
  |none=>cases e
  |some i=>
   have e':(match Z[i]? with|some (Sl.va t)=>Sl.va t|_=>Sl.em)=Sl.ow o:=Om e
   split at e' <;> cases e'
def xC(E:EnvO K O H Z σ)(src:List (Option Nat)):EnvM K O noM H (bV src Z) (gB src σ) where
 len:=by unfold bV gB;rw[Ny,Ny]
 val:=λj t e=>by
  unfold bV at e;unfold gB;rw[NU]at e ⊢
  cases q:src[j]? with
  |none=>rw[q]at e;cases e
  |some o=>
   rw[q]at e
   cases o with
   |none=>cases e
   |some i=>
    have e':(match Z[i]? with|some (Sl.va t)=>Sl.va t|_=>Sl.em)=Sl.va t:=Om e
    cases q2:Z[i]? with
    |none=>rw[q2]at e';cases e'
    |some z=>
     rw[q2]at e'
     cases z with
     |em=>cases e'
     |ow l=>cases e'
     |va t'=>
      cases e';obtain⟨v,e1,e2⟩:=E.val i _ q2;exact⟨v,by simp[e1],e2⟩
 own:=λj o e=>(Bf e).elim
 sub:=λ_ _ z=>z.elim
 dis:=λ_ _ _ z=>z.elim
 trk:=E.mtb
def ORep.no{o:OT}(r:ORep K O yJ H o v):False:=by
 cases o with
 |lst l=>obtain⟨a,_,_,e,_⟩:=r;exact(e a).mpr rfl
 |dct ks ts=>obtain⟨a,_,_,e,_⟩:=r;exact(e a).mpr rfl
 |dd ks rows=>obtain⟨a,_,_,_,e,_⟩:=r;exact(e a).mpr (.inl rfl)
 |ob C ns ls=>obtain⟨a,_,_,_,e,_⟩:=r;exact(e a).mpr (.inl rfl)
theorem EnvM.move{P:Ow}(E:EnvM K O noM H Z σ)(hP:∀a,P a->O a\/Nw K H a)(hO:∀a,O' a->O a\/Nw K H a)(h:SameO P H H')(trk:∀a,O' a->Mtb H' a):EnvM K O' noM H' Z σ where
 len:=E.len
 val:=λi t e=>let ⟨v,e1,e2⟩:=E.val i t e;⟨v,e1,e2.move hP hO h⟩
 own:=λi o e=>let ⟨_,_,r⟩:=E.own i o e;r.no.elim
 sub:=λ_ _ z=>z.elim
 dis:=λ_ _ _ z=>z.elim
 trk:=trk
def Kc(fi:W3)(src:List (Option Nat))(tgt:T->En->Rs En)(fc:W6)(fe:W5)(Z:En):Rs (List T):=fi Z >>= λts=>if ts.length<=ZI then(match dt tgt fc fe ts (bV src Z)with|.ok ys=>Rs.ok ys|_=>.bad)else .bad
def Dq{src:List (Option Nat)}{fc:W6}:ee fi src tgt fc fe Z=Kc fi src tgt fc fe Z >>= λl=>.ok (.lst l):=by
 unfold ee Kc
 cases fi Z with
 |bad=>rfl
 |err c=>rfl
 |ok ts=>
  rw[aF,aF]
  by_cases hz:ts.length<=ZI
  ·rw[if_pos hz,if_pos hz]
   cases dt tgt fc fe ts (bV src Z) <;> rfl
  ·rw[if_neg hz,if_neg hz];rfl
def Dp{src:List (Option Nat)}{fc:W6}(E:EnvO X.K O H Z σ)
  (hq1:Post X H (Kc fi src tgt fc fe Z) λall H1=>∀D ys H',Nw X.K H1 D->Same H1 H'->H' D=ZA (.lst ys)->Reps X.K (λa=>O a\/a=D) H' all ys->Q (.ref D) H'):HP X.K (L6 X fi) src (AU X tgt) (tPT0 X.K fc) (tP0 X.K fe) σ H Q:=by
 unfold Kc at hq1;refine⟨Z,O,E,Post.mono hq1.bind λts H1 s1 q1 J hJ D hD hK=>?_⟩
 have E1:=E.same s1
 by_cases hz:ts.length<=ZI
 ·rw[if_pos hz]at q1
  cases hall:dt tgt fc fe ts (bV src Z)with
  |bad=>rw[hall]at q1;exact q1.elim
  |err c=>rw[hall]at q1;exact q1.elim
  |ok all=>
   rw[hall]at q1
   have q2:∀D ys H',Nw X.K H1 D->Same H1 H'->H' D=ZA (.lst ys)->Reps X.K (λa=>O a\/a=D) H' all ys->Q (.ref D) H':=q1 H1 (Same.refl H1)
   have nD:Nw X.K H1 D:=⟨hD,hK⟩
   let O':Ow:=λa=>O a\/a=D
   have subO:∀a,O' a->O a\/Nw X.K H1 a:=λa z=>z.elim .inl λw=>.inr (w▸nD)
   refine⟨λi m σ' ys H'=>m=ts.length - i/\i<=ts.length/\ys.length<=i/\H' D=ZA (.lst ys)/\SameO (λa=>a=D) (upd H1 D (.lst [])) H' ∧
    ∃Z' yts zs,EnvM X.K O' noM H' Z' σ'/\Reps X.K O' H' yts ys/\dt tgt fc fe (ts.drop i) Z'=.ok zs/\yts++zs=all,⟨ts.length,?_⟩,?_⟩
   ·have sN:Same H1 (upd H1 D (.lst [])):=aW hD _
    refine⟨by omega,O4 _,NL _,aI,λb o e _=>e,bV src Z,[],all,?_,Reps.nil_,by simpa using hall,rfl⟩
    have E2:EnvM X.K O noM H1 (bV src Z) (gB src σ):=xC E1 src
    exact E2.move (P:=λa=>a=D) (λa z=>.inr (z▸nD)) subO (λb o e _=>sN b o e) λa z=>by
     rcases z with z|z
     ·exact(E1.mtb a z).same sN
     ·rw[z];exact .inl ⟨_,aI⟩
   ·rintro i m σ' ys H' ⟨rfl,hi',hyl,hDl,hsm,Z',yts,zs,E',ry,hl,hyz⟩
    refine⟨hDl,?_⟩
    have sm1:SameO (λa=>a=D) H1 H':=λb o e nb=>hsm b o (by rw[aG nb];exact e) nb
    have it:=hJ (λa=>a=D) O' (λa z=>.inr (z▸nD)) subO i H' sm1 (λa z=>(E'.trk a z).some)
    by_cases hlt:i<ts.length
    ·refine .inr ?_
     have hti:ts[i]?=ZA ts[i]:=by simp
     obtain⟨go,yl⟩:=it.2 ts[i] hti;refine⟨go,by omega,λxx Hc y=>?_⟩
     obtain⟨sc,rx⟩:=yl xx Hc y
     have Ec:=E'.same sc;rw[Px hlt]at hl;unfold dt at hl;refine⟨Z',O',noM,ts[i],Ec,rx,?_⟩
     cases e1:tgt ts[i] Z' with
     |bad=>rw[e1]at hl;cases hl
     |err cc=>rw[e1]at hl;cases hl
     |ok Z1=>
      rw[e1,aF]at hl;intro σ1 Eg;refine⟨Z1,O',⟨noM,Eg⟩,?_⟩
      cases e2:fc Z1 with
      |bad=>rw[e2]at hl;cases hl
      |err cc=>rw[e2]at hl;cases hl
      |ok k=>
       rw[e2,aF]at hl;intro H3 s3
       have E3:=Eg.same s3
       have tot:Same H' H3:=sc.trans s3
       have D3:H3 D=ZA (.lst ys):=tot _ _ hDl
       have sm3:SameO (λa=>a=D) (upd H1 D (.lst [])) H3:=λb o e nb=>tot _ _ (hsm b o e nb)
       cases k with
       |false=>
        refine L2.iteF ?_
        have hl':dt tgt fc fe (ts.drop (i+1)) Z1=.ok zs:=by simpa using hl
        exact⟨ts.length - (i+1),by omega,rfl,hlt,by omega,D3,sm3,Z1,yts,zs,E3,ry.same tot,hl',hyz⟩
       |true=>
        refine L2.iteT ?_
        have hl':(fe Z1 >>= λy=>dt tgt fc fe (ts.drop (i+1)) Z1 >>= λys=>Rs.ok (y::ys))=.ok zs:=by simpa using hl
        refine⟨Z1,O',⟨noM,E3⟩,?_⟩
        cases e3:fe Z1 with
        |bad=>rw[e3]at hl';cases hl'
        |err cc=>rw[e3]at hl';cases hl'
        |ok yt=>
         rw[e3,aF]at hl'
         cases e4:dt tgt fc fe (ts.drop (i+1)) Z1 with
         |bad=>rw[e4]at hl';cases hl'
         |err cc=>rw[e4]at hl';cases hl'
         |ok zs'=>
          rw[e4,aF]at hl'
          have hzs:yt::zs'=zs:=by injection hl'
          intro H4 s4 v rv
          have D4:H4 D=ZA (.lst ys):=s4 _ _ D3
          have E4:=E3.same s4
          have tot4:Same H' H4:=tot.trans s4
          have smD:SameO (λa=>a=D) H4 (upd H4 D (.lst (ys++[v]))):=λb o e nb=>by rw[aG nb];exact e
          have inO:∀a,a=D->O' a\/Nw X.K H4 a:=λa z=>.inl (.inr z)
          refine⟨D4,ts.length - (i+1),by omega,rfl,hlt,?_,aI,λb o e nb=>smD b o (s4 _ _ (sm3 b o e nb)) nb,Z1,yts++[yt],zs',?_,?_,e4,?_⟩
          ·rw[NH,PF];omega
          ·exact E4.move inO (λa z=>.inl z) smD λaa z=>by
            by_cases hz:aa=D
            ·rw[hz];exact .inl ⟨_,aI⟩
            ·unfold Mtb;rw[aG hz];exact E4.trk aa z
          ·have r1:Reps X.K O' H4 (yts++[yt]) (ys++[v]):=(ry.same tot4).append (Reps.FM rv Reps.nil_)
           exact r1.move inO (λa z=>.inl z) smD
          ·rw[NY,List.singleton_append,hzs];exact hyz
    ·refine .inl ⟨it.1 (by omega),?_⟩
     have hi2:i=ts.length:=by omega
     subst hi2;rw[VY]at hl
     have hzs:zs=[]:=by unfold dt at hl;injection hl with hl;exact hl.symm
     subst hzs;rw[OH]at hyz;subst hyz
     have sF:Same H1 H':=λb o e=>sm1 b o e λz=>by rw[z,hD]at e;cases e
     exact q2 D ys H' nD sF hDl ry
 ·rw[if_neg hz]at q1
  exact q1.elim
def uV{src:List (Option Nat)}{fc:W6}(h0:tP X (ee fi src tgt fc fe) σ H Q):HP X.K (L6 X fi) src (AU X tgt) (tPT0 X.K fc) (tP0 X.K fe) σ H Q:=by
 obtain⟨Z,O,E,hq⟩:=h0;refine Dp E ?_
 have e:ee fi src tgt fc fe Z=Kc fi src tgt fc fe Z >>= λl=>.ok (.lst l):=Dq
 rw[e]at hq
 cases q:Kc fi src tgt fc fe Z with
 |bad=>rw[q]at hq;exact hq.elim
 |err c=>rw[q]at hq;exact hq
 |ok l=>
  rw[q,aF]at hq;intro H1 s1 D ys H' nD sD eD rD;exact hq H' (s1.trans sD) _ (Rep.Do.mpr ⟨D,ys,rfl,λz=>(E.same s1).fresh nD.1 z,eD,rD.less λa z=>.inl z⟩)
def q_lc{elt:ZG}{src:List (Option Nat)}{fc:W6}
  (hc:X.calm=ZC) (S:LcScope X scope N' src) (hi:BO X tg iter fi)
  (block:∀cl C s₀ H₀ fp,Ey (bN X scope cl N' C s₀ H₀ fp) tg tgt/\AI (bN X scope cl N' C s₀ H₀ fp) ifs (zB (bN X scope cl N' C s₀ H₀ fp) fc)/\cQ (bN X scope cl N' C s₀ H₀ fp) elt fe)
  (hs:autoParam (∀x,Ou iter X.env x=pure x) t_):
  cQ X (.ListComp elt [⟨tg,iter,ifs,0⟩] scope pos) (ee fi src tgt fc fe):=by
 have hPG:∀cl C s₀ H₀ fp,PG (bN X scope cl N' C s₀ H₀ fp) tg (AU X tgt):=λcl C s₀ H₀ fp=>(block cl C s₀ H₀ fp).1
 have hPI:∀cl C s₀ H₀ fp,AI (bN X scope cl N' C s₀ H₀ fp) ifs (tPT0 X.K fc):=λcl C s₀ H₀ fp bv s σ H Q I h=>(block cl C s₀ H₀ fp).2.1 bv s σ H Q I (tPT0.up (X:=bN X scope cl N' C s₀ H₀ fp) h)
 have hPE:∀cl C s₀ H₀ fp,PE (bN X scope cl N' C s₀ H₀ fp) elt (tP0 X.K fe):=λcl C s₀ H₀ fp bv s σ H Q I h=>(block cl C s₀ H₀ fp).2.2 bv s σ H Q I (tP0.up (X:=bN X scope cl N' C s₀ H₀ fp) h)
 exact PE.imp (wK (g:=AU X tgt) (tc:=tPT0 X.K fc) (te:=tP0 X.K fe) hc S hi (λcl C s₀ H₀ fp=>⟨hPG cl C s₀ H₀ fp,hPI cl C s₀ H₀ fp,hPE cl C s₀ H₀ fp⟩) hs) λσ H Q h=>uV h
inductive Fl where
 |nx (Z:En)|rt (t:T)|bk (Z:En)|ct (Z:En)
abbrev W4:=En->Rs Fl
def OO(B:Ow)(M:Mn):Ow:=λa=>B a\/M.u a
structure Ev (K:Nt)(B:Ow)(M:Mn)(H:Hp)(Z:En)(σ:L2.St):Prop where
 env:EnvM K (OO B M) M H Z σ
 mine:∀a,M.u a->¬ B a
theorem Ev.same(h:Same H H')(e:Ev K B M H Z σ):Ev K B M H' Z σ:=⟨e.env.same h,e.mine⟩
def Ev.o(e:Ev K B M H Z σ):EnvO K (OO B M) H Z σ:=⟨M,e.env⟩
def PostF(X:Cx)(B P:Ow)(H:Hp)(r:Rs Fl)(D:qO):Prop:=match r with
 |.ok (.nx Z')=>∀σ' H' M',SameO P H H'->Ev X.K B M' H' Z' σ'->(∀a,M'.u a->P a\/Nw X.K H a)->D.nx σ' H'
 |.ok (.rt t)=>∀v H',SameO P H H'->Rep X.K B H' t v->D.rt v H'
 |.ok (.bk Z')=>∀σ' H' M',SameO P H H'->Ev X.K B M' H' Z' σ'->(∀a,M'.u a->P a\/Nw X.K H a)->D.bk σ' H'
 |.ok (.ct Z')=>∀σ' H' M',SameO P H H'->Ev X.K B M' H' Z' σ'->(∀a,M'.u a->P a\/Nw X.K H a)->D.ct σ' H'
 |.err c=>XA X P H c
 |.bad=>False
def EE(X:Cx)(F:W4):TS:=λD σ H=>∃Z B M,Ev X.K B M H Z σ/\PostF X B M.u H (F Z) D
abbrev qL(X:Cx)(s:ZF)(F:W4):Prop:=PS X s (EE X F)
abbrev lU(X:Cx)(s:List ZF)(F:W4):Prop:=PSs X s (EE X F)
theorem PostF.later{P P1:Ow}{H1:Hp}{r:Rs Fl}(h:PostF X B P H r D)(s:SameO P H H1)(sub:∀a,P1 a->P a\/Nw X.K H a):PostF X B P1 H1 r D:=by
 have back:∀a,P1 a\/Nw X.K H1 a->P a\/Nw X.K H a:=λa z=>z.elim (sub a) (ja s)
 cases r with
 |bad=>exact h
 |err c=>exact XA.later h s sub
 |ok f=>
  cases f with
  |nx Z'=>exact λσ' H' M' s' E' o'=>h σ' H' M' (s.trans s' sub) E' λa z=>back a (o' a z)
  |rt t=>exact λv H' s' r=>h v H' (s.trans s' sub) r
  |bk Z'=>exact λσ' H' M' s' E' o'=>h σ' H' M' (s.trans s' sub) E' λa z=>back a (o' a z)
  |ct Z'=>exact λσ' H' M' s' E' o'=>h σ' H' M' (s.trans s' sub) E' λa z=>back a (o' a z)
def PostF.xa{P:Ow}{c:Str}(h:PostF X B P H (.err c) D):XA X yJ H c:=XA.later (P:=P) h (λ_ _ e _=>e) λ_ z=>z.elim
def sN(Z:En):Rs Fl:=.ok (.nx Z)
def aw(F G:W4)(Z:En):Rs Fl:=do
 let f <-F Z
 match f with
 |.nx Z'=>G Z'
 |f=>.ok f
def Cu:lU X [] sN:=PSs.imp FQ λD σ H ⟨Z,B,M,E,h⟩=>h σ H M (λ_ _ e _=>e) E λa z=>.inl z
def Fz{rest:List ZF}{F G:W4}(h1:qL X st F)(h2:lU X rest G):lU X (st::rest) (aw F G):=PSs.imp (pw h1 h2) λD σ H hh_=>by
 obtain⟨Z,B,M,E,h⟩:=hh_;refine⟨Z,B,M,E,?_⟩
 unfold aw at h
 cases q:F Z with
 |bad=>rw[q]at h;exact h.elim
 |err c=>rw[q]at h;exact h
 |ok f=>
  rw[q,aF]at h
  cases f with
  |nx Z'=>exact λσ' H' M' s' E' o'=>⟨Z',B,M',E',h.later s' o'⟩
  |rt t=>exact h
  |bk Z'=>exact h
  |ct Z'=>exact h
def Io{F:W4}(h:qL X st F):lU X [st] F:=FP h
def aL(f:W5)(Z:En):Rs Fl:=do
 let t <-f Z
 .ok (.rt t)
def Il(ha:cQ X a fa):qL X (.Return (ZA a) pos) (aL fa):=PS.imp (IP ha) λD σ H hh_=>by
 obtain⟨Z,B,M,E,h⟩:=hh_;refine⟨Z,OO B M,E.o,?_⟩
 unfold aL at h
 cases q:fa Z with
 |bad=>rw[q]at h;exact h.elim
 |err c=>rw[q]at h;exact PostF.xa h
 |ok t=>
  rw[q,aF]at h;exact λH' s v r=>h v H' (SameO.of s) (r.less λ_ z=>.inl z)
def dQ(f:W6)(F G:W4)(Z:En):Rs Fl:=do
 let k <-f Z
 if k then F Z else G Z
def KJ{A B:List ZF}{F G:W4}(hc:xZ X c f)(ha:lU X A F)(hb:lU X B G):qL X (.If c A B pos) (dQ f F G):=PS.imp (Hm hc ha hb) λD σ H hh_=>by
 obtain⟨Z,B,M,E,h⟩:=hh_;refine⟨Z,OO B M,E.o,?_⟩
 unfold dQ at h
 cases q:f Z with
 |bad=>rw[q]at h;exact h.elim
 |err c=>rw[q]at h;exact PostF.xa h
 |ok k=>
  rw[q,aF]at h;intro H' s
  have E':Ev X.K B M H' Z σ:=E.same s
  cases k with
  |true=>refine L2.iteT ?_;exact⟨Z,B,M,E',PostF.later (by simpa using h) (SameO.of s) λa z=>.inl z⟩
  |false=>refine L2.iteF ?_;exact⟨Z,B,M,E',PostF.later (by simpa using h) (SameO.of s) λa z=>.inl z⟩
def cM(f:W5)(g:T->En->Rs En)(Z:En):Rs Fl:=do
 let t <-f Z
 match g t Z with
 |.ok Z'=>.ok (.nx Z')
 |_=>.bad
variable{f:W5}
def Ck(E:Ev X.K B M H Z σ)(h:PostF X B M.u H (cM f g Z) D):B8 (tP X f) (AU X g) D σ H:=by
 refine⟨Z,OO B M,E.o,?_⟩
 unfold cM at h
 cases q:f Z with
 |bad=>rw[q]at h;exact h.elim
 |err c=>rw[q]at h;exact PostF.xa h
 |ok t=>
  rw[q,aF]at h;intro H' s v r;refine⟨Z,OO B M,M,t,E.env.same s,r,?_⟩
  cases q2:g t Z with
  |bad=>rw[q2]at h;exact h.elim
  |err c=>rw[q2]at h;exact h.elim
  |ok Z'=>
   rw[q2]at h;exact λσ' E'=>h σ' H' M (SameO.of s) ⟨E',E.mine⟩ λa z=>.inl z
def E7{Q':VK}(h:tP X f σ H Q)(w:∀v H',Q v H'->Q' v H'):tP X f σ H Q':=by
 obtain⟨Z,O,E,q⟩:=h;exact⟨Z,O,E,Post.mono q λt H' _ z v r=>w v H' (z v r)⟩
def KI{elt:ZG}{spos py:Pos}{src:List (Option Nat)}{fc:W6}(i:Nat){y:Str}
  (hc:X.calm=ZC) (S:LcScope X scope N' src) (hi:BO X tg iter fi)
  (block:∀cl C s₀ H₀ fp,Ey (bN X scope cl N' C s₀ H₀ fp) tg tgt/\AI (bN X scope cl N' C s₀ H₀ fp) ifs (zB (bN X scope cl N' C s₀ H₀ fp) fc)/\cQ (bN X scope cl N' C s₀ H₀ fp) elt fe)
  (hN:X.N.Nodup) (hiy:autoParam (X.N[i]?=ZA y) u_) (hy:autoParam (Loc X.env.scope y) y_) (hsw:autoParam (OQ (.ListComp elt [⟨tg,iter,ifs,0⟩] scope pos) (ZA (.Name y py)) spos.line X.env=pure ZC) u_)
  (hf:autoParam (X.fn y=ZC\/X.env.scope.names.lookup y=ZA .local) r_) (hs:autoParam (∀x,Ou iter X.env x=pure x) t_):
  qL X (.Assign [.Name y py] (.ListComp elt [⟨tg,iter,ifs,0⟩] scope pos) spos) (cM (ee fi src tgt fc fe) (gN i)):=by
 have hPG:∀cl C s₀ H₀ fp,PG (bN X scope cl N' C s₀ H₀ fp) tg (AU X tgt):=λcl C s₀ H₀ fp=>(block cl C s₀ H₀ fp).1
 have hPI:∀cl C s₀ H₀ fp,AI (bN X scope cl N' C s₀ H₀ fp) ifs (tPT0 X.K fc):=λcl C s₀ H₀ fp bv s σ H Q I h=>(block cl C s₀ H₀ fp).2.1 bv s σ H Q I (tPT0.up (X:=bN X scope cl N' C s₀ H₀ fp) h)
 have hPE:∀cl C s₀ H₀ fp,PE (bN X scope cl N' C s₀ H₀ fp) elt (tP0 X.K fe):=λcl C s₀ H₀ fp bv s σ H Q I h=>(block cl C s₀ H₀ fp).2.2 bv s σ H Q I (tP0.up (X:=bN X scope cl N' C s₀ H₀ fp) h)
 refine PS.imp (Hl (g:=AU X tgt) (tc:=tPT0 X.K fc) (te:=tP0 X.K fe) (i:=i) hc S hi (λcl C s₀ H₀ fp=>⟨hPG cl C s₀ H₀ fp,hPI cl C s₀ H₀ fp,hPE cl C s₀ H₀ fp⟩) hN hiy hy hsw hf hs) λD σ H ⟨Z,B,M,E,h⟩=>uV (E7 (Ck E h) λv H' z=>?_)
 obtain⟨Z',O,M',t,E',r,q⟩:=z;unfold gN at q
 split at q
 ·rename_i Z2 e
  split at e
  ·rename_i hl
   cases e;exact q _ (E'.set hl r)
  ·cases e
 ·exact q.elim
def Iv(ha:cQ X a fa)(hg:Ey X tg g)(hs:autoParam (U6 [tg] a pos.line X.env=pure ZD) u_)(hw:autoParam (U7 [tg] a X.env=pure ZB) u_)
  (h1:autoParam ((Pv [tg] X.env).map (·.2)=[assign tg X.env]) u_):qL X (.Assign [tg] a pos) (cM fa g):=PS.imp (IQ ha hg hs hw h1) λD σ H ⟨Z,B,M,E,h⟩=>Ck E h
def rZ(f:W5)(Z:En):Rs Fl:=do
 let _ <-f Z
 .ok (.nx Z)
def Fy(ha:cQ X a fa)(hs:autoParam (OQ a ZB pos.line X.env=pure ZD) u_):qL X (.Expr a pos) (rZ fa):=PS.imp (ud ha hs) λD σ H hh_=>by
 obtain⟨Z,B,M,E,h⟩:=hh_;refine⟨Z,OO B M,E.o,?_⟩
 unfold rZ at h
 cases q:fa Z with
 |bad=>rw[q]at h;exact h.elim
 |err c=>rw[q]at h;exact PostF.xa h
 |ok t=>
  rw[q,aF]at h;exact λH' s v r=>h σ H' M (SameO.of s) (E.same s) λa z=>.inl z
def bc(g:T->En->Rs En)(F:W4):List T->W4
 |[],Z=>.ok (.nx Z)
 |t::r,Z=>do
  let Z1 <-g t Z
  let f <-F Z1
  match f with
  |.nx Z2=>bc g F r Z2
  |.ct Z2=>bc g F r Z2
  |.bk Z2=>.ok (.nx Z2)
  |.rt t=>.ok (.rt t)
def dS(fi:W3)(g:T->En->Rs En)(F:W4)(Z:En):Rs Fl:=do
 let ts <-fi Z
 match bc g F ts Z with
 |.ok f=>.ok f
 |_=>.bad
def m5{t:Sem α}{Q:α->NB->Prop}(h:ZJ (ZK P w) A t Q (λ_ _=>False) s):ZJ (ZK P w) A t Q E s:=Pu h (λ_ _ q=>q) λ_ _ z=>z.elim
def FR{wi:TI}{g:TG}{tb:TS}{pos:Pos}(hc:X.calm=ZC)(hi:PI X tg iter wi)(hg:PG X.nox tg g)(hb:PSs X.nox body tb)
  (hs:autoParam (∀x,Ou iter X.env x=pure x) t_):PS X (.For tg iter body [] pos) (tFor wi g tb):=by
 intro bv s σ H D I h;refine wpAny_For (cF (hi bv s σ H _ I h) λv s1 h1=>cF h1 λitv s2 h2=>?_) hs
 obtain⟨it,fp,tn,J,H2,e,I2,T,st2,f2,W,⟨m0,w0⟩,turn⟩:=h2;subst e
 have stat:∀{H':Hp},(∀b∈fp,H' b=ZB)->∀b∈fp,mQ X bv H' b:=λhn b hb=>⟨hn b hb,(f2 b hb).2⟩
 refine codeAny_forLoop_any (λn s'=>∃i σ' H',Inv X bv σ' H' s'/\tn i s'.heap/\(∀b∈fp,H' b=ZB)/\W i n σ' H') ?_ m0 ⟨0,σ,H2,I2,st2,λb hb=>(f2 b hb).1,w0⟩
 rintro n s3 ⟨i,σ3,H3,I3,st3,fr3,w3⟩
 rcases turn i n σ3 H3 w3 with⟨stop,qn⟩|⟨go,N,hN,step⟩
 ·refine m5 (cF (T.done X.nox rfl rfl rfl hc i bv s3 σ3 H3 _ (I3.FS _) (stat fr3) st3 stop) λr s4 ⟨hr,I4⟩=>?_)
  subst hr;exact Sw ⟨σ3,H3,I4.FS _,qn⟩
 ·refine m5 (cF (T.item X.nox rfl rfl rfl hc i bv s3 σ3 H3 _ (I3.FS _) (stat fr3) st3 go) λr s4 ⟨u,hr,h4⟩=>?_)
  subst hr;refine m5 (cF h4 λ_ s5 hh_=>?_)
  obtain⟨x,H5,I5,r5,y5,st5,fr5⟩:=hh_
  have I5':=Inv.pinned (X:=X.nox) I5 (stat fr5) (T.obj _ _ st5);refine m5 (cF (hg _ s5 σ3 H5 x u _ I5' r5 (step x H5 y5)) λ_ s6 hh_=>?_)
  obtain⟨σ6,H6,I6,q6⟩:=hh_;refine m5 (cF (hb _ s6 σ6 H6 _ I6 q6) λf s7 q7=>?_)
  have again:∀{σ7:L2.St}{H7:Hp},Inv X.nox (bv++pC fp s5.heap) σ7 H7 s7->N σ7 H7->∃m,m<n/\∃i σ' H',Inv X bv σ' H' s7/\tn i s7.heap/\(∀b∈fp,H' b=ZB)/\W i m σ' H':=λ{σ7 H7} I7 n7=>by
   obtain⟨m',hm,w7⟩:=hN σ7 H7 n7;refine⟨m',hm,i+1,σ7,H7,(Inv.Mk (X:=X.nox) I7).FS _,T.keep _ _ _ st5 λb hb o e=>(I7.pin (b,o) (N7 _ (N7 _ (jb hb e)))).1,λb hb=>?_,w7⟩
   obtain⟨o,e,d⟩:=T.obj _ _ st5 b hb;exact(I7.pin (b,o) (N7 _ (N7 _ (jb hb e)))).2.1
  cases f with
  |next=>obtain⟨σ7,H7,I7,n7⟩:=q7;exact again I7 n7
  |cont=>obtain⟨σ7,H7,I7,n7⟩:=q7;exact again I7 n7
  |brk=>obtain⟨σ7,H7,I7,q7⟩:=q7;exact⟨σ7,H7,(Inv.Mk (X:=X.nox) I7).FS _,q7⟩
  |ret v=>obtain⟨x7,σ7,H7,I7,r7,q7⟩:=q7;exact⟨x7,σ7,H7,(Inv.Mk (X:=X.nox) I7).FS _,r7,q7⟩
def Iq{F:W4}(hc:X.calm=ZC)(hi:BO X tg iter fi)(hg:Ey X.nox tg g)(hb:lU X.nox body F)
  (hs:autoParam (∀x,Ou iter X.env x=pure x) t_):qL X (.For tg iter body [] pos) (dS fi g F):=PS.imp (FR hc hi hg hb hs) λD σ H hh_=>by
 obtain⟨Z,B,M,E,h⟩:=hh_;refine⟨Z,OO B M,E.o,?_⟩
 unfold dS at h
 cases q:fi Z with
 |bad=>rw[q]at h;exact h.elim
 |err c=>rw[q]at h;exact PostF.xa h
 |ok ts=>
  rw[q,aF]at h
  cases qq:bc g F ts Z with
  |bad=>rw[qq]at h;exact h.elim
  |err c=>rw[qq]at h;exact h.elim
  |ok fin=>
  rw[qq]at h;intro H1 s1 J hJ
  have E1:Ev X.K B M H1 Z σ:=E.same s1
  have h1:PostF X B M.u H1 (.ok fin) D:=PostF.later h (SameO.of s1) λa z=>.inl z
  refine⟨λi m σ' H'=>m=ts.length - i/\i<=ts.length/\SameO M.u H1 H'/\∃Z' M',Ev X.K B M' H' Z' σ'/\(∀a,M'.u a->M.u a\/Nw X.K H1 a)/\bc g F (ts.drop i) Z'=.ok fin,
   ⟨ts.length,by omega,O4 _,λ_ _ e _=>e,Z,M,E1,λa z=>.inl z,by simpa using qq⟩,?_⟩
  rintro i m σ' H' ⟨rfl,hi',sm,Z',M',E',ow,hl⟩
  have it:=hJ M.u (OO B M') (λa z=>.inl (.inr z)) (λa z=>z.elim (λw=>.inl (.inl w)) λw=>(ow a w).elim (λy=>.inl (.inr y)) .inr) i H' sm (λa z=>(E'.env.trk a z).some)
  by_cases hlt:i<ts.length
  ·have hti:ts[i]?=ZA ts[i]:=by simp
   obtain⟨go,yl⟩:=it.2 ts[i] hti;rw[Px hlt]at hl;unfold bc at hl;refine .inr ⟨go,λσ2 H2=>∃m',m'<ts.length - i/\(m'=ts.length - (i+1)/\i+1<=ts.length/\SameO M.u H1 H2/\∃Z2 M2,Ev X.K B M2 H2 Z2 σ2/\(∀a,M2.u a->M.u a\/Nw X.K H1 a)/\bc g F (ts.drop (i+1)) Z2=.ok fin),λσ2 H2 z=>z,λx Hc y=>?_⟩
   obtain⟨sc,rx⟩:=yl x Hc y;refine⟨Z',OO B M',M',ts[i],E'.env.same sc,rx,?_⟩
   cases e1:g ts[i] Z' with
   |bad=>rw[e1]at hl;cases hl
   |err cc=>rw[e1]at hl;cases hl
   |ok Z1=>
    rw[e1,aF]at hl;intro σ1 Eg
    have E2:Ev X.K B M' Hc Z1 σ1:=⟨Eg,E'.mine⟩;refine⟨Z1,B,M',E2,?_⟩
    have smc:SameO M.u H1 Hc:=λb o e n=>sc _ _ (sm b o e n)
    have onward:∀{σ3:L2.St}{H3:Hp}{Z3:En}{M3:Mn},SameO M'.u Hc H3->Ev X.K B M3 H3 Z3 σ3->(∀a,M3.u a->M'.u a\/Nw X.K Hc a)->bc g F (ts.drop (i+1)) Z3=.ok fin →
      ∃m',m'<ts.length - i/\(m'=ts.length - (i+1)/\i+1<=ts.length/\SameO M.u H1 H3/\∃Z2 M2,Ev X.K B M2 H3 Z2 σ3/\(∀a,M2.u a->M.u a\/Nw X.K H1 a)/\bc g F (ts.drop (i+1)) Z2=.ok fin):=
     λ{σ3 H3 Z3 M3} s3 E3 o3 p3=>⟨_,by omega,rfl,hlt,smc.trans s3 ow,Z3,M3,E3,λa z=>(o3 a z).elim (ow a) (ja smc),p3⟩
    cases e2:F Z1 with
    |bad=>rw[e2]at hl;cases hl
    |err cc=>rw[e2]at hl;cases hl
    |ok f=>
     rw[e2,aF]at hl
     cases f with
     |nx Z2=>exact λσ3 H3 M3 s3 E3 o3=>onward s3 E3 o3 hl
     |ct Z2=>exact λσ3 H3 M3 s3 E3 o3=>onward s3 E3 o3 hl
     |bk Z2=>
      cases hl
      exact λσ3 H3 M3 s3 E3 o3=>h1 σ3 H3 M3 (smc.trans s3 ow) E3 λa z=>(o3 a z).elim (ow a) (ja smc)
     |rt t=>
      cases hl;exact λv H3 s3 r=>h1 v H3 (smc.trans s3 ow) r
  ·refine .inl ⟨it.1 (by omega),?_⟩
   have hi2:i=ts.length:=by omega
   subst hi2;rw[VY]at hl;cases hl;exact h1 σ' H' M' sm E' ow
def cf(c:W6)(F:W4):Nat->W4
 |0,_=>.bad
 |n+1,Z=>match c Z with
  |.ok ZD=>.ok (.nx Z)
  |.ok ZC=>match F Z with
   |.ok (.nx Z')=>cf c F n Z'
   |.ok (.ct Z')=>cf c F n Z'
   |.ok (.bk Z')=>.ok (.nx Z')
   |.ok (.rt t)=>.ok (.rt t)
   |_=>.bad
  |_=>.bad
def Cr{fc:W6}{F:W4}(n:Nat)(hc:xZ X.nox c fc)(hb:lU X.nox body F):qL X (.While c body [] pos) (cf fc F n):=by
 have base:PS X.nox (.While c body [] pos) (ye (zB X.nox fc) (EE X.nox F)):=CF PassesOwn.never hc hb;intro bv s σ H D I ⟨Z,B,M,E,h⟩
 cases qq:cf fc F n Z with
 |bad=>rw[qq]at h;exact h.elim
 |err c=>
  exfalso
  have:∀n Z,cf fc F n Z≠ .err c:=by
   intro n
   induction n with
   |zero=>intro Z z;cases z
   |succ n ih=>
    intro Z z;unfold cf at z
    split at z
    ·cases z
    ·split at z <;> first|exact ih _ z|cases z
    ·cases z
  exact this n Z qq
 |ok fin=>
  rw[qq]at h
  have goal:ye (zB X.nox fc) (EE X.nox F) D σ H:=by
   refine⟨λm σ' H'=>SameO M.u H H'/\∃Z' M',Ev X.K B M' H' Z' σ'/\(∀a,M'.u a->M.u a\/Nw X.K H a)/\cf fc F m Z'=.ok fin,⟨n,λ_ _ e _=>e,Z,M,E,λa z=>.inl z,qq⟩,?_⟩
   rintro m σ' H' ⟨sm,Z',M',E',ow,hl⟩
   cases m with
   |zero=>cases hl
   |succ m=>
    refine⟨Z',OO B M',E'.o,?_⟩
    unfold cf at hl
    cases e1:fc Z' with
    |bad=>rw[e1]at hl;cases hl
    |err cc=>rw[e1]at hl;cases hl
    |ok k=>
     rw[e1]at hl;intro H2 s2
     have E2:Ev X.K B M' H2 Z' σ':=E'.same s2
     have sm2:SameO M.u H H2:=λb o e n=>s2 _ _ (sm b o e n)
     cases k with
     |false=>
      cases hl;refine L2.iteF ?_
      exact h σ' H2 M' sm2 E2 ow
     |true=>
      refine L2.iteT ?_
      refine⟨λσ3 H3=>SameO M.u H H3/\∃Z3 M3,Ev X.K B M3 H3 Z3 σ3/\(∀a,M3.u a->M.u a\/Nw X.K H a)/\cf fc F m Z3=.ok fin,λσ3 H3 z=>⟨m,Tw m,z⟩,Z',B,M',E2,?_⟩
      have hl':(match F Z' with|.ok (.nx Z')=>cf fc F m Z'|.ok (.ct Z')=>cf fc F m Z'|.ok (.bk Z')=>.ok (.nx Z')|.ok (.rt t)=>.ok (.rt t)|_=>.bad)=.ok fin:=hl
      cases e2:F Z' with
      |bad=>rw[e2]at hl';cases hl'
      |err cc=>rw[e2]at hl';cases hl'
      |ok f=>
       rw[e2]at hl'
       cases f with
       |nx Z2=>exact λσ3 H3 M3 s3 E3 o3=>⟨sm2.trans s3 ow,Z2,M3,E3,λa z=>(o3 a z).elim (ow a) (ja sm2),hl'⟩
       |ct Z2=>exact λσ3 H3 M3 s3 E3 o3=>⟨sm2.trans s3 ow,Z2,M3,E3,λa z=>(o3 a z).elim (ow a) (ja sm2),hl'⟩
       |bk Z2=>
        cases hl'
        exact λσ3 H3 M3 s3 E3 o3=>h σ3 H3 M3 (sm2.trans s3 ow) E3 λa z=>(o3 a z).elim (ow a) (ja sm2)
       |rt t=>
        cases hl';exact λv H3 s3 r=>h v H3 (sm2.trans s3 ow) r
  refine m5 (cF (base bv s σ H D (I.FS _) goal) λf s' q=>?_)
  cases f with
  |next=>obtain⟨σ7,H7,I7,n7⟩:=q;exact⟨σ7,H7,I7.FS _,n7⟩
  |cont=>obtain⟨σ7,H7,I7,n7⟩:=q;exact⟨σ7,H7,I7.FS _,n7⟩
  |brk=>obtain⟨σ7,H7,I7,n7⟩:=q;exact⟨σ7,H7,I7.FS _,n7⟩
  |ret v=>obtain⟨x7,σ7,H7,I7,r7,q7⟩:=q;exact⟨x7,σ7,H7,I7.FS _,r7,q7⟩
def Hj(Z:En):Rs Fl:=.ok (.ct Z)
end
def bU(F:W4)(Z:En):Rs T:=do
 let f <-F Z
 match f with
 |.nx _=>.ok .non
 |.rt t=>.ok t
 |_=>.bad
def aU(n:Nat)(ts:List T):En:=ts.map Sl.va++N5 (n - ts.length) Sl.em
variable{ts:List T}
def AV{o:OT}(e:(aU n ts)[i]?=ZA (.ow o)):False:=by
 unfold aU at e
 by_cases hi:i<ts.length
 ·rw[Ql (by simpa using hi),NU,NF hi]at e
  cases e
 ·rw[Ra (by simpa using hi),RA]at e
  split at e <;> cases e
variable{N:List Str}
def rS(r:Reps K O H ts vs)(hl:ts.length<=N.length)(trk:∀a,O a->Mtb H a):Ev K O noM H (aU N.length ts) (start N vs):=by
 have hlen:=r.length
 have sub:∀a,OO O noM a->O a:=λa z=>z.elim id λ⟨_,w⟩=>w.elim
 refine⟨⟨by unfold aU L2.start;simp;omega,λi t e=>?_,λi o e=>(AV e).elim,λ_ _ z=>z.elim,λ_ _ _ z=>z.elim,λa z=>trk a (sub a z)⟩,λa ⟨_,z⟩=>z.elim⟩
 unfold aU at e;unfold L2.start
 by_cases hi:i<ts.length
 ·rw[Ql (by simpa using hi),NU,NF hi]at e
  have e':ts[i]=t:=by injection e with e;injection e
  obtain⟨v,e1,e2⟩:=r.get (i:=i) (t:=t) (by rw[<-e'];simp)
  refine⟨v,?_,e2.less sub⟩
  rw[Ql (by simp;omega),NU,e1];rfl
 ·rw[Ra (by simpa using hi),RA]at e
  split at e <;> cases e
section
variable {mg:W0}{base:ZH}
def LG{qual:Str}{f:ZE}{k:Nat}{g:List T->Rs T}(Fn:L2.Fun K x qual st f fd)(S:aE N ps (ao st))(hn:ps.length=n)
  (hbody:∀(cdv:NA)(A:Os)(outer:List Env)(s:NB)(H:Hp)(E:XK),Room k (A.deeper (envOfC qual (ao st) s.heap.objs.size f cdv)) →
   ∃F,lU (nB CX0 P w K mg base N qual (ao st) f cdv A outer s H E).nox (dP st) F/\∀ts,ts.length=n->∀t,g ts=.ok t->bU F (aU N.length ts)=.ok t):vG P w K mg base CX0 (k+1) f fd ps (spP K n g):=by
 have hpl:ps.length<=N.length:=by have:=congrArg O0 S.pre;rw[Ri]at this;omega
 refine Fn.ok S (λvs H Q E h=>?_) (λcdv A outer s H vs Q E hr h=>?_)
 ·obtain⟨ts,O,r,_,hl,_⟩:=h
  rw[<-r.length,hl,hn]
 ·obtain⟨ts,O,r,trk,hl,h⟩:=h
  obtain⟨F,hF,hv⟩:=hbody cdv A outer s H E hr;refine⟨_,hF,aU N.length ts,O,noM,rS r (by omega) trk,?_⟩
  have no:∀a,¬noM.u a:=λa ⟨_,z⟩=>z
  cases q:g ts with
  |bad=>rw[q]at h;exact h.elim
  |err c=>rw[q]at h;exact h.elim
  |ok t=>
   rw[q]at h
   have hb:=hv ts hl t q;unfold bU at hb
   cases q2:F (aU N.length ts)with
   |bad=>rw[q2]at hb;cases hb
   |err c=>rw[q2]at hb;cases hb
   |ok fl=>
    rw[q2,aF]at hb
    have sameOf:∀H',SameO noM.u H H'->Same H H':=λH' s b o e=>s b o e (no b)
    cases fl with
    |nx Z'=>cases hb;exact λσ' H' M' s' E' o'=>h .non H' (sameOf H' s') Rep.MH
    |rt t'=>cases hb;exact λv H' s' r'=>h v H' (sameOf H' s') r'
    |bk Z'=>cases hb
    |ct Z'=>cases hb
end
end Tr
variable{x:NA}
namespace Enu
open PySem
open AutoSeq1 (wpAny_loadPart')
variable{its:Array NA}
def tupNext{it tt:ZE}{k:Nat}(hi:s.heap.IsTupleIter it tt k)(ht:s.heap.IsTuple tt its)(hx:its[k]?=ZA x)
  (hQ:∀h',h'.IsTupleIter it tt (k+1)->QU it s.heap h'->Q x {s with heap:=h'}):ZJ (ZK prog w) A (NT (.ref it)) Q E s:=by
 obtain⟨ob,g1,g2,g3⟩:=id hi;obtain⟨ot,k1,_,m,k3⟩:=ht;unfold NT;refine Nq (Og (name:=NM "__next__") hi.typeIs P7 (Ol P7 hi.typeIs Sq ?_ (Si _)))
 show ZJ (ZK prog w) _ (field (.ref it) 0 >>= _) _ _ s
 refine Nq (Of g1 g3 (x:=.ref tt) rfl ?_)
 show ZJ (ZK prog w) _ (if (NQ tt == OA)=ZC then _ else _) _ _ s
 rw[if_neg (show ¬((NQ tt == OA)=ZC)by exact N3)]
 show ZJ (ZK prog w) _ (field (.ref it) 1 >>= _) _ _ s
 refine Nq (Of g1 g3 (x:=.int k 0) rfl ?_)
 show ZJ (ZK prog w) _ (seqItems? (.ref tt) >>= _) _ _ s
 refine Nq (Oz k1 k3 ?_)
 simp only[hx,ON];refine Nq (SR g1 g3 (by simp) (Nz ⟨x,rfl,Nz (hQ _ ?_ (Rm ..))⟩))
 refine⟨_,QY _ g1 (TX (RC g3 _)),(Vn ..).trans g2,?_⟩
 rw[RC g3];simp[rawInt]
def tupStop{it tt:ZE}{k:Nat}(hh:A.handled=ZB)(hi:s.heap.IsTupleIter it tt k)(ht:s.heap.IsTuple tt its)(hx:its[k]?=ZB)
  (hE:∀h' e,UH it s.heap h'->(∃o,h'.get? e=ZA o/\o.cls=.type "StopIteration")->E (.ref e) {s with heap:=h'}):ZJ (ZK prog w) A (NT (.ref it)) Q E s:=by
 obtain⟨ob,g1,g2,g3⟩:=id hi;obtain⟨ot,k1,_,m,k3⟩:=ht;unfold NT;refine Nq (Og (name:=NM "__next__") hi.typeIs P7 (Ol P7 hi.typeIs Sq ?_ (Si _)))
 show ZJ (ZK prog w) _ (field (.ref it) 0 >>= _) _ _ s
 refine Nq (Of g1 g3 (x:=.ref tt) rfl ?_)
 show ZJ (ZK prog w) _ (if (NQ tt == OA)=ZC then _ else _) _ _ s
 rw[if_neg (show ¬((NQ tt == OA)=ZC)by exact N3)]
 show ZJ (ZK prog w) _ (field (.ref it) 1 >>= _) _ _ s
 refine Nq (Of g1 g3 (x:=.int k 0) rfl ?_)
 show ZJ (ZK prog w) _ (seqItems? (.ref tt) >>= _) _ _ s
 refine Nq (Oz k1 k3 ?_)
 simp only[hx,ON];refine Nq (Qa (Nq (SR g1 g3 (by simp) ?_)))
 show ZJ (ZK prog w) _ (newExc (.type "StopIteration") [] >>= _) _ _ _
 refine Nq ?_
 simp only[newTuple,newExc];refine Nq (OR ?_ (by size_fits))
 refine Nq (m:=SS _ _) (wpAny_of_eq (a:=OA) (by first| (simp only[SS];rfl)|rfl) ?_)
 refine OR ?_ (by size_fits)
 simp only[raiseNew];refine Nq (wpAny_handled ?_)
 first|rw[hh]|rw[show A.in1.handled=ZB from hh]
 refine Nq (Nz (wpAny_throw ?_))
 refine hE _ _ (((Rm ..).extBut.push _).push _) ⟨_,NI _ rfl,rfl⟩
def tupDraws(hh:A.handled=ZB)(it tt:ZE)(hne:tt≠it)(its:Array NA):
  Draws prog w A it [it,tt] its.size (λi v=>its[i]?=ZA v) (λi h=>h.IsTupleIter it tt i/\h.IsTuple tt its) where
 live:=λ_ _ st=>by obtain⟨o,ho,_⟩:=st.1;exact⟨o,ho⟩
 frame:=λ_ _ _ st hk=>by
  obtain⟨⟨o,e,r⟩,⟨o',e',r'⟩⟩:=st;exact⟨⟨o,hk it (by simp) o e,r⟩,⟨o',hk tt (by simp) o' e',r'⟩⟩
 item:=λi s Q E hi st hQ=>by
  refine tupNext st.1 st.2 (x:=its[i]) (by simp[hi]) λh' hit' hs'=>?_
  obtain⟨o',e',r'⟩:=st.2;exact hQ _ h' s.toks (by simp[hi]) ⟨hit',⟨o',(hs'.2 tt hne).trans e',r'⟩⟩ hs'
 done:=λs Q E st hE=>tupStop hh st.1 st.2 (by simp) hE
def newT(l:ZE)(items:Array NA)(n:Nat)(dct:Option ZE)(sl:Array (Option NA)):
  Meets (Builtin.«enumerate.__new__» ⟨[.type "enumerate",.ref l],[]⟩) (λ_ R s=>s.heap.get? l=ZA {cls:=.type "tuple",dict:=dct,data:=.seq items n,slots:=sl} ∧
   R (.ok (.ret (.ref (s.heap.push {cls:=.type "tuple_iterator",data:=.fields #[.ref l,.int 0 0]}).objs.size)))
    {s with heap:=(s.heap.push {cls:=.type "tuple_iterator",data:=.fields #[.ref l,.int 0 0]}).push {cls:=.type "enumerate",data:=.fields #[.none,.bool ZD,.ref s.heap.objs.size,rawInt 0,.none,.none]}}):=
 .of_wp λprog w A R s h=>by
  obtain⟨hp,g,d,tk,os⟩:=s;obtain⟨hl,h⟩:=h
  have hsub:=sub_enumerate
  have hT:Heap.IsTuple (Tc ⟨hp,g,d,tk,os⟩) l items:=⟨_,hl,rfl,n,rfl⟩
  wp_walk using Pp hl
  refine wpAny_stack_any λst=>Nz ?_
  split
  ·rename_i c _ _ _ _ _
   cases (c == OM "enumerate")
   ·wp_walk using Pp hl,Qe hT
    exact⟨_,rfl,h⟩
   ·wp_walk using Pp hl,Qe hT
    exact⟨_,rfl,h⟩
  ·wp_walk using Pp hl,Qe hT
   exact⟨_,rfl,h⟩
def callT{l:ZE}{items:Array NA}(hL:s.heap.IsTuple l items)
  (h:∀h',IsEnum h' (s.heap.objs.size+1) s.heap.objs.size 0 .none->h'.IsTupleIter s.heap.objs.size l 0->h'.objs.size=s.heap.objs.size+2 →
   (∀b o,s.heap.get? b=ZA o->h'.get? b=ZA o)->Q (.ref (s.heap.objs.size+1)) {s with heap:=h'}):ZJ (ZK prog w) A (call (.type "enumerate") [.ref l]) Q E s:=by
 obtain⟨⟨cc,dc,dd,ss⟩,hl,hc,n,hd⟩:=hL
 replace hc:cc=.type "tuple":=hc
 replace hd:dd=.seq items n:=hd
 subst hc hd;refine VO F.called_enumerate (by decide) (F.typeCall_enumerate_1 _) (F.newCall_enumerate_1 _) (λobj=>F.args_object_init_2 obj _) F.entry_enumerate_new (newT l items n dc ss) ⟨hl,?_⟩
 have hz:(s.heap.push {cls:=.type "tuple_iterator",data:=.fields #[.ref l,.int 0 0]}).objs.size=s.heap.objs.size+1:=Ov ..
 show _/\_
 rw[hz]
 have he:IsEnum ((s.heap.push {cls:=.type "tuple_iterator",data:=.fields #[.ref l,.int 0 0]}).push
   {cls:=.type "enumerate",data:=.fields #[.none,.bool ZD,.ref s.heap.objs.size,rawInt 0,.none,.none]}) (s.heap.objs.size+1) s.heap.objs.size 0 .none:=by
  have q:=NI (s.heap.push {cls:=.type "tuple_iterator",data:=.fields #[.ref l,.int 0 0]})
   (o:={cls:=.type "enumerate",data:=.fields #[.none,.bool ZD,.ref s.heap.objs.size,rawInt 0,.none,.none]}) rfl
  rw[hz]at q;exact q
 refine⟨⟨_,he,rfl⟩,h _ he ⟨_,Nr _ (NI _ rfl),rfl,rfl⟩ (by rw[Ov,hz]) λb o x=>Nr _ (Nr _ x)⟩
end Enu
namespace L2
open PySem PySem.Spec PyProof.Rows
variable{X:Cx}{fp:List ZE}{h':ZH}
section
variable {bv:W2}{σ:L2.St}{H:Hp}
def Inv.MJ{Tp:ZE}{xs:List V}(I:Inv X bv σ H s)(hf:∀b∈fp,mQ X bv H b)(k:∀b o,b∉fp->s.heap.get? b=ZA o->h'.get? b=ZA o)
  (ht:∀b∈fp,∃o,h'.get? b=ZA o) (hT:s.heap.objs.size<=Tp) (new:ObjOk X.prog X.w (upd H Tp (.tup xs)) h' Tp (.tup xs)):Inv X bv σ (upd H Tp (.tup xs)) {s with heap:=h',toks:=t'}:=by
 have hn:H Tp=ZB:=I.hok.fresh hT
 have iG:∀b o,s.heap.get? b=ZA o->b≠Tp:=λb o e=>Oh (NK (NJ e) hT)
 have nf:∀b u,H b=ZA u->b∉fp:=λb u e z=>by rw[(hf b z).1]at e;cases e
 refine I.step (g':=s.gens) (d':=s.drawn) (ch:=fp) (λb hb=>⟨(hf b hb).2.2.2.1,(hf b hb).2.1,(hf b hb).2.2.2.2.1,(hf b hb).2.2.2.2.2⟩) (λb o _ _ hc e _=>k b o hc e) (λb o _ _ hc e _=>⟨o.slots,k b o hc e⟩)
  (λb o _ e n=>by rw[aG (iG b o e)];exact n) (λb o hc e=>⟨o,k b o hc e⟩) (λb ys e=>by rw[aG (cH e hn)];exact e) (λb o u e=>by rw[aG (cH e hn)];exact e)
  (λb ps e=>⟨#[],by rw[aG (cH e hn),e];simp⟩) (λm hm=>?_) (λb u e=>?_) I.bare
 ·obtain⟨o,es,ep,ho,r⟩:=hm
  exact⟨o,es,ep,k _ o (λz=>(hf _ z).2.1 rfl) ho,r⟩
 ·by_cases hb:b=Tp
  ·subst hb;rw[aI]at e;cases e;exact new
  ·rw[aG hb]at e
   refine(I.hok b u e).Mm (λc v hc q=>k c v ?_ q) (λc q=>by rw[aG (cH q hn)];exact q) λc ys q=>by rw[aG (cH q hn)];exact q
   rcases hc with z|z
   ·rw[z];exact nf b u e
   ·exact nf c _ z
def Inv.KB(I:Inv X bv σ H s)(hf:∀b∈fp,mQ X bv H b)(k:∀b o,b∉fp->s.heap.get? b=ZA o->h'.get? b=ZA o):Inv X bv σ H {s with heap:=h',toks:=t'}:=by
 have nf:∀b u,H b=ZA u->b∉fp:=λb u e z=>by rw[(hf b z).1]at e;cases e
 refine I.step (g':=s.gens) (d':=s.drawn) (ch:=fp) (λb hb=>⟨(hf b hb).2.2.2.1,(hf b hb).2.1,(hf b hb).2.2.2.2.1,(hf b hb).2.2.2.2.2⟩) (λb o _ _ hc e _=>k b o hc e) (λb o _ _ hc e _=>⟨o.slots,k b o hc e⟩)
  (λb o _ e n=>n) (λb o hc e=>⟨o,k b o hc e⟩) (λb ys e=>e) (λb o u e=>e)
  (λb ps e=>⟨#[],by rw[e];simp⟩) (λm hm=>?_) (λb u e=>?_) I.bare
 ·obtain⟨o,es,ep,ho,r⟩:=hm
  exact⟨o,es,ep,k _ o (λz=>(hf _ z).2.1 rfl) ho,r⟩
 ·refine(I.hok b u e).Mm (λc v hc q=>k c v ?_ q) (λc q=>q) λc ys q=>q
  rcases hc with z|z
  ·rw[z];exact nf b u e
  ·exact nf c _ z
end
def BN(K:Nt)(H:Hp)(a:ZE)(tt:Bool)(xs:List V):Prop:=if tt then SqT K H a xs else SqL K H a xs
def Mh(K:Nt)(a:ZE)(tt:Bool):It:=
 ⟨λi H=>∃xs x,BN K H a tt xs/\xs[i]?=ZA x,λi H x H'=>∃p v,x=.ref p/\H p=ZB/\H'=upd H p (.tup [.int (i:Nat),v])/\∀xs,BN K H a tt xs->xs[i]?=ZA v,λi H=>∃xs,BN K H a tt xs/\xs.length<=i⟩
def itAt(tt:Bool)(h:ZH)(it a:ZE)(i:Nat):Prop:=if tt then h.IsTupleIter it a i else h.IsListIter it a i
variable{h:ZH}
def itAt.obj{it a:ZE}(st:itAt tt h it a i):∃o,h.get? it=ZA o/\∀v,o.data≠ .cell v:=by
 cases tt with
 |true=>obtain⟨o,e,c,d⟩:=(show h.IsTupleIter it a i from st);exact⟨o,e,λv z=>by rw[d]at z;cases z⟩
 |false=>obtain⟨o,e,c,d⟩:=(show h.IsListIter it a i from st);exact⟨o,e,λv z=>by rw[d]at z;cases z⟩
def itAt.keep{it a:ZE}(st:itAt tt h it a i)(k:∀o,h.get? it=ZA o->h'.get? it=ZA o):itAt tt h' it a i:=by
 cases tt with
 |true=>obtain⟨o,e,r⟩:=(show h.IsTupleIter it a i from st);exact(show h'.IsTupleIter it a i from⟨o,k o e,r⟩)
 |false=>obtain⟨o,e,r⟩:=(show h.IsListIter it a i from st);exact(show h'.IsListIter it a i from⟨o,k o e,r⟩)
variable{elts:List ZG}
def AR{pos:Pos}(tt:Bool)(a e it:ZE)(hei:e≠it):
  BE P w K (.Tuple elts kk pos) (Mh K a tt) [e,it] e (λi h=>(∃old,IsEnum h e it i old)/\itAt tt h it a i) where
 mem:=by simp
 obj:=λi h st b hb=>by
  obtain⟨⟨old,he⟩,hi⟩:=st;rcases NG.mp hb with rfl|hb
  ·exact⟨_,he,λv z=>by have z':Data.fields _=Data.cell v:=z;cases z'⟩
  ·rw[NR.mp hb];exact hi.obj
 keep:=λi h h' st k=>by
  obtain⟨⟨old,he⟩,hi⟩:=st;exact⟨⟨old,k e (by simp) _ he⟩,hi.keep λo q=>k it (by simp) o q⟩
 item:=by
  intro X hP hw hK hc i bv s σ H E I hf st hg;subst hP hw hK;obtain⟨xs,x,hq,hx⟩:=hg;obtain⟨⟨old,he⟩,hi⟩:=st
  have key:∀(its:List NA),Vals xs its->(∀ys,BN X.K H a tt ys->ys=xs)->∀(fp0:List ZE)(St:Nat->ZH->Prop),Draws X.prog X.w X.A.in1 it fp0 its.toArray.size (λi v=>its.toArray[i]?=ZA v) St->e∉fp0->it∈fp0->St i s.heap →
    (∀h',St (i+1) h'->itAt tt h' it a (i+1)) →
    ZJ (ZK X.prog X.w) X.A (pyNext (.ref e)) (λr s1=>∃u,r=ZA u/\ZJ (ZK X.prog X.w) X.A (RI (.Tuple elts kk pos) (.ref e) u) (λ_ s2=>∃x' H',Inv X bv σ H' s2/\RelV x' u/\(Mh X.K a tt).yld i H x' H' ∧
     ((∃old,IsEnum s2.heap e it (i+1:Nat) old)/\itAt tt s2.heap it a (i+1))/\∀b∈ [e,it],H' b=ZB) E s1) E s:=by
   intro its rv uniq fp0 St D hef hif hst hnext;obtain⟨u,hu,ru⟩:=rv.get hx
   have hlt:i<its.toArray.size:=by
    have:=(NN.mp hu).1
    simpa using this
   have W:=WalksT.enumerateD D e hei hef hif;refine W.item i s _ _ hlt ⟨⟨old,he⟩,hst⟩ λTp vals h1 tk hPt hTsz hTup hMid hk=>⟨.ref Tp,rfl,?_⟩
   refine W.go elts kk pos i Tp {s with heap:=h1,toks:=tk} _ _ hMid λh2 hst2 hk2=>?_
   obtain⟨t,x',hPx,hvals⟩:=hPt;subst hvals
   have hxe:x'=u:=by
    have h1':its.toArray[i]?=ZA x':=hPx
    have h2':its.toArray[i]?=ZA u:=by simpa using hu
    rw[h1']at h2';exact Om h2'
   subst hxe
   have hTw:=W.apart i Tp h1 hMid;obtain⟨oT,eT,rT⟩:=hTup
   have eT2:h2.get? Tp=ZA oT:=hk2 Tp oT hTw eT
   have kAll:∀b o,b∉ [e,it]->s.heap.get? b=ZA o->h2.get? b=ZA o:=λb o hb q=>hk2 b o hb (hk b o hb q)
   obtain⟨⟨old2,he2⟩,hs2⟩:=hst2
   have hit2:=hnext h2 hs2
   have there:∀b∈ [e,it],∃o,h2.get? b=ZA o:=λb hb=>by
    rcases NG.mp hb with rfl|hb
    ·exact⟨_,he2⟩
    ·rw[NR.mp hb];obtain⟨o,q,_⟩:=hit2.obj;exact⟨o,q⟩
   have hn:H Tp=ZB:=I.hok.fresh hTsz
   have new:ObjOk X.prog X.w (upd H Tp (.tup [.int (i:Nat),x])) h2 Tp (.tup [.int (i:Nat),x]):=
    ⟨by show 2<=ZI;decide,[.int (i:Nat) t,x'],.cons ⟨t,rfl⟩ (.cons ru .nil),⟨oT,eT2,rT⟩⟩
   have I2:=I.MJ (t':=tk) hf kAll there hTsz new;refine⟨.ref Tp,_,I2,rfl,⟨Tp,x,rfl,hn,rfl,λys hy=>by rw[uniq ys hy];exact hx⟩,⟨⟨old2,he2⟩,hit2⟩,λb hb=>?_⟩
   have hbT:b≠Tp:=λz=>by
    obtain⟨o,q⟩:∃o,s.heap.get? b=ZA o:=by
     rcases NG.mp hb with rfl|hb
     ·exact⟨_,he⟩
     ·rw[NR.mp hb];obtain⟨o,q,_⟩:=hi.obj;exact⟨o,q⟩
    exact absurd (NK (NJ q) hTsz) (by rw[z];exact N4 _)
   rw[aG hbT];exact(hf b hb).1
  have hne:∀b∈ [e,it],a≠b:=λb hb z=>by
   have hb':=(hf b hb).1;rw[<-z]at hb'
   have hbs:=hf b hb
   cases tt with
   |true=>
    have hq':SqT X.K H a xs:=hq;rcases hq' with(q|⟨o,q⟩)|⟨o,its,n,q,_⟩
    ·rw[hb']at q;cases q
    ·rw[hb']at q;cases q
    ·rcases hbs.2.2.2.1 with z1|z1
     ·exact I.ok.noex a o (I.ok.mod.kin a o q) (z▸z1)
     ·exact absurd (NK (NJ (I.ok.bs a o (I.ok.mod.kin a o q)).1) (z▸z1)) (N4 _)
   |false=>
    have hq':SqL X.K H a xs:=hq;rcases hq' with(q|⟨o,q⟩)|⟨o,its,n,q,_⟩
    ·rw[hb']at q;cases q
    ·rw[hb']at q;cases q
    ·rcases hbs.2.2.2.1 with z1|z1
     ·exact I.ok.noex a o (I.ok.mod.kin a o q) (z▸z1)
     ·exact absurd (NK (NJ (I.ok.bs a o (I.ok.mod.kin a o q)).1) (z▸z1)) (N4 _)
  have hea:e≠a:=λz=>hne e (by simp) z.symm
  have hia:it≠a:=λz=>hne it (by simp) z.symm
  cases tt with
  |true=>
   have hq':SqT X.K H a xs:=hq;obtain⟨its,rv,p,hz⟩:=I.tuple hq'
   exact key its rv (λys hy=>I.Mo hy hq') _ _ (Enu.tupDraws (A:=X.A.in1) (I.ok.hd hc) it a (Rn hia) its.toArray) (by simp[hei,hea]) (by simp) ⟨hi,p⟩ λh' z=>z.1
  |false=>
   have hq':SqL X.K H a xs:=hq;obtain⟨its,rv,p,hz⟩:=I.list hq';exact key its rv (λys hy=>I.Mr hy hq') _ _ (Draws.list (A:=X.A.in1) (I.ok.hd hc) it a (Rn hia) its.toArray) (by simp[hei,hea]) (by simp) ⟨hi,p.isList⟩ λh' z=>z.1
 done:=by
  intro X hP hw hK hc i bv s σ H E I hf st hg;subst hP hw hK;obtain⟨xs,hq,hx⟩:=hg;obtain⟨⟨old,he⟩,hi⟩:=st
  have fin:∀h',UH it s.heap h'->(ZB:Option NA)=ZB/\Inv X bv σ H {s with heap:=h'}:=λh' eb=>⟨rfl,I.KB (t':=s.toks) hf λb o hb q=>eb b o (λz=>hb (by simp[z])) q⟩
  cases tt with
  |true=>
   have hq':SqT X.K H a xs:=hq;obtain⟨its,rv,p,hz⟩:=I.tuple hq'
   have hl:=rv.length
   have hnone:its.toArray[i]?=ZB:=by simp;omega
   have hT:s.TypeIs (.ref e) "enumerate":=⟨_,he,rfl⟩;unfold pyNext;refine Nq (Qh (Og (name:=NM "__next__") hT TY (Ol TY hT F.entry_enumerate_next ?_ (F.args_enumerate_next_1 _))))
   show ZJ (ZK X.prog X.w) _ (field (.ref e) 2 >>= _) _ _ _
   refine Nq (Of he rfl (x:=.ref it) rfl ?_)
   refine Nq (Enu.tupStop (I.ok.hd hc) hi p hnone λh' x he' hx'=>?_)
   obtain⟨o,ho,hcl⟩:=hx'
   exact Nq (Se (T:="StopIteration") (b:=ZC) ⟨o,ho,hcl⟩ SU (Nz (fin h' he')))
  |false=>
   have hq':SqL X.K H a xs:=hq;obtain⟨its,rv,p,hz⟩:=I.list hq'
   have hl:=rv.length
   have hnone:its.toArray[i]?=ZB:=by simp;omega
   exact wpAny_pyNext_enum_end (I.ok.hd hc) he hi p.isList hnone fin
 self:=λ_ _ _ _ _ st h=>by
  obtain⟨⟨old,he⟩,_⟩:=st;exact Vz he h
section
variable {tpos:Pos}
def qE:Oq "enumerate" =ZA (.type "enumerate"):=by decide+kernel
def iEnu(K:Nt)(tl:TA):TI:=λσ H R=>tl σ H λvs H1=>∃a tt,vs=[.ref a]/\(∃xs,BN K H1 a tt xs)/\R (Mh K a tt) H1
def F0{l:ZG}{tl:TA}{p pos:Pos}(hg:Gl X "enumerate")(hm:X.mg "enumerate" =ZB)(hl:PA X [l] tl)(hs:autoParam (NZ [l] X.env=[(ZD,eval l X.env)]) u_):PI X (.Tuple elts kk tpos) (.Call (.Name "enumerate" p) [l] [] pos) (iEnu X.K tl):=by
 intro bv s σ H R I h;refine Call_ (fR I hg hm qE (On (cF (hl pos bv s σ H _ I h) λus s1 ⟨vs,H1,I1,r1,q1⟩=>?_) hs rfl))
 obtain⟨a,tt,e,⟨xs,hq⟩,q⟩:=q1;subst e;obtain⟨u,rfl,ru⟩:=kY r1;cases ru
 have fin:∀h',IsEnum h' (s1.heap.objs.size+1) s1.heap.objs.size 0 .none->itAt tt h' s1.heap.objs.size a 0->h'.objs.size=s1.heap.objs.size+2->(∀b o,s1.heap.get? b=ZA o->h'.get? b=ZA o) →
   ZJ (ZK X.prog X.w) X.A (pyIter (.ref (s1.heap.objs.size+1))) (PIE X bv σ (.Tuple elts kk tpos) R) X.xe {s1 with heap:=h'}:=λh' he hi hsz hk=>by
  refine Vz he ?_
  have I2:Inv X bv σ H1 {s1 with heap:=h'}:=I1.kept (t':=s1.toks) hk
  refine⟨s1.heap.objs.size+1,[s1.heap.objs.size+1,s1.heap.objs.size],_,_,H1,rfl,I2,AR tt a (s1.heap.objs.size+1) s1.heap.objs.size (Nat.succ_ne_self _),⟨⟨_,he⟩,hi⟩,λb hb=>?_,q⟩
  rcases NG.mp hb with rfl|hb
  ·exact I1.Mw (by omega) (I1.hok.fresh (by omega))
  ·rw[NR.mp hb];exact I1.Mw (NL _) (I1.hok.fresh (NL _))
 cases tt with
 |true=>
  have hq':SqT X.K H1 a xs:=hq;obtain⟨its,rv,pl,hz⟩:=I1.tuple hq'
  exact Enu.callT pl λh' he hi hsz hk=>fin h' he hi hsz hk
 |false=>
  have hq':SqL X.K H1 a xs:=hq;obtain⟨its,rv,pl,hz⟩:=I1.list hq';exact call_enumerate_list pl.isList λh' he hi hsz hk=>fin h' he hi hsz hk
end
end L2
namespace Tr
open PySem PySem.Spec PyProof.Rows L2
section
variable {X:Cx}{a:ZG}{fa:W5}{fs:W3}{p pos:Pos}
def iS(f:W5)(Z:En):Rs (List T):=do
 let x <-f Z
 match x with
 |.lst l=>.ok l
 |.tup l=>.ok l
 |_=>.bad
def Iz{tg:ZG}(ha:cQ X a fa):BO X tg a (iS fa):=by
 intro bv s σ H R I ⟨Z,O,E,h⟩;unfold iS at h
 cases q:fa Z with
 |bad=>rw[q]at h;exact h.elim
 |err c=>exact zJ ha bv s σ H R I ⟨Z,O,E,by unfold iL;rw[q]at h ⊢;exact h⟩
 |ok x=>
  rw[q,aF]at h
  cases x with
  |lst l=>exact zJ ha bv s σ H R I ⟨Z,O,E,by unfold iL;rw[q];exact h⟩
  |tup l=>exact Iy ha bv s σ H R I ⟨Z,O,E,by unfold iT;rw[q];exact h⟩
  |_=>exact h.elim
def ck:Nat->List T->List T
 |_,[] =>[]
 |n,t::r=>.tup [.int n,t] ::ck (n+1) r
theorem sS:∀(l:List T)(n i:Nat),(ck n l)[i]?=(l[i]?).map λt=>T.tup [.int ((n+i:Nat):Int),t]
 |[],n,i=>by simp[ck]
 |t::l,n,0=>by simp[ck]
 |t::l,n,i+1=>by
  rw[ck,Pn,sS l (n+1) i,Pn]
  congr 2
  funext t
  congr 4
  omega
theorem sR:∀(l:List T)(n:Nat),(ck n l).length=l.length
 |[],n=>rfl
 |t::l,n=>by rw[ck,ND,ND,sR l]
def iE(f:W3)(Z:En):Rs (List T):=do
 let xs <-f Z
 match xs with
 |[x] =>match x.items with
  |some l=>.ok (ck 0 l)
  |none=>.bad
 |_=>.bad
def FF{elts:List ZG}{tpos:Pos}(hm:X.mg "enumerate" =ZB)(ha:tD X [a] fs)(hg:autoParam (Gl X "enumerate") u_)(hs:autoParam (NZ [a] X.env=[(ZD,eval a X.env)]) u_):
  BO X (.Tuple elts kk tpos) (.Call (.Name "enumerate" p) [a] [] pos) (iE fs):=PI.imp (F0 hg hm ha hs) λσ H R hh_=>by
 obtain⟨Z,O,E,h⟩:=hh_;obtain⟨Z1,O1,E1,h1⟩:=fq E h;refine⟨Z1,O1,E1,Post.mono h1 λts H1 s1 q vs r=>?_⟩
 obtain⟨t',r',s',E',q'⟩:=q vs r
 split at q'
 ·rename_i x0
  obtain⟨v,rfl,rv⟩:=r'.one
  split at q'
  ·rename_i l hl
   have main:∀(aa:ZE)(tt:Bool)(ws:List V),v=.ref aa->¬ O aa->Reps X.K O H1 l ws->BN X.K H1 aa tt ws->(∀P Hc,SameO P H1 Hc->¬ P aa->BN X.K Hc aa tt ws)->¬ Nw X.K H1 aa →
     ∃a tt,[v]=[V.ref a]/\(∃xs,BN X.K H1 a tt xs)/\R (Mh X.K a tt) H1:=λaa tt ws e n z sq mv nn=>by
    refine⟨aa,tt,by rw[e],⟨ws,sq⟩,q' H1 (Same.refl H1) _ λP O' hP hO i Hc hsm htr=>?_⟩
    have hnP:¬ P aa:=λy=>(hP aa y).elim n nn
    have sqc:=mv P Hc hsm hnP;refine⟨λhi=>⟨ws,sqc,by rw[<-z.length,<-sR l 0];exact hi⟩,λt ht=>?_⟩
    rw[sS]at ht
    cases e1:l[i]? with
    |none=>rw[e1]at ht;cases ht
    |some t0=>
     rw[e1]at ht;cases ht;obtain⟨v0,f1,f2⟩:=z.get e1;refine⟨⟨ws,v0,sqc,f1⟩,λx Hc' y=>?_⟩
     obtain⟨pp,vv,e2,hpn,e3,hy⟩:=y
     have:=hy ws sqc;rw[f1]at this;cases this;subst e2 e3;refine⟨aW hpn _,iN hpn (λzz=>?_) (Reps.FM (by simpa using Rep.GE _) (Reps.FM (f2.move hP hO hsm) Reps.nil_))⟩
     obtain⟨o,w⟩:=htr pp zz;rw[hpn]at w;cases w
   cases x0 with
   |tup m=>
    cases hl;obtain⟨aa,ws,e,n,qq,z⟩:=Rep.Fk.mp rv
    exact main aa ZC ws e n z (show SqT X.K H1 aa ws from SqT.of qq) (λP Hc hsm hn=>show SqT X.K Hc aa ws from SqT.of (hsm _ _ qq hn)) λw=>by rw[w.1]at qq;cases qq
   |lst m=>
    cases hl;obtain⟨aa,ws,e,n,qq,z⟩:=Rep.Do.mp rv
    exact main aa ZD ws e n z (show SqL X.K H1 aa ws from SqL.of qq) (λP Hc hsm hn=>show SqL X.K Hc aa ws from SqL.of (hsm _ _ qq hn)) λw=>by rw[w.1]at qq;cases qq
   |scr m=>
    cases hl;unfold Rep at rv;obtain⟨aa,e,n,qq⟩:=rv
    exact main aa ZD _ e n Reps.ints (show SqL X.K H1 aa _ from qq) (λP Hc hsm hn=>show SqL X.K Hc aa _ from Tr.SqL.keep hsm hn qq) (Tr.SqL.nn qq)
   |_=>cases hl
  ·exact q'.elim
 ·exact q'.elim
end
end Tr
namespace Tm
open PySem PyProof.Rows
def m7:fillsNumberSlot (.type "tuple") "mul" =pure ZD:=
 PySem.fillsNumberSlot_seq (id:="tuple.__mul__") (r:=ZA (.builtin "tuple.__rmul__")) Tx.lookup (by decide+kernel) Vo.lookup (by decide+kernel)
def ua:seqRepeat? (.type "tuple")=pure (ZA (.builtin "tuple.__mul__")):=by
 unfold seqRepeat?;rw[VZ (T:="tuple") (name:="__mul__") (id:="tuple.__mul__") Tx.lookup (by decide+kernel),VZ (T:="tuple") (name:="__rmul__") (id:="tuple.__rmul__") Vo.lookup (by decide+kernel)]
 rfl
def yw(a:Int)(t:Tok)(l:ZE)(items:Array NA)(n:Nat)(dd:Option ZE)(sl:Array (Option NA)):
  Meets (Builtin.«int.__rmul__» ⟨[.int a t,.ref l],[]⟩) (λ_ R s=>s.heap.get? l=ZA {cls:=.type "tuple",dict:=dd,data:=.seq items n,slots:=sl}/\R (.ok (.ret Uu)) s):=
 .of_wp λprog w A R s h=>by obtain⟨hp,g,d,tk,os⟩:=s;obtain⟨hl,h⟩:=h;wp_walk;exact⟨_,rfl,h⟩
open AutoSeq1 (wpAny_loadPart')
def C9(l:ZE)(items:Array NA)(n:Nat)(dd:Option ZE)(sl:Array (Option NA))(x:Int)(u:Tok)(h1:1<x)(h2:x<2 ^ 31)(hne:items.isEmpty=ZD)(hz:items.size*x.toNat<=ZI)
  (hz2:(S3 (λa b=>a++b) #[] (N5 x.toNat items)).size<=ZI):
  Meets (Builtin.«tuple.__mul__» ⟨[.ref l,.int x u],[]⟩) (λ_ R s=>s.heap.get? l=ZA {cls:=.type "tuple",dict:=dd,data:=.seq items n,slots:=sl} ∧
   R (.ok (.ret (NQ s.heap.objs.size))) {s with heap:=s.heap.push {cls:=OM "tuple",data:=Data.seq (S3 (λa b=>a++b) #[] (N5 x.toNat items))}}):=
 .of_wp λprog w A R s h=>by
  obtain⟨hp,g,d,tk,os⟩:=s;obtain⟨hl,h⟩:=h
  have hT:WD hp l items:=⟨_,hl,rfl,n,rfl⟩
  have hx:((items.size:Nat):Int)*x=((items.size*x.toNat:Nat):Int):=by
   have e:x=((x.toNat:Nat):Int):=by omega
   rw[Int.natCast_mul,<-e]
  wp_walk using Pp hl
  rw[if_neg (by simp;omega)]
  refine Nq (Vc (s:=⟨hp,g,d,tk,os⟩) hT ?_)
  dsimp only
  rw[if_neg (by rw[hne];simp;omega),if_neg (by rw[hne];simp;omega),hx,if_neg (by have:(ZI:Nat)<=1000000000:=(by decide);omega),if_neg (by unfold Builtin.Tuple.tupleTooMany;rw[decide_eq_true_iff];omega)]
  refine Nq (m:=PK _) (OR ?_ hz2)
  exact Nz ⟨_,rfl,h⟩
def mul_tuple{t:ZE}{k:Int}{tk:Tok}(ht:WD s.heap t vs.toArray)(h1:1<k)(h2:k<2 ^ 31)(hv:vs≠ [])(hz:vs.length*k.toNat<=ZI)
  (h:Q (.ref s.heap.objs.size) {s with heap:=s.heap.push {cls:=.type "tuple",data:=.seq (N5 k.toNat vs).flatten.toArray}}):
  ZJ (ZK prog w) A (PM .Mult (.ref t) (.int k tk)) Q E s:=by
 obtain⟨⟨cls,dd,data,sl⟩,ho,hc,n,hd⟩:=id ht;simp only at hc hd;subst hc hd
 have e:S3 (λa b=>a++b) #[] (N5 k.toNat vs.toArray)=(N5 k.toNat vs).flatten.toArray:=by
  have q:=L2.foldl_rep vs k.toNat []
  simpa using q
 refine SQ (T:="tuple") (U:="int") (by decide) ⟨_,ho,rfl⟩ (λs'=>Ur s' k tk) m7 Wi So ua VW.lookup
  (Sj So (Ur s k tk) VX (Vm _ _) (yw k tk t vs.toArray n dd sl)
   ⟨ho,rfl,⟨_,ho,rfl⟩,Sj Tx ⟨_,ho,rfl⟩ F.entry_tuple_mul (F.args_tuple_mul_2 _ _) (C9 t vs.toArray n dd sl k tk h1 h2 (by simpa using hv) (by simpa using hz) (by rw[e,NP,L2.len_rep,VE];exact hz)) ⟨ho,?_⟩⟩)
 rw[e];exact h
end Tm
namespace Tr
open PySem PySem.Spec PyProof.Rows L2
variable{X:Cx}
def bY(x y:T):Rs T:=match x,y with
 |.tup l,.int k=>if 1<k/\k<2 ^ 31/\l≠ []/\l.length*k.toNat<=ZI then .ok (.tup (N5 k.toNat l).flatten)else .bad
 |x,y=>yQ x y
instance (l:List T):Decidable (l≠ []):=by cases l <;> simp <;> infer_instance
def dk:OpT X (PM .Mult) bY:=by
 intro bv s σ H O x y vx vy ux uy Q I hf rx ry r1 r2 hp;unfold bY at hp
 split at hp
 ·rename_i l k
  split at hp
  ·rename_i h
   obtain⟨a,vs,e1,n1,q1,z1⟩:=Rep.Fk.mp rx;subst e1;cases Rep.Da.mp ry;cases r1;obtain⟨tk,rfl⟩:=r2;obtain⟨its,rv,pl,hz⟩:=I.tuple (SqT.of q1)
   have hl1:=z1.length
   have hl2:=rv.length
   have hne:its≠ []:=λz=>h.2.2.1 (List.eq_nil_of_length_eq_zero (by rw[hl1,hl2,z];rfl))
   refine Tm.mul_tuple pl h.1 h.2.1 hne (by rw[<-hl2,<-hl1];exact h.2.2.2) ?_
   have hn:=I.hok.fresh (NL _);refine⟨.ref _,_,I.laid (t':=s.toks) (o:=.tup (N5 k.toNat vs).flatten) (λb ob q=>Nr _ q) (NL _) ?_,rfl,hp _ (aW hn _) _ (iN hn (hf _ hn) (z1.rep _))⟩
   refine⟨?_,_,rv.rep k.toNat,Wg _ _⟩
   rw[len_rep,VE,<-hl1];exact h.2.2.2
  ·exact hp.elim
 ·exact Ja bv s σ H O _ _ vx vy ux uy Q I hf rx ry r1 r2 hp
def Jt(outer:List (Str×Q6))(N:List Str)(names:List (Str×Q6))(N':List Str)(src:List (Option Nat)):Bool:=
 names.all (λy=>y.2 != .cell||names.lookup y.1 == ZA .cell)&&names.all (λy=>y.2 != .local||names.lookup y.1 == ZA .local)&&src.length == N'.length&&
 (OU N'.length).all (λj=>match src[j]? with
  |some (ZA i)=>match N'[j]? with
   |some x=>N[i]? == ZA x&&names.lookup x == ZA .free
   |none=>ZC
  |_=>ZC)&&
 names.all (λy=>y.2 != .free||(outer.lookup y.1 == ZA .cell||outer.lookup y.1 == ZA .free))
variable{N:List Str}
theorem LcScope.by{N':List Str}{src:List (Option Nat)}{names:List (Str×Q6)}(hN:X.N=N)(hs:X.env.scope.names=names)(hk:scope.kind=.function)(h:Jt names N scope.names N' src=ZC):LcScope X scope N' src:=by
 unfold Jt at h;simp only[NC]at h;obtain⟨⟨⟨⟨h1,h2⟩,h3⟩,h4⟩,h5⟩:=h
 have a1:=N9.mp h1
 have a2:=N9.mp h2
 have a4:=N9.mp h4
 have a5:=N9.mp h5;refine⟨hk,λy hy hl=>by have:=a1 y hy;rw[hl]at this;simpa using this,λy hy hl=>?_,by simpa using h3,λj i x e1 e2=>?_,λx hx=>?_⟩
 ·have:=a2 y hy
  rw[hl]at this
  simpa using this
 ·have hj:j<N'.length:=(NN.mp e2).1
  have:=a4 j (Pa.mpr hj);rw[e1]at this;simp only[e2]at this;rw[NC]at this;rw[hN];exact⟨by simpa using this.1,by simpa using this.2⟩
 ·have:=a5 _ hx
  simp only[bne_self_eq_false,Td,Wj]at this
  show X.env.scope.names.lookup x=_\/X.env.scope.names.lookup x=_
  rw[hs];rcases this with z|z
  ·exact .inl (by simpa using z)
  ·exact .inr (by simpa using z)
def bQ:ZG->Bool
 |.Starred .. =>ZD
 |_=>ZC
def bP:List ZG->Bool
 |[] =>ZC
 |e::r=>bQ e&&bP r
variable{e:ZG}{env:Env}{es:List ZG}
def bo(h:bQ e=ZC):NZ (e::es) env=(ZD,eval e env)::NZ es env:=by
 cases e <;> first|rfl|cases h
theorem gJ{pos:Pos}{env:Env}:∀{es:List ZG},bP es=ZC->(backTo pos (NZ es env)).any (·.1)=ZD
 |[],_=>rfl
 |e::r,h=>by
  unfold bP at h;rw[NC]at h;rw[bo h.1]
  have ih:=gJ (pos:=pos) (env:=env) h.2
  show(ZD||(backTo pos (NZ r env)).any (·.1))=ZD
  rw[ih];rfl
variable{a:ZG}{f fa:W5}{g:List T->Rs T}{ps:List Str}{x:Str}
section
variable {b:ZG}{fs:W3}{pos p p2:Pos}
def qa_c{g:W3}(he:cQ X e f)(hr:tD X es g)(hn:autoParam (bQ e=ZC) u_):tD X (e::es) (af f g):=FI he hr (bo hn)
def q_cB{id:String}(hc:CallT X (.builtin id) g)(hm:X.mg x=ZB)(hv:Oq x=ZA (.builtin id))(ha:tD X (e::es) fs)(hn:autoParam (bP (e::es)=ZC) u_)(hg:autoParam (Gl X x) u_)(h1:autoParam (x≠ "__name__") s_)(h2:autoParam ((x == ("__debug__" : Str))=ZD) s_):
  cQ X (.Call (.Name x p) (e::es) [] pos) (cl g fs):=by
 unfold bP at hn;rw[NC]at hn;exact FL hc hm hv ha hg h1 h2 (bo hn.1) (gJ hn.2)
def q_cT(hc:CallT X (.type Ty) g)(hm:X.mg x=ZB)(hv:Oq x=ZA (.type Ty))(ha:tD X (e::es) fs)(hn:autoParam (bP (e::es)=ZC) u_)(hg:autoParam (Gl X x) u_)(h1:autoParam (x≠ "__name__") s_)(h2:autoParam ((x == ("__debug__" : Str))=ZD) s_):
  cQ X (.Call (.Name x p) (e::es) [] pos) (cl g fs):=by
 unfold bP at hn;rw[NC]at hn;exact CB hc hm hv ha hg h1 h2 (bo hn.1) (gJ hn.2)
def q_c{k:Nat}{f:ZE}(F:J9 X.prog X.w X.K X.mg X.base k f fd ps n g)(hr:Room k X.A)(hm:X.mg x=ZA (.ref f))(hk:RX X.K (.ref f)=ZC)(hb:Binds X.K fd ps [])
  (hl:∀Z ts,fs Z=.ok ts->ts.length=n) (ha:tD X (e::es) fs) (hps:autoParam (ps.length=n) u_) (hn:autoParam (bP (e::es)=ZC) u_) (hg:autoParam (Gl X x) u_) (h2:autoParam ((x == ("__debug__" : Str))=ZD) s_):cQ X (.Call (.Name x p) (e::es) [] pos) (cl g fs):=by
 unfold bP at hn;rw[NC]at hn;exact IG F hr hm hk hb hps hl ha hg h2 (bo hn.1) (gJ hn.2)
def q_is{tn:Str}(hm:X.mg "isinstance" =ZB)(hmt:X.mg tn=ZB)(hv:Oq tn=ZA (.type Ty))(ha:cQ X a fa)(hn:autoParam (bQ a=ZC) u_)(hg:autoParam (Gl X "isinstance") u_)(hgt:autoParam (Gl X tn) u_)
  (h1:autoParam (tn≠ "__name__") s_) (h2:autoParam ((tn == ("__debug__" : Str))=ZD) s_):cQ X (.Call (.Name "isinstance" p) [a,.Name tn p2] [] pos) (o1 (Gv Ty) fa):=
 KY hm hmt hv ha hg hgt h1 h2 (bo hn) (gJ rfl) (bo rfl)
end
def LQ(Z:En)(ts:List T)(h:ai Z=.ok ts):ts.length=0:=by cases h;rfl
def LP{g:W3}(hg:∀Z ts,g Z=.ok ts->ts.length=n)(Z:En)(ts:List T)(h:af f g Z=.ok ts):ts.length=n+1:=by
 unfold af at h
 cases q:f Z with
 |bad=>rw[q]at h;cases h
 |err c=>rw[q]at h;cases h
 |ok t=>
  rw[q,aF]at h
  cases q2:g Z with
  |bad=>rw[q2]at h;cases h
  |err c=>rw[q2]at h;cases h
  |ok r=>
   rw[q2,aF]at h;cases h;rw[ND,hg Z r q2]
def jH{k:Nat}(h:Room k A):A.units+60<cLine:=by have:=h.un;omega
def yY{k:Nat}(h:Room k A):A.units+61<cLine:=by have:=h.un;omega
structure Fn (K:Nt)(mg:W0)(x:Str)(st:ZF)(ps:List Str)(f:ZE)(fd:PN):Prop where
 fn:L2.Fun K x x st f fd
 bd:Binds K fd ps []
 mg:mg x=ZA (.ref f)
def val(n m:Nat)(F:W4)(ts:List T):Rs T:=if ts.length=n then bU F (aU m ts)else .bad
variable{ts:List T}
def HH{F:W4}{t:T}(h:val n m F ts=.ok t):bU F (aU m ts)=.ok t:=by
 unfold val at h
 split at h
 ·exact h
 ·cases h
variable{H:Hp}
def sp_script{a:ZE}{E:XK}(hS:SqL K H a (ns.map V.int))(h:g [.scr ns]=.ok (.bl ZC)):spP K 1 g [.ref a] H (λv _=>v=.bl ZC) E:=by
 refine⟨[.scr ns],λ_=>False,Reps.FM ?_ Reps.nil_,λ_ z=>z.elim,rfl,?_⟩
 ·unfold Rep;exact⟨a,rfl,λz=>z,hS⟩
 ·rw[h];exact λv H' _ r=>Rep.FB.mp r
def wa{l:List α}{z:α}(h:l[i]?=ZA z):l.set i z=l:=by
 obtain⟨hi,rfl⟩:=NN.mp h
 exact TZ hi
def Mn.set(M:Mn)(i:Nat)(m:Ow):Mn:=λj=>if j=i then m else M j
variable{M:Mn}{m:Ow}
def Mn.Mx{a:ZE}(h:(M.set i m).u a):m a\/M.u a:=by
 obtain⟨j,h⟩:=h;unfold Mn.set at h
 by_cases z:j=i
 ·rw[if_pos z]at h;exact .inl h
 ·rw[if_neg z]at h;exact .inr ⟨j,h⟩
def Mn.MT:M.set i m i=m:=by unfold Mn.set;rw[if_pos rfl]
def Mn.My(h:j≠i):M.set i m j=M j:=by unfold Mn.set;rw[if_neg h]
variable{H':Hp}{O O':Ow}
theorem RowsR.move{P:Ow}(hP:∀a,P a->O a\/Nw K H a)(hO:∀a,O' a->O a\/Nw K H a)(h:SameO P H H'):∀{rs:List (List T×List T)}{as:List ZE},(∀b∈as,¬P b)->RowsR K O H rs as->RowsR K O' H' rs as
 |[],_,_,r=>r
 |_::_,_,hb,⟨b,bs,kvs,e1,e2,e3,e4,e5⟩=>by
  subst e1;exact⟨b,bs,kvs,rfl,h _ _ e2 (hb b Nv),e3,e4.move hP hO h,e5.move hP hO h λc hc=>hb c (Nu _ hc)⟩
theorem LsR.move{P:Ow}(hP:∀a,P a->O a\/Nw K H a)(hO:∀a,O' a->O a\/Nw K H a)(h:SameO P H H'):∀{rs:List (List T)}{as:List ZE},(∀b∈as,¬P b)->LsR K O H rs as->LsR K O' H' rs as
 |[],_,_,r=>r
 |_::_,_,hb,⟨b,bs,vs,e1,e2,e4,e5⟩=>by
  subst e1;exact⟨b,bs,vs,rfl,h _ _ e2 (hb b Nv),e4.move hP hO h,e5.move hP hO h λc hc=>hb c (Nu _ hc)⟩
variable{v:V}
theorem ORep.move{P M:Ow}{o:OT}(hP:∀a,P a->O a\/Nw K H a)(hO:∀a,O' a->O a\/Nw K H a)(h:SameO P H H')(hM:∀a,M a->¬ P a)(r:ORep K O M H o v):ORep K O' M H' o v:=by
 cases o with
 |lst l=>obtain⟨a,vs,e1,e2,e3,e4⟩:=r;exact⟨a,vs,e1,e2,h _ _ e3 (hM a ((e2 a).mpr rfl)),e4.move hP hO h⟩
 |dct ks ts=>obtain⟨a,kvs,e1,e2,e3,e4,e5⟩:=r;exact⟨a,kvs,e1,e2,h _ _ e3 (hM a ((e2 a).mpr rfl)),e4,e5.move hP hO h⟩
 |dd ks rows=>
  obtain⟨a,kvs,as,e1,e2,e3,e4,e5,e6,e7,e8⟩:=r
  exact⟨a,kvs,as,e1,e2,e3,e4,h _ _ e5 (hM a ((e2 a).mpr (.inl rfl))),e6,e7,e8.move hP hO h λb hb=>hM b ((e2 b).mpr (.inr hb))⟩
 |ob C ns ls=>
  obtain⟨a,dx,as,e1,e2,e3,e4,e5,e6,e7,e8⟩:=r;exact⟨a,dx,as,e1,e2,e3,h _ _ e4 (hM a ((e2 a).mpr (.inl rfl))),h _ _ e5 (hM dx ((e2 dx).mpr (.inr (.inl rfl)))),e6,e7,e8.move hP hO h λb hb=>hM b ((e2 b).mpr (.inr (.inr hb)))⟩
theorem RowsR.mtb:∀{rs:List (List T×List T)}{as:List ZE},RowsR K O H rs as->∀b∈as,∃kvs,H b=ZA (.dT kvs)
 |[],_,r,b,hb=>by unfold RowsR at r;subst r;simp at hb
 |_::_,_,⟨b0,bs,kvs,e1,e2,e3,e4,e5⟩,b,hb=>by
  subst e1;rcases NG.mp hb with rfl|hb
  ·exact⟨kvs,e2⟩
  ·exact e5.mtb b hb
theorem LsR.mtb:∀{rs:List (List T)}{as:List ZE},LsR K O H rs as->∀b∈as,∃vs,H b=ZA (.lst vs)
 |[],_,r,b,hb=>by unfold LsR at r;subst r;simp at hb
 |_::_,_,⟨b0,bs,kvs,e1,e2,e4,e5⟩,b,hb=>by
  subst e1;rcases NG.mp hb with rfl|hb
  ·exact⟨kvs,e2⟩
  ·exact e5.mtb b hb
def LO(H:Hp)(a:ZE):Prop:=(∃vs,H a=ZA (.lst vs))\/∃o,H a=ZA o/\isO o=ZC
def OT.isD:OT->Bool
 |.lst _=>ZD
 |.ob _ _ _=>ZD
 |_=>ZC
def ORep.kind{M:Ow}{o:OT}(r:ORep K O M H o v):∀a,M a->if o.isD then ∃kvs,H a=ZA (.dT kvs)else LO H a:=λa z=>by
 cases o with
 |lst l=>obtain⟨b,vs,e1,e2,e3,e4⟩:=r;cases (e2 a).mp z;exact .inl ⟨vs,e3⟩
 |dct ks ts=>obtain⟨b,kvs,e1,e2,e3,e4,e5⟩:=r;cases (e2 a).mp z;exact⟨kvs,e3⟩
 |dd ks rows=>
  obtain⟨b,kvs,as,e1,e2,e3,e4,e5,e6,e7,e8⟩:=r
  rcases(e2 a).mp z with z|z
  ·cases z;exact⟨kvs,e5⟩
  ·exact e8.mtb a z
 |ob C ns ls=>
  obtain⟨b,dx,as,e1,e2,e3,e4,e5,e6,e7,e8⟩:=r
  rcases(e2 a).mp z with z|z|z
  ·cases z;exact .inr ⟨_,e4,rfl⟩
  ·cases z;exact .inr ⟨_,e5,rfl⟩
  ·exact .inl (e8.mtb a z)
def ORep.mtb{M:Ow}{o:OT}(r:ORep K O M H o v)(a:ZE)(z:M a):Mtb H a:=by
 have:=r.kind a z
 split at this
 ·exact .inr (.inl this)
 ·exact this.imp_right .inr
theorem wq:∀{rs:List (List T×List T)}{as:List ZE},(∀b∈as,¬O b)->RowsR K O H rs as->Reps K O H (rs.map λr=>T.dct r.1 r.2) (as.map V.ref)
 |[],_,_,r=>by unfold RowsR at r;subst r;exact Reps.nil_
 |_::_,_,hn,⟨b,bs,kvs,e1,e2,e3,e4,e5⟩=>by
  subst e1;exact Reps.FM (Rep.Gc.mpr ⟨b,kvs,rfl,hn b Nv,.inl e2,e3,e4⟩) (wq (λc hc=>hn c (Nu _ hc)) e5)
theorem RowsR.less(sub:∀a,O' a->O a):∀{rs:List (List T×List T)}{as:List ZE},RowsR K O H rs as->RowsR K O' H rs as
 |[],_,r=>r
 |_::_,_,⟨b,bs,kvs,e1,e2,e3,e4,e5⟩=>⟨b,bs,kvs,e1,e2,e3,e4.less sub,e5.less sub⟩
theorem LsR.less(sub:∀a,O' a->O a):∀{rs:List (List T)}{as:List ZE},LsR K O H rs as->LsR K O' H rs as
 |[],_,r=>r
 |_::_,_,⟨b,bs,kvs,e1,e2,e4,e5⟩=>⟨b,bs,kvs,e1,e2,e4.less sub,e5.less sub⟩
theorem LsR.rep:∀{rs:List (List T)}{as:List ZE},(∀b∈as,¬O b)->LsR K O H rs as->Reps K O H (rs.map T.lst) (as.map V.ref)
 |[],_,_,r=>by unfold LsR at r;subst r;exact Reps.nil_
 |_::_,_,hn,⟨b,bs,kvs,e1,e2,e4,e5⟩=>by
  subst e1;exact Reps.FM (Rep.Do.mpr ⟨b,kvs,rfl,hn b Nv,e2,e4⟩) (LsR.rep (λc hc=>hn c (Nu _ hc)) e5)
theorem zx:∀{l:List α}{m:List β},l.length=m.length->(l.zip m).map (·.1)=l
 |[],[],_=>rfl
 |a::l,b::m,h=>by
  have h':l.length=m.length:=by simpa using h
  show a::(l.zip m).map (·.1)=_
  rw[zx h']
theorem zv:∀{l:List α}{m:List β},l.length=m.length->(l.zip m).map (·.2)=m
 |[],[],_=>rfl
 |a::l,b::m,h=>by
  have h':l.length=m.length:=by simpa using h
  show b::(l.zip m).map (·.2)=_
  rw[zv h']
theorem ORep.rep{M:Ow}{o:OT}(sub:∀a,O' a->O a)(hn:∀a,M a->¬ O' a)(r:ORep K O M H o v):Rep K O' H o.view v:=by
 cases o with
 |lst l=>obtain⟨a,vs,e1,e2,e3,e4⟩:=r;exact Rep.Do.mpr ⟨a,vs,e1,hn a ((e2 a).mpr rfl),e3,e4.less sub⟩
 |dct ks ts=>obtain⟨a,kvs,e1,e2,e3,e4,e5⟩:=r;exact Rep.Gc.mpr ⟨a,kvs,e1,hn a ((e2 a).mpr rfl),.inl e3,e4,e5.less sub⟩
 |dd ks rows=>
  obtain⟨a,kvs,as,e1,e2,e3,e4,e5,e6,e7,e8⟩:=r;refine Rep.Gc.mpr ⟨a,kvs,e1,hn a ((e2 a).mpr (.inl rfl)),.inl e5,e6,?_⟩
  rw[e7]
  exact wq (λb hb=>hn b ((e2 b).mpr (.inr hb))) (e8.less sub)
 |ob C ns ls=>
  obtain⟨a,dx,as,e1,e2,e3,e4,e5,e6,e7,e8⟩:=r
  have hl:ns.length=(as.map V.ref).length:=by rw[Ny];exact e6
  refine Rep.MD.mpr ⟨a,dx,_,e1,hn a ((e2 a).mpr (.inl rfl)),e4,zx hl,?_⟩
  rw[zv hl];exact(e8.less sub).rep λb hb=>hn b ((e2 b).mpr (.inr (.inr hb)))
variable{B:Ow}{Z:En}{σ:L2.St}
section
variable {o o':OT}
def Ev.new(E:Ev K B M H Z σ)(hl:i<Z.length)(hm:∀a,m a->Nw K H a)(s:Same H H')(r:ORep K (OO B (M.set i m)) m H' o v):
  Ev K B (M.set i m) H' (Z.set i (.ow o)) (σ.set i (ZA v))/\∀a,(M.set i m).u a->M.u a\/Nw K H a:=by
 have hls:i<σ.length:=by rw[<-E.env.len];exact hl
 have sub:∀a,(M.set i m).u a->M.u a\/Nw K H a:=λa z=>(Mn.Mx z).elim (λw=>.inr (hm a w)) .inl
 have subO:∀a,OO B (M.set i m) a->OO B M a\/Nw K H a:=λa z=>z.elim (λw=>.inl (.inl w)) λw=>(sub a w).elim (λy=>.inl (.inr y)) .inr
 have dg:∀a,Nw K H a->¬ OO B M a:=λa w z=>by
  obtain⟨o,e⟩:=(E.env.trk a z).some;rw[w.1]at e;cases e
 refine⟨⟨⟨by rw[OC,OC];exact E.env.len,λj t e=>?_,λj o' e=>?_,λj a z=>.inr ⟨j,z⟩,λj k a z1 z2=>?_,λa z=>?_⟩,λa z=>?_⟩,sub⟩
 ·by_cases hj:i=j
  ·subst hj;rw[NV hl]at e;cases e
  ·rw[NW hj]at e
   obtain⟨w,e1,e2⟩:=E.env.val j t e;exact⟨w,by rw[NW hj];exact e1,(e2.more subO).same s⟩
 ·by_cases hj:i=j
  ·subst hj
   rw[NV hl]at e
   cases e;exact⟨v,NV hls,by rw[Mn.MT];exact r⟩
  ·rw[NW hj]at e
   obtain⟨w,e1,e2⟩:=E.env.own j o' e;refine⟨w,by rw[NW hj];exact e1,?_⟩
   rw[Mn.My (λz=>hj z.symm)]
   exact(e2.move (P:=yJ) (λ_ z=>z.elim) subO (λb u q _=>q) λ_ _ z=>z).same s
 ·unfold Mn.set at z1 z2
  by_cases hj:j=i
  ·by_cases hk:k=i
   ·exact hj.trans hk.symm
   ·rw[if_pos hj]at z1;rw[if_neg hk]at z2
    exact(dg a (hm a z1) (.inr ⟨k,z2⟩)).elim
  ·by_cases hk:k=i
   ·rw[if_neg hj]at z1;rw[if_pos hk]at z2
    exact(dg a (hm a z2) (.inr ⟨j,z1⟩)).elim
   ·rw[if_neg hj]at z1;rw[if_neg hk]at z2
    exact E.env.dis j k a z1 z2
 ·rcases z with z|z
  ·exact(E.env.trk a (.inl z)).same s
  ·rcases Mn.Mx z with w|w
   ·exact r.mtb a w
   ·exact(E.env.trk a (.inr w)).same s
 ·intro hb
  rcases Mn.Mx z with w|w
  ·exact dg a (hm a w) (.inl hb)
  ·exact E.mine a w hb
def Ev.put(E:Ev K B M H Z σ)(hi:Z[i]?=ZA (.ow o))(hs:σ[i]?=ZA (ZA v))(s:SameO (M i) H H')(r:ORep K (OO B M) (M i) H' o' v):Ev K B M H' (Z.set i (.ow o')) σ/\SameO M.u H H':=by
 have hl:i<Z.length:=(NN.mp hi).1
 have inO:∀a,M i a->OO B M a\/Nw K H a:=λa z=>.inl (.inr ⟨i,z⟩)
 have idO:∀a,OO B M a->OO B M a\/Nw K H a:=λa z=>.inl z
 refine⟨⟨⟨by rw[OC];exact E.env.len,λj t e=>?_,λj o2 e=>?_,E.env.sub,E.env.dis,λa z=>?_⟩,E.mine⟩,λb u e n=>s b u e λz=>n ⟨i,z⟩⟩
 ·by_cases hj:i=j
  ·subst hj;rw[NV hl]at e;cases e
  ·rw[NW hj]at e
   obtain⟨w,e1,e2⟩:=E.env.val j t e;exact⟨w,e1,e2.move inO idO s⟩
 ·by_cases hj:i=j
  ·subst hj
   rw[NV hl]at e
   cases e;exact⟨v,hs,r⟩
  ·rw[NW hj]at e
   obtain⟨w,e1,e2⟩:=E.env.own j o2 e;exact⟨w,e1,e2.move inO idO s λa z y=>hj (E.env.dis i j a y z)⟩
 ·by_cases hz:M i a
  ·exact r.mtb a hz
  ·exact(E.env.trk a z).at λo e=>s _ _ e hz
def disown(i:Nat)(Z:En):En:=match Z[i]? with
 |some (.ow o)=>Z.set i (.va o.view)
 |_=>Z
theorem EnvM.disown(E:EnvM K O M H Z σ)(i:Nat)(sub:∀a,O' a->O a)(hn:∀a,M i a->¬ O' a)(hin:∀j a,j≠i->M j a->O' a):EnvM K O' (M.set i yJ) H (disown i Z) σ:=by
 have base:EnvM K O' (M.set i yJ) H (Z.set i (match Z[i]? with|some (.ow o)=>.va o.view|some x=>x|none=>.em)) σ:=by
  refine⟨by rw[OC];exact E.len,λj t e=>?_,λj o e=>?_,λj a z=>?_,λj k a z1 z2=>?_,λa z=>E.trk a (sub a z)⟩
  ·by_cases hj:i=j
   ·subst hj
    by_cases hl:i<Z.length
    ·rw[NV hl]at e
     cases q:Z[i]? with
     |none=>rw[q]at e;cases e
     |some z=>
      rw[q]at e
      cases z with
      |em=>cases e
      |va t'=>cases e;obtain⟨w,e1,e2⟩:=E.val i _ q;exact⟨w,e1,e2.less sub⟩
      |ow o=>cases e;obtain⟨w,e1,e2⟩:=E.own i _ q;exact⟨w,e1,e2.rep sub hn⟩
    ·rw[O7 (by rw[OC];omega)]at e;cases e
   ·rw[NW hj]at e
    obtain⟨w,e1,e2⟩:=E.val j t e;exact⟨w,e1,e2.less sub⟩
  ·by_cases hj:i=j
   ·subst hj
    by_cases hl:i<Z.length
    ·rw[NV hl]at e
     cases q:Z[i]? with
     |none=>rw[q]at e;cases e
     |some z=>
      rw[q]at e
      cases z with
      |em=>cases e
      |va t'=>cases e
      |ow o=>cases e
    ·rw[O7 (by rw[OC];omega)]at e;cases e
   ·rw[NW hj]at e
    obtain⟨w,e1,e2⟩:=E.own j o e;refine⟨w,e1,?_⟩
    rw[Mn.My (λz=>hj z.symm)]
    exact e2.move (P:=yJ) (λ_ z=>z.elim) (λa z=>.inl (sub a z)) (λb u q _=>q) λ_ _ z=>z
  ·unfold Mn.set at z
   by_cases hj:j=i
   ·rw[if_pos hj]at z;exact z.elim
   ·rw[if_neg hj]at z;exact hin j a hj z
  ·unfold Mn.set at z1 z2
   by_cases hj:j=i
   ·rw[if_pos hj]at z1;exact z1.elim
   ·by_cases hk:k=i
    ·rw[if_pos hk]at z2;exact z2.elim
    ·rw[if_neg hj]at z1;rw[if_neg hk]at z2;exact E.dis j k a z1 z2
 unfold Tr.disown
 cases q:Z[i]? with
 |none=>rw[q,List.set_eq_of_length_le (SL.mp q)]at base;exact base
 |some z=>
  rw[q]at base
  cases z with
  |em=>rw[wa q]at base;exact base
  |va t=>rw[wa q]at base;exact base
  |ow o=>exact base
theorem Ev.disown(E:Ev K B M H Z σ)(i:Nat):Ev K B (M.set i yJ) H (disown i Z) σ/\∀a,(M.set i yJ).u a->M.u a:=by
 have sub:∀a,(M.set i yJ).u a->M.u a:=λa z=>(Mn.Mx z).elim (λw=>w.elim) id
 refine⟨⟨E.env.disown i (λa z=>z.elim .inl λw=>.inr (sub a w)) (λa z y=>?_) λj a hj z=>.inr ⟨j,by rw[Mn.My hj];exact z⟩,λa z=>E.mine a (sub a z)⟩,sub⟩
 rcases y with y|⟨j,y⟩
 ·exact E.mine a ⟨i,z⟩ y
 ·unfold Mn.set at y
  by_cases hj:j=i
  ·rw[if_pos hj]at y;exact y
  ·rw[if_neg hj]at y;exact hj (E.env.dis j i a y z)
end
variable{apos cpos:Pos}{st:ZF}
section
variable {pos p2 p3:Pos}
def Ev.subO(hm:∀a,m a->Nw K H a)(a:ZE)(z:OO B (M.set i m) a):OO B M a\/Nw K H a:=
 z.elim (λw=>.inl (.inl w)) λw=>(Mn.Mx w).elim (λy=>.inr (hm a y)) λy=>.inl (.inr y)
def mq{H1:Hp}(s:Same H H1){a:ZE}(n:Nw K H1 a):Nw K H a:=(ja (SameO.of (P:=yJ) s) n).elim (λz=>z.elim) id
def Kl(X:Cx)(t:TA):TE:=λσ H Q=>t σ H λxs H1=>xs.length<=ZI/\∀p,Nw X.K H1 p->Q (.ref p) (upd H1 p (.lst xs))
def F3{t:TA}(h:PA X es t):PE X (.List es pos) (Kl X t):=by
 intro bv s σ H Q I hq;refine U8 (cF (h pos bv s σ H _ I hq) λus s1 ⟨xs,H1,I1,r,z,q⟩=>⟨by rw[<-r.length];exact z,?_⟩)
 have hf:H1 s1.heap.objs.size=ZB:=I1.hok.fresh (NL _)
 have hk:X.K.lookup s1.heap.objs.size=ZB:=by
  cases q:X.K.lookup s1.heap.objs.size with
  |none=>rfl
  |some o=>exact absurd (NJ (I1.kIn _ o q)) (N4 _)
 refine⟨.ref s1.heap.objs.size,upd H1 s1.heap.objs.size (.lst xs),I1.laid (t':=s1.toks) (λb u e=>Nr _ e) (NL _) ?_,rfl,q _ ⟨hf,hk⟩⟩
 exact⟨z,us,0,r,NI _ rfl⟩
def iM(i:Nat)(f:W3)(Z:En):Rs Fl:=do
 let l <-f Z
 if i<Z.length/\l.length<=ZI then .ok (.nx (Z.set i (.ow (.lst l))))else .bad
def Fv(i:Nat){f:W3}(hN:X.N.Nodup)(ha:tD X es f)(hi:autoParam (X.N[i]?=ZA x) u_)(hx:autoParam (Loc X.env.scope x) y_)(hs:autoParam (OQ (.List es p2) (ZA (.Name x p3)) pos.line X.env=pure ZD) u_)
  (hf:autoParam (X.fn x=ZC\/X.env.scope.names.lookup x=ZA .local) r_):qL X (.Assign [.Name x p3] (.List es p2) pos) (iM i f):=PS.imp (pz hN hi hx (F3 ha) hs hf) λD σ H hh_=>by
 obtain⟨Z,B,M,E,h⟩:=hh_;refine⟨Z,OO B M,E.o,?_⟩
 unfold iM at h
 cases q:f Z with
 |bad=>rw[q]at h;exact h.elim
 |err c=>rw[q]at h;exact PostF.xa h
 |ok l=>
  rw[q,aF]at h;intro H1 s1 vs rs
  by_cases hl:i<Z.length/\l.length<=ZI
  ·rw[if_pos hl]at h
   refine⟨by rw[<-rs.length];exact hl.2,λp hp=>?_⟩
   have hm:∀a,a=p->Nw X.K H1 a:=λa z=>z▸hp
   obtain⟨E2,sub⟩:=(E.same s1).new (m:=λa=>a=p) (o:=.lst l) (v:=.ref p) (H':=upd H1 p (.lst vs)) hl.1 hm (aW hp.1 _) ⟨p,vs,rfl,λb=>RT,aI,(rs.more (Ev.subO hm)).same (aW hp.1 _)⟩
   exact h _ _ _ (SameO.of (s1.trans (aW hp.1 _))) E2 λa z=>(sub a z).imp_right (mq s1)
  ·rw[if_neg hl]at h
   exact h.elim
def g9(i:Nat)(f:W5)(Z:En):Rs Fl:=match Z[i]? with
 |some (.ow (.lst l))=>f Z >>= λt=>if l.length<ZI then .ok (.nx (Z.set i (.ow (.lst (l++[t])))))else .bad
 |_=>.bad
def Ev.putL{o:OT}{l':List T}{b:ZE}{vs':List V}(E:Ev K B M H Z σ)(hi:Z[i]?=ZA (.ow o))(hs:σ[i]?=ZA (ZA (.ref b)))(hM:∀c,M i c↔c=b)(r:Reps K (OO B M) H l' vs'):
  Ev K B M (upd H b (.lst vs')) (Z.set i (.ow (.lst l'))) σ/\SameO M.u H (upd H b (.lst vs')):=by
 have sm:SameO (M i) H (upd H b (.lst vs')):=λc u e nb=>by rw[aG (λz=>nb ((hM c).mpr z))];exact e
 exact E.put hi hs sm ⟨b,vs',rfl,hM,aI,r.move (P:=M i) (λa z=>.inl (.inr ⟨i,z⟩)) (λa z=>.inl z) sm⟩
def Iw(i:Nat)(ha:cQ X a fa)(hN:autoParam (X.N[i]?=ZA x) u_)(hv:autoParam (vD X.env.scope x) v_)(hn:autoParam (bQ a=ZC) u_)
  (hbase:autoParam (PB (.Name x p2) "append" X.env (eval (.Name x p2) X.env)=eval (.Name x p2) X.env) u_) (hline:autoParam ((apos.endLine == cpos.line)=ZC) u_)
  (hd:autoParam ((x == ("__debug__" : Str))=ZD) s_) (hcd:autoParam ((x == ("__classdict__" : Str))=ZD) s_)
  (hsw:autoParam (OQ (.Call (.Attribute (.Name x p2) "append" apos) [a] [] cpos) ZB pos.line X.env=pure ZD) u_):qL X (.Expr (.Call (.Attribute (.Name x p2) "append" apos) [a] [] cpos) pos) (g9 i fa):=by
 have h1:NZ [a] X.env=(ZD,eval a X.env)::NZ [] X.env:=bo hn;refine PS.imp (ud (Hn Rv PySem.F.slot_list_append PySem.F.type_list_append sh (jU hN hv hd hcd) (fx ha jV h1) hbase ?_ hline h1 rfl) hsw) λD σ H ⟨Z,B,M,E,h⟩=>?_
 ·rw[h1];rfl
 unfold g9 at h
 split at h
 ·rename_i l hl
  obtain⟨v0,e1,b,vs,rfl,hM,e3,e4⟩:=E.env.own i _ hl;refine⟨.ref b,e1,.inl ⟨rfl,vs,SqL.of e3⟩,Z,OO B M,E.o,?_⟩
  cases q:fa Z with
  |bad=>rw[q]at h;exact h.elim
  |err c=>rw[q]at h;exact PostF.xa h
  |ok t=>
   rw[q,aF]at h
   split at h
   ·rename_i hz
    intro H1 s1 v r
    have e3':=s1 _ _ e3;refine⟨b,vs,v,rfl,rfl,e3',by rw[<-e4.length];exact hz,?_⟩
    obtain⟨g1,g2⟩:=(E.same s1).putL (l':=l++[t]) (vs':=vs++[v]) hl e1 hM ((e4.same s1).append (Reps.FM r Reps.nil_));exact h σ _ M (λc o e nb=>g2 c o (s1 _ _ e) nb) g1 λc z=>.inl z
   ·exact h.elim
 ·exact h.elim
def JS(i:Nat)(l:List T)(Z:En):T->Rs Fl
 |.lst m=>if l.length+m.length<=ZI then .ok (.nx (Z.set i (.ow (.lst (l++m)))))else .bad
 |_=>.bad
def pj(i:Nat)(f:W5)(Z:En):Rs Fl:=match Z[i]? with
 |some (.ow (.lst l))=>f Z >>= JS i l Z
 |_=>.bad
def Ir(i:Nat)(ha:cQ X a fa)(hN:autoParam (X.N[i]?=ZA x) u_)(hv:autoParam (vD X.env.scope x) v_)(hn:autoParam (bQ a=ZC) u_)
  (hbase:autoParam (PB (.Name x p2) "extend" X.env (eval (.Name x p2) X.env)=eval (.Name x p2) X.env) u_) (hline:autoParam ((apos.endLine == cpos.line)=ZC) u_)
  (hd:autoParam ((x == ("__debug__" : Str))=ZD) s_) (hcd:autoParam ((x == ("__classdict__" : Str))=ZD) s_)
  (hsw:autoParam (OQ (.Call (.Attribute (.Name x p2) "extend" apos) [a] [] cpos) ZB pos.line X.env=pure ZD) u_):qL X (.Expr (.Call (.Attribute (.Name x p2) "extend" apos) [a] [] cpos) pos) (pj i fa):=by
 have h1:NZ [a] X.env=(ZD,eval a X.env)::NZ [] X.env:=bo hn;refine PS.imp (ud (Hn Rv PySem.F.slot_list_extend PySem.F.type_list_extend Ba (jU hN hv hd hcd) (fx ha jV h1) hbase ?_ hline h1 rfl) hsw) λD σ H ⟨Z,B,M,E,h⟩=>?_
 ·rw[h1];rfl
 unfold pj at h
 split at h
 ·rename_i l hl
  obtain⟨v0,e1,b,vs,rfl,hM,e3,e4⟩:=E.env.own i _ hl;refine⟨.ref b,e1,.inl ⟨rfl,vs,SqL.of e3⟩,Z,OO B M,E.o,?_⟩
  cases q:fa Z with
  |bad=>rw[q]at h;exact h.elim
  |err c=>rw[q]at h;exact PostF.xa h
  |ok t=>
   rw[q,aF]at h;unfold JS at h
   split at h
   ·rename_i m
    split at h
    ·rename_i hz
     intro H1 s1 v r;obtain⟨c,ws,rfl,nO,hc,rm⟩:=Rep.Do.mp r
     have e3':=s1 _ _ e3;refine⟨b,c,vs,ws,rfl,rfl,e3',hc,by rw[<-e4.length,<-rm.length];exact hz,?_⟩
     obtain⟨g1,g2⟩:=(E.same s1).putL (l':=l++m) (vs':=vs++ws) hl e1 hM ((e4.same s1).append rm);exact h σ _ M (λc o e nb=>g2 c o (s1 _ _ e) nb) g1 λc z=>.inl z
    ·exact h.elim
   ·exact h.elim
 ·exact h.elim
def mX(i:Nat)(F:W4)(Z:En):Rs Fl:=F (disown i Z)
def Iu(i:Nat){F:W4}(h:qL X st F):qL X st (mX i F):=PS.imp h λD σ H hh_=>by
 obtain⟨Z,B,M,E,q⟩:=hh_;obtain⟨E',sub⟩:=E.disown i;exact⟨disown i Z,B,_,E',PostF.later q (λ_ _ e _=>e) λa z=>.inl (sub a z)⟩
mutual
def T.nk(D:Bool):T->Bool
 |.scr _=>ZD
 |.dct _ ts=>!D&&nks D ts
 |.ob _ _ _=>ZD
 |.lst l=>D&&nks D l
 |.tup l=>nks D l
 |_=>ZC
def nks(D:Bool):List T->Bool
 |[] =>ZC
 |t::l=>t.nk D&&nks D l
end
mutual
theorem Rep.lend{K:Nt}{O O':Ow}{H:Hp}{D:Bool}(hk:∀a,O a->O' a\/if D then ∃kvs,Rd H a (.dT kvs)else LO H a):∀{t:T}{v:V},t.nk D=ZC->Rep K O' H t v->Rep K O H t v
 |.non,_,_,r=>by unfold Rep at r ⊢;exact r
 |.bl _,_,_,r=>by unfold Rep at r ⊢;exact r
 |.int _,_,_,r=>by unfold Rep at r ⊢;exact r
 |.str _,_,_,r=>by unfold Rep at r ⊢;exact r
 |.tup l,_,h,r=>by
  unfold Rep at r ⊢;unfold T.nk at h;obtain⟨a,vs,e,n,q,z⟩:=r;refine⟨a,vs,e,λp=>(hk a p).elim n λw=>?_,q,Reps.lend hk h z⟩
  split at w
  ·obtain⟨_,w|⟨_,w⟩⟩:=w <;> rw[q]at w <;> cases w
  ·rcases w with⟨_,w⟩|⟨_,w,y⟩ <;> rw[q]at w <;> cases w <;> cases y
 |.lst l,_,h,r=>by
  unfold Rep at r ⊢;unfold T.nk at h;rw[NC]at h;obtain⟨h1,h2⟩:=h;subst h1;obtain⟨a,vs,e,n,q,z⟩:=r;refine⟨a,vs,e,λp=>(hk a p).elim n λw=>?_,q,Reps.lend hk h2 z⟩
  rw[if_pos rfl]at w;obtain⟨_,w|⟨_,w⟩⟩:=w <;> rw[q]at w <;> cases w
 |.scr l,_,h,r=>by unfold T.nk at h;cases h
 |.dct ks ts,_,h,r=>by
  unfold Rep at r ⊢;unfold T.nk at h;rw[NC]at h;obtain⟨h1,h2⟩:=h
  cases D with
  |true=>cases h1
  |false=>
   obtain⟨a,kvs,e,n,q,k,z⟩:=r;refine⟨a,kvs,e,λp=>(hk a p).elim n λw=>?_,q,k,Reps.lend hk h2 z⟩
   rw[if_neg N3]at w;rcases w with⟨_,w⟩|⟨_,w,y⟩ <;> rcases q with q|⟨_,q⟩ <;> rw[q]at w <;> cases w <;> cases y
 |.ob _ _ _,_,h,r=>by unfold T.nk at h;cases h
theorem Reps.lend{K:Nt}{O O':Ow}{H:Hp}{D:Bool}(hk:∀a,O a->O' a\/if D then ∃kvs,Rd H a (.dT kvs)else LO H a):∀{l:List T}{vs:List V},nks D l=ZC->Reps K O' H l vs->Reps K O H l vs
 |[],_,_,r=>by unfold Reps at r ⊢;exact r
 |t::l,_,h,r=>by
  unfold Reps at r ⊢;unfold nks at h;rw[NC]at h;obtain⟨v,ws,e,p,q⟩:=r;exact⟨v,ws,e,Rep.lend hk h.1 p,Reps.lend hk h.2 q⟩
end
def ln(i:Nat)(f:W5)(Z:En):Rs T:=match Z[i]? with
 |some (.ow o)=>f (disown i Z) >>= λt=>if t.nk o.isD=ZC then .ok t else .bad
 |_=>f Z
def Jr(i:Nat)(f:W6)(Z:En):Rs Bool:=f (disown i Z)
def tF(E:EnvM K O M H Z σ)(i:Nat):EnvM K (λa=>O a/\¬ M i a) (M.set i yJ) H (disown i Z) σ:=
 E.disown i (λa z=>z.1) (λa z y=>y.2 z) λj a hj z=>⟨E.sub j a z,λy=>hj (E.dis j i a z y)⟩
def q_ln(i:Nat)(h:cQ X e f):cQ X e (ln i f):=PE.imp h λσ H Q ⟨Z,O,⟨M,E⟩,q⟩=>by
 unfold ln at q
 split at q
 ·rename_i o hi
  refine⟨disown i Z,_,⟨_,tF E i⟩,?_⟩
  obtain⟨w,e1,r⟩:=E.own i o hi;refine Post.mono (Post.bind q) λt H' s q2 v rv=>?_
  split at q2
  ·rename_i hk
   have kd:=(r.same s).kind;refine q2 H' (Same.refl _) v (Rep.lend (λa z=>?_) hk rv)
   by_cases hm:M i a
   ·refine .inr ?_
    have this:=kd a hm
    by_cases hD:o.isD=ZC
    ·rw[if_pos hD]at this ⊢;exact this.imp λ_ z=>.inl z
    ·rw[if_neg hD]at this ⊢;exact this
   ·exact .inl ⟨z,hm⟩
  ·exact q2.elim
 ·exact⟨Z,O,⟨M,E⟩,q⟩
def KH(i:Nat){f:W6}(h:xZ X e f):xZ X e (Jr i f):=PT.imp h λσ H Q ⟨Z,O,⟨M,E⟩,q⟩=>⟨disown i Z,_,⟨_,tF E i⟩,q⟩
end
def kX:List T->List T->List Key->Option T
 |k'::ks,v::vs,k=>if keyOf k'=ZA k then ZA v else kX ks vs k
 |_,_,_=>ZB
def gD(k v:T):List T->List T->List T×List T
 |k'::ks,v'::vs=>if keyOf k'=keyOf k then(k'::ks,v::vs)else(k'::(gD k v ks vs).1,v'::(gD k v ks vs).2)
 |_,_=>([k],[v])
def aO(x y:T):Rs T:=match x,keyOf y with
 |.dct ks vs,ZA k=>match kX ks vs k with
  |some t=>.ok t
  |none=>.bad
 |_,_=>.bad
def jG(x y:T):Rs T:=match x,keyOf y with
 |.dct ks vs,ZA k=>match kX ks vs k with
  |some t=>.ok t
  |none=>.ok .non
 |_,_=>.bad
def Ei(x y:T):Rs T:=match y,keyOf x with
 |.dct ks vs,ZA k=>.ok (.bl (kX ks vs k).isSome)
 |_,_=>.bad
def oD(g:T->T->Rs T)(fa fb:W5)(Z:En):Rs T:=fa Z >>= λx=>match x with
 |.dct ks vs=>fb Z >>= g (.dct ks vs)
 |_=>.bad
def oL(g:T->T->Rs T)(fa fb:W5)(Z:En):Rs T:=fa Z >>= λx=>match x with
 |.lst l=>fb Z >>= g (.lst l)
 |_=>.bad
def Kb:List T->Option (List (T×T))
 |[] =>ZA []
 |.tup [k,v] ::l=>match keyOf k,Kb l with
  |some _,ZA r=>ZA ((k,v)::r)
  |_,_=>ZB
 |_=>ZB
def gW:List (T×T)->List T×List T->List T×List T
 |[],d=>d
 | (k,v)::r,d=>gW r (gD k v d.1 d.2)
def Ax:List T->Rs T
 |[.lst l] =>match Kb l with
  |some ps=>if l.length<=1000 then .ok (.dct (gW ps ([],[])).1 (gW ps ([],[])).2)else .bad
  |none=>.bad
 |_=>.bad
def iV:List T->Bool
 |[] =>ZC
 |k::l=>(keyOf k).isSome&&iV l
def rY(i:Nat)(f:W5)(Z:En):Rs Fl:=f Z >>= λt=>Ax [t] >>= λd=>match d with
 |.dct ks vs=>if i<Z.length then .ok (.nx (Z.set i (.ow (.dct ks vs))))else .bad
 |_=>.bad
def tX(i:Nat)(Z:En):Rs Fl:=if i<Z.length then .ok (.nx (Z.set i (.ow (.dct [] []))))else .bad
def qY(i:Nat)(fk fv:W5)(Z:En):Rs Fl:=match Z[i]? with
 |some (.ow (.dct ks vs))=>fv Z >>= λv=>fk Z >>= λk=>match keyOf k with
  |some _=>if ks.length<1000 then .ok (.nx (Z.set i (.ow (.dct (gD k v ks vs).1 (gD k v ks vs).2))))else .bad
  |none=>.bad
 |_=>.bad
def ph(i j:Nat)(Z:En):Rs Fl:=match Z[j]? with
 |some (.va (.lst l))=>if i<Z.length/\iV l=ZC/\(l.map keyOf).Nodup/\l.length<=1000 then .ok (.nx (Z.set i (.ow (.dd l (l.map λ_=>(l,l.map λ_=>.non))))))else .bad
 |_=>.bad
def q0:List T->List (List T×List T)->List Key->Option (List T×List T)
 |k'::ks,r::rs,k=>if keyOf k'=ZA k then ZA r else q0 ks rs k
 |_,_,_=>ZB
def qZ(k:List Key)(x:List T×List T):List T->List (List T×List T)->List (List T×List T)
 |k'::ks,r::rs=>if keyOf k'=ZA k then x::rs else r::qZ k x ks rs
 |_,rs=>rs
def jC(i:Nat)(fa fb fv:W5)(Z:En):Rs Fl:=match Z[i]? with
 |some (.ow (.dd ks rows))=>fv Z >>= λv=>fa Z >>= λa=>match(keyOf a).bind λka=>(q0 ks rows ka).map λr=>(ka,r)with
  |some (ka,r)=>fb Z >>= λb=>if (keyOf b).isSome=ZC/\r.1.length<1000 then .ok (.nx (Z.set i (.ow (.dd ks (qZ ka (gD b v r.1 r.2) ks rows)))))else .bad
  |none=>.bad
 |_=>.bad
def eh:List T->Option (List Int)
 |[] =>ZA []
 |.int i::l=>(eh l).map (i:: ·)
 |_=>ZB
def gA(i:Int):List Int->Int
 |[] =>i
 |j::l=>gA (if j<i then j else i) l
def ix(i:Int):List Int->Int
 |[] =>i
 |j::l=>ix (if i<j then j else i) l
def uR:List T->Rs T
 |[.lst l] =>match eh l with
  |some (i::ns)=>.ok (.int (gA i ns))
  |_=>.bad
 |[.int i,.int j] =>.ok (.int (gA i [j]))
 |_=>.bad
def Bc:List T->Rs T
 |[.lst l] =>match eh l with
  |some (i::ns)=>.ok (.int (ix i ns))
  |_=>.bad
 |[.int i,.int j] =>.ok (.int (ix i [j]))
 |_=>.bad
def kO(x:T):List T->Nat->Option Nat
 |[],_=>ZB
 |t::l,n=>if bh t x then ZA n else kO x l (n+1)
def eO(y x:T):Rs T:=match y with
 |.lst l=>if (x.dep<=60\/deps l<=60)/\x.nd=ZC/\nds l=ZC then match kO x l 0 with
   |some n=>.ok (.int n)
   |none=>.bad
  else .bad
 |_=>.bad
def iD(f:W5)(Z:En):Rs (List T):=f Z >>= λx=>match x with
 |.dct ks _=>.ok ks
 |_=>.bad
def FU:Nat:=1000000000000
variable{h:ZH}
theorem lE{b b':ZH}:∀{l:List Env},h.FunFrames b l->(∀a∈l.filterMap (·.frame),b'.get? a=ZB)->h.FunFrames b' l
 |[],_,_=>trivial
 |env::rest,⟨hk,⟨L,o,hf,hn,ho,hd⟩,hr⟩,q=>by
  rw[QC,hf]at q;exact⟨hk,⟨L,o,hf,q L Nv,ho,hd⟩,lE hr λa ha=>q a (Nu _ ha)⟩
variable{C:ZE}
section
variable {M:Model}
structure Gone (fs:List ZE)(C e:ZE)(T:Option ZE)(h h':ZH)(T':ZE):Prop where
 flt:Mj h' C e (ZA T')
 new:T=ZA T'\/h.get? T'=ZB
 keep:∀b o,b∉fs->b≠e->T≠ZA b->h.get? b=ZA o->h'.get? b=ZA o
 slot:∀b o,b∈fs->h.get? b=ZA o->∃sl,h'.get? b=ZA {o with slots:=sl}
def Js{base:ZH}{outer:List Env}{L e:ZE}{T:Option ZE}{Q:Unit->NB->Prop}(hfr:A.frames=ZA (env::outer))(hl:s.heap.FunFrames base (env::outer))(hf:env.frame=ZA L)
  (F:Mj s.heap C e T) (h:∀h' T',Gone ((env::outer).filterMap (·.frame)) C e T s.heap h' T'->Q () {s with heap:=h'}):ZJ M A (leaving env (.ref e)) Q E s:=by
 generalize hB:We s.heap (e::(T.toList++(env::outer).filterMap (·.frame)))=B
 have bm:∀b,b∈e::(T.toList++(env::outer).filterMap (·.frame))->B.get? b=ZB:=λb m=>by rw[<-hB];exact Us _ m
 have hl':s.heap.FunFrames B (env::outer):=lE hl λa ha=>bm a (Nu _ (N7 _ ha))
 have hst:B.StaysIn s.heap:=λb o q=>by rw[<-hB]at q;exact UQ _ q
 have hen:B.get? e=ZB:=bm e Nv
 have main:∀h',Heap.Left B (env::outer) e (.ref C) s.heap h'->Q () {s with heap:=h'}:=λh' ⟨x1,x2,⟨oe,vs,T',oT,ts,he,hc,hd,h1,hnT,hTe,hT,hdT,h3⟩,x4⟩=>by
  refine h h' T' ⟨⟨hTe,oe,vs,he,hc,hd,h1,oT,ts,hT,hdT,h3⟩,?_,λb o n1 n2 n3 q=>?_,λb o m q=>?_⟩
  ·cases q:s.heap.get? T' with
   |none=>exact .inr rfl
   |some o=>
    left
    by_cases z:T'∈e::(T.toList++(env::outer).filterMap (·.frame))
    ·rcases NG.mp z with z|z
     ·exact absurd z hTe
     ·rcases Oa.mp z with z|z
      ·cases T with
       |none=>simp at z
       |some t=>simp at z;rw[z]
      ·obtain⟨_,o',ho',hnf⟩:=x2.mem z
       rw[hT]at ho';cases ho';exact absurd hdT (hnf ts)
    ·rw[<-hB,Sm _ q z]at hnT;cases hnT
  ·refine x1 b o ?_
   rw[<-hB];refine Sm _ q λz=>?_
   rcases NG.mp z with z|z
   ·exact n2 z
   ·rcases Oa.mp z with z|z
    ·cases T with
     |none=>simp at z
     |some t=>simp at z;exact n3 (by rw[z])
    ·exact n1 z
  ·obtain⟨_,o',ho',hnf⟩:=hl.mem m
   rw[q]at ho';cases ho';exact x4 b o q hnf
 cases T with
 |none=>
  obtain⟨oe,vs,he,hc,hd,h1⟩:=F;refine wpAny_leaving_first hfr hl' hf he hst hen hd h1 λh' x=>main h' ?_
  rw[hc]at x;exact x
 |some t=>
  obtain⟨hte,oe,vs,he,hc,hd,h1,oT,ts,hT,hdT,h3⟩:=F;exact wpAny_leaving_next hfr hl' hf ⟨oe,vs,t,oT,ts,he,hc,hd,h1,bm t (Nu _ (OZ _ (by simp))),hte,hT,hdT,h3⟩ hst hen main
end
abbrev zg:List NA:=[.type "ValueError",.type "Exception",.type "BaseException",.type "object"]
structure OwnExc (K:Nt)(C:ZE)(bm:List NA):Prop where
 at_:∀h:ZH,K.In h->∃nm q N bs hdct sn sub ab col dd k0 k1 k2 k3 k5 mN,h.get? C=ZA (Sx nm q C N bs bm hdct sn sub ab col dd k0 k1 k2 k3 k5 "ValueError.__new__")/\h.Ns N mN/\mN "__init__" =ZB/\OwnTail h zg bm
def OwnExc.base(O:OwnExc K C bm)(k:K.In h):bm.contains (.type "BaseException")=ZC:=by
 obtain⟨_,_,_,_,_,_,_,_,_,_,_,_,_,_,_,_,_,_,_,T⟩:=O.at_ h k;exact T.hasType (by decide)
def Cj(c:Str)(_:En):Rs Fl:=.err c
variable{c:Str}
def Ct{msg:Str}{np p1 pos:Pos}(O:OwnExc X.K C bm)(hc:X.calm=ZC)(hm:X.mg c=ZA (.ref C))(hg:autoParam (Gl X c) u_)(hd:autoParam ((c == ("__debug__" : Str))=ZD) s_):
  qL X (.Raise (ZA (.Call (.Name c np) [.Constant (.str msg) j p1] [] cpos)) ZB pos) (Cj c):=by
 intro bv s σ H D I ⟨Z,B,M,E,k⟩
 have k:XA X M.u H c:=k;obtain⟨nm,q,N,bs,hdct,sn,sub,ab,col,dd,k0,k1,k2,k3,k5,mN,hC,hN,hni,T⟩:=O.at_ s.heap I.kIn;refine wpAny_Raise_call_subU (C:=C) (mN:=mN) (nm:=nm) (q:=q) (N:=N) (bs:=bs) (hdct:=hdct) (sn:=sn) (sub:=sub) (ab:=ab) (col:=col) (dd:=dd) (k0:=k0) (k1:=k1) (k2:=k2) (k3:=k3) (k5:=k5) SC (Bn:="ValueError") (by decide) SC (O.base I.kIn) (I.ok.hd hc) (by rfl) hni (oF I hg hm ⟨rfl,?_⟩ hd)
 show ZJ _ _ (evalArgs (.ref C) ZC ((ZD,eval (.Constant (.str msg) j p1) X.env)::backTo cpos (NZ [] X.env)) []) _ _ s
 refine Rc (Qb (UT (Qq ?_)))
 refine⟨rfl,by show 1<=ZI;decide,hC,hN,T,λh' e hm'=>k bv _ _ ?_⟩
 obtain⟨t,ht,ht2,ht3⟩:=hm'.there
 have I':Inv X bv σ H {s with heap:=h',toks:=s.toks+1}:=I.kept (t':=s.toks+1) λb o z=>hm'.keeps b o z
 refine⟨e,ZB,C,σ,H,rfl,hm,I',λb o z _=>z,?_,?_,⟨_,_,ht,rfl,rfl,rfl⟩,(λt z=>by cases z),λp hp=>⟨λz=>?_,λz=>by cases z⟩⟩
 ·exact wY I hm'.new
 ·exact λhex=>uC I hex hm'.new
 ·have:=(I.pin p hp).1
  rw[z,show s.heap.get? e=ZB from hm'.new]at this
  cases this
variable{f:ZE}{mg:W0}{qual:Str}
section
variable {base:ZH}
def JQ{k:Nat}(Fn:L2.Fun K x qual st f fd)(S:aE N ps (ao st))(hn:ps.length=n)
  (hbody:∀(cdv:NA)(A:Os)(outer:List Env)(s:NB)(H:Hp)(E:XK),Room k (A.deeper (envOfC qual (ao st) s.heap.objs.size f cdv)) →
   ∃F,(∀xe,lU ((nB CX0 P w K mg base N qual (ao st) f cdv A outer s H E).FS xe) (dP st) F)/\∀ts,ts.length=n->∀c,g ts=.err c->F (aU N.length ts)=.err c):FnX P w K mg base (k+1) f fd ps n g:=by
 intro A outer s H args us vs O ts c R hr e0 hb r rs trk hl hg hR
 have hpl:ps.length<=N.length:=by have:=congrArg O0 S.pre;rw[Ri]at this;omega
 obtain⟨oc,od,kV,doc,pm,an,cdv,ct,osl,rfl,lk,hcd⟩:=Fn.ex
 have hlen:vs.length=ps.length:=by rw[<-rs.length,hl,hn]
 have KX:K.In s.heap:=e0.mod.kin.keeps λb o e=>(e0.bs b o e).1
 have lim:s.heap.NoLimit:=e0.mod.nolimit.keeps λb o e=>(e0.bs b o e).1
 have hkind:∀y∈ps.zip us,(ao st).names.lookup y.1=ZA .local\/((ao st).names.lookup y.1=ZA .cell/\((QN (s.heap.objs.size+1) (ao st).names []).lookup y.1).isSome=ZC):=λ⟨n,v⟩ hy=>by
  rcases S.par n (Ry hy).1 with q|q
  ·exact .inl q
  ·exact .inr ⟨q,RM _ _ _ (.inl q)⟩
 refine Ud hr.depth (KX _ _ lk) rfl S.co S.gen rfl (US KX hcd) (hb _ _ _ _ ?_)
 refine SF S.kind hkind λenv he s1 x=>?_
 subst he;refine⟨lim.keeps x.toInCall.keep,codeAny_func ?_⟩
 obtain⟨F,hF,hv⟩:=hbody cdv A outer s H E0 (hr.deeper _)
 let xe:W1:=λev s'=>ZJ (ZK P w) (A.deeper (envOfC qual (ao st) s.heap.objs.size f cdv)) (leaving (envOfC qual (ao st) s.heap.objs.size f cdv) ev) (λ_ s''=>R (.error ev) s'') (λe' s''=>R (.error e') s'') s'
 have I:Inv ((nB CX0 P w K mg base N qual (ao st) f cdv A outer s H E0).FS xe) [] (start N vs) H s1:=(sI S hr.hd e0 hlen r x).FS _
 have no:∀a,¬noM.u a:=λa ⟨_,z⟩=>z
 refine Pu (hF xe [] s1 (start N vs) H {nx:=λ_ _=>False,rt:=λ_ _=>False,bk:=λ_ _=>False,ct:=λ_ _=>False} I ⟨aU N.length ts,O,noM,rS rs (by omega) trk,?_⟩) (λfl s' z=>?_) λe s' hs=>hs
 rotate_left
 ·cases fl with
  |next=>obtain⟨_,_,_,z⟩:=z;exact z.elim
  |cont=>obtain⟨_,_,_,z⟩:=z;exact z.elim
  |brk=>obtain⟨_,_,_,z⟩:=z;exact z.elim
  |ret v=>obtain⟨_,_,_,_,_,z⟩:=z;exact z.elim
 rw[hv ts hl c hg];intro bv ev s' w'
 show ZJ _ _ _ _ _ _
 obtain⟨e,T,C,σ',H',rfl,hm,I',sm,he,heo,fl,hT,_⟩:=w'
 have heo:=heo rfl
 have hT:∀t,T=ZA t->H' t=ZB/\s.heap.get? t=ZB:=λt z=>⟨(hT t z).1,(hT t z).2 rfl⟩
 refine Js (base:=base) (outer:=outer) (L:=s.heap.objs.size) I'.ok.frames I'.stack rfl fl λh' T' g=>hR _ _ ?_
 have hex:((nB CX0 P w K mg base N qual (ao st) f cdv A outer s H E0).FS xe).ex=[]:=rfl
 have Tn:H' T'=ZB/\s.heap.get? T'=ZB:=by
  rcases g.new with z|z
  ·exact hT T' z
  ·exact⟨wY I' z,uC I' hex z⟩
 have out:∀b o,s.heap.get? b=ZA o->b≠s.heap.objs.size:=λb o q z=>by
  have:=NJ q;rw[z]at this;exact absurd this (N4 _)
 have mem:∀b,b∈u9 ((envOfC qual (ao st) s.heap.objs.size f cdv)::outer)->b=s.heap.objs.size\/b∈u9 outer:=λb z=>by
  have z':b∈s.heap.objs.size::u9 outer:=z;exact NG.mp z'
 have ne:∀b o,s.heap.get? b=ZA o->b≠e/\T≠ZA b:=λb o q=>⟨λz=>(by subst z;rw[show s.heap.get? b=ZB from heo]at q;cases q),λz=>(by rw[show s.heap.get? b=ZB from(hT b z).2]at q;cases q)⟩
 have keepH:∀b u,H' b≠ZB->s'.heap.get? b=ZA u->h'.get? b=ZA u:=λb u hb q=>by
  refine g.keep b u (λz=>hb (I'.Mu b z)) (λz=>hb (by rw[z];exact he)) (λz=>hb (hT b z).1) q
 refine⟨e,T',C,H',rfl,hm,I'.os,I'.bare,⟨λb o q n hb hx=>?_,λb o q n hb hx=>?_,λb o q n hx=>I'.base.free b o q n hx,λb o q hx=>?_,I'.base.tups,I'.base.frzs,I'.base.tbls⟩,λa o q=>?_,λb o q=>sm b o q (no b),he,heo,g.flt,Tn.1,Tn.2⟩
 ·exact g.keep b o (λz=>(mem b z).elim (out b o q) hb) (ne b o q).1 (ne b o q).2 (I'.base.keep b o q n hb hx)
 ·obtain⟨sl,q1⟩:=I'.base.slot b o q n hb hx
  obtain⟨sl',q2⟩:=g.slot b _ (Nu _ hb) q1;exact⟨sl',q2⟩
 ·obtain⟨o',q1⟩:=I'.base.there b o q hx
  by_cases z:b∈u9 ((envOfC qual (ao st) s.heap.objs.size f cdv)::outer)
  ·obtain⟨sl,q2⟩:=g.slot b o' z q1
   exact⟨_,q2⟩
  ·exact⟨o',g.keep b o' z (ne b o q).1 (ne b o q).2 q1⟩
 ·refine(I'.hok a o q).Mm (λb u hb z=>keepH b u ?_ z) (λ_ z=>z) λ_ _ z=>z
  rcases hb with rfl|hb
  ·rw[q];simp
  ·rw[hb];simp
end
def EW{m:Nat}{F:W4}(h:val n m F ts=.err c):F (aU m ts)=.err c:=by
 unfold val at h
 split at h
 ·unfold bU at h
  cases z:F (aU m ts)with
  |bad=>rw[z]at h;cases h
  |err c'=>rw[z]at h;cases h;rfl
  |ok f=>
   rw[z,aF]at h;cases f <;> cases h
 ·cases h
section
variable {base:ZH}
def JR{k:Nat}{F:W4}(Fn:L2.Fun K x qual st f fd)(S:aE N ps (ao st))(hn:ps.length=n)
  (hbody:∀(cdv:NA)(A:Os)(outer:List Env)(s:NB)(H:Hp)(E:XK),Room k (A.deeper (envOfC qual (ao st) s.heap.objs.size f cdv)) →
   ∀xe,lU ((nB CX0 P w K mg base N qual (ao st) f cdv A outer s H E).FS xe) (dP st) F):J9 P w K mg base (k+1) f fd ps n (val n N.length F):=
 ⟨LG Fn S hn λcdv A outer s H E hr=>⟨F,hbody cdv A outer s H E hr _,λts _ _ h=>HH h⟩,JQ Fn S hn λcdv A outer s H E hr=>⟨F,hbody cdv A outer s H E hr,λts _ c h=>EW h⟩⟩
end
section
variable {pos p:Pos}
def KL:qL X (.Continue pos) Hj:=PS.imp wJ λD σ H ⟨Z,B,M,E,h⟩=>h σ H M (λ_ _ e _=>e) E λa z=>.inl z
end
inductive OTail (h:ZH):List NA->Prop
 |base:OTail h zg
 |own {A:ZE} {c0:NA} {dd:Option ZE} {cd:ClassData} {sl:Array (Option NA)} {mA:W0} {tl:List NA} :
   h.get? A=ZA {cls:=c0,dict:=dd,data:=.cls cd,slots:=sl}->h.Ns cd.ns mA->(∀n∈calmNames,mA n=ZB)->OTail h tl->OTail h (.ref A::tl)
def OTail.tail{tl:List NA}(T:OTail h tl):OwnTail h zg tl:=by
 induction T with
 |base=>exact .base
 |own hA hN hq _ ih=>exact .own hA hN (hq _ (.head _)) ih
structure OX (K:Nt)(C:ZE)(bm:List NA):Prop where
 at_:∀h:ZH,K.In h->∃nm q N bs hdct sn sub ab col dd k0 k1 k2 k3 k5 mN,h.get? C=ZA (Sx nm q C N bs bm hdct sn sub ab col dd k0 k1 k2 k3 k5 "ValueError.__new__")/\h.Ns N mN/\(∀n∈calmNames,mN n=ZB)/\OTail h bm
def OX.own(O:OX K C bm):OwnExc K C bm:=⟨λh k=>by
 obtain⟨nm,q,N,bs,hdct,sn,sub,ab,col,dd,k0,k1,k2,k3,k5,mN,h1,h2,h3,h4⟩:=O.at_ h k;exact⟨nm,q,N,bs,hdct,sn,sub,ab,col,dd,k0,k1,k2,k3,k5,mN,h1,h2,h3 _ (.head _),h4.tail⟩⟩
variable{N:ZE}
def Li{ob:NA}{oe:Option ZE}{es:Array R4}{oz:Array (Option NA)}(r:K.lookup N=ZA ⟨ob,oe,.dict es n,oz⟩)(s:(es.toList.all λe=>B9 e.key)=ZC)
  (u0:Rr K N "__init__" =ZA ZB) (u1:Rr K N "__getattribute__" =ZA ZB) (u2:Rr K N "__getattr__" =ZA ZB) (u3:Rr K N "__class__" =ZA ZB):
  ∀h:ZH,K.In h->∃mN,h.Ns N mN/\∀n∈calmNames,mN n=ZB:=λh k=>by
 refine⟨nsFind es,⟨_,es,n,k _ _ r,rfl,λe he=>?_,λ_=>rfl⟩,λx hx=>?_⟩
 ·have:=N9.mp s e (by simpa using he)
  cases q:e.key <;> rw[q]at this <;> first|exact⟨_,_,rfl⟩|cases this
 ·have key:∀x,Rr K N x=ZA ZB->nsFind es x=ZB:=λx u=>by
   unfold Rr at u;rw[r]at u;simp only at u
   split at u
   ·cases u
   ·rename_i he
    unfold nsFind findBy;rw[<-UU,he];rfl
  unfold calmNames at hx;simp only[NG,Ox,or_false]at hx;rcases hx with rfl|rfl|rfl|rfl
  ·exact key _ u0
  ·exact key _ u1
  ·exact key _ u2
  ·exact key _ u3
section
variable {nm q:Str}{bs:List NA}{hdct:Bool}{sn:List Str}{sub:List NA}{ab:Bool}{col:Option Bool}{dd:Option ZE}{k0 k1 k2 k3 k5:Option NA}
variable {nm' q':Str}{D N':ZE}{bs':List NA}{hdct':Bool}{sn':List Str}{sub':List NA}{ab':Bool}{col':Option Bool}{dd':Option ZE}{k0' k1' k2' k3' k5':Option NA}
def F7(w:K.lookup C=ZA (Sx nm q C N bs zg hdct sn sub ab col dd k0 k1 k2 k3 k5 "ValueError.__new__"))(ns:∀h:ZH,K.In h->∃mN,h.Ns N mN/\∀n∈calmNames,mN n=ZB):OX K C zg:=⟨λh k=>by
 obtain⟨mN,h1,h2⟩:=ns h k;exact⟨nm,q,N,bs,hdct,sn,sub,ab,col,dd,k0,k1,k2,k3,k5,mN,k _ _ w,h1,h2,.base⟩⟩
def CU(w:K.lookup C=ZA (Sx nm q C N bs (.ref D::zg) hdct sn sub ab col dd k0 k1 k2 k3 k5 "ValueError.__new__"))(ns:∀h:ZH,K.In h->∃mN,h.Ns N mN/\∀n∈calmNames,mN n=ZB)
  (wD:K.lookup D=ZA (Sx nm' q' D N' bs' zg hdct' sn' sub' ab' col' dd' k0' k1' k2' k3' k5' "ValueError.__new__")) (nsD:∀h:ZH,K.In h->∃mN,h.Ns N' mN/\∀n∈calmNames,mN n=ZB):OX K C (.ref D::zg):=⟨λh k=>by
 obtain⟨mN,h1,h2⟩:=ns h k;obtain⟨mD,d1,d2⟩:=nsD h k;exact⟨nm,q,N,bs,hdct,sn,sub,ab,col,dd,k0,k1,k2,k3,k5,mN,k _ _ w,h1,h2,.own (k _ _ wD) d1 d2 .base⟩⟩
end
end Tr
namespace L2
open PySem PySem.Spec PyProof.Rows
variable{y:V}
section
variable {κ:Type}[DecidableEq κ]
def gy(kvs:List (κ×V))(k:κ):Option V:=(kvs.find? λkv=>decide (kv.1=k)).map (·.2)
def cN(kvs:List (κ×V))(k:κ)(v:V):List (κ×V):=
 if (kvs.any λkv=>decide (kv.1=k))=ZC then kvs.map (λkv=>if kv.1=k then(kv.1,v)else kv)else kvs++[(k,v)]
def B2{k:κ}:gy ([]:List (κ×V)) k=ZB:=rfl
def fY{p:κ×V}{r:List (κ×V)}{k:κ}(e:p.1=k):gy (p::r) k=ZA p.2:=by simp[gy,QZ,e]
def fZ{p:κ×V}{r:List (κ×V)}{k:κ}(e:¬ p.1=k):gy (p::r) k=gy r k:=by simp[gy,QZ,e]
theorem vR(k:κ):∀kvs:List (κ×V),(kvs.any λkv=>decide (kv.1=k))=(gy kvs k).isSome
 |[] =>rfl
 |p::r=>by
  rw[QF]
  by_cases e:p.1=k
  ·simp only[fY e,decide_eq_true e,Bool.true_or,UX]
  ·rw[fZ e,decide_eq_false e,Td];exact vR k r
def d6(kvs:List (κ×V))(k:κ)(v:V):(cN kvs k v).length<=kvs.length+1:=by
 unfold cN;split
 ·rw[Ny];omega
 ·rw[NH,ND,Qs];omega
def RelO.Mp{o:Option V}{u:Option NA}(r:RelO o u):o.isSome=u.isSome:=by
 cases o with
 |none=>cases u with
  |none=>rfl
  |some _=>exact(show False from r).elim
 |some _=>cases u with
  |none=>exact(show False from r).elim
  |some _=>rfl
def RelO.getD{o:Option V}{u:Option NA}{d:V}{d':NA}(r:RelO o u)(rd:RelV d d'):RelV (o.getD d) (u.getD d'):=by
 cases o with
 |none=>cases u with
  |none=>exact rd
  |some _=>exact(show False from r).elim
 |some _=>cases u with
  |none=>exact(show False from r).elim
  |some _=>exact r
def KV.val{kvs:List (κ×V)}{vs:List (κ×NA)}(r:KV kvs vs)(k:κ):RelO (gy kvs k) (valueAt vs k):=by
 unfold KV at r
 induction r with
 |nil=>exact PZ
 |@cons p q ps qs h t ih=>
  obtain⟨h1,h2⟩:=h
  by_cases e:p.1=k
  ·have e':q.1=k:=h1.symm.trans e
   have b:valueAt (q::qs) k=ZA q.2:=by simp[valueAt,QZ,e']
   rw[fY e,b];exact h2
  ·have e':¬ q.1=k:=λz=>e (h1.trans z)
   have b:valueAt (q::qs) k=valueAt qs k:=by simp[valueAt,QZ,e']
   rw[fZ e,b];exact ih
def KV.any{kvs:List (κ×V)}{vs:List (κ×NA)}(r:KV kvs vs)(k:κ):(kvs.any λkv=>decide (kv.1=k))=vs.any λkv=>decide (kv.1=k):=by
 unfold KV at r
 induction r with
 |nil=>rfl
 |cons h t ih=>rw[QF,QF,ih,h.1]
def KV.MY{kvs:List (κ×V)}{vs:List (κ×NA)}(r:KV kvs vs)(k:κ){u:NA}(ry:RelV y u):
  KV (kvs.map λkv=>if kv.1=k then(kv.1,y)else kv) (vs.map λkv=>if kv.1=k then(kv.1,u)else kv):=by
 unfold KV at r ⊢
 induction r with
 |nil=>exact .nil
 |@cons p q ps qs h t ih=>
  rw[Nx,Nx];refine .cons ?_ ih
  obtain⟨h1,h2⟩:=h
  by_cases e:p.1=k
  ·rw[if_pos e,if_pos (h1.symm.trans e)];exact⟨h1,ry⟩
  ·rw[if_neg e,if_neg (λz=>e (h1.trans z))];exact⟨h1,h2⟩
def KV.put{kvs:List (κ×V)}{vs:List (κ×NA)}(r:KV kvs vs)(k:κ){u:NA}(ry:RelV y u):KV (cN kvs k y) (stored vs k u):=by
 unfold cN stored;rw[r.any k]
 by_cases e:(vs.any λkv=>decide (kv.1=k))=ZC
 ·rw[if_pos e,if_pos e];exact r.MY k ry
 ·rw[if_neg e,if_neg e];exact Paired.snoc r ⟨rfl,ry⟩
def KV.length{kvs:List (κ×V)}{vs:List (κ×NA)}(r:KV kvs vs):kvs.length=vs.length:=Rw r
end
def sC{k:Key}{u:NA}(r:RelV (kV k) u):(cp P w).is k u=ZC:=by
 cases k with
 |inl i=>obtain⟨t,e⟩:=(show ∃t,u=Pc i t from r);subst e;exact xk P w i t
 |inr x=>obtain⟨t,e⟩:=(show ∃t,u=PD x t from r);subst e;exact xj P w x t
theorem sH:∀{ks:List Key}{us:List NA},Vals (ks.map kV) us->ItemsAre (cp P w) ks us
 |[],_,r=>by rw[QV]at r;cases r;exact .nil
 |k::ks,_,r=>by
  rw[Nx]at r
  cases r with
  |cons h t=>exact .cons (sC h) (sH t)
abbrev KT(H:Hp):List (List Key×V)->List (List Key×ZE×NA)->Prop:=Wt λp q=>p.1=q.1/\H q.2.1=ZA (.tup (p.1.map kV))/\RelV p.2 q.2.2
variable{H:Hp}{kvs:List (List Key×V)}{xs:List (List Key×ZE×NA)}
def KT.val(r:KT H kvs xs)(k:List Key):RelO (gy kvs k) ((atKey xs k).map (·.2)):=by
 induction r with
 |nil=>exact PZ
 |@cons p q ps qs h t ih=>
  obtain⟨h1,_,h2⟩:=h
  by_cases e:p.1=k
  ·have e':q.1=k:=h1.symm.trans e
   have b:atKey (q::qs) k=ZA q.2:=by simp[atKey,QZ,e']
   rw[fY e,b];exact h2
  ·have e':¬ q.1=k:=λz=>e (h1.trans z)
   have b:atKey (q::qs) k=atKey qs k:=by simp[atKey,QZ,e']
   rw[fZ e,b];exact ih
def KT.MY(r:KT H kvs xs)(k:List Key){u:NA}(ry:RelV y u):
  KT H (kvs.map λkv=>if kv.1=k then(kv.1,y)else kv) (xs.map (putAt k u)):=by
 induction r with
 |nil=>exact .nil
 |@cons p q ps qs h t ih=>
  rw[Nx,Nx];refine .cons ?_ ih
  obtain⟨h1,h2,h3⟩:=h;unfold putAt
  by_cases e:p.1=k
  ·rw[if_pos e,if_pos (h1.symm.trans e)];exact⟨h1,h2,ry⟩
  ·rw[if_neg e,if_neg (λz=>e (h1.trans z))];exact⟨h1,h2,h3⟩
variable{b:ZE}
def KT.put(r:KT H kvs xs)(k:List Key){u:NA}(hb:H b=ZA (.tup (k.map kV)))(ry:RelV y u):
  KT H (cN kvs k y) (storedH xs k b u):=by
 have e:(kvs.any λkv=>decide (kv.1=k))=(atKey xs k).isSome:=by
  rw[vR,(r.val k).Mp,Vp]
 unfold cN storedH;rw[e]
 by_cases q:(atKey xs k).isSome=ZC
 ·rw[if_pos q,if_pos q];exact r.MY k ry
 ·rw[if_neg q,if_neg q];exact Paired.snoc r ⟨rfl,hb,ry⟩
variable{H':Hp}
def KT.keeps(r:KT H kvs xs)(ht:∀b ys,H b=ZA (.tup ys)->H' b=ZA (.tup ys)):KT H' kvs xs:=
 Paired.MW r λ_ _ z=>⟨z.1,ht _ _ z.2.1,z.2.2⟩
variable{a:ZE}
section
variable {h:ZH}
def wI{u:HO}(ok:HOk P w H h)(e:Rd H a u):ObjOk P w H h a u:=e.ok ok
def sW{kvs:List (Key×V)}(ok:HOk P w H h)(e:Rd H a (.dK kvs)):kvs.length<=ZI/\(a == P9)=ZD/\∃vs,KV kvs vs/\h.DictOf (cp P w) a vs:=
 show ObjOk P w H h a (.dK kvs)from wI ok e
def Hy{kvs:List (Key×V)}(ok:HOk P w H h)(e:H a=ZA (.dK kvs)):kvs.length<=ZI/\(a == P9)=ZD/\∃vs,KV kvs vs/\h.DictOf (cp P w) a vs:=sW ok (.inl e)
def key_of{ks:List Key}(ok:HOk P w H h)(e:H a=ZA (.tup (ks.map kV))):(R5 (cp P w)).is h ks a:=by
 obtain⟨_,its,r,o,h1,h2,n,h3⟩:=(show ObjOk P w H h a (.tup (ks.map kV))from ok a _ e)
 exact⟨o,its.toArray,n,h1,h2,h3,by simpa using sH r⟩
def sU(ok:HOk P w H h)(e:Rd H a (.dT kvs)):kvs.length<=ZI/\(a == P9)=ZD ∧
  ∃xs,KT H kvs xs/\h.DictOfH (R5 (cp P w)) a xs:=by
 obtain⟨z,y,xs,r,o,es,ep,h1,h2,h3,h4,h5⟩:=(show ObjOk P w H h a (.dT kvs)from wI ok e)
 refine⟨z,y,xs,r,o,es,ep,h1,h2,h3,h4,λx hx=>?_,h5⟩
 have all:∀{l:List (List Key×V)}{m:List (List Key×ZE×NA)},KT H l m->∀x∈m,(R5 (cp P w)).is h x.1 x.2.1:=by
  intro l m q
  induction q with
  |nil=>intro x hx;exact nomatch hx
  |@cons p q ps qs hq t ih=>
   intro x hx;rcases NG.mp hx with e|hx
   ·subst e
    exact key_of ok (by rw[<-hq.1];exact hq.2.1)
   ·exact ih x hx
 exact all r x hx
def Av(ok:HOk P w H h)(e:H a=ZA (.dT kvs)):kvs.length<=ZI/\(a == P9)=ZD ∧
  ∃xs,KT H kvs xs/\h.DictOfH (R5 (cp P w)) a xs:=sU ok (.inl e)
end
def DGet(H:Hp)(a:ZE)(y:V)(r:Option V):Prop:=
 (∃kvs k,Rd H a (.dK kvs)/\y=kV k/\r=gy kvs k)\/∃kvs k b,Rd H a (.dT kvs)/\y=.ref b/\H b=ZA (.tup (k.map kV))/\r=gy kvs k
def DPut(H:Hp)(a:ZE)(y v:V)(H':Hp):Prop:=
 (∃kvs k,H a=ZA (.dK kvs)/\y=kV k/\kvs.length<ZI/\H'=upd H a (.dK (cN kvs k v))) ∨
 ∃kvs k b,H a=ZA (.dT kvs)/\y=.ref b/\H b=ZA (.tup (k.map kV))/\kvs.length<ZI/\H'=upd H a (.dT (cN kvs k v))
theorem DGet.k{kvs:List (Key×V)}{k:Key}(e:H a=ZA (.dK kvs)):DGet H a (kV k) (gy kvs k):=.inl ⟨kvs,k,.inl e,rfl,rfl⟩
def DGet.t{k:List Key}(e:H a=ZA (.dT kvs))(eb:H b=ZA (.tup (k.map kV))):DGet H a (.ref b) (gy kvs k):=.inr ⟨kvs,k,b,.inl e,rfl,eb,rfl⟩
def DPut.t{k:List Key}{v:V}(e:H a=ZA (.dT kvs))(eb:H b=ZA (.tup (k.map kV)))(hl:kvs.length<ZI):
  DPut H a (.ref b) v (upd H a (.dT (cN kvs k v))):=.inr ⟨kvs,k,b,e,rfl,eb,hl,rfl⟩
variable{X:Cx}{h':ZH}{bv:W2}{σ:St}
section
variable {v:V}{u r:NA}{o:Option V}
def Inv.big(I:Inv X bv σ H s):P9<s.heap.objs.size:=by
 have h:Oy<s.heap.objs.size:=(I.mod.glob.keeps I.bk).lt;exact TU (by decide) h
def Bw(hu:A.units+1<cLine)(I:Inv X bv σ H s)(g:DGet H a y (ZA v))(ry:RelV y u)(h:∀w' s',Inv X bv σ H s'->RelV v w'->Q w' s'):
  ZJ (ZK X.prog X.w) A (getItem (.ref a) u) Q E s:=by
 rcases g with⟨kvs,k,e,ey,l⟩|⟨kvs,k,b,e,ey,eb,l⟩
 ·subst ey
  obtain⟨z,hd,vs,rel,dd⟩:=sW I.hok e;obtain⟨w',hw,rw'⟩:=RelO.some_of (v:=v) (o:=valueAt vs k) (by rw[l];exact rel.val k)
  exact wpAny_getItem_of (sC ry) dd.mapOf hw (h w' _ (I.tok _) rw')
 ·subst ey
  cases (show u=NQ b from ry)
  obtain⟨z,hd,xs,rel,dd⟩:=sU I.hok e;obtain⟨w',hw,rw'⟩:=RelO.some_of (v:=v) (o:=(atKey xs k).map (·.2)) (by rw[l];exact rel.val k)
  obtain⟨p,hp,hp2⟩:=O5.mp hw;refine wpAny_getItem_heap (Qi hu) (key_of I.hok eb) dd hp ?_
  rw[hp2];exact h w' _ (I.tok _) rw'
def d_in(hu:A.units+1<cLine)(I:Inv X bv σ H s)(g:DGet H a y o)(ry:RelV y u)(h:∀s',Inv X bv σ H s'->Q (.bool o.isSome) s'):
  ZJ (ZK X.prog X.w) A (OD .In u (.ref a)) Q E s:=by
 rcases g with⟨kvs,k,e,ey,l⟩|⟨kvs,k,b,e,ey,eb,l⟩
 ·subst ey
  obtain⟨z,hd,vs,rel,dd⟩:=sW I.hok e;refine wpAny_in_of (sC ry) hd dd.mapOf ?_
  rw[<-(rel.val k).Mp,<-l];exact h _ (I.tok _)
 ·subst ey
  cases (show u=NQ b from ry)
  obtain⟨z,hd,xs,rel,dd⟩:=sU I.hok e;refine wpAny_in_heap (Qi hu) (key_of I.hok eb) hd dd ?_
  have q:=(rel.val k).Mp;rw[Vp]at q;rw[<-q,<-l];exact h _ (I.tok _)
def kP{ob:HO}(I:Inv X bv σ H s)(mu:LV (H a))(hs:QU a s.heap h')(he:∃q,h'.get? a=ZA q)(new:ObjOk X.prog X.w (upd H a ob) h' a ob):
  Inv X bv σ (upd H a ob) {s with heap:=h',toks:=t'}:=
 I.write (x:=a) (e:=a) mu (.inl rfl) (λb q hb z=>(hs.2 b hb).trans z) he new
def Ee{kvs:List (Key×V)}{vs:List (Key×NA)}(z:kvs.length<=ZI)(hd:(a == P9)=ZD)(rel:KV kvs vs)(dd:h'.DictOf (cp P w) a vs):
  ObjOk P w H' h' a (.dK kvs):=⟨z,hd,vs,rel,dd⟩
def Bv{Q:Unit->NB->Prop}(hu:A.units+1<cLine)(I:Inv X bv σ H s)(g:DPut H a y v H')(ry:RelV y u)(rv:RelV v r)(h:∀s',Inv X bv σ H' s'->Q () s'):
  ZJ (ZK X.prog X.w) A (setItem (.ref a) u r) Q E s:=by
 rcases g with⟨kvs,k,e,ey,l,eH⟩|⟨kvs,k,b,e,ey,eb,l,eH⟩
 ·subst ey eH
  obtain⟨z,hd,vs,rel,dd⟩:=Hy I.hok e
  have hz:vs.length<=ZI:=by rw[<-rel.length];exact z
  have hl:(cN kvs k v).length<=ZI:=by have:=d6 kvs k v;omega
  refine wpAny_setItem_pairs (hsz:=hz) (sC ry) dd λh' dd' hs=>h _ ?_
  have he:∃q,h'.get? a=ZA q:=let ⟨q,_,_,hq,_⟩:=dd';⟨q,hq⟩
  exact kP I (by rw[e];exact PZ) hs he (Ee hl hd (rel.put k rv) dd')
 ·subst ey eH
  cases (show u=NQ b from ry)
  obtain⟨z,hd,xs,rel,dd⟩:=Av I.hok e
  have hz:xs.length<=ZI:=by rw[<-Rw rel];exact z
  have hl:(cN kvs k v).length<=ZI:=by have:=d6 kvs k v;omega
  refine wpAny_setItem_heap (hsz:=hz) (Qi hu) (key_of I.hok eb) dd λh' dd' hs=>h _ ?_
  obtain⟨q,es,ep,hq,h2,h3,h4,_,h5⟩:=dd';refine kP I (by rw[e];exact PZ) hs ⟨q,hq⟩ ⟨hl,hd,_,(rel.put k eb rv).keeps λc ys ec=>?_,q,es,ep,hq,h2,h3,h4,h5⟩
  rw[aG (j5 ec e (λz=>nomatch z))]
  exact ec
end
def vE(i:ZG):Prop:=∀ov iv,UO i ZD ov iv=operate [ov,iv] (getItem ov iv)
variable{value:ZG}
def Fc{env:Env}{slice:ZG}{pos:Pos}{T id:String}
  (hl:Qw (.type T) "__getitem__" =pure (ZA (.builtin id))) (hs:vE slice)
  (h:ZJ (ZK prog w) A (eval value env) (λo s₁=>ZJ (ZK prog w) A (eval slice env) (λi s₂=>s₂.TypeIs o T/\ZJ (ZK prog w) A (getItem o i) Q E s₂) E s₁) E s):
  ZJ (ZK prog w) A (eval (.Subscript value slice pos) env) Q E s:=by
 refine Subscript_ (Pu h (λo s₁ h₁=>Pu h₁ (λi s₂ h₂=>?_) λ_ _ x=>x) λ_ _ x=>x)
 obtain⟨hT,h₂⟩:=h₂;unfold Vd;refine Nq ?_
 rw[getitemInPython_of_ne hT.not_modules];refine Nq (Ui hT hl ?_)
 have fin:ZJ (ZK prog w) A (UO slice ZD o i) (λr s₃=>ZJ (ZK prog w) A (letTemporaryGo value o r >>= λ_=>pure r) Q E s₃) E s₂:=by
  rw[hs o i];exact wpAny_operating (Pu h₂ (λr s₃ h₃=>Nq (wpAny_letTemporaryGo (Nz h₃))) λ_ _ x=>x)
 first
  |exact Nz (Nq fin)
  |exact Nq (Nz (Nq fin))
  |exact Nq fin
def xR{o:Option V}(I:Inv X bv σ H s)(g:DGet H a y o):s.TypeIs (.ref a) "dict":=by
 rcases g with⟨kvs,k,e,_,_⟩|⟨kvs,k,b,e,_,_,_⟩
 ·obtain⟨_,_,vs,_,dd⟩:=sW I.hok e
  exact dd.typeIs
 ·obtain⟨_,_,xs,_,dd⟩:=sU I.hok e
  exact dd.typeIs
def Kp(td ty:TE):TE:=λσ H Q=>td σ H λx H1=>ty σ H1 λy H2=>∃a v,x=.ref a/\DGet H2 a y (ZA v)/\Q v H2
def Ky(td ty tv:TE):TS:=λD σ H=>tv σ H λv H1=>td σ H1 λx H2=>ty σ H2 λy H3=>∃a H4,x=.ref a/\DPut H3 a y v H4/\D.nx σ H4
section
variable {o i e:ZG}{pos pos' tpos:Pos}{td ty tv:TE}
def ug(hu:X.A.units+1<cLine)(ho:PE X o td)(hi:PE X i ty)(hs:vE i):PE X (.Subscript o i pos) (Kp td ty):=by
 intro bv s σ H Q I h;refine Fc PySem.F.slot_dict_getitem.lookup hs (cF (ho bv s σ H _ I h) λu s1 ⟨x,H1,I1,rx,q1⟩=>cF (hi bv s1 σ H1 _ I1 q1) λiv s2 hh_=>?_)
 obtain⟨y,H2,I2,ry,a,v,ex,g,q2⟩:=hh_;subst ex;obtain rfl:u=NQ a:=rx;exact⟨xR I2 g,Bw hu I2 g ry λw' s3 I3 rw'=>⟨v,H2,I3,rw',q2⟩⟩
def zK(hu:X.A.units+1<cLine)(ho:PE X o td)(hi:PE X i ty)(hv:PE X value tv)(hs:OQ value (ZA (.Subscript o i pos')) pos.line X.env=pure ZD):
  PS X (.Assign [.Subscript o i pos'] value pos) (Ky td ty tv):=by
 intro bv s σ H D I h;refine wpAny_Assign_Subscript (cF (hv bv s σ H _ I h) λr s1 ⟨v,H1,I1,rv,q1⟩=>cF (ho bv s1 σ H1 _ I1 q1) λu s2 ⟨x,H2,I2,rx,q2⟩=>cF (hi bv s2 σ H2 _ I2 q2) λiv s3 ⟨y,H3,I3,ry,a,H4,ex,g,q3⟩=>?_) hs
 subst ex;obtain rfl:u=NQ a:=rx;exact Bv hu I3 g ry rv λs4 I4=>⟨σ,H4,I4,q3⟩
end
def Ef(h:ZH)(hb:P9<h.objs.size):ObjOk P w H (h.push {cls:=.type "dict",data:=.dict #[]}) h.objs.size (.dK []):=
 ⟨O4 _,beq_eq_false_iff_ne.mpr (Rn (Oh hb)),[],.nil,Heap.DictOf.new h⟩
def qB(h:ZH)(hb:P9<h.objs.size):ObjOk P w H (h.push {cls:=.type "dict",data:=.dict #[]}) h.objs.size (.dT []):=
 ⟨O4 _,beq_eq_false_iff_ne.mpr (Rn (Oh hb)),[],.nil,_,#[],0,NI _ rfl,⟨rfl,rfl,rfl⟩,rfl,rfl,PX⟩
def oU:List (TE×TE)->St->Hp->(List (V×V)->Hp->Prop)->Prop
 |[],_,H,Q=>Q [] H
 | (tk,tv)::r,σ,H,Q=>tk σ H λx H1=>tv σ H1 λy H2=>oU r σ H2 λps H3=>Q ((x,y)::ps) H3
abbrev VV:List (V×V)->List (NA×NA)->Prop:=Wt λp q=>RelV p.1 q.1/\RelV p.2 q.2
def Kf(X:Cx)(pos:Pos)(keys:List (Option ZG))(values:List ZG)(trs:List (TE×TE)):Prop:=
 ∀(bv:W2)(s:NB)(σ:St)(H:Hp)(Q:List (V×V)->Hp->Prop),Inv X bv σ H s->oU trs σ H Q →
  ZJ (ZK X.prog X.w) X.A (evalPairs (pairTrees keys values X.env pos)) (λvs s'=>∃ps H',Inv X bv σ H' s'/\VV ps vs/\Q ps H') X.xe s
def FT{pos:Pos}:Kf X pos [] [] []:=λbv s σ H Q I h=>pairTrees_nil_walk ⟨[],H,I,.nil,h⟩
variable{trs:List (TE×TE)}
def ml{pos:Pos}{k v:ZG}{ks:List (Option ZG)}{vs:List ZG}{tk tv:TE}(hk:PE X k tk)(hv:PE X v tv)(hr:Kf X pos ks vs trs):
  Kf X pos (ZA k::ks) (v::vs) ((tk,tv)::trs):=λbv s σ H Q I h=>
 pairTrees_cons_walk (cF (hk bv s σ H _ I h) λu s1 ⟨x,H1,I1,rx,q1⟩=>cF (hv bv s1 σ H1 _ I1 q1) λw2 s2 ⟨y,H2,I2,ry,q2⟩=>
  cF (hr bv s2 σ H2 _ I2 q2) λws s3 ⟨ps,H3,I3,rel,q3⟩=>⟨(x,y)::ps,H3,I3,.cons ⟨rx,ry⟩ rel,q3⟩)
def gm(kvs more:List (Key×V)):List (Key×V):=more.foldl (λacc kv=>cN acc kv.1 kv.2) kvs
def KV.merge:∀{more:List (Key×V)}{rs:List (Key×NA)}{kvs:List (Key×V)}{vs:List (Key×NA)},KV more rs->KV kvs vs->KV (gm kvs more) (merged vs rs):=by
 intro more rs kvs vs r;unfold KV at r
 induction r generalizing kvs vs with
 |nil=>intro q;exact q
 |@cons p q ps qs h t ih=>
  intro r0
  have e:KV (cN kvs p.1 p.2) (stored vs q.1 q.2):=by
   have:=r0.put p.1 h.2;rw[<-h.1];exact this
  exact ih e
theorem lC:∀(more kvs:List (Key×V)),(gm kvs more).length<=kvs.length+more.length
 |[],kvs=>by show kvs.length<=kvs.length+0;omega
 |p::r,kvs=>by
  have h1:=lC r (cN kvs p.1 p.2)
  have h2:=d6 kvs p.1 p.2
  show(gm (cN kvs p.1 p.2) r).length<=_
  rw[ND];omega
theorem qD{P:N1}{w:OF}:∀{kvs:List (Key×V)}{ws:List (NA×NA)},VV (kvs.map λkv=>(kV kv.1,kv.2)) ws->∃rs,Carries (cp P w) ws rs/\KV kvs rs
 |[],_,r=>by rw[QV]at r;cases r;exact⟨[],PZ,.nil⟩
 |p::kvs,_,r=>by
  rw[Nx]at r
  cases r with
  |@cons a b as bs h t=>
   obtain⟨rs,c,q⟩:=qD (P:=P) (w:=w) t;obtain⟨b1,b2⟩:=b;exact⟨(p.1,b2)::rs,⟨sC h.1,rfl,c⟩,.cons ⟨rfl,h.2⟩ q⟩
def Ko(trs:List (TE×TE)):TE:=λσ H Q=>∀p,H p=ZB->oU trs σ (upd H p (.dK [])) λps H2=>H2 p=ZA (.dK [])/\∃kvs:List (Key×V),ps=kvs.map (λkv=>(kV kv.1,kv.2))/\kvs.length<=15/\Q (.ref p) (upd H2 p (.dK (gm [] kvs)))
def F5{pos:Pos}{keys:List (Option ZG)}{values:List ZG}(h:Kf X pos keys values trs)(hall:keys.all (·.isSome)=ZC)(hl:keys.length=values.length)(h0:keys≠ [])
  (h15:keys.length<=15):PE X (.Dict keys values pos) (Ko trs):=by
 intro bv s σ H Q I q
 have hn:=I.hok.fresh (NL s.heap.objs.size)
 have I1:=I.laid (a:=s.heap.objs.size) (o:=.dK []) (h':=s.heap.push {cls:=.type "dict",data:=.dict #[]}) (t':=s.toks) (λ_ _ q=>Nr _ q) (NL _) (Ef s.heap I.big)
 refine wpAny_Dict_walk (knd:=cp X.prog X.w) hall hl h0 h15 (cF (h bv _ σ _ _ I1 (q _ hn)) λws s2 hh_=>?_)
 obtain⟨ps,H2,I2,rel,e,kvs,ep,lk,q2⟩:=hh_;subst ep;obtain⟨rs,c,rk⟩:=qD (P:=X.prog) (w:=X.w) rel;obtain⟨z,hd,vs0,r0,dd⟩:=Hy I2.hok e;cases r0;refine⟨rs,c,dd,λh' dd' hs=>⟨.ref s.heap.objs.size,_,?_,rfl,q2⟩⟩
 have hz:(gm [] kvs).length<=ZI:=by
  have h1:=lC kvs [];rw[Qs]at h1;rw[O9];omega
 have he:∃q,h'.get? s.heap.objs.size=ZA q:=let ⟨q,_,_,hq,_⟩:=dd';⟨q,hq⟩
 exact kP I2 (by rw[e];exact PZ) hs he (Ee hz hd (rk.merge .nil) dd')
structure M1 (X:Cx)(o:ZG)(m:Str)(apos:Pos)(e:ZG)(cpos:Pos):Prop where
 base:PB o m X.env (eval o X.env)=eval o X.env
 few:((backTo cpos (NZ [e] X.env)).all (λx=>!x.1)&&(backToKw cpos (Ww [] X.env)).all (λx=>x.1.isSome)
  &&decide (([e]:List ZG).length+([]:List Wx).length+(if ([]:List Wx).isEmpty then 0 else 1)<30))=ZC
 line:(apos.endLine == cpos.line)=ZC
 trees:backTo cpos (NZ [e] X.env)=[(ZD,eval e X.env)]
structure M2 (X:Cx)(o:ZG)(m:Str)(apos:Pos)(e f:ZG)(cpos:Pos):Prop where
 base:PB o m X.env (eval o X.env)=eval o X.env
 few:((backTo cpos (NZ [e,f] X.env)).all (λx=>!x.1)&&(backToKw cpos (Ww [] X.env)).all (λx=>x.1.isSome)
  &&decide (([e,f]:List ZG).length+([]:List Wx).length+(if ([]:List Wx).isEmpty then 0 else 1)<30))=ZC
 line:(apos.endLine == cpos.line)=ZC
 trees:backTo cpos (NZ [e,f] X.env)=[(ZD,eval e X.env),(ZD,eval f X.env)]
def IsD(H:Hp)(a:ZE):Prop:=(∃kvs,Rd H a (.dK kvs))\/∃kvs,Rd H a (.dT kvs)
def JH(I:Inv X bv σ H s)(d:IsD H a):
  s.TypeIs (.ref a) "dict"/\(∀b,NQ a=.ref b->∃ob,s.heap.get? b=ZA ob/\ob.dict=ZB)/\(a == P9)=ZD:=by
 rcases d with⟨kvs,e⟩|⟨kvs,e⟩
 ·obtain⟨_,hd,vs,_,dd⟩:=sW I.hok e
  refine⟨dd.typeIs,λb q=>?_,hd⟩
  cases q;obtain⟨ob,_,_,h1,h2,_⟩:=dd;exact⟨ob,h1,h2.2.1⟩
 ·obtain⟨_,hd,xs,_,dd⟩:=sU I.hok e
  refine⟨dd.typeIs,λb q=>?_,hd⟩
  cases q;obtain⟨ob,_,_,h1,h2,_⟩:=dd;exact⟨ob,h1,h2.2.1⟩
section
variable {d:V}{u r:NA}{o:Option V}
def J0(hu:A.units+1<cLine)(I:Inv X bv σ H s)(g:DGet H a y o)(ry:RelV y u)(h:∀w' s',Inv X bv σ H s'->RelV (o.getD .non) w'->Q w' s'):
  ZJ (ZK X.prog X.w) A (call (.builtin "dict.get") [.ref a,u]) Q E s:=by
 rcases g with⟨kvs,k,e,ey,l⟩|⟨kvs,k,b,e,ey,eb,l⟩
 ·subst ey
  obtain⟨z,hd,vs,rel,dd⟩:=sW I.hok e;refine call_meetsIn RZ dd.typeIs TF (Ta _ _) (meets_dict_get (cp X.prog X.w) a (sC ry) hd) ⟨_,dd.mapOf,h _ _ (I.tok _) ?_⟩
  rw[l];exact(rel.val k).getD rfl
 ·subst ey
  cases (show u=NQ b from ry)
  obtain⟨z,hd,xs,rel,dd⟩:=sU I.hok e;refine call_meetsIn RZ dd.typeIs TF (Ta _ _) (meetsH_dict_get (R5 (cp X.prog X.w)) a b hd) ⟨Qi hu,k,xs,key_of I.hok eb,dd,h _ _ (I.tok _) ?_⟩
  rw[l];exact(rel.val k).getD rfl
end
def HS(td ty:TE):TE:=λσ H Q=>td σ H λx H1=>∃a,x=.ref a/\IsD H1 a/\ty σ H1 λy H2=>∃o,DGet H2 a y o/\Q (o.getD .non) H2
section
variable {o e f:ZG}{apos cpos:Pos}{td ty tx:TE}
def CS(hu:X.A.units+1<cLine)(ho:PE X o td)(he:PE X e ty)(m:M1 X o "get" apos e cpos):PE X (.Call (.Attribute o "get" apos) [e] [] cpos) (HS td ty):=by
 intro bv s σ H Q I h;refine wpAny_Call_method m.base m.few m.line PySem.F.plainAttrs_dict RZ PySem.F.type_dict_get (cF (ho bv s σ H _ I h) λu s1 hh_=>?_)
 obtain⟨x,H1,I1,rx,a,ex,d,q1⟩:=hh_;subst ex;obtain rfl:u=NQ a:=rx;obtain⟨t1,t2,_⟩:=JH I1 d;refine⟨t1,t2,?_⟩
 rw[m.trees];refine RO rfl (Rc (Qb (cF (he bv s1 σ H1 _ I1 q1) λiv s2 ⟨y,H2,I2,ry,ov,g,q2⟩=>Qq ?_)))
 exact J0 hu I2 g ry λw' s3 I3 rw'=>⟨_,H2,I3,rw',q2⟩
end
end L2
namespace Tr
open PySem PySem.Spec PyProof.Rows L2
variable{H:Hp}{a:ZE}{kvs:List (List Key×V)}
def DGet.MV{b:ZE}{k:List Key}(e:Rd H a (.dT kvs))(eb:H b=ZA (.tup (k.map kV))):DGet H a (.ref b) (gy kvs k):=.inr ⟨kvs,k,b,e,rfl,eb,rfl⟩
def hU{k:Nat}(h:Room k A):A.units+1<cLine:=by have:=h.un;omega
variable{O:Ow}
theorem qi:∀{l:List T}{vs:List V}{k:List Key},lP l=ZA k->Reps K O H l vs->vs=k.map kV
 |[],vs,k,h,r=>by cases Reps.AC.mp r;cases h;rfl
 |t::l,vs,k,h,r=>by
  obtain⟨v,ws,rfl,p,q⟩:=Reps.me.mp r;unfold lP at h
  cases e1:Hs t with
  |none=>rw[e1]at h;cases h
  |some a=>
   cases e2:lP l with
   |none=>rw[e1,e2]at h;cases h
   |some b=>
    rw[e1,e2]at h;cases h;rw[qi e2 q,Nx]
    congr 1
    cases t with
    |int i=>cases e1;exact Rep.Da.mp p
    |str x=>cases e1;exact Rep.GM.mp p
    |_=>cases e1
variable{v:V}
def gC{y:T}{k:List Key}(h:keyOf y=ZA k)(r:Rep K O H y v):∃b,v=.ref b/\H b=ZA (.tup (k.map kV)):=by
 cases y with
 |tup l=>
  obtain⟨a,vs,e1,_,e3,e4⟩:=Rep.Fk.mp r;rw[qi h e4]at e3
  exact⟨a,e1,e3⟩
 |_=>cases h
theorem mL{k:List Key}:∀{ks ts:List T}{kvs:List (List Key×V)},ks.map keyOf=kvs.map (λp=>ZA p.1)->Reps K O H ts (kvs.map (·.2))->match kX ks ts k with
  |some t=>∃v,gy kvs k=ZA v/\Rep K O H t v
  |none=>gy kvs k=ZB
 |[],ts,kvs,h,r=>by
  cases kvs with
  |nil=>unfold kX;exact B2
  |cons _ _=>cases h
 |k'::ks,ts,kvs,h,r=>by
  cases kvs with
  |nil=>cases h
  |cons p kvs=>
   rw[Nx,Nx]at h;injection h with h1 h2
   rw[Nx]at r
   cases ts with
   |nil=>have:=Reps.AC.mp r;cases this
   |cons t ts=>
    obtain⟨v,ws,e,q1,q2⟩:=Reps.me.mp r;injection e with e1 e2
    subst e1 e2;unfold kX
    by_cases hk:keyOf k'=ZA k
    ·rw[if_pos hk]
     rw[h1]at hk;injection hk with hk
     exact⟨_,fY hk,q1⟩
    ·rw[if_neg hk]
     have hk2:¬ p.1=k:=λz=>hk (by rw[h1,z])
     rw[fZ hk2];exact mL h2 q2
def ub [DecidableEq κ]{k:κ}{p:κ×V}{r:List (κ×V)}(h:¬ p.1=k):cN (p::r) k v=p::cN r k v:=by
 unfold cN;rw[QF,decide_eq_false h,Td]
 by_cases q:(r.any λkv=>decide (kv.1=k))=ZC
 ·rw[if_pos q,if_pos q,Nx,if_neg h]
 ·rw[if_neg q,if_neg q];rfl
def uc [DecidableEq κ]{k:κ}{p:κ×V}{r:List (κ×V)}(h:p.1=k)(hn:∀q∈r,q.1≠k):cN (p::r) k v=(p.1,v)::r:=by
 unfold cN;rw[QF,decide_eq_true h,Bool.true_or,if_pos rfl,Nx,if_pos h]
 congr 1
 conv=>rhs;rw[<-Wl r]
 exact N6 λq hq=>if_neg (hn q hq)
theorem mK{kT vT:T}{k:List Key}(hk:keyOf kT=ZA k)(hv:Rep K O H vT v):∀{ks ts:List T}{kvs:List (List Key×V)},ks.map keyOf=kvs.map (λp=>ZA p.1)->Reps K O H ts (kvs.map (·.2))->(kvs.map (·.1)).Nodup →
  (gD kT vT ks ts).1.map keyOf=(cN kvs k v).map (λp=>ZA p.1)/\Reps K O H (gD kT vT ks ts).2 ((cN kvs k v).map (·.2))
 |[],ts,kvs,h,r,_=>by
  cases kvs with
  |nil=>
   unfold gD;refine⟨?_,Reps.FM hv Reps.nil_⟩
   simp[cN,hk]
  |cons _ _=>cases h
 |k'::ks,ts,kvs,h,r,hn=>by
  cases kvs with
  |nil=>cases h
  |cons p kvs=>
   rw[Nx,Nx]at h;injection h with h1 h2
   rw[Nx]at r;rw[Nx]at hn;obtain⟨n1,n2⟩:=Oc.mp hn
   cases ts with
   |nil=>have:=Reps.AC.mp r;cases this
   |cons t ts=>
    obtain⟨v',ws,e,q1,q2⟩:=Reps.me.mp r;injection e with e1 e2
    subst e1 e2;unfold gD
    by_cases hz:keyOf k'=keyOf kT
    ·rw[if_pos hz]
     have hp:p.1=k:=by rw[hz,hk]at h1;injection h1 with h1;exact h1.symm
     rw[uc hp λq hq z=>n1 (by rw[hp,<-z];exact List.mem_map_of_mem hq)]
     exact⟨by rw[Nx,Nx,h1,h2],Reps.FM hv q2⟩
    ·rw[if_neg hz]
     have hp:¬ p.1=k:=λz=>hz (by rw[h1,z,hk])
     obtain⟨a1,a2⟩:=mK hk hv h2 q2 n2;rw[ub hp];exact⟨by rw[Nx,Nx,h1,a1],Reps.FM q1 a2⟩
def GZ{xs:List (List Key×ZE×NA)}(rel:KT H kvs xs):kvs.map (·.1)=xs.map (·.1):=by
 induction rel with
 |nil=>rfl
 |cons h t ih=>rw[Nx,Nx,ih,h.1]
variable{X:Cx}
def xT{bv:W2}{σ:L2.St}(I:Inv X bv σ H s)(e:H a=ZA (.dT kvs)):(kvs.map (·.1)).Nodup/\kvs.length<=ZI:=by
 obtain⟨z,_,xs,rel,_,_,_,_,_,_,_,_,hn⟩:=Av I.hok e;rw[GZ rel];exact⟨hn,z⟩
variable{a b:ZG}{fa fb:W5}
section
variable {pos:Pos}
def K0(hu:X.A.units+1<cLine)(ha:cQ X a fa)(hb:cQ X b fb)(hs:autoParam (vE b) x_):cQ X (.Subscript a b pos) (o2 aO fa fb):=by
 refine PE.imp (ug hu ha hb hs) λσ H Q ⟨Z,O,E,hq⟩=>?_
 obtain⟨Z1,O1,E1,h1⟩:=bj E hq;refine⟨Z1,O1,E1,Post.mono h1 λt H1 s1 q v r=>?_⟩
 obtain⟨t',r',s',E',q'⟩:=q v r;obtain⟨Z2,O2,E2,h2⟩:=bj (f:=fb) E' q';refine⟨Z2,O2,E2,Post.mono h2 λt2 H2 s2 q2 v2 r2=>?_⟩
 obtain⟨t2',r2',s2',E2',q2'⟩:=q2 v2 r2
 have r'':=r'.same s2';unfold aO at q2'
 split at q2'
 ·rename_i ks vs k hk
  split at q2'
  ·rename_i x hx
   obtain⟨a,kvs,e1,e2,e3,e4,e5⟩:=Rep.Gc.mp r'';obtain⟨b,f1,f2⟩:=gC hk r2'
   have g:=mL (k:=k) e4 e5;rw[hx]at g;obtain⟨w,g1,g2⟩:=g;exact⟨a,w,e1,by rw[f1,<-g1];exact DGet.MV e3 f2,q2' H2 (Same.refl H2) w g2⟩
  ·exact q2'.elim
 ·exact q2'.elim
end
open PySem.SeqAt
variable{x:T}
def De(rx:ReV s x ux)(hu:A.units+60<cLine){l:List T}(hd:x.dep<=60\/deps l<=60)(r:ReVs s l us):
  ∃e:NA->Bool,(∀y∈us,EqAt A s y ux (e y))/\us.map e=l.map λt=>bh t x:=by
 classical
 have ex:∀y∈us,∃t∈l,ReV s t y:=λy hy=>by
  obtain⟨i,hi,rfl⟩:=QD hy
  have hl:=r.length
  have e1:l[i]?=ZA l[i]:=by simp
  obtain⟨u,q1,q2⟩:=r.get e1
  have:us[i]?=ZA us[i]:=by simp
  rw[this]at q1;cases q1;exact⟨l[i],OG _,q2⟩
 let e:NA->Bool:=λy=>decide (∃t∈l,ReV s t y/\bh t x=ZC)
 have dep:∀t∈l,t.dep<=60\/x.dep<=60:=λt ht=>by
  rcases hd with h|h
  ·exact .inr h
  ·obtain⟨i,hi,rfl⟩:=QD ht
   exact .inl (Oj (kg (i:=i) (by simp)) h)
 have uniq:∀y t t',ReV s t y->ReV s t' y->bh t x=bh t' x:=λy t t' z z'=>by
  rw[<-mP t,<-mP t',ReV.nf z z']
 have agree:∀y t,t∈l->ReV s t y->e y=bh t x:=λy t h z=>by
  show decide (∃t∈l,ReV s t y/\bh t x=ZC)=bh t x
  cases q:bh t x with
  |true=>exact decide_eq_true ⟨t,h,z,q⟩
  |false=>
   refine decide_eq_false ?_
   rintro ⟨t',h',z',q'⟩
   rw[<-uniq y t t' z z',q]at q';cases q'
 refine⟨e,λy hy=>?_,?_⟩
 ·obtain⟨t,h,z⟩:=ex y hy
  rw[agree y t h z];exact(GC 60 A s t x y ux (dep t h) hu z rx).1
 ·have go:∀(l':List T)(us':List NA),(∀t∈l',t∈l)->ReVs s l' us'->us'.map e=l'.map λy=>bh y x:=by
   intro l'
   induction l' with
   |nil=>intro us' _ r';rw[ReVs.AC.mp r'];rfl
   |cons t l' ih=>
    intro us' sub r';obtain⟨u,ws,rfl,p,q⟩:=ReVs.me.mp r';rw[Nx,Nx,ih ws (λt ht=>sub t (Nu _ ht)) q,agree u t (sub t Nv) p]
  exact go l us (λ_ h=>h) r
theorem qx:∀{l:List T}{n k:Nat},kO x l n=ZA k->n<=k/\(l.map λt=>bh t x)[k - n]?=ZA ZC/\∀m,m<k - n->(l.map λt=>bh t x)[m]?=ZA ZD
 |[],n,k,h=>by cases h
 |t::l,n,k,h=>by
  unfold kO at h
  cases q:bh t x with
  |true=>
   rw[q,if_pos rfl]at h;cases h;refine⟨NL _,?_,λm hm=>by omega⟩
   rw[SH,Nx,q];rfl
  |false=>
   rw[q,if_neg (by decide)]at h
   obtain⟨h1,h2,h3⟩:=qx h
   have e:k - n=(k - (n+1))+1:=by omega
   refine⟨by omega,?_,λm hm=>?_⟩
   ·rw[e,Nx,Pn];exact h2
   ·cases m with
    |zero=>rw[Nx,q];rfl
    |succ m=>rw[Nx,Pn];exact h3 m (by omega)
section
variable {pos apos cpos:Pos}
def CA(hu:X.A.units+61<cLine)(ha:cQ X a fa)(hb:cQ X b fb)(hn:autoParam (bQ b=ZC) u_)
  (hbase:autoParam (PB a "index" X.env (eval a X.env)=eval a X.env) u_) (hline:autoParam ((apos.endLine == cpos.line)=ZC) u_):cQ X (.Call (.Attribute a "index" apos) [b] [] cpos) (oL eO fa fb):=by
 have hs:NZ [b] X.env=(ZD,eval b X.env)::NZ [] X.env:=bo hn;intro bv s σ H Q I ⟨Z,O,E,hq⟩;refine TM hbase (by rw[hs];rfl) hline rfl (cF (ha bv s σ H _ I (bj E hq)) λv s1 hh_=>?_)
 obtain⟨x,H1,I1,r1,t,rt,s',E',q1⟩:=hh_
 cases t with
 |lst l=>
  obtain⟨c,vs,e1,e2,e3,e4⟩:=Rep.Do.mp rt;subst e1;obtain rfl:v=NQ c:=r1;obtain⟨h1,h2⟩:=B5 I1 (show RelV (.ref c) (.ref c)from rfl) (.inl ⟨rfl,vs,SqL.of e3⟩)
  refine⟨_,_,Rv,PySem.F.slot_list_index,PySem.F.type_list_index,h1,h2,?_⟩
  rw[hs];refine RO rfl (Rc (Qb (cF (hb bv s1 σ H1 _ I1 (bj (f:=fb) E' q1)) λu s2 ⟨y,H2,I2,r2,t2,rt2,s'',E'',q2⟩=>Qq ?_)))
  unfold eO at q2
  split at q2
  ·rename_i l' heq
   cases heq
   split at q2
   ·rename_i hd3
    obtain⟨hd,hnx,hny⟩:=hd3
    split at q2
    ·rename_i k hk
     have rv:=Rep.val I2 (show(T.lst l).nd=ZC by unfold T.nd;exact hny) (rt.same s'') (show RelV (.ref c) (.ref c)from rfl)
     unfold ReV at rv;obtain⟨c',us,ec,hl,rs⟩:=rv;cases ec;obtain⟨⟨cls,dd,data,sl⟩,ho,hc,n,hdd⟩:=id hl;simp only at hc hdd;subst hc hdd;obtain⟨e,he,ha⟩:=De (A:=X.A.in1) (Rep.val I2 hnx rt2 r2) (by show X.A.units+1+60<cLine;omega) hd rs
     obtain⟨_,k1,k2⟩:=qx hk;rw[T1]at k1 k2;rw[<-ha]at k1 k2
     have hkl:k<us.length:=by have:=(NN.mp k1).1;rwa [Ny]at this
     have hz:us.length<=ZI:=by
      have z:=(I2.Mq (s'' _ _ e3)).1
      have h3:=rs.length
      have h4:=e4.length;omega
     refine Sj F.slot_list_index ⟨_,ho,rfl⟩ F.entry_list_index (F.args_list_index_2 _ _) (list_indexAt c us.toArray n dd sl u e k (by simpa using hkl) (by rw[O9]at hz;omega) ?_ ?_) ⟨ho,λy hy=>he y (by simpa using hy),?_⟩
     ·have:=(NN.mp k1).2
      rw[Rj]at this
      simpa using this
     ·intro m hm hmk
      have:=(NN.mp (k2 m hmk)).2
      rw[Rj]at this
      simpa using this
     ·exact⟨.int _,H2,I2.tok _,⟨_,rfl⟩,q2 H2 (Same.refl H2) _ (Rep.GE _)⟩
    ·exact q2.elim
   ·exact q2.elim
  ·rename_i hno
   exact(hno l rfl).elim
 |_=>exact q1.elim
def IF(hu:X.A.units+1<cLine)(ha:cQ X a fa)(hb:cQ X b fb)(hn:autoParam (bQ b=ZC) u_)
  (hbase:autoParam (PB a "get" X.env (eval a X.env)=eval a X.env) u_) (hline:autoParam ((apos.endLine == cpos.line)=ZC) u_):cQ X (.Call (.Attribute a "get" apos) [b] [] cpos) (oD jG fa fb):=by
 have hs:NZ [b] X.env=(ZD,eval b X.env)::NZ [] X.env:=bo hn;refine PE.imp (CS hu ha hb ⟨hbase,by rw[hs];rfl,hline,by rw[hs];rfl⟩) λσ H Q ⟨Z,O,E,hq⟩=>?_
 obtain⟨Z1,O1,E1,h1⟩:=bj E hq;refine⟨Z1,O1,E1,Post.mono h1 λt H1 s1 q v r=>?_⟩
 obtain⟨t',r',s',E',q'⟩:=q v r
 cases t' with
 |dct ks vs=>
  obtain⟨c,kvs,e1,e2,e3,e4,e5⟩:=Rep.Gc.mp r';refine⟨c,e1,.inr ⟨kvs,e3⟩,?_⟩
  obtain⟨Z2,O2,E2,h2⟩:=bj (f:=fb) E' q';refine⟨Z2,O2,E2,Post.mono h2 λt2 H2 s2 q2 v2 r2=>?_⟩
  obtain⟨t2',r2',s2',E2',q2'⟩:=q2 v2 r2;unfold jG at q2'
  split at q2'
  ·rename_i ks' vs' k heq hk
   cases heq;obtain⟨b,f1,f2⟩:=gC hk r2'
   have g:=mL (k:=k) e4 (e5.same s2');refine⟨gy kvs k,by rw[f1];exact DGet.MV (Rd.MK (P:=yJ) (SameO.of s2') (λz=>z) e3) f2,?_⟩
   cases hx:kX ks vs k with
   |some z=>
    rw[hx]at g q2';obtain⟨w,g1,g2⟩:=g;rw[g1]
    exact q2' H2 (Same.refl H2) w g2
   |none=>
    rw[hx]at g q2';rw[g];exact q2' H2 (Same.refl H2) .non Rep.MH
  ·exact q2'.elim
 |_=>exact q'.elim
def Jb(hu:X.A.units+1<cLine):OpT X (OD .In) Ei:=by
 intro bv s σ H O x y vx vy ux uy Q I hf rx ry r1 r2 hp;unfold Ei at hp
 split at hp
 ·rename_i ks vs k hk
  obtain⟨c,kvs,e1,e2,e3,e4,e5⟩:=Rep.Gc.mp ry;obtain⟨b,f1,f2⟩:=gC hk rx;subst e1 f1;obtain rfl:uy=NQ c:=r2
  have g:=mL (k:=k) e4 e5
  have hsome:(kX ks vs k).isSome=(gy kvs k).isSome:=by
   cases hx:kX ks vs k with
   |some z=>rw[hx]at g;obtain⟨w,g1,_⟩:=g;rw[g1];rfl
   |none=>rw[hx]at g;rw[g];rfl
  refine d_in hu I (DGet.MV e3 f2) r1 λs' I'=>⟨.bl _,H,I',rfl,?_⟩
  rw[<-hsome];exact hp H (Same.refl H) _ (Rep.bl_ _)
 ·exact hp.elim
end
section
variable {c:ZG}{fc:W5}{pos p2 p3 p4:Pos}{x:Str}
def HR(X:Cx):TE:=λ_ H Q=>∀p,Nw X.K H p->Q (.ref p) (upd H p (.dT []))
def CP:PE X (.Dict [] [] pos) (HR X):=λbv s σ H Q I h=>by
 have hk:X.K.lookup s.heap.objs.size=ZB:=by
  cases q:X.K.lookup s.heap.objs.size with
  |none=>rfl
  |some o=>exact absurd (NJ (I.kIn _ o q)) (N4 _)
 exact wpAny_Dict_empty ⟨.ref s.heap.objs.size,_,I.laid (a:=s.heap.objs.size) (o:=.dT []) (t':=s.toks) (λ_ _ q=>Nr _ q) (NL _) (qB s.heap I.big),rfl,h _ ⟨I.hok.fresh (NL _),hk⟩⟩
def Cw(i:Nat)(hN:X.N.Nodup)(hi:autoParam (X.N[i]?=ZA x) u_)(hx:autoParam (Loc X.env.scope x) y_)(hs:autoParam (OQ (.Dict [] [] p2) (ZA (.Name x p3)) pos.line X.env=pure ZD) u_)
  (hf:autoParam (X.fn x=ZC\/X.env.scope.names.lookup x=ZA .local) r_):qL X (.Assign [.Name x p3] (.Dict [] [] p2) pos) (tX i):=PS.imp (pz hN hi hx CP hs hf) λD σ H hh_=>by
 obtain⟨Z,B,M,E,h⟩:=hh_;unfold tX at h;intro p hp
 by_cases hl:i<Z.length
 ·rw[if_pos hl]at h
  have hm:∀a,a=p->Nw X.K H a:=λa z=>z▸hp
  obtain⟨E2,sub⟩:=E.new (m:=λa=>a=p) (o:=.dct [] []) (v:=.ref p) (H':=upd H p (.dT [])) hl hm (aW hp.1 _) ⟨p,[],rfl,λb=>RT,aI,rfl,Reps.nil_⟩
  exact h _ _ _ (SameO.of (aW hp.1 _)) E2 sub
 ·rw[if_neg hl]at h
  exact h.elim
def Im(i:Nat)(hu:X.A.units+1<cLine)(hb:cQ X b fb)(hc:cQ X c fc)(hN:autoParam (X.N[i]?=ZA x) u_)(hv:autoParam (vD X.env.scope x) v_)
  (hd:autoParam ((x == ("__debug__" : Str))=ZD) s_) (hcd:autoParam ((x == ("__classdict__" : Str))=ZD) s_)
  (hs:autoParam (OQ c (ZA (.Subscript (.Name x p2) b p3)) pos.line X.env=pure ZD) u_):qL X (.Assign [.Subscript (.Name x p2) b p3] c pos) (qY i fb fc):=by
 intro bv s σ H D I ⟨Z,B,M,E,h⟩;refine zK hu (jU hN hv hd hcd) hb hc hs bv s σ H D I ?_
 unfold qY at h
 split at h
 ·rename_i ks vs hl
  obtain⟨v0,e1,d,kvs,rfl,hM,e3,e4,e5⟩:=E.env.own i _ hl;obtain⟨nd,nz⟩:=xT I e3;refine⟨Z,OO B M,E.o,?_⟩
  cases q:fc Z with
  |bad=>rw[q]at h;exact h.elim
  |err c=>rw[q]at h;exact PostF.xa h
  |ok vT=>
   rw[q,aF]at h;intro H1 s1 v r;refine⟨.ref d,e1,Z,OO B M,(E.same s1).o,?_⟩
   have h1:=h.later (SameO.of s1) (P1:=M.u) λa z=>.inl z
   cases q2:fb Z with
   |bad=>rw[q2]at h1;exact h1.elim
   |err c=>rw[q2]at h1;exact PostF.xa h1
   |ok kT=>
    rw[q2,aF]at h1;intro H2 s2 y ry
    cases q3:keyOf kT with
    |none=>rw[q3]at h1;exact h1.elim
    |some k=>
     rw[q3]at h1
     have h2:=h1.later (SameO.of s2) (P1:=M.u) λa z=>.inl z
     have hlen:ks.length=kvs.length:=by have:=congrArg O0 e4;simpa using this
     by_cases hz:ks.length<1000
     ·simp only[if_pos hz]at h2
      obtain⟨kb,f1,f2⟩:=gC q3 ry
      have e3':=s2 _ _ (s1 _ _ e3);obtain⟨g1,g2⟩:=mK q3 (r.same s2) e4 ((e5.same s1).same s2) nd;refine⟨d,upd H2 d (.dT (cN kvs k v)),rfl,by rw[f1];exact DPut.t e3' f2 (by rw[O9];omega),?_⟩
      have sm:SameO (M i) H2 (upd H2 d (.dT (cN kvs k v))):=λc u e nb=>by rw[aG (λz=>nb ((hM c).mpr z))];exact e
      obtain⟨g3,g4⟩:=((E.same s1).same s2).put (o':=.dct (gD kT vT ks vs).1 (gD kT vT ks vs).2) hl e1 sm ⟨d,_,rfl,hM,aI,g1,g2.move (P:=M i) (λa z=>.inl (.inr ⟨i,z⟩)) (λa z=>.inl z) sm⟩
      exact h2 σ _ M g4 g3 λc z=>.inl z
     ·simp only[if_neg hz]at h2
      exact h2.elim
 ·exact h.elim
theorem vQ{k:List Key}:∀{kvs:List (List Key×V)}{as:List ZE}{v:V},kvs.map (·.2)=as.map V.ref->gy kvs k=ZA v->∃b∈as,v=.ref b
 |[],as,v,_,h=>by cases h
 |p::kvs,as,v,e,h=>by
  cases as with
  |nil=>cases e
  |cons b0 bs=>
   rw[Nx,Nx]at e;injection e with e1 e2
   by_cases hk:p.1=k
   ·rw[fY hk]at h
    cases h;exact⟨b0,Nv,e1⟩
   ·rw[fZ hk]at h
    obtain⟨b,hb,e⟩:=vQ e2 h;exact⟨b,Nu _ hb,e⟩
theorem wB{k:List Key}{r:List T×List T}:∀{ks:List T}{rows:List (List T×List T)}{kvs:List (List Key×V)}{as:List ZE},ks.map keyOf=kvs.map (λp=>ZA p.1)->kvs.map (·.2)=as.map V.ref->RowsR K O H rows as->q0 ks rows k=ZA r →
  ∃b kv,gy kvs k=ZA (.ref b)/\b∈as/\H b=ZA (.dT kv)/\r.1.map keyOf=kv.map (λp=>ZA p.1)/\Reps K O H r.2 (kv.map (·.2))
 |[],rows,kvs,as,h1,h2,h3,h=>by unfold q0 at h;cases h
 |k'::ks,rows,kvs,as,h1,h2,h3,h=>by
  cases rows with
  |nil=>unfold q0 at h;cases h
  |cons r0 rows=>
   cases kvs with
   |nil=>cases h1
   |cons p kvs=>
    rw[Nx,Nx]at h1;injection h1 with h1 h1'
    obtain⟨b0,bs,kv0,rfl,e2,e3,e4,e5⟩:=h3;rw[Nx,Nx]at h2;injection h2 with h2 h2'
    unfold q0 at h
    by_cases hk:keyOf k'=ZA k
    ·rw[if_pos hk]at h
     cases h;rw[h1]at hk;injection hk with hk
     exact⟨b0,kv0,by rw[fY hk,h2],Nv,e2,e3,e4⟩
    ·rw[if_neg hk]at h
     have hk2:¬ p.1=k:=λz=>hk (by rw[h1,z])
     obtain⟨b,kv,g1,g2,g3⟩:=wB h1' h2' e5 h;exact⟨b,kv,by rw[fZ hk2];exact g1,Nu _ g2,g3⟩
theorem wo{H':Hp}{k:List Key}{xr:List T×List T}{b:ZE}{kv':List (List Key×V)}(hO:O b)(hS:SameO (λc=>c=b) H H')(hb:H' b=ZA (.dT kv'))(hx1:xr.1.map keyOf=kv'.map (λp=>ZA p.1))(hx2:Reps K O H' xr.2 (kv'.map (·.2))):
  ∀{ks:List T}{rows:List (List T×List T)}{kvs:List (List Key×V)}{as:List ZE},ks.map keyOf=kvs.map (λp=>ZA p.1)->kvs.map (·.2)=as.map V.ref->RowsR K O H rows as->as.Nodup->gy kvs k=ZA (.ref b)->RowsR K O H' (qZ k xr ks rows) as
 |[],rows,kvs,as,h1,h2,h3,hn,h=>by
  cases kvs with
  |nil=>cases h
  |cons _ _=>cases h1
 |k'::ks,rows,kvs,as,h1,h2,h3,hn,h=>by
  have inO:∀a,a=b->O a\/Nw K H a:=λa z=>.inl (z▸hO)
  cases kvs with
  |nil=>cases h1
  |cons p kvs=>
   rw[Nx,Nx]at h1;injection h1 with h1 h1'
   cases rows with
   |nil=>unfold RowsR at h3;subst h3;cases h2
   |cons r0 rows=>
    obtain⟨b0,bs,kv0,rfl,e2,e3,e4,e5⟩:=h3;rw[Nx,Nx]at h2;injection h2 with h2 h2'
    obtain⟨n1,n2⟩:=Oc.mp hn;unfold qZ
    by_cases hk:keyOf k'=ZA k
    ·rw[if_pos hk]
     rw[h1]at hk;injection hk with hk
     rw[fY hk,h2]at h;cases h;exact⟨b,bs,kv',rfl,hb,hx1,hx2,e5.move (P:=λc=>c=b) inO (λa z=>.inl z) hS λc hc z=>n1 (z▸hc)⟩
    ·rw[if_neg hk]
     have hk2:¬ p.1=k:=λz=>hk (by rw[h1,z])
     rw[fZ hk2]at h;obtain⟨b',hb',e'⟩:=vQ h2' h;cases e'
     have hne:b0≠b:=λz=>n1 (z▸hb')
     exact⟨b0,bs,kv0,rfl,hS _ _ e2 hne,e3,e4.move (P:=λc=>c=b) inO (λa z=>.inl z) hS,wo hO hS hb hx1 hx2 h1' h2' e5 n2 h⟩
def Fu(i:Nat)(hu:X.A.units+1<cLine)(ha:cQ X a fa)(hb:cQ X b fb)(hc:cQ X c fc)(hsl:autoParam (vE a) x_)(hN:autoParam (X.N[i]?=ZA x) u_)(hv:autoParam (vD X.env.scope x) v_)
  (hd:autoParam ((x == ("__debug__" : Str))=ZD) s_) (hcd:autoParam ((x == ("__classdict__" : Str))=ZD) s_)
  (hs:autoParam (OQ c (ZA (.Subscript (.Subscript (.Name x p2) a p3) b p4)) pos.line X.env=pure ZD) u_):qL X (.Assign [.Subscript (.Subscript (.Name x p2) a p3) b p4] c pos) (jC i fa fb fc):=by
 intro bv s σ H D I ⟨Z,B,M,E,h⟩;refine zK hu (ug hu (jU hN hv hd hcd) ha hsl) hb hc hs bv s σ H D I ?_
 unfold jC at h
 split at h
 ·rename_i ks rows hl
  obtain⟨v0,e1,d,kvs,as,rfl,hM,na,nas,e5,e6,e7,e8⟩:=E.env.own i _ hl;refine⟨Z,OO B M,E.o,?_⟩
  cases q:fc Z with
  |bad=>rw[q]at h;exact h.elim
  |err c=>rw[q]at h;exact PostF.xa h
  |ok vT=>
   rw[q,aF]at h;intro H1 s1 v r;refine⟨.ref d,e1,Z,OO B M,(E.same s1).o,?_⟩
   have h1:=h.later (SameO.of s1) (P1:=M.u) λa z=>.inl z
   cases q2:fa Z with
   |bad=>rw[q2]at h1;exact h1.elim
   |err c=>rw[q2]at h1;exact PostF.xa h1
   |ok aT=>
    rw[q2,aF]at h1;intro H2 s2 y ry
    have h2:=h1.later (SameO.of s2) (P1:=M.u) λa z=>.inl z
    have E2:=(E.same s1).same s2
    have s12:=s1.trans s2
    split at h2
    ·rename_i ka rr hk
     obtain⟨ka',q3,hk⟩:=Option.bind_eq_some_iff.mp hk;obtain⟨r',q4,hk⟩:=O5.mp hk;cases hk;obtain⟨rb,kv,g1,g2,g3,g4,g5⟩:=wB e6 e7 e8 q4;obtain⟨ndr,nzr⟩:=xT I g3;obtain⟨ab,f1,f2⟩:=gC q3 ry;refine⟨d,.ref rb,rfl,by rw[f1,<-g1];exact DGet.t (s12 _ _ e5) f2,Z,OO B M,E2.o,?_⟩
     cases q5:fb Z with
     |bad=>rw[q5]at h2;exact h2.elim
     |err c=>rw[q5]at h2;exact PostF.xa h2
     |ok bT=>
      rw[q5,aF]at h2;intro H3 s3 y2 ry2
      have h3:=h2.later (SameO.of s3) (P1:=M.u) λa z=>.inl z
      have s13:=s12.trans s3
      have E3:=E2.same s3
      have hlen:rr.1.length=kv.length:=by have:=congrArg O0 g4;simpa using this
      by_cases hz:(keyOf bT).isSome=ZC/\rr.1.length<1000
      ·rw[if_pos hz]at h3
       obtain⟨kb,q6⟩:=Qr.mp hz.1;obtain⟨bb,f3,f4⟩:=gC q6 ry2;obtain⟨u1,u2⟩:=mK q6 ((r.same s2).same s3) g4 (g5.same s13) ndr;refine⟨rb,upd H3 rb (.dT (cN kv kb v)),rfl,by rw[f3];exact DPut.t (s13 _ _ g3) f4 (by rw[O9];omega),?_⟩
       have mrb:M i rb:=(hM rb).mpr (.inr g2)
       have hOb:OO B M rb:=.inr ⟨i,mrb⟩
       have sm1:SameO (λc=>c=rb) H3 (upd H3 rb (.dT (cN kv kb v))):=λc u e nb=>by rw[aG nb];exact e
       have sm:SameO (M i) H3 (upd H3 rb (.dT (cN kv kb v))):=λc u e nb=>sm1 c u e λz=>nb (z▸mrb)
       have inO:∀a,a=rb->OO B M a\/Nw X.K H3 a:=λa z=>.inl (z▸hOb)
       have dne:d≠rb:=λz=>na (z▸g2)
       obtain⟨g6,g7⟩:=E3.put (o':=.dd ks (qZ ka (gD bT vT rr.1 rr.2) ks rows)) hl e1 sm ⟨d,kvs,as,rfl,hM,na,nas,sm1 _ _ (s13 _ _ e5) dne,e6,e7,wo hOb sm1 aI u1 (u2.move (P:=λc=>c=rb) inO (λa z=>.inl z) sm1) e6 e7 (e8.same s13) nas g1⟩
       exact h3 σ _ M g7 g6 λc z=>.inl z
      ·rw[if_neg hz]at h3
       exact h3.elim
    ·exact h2.elim
 ·exact h.elim
end
end Tr
namespace PySem
open Sem (wp)
namespace F
def lk_list_keys:Qw (.type "list") "keys" =pure ZB:=by rw[Q1,PJ];kernel_rfl
def lk_list_getattr:Qw (.type "list") "__getattr__" =pure ZB:=by rw[Q1,PJ];kernel_rfl
end F
variable{tk:Tok}
section
variable {h:ZH}{g:Array GenState}{d:Drawn}{t:Nat}{a:ZE}{its:Array NA}
def oo{Q:Fin->NB->Prop}(hx:h.get? a=ZA {cls:=.type "list",data:=.seq its n})(hh:A.handled=ZB)
  (hq:∀h' tk' e,Sr h h' e (.ref a) "keys"->E (.ref e) ⟨h',g,d,tk',os⟩):
  ZJ (ZK prog w) A (Builtin.«object.__getattribute__» ⟨[.ref a,.str "keys" tk],[]⟩) Q E ⟨h,g,d,t,os⟩:=by
 have hT:(⟨h,g,d,t,os⟩:NB).TypeIs (.ref a) "list":=⟨_,hx,rfl⟩
 have f4:=F.lk_list_keys
 repeat (any_goals (first|assumption|wp_step))
 exact UA hh (λh' tk e hx=>hq h' tk e hx) (attrMsg_fits (by decide+kernel) (by rw[O9];decide))
def qg(hx:h.get? a=ZA {cls:=.type "list",data:=.seq its n})(hh:A.handled=ZB)
  (hq:∀h' tk' e,Sr h h' e (.ref a) "keys"->R (.error (.ref e)) ⟨h',g,d,tk',os⟩):
  ZL (ZK prog w) A (.call (.builtin "list.__getattribute__") ⟨[.ref a,.str "keys" tk],[]⟩) R ⟨h,g,d,t,os⟩:=
 UB Qu.plain F.entry_list_ga (Qu.check _ _ _ _ _ _ _ _ (show(⟨h,g,d,t,os⟩:NB).TypeIs (.ref a) "list" from⟨_,hx,rfl⟩) (F.args_list_getattribute_2 _ _) (oo hx hh hq))
def qh{Q:Option NA->NB->Prop}(hx:h.get? a=ZA {cls:=.type "list",data:=.seq its n})(hh:A.handled=ZB)
  (hq:∀h' tk',(∀b o,h.get? b=ZA o->h'.get? b=ZA o)->Q ZB ⟨h',g,d,tk',os⟩):ZJ (ZK prog w) A (getAttr? (.ref a) "keys") Q E ⟨h,g,d,t,os⟩:=by
 have hT:∀tk,(⟨h,g,d,tk,os⟩:NB).TypeIs (.ref a) "list":=λ_=>⟨_,hx,rfl⟩
 have f1:=Vf
 have f2:=Qu.lookup
 have f3:=Qu.bind (.ref a)
 have f5:=F.lk_list_getattr;unfold getAttr? getAttrBy? getAttrBy
 repeat (any_goals (first|assumption|exact hT _|wp_step))
 refine qg hx hh λh' tk' e hx'=>?_
 obtain⟨t',u',he⟩:=hx'.there
 repeat (any_goals (first|assumption|exact hT _|wp_step))
 exact hq _ _ hx'.keeps
end
end PySem
namespace PySem.F
def entry_dict_update_loop:entryFor table "dict.update.loop" =ZA Builtin.«dict.update.loop»:=entryFor_of_tree (by kernel_rfl)
def plain_dict_update_loop:plainId "dict.update.loop" =ZC:=by decide+kernel
end PySem.F
variable{b:Int}
namespace Tr
open PySem PySem.Spec PyProof.Rows L2
def eE(kvs:List (List Key×V)):List (List Key×V)->List (List Key×V)
 |[] =>kvs
 |p::ps=>eE (cN kvs p.1 p.2) ps
def PairsAt(H:Hp):List V->List (List Key×V)->Prop
 |[],ps=>ps=[]
 |x::xs,ps=>∃b kb p r,ps=p::r/\x=.ref b/\H b=ZA (.tup [.ref kb,p.2])/\H kb=ZA (.tup (p.1.map kV))/\PairsAt H xs r
variable{H:Hp}{d:ZE}{kvs:List (List Key×V)}
theorem PairsAt.upd{o:HO}(hd:H d=ZA (.dT kvs)):∀{xs:List V}{ps:List (List Key×V)},PairsAt H xs ps->PairsAt (L2.upd H d o) xs ps
 |[],_,h=>h
 |x::xs,_,⟨b,kb,p,r,e1,e2,e3,e4,e5⟩=>⟨b,kb,p,r,e1,e2,by rw[aG (j5 e3 hd (λz=>nomatch z))];exact e3,by rw[aG (j5 e4 hd (λz=>nomatch z))];exact e4,e5.upd hd⟩
def i6{a b:HO}:upd (upd H d a) d b=upd H d b:=by
 funext c
 by_cases h:c=d
 ·rw[h,aI,aI]
 ·rw[aG h,aG h,aG h]
variable{X:Cx}{l:ZE}{bv:W2}{xs:List V}{σ:L2.St}
section
variable {R:Wv->NB->Prop}{it:ZE}
def Bu(hh:A.handled=ZB)(hu:A.units+3<cLine):∀(k i:Nat)(s:NB)(H:Hp)(kvs ps:List (List Key×V)),xs.length - i=k->i<=xs.length->H l=ZA (.lst xs)->H d=ZA (.dT kvs)->kvs.length+(xs.length - i)<=1000->Inv X bv σ H s->s.heap.IsListIter it l i->mQ X bv H it->PairsAt H (xs.drop i) ps →
  (∀s',Inv X bv σ (upd H d (.dT (eE kvs ps))) s'->R (.ok (.ret res)) s')->ZL (ZK X.prog X.w) A (.builtin "dict.update.loop" ⟨[.ref d,.ref it,rawInt i,res],[]⟩) R s:=by
 intro k
 induction k with
 |zero=>
  intro i s H kvs ps hk hi hl hd hz I hit hf hp hR;refine P4 F.entry_dict_update_loop ?_
  rw[Pd F.plain_dict_update_loop _];obtain⟨z,its,n,r,hlen,e⟩:=I.Mq hl
  have hL:s.heap.IsList l its.toArray:=⟨_,e,rfl,n,rfl⟩
  show ZJ _ A.in1 (pyNext (.ref it) >>= _) _ _ s
  refine Nq (Ub hh hit hL (by simp;omega) λh' hm=>?_)
  show ZJ _ _ (SY d [] >>= _) _ _ _
  refine Nq (Nz (Nz ?_))
  have hnil:xs.drop i=[]:=QQ (by omega)
  rw[hnil]at hp;unfold PairsAt at hp;subst hp
  have e2:upd H d (.dT (eE kvs []))=H:=by
   funext b
   by_cases hb:b=d
   ·rw[hb,aI,hd];rfl
   ·rw[aG hb]
  rw[e2]at hR
  exact hR _ (I.KB (fp:=[it]) (t':=s.toks) (λb hb=>by rw[NR.mp hb];exact hf) λb o hb eb=>hm b o (λz=>hb (by rw[z];exact NR.mpr rfl)) eb)
 |succ k ih=>
  intro i s H kvs ps hk hi hl hd hz I hit hf hp hR;refine P4 F.entry_dict_update_loop ?_
  rw[Pd F.plain_dict_update_loop _];obtain⟨z,its,n,r,hlen,e⟩:=I.Mq hl
  have hL:s.heap.IsList l its.toArray:=⟨_,e,rfl,n,rfl⟩
  have hlt:i<xs.length:=by omega
  have hlt':i<its.length:=by omega
  show ZJ _ A.in1 (pyNext (.ref it) >>= _) _ _ s
  refine Nq (TK hit hL (x:=its[i]) (by simp[hlt']) λh' hit' hm=>?_)
  have I1:Inv X bv σ H {s with heap:=h'}:=I.KB (fp:=[it]) (t':=s.toks) (λb hb=>by rw[NR.mp hb];exact hf) λb o hb eb=>(hm.2 b (λz=>hb (by rw[z];exact NR.mpr rfl))).trans eb
  have hdrop:xs.drop i=xs[i] ::xs.drop (i+1):=Px hlt;rw[hdrop]at hp;obtain⟨b,kb,p,r',rfl,ex,hb,hkb,hp'⟩:=hp
  have rx:RelV xs[i] its[i]:=by
   obtain⟨u,q1,q2⟩:=r.get (NF hlt)
   rw[NF hlt']at q1
   cases q1;exact q2
  rw[ex]at rx
  have eu:its[i]=NQ b:=rx;rw[eu];obtain⟨z2,its2,r2,ob,hob1,hob2,nb,hob3⟩:=(show ObjOk X.prog X.w H h' b (.tup [.ref kb,p.2])from I1.hok b _ hb)
  obtain⟨u1,us1,q1,rfl⟩:∃u1 us1,RelV (V.ref kb) u1/\its2=u1::us1:=by cases r2 with|cons a b=>exact⟨_,_,a,rfl⟩
  cases r2 with
  |cons ra rb=>
   obtain⟨u2,q2,rfl⟩:∃u2,RelV p.2 u2/\us1=[u2]:=by cases rb with|cons a b=>cases b;exact⟨_,a,rfl⟩
   obtain rfl:u1=NQ kb:=q1
   show ZJ _ A.in1 (holding [NQ b] _ >>= _) _ _ _
   refine Nq (OJ ?_)
   refine Nq (wpAny_tryCatch ?_)
   unfold TH;refine Nq (Qg (s:={s with heap:=h'}) (T:="tuple") ⟨ob,hob1,hob2⟩ ?_)
   rw[if_pos (by decide)]
   refine Nq (Oz (s:={s with heap:=h'}) hob1 hob3 (Nz ?_))
   show ZJ _ _ (holding [NQ kb,u2] (dictSet d (.ref kb) u2)) _ _ _
   refine OJ ?_
   obtain⟨zz,hds,xs2,rel,dd⟩:=Av I1.hok hd
   have hzl:xs2.length<=ZI:=by rw[<-Rw rel];exact zz
   have hkl:kvs.length<ZI:=by rw[O9];omega
   have hl2:(cN kvs p.1 p.2).length<=ZI:=by have:=d6 kvs p.1 p.2;omega
   refine Vg (hsz:=hzl) (Qi (by show A.units+1<cLine;omega)) (key_of I1.hok hkb) dd λh2 dd2 hs2=>?_
   obtain⟨q,es,ep,hq,h22,h3,h4,_,h5⟩:=dd2
   have I2:Inv X bv σ (upd H d (.dT (cN kvs p.1 p.2))) {s with heap:=h2,toks:=s.toks+(R5 (cp X.prog X.w)).draws p.1}:=
    kP (s:={s with heap:=h'}) I1 (by rw[hd];exact PZ) hs2 ⟨q,hq⟩ ⟨hl2,hds,_,(rel.put p.1 hkb q2).keeps λc ys ec=>by rw[aG (j5 ec hd (λz=>nomatch z))];exact ec,q,es,ep,hq,h22,h3,h4,h5⟩
   have hld:l≠d:=j5 hl hd (λz=>nomatch z)
   have hitd:it≠d:=λz=>by have:=hf.1;rw[z,hd]at this;cases this
   have hcast:(i:Int)+1=((i+1:Nat):Int):=by omega
   refine Nz ⟨QK F.plain_dict_update_loop _,?_⟩
   rw[hcast];refine ih (i+1) _ (upd H d (.dT (cN kvs p.1 p.2))) (cN kvs p.1 p.2) r' (by omega) (by omega) (by rw[aG hld];exact hl) aI (by have:=d6 kvs p.1 p.2;omega) I2 ?_ ⟨by rw[aG hitd];exact hf.1,hf.2⟩ (hp'.upd hd) λs' I'=>?_
   ·obtain⟨oi,ho1,ho2,ho3⟩:=hit'
    exact⟨oi,(hs2.2 it hitd).trans ho1,ho2,ho3⟩
   ·rw[i6]at I'
    exact hR s' I'
end
theorem PairsAt.same{H':Hp}(s:Same H H'):∀{xs:List V}{ps:List (List Key×V)},PairsAt H xs ps->PairsAt H' xs ps
 |[],_,h=>h
 |x::xs,_,⟨b,kb,p,r,e1,e2,e3,e4,e5⟩=>⟨b,kb,p,r,e1,e2,s _ _ e3,s _ _ e4,e5.same s⟩
section
variable {ps:List (List Key×V)}
def xS(hh:A.handled=ZB)(hu:A.units+8<cLine)(I:Inv X bv σ H s)(hl:H l=ZA (.lst xs))(hz:xs.length<=1000)(hp:PairsAt H xs ps)
  (h:∀p s',Nw X.K H p->Inv X bv σ (upd H p (.dT (eE [] ps))) s'->Q (.ref p) s'):ZJ (ZK X.prog X.w) A (call (.type "dict") [.ref l]) Q E s:=by
 have hk:X.K.lookup s.heap.objs.size=ZB:=by
  cases q:X.K.lookup s.heap.objs.size with
  |none=>rfl
  |some o=>exact absurd (NJ (I.kIn _ o q)) (N4 _)
 have hn:H s.heap.objs.size=ZB:=I.hok.fresh (NL _)
 have hlp:l≠s.heap.objs.size:=λz=>by rw[z,hn]at hl;cases hl
 refine callType_codes (Q₁:=λobj s₁=>obj=.ref s.heap.objs.size/\s₁= {s with heap:=s.heap.push {cls:=.type "dict",data:=.dict #[]}}) V0 (Uv _) Vq (Wa _ ⟨rfl,rfl⟩) ?_
 rintro obj s₁ ⟨rfl,rfl⟩
 have I1:Inv X bv σ (upd H s.heap.objs.size (.dT [])) {s with heap:=s.heap.push {cls:=.type "dict",data:=.dict #[]}}:=I.laid (a:=s.heap.objs.size) (o:=.dT []) (t':=s.toks) (λ_ _ q=>Nr _ q) (NL _) (qB s.heap I.big)
 have hT:({s with heap:=s.heap.push {cls:=.type "dict",data:=.dict #[]}}:NB).TypeIs (.ref s.heap.objs.size) "dict":=⟨_,NI _ rfl,rfl⟩
 have hl1:upd H s.heap.objs.size (.dT []) l=ZA (.lst xs):=by rw[aG hlp];exact hl
 obtain⟨z,its,n,r,hlen,e⟩:=I1.Mq hl1;refine⟨hT,UZ _ _,?_⟩
 unfold Builtin.«dict.__init__»;refine Nq ?_
 unfold SZ;refine Nq (R6 hT ?_)
 show ZJ _ _ (pure (s.heap.objs.size,[NQ l])) _ _ _
 refine Nz ?_
 show ZJ _ _ (QB "dict.__init__" s.heap.objs.size (.ref l) [] .none) _ _ _
 unfold QB;refine Nq (Qg (T:="list") ⟨_,e,rfl⟩ ?_)
 rw[if_pos (by decide)]
 refine Nq (qh e hh λh' tk' kp=>?_)
 have I2:Inv X bv σ (upd H s.heap.objs.size (.dT [])) {s with heap:=h',toks:=tk'}:=I1.kept (t':=tk') kp
 rw[if_pos (by rfl)]
 refine Nq (Qa ?_)
 have eL:({s with heap:=h',toks:=tk'}:NB).heap.IsList l its.toArray:=⟨_,kp _ _ e,rfl,n,rfl⟩
 refine Nq (Q7 eL ?_)
 have I3:Inv X bv σ (upd H s.heap.objs.size (.dT [])) {s with heap:=h'.push {cls:=.type "list_iterator",data:=.fields #[.ref l,.int 0 0]},toks:=tk'}:=I2.kept (t':=tk') λb u q=>Nr _ q
 have hpl:s.heap.objs.size<h'.objs.size:=NJ (kp _ _ (NI _ rfl))
 have hni:upd H s.heap.objs.size (.dT []) h'.objs.size=ZB:=by
  rw[aG (Qz hpl)];exact I.hok.fresh (Pe hpl)
 have hp1:PairsAt (upd H s.heap.objs.size (.dT [])) xs ps:=hp.same (aW hn _);refine Nz ⟨QK F.plain_dict_update_loop _,?_⟩
 refine Bu (A:=A.in1) (X:=X) (bv:=bv) (σ:=σ) (l:=l) (xs:=xs) (it:=h'.objs.size) hh (by show A.units+1+3<cLine;omega) xs.length 0 _ (upd H s.heap.objs.size (.dT [])) [] ps (by omega) (O4 _) hl1 aI (by simp;omega) I3 ⟨_,NI _ rfl,rfl,rfl⟩ (I2.Mw (NL _) hni) hp1 λs' I'=>?_
 rw[i6]at I';exact⟨rfl,h _ _ ⟨hn,hk⟩ I'⟩
end
def Mc{k:Nat}(h:Room k A):A.units+8<cLine:=by have:=h.un;omega
def yI{k:List Key}{v:V}(h:(kvs.map (·.1)).Nodup):((cN kvs k v).map (·.1)).Nodup:=by
 unfold cN
 by_cases a:(kvs.any λkv=>decide (kv.1=k))=ZC
 ·rw[if_pos a,Oo]
  have:((λx=>x.1)∘λkv:List Key×V=>if kv.1=k then(kv.1,v)else kv)=λx=>x.1:=by
   funext x
   show(if x.1=k then(x.1,v)else x).1=x.1
   by_cases e:x.1=k
   ·rw[if_pos e]
   ·rw[if_neg e]
  rw[this];exact h
 ·rw[if_neg a,Oe,OP]
  refine⟨h,by simp,λx hx y hy=>?_⟩
  simp only[Nx,QV,NR]at hy;subst hy;intro z;subst z;obtain⟨p,hp,e⟩:=NS.mp hx;exact a (Rk.mpr ⟨p,hp,decide_eq_true e⟩)
def LS(K:Nt)(O:Ow)(H:Hp):List (T×T)->List (List Key×V)->Prop
 |[],ps=>ps=[]
 |a::l,ps=>∃p r,ps=p::r/\keyOf a.1=ZA p.1/\Rep K O H a.2 p.2/\LS K O H l r
variable{O:Ow}
theorem nA:∀{l:List (T×T)}{ps:List (List Key×V)}{ks ts:List T}{kvs:List (List Key×V)},LS K O H l ps->ks.map keyOf=kvs.map (λp=>ZA p.1)->Reps K O H ts (kvs.map (·.2))->(kvs.map (·.1)).Nodup →
  (gW l (ks,ts)).1.map keyOf=(eE kvs ps).map (λp=>ZA p.1)/\Reps K O H (gW l (ks,ts)).2 ((eE kvs ps).map (·.2))
 |[],ps,ks,ts,kvs,h,h1,h2,hn=>by unfold LS at h;subst h;exact⟨h1,h2⟩
 | (a,b)::l,ps,ks,ts,kvs,h,h1,h2,hn=>by
  obtain⟨p,r,rfl,e1,e2,e3⟩:=h;obtain⟨g1,g2⟩:=mK (vT:=b) e1 e2 h1 h2 hn
  show(gW l (gD a b ks ts)).1.map keyOf=(eE (cN kvs p.1 p.2) r).map (λp=>ZA p.1)/\Reps K O H (gW l (gD a b ks ts)).2 ((eE (cN kvs p.1 p.2) r).map (·.2))
  exact nA (l:=l) e3 g1 g2 (yI hn)
theorem zL:∀{l:List T}{tps:List (T×T)}{xs:List V},Kb l=ZA tps->Reps K O H l xs->∃ps,PairsAt H xs ps/\LS K O H tps ps
 |[],tps,xs,h,r=>by cases Reps.AC.mp r;cases h;exact⟨[],rfl,rfl⟩
 |t::l,tps,xs,h,r=>by
  obtain⟨v,ws,rfl,p,q⟩:=Reps.me.mp r;unfold Kb at h
  split at h
  ·rename_i heq;cases heq
  ·rename_i k v' l' heq
   cases heq
   split at h
   ·rename_i kk rr hk hr
    cases h;obtain⟨ps,g1,g2⟩:=zL hr q;obtain⟨b,vs,e1,e2,e3,e4⟩:=Rep.Fk.mp p;obtain⟨u1,us1,rfl,f1,f2⟩:=Reps.me.mp e4;obtain⟨u2,us2,rfl,f3,f4⟩:=Reps.me.mp f2;cases Reps.AC.mp f4;obtain⟨kb,f5,f6⟩:=gC hk f1;subst f5;exact⟨(kk,u2)::ps,⟨b,kb,(kk,u2),ps,rfl,e1,e3,f6,g1⟩,⟨(kk,u2),ps,rfl,hk,f3,g2⟩⟩
   ·cases h
  ·cases h
section
variable {e:ZG}{f:W5}{x y:Str}{p pos p2 p3:Pos}
def HQ(X:Cx)(f:W5):TE:=λσ H Q=>tP X f σ H λv H'=>∃a xs ps,v=.ref a/\H' a=ZA (.lst xs)/\xs.length<=1000/\PairsAt H' xs ps/\∀q,Nw X.K H' q->Q (.ref q) (upd H' q (.dT (eE [] ps)))
def CQ(hu:X.A.units+8<cLine)(hc:X.calm=ZC)(hm:X.mg "dict" =ZB)(ha:cQ X e f)(hg:Gl X "dict")(hs:bQ e=ZC):PE X (.Call (.Name "dict" p) [e] [] pos) (HQ X f):=by
 have h1:NZ [e] X.env=(ZD,eval e X.env)::NZ [] X.env:=bo hs;intro bv s σ H Q I hq;refine OS (fR I hg hm (show Oq "dict" =ZA (.type "dict")by decide+kernel) ?_ (by decide) (by decide))
 refine On (cF (fx (te:=tP X f) ha jV h1 pos bv s σ H (λxs H'=>∃v,xs=[v]/\∃a xs ps,v=.ref a/\H' a=ZA (.lst xs)/\xs.length<=1000/\PairsAt H' xs ps/\∀q,Nw X.K H' q->Q (.ref q) (upd H' q (.dT (eE [] ps)))) I ?_) λus s1 hh=>?_) h1 rfl
 ·obtain⟨Z,O,E,h⟩:=hq
  exact⟨Z,O,E,Post.mono h λt H' _ g v r=>⟨v,rfl,g v r⟩⟩
 ·obtain⟨vs,H1,I1,r1,v,rfl,a,xs,ps,ev,e1,e2,e3,e4⟩:=hh
  subst ev;obtain⟨u,rfl,ru⟩:=r1.one;obtain rfl:u=NQ a:=ru;exact xS (I1.ok.hd hc) hu I1 e1 e2 e3 λq s' nw I'=>⟨.ref q,_,I',rfl,e4 q nw⟩
def Fw(i:Nat)(hu:X.A.units+8<cLine)(hc:X.calm=ZC)(hm:X.mg "dict" =ZB)(hN:X.N.Nodup)(ha:cQ X e f)(hst:autoParam (bQ e=ZC) u_)(hg:autoParam (Gl X "dict") u_)(hi:autoParam (X.N[i]?=ZA x) u_)(hx:autoParam (Loc X.env.scope x) y_)(hs:autoParam (OQ (.Call (.Name "dict" p) [e] [] p2) (ZA (.Name x p3)) pos.line X.env=pure ZD) u_)
  (hf:autoParam (X.fn x=ZC\/X.env.scope.names.lookup x=ZA .local) r_):qL X (.Assign [.Name x p3] (.Call (.Name "dict" p) [e] [] p2) pos) (rY i f):=PS.imp (pz hN hi hx (CQ hu hc hm ha hg hst) hs hf) λD σ H hh_=>by
 obtain⟨Z,B,M,E,h⟩:=hh_;refine⟨Z,OO B M,E.o,?_⟩
 unfold rY at h
 cases q:f Z with
 |bad=>rw[q]at h;exact h.elim
 |err c=>rw[q]at h;exact PostF.xa h
 |ok t=>
  rw[q,aF]at h;intro H1 s1 v r
  have h1:=h.later (SameO.of s1) (P1:=M.u) λa z=>.inl z
  cases t with
  |lst l=>
   obtain⟨a,xs,rfl,e2,e3,e4⟩:=Rep.Do.mp r;unfold Ax at h1
   split at h1
   ·rename_i l' heq
    cases heq
    split at h1
    ·rename_i tps hps
     by_cases hz:l.length<=1000
     ·rw[if_pos hz,aF]at h1
      obtain⟨ps,g1,g2⟩:=zL hps e4;refine⟨a,xs,ps,rfl,e3,by rw[<-e4.length];exact hz,g1,λnd nw=>?_⟩
      by_cases hl:i<Z.length
      ·simp only[if_pos hl]at h1
       have hm:∀a,a=nd->Nw X.K H1 a:=λa z=>z▸nw
       obtain⟨k1,k2⟩:=nA (ks:=[]) (ts:=[]) (kvs:=[]) g2 rfl Reps.nil_ PX;obtain⟨E2,sub⟩:=(E.same s1).new (m:=λa=>a=nd) (o:=.dct (gW tps ([],[])).1 (gW tps ([],[])).2) (v:=.ref nd) (H':=upd H1 nd (.dT (eE [] ps))) hl hm (aW nw.1 _) ⟨nd,_,rfl,λb=>RT,aI,k1,(k2.more (Ev.subO hm)).same (aW nw.1 _)⟩
       exact h1 _ _ _ (SameO.of (aW nw.1 _)) E2 sub
      ·simp only[if_neg hl]at h1;exact h1.elim
     ·rw[if_neg hz]at h1;exact h1.elim
    ·exact h1.elim
   ·rename_i hno
    exact(hno l rfl).elim
  |_=>exact h1.elim
end
theorem fO:∀{l:List T}{ns:List Int}{xs:List V}{us:List NA},eh l=ZA ns->Reps K O H l xs->Vals xs us->PH us ns
 |[],ns,xs,us,h,r,v=>by cases Reps.AC.mp r;cases v;cases h;exact .nil
 |t::l,ns,xs,us,h,r,v=>by
  obtain⟨w,ws,rfl,p,q⟩:=Reps.me.mp r
  cases v with
  |cons v1 v2=>
   cases t with
   |int i=>
    unfold eh at h;obtain⟨m,h1,rfl⟩:=O5.mp h;cases Rep.Da.mp p;obtain⟨k,rfl⟩:=v1
    exact .cons _ _ (fO h1 q v2)
   |_=>cases h
theorem si:∀(l:List Int)(i:Int),gA i l∈i::l/\∀a∈i::l,gA i l<=a
 |[],i=>⟨Nv,λa h=>by cases NR.mp h;exact Po _⟩
 |j::l,i=>by
  obtain⟨h1,h2⟩:=si l (if j<i then j else i)
  unfold gA
  have h3:=h2 _ Nv;refine⟨?_,λa ha=>?_⟩
  ·rcases NG.mp h1 with e|e
   ·rw[e]
    by_cases h:j<i
    ·rw[if_pos h];simp
    ·rw[if_neg h];simp
   ·exact Nu _ (Nu _ e)
  ·rcases NG.mp ha with rfl|ha
   ·by_cases h:j<a
    ·rw[if_pos h]at h3 ⊢;omega
    ·rw[if_neg h]at h3 ⊢;omega
   ·rcases NG.mp ha with rfl|ha
    ·by_cases h:a<i
     ·rw[if_pos h]at h3 ⊢;omega
     ·rw[if_neg h]at h3 ⊢;omega
    ·exact h2 a (Nu _ ha)
theorem sj:∀(l:List Int)(i:Int),ix i l∈i::l/\∀a∈i::l,a<=ix i l
 |[],i=>⟨Nv,λa h=>by cases NR.mp h;exact Po _⟩
 |j::l,i=>by
  obtain⟨h1,h2⟩:=sj l (if i<j then j else i)
  unfold ix
  have h3:=h2 _ Nv;refine⟨?_,λa ha=>?_⟩
  ·rcases NG.mp h1 with e|e
   ·rw[e]
    by_cases h:i<j
    ·rw[if_pos h];simp
    ·rw[if_neg h];simp
   ·exact Nu _ (Nu _ e)
  ·rcases NG.mp ha with rfl|ha
   ·by_cases h:a<j
    ·rw[if_pos h]at h3 ⊢;omega
    ·rw[if_neg h]at h3 ⊢;omega
   ·rcases NG.mp ha with rfl|ha
    ·by_cases h:i<a
     ·rw[if_pos h]at h3 ⊢;omega
     ·rw[if_neg h]at h3 ⊢;omega
    ·exact h2 a (Nu _ ha)
def Ek(hc:X.calm=ZC):CallT X (.builtin "min") uR:=by
 intro bv s σ H O ts vs us Q I hf rs rv hp;unfold uR at hp
 split at hp
 ·rename_i l
  obtain⟨v,rfl,r⟩:=rs.one
  split at hp
  ·rename_i i ns hk
   obtain⟨a,ws,rfl,n,q,z⟩:=Rep.Do.mp r;obtain⟨u,rfl,ru⟩:=kY rv;cases ru;obtain⟨its,r',pl,hz⟩:=I.list (SqL.of q)
   have hi:=fO hk z r';obtain⟨xs,e⟩:=hi.allInts.items
   have hns:i::ns=xs.toList.map (·.1):=by rw[<-hi.numsOf,<-nums_intItems,<-e]
   have hl:s.heap.IsList a (intItems xs):=by rw[<-e];exact pl.isList
   have hsz:0<xs.size:=by
    have h3:=congrArg O0 hns;rw[ND,Ny]at h3;rw[<-Ob];omega
   refine min_intList (I.ok.hd hc) hl hsz λv h' tk hv hk'=>?_
   obtain⟨t,rfl⟩:=intItems_at hv;obtain⟨h1,h2⟩:=argBest_lt (numAt xs) (xs.size - 1);refine⟨.int _,H,I.kept (t':=tk) hk',⟨_,rfl⟩,?_⟩
   have eM:numAt xs (argBest (λi j=>decide (numAt xs i<numAt xs j)) (xs.size - 1))=gA i ns:=by
    obtain⟨g1,g2⟩:=si ns i
    have m1:numAt xs (argBest (λi j=>decide (numAt xs i<numAt xs j)) (xs.size - 1))∈i::ns:=by
     rw[hns,numAt_eq];exact PySem.getD_mem (by rw[Ny,Ob];omega)
    have k1:=g2 _ m1;rw[hns]at g1;obtain⟨j,hj,ej⟩:=mem_getD g1;rw[Ny,Ob]at hj;rw[<-numAt_eq]at ej
    have k2:=h2 j (by omega)
    rw[ej]at k2;exact Wm k2 k1
   rw[eM];exact hp H (Same.refl H) _ (Rep.GE _)
  ·exact hp.elim
 ·rename_i i j
  obtain⟨v,ws,rfl,p,q⟩:=Reps.me.mp rs;obtain⟨v2,rfl,p2⟩:=q.one;cases Rep.Da.mp p;cases Rep.Da.mp p2;refine Bz hc bv s σ H _ us Q I rv ⟨i,j,rfl,?_⟩
  exact hp H (Same.refl H) _ (Rep.GE _)
 ·exact hp.elim
def J1(hc:X.calm=ZC):CallT X (.builtin "max") Bc:=by
 intro bv s σ H O ts vs us Q I hf rs rv hp;unfold Bc at hp
 split at hp
 ·rename_i l
  obtain⟨v,rfl,r⟩:=rs.one
  split at hp
  ·rename_i i ns hk
   obtain⟨a,ws,rfl,n,q,z⟩:=Rep.Do.mp r;obtain⟨u,rfl,ru⟩:=kY rv;cases ru;obtain⟨its,r',pl,hz⟩:=I.list (SqL.of q)
   have hi:=fO hk z r';obtain⟨xs,e⟩:=hi.allInts.items
   have hns:i::ns=xs.toList.map (·.1):=by rw[<-hi.numsOf,<-nums_intItems,<-e]
   have hl:s.heap.IsList a (intItems xs):=by rw[<-e];exact pl.isList
   have hsz:0<xs.size:=by
    have h3:=congrArg O0 hns;rw[ND,Ny]at h3;rw[<-Ob];omega
   refine max_intList (I.ok.hd hc) hl hsz λv h' tk hv hk'=>?_
   obtain⟨t,rfl⟩:=intItems_at hv;obtain⟨h1,h2⟩:=argBest_gt (numAt xs) (xs.size - 1);refine⟨.int _,H,I.kept (t':=tk) hk',⟨_,rfl⟩,?_⟩
   have eM:numAt xs (argBest (λi j=>decide (numAt xs i > numAt xs j)) (xs.size - 1))=ix i ns:=by
    obtain⟨g1,g2⟩:=sj ns i
    have m1:numAt xs (argBest (λi j=>decide (numAt xs i > numAt xs j)) (xs.size - 1))∈i::ns:=by
     rw[hns,numAt_eq];exact PySem.getD_mem (by rw[Ny,Ob];omega)
    have k1:=g2 _ m1;rw[hns]at g1;obtain⟨j,hj,ej⟩:=mem_getD g1;rw[Ny,Ob]at hj;rw[<-numAt_eq]at ej
    have k2:=h2 j (by omega)
    rw[ej]at k2;exact Wm k1 k2
   rw[eM];exact hp H (Same.refl H) _ (Rep.GE _)
  ·exact hp.elim
 ·rename_i i j
  obtain⟨v,ws,rfl,p,q⟩:=Reps.me.mp rs;obtain⟨v2,rfl,p2⟩:=q.one;cases Rep.Da.mp p;cases Rep.Da.mp p2;refine BA hc bv s σ H _ us Q I rv ⟨i,j,rfl,?_⟩
  exact hp H (Same.refl H) _ (Rep.GE _)
 ·exact hp.elim
def rowsT:List T->Option (List (List Int))
 |[] =>ZA []
 |.tup l::r=>match eh l,rowsT r with
  |some ns,ZA k=>if ns=[]then ZB else ZA (ns::k)
  |_,_=>ZB
 |_=>ZB
def jf(a b:List Int):Bool:=!cz b a
def rW:List T->Rs T
 |[.lst l] =>match rowsT l with
  |some k=>if k.length<64 then .ok (.lst ((k.mergeSort jf).map λns=>.tup (ns.map .int)))else .bad
  |none=>.bad
 |_=>.bad
theorem iU:∀l,cz l l=ZD
 |[] =>rfl
 |a::l=>by unfold cz;rw[if_pos rfl];exact iU l
theorem kJ:∀a b c,cz a b=ZC->cz b c=ZC->cz a c=ZC
 |[],[],_,h,_=>absurd h (by simp[cz])
 |_::_,[],_,h,_=>absurd h (by simp[cz])
 |[],_::_,[],_,h=>absurd h (by simp[cz])
 |[],_::_,_::_,_,_=>rfl
 |_::_,_::_,[],_,h=>absurd h (by simp[cz])
 |x::a,y::b,z::c,h,g=>by
  unfold cz at h g ⊢
  by_cases e:x=y
  ·subst e
   rw[if_pos rfl]at h
   by_cases e2:x=z
   ·rw[if_pos e2]at g ⊢;exact kJ a b c h g
   ·rw[if_neg e2]at g ⊢;exact g
  ·rw[if_neg e]at h
   by_cases e2:y=z
   ·subst e2;rw[if_neg e];exact h
   ·rw[if_neg e2]at g
    have h1:=of_decide_eq_true h
    have h2:=of_decide_eq_true g;rw[if_neg (by omega)]
    exact decide_eq_true (by omega)
theorem j7:∀a b,cz a b=ZD->cz b a=ZD->a=b
 |[],[],_,_=>rfl
 |[],_::_,h,_=>absurd h (by simp[cz])
 |_::_,[],_,h=>absurd h (by simp[cz])
 |x::a,y::b,h,g=>by
  unfold cz at h g
  by_cases e:x=y
  ·subst e
   rw[if_pos rfl]at h g;rw[j7 a b h g]
  ·rw[if_neg e]at h
   rw[if_neg (λz=>e z.symm)]at g
   have h1:=of_decide_eq_false h
   have h2:=of_decide_eq_false g;omega
def qc(a b c:List Int)(h:cz a c=ZC):cz a b=ZC\/cz b c=ZC:=by
 cases h1:cz a b with
 |true=>exact .inl rfl
 |false=>
  cases h2:cz b a with
  |true=>exact .inr (kJ _ _ _ h2 h)
  |false=>rw[<-j7 _ _ h1 h2];exact .inr h
def Dm(a b c:List Int)(h:jf a b=ZC)(g:jf b c=ZC):jf a c=ZC:=by
 unfold jf at*
 cases z:cz c a with
 |false=>rfl
 |true=>
  rcases qc c b a z with y|y
  ·rw[y]at g;cases g
  ·rw[y]at h;cases h
def Ac(a b:List Int):(jf a b||jf b a)=ZC:=by
 unfold jf
 cases z:cz b a with
 |false=>rfl
 |true=>
  cases y:cz a b with
  |false=>rfl
  |true=>have:=kJ _ _ _ z y;rw[iU]at this;cases this
def Dn(a b:List Int)(h:jf a b=ZC)(g:jf b a=ZC):a=b:=by
 unfold jf at h g;refine j7 a b ?_ ?_
 ·cases z:cz a b with
  |false=>rfl
  |true=>rw[z]at g;cases g
 ·cases z:cz b a with
  |false=>rfl
  |true=>rw[z]at h;cases h
def mh{k m:List (List Int)}(p:m.Perm k)(s:m.Pairwise (λa b=>jf a b=ZC)):m=k.mergeSort jf:=
 List.Perm.eq_of_pairwise (le:=λa b=>jf a b=ZC) (λa b _ _ h g=>Dn a b h g) s (Te Dm Ac k) (p.trans (UI k jf).symm)
structure SrtB (k0:Tq)(o:Array VA)(st:Sv):Prop where
 p:(arrOf st).Perm o
 k:kindOf st=k0
 f:SJ st=ZB
 e:Rg st= #[]
def SrtB.len{o:Array VA}(b:SrtB k0 o st):(arrOf st).size=o.size:=b.p.size_eq
variable{xs:Array VA}
def SrtB.arr{o:Array VA}(b:SrtB k0 o st)(h:xs.Perm (arrOf st)):SrtB k0 o (setArr st xs):=⟨h.trans b.p,b.k,b.f,b.e⟩
def vF(κ:KeyKind)(k0:Tq)(prog:N1)(w:OF)(A:Os)(s:NB):Prop:=
 ∀(E:W1)(x y:NA)(a b:κ.α)(Q:Bool->NB->Prop),κ.keyOf x=ZA a->κ.keyOf y=ZA b->Q (κ.blt a b) s->ZJ (ZK prog w) A (keyLt' k0 x y) Q E s
abbrev gk(κ:KeyKind)(st:Sv)(i:Nat):κ.α:=KK κ (arrOf st) i
variable{κ:KeyKind}
def EX(h:Pj κ xs n)(hl:κ.kle (KK κ xs (n - 1)) (KK κ xs n)):Pj κ xs (n+1):=λi j le lt=>by
 rcases Rt j n with z|z
 ·exact h i j le z
 ·obtain rfl:j=n:=by omega
  rcases Rt i j with y|y
  ·exact R9 (h i (j - 1) (by omega) (by omega)) hl
  ·rw[show i=j by omega];exact Q0 _
def oM(h:UP κ xs n)(hl:κ.kle (KK κ xs n) (KK κ xs (n - 1))):UP κ xs (n+1):=λi j le lt=>by
 rcases Rt j n with z|z
 ·exact h i j le z
 ·obtain rfl:j=n:=by omega
  rcases Rt i j with y|y
  ·exact R9 hl (h i (j - 1) (by omega) (by omega))
  ·rw[show i=j by omega];exact Q0 _
def x8(h:n<=1):Pj κ xs n:=λi j le lt=>by rw[show i=j by omega];exact Q0 _
def JY(h:n<=1):UP κ xs n:=λi j le lt=>by rw[show i=j by omega];exact Q0 _
variable{Q:Option Nat->Sv->Prop}
section
variable {o:Array VA}
def Hh(b:SrtB k0 o st)(ks:KeysOf κ o)(hi:i<o.size):∃z,(arrOf st)[i]?=ZA z/\κ.keyOf z.1=ZA (gk κ st i):=by
 have h1:i<(arrOf st).size:=b.len▸hi;obtain⟨a,ha⟩:=ks _ ((Rb.mp b.p).mem_iff.mp (Array.getElem_mem_toList h1))
 have e:=getElem?_pos (arrOf st) i h1
 refine⟨_,e,?_⟩
 show _=ZA (KK κ (arrOf st) i)
 unfold KK;rw[e,ha];simp[ha]
def v8(c:vF κ k0 prog w A s)(ks:KeysOf κ o)(b:SrtB k0 o st){Q:Option Bool->Sv->Prop}(hi:i<o.size)(hj:j<o.size)(q:Q (ZA (κ.blt (gk κ st i) (gk κ st j))) st):
  wpS (ZK prog w) A E s (ltAt' i j) Q st:=by
 obtain⟨⟨x,x2⟩,e1,k1⟩:=Hh b ks hi;obtain⟨⟨y,y2⟩,e2,k2⟩:=Hh b ks hj;rw[ltAt'_eq];refine OV (Wy ?_)
 dsimp only
 rw[elem'_eq,elem'_eq,e1,e2];refine OV (PC (OV (PC ?_)))
 rw[lt'_eq];refine OV (Wy ?_)
 rw[b.k];exact OV (wpS_lift (Qh (c _ x y _ _ _ k1 k2 ⟨rfl,PC q⟩)))
def Hg{Q:AscSt->Sv->Prop}(c:vF κ k0 prog w A s)(ks:KeysOf κ o)(b:SrtB k0 o st)(hm:m<=o.size)(h1:1<=a)(h2:a<=m)(so:Pj κ (arrOf st) a)
  (q:∀n,a<=n->n<=m->Pj κ (arrOf st) n->(n≠m->κ.klt (gk κ st n) (gk κ st (n - 1)))->Q (ZB,n) st):wpS (ZK prog w) A E s (ascLoop a m) Q st:=by
 unfold ascLoop;refine R7 (I:=λn r st'=>r=(ZB,n)/\st'=st/\Pj κ (arrOf st) n) (λn r st' l1 l2 hI=>?_) (λr st' hI=>?_) ⟨rfl,rfl,so⟩
 ·obtain⟨rfl,rfl,sn⟩:=hI
  refine OV (v8 c ks b (NK l2 hm) (Qc (Vr _ _) (NK l2 hm)) ?_)
  cases z:κ.blt (gk κ st' n) (gk κ st' (n - 1))with
  |true=>exact PC (q n l1 (Pe l2) sn λ_=>z)
  |false=>exact PC ⟨rfl,rfl,EX sn z⟩
 ·obtain⟨rfl,rfl,sn⟩:=hI
  have e:max a m=m:=Sa h2;rw[e]at sn ⊢;exact q m h2 (NL _) sn λh=>absurd rfl h
def tM{Q:Unit->Sv->Prop}(b:SrtB k0 o st)(q:∀st',SrtB k0 o st'->arrOf st'=mirror (arrOf st) i j ((j - i) / 2)->Q () st'):wpS (ZK prog w) A E s (reverseSlice' i j) Q st:=by
 rw[reverseSlice'_eq];exact VB (q _ (b.arr (mirror_perm _ _ _ _)) rfl)
abbrev Ew(κ:KeyKind)(k0:Tq)(o:Array VA)(m:Nat)(Q:Option Nat->Sv->Prop):Prop:=∀n st',SrtB k0 o st'->1<=n->n<=m->Pj κ (arrOf st') n->Q (ZA n) st'
def zC(c:vF κ k0 prog w A s)(ks:KeysOf κ o)(b:SrtB k0 o st)(hm:m<=o.size)(h1:1<=n)(h2:n<=m)(dn:UP κ (arrOf st) n)(q:Ew κ k0 o m Q):
  wpS (ZK prog w) A E s (tail3 n m) Q st:=by
 unfold tail3;refine OV (tM b λst' b' e=>OV (Hg c ks b' hm h1 h2 (λi j le lt=>?_) λk l1 l2 so _=>PC (q k st' b' (by omega) l2 so)))
 have hz:n<=(arrOf st).size:=by rw[b.len];omega
 rw[e,KK_mirror hz,KK_mirror hz,if_pos ⟨O4 _,by omega⟩,if_pos ⟨O4 _,by omega⟩]
 exact dn _ _ (by omega) (by omega)
def um{k:Nat}(g1:k - 1<=i)(g2:i<k):i=k - 1:=Wn (Sf g2) g1
def Kv{Q:DescSt->Sv->Prop}(c:vF κ k0 prog w A s)(ks:KeysOf κ o)(b:SrtB k0 o st)(hm:m<=o.size)(h1:1<=n)(h2:n<=m)(dn:UP κ (arrOf st) n)
  (q:∀k r st',SrtB k0 o st'->n<=k->k<=m->UP κ (arrOf st') k->r+1<=k->(∀i,k - (r+1)<=i->i<k->gk κ st' i=gk κ st' (k - 1))->Q (ZB,k,r) st'):wpS (ZK prog w) A E s (descLoop n m) Q st:=by
 unfold descLoop
 refine R7 (I:=λk c st'=>∃r,c=(ZB,k,r)/\SrtB k0 o st'/\UP κ (arrOf st') k/\r+1<=k/\∀i,k - (r+1)<=i->i<k->gk κ st' i=gk κ st' (k - 1)) (λk r st' l1 l2 hI=>?_) (λr st' hI=>?_)
  ⟨0,rfl,b,dn,h1,λi g1 g2=>by rw[um g1 g2]⟩
 ·obtain⟨r,rfl,b',d',hr,eq⟩:=hI
  dsimp only
  have kk:=NK l2 hm
  have kp:k - 1<o.size:=Qc (Vr _ _) kk
  have hz:k<=(arrOf st').size:=by rw[b'.len];exact Pe kk
  refine OV (v8 c ks b' kk kp ?_)
  cases z:κ.blt (gk κ st' k) (gk κ st' (k - 1))with
  |true=>
   have d2:=oM d' (S4 z)
   show wpS _ _ _ _ (if r > 0 then _ else _) _ _
   by_cases hr0:r > 0
   ·rw[if_pos hr0]
    refine OV (tM b' λst2 b2 e2=>PC ⟨0,rfl,b2,λi j le lt=>?_,Tz (O4 _),λi g1 g2=>by rw[um g1 g2]⟩)
    rw[e2,P5 hz eq,P5 hz eq];exact d2 i j le lt
   ·rw[if_neg hr0]
    exact PC ⟨0,rfl,b',d2,Tz (O4 _),λi g1 g2=>by rw[um g1 g2]⟩
  |false=>
   refine OV (v8 c ks b' kp kk ?_)
   cases y:κ.blt (gk κ st' (k - 1)) (gk κ st' k)with
   |true=>exact PC (q k r st' b' l1 (Pe l2) d' hr eq)
   |false=>
    refine PC ⟨r+1,rfl,b',oM d' y,Tz hr,λi g1 g2=>?_⟩
    have e:gk κ st' k=gk κ st' (k - 1):=UJ y z;rw[Nat.add_sub_cancel];rcases Rt i k with g3|g3
    ·rw[e];exact eq i (by rw[Nat.add_sub_add_right]at g1;exact g1) g3
    ·rw[Wn (S5 g2) g3]
 ·obtain⟨r,rfl,b',d',hr,eq⟩:=hI
  have e:max n m=m:=Sa h2;rw[e]at d' hr eq ⊢;exact q m r st' b' h2 (NL _) d' hr eq
def zD(c:vF κ k0 prog w A s)(ks:KeysOf κ o)(b:SrtB k0 o st)(hm:m<=o.size)(h2:n+1<=m)(dn:UP κ (arrOf st) (n+1))(q:Ew κ k0 o m Q):
  wpS (ZK prog w) A E s (descPart n m) Q st:=by
 unfold descPart;refine OV (wpS_lift (Qa ⟨rfl,OV (Kv c ks b hm (by omega) h2 dn λk r st' b' l1 l2 d' hr eq=>?_)⟩))
 dsimp only
 have hz:k<=(arrOf st').size:=by rw[b'.len];omega
 by_cases hr0:r > 0
 ·rw[if_pos hr0]
  refine OV (tM b' λst2 b2 e2=>zC c ks b2 hm (by omega) l2 (λi j le lt=>?_) q)
  rw[e2,P5 hz eq,P5 hz eq];exact d' i j le lt
 ·rw[if_neg hr0]
  exact zC c ks b' hm (by omega) l2 d' q
def HU(c:vF κ k0 prog w A s)(ks:KeysOf κ o)(b:SrtB k0 o st)(hm:m<=o.size)(h1:1<=m)(q:Ew κ k0 o m Q):wpS (ZK prog w) A E s (countRun' 0 m) Q st:=by
 rw[countRun0_eq];refine OV (Hg c ks b hm (NL 1) h1 (x8 (NL 1)) λn l1 l2 so lt=>?_)
 dsimp only
 by_cases e:n=m
 ·rw[if_pos (beq_iff_eq.mpr e)]
  exact PC (q n st b l1 l2 so)
 rw[if_neg (λz=>e (beq_iff_eq.mp z))]
 have fall:=S4 (lt e)
 by_cases g:n > 1
 ·rw[if_pos g]
  refine OV (v8 c ks b (by omega) (by omega) ?_)
  cases z:κ.blt (gk κ st 0) (gk κ st (n - 1))with
  |true=>exact PC (q n st b l1 l2 so)
  |false=>
   have all:∀k,0<=k->k<n->gk κ st k=gk κ st (n - 1):=λk _ hk=>
    UJ (so k (n - 1) (by omega) (by omega)) (R9 (show κ.kle (gk κ st (n - 1)) (gk κ st 0)from z) (so 0 k (by omega) hk))
   have hz:n<=(arrOf st).size:=by rw[b.len];omega
   refine OV (tM b λst2 b2 e2=>zD c ks b2 hm (by omega) (oM (λi j le lt=>?_) ?_) q)
   ·rw[e2,P5 hz all,P5 hz all]
    show κ.kle (gk κ st j) (gk κ st i)
    rw[all i (O4 _) (by omega),all j (O4 _) (by omega)]
    exact Q0 _
   ·rw[e2,P5 hz all,P5 hz all]
    exact fall
 ·rw[if_neg g]
  exact zD c ks b hm (by omega) (oM (JY (by omega)) fall) q
def Jn{l u:Nat}(h:l<u):l<=(l+u) / 2/\(l+u) / 2<u:=⟨by omega,by omega⟩
def JJ{k l:Nat}(hk:k<xs.size)(lk:l<=k)(so:Pj κ xs k)(lo:∀i,i<l->κ.kle (KK κ xs i) (KK κ xs k))(hi:∀i,l<=i->i<k->κ.klt (KK κ xs k) (KK κ xs i)):Pj κ (bubble xs k (k - l)) (k+1):=λi j le lt=>by
 rw[KK_bubble hk (Vr _ _),KK_bubble hk (Vr _ _),Nat.sub_sub_self lk]
 have lt:=S5 lt;rcases S6 i l with i1|i1|i1
 ·rw[if_neg (Oh i1),if_neg λz=>Nat.lt_asymm z.1 i1]
  rcases S6 j l with j1|j1|j1
  ·rw[if_neg (Oh j1),if_neg λz=>Nat.lt_asymm z.1 j1];exact so _ _ le (NK j1 lk)
  ·rw[if_pos j1];exact lo i i1
  ·rw[if_neg (Qz j1),if_pos ⟨j1,lt⟩];exact so _ _ (Sf (TU i1 j1)) (NK (Sg j1) lt)
 ·rw[if_pos i1]
  rcases Nat.lt_or_eq_of_le (i1▸le:l<=j)with j1|j1
  ·rw[if_neg (Qz j1),if_pos ⟨j1,lt⟩];exact S4 (hi _ (Sf j1) (NK (Sg j1) lt))
  ·rw[if_pos j1.symm];exact Q0 _
 ·have j1:=NK i1 le
  rw[if_neg (Qz i1),if_pos ⟨i1,Oj le lt⟩,if_neg (Qz j1),if_pos ⟨j1,lt⟩];exact so _ _ (Nat.sub_le_sub_right le 1) (NK (Sg j1) lt)
def HW{Q:Bool->Sv->Prop}(c:vF κ k0 prog w A s)(ks:KeysOf κ o)(b:SrtB k0 o st)(h1:1<=n)(hn:n<=o.size)(ha:a<=n)(so:Pj κ (arrOf st) a)
  (q:∀st',SrtB k0 o st'->Pj κ (arrOf st') n->Q ZC st'):wpS (ZK prog w) A E s (binarySort' 0 n a) Q st:=by
 rw[binarySort'_eq];simp only[T2];refine OV (R7 (I:=λk r st'=>r=(ZB,())/\SrtB k0 o st'/\Pj κ (arrOf st') k) (λk r st1 l1 l2 hI=>?_) (λr st1 hI=>?_) ⟨rfl,b,?_⟩)
 ·obtain⟨rfl,b1,so1⟩:=hI
  have hk:k<o.size:=NK l2 hn
  refine OV (wpS_mono (R7 (I:=λx r st2=>st2=st1/\∃l u,r=(ZB,l,u)/\l<=u/\u<=k/\u<=k+l - x/\(∀i,i<l->κ.kle (gk κ st1 i) (gk κ st1 k))/\∀i,u<=i->i<k->κ.klt (gk κ st1 k) (gk κ st1 i))
   (Q:=λr st2=>st2=st1/\∃l u,r=(ZB,l,u)/\l<=k/\(∀i,i<l->κ.kle (gk κ st1 i) (gk κ st1 k))/\∀i,l<=i->i<k->κ.klt (gk κ st1 k) (gk κ st1 i)) (λx r st2 y1 y2 hJ=>?stp) (λr st2 hJ=>?fin) ⟨rfl,0,k,rfl,O4 _,NL _,NL _,λi hi=>absurd hi (Nat.not_lt_zero _),λi g1 g2=>absurd g2 (Nat.not_lt.mpr g1)⟩) λr st2 hJ=>?pst)
  case stp=>
   obtain⟨rfl,l,u,rfl,lu,uk,mz,lo,hi⟩:=hJ
   dsimp only
   by_cases g:l ≥ u
   ·rw[if_pos g]
    exact PC ⟨rfl,l,u,rfl,Oj lu uk,lo,λi g1 g2=>hi i (Oj g g1) g2⟩
   ·rw[if_neg g]
    have hm:=Jn (Nat.lt_of_not_le g)
    generalize (l+u) / 2=m at hm ⊢
    have mk:m<k:=NK hm.2 uk;refine OV (v8 c ks b1 hk (TU mk hk) ?_)
    have am:u<=k+(m+1) - (x+1)/\m<=k+l - (x+1):=by
     clear lo hi so so1 q ks c b b1 hn ha h1
     omega
    cases z:κ.blt (gk κ st2 k) (gk κ st2 m)with
    |true=>exact PC ⟨rfl,l,m,rfl,hm.1,Pe mk,am.2,lo,λi g1 g2=>KeyOrd.klt_of_klt_of_kle z (so1 _ i g1 g2)⟩
    |false=>exact PC ⟨rfl,m+1,u,rfl,hm.2,uk,am.1,λi g1=>R9 (so1 i m (S5 g1) mk) z,hi⟩
  case fin=>
   obtain⟨rfl,l,u,rfl,lu,uk,mz,lo,hi⟩:=hJ
   have e:u<=l:=by
    clear lo hi so so1 q ks c b b1 hn ha h1
    omega
   exact⟨rfl,l,u,rfl,Oj lu uk,lo,λi g1 g2=>hi i (Oj e g1) g2⟩
  case pst=>
   obtain⟨rfl,l,u,rfl,lk,lo,hi⟩:=hJ
   dsimp only
   rw[moveDown'_eq];exact OV (VB (PC ⟨rfl,b1.arr (bubble_perm _ _ _),JJ (by rw[b1.len];exact hk) lk so1 lo hi⟩))
 ·obtain⟨rfl,b1,so1⟩:=hI
  rw[Sa (Nat.max_le.mpr ⟨ha,h1⟩)]at so1;exact PC (q st1 b1 so1)
 ·rcases Nat.le_total a 1 with g|g
  ·rw[Sa g];exact x8 (NL 1)
  ·rw[Nat.max_eq_left g];exact so
def Cd{Q:Unit->Sv->Prop}(c:vF κ k0 prog w A s)(ks:KeysOf κ o)(b:SrtB k0 o st)(h2:2<=o.size)(h64:o.size<64)
  (q:∀st',(arrOf st').Perm o->SJ st'=ZB->Pj κ (arrOf st') o.size->Q () st'):wpS (ZK prog w) A E s sortRuns' Q st:=by
 rw[sortRuns'_eq];refine OV (Wy ?_)
 dsimp only
 have hmr:minRun' o.size o.size 0=o.size:=by
  cases hz:o.size with
  |zero=>omega
  |succ f=>rw[minRun'_succ,if_pos (by omega)]
 simp only[b.len,hmr]
 refine OV (wpS_mono (R7 (I:=λx r st1=>(x=0/\r=(ZB,0)/\SrtB k0 o st1)\/(x≠0/\r=(ZB,o.size)/\(arrOf st1).Perm o/\SJ st1=ZB/\(Rg st1).size=1/\Pj κ (arrOf st1) o.size))
  (Q:=λr st1=>r=(ZB,o.size)/\(arrOf st1).Perm o/\SJ st1=ZB/\(Rg st1).size=1/\Pj κ (arrOf st1) o.size) (λx r st1 l1 l2 hI=>?stp) (λr st1 hI=>?fin) (.inl ⟨rfl,rfl,b⟩)) λr st1 hI=>?pst)
 case stp=>
  rcases hI with⟨rfl,rfl,b1⟩|⟨_,rfl,hI⟩
  ·dsimp only
   rw[if_neg (by omega)]
   simp only[T1,VG,T2];refine OV (HU c ks b1 (NL _) (by omega) λn st2 b2 n1 n2 so2=>?_)
   dsimp only
   have fin:∀st3,SrtB k0 o st3->Pj κ (arrOf st3) o.size->(arrOf (VC st3 ((Rg st3).push (0,o.size,0)))).Perm o/\SJ (VC st3 ((Rg st3).push (0,o.size,0)))=ZB ∧
     (Rg (VC st3 ((Rg st3).push (0,o.size,0)))).size=1/\Pj κ (arrOf (VC st3 ((Rg st3).push (0,o.size,0)))) o.size:=λst3 b3 so3=>⟨b3.p,b3.f,by
    show((Rg st3).push _).size=1
    rw[b3.e];rfl,so3⟩
   by_cases g:n<o.size
   ·rw[if_pos g]
    refine OV (wpS_lift (Qa ⟨rfl,OV (HW c ks b2 (Q3 h2) (NL _) n2 so2 λst3 b3 so3=>?_)⟩))
    simp only[Bool.not_true,N8,if_false];refine OV (Wy ?_)
    rw[show(Rg st3).back?=ZB by rw[b3.e];rfl]
    exact OV (VB (PC (.inr ⟨by omega,rfl,fin st3 b3 so3⟩)))
   ·rw[if_neg g]
    obtain rfl:n=o.size:=by omega
    refine OV (Wy ?_)
    rw[show(Rg st2).back?=ZB by rw[b2.e];rfl]
    exact OV (VB (PC (.inr ⟨by omega,rfl,fin st2 b2 so2⟩)))
  ·dsimp only
   rw[if_pos (NL _)];exact PC ⟨rfl,hI⟩
 case fin=>
  rcases hI with⟨h,_,_⟩|⟨_,hI⟩
  ·omega
  ·exact hI
 case pst=>
  obtain⟨rfl,hp,hf,he,hs⟩:=hI
  dsimp only
  refine OV (wpS_mono (R7 (I:=λ_ r st2=>st2=st1/\r=(ZB,())) (Q:=λr st2=>st2=st1/\r=(ZB,())) (λx r st2 _ _ hJ=>?stp) (λ_ _ h=>h) ⟨rfl,rfl⟩) λr st2 hJ=>?pst)
  case stp=>
   obtain⟨rfl,rfl⟩:=hJ;refine OV (Wy ?_)
   rw[if_pos (PV he)];exact PC ⟨rfl,rfl⟩
  case pst=>
   obtain⟨rfl,rfl⟩:=hJ;exact PC (q _ hp hf hs)
end
def RowV(h:ZH)(v:NA)(ns:List Int):Prop:=∃a its,v=.ref a/\h.IsTuple a its/\PH its.toList ns/\ns≠ []
variable{h:ZH}
def RowV.inj{ms:List Int}(r:RowV h v ns)(q:RowV h v ms):ns=ms:=by
 obtain⟨a,its,rfl,⟨o,e,_,n,d⟩,i,_⟩:=r;obtain⟨b,jts,eb,⟨o',e',_,n',d'⟩,j,_⟩:=q;cases eb;rw[e]at e';cases e';rw[d]at d';cases d';rw[<-i.nums,<-j.nums]
open Classical in
def Bg(h:ZH)(v:NA):Option (List Int):=if e:∃ns,RowV h v ns then ZA e.choose else ZB
def RowV.key(r:RowV h v ns):Bg h v=ZA ns:=by
 unfold Bg
 have e:∃ns,RowV h v ns:=⟨ns,r⟩;rw[dif_pos e,e.choose_spec.inj r]
def Ah(e:Bg h v=ZA ns):RowV h v ns:=by
 unfold Bg at e
 split at e
 ·rename_i g
  cases e;exact g.choose_spec
 ·cases e
def uZ(h:ZH):Ut:={α:=List Int,blt:=cz,irrefl:=iU,trans:=kJ,negTrans:=qc,total:=j7,keyOf:=Bg h,dflt:=[]}
def xw:List Int->List Int->Option Bool
 |a::l,b::m=>if a=b then xw l m else ZA (decide (a<b))
 |_,_=>ZB
theorem zZ:∀l m,cz l m=(xw l m).getD (decide (l.length<m.length))
 |[],[] =>rfl
 |[],_::_=>rfl
 |_::_,[] =>rfl
 |a::l,b::m=>by
  unfold cz xw
  by_cases e:a=b
  ·rw[if_pos e,if_pos e,zZ l m]
   simp
  ·rw[if_neg e,if_neg e];rfl
variable{P:Fin->NB->Prop}{Q:W1}{a:ZE}
theorem Jq{a:Int}{t u:Tok}{Q:Bool->NB->Prop}(h:Q (decide (a<b)) s):∀k,ZJ (ZK prog w) A (oneLt' k (.int a t) (.int b u)) Q E s
 |true=>oneLt_int h
 |false=>by
  rw[oneLt'_eq];simp only[N8,if_false];exact Nq (wpAny_lt_int (show ZJ (ZK prog w) A (truthOfDropped (.bool (decide (a<b)))) Q E s from OY h))
def DO(f:(NA×NA)×Nat->β->Sem (ForInStep β))(b0:β)(fin:Bool->β)
  (hf:∀(a b:Int)(t u:Tok)(i:Nat)(Q:ForInStep β->NB->Prop),(a=b->Q (.yield b0) s)->(a≠b->Q (.done (fin (decide (a<b)))) s)->ZJ (ZK prog w) A (f ((.int a t,.int b u),i) b0) Q E s)
    (i:PH us ns):∀{vs:List NA}{ms:List Int}(k:Nat){Q:β->NB->Prop},PH vs ms->(∀d,xw ns ms=ZA d->Q (fin d) s)->(xw ns ms=ZB->Q b0 s)->ZJ (ZK prog w) A (forIn ((us.zip vs).zipIdx k) b0 f) Q E s:=by
 induction i with
 |nil=>
  intro vs ms k Q _ _ h;rw[Vl,RD,Pw]
  exact Nz (h (by unfold xw;rfl))
 |cons a t i ih=>
  intro vs ms k Q j g h
  cases j with
  |nil=>
   rw[UV,RD,Pw]
   exact Nz (h (by unfold xw;rfl))
  |cons b u j=>
   rw[RB,Sb,Pl];unfold xw at g h;refine Nq (hf a b t u k _ (λe=>?_) λe=>?_)
   ·rw[if_pos e]at g h
    exact ih (k+1) j g h
   ·rw[if_neg e]at g
    exact Nz (g _ rfl)
def Lp(k:Bool)(x y:NA):keyLt' (tuples' k) x y=(QP x >>= λxs=>QP y >>= λys=>(do
  for z in (xs.toList.zip ys.toList).zipIdx do
   if !(<-eqBool z.1.1 z.1.2)then return (<-oneLt' (k&&z.2 == 0) z.1.1 z.1.2)
  return decide (xs.size<ys.size))):=rfl
def Lo:vF (uZ s.heap) (tuples' ZC) prog w A s:=by
 intro E x y (a:List Int) (b:List Int) Q hx hy (q:Q (cz a b) s);obtain⟨xa,xs,rfl,⟨xo,e1,_,n1,d1⟩,i1,_⟩:=Ah hx;obtain⟨ya,ys,rfl,⟨yo,e2,_,n2,d2⟩,i2,_⟩:=Ah hy;rw[Lp];refine Nq (R8 e1 d1 (Nq (R8 e2 d2 ?_)))
 have q':=q;rw[zZ]at q';refine Nq (DO _ _ (λd=>(ZA d,())) (λa b t u i Q h1 h2=>?_) i1 0 i2 (λd e=>?_) λe=>?_)
 ·refine Nq (TB ?_)
  by_cases z:a=b
  ·rw[beq_iff_eq.mpr z]
   exact Nz (h1 z)
  ·rw[beq_eq_false_iff_ne.mpr z]
   exact Nq (Jq (Nz (h2 z)) _)
 ·rw[e]at q'
  exact Nz q'
 ·rw[e]at q'
  refine Nz ?_
  rw[<-i1.length,<-i2.length,Ob,Ob]at q';exact q'
def LF(v:NA):Ts v=(typeOf v >>= λt=>if t != .type "tuple" then pure ZB else QP v >>= λxs=>pure xs[0]?):=rfl
theorem sP:∀{vs:List NA}{Q:List (Option NA)->NB->Prop},(∀v∈vs,∃ns,RowV s.heap v ns)->(∀us ns,PH us ns->us.length=vs.length->Q (us.map ZA) s)->ZJ (ZK prog w) A (vs.mapM Ts) Q E s
 |[],Q,_,q=>by
  rw[List.mapM_nil]
  exact Nz (q [] [] .nil rfl)
 |v::vs,Q,h,q=>by
  rw[List.mapM_cons,LF];obtain⟨ns,a,its,rfl,⟨o,e,hc,n,d⟩,i,ne⟩:=h _ Nv;obtain⟨its⟩:=its;refine Nq (Nq (Qg (T:="tuple") ⟨o,e,hc⟩ ?_))
  rw[if_neg (by decide+kernel)]
  refine Nq (R8 e d (Nz ?_))
  cases i with
  |nil=>exact absurd rfl ne
  |cons m t i'=>exact Nq (sP (λv hv=>h v (Nu _ hv)) λus ns j hl=>Nz (q (.int m t::us) (m::ns) (.cons m t j) (by rw[ND,ND,hl])))
def Lq{Q:Tq->NB->Prop}(hv:∀v∈vs,∃ns,RowV s.heap v ns)(ne:vs≠ [])(q:Q (tuples' ZC) s):ZJ (ZK prog w) A (keyKind' vs.toArray) Q E s:=by
 rw[keyKind'_eq,RU];refine Nq ?_
 rw[map_eq_pure_bind];refine Nq (sP hv λus ns i hl=>Nz ?_)
 rw[if_pos (by simp)]
 refine Nq (Qa ?_)
 have ef:(us.map ZA).toArray.filterMap id=us.toArray:=by simp
 rw[ef,Wz,RU,Wb i]
 cases i with
 |nil=>exact absurd (RE.mp hl.symm) ne
 |@cons m t us' ns' i'=>
  simp only[map_pure,pure_bind]
  have hall:((Uo (λ_=>OM "int") (Pc m t::us')).toArray.all λx=>x == OM "int")=ZC:=by
   simp only[V1,TV,N9];intro _ _;rfl
  rw[show(Uo (λ_=>OM "int") (Pc m t::us')).toArray[0]?=ZA (OM "int")by simp]
  simp only[hall,if_true,pure_bind];exact Nz q
def RowV.on{h':ZH}(r:RowV h v ns)(k:∀a o,h.get? a=ZA o->o.cls=.type "tuple"->h'.get? a=ZA o):RowV h' v ns:=by
 obtain⟨a,its,rfl,⟨o,e,hc,z⟩,i,ne⟩:=r;exact⟨a,its,rfl,⟨o,k a o e hc,hc,z⟩,i,ne⟩
def rk(h:ZH)(v:NA):List Int:=(Bg h v).getD []
def r6(r:RowV h v ns):rk h v=ns:=by unfold rk;rw[r.key];rfl
def HV(hp:xs.Perm (pairsOf vs))(hs:Pj (uZ h) xs (pairsOf vs).size):
  (xs.map (·.2)).toList.Perm vs/\((xs.map (·.2)).toList.map (rk h)).Pairwise (λa b=>jf a b=ZC):=by
 have hl:xs.toList.Perm (vs.zip vs):=by rw[<-SV];exact Rb.mp hp
 have e:(xs.map (·.2)).toList=xs.toList.map (·.1):=by
  rw[V2];exact N6 λp hp'=>(VP (hl.mem_iff.mp hp')).1.symm
 rw[e];refine⟨?_,?_⟩
 ·have:=hl.map (·.1)
  rwa [V3 (NL _)]at this
 ·rw[Py]
  intro i j hi hj hij
  have hi':i<xs.size:=by simpa using hi
  have hj':j<xs.size:=by simpa using hj
  have z:cz (KK (uZ h) xs j) (KK (uZ h) xs i)=ZD:=hs i j (Pe hij) (by rw[<-hp.size_eq];exact hj')
  have g:∀k (hk:k<xs.size),KK (uZ h) xs k=rk h xs[k].1:=λk hk=>by unfold KK;rw[getElem?_pos xs k hk];rfl
  rw[g i hi',g j hj']at z;simp only[Rj,Uw];unfold jf;rw[z];rfl
def Lj(ho:s.heap.get? a=ZA (seqObj "list" vs.toArray n))(hv:∀v∈vs,∃ns,RowV s.heap v ns)(h64:vs.length<64)
  (q:∀out:Array NA,out.toList.Perm vs->(out.toList.map (rk s.heap)).Pairwise (λa b=>jf a b=ZC)->P (.done (.ret .none)) {s with heap:=Q9 s.heap a vs out}):
  ZJ (ZK prog w) A (Builtin.«list.sort» ⟨[.ref a],[]⟩) P E s:=by
 rw[WA]
 have ha:=NJ ho;refine Nq (R8 ho rfl (Nq (RJ ho rfl ?_)))
 have ho1:=WB ho (λ_=>#[])
 generalize hm:(if (#[]:Array NA).size == vs.toArray.size then n else n+1)=m at ho1
 refine Nq (Sy ho1 rfl (Nq (Rh (Nq (Tt (OJ ?_))))))
 generalize hh:((s.heap.update a (P8 λ_=>#[])).push (seqObj "tuple" vs.toArray 0)).push (seqObj "list" #[] 0)=h6
 have old:∀b,b<s.heap.objs.size->h6.get? b=(s.heap.update a (P8 λ_=>#[])).get? b:=λb hb=>by
  rw[<-hh,Qv _ _ _ (by rw[size_push',PP];exact Oh (Pr hb)),Qv _ _ _ (by rw[PP];exact Oh hb)]
 have ho6:h6.get? a=ZA (seqObj "list" #[] m):=(old a ha).trans ho1
 have hrow:∀v ns,RowV s.heap v ns->RowV h6 v ns:=λv ns r=>r.on λb o e hc=>by
  rw[old b (NJ e),Ss _ _ _ _ λz=>by subst z;rw[ho]at e;cases e;exact absurd (show OM "list" =OM "tuple" from hc) (by decide+kernel)]
  exact e
 have hv6:∀v∈vs,∃ns,RowV h6 v ns:=λv hm=>let ⟨ns,r⟩:=hv v hm;⟨ns,hrow v ns r⟩
 have hrk:∀v∈vs,rk h6 v=rk s.heap v:=λv hm=>by
  obtain⟨ns,r⟩:=hv v hm;rw[r6 r,r6 (hrow v ns r)]
 have fin:∀xs:Array VA,xs.Perm (pairsOf vs)->Pj (uZ h6) xs (pairsOf vs).size->(xs.map (·.2)).size<=ZI+1/\P (.done (.ret .none)) {s with heap:=h6.update a (P8 λ_=>xs.map (·.2))}:=λxs hp hs=>by
  obtain⟨g1,g2⟩:=HV hp hs;refine⟨?_,?_⟩
  ·have:=g1.length_eq
   rw[Ob]at this;rw[this,O9];omega
  ·rw[N6 λv hm=>hrk v (g1.mem_iff.mp hm)]at g2
   have:=q _ g1 g2;unfold Q9 at this;rw[hh]at this;exact this
 show ZJ (ZK prog w) A _ P E {s with heap:=h6}
 dsimp only
 by_cases h2:vs.toArray.size<2
 ·rw[if_pos h2,if_pos h2]
  obtain⟨f1,f2⟩:=fin (pairsOf vs) (TQ _) (x8 (by rw[VQ];rw[NP]at h2;omega))
  refine Nq (Nz ?_)
  rw[Wo];refine Nq (Nz ?_)
  dsimp only
  refine Nq (Sy ho6 rfl (Nq (RJ ho6 rfl ?_ (hsz2:=f1))))
  simp only[bne_self_eq_false,N8,if_false];exact Nz f2
 ·rw[if_neg h2,if_neg h2]
  rw[NP]at h2;refine Nq (Lq hv6 (λz=>by subst z;exact h2 (by decide)) ?_)
  have ks:UE (uZ h6) (pairsOf vs):=λp hp=>by
   rw[SV]at hp;obtain⟨ns,r⟩:=hv6 p.1 (VP hp).2;exact⟨ns,r.key⟩
  refine Nq (Pu (Cd (κ:=uZ h6) (k0:=tuples' ZC) (o:=pairsOf vs) (st:=SortSt.mk' (tuples' ZC) (vs.toArray.zip vs.toArray) #[] 7 ZB)
   (Q:=λ_ st'=>(arrOf st').Perm (pairsOf vs)/\SJ st'=ZB/\Pj (uZ h6) (arrOf st') (pairsOf vs).size) (Lo (s:={s with heap:=h6})) ks ⟨TQ _,rfl,rfl,rfl⟩
   (by rw[VQ];omega) (by rw[VQ];exact h64) λst' a1 a2 a3=>⟨a1,a2,a3⟩) ?_ λ_ _ e=>e)
  rintro ⟨⟨⟩,st'⟩ s' ⟨rfl,hp,hf,hs⟩
  obtain⟨f1,f2⟩:=fin _ hp hs
  dsimp only
  refine Nq (Sy ho6 rfl (Nq (RJ ho6 rfl ?_ (hsz2:=f1))))
  rw[hf];simp only[bne_self_eq_false,N8,if_false];exact Nz f2
def AX(hl:s.heap.IsList l vs.toArray)(hv:∀v∈vs,∃ns,RowV s.heap v ns)(h64:vs.length<64)
  (q:∀out:Array NA,out.toList.Perm vs->(out.toList.map (rk s.heap)).Pairwise (λa b=>jf a b=ZC)->Q (.ref (s.heap.objs.size+1)) {s with heap:=sortedAll s.heap vs out}):
  ZJ (ZK prog w) A (call (.builtin "sorted") [.ref l]) Q E s:=by
 refine SM kind_sorted plain_sorted entry_sorted (args_sorted1 _) ?_
 unfold Builtin.«sorted»;refine Nq (m:=checkCount "sorted" 1 1 _) (Nz (Nq (collect_list hl (Nq (Tt ?_)) (by rw[O9];omega))))
 generalize hh:(s.heap.push (seqObj "list" #[] 0)).update s.heap.objs.size (P8 (· ++vs.toArray))=h1
 have hz:h1.objs.size=s.heap.objs.size+1:=by rw[<-hh,PP,size_push']
 have keep:∀b o,s.heap.get? b=ZA o->(h1.push (seqObj "list" vs.toArray 0)).get? b=ZA o:=λb o e=>by
  have hb:=NJ e
  have nb:b≠s.heap.objs.size:=Oh hb;rw[Qv _ _ _ (by rw[hz];exact Oh (Pr hb)),<-hh,Ss _ _ _ _ nb,Qv _ _ _ nb]
  exact e
 have hoL:(h1.push (seqObj "list" vs.toArray 0)).get? (s.heap.objs.size+1)=ZA (seqObj "list" vs.toArray 0):=by rw[<-hz];exact NI _ rfl
 have hrow:∀v ns,RowV s.heap v ns->RowV (h1.push (seqObj "list" vs.toArray 0)) v ns:=λv ns r=>r.on λb o e _=>keep b o e
 show ZJ (ZK prog w) _ _ _ _ {s with heap:=h1.push (seqObj "list" vs.toArray 0)}
 dsimp only
 rw[hz];refine Nq (OJ (Ol slot_list_sort ⟨_,hoL,rfl⟩ WC (Lj (s:={s with heap:=h1.push (seqObj "list" vs.toArray 0)}) hoL (λv hm=>let ⟨ns,r⟩:=hv v hm;⟨ns,hrow v ns r⟩) h64 λout g1 g2=>⟨_,rfl,?_⟩) (args_list_sort _)))
 refine Nz ⟨_,rfl,?_⟩
 rw[N6 λv hm=>show _=rk s.heap v by obtain⟨ns,r⟩:=hv v (g1.mem_iff.mp hm);rw[r6 r,r6 (hrow v ns r)]]at g2
 have:=q out g1 g2;unfold sortedAll at this;rw[hh]at this;exact this
def qJ:NA->V
 |.ref a=>.ref a
 |_=>.non
theorem kD:∀{m:List T}{ns:List Int},eh m=ZA ns->m=ns.map .int
 |[],ns,h=>by cases h;rfl
 |t::m,ns,h=>by
  cases t with
  |int i=>
   unfold eh at h;obtain⟨k,h1,rfl⟩:=O5.mp h
   rw[kD h1];rfl
  |_=>cases h
theorem zG(I:Inv X bv σ H s):∀{l:List T}{k:List (List Int)}{vs:List V}{us:List NA},rowsT l=ZA k->Reps X.K O H l vs->Vals vs us →
  us.map (rk s.heap)=k/\∀u∈us,RowV s.heap u (rk s.heap u)/\RelV (qJ u) u/\Rep X.K O H (.tup ((rk s.heap u).map .int)) (qJ u)
 |[],k,vs,us,h,r,v=>by
  cases Reps.AC.mp r;cases v;cases h
  exact⟨rfl,λu hu=>by cases hu⟩
 |t::l,k,vs,us,h,r,v=>by
  obtain⟨x,xs,rfl,p,q⟩:=Reps.me.mp r
  cases v with
  |@cons _ u _ us' v1 v2=>
   cases t with
   |tup m=>
    unfold rowsT at h
    split at h
    ·rename_i ns k' h1 h2
     by_cases ne:ns=[]
     ·rw[if_pos ne]at h;cases h
     ·rw[if_neg ne]at h;cases h
      obtain⟨e1,e2⟩:=zG I h2 q v2;obtain⟨a,ws,rfl,_,g3,g4⟩:=Rep.Fk.mp p;obtain rfl:u=NQ a:=v1;obtain⟨its,w1,t1,_⟩:=I.tuple (SqT.of g3)
      have hi:=fO h1 g4 w1;obtain⟨o,ho,hc,n,hd⟩:=t1
      have row:RowV s.heap (.ref a) ns:=⟨a,_,rfl,⟨o,ho,hc,n,hd⟩,by simpa using hi,ne⟩
      have em:m=ns.map .int:=kD h1;subst em;refine⟨by rw[Nx,e1,r6 row],λu hu=>?_⟩
      rcases NG.mp hu with rfl|hu
      ·rw[r6 row];exact⟨row,rfl,p⟩
      ·exact e2 u hu
    ·cases h
   |_=>cases h
theorem rP:∀{us:List NA},(∀u∈us,RelV (qJ u) u/\Rep K O H (.tup ((rk h u).map .int)) (qJ u))->Vals (us.map qJ) us/\Reps K O H (us.map λu=>.tup ((rk h u).map .int)) (us.map qJ)
 |[],_=>⟨.nil,Reps.nil_⟩
 |u::us,hu=>by
  obtain⟨h1,h2⟩:=hu u Nv;obtain⟨g1,g2⟩:=rP λv hv=>hu v (Nu _ hv)
  exact⟨.cons h1 g1,Reps.me.mpr ⟨_,_,rfl,h2,g2⟩⟩
def By:CallT X (.builtin "sorted") rW:=by
 intro bv s σ H O ts vs us Q I hf rs rv hp;unfold rW at hp
 split at hp
 ·rename_i l
  obtain⟨v,rfl,r⟩:=rs.one
  split at hp
  ·rename_i k hk
   by_cases h64:k.length<64
   ·rw[if_pos h64]at hp
    obtain⟨a,ws,rfl,n,q,z⟩:=Rep.Do.mp r;obtain⟨u,rfl,ru⟩:=kY rv;obtain rfl:u=NQ a:=ru;obtain⟨its,r',pl,hz⟩:=I.list (SqL.of q);obtain⟨e1,e2⟩:=zG I hk z r';refine AX pl.isList (λv hv=>⟨_,(e2 v hv).1⟩) (by rw[<-Ny (rk s.heap),e1];exact h64) λout g1 g2=>?_
    have g3:=mh (e1▸g1.map (rk s.heap)) g2;obtain⟨k1,k2⟩:=rP (us:=out.toList) (K:=X.K) (O:=O) (H:=H) (h:=s.heap) λu hu=>(e2 u (g1.mem_iff.mp hu)).2
    obtain⟨e,he⟩:=sortedAll_at s.heap its out
    have hfr:H (s.heap.objs.size+1)=ZB:=I.hok.fresh (Nat.le_succ _);refine⟨.ref (s.heap.objs.size+1),_,I.laid (t':=s.toks) (λ_ _=>sortedAll_old) (Nat.le_succ _) (show ObjOk X.prog X.w _ _ _ (.lst (out.toList.map qJ))from⟨?_,out.toList,e,k1,he⟩),rfl,hp _ (aW hfr _) _ ?_⟩
    ·rw[Ny,g1.length_eq,<-Ny (rk s.heap),e1,O9];omega
    ·have:=jT (p:=s.heap.objs.size+1) hfr (hf _ hfr) k2
     rw[<-g3,Oo];exact this
   ·rw[if_neg h64]at hp;exact hp.elim
  ·exact hp.elim
 ·exact hp.elim
variable (R:RK)
variable {R:RK}
theorem RK.key_of(r:R.V h v ns):R.key h v=ZA ns:=by
 unfold RK.key
 have e:∃ns,R.V h v ns:=⟨ns,r⟩;rw[dif_pos e,R.inj e.choose_spec r]
theorem RK.ME(e:R.key h v=ZA ns):R.V h v ns:=by
 unfold RK.key at e
 split at e
 ·rename_i g
  cases e;exact g.choose_spec
 ·cases e
def RK.kind(R:RK)(h:ZH):Ut:={α:=List Int,blt:=cz,irrefl:=iU,trans:=kJ,negTrans:=qc,total:=j7,keyOf:=R.key h,dflt:=[]}
def RK.row(R:RK)(h:ZH)(v:NA):List Int:=(R.key h v).getD []
theorem RK.Ms(r:R.V h v ns):R.row h v=ns:=by unfold RK.row;rw[RK.key_of r];rfl
theorem JP(v:NA):Ts v=(typeOf v >>= λt=>if t != .type "tuple" then pure ZB else QP v >>= λxs=>pure xs[0]?):=rfl
theorem Aq:∀{vs:List NA}{Q:List (Option NA)->NB->Prop},(∀v∈vs,∃ns,R.V s.heap v ns)->(∀us ns,PH us ns->us.length=vs.length->Q (us.map ZA) s)->ZJ (ZK prog w) A (vs.mapM Ts) Q E s
 |[],Q,_,q=>by
  rw[List.mapM_nil]
  exact Nz (q [] [] .nil rfl)
 |v::vs,Q,h,q=>by
  rw[List.mapM_cons,JP];obtain⟨ns,r⟩:=h _ Nv;obtain⟨a,its,n,o,m,t,rfl,e,hc,d,e0⟩:=R.fst r;refine Nq (Nq (Qg (T:="tuple") ⟨o,e,hc⟩ ?_))
  rw[if_neg (by decide+kernel)]
  refine Nq (R8 e d (Nz ?_))
  rw[e0];exact Nq (Aq (λv hv=>h v (Nu _ hv)) λus ns j hl=>Nz (q (.int m t::us) (m::ns) (.cons m t j) (by rw[ND,ND,hl])))
theorem kk3{Q:Tq->NB->Prop}(hv:∀v∈vs,∃ns,R.V s.heap v ns)(ne:vs≠ [])(q:Q (tuples' ZC) s):ZJ (ZK prog w) A (keyKind' vs.toArray) Q E s:=by
 rw[keyKind'_eq,RU];refine Nq ?_
 rw[map_eq_pure_bind];refine Nq (Aq hv λus ns i hl=>Nz ?_)
 rw[if_pos (by simp)]
 refine Nq (Qa ?_)
 have ef:(us.map ZA).toArray.filterMap id=us.toArray:=by simp
 rw[ef,Wz,RU,Wb i]
 cases i with
 |nil=>exact absurd (RE.mp hl.symm) ne
 |@cons m t us' ns' i'=>
  simp only[map_pure,pure_bind]
  have hall:((Uo (λ_=>OM "int") (Pc m t::us')).toArray.all λx=>x == OM "int")=ZC:=by
   simp only[V1,TV,N9];intro _ _;rfl
  rw[show(Uo (λ_=>OM "int") (Pc m t::us')).toArray[0]?=ZA (OM "int")by simp]
  simp only[hall,if_true,pure_bind];exact Nz q
theorem out3{o:Array VA}(hp:xs.Perm o)(hs:Pj (R.kind h) xs o.size):xs.toList.Perm o.toList/\(xs.toList.map λp=>R.row h p.1).Pairwise (λa b=>jf a b=ZC):=by
 refine⟨Rb.mp hp,?_⟩
 rw[Py];intro i j hi hj hij
 have hi':i<xs.size:=by simpa using hi
 have hj':j<xs.size:=by simpa using hj
 have z:cz (KK (R.kind h) xs j) (KK (R.kind h) xs i)=ZD:=hs i j (Pe hij) (by rw[<-hp.size_eq];exact hj')
 have g:∀k (hk:k<xs.size),KK (R.kind h) xs k=R.row h xs[k].1:=λk hk=>by unfold KK;rw[getElem?_pos xs k hk];rfl
 rw[g i hi',g j hj']at z;simp only[Rj,Uw];unfold jf;rw[z];rfl
theorem run3{ks:List NA}{Q:Sv->NB->Prop}(hu:A.units+60<cLine)(hl:ks.length=vs.length)(hk:∀v∈ks,∃ns,R.V s.heap v ns)(h2:2<=vs.length)(h64:vs.length<64)
  (q:∀st',SJ st'=ZB->(arrOf st').toList.Perm (ks.zip vs)->((arrOf st').toList.map λp=>R.row s.heap p.1).Pairwise (λa b=>jf a b=ZC)->Q st' s):
  ZJ (ZK prog w) A ((sortRuns').run (SortSt.mk' (tuples' ZC) (ks.toArray.zip vs.toArray) #[] 7 ZB)) (λr s'=>Q r.2 s') E s:=by
 have hz:(ks.toArray.zip vs.toArray).size=vs.length:=by simp[hl]
 have hz2:(ks.toArray.zip vs.toArray).toList=ks.zip vs:=by simp
 have kso:UE (R.kind s.heap) (ks.toArray.zip vs.toArray):=λp hp=>by
  rw[hz2]at hp;obtain⟨ns,r⟩:=hk p.1 (Ry hp).1;exact⟨ns,RK.key_of r⟩
 refine Pu (Cd (κ:=R.kind s.heap) (k0:=tuples' ZC) (o:=ks.toArray.zip vs.toArray) (st:=SortSt.mk' (tuples' ZC) (ks.toArray.zip vs.toArray) #[] 7 ZB)
  (Q:=λ_ st'=>(arrOf st').Perm (ks.toArray.zip vs.toArray)/\SJ st'=ZB/\Pj (R.kind s.heap) (arrOf st') (ks.toArray.zip vs.toArray).size) (λE x y a b Q hx hy q=>R.lt hu (RK.ME hx) (RK.ME hy) q) kso ⟨TQ _,rfl,rfl,rfl⟩
  (by rw[hz];omega) (by rw[hz];exact h64) λst' a1 a2 a3=>⟨a1,a2,a3⟩) ?_ λ_ _ e=>e
 rintro ⟨⟨⟩,st'⟩ s' ⟨rfl,hp,hf,hs⟩
 obtain⟨g1,g2⟩:=out3 hp hs;exact q st' hf (by rw[<-hz2];exact g1) g2
theorem ls3{h0:ZH}(hu:A.units+60<cLine)(ho:s.heap.get? a=ZA (seqObj "list" vs.toArray n))(ext:∀b o,h0.get? b=ZA o->b≠a/\s.heap.get? b=ZA o)(hv:∀v∈vs,∃ns,R.V h0 v ns)(h64:vs.length<64)
  (q:∀out:Array NA,out.toList.Perm vs->(out.toList.map (R.row h0)).Pairwise (λa b=>jf a b=ZC)->P (.done (.ret .none)) {s with heap:=Q9 s.heap a vs out}):
  ZJ (ZK prog w) A (Builtin.«list.sort» ⟨[.ref a],[]⟩) P E s:=by
 rw[WA]
 have ha:=NJ ho;refine Nq (R8 ho rfl (Nq (RJ ho rfl ?_)))
 have ho1:=WB ho (λ_=>#[])
 generalize hm:(if (#[]:Array NA).size == vs.toArray.size then n else n+1)=m at ho1
 refine Nq (Sy ho1 rfl (Nq (Rh (Nq (Tt (OJ ?_))))))
 generalize hh:((s.heap.update a (P8 λ_=>#[])).push (seqObj "tuple" vs.toArray 0)).push (seqObj "list" #[] 0)=h6
 have old:∀b,b<s.heap.objs.size->h6.get? b=(s.heap.update a (P8 λ_=>#[])).get? b:=λb hb=>by
  rw[<-hh,Qv _ _ _ (by rw[size_push',PP];exact Oh (Pr hb)),Qv _ _ _ (by rw[PP];exact Oh hb)]
 have ho6:h6.get? a=ZA (seqObj "list" #[] m):=(old a ha).trans ho1
 have hrow:∀v ns,R.V h0 v ns->R.V h6 v ns:=λv ns r=>R.on r λb o e=>by
  obtain⟨nb,e'⟩:=ext b o e;rw[old b (NJ e'),Ss _ _ _ _ nb]
  exact e'
 have hv6:∀v∈vs,∃ns,R.V h6 v ns:=λv hm=>let ⟨ns,r⟩:=hv v hm;⟨ns,hrow v ns r⟩
 have hrk:∀v∈vs,R.row h6 v=R.row h0 v:=λv hm=>by
  obtain⟨ns,r⟩:=hv v hm;rw[RK.Ms r,RK.Ms (hrow v ns r)]
 have fin:∀xs:Array VA,xs.toList.Perm (vs.zip vs)->(xs.toList.map λp=>R.row h6 p.1).Pairwise (λa b=>jf a b=ZC)->(xs.map (·.2)).size<=ZI+1/\P (.done (.ret .none)) {s with heap:=h6.update a (P8 λ_=>xs.map (·.2))}:=λxs hp hs=>by
  have e:(xs.map (·.2)).toList=xs.toList.map (·.1):=by
   rw[V2];exact N6 λp hp'=>(VP (hp.mem_iff.mp hp')).1.symm
  have g1:(xs.map (·.2)).toList.Perm vs:=by
   rw[e]
   have:=hp.map (·.1)
   rwa [V3 (NL _)]at this
  refine⟨?_,?_⟩
  ·have:=g1.length_eq
   rw[Ob]at this;rw[this,O9];omega
  ·have g2:((xs.map (·.2)).toList.map (R.row h0)).Pairwise (λa b=>jf a b=ZC):=by
    rw[N6 λv hm=>(hrk v (g1.mem_iff.mp hm)).symm,e,Oo]
    exact hs
   have:=q _ g1 g2;unfold Q9 at this;rw[hh]at this;exact this
 show ZJ (ZK prog w) A _ P E {s with heap:=h6}
 dsimp only
 by_cases h2:vs.toArray.size<2
 ·rw[if_pos h2,if_pos h2]
  obtain⟨f1,f2⟩:=fin (pairsOf vs) (by rw[SV]) (by
   have:(pairsOf vs).toList.length<=1:=by rw[SV,List.length_zip,VG];rw[NP]at h2;omega
   generalize (pairsOf vs).toList=l at this
   match l,this with
   |[],_=>exact SX
   |[x],_=>exact List.pairwise_singleton _ _)
  refine Nq (Nz ?_)
  rw[Wo];refine Nq (Nz ?_)
  dsimp only
  refine Nq (Sy ho6 rfl (Nq (RJ ho6 rfl ?_ (hsz2:=f1))))
  simp only[bne_self_eq_false,N8,if_false];exact Nz f2
 ·rw[if_neg h2,if_neg h2]
  rw[NP]at h2;refine Nq (kk3 (R:=R) hv6 (λz=>by subst z;exact h2 (by decide)) ?_)
  refine Nq (Pu (run3 (R:=R) (s:={s with heap:=h6}) (Q:=λst' s'=>s'= {s with heap:=h6}/\SJ st'=ZB/\(arrOf st').toList.Perm (vs.zip vs)/\((arrOf st').toList.map λp=>R.row h6 p.1).Pairwise (λa b=>jf a b=ZC)) hu rfl hv6 (by omega) h64 λst' hf hp hs=>⟨rfl,hf,hp,hs⟩) (λr s' ⟨es,hf,hp,hs⟩=>?_) λ_ _ e=>e)
  subst es;obtain⟨f1,f2⟩:=fin _ hp hs;refine Nq (Sy ho6 rfl (Nq (RJ ho6 rfl ?_ (hsz2:=f1))))
  rw[hf];simp only[bne_self_eq_false,N8,if_false];exact Nz f2
theorem Fd{I:ZE}(hu:A.units+65<cLine)(hc:∀A':Os,A'.handled=A.handled->ZJ (ZK prog w) A' (collect (.ref I)) (λvs s1=>(∀v∈vs,∃ns,R.V s1.heap v ns)/\vs.length<64 ∧
   ∀out:Array NA,out.toList.Perm vs->(out.toList.map (R.row s1.heap)).Pairwise (λa b=>jf a b=ZC)->Q (.ref s1.heap.objs.size) {s1 with heap:=Q9 (s1.heap.push (seqObj "list" vs.toArray 0)) s1.heap.objs.size vs out}) E s):
  ZJ (ZK prog w) A (call (.builtin "sorted") [.ref I]) Q E s:=by
 refine SM kind_sorted plain_sorted entry_sorted (args_sorted1 _) ?_
 unfold Builtin.«sorted»;refine Nq (m:=checkCount "sorted" 1 1 _) (Nz (Nq (Pu (hc _ ?_) (λvs s1 ⟨hv,h64,q⟩=>Nq (Tt ?_)) λ_ _ e=>e)))
 ·rfl
 have hoL:(s1.heap.push (seqObj "list" vs.toArray 0)).get? s1.heap.objs.size=ZA (seqObj "list" vs.toArray 0):=NI _ rfl
 show ZJ (ZK prog w) _ _ _ _ {s1 with heap:=s1.heap.push (seqObj "list" vs.toArray 0)}
 refine Nq (OJ (Ol slot_list_sort ⟨_,hoL,rfl⟩ WC (ls3 (R:=R) (h0:=s1.heap) (s:={s1 with heap:=s1.heap.push (seqObj "list" vs.toArray 0)}) ?_ hoL (λb o e=>⟨Oh (NJ e),Nr _ e⟩) hv h64 λout g1 g2=>⟨_,rfl,?_⟩) (args_list_sort _)))
 ·show A.units+1+1+60<cLine
  omega
 exact Nz ⟨_,rfl,q out g1 g2⟩
end Tr
namespace Tr
def Ke:List T->Rs T
 |[.lst l,.tup m] =>if iV l=ZC/\l.length=m.length/\1<=l.length/\l.length<=1000 then .ok (.dct (gW (l.zip m) ([],[])).1 (gW (l.zip m) ([],[])).2)else .bad
 |_=>.bad
end Tr
namespace PySem
open Sem (wp)
namespace F
def zk_keys:Qw (.type "zip") "keys" =pure ZB:=by rw[Q1,PJ];kernel_rfl
def zk_ga:Qw (.type "zip") "__getattr__" =pure ZB:=by rw[Q1,PJ];kernel_rfl
def zk_entry:entryFor table "zip.__getattribute__" =ZA Builtin.«object.__getattribute__»:=
 entryFor_alias (id':="object.__getattribute__") (by kernel_rfl) (by first|rfl|decide+kernel| (unfold String.splitOn;simp+decide [String.splitOnAux])) (by decide+kernel) (by kernel_rfl)
end F
abbrev zO(h:ZH)(z ti to:ZE)(f0 f1:NA):Prop:=h.get? z=ZA {cls:=.type "zip",dict:=ZB,data:=.fields #[f0,f1,.bool ZD,.ref ti,.ref to],slots:=#[]}
variable{Q:Option NA->NB->Prop}{h:ZH}{tk:Tok}
section
variable {g:Array GenState}{d:Drawn}{t:Nat}{z ti to:ZE}{f0 f1:NA}
def zk1{Q:Fin->NB->Prop}(hx:zO h z ti to f0 f1)(hh:A.handled=ZB)(hq:∀h' tk' e,Sr h h' e (.ref z) "keys"->E (.ref e) ⟨h',g,d,tk',os⟩):
  ZJ (ZK prog w) A (Builtin.«object.__getattribute__» ⟨[.ref z,.str "keys" tk],[]⟩) Q E ⟨h,g,d,t,os⟩:=by
 have hT:(⟨h,g,d,t,os⟩:NB).TypeIs (.ref z) "zip":=⟨_,hx,rfl⟩
 have f4:=F.zk_keys
 repeat (any_goals (first|assumption|wp_step))
 exact UA hh (λh' tk e hx=>hq h' tk e hx) (attrMsg_fits (by decide+kernel) (by rw[O9];decide))
def zk2(hx:zO h z ti to f0 f1)(hh:A.handled=ZB)(hq:∀h' tk' e,Sr h h' e (.ref z) "keys"->R (.error (.ref e)) ⟨h',g,d,tk',os⟩):
  ZL (ZK prog w) A (.call (.builtin "zip.__getattribute__") ⟨[.ref z,.str "keys" tk],[]⟩) R ⟨h,g,d,t,os⟩:=
 UB QH.plain F.zk_entry (QH.check _ _ _ _ _ _ _ _ (show(⟨h,g,d,t,os⟩:NB).TypeIs (.ref z) "zip" from⟨_,hx,rfl⟩) (F.args_zip_getattribute_2 _ _) (zk1 hx hh hq))
def zk3(hx:zO h z ti to f0 f1)(hh:A.handled=ZB)(hq:∀h' tk',(∀b o,h.get? b=ZA o->h'.get? b=ZA o)->Q ZB ⟨h',g,d,tk',os⟩):ZJ (ZK prog w) A (getAttr? (.ref z) "keys") Q E ⟨h,g,d,t,os⟩:=by
 have hT:∀tk,(⟨h,g,d,tk,os⟩:NB).TypeIs (.ref z) "zip":=λ_=>⟨_,hx,rfl⟩
 have f1:=Vf
 have f2:=QH.lookup
 have f3:=QH.bind (.ref z)
 have f5:=F.zk_ga;unfold getAttr? getAttrBy? getAttrBy
 repeat (any_goals (first|assumption|exact hT _|wp_step))
 refine zk2 hx hh λh' tk' e hx'=>?_
 obtain⟨t',u',he⟩:=hx'.there
 repeat (any_goals (first|assumption|exact hT _|wp_step))
 exact hq _ _ hx'.keeps
end
structure Zp (h:ZH)(n l1 t2 k:Nat)(xs ys:Array NA):Prop where
 b1:l1<n
 b2:t2<n
 pr:P6 h (n+2) (.ref n) (.ref (n+1))
 i1:h.IsListIter n l1 k
 i2:h.IsTupleIter (n+1) t2 k
 s1:h.IsList l1 xs
 s2:h.IsTuple t2 ys
variable{h':ZH}{xs:Array NA}
def ij{a:ZE}(x:h.IsTuple a xs)(e:∀o,h.get? a=ZA o->h'.get? a=ZA o):h'.IsTuple a xs:=let ⟨o,ho,r⟩:=x;⟨o,e _ ho,r⟩
variable{ys:Array NA}
def Zp.keep{k:Nat}(q:Zp h n l1 t2 k xs ys)(e:∀c o,c<n+3->h.get? c=ZA o->h'.get? c=ZA o):Zp h' n l1 t2 k xs ys where
 b1:=q.b1
 b2:=q.b2
 pr:=e _ _ (by omega) q.pr
 i1:=q.i1.at λo=>e _ o (by omega)
 i2:=q.i2.at λo=>e _ o (by omega)
 s1:=q.s1.at λo=>e _ o (by have:=q.b1;omega)
 s2:=ij q.s2 λo=>e _ o (by have:=q.b2;omega)
section
variable {k:Nat}{y:NA}
def vO{a:ZE}{Q:Option Obj->NB->Prop}(q:Q (s.heap.get? a) s):ZJ (ZK prog w) A (loadIfAlive a) Q E s:=λΓ p _=>by
 show Sem.wp _ _ (Sem.loadIfAlive a pure) _ _ _ _
 rw[Sem.wp_loadIfAlive];exact q
end
variable{ob:Obj}
section
variable {k:Nat}{y:NA}
def bL{b:Nat}(h:a<b\/b<a):a≠b:=by omega
def Zp.one(q:Zp h n l1 t2 k xs ys)(i:h'.IsListIter n l1 (k+1))(e:QU n h h'):h'.IsTupleIter (n+1) t2 k/\h'.IsList l1 xs/\h'.IsTuple t2 ys/\P6 h' (n+2) (.ref n) (.ref (n+1)):=by
 have b1:=q.b1
 have b2:=q.b2;exact⟨q.i2.at λo g=>e.extBut _ _ (bL (by omega)) g,q.s1.at λo g=>e.extBut _ _ (bL (by omega)) g,ij q.s2 λo g=>e.extBut _ _ (bL (by omega)) g,e.extBut _ _ (bL (by omega)) q.pr⟩
def lX{T:ZE}{Q:Bool->NB->Prop}(kz:zO s.heap (n+4) (n+2) (n+3) (rawInt T) (.bool f))(kT:s.heap.get? T=ZA ob)
  (hk:∀h',zO h' (n+4) (n+2) (n+3) (rawInt T) (.bool ZC)->(∀c o,c≠n+4->s.heap.get? c=ZA o->h'.get? c=ZA o)->h'.objs.size=s.heap.objs.size->Q ZD {s with heap:=h'}):ZJ (ZK prog w) A (NO (.ref (n+4))) Q E s:=by
 unfold NO;refine Nq (Of kz rfl (x:=rawInt T) rfl ?_)
 show ZJ _ _ (loadIfAlive (Int.toNat (T:Int)) >>= _) _ _ _
 rw[ON];refine Nq (vO ?_)
 rw[kT]
 show ZJ _ _ (field (.ref (n+4)) 1 >>= _) _ _ _
 refine Nq (Of kz rfl (x:=.bool f) rfl ?_)
 cases f with
 |true=>
  rw[if_neg (by decide)]
  exact Nz (hk _ kz (λ_ _ _ e=>e) rfl)
 |false=>
  rw[if_pos (by decide)]
  refine Nq (O6 kz (by simp) λh₁ kz₁ hs₁=>Nz (hk h₁ kz₁ (λc o c1 e=>hs₁.extBut _ _ c1 e) hs₁.1))
def BZ{T:ZE}{Q:W1}(q:Zp s.heap n l1 t2 k xs ys)(kz:zO s.heap (n+4) (n+2) (n+3) (rawInt T) (.bool f))(kT:s.heap.get? T=ZA ob)(hx:xs[k]?=ZA x)(hy:ys[k]?=ZA y)
  (kq:∀h' p,s.heap.objs.size<=p->P6 h' p x y->zO h' (n+4) (n+2) (n+3) (rawInt T) (.bool ZC)->Zp h' n l1 t2 (k+1) xs ys->(∀c o,c≠n->c≠n+1->c≠n+4->s.heap.get? c=ZA o->h'.get? c=ZA o)->Q (.ref p) {s with heap:=h'}):
  ZJ (ZK prog w) A (Builtin.«zip.__next__» ⟨[.ref (n+4)],[]⟩) (λfin s'=>∃v,fin=.done (.ret v)/\Q v s') E s:=by
 have b1:=q.b1
 have b2:=q.b2
 show ZJ _ _ (field (.ref (n+4)) 2 >>= _) _ _ _
 refine Nq (Of kz rfl (x:=.bool ZD) rfl ?_)
 show ZJ _ _ (field (.ref (n+4)) 3 >>= _) _ _ _
 refine Nq (Of kz rfl (x:=.ref (n+2)) rfl ?_)
 refine Nq (Oz q.pr rfl ?_)
 show ZJ _ _ (NO (.ref (n+4)) >>= _) _ _ _
 refine Nq (lX kz kT λh₁ kz₁ e₁ z₁=>?_)
 have q₁:Zp h₁ n l1 t2 k xs ys:=q.keep λc o hc g=>e₁ c o (by omega) g
 simp only[N8,if_false,RF,Pl,Pw];refine Nq (Nq (Nq (OJ ?_)))
 show ZJ _ _ (NT (.ref n) >>= _) _ _ _
 refine Nq (RQ q₁.i1 q₁.s1 hx λh₂ g₂ e₂=>Nz ?_)
 obtain⟨r1,r2,r3,r4⟩:=q₁.one g₂ e₂;refine Nz (Nq (Nq (OJ ?_)))
 show ZJ _ _ (NT (.ref (n+1)) >>= _) _ _ _
 refine Nq (Enu.tupNext r1 r3 hy λh₃ g₃ e₃=>Nz (Nz (Nz ?_)))
 show ZJ _ _ (newTuple [x,y] >>= _) _ _ _
 refine Nq (Rh (Nz ⟨_,rfl,?_⟩))
 have z₃:h₃.objs.size=s.heap.objs.size:=by rw[e₃.1,e₂.1,z₁]
 have up:∀c o,c≠n->c≠n+1->h₁.get? c=ZA o->(h₃.push {cls:=.type "tuple",data:=.seq #[x,y]}).get? c=ZA o:=λc o c1 c2 g=>Nr _ (e₃.extBut _ _ c2 (e₂.extBut _ _ c1 g))
 refine kq _ h₃.objs.size (PV z₃.symm) (NI _ rfl) (up _ _ (bL (by omega)) (bL (by omega)) kz₁) ⟨b1,b2,up _ _ (bL (by omega)) (bL (by omega)) q₁.pr,?_,?_,?_,?_⟩ λc o c1 c2 c4 g=>up c o c1 c2 (e₁ c o c4 g)
 ·exact g₂.at λo g=>Nr _ (e₃.extBut _ _ (bL (by omega)) g)
 ·exact g₃.at λo g=>Nr _ g
 ·exact q₁.s1.at λo g=>up _ o (bL (by omega)) (bL (by omega)) g
 ·exact ij q₁.s2 λo g=>up _ o (bL (by omega)) (bL (by omega)) g
def AO{a b:NA}{Q:W1}(q:Zp s.heap n l1 t2 k xs ys)(kz:zO s.heap (n+4) (n+2) (n+3) .none (.bool ZD))(ho:P6 s.heap (n+3) a b)(hx:xs[k]?=ZA x)(hy:ys[k]?=ZA y)
  (kq:∀h' p,s.heap.objs.size<=p->P6 h' p x y->zO h' (n+4) (n+2) (n+3) (rawInt p) (.bool ZD)->Zp h' n l1 t2 (k+1) xs ys->(∀c o,c≠n->c≠n+1->c≠n+3->c≠n+4->s.heap.get? c=ZA o->h'.get? c=ZA o)->Q (.ref p) {s with heap:=h'}):
  ZJ (ZK prog w) A (Builtin.«zip.__next__» ⟨[.ref (n+4)],[]⟩) (λfin s'=>∃v,fin=.done (.ret v)/\Q v s') E s:=by
 have b1:=q.b1
 have b2:=q.b2
 show ZJ _ _ (field (.ref (n+4)) 2 >>= _) _ _ _
 refine Nq (Of kz rfl (x:=.bool ZD) rfl ?_)
 show ZJ _ _ (field (.ref (n+4)) 3 >>= _) _ _ _
 refine Nq (Of kz rfl (x:=.ref (n+2)) rfl ?_)
 refine Nq (Oz q.pr rfl ?_)
 show ZJ _ _ (NO (.ref (n+4)) >>= _) _ _ _
 have fr:ZJ (ZK prog w) A (NO (.ref (n+4))) (λv s'=>v=ZC/\s'=s) E s:=by
  unfold NO;exact Nq (Of kz rfl (x:=.none) rfl (Nz ⟨rfl,rfl⟩))
 refine Nq (Pu fr (λv s' hv=>?_) λ_ _ z=>z)
 obtain⟨rfl,rfl⟩:=hv;simp only[if_true];refine Nq (Qa (Nq (Of kz rfl (x:=.ref (n+3)) rfl (Nq (O6 kz (by simp) λh₁ kz₁ e₁=>?_)))))
 replace kz₁:zO h₁ (n+4) (n+2) (n+3) .ellipsis (.bool ZD):=kz₁
 have q₁:Zp h₁ n l1 t2 k xs ys:=q.keep λc o hc g=>e₁.extBut c o (bL (by omega)) g
 simp only[Sb,RD,Pl,Pw];refine Nq (Nq (Nq (RL ?_)))
 show ZJ _ _ (NT (.ref n) >>= _) _ _ _
 refine Nq (RQ q₁.i1 q₁.s1 hx λh₂ g₂ e₂=>Nz ?_)
 obtain⟨r1,r2,r3,r4⟩:=q₁.one g₂ e₂
 have o₂:P6 h₂ (n+3) a b:=e₂.extBut _ _ (bL (by omega)) (e₁.extBut _ _ (bL (by omega)) ho)
 refine Nq (Oz o₂ rfl (Nq (Qo o₂ λh₃ o₃ e₃=>Nq (Tu (Nz ?_)))))
 replace o₃:P6 h₃ (n+3) x b:=o₃
 refine Nq (Nq (RL ?_))
 show ZJ _ _ (NT (.ref (n+1)) >>= _) _ _ _
 refine Nq (Enu.tupNext (r1.at λo g=>e₃.extBut _ _ (bL (by omega)) g) (ij r3 λo g=>e₃.extBut _ _ (bL (by omega)) g) hy λh₄ g₄ e₄=>Nz ?_)
 have o₄:P6 h₄ (n+3) x b:=e₄.extBut _ _ (bL (by omega)) o₃
 refine Nq (Oz o₄ rfl (Nq (Qo o₄ λh₅ o₅ e₅=>Nq (Tu (Nz (Nz ?_))))))
 replace o₅:P6 h₅ (n+3) x y:=o₅
 refine Nq (Oz o₅ rfl (Nq (Rh ?_)))
 have z₅:h₅.objs.size=s'.heap.objs.size:=by rw[e₅.1,e₄.1,e₃.1,e₂.1,e₁.1]
 have up:∀c o,c≠n->c≠n+1->c≠n+3->h₁.get? c=ZA o->h₅.get? c=ZA o:=λc o c1 c2 c3 g=>e₅.extBut _ _ c3 (e₄.extBut _ _ c2 (e₃.extBut _ _ c3 (e₂.extBut _ _ c1 g)))
 show ZJ _ _ (Ph (.ref (n+4)) (.ref h₅.objs.size) >>= _) _ _ _
 have z5:zO (h₅.push {cls:=.type "tuple",data:=.seq #[x,y]}) (n+4) (n+2) (n+3) .ellipsis (.bool ZD):=Nr _ (up _ _ (bL (by omega)) (bL (by omega)) (bL (by omega)) kz₁)
 have hn:n+4<h₅.objs.size:=NJ (up _ _ (bL (by omega)) (bL (by omega)) (bL (by omega)) kz₁)
 refine Nq ?_
 unfold Ph;refine Nq (O6 z5 (by simp) λh₇ z₇ e₇=>?_)
 replace z₇:zO h₇ (n+4) (n+2) (n+3) (rawInt h₅.objs.size) (.bool ZD):=z₇
 refine O6 z₇ (by simp) λh₈ z₈ e₈=>Nz ⟨_,rfl,?_⟩
 replace z₈:zO h₈ (n+4) (n+2) (n+3) (rawInt h₅.objs.size) (.bool ZD):=z₈
 have up8:∀c o,c≠n+4->h₅.get? c=ZA o->h₈.get? c=ZA o:=λc o c1 g=>e₈.extBut _ _ c1 (e₇.extBut _ _ c1 (Nr _ g))
 refine kq h₈ h₅.objs.size (PV z₅.symm) (e₈.extBut _ _ (bL (by omega)) (e₇.extBut _ _ (bL (by omega)) (NI _ rfl))) z₈ ⟨b1,b2,up8 _ _ (bL (by omega)) (up _ _ (bL (by omega)) (bL (by omega)) (bL (by omega)) q₁.pr),?_,?_,?_,?_⟩ λc o c1 c2 c3 c4 g=>up8 c o c4 (up c o c1 c2 c3 (e₁.extBut _ _ c4 g))
 ·exact g₂.at λo g=>up8 _ _ (bL (by omega)) (e₅.extBut _ _ (bL (by omega)) (e₄.extBut _ _ (bL (by omega)) (e₃.extBut _ _ (bL (by omega)) g)))
 ·exact g₄.at λo g=>up8 _ _ (bL (by omega)) (e₅.extBut _ _ (bL (by omega)) g)
 ·exact q₁.s1.at λo g=>up8 _ _ (bL (by omega)) (up _ o (bL (by omega)) (bL (by omega)) (bL (by omega)) g)
 ·exact ij q₁.s2 λo g=>up8 _ _ (bL (by omega)) (up _ o (bL (by omega)) (bL (by omega)) (bL (by omega)) g)
def BY{T:ZE}{Q:Fin->NB->Prop}(hh:A.handled=ZB)(q:Zp s.heap n l1 t2 k xs ys)(kz:zO s.heap (n+4) (n+2) (n+3) (rawInt T) (.bool f))(kT:s.heap.get? T=ZA ob)(hx:xs[k]?=ZB)
  (ke:∀h' e,(∀c o,c≠n->c≠n+4->s.heap.get? c=ZA o->h'.get? c=ZA o)->(∃o,h'.get? e=ZA o/\o.cls=.type "StopIteration")->E (.ref e) {s with heap:=h'}):
  ZJ (ZK prog w) A (Builtin.«zip.__next__» ⟨[.ref (n+4)],[]⟩) Q E s:=by
 show ZJ _ _ (field (.ref (n+4)) 2 >>= _) _ _ _
 refine Nq (Of kz rfl (x:=.bool ZD) rfl ?_)
 show ZJ _ _ (field (.ref (n+4)) 3 >>= _) _ _ _
 refine Nq (Of kz rfl (x:=.ref (n+2)) rfl ?_)
 refine Nq (Oz q.pr rfl ?_)
 show ZJ _ _ (NO (.ref (n+4)) >>= _) _ _ _
 refine Nq (lX kz kT λh₁ kz₁ e₁ z₁=>?_)
 have q₁:Zp h₁ n l1 t2 k xs ys:=q.keep λc o hc g=>e₁ c o (by omega) g
 simp only[N8,if_false,RF,Pl,Pw];refine Nq (Nq (Nq (OJ ?_)))
 show ZJ _ _ (NT (.ref n) >>= _) _ _ _
 exact Nq (Uj hh q₁.i1 q₁.s1 hx λh₂ e e₂ he=>ke h₂ e (λc o c1 c4 g=>e₂ _ _ c1 (e₁ c o c4 g)) he)
def ER{T:ZE}(q:Zp s.heap n l1 t2 k xs ys)(kz:zO s.heap (n+4) (n+2) (n+3) (rawInt T) (.bool f))(kT:s.heap.get? T=ZA ob)(hx:xs[k]?=ZA x)(hy:ys[k]?=ZA y)
  (kq:∀h' p,s.heap.objs.size<=p->P6 h' p x y->zO h' (n+4) (n+2) (n+3) (rawInt T) (.bool ZC)->Zp h' n l1 t2 (k+1) xs ys->(∀c o,c≠n->c≠n+1->c≠n+4->s.heap.get? c=ZA o->h'.get? c=ZA o)->Q (ZA (.ref p)) {s with heap:=h'}):
  ZJ (ZK prog w) A (pyNext (.ref (n+4))) Q E s:=by
 have hy':s.TypeIs (.ref (n+4)) "zip":=⟨_,kz,rfl⟩;unfold pyNext;exact Nq (Qh (Og (name:=NM "__next__") hy' O8 (Ol O8 hy' Rl (BZ q kz kT hx hy λh' p a1 a2 a3 a4 a5=>Nz (kq h' p a1 a2 a3 a4 a5)) (Q4 _))))
def BX{a b:NA}(q:Zp s.heap n l1 t2 k xs ys)(kz:zO s.heap (n+4) (n+2) (n+3) .none (.bool ZD))(ho:P6 s.heap (n+3) a b)(hx:xs[k]?=ZA x)(hy:ys[k]?=ZA y)
  (kq:∀h' p,s.heap.objs.size<=p->P6 h' p x y->zO h' (n+4) (n+2) (n+3) (rawInt p) (.bool ZD)->Zp h' n l1 t2 (k+1) xs ys->(∀c o,c≠n->c≠n+1->c≠n+3->c≠n+4->s.heap.get? c=ZA o->h'.get? c=ZA o)->Q (ZA (.ref p)) {s with heap:=h'}):
  ZJ (ZK prog w) A (pyNext (.ref (n+4))) Q E s:=by
 have hy':s.TypeIs (.ref (n+4)) "zip":=⟨_,kz,rfl⟩;unfold pyNext;exact Nq (Qh (Og (name:=NM "__next__") hy' O8 (Ol O8 hy' Rl (AO q kz ho hx hy λh' p a1 a2 a3 a4 a5=>Nz (kq h' p a1 a2 a3 a4 a5)) (Q4 _))))
def EO{T:ZE}(hh:A.handled=ZB)(q:Zp s.heap n l1 t2 k xs ys)(kz:zO s.heap (n+4) (n+2) (n+3) (rawInt T) (.bool f))(kT:s.heap.get? T=ZA ob)(hx:xs[k]?=ZB)
  (kq:∀h',(∀c o,c≠n->c≠n+4->s.heap.get? c=ZA o->h'.get? c=ZA o)->Q ZB {s with heap:=h'}):ZJ (ZK prog w) A (pyNext (.ref (n+4))) Q E s:=by
 have hy':s.TypeIs (.ref (n+4)) "zip":=⟨_,kz,rfl⟩;unfold pyNext;refine Nq (Qh (Og (name:=NM "__next__") hy' O8 (Ol O8 hy' Rl (BY hh q kz kT hx λh' e a1 he=>?_) (Q4 _))))
 obtain⟨o,ho,hc⟩:=he;exact Nq (Se (T:="StopIteration") (b:=ZC) ⟨o,ho,hc⟩ SU (Nz (kq _ a1)))
def ES{f0 f1:NA}{Q:W1}(kz:zO s.heap (n+4) (n+2) (n+3) f0 f1)(h:Q (.ref (n+4)) s):ZJ (ZK prog w) A (pyIter (.ref (n+4))) Q E s:=by
 have hy':s.TypeIs (.ref (n+4)) "zip":=⟨_,kz,rfl⟩;refine S8 hy' Su (Ol Su hy' V4 ?_ (Vs _))
 show ZJ _ _ (ret (.ref (n+4))) _ _ s
 exact Nz ⟨_,rfl,"zip",_,hy',O8.lookup,h⟩
end
abbrev Kg(h:ZH)(l t:ZE):ZH:=h.push {cls:=.type "list_iterator",data:=.fields #[.ref l,.int 0 0]}
abbrev L5(h:ZH)(l t:ZE):ZH:=(Kg h l t).push {cls:=.type "tuple_iterator",data:=.fields #[.ref t,.int 0 0]}
abbrev L4(h:ZH)(l t:ZE):ZH:=(L5 h l t).push {cls:=.type "tuple",data:=.seq #[.ref h.objs.size,.ref (Kg h l t).objs.size]}
abbrev L3(h:ZH)(l t:ZE):ZH:=(L4 h l t).push {cls:=.type "tuple",data:=.seq #[.none,.none]}
abbrev G4(h:ZH)(l t:ZE):ZH:=(L3 h l t).push {cls:=.type "zip",data:=.fields #[.none,.bool ZD,.bool ZD,.ref (L5 h l t).objs.size,.ref (L4 h l t).objs.size]}
def Bb(l t:ZE)(xs ys:Array NA):Meets (Builtin.«zip.__new__» ⟨[.type "zip",.ref l,.ref t],[]⟩) (λ_ R s=>s.heap.IsList l xs/\s.heap.IsTuple t ys/\R (.ok (.ret (.ref (L3 s.heap l t).objs.size))) {s with heap:=G4 s.heap l t}):=
 .of_wp λprog w A R s q=>by
  obtain⟨hp,g,d,tk,os⟩:=s;obtain⟨a1,a2,q⟩:=q
  have k0:=sub_zip
  have k1:Heap.IsList (Tc ⟨hp,g,d,tk,os⟩) l xs:=a1
  have k2:Heap.IsTuple (Tc ⟨Kg hp l t,g,d,tk,os⟩) t ys:=ij a2 λo e=>Nr _ e
  wp_walk using Q7 k1,Qe k2
  exact⟨_,rfl,q⟩
def ET{l t:ZE}{Q:W1}(a1:s.heap.IsList l xs)(a2:s.heap.IsTuple t ys)
  (q:∀h',Zp h' s.heap.objs.size l t 0 xs ys->zO h' (s.heap.objs.size+4) (s.heap.objs.size+2) (s.heap.objs.size+3) .none (.bool ZD)->P6 h' (s.heap.objs.size+3) .none .none->h'.objs.size=s.heap.objs.size+5 →
   (∀c o,s.heap.get? c=ZA o->h'.get? c=ZA o)->Q (.ref (s.heap.objs.size+4)) {s with heap:=h'}):
  ZJ (ZK prog w) A (call (.type "zip") [.ref l,.ref t]) Q E s:=by
 refine VO F.called_zip (by decide) (V5 _ _) (Wp _ _) (λobj=>Ux obj _ _) Wq (Bb l t xs ys) ⟨a1,a2,?_⟩
 have z1:(Kg s.heap l t).objs.size=s.heap.objs.size+1:=Ov ..
 have z2:(L5 s.heap l t).objs.size=s.heap.objs.size+2:=by rw[Ov,z1]
 have z3:(L4 s.heap l t).objs.size=s.heap.objs.size+3:=by rw[Ov,z2]
 have z4:(L3 s.heap l t).objs.size=s.heap.objs.size+4:=by rw[Ov,z3]
 have z5:(G4 s.heap l t).objs.size=s.heap.objs.size+5:=by rw[Ov,z4]
 have g5:(G4 s.heap l t).get? (L3 s.heap l t).objs.size=ZA _:=NI _ rfl
 have g4:(G4 s.heap l t).get? (L4 s.heap l t).objs.size=ZA _:=Nr _ (NI _ rfl)
 have g3:(G4 s.heap l t).get? (L5 s.heap l t).objs.size=ZA _:=Nr _ (Nr _ (NI _ rfl))
 have g2:(G4 s.heap l t).get? (Kg s.heap l t).objs.size=ZA _:=Nr _ (Nr _ (Nr _ (NI _ rfl)))
 have g1:(G4 s.heap l t).get? s.heap.objs.size=ZA _:=Nr _ (Nr _ (Nr _ (Nr _ (NI _ rfl))))
 have up:∀c o,s.heap.get? c=ZA o->(G4 s.heap l t).get? c=ZA o:=λc o e=>Nr _ (Nr _ (Nr _ (Nr _ (Nr _ e))))
 show _/\_
 rw[z2,z3,z4]at g5;rw[z1,z2]at g3;rw[z3]at g4;rw[z1]at g2;rw[z4]
 have lt1:l<s.heap.objs.size:=by obtain⟨o,e,_⟩:=a1;exact NJ e
 have lt2:t<s.heap.objs.size:=by obtain⟨o,e,_⟩:=a2;exact NJ e
 exact⟨⟨_,g5,rfl⟩,q _ ⟨lt1,lt2,g3,⟨_,g1,rfl,rfl⟩,⟨_,g2,rfl,rfl⟩,a1.at λo e=>up _ o e,ij a2 λo e=>up _ o e⟩ g5 g4 z5 up⟩
end PySem
namespace Tr
open PySem PySem.Spec PyProof.Rows L2
def ZAt(H:Hp):List V->List V->List (List Key×V)->Prop
 |[],[],ps=>ps=[]
 |x::xs,y::ys,ps=>∃kb p r,ps=p::r/\x=.ref kb/\H kb=ZA (.tup (p.1.map kV))/\p.2=y/\ZAt H xs ys r
 |_,_,_=>False
variable{H:Hp}
theorem ZAt.mono{H':Hp}(h:∀b vs,H b=ZA (.tup vs)->H' b=ZA (.tup vs)):∀{xs ys:List V}{ps:List (List Key×V)},ZAt H xs ys ps->ZAt H' xs ys ps
 |[],[],_,z=>z
 |[],_::_,_,z=>z
 |_::_,[],_,z=>z
 |x::xs,y::ys,_,⟨kb,p,r,e1,e2,e3,e4,e5⟩=>⟨kb,p,r,e1,e2,h _ _ e3,e4,e5.mono h⟩
theorem ZAt.len:∀{xs ys:List V}{ps:List (List Key×V)},ZAt H xs ys ps->xs.length=ys.length
 |[],[],_,_=>rfl
 |[],_::_,_,z=>z.elim
 |_::_,[],_,z=>z.elim
 |x::xs,y::ys,_,⟨kb,p,r,e1,e2,e3,e4,e5⟩=>by rw[ND,ND,e5.len]
variable{X:Cx}{bv:W2}{σ:L2.St}
section
variable {d it:ZE}
def Aw{Ex:ZH->Prop}{kvs:List (List Key×V)}{kb:ZE}{kk:List Key}{v:V}(hu:A.units+3<cLine)(hd:H d=ZA (.dT kvs))(hz:kvs.length<1000)(hk:H kb=ZA (.tup (kk.map kV)))
  (hn:∀{Q:Option NA->NB->Prop}{E:W1},(∀h' p u2,Inv X bv σ H {s with heap:=h'}->P6 h' p (.ref kb) u2->RelV v u2->Ex h'->Q (ZA (.ref p)) {s with heap:=h'})->ZJ (ZK X.prog X.w) A.in1 (pyNext (.ref it)) Q E s)
  (nx:∀h' h2 tk,Ex h'->(∀c,c≠d->h2.get? c=h'.get? c)->Inv X bv σ (upd H d (.dT (cN kvs kk v))) {s with heap:=h2,toks:=tk}->ZL (ZK X.prog X.w) A (.builtin "dict.update.loop" ⟨[.ref d,.ref it,rawInt ((i+1:Nat):Int),res],[]⟩) R {s with heap:=h2,toks:=tk}):
  ZL (ZK X.prog X.w) A (.builtin "dict.update.loop" ⟨[.ref d,.ref it,rawInt (i:Nat),res],[]⟩) R s:=by
 refine P4 F.entry_dict_update_loop ?_
 rw[Pd F.plain_dict_update_loop _]
 show ZJ _ A.in1 (pyNext (.ref it) >>= _) _ _ s
 refine Nq (hn λh' p u2 I1 hp q2 hx=>?_)
 show ZJ _ A.in1 (holding [NQ p] _ >>= _) _ _ _
 refine Nq (OJ (Nq (wpAny_tryCatch ?_)))
 unfold TH;refine Nq (Qg (s:={s with heap:=h'}) (T:="tuple") ⟨_,hp,rfl⟩ ?_)
 rw[if_pos (by decide)]
 refine Nq (Oz (s:={s with heap:=h'}) hp rfl (Nz ?_))
 show ZJ _ _ (holding [NQ kb,u2] (dictSet d (.ref kb) u2)) _ _ _
 refine OJ ?_
 obtain⟨zz,hds,xs2,rel,dd⟩:=Av I1.hok hd
 have hzl:xs2.length<=ZI:=by rw[<-Rw rel];exact zz
 have hkl:kvs.length<ZI:=by rw[O9];omega
 have hl2:(cN kvs kk v).length<=ZI:=by have:=d6 kvs kk v;omega
 refine Vg (hsz:=hzl) (Qi (by show A.units+1<cLine;omega)) (key_of I1.hok hk) dd λh2 dd2 hs2=>?_
 obtain⟨q,es,ep,hq,h22,h3,h4,_,h5⟩:=dd2
 have I2:Inv X bv σ (upd H d (.dT (cN kvs kk v))) {s with heap:=h2,toks:=s.toks+(R5 (cp X.prog X.w)).draws kk}:=
  kP (s:={s with heap:=h'}) I1 (by rw[hd];exact PZ) hs2 ⟨q,hq⟩ ⟨hl2,hds,_,(rel.put kk hk q2).keeps λc ys ec=>by rw[aG (j5 ec hd (λz=>nomatch z))];exact ec,q,es,ep,hq,h22,h3,h4,h5⟩
 have hcast:(i:Int)+1=((i+1:Nat):Int):=by omega
 refine Nz ⟨QK F.plain_dict_update_loop _,?_⟩
 rw[hcast];exact nx h' h2 _ hx (λc hc=>hs2.2 c hc) I2
def JZ(hn:∀{Q:Option NA->NB->Prop}{E:W1},(∀h',R (.ok (.ret res)) {s with heap:=h'}->Q ZB {s with heap:=h'})->ZJ (ZK X.prog X.w) A.in1 (pyNext (.ref it)) Q E s):
  ZL (ZK X.prog X.w) A (.builtin "dict.update.loop" ⟨[.ref d,.ref it,rawInt (i:Nat),res],[]⟩) R s:=by
 refine P4 F.entry_dict_update_loop ?_
 rw[Pd F.plain_dict_update_loop _]
 show ZJ _ A.in1 (pyNext (.ref it) >>= _) _ _ s
 refine Nq (hn λh' hr=>?_)
 show ZJ _ _ (SY d [] >>= _) _ _ _
 exact Nq (Nz (Nz hr))
def EU{us ws:Array NA}{xs ys:List V}{T:ZE}(hh:A.handled=ZB)(hu:A.units+3<cLine)(rx:Vals xs us.toList)(ry:Vals ys ws.toList)(hTn:n+4<T)(hTd:T≠d):∀(k i:Nat)(s:NB)(H:Hp)(kvs ps:List (List Key×V))(f:Bool)(ob:Obj),xs.length - i=k->i<=xs.length->H d=ZA (.dT kvs)->kvs.length+(xs.length - i)<=1000 →
  Inv X bv σ H s->Zp s.heap n l1 t2 i us ws->zO s.heap (n+4) (n+2) (n+3) (rawInt T) (.bool f)->s.heap.get? T=ZA ob->(∀j:Nat,j<5->mQ X bv H (n+j))->l1≠d->t2≠d->ZAt H (xs.drop i) (ys.drop i) ps →
  (∀s',Inv X bv σ (upd H d (.dT (eE kvs ps))) s'->R (.ok (.ret res)) s')->ZL (ZK X.prog X.w) A (.builtin "dict.update.loop" ⟨[.ref d,.ref (n+4),rawInt i,res],[]⟩) R s:=by
 have lenx:=rx.length
 have leny:=ry.length;intro k
 induction k with
 |zero=>
  intro i s H kvs ps f ob hk hi hd hz I q kz kT hf hl1 ht2 hp hR
  have hnil:xs.drop i=[]:=QQ (by omega)
  have hny:ys.drop i=[]:=by
   have:=hp.len;rw[hnil]at this;exact RE.mp this.symm
  rw[hnil,hny]at hp;unfold ZAt at hp;subst hp
  have e2:upd H d (.dT (eE kvs []))=H:=by
   funext b
   by_cases hb:b=d
   ·rw[hb,aI,hd];rfl
   ·rw[aG hb]
  rw[e2]at hR;refine JZ λ{Q E} hq=>EO hh q kz kT (by rw[RP];rw[<-Ob];omega) λh' e=>hq h' (hR _ ?_)
  exact I.KB (fp:=[n,n+4]) (t':=s.toks) (λb hb=>by
   simp only[NG,Ox,or_false]at hb;rcases hb with rfl|rfl
   ·exact hf 0 (by omega)
   ·exact hf 4 (by omega)) λb o hb eb=>e b o (λz=>hb (by rw[z];simp)) (λz=>hb (by rw[z];simp)) eb
 |succ k ih=>
  intro i s H kvs ps f ob hk hi hd hz I q kz kT hf hl1 ht2 hp hR
  have hlt:i<xs.length:=by omega
  have hdx:xs.drop i=xs[i] ::xs.drop (i+1):=Px hlt
  have hyl:i<ys.length:=by
   have:=hp.len;rw[QL,QL]at this;omega
  have hdy:ys.drop i=ys[i] ::ys.drop (i+1):=Px hyl;rw[hdx,hdy]at hp;obtain⟨kb,p,r,rfl,ex,hkb,ep,hp'⟩:=hp;obtain⟨u1,q1,q2⟩:=rx.get (NF hlt)
  obtain⟨u2,q3,q4⟩:=ry.get (NF hyl)
  rw[R0]at q1 q3
  rw[ex]at q2;obtain rfl:u1=NQ kb:=q2;rw[<-ep]at q4
  have hd0:∀j:Nat,j<5->n+j≠d:=λj hj z=>by have:=(hf j hj).1;rw[z,hd]at this;cases this
  refine Aw (bv:=bv) (σ:=σ) (Ex:=λh'=>Zp h' n l1 t2 (i+1) us ws/\zO h' (n+4) (n+2) (n+3) (rawInt T) (.bool ZC)/\h'.get? T=ZA ob) hu hd (by omega) hkb (λ{Q E} hq=>ER q kz kT q1 q3 λh' b _ a2 a3 a4 a5=>hq h' b u2 ?_ a2 q4 ⟨a4,a3,a5 _ _ (bL (by omega)) (bL (by omega)) (bL (by omega)) kT⟩) λh1 h2 tk hx3 e2 I2=>?_
  ·exact I.KB (fp:=[n,n+1,n+4]) (t':=s.toks) (λb hb=>by
    simp only[NG,Ox,or_false]at hb;rcases hb with rfl|rfl|rfl
    ·exact hf 0 (by omega)
    ·exact hf 1 (by omega)
    ·exact hf 4 (by omega)) λb o hb eb=>a5 b o (λz=>hb (by rw[z];simp)) (λz=>hb (by rw[z];simp)) (λz=>hb (by rw[z];simp)) eb
  ·obtain⟨x1,x2,x3⟩:=hx3
   have lt1:=x1.b1
   have lt2:=x1.b2
   have x1':Zp h2 n l1 t2 (i+1) us ws:=⟨x1.b1,x1.b2,(e2 _ (hd0 2 (by omega))).trans x1.pr,x1.i1.at λo g=>(e2 _ (hd0 0 (by omega))).trans g,x1.i2.at λo g=>(e2 _ (hd0 1 (by omega))).trans g,x1.s1.at λo g=>(e2 _ hl1).trans g,ij x1.s2 λo g=>(e2 _ ht2).trans g⟩
   refine ih (i+1) _ (upd H d (.dT (cN kvs p.1 p.2))) (cN kvs p.1 p.2) r ZC ob (by omega) (by omega) aI (by have:=d6 kvs p.1 p.2;omega) I2 x1' ((e2 _ (hd0 4 (by omega))).trans x2) ((e2 _ hTd).trans x3) (λj hj=>⟨by rw[aG (hd0 j hj)];exact(hf j hj).1,(hf j hj).2⟩) hl1 ht2 (hp'.mono λb vs e=>by rw[aG (j5 e hd (λz=>nomatch z))];exact e) λs' I'=>?_
   rw[i6]at I';exact hR s' I'
end
section
variable {us ws:Array NA}{xs ys:List V}{ps:List (List Key×V)}
def GP(hh:A.handled=ZB)(hu:A.units+8<cLine)(I:Inv X bv σ H s)(q:Zp s.heap n l1 t2 0 us ws)(kz:zO s.heap (n+4) (n+2) (n+3) .none (.bool ZD))(ko:P6 s.heap (n+3) .none .none)
  (hf:∀j:Nat,j<5->mQ X bv H (n+j)) (rx:Vals xs us.toList) (ry:Vals ys ws.toList) (h1:1<=xs.length) (hz:xs.length<=1000) (hp:ZAt H xs ys ps)
  (h:∀p s',Nw X.K H p->Inv X bv σ (upd H p (.dT (eE [] ps))) s'->Q (.ref p) s'):ZJ (ZK X.prog X.w) A (call (.type "dict") [.ref (n+4)]) Q E s:=by
 have hk:X.K.lookup s.heap.objs.size=ZB:=by
  cases q:X.K.lookup s.heap.objs.size with
  |none=>rfl
  |some o=>exact absurd (NJ (I.kIn _ o q)) (N4 _)
 have hn:H s.heap.objs.size=ZB:=I.hok.fresh (NL _)
 have z4:n+4<s.heap.objs.size:=NJ kz
 have b1:=q.b1
 have b2:=q.b2;refine callType_codes (Q₁:=λobj s₁=>obj=.ref s.heap.objs.size/\s₁= {s with heap:=s.heap.push {cls:=.type "dict",data:=.dict #[]}}) V0 (Uv _) Vq (Wa _ ⟨rfl,rfl⟩) ?_
 rintro obj s₁ ⟨rfl,rfl⟩
 have I1:Inv X bv σ (upd H s.heap.objs.size (.dT [])) {s with heap:=s.heap.push {cls:=.type "dict",data:=.dict #[]}}:=I.laid (a:=s.heap.objs.size) (o:=.dT []) (t':=s.toks) (λ_ _ q=>Nr _ q) (NL _) (qB s.heap I.big)
 have hT:({s with heap:=s.heap.push {cls:=.type "dict",data:=.dict #[]}}:NB).TypeIs (.ref s.heap.objs.size) "dict":=⟨_,NI _ rfl,rfl⟩
 have kz1:zO (s.heap.push {cls:=.type "dict",data:=.dict #[]}) (n+4) (n+2) (n+3) .none (.bool ZD):=Nr _ kz
 refine⟨hT,UZ _ _,?_⟩
 unfold Builtin.«dict.__init__»;refine Nq ?_
 unfold SZ;refine Nq (R6 hT ?_)
 show ZJ _ _ (pure (s.heap.objs.size,[NQ (n+4)])) _ _ _
 refine Nz ?_
 show ZJ _ _ (QB "dict.__init__" s.heap.objs.size (.ref (n+4)) [] .none) _ _ _
 unfold QB;refine Nq (Qg (T:="zip") ⟨_,kz1,rfl⟩ ?_)
 rw[if_pos (by decide)]
 refine Nq (zk3 kz1 hh λh' tk' kp=>?_)
 have I2:Inv X bv σ (upd H s.heap.objs.size (.dT [])) {s with heap:=h',toks:=tk'}:=I1.kept (t':=tk') kp
 have up:∀c o,s.heap.get? c=ZA o->h'.get? c=ZA o:=λc o e=>kp c o (Nr _ e)
 rw[if_pos (by rfl)]
 refine Nq (Qa ?_)
 have kz2:zO h' (n+4) (n+2) (n+3) .none (.bool ZD):=up _ _ kz;refine Nq (ES (s:={s with heap:=h',toks:=tk'}) kz2 ?_)
 refine Nz ⟨QK F.plain_dict_update_loop _,?_⟩
 have q2:Zp h' n l1 t2 0 us ws:=q.keep λc o _ e=>up c o e
 have hsz:s.heap.objs.size<h'.objs.size:=NJ (kp _ _ (NI _ rfl))
 have hf2:∀j:Nat,j<5->mQ X bv (upd H s.heap.objs.size (.dT [])) (n+j):=λj hj=>⟨by rw[aG (bL (by omega))];exact(hf j hj).1,(hf j hj).2⟩
 obtain⟨x,xs',rfl⟩:∃x xs',xs=x::xs':=by
  cases xs with
  |nil=>simp at h1
  |cons x xs'=>exact⟨x,xs',rfl⟩
 obtain⟨y,ys',rfl⟩:∃y ys',ys=y::ys':=by
  cases ys with
  |nil=>exact hp.elim
  |cons y ys'=>exact⟨y,ys',rfl⟩
 obtain⟨kb,p,r,rfl,ex,hkb,ep,hp'⟩:=hp;obtain⟨u1,v1,v2⟩:=rx.get (i:=0) rfl;obtain⟨u2,v3,v4⟩:=ry.get (i:=0) rfl;rw[R0]at v1 v3
 rw[ex]at v2;obtain rfl:u1=NQ kb:=v2;rw[<-ep]at v4;rw[ND]at hz
 have tupk:∀(o:List (List Key×V)) b vs,H b=ZA (.tup vs)->upd H s.heap.objs.size (.dT o) b=ZA (.tup vs):=λo b vs e=>by rw[aG (λz=>by rw[z,hn]at e;cases e)];exact e
 refine Aw (A:=A.in1) (X:=X) (bv:=bv) (σ:=σ) (i:=0) (kvs:=[]) (Ex:=λh1=>Zp h1 n l1 t2 1 us ws/\∃T ob,h'.objs.size<=T/\zO h1 (n+4) (n+2) (n+3) (rawInt T) (.bool ZD)/\h1.get? T=ZA ob) (by show A.units+1+3<cLine;omega) aI (by simp) (tupk _ _ _ hkb)
  (λ{Q E} hq=>BX q2 kz2 (up _ _ ko) v1 v3 λh1 b a1 a2 a3 a4 a5=>hq h1 b u2 ?_ a2 v4 ⟨a4,b,_,a1,a3,a2⟩) λh1 h2 tk hx3 e2 I3=>?_
 ·exact I2.KB (fp:=[n,n+1,n+3,n+4]) (t':=tk') (λb hb=>by
   simp only[NG,Ox,or_false]at hb;rcases hb with rfl|rfl|rfl|rfl
   ·exact hf2 0 (by omega)
   ·exact hf2 1 (by omega)
   ·exact hf2 3 (by omega)
   ·exact hf2 4 (by omega)) λb o hb eb=>a5 b o (λz=>hb (by rw[z];simp)) (λz=>hb (by rw[z];simp)) (λz=>hb (by rw[z];simp)) (λz=>hb (by rw[z];simp)) eb
 ·obtain⟨x1,T,ob,hTs,x2,x3⟩:=hx3
  have hd0:∀j:Nat,j<5->n+j≠s.heap.objs.size:=λj hj=>bL (by omega)
  have x1':Zp h2 n l1 t2 1 us ws:=⟨x1.b1,x1.b2,(e2 _ (hd0 2 (by omega))).trans x1.pr,x1.i1.at λo g=>(e2 _ (hd0 0 (by omega))).trans g,x1.i2.at λo g=>(e2 _ (hd0 1 (by omega))).trans g,x1.s1.at λo g=>(e2 _ (bL (by omega))).trans g,ij x1.s2 λo g=>(e2 _ (bL (by omega))).trans g⟩
  rw[i6]at I3;refine EU (A:=A.in1) (X:=X) (bv:=bv) (σ:=σ) (xs:=x::xs') (ys:=y::ys') (T:=T) hh (by show A.units+1+3<cLine;omega) rx ry (by omega) (bL (by omega)) xs'.length 1 _ (upd H s.heap.objs.size (.dT (cN [] p.1 p.2))) (cN [] p.1 p.2) r ZD ob (by rw[ND];omega) (by rw[ND];omega) aI (by rw[ND];show 1+_<=1000;omega) I3 x1' ((e2 _ (hd0 4 (by omega))).trans x2) ((e2 _ (bL (by omega))).trans x3) (λj hj=>⟨by rw[aG (hd0 j hj)];exact(hf j hj).1,(hf j hj).2⟩) (bL (by omega)) (bL (by omega)) (hp'.mono (tupk _)) λs' I'=>?_
  rw[i6]at I';exact⟨rfl,h _ _ ⟨hn,hk⟩ I'⟩
theorem G5{O:Ow}:∀{l m:List T}{xs ys:List V},iV l=ZC->l.length=m.length->Reps K O H l xs->Reps K O H m ys->∃ps,ZAt H xs ys ps/\LS K O H (l.zip m) ps
 |[],[],xs,ys,_,_,r1,r2=>by cases Reps.AC.mp r1;cases Reps.AC.mp r2;exact⟨[],rfl,rfl⟩
 |[],_::_,_,_,_,h,_,_=>by simp at h
 |_::_,[],_,_,_,h,_,_=>by simp at h
 |a::l,b::m,xs,ys,hk,h,r1,r2=>by
  obtain⟨v,vs,rfl,p1,q1⟩:=Reps.me.mp r1;obtain⟨w,ws,rfl,p2,q2⟩:=Reps.me.mp r2;unfold iV at hk;rw[NC]at hk;obtain⟨kk,ek⟩:=Qr.mp hk.1;obtain⟨ps,g1,g2⟩:=G5 hk.2 (by simpa using h) q1 q2
  obtain⟨kb,f5,f6⟩:=gC ek p1;exact⟨(kk,w)::ps,⟨kb,(kk,w),ps,rfl,f5,f6,rfl,g1⟩,⟨(kk,w),ps,rfl,ek,p2,g2⟩⟩
end
section
variable {a b:ZG}{fs:W3}{p p1 p2 pos:Pos}
def IE(hu:X.A.units+8<cLine)(hc:X.calm=ZC)(hm:X.mg "dict" =ZB)(hmz:X.mg "zip" =ZB)(ha:tD X [a,b] fs)(hst:autoParam (bP [a,b]=ZC) u_)(hg:autoParam (Gl X "dict") u_)(hgz:autoParam (Gl X "zip") u_):
  cQ X (.Call (.Name "dict" p) [.Call (.Name "zip" p1) [a,b] [] p2] [] pos) (cl Ke fs):=by
 intro bv s σ H Q I ⟨Z,O,Ev,hq⟩
 have e1:NZ [PU (.Name "zip" p1) [a,b] [] p2] X.env=(ZD,eval (.Call (.Name "zip" p1) [a,b] [] p2) X.env)::NZ [] X.env:=bo rfl;unfold bP at hst;rw[NC]at hst
 have e2:NZ [a,b] X.env=(ZD,eval a X.env)::NZ [b] X.env:=bo hst.1;refine OS (fR I hg hm (show Oq "dict" =ZA (.type "dict")by decide+kernel) ?_ (by decide) (by decide))
 refine On ?_ e1 rfl
 rw[e1];refine Qb ?_
 refine OS (fR I hgz hmz (show Oq "zip" =ZA (.type "zip")by decide+kernel) ?_ (by decide) (by decide))
 refine On (cF (ha p2 bv s σ H _ I (fq Ev hq)) λus s1 ⟨vs,H1,I1,r1,ts,rs,s',E',q1⟩=>?_) e2 (gJ hst.2)
 unfold Ke at q1
 split at q1
 ·rename_i l m
  by_cases hz:iV l=ZC/\l.length=m.length/\1<=l.length/\l.length<=1000
  ·rw[if_pos hz]at q1
   obtain⟨v1,vs1,rfl,ra,rb⟩:=Reps.me.mp rs;obtain⟨v2,rfl,rc⟩:=rb.one;obtain⟨c1,xs,rfl,_,hx,rx⟩:=Rep.Do.mp ra;obtain⟨c2,ys,rfl,_,hy,ry⟩:=Rep.Fk.mp rc
   cases r1 with
   |cons w1 w2=>
    obtain⟨u2,rfl,w3⟩:=Vals.one w2;cases w1;obtain rfl:u2=NQ c2:=w3;obtain⟨z,its,n,rv,hlen,e⟩:=I1.Mq hx;obtain⟨z2,its2,r2,ob,hob1,hob2,nb,hob3⟩:=(show ObjOk X.prog X.w H1 s1.heap c2 (.tup ys)from I1.hok c2 _ hy)
    refine ET (xs:=its.toArray) (ys:=its2.toArray) ⟨_,e,rfl,n,rfl⟩ ⟨ob,hob1,hob2,nb,hob3⟩ λh' g1 g2 g3 g4 g5=>?_
    refine Qq ?_
    have I2:Inv X bv σ H1 {s1 with heap:=h'}:=I1.kept (t':=s1.toks) g5
    obtain⟨ps,k1,k2⟩:=G5 hz.1 hz.2.1 rx ry;refine GP (I2.ok.hd hc) hu I2 g1 g2 g3 (λj hj=>I1.Mw (by omega) (I1.hok.fresh (by omega))) rv r2 (by rw[<-rx.length];exact hz.2.2.1) (by rw[<-rx.length];exact hz.2.2.2) k1 λq s' nw I'=>⟨.ref q,_,I',rfl,q1 _ (aW nw.1 _) _ ?_⟩
    obtain⟨d1,d2⟩:=nA (ks:=[]) (ts:=[]) (kvs:=[]) k2 rfl Reps.nil_ PX;exact Rep.Gc.mpr ⟨q,_,rfl,E'.fresh nw.1,.inl aI,d1,d2.same (aW nw.1 _)⟩
  ·rw[if_neg hz]at q1;exact q1.elim
 ·exact q1.elim
end
def tY(i j:Nat)(src:List (Option Nat))(tgt:T->En->Rs En)(fc:W6)(fe:W5)(Z:En):Rs Fl:=match Z[i]? with
 |some (.ow (.dct _ _))=>match ee (iD (vr i)) src tgt fc fe (disown i Z)with
  |.ok t=>if t.nk ZC=ZC/\j<Z.length then .ok (.nx (Z.set j (.va t)))else .bad
  |_=>.bad
 |_=>.bad
end Tr
namespace PySem
open Sem (wp)
variable{Q:Option NA->NB->Prop}
section
variable {d it:ZE}{ob:Obj}{es:Array R4}
def Gj{Q:W1}(k0:(d == P9)=ZD)(k1:s.heap.get? d=ZA ob)(k2:ob.ExactDict)(k3:ob.data=.dict es ep)
  (q:Q (.ref s.heap.objs.size) {s with heap:=s.heap.push {cls:=.type "dict_keyiterator",data:=.fields #[.ref d,.int 0 0,.int es.size 0,.int ep 0]}}):ZJ (ZK prog w) A (pyIter (.ref d)) Q E s:=by
 have ty:s.TypeIs (.ref d) "dict":=⟨ob,k1,k2.1⟩;refine S8 ty V6 (Ol V6 ty F.entry_dict_iter ?_ (F.args_dict_iter_1 _))
 unfold Builtin.«dict.__iter__» Builtin.Dict.dictSlotNone;refine Nq (Nq (R6 ty ?_))
 show ZJ _ _ (pure (NQ d)) _ _ s
 refine Nz ?_
 show ZJ _ _ (TR d >>= _) _ _ s
 unfold TR;rw[if_neg (by rw[k0];exact N3)]
 refine Nq (Nz (Nq (S9 k1 k3 (Nq (Uk k1 k3 ?_)))))
 refine Nq (OR (Nz ⟨_,rfl,"dict_keyiterator",_,⟨_,NI _ rfl,rfl⟩,Pk.lookup,?_⟩))
 simpa [rawInt]using q
def Gk{e:R4}(ki:s.heap.IsKeyIter it d i es.size ep)(k1:s.heap.get? d=ZA ob)(k3:ob.data=.dict es ep)(ke:es[i]?=ZA e)
  (q:∀h',h'.IsKeyIter it d (i+1) es.size ep->QU it s.heap h'->Q (ZA e.key) {s with heap:=h'}):ZJ (ZK prog w) A (pyNext (.ref it)) Q E s:=by
 obtain⟨oi,g1,g2,g3⟩:=id ki;unfold pyNext;refine Nq (Qh (Og (name:=NM "__next__") ki.typeIs Pk (Ol Pk ki.typeIs Sd ?_ (R1 _))))
 refine Nq (Nz (Nq (Nq ?_)))
 first|refine Nq (PQ ki.typeIs (Nz ?_))|refine Nq (Qx ki.typeIs (Nz ?_))
 refine Nq (wpAny_fieldsOf g1 g3 ?_)
 have own:Sh "dict_keyiterator" =ZD:=by decide
 simp only[own,N8,if_false]
 show ZJ _ _ (if (NQ d == OA)=ZC then _ else _) _ _ s
 rw[if_neg (show ¬((NQ d == OA)=ZC)from N3)]
 refine Nq (Nz (Nq (S9 k1 k3 ?_)))
 rw[if_neg (by simp)]
 refine Nq (Nz (Nq (Uk k1 k3 ?_)))
 rw[if_neg (by simp)]
 refine Nz ?_
 simp only[show ¬((i:Int)<0)from by omega,if_false,ON,ke]
 refine Nq ?_
 first|refine Nq (PQ ki.typeIs (Nz ?_))|refine Nq (Qx ki.typeIs (Nz ?_))
 refine Nq (Ul ki.typeIs ?_)
 show ZJ _ _ (setField (.ref it) 1 (rawInt ((i:Int)+1)) >>= _) _ _ s
 refine Nq (SR g1 g3 (by simp) ?_)
 have ki':(s.heap.update it (Obj.mapFields (·.setIfInBounds 1 (rawInt ((i:Int)+1))))).IsKeyIter it d (i+1) es.size ep:=
  ⟨_,QY _ g1 (TX (RC g3 _)),(Vn ..).trans g2,by rw[RC g3];simp[rawInt]⟩
 refine Nq (OJ (Nq (Ul (s:={s with heap:=s.heap.update it (Obj.mapFields (·.setIfInBounds 1 (rawInt ((i:Int)+1))))}) ki'.typeIs ?_)))
 show ZJ _ _ (pure e.key) _ _ _
 exact Nz (Nz ⟨_,rfl,Nz (q _ ki' (Rm ..))⟩)
def Ju(hh:A.handled=ZB)(ki:s.heap.IsKeyIter it d i es.size ep)(k1:s.heap.get? d=ZA ob)(k3:ob.data=.dict es ep)(ke:es.size<=i)
  (q:∀h',UH it s.heap h'->Q ZB {s with heap:=h'}):ZJ (ZK prog w) A (pyNext (.ref it)) Q E s:=by
 obtain⟨oi,g1,g2,g3⟩:=id ki;unfold pyNext;refine Nq (Qh (Og (name:=NM "__next__") ki.typeIs Pk (Ol Pk ki.typeIs Sd ?_ (R1 _))))
 refine Nq (Nz (Nq (Nq ?_)))
 first|refine Nq (PQ ki.typeIs (Nz ?_))|refine Nq (Qx ki.typeIs (Nz ?_))
 refine Nq (wpAny_fieldsOf g1 g3 ?_)
 have own:Sh "dict_keyiterator" =ZD:=by decide
 simp only[own,N8,if_false]
 show ZJ _ _ (if (NQ d == OA)=ZC then _ else _) _ _ s
 rw[if_neg (show ¬((NQ d == OA)=ZC)from N3)]
 refine Nq (Nz (Nq (S9 k1 k3 ?_)))
 rw[if_neg (by simp)]
 refine Nq (Nz (Nq (Uk k1 k3 ?_)))
 rw[if_neg (by simp)]
 refine Nz ?_
 simp only[show ¬((i:Int)<0)from by omega,if_false,ON,RP ke]
 refine Nq ?_
 first|refine Nq (PQ ki.typeIs (Nz ?_))|refine Nq (Qx ki.typeIs (Nz ?_))
 show ZJ _ _ (setField (.ref it) 0 .none >>= _) _ _ s
 refine Nq (SR g1 g3 (by simp) ?_)
 show ZJ _ _ (newExc (.type "StopIteration") [] >>= _) _ _ _
 refine Nq ?_
 simp only[newExc,newTuple];refine Nq (OR ?_ (by size_fits))
 refine Nq (m:=SS _ _) (wpAny_of_eq (a:=OA) (by first|rfl| (simp only[SS];rfl)) (OR ?_ (by size_fits)))
 simp only[raiseNew];refine Nq (wpAny_handled ?_)
 rw[show A.in1.handled=ZB from hh]
 refine Nq (Nz (wpAny_throw ?_))
 refine Nq (Se (T:="StopIteration") (b:=ZC) ⟨_,NI _ rfl,rfl⟩ SU ?_)
 exact Nz (q _ (((Rm ..).extBut.push _).push _))
end
end PySem
namespace Tr
open PySem PySem.Spec PyProof.Rows L2
variable{H:Hp}{X:Cx}{d:ZE}{es:Array R4}{kvs:List (List Key×V)}{ob:Obj}{tg:ZG}
section
variable {bv:W2}{σ:L2.St}
def yW(I:Inv X bv σ H s)(hd:H d=ZA (.dT kvs))(ho:s.heap.get? d=ZA ob):Inv X bv σ (upd H d (.frz ob (.dT kvs))) s:=by
 have x:ObjOk X.prog X.w H s.heap d (.dT kvs):=I.hok d _ hd
 have ne:∀b (u:HO),H b=ZA u->(∀k,u≠ .dT k)->b≠d:=λb u e hu z=>by rw[z,hd]at e;cases e;exact hu _ rfl
 exact kP (h':=s.heap) (t':=s.toks) (ob:=.frz ob (.dT kvs)) I (by rw[hd];exact PZ) (Vk ..) ⟨ob,ho⟩ ⟨ho,x.Mm (λb u _ e=>e) (λb e=>by rw[aG (ne b _ e (λ_ z=>nomatch z))];exact e) λb xs e=>by rw[aG (ne b _ e (λ_ z=>nomatch z))];exact e⟩
def DH(I:Inv X bv σ H s)(hd:H d=ZA (.frz ob (.dT kvs)))(h0:∀o u,X.H₀ d≠ZA (.frz o u)):Inv X bv σ (upd H d (.dT kvs)) s:=by
 have ne:∀b,H b=ZB->b≠d:=λb e z=>by rw[z,hd]at e;cases e
 have ne2:∀b (u:HO),H b=ZA u->(∀o k,u≠ .frz o k)->b≠d:=λb u e hu z=>by rw[z,hd]at e;cases e;exact hu _ _ rfl
 have up:∀b (u:HO),H b=ZA u->b≠d->upd H d (.dT kvs) b=ZA u:=λb u e z=>by rw[aG z];exact e
 have un:∀b,H b=ZB->upd H d (.dT kvs) b=ZB:=λb e=>by rw[aG (ne b e)];exact e
 have x:ObjOk X.prog X.w H s.heap d (.frz ob (.dT kvs)):=I.hok d _ hd
 have ow:∀c b,H b=ZA (.own c)->upd H d (.dT kvs) b=ZA (.own c):=λc b e=>up b _ e (ne2 b _ e (λ_ _ z=>nomatch z))
 have tu:∀b xs,H b=ZA (.tup xs)->upd H d (.dT kvs) b=ZA (.tup xs):=λb xs e=>up b _ e (ne2 b _ e (λ_ _ z=>nomatch z))
 refine⟨I.ok,I.os,I.bare,⟨I.base.keep,I.base.slot,λb o e n hx=>un b (I.base.free b o e n hx),I.base.there,λb xs e=>tu b xs (I.base.tups b xs e),λb o u e=>?_,λb ps e=>?_⟩,I.loc,I.cell,un _ I.free,λy c e=>un _ (I.freeC y c e),λp hp=>?_,λa u e=>?_,I.len⟩
 ·exact up b _ (I.base.frzs b o u e) λz=>h0 o u (z▸e)
 ·obtain⟨more,q⟩:=I.base.tbls b ps e
  exact⟨more,up b _ q (ne2 b _ q (λ_ _ z=>nomatch z))⟩
 ·obtain⟨p1,p2,p3⟩:=I.pin p hp
  exact⟨p1,un _ p2,p3⟩
 ·by_cases ha:a=d
  ·subst ha
   rw[aI]at e;cases e;exact x.2.Mm (λb u _ e=>e) (ow a) tu
  ·rw[aG ha]at e
   exact(I.hok a u e).Mm (λb u _ e=>e) (ow a) tu
def Mi(d:ZE)(ob:Obj)(es:Array R4):It where
 go:=λi H=>∃kvs,H d=ZA (.frz ob (.dT kvs))/\i<kvs.length
 yld:=λi H x H'=>H'=H/\∃e b,es[i]?=ZA e/\e.key=.ref b/\x=.ref b
 stop:=λi H=>∃kvs,H d=ZA (.frz ob (.dT kvs))/\kvs.length<=i
def u7{h:ZH}(x:ObjOk P w H h d (.frz ob (.dT kvs)))(hx:ob.data=.dict es ep):h.get? d=ZA ob/\ob.ExactDict/\(d == P9)=ZD/\es.size=kvs.length/\∀(i:Nat) p,kvs[i]?=ZA p->∃e b,es[i]?=ZA e/\e.key=.ref b/\H b=ZA (.tup (p.1.map kV)):=by
 obtain⟨e1,z,y,xs,r,o',es',ep',e2,ex,e3,e4,nd⟩:=x;rw[e1]at e2;cases e2;rw[hx]at e3;cases e3
 have hl:es.size=xs.length:=by rw[<-Ob,e4,Ny]
 refine⟨e1,ex,y,by rw[hl,Rw r],λi p hp=>?_⟩
 have key:∀{ks:List (List Key×V)}{xs:List (List Key×ZE×NA)},Wt (λ(p:List Key×V)(q:List Key×ZE×NA)=>p.1=q.1/\H q.2.1=ZA (.tup (p.1.map kV))/\RelV p.2 q.2.2) ks xs->∀{i:Nat} {p},ks[i]?=ZA p->∃q,xs[i]?=ZA q/\H q.2.1=ZA (.tup (p.1.map kV)):=by
  intro ks xs r
  induction r with
  |nil=>intro i p h;simp at h
  |cons a _ ih=>
   intro i p h
   cases i with
   |zero=>simp only[Tf,RS]at h ⊢;subst h;exact⟨_,rfl,a.2.1⟩
   |succ i=>simp only[Pn]at h ⊢;exact ih h
 obtain⟨q,hq,hb⟩:=key r hp;refine⟨entryOfKey (R5 (cp P w)) q,q.2.1,?_,rfl,hb⟩
 rw[<-R0,e4,NU,hq]
 rfl
def yd{it:ZE}(hx:ob.data=.dict es ep):BE P w K tg (Mi d ob es) [it] it (λi h=>h.IsKeyIter it d i es.size ep) where
 mem:=by simp
 obj:=λi h st b hb=>by
  have e:b=it:=by simpa using hb
  subst e;obtain⟨o,e,c,d⟩:=st;exact⟨o,e,λv z=>by rw[d]at z;cases z⟩
 keep:=λi h h' st k=>st.at λo e=>k it (by simp) o e
 item:=by
  intro X hP hw hK hc i bv s σ H E I hf st hg;subst hP hw hK;obtain⟨kvs,hq,hi⟩:=hg;obtain⟨f0,f1,f2,f3,f4,f5⟩:=hf it (by simp)
  obtain⟨e1,ex,_,sz,at_⟩:=u7 (I.hok d _ hq) hx;obtain⟨e,b,ge,ek,_⟩:=at_ i kvs[i] (NF hi)
  refine Gk st e1 hx ge λh' st' sb=>?_
  have I1:Inv X bv σ H {s with heap:=h'}:=I.turned (t':=s.toks) (λb o hb e=>(sb.2 b hb).trans e) f0 f1 f3 f4 f5
  obtain⟨o,eo,c,dd⟩:=id st';exact⟨e.key,rfl,Ap (s:={s with heap:=h'}) eo c dd (by decide) ⟨.ref b,H,I1,ek,⟨rfl,e,b,ge,ek,rfl⟩,st',λb hb=>(hf b hb).1⟩⟩
 done:=by
  intro X hP hw hK hc i bv s σ H E I hf st hg;subst hP hw hK;obtain⟨kvs,hq,hi⟩:=hg;obtain⟨f0,f1,f2,f3,f4,f5⟩:=hf it (by simp)
  obtain⟨e1,ex,_,sz,_⟩:=u7 (I.hok d _ hq) hx;exact Ju (I.ok.hd hc) st e1 hx (by omega) λh' eb=>⟨rfl,I.turned (t':=s.toks) (λb o hb e=>eb b o hb e) f0 f1 f3 f4 f5⟩
 self:=λ_ _ _ _ _ st h=>wpAny_pyIter_keyiter st h
def iDF(d:ZE)(ob:Obj)(es:Array R4)(te:TE):TI:=λσ H R=>te σ H λx H1=>x=.ref d/\(∃kvs,H1 d=ZA (.frz ob (.dT kvs)))/\R (Mi d ob es) H1
def CK{l:ZG}{te:TE}(hx:ob.data=.dict es ep)(hl:PE X l te):PI X tg l (iDF d ob es te):=by
 intro bv s σ H R I h;refine cF (hl bv s σ H _ I h) λv s1 hh_=>?_
 obtain⟨x,H1,I1,r1,q1⟩:=hh_;obtain⟨e,⟨kvs,hq⟩,q⟩:=q1;subst e;obtain rfl:v=NQ d:=r1;obtain⟨e1,ex,y,sz,_⟩:=u7 (I1.hok d _ hq) hx;refine Gj y e1 ex hx ⟨s1.heap.objs.size,[s1.heap.objs.size],_,_,H1,rfl,I1.kept (t':=s1.toks) λb o e=>Nr _ e,yd hx,⟨_,NI _ rfl,rfl,rfl⟩,λb hb=>?_,q⟩
 have e:b=s1.heap.objs.size:=by simpa using hb
 subst e;exact I1.Mw (NL _) (I1.hok.fresh (NL _))
end
variable{O:Ow}
theorem nV:∀{l:List T}{kk:List Key},lP l=ZA kk->Reps K O H l (kk.map kV)
 |[],kk,h=>by cases h;exact Reps.nil_
 |t::l,kk,h=>by
  unfold lP at h
  split at h
  ·rename_i k r hk hr
   cases h;refine Reps.FM ?_ (nV hr)
   cases t with
   |int i=>cases hk;exact Rep.GE i
   |str x=>cases hk;exact Rep.MI x
   |_=>cases hk
  ·cases h
def Ds{t:T}{kk:List Key}{b:ZE}(h:keyOf t=ZA kk)(hb:H b=ZA (.tup (kk.map kV)))(n:¬ O b):Rep K O H t (.ref b):=by
 cases t with
 |tup l=>exact Rep.Fk.mpr ⟨b,_,rfl,n,hb,nV h⟩
 |_=>cases h
def DF{ks:List T}(hd:H d=ZA (.frz ob (.dT kvs)))(hk:ks.map keyOf=kvs.map (λp=>ZA p.1))(nO:¬ O d)(tr:∀a vs,H a=ZA (.tup vs)->¬ O a)
  (at_:∀(i:Nat) p,kvs[i]?=ZA p->∃e b,es[i]?=ZA e/\e.key=.ref b/\H b=ZA (.tup (p.1.map kV))):LW K O H ks (Mi d ob es):=λP O' hP hO i Hc hs ht=>by
 have hl:ks.length=kvs.length:=by have:=congrArg O0 hk;rwa [Ny,Ny]at this
 have hnP:¬ P d:=λz=>(hP d z).elim nO λw=>by rw[w.1]at hd;cases hd
 have hd':Hc d=ZA (.frz ob (.dT kvs)):=hs _ _ hd hnP;refine⟨λhi=>⟨kvs,hd',by omega⟩,λt ht'=>?_⟩
 have hi:i<kvs.length:=by rw[<-hl];exact(NN.mp ht').1
 refine⟨⟨kvs,hd',hi⟩,λx Hc' y=>?_⟩
 obtain⟨rfl,e,b,ge,ek,rfl⟩:=y;obtain⟨e2,b2,ge2,ek2,hb⟩:=at_ i kvs[i] (NF hi)
 rw[ge]at ge2;cases ge2;rw[ek]at ek2;cases ek2
 have kt:keyOf t=ZA kvs[i].1:=by
  have:=congrArg (λl=>l[i]?) hk
  simp only[NU,ht',NF hi,T3,RS]at this
  exact this
 exact⟨Same.refl _,(Ds kt hb (tr b _ hb)).move hP hO hs⟩
def tPIF(X:Cx)(d:ZE)(ob:Obj)(es:Array R4)(i:Nat):TI:=λσ H R=>σ[i]?=ZA (ZA (.ref d))/\(∃kvs,H d=ZA (.frz ob (.dT kvs)))/\R (Mi d ob es) H
def Ip{elt:ZG}{ifs:List ZG}{spos py pos pn:Pos}{N':List Str}{src:List (Option Nat)}{tgt:T->En->Rs En}{fc:W6}{fe:W5}(i j:Nat){y D:Str}
  (hc:X.calm=ZC) (S:LcScope X scope N' src)
  (block:∀cl C s₀ H₀ fp,Ey (bN X scope cl N' C s₀ H₀ fp) tg tgt/\AI (bN X scope cl N' C s₀ H₀ fp) ifs (zB (bN X scope cl N' C s₀ H₀ fp) fc)/\cQ (bN X scope cl N' C s₀ H₀ fp) elt fe)
  (hN:X.N.Nodup) (hD:autoParam (X.N[i]?=ZA D) u_) (hDv:autoParam (vD X.env.scope D) v_) (hDd:autoParam ((D == ("__debug__" : Str))=ZD) s_) (hDc:autoParam ((D == ("__classdict__" : Str))=ZD) s_)
  (hiy:autoParam (X.N[j]?=ZA y) u_) (hy:autoParam (Loc X.env.scope y) y_) (hsw:autoParam (OQ (.ListComp elt [⟨tg,.Name D pn,ifs,0⟩] scope pos) (ZA (.Name y py)) spos.line X.env=pure ZC) u_)
  (hf:autoParam (X.fn y=ZC\/X.env.scope.names.lookup y=ZA .local) r_) (hs:autoParam (∀x,Ou (.Name D pn) X.env x=pure x) t_):
  qL X (.Assign [.Name y py] (.ListComp elt [⟨tg,.Name D pn,ifs,0⟩] scope pos) spos) (tY i j src tgt fc fe):=by
 intro bv s σ H E0 I ⟨Z,B,M,E,h⟩;unfold tY at h
 split at h
 ·rename_i ks ts hi
  obtain⟨v,sv,r⟩:=E.env.own i _ hi;obtain⟨d,kvs,rfl,hM,hd,hk,rt⟩:=r
  cases qt:ee (iD (vr i)) src tgt fc fe (disown i Z)with
  |bad=>rw[qt]at h;exact h.elim
  |err c=>rw[qt]at h;exact h.elim
  |ok t=>
  rw[qt]at h
  dsimp only at h
  by_cases hh:t.nk ZC=ZC/\j<Z.length
  ·rw[if_pos hh]at h
   obtain⟨z0,y0,xs0,r0,ob,es,ep,ho,hex,hdat,he,hnd⟩:=(show ObjOk X.prog X.w H s.heap d (.dT kvs)from I.hok d _ hd)
   have h0:∀o u,X.H₀ d≠ZA (.frz o u):=λo u e=>by
    have:=I.base.frzs d o u e;rw[hd]at this;cases this
   have I1:=yW I hd ho
   have hPG:∀cl C s₀ H₀ fp,PG (bN X scope cl N' C s₀ H₀ fp) tg (AU X tgt):=λcl C s₀ H₀ fp=>(block cl C s₀ H₀ fp).1
   have hPI:∀cl C s₀ H₀ fp,AI (bN X scope cl N' C s₀ H₀ fp) ifs (tPT0 X.K fc):=λcl C s₀ H₀ fp bv s σ H Q I h=>(block cl C s₀ H₀ fp).2.1 bv s σ H Q I (tPT0.up (X:=bN X scope cl N' C s₀ H₀ fp) h)
   have hPE:∀cl C s₀ H₀ fp,PE (bN X scope cl N' C s₀ H₀ fp) elt (tP0 X.K fe):=λcl C s₀ H₀ fp bv s σ H Q I h=>(block cl C s₀ H₀ fp).2.2 bv s σ H Q I (tP0.up (X:=bN X scope cl N' C s₀ H₀ fp) h)
   have hPI2:PI X tg (.Name D pn) (tPIF X d ob es i):=PI.imp (CK (d:=d) (ob:=ob) hdat (jU hD hDv hDd hDc)) λσ H R ⟨a,b,c⟩=>⟨_,a,rfl,b,c⟩
   have rule:=Hl (g:=AU X tgt) (tc:=tPT0 X.K fc) (te:=tP0 X.K fe) (i:=j) (y:=y) (py:=py) (spos:=spos) (pos:=pos) hc S hPI2 (λcl C s₀ H₀ fp=>⟨hPG cl C s₀ H₀ fp,hPI cl C s₀ H₀ fp,hPE cl C s₀ H₀ fp⟩) hN hiy hy hsw hf hs
   have sO:SameO (λa=>a=d) H (upd H d (.frz ob (.dT kvs))):=λb o e nb=>by rw[aG nb];exact e
   have Md:M i d:=(hM d).mpr rfl
   have Od:OO B M d:=.inr ⟨i,Md⟩;refine cF (rule bv s σ (upd H d (.frz ob (.dT kvs))) {nx:=λσ' H'=>H' d=ZA (.frz ob (.dT kvs))/\E0.nx σ' (upd H' d (.dT kvs)),rt:=λ_ _=>False} I1 ?_) λf s' hf=>?_
   ·-- the Ve,with the dict standing still
    have rdE:∀{u:T}{v:V},Rep X.K (OO B M) H u v->Rep X.K (λa=>OO B M a/\¬ M i a) (upd H d (.frz ob (.dT kvs))) u v:=λr=>(Rep.keep sO (λa z=>by rw[z];exact Od) r).less λa z=>z.1
    have E1:EnvM X.K (λa=>OO B M a/\¬ M i a) (M.set i yJ) (upd H d (.frz ob (.dT kvs))) (disown i Z) σ:=by
     have ed:disown i Z=Z.set i (.va (.dct ks ts)):=by unfold disown;rw[hi];rfl
     have il:i<Z.length:=(NN.mp hi).1
     rw[ed];refine⟨by rw[OC];exact E.env.len,λk u e=>?_,λk o e=>?_,λk a z=>?_,λk k' a z1 z2=>?_,λa z=>?_⟩
     ·by_cases hk':i=k
      ·subst hk'
       rw[NV il]at e
       cases e;exact⟨.ref d,sv,Rep.Gc.mpr ⟨d,kvs,rfl,λz=>z.2 Md,.inr ⟨ob,aI⟩,hk,(Reps.keep sO (λa z=>by rw[z];exact Od) rt).less λa z=>z.1⟩⟩
      ·rw[NW hk']at e
       obtain⟨v,e1,e2⟩:=E.env.val k u e;exact⟨v,e1,rdE e2⟩
     ·by_cases hk':i=k
      ·subst hk'
       rw[NV il]at e
       cases e
      ·rw[NW hk']at e
       obtain⟨v,e1,e2⟩:=E.env.own k o e;refine⟨v,e1,?_⟩
       have em:M.set i yJ k=M k:=by unfold Mn.set;rw[if_neg λz=>hk' z.symm]
       rw[em];exact e2.move (P:=λa=>a=d) (λa z=>.inl (by rw[z];exact Od)) (λa z=>.inl z.1) sO λa z w=>hk' (E.env.dis k i a z (by rw[w];exact Md)).symm
     ·unfold Mn.set at z
      split at z
      ·exact z.elim
      ·rename_i hk'
       exact⟨E.env.sub k a z,λw=>hk' (E.env.dis k i a z w)⟩
     ·unfold Mn.set at z1 z2
      split at z1
      ·exact z1.elim
      ·split at z2
       ·exact z2.elim
       ·exact E.env.dis k k' a z1 z2
     ·have ne:a≠d:=λw=>z.2 (by rw[w];exact Md)
      exact(E.env.trk a z.1).at λo q=>by rw[aG ne];exact q
    have fk:iD (vr i) (disown i Z)=.ok ks:=by
     have:vr i (disown i Z)=.ok (.dct ks ts):=by
      unfold vr disown;rw[hi];simp only[NV (NN.mp hi).1]
      rfl
     unfold iD;rw[this]
     rfl
    have qt':ee (λ_=>.ok ks) src tgt fc fe (disown i Z)=.ok t:=by
     rw[<-qt];unfold ee;rw[fk]
    have rd:=uV (X:=X) (fi:=λ_=>.ok ks) (src:=src) (tgt:=tgt) (fc:=fc) (fe:=fe) (σ:=σ) (H:=upd H d (.frz ob (.dT kvs))) (Q:=λv H'=>H' d=ZA (.frz ob (.dT kvs))/\E0.nx (σ.set j (ZA v)) (upd H' d (.dT kvs))) ⟨disown i Z,_,⟨_,E1⟩,by
     rw[qt'];intro H' sm v rv
     have hd':H' d=ZA (.frz ob (.dT kvs)):=sm _ _ aI;refine⟨hd',?_⟩
     have sm2:Same H (upd H' d (.dT kvs)):=λb o e=>by
      by_cases hb:b=d
      ·subst hb;rw[aI,<-hd];exact e
      ·rw[aG hb];exact sm b o (by rw[aG hb];exact e)
     have rl:Rep X.K (OO B M) H' t v:=Rep.lend (D:=ZC) (λa z=>by
      by_cases hm:M i a
      ·refine .inr ?_
       rw[if_pos rfl,(hM a).mp hm];exact⟨kvs,.inr ⟨ob,hd'⟩⟩
      ·exact .inl ⟨z,hm⟩) hh.1 rv
     have r2:Rep X.K (OO B M) (upd H' d (.dT kvs)) t v:=Rep.keep (P:=λa=>a=d) (λb o e nb=>by rw[aG nb];exact e) (λa z=>by rw[z];exact Od) rl
     exact h _ _ M (SameO.of sm2) ⟨(E.env.same sm2).set hh.2 r2,E.mine⟩ λa z=>.inl z⟩
    obtain⟨Z',O',⟨M',E'⟩,P'⟩:=rd;refine⟨sv,⟨kvs,aI⟩,P' _ (Same.refl _) _ (DF aI hk (λz=>?_) (λa vs q z=>?_) (u7 (I1.hok d _ aI) hdat).2.2.2.2)⟩
    ·rcases E'.trk d z with⟨_,q⟩|⟨_,q⟩|⟨_,q,y⟩ <;> rw[aI]at q <;> cases q <;> cases y
    ·rcases E'.trk a z with⟨_,w⟩|⟨_,w⟩|⟨_,w,y⟩ <;> rw[q]at w <;> cases w <;> cases y
   ·cases f with
    |next=>
     obtain⟨σ',H',I',e1,e2⟩:=hf
     exact⟨σ',_,DH I' e1 h0,e2⟩
    |brk=>obtain⟨_,_,_,z⟩:=hf;exact z.elim
    |cont=>obtain⟨_,_,_,z⟩:=hf;exact z.elim
    |ret u=>obtain⟨_,_,_,_,_,z⟩:=hf;exact z.elim
  ·rw[if_neg hh]at h;exact h.elim
 ·exact h.elim
end Tr
variable{t2:Bool}
namespace PySem
open Sem (wp)
open L2 (itAt)
def sqAt(tt:Bool)(h:ZH)(a:ZE)(xs:Array NA):Prop:=if tt then h.IsTuple a xs else h.IsList a xs
variable{a:ZE}{h:ZH}{xs:Array NA}
def sqAt.keep{h':ZH}(q:sqAt tt h a xs)(k:∀o,h.get? a=ZA o->h'.get? a=ZA o):sqAt tt h' a xs:=by
 cases tt with
 |true=>exact ij (show h.IsTuple a xs from q) k
 |false=>exact Heap.IsList.at (show h.IsList a xs from q) k
def sqAt.lt(q:sqAt tt h a xs):a<h.objs.size:=by
 cases tt with
 |true=>obtain⟨o,e,_⟩:=(show h.IsTuple a xs from q);exact NJ e
 |false=>obtain⟨o,e,_⟩:=(show h.IsList a xs from q);exact NJ e
section
def mn{it:ZE}{k:Nat}{xs:Array NA}{x:NA}(hi:itAt tt s.heap it a k)(hs:sqAt tt s.heap a xs)(hx:xs[k]?=ZA x)
  (hQ:∀h',itAt tt h' it a (k+1)->QU it s.heap h'->Q x {s with heap:=h'}):ZJ (ZK prog w) A (NT (.ref it)) Q E s:=by
 cases tt with
 |true=>exact Enu.tupNext hi hs hx hQ
 |false=>exact RQ hi hs hx hQ
def yG{it:ZE}{k:Nat}{xs:Array NA}(hh:A.handled=ZB)(hi:itAt tt s.heap it a k)(hs:sqAt tt s.heap a xs)(hx:xs[k]?=ZB)
  (hE:∀h' e,UH it s.heap h'->(∃o,h'.get? e=ZA o/\o.cls=.type "StopIteration")->E (.ref e) {s with heap:=h'}):ZJ (ZK prog w) A (NT (.ref it)) Q E s:=by
 cases tt with
 |true=>exact Enu.tupStop hh hi hs hx hE
 |false=>exact Uj hh hi hs hx hE
structure Zw (h:ZH)(n a1 a2:Nat)(t1 t2:Bool)(k:Nat):Prop where
 pr:P6 h (n+2) (.ref n) (.ref (n+1))
 ow:∃a b,P6 h (n+3) a b
 i1:itAt t1 h n a1 k
 i2:itAt t2 h (n+1) a2 k
variable {a1 a2 k:Nat}{ys:Array NA}{y:NA}
theorem Zw.keep{h':ZH}(q:Zw h n a1 a2 t1 t2 k)(e:∀c o,n<=c->c<n+4->h.get? c=ZA o->h'.get? c=ZA o):Zw h' n a1 a2 t1 t2 k where
 pr:=e _ _ (by omega) (by omega) q.pr
 ow:=let ⟨a,b,z⟩:=q.ow;⟨a,b,e _ _ (by omega) (by omega) z⟩
 i1:=q.i1.keep λo=>e _ o (by omega) (by omega)
 i2:=q.i2.keep λo=>e _ o (by omega) (by omega)
def EK(q:Zw s.heap n a1 a2 t1 t2 k)(kz:zO s.heap (n+4) (n+2) (n+3) .none (.bool ZD))(s1:sqAt t1 s.heap a1 xs)(s2:sqAt t2 s.heap a2 ys)(b1:a1<n\/n+4<a1)(b2:a2<n\/n+4<a2)(hx:xs[k]?=ZA x)(hy:ys[k]?=ZA y)
  (kq:∀h' p,s.heap.objs.size<=p->P6 h' p x y->zO h' (n+4) (n+2) (n+3) (rawInt p) (.bool ZD)->Zw h' n a1 a2 t1 t2 (k+1)->(∀c o,c≠n->c≠n+1->c≠n+3->c≠n+4->s.heap.get? c=ZA o->h'.get? c=ZA o)->Q (.ref p) {s with heap:=h'}):
  ZJ (ZK prog w) A (Builtin.«zip.__next__» ⟨[.ref (n+4)],[]⟩) (λfin s'=>∃v,fin=.done (.ret v)/\Q v s') E s:=by
 obtain⟨oa,ob,ho⟩:=q.ow
 show ZJ _ _ (field (.ref (n+4)) 2 >>= _) _ _ _
 refine Nq (Of kz rfl (x:=.bool ZD) rfl ?_)
 show ZJ _ _ (field (.ref (n+4)) 3 >>= _) _ _ _
 refine Nq (Of kz rfl (x:=.ref (n+2)) rfl ?_)
 refine Nq (Oz q.pr rfl ?_)
 show ZJ _ _ (NO (.ref (n+4)) >>= _) _ _ _
 have fr:ZJ (ZK prog w) A (NO (.ref (n+4))) (λv s'=>v=ZC/\s'=s) E s:=by
  unfold NO;exact Nq (Of kz rfl (x:=.none) rfl (Nz ⟨rfl,rfl⟩))
 refine Nq (Pu fr (λv s' hv=>?_) λ_ _ z=>z)
 obtain⟨rfl,rfl⟩:=hv;simp only[if_true];refine Nq (Qa (Nq (Of kz rfl (x:=.ref (n+3)) rfl (Nq (O6 kz (by simp) λh₁ kz₁ e₁=>?_)))))
 replace kz₁:zO h₁ (n+4) (n+2) (n+3) .ellipsis (.bool ZD):=kz₁
 have q₁:Zw h₁ n a1 a2 t1 t2 k:=q.keep λc o _ hc g=>e₁.extBut c o (bL (by omega)) g
 simp only[Sb,RD,Pl,Pw];refine Nq (Nq (Nq (RL ?_)))
 show ZJ _ _ (NT (.ref n) >>= _) _ _ _
 refine Nq (mn q₁.i1 (s1.keep λo g=>e₁.extBut _ _ (bL (by omega)) g) hx λh₂ g₂ e₂=>Nz ?_)
 have o₂:P6 h₂ (n+3) oa ob:=e₂.extBut _ _ (bL (by omega)) (e₁.extBut _ _ (bL (by omega)) ho)
 refine Nq (Oz o₂ rfl (Nq (Qo o₂ λh₃ o₃ e₃=>Nq (Tu (Nz ?_)))))
 replace o₃:P6 h₃ (n+3) x ob:=o₃
 refine Nq (Nq (RL ?_))
 show ZJ _ _ (NT (.ref (n+1)) >>= _) _ _ _
 refine Nq (mn (q₁.i2.keep λo g=>e₃.extBut _ _ (bL (by omega)) (e₂.extBut _ _ (bL (by omega)) g)) (s2.keep λo g=>e₃.extBut _ _ (bL (by omega)) (e₂.extBut _ _ (bL (by omega)) (e₁.extBut _ _ (bL (by omega)) g))) hy λh₄ g₄ e₄=>Nz ?_)
 have o₄:P6 h₄ (n+3) x ob:=e₄.extBut _ _ (bL (by omega)) o₃
 refine Nq (Oz o₄ rfl (Nq (Qo o₄ λh₅ o₅ e₅=>Nq (Tu (Nz (Nz ?_))))))
 replace o₅:P6 h₅ (n+3) x y:=o₅
 refine Nq (Oz o₅ rfl (Nq (Rh ?_)))
 have z₅:h₅.objs.size=s'.heap.objs.size:=by rw[e₅.1,e₄.1,e₃.1,e₂.1,e₁.1]
 have up:∀c o,c≠n->c≠n+1->c≠n+3->h₁.get? c=ZA o->h₅.get? c=ZA o:=λc o c1 c2 c3 g=>e₅.extBut _ _ c3 (e₄.extBut _ _ c2 (e₃.extBut _ _ c3 (e₂.extBut _ _ c1 g)))
 show ZJ _ _ (Ph (.ref (n+4)) (.ref h₅.objs.size) >>= _) _ _ _
 have z5:zO (h₅.push {cls:=.type "tuple",data:=.seq #[x,y]}) (n+4) (n+2) (n+3) .ellipsis (.bool ZD):=Nr _ (up _ _ (bL (by omega)) (bL (by omega)) (bL (by omega)) kz₁)
 have hn:n+4<h₅.objs.size:=NJ (up _ _ (bL (by omega)) (bL (by omega)) (bL (by omega)) kz₁)
 refine Nq ?_
 unfold Ph;refine Nq (O6 z5 (by simp) λh₇ z₇ e₇=>?_)
 replace z₇:zO h₇ (n+4) (n+2) (n+3) (rawInt h₅.objs.size) (.bool ZD):=z₇
 refine O6 z₇ (by simp) λh₈ z₈ e₈=>Nz ⟨_,rfl,?_⟩
 replace z₈:zO h₈ (n+4) (n+2) (n+3) (rawInt h₅.objs.size) (.bool ZD):=z₈
 have up8:∀c o,c≠n+4->h₅.get? c=ZA o->h₈.get? c=ZA o:=λc o c1 g=>e₈.extBut _ _ c1 (e₇.extBut _ _ c1 (Nr _ g))
 refine kq h₈ h₅.objs.size (PV z₅.symm) (e₈.extBut _ _ (bL (by omega)) (e₇.extBut _ _ (bL (by omega)) (NI _ rfl))) z₈ ⟨up8 _ _ (bL (by omega)) (up _ _ (bL (by omega)) (bL (by omega)) (bL (by omega)) q₁.pr),⟨x,y,up8 _ _ (bL (by omega)) o₅⟩,?_,?_⟩ λc o c1 c2 c3 c4 g=>up8 c o c4 (up c o c1 c2 c3 (e₁.extBut _ _ c4 g))
 ·exact g₂.keep λo g=>up8 _ _ (bL (by omega)) (e₅.extBut _ _ (bL (by omega)) (e₄.extBut _ _ (bL (by omega)) (e₃.extBut _ _ (bL (by omega)) g)))
 ·exact g₄.keep λo g=>up8 _ _ (bL (by omega)) (e₅.extBut _ _ (bL (by omega)) g)
def HD{Q:Fin->NB->Prop}(hh:A.handled=ZB)(q:Zw s.heap n a1 a2 t1 t2 k)(kz:zO s.heap (n+4) (n+2) (n+3) .none (.bool ZD))(s1:sqAt t1 s.heap a1 xs)(s2:sqAt t2 s.heap a2 ys)(b1:a1<n\/n+4<a1)(b2:a2<n\/n+4<a2)(hend:xs[k]?=ZB\/ys[k]?=ZB)
  (ke:∀h' e,(∀c o,c≠n->c≠n+1->c≠n+3->c≠n+4->s.heap.get? c=ZA o->h'.get? c=ZA o)->(∃o,h'.get? e=ZA o/\o.cls=.type "StopIteration")->E (.ref e) {s with heap:=h'}):
  ZJ (ZK prog w) A (Builtin.«zip.__next__» ⟨[.ref (n+4)],[]⟩) Q E s:=by
 show ZJ _ _ (field (.ref (n+4)) 2 >>= _) _ _ _
 refine Nq (Of kz rfl (x:=.bool ZD) rfl ?_)
 show ZJ _ _ (field (.ref (n+4)) 3 >>= _) _ _ _
 refine Nq (Of kz rfl (x:=.ref (n+2)) rfl ?_)
 refine Nq (Oz q.pr rfl ?_)
 show ZJ _ _ (NO (.ref (n+4)) >>= _) _ _ _
 have fr:ZJ (ZK prog w) A (NO (.ref (n+4))) (λv s'=>v=ZC/\s'=s) E s:=by
  unfold NO;exact Nq (Of kz rfl (x:=.none) rfl (Nz ⟨rfl,rfl⟩))
 refine Nq (Pu fr (λv s' hv=>?_) λ_ _ z=>z)
 obtain⟨rfl,rfl⟩:=hv;simp only[if_true];refine Nq (Qa (Nq (Of kz rfl (x:=.ref (n+3)) rfl (Nq (O6 kz (by simp) λh₁ kz₁ e₁=>?_)))))
 replace kz₁:zO h₁ (n+4) (n+2) (n+3) .ellipsis (.bool ZD):=kz₁
 have q₁:Zw h₁ n a1 a2 t1 t2 k:=q.keep λc o _ hc g=>e₁.extBut c o (bL (by omega)) g
 simp only[Sb,RD,Pl,Pw];refine Nq (Nq (Nq (RL ?_)))
 show ZJ _ _ (NT (.ref n) >>= _) _ _ _
 cases hx:xs[k]? with
 |none=>
  refine Nq (yG hh q₁.i1 (s1.keep λo g=>e₁.extBut _ _ (bL (by omega)) g) hx λh₂ e e₂ he=>?_)
  obtain⟨oe,hoe,hce⟩:=he
  have hz₂:zO h₂ (n+4) (n+2) (n+3) .ellipsis (.bool ZD):=e₂ _ _ (bL (by omega)) kz₁
  have hez:e≠n+4:=λx=>by subst x;rw[hz₂]at hoe;cases hoe;simp at hce
  exact O6 hz₂ (by simp) λh₃ _ hs₃=>ke h₃ e (λc o c1 c2 c3 c4 g=>hs₃.extBut _ _ c4 (e₂ _ _ c1 (e₁.extBut _ _ c4 g))) ⟨oe,hs₃.extBut _ _ hez hoe,hce⟩
 |some x=>
  have hy:ys[k]?=ZB:=by
   rcases hend with h|h
   ·rw[hx]at h;cases h
   ·exact h
  obtain⟨oa,ob,ho⟩:=q.ow;refine Nq (mn q₁.i1 (s1.keep λo g=>e₁.extBut _ _ (bL (by omega)) g) hx λh₂ g₂ e₂=>Nz ?_)
  have o₂:P6 h₂ (n+3) oa ob:=e₂.extBut _ _ (bL (by omega)) (e₁.extBut _ _ (bL (by omega)) ho)
  refine Nq (Oz o₂ rfl (Nq (Qo o₂ λh₃ o₃ e₃=>Nq (Tu (Nz ?_)))))
  refine Nq (Nq (RL ?_))
  show ZJ _ _ (NT (.ref (n+1)) >>= _) _ _ _
  refine Nq (yG hh (q₁.i2.keep λo g=>e₃.extBut _ _ (bL (by omega)) (e₂.extBut _ _ (bL (by omega)) g)) (s2.keep λo g=>e₃.extBut _ _ (bL (by omega)) (e₂.extBut _ _ (bL (by omega)) (e₁.extBut _ _ (bL (by omega)) g))) hy λh₄ e e₄ he=>?_)
  obtain⟨oe,hoe,hce⟩:=he
  have hz₄:zO h₄ (n+4) (n+2) (n+3) .ellipsis (.bool ZD):=e₄ _ _ (bL (by omega)) (e₃.extBut _ _ (bL (by omega)) (e₂.extBut _ _ (bL (by omega)) kz₁))
  have hez:e≠n+4:=λx=>by subst x;rw[hz₄]at hoe;cases hoe;simp at hce
  exact O6 hz₄ (by simp) λh₅ _ hs₅=>ke h₅ e (λc o c1 c2 c3 c4 g=>hs₅.extBut _ _ c4 (e₄ _ _ c2 (e₃.extBut _ _ c3 (e₂.extBut _ _ c1 (e₁.extBut _ _ c4 g))))) ⟨oe,hs₅.extBut _ _ hez hoe,hce⟩
abbrev HE(h:ZH)(t1:Bool)(a1:ZE):ZH:=h.push {cls:=.type (if t1 then "tuple_iterator" else "list_iterator"),data:=.fields #[.ref a1,.int 0 0]}
end
def DG(q:sqAt tt s.heap a xs)(h:Q (.ref s.heap.objs.size) {s with heap:=HE s.heap tt a}):ZJ (ZK prog w) A (pyIter (.ref a)) Q E s:=by
 cases tt with
 |true=>exact Qe (show s.heap.IsTuple a xs from q) h
 |false=>exact Q7 (show s.heap.IsList a xs from q) h
abbrev L0(h:ZH)(t1 t2:Bool)(l t:ZE):ZH:=HE (HE h t1 l) t2 t
abbrev LZ(h:ZH)(t1 t2:Bool)(l t:ZE):ZH:=(L0 h t1 t2 l t).push {cls:=.type "tuple",data:=.seq #[.ref h.objs.size,.ref (HE h t1 l).objs.size]}
abbrev LY(h:ZH)(t1 t2:Bool)(l t:ZE):ZH:=(LZ h t1 t2 l t).push {cls:=.type "tuple",data:=.seq #[.none,.none]}
abbrev G3(h:ZH)(t1 t2:Bool)(l t:ZE):ZH:=(LY h t1 t2 l t).push {cls:=.type "zip",data:=.fields #[.none,.bool ZD,.bool ZD,.ref (L0 h t1 t2 l t).objs.size,.ref (LZ h t1 t2 l t).objs.size]}
def Df(t1 t2:Bool)(l t:ZE)(xs ys:Array NA):Meets (Builtin.«zip.__new__» ⟨[.type "zip",.ref l,.ref t],[]⟩) (λ_ R s=>sqAt t1 s.heap l xs/\sqAt t2 s.heap t ys/\R (.ok (.ret (.ref (LY s.heap t1 t2 l t).objs.size))) {s with heap:=G3 s.heap t1 t2 l t}):=
 .of_wp λprog w A R s q=>by
  obtain⟨hp,g,d,tk,os⟩:=s;obtain⟨a1,a2,q⟩:=q
  have k0:=sub_zip
  have k1:sqAt t1 (Tc ⟨hp,g,d,tk,os⟩) l xs:=a1
  have k2:sqAt t2 (Tc ⟨HE hp t1 l,g,d,tk,os⟩) t ys:=sqAt.keep a2 λo e=>Nr _ e
  wp_walk using DG k1,DG k2
  exact⟨_,rfl,q⟩
def EL{l t:ZE}{ys:Array NA}(a1:sqAt t1 s.heap l xs)(a2:sqAt t2 s.heap t ys)
  (q:∀h',Zw h' s.heap.objs.size l t t1 t2 0->zO h' (s.heap.objs.size+4) (s.heap.objs.size+2) (s.heap.objs.size+3) .none (.bool ZD)->h'.objs.size=s.heap.objs.size+5 →
   (∀c o,s.heap.get? c=ZA o->h'.get? c=ZA o)->Q (.ref (s.heap.objs.size+4)) {s with heap:=h'}):
  ZJ (ZK prog w) A (call (.type "zip") [.ref l,.ref t]) Q E s:=by
 refine VO F.called_zip (by decide) (V5 _ _) (Wp _ _) (λobj=>Ux obj _ _) Wq (Df t1 t2 l t xs ys) ⟨a1,a2,?_⟩
 have z1:(HE s.heap t1 l).objs.size=s.heap.objs.size+1:=Ov ..
 have z2:(L0 s.heap t1 t2 l t).objs.size=s.heap.objs.size+2:=by rw[Ov,z1]
 have z3:(LZ s.heap t1 t2 l t).objs.size=s.heap.objs.size+3:=by rw[Ov,z2]
 have z4:(LY s.heap t1 t2 l t).objs.size=s.heap.objs.size+4:=by rw[Ov,z3]
 have z5:(G3 s.heap t1 t2 l t).objs.size=s.heap.objs.size+5:=by rw[Ov,z4]
 have g5:(G3 s.heap t1 t2 l t).get? (LY s.heap t1 t2 l t).objs.size=ZA _:=NI _ rfl
 have g4:(G3 s.heap t1 t2 l t).get? (LZ s.heap t1 t2 l t).objs.size=ZA _:=Nr _ (NI _ rfl)
 have g3:(G3 s.heap t1 t2 l t).get? (L0 s.heap t1 t2 l t).objs.size=ZA _:=Nr _ (Nr _ (NI _ rfl))
 have g2:(G3 s.heap t1 t2 l t).get? (HE s.heap t1 l).objs.size=ZA _:=Nr _ (Nr _ (Nr _ (NI _ rfl)))
 have g1:(G3 s.heap t1 t2 l t).get? s.heap.objs.size=ZA _:=Nr _ (Nr _ (Nr _ (Nr _ (NI _ rfl))))
 have up:∀c o,s.heap.get? c=ZA o->(G3 s.heap t1 t2 l t).get? c=ZA o:=λc o e=>Nr _ (Nr _ (Nr _ (Nr _ (Nr _ e))))
 show _/\_
 rw[z2,z3,z4]at g5;rw[z1,z2]at g3;rw[z3]at g4;rw[z1]at g2;rw[z4];refine⟨⟨_,g5,rfl⟩,q _ ⟨g3,⟨_,_,g4⟩,?_,?_⟩ g5 z5 up⟩
 ·cases t1 with
  |true=>exact⟨_,g1,rfl,rfl⟩
  |false=>exact⟨_,g1,rfl,rfl⟩
 ·cases t2 with
  |true=>exact⟨_,g2,rfl,rfl⟩
  |false=>exact⟨_,g2,rfl,rfl⟩
end PySem
namespace L2
open PySem PySem.Spec PyProof.Rows
section
variable {X:Cx}{bv:W2}{σ:L2.St}{H:Hp}
def v7{a:ZE}{xs:List V}(I:Inv X bv σ H s)(q:BN X.K H a tt xs):∃its:List NA,Vals xs its/\sqAt tt s.heap a its.toArray/\∀ys,BN X.K H a tt ys->ys=xs:=by
 cases tt with
 |true=>
  have q':SqT X.K H a xs:=q;obtain⟨its,rv,p,hz⟩:=I.tuple q'
  exact⟨its,rv,p,λys hy=>I.Mo hy q'⟩
 |false=>
  have q':SqL X.K H a xs:=q;obtain⟨its,rv,p,hz⟩:=I.list q';exact⟨its,rv,p.isList,λys hy=>I.Mr hy q'⟩
end
def xM{b:Nat}:b∈ [n+4,n,n+1,n+2,n+3] ↔n<=b/\b<n+5:=by
 simp only[NG,Ox,or_false];omega
end L2
namespace Tr
open PySem PySem.Spec PyProof.Rows L2
def Wk(K:Nt)(O:Ow)(H1:Hp)(l:List T)(v:V):Prop:=∃(aa:ZE)(tt:Bool)(ws:List V),v=.ref aa/\¬ O aa/\Reps K O H1 l ws/\BN K H1 aa tt ws/\(∀P Hc,SameO P H1 Hc->¬ P aa->BN K Hc aa tt ws)/\¬ Nw K H1 aa
def G6{O:Ow}{H1:Hp}{x:T}{l:List T}{v:V}(hl:x.items=ZA l)(rv:Rep K O H1 x v):Wk K O H1 l v:=by
 cases x with
 |tup m=>
  cases hl;obtain⟨aa,ws,e,n,qq,z⟩:=Rep.Fk.mp rv
  exact⟨aa,ZC,ws,e,n,z,(show SqT K H1 aa ws from SqT.of qq),(λP Hc hsm hn=>show SqT K Hc aa ws from SqT.of (hsm _ _ qq hn)),λw=>by rw[w.1]at qq;cases qq⟩
 |lst m=>
  cases hl;obtain⟨aa,ws,e,n,qq,z⟩:=Rep.Do.mp rv
  exact⟨aa,ZD,ws,e,n,z,(show SqL K H1 aa ws from SqL.of qq),(λP Hc hsm hn=>show SqL K Hc aa ws from SqL.of (hsm _ _ qq hn)),λw=>by rw[w.1]at qq;cases qq⟩
 |scr m=>
  cases hl;unfold Rep at rv;obtain⟨aa,e,n,qq⟩:=rv
  exact⟨aa,ZD,_,e,n,Reps.ints,(show SqL K H1 aa _ from qq),(λP Hc hsm hn=>show SqL K Hc aa _ from Tr.SqL.keep hsm hn qq),(Tr.SqL.nn qq)⟩
 |_=>cases hl
def c0(g:List T->Rs T)(_:En):Rs T:=match g []with
 |.ok t=>.ok t
 |_=>.bad
def unN:List Int->T
 |t::ns=>.tup [.int t,.tup (ns.map .int)]
 |[] =>.non
def E9:List T->Rs T
 |[a,b] =>match a.items,b.items with
  |some l,ZA m=>match eh l,rowsT m with
   |some ts,ZA ks=>if ts.length=ks.length/\0<ts.length/\ts.length<64 then .ok (.lst (((T4 RG ts ks).mergeSort jf).map unN))else .bad
   |_,_=>.bad
  |_,_=>.bad
 |_=>.bad
end Tr
variable{R:Nat->NA->NA->Prop}
namespace PySem
open Sem (wp)
open L2 (itAt)
structure PW (prog:N1)(w:OF)(A:Os)(I:ZE)(T:String)(fp wr:List ZE)(n:Nat)(R:Nat->NA->NA->Prop)(St:Nat->Option ZE->ZH->Prop):Prop where
 sub:∀b∈wr,b∈fp
 ty:∀i o (s:NB),St i o s.heap->s.TypeIs (.ref I) T
 frame:∀i o h h',St i o h->(∀b∈fp,∀ob,h.get? b=ZA ob->h'.get? b=ZA ob)->St i o h'
 item:∀i o (s:NB) (Q:Option NA->NB->Prop) (E:W1),i<n->St i o s.heap->(∀t,o=ZA t->∃ob,s.heap.get? t=ZA ob) →
  (∀p h' tk x y,R i x y->s.heap.objs.size<=p->P6 h' p x y->St (i+1) (ZA (o.getD p)) h'->(∀b ob,b∉wr->s.heap.get? b=ZA ob->h'.get? b=ZA ob)->Q (ZA (.ref p)) {s with heap:=h',toks:=tk})->ZJ (ZK prog w) A (pyNext (.ref I)) Q E s
 done:∀o (s:NB) (Q:Option NA->NB->Prop) (E:W1),St n o s.heap->(∀t,o=ZA t->∃ob,s.heap.get? t=ZA ob)->(∀h' tk,(∀b ob,b∉wr->s.heap.get? b=ZA ob->h'.get? b=ZA ob)->Q ZB {s with heap:=h',toks:=tk})->ZJ (ZK prog w) A (pyNext (.ref I)) Q E s
 self:∀i o (s:NB) (Q:W1) (E:W1),St i o s.heap->Q (.ref I) s->ZJ (ZK prog w) A (pyIter (.ref I)) Q E s
abbrev je(ps:List ZE)(c:Nat):Obj:={cls:=.type "list",dict:=ZB,data:=.seq (ps.map NQ).toArray c,slots:=#[]}
variable{I:ZE}
section
variable {RR:Wv->NB->Prop}{T:String}{fp wr:List ZE}{St:Nat->Option ZE->ZH->Prop}
def FN(W:PW prog w A.in1 I T fp wr n R St)(hn:n<=ZI)(S N0:Nat)(hSf:S∉fp)(hSN:S<N0)(hw:∀b:Nat,b∈wr->b<N0)(res:NA):
  ∀(k i:Nat)(s:NB)(ps:List ZE)(c:Nat),n - i=k->i<=n->St i ps.head? s.heap->N0<=s.heap.objs.size->s.heap.get? S=ZA (je ps c)->ps.length=i->(∀(j:Nat)(p:Nat),ps[j]?=ZA p->N0<=p/\∃x y,R j x y/\P6 s.heap p x y) →
  (∀h' tk ps' c',(∀b ob,b≠S->b∉wr->s.heap.get? b=ZA ob->h'.get? b=ZA ob)->h'.get? S=ZA (je ps' c')->ps'.length=n->(∀(j:Nat)(p:Nat),ps'[j]?=ZA p->N0<=p/\∃x y,R j x y/\P6 h' p x y)->RR (.ok (.ret res)) {s with heap:=h',toks:=tk}) →
  ZL (ZK prog w) A (.builtin "list.extend.loop" ⟨[.ref S,.ref I,res],[]⟩) RR s:=by
 have hSw:S∉wr:=λh=>hSf (W.sub _ h)
 intro k
 induction k with
 |zero=>
  intro i s ps c hk hi hst hN hS hl hp hR
  have hin:i=n:=by omega
  subst hin;refine P4 UK ?_
  rw[Pd QJ _]
  show ZJ _ A.in1 (pyNext (.ref I) >>= _) _ _ s
  have alive:∀t,ps.head?=ZA t->∃ob,s.heap.get? t=ZA ob:=λt ht=>by
   obtain⟨_,x,y,_,hx⟩:=hp 0 t (by rw[<-List.head?_eq_getElem?];exact ht)
   exact⟨_,hx⟩
  refine Nq (W.done ps.head? s _ _ hst alive λh' tk kp=>?_)
  exact Nz (hR h' tk ps c (λb ob _ hb e=>kp b ob hb e) (kp S _ hSw hS) hl λj p hj=>by
   obtain⟨a,x,y,r,z⟩:=hp j p hj
   exact⟨a,x,y,r,kp p _ (λm=>N4 _ (NK (hw p m) a)) z⟩)
 |succ k ih=>
  intro i s ps c hk hi hst hN hS hl hp hR
  have hlt:i<n:=by omega
  refine P4 UK ?_
  rw[Pd QJ _]
  show ZJ _ A.in1 (pyNext (.ref I) >>= _) _ _ s
  have alive:∀t,ps.head?=ZA t->∃ob,s.heap.get? t=ZA ob:=λt ht=>by
   obtain⟨_,x,y,_,hx⟩:=hp 0 t (by rw[<-List.head?_eq_getElem?];exact ht)
   exact⟨_,hx⟩
  refine Nq (W.item i ps.head? s _ _ hlt hst alive λp h' tk x y r hsz ip st' kp=>?_)
  have hS':=kp S _ hSw hS
  have hSl:S<s.heap.objs.size:=NJ hS
  have hpS:p≠S:=λz=>by rw[z]at hsz;exact N4 _ (NK hSl hsz)
  show ZJ _ A.in1 (updateSeq S (·.push (.ref p)) >>= _) _ _ _
  refine Nq ?_
  have hd:(ps++[p]).head?=ZA (ps.head?.getD p):=by cases ps <;> rfl
  have hlen:(ps.map NQ).toArray.size=i:=by rw[NP,Ny,hl]
  obtain⟨c2,hS2⟩:∃c2,(h'.update S (P8 (·.push (.ref p)))).get? S=ZA (je (ps++[p]) c2):=by
   have g:=Wd (show h'.get? S=ZA (PyProof.Rows.seqObj "list" (ps.map NQ).toArray c)from hS') (·.push (.ref p))
   have e:(ps.map NQ).toArray.push (NQ p)=((ps++[p]).map NQ).toArray:=by rw[Oe,Nx,QV,List.push_toArray]
   rw[e]at g;exact⟨_,g⟩
  refine Um hS' rfl (Nz ⟨QK QJ _,ih (i+1) {s with heap:=h'.update S (P8 (·.push (.ref p))),toks:=tk} (ps++[p]) c2 (by omega) hlt (by
   rw[hd];exact W.frame _ _ _ _ st' λb hb ob e=>(Pf _ _ (λh:S=b=>hSf (by rw[h];exact hb))).trans e) (by rw[PP];exact Oj hN (Pe (Qc hsz (NJ ip)))) hS2 (by rw[NH];simp[hl]) (λj q hj=>?_) λh'' tk'' ps' c' kp' hS'' hl' hp'=>?_⟩)
   (by rw[hlen];omega) (by show((ps.map NQ).toArray.push (.ref p)).size<=ZI+1;rw[Array.size_push,hlen];omega)
  ·rw[List.getElem?_append]at hj
   split at hj
   ·rename_i hjl
    obtain⟨a,x',y',r',z⟩:=hp j q hj
    have hqS:q≠S:=λz=>by rw[z]at a;exact N4 _ (NK hSN a)
    exact⟨a,x',y',r',(Pf _ _ (Rn hqS)).trans (kp q _ (λm=>N4 _ (NK (hw q m) a)) z)⟩
   ·rename_i hjl
    have hj0:j=i:=by
     have:=(NN.mp hj).1
     simp at this;omega
    subst hj0;rw[hl,SH]at hj;cases hj;exact⟨Oj hN hsz,x,y,r,(Pf _ _ (Rn hpS)).trans ip⟩
  ·exact hR h'' tk'' ps' c' (λb ob hb hbw e=>kp' b ob hb hbw ((Pf _ _ (Rn hb)).trans (kp b ob hbw e))) hS'' hl' hp'
def A1(W:PW prog w A.in1 I T fp wr n R St)(hn:n<=ZI){S c0:Nat}(hSf:S∉fp)(hIf:I∈fp)(hw:∀b:Nat,b∈wr->b<s.heap.objs.size)(res:NA)(hst:St 0 ZB s.heap)(hS:s.heap.get? S=ZA (je [] c0))
  (t1:(OM T == OM "list")=ZD) (t2:(OM T == OM "tuple")=ZD) (nl:Qw (.type T) "__len__" =pure ZB) (nh:Qw (.type T) "__length_hint__" =pure ZB)
  (hR:∀h' tk ps c',(∀b ob,b≠S->b∉wr->s.heap.get? b=ZA ob->h'.get? b=ZA ob)->h'.get? S=ZA (je ps c')->ps.length=n->(∀(j:Nat)(p:Nat),ps[j]?=ZA p->s.heap.objs.size<=p/\∃x y,R j x y/\P6 h' p x y)->RR (.ok (.ret res)) {s with heap:=h',toks:=tk}):
  ZJ (ZK prog w) A.in1 (QR (.ref S) (.ref I) res)
   (λfin s'=>match fin with|.done f=>RR (.ok f) s'|.again c'=>c'.quiet=ZC/\ZL (ZK prog w) A c' RR s') (λe s'=>RR (.error e) s') s:=by
 have hSI:S≠I:=λe=>hSf (e▸hIf)
 unfold QR;refine Nq (Qg (W.ty 0 ZB s hst) ?_)
 have h1:S0 (.ref S) (.ref I)=ZD:=by simp[S0,hSI]
 simp only[h1,t1,t2,Bool.or_false,N8,if_false];refine Nq (W.self 0 ZB _ _ _ hst ?_)
 refine Nq (OJ ?_)
 unfold Builtin.List.listLengthHint;refine Nq (Ui (W.ty 0 ZB s hst) nl ?_)
 show ZJ _ A.in1 (specialOf (NQ I) (NM "__length_hint__") >>= _) _ _ _
 refine Nq (Ui (W.ty 0 ZB s hst) nh ?_)
 refine Nz ?_
 have hSl:S<s.heap.objs.size:=NJ hS
 have key:∀(h:ZH)(c₁:Nat),h.objs.size=s.heap.objs.size->(∀b o,b≠S->s.heap.get? b=ZA o->h.get? b=ZA o)->h.get? S=ZA (je [] c₁)->ZL (ZK prog w) A (.builtin "list.extend.loop" ⟨[.ref S,.ref I,res],[]⟩) RR {s with heap:=h}:=λh c₁ hz hk hS₁=>
  FN W hn S s.heap.objs.size hSf hSl hw res n 0 {s with heap:=h} [] c₁ rfl (O4 _) (W.frame _ _ _ _ hst λb hb ob e=>hk b ob (λz=>hSf (z▸hb)) e) (PV hz.symm) hS₁ rfl (λj p hj=>by cases hj)
   λh' tk ps c' kp a b c=>hR h' tk ps c' (λb ob hb hbw e=>kp b ob hb hbw (hk b ob hb e)) a b c
 refine wpAny_ite_split (λ_=>?_) (λ_=>Nz ⟨QK QJ _,key s.heap c0 rfl (λb o _ e=>e) hS⟩)
 refine Nq (Qa ?_)
 refine Nq ?_
 show ZJ _ A.in1 (updateSeq S (·.push .none) >>= λ_=>updateSeq S (·.pop)) _ _ _
 refine Nq (Um hS rfl ?_)
 have hS₂:=QY (P8 (·.push OA)) hS rfl
 refine Um hS₂ rfl ?_
 have hS₃:=QY (P8 (·.pop)) hS₂ rfl
 refine Nz ⟨QK QJ _,key _ _ (by rw[PP,PP]) (λb o hb e=>(Pf _ _ (Rn hb)).trans ((Pf _ _ (Rn hb)).trans e)) hS₃⟩
end
namespace F
def zip_no_len:Qw (.type "zip") "__len__" =pure ZB:=by rw[Q1,PJ];kernel_rfl
def zip_no_hint:Qw (.type "zip") "__length_hint__" =pure ZB:=by rw[Q1,PJ];kernel_rfl
end F
variable{ob:Obj}
section
variable {a1 a2 k:Nat}{xs ys:Array NA}{y:NA}
def EJ{T:ZE}(q:Zw s.heap n a1 a2 t1 t2 k)(kz:zO s.heap (n+4) (n+2) (n+3) (rawInt T) (.bool f))(kT:s.heap.get? T=ZA ob)(s1:sqAt t1 s.heap a1 xs)(s2:sqAt t2 s.heap a2 ys)(b1:a1<n)(b2:a2<n)(hx:xs[k]?=ZA x)(hy:ys[k]?=ZA y)
  (kq:∀h' p,s.heap.objs.size<=p->P6 h' p x y->zO h' (n+4) (n+2) (n+3) (rawInt T) (.bool ZC)->Zw h' n a1 a2 t1 t2 (k+1)->(∀c o,c≠n->c≠n+1->c≠n+4->s.heap.get? c=ZA o->h'.get? c=ZA o)->Q (.ref p) {s with heap:=h'}):
  ZJ (ZK prog w) A (Builtin.«zip.__next__» ⟨[.ref (n+4)],[]⟩) (λfin s'=>∃v,fin=.done (.ret v)/\Q v s') E s:=by
 show ZJ _ _ (field (.ref (n+4)) 2 >>= _) _ _ _
 refine Nq (Of kz rfl (x:=.bool ZD) rfl ?_)
 show ZJ _ _ (field (.ref (n+4)) 3 >>= _) _ _ _
 refine Nq (Of kz rfl (x:=.ref (n+2)) rfl ?_)
 refine Nq (Oz q.pr rfl ?_)
 show ZJ _ _ (NO (.ref (n+4)) >>= _) _ _ _
 refine Nq (lX kz kT λh₁ kz₁ e₁ z₁=>?_)
 have q₁:Zw h₁ n a1 a2 t1 t2 k:=q.keep λc o _ hc g=>e₁ c o (bL (by omega)) g
 simp only[N8,if_false,RF,Pl,Pw];refine Nq (Nq (Nq (OJ ?_)))
 show ZJ _ _ (NT (.ref n) >>= _) _ _ _
 refine Nq (mn q₁.i1 (s1.keep λo g=>e₁ _ _ (bL (by omega)) g) hx λh₂ g₂ e₂=>Nz ?_)
 refine Nz (Nq (Nq (OJ ?_)))
 show ZJ _ _ (NT (.ref (n+1)) >>= _) _ _ _
 refine Nq (mn (q₁.i2.keep λo g=>e₂.extBut _ _ (bL (by omega)) g) (s2.keep λo g=>e₂.extBut _ _ (bL (by omega)) (e₁ _ _ (bL (by omega)) g)) hy λh₃ g₃ e₃=>Nz (Nz (Nz ?_)))
 show ZJ _ _ (newTuple [x,y] >>= _) _ _ _
 refine Nq (Rh (Nz ⟨_,rfl,?_⟩))
 have z₃:h₃.objs.size=s.heap.objs.size:=by rw[e₃.1,e₂.1,z₁]
 have up:∀c o,c≠n->c≠n+1->h₁.get? c=ZA o->(h₃.push {cls:=.type "tuple",data:=.seq #[x,y]}).get? c=ZA o:=λc o c1 c2 g=>Nr _ (e₃.extBut _ _ c2 (e₂.extBut _ _ c1 g))
 obtain⟨oa,ob',ho⟩:=q₁.ow;refine kq _ h₃.objs.size (PV z₃.symm) (NI _ rfl) (up _ _ (bL (by omega)) (bL (by omega)) kz₁) ⟨up _ _ (bL (by omega)) (bL (by omega)) q₁.pr,⟨oa,ob',up _ _ (bL (by omega)) (bL (by omega)) ho⟩,?_,?_⟩ λc o c1 c2 c4 g=>up c o c1 c2 (e₁ c o c4 g)
 ·exact g₂.keep λo g=>Nr _ (e₃.extBut _ _ (bL (by omega)) g)
 ·exact g₃.keep λo g=>Nr _ g
def EI{T:ZE}{Q:Fin->NB->Prop}(hh:A.handled=ZB)(q:Zw s.heap n a1 a2 t1 t2 k)(kz:zO s.heap (n+4) (n+2) (n+3) (rawInt T) (.bool f))(kT:s.heap.get? T=ZA ob)(s1:sqAt t1 s.heap a1 xs)(b1:a1<n)(hx:xs[k]?=ZB)
  (ke:∀h' e,(∀c o,c≠n->c≠n+4->s.heap.get? c=ZA o->h'.get? c=ZA o)->(∃o,h'.get? e=ZA o/\o.cls=.type "StopIteration")->E (.ref e) {s with heap:=h'}):
  ZJ (ZK prog w) A (Builtin.«zip.__next__» ⟨[.ref (n+4)],[]⟩) Q E s:=by
 show ZJ _ _ (field (.ref (n+4)) 2 >>= _) _ _ _
 refine Nq (Of kz rfl (x:=.bool ZD) rfl ?_)
 show ZJ _ _ (field (.ref (n+4)) 3 >>= _) _ _ _
 refine Nq (Of kz rfl (x:=.ref (n+2)) rfl ?_)
 refine Nq (Oz q.pr rfl ?_)
 show ZJ _ _ (NO (.ref (n+4)) >>= _) _ _ _
 refine Nq (lX kz kT λh₁ kz₁ e₁ z₁=>?_)
 have q₁:Zw h₁ n a1 a2 t1 t2 k:=q.keep λc o _ hc g=>e₁ c o (bL (by omega)) g
 simp only[N8,if_false,RF,Pl,Pw];refine Nq (Nq (Nq (OJ ?_)))
 show ZJ _ _ (NT (.ref n) >>= _) _ _ _
 exact Nq (yG hh q₁.i1 (s1.keep λo g=>e₁ _ _ (bL (by omega)) g) hx λh₂ e e₂ he=>ke h₂ e (λc o c1 c4 g=>e₂ _ _ c1 (e₁ c o c4 g)) he)
def Gy(e:ZE):Sem (Option NA):=do if <-isInstance (.ref e) (.type "StopIteration")then pure ZB else throw (.ref e)
def ZS(n a1 a2:Nat)(t1 t2:Bool)(xs ys:Array NA)(k:Nat)(o:Option ZE)(h:ZH):Prop:=
 Zw h n a1 a2 t1 t2 k/\sqAt t1 h a1 xs/\sqAt t2 h a2 ys/\match o with
  |none=>zO h (n+4) (n+2) (n+3) .none (.bool ZD)
  |some T=>∃f,zO h (n+4) (n+2) (n+3) (rawInt T) (.bool f)
def zm{o:Option ZE}(q:ZS n a1 a2 t1 t2 xs ys k o s.heap):s.TypeIs (.ref (n+4)) "zip":=by
 cases o with
 |none=>exact⟨_,q.2.2.2,rfl⟩
 |some T=>obtain⟨f,e⟩:=q.2.2.2;exact⟨_,e,rfl⟩
def IH(hh:A.handled=ZB)(b1:a1<n)(b2:a2<n)(hl:xs.size=ys.size):
  PW prog w A (n+4) "zip" [n+4,n,n+1,n+2,n+3,a1,a2] [n+4,n,n+1,n+3] xs.size (λi x y=>xs[i]?=ZA x/\ys[i]?=ZA y) (ZS n a1 a2 t1 t2 xs ys) where
 sub:=λb hb=>by simp only[NG,Ox,or_false]at hb ⊢;rcases hb with rfl|rfl|rfl|rfl <;> simp
 ty:=λi o s q=>zm q
 frame:=λi o h h' ⟨q,s1,s2,z⟩ e=>by
  have up:∀c:Nat,(n<=c/\c<n+5)\/c=a1\/c=a2->∀ob,h.get? c=ZA ob->h'.get? c=ZA ob:=λc hc ob g=>e c (by
   simp only[NG,Ox,or_false];rcases hc with hc|rfl|rfl
   ·have:c=n\/c=n+1\/c=n+2\/c=n+3\/c=n+4:=by omega
    rcases this with rfl|rfl|rfl|rfl|rfl <;> simp
   ·simp
   ·simp) ob g
  refine⟨q.keep λc o h1 h2 g=>up c (.inl ⟨h1,Pr h2⟩) o g,s1.keep λo g=>up a1 (.inr (.inl rfl)) o g,s2.keep λo g=>up a2 (.inr (.inr rfl)) o g,?_⟩
  cases o with
  |none=>exact up (n+4) (.inl ⟨by omega,by omega⟩) _ z
  |some T=>obtain⟨f,z⟩:=z;exact⟨f,up (n+4) (.inl ⟨by omega,by omega⟩) _ z⟩
 item:=λi o s Q E hi ⟨q,s1,s2,z⟩ al kq=>by
  have hx:xs[i]?=ZA xs[i]:=SN hi
  have hy:ys[i]?=ZA ys[i]:=SN (hl▸hi)
  have hy':s.TypeIs (.ref (n+4)) "zip":=zm (o:=o) ⟨q,s1,s2,z⟩
  have nw:∀{b:ZE},b∉ [n+4,n,n+1,n+3]->b≠n/\b≠n+1/\b≠n+3/\b≠n+4:=λ{b} hb=>by
   simp only[NG,Ox,or_false,not_or]at hb;exact⟨hb.2.1,hb.2.2.1,hb.2.2.2,hb.1⟩
  unfold pyNext;refine Nq (Qh (Og (name:=NM "__next__") hy' O8 (Ol O8 hy' Rl ?_ (Q4 _))))
  cases o with
  |none=>
   refine EK q z s1 s2 (.inl b1) (.inl b2) hx hy λh' p hs ip zo zw kp=>Nz (kq p h' s.toks _ _ ⟨hx,hy⟩ hs ip ⟨zw,s1.keep λo g=>kp _ _ (bL (by omega)) (bL (by omega)) (bL (by omega)) (bL (by omega)) g,s2.keep λo g=>kp _ _ (bL (by omega)) (bL (by omega)) (bL (by omega)) (bL (by omega)) g,ZD,zo⟩ λb ob hb g=>?_)
   obtain⟨c1,c2,c3,c4⟩:=nw hb
   exact kp b ob c1 c2 c3 c4 g
  |some T=>
   obtain⟨f,z⟩:=z;obtain⟨ob,hT⟩:=al T rfl;refine EJ q z hT s1 s2 b1 b2 hx hy λh' p hs ip zo zw kp=>Nz (kq p h' s.toks _ _ ⟨hx,hy⟩ hs ip ⟨zw,s1.keep λo g=>kp _ _ (bL (by omega)) (bL (by omega)) (bL (by omega)) g,s2.keep λo g=>kp _ _ (bL (by omega)) (bL (by omega)) (bL (by omega)) g,ZC,zo⟩ λb ob hb g=>?_)
   obtain⟨c1,c2,c3,c4⟩:=nw hb;exact kp b ob c1 c2 c4 g
 done:=λo s Q E ⟨q,s1,s2,z⟩ al kq=>by
  have hy':s.TypeIs (.ref (n+4)) "zip":=zm (o:=o) ⟨q,s1,s2,z⟩
  have fin:∀h' e,(∀c ob,c≠n->c≠n+1->c≠n+3->c≠n+4->s.heap.get? c=ZA ob->h'.get? c=ZA ob)->(∃o,h'.get? e=ZA o/\o.cls=.type "StopIteration")->ZJ (ZK prog w) A (Gy e) Q E {s with heap:=h'}:=λh' e kp he=>by
   obtain⟨o,ho,hc⟩:=he;refine Nq (Se (T:="StopIteration") (b:=ZC) ⟨o,ho,hc⟩ SU (Nz (kq h' s.toks λb ob hb g=>?_)))
   simp only[NG,Ox,or_false,not_or]at hb;exact kp b ob hb.2.1 hb.2.2.1 hb.2.2.2 hb.1 g
  have hend:xs[xs.size]?=ZB:=RP (NL _)
  unfold pyNext;refine Nq (Qh (Og (name:=NM "__next__") hy' O8 (Ol O8 hy' Rl ?_ (Q4 _))))
  cases o with
  |none=>exact HD hh q z s1 s2 (.inl b1) (.inl b2) (.inl hend) λh' e kp he=>fin h' e kp he
  |some T=>
   obtain⟨f,z⟩:=z;obtain⟨ob,hT⟩:=al T rfl;exact EI hh q z hT s1 b1 hend λh' e kp he=>fin h' e (λc ob c1 _ _ c4 g=>kp c ob c1 c4 g) he
 self:=λi o s Q E q h=>by
  have hy':s.TypeIs (.ref (n+4)) "zip":=zm q;refine S8 hy' Su (Ol Su hy' V4 ?_ (Vs _))
  show ZJ _ _ (ret (.ref (n+4))) _ _ s
  exact Nz ⟨_,rfl,"zip",_,hy',O8.lookup,h⟩
end
section
variable {T:String}{fp wr:List ZE}{St:Nat->Option ZE->ZH->Prop}
def yx{Q:List NA->NB->Prop}(W:PW prog w A.in1 I T fp wr n R St)(hn:n<=ZI)(hfp:∀b:Nat,b∈fp->b<s.heap.objs.size)(hI:I∈fp)(hst:St 0 ZB s.heap)
  (t1:(OM T == OM "list")=ZD) (t2:(OM T == OM "tuple")=ZD) (nl:Qw (.type T) "__len__" =pure ZB) (nh:Qw (.type T) "__length_hint__" =pure ZB)
  (hQ:∀h' tk (ps:List ZE),(∀b ob,b∉wr->s.heap.get? b=ZA ob->h'.get? b=ZA ob)->ps.length=n->(∀(j:Nat)(p:Nat),ps[j]?=ZA p->s.heap.objs.size<=p/\∃x y,R j x y/\P6 h' p x y)->Q (ps.map NQ) {s with heap:=h',toks:=tk}):
  ZJ (ZK prog w) A (collect (.ref I)) Q E s:=by
 have hSf:s.heap.objs.size∉fp:=λhm=>N4 _ (hfp _ hm)
 unfold collect;refine Nq (wpAny_runValue (P4 F.entry_proto_collect ?_))
 rw[Pd F.plain_proto_collect _]
 show ZJ _ A.in1 (newList [] >>= λl=>again (.builtin "list.__iadd__" ⟨[l,.ref I],[]⟩)) _ _ s
 refine Nq (OR ?_)
 refine Nz ⟨QK Vt _,P4 F.entry_list_iadd ?_⟩
 rw[Pd Vt _]
 have up:∀b ob,s.heap.get? b=ZA ob->(s.heap.push (je [] 0)).get? b=ZA ob:=λb ob e=>Nr _ e
 show ZJ _ A.in1 (QR (.ref s.heap.objs.size) (.ref I) (.ref s.heap.objs.size)) _ _ {s with heap:=s.heap.push (je [] 0)}
 refine A1 (RR:=λr s'=>match r with
  |.ok (.ret v)=>ZJ (ZK prog w) A (match v with
   |.ref a=>do
    let o <-load a
    match o.data with
    |.seq xs _=>pure xs.toList
    |_=>unsupported "internal:collect"
   |_=>unsupported "internal:collect") Q E s'
  |.ok _=>False
  |.error e=>E e s') (s:={s with heap:=s.heap.push (je [] 0)}) W hn hSf hI (λb hb=>?_) _ (W.frame _ _ _ _ hst λb _ ob e=>up b ob e) (NI _ rfl) t1 t2 nl nh λh' tk ps c' kp hS hl hp=>?_
 ·rw[Ov];exact Pr (hfp b (W.sub b hb))
 show ZJ _ A (load s.heap.objs.size >>= _) _ _ _
 refine Nq (wpAny_load hS ?_)
 show ZJ _ A (pure (ps.map NQ).toArray.toList) Q E _
 refine Nz (hQ h' tk ps (λb ob hb e=>kp b ob (Oh (NJ e)) hb (up b ob e)) hl λj p hj=>?_)
 obtain⟨a,r⟩:=hp j p hj;rw[Ov]at a;exact⟨Q3 a,r⟩
end
end PySem
namespace Tr
open PySem PySem.Spec PyProof.Rows L2 PySem.W
theorem qo:∀{vs:List NA}{ns:List Int},PH vs ns->PySem.ItemsAre (intKind prog w) ns vs
 |_,_,.nil=>.nil
 |_,_,.cons n t r=>.cons (by show UF n (.int n t)=ZC;simp[UF]) (qo r)
def VN(h:ZH)(v:NA)(ns:List Int):Prop:=∃a t k b its ms,v=.ref a/\P6 h a (.int t k) (.ref b)/\h.IsTuple b its/\PH its.toList ms/\ns=t::ms
def Dj(t u:Int)(a b:List Int):cz (t::a) (u::b)=if t=u then cz a b else decide (t<u):=rfl
theorem Gm{a:Int}{t u:Tok}{Q:Bool->NB->Prop}(h:Q (decide (a<b)) s):∀k,ZJ (ZK prog w) A (oneLt' k (.int a t) (.int b u)) Q E s
 |true=>oneLt_int h
 |false=>by
  rw[oneLt'_eq];simp only[N8,if_false];exact Nq (wpAny_lt_int (show ZJ (ZK prog w) A (truthOfDropped (.bool (decide (a<b)))) Q E s from OY h))
theorem Di:∀(l m:List Int),HT.lexLt l m=cz l m
 |[],[] =>rfl
 |[],_::_=>rfl
 |_::_,[] =>rfl
 |a::l,b::m=>by
  rw[HT.lexLt_cons,Di l m]
  rfl
def rkN:RK where
 V:=VN
 inj:=λ⟨a,t,k,b,its,ms,e,p,q,i,r⟩ ⟨a',t',k',b',its',ms',e',p',q',i',r'⟩=>by
  subst e;cases e'
  have pp:=Om (p.symm.trans p');injection pp with _ _ pd
  injection pd with px
  have px':=congrArg SG px;simp only[Sn,Pc.injEq,NQ.injEq,and_true]at px';obtain⟨⟨rfl,rfl⟩,rfl⟩:=px';obtain⟨o,ho,_,n,hd⟩:=q;obtain⟨o',ho',_,n',hd'⟩:=q';rw[ho]at ho';cases ho';rw[hd]at hd';cases hd';rw[r,r',<-i.nums,<-i'.nums]
 on:=λ⟨a,t,k,b,its,ms,e,p,⟨o,ho,q⟩,i,r⟩ up=>⟨a,t,k,b,its,ms,e,up _ _ p,⟨o,up _ _ ho,q⟩,i,r⟩
 fst:=λ⟨a,t,k,b,its,ms,e,p,q,i,r⟩=>⟨a,_,_,_,t,k,e,p,rfl,rfl,rfl⟩
 lt:=λ{prog w A s E x y a b Q} hu ⟨xa,t,k,xb,xi,xm,ex,xp,xq,xi',xr⟩ ⟨ya,u,k',yb,yi,ym,ey,yp,yq,yi',yr⟩ q=>by
  subst ex ey xr yr;refine kat_lt xp rfl yp rfl ?_
  refine kat_cons (TB ?_)
  rw[Dj]at q
  by_cases z:t=u
  ·rw[beq_iff_eq.mpr z]
   rw[if_pos z]at q;refine kat_yes (kat_cons (wpAny_eqBool_tuple (knd:=intKind prog w) (by omega) ?_ ?_ (x:=xm) (y:=ym) ?_))
   ·obtain⟨o,ho,hc,n,hd⟩:=xq;exact⟨o,xi,n,ho,hc,hd,qo xi'⟩
   ·obtain⟨o,ho,hc,n,hd⟩:=yq;exact⟨o,yi,n,ho,hc,hd,qo yi'⟩
   ·by_cases z2:xm=ym
    ·rw[decide_eq_true z2]
     subst z2;rw[iU]at q;exact kat_yes (kat_nil q)
    ·rw[decide_eq_false z2]
     refine kat_no (kat_one _ _ (HT.lt_tupInts xq yq xi' yi' (by omega) ?_))
     rw[Di];exact q
  ·rw[beq_eq_false_iff_ne.mpr z]
   rw[if_neg z]at q;exact kat_no (Gm q _)
end Tr
namespace L2
open PySem PySem.Spec PyProof.Rows
def Gi(n:Nat)(H:Hp)(f:ZE->Option HO):Hp:=λa=>if (a:Nat)<n then H a else f a
variable{a b:ZE}
section
variable {X:Cx}{bv:W2}{σ:List (Option V)}{H:Hp}{h':ZH}{f:ZE->Option HO}
def uW(h:(a:Nat)<n):Gi n H f a=H a:=by unfold Gi;rw[if_pos h]
def uX(h:n<=(a:Nat)):Gi n H f a=f a:=by unfold Gi;rw[if_neg (Nat.not_lt.mpr h)]
def Inv.tlt(I:Inv X bv σ H s){o:HO}(e:H b=ZA o):(b:Nat)<s.heap.objs.size:=(I.hok b o e).lt
def Inv.GT(I:Inv X bv σ H s){o:HO}(e:H b=ZA o):Gi s.heap.objs.size H f b=ZA o:=by rw[uW (I.tlt e)];exact e
def Inv.M7(I:Inv X bv σ H s)(k:∀b u,s.heap.get? b=ZA u->h'.get? b=ZA u)(hf:∀a o,s.heap.objs.size<=(a:Nat)->f a=ZA o->ObjOk X.prog X.w (Gi s.heap.objs.size H f) h' a o):
  Inv X bv σ (Gi s.heap.objs.size H f) {s with heap:=h',toks:=t'}:=by
 refine I.un ⟨λb u q _ _ _=>k b u q,λb u q _ _ _=>⟨u.slots,k b u q⟩,λb u q n _=>by rw[uW (NJ q)];exact n,λb u q _=>⟨u,k b u q⟩,λb xs q=>I.GT q,λb o u q=>I.GT q,λb ps q=>⟨#[],by rw[I.GT q];simp⟩⟩ λb u e=>?_
 by_cases hb:(b:Nat)<s.heap.objs.size
 ·rw[uW hb]at e
  exact(I.hok b u e).Mm (λc v _ q=>k c v q) (λc q=>I.GT q) λc xs q=>I.GT q
 ·rw[uX (Tv hb)]at e
  exact hf b u (Tv hb) e
end
end L2
namespace Tr
open PySem PySem.Spec PyProof.Rows L2
def J5:NA->V
 |.int n _=>.int n
 |.ref a=>.ref a
 |_=>.non
def Am(h:ZH)(a:ZE):List NA:=match h.get? a with
 |some o=>match o.data with
  |.seq xs _=>xs.toList
  |_=>[]
 |none=>[]
def xg(h:ZH)(r:ZE)(out:List NA):ZE->Option HO:=λa=>by
 classical exact if a=r then ZA (.lst (out.map J5))else if NQ a∈out then ZA (.tup ((Am h a).map J5))else ZB
variable{H:Hp}{O:Ow}{X:Cx}{a b:ZG}{p p1:Pos}
section
variable {fs:W3}{p2 pos:Pos}
theorem sd:∀{m:List T}{ns:List Int},eh m=ZA ns->m=ns.map .int
 |[],ns,h=>by cases h;rfl
 |t::m,ns,h=>by
  cases t with
  |int i=>
   unfold eh at h;obtain⟨k,h1,rfl⟩:=O5.mp h
   rw[sd h1];rfl
  |_=>cases h
theorem wu:∀{m:List T}{ks:List (List Int)},rowsT m=ZA ks->∀(j:Nat)(t:T),m[j]?=ZA t->∃ns,ks[j]?=ZA ns/\t=.tup (ns.map .int)
 |[],ks,h,j,t,e=>by cases e
 |u::m,ks,h,j,t,e=>by
  cases u with
  |tup l=>
   unfold rowsT at h
   split at h
   ·rename_i ns k' h1 h2
    by_cases ne:ns=[]
    ·rw[if_pos ne]at h;cases h
    ·rw[if_neg ne]at h;cases h
     cases j with
     |zero=>cases e;exact⟨ns,rfl,by rw[sd h1]⟩
     |succ j=>obtain⟨ms,q1,q2⟩:=wu h2 j t (by simpa using e);exact⟨ms,by simpa using q1,q2⟩
   ·cases h
  |_=>cases h
theorem pk:∀{m:List T}{ks:List (List Int)},rowsT m=ZA ks->m.length=ks.length
 |[],ks,h=>by cases h;rfl
 |u::m,ks,h=>by
  cases u with
  |tup l=>
   unfold rowsT at h
   split at h
   ·rename_i ns k' h1 h2
    by_cases ne:ns=[]
    ·rw[if_pos ne]at h;cases h
    ·rw[if_neg ne]at h;cases h
     rw[ND,ND,pk h2]
   ·cases h
  |_=>cases h
theorem zI:∀{l:List T}{vs:List V}{j:Nat}{t:T},Reps K O H l vs->l[j]?=ZA t->∃v,vs[j]?=ZA v/\Rep K O H t v
 |[],_,_,_,_,e=>by cases e
 |_::_,_,0,_,r,e=>by obtain⟨v,ws,rfl,p,q⟩:=Reps.me.mp r;cases e;exact⟨v,rfl,p⟩
 |_::_,_,j+1,_,r,e=>by obtain⟨v,ws,rfl,p,q⟩:=Reps.me.mp r;obtain⟨u,h1,h2⟩:=zI q (by simpa using e);exact⟨u,by simpa using h1,h2⟩
theorem wG{g:NA->T}:∀{us:List NA},(∀u∈us,Rep K O H (g u) (J5 u))->Reps K O H (us.map g) (us.map J5)
 |[],_=>Reps.nil_
 |u::us,h=>Reps.FM (h u Nv) (wG λv hv=>h v (Nu _ hv))
theorem vP:∀{us:List NA},(∀u∈us,RelV (J5 u) u)->Vals (us.map J5) us
 |[],_=>.nil
 |u::us,h=>.cons (h u Nv) (vP λv hv=>h v (Nu _ hv))
def IC(hu:X.A.units+70<cLine)(hc:X.calm=ZC)(hm:X.mg "sorted" =ZB)(hmz:X.mg "zip" =ZB)(ha:tD X [a,b] fs)(hst:autoParam (bP [a,b]=ZC) u_)(hg:autoParam (Gl X "sorted") u_)(hgz:autoParam (Gl X "zip") u_):
  cQ X (.Call (.Name "sorted" p) [.Call (.Name "zip" p1) [a,b] [] p2] [] pos) (cl E9 fs):=by
 intro bv s σ H Q I ⟨Z,O,Ev,hq⟩
 have e1:NZ [PU (.Name "zip" p1) [a,b] [] p2] X.env=(ZD,eval (.Call (.Name "zip" p1) [a,b] [] p2) X.env)::NZ [] X.env:=bo rfl;unfold bP at hst;rw[NC]at hst
 have e2:NZ [a,b] X.env=(ZD,eval a X.env)::NZ [b] X.env:=bo hst.1;refine OS (fR I hg hm (show Oq "sorted" =ZA (.builtin "sorted")by decide+kernel) ?_ (by decide) (by decide))
 refine Qy ?_ e1 rfl
 rw[e1];refine Qb ?_
 refine OS (fR I hgz hmz (show Oq "zip" =ZA (.type "zip")by decide+kernel) ?_ (by decide) (by decide))
 refine On (cF (ha p2 bv s σ H _ I (fq Ev hq)) λus s1 ⟨vs,H1,I1,r1,ts,rs,s',E',q1⟩=>?_) e2 (gJ hst.2)
 unfold E9 at q1
 split at q1
 ·rename_i x y
  split at q1
  ·rename_i l m hl hm'
   split at q1
   ·rename_i tn km htn hkm
    by_cases hz:tn.length=km.length/\0<tn.length/\tn.length<64
    ·rw[if_pos hz]at q1
     obtain⟨v1,vs1,rfl,ra,rb⟩:=Reps.me.mp rs;obtain⟨v2,rfl,rc⟩:=rb.one;obtain⟨c1,k1,w1,rfl,n1,rx,sx,_,nx⟩:=G6 hl ra;obtain⟨c2,k2,w2,rfl,n2,ry,sy,_,ny⟩:=G6 hm' rc
     cases r1 with
     |cons z1 z2=>
      obtain⟨u2,rfl,z3⟩:=Vals.one z2;cases z1;obtain rfl:u2=NQ c2:=z3;obtain⟨i1,y1,a1,_⟩:=v7 I1 sx;obtain⟨i2,y2,a2,_⟩:=v7 I1 sy
      have hi:=fO htn rx y1
      have l1:i1.length=tn.length:=hi.length
      have l2:i2.length=tn.length:=by rw[<-y2.length,<-ry.length,pk hkm];exact hz.1.symm
      have lt1:=a1.lt
      have lt2:=a2.lt;refine EL a1 a2 λh' g1 g2 g3 g4=>?_
      refine Qq ?_
      have szn:i1.toArray.size=tn.length:=by rw[NP];exact l1
      refine Fd (R:=rkN) (s:={s1 with heap:=h'}) (by omega) λA' hA'=>?_
      refine yx (s:={s1 with heap:=h'}) (IH (t1:=k1) (t2:=k2) (xs:=i1.toArray) (ys:=i2.toArray) (show A'.in1.handled=ZB from hA'.trans (I1.ok.hd hc)) lt1 lt2 (by rw[NP,NP,l1,l2])) (by rw[szn,O9];omega) ?_ (by simp) ⟨g1,a1.keep λo e=>g4 _ _ e,a2.keep λo e=>g4 _ _ e,g2⟩ (by decide) (by decide) F.zip_no_len F.zip_no_hint λh2 tk ps kp hl2 hps=>?_
      ·intro b hb
       show b<h'.objs.size
       rw[g3];simp only[NG,Ox,or_false]at hb;rcases hb with rfl|rfl|rfl|rfl|rfl|rfl|rfl
       ·omega
       ·omega
       ·omega
       ·omega
       ·omega
       ·exact NK lt1 (by omega)
       ·exact NK lt2 (by omega)
      have keep1:∀b ob,s1.heap.get? b=ZA ob->h2.get? b=ZA ob:=λb ob e=>kp b ob (λhb=>by
       have:=NJ e;simp only[NG,Ox,or_false]at hb;rcases hb with rfl|rfl|rfl|rfl
       ·exact absurd this (by show ¬(s1.heap.objs.size+4<s1.heap.objs.size);omega)
       ·exact absurd this (N4 _)
       ·exact absurd this (by show ¬(s1.heap.objs.size+1<s1.heap.objs.size);omega)
       ·exact absurd this (by show ¬(s1.heap.objs.size+3<s1.heap.objs.size);omega)) (g4 b ob e)
      have pair:∀(j:Nat)(q:Nat),ps[j]?=ZA q->s1.heap.objs.size<=q/\∃t k b ms,tn[j]?=ZA t/\km[j]?=ZA ms/\P6 h2 q (.int t k) (.ref b)/\VN h2 (.ref q) (t::ms)/\Rep X.K O H1 (.tup (ms.map .int)) (.ref b):=λj q hj=>by
       obtain⟨hq,x,y,⟨hx,hy⟩,ip⟩:=hps j q hj
       have hq':s1.heap.objs.size<=q:=by have:h'.objs.size<=q:=hq;rw[g3]at this;omega
       rw[List.getElem?_toArray]at hx hy
       obtain⟨t,k,rfl,ht⟩:=hi.at j x hx
       have hj2:j<m.length:=by
        have:=(NN.mp hy).1
        rw[pk hkm,<-hz.1,<-l2];exact this
       obtain⟨ms,hms,em⟩:=wu hkm j m[j] (NF hj2)
       obtain⟨v,hv,rv⟩:=zI ry (NF hj2)
       obtain⟨u,hu',ru⟩:=y2.get hv;rw[hy]at hu';cases hu';rw[em]at rv;obtain⟨b,ws,rfl,nb,hb,rb'⟩:=Rep.Fk.mp rv;obtain rfl:y=NQ b:=ru;obtain⟨its,wv,tp,_⟩:=I1.tuple (SqT.of hb)
       have hin:PH its ms:=fO (l:=ms.map .int) (by
        clear hms em rv rb' hb
        induction ms with
        |nil=>rfl
        |cons i ms ih=>show(eh (ms.map .int)).map (i:: ·)=_;rw[ih];rfl) rb' wv
       refine⟨hq',t,k,b,ms,ht,hms,ip,⟨q,t,k,b,its.toArray,ms,rfl,ip,?_,by simpa using hin,rfl⟩,rv⟩
       obtain⟨o,ho,hr⟩:=tp;exact⟨o,keep1 _ _ ho,hr⟩
      have rowsE:(ps.map NQ).map (rkN.row h2)=T4 RG tn km:=by
       apply Vu
       intro j;rw[Oo,NU,List.getElem?_zipWith]
       cases hj:ps[j]? with
       |none=>
        have:tn[j]?=ZB:=O7 (by have:=SL.mp hj;rw[<-szn,<-hl2];exact this)
        rw[this];rfl
       |some q=>
        obtain⟨_,t,k,b,ms,ht,hk,_,vn,_⟩:=pair j q hj;rw[ht,hk]
        show ZA (rkN.row h2 (.ref q))=ZA (t::ms)
        rw[RK.Ms (R:=rkN) vn]
      refine⟨λv hv=>?_,by rw[Ny,hl2,szn];exact hz.2.2,λout g5 g6=>?_⟩
      ·obtain⟨q,hq,rfl⟩:=NS.mp hv
       obtain⟨j,hj⟩:=Uy hq
       obtain⟨_,t,k,b,ms,_,_,_,vn,_⟩:=pair j q hj;exact⟨_,vn⟩
      have g6':(out.toList.map (rkN.row h2)).Pairwise (λa b=>jf a b=ZC):=g6
      have eo:=mh ((g5.map (rkN.row h2)).trans (by rw[rowsE])) g6'
      have inout:∀u∈out.toList,∃q:Nat,u=.ref q/\s1.heap.objs.size<=q/\∃t k b ms,P6 h2 q (.int t k) (.ref b)/\rkN.row h2 u=t::ms/\Rep X.K O H1 (.tup (ms.map .int)) (.ref b):=λu hu'=>by
       obtain⟨q,hq,rfl⟩:=NS.mp (g5.mem_iff.mp hu');obtain⟨j,hj⟩:=Uy hq
       obtain⟨h1,t,k,b,ms,_,_,ip,vn,rv⟩:=pair j q hj;exact⟨q,rfl,h1,t,k,b,ms,ip,RK.Ms (R:=rkN) vn,rv⟩
      have hoL:(h2.push (seqObj "list" (ps.map NQ).toArray 0)).get? h2.objs.size=ZA (seqObj "list" (ps.map NQ).toArray 0):=NI _ rfl
      obtain⟨ep,hat⟩:=sortedHeap_at (out:=out) hoL
      have keep2:∀b ob,h2.get? b=ZA ob->(Q9 (h2.push (seqObj "list" (ps.map NQ).toArray 0)) h2.objs.size (ps.map NQ) out).get? b=ZA ob:=λb ob e=>by
       have hb:=NJ e;rw[sortedHeap_old (Oh hb) (by rw[Ov];exact Pr hb)]
       exact Nr _ e
      have hz2:s1.heap.objs.size<=h2.objs.size:=by
       match ps,hl2,hps with
       |[],hl2,_=>rw[szn]at hl2;simp at hl2;omega
       |q::_,_,hps=>obtain⟨hq,x,y,_,ip⟩:=hps 0 q rfl;have h3:=NJ ip;have:h'.objs.size<=q:=hq;rw[g3]at this;exact Pe (Qc (by omega) h3)
      have I3:Inv X bv σ (Gi s1.heap.objs.size H1 (xg (Q9 (h2.push (seqObj "list" (ps.map NQ).toArray 0)) h2.objs.size (ps.map NQ) out) h2.objs.size out.toList)) {s1 with heap:=Q9 (h2.push (seqObj "list" (ps.map NQ).toArray 0)) h2.objs.size (ps.map NQ) out,toks:=tk}:=by
       refine I1.M7 (λb ob e=>keep2 _ _ (keep1 _ _ e)) λc o hc' e=>?_
       unfold xg at e
       by_cases cr:c=h2.objs.size
       ·rw[if_pos cr]at e
        cases e;subst cr;refine⟨?_,out.toList,ep,vP λu hu'=>?_,by simpa using hat⟩
        ·rw[Ny,g5.length_eq,Ny,hl2,szn,O9];omega
        ·obtain⟨q,rfl,_⟩:=inout u hu';rfl
       ·rw[if_neg cr]at e
        by_cases co:NQ c∈out.toList
        ·rw[if_pos co]at e
         cases e;obtain⟨q,eq,_,t,k,b,ms,ip,_,_⟩:=inout _ co;cases eq
         have ip2:=keep2 _ _ ip
         have ei:Am (Q9 (h2.push (seqObj "list" (ps.map NQ).toArray 0)) h2.objs.size (ps.map NQ) out) c=[.int t k,.ref b]:=by unfold Am;rw[ip2]
         rw[ei];exact⟨by show 2<=ZI;rw[O9];omega,[.int t k,.ref b],.cons ⟨k,rfl⟩ (.cons rfl .nil),⟨_,ip2,rfl,0,rfl⟩⟩
        ·rw[if_neg co]at e;cases e
      have sm:Same H1 (Gi s1.heap.objs.size H1 (xg (Q9 (h2.push (seqObj "list" (ps.map NQ).toArray 0)) h2.objs.size (ps.map NQ) out) h2.objs.size out.toList)):=λc o e=>I1.GT e
      have fr:∀c:ZE,s1.heap.objs.size<=(c:Nat)->¬ O c:=λc hc'=>E'.fresh (I1.hok.fresh hc')
      refine⟨.ref h2.objs.size,_,I3,rfl,q1 _ sm _ ?_⟩
      refine Rep.Do.mpr ⟨h2.objs.size,out.toList.map J5,rfl,fr _ hz2,?_,?_⟩
      ·rw[uX hz2];unfold xg;rw[if_pos rfl]
      ·rw[<-eo,Oo]
       refine wG λu hu'=>?_
       obtain⟨q,rfl,hq,t,k,b,ms,ip,er,rv⟩:=inout u hu'
       show Rep X.K O _ (unN (rkN.row h2 (.ref q))) (.ref q)
       rw[er];refine Rep.Fk.mpr ⟨q,[.int t,.ref b],rfl,fr q hq,?_,Reps.FM (Rep.GE t) (Reps.FM (rv.same sm) Reps.nil_)⟩
       rw[uX hq];unfold xg
       have ip2:=keep2 _ _ ip
       have nr:q≠h2.objs.size:=Oh (NJ ip);rw[if_neg nr,if_pos hu'];unfold Am;rw[ip2]
       rfl
    ·rw[if_neg hz]at q1;exact q1.elim
   ·exact q1.elim
  ·exact q1.elim
 ·exact q1.elim
end
inductive Fx where
 |nx (Z:En)|rt (t:T) (Z:En)
def mN(Z:En):Rs Fx:=.ok (.nx Z)
def Kx(i:Nat)(Z:En):Rs Fl:=if i<Z.length then .ok (.nx (Z.set i .em))else .bad
def vK(ps:List (Str×Str)):T->Rs T
 |.str x=>match ps.lookup x with
  |some y=>.ok (.str y)
  |none=>.bad
 |_=>.bad
abbrev one(j:Nat)(m:Ow):Mn:=noM.set j m
abbrev BM(B m:Ow):Ow:=λa=>B a\/m a
def AW(K:Nt)(n j:Nat)(g:List Sl->Rs (T×OT)):Sp:=λvs H Q _=>∃sls B m v,Ev K B (one j m) H sls (vs.map ZA)/\sls.length=n/\vs[j]?=ZA v ∧
 match g sls with
 |.ok p=>∀u H' m',SameO m H H'->ORep K (BM B m') m' H' p.2 v->(∀a,m' a->m a\/Nw K H a)->Rep K (BM B m') H' p.1 u->Q u H'
 |_=>False
structure QE (X:Cx)(e:ZG)(f:W5):Prop where
 h:cQ X e f
structure QA (X:Cx)(e:List ZG)(f:W3):Prop where
 h:tD X e f
structure QT (X:Cx)(e:ZG)(f:W6):Prop where
 h:xZ X e f
structure QW (X:Cx)(e:ZG)(f:W6):Prop where
 h:HB X e f
structure QS (X:Cx)(e:ZF)(f:W4):Prop where
 h:qL X e f
structure BF (X:Cx)(e:List ZF)(f:W4):Prop where
 h:lU X e f
structure QG (X:Cx)(e:ZG)(f:T->En->Rs En):Prop where
 h:Ey X e f
structure Mg (X:Cx)(e:List ZG)(f:List T->En->Rs En):Prop where
 h:Ez X e f
structure QI (X:Cx)(t e:ZG)(f:W3):Prop where
 h:BO X t e f
structure QO (X:Cx)(e:Option ZG)(f:En->Rs (Option Int)):Prop where
 h:LU X e f
structure LR (X:Cx)(e:List ZG)(f:W6):Prop where
 h:AI X e (zB X f)
variable{x:Str}
def ae(i:Nat){pos:Pos}(hN:autoParam ((Cx.N X)[i]?=ZA x) u_)(hv:autoParam (vD (Qd (Cx.env X)) x) v_)(hd:autoParam ((x == NM "__debug__")=ZD) s_)(hcd:autoParam ((x == NM "__classdict__")=ZD) s_):QE X (Ot x pos) (vr i):=
 ⟨KN (i:=i) (hN:=hN) (hv:=hv) (hd:=hd) (hcd:=hcd)⟩
def aq{i:Int}{pos:Pos}:QE X (Tg (Const.int i) j pos) (cn (T.int i)):=
 ⟨KZ ⟩
def fo{i:Bool}{pos:Pos}:QE X (Tg (Const.bool i) j pos) (cn (T.bl i)):=
 ⟨q_bl ⟩
def bK{pos:Pos}:QE X (Tg Const.none j pos) (cn T.non):=
 ⟨KS ⟩
def tH{i:Str}{pos:Pos}:QE X (Tg (Const.str i) j pos) (cn (T.str i)):=
 ⟨KP ⟩
def EM{i:Int}{u:NA}{pos:Pos}(hm:Cx.mg X x=ZA u)(r:L2.RelV (V.int i) u)(hg:autoParam (Gl X x) u_)(hd:autoParam ((x == NM "__debug__")=ZD) s_):QE X (Ot x pos) (cn (T.int i)):=
 ⟨ID (hm:=hm) (r:=r) (hg:=hg) (hd:=hd)⟩
def ah:QA X [] ai:=
 ⟨IB ⟩
variable{e:ZG}{es:List ZG}
def ag{f:W5}{g:W3}(he:QE X e f)(hr:QA X es g)(hn:autoParam (bQ e=ZC) u_):QA X (e::es) (af f g):=
 ⟨qa_c (he:=he.h) (hr:=hr.h) (hn:=hn)⟩
variable{f:W3}
def bH{pos:Pos}(h:QA X es f):QE X (Expr.Tuple es x1 pos) (bx f):=
 ⟨KO (h:=h.h)⟩
def eR{pos:Pos}(h:QA X es f):QE X (Expr.List es pos) (dF f):=
 ⟨KW (h:=h.h)⟩
variable{fa fb:W5}{g:T->T->Rs T}
def ax{pos:Pos}{op:Operator}(ho:OpT X (PM op) g)(ha:QE X a fa)(hb:QE X b fb):QE X (Expr.BinOp a op b pos) (o2 g fa fb):=
 ⟨K2 (ho:=ho) (ha:=ha.h) (hb:=hb.h)⟩
variable{op:CmpOp}
def fh{pos:Pos}(ho:OpT X (OD op) g)(ha:QE X a fa)(hb:QE X b fb)(hm:autoParam (Q8 op b=ZD) u_):QE X (VH a [op] [b] pos) (o2 g fa fb):=
 ⟨K1 (ho:=ho) (ha:=ha.h) (hb:=hb.h) (hm:=hm)⟩
def tI{pos:Pos}(ha:QE X a fa):QE X (VI UnaryOp.USub a pos) (o1 uN fa):=
 ⟨KU (ha:=ha.h)⟩
variable{c:ZG}
def vM{fc:W5}{pos:Pos}{op':CmpOp}{g':T->T->Rs T}(ho:OpT X (OD op) g)(ho':OpT X (OD op') g')(ha:QE X a fa)(hb:QE X b fb)(hc:QE X c fc)(hm:autoParam (lastMarks [op,op'] [b,c]=ZD) w_):QE X (VH a [op,op'] [b,c] pos) (ch g g' fa fb fc):=
 ⟨FK (ho:=ho) (ho':=ho') (ha:=ha.h) (hb:=hb.h) (hc:=hc.h) (hm:=hm)⟩
def cb{f:W5}(h:QE X e f)(he:autoParam (∀(whole:Sem NA),PySem.isTrue e (Cx.env X) whole=(do let v <-whole;standAt (Expr.pos e);holding [v] (truthy v))) t_):QT X e (tb f):=
 ⟨Ii (h:=h.h) (he:=he)⟩
def aQ{pos:Pos}(ho:OpT X (OD op) g)(ha:QE X a fa)(hb:QE X b fb)(hm:autoParam (Q8 op b=ZD) u_):QT X (VH a [op] [b] pos) (tb (o2 g fa fb)):=
 ⟨Ik (ho:=ho) (ha:=ha.h) (hb:=hb.h) (hm:=hm)⟩
variable{f:W6}
def iH{pos:Pos}(ha:QT X a f):QW X (Qm Uq [a] pos) f:=
 ⟨Ft (ha:=ha.h)⟩
def gv{pos:Pos}(ha:QT X a f):QW X (Qm U0 [a] pos) f:=
 ⟨Ig (ha:=ha.h)⟩
def kx{pos:Pos}{g:W6}{rest:List ZG}(ha:QT X a f)(hb:QW X (Qm Uq (b::rest) pos) g):QW X (Qm Uq (a::b::rest) pos) (iZ f g):=
 ⟨Ih (ha:=ha.h) (hb:=hb.h)⟩
def i0{pos:Pos}{g:W6}{rest:List ZG}(ha:QT X a f)(hb:QW X (Qm U0 (b::rest) pos) g):QW X (Qm U0 (a::b::rest) pos) (lW f g):=
 ⟨KG (ha:=ha.h) (hb:=hb.h)⟩
def gG(h:QW X e f):QT X e f:=
 ⟨qt_w (h:=h.h)⟩
def di{pos:Pos}(ha:QT X a f):QT X (VI UnaryOp.Not a pos) (dg f):=
 ⟨Ij (ha:=ha.h)⟩
def et{pos:Pos}{op:BoolOp}(h:QE X a fa):QE X (Qm op [a] pos) fa:=
 ⟨KQ (h:=h.h)⟩
def eC{pos:Pos}{rest:List ZG}(ha:QE X a fa)(hb:QE X (Qm Uq (b::rest) pos) fb):QE X (Qm Uq (a::b::rest) pos) (cL fa fb):=
 ⟨K3 (ha:=ha.h) (hb:=hb.h)⟩
def BV{pos:Pos}{rest:List ZG}(ha:QE X a fa)(hb:QE X (Qm U0 (b::rest) pos) fb):QE X (Qm U0 (a::b::rest) pos) (BJ fa fb):=
 ⟨q_or (ha:=ha.h) (hb:=hb.h)⟩
def x5{pos:Pos}(ha:QE X a fa):QE X (VI UnaryOp.Not a pos) (o1 yH fa):=
 ⟨KR (ha:=ha.h)⟩
def nJ{pos:Pos}(hc:QT X c f)(ha:QE X a fa)(hb:QE X b fb):QE X (Expr.IfExp c a b pos) (qu f fa fb):=
 ⟨q_if (hc:=hc.h) (ha:=ha.h) (hb:=hb.h)⟩
def aM{pos:Pos}(ha:QE X a fa)(hb:QE X b fb)(hs:autoParam (AH b) x_):QE X (PY a b pos) (o2 aX fa fb):=
 ⟨q_ix (ha:=ha.h) (hb:=hb.h) (hs:=hs)⟩
def BS:QO X ZB pN:=
 ⟨FC ⟩
def BR(ha:QE X a fa):QO X (ZA a) (pS fa):=
 ⟨FA (ha:=ha.h)⟩
def BU{pos:Pos}{lo hi:Option ZG}{p2:Pos}{fl fu:En->Rs (Option Int)}(ha:QE X a fa)(hl:QO X lo fl)(hu:QO X hi fu):QE X (PY a (Expr.Slice lo hi ZB p2) pos) (sl fa fl fu):=
 ⟨FJ (ha:=ha.h) (hl:=hl.h) (hu:=hu.h)⟩
variable{g:List T->Rs T}
def dA{fs:W3}{pos:Pos}{id:String}(hc:CallT X (Value.builtin id) g)(hm:Cx.mg X x=ZB)(hv:Oq x=ZA (Value.builtin id))(ha:QA X (e::es) fs)(hn:autoParam (bP (e::es)=ZC) u_)(hg:autoParam (Gl X x) u_)(h1:autoParam (x≠NM "__name__") s_)(h2:autoParam ((x == NM "__debug__")=ZD) s_):QE X (PU (Ot x p) (e::es) [] pos) (cl g fs):=
 ⟨q_cB (hc:=hc) (hm:=hm) (hv:=hv) (ha:=ha.h) (hn:=hn) (hg:=hg) (h1:=h1) (h2:=h2)⟩
def oP{fs:W3}{pos:Pos}(hc:CallT X (OM Ty) g)(hm:Cx.mg X x=ZB)(hv:Oq x=ZA (OM Ty))(ha:QA X (e::es) fs)(hn:autoParam (bP (e::es)=ZC) u_)(hg:autoParam (Gl X x) u_)(h1:autoParam (x≠NM "__name__") s_)(h2:autoParam ((x == NM "__debug__")=ZD) s_):QE X (PU (Ot x p) (e::es) [] pos) (cl g fs):=
 ⟨q_cT (hc:=hc) (hm:=hm) (hv:=hv) (ha:=ha.h) (hn:=hn) (hg:=hg) (h1:=h1) (h2:=h2)⟩
variable{ps:List Str}
def zq_c{fs:W3}{pos:Pos}{k:Nat}{f:ZE}(F:J9 (Cx.prog X) (Cx.w X) (Cx.K X) (Cx.mg X) (Cx.base X) k f fd ps n g)(hr:Room k (Cx.A X))(hm:Cx.mg X x=ZA (NQ f))(hk:W.keepIn (Cx.K X) (NQ f)=ZC)(hb:L2.Binds (Cx.K X) fd ps [])(hl:∀(Z:En)(ts:List T),fs Z=Rs.ok ts->O0 ts=n)(ha:QA X (e::es) fs)(hps:autoParam (O0 ps=n) u_)(hn:autoParam (bP (e::es)=ZC) u_)(hg:autoParam (Gl X x) u_)(h2:autoParam ((x == NM "__debug__")=ZD) s_):QE X (PU (Ot x p) (e::es) [] pos) (cl g fs):=
 ⟨q_c (F:=F) (hr:=hr) (hm:=hm) (hk:=hk) (hb:=hb) (hl:=hl) (ha:=ha.h) (hps:=hps) (hn:=hn) (hg:=hg) (h2:=h2)⟩
def BW{pos p2:Pos}{tn:Str}(hm:Cx.mg X (NM "isinstance")=ZB)(hmt:Cx.mg X tn=ZB)(hv:Oq tn=ZA (OM Ty))(ha:QE X a fa)(hn:autoParam (bQ a=ZC) u_)(hg:autoParam (Gl X (NM "isinstance")) u_)(hgt:autoParam (Gl X tn) u_)(h1:autoParam (tn≠NM "__name__") s_)(h2:autoParam ((tn == NM "__debug__")=ZD) s_):QE X (PU (Ot (NM "isinstance") p) [a,Ot tn p2] [] pos) (o1 (Gv Ty) fa):=
 ⟨q_is (hm:=hm) (hmt:=hmt) (hv:=hv) (ha:=ha.h) (hn:=hn) (hg:=hg) (hgt:=hgt) (h1:=h1) (h2:=h2)⟩
def aj{pos:Pos}(i:Nat)(hN:Oi (Cx.N X))(hi:autoParam ((Cx.N X)[i]?=ZA x) u_)(hx:autoParam (L2.Loc (Qd (Cx.env X)) x) y_)(hf:autoParam (Cx.fn X x=ZC\/Ro x (Th (Qd (Cx.env X)))=ZA NameKind.local) r_):QG X (Ot x pos) (gN i):=
 ⟨FH (i:=i) (hN:=hN) (hi:=hi) (hx:=hx) (hf:=hf)⟩
def cu:Mg X [] jh:=
 ⟨FG ⟩
variable{g:T->En->Rs En}{gs:List T->En->Rs En}
def aK(h1:QG X e g)(h2:Mg X es gs)(hs:autoParam (Uo (λx=>Prod.snd x) (Pv (e::es) (Cx.env X))=assign e (Cx.env X)::Uo (λx=>Prod.snd x) (Pv es (Cx.env X))) u_):Mg X (e::es) (du g gs):=
 ⟨Cz (h1:=h1.h) (h2:=h2.h) (hs:=hs)⟩
def dj{pos:Pos}{k:Nat}(hc:Cx.calm X=ZC)(h:Mg X es gs)(hn:autoParam (O0 (Pv es (Cx.env X))=n) u_)(hst:autoParam (List.findIdx? (λx=>Prod.fst x) (Pv es (Cx.env X))=ZB) u_):QG X (Expr.Tuple es k pos) (gT n gs):=
 ⟨IA (hc:=hc) (h:=h.h) (hn:=hn) (hst:=hst)⟩
variable{tg:ZG}
def dC{fs:W3}{pos:Pos}(hm:Cx.mg X (NM "range")=ZB)(ha:QA X [a] fs)(hg:autoParam (Gl X (NM "range")) u_)(hs:autoParam (NZ [a] (Cx.env X)=[(ZD,eval a (Cx.env X))]) u_):QI X tg (PU (Ot (NM "range") p) [a] [] pos) (iR fs):=
 ⟨A0 (hm:=hm) (ha:=ha.h) (hg:=hg) (hs:=hs)⟩
def oO{fs:W3}{pos:Pos}(hm:Cx.mg X (NM "range")=ZB)(ha:QA X [a,b] fs)(hg:autoParam (Gl X (NM "range")) u_)(hs:autoParam (NZ [a,b] (Cx.env X)=[(ZD,eval a (Cx.env X)),(ZD,eval b (Cx.env X))]) u_)(hs2:autoParam (NZ [b] (Cx.env X)=[(ZD,eval b (Cx.env X))]) u_):QI X tg (PU (Ot (NM "range") p) [a,b] [] pos) (iR fs):=
 ⟨AZ (hm:=hm) (ha:=ha.h) (hg:=hg) (hs:=hs) (hs2:=hs2)⟩
def cE:LR X [] bT:=
 ⟨FE ⟩
def gI(h:QT X c f):LR X [c] f:=
 ⟨FD (h:=h.h)⟩
variable{N':List Str}{elt iter:ZG}{fc:W6}{fe:W5}{fi:W3}{ifs:List ZG}{tgt:T->En->Rs En}
def fK{pos:Pos}{src:List (Option Nat)}(hc:Cx.calm X=ZC)(S:LcScope X scope N' src)(hi:QI X tg iter fi)(block:∀(cl:List (Str×ZE))(C:ZE)(s₀:NB)(H₀:Hp)(fp:List ZE),QG (bN X scope cl N' C s₀ H₀ fp) tg tgt/\LR (bN X scope cl N' C s₀ H₀ fp) ifs fc/\QE (bN X scope cl N' C s₀ H₀ fp) elt fe)(hs:autoParam (∀(x:NA),Ou iter (Cx.env X) x=pure x) t_):QE X (U1 elt [{target:=tg,iter:=iter,ifs:=ifs,is_async:=0}] scope pos) (ee fi src tgt fc fe):=
 ⟨q_lc (hc:=hc) (S:=S) (hi:=hi.h) (block:=λa1 a2 a3 a4 a5=>⟨(block a1 a2 a3 a4 a5).1.h,(block a1 a2 a3 a4 a5).2.1.h,(block a1 a2 a3 a4 a5).2.2.h⟩) (hs:=hs)⟩
def aZ:BF X [] sN:=
 ⟨Cu ⟩
variable{G:W4}{st:ZF}
def ak{rest:List ZF}{F:W4}(h1:QS X st F)(h2:BF X rest G):BF X (st::rest) (aw F G):=
 ⟨Fz (h1:=h1.h) (h2:=h2.h)⟩
def ar{F:W4}(h:QS X st F):BF X [st] F:=
 ⟨Io (h:=h.h)⟩
def az{pos:Pos}(ha:QE X a fa):QS X (Stmt.Return (ZA a) pos) (aL fa):=
 ⟨Il (ha:=ha.h)⟩
def bF{pos:Pos}{A B:List ZF}{F:W4}(hc:QT X c f)(ha:BF X A F)(hb:BF X B G):QS X (Stmt.If c A B pos) (dQ f F G):=
 ⟨KJ (hc:=hc.h) (ha:=ha.h) (hb:=hb.h)⟩
variable{py spos:Pos}{y:Str}
def BQ{pos:Pos}{src:List (Option Nat)}(i:Nat)(hc:Cx.calm X=ZC)(S:LcScope X scope N' src)(hi:QI X tg iter fi)(block:∀(cl:List (Str×ZE))(C:ZE)(s₀:NB)(H₀:Hp)(fp:List ZE),QG (bN X scope cl N' C s₀ H₀ fp) tg tgt/\LR (bN X scope cl N' C s₀ H₀ fp) ifs fc/\QE (bN X scope cl N' C s₀ H₀ fp) elt fe)(hN:Oi (Cx.N X))(hiy:autoParam ((Cx.N X)[i]?=ZA y) u_)(hy:autoParam (L2.Loc (Qd (Cx.env X)) y) y_)(hsw:autoParam (OQ (U1 elt [{target:=tg,iter:=iter,ifs:=ifs,is_async:=0}] scope pos) (ZA (Ot y py)) (Q5 spos) (Cx.env X)=pure ZC) u_)(hf:autoParam (Cx.fn X y=ZC\/Ro y (Th (Qd (Cx.env X)))=ZA NameKind.local) r_)(hs:autoParam (∀(x:NA),Ou iter (Cx.env X) x=pure x) t_):QS X (RV [Ot y py] (U1 elt [{target:=tg,iter:=iter,ifs:=ifs,is_async:=0}] scope pos) spos) (cM (ee fi src tgt fc fe) (gN i)):=
 ⟨KI (i:=i) (hc:=hc) (S:=S) (hi:=hi.h) (block:=λa1 a2 a3 a4 a5=>⟨(block a1 a2 a3 a4 a5).1.h,(block a1 a2 a3 a4 a5).2.1.h,(block a1 a2 a3 a4 a5).2.2.h⟩) (hN:=hN) (hiy:=hiy) (hy:=hy) (hsw:=hsw) (hf:=hf) (hs:=hs)⟩
def aH{pos:Pos}(ha:QE X a fa)(hg:QG X tg g)(hs:autoParam (U6 [tg] a (Q5 pos) (Cx.env X)=pure ZD) u_)(hw:autoParam (U7 [tg] a (Cx.env X)=pure ZB) u_)(h1:autoParam (Uo (λx=>Prod.snd x) (Pv [tg] (Cx.env X))=[assign tg (Cx.env X)]) u_):QS X (RV [tg] a pos) (cM fa g):=
 ⟨Iv (ha:=ha.h) (hg:=hg.h) (hs:=hs) (hw:=hw) (h1:=h1)⟩
def dG{pos:Pos}(ha:QE X a fa)(hs:autoParam (OQ a ZB (Q5 pos) (Cx.env X)=pure ZD) u_):QS X (Stmt.Expr a pos) (rZ fa):=
 ⟨Fy (ha:=ha.h) (hs:=hs)⟩
variable{body:List ZF}
def bM{pos:Pos}{F:W4}(hc:Cx.calm X=ZC)(hi:QI X tg iter fi)(hg:QG (Cx.nox X) tg g)(hb:BF (Cx.nox X) body F)(hs:autoParam (∀(x:NA),Ou iter (Cx.env X) x=pure x) t_):QS X (Stmt.For tg iter body [] pos) (dS fi g F):=
 ⟨Iq (hc:=hc) (hi:=hi.h) (hg:=hg.h) (hb:=hb.h) (hs:=hs)⟩
def AK{pos:Pos}{F:W4}(n:Nat)(hc:QT (Cx.nox X) c fc)(hb:BF (Cx.nox X) body F):QS X (Stmt.While c body [] pos) (cf fc F n):=
 ⟨Cr (n:=n) (hc:=hc.h) (hb:=hb.h)⟩
def bz(ha:QE X a fa):QI X tg a (iS fa):=
 ⟨Iz (ha:=ha.h)⟩
def fX{fs:W3}{pos:Pos}{elts:List ZG}{tpos:Pos}(hm:Cx.mg X (NM "enumerate")=ZB)(ha:QA X [a] fs)(hg:autoParam (Gl X (NM "enumerate")) u_)(hs:autoParam (NZ [a] (Cx.env X)=[(ZD,eval a (Cx.env X))]) u_):QI X (Expr.Tuple elts kk tpos) (PU (Ot (NM "enumerate") p) [a] [] pos) (iE fs):=
 ⟨FF (hm:=hm) (ha:=ha.h) (hg:=hg) (hs:=hs)⟩
variable{p3:Pos}
def gH{pos p2:Pos}(i:Nat){f:W3}(hN:Oi (Cx.N X))(ha:QA X es f)(hi:autoParam ((Cx.N X)[i]?=ZA x) u_)(hx:autoParam (L2.Loc (Qd (Cx.env X)) x) y_)(hs:autoParam (OQ (Expr.List es p2) (ZA (Ot x p3)) (Q5 pos) (Cx.env X)=pure ZD) u_)(hf:autoParam (Cx.fn X x=ZC\/Ro x (Th (Qd (Cx.env X)))=ZA NameKind.local) r_):QS X (RV [Ot x p3] (Expr.List es p2) pos) (iM i f):=
 ⟨Fv (i:=i) (hN:=hN) (ha:=ha.h) (hi:=hi) (hx:=hx) (hs:=hs) (hf:=hf)⟩
variable{apos cpos:Pos}
def gx{pos p2:Pos}(i:Nat)(ha:QE X a fa)(hN:autoParam ((Cx.N X)[i]?=ZA x) u_)(hv:autoParam (vD (Qd (Cx.env X)) x) v_)(hn:autoParam (bQ a=ZC) u_)(hbase:autoParam (PB (Ot x p2) (NM "append") (Cx.env X) (eval (Ot x p2) (Cx.env X))=eval (Ot x p2) (Cx.env X)) u_)(hline:autoParam ((UL apos == Q5 cpos)=ZC) u_)(hd:autoParam ((x == NM "__debug__")=ZD) s_)(hcd:autoParam ((x == NM "__classdict__")=ZD) s_)(hsw:autoParam (OQ (PU (Rf (Ot x p2) (NM "append") apos) [a] [] cpos) ZB (Q5 pos) (Cx.env X)=pure ZD) u_):QS X (Stmt.Expr (PU (Rf (Ot x p2) (NM "append") apos) [a] [] cpos) pos) (g9 i fa):=
 ⟨Iw (i:=i) (ha:=ha.h) (hN:=hN) (hv:=hv) (hn:=hn) (hbase:=hbase) (hline:=hline) (hd:=hd) (hcd:=hcd) (hsw:=hsw)⟩
def tG{pos p2:Pos}(i:Nat)(ha:QE X a fa)(hN:autoParam ((Cx.N X)[i]?=ZA x) u_)(hv:autoParam (vD (Qd (Cx.env X)) x) v_)(hn:autoParam (bQ a=ZC) u_)(hbase:autoParam (PB (Ot x p2) (NM "extend") (Cx.env X) (eval (Ot x p2) (Cx.env X))=eval (Ot x p2) (Cx.env X)) u_)(hline:autoParam ((UL apos == Q5 cpos)=ZC) u_)(hd:autoParam ((x == NM "__debug__")=ZD) s_)(hcd:autoParam ((x == NM "__classdict__")=ZD) s_)(hsw:autoParam (OQ (PU (Rf (Ot x p2) (NM "extend") apos) [a] [] cpos) ZB (Q5 pos) (Cx.env X)=pure ZD) u_):QS X (Stmt.Expr (PU (Rf (Ot x p2) (NM "extend") apos) [a] [] cpos) pos) (pj i fa):=
 ⟨Ir (i:=i) (ha:=ha.h) (hN:=hN) (hv:=hv) (hn:=hn) (hbase:=hbase) (hline:=hline) (hd:=hd) (hcd:=hcd) (hsw:=hsw)⟩
def hV(i:Nat){F:W4}(h:QS X st F):QS X st (mX i F):=
 ⟨Iu (i:=i) (h:=h.h)⟩
def jI(i:Nat){f:W5}(h:QE X e f):QE X e (ln i f):=
 ⟨q_ln (i:=i) (h:=h.h)⟩
def HF(i:Nat)(h:QT X e f):QT X e (Jr i f):=
 ⟨KH (i:=i) (h:=h.h)⟩
def HG{pos:Pos}:QS X (Stmt.Continue pos) Hj:=
 ⟨KL ⟩
variable{C:ZE}
def mS{c:Str}{msg:Str}{np pos:Pos}(O:OX X.K C bm)(hm:X.mg c=ZA (.ref C))(hc:autoParam (X.calm=ZC) u_)(hg:autoParam (Gl X c) u_)(hd:autoParam ((c == ("__debug__" : Str))=ZD) s_):
  QS X (.Raise (ZA (.Call (.Name c np) [.Constant (.str msg) j p1] [] cpos)) ZB pos) (Cj c):=⟨Ct O.own hc hm hg hd⟩
variable{N:List Str}{mg:W0}
def zy{base:ZH}{qual:Str}{f:ZE}{k:Nat}{F:W4}(Fn:L2.Fun K x qual st f fd)(S:aE N ps (ao st))(hn:ps.length=n)
  (hbody:∀(cdv:NA)(A:Os)(outer:List Env)(s:NB)(H:Hp)(E:XK),Room k (A.deeper (envOfC qual (ao st) s.heap.objs.size f cdv)) →
   ∀xe,BF ((nB CX0 P w K mg base N qual (ao st) f cdv A outer s H E).FS xe) (dP st) F):J9 P w K mg base (k+1) f fd ps n (val n N.length F):=JR Fn S hn λcdv A outer s H E hr xe=>(hbody cdv A outer s H E hr xe).h
def bq{pos:Pos}(hu:R3 (Cx.A X)+1<cLine)(ha:QE X a fa)(hb:QE X b fb)(hs:autoParam (vE b) x_):QE X (PY a b pos) (o2 aO fa fb):=
 ⟨K0 (hu:=hu) (ha:=ha.h) (hb:=hb.h) (hs:=hs)⟩
def zu(hu:R3 (Cx.A X)+1<cLine)(ha:QE X a fa)(hb:QE X b fb)(hn:autoParam (bQ b=ZC) u_)(hbase:autoParam (PB a (NM "get") (Cx.env X) (eval a (Cx.env X))=eval a (Cx.env X)) u_)(hline:autoParam ((UL apos == Q5 cpos)=ZC) u_):QE X (PU (Rf a (NM "get") apos) [b] [] cpos) (oD jG fa fb):=
 ⟨IF (hu:=hu) (ha:=ha.h) (hb:=hb.h) (hn:=hn) (hbase:=hbase) (hline:=hline)⟩
def mT(hu:R3 (Cx.A X)+61<cLine)(ha:QE X a fa)(hb:QE X b fb)(hn:autoParam (bQ b=ZC) u_)(hbase:autoParam (PB a (NM "index") (Cx.env X) (eval a (Cx.env X))=eval a (Cx.env X)) u_)(hline:autoParam ((UL apos == Q5 cpos)=ZC) u_):QE X (PU (Rf a (NM "index") apos) [b] [] cpos) (oL eO fa fb):=
 ⟨CA (hu:=hu) (ha:=ha.h) (hb:=hb.h) (hn:=hn) (hbase:=hbase) (hline:=hline)⟩
def AM{pos p2:Pos}(i:Nat)(hN:Oi (Cx.N X))(hi:autoParam ((Cx.N X)[i]?=ZA x) u_)(hx:autoParam (L2.Loc (Qd (Cx.env X)) x) y_)(hs:autoParam (OQ (Expr.Dict [] [] p2) (ZA (Ot x p3)) (Q5 pos) (Cx.env X)=pure ZD) u_)(hf:autoParam (Cx.fn X x=ZC\/Ro x (Th (Qd (Cx.env X)))=ZA NameKind.local) r_):QS X (RV [Ot x p3] (Expr.Dict [] [] p2) pos) (tX i):=
 ⟨Cw (i:=i) (hN:=hN) (hi:=hi) (hx:=hx) (hs:=hs) (hf:=hf)⟩
def BP{f:W5}{pos p2:Pos}(i:Nat)(hu:R3 (Cx.A X)+8<cLine)(hc:Cx.calm X=ZC)(hm:Cx.mg X (NM "dict")=ZB)(hN:Oi (Cx.N X))(ha:QE X e f)(hst:autoParam (bQ e=ZC) u_)(hg:autoParam (Gl X (NM "dict")) u_)(hi:autoParam ((Cx.N X)[i]?=ZA x) u_)(hx:autoParam (L2.Loc (Qd (Cx.env X)) x) y_)(hs:autoParam (OQ (PU (Ot (NM "dict") p) [e] [] p2) (ZA (Ot x p3)) (Q5 pos) (Cx.env X)=pure ZD) u_)(hf:autoParam (Cx.fn X x=ZC\/Ro x (Th (Qd (Cx.env X)))=ZA NameKind.local) r_):QS X (RV [Ot x p3] (PU (Ot (NM "dict") p) [e] [] p2) pos) (rY i f):=
 ⟨Fw (i:=i) (hu:=hu) (hc:=hc) (hm:=hm) (hN:=hN) (ha:=ha.h) (hst:=hst) (hg:=hg) (hi:=hi) (hx:=hx) (hs:=hs) (hf:=hf)⟩
def zp{fc:W5}{pos p2:Pos}(i:Nat)(hu:R3 (Cx.A X)+1<cLine)(hb:QE X b fb)(hc:QE X c fc)(hN:autoParam ((Cx.N X)[i]?=ZA x) u_)(hv:autoParam (vD (Qd (Cx.env X)) x) v_)(hd:autoParam ((x == NM "__debug__")=ZD) s_)(hcd:autoParam ((x == NM "__classdict__")=ZD) s_)(hs:autoParam (OQ c (ZA (PY (Ot x p2) b p3)) (Q5 pos) (Cx.env X)=pure ZD) u_):QS X (RV [PY (Ot x p2) b p3] c pos) (qY i fb fc):=
 ⟨Im (i:=i) (hu:=hu) (hb:=hb.h) (hc:=hc.h) (hN:=hN) (hv:=hv) (hd:=hd) (hcd:=hcd) (hs:=hs)⟩
def oN{fc:W5}{pos p2 p4:Pos}(i:Nat)(hu:R3 (Cx.A X)+1<cLine)(ha:QE X a fa)(hb:QE X b fb)(hc:QE X c fc)(hsl:autoParam (vE a) x_)(hN:autoParam ((Cx.N X)[i]?=ZA x) u_)(hv:autoParam (vD (Qd (Cx.env X)) x) v_)(hd:autoParam ((x == NM "__debug__")=ZD) s_)(hcd:autoParam ((x == NM "__classdict__")=ZD) s_)(hs:autoParam (OQ c (ZA (PY (PY (Ot x p2) a p3) b p4)) (Q5 pos) (Cx.env X)=pure ZD) u_):QS X (RV [PY (PY (Ot x p2) a p3) b p4] c pos) (jC i fa fb fc):=
 ⟨Fu (i:=i) (hu:=hu) (ha:=ha.h) (hb:=hb.h) (hc:=hc.h) (hsl:=hsl) (hN:=hN) (hv:=hv) (hd:=hd) (hcd:=hcd) (hs:=hs)⟩
def LcScope.byN{src:List (Option Nat)}(hN:X.N=N)(hk:scope.kind=.function)(h:Jt scope.names N scope.names N' src=ZC)
  (hf:(scope.names.all λy=>y.2 != .free||(X.env.scope.names.lookup y.1 == ZA .cell||X.env.scope.names.lookup y.1 == ZA .free))=ZC):LcScope X scope N' src:=by
 have z:=LcScope.by (X:={X with env:={X.env with scope:=scope}}) hN rfl hk h
 refine⟨hk,z.cel,z.loc,z.len,z.from_,λx hx=>?_⟩
 have:=N9.mp hf _ hx;simp only[bne_self_eq_false,Td,Wj]at this
 show X.env.scope.names.lookup x=_\/X.env.scope.names.lookup x=_
 rcases this with z|z
 ·exact .inl (by simpa using z)
 ·exact .inr (by simpa using z)
open PySem.W
def DN(h:ZH):(xH h).In h:=by
 have key:∀(l:List Nat)(a:ZE)(o:Obj),(l.filterMap λa=>(h.get? a).map λo=>(a,o)).lookup a=ZA o->h.get? a=ZA o:=by
  intro l
  induction l with
  |nil=>intro a o e;cases e
  |cons b r ih=>
   intro a o e
   cases hb:h.get? b with
   |none=>rw[List.filterMap_cons_none (by rw[hb];rfl)]at e;exact ih a o e
   |some ob=>
    rw[List.filterMap_cons_some (b:=(b,ob)) (by rw[hb];rfl),OK]at e
    cases q:a == b with
    |true=>rw[q]at e;cases e;rw[eq_of_beq q];exact hb
    |false=>rw[q]at e;exact ih a o e
 exact λa o e=>key _ a o e
variable{K:Frag}{n:Str}
def Hv(e:obF K n=exF n st):∃f fd,nsIn K Oy n=ZA (ZA (.ref f))/\L2.Fun K n n st f fd:=by
 unfold obF at e
 split at e
 ·rename_i f hf
  split at e
  ·rename_i oc od d sl hl
   cases d;unfold exF at e;simp only[RS,Prod.mk.injEq]at e;obtain⟨h1,h2,h3,h4,h5,h6,h7,h8,h9,h10,h11⟩:=e;subst h1 h2 h3 h4 h5 h6 h7 h8 h9;exact⟨f,_,hf,JO hl h10 h11⟩
  ·cases e
 ·cases e
def pR{N:ZE}(e:Lh K N n=ZC):nsIn K N n=ZA ZB:=by
 unfold Lh at e
 split at e
 ·assumption
 ·cases e
def Jl{i:Int}(e:Ma K n=ZA i):∃t,nsIn K Oy n=ZA (ZA (.int i t)):=by
 unfold Ma at e
 split at e
 ·rename_i i' t h;cases e;exact⟨t,h⟩
 ·cases e
def oR:∀{l:List NA},zA l=ZC->l=zg:=by
 intro l e;unfold zA at e
 split at e
 ·simp only[NC,beq_iff_eq]at e
  obtain⟨⟨⟨h1,h2⟩,h3⟩,h4⟩:=e;subst h1 h2 h3 h4;rfl
 ·cases e
def lL{D:Option ZE}(e:Ge K D n=ZA C):nsIn K Oy n=ZA (ZA (.ref C)) ∧
  ∃nm q N bs bm hd sn su ab co dd k0 k1 k2 k3 k5,B4 D bm=ZC/\K.lookup C=ZA (Sx nm q C N bs bm hd sn su ab co dd k0 k1 k2 k3 k5 "ValueError.__new__")/\∀h:ZH,K.In h->∃mN,h.Ns N mN/\∀n∈calmNames,mN n=ZB:=by
 unfold Ge at e
 split at e
 ·rename_i C' hC
  split at e
  ·rename_i t dd c k0 k1 k2 k3 b k5 hl
   split at e
   ·rename_i E m ob oe es ep oz hm hN
    split at e
    ·rename_i hq
     cases e;simp only[NC,beq_iff_eq,Vv]at hq;obtain⟨⟨⟨⟨⟨⟨h1,h2⟩,h3⟩,h4⟩,h5⟩,h6⟩,h7⟩:=hq
     have z:=N9.mp h5;refine⟨hC,c.name,c.qualname,c.ns,c.bases,m,c.hasDict,c.slotNames,c.subclasses,c.abstract,c.collection,dd,k0,k1,k2,k3,k5,h7,?_,Li hN h4 (pR (z _ (.head _))) (pR (z _ (.tail _ (.head _)))) (pR (z _ (.tail _ (.tail _ (.head _))))) (pR (z _ (.tail _ (.tail _ (.tail _ (.head _))))))⟩
     rw[hl];cases c;simp only at hm h3;subst h1 h2 hm h3 h6
     rfl
    ·cases e
   ·cases e
  ·cases e
 ·cases e
def ox0(e:Ge K ZB n=ZA C):OX K C zg:=by
 obtain⟨_,_,_,_,_,_,_,_,_,_,_,_,_,_,_,_,_,hu,hl,hn⟩:=lL e;cases oR hu;exact F7 hl hn
variable{m:Str}
def ox1{D:ZE}(e:Ge K (ZA D) n=ZA C)(d:Ge K ZB m=ZA D):OX K C (.ref D::zg):=by
 obtain⟨_,_,_,_,_,bm,_,_,_,_,_,_,_,_,_,_,_,hu,hl,hn⟩:=lL e;obtain⟨_,_,_,_,_,_,_,_,_,_,_,_,_,_,_,_,_,hu',hl',hn'⟩:=lL d;cases oR hu';unfold B4 at hu;simp only at hu
 split at hu
 ·rw[NC]at hu
  cases eq_of_beq hu.1;cases oR hu.2;exact CU hl hn hl' hn'
 ·cases hu
def nF{o:Option α}{r:List (Option α)}{l:List α}(e:zi (o::r)=ZA l):∃a l',o=ZA a/\l=a::l'/\zi r=ZA l':=by
 cases o with
 |none=>cases e
 |some a=>
  unfold zi at e
  split at e
  ·rename_i l' h;cases e;exact⟨a,l',rfl,rfl,h⟩
  ·cases e
def Er{l:List α}(e:zi ([]:List (Option α))=ZA l):l=[]:=by cases e;rfl
theorem se:∀{l:List ZE},uB l=ZC->l.Nodup
 |[],_=>.nil
 |a::r,h=>by
  unfold uB at h;rw[NC]at h;refine Oc.mpr ⟨λhm=>?_,se h.2⟩
  have:=N9.mp h.1 a hm
  simp at this
def Jk{es:List Str}(e:L9 K (m::es)=ZC):∃D l,Ge K ZB m=ZA D/\zi (es.map (Ge K (ZA D)))=ZA l/\(l++[D]).Nodup:=by
 rw[L9]at e
 split at e
 ·rename_i D hD
  split at e
  ·rename_i l hl;exact⟨D,l,hD,hl,se e⟩
  ·cases e
 ·cases e
section
variable {S:ED}{top:Nat->ZF}{h:ZH}
theorem uS{f g:α->β}:∀{l:List α}(j:Nat){a:α},l.map f=l.map g->l[j]?=ZA a->f a=g a
 |[],_,_,_,q=>by cases q
 |b::l,0,a,e,q=>by cases q;exact(RG.inj e).1
 |b::l,j+1,a,e,q=>uS (l:=l) j (RG.inj e).2 q
def cm(j:Nat)(X:K.In h)(G:h.Ns Oy mg)(e:wV S K=vS S top)(q:S.tab[j]?=ZA (n,i))
  (hb:∀(kV doc pm:NA)(an:Option ZE)(cdv ct:NA)(us:List NA),us.length=ps.length->bindArgs (fnOf n n (ie (top i)) (dP (top i)) (ao (top i)) .none kV doc pm an cdv ct) ⟨us,[]⟩=pure (ps.zip us)):
  ∃f fd,Fn K mg n (top i) ps f fd:=by
 obtain⟨f,fd,h1,h2⟩:=Hv (uS j (congrArg (·.1) e) q)
 exact⟨f,fd,h2,h2.binds hb,mg_of X G h1⟩
def Lw(j:Nat){fa:ZE}(X:K.In h)(G:h.Ns Oy mg)(e:wV S K=vS S top)(q:S.tab[j]?=ZA (n,i))(hfa:mg n=ZA (.ref fa))
  (hb:∀(kV doc pm:NA)(an:Option ZE)(cdv ct u:NA),bindArgs (fnOf n n (ie (top i)) (dP (top i)) (ao (top i)) .none kV doc pm an cdv ct) ⟨[u],[]⟩=pure [(x,u)]):
  ∃fd,Fn K mg n (top i) [x] fa fd/\∀(s:NB)(u:NA),Vx s fd ⟨[u],[]⟩ [(x,u)]:=by
 obtain⟨f,fd,h1,h2⟩:=Hv (uS j (congrArg (·.1) e) q)
 have z:=hfa.symm.trans (mg_of X G h1);cases z
 have hh:=h2;obtain⟨oc,od,kV,doc,pm,an,cdv,ct,osl,rfl,lk,hcd⟩:=hh.ex;exact⟨_,⟨h2,.all λus hl=>match us,hl with|[u],_=>hb kV doc pm an cdv ct u,mg_of X G h1⟩,λs u=>.of_eq (hb kV doc pm an cdv ct u)⟩
def fS(j:Nat)(X:K.In h)(G:h.Ns Oy mg)(e:wV S K=vS S top)(q:S.zs[j]?=ZA n):mg n=ZB:=
 mg_none_of X G (pR (N9.mp (congrArg (·.2.1) e:S.zs.all (Lh K Oy)=ZC) n (Qn q)))
def sA(j:Nat){i:Int}(X:K.In h)(G:h.Ns Oy mg)(e:wV S K=vS S top)(q:S.cs[j]?=ZA (n,i)):∃t,mg n=ZA (.int i t):=by
 obtain⟨t,ht⟩:=Jl (uS (f:=λc=>Ma K c.1) (g:=λc=>ZA c.2) j (congrArg (·.2.2.1) e) q)
 exact⟨t,mg_of X G ht⟩
def Lz(e:wV S K=vS S top):L9 K S.es=ZC:=congrArg (·.2.2.2) e
end
variable{loose:List Str}
def left_of{p:N1}{Xt:NB->Bool}{Yf:NB->α}{Ya:OF->α}{N:Nat}{g0:Bool}
  (e:opening p=plainProg p.main.scope.names) (hN:Nat.ble 600 N=ZC) (f:∀s,fenceModules? p s=ZA s)
  (h:∀(w:OF)(os:SO),(topFrom U5 p w N ⟨boot_heap w.params,⟨[]⟩,boot_drawn,boot_toks,os⟩).map (λs=>(openSeen q loose (Ua p.main.body) Xt g0 s,Yf s))=ZA (openGood q loose,Ya w)):
  LeftO p q loose Xt Yf Ya N g0:=λw=>by
 obtain⟨⟨h0,gs,d,k,os⟩,e1,e2⟩:=O5.mp (boot_open e hN f w);simp only[Prod.mk.injEq]at e2;obtain⟨rfl,rfl,rfl,rfl⟩:=e2;unfold openEnds;rw[e1];exact h w os
structure Cl (P:N1)(w:OF)(K:Frag)(mg:W0)(base:ZH)(k:Nat)(x:Str)(n:Nat)(m:List T->Rs T):Prop where
 ex:∃f fd ps,mg x=ZA (.ref f)/\keepIn K (.ref f)=ZC/\Binds K fd ps []/\ps.length=n/\J9 P w K mg base k f fd ps n m
abbrev gg(K:Frag)(mg:W0)(x:Str)(st:ZF)(ps:List Str):Prop:=∃f fd,Fn K mg x st ps f fd
variable{n:Nat}
section
variable {base:ZH}{k:Nat}{F:W4}
def bf(H:gg K mg x st ps)(S:aE N ps (ao st))(hn:ps.length=n)
  (hbody:∀(f:ZE)(cdv:NA)(A:Os)(outer:List Env)(s:NB)(H:Hp)(E:XK),Room k (A.deeper (envOfC x (ao st) s.heap.objs.size f cdv)) →
   ∀xe,BF ((nB CX0 P w K mg base N x (ao st) f cdv A outer s H E).FS xe) (dP st) F):Cl P w K mg base (k+1) x n (val n N.length F):=by
 obtain⟨f,fd,h⟩:=H;exact⟨f,fd,ps,h.mg,h.fn.kp,h.bd,hn,zy h.fn S hn (hbody f)⟩
end
section
variable {fs:W3}{pos:Pos}{k k':Nat}{g:List T->Rs T}
def aN(c:Cl X.prog X.w X.K X.mg X.base k x n g)(hr:Room k' X.A)(ha:QA X (e::es) fs)(hk:autoParam (k<=k') s_)(hl:∀(Z:En)(ts:List T),fs Z=.ok ts->ts.length=n:=by repeat first|exact LQ|refine LP ?_)
  (hn:autoParam (bP (e::es)=ZC) u_) (hg:autoParam (Gl X x) u_) (h2:autoParam ((x == NM "__debug__")=ZD) s_):QE X (.Call (.Name x p) (e::es) [] pos) (cl g fs):=by
 obtain⟨f,fd,ps,h1,h3,h4,h5,h6⟩:=c.ex;exact zq_c h6 (hr.mono hk) h1 h3 h4 hl ha h5 hn hg h2
def vL{i:Int}(h:∃t,X.mg x=ZA (.int i t))(hg:autoParam (Gl X x) u_)(hd:autoParam ((x == NM "__debug__")=ZD) s_):QE X (.Name x pos) (cn (.int i)):=by
 obtain⟨t,h⟩:=h;exact EM h ⟨_,rfl⟩ hg hd
end
def hookC(S:xY)(top:Nat->ZF):Hook:=
 ⟨_,λs=>C2 S (xH s.heap),λ_=>B3 S top,λ_ h=>∃K:Frag,K.In h/\C2 S K=B3 S top,λ_ s e=>⟨_,DN s.heap,e⟩,λ_ _ _ ⟨K,a,b⟩ k=>⟨K,a.keeps k,b⟩⟩
def walk_c{l:OpenLaw}{k:Nat}{XP:(W0)->ZH->Prop}{d:DefRec}{S:xY}{top:Nat->ZF}{CX:EH}{sp:Frag->Sp}
  (hn:l.most=ZA n) (hn2:n<=ZI) (hdf:d.params.defaults=[]) (hr:Room k callerA)
  (F:∀(w:OF)(K:Frag)(mg:W0)(fa:ZE)(h:ZH),K.In h->C2 S K=B3 S top->h.Ns Oy mg->mg d.name=ZA (.ref fa) →
   ∃fd:PN,(∀(s:NB)(u:NA),Vx s fd ⟨[u],[]⟩ [(x,u)])/\∀base:ZH,K.In base->base.Ns Oy mg->vG l.prog w K mg base CX k fa fd [x] (sp K))
  (hsp:∀(K:Frag)(H:Hp)(a:ZE)(ns:List Int),ns.length<=n->J8 H->SqL K H a (ns.map V.int)->sp K [.ref a] H (λv _=>v=.bl ZC) λ_ _ _=>False)
  (hCX:∀(H:Hp)(s:NB)(e:NA)(s':NB),CX [] H s (λ_ _ _=>False) e s'->False):
  WalkO q loose XP (hookC S top).says l.row.toRowW d [] (λf vs=>PySem.call f vs):=by
 refine Att.attach_call hn hdf λw s₀ s₁ mg mb fa o pm cd doc a vs ns G Y ho hd hcd hmg hobj hints hlen hg=>?_
 obtain⟨K,KX,e⟩:=Y;obtain⟨fd,hb,hF⟩:=F w K mg fa _ KX e G.T.g hmg;exact Dr KX G.T.g G.T.b G.T.builtins G.T.nolimit hg hobj hints (Oj hlen hn2) hr hF hb (λH hO hS=>hsp K H a ns hlen hO hS) λH e s'=>hCX H s₁ e s'
def AG(ps:List (Str×Str)):List (Key×V):=ps.map λp=>(.inr p.1,.str p.2)
def Mf(ps:List (Str×Str)):List (TE×TE):=ps.map λp=>(tC (.str p.1),tC (.str p.2))
variable{σ:L2.St}
theorem xW:∀{ps:List (Str×Str)}{Q:List (V×V)->Hp->Prop},Q ((AG ps).map λkv=>(kV kv.1,kv.2)) H->oU (Mf ps) σ H Q
 |[],_,h=>h
 |p::r,Q,h=>by
  show oU (Mf r) σ H λqs H3=>Q ((V.str p.1,V.str p.2)::qs) H3
  exact xW h
def Ab(i:Nat)(ps:List (Str×Str))(σ:L2.St)(H:Hp):Prop:=∃p,σ[i]?=ZA (ZA (.ref p))/\H p=ZA (.dK (gm [] (AG ps)))
def AbV(ps:List (Str×Str)):Prop:=∀x y,ps.lookup x=ZA y->gy (gm [] (AG ps)) (.inr x)=ZA (.str y)
variable{K:Nt}{Z:En}
def Ev.em{B:Ow}{M:Mn}{v:V}(E:Ev K B M H Z σ):Ev K B M H (Z.set i .em) (σ.set i (ZA v)) where
 mine:=E.mine
 env:={
  len:=by rw[OC,OC];exact E.env.len
  val:=λj u e=>by
   by_cases hj:i=j
   ·subst hj
    by_cases hi:i<Z.length
    ·rw[NV hi]at e;cases e
    ·rw[O7 (by rw[OC];omega)]at e;cases e
   ·rw[NW hj]at e
    obtain⟨w,e1,e2⟩:=E.env.val j u e;exact⟨w,by rw[NW hj];exact e1,e2⟩
  own:=λj o e=>by
   by_cases hj:i=j
   ·subst hj
    by_cases hi:i<Z.length
    ·rw[NV hi]at e;cases e
    ·rw[O7 (by rw[OC];omega)]at e;cases e
   ·rw[NW hj]at e
    obtain⟨w,e1,e2⟩:=E.env.own j o e;exact⟨w,by rw[NW hj];exact e1,e2⟩
  sub:=E.env.sub
  dis:=E.env.dis
  trk:=E.env.trk}
variable{D:qO}{keys:List (Option ZG)}{ps:List (Str×Str)}{values:List ZG}
section
variable {p2 p4 dpos:Pos}
def Cf{F:W4}(h:EE X (aw F G) D σ H):HN (EE X F) (EE X G) D σ H:=by
 obtain⟨Z,B,M,E,h⟩:=h;refine⟨Z,B,M,E,?_⟩
 unfold aw at h
 cases q:F Z with
 |bad=>rw[q]at h;exact h.elim
 |err c=>rw[q]at h;exact h
 |ok f=>
  rw[q,aF]at h
  cases f with
  |nx Z'=>exact λσ' H' M' s' E' o'=>⟨Z',B,M',E',h.later s' o'⟩
  |rt t=>exact h
  |bk Z'=>exact h
  |ct Z'=>exact h
def Gz{F:W4}(h:EE X (dQ f F G) D σ H):Km (zB X f) (EE X F) (EE X G) D σ H:=by
 obtain⟨Z,B,M,E,h⟩:=h;refine⟨Z,OO B M,E.o,?_⟩
 unfold dQ at h
 cases q:f Z with
 |bad=>rw[q]at h;exact h.elim
 |err c=>rw[q]at h;exact PostF.xa h
 |ok k=>
  rw[q,aF]at h;intro H' s
  have E':Ev X.K B M H' Z σ:=E.same s
  cases k with
  |true=>refine L2.iteT ?_;exact⟨Z,B,M,E',PostF.later (by simpa using h) (SameO.of s) λa z=>.inl z⟩
  |false=>refine L2.iteF ?_;exact⟨Z,B,M,E',PostF.later (by simpa using h) (SameO.of s) λa z=>.inl z⟩
def CD(hu:X.A.units+1<cLine)(hv:AbV ps)(ho:OpT X (OD .NotEq) iG)(he:cQ X e fe)(hb:cQ X b fb)(hN:X.N[i]?=ZA y)(hy:vD X.env.scope y)(hd:(y == ("__debug__" : Str))=ZD)(hcd:(y == ("__classdict__" : Str))=ZD)
  (hs:vE e) (hm:Q8 .NotEq b=ZD):PT X (.Compare (.Subscript (.Name y p1) e p2) [.NotEq] [b] p3) (λσ H Q=>Ab i ps σ H/\zB X (tb (o2 iG (o1 (vK ps) fe) fb)) σ H Q):=by
 intro bv s σ H Q I ⟨A,Z,O,E,hq⟩
 have hq':Post X H (o2 iG (o1 (vK ps) fe) fb Z) λt H'=>∀v,Rep X.K O H' t v->∃k,v=.bl k/\Q k H':=Post.mono hq.bind λt H' s' q v r=>by
  split at q
  ·exact⟨_,Rep.FB.mp r,q H' (Same.refl H')⟩
  ·exact q.elim
 have h0:Post X H (fe Z >>= λx=>vK ps x >>= λx'=>fb Z >>= λy'=>iG x' y') λt H'=>∀v,Rep X.K O H' t v->∃k,v=.bl k/\Q k H':=by
  have e0:o2 iG (o1 (vK ps) fe) fb Z=(fe Z >>= λx=>vK ps x >>= λx'=>fb Z >>= λy'=>iG x' y'):=by
   unfold o2 o1;cases fe Z <;> rfl
  rw[<-e0];exact hq'
 obtain⟨p,ep,hp⟩:=A;refine Uh (cF (ug (Q:=λv H2=>∃x z,v=.str z/\Same H H2/\vK ps x=.ok (.str z)/\EnvO X.K O H2 Z σ/\Post X H2 (fb Z >>= λy'=>iG (.str z) y') λt H'=>∀v,Rep X.K O H' t v->∃k,v=.bl k/\Q k H') hu (jU hN hy hd hcd) he hs bv s σ H I ⟨.ref p,ep,?_⟩) λv s1 ⟨x,H1,I1,r1,xx,z,ez,s',_,E',q1⟩=>?_) hm
 ·obtain⟨Z1,O1,E1,h1⟩:=bj E h0
  refine⟨Z1,O1,E1,Post.mono h1 λt H1 s1 q v r=>?_⟩
  obtain⟨t',r',s',E',q'⟩:=q v r
  have A':H1 p=ZA (.dK (gm [] (AG ps))):=s' _ _ hp
  cases hx:vK ps t' with
  |bad=>rw[hx]at q';exact q'.elim
  |err c=>rw[hx]at q';unfold vK at hx;split at hx;(split at hx <;> cases hx);cases hx
  |ok w=>
   rw[hx,aF]at q'
   have hx':=hx;unfold vK at hx
   split at hx
   ·rename_i k
    split at hx
    ·rename_i z hz
     cases hx;obtain rfl:=Rep.GM.mp r';refine⟨p,.str z,rfl,?_,_,z,rfl,s',hx',E',q'⟩
     have:=DGet.k (k:=SK k) A';rw[hv _ _ hz]at this;exact this
    ·cases hx
   ·cases hx
 ·subst ez
  have h2:=bj (f:=fb) E' q1;refine cF (hb bv s1 σ H1 _ I1 h2) λu s2 hh_=>?_
  obtain⟨y,H2,I2,r2,t2,rt2,s'',E'',q2⟩:=hh_;refine cF (ho bv s2 σ H2 O (.str z) t2 _ y v u _ I2 (λp=>E''.fresh) (Rep.MI z) rt2 r1 r2 q2) λd s3 hh_=>?_
  obtain⟨z,H3,I3,r3,k,e,q3⟩:=hh_;subst e;cases r3;exact OY ⟨H3,I3,q3⟩
def Cy(i:Nat){A rest:List ZF}{F:W4}(hu:X.A.units+1<cLine)(hv:AbV ps)(ho:OpT X (OD .NotEq) iG)(hk:Kf X dpos keys values (Mf ps))(hN':X.N.Nodup)
  (he:cQ X e fe) (hb:cQ X b fb) (ha:lU X A F) (hr:lU X rest G) (hl':ps.length<=15) (hN:X.N[i]?=ZA y) (hy:vD X.env.scope y) (hL:Loc X.env.scope y) (hd:(y == ("__debug__" : Str))=ZD) (hcd:(y == ("__classdict__" : Str))=ZD)
  (hs:vE e) (hm:Q8 .NotEq b=ZD) (hall:keys.all (·.isSome)=ZC) (hl:keys.length=values.length) (h0:keys≠ []) (h15:keys.length<=15)
  (hsw:OQ (.Dict keys values dpos) (ZA (.Name y py)) spos.line X.env=pure ZD) (hf:X.fn y=ZC\/X.env.scope.names.lookup y=ZA .local):
  lU X (.Assign [.Name y py] (.Dict keys values dpos) spos:: .If (.Compare (.Subscript (.Name y p1) e p2) [.NotEq] [b] p3) A [] p4::rest) (aw (Kx i) (aw (dQ (tb (o2 iG (o1 (vK ps) fe) fb)) F sN) G)):=by
 have h2:=Hm (pos:=p4) (CD (p1:=p1) (p2:=p2) (p3:=p3) hu hv ho he hb hN hy hd hcd hs hm) ha Cu;refine PSs.imp (pw (pz hN' hN hL (F5 hk hall hl h0 h15) hsw hf) (pw h2 hr)) λD σ H ⟨Z,B,M,E,h⟩=>?_
 intro p hp;refine xW ⟨aI,AG ps,rfl,by unfold AG;rw[Ny];exact hl',?_⟩
 rw[i6]
 show HN _ _ D (σ.set i (ZA (.ref p))) _
 have sm:Same H (upd H p (.dK (gm [] (AG ps)))):=λc o ec=>by
  rw[aG];exact ec;intro z;subst z;rw[hp]at ec;cases ec
 unfold aw Kx at h
 by_cases hi:i<Z.length
 ·rw[if_pos hi,aF]at h
  have E':Ev X.K B M (upd H p (.dK (gm [] (AG ps)))) (Z.set i .em) (σ.set i (ZA (.ref p))):=(E.same sm).em
  have h':=PostF.later h (SameO.of sm) (P1:=M.u) λa z=>.inl z
  have h3:=Gz (Cf ⟨_,B,M,E',h'⟩);exact⟨⟨p,NV (by rw[<-E.env.len];exact hi),aI⟩,h3⟩
 ·rw[if_neg hi]at h
  exact h.elim
theorem Es:∀{ps:List (Str×Str)},gy (AG ps) (.inr x)=(ps.lookup x).map V.str
 |[] =>rfl
 |p::r=>by
  show gy ((SK p.1,V.str p.2)::AG r) _=_
  by_cases h:p.1=x
  ·rw[fY (by rw[h]),OK,h,beq_self_eq_true];rfl
  ·rw[fZ (λz=>h (SK.inj z)),OK,Es,beq_eq_false_iff_ne.mpr (Rn h)]
def J6(h:gm [] (AG ps)=AG ps):AbV ps:=λx y e=>by rw[h,Es,e];rfl
def AN(i:Nat)(ps:List (Str×Str)){A rest:List ZF}{F:W4}{k:Nat}(hr:Room k X.A)(hN':X.N.Nodup)(hk:Kf X dpos keys values (Mf ps))
  (he:QE X e fe) (hb:QE X b fb) (ha:BF X A F) (hc:BF X rest G) (hv:autoParam (gm [] (AG ps)=AG ps) u_) (hl':autoParam (ps.length<=15) s_) (hN:autoParam (X.N[i]?=ZA y) u_) (hy:autoParam (vD X.env.scope y) v_) (hL:autoParam (Loc X.env.scope y) y_) (hd:autoParam ((y == ("__debug__" : Str))=ZD) s_) (hcd:autoParam ((y == ("__classdict__" : Str))=ZD) s_)
  (hs:autoParam (vE e) x_) (hm:autoParam (Q8 .NotEq b=ZD) u_) (hall:autoParam (keys.all (·.isSome)=ZC) u_) (hl:autoParam (keys.length=values.length) u_) (h0:autoParam (keys≠ []) z_) (h15:autoParam (keys.length<=15) s_)
  (hsw:autoParam (OQ (.Dict keys values dpos) (ZA (.Name y py)) spos.line X.env=pure ZD) u_) (hf:autoParam (X.fn y=ZC\/X.env.scope.names.lookup y=ZA .local) r_):
  BF X (.Assign [.Name y py] (.Dict keys values dpos) spos:: .If (.Compare (.Subscript (.Name y p1) e p2) [.NotEq] [b] p3) A [] p4::rest) (aw (Kx i) (aw (dQ (tb (o2 iG (o1 (vK ps) fe) fb)) F sN) G)):=
 ⟨Cy i (by have:=hr.un;omega) (J6 hv) (jW (jH hr)) hk hN' he.h hb.h ha.h hc.h hl' hN hy hL hd hcd hs hm hall hl h0 h15 hsw hf⟩
end
theorem PairsAt.snoc{b kb:ZE}{p:List Key×V}(h1:H b=ZA (.tup [.ref kb,p.2]))(h2:H kb=ZA (.tup (p.1.map kV))):∀{xs:List V}{ps:List (List Key×V)},PairsAt H xs ps->PairsAt H (xs++[.ref b]) (ps++[p])
 |[],_,h=>by
  unfold PairsAt at h;subst h
  exact⟨b,kb,p,[],rfl,rfl,h1,h2,rfl⟩
 |x::xs,_,⟨b',kb',p',r,e1,e2,e3,e4,e5⟩=>by
  subst e1;exact⟨b',kb',p',r++[p],rfl,e2,e3,e4,e5.snoc h1 h2⟩
theorem PairsAt.move{H':Hp}{D:ZE}{zs:List V}(hD:H D=ZA (.lst zs))(s:SameO (λa=>a=D) H H'):∀{xs:List V}{ps:List (List Key×V)},PairsAt H xs ps->PairsAt H' xs ps
 |[],_,h=>h
 |x::xs,_,⟨b,kb,p,r,e1,e2,e3,e4,e5⟩=>⟨b,kb,p,r,e1,e2,s _ _ e3 (j5 e3 hD (λz=>nomatch z)),s _ _ e4 (j5 e4 hD (λz=>nomatch z)),e5.move hD s⟩
theorem PairsAt.len:∀{xs:List V}{ps:List (List Key×V)},PairsAt H xs ps->xs.length=ps.length
 |[],_,h=>by unfold PairsAt at h;subst h;rfl
 |x::xs,_,⟨b,kb,p,r,e1,e2,e3,e4,e5⟩=>by subst e1;rw[ND,ND,e5.len]
variable{Q:VK}{kk:List (List Key)}{l:List T}
def xA{src:List (Option Nat)}{wi:TI}{te:TE}(E:EnvO X.K O H Z σ)(hwi:∀R,(∀H1,Same H H1->∀J,LW X.K O H1 l J->R J H1)->wi σ H R)(hz:l.length<=1000)(hk:l.map keyOf=kk.map ZA)(hs:0<src.length)
  (Acc:Hp->ZE->List V->Prop) (a0:∀H1 D,Same H H1->Nw X.K H1 D->Acc (upd H1 D (.lst [])) D [])
  (am:∀H1 H2 D vs ys,Acc H1 D vs->H1 D=ZA (.lst ys)->SameO (λa=>a=D) H1 H2->Acc H2 D vs)
  (hte:∀t∈l,∀σ' H' O' D vs ys (Q':VK),EnvM X.K O' noM H' ((bV src Z).set 0 (.va t)) σ'->Acc H' D vs->H' D=ZA (.lst ys)->(∀v H'',Same H' H''->Acc H'' D (vs++[v])->Q' v H'')->te σ' H' Q')
  (hq:∀H1 D ys ps H',Same H H1->Nw X.K H1 D->Same H1 H'->H' D=ZA (.lst ys)->PairsAt H' ys ps->ps.map (·.1)=kk->Acc H' D (ps.map (·.2))->Q (.ref D) H'):
  HP X.K wi src (AU X (gN 0)) vX (E6 (lZ (vW 0) (lZ te B7))) σ H Q:=by
 refine hwi _ λH1 s1 J hJ D hD hK=>?_
 have nD:Nw X.K H1 D:=⟨hD,hK⟩
 have E1:=E.same s1
 have lk:l.length=kk.length:=by have:=congrArg O0 hk;rwa [Ny,Ny]at this
 have hlen:0<(bV src Z).length:=by unfold bV;rw[Ny];exact hs
 let O':Ow:=λa=>O a\/a=D
 have subO:∀a,O' a->O a\/Nw X.K H1 a:=λa z=>z.elim .inl λw=>.inr (w▸nD)
 refine⟨λi m σ' ys H'=>m=l.length - i/\i<=l.length/\ys.length=i/\H' D=ZA (.lst ys)/\SameO (λa=>a=D) (upd H1 D (.lst [])) H' ∧
  ∃s0 ps,EnvM X.K O' noM H' ((bV src Z).set 0 s0) σ'/\PairsAt H' ys ps/\ps.map (·.1)=kk.take i/\Acc H' D (ps.map (·.2)),⟨l.length,?_⟩,?_⟩
 ·have sN:Same H1 (upd H1 D (.lst [])):=aW hD _
  refine⟨by omega,O4 _,rfl,aI,λb o e _=>e,(bV src Z)[0],[],?_,rfl,rfl,a0 H1 D s1 nD⟩
  rw[TZ]
  exact(xC E1 src).move (P:=λa=>a=D) (λa z=>.inr (z▸nD)) subO (λb o e _=>sN b o e) λa z=>by
   rcases z with z|z
   ·exact(E1.mtb a z).same sN
   ·rw[z];exact .inl ⟨_,aI⟩
 ·rintro i m σ' ys H' ⟨rfl,hi',hyl,hDl,hsm,s0,ps,E',hp,hkk,hacc⟩
  refine⟨hDl,?_⟩
  have sm1:SameO (λa=>a=D) H1 H':=λb o e nb=>hsm b o (by rw[aG nb];exact e) nb
  have it:=hJ (λa=>a=D) O' (λa z=>.inr (z▸nD)) subO i H' sm1 (λa z=>(E'.trk a z).some)
  by_cases hlt:i<l.length
  ·refine .inr ?_
   obtain⟨go,yl⟩:=it.2 l[i] (by simp)
   refine⟨go,by rw[hyl,O9];omega,λxx Hc y=>?_⟩
   obtain⟨sc,rx⟩:=yl xx Hc y
   have Ec:=E'.same sc
   have eg:gN 0 l[i] ((bV src Z).set 0 s0)=.ok ((bV src Z).set 0 (.va l[i])):=by unfold gN;rw[if_pos (by rw[OC];exact hlen),VJ]
   refine⟨(bV src Z).set 0 s0,O',noM,l[i],Ec,rx,?_⟩
   rw[eg];intro σ1 Eg;unfold vX
   dsimp only
   rw[if_pos rfl];obtain⟨kv,ekv,rkv⟩:=Eg.val 0 l[i] (by rw[NV hlen])
   refine⟨kv,ekv,?_⟩
   have aC:Acc Hc D (ps.map (·.2)):=am H' Hc D _ ys hacc hDl λb o e _=>sc b o e
   have DC:Hc D=ZA (.lst ys):=sc _ _ hDl;refine hte l[i] (OG hlt) σ1 Hc O' D _ ys _ Eg aC DC λv H4 s4 acc4=>⟨by show 2<=ZI;rw[O9];omega,λp hpn=>?_⟩
   have D4:H4 D=ZA (.lst ys):=s4 _ _ DC
   have pD:p≠D:=λz=>by rw[z,D4]at hpn;cases hpn
   have E4:=Eg.same s4
   have ki:kk[i]'(by omega)=kk[i]'(by omega):=rfl
   have hki:keyOf l[i]=ZA (kk[i]'(by omega)):=by
    have:=congrArg (λz=>z[i]?) hk
    simp only[NU,NF hlt,NF (show i<kk.length by omega),T3]at this
    exact Om this
   obtain⟨kb,rfl,hkb⟩:=gC hki (rkv.same s4)
   have s46:SameO (λa=>a=D) H4 (upd (upd H4 p (.tup [.ref kb,v])) D (.lst (ys++[.ref p]))):=λb o e nb=>by
    rw[aG nb,aG (λz=>by rw[z,hpn]at e;cases e)];exact e
   refine⟨by rw[aG (Rn pD)];exact D4,l.length - (i+1),by omega,rfl,hlt,?_,aI,λb o e nb=>s46 b o (s4 _ _ (sc _ _ (hsm b o e nb))) nb,.va l[i],ps++[(kk[i]'(by omega),v)],?_,?_,?_,?_⟩
   ·rw[NH,hyl];rfl
   ·exact E4.move (λa z=>.inl (.inr z)) (λa z=>.inl z) s46 λaa z=>by
     by_cases hz:aa=D
     ·rw[hz];exact .inl ⟨_,aI⟩
     ·exact(E4.trk aa z).at λo e=>s46 _ _ e hz
   ·refine((hp.same (sc.trans s4)).move D4 s46).snoc (kb:=kb) (p:=(kk[i]'(by omega),v)) ?_ ?_
    ·rw[aG pD,aI]
    ·exact s46 _ _ hkb (j5 hkb D4 (λz=>nomatch z))
   ·rw[Oe,hkk]
    show kk.take i++[kk[i]'(by omega)]=kk.take (i+1)
    rw[List.take_append_getElem]
   ·rw[Oe]
    exact am H4 _ D _ ys acc4 D4 s46
  ·refine .inl ⟨it.1 (by omega),?_⟩
   have sF:Same H1 H':=λb o e=>sm1 b o e λz=>by rw[z,hD]at e;cases e
   exact hq H1 D ys ps H' s1 nD sF hDl hp (by rw[hkk,TJ (by omega)]) hacc
def tK(K:Nt)(t:TE):TE:=λσ H Q=>t σ H λv H'=>∃a xs ps,v=.ref a/\H' a=ZA (.lst xs)/\xs.length<=1000/\PairsAt H' xs ps/\∀q,Nw K H' q->Q (.ref q) (upd H' q (.dT (eE [] ps)))
def wL{t:TE}{pos:Pos}(hu:X.A.units+8<cLine)(hc:X.calm=ZC)(hm:X.mg "dict" =ZB)(ha:PE X e t)(hg:Gl X "dict")(hs:bQ e=ZC):PE X (.Call (.Name "dict" p) [e] [] pos) (tK X.K t):=by
 have h1:NZ [e] X.env=(ZD,eval e X.env)::NZ [] X.env:=bo hs;intro bv s σ H Q I hq;refine OS (fR I hg hm (show Oq "dict" =ZA (.type "dict")by decide+kernel) ?_ (by decide) (by decide))
 refine On (cF (fx (te:=t) ha jV h1 pos bv s σ H (λzs H'=>match zs with|[v] =>∃a xs ps,v=.ref a/\H' a=ZA (.lst xs)/\xs.length<=1000/\PairsAt H' xs ps/\∀q,Nw X.K H' q->Q (.ref q) (upd H' q (.dT (eE [] ps)))|_=>False) I ?_) λus s1 hh=>?_) h1 rfl
 ·exact hq
 ·obtain⟨vs,H1,I1,r1,hv⟩:=hh
  match vs,hv,r1 with
  |[v],hv,r1=>
  obtain⟨a,xs,ps,ev,e1,e2,e3,e4⟩:=hv;subst ev;obtain⟨u,rfl,ru⟩:=r1.one;obtain rfl:u=NQ a:=ru;exact xS (I1.ok.hd hc) hu I1 e1 e2 e3 λq s' nw I'=>⟨.ref q,_,I',rfl,e4 q nw⟩
theorem mY:∀(ps kvs:List (List Key×V)),((kvs++ps).map (·.1)).Nodup->eE kvs ps=kvs++ps
 |[],kvs,_=>by rw[eE,OH]
 |p::ps,kvs,h=>by
  have e:cN kvs p.1 p.2=kvs++[p]:=by
   unfold cN;rw[if_neg];intro z;obtain⟨q,hq,e⟩:=Rk.mp z
   have e:=of_decide_eq_true e;rw[Oe,OP]at h;exact h.2.2 q.1 (NS.mpr ⟨q,hq,rfl⟩) p.1 (by simp) e
  rw[eE,e,mY ps (kvs++[p]) (by rw[NY];exact h),NY]
  rfl
def gQ(kk:List (List Key)):List (List Key×V):=kk.map λk=>(k,V.non)
def HZ:∀{ps:List (List Key×V)},ps.map (·.1)=kk->(∀v∈ps.map (·.2),v=V.non)->ps=gQ kk:=by
 intro ps h1 h2;subst h1;unfold gQ;rw[Oo]
 conv=>lhs;rw[<-Wl ps]
 exact N6 λp hp=>Prod.ext rfl (h2 p.2 (NS.mpr ⟨p,hp,rfl⟩))
def tPI0(K:Nt)(f:W3):TI:=λσ H R=>∃Z O,EnvO K O H Z σ/\match f Z with
 |.ok ts=>∀H',Same H H'->∀J,LW K O H' ts J->R J H'
 |_=>False
def tPI0.up{f:W3}{R:It->Hp->Prop}(h:tPI0 X.K f σ H R):L6 X f σ H R:=by
 obtain⟨Z,O,E,h⟩:=h;refine⟨Z,O,E,?_⟩
 cases q:f Z with
 |ok t=>rw[q]at h;exact h
 |err c=>rw[q]at h;exact h.elim
 |bad=>rw[q]at h;exact h.elim
def yf(X:Cx)(src:List (Option Nat)):TE:=tK X.K (HP X.K (tPI0 X.K (iS (vr 1))) src (AU X (gN 0)) vX (E6 (lZ (vW 0) (lZ (tC .non) B7))))
def IU{eb tb ib:ZG}{q1 pc lp pos:Pos}{jj:Nat}{src:List (Option Nat)}{x1}(hu:X.A.units+8<cLine)(hc:X.calm=ZC)(hm:X.mg "dict" =ZB)(hg:Gl X "dict")(S:LcScope X sc N' src)(hi:BO X tb ib (iS (vr 1)))
  (blk:∀cl C s₀ H₀ fp,Ey (bN X sc cl N' C s₀ H₀ fp) tb (gN 0)/\PE (bN X sc cl N' C s₀ H₀ fp) eb (vW 0)/\bQ eb=ZC) (hs:∀x,Ou ib X.env x=pure x):
  PE X (.Call (.Name "dict" p) [.ListComp (.Tuple [eb,.Constant .none jj pc] x1 q1) [⟨tb,ib,[],0⟩] sc lp] [] pos) (yf X src):=
 PE.imp (wL hu hc hm (wK hc S hi (λcl C s₀ H₀ fp=>⟨(blk cl C s₀ H₀ fp).1,uf,yz (fx (blk cl C s₀ H₀ fp).2.1 (fx CN jV (bo rfl)) (bo (blk cl C s₀ H₀ fp).2.2))⟩) hs) hg rfl) λσ H Q h=>tPI0.up h
def Cn{src:List (Option Nat)}(E:EnvO X.K O H Z σ)(hf:iS (vr 1) Z=.ok l)(hz:l.length<=1000)(hk:l.map keyOf=kk.map ZA)(hn:kk.Nodup)(hs:0<src.length)
  (hq:∀d H',Same H H'->Nw X.K H d->H' d=ZA (.dT (gQ kk))->Q (.ref d) H'):yf X src σ H Q:=by
 have lk:l.length=kk.length:=by have:=congrArg O0 hk;rwa [Ny,Ny]at this
 unfold yf tK;refine xA (X:=X) (te:=tC .non) E (λR h=>⟨Z,O,E,by rw[hf];exact h⟩) hz hk hs (λ_ _ vs=>∀v∈vs,v=V.non) (λ_ _ _ _ v h=>nomatch h) (λ_ _ _ _ _ h _ _=>h) (λt ht σ' H' O' D vs ys Q' _ acc _ k=>k _ H' (Same.refl H') λv hv=>?_) λH1 D ys ps H' s1 nD s2 hD hp h1 h2=>?_
 ·rcases Oa.mp hv with z|z
  ·exact acc v z
  ·exact NR.mp z
 ·have e:ps=gQ kk:=HZ h1 h2
  refine⟨D,ys,ps,rfl,hD,by rw[hp.len,e];unfold gQ;rw[Ny];omega,hp,λq nq=>?_⟩
  have e2:eE [] ps=gQ kk:=by rw[mY ps [] (by rw[OW,h1];exact hn),OW,e]
  rw[e2];exact hq q _ ((s1.trans s2).trans (aW nq.1 _)) (mq (s1.trans s2) nq) aI
theorem wC:∀(l:List T)(kk:List (List Key)),l.length=kk.length->Reps K O H (l.map λ_=>T.non) ((gQ kk).map (·.2))
 |[],[],_=>Reps.nil_
 |_::l,_::kk,h=>Reps.FM Rep.MH (wC l kk (by simpa using h))
 |[],_::_,h=>by simp at h
 |_::_,[],h=>by simp at h
theorem wt(hk:l.map keyOf=kk.map ZA):∀{m:List T}{ds:List ZE},m.length=ds.length->(∀d∈ds,H d=ZA (.dT (gQ kk)))->RowsR K O H (m.map λ_=>(l,l.map λ_=>T.non)) ds
 |[],[],_,_=>rfl
 |_::m,d::ds,h,hd=>⟨d,ds,gQ kk,rfl,hd d Nv,by unfold gQ;rw[Oo];exact hk,wC l kk (by have:=congrArg O0 hk;rwa [Ny,Ny]at this),wt hk (by simpa using h) λe he=>hd e (Nu _ he)⟩
 |[],_::_,h,_=>by simp at h
 |_::_,[],h,_=>by simp at h
theorem Ag:∀{l:List T},iV l=ZC->∃kk:List (List Key),l.map keyOf=kk.map ZA
 |[],_=>⟨[],rfl⟩
 |t::l,h=>by
  unfold iV at h;rw[NC]at h;obtain⟨kk,e⟩:=Ag h.2;obtain⟨k,ek⟩:=Qr.mp h.1;exact⟨k::kk,by rw[Nx,Nx,ek,e]⟩
def Cv(i j:Nat){ea r ta ia:ZG}{q1 lp p2 pos:Pos}{x1}{src:List (Option Nat)}(hu:X.A.units+8<cLine)(hc:X.calm=ZC)(hm:X.mg "dict" =ZB)(hN:X.N.Nodup)
  (S:LcScope X sc N' [ZB,ZA j]) (hi:BO X ta ia (iS (vr j))) (hsr:0<src.length)
  (blk:∀cl C s₀ H₀ fp,Ey (bN X sc cl N' C s₀ H₀ fp) ta (gN 0)/\PE (bN X sc cl N' C s₀ H₀ fp) ea (vW 0)/\PE (bN X sc cl N' C s₀ H₀ fp) r (yf X src)) (h1:autoParam (bQ ea=ZC) u_) (h2:autoParam (bQ r=ZC) u_)
  (hs:autoParam (∀x,Ou ia X.env x=pure x) t_) (hg:autoParam (Gl X "dict") u_) (hix:autoParam (X.N[i]?=ZA x) u_) (hx:autoParam (Loc X.env.scope x) y_)
  (hsw:autoParam (OQ (.Call (.Name "dict" p) [.ListComp (.Tuple [ea,r] x1 q1) [⟨ta,ia,[],0⟩] sc lp] [] p2) (ZA (.Name x p3)) pos.line X.env=pure ZD) u_)
  (hf:autoParam (X.fn x=ZC\/X.env.scope.names.lookup x=ZA .local) r_):
  qL X (.Assign [.Name x p3] (.Call (.Name "dict" p) [.ListComp (.Tuple [ea,r] x1 q1) [⟨ta,ia,[],0⟩] sc lp] [] p2) pos) (ph i j):=
 PS.imp (pz hN hix hx (wL hu hc hm (wK (g:=AU X (gN 0)) (tc:=vX) (te:=E6 (lZ (vW 0) (lZ (yf X src) B7))) hc S hi (λcl C s₀ H₀ fp=>⟨(blk cl C s₀ H₀ fp).1,uf,yz (fx (blk cl C s₀ H₀ fp).2.1 (fx (blk cl C s₀ H₀ fp).2.2 jV (bo h2)) (bo h1))⟩) hs) hg rfl) hsw hf) λD σ H hh_=>by
  obtain⟨Z,B,M,E,h⟩:=hh_;unfold ph at h
  cases qj:Z[j]? with
  |none=>rw[qj]at h;exact h.elim
  |some z=>
   rw[qj]at h
   match z,h,qj with
   |.va (.lst l),h,qj=>
    dsimp only at h
    by_cases hh:i<Z.length/\iV l=ZC/\(l.map keyOf).Nodup/\l.length<=1000
    ·rw[if_pos hh]at h
     obtain⟨hl,hky,hnd,hz⟩:=hh;obtain⟨kk,hk⟩:=Ag hky
     have lk:l.length=kk.length:=by have:=congrArg O0 hk;rwa [Ny,Ny]at this
     have hn:kk.Nodup:=by
      rw[hk]at hnd;exact(P0.mp hnd).imp λh z=>h (by rw[z])
     have fj:iS (vr j) Z=.ok l:=by unfold iS vr;rw[qj];rfl
     have hlc:bV [ZB,ZA j] Z=[.em,.va (.lst l)]:=by unfold bV;simp[qj]
     unfold B8 tK
     refine xA (X:=X) (te:=yf X src) E.o (λR h=>⟨Z,OO B M,E.o,by rw[fj];exact h⟩) hz hk (by simp)
      (λH' D vs=>H D=ZB/\Same H H'/\∃ds:List ZE,vs=ds.map V.ref/\ds.Nodup/\∀d∈ds,Nw X.K H d/\H' d=ZA (.dT (gQ kk)))
      (λH1 D s1 nD=>⟨(mq s1 nD).1,s1.trans (aW nD.1 _),[],rfl,PX,λd h=>nomatch h⟩)
      (λH1 H2 D vs ys ⟨c1,c2,ds,c3,c4,c5⟩ hD s=>⟨c1,(λb o e=>s b o (c2 b o e) (λz=>by rw[z,c1]at e;cases e)),ds,c3,c4,λd hd=>⟨(c5 d hd).1,s _ _ (c5 d hd).2 (j5 (c5 d hd).2 hD (λz=>nomatch z))⟩⟩)
      (λt ht σ' H' O' D vs ys Q' E' ⟨c1,c2,ds,c3,c4,c5⟩ hD k=>Cn (l:=l) (kk:=kk) ⟨noM,E'⟩ (by rw[hlc];rfl) hz hk hn hsr λd H'' s' nd hd=>?_) λH1 D ys ps H' s1 nD s2 hD hp e1 ⟨c1,c2,ds,c3,c4,c5⟩=>?_
     ·refine k _ H'' s' ⟨c1,c2.trans s',ds++[d],by rw[c3,Oe];rfl,?_,λe he=>?_⟩
      ·refine OP.mpr ⟨c4,by simp,λu hu w hw=>?_⟩
       rw[NR.mp hw];intro z
       have:=(c5 u hu).2;rw[z,nd.1]at this;cases this
      ·rcases Oa.mp he with z|z
       ·exact⟨(c5 e z).1,s' _ _ (c5 e z).2⟩
       ·rw[NR.mp z]
        exact⟨mq c2 nd,hd⟩
     ·have hpl:ps.length=kk.length:=by rw[<-e1,Ny]
      refine⟨D,ys,ps,rfl,hD,by rw[hp.len];omega,hp,λq nq=>?_⟩
      have e2:eE [] ps=ps:=by rw[mY ps [] (by rw[OW,e1];exact hn),OW]
      rw[e2]
      have qd:q∉ds:=λz=>by have:=(c5 q z).2;rw[nq.1]at this;cases this
      have dl:ds.length=ps.length:=by have:=congrArg O0 c3;rw[Ny,Ny]at this;exact this.symm
      have hm':∀b,b=q\/b∈ds->Nw X.K H b:=λb z=>z.elim (λw=>w▸mq c2 nq) λw=>(c5 b w).1
      have sF:Same H (upd H' q (.dT ps)):=c2.trans (aW nq.1 _);obtain⟨E2,sub⟩:=E.new (m:=λb=>b=q\/b∈ds) (o:=.dd l (l.map λ_=>(l,l.map λ_=>.non))) (v:=.ref q) (H':=upd H' q (.dT ps)) hl hm' sF ⟨q,ps,ds,rfl,λb=>RT,qd,c4,aI,by rw[hk,<-e1,Oo];rfl,c3,wt hk (by omega) λd hd=>by rw[aG (show d≠q from λz=>qd (z▸hd))];exact(c5 d hd).2⟩
      exact h _ _ _ (SameO.of sF) E2 sub
    ·rw[if_neg hh]at h;exact h.elim
   |.em,h,_=>exact h.elim
   |.ow _,h,_=>exact h.elim
   |.va .non,h,_=>exact h.elim
   |.va (.bl _),h,_=>exact h.elim
   |.va (.int _),h,_=>exact h.elim
   |.va (.str _),h,_=>exact h.elim
   |.va (.tup _),h,_=>exact h.elim
   |.va (.scr _),h,_=>exact h.elim
   |.va (.dct _ _),h,_=>exact h.elim
def AL(i j:Nat){ea r ta ia:ZG}{q1 lp p2 pos:Pos}{x1}{src:List (Option Nat)}(hu:X.A.units+8<cLine)(hc:X.calm=ZC)(hm:X.mg "dict" =ZB)(hN:X.N.Nodup)
  (S:LcScope X sc N' [ZB,ZA j]) (hi:QI X ta ia (iS (vr j))) (hsr:0<src.length)
  (blk:∀cl C s₀ H₀ fp,QG (bN X sc cl N' C s₀ H₀ fp) ta (gN 0)/\PE (bN X sc cl N' C s₀ H₀ fp) ea (vW 0)/\PE (bN X sc cl N' C s₀ H₀ fp) r (yf X src)) (h1:autoParam (bQ ea=ZC) u_) (h2:autoParam (bQ r=ZC) u_)
  (hs:autoParam (∀x,Ou ia X.env x=pure x) t_) (hg:autoParam (Gl X "dict") u_) (hix:autoParam (X.N[i]?=ZA x) u_) (hx:autoParam (Loc X.env.scope x) y_)
  (hsw:autoParam (OQ (.Call (.Name "dict" p) [.ListComp (.Tuple [ea,r] x1 q1) [⟨ta,ia,[],0⟩] sc lp] [] p2) (ZA (.Name x p3)) pos.line X.env=pure ZD) u_)
  (hf:autoParam (X.fn x=ZC\/X.env.scope.names.lookup x=ZA .local) r_):
  QS X (.Assign [.Name x p3] (.Call (.Name "dict" p) [.ListComp (.Tuple [ea,r] x1 q1) [⟨ta,ia,[],0⟩] sc lp] [] p2) pos) (ph i j):=
 ⟨Cv i j hu hc hm hN S hi.h hsr (λcl C s₀ H₀ fp=>⟨(blk cl C s₀ H₀ fp).1.h,(blk cl C s₀ H₀ fp).2⟩) h1 h2 hs hg hix hx hsw hf⟩
def EN{fs:W3}{p2 pos:Pos}(hu:X.A.units+8<cLine)(hc:X.calm=ZC)(hm:X.mg "dict" =ZB)(hmz:X.mg "zip" =ZB)(ha:QA X [a,b] fs)(hst:autoParam (bP [a,b]=ZC) u_)(hg:autoParam (Gl X "dict") u_)(hgz:autoParam (Gl X "zip") u_):
  QE X (.Call (.Name "dict" p) [.Call (.Name "zip" p1) [a,b] [] p2] [] pos) (cl Ke fs):=⟨IE hu hc hm hmz ha.h hst hg hgz⟩
def zq{pos pn:Pos}{src:List (Option Nat)}(i j:Nat){D:Str}
  (hc:X.calm=ZC) (S:LcScope X scope N' src) (block:∀cl C s₀ H₀ fp,QG (bN X scope cl N' C s₀ H₀ fp) tg tgt/\LR (bN X scope cl N' C s₀ H₀ fp) ifs fc/\QE (bN X scope cl N' C s₀ H₀ fp) elt fe)
  (hN:X.N.Nodup) (hD:autoParam (X.N[i]?=ZA D) u_) (hDv:autoParam (vD X.env.scope D) v_) (hDd:autoParam ((D == ("__debug__" : Str))=ZD) s_) (hDc:autoParam ((D == ("__classdict__" : Str))=ZD) s_)
  (hiy:autoParam (X.N[j]?=ZA y) u_) (hy:autoParam (Loc X.env.scope y) y_) (hsw:autoParam (OQ (.ListComp elt [⟨tg,.Name D pn,ifs,0⟩] scope pos) (ZA (.Name y py)) spos.line X.env=pure ZC) u_)
  (hf:autoParam (X.fn y=ZC\/X.env.scope.names.lookup y=ZA .local) r_) (hs:autoParam (∀x,Ou (.Name D pn) X.env x=pure x) t_):
  QS X (.Assign [.Name y py] (.ListComp elt [⟨tg,.Name D pn,ifs,0⟩] scope pos) spos) (tY i j src tgt fc fe):=
 ⟨Ip i j hc S (λa b c d e=>⟨(block a b c d e).1.h,(block a b c d e).2.1.h,(block a b c d e).2.2.h⟩) hN hD hDv hDd hDc hiy hy hsw hf hs⟩
def gc{P:List Str}(h1:autoParam (sc.kind=.function) u_)(h2:autoParam (sc.isCoroutine=ZD) u_)(h3:autoParam (sc.isGenerator=ZD) u_)(h4:autoParam (N.Nodup) a_)(h5:autoParam (N.take P.length=P) u_)
  (h6:autoParam (∀x∈P,sc.names.lookup x=ZA .local\/sc.names.lookup x=ZA .cell) a_) (h7:autoParam (∀y∈sc.names,y.2≠ .free) a_):aE N P sc:=⟨h1,h2,h3,h4,h5,h6,h7⟩
def LC{k:Nat}(h:Room k A):A.units+70<cLine:=by have:=h.un;omega
def zr{fs:W3}{p2 pos:Pos}(hu:X.A.units+70<cLine)(hc:X.calm=ZC)(hm:X.mg "sorted" =ZB)(hmz:X.mg "zip" =ZB)(ha:QA X [a,b] fs)(hst:autoParam (bP [a,b]=ZC) u_)(hg:autoParam (Gl X "sorted") u_)(hgz:autoParam (Gl X "zip") u_):
  QE X (.Call (.Name "sorted" p) [.Call (.Name "zip" p1) [a,b] [] p2] [] pos) (cl E9 fs):=⟨IC hu hc hm hmz ha.h hst hg hgz⟩
end Tr
namespace G
open PySem PySem.Spec PyProof.Rows L2 Tr
structure Bl (mg:W0):Prop where
 b_all:mg "all" =ZB
 b_bool:mg "bool" =ZB
 b_dict:mg "dict" =ZB
 b_enumerate:mg "enumerate" =ZB
 b_int:mg "int" =ZB
 b_isinstance:mg "isinstance" =ZB
 b_len:mg "len" =ZB
 b_max:mg "max" =ZB
 b_min:mg "min" =ZB
 b_range:mg "range" =ZB
 b_sorted:mg "sorted" =ZB
 b_tuple:mg "tuple" =ZB
 b_zip:mg "zip" =ZB
structure Cs (mg:W0):Prop where
 MOST_CLOCKS:∃t,mg "MOST_CLOCKS" =ZA (.int 4 t)
 MOST_LETTERS:∃t,mg "MOST_LETTERS" =ZA (.int 8 t)
 MOST_READINGS:∃t,mg "MOST_READINGS" =ZA (.int 4 t)
 LAST_READING:∃t,mg "LAST_READING" =ZA (.int 99 t)
 SLOWEST:∃t,mg "SLOWEST" =ZA (.int 9 t)
 LONGEST:∃t,mg "LONGEST" =ZA (.int 999 t)
def vt:Oq "bool" =ZA (.type "bool"):=by decide+kernel
def n4:Oq "int" =ZA (.type "int"):=by decide+kernel
def df:Oq "tuple" =ZA (.type "tuple"):=by decide+kernel
structure Xs (K:Nt)(mg:W0)(ac ap bi bn:ZE):Prop where
 m_NoRecord:mg "NoRecord" =ZA (.ref ac)
 m_NoEvent:mg "NoEvent" =ZA (.ref ap)
 m_NoWorld:mg "NoWorld" =ZA (.ref bi)
 m_ClockError:mg "ClockError" =ZA (.ref bn)
 o_NoRecord:OX K ac (.ref bn::zg)
 o_NoEvent:OX K ap (.ref bn::zg)
 o_NoWorld:OX K bi (.ref bn::zg)
 o_ClockError:OX K bn zg
 d:[ac,ap,bi,bn].Nodup
def ku:W4:=
 (aw (dQ (tb (o2 nX (vr 0) (dF ai))) (aL (o2 bY (cn (.int 7)) (vr 1))) sN) (aL (o2 aS (o2 aX (vr 0) (o2 mB (vr 1) (cl dh (af (vr 0) ai)))) (o2 bY (cn (.int 6553)) (o2 mI (vr 1) (cl dh (af (vr 0) ai)))))))
def f9:List T->Rs T:=val 2 2 ku
def jx:W4:=
 (aw (cM (o2 mB (o2 aS (o2 bY (o2 mB (cl f9 (af (vr 0) (af (vr 1) ai))) (cn (.int 2147483563))) (cn (.int 69069))) (o2 bY (cn (.int 104723)) (o2 aS (vr 1) (cn (.int 1))))) (cn (.int 2147483563))) (gN 3)) (aw (cM (o2 mB (o2 aS (o2 bY (vr 3) (vr 3)) (o2 mI (vr 3) (cn (.int 3)))) (cn (.int 2147483399))) (gN 3)) (aL (o2 mB (o2 mI (o2 mB (o2 aS (o2 bY (vr 3) (vr 3)) (o2 mI (vr 3) (cn (.int 7)))) (cn (.int 2147483647))) (cn (.int 11))) (vr 2)))))
def aA:List T->Rs T:=val 3 4 jx
abbrev evF:W4:=cM (o2 aS (vr 1) (ee (iR (af (cl dh (af (o2 aX (vr 3) (cn (.int 2))) ai)) ai)) [ZB,ZA 2] (gN 0) bT (bx (af (vr 1) (af (vr 0) ai))))) (gN 1)
def lG:W4:=
 (aw (cM (dF ai) (gN 1)) (aw (dS (iE (af (vr 0) ai)) (gT 2 (du (gN 2) (du (gN 3) jh))) evF) (aL (vr 1))))
def eF:List T->Rs T:=val 1 4 lG
def eJ:W4:=
 (aw (cM (cl eF (af (vr 2) ai)) (gN 3)) (aw (dQ (tb (o2 qP (cl dh (af (vr 3) ai)) (cn (.int 2)))) (aL (cn .non)) sN) (aw (cM (cl aA (af (vr 0) (af (vr 1) (af (cl dh (af (vr 3) ai)) ai)))) (gN 4)) (aw (cM (o2 mB (o2 aS (o2 aS (vr 4) (cn (.int 1))) (cl aA (af (vr 0) (af (o2 aS (vr 1) (cn (.int 1))) (af (o2 cR (cl dh (af (vr 3) ai)) (cn (.int 1))) ai))))) (cl dh (af (vr 3) ai))) (gN 5)) (aw (cM (cl aA (af (vr 0) (af (o2 aS (vr 1) (cn (.int 2))) (af (cn (.int 8)) ai)))) (gN 6)) (aw (cM (qu (tb (o2 nX (cl aA (af (vr 0) (af (o2 aS (vr 1) (cn (.int 3))) (af (cn (.int 3)) ai)))) (cn (.int 0)))) (cn .non) (o2 aS (vr 6) (cl aA (af (vr 0) (af (o2 aS (vr 1) (cn (.int 4))) (af (cn (.int 9)) ai)))))) (gN 7)) (aL (bx (af (o2 aX (vr 3) (vr 4)) (af (o2 aX (vr 3) (vr 5)) (af (vr 6) (af (vr 7) ai))))))))))))
def cC:List T->Rs T:=val 3 8 eJ
abbrev clF:W4:=cM (o2 aS (vr 3) (bx (af (o2 aS (o2 aS (o2 aX (vr 3) (o1 uN (cn (.int 1)))) (cn (.int 1))) (cl aA (af (vr 0) (af (o2 aS (o2 aS (vr 1) (cn (.int 3))) (vr 4)) (af (cn (.int 5)) ai))))) ai))) (gN 3)
def jy:W4:=
 (aw (cM (o2 aS (cn (.int 1)) (cl aA (af (vr 0) (af (vr 1) (af (cn (.int 3)) ai))))) (gN 2)) (aw (cM (bx (af (cl aA (af (vr 0) (af (o2 aS (vr 1) (cn (.int 2))) (af (cn (.int 6)) ai)))) ai)) (gN 3)) (aw (dS (iR (af (cl aA (af (vr 0) (af (o2 aS (vr 1) (cn (.int 1))) (af (cn (.int 3)) ai)))) ai)) (gN 4) clF) (aL (bx (af (vr 2) (af (o2 aS (vr 2) (cl aA (af (vr 0) (af (o2 aS (vr 1) (cn (.int 6))) (af (cn (.int 3)) ai))))) (af (vr 3) ai))))))))
def cW:List T->Rs T:=val 2 5 jy
abbrev leF:W4:=aw (cM (cl cC (af (vr 0) (af (o2 aS (o2 aS (vr 1) (cn (.int 31))) (o2 bY (cn (.int 6)) (vr 5))) (af (vr 3) ai)))) (gN 6)) (cM (o2 aS (vr 4) (o2 bY (dF (af (vr 6) ai)) (cl DI (af (o2 cS (vr 6) (cn .non)) ai)))) (gN 4))
def iC:W4:=
 (aw (cM (cl fN (af (ee (iR (af (o2 aS (cn (.int 1)) (cl aA (af (vr 0) (af (vr 1) (af (cn (.int 3)) ai))))) ai)) [ZB,ZA 0,ZA 1] (gN 0) bT (cl cW (af (vr 1) (af (o2 aS (o2 aS (vr 2) (cn (.int 1))) (o2 bY (cn (.int 8)) (vr 0))) ai)))) ai)) (gN 3)) (aw (cM (dF ai) (gN 4)) (aw (dS (iR (af (cl aA (af (vr 0) (af (o2 aS (vr 1) (cn (.int 30))) (af (o2 aS (vr 2) (cn (.int 1))) ai)))) ai)) (gN 5) leF) (aL (bx (af (vr 3) (af (cl fN (af (vr 4) ai)) ai)))))))
def fV:List T->Rs T:=val 3 7 iC
def tE:W4:=
 (aL (cL (o1 (Gv "tuple") (vr 0)) (ch Ll Ll (vr 1) (cl dh (af (vr 0) ai)) (vr 2))))
def aV:List T->Rs T:=val 3 3 tE
def zl:W4:=
 (aL (cL (o1 (Gv "int") (vr 0)) (o1 yH (o1 (Gv "bool") (vr 0)))))
def jc:List T->Rs T:=val 1 1 zl
def kn:W4:=
 (aL (cL (cl jc (af (vr 0) ai)) (ch Ll Ll (vr 1) (vr 0) (vr 2))))
def bp:List T->Rs T:=val 3 3 kn
def nI:W4:=
 (aL (cL (cl bp (af (vr 0) (af (cn (.int 1)) (af (cn (.int 9)) ai)))) (cl bp (af (vr 1) (af (vr 0) (af (cn (.int 9)) ai))))))
def gE:List T->Rs T:=val 2 2 nI
def AJ:W4:=
 (aL (cl rM (af (ee (iR (af (o2 cR (cl dh (af (vr 0) ai)) (cn (.int 1))) ai)) [ZB,ZA 0] (gN 0) bT (o2 qP (o2 aX (vr 1) (vr 0)) (o2 aX (vr 1) (o2 aS (vr 0) (cn (.int 1)))))) ai)))
def kI:List T->Rs T:=val 1 1 AJ
def fG:W4:=
 (aw (dQ (dg (tb (cl aV (af (vr 0) (af (cn (.int 1)) (af (cn (.int 4)) ai)))))) (aL (cn (.bl ZD))) sN) (aL (cL (cl rM (af (ee (iS (vr 0)) [ZB] (gN 0) bT (cl bp (af (vr 0) (af (cn (.int 0)) (af (cn (.int 99)) ai))))) ai)) (cl kI (af (vr 0) ai)))))
def cj:List T->Rs T:=val 1 1 fG
def jr:W4:=
 (aL (cL (cl aV (af (vr 0) (af (cn (.int 3)) (af (cn (.int 3)) ai)))) (cL (cl gE (af (o2 aX (vr 0) (cn (.int 0))) (af (o2 aX (vr 0) (cn (.int 1))) ai))) (cl cj (af (o2 aX (vr 0) (cn (.int 2))) ai)))))
def dX:List T->Rs T:=val 1 1 jr
def ju:W4:=
 (aL (cL (cl aV (af (vr 0) (af (cn (.int 1)) (af (cn (.int 4)) ai)))) (cl rM (af (ee (iS (vr 0)) [ZB] (gN 0) bT (cl dX (af (vr 0) ai))) ai))))
def d9:List T->Rs T:=val 1 1 ju
def jo:W4:=
 (aw (dQ (lW (dg (tb (cl aV (af (vr 1) (af (cn (.int 2)) (af (cn (.int 2)) ai)))))) (dg (tb (cl bp (af (o2 aX (vr 1) (cn (.int 0))) (af (cn (.int 0)) (af (o2 cR (cl dh (af (vr 0) ai)) (cn (.int 1))) ai))))))) (aL (cn (.bl ZD))) sN) (aL (cl bp (af (o2 aX (vr 1) (cn (.int 1))) (af (cn (.int 0)) (af (o2 cR (cl dh (af (o2 aX (o2 aX (vr 0) (o2 aX (vr 1) (cn (.int 0)))) (cn (.int 2))) ai)) (cn (.int 1))) ai))))))
def da:List T->Rs T:=val 2 2 jo
def jq:W4:=
 (aL (cL (cl bp (af (vr 0) (af (cn (.int 0)) (af (cn (.int 999)) ai)))) (BJ (o2 gp (vr 1) (cn .non)) (cl bp (af (vr 1) (af (vr 0) (af (cn (.int 999)) ai)))))))
def eU:List T->Rs T:=val 2 2 jq
def fg:W4:=
 (aw (dQ (lW (dg (tb (cl aV (af (vr 1) (af (cn (.int 4)) (af (cn (.int 4)) ai)))))) (dg (tb (cl eU (af (o2 aX (vr 1) (cn (.int 2))) (af (o2 aX (vr 1) (cn (.int 3))) ai)))))) (aL (cn (.bl ZD))) sN) (aL (cL (cl da (af (vr 0) (af (o2 aX (vr 1) (cn (.int 0))) ai))) (cL (cl da (af (vr 0) (af (o2 aX (vr 1) (cn (.int 1))) ai))) (o2 iG (o2 aX (vr 1) (cn (.int 0))) (o2 aX (vr 1) (cn (.int 1))))))))
def cA:List T->Rs T:=val 2 2 fg
def iB:W4:=
 (aL (cL (cl aV (af (vr 1) (af (cn (.int 0)) (af (cn (.int 8)) ai)))) (cl rM (af (ee (iS (vr 1)) [ZB,ZA 0] (gN 0) bT (cl cA (af (vr 1) (af (vr 0) ai)))) ai))))
def dH:List T->Rs T:=val 2 2 iB
def ig:W4:=
 (aL (cL (cl aV (af (vr 0) (af (cn (.int 2)) (af (cn (.int 2)) ai)))) (cL (cl d9 (af (o2 aX (vr 0) (cn (.int 0))) ai)) (cl dH (af (o2 aX (vr 0) (cn (.int 0))) (af (o2 aX (vr 0) (cn (.int 1))) ai))))))
def dW:List T->Rs T:=val 1 1 ig
def eI:W4:=
 (dQ (dg (tb (cl dW (af (vr 0) ai)))) (Cj "NoRecord") sN)
def aY:List T->Rs T:=val 1 1 eI
abbrev peF:W4:=pj 1 (ee (iR (af (cl dh (af (o2 aX (vr 3) (cn (.int 2))) ai)) ai)) [ZB,ZA 2] (gN 0) bT (bx (af (vr 1) (af (vr 0) ai))))
def qM:W4:=
 (aw (rZ (cl aY (af (vr 0) ai))) (aw (iM 1 ai) (aw (dS (iE (af (o2 aX (vr 0) (cn (.int 0))) ai)) (gT 2 (du (gN 2) (du (gN 3) jh))) peF) (mX 1 (aL (vr 1))))))
def cw:List T->Rs T:=val 1 4 qM
abbrev lkF:W4:=(aw (cM (o2 cR (o2 aX (vr 5) (vr 6)) (o2 aX (vr 5) (o2 cR (vr 6) (cn (.int 1))))) (gN 7)) (aw (g9 1 (bx (af (bx (af (vr 2) (af (o2 cR (vr 6) (cn (.int 1))) ai))) (af (bx (af (vr 2) (af (vr 6) ai))) (af (o2 bY (vr 4) (vr 7)) ai))))) (g9 1 (bx (af (bx (af (vr 2) (af (vr 6) ai))) (af (bx (af (vr 2) (af (o2 cR (vr 6) (cn (.int 1))) ai))) (af (o2 cR (cn (.int 0)) (o2 bY (vr 3) (vr 7))) ai)))))))
abbrev llF:W4:=(aw (g9 1 (bx (af (vr 9) (af (vr 8) (af (o2 cR (cn (.int 0)) (vr 10)) ai))))) (dQ (tb (o2 cS (vr 11) (cn .non))) (g9 1 (bx (af (vr 8) (af (vr 9) (af (vr 11) ai))))) sN))
def iF:W4:=
 (aw (iM 1 ai) (aw (dS (iE (af (o2 aX (vr 0) (cn (.int 0))) ai)) (gT 2 (du (gN 2) (du (gT 3 (du (gN 3) (du (gN 4) (du (gN 5) jh)))) jh))) (dS (iR (af (cn (.int 1)) (af (cl dh (af (vr 5) ai)) ai))) (gN 6) lkF)) (aw (dS (iS (o2 aX (vr 0) (cn (.int 1)))) (gT 4 (du (gN 8) (du (gN 9) (du (gN 10) (du (gN 11) jh))))) llF) (mX 1 (aL (vr 1))))))
def eG:List T->Rs T:=val 1 12 iF
abbrev Kh:W4:=(dQ (iZ (tb (o2 cS (ln 2 (o2 aO (o2 aO (vr 2) (vr 3)) (vr 6))) (cn .non))) (tb (o2 cS (ln 2 (o2 aO (o2 aO (vr 2) (vr 6)) (vr 4))) (cn .non)))) (aw (cM (o2 aS (ln 2 (o2 aO (o2 aO (vr 2) (vr 3)) (vr 6))) (ln 2 (o2 aO (o2 aO (vr 2) (vr 6)) (vr 4)))) (gN 7)) (dQ (lW (tb (o2 gp (ln 2 (o2 aO (o2 aO (vr 2) (vr 3)) (vr 4))) (cn .non))) (tb (o2 qP (vr 7) (ln 2 (o2 aO (o2 aO (vr 2) (vr 3)) (vr 4)))))) (jC 2 (vr 3) (vr 4) (vr 7)) sN)) sN)
def jv:W4:=
 (aw (ph 2 0) (aw (dS (iS (vr 0)) (gN 3) (jC 2 (vr 3) (vr 3) (cn (.int 0)))) (aw (dS (iS (vr 1)) (gT 3 (du (gN 3) (du (gN 4) (du (gN 5) jh)))) (dQ (lW (tb (o2 gp (ln 2 (o2 aO (o2 aO (vr 2) (vr 3)) (vr 4))) (cn .non))) (tb (o2 qP (vr 5) (ln 2 (o2 aO (o2 aO (vr 2) (vr 3)) (vr 4)))))) (jC 2 (vr 3) (vr 4) (vr 5)) sN)) (aw (dS (iS (vr 0)) (gN 6) (dS (iS (vr 0)) (gN 3) (dS (iS (vr 0)) (gN 4) Kh))) (mX 2 (aL (qu (tb (o2 nX (ee (iS (vr 0)) [ZB,ZA 2] (gN 0) (tb (o2 qP (o2 aO (o2 aO (vr 1) (vr 0)) (vr 0)) (cn (.int 0)))) (vr 0)) (dF ai))) (vr 2) (cn .non))))))))
def fz:List T->Rs T:=val 2 8 jv
def kr:W4:=
 (aw (cM (oD jG (vr 0) (o2 aX (vr 1) (cn (.int 1)))) (gN 3)) (aL (BJ (o2 gp (vr 3) (cn .non)) (o2 qP (o2 aS (o2 aX (vr 2) (cn (.int 0))) (o2 aX (vr 1) (cn (.int 2)))) (o2 aX (vr 3) (cn (.int 0)))))))
def dY:List T->Rs T:=val 3 4 kr
abbrev EF:W4:=(aw (cM (ln 2 (oD jG (vr 2) (o2 aX (vr 5) (cn (.int 0))))) (gN 6)) (aw (dQ (lW (tb (o2 gp (vr 6) (cn .non))) (dg (Jr 2 (tb (cl dY (af (vr 2) (af (vr 5) (af (vr 6) ai)))))))) Hj sN) (aw (cM (o2 aS (o2 aX (vr 6) (cn (.int 1))) (dF (af (vr 4) ai))) (gN 7)) (aw (cM (ee (iS (vr 7)) [ZB,ZA 0] (gN 0) bT (o2 aX (o2 aX (vr 1) (vr 0)) (cn (.int 0)))) (gN 8)) (aw (dQ (tb (o2 Kd (o2 aX (vr 5) (cn (.int 1))) (vr 8))) (aL (bx (af (cn .non) (af (sl (vr 7) (pS (oL eO (vr 8) (o2 aX (vr 5) (cn (.int 1))))) pN) ai)))) sN) (aw (qY 2 (o2 aX (vr 5) (cn (.int 1))) (bx (af (o2 aS (o2 aX (vr 6) (cn (.int 0))) (o2 aX (vr 5) (cn (.int 2)))) (af (vr 7) ai)))) (cM (cn (.bl ZC)) (gN 3))))))))
def kl:W4:=
 (aw (rY 2 (ee (iS (vr 1)) [ZB] (gN 0) bT (bx (af (vr 0) (af (bx (af (cn (.int 0)) (af (dF ai) ai))) ai))))) (aw (cM (cn (.bl ZC)) (gN 3)) (aw (cf (tb (vr 3)) (aw (cM (cn (.bl ZD)) (gN 3)) (dS (iE (af (vr 0) ai)) (gT 2 (du (gN 4) (du (gN 5) jh))) EF)) FU) (mX 2 (aL (bx (af (vr 2) (af (cn .non) ai))))))))
def f7:List T->Rs T:=val 2 9 kl
def dv:W4:=
 (aw (cM (cl cw (af (vr 0) ai)) (gN 2)) (aw (cM (o2 aX (cl f7 (af (vr 1) (af (vr 2) ai))) (cn (.int 0))) (gN 3)) (aw (dQ (tb (o2 gp (vr 3) (cn .non))) (aL (cn .non)) sN) (aL (cl fN (af (ee (iS (vr 2)) [ZB,ZA 3] (gN 0) bT (o2 aX (o2 aO (vr 1) (vr 0)) (cn (.int 0)))) ai))))))
def bB:List T->Rs T:=val 2 4 dv
abbrev bcF:W4:=(aw (cM (bx (af (vr 0) (af (vr 4) ai))) (gN 5)) (aw (cM (bx (af (vr 0) (af (o2 aS (vr 4) (cn (.int 1))) ai))) (gN 6)) (aw (cM (o2 cR (o2 aX (vr 2) (o2 aS (vr 4) (cn (.int 1)))) (o2 aX (vr 2) (vr 4))) (gN 7)) (aw (g9 3 (bx (af (vr 5) (af (vr 6) (af (o2 bY (vr 7) (o2 aX (vr 1) (cn (.int 1)))) ai))))) (g9 3 (bx (af (vr 6) (af (vr 5) (af (o2 bY (o1 uN (vr 7)) (o2 aX (vr 1) (cn (.int 0)))) ai)))))))))
def fF:W4:=
 (aw (cM (o2 aX (vr 1) (cn (.int 2))) (gN 2)) (aw (iM 3 ai) (aw (dS (iR (af (o2 cR (cl dh (af (vr 2) ai)) (cn (.int 1))) ai)) (gN 4) bcF) (mX 3 (aL (vr 3))))))
def cV:List T->Rs T:=val 2 8 fF
def eV:W4:=
 (aw (iM 1 (af (bx (af (o2 aX (vr 0) (cn (.int 1))) (af (o2 aX (vr 0) (cn (.int 0))) (af (o1 uN (o2 aX (vr 0) (cn (.int 2)))) ai)))) ai)) (aw (dQ (tb (o2 cS (o2 aX (vr 0) (cn (.int 3))) (cn .non))) (g9 1 (bx (af (o2 aX (vr 0) (cn (.int 0))) (af (o2 aX (vr 0) (cn (.int 1))) (af (o2 aX (vr 0) (cn (.int 3))) ai))))) sN) (mX 1 (aL (vr 1)))))
def cJ:List T->Rs T:=val 1 2 eV
abbrev bdF:W4:=pj 1 (cl cV (af (vr 2) (af (vr 3) ai)))
def qN:W4:=
 (aw (rZ (cl aY (af (vr 0) ai))) (aw (iM 1 ai) (aw (dS (iE (af (o2 aX (vr 0) (cn (.int 0))) ai)) (gT 2 (du (gN 2) (du (gN 3) jh))) bdF) (aw (dS (iS (o2 aX (vr 0) (cn (.int 1)))) (gN 4) (pj 1 (cl cJ (af (vr 4) ai)))) (mX 1 (aL (vr 1)))))))
def fy:List T->Rs T:=val 1 5 qN
def G1:W4:=
 (aL (cl bB (af (vr 0) (af (cl fy (af (vr 0) ai)) ai))))
def dM:List T->Rs T:=val 1 1 G1
def xX:W4:=
 (aL (o2 cS (cl dM (af (vr 0) ai)) (cn .non)))
def dB:List T->Rs T:=val 1 1 xX
def jm:W4:=
 (dQ (dg (tb (cl dB (af (vr 0) ai)))) (Cj "NoWorld") sN)
def d8:List T->Rs T:=val 1 1 jm
def vH:W4:=
 (aL (o2 aX (cl f7 (af (cl fy (af (vr 0) ai)) (af (dF (af (vr 1) ai)) ai))) (cn (.int 0))))
def dD:List T->Rs T:=val 2 2 vH
def BH:W4:=
 (aL (qu (tb (o2 Ei (vr 1) (vr 0))) (o2 aX (o2 aO (vr 0) (vr 1)) (cn (.int 0))) (cn .non)))
def eZ:List T->Rs T:=val 2 2 BH
abbrev amF:W4:=(aw (cM (cl dD (af (vr 0) (af (vr 3) ai))) (gN 4)) (g9 2 (cl fN (af (ee (iS (vr 1)) [ZB,ZA 4] (gN 0) bT (cl eZ (af (vr 1) (af (vr 0) ai)))) ai))))
def lV:W4:=
 (aw (rZ (cl d8 (af (vr 0) ai))) (aw (cM (cl cw (af (vr 0) ai)) (gN 1)) (aw (iM 2 ai) (aw (dS (iS (vr 1)) (gN 3) amF) (aL (ln 2 (cl fN (af (vr 2) ai))))))))
def jd:List T->Rs T:=val 1 5 lV
abbrev spI:W4:=(dQ (iZ (tb (o2 cS (o2 aX (o2 aX (vr 1) (vr 6)) (vr 4)) (cn .non))) (tb (o2 qP (o2 aX (o2 aX (vr 1) (vr 6)) (vr 4)) (cn (.int 0))))) (g9 3 (bx (af (vr 5) (af (vr 7) ai)))) sN)
def jl:W4:=
 (aw (cM (cl jd (af (vr 0) ai)) (gN 1)) (aw (cM (cl cw (af (vr 0) ai)) (gN 2)) (aw (iM 3 ai) (aw (dS (iE (af (vr 2) ai)) (gT 2 (du (gN 4) (du (gN 5) jh))) (dS (iE (af (vr 2) ai)) (gT 2 (du (gN 6) (du (gN 7) jh))) spI)) (mX 3 (aL (vr 3)))))))
def d7:List T->Rs T:=val 1 8 jl
def vI:W4:=
 (aL (ee (iS (cl E9 (af (vr 1) (af (cl cw (af (vr 0) ai)) ai)))) [ZB] (gN 0) bT (o2 aX (vr 0) (cn (.int 1)))))
def cT:List T->Rs T:=val 2 2 vI
def gZ:W4:=
 (aw (cM (cl dM (af (vr 0) ai)) (gN 1)) (aL (qu (tb (o2 gp (vr 1) (cn .non))) (cn .non) (cl cT (af (vr 0) (af (vr 1) ai))))))
def fQ:List T->Rs T:=val 1 2 gZ
def gh:W4:=
 (aw (rZ (cl aY (af (vr 0) ai))) (aL (vr 0)))
def e9:List T->Rs T:=val 1 1 gh
def iy:W4:=
 (aw (rZ (cl aY (af (vr 0) ai))) (aL (cl e9 (af (bx (af (o2 aX (vr 0) (cn (.int 0))) (af (o2 aS (o2 aX (vr 0) (cn (.int 1))) (bx (af (vr 1) ai))) ai))) ai))))
def cZ:List T->Rs T:=val 2 2 iy
def jw:W4:=
 (aw (dQ (lW (tb (o2 gp (vr 1) (cn .non))) (dg (tb (cl dB (af (cl cZ (af (vr 0) (af (vr 1) ai))) ai))))) (aL (cn (.bl ZC))) sN) (aw (cM (cl d7 (af (cl cZ (af (vr 0) (af (vr 1) ai))) ai)) (gN 3)) (aL (o2 nX (ee (iS (vr 2)) [ZB,ZA 3] (gN 0) (tb (o2 jY (vr 0) (vr 1))) (vr 0)) (dF ai)))))
def gz:List T->Rs T:=val 3 4 jw
def g8:W4:=
 (aw (dS (iS (vr 0)) (gT 2 (du (gN 2) (du (gN 3) jh))) (dQ (tb (o2 iG (ee (iS (vr 0)) [ZB,ZB,ZA 3,ZA 2,ZA 0] (gT 2 (du (gN 0) (du (gN 1) jh))) (iZ (tb (o2 nX (vr 0) (vr 2))) (tb (o2 jY (bx (af (vr 3) (af (vr 1) ai))) (vr 4)))) (vr 1)) (dF ai))) (aL (cn (.bl ZD))) sN)) (aw (dS (iR (af (cn (.int 1)) (af (cl dh (af (vr 1) ai)) ai))) (gN 4) (dQ (iZ (tb (o2 nX (o2 aX (o2 aX (vr 1) (vr 4)) (cn (.int 0))) (o2 aX (o2 aX (vr 1) (o2 cR (vr 4) (cn (.int 1)))) (cn (.int 0))))) (tb (o2 jY (bx (af (o2 aX (vr 1) (o2 cR (vr 4) (cn (.int 1)))) (af (o2 aX (vr 1) (vr 4)) ai))) (vr 0)))) (aL (cn (.bl ZD))) sN)) (aL (cn (.bl ZC)))))
def fA:List T->Rs T:=val 2 5 g8
abbrev DW:W4:=(aw (tY 5 8 [ZB,ZA 5,ZA 4,ZA 7] (gN 0) (tb (o2 cS (o2 aO (o2 aO (vr 2) (vr 0)) (vr 3)) (cn .non))) (o2 aS (o2 aO (vr 1) (vr 0)) (o2 aO (o2 aO (vr 2) (vr 0)) (vr 3)))) (aw (tY 5 9 [ZB,ZA 5,ZA 4,ZA 7] (gN 0) (tb (o2 cS (o2 aO (o2 aO (vr 2) (vr 3)) (vr 0)) (cn .non))) (o2 cR (o2 aO (vr 1) (vr 0)) (o2 aO (o2 aO (vr 2) (vr 3)) (vr 0)))) (aw (cM (qu (tb (o2 iG (vr 9) (dF ai))) (cl Bc (af (vr 9) ai)) (qu (tb (o2 iG (vr 8) (dF ai))) (o2 cR (cl uR (af (vr 8) ai)) (cn (.int 5))) (cn (.int 0)))) (gN 10)) (aw (cM (qu (tb (o2 iG (vr 8) (dF ai))) (cl uR (af (vr 8) ai)) (o2 aS (vr 10) (cn (.int 5)))) (gN 11)) (qY 5 (vr 7) (o2 aS (vr 10) (cl aA (af (vr 0) (af (o2 aS (vr 1) (vr 6)) (af (o2 aS (o2 cR (vr 11) (vr 10)) (cn (.int 1))) ai))))))))))
def eX:W4:=
 (aw (tX 5) (aw (dS (iE (af (vr 2) ai)) (gT 2 (du (gN 6) (du (gN 7) jh))) DW) (aL (cl fN (af (ln 5 (ee (iS (vr 2)) [ZB,ZA 5] (gN 0) bT (o2 aO (vr 1) (vr 0)))) ai)))))
def cK:List T->Rs T:=val 5 12 eX
def jn:W4:=
 (dQ (dg (tb (cl da (af (o2 aX (vr 0) (cn (.int 0))) (af (vr 1) ai))))) (Cj "NoEvent") sN)
def cU:List T->Rs T:=val 2 2 jn
def iz:W4:=
 (aw (rZ (cl aY (af (vr 0) ai))) (aw (rZ (cl cU (af (vr 0) (af (vr 1) ai)))) (rZ (cl cU (af (vr 0) (af (vr 2) ai))))))
def fU:List T->Rs T:=val 3 3 iz
def gY:W4:=
 (aw (rZ (cl fU (af (vr 0) (af (vr 1) (af (vr 2) ai))))) (aw (rZ (cl d8 (af (vr 0) ai))) (aL (cl eZ (af (cl dD (af (vr 0) (af (vr 1) ai))) (af (vr 2) ai))))))
def cI:List T->Rs T:=val 3 3 gY
def gq:W4:=
 (aw (cM (cl cI (af (vr 0) (af (vr 2) (af (vr 1) ai)))) (gN 3)) (aL (qu (tb (o2 gp (vr 3) (cn .non))) (cn .non) (o1 uN (vr 3)))))
def eK:List T->Rs T:=val 3 4 gq
def gX:W4:=
 (aw (cM (cl eK (af (vr 0) (af (vr 1) (af (vr 2) ai)))) (gN 3)) (aL (cL (o2 cS (vr 3) (cn .non)) (o2 JN (vr 3) (cn (.int 0))))))
def cg:List T->Rs T:=val 3 4 gX
def iA:W4:=
 (aw (cM (cl cI (af (vr 0) (af (vr 1) (af (vr 2) ai)))) (gN 3)) (aL (BJ (o2 gp (vr 3) (cn .non)) (o2 JN (vr 3) (cn (.int 0))))))
def bO:List T->Rs T:=val 3 4 iA
def nH:W4:=
 (aw (dQ (tb (cl cg (af (vr 0) (af (vr 1) (af (vr 2) ai))))) (aL (cn (.str "ahead"))) sN) (aw (dQ (tb (cl cg (af (vr 0) (af (vr 2) (af (vr 1) ai))))) (aL (cn (.str "behind"))) sN) (aw (dQ (lW (tb (cl bO (af (vr 0) (af (vr 1) (af (vr 2) ai))))) (tb (cl bO (af (vr 0) (af (vr 2) (af (vr 1) ai)))))) (aL (cn (.str "open"))) sN) (aL (cn (.str "at once"))))))
def fP:List T->Rs T:=val 3 3 nH
def jt:W4:=
 (aw (rZ (cl aY (af (vr 0) ai))) (aw (dS (iS (vr 1)) (gN 2) (rZ (cl cU (af (vr 0) (af (vr 2) ai))))) (aw (dQ (tb (o2 iG (cl rW (af (vr 1) ai)) (cl cw (af (vr 0) ai)))) (aL (cn (.bl ZD))) sN) (aw (cM (ee (iR (af (o2 cR (cl dh (af (vr 1) ai)) (cn (.int 1))) ai)) [ZB,ZA 1] (gN 0) bT (bx (af (o2 aX (vr 1) (o2 aS (vr 0) (cn (.int 1)))) (af (o2 aX (vr 1) (vr 0)) (af (cn (.int 0)) ai))))) (gN 3)) (aL (o2 cS (cl bB (af (vr 0) (af (o2 aS (cl fy (af (vr 0) ai)) (vr 3)) ai))) (cn .non)))))))
def cy:List T->Rs T:=val 2 4 jt
def oA:W4:=
 (aL (cL (o1 yH (cl cg (af (vr 0) (af (vr 1) (af (vr 2) ai))))) (o1 yH (cl cg (af (vr 0) (af (vr 2) (af (vr 1) ai)))))))
def cq:List T->Rs T:=val 3 3 oA
abbrev BB:W4:=(aw (cM (cl cK (af (vr 0) (af (o2 aS (cn (.int 80)) (o2 bY (cn (.int 20)) (vr 6))) (af (vr 2) (af (vr 3) (af (vr 4) ai)))))) (gN 7)) (aw (cM (cl Ke (af (vr 2) (af (vr 7) ai))) (gN 8)) (aw (dQ (tb (o2 iG (ee (iS (vr 5)) [ZB,ZB,ZA 8] (gT 2 (du (gN 0) (du (gN 1) jh))) (tb (o2 Me (o2 aO (vr 2) (vr 0)) (o2 aO (vr 2) (vr 1)))) (vr 0)) (dF ai))) (aL (cn (.bl ZD))) sN) (aw (cM (cl cT (af (vr 1) (af (vr 7) ai))) (gN 9)) (aw (dQ (lW (tb (o2 iG (vr 9) (ee (iS (cl E9 (af (vr 7) (af (vr 2) ai)))) [ZB,ZB] (gT 2 (du (gN 0) (du (gN 1) jh))) bT (vr 1)))) (dg (tb (cl cy (af (vr 1) (af (vr 9) ai)))))) (aL (cn (.bl ZD))) sN) (aw (cM (o2 aX (vr 2) (cl aA (af (vr 0) (af (o2 aS (cn (.int 120)) (o2 bY (cn (.int 2)) (vr 6))) (af (cl dh (af (vr 2) ai)) ai))))) (gN 10)) (aw (cM (o2 aX (vr 2) (cl aA (af (vr 0) (af (o2 aS (cn (.int 121)) (o2 bY (cn (.int 2)) (vr 6))) (af (cl dh (af (vr 2) ai)) ai))))) (gN 11)) (aw (dQ (iZ (tb (o2 qP (o2 aO (vr 8) (vr 10)) (o2 aO (vr 8) (vr 11)))) (dg (tb (cl bO (af (vr 1) (af (vr 10) (af (vr 11) ai))))))) (aL (cn (.bl ZD))) sN) (aw (dQ (iZ (tb (o2 nX (o2 aO (vr 8) (vr 10)) (o2 aO (vr 8) (vr 11)))) (dg (tb (cl cq (af (vr 1) (af (vr 10) (af (vr 11) ai))))))) (aL (cn (.bl ZD))) sN) (aw (Kx 12) (aw (dQ (tb (o2 iG (o1 (vK [("ahead","behind"),("behind","ahead"),("open","open"),("at once","at once")]) (cl fP (af (vr 1) (af (vr 10) (af (vr 11) ai))))) (cl fP (af (vr 1) (af (vr 11) (af (vr 10) ai)))))) (aL (cn (.bl ZD))) sN) sN)))))))))))
def EB:W4:=
 (aw (cM (cl fV (af (vr 0) (af (cn (.int 0)) (af (cn (.int 5)) ai)))) (gN 1)) (aw (dQ (dg (tb (cl dB (af (vr 1) ai)))) (aL (o2 gp (cl fQ (af (vr 1) ai)) (cn .non))) sN) (aw (cM (cl cw (af (vr 1) ai)) (gN 2)) (aw (cM (cl eG (af (vr 1) ai)) (gN 3)) (aw (cM (cl fz (af (vr 2) (af (vr 3) ai))) (gN 4)) (aw (cM (cl d7 (af (vr 1) ai)) (gN 5)) (aw (dQ (dg (tb (cl fA (af (vr 5) (af (vr 2) ai))))) (aL (cn (.bl ZD))) sN) (aw (dS (iR (af (cn (.int 2)) ai)) (gN 6) BB) (aw (cM (cl fQ (af (vr 1) ai)) (gN 13)) (aw (dQ (lW (tb (o2 iG (vr 13) (cl cT (af (vr 1) (af (cl dM (af (vr 1) ai)) ai))))) (dg (tb (cl cy (af (vr 1) (af (vr 13) ai)))))) (aL (cn (.bl ZD))) sN) (aw (dQ (tb (o2 iG (ee (iS (vr 5)) [ZB,ZB,ZA 13] (gT 2 (du (gN 0) (du (gN 1) jh))) (tb (o2 JN (oL eO (vr 2) (vr 0)) (oL eO (vr 2) (vr 1)))) (vr 0)) (dF ai))) (aL (cn (.bl ZD))) sN) (aL (cl gz (af (vr 1) (af (cl cC (af (vr 0) (af (cn (.int 130)) (af (o2 aX (vr 1) (cn (.int 0))) ai)))) (af (vr 5) ai))))))))))))))))
def m_law:List T->Rs T:=val 1 14 EB
variable{bn ap ac bi:ZE}{mg:W0}
section
variable (P:N1)(w:OF)(base:ZH)
abbrev mf:ZF:=top 60
abbrev uL:List Str:=["_law_script","_law_k"]
theorem tW:aE uL ["_law_script","_law_k"] (ao mf):=gc
theorem uz(F:gg K mg "_law_cell" mf ["_law_script","_law_k"])(B:Bl mg):Cl P w K mg base 1 "_law_cell" 2 f9:=
 bf F tW rfl λf c A o s H E hr x=>(ak (bF (aQ (pG (jH hr)) (ae 0) (eR ah)) (ar (az (ax dk aq (ae 1)))) aZ) (ar (az (ax aR (aM (ae 0) (ax lJ (ae 1) (dA dJ B.b_len Qj (ag (ae 0) ah)))) (ax dk aq (ax oC (ae 1) (dA dJ B.b_len Qj (ag (ae 0) ah))))))))
abbrev lb:ZF:=top 61
abbrev rG:List Str:=["_law_script","_law_k","_law_many","_law_cell_here"]
theorem aaK:aE rG ["_law_script","_law_k","_law_many"] (ao lb):=gc
theorem rz(F:gg K mg "_law_drawn" lb ["_law_script","_law_k","_law_many"])(ab0:Cl P w K mg base 1 "_law_cell" 2 f9):Cl P w K mg base 2 "_law_drawn" 3 aA:=
 bf F aaK rfl λf c A o s H E hr x=>(by(apply ak;exact(aH (ax lJ (ax aR (ax dk (ax lJ (aN ab0 hr (ag (ae 0) (ag (ae 1) ah))) aq) aq) (ax dk aq (ax aR (ae 1) aq))) aq) (aj 3 aaK.nd));apply ak;exact(aH (ax lJ (ax aR (ax dk (ae 3) (ae 3)) (ax oC (ae 3) aq)) aq) (aj 3 aaK.nd));exact ar (az (ax lJ (ax oC (ax lJ (ax aR (ax dk (ae 3) (ae 3)) (ax oC (ae 3) aq)) aq) aq) (ae 2)))))
abbrev gO:ZF:=top 64
abbrev j4:List Str:=["_law_clocks","_law_found","_law_number","_law_clock_here"]
theorem aam:aE j4 ["_law_clocks"] (ao gO):=gc
theorem pP(F:gg K mg "_law_events" gO ["_law_clocks"])(B:Bl mg):Cl P w K mg base 1 "_law_events" 1 eF:=
 bf F aam rfl λf c A o s H E hr x=>(by(apply ak;exact(aH (eR ah) (aj 1 aam.nd));apply ak;exact(bM rfl (fX B.b_enumerate (ag (ae 0) ah)) (dj rfl (aK (aj 2 aam.nd) (aK (aj 3 aam.nd) cu))) (ar (aH (ax aR (ae 1) (fK (N':=["_law_place","_law_number"]) (src:=[ZB,ZA 2]) rfl (LcScope.by (N:=j4) (names:=(ao gO).names) rfl rfl rfl (by decide+kernel)) (dC B.b_range (ag (dA dJ B.b_len Qj (ag (aM (ae 3) aq) ah)) ah)) (λ_ _ _ _ _=>⟨(aj 0 (show Oi (["_law_place","_law_number"]:List Str)by decide+kernel)),cE,(bH (ag (ae 1) (ag (ae 0) ah)))⟩))) (aj 1 aam.nd))));exact ar (az (ae 1))))
abbrev jQ:ZF:=top 63
abbrev pY:List Str:=["_law_script","_law_at","_law_clocks","_law_row","_law_place","_law_other","_law_least","_law_most"]
theorem aaf:aE pY ["_law_script","_law_at","_law_clocks"] (ao jQ):=gc
theorem pO(F:gg K mg "_law_letter" jQ ["_law_script","_law_at","_law_clocks"])(aaL:Cl P w K mg base 1 "_law_events" 1 eF)(aa0:Cl P w K mg base 2 "_law_drawn" 3 aA)(B:Bl mg):Cl P w K mg base 3 "_law_letter" 3 cC:=
 bf F aaf rfl λf c A o s H E hr x=>(by(apply ak;exact(aH (aN aaL hr (ag (ae 2) ah)) (aj 3 aaf.nd));apply ak;exact(bF (aQ nS (dA dJ B.b_len Qj (ag (ae 3) ah)) aq) (ar (az bK)) aZ);apply ak;exact(aH (aN aa0 hr (ag (ae 0) (ag (ae 1) (ag (dA dJ B.b_len Qj (ag (ae 3) ah)) ah)))) (aj 4 aaf.nd));apply ak;exact(aH (ax lJ (ax aR (ax aR (ae 4) aq) (aN aa0 hr (ag (ae 0) (ag (ax aR (ae 1) aq) (ag (ax dI (dA dJ B.b_len Qj (ag (ae 3) ah)) aq) ah))))) (dA dJ B.b_len Qj (ag (ae 3) ah))) (aj 5 aaf.nd));apply ak;exact(aH (aN aa0 hr (ag (ae 0) (ag (ax aR (ae 1) aq) (ag aq ah)))) (aj 6 aaf.nd));apply ak;exact(aH (nJ (aQ (pG (jH hr)) (aN aa0 hr (ag (ae 0) (ag (ax aR (ae 1) aq) (ag aq ah)))) aq) bK (ax aR (ae 6) (aN aa0 hr (ag (ae 0) (ag (ax aR (ae 1) aq) (ag aq ah)))))) (aj 7 aaf.nd));exact ar (az (bH (ag (aM (ae 3) (ae 4)) (ag (aM (ae 3) (ae 5)) (ag (ae 6) (ag (ae 7) ah))))))))
abbrev lg:ZF:=top 62
abbrev rH:List Str:=["_law_script","_law_at","_law_slow","_law_readings","_law_k"]
theorem aas:aE rH ["_law_script","_law_at"] (ao lg):=gc
theorem rA(F:gg K mg "_law_clock" lg ["_law_script","_law_at"])(aa0:Cl P w K mg base 2 "_law_drawn" 3 aA)(B:Bl mg):Cl P w K mg base 3 "_law_clock" 2 cW:=
 bf F aas rfl λf c A o s H E hr x=>(by(apply ak;exact(aH (ax aR aq (aN aa0 hr (ag (ae 0) (ag (ae 1) (ag aq ah))))) (aj 2 aas.nd));apply ak;exact(aH (bH (ag (aN aa0 hr (ag (ae 0) (ag (ax aR (ae 1) aq) (ag aq ah)))) ah)) (aj 3 aas.nd));apply ak;exact(bM rfl (dC B.b_range (ag (aN aa0 hr (ag (ae 0) (ag (ax aR (ae 1) aq) (ag aq ah)))) ah)) (aj 4 aas.nd) (ar (aH (ax aR (ae 3) (bH (ag (ax aR (ax aR (aM (ae 3) (tI aq)) aq) (aN aa0 hr (ag (ae 0) (ag (ax aR (ax aR (ae 1) aq) (ae 4)) (ag aq ah))))) ah))) (aj 3 aas.nd))));exact ar (az (bH (ag (ae 2) (ag (ax aR (ae 2) (aN aa0 hr (ag (ae 0) (ag (ax aR (ae 1) aq) (ag aq ah))))) (ag (ae 3) ah)))))))
abbrev gM:ZF:=top 65
abbrev j0:List Str:=["_law_script","_law_at","_law_most","_law_clocks","_law_letters","_law_k","_law_letter_here"]
theorem aag:aE j0 ["_law_script","_law_at","_law_most"] (ao gM):=gc
theorem pM(F:gg K mg "_law_record" gM ["_law_script","_law_at","_law_most"])(aa0:Cl P w K mg base 2 "_law_drawn" 3 aA)(aak:Cl P w K mg base 3 "_law_letter" 3 cC)(aaS:Cl P w K mg base 3 "_law_clock" 2 cW)(B:Bl mg):Cl P w K mg base 4 "_law_record" 3 fV:=
 bf F aag rfl λf c A o s H E hr x=>(by(apply ak;exact(aH (oP iY B.b_tuple df (ag (fK (N':=["_law_k","_law_script","_law_at"]) (src:=[ZB,ZA 0,ZA 1]) rfl (LcScope.by (N:=j0) (names:=(ao gM).names) rfl rfl rfl (by decide+kernel)) (dC B.b_range (ag (ax aR aq (aN aa0 hr (ag (ae 0) (ag (ae 1) (ag aq ah))))) ah)) (λ_ _ _ _ _=>⟨(aj 0 (show Oi (["_law_k","_law_script","_law_at"]:List Str)by decide+kernel)),cE,(aN aaS hr (ag (ae 1) (ag (ax aR (ax aR (ae 2) aq) (ax dk aq (ae 0))) ah)))⟩)) ah)) (aj 3 aag.nd));apply ak;exact(aH (eR ah) (aj 4 aag.nd));apply ak;exact(bM rfl (dC B.b_range (ag (aN aa0 hr (ag (ae 0) (ag (ax aR (ae 1) aq) (ag (ax aR (ae 2) aq) ah)))) ah)) (aj 5 aag.nd) (ak (aH (aN aak hr (ag (ae 0) (ag (ax aR (ax aR (ae 1) aq) (ax dk aq (ae 5))) (ag (ae 3) ah)))) (aj 6 aag.nd)) (ar (aH (ax aR (ae 4) (ax dk (eR (ag (ae 6) ah)) (oP J2 B.b_int n4 (ag (fh dU (ae 6) bK) ah)))) (aj 4 aag.nd)))));exact ar (az (bH (ag (ae 3) (ag (oP iY B.b_tuple df (ag (ae 4) ah)) ah))))))
abbrev o5:ZF:=top 14
abbrev yN:List Str:=["thing","least","most"]
theorem yv:aE yN ["thing","least","most"] (ao o5):=gc
theorem yF(F:gg K mg "is_long" o5 ["thing","least","most"])(B:Bl mg):Cl P w K mg base 1 "is_long" 3 aV:=
 bf F yv rfl λf c A o s H E hr x=>(ar (az (eC (BW B.b_isinstance B.b_tuple df (ae 0)) (et (vM zQ zQ (ae 1) (dA dJ B.b_len Qj (ag (ae 0) ah)) (ae 2))))))
abbrev nM:ZF:=top 12
abbrev w4:List Str:=["thing"]
theorem wc:aE w4 ["thing"] (ao nM):=gc
theorem wM(F:gg K mg "is_whole" nM ["thing"])(B:Bl mg):Cl P w K mg base 1 "is_whole" 1 jc:=
 bf F wc rfl λf c A o s H E hr x=>(ar (az (eC (BW B.b_isinstance B.b_int n4 (ae 0)) (et (x5 (BW B.b_isinstance B.b_bool vt (ae 0)))))))
abbrev l0:ZF:=top 13
abbrev uF:List Str:=["thing","least","most"]
theorem tR:aE uF ["thing","least","most"] (ao l0):=gc
theorem uo(F:gg K mg "is_within" l0 ["thing","least","most"])(aba:Cl P w K mg base 1 "is_whole" 1 jc):Cl P w K mg base 2 "is_within" 3 bp:=
 bf F tR rfl λf c A o s H E hr x=>(ar (az (eC (aN aba hr (ag (ae 0) ah)) (et (vM zQ zQ (ae 1) (ae 0) (ae 2))))))
abbrev o4:ZF:=top 17
abbrev yM:List Str:=["slow","fast"]
theorem yu:aE yM ["slow","fast"] (ao o4):=gc
theorem yE(F:gg K mg "is_pace" o4 ["slow","fast"])(aa4:Cl P w K mg base 2 "is_within" 3 bp)(C:Cs mg):Cl P w K mg base 3 "is_pace" 2 gE:=
 bf F yu rfl λf c A o s H E hr x=>(ar (az (eC (aN aa4 hr (ag (ae 0) (ag aq (ag (vL C.SLOWEST) ah)))) (et (aN aa4 hr (ag (ae 1) (ag (ae 0) (ag (vL C.SLOWEST) ah))))))))
abbrev oX:ZF:=top 15
abbrev wZ:List Str:=["numbers"]
theorem Ci:aE wZ ["numbers"] (ao oX):=gc
theorem C1(F:gg K mg "rises" oX ["numbers"])(B:Bl mg):Cl P w K mg base 1 "rises" 1 kI:=
 bf F Ci rfl λf c A o s H E hr x=>(ar (az (dA (vm rfl) B.b_all boot_all (ag (fK (N':=["k","numbers"]) (src:=[ZB,ZA 0]) rfl (LcScope.by (N:=wZ) (names:=(ao oX).names) rfl rfl rfl (by decide+kernel)) (dC B.b_range (ag (ax dI (dA dJ B.b_len Qj (ag (ae 0) ah)) aq) ah)) (λ_ _ _ _ _=>⟨(aj 0 (show Oi (["k","numbers"]:List Str)by decide+kernel)),cE,(fh nS (aM (ae 1) (ae 0)) (aM (ae 1) (ax aR (ae 0) aq)))⟩)) ah))))
abbrev gi:ZF:=top 16
abbrev jD:List Str:=["thing"]
theorem n6:aE jD ["thing"] (ao gi):=gc
theorem og(F:gg K mg "are_readings" gi ["thing"])(aa2:Cl P w K mg base 1 "is_long" 3 aV)(abi:Cl P w K mg base 1 "rises" 1 kI)(aa4:Cl P w K mg base 2 "is_within" 3 bp)(B:Bl mg)(C:Cs mg):Cl P w K mg base 3 "are_readings" 1 cj:=
 bf F n6 rfl λf c A o s H E hr x=>(ak (bF (di (cb (aN aa2 hr (ag (ae 0) (ag aq (ag (vL C.MOST_READINGS) ah)))))) (ar (az fo)) aZ) (ar (az (eC (dA (vm rfl) B.b_all boot_all (ag (fK (N':=["part"]) (src:=[ZB]) rfl (LcScope.by (N:=jD) (names:=(ao gi).names) rfl rfl rfl (by decide+kernel)) (bz (ae 0)) (λ_ _ _ _ _=>⟨(aj 0 (show Oi (["part"]:List Str)by decide+kernel)),cE,(aN aa4 hr (ag (ae 0) (ag aq (ag (vL C.LAST_READING) ah))))⟩)) ah)) (et (aN abi hr (ag (ae 0) ah)))))))
abbrev nQ:ZF:=top 18
abbrev w9:List Str:=["thing"]
theorem wj:aE w9 ["thing"] (ao nQ):=gc
theorem wQ(F:gg K mg "is_clock" nQ ["thing"])(aa2:Cl P w K mg base 1 "is_long" 3 aV)(abf:Cl P w K mg base 3 "is_pace" 2 gE)(aaG:Cl P w K mg base 3 "are_readings" 1 cj):Cl P w K mg base 4 "is_clock" 1 dX:=
 bf F wj rfl λf c A o s H E hr x=>(ar (az (eC (aN aa2 hr (ag (ae 0) (ag aq (ag aq ah)))) (eC (aN abf hr (ag (aM (ae 0) aq) (ag (aM (ae 0) aq) ah))) (et (aN aaG hr (ag (aM (ae 0) aq) ah)))))))
abbrev ir:ZF:=top 19
abbrev lx:List Str:=["thing"]
theorem qX:aE lx ["thing"] (ao ir):=gc
theorem ro(F:gg K mg "are_clocks" ir ["thing"])(aa2:Cl P w K mg base 1 "is_long" 3 aV)(abb:Cl P w K mg base 4 "is_clock" 1 dX)(B:Bl mg)(C:Cs mg):Cl P w K mg base 5 "are_clocks" 1 d9:=
 bf F qX rfl λf c A o s H E hr x=>(ar (az (eC (aN aa2 hr (ag (ae 0) (ag aq (ag (vL C.MOST_CLOCKS) ah)))) (et (dA (vm rfl) B.b_all boot_all (ag (fK (N':=["part"]) (src:=[ZB]) rfl (LcScope.by (N:=lx) (names:=(ao ir).names) rfl rfl rfl (by decide+kernel)) (bz (ae 0)) (λ_ _ _ _ _=>⟨(aj 0 (show Oi (["part"]:List Str)by decide+kernel)),cE,(aN abb hr (ag (ae 0) ah))⟩)) ah))))))
abbrev nN:ZF:=top 20
abbrev w6:List Str:=["clocks","thing"]
theorem we:aE w6 ["clocks","thing"] (ao nN):=gc
theorem wN(F:gg K mg "is_event" nN ["clocks","thing"])(aa4:Cl P w K mg base 2 "is_within" 3 bp)(aa2:Cl P w K mg base 1 "is_long" 3 aV)(B:Bl mg):Cl P w K mg base 3 "is_event" 2 da:=
 bf F we rfl λf c A o s H E hr x=>(ak (bF (gG (i0 (di (cb (aN aa2 hr (ag (ae 1) (ag aq (ag aq ah)))))) (gv (di (cb (aN aa4 hr (ag (aM (ae 1) aq) (ag aq (ag (ax dI (dA dJ B.b_len Qj (ag (ae 0) ah)) aq) ah))))))))) (ar (az fo)) aZ) (ar (az (aN aa4 hr (ag (aM (ae 1) aq) (ag aq (ag (ax dI (dA dJ B.b_len Qj (ag (aM (aM (ae 0) (aM (ae 1) aq)) aq) ah)) aq) ah)))))))
abbrev nP:ZF:=top 21
abbrev w8:List Str:=["least","most"]
theorem wg:aE w8 ["least","most"] (ao nP):=gc
theorem wO(F:gg K mg "is_delay" nP ["least","most"])(aa4:Cl P w K mg base 2 "is_within" 3 bp)(C:Cs mg):Cl P w K mg base 3 "is_delay" 2 eU:=
 bf F wg rfl λf c A o s H E hr x=>(ar (az (eC (aN aa4 hr (ag (ae 0) (ag aq (ag (vL C.LONGEST) ah)))) (et (BV (fh jX (ae 1) bK) (et (aN aa4 hr (ag (ae 1) (ag (ae 0) (ag (vL C.LONGEST) ah))))))))))
abbrev l7:ZF:=top 22
abbrev uH:List Str:=["clocks","thing"]
theorem tT:aE uH ["clocks","thing"] (ao l7):=gc
theorem ur(F:gg K mg "is_letter" l7 ["clocks","thing"])(aaq:Cl P w K mg base 3 "is_event" 2 da)(aa2:Cl P w K mg base 1 "is_long" 3 aV)(abc:Cl P w K mg base 3 "is_delay" 2 eU):Cl P w K mg base 4 "is_letter" 2 cA:=
 bf F tT rfl λf c A o s H E hr x=>(ak (bF (gG (i0 (di (cb (aN aa2 hr (ag (ae 1) (ag aq (ag aq ah)))))) (gv (di (cb (aN abc hr (ag (aM (ae 1) aq) (ag (aM (ae 1) aq) ah)))))))) (ar (az fo)) aZ) (ar (az (eC (aN aaq hr (ag (ae 0) (ag (aM (ae 1) aq) ah))) (eC (aN aaq hr (ag (ae 0) (ag (aM (ae 1) aq) ah))) (et (fh (jW (jH hr)) (aM (ae 1) aq) (aM (ae 1) aq))))))))
abbrev gL:ZF:=top 23
abbrev jZ:List Str:=["clocks","thing"]
theorem pf:aE jZ ["clocks","thing"] (ao gL):=gc
theorem pL(F:gg K mg "are_letters" gL ["clocks","thing"])(aa2:Cl P w K mg base 1 "is_long" 3 aV)(ab5:Cl P w K mg base 4 "is_letter" 2 cA)(B:Bl mg)(C:Cs mg):Cl P w K mg base 5 "are_letters" 2 dH:=
 bf F pf rfl λf c A o s H E hr x=>(ar (az (eC (aN aa2 hr (ag (ae 1) (ag aq (ag (vL C.MOST_LETTERS) ah)))) (et (dA (vm rfl) B.b_all boot_all (ag (fK (N':=["part","clocks"]) (src:=[ZB,ZA 0]) rfl (LcScope.by (N:=jZ) (names:=(ao gL).names) rfl rfl rfl (by decide+kernel)) (bz (ae 1)) (λ_ _ _ _ _=>⟨(aj 0 (show Oi (["part","clocks"]:List Str)by decide+kernel)),cE,(aN ab5 hr (ag (ae 1) (ag (ae 0) ah)))⟩)) ah))))))
abbrev l5:ZF:=top 24
abbrev uG:List Str:=["thing"]
theorem tS:aE uG ["thing"] (ao l5):=gc
theorem uq(F:gg K mg "is_record" l5 ["thing"])(aa2:Cl P w K mg base 1 "is_long" 3 aV)(aaT:Cl P w K mg base 5 "are_clocks" 1 d9)(aaM:Cl P w K mg base 5 "are_letters" 2 dH):Cl P w K mg base 6 "is_record" 1 dW:=
 bf F tS rfl λf c A o s H E hr x=>(ar (az (eC (aN aa2 hr (ag (ae 0) (ag aq (ag aq ah)))) (eC (aN aaT hr (ag (aM (ae 0) aq) ah)) (et (aN aaM hr (ag (aM (ae 0) aq) (ag (aM (ae 0) aq) ah))))))))
abbrev jM:ZF:=top 25
abbrev pV:List Str:=["thing"]
theorem o9:aE pV ["thing"] (ao jM):=gc
theorem pI(F:gg K mg "need_record" jM ["thing"])(ab6:Cl P w K mg base 6 "is_record" 1 dW)(S:Xs K mg ac ap bi bn):Cl P w K mg base 7 "need_record" 1 aY:=
 bf F o9 rfl λf c A o s H E hr x=>(ar (bF (di (cb (aN ab6 hr (ag (ae 0) ah)))) (ar (mS S.o_NoRecord S.m_NoRecord)) aZ))
abbrev mV:ZF:=top 27
abbrev sf:List Str:=["record","told","number","clock"]
theorem aaX:aE sf ["record"] (ao mV):=gc
theorem A4(F:gg K mg "events" mV ["record"])(aa1:Cl P w K mg base 7 "need_record" 1 aY)(B:Bl mg):Cl P w K mg base 8 "events" 1 cw:=
 bf F aaX rfl λf c A o s H E hr x=>(by(apply ak;exact(dG (aN aa1 hr (ag (ae 0) ah)));apply ak;exact(gH 1 aaX.nd ah);apply ak;exact(bM rfl (fX B.b_enumerate (ag (aM (ae 0) aq) ah)) (dj rfl (aK (aj 2 aaX.nd) (aK (aj 3 aaX.nd) cu))) (ar (tG 1 (fK (N':=["k","number"]) (src:=[ZB,ZA 2]) rfl (LcScope.by (N:=sf) (names:=(ao mV).names) rfl rfl rfl (by decide+kernel)) (dC B.b_range (ag (dA dJ B.b_len Qj (ag (aM (ae 3) aq) ah)) ah)) (λ_ _ _ _ _=>⟨(aj 0 (show Oi (["k","number"]:List Str)by decide+kernel)),cE,(bH (ag (ae 1) (ag (ae 0) ah)))⟩)))));exact ar (hV 1 (az (ae 1)))))
abbrev jR:ZF:=top 66
abbrev pZ:List Str:=["_law_record_here","_law_found","_law_number","_law_slow","_law_fast","_law_readings","_law_k","_law_steps","_law_one","_law_other","_law_least","_law_most"]
theorem aa3:aE pZ ["_law_record_here"] (ao jR):=gc
theorem pQ(F:gg K mg "_law_bounds" jR ["_law_record_here"])(B:Bl mg):Cl P w K mg base 1 "_law_bounds" 1 eG:=
 bf F aa3 rfl λf c A o s H E hr x=>(by(apply ak;exact(gH 1 aa3.nd ah);apply ak;exact(bM rfl (fX B.b_enumerate (ag (aM (ae 0) aq) ah)) (dj rfl (aK (aj 2 aa3.nd) (aK (dj rfl (aK (aj 3 aa3.nd) (aK (aj 4 aa3.nd) (aK (aj 5 aa3.nd) cu)))) cu))) (ar (bM rfl (oO B.b_range (ag aq (ag (dA dJ B.b_len Qj (ag (ae 5) ah)) ah))) (aj 6 aa3.nd) (by(apply ak;exact(aH (ax dI (aM (ae 5) (ae 6)) (aM (ae 5) (ax dI (ae 6) aq))) (aj 7 aa3.nd));apply ak;exact(gx 1 (bH (ag (bH (ag (ae 2) (ag (ax dI (ae 6) aq) ah))) (ag (bH (ag (ae 2) (ag (ae 6) ah))) (ag (ax dk (ae 4) (ae 7)) ah)))));exact ar (gx 1 (bH (ag (bH (ag (ae 2) (ag (ae 6) ah))) (ag (bH (ag (ae 2) (ag (ax dI (ae 6) aq) ah))) (ag (ax dI aq (ax dk (ae 3) (ae 7))) ah))))))))));apply ak;exact(bM rfl (bz (aM (ae 0) aq)) (dj rfl (aK (aj 8 aa3.nd) (aK (aj 9 aa3.nd) (aK (aj 10 aa3.nd) (aK (aj 11 aa3.nd) cu))))) (ak (gx 1 (bH (ag (ae 9) (ag (ae 8) (ag (ax dI aq (ae 10)) ah))))) (ar (bF (aQ dU (ae 11) bK) (ar (gx 1 (bH (ag (ae 8) (ag (ae 9) (ag (ae 11) ah)))))) aZ))));exact ar (hV 1 (az (ae 1)))))
abbrev fT:ZF:=top 67
abbrev iw:List Str:=["_law_places","_law_row","_law_far","_law_one","_law_other","_law_most","_law_middle","_law_whole"]
theorem aa8:aE iw ["_law_places","_law_row"] (ao fT):=gc
theorem rp(F:gg K mg "_law_table" fT ["_law_places","_law_row"])(B:Bl mg):Cl P w K mg base 1 "_law_table" 2 fz:=
 bf F aa8 rfl λf c A o s H E hr x=>(by(apply ak;exact(AL 2 0 (N':=["_law_one","_law_places"]) (src:=[ZB]) (Mc hr) rfl B.b_dict aa8.nd (LcScope.by (N:=iw) (names:=(ao fT).names) rfl rfl rfl (by decide+kernel)) (bz (ae 0)) (by decide) (λ_ _ _ _ _=>⟨(aj 0 (show Oi (["_law_one","_law_places"]:List Str)by decide+kernel)),pv 0,IU (Mc hr) rfl B.b_dict rfl (LcScope.byN (N:=["_law_one","_law_places"]) (N':=["_law_other"]) rfl rfl (by decide+kernel) rfl) (bz (ae 1)).h (λ_ _ _ _ _=>⟨(aj 0 (show Oi (["_law_other"]:List Str)by decide+kernel)).h,pv 0,rfl⟩) (λ_=>rfl)⟩));apply ak;exact(bM rfl (bz (ae 0)) (aj 3 aa8.nd) (ar (oN 2 (hU hr) (ae 3) (ae 3) aq)));apply ak;exact(bM rfl (bz (ae 1)) (dj rfl (aK (aj 3 aa8.nd) (aK (aj 4 aa8.nd) (aK (aj 5 aa8.nd) cu)))) (ar (bF (gG (i0 (aQ jX (jI 2 (bq (hU hr) (bq (hU hr) (ae 2) (ae 3)) (ae 4))) bK) (gv (aQ nS (ae 5) (jI 2 (bq (hU hr) (bq (hU hr) (ae 2) (ae 3)) (ae 4))))))) (ar (oN 2 (hU hr) (ae 3) (ae 4) (ae 5))) aZ)));apply ak;exact(bM rfl (bz (ae 0)) (aj 6 aa8.nd) (ar (bM rfl (bz (ae 0)) (aj 3 aa8.nd) (ar (bM rfl (bz (ae 0)) (aj 4 aa8.nd) (ar (bF (gG (kx (aQ dU (jI 2 (bq (hU hr) (bq (hU hr) (ae 2) (ae 3)) (ae 6))) bK) (iH (aQ dU (jI 2 (bq (hU hr) (bq (hU hr) (ae 2) (ae 6)) (ae 4))) bK)))) (ak (aH (ax aR (jI 2 (bq (hU hr) (bq (hU hr) (ae 2) (ae 3)) (ae 6))) (jI 2 (bq (hU hr) (bq (hU hr) (ae 2) (ae 6)) (ae 4)))) (aj 7 aa8.nd)) (ar (bF (gG (i0 (aQ jX (jI 2 (bq (hU hr) (bq (hU hr) (ae 2) (ae 3)) (ae 4))) bK) (gv (aQ nS (ae 7) (jI 2 (bq (hU hr) (bq (hU hr) (ae 2) (ae 3)) (ae 4))))))) (ar (oN 2 (hU hr) (ae 3) (ae 4) (ae 7))) aZ))) aZ)))))));exact ar (hV 2 (az (nJ (aQ (pG (jH hr)) (fK (N':=["_law_one","_law_far"]) (src:=[ZB,ZA 2]) rfl (LcScope.by (N:=iw) (names:=(ao fT).names) rfl rfl rfl (by decide+kernel)) (bz (ae 0)) (λ_ _ _ _ _=>⟨(aj 0 (show Oi (["_law_one","_law_far"]:List Str)by decide+kernel)),(gI (aQ nS (bq (hU hr) (bq (hU hr) (ae 1) (ae 0)) (ae 0)) aq)),(ae 0)⟩)) (eR ah)) (ae 2) bK)))))
abbrev l8:ZF:=top 34
abbrev uI:List Str:=["best","bound","ahead","known"]
theorem abg:aE uI ["best","bound","ahead"] (ao l8):=gc
theorem uu(F:gg K mg "is_better" l8 ["best","bound","ahead"]):Cl P w K mg base 1 "is_better" 3 dY:=
 bf F abg rfl λf c A o s H E hr x=>(ak (aH (zu (hU hr) (ae 0) (aM (ae 1) aq)) (aj 3 abg.nd)) (ar (az (BV (fh jX (ae 3) bK) (et (fh nS (ax aR (aM (ae 2) aq) (aM (ae 1) aq)) (aM (ae 3) aq)))))))
abbrev kA:ZF:=top 33
abbrev m8:List Str:=["limits","starts","best","moved","number","bound","ahead","walk","passed"]
theorem aae:aE m8 ["limits","starts"] (ao kA):=gc
theorem A3(F:gg K mg "settle" kA ["limits","starts"])(ab7:Cl P w K mg base 1 "is_better" 3 dY)(B:Bl mg):Cl P w K mg base 2 "settle" 2 f7:=
 bf F aae rfl λf c A o s H E hr x=>(by(apply ak;exact(BP 2 (Mc hr) rfl B.b_dict aae.nd (fK (N':=["event"]) (src:=[ZB]) rfl (LcScope.by (N:=m8) (names:=(ao kA).names) rfl rfl rfl (by decide+kernel)) (bz (ae 1)) (λ_ _ _ _ _=>⟨(aj 0 (show Oi (["event"]:List Str)by decide+kernel)),cE,(bH (ag (ae 0) (ag (bH (ag aq (ag (eR ah) ah))) ah)))⟩)));apply ak;exact(aH fo (aj 3 aae.nd));apply ak;exact(AK FU (cb (ae 3)) (ak (aH fo (aj 3 aae.nd)) (ar (bM rfl (fX B.b_enumerate (ag (ae 0) ah)) (dj rfl (aK (aj 4 aae.nd) (aK (aj 5 aae.nd) cu))) (by(apply ak;exact(aH (jI 2 (zu (hU hr) (ae 2) (aM (ae 5) aq))) (aj 6 aae.nd));apply ak;exact(bF (gG (i0 (aQ jX (ae 6) bK) (gv (di (HF 2 (cb (aN ab7 hr (ag (ae 2) (ag (ae 5) (ag (ae 6) ah)))))))))) (ar HG) aZ);apply ak;exact(aH (ax aR (aM (ae 6) aq) (eR (ag (ae 4) ah))) (aj 7 aae.nd));apply ak;exact(BQ 8 (N':=["step","limits"]) (src:=[ZB,ZA 0]) rfl (LcScope.by (N:=m8) (names:=(ao kA).names) rfl rfl rfl (by decide+kernel)) (bz (ae 7)) (λ_ _ _ _ _=>⟨(aj 0 (show Oi (["step","limits"]:List Str)by decide+kernel)),cE,(aM (aM (ae 1) (ae 0)) aq)⟩) aae.nd);apply ak;exact(bF (aQ (K9 (yY hr)) (aM (ae 5) aq) (ae 8)) (ar (az (bH (ag bK (ag (BU (ae 7) (BR (mT (yY hr) (ae 8) (aM (ae 5) aq))) BS) ah))))) aZ);apply ak;exact(zp 2 (hU hr) (aM (ae 5) aq) (bH (ag (ax aR (aM (ae 6) aq) (aM (ae 5) aq)) (ag (ae 7) ah))));exact ar (aH fo (aj 3 aae.nd))))))));exact ar (hV 2 (az (bH (ag (ae 2) (ag bK ah)))))))
abbrev ft:ZF:=top 36
abbrev hW:List Str:=["record","limits","places","best"]
theorem aax:aE hW ["record","limits"] (ao ft):=gc
theorem mm(F:gg K mg "greatest_world" ft ["record","limits"])(aa6:Cl P w K mg base 8 "events" 1 cw)(aaH:Cl P w K mg base 2 "settle" 2 f7)(B:Bl mg):Cl P w K mg base 9 "greatest_world" 2 bB:=
 bf F aax rfl λf c A o s H E hr x=>(by(apply ak;exact(aH (aN aa6 hr (ag (ae 0) ah)) (aj 2 aax.nd));apply ak;exact(aH (aM (aN aaH hr (ag (ae 1) (ag (ae 2) ah))) aq) (aj 3 aax.nd));apply ak;exact(bF (aQ jX (ae 3) bK) (ar (az bK)) aZ);exact ar (az (oP iY B.b_tuple df (ag (fK (N':=["event","best"]) (src:=[ZB,ZA 3]) rfl (LcScope.by (N:=hW) (names:=(ao ft).names) rfl rfl rfl (by decide+kernel)) (bz (ae 2)) (λ_ _ _ _ _=>⟨(aj 0 (show Oi (["event","best"]:List Str)by decide+kernel)),cE,(aM (bq (hU hr) (ae 1) (ae 0)) aq)⟩)) ah)))))
abbrev gK:ZF:=top 29
abbrev lN:List Str:=["number","clock","readings","told","k","first","second","steps"]
theorem aa7:aE lN ["number","clock"] (ao gK):=gc
theorem lK(F:gg K mg "bounds_of_clock" gK ["number","clock"])(B:Bl mg):Cl P w K mg base 1 "bounds_of_clock" 2 cV:=
 bf F aa7 rfl λf c A o s H E hr x=>(by(apply ak;exact(aH (aM (ae 1) aq) (aj 2 aa7.nd));apply ak;exact(gH 3 aa7.nd ah);apply ak;exact(bM rfl (dC B.b_range (ag (ax dI (dA dJ B.b_len Qj (ag (ae 2) ah)) aq) ah)) (aj 4 aa7.nd) (by(apply ak;exact(aH (bH (ag (ae 0) (ag (ae 4) ah))) (aj 5 aa7.nd));apply ak;exact(aH (bH (ag (ae 0) (ag (ax aR (ae 4) aq) ah))) (aj 6 aa7.nd));apply ak;exact(aH (ax dI (aM (ae 2) (ax aR (ae 4) aq)) (aM (ae 2) (ae 4))) (aj 7 aa7.nd));apply ak;exact(gx 3 (bH (ag (ae 5) (ag (ae 6) (ag (ax dk (ae 7) (aM (ae 1) aq)) ah)))));exact ar (gx 3 (bH (ag (ae 6) (ag (ae 5) (ag (ax dk (tI (ae 7)) (aM (ae 1) aq)) ah))))))));exact ar (hV 3 (az (ae 3)))))
abbrev gu:ZF:=top 30
abbrev kW:List Str:=["letter","told"]
theorem aaF:aE kW ["letter"] (ao gu):=gc
theorem kS(F:gg K mg "bounds_of_letter" gu ["letter"]):Cl P w K mg base 1 "bounds_of_letter" 1 cJ:=
 bf F aaF rfl λf c A o s H E hr x=>(by(apply ak;exact(gH 1 aaF.nd (ag (bH (ag (aM (ae 0) aq) (ag (aM (ae 0) aq) (ag (tI (aM (ae 0) aq)) ah)))) ah));apply ak;exact(bF (aQ dU (aM (ae 0) aq) bK) (ar (gx 1 (bH (ag (aM (ae 0) aq) (ag (aM (ae 0) aq) (ag (aM (ae 0) aq) ah)))))) aZ);exact ar (hV 1 (az (ae 1)))))
abbrev rV:ZF:=top 31
abbrev A7:List Str:=["record","told","number","clock","letter"]
theorem aaJ:aE A7 ["record"] (ao rV):=gc
theorem A5(F:gg K mg "bounds" rV ["record"])(aa1:Cl P w K mg base 7 "need_record" 1 aY)(aay:Cl P w K mg base 1 "bounds_of_clock" 2 cV)(aau:Cl P w K mg base 1 "bounds_of_letter" 1 cJ)(B:Bl mg):Cl P w K mg base 8 "bounds" 1 fy:=
 bf F aaJ rfl λf c A o s H E hr x=>(by(apply ak;exact(dG (aN aa1 hr (ag (ae 0) ah)));apply ak;exact(gH 1 aaJ.nd ah);apply ak;exact(bM rfl (fX B.b_enumerate (ag (aM (ae 0) aq) ah)) (dj rfl (aK (aj 2 aaJ.nd) (aK (aj 3 aaJ.nd) cu))) (ar (tG 1 (aN aay hr (ag (ae 2) (ag (ae 3) ah))))));apply ak;exact(bM rfl (bz (aM (ae 0) aq)) (aj 4 aaJ.nd) (ar (tG 1 (aN aau hr (ag (ae 4) ah)))));exact ar (hV 1 (az (ae 1)))))
abbrev v5:ZF:=top 37
abbrev C5:List Str:=["record"]
theorem Cg:aE C5 ["record"] (ao v5):=gc
theorem CZ(F:gg K mg "world" v5 ["record"])(aab:Cl P w K mg base 9 "greatest_world" 2 bB)(aar:Cl P w K mg base 8 "bounds" 1 fy):Cl P w K mg base 10 "world" 1 dM:=
 bf F Cg rfl λf c A o s H E hr x=>(ar (az (aN aab hr (ag (ae 0) (ag (aN aar hr (ag (ae 0) ah)) ah)))))
abbrev md:ZF:=top 38
abbrev uK:List Str:=["record"]
theorem tV:aE uK ["record"] (ao md):=gc
theorem uw(F:gg K mg "has_world" md ["record"])(aaw:Cl P w K mg base 10 "world" 1 dM):Cl P w K mg base 11 "has_world" 1 dB:=
 bf F tV rfl λf c A o s H E hr x=>(ar (az (fh dU (aN aaw hr (ag (ae 0) ah)) bK)))
abbrev k8:ZF:=top 39
abbrev rE:List Str:=["record"]
theorem qV:aE rE ["record"] (ao k8):=gc
theorem ri(F:gg K mg "need_world" k8 ["record"])(aac:Cl P w K mg base 11 "has_world" 1 dB)(S:Xs K mg ac ap bi bn):Cl P w K mg base 12 "need_world" 1 d8:=
 bf F qV rfl λf c A o s H E hr x=>(ar (bF (di (cb (aN aac hr (ag (ae 0) ah)))) (ar (mS S.o_NoWorld S.m_NoWorld)) aZ))
abbrev k6:ZF:=top 42
abbrev rB:List Str:=["record","one"]
theorem qT:aE rB ["record","one"] (ao k6):=gc
theorem rf(F:gg K mg "walks_from" k6 ["record","one"])(aaH:Cl P w K mg base 2 "settle" 2 f7)(aar:Cl P w K mg base 8 "bounds" 1 fy):Cl P w K mg base 9 "walks_from" 2 dD:=
 bf F qT rfl λf c A o s H E hr x=>(ar (az (aM (aN aaH hr (ag (aN aar hr (ag (ae 0) ah)) (ag (eR (ag (ae 1) ah)) ah))) aq)))
abbrev oY:ZF:=top 43
abbrev yL:List Str:=["walks","other"]
theorem yn:aE yL ["walks","other"] (ao oY):=gc
theorem yD(F:gg K mg "most_of" oY ["walks","other"]):Cl P w K mg base 1 "most_of" 2 eZ:=
 bf F yn rfl λf c A o s H E hr x=>(ar (az (nJ (aQ (Jb (hU hr)) (ae 1) (ae 0)) (aM (bq (hU hr) (ae 0) (ae 1)) aq) bK)))
abbrev jP:ZF:=top 46
abbrev nT:List Str:=["record","places","told","one","walks"]
theorem aaz:aE nT ["record"] (ao jP):=gc
theorem wU(F:gg K mg "all_most" jP ["record"])(aan:Cl P w K mg base 12 "need_world" 1 d8)(aa6:Cl P w K mg base 8 "events" 1 cw)(aao:Cl P w K mg base 9 "walks_from" 2 dD)(aaB:Cl P w K mg base 1 "most_of" 2 eZ)(B:Bl mg):Cl P w K mg base 13 "all_most" 1 jd:=
 bf F aaz rfl λf c A o s H E hr x=>(by(apply ak;exact(dG (aN aan hr (ag (ae 0) ah)));apply ak;exact(aH (aN aa6 hr (ag (ae 0) ah)) (aj 1 aaz.nd));apply ak;exact(gH 2 aaz.nd ah);apply ak;exact(bM rfl (bz (ae 1)) (aj 3 aaz.nd) (ak (aH (aN aao hr (ag (ae 0) (ag (ae 3) ah))) (aj 4 aaz.nd)) (ar (gx 2 (oP iY B.b_tuple df (ag (fK (N':=["other","walks"]) (src:=[ZB,ZA 4]) rfl (LcScope.by (N:=nT) (names:=(ao jP).names) rfl rfl rfl (by decide+kernel)) (bz (ae 1)) (λ_ _ _ _ _=>⟨(aj 0 (show Oi (["other","walks"]:List Str)by decide+kernel)),cE,(aN aaB hr (ag (ae 1) (ag (ae 0) ah)))⟩)) ah))))));exact ar (az (jI 2 (oP iY B.b_tuple df (ag (ae 2) ah))))))
abbrev k7:ZF:=top 52
abbrev rC:List Str:=["record","most","places","told","k","one","j","other"]
theorem aaa:aE rC ["record"] (ao k7):=gc
theorem rh(F:gg K mg "sure_pairs" k7 ["record"])(abd:Cl P w K mg base 13 "all_most" 1 jd)(aa6:Cl P w K mg base 8 "events" 1 cw)(B:Bl mg):Cl P w K mg base 14 "sure_pairs" 1 d7:=
 bf F aaa rfl λf c A o s H E hr x=>(by(apply ak;exact(aH (aN abd hr (ag (ae 0) ah)) (aj 1 aaa.nd));apply ak;exact(aH (aN aa6 hr (ag (ae 0) ah)) (aj 2 aaa.nd));apply ak;exact(gH 3 aaa.nd ah);apply ak;exact(bM rfl (fX B.b_enumerate (ag (ae 2) ah)) (dj rfl (aK (aj 4 aaa.nd) (aK (aj 5 aaa.nd) cu))) (ar (bM rfl (fX B.b_enumerate (ag (ae 2) ah)) (dj rfl (aK (aj 6 aaa.nd) (aK (aj 7 aaa.nd) cu))) (ar (bF (gG (kx (aQ dU (aM (aM (ae 1) (ae 6)) (ae 4)) bK) (iH (aQ nS (aM (aM (ae 1) (ae 6)) (ae 4)) aq)))) (ar (gx 3 (bH (ag (ae 5) (ag (ae 7) ah))))) aZ)))));exact ar (hV 3 (az (ae 3)))))
abbrev ik:ZF:=top 53
abbrev lq:List Str:=["record","times"]
theorem qU:aE lq ["record","times"] (ao ik):=gc
theorem rg(F:gg K mg "told_order" ik ["record","times"])(aa6:Cl P w K mg base 8 "events" 1 cw)(B:Bl mg):Cl P w K mg base 9 "told_order" 2 cT:=
 bf F qU rfl λf c A o s H E hr x=>(ar (az (fK (N':=["pair"]) (src:=[ZB]) rfl (LcScope.by (N:=lq) (names:=(ao ik).names) rfl rfl rfl (by decide+kernel)) (bz (zr (LC hr) rfl B.b_sorted B.b_zip (ag (ae 1) (ag (aN aa6 hr (ag (ae 0) ah)) ah)))) (λ_ _ _ _ _=>⟨(aj 0 (show Oi (["pair"]:List Str)by decide+kernel)),cE,(aM (ae 0) aq)⟩))))
abbrev nR:ZF:=top 54
abbrev xc:List Str:=["record","times"]
theorem abh:aE xc ["record"] (ao nR):=gc
theorem wR(F:gg K mg "an_order" nR ["record"])(aaw:Cl P w K mg base 10 "world" 1 dM)(aai:Cl P w K mg base 9 "told_order" 2 cT):Cl P w K mg base 11 "an_order" 1 fQ:=
 bf F abh rfl λf c A o s H E hr x=>(ak (aH (aN aaw hr (ag (ae 0) ah)) (aj 1 abh.nd)) (ar (az (nJ (aQ jX (ae 1) bK) bK (aN aai hr (ag (ae 0) (ag (ae 1) ah)))))))
abbrev l9:ZF:=top 57
abbrev uJ:List Str:=["thing"]
theorem tU:aE uJ ["thing"] (ao l9):=gc
theorem uv(F:gg K mg "if_record" l9 ["thing"])(aa1:Cl P w K mg base 7 "need_record" 1 aY):Cl P w K mg base 8 "if_record" 1 e9:=
 bf F tU rfl λf c A o s H E hr x=>(ak (dG (aN aa1 hr (ag (ae 0) ah))) (ar (az (ae 0))))
abbrev jL:ZF:=top 58
abbrev pU:List Str:=["record","letter"]
theorem o8:aE pU ["record","letter"] (ao jL):=gc
theorem pH(F:gg K mg "with_letter" jL ["record","letter"])(aa1:Cl P w K mg base 7 "need_record" 1 aY)(ab8:Cl P w K mg base 8 "if_record" 1 e9):Cl P w K mg base 9 "with_letter" 2 cZ:=
 bf F o8 rfl λf c A o s H E hr x=>(ak (dG (aN aa1 hr (ag (ae 0) ah))) (ar (az (aN ab8 hr (ag (bH (ag (aM (ae 0) aq) (ag (ax aR (aM (ae 0) aq) (bH (ag (ae 1) ah))) ah))) ah)))))
abbrev iu:ZF:=top 71
abbrev ly:List Str:=["_law_record_here","_law_letter_here","_law_pairs","_law_more"]
theorem abe:aE ly ["_law_record_here","_law_letter_here","_law_pairs"] (ao iu):=gc
theorem rq(F:gg K mg "_law_keeps" iu ["_law_record_here","_law_letter_here","_law_pairs"])(aap:Cl P w K mg base 14 "sure_pairs" 1 d7)(aaA:Cl P w K mg base 9 "with_letter" 2 cZ)(aac:Cl P w K mg base 11 "has_world" 1 dB):Cl P w K mg base 15 "_law_keeps" 3 gz:=
 bf F abe rfl λf c A o s H E hr x=>(by(apply ak;exact(bF (gG (i0 (aQ jX (ae 1) bK) (gv (di (cb (aN aac hr (ag (aN aaA hr (ag (ae 0) (ag (ae 1) ah))) ah))))))) (ar (az fo)) aZ);apply ak;exact(aH (aN aap hr (ag (aN aaA hr (ag (ae 0) (ag (ae 1) ah))) ah)) (aj 3 abe.nd));exact ar (az (fh (pG (jH hr)) (fK (N':=["_law_pair","_law_more"]) (src:=[ZB,ZA 3]) rfl (LcScope.by (N:=ly) (names:=(ao iu).names) rfl rfl rfl (by decide+kernel)) (bz (ae 2)) (λ_ _ _ _ _=>⟨(aj 0 (show Oi (["_law_pair","_law_more"]:List Str)by decide+kernel)),(gI (aQ (pF (yY hr)) (ae 0) (ae 1))),(ae 0)⟩)) (eR ah)))))
abbrev gj:ZF:=top 70
abbrev jE:List Str:=["_law_pairs","_law_places","_law_one","_law_other","_law_at"]
theorem aat:aE jE ["_law_pairs","_law_places"] (ao gj):=gc
theorem oh(F:gg K mg "_law_lead_on" gj ["_law_pairs","_law_places"])(B:Bl mg):Cl P w K mg base 1 "_law_lead_on" 2 fA:=
 bf F aat rfl λf c A o s H E hr x=>(by(apply ak;exact(bM rfl (bz (ae 0)) (dj rfl (aK (aj 2 aat.nd) (aK (aj 3 aat.nd) cu))) (ar (bF (aQ (jW (jH hr)) (fK (N':=["_law_first","_law_third","_law_other","_law_one","_law_pairs"]) (src:=[ZB,ZB,ZA 3,ZA 2,ZA 0]) rfl (LcScope.by (N:=jE) (names:=(ao gj).names) rfl rfl rfl (by decide+kernel)) (bz (ae 0)) (λ_ _ _ _ _=>⟨(dj rfl (aK (aj 0 (show Oi (["_law_first","_law_third","_law_other","_law_one","_law_pairs"]:List Str)by decide+kernel)) (aK (aj 1 (show Oi (["_law_first","_law_third","_law_other","_law_one","_law_pairs"]:List Str)by decide+kernel)) cu))),(gI (gG (kx (aQ (pG (jH hr)) (ae 0) (ae 2)) (iH (aQ (pF (yY hr)) (bH (ag (ae 3) (ag (ae 1) ah))) (ae 4)))))),(ae 1)⟩)) (eR ah)) (ar (az fo)) aZ)));apply ak;exact(bM rfl (oO B.b_range (ag aq (ag (dA dJ B.b_len Qj (ag (ae 1) ah)) ah))) (aj 4 aat.nd) (ar (bF (gG (kx (aQ (pG (jH hr)) (aM (aM (ae 1) (ae 4)) aq) (aM (aM (ae 1) (ax dI (ae 4) aq)) aq)) (iH (aQ (pF (yY hr)) (bH (ag (aM (ae 1) (ax dI (ae 4) aq)) (ag (aM (ae 1) (ae 4)) ah))) (ae 0))))) (ar (az fo)) aZ)));exact ar (az fo)))
abbrev cv:ZF:=top 69
abbrev dm:List Str:=["_law_script","_law_at","_law_places","_law_row","_law_table_here","_law_times","_law_k","_law_event","_law_highs","_law_lows","_law_low","_law_high"]
theorem aa5:aE dm ["_law_script","_law_at","_law_places","_law_row","_law_table_here"] (ao cv):=gc
theorem kU(F:gg K mg "_law_drawn_world" cv ["_law_script","_law_at","_law_places","_law_row","_law_table_here"])(aa0:Cl P w K mg base 2 "_law_drawn" 3 aA)(B:Bl mg):Cl P w K mg base 3 "_law_drawn_world" 5 cK:=
 bf F aa5 rfl λf c A o s H E hr x=>(by(apply ak;exact(AM 5 aa5.nd);apply ak;exact(bM rfl (fX B.b_enumerate (ag (ae 2) ah)) (dj rfl (aK (aj 6 aa5.nd) (aK (aj 7 aa5.nd) cu))) (by(apply ak;exact(zq 5 8 (N':=["_law_one","_law_times","_law_table_here","_law_event"]) (src:=[ZB,ZA 5,ZA 4,ZA 7]) rfl (LcScope.by (N:=dm) (names:=(ao cv).names) rfl rfl rfl (by decide+kernel))  (λ_ _ _ _ _=>⟨(aj 0 (show Oi (["_law_one","_law_times","_law_table_here","_law_event"]:List Str)by decide+kernel)),(gI (aQ dU (bq (hU hr) (bq (hU hr) (ae 2) (ae 0)) (ae 3)) bK)),(ax aR (bq (hU hr) (ae 1) (ae 0)) (bq (hU hr) (bq (hU hr) (ae 2) (ae 0)) (ae 3)))⟩) aa5.nd);apply ak;exact(zq 5 9 (N':=["_law_one","_law_times","_law_table_here","_law_event"]) (src:=[ZB,ZA 5,ZA 4,ZA 7]) rfl (LcScope.by (N:=dm) (names:=(ao cv).names) rfl rfl rfl (by decide+kernel))  (λ_ _ _ _ _=>⟨(aj 0 (show Oi (["_law_one","_law_times","_law_table_here","_law_event"]:List Str)by decide+kernel)),(gI (aQ dU (bq (hU hr) (bq (hU hr) (ae 2) (ae 3)) (ae 0)) bK)),(ax dI (bq (hU hr) (ae 1) (ae 0)) (bq (hU hr) (bq (hU hr) (ae 2) (ae 3)) (ae 0)))⟩) aa5.nd);apply ak;exact(aH (nJ (aQ (jW (jH hr)) (ae 9) (eR ah)) (dA (J1 rfl) B.b_max boot_max (ag (ae 9) ah)) (nJ (aQ (jW (jH hr)) (ae 8) (eR ah)) (ax dI (dA (Ek rfl) B.b_min boot_min (ag (ae 8) ah)) aq) aq)) (aj 10 aa5.nd));apply ak;exact(aH (nJ (aQ (jW (jH hr)) (ae 8) (eR ah)) (dA (Ek rfl) B.b_min boot_min (ag (ae 8) ah)) (ax aR (ae 10) aq)) (aj 11 aa5.nd));exact ar (zp 5 (hU hr) (ae 7) (ax aR (ae 10) (aN aa0 hr (ag (ae 0) (ag (ax aR (ae 1) (ae 6)) (ag (ax aR (ax dI (ae 11) (ae 10)) aq) ah)))))))));exact ar (az (oP iY B.b_tuple df (ag (jI 5 (fK (N':=["_law_event","_law_times"]) (src:=[ZB,ZA 5]) rfl (LcScope.by (N:=dm) (names:=(ao cv).names) rfl rfl rfl (by decide+kernel)) (bz (ae 2)) (λ_ _ _ _ _=>⟨(aj 0 (show Oi (["_law_event","_law_times"]:List Str)by decide+kernel)),cE,(bq (hU hr) (ae 1) (ae 0))⟩))) ah)))))
abbrev k9:ZF:=top 26
abbrev rF:List Str:=["record","thing"]
theorem qW:aE rF ["record","thing"] (ao k9):=gc
theorem rj(F:gg K mg "need_event" k9 ["record","thing"])(aaq:Cl P w K mg base 3 "is_event" 2 da)(S:Xs K mg ac ap bi bn):Cl P w K mg base 4 "need_event" 2 cU:=
 bf F qW rfl λf c A o s H E hr x=>(ar (bF (di (cb (aN aaq hr (ag (aM (ae 0) aq) (ag (ae 1) ah))))) (ar (mS S.o_NoEvent S.m_NoEvent)) aZ))
abbrev jN:ZF:=top 41
abbrev pW:List Str:=["record","one","other"]
theorem pe:aE pW ["record","one","other"] (ao jN):=gc
theorem pJ(F:gg K mg "need_events" jN ["record","one","other"])(aa1:Cl P w K mg base 7 "need_record" 1 aY)(aaj:Cl P w K mg base 4 "need_event" 2 cU):Cl P w K mg base 8 "need_events" 3 fU:=
 bf F pe rfl λf c A o s H E hr x=>(by(apply ak;exact(dG (aN aa1 hr (ag (ae 0) ah)));apply ak;exact(dG (aN aaj hr (ag (ae 0) (ag (ae 1) ah))));exact ar (dG (aN aaj hr (ag (ae 0) (ag (ae 2) ah))))))
abbrev jB:ZF:=top 44
abbrev om:List Str:=["record","one","other"]
theorem n5:aE om ["record","one","other"] (ao jB):=gc
theorem n9(F:gg K mg "most_between" jB ["record","one","other"])(aaN:Cl P w K mg base 8 "need_events" 3 fU)(aan:Cl P w K mg base 12 "need_world" 1 d8)(aaB:Cl P w K mg base 1 "most_of" 2 eZ)(aao:Cl P w K mg base 9 "walks_from" 2 dD):Cl P w K mg base 13 "most_between" 3 cI:=
 bf F n5 rfl λf c A o s H E hr x=>(by(apply ak;exact(dG (aN aaN hr (ag (ae 0) (ag (ae 1) (ag (ae 2) ah)))));apply ak;exact(dG (aN aan hr (ag (ae 0) ah)));exact ar (az (aN aaB hr (ag (aN aao hr (ag (ae 0) (ag (ae 1) ah))) (ag (ae 2) ah))))))
abbrev iJ:ZF:=top 45
abbrev ng:List Str:=["record","one","other","most"]
theorem aaU:aE ng ["record","one","other"] (ao iJ):=gc
theorem m4(F:gg K mg "least_between" iJ ["record","one","other"])(aah:Cl P w K mg base 13 "most_between" 3 cI):Cl P w K mg base 14 "least_between" 3 eK:=
 bf F aaU rfl λf c A o s H E hr x=>(ak (aH (aN aah hr (ag (ae 0) (ag (ae 2) (ag (ae 1) ah)))) (aj 3 aaU.nd)) (ar (az (nJ (aQ jX (ae 3) bK) bK (tI (ae 3))))))
abbrev jA:ZF:=top 48
abbrev oj:List Str:=["record","one","other","least"]
theorem aaY:aE oj ["record","one","other"] (ao jA):=gc
theorem n8(F:gg K mg "surely_ahead" jA ["record","one","other"])(aaC:Cl P w K mg base 14 "least_between" 3 eK):Cl P w K mg base 15 "surely_ahead" 3 cg:=
 bf F aaY rfl λf c A o s H E hr x=>(ak (aH (aN aaC hr (ag (ae 0) (ag (ae 1) (ag (ae 2) ah)))) (aj 3 aaY.nd)) (ar (az (eC (fh dU (ae 3) bK) (et (fh CV (ae 3) aq))))))
abbrev jO:ZF:=top 49
abbrev pX:List Str:=["record","one","other","most"]
theorem ab9:aE pX ["record","one","other"] (ao jO):=gc
theorem pK(F:gg K mg "maybe_ahead" jO ["record","one","other"])(aah:Cl P w K mg base 13 "most_between" 3 cI):Cl P w K mg base 14 "maybe_ahead" 3 bO:=
 bf F ab9 rfl λf c A o s H E hr x=>(ak (aH (aN aah hr (ag (ae 0) (ag (ae 1) (ag (ae 2) ah)))) (aj 3 ab9.nd)) (ar (az (BV (fh jX (ae 3) bK) (et (fh CV (ae 3) aq))))))
abbrev oV:ZF:=top 51
abbrev yK:List Str:=["record","one","other"]
theorem yk:aE yK ["record","one","other"] (ao oV):=gc
theorem yC(F:gg K mg "verdict" oV ["record","one","other"])(aa9:Cl P w K mg base 15 "surely_ahead" 3 cg)(aad:Cl P w K mg base 14 "maybe_ahead" 3 bO):Cl P w K mg base 16 "verdict" 3 fP:=
 bf F yk rfl λf c A o s H E hr x=>(by(apply ak;exact(bF (cb (aN aa9 hr (ag (ae 0) (ag (ae 1) (ag (ae 2) ah))))) (ar (az tH)) aZ);apply ak;exact(bF (cb (aN aa9 hr (ag (ae 0) (ag (ae 2) (ag (ae 1) ah))))) (ar (az tH)) aZ);apply ak;exact(bF (gG (i0 (cb (aN aad hr (ag (ae 0) (ag (ae 1) (ag (ae 2) ah))))) (gv (cb (aN aad hr (ag (ae 0) (ag (ae 2) (ag (ae 1) ah)))))))) (ar (az tH)) aZ);exact ar (az tH)))
abbrev iq:ZF:=top 55
abbrev lr:List Str:=["record","order","event","rising"]
theorem aaO:aE lr ["record","order"] (ao iq):=gc
theorem rn(F:gg K mg "fits_order" iq ["record","order"])(aa1:Cl P w K mg base 7 "need_record" 1 aY)(aaj:Cl P w K mg base 4 "need_event" 2 cU)(aa6:Cl P w K mg base 8 "events" 1 cw)(aab:Cl P w K mg base 9 "greatest_world" 2 bB)(aar:Cl P w K mg base 8 "bounds" 1 fy)(B:Bl mg):Cl P w K mg base 10 "fits_order" 2 cy:=
 bf F aaO rfl λf c A o s H E hr x=>(by(apply ak;exact(dG (aN aa1 hr (ag (ae 0) ah)));apply ak;exact(bM rfl (bz (ae 1)) (aj 2 aaO.nd) (ar (dG (aN aaj hr (ag (ae 0) (ag (ae 2) ah))))));apply ak;exact(bF (aQ (jW (jH hr)) (dA By B.b_sorted boot_sorted (ag (ae 1) ah)) (aN aa6 hr (ag (ae 0) ah))) (ar (az fo)) aZ);apply ak;exact(BQ 3 (N':=["k","order"]) (src:=[ZB,ZA 1]) rfl (LcScope.by (N:=lr) (names:=(ao iq).names) rfl rfl rfl (by decide+kernel)) (dC B.b_range (ag (ax dI (dA dJ B.b_len Qj (ag (ae 1) ah)) aq) ah)) (λ_ _ _ _ _=>⟨(aj 0 (show Oi (["k","order"]:List Str)by decide+kernel)),cE,(bH (ag (aM (ae 1) (ax aR (ae 0) aq)) (ag (aM (ae 1) (ae 0)) (ag aq ah))))⟩) aaO.nd);exact ar (az (fh dU (aN aab hr (ag (ae 0) (ag (ax aR (aN aar hr (ag (ae 0) ah)) (ae 3)) ah))) bK))))
abbrev iI:ZF:=top 50
abbrev m9:List Str:=["record","one","other"]
theorem mW:aE m9 ["record","one","other"] (ao iI):=gc
theorem m3(F:gg K mg "maybe_at_once" iI ["record","one","other"])(aa9:Cl P w K mg base 15 "surely_ahead" 3 cg):Cl P w K mg base 16 "maybe_at_once" 3 cq:=
 bf F mW rfl λf c A o s H E hr x=>(ar (az (eC (x5 (aN aa9 hr (ag (ae 0) (ag (ae 1) (ag (ae 2) ah))))) (et (x5 (aN aa9 hr (ag (ae 0) (ag (ae 2) (ag (ae 1) ah)))))))))
abbrev oZ:ZF:=top 72
abbrev uE:List Str:=["_law_script","_law_record_here","_law_places","_law_row","_law_table_here","_law_pairs","_law_k","_law_times","_law_when","_law_order","_law_one","_law_other","_law_about","_law_told"]
theorem aal:aE uE ["_law_script"] (ao oZ):=gc
theorem Jj{f:ZE}(abj:Fn K mg "law" oZ ["_law_script"] f fd)(aaP:Cl P w K mg base 4 "_law_record" 3 fV)(aa6:Cl P w K mg base 8 "events" 1 cw)(aaQ:Cl P w K mg base 1 "_law_bounds" 1 eG)(aaV:Cl P w K mg base 1 "_law_table" 2 fz)(aap:Cl P w K mg base 14 "sure_pairs" 1 d7)(aaR:Cl P w K mg base 11 "an_order" 1 fQ)(aaW:Cl P w K mg base 15 "_law_keeps" 3 gz)(aac:Cl P w K mg base 11 "has_world" 1 dB)(aaI:Cl P w K mg base 1 "_law_lead_on" 2 fA)(aav:Cl P w K mg base 3 "_law_drawn_world" 5 cK)(aai:Cl P w K mg base 9 "told_order" 2 cT)(aak:Cl P w K mg base 3 "_law_letter" 3 cC)(aa0:Cl P w K mg base 2 "_law_drawn" 3 aA)(aaZ:Cl P w K mg base 16 "verdict" 3 fP)(aaD:Cl P w K mg base 10 "fits_order" 2 cy)(aad:Cl P w K mg base 14 "maybe_ahead" 3 bO)(aaE:Cl P w K mg base 16 "maybe_at_once" 3 cq)(aaw:Cl P w K mg base 10 "world" 1 dM)(B:Bl mg):J9 P w K mg base 17 f fd ["_law_script"] 1 m_law:=
 zy abj.fn aal rfl λc A o s H E hr x=>(by(apply ak;exact(aH (aN aaP hr (ag (ae 0) (ag aq (ag aq ah)))) (aj 1 aal.nd));apply ak;exact(bF (di (cb (aN aac hr (ag (ae 1) ah)))) (ar (az (fh jX (aN aaR hr (ag (ae 1) ah)) bK))) aZ);apply ak;exact(aH (aN aa6 hr (ag (ae 1) ah)) (aj 2 aal.nd));apply ak;exact(aH (aN aaQ hr (ag (ae 1) ah)) (aj 3 aal.nd));apply ak;exact(aH (aN aaV hr (ag (ae 2) (ag (ae 3) ah))) (aj 4 aal.nd));apply ak;exact(aH (aN aap hr (ag (ae 1) ah)) (aj 5 aal.nd));apply ak;exact(bF (di (cb (aN aaI hr (ag (ae 5) (ag (ae 2) ah))))) (ar (az fo)) aZ);apply ak;exact(bM rfl (dC B.b_range (ag aq ah)) (aj 6 aal.nd) (by(apply ak;exact(aH (aN aav hr (ag (ae 0) (ag (ax aR aq (ax dk aq (ae 6))) (ag (ae 2) (ag (ae 3) (ag (ae 4) ah)))))) (aj 7 aal.nd));apply ak;exact(aH (EN (Mc hr) rfl B.b_dict B.b_zip (ag (ae 2) (ag (ae 7) ah))) (aj 8 aal.nd));apply ak;exact(bF (aQ (jW (jH hr)) (fK (N':=["_law_one","_law_other","_law_when"]) (src:=[ZB,ZB,ZA 8]) rfl (LcScope.by (N:=uE) (names:=(ao oZ).names) rfl rfl rfl (by decide+kernel)) (bz (ae 5)) (λ_ _ _ _ _=>⟨(dj rfl (aK (aj 0 (show Oi (["_law_one","_law_other","_law_when"]:List Str)by decide+kernel)) (aK (aj 1 (show Oi (["_law_one","_law_other","_law_when"]:List Str)by decide+kernel)) cu))),(gI (aQ La (bq (hU hr) (ae 2) (ae 0)) (bq (hU hr) (ae 2) (ae 1)))),(ae 0)⟩)) (eR ah)) (ar (az fo)) aZ);apply ak;exact(aH (aN aai hr (ag (ae 1) (ag (ae 7) ah))) (aj 9 aal.nd));apply ak;exact(bF (gG (i0 (aQ (jW (jH hr)) (ae 9) (fK (N':=["_law_time","_law_event"]) (src:=[ZB,ZB]) rfl (LcScope.by (N:=uE) (names:=(ao oZ).names) rfl rfl rfl (by decide+kernel)) (bz (zr (LC hr) rfl B.b_sorted B.b_zip (ag (ae 7) (ag (ae 2) ah)))) (λ_ _ _ _ _=>⟨(dj rfl (aK (aj 0 (show Oi (["_law_time","_law_event"]:List Str)by decide+kernel)) (aK (aj 1 (show Oi (["_law_time","_law_event"]:List Str)by decide+kernel)) cu))),cE,(ae 1)⟩))) (gv (di (cb (aN aaD hr (ag (ae 1) (ag (ae 9) ah)))))))) (ar (az fo)) aZ);apply ak;exact(aH (aM (ae 2) (aN aa0 hr (ag (ae 0) (ag (ax aR aq (ax dk aq (ae 6))) (ag (dA dJ B.b_len Qj (ag (ae 2) ah)) ah))))) (aj 10 aal.nd));apply ak;exact(aH (aM (ae 2) (aN aa0 hr (ag (ae 0) (ag (ax aR aq (ax dk aq (ae 6))) (ag (dA dJ B.b_len Qj (ag (ae 2) ah)) ah))))) (aj 11 aal.nd));apply ak;exact(bF (gG (kx (aQ nS (bq (hU hr) (ae 8) (ae 10)) (bq (hU hr) (ae 8) (ae 11))) (iH (di (cb (aN aad hr (ag (ae 1) (ag (ae 10) (ag (ae 11) ah))))))))) (ar (az fo)) aZ);apply ak;exact(bF (gG (kx (aQ (pG (jH hr)) (bq (hU hr) (ae 8) (ae 10)) (bq (hU hr) (ae 8) (ae 11))) (iH (di (cb (aN aaE hr (ag (ae 1) (ag (ae 10) (ag (ae 11) ah))))))))) (ar (az fo)) aZ);exact(AN 12 [("ahead","behind"),("behind","ahead"),("open","open"),("at once","at once")] hr aal.nd (ml i9 i9 (ml i9 i9 (ml i9 i9 (ml i9 i9 FT)))) (aN aaZ hr (ag (ae 1) (ag (ae 10) (ag (ae 11) ah)))) (aN aaZ hr (ag (ae 1) (ag (ae 11) (ag (ae 10) ah)))) (ar (az fo)) aZ))));apply ak;exact(aH (aN aaR hr (ag (ae 1) ah)) (aj 13 aal.nd));apply ak;exact(bF (gG (i0 (aQ (jW (jH hr)) (ae 13) (aN aai hr (ag (ae 1) (ag (aN aaw hr (ag (ae 1) ah)) ah)))) (gv (di (cb (aN aaD hr (ag (ae 1) (ag (ae 13) ah)))))))) (ar (az fo)) aZ);apply ak;exact(bF (aQ (jW (jH hr)) (fK (N':=["_law_one","_law_other","_law_told"]) (src:=[ZB,ZB,ZA 13]) rfl (LcScope.by (N:=uE) (names:=(ao oZ).names) rfl rfl rfl (by decide+kernel)) (bz (ae 5)) (λ_ _ _ _ _=>⟨(dj rfl (aK (aj 0 (show Oi (["_law_one","_law_other","_law_told"]:List Str)by decide+kernel)) (aK (aj 1 (show Oi (["_law_one","_law_other","_law_told"]:List Str)by decide+kernel)) cu))),(gI (aQ CV (mT (yY hr) (ae 2) (ae 0)) (mT (yY hr) (ae 2) (ae 1)))),(ae 0)⟩)) (eR ah)) (ar (az fo)) aZ);exact ar (az (aN aaW hr (ag (ae 1) (ag (aN aak hr (ag (ae 0) (ag aq (ag (aM (ae 1) aq) ah)))) (ag (ae 5) ah)))))))
end
@[elab_as_elim] theorem fD {α:Type} {p:List α->Prop} (h:∀a0,p [a0]):∀us:List α,us.length=1->p us
 |[a0],_=>h a0
@[elab_as_elim] theorem fL {α:Type} {p:List α->Prop} (h:∀a0 a1,p [a0,a1]):∀us:List α,us.length=2->p us
 |[a0,a1],_=>h a0 a1
@[elab_as_elim] theorem hY {α:Type} {p:List α->Prop} (h:∀a0 a1 a2,p [a0,a1,a2]):∀us:List α,us.length=3->p us
 |[a0,a1,a2],_=>h a0 a1 a2
@[elab_as_elim] theorem Lk {α:Type} {p:List α->Prop} (h:∀a0 a1 a2 a3 a4,p [a0,a1,a2,a3,a4]):∀us:List α,us.length=5->p us
 |[a0,a1,a2,a3,a4],_=>h a0 a1 a2 a3 a4
def all_ok{l:PySem.W.OpenLaw}{h:ZH}{fa:ZE}(X:K.In h)(e0:C2 asks K=B3 asks top)(G:h.Ns Oy mg)(hfa:mg "law" =ZA (.ref fa)):
  ∃fd:PN,(∀(s:NB)(v:NA),Vx s fd ⟨[v],[]⟩ [("_law_script",v)])/\∀base:ZH,K.In base->base.Ns Oy mg->vG l.prog w K mg base CX0 17 fa fd ["_law_script"] (spP K 1 m_law):=by
 have e:wV Eo K=vS Eo top:=congrArg (·.1) e0
 have B:Bl mg:=⟨fS 0 X G e rfl,fS 1 X G e rfl,fS 2 X G e rfl,fS 3 X G e rfl,fS 4 X G e rfl,fS 5 X G e rfl,fS 6 X G e rfl,fS 7 X G e rfl,fS 8 X G e rfl,fS 9 X G e rfl,fS 10 X G e rfl,fS 11 X G e rfl,fS 12 X G e rfl⟩
 have C:Cs mg:=⟨sA 0 X G e rfl,sA 1 X G e rfl,sA 2 X G e rfl,sA 3 X G e rfl,sA 4 X G e rfl,sA 5 X G e rfl⟩;obtain⟨bn,ls,xD,xl,nd⟩:=Jk (Lz e);obtain⟨ac,ls0,x_NoRecord,rfl,xl0⟩:=nF xl;obtain⟨ap,ls1,x_NoEvent,rfl,xl1⟩:=nF xl0;obtain⟨bi,ls2,x_NoWorld,rfl,xl2⟩:=nF xl1;cases Er xl2
 have S:Xs K mg ac ap bi bn:=⟨Tb X G (lL x_NoRecord).1,Tb X G (lL x_NoEvent).1,Tb X G (lL x_NoWorld).1,Tb X G (lL xD).1,ox1 x_NoRecord xD,ox1 x_NoEvent xD,ox1 x_NoWorld xD,ox0 xD,nd⟩;obtain⟨fd52,abj,bnd⟩:=Lw (n:="law") (i:=72) (x:="_law_script") 52 X G e rfl hfa λ_ _ _ _ _ _ _=>rfl
 refine⟨fd52,bnd,λbase _ _=>?_⟩
 have ab0:=uz l.prog w base (cm 0 X G e rfl λ_ _ _ _ _ _=>fL λ_ _=>rfl) B
 have aa0:=rz l.prog w base (cm 1 X G e rfl λ_ _ _ _ _ _=>hY λ_ _ _=>rfl) ab0
 have aaL:=pP l.prog w base (cm 2 X G e rfl λ_ _ _ _ _ _=>fD λ_=>rfl) B
 have aak:=pO l.prog w base (cm 3 X G e rfl λ_ _ _ _ _ _=>hY λ_ _ _=>rfl) aaL aa0 B
 have aaS:=rA l.prog w base (cm 4 X G e rfl λ_ _ _ _ _ _=>fL λ_ _=>rfl) aa0 B
 have aaP:=pM l.prog w base (cm 5 X G e rfl λ_ _ _ _ _ _=>hY λ_ _ _=>rfl) aa0 aak aaS B
 have aa2:=yF l.prog w base (cm 6 X G e rfl λ_ _ _ _ _ _=>hY λ_ _ _=>rfl) B
 have aba:=wM l.prog w base (cm 7 X G e rfl λ_ _ _ _ _ _=>fD λ_=>rfl) B
 have aa4:=uo l.prog w base (cm 8 X G e rfl λ_ _ _ _ _ _=>hY λ_ _ _=>rfl) aba
 have abf:=yE l.prog w base (cm 9 X G e rfl λ_ _ _ _ _ _=>fL λ_ _=>rfl) aa4 C
 have abi:=C1 l.prog w base (cm 10 X G e rfl λ_ _ _ _ _ _=>fD λ_=>rfl) B
 have aaG:=og l.prog w base (cm 11 X G e rfl λ_ _ _ _ _ _=>fD λ_=>rfl) aa2 abi aa4 B C
 have abb:=wQ l.prog w base (cm 12 X G e rfl λ_ _ _ _ _ _=>fD λ_=>rfl) aa2 abf aaG
 have aaT:=ro l.prog w base (cm 13 X G e rfl λ_ _ _ _ _ _=>fD λ_=>rfl) aa2 abb B C
 have aaq:=wN l.prog w base (cm 14 X G e rfl λ_ _ _ _ _ _=>fL λ_ _=>rfl) aa4 aa2 B
 have abc:=wO l.prog w base (cm 15 X G e rfl λ_ _ _ _ _ _=>fL λ_ _=>rfl) aa4 C
 have ab5:=ur l.prog w base (cm 16 X G e rfl λ_ _ _ _ _ _=>fL λ_ _=>rfl) aaq aa2 abc
 have aaM:=pL l.prog w base (cm 17 X G e rfl λ_ _ _ _ _ _=>fL λ_ _=>rfl) aa2 ab5 B C
 have ab6:=uq l.prog w base (cm 18 X G e rfl λ_ _ _ _ _ _=>fD λ_=>rfl) aa2 aaT aaM
 have aa1:=pI l.prog w base (cm 19 X G e rfl λ_ _ _ _ _ _=>fD λ_=>rfl) ab6 S
 have aa6:=A4 l.prog w base (cm 20 X G e rfl λ_ _ _ _ _ _=>fD λ_=>rfl) aa1 B
 have aaQ:=pQ l.prog w base (cm 21 X G e rfl λ_ _ _ _ _ _=>fD λ_=>rfl) B
 have aaV:=rp l.prog w base (cm 22 X G e rfl λ_ _ _ _ _ _=>fL λ_ _=>rfl) B
 have ab7:=uu l.prog w base (cm 23 X G e rfl λ_ _ _ _ _ _=>hY λ_ _ _=>rfl)
 have aaH:=A3 l.prog w base (cm 24 X G e rfl λ_ _ _ _ _ _=>fL λ_ _=>rfl) ab7 B
 have aab:=mm l.prog w base (cm 25 X G e rfl λ_ _ _ _ _ _=>fL λ_ _=>rfl) aa6 aaH B
 have aay:=lK l.prog w base (cm 26 X G e rfl λ_ _ _ _ _ _=>fL λ_ _=>rfl) B
 have aau:=kS l.prog w base (cm 27 X G e rfl λ_ _ _ _ _ _=>fD λ_=>rfl)
 have aar:=A5 l.prog w base (cm 28 X G e rfl λ_ _ _ _ _ _=>fD λ_=>rfl) aa1 aay aau B
 have aaw:=CZ l.prog w base (cm 29 X G e rfl λ_ _ _ _ _ _=>fD λ_=>rfl) aab aar
 have aac:=uw l.prog w base (cm 30 X G e rfl λ_ _ _ _ _ _=>fD λ_=>rfl) aaw
 have aan:=ri l.prog w base (cm 31 X G e rfl λ_ _ _ _ _ _=>fD λ_=>rfl) aac S
 have aao:=rf l.prog w base (cm 32 X G e rfl λ_ _ _ _ _ _=>fL λ_ _=>rfl) aaH aar
 have aaB:=yD l.prog w base (cm 33 X G e rfl λ_ _ _ _ _ _=>fL λ_ _=>rfl)
 have abd:=wU l.prog w base (cm 34 X G e rfl λ_ _ _ _ _ _=>fD λ_=>rfl) aan aa6 aao aaB B
 have aap:=rh l.prog w base (cm 35 X G e rfl λ_ _ _ _ _ _=>fD λ_=>rfl) abd aa6 B
 have aai:=rg l.prog w base (cm 36 X G e rfl λ_ _ _ _ _ _=>fL λ_ _=>rfl) aa6 B
 have aaR:=wR l.prog w base (cm 37 X G e rfl λ_ _ _ _ _ _=>fD λ_=>rfl) aaw aai
 have ab8:=uv l.prog w base (cm 38 X G e rfl λ_ _ _ _ _ _=>fD λ_=>rfl) aa1
 have aaA:=pH l.prog w base (cm 39 X G e rfl λ_ _ _ _ _ _=>fL λ_ _=>rfl) aa1 ab8
 have aaW:=rq l.prog w base (cm 40 X G e rfl λ_ _ _ _ _ _=>hY λ_ _ _=>rfl) aap aaA aac
 have aaI:=oh l.prog w base (cm 41 X G e rfl λ_ _ _ _ _ _=>fL λ_ _=>rfl) B
 have aav:=kU l.prog w base (cm 42 X G e rfl λ_ _ _ _ _ _=>Lk λ_ _ _ _ _=>rfl) aa0 B
 have aaj:=rj l.prog w base (cm 43 X G e rfl λ_ _ _ _ _ _=>fL λ_ _=>rfl) aaq S
 have aaN:=pJ l.prog w base (cm 44 X G e rfl λ_ _ _ _ _ _=>hY λ_ _ _=>rfl) aa1 aaj
 have aah:=n9 l.prog w base (cm 45 X G e rfl λ_ _ _ _ _ _=>hY λ_ _ _=>rfl) aaN aan aaB aao
 have aaC:=m4 l.prog w base (cm 46 X G e rfl λ_ _ _ _ _ _=>hY λ_ _ _=>rfl) aah
 have aa9:=n8 l.prog w base (cm 47 X G e rfl λ_ _ _ _ _ _=>hY λ_ _ _=>rfl) aaC
 have aad:=pK l.prog w base (cm 48 X G e rfl λ_ _ _ _ _ _=>hY λ_ _ _=>rfl) aah
 have aaZ:=yC l.prog w base (cm 49 X G e rfl λ_ _ _ _ _ _=>hY λ_ _ _=>rfl) aa9 aad
 have aaD:=rn l.prog w base (cm 50 X G e rfl λ_ _ _ _ _ _=>fL λ_ _=>rfl) aa1 aaj aa6 aab aar B
 have aaE:=m3 l.prog w base (cm 51 X G e rfl λ_ _ _ _ _ _=>hY λ_ _ _=>rfl) aa9
 exact(Jj l.prog w base abj aaP aa6 aaQ aaV aap aaR aaW aac aaI aav aai aak aa0 aaZ aaD aad aaE aaw B).h
end G
namespace Tr
open PySem
abbrev RR(cs ls:List T):T:=.tup [.tup cs,.tup ls]
mutual
def T.pl:T->Bool
 |.scr _=>ZD
 |.dct _ _=>ZD
 |.ob _ _ _=>ZD
 |.tup l=>plS l
 |.lst l=>plS l
 |_=>ZC
def plS:List T->Bool
 |[] =>ZC
 |t::l=>t.pl&&plS l
end
theorem i8:∀{l:List T}{t:T},plS l=ZC->t∈l->t.pl=ZC
 |[],_,_,h=>by cases h
 |u::l,t,h,m=>by
  unfold plS at h;rw[NC]at h;rcases NG.mp m with rfl|m
  ·exact h.1
  ·exact i8 h.2 m
mutual
theorem T.Ml:∀(t:T),t.pl=ZC->t.nd=ZC
 |.non,_=>rfl
 |.bl _,_=>rfl
 |.int _,_=>rfl
 |.str _,_=>rfl
 |.scr _,h=>by cases h
 |.dct _ _,h=>by cases h
 |.ob _ _ _,h=>by cases h
 |.tup l,h=>by unfold T.pl at h;unfold T.nd;exact plS_nds l h
 |.lst l,h=>by unfold T.pl at h;unfold T.nd;exact plS_nds l h
theorem plS_nds:∀(l:List T),plS l=ZC->nds l=ZC
 |[],_=>rfl
 |t::l,h=>by
  unfold plS at h;rw[NC]at h;unfold nds;rw[T.Ml t h.1,plS_nds l h.2];rfl
end
variable{fe:W5}{h:T->T}
theorem yS:∀(ts:List T)(Z:En),0<Z.length->(∀t∈ts,fe (Z.set 0 (.va t))=.ok (h t))->dt (gN 0) bT fe ts Z=.ok (ts.map h)
 |[],_,_,_=>rfl
 |t::r,Z,hl,hf=>by
  unfold dt
  have e1:gN 0 t Z=.ok (Z.set 0 (.va t)):=by unfold gN;rw[if_pos hl]
  have ih:=yS r (Z.set 0 (.va t)) (by rw[OC];exact hl) (λu hu=>by rw[VJ];exact hf u (Nu _ hu))
  simp only[e1,aF,bT,if_true,hf t Nv,ih,Nx]
theorem sk{fc:W6}{p:T->Bool}:∀(ts:List T)(Z:En),0<Z.length->(∀t∈ts,fc (Z.set 0 (.va t))=.ok (p t)/\(p t=ZC->fe (Z.set 0 (.va t))=.ok (h t)))->dt (gN 0) fc fe ts Z=.ok ((ts.filter p).map h)
 |[],_,_,_=>rfl
 |t::r,Z,hl,hf=>by
  unfold dt
  have e1:gN 0 t Z=.ok (Z.set 0 (.va t)):=by unfold gN;rw[if_pos hl]
  have ih:=sk r (Z.set 0 (.va t)) (by rw[OC];exact hl) (λu hu=>by rw[VJ];exact hf u (Nu _ hu))
  obtain⟨h1,h2⟩:=hf t Nv;simp only[e1,aF,h1]
  cases q:p t with
  |true=>simp only[if_true,h2 q,aF,ih,V7,q,Nx]
  |false=>simp only[N8,if_false,ih,V7,q]
theorem sY(p:T->Bool):∀l:List T,qG (l.map λt=>T.bl (p t))=ZA (l.map p)
 |[] =>rfl
 |t::l=>by rw[Nx,qG,sY p l];rfl
def all_map(p:T->Bool)(l:List T):rM [.lst (l.map λt=>T.bl (p t))]=.ok (.bl (l.all p)):=by
 simp only[rM,sY,TV]
 rfl
def lT{l:List α}{k:Nat}{t:α}(h:l[k]?=ZA t):L2.atI l (k:Int)=ZA t:=by
 have hk:k<l.length:=(NN.mp h).1
 unfold L2.atI L2.ixN;rw[if_pos (by omega),if_pos (by omega),ON]
 exact h
def aB{k:Nat}(h:n<=k)(hk:autoParam (k<=1000) s_):n<=ZI:=by unfold ZI;omega
variable{fi:W3}{g:T->En->Rs En}{ks:List T}{x:Rs T}
section
variable {f fa fb fc:W5}{fs:W3}{b c:W6}{F G:W4}{Z Z' Z1 Z2:En}{t u r:T}{ts l m:List T}
variable{g:T->T->Rs T}
def aD(ha:fa Z=.ok t)(hb:fb Z=.ok u)(hg:g t u=x):o2 g fa fb Z=x:=by unfold o2;rw[ha,hb];exact hg
def JD{g:T->Rs T}(ha:fa Z=.ok t)(hg:g t=x):o1 g fa Z=x:=by unfold o1;rw[ha];exact hg
def Lu{vs:List T}(ha:fa Z=.ok (.dct ks vs))(hb:fb Z=.ok u)(hg:g (.dct ks vs) u=x):oD g fa fb Z=x:=by unfold oD;rw[ha];show(fb Z >>= g (.dct ks vs))=_;rw[hb];exact hg
def JC(ha:fa Z=.ok (.lst ks))(hb:fb Z=.ok u)(hg:g (.lst ks) u=x):oL g fa fb Z=x:=by unfold oL;rw[ha];show(fb Z >>= g (.lst ks))=_;rw[hb];exact hg
def au(h:f Z=.ok t)(hs:fs Z=.ok ts):af f fs Z=.ok (t::ts):=by unfold af;rw[h,hs];rfl
def aP{g:List T->Rs T}(h:fs Z=.ok ts)(hg:g ts=x):cl g fs Z=x:=by unfold cl;rw[h];exact hg
def ba{k:Bool}(h:f Z=.ok (.bl k)):tb f Z=.ok k:=by unfold tb;rw[h];rfl
def hZ{k:Bool}(h:b Z=.ok k):dg b Z=.ok (!k):=by unfold dg;rw[h];rfl
def Ai(h:b Z=.ok ZC):lW b c Z=.ok ZC:=by unfold lW;rw[h];rfl
variable{x:Rs Bool}
def nW(h:b Z=.ok ZD)(h2:c Z=x):lW b c Z=x:=by unfold lW;rw[h];exact h2
def nt(h:b Z=.ok ZD):iZ b c Z=.ok ZD:=by unfold iZ;rw[h];rfl
def lQ(h:b Z=.ok ZC)(h2:c Z=x):iZ b c Z=x:=by unfold iZ;rw[h];exact h2
def k_or{q:Bool}(h:b Z=.ok p)(h2:p=ZD->c Z=.ok q):lW b c Z=.ok (p||q):=by
 cases p with
 |true=>exact Ai h
 |false=>exact nW h (h2 rfl)
def DE(h:fa Z=.ok (.bl ZC)):cL fa fb Z=fb Z:=by unfold cL;rw[h];rfl
def Al(h:fa Z=.ok (.bl ZD)):cL fa fb Z=.ok (.bl ZD):=by unfold cL;rw[h];rfl
def Gq{q:Bool}(h:fa Z=.ok (.bl p))(h2:p=ZC->fb Z=.ok (.bl q)):cL fa fb Z=.ok (.bl (p&&q)):=by
 cases p with
 |true=>rw[DE h,h2 rfl];rfl
 |false=>rw[Al h];rfl
def Dw(h:fa Z=.ok (.bl ZC)):BJ fa fb Z=.ok (.bl ZC):=by unfold BJ;rw[h];rfl
def Dx(h:fa Z=.ok (.bl ZD)):BJ fa fb Z=fb Z:=by unfold BJ;rw[h];rfl
def Dy{k:Bool}(h:fa Z=.ok (.bl k)):o1 yH fa Z=.ok (.bl (!k)):=JD h rfl
def lD(h:b Z=.ok p):qu b fa fb Z=if p then fa Z else fb Z:=by unfold qu;rw[h];rfl
variable{g:T->En->Rs En}
def bW(h:f Z=.ok t)(hg:g t Z=.ok Z'):cM f g Z=.ok (.nx Z'):=by unfold cM;rw[h];show(match g t Z with|.ok Z'=>Rs.ok (Fl.nx Z')|_=>.bad)=_;rw[hg]
def ay(h:F Z=.ok (.nx Z')):aw F G Z=G Z':=by unfold aw;rw[h];rfl
def gn(h:F Z=.ok (.rt t)):aw F G Z=.ok (.rt t):=by unfold aw;rw[h];rfl
def Dv(h:F Z=.ok (.ct Z')):aw F G Z=.ok (.ct Z'):=by unfold aw;rw[h];rfl
def JA{c:Str}(h:F Z=.err c):aw F G Z=.err c:=by unfold aw;rw[h];rfl
def ff(h:b Z=.ok ZC):dQ b F G Z=F Z:=by unfold dQ;rw[h];rfl
def cx(h:b Z=.ok ZD):dQ b F G Z=G Z:=by unfold dQ;rw[h];rfl
def bS(h:f Z=.ok t):aL f Z=.ok (.rt t):=by unfold aL;rw[h];rfl
def JB{c:Str}(h:f Z=.err c):aL f Z=.err c:=by unfold aL;rw[h];rfl
def oq(h:f Z=.ok t):rZ f Z=.ok (.nx Z):=by unfold rZ;rw[h];rfl
def Ly{c:Str}(h:f Z=.err c):rZ f Z=.err c:=by unfold rZ;rw[h];rfl
def dN{x:Fl}(h:fi Z=.ok ts)(h2:bc g F ts Z=.ok x):dS fi g F Z=.ok x:=by unfold dS;rw[h];show(match bc g F ts Z with|.ok f=>Rs.ok f|_=>.bad)=_;rw[h2]
def cP(h:g t Z=.ok Z1)(h2:F Z1=.ok (.nx Z2)):bc g F (t::ts) Z=bc g F ts Z2:=by rw[bc,h];show(F Z1 >>= _)=_;rw[h2];rfl
def Gn(h:g t Z=.ok Z1)(h2:F Z1=.ok (.ct Z2)):bc g F (t::ts) Z=bc g F ts Z2:=by rw[bc,h];show(F Z1 >>= _)=_;rw[h2];rfl
def Aj(h:g t Z=.ok Z1)(h2:F Z1=.ok (.rt r)):bc g F (t::ts) Z=.ok (.rt r):=by rw[bc,h];show(F Z1 >>= _)=_;rw[h2];rfl
def Du(h:c Z=.ok ZD):cf c F (n+1) Z=.ok (.nx Z):=by unfold cf;rw[h]
def xE(h:c Z=.ok ZC)(h2:F Z=.ok (.nx Z')):cf c F (n+1) Z=cf c F n Z':=by rw[cf,h];simp only[h2]
def Dt(h:c Z=.ok ZC)(h2:F Z=.ok (.rt t)):cf c F (n+1) Z=.ok (.rt t):=by rw[cf,h];simp only[h2]
def bD{m:Nat}(hl:ts.length=n)(h:F (aU m ts)=.ok (.rt t)):val n m F ts=.ok t:=by unfold val;rw[if_pos hl];unfold bU;rw[h];rfl
def yU{m:Nat}{c:Str}(hl:ts.length=n)(h:F (aU m ts)=.err c):val n m F ts=.err c:=by unfold val;rw[if_pos hl];unfold bU;rw[h];rfl
def uY{m:Nat}(hl:ts.length=n)(h:F (aU m ts)=.ok (.nx Z)):val n m F ts=.ok .non:=by unfold val;rw[if_pos hl];unfold bU;rw[h];rfl
def qm{src:List (Option Nat)}(hi:fi Z=.ok ts)(hs:ts.length<=ZI)(hn:0<src.length)(hf:∀t∈ts,fe ((bV src Z).set 0 (.va t))=.ok (h t)):
  ee fi src (gN 0) bT fe Z=.ok (.lst (ts.map h)):=by
 have e:=yS (fe:=fe) (h:=h) ts (bV src Z) (by unfold bV;rw[Ny];exact hn) hf
 unfold ee;rw[hi,aF,if_pos hs,e]
def DA{src:List (Option Nat)}{fc:W6}{p:T->Bool}(hi:fi Z=.ok ts)(hs:ts.length<=ZI)(hn:0<src.length)
  (hf:∀t∈ts,fc ((bV src Z).set 0 (.va t))=.ok (p t)/\(p t=ZC->fe ((bV src Z).set 0 (.va t))=.ok (h t))):ee fi src (gN 0) fc fe Z=.ok (.lst ((ts.filter p).map h)):=by
 have e:=sk (fc:=fc) (fe:=fe) (p:=p) (h:=h) ts (bV src Z) (by unfold bV;rw[Ny];exact hn) hf
 unfold ee;rw[hi,aF,if_pos hs,e]
def cO(h:fs Z=.ok ts)(hl:ts.length<=ZI):bx fs Z=.ok (.tup ts):=by unfold bx;rw[h];show lz ts=_;unfold lz;rw[if_pos hl]
def mE(h:fs Z=.ok ts)(hl:ts.length<=ZI):dF fs Z=.ok (.lst ts):=by unfold dF;rw[h];show lA ts=_;unfold lA;rw[if_pos hl]
def Dz{f:W3}(h:f Z=.ok l)(hi:i<Z.length)(hl:l.length<=1000):iM i f Z=.ok (.nx (Z.set i (.ow (.lst l)))):=by
 unfold iM;rw[h,aF,if_pos ⟨hi,aB hl (by omega)⟩]
def ql(hi:i<Z.length):iM i ai Z=.ok (.nx (Z.set i (.ow (.lst [])))):=Dz rfl hi (O4 _)
def mF(h:f Z=.ok t)(hi:Z[i]?=ZA (.ow (.lst l)))(hl:l.length<=1000):g9 i f Z=.ok (.nx (Z.set i (.ow (.lst (l++[t]))))):=by
 unfold g9;rw[hi];simp only[h,aF];rw[if_pos (by unfold ZI;omega)]
def DB(h:f Z=.ok (.lst m))(hi:Z[i]?=ZA (.ow (.lst l)))(hl:l.length+m.length<=1000):pj i f Z=.ok (.nx (Z.set i (.ow (.lst (l++m))))):=by
 unfold pj;rw[hi];simp only[h,aF,JS];rw[if_pos (by unfold ZI;omega)]
def gR(h:f Z=.ok (.lst l)):iS f Z=.ok l:=by unfold iS;rw[h];rfl
def Ak(h:fs Z=.ok [.lst l]):iE fs Z=.ok (ck 0 l):=by unfold iE;rw[h];rfl
def Hu(e:l[n]?=ZA t):aX (.tup l) (.int (n:Int))=.ok t:=by show(match L2.atI l _ with|some t=>Rs.ok t|none=>.bad)=_;rw[lT e]
def JE(e:l[n]?=ZA t):aX (.lst l) (.int (n:Int))=.ok t:=by show(match L2.atI l _ with|some t=>Rs.ok t|none=>.bad)=_;rw[lT e]
def Bj(h:fa Z=.ok (.tup l))(h2:fb Z=.ok (.int (n:Int)))(e:l[n]?=ZA t):o2 aX fa fb Z=.ok t:=aD h h2 (Hu e)
def xF(h:fa Z=.ok (.lst l))(h2:fb Z=.ok (.int (n:Int)))(e:l[n]?=ZA t):o2 aX fa fb Z=.ok t:=aD h h2 (JE e)
def Lr{fl fu:En->Rs (Option Int)}(h:fe Z=.ok (.lst l))(h1:fl Z=.ok lo)(h2:fu Z=.ok hi):sl fe fl fu Z=.ok (.lst (vk l lo hi)):=by
 unfold sl;rw[h,h1,h2];rfl
def k_pS{i:Int}(h:f Z=.ok (.int i)):pS f Z=.ok (ZA i):=by unfold pS;rw[h];rfl
def Ej(l:List T)(n:Nat):vk l (ZA (n:Int)) ZB=l.drop n:=by
 unfold vk;rw[HT.sIx_none,HT.sIx_nat]
 by_cases h:n<=l.length
 ·rw[Nat.min_eq_left h]
  exact TJ (by rw[QL];omega)
 ·rw[Nat.min_eq_right (by omega),QQ (NL _),QQ (by omega),List.take_nil]
def Gp{o:OT}(hi:Z[i]?=ZA (.ow o))(h:f (disown i Z)=.ok t)(hk:t.nk o.isD=ZC):ln i f Z=.ok t:=by
 unfold ln;rw[hi];simp only[h,aF,hk,if_true]
def Lv{k:Bool}(h:b (disown i Z)=.ok k):Jr i b Z=.ok k:=h
def DD{x:Rs Fl}(h:F (disown i Z)=x):mX i F Z=x:=h
end
def mk2(a b:T):lz [a,b]=.ok (.tup [a,b]):=by unfold lz;rw[if_pos (aB (k:=1000) (by simp only[ND,Qs];omega))]
def kC(n:Nat):(rng 0 n).length=n:=by unfold rng;rw[Ny,Pt];omega
end Tr
variable{m s x:Int}{w:List Nat}
namespace Gr
variable {ν:Type}[DecidableEq ν]
abbrev bX(ν:Type):=List (ν×ν×Int)
inductive Wk (L:bX ν):ν->ν->Int->Prop
 |nil (a:ν):Wk L a a 0
 |step {a b c:ν} {m s:Int}:(a,b,m)∈L->Wk L b c s->Wk L a c (m+s)
def Wk.one{L:bX ν}{a b:ν}(h:(a,b,m)∈L):Wk L a b m:=by
 have:=Wk.step h (Wk.nil (L:=L) b)
 rwa [Int.add_zero]at this
def Wk.app{L:bX ν}{a b c:ν}{t:Int}(h:Wk L a b s)(k:Wk L b c t):Wk L a c (s+t):=by
 induction h with
 |nil a=>rwa [Int.zero_add]
 |step e _ ih=>rw[Int.add_assoc];exact .step e (ih k)
def Wk.mono{L M:bX ν}(h:∀x∈L,x∈M){a b:ν}(w:Wk L a b s):Wk M a b s:=by
 induction w with
 |nil a=>exact .nil a
 |step e _ ih=>exact .step (h _ e) ih
def Holds(L:bX ν)(t:ν->Int):Prop:=∀a b m,(a,b,m)∈L->t b - t a<=m
def Holds.walk{L:bX ν}{t:ν->Int}(h:Holds L t){a b:ν}(w:Wk L a b s):t b - t a<=s:=by
 induction w with
 |nil a=>omega
 |step e _ ih=>have:=h _ _ _ e;omega
def bZ(L:bX ν):Prop:=∀a s,Wk L a a s->0<=s
def Holds.MF{L:bX ν}{t:ν->Int}(h:Holds L t):bZ L:=λa s w=>by have:=h.walk w;omega
def Ch(L:bX ν):ν->List Nat->ν->Prop
 |a,[],b=>a=b
 |a,k::r,b=>∃c m,L[k]?=ZA (a,c,m)/\Ch L c r b
def most(L:bX ν)(k:Nat):Int:=match L[k]? with
 |some x=>x.2.2
 |none=>0
def fJ(L:bX ν):List Nat->Int
 |[] =>0
 |k::r=>most L k+fJ L r
theorem mO(L:bX ν):∀(p q:List Nat),fJ L (p++q)=fJ L p+fJ L q
 |[],q=>by simp[fJ]
 |k::p,q=>by rw[List.cons_append,fJ,fJ,mO L p q];omega
theorem Ch.wk{L:bX ν}:∀{ks:List Nat}{a b:ν},Ch L a ks b->Wk L a b (fJ L ks)
 |[],a,b,h=>by cases h;exact .nil a
 |k::r,a,b,⟨c,m,e,h⟩=>by
  have:fJ L (k::r)=m+fJ L r:=by rw[fJ,most,e]
  rw[this];exact .step (Qn e) h.wk
theorem Ch.app{L:bX ν}:∀{p q:List Nat}{a b c:ν},Ch L a p b->Ch L b q c->Ch L a (p++q) c
 |[],q,a,b,c,h,k=>by cases h;exact k
 |x::p,q,a,b,c,⟨d,m,e,h⟩,k=>⟨d,m,e,Ch.app h k⟩
theorem Ch.lt{L:bX ν}:∀{ks:List Nat}{a b:ν},Ch L a ks b->∀k∈ks,k<L.length
 |[],_,_,_,k,hk=>by simp at hk
 |x::r,a,b,⟨c,m,e,h⟩,k,hk=>by
  rcases NG.mp hk with rfl|hk
  ·exact(NN.mp e).1
  ·exact h.lt k hk
def Ch.snoc{L:bX ν}{p:List Nat}{k:Nat}{a b c:ν}(h:Ch L a p b)(e:L[k]?=ZA (b,c,m)):Ch L a (p++[k]) c:=h.app ⟨c,m,e,rfl⟩
def src(L:bX ν)(k:Nat):Option ν:=(L[k]?).map (·.1)
abbrev cD(ν:Type):=ν->Option (Int×List Nat)
def put(b:cD ν)(v:ν)(x:Int×List Nat):cD ν:=λu=>if u=v then ZA x else b u
variable{x:Int×List Nat}
def fw{b:cD ν}{v:ν}:put b v x v=ZA x:=by unfold put;rw[if_pos rfl]
def lI{b:cD ν}{u v:ν}(h:u≠v):put b v x u=b u:=by unfold put;rw[if_neg h]
def fH(L:bX ν)(ks:List Nat):List ν:=ks.filterMap (src L)
def fE(b:cD ν)(v:ν)(d:Int):Bool:=match b v with
 |none=>ZC
 |some x=>decide (d<x.1)
def iO(L:bX ν)(b:cD ν)(k:Nat)(x:ν×ν×Int):Sum (Option (cD ν)) (List Nat):=match b x.1 with
 |none=>.inl ZB
 |some (d,w)=>if fE b x.2.1 (d+x.2.2)=ZC then
   if x.2.1∈fH L (w++[k])then .inr ((w++[k]).drop ((fH L (w++[k])).idxOf x.2.1))else .inl (ZA (put b x.2.1 (d+x.2.2,w++[k])))
  else .inl ZB
def jz(L:bX ν):Nat->bX ν->cD ν->Bool->Sum (cD ν×Bool) (List Nat)
 |_,[],b,mv=>.inl (b,mv)
 |k,x::r,b,mv=>match iO L b k x with
  |.inr q=>.inr q
  |.inl ZB=>jz L (k+1) r b mv
  |.inl (ZA b')=>jz L (k+1) r b' ZC
def settle(L:bX ν):Nat->cD ν->Option (Sum (cD ν) (List Nat))
 |0,_=>ZB
 |n+1,b=>match jz L 0 L b ZD with
  |.inr q=>ZA (.inr q)
  |.inl (b',ZC)=>settle L n b'
  |.inl (b',ZD)=>ZA (.inl b')
def ui(L:bX ν)(p q:List Nat):fH L (p++q)=fH L p++fH L q:=by unfold fH;rw[List.filterMap_append]
def uh{L:bX ν}{k:Nat}{x:ν×ν×Int}(e:L[k]?=ZA x):fH L [k]=[x.1]:=by unfold fH src;simp[e]
def Ch.KM{L:bX ν}{k:Nat}{r:List Nat}{a b:ν}(h:Ch L a (k::r) b):fH L (k::r)=a::fH L r:=by
 obtain⟨c,m,e,_⟩:=h;rw[show k::r=[k] ++r from rfl,ui,uh e];rfl
theorem Ch.cut{L:bX ν}{v:ν}:∀{ks:List Nat}{a b:ν},Ch L a ks b->v∈fH L ks->Ch L a (ks.take ((fH L ks).idxOf v)) v/\Ch L v (ks.drop ((fH L ks).idxOf v)) b/\(fH L ks).idxOf v<ks.length
 |[],a,b,_,hv=>by simp[fH]at hv
 |k::r,a,b,h,hv=>by
  rw[h.KM]at hv ⊢
  have h0:=h;obtain⟨c,m,e,h⟩:=h
  by_cases z:a=v
  ·subst z
   rw[List.idxOf_cons_self];exact⟨rfl,h0,by simp⟩
  ·have hv':v∈fH L r:=by
    rcases NG.mp hv with q|q
    ·exact absurd q.symm z
    ·exact q
   obtain⟨h1,h2,h3⟩:=h.cut hv'
   have ei:(a::fH L r).idxOf v=(fH L r).idxOf v+1:=by
    rw[Wr]
    have:(a == v)=ZD:=by rw[beq_eq_false_iff_ne];exact z
    rw[this];rfl
   rw[ei];exact⟨⟨c,m,e,h1⟩,h2,by simpa using h3⟩
structure Kept (L:bX ν)(S:List ν)(b:cD ν):Prop where
 walk:∀v d w,b v=ZA (d,w)->∃s∈S,Ch L s w v/\fJ L w=d/\v∉fH L w/\(fH L w).Nodup/\∀p q u,w=p++q->Ch L s p u->∃d' w',b u=ZA (d',w')/\d'<=fJ L p
 start:∀s∈S,∃d w,b s=ZA (d,w)/\d<=0
theorem Kept.put{L:bX ν}{S:List ν}{b:cD ν}(K:Kept L S b){k:Nat}{a c:ν}(e:L[k]?=ZA (a,c,m))(ha:b a=ZA (d,w))(hb:fE b c (d+m)=ZC)(hn:c∉fH L (w++[k])):
  Kept L S (put b c (d+m,w++[k])):=by
 have low:∀u d' w',b u=ZA (d',w')->∃d'' w'',Gr.put b c (d+m,w++[k]) u=ZA (d'',w'')/\d''<=d':=λu d' w' h=>by
  by_cases z:u=c
  ·subst z
   refine⟨_,_,fw,?_⟩
   unfold fE at hb;rw[h]at hb
   have:=of_decide_eq_true hb;omega
  ·exact⟨d',w',by rw[lI z];exact h,Po _⟩
 obtain⟨s,hs,h1,h2,h3,h4,h5⟩:=K.walk a d w ha
 have hch:Ch L s (w++[k]) c:=h1.snoc e
 have hcost:fJ L (w++[k])=d+m:=by rw[mO,h2,fJ,fJ,most,e];simp
 refine⟨λv d' w' h=>?_,λs' hs'=>?_⟩
 ·by_cases z:v=c
  ·subst z
   rw[fw]at h;cases h;refine⟨s,hs,hch,hcost,hn,?_,λp q u hpq hp=>?_⟩
   ·rw[ui,uh e]
    exact OP.mpr ⟨h4,by simp,λx hx y hy=>by simp at hy;subst hy;exact λz=>h3 (z▸hx)⟩
   ·by_cases hq:q=[]
    ·subst hq
     rw[OH]at hpq;subst hpq
     have:u=v:=by
      clear low hb hn h5
      have aux:∀{ks:List Nat}{x y z:ν},Ch L x ks y->Ch L x ks z->y=z:=by
       intro ks
       induction ks with
       |nil=>intro x y z h1 h2;cases h1;cases h2;rfl
       |cons k r ih=>
        rintro x y z ⟨c1,m1,e1,r1⟩ ⟨c2,m2,e2,r2⟩
        rw[e1]at e2;cases e2;exact ih r1 r2
      exact aux hp hch
     subst this;exact⟨_,_,fw,by rw[hcost];exact Po _⟩
    ·have hw:∃q',w=p++q':=by
      refine⟨q.dropLast,?_⟩
      have:=congrArg List.dropLast hpq;rw[List.dropLast_concat,List.dropLast_append_of_ne_nil hq]at this;exact this
     obtain⟨q',hw⟩:=hw;obtain⟨d1,w1,e1,l1⟩:=h5 p q' u hw hp;obtain⟨d2,w2,e2,l2⟩:=low u d1 w1 e1;exact⟨d2,w2,e2,by omega⟩
  ·rw[lI z]at h
   obtain⟨s',hs',g1,g2,g3,g4,g5⟩:=K.walk v d' w' h;refine⟨s',hs',g1,g2,g3,g4,λp q u hpq hp=>?_⟩
   obtain⟨d1,w1,e1,l1⟩:=g5 p q u hpq hp;obtain⟨d2,w2,e2,l2⟩:=low u d1 w1 e1;exact⟨d2,w2,e2,by omega⟩
 ·obtain⟨d1,w1,e1,l1⟩:=K.start s' hs'
  obtain⟨d2,w2,e2,l2⟩:=low s' d1 w1 e1;exact⟨d2,w2,e2,by omega⟩
def Bar(L:bX ν)(q:List Nat):Prop:=q≠ []/\(∃a,Ch L a q a)/\fJ L q<0/\(fH L q).Nodup
theorem Ch.Mv{L:bX ν}:∀{ks:List Nat}{a b:ν}(i:Nat),Ch L a ks b->fH L (ks.drop i)=(fH L ks).drop i
 |[],_,_,i,_=>by simp[fH]
 |k::r,a,b,0,_=>rfl
 |k::r,a,b,i+1,h=>by
  have:=h;obtain⟨c,m,e,h'⟩:=this;rw[h.KM,UM,UM,h'.Mv i]
def Kept.round{L:bX ν}{S:List ν}{b:cD ν}(K:Kept L S b){k:Nat}{a c:ν}(e:L[k]?=ZA (a,c,m))(ha:b a=ZA (d,w))(hb:fE b c (d+m)=ZC)(hn:c∈fH L (w++[k])):
  Bar L ((w++[k]).drop ((fH L (w++[k])).idxOf c)):=by
 obtain⟨s,hs,h1,h2,h3,h4,h5⟩:=K.walk a d w ha
 have hch:Ch L s (w++[k]) c:=h1.snoc e
 have hcost:fJ L (w++[k])=d+m:=by rw[mO,h2,fJ,fJ,most,e];simp
 obtain⟨c1,c2,c3⟩:=hch.cut hn
 generalize hi:(fH L (w++[k])).idxOf c=i at c1 c2 c3
 refine⟨λz=>?_,⟨c,c2⟩,?_,?_⟩
 ·have:=congrArg O0 z
  rw[QL]at this
  simp at this c3
  omega
 ·have hsum:fJ L ((w++[k]).take i)+fJ L ((w++[k]).drop i)=d+m:=by rw[<-mO,T5,hcost]
  have hiw:i<=w.length:=by simp at c3;omega
  have ht:(w++[k]).take i=w.take i:=by rw[List.take_append_of_le_length hiw]
  rw[ht]at c1 hsum;obtain⟨d1,w1,e1,l1⟩:=h5 (w.take i) (w.drop i) c (T5 i w).symm c1;unfold fE at hb;rw[e1]at hb
  have:=of_decide_eq_true hb;simp only at this;omega
 ·rw[hch.Mv,ui,uh e]
  refine(List.drop_sublist _ _).nodup (OP.mpr ⟨h4,by simp,λx hx y hy=>?_⟩)
  rw[NR.mp hy];exact λz=>h3 (by have z:x=a:=z;rw[<-z];exact hx)
def size(L:bX ν):Nat:=(L.map λx=>x.2.2.natAbs).sum
theorem k4{f:Nat->Nat}:∀{ks rs:List Nat},ks.Nodup->(∀k∈ks,k∈rs)->(ks.map f).sum<=(rs.map f).sum
 |[],rs,_,_=>by simp
 |k::ks,rs,hn,hs=>by
  have hk:k∈rs:=hs k Nv;rw[Oc]at hn
  have hp:=List.perm_cons_erase hk
  have e:(rs.map f).sum=f k+((rs.erase k).map f).sum:=by
   have:=(hp.map f).sum_nat
   rwa [Nx,Pz]at this
  rw[e,Nx,Pz]
  have:=k4 (f:=f) hn.2 (rs:=rs.erase k) λj hj=>by
   have h1:=hs j (Nu _ hj);exact(Uz (λ(z:j=k)=>hn.1 (z▸hj))).mpr h1
  omega
def yg(L:bX ν):size L=((OU L.length).map λk=>(most L k).natAbs).sum:=by
 unfold size
 congr 1
 apply List.ext_getElem
 ·simp
 ·intro i h1 h2
  simp only[Rj,U2];unfold most;rw[NF (by simpa using h1)]
theorem Ay(L:bX ν):∀(ks:List Nat),(fJ L ks).natAbs<=(ks.map λk=>(most L k).natAbs).sum
 |[] =>by simp[fJ]
 |k::r=>by
  have:=Ay L r;rw[fJ,Nx,Pz];omega
theorem Ch.nodup{L:bX ν}:∀{ks:List Nat}{a b:ν},Ch L a ks b->(fH L ks).Nodup->ks.Nodup
 |[],_,_,_,_=>PX
 |k::r,a,b,h,hn=>by
  have h0:=h;rw[h.KM,Oc]at hn;obtain⟨c,m,e,h⟩:=h;rw[Oc];refine⟨λhk=>hn.1 ?_,h.nodup hn.2⟩
  unfold fH src;exact PL.mpr ⟨k,hk,by rw[e];rfl⟩
def Ch.small{L:bX ν}{a b:ν}(h:Ch L a ks b)(hn:(fH L ks).Nodup):(fJ L ks).natAbs<=size L:=by
 rw[yg];exact Oj (Ay L ks) (k4 (h.nodup hn) λk hk=>Pa.mpr (h.lt k hk))
def val(M:Nat)(b:cD ν)(v:ν):Nat:=match b v with
 |none=>2*M+1
 |some x=>(x.1+M).toNat
def left(M:Nat)(b:cD ν)(L:bX ν):Nat:=(L.map λx=>val M b x.2.1).sum
theorem z9{b b':cD ν}:∀{L:bX ν},(∀x∈L,val M b' x.2.1<=val M b x.2.1)->left M b' L<=left M b L
 |[],_=>by simp[left]
 |x::L,h=>by
  have h1:=h x Nv
  have h2:=z9 (L:=L) λy hy=>h y (Nu _ hy)
  unfold left at h2 ⊢;rw[Nx,Pz,Nx,Pz];omega
theorem z8{b b':cD ν}{x:ν×ν×Int}:∀{L:bX ν},x∈L->(∀x∈L,val M b' x.2.1<=val M b x.2.1)->val M b' x.2.1<val M b x.2.1->left M b' L<left M b L
 |[],hx,_,_=>by simp at hx
 |y::L,hx,h,hl=>by
  have h1:=h y Nv
  have h2:=z9 (L:=L) λy hy=>h y (Nu _ hy)
  unfold left at h2 ⊢;rw[Nx,Pz,Nx,Pz];rcases NG.mp hx with rfl|hx
  ·omega
  ·have h3:=z8 (L:=L) hx (λy hy=>h y (Nu _ hy)) hl
   unfold left at h3;omega
def Dk{L:bX ν}{S:List ν}{b:cD ν}(K:Kept L S b){k:Nat}{a c:ν}(e:L[k]?=ZA (a,c,m))(ha:b a=ZA (d,w))(hb:fE b c (d+m)=ZC)(hn:c∉fH L (w++[k])):
  left (size L) (put b c (d+m,w++[k])) L<left (size L) b L:=by
 have K':=K.put e ha hb hn;obtain⟨s,hs,h1,h2,h3,h4,h5⟩:=K'.walk c (d+m) (w++[k]) fw
 have sm:=h1.small h4;rw[h2]at sm
 have lt:val (size L) (put b c (d+m,w++[k])) c<val (size L) b c:=by
  unfold val fE at*;rw[fw]
  cases z:b c with
  |none=>simp only;omega
  |some y=>
   rw[z]at hb
   have hb:=of_decide_eq_true hb;simp only;omega
 refine z8 (x:=(a,c,m)) (Qn e) (λy _=>?_) lt
 by_cases z:y.2.1=c
 ·rw[z];exact Pe lt
 ·unfold val;rw[lI z];exact NL _
def Eu(b:cD ν)(x:ν×ν×Int):Prop:=∀d w,b x.1=ZA (d,w)->∃d' w',b x.2.1=ZA (d',w')/\d'<=d+x.2.2
def Ca{b:cD ν}{x:ν×ν×Int}(h:∀d w,b x.1=ZA (d,w)->fE b x.2.1 (d+x.2.2)=ZD):Eu b x:=λd w e=>by
 have:=h d w e;unfold fE at this
 cases z:b x.2.1 with
 |none=>rw[z]at this;cases this
 |some y=>
  rw[z]at this
  have:=of_decide_eq_false this;exact⟨y.1,y.2,rfl,by omega⟩
theorem jJ{L:bX ν}{S:List ν}:∀(r:bX ν)(k:Nat)(b:cD ν)(mv:Bool),L.drop k=r->Kept L S b->match jz L k r b mv with
  |.inr q=>Bar L q
  |.inl (b',mv')=>Kept L S b'/\(mv'=ZD->mv=ZD/\b'=b/\∀x∈r,Eu b x)/\left (size L) b' L<=left (size L) b L/\(mv'=ZC->mv=ZC\/left (size L) b' L<left (size L) b L)
 |[],k,b,mv,_,K=>⟨K,λh=>⟨h,rfl,λx hx=>by simp at hx⟩,NL _,λh=>.inl h⟩
 |x::r,k,b,mv,hr,K=>by
  have e:L[k]?=ZA x:=by
   have:=congrArg (·[0]?) hr
   simpa using this
  have hr':L.drop (k+1)=r:=by
   have:=congrArg (List.drop 1) hr
   simpa [List.drop_drop,VD]using this
  rw[jz];obtain⟨a,c,m⟩:=x;unfold iO
  cases z:b a with
  |none=>
   simp only[z]
   have ih:=jJ r (k+1) b mv hr' K
   revert ih
   generalize jz L (k+1) r b mv=R
   cases R with
   |inr q=>exact id
   |inl p=>
    obtain⟨b',mv'⟩:=p
    rintro ⟨i1,i2,i3,i4⟩
    refine⟨i1,λh=>?_,i3,i4⟩
    obtain⟨j1,j2,j3⟩:=i2 h;refine⟨j1,j2,λx hx=>?_⟩
    rcases NG.mp hx with rfl|hx
    ·intro d w q;rw[z]at q;cases q
    ·exact j3 x hx
  |some y=>
   obtain⟨d,w⟩:=y;simp only[z]
   by_cases hb:fE b c (d+m)=ZC
   ·rw[if_pos hb]
    by_cases hn:c∈fH L (w++[k])
    ·rw[if_pos hn]
     exact K.round e z hb hn
    ·rw[if_neg hn]
     have K':=K.put e z hb hn
     have lt:=Dk K e z hb hn
     have ih:=jJ r (k+1) (put b c (d+m,w++[k])) ZC hr' K'
     revert ih
     simp only
     generalize jz L (k+1) r (put b c (d+m,w++[k])) ZC=R
     cases R with
     |inr q=>exact id
     |inl p=>
      obtain⟨b',mv'⟩:=p
      rintro ⟨i1,i2,i3,i4⟩
      refine⟨i1,λh=>?_,by omega,λ_=>.inr (by omega)⟩
      obtain⟨j1,_⟩:=i2 h;cases j1
   ·rw[if_neg hb]
    have ih:=jJ r (k+1) b mv hr' K
    revert ih
    simp only
    generalize jz L (k+1) r b mv=R
    cases R with
    |inr q=>exact id
    |inl p=>
     obtain⟨b',mv'⟩:=p
     rintro ⟨i1,i2,i3,i4⟩
     refine⟨i1,λh=>?_,i3,i4⟩
     obtain⟨j1,j2,j3⟩:=i2 h;refine⟨j1,j2,λx hx=>?_⟩
     rcases NG.mp hx with rfl|hx
     ·refine Ca λd' w' q=>?_
      simp only at q;rw[z]at q;cases q
      simpa using hb
     ·exact j3 x hx
structure Settled (L:bX ν)(S:List ν)(b:cD ν):Prop where
 walk:∀v d w,b v=ZA (d,w)->∃s∈S,Ch L s w v/\fJ L w=d/\v∉fH L w/\(fH L w).Nodup
 least:∀s∈S,∀v t,Wk L s v t->∃d w,b v=ZA (d,w)/\d<=t
def yh{L:bX ν}{S:List ν}{b:cD ν}(K:Kept L S b)(h:∀x∈L,Eu b x):Settled L S b where
 walk:=λv d w e=>by
  obtain⟨s,h1,h2,h3,h4,h5,_⟩:=K.walk v d w e;exact⟨s,h1,h2,h3,h4,h5⟩
 least:=by
  have go:∀{u v:ν}{t:Int},Wk L u v t->∀d w,b u=ZA (d,w)->∃d' w',b v=ZA (d',w')/\d'<=d+t:=by
   intro u v t hw
   induction hw with
   |nil a=>exact λd w e=>⟨d,w,e,by omega⟩
   |step e _ ih=>
    intro d w q;obtain⟨d1,w1,e1,l1⟩:=h _ e d w q;obtain⟨d2,w2,e2,l2⟩:=ih d1 w1 e1;exact⟨d2,w2,e2,by simp only at l1;omega⟩
  intro s hs v t hw;obtain⟨d,w,e,l⟩:=K.start s hs;obtain⟨d2,w2,e2,l2⟩:=go hw d w e;exact⟨d2,w2,e2,by omega⟩
theorem rX{L:bX ν}{S:List ν}:∀(n:Nat)(b:cD ν),Kept L S b->left (size L) b L<n->∃r,settle L n b=ZA r/\match r with
  |.inr q=>Bar L q
  |.inl b'=>Settled L S b'
 |0,b,K,h=>by omega
 |n+1,b,K,h=>by
  have s:=jJ (S:=S) L 0 b ZD rfl K;rw[settle]
  revert s
  generalize jz L 0 L b ZD=R
  cases R with
  |inr q=>exact λs=>⟨_,rfl,s⟩
  |inl p=>
   obtain⟨b',mv'⟩:=p
   rintro ⟨i1,i2,i3,i4⟩
   cases mv' with
   |false=>
    obtain⟨_,j2,j3⟩:=i2 rfl;subst j2
    exact⟨_,rfl,yh i1 j3⟩
   |true=>
    rcases i4 rfl with z|z
    ·cases z
    ·exact rX n b' i1 (by omega)
def start(S:List ν):cD ν:=λv=>if v∈S then ZA (0,[])else ZB
def qk(L:bX ν)(S:List ν):Kept L S (start S) where
 walk:=λv d w e=>by
  unfold start at e
  split at e
  ·rename_i h
   cases e;refine⟨v,h,rfl,rfl,by simp[fH],by simp[fH],λp q u hpq hp=>?_⟩
   obtain⟨rfl,rfl⟩:=List.append_eq_nil_iff.mp hpq.symm;cases hp;exact⟨0,[],by unfold start;rw[if_pos h],by simp[fJ]⟩
  ·cases e
 start:=λs hs=>⟨0,[],by unfold start;rw[if_pos hs],Po _⟩
def Dl(L:bX ν)(S:List ν):left (size L) (start S) L<=L.length*(2*size L+1):=by
 unfold left
 have:∀M:bX ν,(M.map λx=>val (size L) (start S) x.2.1).sum<=M.length*(2*size L+1):=by
  intro M
  induction M with
  |nil=>simp
  |cons x M ih=>
   rw[Nx,Pz,ND,Nat.succ_mul]
   have:val (size L) (start S) x.2.1<=2*size L+1:=by
    unfold val start;split
    ·exact NL _
    ·rename_i h
     split at h
     ·cases h;simp;omega
     ·cases h
   omega
 exact this L
theorem yj(L:bX ν)(S:List ν)(h:L.length*(2*size L+1)<n):∃r,settle L n (start S)=ZA r/\match r with
  |.inr q=>Bar L q
  |.inl b'=>Settled L S b':=rX n (start S) (qk L S) (Qc (Dl L S) h)
def Bar.neg{L:bX ν}{q:List Nat}(h:Bar L q):¬ bZ L:=λn=>by
 obtain⟨_,⟨a,ha⟩,hc,_⟩:=h
 have:=n a _ ha.wk;omega
def Settled.holds{L:bX ν}{S:List ν}{b:cD ν}(h:Settled L S b)(hS:∀x∈L,x.1∈S/\x.2.1∈S){t:ν->Int}(ht:∀v∈S,∃w,b v=ZA (t v,w)):Holds L t:=λa c m hx=>by
 obtain⟨ha,hc⟩:=hS _ hx;obtain⟨w,e⟩:=ht a ha;obtain⟨s,hs,h1,h2,_⟩:=h.walk a _ _ e;obtain⟨d,w',e',l⟩:=h.least s hs c _ (h1.wk.app (.one hx));obtain⟨w2,e2⟩:=ht c hc;rw[e2]at e';cases e';omega
inductive Pth (L:bX ν):ν->List ν->ν->Int->Prop
 |one {a b:ν} {m:Int}:(a,b,m)∈L->Pth L a [] b m
 |cons {a x b:ν} {ms:List ν} {m s:Int}:(a,x,m)∈L->Pth L x ms b s->Pth L a (x::ms) b (m+s)
theorem Pth.cut{L:bX ν}{x:ν}{q:List ν}:∀{p:List ν}{a b:ν}{s:Int},Pth L a (p++x::q) b s->∃s1 s2,Pth L a p x s1/\Pth L x q b s2/\s=s1+s2
 |[],a,b,s,h=>by
  cases h with
  |cons e h=>exact⟨_,_,.one e,h,rfl⟩
 |y::p,a,b,s,h=>by
  cases h with
  |cons e h=>
   obtain⟨s1,s2,h1,h2,h3⟩:=Pth.cut h;exact⟨_,s2,.cons e h1,h2,by omega⟩
def J7(L:bX ν)(u v:ν)(s:Int):Prop:=(u=v/\s=0)\/(u≠v/\∃ms,Pth L u ms v s/\ms.Nodup/\u∉ms/\v∉ms)
def EA(L:bX ν):Prop:=∃x ms s,Pth L x ms x s/\ms.Nodup/\x∉ms/\s<0
def Wk.simple{L:bX ν}{u v:ν}(w:Wk L u v s):EA L\/∃s',s'<=s/\J7 L u v s':=by
 induction w with
 |nil a=>exact .inr ⟨0,Po _,.inl ⟨rfl,rfl⟩⟩
 |@step a b c m s e w ih=>
  rcases ih with ih|⟨s',hs,ih⟩
  ·exact .inl ih
  by_cases hab:a=b
  ·subst hab
   by_cases hm:m<0
   ·exact .inl ⟨a,[],m,.one e,PX,by simp,hm⟩
   ·exact .inr ⟨s',by omega,ih⟩
  rcases ih with⟨rfl,rfl⟩|⟨hbc,ms,hp,hn,hb,hc⟩
  ·exact .inr ⟨m,by omega,.inr ⟨hab,[],.one e,PX,by simp,by simp⟩⟩
  by_cases hac:a=c
  ·subst hac
   by_cases hm:m+s'<0
   ·exact .inl ⟨a,b::ms,m+s',.cons e hp,Oc.mpr ⟨hb,hn⟩,by simp[hab,hc],hm⟩
   ·exact .inr ⟨0,by omega,.inl ⟨rfl,rfl⟩⟩
  by_cases ham:a∈ms
  ·obtain⟨p,q,rfl⟩:=U3 ham
   obtain⟨s1,s2,h1,h2,h3⟩:=hp.cut;rw[OP]at hn;obtain⟨n1,n2,n3⟩:=hn;rw[Oc]at n2
   have hap:a∉p:=λz=>n3 a z a Nv rfl
   by_cases hm:m+s1<0
   ·refine .inl ⟨a,b::p,m+s1,.cons e h1,Oc.mpr ⟨λz=>hb (OZ _ z),n1⟩,by simp[hab,hap],hm⟩
   ·exact .inr ⟨s2,by omega,.inr ⟨hac,q,h2,n2.2,n2.1,λz=>hc (N7 _ (Nu _ z))⟩⟩
  ·refine .inr ⟨m+s',by omega,.inr ⟨hac,b::ms,.cons e hp,Oc.mpr ⟨hb,hn⟩,by simp[hab,ham],?_⟩⟩
   simp only[NG,not_or];exact⟨λz=>hbc z.symm,hc⟩
abbrev dy(ν:Type):=ν->ν->Option Int
def kc(f:dy ν)(a b:ν)(x:Int):dy ν:=λu v=>if u=a/\v=b then ZA x else f u v
def ox(f:dy ν)(a b:ν)(x:Int):dy ν:=match f a b with
 |none=>kc f a b x
 |some y=>if x<y then kc f a b x else f
def mG(mid one other:ν)(f:dy ν):dy ν:=match f one mid,f mid other with
 |some x,ZA y=>ox f one other (x+y)
 |_,_=>f
def vV(P:List ν):dy ν:=λu v=>if u∈P/\u=v then ZA 0 else ZB
def B6(P:List ν)(L:bX ν):dy ν:=L.foldl (λf x=>ox f x.1 x.2.1 x.2.2) (vV P)
def mH(mid one:ν)(P:List ν)(f:dy ν):dy ν:=P.foldl (λf other=>mG mid one other f) f
def qw(mid:ν)(Q P:List ν)(f:dy ν):dy ν:=Q.foldl (λf one=>mH mid one P f) f
def xJ(M P:List ν)(f:dy ν):dy ν:=M.foldl (λf mid=>qw mid P P f) f
def table(P:List ν)(L:bX ν):dy ν:=xJ P P (B6 P L)
def Le(f g:dy ν):Prop:=∀u v x,g u v=ZA x->∃y,f u v=ZA y/\y<=x
def Le.refl(f:dy ν):Le f f:=λu v x h=>⟨x,h,Po _⟩
def Le.trans{f g h:dy ν}(a:Le f g)(b:Le g h):Le f h:=λu v x e=>by
 obtain⟨y,e1,l1⟩:=b u v x e;obtain⟨z,e2,l2⟩:=a u v y e1;exact⟨z,e2,by omega⟩
variable{x:Int}
def nu{f:dy ν}{a b:ν}:kc f a b x a b=ZA x:=by unfold kc;rw[if_pos ⟨rfl,rfl⟩]
def vc(f:dy ν)(a b:ν)(x:Int):Le (ox f a b x) f:=λu v y e=>by
 unfold ox
 cases q:f a b with
 |none=>
  by_cases z:u=a/\v=b
  ·obtain⟨rfl,rfl⟩:=z;rw[q]at e;cases e
  ·exact⟨y,by simp only;unfold kc;rw[if_neg z];exact e,Po _⟩
 |some y0=>
  simp only;split
  ·by_cases z:u=a/\v=b
   ·obtain⟨rfl,rfl⟩:=z;rw[q]at e;cases e
    exact⟨x,nu,by omega⟩
   ·exact⟨y,by unfold kc;rw[if_neg z];exact e,Po _⟩
  ·exact⟨y,e,Po _⟩
def As(f:dy ν)(a b:ν)(x:Int):∃y,ox f a b x a b=ZA y/\y<=x:=by
 unfold ox
 cases q:f a b with
 |none=>exact⟨x,nu,Po _⟩
 |some y0=>
  simp only;split
  ·exact⟨x,nu,Po _⟩
  ·exact⟨y0,q,by omega⟩
def qy{L:bX ν}{f:dy ν}{a b:ν}(h:∀u v y,f u v=ZA y->Wk L u v y)(hx:Wk L a b x):∀u v y,ox f a b x u v=ZA y->Wk L u v y:=λu v y e=>by
 have key:kc f a b x u v=ZA y->Wk L u v y:=λe'=>by
  unfold kc at e'
  by_cases z:u=a/\v=b
  ·rw[if_pos z]at e';injection e' with e';rw[z.1,z.2,<-e'];exact hx
  ·rw[if_neg z]at e';exact h u v y e'
 unfold ox at e
 cases q:f a b with
 |none=>rw[q]at e;exact key e
 |some y0=>
  rw[q]at e;simp only at e
  split at e
  ·exact key e
  ·exact h u v y e
def xG(mid one other:ν)(f:dy ν):Le (mG mid one other f) f:=by
 unfold mG;split
 ·exact vc _ _ _ _
 ·exact Le.refl f
def DM{mid one other:ν}{f:dy ν}(h1:f one mid=ZA x)(h2:f mid other=ZA y):∃z,mG mid one other f one other=ZA z/\z<=x+y:=by
 unfold mG;rw[h1,h2];exact As _ _ _ _
theorem kM(step:dy ν->α->dy ν)(hs:∀f a,Le (step f a) f):∀(l:List α)(f:dy ν),Le (l.foldl step f) f
 |[],f=>Le.refl f
 |a::l,f=>(kM step hs l (step f a)).trans (hs f a)
def qv(mid one:ν)(P:List ν)(f:dy ν):Le (mH mid one P f) f:=kM _ (λf o=>xG mid one o f) P f
def xI(mid:ν)(Q P:List ν)(f:dy ν):Le (qw mid Q P f) f:=kM _ (λf o=>qv mid o P f) Q f
def DQ(M P:List ν)(f:dy ν):Le (xJ M P f) f:=kM _ (λf o=>xI o P P f) M f
theorem oJ(step:dy ν->α->dy ν)(hs:∀f a,Le (step f a) f):∀(l:List α)(f:dy ν)(a:α),a∈l->∃g,Le g f/\Le (l.foldl step f) (step g a)
 |[],f,a,h=>by simp at h
 |b::l,f,a,h=>by
  rcases NG.mp h with rfl|h
  ·exact⟨f,Le.refl f,kM step hs l (step f a)⟩
  ·obtain⟨g,h1,h2⟩:=oJ step hs l (step f b) a h
   exact⟨g,h1.trans (hs f b),h2⟩
def DP{mid u v:ν}{P:List ν}{f:dy ν}(hu:u∈P)(hv:v∈P)(h1:f u mid=ZA x)(h2:f mid v=ZA y):∃z,qw mid P P f u v=ZA z/\z<=x+y:=by
 obtain⟨g,g1,g2⟩:=oJ (λf one=>mH mid one P f) (λf o=>qv mid o P f) P f u hu
 obtain⟨g',g3,g4⟩:=oJ (λf other=>mG mid u other f) (λf o=>xG mid u o f) P g v hv
 have l:Le g' f:=g3.trans g1;obtain⟨x',e1,l1⟩:=l _ _ _ h1;obtain⟨y',e2,l2⟩:=l _ _ _ h2;obtain⟨z,e3,l3⟩:=DM e1 e2;obtain⟨z',e4,l4⟩:=(g2.trans g4) _ _ _ e3;exact⟨z',e4,by omega⟩
def Up(L:bX ν)(M:List ν)(f:dy ν):Prop:=∀u v ms s,Pth L u ms v s->ms.Nodup->(∀x∈ms,x∈M)->∃y,f u v=ZA y/\y<=s
def Pth.ends{L:bX ν}{P:List ν}(hL:∀x∈L,x.1∈P/\x.2.1∈P){u v:ν}{ms:List ν}(h:Pth L u ms v s):u∈P/\v∈P/\∀x∈ms,x∈P:=by
 induction h with
 |one e=>exact⟨(hL _ e).1,(hL _ e).2,by simp⟩
 |cons e _ ih=>exact⟨(hL _ e).1,ih.2.1,λx hx=>by
   rcases NG.mp hx with rfl|hx
   ·exact ih.1
   ·exact ih.2.2 x hx⟩
def Up.mid{L:bX ν}{P M:List ν}{f:dy ν}(hL:∀x∈L,x.1∈P/\x.2.1∈P)(h:Up L M f)(k:ν):Up L (k::M) (qw k P P f):=λu v ms s hp hn hm=>by
 by_cases hk:k∈ms
 ·obtain⟨p,q,rfl⟩:=U3 hk
  obtain⟨s1,s2,h1,h2,h3⟩:=hp.cut;rw[OP]at hn;obtain⟨n1,n2,n3⟩:=hn;rw[Oc]at n2
  have hp':∀x∈p,x∈M:=λx hx=>by
   rcases NG.mp (hm x (OZ _ hx))with rfl|z
   ·exact absurd rfl (n3 x hx x Nv)
   ·exact z
  have hq':∀x∈q,x∈M:=λx hx=>by
   rcases NG.mp (hm x (N7 _ (Nu _ hx)))with rfl|z
   ·exact absurd hx n2.1
   ·exact z
  obtain⟨y1,e1,l1⟩:=h u k p s1 h1 n1 hp';obtain⟨y2,e2,l2⟩:=h k v q s2 h2 n2.2 hq';obtain⟨z,e3,l3⟩:=DP (P:=P) (h1.ends hL).1 (h2.ends hL).2.1 e1 e2;exact⟨z,e3,by omega⟩
 ·obtain⟨y,e,l⟩:=h u v ms s hp hn λx hx=>by
   rcases NG.mp (hm x hx)with rfl|z
   ·exact absurd hx hk
   ·exact z
  obtain⟨z,e2,l2⟩:=xI k P P f u v y e;exact⟨z,e2,by omega⟩
theorem Up.M4{L:bX ν}{P:List ν}(hL:∀x∈L,x.1∈P/\x.2.1∈P):∀(Q M:List ν)(f:dy ν),Up L M f->∃M',(∀x,x∈Q\/x∈M->x∈M')/\Up L M' (xJ Q P f)
 |[],M,f,h=>⟨M,λx hx=>hx.elim (λz=>by simp at z) id,h⟩
 |k::Q,M,f,h=>by
  obtain⟨M',h1,h2⟩:=Up.M4 hL Q (k::M) (qw k P P f) (h.mid hL k);refine⟨M',λx hx=>h1 x ?_,h2⟩
  rcases hx with hx|hx
  ·rcases NG.mp hx with rfl|hx
   ·exact .inr Nv
   ·exact .inl hx
  ·exact .inr (Nu _ hx)
def EZ{P:List ν}{L:bX ν}:Up L [] (B6 P L):=λu v ms s hp hn hm=>by
 have:ms=[]:=by
  cases ms with
  |nil=>rfl
  |cons x r=>exact absurd (hm x Nv) (by simp)
 subst this
 cases hp with
 |one e=>
  obtain⟨g,h1,h2⟩:=oJ (λ(f:dy ν)(x:ν×ν×Int)=>ox f x.1 x.2.1 x.2.2) (λf x=>vc f _ _ _) L (vV P) _ e
  obtain⟨y,e1,l1⟩:=As g u v s;obtain⟨z,e2,l2⟩:=h2 u v y e1;exact⟨z,e2,by omega⟩
theorem gS{L:bX ν}(step:dy ν->α->dy ν):∀(l:List α)(f:dy ν),(∀f,∀a∈l,(∀u v y,f u v=ZA y->Wk L u v y)->∀u v y,step f a u v=ZA y->Wk L u v y)->(∀u v y,f u v=ZA y->Wk L u v y)->∀u v y,l.foldl step f u v=ZA y->Wk L u v y
 |[],f,_,h=>h
 |a::l,f,hs,h=>gS step l (step f a) (λf b hb=>hs f b (Nu _ hb)) (hs f a Nv h)
def nK(P:List ν)(L:bX ν):∀u v y,table P L u v=ZA y->Wk L u v y:=by
 unfold table xJ;refine gS _ P _ (λf m _ h=>?_) ?_
 ·unfold qw
  refine gS _ P _ (λf o _ h=>?_) h
  unfold mH;refine gS _ P _ (λf v _ h=>?_) h
  unfold mG
  cases e1:f o m with
  |none=>exact h
  |some x=>
   cases e2:f m v with
   |none=>exact h
   |some y=>exact qy h ((h _ _ _ e1).app (h _ _ _ e2))
 ·unfold B6
  refine gS _ L _ (λf x hx h=>qy h (.one hx)) λu v y e=>?_
  unfold vV at e
  split at e
  ·rename_i z;obtain⟨_,rfl⟩:=z;cases e;exact .nil u
  ·cases e
def vU{P:List ν}{L:bX ν}(hL:∀x∈L,x.1∈P/\x.2.1∈P):∀u v ms s,Pth L u ms v s->ms.Nodup->∃y,table P L u v=ZA y/\y<=s:=λu v ms s hp hn=>by
 obtain⟨M',h1,h2⟩:=Up.M4 hL P [] (B6 P L) EZ;exact h2 u v ms s hp hn λx hx=>h1 x (.inl ((hp.ends hL).2.2 x hx))
def oS{P:List ν}{L:bX ν}{u:ν}(hu:u∈P):∃y,table P L u u=ZA y/\y<=0:=by
 have h0:vV P u u=ZA 0:=by unfold vV;rw[if_pos ⟨hu,rfl⟩]
 have h1:Le (table P L) (vV P):=(DQ P P _).trans (kM _ (λf x=>vc f _ _ _) L _)
 exact h1 u u 0 h0
structure cY (L:bX ν)(P:List ν)(f:dy ν):Prop where
 is:∀u v d,f u v=ZA d->Wk L u v d
 le:∀u∈P,∀v t,Wk L u v t->∃d,f u v=ZA d/\d<=t
def rQ{P:List ν}{L:bX ν}{u:ν}(h:table P L u u=ZA y)(hy:y<0):¬ bZ L:=λn=>by
 have:=n u y (nK P L u u y h);omega
def nL{P:List ν}{L:bX ν}(hL:∀x∈L,x.1∈P/\x.2.1∈P)(h:∀u∈P,∀y,table P L u u=ZA y->0<=y):bZ L/\cY L P (table P L):=by
 have nc:¬ EA L:=λ⟨x,ms,s,hp,hn,_,hs⟩=>by
  obtain⟨y,e,l⟩:=vU hL x x ms s hp hn
  have:=h x (hp.ends hL).1 y e;omega
 have le:∀u∈P,∀v t,Wk L u v t->∃d,table P L u v=ZA d/\d<=t:=λu hu v t w=>by
  rcases w.simple with z|⟨s',hs,z⟩
  ·exact absurd z nc
  ·rcases z with⟨rfl,rfl⟩|⟨_,ms,hp,hn,_⟩
   ·obtain⟨y,e,l⟩:=oS (L:=L) hu
    exact⟨y,e,by omega⟩
   ·obtain⟨y,e,l⟩:=vU hL u v ms s' hp hn
    exact⟨y,e,by omega⟩
 refine⟨λa s w=>?_,λu v d e=>nK P L u v d e,le⟩
 by_cases ha:a∈P
 ·obtain⟨d,e,l⟩:=le a ha a s w
  have:=h a ha d e;omega
 ·cases w with
  |nil=>exact Po _
  |step e _=>exact absurd (hL _ e).1 ha
end Gr
variable{j:Int}
namespace G
open PySem Tr
def isI:T->Bool
 |.int _=>ZC
 |_=>ZD
def GD(t:T)(h:t.pl=ZC):jc [t]=.ok (.bl (isI t)):=by
 cases t <;> first|rfl| (simp[T.pl]at h;done)
def bA(t:T)(a b:Int):Bool:=match t with
 |.int i=>decide (a<=i)&&decide (i<=b)
 |_=>ZD
def gV(t:T)(a b:Int)(h:t.pl=ZC):bp [t,.int a,.int b]=.ok (.bl (bA t a b)):=by
 have w:=GD t h
 cases t with
 |int i=>
  simp[bp,val,bU,kn,aU,aL,cL,vr,ch,cl,af,ai,vp,bA,w,isI]
  cases decide (a<=i) <;> rfl
 |scr _=>simp[T.pl]at h
 |dct _ _=>simp[T.pl]at h
 |ob _ _ _=>simp[T.pl]at h
 |_=>simp[bp,val,bU,kn,aU,aL,cL,vr,ch,cl,af,ai,bA,w,isI]
def fB(t:T)(a b:Nat):Bool:=match t with
 |.tup l=>decide (a<=l.length)&&decide (l.length<=b)
 |_=>ZD
def lR(t:T)(a b:Nat)(h:t.pl=ZC):aV [t,.int a,.int b]=.ok (.bl (fB t a b)):=by
 cases t with
 |tup l=>
  simp[aV,val,bU,tE,aU,aL,cL,o1,vr,Gv,T.ty,An,ch,cl,af,ai,dh,T.items,vp,fB]
  cases decide (a<=l.length) <;> rfl
 |scr _=>simp[T.pl]at h
 |dct _ _=>simp[T.pl]at h
 |ob _ _ _=>simp[T.pl]at h
 |_=>rfl
def pE(x y:T):Bool:=bA x 1 9&&(match x with
 |.int i=>bA y i 9
 |_=>ZD)
def JT(x y:T)(hx:x.pl=ZC)(hy:y.pl=ZC):gE [x,y]=.ok (.bl (pE x y)):=by
 have w:=gV x 1 9 hx;unfold pE
 cases q:bA x 1 9 with
 |false=>rw[q]at w;simp[gE,val,bU,nI,aU,aL,cL,vr,cn,cl,af,ai,w]
 |true=>
  rw[q]at w
  cases x with
  |int i=>simp[gE,val,bU,nI,aU,aL,cL,vr,cn,cl,af,ai,w,gV y i 9 hy]
  |_=>cases q
def oB:List Int->Bool
 |a::b::r=>decide (a<b)&&oB (b::r)
 |_=>ZC
def Fm(a b:Int)(r:List Int):oB (a::b::r)=(decide (a<b)&&oB (b::r)):=rfl
variable{Z:En}{l:List T}{p:T->Bool}
def vB{fe:W5}{fi:W3}{src:List (Option Nat)}(hi:fi Z=.ok l)(hs:l.length<=ZI)(hn:0<src.length)(hf:∀t∈l,fe ((bV src Z).set 0 (.va t))=.ok (.bl (p t))):
  cl rM (af (ee fi src (gN 0) bT fe) ai) Z=.ok (.bl (l.all p)):=by
 have e:=yS (fe:=fe) (h:=λt=>T.bl (p t)) l (bV src Z) (by unfold bV;rw[Ny];exact hn) hf
 simp only[cl,af,ai,ee,hi,aF,if_pos hs,e,all_map]
def nj(l:List T):T->Bool
 |.int k=>match L2.atI l k,L2.atI l (k+1)with
  |some (.int a),ZA (.int b)=>decide (a<b)
  |_,_=>ZD
 |_=>ZD
def kB{t:T}(h:t∈rng 0 j):∃k:Nat,t=.int k/\(k:Int)<j:=by
 unfold rng at h;obtain⟨k,hk,e⟩:=NS.mp h;rw[Pa]at hk;exact⟨k,by rw[<-e];simp,by omega⟩
theorem Ia:(l:List Int)->l.length<=4->(rng 0 ((l.length:Int) - 1)).all (nj (l.map .int))=oB l
 |[],_=>rfl
 |[a],_=>rfl
 |[a,b],_=>by simp[rng,T6,nj,L2.atI,L2.ixN,oB]
 |[a,b,c],_=>by simp[rng,T6,nj,L2.atI,L2.ixN,oB]
 |[a,b,c,d],_=>by simp[rng,T6,nj,L2.atI,L2.ixN,oB,Bool.and_assoc]
 |a::b::c::d::e::r,h=>absurd h (by simp only[ND];omega)
def GG(l:List Int)(h:l.length<=4):kI [.tup (l.map .int)]=.ok (.bl (oB l)):=by
 have hr:iR (af (o2 cR (cl dh (af (vr 0) ai)) (cn (.int 1))) ai) [.va (.tup (l.map .int))]=.ok (rng 0 ((l.length:Int) - 1)):=by
  have:vJ ((l.length:Int) - 1)=ZC:=by unfold vJ;rw[NC];exact⟨decide_eq_true (by omega),decide_eq_true (by omega)⟩
  simp[iR,af,ai,o2,cl,vr,cn,dh,T.items,cR,this]
 have hs:(rng 0 ((l.length:Int) - 1)).length<=ZI:=by
  unfold rng ZI;rw[Ny,Pt];omega
 have e:=vB (fe:=o2 qP (o2 aX (vr 1) (vr 0)) (o2 aX (vr 1) (o2 aS (vr 0) (cn (.int 1))))) (p:=nj (l.map .int)) (src:=[ZB,ZA 0]) hr hs (by decide) (λt ht=>by
  obtain⟨k,rfl,hk⟩:=kB ht
  have h1:(l.map T.int)[k]?=ZA (.int (l[k]'(by omega))):=by simp
  have h2:(l.map T.int)[k+1]?=ZA (.int (l[k+1]'(by omega))):=by rw[NU,NF (by omega)];rfl
  have g1:=lT h1
  have g2:L2.atI (l.map T.int) ((k:Int)+1)=ZA (.int (l[k+1]'(by omega))):=lT h2
  simp[o2,vr,bV,cn,aS,aX,T.items,g1,g2,vp,nj])
 rw[Ia l h]at e;simp only[kI,val,PF,if_true,AJ,bU,aL,aU]
 show(do let f <-(do let t <-cl rM _ [.va (.tup (l.map .int))];Rs.ok (Fl.rt t));_)=_
 rw[e]
 rfl
def nums:List T->Option (List Int)
 |[] =>ZA []
 |.int i::l=>match nums l with
  |some m=>ZA (i::m)
  |none=>ZB
 |_::_=>ZB
def dq(t:T):Bool:=fB t 1 4&&(match t with
 |.tup l=>l.all (λu=>bA u 0 99)&&(match nums l with|some m=>oB m|none=>ZD)
 |_=>ZD)
theorem pT:∀{l:List T}{m:List Int},nums l=ZA m->l=m.map .int
 |[],m,h=>by cases h;rfl
 |t::l,m,h=>by
  cases t with
  |int i=>
   unfold nums at h
   cases q:nums l with
   |none=>rw[q]at h;cases h
   |some m'=>rw[q]at h;cases h;rw[Nx,<-pT q]
  |_=>cases h
theorem uA:∀{l:List T}{a b:Int},(l.all λu=>bA u a b)=ZC->∃m,nums l=ZA m
 |[],_,_,_=>⟨[],rfl⟩
 |t::l,a,b,h=>by
  rw[UY,NC]at h
  cases t with
  |int i=>
   obtain⟨m,e⟩:=uA h.2
   exact⟨i::m,by unfold nums;rw[e]⟩
  |_=>exact absurd h.1 (by simp[bA])
def dZ{t:T}{b:Nat}(h:fB t a b=ZC):∃l,t=.tup l/\a<=l.length/\l.length<=b:=by
 cases t with
 |tup l=>unfold fB at h;rw[NC]at h;exact⟨l,rfl,of_decide_eq_true h.1,of_decide_eq_true h.2⟩
 |_=>cases h
def small{k:Nat}(h:n<=k)(hk:autoParam (k<=1000) s_):n<=ZI:=by unfold ZI;omega
def za(t:T)(h:t.pl=ZC):cj [t]=.ok (.bl (dq t)):=by
 have w:aV [t,.int 1,.int 4]=.ok (.bl (fB t 1 4)):=lR t 1 4 h;unfold dq
 cases q:fB t 1 4 with
 |false=>rw[q]at w;simp[cj,val,bU,fG,aU,aw,dQ,dg,tb,sN,aL,cl,vr,cn,af,ai,w]
 |true=>
  rw[q]at w;obtain⟨l,rfl,h1,h2⟩:=dZ q
  have hp:∀u∈l,u.pl=ZC:=λu hu=>i8 (by unfold T.pl at h;exact h) hu
  have e:=vB (fe:=cl bp (af (vr 0) (af (cn (.int 0)) (af (cn (.int 99)) ai)))) (p:=λu=>bA u 0 99) (src:=[ZB]) (fi:=iS (vr 0)) (Z:=[.va (.tup l)]) rfl (small h2) (by decide) (λu hu=>by
   simp[cl,af,ai,vr,cn,bV,gV u 0 99 (hp u hu)])
  have w':cl aV (af (vr 0) (af (cn (.int 1)) (af (cn (.int 4)) ai))) [.va (.tup l)]=.ok (.bl ZC):=w
  show cj _=.ok (.bl (ZC&&(l.all (λu=>bA u 0 99)&&(match nums l with|some m=>oB m|none=>ZD))))
  cases qa:l.all λu=>bA u 0 99 with
  |false=>
   rw[qa]at e
   simp[cj,val,bU,fG,aU,aw,dQ,dg,tb,sN,aL,cL,e,w']
  |true=>
   rw[qa]at e;obtain⟨m,em⟩:=uA qa
   have el:=pT em
   have er:=GG m (by rw[el,Ny]at h2;exact h2)
   rw[<-el]at er
   have er':cl kI (af (vr 0) ai) [.va (.tup l)]=.ok (.bl (oB m)):=er;simp[cj,val,bU,fG,aU,aw,dQ,dg,tb,sN,aL,cL,e,w',er',em]
def at_(t:T)(k:Nat):T:=match t.items with
 |some l=>l.getD k .non
 |none=>.non
def bR(t:T):Bool:=fB t 3 3&&(match t with
 |.tup [x,y,r] =>pE x y&&dq r
 |_=>ZD)
def GJ(t:T)(h:t.pl=ZC):dX [t]=.ok (.bl (bR t)):=by
 have w:aV [t,.int 3,.int 3]=.ok (.bl (fB t 3 3)):=lR t 3 3 h;unfold bR
 cases q:fB t 3 3 with
 |false=>rw[q]at w;simp[dX,val,bU,jr,aU,aL,cL,cl,vr,cn,af,ai,w]
 |true=>
  rw[q]at w;obtain⟨l,rfl,h1,h2⟩:=dZ q
  match l,h1,h2 with
  |[x,y,r],_,_=>
   simp[T.pl,plS]at h;obtain⟨px,py,pr⟩:=h
   have g0:aX (.tup [x,y,r]) (.int 0)=.ok x:=rfl
   have g1:aX (.tup [x,y,r]) (.int 1)=.ok y:=rfl
   have g2:aX (.tup [x,y,r]) (.int 2)=.ok r:=rfl
   have ep:=JT x y px py
   have er:=za r pr
   cases qp:pE x y with
   |false=>rw[qp]at ep;simp[dX,val,bU,jr,aU,aL,cL,cl,vr,cn,af,ai,o2,w,g0,g1,ep,qp]
   |true=>rw[qp]at ep;simp[dX,val,bU,jr,aU,aL,cL,cl,vr,cn,af,ai,o2,w,g0,g1,g2,ep,er,qp]
def bw(t:T):Bool:=fB t 1 4&&(match t with
 |.tup l=>l.all bR
 |_=>ZD)
def D9(t:T)(h:t.pl=ZC):d9 [t]=.ok (.bl (bw t)):=by
 have w:aV [t,.int 1,.int 4]=.ok (.bl (fB t 1 4)):=lR t 1 4 h;unfold bw
 cases q:fB t 1 4 with
 |false=>rw[q]at w;simp[d9,val,bU,ju,aU,aL,cL,cl,vr,cn,af,ai,w]
 |true=>
  rw[q]at w;obtain⟨l,rfl,h1,h2⟩:=dZ q
  have hp:∀u∈l,u.pl=ZC:=λu hu=>i8 (by unfold T.pl at h;exact h) hu
  have e:=vB (fe:=cl dX (af (vr 0) ai)) (p:=bR) (src:=[ZB]) (fi:=iS (vr 0)) (Z:=[.va (.tup l)]) rfl (small h2) (by decide) (λu hu=>by
   simp[cl,af,ai,vr,cn,bV,GJ u (hp u hu)])
  have w':cl aV (af (vr 0) (af (cn (.int 1)) (af (cn (.int 4)) ai))) [.va (.tup l)]=.ok (.bl ZC):=w;simp[d9,val,bU,ju,aU,aL,cL,e,w']
def fW(x y:T):Bool:=bA x 0 999&&(match x,y with
 |_,.non=>ZC
 |.int i,_=>bA y i 999
 |_,_=>ZD)
def GI(x y:T)(hx:x.pl=ZC)(hy:y.pl=ZC):eU [x,y]=.ok (.bl (fW x y)):=by
 have w:=gV x 0 999 hx;unfold fW
 cases q:bA x 0 999 with
 |false=>rw[q]at w;simp[eU,val,bU,jq,aU,aL,cL,vr,cn,cl,af,ai,w]
 |true=>
  rw[q]at w
  cases x with
  |int i=>
   have e:=gV y i 999 hy
   cases y with
   |non=>simp[eU,val,bU,jq,aU,aL,cL,BJ,vr,cn,cl,af,ai,o2,gp,T.isN,w]
   |_=>simp[eU,val,bU,jq,aU,aL,cL,BJ,vr,cn,cl,af,ai,o2,gp,T.isN,w,e]
  |_=>cases q
def reads(cs:List T)(c:Int):Nat:=if 0<=c then(match cs[c.toNat]? with
 |some (.tup [_,_,.tup r])=>r.length
 |_=>0)else 0
def br(cs:List T)(t:T):Bool:=match t with
 |.tup [.int c,.int k] =>decide (0<=c)&&decide (c<cs.length)&&(decide (0<=k)&&decide (k<reads cs c))
 |_=>ZD
def nZ{t:T}(h:bR t=ZC):∃x y r,t=.tup [x,y,.tup r]:=by
 unfold bR at h;rw[NC]at h;obtain⟨h1,h2⟩:=h;obtain⟨l,rfl,h3,h4⟩:=dZ h1
 match l,h3,h4,h2 with
 |[x,y,r],_,_,h2=>
  simp only[NC]at h2;obtain⟨_,h5⟩:=h2;unfold dq at h5;rw[NC]at h5;obtain⟨m,rfl,_⟩:=dZ h5.1;exact⟨x,y,m,rfl⟩
def dR{t:T}{a:Int}(h:bA t a b=ZC):∃i,t=.int i/\a<=i/\i<=b:=by
 cases t with
 |int i=>unfold bA at h;rw[NC]at h;exact⟨i,rfl,of_decide_eq_true h.1,of_decide_eq_true h.2⟩
 |_=>cases h
def vg(cs:List T)(t:T)(hc:bw (.tup cs)=ZC)(h:t.pl=ZC):da [.tup cs,t]=.ok (.bl (br cs t)):=by
 have w:aV [t,.int 2,.int 2]=.ok (.bl (fB t 2 2)):=lR t 2 2 h
 cases q:fB t 2 2 with
 |false=>
  rw[q]at w
  have:br cs t=ZD:=by
   unfold br;split
   ·cases q
   ·rfl
  simp[da,val,bU,jo,aU,aw,dQ,lW,dg,tb,sN,aL,cl,vr,cn,af,ai,w,this]
 |true=>
  rw[q]at w;obtain⟨l,rfl,h1,h2⟩:=dZ q
  match l,h1,h2 with
  |[x,y],_,_=>
   simp[T.pl,plS]at h;obtain⟨px,py⟩:=h
   have g0:aX (.tup [x,y]) (.int 0)=.ok x:=rfl
   have g1:aX (.tup [x,y]) (.int 1)=.ok y:=rfl
   have gl:dh [.tup cs]=.ok (.int cs.length):=rfl
   have e1:=gV x 0 ((cs.length:Int) - 1) px
   cases q1:bA x 0 ((cs.length:Int) - 1)with
   |false=>
    rw[q1]at e1
    have:br cs (.tup [x,y])=ZD:=by
     cases x with
     |int c=>
      cases y with
      |int k=>
       simp only[bA,T7,decide_eq_false_iff_not]at q1;simp only[br,T7,decide_eq_false_iff_not]
       omega
      |_=>rfl
     |_=>rfl
    simp[da,val,bU,jo,aU,aw,dQ,lW,dg,tb,sN,aL,cl,vr,cn,af,ai,o2,cR,w,g0,gl,e1,this]
   |true=>
    rw[q1]at e1;obtain⟨c,rfl,c1,c2⟩:=dR q1;obtain⟨n,rfl⟩:=OI c1
    have hn:n<cs.length:=by omega
    have hcl:bR cs[n]=ZC:=by
     unfold bw at hc;rw[NC]at hc;exact N9.mp hc.2 _ (OG hn)
    obtain⟨a,b,r,er⟩:=nZ hcl
    have g2:aX (.tup cs) (.int (n:Int))=.ok (.tup [a,b,.tup r]):=by
     simp only[aX,T.items];rw[lT (NF hn),er]
    have g3:aX (.tup [a,b,.tup r]) (.int 2)=.ok (.tup r):=rfl
    have gr:dh [.tup r]=.ok (.int r.length):=rfl
    have e2:=gV y 0 ((r.length:Int) - 1) py
    have:br cs (.tup [.int n,y])=bA y 0 ((r.length:Int) - 1):=by
     have er2:reads cs (n:Int)=r.length:=by
      unfold reads;rw[if_pos c1,ON,NF hn,er]
     cases y with
     |int k=>
      simp only[br,bA,er2];rw[decide_eq_true c1,decide_eq_true (show(n:Int)<cs.length by omega)]
      simp only[RH]
      congr 1
      exact decide_eq_decide.mpr (by omega)
     |_=>rfl
    simp[da,val,bU,jo,aU,aw,dQ,lW,dg,tb,sN,aL,cl,vr,cn,af,ai,o2,cR,w,g0,g1,g2,g3,gl,gr,e1,e2,this]
def bJ(cs:List T)(t:T):Bool:=match t with
 |.tup [a,b,x,y] =>fW x y&&(br cs a&&(br cs b&& !bh a b))
 |_=>ZD
variable{cs:List T}
def gd{t:T}(h:br cs t=ZC):∃c k:Int,t=.tup [.int c,.int k]:=by
 unfold br at h
 split at h
 ·exact⟨_,_,rfl⟩
 ·cases h
def D1(cs:List T)(t:T)(hc:bw (.tup cs)=ZC)(h:t.pl=ZC):cA [.tup cs,t]=.ok (.bl (bJ cs t)):=by
 have w:aV [t,.int 4,.int 4]=.ok (.bl (fB t 4 4)):=lR t 4 4 h
 cases q:fB t 4 4 with
 |false=>
  rw[q]at w
  have:bJ cs t=ZD:=by
   unfold bJ;split
   ·cases q
   ·rfl
  simp[cA,val,bU,fg,aU,aw,dQ,lW,dg,tb,sN,aL,cl,vr,cn,af,ai,w,this]
 |true=>
  rw[q]at w;obtain⟨l,rfl,h1,h2⟩:=dZ q
  match l,h1,h2 with
  |[a,b,x,y],_,_=>
   simp[T.pl,plS]at h;obtain⟨pa,pb,px,py⟩:=h
   have g0:aX (.tup [a,b,x,y]) (.int 0)=.ok a:=rfl
   have g1:aX (.tup [a,b,x,y]) (.int 1)=.ok b:=rfl
   have g2:aX (.tup [a,b,x,y]) (.int 2)=.ok x:=rfl
   have g3:aX (.tup [a,b,x,y]) (.int 3)=.ok y:=rfl
   have e1:=GI x y px py
   have e2:=vg cs a hc pa
   have e3:=vg cs b hc pb
   show _=Rs.ok (T.bl (fW x y&&(br cs a&&(br cs b&& !bh a b))))
   cases q1:fW x y with
   |false=>
    rw[q1]at e1
    simp[cA,val,bU,fg,aU,aw,dQ,lW,dg,tb,sN,aL,cl,vr,cn,af,ai,o2,w,g2,g3,e1]
   |true=>
    rw[q1]at e1
    cases q2:br cs a with
    |false=>
     rw[q2]at e2
     simp[cA,val,bU,fg,aU,aw,dQ,lW,dg,tb,sN,aL,cL,cl,vr,cn,af,ai,o2,w,g0,g2,g3,e1,e2]
    |true=>
     rw[q2]at e2
     cases q3:br cs b with
     |false=>
      rw[q3]at e3
      simp[cA,val,bU,fg,aU,aw,dQ,lW,dg,tb,sN,aL,cL,cl,vr,cn,af,ai,o2,w,g0,g1,g2,g3,e1,e2,e3]
     |true=>
      rw[q3]at e3;obtain⟨c,k,rfl⟩:=gd q2
      have f:gU (.tup [.int c,.int k]) b=ZC:=iW (by simp[T.dep,deps]) rfl (T.Ml _ pb)
      have g4:iG (.tup [.int c,.int k]) b=.ok (.bl (!bh (.tup [.int c,.int k]) b)):=by unfold iG;rw[if_pos f]
      simp[cA,val,bU,fg,aU,aw,dQ,lW,dg,tb,sN,aL,cL,cl,vr,cn,af,ai,o2,w,g0,g1,g2,g3,g4,e1,e2,e3]
def kK(cs:List T)(t:T):Bool:=fB t 0 8&&(match t with
 |.tup l=>l.all (bJ cs)
 |_=>ZD)
def Br(cs:List T)(t:T)(hc:bw (.tup cs)=ZC)(h:t.pl=ZC):dH [.tup cs,t]=.ok (.bl (kK cs t)):=by
 have w:aV [t,.int 0,.int 8]=.ok (.bl (fB t 0 8)):=lR t 0 8 h;unfold kK
 cases q:fB t 0 8 with
 |false=>rw[q]at w;simp[dH,val,bU,iB,aU,aL,cL,cl,vr,cn,af,ai,w]
 |true=>
  rw[q]at w;obtain⟨l,rfl,h1,h2⟩:=dZ q
  have hp:∀u∈l,u.pl=ZC:=λu hu=>i8 (by unfold T.pl at h;exact h) hu
  have e:=vB (fe:=cl cA (af (vr 1) (af (vr 0) ai))) (p:=bJ cs) (src:=[ZB,ZA 0]) (fi:=iS (vr 1)) (Z:=[.va (.tup cs),.va (.tup l)]) rfl (small h2) (by decide) (λu hu=>by
   simp[cl,af,ai,vr,cn,bV,D1 cs u hc (hp u hu)])
  have w':cl aV (af (vr 1) (af (cn (.int 0)) (af (cn (.int 8)) ai))) [.va (.tup cs),.va (.tup l)]=.ok (.bl ZC):=w;simp[dH,val,bU,iB,aU,aL,cL,e,w']
def fM(t:T):Bool:=match t with
 |.tup [.tup cs,ls] =>bw (.tup cs)&&kK cs ls
 |_=>ZD
def xP(t:T)(h:t.pl=ZC):dW [t]=.ok (.bl (fM t)):=by
 have w:aV [t,.int 2,.int 2]=.ok (.bl (fB t 2 2)):=lR t 2 2 h
 cases q:fB t 2 2 with
 |false=>
  rw[q]at w
  have:fM t=ZD:=by
   unfold fM;split
   ·cases q
   ·rfl
  simp[dW,val,bU,ig,aU,aL,cL,cl,vr,cn,af,ai,w,this]
 |true=>
  rw[q]at w;obtain⟨l,rfl,h1,h2⟩:=dZ q
  match l,h1,h2 with
  |[x,y],_,_=>
   simp[T.pl,plS]at h;obtain⟨px,py⟩:=h
   have g0:aX (.tup [x,y]) (.int 0)=.ok x:=rfl
   have g1:aX (.tup [x,y]) (.int 1)=.ok y:=rfl
   have e1:=D9 x px
   cases q1:bw x with
   |false=>
    rw[q1]at e1
    have:fM (.tup [x,y])=ZD:=by
     cases x with
     |tup cs=>show(bw (.tup cs)&&_)=ZD;rw[q1];rfl
     |_=>rfl
    simp[dW,val,bU,ig,aU,aL,cL,cl,vr,cn,af,ai,o2,w,g0,e1,this]
   |true=>
    rw[q1]at e1
    cases x with
    |tup cs=>
     have e2:=Br cs y q1 py
     have:fM (.tup [.tup cs,y])=kK cs y:=by show(bw (.tup cs)&&_)=_;rw[q1];rfl
     simp[dW,val,bU,ig,aU,aL,cL,cl,vr,cn,af,ai,o2,w,g0,g1,e1,e2,this]
    |_=>cases q1
theorem gF:∀m:List Int,deps (m.map .int)=0
 |[] =>rfl
 |a::m=>by rw[Nx,deps,gF m];rfl
def mJ(i n:Nat):List T:=(rng 0 n).map λt=>T.tup [.int i,t]
def Ie:T->Nat
 |.tup [_,_,.tup r] =>r.length
 |_=>0
def fI:Nat->List T->List T
 |_,[] =>[]
 |i,c::r=>mJ i (Ie c)++fI (i+1) r
def gf{t:T}(h:bR t=ZC):∃x y r,t=.tup [x,y,.tup r]/\1<=r.length/\r.length<=4:=by
 obtain⟨x,y,r,rfl⟩:=nZ h
 have:dq (.tup r)=ZC:=by
  have h':(pE x y&&dq (.tup r))=ZC:=h;rw[NC]at h';exact h'.2
 unfold dq at this;rw[NC]at this;obtain⟨l,e,h1,h2⟩:=dZ this.1;cases e;exact⟨x,y,r,rfl,h1,h2⟩
def iX(i n:Nat):(mJ i n).length=n:=by unfold mJ;rw[Ny,kC]
abbrev evG:T->En->Rs En:=gT 2 (du (gN 2) (du (gN 3) jh))
def JM{f:W3}(h:f Z=.ok [.int j])(h0:0<=j)(h1:j<=100000):iR f Z=.ok (rng 0 j):=by
 have e:vJ j=ZC:=by unfold vJ;rw[NC];exact⟨decide_eq_true (by omega),decide_eq_true (by omega)⟩
 unfold iR;rw[h]
 show(if vJ j=ZC then _ else _)=_
 rw[e];rfl
def vC(l m:List T)(h:(l++m).length<=1000):aS (.lst l) (.lst m)=.ok (.lst (l++m)):=by
 show lA (l++m)=_
 unfold lA;rw[if_pos (aB h)]
def AF(l m:List T)(h:(l++m).length<=1000):aS (.tup l) (.tup m)=.ok (.tup (l++m)):=by
 show lz (l++m)=_
 unfold lz;rw[if_pos (aB h)]
def LI(c0 acc x y:T)(r:List T)(i:Nat)(h:r.length<=4):
  ee (iR (af (cl dh (af (o2 aX (vr 3) (cn (.int 2))) ai)) ai)) [ZB,ZA 2] (gN 0) bT (bx (af (vr 1) (af (vr 0) ai))) [.va c0,.va acc,.va (.int i),.va (.tup [x,y,.tup r])]=.ok (.lst (mJ i r.length)):=
 qm (JM (j:=(r.length:Int)) rfl (by omega) (by omega)) (aB (k:=4) (by rw[kC];exact h)) (by simp) λt _=>mk2 _ _
def GA(c0 x y:T)(acc r:List T)(i:Nat)(h:r.length<=4)(ha:acc.length<=100):evF [.va c0,.va (.lst acc),.va (.int i),.va (.tup [x,y,.tup r])]=.ok (.nx [.va c0,.va (.lst (acc++mJ i r.length)),.va (.int i),.va (.tup [x,y,.tup r])]):=
 bW (aD (t:=.lst acc) rfl (LI c0 (.lst acc) x y r i h) (vC _ _ (by rw[NH,iX];omega))) rfl
theorem Au:∀(cs:List T)(c0:T)(acc:List T)(i:Nat)(s2 s3:Sl),(∀c∈cs,bR c=ZC)->acc.length+4*cs.length<=100 →
  ∃y2 y3,bc evG evF (ck i cs) [.va c0,.va (.lst acc),s2,s3]=.ok (.nx [.va c0,.va (.lst (acc++fI i cs)),y2,y3])
 |[],c0,acc,i,s2,s3,_,_=>⟨s2,s3,by simp[ck,bc,fI]⟩
 |c::cs,c0,acc,i,s2,s3,hc,hl=>by
  obtain⟨x,y,r,rfl,r1,r2⟩:=gf (hc c Nv);rw[ND]at hl;obtain⟨z2,z3,ih⟩:=Au cs c0 (acc++mJ i r.length) (i+1) (.va (.int i)) (.va (.tup [x,y,.tup r])) (λc h=>hc c (Nu _ h)) (by rw[NH,iX];omega)
  refine⟨z2,z3,?_⟩
  rw[ck,cP (Z1:=[.va c0,.va (.lst acc),.va (.int i),.va (.tup [x,y,.tup r])]) rfl (GA c0 x y acc r i r2 (by omega)),ih,fI,NY]
  rfl
def de(hc:bw (.tup cs)=ZC):(∀c∈cs,bR c=ZC)/\1<=cs.length/\cs.length<=4:=by
 unfold bw at hc;rw[NC]at hc;obtain⟨l,e,h1,h2⟩:=dZ hc.1;cases e;exact⟨λc h=>N9.mp hc.2 c h,h1,h2⟩
def D6(cs:List T)(hc:bw (.tup cs)=ZC):eF [.tup cs]=.ok (.lst (fI 0 cs)):=by
 obtain⟨ha,h1,h2⟩:=de hc;obtain⟨y2,y3,e⟩:=Au cs (.tup cs) [] 0 .em .em ha (by simp;omega)
 rw[OW]at e;refine bD rfl ?_
 unfold lG;rw[ay (Z':=[.va (.tup cs),.va (.lst []),.em,.em]) rfl,ay ((dN (ts:=ck 0 cs) rfl e))]
 rfl
def Gf{k:Nat}(h:k<n):T.int (k:Int)∈rng 0 (n:Int):=by
 unfold rng;exact NS.mpr ⟨k,Pa.mpr (by omega),by simp⟩
def r8(cs:List T)(c:Nat):reads cs (c:Int)=Ie (cs.getD c .non):=by
 unfold reads;rw[if_pos (by omega),ON,List.getD_eq_getElem?_getD]
 cases cs[c]? with
 |none=>rfl
 |some t=>
  cases t with
  |tup l=>
   match l with
   |[] =>rfl
   |[_] =>rfl
   |[_,_] =>rfl
   |[_,_,z] =>cases z <;> rfl
   |_::_::z::_::_=>cases z <;> rfl
  |_=>rfl
theorem xt{g:T->En->Rs En}{F:W4}(J:En->Prop):∀(ts:List T),(∀t∈ts,∀Z,J Z->∃Z1,g t Z=.ok Z1/\(p t=ZC->∃Z2,F Z1=.ok (.nx Z2)/\J Z2)/\(p t=ZD->F Z1=.ok (.rt (.bl ZD)))) →
  ∀Z,J Z->(ts.all p=ZC->∃Z',bc g F ts Z=.ok (.nx Z')/\J Z')/\(ts.all p=ZD->bc g F ts Z=.ok (.rt (.bl ZD)))
 |[],_,Z,hj=>⟨λ_=>⟨Z,rfl,hj⟩,λh=>(by cases h)⟩
 |t::ts,hs,Z,hj=>by
  obtain⟨Z1,h1,h2,h3⟩:=hs t Nv Z hj;rw[UY]
  cases q:p t with
  |false=>exact⟨λh=>(by cases h),λ_=>Aj h1 (h3 q)⟩
  |true=>
   obtain⟨Z2,e2,j2⟩:=h2 q;rw[cP h1 e2,RH];exact xt J ts (λt ht=>hs t (Nu _ ht)) Z2 j2
mutual
def sm(n:Nat):T->Bool
 |.dct _ _=>ZD
 |.ob _ _ _=>ZD
 |.scr _=>ZD
 |.tup l=>decide (l.length<=n)&&sms n l
 |.lst l=>decide (l.length<=n)&&sms n l
 |_=>ZC
def sms(n:Nat):List T->Bool
 |[] =>ZC
 |t::l=>sm n t&&sms n l
end
mutual
theorem Hi{n:Nat}:∀(t:T),sm n t=ZC->t.pl=ZC
 |.scr _,h=>by simp[sm]at h
 |.dct _ _,h=>by simp[sm]at h
 |.ob _ _ _,h=>by simp[sm]at h
 |.tup l,h=>by rw[sm,NC]at h;rw[T.pl];exact sms_pl l h.2
 |.lst l,h=>by rw[sm,NC]at h;rw[T.pl];exact sms_pl l h.2
 |.non,_=>by simp[T.pl]
 |.bl _,_=>by simp[T.pl]
 |.int _,_=>by simp[T.pl]
 |.str _,_=>by simp[T.pl]
theorem sms_pl{n:Nat}:∀(l:List T),sms n l=ZC->plS l=ZC
 |[],_=>by simp[plS]
 |t::l,h=>by rw[sms,NC]at h;rw[plS,Hi t h.1,sms_pl l h.2];rfl
end
theorem zE:∀{l:List T},sms n l=ZC↔ ∀t∈l,sm n t=ZC
 |[] =>by simp[sms]
 |t::l=>by rw[sms,NC,zE (l:=l)];simp
def sm_tup:sm n (.tup l)=ZC↔l.length<=n/\∀t∈l,sm n t=ZC:=by rw[sm,NC,zE,decide_eq_true_iff]
def lO{i:Int}(h:0<j):mB (.int i) (.int j)=.ok (.int (i % j)):=by show(if _ then _ else _)=_;rw[if_pos h]
def oK{i:Int}(h:0<j)(h2:j<1073741824):mI (.int i) (.int j)=.ok (.int (i / j)):=by show(if _ then _ else _)=_;rw[if_pos ⟨h,h2⟩]
def my{i:Int}(h : -18446744073709551616<i)(h2:i<18446744073709551616):bY (.int i) (.int j)=.ok (.int (i*j)):=by
 show yQ (.int i) (.int j)=_
 show(if _ then _ else _)=_
 rw[if_pos (.inl ⟨by omega,by omega⟩)]
def C8{i:Int}(h : -18446744073709551616<j)(h2:j<18446744073709551616):bY (.int i) (.int j)=.ok (.int (i*j)):=by
 show yQ (.int i) (.int j)=_
 show(if _ then _ else _)=_
 rw[if_pos (.inr ⟨by omega,by omega⟩)]
def JV(ns:List Int)(k:Nat)(hn:ns.length<=63):∃c,f9 [.scr ns,.int k]=.ok (.int c):=by
 have e0:o2 nX (vr 0) (dF ai) [.va (.scr ns),.va (.int k)]=.ok (.bl (lF ns [])):=by
  refine aD (t:=.scr ns) (u:=.lst []) rfl (mE (ts:=[]) rfl (aB (k:=0) (NL _))) ?_
  unfold nX;rw[if_pos (iW (by simp[T.dep]) rfl rfl)]
  rfl
 cases ns with
 |nil=>
  refine⟨7*k,bD rfl ?_⟩
  unfold ku
  refine gn ((ff (ba e0)).trans (bS (aD (t:=.int 7) (u:=.int k) rfl rfl (my (by omega) (by omega)))))
 |cons a r=>
  have hl:(0:Int)<((a::r).length:Nat):=by simp only[ND];omega
  have hl2:(((a::r).length:Nat):Int)<1073741824:=by simp only[ND]at hn ⊢;omega
  have hi:k % (a::r).length<(a::r).length:=Nat.mod_lt _ (by simp)
  have g0:o2 mB (vr 1) (cl dh (af (vr 0) ai)) [.va (.scr (a::r)),.va (.int k)]=.ok (.int ((k % (a::r).length:Nat):Int)):=by
   refine aD (t:=.int k) (u:=.int ((a::r).length:Nat)) rfl ?_ (by rw[lO hl];rfl)
   refine aP (ts:=[.scr (a::r)]) rfl ?_
   show Rs.ok (T.int (((a::r).map T.int).length:Nat))=_
   rw[Ny]
  have g1:aX (.scr (a::r)) (.int ((k % (a::r).length:Nat):Int))=.ok (.int (a::r)[k % (a::r).length]):=by
   have e:((a::r).map T.int)[k % (a::r).length]?=ZA (.int (a::r)[k % (a::r).length]):=by rw[NU,NF hi];rfl
   show(match L2.atI ((a::r).map T.int) ((k % (a::r).length:Nat):Int)with|some t=>Rs.ok t|none=>.bad)=_
   rw[lT e]
  have g2:o2 mI (vr 1) (cl dh (af (vr 0) ai)) [.va (.scr (a::r)),.va (.int k)]=.ok (.int ((k:Int) / ((a::r).length:Nat))):=by
   refine aD (t:=.int k) (u:=.int ((a::r).length:Nat)) rfl ?_ (oK hl hl2)
   refine aP (ts:=[.scr (a::r)]) rfl ?_
   show Rs.ok (T.int (((a::r).map T.int).length:Nat))=_
   rw[Ny]
  refine⟨(a::r)[k % (a::r).length] +6553*((k:Int) / ((a::r).length:Nat)),bD rfl ?_⟩
  unfold ku
  show aw _ _ [.va (.scr (a::r)),.va (.int k)]=_
  refine(ay (Z':=[.va (.scr (a::r)),.va (.int k)]) ((cx (ba e0)).trans rfl)).trans ?_
  exact bS (aD (aD (t:=.scr (a::r)) rfl g0 g1) (aD (t:=.int 6553) rfl g2 (my (by omega) (by omega))) rfl)
def dO(ns:List Int)(k:Nat)(m:Int)(hn:ns.length<=63)(hm:0<m):∃r,aA [.scr ns,.int k,.int m]=.ok (.int r)/\0<=r/\r<m:=by
 obtain⟨c,hc⟩:=JV ns k hn
 have b1:∀x:Int,0<=x % 2147483563/\x % 2147483563<2147483563:=λx=>⟨T8 _ (by omega),SI _ (by omega)⟩
 have b2:∀x:Int,0<=x % 2147483399/\x % 2147483399<2147483399:=λx=>⟨T8 _ (by omega),SI _ (by omega)⟩
 generalize hx:(c % 2147483563*69069+104723*((k:Int)+1)) % 2147483563=x
 have hx':=b1 (c % 2147483563*69069+104723*((k:Int)+1));rw[hx]at hx'
 generalize hy:(x*x+x / 3) % 2147483399=y
 have hy':=b2 (x*x+x / 3);rw[hy]at hy';refine⟨(y*y+y / 7) % 2147483647 / 11 % m,bD rfl ?_,T8 _ (by omega),SI _ hm⟩
 show jx [.va (.scr ns),.va (.int k),.va (.int m),.em]=_
 unfold jx
 have s1:cM (o2 mB (o2 aS (o2 bY (o2 mB (cl f9 (af (vr 0) (af (vr 1) ai))) (cn (.int 2147483563))) (cn (.int 69069))) (o2 bY (cn (.int 104723)) (o2 aS (vr 1) (cn (.int 1))))) (cn (.int 2147483563))) (gN 3) [.va (.scr ns),.va (.int k),.va (.int m),.em]=.ok (.nx [.va (.scr ns),.va (.int k),.va (.int m),.va (.int x)]):=by
  refine bW (t:=.int x) (aD (u:=.int 2147483563) (aD (aD (u:=.int 69069) (aD (u:=.int 2147483563) (aP (ts:=[.scr ns,.int k]) rfl hc) rfl (lO (by omega))) rfl (C8 (by omega) (by omega))) (aD (t:=.int 104723) (u:=.int ((k:Int)+1)) rfl rfl (my (by omega) (by omega))) rfl) rfl ?_) rfl
  rw[lO (by omega),hx]
 have s2:cM (o2 mB (o2 aS (o2 bY (vr 3) (vr 3)) (o2 mI (vr 3) (cn (.int 3)))) (cn (.int 2147483399))) (gN 3) [.va (.scr ns),.va (.int k),.va (.int m),.va (.int x)]=.ok (.nx [.va (.scr ns),.va (.int k),.va (.int m),.va (.int y)]):=by
  refine bW (t:=.int y) (aD (u:=.int 2147483399) (aD (aD (t:=.int x) (u:=.int x) rfl rfl (my (by omega) (by omega))) (aD (t:=.int x) (u:=.int 3) rfl rfl (oK (by omega) (by omega))) rfl) rfl ?_) rfl
  rw[lO (by omega),hy]
 rw[ay s1,ay s2];exact bS (aD (u:=.int m) (aD (u:=.int 11) (aD (u:=.int 2147483647) (aD (aD (t:=.int y) (u:=.int y) rfl rfl (my (by omega) (by omega))) (aD (t:=.int y) (u:=.int 7) rfl rfl (oK (by omega) (by omega))) rfl) rfl (lO (by omega))) rfl (oK (by omega) (by omega))) rfl (lO hm))
def eQ{k:Nat}{r:Int}{f g h:W5}(e:aA [.scr ns,.int k,.int m]=.ok (.int r))(h1:f Z=.ok (.scr ns))(h2:g Z=.ok (.int k))(h3:h Z=.ok (.int m)):
  cl aA (af f (af g (af h ai))) Z=.ok (.int r):=aP (au h1 (au h2 (au h3 rfl))) e
theorem wA:∀(l:List Int)(z y:Int),oB (l++[z])=ZC->z<y->oB (l++[z] ++[y])=ZC
 |[],z,y,_,h=>by simp[oB,h]
 |[a],z,y,h,hy=>by
  simp[oB]at h ⊢
  omega
 |a::b::l,z,y,h,hy=>by
  have h':oB (a::b::(l++[z]))=ZC:=h;rw[Fm,NC]at h'
  have ih:=wA (b::l) z y h'.2 hy
  show oB (a::b::(l++[z] ++[y]))=ZC
  rw[Fm,h'.1];exact ih
theorem mr:∀l:List Int,nums (l.map .int)=ZA l
 |[] =>rfl
 |a::l=>by rw[Nx,nums,mr l]
def RdOk(l:List Int):Prop:=∃(l':List Int)(z:Int),l=l'++[z]/\oB l=ZC/\(∀x∈l,0<=x/\x<=5*l.length)/\z<=5*l.length
def Gs(l:List T)(z:T):aX (.tup (l++[z])) (.int (-1))=.ok z:=by
 have e:L2.atI (l++[z]) (-1)=ZA z:=by
  unfold L2.atI L2.ixN;simp;rw[if_pos (by omega)]
  have q:(-1+((l.length:Int)+1)).toNat=l.length:=by omega
  show(l++[z])[(-1+((l.length:Int)+1)).toNat]?=ZA z
  rw[q];simp
 show(match L2.atI (l++[z]) (-1)with|some t=>Rs.ok t|none=>.bad)=_
 rw[e]
def GQ(ns:List Int)(hn:ns.length<=63)(a j:Nat)(s:T)(l:List Int)(h:RdOk l)(hl:l.length<=3):∃l2,clF [.va (.scr ns),.va (.int a),.va s,.va (.tup (l.map .int)),.va (.int j)]=.ok (.nx [.va (.scr ns),.va (.int a),.va s,.va (.tup (l2.map .int)),.va (.int j)])/\RdOk l2/\l2.length=l.length+1:=by
 obtain⟨l',z,rfl,h1,h2,h3⟩:=h;obtain⟨d,ed,d0,d1⟩:=dO ns (a+3+j) 5 hn (by omega)
 refine⟨l'++[z] ++[z+1+d],?_,⟨l'++[z],z+1+d,rfl,wA l' z _ h1 (by omega),?_,?_⟩,by simp⟩
 ·refine bW (t:=.tup ((l'++[z] ++[z+1+d]).map .int)) (aD (t:=.tup ((l'++[z]).map .int)) (u:=.tup [.int (z+1+d)]) rfl (cO (ts:=[.int (z+1+d)]) (au (aD (t:=.int (z+1)) (u:=.int d) (aD (t:=.int z) (u:=.int 1) (aD (t:=.tup ((l'++[z]).map .int)) (u:=.int (-1)) rfl rfl ?_) rfl rfl) (eQ (k:=a+3+j) ed rfl ?_ rfl) rfl) rfl) (aB (k:=1) (by simp))) ?_) rfl
  ·rw[Oe];exact Gs _ _
  ·refine aD (t:=.int ((a:Int)+3)) (u:=.int j) (aD (t:=.int a) (u:=.int 3) rfl rfl rfl) rfl ?_
   show Rs.ok (T.int ((a:Int)+3+j))=_
   congr 2
  ·rw[Oe (l₁:=l'++[z])]
   exact AF _ _ (by rw[NH,Ny];simp at hl ⊢;omega)
 ·intro x hx
  rcases Oa.mp hx with hx|hx
  ·have:=h2 x hx
   simp only[NH,PF]at this ⊢;omega
  ·rw[NR]at hx
   subst hx
   have hz:=h2 z (by simp)
   simp only[NH,PF]at h3 ⊢;omega
 ·simp only[NH,PF]at h3 ⊢
  omega
theorem AA(ns:List Int)(hn:ns.length<=63)(a:Nat)(s:T):∀(js:List Nat)(l:List Int)(s4:Sl),RdOk l->l.length+js.length<=4->∃l2 s5,bc (gN 4) clF (js.map λ(j:Nat)=>T.int j) [.va (.scr ns),.va (.int a),.va s,.va (.tup (l.map .int)),s4]=.ok (.nx [.va (.scr ns),.va (.int a),.va s,.va (.tup (l2.map .int)),s5])/\RdOk l2/\l2.length=l.length+js.length
 |[],l,s4,h,_=>⟨l,s4,rfl,h,rfl⟩
 |j::js,l,s4,h,hl=>by
  rw[ND]at hl;obtain⟨l2,e2,h2,n2⟩:=GQ ns hn a j s l h (by omega)
  obtain⟨l3,s5,e3,h3,n3⟩:=AA ns hn a s js l2 (.va (.int j)) h2 (by omega)
  refine⟨l3,s5,?_,h3,by rw[n3,n2,ND];omega⟩
  rw[Nx,cP (Z1:=[.va (.scr ns),.va (.int a),.va s,.va (.tup (l.map .int)),.va (.int j)]) rfl e2];exact e3
def t9(n:Nat):rng 0 (n:Int)=(OU n).map λ(j:Nat)=>T.int j:=by
 unfold rng;simp
def RdOk.reads{l:List Int}(h:RdOk l)(hl:l.length<=4):dq (.tup (l.map .int))=ZC:=by
 obtain⟨l',z,rfl,h1,h2,h3⟩:=h;unfold dq;rw[NC];refine⟨?_,?_⟩
 ·simp[fB];simp at hl;omega
 ·show(((l'++[z]).map T.int).all (λu=>bA u 0 99)&&(match nums ((l'++[z]).map T.int)with|some m=>oB m|none=>ZD))=ZC
  rw[mr]
  show(_&&oB (l'++[z]))=ZC
  rw[h1,Bool.and_true,N9];intro t ht;obtain⟨x,hx,rfl⟩:=NS.mp ht
  have:=h2 x hx;simp only[bA,NC,decide_eq_true_eq];omega
def Ff(n:Nat)(l:List Int)(h:l.length<=n):sm n (.tup (l.map .int))=ZC:=sm_tup.mpr ⟨by rw[Ny];exact h,λt ht=>by obtain⟨x,_,rfl⟩:=NS.mp ht;simp[sm]⟩
def D8(ns:List Int)(hn:ns.length<=63)(a:Nat):∃c,cW [.scr ns,.int a]=.ok c/\bR c=ZC/\sm 8 c=ZC:=by
 obtain⟨d1,e1,p1,q1⟩:=dO ns a 3 hn (by omega)
 obtain⟨d2,e2,p2,q2⟩:=dO ns (a+2) 6 hn (by omega)
 obtain⟨d3,e3,p3,q3⟩:=dO ns (a+1) 3 hn (by omega)
 obtain⟨d4,e4,p4,q4⟩:=dO ns (a+6) 3 hn (by omega)
 obtain⟨n3,rfl⟩:=OI p3;obtain⟨l,s5,el,hl,nl⟩:=AA ns hn a (.int (1+d1)) (OU n3) [d2] .em ⟨[],d2,rfl,rfl,λx hx=>by rw[NR]at hx;subst hx;simp;omega,by simp;omega⟩ (by simp;omega)
 have nl':l.length<=4:=by rw[nl];simp;omega
 have hr:=hl.reads nl';refine⟨.tup [.int (1+d1),.int (1+d1+d4),.tup (l.map .int)],bD rfl ?_,?_,?_⟩
 ·show jy [.va (.scr ns),.va (.int a),.em,.em,.em]=_
  unfold jy;rw[ay (Z':=[.va (.scr ns),.va (.int a),.va (.int (1+d1)),.em,.em]) (bW (t:=.int (1+d1)) (aD (t:=.int 1) rfl (eQ e1 rfl rfl rfl) rfl) rfl)];rw[ay (Z':=[.va (.scr ns),.va (.int a),.va (.int (1+d1)),.va (.tup ([d2].map .int)),.em]) (bW (t:=.tup [.int d2]) (cO (ts:=[.int d2]) (au (eQ (k:=a+2) e2 rfl rfl rfl) rfl) (aB (k:=1) (by simp))) rfl)]
  rw[ay ((dN (JM (au (eQ (k:=a+1) e3 rfl rfl rfl) rfl) (by omega) (by omega)) (by rw[t9];exact el)))]
  exact bS (cO (au (t:=.int (1+d1)) rfl (au (aD (t:=.int (1+d1)) rfl (eQ (k:=a+6) e4 rfl rfl rfl) rfl) (au (t:=.tup (l.map .int)) rfl rfl))) (aB (k:=3) (by simp)))
 ·show(ZC&&(pE (.int (1+d1)) (.int (1+d1+d4))&&dq _))=ZC
  rw[hr];simp only[pE,bA,RH,Bool.and_true,NC,decide_eq_true_eq];omega
 ·refine sm_tup.mpr ⟨by simp,λt ht=>?_⟩
  rcases NG.mp ht with rfl|ht
  ·simp[sm]
  ·rcases NG.mp ht with rfl|ht
   ·simp[sm]
   ·rw[NR]at ht;subst ht;exact Ff 8 l (by omega)
variable{y:T}
theorem kH:∀(cs:List T)(i:Nat),y∈fI i cs->∃c k:Nat,y=.tup [.int c,.int k]/\i<=c/\c<i+cs.length/\k<Ie (cs.getD (c - i) .non)
 |[],i,h=>by cases h
 |x::cs,i,h=>by
  rw[fI]at h;rcases Oa.mp h with h|h
  ·unfold mJ at h
   obtain⟨t,ht,rfl⟩:=NS.mp h;obtain⟨j,rfl,hj⟩:=kB ht;refine⟨i,j,rfl,NL _,by rw[ND];omega,?_⟩
   rw[SH]
   show j<Ie x
   omega
  ·obtain⟨c,k,e,h1,h2,h3⟩:=kH cs (i+1) h
   refine⟨c,k,e,by omega,by rw[ND];omega,?_⟩
   have:c - i=(c - (i+1))+1:=by omega
   rw[this];exact h3
def DV(h:y∈fI 0 cs):br cs y=ZC:=by
 obtain⟨c,k,rfl,_,h2,h3⟩:=kH cs 0 h
 show(decide ((0:Int)<=(c:Int))&&decide ((c:Int)<(cs.length:Int))&&(decide ((0:Int)<=(k:Int))&&decide ((k:Int)<(reads cs (c:Int):Int))))=ZC
 rw[T1]at h3;rw[r8];simp only[NC,decide_eq_true_eq];omega
theorem m6:∀(cs:List T)(i:Nat),(fI i cs).Nodup
 |[],i=>PX
 |x::cs,i=>by
  rw[fI,OP];refine⟨?_,m6 cs (i+1),?_⟩
  ·unfold mJ rng
   rw[Oo];rw[SE,P0];refine List.nodup_range.imp ?_
   intro a b hab e
   simp at e
   exact hab (by omega)
  ·intro a ha b hb e
   subst e;unfold mJ at ha;obtain⟨t,ht,rfl⟩:=NS.mp ha;obtain⟨c,k,e,h1,_,_⟩:=kH cs (i+1) hb
   simp at e
   omega
def C4(h:l.Nodup){j:Nat}(hi:i<l.length)(hj:j<l.length)(hij:i≠j):l[i] ≠l[j]:=by
 rw[SE,Py]at h;rcases Rt i j with q|q
 ·exact h i j hi hj q
 ·exact λe=>h j i hj hi (by omega) e.symm
theorem ve:∀(cs:List T)(i:Nat),(∀c∈cs,bR c=ZC)->(fI i cs).length<=4*cs.length
 |[],i,_=>NL _
 |x::cs,i,h=>by
  obtain⟨a,b,r,rfl,_,h2⟩:=gf (h x Nv)
  have:=ve cs (i+1) λc hc=>h c (Nu _ hc)
  rw[fI,NH,iX,ND]
  show r.length+_<=_
  omega
def DU{a b:T}(ha:br cs a=ZC)(hb:br cs b=ZC)(h:a≠b):bh a b=ZD:=by
 obtain⟨c,k,rfl⟩:=gd ha;obtain⟨c',k',rfl⟩:=gd hb;rw[Bool.eq_false_iff];intro e;simp[bh,beqTs]at e;exact h (by rw[e.1,e.2])
def v9{a:T}(ha:br cs a=ZC):sm 8 a=ZC:=by
 obtain⟨c,k,rfl⟩:=gd ha;simp[sm,sms]
def yV(h:i<l.length):aX (.lst l) (.int (i:Int))=.ok l[i]:=by
 show(match L2.atI l (i:Int)with|some t=>Rs.ok t|none=>.bad)=_
 rw[lT (NF h)]
def vf(a b:Int):nX (.int a) (.int b)=.ok (.bl (a == b)):=by
 unfold nX;rw[if_pos (iW (by simp[T.dep]) rfl rfl)]
 rfl
def sT(ns:List Int)(hn:ns.length<=63)(a:Nat)(cs:List T)(hc:bw (.tup cs)=ZC):∃r,cC [.scr ns,.int a,.tup cs]=.ok r/\(r=.non\/(bJ cs r=ZC/\sm 8 r=ZC)):=by
 obtain⟨ha,h1,h4⟩:=de hc
 have hlen:=ve cs 0 ha
 have er:=D6 cs hc
 have gl:∀s4 s5 s6 s7:Sl,cl dh (af (vr 3) ai) [.va (.scr ns),.va (.int a),.va (.tup cs),.va (.lst (fI 0 cs)),s4,s5,s6,s7]=.ok (.int ((fI 0 cs).length:Nat)):=λ_ _ _ _=>rfl
 have s1:cM (cl eF (af (vr 2) ai)) (gN 3) [.va (.scr ns),.va (.int a),.va (.tup cs),.em,.em,.em,.em,.em]=.ok (.nx [.va (.scr ns),.va (.int a),.va (.tup cs),.va (.lst (fI 0 cs)),.em,.em,.em,.em]):=bW (aP (ts:=[.tup cs]) rfl er) rfl
 have lt:o2 qP (cl dh (af (vr 3) ai)) (cn (.int 2)) [.va (.scr ns),.va (.int a),.va (.tup cs),.va (.lst (fI 0 cs)),.em,.em,.em,.em]=.ok (.bl (decide (((fI 0 cs).length:Int)<2))):=aD (t:=.int ((fI 0 cs).length:Nat)) (u:=.int 2) (gl _ _ _ _) rfl rfl
 by_cases hs:(fI 0 cs).length<2
 ·refine⟨.non,bD rfl ?_,.inl rfl⟩
  show eJ [.va (.scr ns),.va (.int a),.va (.tup cs),.em,.em,.em,.em,.em]=_
  unfold eJ;rw[ay s1];rw[decide_eq_true (by omega)]at lt
  exact gn ((ff (ba lt)).trans rfl)
 ·rw[decide_eq_false (by omega)]at lt
  generalize hN:(fI 0 cs).length=n at*
  obtain⟨d1,e1,p1,q1⟩:=dO ns a (n:Int) hn (by omega)
  obtain⟨d2,e2,p2,q2⟩:=dO ns (a+1) ((n:Int) - 1) hn (by omega)
  obtain⟨d3,e3,p3,q3⟩:=dO ns (a+2) 8 hn (by omega)
  obtain⟨d4,e4,p4,q4⟩:=dO ns (a+3) 3 hn (by omega)
  obtain⟨d5,e5,p5,q5⟩:=dO ns (a+4) 9 hn (by omega)
  obtain⟨i,rfl⟩:=OI p1;obtain⟨d2,rfl⟩:=OI p2
  have hi:i<(fI 0 cs).length:=by omega
  have hj:(i+1+d2) % n<(fI 0 cs).length:=by rw[hN];exact Nat.mod_lt _ (by omega)
  have hij:i≠(i+1+d2) % n:=by
   rcases Rt (i+1+d2) n with q|q
   ·rw[V8 q];omega
   ·have:(i+1+d2) % n=i+1+d2 - n:=by
     rw[Nat.mod_eq_sub_mod q,V8 (by omega)]
    rw[this];omega
  have eA:=DV (OG hi)
  have eB:=DV (OG hj)
  have eN:(fI 0 cs)[i] ≠(fI 0 cs)[(i+1+d2) % n]:=C4 (m6 cs 0) hi hj hij
  generalize hA:(fI 0 cs)[i]=A at*
  generalize hB:(fI 0 cs)[(i+1+d2) % n]=B at*
  let y:T:=if d4 == 0 then .non else .int (d3+d5)
  refine⟨.tup [A,B,.int d3,y],bD rfl ?_,.inr ⟨?_,?_⟩⟩
  ·show eJ [.va (.scr ns),.va (.int a),.va (.tup cs),.em,.em,.em,.em,.em]=_
   unfold eJ;rw[ay s1];rw[ay (Z':=[.va (.scr ns),.va (.int a),.va (.tup cs),.va (.lst (fI 0 cs)),.em,.em,.em,.em]) ((cx (ba lt)).trans rfl)];rw[ay (Z':=[.va (.scr ns),.va (.int a),.va (.tup cs),.va (.lst (fI 0 cs)),.va (.int (i:Nat)),.em,.em,.em]) (bW (eQ e1 rfl rfl (gl _ _ _ _)) rfl)];rw[ay (Z':=[.va (.scr ns),.va (.int a),.va (.tup cs),.va (.lst (fI 0 cs)),.va (.int (i:Nat)),.va (.int ((i+1+d2) % n:Nat)),.em,.em]) (bW (t:=.int ((i+1+d2) % n:Nat)) (aD (t:=.int ((i:Int)+1+d2)) (u:=.int n) (aD (t:=.int ((i:Int)+1)) (u:=.int d2) rfl (eQ (k:=a+1) e2 rfl rfl (aD (t:=.int n) (u:=.int 1) (gl _ _ _ _) rfl rfl)) rfl) (gl _ _ _ _) (lO (by omega))) rfl)]
   rw[ay (Z':=[.va (.scr ns),.va (.int a),.va (.tup cs),.va (.lst (fI 0 cs)),.va (.int (i:Nat)),.va (.int ((i+1+d2) % n:Nat)),.va (.int d3),.em]) (bW (eQ (k:=a+2) e3 rfl rfl rfl) rfl)]
   have ey:qu (tb (o2 nX (cl aA (af (vr 0) (af (o2 aS (vr 1) (cn (.int 3))) (af (cn (.int 3)) ai)))) (cn (.int 0)))) (cn .non) (o2 aS (vr 6) (cl aA (af (vr 0) (af (o2 aS (vr 1) (cn (.int 4))) (af (cn (.int 9)) ai))))) [.va (.scr ns),.va (.int a),.va (.tup cs),.va (.lst (fI 0 cs)),.va (.int (i:Nat)),.va (.int ((i+1+d2) % n:Nat)),.va (.int d3),.em]=.ok y:=by
    rw[lD (ba (aD (u:=.int 0) (eQ (k:=a+3) e4 rfl rfl rfl) rfl (vf _ _)))]
    show _=Rs.ok (if d4 == 0 then T.non else .int (d3+d5))
    cases d4 == 0 with
    |true=>rfl
    |false=>exact aD (t:=.int d3) rfl (eQ (k:=a+4) e5 rfl rfl rfl) rfl
   rw[ay (Z':=[.va (.scr ns),.va (.int a),.va (.tup cs),.va (.lst (fI 0 cs)),.va (.int (i:Nat)),.va (.int ((i+1+d2) % n:Nat)),.va (.int d3),.va y]) (bW ey rfl)];refine bS (cO (au (t:=A) (aD (t:=.lst (fI 0 cs)) (u:=.int (i:Nat)) rfl rfl ?_) (au (t:=B) (aD (t:=.lst (fI 0 cs)) (u:=.int ((i+1+d2) % n:Nat)) rfl rfl ?_) (au (t:=.int d3) rfl (au (t:=y) rfl rfl)))) (aB (k:=4) (by simp)))
   ·rw[<-hA];exact yV hi
   ·rw[<-hB];exact yV hj
  ·show(fW (.int d3) y&&(br cs A&&(br cs B&& !bh A B)))=ZC
   rw[eA,eB,DU eA eB eN]
   have:fW (.int d3) y=ZC:=by
    show(bA (.int d3) 0 999&&(match(T.int d3),(if d4 == 0 then T.non else .int (d3+d5))with|_,.non=>ZC|.int i,_=>bA (if d4 == 0 then T.non else .int (d3+d5)) i 999|_,_=>ZD))=ZC
    cases d4 == 0 with
    |true=>simp[bA];omega
    |false=>simp[bA];omega
   rw[this];rfl
  ·refine sm_tup.mpr ⟨by simp,λt ht=>?_⟩
   have hy:sm 8 y=ZC:=by show sm 8 (if d4 == 0 then T.non else .int (d3+d5))=ZC;cases d4 == 0 <;> simp[sm]
   simp only[NG,Ox,or_false]at ht;rcases ht with rfl|rfl|rfl|rfl
   ·exact v9 eA
   ·exact v9 eB
   ·simp[sm]
   ·exact hy
def okv:Rs T->T
 |.ok t=>t
 |_=>.non
def zS(l:List T)(k:Int)(h : -(2 ^ 63)<=k/\k<2 ^ 63/\l.length*k.toNat<=ZI):bY (.lst l) (.int k)=.ok (.lst (N5 k.toNat l).flatten):=by
 show yQ (.lst l) (.int k)=_
 unfold yQ;exact if_pos h
def mul_one(x:T)(b:Bool):bY (.lst [x]) (.int (if b then 1 else 0))=.ok (.lst (if b then [x]else [])):=by
 cases b with
 |true=>exact zS [x] 1 ⟨by decide,by decide,aB (k:=1) (by simp)⟩
 |false=>exact zS [x] 0 ⟨by decide,by decide,aB (k:=1) (by simp)⟩
def BG(cs ls:List T):Prop:=∀t∈ls,bJ cs t=ZC/\sm 8 t=ZC
def Gh(ns:List Int)(hn:ns.length<=63)(a j:Nat)(m:T)(cs ls:List T)(hc:bw (.tup cs)=ZC)(h:BG cs ls)(hl:ls.length<=100)(s6:Sl):
  ∃ls2 s7,leF [.va (.scr ns),.va (.int a),.va m,.va (.tup cs),.va (.lst ls),.va (.int j),s6]=.ok (.nx [.va (.scr ns),.va (.int a),.va m,.va (.tup cs),.va (.lst ls2),.va (.int j),s7])/\BG cs ls2/\ls2.length<=ls.length+1:=by
 obtain⟨r,er,hr⟩:=sT ns hn (a+31+6*j) cs hc
 have e1:∀G,aw (cM (cl cC (af (vr 0) (af (o2 aS (o2 aS (vr 1) (cn (.int 31))) (o2 bY (cn (.int 6)) (vr 5))) (af (vr 3) ai)))) (gN 6)) G [.va (.scr ns),.va (.int a),.va m,.va (.tup cs),.va (.lst ls),.va (.int j),s6]=G [.va (.scr ns),.va (.int a),.va m,.va (.tup cs),.va (.lst ls),.va (.int j),.va r]:=λG=>by
  refine ay (bW (t:=r) (aP (ts:=[.scr ns,.int (a+31+6*j:Nat),.tup cs]) (au (t:=.scr ns) rfl (au (t:=.int (a+31+6*j:Nat)) (aD (t:=.int ((a:Int)+31)) (u:=.int (6*(j:Int))) rfl (aD (t:=.int 6) (u:=.int j) rfl rfl (my (by omega) (by omega))) rfl) (au (t:=.tup cs) rfl rfl))) er) rfl)
 have e2:cl DI (af (o2 cS (vr 6) (cn .non)) ai) [.va (.scr ns),.va (.int a),.va m,.va (.tup cs),.va (.lst ls),.va (.int j),.va r]=.ok (.int (if !r.isN then 1 else 0)):=aP (ts:=[.bl (!r.isN)]) rfl rfl
 refine⟨ls++(if !r.isN then [r]else []),.va r,?_,?_,?_⟩
 ·refine(e1 _).trans (bW (aD (t:=.lst ls) (u:=.lst (if !r.isN then [r]else [])) rfl (aD (t:=.lst [r]) (mE (ts:=[r]) rfl (aB (k:=1) (by simp))) e2 (mul_one _ _)) (vC _ _ ?_)) rfl)
  rw[NH];cases r.isN <;> simp <;> omega
 ·intro t ht
  rcases Oa.mp ht with ht|ht
  ·exact h t ht
  ·rcases hr with rfl|hr
   ·cases ht
   ·cases q:r.isN with
    |true=>rw[q]at ht;cases ht
    |false=>
     rw[q]at ht;rw[show t=r by simpa using ht]
     exact hr
 ·rw[NH]
  cases r.isN <;> simp
theorem Aa(ns:List Int)(hn:ns.length<=63)(a:Nat)(m:T)(cs:List T)(hc:bw (.tup cs)=ZC):∀(js:List Nat)(ls:List T)(s5 s6:Sl),BG cs ls->ls.length+js.length<=100 →
  ∃ls2 t5 t6,bc (gN 5) leF (js.map λ(j:Nat)=>T.int j) [.va (.scr ns),.va (.int a),.va m,.va (.tup cs),.va (.lst ls),s5,s6]=.ok (.nx [.va (.scr ns),.va (.int a),.va m,.va (.tup cs),.va (.lst ls2),t5,t6])/\BG cs ls2/\ls2.length<=ls.length+js.length
 |[],ls,s5,s6,h,_=>⟨ls,s5,s6,rfl,h,NL _⟩
 |j::js,ls,s5,s6,h,hl=>by
  rw[ND]at hl;obtain⟨l2,s7,e2,h2,n2⟩:=Gh ns hn a j m cs ls hc h (by omega) s6
  obtain⟨l3,t5,t6,e3,h3,n3⟩:=Aa ns hn a m cs hc js l2 (.va (.int j)) s7 h2 (by omega)
  refine⟨l3,t5,t6,?_,h3,by rw[ND];omega⟩
  rw[Nx,cP (Z1:=[.va (.scr ns),.va (.int a),.va m,.va (.tup cs),.va (.lst ls),.va (.int j),s6]) rfl e2];exact e3
def JU(ns:List Int)(hn:ns.length<=63)(a m:Nat)(hm:m<=8):∃cs ls,fV [.scr ns,.int a,.int m]=.ok (RR cs ls)/\bw (.tup cs)=ZC/\cs.length<=3/\(∀c∈cs,sm 8 c=ZC)/\BG cs ls/\ls.length<=m:=by
 obtain⟨d1,e1,p1,q1⟩:=dO ns a 3 hn (by omega)
 obtain⟨d2,e2,p2,q2⟩:=dO ns (a+30) ((m:Int)+1) hn (by omega)
 obtain⟨d1,rfl⟩:=OI p1;obtain⟨d2,rfl⟩:=OI p2
 let hcl:T->T:=λt=>match t with
  |.int k=>okv (cW [.scr ns,.int ((a:Int)+1+8*k)])
  |_=>.non
 have hh:∀t∈rng 0 ((1+d1:Nat):Int),∃k:Nat,t=.int k/\cW [.scr ns,.int ((a+1+8*k:Nat):Int)]=.ok (hcl t)/\bR (hcl t)=ZC/\sm 8 (hcl t)=ZC:=λt ht=>by
  obtain⟨k,rfl,_⟩:=kB ht;obtain⟨c,ec,h1,h2⟩:=D8 ns hn (a+1+8*k)
  have e:hcl (.int k)=c:=by
   show okv (cW [.scr ns,.int ((a+1+8*k:Nat):Int)])=c
   rw[ec];rfl
  exact⟨k,rfl,by rw[e];exact ec,by rw[e];exact h1,by rw[e];exact h2⟩
 generalize hcs:(rng 0 ((1+d1:Nat):Int)).map hcl=cs
 have lc:cs.length=1+d1:=by rw[<-hcs,Ny,kC]
 have hc:bw (.tup cs)=ZC:=by
  show(fB (.tup cs) 1 4&&cs.all bR)=ZC
  rw[NC,N9];refine⟨by simp[fB];omega,λc h=>?_⟩
  rw[<-hcs]at h;obtain⟨t,ht,rfl⟩:=NS.mp h;obtain⟨_,_,_,h1,_⟩:=hh t ht;exact h1
 have hsm:∀c∈cs,sm 8 c=ZC:=λc h=>by
  rw[<-hcs]at h;obtain⟨t,ht,rfl⟩:=NS.mp h;obtain⟨_,_,_,_,h1⟩:=hh t ht;exact h1
 obtain⟨ls,t5,t6,el,hl,nl⟩:=Aa ns hn a (.int m) cs hc (OU d2) [] .em .em (λt h=>by cases h) (by simp;omega)
 refine⟨cs,ls,bD rfl ?_,hc,by omega,hsm,hl,by simp at nl;omega⟩
 show iC [.va (.scr ns),.va (.int a),.va (.int m),.em,.em,.em,.em]=_
 unfold iC
 have s1:cM (cl fN (af (ee (iR (af (o2 aS (cn (.int 1)) (cl aA (af (vr 0) (af (vr 1) (af (cn (.int 3)) ai))))) ai)) [ZB,ZA 0,ZA 1] (gN 0) bT (cl cW (af (vr 1) (af (o2 aS (o2 aS (vr 2) (cn (.int 1))) (o2 bY (cn (.int 8)) (vr 0))) ai)))) ai)) (gN 3) [.va (.scr ns),.va (.int a),.va (.int m),.em,.em,.em,.em]=.ok (.nx [.va (.scr ns),.va (.int a),.va (.int m),.va (.tup cs),.em,.em,.em]):=by
  refine bW (t:=.tup cs) (aP (ts:=[.lst cs]) (au (t:=.lst cs) ?_ rfl) rfl) rfl
  rw[<-hcs];refine qm (ts:=rng 0 ((1+d1:Nat):Int)) (h:=hcl) (JM (au (t:=.int ((1+d1:Nat):Int)) (aD (t:=.int 1) (u:=.int d1) rfl (eQ e1 rfl rfl rfl) rfl) rfl) (by omega) (by omega)) (aB (k:=3) (by rw[kC];omega)) (by simp) λt ht=>?_
  obtain⟨k,rfl,ek,_,_⟩:=hh t ht;refine aP (ts:=[.scr ns,.int ((a+1+8*k:Nat):Int)]) (au (t:=.scr ns) rfl (au (aD (t:=.int ((a:Int)+1)) (u:=.int (8*(k:Int))) rfl (aD (t:=.int 8) (u:=.int k) rfl rfl (my (by omega) (by omega))) rfl) rfl)) ek
 rw[ay s1];rw[ay (Z':=[.va (.scr ns),.va (.int a),.va (.int m),.va (.tup cs),.va (.lst []),.em,.em]) (bW (mE (ts:=[]) rfl (aB (k:=0) (by simp))) rfl)]
 rw[ay ((dN (JM (au (eQ (k:=a+30) e2 rfl rfl (aD (t:=.int m) (u:=.int 1) rfl rfl rfl)) rfl) (by omega) (by omega)) (by rw[t9];exact el)))]
 exact bS (cO (au (t:=.tup cs) rfl (au (t:=.tup ls) rfl rfl)) (aB (k:=2) (by simp)))
def mC{t:T}(h:bJ cs t=ZC):∃a b x y,t=.tup [a,b,x,y]/\fW x y=ZC/\br cs a=ZC/\br cs b=ZC/\bh a b=ZD:=by
 unfold bJ at h
 split at h
 ·simp only[NC,Vv]at h
  exact⟨_,_,_,_,rfl,h.1,h.2.1,h.2.2.1,h.2.2.2⟩
 ·cases h
def Ic{ls:List T}(hc:bw (.tup cs)=ZC)(hs:∀c∈cs,sm 8 c=ZC)(hl:BG cs ls)(hn:ls.length<=8):fM (RR cs ls)=ZC/\sm 8 (RR cs ls)=ZC:=by
 refine⟨?_,?_⟩
 ·show(bw (.tup cs)&&(fB (.tup ls) 0 8&&ls.all (bJ cs)))=ZC
  rw[hc,RH,NC,N9];exact⟨by simp[fB];exact hn,λt ht=>(hl t ht).1⟩
 ·refine sm_tup.mpr ⟨by simp,λt ht=>?_⟩
  simp only[NG,Ox,or_false]at ht;rcases ht with rfl|rfl
  ·exact sm_tup.mpr ⟨by have:=(de hc).2.2;omega,hs⟩
  ·exact sm_tup.mpr ⟨hn,λt ht=>(hl t ht).2⟩
end G
namespace Tr
open PySem
section
variable {f fa fb:W5}{fs:W3}{b c:W6}{F G:W4}{Z Z' Z1 Z2:En}{t u r:T}{ts l m:List T}
mutual
theorem kQ:∀(t:T),t.pl=ZC->bh t t=ZC
 |.non,_=>rfl
 |.bl a,_=>by simp[bh]
 |.int a,_=>by simp[bh]
 |.str a,_=>by simp[bh]
 |.tup l,h=>by rw[bh];exact beqTs_refl l (by unfold T.pl at h;exact h)
 |.lst l,h=>by rw[bh];exact beqTs_refl l (by unfold T.pl at h;exact h)
 |.scr _,h=>by simp[T.pl]at h
theorem beqTs_refl:∀(l:List T),plS l=ZC->beqTs l l=ZC
 |[],_=>rfl
 |t::l,h=>by
  unfold plS at h;rw[NC]at h;rw[beqTs,kQ t h.1,beqTs_refl l h.2];rfl
end
def mw(hp:t.pl=ZC)(hd:t.dep<=60):iG t t=.ok (.bl ZD):=by
 unfold iG;rw[if_pos (iW hd (T.Ml _ hp) (T.Ml _ hp)),kQ t hp];rfl
def GB(hp:t.pl=ZC)(hd:t.dep<=60):nX t t=.ok (.bl ZC):=by
 unfold nX;rw[if_pos (iW hd (T.Ml _ hp) (T.Ml _ hp)),kQ t hp]
theorem vj:∀{l:List T},(∀t∈l,t.dep<=n)->deps l<=n
 |[],_=>by unfold deps;omega
 |t::l,h=>by
  unfold deps
  have:=vj (l:=l) λu hu=>h u (Nu _ hu)
  have:=h t Nv;omega
theorem mZ:∀{l:List T},(∀t∈l,t.pl=ZC)->plS l=ZC
 |[],_=>rfl
 |t::l,h=>by unfold plS;rw[h t Nv,mZ λu hu=>h u (Nu _ hu)];rfl
end
end Tr
variable{j:Nat}
namespace G
open PySem Tr
def dr(r:List Int)(k:Nat):Int:=r.getD (k+1) 0 - r.getD k 0
def pr(n:Nat)(x y:Int)(r:List Int)(k:Nat):List T:=
 [.tup [.tup [.int n,.int k],.tup [.int n,.int ((k+1:Nat):Int)],.int (dr r k*y)],.tup [.tup [.int n,.int ((k+1:Nat):Int)],.tup [.int n,.int k],.int (-dr r k*x)]]
def cB(n:Nat)(x y:Int)(r:List Int):List T:=(OU (r.length - 1)).flatMap (pr n x y r)
abbrev Em(n:Nat)(x y:Int)(r:List Int)(acc:List T)(s4 s5 s6 s7:Sl):En:=[.va (.int n),.va (.tup [.int x,.int y,.tup (r.map .int)]),.va (.tup (r.map .int)),.ow (.lst acc),s4,s5,s6,s7]
def oH{k:Nat}(h:k<r.length):(r.map T.int)[k]?=ZA (.int (r.getD k 0)):=by
 rw[NU,NF h]
 simp[h]
def GU(n:Nat)(x y:Int)(r:List Int)(acc:List T)(k:Nat)(s5 s6 s7:Sl)(hk:k+1<r.length)(hx:0<=x/\x<=9)(hy:0<=y/\y<=9)(ha:acc.length<=100):
  bcF (Em n x y r acc (.va (.int k)) s5 s6 s7)=.ok (.nx (Em n x y r (acc++pr n x y r k) (.va (.int k)) (.va (.tup [.int n,.int k])) (.va (.tup [.int n,.int ((k+1:Nat):Int)])) (.va (.int (dr r k))))):=by
 have h2:([T.int n,T.int k]:List T).length<=ZI:=aB (k:=2) (by simp)
 have ek:((k:Int)+1)=((k+1:Nat):Int):=by omega
 refine(ay (Z':=Em n x y r acc (.va (.int k)) (.va (.tup [.int n,.int k])) s6 s7) (bW (cO rfl (aB (k:=2) (by simp))) rfl)).trans ?_
 refine(ay (Z':=Em n x y r acc (.va (.int k)) (.va (.tup [.int n,.int k])) (.va (.tup [.int n,.int ((k+1:Nat):Int)])) s7) (bW (cO (au rfl (au (t:=.int ((k+1:Nat):Int)) (aD (t:=.int k) (u:=.int 1) rfl rfl (congrArg (λz=>Rs.ok (T.int z)) ek)) rfl)) (aB (k:=2) (by simp))) rfl)).trans ?_
 refine(ay (Z':=Em n x y r acc (.va (.int k)) (.va (.tup [.int n,.int k])) (.va (.tup [.int n,.int ((k+1:Nat):Int)])) (.va (.int (dr r k)))) (bW (t:=.int (dr r k)) (aD (t:=.int (r.getD (k+1) 0)) (u:=.int (r.getD k 0)) (Bj (n:=k+1) rfl (aD (t:=.int k) (u:=.int 1) rfl rfl (congrArg (λz=>Rs.ok (T.int z)) ek)) (oH hk)) (Bj (n:=k) rfl rfl (oH (by omega))) rfl) rfl)).trans ?_
 refine(ay (Z':=Em n x y r (acc++[.tup [.tup [.int n,.int k],.tup [.int n,.int ((k+1:Nat):Int)],.int (dr r k*y)]]) (.va (.int k)) (.va (.tup [.int n,.int k])) (.va (.tup [.int n,.int ((k+1:Nat):Int)])) (.va (.int (dr r k)))) (mF (l:=acc) (cO (au rfl (au rfl (au (aD (t:=.int (dr r k)) (u:=.int y) rfl rfl (C8 (by omega) (by omega))) rfl))) (aB (k:=3) (by simp))) rfl (by omega))).trans ?_
 refine(mF (l:=acc++[.tup [.tup [.int n,.int k],.tup [.int n,.int ((k+1:Nat):Int)],.int (dr r k*y)]]) (cO (au rfl (au rfl (au (aD (t:=.int (-dr r k)) (u:=.int x) rfl rfl (C8 (by omega) (by omega))) rfl))) (aB (k:=3) (by simp))) rfl (by rw[NH];simp;omega)).trans ?_
 rw[NY]
 rfl
theorem AE(n:Nat)(x y:Int)(r:List Int)(hx:0<=x/\x<=9)(hy:0<=y/\y<=9):∀(js:List Nat)(acc:List T)(s4 s5 s6 s7:Sl),(∀k∈js,k+1<r.length)->acc.length+2*js.length<=100 →
  ∃t4 t5 t6 t7,bc (gN 4) bcF (js.map λ(k:Nat)=>T.int k) (Em n x y r acc s4 s5 s6 s7)=.ok (.nx (Em n x y r (acc++js.flatMap (pr n x y r)) t4 t5 t6 t7))
 |[],acc,s4,s5,s6,s7,_,_=>⟨s4,s5,s6,s7,by simp[bc]⟩
 |k::js,acc,s4,s5,s6,s7,hk,hl=>by
  rw[ND]at hl
  have e:=GU n x y r acc k s5 s6 s7 (hk k Nv) hx hy (by omega)
  obtain⟨t4,t5,t6,t7,ih⟩:=AE n x y r hx hy js (acc++pr n x y r k) (.va (.int k)) (.va (.tup [.int n,.int k])) (.va (.tup [.int n,.int ((k+1:Nat):Int)])) (.va (.int (dr r k))) (λj hj=>hk j (Nu _ hj)) (by rw[NH];simp[pr];omega)
  refine⟨t4,t5,t6,t7,?_⟩
  rw[Nx,cP (Z1:=Em n x y r acc (.va (.int k)) s5 s6 s7) rfl e,ih,P2,NY]
def Ed(n:Nat)(x y:Int)(r:List Int)(hx:0<=x/\x<=9)(hy:0<=y/\y<=9)(h1:1<=r.length)(h4:r.length<=4):cV [.int n,.tup [.int x,.int y,.tup (r.map .int)]]=.ok (.lst (cB n x y r)):=by
 refine bD rfl ?_
 show fF [.va (.int n),.va (.tup [.int x,.int y,.tup (r.map .int)]),.em,.em,.em,.em,.em,.em]=_
 unfold fF;rw[ay (Z':=[.va (.int n),.va (.tup [.int x,.int y,.tup (r.map .int)]),.va (.tup (r.map .int)),.em,.em,.em,.em,.em]) (bW (t:=.tup (r.map .int)) rfl rfl)];rw[ay (Z':=Em n x y r [] .em .em .em .em) rfl];obtain⟨t4,t5,t6,t7,e⟩:=AE n x y r hx hy (OU (r.length - 1)) [] .em .em .em .em (λk hk=>by have:=Pa.mp hk;omega) (by simp;omega)
 have e1:iR (af (o2 cR (cl dh (af (vr 2) ai)) (cn (.int 1))) ai) (Em n x y r [] .em .em .em .em)=.ok (rng 0 ((r.length - 1:Nat):Int)):=by
  refine JM (j:=((r.length - 1:Nat):Int)) (au (aD (t:=.int (r.length:Nat)) (u:=.int 1) (aP (ts:=[.tup (r.map .int)]) rfl (by show Rs.ok (T.int ((r.map T.int).length:Nat))=_;rw[Ny])) rfl (congrArg (λz=>Rs.ok (T.int z)) (by omega))) rfl) (by omega) (by omega)
 rw[ay ((dN (ts:=(OU (r.length - 1)).map λ(k:Nat)=>T.int k) (by rw[e1,t9]) e))]
 rfl
def jk{t:T}(h:bR t=ZC):∃(x y:Int)(r:List Int),t=.tup [.int x,.int y,.tup (r.map .int)]/\(0<=x/\x<=9)/\(0<=y/\y<=9)/\1<=r.length/\r.length<=4:=by
 obtain⟨x,y,r,rfl,h1,h4⟩:=gf h
 have h':(pE x y&&dq (.tup r))=ZC:=h;rw[NC]at h';obtain⟨hp,hr⟩:=h';unfold pE at hp;rw[NC]at hp;obtain⟨i,rfl,i1,i2⟩:=dR hp.1;obtain⟨j,rfl,j1,j2⟩:=dR (t:=y) (a:=i) (b:=9) hp.2;unfold dq at hr;rw[NC]at hr
 have hr2:((r.all λu=>bA u 0 99)&&(match nums r with|some m=>oB m|none=>ZD))=ZC:=hr.2
 rw[NC]at hr2;obtain⟨m,em⟩:=uA hr2.1
 have e:=pT em;subst e;rw[Ny]at h1 h4;exact⟨i,j,m,rfl,⟨by omega,by omega⟩,⟨by omega,by omega⟩,h1,h4⟩
def xB(n:Nat)(t:T):List T:=match t with
 |.tup [.int x,.int y,.tup r] =>match nums r with
  |some m=>cB n x y m
  |none=>[]
 |_=>[]
def bC:Nat->List T->List T
 |_,[] =>[]
 |i,c::r=>xB i c++bC (i+1) r
def lB(t:T):List T:=match t with
 |.tup [a,b,.int le,mo] =>.tup [b,a,.int (-le)] ::(if mo.isN then []else [.tup [a,b,mo]])
 |_=>[]
def EG(cs ls:List T):List T:=bC 0 cs++ls.flatMap lB
def oQ(n:Nat)(x y:Int)(r:List Int):xB n (.tup [.int x,.int y,.tup (r.map .int)])=cB n x y r:=by
 unfold xB;simp only[mr]
def J4(n:Nat)(x y:Int)(r:List Int):(cB n x y r).length=2*(r.length - 1):=by
 unfold cB;rw[List.length_flatMap]
 have:∀l:List Nat,(l.map λk=>(pr n x y r k).length).sum=2*l.length:=by
  intro l
  induction l with
  |nil=>rfl
  |cons a l ih=>rw[Nx,Pz,ih,ND];simp[pr];omega
 rw[this,Pt]
def x6{t:T}(h:bR t=ZC):(xB n t).length<=6:=by
 obtain⟨x,y,r,rfl,_,_,h1,h4⟩:=jk h;rw[oQ,J4];omega
theorem vz:∀{cs:List T}{i:Nat},(∀c∈cs,bR c=ZC)->(bC i cs).length<=6*cs.length
 |[],i,_=>by simp[bC]
 |c::cs,i,h=>by
  rw[bC,NH,ND]
  have:=x6 (n:=i) (h c Nv)
  have:=vz (cs:=cs) (i:=i+1) λc hc=>h c (Nu _ hc)
  omega
def yT(t:T):(lB t).length<=2:=by
 unfold lB;split
 ·rename_i a b le mo
  cases mo.isN <;> simp
 ·simp
theorem Af:∀(ls:List T),(ls.flatMap lB).length<=2*ls.length
 |[] =>by simp
 |t::ls=>by
  rw[P2,NH,ND]
  have:=yT t
  have:=Af ls;omega
variable{cs:List T}
def nU{t:T}(h:bJ cs t=ZC):∃(a b mo:T)(le:Int),t=.tup [a,b,.int le,mo]/\br cs a=ZC/\br cs b=ZC:=by
 obtain⟨a,b,x,y,rfl,hd,ha,hb,_⟩:=mC h;unfold fW at hd;rw[NC]at hd;obtain⟨i,rfl,_⟩:=dR hd.1;exact⟨a,b,y,i,rfl,ha,hb⟩
def Bt{t:T}(h:bJ cs t=ZC):cJ [t]=.ok (.lst (lB t)):=by
 obtain⟨a,b,mo,le,rfl,_,_⟩:=nU h;refine bD rfl ?_
 show eV [.va (.tup [a,b,.int le,mo]),.em]=_
 unfold eV;rw[ay (Z':=[.va (.tup [a,b,.int le,mo]),.ow (.lst [.tup [b,a,.int (-le)]])]) (Dz (l:=[.tup [b,a,.int (-le)]]) (au (cO (au rfl (au rfl (au rfl rfl))) (aB (k:=3) (by simp))) rfl) (by simp) (by simp))]
 have e:∀(Z:En) l,Z=[.va (.tup [a,b,.int le,mo]),.ow (.lst l)]->o2 cS (o2 aX (vr 0) (cn (.int 3))) (cn .non) Z=.ok (.bl (!mo.isN)):=λZ l z=>by subst z;rfl
 have e2:lB (.tup [a,b,.int le,mo])=.tup [b,a,.int (-le)] ::(if mo.isN then []else [.tup [a,b,mo]]):=rfl
 rw[e2]
 cases q:mo.isN with
 |true=>
  rw[ay (Z':=[.va (.tup [a,b,.int le,mo]),.ow (.lst [.tup [b,a,.int (-le)]])]) ((cx (ba (by rw[e _ _ rfl,q];rfl))).trans rfl)]
  rfl
 |false=>
  rw[ay (Z':=[.va (.tup [a,b,.int le,mo]),.ow (.lst ([.tup [b,a,.int (-le)]] ++[.tup [a,b,mo]]))]) ((ff (ba (by rw[e _ _ rfl,q];rfl))).trans (mF (l:=[.tup [b,a,.int (-le)]]) (cO (au rfl (au rfl (au rfl rfl))) (aB (k:=3) (by simp))) rfl (by simp)))]
  rfl
abbrev bdG:T->En->Rs En:=gT 2 (du (gN 2) (du (gN 3) jh))
theorem AD(R:T)(s4:Sl):∀(cs:List T)(acc:List T)(i:Nat)(s2 s3:Sl),(∀c∈cs,bR c=ZC)->acc.length+6*cs.length<=100 →
  ∃y2 y3,bc bdG bdF (ck i cs) [.va R,.ow (.lst acc),s2,s3,s4]=.ok (.nx [.va R,.ow (.lst (acc++bC i cs)),y2,y3,s4])
 |[],acc,i,s2,s3,_,_=>⟨s2,s3,by simp[ck,bc,bC]⟩
 |c::cs,acc,i,s2,s3,hc,hl=>by
  have h0:=hc c Nv
  have hx:=x6 (n:=i) h0;obtain⟨x,y,r,rfl,a1,a2,a3,a4⟩:=jk h0;rw[ND]at hl;rw[oQ]at hx
  have st:bdF [.va R,.ow (.lst acc),.va (.int i),.va (.tup [.int x,.int y,.tup (r.map .int)]),s4]=.ok (.nx [.va R,.ow (.lst (acc++cB i x y r)),.va (.int i),.va (.tup [.int x,.int y,.tup (r.map .int)]),s4]):=
   DB (l:=acc) (aP (ts:=[.int i,.tup [.int x,.int y,.tup (r.map .int)]]) rfl (Ed i x y r a1 a2 a3 a4)) rfl (by omega)
  obtain⟨z2,z3,ih⟩:=AD R s4 cs (acc++cB i x y r) (i+1) (.va (.int i)) (.va (.tup [.int x,.int y,.tup (r.map .int)])) (λc h=>hc c (Nu _ h)) (by rw[NH];omega)
  refine⟨z2,z3,?_⟩
  rw[ck,cP (Z1:=[.va R,.ow (.lst acc),.va (.int i),.va (.tup [.int x,.int y,.tup (r.map .int)]),s4]) rfl st,ih,bC,oQ,NY]
abbrev blF:W4:=pj 1 (cl cJ (af (vr 4) ai))
theorem AB(R:T)(cs:List T)(s2 s3:Sl):∀(ls:List T)(acc:List T)(s4:Sl),(∀t∈ls,bJ cs t=ZC)->acc.length+2*ls.length<=100 →
  ∃y4,bc (gN 4) blF ls [.va R,.ow (.lst acc),s2,s3,s4]=.ok (.nx [.va R,.ow (.lst (acc++ls.flatMap lB)),s2,s3,y4])
 |[],acc,s4,_,_=>⟨s4,by simp[bc]⟩
 |t::ls,acc,s4,hl,hn=>by
  rw[ND]at hn
  have:=yT t
  have st:blF [.va R,.ow (.lst acc),s2,s3,.va t]=.ok (.nx [.va R,.ow (.lst (acc++lB t)),s2,s3,.va t]):=DB (l:=acc) (aP (ts:=[t]) rfl (Bt (hl t Nv))) rfl (by omega)
  obtain⟨y4,ih⟩:=AB R cs s2 s3 ls (acc++lB t) (.va t) (λu h=>hl u (Nu _ h)) (by rw[NH];omega)
  refine⟨y4,?_⟩
  rw[cP (Z1:=[.va R,.ow (.lst acc),s2,s3,.va t]) rfl st,ih,P2,NY]
variable{R:T}
def iQ(hp:R.pl=ZC)(h:fM R=ZC):aY [R]=.ok .non:=by
 refine uY (Z:=[.va R]) rfl ?_
 show eI [.va R]=_
 unfold eI;exact(cx ((hZ (k:=ZC) (ba (aP (ts:=[R]) rfl (by rw[xP R hp,h])))))).trans rfl
def A9(hp:R.pl=ZC)(h:fM R=ZD):aY [R]=.err "NoRecord":=by
 refine yU rfl ?_
 show eI [.va R]=_
 unfold eI;exact(ff ((hZ (k:=ZD) (ba (aP (ts:=[R]) rfl (by rw[xP R hp,h])))))).trans rfl
structure Good (cs ls:List T):Prop where
 c:bw (.tup cs)=ZC
 l:∀t∈ls,bJ cs t=ZC
 n:ls.length<=8
 p:(RR cs ls).pl=ZC
variable{ls:List T}
def Good.ok(g:Good cs ls):fM (RR cs ls)=ZC:=by
 show(bw (.tup cs)&&(fB (.tup ls) 0 8&&ls.all (bJ cs)))=ZC
 rw[g.c,RH,NC,N9];exact⟨by simp[fB];exact g.n,g.l⟩
def Ea(g:Good cs ls):fy [RR cs ls]=.ok (.lst (EG cs ls)):=by
 obtain⟨hc,c1,c4⟩:=de g.c
 have hn:=g.n;refine bD rfl ?_
 show qN [.va (RR cs ls),.em,.em,.em,.em]=_
 unfold qN;rw[ay (oq (t:=.non) (aP (ts:=[RR cs ls]) rfl (iQ g.p g.ok)))];rw[ay (Z':=[.va (RR cs ls),.ow (.lst []),.em,.em,.em]) (ql (by simp))]
 obtain⟨y2,y3,e⟩:=AD (RR cs ls) .em cs [] 0 .em .em hc (by simp;omega)
 rw[ay ((dN (ts:=ck 0 cs) rfl e))]
 have:=vz (i:=0) hc;obtain⟨y4,e2⟩:=AB (RR cs ls) cs y2 y3 ls ([] ++bC 0 cs) .em g.l (by rw[OW];omega)
 rw[ay ((dN (ts:=ls) rfl e2))]
 rfl
abbrev BK(R:T)(acc:List T)(n:Nat)(x y:Int)(r:List Int)(s6 s7 s8 s9 s10 s11:Sl):En:=[.va R,.ow (.lst acc),.va (.int n),.va (.int x),.va (.int y),.va (.tup (r.map .int)),s6,s7,s8,s9,s10,s11]
def Gg(R:T)(n:Nat)(x y:Int)(r:List Int)(acc:List T)(k:Nat)(s7 s8 s9 s10 s11:Sl)(hk:k+1<r.length)(hx:0<=x/\x<=9)(hy:0<=y/\y<=9)(ha:acc.length<=100):
  lkF (BK R acc n x y r (.va (.int ((k+1:Nat):Int))) s7 s8 s9 s10 s11)=.ok (.nx (BK R (acc++pr n x y r k) n x y r (.va (.int ((k+1:Nat):Int))) (.va (.int (dr r k))) s8 s9 s10 s11)):=by
 have sb:∀acc s7,o2 cR (vr 6) (cn (.int 1)) (BK R acc n x y r (.va (.int ((k+1:Nat):Int))) s7 s8 s9 s10 s11)=.ok (.int k):=λacc s7=>aD (t:=.int ((k+1:Nat):Int)) (u:=.int 1) rfl rfl (congrArg (λz=>Rs.ok (T.int z)) (by omega))
 refine(ay (Z':=BK R acc n x y r (.va (.int ((k+1:Nat):Int))) (.va (.int (dr r k))) s8 s9 s10 s11) (bW (t:=.int (dr r k)) (aD (t:=.int (r.getD (k+1) 0)) (u:=.int (r.getD k 0)) (Bj (n:=k+1) rfl rfl (oH hk)) (Bj (n:=k) rfl (sb acc s7) (oH (by omega))) rfl) rfl)).trans ?_
 refine(ay (Z':=BK R (acc++[.tup [.tup [.int n,.int k],.tup [.int n,.int ((k+1:Nat):Int)],.int (dr r k*y)]]) n x y r (.va (.int ((k+1:Nat):Int))) (.va (.int (dr r k))) s8 s9 s10 s11) (mF (l:=acc) (cO (au (cO (au rfl (au (sb _ _) rfl)) (aB (k:=2) (by simp))) (au (cO rfl (aB (k:=2) (by simp))) (au (aD (t:=.int y) (u:=.int (dr r k)) rfl rfl ((my (by omega) (by omega)).trans (by rw[Int.mul_comm]))) rfl))) (aB (k:=3) (by simp))) rfl (by omega))).trans ?_
 refine(mF (l:=acc++[.tup [.tup [.int n,.int k],.tup [.int n,.int ((k+1:Nat):Int)],.int (dr r k*y)]]) (t:=.tup [.tup [.int n,.int ((k+1:Nat):Int)],.tup [.int n,.int k],.int (-dr r k*x)]) (cO (au (cO rfl (aB (k:=2) (by simp))) (au (cO (au rfl (au (sb _ _) rfl)) (aB (k:=2) (by simp))) (au (aD (t:=.int 0) (u:=.int (x*dr r k)) rfl (aD (t:=.int x) (u:=.int (dr r k)) rfl rfl (my (by omega) (by omega))) (congrArg (λz=>Rs.ok (T.int z)) (by rw[Int.neg_mul,Int.mul_comm x,VL]))) rfl))) (aB (k:=3) (by simp))) rfl (by rw[NH];simp;omega)).trans ?_
 rw[NY]
 rfl
theorem zY(R:T)(n:Nat)(x y:Int)(r:List Int)(s8 s9 s10 s11:Sl)(hx:0<=x/\x<=9)(hy:0<=y/\y<=9):∀(js:List Nat)(acc:List T)(s6 s7:Sl),(∀k∈js,k+1<r.length)->acc.length+2*js.length<=100 →
  ∃t6 t7,bc (gN 6) lkF (js.map λ(k:Nat)=>T.int ((k+1:Nat):Int)) (BK R acc n x y r s6 s7 s8 s9 s10 s11)=.ok (.nx (BK R (acc++js.flatMap (pr n x y r)) n x y r t6 t7 s8 s9 s10 s11))
 |[],acc,s6,s7,_,_=>⟨s6,s7,by simp[bc]⟩
 |k::js,acc,s6,s7,hk,hl=>by
  rw[ND]at hl
  have e:=Gg R n x y r acc k s7 s8 s9 s10 s11 (hk k Nv) hx hy (by omega)
  obtain⟨t6,t7,ih⟩:=zY R n x y r s8 s9 s10 s11 hx hy js (acc++pr n x y r k) (.va (.int ((k+1:Nat):Int))) (.va (.int (dr r k))) (λj hj=>hk j (Nu _ hj)) (by rw[NH];simp[pr];omega)
  refine⟨t6,t7,?_⟩
  rw[Nx,cP (Z1:=BK R acc n x y r (.va (.int ((k+1:Nat):Int))) s7 s8 s9 s10 s11) rfl e,ih,P2,NY]
def Fj(n:Nat)(h:1<=n):rng 1 (n:Int)=(OU (n - 1)).map λ(k:Nat)=>T.int ((k+1:Nat):Int):=by
 unfold rng
 have:((n:Int) - 1).toNat=n - 1:=by omega
 rw[this];exact N6 λk _=>congrArg T.int (by omega)
variable{Z:En}
def iR2{f:W3}{i j:Int}(h:f Z=.ok [.int i,.int j])(h0:0<=i)(h1:i<=100000)(h2:0<=j)(h3:j<=100000):iR f Z=.ok (rng i j):=by
 unfold iR;rw[h]
 have e:(vJ i&&vJ j)=ZC:=by unfold vJ;simp;omega
 show(if (vJ i&&vJ j)=ZC then _ else _)=_
 rw[e];rfl
abbrev Lm:W4:=(dS (iR (af (cn (.int 1)) (af (cl dh (af (vr 5) ai)) ai))) (gN 6) lkF)
abbrev lcG:T->En->Rs En:=gT 2 (du (gN 2) (du (gT 3 (du (gN 3) (du (gN 4) (du (gN 5) jh)))) jh))
theorem Ad(R:T)(s8 s9 s10 s11:Sl):∀(cs:List T)(acc:List T)(i:Nat)(s2 s3 s4 s5 s6 s7:Sl),(∀c∈cs,bR c=ZC)->acc.length+6*cs.length<=90 →
  ∃y2 y3 y4 y5 y6 y7,bc lcG Lm (ck i cs) [.va R,.ow (.lst acc),s2,s3,s4,s5,s6,s7,s8,s9,s10,s11]=.ok (.nx [.va R,.ow (.lst (acc++bC i cs)),y2,y3,y4,y5,y6,y7,s8,s9,s10,s11])
 |[],acc,i,s2,s3,s4,s5,s6,s7,_,_=>⟨s2,s3,s4,s5,s6,s7,by simp[ck,bc,bC]⟩
 |c::cs,acc,i,s2,s3,s4,s5,s6,s7,hc,hl=>by
  have h0:=hc c Nv
  have hx:=x6 (n:=i) h0;obtain⟨x,y,r,rfl,a1,a2,a3,a4⟩:=jk h0;rw[ND]at hl;rw[oQ]at hx;obtain⟨t6,t7,e⟩:=zY R i x y r s8 s9 s10 s11 a1 a2 (OU (r.length - 1)) acc s6 s7 (λk hk=>by have:=Pa.mp hk;omega) (by rw[Pt];omega)
  have e1:iR (af (cn (.int 1)) (af (cl dh (af (vr 5) ai)) ai)) (BK R acc i x y r s6 s7 s8 s9 s10 s11)=.ok (rng 1 (r.length:Nat)):=
   iR2 (i:=1) (j:=(r.length:Nat)) (au rfl (au (aP (ts:=[.tup (r.map .int)]) rfl (by show Rs.ok (T.int ((r.map T.int).length:Nat))=_;rw[Ny])) rfl)) (by omega) (by omega) (by omega) (by omega)
  have st:Lm (BK R acc i x y r s6 s7 s8 s9 s10 s11)=.ok (.nx (BK R (acc++cB i x y r) i x y r t6 t7 s8 s9 s10 s11)):=(dN (ts:=(OU (r.length - 1)).map λ(k:Nat)=>T.int ((k+1:Nat):Int)) (by rw[e1,Fj _ a3]) e)
  obtain⟨z2,z3,z4,z5,z6,z7,ih⟩:=Ad R s8 s9 s10 s11 cs (acc++cB i x y r) (i+1) (.va (.int i)) (.va (.int x)) (.va (.int y)) (.va (.tup (r.map .int))) t6 t7 (λc h=>hc c (Nu _ h)) (by rw[NH];omega)
  refine⟨z2,z3,z4,z5,z6,z7,?_⟩
  rw[ck,cP (Z1:=BK R acc i x y r s6 s7 s8 s9 s10 s11) rfl st,ih,bC,oQ,NY]
abbrev llG:T->En->Rs En:=gT 4 (du (gN 8) (du (gN 9) (du (gN 10) (du (gN 11) jh))))
theorem zX(R:T)(cs:List T)(s2 s3 s4 s5 s6 s7:Sl):∀(ls:List T)(acc:List T)(s8 s9 s10 s11:Sl),(∀t∈ls,bJ cs t=ZC)->acc.length+2*ls.length<=100 →
  ∃y8 y9 y10 y11,bc llG llF ls [.va R,.ow (.lst acc),s2,s3,s4,s5,s6,s7,s8,s9,s10,s11]=.ok (.nx [.va R,.ow (.lst (acc++ls.flatMap lB)),s2,s3,s4,s5,s6,s7,y8,y9,y10,y11])
 |[],acc,s8,s9,s10,s11,_,_=>⟨s8,s9,s10,s11,by simp[bc]⟩
 |t::ls,acc,s8,s9,s10,s11,hl,hn=>by
  rw[ND]at hn
  have hlb:=yT t;obtain⟨a,b,mo,le,rfl,_,_⟩:=nU (hl t Nv)
  have e2:lB (.tup [a,b,.int le,mo])=.tup [b,a,.int (-le)] ::(if mo.isN then []else [.tup [a,b,mo]]):=rfl
  have e:∀l,o2 cS (vr 11) (cn .non) [.va R,.ow (.lst l),s2,s3,s4,s5,s6,s7,.va a,.va b,.va (.int le),.va mo]=.ok (.bl (!mo.isN)):=λl=>rfl
  have st:llF [.va R,.ow (.lst acc),s2,s3,s4,s5,s6,s7,.va a,.va b,.va (.int le),.va mo]=.ok (.nx [.va R,.ow (.lst (acc++lB (.tup [a,b,.int le,mo]))),s2,s3,s4,s5,s6,s7,.va a,.va b,.va (.int le),.va mo]):=by
   refine(ay (Z':=[.va R,.ow (.lst (acc++[.tup [b,a,.int (-le)]])),s2,s3,s4,s5,s6,s7,.va a,.va b,.va (.int le),.va mo]) (mF (l:=acc) (t:=.tup [b,a,.int (-le)]) (cO (au rfl (au rfl (au (aD (t:=.int 0) (u:=.int le) rfl rfl (congrArg (λz=>Rs.ok (T.int z)) (VL le))) rfl))) (aB (k:=3) (by simp))) rfl (by omega))).trans ?_
   rw[e2]
   cases q:mo.isN with
   |true=>exact(cx (ba (by rw[e,q];rfl))).trans rfl
   |false=>
    refine(ff (ba (by rw[e,q];rfl))).trans ((mF (l:=acc++[.tup [b,a,.int (-le)]]) (t:=.tup [a,b,mo]) (cO (au rfl (au rfl (au rfl rfl))) (aB (k:=3) (by simp))) rfl (by rw[NH];simp;omega)).trans ?_)
    rw[NY]
    rfl
  obtain⟨y8,y9,y10,y11,ih⟩:=zX R cs s2 s3 s4 s5 s6 s7 ls (acc++lB (.tup [a,b,.int le,mo])) (.va a) (.va b) (.va (.int le)) (.va mo) (λu h=>hl u (Nu _ h)) (by rw[NH];omega)
  refine⟨y8,y9,y10,y11,?_⟩
  rw[cP (Z1:=[.va R,.ow (.lst acc),s2,s3,s4,s5,s6,s7,.va a,.va b,.va (.int le),.va mo]) rfl st,ih,P2,NY]
def Bs(hcs:bw (.tup cs)=ZC)(hls:∀t∈ls,bJ cs t=ZC)(hn:ls.length<=8):eG [RR cs ls]=.ok (.lst (EG cs ls)):=by
 obtain⟨hc,c1,c4⟩:=de hcs;refine bD rfl ?_
 show iF [.va (RR cs ls),.em,.em,.em,.em,.em,.em,.em,.em,.em,.em,.em]=_
 unfold iF;rw[ay (Z':=[.va (RR cs ls),.ow (.lst []),.em,.em,.em,.em,.em,.em,.em,.em,.em,.em]) (ql (by simp))]
 obtain⟨y2,y3,y4,y5,y6,y7,e⟩:=Ad (RR cs ls) .em .em .em .em cs [] 0 .em .em .em .em .em .em hc (by simp;omega)
 rw[ay ((dN (ts:=ck 0 cs) rfl e))]
 have:=vz (i:=0) hc;obtain⟨y8,y9,y10,y11,e2⟩:=zX (RR cs ls) cs y2 y3 y4 y5 y6 y7 ls ([] ++bC 0 cs) .em .em .em .em hls (by rw[OW];omega)
 rw[ay ((dN (ts:=ls) rfl e2))]
 rfl
variable{l:List T}
def pB:(T.tup l).pl=plS l:=by unfold T.pl;rfl
def Good.parts(g:Good cs ls):(T.tup cs).pl=ZC/\∀t∈ls,t.pl=ZC:=by
 have:=g.p;rw[pB]at this;unfold plS at this;rw[NC]at this
 have h2:=this.2;unfold plS at h2;rw[NC,pB]at h2;exact⟨this.1,λt ht=>i8 h2.1 ht⟩
def FY{r:Int}(h0:0<=r)(h1:r<l.length):∃t∈l,aX (.lst l) (.int r)=.ok t:=by
 obtain⟨n,rfl⟩:=OI h0
 have hn:n<l.length:=by omega
 exact⟨l[n],OG hn,yV hn⟩
def Ce{t:T}(h:sm 8 t=ZC):t.pl=ZC:=Hi t h
def wK(c0 s1:Sl)(x y:T)(r:List T)(i:Nat)(h:r.length<=4):
  ee (iR (af (cl dh (af (o2 aX (vr 3) (cn (.int 2))) ai)) ai)) [ZB,ZA 2] (gN 0) bT (bx (af (vr 1) (af (vr 0) ai))) [c0,s1,.va (.int i),.va (.tup [x,y,.tup r])]=.ok (.lst (mJ i r.length)):=
 qm (JM (j:=(r.length:Int)) rfl (by omega) (by omega)) (aB (k:=4) (by rw[kC];exact h)) (by simp) λt _=>mk2 _ _
theorem zM:∀(cs:List T)(c0:T)(acc:List T)(i:Nat)(s2 s3:Sl),(∀c∈cs,bR c=ZC)->acc.length+4*cs.length<=100 →
  ∃y2 y3,bc evG peF (ck i cs) [.va c0,.ow (.lst acc),s2,s3]=.ok (.nx [.va c0,.ow (.lst (acc++fI i cs)),y2,y3])
 |[],c0,acc,i,s2,s3,_,_=>⟨s2,s3,by simp[ck,bc,fI]⟩
 |c::cs,c0,acc,i,s2,s3,hc,hl=>by
  obtain⟨x,y,r,rfl,r1,r2⟩:=gf (hc c Nv);rw[ND]at hl
  have st:peF [.va c0,.ow (.lst acc),.va (.int i),.va (.tup [x,y,.tup r])]=.ok (.nx [.va c0,.ow (.lst (acc++mJ i r.length)),.va (.int i),.va (.tup [x,y,.tup r])]):=DB (l:=acc) (wK _ _ x y r i r2) rfl (by rw[iX];omega)
  obtain⟨z2,z3,ih⟩:=zM cs c0 (acc++mJ i r.length) (i+1) (.va (.int i)) (.va (.tup [x,y,.tup r])) (λc h=>hc c (Nu _ h)) (by rw[NH,iX];omega)
  refine⟨z2,z3,?_⟩
  rw[ck,cP (Z1:=[.va c0,.ow (.lst acc),.va (.int i),.va (.tup [x,y,.tup r])]) rfl st,ih,fI,NY]
  rfl
def CT(g:Good cs ls):cw [RR cs ls]=.ok (.lst (fI 0 cs)):=by
 obtain⟨hc,c1,c4⟩:=de g.c;refine bD rfl ?_
 show qM [.va (RR cs ls),.em,.em,.em]=_
 unfold qM;rw[ay (oq (t:=.non) (aP (ts:=[RR cs ls]) rfl (iQ g.p g.ok)))];rw[ay (Z':=[.va (RR cs ls),.ow (.lst []),.em,.em]) (ql (by simp))]
 obtain⟨y2,y3,e⟩:=zM cs (RR cs ls) [] 0 .em .em hc (by simp;omega)
 rw[ay ((dN (ts:=ck 0 cs) rfl e))]
 rfl
def uO{t:T}(g:Good cs ls)(ht:t.pl=ZC)(h:br cs t=ZC):cU [RR cs ls,t]=.ok .non:=by
 refine uY (Z:=[.va (RR cs ls),.va t]) rfl ?_
 show jn [.va (RR cs ls),.va t]=_
 unfold jn;exact(cx ((hZ (k:=ZC) (ba (aP (ts:=[.tup cs,t]) rfl (by rw[vg cs t g.c ht,h])))))).trans rfl
variable{g:T->En->Rs En}{ts:List T}
def ni{F:W4}(J:En->Prop)(h:∀t∈ts,∀Z,J Z->∃Z1 Z2,g t Z=.ok Z1/\F Z1=.ok (.nx Z2)/\J Z2)(hj:J Z):∃Z',bc g F ts Z=.ok (.nx Z')/\J Z':=
 (xt (p:=λ_=>ZC) J ts (λt ht Z hj=>by
  obtain⟨Z1,Z2,a,b,c⟩:=h t ht Z hj;exact⟨Z1,a,λ_=>⟨Z2,b,c⟩,λh=>by cases h⟩) Z hj).1 (by simp)
def p2{a b:W5}{t u:T}(ha:a Z=.ok t)(hb:b Z=.ok u):bx (af a (af b ai)) Z=.ok (.tup [t,u]):=cO (au ha (au hb rfl)) (aB (k:=2) (by simp))
def mU:fN [.lst l]=.ok (.tup l):=rfl
def GS(g:Good cs ls):(EG cs ls).length<=60:=by
 unfold EG;rw[NH];obtain⟨hc,c1,c4⟩:=de g.c
 have:=vz (i:=0) hc
 have:=Af ls
 have:=g.n;omega
open Gr
structure N2 where
 c:Int
 k:Int
deriving DecidableEq
theorem N2.ext':∀{u v:N2},u.c=v.c->u.k=v.k->u=v
 |⟨_,_⟩,⟨_,_⟩,rfl,rfl=>rfl
def en(v:N2):T:=.tup [.int v.c,.int v.k]
def eB(x:N2×N2×Int):T:=.tup [en x.1,en x.2.1,.int x.2.2]
def eN(ks:List Nat):List T:=ks.map λk=>.int (k:Nat)
def eW(x:Int×List Nat):T:=.tup [.int x.1,.lst (eN x.2)]
def ky(v:N2):List L2.Key:=[.inl v.c,.inl v.k]
def bu(v:N2):keyOf (en v)=ZA (ky v):=rfl
variable{v:N2}
def jg{u:N2}(h:ZA (ky u)=ZA (ky v)):u=v:=by
 injection h with h
 injection h with h1 h2
 injection h2 with h2 _
 injection h1 with h1
 injection h2 with h2
 exact N2.ext' h1 h2
def qz{u:N2}(h:en u=en v):u=v:=jg (by rw[<-bu u,<-bu v,h])
def zh(u v:N2):bh (en u) (en v)=decide (u=v):=by
 unfold en bh beqTs bh beqTs beqTs
 by_cases h:u=v
 ·subst h;simp[bh]
 ·have:¬ (u.c=v.c/\u.k=v.k):=λz=>h (N2.ext' z.1 z.2)
  simp[h,bh];exact λz=>λy=>this ⟨z,y⟩
theorem mM(g:N2->T)(v:N2):∀(ns:List N2),kX (ns.map en) (ns.map g) (ky v)=if v∈ns then ZA (g v)else ZB
 |[] =>rfl
 |u::ns=>by
  rw[Nx,Nx,kX,bu]
  by_cases h:u=v
  ·subst h;rw[if_pos rfl,if_pos Nv]
  ·rw[if_neg (λz=>h (jg z)),mM g v ns]
   have:(v∈u::ns)↔v∈ns:=by rw[NG];exact⟨λz=>z.elim (λy=>absurd y.symm h) id,.inr⟩
   simp only[this]
theorem kf(x:T)(v:N2)(g:N2->T):∀(ns:List N2),v∉ns->gD (en v) x (ns.map en) (ns.map g)=(ns.map en++[en v],ns.map g++[x])
 |[],_=>rfl
 |u::ns,h=>by
  rw[NG,not_or]at h;rw[Nx,Nx,gD,bu,bu,if_neg (λz=>h.1 (jg z).symm),kf x v g ns h.2]
  rfl
theorem vh(x:T)(v:N2)(g:N2->T):∀(ns:List N2),ns.Nodup->v∈ns->gD (en v) x (ns.map en) (ns.map g)=(ns.map en,ns.map λu=>if u=v then x else g u)
 |[],_,h=>by simp at h
 |u::ns,hn,h=>by
  rw[Oc]at hn;rw[Nx,Nx,Nx,gD,bu,bu]
  by_cases z:u=v
  ·subst z
   rw[if_pos rfl,if_pos rfl]
   congr 2
   exact N6 λw hw=>by rw[if_neg (λ(y:w=u)=>hn.1 (y▸hw))]
  ·rw[if_neg (λy=>z (jg y)),if_neg z]
   have h':v∈ns:=(NG.mp h).elim (λy=>absurd y.symm z) id
   rw[vh x v g ns hn.2 h']
theorem kF [DecidableEq α]:∀{l m:List α},l.Nodup->(∀x∈l,x∈m)->l.length<=m.length
 |[],_,_,_=>O4 _
 |x::l,m,hn,h=>by
  rw[Oc]at hn
  have hx:=h x Nv
  have:=kF (m:=m.erase x) hn.2 λy hy=>(Uz (λ(z:y=x)=>hn.1 (z▸hy))).mpr (h y (Nu _ hy))
  rw[List.length_erase_of_mem hx]at this
  have:0<m.length:=List.length_pos_of_mem hx;rw[ND];omega
def oW(o:Option (Int×List Nat)):T:=match o with
 |some x=>eW x
 |none=>.non
structure DR (P ns:List N2)(b:cD N2):Prop where
 nd:ns.Nodup
 mem:∀v,v∈ns↔(b v).isSome=ZC
 sub:∀v∈ns,v∈P
def dV(ns:List N2)(b:cD N2):List T:=ns.map λv=>oW (b v)
variable{P ns:List N2}{b:cD N2}
def DR.get(D:DR P ns b)(v:N2):kX (ns.map en) (dV ns b) (ky v)=(b v).map eW:=by
 unfold dV;rw[mM (λv=>oW (b v))]
 have:=D.mem v
 cases q:b v with
 |none=>rw[q]at this;rw[if_neg (λz=>by simpa using this.mp z)];rfl
 |some x=>rw[q]at this;rw[if_pos (this.mpr rfl)];rfl
def DR.put(D:DR P ns b)(hv:v∈P)(y:Int×List Nat):∃ns',DR P ns' (Gr.put b v y)/\gD (en v) (eW y) (ns.map en) (dV ns b)=(ns'.map en,dV ns' (Gr.put b v y)):=by
 by_cases h:v∈ns
 ·refine⟨ns,⟨D.nd,λu=>?_,D.sub⟩,?_⟩
  ·by_cases z:u=v
   ·subst z;rw[fw];exact⟨λ_=>rfl,λ_=>h⟩
   ·rw[lI z];exact D.mem u
  ·unfold dV
   rw[vh _ _ _ _ D.nd h]
   congr 1
   refine N6 λu _=>?_
   by_cases z:u=v
   ·subst z;rw[if_pos rfl,fw];rfl
   ·rw[if_neg z,lI z]
 ·refine⟨ns++[v],⟨?_,λu=>?_,λu hu=>?_⟩,?_⟩
  ·exact OP.mpr ⟨D.nd,by simp,λx hx y hy=>by simp at hy;subst hy;exact λz=>h (z▸hx)⟩
  ·rw[Oa,NR]
   by_cases z:u=v
   ·subst z;rw[fw];exact⟨λ_=>rfl,λ_=>.inr rfl⟩
   ·rw[lI z,<-D.mem u];exact⟨λw=>w.elim id λy=>absurd y z,.inl⟩
  ·rcases Oa.mp hu with w|w
   ·exact D.sub u w
   ·rw[NR.mp w];exact hv
  ·unfold dV
   rw[kf _ _ _ _ h,Oe,Oe]
   congr 1
   congr 1
   ·refine N6 λu hu=>?_
    rw[lI (λ(z:u=v)=>h (z▸hu))]
   ·simp[fw,oW]
def Eb(D:DR P ns b)(x:N2×N2×Int)(d:Int)(w:List Nat):
  dY [.dct (ns.map en) (dV ns b),eB x,eW (d,w)]=.ok (.bl (fE b x.2.1 (d+x.2.2))):=by
 refine bD rfl ?_
 show kr [.va (.dct (ns.map en) (dV ns b)),.va (eB x),.va (eW (d,w)),.em]=_
 unfold kr
 have g:oD jG (vr 0) (o2 aX (vr 1) (cn (.int 1))) [.va (.dct (ns.map en) (dV ns b)),.va (eB x),.va (eW (d,w)),.em]=.ok (oW (b x.2.1)):=by
  refine Lu (ks:=ns.map en) (vs:=dV ns b) (u:=en x.2.1) rfl rfl ?_
  unfold jG;rw[bu];simp only[D.get];cases b x.2.1 <;> rfl
 rw[ay (bW (t:=oW (b x.2.1)) (Z':=[.va (.dct (ns.map en) (dV ns b)),.va (eB x),.va (eW (d,w)),.va (oW (b x.2.1))]) g rfl)];refine bS ?_
 unfold fE
 cases q:b x.2.1 with
 |none=>exact Dw (aD (t:=.non) (u:=.non) rfl rfl rfl)
 |some y=>exact(Dx (aD (t:=eW y) (u:=.non) rfl rfl rfl)).trans (aD (t:=.int (d+x.2.2)) (u:=.int y.1) rfl rfl rfl)
abbrev L7:T->En->Rs En:=gT 2 (du (gN 4) (du (gN 5) jh))
def eL(L:bX N2):T:=.lst (L.map eB)
def Cb(L:bX N2)(t:T):T:=match t with
 |.int j=>match L[j.toNat]? with
  |some x=>en x.1
  |none=>.non
 |_=>.non
variable{L:bX N2}
theorem zP:∀{ks:List Nat}{a b:N2},Ch L a ks b->(eN ks).map (Cb L)=(fH L ks).map en
 |[],_,_,_=>rfl
 |k::r,a,b,h=>by
  rw[h.KM];obtain⟨c,m,e,h⟩:=h
  show Cb L (.int k)::(eN r).map (Cb L)=en a::(fH L r).map en
  rw[zP h]
  congr 1
  unfold Cb;simp only[ON,e]
theorem Ep(v:N2):∀(l:List N2),kj (en v) (l.map en)=decide (v∈l)
 |[] =>rfl
 |u::l=>by
  have ih:=Ep v l;unfold kj at ih ⊢;rw[Nx,QF,ih,zh]
  by_cases h:u=v
  ·subst h;simp
  ·have h':¬ v=u:=λz=>h z.symm
   simp[h,h']
theorem xN(v:N2):∀(l:List N2)(n:Nat),v∈l->kO (en v) (l.map en) n=ZA (n+l.idxOf v)
 |[],n,h=>by simp at h
 |u::l,n,h=>by
  rw[Nx,kO,zh,Wr]
  by_cases z:u=v
  ·subst z;simp
  ·have h':v∈l:=(NG.mp h).elim (λy=>absurd y.symm z) id
   have zb:(u == v)=ZD:=by rw[beq_eq_false_iff_ne];exact z
   rw[zb,decide_eq_false z,if_neg N3,xN v l (n+1) h'];simp only[cond_false]
   congr 1
   omega
def Hq(v:N2):(en v).nd=ZC:=rfl
theorem uQ(f:α->T)(h:∀a,(f a).nd=ZC):∀l:List α,nds (l.map f)=ZC
 |[] =>rfl
 |a::l=>by rw[Nx,nds,h a,uQ f h l];rfl
def zd(v:N2):(en v).dep<=60:=by show(T.tup [.int v.c,.int v.k]).dep<=60;simp[T.dep,deps]
def LA(v:N2)(l:List N2):Kd (en v) (.lst (l.map en))=.ok (.bl (decide (v∈l))):=by
 show(if (_\/_)/\_/\(T.lst (l.map en)).nd=ZC then _ else _)=_
 rw[if_pos ⟨.inl (zd v),rfl,uQ en Hq l⟩,Ep]
def qr(v:N2)(l:List N2)(h:v∈l):eO (.lst (l.map en)) (en v)=.ok (.int ((l.idxOf v:Nat):Int)):=by
 unfold eO;simp only;rw[if_pos ⟨.inl (zd v),rfl,uQ en Hq l⟩,xN v l 0 h,T2]
def JW(p q:List Nat):eN (p++q)=eN p++eN q:=by unfold eN;rw[Oe]
theorem C6(D:Bool):∀ks:List Nat,nks D (eN ks)=ZC
 |[] =>rfl
 |k::r=>by show nks D (.int k::eN r)=ZC;unfold nks;rw[C6 D r];rfl
variable{a:N2}
def Ch.len{b:N2}(h:Ch L a ks b)(hn:(fH L ks).Nodup):ks.length<=L.length:=by
 have:=kF (h.nodup hn) (m:=OU L.length) λk hk=>Pa.mpr (h.lt k hk)
 rwa [Pt]at this
abbrev sE(L:bX N2)(st:T)(o:OT)(b:Bool)(k:Nat)(x:N2×N2×Int)(s6 s7 s8:Sl):En:=[.va (eL L),.va st,.ow o,.va (.bl b),.va (.int k),.va (eB x),s6,s7,s8]
def HA(L:bX N2)(P ns:List N2)(b:cD N2)(k:Nat)(x:N2×N2×Int)(st:T)(mv:Bool)(s6 s7 s8:Sl):Sum (Option (cD N2)) (List Nat)->Prop
 |.inl ZB=>∃s6' s7' s8',EF (sE L st (.dct (ns.map en) (dV ns b)) mv k x s6 s7 s8)=.ok (.ct (sE L st (.dct (ns.map en) (dV ns b)) mv k x s6' s7' s8'))
 |.inl (ZA b')=>∃ns' s6' s7' s8',DR P ns' b'/\EF (sE L st (.dct (ns.map en) (dV ns b)) mv k x s6 s7 s8)=.ok (.nx (sE L st (.dct (ns'.map en) (dV ns' b')) ZC k x s6' s7' s8'))
 |.inr q=>EF (sE L st (.dct (ns.map en) (dV ns b)) mv k x s6 s7 s8)=.ok (.rt (.tup [.non,.lst (eN q)]))
def Fh{S:List N2}{k:Nat}{x:N2×N2×Int}(K:Kept L S b)(D:DR P ns b)(hL:L.length<=500)(hP:P.length<1000)(e:L[k]?=ZA x)(hx:x.2.1∈P)(st:T)(mv:Bool)(s6 s7 s8:Sl):
  HA L P ns b k x st mv s6 s7 s8 (iO L b k x):=by
 obtain⟨a,c,m⟩:=x;unfold HA
 generalize hks:ns.map en=ks
 generalize hvs:dV ns b=vs
 have get:∀s7 s8,ln 2 (oD jG (vr 2) (o2 aX (vr 5) (cn (.int 0)))) (sE L st (.dct ks vs) mv k (a,c,m) s6 s7 s8)=.ok (oW (b a)):=λs7 s8=>by
  refine Gp (o:=.dct ks vs) rfl (Lu (ks:=ks) (vs:=vs) (u:=en a) rfl rfl ?_) ?_
  ·unfold jG
   rw[bu,<-hks,<-hvs];simp only[D.get];cases b a <;> rfl
  ·cases b a with
   |none=>rfl
   |some y=>show nks ZC [.int y.1,.lst (eN y.2)]=ZC;simp[nks,T.nk,C6]
 have s1:∀G,aw (cM (ln 2 (oD jG (vr 2) (o2 aX (vr 5) (cn (.int 0))))) (gN 6)) G (sE L st (.dct ks vs) mv k (a,c,m) s6 s7 s8)=G (sE L st (.dct ks vs) mv k (a,c,m) (.va (oW (b a))) s7 s8):=λG=>
  ay (bW (t:=oW (b a)) (get s7 s8) rfl)
 cases qa:b a with
 |none=>
  rw[show iO L b k (a,c,m)=.inl ZB from by unfold iO;simp only[qa]]
  simp only;refine⟨.va .non,s7,s8,?_⟩
  unfold EF;rw[s1,qa]
  exact Dv (ff (F:=Hj) (Ai (ba (aD (t:=.non) (u:=.non) rfl rfl rfl))))
 |some y=>
  obtain⟨d,w⟩:=y
  have bt:∀s7 s8,Jr 2 (tb (cl dY (af (vr 2) (af (vr 5) (af (vr 6) ai))))) (sE L st (.dct ks vs) mv k (a,c,m) (.va (eW (d,w))) s7 s8)=.ok (fE b c (d+m)):=λs7 s8=>by
   refine Lv (ba (aP (ts:=[.dct ks vs,eB (a,c,m),eW (d,w)]) rfl ?_))
   rw[<-hks,<-hvs];exact Eb D (a,c,m) d w
  have nn:tb (o2 gp (vr 6) (cn .non)) (sE L st (.dct ks vs) mv k (a,c,m) (.va (eW (d,w))) s7 s8)=.ok ZD:=ba (aD (t:=eW (d,w)) (u:=.non) rfl rfl rfl)
  have cond:=nW nn (hZ (bt s7 s8))
  have s1':∀G,aw (cM (ln 2 (oD jG (vr 2) (o2 aX (vr 5) (cn (.int 0))))) (gN 6)) G (sE L st (.dct ks vs) mv k (a,c,m) s6 s7 s8)=G (sE L st (.dct ks vs) mv k (a,c,m) (.va (eW (d,w))) s7 s8):=λG=>by rw[s1 G,qa];rfl
  cases hb:fE b c (d+m)with
  |false=>
   rw[show iO L b k (a,c,m)=.inl ZB from by unfold iO;simp only[qa,hb];rfl]
   simp only;rw[hb]at cond;refine⟨.va (eW (d,w)),s7,s8,?_⟩
   unfold EF;rw[s1']
   exact Dv (ff (F:=Hj) cond)
  |true=>
   rw[hb]at cond;obtain⟨s,hs,h1,h2,h3,h4,h5⟩:=K.walk a d w qa
   have hch:Ch L s (w++[k]) c:=h1.snoc e
   have hwl:w.length<=500:=Oj (Ch.len h1 h4) hL
   have s2:∀G,aw (dQ (lW (tb (o2 gp (vr 6) (cn .non))) (dg (Jr 2 (tb (cl dY (af (vr 2) (af (vr 5) (af (vr 6) ai)))))))) Hj sN) G (sE L st (.dct ks vs) mv k (a,c,m) (.va (eW (d,w))) s7 s8)=G (sE L st (.dct ks vs) mv k (a,c,m) (.va (eW (d,w))) s7 s8):=λG=>
    ay (Z':=(sE L st (.dct ks vs) mv k (a,c,m) (.va (eW (d,w))) s7 s8)) ((cx (F:=Hj) (G:=sN) cond).trans rfl)
   have wk:o2 aS (o2 aX (vr 6) (cn (.int 1))) (dF (af (vr 4) ai)) (sE L st (.dct ks vs) mv k (a,c,m) (.va (eW (d,w))) s7 s8)=.ok (.lst (eN (w++[k]))):=by
    refine aD (t:=.lst (eN w)) (u:=.lst (eN [k])) rfl (mE (ts:=[.int k]) rfl (aB (k:=1) (by simp))) ?_
    show lA (eN w++eN [k])=_
    rw[<-JW];unfold lA;rw[if_pos (aB (k:=1000) (by unfold eN;rw[Ny,NH];simp;omega))]
   have s3:∀G,aw (cM (o2 aS (o2 aX (vr 6) (cn (.int 1))) (dF (af (vr 4) ai))) (gN 7)) G (sE L st (.dct ks vs) mv k (a,c,m) (.va (eW (d,w))) s7 s8)=G (sE L st (.dct ks vs) mv k (a,c,m) (.va (eW (d,w))) (.va (.lst (eN (w++[k])))) s8):=λG=>ay (bW wk rfl)
   have ps:ee (iS (vr 7)) [ZB,ZA 0] (gN 0) bT (o2 aX (o2 aX (vr 1) (vr 0)) (cn (.int 0))) (sE L st (.dct ks vs) mv k (a,c,m) (.va (eW (d,w))) (.va (.lst (eN (w++[k])))) s8)=.ok (.lst ((fH L (w++[k])).map en)):=by
    rw[<-zP hch];refine qm (ts:=eN (w++[k])) (gR rfl) (aB (k:=1000) (by unfold eN;rw[Ny,NH];simp;omega)) (by simp) λt ht=>?_
    unfold eN at ht;obtain⟨j,hj,rfl⟩:=NS.mp ht
    have hjl:=hch.lt j hj;refine aD (t:=eB L[j]) (u:=.int 0) (xF (l:=L.map eB) (n:=j) rfl rfl (by rw[NU,NF hjl];rfl)) rfl ?_
    unfold Cb;simp only[ON,NF hjl]
    rfl
   have s4:∀G,aw (cM (ee (iS (vr 7)) [ZB,ZA 0] (gN 0) bT (o2 aX (o2 aX (vr 1) (vr 0)) (cn (.int 0)))) (gN 8)) G (sE L st (.dct ks vs) mv k (a,c,m) (.va (eW (d,w))) (.va (.lst (eN (w++[k])))) s8)=G (sE L st (.dct ks vs) mv k (a,c,m) (.va (eW (d,w))) (.va (.lst (eN (w++[k])))) (.va (.lst ((fH L (w++[k])).map en)))):=λG=>ay (bW ps rfl)
   have inn:tb (o2 Kd (o2 aX (vr 5) (cn (.int 1))) (vr 8)) (sE L st (.dct ks vs) mv k (a,c,m) (.va (eW (d,w))) (.va (.lst (eN (w++[k])))) (.va (.lst ((fH L (w++[k])).map en))))=.ok (decide (c∈fH L (w++[k]))):=
    ba (aD (t:=en c) (u:=.lst ((fH L (w++[k])).map en)) rfl rfl (LA c _))
   by_cases hn:c∈fH L (w++[k])
   ·rw[show iO L b k (a,c,m)=.inr ((w++[k]).drop ((fH L (w++[k])).idxOf c))from by unfold iO;simp only[qa,hb,if_pos hn,if_true]]
    simp only;unfold EF;rw[s1',s2,s3,s4];rw[decide_eq_true hn]at inn;refine gn ((ff inn).trans (bS ?_))
    have sle:sl (vr 7) (pS (oL eO (vr 8) (o2 aX (vr 5) (cn (.int 1))))) pN (sE L st (.dct ks vs) mv k (a,c,m) (.va (eW (d,w))) (.va (.lst (eN (w++[k])))) (.va (.lst ((fH L (w++[k])).map en))))=.ok (.lst (eN ((w++[k]).drop ((fH L (w++[k])).idxOf c)))):=by
     rw[Lr (l:=eN (w++[k])) (lo:=ZA (((fH L (w++[k])).idxOf c:Nat):Int)) (hi:=ZB) rfl (k_pS (JC (ks:=(fH L (w++[k])).map en) (u:=en c) rfl rfl (qr c _ hn))) rfl,Ej];unfold eN;rw[List.map_drop]
    exact(cO (ts:=[.non,.lst (eN ((w++[k]).drop ((fH L (w++[k])).idxOf c)))]) (au rfl (au sle rfl)) (aB (k:=2) (by simp)))
   ·rw[show iO L b k (a,c,m)=.inl (ZA (Gr.put b c (d+m,w++[k])))from by unfold iO;simp only[qa,hb,if_neg hn,if_true]]
    simp only;rw[decide_eq_false hn]at inn;obtain⟨ns',D',hd⟩:=D.put hx (d+m,w++[k]);refine⟨ns',.va (eW (d,w)),.va (.lst (eN (w++[k]))),.va (.lst ((fH L (w++[k])).map en)),D',?_⟩
    unfold EF;rw[s1',s2,s3,s4];rw[ay (Z':=(sE L st (.dct ks vs) mv k (a,c,m) (.va (eW (d,w))) (.va (.lst (eN (w++[k])))) (.va (.lst ((fH L (w++[k])).map en))))) ((cx (G:=sN) inn).trans rfl)]
    have pt:qY 2 (o2 aX (vr 5) (cn (.int 1))) (bx (af (o2 aS (o2 aX (vr 6) (cn (.int 0))) (o2 aX (vr 5) (cn (.int 2)))) (af (vr 7) ai))) (sE L st (.dct ks vs) mv k (a,c,m) (.va (eW (d,w))) (.va (.lst (eN (w++[k])))) (.va (.lst ((fH L (w++[k])).map en))))
      = .ok (.nx (sE L st (.dct (ns'.map en) (dV ns' (Gr.put b c (d+m,w++[k])))) mv k (a,c,m) (.va (eW (d,w))) (.va (.lst (eN (w++[k])))) (.va (.lst ((fH L (w++[k])).map en))))):=by
     have ev:bx (af (o2 aS (o2 aX (vr 6) (cn (.int 0))) (o2 aX (vr 5) (cn (.int 2)))) (af (vr 7) ai)) (sE L st (.dct ks vs) mv k (a,c,m) (.va (eW (d,w))) (.va (.lst (eN (w++[k])))) (.va (.lst ((fH L (w++[k])).map en))))=.ok (eW (d+m,w++[k])):=
      cO (ts:=[.int (d+m),.lst (eN (w++[k]))]) rfl (aB (k:=2) (by simp))
     have ek:o2 aX (vr 5) (cn (.int 1)) (sE L st (.dct ks vs) mv k (a,c,m) (.va (eW (d,w))) (.va (.lst (eN (w++[k])))) (.va (.lst ((fH L (w++[k])).map en))))=.ok (en c):=rfl
     show(bx _ _ >>= λv=>o2 aX (vr 5) (cn (.int 1)) _ >>= λkk=>match keyOf kk with|some _=>if ks.length<1000 then Rs.ok (Fl.nx _)else .bad|none=>.bad)=_
     rw[ev,aF,ek,aF,bu]
     have hlen:ks.length<1000:=by rw[<-hks,Ny];exact Qc (kF D.nd D.sub) hP
     simp only[if_pos hlen]
     have hd1:gD (en c) (eW (d+m,w++[k])) ks vs=(ns'.map en,dV ns' (Gr.put b c (d+m,w++[k]))):=by rw[<-hks,<-hvs];exact hd
     rw[hd1]
     rfl
    rw[ay pt];exact bW (t:=.bl ZC) rfl rfl
def BI(L:bX N2)(st:T)(ns:List N2)(b:cD N2)(mv:Bool)(s4 s5 s6 s7 s8:Sl):En:=[.va (eL L),.va st,.ow (.dct (ns.map en) (dV ns b)),.va (.bl mv),s4,s5,s6,s7,s8]
def Et(L:bX N2)(P:List N2)(st:T)(X:Rs Fl):Sum (cD N2×Bool) (List Nat)->Prop
 |.inr q=>X=.ok (.rt (.tup [.non,.lst (eN q)]))
 |.inl (b',mv')=>∃ns' s4 s5 s6 s7 s8,DR P ns' b'/\X=.ok (.nx (BI L st ns' b' mv' s4 s5 s6 s7 s8))
theorem tO{S:List N2}(hL:L.length<=500)(hP:P.length<1000)(hx:∀x∈L,x.2.1∈P)(st:T):∀(r:bX N2)(k:Nat)(b:cD N2)(mv:Bool)(ns:List N2)(s4 s5 s6 s7 s8:Sl),L.drop k=r->Kept L S b->DR P ns b →
  Et L P st (bc L7 EF (ck k (r.map eB)) (BI L st ns b mv s4 s5 s6 s7 s8)) (jz L k r b mv)
 |[],k,b,mv,ns,s4,s5,s6,s7,s8,_,K,D=>⟨ns,s4,s5,s6,s7,s8,D,rfl⟩
 |x::r,k,b,mv,ns,s4,s5,s6,s7,s8,hr,K,D=>by
  have e:L[k]?=ZA x:=by
   have:=congrArg (·[0]?) hr
   simpa using this
  have hr':L.drop (k+1)=r:=by
   have:=congrArg (List.drop 1) hr
   simpa [List.drop_drop,VD]using this
  have tg:L7 (.tup [.int k,eB x]) (BI L st ns b mv s4 s5 s6 s7 s8)=.ok [.va (eL L),.va st,.ow (.dct (ns.map en) (dV ns b)),.va (.bl mv),.va (.int k),.va (eB x),s6,s7,s8]:=rfl
  have tn:=Fh K D hL hP e (hx x (Qn e)) st mv s6 s7 s8;rw[jz,Nx,ck]
  cases q:iO L b k x with
  |inr w=>
   rw[q]at tn;simp only;unfold Et
   exact Aj tg tn
  |inl o=>
   rw[q]at tn
   cases o with
   |none=>
    obtain⟨s6',s7',s8',tn⟩:=tn;simp only;rw[Gn tg tn]
    exact tO hL hP hx st r (k+1) b mv ns _ _ _ _ _ hr' K D
   |some b'=>
    obtain⟨ns',s6',s7',s8',D',tn⟩:=tn;simp only;rw[cP tg tn];refine tO (S:=S) hL hP hx st r (k+1) b' ZC ns' _ _ _ _ _ hr' ?_ D'
    obtain⟨a,c,m⟩:=x;unfold iO at q
    cases qa:b a with
    |none=>simp only[qa]at q;cases q
    |some y=>
     obtain⟨d,w⟩:=y;simp only[qa]at q
     split at q
     ·rename_i hb
      split at q
      ·cases q
      ·rename_i hn
       cases q;exact K.put e qa hb hn
     ·cases q
abbrev wF:W4:=aw (cM (cn (.bl ZD)) (gN 3)) (dS (iE (af (vr 0) ai)) L7 EF)
def SetP(L:bX N2)(P:List N2)(st:T)(X:Rs Fl):Sum (cD N2) (List Nat)->Prop
 |.inr q=>X=.ok (.rt (.tup [.non,.lst (eN q)]))
 |.inl b'=>∃ns' s4 s5 s6 s7 s8,DR P ns' b'/\X=.ok (.nx (BI L st ns' b' ZD s4 s5 s6 s7 s8))
theorem wb{S:List N2}(hL:L.length<=500)(hP:P.length<1000)(hx:∀x∈L,x.2.1∈P)(st:T):∀(n:Nat)(b:cD N2)(ns:List N2)(s4 s5 s6 s7 s8:Sl)(r:Sum (cD N2) (List Nat)),Kept L S b->DR P ns b->Gr.settle L n b=ZA r →
  SetP L P st (cf (tb (vr 3)) wF (n+1) (BI L st ns b ZC s4 s5 s6 s7 s8)) r
 |0,_,_,_,_,_,_,_,_,_,_,h=>by cases h
 |n+1,b,ns,s4,s5,s6,s7,s8,r,K,D,h=>by
  have sw:=tO hL hP hx st L 0 b ZD ns s4 s5 s6 s7 s8 rfl K D
  have ok:=jJ (S:=S) L 0 b ZD rfl K
  have body:∀X,bc L7 EF (ck 0 (L.map eB)) (BI L st ns b ZD s4 s5 s6 s7 s8)=.ok X->wF (BI L st ns b ZC s4 s5 s6 s7 s8)=.ok X:=λX hX=>by
   show aw _ _ _=_
   rw[ay (Z':=BI L st ns b ZD s4 s5 s6 s7 s8) (bW (t:=.bl ZD) rfl rfl)];exact dN (ts:=ck 0 (L.map eB)) (Ak rfl) hX
  have tt:tb (vr 3) (BI L st ns b ZC s4 s5 s6 s7 s8)=.ok ZC:=rfl;rw[Gr.settle]at h
  revert sw ok h
  generalize jz L 0 L b ZD=R
  intro h sw ok
  cases R with
  |inr q=>
   simp only at h;cases h
   exact Dt tt (body _ sw)
  |inl p=>
   obtain⟨b',mv'⟩:=p;obtain⟨ns',t4,t5,t6,t7,t8,D',sw⟩:=sw;obtain⟨K',_⟩:=ok
   cases mv' with
   |true=>
    simp only at h
    have ih:=wb hL hP hx st n b' ns' t4 t5 t6 t7 t8 r K' D' h;rw[xE tt (body _ sw)]
    exact ih
   |false=>
    simp only at h;cases h;refine⟨ns',t4,t5,t6,t7,t8,D',?_⟩
    rw[xE tt (body _ sw)];exact Du rfl
theorem i5{c:W6}{F:W4}{x:Fl}:∀{n m:Nat}{Z:En},n<=m->cf c F n Z=.ok x->cf c F m Z=.ok x
 |0,_,_,_,h=>by cases h
 |n+1,0,_,hl,_=>absurd hl (by omega)
 |n+1,m+1,Z,hl,h=>by
  unfold cf at h ⊢
  cases q:c Z with
  |bad=>rw[q]at h;cases h
  |err _=>rw[q]at h;cases h
  |ok k=>
   rw[q]at h
   cases k with
   |false=>exact h
   |true=>
    simp only at h ⊢
    cases q2:F Z with
    |bad=>rw[q2]at h;cases h
    |err _=>rw[q2]at h;cases h
    |ok f=>
     rw[q2]at h
     cases f with
     |nx Z'=>exact i5 (by omega) h
     |ct Z'=>exact i5 (by omega) h
     |bk Z'=>exact h
     |rt t=>exact h
theorem CG(w:T):∀S:List N2,Kb (S.map λv=>.tup [en v,w])=ZA (S.map λv=>(en v,w))
 |[] =>rfl
 |v::S=>by rw[Nx,Kb,bu,CG w S];rfl
theorem xQ(w:T):∀(S ns:List N2)(g:N2->T),(ns++S).Nodup->(∀v∈S,g v=w)->gW (S.map λv=>(en v,w)) (ns.map en,ns.map g)=((ns++S).map en,(ns++S).map g)
 |[],ns,g,_,_=>by rw[OH];rfl
 |v::S,ns,g,hn,hg=>by
  have hv:v∉ns:=λz=>by
   rw[OP]at hn;exact hn.2.2 v z v Nv rfl
  rw[Nx,gW,kf _ _ _ _ hv]
  have e1:ns.map en++[en v]=(ns++[v]).map en:=by rw[Oe];rfl
  have e2:ns.map g++[w]=(ns++[v]).map g:=by rw[Oe,<-hg v Nv];rfl
  rw[e1,e2,xQ w S (ns++[v]) g (by rw[NY];exact hn) λu hu=>hg u (Nu _ hu),NY]
  rfl
def GN(w:T)(S:List N2)(hn:S.Nodup)(hl:S.length<=1000):Ax [.lst (S.map λv=>.tup [en v,w])]=.ok (.dct (S.map en) (S.map λ_=>w)):=by
 unfold Ax;simp only[CG];rw[if_pos (by rw[Ny];exact hl)]
 have:=xQ w S [] (λ_=>w) (by simpa using hn) (λ_ _=>rfl)
 rw[OW]at this;rw[show(([]:List T),([]:List T))=(([]:List N2).map en,([]:List N2).map λ_=>w)from rfl,this]
def eS(S:List N2):T:=.lst (S.map en)
def GY(L:bX N2)(P:List N2)(X:Rs T):Sum (cD N2) (List Nat)->Prop
 |.inr q=>X=.ok (.tup [.non,.lst (eN q)])
 |.inl b'=>∃ns',DR P ns' b'/\X=.ok (.tup [.dct (ns'.map en) (dV ns' b'),.non])
structure G0 (L:bX N2)(P:List N2):Prop where
 len:L.length<=500
 size:size L<=100000000
 ends:∀x∈L,x.1∈P/\x.2.1∈P
 pl:P.length<1000
def SOk(L:bX N2)(S:List N2):Sum (cD N2) (List Nat)->Prop
 |.inr q=>Bar L q
 |.inl b'=>Settled L S b'
def qA{S:List N2}(F:G0 L P)(hS:S.Nodup)(hSP:∀v∈S,v∈P):∃r,GY L P (f7 [eL L,eS S]) r/\SOk L S r:=by
 have bound:L.length*(2*size L+1)<1000000000000 - 1:=by
  have h1:=F.len
  have h2:=F.size
  have:L.length*(2*size L+1)<=500*(2*100000000+1):=Nat.mul_le_mul h1 (by omega)
  omega
 obtain⟨r,hr,ok⟩:=yj L S bound
 have ok':SOk L S r:=by cases r <;> exact ok
 refine⟨r,?_,ok'⟩
 have hSl:S.length<=1000:=Oj (kF hS hSP) (by have:=F.pl;omega)
 have D0:DR P S (Gr.start S):=⟨hS,λv=>by unfold Gr.start;by_cases h:v∈S <;> simp[h],hSP⟩
 have dv0:dV S (Gr.start S)=S.map λ_=>eW (0,[]):=N6 λv hv=>by unfold Gr.start;rw[if_pos hv];rfl
 have w:=wb F.len F.pl (λx hx=>(F.ends x hx).2) (eS S) _ (Gr.start S) S .em .em .em .em .em r (qk L S) D0 hr
 have lc:ee (iS (vr 1)) [ZB] (gN 0) bT (bx (af (vr 0) (af (bx (af (cn (.int 0)) (af (dF ai) ai))) ai))) [.va (eL L),.va (eS S),.em,.em,.em,.em,.em,.em,.em]=.ok (.lst (S.map λv=>.tup [en v,eW (0,[])])):=by
  have:=qm (fi:=iS (vr 1)) (src:=[ZB]) (fe:=bx (af (vr 0) (af (bx (af (cn (.int 0)) (af (dF ai) ai))) ai))) (h:=λt=>.tup [t,eW (0,[])]) (Z:=[.va (eL L),.va (eS S),.em,.em,.em,.em,.em,.em,.em]) (ts:=S.map en) (gR rfl) (aB (k:=1000) (by rw[Ny];exact hSl)) (by simp) λt _=>
   cO (ts:=[t,eW (0,[])]) (au rfl (au (cO (ts:=[.int 0,.lst []]) (au rfl (au (mE (ts:=[]) rfl (O4 _)) rfl)) (aB (k:=2) (by simp))) rfl)) (aB (k:=2) (by simp))
  rw[this,Oo];rfl
 have n0:rY 2 (ee (iS (vr 1)) [ZB] (gN 0) bT (bx (af (vr 0) (af (bx (af (cn (.int 0)) (af (dF ai) ai))) ai)))) [.va (eL L),.va (eS S),.em,.em,.em,.em,.em,.em,.em]=.ok (.nx [.va (eL L),.va (eS S),.ow (.dct (S.map en) (dV S (Gr.start S))),.em,.em,.em,.em,.em,.em]):=by
  unfold rY;rw[lc,aF,GN _ S hS hSl,aF,dv0]
  rfl
 have main:∀G X,cf (tb (vr 3)) wF FU (BI L (eS S) S (Gr.start S) ZC .em .em .em .em .em)=.ok X->kl [.va (eL L),.va (eS S),.em,.em,.em,.em,.em,.em,.em]=G->(aw (cf (tb (vr 3)) wF FU) (mX 2 (aL (bx (af (vr 2) (af (cn .non) ai)))))) (BI L (eS S) S (Gr.start S) ZC .em .em .em .em .em)=G:=λG X _ h=>by
  rw[<-h];unfold kl;rw[ay n0,ay (Z':=BI L (eS S) S (Gr.start S) ZC .em .em .em .em .em) (bW (t:=.bl ZC) rfl rfl)]
 cases r with
 |inr q=>
  have w':=i5 (m:=FU) (by unfold FU;omega) w
  refine bD rfl ?_
  show kl [.va (eL L),.va (eS S),.em,.em,.em,.em,.em,.em,.em]=_
  rw[<-main _ _ w' rfl]
  exact gn w'
 |inl b'=>
  obtain⟨ns',s4,s5,s6,s7,s8,D',w⟩:=w
  have w':=i5 (m:=FU) (by unfold FU;omega) w
  refine⟨ns',D',bD rfl ?_⟩
  show kl [.va (eL L),.va (eS S),.em,.em,.em,.em,.em,.em,.em]=_
  rw[<-main _ _ w' rfl,ay w'];exact DD (bS (cO (ts:=[.dct (ns'.map en) (dV ns' b'),.non]) rfl (aB (k:=2) (by simp))))
theorem p7{f:α->T}{p:α->Prop}:∀{l:List T},(∀t∈l,∃x,t=f x/\p x)->∃L:List α,l=L.map f/\∀x∈L,p x
 |[],_=>⟨[],rfl,λ_ h=>nomatch h⟩
 |t::l,h=>by
  obtain⟨x,e,hx⟩:=h t Nv;obtain⟨L,e2,h2⟩:=p7 (l:=l) λu hu=>h u (Nu _ hu)
  exact⟨x::L,by rw[e,e2];rfl,λy hy=>(NG.mp hy).elim (λz=>z▸hx) (h2 y)⟩
def qC{t:T}(h:bR t=ZC):∃(x y:Int)(r:List Int),t=.tup [.int x,.int y,.tup (r.map .int)]/\(0<=x/\x<=9)/\(0<=y/\y<=9)/\∀k,0<=r.getD k 0/\r.getD k 0<=99:=by
 obtain⟨x,y,r,rfl,h1,h2,h3,h4⟩:=jk h;refine⟨x,y,r,rfl,h1,h2,λk=>?_⟩
 have h':(pE (.int x) (.int y)&&dq (.tup (r.map .int)))=ZC:=h;rw[NC]at h'
 have hr:=h'.2;unfold dq at hr;rw[NC]at hr
 have hr2:(((r.map T.int).all λu=>bA u 0 99)&&(match nums (r.map .int)with|some m=>oB m|none=>ZD))=ZC:=hr.2
 rw[NC]at hr2
 by_cases hk:k<r.length
 ·have:=N9.mp hr2.1 (.int r[k]) (NS.mpr ⟨_,OG hk,rfl⟩)
  obtain⟨i,e,a,b⟩:=dR this;cases e;simp[hk];exact⟨a,b⟩
 ·simp[hk]
def zU{cs:List T}:∀{cs0:List T}{c k:Nat},i<=c->c<i+cs0.length->k<Ie (cs0.getD (c - i) .non)->T.tup [.int c,.int k] ∈fI i cs0:=by
 intro cs0
 induction cs0 generalizing i with
 |nil=>intro c k h1 h2;simp at h2;omega
 |cons a r ih=>
  intro c k h1 h2 h3;rw[fI,Oa]
  by_cases e:c=i
  ·subst e
   rw[SH]at h3
   have h3':k<Ie a:=h3;exact .inl (NS.mpr ⟨.int k,Gf h3',rfl⟩)
  ·refine .inr (ih (by omega) (by rw[ND]at h2;omega) ?_)
   rw[show c - i=(c - (i+1))+1 by omega]at h3
   exact h3
def sQ{t:T}(h:br cs t=ZC):t∈fI 0 cs:=by
 obtain⟨c,k,rfl⟩:=gd h;unfold br at h;simp only[NC,decide_eq_true_eq]at h;obtain⟨⟨h1,h2⟩,h3,h4⟩:=h;obtain⟨c,rfl⟩:=OI h1;obtain⟨k,rfl⟩:=OI h3;rw[r8]at h4;exact zU (cs:=cs) (O4 _) (by omega) (by rw[T1];omega)
def DX{t:T}(h:t∈fI 0 cs):∃v:N2,t=en v/\True:=by
 obtain⟨c,k,rfl,_⟩:=kH cs 0 h;exact⟨⟨c,k⟩,rfl,trivial⟩
def big(x:N2×N2×Int):Prop:=x.2.2.natAbs<=999
def sg{a b:Int}(ha : -99<=a/\a<=99)(hb:0<=b/\b<=9):(a*b).natAbs<=999:=by
 rw[Int.natAbs_mul]
 have h1:a.natAbs<=99:=by omega
 have h2:b.natAbs<=9:=by omega
 exact Oj (Nat.mul_le_mul h1 h2) (by decide)
theorem Hz{cs0:List T}:∀{cs:List T}{i:Nat},(∀c∈cs,bR c=ZC)->(∀c k:Nat,i<=c->c<i+cs.length->k<Ie (cs.getD (c - i) .non)->T.tup [.int c,.int k] ∈fI 0 cs0) →
  ∀t∈bC i cs,∃x,t=eB x/\(en x.1∈fI 0 cs0/\en x.2.1∈fI 0 cs0/\big x)
 |[],_,_,_,t,h=>by simp[bC]at h
 |c::cs,i,hc,hm,t,h=>by
  rw[bC,Oa]at h;rcases h with h|h
  ·obtain⟨x,y,r,rfl,hx,hy,hr⟩:=qC (hc c Nv)
   have hm0:∀k,k<r.length->T.tup [.int i,.int k] ∈fI 0 cs0:=λk hk=>hm i k (NL _) (by simp) (by rw[SH];show k<(r.map T.int).length;rw[Ny];exact hk)
   rw[oQ]at h;unfold cB at h;obtain⟨k,hk,hp⟩:=QM.mp h
   have hk:=Pa.mp hk
   have d : -99<=dr r k/\dr r k<=99:=by have:=hr k;have:=hr (k+1);unfold dr;omega
   unfold pr at hp;simp only[NG,Ox,or_false]at hp;rcases hp with rfl|rfl
   ·exact⟨(⟨i,k⟩,⟨i,((k+1:Nat):Int)⟩,dr r k*y),rfl,hm0 k (by omega),hm0 (k+1) (by omega),sg d hy⟩
   ·exact⟨(⟨i,((k+1:Nat):Int)⟩,⟨i,k⟩,-dr r k*x),rfl,hm0 (k+1) (by omega),hm0 k (by omega),sg (by omega) hx⟩
  ·exact Hz (cs:=cs) (i:=i+1) (λc h=>hc c (Nu _ h)) (λc k h1 h2 h3=>hm c k (by omega) (by rw[ND];omega) (by rw[show c - i=(c - (i+1))+1 by omega];exact h3)) t h
def Ln{u:T}(hu:bJ cs u=ZC):∀t∈lB u,∃x,t=eB x/\(en x.1∈fI 0 cs/\en x.2.1∈fI 0 cs/\big x):=by
 intro t ht;obtain⟨a,b,x,y,rfl,hd,ha,hb,_⟩:=mC hu
 have ma:=sQ ha
 have mb:=sQ hb;obtain⟨va,rfl,_⟩:=DX ma;obtain⟨vb,rfl,_⟩:=DX mb;unfold fW at hd;rw[NC]at hd;obtain⟨i,rfl,i1,i2⟩:=dR hd.1
 have e2:lB (.tup [en va,en vb,.int i,y])=.tup [en vb,en va,.int (-i)] ::(if y.isN then []else [.tup [en va,en vb,y]]):=rfl
 rw[e2]at ht;rcases NG.mp ht with rfl|ht
 ·exact⟨(vb,va,-i),rfl,mb,ma,by unfold big;simp only;omega⟩
 ·cases q:y.isN with
  |true=>rw[q]at ht;simp at ht
  |false=>
   rw[q]at ht
   have ht:t=.tup [en va,en vb,y]:=by simpa using ht
   have hw:bA y i 999=ZC:=by
    cases y with
    |non=>cases q
    |_=>exact hd.2
   obtain⟨j,rfl,j1,j2⟩:=dR hw;exact⟨(va,vb,j),ht,ma,mb,by unfold big;simp only;omega⟩
structure Rd (cs ls:List T)(L:bX N2)(P:List N2):Prop where
 g:Good cs ls
 b:EG cs ls=L.map eB
 e:fI 0 cs=P.map en
 f:G0 L P
 nd:P.Nodup
 pl:P.length<=16
 ll:L.length<=60
 bg:∀x∈L,big x
def zF(h:∀x∈L,big x):size L<=999*L.length:=by
 unfold size
 induction L with
 |nil=>simp
 |cons x L ih=>
  rw[Nx,Pz,ND]
  have:=ih λy hy=>h y (Nu _ hy)
  have:=h x Nv;unfold big at this;omega
def C3(h:(P.map en).Nodup):P.Nodup:=by
 induction P with
 |nil=>exact PX
 |cons a r ih=>
  rw[Nx,Oc]at h;exact Oc.mpr ⟨λz=>h.1 (NS.mpr ⟨a,z,rfl⟩),ih h.2⟩
def wI(g:Good cs ls):∃L P,Rd cs ls L P:=by
 obtain⟨hc,c1,c4⟩:=de g.c;obtain⟨P,eP,_⟩:=p7 (f:=en) (p:=λ_=>True) (l:=fI 0 cs) λt ht=>DX ht
 have key:∀t∈EG cs ls,∃x,t=eB x/\(en x.1∈fI 0 cs/\en x.2.1∈fI 0 cs/\big x):=λt ht=>by
  unfold EG at ht;rw[Oa]at ht;rcases ht with h|h
  ·exact Hz hc (λc k h1 h2 h3=>zU (cs:=cs) h1 h2 h3) t h
  ·obtain⟨u,hu,h⟩:=QM.mp h
   exact Ln (g.l u hu) t h
 obtain⟨L,eL,hL⟩:=p7 key
 have mem:∀v:N2,en v∈fI 0 cs->v∈P:=λv hv=>by
  rw[eP]at hv;obtain⟨u,hu,e⟩:=NS.mp hv;rw[<-qz e];exact hu
 have hl:=GS g;rw[eL,Ny]at hl
 have hp:=ve cs 0 hc;rw[eP,Ny]at hp
 have hs:=zF λx hx=>(hL x hx).2.2
 exact⟨L,P,g,eL,eP,⟨by omega,by omega,λx hx=>⟨mem _ (hL x hx).1,mem _ (hL x hx).2.1⟩,by omega⟩,C3 (eP▸m6 cs 0),by omega,hl,λx hx=>(hL x hx).2.2⟩
def CH:(T.lst l).pl=plS l:=by unfold T.pl;rfl
def run(L:bX N2):N2->List Nat->Option N2
 |a,[] =>ZA a
 |a,k::r=>match L[k]? with
  |some x=>if x.1=a then run L x.2.1 r else ZB
  |none=>ZB
def Hw(u v:N2):nX (en u) (en v)=.ok (.bl (decide (u=v))):=by
 unfold nX;rw[if_pos (iW (zd u) rfl rfl),zh]
theorem kD(f:Nat->Int):∀ks:List Nat,eh (ks.map λk=>T.int (f k))=ZA (ks.map f)
 |[] =>rfl
 |k::ks=>by rw[Nx,eh,kD f ks];rfl
def Rd.ev(R:Rd cs ls L P)(h:v∈P):br cs (en v)=ZC:=DV (by rw[R.e];exact NS.mpr ⟨v,h,rfl⟩)
def Rd.bounds(R:Rd cs ls L P):fy [RR cs ls]=.ok (eL L):=by rw[Ea R.g,R.b];rfl
def Rd.M9(R:Rd cs ls L P){b:N2}(ha:a∈P)(hb:b∈P):fU [RR cs ls,en a,en b]=.ok .non:=by
 refine uY (Z:=[.va (RR cs ls),.va (en a),.va (en b)]) rfl ?_
 show iz [.va (RR cs ls),.va (en a),.va (en b)]=_
 unfold iz;rw[ay (oq (t:=.non) (aP (ts:=[RR cs ls]) rfl (iQ R.g.p R.g.ok)))];rw[ay (oq (t:=.non) (aP (ts:=[RR cs ls,en a]) rfl (uO R.g rfl (R.ev ha))))];exact oq (t:=.non) (aP (ts:=[RR cs ls,en b]) rfl (uO R.g rfl (R.ev hb)))
variable{c:N2}
def Rd.events(R:Rd cs ls L P):cw [RR cs ls]=.ok (eS P):=by rw[CT R.g,R.e];rfl
def vi(D:DR P ns b){x:Int×List Nat}(e:b v=ZA x):aO (.dct (ns.map en) (dV ns b)) (en v)=.ok (eW x):=by
 unfold aO;simp only[bu];rw[D.get,e];rfl
def Eh(D:DR P ns b)(v:N2):Ei (en v) (.dct (ns.map en) (dV ns b))=.ok (.bl (b v).isSome):=by
 unfold Ei;simp only[bu];rw[D.get];cases b v <;> rfl
def lH(P:List N2)(t:N2->Int):T:=.tup (P.map λv=>.int (t v))
def G7(b:cD N2)(v:N2):Int:=match b v with
 |some x=>x.1
 |none=>0
def atT(t:N2->Int)(u:T):T:=match u with
 |.tup [.int c,.int k] =>.int (t ⟨c,k⟩)
 |_=>.non
def Rd.MG(R:Rd cs ls L P):(¬bZ L/\dM [(RR cs ls)]=.ok .non)\/(bZ L/\∃t b,Settled L P b/\(∀v∈P,∃w,b v=ZA (t v,w))/\dM [(RR cs ls)]=.ok (lH P t)):=by
 obtain⟨r,hr,ok⟩:=qA R.f R.nd (λv h=>h)
 have wrap:∀{w:T},bB [(RR cs ls),eL L]=.ok w->dM [(RR cs ls)]=.ok w:=λ{w} e=>bD rfl (bS (aP (ts:=[(RR cs ls),eL L]) (au rfl (au (aP (ts:=[(RR cs ls)]) rfl R.bounds) rfl)) e))
 have begin_:∀{x z:T}{y:Rs Fl},f7 [eL L,eS P]=.ok (.tup [x,z])->((aw (dQ (tb (o2 gp (vr 3) (cn .non))) (aL (cn .non)) sN) (aL (cl fN (af (ee (iS (vr 2)) [ZB,ZA 3] (gN 0) bT (o2 aX (o2 aO (vr 1) (vr 0)) (cn (.int 0)))) ai)))) [.va (RR cs ls),.va (eL L),.va (eS P),.va x]=y)->dv [.va (RR cs ls),.va (eL L),.em,.em]=y:=λ{x z y} hs hy=>by
  unfold dv;rw[ay (Z':=[.va (RR cs ls),.va (eL L),.va (eS P),.em]) (bW (aP (ts:=[(RR cs ls)]) rfl R.events) rfl)];rw[ay (Z':=[.va (RR cs ls),.va (eL L),.va (eS P),.va x]) (bW (aD (u:=.int 0) (aP (ts:=[eL L,eS P]) rfl hs) rfl rfl) rfl)];exact hy
 cases r with
 |inr q=>exact .inl ⟨λn=>absurd n (Bar.neg ok),wrap (bD rfl (begin_ hr (gn ((ff (ba (aD (t:=.non) (u:=.non) rfl rfl rfl))).trans rfl))))⟩
 |inl b=>
  obtain⟨ns,D,hr⟩:=hr
  have ok:Settled L P b:=ok
  have htm:∀v∈P,∃w,b v=ZA (G7 b v,w):=λv hv=>by
   obtain⟨d,w,e,_⟩:=ok.least v hv v 0 (.nil v);exact⟨w,by unfold G7;rw[e]⟩
  refine .inr ⟨(ok.holds R.f.ends htm).MF,G7 b,b,ok,htm,wrap (bD rfl (begin_ hr ?_))⟩
  generalize G7 b=tm at htm
  have lc:ee (iS (vr 2)) [ZB,ZA 3] (gN 0) bT (o2 aX (o2 aO (vr 1) (vr 0)) (cn (.int 0))) [.va (RR cs ls),.va (eL L),.va (eS P),.va (.dct (ns.map en) (dV ns b))]=.ok (.lst ((P.map en).map (atT tm))):=
   qm (ts:=P.map en) (gR rfl) (aB (k:=16) (by rw[Ny];exact R.pl)) (by simp) λt ht=>by
    obtain⟨v,hv,rfl⟩:=NS.mp ht;obtain⟨w,e⟩:=htm v hv;exact aD (t:=eW (tm v,w)) (u:=.int 0) (aD (t:=.dct (ns.map en) (dV ns b)) (u:=en v) rfl rfl (vi D e)) rfl rfl
  rw[Oo]at lc;rw[ay (Z':=[.va (RR cs ls),.va (eL L),.va (eS P),.va (.dct (ns.map en) (dV ns b))]) ((cx (ba (aD (t:=.dct (ns.map en) (dV ns b)) (u:=.non) rfl rfl rfl))).trans rfl)];exact bS (aP (au lc rfl) rfl)
def Rd.M0(R:Rd cs ls L P):∃hw:Bool,dB [(RR cs ls)]=.ok (.bl hw)/\(hw=ZC↔bZ L):=by
 rcases R.MG with⟨n,e⟩|⟨n,t,b,_,_,e⟩
 ·exact⟨ZD,bD rfl (bS (aD (t:=.non) (u:=.non) (aP (ts:=[(RR cs ls)]) rfl e) rfl rfl)),λz=>(by cases z),λz=>absurd z n⟩
 ·exact⟨ZC,bD rfl (bS (aD (t:=lH P t) (u:=.non) (aP (ts:=[(RR cs ls)]) rfl e) rfl rfl)),λ_=>n,λ_=>rfl⟩
def Rd.MP(R:Rd cs ls L P)(n:bZ L):d8 [RR cs ls]=.ok .non:=by
 obtain⟨hw,e,i⟩:=R.M0;rw[i.mpr n]at e;refine uY (Z:=[.va (RR cs ls)]) rfl ?_
 show jm [.va (RR cs ls)]=_
 unfold jm;exact(cx (hZ (k:=ZC) (ba (aP (ts:=[RR cs ls]) rfl e)))).trans rfl
def Rd.from_(R:Rd cs ls L P)(n:bZ L)(ha:a∈P):∃b ns,Settled L [a] b/\DR P ns b/\dD [RR cs ls,en a]=.ok (.dct (ns.map en) (dV ns b)):=by
 obtain⟨r,hr,ok⟩:=qA (S:=[a]) R.f (by simp) (λv h=>by rw[NR.mp h];exact ha)
 cases r with
 |inr q=>exact absurd n (Bar.neg ok)
 |inl b=>
  obtain⟨ns,D,hr⟩:=hr;refine⟨b,ns,ok,D,bD rfl (bS (aD (u:=.int 0) (aP (ts:=[eL L,eS [a]]) (au (aP (ts:=[RR cs ls]) rfl R.bounds) (au (mE (ts:=[en a]) rfl (aB (k:=1) (by simp))) rfl)) hr) rfl rfl))⟩
def Dc(o:Option (Int×List Nat)):T:=match o with
 |some x=>.int x.1
 |none=>.non
def Rd.Nl(R:Rd cs ls L P)(n:bZ L)(ha:a∈P)(hc:c∈P):∃b,Settled L [a] b/\cI [RR cs ls,en a,en c]=.ok (Dc (b c)):=by
 obtain⟨b,ns,S,D,e⟩:=R.from_ n ha;refine⟨b,S,bD rfl ?_⟩
 show gY [.va (RR cs ls),.va (en a),.va (en c)]=_
 unfold gY;rw[ay (oq (t:=.non) (aP (ts:=[RR cs ls,en a,en c]) rfl (R.M9 ha hc)))];rw[ay (oq (t:=.non) (aP (ts:=[RR cs ls]) rfl (R.MP n)))];refine bS (aP (ts:=[.dct (ns.map en) (dV ns b),en c]) (au (aP (ts:=[RR cs ls,en a]) rfl e) rfl) (bD rfl ?_))
 refine bS ((lD (p:=(b c).isSome) (ba (aD (t:=en c) (u:=.dct (ns.map en) (dV ns b)) rfl rfl (Eh D c)))).trans ?_)
 cases q:b c with
 |none=>rfl
 |some x=>exact aD (t:=eW x) (u:=.int 0) (aD (t:=.dct (ns.map en) (dV ns b)) (u:=en c) rfl rfl (vi D q)) rfl rfl
def oI(o:Option Int):T:=match o with
 |some x=>.int x
 |none=>.non
def rowsT(P:List N2)(f:dy N2):List (List T×List T):=P.map λu=>(P.map en,P.map λv=>oI (f u v))
def cG(P:List N2)(f:dy N2):T:=.dct (P.map en) (P.map λu=>.dct (P.map en) (P.map λv=>oI (f u v)))
abbrev i7(P:List N2)(L:bX N2)(f:dy N2)(s3 s4 s5 s6 s7:Sl):En:=[.va (eS P),.va (eL L),.ow (.dd (P.map en) (rowsT P f)),s3,s4,s5,s6,s7]
abbrev HM(P:List N2)(L:bX N2)(f:dy N2)(s3 s4 s5 s6 s7:Sl):En:=[.va (eS P),.va (eL L),.va (cG P f),s3,s4,s5,s6,s7]
variable{a b:W5}{f:dy N2}{s3 s4 s5 s6 s7:Sl}
section
def zc(s3 s4 s5 s6 s7:Sl):disown 2 (i7 P L f s3 s4 s5 s6 s7)=HM P L f s3 s4 s5 s6 s7:=by
 show [Sl.va (eS P),.va (eL L),.va (OT.view (.dd (P.map en) (rowsT P f))),s3,s4,s5,s6,s7]=_
 have e:OT.view (.dd (P.map en) (rowsT P f))=cG P f:=by
  show T.dct (P.map en) ((rowsT P f).map λr=>T.dct r.1 r.2)=_
  unfold rowsT cG;rw[Oo]
  rfl
 rw[e]
variable{c:W5}
def tJ{u:N2}(hc:c Z=.ok (cG P f))(ha:a Z=.ok (en u))(hb:b Z=.ok (en v))(hu:u∈P)(hv:v∈P):o2 aO (o2 aO c a) b Z=.ok (oI (f u v)):=by
 refine aD (t:=.dct (P.map en) (P.map λw=>oI (f u w))) (u:=en v) (aD (t:=cG P f) (u:=en u) hc ha ?_) hb ?_
 ·show(match kX (P.map en) (P.map λu=>T.dct (P.map en) (P.map λv=>oI (f u v))) (ky u)with|some t=>Rs.ok t|none=>.bad)=_
  rw[mM (λu=>T.dct (P.map en) (P.map λv=>oI (f u v))),if_pos hu]
 ·show(match kX (P.map en) (P.map λw=>oI (f u w)) (ky v)with|some t=>Rs.ok t|none=>.bad)=_
  rw[mM (λw=>oI (f u w)),if_pos hv]
def Dh{u:N2}(ha:a (HM P L f s3 s4 s5 s6 s7)=.ok (en u))(hb:b (HM P L f s3 s4 s5 s6 s7)=.ok (en v))(hu:u∈P)(hv:v∈P):ln 2 (o2 aO (o2 aO (vr 2) a) b) (i7 P L f s3 s4 s5 s6 s7)=.ok (oI (f u v)):=
 Gp (o:=.dd (P.map en) (rowsT P f)) rfl (by rw[zc];exact tJ rfl ha hb hu hv) (by cases f u v <;> rfl)
theorem Cp(g:N2->List T×List T)(u:N2):∀(Q:List N2),u∈Q->q0 (Q.map en) (Q.map g) (ky u)=ZA (g u)
 |w::Q,h=>by
  rw[Nx,Nx,q0,bu]
  by_cases e:w=u
  ·subst e;rw[if_pos rfl]
  ·rw[if_neg (λz=>e (jg z)),Cp g u Q ((NG.mp h).elim (λz=>absurd z.symm e) id)]
theorem Cm(g:N2->List T×List T)(u:N2)(x:List T×List T):∀(Q:List N2),Q.Nodup->qZ (ky u) x (Q.map en) (Q.map g)=Q.map λw=>if w=u then x else g w
 |[],_=>rfl
 |w::Q,h=>by
  rw[Oc]at h;rw[Nx,Nx,qZ,bu,Nx]
  by_cases e:w=u
  ·subst e
   rw[if_pos rfl,if_pos rfl]
   congr 1
   exact N6 λz hz=>by rw[if_neg (λ(y:z=w)=>h.1 (y▸hz))]
  ·rw[if_neg (λz=>e (jg z)),if_neg e,Cm g u x Q h.2]
def CC(nd:P.Nodup)(pl:P.length<1000){u:N2}(ha:a (i7 P L f s3 s4 s5 s6 s7)=.ok (en u))(hb:b (i7 P L f s3 s4 s5 s6 s7)=.ok (en v))(hc:c (i7 P L f s3 s4 s5 s6 s7)=.ok (.int x))(hu:u∈P)(hv:v∈P):
  jC 2 a b c (i7 P L f s3 s4 s5 s6 s7)=.ok (.nx (i7 P L (kc f u v x) s3 s4 s5 s6 s7)):=by
 unfold jC
 show(c (i7 P L f s3 s4 s5 s6 s7) >>= λw=>a (i7 P L f s3 s4 s5 s6 s7) >>= λz=>match(keyOf z).bind λka=>(q0 (P.map en) (rowsT P f) ka).map λr=>(ka,r)with
  |some (ka,r)=>b (i7 P L f s3 s4 s5 s6 s7) >>= λy=>if (keyOf y).isSome=ZC/\r.1.length<1000 then Rs.ok (Fl.nx ((i7 P L f s3 s4 s5 s6 s7).set 2 (.ow (.dd (P.map en) (qZ ka (gD y w r.1 r.2) (P.map en) (rowsT P f))))))else .bad
  |none=>.bad)=_
 rw[hc,aF,ha,aF,bu]
 have e1:q0 (P.map en) (rowsT P f) (ky u)=ZA (P.map en,P.map λv=>oI (f u v)):=Cp (λu=>(P.map en,P.map λv=>oI (f u v))) u P hu
 simp only[Option.bind_some,e1,T3];rw[hb,aF,bu,if_pos ⟨rfl,by rw[Ny];exact pl⟩,vh (.int x) v (λv=>oI (f u v)) P nd hv]
 have e2:=Cm (λu=>(P.map en,P.map λv=>oI (f u v))) u (P.map en,P.map λw=>if w=v then T.int x else oI (f u w)) P nd
 have e3:(P.map λw=>if w=u then(P.map en,P.map λw=>if w=v then T.int x else oI (f u w))else(P.map en,P.map λv=>oI (f w v)))=rowsT P (kc f u v x):=by
  unfold rowsT kc;refine N6 λw _=>?_
  by_cases e:w=u
  ·subst e
   rw[if_pos rfl]
   congr 1
   refine N6 λz _=>?_
   by_cases h:z=v
   ·rw[if_pos h,if_pos ⟨rfl,h⟩];rfl
   ·rw[if_neg h,if_neg (λq=>h q.2)]
  ·rw[if_neg e]
   congr 1
   exact N6 λz _=>by rw[if_neg (λq=>e q.1)]
 show Rs.ok (Fl.nx [.va (eS P),.va (eL L),.ow (.dd (P.map en) (qZ (ky u) (P.map en,P.map λw=>if w=v then T.int x else oI (f u w)) (P.map en) (rowsT P f))),s3,s4,s5,s6,s7])=_
 rw[show qZ (ky u) (P.map en,P.map λw=>if w=v then T.int x else oI (f u w)) (P.map en) (rowsT P f)=rowsT P (kc f u v x)from e2.trans e3]
def DJ(nd:P.Nodup)(pl:P.length<1000){u:N2}(ha:a (i7 P L f s3 s4 s5 s6 s7)=.ok (en u))(hb:b (i7 P L f s3 s4 s5 s6 s7)=.ok (en v))(ha':a (HM P L f s3 s4 s5 s6 s7)=.ok (en u))(hb':b (HM P L f s3 s4 s5 s6 s7)=.ok (en v))(hc:c (i7 P L f s3 s4 s5 s6 s7)=.ok (.int x))(hu:u∈P)(hv:v∈P):
  dQ (lW (tb (o2 gp (ln 2 (o2 aO (o2 aO (vr 2) a) b)) (cn .non))) (tb (o2 qP c (ln 2 (o2 aO (o2 aO (vr 2) a) b))))) (jC 2 a b c) sN (i7 P L f s3 s4 s5 s6 s7)=.ok (.nx (i7 P L (ox f u v x) s3 s4 s5 s6 s7)):=by
 have g:=Dh (P:=P) (L:=L) (f:=f) ha' hb' hu hv
 have p:=CC (P:=P) (L:=L) (f:=f) nd pl ha hb hc hu hv;unfold ox
 cases q:f u v with
 |none=>
  rw[q]at g
  exact(ff (Ai (ba (aD (t:=.non) (u:=.non) g rfl rfl)))).trans p
 |some y=>
  rw[q]at g
  have c2:tb (o2 qP c (ln 2 (o2 aO (o2 aO (vr 2) a) b))) (i7 P L f s3 s4 s5 s6 s7)=.ok (decide (x<y)):=ba (aD (t:=.int x) (u:=.int y) hc g rfl)
  by_cases h:x<y
  ·rw[decide_eq_true h]at c2
   simp only[if_pos h];exact(ff (nW (ba (aD (t:=.int y) (u:=.non) g rfl rfl)) c2)).trans p
  ·rw[decide_eq_false h]at c2
   simp only[if_neg h];exact(cx (nW (ba (aD (t:=.int y) (u:=.non) g rfl rfl)) c2)).trans rfl
end
theorem qf:∀(P:List N2),iV (P.map en)=ZC
 |[] =>rfl
 |u::P=>by
  have:=qf P;simp[iV,bu,this]
def Jx(nd:P.Nodup):((P.map en).map keyOf).Nodup:=by
 rw[Oo];exact nd.map _ λa b h e=>h (jg e)
def HK(nd:P.Nodup)(pl:P.length<=1000):ph 2 0 [.va (eS P),.va (eL L),.em,.em,.em,.em,.em,.em]=.ok (.nx (i7 P L (λ_ _=>ZB) .em .em .em .em .em)):=by
 show(if (2:Nat)<8/\iV (P.map en)=ZC/\((P.map en).map keyOf).Nodup/\(P.map en).length<=1000 then Rs.ok (Fl.nx [.va (eS P),.va (eL L),.ow (.dd (P.map en) ((P.map en).map λ_=>(P.map en,(P.map en).map λ_=>T.non))),.em,.em,.em,.em,.em])else .bad)=_
 rw[if_pos ⟨by omega,qf P,Jx nd,by rw[Ny];exact pl⟩,Oo,Oo]
 rfl
theorem Hd(nd:P.Nodup)(pl:P.length<1000):∀(Q:List N2)(f:dy N2)(s3 s4 s5 s6 s7:Sl),(∀u∈Q,u∈P)->∃s3',
  bc (gN 3) (jC 2 (vr 3) (vr 3) (cn (.int 0))) (Q.map en) (i7 P L f s3 s4 s5 s6 s7)=.ok (.nx (i7 P L (Q.foldl (λf u=>kc f u u 0) f) s3' s4 s5 s6 s7))
 |[],f,s3,s4,s5,s6,s7,_=>⟨s3,rfl⟩
 |u::Q,f,s3,s4,s5,s6,s7,h=>by
  have hu:=h u Nv;rw[Nx,cP (Z1:=i7 P L f (.va (en u)) s4 s5 s6 s7) rfl (CC nd pl (u:=u) (v:=u) (x:=0) rfl rfl rfl hu hu)];exact Hd nd pl Q _ _ _ _ _ _ λw hw=>h w (Nu _ hw)
theorem sJ:∀(Q:List N2)(f:dy N2)(u v:N2),Q.foldl (λf u=>kc f u u 0) f u v=if u∈Q/\u=v then ZA 0 else f u v
 |[],f,u,v=>by rw[if_neg (λh=>nomatch h.1)];rfl
 |w::Q,f,u,v=>by
  rw[Wh,sJ Q]
  by_cases e:u=v
  ·subst e
   by_cases m:u∈Q
   ·rw[if_pos ⟨m,rfl⟩,if_pos ⟨Nu _ m,rfl⟩]
   ·rw[if_neg (λz=>m z.1)]
    unfold kc
    by_cases q:u=w
    ·subst q;rw[if_pos ⟨rfl,rfl⟩,if_pos ⟨Nv,rfl⟩]
    ·rw[if_neg (λz=>q z.1),if_neg (λz=>(NG.mp z.1).elim q m)]
  ·rw[if_neg (λz=>e z.2),if_neg (λz=>e z.2)]
   unfold kc;rw[if_neg (λz=>e (z.1.trans z.2.symm))]
def Bq(P:List N2):P.foldl (λf u=>kc f u u 0) (λ_ _=>ZB)=vV P:=by
 funext u v
 rw[sJ]
 rfl
theorem Hb(nd:P.Nodup)(pl:P.length<1000):∀(M:bX N2)(f:dy N2)(s3 s4 s5 s6 s7:Sl),(∀x∈M,x.1∈P/\x.2.1∈P)->∃s3' s4' s5',
  bc (gT 3 (du (gN 3) (du (gN 4) (du (gN 5) jh)))) (dQ (lW (tb (o2 gp (ln 2 (o2 aO (o2 aO (vr 2) (vr 3)) (vr 4))) (cn .non))) (tb (o2 qP (vr 5) (ln 2 (o2 aO (o2 aO (vr 2) (vr 3)) (vr 4)))))) (jC 2 (vr 3) (vr 4) (vr 5)) sN) (M.map eB) (i7 P L f s3 s4 s5 s6 s7)=.ok (.nx (i7 P L (M.foldl (λf x=>ox f x.1 x.2.1 x.2.2) f) s3' s4' s5' s6 s7))
 |[],f,s3,s4,s5,s6,s7,_=>⟨s3,s4,s5,rfl⟩
 |x::M,f,s3,s4,s5,s6,s7,h=>by
  have hx:=h x Nv;rw[Nx,cP (Z1:=i7 P L f (.va (en x.1)) (.va (en x.2.1)) (.va (.int x.2.2)) s6 s7) rfl (DJ nd pl (u:=x.1) (v:=x.2.1) (x:=x.2.2) rfl rfl rfl rfl rfl hx.1 hx.2)];exact Hb nd pl M _ _ _ _ _ _ λw hw=>h w (Nu _ hw)
def EY(nd:P.Nodup)(pl:P.length<1000){mid one other:N2}(hm:mid∈P)(h1:one∈P)(h2:other∈P)(f:dy N2)(s5 s7:Sl):∃s7',
  Kh (i7 P L f (.va (en one)) (.va (en other)) s5 (.va (en mid)) s7)=.ok (.nx (i7 P L (mG mid one other f) (.va (en one)) (.va (en other)) s5 (.va (en mid)) s7')):=by
 have ga:∀s7,ln 2 (o2 aO (o2 aO (vr 2) (vr 3)) (vr 6)) (i7 P L f (.va (en one)) (.va (en other)) s5 (.va (en mid)) s7)=.ok (oI (f one mid)):=λs7=>Dh rfl rfl h1 hm
 have gb:∀s7,ln 2 (o2 aO (o2 aO (vr 2) (vr 6)) (vr 4)) (i7 P L f (.va (en one)) (.va (en other)) s5 (.va (en mid)) s7)=.ok (oI (f mid other)):=λs7=>Dh rfl rfl hm h2
 unfold mG Kh
 cases qa:f one mid with
 |none=>
  have ga:=ga s7;rw[qa]at ga
  exact⟨s7,(cx (nt (ba (aD (t:=.non) (u:=.non) ga rfl rfl)))).trans rfl⟩
 |some x=>
  have ga:=ga s7;rw[qa]at ga
  have c1:=ba (aD (g:=cS) (t:=.int x) (u:=.non) (fb:=cn .non) ga rfl rfl)
  cases qb:f mid other with
  |none=>
   have gb:=gb s7;rw[qb]at gb
   exact⟨s7,(cx (lQ c1 (ba (aD (t:=.non) (u:=.non) gb rfl rfl)))).trans rfl⟩
  |some y=>
   have gb:=gb s7;rw[qb]at gb;refine⟨.va (.int (x+y)),(ff (lQ c1 (ba (aD (t:=.int y) (u:=.non) gb rfl rfl)))).trans ?_⟩
   rw[ay (bW (Z':=i7 P L f (.va (en one)) (.va (en other)) s5 (.va (en mid)) (.va (.int (x+y)))) (aD (t:=.int x) (u:=.int y) ga gb rfl) rfl)];exact DJ nd pl (u:=one) (v:=other) (x:=x+y) rfl rfl rfl rfl rfl h1 h2
theorem Ha(nd:P.Nodup)(pl:P.length<1000){mid one:N2}(hm:mid∈P)(h1:one∈P):∀(Q:List N2)(f:dy N2)(s4 s5 s7:Sl),(∀u∈Q,u∈P)->∃s4' s7',
  bc (gN 4) Kh (Q.map en) (i7 P L f (.va (en one)) s4 s5 (.va (en mid)) s7)=.ok (.nx (i7 P L (mH mid one Q f) (.va (en one)) s4' s5 (.va (en mid)) s7'))
 |[],f,s4,s5,s7,_=>⟨s4,s7,rfl⟩
 |u::Q,f,s4,s5,s7,h=>by
  have hu:=h u Nv;obtain⟨s7',e⟩:=EY (L:=L) nd pl hm h1 hu f s5 s7;rw[Nx,cP (Z1:=i7 P L f (.va (en one)) (.va (en u)) s5 (.va (en mid)) s7) rfl e];exact Ha nd pl hm h1 Q _ _ _ _ λw hw=>h w (Nu _ hw)
theorem G9(nd:P.Nodup)(pl:P.length<1000){mid:N2}(hm:mid∈P):∀(Q:List N2)(f:dy N2)(s3 s4 s5 s7:Sl),(∀u∈Q,u∈P)->∃s3' s4' s7',
  bc (gN 3) (dS (iS (vr 0)) (gN 4) Kh) (Q.map en) (i7 P L f s3 s4 s5 (.va (en mid)) s7)=.ok (.nx (i7 P L (qw mid Q P f) s3' s4' s5 (.va (en mid)) s7'))
 |[],f,s3,s4,s5,s7,_=>⟨s3,s4,s7,rfl⟩
 |u::Q,f,s3,s4,s5,s7,h=>by
  have hu:=h u Nv;obtain⟨s4',s7',e⟩:=Ha (L:=L) nd pl hm hu P f s4 s5 s7 λ_ z=>z
  rw[Nx,cP (Z1:=i7 P L f (.va (en u)) s4 s5 (.va (en mid)) s7) rfl (dN (ts:=P.map en) rfl e)];exact G9 nd pl hm Q _ _ _ _ _ λw hw=>h w (Nu _ hw)
theorem G8(nd:P.Nodup)(pl:P.length<1000):∀(Q:List N2)(f:dy N2)(s3 s4 s5 s6 s7:Sl),(∀u∈Q,u∈P)->∃s3' s4' s6' s7',
  bc (gN 6) (dS (iS (vr 0)) (gN 3) (dS (iS (vr 0)) (gN 4) Kh)) (Q.map en) (i7 P L f s3 s4 s5 s6 s7)=.ok (.nx (i7 P L (xJ Q P f) s3' s4' s5 s6' s7'))
 |[],f,s3,s4,s5,s6,s7,_=>⟨s3,s4,s6,s7,rfl⟩
 |u::Q,f,s3,s4,s5,s6,s7,h=>by
  have hu:=h u Nv;obtain⟨s3',s4',s7',e⟩:=G9 (L:=L) nd pl hu P f s3 s4 s5 s7 λ_ z=>z
  rw[Nx,cP (Z1:=i7 P L f s3 s4 s5 (.va (en u)) s7) rfl (dN (ts:=P.map en) rfl e)];exact G8 nd pl Q _ _ _ _ _ _ λw hw=>h w (Nu _ hw)
def G2(P:List N2)(f:dy N2):Prop:=∀u∈P,∀y,f u u=ZA y->0<=y
def HL(hd:∀u∈P,∃y,table P L u u=ZA y)(pl:P.length<1000)(s3 s4 s5 s6 s7:Sl):
  ∃t,((G2 P (table P L)/\t=cG P (table P L))\/(¬G2 P (table P L)/\t=.non))/\mX 2 (aL (qu (tb (o2 nX (ee (iS (vr 0)) [ZB,ZA 2] (gN 0) (tb (o2 qP (o2 aO (o2 aO (vr 1) (vr 0)) (vr 0)) (cn (.int 0)))) (vr 0)) (dF ai))) (vr 2) (cn .non))) (i7 P L (table P L) s3 s4 s5 s6 s7)=.ok (.rt t):=by
 generalize hf:table P L=f
 rw[hf]at hd
 have lc:ee (iS (vr 0)) [ZB,ZA 2] (gN 0) (tb (o2 qP (o2 aO (o2 aO (vr 1) (vr 0)) (vr 0)) (cn (.int 0)))) (vr 0) (HM P L f s3 s4 s5 s6 s7)=.ok (.lst (((P.map en).filter λt=>P.any λu=>decide (keyOf t=ZA (ky u))&&(match f u u with|some y=>decide (y<0)|none=>ZD)).map id)):=by
  refine DA (ts:=P.map en) rfl (aB (k:=1000) (by rw[Ny];omega)) (by simp) λt ht=>?_
  obtain⟨u,hu,rfl⟩:=NS.mp ht;obtain⟨y,hy⟩:=hd u hu;refine⟨?_,λ_=>rfl⟩
  have e:(P.any λw=>decide (keyOf (en u)=ZA (ky w))&&(match f w w with|some y=>decide (y<0)|none=>ZD))=decide (y<0):=by
   by_cases h:y<0
   ·rw[decide_eq_true h]
    exact Rk.mpr ⟨u,hu,by rw[hy];simp[h,bu]⟩
   ·rw[decide_eq_false h,S2]
    intro w hw
    by_cases q:w=u
    ·subst q;rw[hy];simp[h]
    ·rw[decide_eq_false (λz=>q (jg ((bu u).symm.trans z)).symm)];simp
  rw[e]
  have g:=tJ (P:=P) (f:=f) (u:=u) (v:=u) (Z:=[.va (en u),.va (cG P f)]) (c:=vr 1) (a:=vr 0) (b:=vr 0) rfl rfl rfl hu hu;rw[hy]at g;exact ba (aD (t:=.int y) (u:=.int 0) g rfl rfl)
 rw[Wl]at lc
 generalize hp:(λt=>P.any λu=>decide (keyOf t=ZA (ky u))&&(match f u u with|some y=>decide (y<0)|none=>ZD))=p at lc
 have pu:∀u∈P,∀y,f u u=ZA y->p (en u)=decide (y<0):=by
  intro u hu y hy;rw[<-hp]
  show(P.any λw=>decide (keyOf (en u)=ZA (ky w))&&(match f w w with|some y=>decide (y<0)|none=>ZD))=decide (y<0)
  by_cases h:y<0
  ·rw[decide_eq_true h]
   exact Rk.mpr ⟨u,hu,by rw[hy];simp[h,bu]⟩
  ·rw[decide_eq_false h,S2]
   intro w hw
   by_cases q:w=u
   ·subst q;rw[hy];simp[h]
   ·rw[decide_eq_false (λz=>q (jg ((bu u).symm.trans z)).symm)];simp
 have iff:(P.map en).filter p=[] ↔G2 P f:=by
  rw[List.filter_eq_nil_iff]
  constructor
  ·intro h u hu y hy
   have:=h (en u) (NS.mpr ⟨u,hu,rfl⟩);rw[pu u hu y hy]at this
   simpa using this
  ·intro h t ht
   obtain⟨u,hu,rfl⟩:=NS.mp ht;obtain⟨y,hy⟩:=hd u hu;rw[pu u hu y hy]
   have:=h u hu y hy
   simpa using this
 have nd:nds ((P.map en).filter p)=ZC:=C7 λt ht=>by
  obtain⟨u,_,rfl⟩:=NS.mp (Rx.mp ht).1
  rfl
 have eq:o2 nX (ee (iS (vr 0)) [ZB,ZA 2] (gN 0) (tb (o2 qP (o2 aO (o2 aO (vr 1) (vr 0)) (vr 0)) (cn (.int 0)))) (vr 0)) (dF ai) (HM P L f s3 s4 s5 s6 s7)=.ok (.bl (bh (.lst ((P.map en).filter p)) (.lst []))):=
  aD (u:=.lst []) lc (mE rfl (aB (k:=1) (by simp))) (by unfold nX;rw[if_pos (xK (by simp[T.dep,deps]) (by simpa [T.nd]using nd) rfl)])
 by_cases D:G2 P f
 ·refine⟨cG P f,.inl ⟨D,rfl⟩,?_⟩
  rw[iff.mpr D]at eq;refine DD ?_
  rw[zc];exact bS ((lD (p:=ZC) (ba eq)).trans rfl)
 ·refine⟨.non,.inr ⟨D,rfl⟩,?_⟩
  have:(P.map en).filter p≠ []:=λz=>D (iff.mp z)
  cases q:(P.map en).filter p with
  |nil=>exact absurd q this
  |cons a l=>
   rw[q]at eq;refine DD ?_
   rw[zc];exact bS ((lD (p:=ZD) (ba (eq.trans (by simp[bh,beqTs])))).trans rfl)
def GF(nd:P.Nodup)(pl:P.length<1000)(hL:∀x∈L,x.1∈P/\x.2.1∈P):
  ∃t,((bZ L/\cY L P (table P L)/\t=cG P (table P L))\/(¬bZ L/\t=.non))/\fz [eS P,eL L]=.ok t:=by
 obtain⟨a3,e1⟩:=Hd (L:=L) nd pl P (λ_ _=>ZB) .em .em .em .em .em λ_ z=>z
 rw[Bq]at e1;obtain⟨b3,b4,b5,e2⟩:=Hb (L:=L) nd pl L (vV P) a3 .em .em .em .em hL;obtain⟨c3,c4,c6,c7,e3⟩:=G8 (L:=L) nd pl P (B6 P L) b3 b4 b5 .em .em λ_ z=>z
 obtain⟨t,ht,e4⟩:=HL (P:=P) (L:=L) (λu hu=>let ⟨y,h,_⟩:=oS (L:=L) hu;⟨y,h⟩) pl c3 c4 b5 c6 c7
 refine⟨t,ht.elim (λh=>.inl ?_) (λh=>.inr ⟨λn=>h.1 λu hu y hy=>?_,h.2⟩),bD rfl ?_⟩
 ·have:=nL hL h.1
  exact⟨this.1,this.2,h.2⟩
 ·exact Int.not_lt.mp λz=>rQ hy z n
 ·show jv [.va (eS P),.va (eL L),.em,.em,.em,.em,.em,.em]=_
  unfold jv;rw[ay (HK nd (by omega)),ay (dN (ts:=P.map en) rfl e1),ay (dN (ts:=L.map eB) rfl e2)]
  exact(ay (dN (ts:=P.map en) rfl e3)).trans e4
variable{ns:List Int}
section
variable{a:N2}{b:cD N2}
def zT(S:Settled L [a] b)(F:cY L P f)(ha:a∈P)(c:N2):Dc (b c)=oI (f a c):=by
 cases q:b c with
 |none=>
  cases e:f a c with
  |none=>rfl
  |some y=>
   obtain⟨d,w,z,_⟩:=S.least a (by simp) c y (F.is a c y e)
   rw[q]at z;cases z
 |some x=>
  obtain⟨d,w⟩:=x;obtain⟨s,hs,h1,h2,_⟩:=S.walk c d w q;rw[NR.mp hs]at h1
  have wk:Wk L a c d:=h2▸h1.wk;obtain⟨y,e,hy⟩:=F.le a ha c d wk;obtain⟨d',w',z,hd⟩:=S.least a (by simp) c y (F.is a c y e)
  rw[q]at z;cases z;rw[e]
  show T.int d=.int y
  congr 1
  omega
def Rd.MM(R:Rd cs ls L P)(n:bZ L)(F:cY L P f)(ha:a∈P)(hc:c∈P):cI [(RR cs ls),en a,en c]=.ok (oI (f a c)):=by
 obtain⟨b,S,e⟩:=R.Nl n ha hc;rw[e,zT S F ha]
def ngI(o:Option Int):T:=match o with
 |some x=>.int (0 - x)
 |none=>.non
def Rd.MU(R:Rd cs ls L P)(n:bZ L)(F:cY L P f)(ha:a∈P)(hc:c∈P):eK [(RR cs ls),en a,en c]=.ok (ngI (f c a)):=by
 refine bD rfl ?_
 show gq [.va (RR cs ls),.va (en a),.va (en c),.em]=_
 unfold gq;rw[ay (Z':=[.va (RR cs ls),.va (en a),.va (en c),.va (oI (f c a))]) (bW (aP (ts:=[(RR cs ls),en c,en a]) rfl (R.MM n F hc ha)) rfl)]
 cases f c a with
 |none=>exact bS ((lD (p:=ZC) (ba (aD (t:=.non) (u:=.non) rfl rfl rfl))).trans rfl)
 |some x=>
  refine bS ((lD (p:=ZD) (ba (aD (t:=.int x) (u:=.non) rfl rfl rfl))).trans ((JD (t:=.int x) rfl rfl).trans ?_))
  show Rs.ok (T.int (-x))=.ok (.int (0 - x))
  rw[VL]
theorem yO{D:Bool}:∀{l:List T},(∀t∈l,t.nk D=ZC)->nks D l=ZC
 |[],_=>rfl
 |t::l,h=>by unfold nks;rw[h t Nv,yO λu hu=>h u (Nu _ hu)];rfl
def wy(P:List N2)(f:dy N2)(u:N2):T:=.tup (P.map λv=>oI (f u v))
def AS(P:List N2)(f:dy N2):T:=.tup (P.map (wy P f))
def Jm(D:Bool)(P:List N2)(f:dy N2):(AS P f).nk D=ZC:=by
 show nks D (P.map (wy P f))=ZC
 refine yO λt ht=>?_
 obtain⟨u,_,rfl⟩:=NS.mp ht
 show nks D (P.map λv=>oI (f u v))=ZC
 refine yO λt ht=>?_
 obtain⟨v,_,rfl⟩:=NS.mp ht;cases f u v <;> rfl
def DZ{ms:List N2}(D:DR P ms b)(c:N2):eZ [.dct (ms.map en) (dV ms b),en c]=.ok (Dc (b c)):=by
 refine bD rfl ?_
 refine bS ((lD (p:=(b c).isSome) (ba (aD (t:=en c) (u:=.dct (ms.map en) (dV ms b)) rfl rfl (Eh D c)))).trans ?_)
 cases q:b c with
 |none=>rfl
 |some x=>exact aD (t:=eW x) (u:=.int 0) (aD (t:=.dct (ms.map en) (dV ms b)) (u:=en c) rfl rfl (vi D q)) rfl rfl
def deO(f:dy N2)(u:N2)(t:T):T:=match t with
 |.tup [.int c,.int k] =>oI (f u ⟨c,k⟩)
 |_=>.non
def GO(P:List N2)(f:dy N2)(u:N2):(P.map en).map (deO f u)=P.map λv=>oI (f u v):=by rw[Oo];rfl
theorem Rd.MB(R:Rd cs ls L P)(n:bZ L)(F:cY L P f):∀(Q:List N2)(acc:List T)(s3 s4:Sl),(∀u∈Q,u∈P)->acc.length+Q.length<=1000->∃s3' s4',
  bc (gN 3) amF (Q.map en) [.va (RR cs ls),.va (eS P),.ow (.lst acc),s3,s4]=.ok (.nx [.va (RR cs ls),.va (eS P),.ow (.lst (acc++Q.map (wy P f))),s3',s4'])
 |[],acc,s3,s4,_,_=>⟨s3,s4,by simp only[QV,OH];rfl⟩
 |u::Q,acc,s3,s4,h,hl=>by
  have hu:=h u Nv;rw[ND]at hl;obtain⟨b,ms,S,D,e⟩:=R.from_ n hu
  have lc:ee (iS (vr 1)) [ZB,ZA 4] (gN 0) bT (cl eZ (af (vr 1) (af (vr 0) ai))) [.va (RR cs ls),.va (eS P),.ow (.lst acc),.va (en u),.va (.dct (ms.map en) (dV ms b))]=.ok (.lst ((P.map en).map (deO f u))):=
   qm (ts:=P.map en) (gR rfl) (aB (k:=16) (by rw[Ny];exact R.pl)) (by simp) λt ht=>by
    obtain⟨v,hv,rfl⟩:=NS.mp ht;refine(aP (ts:=[.dct (ms.map en) (dV ms b),en v]) rfl (DZ D v)).trans ?_
    rw[zT S F hu];rfl
  rw[GO]at lc
  have st:amF [.va (RR cs ls),.va (eS P),.ow (.lst acc),.va (en u),s4]=.ok (.nx [.va (RR cs ls),.va (eS P),.ow (.lst (acc++[wy P f u])),.va (en u),.va (.dct (ms.map en) (dV ms b))]):=by
   refine(ay (Z':=[.va (RR cs ls),.va (eS P),.ow (.lst acc),.va (en u),.va (.dct (ms.map en) (dV ms b))]) (bW (aP (ts:=[(RR cs ls),en u]) rfl e) rfl)).trans ?_
   exact mF (l:=acc) (aP (au lc rfl) mU) rfl (by omega)
  obtain⟨a,c,ih⟩:=R.MB n F Q (acc++[wy P f u]) (.va (en u)) (.va (.dct (ms.map en) (dV ms b))) (λw hw=>h w (Nu _ hw)) (by rw[NH];simp only[ND,Qs];omega)
  refine⟨a,c,?_⟩
  rw[Nx,cP (Z1:=[.va (RR cs ls),.va (eS P),.ow (.lst acc),.va (en u),s4]) rfl st,ih,NY]
  rfl
def Rd.Nj(R:Rd cs ls L P)(n:bZ L)(F:cY L P f):jd [(RR cs ls)]=.ok (AS P f):=by
 refine bD rfl ?_
 show lV [.va (RR cs ls),.em,.em,.em,.em]=_
 unfold lV;rw[ay (oq (t:=.non) (aP (ts:=[(RR cs ls)]) rfl (R.MP n)))];rw[ay (Z':=[.va (RR cs ls),.va (eS P),.em,.em,.em]) (bW (aP (ts:=[(RR cs ls)]) rfl R.events) rfl)];rw[ay (Z':=[.va (RR cs ls),.va (eS P),.ow (.lst []),.em,.em]) (ql (by simp))]
 obtain⟨a,c,e⟩:=R.MB n F P [] .em .em (λ_ z=>z) (by have:=R.pl;simp;omega)
 rw[ay (dN (ts:=P.map en) (gR rfl) e),OW];exact bS (Gp (o:=.lst (P.map (wy P f))) rfl (aP (ts:=[.lst (P.map (wy P f))]) rfl mU) (Jm _ P f))
end
variable{fc:W6}{fe:W5}
theorem qe{p:T->Bool}{h:T->T}(I:En->Prop):∀(ts:List T)(Z:En),I Z->(∀t∈ts,∀Z,I Z->∃Z1,g t Z=.ok Z1/\I Z1/\fc Z1=.ok (p t)/\fe Z1=.ok (h t))->dt g fc fe ts Z=.ok ((ts.filter p).map h)
 |[],_,_,_=>rfl
 |t::r,Z,hI,hf=>by
  obtain⟨Z1,e1,i1,e2,e3⟩:=hf t Nv Z hI
  have ih:=qe I r Z1 i1 λu hu=>hf u (Nu _ hu)
  unfold dt
  cases q:p t with
  |true=>simp only[e1,aF,e2,q,if_true,e3,ih,Ti q,Nx]
  |false=>simp only[e1,aF,e2,q,N8,if_false,ih,Tj (show ¬p t=ZC by rw[q];decide)]
theorem sV(g:N2->T):∀(S ns:List N2),(ns++S).Nodup->gW ((S.map en).zip (S.map g)) (ns.map en,ns.map g)=((ns++S).map en,(ns++S).map g)
 |[],ns,_=>by rw[OH];rfl
 |v::S,ns,hn=>by
  have hv:v∉ns:=λz=>by
   rw[OP]at hn;exact hn.2.2 v z v Nv rfl
  rw[Nx,Nx,RB,gW,kf _ _ _ _ hv]
  have e1:ns.map en++[en v]=(ns++[v]).map en:=by rw[Oe];rfl
  have e2:ns.map g++[g v]=(ns++[v]).map g:=by rw[Oe];rfl
  rw[e1,e2,sV g S (ns++[v]) (by rw[NY];exact hn),NY]
  rfl
def sX(P:List N2)(t:N2->Int):T:=.dct (P.map en) (P.map λv=>.int (t v))
def hB(t:N2->Int)(x:N2×N2×Int):Bool:=decide (t x.2.1 - t x.1<=x.2.2)
def Rd.pos(R:Rd cs ls L P):0<P.length:=by
 obtain⟨hcl,c1,_⟩:=de R.g.c
 have e:=congrArg O0 R.e;rw[Ny]at e;rw[<-e]
 cases cs with
 |nil=>simp at c1
 |cons c cs=>
  obtain⟨x,y,r,rfl,r1,_⟩:=gf (hcl c Nv);rw[fI,NH,iX]
  show 0<r.length+_
  omega
def Rd.dz(R:Rd cs ls L P)(t:N2->Int):Ke [eS P,lH P t]=.ok (sX P t):=by
 have h0:=R.pos
 have h1:=R.pl
 show(if iV (P.map en)=ZC/\(P.map en).length=(P.map λv=>T.int (t v)).length/\1<=(P.map en).length/\(P.map en).length<=1000 then _ else _)=_
 rw[if_pos ⟨qf P,by rw[Ny,Ny],by rw[Ny];omega,by rw[Ny];omega⟩]
 have:=sV (λv=>.int (t v)) P [] (by simpa using R.nd)
 rw[OW]at this;rw[show(([]:List T),([]:List T))=(([]:List N2).map en,([]:List N2).map λv=>T.int (t v))from rfl,this]
 rfl
def kh{t:N2->Int}(ha:a Z=.ok (sX P t))(hb:b Z=.ok (en v))(hv:v∈P):o2 aO a b Z=.ok (.int (t v)):=by
 refine aD (t:=sX P t) (u:=en v) ha hb ?_
 show(match kX (P.map en) (P.map λv=>T.int (t v)) (ky v)with|some t=>Rs.ok t|none=>.bad)=_
 rw[mM (λv=>T.int (t v)),if_pos hv]
theorem uU:∀(ns:List Int)(i:Int),gA i ns<=i/\∀x∈ns,gA i ns<=x
 |[],i=>⟨Po _,λx h=>by cases h⟩
 |j::ns,i=>by
  have h:=uU ns (if j<i then j else i)
  rw[gA];refine⟨?_,λx hx=>?_⟩
  ·have:=h.1;split at this <;> omega
  ·rcases NG.mp hx with rfl|hx
   ·have:=h.1;split at this <;> omega
   ·exact h.2 x hx
theorem xu:∀(ns:List Int)(i:Int),gA i ns=i\/gA i ns∈ns
 |[],i=>.inl rfl
 |j::ns,i=>by
  rw[gA];rcases xu ns (if j<i then j else i)with h|h
  ·rw[h]
   split
   ·exact .inr Nv
   ·exact .inl rfl
  ·exact .inr (Nu _ h)
theorem zW:∀(ns:List Int)(i:Int),i<=ix i ns/\∀x∈ns,x<=ix i ns
 |[],i=>⟨Po _,λx h=>by cases h⟩
 |j::ns,i=>by
  have h:=zW ns (if i<j then j else i)
  rw[ix];refine⟨?_,λx hx=>?_⟩
  ·refine Int.le_trans ?_ h.1;split <;> omega
  ·rcases NG.mp hx with rfl|hx
   ·refine Int.le_trans ?_ h.1;split <;> omega
   ·exact h.2 x hx
theorem xv:∀(ns:List Int)(i:Int),ix i ns=i\/ix i ns∈ns
 |[],i=>.inl rfl
 |j::ns,i=>by
  rw[ix];rcases xv ns (if i<j then j else i)with h|h
  ·rw[h]
   split
   ·first|exact .inr Nv|exact .inl rfl
   ·first|exact .inl rfl|exact .inr Nv
  ·exact .inr (Nu _ h)
theorem lM:∀l:List Int,eh (l.map .int)=ZA l
 |[] =>rfl
 |x::l=>by rw[Nx,eh,lM l];rfl
def deN(t:T):N2:=match t with
 |.tup [.int c,.int k] =>⟨c,k⟩
 |_=>⟨0,0⟩
def ji(u:N2):deN (en u)=u:=rfl
def mi(g:N2->Option Int)(t:T):Bool:=(g (deN t)).isSome
def o6(g:N2->Option Int)(t:T):T:=match g (deN t)with
 |some x=>.int x
 |none=>.non
theorem vd(g:N2->Option Int):∀Q:List N2,((Q.map en).filter (mi g)).map (o6 g)=(Q.filterMap g).map .int
 |[] =>rfl
 |u::Q=>by
  have ih:=vd g Q;rw[Nx,QC]
  cases q:g u with
  |none=>rw[Tj (by unfold mi;rw[ji,q];decide)];exact ih
  |some x=>
   rw[Ti (by unfold mi;rw[ji,q];rfl),Nx,ih]
   show o6 g (en u)::_=T.int x::_
   unfold o6;rw[ji,q]
def Ht{src:List (Option Nat)}{tgt:T->En->Rs En}{ks:List T}{t:T}(hi:Z[i]?=ZA (.ow (.dct ks ts)))(h:ee (iD (vr i)) src tgt fc fe (disown i Z)=.ok t)(hk:t.nk ZC=ZC)(hj:j<Z.length):tY i j src tgt fc fe Z=.ok (.nx (Z.set j (.va t))):=by
 unfold tY;rw[hi]
 dsimp only
 rw[h]
 dsimp only
 rw[if_pos ⟨hk,hj⟩]
def uM(l:List Int):(T.lst (l.map .int)).nk ZC=ZC:=by
 show(ZC&&nks ZC (l.map .int))=ZC
 rw[RH]
 induction l with
 |nil=>rfl
 |cons x l ih=>exact ih
def uP(l:List Int):iG (.lst (l.map .int)) (.lst [])=.ok (.bl (!l.isEmpty)):=by
 have pl:(T.lst (l.map .int)).pl=ZC:=by unfold T.pl;exact mZ λu hu=>by obtain⟨k,_,rfl⟩:=NS.mp hu;rfl
 unfold iG;rw[if_pos (xK (by simp[T.dep,deps]) (T.Ml _ pl) (T.Ml _ (by rfl)))]
 cases l with
 |nil=>rfl
 |cons a l=>simp[bh,beqTs]
variable{Q:List N2}
def qQ(f:dy N2)(t:N2->Int)(v u:N2):Option Int:=(f u v).map λx=>t u+x
def rJ(f:dy N2)(t:N2->Int)(v u:N2):Option Int:=(f v u).map λx=>t u - x
def HC(f:dy N2)(Q:List N2)(t:N2->Int):Prop:=∀u∈Q,∀w∈Q,∀d,f u w=ZA d->t w - t u<=d
def p0(lo hi:List Int):Int:=match lo with
 |x::l=>ix x l
 |[] =>match hi with
  |x::l=>gA x l - 5
  |[] =>0
def BL(lo hi:List Int):Int:=match hi with
 |x::l=>gA x l
 |[] =>p0 lo hi+5
def Hr{t:N2->Int}(F:cY L P f)(hv:v∈P)(hQ:∀u∈Q,u∈P)(h:HC f Q t):
  p0 (Q.filterMap (rJ f t v)) (Q.filterMap (qQ f t v))<=BL (Q.filterMap (rJ f t v)) (Q.filterMap (qQ f t v))/\(∀x∈Q.filterMap (rJ f t v),x<=p0 (Q.filterMap (rJ f t v)) (Q.filterMap (qQ f t v)))/\∀x∈Q.filterMap (qQ f t v),BL (Q.filterMap (rJ f t v)) (Q.filterMap (qQ f t v))<=x:=by
 have key:∀x∈Q.filterMap (rJ f t v),∀y∈Q.filterMap (qQ f t v),x<=y:=λx hx y hy=>by
  obtain⟨u,hu,eu⟩:=PL.mp hx;obtain⟨w,hw,ew⟩:=PL.mp hy;unfold rJ at eu;unfold qQ at ew;obtain⟨p,hp,rfl⟩:=O5.mp eu;obtain⟨q,hq,rfl⟩:=O5.mp ew;obtain⟨d,hd,hle⟩:=F.le w (hQ w hw) u _ ((F.is w v q hq).app (F.is v u p hp))
  have:=h w hw u hu d hd;omega
 generalize Q.filterMap (rJ f t v)=lo at key
 generalize Q.filterMap (qQ f t v)=hi at key
 cases lo with
 |nil=>
  cases hi with
  |nil=>exact⟨by show(0:Int)<=0+5;omega,(λx h=>by cases h),λx h=>by cases h⟩
  |cons y hi=>
   have m:=uU hi y;refine⟨by show gA y hi - 5<=gA y hi;omega,(λx h=>by cases h),λx hx=>?_⟩
   show gA y hi<=x
   rcases NG.mp hx with rfl|hx
   ·exact m.1
   ·exact m.2 x hx
 |cons x lo=>
  have mx:=zW lo x
  have up:∀z∈x::lo,z<=ix x lo:=λz hz=>by
   rcases NG.mp hz with rfl|hz
   ·exact mx.1
   ·exact mx.2 z hz
  cases hi with
  |nil=>exact⟨by show ix x lo<=ix x lo+5;omega,up,λx h=>by cases h⟩
  |cons y hi=>
   have m:=uU hi y;refine⟨?_,up,λz hz=>?_⟩
   ·show ix x lo<=gA y hi
    have h1:ix x lo∈x::lo:=(xv lo x).elim (λe=>by rw[e];exact Nv) λe=>Nu _ e
    have h2:gA y hi∈y::hi:=(xu hi y).elim (λe=>by rw[e];exact Nv) λe=>Nu _ e
    exact key _ h1 _ h2
   ·show gA y hi<=z
    rcases NG.mp hz with rfl|hz
    ·exact m.1
    ·exact m.2 z hz
def DS{t:N2->Int}(n:bZ L)(F:cY L P f)(hv:v∈P)(hq:v∉Q)(hQ:∀u∈Q,u∈P)(h:HC f Q t)(h1:p0 (Q.filterMap (rJ f t v)) (Q.filterMap (qQ f t v))<=x)(h2:x<=BL (Q.filterMap (rJ f t v)) (Q.filterMap (qQ f t v))):
  HC f (Q++[v]) (λu=>if u=v then x else t u):=by
 obtain⟨_,l1,l2⟩:=Hr F hv hQ h;intro u hu w hw d hd
 have nv:∀u∈Q,u≠v:=λu hu z=>hq (z▸hu)
 show(if w=v then x else t w) - (if u=v then x else t u)<=d
 rcases Oa.mp hu with hu|hu <;> rcases Oa.mp hw with hw|hw
 ·rw[if_neg (nv u hu),if_neg (nv w hw)];exact h u hu w hw d hd
 ·rw[NR.mp hw]at hd ⊢
  rw[if_neg (nv u hu),if_pos rfl]
  have:=l2 (t u+d) (PL.mpr ⟨u,hu,by unfold qQ;rw[hd];rfl⟩)
  omega
 ·rw[NR.mp hu]at hd ⊢
  rw[if_neg (nv w hw),if_pos rfl]
  have:=l1 (t w - d) (PL.mpr ⟨w,hw,by unfold rJ;rw[hd];rfl⟩)
  omega
 ·rw[NR.mp hu,NR.mp hw]at hd
  rw[NR.mp hu,NR.mp hw]
  have:=n v d (F.is v v d hd);omega
def ze{t:N2->Int}(ha:a Z=.ok (.dct (Q.map en) (Q.map λv=>.int (t v))))(hb:b Z=.ok (en v))(hv:v∈Q):o2 aO a b Z=.ok (.int (t v)):=kh (P:=Q) ha hb hv
def xn(x:Int)(l:List Int):uR [.lst ((x::l).map .int)]=.ok (.int (gA x l)):=by
 show(match eh ((x::l).map .int)with|some (i::ns)=>Rs.ok (T.int (gA i ns))|_=>.bad)=_
 rw[lM]
def Dg(x:Int)(l:List Int):Bc [.lst ((x::l).map .int)]=.ok (.int (ix x l)):=by
 show(match eh ((x::l).map .int)with|some (i::ns)=>Rs.ok (T.int (ix i ns))|_=>.bad)=_
 rw[lM]
def Ls{fk fv:W5}{ks vs:List T}{k v:T}{kk:List L2.Key}(hi:Z[i]?=ZA (.ow (.dct ks vs)))(hv:fv Z=.ok v)(hk:fk Z=.ok k)(e:keyOf k=ZA kk)(hl:ks.length<1000):qY i fk fv Z=.ok (.nx (Z.set i (.ow (.dct (gD k v ks vs).1 (gD k v ks vs).2)))):=by
 unfold qY;rw[hi]
 dsimp only
 rw[hv,aF,hk,aF,e]
 dsimp only
 rw[if_pos hl]
def GK(hn:ns.length<=63)(n:bZ L)(F:cY L P f)(pl:P.length<=16){t:N2->Int}(hv:v∈P)(hq:v∉Q)(hQ:∀u∈Q,u∈P)(hl:Q.length<=16)(h:HC f Q t)(a k:Nat)(row:T)(s8 s9 s10 s11:Sl):∃x b8 b9 b10 b11,HC f (Q++[v]) (λu=>if u=v then x else t u) ∧
  DW [.va (.scr ns),.va (.int (a:Nat)),.va (eS P),.va row,.va (cG P f),.ow (.dct (Q.map en) (Q.map λv=>.int (t v))),.va (.int (k:Nat)),.va (en v),s8,s9,s10,s11]=.ok (.nx [.va (.scr ns),.va (.int (a:Nat)),.va (eS P),.va row,.va (cG P f),.ow (.dct ((Q++[v]).map en) ((Q++[v]).map λu=>.int (if u=v then x else t u))),.va (.int (k:Nat)),.va (en v),b8,b9,b10,b11]):=by
 obtain⟨lh,_,_⟩:=Hr F hv hQ h
 have lch:ee (iD (vr 5)) [ZB,ZA 5,ZA 4,ZA 7] (gN 0) (tb (o2 cS (o2 aO (o2 aO (vr 2) (vr 0)) (vr 3)) (cn .non))) (o2 aS (o2 aO (vr 1) (vr 0)) (o2 aO (o2 aO (vr 2) (vr 0)) (vr 3))) (disown 5 [.va (.scr ns),.va (.int (a:Nat)),.va (eS P),.va row,.va (cG P f),.ow (.dct (Q.map en) (Q.map λv=>.int (t v))),.va (.int (k:Nat)),.va (en v),s8,s9,s10,s11])=.ok (.lst ((Q.filterMap (qQ f t v)).map .int)):=by
  rw[<-vd (qQ f t v) Q];refine DA (ts:=Q.map en) rfl (aB (k:=16) (by rw[Ny];exact hl)) (by simp) λu0 hu0=>?_
  obtain⟨u,hu,rfl⟩:=NS.mp hu0
  have e:=tJ (P:=P) (f:=f) (u:=u) (v:=v) (a:=vr 0) (b:=vr 3) (c:=vr 2) (Z:=[.va (en u),.va (.dct (Q.map en) (Q.map λv=>.int (t v))),.va (cG P f),.va (en v)]) rfl rfl rfl (hQ u hu) hv
  have e2:=ze (Q:=Q) (t:=t) (v:=u) (a:=vr 1) (b:=vr 0) (Z:=[.va (en u),.va (.dct (Q.map en) (Q.map λv=>.int (t v))),.va (cG P f),.va (en v)]) rfl rfl hu
  refine⟨?_,λhp=>?_⟩
  ·show _=Rs.ok (mi (qQ f t v) (en u))
   refine ba ((aD (u:=.non) e rfl rfl).trans ?_)
   unfold mi qQ;rw[ji];cases f u v <;> rfl
  ·show _=Rs.ok (o6 (qQ f t v) (en u))
   unfold mi qQ at hp;rw[ji]at hp
   cases q:f u v with
   |none=>rw[q]at hp;cases hp
   |some d=>
    rw[q]at e;unfold o6 qQ;rw[ji,q];exact aD (t:=.int (t u)) (u:=.int d) e2 e rfl
 have lcl:ee (iD (vr 5)) [ZB,ZA 5,ZA 4,ZA 7] (gN 0) (tb (o2 cS (o2 aO (o2 aO (vr 2) (vr 3)) (vr 0)) (cn .non))) (o2 cR (o2 aO (vr 1) (vr 0)) (o2 aO (o2 aO (vr 2) (vr 3)) (vr 0))) (disown 5 [.va (.scr ns),.va (.int (a:Nat)),.va (eS P),.va row,.va (cG P f),.ow (.dct (Q.map en) (Q.map λv=>.int (t v))),.va (.int (k:Nat)),.va (en v),.va (.lst ((Q.filterMap (qQ f t v)).map .int)),s9,s10,s11])=.ok (.lst ((Q.filterMap (rJ f t v)).map .int)):=by
  rw[<-vd (rJ f t v) Q];refine DA (ts:=Q.map en) rfl (aB (k:=16) (by rw[Ny];exact hl)) (by simp) λu0 hu0=>?_
  obtain⟨u,hu,rfl⟩:=NS.mp hu0
  have e:=tJ (P:=P) (f:=f) (u:=v) (v:=u) (a:=vr 3) (b:=vr 0) (c:=vr 2) (Z:=[.va (en u),.va (.dct (Q.map en) (Q.map λv=>.int (t v))),.va (cG P f),.va (en v)]) rfl rfl rfl hv (hQ u hu)
  have e2:=ze (Q:=Q) (t:=t) (v:=u) (a:=vr 1) (b:=vr 0) (Z:=[.va (en u),.va (.dct (Q.map en) (Q.map λv=>.int (t v))),.va (cG P f),.va (en v)]) rfl rfl hu
  refine⟨?_,λhp=>?_⟩
  ·show _=Rs.ok (mi (rJ f t v) (en u))
   refine ba ((aD (u:=.non) e rfl rfl).trans ?_)
   unfold mi rJ;rw[ji];cases f v u <;> rfl
  ·show _=Rs.ok (o6 (rJ f t v) (en u))
   unfold mi rJ at hp;rw[ji]at hp
   cases q:f v u with
   |none=>rw[q]at hp;cases hp
   |some d=>
    rw[q]at e;unfold o6 rJ;rw[ji,q];exact aD (t:=.int (t u)) (u:=.int d) e2 e rfl
 have fm:∀{x:Int},p0 (Q.filterMap (rJ f t v)) (Q.filterMap (qQ f t v))<=x->x<=BL (Q.filterMap (rJ f t v)) (Q.filterMap (qQ f t v))->HC f (Q++[v]) (λu=>if u=v then x else t u):=λ{x} h1 h2=>DS n F hv hq hQ h h1 h2
 generalize Q.filterMap (qQ f t v)=hi at lch lcl fm lh
 generalize Q.filterMap (rJ f t v)=lo at lcl fm lh
 unfold DW;rw[ay (Z':=[.va (.scr ns),.va (.int (a:Nat)),.va (eS P),.va row,.va (cG P f),.ow (.dct (Q.map en) (Q.map λv=>.int (t v))),.va (.int (k:Nat)),.va (en v),.va (.lst (hi.map .int)),s9,s10,s11]) (Ht rfl lch (uM _) (by simp))]
 rw[ay (Z':=[.va (.scr ns),.va (.int (a:Nat)),.va (eS P),.va row,.va (cG P f),.ow (.dct (Q.map en) (Q.map λv=>.int (t v))),.va (.int (k:Nat)),.va (en v),.va (.lst (hi.map .int)),.va (.lst (lo.map .int)),s10,s11]) (Ht rfl lcl (uM _) (by simp))]
 have nil_:∀(Z:En),dF ai Z=.ok (.lst []):=λZ=>mE rfl (aB (k:=1) (by simp))
 have e10:(qu (tb (o2 iG (vr 9) (dF ai))) (cl Bc (af (vr 9) ai)) (qu (tb (o2 iG (vr 8) (dF ai))) (o2 cR (cl uR (af (vr 8) ai)) (cn (.int 5))) (cn (.int 0)))) [.va (.scr ns),.va (.int (a:Nat)),.va (eS P),.va row,.va (cG P f),.ow (.dct (Q.map en) (Q.map λv=>.int (t v))),.va (.int (k:Nat)),.va (en v),.va (.lst (hi.map .int)),.va (.lst (lo.map .int)),s10,s11]=.ok (.int (p0 lo hi)):=by
  rw[lD (ba (aD (t:=.lst (lo.map .int)) (u:=.lst []) rfl (nil_ _) (uP lo)))]
  cases lo with
  |cons x l=>exact aP (ts:=[.lst ((x::l).map .int)]) rfl (Dg x l)
  |nil=>
   show qu _ _ _ _=_
   rw[lD (ba (aD (t:=.lst (hi.map .int)) (u:=.lst []) rfl (nil_ _) (uP hi)))]
   cases hi with
   |cons x l=>exact aD (t:=.int (gA x l)) (u:=.int 5) (aP (ts:=[.lst ((x::l).map .int)]) rfl (xn x l)) rfl rfl
   |nil=>rfl
 rw[ay (Z':=[.va (.scr ns),.va (.int (a:Nat)),.va (eS P),.va row,.va (cG P f),.ow (.dct (Q.map en) (Q.map λv=>.int (t v))),.va (.int (k:Nat)),.va (en v),.va (.lst (hi.map .int)),.va (.lst (lo.map .int)),.va (.int (p0 lo hi)),s11]) (bW e10 rfl)]
 have e11:(qu (tb (o2 iG (vr 8) (dF ai))) (cl uR (af (vr 8) ai)) (o2 aS (vr 10) (cn (.int 5)))) [.va (.scr ns),.va (.int (a:Nat)),.va (eS P),.va row,.va (cG P f),.ow (.dct (Q.map en) (Q.map λv=>.int (t v))),.va (.int (k:Nat)),.va (en v),.va (.lst (hi.map .int)),.va (.lst (lo.map .int)),.va (.int (p0 lo hi)),s11]=.ok (.int (BL lo hi)):=by
  rw[lD (ba (aD (t:=.lst (hi.map .int)) (u:=.lst []) rfl (nil_ _) (uP hi)))]
  cases hi with
  |cons x l=>exact aP (ts:=[.lst ((x::l).map .int)]) rfl (xn x l)
  |nil=>rfl
 rw[ay (Z':=[.va (.scr ns),.va (.int (a:Nat)),.va (eS P),.va row,.va (cG P f),.ow (.dct (Q.map en) (Q.map λv=>.int (t v))),.va (.int (k:Nat)),.va (en v),.va (.lst (hi.map .int)),.va (.lst (lo.map .int)),.va (.int (p0 lo hi)),.va (.int (BL lo hi))]) (bW e11 rfl)]
 obtain⟨r,er,r0,r1⟩:=dO ns (a+k) (BL lo hi - p0 lo hi+1) hn (by omega)
 refine⟨p0 lo hi+r,.va (.lst (hi.map .int)),.va (.lst (lo.map .int)),.va (.int (p0 lo hi)),.va (.int (BL lo hi)),fm (by omega) (by omega),?_⟩
 have pv:o2 aS (vr 10) (cl aA (af (vr 0) (af (o2 aS (vr 1) (vr 6)) (af (o2 aS (o2 cR (vr 11) (vr 10)) (cn (.int 1))) ai)))) [.va (.scr ns),.va (.int (a:Nat)),.va (eS P),.va row,.va (cG P f),.ow (.dct (Q.map en) (Q.map λv=>.int (t v))),.va (.int (k:Nat)),.va (en v),.va (.lst (hi.map .int)),.va (.lst (lo.map .int)),.va (.int (p0 lo hi)),.va (.int (BL lo hi))]=.ok (.int (p0 lo hi+r)):=
  aD (t:=.int (p0 lo hi)) (u:=.int r) rfl (aP (ts:=[.scr ns,.int ((a+k:Nat):Int),.int (BL lo hi - p0 lo hi+1)]) (au rfl (au (aD (t:=.int (a:Nat)) (u:=.int (k:Nat)) rfl rfl rfl) (au (aD (t:=.int (BL lo hi - p0 lo hi)) (u:=.int 1) (aD (t:=.int (BL lo hi)) (u:=.int (p0 lo hi)) rfl rfl rfl) rfl rfl) rfl))) er) rfl
 have mp:(Q.map λv=>T.int (t v))=Q.map λu=>.int (if u=v then p0 lo hi+r else t u):=N6 λu hu=>by rw[if_neg (show ¬u=v from λz=>hq (z▸hu))]
 rw[Ls rfl pv rfl (bu v) (by rw[Ny];omega),kf _ _ _ _ hq,mp]
 rw[Oe,Oe]
 show Rs.ok (Fl.nx [_,_,_,_,_,.ow (.dct (Q.map en++[en v]) ((Q.map λu=>T.int (if u=v then p0 lo hi+r else t u))++[.int (p0 lo hi+r)])),_,_,_,_,_,_])=Rs.ok (Fl.nx [_,_,_,_,_,.ow (.dct (Q.map en++[en v]) ((Q.map λu=>T.int (if u=v then p0 lo hi+r else t u))++[.int (if v=v then p0 lo hi+r else t v)])),_,_,_,_,_,_])
 rw[if_pos rfl]
def GL(hn:ns.length<=63)(n:bZ L)(F:cY L P f)(pl:P.length<=16)(a:Nat)(row:T):∀(rest Q:List N2)(t:N2->Int)(k:Nat)(s6 s7 s8 s9 s10 s11:Sl),(Q++rest).Nodup->(∀u∈Q++rest,u∈P)->(Q++rest).length<=16->HC f Q t->∃t' b6 b7 b8 b9 b10 b11,HC f (Q++rest) t' ∧
  bc (gT 2 (du (gN 6) (du (gN 7) jh))) DW (ck k (rest.map en)) [.va (.scr ns),.va (.int (a:Nat)),.va (eS P),.va row,.va (cG P f),.ow (.dct (Q.map en) (Q.map λv=>.int (t v))),s6,s7,s8,s9,s10,s11]=.ok (.nx [.va (.scr ns),.va (.int (a:Nat)),.va (eS P),.va row,.va (cG P f),.ow (.dct ((Q++rest).map en) ((Q++rest).map λv=>.int (t' v))),b6,b7,b8,b9,b10,b11]):=by
 intro rest
 induction rest with
 |nil=>
  intro Q t k s6 s7 s8 s9 s10 s11 _ _ _ h;refine⟨t,s6,s7,s8,s9,s10,s11,by rw[OH];exact h,?_⟩
  rw[OH]
  rfl
 |cons v rest ih=>
  intro Q t k s6 s7 s8 s9 s10 s11 nd hP hl h
  have hq:v∉Q:=λz=>by
   rw[OP]at nd;exact nd.2.2 v z v Nv rfl
  have asc:Q++v::rest=Q++[v] ++rest:=by rw[NY];rfl
  obtain⟨x,b8,b9,b10,b11,h1,e1⟩:=GK (ns:=ns) hn n F pl (hP v (N7 _ Nv)) hq (λu hu=>hP u (OZ _ hu)) (by rw[NH]at hl;omega) h a k row s8 s9 s10 s11
  rw[asc]at nd hP hl ⊢;obtain⟨t',c6,c7,c8,c9,c10,c11,h2,e2⟩:=ih (Q++[v]) _ (k+1) (.va (.int (k:Nat))) (.va (en v)) b8 b9 b10 b11 nd hP hl h1;refine⟨t',c6,c7,c8,c9,c10,c11,h2,?_⟩
  rw[Nx,ck,cP (Z1:=[.va (.scr ns),.va (.int (a:Nat)),.va (eS P),.va row,.va (cG P f),.ow (.dct (Q.map en) (Q.map λv=>.int (t v))),.va (.int (k:Nat)),.va (en v),s8,s9,s10,s11]) rfl e1,e2]
def D7(hn:ns.length<=63)(n:bZ L)(F:cY L P f)(pl:P.length<=16)(nd:P.Nodup)(hL:∀x∈L,x.1∈P/\x.2.1∈P)(a:Nat)(row:T):∃t,Holds L t/\cK [.scr ns,.int (a:Nat),eS P,row,cG P f]=.ok (lH P t):=by
 obtain⟨t,b6,b7,b8,b9,b10,b11,h,e⟩:=GL (ns:=ns) hn n F pl a row P [] (λ_=>0) 0 .em .em .em .em .em .em (by simpa using nd) (λu hu=>by simpa using hu) (by simpa using pl) (λu hu=>by cases hu)
 rw[OW]at h e;refine⟨t,λu v m hm=>?_,bD rfl ?_⟩
 ·have hp:=hL _ hm
  obtain⟨d,hd,hle⟩:=F.le u hp.1 v m (Wk.one hm)
  have:=h u hp.1 v hp.2 d hd;omega
 ·show eX [.va (.scr ns),.va (.int (a:Nat)),.va (eS P),.va row,.va (cG P f),.em,.em,.em,.em,.em,.em,.em]=_
  unfold eX;rw[ay (Z':=[.va (.scr ns),.va (.int (a:Nat)),.va (eS P),.va row,.va (cG P f),.ow (.dct [] []),.em,.em,.em,.em,.em,.em]) rfl];refine(ay (dN (Ak (l:=P.map en) rfl) e)).trans ?_
  refine bS (aP (ts:=[.lst (P.map λv=>.int (t v))]) (au (Gp (o:=.dct (P.map en) (P.map λv=>.int (t v))) rfl ?_ ?_) rfl) mU)
  ·refine(qm (ts:=P.map en) (h:=atT t) (gR rfl) (aB (k:=16) (by rw[Ny];exact pl)) (by simp) λu0 hu0=>?_).trans (by rw[Oo];rfl)
   obtain⟨u,hu,rfl⟩:=NS.mp hu0;exact ze (Q:=P) (t:=t) (v:=u) rfl rfl hu
  ·have:(P.map λv=>T.int (t v))=(P.map t).map .int:=by rw[Oo];rfl
   rw[this];exact uM _
variable{M:bX N2}
def Rd.gw(R:Rd cs ls L P)(fm:G0 M P):(¬bZ M/\bB [(RR cs ls),eL M]=.ok .non)\/(bZ M/\∃t,Holds M t/\bB [(RR cs ls),eL M]=.ok (lH P t)):=by
 obtain⟨r,hr,ok⟩:=qA fm R.nd (λv h=>h)
 have begin_:∀{x z:T}{y:Rs Fl},f7 [eL M,eS P]=.ok (.tup [x,z])->((aw (dQ (tb (o2 gp (vr 3) (cn .non))) (aL (cn .non)) sN) (aL (cl fN (af (ee (iS (vr 2)) [ZB,ZA 3] (gN 0) bT (o2 aX (o2 aO (vr 1) (vr 0)) (cn (.int 0)))) ai)))) [.va (RR cs ls),.va (eL M),.va (eS P),.va x]=y)->dv [.va (RR cs ls),.va (eL M),.em,.em]=y:=λ{x z y} hs hy=>by
  unfold dv;rw[ay (Z':=[.va (RR cs ls),.va (eL M),.va (eS P),.em]) (bW (aP (ts:=[(RR cs ls)]) rfl R.events) rfl)];rw[ay (Z':=[.va (RR cs ls),.va (eL M),.va (eS P),.va x]) (bW (aD (u:=.int 0) (aP (ts:=[eL M,eS P]) rfl hs) rfl rfl) rfl)];exact hy
 cases r with
 |inr q=>exact .inl ⟨λn=>absurd n (Bar.neg ok),bD rfl (begin_ hr (gn ((ff (ba (aD (t:=.non) (u:=.non) rfl rfl rfl))).trans rfl)))⟩
 |inl b=>
  obtain⟨ms,D,hr⟩:=hr
  have ok:Settled M P b:=ok
  have htm:∀v∈P,∃w,b v=ZA (G7 b v,w):=λv hv=>by
   obtain⟨d,w,e,_⟩:=ok.least v hv v 0 (.nil v);exact⟨w,by unfold G7;rw[e]⟩
  have hol:=ok.holds fm.ends htm;refine .inr ⟨hol.MF,G7 b,hol,bD rfl (begin_ hr ?_)⟩
  generalize G7 b=tm at htm
  have lc:ee (iS (vr 2)) [ZB,ZA 3] (gN 0) bT (o2 aX (o2 aO (vr 1) (vr 0)) (cn (.int 0))) [.va (RR cs ls),.va (eL M),.va (eS P),.va (.dct (ms.map en) (dV ms b))]=.ok (.lst ((P.map en).map (atT tm))):=
   qm (ts:=P.map en) (gR rfl) (aB (k:=16) (by rw[Ny];exact R.pl)) (by simp) λt ht=>by
    obtain⟨v,hv,rfl⟩:=NS.mp ht;obtain⟨w,e⟩:=htm v hv;exact aD (t:=eW (tm v,w)) (u:=.int 0) (aD (t:=.dct (ms.map en) (dV ms b)) (u:=en v) rfl rfl (vi D e)) rfl rfl
  rw[Oo]at lc;rw[ay (Z':=[.va (RR cs ls),.va (eL M),.va (eS P),.va (.dct (ms.map en) (dV ms b))]) ((cx (ba (aD (t:=.dct (ms.map en) (dV ms b)) (u:=.non) rfl rfl rfl))).trans rfl)];exact bS (aP (au lc rfl) rfl)
def H0(hi:i<P.length)(hj:j<P.length){c:W5}(ha:a Z=.ok (AS P f))(hb:b Z=.ok (.int (i:Nat)))(hc:c Z=.ok (.int (j:Nat))):o2 aX (o2 aX a b) c Z=.ok (oI (f P[i] P[j])):=by
 refine Bj (n:=j) (l:=P.map λv=>oI (f P[i] v)) (Bj (n:=i) (l:=P.map (wy P f)) ha hb ?_) hc ?_
 ·rw[NU,NF hi];rfl
 ·rw[NU,NF hj];rfl
def Rd.pick(R:Rd cs ls L P)(hn:ns.length<=63)(k:Nat):∃r v,v∈P/\aA [.scr ns,.int k,.int (P.length:Nat)]=.ok (.int r)/\aX (eS P) (.int r)=.ok (en v):=by
 have:=R.pos;obtain⟨r,e,r0,r1⟩:=dO ns k (P.length:Nat) hn (by omega)
 obtain⟨t,ht,e2⟩:=FY (l:=P.map en) r0 (by rw[Ny];exact r1)
 obtain⟨v,hv,rfl⟩:=NS.mp ht;exact⟨r,v,hv,e,e2⟩
def yR{f:W5}(h:f Z=.ok (eS P)):cl dh (af f ai) Z=.ok (.int (P.length:Nat)):=aP (ts:=[eS P]) (au h rfl) (by show Rs.ok (T.int ((P.map en).length:Nat))=_;rw[Ny])
def Fi(v:N2):List Int:=[v.c,v.k]
theorem tZ:∀Q:List N2,Tr.rowsT (Q.map en)=ZA (Q.map Fi)
 |[] =>rfl
 |v::Q=>by
  show(match eh [.int v.c,.int v.k],Tr.rowsT (Q.map en)with|some ns,ZA k=>if ns=[]then ZB else ZA (ns::k)|_,_=>ZB)=_
  rw[tZ Q]
  rfl
def Fe(h:Q.length<64):rW [.lst (Q.map en)]=.ok (.lst (((Q.map Fi).mergeSort jf).map λns=>.tup (ns.map .int))):=by
 unfold rW;simp only[tZ Q];rw[Ny,if_pos h]
def uT(c k c' k':Int):cz [c,k] [c',k']=(if c=c' then decide (k<k')else decide (c<c')):=by
 unfold cz cz cz
 by_cases h:c=c'
 ·rw[if_pos h,if_pos h]
  by_cases h2:k=k'
  ·rw[if_pos h2,h2];simp
  ·rw[if_neg h2]
 ·rw[if_neg h,if_neg h]
def Hk(t:T):List Int:=match t with
 |.tup [.int c,.int k] =>[c,k]
 |_=>[]
theorem yZ:∀(cs:List T)(i:Nat),(fI i cs).Pairwise λa b=>cz (Hk a) (Hk b)=ZC
 |[],i=>SX
 |x::cs,i=>by
  rw[fI,List.pairwise_append];refine⟨?_,yZ cs (i+1),λa ha b hb=>?_⟩
  ·unfold mJ rng
   rw[Oo,P0];refine List.pairwise_lt_range.imp ?_
   intro a b hab
   show cz [(i:Int),0+(a:Int)] [(i:Int),0+(b:Int)]=ZC
   rw[uT,if_pos rfl];exact decide_eq_true (by omega)
  ·unfold mJ at ha
   obtain⟨t,ht,rfl⟩:=NS.mp ha;obtain⟨j,rfl,hj⟩:=kB ht;obtain⟨c,k,rfl,h1,_,_⟩:=kH cs (i+1) hb
   show cz [(i:Int),(j:Int)] [(c:Int),(k:Int)]=ZC
   rw[uT,if_neg (by omega)]
   exact decide_eq_true (by omega)
def Rd.up(R:Rd cs ls L P):(P.map Fi).Pairwise λa b=>jf a b=ZC:=by
 have h:=yZ cs 0;rw[R.e,P0]at h;rw[P0];refine h.imp λ{a b} hab=>?_
 have hab:cz (Fi a) (Fi b)=ZC:=hab;unfold jf
 cases z:cz (Fi b) (Fi a)with
 |false=>rfl
 |true=>have:=kJ _ _ _ hab z;rw[iU]at this;cases this
def Rd.sorted(R:Rd cs ls L P)(p:Q.Perm P):rW [.lst (Q.map en)]=.ok (eS P):=by
 rw[Fe (by rw[p.length_eq];have:=R.pl;omega),<-mh ((p.symm.map Fi)) R.up,Oo]
 rfl
def sM(Q:List N2):(T.lst (Q.map en)).pl=ZC/\(T.lst (Q.map en)).dep<=60:=by
 refine⟨?_,?_⟩
 ·rw[CH];exact mZ λt ht=>by obtain⟨v,_,rfl⟩:=NS.mp ht;rfl
 ·unfold T.dep
  have:deps (Q.map en)<=5:=vj λt ht=>by obtain⟨v,_,rfl⟩:=NS.mp ht;simp[en,T.dep,deps]
  omega
def hG:List N2->bX N2
 |a::b::r=>(b,a,0)::hG (b::r)
 |_=>[]
theorem zH:∀(Q:List N2)(k:Nat){a b:N2},Q[k]?=ZA a->Q[k+1]?=ZA b->(hG Q)[k]?=ZA (b,a,0)
 |[],_,_,_,h,_=>by cases h
 |[x],0,_,_,_,h=>by cases h
 |[x],k+1,_,_,h,_=>by cases h
 |x::y::r,0,a,b,h,g=>by cases h;cases g;rfl
 |x::y::r,k+1,a,b,h,g=>by
  show(hG (y::r))[k]?=_
  exact zH (y::r) k (by simpa using h) (by simpa using g)
theorem jS:∀Q:List N2,(hG Q).length=Q.length - 1
 |[] =>rfl
 |[x] =>rfl
 |x::y::r=>by rw[hG,ND,jS (y::r)];simp
def wz:∀x∈hG Q,x.1∈Q/\x.2.1∈Q/\x.2.2=0:=by
 induction Q with
 |nil=>intro x hx;cases hx
 |cons a Q ih=>
  cases Q with
  |nil=>intro x hx;cases hx
  |cons b r=>
   intro x hx;rcases NG.mp hx with rfl|hx
   ·exact⟨by simp,by simp,rfl⟩
   ·obtain⟨h1,h2,h3⟩:=ih x hx
    exact⟨Nu _ h1,Nu _ h2,h3⟩
def riT(Q:List N2)(t:T):T:=match t with
 |.int k=>match(hG Q)[k.toNat]? with
  |some x=>eB x
  |none=>.non
 |_=>.non
def Ib(Q:List N2):(rng 0 ((Q.length - 1:Nat):Int)).map (riT Q)=(hG Q).map eB:=by
 apply Vu
 intro k;unfold rng;rw[NU,NU,NU]
 by_cases h:k<Q.length - 1
 ·have hk:k<(hG Q).length:=by rw[jS];exact h
  have e:(hG Q)[k]?=ZA (hG Q)[k]:=NF hk
  rw[NF (by rw[Pt];omega),U2,e]
  show ZA (match(hG Q)[(0+(k:Int)).toNat]? with|some x=>eB x|none=>T.non)=_
  rw[show(0+(k:Int)).toNat=k by omega,e]
  rfl
 ·rw[O7 (by rw[Pt];omega),O7 (by rw[jS];omega)]
  rfl
def Rd.Nf(R:Rd cs ls L P)(p:Q.Perm P):G0 (L++hG Q) P:=by
 have hs:=zF R.bg
 have ll:=R.ll
 have pl:=R.pl
 have hq:Q.length=P.length:=p.length_eq;refine⟨?_,?_,λx hx=>?_,by omega⟩
 ·rw[NH,jS];omega
 ·have:((hG Q).map λx:N2×N2×Int=>x.2.2.natAbs).sum=0:=by
   have:∀l:bX N2,(∀x∈l,x.2.2=0)->(l.map λx:N2×N2×Int=>x.2.2.natAbs).sum=0:=λl=>by
    induction l with
    |nil=>intro _;rfl
    |cons a l ih=>intro h;rw[Nx,Pz,ih λx hx=>h x (Nu _ hx),h a Nv];rfl
   exact this _ λx hx=>(wz x hx).2.2
  unfold size at hs ⊢;rw[Oe,List.sum_append];omega
 ·rcases Oa.mp hx with hx|hx
  ·exact R.f.ends x hx
  ·obtain⟨h1,h2,_⟩:=wz x hx
   exact⟨p.mem_iff.mp h1,p.mem_iff.mp h2⟩
def iP(o:Option Int):Bool:=match o with
 |some y=>decide (y<0)
 |none=>ZD
def pA(o:Option Int):Bool:=match o with
 |some y=>decide (y > 0)
 |none=>ZC
def LK{o:Option Int}(h:vr i Z=.ok (oI o)):BJ (o2 gp (vr i) (cn .non)) (o2 JN (vr i) (cn (.int 0))) Z=.ok (.bl (pA o)):=by
 cases o with
 |none=>exact Dw (aD (t:=.non) (u:=.non) h rfl rfl)
 |some y=>exact(Dx (aD (t:=.int y) (u:=.non) h rfl rfl)).trans (aD (t:=.int y) (u:=.int 0) h rfl rfl)
def LL{o:Option Int}(h:vr i Z=.ok (ngI o)):cL (o2 cS (vr i) (cn .non)) (o2 JN (vr i) (cn (.int 0))) Z=.ok (.bl (iP o)):=by
 cases o with
 |none=>exact Al (aD (t:=.non) (u:=.non) h rfl rfl)
 |some y=>
  refine(DE (aD (t:=.int (0 - y)) (u:=.non) h rfl rfl)).trans (aD (t:=.int (0 - y)) (u:=.int 0) h rfl ?_)
  show Rs.ok (T.bl (decide (0 - y > 0)))=.ok (.bl (decide (y<0)))
  congr 2
  exact decide_eq_decide.mpr (by omega)
def word(f:dy N2)(a c:N2):Str:=if iP (f c a)then "ahead" else if iP (f a c)then "behind" else if pA (f a c)||pA (f c a)then "open" else "at once"
variable{a:N2}
def Rd.Mt(R:Rd cs ls L P)(n:bZ L)(F:cY L P f)(ha:a∈P)(hc:c∈P):cg [RR cs ls,en a,en c]=.ok (.bl (iP (f c a))):=by
 refine bD rfl ?_
 show gX [.va (RR cs ls),.va (en a),.va (en c),.em]=_
 unfold gX;rw[ay (Z':=[.va (RR cs ls),.va (en a),.va (en c),.va (ngI (f c a))]) (bW (aP (ts:=[RR cs ls,en a,en c]) rfl (R.MU n F ha hc)) rfl)];exact bS (LL rfl)
def Rd.MC(R:Rd cs ls L P)(n:bZ L)(F:cY L P f)(ha:a∈P)(hc:c∈P):bO [RR cs ls,en a,en c]=.ok (.bl (pA (f a c))):=by
 refine bD rfl ?_
 show iA [.va (RR cs ls),.va (en a),.va (en c),.em]=_
 unfold iA;rw[ay (Z':=[.va (RR cs ls),.va (en a),.va (en c),.va (oI (f a c))]) (bW (aP (ts:=[RR cs ls,en a,en c]) rfl (R.MM n F ha hc)) rfl)];exact bS (LK rfl)
def Rd.once(R:Rd cs ls L P)(n:bZ L)(F:cY L P f)(ha:a∈P)(hc:c∈P):cq [RR cs ls,en a,en c]=.ok (.bl (!iP (f c a)&& !iP (f a c))):=by
 refine bD rfl ?_
 exact bS (Gq (Dy (aP (ts:=[RR cs ls,en a,en c]) rfl (R.Mt n F ha hc))) λ_=>Dy (aP (ts:=[RR cs ls,en c,en a]) rfl (R.Mt n F hc ha)))
def Rd.Nc(R:Rd cs ls L P)(n:bZ L)(F:cY L P f)(ha:a∈P)(hc:c∈P):fP [RR cs ls,en a,en c]=.ok (.str (word f a c)):=by
 refine bD rfl ?_
 show nH [.va (RR cs ls),.va (en a),.va (en c)]=_
 unfold nH word
 have s1:=ba (Z:=[.va (RR cs ls),.va (en a),.va (en c)]) (aP (fs:=af (vr 0) (af (vr 1) (af (vr 2) ai))) (ts:=[RR cs ls,en a,en c]) rfl (R.Mt n F ha hc))
 have s2:=ba (Z:=[.va (RR cs ls),.va (en a),.va (en c)]) (aP (fs:=af (vr 0) (af (vr 2) (af (vr 1) ai))) (ts:=[RR cs ls,en c,en a]) rfl (R.Mt n F hc ha))
 have s3:=k_or (Z:=[.va (RR cs ls),.va (en a),.va (en c)]) (ba (aP (fs:=af (vr 0) (af (vr 1) (af (vr 2) ai))) (ts:=[RR cs ls,en a,en c]) rfl (R.MC n F ha hc))) λ_=>(ba (aP (fs:=af (vr 0) (af (vr 2) (af (vr 1) ai))) (ts:=[RR cs ls,en c,en a]) rfl (R.MC n F hc ha)))
 cases q1:iP (f c a)with
 |true=>rw[q1]at s1;exact gn ((ff s1).trans rfl)
 |false=>
  rw[q1]at s1;rw[ay ((cx s1).trans rfl)]
  cases q2:iP (f a c)with
  |true=>rw[q2]at s2;exact gn ((ff s2).trans rfl)
  |false=>
   rw[q2]at s2;rw[ay ((cx s2).trans rfl)]
   cases q3:(pA (f a c)||pA (f c a))with
   |true=>rw[q3]at s3;exact gn ((ff s3).trans rfl)
   |false=>
    rw[q3]at s3;rw[ay ((cx s3).trans rfl)]
    rfl
def AW(cs ls:List T)(P:List N2)(f:dy N2)(acc:List T)(s4 s5 s6 s7:Sl):En:=[.va (RR cs ls),.va (AS P f),.va (eS P),.ow (.lst acc),s4,s5,s6,s7]
def pairsOf(f:dy N2)(a:N2)(Q:List N2):List T:=(Q.filter λc=>iP (f c a)).map λc=>.tup [en a,en c]
theorem Hf(hi:i<P.length)(pl:P.length<=16):∀(Q:List N2)(j:Nat)(acc:List T)(s6 s7:Sl),P.drop j=Q->acc.length+Q.length<=1000->∃s6' s7',
  bc (gT 2 (du (gN 6) (du (gN 7) jh))) spI (ck j (Q.map en)) (AW cs ls P f acc (.va (.int (i:Nat))) (.va (en P[i])) s6 s7)=.ok (.nx (AW cs ls P f (acc++pairsOf f P[i] Q) (.va (.int (i:Nat))) (.va (en P[i])) s6' s7'))
 |[],j,acc,s6,s7,_,_=>⟨s6,s7,by unfold pairsOf;simp only[QV,List.filter_nil,OH];rfl⟩
 |c::Q,j,acc,s6,s7,hd,hl=>by
  have hj:P[j]?=ZA c:=by rw[<-Ws,hd];rfl
  obtain⟨hj',ej⟩:=NN.mp hj
  rw[ND]at hl
  have st:∃acc',acc'=(acc++pairsOf f P[i] [c])/\acc'.length<=acc.length+1/\spI (AW cs ls P f acc (.va (.int (i:Nat))) (.va (en P[i])) (.va (.int (j:Nat))) (.va (en c)))=.ok (.nx (AW cs ls P f acc' (.va (.int (i:Nat))) (.va (en P[i])) (.va (.int (j:Nat))) (.va (en c)))):=by
   have ev:o2 aX (o2 aX (vr 1) (vr 6)) (vr 4) (AW cs ls P f acc (.va (.int (i:Nat))) (.va (en P[i])) (.va (.int (j:Nat))) (.va (en c)))=.ok (oI (f c P[i])):=by
    rw[<-ej];exact H0 hj' hi rfl rfl rfl
   unfold pairsOf
   cases q:f c P[i]with
   |none=>
    rw[q]at ev
    refine⟨acc,by simp[q,iP],by omega,(cx (nt (ba (aD (t:=.non) (u:=.non) ev rfl rfl)))).trans rfl⟩
   |some y=>
    rw[q]at ev
    have t1:=lQ (ba (aD (g:=cS) (fb:=cn .non) (t:=.int y) (u:=.non) ev rfl rfl)) (ba (aD (g:=qP) (fb:=cn (.int 0)) (t:=.int y) (u:=.int 0) ev rfl rfl))
    replace t1:_=Rs.ok (decide (y<0)):=t1
    by_cases hy:y<0
    ·rw[decide_eq_true hy]at t1
     refine⟨acc++[.tup [en P[i],en c]],by simp[q,iP,hy],by simp,(ff t1).trans (mF (l:=acc) (p2 rfl rfl) rfl (by omega))⟩
    ·rw[decide_eq_false hy]at t1
     exact⟨acc,by simp[q,iP,hy],by omega,(cx t1).trans rfl⟩
  obtain⟨acc',ea,la,st⟩:=st;obtain⟨a,b,ih⟩:=Hf hi pl Q (j+1) acc' (.va (.int (j:Nat))) (.va (en c)) (by rw[<-List.tail_drop,hd];rfl) (by omega)
  refine⟨a,b,?_⟩
  have g:gT 2 (du (gN 6) (du (gN 7) jh)) (.tup [.int (j:Nat),en c]) (AW cs ls P f acc (.va (.int (i:Nat))) (.va (en P[i])) s6 s7)=.ok (AW cs ls P f acc (.va (.int (i:Nat))) (.va (en P[i])) (.va (.int (j:Nat))) (.va (en c))):=rfl;rw[Nx,ck,cP g st,ih,ea,NY]
  have:pairsOf f P[i] [c] ++pairsOf f P[i] Q=pairsOf f P[i] (c::Q):=by unfold pairsOf;rw[<-Oe,<-List.filter_append];rfl
  rw[this]
abbrev spO:W4:=(dS (iE (af (vr 2) ai)) (gT 2 (du (gN 6) (du (gN 7) jh))) spI)
def r9(f:dy N2)(a:N2)(Q:List N2):(pairsOf f a Q).length<=Q.length:=by unfold pairsOf;rw[Ny];exact List.length_filter_le _ _
theorem Cc(pl:P.length<=16):∀(Q:List N2)(i:Nat)(acc:List T)(s4 s5 s6 s7:Sl),P.drop i=Q->acc.length+16*Q.length<=900->∃s4' s5' s6' s7',
  bc (gT 2 (du (gN 4) (du (gN 5) jh))) spO (ck i (Q.map en)) (AW cs ls P f acc s4 s5 s6 s7)=.ok (.nx (AW cs ls P f (acc++Q.flatMap λa=>pairsOf f a P) s4' s5' s6' s7'))
 |[],i,acc,s4,s5,s6,s7,_,_=>⟨s4,s5,s6,s7,by simp only[List.flatMap_nil,OH];rfl⟩
 |c::Q,i,acc,s4,s5,s6,s7,hd,hl=>by
  have hi:P[i]?=ZA c:=by rw[<-Ws,hd];rfl
  obtain⟨hi',ei⟩:=NN.mp hi
  rw[ND]at hl;obtain⟨a6,a7,st⟩:=Hf (cs:=cs) (ls:=ls) (f:=f) hi' pl P 0 acc s6 s7 rfl (by omega)
  rw[ei]at st
  have hlen:=r9 f c P;obtain⟨b4,b5,b6,b7,ih⟩:=Cc pl Q (i+1) (acc++pairsOf f c P) (.va (.int (i:Nat))) (.va (en c)) a6 a7 (by rw[<-List.tail_drop,hd];rfl) (by rw[NH];omega)
  refine⟨b4,b5,b6,b7,?_⟩
  have g:gT 2 (du (gN 4) (du (gN 5) jh)) (.tup [.int (i:Nat),en c]) (AW cs ls P f acc s4 s5 s6 s7)=.ok (AW cs ls P f acc (.va (.int (i:Nat))) (.va (en c)) s6 s7):=rfl;rw[Nx,ck,cP g (dN (Ak (l:=P.map en) rfl) st),ih,NY,P2]
def aJ(P:List N2)(f:dy N2):List T:=P.flatMap λa=>pairsOf f a P
def Rd.MR(R:Rd cs ls L P)(n:bZ L)(F:cY L P f):d7 [RR cs ls]=.ok (.lst (aJ P f)):=by
 refine bD rfl ?_
 show jl [.va (RR cs ls),.em,.em,.em,.em,.em,.em,.em]=_
 unfold jl;rw[ay (Z':=[.va (RR cs ls),.va (AS P f),.em,.em,.em,.em,.em,.em]) (bW (aP (ts:=[RR cs ls]) rfl (R.Nj n F)) rfl)];rw[ay (Z':=[.va (RR cs ls),.va (AS P f),.va (eS P),.em,.em,.em,.em,.em]) (bW (aP (ts:=[RR cs ls]) rfl R.events) rfl)];rw[ay (Z':=AW cs ls P f [] .em .em .em .em) (ql (by simp))]
 obtain⟨b4,b5,b6,b7,e⟩:=Cc (cs:=cs) (ls:=ls) (f:=f) R.pl P 0 [] .em .em .em .em rfl (by have:=R.pl;simp;omega)
 rw[OW]at e;rw[ay (dN (Ak (l:=P.map en) rfl) e)]
 rfl
theorem Rd.MO(R:Rd cs ls L P)(l:List T)(s3:Sl):∀(Q:List N2)(s2:Sl),(∀v∈Q,v∈P)->∃s2',bc (gN 2) (rZ (cl cU (af (vr 0) (af (vr 2) ai)))) (Q.map en) [.va (RR cs ls),.va (.lst l),s2,s3]=.ok (.nx [.va (RR cs ls),.va (.lst l),s2',s3])
 |[],s2,_=>⟨s2,rfl⟩
 |v::Q,s2,h=>by
  obtain⟨a,ih⟩:=R.MO l s3 Q (.va (en v)) λw hw=>h w (Nu _ hw)
  refine⟨a,?_⟩
  have g:gN 2 (en v) [.va (RR cs ls),.va (.lst l),s2,s3]=.ok [.va (RR cs ls),.va (.lst l),.va (en v),s3]:=rfl;rw[Nx,cP g (oq (t:=.non) (aP (ts:=[RR cs ls,en v]) rfl (uO R.g rfl (R.ev (h v Nv))))),ih]
def Rd.fits(R:Rd cs ls L P)(p:Q.Perm P):(¬bZ (L++hG Q)/\cy [RR cs ls,.lst (Q.map en)]=.ok (.bl ZD))\/(bZ (L++hG Q)/\cy [RR cs ls,.lst (Q.map en)]=.ok (.bl ZC)):=by
 have hql:Q.length<=16:=by rw[p.length_eq];exact R.pl
 have hpos:0<Q.length:=by rw[p.length_eq];exact R.pos
 have wrap:∀{w:T}{b:Bool},bB [RR cs ls,eL (L++hG Q)]=.ok w->cS w .non=.ok (.bl b)->cy [RR cs ls,.lst (Q.map en)]=.ok (.bl b):=λ{w b} hw hb=>by
  refine bD rfl ?_
  show jt [.va (RR cs ls),.va (.lst (Q.map en)),.em,.em]=_
  unfold jt;rw[ay (oq (t:=.non) (aP (ts:=[RR cs ls]) rfl (iQ R.g.p R.g.ok)))];obtain⟨s2,e⟩:=R.MO (Q.map en) .em Q .em λv hv=>p.mem_iff.mp hv
  rw[ay (dN (gR rfl) e)];rw[ay (Z':=[.va (RR cs ls),.va (.lst (Q.map en)),s2,.em]) ((cx (ba (aD (t:=eS P) (u:=eS P) (aP (ts:=[.lst (Q.map en)]) rfl (R.sorted p)) (aP (ts:=[RR cs ls]) rfl R.events) (mw (sM P).1 (sM P).2)))).trans rfl)]
  have ln:cl dh (af (vr 1) ai) [.va (RR cs ls),.va (.lst (Q.map en)),s2,.em]=.ok (.int (Q.length:Nat)):=aP (ts:=[.lst (Q.map en)]) rfl (by show Rs.ok (T.int ((Q.map en).length:Nat))=_;rw[Ny])
  have lc:ee (iR (af (o2 cR (cl dh (af (vr 1) ai)) (cn (.int 1))) ai)) [ZB,ZA 1] (gN 0) bT (bx (af (o2 aX (vr 1) (o2 aS (vr 0) (cn (.int 1)))) (af (o2 aX (vr 1) (vr 0)) (af (cn (.int 0)) ai)))) [.va (RR cs ls),.va (.lst (Q.map en)),s2,.em]=.ok (.lst ((rng 0 ((Q.length - 1:Nat):Int)).map (riT Q))):=
   qm (ts:=rng 0 ((Q.length - 1:Nat):Int)) (JM (j:=((Q.length - 1:Nat):Int)) (au (aD (t:=.int (Q.length:Nat)) (u:=.int 1) ln rfl (by show Rs.ok (T.int ((Q.length:Int) - 1))=_;congr 2;omega)) rfl) (by omega) (by omega)) (aB (k:=16) (by rw[kC];omega)) (by simp) λt ht=>by
    obtain⟨k,rfl,hk⟩:=kB ht
    have hk':k+1<Q.length:=by omega
    have e1:Q[k]?=ZA Q[k]:=NF (by omega)
    have e2:Q[k+1]?=ZA Q[k+1]:=NF hk'
    have er:=zH Q k e1 e2
    have:riT Q (.int (k:Nat))=eB (Q[k+1],Q[k],0):=by
     show(match(hG Q)[((k:Nat):Int).toNat]? with|some x=>eB x|none=>T.non)=_
     rw[ON,er]
    rw[this];exact cO (au (xF (n:=k+1) (l:=Q.map en) rfl (aD (t:=.int (k:Nat)) (u:=.int 1) rfl rfl rfl) (by rw[NU,e2];rfl)) (au (xF (n:=k) (l:=Q.map en) rfl rfl (by rw[NU,e1];rfl)) rfl)) (aB (k:=3) (by simp))
  rw[Ib]at lc;rw[ay (Z':=[.va (RR cs ls),.va (.lst (Q.map en)),s2,.va (eL (hG Q))]) (bW lc rfl)];refine bS (aD (t:=w) (u:=.non) (aP (ts:=[RR cs ls,eL (L++hG Q)]) (au rfl (au (aD (t:=eL L) (u:=eL (hG Q)) (aP (ts:=[RR cs ls]) rfl R.bounds) rfl ?_) rfl)) hw) rfl hb)
  unfold eL;rw[vC _ _ (by rw[NH,Ny,Ny,jS];have:=R.ll;omega),Oe]
 rcases R.gw (R.Nf p)with⟨n2,e⟩|⟨n2,t,h,e⟩
 ·exact .inl ⟨n2,wrap e rfl⟩
 ·exact .inr ⟨n2,wrap e rfl⟩
def wm(t:N2->Int)(v:N2):List Int:=[t v,v.c,v.k]
def kR(P:List N2)(t:N2->Int):List N2:=P.mergeSort λa b=>jf (wm t a) (wm t b)
def gP(P:List N2)(t:N2->Int):(kR P t).Perm P:=UI _ _
def CW(P:List N2)(t:N2->Int):(kR P t).Pairwise λa b=>jf (wm t a) (wm t b)=ZC:=
 Te (le:=λa b=>jf (wm t a) (wm t b)) (λa b c=>Dm (wm t a) (wm t b) (wm t c)) (λa b=>Ac (wm t a) (wm t b)) P
variable{b:N2}
def Be{t:N2->Int}(h:jf (wm t a) (wm t b)=ZC):t a<=t b:=by
 unfold jf wm cz at h
 by_cases e:t b=t a
 ·omega
 ·rw[if_neg e]at h
  have:¬ t b<t a:=λz=>by rw[decide_eq_true z]at h;cases h
  omega
def yA(P:List N2)(t:N2->Int):(kR P t).Pairwise λa b=>t a<=t b:=(CW P t).imp Be
def Kw(u:T):T:=match u with
 |.tup [_,b] =>b
 |_=>.non
theorem zR(t:N2->Int):∀P:List N2,eh (P.map λv=>T.int (t v))=ZA (P.map t)
 |[] =>rfl
 |v::P=>by show(eh (P.map λv=>T.int (t v))).map (t v:: ·)=_;rw[zR t P];rfl
theorem vN(t:N2->Int):∀P:List N2,T4 RG (P.map t) (P.map Fi)=P.map (wm t)
 |[] =>rfl
 |v::P=>by rw[Nx,Nx,List.zipWith_cons_cons,vN t P];rfl
def He(t:N2->Int)(h0:0<P.length)(h1:P.length<64):E9 [lH P t,eS P]=.ok (.lst ((kR P t).map λv=>.tup [.int (t v),en v])):=by
 show(match eh (P.map λv=>T.int (t v)),Tr.rowsT (P.map en)with
   |some ts,ZA ks=>if ts.length=ks.length/\0<ts.length/\ts.length<64 then Rs.ok (T.lst (((T4 RG ts ks).mergeSort jf).map unN))else .bad
   |_,_=>.bad)=_
 rw[zR,tZ]
 dsimp only
 rw[if_pos ⟨by rw[Ny,Ny],by rw[Ny];exact h0,by rw[Ny];exact h1⟩,vN]
 have e:(kR P t).map (wm t)=(P.map (wm t)).mergeSort jf:=mh ((gP P t).map _) (by rw[P0];exact CW P t)
 rw[<-e,Oo]
 rfl
def Rd.told(R:Rd cs ls L P)(t:N2->Int):cT [RR cs ls,lH P t]=.ok (eS (kR P t)):=by
 have hl:(kR P t).length<=16:=by rw[(gP P t).length_eq];exact R.pl
 have lc:ee (iS (cl E9 (af (vr 1) (af (cl cw (af (vr 0) ai)) ai)))) [ZB] (gN 0) bT (o2 aX (vr 0) (cn (.int 1))) [.va (RR cs ls),.va (lH P t)]=.ok (.lst (((kR P t).map λv=>T.tup [.int (t v),en v]).map Kw)):=
  qm (ts:=(kR P t).map λv=>T.tup [.int (t v),en v]) (gR (aP (ts:=[lH P t,eS P]) (au rfl (au (aP (ts:=[RR cs ls]) rfl R.events) rfl)) (He t R.pos (by have:=R.pl;omega)))) (aB (k:=16) (by rw[Ny];exact hl)) (by simp) λu hu=>by
   obtain⟨v,_,rfl⟩:=NS.mp hu;exact aD (t:=.tup [.int (t v),en v]) (u:=.int 1) rfl rfl (Hu (n:=1) rfl)
 rw[Oo]at lc;exact bD rfl (bS lc)
theorem pq{t:N2->Int}:∀{Q:List N2},Q.Pairwise (λa b=>t a<=t b)->Holds (hG Q) t
 |[],_=>λ_ _ _ h=>by cases h
 |[_],_=>λ_ _ _ h=>by cases h
 |a::b::r,h=>λu v m hm=>by
  rcases NG.mp hm with e|hm
  ·cases e
   have:=(U4.mp h).1 b Nv;omega
  ·exact pq (U4.mp h).2 u v m hm
def Bo{N:bX N2}{t:N2->Int}(h:Holds M t)(g:Holds N t):Holds (M++N) t:=λu v m hm=>(Oa.mp hm).elim (h u v m) (g u v m)
def Rd.ML(R:Rd cs ls L P)(p:Q.Perm P){t:N2->Int}(h:Holds L t)(g:Q.Pairwise λa b=>t a<=t b):cy [RR cs ls,.lst (Q.map en)]=.ok (.bl ZC):=by
 rcases R.fits p with⟨n,_⟩|⟨_,e⟩
 ·exact absurd (Bo h (pq g)).MF n
 ·exact e
def IJ{t:N2->Int}(h:Q.Pairwise λa b=>t a<=t b)(hi:Q[i]?=ZA a)(hj:Q[j]?=ZA b)(hij:i<j):t a<=t b:=by
 obtain⟨h1,rfl⟩:=NN.mp hi
 obtain⟨h2,rfl⟩:=NN.mp hj
 exact Py.mp h i j h1 h2 hij
def u4(h:a∈Q):Q[Q.idxOf a]?=ZA a:=by
 rw[NF (List.idxOf_lt_length_iff.mpr h),List.getElem_idxOf]
def JL{t:N2->Int}(h:Q.Pairwise λa b=>t a<=t b)(ha:a∈Q)(hb:b∈Q)(lt:t a<t b):Q.idxOf a<Q.idxOf b:=by
 rcases S6 (Q.idxOf a) (Q.idxOf b)with z|z|z
 ·exact z
 ·have h1:=u4 ha
  have h2:=u4 hb;rw[z,h2]at h1;cases h1;omega
 ·have:=IJ h (u4 hb) (u4 ha) z
  omega
def D2{t:T}(hp:t.pl=ZC)(h:fM t=ZC):e9 [t]=.ok t:=by
 refine bD rfl ?_
 show gh [.va t]=_
 unfold gh;rw[ay (oq (t:=.non) (aP (ts:=[t]) rfl (iQ hp h)))];exact bS rfl
def D5{t:T}(hp:t.pl=ZC)(h:fM t=ZD):e9 [t]=.err "NoRecord":=by
 refine yU rfl ?_
 show gh [.va t]=_
 unfold gh;exact JA (Ly (aP (ts:=[t]) rfl (A9 hp h)))
def wH(t:T):Rs T:=if fM t then .ok t else .err "NoRecord"
def GH{t:T}(hp:t.pl=ZC):e9 [t]=wH t:=by
 unfold wH
 cases h:fM t with
 |true=>exact D2 hp h
 |false=>exact D5 hp h
def Fo{f:W5}{t:T}(h:f Z=wH t):aL f Z=(if fM t then .ok (.rt t)else .err "NoRecord"):=by
 unfold wH at h
 cases q:fM t with
 |true=>rw[q]at h;exact bS h
 |false=>rw[q]at h;exact JB h
def EV{m:Nat}{F:W4}{t:T}(hl:ts.length=n)(h:F (aU m ts)=(if fM t then .ok (.rt t)else .err "NoRecord")):val n m F ts=wH t:=by
 unfold wH
 cases q:fM t with
 |true=>rw[q]at h;exact bD hl h
 |false=>rw[q]at h;exact yU hl h
def ue{a b:T}(ha:a.pl=ZC)(hb:b.pl=ZC):(T.tup [a,b]).pl=ZC:=by simp[T.pl,plS,ha,hb]
def CI{m:List T}(h1:(T.tup l).pl=ZC)(h2:(T.tup m).pl=ZC):(T.tup (l++m)).pl=ZC:=by
 rw[pB]at*;exact mZ λt ht=>(Oa.mp ht).elim (i8 h1) (i8 h2)
def Good.pls(g:Good cs ls):(T.tup ls).pl=ZC:=by rw[pB];exact mZ g.parts.2
def uj{t:T}(hc:(T.tup cs).pl=ZC)(hl:(T.tup ls).pl=ZC)(hn:ls.length<=20)(ht:t.pl=ZC)(ok:fM (RR cs ls)=ZC):cZ [RR cs ls,t]=wH (.tup [.tup cs,.tup (ls++[t])]):=by
 refine EV rfl ?_
 show iy [.va (RR cs ls),.va t]=_
 unfold iy;rw[ay (oq (t:=.non) (aP (ts:=[RR cs ls]) rfl (iQ (ue hc hl) ok)))];refine Fo (aP (ts:=[.tup [.tup cs,.tup (ls++[t])]]) (au (cO (au (t:=.tup cs) rfl (au (t:=.tup (ls++[t])) (aD (t:=.tup ls) (u:=.tup [t]) rfl (cO rfl (aB (k:=1) (by simp))) (AF _ _ (by simp;omega))) rfl)) (aB (k:=2) (by simp))) rfl) (GH (ue hc (CI hl (by simp[T.pl,plS,ht])))))
def JX{x y:N2×N2×Int}(h:eB x=eB y):x=y:=by
 obtain⟨a,b,m⟩:=x;obtain⟨a',b',m'⟩:=y;unfold eB at h
 have h':=T.tup.inj h;simp only[Sn,T.int.injEq,and_true]at h';rw[qz h'.1,qz h'.2.1,h'.2.2]
theorem B0{x:T}{c:T}:∀{cs:List T}{i j:Nat},cs[j]?=ZA c->x∈xB (i+j) c->x∈bC i cs
 |[],i,j,e,_=>by simp at e
 |c'::cs,i,0,e,h=>by
  simp only[Tf,RS]at e
  subst e
  exact OZ _ h
 |c'::cs,i,j+1,e,h=>by
  rw[Pn]at e
  exact N7 _ (B0 (i:=i+1) e (by rw[show i+1+j=i+(j+1)by omega];exact h))
def Rd.same{ms:List T}(R:Rd cs ls L P)(S:Rd cs ms M Q):Q=P:=by
 have:P.map en=Q.map en:=by rw[<-R.e,<-S.e]
 clear R S
 induction P generalizing Q with
 |nil=>cases Q with
  |nil=>rfl
  |cons a Q=>simp at this
 |cons v P ih=>cases Q with
  |nil=>simp at this
  |cons a Q=>
   rw[Nx,Nx,Sn]at this;rw[qz this.1,ih this.2]
def jK{u:T}(h:u∈aJ P f):∃a c d,a∈P/\c∈P/\f c a=ZA d/\d<0/\u=.tup [en a,en c]:=by
 unfold aJ at h;obtain⟨a,ha,h⟩:=QM.mp h;unfold pairsOf at h;obtain⟨c,hc,rfl⟩:=NS.mp h;obtain⟨hc,hn⟩:=Rx.mp hc;unfold iP at hn
 split at hn
 ·rename_i d q;exact⟨a,c,d,ha,hc,q,of_decide_eq_true hn,rfl⟩
 ·cases hn
def Fb(ha:a∈P)(hc:c∈P)(e:f c a=ZA d)(hd:d<0):T.tup [en a,en c] ∈aJ P f:=by
 unfold aJ;refine QM.mpr ⟨a,ha,?_⟩
 unfold pairsOf;exact NS.mpr ⟨c,Rx.mpr ⟨hc,by rw[e];exact decide_eq_true hd⟩,rfl⟩
def K5(a:N2)(Q:List N2):∀t∈pairsOf f a Q,t.pl=ZC/\t.dep<=5:=λt ht=>by
 unfold pairsOf at ht;obtain⟨c,_,rfl⟩:=NS.mp ht;exact⟨rfl,by simp[en,T.dep,deps]⟩
def Ku(P:List N2)(f:dy N2):(T.lst (aJ P f)).pl=ZC/\(T.lst (aJ P f)).dep<=60:=by
 have h:∀t∈aJ P f,t.pl=ZC/\t.dep<=5:=λt ht=>by
  unfold aJ at ht;obtain⟨a,_,ht⟩:=QM.mp ht;exact K5 a P t ht
 refine⟨by rw[CH];exact mZ λt ht=>(h t ht).1,?_⟩
 unfold T.dep
 have:=vj (n:=5) λt ht=>(h t ht).2
 omega
def tL(pl:P.length<=16):(aJ P f).length<=256:=by
 have:∀Q:List N2,(Q.flatMap λa=>pairsOf f a P).length<=16*Q.length:=λQ=>by
  induction Q with
  |nil=>simp
  |cons a Q ih=>
   rw[P2,NH,ND]
   have:=r9 f a P;omega
 have:=this P;unfold aJ;omega
def uD(ha:a∈P)(hc:c∈P)(e:f c a=ZA d)(hd:d<0):jY (.tup [en a,en c]) (.lst (aJ P f))=.ok (.bl ZD):=by
 have h1:=Ku P f
 have h2:kj (.tup [en a,en c]) (aJ P f)=ZC:=Rk.mpr ⟨_,Fb ha hc e hd,kQ _ rfl⟩
 show(if ((T.tup [en a,en c]).dep<=60\/deps (aJ P f)<=60)/\(T.tup [en a,en c]).nd=ZC/\(T.lst (aJ P f)).nd=ZC then Rs.ok (T.bl (!kj (.tup [en a,en c]) (aJ P f)))else .bad)=_
 rw[if_pos ⟨.inr (by have:=h1.2;unfold T.dep at this;omega),rfl,T.Ml _ h1.1⟩,h2];rfl
def Mb{fi:W3}{src:List (Option Nat)}(I:En->Prop)(hi:fi Z=.ok ts)(hs:ts.length<=ZI)(h0:I (bV src Z))(h:∀t∈ts,∀Z,I Z->∃Z1,g t Z=.ok Z1/\I Z1/\fc Z1=.ok ZD):ee fi src g fc fe Z=.ok (.lst []):=by
 have e:∀(ts:List T)(Z:En),I Z->(∀t∈ts,∀Z,I Z->∃Z1,g t Z=.ok Z1/\I Z1/\fc Z1=.ok ZD)->dt g fc fe ts Z=.ok []:=λts=>by
  induction ts with
  |nil=>intro _ _ _;rfl
  |cons t r ih=>
   intro Z i h;obtain⟨Z1,e1,i1,e2⟩:=h t Nv Z i;unfold dt;simp only[e1,aF,e2,N8,if_false,ih Z1 i1 λu hu=>h u (Nu _ hu)]
 unfold ee;rw[hi,aF,if_pos hs,e ts _ h0 h]
def yP{fa fb:W5}(h:fa Z=.ok (.lst []))(h2:fb Z=.ok (.lst [])):tb (o2 iG fa fb) Z=.ok ZD:=ba (aD (t:=.lst []) (u:=.lst []) h h2 (mw rfl (by simp[T.dep,deps])))
def nil_:dF ai Z=.ok (.lst []):=mE rfl (aB (k:=0) (by simp))
def lead{e:N2}(F:cY L P f)(he:e∈P){d1 d2:Int}(h1:f c a=ZA d1)(h2:f e c=ZA d2):∃d,f e a=ZA d/\d<=d2+d1:=F.le e he a _ ((F.is _ _ _ h2).app (F.is _ _ _ h1))
theorem Co:∀{r:List Int}{k:Nat},oB r=ZC->k+1<r.length->0<dr r k
 |[],k,_,h=>by simp at h
 |[a],k,_,h=>by simp at h
 |a::b::r,0,h,_=>by
  rw[Fm,NC]at h
  have:=of_decide_eq_true h.1
  show 0<b - a
  omega
 |a::b::r,k+1,h,hk=>by
  rw[Fm,NC]at h;exact Co (r:=b::r) (k:=k) h.2 (by simpa using hk)
def El{t:T}(h:bR t=ZC):∃(x y:Int)(r:List Int),t=.tup [.int x,.int y,.tup (r.map .int)]/\1<=x/\∀k,k+1<r.length->0<dr r k:=by
 obtain⟨x,y,r,rfl,h1,h2,h3⟩:=qC h
 have h':(pE (.int x) (.int y)&&dq (.tup (r.map .int)))=ZC:=h;rw[NC]at h';refine⟨x,y,r,rfl,?_,?_⟩
 ·have hp:(bA (.int x) 1 9&&bA (.int y) x 9)=ZC:=h'.1
  rw[NC]at hp;obtain⟨i,e,a,b⟩:=dR hp.1;cases e;exact a
 ·have hr:=h'.2
  unfold dq at hr;rw[NC]at hr
  have hr2:(((r.map T.int).all λu=>bA u 0 99)&&(match nums (r.map .int)with|some m=>oB m|none=>ZD))=ZC:=hr.2
  rw[NC,mr]at hr2;exact λk hk=>Co hr2.2 hk
def Rd.inL(R:Rd cs ls L P){x:N2×N2×Int}(h:eB x∈EG cs ls):x∈L:=by
 rw[R.b]at h;obtain⟨y,hy,e⟩:=NS.mp h;rw[<-JX e];exact hy
def Rd.MQ(R:Rd cs ls L P){c k:Nat}(e:cs[c]?=ZA (.tup [.int x,.int y,.tup (r.map .int)]))(hx:1<=x)(hr:∀k,k+1<r.length->0<dr r k)(hk:k+1<r.length):∃s,s<0/\Wk L ⟨c,((k+1:Nat):Int)⟩ ⟨c,k⟩ s:=by
 refine⟨-dr r k*x,?_,Wk.one (R.inL ?_)⟩
 ·have h1:=hr k hk
  have:0<dr r k*x:=Int.mul_pos h1 (by omega)
  rw[Int.neg_mul];omega
 ·refine OZ _ (B0 (i:=0) e ?_)
  rw[T2,oQ];refine QM.mpr ⟨k,Pa.mpr (by omega),?_⟩
  exact Nu _ Nv
theorem Rd.M6(R:Rd cs ls L P){c:Nat}(e:cs[c]?=ZA (.tup [.int x,.int y,.tup (r.map .int)]))(hx:1<=x)(hr:∀k,k+1<r.length->0<dr r k){k:Nat}:∀(j:Nat),k+j+1<r.length->∃s,s<0/\Wk L ⟨c,((k+j+1:Nat):Int)⟩ ⟨c,k⟩ s
 |0,h=>R.MQ e hx hr h
 |j+1,h=>by
  obtain⟨s,hs,w⟩:=R.M6 e hx hr (k:=k) j (by omega)
  obtain⟨s',hs',w'⟩:=R.MQ e hx hr (k:=k+j+1) (by omega)
  exact⟨s'+s,by omega,w'.app w⟩
def Rd.shape(R:Rd cs ls L P)(hv:v∈P):∃(c k:Nat)(x y:Int)(r:List Int),v=⟨c,k⟩/\cs[c]?=ZA (.tup [.int x,.int y,.tup (r.map .int)])/\1<=x/\(∀k,k+1<r.length->0<dr r k)/\k<r.length:=by
 have h:en v∈fI 0 cs:=by rw[R.e];exact NS.mpr ⟨v,hv,rfl⟩
 obtain⟨hc,c1,c4⟩:=de R.g.c;obtain⟨c,k,e,h1,h2,h3⟩:=kH cs 0 h
 have hcl:c<cs.length:=by omega
 have e0:cs.getD (c - 0) .non=cs[c]:=by simp[hcl]
 rw[e0]at h3;obtain⟨x,z,r,e',a1,a2⟩:=El (hc cs[c] (OG hcl));rw[e']at h3
 have h3':k<r.length:=by
  have:k<(r.map T.int).length:=h3
  rwa [Ny]at this
 exact⟨c,k,x,z,r,qz (v:=⟨c,k⟩) e,by rw[NF hcl,e'],a1,a2,h3'⟩
def Rd.Ni(R:Rd cs ls L P)(F:cY L P f)(ha:a∈P)(hb:b∈P)(e:a.c=b.c)(h:a.k<b.k):∃d,f b a=ZA d/\d<0:=by
 obtain⟨c,k,x,y,r,rfl,e1,hx,hr,hk⟩:=R.shape ha;obtain⟨c',k',x',y',r',rfl,e1',hx',hr',hk'⟩:=R.shape hb
 have e:(c:Int)=c':=e
 have h:(k:Int)<k':=h;obtain rfl:c=c':=by omega
 rw[e1]at e1'
 have e1':=T.tup.inj (Om e1');simp only[Sn,T.int.injEq,T.tup.injEq,and_true]at e1'
 have hl:r.length=r'.length:=by
  have:=congrArg O0 e1'.2.2
  simpa using this
 obtain⟨j,rfl⟩:∃j,k'=k+j+1:=⟨k' - k - 1,by omega⟩
 obtain⟨s,hs,w⟩:=R.M6 e1 hx hr (k:=k) j (by omega)
 obtain⟨d,e2,hd⟩:=F.le _ hb _ _ w;exact⟨d,e2,by omega⟩
def Rd.upk(R:Rd cs ls L P)(hij:i<j)(hi:P[i]?=ZA a)(hj:P[j]?=ZA b)(e:a.c=b.c):a.k<b.k:=by
 have h:=yZ cs 0;rw[R.e,P0]at h;obtain⟨li,rfl⟩:=NN.mp hi
 obtain⟨lj,rfl⟩:=NN.mp hj
 have:=Py.mp h i j li lj hij
 have this:cz [P[i].c,P[i].k] [P[j].c,P[j].k]=ZC:=this;rw[uT,if_pos e]at this;exact of_decide_eq_true this
def Dd{t:T}(h:t∈rng 1 (n:Nat)):∃j:Nat,t=.int ((j+1:Nat):Int)/\j+1<n:=by
 unfold rng at h;obtain⟨k,hk,rfl⟩:=NS.mp h
 have:=Pa.mp hk;exact⟨k,by rw[show((k+1:Nat):Int)=1+(k:Int)by omega],by omega⟩
def Rd.MZ(R:Rd cs ls L P)(F:cY L P f):fA [.lst (aJ P f),eS P]=.ok (.bl ZC):=by
 refine bD rfl ?_
 show g8 [.va (.lst (aJ P f)),.va (eS P),.em,.em,.em]=_
 unfold g8
 have hl:(aJ P f).length<=ZI:=aB (tL R.pl)
 obtain⟨Z',lo,s2,s3,rfl⟩:=ni (g:=gT 2 (du (gN 2) (du (gN 3) jh))) (F:=(dQ (tb (o2 iG (ee (iS (vr 0)) [ZB,ZB,ZA 3,ZA 2,ZA 0] (gT 2 (du (gN 0) (du (gN 1) jh))) (iZ (tb (o2 nX (vr 0) (vr 2))) (tb (o2 jY (bx (af (vr 3) (af (vr 1) ai))) (vr 4)))) (vr 1)) (dF ai))) (aL (cn (.bl ZD))) sN))
  (λZ=>∃s2 s3,Z=[.va (.lst (aJ P f)),.va (eS P),s2,s3,.em]) (ts:=aJ P f)
  (λu hu Z hh=>by
   obtain⟨s2,s3,rfl⟩:=hh;obtain⟨a,c,d,ha,hc,e,hd,rfl⟩:=jK hu;refine⟨[.va (.lst (aJ P f)),.va (eS P),.va (en a),.va (en c),.em],[.va (.lst (aJ P f)),.va (eS P),.va (en a),.va (en c),.em],rfl,?_,_,_,rfl⟩
   refine(cx (yP (Mb (λZ=>∃s0 s1,Z=[s0,s1,.va (en c),.va (en a),.va (.lst (aJ P f))]) (ts:=aJ P f) (gR rfl) hl ⟨_,_,rfl⟩ (λw hw Z hh=>?_)) nil_)).trans rfl
   obtain⟨s0,s1,rfl⟩:=hh;obtain⟨c',g,d',hc',hg,e',hd',rfl⟩:=jK hw;refine⟨[.va (en c'),.va (en g),.va (en c),.va (en a),.va (.lst (aJ P f))],rfl,⟨_,_,rfl⟩,?_⟩
   by_cases z:c'=c
   ·subst z
    obtain⟨d2,e2,h2⟩:=lead F hg e e';exact lQ (ba (aD (t:=en c') (u:=en c') rfl rfl (by rw[Hw,decide_eq_true rfl]))) (ba (aD (t:=.tup [en a,en g]) (u:=.lst (aJ P f)) (cO rfl (aB (k:=2) (by simp))) rfl (uD ha hg e2 (by omega))))
   ·exact nt (ba (aD (t:=en c') (u:=en c) rfl rfl (by rw[Hw,decide_eq_false z])))) (Z:=[.va (.lst (aJ P f)),.va (eS P),.em,.em,.em]) ⟨_,_,rfl⟩
 refine(ay (dN (gR rfl) lo)).trans ?_
 obtain⟨Z',lo,s4,rfl⟩:=ni (g:=gN 4) (F:=(dQ (iZ (tb (o2 nX (o2 aX (o2 aX (vr 1) (vr 4)) (cn (.int 0))) (o2 aX (o2 aX (vr 1) (o2 cR (vr 4) (cn (.int 1)))) (cn (.int 0))))) (tb (o2 jY (bx (af (o2 aX (vr 1) (o2 cR (vr 4) (cn (.int 1)))) (af (o2 aX (vr 1) (vr 4)) ai))) (vr 0)))) (aL (cn (.bl ZD))) sN))
  (λZ=>∃s4,Z=[.va (.lst (aJ P f)),.va (eS P),s2,s3,s4]) (ts:=rng 1 (P.length:Nat))
  (λu hu Z hh=>by
   obtain⟨s4,rfl⟩:=hh;obtain⟨j,rfl,hj⟩:=Dd hu
   have hj0:j<P.length:=by omega
   have e1:(P.map en)[j+1]?=ZA (en P[j+1]):=by rw[NU,NF hj];rfl
   have e0:(P.map en)[j]?=ZA (en P[j]):=by rw[NU,NF hj0];rfl
   refine⟨[.va (.lst (aJ P f)),.va (eS P),s2,s3,.va (.int ((j+1:Nat):Int))],[.va (.lst (aJ P f)),.va (eS P),s2,s3,.va (.int ((j+1:Nat):Int))],rfl,?_,_,rfl⟩
   have sb:∀{Z:En},vr 4 Z=.ok (.int ((j+1:Nat):Int))->o2 cR (vr 4) (cn (.int 1)) Z=.ok (.int (j:Nat)):=λ{Z} h=>aD (t:=.int ((j+1:Nat):Int)) (u:=.int 1) h rfl (by show Rs.ok (T.int (((j+1:Nat):Int) - 1))=_;rw[show((j+1:Nat):Int) - 1=(j:Nat)by omega])
   have x1:o2 aX (vr 1) (vr 4) [.va (.lst (aJ P f)),.va (eS P),s2,s3,.va (.int ((j+1:Nat):Int))]=.ok (en P[j+1]):=xF (l:=P.map en) rfl rfl e1
   have x0:o2 aX (vr 1) (o2 cR (vr 4) (cn (.int 1))) [.va (.lst (aJ P f)),.va (eS P),s2,s3,.va (.int ((j+1:Nat):Int))]=.ok (en P[j]):=xF (l:=P.map en) rfl (sb rfl) e0
   have c1:=aD (g:=aX) (t:=en P[j+1]) (u:=.int 0) (fb:=cn (.int 0)) x1 rfl (x:=.ok (.int P[j+1].c)) rfl
   have c0:=aD (g:=aX) (t:=en P[j]) (u:=.int 0) (fb:=cn (.int 0)) x0 rfl (x:=.ok (.int P[j].c)) rfl
   have eq:∀i j:Int,nX (.int i) (.int j)=.ok (.bl (decide (i=j))):=λi j=>vf i j
   by_cases z:P[j+1].c=P[j].c
   ·have up:=R.upk (Tw j) (NF hj0) (NF hj) z.symm
    obtain⟨d,e,hd⟩:=R.Ni F (OG hj0) (OG hj) z.symm up;exact(cx (lQ (ba (aD c1 c0 (by rw[eq,decide_eq_true z]))) (ba (aD (t:=.tup [en P[j],en P[j+1]]) (u:=.lst (aJ P f)) (cO (au x0 (au x1 rfl)) (aB (k:=2) (by simp))) rfl (uD (OG hj0) (OG hj) e hd))))).trans rfl
   ·exact(cx (nt (ba (aD c1 c0 (by rw[eq,decide_eq_false z]))))).trans rfl) (Z:=[.va (.lst (aJ P f)),.va (eS P),s2,s3,.em]) ⟨_,rfl⟩
 refine(ay (dN (ts:=rng 1 (P.length:Nat)) ?_ lo)).trans (bS rfl)
 have:=R.pl;unfold iR;rw[show(af (cn (T.int 1)) (af (cl dh (af (vr 1) ai)) ai)) [Sl.va (T.lst (aJ P f)),Sl.va (eS P),s2,s3,Sl.em]=.ok [.int 1,.int (P.length:Nat)]from au rfl (au (yR rfl) rfl),aF]
 show(if vJ 1&&vJ (P.length:Nat)then Rs.ok (rng 1 (P.length:Nat))else .bad)=_
 rw[if_pos];unfold vJ;simp only[NC,decide_eq_true_eq];omega
def Lx{b:W6}{x y:W5}(h:b Z=.ok ZD):qu b x y Z=y Z:=by unfold qu;rw[h];rfl
def ano0(h:dM [RR cs ls]=.ok .non):fQ [RR cs ls]=.ok .non:=by
 refine bD rfl ?_
 show gZ [.va (RR cs ls),.em]=_
 unfold gZ;refine(ay (Z':=[.va (RR cs ls),.va .non]) (bW (aP (ts:=[RR cs ls]) rfl h) rfl)).trans ?_
 rfl
def Rd.Nm(R:Rd cs ls L P){t:N2->Int}(h:dM [RR cs ls]=.ok (lH P t)):fQ [RR cs ls]=.ok (eS (kR P t)):=by
 refine bD rfl ?_
 show gZ [.va (RR cs ls),.em]=_
 unfold gZ;refine(ay (Z':=[.va (RR cs ls),.va (lH P t)]) (bW (aP (ts:=[RR cs ls]) rfl h) rfl)).trans ?_
 exact bS ((Lx (ba (aD (t:=lH P t) (u:=.non) rfl rfl rfl))).trans (aP (ts:=[RR cs ls,lH P t]) rfl (R.told t)))
def Rd.MS(R:Rd cs ls L P)(h5:ls.length<=7){u:T}(hu:bJ cs u=ZC)(pu:u.pl=ZC):Good cs (ls++[u]):=by
 refine⟨R.g.c,λt ht=>?_,by rw[NH];simpa using h5,ue R.g.parts.1 (CI R.g.pls (by rw[pB];simp[plS,pu]))⟩
 rcases Oa.mp ht with h|h
 ·exact R.g.l t h
 ·rw[NR.mp h];exact hu
def Rd.Ng(R:Rd cs ls L P)(h5:ls.length<=7){u:T}(hu:bJ cs u=ZC)(pu:u.pl=ZC):cZ [RR cs ls,u]=.ok (RR cs (ls++[u])):=by
 rw[uj R.g.parts.1 R.g.pls (by omega) pu R.g.ok]
 unfold wH;rw[if_pos (R.MS h5 hu pu).ok]
def xy(R:Rd cs ls L P)(n:bZ L):cY L P (table P L):=(nL R.f.ends λu _ y h=>Int.not_lt.mp λz=>rQ h z n).2
def Rd.keeps(R:Rd cs ls L P)(F:cY L P f)(h5:ls.length<=7){u:T}(hu:u=.non\/(bJ cs u=ZC/\u.pl=ZC)):gz [RR cs ls,u,.lst (aJ P f)]=.ok (.bl ZC):=by
 refine bD rfl ?_
 show jw [.va (RR cs ls),.va u,.va (.lst (aJ P f)),.em]=_
 unfold jw;rcases hu with rfl|⟨hu,pu⟩
 ·exact gn ((ff (Ai (ba (aD (t:=.non) (u:=.non) rfl rfl rfl)))).trans (bS rfl))
 have hn:gp u .non=.ok (.bl ZD):=by
  cases u with
  |non=>cases hu
  |_=>rfl
 obtain⟨L',P',S⟩:=wI (R.MS h5 hu pu);obtain rfl:=R.same S
 have w:=R.Ng h5 hu pu;obtain⟨hw,e,iff⟩:=S.M0
 have wl:∀{Z:En},vr 0 Z=.ok (RR cs ls)->vr 1 Z=.ok u->cl cZ (af (vr 0) (af (vr 1) ai)) Z=.ok (RR cs (ls++[u])):=λh0 h1=>aP (ts:=[RR cs ls,u]) (au h0 (au h1 rfl)) w
 cases hw with
 |false=>exact gn ((ff (nW (ba (aD (t:=u) (u:=.non) rfl rfl hn)) (hZ (k:=ZD) (ba (aP (ts:=[RR cs (ls++[u])]) (au (wl rfl rfl) rfl) e))))).trans (bS rfl))
 |true=>
  have n:bZ L':=iff.mp rfl
  have F':=xy S n;refine(ay (Z':=[.va (RR cs ls),.va u,.va (.lst (aJ P' f)),.em]) ((cx (nW (ba (aD (t:=u) (u:=.non) rfl rfl hn)) (hZ (k:=ZC) (ba (aP (ts:=[RR cs (ls++[u])]) (au (wl rfl rfl) rfl) e))))).trans rfl)).trans ?_
  refine(ay (Z':=[.va (RR cs ls),.va u,.va (.lst (aJ P' f)),.va (.lst (aJ P' (table P' L')))]) (bW (aP (ts:=[RR cs (ls++[u])]) (au (wl rfl rfl) rfl) (S.MR n F')) rfl)).trans ?_
  have sub:∀x∈L,x∈L':=λx hx=>S.inL (by
   have:eB x∈EG cs ls:=by rw[R.b];exact NS.mpr ⟨x,hx,rfl⟩
   unfold EG at this ⊢;rw[List.flatMap_append,<-NY];exact OZ _ this)
  refine bS (aD (t:=.lst []) (u:=.lst []) (Mb (λZ=>∃s0,Z=[s0,.va (.lst (aJ P' (table P' L')))]) (ts:=aJ P' f) (gR rfl) (aB (tL R.pl)) ⟨_,rfl⟩ λw hw Z hh=>?_) nil_ (GB rfl (by simp[T.dep,deps])))
  obtain⟨s0,rfl⟩:=hh;obtain⟨a,c,d,ha,hc,e,hd,rfl⟩:=jK hw;obtain⟨d2,e2,h2⟩:=F'.le c hc a _ ((F.is _ _ _ e).mono sub);exact⟨[.va (.tup [en a,en c]),.va (.lst (aJ P' (table P' L')))],rfl,⟨_,rfl⟩,ba (aD (t:=.tup [en a,en c]) (u:=.lst (aJ P' (table P' L'))) rfl rfl (uD ha hc e2 (by omega)))⟩
abbrev LX:List (Str×Str):=[("ahead","behind"),("behind","ahead"),("open","open"),("at once","at once")]
def ab1:vK LX (.str "ahead")=.ok (.str "behind"):=by rfl
def ab2:vK LX (.str "behind")=.ok (.str "ahead"):=by rfl
def ab3:vK LX (.str "open")=.ok (.str "open"):=by rfl
def ab4:vK LX (.str "at once")=.ok (.str "at once"):=by rfl
def HJ(n:bZ L)(F:cY L P f)(h:iP (f c a)=ZC):iP (f a c)=ZD:=by
 cases h1:f c a with
 |none=>rw[h1]at h;cases h
 |some d=>
  cases h2:f a c with
  |none=>rfl
  |some e=>
   rw[h1]at h
   have hd:d<0:=of_decide_eq_true h
   have:=n c _ ((F.is _ _ _ h1).app (F.is _ _ _ h2));exact decide_eq_false (by omega)
def GW(n:bZ L)(F:cY L P f):vK LX (.str (word f a c))=.ok (.str (word f c a)):=by
 unfold word
 cases h1:iP (f c a)with
 |true=>
  rw[HJ n F h1]
  exact ab1
 |false=>
  cases h2:iP (f a c)with
  |true=>exact ab2
  |false=>
   rw[Bool.or_comm (pA (f c a))]
   cases pA (f a c)||pA (f c a)with
   |true=>exact ab3
   |false=>exact ab4
def u5{t:N2->Int}(h:Holds L t)(F:cY L P f){u:N2}(e:f u v=ZA d):t v - t u<=d:=h.walk (F.is _ _ _ e)
def Jo{t:N2->Int}(m:bO [RR cs ls,en a,en c]=.ok (.bl (pA (f a c))))(h1:vr 1 Z=.ok (RR cs ls))(h8:vr 8 Z=.ok (sX P t))(h10:vr 10 Z=.ok (en a))(h11:vr 11 Z=.ok (en c))(ha:a∈P)(hc:c∈P)(h:Holds L t)(F:cY L P f):
  iZ (tb (o2 qP (o2 aO (vr 8) (vr 10)) (o2 aO (vr 8) (vr 11)))) (dg (tb (cl bO (af (vr 1) (af (vr 10) (af (vr 11) ai)))))) Z=.ok ZD:=by
 by_cases z:t a<t c
 ·have p:pA (f a c)=ZC:=by
   cases e:f a c with
   |none=>rfl
   |some d=>have:=u5 h F e;exact decide_eq_true (by omega)
  rw[p]at m;exact lQ (ba (aD (t:=.int (t a)) (u:=.int (t c)) (kh h8 h10 ha) (kh h8 h11 hc) (by show Rs.ok (T.bl (decide (t a<t c)))=_;rw[decide_eq_true z]))) (hZ (k:=ZC) (ba (aP (ts:=[RR cs ls,en a,en c]) (au h1 (au h10 (au h11 rfl))) m)))
 ·exact nt (ba (aD (t:=.int (t a)) (u:=.int (t c)) (kh h8 h10 ha) (kh h8 h11 hc) (by show Rs.ok (T.bl (decide (t a<t c)))=_;rw[decide_eq_false z])))
def Jp{t:N2->Int}(m:cq [RR cs ls,en a,en c]=.ok (.bl (!iP (f c a)&& !iP (f a c))))(h1:vr 1 Z=.ok (RR cs ls))(h8:vr 8 Z=.ok (sX P t))(h10:vr 10 Z=.ok (en a))(h11:vr 11 Z=.ok (en c))(ha:a∈P)(hc:c∈P)(h:Holds L t)(F:cY L P f):
  iZ (tb (o2 nX (o2 aO (vr 8) (vr 10)) (o2 aO (vr 8) (vr 11)))) (dg (tb (cl cq (af (vr 1) (af (vr 10) (af (vr 11) ai)))))) Z=.ok ZD:=by
 by_cases z:t a=t c
 ·have p:∀u v,t u=t v->iP (f u v)=ZD:=λu v e0=>by
   cases e:f u v with
   |none=>rfl
   |some d=>have:=u5 h F e;exact decide_eq_false (by omega)
  rw[p a c z,p c a z.symm]at m;exact lQ (ba (aD (t:=.int (t a)) (u:=.int (t c)) (kh h8 h10 ha) (kh h8 h11 hc) (by rw[vf,beq_iff_eq.mpr z]))) (hZ (k:=ZC) (ba (aP (ts:=[RR cs ls,en a,en c]) (au h1 (au h10 (au h11 rfl))) m)))
 ·exact nt (ba (aD (t:=.int (t a)) (u:=.int (t c)) (kh h8 h10 ha) (kh h8 h11 hc) (by rw[vf,beq_eq_false_iff_ne.mpr z])))
def Kt(R:Rd cs ls L P)(t:N2->Int)(h7:vr 7 Z=.ok (lH P t))(h2:vr 2 Z=.ok (eS P))(h0:bV [ZB,ZB] Z=[.em,.em]):ee (iS (cl E9 (af (vr 7) (af (vr 2) ai)))) [ZB,ZB] (gT 2 (du (gN 0) (du (gN 1) jh))) bT (vr 1) Z=.ok (eS (kR P t)):=by
 have hl:(kR P t).length<=16:=by rw[(gP P t).length_eq];exact R.pl
 have e:=qe (g:=gT 2 (du (gN 0) (du (gN 1) jh))) (fc:=bT) (fe:=vr 1) (p:=λ_=>ZC) (h:=Kw) (λZ=>∃s0 s1,Z=[s0,s1]) ((kR P t).map λv=>T.tup [.int (t v),en v]) [.em,.em] ⟨_,_,rfl⟩ λu hu Z hh=>by
  obtain⟨s0,s1,rfl⟩:=hh;obtain⟨v,_,rfl⟩:=NS.mp hu;exact⟨[.va (.int (t v)),.va (en v)],rfl,⟨_,_,rfl⟩,rfl,rfl⟩
 rw[List.filter_eq_self.mpr (λ_ _=>rfl),Oo]at e
 unfold ee;rw[gR (aP (ts:=[lH P t,eS P]) (au h7 (au h2 rfl)) (He t R.pos (by have:=R.pl;omega))),aF,if_pos (aB (k:=16) (by rw[Ny];exact hl)),h0,e]
 rfl
def Rd.turn(R:Rd cs ls L P)(hn:ns.length<=63)(n:bZ L)(F:cY L P f){k:Nat}(hk:k=0\/k=1)(s7 s8 s9 s10 s11 s12 s13:Sl):∃a7 a8 a9 a10 a11 a12,BB [.va (.scr ns),.va (RR cs ls),.va (eS P),.va (eL L),.va (cG P f),.va (.lst (aJ P f)),.va (.int (k:Nat)),s7,s8,s9,s10,s11,s12,s13]=.ok (.nx [.va (.scr ns),.va (RR cs ls),.va (eS P),.va (eL L),.va (cG P f),.va (.lst (aJ P f)),.va (.int (k:Nat)),a7,a8,a9,a10,a11,a12,s13]):=by
 obtain⟨t,h,dw⟩:=D7 hn n F R.pl R.nd R.f.ends (80+20*k) (eL L);obtain⟨r1,a,ha,d1,i1⟩:=R.pick hn (120+2*k);obtain⟨r2,c,hc,d2,i2⟩:=R.pick hn (121+2*k)
 have hl:(aJ P f).length<=ZI:=aB (tL R.pl)
 have L1:∀u∈aJ P f,∀Z:En,(∃s0 s1,Z=[s0,s1,.va (sX P t)])->∃Z1,gT 2 (du (gN 0) (du (gN 1) jh)) u Z=.ok Z1/\(∃s0 s1,Z1=[s0,s1,.va (sX P t)])/\tb (o2 Me (o2 aO (vr 2) (vr 0)) (o2 aO (vr 2) (vr 1))) Z1=.ok ZD:=λu hu Z hh=>by
  obtain⟨s0,s1,rfl⟩:=hh;obtain⟨x,y,d,hx,hy,e,hd,rfl⟩:=jK hu
  have:=u5 h F e;exact⟨[.va (en x),.va (en y),.va (sX P t)],rfl,⟨_,_,rfl⟩,ba (aD (t:=.int (t x)) (u:=.int (t y)) (kh rfl rfl hx) (kh rfl rfl hy) (by show Rs.ok (T.bl (decide (t x ≥ t y)))=_;rw[decide_eq_false (by omega)]))⟩
 refine⟨.va (lH P t),.va (sX P t),.va (eS (kR P t)),.va (en a),.va (en c),.em,?_⟩
 refine(ay (Z':=[.va (.scr ns),.va (RR cs ls),.va (eS P),.va (eL L),.va (cG P f),.va (.lst (aJ P f)),.va (.int (k:Nat)),.va (lH P t),s8,s9,s10,s11,s12,s13]) (bW (aP (ts:=[.scr ns,.int ((80+20*k:Nat):Int),eS P,eL L,cG P f]) (au rfl (au (by rcases hk with rfl|rfl <;> rfl) rfl)) dw) rfl)).trans ?_
 refine(ay (Z':=[.va (.scr ns),.va (RR cs ls),.va (eS P),.va (eL L),.va (cG P f),.va (.lst (aJ P f)),.va (.int (k:Nat)),.va (lH P t),.va (sX P t),s9,s10,s11,s12,s13]) (bW (aP (ts:=[eS P,lH P t]) rfl (R.dz t)) rfl)).trans ?_
 refine(ay (Z':=[.va (.scr ns),.va (RR cs ls),.va (eS P),.va (eL L),.va (cG P f),.va (.lst (aJ P f)),.va (.int (k:Nat)),.va (lH P t),.va (sX P t),s9,s10,s11,s12,s13]) ((cx (yP (Mb (λZ=>∃s0 s1,Z=[s0,s1,.va (sX P t)]) (ts:=aJ P f) (gR rfl) hl ⟨_,_,rfl⟩ L1) nil_)).trans rfl)).trans ?_
 refine(ay (Z':=[.va (.scr ns),.va (RR cs ls),.va (eS P),.va (eL L),.va (cG P f),.va (.lst (aJ P f)),.va (.int (k:Nat)),.va (lH P t),.va (sX P t),.va (eS (kR P t)),s10,s11,s12,s13]) (bW (aP (ts:=[RR cs ls,lH P t]) rfl (R.told t)) rfl)).trans ?_
 refine(ay (Z':=[.va (.scr ns),.va (RR cs ls),.va (eS P),.va (eL L),.va (cG P f),.va (.lst (aJ P f)),.va (.int (k:Nat)),.va (lH P t),.va (sX P t),.va (eS (kR P t)),s10,s11,s12,s13]) ((cx (nW (ba (aD (t:=eS (kR P t)) (u:=eS (kR P t)) rfl (Kt R t rfl rfl rfl) (mw (sM _).1 (sM _).2))) (hZ (k:=ZC) (ba (aP (ts:=[RR cs ls,eS (kR P t)]) rfl (R.ML (gP P t) h (yA P t))))))).trans rfl)).trans ?_
 refine(ay (Z':=[.va (.scr ns),.va (RR cs ls),.va (eS P),.va (eL L),.va (cG P f),.va (.lst (aJ P f)),.va (.int (k:Nat)),.va (lH P t),.va (sX P t),.va (eS (kR P t)),.va (en a),s11,s12,s13]) (bW (aD (t:=eS P) (u:=.int r1) rfl (aP (ts:=[.scr ns,.int ((120+2*k:Nat):Int),.int (P.length:Nat)]) (au rfl (au (by rcases hk with rfl|rfl <;> rfl) (au (yR rfl) rfl))) d1) i1) rfl)).trans ?_
 refine(ay (Z':=[.va (.scr ns),.va (RR cs ls),.va (eS P),.va (eL L),.va (cG P f),.va (.lst (aJ P f)),.va (.int (k:Nat)),.va (lH P t),.va (sX P t),.va (eS (kR P t)),.va (en a),.va (en c),s12,s13]) (bW (aD (t:=eS P) (u:=.int r2) rfl (aP (ts:=[.scr ns,.int ((121+2*k:Nat):Int),.int (P.length:Nat)]) (au rfl (au (by rcases hk with rfl|rfl <;> rfl) (au (yR rfl) rfl))) d2) i2) rfl)).trans ?_
 refine(ay (Z':=[.va (.scr ns),.va (RR cs ls),.va (eS P),.va (eL L),.va (cG P f),.va (.lst (aJ P f)),.va (.int (k:Nat)),.va (lH P t),.va (sX P t),.va (eS (kR P t)),.va (en a),.va (en c),s12,s13]) ((cx (Jo (R.MC n F ha hc) rfl rfl rfl rfl ha hc h F)).trans rfl)).trans ?_
 refine(ay (Z':=[.va (.scr ns),.va (RR cs ls),.va (eS P),.va (eL L),.va (cG P f),.va (.lst (aJ P f)),.va (.int (k:Nat)),.va (lH P t),.va (sX P t),.va (eS (kR P t)),.va (en a),.va (en c),s12,s13]) ((cx (Jp (R.once n F ha hc) rfl rfl rfl rfl ha hc h F)).trans rfl)).trans ?_
 refine(ay (Z':=[.va (.scr ns),.va (RR cs ls),.va (eS P),.va (eL L),.va (cG P f),.va (.lst (aJ P f)),.va (.int (k:Nat)),.va (lH P t),.va (sX P t),.va (eS (kR P t)),.va (en a),.va (en c),.em,s13]) (rfl)).trans ?_
 refine(ay (Z':=[.va (.scr ns),.va (RR cs ls),.va (eS P),.va (eL L),.va (cG P f),.va (.lst (aJ P f)),.va (.int (k:Nat)),.va (lH P t),.va (sX P t),.va (eS (kR P t)),.va (en a),.va (en c),.em,s13]) ((cx (ba (aD (t:=.str (word f c a)) (u:=.str (word f c a)) (JD (t:=.str (word f a c)) (aP (ts:=[RR cs ls,en a,en c]) rfl (R.Nc n F ha hc)) (GW n F)) (aP (ts:=[RR cs ls,en c,en a]) rfl (R.Nc n F hc ha)) (mw rfl (by simp[T.dep]))))).trans rfl)).trans rfl
abbrev E5(ns:List Int)(cs ls:List T)(L:bX N2)(P:List N2)(f:dy N2)(s6 s7 s8 s9 s10 s11 s12 s13:Sl):En:=[.va (.scr ns),.va (RR cs ls),.va (eS P),.va (eL L),.va (cG P f),.va (.lst (aJ P f)),s6,s7,s8,s9,s10,s11,s12,s13]
def Rd.lbs(R:Rd cs ls L P):eG [RR cs ls]=.ok (eL L):=by rw[Bs R.g.c R.g.l R.g.n,R.b];rfl
def JK{t:N2->Int}(g:Q.Pairwise λa b=>t a<=t b)(h2:vr 2 Z=.ok (eS Q))(h0:vr 0 Z=.ok (en a))(h1:vr 1 Z=.ok (en c))(ha:a∈Q)(hc:c∈Q)(lt:t a<t c):tb (o2 JN (oL eO (vr 2) (vr 0)) (oL eO (vr 2) (vr 1))) Z=.ok ZD:=by
 refine ba (aD (t:=.int ((Q.idxOf a:Nat):Int)) (u:=.int ((Q.idxOf c:Nat):Int)) (JC (ks:=Q.map en) (u:=en a) h2 h0 (qr a Q ha)) (JC (ks:=Q.map en) (u:=en c) h2 h1 (qr c Q hc)) ?_)
 have:=JL g ha hc lt
 show Rs.ok (T.bl (decide (((Q.idxOf a:Nat):Int) > ((Q.idxOf c:Nat):Int))))=_
 rw[decide_eq_false (by omega)]
def pure_law(ns:List Int)(hn:ns.length<=63):m_law [.scr ns]=.ok (.bl ZC):=by
 obtain⟨cs,ls,er,hc,c3,hs,hl,l6⟩:=JU ns hn 0 5 (by omega)
 obtain⟨hR,mR⟩:=Ic hc hs hl (by omega)
 have g:Good cs ls:=⟨hc,λt ht=>(hl t ht).1,by omega,Ce mR⟩
 obtain⟨L,P,R⟩:=wI g;refine bD rfl ?_
 show EB [.va (.scr ns),.em,.em,.em,.em,.em,.em,.em,.em,.em,.em,.em,.em,.em]=_
 obtain⟨hw,e,iff⟩:=R.M0;unfold EB;refine(ay (Z':=[.va (.scr ns),.va (RR cs ls),.em,.em,.em,.em,.em,.em,.em,.em,.em,.em,.em,.em]) (bW (aP (ts:=[.scr ns,.int 0,.int 5]) rfl er) rfl)).trans ?_
 cases hw with
 |false=>
  have nn:¬ bZ L:=λz=>by have:=iff.mpr z;cases this
  have w:dM [RR cs ls]=.ok .non:=by
   rcases R.MG with⟨_,e⟩|⟨n,_⟩
   ·exact e
   ·exact absurd n nn
  exact gn ((ff (hZ (k:=ZD) (ba (aP (ts:=[RR cs ls]) rfl e)))).trans (bS (aD (t:=.non) (u:=.non) (aP (ts:=[RR cs ls]) rfl (ano0 w)) rfl rfl)))
 |true=>
  have n:bZ L:=iff.mp rfl
  have F:cY L P (table P L):=xy R n
  obtain⟨t0,h0,wd⟩:∃t0,Holds L t0/\dM [RR cs ls]=.ok (lH P t0):=by
   rcases R.MG with⟨n2,_⟩|⟨_,t,b,S,hb,e⟩
   ·exact absurd n n2
   ·exact⟨t,S.holds R.f.ends hb,e⟩
  have tb:fz [eS P,eL L]=.ok (cG P (table P L)):=by
   obtain⟨t,h,e⟩:=GF R.nd (by have:=R.pl;omega) R.f.ends
   rcases h with⟨_,_,rfl⟩|⟨z,_⟩
   ·exact e
   ·exact absurd n z
  refine(ay (Z':=[.va (.scr ns),.va (RR cs ls),.em,.em,.em,.em,.em,.em,.em,.em,.em,.em,.em,.em]) ((cx (hZ (k:=ZC) (ba (aP (ts:=[RR cs ls]) rfl e)))).trans rfl)).trans ?_
  refine(ay (Z':=[.va (.scr ns),.va (RR cs ls),.va (eS P),.em,.em,.em,.em,.em,.em,.em,.em,.em,.em,.em]) (bW (aP (ts:=[RR cs ls]) rfl R.events) rfl)).trans ?_
  refine(ay (Z':=[.va (.scr ns),.va (RR cs ls),.va (eS P),.va (eL L),.em,.em,.em,.em,.em,.em,.em,.em,.em,.em]) (bW (aP (ts:=[RR cs ls]) rfl R.lbs) rfl)).trans ?_
  refine(ay (Z':=[.va (.scr ns),.va (RR cs ls),.va (eS P),.va (eL L),.va (cG P (table P L)),.em,.em,.em,.em,.em,.em,.em,.em,.em]) (bW (aP (ts:=[eS P,eL L]) rfl tb) rfl)).trans ?_
  refine(ay (Z':=E5 ns cs ls L P (table P L) .em .em .em .em .em .em .em .em) (bW (aP (ts:=[RR cs ls]) rfl (R.MR n F)) rfl)).trans ?_
  refine(ay (Z':=E5 ns cs ls L P (table P L) .em .em .em .em .em .em .em .em) ((cx (hZ (k:=ZC) (ba (aP (ts:=[.lst (aJ P (table P L)),eS P]) rfl (R.MZ F))))).trans rfl)).trans ?_
  obtain⟨Z',lo,s6,s7,s8,s9,s10,s11,s12,rfl⟩:=ni (g:=gN 6) (F:=BB) (λZ=>∃s6 s7 s8 s9 s10 s11 s12,Z=E5 ns cs ls L P (table P L) s6 s7 s8 s9 s10 s11 s12 .em) (ts:=rng 0 2)
   (λu hu Z hh=>by
    obtain⟨s6,s7,s8,s9,s10,s11,s12,rfl⟩:=hh;obtain⟨k,rfl,hk⟩:=kB hu;obtain⟨a7,a8,a9,a10,a11,a12,st⟩:=R.turn hn n F (k:=k) (by omega) s7 s8 s9 s10 s11 s12 .em
    exact⟨E5 ns cs ls L P (table P L) (.va (.int (k:Nat))) s7 s8 s9 s10 s11 s12 .em,_,rfl,st,_,_,_,_,_,_,_,rfl⟩) (Z:=E5 ns cs ls L P (table P L) .em .em .em .em .em .em .em .em) ⟨_,_,_,_,_,_,_,rfl⟩
  refine(ay (dN rfl lo)).trans ?_
  refine(ay (Z':=E5 ns cs ls L P (table P L) s6 s7 s8 s9 s10 s11 s12 (.va (eS (kR P t0)))) (bW (aP (ts:=[RR cs ls]) rfl (R.Nm wd)) rfl)).trans ?_
  refine(ay (Z':=E5 ns cs ls L P (table P L) s6 s7 s8 s9 s10 s11 s12 (.va (eS (kR P t0)))) ((cx (nW (ba (aD (t:=eS (kR P t0)) (u:=eS (kR P t0)) rfl (aP (ts:=[RR cs ls,lH P t0]) (au rfl (au (aP (ts:=[RR cs ls]) rfl wd) rfl)) (R.told t0)) (mw (sM _).1 (sM _).2))) (hZ (k:=ZC) (ba (aP (ts:=[RR cs ls,eS (kR P t0)]) rfl (R.ML (gP P t0) h0 (yA P t0))))))).trans rfl)).trans ?_
  refine(ay (Z':=E5 ns cs ls L P (table P L) s6 s7 s8 s9 s10 s11 s12 (.va (eS (kR P t0)))) ((cx (yP (Mb (λZ=>∃s0 s1,Z=[s0,s1,.va (eS (kR P t0))]) (ts:=aJ P (table P L)) (gR rfl) (aB (tL R.pl)) ⟨_,_,rfl⟩ (λu hu Z hh=>by
   obtain⟨s0,s1,rfl⟩:=hh;obtain⟨x,y,d,hx,hy,e,hd,rfl⟩:=jK hu
   have:=u5 h0 F e;exact⟨[.va (en x),.va (en y),.va (eS (kR P t0))],rfl,⟨_,_,rfl⟩,JK (yA P t0) rfl rfl rfl ((gP P t0).mem_iff.mpr hx) ((gP P t0).mem_iff.mpr hy) (by omega)⟩)) nil_)).trans rfl)).trans ?_
  obtain⟨u,eu,hu⟩:=sT ns hn 130 cs hc;refine bS (aP (ts:=[RR cs ls,u,.lst (aJ P (table P L))]) (au rfl (au (aP (ts:=[.scr ns,.int 130,.tup cs]) (au rfl (au rfl (au rfl rfl))) eu) rfl)) (R.keeps F (by omega) ?_))
  rcases hu with h|⟨h1,h2⟩
  ·exact .inl h
  ·exact .inr ⟨h1,Ce h2⟩
end G
end
open PySem PySem.W PyProof.Rows
set_option maxRecDepth 100000 in
set_option maxHeartbeats 0 in
theorem PySem.Challenge.cw_farclocks_k41_whole_orders_holds : PySem.Challenge.rw_farclocks_k41_whole_orders.Holds := by
  w_on; o_law
  refine holds_open (q :=G.vw) (loose :=G.lse) (Xt :=λ_ =>true) (XP :=λ_ _ =>True) (Yf :=(Tr.hookC G.asks G.top).obs) (Ya :=(Tr.hookC G.asks G.top).val) (YP :=(Tr.hookC G.asks G.top).says) (N :=9000) (Tr.left_of (by rfl) (by rfl) (λ_ =>rfl) λw os =>?hl) (Tr.hookC G.asks G.top).of (Tr.hookC G.asks G.top).keeps (λ_ _ =>trivial) (λ_ _ _ _ _ =>trivial) (by rfl) (by rfl) (by rfl) (λs _ =>recFacts_of (s :=s) rfl) (by rfl) (by assumption) (by decide +kernel) ⟨rfl, rfl, rfl, rfl, rfl, by decide +kernel⟩ ?hw ?hc
  case hl =>exact G.M8 w os
  case hw =>w_witness2
  case hc =>exact Tr.walk_c (n :=63) (k :=17) (x := "_law_script") (CX :=L2.CX0) (sp :=λK =>Tr.spP K 1 G.m_law) rfl (by decide) rfl ⟨rfl, by decide, by decide⟩ (λw K mg fa h X e g hf =>G.all_ok X e g hf) (λK H a ns hl _ hS =>Tr.sp_script hS (G.pure_law ns hl)) λ_ _ _ _ z =>z
