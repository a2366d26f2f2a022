import PyProof.Rows.All
import Wide.All
import OpenK.AllK
import Wide.FinOn
import Lean
import PyProof.EqAt
import PyProof.EqKinds
import PyProof.TupleCall
import PyProof.ExcClass3
import PyProof.StationsW
import PyProof.ExcBaseAll.ValueError
import PyProof.ExcArgsOwn
import PyProof.IsiBase
import PyProof.IsiH_tuple
import PyProof.ExcAttrAll.ValueError
import PyProof.Rows.RuleN_isinstance
import PyProof.MeetsSeq
import PyProof.RulesAs
import PyProof.IsiH_list
import PyProof.AttrMiss
import KE.KDictOf
import PyProof.Rows.SumAny
import PyProof.Rows.MinMaxN
import PyProof.Rows.SortShellK
import PyProof.Rows.SortWalk
import PyProof.ZipIter
import PyProof.WalksMore
import PyProof.DictWalks
import PyProof.AutoSeq1
import PyProof.Rows.Range3
import PyProof.CollectWalk
import KE.KSortTup
import PyProof.EnumMake
import PyProof.ListRange
import KE.KRevIter
import PySem.Challenge.RW_farclocks_k96_again_and_handed
variable{D ab ab' b expr hdct hdct' p q tt:Bool}{M N a i j k k' kk l m n t' x1:Nat}{Ty newId:String}{col col':Option Bool}{d s:Int}{g:Int->Int->Int}{hi lo:Option Int}{ks w:List Nat}{ns:List Int}{x:Int×List Nat}{α β κ:Type}
noncomputable section
open PySem.Challenge renaming pw_farclocks_k96_again_and_handed→OG,rw_farclocks_k96_again_and_handed→S7
open PySem.AutoListH renaming list___mul___list_int_3→U2
open PyProof.Rows renaming slot_tuple_getitem→Pr,callWith_builtin1→Qh,callWith_type1→Pq,subscriptTail_builtinR→T6,entry_tuple_getitem→UU,args_tuple_getitem→Vh,call_isinstance_of→Vk,KK_mirror_equal→Qw,tupleItemsOf_→Vi,subscriptTail→Vj,listUpdate_at→Vl,wpS_forRange→Sv,seqEpoch_at→WD,wpS_modify→VD,setPending→VE,SortedToK→P9,pendingOf→RH,wpS_bind→Px,wpS_pure→Qg,failedOf→TR,SortKind→Uy,IntsAre→QB,AllBare→TQ,NonIncK→UW,wpS_get→WC,SortSt→S2,Keyed→WB,IsTup→WE
open PySem.Builtin.Tuple renaming tupleCompareSizes→Vp,tupleItemsOf→S4,tupleIsExact→S5,tupleExact→Qj
open List.Nodup renaming length_le_of_subset→VG
open PySem.F renaming args_tuple_iterator_next_1→SL,entry_tuple_iterator_next→SY,slot_tuple_iterator_next→Qz,excBase_ValueError→S6,slot_list_getattribute→Q6,args_tuple_add_2→RL,slot_list_append→RN,type_list_append→RO,plainAttrs_list→PH,entry_tuple_add→RX,args_dict_get_2→TH,slot_tuple_add→R6,entry_dict_get→T4,slot_dict_get→Sf,typeOf_object_class→Sm,slot_enumerate_next→Uc,args_int_rmul_2→Vq,slot_tuple_rmul→Vs,slot_tuple_mul→TX,slot_int_index→V3,entry_int_rmul→V4,slot_int_rmul→SX,fills_int_mul→Wp,slot_gs_get→U5
open List renaming dropLast_concat_getLast→SN,getElem?_append_right→P5,getD_eq_getElem?_getD→Ta,nodup_iff_pairwise_ne→Tb,getElem?_eq_some_iff→Ol,getElem?_append_left→OW,drop_eq_getElem_cons→PP,pairwise_iff_getElem→Ti,getElem?_eq_getElem→OA,getElem?_replicate→Pk,getElem?_cons_succ→PK,getElem?_set_self→Oz,drop_eq_nil_of_le→R7,mem_append_right→ON,length_singleton→Pl,getElem?_eq_none→Si,length_filter_le→Sq,singleton_append→Ub,set_getElem_self→Ud,dropLast_eq_take→Uh,take_append_drop→Uj,mem_cons_of_mem→N8,getElem?_set_ne→Oy,mem_append_left→OL,mem_of_getElem?→QY,mem_of_mem_take→SG,mem_of_mem_drop→SH,mem_erase_of_ne→UC,pairwise_append→UD,filterMap_cons→PB,map_congr_left→PD,replicate_succ→Qb,getElem_of_mem→Qs,mergeSort_perm→RI,mem_map_of_mem→UO,drop_succ_cons→US,mem_cons_self→Oe,length_append→Oh,mem_singleton→Oi,contains_cons→Pt,mem_filterMap→Te,zip_cons_cons→Tf,size_toArray→Ov,getElem?_map→OH,append_assoc→O8,nodup_append→Pc,length_range→Qo,flatten_cons→Q3,flatMap_cons→RA,mapM_toArray→Vw,drop_sublist→Vy,pairwise_map→Vz,length_cons→Og,all_eq_true→OQ,lookup_cons→Pg,getElem_mem→Pp,not_mem_nil→PF,length_take→PQ,length_drop→QC,drop_length→Sx,getElem_map→Sy,any_eq_true→Sz,filter_cons→T1,mem_flatMap→T2,cons_append→V7,mem_reverse→V9,length_map→Oa,mem_append→Ox,append_nil→OS,length_set→OZ,nodup_cons→O4,map_append→Py,length_nil→Qr,nil_append→Q4,find?_cons→Q5,of_mem_zip→Ro,mem_filter→SW,all_append→S1,countP_map→Ue,range_succ→Uk,foldl_cons→Wo,forIn_cons→Wq,length_zip→Wu,idxOf_cons→Wv,replicate→OK,mem_range→PZ,nodup_nil→Rf,map_cons→Of,mem_cons→Oj,sum_cons→Ql,any_cons→Rb,all_cons→SJ,mem_map→OJ,map_map→RU,map_nil→Sh,toArray→VN,all_map→VO,set_set→VV,lookup→PR,length→QQ,range→PJ,Nodup→RQ,foldl→Tu,map→Wg
open PySem.Builtin.Slice renaming slicePartIndex→Wf,sliceApplied→S3,slicePlaces→QN,sliceAdjust→RF
open Array renaming getElem?_eq_some_iff→Pw,perm_iff_toList_perm→S9,length_toList→PC,find?_toList→U0,toList→T9
open PySem renaming wpAny_newFunctionEnv_cells→RE,wpAny_binaryOp_repeat_ref→Tj,wpAny_callSpecial?_slot→Qm,wpAny_Call_method_late→R8,wpAny_pyNext_list_item→T5,builtinLookup_eq_fast→QJ,codeAny_call_function→Ss,wpAny_pyNext_list_end→Uq,codeAny_handlers_test→Uv,codeAny_call_builtin→SI,wpAny_loadName_local→UE,wpAny_setFlight_none→UF,wpAny_pyIter_revIter→UG,mem_of_lookup→Qq,wpAny_isSubtype_exc→Qv,wpAny_loadName_cell→UT,wpAny_handleBy_cons→UX,wpAny_Call_Name_kw→Pv,tupleKind_room_in1→Rm,wpAny_pyIter_tuple→R3,wpAny_List_spliced→Vd,foldedSetIterable→O9,wpAny_loadPart_at→Ph,wpAny_truthy_bool→PY,wpAny_newObj_type→Qd,wpAny_pyIter_list→TC,wpAny_assign_Name→VA,wpAny_sequenceKey→VB,wpAny_pyIter_enum→VC,wpAny_call_entry→Rc,noFill_tuple_add→T3,seqSlot_of→V6,wpAny_eqBool_int→Wa,wpAny_execs_cons→Wb,lookupAlong_cons→Wc,checkBuiltinCall→Wd,wpAny_Try_except→We,wpAny_loadPart'→P4,wpAny_execs_nil→R0,letOwnedTupleGo→R1,typeLookup_type→R5,importedModules→Up,pushCells_keeps→Ut,codeAny_builtin→Uu,wpAny_passesOwn→Ww,wpAny_seqItems→UJ,wpAny_setField→UK,attributeBase→OR,behindInMarks→RD,wpAny_holding→R4,swapsWithSole→Va,swappedStores→Vb,seq_tuple_add→Vf,bootBuiltins→O6,codeAny_mono→Rr,wpAny_typeOf→Su,Within→VH,codeAny_func→VW,concat_meets→VX,mainGlobals→O5,excClassObj→PL,sizeLine_eq→Qk,wpAny_field→QU,keywordEach→QV,sliceBounds→Sb,subscripted→UV,lookupAlong→WA,wpAny_bind→Od,wpAny_pure→Ou,wpAny_mono→PX,assignEach→Qc,sysModules→RC,call_meets→RW,typeLookup→Sa,wpAny_rule→SQ,builtinsNs→Tz,wpAny_call→TF,typeIs_int→Ux,swapsWith→Pb,compareOp→Pe,cellsFrom→Q7,getMethod→Sr,tupleKind→TB,Arguments→Uo,pushCells→Us,treeTable→U8,noteFrame→Wz,starEach→Oq,FuncData→Pu,binaryOp→P6,boot_len→P7,NameKind→RB,backToKw→Se,callWith→TU,GenState→U9,bindArgs→Ve,Operator→Wh,Program→OM,OsState→SC,BindsTo→Ur,Keyword→Wx,Shared→Ob,Around→OY,Result→Vc,IsPart→Vg,Paired→WI,Value→N9,World→Pm,Scope→RZ,Drawn→WG,Model→WH,CmpOp→WJ
open PySem.Calls renaming Name_function_global→S8,callWith_builtin→Qx,evalArgs_plain→QZ,spliced_cons→Rk,Constant_str→UZ,spliced_nil→Rt
open PySem.Builtin.SmallTypes renaming nextOf→QP
open PySem.Builtin.List renaming listTooLong→Q0
open Int renaming eq_ofNat_of_zero_le→OP,emod_lt_of_pos→Tg,toNat_natCast→Qa,emod_nonneg→Um,le_refl→UP
open PySem.Builtin.Dict renaming updateFrom→TJ
open PySem.Heap renaming get?_push_of_some→Om,get?_update_other→Ri,get?_update_self→Sj,get?_push_size→OI,get?_update_ne→UR,get?_push_ne→Tx,size_update→TZ,NewAttrErr→Ws,size_push→Qn,lt_size→Os,SameBut→RP
open Option renaming map_eq_some_iff→Qy,isSome_some→U3,isSome_map→Vt,getD_none→V2,some→Pf
open PySem.W renaming cellsFrom_some→Rh,methodCall_KW→Sg,hideAll_none→SD,hideAll_get→Q9,plainGet_of→SS,callWith_K0→UM,callWith_K→QD,of_hideAll→Tc,codeRec_of→Td,emptyDict→PU,methodObj→To,hasDictIn→Tq,plainOver→Vm,kitx_list→Vn,kitx_dict→Vo,plainGet→Sw,openSeen→VY,openGood→VZ,handedIn→V0,kia_one→PN,instObj→Qp,topFrom→SR,hideAll→T7,takerIn→T8,makesIn→Wi,findIn→Qe,keepIn→QK,lookIn→Th,codeIn→UH,mg_of→RY,Frag→N7,fnOf→RJ,nsIn→RM,isFn→VF
open PySem.Obj renaming isFreed_of_fields→Sk,data_mapFields→QH,mapFields→SM,mapSeq→SO
open Bool renaming beq_eq_decide_eq→Ui,and_eq_false_iff→Ul,and_eq_true_iff→Po,or_eq_false_iff→UB,false_ne_true→OB,false_eq_true→QF,not_eq_true'→Vx,and_eq_true→Oc,eq_iff_iff→Rn,or_eq_true→Wr,and_false→Re,false_and→RG,true_and→Ry,or_false→U1,false_or→U4,and_true→U7,or_true→VQ,true_or→VR
open Nat renaming le_sub_one_of_lt→SE,sub_one_lt_of_lt→SF,lt_of_lt_of_le→Oo,lt_of_le_of_lt→Rl,le_of_lt_succ→Rv,le_of_succ_le→R9,lt_succ_of_lt→Tv,lt_trichotomy→Vv,max_eq_right→SB,lt_succ_self→TV,succ_le_succ→TY,le_of_not_lt→V5,mod_eq_of_lt→V8,le_antisymm→Ug,not_lt_zero→Wt,mul_le_mul→UI,lt_irrefl→OU,le_trans→OV,ne_of_lt→Pj,le_of_lt→Qi,ne_of_gt→Q8,le_of_eq→RS,sub_zero→RT,lt_or_ge→RV,sub_self→Sn,lt_trans→Ua,add_comm→VL,mul_comm→VM,min_self→VP,zero_add→VS,le_refl→On,zero_le→Pn,sub_le→Vu
open PySem.Value renaming notImplemented→Uz,builtin→Ru,float→Wl,none→O7,bool→Pz,type→Q1,ref→OF,int→PV,str→P8
open PySem.Around renaming under_plainId→UA,units→So,under→VI
open PySem.Heap.SameBut renaming update→UL
open PyProof.Rows.KeyOrd renaming kle_antisymm→UQ,kle_of_klt→Tw,kle_trans→SA,kle_refl→Rq
open List.Pairwise renaming nil→Ts
open Option.some renaming injEq→Tt,inj→O0
open PySem.P renaming add_list→V1
open ForInStep renaming yield→Rp
open PySem.Expr renaming Attribute→Rg,Subscript→Sd,ListComp→Rw,Constant→TM,Compare→VT,UnaryOp→VU,BoolOp→QR,Name→Pa,Call→Qu
open PySem.NameKind renaming free→Pd,cell→P3
open Prod.mk renaming injEq→TK,inj→Wj
open PySem.Paired renaming length→TL
open PySem.Value.ref renaming inj→UY
open PySem.Str renaming ofString→Ot
open PySem.Code renaming isFrame→VJ
open PySem.Scope renaming names→SZ
open PySem.Stmt renaming Assign→S0
open PySem.Pos renaming endLine→TN,line→Rx
open PySem.Data renaming fields→Wm
open False renaming elim→PM
open True renaming intro→Q2
open PySem.BoolOp renaming And→Uw,Or→U6
open PySem.Env renaming scope→Qt
open PyProof.Rows.IsTup renaming new→Wn
open Ne renaming symm→Ra
open Iff renaming rfl→Rj
open Sum renaming inl→SU,inr→UN
open Prod renaming mk→Vr
open Option renaming some→ZA,none→ZB
open Bool renaming true→ZC,false→ZD
open PySem renaming Addr→ZE,Stmt→ZF,Expr→ZG,Heap→ZH,sizeLine→ZI,wpAny→ZJ,model→ZK,codeAny→ZL
set_option Elab.async false
set_option compiler.extract_closed false
set_option bootstrap.genMatcherCode false
set_option genSizeOf false
set_option compiler.reuse false
set_option linter.all false
set_option maxRecDepth 100000
set_option maxHeartbeats 8000000
abbrev W0:=PySem.Str->Option N9
abbrev W1:=N9->Ob->Prop
abbrev W2:=List (PySem.Addr×PySem.Obj)
variable{A:OY}{E Q:W1}{K:N7}{M:WH}{P prog:OM}{R:Vc->Ob->Prop}{bm bmE bs' its sub' tl us vs:List N9}{d d':WG}{f ux v vl vu:N9}{fd:Pu}{k0:Uy}{k1 k2 k3 k5 y:Option N9}{op:WJ}{os:SC}{s s':Ob}{sc scope:RZ}{st:S2}{w:Pm}
noncomputable section
abbrev nDb(x:PySem.Str):Prop:=(x == PySem.Str.ofString "__debug__")=ZD
def qr_(h:True:=by first|exact .inl rfl|exact .inr rfl|assumption):True:=trivial
def r_:=qr_._auto_1
def qs_(h:True:=by decide):True:=trivial
def s_:=qs_._auto_1
def qt_(h:True:=by intro _;rfl):True:=trivial
def t_:=qt_._auto_1
def qu_(h:True:=by rfl):True:=trivial
def u_:=qu_._auto_1
def qv_(h:True:=by first|exact Or.inl rfl|exact Or.inr (Or.inl rfl)|exact Or.inr (Or.inr rfl)):True:=trivial
def v_:=qv_._auto_1
def qw_(h:True:=by with_unfolding_all rfl):True:=trivial
def w_:=qw_._auto_1
def qx_(h:True:=by intro _ _;rfl):True:=trivial
def x_:=qx_._auto_1
def qy_(h:True:=by first|exact Or.inl rfl|exact Or.inr rfl):True:=trivial
def y_:=qy_._auto_1
def qz_(h:True:=by decide+kernel):True:=trivial
def z_:=qz_._auto_1
def qa_(h:True:=by exact fsc):True:=trivial
def a_:=qa_._auto_1
namespace L2
open PySem PySem.Spec PyProof.Rows
inductive V where
 |non|bl (b:Bool)|int (i:Int)|str (x:Str)|byt (b:Array UInt8)|flt (b:UInt64)|ref (a:ZE)|ty (n:String)
 deriving DecidableEq
noncomputable def cP(s:ZF)(j:Nat):ZF:=match s with
 |.ClassDef _ _ _ body _ _ _ _ _ _ _=>body.getD j (.Pass ⟨0,0,0,0⟩)
 |_=>.Pass ⟨0,0,0,0⟩
noncomputable def fy(s:ZF):Uo:=match s with
 |.FunctionDef _ a _ _ _ _ _ _ _ _=>a
 |_=>{posonlyargs:=[],args:=[],vararg:=ZB,kwonlyargs:=[],kw_defaults:=[],kwarg:=ZB,defaults:=[]}
noncomputable def bD(s:ZF):List ZF:=match s with
 |.FunctionDef _ _ b _ _ _ _ _ _ _=>b
 |_=>[]
noncomputable def ao(s:ZF):RZ:=match s with
 |.FunctionDef _ _ _ _ _ _ sc _ _ _=>sc
 |_=>{kind:=.function,names:=[],isGenerator:=ZD,isCoroutine:=ZD}
end L2
namespace Tr
open PySem PySem.Spec PyProof.Rows L2
inductive T where
 |non|bl (b:Bool)|int (i:Int)|str (x:Str)|tup (l:List T)|lst (l:List T)
 /-- the law's script: a list of ints that is only read -/
 |scr (l:List Int)
 /-- a dict: its keys,its values -/
 |dct (ks vs:List T)
 /-- an instance: its class,the names of its attributes,what they are -/
 |ob (C:Str) (ns:List Str) (ts:List T)
inductive OT where
 |lst (l:List T)|dct (ks ts:List T)|dd (ks:List T) (rows:List (List T×List T))
 /-- an instance,its attributes own lists -/
 |ob (C:Str) (ns:List Str) (ls:List (List T))
 /-- a list of own lists -/
 |ll (ls:List (List T))
noncomputable def OT.view:OT->T
 |.lst l=>.lst l
 |.dct ks ts=>.dct ks ts
 |.dd ks rows=>.dct ks (rows.map λr=>.dct r.1 r.2)
 |.ob C ns ls=>.ob C ns (ls.map T.lst)
 |.ll ls=>.lst (ls.map T.lst)
noncomputable def calmNames:List Str:=["__init__","__getattribute__","__getattr__","__class__"]
noncomputable def BA:N9->Bool
 |.str _ _=>ZC
 |_=>ZD
noncomputable def cj:List Int->List Int->Bool
 |[],[] =>ZD
 |[],_::_=>ZC
 |_::_,[] =>ZD
 |a::l,b::m=>if a=b then cj l m else decide (a<b)
structure RK where
 V:ZH->N9->List Int->Prop
 inj:∀{h v a b},V h v a->V h v b->a=b
 on:∀{h h':ZH} {v a},V h v a->(∀b o,h.get? b=ZA o->h'.get? b=ZA o)->V h' v a
 fst:∀{h v a},V h v a->∃ad xs n o m t,v=.ref ad/\h.get? ad=ZA o/\o.cls=.type "tuple"/\o.data=.seq xs n/\xs[0]?=ZA (.int m t)
 lt:∀{prog w A s E x y a b} {Q:Bool->Ob->Prop},A.units+60<cLine->V s.heap x a->V s.heap y b->Q (cj a b) s->ZJ (ZK prog w) A (keyLt' (tuples' ZC) x y) Q E s
variable (R:RK)
open Classical in
def RK.key(h:ZH)(v:N9):Option (List Int):=if e:∃ns,R.V h v ns then ZA e.choose else ZB
variable {R:RK}
end Tr
namespace Tr
open PySem PySem.Spec PyProof.Rows L2 PySem.W
noncomputable def vQ(h:ZH):Frag:=(PJ h.objs.size).filterMap λa=>(h.get? a).map λo=>(a,o)
noncomputable def obF(K:Frag)(n:Str):Option (Str×Str×Uo×FuncBody×RZ×ZE×List (Str×ZE)×N9×ZE×Bool×Bool):=match nsIn K O5 n with
 |some (ZA (.ref f))=>match K.lookup f with
  |some ⟨_,_,.func d,_⟩=>ZA (d.name,d.qualname,d.params,d.body,d.scope,d.globals,d.closure,d.defaults,d.builtins,codeIn K d.code n,keepIn K (.ref f))
  |_=>ZB
 |_=>ZB
noncomputable def exF(n:Str)(st:ZF):Option (Str×Str×Uo×FuncBody×RZ×ZE×List (Str×ZE)×N9×ZE×Bool×Bool):=
 ZA (n,n,fy st,.stmts (bD st),ao st,O5,[],.none,Tz,ZC,ZC)
noncomputable def LM(K:Frag)(N:ZE)(n:Str):Bool:=match nsIn K N n with|some ZB=>ZC|_=>ZD
noncomputable def M0(K:Frag)(n:Str):Option Int:=match nsIn K O5 n with|some (ZA (.int i _))=>ZA i|_=>ZB
noncomputable def yB:List N9->Bool
 |[.type a,.type b,.type c,.type d] =>a == "ValueError" &&b == "Exception" &&c == "BaseException" &&d == "object"
 |_=>ZD
noncomputable def under(D:Option ZE)(m:List N9):Bool:=match D with
 |none=>yB m
 |some D=>match m with
  |.ref E::m=>E == D&&yB m
  |_=>ZD
noncomputable def FV(K:Frag)(D:Option ZE)(n:Str):Option ZE:=match nsIn K O5 n with
 |some (ZA (.ref C))=>match K.lookup C with
  |some ⟨.type t,_,.cls c,⟨[_,_,_,_,ZA (.builtin b),_]⟩⟩=>match c.mro,K.lookup c.ns with
   |.ref E::m,ZA ⟨_,_,.dict es _,_⟩=>
    if (t == "type" &&b == "ValueError.__new__" && !c.hasDel&&(es.toList.all λe=>BA e.key)&&calmNames.all (LM K c.ns)&&E == C&&under D m)=ZC then ZA C else ZB
   |_,_=>ZB
  |_=>ZB
 |_=>ZB
noncomputable def yc{α:Type}:List (Option α)->Option (List α)
 |[] =>ZA []
 |none::_=>ZB
 |some a::r=>match yc r with|some l=>ZA (a::l)|none=>ZB
noncomputable def tN:List ZE->Bool
 |[] =>ZC
 |a::r=>(r.all λb=>!(a == b))&&tN r
noncomputable def MY(K:Frag):List Str->Bool
 |[] =>ZC
 |m::es=>match FV K ZB m with
  |some D=>match yc (es.map (FV K (ZA D)))with|some l=>tN (l++[D])|none=>ZD
  |none=>ZD
structure Ba where
 tab:List (Str×Nat)
 zs:List Str
 cs:List (Str×Int)
 es:List Str
noncomputable def tL(S:Ba)(K:Frag):=(S.tab.map (λp=>obF K p.1),S.zs.all (LM K O5),S.cs.map (λc=>M0 K c.1),MY K S.es)
noncomputable def si(S:Ba)(top:Nat->ZF):=(S.tab.map (λp=>exF p.1 (top p.2)),ZC,S.cs.map (λc=>ZA c.2),ZC)
noncomputable def LN(K:Frag)(C:ZE)(m q:Str):Option (Str×Str×Uo×FuncBody×RZ×ZE×List (Str×ZE)×N9×ZE×Bool×Bool×Bool):=match findIn K (.ref C) m with
 |some (ZA (.ref f))=>match K.lookup f with
  |some ⟨_,_,.func d,_⟩=>ZA (d.name,d.qualname,d.params,d.body,d.scope,d.globals,d.closure,d.defaults,d.builtins,codeIn K d.code q,keepIn K (.ref f),isFn K (.ref f))
  |_=>ZB
 |_=>ZB
noncomputable def ME(m q:Str)(st:ZF):Option (Str×Str×Uo×FuncBody×RZ×ZE×List (Str×ZE)×N9×ZE×Bool×Bool×Bool):=
 ZA (m,q,fy st,.stmts (bD st),ao st,O5,[],.none,Tz,ZC,ZC,ZC)
noncomputable def Jv(K:Frag)(C:ZE)(f:Str):Bool:=match findIn K (.ref C) f with|some ZB=>ZC|_=>ZD
noncomputable def Ie(K:Frag)(C:ZE):Bool:=match findIn K (.ref C) "__setattr__" with|some (ZA (.builtin b))=>b == "object.__setattr__" |_=>ZD
noncomputable def HA(K:Frag)(C:ZE)(as:List Str):Bool:=plainGet K C Str.empty&&hasDictIn K C&&plainOver K C&&Ie K C&&makesIn K C&&keepIn K (.ref C)&&as.all (Jv K C)
structure G1 where
 c:Str
 i:Nat
 as:List Str
 ms:List (Str×Str×Nat)
noncomputable def MZ(K:Frag)(A:G1):=match nsIn K O5 A.c with
 |some (ZA (.ref C))=>ZA (HA K C A.as,A.ms.map λ(m:Str×Str×Nat)=>LN K C m.1 m.2.1)
 |_=>ZB
noncomputable def M6(top:Nat->ZF)(A:G1):=ZA (ZC,A.ms.map λ(m:Str×Str×Nat)=>ME m.1 m.2.1 (cP (top A.i) m.2.2))
structure wC where
 a:Ba
 ks:List G1
noncomputable def Ck(S:wC)(K:Frag):=(tL S.a K,S.ks.map (MZ K))
noncomputable def Bt(S:wC)(top:Nat->ZF):=(si S.a top,S.ks.map (M6 top))
end Tr
namespace G
open PySem PySem.Spec PyProof.Rows L2 Tr
noncomputable def top(i:Nat):ZF:=OG.main.body.getD i (.Pass ⟨0,0,0,0⟩)
noncomputable def DW:Ba:=⟨([("is_long",17),("is_whole",15),("is_within",16),("is_pace",20),("rises",18),("are_readings",19),("is_clock",21),("are_clocks",22),("is_event",23),("is_delay",24),("is_letter",25),("are_letters",26),("is_record",27),("need_record",28),("_law_cell",69)]:List (Str×Nat))++([("_law_drawn",70),("_law_events",73),("_law_letter",72),("_law_clock",71),("_law_record",74),("events",31),("is_better",49),("settle",48),("greatest_world",51),("bounds_of_clock",44),("bounds_of_letter",45),("bounds",46),("world",52),("has_world",53),("need_event",29)]:List (Str×Nat))++([("known_at_once",33),("knows",34),("stamp",35),("unknown_pairs",36),("need_number",30),("need_world",54),("need_events",58),("most_of",60),("walks_from",59),("most_between",61),("least_between",62),("span_between",64),("spans",65),("narrowed_letter",66),("narrowed",67)]:List (Str×Nat))++([("_law_told",76),("without_letter",40),("if_record",38),("with_clock",41),("with_reading",42),("with_letter",39),("_law_step",75),("_law_refuses",77),("law",78)]:List (Str×Nat)),(["ValueError","all","bool","dict","enumerate","int","isinstance","len","list","min","range","reversed","sorted","tuple"]:List Str),[("MOST_CLOCKS",4),("MOST_LETTERS",8),("MOST_READINGS",4),("LAST_READING",99),("SLOWEST",9),("LONGEST",999)],["ClockError","NoRecord","NoEvent","NoNumber","NoWorld","Nothing"]⟩
noncomputable def asks:wC:=⟨DW,[⟨"Sketch",56,["past","ahead"],[("__init__","Sketch.__init__",0),("record","Sketch.record",1),("good","Sketch.good",6),("counts","Sketch.counts",9),("go_on","Sketch.go_on",2),("cut","Sketch.cut",5),("read","Sketch.read",4),("write","Sketch.write",3),("forth","Sketch.forth",8)]⟩]⟩
noncomputable def vw:OM:=PySem.W.view OG [78]
noncomputable def lse:List Str:=(["_wall","ClockError","NoRecord","NoEvent","NoNumber","NoWorld","Nothing","MOST_CLOCKS","MOST_LETTERS","MOST_READINGS","LAST_READING","SLOWEST","LONGEST","is_whole","is_within","is_long","rises","are_readings","is_pace","is_clock"]:List Str)++(["are_clocks","is_event","is_delay","is_letter","are_letters","is_record","need_record","need_event","need_number","events","known_at_once","knows","stamp","unknown_pairs","if_record","with_letter","without_letter","with_clock","with_reading","bounds_of_clock"]:List Str)++(["bounds_of_letter","bounds","settle","is_better","greatest_world","world","has_world","need_world","Sketch","need_events","walks_from","most_of","most_between","least_between","span_between","spans","narrowed_letter","narrowed","_law_cell","_law_drawn"]:List Str)++(["_law_clock","_law_letter","_law_events","_law_record","_law_step","_law_told","_law_refuses"]:List Str)
noncomputable def lhs(w:Pm)(h:ZH)(d:WG)(t:Nat)(os:SC):=(SR U8 OG w 9000 ⟨h,⟨[]⟩,d,t,os⟩).map (λs=>(VY vw lse (Up OG.main.body) (λ_=>ZC) ZC s,Ck asks (vQ s.heap)))
noncomputable def rhs(w:Pm):=ZA (VZ vw lse,Bt asks top)
open PySem.W
noncomputable def lhA(w:Pm)(h:ZH)(d:WG)(t:Nat)(os:SC):=(SR U8 OG w 9000 ⟨h,⟨[]⟩,d,t,os⟩).map λs=>VY vw lse (Up OG.main.body) (λ_=>ZC) ZC s
noncomputable def rhA(_:Pm):=ZA (VZ vw lse)
def lhA_r:lhA=lhA:=rfl
def rhA_r:rhA=rhA:=rfl
noncomputable def lhB(w:Pm)(h:ZH)(d:WG)(t:Nat)(os:SC):=(SR U8 OG w 9000 ⟨h,⟨[]⟩,d,t,os⟩).map λs=>tL asks.a (vQ s.heap)
noncomputable def rhB(_:Pm):=ZA (si asks.a top)
def lhB_r:lhB=lhB:=rfl
def rhB_r:rhB=rhB:=rfl
noncomputable def lhC(w:Pm)(h:ZH)(d:WG)(t:Nat)(os:SC):=(SR U8 OG w 9000 ⟨h,⟨[]⟩,d,t,os⟩).map λs=>asks.ks.map (MZ (vQ s.heap))
noncomputable def rhC(_:Pm):=ZA (asks.ks.map (M6 top))
def lhC_r:lhC=lhC:=rfl
def rhC_r:rhC=rhC:=rfl
def join3{γ δ:Type}{o:Option α}{f:α->β}{g:α->γ}{k:α->δ}{a:β}{b:γ}{c:δ}(h1:o.map f=ZA a)(h2:o.map g=ZA b)(h3:o.map k=ZA c):o.map (λs=>(f s,g s,k s))=ZA (a,b,c):=by
 cases o with
 |none=>cases h1
 |some s=>cases h1;cases h2;cases h3;rfl
end G
lay_quick G.lhA G.rhA G.lhB G.rhB G.lhC G.rhC
name_quick lhAz for G.lhA by G.lhA_r
name_quick rhAz for G.rhA by G.rhA_r
name_quick lhBz for G.lhB by G.lhB_r
name_quick rhBz for G.rhB by G.rhB_r
name_quick lhCz for G.lhC by G.lhC_r
name_quick rhCz for G.rhC by G.rhC_r
section
open PySem PySem.W PyProof.Rows
set_option maxRecDepth 100000 in
theorem G.NY(w:Pm)(os:SC):PySem.W.Fast.lhAz w (boot_heap w.params) boot_drawn boot_toks os=PySem.W.Fast.rhAz w:=by kernel_rfl
set_option maxRecDepth 100000 in
theorem G.NS(w:Pm)(os:SC):PySem.W.Fast.lhBz w (boot_heap w.params) boot_drawn boot_toks os=PySem.W.Fast.rhBz w:=by kernel_rfl
set_option maxRecDepth 100000 in
theorem G.N1(w:Pm)(os:SC):PySem.W.Fast.lhCz w (boot_heap w.params) boot_drawn boot_toks os=PySem.W.Fast.rhCz w:=by kernel_rfl
def G.NR(w:Pm)(os:SC):G.lhs w (boot_heap w.params) boot_drawn boot_toks os=G.rhs w:=G.join3 (((congrFun (congrFun (congrFun (congrFun (congrFun PySem.W.Fast.lhAz_eq w) _) _) _) os).trans (G.NY w os)).trans (congrFun PySem.W.Fast.rhAz_eq w).symm) (((congrFun (congrFun (congrFun (congrFun (congrFun PySem.W.Fast.lhBz_eq w) _) _) _) os).trans (G.NS w os)).trans (congrFun PySem.W.Fast.rhBz_eq w).symm) (((congrFun (congrFun (congrFun (congrFun (congrFun PySem.W.Fast.lhCz_eq w) _) _) _) os).trans (G.N1 w os)).trans (congrFun PySem.W.Fast.rhCz_eq w).symm)
end
namespace L2
open PySem PySem.Spec PyProof.Rows
abbrev Key:=Sum Int Str
noncomputable def rn:Key->N9->Bool
 |.inl k,v=>Value.isInt k v
 |.inr x,v=>Value.isStrOf x v
noncomputable def keyH(w:Pm):Key->Int
 |.inl k=>hashInt k
 |.inr x=>hashStr w x
theorem cG:∀{k:Key}{v:N9},rn k v=ZC->(∃i t,k=SU i/\v=PV i t)\/(∃x t,k=UN x/\v=P8 x t)
 |.inl i,v,h=>by obtain⟨t,e⟩:=Value.isInt_shape (k:=i) (v:=v) h;exact .inl ⟨i,t,rfl,e⟩
 |.inr x,v,h=>by obtain⟨t,e⟩:=Value.isStrOf_shape (x:=x) (v:=v) h;exact .inr ⟨x,t,rfl,e⟩
def AL(i:Int)(t:Tok):rn (.inl i) (.int i t)=ZC:=by simp[rn,Value.isInt]
def AK(x:Str)(t:Tok):rn (.inr x) (.str x t)=ZC:=by simp[rn,Value.isStrOf]
def JL(a b:Int):decide ((SU a:Key)=SU b)=(a == b):=by
 by_cases e:a=b
 .subst e;simp
 .have h:¬ (SU a:Key)=SU b:=λq=>e (SU.inj q);rw[decide_eq_false h];exact(beq_eq_false_iff_ne.mpr e).symm
def JI(a b:Str):decide ((UN a:Key)=UN b)=decide (a=b):=by
 by_cases e:a=b
 .subst e;simp
 .have h:¬ (UN a:Key)=UN b:=λq=>e (UN.inj q);rw[decide_eq_false h,decide_eq_false e]
def JK(a:Int)(b:Str):decide ((SU a:Key)=UN b)=ZD:=decide_eq_false (λq=>nomatch q)
def JJ(a:Str)(b:Int):decide ((UN a:Key)=SU b)=ZD:=decide_eq_false (λq=>nomatch q)
noncomputable def cO(prog:OM)(w:Pm):PySem.KeyKind prog w Key where
 is:=rn
 hash:=keyH w
 inj:=λv a b ha hb=>by
  rcases cG ha with⟨i,t,rfl,rfl⟩|⟨x,t,rfl,rfl⟩
  .rcases cG hb with⟨j,u,rfl,e⟩|⟨y,u,rfl,e⟩
   .injection e with e1 _;rw[e1]
   .exact nomatch e
  .rcases cG hb with⟨j,u,rfl,e⟩|⟨y,u,rfl,e⟩
   .exact nomatch e
   .injection e with e1 _;rw[e1]
 byValue:=λk v h=>by rcases cG h with⟨i,t,rfl,rfl⟩|⟨x,t,rfl,rfl⟩ <;> rfl
 pyHash:=λhv h=>by
  rcases cG hv with⟨i,t,rfl,rfl⟩|⟨x,t,rfl,rfl⟩
  .exact wpAny_pyHash_int h
  .exact wpAny_pyHash_str h
 eqBool:=λhu hv h=>by
  rcases cG hu with⟨i,t,rfl,rfl⟩|⟨x,t,rfl,rfl⟩
  .rcases cG hv with⟨j,u,rfl,rfl⟩|⟨y,u,rfl,rfl⟩
   .rw[JL]at h;exact Wa h
   .rw[JK]at h;exact SeqAt.EqAt.int_str i t y u _ _ _ _ h
  .rcases cG hv with⟨j,u,rfl,rfl⟩|⟨y,u,rfl,rfl⟩
   .rw[JJ]at h;exact SeqAt.EqAt.str_int x t j u _ _ _ _ h
   .rw[JI]at h;exact wpAny_eqBool_str h
 «strs»:=λk x t v h=>by
  rcases cG h with⟨i,u,rfl,e⟩|⟨y,u,rfl,e⟩
  .exact nomatch e
  .injection e with e1 _;subst e1;cases v <;> rfl
def vA(prog:OM)(w:Pm)(i:Int)(t:Tok):(cO prog w).is (.inl i) (.int i t)=ZC:=AL i t
def vz(prog:OM)(w:Pm)(x:Str)(t:Tok):(cO prog w).is (.inr x) (.str x t)=ZC:=AK x t
def RelV:V->N9->Prop
 |.non,u=>u=O7
 |.bl b,u=>u=Pz b
 |.int i,u=>∃t,u=PV i t
 |.str x,u=>∃t,u=P8 x t
 |.byt b,u=>∃t,u=Value.bytes b t
 |.flt b,u=>∃t,u=Wl b t
 |.ref a,u=>u=OF a
 |.ty n,u=>u=Q1 n
abbrev Vals:List V->List N9->Prop:=WI RelV
variable{xs:List V}
def Vals.length(r:Vals xs us):xs.length=us.length:=TL r
theorem Vals.get:∀{xs:List V}{us:List N9}{i:Nat}{x:V},Vals xs us->xs[i]?=ZA x->∃u,us[i]?=ZA u/\RelV x u
 |_,_,_,_,.nil,e=>by simp at e
 |_,_,0,_,.cons r _,e=>by simp at e;subst e;exact⟨_,rfl,r⟩
 |_,_,i+1,x,.cons _ t,e=>by obtain⟨u,h1,h2⟩:=Vals.get (i:=i) (x:=x) t (by simpa using e);exact⟨u,by simpa using h1,h2⟩
def Vals.append:∀{xs ys:List V}{us ws:List N9},Vals xs us->Vals ys ws->Vals (xs++ys) (us++ws):=by
 intro xs ys us ws h s;induction h with
 |nil=>exact s
 |cons r t i=>exact .cons r i
theorem Vals.take:∀{xs:List V}{us:List N9}(n:Nat),Vals xs us->Vals (xs.take n) (us.take n)
 |_,_,0,_=>.nil
 |_,_,_+1,.nil=>.nil
 |_,_,n+1,.cons r t=>.cons r (Vals.take n t)
theorem Vals.drop:∀{xs:List V}{us:List N9}(n:Nat),Vals xs us->Vals (xs.drop n) (us.drop n)
 |_,_,0,r=>r
 |_,_,_+1,.nil=>.nil
 |_,_,n+1,.cons _ t=>Vals.drop n t
def RelO:Option V->Option N9->Prop
 |some v,ZA u=>RelV v u
 |none,ZB=>True
 |_,_=>False
def KV{κ:Type}:List (κ×V)->List (κ×N9)->Prop:=WI λ(p:κ×V)(q:κ×N9)=>p.1=q.1/\RelV p.2 q.2
noncomputable def kV:Key->V
 |.inl i=>.int i
 |.inr x=>.str x
inductive HO where
 /-- a list -/
 |lst (xs:List V)
 /-- a tuple (never changes) -/
 |tup (xs:List V)
 /-- a dict whose keys are ints and texts;one whose keys are tuples of ints and texts (the empty one is both) -/
 |dK (kvs:List (Key×V))|dT (kvs:List (List Key×V))
 /-- a set of ints: its members,its size -/
 |set (S:Int->Bool) (n:Nat)
 /-- an instance of the class at C,its dict at dx,its attributes -/
 |ins (C dx:ZE) (fs:List (Str×V))
 /-- the dict of the instance at x -/
 |own (x:ZE)
 /-- the dict of an exception -/
 |xd (fs:List (Str×V))
 /-- a bound method,f of x -/
 |met (f x:ZE)
 /-- a range object lo,lo+1,.. below hi -/
 |rng (lo hi:Int)
 /-- a thing that is known to the object (the script;a dict while a loop walks it): read,never written while it is so -/
 |frz (o:Obj) (u:HO)
 /-- a code object's table -/
 |tbl (ps:Array N9)
 /-- any other thing,by what is ZC of its one object (a def of one's own: SetO a S n:=HO.ext λh=>..) -/
 |ext (φ:ZH->Prop)
abbrev Hp:=ZE->Option HO
noncomputable def upd(H:Hp)(a:ZE)(o:HO):Hp:=λb=>if b=a then ZA o else H b
variable{H:Hp}{a:ZE}
def aM{o:HO}:upd H a o a=ZA o:=by unfold upd;rw[if_pos rfl]
variable{b:ZE}
def aI{o:HO}(h:b≠a):upd H a o b=H b:=by unfold upd;rw[if_neg h]
def sj{o u:HO}:upd (upd H a o) a u=upd H a u:=by funext b;unfold upd;split <;> rfl
def pz{o u:HO}(h:H a=ZA o)(h':H b=ZA u)(d:o≠u):a≠b:=by intro e;subst e;rw[h]at h';exact d (O0 h')
def b9{o:HO}(h:H a=ZA o)(h':H b=ZB):a≠b:=by intro e;subst e;rw[h]at h';cases h'
section
variable (P:OM)(w:Pm)
def ObjOk(H:Hp)(h:ZH)(a:ZE):HO->Prop
 |.lst xs=>xs.length<=ZI/\∃(its:List N9)(n:Nat),Vals xs its/\h.get? a=ZA {cls:=.type "list",data:=.seq its.toArray n}
 |.tup xs=>xs.length<=ZI/\∃its:List N9,Vals xs its/\WE h a its.toArray
 |.dK kvs=>kvs.length<=ZI/\(a == RC)=ZD/\∃vs,KV kvs vs/\h.DictOf (cO P w) a vs
 |.dT kvs=>kvs.length<=ZI/\(a == RC)=ZD/\∃xs:List (List Key×ZE×N9),
   WI (λ(p:List Key×V)(q:List Key×ZE×N9)=>p.1=q.1/\H q.2.1=ZA (.tup (p.1.map kV))/\RelV p.2 q.2.2) kvs xs ∧
   ∃o es ep,h.get? a=ZA o/\o.ExactDict/\o.data=.dict es ep/\es.toList=xs.map (entryOfKey (TB (cO P w)))/\(xs.map (·.1)).Nodup
 |.set S n=>h.SetOf (intKind P w) a S n
 |.ins C dx fs=>H dx=ZA (.own a)/\fs.length<=1000/\dx≠a/\h.get? a=ZA (Qp C dx) ∧
   ∃mA,h.Ns1 dx mA/\(∀f,RelO (fs.lookup f) (mA f))/\VH mA (fs.map (·.1))
 |.own _=>∃o,h.get? a=ZA o
 |.xd fs=>∃mA,h.Ns1 a mA/\∀f,RelO (fs.lookup f) (mA f)
 |.rng lo hi=>∃t u v,h.get? a=ZA {cls:=.type "range",data:=.fields #[.int lo t,.int hi u,.int 1 v]}
 |.frz o u=>h.get? a=ZA o/\ObjOk H h a u
 |.tbl ps=>h.get? a=ZA {cls:=.none,data:=.fields ps}
 |.met f x=>h.get? a=ZA (To (.ref f) (.ref x))
 |.ext φ=>φ h/\(∃o,h.get? a=ZA o)/\∀h1 h2:ZH,φ h1->(∀o,h1.get? a=ZA o->h2.get? a=ZA o)->φ h2
def HOk(H:Hp)(h:ZH):Prop:=∀a o,H a=ZA o->ObjOk P w H h a o
end
variable{H':Hp}{h h':ZH}
section
variable {o:HO}
theorem ObjOk.lt(x:ObjOk P w H h a o):a<h.objs.size:=by
 cases o with
 |lst xs=>obtain⟨_,_,_,_,e⟩:=x;exact Os e
 |tup xs=>obtain⟨_,_,_,p⟩:=x;exact p.lt
 |dK kvs=>obtain⟨_,_,_,_,o,_,_,e,_⟩:=x;exact Os e
 |dT kvs=>obtain⟨_,_,_,_,o,_,_,e,_⟩:=x;exact Os e
 |set S n=>obtain⟨o,_,_,_,e,_⟩:=x;exact Os e
 |ins C dx fs=>obtain⟨_,_,_,e,_⟩:=x;exact Os e
 |own y=>obtain⟨_,e⟩:=x;exact Os e
 |xd fs=>obtain⟨_,⟨_,_,_,e,_⟩,_⟩:=x;exact Os e
 |rng lo hi=>obtain⟨_,_,_,e⟩:=x;exact Os e
 |frz ob u=>obtain⟨e,_⟩:=x;exact Os e
 |tbl ps=>exact Os (show h.get? a=ZA _ from x)
 |met f y=>exact Os (show h.get? a=ZA _ from x)
 |ext φ=>obtain⟨_,⟨_,e⟩,_⟩:=x;exact Os e
theorem Paired.NM{F G:α->β->Prop}:∀{l₁:List α}{l₂:List β},WI F l₁ l₂->(∀a b,F a b->G a b)->WI G l₁ l₂
 |_,_,.nil,_=>.nil
 |_,_,.cons r t,f=>.cons (f _ _ r) (Paired.NM t f)
def ObjOk.Nk(x:ObjOk P w H h a o)(k:∀b u,(b=a\/H b=ZA (.own a))->h.get? b=ZA u->h'.get? b=ZA u)
  (ho:∀b,H b=ZA (.own a)->H' b=ZA (.own a)) (ht:∀b xs,H b=ZA (.tup xs)->H' b=ZA (.tup xs)):ObjOk P w H' h' a o:=by
 induction o with
 |lst xs=>obtain⟨z,its,n,r,e⟩:=x;exact⟨z,its,n,r,k _ _ (.inl rfl) e⟩
 |tup xs=>obtain⟨z,its,r,ob,e,c⟩:=x;exact⟨z,its,r,ob,k _ _ (.inl rfl) e,c⟩
 |dK kvs=>obtain⟨z,y,vs,r,ob,es,ep,e,c⟩:=x;exact⟨z,y,vs,r,ob,es,ep,k _ _ (.inl rfl) e,c⟩
 |dT kvs=>
  obtain⟨z,y,xs,r,ob,es,ep,e,c⟩:=x;exact⟨z,y,xs,Paired.NM r λp q z=>⟨z.1,ht _ _ z.2.1,z.2.2⟩,ob,es,ep,k _ _ (.inl rfl) e,c⟩
 |set S n=>obtain⟨ob,es,ep,t,e,c⟩:=x;exact⟨ob,es,ep,t,k _ _ (.inl rfl) e,c⟩
 |ins C dx fs=>
  obtain⟨d,z,ne,e,mA,⟨od,es,ep,e2,c⟩,r⟩:=x;exact⟨ho _ d,z,ne,k _ _ (.inl rfl) e,mA,⟨od,es,ep,k _ _ (.inr d) e2,c⟩,r⟩
 |own y=>obtain⟨ob,e⟩:=x;exact⟨ob,k _ _ (.inl rfl) e⟩
 |xd fs=>obtain⟨mA,⟨od,es,ep,e,c⟩,r⟩:=x;exact⟨mA,⟨od,es,ep,k _ _ (.inl rfl) e,c⟩,r⟩
 |rng lo hi=>obtain⟨t,u,v,e⟩:=x;exact⟨t,u,v,k _ _ (.inl rfl) e⟩
 |frz ob u ih=>obtain⟨e,q⟩:=x;exact⟨k _ _ (.inl rfl) e,ih q⟩
 |tbl ps=>
  have e:h.get? a=ZA {cls:=.none,data:=.fields ps}:=x;show h'.get? a=ZA {cls:=.none,data:=.fields ps};exact k a _ (.inl rfl) e
 |met f y=>
  have e:h.get? a=ZA (To (.ref f) (.ref y)):=x;show h'.get? a=ZA (To (.ref f) (.ref y));exact k a _ (.inl rfl) e
 |ext φ=>obtain⟨p,⟨o,e⟩,st⟩:=x;exact⟨st _ _ p λo q=>k _ _ (.inl rfl) q,⟨o,k _ _ (.inl rfl) e⟩,st⟩
theorem HOk.lt(x:HOk P w H h)(e:H a=ZA o):a<h.objs.size:=(x a o e).lt
def HOk.fresh(x:HOk P w H h)(e:h.objs.size<=a):H a=ZB:=by
 cases q:H a with
 |none=>rfl
 |some u=>exact absurd (Oo (x.lt q) e) (OU _)
def HOk.kept(x:HOk P w H h)(k:∀b u,h.get? b=ZA u->h'.get? b=ZA u):HOk P w H h':=λa o e=>
 (x a o e).Nk (λb u _ q=>k b u q) (λ_ q=>q) λ_ _ q=>q
def HOk.laid(x:HOk P w H h)(k:∀b u,h.get? b=ZA u->h'.get? b=ZA u)(hp:h.objs.size<=a)(new:ObjOk P w (upd H a o) h' a o):HOk P w (upd H a o) h':=λb u e=>by
 have hn:=x.fresh hp;by_cases hb:b=a
 .subst hb;rw[aM]at e;cases e;exact new
 .rw[aI hb]at e;exact(x b u e).Nk (λc v _ q=>k c v q) (λc q=>by rw[aI (b9 q hn)];exact q) λc xs q=>by rw[aI (b9 q hn)];exact q
end
def Rd(H:Hp)(a:ZE)(u:HO):Prop:=H a=ZA u\/∃o,H a=ZA (.frz o u)
def Rd.ok{u:HO}(r:Rd H a u)(x:HOk P w H h):ObjOk P w H h a u:=by
 rcases r with r|⟨o,r⟩
 .exact x a u r
 .obtain⟨_,q⟩:=x a _ r;exact q
def MR:Option HO->Prop
 |some (.lst _)=>True
 |some (.dK _)=>True
 |some (.dT _)=>True
 |some (.set _ _)=>True
 |some (.ins _ _ _)=>True
 |some (.ext _)=>True
 |_=>False
variable{e:ZE}
section
variable {x:ZE}{o':HO}
def HOk.write(ok:HOk P w H h)(mu:MR (H x))(he:e=x\/H e=ZA (.own x))(k:∀b u,b≠e->h.get? b=ZA u->h'.get? b=ZA u)(heo:∃u,h'.get? e=ZA u)
  (new:ObjOk P w (upd H x o') h' x o'):HOk P w (upd H x o') h':=λb u q=>by
 have nown:∀c y,H c=ZA (.own y)->c≠x:=λc y r z=>by subst z;rw[r]at mu;exact mu
 have ntup:∀c xs,H c=ZA (.tup xs)->c≠x:=λc xs r z=>by subst z;rw[r]at mu;exact mu
 by_cases hb:b=x
 .subst hb;rw[aM]at q;cases q;exact new
 .rw[aI hb]at q;by_cases hbe:b=e
  .have q':H b=ZA (.own x):=by
    rcases he with z|z
    .exact absurd (hbe.trans z) hb
    .rw[hbe];exact z
   rw[q]at q';cases q';obtain⟨v,hv⟩:=heo;exact⟨v,by rw[hbe];exact hv⟩
  .refine(ok b u q).Nk (λc v hc r=>k c v ?_ r) (λc r=>by rw[aI (nown c b r)];exact r) λc xs r=>by rw[aI (ntup c xs r)];exact r
   rcases hc with rfl|hc
   .exact hbe
   .rintro rfl;rcases he with z|z
    .exact nown c b hc z
    .rw[hc]at z;cases z;exact hb rfl
end
structure Un (fs ex:List ZE)(H H':Hp)(h h':ZH):Prop where
 keep:∀b o,h.get? b=ZA o->H b=ZB->b∉fs->b∉ex->h'.get? b=ZA o
 slot:∀b o,h.get? b=ZA o->H b=ZB->b∈fs->b∉ex->∃sl,h'.get? b=ZA {o with slots:=sl}
 free:∀b o,h.get? b=ZA o->H b=ZB->b∉ex->H' b=ZB
 there:∀b o,h.get? b=ZA o->b∉ex->∃o',h'.get? b=ZA o'
 tups:∀b xs,H b=ZA (.tup xs)->H' b=ZA (.tup xs)
 frzs:∀b o u,H b=ZA (.frz o u)->H' b=ZA (.frz o u)
 tbls:∀b ps,H b=ZA (.tbl ps)->∃more,H' b=ZA (.tbl (ps++more))
section
variable {fs fs' ex ex':List ZE}{H1 H2:Hp}{h1 h2:ZH}{x:ZE}{o:HO}
def Un.any(u:Un fs ex H H1 h h1){ob:Obj}(q:h.get? b=ZA ob)(n:H b=ZB)(hx:b∉ex):∃sl,h1.get? b=ZA {ob with slots:=sl}:=by
 by_cases hb:b∈fs
 .exact u.slot b ob q n hb hx
 .exact⟨ob.slots,u.keep b ob q n hb hx⟩
def Un.kept(k:∀b u,h.get? b=ZA u->h'.get? b=ZA u):Un fs ex H H h h':=
 ⟨λb ob q _ _ _=>k b ob q,λb ob q _ _ _=>⟨ob.slots,k b ob q⟩,λ_ _ _ n _=>n,λb ob q _=>⟨ob,k b ob q⟩,λ_ _ q=>q,λ_ _ _ q=>q,λ_ ps q=>⟨#[],by rw[q];simp⟩⟩
def Un.refl:Un fs ex H H h h:=Un.kept λ_ _ q=>q
def Un.laid(k:∀b u,h.get? b=ZA u->h'.get? b=ZA u)(hp:h.objs.size<=a)(hn:H a=ZB):Un fs ex H (upd H a o) h h' where
 keep:=λb u q _ _ _=>k b u q
 slot:=λb u q _ _ _=>⟨u.slots,k b u q⟩
 free:=λb u q n _=>by rw[aI (Pj (Oo (Os q) hp))];exact n
 there:=λb u q _=>⟨u,k b u q⟩
 tups:=λb xs q=>by rw[aI (b9 q hn)];exact q
 frzs:=λb u xs q=>by rw[aI (b9 q hn)];exact q
 tbls:=λb ps q=>⟨#[],by rw[aI (b9 q hn),q];simp⟩
def Un.write(mu:MR (H x))(he:e=x\/H e=ZA (.own x))(k:∀b u,b≠e->h.get? b=ZA u->h'.get? b=ZA u)(heo:∃u,h'.get? e=ZA u):Un fs ex H (upd H x o) h h':=by
 have hx:∀b,H b=ZB->b≠x:=λb n z=>by subst z;rw[n]at mu;exact mu
 have hb:∀b,H b=ZB->b≠e:=λb n z=>by
  subst z;rcases he with r|r
  .exact hx b n r
  .rw[n]at r;cases r
 have hm:∀b u,H b=ZA u->¬ MR (ZA u)->b≠x:=λb u q nm z=>by subst z;rw[q]at mu;exact nm mu
 refine⟨λb u q n _ _=>k b u (hb b n) q,λb u q n _ _=>⟨u.slots,k b u (hb b n) q⟩,λb u q n _=>by rw[aI (hx b n)];exact n,λb u q _=>?_,
  λb xs q=>by rw[aI (hm b _ q λz=>z)];exact q,λb u xs q=>by rw[aI (hm b _ q λz=>z)];exact q,λb ps q=>⟨#[],by rw[aI (hm b _ q λz=>z),q];simp⟩⟩
 by_cases hbe:b=e
 .subst hbe;exact heo
 .exact⟨u,k b u hbe q⟩
end
noncomputable def trk(h:ZH)(H:Hp):List ZE:=(PJ h.objs.size).filter λa=>(H a).isSome
noncomputable def t9(h:ZH)(H:Hp):ZH:=T7 h (trk h H)
def AQ(h:ZH)(H:Hp):(t9 h H).objs.size=h.objs.size:=PySem.W.hideAll_size _ _
def Dj{o:Obj}(e:h.get? b=ZA o)(n:H b=ZB):(t9 h H).get? b=ZA o:=
 Q9 _ e λhm=>by have q:(H b).isSome=ZC:=(SW.mp hm).2;rw[n]at q;simp at q
def FT{o:Obj}(e:(t9 h H).get? b=ZA o):h.get? b=ZA o/\H b=ZB:=by
 have e':h.get? b=ZA o:=Tc (trk h H) e;refine⟨e',?_⟩;cases q:H b with
 |none=>rfl
 |some x=>
  have hm:b∈trk h H:=SW.mpr ⟨PZ.mpr (Os e'),by simp[q]⟩;have z:(t9 h H).get? b=ZB:=SD (trk h H) hm;rw[z]at e;cases e
noncomputable def GP(g h:ZH)(L:ZE):W2:=(PJ h.objs.size).filterMap λa=>if a=L\/(g.get? a).isSome=ZC then ZB else(h.get? a).map λo=>(a,o)
noncomputable def bK(g h:ZH)(L d:ZE):W2:=(GP g h L).filter λp=>decide (p.1≠d)
structure Mod (K:N7)(mg:W0)(base:ZH):Prop where
 kin:K.In base
 glob:base.Ns O5 mg
 blt:∃mb,base.Ns Tz mb/\∀x:Str,x≠ "__name__"->mb x=O6 x
 nolimit:base.NoLimit
set_option genInjectivity false in
structure Cx where
 prog:OM
 w:Pm
 K:N7
 mg:W0
 base:ZH
 A:OY
 N:List Str
 s₀:Ob
 H₀:Hp
 env:Env
 outer:List Env
 stack:List Env
 ex:List ZE
 fn:Str->Bool
 calm:Bool
 pn:W2
 xe:W1
noncomputable def n8(l:List Env):List ZE:=l.filterMap (·.frame)
noncomputable abbrev Cx.fs(X:Cx):List ZE:=n8 X.outer
def kA(sc:RZ)(x:Str):Prop:=sc.names.lookup x=ZA .local\/sc.names.lookup x=ZA .cell\/sc.names.lookup x=ZA .free
def Loc(sc:RZ)(x:Str):Prop:=sc.names.lookup x=ZA .local\/sc.names.lookup x=ZA .cell
def Look(env:Env)(h:ZH)(m:W0)(x:Str)(u:N9):Prop:=
 (env.kindOf x=ZA .local/\m x=ZA u)\/((env.kindOf x=ZA .cell\/env.kindOf x=ZA .free)/\∃c,env.cells.lookup x=ZA c/\h.IsCell c (ZA u))
structure Cx.Ok (X:Cx):Prop where
 mod:Mod X.K X.mg X.base
 kind:X.env.scope.kind=.function
 glob:X.env.globals=O5
 blt:X.env.builtins=Tz
 above:X.s₀.heap.objs.size<=X.env.locals
 inj:∀x y c,X.env.cells.lookup x=ZA c->X.env.cells.lookup y=ZA c->x=y
 has:∀x,(X.env.kindOf x=ZA .cell\/X.env.kindOf x=ZA .free)->∃c,X.env.cells.lookup x=ZA c
 cab:∀x c,X.fn x=ZC->X.env.cells.lookup x=ZA c->X.s₀.heap.objs.size<=c
 hd:X.calm=ZC->X.A.handled=ZB
 frames:X.A.frames=ZA X.stack
 stk:X.stack=X.outer\/(X.stack=X.env::X.outer/\X.env.frame=ZA X.env.locals)
 exf:∀b∈X.ex,b≠X.env.locals/\∀x c,X.env.cells.lookup x=ZA c->c≠b
 bs:∀b o,X.base.get? b=ZA o->X.s₀.heap.get? b=ZA o/\X.H₀ b=ZB
 bsz:X.base.objs.size<=X.s₀.heap.objs.size
 noex:∀b o,X.base.get? b=ZA o->b∉X.ex
 exfs:∀b∈X.ex,b∉X.fs
 funs:X.s₀.heap.FunFrames X.base X.outer
 frf:∀b∈X.fs,X.H₀ b=ZB
structure Inv (X:Cx)(kt:W2)(σ:List (Option V))(H:Hp)(s:Ob):Prop where
 ok:X.Ok
 os:s.os=X.s₀.os
 bare:TQ s.gens
 base:Un X.fs X.ex X.H₀ H X.s₀.heap s.heap
 loc:∃m,s.heap.Ns X.env.locals m/\∀(i:Nat)(x:Str)(v:V),X.N[i]?=ZA x->σ[i]?=ZA (ZA v)->kA X.env.scope x->∃u,RelV v u/\Look X.env s.heap m x u
 cell:∀x c,X.env.cells.lookup x=ZA c->∃v,s.heap.IsCell c v
 free:H X.env.locals=ZB
 freeC:∀x c,X.env.cells.lookup x=ZA c->H c=ZB
 pin:∀p∈X.pn++kt,s.heap.get? p.1=ZA p.2/\H p.1=ZB/\p.1≠X.env.locals/\p.1∉X.fs/\∀v,p.2.data≠ .cell v
 hok:HOk X.prog X.w H s.heap
 len:σ.length=X.N.length
variable{N:List Str}{X:Cx}{g':Array U9}{it:ZE}{kt:W2}{v:V}{x:Str}
section
variable {σ:List (Option V)}
def Cx.Ok.N3(ok:X.Ok){o:Obj}(e:X.base.get? b=ZA o):b∉X.fs:=λhb=>by have:=(ok.funs.mem hb).1;rw[e]at this;cases this
theorem Inv.bs(I:Inv X kt σ H s):∀b o,X.base.get? b=ZA o->s.heap.get? b=ZA o/\H b=ZB:=λb o e=>
 ⟨I.base.keep b o (I.ok.bs b o e).1 (I.ok.bs b o e).2 (I.ok.N3 e) (I.ok.noex b o e),I.base.free b o (I.ok.bs b o e).1 (I.ok.bs b o e).2 (I.ok.noex b o e)⟩
def Inv.bk(I:Inv X kt σ H s):∀b o,X.base.get? b=ZA o->s.heap.get? b=ZA o:=λb o e=>(I.bs b o e).1
theorem Inv.mod(I:Inv X kt σ H s):Mod X.K X.mg X.base:=I.ok.mod
def Inv.kIn(I:Inv X kt σ H s):X.K.In s.heap:=I.ok.mod.kin.keeps I.bk
theorem Inv.lt(I:Inv X kt σ H s):X.env.locals<s.heap.objs.size:=let ⟨_,hn,_⟩:=I.loc;hn.lt
def Inv.sz(I:Inv X kt σ H s):X.s₀.heap.objs.size<=s.heap.objs.size:=OV I.ok.above (Qi I.lt)
def Inv.N4(I:Inv X kt σ H s)(h:s.heap.objs.size<=a):a∉X.fs:=λhb=>by obtain⟨_,o,ho,_⟩:=I.ok.funs.mem hb;exact absurd (Oo (Os ho) (OV I.sz h)) (OU _)
def Inv.cne(I:Inv X kt σ H s):∀x c,X.env.cells.lookup x=ZA c->c≠X.env.locals:=λx c e z=>by obtain⟨v,o,ho,hd⟩:=I.cell x c e;obtain⟨m,⟨o',es,ep,ho',hd',_⟩,_⟩:=I.loc;rw[z,ho']at ho;cases ho;rw[hd']at hd;cases hd
theorem Inv.funs(I:Inv X kt σ H s):s.heap.FunFrames X.base X.outer:=by
 have all:∀(l:List Env),(∀b∈n8 l,b∈X.fs)->X.s₀.heap.FunFrames X.base l->s.heap.FunFrames X.base l:=by
  intro l;induction l with
  |nil=>intro _ _;trivial
  |cons env r ih=>
   intro hs hl;obtain⟨hk,⟨L,o,hf,hn,ho,hd⟩,hr⟩:=hl;have hL:L∈X.fs:=hs L (by unfold n8;rw[PB,hf];exact Oe);obtain⟨sl,e⟩:=I.base.slot L o ho (I.ok.frf L hL) hL λz=>I.ok.exfs L z hL;exact⟨hk,⟨L,_,hf,hn,e,hd⟩,ih (λb hb=>hs b (by unfold n8;rw[PB,hf];exact N8 _ hb)) hr⟩
 exact all X.outer (λ_ hb=>hb) I.ok.funs
def Inv.stack(I:Inv X kt σ H s):s.heap.FunFrames X.base X.stack:=by
 rcases I.ok.stk with e|⟨e,hf⟩
 .rw[e];exact I.funs
 .rw[e];obtain⟨m,hn,_⟩:=I.loc;refine .cons (by rw[I.ok.kind];decide) hf hn ?_ I.funs;exact Heap.get?_none_of_le (OV I.ok.bsz I.ok.above)
def Inv.Nx(I:Inv X kt σ H s):∀b∈n8 X.stack,b∈X.env.locals::X.fs:=λb hb=>by
 rcases I.ok.stk with e|⟨e,hf⟩
 .rw[e]at hb;exact N8 _ hb
 .rw[e]at hb;unfold n8 at hb;rw[PB,hf]at hb;exact hb
def Inv.Nf(I:Inv X kt σ H s):∀b∈n8 X.stack,H b=ZB:=λb hb=>by
 rcases Oj.mp (I.Nx b hb)with e|hb
 .rw[e];exact I.free
 .obtain⟨_,o,ho,_⟩:=I.ok.funs.mem hb;exact I.base.free b o ho (I.ok.frf b hb) λz=>I.ok.exfs b z hb
def Inv.step{ch:List ZE}(I:Inv X kt σ H s)
  (hch:∀b∈ch,(b∈X.ex\/X.s₀.heap.objs.size<=b)/\b≠X.env.locals/\(∀x c,X.env.cells.lookup x=ZA c->c≠b)/\∀p∈X.pn++kt,p.1≠b)
  (keep:∀b o,b≠X.env.locals->b∉X.fs->b∉ch->s.heap.get? b=ZA o->H b=ZB->h'.get? b=ZA o)
  (slot:∀b o,b≠X.env.locals->b∈X.fs->b∉ch->s.heap.get? b=ZA o->H b=ZB->∃sl,h'.get? b=ZA {o with slots:=sl}) (free:∀b o,b∉ch->s.heap.get? b=ZA o->H b=ZB->H' b=ZB)
  (there:∀b o,b∉ch->s.heap.get? b=ZA o->∃o',h'.get? b=ZA o')
  (tups:∀b xs,H b=ZA (.tup xs)->H' b=ZA (.tup xs)) (frzs:∀b o u,H b=ZA (.frz o u)->H' b=ZA (.frz o u)) (tbls:∀b ps,H b=ZA (.tbl ps)->∃more,H' b=ZA (.tbl (ps++more)))
  (ns:∀m,s.heap.Ns X.env.locals m->h'.Ns X.env.locals m) (hok:HOk X.prog X.w H' h') (hg:TQ g'):
  Inv X kt σ H' {s with heap:=h',gens:=g',drawn:=d',toks:=t'}:=by
 have neL:∀b o,X.s₀.heap.get? b=ZA o->b≠X.env.locals:=λb o e=>Pj (Oo (Os e) I.ok.above);have neC:∀b o,X.s₀.heap.get? b=ZA o->b∉X.ex->b∉ch:=λb o e hx hb=>by
  rcases(hch b hb).1 with z|z
  .exact hx z
  .exact absurd (Oo (Os e) z) (OU _)
 have cellK:∀x c,X.env.cells.lookup x=ZA c->∀v,s.heap.IsCell c v->h'.IsCell c v:=λx c e v hh_=>by
  obtain⟨o,ho,hd⟩:=hh_;have nch:c∉ch:=λz=>(hch c z).2.2.1 x c e rfl;by_cases hc:c∈X.fs
  .obtain⟨sl,q⟩:=slot c o (I.cne x c e) hc nch ho (I.freeC x c e);exact⟨_,q,hd⟩
  .exact⟨o,keep c o (I.cne x c e) hc nch ho (I.freeC x c e),hd⟩
 refine⟨I.ok,I.os,hg,⟨λb o e n hb hx=>?_,λb o e n hb hx=>?_,λb o e n hx=>?_,λb o e hx=>?_,λb xs e=>tups b xs (I.base.tups b xs e),λb o xs e=>frzs b o xs (I.base.frzs b o xs e),λb ps e=>?_⟩,?_,λx c e=>?_,?_,λx c e=>?_,λp hp=>?_,hok,I.len⟩
 .exact keep b o (neL b o e) hb (neC b o e hx) (I.base.keep b o e n hb hx) (I.base.free b o e n hx)
 .obtain⟨sl,e1⟩:=I.base.slot b o e n hb hx;obtain⟨sl',e2⟩:=slot b _ (neL b o e) hb (neC b o e hx) e1 (I.base.free b o e n hx);exact⟨sl',e2⟩
 .obtain⟨o',e1⟩:=I.base.there b o e hx;exact free b o' (neC b o e hx) e1 (I.base.free b o e n hx)
 .obtain⟨o',e1⟩:=I.base.there b o e hx;exact there b o' (neC b o e hx) e1
 .obtain⟨m1,e1⟩:=I.base.tbls b ps e;obtain⟨m2,e2⟩:=tbls b _ e1;exact⟨m1++m2,by rw[e2,Array.append_assoc]⟩
 .obtain⟨m,hn,hl⟩:=I.loc;refine⟨m,ns m hn,λi x v e1 e2 e3=>?_⟩;obtain⟨u,r,l⟩:=hl i x v e1 e2 e3;refine⟨u,r,?_⟩;rcases l with l|⟨k,c,e,z⟩
  .exact .inl l
  .exact .inr ⟨k,c,e,cellK x c e _ z⟩
 .obtain⟨v,z⟩:=I.cell x c e;exact⟨v,cellK x c e v z⟩
 .obtain⟨m,⟨o,_,_,ho,_⟩,_⟩:=I.loc;exact free _ o (λz=>(hch _ z).2.1 rfl) ho I.free
 .obtain⟨v,o,ho,hd⟩:=I.cell x c e;exact free c o (λz=>(hch c z).2.2.1 x c e rfl) ho (I.freeC x c e)
 .obtain⟨e,n,ne,nf,d⟩:=I.pin p hp;have nch:p.1∉ch:=λz=>(hch p.1 z).2.2.2 p hp rfl;exact⟨keep p.1 p.2 ne nf nch e n,free p.1 p.2 nch e n,ne,nf,d⟩
def Inv.un(I:Inv X kt σ H s)(u:Un X.fs [] H H' s.heap h')(hok:HOk X.prog X.w H' h'):Inv X kt σ H' {s with heap:=h',toks:=t'}:=by
 obtain⟨m,⟨o,es,ep,ho,r⟩,_⟩:=id I.loc;obtain⟨sl,hL⟩:=u.any ho I.free (by simp);exact I.step (g':=s.gens) (d':=s.drawn) (ch:=[]) (λ_ z=>nomatch z) (λb o _ hb _ e n=>u.keep b o e n hb (by simp)) (λb o _ hb _ e n=>u.slot b o e n hb (by simp)) (λb o _ e n=>u.free b o e n (by simp)) (λb o _ e=>u.there b o e (by simp)) u.tups u.frzs u.tbls (λm' hm=>by obtain⟨o',es',ep',ho',r'⟩:=hm;rw[ho]at ho';cases ho';exact⟨_,es',ep',hL,r'⟩) hok I.bare
def Inv.call{ch:List ZE}(I:Inv X kt σ H s)(u:Un (n8 X.stack) ch H H' s.heap h')(hok:HOk X.prog X.w H' h')(hg:TQ g')
  (hch:∀b∈ch,(b∈X.ex\/X.s₀.heap.objs.size<=b)/\b≠X.env.locals/\(∀x c,X.env.cells.lookup x=ZA c->c≠b)/\∀p∈X.pn++kt,p.1≠b):
  Inv X kt σ H' {s with heap:=h',gens:=g',drawn:=d',toks:=t'}:=by
 obtain⟨m,⟨o,es,ep,ho,r⟩,_⟩:=id I.loc;obtain⟨sl,hL⟩:=u.any ho I.free λz=>(hch _ z).2.1 rfl;exact I.step (ch:=ch) hch (λb o hL hb hc e n=>u.keep b o e n (λz=>(Oj.mp (I.Nx b z)).elim hL hb) hc) (λb o _ _ hc e n=>u.any e n hc) (λb o hc e n=>u.free b o e n hc) (λb o hc e=>u.there b o e hc) u.tups u.frzs u.tbls (λm' hm=>by obtain⟨o',es',ep',ho',r'⟩:=hm;rw[ho]at ho';cases ho';exact⟨_,es',ep',hL,r'⟩) hok hg
def Inv.turned(I:Inv X kt σ H s)(k:∀b o,b≠it->s.heap.get? b=ZA o->h'.get? b=ZA o)(hn:H it=ZB)(hL:it≠X.env.locals)
  (h1:it∈X.ex\/X.s₀.heap.objs.size<=it) (h2:∀x c,X.env.cells.lookup x=ZA c->c≠it) (h3:∀p∈X.pn++kt,p.1≠it):Inv X kt σ H {s with heap:=h',toks:=t'}:=by
 have nit:∀b u,H b=ZA u->b≠it:=λb u e z=>by rw[z,hn]at e;cases e
 refine I.step (g':=s.gens) (d':=s.drawn) (ch:=[it]) (λb hb=>?_) (λb o _ _ hc e _=>k b o (λz=>hc (by simp[z])) e) (λb o _ _ hc e _=>⟨o.slots,k b o (λz=>hc (by simp[z])) e⟩) (λ_ _ _ _ n=>n)
  (λb o hc e=>⟨o,k b o (λz=>hc (by simp[z])) e⟩) (λ_ _ e=>e) (λ_ _ _ e=>e) (λb ps e=>⟨#[],by rw[e];simp⟩) (λm hm=>?_) (λb u e=>?_) I.bare
 .have e:b=it:=by simpa using hb
  subst e;exact⟨h1,hL,h2,h3⟩
 .obtain⟨o,es,ep,ho,r⟩:=hm;exact⟨o,es,ep,k _ o (Ra hL) ho,r⟩
 .refine(I.hok b u e).Nk (λc v hc q=>k c v ?_ q) (λ_ q=>q) λ_ _ q=>q;rcases hc with z|z
  .rw[z];exact nit b u e
  .exact nit c _ z
def Inv.tok(I:Inv X kt σ H s)(t:Nat):Inv X kt σ H {s with toks:=t}:=I.un (h':=s.heap) (t':=t) Un.refl I.hok
theorem Inv.kept(I:Inv X kt σ H s)(k:∀b u,s.heap.get? b=ZA u->h'.get? b=ZA u):Inv X kt σ H {s with heap:=h',toks:=t'}:=I.un (Un.kept k) (I.hok.kept k)
theorem Inv.laid{o:HO}(I:Inv X kt σ H s)(k:∀b u,s.heap.get? b=ZA u->h'.get? b=ZA u)(hp:s.heap.objs.size<=a)(new:ObjOk X.prog X.w (upd H a o) h' a o):
  Inv X kt σ (upd H a o) {s with heap:=h',toks:=t'}:=I.un (Un.laid k hp (I.hok.fresh hp)) (I.hok.laid k hp new)
theorem Inv.write{x:ZE}{o:HO}(I:Inv X kt σ H s)(mu:MR (H x))(he:e=x\/H e=ZA (.own x))(k:∀b u,b≠e->s.heap.get? b=ZA u->h'.get? b=ZA u)(heo:∃u,h'.get? e=ZA u)
  (new:ObjOk X.prog X.w (upd H x o) h' x o):Inv X kt σ (upd H x o) {s with heap:=h',toks:=t'}:=I.un (Un.write mu he k heo) (I.hok.write mu he k heo new)
def Inv.Nz{pins':W2}(I:Inv X kt σ H s)(h:∀p∈pins',s.heap.get? p.1=ZA p.2/\H p.1=ZB/\p.1≠X.env.locals/\p.1∉X.fs/\∀v,p.2.data≠ .cell v):Inv X pins' σ H s:=
 ⟨I.ok,I.os,I.bare,I.base,I.loc,I.cell,I.free,I.freeC,λp hp=>(Ox.mp hp).elim (λz=>I.pin p (OL _ z)) (h p),I.hok,I.len⟩
def vk(hN:N.Nodup)(a:N[i]?=ZA x)(b:N[j]?=ZA x):i=j:=by obtain⟨h1,e1⟩:=Ol.mp a;obtain⟨h2,e2⟩:=Ol.mp b;exact(List.getElem_inj hN).mp (e1.trans e2.symm)
variable{Q:Unit->Ob->Prop}
def qS{u:N9}(I:Inv X kt σ H s)(hN:X.N.Nodup)(hi:X.N[i]?=ZA x)(hx:Loc X.env.scope x)(r:RelV v u)
  (h:∀s',Inv X kt (σ.set i (ZA v)) H s'->(∃a,RP a s.heap s'.heap/\(a=X.env.locals\/X.env.cells.lookup x=ZA a))->Q () s') (hf:autoParam (X.fn x=ZC\/X.env.scope.names.lookup x=ZA .local) r_):ZJ M A (storeName X.env x u) Q E s:=by
 obtain⟨m,hn,hl⟩:=id I.loc;have hcls:(X.env.scope.kind == .class||(X.env.scope.kind == .module&&X.env.locals != X.env.globals))=ZD:=by rw[I.ok.kind];rfl
 have hiσ:i<σ.length:=by rw[I.len];exact(Ol.mp hi).1
 have cne:=I.cne;have tracked:∀{a:ZE}{h':ZH},(∃o,s.heap.get? a=ZA o/\H a=ZB)->RP a s.heap h'->HOk X.prog X.w H h':=λ{a h'} ha hs b ob e=>by
  obtain⟨_,_,hfree⟩:=ha;refine(I.hok b ob e).Nk (λc w' hc q=>(hs.2 c ?_).trans q) (λ_ q=>q) λ_ _ q=>q;rintro rfl;rcases hc with rfl|hc
  .rw[hfree]at e;cases e
  .rw[hfree]at hc;cases hc
 rcases hx with hk|hk
 .refine wpAny_storeName_local hk hn (λh' hn' hs=>?_) hcls;obtain⟨oL,_,_,hoL,_⟩:=id hn;refine h _ ⟨I.ok,I.os,I.bare,⟨λb o e n hb hx=>?_,λb o e n hb hx=>?_,I.base.free,λb o e hx=>?_,I.base.tups,I.base.frzs,I.base.tbls⟩,⟨_,hn',λj y v' e1 e2 e3=>?_⟩,λy c e=>?_,I.free,I.freeC,λp hp=>?_,tracked ⟨oL,hoL,I.free⟩ hs,by simpa using I.len⟩ ⟨_,hs,.inl rfl⟩
  .exact(hs.2 b (Pj (Oo (Os e) I.ok.above))).trans (I.base.keep b o e n hb hx)
  .obtain⟨sl,e1⟩:=I.base.slot b o e n hb hx;exact⟨sl,(hs.2 b (Pj (Oo (Os e) I.ok.above))).trans e1⟩
  .obtain⟨o',e1⟩:=I.base.there b o e hx;exact⟨o',(hs.2 b (Pj (Oo (Os e) I.ok.above))).trans e1⟩
  .by_cases hj:j=i
   .subst hj;rw[hi]at e1;cases e1;rw[Oz hiσ]at e2;cases e2;exact⟨u,r,.inl ⟨hk,by simp⟩⟩
   .rw[Oy (Ra hj)]at e2;obtain⟨u',r',q⟩:=hl j y v' e1 e2 e3;refine⟨u',r',?_⟩;rcases q with⟨k,e⟩|⟨k,c,e,z⟩
    .refine .inl ⟨k,?_⟩;have:y≠x:=λe=>hj (vk hN e1 (e▸hi));simp[this,e]
    .exact .inr ⟨k,c,e,z.sameBut hs (cne y c e)⟩
  .obtain⟨w',z⟩:=I.cell y c e;exact⟨w',z.sameBut hs (cne y c e)⟩
  .obtain⟨e,n,ne,nf,d⟩:=I.pin p hp;exact⟨(hs.2 p.1 ne).trans e,n,ne,nf,d⟩
 .have hfn:X.fn x=ZC:=by
   rcases hf with z|z
   .exact z
   .rw[z]at hk;cases hk
  obtain⟨c,hc⟩:=I.ok.has x (.inl hk);obtain⟨w',z⟩:=I.cell x c hc;refine wpAny_storeName_cell I.ok.kind hk hc z (λh' hc' hs=>?_);obtain⟨oc,hoc,hocd⟩:=id z;refine h {s with heap:=h'} ⟨I.ok,I.os,I.bare,⟨λb o e n hb hx=>?_,λb o e n hb hx=>?_,I.base.free,λb o e hx=>?_,I.base.tups,I.base.frzs,I.base.tbls⟩,⟨m,hn.sameBut hs (Ra (cne x c hc)),λj y v' e1 e2 e3=>?_⟩,λy c' e=>?_,I.free,I.freeC,λp hp=>?_,tracked ⟨oc,hoc,I.freeC x c hc⟩ hs,by simpa using I.len⟩ ⟨c,hs,.inr hc⟩
  .exact(hs.2 b (Pj (Oo (Os e) (I.ok.cab x c hfn hc)))).trans (I.base.keep b o e n hb hx)
  .obtain⟨sl,e1⟩:=I.base.slot b o e n hb hx;exact⟨sl,(hs.2 b (Pj (Oo (Os e) (I.ok.cab x c hfn hc)))).trans e1⟩
  .obtain⟨o',e1⟩:=I.base.there b o e hx;exact⟨o',(hs.2 b (Pj (Oo (Os e) (I.ok.cab x c hfn hc)))).trans e1⟩
  .by_cases hj:j=i
   .subst hj;rw[hi]at e1;cases e1;rw[Oz hiσ]at e2;cases e2;exact⟨u,r,.inr ⟨.inl hk,c,hc,hc'⟩⟩
   .rw[Oy (Ra hj)]at e2;obtain⟨u',r',q⟩:=hl j y v' e1 e2 e3;refine⟨u',r',?_⟩;rcases q with q|⟨k,c',e,z'⟩
    .exact .inl q
    .refine .inr ⟨k,c',e,z'.sameBut hs ?_⟩;rintro rfl;exact hj (vk hN e1 (I.ok.inj _ _ _ e hc▸hi))
  .by_cases hcc:c'=c
   .subst hcc;exact⟨_,hc'⟩
   .obtain⟨w2,z2⟩:=I.cell y c' e;exact⟨w2,z2.sameBut hs hcc⟩
  .obtain⟨e,n,ne,nf,d⟩:=I.pin p hp;refine⟨(hs.2 p.1 ?_).trans e,n,ne,nf,d⟩;intro q;rw[q,hoc]at e;have q':oc=p.2:=O0 e;exact d w' (by rw[<-q'];exact hocd)
def k9{u:N9}(I:Inv X kt σ H s)(hN:X.N.Nodup)(hi:X.N[i]?=ZA x)(hx:Loc X.env.scope x)(r:RelV v u)
  (h:∀s',Inv X kt (σ.set i (ZA v)) H s'->Q () s') (hf:autoParam (X.fn x=ZC\/X.env.scope.names.lookup x=ZA .local) r_):ZJ M A (storeName X.env x u) Q E s:=
 qS I hN hi hx r (λs' I' _=>h s' I') hf
def Inv.Nt{ch:List ZE}(I:Inv X kt σ H s)(ho:s'.os=s.os)(u:Un (n8 X.stack) ch H H' s.heap s'.heap)(hok:HOk X.prog X.w H' s'.heap)(hg:TQ s'.gens)
  (hch:∀b∈ch,(b∈X.ex\/X.s₀.heap.objs.size<=b)/\b≠X.env.locals/\(∀x c,X.env.cells.lookup x=ZA c->c≠b)/\∀p∈X.pn++kt,p.1≠b):Inv X kt σ H' s':=by
 obtain⟨h',g',d',t',o'⟩:=s';have e:o'=s.os:=ho;subst e;exact I.call (g':=g') (t':=t') (d':=d') u hok hg hch
end
abbrev XK:=N9->Option ZE->Hp->Prop
abbrev St:=List (Option V)
abbrev VK:=V->Hp->Prop
abbrev TE:=St->Hp->VK->Prop
abbrev TT:=St->Hp->(Bool->Hp->Prop)->Prop
abbrev TA:=St->Hp->(List V->Hp->Prop)->Prop
structure nL where
 nx:St->Hp->Prop
 rt:VK
 bk:St->Hp->Prop:=λ_ _=>False
 ct:St->Hp->Prop:=λ_ _=>False
abbrev TS:=nL->St->Hp->Prop
def EP(X:Cx)(kt:W2)(σ:St)(Q:VK)(u:N9)(s':Ob):Prop:=∃v H',Inv X kt σ H' s'/\RelV v u/\Q v H'
def TP(X:Cx)(kt:W2)(σ:St)(Q:Bool->Hp->Prop)(b:Bool)(s':Ob):Prop:=∃H',Inv X kt σ H' s'/\Q b H'
def AP(X:Cx)(kt:W2)(σ:St)(Q:List V->Hp->Prop)(us:List N9)(s':Ob):Prop:=∃vs H',Inv X kt σ H' s'/\Vals vs us/\Q vs H'
def SP(X:Cx)(kt:W2)(D:nL)(f:Flow)(s':Ob):Prop:=
 match f with
 |.next=>∃σ' H',Inv X kt σ' H' s'/\D.nx σ' H'
 |.brk=>∃σ' H',Inv X kt σ' H' s'/\D.bk σ' H'
 |.cont=>∃σ' H',Inv X kt σ' H' s'/\D.ct σ' H'
 |.ret u=>∃v σ' H',Inv X kt σ' H' s'/\RelV v u/\D.rt v H'
def PE(X:Cx)(e:ZG)(t:TE):Prop:=
 ∀(kt:W2)(s:Ob)(σ:St)(H:Hp)(Q:VK),Inv X kt σ H s->t σ H Q->ZJ (ZK X.prog X.w) X.A (eval e X.env) (EP X kt σ Q) X.xe s
def PT(X:Cx)(e:ZG)(t:TT):Prop:=
 ∀(kt:W2)(s:Ob)(σ:St)(H:Hp)(Q:Bool->Hp->Prop),Inv X kt σ H s->t σ H Q->ZJ (ZK X.prog X.w) X.A (isTrue e X.env (eval e X.env)) (TP X kt σ Q) X.xe s
def PW(X:Cx)(e:ZG)(t:TT):Prop:=
 ∀(whole:Sem N9)(kt:W2)(s:Ob)(σ:St)(H:Hp)(Q:Bool->Hp->Prop),Inv X kt σ H s->t σ H Q->ZJ (ZK X.prog X.w) X.A (isTrue e X.env whole) (TP X kt σ Q) X.xe s
variable{e:ZG}
def PW.pt{t:TT}(h:PW X e t):PT X e t:=h _
def PA(X:Cx)(es:List ZG)(t:TA):Prop:=
 ∀(pos:Pos)(kt:W2)(s:Ob)(σ:St)(H:Hp)(Q:List V->Hp->Prop),Inv X kt σ H s->t σ H Q->ZJ (ZK X.prog X.w) X.A (spliced (backTo pos (Oq es X.env))) (AP X kt σ Q) X.xe s
def PS(X:Cx)(st:ZF)(t:TS):Prop:=
 ∀(kt:W2)(s:Ob)(σ:St)(H:Hp)(D:nL),Inv X kt σ H s->t D σ H->ZJ (ZK X.prog X.w) X.A (exec st X.env) (SP X kt D) X.xe s
def PSs(X:Cx)(st:List ZF)(t:TS):Prop:=
 ∀(kt:W2)(s:Ob)(σ:St)(H:Hp)(D:nL),Inv X kt σ H s->t D σ H->ZJ (ZK X.prog X.w) X.A (execs st X.env) (SP X kt D) X.xe s
def bR{t:Sem α}{Q Q':α->Ob->Prop}(h:ZJ M A t Q E s)(hQ:∀a s,Q a s->Q' a s):ZJ M A t Q' E s:=PX h hQ λ_ _ x=>x
variable{c:ZG}{pos:Pos}{ta:TE}{σ:St}
section
def HW(i:Nat):TE:=λσ H Q=>∃v,σ[i]?=ZA (ZA v)/\Q v H
def tC(v:V):TE:=λ_ H Q=>Q v H
def dB{pos:Pos}(hN:X.N[i]?=ZA x)(hv:kA X.env.scope x)(hd:autoParam ((x == ("__debug__" : Str))=ZD) s_)(hcd:autoParam ((x == ("__classdict__" : Str))=ZD) s_):PE X (.Name x pos) (HW i):=by
 intro kt s σ H Q I h;obtain⟨v,e,h⟩:=h;obtain⟨m,hn,hl⟩:=I.loc;obtain⟨u,r,l⟩:=hl i x v hN e hv;have fin:EP X kt σ Q u s:=⟨v,H,I,r,h⟩;rcases l with⟨hk,hm⟩|⟨hk,c,hc,hcell⟩
 .exact wpAny_Name (UE I.ok.kind hk hn hm fin) hd
 .rcases hk with hk|hk
  .exact wpAny_Name (UT I.ok.kind hk hc hcell fin) hd
  .exact wpAny_Name (wpAny_loadName_free I.ok.kind hk hc hcell fin hcd) hd
def B4{i j pos}:PE X (.Constant (.int i) j pos) (tC (.int i)):=λ_ _ _ H _ I h=>wpAny_Constant_int ⟨.int i,H,I.tok _,⟨_,rfl⟩,h⟩
def LG{b j pos}:PE X (.Constant (.bool b) j pos) (tC (.bl b)):=λ_ _ _ H _ I h=>Constant_bool ⟨.bl b,H,I,rfl,h⟩
def Jc{j pos}:PE X (.Constant .none j pos) (tC .non):=λ_ _ _ H _ I h=>Constant_none ⟨.non,H,I,rfl,h⟩
def Ja{x j pos}:PE X (.Constant (.str x) j pos) (tC (.str x)):=λ_ _ _ H _ I h=>UZ ⟨.str x,H,I.tok _,⟨_,rfl⟩,h⟩
def Gl(X:Cx)(x:Str):Prop:=X.env.kindOf x=ZA .globalImplicit
def gy{u:N9}{pos:Pos}(I:Inv X kt σ H s)(hg:Gl X x)(hm:X.mg x=ZA u)(h:Q u s)
  (hd:autoParam ((x == ("__debug__" : Str))=ZD) s_):ZJ (ZK X.prog X.w) X.A (eval (.Name x pos) X.env) Q E s:=
 S8 I.ok.kind hg (Calls.loadGlobal_global (by rw[I.ok.glob];exact I.mod.glob.keeps I.bk) hm h) hd
def fI{u:N9}{pos:Pos}(I:Inv X kt σ H s)(hg:Gl X x)(hm:X.mg x=ZB)(hv:O6 x=ZA u)(h:Q u s)
  (hn:autoParam (x≠ "__name__") s_) (hd:autoParam ((x == ("__debug__" : Str))=ZD) s_):ZJ (ZK X.prog X.w) X.A (eval (.Name x pos) X.env) Q E s:=by
 obtain⟨mb,h1,h2⟩:=I.mod.blt;exact S8 I.ok.kind hg (Calls.loadGlobal_builtin (by rw[I.ok.glob];exact I.mod.glob.keeps I.bk) hm (by rw[I.ok.blt];exact h1.keeps I.bk) ((h2 x hn).trans hv) h) hd
def yT{u:N9}{pos:Pos}(hg:Gl X x)(hm:X.mg x=ZA u)(r:RelV v u)(hd:autoParam ((x == ("__debug__" : Str))=ZD) s_):PE X (.Name x pos) (tC v):=
 λ_ _ _ H _ I h=>gy I hg hm ⟨v,H,I,r,h⟩ hd
def yX{u:N9}{pos:Pos}(hg:Gl X x)(hm:X.mg x=ZB)(hv:O6 x=ZA u)(r:RelV v u)(hn:autoParam (x≠ "__name__") s_)(hd:autoParam ((x == ("__debug__" : Str))=ZD) s_):PE X (.Name x pos) (tC v):=
 λ_ _ _ H _ I h=>fI I hg hm hv ⟨v,H,I,r,h⟩ hn hd
variable {a b:ZG}{tb:TE}
def tB(t:TE):TT:=λσ H Q=>t σ H λx H1=>∃c,x=.bl c/\Q c H1
def IQ{t:TE}(h:PE X e t)(he:autoParam (∀whole,isTrue e X.env whole=(do let v <-whole;standAt e.pos;holding [v] (truthy v))) t_):PT X e (tB t):=by intro kt s σ H Q I hw;refine isTrue_plain (bR (h kt s σ H _ I hw) λv s1 ⟨x,H1,I1,r1,q1⟩=>?_) (he _);obtain⟨d,rfl,q⟩:=q1;cases r1;exact PY ⟨H1,I1,q⟩
variable {tA tB':TT}{bK:List ZG}
def tAnd(t u:TT):TT:=λσ H Q=>t σ H λc H1=>if c=ZC then u σ H1 Q else Q ZD H1
def tOr(t u:TT):TT:=λσ H Q=>t σ H λc H1=>if c=ZC then Q ZC H1 else u σ H1 Q
def tNot(t:TT):TT:=λσ H Q=>t σ H λc H1=>Q (!c) H1
def Fu(ha:PT X a tA):PW X (.BoolOp .And [a] pos) tA:=by
 intro wh kt s σ H Q I h;refine isTrue_and (bR (ha kt s σ H Q I h) λc s1 e=>?_);cases c with
 |true=>exact isTrue_and_nil e
 |false=>exact e
def IM(ha:PT X a tA):PW X (.BoolOp .Or [a] pos) tA:=by
 intro wh kt s σ H Q I h;refine isTrue_or (bR (ha kt s σ H Q I h) λc s1 e=>?_);cases c with
 |false=>exact isTrue_or_nil e
 |true=>exact e
def IP(ha:PT X a tA)(hb:PW X (.BoolOp .And (b::bK) pos) tB'):PW X (.BoolOp .And (a::b::bK) pos) (tAnd tA tB'):=by
 intro wh kt s σ H Q I h;refine isTrue_and (bR (ha kt s σ H _ I h) λc s1 hh_=>?_);obtain⟨H1,I1,q1⟩:=hh_;cases c with
 |true=>exact hb wh kt s1 σ H1 Q I1 q1
 |false=>exact⟨H1,I1,q1⟩
def LB(ha:PT X a tA)(hb:PW X (.BoolOp .Or (b::bK) pos) tB'):PW X (.BoolOp .Or (a::b::bK) pos) (tOr tA tB'):=by
 intro wh kt s σ H Q I h;refine isTrue_or (bR (ha kt s σ H _ I h) λc s1 hh_=>?_);obtain⟨H1,I1,q1⟩:=hh_;cases c with
 |true=>exact⟨H1,I1,q1⟩
 |false=>exact hb wh kt s1 σ H1 Q I1 q1
def IS(ha:PT X a tA):PT X (.UnaryOp .Not a pos) (tNot tA):=by intro kt s σ H Q I h;exact isTrue_not (ha kt s σ H (λc H1=>Q (!c) H1) I h)
def K5(ta tb:TE):TE:=λσ H Q=>ta σ H λx H1=>∃c,x=.bl c/\if c=ZC then tb σ H1 Q else Q (.bl ZD) H1
def tOrV(ta tb:TE):TE:=λσ H Q=>ta σ H λx H1=>∃c,x=.bl c/\if c=ZC then Q (.bl ZC) H1 else tb σ H1 Q
def KU(ta:TE):TE:=λσ H Q=>ta σ H λx H1=>∃c,x=.bl c/\Q (.bl (!c)) H1
def B3{op}{t:TE}(h:PE X a t):PE X (.BoolOp op [a] pos) t:=λkt s σ H Q I hw=>BoolOp_one (h kt s σ H Q I hw)
def B8(ha:PE X a ta)(hb:PE X (.BoolOp .And (b::bK) pos) tb):PE X (.BoolOp .And (a::b::bK) pos) (K5 ta tb):=by
 intro kt s σ H Q I h;refine BoolOp_and (bR (ha kt s σ H _ I h) λv s1 hh_=>?_);obtain⟨x,H1,I1,r1,q1⟩:=hh_;obtain⟨c,rfl,q1⟩:=q1;cases r1;refine PY ?_;cases c with
 |true=>exact hb kt s1 σ H1 Q I1 q1
 |false=>exact⟨.bl ZD,H1,I1,rfl,q1⟩
def LD(ha:PE X a ta)(hb:PE X (.BoolOp .Or (b::bK) pos) tb):PE X (.BoolOp .Or (a::b::bK) pos) (tOrV ta tb):=by
 intro kt s σ H Q I h;refine BoolOp_or (bR (ha kt s σ H _ I h) λv s1 hh_=>?_);obtain⟨x,H1,I1,r1,q1⟩:=hh_;obtain⟨c,rfl,q1⟩:=q1;cases r1;refine PY ?_;cases c with
 |false=>exact hb kt s1 σ H1 Q I1 q1
 |true=>exact⟨.bl ZC,H1,I1,rfl,q1⟩
def Jb(ha:PE X a ta):PE X (.UnaryOp .Not a pos) (KU ta):=by intro kt s σ H Q I h;refine UnaryOp_ (bR (ha kt s σ H _ I h) λv s1 hh_=>?_);obtain⟨x,H1,I1,r1,q1⟩:=hh_;obtain⟨c,rfl,q1⟩:=q1;cases r1;exact not_of (PY ⟨.bl (!c),H1,I1,rfl,q1⟩)
def tIf(t:TT)(ta tb:TE):TE:=λσ H Q=>t σ H λc H1=>if c=ZC then ta σ H1 Q else tb σ H1 Q
def B5(hc:PT X c tA)(ha:PE X a ta)(hb:PE X b tb):PE X (.IfExp c a b pos) (tIf tA ta tb):=by
 intro kt s σ H Q I h;refine wpAny_IfExp (bR (hc kt s σ H _ I h) λd s1 hh_=>?_);obtain⟨H1,I1,q1⟩:=hh_;cases d with
 |true=>exact ha kt s1 σ H1 Q I1 q1
 |false=>exact hb kt s1 σ H1 Q I1 q1
end
def SqL(K:N7)(H:Hp)(a:ZE)(xs:List V):Prop:=
 Rd H a (.lst xs) ∨
  ∃(o:Obj)(its:Array N9)(n:Nat),K.lookup a=ZA o/\o.cls=.type "list"/\o.dict=ZB/\o.data=.seq its n/\its.size<=ZI/\Vals xs its.toList
def SqT(K:N7)(H:Hp)(a:ZE)(xs:List V):Prop:=
 Rd H a (.tup xs) ∨
  ∃(o:Obj)(its:Array N9)(n:Nat),K.lookup a=ZA o/\o.cls=.type "tuple"/\o.data=.seq its n/\its.size<=ZI/\Vals xs its.toList
noncomputable def absV:N9->Option V
 |.none=>ZA .non
 |.bool b=>ZA (.bl b)
 |.int i _=>ZA (.int i)
 |.str x _=>ZA (.str x)
 |.bytes b _=>ZA (.byt b)
 |.float b _=>ZA (.flt b)
 |.ref a=>ZA (.ref a)
 |.type n=>ZA (.ty n)
 |_=>ZB
def RelV.abs{x:V}{u:N9}(r:RelV x u):absV u=ZA x:=by
 cases x with
 |non=>cases r;rfl
 |bl _=>cases r;rfl
 |int _=>obtain⟨t,rfl⟩:=r;rfl
 |str _=>obtain⟨t,rfl⟩:=r;rfl
 |byt _=>obtain⟨t,rfl⟩:=r;rfl
 |flt _=>obtain⟨t,rfl⟩:=r;rfl
 |ref _=>cases r;rfl
 |ty _=>cases r;rfl
variable{y:V}
def RelV.inj{x:V}{u:N9}(r:RelV x u)(q:RelV y u):x=y:=O0 (r.abs.symm.trans q.abs)
theorem Vals.inj:∀{xs ys:List V}{us:List N9},Vals xs us->Vals ys us->xs=ys:=by
 intro xs ys us h;induction h generalizing ys with
 |nil=>intro k;cases k;rfl
 |cons r t i=>intro k;cases k with|cons r' k=>rw[r.inj r',i k]
section
variable {ys:List V}
def SqL.of(h:H a=ZA (.lst xs)):SqL K H a xs:=.inl (.inl h)
def SqT.of(h:H a=ZA (.tup xs)):SqT K H a xs:=.inl (.inl h)
def Inv.list(I:Inv X kt σ H s)(h:SqL X.K H a xs):∃its:List N9,Vals xs its/\PlainL s.heap a its.toArray/\xs.length<=ZI:=by
 rcases h with h|⟨o,its,n,hk,hc,hd,hs,hz,r⟩
 .obtain⟨z,its,n,r,e⟩:=h.ok I.hok;exact⟨its,r,⟨_,n,e,rfl,rfl,rfl⟩,z⟩
 .refine⟨its.toList,r,⟨o,n,I.kIn a o hk,hc,hd,by simpa using hs⟩,?_⟩;have e:=r.length;simp only[PC]at e;omega
def Inv.tuple(I:Inv X kt σ H s)(h:SqT X.K H a xs):∃its:List N9,Vals xs its/\WE s.heap a its.toArray/\xs.length<=ZI:=by
 rcases h with h|⟨o,its,n,hk,hc,hs,hz,r⟩
 .obtain⟨z,its,r,p⟩:=h.ok I.hok;exact⟨its,r,p,z⟩
 .refine⟨its.toList,r,⟨o,I.kIn a o hk,hc,n,by simpa using hs⟩,?_⟩;have e:=r.length;simp only[PC]at e;omega
def Inv.Nm(I:Inv X kt σ H s)(h:SqL X.K H a xs)(h':SqL X.K H a ys):xs=ys:=by
 obtain⟨its,r,⟨o,n,e,_,_,d⟩,_⟩:=I.list h;obtain⟨its',r',⟨o',n',e',_,_,d'⟩,_⟩:=I.list h';rw[e]at e';cases e';rw[d]at d';injection d' with d1 _;have:its=its':=by simpa using congrArg T9 d1
 subst this;exact r.inj r'
def Inv.Nq(I:Inv X kt σ H s)(h:SqT X.K H a xs)(h':SqT X.K H a ys):xs=ys:=by
 obtain⟨its,r,⟨o,e,_,n,d⟩,_⟩:=I.tuple h;obtain⟨its',r',⟨o',e',_,n',d'⟩,_⟩:=I.tuple h';rw[e]at e';cases e';rw[d]at d';injection d' with d1 _;have:its=its':=by simpa using congrArg T9 d1
 subst this;exact r.inj r'
end
noncomputable abbrev Cx.FB(X:Cx)(E:W1):Cx:={X with xe:=E}
noncomputable abbrev Cx.nox(X:Cx):Cx:=X.FB λ_ _=>False
def Cx.Ok.FB(ok:X.Ok)(E:W1):(X.FB E).Ok:=
 ⟨ok.mod,ok.kind,ok.glob,ok.blt,ok.above,ok.inj,ok.has,ok.cab,ok.hd,ok.frames,ok.stk,ok.exf,ok.bs,ok.bsz,ok.noex,ok.exfs,ok.funs,ok.frf⟩
def Cx.Ok.KB(ok:(X.FB E).Ok):X.Ok:=
 ⟨ok.mod,ok.kind,ok.glob,ok.blt,ok.above,ok.inj,ok.has,ok.cab,ok.hd,ok.frames,ok.stk,ok.exf,ok.bs,ok.bsz,ok.noex,ok.exfs,ok.funs,ok.frf⟩
theorem Inv.FB(I:Inv X kt σ H s)(E:W1):Inv (X.FB E) kt σ H s:=⟨I.ok.FB E,I.os,I.bare,I.base,I.loc,I.cell,I.free,I.freeC,I.pin,I.hok,I.len⟩
theorem Inv.KB(I:Inv (X.FB E) kt σ H s):Inv X kt σ H s:=⟨I.ok.KB,I.os,I.bare,I.base,I.loc,I.cell,I.free,I.freeC,I.pin,I.hok,I.len⟩
theorem SP.KB{D:nL}{f:Flow}(h:SP (X.FB E) kt D f s'):SP X kt D f s':=by
 cases f with
 |next=>obtain⟨σ',H',I,q⟩:=h;exact⟨σ',H',I.KB,q⟩
 |brk=>obtain⟨σ',H',I,q⟩:=h;exact⟨σ',H',I.KB,q⟩
 |cont=>obtain⟨σ',H',I,q⟩:=h;exact⟨σ',H',I.KB,q⟩
 |ret u=>obtain⟨v,σ',H',I,r,q⟩:=h;exact⟨v,σ',H',I.KB,r,q⟩
def PSs.nox{st:List ZF}{t:TS}(h:PSs X.nox st t):PSs X st t:=λkt s σ H D I hw=>
 PX (h kt s σ H D (I.FB _) hw) (λ_ _ q=>q.KB) λ_ _ z=>PM z
variable{tc:TT}{te:TE}
section
variable {st:ZF}{bK:List ZF}{t u:TS}
def KW:TS:=λD σ H=>D.nx σ H
def tSeq(t u:TS):TS:=λD σ H=>t {D with nx:=u D} σ H
def yM:PSs X [] KW:=λ_ _ σ H _ I h=>R0 ⟨σ,H,I,h⟩
def oQ(h1:PS X st t)(h2:PSs X bK u):PSs X (st::bK) (tSeq t u):=by
 intro kt s σ H D I h;refine Wb (bR (h1 kt s σ H {D with nx:=u D} I h) λf s1 q=>?_);cases f with
 |next=>
  obtain⟨σ',H',I',q⟩:=q;exact h2 kt s1 σ' H' D I' q
 |ret v=>exact q
 |brk=>exact q
 |cont=>exact q
def nR(h1:PS X st t):PSs X [st] t:=by
 intro kt s σ H D I h;refine Wb (bR (h1 kt s σ H D I h) λf s1 q=>?_);cases f with
 |next=>exact R0 q
 |ret v=>exact q
 |brk=>exact q
 |cont=>exact q
def K3:TS:=λD σ H=>D.ct σ H
def u6:PS X (.Continue pos) K3:=λ_ _ σ H _ I h=>wpAny_Continue ⟨σ,H,I,h⟩
def Inv.quiet(I:Inv X kt σ H s):interactive X.env=ZD:=by simp[interactive,I.ok.kind]
def K1(te:TE):TS:=λD σ H=>te σ H λ_ H1=>D.nx σ H1
def iw(he:PE X e te)(hs:autoParam (Pb e ZB pos.line X.env=pure ZD) u_):PS X (.Expr e pos) (K1 te):=by intro kt s σ H D I h;exact wpAny_Expr_any (bR (he kt s σ H _ I h) λv s1 ⟨x,H1,I1,r1,q1⟩=>⟨σ,H1,I1,q1⟩) I.quiet hs
def tRet(te:TE):TS:=λD σ H=>te σ H D.rt
def xc(he:PE X e te):PS X (.Return (ZA e) pos) (tRet te):=by intro kt s σ H D I h;exact wpAny_Return_some (bR (he kt s σ H _ I h) λv s1 ⟨x,H1,I1,r1,q1⟩=>⟨x,σ,H1,I1,r1,q1⟩)
def tIfS(c:TT)(t u:TS):TS:=λD σ H=>c σ H λb H1=>if b=ZC then t D σ H1 else u D σ H1
def BV{a b:List ZF}(hc:PT X c tc)(ha:PSs X a t)(hb:PSs X b u):PS X (.If c a b pos) (tIfS tc t u):=by
 intro kt s σ H D I h;refine wpAny_If (bR (hc kt s σ H _ I h) λd s1 hh_=>?_);obtain⟨H1,I1,q1⟩:=hh_;cases d with
 |true=>exact ha kt s1 σ H1 D I1 q1
 |false=>exact hb kt s1 σ H1 D I1 q1
end
abbrev TG:=V->St->Hp->(St->Hp->Prop)->Prop
abbrev GQ:=List V->St->Hp->(St->Hp->Prop)->Prop
def PG(X:Cx)(target:ZG)(t:TG):Prop:=
 ∀(kt:W2)(s:Ob)(σ:St)(H:Hp)(v:V)(u:N9)(Q:St->Hp->Prop),Inv X kt σ H s->RelV v u->t v σ H Q ->
  ZJ (ZK X.prog X.w) X.A (assign target X.env u) (λ_ s'=>∃σ' H',Inv X kt σ' H' s'/\Q σ' H') X.xe s
def PGs(X:Cx)(ts:List ZG)(t:GQ):Prop:=
 ∀(kt:W2)(s:Ob)(σ:St)(H:Hp)(vs:List V)(us:List N9)(Q:St->Hp->Prop),Inv X kt σ H s->Vals vs us->t vs σ H Q ->
  ZJ (ZK X.prog X.w) X.A (assignInOrder ((Qc ts X.env).map (·.2)) us) (λ_ s'=>∃σ' H',Inv X kt σ' H' s'/\Q σ' H') X.xe s
abbrev M7:=V->V->Hp->VK->Prop
def PIp(X:Cx)(op:Wh)(t:M7):Prop:=
 ∀(kt:W2)(s:Ob)(σ:St)(H:Hp)(x y:V)(v u:N9)(Q:VK),Inv X kt σ H s->RelV x v->RelV y u->t x y H Q ->
  ZJ (ZK X.prog X.w) X.A (inplaceOp op v u) (EP X kt σ Q) X.xe s
variable{es:List ZG}{pos':Pos}{tg:ZG}
def Dn(i:Nat):TG:=λv σ H Q=>Q (σ.set i (ZA v)) H
def yQ(hN:X.N.Nodup)(hi:X.N[i]?=ZA x)(hx:Loc X.env.scope x)(hf:autoParam (X.fn x=ZC\/X.env.scope.names.lookup x=ZA .local) r_):PG X (.Name x pos) (Dn i):=by intro kt s σ H v u Q I r h;exact VA (k9 I hN hi hx r (λs' I'=>⟨_,H,I',h⟩) hf)
def gNil:GQ:=λvs σ H Q=>vs=[]/\Q σ H
def Mv(t:TG)(u:GQ):GQ:=λvs σ H Q=>∃v r,vs=v::r/\t v σ H λσ' H'=>u r σ' H' Q
def FF:PGs X [] gNil:=by intro kt s σ H vs us Q I r h;obtain⟨e,h⟩:=h;subst e;cases r;exact assignInOrder_nil ⟨σ,H,I,h⟩
def B1{t:TG}{u:GQ}(h1:PG X e t)(h2:PGs X es u)
  (hs:autoParam ((Qc (e::es) X.env).map (·.2)=assign e X.env::(Qc es X.env).map (·.2)) u_):PGs X (e::es) (Mv t u):=by
 intro kt s σ H vs us Q I r h;obtain⟨v,vr,e1,h⟩:=h;subst e1;cases r with
 |cons r rr=>
  rw[hs];refine assignInOrder_cons (bR (h1 kt s σ H _ _ _ I r h) λ_ s1 hh_=>?_);obtain⟨σ1,H1,I1,q1⟩:=hh_;exact h2 kt s1 σ1 H1 _ _ Q I1 rr q1
def gTup(K:N7)(n:Nat)(t:GQ):TG:=λv σ H Q=>∃a xs,v=.ref a/\SqT K H a xs/\xs.length=n/\t xs σ H Q
def IY{t:GQ}(hc:X.calm=ZC)(h:PGs X es t)
  (hn:autoParam ((Qc es X.env).length=n) u_) (hst:autoParam ((Qc es X.env).findIdx? (·.1)=ZB) u_):PG X (.Tuple es k pos) (gTup X.K n t):=by
 intro kt s σ H v u Q I r hw;obtain⟨a,xs,e1,hq,hl,hw⟩:=hw;subst e1;cases r;obtain⟨its,rv,ht,hz⟩:=I.tuple hq;refine assign_Tuple_tuple (I.ok.hd hc) ht (by simp[hn,<-hl,rv.length]) hst λh' hx=>?_;have I1:Inv X kt σ H {s with heap:=h'}:=I.kept (t':=s.toks) λb o e=>hx b o (Pj (Os e)) e;exact h kt _ σ H xs _ Q I1 (by simpa using rv) hw
def EN(te:TE)(g:TG):TS:=λD σ H=>te σ H λx H1=>g x σ H1 D.nx
def IV{g:TG}(he:PE X e te)(hg:PG X tg g)(hs:autoParam (Va [tg] e pos.line X.env=pure ZD) u_)(hw:autoParam (Vb [tg] e X.env=pure ZB) u_)
  (h1:autoParam ((Qc [tg] X.env).map (·.2)=[assign tg X.env]) u_):PS X (.Assign [tg] e pos) (EN te g):=by
 intro kt s σ H D I h;refine wpAny_Assign_stores (bR (he kt s σ H _ I h) λv s1 ⟨x,H1,I1,r1,q1⟩=>?_) hs hw;rw[h1];exact bR (hg kt s1 σ H1 x v _ I1 r1 q1) λ_ s2 q=>q
def oR(hN:X.N.Nodup)(hi:X.N[i]?=ZA x)(hx:Loc X.env.scope x)(he:PE X e te)(hs:autoParam (Pb e (ZA (.Name x pos')) pos.line X.env=pure ZD) u_)(hf:autoParam (X.fn x=ZC\/X.env.scope.names.lookup x=ZA .local) r_):
  PS X (.Assign [.Name x pos'] e pos) (EN te (Dn i)):=by
 intro kt s σ H D I h;refine wpAny_Assign_Name (bR (he kt s σ H _ I h) λv s1 ⟨y,H1,I1,r1,q1⟩=>?_) hs;exact k9 I1 hN hi hx r1 (λs2 I2=>⟨_,H1,I2,q1⟩) hf
def tAug(i:Nat)(te:TE)(ti:M7):TS:=λD σ H=>∃x,σ[i]?=ZA (ZA x)/\te σ H λy H1=>ti x y H1 λz H2=>D.nx (σ.set i (ZA z)) H2
def IU{op:Wh}{ti:M7}(hN:X.N.Nodup)(hi:X.N[i]?=ZA x)(hx:Loc X.env.scope x)(he:PE X e te)(ho:PIp X op ti)(hf:autoParam (X.fn x=ZC\/X.env.scope.names.lookup x=ZA .local) r_):
  PS X (.AugAssign (.Name x pos') op e pos) (tAug i te ti):=by
 intro kt s σ H D I h;obtain⟨v,e1,h⟩:=h;obtain⟨m,hn,hl⟩:=I.loc;have vis:kA X.env.scope x:=by rcases hx with k|k;exact .inl k;exact .inr (.inl k)
 obtain⟨u,r,l⟩:=hl i x v hi e1 vis;refine wpAny_AugAssign_Name ?_;have go:ZJ (ZK X.prog X.w) X.A (eval e X.env) (λw s₂=>ZJ (ZK X.prog X.w) X.A (inplaceOp op u w) (λr s₃=>ZJ (ZK X.prog X.w) X.A (storeName X.env x r) (λ_=>SP X kt D .next) X.xe s₃) X.xe s₂) X.xe s:=by refine bR (he kt s σ H _ I h) λw s1 hh_=>?_;obtain⟨y,H1,I1,r1,q1⟩:=hh_;refine bR (ho kt s1 σ H1 v y u w _ I1 r r1 q1) λz s2 hh_=>?_;obtain⟨zv,H2,I2,r2,q2⟩:=hh_;exact k9 I2 hN hi hx r2 (λs3 I3=>⟨_,H2,I3,q2⟩) hf
 rcases l with⟨hk,hm⟩|⟨hk,c,hc,hcell⟩
 .exact UE I.ok.kind hk hn hm go
 .rcases hk with hk|hk
  .exact UT I.ok.kind hk hc hcell go
  .rcases hx with k|k
   .have:X.env.scope.names.lookup x=ZA .free:=hk;rw[k]at this;cases this
   .have:X.env.scope.names.lookup x=ZA .free:=hk;rw[k]at this;cases this
def ipI(f:Int->Int->Int):M7:=λx y H Q=>∃i j,x=.int i/\y=.int j/\Q (.int (f i j)) H
def JY:PIp X .Add (ipI λi j=>i+j):=by intro kt s σ H x y v u Q I r1 r2 h;obtain⟨i,j,e1,e2,q⟩:=h;subst e1;subst e2;obtain⟨t,rfl⟩:=r1;obtain⟨t',rfl⟩:=r2;exact iadd_int ⟨.int _,H,I.tok _,⟨_,rfl⟩,q⟩
variable{body:List ZF}
def wR(c:TT)(tb:TS):TS:=λD σ H=>∃W:Nat->St->Hp->Prop,(∃m,W m σ H)/\∀m σ H,W m σ H ->
 c σ H λb H1=>if b=ZC then ∃N:St->Hp->Prop,(∀σ' H',N σ' H'->∃m',m'<m/\W m' σ' H')/\tb {D with nx:=N,ct:=N,bk:=D.nx} σ H1 else D.nx σ H1
def BU{tb:TS}(hp:PassesOwn (ZK X.prog X.w) X.A X.env X.xe)(hc:PT X c tc)(hb:PSs X body tb):PS X (.While c body [] pos) (wR tc tb):=by
 intro kt s σ H D I h;obtain⟨W,⟨m0,w0⟩,turn⟩:=h;refine wpAny_While (codeAny_whileLoop (λn s'=>∃σ' H',Inv X kt σ' H' s'/\W n σ' H') ?_ m0 ⟨σ,H,I,w0⟩);rintro n s1 ⟨σ1,H1,I1,w1⟩;refine Ww hp (bR (hc kt s1 σ1 H1 _ I1 (turn n σ1 H1 w1)) λb s2 hh_=>?_);obtain⟨H2,I2,q2⟩:=hh_;cases b with
 |true=>
  obtain⟨N,hN,q2⟩:=q2;rw[if_pos rfl];refine Ww hp (bR (hb kt s2 σ1 H2 _ I2 q2) λf s3 q3=>?_);cases f with
  |next=>
   obtain⟨σ3,H3,I3,n3⟩:=q3;obtain⟨m',hm,w3⟩:=hN σ3 H3 n3;exact⟨m',hm,σ3,H3,I3,w3⟩
  |cont=>
   obtain⟨σ3,H3,I3,n3⟩:=q3;obtain⟨m',hm,w3⟩:=hN σ3 H3 n3;exact⟨m',hm,σ3,H3,I3,w3⟩
  |brk=>exact q3
  |ret v=>exact q3
 |false=>
  rw[if_neg OB];exact R0 ⟨σ1,H2,I2,q2⟩
structure It where
 go:Nat->Hp->Prop
 yld:Nat->Hp->V->Hp->Prop
 stop:Nat->Hp->Prop
def p6(X:Cx)(kt:W2)(H:Hp)(b:ZE):Prop:=
 H b=ZB/\b≠X.env.locals/\b∉X.fs/\(b∈X.ex\/X.s₀.heap.objs.size<=b)/\(∀x c,X.env.cells.lookup x=ZA c->c≠b)/\∀p∈X.pn++kt,p.1≠b
def Inv.Ny(I:Inv X kt σ H s)(hb:s.heap.objs.size<=b)(hn:H' b=ZB):p6 X kt H' b:=by
 refine⟨hn,Q8 (Oo I.lt hb),I.N4 hb,.inr (OV I.sz hb),λx c e z=>?_,λp hp z=>?_⟩
 .obtain⟨v,q⟩:=I.cell x c e;exact absurd (Oo q.lt (by rw[z];exact hb)) (OU _)
 .exact absurd (Oo (Os (I.pin p hp).1) (by rw[z];exact hb)) (OU _)
structure A6 (P:OM)(w:Pm)(K:N7)(tg:ZG)(J:It)(fp:List ZE)(it:ZE)(tn:Nat->ZH->Prop):Prop where
 mem:it∈fp
 obj:∀i h,tn i h->∀b∈fp,∃o,h.get? b=ZA o/\∀v,o.data≠ .cell v
 keep:∀i h h',tn i h->(∀b∈fp,∀o,h.get? b=ZA o->h'.get? b=ZA o)->tn i h'
 item:∀(X:Cx),X.prog=P->X.w=w->X.K=K->X.calm=ZC->∀(i:Nat)(kt:W2)(s:Ob)(σ:St)(H:Hp)(E:W1),Inv X kt σ H s->(∀b∈fp,p6 X kt H b)->tn i s.heap->J.go i H ->
  ZJ (ZK P w) X.A (pyNext (.ref it)) (λr s1=>∃u,r=ZA u ∧
   ZJ (ZK P w) X.A (R1 tg (.ref it) u) (λ_ s2=>∃x H',Inv X kt σ H' s2/\RelV x u/\J.yld i H x H'/\tn (i+1) s2.heap/\∀b∈fp,H' b=ZB) E s1) E s
 done:∀(X:Cx),X.prog=P->X.w=w->X.K=K->X.calm=ZC->∀(i:Nat)(kt:W2)(s:Ob)(σ:St)(H:Hp)(E:W1),Inv X kt σ H s->(∀b∈fp,p6 X kt H b)->tn i s.heap->J.stop i H ->
  ZJ (ZK P w) X.A (pyNext (.ref it)) (λr s1=>r=ZB/\Inv X kt σ H s1) E s
 self:∀(A:OY)(i:Nat)(s:Ob)(Q:W1)(E:W1),tn i s.heap->Q (.ref it) s->ZJ (ZK P w) A (pyIter (.ref it)) Q E s
abbrev TI:=St->Hp->(It->Hp->Prop)->Prop
def PIE(X:Cx)(kt:W2)(σ:St)(tg:ZG)(R:It->Hp->Prop)(itv:N9)(s2:Ob):Prop:=
 ∃(it:ZE)(fp:List ZE)(tn:Nat->ZH->Prop)(J:It)(H':Hp),itv=.ref it/\Inv X kt σ H' s2/\A6 X.prog X.w X.K tg J fp it tn/\tn 0 s2.heap/\(∀b∈fp,p6 X kt H' b)/\R J H'
def PI(X:Cx)(tg iter:ZG)(wi:TI):Prop:=
 ∀(kt:W2)(s:Ob)(σ:St)(H:Hp)(R:It->Hp->Prop),Inv X kt σ H s->wi σ H R ->
  ZJ (ZK X.prog X.w) X.A (eval iter X.env) (λv s1=>ZJ (ZK X.prog X.w) X.A (pyIter v) (PIE X kt σ tg R) X.xe s1) X.xe s
def zF{u:N9}{o:Obj}{n:String}{vs:Array N9}{Q:Unit->Ob->Prop}(ho:s.heap.get? it=ZA o)(hc:o.cls=.type n)(hd:o.data=.fields vs)
  (hn:["enumerate","zip","dict_itemiterator","dict_reverseitemiterator","odict_iterator","itertools.zip_longest","itertools.pairwise"].contains n=ZD) (hQ:Q () s):ZJ M A (R1 tg (.ref it) u) Q E s:=by
 unfold R1;cases tg <;> first
  |exact Ou hQ
  | (cases u <;> first
    |exact Ou hQ
    | (refine Od (wpAny_load ho ?_)
       rw[hc,hd];show ZJ M A (if (["enumerate","zip","dict_itemiterator","dict_reverseitemiterator","odict_iterator","itertools.zip_longest","itertools.pairwise"].contains n&&vs[0]? == ZA (rawInt _))=ZC then _ else _) Q E s;rw[if_neg (by intro h;rw[hn,RG]at h;cases h)];exact Ou hQ))
def Itl(K:N7)(a:ZE):It:=
 ⟨λi H=>∃xs x,SqL K H a xs/\xs[i]?=ZA x,λi H x H'=>H'=H/\∀xs,SqL K H a xs->xs[i]?=ZA x,λi H=>∃xs,SqL K H a xs/\xs.length<=i⟩
noncomputable def Itt(K:N7)(a:ZE):It:=
 ⟨λi H=>∃xs x,SqT K H a xs/\xs[i]?=ZA x,λi H x H'=>H'=H/\∀xs,SqT K H a xs->xs[i]?=ZA x,λi H=>∃xs,SqT K H a xs/\xs.length<=i⟩
def Itr(lo:Int)(n:Nat):It:=⟨λi _=>i<n,λi H x H'=>H'=H/\x=.int (lo+i),λi _=>n<=i⟩
def Ac(a it:ZE):A6 P w K tg (Itl K a) [it] it (λi h=>h.IsListIter it a i) where
 mem:=by simp
 obj:=λi h st b hb=>by
  have e:b=it:=by simpa using hb
  subst e;obtain⟨o,e,c,d⟩:=st;exact⟨o,e,λv z=>by rw[d]at z;cases z⟩
 keep:=λi h h' st k=>st.at λo e=>k it (by simp) o e
 item:=by intro X hP hw hK hc i kt s σ H E I hf st hg;subst hP hw hK;obtain⟨xs,x,hq,hx⟩:=hg;obtain⟨its,rv,p,hz⟩:=I.list hq;obtain⟨u,hu,ru⟩:=rv.get hx;obtain⟨f0,f1,f2,f3,f4,f5⟩:=hf it (by simp);refine T5 st p.isList (x:=u) (by simpa using hu) λh' st' sb=>?_;have I1:Inv X kt σ H {s with heap:=h'}:=I.turned (t':=s.toks) (λb o hb e=>(sb.2 b hb).trans e) f0 f1 f3 f4 f5;obtain⟨o,e,c,d⟩:=id st';exact⟨u,rfl,zF (s:={s with heap:=h'}) e c d (by decide) ⟨x,H,I1,ru,⟨rfl,λys hy=>by rw[I.Nm hy hq];exact hx⟩,st',λb hb=>(hf b hb).1⟩⟩
 done:=by intro X hP hw hK hc i kt s σ H E I hf st hg;subst hP hw hK;obtain⟨xs,hq,hx⟩:=hg;obtain⟨its,rv,p,hz⟩:=I.list hq;obtain⟨f0,f1,f2,f3,f4,f5⟩:=hf it (by simp);have hl:=rv.length;exact Uq (I.ok.hd hc) st p.isList (by simp;omega) λh' eb=>⟨rfl,I.turned (t':=s.toks) (λb o hb e=>eb b o hb e) f0 f1 f3 f4 f5⟩
 self:=λ_ _ _ _ _ st h=>wpAny_pyIter_listiter st h
def wO(a it:ZE):A6 P w K tg (Itt K a) [it] it (λi h=>h.IsTupleIter it a i) where
 mem:=by simp
 obj:=λi h st b hb=>by
  have e:b=it:=by simpa using hb
  subst e;obtain⟨o,e,c,d⟩:=st;exact⟨o,e,λv z=>by rw[d]at z;cases z⟩
 keep:=λi h h' st k=>st.at λo e=>k it (by simp) o e
 item:=by intro X hP hw hK hc i kt s σ H E I hf st hg;subst hP hw hK;obtain⟨xs,x,hq,hx⟩:=hg;obtain⟨its,rv,p,hz⟩:=I.tuple hq;obtain⟨u,hu,ru⟩:=rv.get hx;obtain⟨f0,f1,f2,f3,f4,f5⟩:=hf it (by simp);refine wpAny_pyNext_tuple_item st (show s.heap.IsTuple a its.toArray from p) (x:=u) (by simpa using hu) λh' st' sb=>?_;have I1:Inv X kt σ H {s with heap:=h'}:=I.turned (t':=s.toks) (λb o hb e=>(sb.2 b hb).trans e) f0 f1 f3 f4 f5;obtain⟨o,e,c,d⟩:=id st';exact⟨u,rfl,zF (s:={s with heap:=h'}) e c d (by decide) ⟨x,H,I1,ru,⟨rfl,λys hy=>by rw[I.Nq hy hq];exact hx⟩,st',λb hb=>(hf b hb).1⟩⟩
 done:=by intro X hP hw hK hc i kt s σ H E I hf st hg;subst hP hw hK;obtain⟨xs,hq,hx⟩:=hg;obtain⟨its,rv,p,hz⟩:=I.tuple hq;obtain⟨f0,f1,f2,f3,f4,f5⟩:=hf it (by simp);have hl:=rv.length;exact wpAny_pyNext_tuple_end (I.ok.hd hc) st (show s.heap.IsTuple a its.toArray from p) (by simp;omega) λh' eb=>⟨rfl,I.turned (t':=s.toks) (λb o hb e=>eb b o hb e) f0 f1 f3 f4 f5⟩
 self:=λ_ _ _ _ _ st h=>wpAny_pyIter_tupleiter st h
def wQ(it:ZE)(lo:Int)(n:Nat):A6 P w K tg (Itr lo n) [it] it (λi h=>IsRangeIter h it (lo+(i:Nat)*1) ((n:Int) - (i:Nat)) 1) where
 mem:=by simp
 obj:=λi h st b hb=>by
  have e:b=it:=by simpa using hb
  subst e;exact⟨_,st,λv z=>by have z':Wm _=Data.cell v:=z;cases z'⟩
 keep:=λi h h' st k=>k it (by simp) _ st
 item:=by intro X hP hw hK hc i kt s σ H E I hf st hg;subst hP hw hK;obtain⟨f0,f1,f2,f3,f4,f5⟩:=hf it (by simp);have W:=Walks.range (prog:=X.prog) (w:=X.w) (I.ok.hd hc) it lo 1 n;refine W.item i s _ _ hg st λv h' tk hv st' kk=>?_;obtain⟨t,rfl⟩:=hv;have I1:Inv X kt σ H {s with heap:=h',toks:=tk}:=I.turned (λb o hb e=>kk b o (by simpa using hb) e) f0 f1 f3 f4 f5;refine⟨_,rfl,zF (s:={s with heap:=h',toks:=tk}) (n:="range_iterator") st' rfl rfl (by decide) ⟨.int (lo+i),H,I1,⟨t,?_⟩,⟨rfl,rfl⟩,st',λb hb=>(hf b hb).1⟩⟩;rw[Int.mul_one]
 done:=by intro X hP hw hK hc i kt s σ H E I hf st hg;subst hP hw hK;obtain⟨f0,f1,f2,f3,f4,f5⟩:=hf it (by simp);exact wpAny_pyNext_range_end (I.ok.hd hc) st (by have:n<=i:=hg;omega) λh' eb=>⟨rfl,I.turned (t':=s.toks) (λb o hb e=>eb b o hb e) f0 f1 f3 f4 f5⟩
 self:=λ_ _ _ _ _ st h=>wpAny_pyIter_rangeiter st h
variable{fp:List ZE}{l:ZG}{tl:TE}
def Mu(K:N7)(tl:TE):TI:=λσ H R=>tl σ H λx H1=>∃a,x=.ref a/\(∃xs,SqL K H1 a xs)/\R (Itl K a) H1
def iTup(K:N7)(tl:TE):TI:=λσ H R=>tl σ H λx H1=>∃a,x=.ref a/\(∃xs,SqT K H1 a xs)/\R (Itt K a) H1
def yP(hl:PE X l tl):PI X tg l (Mu X.K tl):=by
 intro kt s σ H R I h;refine bR (hl kt s σ H _ I h) λv s1 hh_=>?_;obtain⟨x,H1,I1,r1,q1⟩:=hh_;obtain⟨a,e,⟨xs,hq⟩,q⟩:=q1;subst e;cases r1;obtain⟨its,rv,p,hz⟩:=I1.list hq;refine TC p.isList ?_;refine⟨s1.heap.objs.size,[s1.heap.objs.size],_,_,H1,rfl,I1.kept (t':=s1.toks) λb o e=>Om _ e,Ac a _,⟨_,OI _ rfl,rfl,rfl⟩,λb hb=>?_,q⟩;have e:b=s1.heap.objs.size:=by simpa using hb
 subst e;exact I1.Ny (On _) (I1.hok.fresh (On _))
def IX(hl:PE X l tl):PI X tg l (iTup X.K tl):=by
 intro kt s σ H R I h;refine bR (hl kt s σ H _ I h) λv s1 hh_=>?_;obtain⟨x,H1,I1,r1,q1⟩:=hh_;obtain⟨a,e,⟨xs,hq⟩,q⟩:=q1;subst e;cases r1;obtain⟨its,rv,p,hz⟩:=I1.tuple hq;refine R3 (show s1.heap.IsTuple a its.toArray from p) ?_;refine⟨s1.heap.objs.size,[s1.heap.objs.size],_,_,H1,rfl,I1.kept (t':=s1.toks) λb o e=>Om _ e,wO a _,⟨_,OI _ rfl,rfl,rfl⟩,λb hb=>?_,q⟩;have e:b=s1.heap.objs.size:=by simpa using hb
 subst e;exact I1.Ny (On _) (I1.hok.fresh (On _))
def lj{R:It->Hp->Prop}{lo hi:Int}{t u v:Tok}{tk:Nat}(I:Inv X kt σ H s)(h1 : -(2 ^ 62)<=lo)(h2:lo<2 ^ 62)(h3 : -(2 ^ 62)<=hi)(h4:hi<2 ^ 62)
  (q:R (Itr lo (hi - lo).toNat) H):ZJ (ZK X.prog X.w) X.A (pyIter (.ref s.heap.objs.size)) (PIE X kt σ tg R) E {s with heap:=s.heap.push {cls:=.type "range",data:=.fields #[.int lo t,.int hi u,.int 1 v]},toks:=tk}:=by
 refine wpAny_pyIter_range (IsRange.new ..) (small_one h1 h2 h3 h4) ?_;have I1:Inv X kt σ H {s with heap:=s.heap.push {cls:=.type "range",data:=.fields #[.int lo t,.int hi u,.int 1 v]},toks:=tk}:=I.kept λb o e=>Om _ e;refine⟨(s.heap.push {cls:=.type "range",data:=.fields #[.int lo t,.int hi u,.int 1 v]}).objs.size,[(s.heap.push {cls:=.type "range",data:=.fields #[.int lo t,.int hi u,.int 1 v]}).objs.size],_,_,H,rfl,
  I1.kept (t':=tk) λb o e=>Om _ e,wQ _ lo (hi - lo).toNat,?_,λb hb=>?_,q⟩
 .have e1:lo+((0:Nat):Int)*1=lo:=by simp
  have e2:(((hi - lo).toNat:Nat):Int) - ((0:Nat):Int)=Builtin.Range.rangeSize lo hi 1:=by rw[rangeSize_one];split <;> omega
  show IsRangeIter _ _ (lo+((0:Nat):Int)*1) ((((hi - lo).toNat:Nat):Int) - ((0:Nat):Int)) 1;rw[e1,e2];exact OI _ rfl
 .have e:b=(s.heap.push {cls:=.type "range",data:=.fields #[.int lo t,.int hi u,.int 1 v]}).objs.size:=by simpa using hb
  subst e;exact I1.Ny (On _) (I1.hok.fresh (On _))
def tFor(wi:TI)(g:TG)(tb:TS):TS:=λD σ H=>wi σ H λJ H1=>∃W:Nat->Nat->St->Hp->Prop,(∃m,W 0 m σ H1)/\∀i m σ H,W i m σ H ->
 (J.stop i H/\D.nx σ H)\/(J.go i H/\∃N:St->Hp->Prop,(∀σ' H',N σ' H'->∃m',m'<m/\W (i+1) m' σ' H')/\∀x H',J.yld i H x H'->g x σ H' λσ2 H2=>tb {D with nx:=N,ct:=N,bk:=D.nx} σ2 H2)
noncomputable def oS(fp:List ZE)(h:ZH):W2:=fp.filterMap λb=>(h.get? b).map λo=>(b,o)
def iz{o:Obj}(hb:b∈fp)(e:h.get? b=ZA o):(b,o)∈oS fp h:=Te.mpr ⟨b,hb,by rw[e];rfl⟩
def Ax{p:ZE×Obj}(hp:p∈oS fp h):p.1∈fp/\h.get? p.1=ZA p.2:=by
 obtain⟨b,hb,e⟩:=Te.mp hp;cases q:h.get? b with
 |none=>rw[q]at e;cases e
 |some o=>
  rw[q]at e;have e':(b,o)=p:=O0 e;subst e';exact⟨hb,q⟩
def Inv.pinned(I:Inv X kt σ H s)(hf:∀b∈fp,p6 X kt H b)(ho:∀b∈fp,∃o,s.heap.get? b=ZA o/\∀v,o.data≠ .cell v):Inv X (kt++oS fp s.heap) σ H s:=
 I.Nz λp hp=>(Ox.mp hp).elim (λz=>I.pin p (ON _ z)) λz=>by obtain⟨hb,e⟩:=Ax z;obtain⟨f0,f1,f2,_⟩:=hf p.1 hb;obtain⟨o,e',d⟩:=ho p.1 hb;rw[e]at e';cases e';exact⟨e,f0,f1,f2,d⟩
def Inv.Ng{pl:W2}(I:Inv X (kt++pl) σ H s):Inv X kt σ H s:=I.Nz λp hp=>I.pin p (ON _ (OL _ hp))
abbrev R2:=V->V->Hp->VK->Prop
def om(X:Cx)(f:N9->N9->Sem N9)(r:R2):Prop:=
 ∀(kt:W2)(s:Ob)(σ:St)(H:Hp)(x y:V)(v u:N9)(Q:VK),Inv X kt σ H s->RelV x v->RelV y u->r x y H Q ->
  ZJ (ZK X.prog X.w) X.A (f v u) (EP X kt σ Q) X.xe s
def UnR(X:Cx)(f:N9->Sem N9)(r:V->Hp->VK->Prop):Prop:=
 ∀(kt:W2)(s:Ob)(σ:St)(H:Hp)(x:V)(v:N9)(Q:VK),Inv X kt σ H s->RelV x v->r x H Q ->
  ZJ (ZK X.prog X.w) X.A (f v) (EP X kt σ Q) X.xe s
def CallR(X:Cx)(f:N9)(r:List V->Hp->VK->Prop):Prop:=
 ∀(kt:W2)(s:Ob)(σ:St)(H:Hp)(xs:List V)(us:List N9)(Q:VK),Inv X kt σ H s->Vals xs us->r xs H Q ->
  ZJ (ZK X.prog X.w) X.A (call f us) (EP X kt σ Q) X.xe s
def tOp(r:R2)(ta tb:TE):TE:=λσ H Q=>ta σ H λx H1=>tb σ H1 λy H2=>r x y H2 Q
def tUn(r:V->Hp->VK->Prop)(ta:TE):TE:=λσ H Q=>ta σ H λx H1=>r x H1 Q
def rI(C:Int->Int->Prop)(g:Int->Int->V):R2:=λx y H Q=>∃i j,x=.int i/\y=.int j/\C i j/\Q (g i j) H
def Ha(g:Int->Int->V):R2:=λx y H Q=>∃i j,x=.int i/\y=.int j/\Q (g i j) H
def rU(g:Int->V):V->Hp->VK->Prop:=λx H Q=>∃i,x=.int i/\Q (g i) H
variable{f:N9->N9->Sem N9}{r:R2}
section
variable {a b:ZG}{tb tc:TE}
def MO(ha:PE X a ta)(hb:PE X b tb){R:V->V->Hp->Prop}(I:Inv X kt σ H s)
  (h:ta σ H λx H1=>tb σ H1 λy H2=>R x y H2)  
  (hf:∀v u s2 x y H2,Inv X kt σ H2 s2->RelV x v->RelV y u->R x y H2->ZJ (ZK X.prog X.w) X.A (f v u) Q X.xe s2):
  ZJ (ZK X.prog X.w) X.A (eval a X.env) (λv s₁=>ZJ (ZK X.prog X.w) X.A (eval b X.env) (λu s₂=>ZJ (ZK X.prog X.w) X.A (f v u) Q X.xe s₂) X.xe s₁) X.xe s:=by
 refine bR (ha kt s σ H _ I h) λv s1 hh_=>?_;obtain⟨x,H1,I1,r1,q1⟩:=hh_;refine bR (hb kt s1 σ H1 _ I1 q1) λu s2 hh_=>?_;obtain⟨y,H2,I2,r2,q2⟩:=hh_;exact hf v u s2 x y H2 I2 r1 r2 q2
def LF{op:Wh}(ho:om X (P6 op) r)(ha:PE X a ta)(hb:PE X b tb):PE X (.BinOp a op b pos) (tOp r ta tb):=by intro kt s σ H Q I h;exact wpAny_BinOp (MO ha hb I h λv u s2 x y H2 I2 rx ry q=>ho kt s2 σ H2 x y v u Q I2 rx ry q)
def LC{op:UnaryOp}{r:V->Hp->VK->Prop}(ho:UnR X (unaryOp op) r)(ha:PE X a ta):PE X (.UnaryOp op a pos) (tUn r ta):=by intro kt s σ H Q I h;exact UnaryOp_ (bR (ha kt s σ H _ I h) λv s1 ⟨x,H1,I1,r1,q1⟩=>ho kt s1 σ H1 x v Q I1 r1 q1)
def opI{C:Int->Int->Prop}
  (rule:∀(i j:Int)(t u:Tok)(s:Ob)(Q:W1)(E:W1),C i j->Q (.int (g i j) s.toks) {s with toks:=s.toks+1}->ZJ (ZK X.prog X.w) X.A (f (.int i t) (.int j u)) Q E s):
  om X f (rI C λi j=>.int (g i j)):=by
 intro kt s σ H x y v u Q I rx ry h;obtain⟨i,j,rfl,rfl,hc,q⟩:=h;obtain⟨t,rfl⟩:=rx;obtain⟨t',rfl⟩:=ry;exact rule i j t t' s _ _ hc ⟨.int (g i j),H,I.tok _,⟨_,rfl⟩,q⟩
def LL 
  (rule:∀(i j:Int)(t u:Tok)(s:Ob)(Q:W1)(E:W1),Q (.int (g i j) s.toks) {s with toks:=s.toks+1}->ZJ (ZK X.prog X.w) X.A (f (.int i t) (.int j u)) Q E s):
  om X f (Ha λi j=>.int (g i j)):=by
 intro kt s σ H x y v u Q I rx ry h;obtain⟨i,j,rfl,rfl,q⟩:=h;obtain⟨t,rfl⟩:=rx;obtain⟨t',rfl⟩:=ry;exact rule i j t t' s _ _ ⟨.int (g i j),H,I.tok _,⟨_,rfl⟩,q⟩
def Jq{g:Int->Int->Bool}
  (rule:∀(i j:Int)(t u:Tok)(s:Ob)(Q:W1)(E:W1),Q (.bool (g i j)) s->ZJ (ZK X.prog X.w) X.A (f (.int i t) (.int j u)) Q E s):
  om X f (Ha λi j=>.bl (g i j)):=by
 intro kt s σ H x y v u Q I rx ry h;obtain⟨i,j,rfl,rfl,q⟩:=h;obtain⟨t,rfl⟩:=rx;obtain⟨t',rfl⟩:=ry;exact rule i j t t' s _ _ ⟨.bl (g i j),H,I,rfl,q⟩
def CDiv(i j:Int):Prop:=0<j/\j<1073741824
def CMul(i j:Int):Prop:=(-(2 ^ 64)<i/\i<2 ^ 64)\/(-(2 ^ 64)<j/\j<2 ^ 64)
def CMul.ok{i j:Int}(h:CMul i j):IntMulOk i j:=by
 rcases h with⟨h1,h2⟩|⟨h1,h2⟩
 .exact .of_left (intBits_le_64 h1 h2)
 .exact .of_right (intBits_le_64 h1 h2)
def Jp:om X (P6 .Add) (Ha λi j=>.int (i+j)):=LL λ_ _ _ _ _ _ _ q=>add_int q
def Jj:om X (P6 .Sub) (Ha λi j=>.int (i - j)):=LL λ_ _ _ _ _ _ _ q=>sub_int q
def Jl:om X (P6 .Mult) (rI CMul λi j=>.int (i*j)):=opI λ_ _ _ _ _ _ _ hc q=>mul_int q hc.ok
def FP:om X (P6 .FloorDiv) (rI CDiv λi j=>.int (i / j)):=opI λi j _ _ _ _ _ hc q=>by have h1:(0:Int)<j:=hc.1;have h2:j<1073741824:=hc.2;exact floordiv_int (by omega) (by rw[Int.fdiv_eq_ediv_of_nonneg i (by omega)];exact q) (.inl (PyProof.noPylong_small (by omega)))
def Jm:om X (P6 .Mod) (rI (λ_ j=>0<j) λi j=>.int (i % j)):=opI λi j _ _ _ _ _ hc q=>by have h1:(0:Int)<j:=hc;exact mod_int' (by omega) (by rw[Int.fmod_eq_emod_of_nonneg i (by omega)];exact q)
def unI{f:N9->Sem N9}{g:Int->Int}
  (rule:∀(i:Int)(t:Tok)(s:Ob)(Q:W1)(E:W1),Q (.int (g i) s.toks) {s with toks:=s.toks+1}->ZJ (ZK X.prog X.w) X.A (f (.int i t)) Q E s):
  UnR X f (rU λi=>.int (g i)):=by
 intro kt s σ H x v Q I rx h;obtain⟨i,rfl,q⟩:=h;obtain⟨t,rfl⟩:=rx;exact rule i t s _ _ ⟨.int (g i),H,I.tok _,⟨_,rfl⟩,q⟩
def HU:UnR X (unaryOp .USub) (rU λi=>.int (-i)):=unI λ_ _ _ _ _ q=>neg_int q
end
noncomputable def scal:V->V->Bool
 |.non,.non=>ZC|.non,.int _=>ZC|.int _,.non=>ZC|.non,.bl _=>ZC|.bl _,.non=>ZC|.non,.str _=>ZC|.str _,.non=>ZC
 |.int _,.int _=>ZC|.bl _,.bl _=>ZC|.str _,.str _=>ZC|.byt _,.byt _=>ZC
 |.int _,.str _=>ZC|.str _,.int _=>ZC|.bl _,.str _=>ZC|.str _,.bl _=>ZC
 |_,_=>ZD
def rEq:R2:=λx y H Q=>scal x y=ZC/\Q (.bl (decide (x=y))) H
def zP{i j:Int}:decide (V.int i=V.int j)=(i == j):=by rw[Rn];simp
def DM{i j:Bool}:decide (V.bl i=V.bl j)=(i == j):=by rw[Rn];simp
def GD{i j:Str}:decide (V.str i=V.str j)=(i == j):=by rw[Rn];simp
def GF{i j:Array UInt8}:decide (V.byt i=V.byt j)=(i.toList == j.toList):=by rw[Rn];cases i;cases j;simp
section
variable {a b:ZG}{tb tc:TE}
def du{Q:VK}{k k':Bool}(I:Inv X kt σ H s)(q:Q (.bl k) H)(e:k=k'):EP X kt σ Q (.bool k') s:=by subst e;exact⟨.bl k,H,I,rfl,q⟩
def Hg:om X (Pe .Eq) rEq:=by
 intro kt s σ H x y v u Q I rx ry h;obtain⟨hs,q⟩:=h;cases x with
 |non=>
  cases rx;cases y with
  |non=>cases ry;exact PySem.EqNone.eq_none_none (du I q (by simp))
  |bl j=>cases ry;exact PySem.EqNone.eq_none_bool (du I q (by simp))
  |int j=>obtain⟨t',rfl⟩:=ry;exact PySem.EqNone.eq_none_int (du I q (by simp))
  |str j=>obtain⟨t',rfl⟩:=ry;exact PySem.EqNone.eq_none_str (du I q (by simp))
  |_=>exact absurd (show ZD=ZC from hs) OB
 |bl i=>
  cases rx;cases y with
  |non=>cases ry;exact PySem.EqNone.eq_bool_none (du I q (by simp))
  |bl j=>cases ry;exact eq_bool (du I q DM)
  |str j=>obtain⟨t',rfl⟩:=ry;exact PySem.EqMixed.eq_bool_str (du I q (by simp))
  |_=>exact absurd (show ZD=ZC from hs) OB
 |int i=>
  obtain⟨t,rfl⟩:=rx;cases y with
  |non=>cases ry;exact PySem.EqNone.eq_int_none (du I q (by simp))
  |int j=>obtain⟨t',rfl⟩:=ry;exact eq_int (du I q zP)
  |str j=>obtain⟨t',rfl⟩:=ry;exact PySem.EqMixed.eq_int_str (du I q (by simp))
  |_=>exact absurd (show ZD=ZC from hs) OB
 |str i=>
  obtain⟨t,rfl⟩:=rx;cases y with
  |non=>cases ry;exact PySem.EqNone.eq_str_none (du I q (by simp))
  |bl j=>cases ry;exact PySem.EqMixed.eq_str_bool (du I q (by simp))
  |int j=>obtain⟨t',rfl⟩:=ry;exact PySem.EqMixed.eq_str_int (du I q (by simp))
  |str j=>obtain⟨t',rfl⟩:=ry;exact eq_str (du I q GD)
  |_=>exact absurd (show ZD=ZC from hs) OB
 |byt i=>
  obtain⟨t,rfl⟩:=rx;cases y with
  |byt j=>obtain⟨t',rfl⟩:=ry;exact PySem.W.eq_bytes (du I q GF)
  |_=>exact absurd (show ZD=ZC from hs) OB
 |_=>cases y <;> exact absurd (show ZD=ZC from hs) OB
def LI:om X (Pe .Lt) (Ha λi j=>.bl (decide (i<j))):=Jq λ_ _ _ _ _ _ _ q=>lt_int q
def LJ:om X (Pe .LtE) (Ha λi j=>.bl (decide (i<=j))):=Jq λ_ _ _ _ _ _ _ q=>le_int q
def LK:om X (Pe .Gt) (Ha λi j=>.bl (decide (j<i))):=Jq λ_ _ _ _ _ _ _ q=>gt_int q
def Jn:om X (Pe .Is) (λx y H Q=>y=.non/\Q (.bl (decide (x=.non))) H):=by
 intro kt s σ H x y v u Q I rx ry h;obtain⟨rfl,q⟩:=h;cases ry;refine is_none_gen (du I q ?_);cases x <;> first
  | (cases rx;rfl)
  | (obtain⟨t,rfl⟩:=rx;rfl)
def FO:om X (Pe .IsNot) (λx y H Q=>y=.non/\Q (.bl (!decide (x=.non))) H):=by
 intro kt s σ H x y v u Q I rx ry h;obtain⟨rfl,q⟩:=h;cases ry;refine isnot_none_gen (du I q ?_);cases x <;> first
  | (cases rx;rfl)
  | (obtain⟨t,rfl⟩:=rx;rfl)
def Cn(b:ZG)(h:autoParam (op≠ .In) s_)(h2:autoParam (op≠ .NotIn) s_):RD op b=ZD:=by
 have e1:(op == CmpOp.In)=ZD:=by cases op <;> first|rfl|exact absurd rfl h
 have e2:(op == CmpOp.NotIn)=ZD:=by cases op <;> first|rfl|exact absurd rfl h2
 cases b <;> simp[RD,e1,e2]
def yU(ho:om X (Pe op) r)(ha:PE X a ta)(hb:PE X b tb)(hm:RD op b=ZD):PE X (.Compare a [op] [b] pos) (tOp r ta tb):=by intro kt s σ H Q I h;exact wpAny_Compare1 (MO ha hb I h λv u s2 x y H2 I2 rx ry q=>ho kt s2 σ H2 x y v u Q I2 rx ry q) hm
def pB:(ZI:Nat)<2 ^ 63:=by rw[Qk];decide
def xj:om X (P6 .Add) (λx y H Q=>∃i j,x=.str i/\y=.str j/\i.length+j.length<=ZI/\Q (.str (i++j)) H):=by intro kt s σ H x y v u Q I rx ry h;obtain⟨i,j,rfl,rfl,hz,q⟩:=h;obtain⟨t,rfl⟩:=rx;obtain⟨t',rfl⟩:=ry;exact add_str (λt' tk=>⟨.str (i++j),H,I.tok _,⟨_,rfl⟩,q⟩) hz
def i9{x:V}(r:Vals [x] us):∃u,us=[u]/\RelV x u:=by
 cases r with
 |cons r1 r2=>cases r2;exact⟨_,rfl,r1⟩
def yz{x:V}(r:Vals [x,y] us):∃u w',us=[u,w']/\RelV x u/\RelV y w':=by
 cases r with
 |cons r1 r2=>
  cases r2 with
  |cons r3 r4=>cases r4;exact⟨_,_,rfl,r1,r3⟩
def A3(hc:X.calm=ZC):CallR X (.builtin "min") (λxs H Q=>∃i j,xs=[.int i,.int j]/\Q (.int (if j<i then j else i)) H):=by
 intro kt s σ H xs us Q I r h;obtain⟨i,j,rfl,q⟩:=h;obtain⟨u,w',rfl,⟨t,rfl⟩,⟨t',rfl⟩⟩:=yz r;refine min_two_ints (I.ok.hd hc) λh' tk k=>⟨_,H,I.kept k,?_,q⟩;by_cases hj:j<i
 .rw[if_pos hj,if_pos hj];exact⟨_,rfl⟩
 .rw[if_neg hj,if_neg hj];exact⟨_,rfl⟩
def A4:CallR X (.type "int") (λxs H Q=>(∃i,xs=[.int i]/\Q (.int i) H)\/∃k,xs=[.bl k]/\Q (.int (if k then 1 else 0)) H):=by
 intro kt s σ H xs us Q I r h;rcases h with⟨i,rfl,q⟩|⟨k,rfl,q⟩
 .obtain⟨u,rfl,t,rfl⟩:=i9 r;exact call_int_int ⟨.int i,H,I,⟨_,rfl⟩,q⟩
 .obtain⟨u,rfl,r1⟩:=i9 r;cases r1;exact call_int_bool ⟨.int (if k then 1 else 0),H,I.tok _,⟨_,rfl⟩,q⟩
end
structure ObjM (h:ZH)(x dx C:ZE)(mA:W0):Prop where
 obj:h.get? x=ZA (Qp C dx)
 ns:h.Ns1 dx mA
 ne:dx≠x
variable{dx:ZE}{mA:W0}
def AH(n:h.Ns1 dx mA):∃od,h.get? dx=ZA od/\∀name,Th name od=ZA (mA name):=by
 obtain⟨o,es,ep,ho,hd,hk,_,hm⟩:=n;refine⟨o,ho,λname=>?_⟩;have e:=hm name;unfold nsFind findBy at e;rw[<-U0]at e;unfold Th;rw[hd];dsimp only;split
 .rename_i y q;rw[q]at e;exact congrArg ZA e
 .rename_i q;rw[q]at e;have a:es.toList.any (·.refKey)=ZD:=by rw[List.any_eq_false];intro y hy;obtain⟨z,t,hkey⟩:=hk y (Array.mem_toList_iff.mp hy);simp[DictEntry.refKey,hkey]
  have a':¬ es.toList.any (·.refKey)=ZC:=by rw[a];exact OB
  rw[if_neg a'];exact congrArg ZA e
variable{C:ZE}
def ObjM.look{x:ZE}(I:ObjM h x dx C mA):∃od,PySem.W.InstAt h x (Qp C dx) C (ZA od)/\∀name,Th name od=ZA (mA name):=
 let ⟨od,ho,hl⟩:=AH I.ns
 ⟨od,⟨I.obj,rfl,rfl,ho⟩,hl⟩
variable{kw:List (Str×N9)}{name:Str}
section
variable {x f:ZE}{v:N9}
def n6(X:K.In s.heap)(I:ObjM s.heap x dx C mA)(hg:Sw K C name=ZC)(hh:Tq K C=ZC)
  (ha:Qe K (.ref C) name=ZA ZB) (hv:mA name=ZA v) (hv':V0 v=ZC) (h:Q v {s with toks:=s.toks+1}):
  ZJ (ZK prog w) A (getAttr (.ref x) name expr) Q E s:=by
 obtain⟨od,J,hl⟩:=I.look;exact PySem.W.get_value X J (SS hg).1 (PySem.W.findObj_own hh ha rfl (by rw[hl,hv])) hv' h
def Dk{pl:Sem Bool}{Q:N9×List N9->Ob->Prop}(X:K.In s.heap)(I:ObjM s.heap x dx C mA)(hg:Sw K C name=ZC)
  (hf:Qe K (.ref C) name=ZA (ZA (.ref f))) (ht:VF K (.ref f)=ZC) (hv:mA name=ZB) (h:Q (.ref f,[.ref x]) s):
  ZJ (ZK prog w) A (Sr (.ref x) name pl) Q E s:=by
 obtain⟨od,J,hl⟩:=I.look;exact PySem.W.method_fn X J (SS hg).1 (SS hg).2 hf (beq_iff_eq.mp ht) (by show(Th name od).map (·.isSome)=ZA ZD;rw[hl,hv];rfl) h
def EV{ns:List Str}{Q:Unit->Ob->Prop}(X:K.In s.heap)(I:ObjM s.heap x dx C mA)
  (hs:Qe K (.ref C) "__setattr__" =ZA (ZA (.builtin "object.__setattr__"))) (hp:Vm K C=ZC) (ht:T8 K C name=ZA ZB) (hh:Tq K C=ZC)
  (hw:VH mA ns) (hsz:ns.length<=ZI)
  (h:∀h',ObjM h' x dx C (λy=>if y=name then ZA v else mA y)->RP dx s.heap h'->Q () {s with heap:=h',toks:=s.toks+2}):
  ZJ (ZK prog w) A (setAttr (.ref x) name v) Q E s:=by
 obtain⟨od,J,hl⟩:=I.look;refine PySem.W.set_plain X J hs (PySem.W.osa_open (s:={s with toks:=s.toks+1}) (r:=ZB) X J hp ht λb=>?_);obtain⟨cd,hc,hd'⟩:=PySem.W.any_some hh;have hx:s.heap.get? x=ZA ⟨.ref C,ZA dx,.plain,#[]⟩:=I.obj;refine Od (Ou (Od (Od (wpAny_loadPart hx (Od (PySem.W.Looks.here (s:={s with toks:=s.toks+1}) (PySem.W.looks_clsIn X hc) ?_))))));rw[hd'];refine Ou (a:=ZA dx) (Od (Ou (Od ?_)));refine wpAny_nsSet1 (s:={s with toks:=s.toks+1}) I.ns λh' hn2 hs2=>?_;obtain⟨oD,esD,epD,hoD,hdD,hcD⟩:=hn2.count (PySem.Within.cons name v hw);refine Od (wpAny_lookBehind hoD (by rw[hdD];exact pastItsLine_dict (OV hcD (by rw[Og];omega))) ?_);exact Ou (h _ ⟨(hs2.2 _ (Ra I.ne)).trans I.obj,hn2,I.ne⟩ hs2)
def CB(X:K.In s.heap)(hm:Wi K C=ZC)
  (hi:Qe K (.ref C) "__init__" =ZA (ZA (.ref f))) (hf:PySem.W.typeIn K (.ref f)=ZA (.type "function"))
  (h:ZL (ZK prog w) (A.under (.builtin "type.__call__" ⟨.ref C::vs,kw⟩)) (.call (.ref f) ⟨.ref (s.heap.objs.size+1)::vs,kw⟩) (PySem.W.InitBack (s.heap.objs.size+1) R)
   {s with heap:=(s.heap.push PU).push (Qp C s.heap.objs.size)}):
  ZL (ZK prog w) A (.call (.ref C) ⟨vs,kw⟩) R s:=by
 obtain⟨hh,g,d,t,os⟩:=s;exact PySem.W.make_core (PySem.W.makes_of X hm) (PySem.W.looks_findIn X hi) (λself=>PySem.W.bind_fn X self hf) (.inl rfl) h
end
noncomputable def putF(f:Str)(v:V):List (Str×V)->List (Str×V)
 |[] =>[(f,v)]
 | (g,x)::r=>if g=f then(g,v)::r else(g,x)::putF f v r
theorem mP(f g:Str)(v:V):∀fs:List (Str×V),(putF f v fs).lookup g=if g=f then ZA v else fs.lookup g
 |[] =>by
  show PR g [(f,v)]=_;by_cases h:g=f
  .have hb:(g == f)=ZC:=beq_iff_eq.mpr h;simp only[PR,hb,if_pos h]
  .have hb:(g == f)=ZD:=beq_eq_false_iff_ne.mpr h;simp only[PR,hb,if_neg h]
 | (k,x)::r=>by
  have ih:=mP f g v r;rw[show putF f v ((k,x)::r)=(if k=f then(k,v)::r else(k,x)::putF f v r)from rfl];by_cases hk:k=f
  .rw[if_pos hk];by_cases h:g=k
   .have hb:(g == k)=ZC:=beq_iff_eq.mpr h;simp only[PR,hb,if_pos (h.trans hk)]
   .have hb:(g == k)=ZD:=beq_eq_false_iff_ne.mpr h;simp only[PR,hb,if_neg (λe:g=f=>h (e.trans hk.symm))]
  .rw[if_neg hk];by_cases h:g=k
   .have hb:(g == k)=ZC:=beq_iff_eq.mpr h;simp only[PR,hb,if_neg (λe:g=f=>hk (h.symm.trans e))]
   .have hb:(g == k)=ZD:=beq_eq_false_iff_ne.mpr h;simp only[PR,hb];exact ih
theorem mw(f:Str)(v:V):∀fs:List (Str×V),f∈(putF f v fs).map (·.1)/\∀g,g∈fs.map (·.1)->g∈(putF f v fs).map (·.1)
 |[] =>⟨by simp[putF],λg h=>by simp at h⟩
 | (k,x)::r=>by
  obtain⟨i1,i2⟩:=mw f v r;rw[show putF f v ((k,x)::r)=(if k=f then(k,v)::r else(k,x)::putF f v r)from rfl];by_cases hk:k=f
  .rw[if_pos hk];subst hk;exact⟨by simp,λg h=>by simpa using h⟩
  .rw[if_neg hk];refine⟨?_,λg h=>?_⟩
   .rw[Of];exact N8 _ i1
   .rw[Of]at h ⊢;rcases Oj.mp h with e|e
    .exact Oj.mpr (.inl e)
    .exact N8 _ (i2 g e)
theorem mQ(f:Str)(v:V):∀fs:List (Str×V),(putF f v fs).length<=fs.length+1
 |[] =>by simp[putF]
 | (k,x)::r=>by
  have ih:=mQ f v r;rw[show putF f v ((k,x)::r)=(if k=f then(k,v)::r else(k,x)::putF f v r)from rfl];by_cases hk:k=f
  .rw[if_pos hk,Og,Og];omega
  .rw[if_neg hk,Og,Og];omega
def RelO.some_of{o:Option N9}(r:RelO (ZA v) o):∃u,o=ZA u/\RelV v u:=by
 cases o with
 |none=>exact(show False from r).elim
 |some u=>exact⟨u,rfl,r⟩
def RelO.none_of{o:Option N9}(r:RelO ZB o):o=ZB:=by
 cases o with
 |none=>rfl
 |some u=>exact(show False from r).elim
def AR{u:N9}(r:RelV v u):V0 u=ZC:=by
 cases v with
 |non=>cases (show u=O7 from r);rfl
 |bl b=>cases (show u=Pz b from r);rfl
 |int i=>obtain⟨t,e⟩:=(show ∃t,u=PV i t from r);cases e;rfl
 |str x=>obtain⟨t,e⟩:=(show ∃t,u=P8 x t from r);cases e;rfl
 |byt b=>obtain⟨t,e⟩:=(show ∃t,u=Value.bytes b t from r);cases e;rfl
 |flt b=>obtain⟨t,e⟩:=(show ∃t,u=Wl b t from r);cases e;rfl
 |ref a=>cases (show u=OF a from r);rfl
 |ty n=>cases (show u=Q1 n from r);rfl
section
variable {fs fs':List (Str×V)}
def n5(hok:HOk P w H h)(e:H a=ZA (.ins C dx fs)):∃mA,ObjM h a dx C mA/\(∀f,RelO (fs.lookup f) (mA f))/\VH mA (fs.map (·.1))/\fs.length<=1000/\H dx=ZA (.own a):=by obtain⟨d,z,ne,ob,mA,n,r,q⟩:=(show ObjOk P w H h a (.ins C dx fs)from hok a _ e);exact⟨mA,⟨ob,n,ne⟩,r,q,z,d⟩
end
structure Cls (K:N7)(C:ZE):Prop where
 pg:Sw K C Str.empty=ZC
 hd:Tq K C=ZC
 po:Vm K C=ZC
 sa:Qe K (.ref C) "__setattr__" =ZA (ZA (.builtin "object.__setattr__"))
def Cls.get(c:Cls K C)(f:Str):Sw K C f=ZC:=c.pg
def NoAttr(K:N7)(C:ZE)(f:Str):Prop:=Qe K (.ref C) f=ZA ZB
variable{f:Str}
def NoAttr.N0(n:NoAttr K C f):T8 K C f=ZA ZB:=by unfold T8;rw[show Qe K (.ref C) f=ZA ZB from n];rfl
structure wt (K:N7)(C:ZE)(m:Str)(f:ZE):Prop where
 at_:Qe K (.ref C) m=ZA (ZA (.ref f))
 fn:VF K (.ref f)=ZC
 kp:QK K (.ref f)=ZC
variable{b:Bool}{m:Str}
section
variable {fs:List (Str×V)}
def xT(I:Inv X kt σ H s)(e:H a=ZA (.ins C dx fs))(c:Cls X.K C)(n:NoAttr X.K C f)(l:fs.lookup f=ZA v)
  (h:∀u s',Inv X kt σ H s'->RelV v u->Q u s'):ZJ (ZK X.prog X.w) A (getAttr (.ref a) f b) Q E s:=by
 obtain⟨mA,O,r,_,_,_⟩:=n5 I.hok e;obtain⟨u,hu,ru⟩:=RelO.some_of (v:=v) (o:=mA f) (by rw[<-l];exact r f);exact n6 I.kIn O (c.get f) c.hd n hu (AR ru) (h u _ (I.tok _) ru)
def kN{g:ZE}{pl:Sem Bool}{Q:N9×List N9->Ob->Prop}(I:Inv X kt σ H s)(e:H a=ZA (.ins C dx fs))(c:Cls X.K C)(k:wt X.K C m g)(l:fs.lookup m=ZB)
  (h:Q (.ref g,[.ref a]) s):ZJ (ZK X.prog X.w) A (Sr (.ref a) m pl) Q E s:=by
 obtain⟨mA,O,r,_,_,_⟩:=n5 I.hok e;have hn:mA m=ZB:=RelO.none_of (by rw[<-l];exact r m);exact Dk I.kIn O (c.get m) k.at_ k.fn hn h
def w6{u:N9}{Q:Unit->Ob->Prop}(I:Inv X kt σ H s)(e:H a=ZA (.ins C dx fs))(c:Cls X.K C)(n:NoAttr X.K C f)(hl:fs.length<1000)(ry:RelV y u)
  (h:∀s',Inv X kt σ (upd H a (.ins C dx (putF f y fs))) s'->Q () s'):ZJ (ZK X.prog X.w) A (setAttr (.ref a) f u) Q E s:=by
 obtain⟨mA,O,r,wi,_,ho⟩:=n5 I.hok e;have hz:(fs.map (·.1)).length<=ZI:=by rw[Oa,Qk];omega
 refine EV I.kIn O c.sa c.po n.N0 c.hd wi hz λh' O' sb=>h _ ?_;have hd:∃o,h'.get? dx=ZA o:=let ⟨o,_,_,e',_⟩:=O'.ns;⟨o,e'⟩;refine I.write (x:=a) (e:=dx) (by rw[e];exact Q2) (.inr ho) (λb q hb z=>(sb.2 b hb).trans z) hd ?_;refine⟨by rw[aI O.ne];exact ho,?_,O.ne,O'.obj,_,O'.ns,λg=>?_,λg hg=>?_⟩
 .have:=mQ f y fs;omega
 .show RelO ((putF f y fs).lookup g) (if g=f then ZA u else mA g);rw[mP];by_cases q:g=f
  .rw[if_pos q,if_pos q];exact ry
  .rw[if_neg q,if_neg q];exact r g
 .by_cases q:g=f
  .rw[q];exact(mw f y fs).1
  .refine(mw f y fs).2 g (wi g λz=>hg ?_);show(if g=f then ZA u else mA g)=ZB;rw[if_neg q];exact z
def Inv.made(I:Inv X kt σ H s):Inv X kt σ (upd (upd H s.heap.objs.size (.own (s.heap.objs.size+1))) (s.heap.objs.size+1) (.ins C s.heap.objs.size []))
  {s with heap:=(s.heap.push PU).push (Qp C s.heap.objs.size)}:=by
 have e1:(s.heap.push PU).get? s.heap.objs.size=ZA PU:=OI s.heap rfl;have e2:((s.heap.push PU).push (Qp C s.heap.objs.size)).get? (s.heap.objs.size+1)=ZA (Qp C s.heap.objs.size):=by have:=OI (s.heap.push PU) (o:=Qp C s.heap.objs.size) rfl;rwa [Qn]at this
 have e3:(s.heap.push PU).Ns s.heap.objs.size (λ_=>ZB):=⟨PU,#[],_,e1,rfl,(λe he=>absurd he (by simp)),λ_=>rfl⟩;have I1:=I.laid (a:=s.heap.objs.size) (o:=.own (s.heap.objs.size+1)) (h':=s.heap.push PU) (t':=s.toks) (λb u q=>Om _ q) (On _) ⟨_,e1⟩;refine I1.laid (a:=s.heap.objs.size+1) (o:=.ins C s.heap.objs.size []) (t':=s.toks) (λb u q=>Om _ q) (RS (Qn _ _)) ?_;have ne:s.heap.objs.size≠s.heap.objs.size+1:=Pj (TV _);refine⟨by rw[aI ne,aM],Pn _,ne,e2,λ_=>ZB,(Heap.Ns1.of_empty e3).at λo q=>Om _ q,λ_=>Q2,λy hy=>absurd rfl hy⟩
def GN{env:Env}(hb:OR e f env (eval e env)=eval e env)
  (h:ZJ (ZK prog w) A (eval e env) (λo s₁=>ZJ (ZK prog w) A (getAttr o f ZC) Q E s₁) E s):ZJ (ZK prog w) A (eval (.Attribute e f pos) env) Q E s:=
 Attribute_any_ h (by rw[arm_eval_Attribute,hb])
end
def tFld(K:N7)(ta:TE)(f:Str):TE:=λσ H Q=>ta σ H λx H1=>∃a C dx fs v,x=.ref a/\H1 a=ZA (.ins C dx fs)/\Cls K C/\NoAttr K C f/\fs.lookup f=ZA v/\Q v H1
def sFld(K:N7)(ta tv:TE)(f:Str):TS:=λD σ H=>tv σ H λy H1=>ta σ H1 λx H2=>∃a C dx fs,x=.ref a/\H2 a=ZA (.ins C dx fs)/\Cls K C/\NoAttr K C f/\fs.length<1000 ∧
 D.nx σ (upd H2 a (.ins C dx (putF f y fs)))
section
variable {o value:ZG}{tpos:Pos}{tv:TE}
def xh(he:PE X e ta)(hb:OR e f X.env (eval e X.env)=eval e X.env):PE X (.Attribute e f pos) (tFld X.K ta f):=by intro kt s σ H Q I h;refine GN hb (bR (he kt s σ H _ I h) λu s1 hh_=>?_);obtain⟨x,H1,I1,rx,a,C,dx,fs,v,ex,ea,c,n,l,q⟩:=hh_;subst ex;obtain rfl:u=OF a:=rx;exact xT I1 ea c n l λu' s2 I2 ru=>⟨v,H1,I2,ru,q⟩
def IT(ha:PE X o ta)(hv:PE X value tv)(hs:Pb value (ZA (.Attribute o f pos')) pos.line X.env=pure ZD):PS X (.Assign [.Attribute o f pos'] value pos) (sFld X.K ta tv f):=by intro kt s σ H D I h;refine plainObj_wpAny_Assign_Attribute (bR (hv kt s σ H _ I h) λu s1 ⟨y,H1,I1,ry,q⟩=>bR (ha kt s1 σ H1 _ I1 q) λov s2 ⟨x,H2,I2,rx,a,C,dx,fs,ex,ea,c,n,l,q2⟩=>?_) hs;subst ex;obtain rfl:ov=OF a:=rx;exact w6 I2 ea c n l ry λs3 I3=>⟨σ,_,I3,q2⟩
end
section
variable {c:N9}
inductive mH (K:N7) (H:Hp):V->N9->Prop where
 |non:mH K H .non (.type "NoneType")
 |bl (x:Bool):mH K H (.bl x) (.type "bool")
 |int (i:Int):mH K H (.int i) (.type "int")
 |str (x:Str):mH K H (.str x) (.type "str")
 |flt (x:UInt64):mH K H (.flt x) (.type "float")
 |lst {a:ZE} {xs:List V} (e:H a=ZA (.lst xs)):mH K H (.ref a) (.type "list")
 |frz {a:ZE} {o:Obj} {xs:List V} (e:H a=ZA (.frz o (.lst xs))):mH K H (.ref a) (.type "list")
 |tup {a:ZE} {xs:List V} (e:H a=ZA (.tup xs)):mH K H (.ref a) (.type "tuple")
 |dK {a:ZE} {kvs:List (Key×V)} (e:H a=ZA (.dK kvs)):mH K H (.ref a) (.type "dict")
 |dT {a:ZE} {kvs:List (List Key×V)} (e:H a=ZA (.dT kvs)):mH K H (.ref a) (.type "dict")
 |ins {a C dx:ZE} {fs:List (Str×V)} (e:H a=ZA (.ins C dx fs)) (cl:Cls K C) (ha:Qe K (.ref C) "__class__" =ZA (ZA (.builtin "object.__class__")))
   (hn:PySem.W.specialIn K (.builtin "object.__class__") "__get__" =ZA (ZA (.builtin "getset_descriptor.__get__"))) (htk:PySem.W.takesIn K (.builtin "object.__class__")=ZA ZC)
   (hm:PySem.W.mroIn K C (.type "object")=ZA ZC):mH K H (.ref a) (.ref C)
def AN{x:V}{u t:N9}(I:Inv X kt σ H s)(rx:RelV x u)(ty:mH X.K H x t)(e:PySem.W.kitOne X.K t c=ZA b)(h:∀tk,Q (.bool b) {s with toks:=tk}):
  ZJ (ZK X.prog X.w) A (call (.builtin "isinstance") [u,c]) Q E s:=by
 cases ty with
 |non=>cases (show u=O7 from rx);exact PN PySem.W.kitx_none I.kIn Q2 e (λz=>nomatch z) h
 |bl y=>cases (show u=Pz y from rx);exact PN PySem.W.kitx_bool I.kIn Q2 e (λz=>nomatch z) h
 |int i=>obtain⟨t,q⟩:=(show ∃t,u=PV i t from rx);cases q;exact PN PySem.W.kitx_int I.kIn Q2 e (λz=>nomatch z) h
 |str y=>obtain⟨t,q⟩:=(show ∃t,u=P8 y t from rx);cases q;exact PN PySem.W.kitx_str I.kIn Q2 e (λz=>nomatch z) h
 |flt y=>obtain⟨t,q⟩:=(show ∃t,u=Wl y t from rx);cases q;exact PN PySem.W.kitx_float I.kIn Q2 e (λz=>nomatch z) h
 |@lst a xs ea=>
  cases (show u=OF a from rx);obtain⟨_,_,n,_,h1⟩:=(show ObjOk X.prog X.w H s.heap a (.lst xs)from I.hok a _ ea);exact PN Vn I.kIn ⟨_,h1,rfl⟩ e (λz=>nomatch z) h
 |@frz a ob xs ea=>
  cases (show u=OF a from rx);obtain⟨_,_,_,n,_,h1⟩:=(show ObjOk X.prog X.w H s.heap a (.frz ob (.lst xs))from I.hok a _ ea);exact PN Vn I.kIn ⟨_,h1,rfl⟩ e (λz=>nomatch z) h
 |@tup a xs ea=>
  cases (show u=OF a from rx);obtain⟨_,_,_,p⟩:=(show ObjOk X.prog X.w H s.heap a (.tup xs)from I.hok a _ ea);obtain⟨o,h1,h2,_⟩:=p;exact PN PySem.W.kitx_tuple I.kIn ⟨o,h1,h2⟩ e (λz=>nomatch z) h
 |@dK a kvs ea=>
  cases (show u=OF a from rx);obtain⟨_,_,vs,_,p⟩:=(show ObjOk X.prog X.w H s.heap a (.dK kvs)from I.hok a _ ea);obtain⟨o,es,ep,h1,h2,_⟩:=p;exact PN Vo I.kIn ⟨o,h1,h2.1⟩ e (λz=>nomatch z) h
 |@dT a kvs ea=>
  cases (show u=OF a from rx);obtain⟨_,_,xs,_,o,es,ep,h1,h2,_⟩:=(show ObjOk X.prog X.w H s.heap a (.dT kvs)from I.hok a _ ea);exact PN Vo I.kIn ⟨o,h1,h2.1⟩ e (λz=>nomatch z) h
 |@ins a C dx fs ea cl ha hn htk hm=>
  cases (show u=OF a from rx);obtain⟨mA,O,_⟩:=n5 I.hok ea;obtain⟨od,J,_⟩:=O.look;exact PN (PySem.W.kitx_own (cl.get _) cl.hd ha hn htk hm) I.kIn J e (λz=>nomatch z) h
end
structure Room (k:Nat)(A:OY):Prop where
 hd:A.handled=ZB
 dp:A.depth+3*k+5<recursionLimit
 un:A.units+16*k+200<cLine
def Room.mono(r:Room k A)(h:j<=k):Room j A:=⟨r.hd,by have:=r.dp;omega,by have:=r.un;omega⟩
def Room.deeper(r:Room (k+1) A)(env:Env):Room k (A.deeper env):=
 ⟨r.hd,by have:=r.dp;show A.depth+1+3*k+5<_;omega,by have:=r.un;show A.units+3+16*k+200<_;omega⟩
def xA:(A.under (.builtin "type.__call__" ⟨.ref C::us,kw⟩)).depth=A.depth+1:=by first|rfl|simp[VI,Code.weight,Code.isCreation,Code.isGuard,Code.isCaller,Code.frames,VJ,guardIds]
def xy:(A.under (.builtin "type.__call__" ⟨.ref C::us,kw⟩)).units=A.units+1:=by first|rfl|simp[VI,Code.cUnits,Code.frames,VJ]
def Room.make(r:Room (k+1) A)(C:ZE)(us:List N9)(kw:List (Str×N9)):Room k (A.under (.builtin "type.__call__" ⟨.ref C::us,kw⟩)):=
 ⟨r.hd,by have:=r.dp;rw[xA];omega,by have:=r.un;rw[xy];omega⟩
def Room.depth(r:Room k A):A.depth<recursionLimit:=by have:=r.dp;omega
def EM:TA:=λ_ H Q=>Q [] H
def oA(ta:TE)(tr:TA):TA:=λσ H Q=>ta σ H λx H1=>tr σ H1 λxs H2=>Q (x::xs) H2
section
variable {t:TA}
def fG:PA X [] EM:=λ_ _ _ _ H Q I h=>Rt ⟨[],H,I,.nil,h⟩
def cN(ha:PE X e te)(hr:PA X es t)(hs:autoParam (Oq (e::es) X.env=(ZD,eval e X.env)::Oq es X.env) u_):PA X (e::es) (oA te t):=by intro pos kt s σ H Q I h;rw[hs];show ZJ _ _ (spliced ((ZD,eval e X.env)::backTo pos (Oq es X.env))) _ _ s;refine Rk (bR (ha kt s σ H _ I h) λu s1 hh_=>?_);obtain⟨x,H1,I1,r1,q1⟩:=hh_;exact bR (hr pos kt s1 σ H1 _ I1 q1) λus s2 ⟨xs,H2,I2,r2,q2⟩=>⟨x::xs,H2,I2,.cons r1 r2,q2⟩
def tTup(t:TA):TE:=λσ H Q=>t σ H λxs H1=>xs.length<=ZI/\∀p,H1 p=ZB->Q (.ref p) (upd H1 p (.tup xs))
def tLst(t:TA):TE:=λσ H Q=>t σ H λxs H1=>xs.length<=ZI/\∀p,H1 p=ZB->Q (.ref p) (upd H1 p (.lst xs))
def IZ{x1}(h:PA X es t):PE X (.Tuple es x1 pos) (tTup t):=by intro kt s σ H Q I hq;refine wpAny_Tuple_spliced (bR (h pos kt s σ H _ I hq) λus s1 ⟨xs,H1,I1,r,z,q⟩=>⟨by rw[<-r.length];exact z,?_⟩);have hf:H1 s1.heap.objs.size=ZB:=I1.hok.fresh (On _);refine⟨.ref s1.heap.objs.size,upd H1 s1.heap.objs.size (.tup xs),I1.laid (t':=s1.toks) (λb u e=>Om _ e) (On _) ?_,rfl,q _ hf⟩;exact⟨z,us,r,⟨_,OI _ rfl,rfl,_,rfl⟩⟩
def Jd(h:PA X es t):PE X (.List es pos) (tLst t):=by intro kt s σ H Q I hq;refine Vd (bR (h pos kt s σ H _ I hq) λus s1 ⟨xs,H1,I1,r,z,q⟩=>⟨by rw[<-r.length];exact z,?_⟩);have hf:H1 s1.heap.objs.size=ZB:=I1.hok.fresh (On _);refine⟨.ref s1.heap.objs.size,upd H1 s1.heap.objs.size (.lst xs),I1.laid (t':=s1.toks) (λb u e=>Om _ e) (On _) ?_,rfl,q _ hf⟩;exact⟨z,us,0,r,OI _ rfl⟩
end
abbrev Sp:=List V->Hp->VK->XK->Prop
abbrev Es:=List Env->Hp->Ob->XK->W1
structure Env0 (P:OM)(w:Pm)(K:N7)(mg:W0)(base:ZH)(A:OY)(outer:List Env)(s:Ob)(H:Hp):Prop where
 frames:A.frames=ZA outer
 mod:Mod K mg base
 bs:∀b o,base.get? b=ZA o->s.heap.get? b=ZA o/\H b=ZB
 bsz:base.objs.size<=s.heap.objs.size
 funs:s.heap.FunFrames base outer
 frf:∀b∈n8 outer,H b=ZB
 hok:HOk P w H s.heap
 bare:TQ s.gens
def CE(outer:List Env)(P:OM)(w:Pm)(H:Hp)(s:Ob)(Q:VK)(u:N9)(s':Ob):Prop:=
 ∃v H',s'.os=s.os/\TQ s'.gens/\Un (n8 outer) [] H H' s.heap s'.heap/\HOk P w H' s'.heap/\RelV v u/\Q v H'
def CR(CX:Es)(outer:List Env)(P:OM)(w:Pm)(H:Hp)(s:Ob)(Q:VK)(E:XK)(r:Vc)(s':Ob):Prop:=
 match r with
 |.ok (.ret u)=>CE outer P w H s Q u s'
 |.ok _=>False
 |.error e=>CX outer H s E e s'
structure p7 (P:OM)(w:Pm)(K:N7)(mg:W0)(base:ZH)(CX:Es)(k:Nat)(f:ZE)(fd:Pu)(ps:List Str)(sp:Sp):Prop where
 len:∀vs H Q E,sp vs H Q E->vs.length=ps.length
 run:∀(A:OY)(outer:List Env)(s:Ob)(H:Hp)(args:Args)(us:List N9)(vs:List V)(Q:VK)(E:XK),Room k A->Env0 P w K mg base A outer s H->Ur s fd args (ps.zip us)->Vals vs us->sp vs H Q E ->
  ZL (ZK P w) A (.call (.ref f) args) (CR CX outer P w H s Q E) s
variable{mg:W0}{outer:List Env}
def Env0.make{base:ZH}(e:Env0 P w K mg base A outer s H)(C:ZE)(us:List N9)(kw:List (Str×N9)):
  Env0 P w K mg base (A.under (.builtin "type.__call__" ⟨.ref C::us,kw⟩)) outer s H:=⟨by first|exact e.frames| (simpa [VI,Code.envs,VJ,pushEnvs]using e.frames),e.mod,e.bs,e.bsz,e.funs,e.frf,e.hok,e.bare⟩
variable{Q:VK}
def Inv.NA(I:Inv X kt σ H s):Env0 X.prog X.w X.K X.mg X.base X.A X.stack s H:=
 ⟨I.ok.frames,I.ok.mod,I.bs,OV I.ok.bsz I.sz,I.stack,I.Nf,I.hok,I.bare⟩
def Inv.after{u:N9}(I:Inv X kt σ H s)(h:CE X.stack X.prog X.w H s Q u s'):EP X kt σ Q u s':=by obtain⟨v,H',os,bare,un,hok,r,q⟩:=h;obtain⟨hh,g,d,t,os'⟩:=s';obtain rfl:os'=s.os:=os;exact⟨v,H',I.call (h':=hh) (g':=g) (d':=d) (t':=t) (ch:=[]) un hok bare (λb z=>absurd z (by simp)),r,q⟩
def K4(sp:Sp)(dvs:List V)(E:XK)(t:TA):TE:=λσ H Q=>t σ H λvs H1=>sp (vs++dvs) H1 Q E
def Binds(K:N7)(fd:Pu)(ps:List Str)(ds:List N9):Prop:=
 ∀(s:Ob)(us:List N9),K.In s.heap->(us++ds).length=ps.length->Ur s fd ⟨us,[]⟩ (ps.zip (us++ds))
variable{ps:List Str}
def Binds.all(h:∀us:List N9,us.length=ps.length->Ve fd ⟨us,[]⟩=pure (ps.zip us)):Binds K fd ps []:=λs us _ hl=>by rw[OS]at hl ⊢;exact .of_eq (h us hl)
def yh(CX:Es)(X:Cx)(E:XK):Prop:=∀(kt:W2)(σ:St)(H:Hp)(s:Ob)(e:N9)(s':Ob),Inv X kt σ H s->CX X.stack H s E e s'->X.xe e s'
variable{CX:Es}{E:XK}{f:ZE}{vs:List V}
section
variable {sp:Sp}{dvs:List V}{ds:List N9}{p apos:Pos}{o:ZG}{t:TA}
def w9(F:p7 X.prog X.w X.K X.mg X.base CX k f fd ps sp)(hr:Room k X.A)(hb:Binds X.K fd ps ds)(hd:Vals dvs ds)(hx:yh CX X E)
  (I:Inv X kt σ H s) (r:Vals vs us) (h:sp (vs++dvs) H Q E):ZJ (ZK X.prog X.w) X.A (call (.ref f) us) (EP X kt σ Q) X.xe s:=by
 have r2:Vals (vs++dvs) (us++ds):=r.append hd;have hl:(us++ds).length=ps.length:=by rw[<-r2.length];exact F.len _ _ _ _ h
 refine TF (Rr (F.run X.A X.stack s H ⟨us,[]⟩ (us++ds) (vs++dvs) Q E hr I.NA (hb s us I.kIn hl) r2 h) λr s' hq=>?_);cases r with
 |error e=>exact hx kt σ H s e s' I hq
 |ok fl=>
  cases fl with
  |ret u=>exact I.after hq
  |next=>exact PM hq
  |brk=>exact PM hq
  |cont=>exact PM hq
def yV(F:p7 X.prog X.w X.K X.mg X.base CX k f fd ps sp)(hr:Room k X.A)(hg:Gl X x)(hm:X.mg x=ZA (.ref f))(hk:QK X.K (.ref f)=ZC)(hb:Binds X.K fd ps ds)(hd:Vals dvs ds)(hx:yh CX X E)
  (ha:PA X (e::es) t) (hdb:autoParam ((x == ("__debug__" : Str))=ZD) s_) (he:autoParam (Oq (e::es) X.env=(ZD,eval e X.env)::Oq es X.env) u_) (hpl:autoParam ((backTo pos (Oq es X.env)).any (·.1)=ZD) u_):
  PE X (.Call (.Name x p) (e::es) [] pos) (K4 sp dvs E t):=by
 intro kt s σ H Q I h;refine Pv (gy I hg hm ?_ hdb);refine QD (h₀:=X.base) I.ok.mod.kin hk (bR (ha pos kt s σ H _ I h) λus s1 ⟨vs,H1,I1,r,q⟩=>⟨I1.kIn,?_⟩) he hpl;exact w9 F hr hb hd hx I1 r q
structure Mk (K:N7)(C f:ZE):Prop where
 makes:Wi K C=ZC
 init:Qe K (.ref C) "__init__" =ZA (ZA (.ref f))
 fn:VF K (.ref f)=ZC
 kp:QK K (.ref C)=ZC
end
structure bo (N P:List Str)(sc:RZ):Prop where
 kind:sc.kind=.function
 co:sc.isCoroutine=ZD
 gen:sc.isGenerator=ZD
 nd:N.Nodup
 pre:N.take P.length=P
 par:∀x∈P,sc.names.lookup x=ZA .local\/sc.names.lookup x=ZA .cell
 nofree:∀y∈sc.names,y.2≠ .free
variable{kindOf:Str->Option RB}
theorem rP:∀{binds:List (Str×N9)}{m:W0},(∀v,(x,v)∉binds)->bindL kindOf binds m x=m x
 |[],_,_=>rfl
 | (n,v)::r,m,h=>by
  unfold bindL;rw[rP λw hw=>h w (N8 _ hw)];split
  .have:x≠n:=by rintro rfl;exact h v Oe
   simp[this]
  .rfl
theorem rR:∀{binds:List (Str×N9)}{m:W0},(∀v,(x,v)∉binds)->bindC kindOf binds m x=m x
 |[],_,_=>rfl
 | (n,v)::r,m,h=>by
  unfold bindC;rw[rR λw hw=>h w (N8 _ hw)];split
  .rfl
  .have:x≠n:=by rintro rfl;exact h v Oe
   simp[this]
variable{v:N9}
theorem rQ:∀{P:List Str}{vs:List N9}{i:Nat}{m:W0},P.Nodup->P[i]?=ZA x->vs[i]?=ZA v->kindOf x=ZA .local ->
  bindL kindOf (P.zip vs) m x=ZA v
 |[],_,_,_,_,h,_,_=>by simp at h
 |_::_,[],_,_,_,_,h,_=>by simp at h
 |p::P,w::vs,0,m,nd,h1,h2,hk=>by simp at h1 h2;subst h1;subst h2;show bindL kindOf ((p,w)::P.zip vs) m p=_;unfold bindL;rw[rP λv hv=>(O4.mp nd).1 (Ro hv).1,if_pos hk];simp
 |p::P,w::vs,i+1,m,nd,h1,h2,hk=>by show bindL kindOf ((p,w)::P.zip vs) m x=_;unfold bindL;exact rQ (i:=i) (O4.mp nd).2 (by simpa using h1) (by simpa using h2) hk
theorem rS:∀{P:List Str}{vs:List N9}{i:Nat}{m:W0},P.Nodup->P[i]?=ZA x->vs[i]?=ZA v->kindOf x≠ZA .local ->
  bindC kindOf (P.zip vs) m x=ZA v
 |[],_,_,_,_,h,_,_=>by simp at h
 |_::_,[],_,_,_,_,h,_=>by simp at h
 |p::P,w::vs,0,m,nd,h1,h2,hk=>by simp at h1 h2;subst h1;subst h2;show bindC kindOf ((p,w)::P.zip vs) m p=_;unfold bindC;rw[rR λv hv=>(O4.mp nd).1 (Ro hv).1,if_neg hk];simp
 |p::P,w::vs,i+1,m,nd,h1,h2,hk=>by show bindC kindOf ((p,w)::P.zip vs) m x=_;unfold bindC;exact rS (i:=i) (O4.mp nd).2 (by simpa using h1) (by simpa using h2) hk
noncomputable def start(N:List Str)(vs:List V):St:=vs.map ZA++OK (N.length - vs.length) ZB
noncomputable def gf(CX:Es)(P:OM)(w:Pm)(K:N7)(mg:W0)(base:ZH)(N:List Str)(qual:Str)(scope:RZ)(f:ZE)(cd:N9)(A:OY)(outer:List Env)(s:Ob)(H:Hp)(E:XK):Cx where
 prog:=P
 w:=w
 K:=K
 mg:=mg
 base:=base
 A:=A.deeper (envOfC qual scope s.heap.objs.size f cd)
 N:=N
 s₀:=s
 H₀:=H
 env:=envOfC qual scope s.heap.objs.size f cd
 outer:=outer
 stack:=envOfC qual scope s.heap.objs.size f cd::outer
 ex:=[]
 calm:=ZC
 fn:=λ_=>ZC
 pn:=[]
 xe:=λe s'=>ZJ (ZK P w) (A.deeper (envOfC qual scope s.heap.objs.size f cd)) (leaving (envOfC qual scope s.heap.objs.size f cd) e) (λ_ s''=>CX outer H s E e s'') (λe' s''=>CX outer H s E e' s'') s'
def wg(h:sc.names.lookup x=ZA .cell):∃c,(Q7 n sc.names []).lookup x=ZA c:=by have q:=Rh sc.names n [] (.inl h);exact Option.isSome_iff_exists.mp q
variable{qual:Str}
def mB{base:ZH}{cd:N9}{s1:Ob}
  (S:bo N ps scope) (hd:A.handled=ZB) (e0:Env0 P w K mg base A outer s H) (hl:vs.length=ps.length) (r:Vals vs us)
  (x:InCallC s s.heap.objs.size (bindL (envOfC qual scope s.heap.objs.size f cd).kindOf (ps.zip us) λ_=>ZB) (Q7 (s.heap.objs.size+1) scope.names []) (bindC (envOfC qual scope s.heap.objs.size f cd).kindOf (ps.zip us) λ_=>ZB) s1):
  Inv (gf CX P w K mg base N qual scope f cd A outer s H E) [] (start N vs) H s1:=by
 have hpl:ps.length<=N.length:=by have:=congrArg QQ S.pre;rw[PQ]at this;omega
 obtain⟨h1,tk,rfl,hk⟩:=x.done;have noA:∀b:ZE,b∉(gf CX P w K mg base N qual scope f cd A outer s H E).ex:=λb z=>absurd (show b∈([]:List ZE)from z) (by simp);refine⟨⟨e0.mod,S.kind,rfl,rfl,On _,λy z c h1 h2=>?_,λy hy=>?_,λy c _ h=>?_,λ_=>hd,Around.frames_deeper e0.frames,.inr ⟨rfl,rfl⟩,λb z=>absurd z (noA b),e0.bs,e0.bsz,λb _ _=>noA b,λb z=>absurd z (noA b),e0.funs,e0.frf⟩,
  rfl,e0.bare,Un.kept hk,⟨_,x.toInCall.ns,λi y v h1 h2 h3=>?_⟩,λy c h=>⟨_,x.cell y c h⟩,e0.hok.fresh (On _),λy c h=>?_,λp hp=>absurd (show p∈([]:W2)from hp) (by simp),e0.hok.kept hk,?_⟩
 .exact name_of_addr x.apart (Qq h1) (Qq h2)
 .have hy:scope.names.lookup y=ZA .cell\/scope.names.lookup y=ZA .free:=hy;rcases hy with hy|hy
  .exact wg hy
  .exact absurd rfl (S.nofree _ (Qq hy))
 .exact Qi (x.above y c (Qq h))
 .have hi:i<vs.length:=by
   unfold start at h2;by_cases hi:i<vs.length
   .exact hi
   .rw[P5 (by simpa using hi)]at h2;rw[Pk]at h2;split at h2 <;> cases h2
  have ha:vs[i]?=ZA v:=by
   unfold start at h2;rw[OW (by simpa using hi),OH]at h2;cases e:vs[i]? with
   |none=>rw[e]at h2;cases h2
   |some a=>rw[e]at h2;cases h2;rfl
  obtain⟨u,hu,rv⟩:=r.get ha;have hp:ps[i]?=ZA y:=by rw[<-S.pre,List.getElem?_take_of_lt (by omega)];exact h1
  have ndP:ps.Nodup:=by rw[<-S.pre];exact S.nd.sublist (List.take_sublist _ _)
  refine⟨u,rv,?_⟩;rcases S.par y (QY hp)with k|k
  .exact .inl ⟨k,rQ ndP hp hu k⟩
  .obtain⟨c,e⟩:=wg (n:=s.heap.objs.size+1) k;refine .inr ⟨.inl k,c,e,?_⟩;have q:=x.cell y c e;rw[rS ndP hp hu (by show scope.names.lookup y≠_;rw[k];decide)]at q;exact q
 .exact e0.hok.fresh (Qi (x.above y c (Qq h)))
 .unfold start;show _=N.length;rw[Oh,Oa,List.length_replicate];omega
def MB{base:ZH}{params:Uo}{dV kV doc pm cdv ct oc:N9}{an od:Option ZE}
  {osl:Array (Option N9)}  {sp:Sp} (lk:K.lookup f=ZA ⟨oc,od,.func (RJ name qual params body scope dV kV doc pm an cdv ct),osl⟩) (hcd:UH K cdv qual=ZC) (S:bo N ps scope)
  (len:∀vs H Q E,sp vs H Q E->vs.length=ps.length)
  (hbody:∀(A:OY)(outer:List Env)(s:Ob)(H:Hp)(vs:List V)(Q:VK)(E:XK),Room k (A.deeper (envOfC qual scope s.heap.objs.size f cdv))->sp vs H Q E ->
   ∃t,PSs (gf CX P w K mg base N qual scope f cdv A outer s H E) body t/\t {nx:=λ_ H'=>Q .non H',rt:=Q} (start N vs) H):
  p7 P w K mg base CX (k+1) f (RJ name qual params body scope dV kV doc pm an cdv ct) ps sp:=by
 refine⟨len,λA outer s H args us vs Q E hr e0 hb r hsp=>?_⟩;have hl:=len _ _ _ _ hsp;have KX:K.In s.heap:=e0.mod.kin.keeps λb o e=>(e0.bs b o e).1;have lim:s.heap.NoLimit:=e0.mod.nolimit.keeps λb o e=>(e0.bs b o e).1;have hkind:∀y∈ps.zip us,scope.names.lookup y.1=ZA .local\/(scope.names.lookup y.1=ZA .cell/\((Q7 (s.heap.objs.size+1) scope.names []).lookup y.1).isSome=ZC):=λ⟨n,v⟩ hy=>by
  rcases S.par n (Ro hy).1 with q|q
  .exact .inl q
  .exact .inr ⟨q,Rh _ _ _ (.inl q)⟩
 refine Ss hr.depth (KX _ _ lk) rfl S.co S.gen rfl (Td KX hcd) (hb _ _ _ _ ?_);refine RE S.kind hkind λenv he s1 x=>?_;subst he;refine⟨lim.keeps x.toInCall.keep,VW ?_⟩;obtain⟨t,ht,hq⟩:=hbody A outer s H vs Q E (hr.deeper _) hsp;have I:Inv (gf CX P w K mg base N qual scope f cdv A outer s H E) [] (start N vs) H s1:=mB S hr.hd e0 hl r x;refine PX (ht [] s1 (start N vs) H _ I hq) (λfl s' hs=>?_) λe s' hs=>hs;have fin:∀{σ':St}{H':Hp}{v:V}{u:N9},Inv (gf CX P w K mg base N qual scope f cdv A outer s H E) [] σ' H' s'->RelV v u->Q v H'->CE outer P w H s Q u s':=
  λ{σ' H' v u} J rv q=>⟨v,H',J.os,J.bare,J.base,J.hok,rv,q⟩
 cases fl with
 |ret u=>
  obtain⟨v,σ',H',J,rv,q⟩:=hs;exact fin J rv q
 |next=>
  obtain⟨σ',H',J,q⟩:=hs;exact fin (v:=V.non) (u:=O7) J rfl q
 |brk=>
  obtain⟨_,_,_,q⟩:=hs;exact PM q
 |cont=>
  obtain⟨_,_,_,q⟩:=hs;exact PM q
section
variable {p:Pos}{t:TA}{id T:String}{r:List V->Hp->VK->Prop}
def tCB(r:List V->Hp->VK->Prop)(t:TA):TE:=λσ H Q=>t σ H λvs H1=>r vs H1 Q
def Ap(hc:CallR X (.type T) r)(hg:Gl X x)(hm:X.mg x=ZB)(hv:O6 x=ZA (.type T))(ha:PA X (e::es) t)(hn:autoParam (x≠ "__name__") s_)(hdb:autoParam ((x == ("__debug__" : Str))=ZD) s_)
  (he:autoParam (Oq (e::es) X.env=(ZD,eval e X.env)::Oq es X.env) u_) (hpl:autoParam ((backTo pos (Oq es X.env)).any (·.1)=ZD) u_):PE X (.Call (.Name x p) (e::es) [] pos) (tCB r t):=by
 intro kt s σ H Q I h;refine Pv (fI I hg hm hv ?_ hn hdb);exact Pq (bR (ha pos kt s σ H _ I h) λus s1 ⟨vs,H1,I1,r1,q1⟩=>hc kt s1 σ H1 vs us Q I1 r1 q1) he hpl
end
end L2
namespace HT
open PySem PyProof.Rows
noncomputable def lexLt:List Int->List Int->Bool
 |[],[] =>ZD
 |[],_::_=>ZC
 |_::_,[] =>ZD
 |x::xs,y::ys=>if x=y then lexLt xs ys else decide (x<y)
def lexLt_cons(x y:Int)(xs ys:List Int):lexLt (x::xs) (y::ys)=if x=y then lexLt xs ys else decide (x<y):=rfl
def qG:lexLt [] []=ZD:=rfl
def pD(y:Int)(ys:List Int):lexLt [] (y::ys)=ZC:=rfl
def pE(x:Int)(xs:List Int):lexLt (x::xs) []=ZD:=rfl
def Dw(A:OY)(s:Ob)(a:Int)(t:Tok)(c:Int)(u:Tok):∃e,SeqAt.EqAt A s (.int a t) (.int c u) e/\(e=ZC↔a=c):=
 ⟨(a == c),SeqAt.EqAt.int_int a t c u,by simp⟩
def BK(A:OY)(s:Ob)(a:Int)(t:Tok)(c:Int)(u:Tok)(prog:OM)(w:Pm)(E:W1)(Q:W1)(h:Q (.bool (decide (a<c))) s):
  ZJ (ZK prog w) A (richCompare .Lt (.int a t) (.int c u)) Q E s:=
 (PyProof.Rows.lt_int h:ZJ (ZK prog w) A (Pe .Lt (.int a t) (.int c u)) Q E s)
section
open PySem.SeqAt
open PySem.AutoSeq1 (wpAny_loadPart')
open PySem.MeetsSeq PySem.MeetsSeq2 PySem.MeetsSeq3
def qh(l b:ZE)(items items2:Array N9)(n n2:Nat)(dd dd2:Option ZE)(sl sl2:Array (Option N9))(ns ms:List Int)(hi:QB items.toList ns)(hj:QB items2.toList ms):
  Meets (Builtin.«tuple.__lt__» ⟨[.ref l,.ref b],[]⟩)
   (λ_ R s=>s.heap.get? l=ZA {cls:=.type "tuple",dict:=dd,data:=.seq items n,slots:=sl}/\s.heap.get? b=ZA {cls:=.type "tuple",dict:=dd2,data:=.seq items2 n2,slots:=sl2} ∧
    R (.ok (.ret (.bool (lexLt ns ms)))) s):=
 .of_wp λprog w A R s h=>by
  obtain⟨hp,g,d,tk,os⟩:=s;obtain⟨hl,hb,h⟩:=h;have f2:=AutoSeq1.sub_tuple_tuple;have z1:items.size=ns.length:=by rw[<-hi.length];simp
  have z2:items2.size=ms.length:=by rw[<-hj.length];simp
  wp_walk using P4 hl,P4 hb,wpAny_forIn_list _ (λbK b s'=>b.1=ZB/\s'=⟨hp,g,d,tk,os⟩/\∃(vs ws:List N9)(ns' ms':List Int),bK=vs.zip ws ∧
   QB vs ns'/\QB ws ms'/\ns'.length+items2.size=ms'.length+items.size/\R (.ok (.ret (.bool (lexLt ns' ms')))) ⟨hp,g,d,tk,os⟩) _
  case turn=>
   rintro ⟨y,x⟩ bK b s' ⟨hb',rfl,vs,ws,ns',ms',hz,hvi,hwi,hlen,hR⟩;cases hvi with
   |nil=>rw[List.zip_nil_left]at hz;cases hz
   |cons a t hvi'=>
    cases hwi with
    |nil=>rw[List.zip_nil_right]at hz;cases hz
    |cons c u hwi'=>
     rw[Tf]at hz;injection hz with hyx hrest;injection hyx with hy hx;subst hy hx;rw[lexLt_cons]at hR;simp only[Og]at hlen;obtain⟨e,he,hiff⟩:=Dw A.in1 ⟨hp,g,d,tk,os⟩ a t c u;refine Od (he prog w _ _ ?_);cases e with
     |true=>
      rw[if_pos (hiff.mp rfl)]at hR;wp_walk;exact⟨rfl,rfl,_,_,_,_,hrest,hvi',hwi',by omega,hR⟩
     |false=>
      rw[if_neg (λq=>absurd (hiff.mpr q) OB)]at hR;have hri:=BK A.in1 ⟨hp,g,d,tk,os⟩ a t c u prog w;wp_walk using hri;exact⟨_,rfl,by simpa using hR⟩
  case fin=>
   rintro ⟨b1,b2⟩ s' ⟨hb',rfl,vs,ws,ns',ms',hz,hvi,hwi,hlen,hR⟩;simp only at hb';subst hb';have hv:lexLt ns' ms'=decide (items.size<items2.size):=by
    cases hvi with
    |nil=>
     cases hwi with
     |nil=>
      simp only[Qr]at hlen;rw[qG];exact(decide_eq_false (by omega)).symm
     |cons c u hw=>
      simp only[Qr,Og]at hlen;rw[pD];exact(decide_eq_true (by omega)).symm
    |cons a t hv=>
     cases hwi with
     |nil=>
      simp only[Qr,Og]at hlen;rw[pE];exact(decide_eq_false (by omega)).symm
     |cons c u hw=>
      rw[Tf]at hz;cases hz
   rw[hv]at hR;wp_walk;exact⟨_,rfl,by simpa [Vp]using hR⟩
  case h=>
   exact⟨rfl,rfl,items.toList,items2.toList,ns,ms,rfl,hi,hj,by omega,h⟩
end
def lt_tupInts{l b:ZE}{items items2:Array N9}{ms:List Int}(hl:WE s.heap l items)(hb:WE s.heap b items2)(hi:QB items.toList ns)(hj:QB items2.toList ms)
  (hu:A.units<cLine) (h:Q (.bool (lexLt ns ms)) s):ZJ (ZK prog w) A (Pe .Lt (.ref l) (.ref b)) Q E s:=by
 obtain⟨⟨cls,dd,data,sl⟩,ho,hc,n,hd⟩:=id hl;obtain⟨⟨cls2,dd2,data2,sl2⟩,ho2,hc2,n2,hd2⟩:=id hb;simp only at hc hd hc2 hd2;subst hc hd hc2 hd2;exact richCompare_meets_room (op:=.Lt) ⟨_,ho,rfl⟩ ⟨_,ho2,rfl⟩ PySem.F.slot_tuple_lt PySem.F.entry_tuple_lt (PySem.F.args_tuple_lt_2 _ _) (qh l b items items2 n n2 dd dd2 sl sl2 ns ms hi hj)
  ⟨ho,ho2,show Pz (lexLt ns ms)≠Uz/\Q (.bool (lexLt ns ms)) s from⟨(λx=>nomatch x),h⟩⟩ hu
def cat_tup{t b:ZE}{ws:List N9}(ht:WE s.heap t vs.toArray)(hb:WE s.heap b ws.toArray)(hv:vs≠ [])
  (h1:ws=[]->Q (.ref t) s) (h2:ws≠ []->Q (.ref s.heap.objs.size) {s with heap:=s.heap.push {cls:=.type "tuple",data:=.seq (vs++ws).toArray}})
  (hsz:vs.length+ws.length<=ZI):ZJ (ZK prog w) A (P6 .Add (.ref t) (.ref b)) Q E s:=by
 obtain⟨⟨cls,dd,data,sl⟩,ho,hc,n,hd⟩:=id ht;obtain⟨⟨cls2,dd2,data2,sl2⟩,ho2,hc2,n2,hd2⟩:=id hb;simp only at hc hd hc2 hd2;subst hc hd hc2 hd2;have e:vs.toArray++ws.toArray=(vs++ws).toArray:=by simp
 by_cases hw:ws=[]
 .exact VX ⟨_,ho,rfl⟩ ⟨_,ho2,rfl⟩ T3 Vf R6 RX (RL _ _)
   (tuple_addW1 t b vs.toArray ws.toArray n n2 dd dd2 sl sl2 (by simpa using hv) (by simp[hw])) ⟨ho,ho2,h1 hw⟩
 .refine VX ⟨_,ho,rfl⟩ ⟨_,ho2,rfl⟩ T3 Vf R6 RX (RL _ _)
   (tuple_addW2 t b vs.toArray ws.toArray n n2 dd dd2 sl sl2 (by simpa using hv) (by simpa using hw) (by rw[Ov,Ov];exact hsz)) ⟨ho,ho2,?_⟩
  rw[e];exact h2 hw
noncomputable def sIx(n d:Nat):Option Int->Nat
 |none=>d
 |some v=>if v<0 then(v+(n:Int)).toNat else min v.toNat n
def sIx_none(n d:Nat):sIx n d ZB=d:=rfl
def sIx_nat(n d k:Nat):sIx n d (ZA (k:Int))=min k n:=by show(if (k:Int)<0 then((k:Int)+(n:Int)).toNat else min (k:Int).toNat n)=min k n;rw[if_neg (by omega),Qa]
def Ig(n d:Nat)(hd:d<=n)(o:Option Int):sIx n d o<=n:=by
 cases o with
 |none=>exact hd
 |some v=>
  show(if v<0 then(v+(n:Int)).toNat else min v.toNat n)<=n;by_cases hv:v<0
  .rw[if_pos hv];omega
  .rw[if_neg hv];exact Nat.min_le_right _ _
def zS(v:Int)(n d:Nat):(if v<0 then max (v+(n:Int)) 0 else min v (n:Int))=((sIx n d (ZA v):Nat):Int):=by
 show(if v<0 then max (v+(n:Int)) 0 else min v (n:Int))=(((if v<0 then(v+(n:Int)).toNat else min v.toNat n):Nat):Int);by_cases hv:v<0
 .simp only[if_pos hv];omega
 .simp only[if_neg hv];omega
def ye(lo hi:Option Int)(n:Nat):RF lo hi 1 (n:Int)=(((sIx n 0 lo:Nat):Int),((sIx n n hi:Nat):Int)):=by
 have h1:¬ ((1:Int)<0):=by omega
 unfold RF;simp only[h1,if_false];refine Prod.ext ?_ ?_
 .cases lo with
  |none=>rfl
  |some v=>exact zS v n 0
 .cases hi with
  |none=>rfl
  |some v=>exact zS v n n
def xf(i j:Nat):QN (i:Int) (j:Int) 1=j - i:=by
 unfold QN;have h1:(1:Int) > 0:=by omega
 simp only[h1,if_true,Int.ediv_one];split <;> omega
def oJ{o:Option Int}{Q:Option Int->Ob->Prop}(p:Vg v o)(h:Q o s):ZJ (ZK prog w) A (Wf v) Q E s:=by
 cases p with
 |none=>exact slicePart_none h
 |int i t=>exact slicePart_int h
def g8{sl:ZE}{Q:Int×Int×Nat->Ob->Prop}(hs:s.heap.IsSliceOf sl vl vu .none)(pl:Vg vl lo)(pu:Vg vu hi)
  (h:Q (((sIx n 0 lo:Nat):Int),1,sIx n n hi - sIx n 0 lo) s):ZJ (ZK prog w) A (S3 (.ref sl) (pure (n:Int))) Q E s:=by
 obtain⟨os,hos,hcs,hds⟩:=id hs;unfold S3 Builtin.Slice.sliceFields;refine Od (Od (QU hos hds (x:=vl) rfl (Od (QU hos hds (x:=vu) rfl (Od (QU hos hds (x:=.none) rfl (Ou ?_)))))));refine Od (slicePart_none ?_);show ZJ _ _ (if ((1:Int) == 0)=ZC then _ else _) _ _ s;rw[if_neg (by decide)];refine Od (oJ pl (Od (oJ pu (Od (Ou ?_)))));show ZJ _ _ (match RF lo hi 1 (n:Int)with| (lo,hi)=>pure (lo,(1:Int),QN lo hi 1)) _ _ s;rw[ye lo hi n];show ZJ _ _ (pure (((sIx n 0 lo:Nat):Int),(1:Int),QN ((sIx n 0 lo:Nat):Int) ((sIx n n hi:Nat):Int) 1)) _ _ s;rw[xf];exact Ou h
def B0(xs:Array N9)(i k:Nat):((PJ k).filterMap λ(m:Nat)=>xs[((i:Int)+(m:Int)*1).toNat]?).toArray=((xs.toList.drop i).take k).toArray:=by
 have e:(λ(m:Nat)=>xs[((i:Int)+(m:Int)*1).toNat]?)=λm=>xs[i+m]?:=by
  funext m
  have:((i:Int)+(m:Int)*1).toNat=i+m:=by omega
  rw[this]
 rw[e];have:=pick_run xs i k;rw[List.filterMap_map]at this;have e2:((λx=>xs[x]?)∘λx=>i+x)=λm=>xs[i+m]?:=rfl;rw[e2]at this;rw[this]
def getItem_tuple_cut{t sl:ZE}{items:Array N9}(ht:WE s.heap t items)(hs:s.heap.IsSliceOf sl vl vu .none)(pl:Vg vl lo)(pu:Vg vu hi)
  (hw:¬ (sIx items.size 0 lo=0/\sIx items.size items.size hi=items.size))
  (h:Q (.ref s.heap.objs.size) {s with heap:=s.heap.push {cls:=.type "tuple",data:=.seq ((items.toList.drop (sIx items.size 0 lo)).take (sIx items.size items.size hi - sIx items.size 0 lo)).toArray}})
  (hsz:items.size<=ZI):ZJ (ZK prog w) A (getItem (.ref t) (.ref sl)) Q E s:=by
 have htake:sizeOk (.seq ((items.toList.drop (sIx items.size 0 lo)).take (sIx items.size items.size hi - sIx items.size 0 lo)).toArray):=by show((items.toList.drop (sIx items.size 0 lo)).take (sIx items.size items.size hi - sIx items.size 0 lo)).toArray.size<=ZI;rw[Ov,PQ,QC,PC];omega
 have hj:sIx items.size items.size hi<=items.size:=Ig _ _ (On _) hi;obtain⟨os,hos,hcs,hds⟩:=id hs;have hTs:s.TypeIs (.ref sl) "slice":=⟨os,hos,hcs⟩;unfold getItem;try with_reducible refine R4 ?_
 first|refine Od (Ou ?_)|skip
 refine Od (VB ht.typeIs (by decide) ?_);refine Od (Qm (name:=Ot "__getitem__") ht.typeIs Pr
  (Rc Pr ht.typeIs UU ?_ (Vh _ _)))
 show ZJ _ _ (S4 (.ref t) >>= _) _ _ s;refine Od (Vi ht ?_);refine Od (Su hTs ?_);rw[if_pos (by decide)];refine Od (g8 hs pl pu ?_);have hno:¬ ((((sIx items.size 0 lo:Nat):Int) == 0&&(1:Int) == 1&&(sIx items.size items.size hi - sIx items.size 0 lo) == items.size)=ZC):=by intro q;rw[Oc,Oc]at q;have q1:((sIx items.size 0 lo:Nat):Int)=0:=eq_of_beq q.1.1;have q2:sIx items.size items.size hi - sIx items.size 0 lo=items.size:=eq_of_beq q.2;exact hw ⟨by omega,by omega⟩
 show ZJ _ _ (if (((sIx items.size 0 lo:Nat):Int) == 0&&(1:Int) == 1&&(sIx items.size items.size hi - sIx items.size 0 lo) == items.size)=ZC then _ else _) _ _ s;rw[if_neg hno,B0];first
  |exact Od (m:=Qj _) (Qd (Ou ⟨_,rfl,Ou h⟩) htake)
  |exact Od (m:=Qj _) (Qd (Od (Ou (Ou ⟨_,rfl,Ou h⟩))) htake)
  |exact Od (Od (m:=Qj _) (Qd (Ou (Ou ⟨_,rfl,Ou h⟩)) htake))
  |exact Od (Od (m:=Qj _) (Qd (Ou ⟨_,rfl,Ou h⟩) htake))
end HT
variable{i:Int}
namespace L2
open PySem PySem.Spec PyProof.Rows
abbrev TO:=St->Hp->(Option Int->Hp->Prop)->Prop
def PO(X:Cx)(e:Option ZG)(t:TO):Prop:=
 ∀(kt:W2)(s:Ob)(σ:St)(H:Hp)(Q:Option Int->Hp->Prop),Inv X kt σ H s->t σ H Q ->
  ZJ (ZK X.prog X.w) X.A (evalPart e X.env) (λu s'=>∃o H',Inv X kt σ H' s'/\Vg u o/\Q o H') X.xe s
def EL:TO:=λ_ H Q=>Q ZB H
def KR(t:TE):TO:=λσ H Q=>t σ H λx H1=>∃i,x=.int i/\Q (ZA i) H1
def xQ:∀{us:List N9},Vals (ns.map V.int) us->QB us ns:=by
 induction ns with
 |nil=>intro us r;rw[Sh]at r;cases r;exact .nil
 |cons n ns ih=>
  intro us r;rw[Of]at r;cases r with
  |cons r1 r2=>
   obtain⟨t,e⟩:=r1;subst e;exact .cons n t (ih r2)
variable{X:Cx}{e:ZG}{pos:Pos}{r:V->Option Int->Option Int->Hp->VK->Prop}{xs:List V}
section
variable {te:TE}{lo hi:Option ZG}{tl th:TO}{p2:Pos}
def FA:PO X ZB EL:=by intro kt s σ H Q I h;rw[evalPart_none];exact Ou ⟨ZB,H,I,.none,h⟩
def Fz(h:PE X e te):PO X (ZA e) (KR te):=by intro kt s σ H Q I hw;rw[evalPart_some];refine bR (h kt s σ H _ I hw) λu s1 hh_=>?_;obtain⟨x,H1,I1,r1,q1⟩:=hh_;obtain⟨i,rfl,q⟩:=q1;obtain⟨t,rfl⟩:=r1;exact⟨ZA i,H1,I1,.int i t,q⟩
def SlR(X:Cx)(r:V->Option Int->Option Int->Hp->VK->Prop):Prop:=
 ∀(kt:W2)(s:Ob)(σ:St)(H:Hp)(x:V)(v vl vu:N9)(lo hi:Option Int)(sl:ZE)(Q:VK),Inv X kt σ H s->RelV x v->s.heap.IsSliceOf sl vl vu .none->Vg vl lo->Vg vu hi->r x lo hi H Q ->
  ∃T id,Sa (.type T) "__getitem__" =pure (ZA (.builtin id))/\s.TypeIs v T/\ZJ (ZK X.prog X.w) X.A (getItem v (.ref sl)) (EP X kt σ Q) X.xe s
def SlR.or{r':V->Option Int->Option Int->Hp->VK->Prop}(h:SlR X r)(h':SlR X r'):SlR X (λx lo hi H Q=>r x lo hi H Q\/r' x lo hi H Q):=by
 intro kt s σ H x v vl vu lo hi sl Q I rx hs pl pu q;rcases q with q|q
 .exact h kt s σ H x v vl vu lo hi sl Q I rx hs pl pu q
 .exact h' kt s σ H x v vl vu lo hi sl Q I rx hs pl pu q
def tSl(r:V->Option Int->Option Int->Hp->VK->Prop)(te:TE)(tl th:TO):TE:=λσ H Q=>te σ H λx H1=>tl σ H1 λl H2=>th σ H2 λu H3=>r x l u H3 Q
def B2(hr:SlR X r)(he:PE X e te)(hl:PO X lo tl)(hu:PO X hi th):PE X (.Subscript e (.Slice lo hi ZB p2) pos) (tSl r te tl th):=by intro kt s σ H Q I h;refine Subscript_ (bR (he kt s σ H _ I h) λv s1 hh_=>?_);obtain⟨x,H1,I1,r1,q1⟩:=hh_;refine wpAny_Slice (bR (hl kt s1 σ H1 _ I1 q1) λvl s2 ⟨l,H2,I2,pl,q2⟩=>bR (hu kt s2 σ H2 _ I2 q2) λvu s3 hh_=>?_);obtain⟨u,H3,I3,pu,q3⟩:=hh_;rw[evalPart_none];refine Ou ?_;have I4:Inv X kt σ H3 {s3 with heap:=s3.heap.push {cls:=.type "slice",data:=.fields #[vl,vu,.none]}}:=I3.kept (t':=s3.toks) λb ob q=>Om _ q;obtain⟨T,id,hT,ht,hg⟩:=hr kt {s3 with heap:=s3.heap.push {cls:=.type "slice",data:=.fields #[vl,vu,.none]}} σ H3 x v vl vu l u s3.heap.objs.size Q I4 r1 (Heap.IsSliceOf.new ..) pl pu q3;show ZJ (ZK X.prog X.w) X.A (Vj e (.Slice lo hi ZB p2) v (.ref s3.heap.objs.size)) (EP X kt σ Q) X.xe {s3 with heap:=s3.heap.push {cls:=.type "slice",data:=.fields #[vl,vu,.none]}};exact tail_any (ops:=[.ref s3.heap.objs.size,v]) ht hT hg (by with_unfolding_all rfl)
noncomputable def we(xs:List V)(lo hi:Option Int):List V:=(xs.drop (HT.sIx xs.length 0 lo)).take (HT.sIx xs.length xs.length hi - HT.sIx xs.length 0 lo)
def mV(xs:List V)(lo hi:Option Int):(we xs lo hi).length<=xs.length:=by unfold we;rw[PQ,QC];omega
def rSlT(K:N7):V->Option Int->Option Int->Hp->VK->Prop:=λx lo hi H Q=>∃a xs,x=.ref a/\SqT K H a xs ∧
 ¬(HT.sIx xs.length 0 lo=0/\HT.sIx xs.length xs.length hi=xs.length)/\∀p,H p=ZB->Q (.ref p) (upd H p (.tup (we xs lo hi)))
def sl_tup:SlR X (rSlT X.K):=by
 intro kt s σ H x v vl vu lo hi sl Q I rx hs pl pu h;obtain⟨a,xs,rfl,hx,hw,q⟩:=h;cases rx;obtain⟨its,r,ht,hz⟩:=I.tuple hx;have hlen:its.toArray.size=xs.length:=by rw[Ov];exact r.length.symm
 refine⟨"tuple",_,Pr.lookup,ht.typeIs,?_⟩;refine HT.getItem_tuple_cut ht hs pl pu (by rw[hlen];exact hw) ?_ (by rw[hlen];exact hz);rw[hlen];refine⟨.ref s.heap.objs.size,_,I.laid (t':=s.toks) (o:=.tup (we xs lo hi)) (λb ob q=>Om _ q) (On _) ?_,rfl,q _ (I.hok.fresh (On _))⟩;exact⟨OV (mV xs lo hi) hz,_,(r.drop (HT.sIx xs.length 0 lo)).take (HT.sIx xs.length xs.length hi - HT.sIx xs.length 0 lo),Wn _ _⟩
def Le(K:N7):R2:=λx y H Q=>∃a b xs ys,x=.ref a/\y=.ref b/\SqT K H a xs/\SqT K H b ys/\xs≠ []/\xs.length+ys.length<=ZI ∧
 (ys=[]->Q (.ref a) H)/\(ys≠ []->∀p,H p=ZB->Q (.ref p) (upd H p (.tup (xs++ys))))
def Vals.Da(r:Vals xs us):us=[] ↔xs=[]:=by
 cases r with
 |nil=>simp
 |cons _ _=>simp
def FQ:om X (P6 .Add) (Le X.K):=by intro kt s σ H x y v u Q I rx ry h;obtain⟨a,b,xs,ys,rfl,rfl,ha,hb,hx,hz,q1,q2⟩:=h;cases rx;cases ry;obtain⟨its,r1,p1,_⟩:=I.tuple ha;obtain⟨its2,r2,p2,_⟩:=I.tuple hb;refine HT.cat_tup p1 p2 (λz=>hx (r1.Da.mp z)) (λz=>⟨.ref a,H,I,rfl,q1 (r2.Da.mp z)⟩) (λz=>?_) (by rw[<-r1.length,<-r2.length];exact hz);refine⟨.ref s.heap.objs.size,_,I.laid (t':=s.toks) (o:=.tup (xs++ys)) (λb ob q=>Om _ q) (On _) ?_,rfl,q2 (λw=>z (r2.Da.mpr w)) _ (I.hok.fresh (On _))⟩;exact⟨by rw[Oh];exact hz,_,r1.append r2,Wn _ _⟩
end
noncomputable def ixN(n:Nat)(i:Int):Option Nat:=if 0<=i then(if i<n then ZA i.toNat else ZB)else if -(n:Int)<=i then ZA (i+n).toNat else ZB
noncomputable def atI{α:Type}(xs:List α)(i:Int):Option α:=(ixN xs.length i).bind λj=>xs[j]?
def Gi(h:ixN n i=ZA j):seqIndex? i n=ZA j/\j<n/\-(n:Int)<=i/\i<n:=by
 unfold ixN at h;by_cases h0:0<=i
 .rw[if_pos h0]at h;by_cases h1:i<n
  .rw[if_pos h1]at h;have e:i.toNat=j:=O0 h;exact⟨by rw[seqIndex_of h0 h1,e],by omega,by omega,h1⟩
  .rw[if_neg h1]at h;cases h
 .rw[if_neg h0]at h;by_cases h1 : -(n:Int)<=i
  .rw[if_pos h1]at h;have e:(i+n).toNat=j:=O0 h;exact⟨by rw[seqIndex_neg (by omega) h1,e],by omega,h1,by omega⟩
  .rw[if_neg h1]at h;cases h
def uu{xs:List α}{v:α}(h:atI xs i=ZA v):∃j,seqIndex? i xs.length=ZA j/\xs[j]?=ZA v/\j<xs.length/\-(xs.length:Int)<=i/\i<xs.length:=by
 unfold atI at h;cases e:ixN xs.length i with
 |none=>rw[e]at h;cases h
 |some j=>
  rw[e]at h;obtain⟨h1,h2,h3,h4⟩:=Gi e;exact⟨j,h1,h,h2,h3,h4⟩
def zZ(b:ZG):Prop:=∀o i,UV b ZD o i=operate [o,i] (getItem o i)
def IxR(X:Cx)(r:R2):Prop:=
 ∀(value slice:ZG)(kt:W2)(s:Ob)(σ:St)(H:Hp)(x y:V)(v u:N9)(Q:VK),Inv X kt σ H s->RelV x v->RelV y u->r x y H Q ->
  UV slice ZD v u=operate [v,u] (getItem v u)->ZJ (ZK X.prog X.w) X.A (Vj value slice v u) (EP X kt σ Q) X.xe s
def MtR(X:Cx)(id:String)(r:V->List V->Hp->VK->Prop):Prop:=
 ∀(kt:W2)(s:Ob)(σ:St)(H:Hp)(x:V)(xs:List V)(v:N9)(us:List N9)(Q:VK),Inv X kt σ H s->RelV x v->Vals xs us->r x xs H Q ->
  ZJ (ZK X.prog X.w) X.A (call (.builtin id) (v::us)) (EP X kt σ Q) X.xe s
variable{H:Hp}{kt:W2}{σ:St}
section
variable {a b:ZG}{ta tb:TE}
def IxR.or{r r':R2}(h:IxR X r)(h':IxR X r'):IxR X (λx y H Q=>r x y H Q\/r' x y H Q):=by
 intro value slice kt s σ H x y v u Q I rx ry q hs;rcases q with q|q
 .exact h value slice kt s σ H x y v u Q I rx ry q hs
 .exact h' value slice kt s σ H x y v u Q I rx ry q hs
def Ld(K:N7):R2:=λx y H Q=>∃p xs i v,x=.ref p/\y=.int i/\SqL K H p xs/\atI xs i=ZA v/\Q v H
def Lb(K:N7):R2:=λx y H Q=>∃p xs i v,x=.ref p/\y=.int i/\SqT K H p xs/\atI xs i=ZA v/\Q v H
def Lc:R2:=λx y H Q=>∃z i c,x=.str z/\y=.int i/\z.length<=ZI/\atI z.cps.toList i=ZA c/\Q (.str ⟨#[c]⟩) H
def ix_list:IxR X (Ld X.K):=by
 intro value slice kt s σ H x y v u Q I rx ry h hs;obtain⟨p,xs,i,z,rfl,rfl,hq,he,q⟩:=h;cases rx;obtain⟨t,rfl⟩:=ry;obtain⟨its,r,pl,hz⟩:=I.list hq;obtain⟨j,h1,h2,h3,h4,h5⟩:=uu he;obtain⟨w,ew,rw'⟩:=r.get h2;have hl:=r.length;have hn:=pB;have fin:EP X kt σ Q w s:=⟨z,H,I,rw',q⟩;by_cases h0:0<=i
 .have hj:i.toNat=j:=by rw[seqIndex_of h0 h5]at h1;exact O0 h1
  exact item_listR pl.isList h0 (by omega) (by rw[hj];simpa using ew) fin hs
 .have hj:(i+(its.toArray.size:Int)).toNat=j:=by rw[seqIndex_neg (by omega) h4]at h1;rw[Ov,<-hl];exact O0 h1
  exact T6 (x:=w) pl.isList.typeIs slot_list_getitem.lookup
   (wpAny_getItem_list_neg (Q:=λr s'=>r=w/\EP X kt σ Q r s') pl.isList (by omega) (by rw[Ov] <;> omega) (by omega) (by rw[hj];simpa using ew) ⟨rfl,fin⟩) hs
def ix_tup:IxR X (Lb X.K):=by
 intro value slice kt s σ H x y v u Q I rx ry h hs;obtain⟨p,xs,i,z,rfl,rfl,hq,he,q⟩:=h;cases rx;obtain⟨t,rfl⟩:=ry;obtain⟨its,r,pl,hz⟩:=I.tuple hq;obtain⟨j,h1,h2,h3,h4,h5⟩:=uu he;obtain⟨w,ew,rw'⟩:=r.get h2;have hl:=r.length;have hn:=pB;have fin:EP X kt σ Q w s:=⟨z,H,I,rw',q⟩;exact T6 (x:=w) pl.typeIs slot_tuple_getitem.lookup
  (getItem_tuple (j:=j) (Q:=λr s'=>r=w/\EP X kt σ Q r s') pl (by omega) (by omega) (by rw[Ov,<-hl];exact h1) (by simpa using ew) ⟨rfl,fin⟩) hs
def JV:IxR X Lc:=by
 intro value slice kt s σ H x y v u Q I rx ry h hs;obtain⟨z,i,c,rfl,rfl,hz,he,q⟩:=h;obtain⟨t,rfl⟩:=rx;obtain⟨t',rfl⟩:=ry;obtain⟨j,h1,h2,h3,h4,h5⟩:=uu he;have hl:z.cps.toList.length=z.length:=by simp[Str.length]
 rw[hl]at h1 h4 h5;have hn:=pB;exact tail_any (typeIs_str s z t) slot_str_getitem.lookup (getItem_str (c:=c) (by have e1:decide (i< -(2 ^ 63:Int))=ZD:=decide_eq_false (by omega);have e2:decide (i ≥ 2 ^ 63)=ZD:=decide_eq_false (by omega);rw[e1,e2,U1]) (by rw[h1];simpa using h2) ⟨.str ⟨#[c]⟩,H,I.tok _,⟨_,rfl⟩,q⟩) hs
def rIx(K:N7):R2:=λx y H Q=>Ld K x y H Q\/Lb K x y H Q\/Lc x y H Q
def JW:IxR X (rIx X.K):=ix_list.or (ix_tup.or JV)
def sM(lo hi:Option Int)(n:Nat):(Sb lo hi ZB n).1=((HT.sIx n 0 lo:Nat):Int)/\(Sb lo hi ZB n).2.1=((HT.sIx n n hi:Nat):Int)/\(Sb lo hi ZB n).2.2=1:=by
 refine⟨?_,?_,rfl⟩
 .cases lo with
  |none=>simp[Sb,HT.sIx]
  |some i=>
   simp only[Sb,HT.sIx,V2,show(1:Int) > 0 by decide,if_true];by_cases h:i<0
   .simp only[h,if_true] <;> omega
   .simp only[h,if_false] <;> omega
 .cases hi with
  |none=>simp[Sb,HT.sIx]
  |some i=>
   simp only[Sb,HT.sIx,V2,show(1:Int) > 0 by decide,if_true];by_cases h:i<0
   .simp only[h,if_true] <;> omega
   .simp only[h,if_false] <;> omega
def qr(its:List N9)(lo hi:Option Int):slicePick its.toArray lo hi ZB=((its.drop (HT.sIx its.length 0 lo)).take (HT.sIx its.length its.length hi - HT.sIx its.length 0 lo)).toArray:=by obtain⟨h1,h2,h3⟩:=sM lo hi its.toArray.size;unfold slicePick;rw[h1,h2,h3];simp only[sliceRange_one,pick_run,Ov] <;> rfl
def rSlL(K:N7):V->Option Int->Option Int->Hp->VK->Prop:=λx lo hi H Q=>∃a xs,x=.ref a/\SqL K H a xs/\∀p,H p=ZB->Q (.ref p) (upd H p (.lst (we xs lo hi)))
def ET:SlR X (rSlL X.K):=by intro kt s σ H x v vl vu lo hi sl Q I rx hs pl pu h;obtain⟨a,xs,rfl,hx,q⟩:=h;cases rx;obtain⟨its,r,ht,hz⟩:=I.list hx;have hlen:=r.length;refine⟨"list",_,slot_list_getitem.lookup,ht.isList.typeIs,?_⟩;refine wpAny_getItem_list_slice ht.isList hs pl pu .none (by simp) ?_ (by rw[Ov] <;> omega);rw[qr,<-hlen];refine⟨.ref s.heap.objs.size,_,I.laid (t':=s.toks) (o:=.lst (we xs lo hi)) (λb ob q=>Om _ q) (On _) ?_,rfl,q _ (I.hok.fresh (On _))⟩;exact⟨OV (mV xs lo hi) hz,_,0,(r.drop (HT.sIx xs.length 0 lo)).take (HT.sIx xs.length xs.length hi - HT.sIx xs.length 0 lo),OI _ rfl⟩
def call_len_seq:CallR X (.builtin "len") (λxs H Q=>∃p ys,xs=[.ref p]/\(SqL X.K H p ys\/SqT X.K H p ys)/\Q (.int ys.length) H):=by
 intro kt s σ H xs us Q I r h;obtain⟨p,ys,rfl,hq,q⟩:=h;obtain⟨u,rfl,rx⟩:=i9 r;cases rx;have hn:=pB;rcases hq with hq|hq
 .obtain⟨its,r',pl,hz⟩:=I.list hq;have hlen:=r'.length;exact Calls.call_len_list pl.isList (by simp only[Ov] <;> omega) ⟨.int ys.length,H,I.tok _,⟨s.toks+1,by rw[Ov,hlen]⟩,q⟩
 .obtain⟨its,r',pl,hz⟩:=I.tuple hq;have hlen:=r'.length;exact len_tuple pl (by simp only[Ov] <;> omega) ⟨.int ys.length,H,I.tok _,⟨s.toks+1,by rw[Ov,hlen]⟩,q⟩
def uo:CallR X (.builtin "len") (λxs H Q=>∃z,xs=[.str z]/\z.length<=ZI/\Q (.int z.length) H):=by intro kt s σ H xs us Q I r h;obtain⟨z,rfl,hz,q⟩:=h;obtain⟨u,rfl,t,rfl⟩:=i9 r;have hn:=pB;exact len_str (by omega) ⟨.int z.length,H,I.tok _,⟨_,rfl⟩,q⟩
def CallR.or{r r':List V->Hp->VK->Prop}(h:CallR X f r)(h':CallR X f r'):CallR X f (λxs H Q=>r xs H Q\/r' xs H Q):=by
 intro kt s σ H xs us Q I rs q;rcases q with q|q
 .exact h kt s σ H xs us Q I rs q
 .exact h' kt s σ H xs us Q I rs q
def qJ:CallR X (.type "tuple") (λxs H Q=>∃p ys,xs=[.ref p]/\((SqL X.K H p ys/\∀l,H l=ZB->Q (.ref l) (upd H l (.tup ys)))\/(SqT X.K H p ys/\Q (.ref p) H))):=by
 intro kt s σ H xs us Q I r h;obtain⟨p,ys,rfl,h⟩:=h;obtain⟨u,rfl,rx⟩:=i9 r;cases rx;rcases h with⟨hq,q⟩|⟨hq,q⟩
 .obtain⟨its,r',pl,hz⟩:=I.list hq;have hlen:=r'.length;refine call_tuple_list pl.isList (λh' kp=>?_) (by simp only[Ov] <;> omega);have I1:Inv X kt σ H {s with heap:=h'}:=I.kept (t':=s.toks) kp;have I2:Inv X kt σ (upd H h'.objs.size (.tup ys)) {s with heap:=h'.push {cls:=.type "tuple",data:=.seq its.toArray}}:=
   I1.laid (t':=s.toks) (λb o e=>Om _ e) (On _) (show ObjOk X.prog X.w _ _ _ (.tup ys)from⟨hz,its,r',Wn _ _⟩)
  exact⟨.ref h'.objs.size,_,I2,rfl,q _ (I1.hok.fresh (On _))⟩
 .obtain⟨its,r',pl,hz⟩:=I.tuple hq;exact call_tuple_same pl ⟨.ref p,H,I,rfl,q⟩
def tyV(K:N7)(T:String)(x:V)(H:Hp):Prop:=match x with
 |.str _=>T= "str"
 |.int _=>T= "int"
 |.ref p=>(T= "list"/\∃xs,SqL K H p xs)\/(T= "tuple"/\∃o,K.lookup p=ZA o/\o.cls=.type "tuple"/\o.dict=ZB) ∨
   (T= "dict"/\((∃kvs,H p=ZA (.dK kvs))\/∃kvs,H p=ZA (.dT kvs)))\/(T= "set"/\∃S n,H p=ZA (.set S n))
 |_=>False
def sr{T:String}{x:V}(I:Inv X kt σ H s)(r:RelV x v)(ty:tyV X.K T x H):
  s.TypeIs v T/\∀a,v=.ref a->∃ob,s.heap.get? a=ZA ob/\ob.dict=ZB:=by
 cases x with
 |str z=>
  obtain⟨t,rfl⟩:=r;cases (show T= "str" from ty);exact⟨typeIs_str s z t,λ_ e=>nomatch e⟩
 |int i=>
  obtain⟨t,rfl⟩:=r;cases (show T= "int" from ty);exact⟨Ux s i t,λ_ e=>nomatch e⟩
 |ref p=>
  cases r;rcases ty with⟨rfl,xs,hq⟩|⟨rfl,o,hk,hc,hd⟩|⟨rfl,hk⟩|⟨rfl,S,n,hk⟩
  .obtain⟨its,_,pl,_⟩:=I.list hq;refine⟨pl.isList.typeIs,λa e=>?_⟩;cases e;obtain⟨o,n,e,c,hd,_⟩:=pl;exact⟨o,e,hd⟩
  .refine⟨⟨o,I.kIn p o hk,hc⟩,λa e=>?_⟩;cases e;exact⟨o,I.kIn _ o hk,hd⟩
  .have z:∃o,s.heap.get? p=ZA o/\o.ExactDict:=by
    rcases hk with⟨kvs,hk⟩|⟨kvs,hk⟩
    .obtain⟨_,_,_,_,o,_,_,e,ex,_⟩:=I.hok p _ hk;exact⟨o,e,ex⟩
    .obtain⟨_,_,_,_,o,_,_,e,ex,_⟩:=I.hok p _ hk;exact⟨o,e,ex⟩
   obtain⟨o,e,ex⟩:=z;refine⟨⟨o,e,ex.1⟩,λa e2=>?_⟩;cases e2;exact⟨o,e,ex.2.1⟩
  .obtain⟨o,_,_,_,e,ex,_⟩:=I.hok p _ hk;refine⟨⟨o,e,ex.1⟩,λa e2=>?_⟩;cases e2;exact⟨o,e,ex.2.1⟩
 |_=>exact PM ty
def tBM0(K:N7)(T:String)(r:V->List V->Hp->VK->Prop)(to:TE):TE:=λσ H Q=>to σ H λx H1=>tyV K T x H1/\r x [] H1 Q
def tBM(K:N7)(T:String)(r:V->List V->Hp->VK->Prop)(to:TE)(t:TA):TE:=λσ H Q=>to σ H λx H1=>tyV K T x H1/\t σ H1 λxs H2=>r x xs H2 Q
variable {o:ZG}{es:List ZG}{to:TE}{t:TA}{name:Str}{apos cpos:Pos}{T id:String}{r:V->List V->Hp->VK->Prop}
def Je(pa:PlainAttrs T)(slot:Slot T name id)(hty:typeOf (.builtin id)=pure (.type "method_descriptor"))(hm:MtR X id r)(ho:PE X o to)
  (hbase:autoParam (OR o name X.env (eval o X.env)=eval o X.env) u_) (hline:autoParam ((apos.endLine == cpos.line)=ZC) u_):PE X (.Call (.Attribute o name apos) [] [] cpos) (tBM0 X.K T r to):=by
 intro kt s σ H Q I h;refine wpAny_Call_method0_late hbase hline (bR (ho kt s σ H _ I h) λv s1 hh_=>?_);obtain⟨x,H1,I1,r1,ty,q1⟩:=hh_;obtain⟨h1,h2⟩:=sr I1 r1 ty;exact⟨T,id,pa,slot,hty,h1,h2,Qx rfl (PySem.evalArgs_none (hm kt s1 σ H1 x [] v [] Q I1 r1 .nil q1))⟩
def yW(pa:PlainAttrs T)(slot:Slot T name id)(hty:typeOf (.builtin id)=pure (.type "method_descriptor"))(hm:MtR X id r)(ho:PE X o to)(ha:PA X (e::es) t)
  (hbase:autoParam (OR o name X.env (eval o X.env)=eval o X.env) u_)
  (hfew:((backTo cpos (Oq (e::es) X.env)).all (λx=>!x.1)&&(Se cpos (QV [] X.env)).all (λx=>x.1.isSome)
   &&decide ((e::es).length+([]:List Wx).length+(if ([]:List Wx).isEmpty then 0 else 1)<30))=ZC:=by rfl)
  (hline:autoParam ((apos.endLine == cpos.line)=ZC) u_) (hs:autoParam (Oq (e::es) X.env=(ZD,eval e X.env)::Oq es X.env) u_) (hplain:autoParam ((backTo cpos (Oq es X.env)).any (·.1)=ZD) u_):
  PE X (.Call (.Attribute o name apos) (e::es) [] cpos) (tBM X.K T r to t):=by
 intro kt s σ H Q I h;refine R8 hbase hfew hline rfl (bR (ho kt s σ H _ I h) λv s1 hh_=>?_);obtain⟨x,H1,I1,r1,ty,q1⟩:=hh_;obtain⟨h1,h2⟩:=sr I1 r1 ty;refine⟨T,id,pa,slot,hty,h1,h2,?_⟩;have hA:=ha cpos kt s1 σ H1 _ I1 q1;rw[hs]at hA ⊢;refine Qx (by show(ZD||(backTo cpos (Oq es X.env)).any (·.1))=ZD;rw[hplain] <;> rfl) (QZ ?_);exact bR hA λus s2 ⟨vs,H2,I2,r2,q2⟩=>hm kt s2 σ H2 x vs v us Q I2 r1 r2 q2
end
def MtM(X:Cx)(id:String)(r:V->List V->Hp->VK->Prop):Prop:=
 ∀(kt:W2)(s:Ob)(σ:St)(H:Hp)(x:V)(xs:List V)(v:N9)(us:List N9)(Q:VK),Inv X kt σ H s->RelV x v->Vals xs us->r x xs H Q ->
  ZJ (ZK X.prog X.w) X.A (call (.builtin id) (v::us)) (EP X kt σ Q) X.xe s
theorem Vals.one:∀{x:V}{us:List N9},Vals [x] us->∃u,us=[u]/\RelV x u
 |_,_,h=>by cases h with|cons r t=>cases t;exact⟨_,rfl,r⟩
theorem Vals.zero:∀{us:List N9},Vals [] us->us=[]
 |_,.nil=>rfl
def Vals.dropLast(h:Vals xs us):Vals xs.dropLast us.dropLast:=by
 induction h with
 |nil=>exact .nil
 |cons r t ih=>
  cases t with
  |nil=>exact .nil
  |cons q t'=>exact .cons r ih
theorem Vals.rep(h:Vals xs us):∀k:Nat,Vals (OK k xs).flatten (OK k us).flatten
 |0=>.nil
 |k+1=>by rw[Qb,Qb,Q3,Q3];exact Vals.append h (Vals.rep h k)
def xX(l:List α):l.eraseIdx (l.length - 1)=l.dropLast:=by
 induction l with
 |nil=>rfl
 |cons a r ih=>
  cases r with
  |nil=>rfl
  |cons b r=>
   have e:(a::b::r).length - 1=((b::r).length - 1)+1:=by have h1:(a::b::r).length=r.length+2:=rfl;have h2:(b::r).length=r.length+1:=rfl;omega
   rw[e,List.eraseIdx_cons_succ,ih];all_goals rfl
theorem foldl_rep(its:List N9):∀(k:Nat)(acc:List N9),
  Tu (λx1 x2=>x1++x2) acc.toArray (OK k its.toArray)=(acc++(OK k its).flatten).toArray
 |0,acc=>by simp
 |k+1,acc=>by
  have e:acc.toArray++its.toArray=(acc++its).toArray:=by simp
  have e2:(acc++its)++(OK k its).flatten=acc++(OK (k+1) its).flatten:=by rw[Qb,Q3,O8]
  rw[<-e2,<-foldl_rep its k (acc++its),<-e,Qb,Wo]
section
variable {l b:ZE}{ys zs:List V}
def Inv.NP{its':List N9}{f:Array N9->Array N9}(I:Inv X kt σ H s)(hH:H l=ZA (.lst xs))
  (e:s.heap.get? l=ZA {cls:=.type "list",data:=.seq its.toArray n}) (hf:f its.toArray=its'.toArray) (hv:Vals ys its') (hz:ys.length<=ZI):
  Inv X kt σ (upd H l (.lst ys)) {s with heap:=s.heap.update l (SO f),toks:=t'}:=by
 have q:=PySem.IsL.update e f;rw[hf]at q;refine I.write (x:=l) (e:=l) (by rw[hH];exact trivial) (.inl rfl) (λb' u hb hu=>(Ri s.heap (SO f) (Ra hb)).trans hu) ⟨_,q⟩ ?_;exact⟨hz,its',_,hv,q⟩
def Inv.NH(I:Inv X kt σ H s)(hv:Vals ys its)(hz:ys.length<=ZI):
  Inv X kt σ (upd H s.heap.objs.size (.lst ys)) {s with heap:=s.heap.push {cls:=.type "list",data:=.seq its.toArray},toks:=t'}:=
 I.laid (λ_ _ q=>Om _ q) (On _) ⟨hz,its,0,hv,OI _ rfl⟩
theorem Inv.fresh(I:Inv X kt σ H s):H s.heap.objs.size=ZB:=I.hok.fresh (On _)
def Inv.Nj(I:Inv X kt σ H s)(hH:H l=ZA (.lst xs)):xs.length<=ZI/\∃(its:List N9)(n:Nat),Vals xs its/\xs.length=its.length/\s.heap.get? l=ZA {cls:=.type "list",data:=.seq its.toArray n}:=by obtain⟨z,its,n,r,e⟩:=I.hok l _ hH;exact⟨z,its,n,r,r.length,e⟩
def vj(h:n<=ZI):Q0 n=ZD:=by unfold Q0;exact decide_eq_false (by omega)
end
def E5:V->List V->Hp->VK->Prop:=λx vs H Q=>∃l xs y,x=.ref l/\vs=[y]/\H l=ZA (.lst xs)/\xs.length<ZI/\Q .non (upd H l (.lst (xs++[y])))
def jR:MtM X "list.append" E5:=by intro kt s σ H x vs v us Q I rx rv h;obtain⟨l,xs,y,rfl,rfl,hH,hz,q⟩:=h;cases rx;obtain⟨u,rfl,ru⟩:=rv.one;obtain⟨z,its,n,r,hl,e⟩:=I.Nj hH;refine RW F.slot_list_append ⟨_,e,rfl⟩ F.entry_list_append (F.args_list_append_2 _ _) (PySem.list_append l its.toArray n u (by rw[Ov];omega)) ⟨e,?_⟩;refine⟨.non,_,I.NP (its':=its++[u]) hH e (by simp) (r.append (.cons ru .nil)) ?_,rfl,q⟩;rw[Oh,Pl];omega
def EZ:V->List V->Hp->VK->Prop:=λx vs H Q=>∃l b xs zs,x=.ref l/\vs=[.ref b]/\H l=ZA (.lst xs)/\H b=ZA (.lst zs)/\xs.length+zs.length<=ZI/\Q .non (upd H l (.lst (xs++zs)))
def AE:MtM X "list.extend" EZ:=by
 intro kt s σ H x vs v us Q I rx rv h;obtain⟨l,b,xs,zs,rfl,rfl,hH,hB,hz,q⟩:=h;cases rx;obtain⟨u,rfl,ru⟩:=rv.one;cases ru;obtain⟨z,its,n,r,hl,e⟩:=I.Nj hH;obtain⟨z2,its2,n2,r2,hl2,e2⟩:=I.Nj hB;have hsz:its.toArray.size+its2.toArray.size<=ZI:=by rw[Ov,Ov];omega
 have hlong:¬ (!its.toArray.isEmpty&&Q0 (its.toArray.size+its2.toArray.size))=ZC:=by rw[vj hsz,Re];exact OB
 refine RW F.slot_list_extend ⟨_,e,rfl⟩ F.entry_list_extend (F.args_list_extend_2 _ _)
  (AutoSeq1.list_extend_list_list_0 l its.toArray n b its2.toArray n2 hlong (by rw[Ov];omega) (by omega)) ⟨e,e2,?_⟩
 refine⟨.non,_,I.NP (its':=its++its2) hH e (by simp) (r.append r2) ?_,rfl,q⟩;rw[Oh];omega
def rPop:V->List V->Hp->VK->Prop:=λx vs H Q=>∃l xs y,x=.ref l/\vs=[]/\H l=ZA (.lst xs)/\xs[xs.length - 1]?=ZA y/\Q y (upd H l (.lst xs.dropLast))
def Jy:MtM X "list.pop" rPop:=by
 intro kt s σ H x vs v us Q I rx rv h;obtain⟨l,xs,y,rfl,rfl,hH,hy,q⟩:=h;cases rx;have hus:=rv.zero;subst hus;obtain⟨z,its,n,r,hl,e⟩:=I.Nj hH;obtain⟨u,hu,ru⟩:=r.get hy;have hy':its.toArray[its.toArray.size - 1]?=ZA u:=by show its.toArray[its.length - 1]?=ZA u;rw[<-Array.getElem?_toList,<-hl];exact hu
 refine RW F.slot_list_pop ⟨_,e,rfl⟩ F.entry_list_pop (F.args_list_pop_1 _) (MeetsSeq.list_pop_last l its.toArray n u hy' (by rw[Ov];omega)) ⟨e,?_⟩;refine⟨y,_,I.NP (its':=its.dropLast) hH e ?_ r.dropLast ?_,ru,q⟩
 .show its.toArray.eraseIdxIfInBounds (its.toArray.size - 1)=its.dropLast.toArray;rw[Ov,List.eraseIdxIfInBounds_toArray,xX]
 .rw[List.length_dropLast];omega
def rCat:R2:=λx y H Q=>∃l b xs zs,x=.ref l/\y=.ref b/\H l=ZA (.lst xs)/\H b=ZA (.lst zs)/\xs.length+zs.length<=ZI/\∀p,H p=ZB->Q (.ref p) (upd H p (.lst (xs++zs)))
def Jo:om X (P6 .Add) rCat:=by
 intro kt s σ H x y v u Q I rx ry h;obtain⟨l,b,xs,zs,rfl,rfl,hH,hB,hz,q⟩:=h;cases rx;cases ry;obtain⟨z,its,n,r,hl,e⟩:=I.Nj hH;obtain⟨z2,its2,n2,r2,hl2,e2⟩:=I.Nj hB;refine V1 e e2 ?_ (by rw[Ov,Ov];omega);have ea:its.toArray++its2.toArray=(its++its2).toArray:=by simp
 rw[ea];exact⟨.ref _,_,I.NH (t':=s.toks) (r.append r2) (by rw[Oh];omega),rfl,q _ I.fresh⟩
def rRep:R2:=λx y H Q=>∃l k xs,x=.ref l/\y=.int k/\H l=ZA (.lst xs)/\-(2 ^ 63)<=k/\k<2 ^ 63/\xs.length*k.toNat<=ZI ∧
 ∀p,H p=ZB->Q (.ref p) (upd H p (.lst (OK k.toNat xs).flatten))
def len_rep(xs:List α)(k:Nat):(OK k xs).flatten.length=k*xs.length:=by
 induction k with
 |zero=>simp
 |succ k ih=>rw[Qb,Q3,Oh,ih,Nat.succ_mul,VL]
def Jk:om X (P6 .Mult) rRep:=by
 intro kt s σ H x y v u Q I rx ry h;obtain⟨l,k,xs,rfl,rfl,hH,h1,h2,hz,q⟩:=h;cases rx;obtain⟨t,rfl⟩:=ry;obtain⟨z,its,n,r,hl,e⟩:=I.Nj hH;have hlen:its.toArray.size*k.toNat<=ZI:=by rw[Ov,<-hl];exact hz
 have hcap:¬ its.toArray.size*k.toNat > (2 ^ 63 - 1) / 8:=by
  have:(ZI:Nat)<=(2 ^ 63 - 1) / 8:=by decide
  omega
 have hfit:¬ (!Builtin.List.listFitsIndex k)=ZC:=by rw[fitsIndex_both h1 h2];exact OB
 have hlong:¬ Q0 (its.toArray.size*k.toNat)=ZC:=by rw[vj hlen];exact OB
 have hnew:Tu (λx1 x2=>x1++x2) #[] (OK (if its.toArray.isEmpty=ZC then 0 else k.toNat) its.toArray)=(OK k.toNat its).flatten.toArray:=by
  have f0:∀m:Nat,Tu (λx1 x2=>x1++x2) #[] (OK m its.toArray)=(OK m its).flatten.toArray:=λm=>by have:=foldl_rep its m [];rw[Q4]at this;exact this
  rw[f0];cases its with
  |nil=>simp
  |cons a r'=>rw[if_neg (by simp)]
 refine Tj (T:="list") (U:="int") (by decide) ⟨_,e,rfl⟩ (λs'=>Ux s' k t) noFill_list_mul Wp SX repeat_list V3.lookup
  (RW SX (Ux s k t) V4 (Vq _ _) (int___rmul___int_list k t l its.toArray n)
   ⟨e,rfl,⟨_,e,rfl⟩,RW F.slot_list_mul ⟨_,e,rfl⟩ F.entry_list_mul (F.args_list_mul_2 _ _) (U2 l its.toArray n k t hfit hcap hlong) ⟨e,?_⟩⟩)
 rw[hnew];exact⟨.ref _,_,I.NH (t':=s.toks) (r.rep k.toNat) (by rw[len_rep,VM];exact hz),rfl,q _ I.fresh⟩
end L2
namespace Att
open PySem PySem.W PySem.Calls PyProof.Rows
variable{P:Params}{h:ZH}
def nF:∀(ns:List Int)(vs:List N9),WellAll P h vs (ns.map WData.int)->QB vs ns:=by
 intro ns;induction ns with
 |nil=>
  intro vs w;rw[Sh]at w;cases w;exact .nil
 |cons n ns ih=>
  intro vs w;rw[Of]at w;cases w with
  |cons a b=>
   cases a;exact .cons _ _ (ih _ b)
variable{l:OpenLaw}
def Aj(hn:l.most=ZA n){args:List WData}{vals:List N9}
  (hpre:l.row.toRowW.claim.pre args=ZC) (hwl:WellAll P h vals args):
  ∃a vs ns,vals=[OF a]/\args=[WData.list (ns.map WData.int)]/\h.get? a=ZA {cls:=.type "list",data:=.seq vs.toArray}/\QB vs ns/\ns.length<=n:=by
 have hsh:WShape.hasAll [] args [.list .int]=ZC:=(pre_splitW hpre).1;have hc:l.pre.holds [] {args:=args}=ZC:=(pre_splitW hpre).2;obtain⟨d,r,rfl,h1,h2⟩:=hasAllW_cons hsh;obtain rfl:=hasAllW_nil h2;obtain⟨xs,rfl,h3⟩:=hasW_list h1;obtain⟨ns,rfl⟩:=items_int h3;have hlen:ns.length<=n:=by
  unfold OpenLaw.pre at hc;have h4:(WTm.not (.lt (.lit (.int (n:Int))) (.len (.arg 0)))).holds [] {args:=[.list (ns.map .int)]}=ZC:=by have h4:=(holds_andW hc).1;rw[hn]at h4;exact h4
  have h5:=condW_of h4 (w_not (w_lt w_lit (w_len_list (w_arg rfl))));rw[Oa]at h5;refine V5 λq=>?_;have q':(n:Int)<((ns.length:Nat):Int):=by omega
  first
   | (rw[decide_eq_true q']at h5;exact absurd h5 (by decide))
   | (simp at h5;omega)
 cases hwl with
 |cons w1 w2=>
  cases w2;cases w1 with
  |list ho hall=>exact⟨_,_,ns,rfl,rfl,ho,nF ns _ hall,hlen⟩
def Ao(l:OpenLaw)(args:List WData):l.row.toRowW.claim.post args (.bool ZC) args=ZC:=
 postW_of (r:=l.row.toRowW) (X:=(ZC == ZC))
  (show WShape.has [] (.bool ZC) .bool=ZC by first|rfl|decide|simp[WShape.has,WShape.arms,WShape.armsAll])
  (show(WTm.eq .res (.lit (.bool ZC))).value [] {args:=args,res:=ZA (.bool ZC),after:=args}=ZA (.bool (ZC == ZC))from w_eq_bool (w_res rfl) w_lit) rfl
def attach_call{q:OM}{loose:List Str}{XP:(W0)->ZH->Prop}{YP:Pm->ZH->Prop}{d:DefRec}
  (hn:l.most=ZA n) (hdf:d.params.defaults=[])
  (call:∀(w:Pm)(s₀ s₁:Ob)(mg mb:W0)(fa:ZE)(o:Obj)(pm cd doc:N9)(a:ZE)(vs:List N9)(ns:List Int),
   Ground q loose [] XP w s₀ mg mb s₁.heap->YP w s₁.heap ->
   s₁.heap.get? fa=ZA o->o.data=.func (docDef d.name d.params d.body d.scope pm cd doc)->s₁.heap.CodeRec cd d.name->mg d.name=ZA (.ref fa) ->
   s₁.heap.get? a=ZA {cls:=.type "list",data:=.seq vs.toArray}->QB vs ns->ns.length<=n->s₁.gens= #[] ->
   ZL (ZK l.prog w) callerA (.call (.ref fa) ⟨[.ref a],[]⟩) (λr s'=>r=.ok (.ret (.bool ZC))/\OldK s₁.heap s'.heap/\s'.os=s₁.os/\TQ s'.gens) s₁):
  WalkO q loose XP YP l.row.toRowW d [] (λf vs=>PySem.call f vs):=by
 intro w s₀ s₁ mg mb G Y fa o pm cd doc dV kV ho hd hcd hD hmg hg args vals as hpre hlay hrd hwl hlo;obtain rfl:dV=.none:=Dflts.none hD hdf;obtain rfl:kV=.none:=Dflts.noKw hD;obtain⟨a,vs,ns,rfl,rfl,hobj,hints,hlen⟩:=Aj hn hpre hwl;refine enter_call (Rr (call w s₀ s₁ mg mb fa o pm cd doc a vs ns G Y ho (fd_plain hd) hcd hmg hobj hints hlen hg) λr s' hq=>?_);obtain⟨rfl,h2,h3,h4⟩:=hq;exact⟨.inl ⟨.bool ZC,.bool ZC,[],rfl,λ_=>rfl,.bool ZC,Ao l _,λ_=>⟨Ts,λ_ hm=>(nomatch hm)⟩⟩,h2,h3,h4⟩
end Att
namespace L2
open PySem PySem.Spec PyProof.Rows
theorem qQ:∀{vs:List N9}{ns:List Int},QB vs ns->Vals (ns.map V.int) vs
 |_,_,.nil=>.nil
 |_,_,.cons n t h=>.cons ⟨t,rfl⟩ (qQ h)
def Kw(H:Hp):Prop:=∀b,H b=ZB\/∃o xs,H b=ZA (.frz o (.lst xs))
variable{mg:W0}{x:Str}
def CO{mb:W0}{CX:Es}{fa a:ZE}{sp:Sp}{s₁:Ob}
  (KX:K.In s₁.heap) (hns:s₁.heap.Ns O5 mg) (hb:s₁.heap.Ns Tz mb) (hbb:∀x:Str,x≠ "__name__"->mb x=O6 x) (hlim:s₁.heap.NoLimit) (hg:s₁.gens= #[])
  (ha:s₁.heap.get? a=ZA {cls:=.type "list",data:=.seq vs.toArray}) (hi:QB vs ns) (hl:ns.length<=ZI) (hr:Room k callerA)
  (F:∀base:ZH,K.In base->base.Ns O5 mg->p7 P w K mg base CX k fa fd [x] sp) (hbind:∀(s:Ob)(u:N9),Ur s fd ⟨[u],[]⟩ [(x,u)])
  (hsp:∀H:Hp,Kw H->SqL K H a (ns.map V.int)->sp [.ref a] H (λv _=>v=.bl ZC) λ_ _ _=>False)
  (hCX:∀H e s',CX [] H s₁ (λ_ _ _=>False) e s'->False):
  ZL (ZK P w) callerA (.call (.ref fa) ⟨[.ref a],[]⟩) (λr s'=>r=.ok (.ret (.bool ZC))/\OldK s₁.heap s'.heap/\s'.os=s₁.os/\TQ s'.gens) s₁:=by
 have rv:=qQ hi;have lenV:=hi.length;have core:∀H:Hp,Kw H->SqL K H a (ns.map V.int)->HOk P w H s₁.heap->(∀b,H b≠ZB->b=a)->(H a≠ZB->K.lookup a=ZB) ->
   ZL (ZK P w) callerA (.call (.ref fa) ⟨[.ref a],[]⟩) (λr s'=>r=.ok (.ret (.bool ZC))/\OldK s₁.heap s'.heap/\s'.os=s₁.os/\TQ s'.gens) s₁:=by
  intro H hO hS hok hA hK;have base_of:∀{b:ZE}{o:Obj},s₁.heap.get? b=ZA o->H b=ZB->(t9 s₁.heap H).get? b=ZA o:=λe n=>Dj e n;have noA:∀{b:ZE}{o:Obj}{es:Array DictEntry}{ep:Nat},s₁.heap.get? b=ZA o->o.data=.dict es ep->H b=ZB:=λ{b o es ep} e d=>by
   cases q:H b with
   |none=>rfl
   |some u=>
    have e':b=a:=hA b (by rw[q];simp);subst e';rw[ha]at e;cases e;have d':Data.seq vs.toArray _=Data.dict es ep:=d;cases d'
  have nsK:∀{b:ZE}{m:W0},s₁.heap.Ns b m->(t9 s₁.heap H).Ns b m:=λ{b m} ⟨o,es,ep,e,d,r⟩=>⟨o,es,ep,base_of e (noA e d),d,r⟩;have hKb:K.In (t9 s₁.heap H):=λb o e=>base_of (KX b o e) (by
   cases q:H b with
   |none=>rfl
   |some u=>
    have e':b=a:=hA b (by rw[q];simp);subst e';rw[hK (by rw[q];simp)]at e;cases e)
  have hM:Mod K mg (t9 s₁.heap H):=⟨hKb,nsK hns,⟨mb,nsK hb,hbb⟩,let ⟨mc,h1,h2⟩:=hlim;⟨mc,nsK h1,h2⟩⟩;have e0:Env0 P w K mg (t9 s₁.heap H) callerA [] s₁ H:=⟨rfl,hM,λb o e=>FT e,RS (AQ _ _),trivial,λb hb=>absurd (show b∈([]:List ZE)from hb) (by simp),hok,.of_eq hg⟩;refine Rr ((F _ hKb (nsK hns)).run callerA [] s₁ H ⟨[.ref a],[]⟩ [.ref a] [.ref a] _ _ hr e0 (hbind s₁ (.ref a)) (.cons rfl .nil) (hsp H hO hS)) λr s' h=>?_;cases r with
  |error e=>exact(hCX H e s' h).elim
  |ok fl=>
   cases fl with
   |next=>exact PM h
   |brk=>exact PM h
   |cont=>exact PM h
   |ret u=>
    obtain⟨v,H',os,bare,un,hok',r',q⟩:=h;have q':v=.bl ZC:=q;subst q';obtain rfl:u=Pz ZC:=r';refine⟨rfl,OldK.of_keep λb o e=>?_,os,bare⟩;cases q:H b with
    |none=>exact un.keep b o e q (by intro z;exact absurd (show b∈([]:List ZE)from z) (by simp)) (by simp)
    |some u=>
     rcases hO b with z|⟨ob,xs,z⟩
     .rw[q]at z;cases z
     .have z2:=un.frzs b ob _ z;obtain⟨e1,_⟩:=hok b _ z;obtain⟨e2,_⟩:=hok' b _ z2;rw[e]at e1;cases e1;exact e2
 cases hk:K.lookup a with
 |some o=>
  have e:=KX a o hk;rw[ha]at e;cases e;refine core (λ_=>ZB) (λ_=>.inl rfl) (.inr ⟨_,vs.toArray,_,hk,rfl,rfl,rfl,by rw[Ov,lenV];exact hl,by simpa using rv⟩) (λb u z=>by have z':(ZB:Option HO)=ZA u:=z;cases z') (λb z=>absurd rfl z) λz=>absurd rfl z
 |none=>
  refine core (λb=>if b=a then ZA (.frz {cls:=.type "list",data:=.seq vs.toArray} (.lst (ns.map V.int)))else ZB) (λb=>?_) (.inl (.inr ⟨{cls:=.type "list",data:=.seq vs.toArray},if_pos rfl⟩)) (λb u z=>?_) (λb z=>?_) λ_=>hk
  .by_cases hb:b=a
   .exact .inr ⟨_,_,if_pos hb⟩
   .exact .inl (if_neg hb)
  .by_cases hb:b=a
   .have z':=(if_pos hb).symm.trans z;cases z';subst hb;exact⟨ha,by rw[Oa];exact hl,vs,_,rv,ha⟩
   .have z':=(if_neg hb).symm.trans z;cases z'
  .by_cases hb:b=a
   .exact hb
   .exact absurd (if_neg hb) z
abbrev CX0:Es:=λ_ _ _ _ _ _=>False
abbrev E0:XK:=λ_ _ _=>False
variable{X:Cx}
def yY:yh CX0 X E0:=λ_ _ _ _ _ _ _ h=>h.elim
structure Fun (K:N7)(x qual:Str)(st:ZF)(f:ZE)(fd:Pu):Prop where
 ex:∃(oc:N9)(od:Option ZE)(kV doc pm:N9)(an:Option ZE)(cdv ct:N9)(osl:Array (Option N9)),
  fd=RJ x qual (fy st) (bD st) (ao st) .none kV doc pm an cdv ct/\K.lookup f=ZA ⟨oc,od,.func fd,osl⟩/\UH K cdv qual=ZC
 kp:QK K (.ref f)=ZC
variable{f:ZE}{ps:List Str}{qual:Str}{st:ZF}
section
variable {base:ZH}
def Fun.ok{N:List Str}{sp:Sp}(F:Fun K x qual st f fd)(S:bo N ps (ao st))(len:∀vs H Q E,sp vs H Q E->vs.length=ps.length)
  (hbody:∀(cdv:N9)(A:OY)(outer:List Env)(s:Ob)(H:Hp)(vs:List V)(Q:VK)(E:XK),Room k (A.deeper (envOfC qual (ao st) s.heap.objs.size f cdv))->sp vs H Q E ->
   ∃t,PSs (gf CX0 P w K mg base N qual (ao st) f cdv A outer s H E).nox (bD st) t/\t {nx:=λ_ H'=>Q .non H',rt:=Q} (start N vs) H):p7 P w K mg base CX0 (k+1) f fd ps sp:=by
 obtain⟨oc,od,kV,doc,pm,an,cdv,ct,osl,rfl,lk,hcd⟩:=F.ex;refine MB lk hcd S len λA outer s H vs Q E hr hsp=>?_;obtain⟨t,h,q⟩:=hbody cdv A outer s H vs Q E hr hsp;exact⟨t,h.nox,q⟩
def Fun.binds(F:Fun K x qual st f fd)
  (h:∀(kV doc pm:N9)(an:Option ZE)(cdv ct:N9)(us:List N9),us.length=ps.length->Ve (RJ x qual (fy st) (bD st) (ao st) .none kV doc pm an cdv ct) ⟨us,[]⟩=pure (ps.zip us)):Binds K fd ps []:=by
 obtain⟨oc,od,kV,doc,pm,an,cdv,ct,osl,rfl,lk,hcd⟩:=F.ex;exact .all (h kV doc pm an cdv ct)
def Dp{oc:N9}{od an:Option ZE}{osl:Array (Option N9)}{kV doc pm cdv ct:N9}(l:K.lookup f=ZA ⟨oc,od,.func (RJ x qual (fy st) (bD st) (ao st) .none kV doc pm an cdv ct),osl⟩)
  (c:UH K cdv qual=ZC) (k:QK K (.ref f)=ZC):Fun K x qual st f (RJ x qual (fy st) (bD st) (ao st) .none kV doc pm an cdv ct):=⟨⟨oc,od,kV,doc,pm,an,cdv,ct,osl,rfl,l,c⟩,k⟩
end
def iteF{A B:Prop}(h:B):if ZD=ZC then A else B:=by rw[if_neg OB];exact h
def iteT{A B:Prop}(h:A):if ZC=ZC then A else B:=by rw[if_pos rfl];exact h
def Same(H H':Hp):Prop:=∀b o,H b=ZA o->H' b=ZA o
def Same.refl(H:Hp):Same H H:=λ_ _ h=>h
def Same.trans{H H1 H2:Hp}(a:Same H H1)(b:Same H1 H2):Same H H2:=λc o h=>b c o (a c o h)
variable{env:Env}
theorem kQ:∀(names:List (Str×RB))(acc:List (Str×ZE)),
  (∀x,(x,Pd)∈names->∃c,env.cells.lookup x=ZA c) ->
  (∀x c,acc.lookup x=ZA c->env.cells.lookup x=ZA c) ->
  ∃cl,(forIn (m:=Sem) names acc (λx cs=>(if (x.2 == Pd)=ZC then do let a <-cellOf env x.1;pure (Rp ((x.1,a)::cs))else pure (Rp cs))))=pure cl ∧
   (∀x c,cl.lookup x=ZA c->env.cells.lookup x=ZA c) ∧
   (∀x,(x,Pd)∈names->∃c,cl.lookup x=ZA c)/\(∀x c,acc.lookup x=ZA c->∃c',cl.lookup x=ZA c')
 |[],acc,_,h=>⟨acc,rfl,h,λx hx=>by simp at hx,λx c e=>⟨c,e⟩⟩
 | (n,k)::r,acc,hf,h=>by
  by_cases hk:k=Pd
  .subst hk;obtain⟨c,hc⟩:=hf n (by simp);have h':∀x c',((n,c)::acc).lookup x=ZA c'->env.cells.lookup x=ZA c':=λx c' e=>by
    rw[Pg]at e;cases q:x == n with
    |true=>
     rw[q]at e;have e2:c=c':=O0 e;have e3:x=n:=by simpa using q
     rw[<-e2,e3];exact hc
    |false=>rw[q]at e;exact h x c' e
   obtain⟨cl,e1,e2,e3,e4⟩:=kQ r ((n,c)::acc) (λx hx=>hf x (N8 _ hx)) h';refine⟨cl,?_,e2,λx hx=>?_,λx c' e=>?_⟩
   .rw[Wq];simp only[beq_self_eq_true,if_true,cellOf,hc,pure_bind];exact e1
   .rcases Oj.mp hx with z|z
    .have z1:x=n:=by injection z
     subst z1;exact e4 x c (by simp[Pg])
    .exact e3 x z
   .cases q:x == n with
    |true=>exact e4 x c (by simp[Pg,q])
    |false=>exact e4 x c' (by simp[Pg,q,e])
  .have hb:(k == Pd)=ZD:=by simpa using hk
   obtain⟨cl,e1,e2,e3,e4⟩:=kQ r acc (λx hx=>hf x (N8 _ hx)) h;refine⟨cl,?_,e2,λx hx=>?_,e4⟩
   .rw[Wq];simp only[hb,QF,if_false,pure_bind];exact e1
   .rcases Oj.mp hx with z|z
    .have z1:Pd=k:=by injection z
     exact absurd z1.symm hk
    .exact e3 x z
def x6(hf:∀x,(x,Pd)∈scope.names->∃c,env.cells.lookup x=ZA c):
  ∃cl,closureFor scope env=pure cl/\(∀x c,cl.lookup x=ZA c->env.cells.lookup x=ZA c)/\(∀x,(x,Pd)∈scope.names->∃c,cl.lookup x=ZA c):=by
 obtain⟨cl,e1,e2,e3,_⟩:=kQ scope.names [] hf (λx c e=>by simp at e);refine⟨cl,?_,e2,e3⟩;unfold closureFor;refine Eq.trans ?_ (congrArg (λz=>z >>= pure) e1|>.trans (by simp));rfl
variable{tg:ZG}
def um{pr:OM}{wd:Pm}{Ar:OY}{Rz:Vc->Ob->Prop}{s0:Ob}{el it0:ZG}{cs:List ZG}{ps:Pos}{itv av:N9}{ev:Env}(W:Nat->Ob->Prop)
  (go:∀k st,W k st->ZJ (ZK pr wd) Ar (pyNext itv) (λr s1=>match r with
   |none=>Rz (.ok .next) s1
   |some v=>ZJ (ZK pr wd) Ar (R1 tg itv v) (λ_ s2=>ZJ (ZK pr wd) Ar (assign tg ev v) (λ_ s3=>
     ZJ (ZK pr wd) Ar (forIn cs ZC λc b=>if b=ZC then do let z <-isTrue c ev (eval c ev);pure (Rp z)else pure (Rp b)) (λz s4=>
      if z=ZC then ZJ (ZK pr wd) Ar (eval el ev) (λy s5=>
       ZJ (ZK pr wd) Ar (call (.builtin "list.append") [av,y]) (λ_ s6=>∃m,m<k/\W m s6) (λ_ _=>False) s5) (λ_ _=>False) s4
      else ∃m,m<k/\W m s4) (λ_ _=>False) s3) (λ_ _=>False) s2) (λ_ _=>False) s1) (λ_ _=>False) st)
  (k:Nat) (hk:W k s0):ZL (ZK pr wd) Ar (.compLoop (.ListComp el [⟨tg,it0,cs,0⟩] sc ps) 0 itv av ev) Rz s0:=by
 refine codeAny_loop rfl W (λk st hw=>?_) k hk;show ZJ (ZK pr wd) Ar ((compTurn (.ListComp el [⟨tg,it0,cs,0⟩] sc ps) 0 itv av ev).onRaise (λz=>do Wz z ev;theTreesLotGoes z)) _ _ st;refine wpAny_noted ?_;rw[compTurn_list];have no:∀{α:Type}{t:Sem α}{Q Q':α->Ob->Prop}{E':W1}{x:Ob},ZJ (ZK pr wd) Ar t Q (λ_ _=>False) x->(∀y z,Q y z->Q' y z)->ZJ (ZK pr wd) Ar t Q' E' x:=λh f=>PX h f λ_ _ z=>z.elim;refine Od (wpAny_standAt (Od (no (go k st hw) λr s1 g1=>?_)));cases r with
 |none=>exact Ou g1
 |some v=>
  refine Od (no g1 λ_ s2 g2=>Od (no g2 λ_ s3 g3=>Od (no g3 λz s4 g4=>?_)));cases z with
  |false=>exact Ou (And.intro rfl g4)
  |true=>exact Od (Od (no g4 λy s5 g5=>Od (no g5 λ_ s6 g6=>Ou (Ou (And.intro rfl g6)))))
noncomputable def bz(X:Cx)(scope:RZ)(cl:List (Str×ZE))(N':List Str)(C:ZE)(s₀:Ob)(H₀:Hp)(fp:List ZE):Cx:=
 {X with N:=N',s₀:=s₀,H₀:=H₀,env:=compEnvC scope cl C X.env,outer:=X.stack,stack:=X.stack,ex:=fp,fn:=λx=>scope.names.lookup x == ZA .cell,xe:=λ_ _=>False}
noncomputable def fx(src:List (Option Nat))(σ:St):St:=src.map λo=>match o with
 |some i=>(σ[i]?).join
 |none=>ZB
theorem ju{env:Env}:∀{names:List (Str×RB)}{x:Str}{k:RB},
  (names.map λ(n,k)=>if (k == Pd&&env.scope.kind == .function&&env.kindOf n == ZA .cell)then(n,P3)else(n,k)).lookup x=ZA k ->
  ∃k',names.lookup x=ZA k'/\(k=k'\/k'=.free)
 |[],_,_,h=>by simp at h
 | (n,k0)::r,x,k,h=>by
  have ih:=@ju env r x k;have h':PR x ((if (k0 == Pd&&env.scope.kind == .function&&env.kindOf n == ZA .cell)=ZC then(n,P3)else(n,k0))::(r.map λ(n,k)=>if (k == Pd&&env.scope.kind == .function&&env.kindOf n == ZA .cell)then(n,P3)else(n,k)))=ZA k:=h;by_cases hc:(k0 == Pd&&env.scope.kind == .function&&env.kindOf n == ZA .cell)=ZC
  .rw[if_pos hc]at h';rw[Pg]at h' ⊢;cases hx:x == n with
   |true=>
    refine⟨k0,rfl,.inr ?_⟩;have:=Po.mp hc|>.1;have:=Po.mp this|>.1;simpa using this
   |false=>rw[hx]at h';exact ih h'
  .rw[if_neg hc]at h';rw[Pg]at h' ⊢;cases hx:x == n with
   |true=>rw[hx]at h';exact⟨k0,rfl,.inl (O0 h').symm⟩
   |false=>rw[hx]at h';exact ih h'
def jS{names:List (Str×RB)}{k:RB}(h:names.lookup x=ZA k):(x,k)∈names:=Qq h
theorem i5{env:Env}:∀{names:List (Str×RB)}{x:Str},names.lookup x=ZA .free ->
  (names.map λ(n,k)=>if (k == Pd&&env.scope.kind == .function&&env.kindOf n == ZA .cell)then(n,P3)else(n,k)).lookup x=ZA .cell ∨
  (names.map λ(n,k)=>if (k == Pd&&env.scope.kind == .function&&env.kindOf n == ZA .cell)then(n,P3)else(n,k)).lookup x=ZA .free
 |[],_,h=>by simp at h
 | (n,k0)::r,x,h=>by
  have ih:=@i5 env r x;show PR x ((if (k0 == Pd&&env.scope.kind == .function&&env.kindOf n == ZA .cell)=ZC then(n,P3)else(n,k0))::_)=_\/PR x ((if (k0 == Pd&&env.scope.kind == .function&&env.kindOf n == ZA .cell)=ZC then(n,P3)else(n,k0))::_)=_;rw[Pg]at h;by_cases hc:(k0 == Pd&&env.scope.kind == .function&&env.kindOf n == ZA .cell)=ZC
  .rw[if_pos hc];rw[Pg];cases hx:x == n with
   |true=>exact .inl rfl
   |false=>rw[hx]at h;exact ih h
  .rw[if_neg hc];rw[Pg];cases hx:x == n with
   |true=>rw[hx]at h;exact .inr h
   |false=>rw[hx]at h;exact ih h
variable{N':List Str}{elt iter:ZG}{g:TG}{ifs:List ZG}{pos:Pos}{tc:TT}{te:TE}{wi:TI}
structure LcScope (X:Cx)(scope:RZ)(N':List Str)(src:List (Option Nat)):Prop where
 kind:scope.kind=.function
 cel:∀y∈scope.names,y.2=.cell->scope.names.lookup y.1=ZA .cell
 loc:∀y∈scope.names,y.2=.local->scope.names.lookup y.1=ZA .local
 len:src.length=N'.length
 from_:∀(j i:Nat)(x:Str),src[j]?=ZA (ZA i)->N'[j]?=ZA x->X.N[i]?=ZA x/\scope.names.lookup x=ZA .free
 free:∀x,(x,Pd)∈scope.names->X.env.kindOf x=ZA .cell\/X.env.kindOf x=ZA .free
def KZ(K:N7)(wi:TI)(src:List (Option Nat))(g:TG)(tc:TT)(te:TE):TE:=λσ H Q=>wi σ H λJ H1=>∀D,H1 D=ZB->K.lookup D=ZB ->
 ∃W:Nat->Nat->St->List V->Hp->Prop,(∃m,W 0 m (fx src σ) [] (upd H1 D (.lst [])))/\∀i m σ ys H,W i m σ ys H->H D=ZA (.lst ys) ∧
  ((J.stop i H/\Q (.ref D) H)\/(J.go i H/\ys.length<ZI/\∀x H',J.yld i H x H'->g x σ H' λσ2 H2=>tc σ2 H2 λb H3=>
   if b=ZC then te σ2 H3 λv H4=>H4 D=ZA (.lst ys)/\∃m',m'<m/\W (i+1) m' σ2 (ys++[v]) (upd H4 D (.lst (ys++[v])))else ∃m',m'<m/\W (i+1) m' σ2 ys H3))
def z0(X:Cx)(ifs:List ZG)(t:TT):Prop:=
 ∀(kt:W2)(s:Ob)(σ:St)(H:Hp)(Q:Bool->Hp->Prop),Inv X kt σ H s->t σ H Q ->
  ZJ (ZK X.prog X.w) X.A (forIn ifs ZC λc r=>if r=ZC then do let ok <-isTrue c X.env (eval c X.env);pure (Rp ok)else pure (Rp r)) (TP X kt σ Q) X.xe s
def Bz:TT:=λ_ H Q=>Q ZC H
def yO:z0 X [] Bz:=λ_ _ _ H _ I h=>wpAny_tests_nil ⟨H,I,h⟩
def FD{c:ZG}{t:TT}(h:PT X c t):z0 X [c] t:=λkt s σ H Q I q=>wpAny_tests_one (h kt s σ H Q I q)
theorem mF:∀(names:List (Str×RB))(h:ZH)(acc:List (Str×ZE)),(∀x y c,acc.lookup x=ZA c->acc.lookup y=ZA c->x=y)->(∀x c,acc.lookup x=ZA c->c<h.objs.size) ->
  (∀x c,(Q7 h.objs.size names acc).lookup x=ZA c->acc.lookup x=ZA c\/(h.objs.size<=c/\(Us h names).IsCell c ZB)) ∧
  (∀x y c,(Q7 h.objs.size names acc).lookup x=ZA c->(Q7 h.objs.size names acc).lookup y=ZA c->x=y) ∧
  (∀x,(x,P3)∉names->(Q7 h.objs.size names acc).lookup x=acc.lookup x) ∧
  (∀x,((x,P3)∈names\/∃c,acc.lookup x=ZA c)->∃c,(Q7 h.objs.size names acc).lookup x=ZA c) ∧
  (∀x c,(x,P3)∈names->(Q7 h.objs.size names acc).lookup x=ZA c->h.objs.size<=c)
 |[],h,acc,hi,_=>⟨λ_ _ e=>.inl e,hi,λ_ _=>rfl,λx e=>e.elim (λz=>absurd z PF) id,λ_ _ z=>absurd z PF⟩
 | (n,k)::r,h,acc,hi,hl=>by
  unfold Q7 Us;by_cases hk:k=.cell
  .subst hk;rw[if_pos (by rfl),if_pos (by rfl)];have hz:(h.push {cls:=.type "cell",data:=.cell ZB}).objs.size=h.objs.size+1:=Qn ..;have lk:∀x,((n,h.objs.size)::acc).lookup x=if x=n then ZA h.objs.size else acc.lookup x:=λx=>by
    rw[Pg];by_cases e:x=n
    .rw[if_pos e,beq_iff_eq.mpr e]
    .rw[if_neg e,beq_eq_false_iff_ne.mpr e]
   obtain⟨c1,c2,c3,c4,c5⟩:=mF r (h.push {cls:=.type "cell",data:=.cell ZB}) ((n,h.objs.size)::acc) (λx y c e1 e2=>by
     rw[lk]at e1 e2;by_cases q1:x=n
     .by_cases q2:y=n
      .rw[q1,q2]
      .rw[if_pos q1]at e1;rw[if_neg q2]at e2;cases e1;exact absurd (hl _ _ e2) (OU _)
     .rw[if_neg q1]at e1;by_cases q2:y=n
      .rw[if_pos q2]at e2;cases e2;exact absurd (hl _ _ e1) (OU _)
      .rw[if_neg q2]at e2;exact hi x y c e1 e2) (λx c e=>by
     rw[lk]at e;rw[hz];by_cases q:x=n
     .rw[if_pos q]at e;cases e;exact TV _
     .rw[if_neg q]at e;exact Tv (hl x c e))
   rw[hz]at c1 c2 c3 c4 c5;refine⟨λx c e=>?_,c2,λx hx=>?_,λx hx=>?_,λx c hx e=>?_⟩
   .rcases c1 x c e with z|z
    .rw[lk]at z;by_cases q:x=n
     .rw[if_pos q]at z;cases z;exact .inr ⟨On _,_,Ut r _ _ _ (OI _ rfl),rfl⟩
     .rw[if_neg q]at z;exact .inl z
    .exact .inr ⟨R9 z.1,z.2⟩
   .rw[c3 x λz=>hx (N8 _ z),lk,if_neg λz=>hx (by rw[z];exact Oe)]
   .refine c4 x ?_;rcases hx with hx|hx
    .rcases Oj.mp hx with z|z
     .cases z;exact .inr ⟨_,by rw[lk,if_pos rfl]⟩
     .exact .inl z
    .by_cases q:x=n
     .exact .inr ⟨_,by rw[lk,if_pos q]⟩
     .exact .inr (by rw[lk,if_neg q];exact hx)
   .rcases Oj.mp hx with z|z
    .have q:x=n:=(Wj z).1;rcases c1 x c e with y|y
     .rw[lk,if_pos q]at y;cases y;exact On _
     .exact R9 y.1
    .exact R9 (c5 x c z e)
  .have hb:¬ (k == P3)=ZC:=λz=>hk (by simpa using z);rw[if_neg hb,if_neg hb];obtain⟨c1,c2,c3,c4,c5⟩:=mF r h acc hi hl;exact⟨c1,c2,λx hx=>c3 x λz=>hx (N8 _ z),λx hx=>c4 x (hx.imp (λz=>(Oj.mp z).resolve_left λz=>hk (Wj z).2.symm) id),λx c hx=>c5 x c ((Oj.mp hx).resolve_left λz=>hk (Wj z).2.symm)⟩
def Az{globals:ZE}{cl:List (Str×ZE)}{Q:Env->Ob->Prop}
  (q:Q (newEnv scope s.heap.objs.size globals (Q7 (s.heap.objs.size+1) scope.names cl) qual ZB .none (ZA env) Tz) {s with heap:=Us (s.heap.push {cls:=.type "dict",data:=.dict #[]}) scope.names}):
  ZJ M A (newFunctionEnv scope globals cl [] qual ZB .none (ZA env)) Q E s:=by
 simp only[newFunctionEnv,U3,if_true];refine Od (wpAny_alloc (Od (wpAny_layCells _ (λname kind cells=>by cases hkc:kind == P3 <;> simp[hkc]) _ _ _ _ ?_)));rw[show({s with heap:=s.heap.push {cls:=.type "dict",data:=.dict #[]}}:Ob).heap.objs.size=s.heap.objs.size+1 from Qn ..];rw[List.forIn_nil];exact Od (Ou (Ou q))
def zo{fpos:Pos}{src:List (Option Nat)}{use:Option (N9->Sem Unit)}{Qf:W1}
  {kt:W2}  {σ:St} {H:Hp} {Q:VK}
  (hc:X.calm=ZC) (S:LcScope X scope N' src) (hi:PI X tg iter wi)
  (block:∀cl C s₀ H₀ fp,PG (bz X scope cl N' C s₀ H₀ fp) tg g/\z0 (bz X scope cl N' C s₀ H₀ fp) ifs tc/\PE (bz X scope cl N' C s₀ H₀ fp) elt te)
  (hs:∀x,O9 iter X.env x=pure x) (I:Inv X kt σ H s) (h:KZ X.K wi src g tc te σ H Q)
  (hend:∀(D C:ZE)(H':Hp)(s':Ob),(∃m,s'.heap.Ns C m)->(∀h',RP C s'.heap h'->Inv X kt σ H' {s' with heap:=h'})->(H' C=ZB/\C≠X.env.locals/\X.s₀.heap.objs.size<=C/\(∀x c,X.env.cells.lookup x=ZA c->c≠C)/\∀p∈X.pn++kt,p.1≠C)->Q (.ref D) H' ->
   compPost (ZK X.prog X.w) X.A X.xe use Qf (.ref D) C (.ok .next) s'):
  ZJ (ZK X.prog X.w) X.A (comprehension (.ListComp elt [⟨tg,iter,ifs,0⟩] scope pos) scope X.env fpos (newList []) ZD (eval iter X.env) use) Qf X.xe s:=by
 have hcell:∀x,(x,Pd)∈scope.names->∃c,X.env.cells.lookup x=ZA c:=λx hx=>I.ok.has x (S.free x hx);obtain⟨cl0,hcl,cl01,cl02⟩:=x6 (env:=X.env) (scope:=scope) hcell;refine wpAny_comprehension_free (use:=use) rfl hs hcl S.kind S.loc (bR (hi kt s σ H _ I h) λv s1 h1=>bR h1 λitv s2 h2=>?_);obtain⟨it,fp,tn,J,H2,e,I2,T,st2,f2,hq⟩:=h2;subst e;refine Qd ?_;have hD:H2 s2.heap.objs.size=ZB:=I2.hok.fresh (On _);have hDK:X.K.lookup s2.heap.objs.size=ZB:=by
  cases q:X.K.lookup s2.heap.objs.size with
  |none=>rfl
  |some o=>exact absurd (Os (I2.kIn _ o q)) (OU _)
 obtain⟨W,⟨m0,w0⟩,turn⟩:=hq s2.heap.objs.size hD hDK;have I3:=I2.NH (its:=[]) (ys:=[]) (t':=s2.toks) .nil (Pn _);generalize hs3:({s2 with heap:=s2.heap.push {cls:=.type "list",data:=.seq ([]:List N9).toArray},toks:=s2.toks}:Ob)=s3 at I3;generalize hH3:upd H2 s2.heap.objs.size (.lst [])=H3 at I3 w0;have hDsz:s2.heap.objs.size<s3.heap.objs.size:=by rw[<-hs3];simp[Qn]
 have fr3:∀b∈fp,H3 b=ZB:=λb hb=>by obtain⟨o,eo,_⟩:=T.obj _ _ st2 b hb;rw[<-hH3,aI (Pj (Os eo))];exact(f2 b hb).1
 have st3:tn 0 s3.heap:=T.keep _ _ _ st2 λb hb o e=>by rw[<-hs3];exact Om _ e
 have f3:∀b∈fp,p6 X kt H3 b:=λb hb=>⟨fr3 b hb,(f2 b hb).2⟩;have D3:H3 s2.heap.objs.size=ZA (.lst []):=by rw[<-hH3];exact aM
 generalize s2.heap.objs.size=D at*;clear hs3 hH3 hD hDK;refine Az ?_;have old:∀b o,s3.heap.get? b=ZA o->(Us (s3.heap.push {cls:=.type "dict",data:=.dict #[]}) scope.names).get? b=ZA o:=λb o e=>Ut _ _ b o (Om _ e);have hns₁:(Us (s3.heap.push {cls:=.type "dict",data:=.dict #[]}) scope.names).Ns s3.heap.objs.size (λ_=>ZB):=(Heap.Ns.new s3.heap (.type "dict")).keeps (Ut _ _);have hz3:(s3.heap.push {cls:=.type "dict",data:=.dict #[]}).objs.size=s3.heap.objs.size+1:=Qn ..;have lt0:∀x c,cl0.lookup x=ZA c->c<s3.heap.objs.size:=λx c e=>let ⟨_,ic⟩:=I3.cell x c (cl01 x c e);ic.lt;obtain⟨c1,c2,c3,c4,c5⟩:=mF scope.names (s3.heap.push {cls:=.type "dict",data:=.dict #[]}) cl0 (λx y c e1 e2=>I3.ok.inj x y c (cl01 x c e1) (cl01 y c e2)) λx c e=>by rw[hz3];exact Tv (lt0 x c e)
 rw[hz3]at c1 c2 c3 c4 c5;generalize hcl':Q7 (s3.heap.objs.size+1) scope.names cl0=cl at*;generalize hh₁:Us (s3.heap.push {cls:=.type "dict",data:=.dict #[]}) scope.names=h₁ at*;have below:∀b o,s3.heap.get? b=ZA o->b≠s3.heap.objs.size:=λb o e=>Pj (Os e);have cl1:∀x c,cl.lookup x=ZA c->X.env.cells.lookup x=ZA c\/(s3.heap.objs.size<c/\h₁.IsCell c ZB):=λx c e=>(c1 x c e).imp (cl01 x c) id;generalize hC:s3.heap.objs.size=C at*;have stk:∀b,b≠X.env.locals->b∉X.fs->b∉n8 X.stack:=λb h1 h2 z=>(Oj.mp (I3.Nx b z)).elim h1 h2;have apart:∀b∈fp,∀x c,cl.lookup x=ZA c->c≠b:=λb hb x c e=>by
  rcases cl1 x c e with z|z
  .exact(f3 b hb).2.2.2.2.1 x c z
  .obtain⟨o,eo,_⟩:=T.obj _ _ st3 b hb;have h1:=Os eo;rw[hC]at h1;exact Q8 (Ua h1 z.1)
 have I4:Inv (bz X scope cl N' C s3 H3 fp) kt (fx src σ) H3 {s3 with heap:=h₁}:=by
  refine⟨⟨I3.ok.mod,S.kind,I3.ok.glob,I3.ok.blt,RS hC,c2,λx hx=>?_,λx c hx e=>Qi (hC▸c5 x c (jS (beq_iff_eq.mp hx)) e),I3.ok.hd,I3.ok.frames,.inl rfl,
    λb hb=>⟨?_,λx c e=>apart b hb x c e⟩,I3.bs,OV I3.ok.bsz I3.sz,λb o e z=>?_,λb hb=>stk b (f3 b hb).2.1 (f3 b hb).2.2.1,I3.stack,I3.Nf⟩,
   rfl,I3.bare,Un.kept old,⟨_,hns₁,λj x v e1 e2 e3=>?_⟩,λx c e=>?_,I3.hok.fresh (RS hC),λx c e=>(cl1 x c e).elim (I3.freeC x c) λz=>I3.hok.fresh (by rw[hC];exact Qi z.1),λp hp=>?_,I3.hok.kept old,?_⟩
  .have key:∀k,(relabel scope X.env).names.lookup x=ZA k->(k=.cell\/k=.free)->∃c,cl.lookup x=ZA c:=λk e hk=>by
    obtain⟨k',e',z⟩:=ju e;have hk':k'=.cell\/k'=.free:=z.elim (λz=>z▸hk) .inr;rcases hk' with q|q
    .exact c4 x (.inl (q▸jS e'))
    .exact c4 x (.inr (cl02 x (q▸jS e')))
   rcases hx with hx|hx
   .exact key _ hx (.inl rfl)
   .exact key _ hx (.inr rfl)
  .obtain⟨o,eo,_⟩:=T.obj _ _ st3 b hb;show b≠C;exact below b o eo
  .have z':b∈fp:=z;obtain⟨_,_,_,z1,_⟩:=f3 b z';rcases z1 with z1|z1
   .exact I3.ok.noex b o e z1
   .exact absurd (Oo (Os (I3.ok.bs b o e).1) z1) (OU _)
  .unfold fx at e2;rw[OH]at e2;cases q:src[j]? with
   |none=>rw[q]at e2;simp at e2
   |some o=>
    rw[q]at e2;cases o with
    |none=>simp at e2
    |some i=>
     have e2':(σ[i]?).join=ZA v:=by simpa using e2
     have e2'':σ[i]?=ZA (ZA v):=by
      cases q2:σ[i]? with
      |none=>rw[q2]at e2';simp at e2'
      |some z=>rw[q2]at e2';simp at e2';rw[e2']
     obtain⟨hN,hfree⟩:=S.from_ j i x q e1;have hm:=jS hfree;have hk:=S.free x hm;obtain⟨m,hn,hl⟩:=I3.loc;have hv:kA X.env.scope x:=by
      rcases hk with z|z
      .exact .inr (.inl z)
      .exact .inr (.inr z)
     obtain⟨u,r,l⟩:=hl i x v hN e2'' hv;refine⟨u,r,.inr ⟨?_,?_⟩⟩
     .exact i5 hfree
     .rcases l with⟨z,_⟩|⟨_,c,ec,ic⟩
      .rcases hk with z'|z' <;> rw[z']at z <;> cases z
      .obtain⟨c',ec0⟩:=cl02 x hm;have ec':cl.lookup x=ZA c':=(c3 x λz=>by have:=S.cel _ z rfl;rw[hfree]at this;cases this).trans ec0;have:=cl01 x c' ec0;rw[ec]at this;cases this;obtain⟨o,ho,hd⟩:=ic;exact⟨c,ec',o,old _ _ ho,hd⟩
  .rcases cl1 x c e with z|z
   .obtain⟨v,o,ho,hd⟩:=I3.cell x c z;exact⟨v,o,old _ _ ho,hd⟩
   .exact⟨ZB,z.2⟩
  .obtain⟨e,n,ne,nf,d⟩:=I3.pin p hp;exact⟨old _ _ e,n,below _ _ e,stk _ ne nf,d⟩
  .show(fx src σ).length=N'.length;unfold fx;rw[Oa];exact S.len
 obtain⟨bG,bI,bE⟩:=block cl C s3 H3 fp;have stat:∀{H':Hp},(∀b∈fp,H' b=ZB)->∀b∈fp,p6 (bz X scope cl N' C s3 H3 fp) kt H' b:=λhn b hb=>by obtain⟨o,eo,_⟩:=T.obj _ _ st3 b hb;exact⟨hn b hb,below b o eo,stk b (f3 b hb).2.1 (f3 b hb).2.2.1,.inl hb,apart b hb,(f3 b hb).2.2.2.2.2⟩
 have st4:tn 0 h₁:=T.keep _ _ _ st3 λb hb o e=>old b o e;have after:∀(H':Hp)(s':Ob)(σ':St),Inv (bz X scope cl N' C s3 H3 fp) kt σ' H' s'->Q (.ref D) H' ->
   compPost (ZK X.prog X.w) X.A X.xe use Qf (.ref D) C (.ok .next) s':=λH' s' σ' I' q=>by
  obtain⟨m,hn,_⟩:=id I'.loc;have fC:X.s₀.heap.objs.size<=C:=by rw[<-hC];exact I3.sz
  have ltC:∀b o,s3.heap.get? b=ZA o->b<C:=λb o e=>by rw[<-hC];exact Os e
  refine hend D C H' s' ⟨m,hn⟩ (λh' hsb=>?_) ⟨I'.free,?_,fC,λx c e z=>?_,λp hp z=>?_⟩ q
  rotate_left
  .have:=I3.lt;rw[hC]at this;exact Q8 this
  .obtain⟨v,ic⟩:=I3.cell x c e;have:=ic.lt;rw[hC,z]at this;exact OU _ this
  .have:=ltC _ _ (I3.pin p hp).1;rw[z]at this;exact OU _ this
  have u:Un (n8 X.stack) fp H3 H' s3.heap s'.heap:=I'.base;have lift:∀b o,s3.heap.get? b=ZA o->∀o',s'.heap.get? b=ZA o'->h'.get? b=ZA o':=λb o e o' e'=>hsb.extBut b o' (below b o e) e';have u':Un (n8 X.stack) fp H3 H' s3.heap h':=
   ⟨λb o e n hb hx=>lift b o e o (u.keep b o e n hb hx),λb o e n hb hx=>by
     obtain⟨sl,z⟩:=u.slot b o e n hb hx;exact⟨sl,lift b o e _ z⟩,u.free,λb o e hx=>by
     obtain⟨o',z⟩:=u.there b o e hx;exact⟨o',lift b o e _ z⟩,u.tups,u.frzs,u.tbls⟩
  have hCn:H' C=ZB:=I'.free;have hok':HOk X.prog X.w H' h':=λb ob e=>by
   refine(I'.hok b ob e).Nk (λc w' hc' q'=>(hsb.2 c ?_).trans q') (λ_ q=>q) λ_ _ q=>q;rintro rfl;rcases hc' with rfl|hc'
   .rw[hCn]at e;cases e
   .rw[hCn]at hc';cases hc'
  have I5:Inv X kt σ H' {s' with heap:=h'}:=I3.Nt (s':={s' with heap:=h'}) (ch:=fp) I'.os u' hok' I'.bare λb hb=>⟨(f3 b hb).2.2.2.1,(f3 b hb).2.1,(f3 b hb).2.2.2.2.1,(f3 b hb).2.2.2.2.2⟩;exact I5
 have loop:ZL (ZK X.prog X.w) X.A (.compLoop (.ListComp elt [⟨tg,iter,ifs,0⟩] scope pos) 0 (.ref it) (.ref D) (compEnvC scope cl C X.env))
   (compPost (ZK X.prog X.w) X.A X.xe use Qf (.ref D) C) {s3 with heap:=h₁}:=by
  refine um (λn s'=>∃i σ' ys H',Inv (bz X scope cl N' C s3 H3 fp) kt σ' H' s'/\tn i s'.heap/\(∀b∈fp,H' b=ZB)/\W i n σ' ys H') ?_ m0 ⟨0,_,[],H3,I4,st4,fr3,w0⟩;rintro n s5 ⟨i,σ5,ys,H5,I5,st5,fr5,w5⟩;obtain⟨hDl,alt⟩:=turn i n σ5 ys H5 w5;rcases alt with⟨stop,qn⟩|⟨go,hlen,step⟩
  .refine bR (T.done (bz X scope cl N' C s3 H3 fp) rfl rfl rfl hc i kt s5 σ5 H5 _ I5 (stat fr5) st5 stop) λr s6 ⟨hr,I6⟩=>?_;subst hr;exact after H5 s6 σ5 I6 qn
  .refine bR (T.item (bz X scope cl N' C s3 H3 fp) rfl rfl rfl hc i kt s5 σ5 H5 _ I5 (stat fr5) st5 go) λr s6 ⟨u,hr,h6⟩=>?_;subst hr;refine bR h6 λ_ s7 hh_=>?_;obtain⟨x,H7,I7,r7,y7,st7,fr7⟩:=hh_;have I7':=I7.pinned (stat fr7) (T.obj _ _ st7);refine bR (bG _ s7 σ5 H7 x u _ I7' r7 (step x H7 y7)) λ_ s8 hh_=>?_;obtain⟨σ8,H8,I8,q8⟩:=hh_;refine bR (bI _ s8 σ8 H8 _ I8 q8) λok s9 hh_=>?_;obtain⟨H9,I9,q9⟩:=hh_;have again:∀{σx:St}{Hx:Hp}{sx:Ob}{ys':List V},Inv (bz X scope cl N' C s3 H3 fp) (kt++oS fp s7.heap) σx Hx sx->(∃m',m'<n/\W (i+1) m' σx ys' Hx) ->
     ∃m,m<n/\∃i σ' ys H',Inv (bz X scope cl N' C s3 H3 fp) kt σ' H' sx/\tn i sx.heap/\(∀b∈fp,H' b=ZB)/\W i m σ' ys H':=λ{σx Hx sx ys'} Ix nx=>by
    obtain⟨m',hm,wx⟩:=nx;refine⟨m',hm,i+1,σx,ys',Hx,Ix.Ng,T.keep _ _ _ st7 λb hb o e=>(Ix.pin (b,o) (ON _ (ON _ (iz hb e)))).1,λb hb=>?_,wx⟩;obtain⟨o,e,d⟩:=T.obj _ _ st7 b hb;exact(Ix.pin (b,o) (ON _ (ON _ (iz hb e)))).2.1
   cases ok with
   |false=>
    rw[if_neg OB]at q9 ⊢;exact again I9 q9
   |true=>
    rw[if_pos rfl]at q9 ⊢;refine bR (bE _ s9 σ8 H9 _ I9 q9) λv s10 hh_=>?_;obtain⟨y,H10,I10,r10,hD10,q10⟩:=hh_;refine bR (jR _ s10 σ8 H10 (.ref D) [y] (.ref D) [v] (λ_ H'=>H'=upd H10 D (.lst (ys++[y]))) I10 rfl (.cons r10 .nil) ⟨D,ys,y,rfl,rfl,hD10,hlen,rfl⟩) λ_ s11 hh_=>?_;obtain⟨_,H11,I11,_,e11⟩:=hh_;subst e11;exact again I11 q10
 exact codeAny_compStart_list loop (T.self _ 0 _ _ _ st4 loop)
def yS{src:List (Option Nat)}
  (hc:X.calm=ZC) (S:LcScope X scope N' src) (hi:PI X tg iter wi)
  (block:∀cl C s₀ H₀ fp,PG (bz X scope cl N' C s₀ H₀ fp) tg g/\z0 (bz X scope cl N' C s₀ H₀ fp) ifs tc/\PE (bz X scope cl N' C s₀ H₀ fp) elt te)
  (hs:autoParam (∀x,O9 iter X.env x=pure x) t_):
  PE X (.ListComp elt [⟨tg,iter,ifs,0⟩] scope pos) (KZ X.K wi src g tc te):=by
 intro kt s σ H Q I h;rw[eval_ListComp];exact zo (use:=ZB) hc S hi block hs I h λD C H' s' ⟨m,hn⟩ inv _ q=>⟨m,hn,λh' hsb=>⟨.ref D,H',inv h' hsb,rfl,q⟩⟩
def Hb{py spos:Pos}{src:List (Option Nat)}{i:Nat}{y:Str}
  (hc:X.calm=ZC) (S:LcScope X scope N' src) (hi:PI X tg iter wi)
  (block:∀cl C s₀ H₀ fp,PG (bz X scope cl N' C s₀ H₀ fp) tg g/\z0 (bz X scope cl N' C s₀ H₀ fp) ifs tc/\PE (bz X scope cl N' C s₀ H₀ fp) elt te)
  (hN:X.N.Nodup) (hiy:X.N[i]?=ZA y) (hy:Loc X.env.scope y) (hsw:Pb (.ListComp elt [⟨tg,iter,ifs,0⟩] scope pos) (ZA (.Name y py)) spos.line X.env=pure ZC)
  (hf:X.fn y=ZC\/X.env.scope.names.lookup y=ZA .local) (hs:autoParam (∀x,O9 iter X.env x=pure x) t_):
  PS X (.Assign [.Name y py] (.ListComp elt [⟨tg,iter,ifs,0⟩] scope pos) spos) (EN (KZ X.K wi src g tc te) (Dn i)):=by
 intro kt s σ H D I h;rw[exec_Assign_Name_used _ _ _ _ hsw];refine Od (wpAny_standAt (Od ?_));show ZJ (ZK X.prog X.w) X.A (do let _ <-comprehension (.ListComp elt [⟨tg,iter,ifs,0⟩] scope pos) scope X.env _ (newList []) ZD (eval iter X.env) (ZA (assign (.Name y py) X.env))) _ _ s;refine Od (bR (zo (use:=ZA (assign (.Name y py) X.env)) (Qf:=λ_ s'=>SP X kt D .next s') (Q:=λv H'=>D.nx (σ.set i (ZA v)) H') hc S hi block hs I h λL C H' s' ⟨m,hn⟩ inv ⟨c0,c1,c2,c3,c4⟩ q=>?_) λ_ s' hq=>Ou (Ou hq));have I0:Inv X kt σ H' s':=inv s'.heap (Heap.SameBut.refl ..);show ZJ (ZK X.prog X.w) X.A (assign (.Name y py) X.env (.ref L)) _ _ s';refine VA (qS I0 hN hiy hy (v:=.ref L) rfl (λs2 I2 ⟨b,sb,hb⟩=>?_) hf);have hbC:C≠b:=by
  rcases hb with z|z
  .rw[z];exact c1
  .exact λw=>c3 y b z w.symm
 refine⟨m,hn.sameBut sb hbC,λh' hsb=>?_⟩;exact⟨_,H',I2.turned (t':=s2.toks) (λb' o hb' e=>(hsb.2 b' hb').trans e) c0 c1 (.inr c2) c3 c4,q⟩
end L2
namespace Tr
open PySem PySem.Spec PyProof.Rows L2
noncomputable def bS(K:N7)(c:Str):ZE:=match RM K O5 c with
 |some (ZA (.ref C))=>C
 |_=>0
noncomputable def Hn:T->Option Key
 |.int i=>ZA (.inl i)
 |.str x=>ZA (.inr x)
 |_=>ZB
noncomputable def pI:List T->Option (List Key)
 |[] =>ZA []
 |t::l=>match Hn t,pI l with
  |some k,ZA r=>ZA (k::r)
  |_,_=>ZB
noncomputable def keyOf:T->Option (List Key)
 |.tup l=>pI l
 |_=>ZB
inductive Rs (α:Type) where
 |ok (a:α)|err (c:Str)|bad
noncomputable def Rs.bind{α β:Type}(x:Rs α)(f:α->Rs β):Rs β:=match x with
 |.ok a=>f a
 |.err c=>.err c
 |.bad=>.bad
noncomputable instance:Monad Rs where
 pure:=Rs.ok
 bind:=Rs.bind
@[simp] theorem ax {α β:Type} (a:α) (f:α->Rs β):(Rs.ok a >>= f)=f a:=rfl
@[simp] theorem MX {α:Type} (a:α):(pure a:Rs α)=Rs.ok a:=rfl
@[simp] theorem MP {α β:Type} (f:α->Rs β):((Rs.bad:Rs α) >>= f)=.bad:=rfl
@[simp] theorem MG {α β:Type} (c:Str) (f:α->Rs β):((Rs.err c:Rs α) >>= f)=.err c:=rfl
abbrev Ow:=ZE->Prop
def ObN(O:Ow)(H:Hp)(a dx:ZE)(fs:List (Str×V)):Prop:=(¬O a/\¬ O dx/\H dx=ZA (.own a))/\∃as:List ZE,fs.map (·.2)=as.map V.ref/\a∉as/\dx∉as/\dx≠a/\as.Nodup/\(fs.map (·.1)).Nodup
mutual
def Rep(K:N7)(O:Ow)(H:Hp):T->V->Prop
 |.non,v=>v=.non
 |.bl b,v=>v=.bl b
 |.int i,v=>v=.int i
 |.str x,v=>v=.str x
 |.tup l,v=>∃a vs,v=.ref a/\¬ O a/\H a=ZA (.tup vs)/\Reps K O H l vs
 |.lst l,v=>∃a vs,v=.ref a/\¬ O a/\H a=ZA (.lst vs)/\Reps K O H l vs
 |.scr l,v=>∃a,v=.ref a/\¬ O a/\SqL K H a (l.map V.int)
 |.dct ks ts,v=>∃a kvs,v=.ref a/\¬ O a/\Rd H a (.dT kvs)/\ks.map keyOf=kvs.map (λp=>ZA p.1)/\Reps K O H ts (kvs.map (·.2))
 |.ob C ns ts,v=>∃a dx fs,v=.ref a/\ObN O H a dx fs/\H a=ZA (.ins (bS K C) dx fs)/\fs.map (·.1)=ns/\Reps K O H ts (fs.map (·.2))
def Reps(K:N7)(O:Ow)(H:Hp):List T->List V->Prop
 |[],vs=>vs=[]
 |t::r,vs=>∃v ws,vs=v::ws/\Rep K O H t v/\Reps K O H r ws
end
def SameO(P:Ow)(H H':Hp):Prop:=∀b o,H b=ZA o->¬ P b->H' b=ZA o
variable{H H':Hp}{P:Ow}
def SameO.of(h:Same H H'):SameO P H H':=λb o e _=>h b o e
variable{a:ZE}
def Rd.NL{u:HO}(h:SameO P H H')(n:¬ P a)(q:Rd H a u):Rd H' a u:=q.elim (λe=>.inl (h _ _ e n)) λ⟨o,e⟩=>.inr ⟨o,h _ _ e n⟩
variable{vs:List V}
def SqL.keep(h:SameO P H H')(n:¬ P a)(q:SqL K H a vs):SqL K H' a vs:=by
 rcases q with(q|⟨o,q⟩)|q
 .exact .inl (.inl (h _ _ q n))
 .exact .inl (.inr ⟨o,h _ _ q n⟩)
 .exact .inr q
mutual
theorem Rep.keep{K:N7}{O P:Ow}{H H':Hp}(h:SameO P H H')(sub:∀a,P a->O a):∀{t:T}{v:V},Rep K O H t v->Rep K O H' t v
 |.non,_,r=>by unfold Rep at r ⊢;exact r
 |.bl _,_,r=>by unfold Rep at r ⊢;exact r
 |.int _,_,r=>by unfold Rep at r ⊢;exact r
 |.str _,_,r=>by unfold Rep at r ⊢;exact r
 |.tup l,_,r=>by unfold Rep at r ⊢;obtain⟨a,vs,e,n,q,z⟩:=r;exact⟨a,vs,e,n,h _ _ q (λp=>n (sub a p)),Reps.keep h sub z⟩
 |.lst l,_,r=>by unfold Rep at r ⊢;obtain⟨a,vs,e,n,q,z⟩:=r;exact⟨a,vs,e,n,h _ _ q (λp=>n (sub a p)),Reps.keep h sub z⟩
 |.scr l,_,r=>by unfold Rep at r ⊢;obtain⟨a,e,n,q⟩:=r;exact⟨a,e,n,SqL.keep h (λp=>n (sub a p)) q⟩
 |.dct ks ts,_,r=>by unfold Rep at r ⊢;obtain⟨a,kvs,e,n,q,k,z⟩:=r;exact⟨a,kvs,e,n,Rd.NL h (λp=>n (sub a p)) q,k,Reps.keep h sub z⟩
 |.ob C ns ts,_,r=>by unfold Rep at r ⊢;obtain⟨a,dx,fs,e,n,q,k,z⟩:=r;exact⟨a,dx,fs,e,⟨⟨n.1.1,n.1.2.1,h _ _ n.1.2.2 λp=>n.1.2.1 (sub dx p)⟩,n.2⟩,h _ _ q (λp=>n.1.1 (sub a p)),k,Reps.keep h sub z⟩
theorem Reps.keep{K:N7}{O P:Ow}{H H':Hp}(h:SameO P H H')(sub:∀a,P a->O a):∀{l:List T}{vs:List V},Reps K O H l vs->Reps K O H' l vs
 |[],_,r=>by unfold Reps at r ⊢;exact r
 |t::l,_,r=>by unfold Reps at r ⊢;obtain⟨v,ws,e,p,q⟩:=r;exact⟨v,ws,e,Rep.keep h sub p,Reps.keep h sub q⟩
end
mutual
theorem Rep.less{K:N7}{O O':Ow}{H:Hp}(sub:∀a,O' a->O a):∀{t:T}{v:V},Rep K O H t v->Rep K O' H t v
 |.non,_,r=>by unfold Rep at r ⊢;exact r
 |.bl _,_,r=>by unfold Rep at r ⊢;exact r
 |.int _,_,r=>by unfold Rep at r ⊢;exact r
 |.str _,_,r=>by unfold Rep at r ⊢;exact r
 |.tup l,_,r=>by unfold Rep at r ⊢;obtain⟨a,vs,e,n,q,z⟩:=r;exact⟨a,vs,e,λp=>n (sub a p),q,Reps.less sub z⟩
 |.lst l,_,r=>by unfold Rep at r ⊢;obtain⟨a,vs,e,n,q,z⟩:=r;exact⟨a,vs,e,λp=>n (sub a p),q,Reps.less sub z⟩
 |.scr l,_,r=>by unfold Rep at r ⊢;obtain⟨a,e,n,z⟩:=r;exact⟨a,e,λp=>n (sub a p),z⟩
 |.dct ks ts,_,r=>by unfold Rep at r ⊢;obtain⟨a,kvs,e,n,q,k,z⟩:=r;exact⟨a,kvs,e,λp=>n (sub a p),q,k,Reps.less sub z⟩
 |.ob C ns ts,_,r=>by unfold Rep at r ⊢;obtain⟨a,dx,fs,e,n,q,k,z⟩:=r;exact⟨a,dx,fs,e,⟨⟨λp=>n.1.1 (sub a p),λp=>n.1.2.1 (sub dx p),n.1.2.2⟩,n.2⟩,q,k,Reps.less sub z⟩
theorem Reps.less{K:N7}{O O':Ow}{H:Hp}(sub:∀a,O' a->O a):∀{l:List T}{vs:List V},Reps K O H l vs->Reps K O' H l vs
 |[],_,r=>by unfold Reps at r ⊢;exact r
 |t::l,_,r=>by unfold Reps at r ⊢;obtain⟨v,ws,e,p,q⟩:=r;exact⟨v,ws,e,Rep.less sub p,Reps.less sub q⟩
end
variable{O:Ow}{l ts:List T}{v:V}
section
variable {t:T}
def Rep.same(h:Same H H')(r:Rep K O H t v):Rep K O H' t v:=Rep.keep (P:=λ_=>False) (SameO.of h) (λ_ z=>z.elim) r
def Reps.same(h:Same H H')(r:Reps K O H l vs):Reps K O H' l vs:=Reps.keep (P:=λ_=>False) (SameO.of h) (λ_ z=>z.elim) r
def Rep.NC:Rep K O H .non .non:=by unfold Rep;rfl
def Rep.bl_(b:Bool):Rep K O H (.bl b) (.bl b):=by unfold Rep;rfl
def Rep.GT(i:Int):Rep K O H (.int i) (.int i):=by unfold Rep;rfl
def Rep.NW(x:Str):Rep K O H (.str x) (.str x):=by unfold Rep;rfl
def Rep.Fk:Rep K O H (.tup l) v↔ ∃a vs,v=.ref a/\¬ O a/\H a=ZA (.tup vs)/\Reps K O H l vs:=by unfold Rep;exact Rj
def Rep.Do:Rep K O H (.lst l) v↔ ∃a vs,v=.ref a/\¬ O a/\H a=ZA (.lst vs)/\Reps K O H l vs:=by unfold Rep;exact Rj
def Rep.GE{ks:List T}:Rep K O H (.dct ks ts) v↔ ∃a kvs,v=.ref a/\¬ O a/\Rd H a (.dT kvs)/\ks.map keyOf=kvs.map (λp=>ZA p.1)/\Reps K O H ts (kvs.map (·.2)):=by unfold Rep;exact Rj
def Rep.Nh{C:Str}{ns:List Str}:Rep K O H (.ob C ns ts) v↔ ∃a dx fs,v=.ref a/\ObN O H a dx fs/\H a=ZA (.ins (bS K C) dx fs)/\fs.map (·.1)=ns/\Reps K O H ts (fs.map (·.2)):=by unfold Rep;exact Rj
def Rep.AC:Rep K O H (.int i) v↔v=.int i:=by unfold Rep;exact Rj
def Rep.FS:Rep K O H (.bl b) v↔v=.bl b:=by unfold Rep;exact Rj
def Rep.IR{b:Str}:Rep K O H (.str b) v↔v=.str b:=by unfold Rep;exact Rj
def Rep.Nb:Rep K O H .non v↔v=.non:=by unfold Rep;exact Rj
def Reps.GM:Reps K O H [] []:=by unfold Reps;rfl
def Reps.Gc(r:Rep K O H t v)(q:Reps K O H l vs):Reps K O H (t::l) (v::vs):=by unfold Reps;exact⟨v,vs,rfl,r,q⟩
def Reps.Da:Reps K O H [] vs↔vs=[]:=by unfold Reps;exact Rj
def Reps.me:Reps K O H (t::l) vs↔ ∃v ws,vs=v::ws/\Rep K O H t v/\Reps K O H l ws:=by
 constructor
 .intro h;unfold Reps at h;exact h
 .intro h;unfold Reps;exact h
end
theorem Reps.length:∀{l:List T}{vs:List V},Reps K O H l vs->l.length=vs.length
 |[],vs,r=>by rw[Reps.Da.mp r];rfl
 |t::l,vs,r=>by obtain⟨v,ws,rfl,_,q⟩:=Reps.me.mp r;simp[q.length]
theorem Reps.get:∀{l:List T}{vs:List V}{i:Nat}{t:T},Reps K O H l vs->l[i]?=ZA t->∃v,vs[i]?=ZA v/\Rep K O H t v
 |[],_,_,_,_,e=>by simp at e
 |t::l,vs,i,u,r,e=>by
  obtain⟨v,ws,rfl,p,q⟩:=Reps.me.mp r;cases i with
  |zero=>simp at e;subst e;exact⟨v,rfl,p⟩
  |succ i=>
   obtain⟨z,e1,e2⟩:=q.get (i:=i) (t:=u) (by simpa using e);exact⟨z,by simpa using e1,e2⟩
theorem Reps.append:∀{l m:List T}{vs ws:List V},Reps K O H l vs->Reps K O H m ws->Reps K O H (l++m) (vs++ws)
 |[],_,vs,_,r,s=>by rw[Reps.Da.mp r];exact s
 |t::l,m,vs,ws,r,s=>by obtain⟨v,us,rfl,p,q⟩:=Reps.me.mp r;exact Reps.Gc p (q.append s)
theorem Reps.take:∀{l:List T}{vs:List V}(n:Nat),Reps K O H l vs->Reps K O H (l.take n) (vs.take n)
 |_,_,0,_=>Reps.GM
 |[],vs,n+1,r=>by rw[Reps.Da.mp r];exact Reps.GM
 |t::l,vs,n+1,r=>by obtain⟨v,us,rfl,p,q⟩:=Reps.me.mp r;exact Reps.Gc p (q.take n)
theorem Reps.drop:∀{l:List T}{vs:List V}(n:Nat),Reps K O H l vs->Reps K O H (l.drop n) (vs.drop n)
 |_,_,0,r=>r
 |[],vs,n+1,r=>by rw[Reps.Da.mp r];exact Reps.GM
 |t::l,vs,n+1,r=>by obtain⟨v,us,rfl,p,q⟩:=Reps.me.mp r;exact q.drop n
theorem Reps.ints:∀{ns:List Int},Reps K O H (ns.map T.int) (ns.map V.int)
 |[] =>Reps.GM
 |n::r=>Reps.Gc (Rep.GT n) Reps.ints
def RowsR(K:N7)(O:Ow)(H:Hp):List (List T×List T)->List ZE->Prop
 |[],as=>as=[]
 |r::rs,as=>∃b bs kvs,as=b::bs/\H b=ZA (.dT kvs)/\r.1.map keyOf=kvs.map (λp=>ZA p.1)/\Reps K O H r.2 (kvs.map (·.2))/\RowsR K O H rs bs
def LsR(K:N7)(O:Ow)(H:Hp):List (List T)->List ZE->Prop
 |[],as=>as=[]
 |l::ls,as=>∃b bs vs,as=b::bs/\H b=ZA (.lst vs)/\Reps K O H l vs/\LsR K O H ls bs
def ORep(K:N7)(O M:Ow)(H:Hp):OT->V->Prop
 |.lst l,v=>∃a vs,v=.ref a/\(∀b,M b↔b=a)/\H a=ZA (.lst vs)/\Reps K O H l vs
 |.dct ks ts,v=>∃a kvs,v=.ref a/\(∀b,M b↔b=a)/\H a=ZA (.dT kvs)/\ks.map keyOf=kvs.map (λp=>ZA p.1)/\Reps K O H ts (kvs.map (·.2))
 |.dd ks rows,v=>∃a kvs as,v=.ref a/\(∀b,M b↔b=a\/b∈as)/\a∉as/\as.Nodup/\H a=ZA (.dT kvs)/\ks.map keyOf=kvs.map (λp=>ZA p.1)/\kvs.map (·.2)=as.map V.ref/\RowsR K O H rows as
 |.ob C ns ls,v=>∃a dx as,v=.ref a/\(∀b,M b↔b=a\/b=dx\/b∈as)/\(a∉as/\dx∉as/\dx≠a/\as.Nodup)/\H a=ZA (.ins (bS K C) dx (ns.zip (as.map V.ref)))/\H dx=ZA (.own a)/\ns.length=as.length/\ns.Nodup/\LsR K O H ls as
 |.ll ls,v=>∃a as,v=.ref a/\(∀b,M b↔b=a\/b∈as)/\a∉as/\as.Nodup/\H a=ZA (.lst (as.map V.ref))/\LsR K O H ls as
inductive Sl where
 |em|va (t:T)|ow (o:OT)
abbrev En:=List Sl
abbrev W6:=En->Rs Bool
abbrev W5:=En->Rs T
abbrev W3:=En->Rs (List T)
abbrev Mn:=Nat->Ow
def Mn.u(M:Mn):Ow:=λa=>∃i,M i a
noncomputable def isO:HO->Bool
 |.ins _ _ _=>ZC
 |.own _=>ZC
 |_=>ZD
def Mtb(H:Hp)(a:ZE):Prop:=(∃vs,H a=ZA (.lst vs))\/(∃kvs,H a=ZA (.dT kvs))\/∃o,H a=ZA o/\isO o=ZC
def Mtb.some(h:Mtb H a):∃o,H a=ZA o:=by rcases h with⟨_,e⟩|⟨_,e⟩|⟨_,e,_⟩ <;> exact⟨_,e⟩
def Mtb.at(s:∀o,H a=Pf o->H' a=Pf o)(h:Mtb H a):Mtb H' a:=by
 rcases h with⟨vs,e⟩|⟨k,e⟩|⟨o,e,q⟩
 .exact .inl ⟨vs,s _ e⟩
 .exact .inr (.inl ⟨k,s _ e⟩)
 .exact .inr (.inr ⟨o,s _ e,q⟩)
def Mtb.same(s:Same H H')(h:Mtb H a):Mtb H' a:=h.at λo e=>s a o e
structure EnvM (K:N7)(O:Ow)(M:Mn)(H:Hp)(Z:En)(σ:L2.St):Prop where
 len:Z.length=σ.length
 val:∀(i:Nat)(t:T),Z[i]?=ZA (.va t)->∃v,σ[i]?=ZA (ZA v)/\Rep K O H t v
 own:∀(i:Nat)(o:OT),Z[i]?=ZA (.ow o)->∃v,σ[i]?=ZA (ZA v)/\ORep K O (M i) H o v
 sub:∀(i:Nat)(a:ZE),M i a->O a
 dis:∀(i j:Nat)(a:ZE),M i a->M j a->i=j
 trk:∀(a:ZE),O a->Mtb H a
theorem RowsR.same(h:Same H H'):∀{rs:List (List T×List T)}{as:List ZE},RowsR K O H rs as->RowsR K O H' rs as
 |[],_,r=>r
 |_::_,_,⟨b,bs,kvs,e1,e2,e3,e4,e5⟩=>⟨b,bs,kvs,e1,h _ _ e2,e3,e4.same h,e5.same h⟩
theorem LsR.same(h:Same H H'):∀{ls:List (List T)}{as:List ZE},LsR K O H ls as->LsR K O H' ls as
 |[],_,r=>r
 |_::_,_,⟨b,bs,vs,e1,e2,e3,e4⟩=>⟨b,bs,vs,e1,h _ _ e2,e3.same h,e4.same h⟩
theorem ORep.same{M:Ow}(h:Same H H'){o:OT}(r:ORep K O M H o v):ORep K O M H' o v:=by
 cases o with
 |lst l=>obtain⟨a,vs,e1,e2,e3,e4⟩:=r;exact⟨a,vs,e1,e2,h _ _ e3,e4.same h⟩
 |dct ks ts=>obtain⟨a,kvs,e1,e2,e3,e4,e5⟩:=r;exact⟨a,kvs,e1,e2,h _ _ e3,e4,e5.same h⟩
 |dd ks rows=>obtain⟨a,kvs,as,e1,e2,e3,e4,e5,e6,e7,e8⟩:=r;exact⟨a,kvs,as,e1,e2,e3,e4,h _ _ e5,e6,e7,e8.same h⟩
 |ob C ns ls=>obtain⟨a,dx,as,e1,e2,e3,e4,e5,e6,e7,e8⟩:=r;exact⟨a,dx,as,e1,e2,e3,h _ _ e4,h _ _ e5,e6,e7,e8.same h⟩
 |ll ls=>obtain⟨a,as,e1,e2,e3,e4,e5,e6⟩:=r;exact⟨a,as,e1,e2,e3,e4,h _ _ e5,e6.same h⟩
variable{Z:En}{σ:L2.St}
theorem EnvM.same{M:Mn}(h:Same H H')(e:EnvM K O M H Z σ):EnvM K O M H' Z σ where
 len:=e.len
 val:=λi t q=>let ⟨v,e1,e2⟩:=e.val i t q;⟨v,e1,e2.same h⟩
 own:=λi o q=>let ⟨v,e1,e2⟩:=e.own i o q;⟨v,e1,e2.same h⟩
 sub:=e.sub
 dis:=e.dis
 trk:=λa q=>(e.trk a q).same h
def EnvO(K:N7)(O:Ow)(H:Hp)(Z:En)(σ:L2.St):Prop:=∃M,EnvM K O M H Z σ
variable{p:ZE}
theorem EnvO.len(e:EnvO K O H Z σ):Z.length=σ.length:=e.elim λ_ e=>e.len
theorem EnvO.val(e:EnvO K O H Z σ)(i:Nat)(t:T)(q:Z[i]?=ZA (.va t)):∃v,σ[i]?=ZA (ZA v)/\Rep K O H t v:=e.elim λ_ e=>e.val i t q
def EnvO.mtb(e:EnvO K O H Z σ):∀a,O a->Mtb H a:=e.elim λ_ e=>e.trk
def EnvO.trk(e:EnvO K O H Z σ)(a:ZE)(z:O a):∃o,H a=ZA o:=(e.mtb a z).some
theorem EnvO.same(h:Same H H')(e:EnvO K O H Z σ):EnvO K O H' Z σ:=e.elim λM e=>⟨M,e.same h⟩
def EnvO.fresh(e:EnvO K O H Z σ)(h:H p=ZB):¬ O p:=λz=>by obtain⟨o,q⟩:=e.trk p z;rw[h]at q;cases q
def KD(h:ZH)(C e:ZE):Option ZE->Prop
 |none=>∃oe vs,h.get? e=ZA oe/\oe.cls=.ref C/\oe.data=.fields vs/\vs[1]?=ZA .none
 |some T=>T≠e/\∃oe vs,h.get? e=ZA oe/\oe.cls=.ref C/\oe.data=.fields vs/\vs[1]?=ZA (.ref T)/\∃oT ts,h.get? T=ZA oT/\oT.data=.fields ts/\ts[3]?=ZA .none
def RzP(X:Cx)(kt:W2)(P:Ow)(H:Hp)(c:Str)(ev:N9)(s':Ob):Prop:=
 ∃e T C σ' H',ev=.ref e/\X.mg c=ZA (.ref C)/\Inv X kt σ' H' s'/\SameO P H H'/\H' e=ZB/\(X.ex=[]->X.s₀.heap.get? e=ZB)/\KD s'.heap C e T/\(∀t,T=ZA t->H' t=ZB/\(X.ex=[]->X.s₀.heap.get? t=ZB))/\∀p∈X.pn++kt,p.1≠e/\T≠ZA p.1
def Nw(K:N7)(H:Hp):Ow:=λa=>H a=ZB/\K.lookup a=ZB
variable{H1:Hp}
def fq(h:SameO P H H1)(n:Nw K H1 a):P a\/Nw K H a:=by
 by_cases hp:P a
 .exact .inl hp
 .refine .inr ⟨?_,n.2⟩;cases q:H a with
  |none=>rfl
  |some o=>have:=h a o q hp;rw[n.1]at this;cases this
def SameO.trans{P1:Ow}{H2:Hp}(h:SameO P H H1)(h1:SameO P1 H1 H2)(sub:∀a,P1 a->P a\/Nw K H a):SameO P H H2:=λb o e n=>
 h1 b o (h b o e n) λz=>(sub b z).elim n λw=>by rw[w.1]at e;cases e
def XA(X:Cx)(P:Ow)(H:Hp)(c:Str):Prop:=∀kt ev s',RzP X kt P H c ev s'->X.xe ev s'
variable{X:Cx}
def XA.later{P1:Ow}{c:Str}(h:XA X P H c)(s:SameO P H H1)(sub:∀a,P1 a->P a\/Nw X.K H a):XA X P1 H1 c:=λkt ev s' ⟨e,T,C,σ',H',a1,a2,a3,a4,a5⟩=>
 h kt ev s' ⟨e,T,C,σ',H',a1,a2,a3,s.trans a4 sub,a5⟩
abbrev ko:Ow:=λ_=>False
def Post{α:Type}(X:Cx)(H:Hp)(r:Rs α)(k:α->Hp->Prop):Prop:=match r with
 |.ok t=>∀H',Same H H'->k t H'
 |.err c=>XA X ko H c
 |.bad=>False
def Post.mono{r:Rs α}{k k':α->Hp->Prop}(h:Post X H r k)(f:∀t H',Same H H'->k t H'->k' t H'):Post X H r k':=by
 cases r with
 |ok t=>exact λH' s=>f t H' s (h H' s)
 |err c=>exact h
 |bad=>exact h
theorem Post.later{r:Rs α}{k:α->Hp->Prop}(h:Post X H r k)(s:Same H H1):Post X H1 r k:=by
 cases r with
 |ok t=>exact λH' s'=>h H' (s.trans s')
 |err c=>exact XA.later h (SameO.of s) λ_ z=>z.elim
 |bad=>exact h
def Post.bind{r:Rs α}{f:α->Rs β}{k:β->Hp->Prop}(h:Post X H (r >>= f) k):Post X H r λt H'=>Post X H' (f t) k:=by
 cases r with
 |ok t=>exact λH' s=>Post.later h s
 |err c=>exact h
 |bad=>exact h
def tP(X:Cx)(f:W5):TE:=λσ H Q=>∃Z O,EnvO X.K O H Z σ/\Post X H (f Z) λt H'=>∀v,Rep X.K O H' t v->Q v H'
def tPA(X:Cx)(f:W3):TA:=λσ H Q=>∃Z O,EnvO X.K O H Z σ/\Post X H (f Z) λt H'=>∀v,Reps X.K O H' t v->Q v H'
def Bb(X:Cx)(f:W6):TT:=λσ H Q=>∃Z O,EnvO X.K O H Z σ/\Post X H (f Z) λb H'=>Q b H'
abbrev cm(X:Cx)(e:ZG)(f:W5):Prop:=PE X e (tP X f)
abbrev qf(X:Cx)(e:List ZG)(f:W3):Prop:=PA X e (tPA X f)
abbrev wq(X:Cx)(e:ZG)(f:W6):Prop:=PT X e (Bb X f)
variable{e:ZG}
def PE.imp{t t':TE}(h:PE X e t)(w:∀σ H Q,t' σ H Q->t σ H Q):PE X e t':=λkt s σ H Q I q=>h kt s σ H Q I (w σ H Q q)
def PA.imp{e:List ZG}{t t':TA}(h:PA X e t)(w:∀σ H Q,t' σ H Q->t σ H Q):PA X e t':=λpos kt s σ H Q I q=>h pos kt s σ H Q I (w σ H Q q)
def PT.imp{t t':TT}(h:PT X e t)(w:∀σ H Q,t' σ H Q->t σ H Q):PT X e t':=λkt s σ H Q I q=>h kt s σ H Q I (w σ H Q q)
def PS.imp{e:ZF}{t t':TS}(h:PS X e t)(w:∀D σ H,t' D σ H->t D σ H):PS X e t':=λkt s σ H D I q=>h kt s σ H D I (w D σ H q)
def PSs.imp{e:List ZF}{t t':TS}(h:PSs X e t)(w:∀D σ H,t' D σ H->t D σ H):PSs X e t':=λkt s σ H D I q=>h kt s σ H D I (w D σ H q)
variable{es:List ZG}{f:W3}{pos:Pos}{x:Str}
def aY{f:W5}{k:T->Rs α}{Q:α->Hp->Prop}(E:EnvO X.K O H Z σ)(h:Post X H (f Z >>= k) Q):
  tP X f σ H λv H'=>∃t,Rep X.K O H' t v/\Same H H'/\EnvO X.K O H' Z σ/\Post X H' (k t) Q:=
 ⟨Z,O,E,Post.mono h.bind λt H' s q v r=>⟨t,r,s,E.same s,q⟩⟩
def fz{k:List T->Rs α}{Q:α->Hp->Prop}(E:EnvO X.K O H Z σ)(h:Post X H (f Z >>= k) Q):
  tPA X f σ H λv H'=>∃t,Reps X.K O H' t v/\Same H H'/\EnvO X.K O H' Z σ/\Post X H' (k t) Q:=
 ⟨Z,O,E,Post.mono h.bind λt H' s q v r=>⟨t,r,s,E.same s,q⟩⟩
def k8{f:W6}{k:Bool->Rs α}{Q:α->Hp->Prop}(E:EnvO X.K O H Z σ)(h:Post X H (f Z >>= k) Q):
  Bb X f σ H λb H'=>Same H H'/\EnvO X.K O H' Z σ/\Post X H' (k b) Q:=
 ⟨Z,O,E,Post.mono h.bind λt H' s q=>⟨s,E.same s,q⟩⟩
noncomputable def vr(i:Nat)(Z:En):Rs T:=match Z[i]? with
 |some (.va t)=>.ok t
 |_=>.bad
noncomputable def cn(t:T)(_:En):Rs T:=.ok t
def Ll(i:Nat)(hN:autoParam (X.N[i]?=ZA x) u_)(hv:autoParam (kA X.env.scope x) v_)(hd:autoParam ((x == ("__debug__" : Str))=ZD) s_)
  (hcd:autoParam ((x == ("__classdict__" : Str))=ZD) s_):cm X (.Name x pos) (vr i):=PE.imp (dB hN hv hd hcd) λσ H Q hh_=>by
 obtain⟨Z,O,E,h⟩:=hh_;unfold vr at h;split at h
 .rename_i t e;obtain⟨v,e1,e2⟩:=E.val i t e;exact⟨v,e1,h H (Same.refl H) v e2⟩
 .exact h.elim
def Lv{i j pos}:cm X (.Constant (.int i) j pos) (cn (.int i)):=PE.imp B4 λσ H Q ⟨Z,O,E,h⟩=>h H (Same.refl H) _ (Rep.GT i)
def q_bl{i j pos}:cm X (.Constant (.bool i) j pos) (cn (.bl i)):=PE.imp LG λσ H Q ⟨Z,O,E,h⟩=>h H (Same.refl H) _ (Rep.bl_ i)
def Lq{j pos}:cm X (.Constant .none j pos) (cn .non):=PE.imp Jc λσ H Q ⟨Z,O,E,h⟩=>h H (Same.refl H) _ Rep.NC
def Ln{i j pos}:cm X (.Constant (.str i) j pos) (cn (.str i)):=PE.imp Ja λσ H Q ⟨Z,O,E,h⟩=>h H (Same.refl H) _ (Rep.NW i)
def IJ{u:N9}(hm:X.mg x=ZA u)(r:RelV (.int i) u)(hg:autoParam (Gl X x) u_)(hd:autoParam ((x == ("__debug__" : Str))=ZD) s_):cm X (.Name x pos) (cn (.int i)):=
 PE.imp (yT hg hm r hd) λσ H Q ⟨Z,O,E,h⟩=>h H (Same.refl H) _ (Rep.GT i)
noncomputable def aj(_:En):Rs (List T):=.ok []
noncomputable def ae(f:W5)(g:W3)(Z:En):Rs (List T):=do
 let t <-f Z
 let r <-g Z
 .ok (t::r)
def II:qf X [] aj:=PA.imp fG λσ H Q ⟨Z,O,E,h⟩=>h H (Same.refl H) _ Reps.GM
def Fo{f:W5}{g:W3}(he:cm X e f)(hr:qf X es g)(hs:autoParam (Oq (e::es) X.env=(ZD,eval e X.env)::Oq es X.env) u_):qf X (e::es) (ae f g):=by intro pos kt s σ H Q I h;obtain⟨Z,O,E,h⟩:=h;refine cN he hr hs pos kt s σ H Q I ?_;obtain⟨Z1,O1,E1,h1⟩:=aY E h;refine⟨Z1,O1,E1,Post.mono h1 λt H' s q v r=>?_⟩;obtain⟨t',r',s',E',q'⟩:=q v r;refine⟨Z,O,E',Post.mono q'.bind λts H2 s2 q2 vs rs=>?_⟩;exact q2 H2 (Same.refl H2) _ (Reps.Gc (r'.same s2) rs)
variable{g:T->T->Rs T}
section
noncomputable def kr(l:List T):Rs T:=if l.length<=ZI then .ok (.tup l)else .bad
noncomputable def i0(l:List T):Rs T:=if l.length<=ZI then .ok (.lst l)else .bad
noncomputable def ba(f:W3)(Z:En):Rs T:=f Z >>= kr
noncomputable def gc(f:W3)(Z:En):Rs T:=f Z >>= i0
def aU(h:H p=ZB)(o:HO):Same H (upd H p o):=λb u q=>by rw[aI (b9 q h)];exact q
def g9(h:H p=ZB)(n:¬ O p)(r:Reps K O H l vs):Rep K O (upd H p (.tup vs)) (.tup l) (.ref p):=
 Rep.Fk.mpr ⟨p,vs,rfl,n,aM,r.same (aU h _)⟩
def jh(h:H p=ZB)(n:¬ O p)(r:Reps K O H l vs):Rep K O (upd H p (.lst vs)) (.lst l) (.ref p):=
 Rep.Do.mpr ⟨p,vs,rfl,n,aM,r.same (aU h _)⟩
def Lm{pos:Pos}(h:qf X es f):cm X (.Tuple es x1 pos) (ba f):=by
 intro kt s σ H Q I ⟨Z,O,E,hq⟩;refine IZ h kt s σ H Q I ?_;obtain⟨Z1,O1,E1,h1⟩:=fz E hq;refine⟨Z1,O1,E1,Post.mono h1 λts H1 s1 q vs r=>?_⟩;obtain⟨t',r',s',E',q'⟩:=q vs r;unfold kr at q';split at q'
 .rename_i hz;refine⟨by rw[<-r'.length];exact hz,λp hp=>?_⟩;exact q' _ (aU hp _) _ (g9 hp (E'.fresh hp) r')
 .exact q'.elim
def Ls{pos:Pos}(h:qf X es f):cm X (.List es pos) (gc f):=by
 intro kt s σ H Q I ⟨Z,O,E,hq⟩;refine Jd h kt s σ H Q I ?_;obtain⟨Z1,O1,E1,h1⟩:=fz E hq;refine⟨Z1,O1,E1,Post.mono h1 λts H1 s1 q vs r=>?_⟩;obtain⟨t',r',s',E',q'⟩:=q vs r;unfold i0 at q';split at q'
 .rename_i hz;refine⟨by rw[<-r'.length];exact hz,λp hp=>?_⟩;exact q' _ (aU hp _) _ (jh hp (E'.fresh hp) r')
 .exact q'.elim
def OpT(X:Cx)(f:N9->N9->Sem N9)(g:T->T->Rs T):Prop:=
 ∀(kt:W2)(s:Ob)(σ:L2.St)(H:Hp)(O:Ow)(x y:T)(vx vy:V)(ux uy:N9)(Q:VK),Inv X kt σ H s->(∀p,H p=ZB->¬ O p)->Rep X.K O H x vx->Rep X.K O H y vy->RelV vx ux->RelV vy uy ->
  Post X H (g x y) (λt H'=>∀v,Rep X.K O H' t v->Q v H')->ZJ (ZK X.prog X.w) X.A (f ux uy) (EP X kt σ Q) X.xe s
noncomputable def o2(g:T->T->Rs T)(fa fb:W5)(Z:En):Rs T:=do
 let x <-fa Z
 let y <-fb Z
 g x y
variable {a b c:ZG}{fa fb fc:W5}
def Lz{op:Wh}(ho:OpT X (P6 op) g)(ha:cm X a fa)(hb:cm X b fb):cm X (.BinOp a op b pos) (o2 g fa fb):=by intro kt s σ H Q I ⟨Z,O,E,hq⟩;have h1:=aY E hq;refine wpAny_BinOp (bR (ha kt s σ H _ I h1) λv s1 hh_=>?_);obtain⟨x,H1,I1,r1,t,rt,s',E',q1⟩:=hh_;have h2:=aY (f:=fb) E' q1;refine bR (hb kt s1 σ H1 _ I1 h2) λu s2 hh_=>?_;obtain⟨y,H2,I2,r2,t2,rt2,s'',E'',q2⟩:=hh_;exact ho kt s2 σ H2 O t t2 x y v u Q I2 (λp=>E''.fresh) (rt.same s'') rt2 r1 r2 q2
def Ly(ho:OpT X (Pe op) g)(ha:cm X a fa)(hb:cm X b fb)(hm:autoParam (RD op b=ZD) u_):cm X (.Compare a [op] [b] pos) (o2 g fa fb):=by intro kt s σ H Q I ⟨Z,O,E,hq⟩;have h1:=aY E hq;refine wpAny_Compare1 (bR (ha kt s σ H _ I h1) λv s1 ⟨x,H1,I1,r1,t,rt,s',E',q1⟩=>?_) hm;have h2:=aY (f:=fb) E' q1;refine bR (hb kt s1 σ H1 _ I1 h2) λu s2 hh_=>?_;obtain⟨y,H2,I2,r2,t2,rt2,s'',E'',q2⟩:=hh_;exact ho kt s2 σ H2 O t t2 x y v u Q I2 (λp=>E''.fresh) (rt.same s'') rt2 r1 r2 q2
def OpT.of{f:N9->N9->Sem N9}{r:R2}(h:om X f r)
  (w:∀(H:Hp)(O:Ow)(x y:T)(vx vy:V)(Q:VK),(∀p,H p=ZB->¬ O p)->Rep X.K O H x vx->Rep X.K O H y vy->Post X H (g x y) (λt H'=>∀v,Rep X.K O H' t v->Q v H')->r vx vy H Q):OpT X f g:=
 λkt s σ H O x y vx vy ux uy Q I hf rx ry r1 r2 hp=>h kt s σ H vx vy ux uy Q I r1 r2 (w H O x y vx vy Q hf rx ry hp)
noncomputable def jb:T->T->Rs T
 |.int i,.int j=>.ok (.int (i - j))
 |_,_=>.bad
def gG:OpT X (P6 .Sub) jb:=OpT.of Jj λH O x y vx vy Q hf rx ry hp=>by
 unfold jb at hp;split at hp
 .exact⟨_,_,Rep.AC.mp rx,Rep.AC.mp ry,hp H (Same.refl H) _ (Rep.GT _)⟩
 .exact hp.elim
noncomputable def lK:T->T->Rs T
 |.int i,.int j=>if 0<j/\j<1073741824 then .ok (.int (i / j))else .bad
 |_,_=>.bad
noncomputable def lA:T->T->Rs T
 |.int i,.int j=>if 0<j then .ok (.int (i % j))else .bad
 |_,_=>.bad
def nS:OpT X (P6 .FloorDiv) lK:=OpT.of FP λH O x y vx vy Q hf rx ry hp=>by
 unfold lK at hp;split at hp
 .split at hp
  .rename_i h;exact⟨_,_,Rep.AC.mp rx,Rep.AC.mp ry,h,hp H (Same.refl H) _ (Rep.GT _)⟩
  .exact hp.elim
 .exact hp.elim
def kH:OpT X (P6 .Mod) lA:=OpT.of Jm λH O x y vx vy Q hf rx ry hp=>by
 unfold lA at hp;split at hp
 .split at hp
  .rename_i h;exact⟨_,_,Rep.AC.mp rx,Rep.AC.mp ry,h,hp H (Same.refl H) _ (Rep.GT _)⟩
  .exact hp.elim
 .exact hp.elim
def Cb:om X (P6 .Add) (λx y H Q=>∃a b ys,x=.ref a/\y=.ref b/\SqT X.K H a []/\SqT X.K H b ys/\Q (.ref b) H):=by
 intro kt s σ H x y v u Q I rx ry h;obtain⟨a,b,ys,rfl,rfl,ha,hb,q⟩:=h;cases rx;cases ry;obtain⟨its,r1,p1,_⟩:=I.tuple ha;obtain⟨its2,r2,p2,_⟩:=I.tuple hb;obtain⟨⟨cls,dd,data,sl⟩,ho,hc,n,hd⟩:=id p1;obtain⟨⟨cls2,dd2,data2,sl2⟩,ho2,hc2,n2,hd2⟩:=id p2;simp only at hc hd hc2 hd2;subst hc hd hc2 hd2;have e:its=[]:=by cases r1;rfl
 subst e;exact HT_concat0 ho ho2 ⟨.ref b,H,I,rfl,q⟩
where
 HT_concat0 {prog:OM} {w:Pm} {A:OY} {E:W1} {s:Ob} {t b:ZE} {ws:Array N9} {n n2:Nat} {dd dd2:Option ZE} {sl sl2:Array (Option N9)} {Q:W1}
   (ho:s.heap.get? t=ZA {cls:=.type "tuple",dict:=dd,data:=.seq (([]:List N9).toArray) n,slots:=sl}) (ho2:s.heap.get? b=ZA {cls:=.type "tuple",dict:=dd2,data:=.seq ws n2,slots:=sl2}) (h:Q (.ref b) s):
   ZJ (ZK prog w) A (P6 .Add (.ref t) (.ref b)) Q E s:=
  VX ⟨_,ho,rfl⟩ ⟨_,ho2,rfl⟩ T3 Vf R6 RX (RL _ _)
   (tuple_addW0 t b _ _ n n2 dd dd2 sl sl2 (by simp)) ⟨ho,ho2,h⟩
noncomputable def aQ:T->T->Rs T
 |.int i,.int j=>.ok (.int (i+j))
 |.str i,.str j=>if i.length+j.length<=ZI then .ok (.str (i++j))else .bad
 |.tup l,.tup m=>kr (l++m)
 |.lst l,.lst m=>i0 (l++m)
 |_,_=>.bad
def aN:OpT X (P6 .Add) aQ:=by
 intro kt s σ H O x y vx vy ux uy Q I hf rx ry r1 r2 hp;unfold aQ at hp;split at hp
 .exact Jp kt s σ H vx vy ux uy Q I r1 r2 ⟨_,_,Rep.AC.mp rx,Rep.AC.mp ry,hp H (Same.refl H) _ (Rep.GT _)⟩
 .split at hp
  .rename_i h;exact xj kt s σ H vx vy ux uy Q I r1 r2 ⟨_,_,Rep.IR.mp rx,Rep.IR.mp ry,h,hp H (Same.refl H) _ (Rep.NW _)⟩
  .exact hp.elim
 .rename_i l m;unfold kr at hp;split at hp
  .rename_i h;obtain⟨a,vs,e1,n1,q1,z1⟩:=Rep.Fk.mp rx;obtain⟨b,ws,e2,n2,q2,z2⟩:=Rep.Fk.mp ry;have hl1:=z1.length;have hl2:=z2.length;rw[Oh]at h;cases vs with
   |nil=>
    have e:l=[]:=by cases l with
     |nil=>rfl
     |cons _ _=>simp at hl1
    subst e;exact Cb kt s σ H vx vy ux uy Q I r1 r2 ⟨a,b,ws,e1,e2,SqT.of q1,SqT.of q2,hp H (Same.refl H) _ (Rep.Fk.mpr ⟨b,ws,rfl,n2,q2,z2⟩)⟩
   |cons v0 vr=>
    refine FQ kt s σ H vx vy ux uy Q I r1 r2 ⟨a,b,v0::vr,ws,e1,e2,SqT.of q1,SqT.of q2,by simp,by omega,λhw=>?_,λ_ p hpn=>?_⟩
    .subst hw;have e:m=[]:=by cases m with
      |nil=>rfl
      |cons _ _=>simp at hl2
     subst e;rw[OS]at hp;exact hp H (Same.refl H) _ (Rep.Fk.mpr ⟨a,_,rfl,n1,q1,z1⟩)
    .exact hp _ (aU hpn _) _ (g9 hpn (hf p hpn) (z1.append z2))
  .exact hp.elim
 .rename_i l m;unfold i0 at hp;split at hp
  .rename_i h;obtain⟨a,vs,e1,n1,q1,z1⟩:=Rep.Do.mp rx;obtain⟨b,ws,e2,n2,q2,z2⟩:=Rep.Do.mp ry;have hl1:=z1.length;have hl2:=z2.length;rw[Oh]at h;exact Jo kt s σ H vx vy ux uy Q I r1 r2 ⟨a,b,vs,ws,e1,e2,q1,q2,by omega,λp hpn=>hp _ (aU hpn _) _ (jh hpn (hf p hpn) (z1.append z2))⟩
  .exact hp.elim
 .exact hp.elim
noncomputable def xw:T->T->Rs T
 |.int i,.int j=>if (-(2 ^ 64)<i/\i<2 ^ 64)\/(-(2 ^ 64)<j/\j<2 ^ 64)then .ok (.int (i*j))else .bad
 |.lst l,.int k=>if -(2 ^ 63)<=k/\k<2 ^ 63/\l.length*k.toNat<=ZI then .ok (.lst (OK k.toNat l).flatten)else .bad
 |_,_=>.bad
theorem Reps.rep(h:Reps K O H l vs):∀k:Nat,Reps K O H (OK k l).flatten (OK k vs).flatten
 |0=>Reps.GM
 |k+1=>by rw[Qb,Qb,Q3,Q3];exact h.append (h.rep k)
def Jg:OpT X (P6 .Mult) xw:=by
 intro kt s σ H O x y vx vy ux uy Q I hf rx ry r1 r2 hp;unfold xw at hp;split at hp
 .split at hp
  .rename_i h;exact Jl kt s σ H vx vy ux uy Q I r1 r2 ⟨_,_,Rep.AC.mp rx,Rep.AC.mp ry,h,hp H (Same.refl H) _ (Rep.GT _)⟩
  .exact hp.elim
 .split at hp
  .rename_i l k h;obtain⟨a,vs,e1,n1,q1,z1⟩:=Rep.Do.mp rx;have hl1:=z1.length;exact Jk kt s σ H vx vy ux uy Q I r1 r2 ⟨a,k,vs,e1,Rep.AC.mp ry,q1,h.1,h.2.1,by rw[<-hl1];exact h.2.2,λp hpn=>hp _ (aU hpn _) _ (jh hpn (hf p hpn) (z1.rep _))⟩
  .exact hp.elim
 .exact hp.elim
noncomputable def ke:T->Rs T
 |.int i=>.ok (.int (-i))
 |_=>.bad
noncomputable def o1(g:T->Rs T)(fa:W5)(Z:En):Rs T:=fa Z >>= g
def Lr(ha:cm X a fa):cm X (.UnaryOp .USub a pos) (o1 ke fa):=by
 intro kt s σ H Q I ⟨Z,O,E,hq⟩;refine LC HU ha kt s σ H Q I ?_;obtain⟨Z1,O1,E1,h1⟩:=aY E hq;refine⟨Z1,O1,E1,Post.mono h1 λts H1 s1 q vs r=>?_⟩;obtain⟨t',r',s',E',q'⟩:=q vs r;unfold ke at q';split at q'
 .exact⟨_,Rep.AC.mp r',q' H1 (Same.refl H1) _ (Rep.GT _)⟩
 .exact q'.elim
noncomputable def x5(p:Int->Int->Bool):T->T->Rs T
 |.int i,.int j=>.ok (.bl (p i j))
 |_,_=>.bad
def tj{p:Int->Int->Bool}(h:om X (Pe op) (Ha λi j=>.bl (p i j))):OpT X (Pe op) (x5 p):=OpT.of h λH O x y vx vy Q hf rx ry hp=>by
 unfold x5 at hp;split at hp
 .exact⟨_,_,Rep.AC.mp rx,Rep.AC.mp ry,hp H (Same.refl H) _ (Rep.bl_ _)⟩
 .exact hp.elim
abbrev F4:=x5 λi j=>decide (i<j)
noncomputable abbrev L4:=x5 λi j=>decide (i<=j)
noncomputable abbrev M4:=x5 λi j=>decide (j<i)
def vc:OpT X (Pe .Lt) F4:=tj LI
def y6:OpT X (Pe .LtE) L4:=tj LJ
def Hf:OpT X (Pe .Gt) M4:=tj LK
def T.isN:T->Bool
 |.non=>ZC
 |_=>ZD
def Rep.isN{t:T}(r:Rep K O H t v):decide (v=.non)=t.isN:=by
 cases t with
 |non=>rw[Rep.Nb.mp r];rfl
 |bl _=>rw[Rep.FS.mp r];rfl
 |int _=>rw[Rep.AC.mp r];rfl
 |str _=>rw[Rep.IR.mp r];rfl
 |tup _=>obtain⟨a,vs,e,_⟩:=Rep.Fk.mp r;rw[e];rfl
 |lst _=>obtain⟨a,vs,e,_⟩:=Rep.Do.mp r;rw[e];rfl
 |scr _=>unfold Rep at r;obtain⟨a,e,_⟩:=r;rw[e];rfl
 |dct _ _=>obtain⟨a,_,e,_⟩:=Rep.GE.mp r;rw[e];rfl
 |ob _ _ _=>obtain⟨a,_,_,e,_⟩:=Rep.Nh.mp r;rw[e];rfl
noncomputable def lI:T->T->Rs T
 |x,.non=>.ok (.bl x.isN)
 |_,_=>.bad
noncomputable def jl:T->T->Rs T
 |x,.non=>.ok (.bl (!x.isN))
 |_,_=>.bad
def qY:OpT X (Pe .Is) lI:=OpT.of Jn λH O x y vx vy Q hf rx ry hp=>by
 unfold lI at hp;split at hp
 .exact⟨Rep.Nb.mp ry,hp H (Same.refl H) _ (by rw[rx.isN];exact Rep.bl_ _)⟩
 .exact hp.elim
def lx:OpT X (Pe .IsNot) jl:=OpT.of FO λH O x y vx vy Q hf rx ry hp=>by
 unfold jl at hp;split at hp
 .exact⟨Rep.Nb.mp ry,hp H (Same.refl H) _ (by rw[rx.isN];exact Rep.bl_ _)⟩
 .exact hp.elim
end
open PySem.SeqAt
mutual
def ReV(s:Ob):T->N9->Prop
 |.non,u=>u=.none
 |.bl b,u=>u=.bool b
 |.int i,u=>∃t,u=.int i t
 |.str x,u=>∃t,u=.str x t
 |.tup l,u=>∃a its,u=.ref a/\s.heap.IsTuple a (VN its)/\ReVs s l its
 |.lst l,u=>∃a its,u=.ref a/\s.heap.IsList a (VN its)/\ReVs s l its
 |.scr l,u=>∃a its,u=.ref a/\s.heap.IsList a (VN its)/\QB its l
 |.dct _ _,_=>False
 |.ob _ _ _,_=>False
def ReVs(s:Ob):List T->List N9->Prop
 |[],us=>us=[]
 |t::r,us=>∃u ws,us=u::ws/\ReV s t u/\ReVs s r ws
end
def ReVs.Da:ReVs s [] us↔us=[]:=by unfold ReVs;exact Rj
def ReVs.me{t:T}:ReVs s (t::l) us↔ ∃u ws,us=u::ws/\ReV s t u/\ReVs s l ws:=by
 constructor
 .intro h;unfold ReVs at h;exact h
 .intro h;unfold ReVs;exact h
theorem ReVs.length:∀{l:List T}{us:List N9},ReVs s l us->l.length=us.length
 |[],us,r=>by rw[ReVs.Da.mp r];rfl
 |t::l,us,r=>by obtain⟨v,ws,rfl,_,q⟩:=ReVs.me.mp r;simp[q.length]
theorem ReVs.get:∀{l:List T}{us:List N9}{i:Nat}{t:T},ReVs s l us->l[i]?=ZA t->∃v,us[i]?=ZA v/\ReV s t v
 |[],_,_,_,_,e=>by simp at e
 |t::l,vs,i,u,r,e=>by
  obtain⟨v,ws,rfl,p,q⟩:=ReVs.me.mp r;cases i with
  |zero=>simp at e;subst e;exact⟨v,rfl,p⟩
  |succ i=>
   obtain⟨z,e1,e2⟩:=q.get (i:=i) (t:=u) (by simpa using e);exact⟨z,by simpa using e1,e2⟩
mutual
def T.nd:T->Bool
 |.dct _ _=>ZD
 |.ob _ _ _=>ZD
 |.tup l=>nds l
 |.lst l=>nds l
 |_=>ZC
def nds:List T->Bool
 |[] =>ZC
 |t::l=>t.nd&&nds l
end
def vt{t:T}(h:nds (t::l)=ZC):t.nd=ZC/\nds l=ZC:=by unfold nds at h;exact Po.mp h
section
variable {kt:W2}
mutual
theorem Rep.val(I:Inv X kt σ H s):∀{t:T}{v:V}{u:N9},t.nd=ZC->Rep X.K O H t v->RelV v u->ReV s t u
 |.non,v,u,hn,r,q=>by cases Rep.Nb.mp r;unfold ReV;exact q
 |.bl b,v,u,hn,r,q=>by cases Rep.FS.mp r;unfold ReV;exact q
 |.int b,v,u,hn,r,q=>by cases Rep.AC.mp r;unfold ReV;exact q
 |.str b,v,u,hn,r,q=>by cases Rep.IR.mp r;unfold ReV;exact q
 |.tup l,v,u,hn,r,q=>by obtain⟨a,vs,rfl,_,z,w⟩:=Rep.Fk.mp r;cases q;obtain⟨its,rv,p,_⟩:=I.tuple (SqT.of z);unfold ReV;exact⟨a,its,rfl,p,Reps.val I (by unfold T.nd at hn;exact hn) w rv⟩
 |.lst l,v,u,hn,r,q=>by obtain⟨a,vs,rfl,_,z,w⟩:=Rep.Do.mp r;cases q;obtain⟨its,rv,p,_⟩:=I.list (SqL.of z);unfold ReV;exact⟨a,its,rfl,p.isList,Reps.val I (by unfold T.nd at hn;exact hn) w rv⟩
 |.scr l,v,u,hn,r,q=>by unfold Rep at r;obtain⟨a,rfl,_,z⟩:=r;cases q;obtain⟨its,rv,p,_⟩:=I.list z;unfold ReV;exact⟨a,its,rfl,p.isList,xQ rv⟩
 |.dct _ _,v,u,hn,r,q=>by cases hn
 |.ob _ _ _,v,u,hn,r,q=>by cases hn
theorem Reps.val(I:Inv X kt σ H s):∀{l:List T}{vs:List V}{us:List N9},nds l=ZC->Reps X.K O H l vs->Vals vs us->ReVs s l us
 |[],vs,us,hn,r,q=>by cases Reps.Da.mp r;cases q;exact ReVs.Da.mpr rfl
 |t::l,vs,us,hn,r,q=>by
  obtain⟨v,ws,rfl,p,z⟩:=Reps.me.mp r;cases q with
  |cons q1 q2=>exact ReVs.me.mpr ⟨_,_,rfl,Rep.val I (vt hn).1 p q1,Reps.val I (vt hn).2 z q2⟩
end
end
mutual
def T.dep:T->Nat
 |.tup l=>deps l+1
 |.lst l=>deps l+1
 |.scr _=>1
 |_=>0
def deps:List T->Nat
 |[] =>0
 |t::l=>max t.dep (deps l)
end
noncomputable def GJ(i:Int):T->Bool
 |.int j=>i == j
 |.bl b=>i == (if b then 1 else 0)
 |_=>ZD
noncomputable def kz:List Int->List T->Bool
 |[],[] =>ZC
 |i::r,t::l=>GJ i t&&kz r l
 |_,_=>ZD
mutual
def aW:T->T->Bool
 |.non,.non=>ZC
 |.bl a,.bl b=>a == b
 |.bl a,.int b=>(if a then 1 else 0) == b
 |.int a,.bl b=>a == (if b then 1 else 0)
 |.int a,.int b=>a == b
 |.str a,.str b=>a == b
 |.tup l,.tup m=>beqTs l m
 |.lst l,.lst m=>beqTs l m
 |.lst l,.scr m=>beqTs l (m.map .int)
 |.scr l,.lst m=>kz l m
 |.scr l,.scr m=>l == m
 |_,_=>ZD
def beqTs:List T->List T->Bool
 |[],[] =>ZC
 |t::l,u::m=>aW t u&&beqTs l m
 |_,_=>ZD
end
def p0(n:Nat)(e:Nat->Bool):(PJ (n+1)).all e=(e 0&&(PJ n).all λj=>e (j+1)):=by rw[List.range_succ_eq_map,SJ,VO];rfl
theorem mG:∀(l m:List T)(e:Nat->Bool),(∀(j:Nat) t u,l[j]?=ZA t->m[j]?=ZA u->e j=aW t u) ->
  beqTs l m=((PJ (min l.length m.length)).all e&&l.length == m.length)
 |[],[],_,_=>by simp[beqTs]
 |[],_::_,_,_=>by simp[beqTs]
 |_::_,[],_,_=>by simp[beqTs]
 |t::l,u::m,e,h=>by have ih:=mG l m (λj=>e (j+1)) λj t' u' h1 h2=>h (j+1) t' u' (by simpa using h1) (by simpa using h2);rw[beqTs,ih];have h0:=h 0 t u rfl rfl;simp only[Og];rw[Nat.succ_min_succ,p0,h0,Bool.and_assoc];congr 2;simp
theorem rV:∀{l m:List T},l.length≠m.length->beqTs l m=ZD
 |[],[],h=>absurd rfl h
 |[],_::_,_=>by simp[beqTs]
 |_::_,[],_=>by simp[beqTs]
 |t::l,u::m,h=>by rw[beqTs,rV (l:=l) (m:=m) (by intro z;exact h (by simp[z]))];simp
theorem jC:∀{l:List T}{i:Nat}{t:T},l[i]?=ZA t->t.dep<=deps l
 |[],_,_,e=>by simp at e
 |t::l,0,u,e=>by simp at e;subst e;unfold deps;exact Nat.le_max_left _ _
 |t::l,i+1,u,e=>by have:=jC (l:=l) (i:=i) (t:=u) (by simpa using e);unfold deps;exact OV this (Nat.le_max_right _ _)
def jy{x y:List N9}(h:s.heap.IsTuple a x.toArray)(h':s.heap.IsTuple a y.toArray):x=y:=by obtain⟨o,e,_,n,d⟩:=h;obtain⟨o',e',_,n',d'⟩:=h';rw[e]at e';cases e';rw[d]at d';injection d' with d1 _;simpa using congrArg T9 d1
def c6{x y:List N9}(h:s.heap.IsList a x.toArray)(h':s.heap.IsList a y.toArray):x=y:=by obtain⟨o,e,_,n,d⟩:=h;obtain⟨o',e',_,n',d'⟩:=h';rw[e]at e';cases e';rw[d]at d';injection d' with d1 _;simpa using congrArg T9 d1
variable{k:Tok}
def A5{t:T}(r:ReV s t (.int i k)):GJ i t=ZC:=by
 cases t with
 |non=>unfold ReV at r;cases r
 |bl b=>unfold ReV at r;cases r
 |int j=>unfold ReV at r;obtain⟨t,e⟩:=r;injection e with e1 _;subst e1;simp[GJ]
 |str x=>unfold ReV at r;obtain⟨t,e⟩:=r;cases e
 |tup l=>unfold ReV at r;obtain⟨a,its,e,_⟩:=r;cases e
 |lst l=>unfold ReV at r;obtain⟨a,its,e,_⟩:=r;cases e
 |scr l=>unfold ReV at r;obtain⟨a,its,e,_⟩:=r;cases e
 |dct _ _=>unfold ReV at r;exact r.elim
 |ob _ _ _=>unfold ReV at r;exact r.elim
theorem pY:∀{ns:List Int}{us:List N9}{l:List T},QB us ns->ReVs s l us->kz ns l=ZC
 |[],us,l,h,r=>by
  cases h;cases l with
  |nil=>rfl
  |cons t l=>obtain⟨_,_,e,_⟩:=ReVs.me.mp r;cases e
 |n::ns,us,l,h,r=>by
  cases h with
  |cons a b hh=>
   cases l with
   |nil=>have:=ReVs.Da.mp r;cases this
   |cons t l=>
    obtain⟨u,ws,e,p,q⟩:=ReVs.me.mp r;injection e with e1 e2;subst e1 e2;rw[kz,A5 p,pY hh q];rfl
theorem dW:∀{us:List N9}{ns:List Int},QB us ns->ReVs s (ns.map T.int) us
 |_,_,.nil=>ReVs.Da.mpr rfl
 |_,_,.cons n t h=>ReVs.me.mpr ⟨_,_,rfl,by unfold ReV;exact⟨_,rfl⟩,dW h⟩
def mT:∀{us:List N9}{ns ms:List Int},QB us ns->QB us ms->ns=ms:=by
 intro us ns ms h;induction h generalizing ms with
 |nil=>intro k;cases k;rfl
 |cons n t h i=>intro k;cases k with|cons _ _ k=>rw[i k]
mutual
theorem ReV.refl{s:Ob}:∀{t u:T}{v:N9},ReV s t v->ReV s u v->aW t u=ZC
 |.non,u,v,r,q=>by unfold ReV at r;subst r;cases u <;> (unfold ReV at q) <;> first|rfl| (cases q;done)| (obtain⟨_,e⟩:=q;cases e;done)| (obtain⟨_,_,e,_⟩:=q;cases e;done)
 |.bl b,u,v,r,q=>by unfold ReV at r;subst r;cases u <;> (unfold ReV at q) <;> first| (cases q;done)| (cases q;simp[aW];done)| (obtain⟨_,e⟩:=q;cases e;done)| (obtain⟨_,_,e,_⟩:=q;cases e;done)
 |.int b,u,v,r,q=>by unfold ReV at r;obtain⟨k,rfl⟩:=r;cases u <;> (unfold ReV at q) <;> first| (cases q;done)| (obtain⟨_,e⟩:=q;cases e;simp[aW];done)| (obtain⟨_,e⟩:=q;cases e;done)| (obtain⟨_,_,e,_⟩:=q;cases e;done)
 |.str b,u,v,r,q=>by unfold ReV at r;obtain⟨k,rfl⟩:=r;cases u <;> (unfold ReV at q) <;> first| (cases q;done)| (obtain⟨_,e⟩:=q;cases e;simp[aW];done)| (obtain⟨_,e⟩:=q;cases e;done)| (obtain⟨_,_,e,_⟩:=q;cases e;done)
 |.tup l,u,v,r,q=>by
  unfold ReV at r;obtain⟨a,its,rfl,h1,h2⟩:=r;cases u with
  |non=>unfold ReV at q;cases q
  |dct _ _=>unfold ReV at q;exact q.elim
  |ob _ _ _=>unfold ReV at q;exact q.elim
  |bl _=>unfold ReV at q;cases q
  |int _=>unfold ReV at q;obtain⟨_,e⟩:=q;cases e
  |str _=>unfold ReV at q;obtain⟨_,e⟩:=q;cases e
  |tup m=>
   unfold ReV at q;obtain⟨a',its',e,h1',h2'⟩:=q;injection e with e;subst e;have:=jy h1 h1';subst this;unfold aW;exact ReVs.refl h2 h2'
  |lst m=>unfold ReV at q;obtain⟨a',its',e,h1',h2'⟩:=q;injection e with e;subst e;exact absurd rfl (ne_of_list_tuple h1' h1)
  |scr m=>unfold ReV at q;obtain⟨a',its',e,h1',h2'⟩:=q;injection e with e;subst e;exact absurd rfl (ne_of_list_tuple h1' h1)
 |.lst l,u,v,r,q=>by
  unfold ReV at r;obtain⟨a,its,rfl,h1,h2⟩:=r;cases u with
  |non=>unfold ReV at q;cases q
  |dct _ _=>unfold ReV at q;exact q.elim
  |ob _ _ _=>unfold ReV at q;exact q.elim
  |bl _=>unfold ReV at q;cases q
  |int _=>unfold ReV at q;obtain⟨_,e⟩:=q;cases e
  |str _=>unfold ReV at q;obtain⟨_,e⟩:=q;cases e
  |lst m=>
   unfold ReV at q;obtain⟨a',its',e,h1',h2'⟩:=q;injection e with e;subst e;have:=c6 h1 h1';subst this;unfold aW;exact ReVs.refl h2 h2'
  |tup m=>unfold ReV at q;obtain⟨a',its',e,h1',h2'⟩:=q;injection e with e;subst e;exact absurd rfl (ne_of_list_tuple h1 h1')
  |scr m=>
   unfold ReV at q;obtain⟨a',its',e,h1',h2'⟩:=q;injection e with e;subst e;have:=c6 h1 h1';subst this;unfold aW;exact ReVs.refl h2 (dW h2')
 |.scr l,u,v,r,q=>by
  unfold ReV at r;obtain⟨a,its,rfl,h1,h2⟩:=r;cases u with
  |non=>unfold ReV at q;cases q
  |dct _ _=>unfold ReV at q;exact q.elim
  |ob _ _ _=>unfold ReV at q;exact q.elim
  |bl _=>unfold ReV at q;cases q
  |int _=>unfold ReV at q;obtain⟨_,e⟩:=q;cases e
  |str _=>unfold ReV at q;obtain⟨_,e⟩:=q;cases e
  |lst m=>
   unfold ReV at q;obtain⟨a',its',e,h1',h2'⟩:=q;injection e with e;subst e;have:=c6 h1 h1';subst this;unfold aW;exact pY h2 h2'
  |tup m=>unfold ReV at q;obtain⟨a',its',e,h1',h2'⟩:=q;injection e with e;subst e;exact absurd rfl (ne_of_list_tuple h1 h1')
  |scr m=>
   unfold ReV at q;obtain⟨a',its',e,h1',h2'⟩:=q;injection e with e;subst e;have:=c6 h1 h1';subst this;unfold aW;have:=mT h2 h2';simp[this]
 |.dct _ _,u,v,r,q=>by unfold ReV at r;exact r.elim
 |.ob _ _ _,u,v,r,q=>by unfold ReV at r;exact r.elim
theorem ReVs.refl{s:Ob}:∀{l m:List T}{us:List N9},ReVs s l us->ReVs s m us->beqTs l m=ZC
 |[],m,us,r,q=>by
  cases ReVs.Da.mp r;cases m with
  |nil=>simp[beqTs]
  |cons _ _=>obtain⟨_,_,e,_⟩:=ReVs.me.mp q;cases e
 |t::l,m,us,r,q=>by
  obtain⟨v,ws,rfl,p,z⟩:=ReVs.me.mp r;cases m with
  |nil=>cases ReVs.Da.mp q
  |cons u m=>
   obtain⟨v',ws',e,p',z'⟩:=ReVs.me.mp q;injection e with e1 e2;subst e1 e2;rw[beqTs,ReV.refl p p',ReVs.refl z z'];rfl
end
theorem pX:∀(l:List Int)(m:List T),kz l m=beqTs (l.map T.int) m
 |[],[] =>by simp[kz,beqTs]
 |[],_::_=>by simp[kz,beqTs]
 |_::_,[] =>by simp[kz,beqTs]
 |i::l,t::m=>by rw[kz,Of,beqTs,pX l m];congr 1;cases t <;> simp[GJ,aW]
theorem sP:∀(l m:List Int),(l == m)=beqTs (l.map T.int) (m.map T.int)
 |[],[] =>by simp[beqTs]
 |[],_::_=>by simp[beqTs]
 |_::_,[] =>by simp[beqTs]
 |i::l,t::m=>by rw[Of,Of,beqTs,<-sP l m];simp[aW]
theorem fT:∀(l:List Int),deps (l.map T.int)=0
 |[] =>rfl
 |i::l=>by rw[Of,deps,fT l];simp[T.dep]
def jO:T->T->Prop
 |.tup _,.tup _=>False
 |.lst _,.lst _=>False
 |.lst _,.scr _=>False
 |.scr _,.lst _=>False
 |.scr _,.scr _=>False
 |_,_=>True
def vX(A:OY)(s:Ob)(x y:T)(u v:N9)(hn:jO x y)(hu:A.units<cLine)(rx:ReV s x u)(ry:ReV s y v):EqAt A s u v (aW x y)/\RcAt A s u v (aW x y)/\RcNeAt A s u v (!aW x y):=by
 match x,y,hn,rx,ry with
 |.dct _ _,_,_,rx,_=>exact(by unfold ReV at rx;exact rx:False).elim
 |.ob _ _ _,_,_,rx,_=>exact(by unfold ReV at rx;exact rx:False).elim
 |_,.dct _ _,_,_,ry=>exact(by unfold ReV at ry;exact ry:False).elim
 |_,.ob _ _ _,_,_,ry=>exact(by unfold ReV at ry;exact ry:False).elim
 |.non,.non,hn,rx,ry=>
  obtain rfl:u=O7:=by unfold ReV at rx;exact rx
  obtain rfl:v=O7:=by unfold ReV at ry;exact ry
  exact⟨EqAt.same _,RcAt.none_none ,RcNeAt.none_none ⟩
 |.non,.bl b2,hn,rx,ry=>
  obtain rfl:u=O7:=by unfold ReV at rx;exact rx
  obtain rfl:v=Pz b2:=by unfold ReV at ry;exact ry
  exact⟨EqAt.none_bool b2,RcAt.none_bool b2,RcNeAt.none_bool b2⟩
 |.non,.int i2,hn,rx,ry=>
  obtain rfl:u=O7:=by unfold ReV at rx;exact rx
  obtain⟨k2,rfl⟩:∃k,v=PV i2 k:=by unfold ReV at ry;exact ry
  exact⟨EqAt.none_int i2 k2,RcAt.none_int i2 k2,RcNeAt.none_int i2 k2⟩
 |.non,.str x2,hn,rx,ry=>
  obtain rfl:u=O7:=by unfold ReV at rx;exact rx
  obtain⟨k2,rfl⟩:∃k,v=P8 x2 k:=by unfold ReV at ry;exact ry
  exact⟨EqAt.none_str x2 k2,RcAt.none_str x2 k2,RcNeAt.none_str x2 k2⟩
 |.non,.tup l2,hn,rx,ry=>
  obtain rfl:u=O7:=by unfold ReV at rx;exact rx
  unfold ReV at ry;obtain⟨a2,us2,rfl,h2,q2⟩:=ry;exact⟨EqAt.none_tuple h2 hu,RcAt.none_tuple h2 hu,RcNeAt.none_tuple h2 hu⟩
 |.non,.lst l2,hn,rx,ry=>
  obtain rfl:u=O7:=by unfold ReV at rx;exact rx
  unfold ReV at ry;obtain⟨a2,us2,rfl,h2,q2⟩:=ry;exact⟨EqAt.none_list h2 hu,RcAt.none_list h2 hu,RcNeAt.none_list h2 hu⟩
 |.non,.scr l2,hn,rx,ry=>
  obtain rfl:u=O7:=by unfold ReV at rx;exact rx
  unfold ReV at ry;obtain⟨a2,us2,rfl,h2,q2⟩:=ry;exact⟨EqAt.none_list h2 hu,RcAt.none_list h2 hu,RcNeAt.none_list h2 hu⟩
 |.bl b1,.non,hn,rx,ry=>
  obtain rfl:u=Pz b1:=by unfold ReV at rx;exact rx
  obtain rfl:v=O7:=by unfold ReV at ry;exact ry
  exact⟨EqAt.bool_none b1,RcAt.bool_none b1,RcNeAt.bool_none b1⟩
 |.bl b1,.bl b2,hn,rx,ry=>
  obtain rfl:u=Pz b1:=by unfold ReV at rx;exact rx
  obtain rfl:v=Pz b2:=by unfold ReV at ry;exact ry
  exact⟨EqAt.bool_bool b1 b2,RcAt.bool_bool b1 b2,RcNeAt.bool_bool b1 b2⟩
 |.bl b1,.int i2,hn,rx,ry=>
  obtain rfl:u=Pz b1:=by unfold ReV at rx;exact rx
  obtain⟨k2,rfl⟩:∃k,v=PV i2 k:=by unfold ReV at ry;exact ry
  exact⟨EqAt.bool_int b1 i2 k2,RcAt.bool_int b1 i2 k2,RcNeAt.bool_int b1 i2 k2⟩
 |.bl b1,.str x2,hn,rx,ry=>
  obtain rfl:u=Pz b1:=by unfold ReV at rx;exact rx
  obtain⟨k2,rfl⟩:∃k,v=P8 x2 k:=by unfold ReV at ry;exact ry
  exact⟨EqAt.bool_str b1 x2 k2,RcAt.bool_str b1 x2 k2,RcNeAt.bool_str b1 x2 k2⟩
 |.bl b1,.tup l2,hn,rx,ry=>
  obtain rfl:u=Pz b1:=by unfold ReV at rx;exact rx
  unfold ReV at ry;obtain⟨a2,us2,rfl,h2,q2⟩:=ry;exact⟨EqAt.bool_tuple b1 h2 hu,RcAt.bool_tuple b1 h2 hu,RcNeAt.bool_tuple b1 h2 hu⟩
 |.bl b1,.lst l2,hn,rx,ry=>
  obtain rfl:u=Pz b1:=by unfold ReV at rx;exact rx
  unfold ReV at ry;obtain⟨a2,us2,rfl,h2,q2⟩:=ry;exact⟨EqAt.bool_list b1 h2 hu,RcAt.bool_list b1 h2 hu,RcNeAt.bool_list b1 h2 hu⟩
 |.bl b1,.scr l2,hn,rx,ry=>
  obtain rfl:u=Pz b1:=by unfold ReV at rx;exact rx
  unfold ReV at ry;obtain⟨a2,us2,rfl,h2,q2⟩:=ry;exact⟨EqAt.bool_list b1 h2 hu,RcAt.bool_list b1 h2 hu,RcNeAt.bool_list b1 h2 hu⟩
 |.int i1,.non,hn,rx,ry=>
  obtain⟨k1,rfl⟩:∃k,u=PV i1 k:=by unfold ReV at rx;exact rx
  obtain rfl:v=O7:=by unfold ReV at ry;exact ry
  exact⟨EqAt.int_none i1 k1,RcAt.int_none i1 k1,RcNeAt.int_none i1 k1⟩
 |.int i1,.bl b2,hn,rx,ry=>
  obtain⟨k1,rfl⟩:∃k,u=PV i1 k:=by unfold ReV at rx;exact rx
  obtain rfl:v=Pz b2:=by unfold ReV at ry;exact ry
  exact⟨EqAt.int_bool i1 k1 b2,RcAt.int_bool i1 k1 b2,RcNeAt.int_bool i1 k1 b2⟩
 |.int i1,.int i2,hn,rx,ry=>
  obtain⟨k1,rfl⟩:∃k,u=PV i1 k:=by unfold ReV at rx;exact rx
  obtain⟨k2,rfl⟩:∃k,v=PV i2 k:=by unfold ReV at ry;exact ry
  exact⟨EqAt.int_int i1 k1 i2 k2,RcAt.int_int i1 k1 i2 k2,RcNeAt.int_int i1 k1 i2 k2⟩
 |.int i1,.str x2,hn,rx,ry=>
  obtain⟨k1,rfl⟩:∃k,u=PV i1 k:=by unfold ReV at rx;exact rx
  obtain⟨k2,rfl⟩:∃k,v=P8 x2 k:=by unfold ReV at ry;exact ry
  exact⟨EqAt.int_str i1 k1 x2 k2,RcAt.int_str i1 k1 x2 k2,RcNeAt.int_str i1 k1 x2 k2⟩
 |.int i1,.tup l2,hn,rx,ry=>
  obtain⟨k1,rfl⟩:∃k,u=PV i1 k:=by unfold ReV at rx;exact rx
  unfold ReV at ry;obtain⟨a2,us2,rfl,h2,q2⟩:=ry;exact⟨EqAt.int_tuple i1 k1 h2 hu,RcAt.int_tuple i1 k1 h2 hu,RcNeAt.int_tuple i1 k1 h2 hu⟩
 |.int i1,.lst l2,hn,rx,ry=>
  obtain⟨k1,rfl⟩:∃k,u=PV i1 k:=by unfold ReV at rx;exact rx
  unfold ReV at ry;obtain⟨a2,us2,rfl,h2,q2⟩:=ry;exact⟨EqAt.int_list i1 k1 h2 hu,RcAt.int_list i1 k1 h2 hu,RcNeAt.int_list i1 k1 h2 hu⟩
 |.int i1,.scr l2,hn,rx,ry=>
  obtain⟨k1,rfl⟩:∃k,u=PV i1 k:=by unfold ReV at rx;exact rx
  unfold ReV at ry;obtain⟨a2,us2,rfl,h2,q2⟩:=ry;exact⟨EqAt.int_list i1 k1 h2 hu,RcAt.int_list i1 k1 h2 hu,RcNeAt.int_list i1 k1 h2 hu⟩
 |.str x1,.non,hn,rx,ry=>
  obtain⟨k1,rfl⟩:∃k,u=P8 x1 k:=by unfold ReV at rx;exact rx
  obtain rfl:v=O7:=by unfold ReV at ry;exact ry
  exact⟨EqAt.str_none x1 k1,RcAt.str_none x1 k1,RcNeAt.str_none x1 k1⟩
 |.str x1,.bl b2,hn,rx,ry=>
  obtain⟨k1,rfl⟩:∃k,u=P8 x1 k:=by unfold ReV at rx;exact rx
  obtain rfl:v=Pz b2:=by unfold ReV at ry;exact ry
  exact⟨EqAt.str_bool x1 k1 b2,RcAt.str_bool x1 k1 b2,RcNeAt.str_bool x1 k1 b2⟩
 |.str x1,.int i2,hn,rx,ry=>
  obtain⟨k1,rfl⟩:∃k,u=P8 x1 k:=by unfold ReV at rx;exact rx
  obtain⟨k2,rfl⟩:∃k,v=PV i2 k:=by unfold ReV at ry;exact ry
  exact⟨EqAt.str_int x1 k1 i2 k2,RcAt.str_int x1 k1 i2 k2,RcNeAt.str_int x1 k1 i2 k2⟩
 |.str x1,.str x2,hn,rx,ry=>
  obtain⟨k1,rfl⟩:∃k,u=P8 x1 k:=by unfold ReV at rx;exact rx
  obtain⟨k2,rfl⟩:∃k,v=P8 x2 k:=by unfold ReV at ry;exact ry
  exact⟨EqAt.str_str x1 k1 x2 k2,RcAt.str_str x1 k1 x2 k2,RcNeAt.str_str x1 k1 x2 k2⟩
 |.str x1,.tup l2,hn,rx,ry=>
  obtain⟨k1,rfl⟩:∃k,u=P8 x1 k:=by unfold ReV at rx;exact rx
  unfold ReV at ry;obtain⟨a2,us2,rfl,h2,q2⟩:=ry;exact⟨EqAt.str_tuple x1 k1 h2 hu,RcAt.str_tuple x1 k1 h2 hu,RcNeAt.str_tuple x1 k1 h2 hu⟩
 |.str x1,.lst l2,hn,rx,ry=>
  obtain⟨k1,rfl⟩:∃k,u=P8 x1 k:=by unfold ReV at rx;exact rx
  unfold ReV at ry;obtain⟨a2,us2,rfl,h2,q2⟩:=ry;exact⟨EqAt.str_list x1 k1 h2 hu,RcAt.str_list x1 k1 h2 hu,RcNeAt.str_list x1 k1 h2 hu⟩
 |.str x1,.scr l2,hn,rx,ry=>
  obtain⟨k1,rfl⟩:∃k,u=P8 x1 k:=by unfold ReV at rx;exact rx
  unfold ReV at ry;obtain⟨a2,us2,rfl,h2,q2⟩:=ry;exact⟨EqAt.str_list x1 k1 h2 hu,RcAt.str_list x1 k1 h2 hu,RcNeAt.str_list x1 k1 h2 hu⟩
 |.tup l1,.non,hn,rx,ry=>
  unfold ReV at rx;obtain⟨a1,us1,rfl,h1,q1⟩:=rx;obtain rfl:v=O7:=by unfold ReV at ry;exact ry
  exact⟨EqAt.tuple_none h1 hu,RcAt.tuple_none h1 hu,RcNeAt.tuple_none h1 hu⟩
 |.tup l1,.bl b2,hn,rx,ry=>
  unfold ReV at rx;obtain⟨a1,us1,rfl,h1,q1⟩:=rx;obtain rfl:v=Pz b2:=by unfold ReV at ry;exact ry
  exact⟨EqAt.tuple_bool b2 h1 hu,RcAt.tuple_bool b2 h1 hu,RcNeAt.tuple_bool b2 h1 hu⟩
 |.tup l1,.int i2,hn,rx,ry=>
  unfold ReV at rx;obtain⟨a1,us1,rfl,h1,q1⟩:=rx;obtain⟨k2,rfl⟩:∃k,v=PV i2 k:=by unfold ReV at ry;exact ry
  exact⟨EqAt.tuple_int i2 k2 h1 hu,RcAt.tuple_int i2 k2 h1 hu,RcNeAt.tuple_int i2 k2 h1 hu⟩
 |.tup l1,.str x2,hn,rx,ry=>
  unfold ReV at rx;obtain⟨a1,us1,rfl,h1,q1⟩:=rx;obtain⟨k2,rfl⟩:∃k,v=P8 x2 k:=by unfold ReV at ry;exact ry
  exact⟨EqAt.tuple_str x2 k2 h1 hu,RcAt.tuple_str x2 k2 h1 hu,RcNeAt.tuple_str x2 k2 h1 hu⟩
 |.tup _,.tup _,hn,_,_=>exact hn.elim
 |.tup l1,.lst l2,hn,rx,ry=>
  unfold ReV at rx;obtain⟨a1,us1,rfl,h1,q1⟩:=rx;unfold ReV at ry;obtain⟨a2,us2,rfl,h2,q2⟩:=ry;exact⟨EqAt.tuple_list h1 h2 hu,RcAt.tuple_list h1 h2 hu,RcNeAt.tuple_list h1 h2 hu⟩
 |.tup l1,.scr l2,hn,rx,ry=>
  unfold ReV at rx;obtain⟨a1,us1,rfl,h1,q1⟩:=rx;unfold ReV at ry;obtain⟨a2,us2,rfl,h2,q2⟩:=ry;exact⟨EqAt.tuple_list h1 h2 hu,RcAt.tuple_list h1 h2 hu,RcNeAt.tuple_list h1 h2 hu⟩
 |.lst l1,.non,hn,rx,ry=>
  unfold ReV at rx;obtain⟨a1,us1,rfl,h1,q1⟩:=rx;obtain rfl:v=O7:=by unfold ReV at ry;exact ry
  exact⟨EqAt.list_none h1 hu,RcAt.list_none h1 hu,RcNeAt.list_none h1 hu⟩
 |.lst l1,.bl b2,hn,rx,ry=>
  unfold ReV at rx;obtain⟨a1,us1,rfl,h1,q1⟩:=rx;obtain rfl:v=Pz b2:=by unfold ReV at ry;exact ry
  exact⟨EqAt.list_bool b2 h1 hu,RcAt.list_bool b2 h1 hu,RcNeAt.list_bool b2 h1 hu⟩
 |.lst l1,.int i2,hn,rx,ry=>
  unfold ReV at rx;obtain⟨a1,us1,rfl,h1,q1⟩:=rx;obtain⟨k2,rfl⟩:∃k,v=PV i2 k:=by unfold ReV at ry;exact ry
  exact⟨EqAt.list_int i2 k2 h1 hu,RcAt.list_int i2 k2 h1 hu,RcNeAt.list_int i2 k2 h1 hu⟩
 |.lst l1,.str x2,hn,rx,ry=>
  unfold ReV at rx;obtain⟨a1,us1,rfl,h1,q1⟩:=rx;obtain⟨k2,rfl⟩:∃k,v=P8 x2 k:=by unfold ReV at ry;exact ry
  exact⟨EqAt.list_str x2 k2 h1 hu,RcAt.list_str x2 k2 h1 hu,RcNeAt.list_str x2 k2 h1 hu⟩
 |.lst l1,.tup l2,hn,rx,ry=>
  unfold ReV at rx;obtain⟨a1,us1,rfl,h1,q1⟩:=rx;unfold ReV at ry;obtain⟨a2,us2,rfl,h2,q2⟩:=ry;exact⟨EqAt.list_tuple h1 h2 hu,RcAt.list_tuple h1 h2 hu,RcNeAt.list_tuple h1 h2 hu⟩
 |.lst _,.lst _,hn,_,_=>exact hn.elim
 |.lst _,.scr _,hn,_,_=>exact hn.elim
 |.scr l1,.non,hn,rx,ry=>
  unfold ReV at rx;obtain⟨a1,us1,rfl,h1,q1⟩:=rx;obtain rfl:v=O7:=by unfold ReV at ry;exact ry
  exact⟨EqAt.list_none h1 hu,RcAt.list_none h1 hu,RcNeAt.list_none h1 hu⟩
 |.scr l1,.bl b2,hn,rx,ry=>
  unfold ReV at rx;obtain⟨a1,us1,rfl,h1,q1⟩:=rx;obtain rfl:v=Pz b2:=by unfold ReV at ry;exact ry
  exact⟨EqAt.list_bool b2 h1 hu,RcAt.list_bool b2 h1 hu,RcNeAt.list_bool b2 h1 hu⟩
 |.scr l1,.int i2,hn,rx,ry=>
  unfold ReV at rx;obtain⟨a1,us1,rfl,h1,q1⟩:=rx;obtain⟨k2,rfl⟩:∃k,v=PV i2 k:=by unfold ReV at ry;exact ry
  exact⟨EqAt.list_int i2 k2 h1 hu,RcAt.list_int i2 k2 h1 hu,RcNeAt.list_int i2 k2 h1 hu⟩
 |.scr l1,.str x2,hn,rx,ry=>
  unfold ReV at rx;obtain⟨a1,us1,rfl,h1,q1⟩:=rx;obtain⟨k2,rfl⟩:∃k,v=P8 x2 k:=by unfold ReV at ry;exact ry
  exact⟨EqAt.list_str x2 k2 h1 hu,RcAt.list_str x2 k2 h1 hu,RcNeAt.list_str x2 k2 h1 hu⟩
 |.scr l1,.tup l2,hn,rx,ry=>
  unfold ReV at rx;obtain⟨a1,us1,rfl,h1,q1⟩:=rx;unfold ReV at ry;obtain⟨a2,us2,rfl,h2,q2⟩:=ry;exact⟨EqAt.list_tuple h1 h2 hu,RcAt.list_tuple h1 h2 hu,RcNeAt.list_tuple h1 h2 hu⟩
 |.scr _,.lst _,hn,_,_=>exact hn.elim
 |.scr _,.scr _,hn,_,_=>exact hn.elim
def Gq:∀(n:Nat)(A:OY)(s:Ob)(x y:T)(u v:N9),(x.dep<=n\/y.dep<=n)->A.units+n<cLine->ReV s x u->ReV s y v->EqAt A s u v (aW x y)/\RcAt A s u v (aW x y)/\RcNeAt A s u v (!aW x y):=by
 intro n;induction n with
 |zero=>
  intro A s x y u v hd hu rx ry;exact vX A s x y u v (by cases x <;> cases y <;> simp_all [jO,T.dep]) (by omega) rx ry
 |succ n ih=>
  intro A s x y u v hd hu rx ry;have hin:A.in1.units+n<cLine:=by show A.units+1+n<cLine;omega
  have items:∀(l m:List T)(us vs:List N9),(deps l<=n\/deps m<=n)->ReVs s l us->ReVs s m vs->∃e:Nat->Bool,(∀j (h1:j<us.toArray.size) (h2:j<vs.toArray.size),EqAt A.in1 s us.toArray[j] vs.toArray[j] (e j)) ∧
    (∀(j:Nat) t u,l[j]?=ZA t->m[j]?=ZA u->e j=aW t u):=λl m us vs hd r1 r2=>by
   refine⟨λj=>aW (l.getD j .non) (m.getD j .non),λj h1 h2=>?_,λj t u e1 e2=>by simp[List.getD,e1,e2]⟩;have l1:=r1.length;have l2:=r2.length;have h1':j<l.length:=by rw[l1];simpa using h1
   have h2':j<m.length:=by rw[l2];simpa using h2
   have e1:l[j]?=ZA l[j]:=by simp
   have e2:m[j]?=ZA m[j]:=by simp
   obtain⟨u1,z1,w1⟩:=r1.get e1;obtain⟨u2,z2,w2⟩:=r2.get e2;have q1:us.toArray[j]=u1:=by
    have:us[j]?=ZA us.toArray[j]:=by simp
    rw[z1]at this;exact(O0 this).symm
   have q2:vs.toArray[j]=u2:=by
    have:vs[j]?=ZA vs.toArray[j]:=by simp
    rw[z2]at this;exact(O0 this).symm
   rw[q1,q2];have g1:l.getD j .non=l[j]:=by simp[List.getD,e1]
   have g2:m.getD j .non=m[j]:=by simp[List.getD,e2]
   show EqAt A.in1 s u1 u2 (aW (l.getD j .non) (m.getD j .non));rw[g1,g2];refine(ih A.in1 s l[j] m[j] u1 u2 ?_ hin w1 w2).1;rcases hd with hd|hd
   .exact .inl (OV (jC e1) hd)
   .exact .inr (OV (jC e2) hd)
  have lists:∀(l m:List T)(a b:ZE)(us vs:List N9),(deps l<=n\/deps m<=n)->ReVs s l us->ReVs s m vs->s.heap.IsList a us.toArray->s.heap.IsList b vs.toArray ->
    EqAt A s (.ref a) (.ref b) (beqTs l m)/\RcAt A s (.ref a) (.ref b) (beqTs l m)/\RcNeAt A s (.ref a) (.ref b) (!beqTs l m):=λl m a b us vs hd r1 r2 h1 h2=>by
   have l1:=r1.length;have l2:=r2.length;have key:RcAt A s (.ref a) (.ref b) (beqTs l m)/\RcNeAt A s (.ref a) (.ref b) (!beqTs l m):=by
    by_cases hl:l.length=m.length
    .obtain⟨e,he,hb⟩:=items l m us vs hd r1 r2;have q:=mG l m e hb;have q2:beqTs l m=(PJ us.toArray.size).all e:=by rw[q,hl,VP];simp[l2.symm,hl.symm,l1]
     rw[q2];have hsz:us.toArray.size=vs.toArray.size:=by simp;omega
     exact⟨RcAt.lists h1 h2 hsz (by omega) he,RcNeAt.lists h1 h2 hsz (by omega) he⟩
    .rw[rV hl];have hsz:(us.toArray.size != vs.toArray.size)=ZC:=by simp;omega
     exact⟨RcAt.lists_lengths h1 h2 hsz (by omega),RcNeAt.lists_lengths h1 h2 hsz (by omega)⟩
   refine⟨?_,key⟩;by_cases hab:a=b
   .subst hab;have:=c6 h1 h2;subst this;rw[ReVs.refl r1 r2];exact EqAt.same _
   .exact EqAt.of_refs hab key.1
  cases x with
  |tup l=>
   cases y with
   |tup m=>
    unfold ReV at rx ry;obtain⟨a,us,rfl,h1,r1⟩:=rx;obtain⟨b,vs,rfl,h2,r2⟩:=ry;have hd':deps l<=n\/deps m<=n:=by simp only[T.dep]at hd;omega
    have l1:=r1.length;have l2:=r2.length;obtain⟨e,he,hb⟩:=items l m us vs hd' r1 r2;have q:=mG l m e hb;have q2:beqTs l m=((PJ (min us.toArray.size vs.toArray.size)).all e&&us.toArray.size == vs.toArray.size):=by rw[q];simp[l1,l2]
    have key:RcAt A s (.ref a) (.ref b) (beqTs l m)/\RcNeAt A s (.ref a) (.ref b) (!beqTs l m):=by rw[q2];exact⟨RcAt.tuples h1 h2 (by omega) he,RcNeAt.tuples h1 h2 (by omega) he⟩
    unfold aW;refine⟨?_,key⟩;by_cases hab:a=b
    .subst hab;have:=jy h1 h2;subst this;rw[ReVs.refl r1 r2];exact EqAt.same _
    .exact EqAt.of_refs hab key.1
   |_=>exact vX A s _ _ u v (by simp[jO]) (by omega) rx ry
  |lst l=>
   cases y with
   |lst m=>
    unfold ReV at rx ry;obtain⟨a,us,rfl,h1,r1⟩:=rx;obtain⟨b,vs,rfl,h2,r2⟩:=ry;unfold aW;exact lists l m a b us vs (by simp only[T.dep]at hd;omega) r1 r2 h1 h2
   |scr m=>
    unfold ReV at rx ry;obtain⟨a,us,rfl,h1,r1⟩:=rx;obtain⟨b,vs,rfl,h2,r2⟩:=ry;unfold aW;exact lists l (m.map T.int) a b us vs (by rw[fT];omega) r1 (dW r2) h1 h2
   |_=>exact vX A s _ _ u v (by simp[jO]) (by omega) rx ry
  |scr l=>
   cases y with
   |lst m=>
    unfold ReV at rx ry;obtain⟨a,us,rfl,h1,r1⟩:=rx;obtain⟨b,vs,rfl,h2,r2⟩:=ry;unfold aW;rw[pX];exact lists (l.map T.int) m a b us vs (by rw[fT];omega) (dW r1) r2 h1 h2
   |scr m=>
    unfold ReV at rx ry;obtain⟨a,us,rfl,h1,r1⟩:=rx;obtain⟨b,vs,rfl,h2,r2⟩:=ry;unfold aW;rw[sP];exact lists (l.map T.int) (m.map T.int) a b us vs (by rw[fT];omega) (dW r1) (dW r2) h1 h2
   |_=>exact vX A s _ _ u v (by simp[jO]) (by omega) rx ry
  |_=>exact vX A s _ _ u v (by simp[jO]) (by omega) rx ry
mutual
def T.nf:T->T
 |.tup l=>.tup (nfs l)
 |.lst l=>.lst (nfs l)
 |.scr l=>.lst (l.map .int)
 |.non=>.non
 |.bl b=>.bl b
 |.int b=>.int b
 |.str b=>.str b
 |.dct a b=>.dct a b
 |.ob a b c=>.ob a b c
def nfs:List T->List T
 |[] =>[]
 |t::l=>t.nf::nfs l
end
theorem vq:∀(l:List Int),nfs (l.map T.int)=l.map T.int
 |[] =>rfl
 |i::l=>by rw[Of,nfs,vq l];simp[T.nf]
mutual
theorem lQ:∀(t x:T),aW t.nf x=aW t x
 |.non,x=>by simp[T.nf]
 |.bl _,x=>by simp[T.nf]
 |.int _,x=>by simp[T.nf]
 |.str _,x=>by simp[T.nf]
 |.tup l,x=>by cases x <;> simp[T.nf,aW,beqTs_nf l]
 |.lst l,x=>by cases x <;> simp[T.nf,aW,beqTs_nf l]
 |.scr l,x=>by cases x <;> simp[T.nf,aW,pX,sP]
 |.dct _ _,x=>by simp[T.nf]
 |.ob _ _ _,x=>by simp[T.nf]
theorem beqTs_nf:∀(l m:List T),beqTs (nfs l) m=beqTs l m
 |[],m=>by simp[nfs]
 |t::l,m=>by cases m <;> simp[nfs,beqTs,lQ t,beqTs_nf l]
end
def JZ{t:T}(r:ReV s t (.int i k)):t.nf=.int i:=by
 cases t with
 |non=>unfold ReV at r;cases r
 |bl b=>unfold ReV at r;cases r
 |int j=>unfold ReV at r;obtain⟨t,e⟩:=r;injection e with e1 _;subst e1;rfl
 |str x=>unfold ReV at r;obtain⟨t,e⟩:=r;cases e
 |tup l=>unfold ReV at r;obtain⟨a,its,e,_⟩:=r;cases e
 |lst l=>unfold ReV at r;obtain⟨a,its,e,_⟩:=r;cases e
 |scr l=>unfold ReV at r;obtain⟨a,its,e,_⟩:=r;cases e
 |dct _ _=>unfold ReV at r;exact r.elim
 |ob _ _ _=>unfold ReV at r;exact r.elim
theorem zE:∀{l:List T}{us:List N9}{ns:List Int},ReVs s l us->QB us ns->nfs l=ns.map T.int
 |[],us,ns,r,h=>by cases ReVs.Da.mp r;cases h;rfl
 |t::l,us,ns,r,h=>by
  obtain⟨u,ws,rfl,p,q⟩:=ReVs.me.mp r;cases h with
  |cons a b hh=>rw[nfs,JZ p,zE q hh];rfl
mutual
theorem ReV.nf{s:Ob}:∀{t u:T}{v:N9},ReV s t v->ReV s u v->t.nf=u.nf
 |.non,u,v,r,q=>by unfold ReV at r;subst r;cases u <;> (unfold ReV at q) <;> first|rfl| (cases q;done)| (obtain⟨_,e⟩:=q;cases e;done)| (obtain⟨_,_,e,_⟩:=q;cases e;done)
 |.bl b,u,v,r,q=>by unfold ReV at r;subst r;cases u <;> (unfold ReV at q) <;> first| (cases q;done)| (cases q;rfl)| (obtain⟨_,e⟩:=q;cases e;done)| (obtain⟨_,_,e,_⟩:=q;cases e;done)
 |.int b,u,v,r,q=>by unfold ReV at r;obtain⟨k,rfl⟩:=r;cases u <;> (unfold ReV at q) <;> first| (cases q;done)| (obtain⟨_,e⟩:=q;cases e;done)| (obtain⟨_,e⟩:=q;cases e;rfl)| (obtain⟨_,_,e,_⟩:=q;cases e;done)
 |.str b,u,v,r,q=>by unfold ReV at r;obtain⟨k,rfl⟩:=r;cases u <;> (unfold ReV at q) <;> first| (cases q;done)| (obtain⟨_,e⟩:=q;cases e;done)| (obtain⟨_,e⟩:=q;cases e;rfl)| (obtain⟨_,_,e,_⟩:=q;cases e;done)
 |.tup l,u,v,r,q=>by
  unfold ReV at r;obtain⟨a,its,rfl,h1,h2⟩:=r;cases u with
  |non=>unfold ReV at q;cases q
  |dct _ _=>unfold ReV at q;exact q.elim
  |ob _ _ _=>unfold ReV at q;exact q.elim
  |bl _=>unfold ReV at q;cases q
  |int _=>unfold ReV at q;obtain⟨_,e⟩:=q;cases e
  |str _=>unfold ReV at q;obtain⟨_,e⟩:=q;cases e
  |tup m=>
   unfold ReV at q;obtain⟨a',its',e,h1',h2'⟩:=q;injection e with e;subst e;have:=jy h1 h1';subst this;unfold T.nf;rw[ReVs.nf h2 h2']
  |lst m=>unfold ReV at q;obtain⟨a',its',e,h1',h2'⟩:=q;injection e with e;subst e;exact absurd rfl (ne_of_list_tuple h1' h1)
  |scr m=>unfold ReV at q;obtain⟨a',its',e,h1',h2'⟩:=q;injection e with e;subst e;exact absurd rfl (ne_of_list_tuple h1' h1)
 |.lst l,u,v,r,q=>by
  unfold ReV at r;obtain⟨a,its,rfl,h1,h2⟩:=r;cases u with
  |non=>unfold ReV at q;cases q
  |dct _ _=>unfold ReV at q;exact q.elim
  |ob _ _ _=>unfold ReV at q;exact q.elim
  |bl _=>unfold ReV at q;cases q
  |int _=>unfold ReV at q;obtain⟨_,e⟩:=q;cases e
  |str _=>unfold ReV at q;obtain⟨_,e⟩:=q;cases e
  |lst m=>
   unfold ReV at q;obtain⟨a',its',e,h1',h2'⟩:=q;injection e with e;subst e;have:=c6 h1 h1';subst this;unfold T.nf;rw[ReVs.nf h2 h2']
  |tup m=>unfold ReV at q;obtain⟨a',its',e,h1',h2'⟩:=q;injection e with e;subst e;exact absurd rfl (ne_of_list_tuple h1 h1')
  |scr m=>
   unfold ReV at q;obtain⟨a',its',e,h1',h2'⟩:=q;injection e with e;subst e;have:=c6 h1 h1';subst this;unfold T.nf;rw[ReVs.nf h2 (dW h2'),vq]
 |.scr l,u,v,r,q=>by
  unfold ReV at r;obtain⟨a,its,rfl,h1,h2⟩:=r;cases u with
  |non=>unfold ReV at q;cases q
  |dct _ _=>unfold ReV at q;exact q.elim
  |ob _ _ _=>unfold ReV at q;exact q.elim
  |bl _=>unfold ReV at q;cases q
  |int _=>unfold ReV at q;obtain⟨_,e⟩:=q;cases e
  |str _=>unfold ReV at q;obtain⟨_,e⟩:=q;cases e
  |lst m=>
   unfold ReV at q;obtain⟨a',its',e,h1',h2'⟩:=q;injection e with e;subst e;have:=c6 h1 h1';subst this;have z:=zE h2' h2;unfold T.nf;rw[z]
  |tup m=>unfold ReV at q;obtain⟨a',its',e,h1',h2'⟩:=q;injection e with e;subst e;exact absurd rfl (ne_of_list_tuple h1 h1')
  |scr m=>
   unfold ReV at q;obtain⟨a',its',e,h1',h2'⟩:=q;injection e with e;subst e;have:=c6 h1 h1';subst this;rw[mT h2 h2']
 |.dct _ _,u,v,r,q=>by unfold ReV at r;exact r.elim
 |.ob _ _ _,u,v,r,q=>by unfold ReV at r;exact r.elim
theorem ReVs.nf{s:Ob}:∀{l m:List T}{us:List N9},ReVs s l us->ReVs s m us->nfs l=nfs m
 |[],m,us,r,q=>by
  cases ReVs.Da.mp r;cases m with
  |nil=>rfl
  |cons _ _=>obtain⟨_,_,e,_⟩:=ReVs.me.mp q;cases e
 |t::l,m,us,r,q=>by
  obtain⟨v,ws,rfl,p,z⟩:=ReVs.me.mp r;cases m with
  |nil=>cases ReVs.Da.mp q
  |cons u m=>
   obtain⟨v',ws',e,p',z'⟩:=ReVs.me.mp q;injection e with e1 e2;subst e1 e2;rw[nfs,nfs,ReV.nf p p',ReVs.nf z z']
end
variable{x y:T}
section
variable {a b c:ZG}{fa fb fc:W5}
noncomputable def gJ(x y:T):Bool:=(decide (x.dep<=60)||decide (y.dep<=60))&&(x.nd&&y.nd)
noncomputable def j6(x y:T):Rs T:=if gJ x y=ZC then .ok (.bl (aW x y))else .bad
noncomputable def wG(x y:T):Rs T:=if gJ x y=ZC then .ok (.bl (!aW x y))else .bad
def ib(h:x.dep<=60)(hx:x.nd=ZC)(hy:y.nd=ZC):gJ x y=ZC:=by unfold gJ;rw[decide_eq_true h,hx,hy];rfl
def Ds(h:y.dep<=60)(hx:x.nd=ZC)(hy:y.nd=ZC):gJ x y=ZC:=by unfold gJ;rw[decide_eq_true h,hx,hy,VQ];rfl
def j4(h:gJ x y=ZC):x.nd=ZC/\y.nd=ZC:=by unfold gJ at h;exact Po.mp (Po.mp h).2
def rC(h:gJ x y=ZC):x.dep<=60\/y.dep<=60:=by
 unfold gJ at h;replace h:=(Po.mp h).1;rcases Bool.or_eq_true_iff.mp h with h|h
 .exact .inl (of_decide_eq_true h)
 .exact .inr (of_decide_eq_true h)
def jk(hu:X.A.units+60<cLine):OpT X (Pe .Eq) j6:=by
 intro kt s σ H O x y vx vy ux uy Q I hf rx ry r1 r2 hp;unfold j6 at hp;split at hp
 .rename_i h;have z:=Gq 60 X.A s x y ux uy (rC h) hu (Rep.val I (j4 h).1 rx r1) (Rep.val I (j4 h).2 ry r2);exact z.2.1 _ _ _ _ ⟨.bl _,H,I,rfl,hp H (Same.refl H) _ (Rep.bl_ _)⟩
 .exact hp.elim
def Ca(hu:X.A.units+60<cLine):OpT X (Pe .NotEq) wG:=by
 intro kt s σ H O x y vx vy ux uy Q I hf rx ry r1 r2 hp;unfold wG at hp;split at hp
 .rename_i h;have z:=Gq 60 X.A s x y ux uy (rC h) hu (Rep.val I (j4 h).1 rx r1) (Rep.val I (j4 h).2 ry r2);exact z.2.2 _ _ _ _ ⟨.bl _,H,I,rfl,hp H (Same.refl H) _ (Rep.bl_ _)⟩
 .exact hp.elim
noncomputable def T.items:T->Option (List T)
 |.tup l=>ZA l
 |.lst l=>ZA l
 |.scr l=>ZA (l.map T.int)
 |_=>ZB
noncomputable def eV(x:T)(l:List T):Bool:=l.any λy=>aW y x
noncomputable def Hu(x y:T):Rs T:=match y.items with
 |some l=>if (x.dep<=60\/deps l<=60)/\x.nd=ZC/\y.nd=ZC then .ok (.bl (eV x l))else .bad
 |none=>.bad
noncomputable def fH(x y:T):Rs T:=match y.items with
 |some l=>if (x.dep<=60\/deps l<=60)/\x.nd=ZC/\y.nd=ZC then .ok (.bl (!eV x l))else .bad
 |none=>.bad
def zd(rx:ReV s x ux)(hu:A.units+60<cLine)(hd:x.dep<=60\/deps l<=60)(r:ReVs s l us):
  ∃e:N9->Bool,(∀y∈us,EqAt A s y ux (e y))/\us.any e=eV x l:=by
 classical
 have ex:∀y∈us,∃t∈l,ReV s t y:=λy hy=>by
  obtain⟨i,hi,rfl⟩:=Qs hy;have hl:=r.length;have e1:l[i]?=ZA l[i]:=by simp
  obtain⟨u,q1,q2⟩:=r.get e1;have:us[i]?=ZA us[i]:=by simp
  rw[this]at q1;cases q1;exact⟨l[i],Pp _,q2⟩
 let e:N9->Bool:=λy=>decide (∃t∈l,ReV s t y/\aW t x=ZC)
 have dep:∀t∈l,t.dep<=60\/x.dep<=60:=λt ht=>by
  rcases hd with h|h
  .exact .inr h
  .obtain⟨i,hi,rfl⟩:=Qs ht;exact .inl (OV (jC (i:=i) (by simp)) h)
 have uniq:∀y t t',ReV s t y->ReV s t' y->aW t x=aW t' x:=λy t t' z z'=>by rw[<-lQ t,<-lQ t',ReV.nf z z']
 have agree:∀y t,t∈l->ReV s t y->e y=aW t x:=λy t h z=>by
  show decide (∃t∈l,ReV s t y/\aW t x=ZC)=aW t x;cases q:aW t x with
  |true=>exact decide_eq_true ⟨t,h,z,q⟩
  |false=>
   refine decide_eq_false ?_;rintro ⟨t',h',z',q'⟩;rw[<-uniq y t t' z z',q]at q';cases q'
 refine⟨e,λy hy=>?_,?_⟩
 .obtain⟨t,h,z⟩:=ex y hy;rw[agree y t h z];exact(Gq 60 A s t x y ux (dep t h) hu z rx).1
 .have go:∀(l':List T)(us':List N9),(∀t∈l',t∈l)->ReVs s l' us'->us'.any e=l'.any λy=>aW y x:=by
   intro l';induction l' with
   |nil=>intro us' _ r';rw[ReVs.Da.mp r'];rfl
   |cons t l' ih=>
    intro us' sub r';obtain⟨u,ws,rfl,p,q⟩:=ReVs.me.mp r';rw[Rb,Rb,ih ws (λt ht=>sub t (N8 _ ht)) q,agree u t (sub t Oe) p]
  exact go l us (λ_ h=>h) r
def rA{u:N9}(r:ReV s y u)(h:y.items=ZA l):∃a us,u=.ref a/\ReVs s l us/\(s.heap.IsTuple a us.toArray\/s.heap.IsList a us.toArray):=by
 cases y with
 |tup m=>cases h;unfold ReV at r;obtain⟨a,us,e,h1,h2⟩:=r;exact⟨a,us,e,h2,.inl h1⟩
 |lst m=>cases h;unfold ReV at r;obtain⟨a,us,e,h1,h2⟩:=r;exact⟨a,us,e,h2,.inr h1⟩
 |scr m=>cases h;unfold ReV at r;obtain⟨a,us,e,h1,h2⟩:=r;exact⟨a,us,e,dW h2,.inr h1⟩
 |_=>cases h
def He(hu:X.A.units+61<cLine):OpT X (Pe .In) Hu:=by
 intro kt s σ H O x y vx vy ux uy Q I hf rx ry r1 r2 hp;unfold Hu at hp;split at hp
 .rename_i l hl;split at hp
  .rename_i hd3;obtain⟨hd,hnx,hny⟩:=hd3;obtain⟨a,us,rfl,rs,hh⟩:=rA (Rep.val I hny ry r2) hl;obtain⟨e,he,ha⟩:=zd (A:=X.A.in1) (Rep.val I hnx rx r1) (by show X.A.units+1+60<cLine;omega) hd rs;have q:=hp H (Same.refl H) _ (Rep.bl_ (eV x l));have he':∀y,y∈us.toArray->EqAt X.A.in1 s y ux (e y):=λy hy=>he y (by simpa using hy);have ha':us.toArray.any e=eV x l:=by simpa using ha
   rcases hh with hh|hh
   .exact in_tupleAt e hh he' (by rw[ha'];exact⟨.bl _,H,I,rfl,q⟩)
   .exact in_listAt e hh he' (by rw[ha'];exact⟨.bl _,H,I,rfl,q⟩)
  .exact hp.elim
 .exact hp.elim
def oU(hu:X.A.units+61<cLine):OpT X (Pe .NotIn) fH:=by
 intro kt s σ H O x y vx vy ux uy Q I hf rx ry r1 r2 hp;unfold fH at hp;split at hp
 .rename_i l hl;split at hp
  .rename_i hd3;obtain⟨hd,hnx,hny⟩:=hd3;obtain⟨a,us,rfl,rs,hh⟩:=rA (Rep.val I hny ry r2) hl;obtain⟨e,he,ha⟩:=zd (A:=X.A.in1) (Rep.val I hnx rx r1) (by show X.A.units+1+60<cLine;omega) hd rs;have q:=hp H (Same.refl H) _ (Rep.bl_ (!eV x l));have he':∀y,y∈us.toArray->EqAt X.A.in1 s y ux (e y):=λy hy=>he y (by simpa using hy);have ha':us.toArray.any e=eV x l:=by simpa using ha
   rcases hh with hh|hh
   .exact notIn_tupleAt e hh he' (by rw[ha'];exact⟨.bl _,H,I,rfl,q⟩)
   .exact notIn_listAt e hh he' (by rw[ha'];exact⟨.bl _,H,I,rfl,q⟩)
  .exact hp.elim
 .exact hp.elim
noncomputable def ch(g g':T->T->Rs T)(fa fb fc:W5)(Z:En):Rs T:=do
 let x <-fa Z
 let y <-fb Z
 let z <-g x y
 match z with
 |.bl ZC=>do
  let w <-fc Z
  g' y w
 |.bl ZD=>.ok (.bl ZD)
 |_=>.bad
def Fs{op':WJ}{g g':T->T->Rs T}(ho:OpT X (Pe op) g)(ho':OpT X (Pe op') g')(ha:cm X a fa)(hb:cm X b fb)(hc:cm X c fc)
  (hm:autoParam (lastMarks [op,op'] [b,c]=ZD) w_):cm X (.Compare a [op,op'] [b,c] pos) (ch g g' fa fb fc):=by
 intro kt s σ H Q I ⟨Z,O,E,hq⟩;have h1:=aY E hq;refine Compare_chain (bR (ha kt s σ H _ I h1) λv s1 ⟨x,H1,I1,r1,t,rt,s',E',q1⟩=>chain_link ?_) hm;have h2:=aY (f:=fb) E' q1;refine bR (hb kt s1 σ H1 _ I1 h2) λu s2 hh_=>?_;obtain⟨y,H2,I2,r2,t2,rt2,s'',E'',q2⟩:=hh_;refine bR (ho kt s2 σ H2 O t t2 x y v u (λv' H'=>∃t',Rep X.K O H' t' v'/\Same H2 H'/\Post X H' (match t' with
  |.bl ZC=>fc Z >>= λw=>g' t2 w
  |.bl ZD=>.ok (.bl ZD)
  |_=>.bad) (λt H'=>∀v,Rep X.K O H' t v->Q v H')) I2 (λp=>E''.fresh) (rt.same s'') rt2 r1 r2 (Post.mono q2.bind λt' H' s3 q v rv=>⟨t',rv,s3,q⟩)) λd s3 ⟨z,H3,I3,r3,t3,rt3,sm3,q3⟩=>?_
 have E3:=E''.same sm3;split at q3
 .cases Rep.FS.mp rt3;cases r3;refine PY (ite_tt (chain_last ?_));have h4:=aY (f:=fc) E3 q3;refine bR (hc kt s3 σ H3 _ I3 h4) λw' s4 ⟨z',H4,I4,r4,t4,rt4,s4',E4,q4⟩=>?_;exact ho' kt s4 σ H4 O t2 t4 y z' u w' Q I4 (λp=>E4.fresh) ((rt2.same sm3).same s4') rt4 r2 r4 q4
 .cases Rep.FS.mp rt3;cases r3;refine PY (ite_ff ⟨.bl ZD,H3,I3,rfl,q3 H3 (Same.refl H3) _ (Rep.bl_ ZD)⟩)
 .exact q3.elim
noncomputable def tb(f:W5)(Z:En):Rs Bool:=do
 let x <-f Z
 match x with
 |.bl k=>.ok k
 |_=>.bad
noncomputable def bt(f:W6)(Z:En):Rs T:=do
 let k <-f Z
 .ok (.bl k)
def Il{f:W5}(h:cm X e f)(he:autoParam (∀whole,isTrue e X.env whole=(do let v <-whole;standAt e.pos;holding [v] (truthy v))) t_):wq X e (tb f):=by
 intro kt s σ H Q I ⟨Z,O,E,hq⟩;refine IQ h he kt s σ H Q I ?_;obtain⟨Z1,O1,E1,h1⟩:=aY E hq;refine⟨Z1,O1,E1,Post.mono h1 λts H1 s1 q vs r=>?_⟩;obtain⟨t',r',s',E',q'⟩:=q vs r;split at q'
 .exact⟨_,Rep.FS.mp r',q' H1 (Same.refl H1)⟩
 .exact q'.elim
def Io{g:T->T->Rs T}(ho:OpT X (Pe op) g)(ha:cm X a fa)(hb:cm X b fb)(hm:autoParam (RD op b=ZD) u_):wq X (.Compare a [op] [b] pos) (tb (o2 g fa fb)):=by
 intro kt s σ H Q I ⟨Z,O,E,hq⟩;have hq':Post X H (o2 g fa fb Z) λt H'=>∀v,Rep X.K O H' t v->∃k,v=.bl k/\Q k H':=Post.mono hq.bind λt H' s' q v r=>by
  split at q
  .exact⟨_,Rep.FS.mp r,q H' (Same.refl H')⟩
  .exact q.elim
 have h1:=aY E hq';refine wpAny_isTrue_Compare1 (bR (ha kt s σ H _ I h1) λv s1 ⟨x,H1,I1,r1,t,rt,s',E',q1⟩=>?_) hm;have h2:=aY (f:=fb) E' q1;refine bR (hb kt s1 σ H1 _ I1 h2) λu s2 hh_=>?_;obtain⟨y,H2,I2,r2,t2,rt2,s'',E'',q2⟩:=hh_;refine bR (ho kt s2 σ H2 O t t2 x y v u _ I2 (λp=>E''.fresh) (rt.same s'') rt2 r1 r2 q2) λd s3 hh_=>?_;obtain⟨z,H3,I3,r3,k,e,q3⟩:=hh_;subst e;cases r3;exact PY ⟨H3,I3,q3⟩
noncomputable def kh(f g:W6)(Z:En):Rs Bool:=do
 let k <-f Z
 if k then g Z else .ok ZD
noncomputable def y8(f g:W6)(Z:En):Rs Bool:=do
 let k <-f Z
 if k then .ok ZC else g Z
noncomputable def eZ(f:W6)(Z:En):Rs Bool:=do
 let k <-f Z
 .ok (!k)
variable {f g:W6}{bK:List ZG}
abbrev HF(X:Cx)(e:ZG)(f:W6):Prop:=PW X e (Bb X f)
def E6(ha:wq X a f):HF X (.BoolOp .And [a] pos) f:=Fu ha
def Ij(ha:wq X a f):HF X (.BoolOp .Or [a] pos) f:=IM ha
def Ik(ha:wq X a f)(hb:HF X (.BoolOp .And (b::bK) pos) g):HF X (.BoolOp .And (a::b::bK) pos) (kh f g):=by
 intro wh kt s σ H Q I ⟨Z,O,E,hq⟩;refine IP ha hb wh kt s σ H Q I ?_;obtain⟨Z1,O1,E1,h1⟩:=k8 E hq;refine⟨Z1,O1,E1,Post.mono h1 λk H1 s1 q=>?_⟩;obtain⟨s',E',q'⟩:=q;cases k with
 |true=>rw[if_pos rfl];exact⟨Z,O,E',by simpa using q'⟩
 |false=>rw[if_neg OB];exact q' H1 (Same.refl H1)
def Lg(ha:wq X a f)(hb:HF X (.BoolOp .Or (b::bK) pos) g):HF X (.BoolOp .Or (a::b::bK) pos) (y8 f g):=by
 intro wh kt s σ H Q I ⟨Z,O,E,hq⟩;refine LB ha hb wh kt s σ H Q I ?_;obtain⟨Z1,O1,E1,h1⟩:=k8 E hq;refine⟨Z1,O1,E1,Post.mono h1 λk H1 s1 q=>?_⟩;obtain⟨s',E',q'⟩:=q;cases k with
 |true=>rw[if_pos rfl];exact q' H1 (Same.refl H1)
 |false=>rw[if_neg OB];exact⟨Z,O,E',by simpa using q'⟩
def qt_w(h:HF X e f):wq X e f:=h.pt
def Im(ha:wq X a f):wq X (.UnaryOp .Not a pos) (eZ f):=by intro kt s σ H Q I ⟨Z,O,E,hq⟩;refine IS ha kt s σ H Q I ?_;obtain⟨Z1,O1,E1,h1⟩:=k8 E hq;exact⟨Z1,O1,E1,Post.mono h1 λk H1 s1 ⟨s',E',q'⟩=>q' H1 (Same.refl H1)⟩
noncomputable def dD(f g:W5)(Z:En):Rs T:=do
 let x <-f Z
 match x with
 |.bl ZC=>g Z
 |.bl ZD=>.ok (.bl ZD)
 |_=>.bad
noncomputable def FN(f g:W5)(Z:En):Rs T:=do
 let x <-f Z
 match x with
 |.bl ZC=>.ok (.bl ZC)
 |.bl ZD=>g Z
 |_=>.bad
noncomputable def FW:T->Rs T
 |.bl k=>.ok (.bl (!k))
 |_=>.bad
def Lo{op}(h:cm X a fa):cm X (.BoolOp op [a] pos) fa:=B3 h
def LA(ha:cm X a fa)(hb:cm X (.BoolOp .And (b::bK) pos) fb):cm X (.BoolOp .And (a::b::bK) pos) (dD fa fb):=by
 intro kt s σ H Q I ⟨Z,O,E,hq⟩;refine B8 ha hb kt s σ H Q I ?_;obtain⟨Z1,O1,E1,h1⟩:=aY E hq;refine⟨Z1,O1,E1,Post.mono h1 λts H1 s1 q vs r=>?_⟩;obtain⟨t',r',s',E',q'⟩:=q vs r;split at q'
 .exact⟨ZC,Rep.FS.mp r',by rw[if_pos rfl];exact⟨Z,O,E',q'⟩⟩
 .exact⟨ZD,Rep.FS.mp r',by rw[if_neg OB];exact q' H1 (Same.refl H1) _ (Rep.bl_ ZD)⟩
 .exact q'.elim
def q_or(ha:cm X a fa)(hb:cm X (.BoolOp .Or (b::bK) pos) fb):cm X (.BoolOp .Or (a::b::bK) pos) (FN fa fb):=by
 intro kt s σ H Q I ⟨Z,O,E,hq⟩;refine LD ha hb kt s σ H Q I ?_;obtain⟨Z1,O1,E1,h1⟩:=aY E hq;refine⟨Z1,O1,E1,Post.mono h1 λts H1 s1 q vs r=>?_⟩;obtain⟨t',r',s',E',q'⟩:=q vs r;split at q'
 .exact⟨ZC,Rep.FS.mp r',by rw[if_pos rfl];exact q' H1 (Same.refl H1) _ (Rep.bl_ ZC)⟩
 .exact⟨ZD,Rep.FS.mp r',by rw[if_neg OB];exact⟨Z,O,E',q'⟩⟩
 .exact q'.elim
def Lp(ha:cm X a fa):cm X (.UnaryOp .Not a pos) (o1 FW fa):=by
 intro kt s σ H Q I ⟨Z,O,E,hq⟩;refine Jb ha kt s σ H Q I ?_;obtain⟨Z1,O1,E1,h1⟩:=aY E hq;refine⟨Z1,O1,E1,Post.mono h1 λts H1 s1 q vs r=>?_⟩;obtain⟨t',r',s',E',q'⟩:=q vs r;unfold FW at q';split at q'
 .exact⟨_,Rep.FS.mp r',q' H1 (Same.refl H1) _ (Rep.bl_ _)⟩
 .exact q'.elim
noncomputable def Dh(f:W6)(fa fb:W5)(Z:En):Rs T:=do
 let k <-f Z
 if k then fa Z else fb Z
def q_if(hc:wq X c f)(ha:cm X a fa)(hb:cm X b fb):cm X (.IfExp c a b pos) (Dh f fa fb):=by
 intro kt s σ H Q I ⟨Z,O,E,hq⟩;refine B5 hc ha hb kt s σ H Q I ?_;obtain⟨Z1,O1,E1,h1⟩:=k8 E hq;refine⟨Z1,O1,E1,Post.mono h1 λk H1 s1 q=>?_⟩;obtain⟨s',E',q'⟩:=q;cases k with
 |true=>rw[if_pos rfl];exact⟨Z,O,E',by simpa using q'⟩
 |false=>rw[if_neg OB];exact⟨Z,O,E',by simpa using q'⟩
end
end Tr
namespace HT
open PySem PyProof.Rows
def ki{t:ZE}{items:Array N9}{Q:Bool->Ob->Prop}(ht:WE s.heap t items)(h:Q ZC s):ZJ (ZK prog w) A (S5 (.ref t)) Q E s:=by unfold S5;refine Od (Su ht.typeIs (Ou ?_));exact h
def getItem_tuple_whole{t sl:ZE}{items:Array N9}(ht:WE s.heap t items)(hs:s.heap.IsSliceOf sl vl vu .none)(pl:Vg vl lo)(pu:Vg vu hi)
  (hw:sIx items.size 0 lo=0/\sIx items.size items.size hi=items.size) (h:Q (.ref t) s):ZJ (ZK prog w) A (getItem (.ref t) (.ref sl)) Q E s:=by
 obtain⟨os,hos,hcs,hds⟩:=id hs;have hTs:s.TypeIs (.ref sl) "slice":=⟨os,hos,hcs⟩;unfold getItem;try with_reducible refine R4 ?_
 first|refine Od (Ou ?_)|skip
 refine Od (VB ht.typeIs (by decide) ?_);refine Od (Qm (name:=Ot "__getitem__") ht.typeIs Pr
  (Rc Pr ht.typeIs UU ?_ (Vh _ _)))
 show ZJ _ _ (S4 (.ref t) >>= _) _ _ s;refine Od (Vi ht ?_);refine Od (Su hTs ?_);rw[if_pos (by decide)];refine Od (g8 hs pl pu ?_);have hyes:(((sIx items.size 0 lo:Nat):Int) == 0&&(1:Int) == 1&&(sIx items.size items.size hi - sIx items.size 0 lo) == items.size)=ZC:=by rw[hw.1,hw.2];simp
 show ZJ _ _ (if (((sIx items.size 0 lo:Nat):Int) == 0&&(1:Int) == 1&&(sIx items.size items.size hi - sIx items.size 0 lo) == items.size)=ZC then _ else _) _ _ s;rw[if_pos hyes];first
  |refine Od (ki ht ?_)
  |refine ki ht ?_
 try rw[if_pos rfl]
 first
  |exact Od (SQ (Ou ⟨_,rfl,Ou h⟩))
  |exact Od (SQ (Od (Ou (Ou ⟨_,rfl,Ou h⟩))))
end HT
variable{i:Nat}
namespace Tr
open PySem PySem.Spec PyProof.Rows L2
variable{H:Hp}{O:Ow}{X:Cx}{Z:En}{e:ZG}{es:List ZG}{fa fb fc:W5}{l:List T}{p pos:Pos}{v:V}{vs:List V}{x:Str}{σ:L2.St}
section
variable {a b c:ZG}
theorem Reps.atI{i:Int}{t:T}(r:Reps K O H l vs)(e:L2.atI l i=ZA t):∃v,L2.atI vs i=ZA v/\Rep K O H t v:=by
 unfold L2.atI at e ⊢;rw[r.length]at e;cases q:ixN vs.length i with
 |none=>rw[q]at e;cases e
 |some j=>
  rw[q]at e;obtain⟨v,e1,e2⟩:=r.get (i:=j) (t:=t) e;exact⟨v,e1,e2⟩
noncomputable def aR(x y:T):Rs T:=match x.items,y with
 |some l,.int i=>match L2.atI l i with
  |some t=>.ok t
  |none=>.bad
 |_,_=>.bad
def q_ix(ha:cm X a fa)(hb:cm X b fb)(hs:autoParam (zZ b) x_):cm X (.Subscript a b pos) (o2 aR fa fb):=by
 intro kt s σ H Q I ⟨Z,O,E,hq⟩;have h1:=aY E hq;refine Subscript_ (bR (ha kt s σ H _ I h1) λv s1 hh_=>?_);obtain⟨x,H1,I1,r1,t,rt,s',E',q1⟩:=hh_;have h2:=aY (f:=fb) E' q1;refine bR (hb kt s1 σ H1 _ I1 h2) λu s2 hh_=>?_;obtain⟨y,H2,I2,r2,t2,rt2,s'',E'',q2⟩:=hh_;have rt':=rt.same s'';unfold aR at q2;split at q2
 .rename_i l i hl;split at q2
  .rename_i z hz;have hy:=Rep.AC.mp rt2;refine JW a b kt s2 σ H2 x y v u Q I2 r1 r2 ?_ (hs _ _);cases t with
   |tup m=>
    cases hl;obtain⟨p,vs,e,n,q,rr⟩:=Rep.Fk.mp rt';obtain⟨w,ew,rw'⟩:=rr.atI hz;exact .inr (.inl ⟨p,vs,i,w,e,hy,SqT.of q,ew,q2 H2 (Same.refl H2) _ rw'⟩)
   |lst m=>
    cases hl;obtain⟨p,vs,e,n,q,rr⟩:=Rep.Do.mp rt';obtain⟨w,ew,rw'⟩:=rr.atI hz;exact .inl ⟨p,vs,i,w,e,hy,SqL.of q,ew,q2 H2 (Same.refl H2) _ rw'⟩
   |scr m=>
    cases hl;unfold Rep at rt';obtain⟨p,e,n,q⟩:=rt';obtain⟨w,ew,rw'⟩:=(Reps.ints (K:=X.K) (O:=O) (H:=H2) (ns:=m)).atI hz;exact .inl ⟨p,_,i,w,e,hy,q,ew,q2 H2 (Same.refl H2) _ rw'⟩
   |_=>cases hl
  .exact q2.elim
 .exact q2.elim
noncomputable def ie(l:List T)(lo hi:Option Int):List T:=(l.drop (HT.sIx l.length 0 lo)).take (HT.sIx l.length l.length hi - HT.sIx l.length 0 lo)
def Reps.cut(r:Reps K O H l vs)(lo hi:Option Int):Reps K O H (ie l lo hi) (we vs lo hi):=by unfold ie we;rw[r.length];exact(r.drop _).take _
def A0(h:HT.sIx l.length 0 lo=0/\HT.sIx l.length l.length hi=l.length):ie l lo hi=l:=by unfold ie;rw[h.1,h.2];simp
def sl_tup_whole:SlR X (λx lo hi H Q=>∃a xs,x=.ref a/\SqT X.K H a xs/\(HT.sIx xs.length 0 lo=0/\HT.sIx xs.length xs.length hi=xs.length)/\Q (.ref a) H):=by
 intro kt s σ H x v vl vu lo hi sl Q I rx hs pl pu h;obtain⟨a,xs,rfl,hx,hw,q⟩:=h;cases rx;obtain⟨its,r,ht,hz⟩:=I.tuple hx;have hlen:its.toArray.size=xs.length:=by rw[Ov];exact r.length.symm
 refine⟨"tuple",_,Pr.lookup,ht.typeIs,?_⟩;exact HT.getItem_tuple_whole ht hs pl pu (by rw[hlen];exact hw) ⟨.ref a,H,I,rfl,q⟩
noncomputable def pN(_:En):Rs (Option Int):=.ok ZB
noncomputable def pS(f:W5)(Z:En):Rs (Option Int):=do
 let x <-f Z
 match x with
 |.int i=>.ok (ZA i)
 |_=>.bad
def tPO(X:Cx)(f:En->Rs (Option Int)):TO:=λσ H Q=>∃Z O,EnvO X.K O H Z σ/\Post X H (f Z) λb H'=>Q b H'
abbrev MQ(X:Cx)(e:Option ZG)(f:En->Rs (Option Int)):Prop:=PO X e (tPO X f)
def Ff:MQ X ZB pN:=by intro kt s σ H Q I ⟨Z,O,E,hq⟩;exact FA kt s σ H Q I (hq H (Same.refl H))
def Fe(ha:cm X a fa):MQ X (ZA a) (pS fa):=by
 intro kt s σ H Q I ⟨Z,O,E,hq⟩;refine Fz ha kt s σ H Q I ?_;obtain⟨Z1,O1,E1,h1⟩:=aY E hq;refine⟨Z1,O1,E1,Post.mono h1 λts H1 s1 q vs r=>?_⟩;obtain⟨t',r',s',E',q'⟩:=q vs r;split at q'
 .exact⟨_,Rep.AC.mp r',q' H1 (Same.refl H1)⟩
 .exact q'.elim
noncomputable def slT(x:T)(lo hi:Option Int):Rs T:=match x with
 |.tup l=>.ok (.tup (ie l lo hi))
 |.lst l=>.ok (.lst (ie l lo hi))
 |_=>.bad
noncomputable def sl(fe:W5)(fl fu:En->Rs (Option Int))(Z:En):Rs T:=do
 let x <-fe Z
 let l <-fl Z
 let u <-fu Z
 slT x l u
def uK{f:En->Rs (Option Int)}{k:Option Int->Rs α}{Q:α->Hp->Prop}(E:EnvO X.K O H Z σ)(h:Post X H (f Z >>= k) Q):
  tPO X f σ H λb H'=>Same H H'/\EnvO X.K O H' Z σ/\Post X H' (k b) Q:=
 ⟨Z,O,E,Post.mono h.bind λt H' s q=>⟨s,E.same s,q⟩⟩
def Fp{lo hi:Option ZG}{p2:Pos}{fl fu:En->Rs (Option Int)}(ha:cm X a fa)(hl:MQ X lo fl)(hu:MQ X hi fu):cm X (.Subscript a (.Slice lo hi ZB p2) pos) (sl fa fl fu):=by
 intro kt s σ H Q I ⟨Z,O,E,hq⟩;refine B2 (sl_tup.or (sl_tup_whole.or ET)) ha hl hu kt s σ H Q I ?_;obtain⟨Z1,O1,E1,h1⟩:=aY E hq;refine⟨Z1,O1,E1,Post.mono h1 λts H1 s1 q vs r=>?_⟩;obtain⟨t',r',s',E',q'⟩:=q vs r;obtain⟨Z2,O2,E2,h2⟩:=uK E' q';refine⟨Z2,O2,E2,Post.mono h2 λo1 H2 s2 q=>?_⟩;obtain⟨s2',E2',q2⟩:=q;obtain⟨Z3,O3,E3,h3⟩:=uK E2' q2;refine⟨Z3,O3,E3,Post.mono h3 λo2 H3 s3 q=>?_⟩;obtain⟨s3',E3',q3⟩:=q;have rt:=(r'.same s2').same s3';unfold slT at q3;split at q3
 .rename_i l;obtain⟨p,ws,e,n,q,rr⟩:=Rep.Fk.mp rt;have hlen:=rr.length;by_cases hw:HT.sIx ws.length 0 o1=0/\HT.sIx ws.length ws.length o2=ws.length
  .refine .inr (.inl ⟨p,ws,e,SqT.of q,hw,?_⟩);rw[<-hlen]at hw;refine q3 H3 (Same.refl H3) _ ?_;rw[A0 hw];exact Rep.Fk.mpr ⟨p,ws,rfl,n,q,rr⟩
  .exact .inl ⟨p,ws,e,SqT.of q,hw,λp' hp=>q3 _ (aU hp _) _ (g9 hp (E3'.fresh hp) (rr.cut o1 o2))⟩
 .rename_i l;obtain⟨p,ws,e,n,q,rr⟩:=Rep.Do.mp rt;exact .inr (.inr ⟨p,ws,e,SqL.of q,λp' hp=>q3 _ (aU hp _) _ (jh hp (E3'.fresh hp) (rr.cut o1 o2))⟩)
 .exact q3.elim
def CallT(X:Cx)(f:N9)(g:List T->Rs T):Prop:=
 ∀(kt:W2)(s:Ob)(σ:L2.St)(H:Hp)(O:Ow)(ts:List T)(vs:List V)(us:List N9)(Q:VK),Inv X kt σ H s->(∀p,H p=ZB->¬ O p)->Reps X.K O H ts vs->Vals vs us ->
  Post X H (g ts) (λt H'=>∀v,Rep X.K O H' t v->Q v H')->ZJ (ZK X.prog X.w) X.A (call f us) (EP X kt σ Q) X.xe s
def CallT.of{r:List V->Hp->VK->Prop}(h:CallR X f r){g:List T->Rs T}
  (w:∀(H:Hp)(O:Ow)(ts:List T)(vs:List V)(Q:VK),(∀p,H p=ZB->¬ O p)->Reps X.K O H ts vs->Post X H (g ts) (λt H'=>∀v,Rep X.K O H' t v->Q v H')->r vs H Q):CallT X f g:=
 λkt s σ H O ts vs us Q I hf rs rv hp=>h kt s σ H vs us Q I rv (w H O ts vs Q hf rs hp)
noncomputable def cl(g:List T->Rs T)(fs:W3)(Z:En):Rs T:=fs Z >>= g
variable {fs:W3}{id:String}{g:List T->Rs T}
def Ft(hc:CallT X (.builtin id) g)(hm:X.mg x=ZB)(hv:O6 x=ZA (.builtin id))(ha:qf X (e::es) fs)(hg:autoParam (Gl X x) u_)(hn:autoParam (x≠ "__name__") s_)(hdb:autoParam ((x == ("__debug__" : Str))=ZD) s_)
  (he:autoParam (Oq (e::es) X.env=(ZD,eval e X.env)::Oq es X.env) u_) (hpl:autoParam ((backTo pos (Oq es X.env)).any (·.1)=ZD) u_):cm X (.Call (.Name x p) (e::es) [] pos) (cl g fs):=by
 intro kt s σ H Q I ⟨Z,O,E,hq⟩;refine Pv (fI I hg hm hv ?_ hn hdb);have h1:=fz E hq;exact Qh (bR (ha pos kt s σ H _ I h1) λus s1 ⟨vs,H1,I1,r1,ts,rs,s',E',q1⟩=>hc kt s1 σ H1 O ts vs us Q I1 (λp=>E'.fresh) rs r1 q1) he hpl
def BR(hc:CallT X (.type Ty) g)(hm:X.mg x=ZB)(hv:O6 x=ZA (.type Ty))(ha:qf X (e::es) fs)(hg:autoParam (Gl X x) u_)(hn:autoParam (x≠ "__name__") s_)(hdb:autoParam ((x == ("__debug__" : Str))=ZD) s_)
  (he:autoParam (Oq (e::es) X.env=(ZD,eval e X.env)::Oq es X.env) u_) (hpl:autoParam ((backTo pos (Oq es X.env)).any (·.1)=ZD) u_):cm X (.Call (.Name x p) (e::es) [] pos) (cl g fs):=by
 intro kt s σ H Q I ⟨Z,O,E,hq⟩;refine Pv (fI I hg hm hv ?_ hn hdb);have h1:=fz E hq;exact Pq (bR (ha pos kt s σ H _ I h1) λus s1 ⟨vs,H1,I1,r1,ts,rs,s',E',q1⟩=>hc kt s1 σ H1 O ts vs us Q I1 (λp=>E'.fresh) rs r1 q1) he hpl
def Reps.one{t:T}(r:Reps K O H [t] vs):∃v,vs=[v]/\Rep K O H t v:=by obtain⟨v,ws,rfl,p,q⟩:=Reps.me.mp r;cases Reps.Da.mp q;exact⟨v,rfl,p⟩
def Rep.sq{t:T}(r:Rep K O H t v)(h:t.items=ZA l):∃a vs,v=.ref a/\¬ O a/\Reps K O H l vs/\(SqL K H a vs\/SqT K H a vs):=by
 cases t with
 |tup m=>cases h;obtain⟨a,vs,e,n,q,z⟩:=Rep.Fk.mp r;exact⟨a,vs,e,n,z,.inr (SqT.of q)⟩
 |lst m=>cases h;obtain⟨a,vs,e,n,q,z⟩:=Rep.Do.mp r;exact⟨a,vs,e,n,z,.inl (SqL.of q)⟩
 |scr m=>cases h;unfold Rep at r;obtain⟨a,e,n,q⟩:=r;exact⟨a,_,e,n,Reps.ints,.inl q⟩
 |_=>cases h
noncomputable def cS:List T->Rs T
 |[.str x] =>if x.length<=ZI then .ok (.int x.length)else .bad
 |[x] =>match x.items with
  |some l=>.ok (.int l.length)
  |none=>.bad
 |_=>.bad
def ck:CallT X (.builtin "len") cS:=CallT.of (call_len_seq.or uo) λH O ts vs Q hf rs hp=>by
 unfold cS at hp;split at hp
 .obtain⟨v,rfl,r⟩:=rs.one;split at hp
  .rename_i h;exact .inr ⟨_,by rw[Rep.IR.mp r],h,hp H (Same.refl H) _ (Rep.GT _)⟩
  .exact hp.elim
 .obtain⟨v,rfl,r⟩:=rs.one;split at hp
  .rename_i l hl;obtain⟨a,vs,rfl,n,z,q⟩:=r.sq hl;exact .inl ⟨a,vs,rfl,q,hp H (Same.refl H) _ (by rw[<-z.length];exact Rep.GT _)⟩
  .exact hp.elim
 .exact hp.elim
noncomputable def gD:List T->Rs T
 |[.tup l] =>.ok (.tup l)
 |[.lst l] =>.ok (.tup l)
 |_=>.bad
def jD:CallT X (.type "tuple") gD:=CallT.of qJ λH O ts vs Q hf rs hp=>by
 unfold gD at hp;split at hp
 .obtain⟨v,rfl,r⟩:=rs.one;obtain⟨a,ws,rfl,n,q,z⟩:=Rep.Fk.mp r;exact⟨a,ws,rfl,.inr ⟨SqT.of q,hp H (Same.refl H) _ (Rep.Fk.mpr ⟨a,ws,rfl,n,q,z⟩)⟩⟩
 .obtain⟨v,rfl,r⟩:=rs.one;obtain⟨a,ws,rfl,n,q,z⟩:=Rep.Do.mp r;exact⟨a,ws,rfl,.inl ⟨SqL.of q,λl hl=>hp _ (aU hl _) _ (g9 hl (hf l hl) z)⟩⟩
 .exact hp.elim
noncomputable def Df:List T->Rs T
 |[.int i] =>.ok (.int i)
 |[.bl k] =>.ok (.int (if k then 1 else 0))
 |_=>.bad
def Kr:CallT X (.type "int") Df:=CallT.of A4 λH O ts vs Q hf rs hp=>by
 unfold Df at hp;split at hp
 .obtain⟨v,rfl,r⟩:=rs.one;exact .inl ⟨_,by rw[Rep.AC.mp r],hp H (Same.refl H) _ (Rep.GT _)⟩
 .obtain⟨v,rfl,r⟩:=rs.one;exact .inr ⟨_,by rw[Rep.FS.mp r],hp H (Same.refl H) _ (Rep.GT _)⟩
 .exact hp.elim
noncomputable def pW:List T->Option (List Bool)
 |[] =>ZA []
 |.bl k::r=>(pW r).map (k:: ·)
 |_=>ZB
noncomputable def qL:List T->Rs T
 |[.lst l] =>match pW l with
  |some ks=>.ok (.bl (ks.all λk=>k))
  |none=>.bad
 |_=>.bad
theorem pV:∀{l:List T}{ks:List Bool}{vs:List V}{us:List N9},pW l=ZA ks->Reps K O H l vs->Vals vs us->us=ks.map Pz
 |[],ks,vs,us,e,r,v=>by cases e;cases Reps.Da.mp r;cases v;rfl
 |t::l,ks,vs,us,e,r,v=>by
  obtain⟨w,ws,rfl,p,q⟩:=Reps.me.mp r;cases t with
  |bl k=>
   unfold pW at e;cases z:pW l with
   |none=>rw[z]at e;cases e
   |some ks'=>
    rw[z]at e;cases e;cases v with
    |cons v1 v2=>
     cases Rep.FS.mp p;cases v1;rw[pV z q v2];rfl
  |_=>cases e
def uj(hc:X.calm=ZC):CallT X (.builtin "all") qL:=by
 intro kt s σ H O ts vs us Q I hf rs rv hp;unfold qL at hp;split at hp
 .obtain⟨v,rfl,r⟩:=rs.one;split at hp
  .rename_i ks hk;obtain⟨a,ws,rfl,n,q,z⟩:=Rep.Do.mp r;obtain⟨u,rfl,ru⟩:=i9 rv;cases ru;obtain⟨its,r',pl,hz⟩:=I.list (SqL.of q);have hits:=pV hk z r';refine call_all_walk (TC pl.isList ?_);have hne:a≠s.heap.objs.size:=λe=>by obtain⟨o,ho,_⟩:=pl.isList;rw[e]at ho;exact absurd (Os ho) (OU _)
   refine⟨s.heap.objs.size,_,_,_,_,_,λi=>(ks[i]?).getD ZC,rfl,Walks.list (A:=X.A.in1) (I.ok.hd hc) s.heap.objs.size a hne its.toArray,⟨⟨_,OI _ rfl,rfl,rfl⟩,?_⟩,?_,?_⟩
   .obtain⟨o,ho,hh⟩:=pl.isList;exact⟨o,Om _ ho,hh⟩
   .intro i v s' Q' E' hP hQ';subst hits;dsimp only at hQ';have hP':(ks.map Pz)[i]?=ZA v:=by simpa using hP
    rw[OH]at hP';cases e:ks[i]? with
    |none=>rw[e]at hP';cases hP'
    |some k=>
     rw[e]at hP' hQ';cases hP';exact PY hQ'
   .intro h' tk hk';have hlen:its.toArray.size=ks.length:=by rw[hits];simp
    have e:((PJ its.toArray.size).all λi=>(ks[i]?).getD ZC)=(ks.all λk=>k):=by
     rw[hlen];rw[Rn,OQ,OQ];constructor
     .intro h x hx;obtain⟨i,hi,rfl⟩:=Qs hx;have:=h i (PZ.mpr hi);simpa [hi]using this
     .intro h i hi;have hi':=PZ.mp hi;have:=h ks[i] (Pp hi');simpa [hi']using this
    rw[e];have I1:Inv X kt σ H {s with heap:=s.heap.push {cls:=.type "list_iterator",data:=.fields #[.ref a,.int 0 0]}}:=I.kept (t':=s.toks) λb o e=>Om _ e;have I2:Inv X kt σ H {s with heap:=h',toks:=tk}:=by
     have:=I1.turned (h':=h') (t':=tk) (it:=s.heap.objs.size) (λb o hb e=>hk' b o (by simpa using hb) e) (I.hok.fresh (On _))
      (Q8 I.lt) (.inr I.sz) (λx c e z=>?_) (λp hp z=>?_)
     .exact this
     .obtain⟨v,q⟩:=I.cell x c e;exact absurd (Oo q.lt (RS z.symm)) (OU _)
     .exact absurd (Oo (Os (I.pin p hp).1) (RS z.symm)) (OU _)
    exact⟨.bl _,H,I2,rfl,hp H (Same.refl H) _ (Rep.bl_ _)⟩
  .exact hp.elim
 .exact hp.elim
end
noncomputable def T.ty:T->Option String
 |.non=>ZA "NoneType"
 |.bl _=>ZA "bool"
 |.int _=>ZA "int"
 |.str _=>ZA "str"
 |.tup _=>ZA "tuple"
 |.lst _=>ZA "list"
 |.scr _=>ZB
 |.dct _ _=>ZB
 |.ob _ _ _=>ZB
noncomputable def vR(i b t l s:Bool)(Ty:String):Option Bool:=match Ty with
 | "int" =>ZA i| "bool" =>ZA b| "tuple" =>ZA t| "list" =>ZA l| "str" =>ZA s
 |_=>ZB
noncomputable def zC(n Ty:String):Option Bool:=match n with
 | "NoneType" =>vR ZD ZD ZD ZD ZD Ty
 | "bool" =>vR ZC ZC ZD ZD ZD Ty
 | "int" =>vR ZC ZD ZD ZD ZD Ty
 | "str" =>vR ZD ZD ZD ZD ZC Ty
 | "tuple" =>vR ZD ZD ZC ZD ZD Ty
 | "list" =>vR ZD ZD ZD ZC ZD Ty
 |_=>ZB
def AO(K:N7){n:String}(h:zC n Ty=ZA b):PySem.W.kitOne K (.type n) (.type Ty)=ZA b:=by unfold zC at h;split at h <;> first| (cases h;done)| (unfold vR at h;split at h <;> first| (cases h;done)| (cases h;kernel_rfl))
noncomputable def Gj(Ty:String)(t:T):Rs T:=match t.ty with
 |some n=>match zC n Ty with
  |some b=>.ok (.bl b)
  |none=>.bad
 |none=>.bad
def Rep.N6{t:T}{n:String}(r:Rep K O H t v)(h:t.ty=ZA n):mH K H v (.type n):=by
 cases t with
 |non=>cases h;cases Rep.Nb.mp r;exact .non
 |bl b=>cases h;cases Rep.FS.mp r;exact .bl b
 |int b=>cases h;cases Rep.AC.mp r;exact .int b
 |str b=>cases h;cases Rep.IR.mp r;exact .str b
 |tup l=>cases h;obtain⟨a,vs,rfl,_,q,_⟩:=Rep.Fk.mp r;exact .tup q
 |lst l=>cases h;obtain⟨a,vs,rfl,_,q,_⟩:=Rep.Do.mp r;exact .lst q
 |scr l=>cases h
 |dct _ _=>cases h
 |ob _ _ _=>cases h
variable{H':Hp}{M:Mn}{O':Ow}{g:T->En->Rs En}{gs:List T->En->Rs En}{iter tg:ZG}{kt:W2}{ps:List Str}
section
variable {a b c:ZG}{fs:W3}{p2:Pos}
def fJ:O6 "isinstance" =ZA (.builtin "isinstance"):=by decide+kernel
def Lu{tn:Str}(hm:X.mg "isinstance" =ZB)(hmt:X.mg tn=ZB)(hv:O6 tn=ZA (.type Ty))(ha:cm X a fa)(hg:autoParam (Gl X "isinstance") u_)(hgt:autoParam (Gl X tn) u_)
  (hn:autoParam (tn≠ "__name__") s_) (hd:autoParam ((tn == ("__debug__" : Str))=ZD) s_)
  (he:autoParam (Oq [a,.Name tn p2] X.env=(ZD,eval a X.env)::Oq [.Name tn p2] X.env) u_) (hpl:autoParam ((backTo pos (Oq [.Name tn p2] X.env)).any (·.1)=ZD) u_)
  (hs:autoParam (Oq [.Name tn p2] X.env=(ZD,eval (.Name tn p2) X.env)::Oq [] X.env) u_):
  cm X (.Call (.Name "isinstance" p) [a,.Name tn p2] [] pos) (o1 (Gj Ty) fa):=by
 intro kt s σ H Q I ⟨Z,O,E,hq⟩;refine Pv (fI I hg hm fJ ?_ (by decide) (by decide));have hA:PA X [a,.Name tn p2] (oA (tP X fa) (oA (tC (.ty Ty)) EM)):=cN ha (cN (yX (v:=.ty Ty) hgt hmt hv rfl hn hd) fG hs) he;obtain⟨Z1,O1,E1,h1⟩:=aY E hq;refine Qh (bR (hA pos kt s σ H (λvs H'=>∃v t,vs=[v,.ty Ty]/\Rep X.K O H' t v/\Post X H' (Gj Ty t) (λt H'=>∀v,Rep X.K O H' t v->Q v H')) I ?_) λus s1 ⟨vs,H1,I1,r1,v,t,e1,rt,q⟩=>?_) he hpl
 .refine⟨Z1,O1,E1,Post.mono h1 λts H1 s1 q vs r=>?_⟩;obtain⟨t',r',s',E',q'⟩:=q vs r;exact⟨vs,t',rfl,r',q'⟩
 .subst e1;obtain⟨u,w',rfl,ru,rw'⟩:=yz r1;cases rw';unfold Gj at q;split at q
  .rename_i n hn';split at q
   .rename_i bb hb;exact AN I1 ru (rt.N6 hn') (AO _ hb) λtk=>⟨.bl bb,H1,I1.tok _,rfl,q H1 (Same.refl H1) _ (Rep.bl_ _)⟩
   .exact q.elim
  .exact q.elim
def spP(K:N7)(n:Nat)(g:List T->Rs T):Sp:=λvs H Q _=>∃ts O,Reps K O H ts vs/\(∀a,O a->Mtb H a)/\ts.length=n ∧
 match g ts with
 |.ok t=>∀v H',Same H H'->Rep K O H' t v->Q v H'
 |_=>False
def RzC(P:OM)(w:Pm)(mg:W0)(outer:List Env)(H:Hp)(s:Ob)(c:Str)(ev:N9)(s':Ob):Prop:=
 ∃e T C H',ev=.ref e/\mg c=ZA (.ref C)/\s'.os=s.os/\TQ s'.gens/\Un (n8 outer) [] H H' s.heap s'.heap/\HOk P w H' s'.heap/\Same H H'/\H' e=ZB/\s.heap.get? e=ZB/\KD s'.heap C e (ZA T)/\H' T=ZB/\s.heap.get? T=ZB
def FnX(P:OM)(w:Pm)(K:N7)(mg:W0)(base:ZH)(k:Nat)(f:ZE)(fd:Pu)(ps:List Str)(n:Nat)(g:List T->Rs T):Prop:=
 ∀(A:OY)(outer:List Env)(s:Ob)(H:Hp)(args:Args)(us:List N9)(vs:List V)(O:Ow)(ts:List T)(c:Str)(R:Vc->Ob->Prop),Room k A->Env0 P w K mg base A outer s H->Ur s fd args (ps.zip us)->Vals vs us ->
  Reps K O H ts vs->(∀a,O a->Mtb H a)->ts.length=n->g ts=.err c->(∀ev s',RzC P w mg outer H s c ev s'->R (.error ev) s')->ZL (ZK P w) A (.call (.ref f) args) R s
structure Er (P:OM)(w:Pm)(K:N7)(mg:W0)(base:ZH)(k:Nat)(f:ZE)(fd:Pu)(ps:List Str)(n:Nat)(g:List T->Rs T):Prop where
 h:p7 P w K mg base CX0 k f fd ps (spP K n g)
 x:FnX P w K mg base k f fd ps n g
def Cd{h:ZH}{a:ZE}{o:HO}(x:ObjOk P w H h a o):∃u,h.get? a=ZA u:=by
 cases o with
 |lst xs=>obtain⟨_,_,_,_,e⟩:=x;exact⟨_,e⟩
 |tup xs=>obtain⟨_,_,_,ob,e,_⟩:=x;exact⟨_,e⟩
 |dK kvs=>obtain⟨_,_,_,_,o,_,_,e,_⟩:=x;exact⟨_,e⟩
 |dT kvs=>obtain⟨_,_,_,_,o,_,_,e,_⟩:=x;exact⟨_,e⟩
 |set S n=>obtain⟨o,_,_,_,e,_⟩:=x;exact⟨_,e⟩
 |ins C dx fs=>obtain⟨_,_,_,e,_⟩:=x;exact⟨_,e⟩
 |own y=>obtain⟨_,e⟩:=x;exact⟨_,e⟩
 |xd fs=>obtain⟨_,⟨_,_,_,e,_⟩,_⟩:=x;exact⟨_,e⟩
 |rng lo hi=>obtain⟨_,_,_,e⟩:=x;exact⟨_,e⟩
 |frz ob u=>obtain⟨e,_⟩:=x;exact⟨_,e⟩
 |tbl ps=>exact⟨_,(show h.get? a=ZA _ from x)⟩
 |met f y=>exact⟨_,(show h.get? a=ZA _ from x)⟩
 |ext φ=>obtain⟨_,⟨_,e⟩,_⟩:=x;exact⟨_,e⟩
def jm(I:Inv X kt σ H s){e:ZE}(n:s.heap.get? e=ZB):H e=ZB:=by
 cases z:H e with
 |none=>rfl
 |some o=>
  obtain⟨o',ho'⟩:=Cd (I.hok e o z);rw[n]at ho';cases ho'
def e9(I:Inv X kt σ H s)(hex:X.ex=[]){e:ZE}(n:s.heap.get? e=ZB):X.s₀.heap.get? e=ZB:=by
 cases z:X.s₀.heap.get? e with
 |none=>rfl
 |some o=>
  obtain⟨o',ho'⟩:=I.base.there e o z (by rw[hex];simp);rw[n]at ho';cases ho'
def IL{f:ZE}{g:List T->Rs T}(F:Er X.prog X.w X.K X.mg X.base k f fd ps n g)(hr:Room k X.A)(hm:X.mg x=ZA (.ref f))(hk:QK X.K (.ref f)=ZC)(hb:Binds X.K fd ps [])(hps:ps.length=n)
  (hl:∀Z ts,fs Z=.ok ts->ts.length=n) (ha:qf X (e::es) fs) (hg:autoParam (Gl X x) u_) (hdb:autoParam ((x == ("__debug__" : Str))=ZD) s_) (he:autoParam (Oq (e::es) X.env=(ZD,eval e X.env)::Oq es X.env) u_) (hpl:autoParam ((backTo pos (Oq es X.env)).any (·.1)=ZD) u_):
  cm X (.Call (.Name x p) (e::es) [] pos) (cl g fs):=by
 intro kt s σ H Q I ⟨Z,O,E,hq⟩;have hq':Post X H (fs Z >>= g) λt H'=>∀v,Rep X.K O H' t v->Q v H':=hq;cases q:fs Z with
 |bad=>rw[q]at hq';exact hq'.elim
 |err c=>
  rw[q]at hq';refine yV (E:=E0) F.h hr hg hm hk hb .nil yY ha hdb he hpl kt s σ H Q I ⟨Z,O,E,?_⟩;rw[q];exact hq'
 |ok ts=>
  rw[q]at hq';have hq2:Post X H (g ts) λt H'=>∀v,Rep X.K O H' t v->Q v H':=hq';cases q2:g ts with
  |bad=>rw[q2]at hq2;exact hq2.elim
  |ok t=>
   rw[q2]at hq2;refine yV (E:=E0) F.h hr hg hm hk hb .nil yY ha hdb he hpl kt s σ H Q I ⟨Z,O,E,?_⟩;rw[q];intro H1 s1 vs rs;rw[OS];refine⟨ts,O,rs,(E.same s1).mtb,hl Z ts q,?_⟩;rw[q2];exact λv H' s2 r=>hq2 H' (s1.trans s2) v r
  |err c=>
   rw[q2]at hq2;refine Pv (gy I hg hm ?_ hdb);refine QD (h₀:=X.base) I.ok.mod.kin hk (bR (ha pos kt s σ H (λvs H'=>Same H H'/\Reps X.K O H' ts vs) I ⟨Z,O,E,?_⟩) (λus s1 ⟨vs,H1,I1,r,sm,rs⟩=>⟨I1.kIn,?_⟩)) he hpl
   .rw[q];exact λH' sm vs rs=>⟨sm,rs⟩
   .have hlen:us.length=ps.length:=by rw[<-r.length,<-rs.length,hl Z ts q,hps]
    have hb':=hb s1 us I1.kIn (by rw[OS];exact hlen);rw[OS]at hb';refine TF (Rr (F.x X.A X.stack s1 H1 ⟨us,[]⟩ us vs O ts c (λr s'=>match r with|.error ev=>X.xe ev s'|_=>False) hr I1.NA hb' r rs (E.same sm).mtb (hl Z ts q) q2 λev s' w=>?_) λr s' hq=>?_)
    .obtain⟨ea,T,C,H',rfl,hmc,ho,hbare,hun,hok,sm2,hea,heo,fl,hT,hTo⟩:=w;have I2:Inv X kt σ H' s':=I1.Nt ho hun hok hbare (λb z=>absurd z (by simp));exact hq2 kt _ _ ⟨ea,ZA T,C,σ,H',rfl,hmc,I2,λb o q _=>sm2 b o (sm b o q),hea,λhex=>e9 I1 hex heo,fl,(λt zt=>by cases zt;exact⟨hT,λhex=>e9 I1 hex hTo⟩),λpp hpp=>⟨λzz=>(by have:=(I1.pin pp hpp).1;rw[zz,heo]at this;cases this),λzz=>(by cases zz;have:=(I1.pin pp hpp).1;rw[hTo]at this;cases this)⟩⟩
    .cases r with
     |error ev=>exact hq
     |ok fl=>exact hq.elim
def Bc(X:Cx)(g:T->En->Rs En):TG:=λv σ H Q=>∃Z O M t,EnvM X.K O M H Z σ/\Rep X.K O H t v/\match g t Z with
 |.ok Z'=>∀σ',EnvM X.K O M H Z' σ'->Q σ' H
 |_=>False
abbrev GW(X:Cx)(tg:ZG)(g:T->En->Rs En):Prop:=PG X tg (Bc X g)
def tPGs(X:Cx)(g:List T->En->Rs En):GQ:=λvs σ H Q=>∃Z O M ts,EnvM X.K O M H Z σ/\Reps X.K O H ts vs/\match g ts Z with
 |.ok Z'=>∀σ',EnvM X.K O M H Z' σ'->Q σ' H
 |_=>False
abbrev Ed(X:Cx)(tg:List ZG)(g:List T->En->Rs En):Prop:=PGs X tg (tPGs X g)
def PG.imp{t t':TG}(h:PG X e t)(w:∀v σ H Q,t' v σ H Q->t v σ H Q):PG X e t':=λkt s σ H v u Q I r q=>h kt s σ H v u Q I r (w v σ H Q q)
def PGs.imp{e:List ZG}{t t':GQ}(h:PGs X e t)(w:∀v σ H Q,t' v σ H Q->t v σ H Q):PGs X e t':=λkt s σ H v u Q I r q=>h kt s σ H v u Q I r (w v σ H Q q)
noncomputable def gN(i:Nat)(t:T)(Z:En):Rs En:=if i<Z.length then .ok (Z.set i (.va t))else .bad
def EnvM.set{t:T}(E:EnvM K O M H Z σ)(hi:i<Z.length)(r:Rep K O H t v):EnvM K O M H (Z.set i (.va t)) (σ.set i (ZA v)) where
 len:=by rw[OZ,OZ];exact E.len
 val:=λj u e=>by
  by_cases hj:i=j
  .subst hj;rw[Oz hi]at e;cases e;exact⟨v,Oz (by rw[<-E.len];exact hi),r⟩
  .rw[Oy hj]at e;obtain⟨w,e1,e2⟩:=E.val j u e;exact⟨w,by rw[Oy hj];exact e1,e2⟩
 own:=λj o e=>by
  by_cases hj:i=j
  .subst hj;rw[Oz hi]at e;cases e
  .rw[Oy hj]at e;obtain⟨w,e1,e2⟩:=E.own j o e;exact⟨w,by rw[Oy hj];exact e1,e2⟩
 sub:=E.sub
 dis:=E.dis
 trk:=E.trk
def Fm(i:Nat)(hN:X.N.Nodup)(hi:autoParam (X.N[i]?=ZA x) u_)(hx:autoParam (Loc X.env.scope x) y_)(hf:autoParam (X.fn x=ZC\/X.env.scope.names.lookup x=ZA .local) r_):GW X (.Name x pos) (gN i):=
 PG.imp (yQ hN hi hx hf) λv σ H Q hh_=>by
  obtain⟨Z,O,M,t,E,r,h⟩:=hh_;unfold gN at h;split at h
  .rename_i Z' e;split at e
   .rename_i hl;cases e;exact h _ (E.set hl r)
   .cases e
  .exact h.elim
noncomputable def Ek(ts:List T)(Z:En):Rs En:=match ts with
 |[] =>.ok Z
 |_=>.bad
noncomputable def vP(g:T->En->Rs En)(gs:List T->En->Rs En)(ts:List T)(Z:En):Rs En:=match ts with
 |t::r=>do
  let Z1 <-g t Z
  gs r Z1
 |[] =>.bad
def Fj:Ed X [] Ek:=PGs.imp FF λvs σ H Q hh_=>by
 obtain⟨Z,O,M,ts,E,r,h⟩:=hh_;unfold Ek at h;cases ts with
 |nil=>exact⟨Reps.Da.mp r,h σ E⟩
 |cons _ _=>exact h.elim
def BO(h1:GW X e g)(h2:Ed X es gs)
  (hs:autoParam ((Qc (e::es) X.env).map (·.2)=assign e X.env::(Qc es X.env).map (·.2)) u_):Ed X (e::es) (vP g gs):=
 PGs.imp (B1 h1 h2 hs) λvs σ H Q hh_=>by
  obtain⟨Z,O,M,ts,E,r,h⟩:=hh_;cases ts with
  |nil=>exact h.elim
  |cons t ts=>
   obtain⟨v,ws,rfl,p,q⟩:=Reps.me.mp r;refine⟨v,ws,rfl,Z,O,M,t,E,p,?_⟩;unfold vP at h;cases e1:g t Z with
   |bad=>simp[e1]at h
   |err c=>simp[e1]at h
   |ok Z1=>
    intro σ1 E1;refine⟨Z1,O,M,ts,E1,q,?_⟩;simp only[e1,ax]at h;cases e2:gs ts Z1 with
    |bad=>simp[e2]at h
    |err c=>simp[e2]at h
    |ok Z2=>
     simp only[e2]at h;exact λσ2 E2=>h σ2 E2
noncomputable def gT(n:Nat)(gs:List T->En->Rs En)(t:T)(Z:En):Rs En:=match t with
 |.tup l=>if l.length=n then gs l Z else .bad
 |_=>.bad
def IH(hc:X.calm=ZC)(h:Ed X es gs)(hn:autoParam ((Qc es X.env).length=n) u_)(hst:autoParam ((Qc es X.env).findIdx? (·.1)=ZB) u_):GW X (.Tuple es k pos) (gT n gs):=
 PG.imp (IY hc h hn hst) λv σ H Q hh_=>by
  obtain⟨Z,O,M,t,E,r,h⟩:=hh_;unfold gT at h;cases t with
  |tup l=>
   obtain⟨a,vs,rfl,n',q,z⟩:=Rep.Fk.mp r;by_cases hl:l.length=n
   .simp only[if_pos hl]at h;exact⟨a,vs,rfl,SqT.of q,by rw[<-z.length];exact hl,Z,O,M,l,E,z,h⟩
   .simp only[if_neg hl]at h
  |_=>exact h.elim
def SqL.nn{a:ZE}(q:SqL K H a vs):¬ Nw K H a:=λ⟨h1,h2⟩=>by
 rcases q with(q|⟨o,q⟩)|⟨o,_,_,q,_⟩
 .rw[h1]at q;cases q
 .rw[h1]at q;cases q
 .rw[h2]at q;cases q
mutual
theorem Rep.more{K:N7}{O O':Ow}{H:Hp}(sub:∀a,O' a->O a\/Nw K H a):∀{t:T}{v:V},Rep K O H t v->Rep K O' H t v
 |.non,_,r=>by unfold Rep at r ⊢;exact r
 |.bl _,_,r=>by unfold Rep at r ⊢;exact r
 |.int _,_,r=>by unfold Rep at r ⊢;exact r
 |.str _,_,r=>by unfold Rep at r ⊢;exact r
 |.tup l,_,r=>by unfold Rep at r ⊢;obtain⟨a,vs,e,n,q,z⟩:=r;exact⟨a,vs,e,λp=>(sub a p).elim n λw=>(by rw[w.1]at q;cases q),q,Reps.more sub z⟩
 |.lst l,_,r=>by unfold Rep at r ⊢;obtain⟨a,vs,e,n,q,z⟩:=r;exact⟨a,vs,e,λp=>(sub a p).elim n λw=>(by rw[w.1]at q;cases q),q,Reps.more sub z⟩
 |.scr l,_,r=>by unfold Rep at r ⊢;obtain⟨a,e,n,q⟩:=r;exact⟨a,e,λp=>(sub a p).elim n λw=>Tr.SqL.nn q w,q⟩
 |.dct ks ts,_,r=>by unfold Rep at r ⊢;obtain⟨a,kvs,e,n,q,k,z⟩:=r;exact⟨a,kvs,e,λp=>(sub a p).elim n λw=>(by rcases q with q|⟨_,q⟩ <;> rw[w.1]at q <;> cases q),q,k,Reps.more sub z⟩
 |.ob C ns ts,_,r=>by unfold Rep at r ⊢;obtain⟨a,dx,fs,e,n,q,k,z⟩:=r;exact⟨a,dx,fs,e,⟨⟨λp=>(sub a p).elim n.1.1 λw=>(by rw[w.1]at q;cases q),λp=>(sub dx p).elim n.1.2.1 λw=>(by have:=n.1.2.2;rw[w.1]at this;cases this),n.1.2.2⟩,n.2⟩,q,k,Reps.more sub z⟩
theorem Reps.more{K:N7}{O O':Ow}{H:Hp}(sub:∀a,O' a->O a\/Nw K H a):∀{l:List T}{vs:List V},Reps K O H l vs->Reps K O' H l vs
 |[],_,r=>by unfold Reps at r ⊢;exact r
 |t::l,_,r=>by unfold Reps at r ⊢;obtain⟨v,ws,e,p,q⟩:=r;exact⟨v,ws,e,Rep.more sub p,Reps.more sub q⟩
end
def Rep.move{P:Ow}{t:T}(hP:∀a,P a->O a\/Nw K H a)(hO:∀a,O' a->O a\/Nw K H a)(h:SameO P H H')(r:Rep K O H t v):Rep K O' H' t v:=
 Rep.less (O:=λa=>O' a\/P a) (λ_ z=>.inl z) (Rep.keep h (λ_ z=>.inr z) (Rep.more (λa z=>z.elim (hO a) (hP a)) r))
def Reps.move{P:Ow}{t:List T}{v:List V}(hP:∀a,P a->O a\/Nw K H a)(hO:∀a,O' a->O a\/Nw K H a)(h:SameO P H H')(r:Reps K O H t v):Reps K O' H' t v:=
 Reps.less (O:=λa=>O' a\/P a) (λ_ z=>.inl z) (Reps.keep h (λ_ z=>.inr z) (Reps.more (λa z=>z.elim (hO a) (hP a)) r))
def ItT(K:N7)(O:Ow)(H:Hp)(ts:List T)(J:It):Prop:=∀(P O':Ow),(∀a,P a->O a\/Nw K H a)->(∀a,O' a->O a\/Nw K H a)->∀(i:Nat)(Hc:Hp),SameO P H Hc->(∀a,O' a->∃o,Hc a=ZA o) ->
 (ts.length<=i->J.stop i Hc)/\(∀t,ts[i]?=ZA t->J.go i Hc/\∀x Hc',J.yld i Hc x Hc'->Same Hc Hc'/\Rep K O' Hc' t x)
def tPI(X:Cx)(f:W3):TI:=λσ H R=>∃Z O,EnvO X.K O H Z σ/\Post X H (f Z) λts H'=>∀J,ItT X.K O H' ts J->R J H'
abbrev Be(X:Cx)(tg iter:ZG)(f:W3):Prop:=PI X tg iter (tPI X f)
def PI.imp{t t':TI}(h:PI X tg iter t)(w:∀σ H R,t' σ H R->t σ H R):PI X tg iter t':=λkt s σ H R I q=>h kt s σ H R I (w σ H R q)
noncomputable def iL(f:W5)(Z:En):Rs (List T):=do
 let x <-f Z
 match x with
 |.lst l=>.ok l
 |_=>.bad
noncomputable def iT(f:W5)(Z:En):Rs (List T):=do
 let x <-f Z
 match x with
 |.tup l=>.ok l
 |_=>.bad
def yK(ha:cm X a fa):Be X tg a (iL fa):=PI.imp (yP ha) λσ H R hh_=>by
 obtain⟨Z,O,E,h⟩:=hh_;obtain⟨Z1,O1,E1,h1⟩:=aY E h;refine⟨Z1,O1,E1,Post.mono h1 λts H1 s1 q vs r=>?_⟩;obtain⟨t',r',s',E',q'⟩:=q vs r;split at q'
 .rename_i l;obtain⟨a,ws,rfl,n,q,z⟩:=Rep.Do.mp r';refine⟨a,rfl,⟨ws,SqL.of q⟩,q' H1 (Same.refl H1) _ λP O' hP hO i Hc hs ht=>?_⟩;have hnP:¬ P a:=λz=>(hP a z).elim n λw=>by rw[w.1]at q;cases q
  refine⟨λhi=>⟨ws,SqL.of (hs _ _ q hnP),by rw[<-z.length];exact hi⟩,λt ht'=>?_⟩;obtain⟨v,e1,e2⟩:=z.get ht';refine⟨⟨ws,v,SqL.of (hs _ _ q hnP),e1⟩,λx Hc' y=>?_⟩;obtain⟨e,y⟩:=y;subst e;have:=y ws (SqL.of (hs _ _ q hnP));rw[e1]at this;cases this;exact⟨Same.refl _,e2.move hP hO hs⟩
 .exact q'.elim
def IE(ha:cm X a fa):Be X tg a (iT fa):=PI.imp (IX ha) λσ H R hh_=>by
 obtain⟨Z,O,E,h⟩:=hh_;obtain⟨Z1,O1,E1,h1⟩:=aY E h;refine⟨Z1,O1,E1,Post.mono h1 λts H1 s1 q vs r=>?_⟩;obtain⟨t',r',s',E',q'⟩:=q vs r;split at q'
 .rename_i l;obtain⟨a,ws,rfl,n,q,z⟩:=Rep.Fk.mp r';refine⟨a,rfl,⟨ws,SqT.of q⟩,q' H1 (Same.refl H1) _ λP O' hP hO i Hc hs ht=>?_⟩;have hnP:¬ P a:=λz=>(hP a z).elim n λw=>by rw[w.1]at q;cases q
  refine⟨λhi=>⟨ws,SqT.of (hs _ _ q hnP),by rw[<-z.length];exact hi⟩,λt ht'=>?_⟩;obtain⟨v,e1,e2⟩:=z.get ht';refine⟨⟨ws,v,SqT.of (hs _ _ q hnP),e1⟩,λx Hc' y=>?_⟩;obtain⟨e,y⟩:=y;subst e;have:=y ws (SqT.of (hs _ _ q hnP));rw[e1]at this;cases this;exact⟨Same.refl _,e2.move hP hO hs⟩
 .exact q'.elim
noncomputable def rng(lo hi:Int):List T:=(PJ (hi - lo).toNat).map λ(k:Nat)=>T.int (lo+(k:Int))
noncomputable def xR(i:Int):Bool:=decide (-(2 ^ 62)<=i)&&decide (i<2 ^ 62)
noncomputable def iR(f:W3)(Z:En):Rs (List T):=do
 let x <-f Z
 match x with
 |[.int j] =>if xR j then .ok (rng 0 j)else .bad
 |[.int i,.int j] =>if xR i&&xR j then .ok (rng i j)else .bad
 |_=>.bad
def j0{i:Int}(h:xR i=ZC): -(2 ^ 62)<=i/\i<2 ^ 62:=by unfold xR at h;rw[Oc]at h;exact⟨of_decide_eq_true h.1,of_decide_eq_true h.2⟩
def nY(lo hi:Int):ItT K O H (rng lo hi) (Itr lo (hi - lo).toNat):=λP O' hP hO i Hc hs ht=>by
 refine⟨λh=>?_,λt h=>?_⟩
 .show(hi - lo).toNat<=i;unfold rng at h;rw[Oa,Qo]at h;exact h
 .unfold rng at h;rw[OH]at h;by_cases hi':i<(hi - lo).toNat
  .rw[List.getElem?_range hi']at h;cases h;refine⟨hi',λx Hc' y=>?_⟩;obtain⟨e,y⟩:=y;subst e y;exact⟨Same.refl _,Rep.GT _⟩
  .rw[Si (by simpa using hi')]at h;cases h
def An(hm:X.mg "range" =ZB)(ha:qf X [a] fs)(hg:autoParam (Gl X "range") u_)(hs:autoParam (Oq [a] X.env=[(ZD,eval a X.env)]) u_):Be X tg (.Call (.Name "range" p) [a] [] pos) (iR fs):=by
 intro kt s σ H R I ⟨Z,O,E,h⟩;have h1:=fz E h;refine Call_ (fI I hg hm boot_range (Pq (bR (ha pos kt s σ H _ I h1) λus s1 ⟨vs,H1,I1,r1,ts,rs,s',E',q1⟩=>?_) hs rfl));split at q1
 .obtain⟨v,rfl,r⟩:=rs.one;split at q1
  .rename_i j hj;obtain⟨b1,b2⟩:=j0 hj;cases Rep.AC.mp r;cases r1 with
   |cons r rr=>
    cases rr;obtain⟨t,rfl⟩:=r;exact call_range_1 (lj I1 (by omega) (by omega) b1 b2 (q1 H1 (Same.refl H1) _ (nY 0 j)))
  .exact q1.elim
 .obtain⟨v,ws,rfl,p1,q⟩:=Reps.me.mp rs;obtain⟨v2,rfl,r⟩:=q.one;split at q1
  .rename_i i j hj;rw[Oc]at hj;obtain⟨b1,b2⟩:=j0 hj.1;obtain⟨b3,b4⟩:=j0 hj.2;cases Rep.AC.mp p1;cases Rep.AC.mp r;cases r1 with
   |cons r rr=>
    cases rr with
    |cons r' rr=>
     cases rr;obtain⟨t,rfl⟩:=r;obtain⟨t',rfl⟩:=r';exact call_range_2 (lj I1 b1 b2 b3 b4 (q1 H1 (Same.refl H1) _ (nY i j)))
  .exact q1.elim
 .exact q1.elim
def Am(hm:X.mg "range" =ZB)(ha:qf X [a,b] fs)(hg:autoParam (Gl X "range") u_)(hs:autoParam (Oq [a,b] X.env=[(ZD,eval a X.env),(ZD,eval b X.env)]) u_)(hs2:autoParam (Oq [b] X.env=[(ZD,eval b X.env)]) u_):
  Be X tg (.Call (.Name "range" p) [a,b] [] pos) (iR fs):=by
 intro kt s σ H R I ⟨Z,O,E,h⟩;have h1:=fz E h;refine Call_ (fI I hg hm boot_range (Pq (bR (ha pos kt s σ H _ I h1) λus s1 ⟨vs,H1,I1,r1,ts,rs,s',E',q1⟩=>?_) (by rw[hs,hs2]) (by rw[hs2];rfl)));split at q1
 .obtain⟨v,rfl,r⟩:=rs.one;split at q1
  .rename_i j hj;obtain⟨b1,b2⟩:=j0 hj;cases Rep.AC.mp r;cases r1 with
   |cons r rr=>
    cases rr;obtain⟨t,rfl⟩:=r;exact call_range_1 (lj I1 (by omega) (by omega) b1 b2 (q1 H1 (Same.refl H1) _ (nY 0 j)))
  .exact q1.elim
 .obtain⟨v,ws,rfl,p1,q⟩:=Reps.me.mp rs;obtain⟨v2,rfl,r⟩:=q.one;split at q1
  .rename_i i j hj;rw[Oc]at hj;obtain⟨b1,b2⟩:=j0 hj.1;obtain⟨b3,b4⟩:=j0 hj.2;cases Rep.AC.mp p1;cases Rep.AC.mp r;cases r1 with
   |cons r rr=>
    cases rr with
    |cons r' rr=>
     cases rr;obtain⟨t,rfl⟩:=r;obtain⟨t',rfl⟩:=r';exact call_range_2 (lj I1 b1 b2 b3 b4 (q1 H1 (Same.refl H1) _ (nY i j)))
  .exact q1.elim
 .exact q1.elim
end
variable{B:Ow}{D:nL}{N':List Str}{Q:VK}{body:List ZF}{f:W6}{fe:W5}{fi:W3}{ifs:List ZG}{st:ZF}{tgt:T->En->Rs En}
section
variable {a b c:ZG}{fs:W3}{p2:Pos}
noncomputable def bF(src:List (Option Nat))(Z:En):En:=src.map λo=>match o with
 |some i=>match Z[i]? with
  |some (.va t)=>.va t
  |_=>.em
 |none=>.em
noncomputable def dC(tgt:T->En->Rs En)(fc:W6)(fe:W5):List T->W3
 |[],_=>.ok []
 |t::r,Z=>do
  let Z1 <-tgt t Z
  let k <-fc Z1
  if k then do
   let y <-fe Z1
   let ys <-dC tgt fc fe r Z1
   .ok (y::ys)
  else dC tgt fc fe r Z1
noncomputable def fE(fi:W3)(src:List (Option Nat))(tgt:T->En->Rs En)(fc:W6)(fe:W5)(Z:En):Rs T:=do
 let ts <-fi Z
 if ts.length<=ZI then match dC tgt fc fe ts (bF src Z)with
  |.ok ys=>.ok (.lst ys)
  |_=>.bad
 else .bad
def bT(_:En):Rs Bool:=.ok ZC
def tP0(K:N7)(f:W5):TE:=λσ H Q=>∃Z O,EnvO K O H Z σ/\match f Z with
 |.ok t=>∀H',Same H H'->∀v,Rep K O H' t v->Q v H'
 |_=>False
def tPT0(K:N7)(f:W6):TT:=λσ H Q=>∃Z O,EnvO K O H Z σ/\match f Z with
 |.ok t=>∀H',Same H H'->Q t H'
 |_=>False
def tP0.up{f:W5}(h:tP0 X.K f σ H Q):tP X f σ H Q:=by
 obtain⟨Z,O,E,h⟩:=h;refine⟨Z,O,E,?_⟩;cases q:f Z with
 |ok t=>rw[q]at h;exact h
 |err c=>rw[q]at h;exact h.elim
 |bad=>rw[q]at h;exact h.elim
def tPT0.up{Q:Bool->Hp->Prop}(h:tPT0 X.K f σ H Q):Bb X f σ H Q:=by
 obtain⟨Z,O,E,h⟩:=h;refine⟨Z,O,E,?_⟩;cases q:f Z with
 |ok t=>rw[q]at h;exact h
 |err c=>rw[q]at h;exact h.elim
 |bad=>rw[q]at h;exact h.elim
def Fh:z0 X [] (Bb X bT):=λkt s σ H Q I ⟨Z,O,E,h⟩=>yO kt s σ H Q I (h H (Same.refl H))
def Fg(h:wq X c f):z0 X [c] (Bb X f):=FD h
abbrev noM:Mn:=λ_ _=>False
def AJ{src:List (Option Nat)}{o:OT}(e:(bF src Z)[j]?=ZA (.ow o)):False:=by
 unfold bF at e;rw[OH]at e;cases q:src[j]? with
 |none=>rw[q]at e;cases e
 |some o'=>
  rw[q]at e;cases o' with
  |none=>cases e
  |some i=>
   have e':(match Z[i]? with|some (Sl.va t)=>Sl.va t|_=>Sl.em)=Sl.ow o:=O0 e;split at e' <;> cases e'
def vH(E:EnvO K O H Z σ)(src:List (Option Nat)):EnvM K O noM H (bF src Z) (fx src σ) where
 len:=by unfold bF fx;rw[Oa,Oa]
 val:=λj t e=>by
  unfold bF at e;unfold fx;rw[OH]at e ⊢;cases q:src[j]? with
  |none=>rw[q]at e;cases e
  |some o=>
   rw[q]at e;cases o with
   |none=>cases e
   |some i=>
    have e':(match Z[i]? with|some (Sl.va t)=>Sl.va t|_=>Sl.em)=Sl.va t:=O0 e;cases q2:Z[i]? with
    |none=>rw[q2]at e';cases e'
    |some z=>
     rw[q2]at e';cases z with
     |em=>cases e'
     |ow l=>cases e'
     |va t'=>
      cases e';obtain⟨v,e1,e2⟩:=E.val i _ q2;exact⟨v,by simp[e1],e2⟩
 own:=λj o e=>(AJ e).elim
 sub:=λ_ _ z=>z.elim
 dis:=λ_ _ _ z=>z.elim
 trk:=E.mtb
def ORep.no{o:OT}(r:ORep K O ko H o v):False:=by
 cases o with
 |lst l=>obtain⟨a,_,_,e,_⟩:=r;exact(e a).mpr rfl
 |dct ks ts=>obtain⟨a,_,_,e,_⟩:=r;exact(e a).mpr rfl
 |dd ks rows=>obtain⟨a,_,_,_,e,_⟩:=r;exact(e a).mpr (.inl rfl)
 |ob C ns ls=>obtain⟨a,_,_,_,e,_⟩:=r;exact(e a).mpr (.inl rfl)
 |ll ls=>obtain⟨a,_,_,e,_⟩:=r;exact(e a).mpr (.inl rfl)
theorem EnvM.move{P:Ow}(E:EnvM K O noM H Z σ)(hP:∀a,P a->O a\/Nw K H a)(hO:∀a,O' a->O a\/Nw K H a)(h:SameO P H H')(trk:∀a,O' a->Mtb H' a):EnvM K O' noM H' Z σ where
 len:=E.len
 val:=λi t e=>let ⟨v,e1,e2⟩:=E.val i t e;⟨v,e1,e2.move hP hO h⟩
 own:=λi o e=>let ⟨_,_,r⟩:=E.own i o e;r.no.elim
 sub:=λ_ _ z=>z.elim
 dis:=λ_ _ _ z=>z.elim
 trk:=trk
noncomputable def JH(fi:W3)(src:List (Option Nat))(tgt:T->En->Rs En)(fc:W6)(fe:W5)(Z:En):Rs (List T):=fi Z >>= λts=>if ts.length<=ZI then(match dC tgt fc fe ts (bF src Z)with|.ok ys=>Rs.ok ys|_=>.bad)else .bad
def vG{src:List (Option Nat)}{fc:W6}:fE fi src tgt fc fe Z=JH fi src tgt fc fe Z >>= λl=>.ok (.lst l):=by
 unfold fE JH;cases fi Z with
 |bad=>rfl
 |err c=>rfl
 |ok ts=>
  rw[ax,ax];by_cases hz:ts.length<=ZI
  .rw[if_pos hz,if_pos hz];cases dC tgt fc fe ts (bF src Z) <;> rfl
  .rw[if_neg hz,if_neg hz];rfl
def vF{src:List (Option Nat)}{fc:W6}(E:EnvO X.K O H Z σ)
  (hq1:Post X H (JH fi src tgt fc fe Z) λall H1=>∀D ys H',Nw X.K H1 D->Same H1 H'->H' D=ZA (.lst ys)->Reps X.K (λa=>O a\/a=D) H' all ys->Q (.ref D) H'):KZ X.K (tPI X fi) src (Bc X tgt) (tPT0 X.K fc) (tP0 X.K fe) σ H Q:=by
 unfold JH at hq1;refine⟨Z,O,E,Post.mono hq1.bind λts H1 s1 q1 J hJ D hD hK=>?_⟩;have E1:=E.same s1;by_cases hz:ts.length<=ZI
 .rw[if_pos hz]at q1;cases hall:dC tgt fc fe ts (bF src Z)with
  |bad=>rw[hall]at q1;exact q1.elim
  |err c=>rw[hall]at q1;exact q1.elim
  |ok all=>
   rw[hall]at q1;have q2:∀D ys H',Nw X.K H1 D->Same H1 H'->H' D=ZA (.lst ys)->Reps X.K (λa=>O a\/a=D) H' all ys->Q (.ref D) H':=q1 H1 (Same.refl H1);have nD:Nw X.K H1 D:=⟨hD,hK⟩;let O':Ow:=λa=>O a\/a=D;have subO:∀a,O' a->O a\/Nw X.K H1 a:=λa z=>z.elim .inl λw=>.inr (w▸nD);refine⟨λi m σ' ys H'=>m=ts.length - i/\i<=ts.length/\ys.length<=i/\H' D=ZA (.lst ys)/\SameO (λa=>a=D) (upd H1 D (.lst [])) H' ∧
    ∃Z' yts zs,EnvM X.K O' noM H' Z' σ'/\Reps X.K O' H' yts ys/\dC tgt fc fe (ts.drop i) Z'=.ok zs/\yts++zs=all,⟨ts.length,?_⟩,?_⟩
   .have sN:Same H1 (upd H1 D (.lst [])):=aU hD _;refine⟨by omega,Pn _,On _,aM,λb o e _=>e,bF src Z,[],all,?_,Reps.GM,by simpa using hall,rfl⟩;have E2:EnvM X.K O noM H1 (bF src Z) (fx src σ):=vH E1 src;exact E2.move (P:=λa=>a=D) (λa z=>.inr (z▸nD)) subO (λb o e _=>sN b o e) λa z=>by
     rcases z with z|z
     .exact(E1.mtb a z).same sN
     .rw[z];exact .inl ⟨_,aM⟩
   .rintro i m σ' ys H' ⟨rfl,hi',hyl,hDl,hsm,Z',yts,zs,E',ry,hl,hyz⟩;refine⟨hDl,?_⟩;have sm1:SameO (λa=>a=D) H1 H':=λb o e nb=>hsm b o (by rw[aI nb];exact e) nb;have it:=hJ (λa=>a=D) O' (λa z=>.inr (z▸nD)) subO i H' sm1 (λa z=>(E'.trk a z).some);by_cases hlt:i<ts.length
    .refine .inr ?_;have hti:ts[i]?=ZA ts[i]:=by simp
     obtain⟨go,yl⟩:=it.2 ts[i] hti;refine⟨go,by omega,λxx Hc y=>?_⟩;obtain⟨sc,rx⟩:=yl xx Hc y;have Ec:=E'.same sc;rw[PP hlt]at hl;unfold dC at hl;refine⟨Z',O',noM,ts[i],Ec,rx,?_⟩;cases e1:tgt ts[i] Z' with
     |bad=>rw[e1]at hl;cases hl
     |err cc=>rw[e1]at hl;cases hl
     |ok Z1=>
      rw[e1,ax]at hl;intro σ1 Eg;refine⟨Z1,O',⟨noM,Eg⟩,?_⟩;cases e2:fc Z1 with
      |bad=>rw[e2]at hl;cases hl
      |err cc=>rw[e2]at hl;cases hl
      |ok k=>
       rw[e2,ax]at hl;intro H3 s3;have E3:=Eg.same s3;have tot:Same H' H3:=sc.trans s3;have D3:H3 D=ZA (.lst ys):=tot _ _ hDl;have sm3:SameO (λa=>a=D) (upd H1 D (.lst [])) H3:=λb o e nb=>tot _ _ (hsm b o e nb);cases k with
       |false=>
        refine L2.iteF ?_;have hl':dC tgt fc fe (ts.drop (i+1)) Z1=.ok zs:=by simpa using hl
        exact⟨ts.length - (i+1),by omega,rfl,hlt,by omega,D3,sm3,Z1,yts,zs,E3,ry.same tot,hl',hyz⟩
       |true=>
        refine L2.iteT ?_;have hl':(fe Z1 >>= λy=>dC tgt fc fe (ts.drop (i+1)) Z1 >>= λys=>Rs.ok (y::ys))=.ok zs:=by simpa using hl
        refine⟨Z1,O',⟨noM,E3⟩,?_⟩;cases e3:fe Z1 with
        |bad=>rw[e3]at hl';cases hl'
        |err cc=>rw[e3]at hl';cases hl'
        |ok yt=>
         rw[e3,ax]at hl';cases e4:dC tgt fc fe (ts.drop (i+1)) Z1 with
         |bad=>rw[e4]at hl';cases hl'
         |err cc=>rw[e4]at hl';cases hl'
         |ok zs'=>
          rw[e4,ax]at hl';have hzs:yt::zs'=zs:=by injection hl'
          intro H4 s4 v rv;have D4:H4 D=ZA (.lst ys):=s4 _ _ D3;have E4:=E3.same s4;have tot4:Same H' H4:=tot.trans s4;have smD:SameO (λa=>a=D) H4 (upd H4 D (.lst (ys++[v]))):=λb o e nb=>by rw[aI nb];exact e
          have inO:∀a,a=D->O' a\/Nw X.K H4 a:=λa z=>.inl (.inr z);refine⟨D4,ts.length - (i+1),by omega,rfl,hlt,?_,aM,λb o e nb=>smD b o (s4 _ _ (sm3 b o e nb)) nb,Z1,yts++[yt],zs',?_,?_,e4,?_⟩
          .rw[Oh,Pl];omega
          .exact E4.move inO (λa z=>.inl z) smD λaa z=>by
            by_cases hz:aa=D
            .rw[hz];exact .inl ⟨_,aM⟩
            .unfold Mtb;rw[aI hz];exact E4.trk aa z
          .have r1:Reps X.K O' H4 (yts++[yt]) (ys++[v]):=(ry.same tot4).append (Reps.Gc rv Reps.GM);exact r1.move inO (λa z=>.inl z) smD
          .rw[O8,Ub,hzs];exact hyz
    .refine .inl ⟨it.1 (by omega),?_⟩;have hi2:i=ts.length:=by omega
     subst hi2;rw[Sx]at hl;have hzs:zs=[]:=by unfold dC at hl;injection hl with hl;exact hl.symm
     subst hzs;rw[OS]at hyz;subst hyz;have sF:Same H1 H':=λb o e=>sm1 b o e λz=>by rw[z,hD]at e;cases e
     exact q2 D ys H' nD sF hDl ry
 .rw[if_neg hz]at q1;exact q1.elim
def zm{src:List (Option Nat)}{fc:W6}(h0:tP X (fE fi src tgt fc fe) σ H Q):KZ X.K (tPI X fi) src (Bc X tgt) (tPT0 X.K fc) (tP0 X.K fe) σ H Q:=by
 obtain⟨Z,O,E,hq⟩:=h0;refine vF E ?_;have e:fE fi src tgt fc fe Z=JH fi src tgt fc fe Z >>= λl=>.ok (.lst l):=vG;rw[e]at hq;cases q:JH fi src tgt fc fe Z with
 |bad=>rw[q]at hq;exact hq.elim
 |err c=>rw[q]at hq;exact hq
 |ok l=>
  rw[q,ax]at hq;intro H1 s1 D ys H' nD sD eD rD;exact hq H' (s1.trans sD) _ (Rep.Do.mpr ⟨D,ys,rfl,λz=>(E.same s1).fresh nD.1 z,eD,rD.less λa z=>.inl z⟩)
def q_lc{elt:ZG}{src:List (Option Nat)}{fc:W6}
  (hc:X.calm=ZC) (S:LcScope X scope N' src) (hi:Be X tg iter fi)
  (block:∀cl C s₀ H₀ fp,GW (bz X scope cl N' C s₀ H₀ fp) tg tgt/\z0 (bz X scope cl N' C s₀ H₀ fp) ifs (Bb (bz X scope cl N' C s₀ H₀ fp) fc)/\cm (bz X scope cl N' C s₀ H₀ fp) elt fe)
  (hs:autoParam (∀x,O9 iter X.env x=pure x) t_):
  cm X (.ListComp elt [⟨tg,iter,ifs,0⟩] scope pos) (fE fi src tgt fc fe):=by
 have hPG:∀cl C s₀ H₀ fp,PG (bz X scope cl N' C s₀ H₀ fp) tg (Bc X tgt):=λcl C s₀ H₀ fp=>(block cl C s₀ H₀ fp).1;have hPI:∀cl C s₀ H₀ fp,z0 (bz X scope cl N' C s₀ H₀ fp) ifs (tPT0 X.K fc):=λcl C s₀ H₀ fp kt s σ H Q I h=>(block cl C s₀ H₀ fp).2.1 kt s σ H Q I (tPT0.up (X:=bz X scope cl N' C s₀ H₀ fp) h);have hPE:∀cl C s₀ H₀ fp,PE (bz X scope cl N' C s₀ H₀ fp) elt (tP0 X.K fe):=λcl C s₀ H₀ fp kt s σ H Q I h=>(block cl C s₀ H₀ fp).2.2 kt s σ H Q I (tP0.up (X:=bz X scope cl N' C s₀ H₀ fp) h);exact PE.imp (yS (g:=Bc X tgt) (tc:=tPT0 X.K fc) (te:=tP0 X.K fe) hc S hi (λcl C s₀ H₀ fp=>⟨hPG cl C s₀ H₀ fp,hPI cl C s₀ H₀ fp,hPE cl C s₀ H₀ fp⟩) hs) λσ H Q h=>zm h
inductive Fl where
 |nx (Z:En)|rt (t:T)|bk (Z:En)|ct (Z:En)
abbrev W4:=En->Rs Fl
def OO(B:Ow)(M:Mn):Ow:=λa=>B a\/M.u a
structure Ev (K:N7)(B:Ow)(M:Mn)(H:Hp)(Z:En)(σ:L2.St):Prop where
 env:EnvM K (OO B M) M H Z σ
 mine:∀a,M.u a->¬ B a
theorem Ev.same(h:Same H H')(e:Ev K B M H Z σ):Ev K B M H' Z σ:=⟨e.env.same h,e.mine⟩
def Ev.o(e:Ev K B M H Z σ):EnvO K (OO B M) H Z σ:=⟨M,e.env⟩
def PostF(X:Cx)(B P:Ow)(H:Hp)(r:Rs Fl)(D:nL):Prop:=match r with
 |.ok (.nx Z')=>∀σ' H' M',SameO P H H'->Ev X.K B M' H' Z' σ'->(∀a,M'.u a->P a\/Nw X.K H a)->D.nx σ' H'
 |.ok (.rt t)=>∀v H',SameO P H H'->Rep X.K B H' t v->D.rt v H'
 |.ok (.bk Z')=>∀σ' H' M',SameO P H H'->Ev X.K B M' H' Z' σ'->(∀a,M'.u a->P a\/Nw X.K H a)->D.bk σ' H'
 |.ok (.ct Z')=>∀σ' H' M',SameO P H H'->Ev X.K B M' H' Z' σ'->(∀a,M'.u a->P a\/Nw X.K H a)->D.ct σ' H'
 |.err c=>XA X P H c
 |.bad=>False
def MU(X:Cx)(F:W4):TS:=λD σ H=>∃Z B M,Ev X.K B M H Z σ/\PostF X B M.u H (F Z) D
abbrev oj(X:Cx)(s:ZF)(F:W4):Prop:=PS X s (MU X F)
abbrev mI(X:Cx)(s:List ZF)(F:W4):Prop:=PSs X s (MU X F)
theorem PostF.later{P P1:Ow}{H1:Hp}{r:Rs Fl}(h:PostF X B P H r D)(s:SameO P H H1)(sub:∀a,P1 a->P a\/Nw X.K H a):PostF X B P1 H1 r D:=by
 have back:∀a,P1 a\/Nw X.K H1 a->P a\/Nw X.K H a:=λa z=>z.elim (sub a) (fq s);cases r with
 |bad=>exact h
 |err c=>exact XA.later h s sub
 |ok f=>
  cases f with
  |nx Z'=>exact λσ' H' M' s' E' o'=>h σ' H' M' (s.trans s' sub) E' λa z=>back a (o' a z)
  |rt t=>exact λv H' s' r=>h v H' (s.trans s' sub) r
  |bk Z'=>exact λσ' H' M' s' E' o'=>h σ' H' M' (s.trans s' sub) E' λa z=>back a (o' a z)
  |ct Z'=>exact λσ' H' M' s' E' o'=>h σ' H' M' (s.trans s' sub) E' λa z=>back a (o' a z)
def PostF.xa{P:Ow}{c:Str}(h:PostF X B P H (.err c) D):XA X ko H c:=XA.later (P:=P) h (λ_ _ e _=>e) λ_ z=>z.elim
def sN(Z:En):Rs Fl:=.ok (.nx Z)
noncomputable def aF(F G:W4)(Z:En):Rs Fl:=do
 let f <-F Z
 match f with
 |.nx Z'=>G Z'
 |f=>.ok f
def Iu:mI X [] sN:=PSs.imp yM λD σ H ⟨Z,B,M,E,h⟩=>h σ H M (λ_ _ e _=>e) E λa z=>.inl z
def Fc{bK:List ZF}{F G:W4}(h1:oj X st F)(h2:mI X bK G):mI X (st::bK) (aF F G):=PSs.imp (oQ h1 h2) λD σ H hh_=>by
 obtain⟨Z,B,M,E,h⟩:=hh_;refine⟨Z,B,M,E,?_⟩;unfold aF at h;cases q:F Z with
 |bad=>rw[q]at h;exact h.elim
 |err c=>rw[q]at h;exact h
 |ok f=>
  rw[q,ax]at h;cases f with
  |nx Z'=>exact λσ' H' M' s' E' o'=>⟨Z',B,M',E',h.later s' o'⟩
  |rt t=>exact h
  |bk Z'=>exact h
  |ct Z'=>exact h
def Ir{F:W4}(h:oj X st F):mI X [st] F:=nR h
noncomputable def aV(f:W5)(Z:En):Rs Fl:=do
 let t <-f Z
 .ok (.rt t)
def Ip(ha:cm X a fa):oj X (.Return (ZA a) pos) (aV fa):=PS.imp (xc ha) λD σ H hh_=>by
 obtain⟨Z,B,M,E,h⟩:=hh_;refine⟨Z,OO B M,E.o,?_⟩;unfold aV at h;cases q:fa Z with
 |bad=>rw[q]at h;exact h.elim
 |err c=>rw[q]at h;exact PostF.xa h
 |ok t=>
  rw[q,ax]at h;exact λH' s v r=>h v H' (SameO.of s) (r.less λ_ z=>.inl z)
noncomputable def i7(f:W6)(F G:W4)(Z:En):Rs Fl:=do
 let k <-f Z
 if k then F Z else G Z
def Lj{A B:List ZF}{F G:W4}(hc:wq X c f)(ha:mI X A F)(hb:mI X B G):oj X (.If c A B pos) (i7 f F G):=PS.imp (BV hc ha hb) λD σ H hh_=>by
 obtain⟨Z,B,M,E,h⟩:=hh_;refine⟨Z,OO B M,E.o,?_⟩;unfold i7 at h;cases q:f Z with
 |bad=>rw[q]at h;exact h.elim
 |err c=>rw[q]at h;exact PostF.xa h
 |ok k=>
  rw[q,ax]at h;intro H' s;have E':Ev X.K B M H' Z σ:=E.same s;cases k with
  |true=>refine L2.iteT ?_;exact⟨Z,B,M,E',PostF.later (by simpa using h) (SameO.of s) λa z=>.inl z⟩
  |false=>refine L2.iteF ?_;exact⟨Z,B,M,E',PostF.later (by simpa using h) (SameO.of s) λa z=>.inl z⟩
noncomputable def dh(f:W5)(g:T->En->Rs En)(Z:En):Rs Fl:=do
 let t <-f Z
 match g t Z with
 |.ok Z'=>.ok (.nx Z')
 |_=>.bad
variable{f:W5}
def BI(E:Ev X.K B M H Z σ)(h:PostF X B M.u H (dh f g Z) D):EN (tP X f) (Bc X g) D σ H:=by
 refine⟨Z,OO B M,E.o,?_⟩;unfold dh at h;cases q:f Z with
 |bad=>rw[q]at h;exact h.elim
 |err c=>rw[q]at h;exact PostF.xa h
 |ok t=>
  rw[q,ax]at h;intro H' s v r;refine⟨Z,OO B M,M,t,E.env.same s,r,?_⟩;cases q2:g t Z with
  |bad=>rw[q2]at h;exact h.elim
  |err c=>rw[q2]at h;exact h.elim
  |ok Z'=>
   rw[q2]at h;exact λσ' E'=>h σ' H' M (SameO.of s) ⟨E',E.mine⟩ λa z=>.inl z
def yC{Q':VK}(h:tP X f σ H Q)(w:∀v H',Q v H'->Q' v H'):tP X f σ H Q':=by obtain⟨Z,O,E,q⟩:=h;exact⟨Z,O,E,Post.mono q λt H' _ z v r=>w v H' (z v r)⟩
def Li{elt:ZG}{spos py:Pos}{src:List (Option Nat)}{fc:W6}(i:Nat){y:Str}
  (hc:X.calm=ZC) (S:LcScope X scope N' src) (hi:Be X tg iter fi)
  (block:∀cl C s₀ H₀ fp,GW (bz X scope cl N' C s₀ H₀ fp) tg tgt/\z0 (bz X scope cl N' C s₀ H₀ fp) ifs (Bb (bz X scope cl N' C s₀ H₀ fp) fc)/\cm (bz X scope cl N' C s₀ H₀ fp) elt fe)
  (hN:X.N.Nodup) (hiy:autoParam (X.N[i]?=ZA y) u_) (hy:autoParam (Loc X.env.scope y) y_) (hsw:autoParam (Pb (.ListComp elt [⟨tg,iter,ifs,0⟩] scope pos) (ZA (.Name y py)) spos.line X.env=pure ZC) u_)
  (hf:autoParam (X.fn y=ZC\/X.env.scope.names.lookup y=ZA .local) r_) (hs:autoParam (∀x,O9 iter X.env x=pure x) t_):
  oj X (.Assign [.Name y py] (.ListComp elt [⟨tg,iter,ifs,0⟩] scope pos) spos) (dh (fE fi src tgt fc fe) (gN i)):=by
 have hPG:∀cl C s₀ H₀ fp,PG (bz X scope cl N' C s₀ H₀ fp) tg (Bc X tgt):=λcl C s₀ H₀ fp=>(block cl C s₀ H₀ fp).1;have hPI:∀cl C s₀ H₀ fp,z0 (bz X scope cl N' C s₀ H₀ fp) ifs (tPT0 X.K fc):=λcl C s₀ H₀ fp kt s σ H Q I h=>(block cl C s₀ H₀ fp).2.1 kt s σ H Q I (tPT0.up (X:=bz X scope cl N' C s₀ H₀ fp) h);have hPE:∀cl C s₀ H₀ fp,PE (bz X scope cl N' C s₀ H₀ fp) elt (tP0 X.K fe):=λcl C s₀ H₀ fp kt s σ H Q I h=>(block cl C s₀ H₀ fp).2.2 kt s σ H Q I (tP0.up (X:=bz X scope cl N' C s₀ H₀ fp) h);refine PS.imp (Hb (g:=Bc X tgt) (tc:=tPT0 X.K fc) (te:=tP0 X.K fe) (i:=i) hc S hi (λcl C s₀ H₀ fp=>⟨hPG cl C s₀ H₀ fp,hPI cl C s₀ H₀ fp,hPE cl C s₀ H₀ fp⟩) hN hiy hy hsw hf hs) λD σ H ⟨Z,B,M,E,h⟩=>zm (yC (BI E h) λv H' z=>?_);obtain⟨Z',O,M',t,E',r,q⟩:=z;unfold gN at q;split at q
 .rename_i Z2 e;split at e
  .rename_i hl;cases e;exact q _ (E'.set hl r)
  .cases e
 .exact q.elim
def IC(ha:cm X a fa)(hg:GW X tg g)(hs:autoParam (Va [tg] a pos.line X.env=pure ZD) u_)(hw:autoParam (Vb [tg] a X.env=pure ZB) u_)
  (h1:autoParam ((Qc [tg] X.env).map (·.2)=[assign tg X.env]) u_):oj X (.Assign [tg] a pos) (dh fa g):=PS.imp (IV ha hg hs hw h1) λD σ H ⟨Z,B,M,E,h⟩=>BI E h
noncomputable def mK(f:W5)(Z:En):Rs Fl:=do
 let _ <-f Z
 .ok (.nx Z)
def Fb(ha:cm X a fa)(hs:autoParam (Pb a ZB pos.line X.env=pure ZD) u_):oj X (.Expr a pos) (mK fa):=PS.imp (iw ha hs) λD σ H hh_=>by
 obtain⟨Z,B,M,E,h⟩:=hh_;refine⟨Z,OO B M,E.o,?_⟩;unfold mK at h;cases q:fa Z with
 |bad=>rw[q]at h;exact h.elim
 |err c=>rw[q]at h;exact PostF.xa h
 |ok t=>
  rw[q,ax]at h;exact λH' s v r=>h σ H' M (SameO.of s) (E.same s) λa z=>.inl z
noncomputable def bq(g:T->En->Rs En)(F:W4):List T->W4
 |[],Z=>.ok (.nx Z)
 |t::r,Z=>do
  let Z1 <-g t Z
  let f <-F Z1
  match f with
  |.nx Z2=>bq g F r Z2
  |.ct Z2=>bq g F r Z2
  |.bk Z2=>.ok (.nx Z2)
  |.rt t=>.ok (.rt t)
noncomputable def gE(fi:W3)(g:T->En->Rs En)(F:W4)(Z:En):Rs Fl:=do
 let ts <-fi Z
 match bq g F ts Z with
 |.ok f=>.ok f
 |_=>.bad
def md{t:Sem α}{Q:α->Ob->Prop}(h:ZJ (ZK P w) A t Q (λ_ _=>False) s):ZJ (ZK P w) A t Q E s:=PX h (λ_ _ q=>q) λ_ _ z=>z.elim
def yN{wi:TI}{g:TG}{tb:TS}(hc:X.calm=ZC)(hi:PI X tg iter wi)(hg:PG X.nox tg g)(hb:PSs X.nox body tb)
  (hs:autoParam (∀x,O9 iter X.env x=pure x) t_):PS X (.For tg iter body [] pos) (tFor wi g tb):=by
 intro kt s σ H D I h;refine wpAny_For (bR (hi kt s σ H _ I h) λv s1 h1=>bR h1 λitv s2 h2=>?_) hs;obtain⟨it,fp,tn,J,H2,e,I2,T,st2,f2,W,⟨m0,w0⟩,turn⟩:=h2;subst e;have stat:∀{H':Hp},(∀b∈fp,H' b=ZB)->∀b∈fp,p6 X kt H' b:=λhn b hb=>⟨hn b hb,(f2 b hb).2⟩;refine codeAny_forLoop_any (λn s'=>∃i σ' H',Inv X kt σ' H' s'/\tn i s'.heap/\(∀b∈fp,H' b=ZB)/\W i n σ' H') ?_ m0 ⟨0,σ,H2,I2,st2,λb hb=>(f2 b hb).1,w0⟩;rintro n s3 ⟨i,σ3,H3,I3,st3,fr3,w3⟩;rcases turn i n σ3 H3 w3 with⟨stop,qn⟩|⟨go,N,hN,step⟩
 .refine md (bR (T.done X.nox rfl rfl rfl hc i kt s3 σ3 H3 _ (I3.FB _) (stat fr3) st3 stop) λr s4 ⟨hr,I4⟩=>?_);subst hr;exact R0 ⟨σ3,H3,I4.FB _,qn⟩
 .refine md (bR (T.item X.nox rfl rfl rfl hc i kt s3 σ3 H3 _ (I3.FB _) (stat fr3) st3 go) λr s4 ⟨u,hr,h4⟩=>?_);subst hr;refine md (bR h4 λ_ s5 hh_=>?_);obtain⟨x,H5,I5,r5,y5,st5,fr5⟩:=hh_;have I5':=Inv.pinned (X:=X.nox) I5 (stat fr5) (T.obj _ _ st5);refine md (bR (hg _ s5 σ3 H5 x u _ I5' r5 (step x H5 y5)) λ_ s6 hh_=>?_);obtain⟨σ6,H6,I6,q6⟩:=hh_;refine md (bR (hb _ s6 σ6 H6 _ I6 q6) λf s7 q7=>?_);have again:∀{σ7:L2.St}{H7:Hp},Inv X.nox (kt++oS fp s5.heap) σ7 H7 s7->N σ7 H7->∃m,m<n/\∃i σ' H',Inv X kt σ' H' s7/\tn i s7.heap/\(∀b∈fp,H' b=ZB)/\W i m σ' H':=λ{σ7 H7} I7 n7=>by obtain⟨m',hm,w7⟩:=hN σ7 H7 n7;refine⟨m',hm,i+1,σ7,H7,(Inv.Ng (X:=X.nox) I7).FB _,T.keep _ _ _ st5 λb hb o e=>(I7.pin (b,o) (ON _ (ON _ (iz hb e)))).1,λb hb=>?_,w7⟩;obtain⟨o,e,d⟩:=T.obj _ _ st5 b hb;exact(I7.pin (b,o) (ON _ (ON _ (iz hb e)))).2.1
  cases f with
  |next=>obtain⟨σ7,H7,I7,n7⟩:=q7;exact again I7 n7
  |cont=>obtain⟨σ7,H7,I7,n7⟩:=q7;exact again I7 n7
  |brk=>obtain⟨σ7,H7,I7,q7⟩:=q7;exact⟨σ7,H7,(Inv.Ng (X:=X.nox) I7).FB _,q7⟩
  |ret v=>obtain⟨x7,σ7,H7,I7,r7,q7⟩:=q7;exact⟨x7,σ7,H7,(Inv.Ng (X:=X.nox) I7).FB _,r7,q7⟩
def Iw{F:W4}(hc:X.calm=ZC)(hi:Be X tg iter fi)(hg:GW X.nox tg g)(hb:mI X.nox body F)
  (hs:autoParam (∀x,O9 iter X.env x=pure x) t_):oj X (.For tg iter body [] pos) (gE fi g F):=PS.imp (yN hc hi hg hb hs) λD σ H hh_=>by
 obtain⟨Z,B,M,E,h⟩:=hh_;refine⟨Z,OO B M,E.o,?_⟩;unfold gE at h;cases q:fi Z with
 |bad=>rw[q]at h;exact h.elim
 |err c=>rw[q]at h;exact PostF.xa h
 |ok ts=>
  rw[q,ax]at h;cases qq:bq g F ts Z with
  |bad=>rw[qq]at h;exact h.elim
  |err c=>rw[qq]at h;exact h.elim
  |ok fin=>
  rw[qq]at h;intro H1 s1 J hJ;have E1:Ev X.K B M H1 Z σ:=E.same s1;have h1:PostF X B M.u H1 (.ok fin) D:=PostF.later h (SameO.of s1) λa z=>.inl z;refine⟨λi m σ' H'=>m=ts.length - i/\i<=ts.length/\SameO M.u H1 H'/\∃Z' M',Ev X.K B M' H' Z' σ'/\(∀a,M'.u a->M.u a\/Nw X.K H1 a)/\bq g F (ts.drop i) Z'=.ok fin,
   ⟨ts.length,by omega,Pn _,λ_ _ e _=>e,Z,M,E1,λa z=>.inl z,by simpa using qq⟩,?_⟩
  rintro i m σ' H' ⟨rfl,hi',sm,Z',M',E',ow,hl⟩;have it:=hJ M.u (OO B M') (λa z=>.inl (.inr z)) (λa z=>z.elim (λw=>.inl (.inl w)) λw=>(ow a w).elim (λy=>.inl (.inr y)) .inr) i H' sm (λa z=>(E'.env.trk a z).some);by_cases hlt:i<ts.length
  .have hti:ts[i]?=ZA ts[i]:=by simp
   obtain⟨go,yl⟩:=it.2 ts[i] hti;rw[PP hlt]at hl;unfold bq at hl;refine .inr ⟨go,λσ2 H2=>∃m',m'<ts.length - i/\(m'=ts.length - (i+1)/\i+1<=ts.length/\SameO M.u H1 H2/\∃Z2 M2,Ev X.K B M2 H2 Z2 σ2/\(∀a,M2.u a->M.u a\/Nw X.K H1 a)/\bq g F (ts.drop (i+1)) Z2=.ok fin),λσ2 H2 z=>z,λx Hc y=>?_⟩;obtain⟨sc,rx⟩:=yl x Hc y;refine⟨Z',OO B M',M',ts[i],E'.env.same sc,rx,?_⟩;cases e1:g ts[i] Z' with
   |bad=>rw[e1]at hl;cases hl
   |err cc=>rw[e1]at hl;cases hl
   |ok Z1=>
    rw[e1,ax]at hl;intro σ1 Eg;have E2:Ev X.K B M' Hc Z1 σ1:=⟨Eg,E'.mine⟩;refine⟨Z1,B,M',E2,?_⟩;have smc:SameO M.u H1 Hc:=λb o e n=>sc _ _ (sm b o e n);have onward:∀{σ3:L2.St}{H3:Hp}{Z3:En}{M3:Mn},SameO M'.u Hc H3->Ev X.K B M3 H3 Z3 σ3->(∀a,M3.u a->M'.u a\/Nw X.K Hc a)->bq g F (ts.drop (i+1)) Z3=.ok fin ->
      ∃m',m'<ts.length - i/\(m'=ts.length - (i+1)/\i+1<=ts.length/\SameO M.u H1 H3/\∃Z2 M2,Ev X.K B M2 H3 Z2 σ3/\(∀a,M2.u a->M.u a\/Nw X.K H1 a)/\bq g F (ts.drop (i+1)) Z2=.ok fin):=
     λ{σ3 H3 Z3 M3} s3 E3 o3 p3=>⟨_,by omega,rfl,hlt,smc.trans s3 ow,Z3,M3,E3,λa z=>(o3 a z).elim (ow a) (fq smc),p3⟩
    cases e2:F Z1 with
    |bad=>rw[e2]at hl;cases hl
    |err cc=>rw[e2]at hl;cases hl
    |ok f=>
     rw[e2,ax]at hl;cases f with
     |nx Z2=>exact λσ3 H3 M3 s3 E3 o3=>onward s3 E3 o3 hl
     |ct Z2=>exact λσ3 H3 M3 s3 E3 o3=>onward s3 E3 o3 hl
     |bk Z2=>
      cases hl;exact λσ3 H3 M3 s3 E3 o3=>h1 σ3 H3 M3 (smc.trans s3 ow) E3 λa z=>(o3 a z).elim (ow a) (fq smc)
     |rt t=>
      cases hl;exact λv H3 s3 r=>h1 v H3 (smc.trans s3 ow) r
  .refine .inl ⟨it.1 (by omega),?_⟩;have hi2:i=ts.length:=by omega
   subst hi2;rw[Sx]at hl;cases hl;exact h1 σ' H' M' sm E' ow
noncomputable def bJ(c:W6)(F:W4):Nat->W4
 |0,_=>.bad
 |n+1,Z=>match c Z with
  |.ok ZD=>.ok (.nx Z)
  |.ok ZC=>match F Z with
   |.ok (.nx Z')=>bJ c F n Z'
   |.ok (.ct Z')=>bJ c F n Z'
   |.ok (.bk Z')=>.ok (.nx Z')
   |.ok (.rt t)=>.ok (.rt t)
   |_=>.bad
  |_=>.bad
def BL{fc:W6}{F:W4}(n:Nat)(hc:wq X.nox c fc)(hb:mI X.nox body F):oj X (.While c body [] pos) (bJ fc F n):=by
 have base:PS X.nox (.While c body [] pos) (wR (Bb X.nox fc) (MU X.nox F)):=BU PassesOwn.never hc hb;intro kt s σ H D I ⟨Z,B,M,E,h⟩;cases qq:bJ fc F n Z with
 |bad=>rw[qq]at h;exact h.elim
 |err c=>
  exfalso;have:∀n Z,bJ fc F n Z≠ .err c:=by
   intro n;induction n with
   |zero=>intro Z z;cases z
   |succ n ih=>
    intro Z z;unfold bJ at z;split at z
    .cases z
    .split at z <;> first|exact ih _ z|cases z
    .cases z
  exact this n Z qq
 |ok fin=>
  rw[qq]at h;have goal:wR (Bb X.nox fc) (MU X.nox F) D σ H:=by
   refine⟨λm σ' H'=>SameO M.u H H'/\∃Z' M',Ev X.K B M' H' Z' σ'/\(∀a,M'.u a->M.u a\/Nw X.K H a)/\bJ fc F m Z'=.ok fin,⟨n,λ_ _ e _=>e,Z,M,E,λa z=>.inl z,qq⟩,?_⟩;rintro m σ' H' ⟨sm,Z',M',E',ow,hl⟩;cases m with
   |zero=>cases hl
   |succ m=>
    refine⟨Z',OO B M',E'.o,?_⟩;unfold bJ at hl;cases e1:fc Z' with
    |bad=>rw[e1]at hl;cases hl
    |err cc=>rw[e1]at hl;cases hl
    |ok k=>
     rw[e1]at hl;intro H2 s2;have E2:Ev X.K B M' H2 Z' σ':=E'.same s2;have sm2:SameO M.u H H2:=λb o e n=>s2 _ _ (sm b o e n);cases k with
     |false=>
      cases hl;refine L2.iteF ?_;exact h σ' H2 M' sm2 E2 ow
     |true=>
      refine L2.iteT ?_;refine⟨λσ3 H3=>SameO M.u H H3/\∃Z3 M3,Ev X.K B M3 H3 Z3 σ3/\(∀a,M3.u a->M.u a\/Nw X.K H a)/\bJ fc F m Z3=.ok fin,λσ3 H3 z=>⟨m,TV m,z⟩,Z',B,M',E2,?_⟩;have hl':(match F Z' with|.ok (.nx Z')=>bJ fc F m Z'|.ok (.ct Z')=>bJ fc F m Z'|.ok (.bk Z')=>.ok (.nx Z')|.ok (.rt t)=>.ok (.rt t)|_=>.bad)=.ok fin:=hl;cases e2:F Z' with
      |bad=>rw[e2]at hl';cases hl'
      |err cc=>rw[e2]at hl';cases hl'
      |ok f=>
       rw[e2]at hl';cases f with
       |nx Z2=>exact λσ3 H3 M3 s3 E3 o3=>⟨sm2.trans s3 ow,Z2,M3,E3,λa z=>(o3 a z).elim (ow a) (fq sm2),hl'⟩
       |ct Z2=>exact λσ3 H3 M3 s3 E3 o3=>⟨sm2.trans s3 ow,Z2,M3,E3,λa z=>(o3 a z).elim (ow a) (fq sm2),hl'⟩
       |bk Z2=>
        cases hl';exact λσ3 H3 M3 s3 E3 o3=>h σ3 H3 M3 (sm2.trans s3 ow) E3 λa z=>(o3 a z).elim (ow a) (fq sm2)
       |rt t=>
        cases hl';exact λv H3 s3 r=>h v H3 (sm2.trans s3 ow) r
  refine md (bR (base kt s σ H D (I.FB _) goal) λf s' q=>?_);cases f with
  |next=>obtain⟨σ7,H7,I7,n7⟩:=q;exact⟨σ7,H7,I7.FB _,n7⟩
  |cont=>obtain⟨σ7,H7,I7,n7⟩:=q;exact⟨σ7,H7,I7.FB _,n7⟩
  |brk=>obtain⟨σ7,H7,I7,n7⟩:=q;exact⟨σ7,H7,I7.FB _,n7⟩
  |ret v=>obtain⟨x7,σ7,H7,I7,r7,q7⟩:=q;exact⟨x7,σ7,H7,I7.FB _,r7,q7⟩
def K8(Z:En):Rs Fl:=.ok (.ct Z)
end
noncomputable def dY(F:W4)(Z:En):Rs T:=do
 let f <-F Z
 match f with
 |.nx _=>.ok .non
 |.rt t=>.ok t
 |_=>.bad
noncomputable def bx(n:Nat)(ts:List T):En:=ts.map Sl.va++OK (n - ts.length) Sl.em
variable{ts:List T}
def Ah{o:OT}(e:(bx n ts)[i]?=ZA (.ow o)):False:=by
 unfold bx at e;by_cases hi:i<ts.length
 .rw[OW (by simpa using hi),OH,OA hi]at e;cases e
 .rw[P5 (by simpa using hi),Pk]at e;split at e <;> cases e
variable{N:List Str}
def qT(r:Reps K O H ts vs)(hl:ts.length<=N.length)(trk:∀a,O a->Mtb H a):Ev K O noM H (bx N.length ts) (start N vs):=by
 have hlen:=r.length;have sub:∀a,OO O noM a->O a:=λa z=>z.elim id λ⟨_,w⟩=>w.elim;refine⟨⟨by unfold bx L2.start;simp;omega,λi t e=>?_,λi o e=>(Ah e).elim,λ_ _ z=>z.elim,λ_ _ _ z=>z.elim,λa z=>trk a (sub a z)⟩,λa ⟨_,z⟩=>z.elim⟩;unfold bx at e;unfold L2.start;by_cases hi:i<ts.length
 .rw[OW (by simpa using hi),OH,OA hi]at e;have e':ts[i]=t:=by injection e with e;injection e
  obtain⟨v,e1,e2⟩:=r.get (i:=i) (t:=t) (by rw[<-e'];simp);refine⟨v,?_,e2.less sub⟩;rw[OW (by simp;omega),OH,e1];rfl
 .rw[P5 (by simpa using hi),Pk]at e;split at e <;> cases e
section
variable {mg:W0}{base:ZH}
def MA{qual:Str}{f:ZE}{g:List T->Rs T}(Fn:L2.Fun K x qual st f fd)(S:bo N ps (ao st))(hn:ps.length=n)
  (hbody:∀(cdv:N9)(A:OY)(outer:List Env)(s:Ob)(H:Hp)(E:XK),Room k (A.deeper (envOfC qual (ao st) s.heap.objs.size f cdv)) ->
   ∃F,mI (gf CX0 P w K mg base N qual (ao st) f cdv A outer s H E).nox (bD st) F/\∀ts,ts.length=n->∀t,g ts=.ok t->dY F (bx N.length ts)=.ok t):p7 P w K mg base CX0 (k+1) f fd ps (spP K n g):=by
 have hpl:ps.length<=N.length:=by have:=congrArg QQ S.pre;rw[PQ]at this;omega
 refine Fn.ok S (λvs H Q E h=>?_) (λcdv A outer s H vs Q E hr h=>?_)
 .obtain⟨ts,O,r,_,hl,_⟩:=h;rw[<-r.length,hl,hn]
 .obtain⟨ts,O,r,trk,hl,h⟩:=h;obtain⟨F,hF,hv⟩:=hbody cdv A outer s H E hr;refine⟨_,hF,bx N.length ts,O,noM,qT r (by omega) trk,?_⟩;have no:∀a,¬noM.u a:=λa ⟨_,z⟩=>z;cases q:g ts with
  |bad=>rw[q]at h;exact h.elim
  |err c=>rw[q]at h;exact h.elim
  |ok t=>
   rw[q]at h;have hb:=hv ts hl t q;unfold dY at hb;cases q2:F (bx N.length ts)with
   |bad=>rw[q2]at hb;cases hb
   |err c=>rw[q2]at hb;cases hb
   |ok fl=>
    rw[q2,ax]at hb;have sameOf:∀H',SameO noM.u H H'->Same H H':=λH' s b o e=>s b o e (no b);cases fl with
    |nx Z'=>cases hb;exact λσ' H' M' s' E' o'=>h .non H' (sameOf H' s') Rep.NC
    |rt t'=>cases hb;exact λv H' s' r'=>h v H' (sameOf H' s') r'
    |bk Z'=>cases hb
    |ct Z'=>cases hb
end
end Tr
namespace Enu
open PySem
open AutoSeq1 (wpAny_loadPart')
variable{its:Array N9}
def EJ{it tt:ZE}{x:N9}(hi:s.heap.IsTupleIter it tt k)(ht:s.heap.IsTuple tt its)(hx:its[k]?=ZA x)
  (hQ:∀h',h'.IsTupleIter it tt (k+1)->RP it s.heap h'->Q x {s with heap:=h'}):ZJ (ZK prog w) A (QP (.ref it)) Q E s:=by
 obtain⟨ob,g1,g2,g3⟩:=id hi;obtain⟨ot,k1,_,m,k3⟩:=ht;unfold QP;refine Od (Qm (name:=Ot "__next__") hi.typeIs Qz (Rc Qz hi.typeIs SY ?_ (SL _)));show ZJ (ZK prog w) _ (field (.ref it) 0 >>= _) _ _ s;refine Od (QU g1 g3 (x:=.ref tt) rfl ?_);show ZJ (ZK prog w) _ (if (OF tt == O7)=ZC then _ else _) _ _ s;rw[if_neg (show ¬((OF tt == O7)=ZC)by exact OB)];show ZJ (ZK prog w) _ (field (.ref it) 1 >>= _) _ _ s;refine Od (QU g1 g3 (x:=.int k 0) rfl ?_);show ZJ (ZK prog w) _ (seqItems? (.ref tt) >>= _) _ _ s;refine Od (UJ k1 k3 ?_);simp only[hx,Qa];refine Od (UK g1 g3 (by simp) (Ou ⟨x,rfl,Ou (hQ _ ?_ (UL ..))⟩));refine⟨_,Sj _ g1 (Sk (QH g3 _)),(Obj.cls_mapFields ..).trans g2,?_⟩;rw[QH g3];simp[rawInt]
def tupStop{it tt:ZE}(hh:A.handled=ZB)(hi:s.heap.IsTupleIter it tt k)(ht:s.heap.IsTuple tt its)(hx:its[k]?=ZB)
  (hE:∀h' e,Heap.ExtBut it s.heap h'->(∃o,h'.get? e=ZA o/\o.cls=.type "StopIteration")->E (.ref e) {s with heap:=h'}):ZJ (ZK prog w) A (QP (.ref it)) Q E s:=by
 obtain⟨ob,g1,g2,g3⟩:=id hi;obtain⟨ot,k1,_,m,k3⟩:=ht;unfold QP;refine Od (Qm (name:=Ot "__next__") hi.typeIs Qz (Rc Qz hi.typeIs SY ?_ (SL _)));show ZJ (ZK prog w) _ (field (.ref it) 0 >>= _) _ _ s;refine Od (QU g1 g3 (x:=.ref tt) rfl ?_);show ZJ (ZK prog w) _ (if (OF tt == O7)=ZC then _ else _) _ _ s;rw[if_neg (show ¬((OF tt == O7)=ZC)by exact OB)];show ZJ (ZK prog w) _ (field (.ref it) 1 >>= _) _ _ s;refine Od (QU g1 g3 (x:=.int k 0) rfl ?_);show ZJ (ZK prog w) _ (seqItems? (.ref tt) >>= _) _ _ s;refine Od (UJ k1 k3 ?_);simp only[hx,Qa];refine Od (SQ (Od (UK g1 g3 (by simp) ?_)));show ZJ (ZK prog w) _ (newExc (.type "StopIteration") [] >>= _) _ _ _;refine Od ?_;simp only[newTuple,newExc];refine Od (Qd ?_ (by size_fits));refine Od (m:=firstArgMember _ _) (wpAny_of_eq (a:=O7) (by first| (simp only[firstArgMember];rfl)|rfl) ?_);refine Qd ?_ (by size_fits);simp only[raiseNew];refine Od (wpAny_handled ?_);first|rw[hh]|rw[show A.in1.handled=ZB from hh]
 refine Od (Ou (wpAny_throw ?_));refine hE _ _ (((UL ..).extBut.push _).push _) ⟨_,OI _ rfl,rfl⟩
def tupDraws(hh:A.handled=ZB)(it tt:ZE)(hne:tt≠it)(its:Array N9):
  Draws prog w A it [it,tt] its.size (λi v=>its[i]?=ZA v) (λi h=>h.IsTupleIter it tt i/\h.IsTuple tt its) where
 live:=λ_ _ st=>by obtain⟨o,ho,_⟩:=st.1;exact⟨o,ho⟩
 frame:=λ_ _ _ st hk=>by obtain⟨⟨o,e,r⟩,⟨o',e',r'⟩⟩:=st;exact⟨⟨o,hk it (by simp) o e,r⟩,⟨o',hk tt (by simp) o' e',r'⟩⟩
 item:=λi s Q E hi st hQ=>by refine EJ st.1 st.2 (x:=its[i]) (by simp[hi]) λh' hit' hs'=>?_;obtain⟨o',e',r'⟩:=st.2;exact hQ _ h' s.toks (by simp[hi]) ⟨hit',⟨o',(hs'.2 tt hne).trans e',r'⟩⟩ hs'
 done:=λs Q E st hE=>tupStop hh st.1 st.2 (by simp) hE
def newT(l:ZE)(items:Array N9)(n:Nat)(dct:Option ZE)(sl:Array (Option N9)):
  Meets (Builtin.«enumerate.__new__» ⟨[.type "enumerate",.ref l],[]⟩) (λ_ R s=>s.heap.get? l=ZA {cls:=.type "tuple",dict:=dct,data:=.seq items n,slots:=sl} ∧
   R (.ok (.ret (.ref (s.heap.push {cls:=.type "tuple_iterator",data:=.fields #[.ref l,.int 0 0]}).objs.size)))
    {s with heap:=(s.heap.push {cls:=.type "tuple_iterator",data:=.fields #[.ref l,.int 0 0]}).push {cls:=.type "enumerate",data:=.fields #[.none,.bool ZD,.ref s.heap.objs.size,rawInt 0,.none,.none]}}):=
 .of_wp λprog w A R s h=>by
  obtain⟨hp,g,d,tk,os⟩:=s;obtain⟨hl,h⟩:=h;have hsub:=sub_enumerate;have hT:Heap.IsTuple (Shared.heap ⟨hp,g,d,tk,os⟩) l items:=⟨_,hl,rfl,n,rfl⟩;wp_walk using P4 hl;refine wpAny_stack_any λst=>Ou ?_;split
  .rename_i c _ _ _ _ _;cases (c == Q1 "enumerate")
   .wp_walk using P4 hl,R3 hT
    exact⟨_,rfl,h⟩
   .wp_walk using P4 hl,R3 hT
    exact⟨_,rfl,h⟩
  .wp_walk using P4 hl,R3 hT
   exact⟨_,rfl,h⟩
def callT{l:ZE}{items:Array N9}(hL:s.heap.IsTuple l items)
  (h:∀h',IsEnum h' (s.heap.objs.size+1) s.heap.objs.size 0 .none->h'.IsTupleIter s.heap.objs.size l 0->h'.objs.size=s.heap.objs.size+2 ->
   (∀b o,s.heap.get? b=ZA o->h'.get? b=ZA o)->Q (.ref (s.heap.objs.size+1)) {s with heap:=h'}):ZJ (ZK prog w) A (call (.type "enumerate") [.ref l]) Q E s:=by
 obtain⟨⟨cc,dc,dd,ss⟩,hl,hc,n,hd⟩:=hL;replace hc:cc=.type "tuple":=hc;replace hd:dd=.seq items n:=hd;subst hc hd;refine callType_new F.called_enumerate (by decide) (F.typeCall_enumerate_1 _) (F.newCall_enumerate_1 _) (λobj=>F.args_object_init_2 obj _) F.entry_enumerate_new (newT l items n dc ss) ⟨hl,?_⟩;have hz:(s.heap.push {cls:=.type "tuple_iterator",data:=.fields #[.ref l,.int 0 0]}).objs.size=s.heap.objs.size+1:=Qn ..;show _/\_;rw[hz];have he:IsEnum ((s.heap.push {cls:=.type "tuple_iterator",data:=.fields #[.ref l,.int 0 0]}).push
   {cls:=.type "enumerate",data:=.fields #[.none,.bool ZD,.ref s.heap.objs.size,rawInt 0,.none,.none]}) (s.heap.objs.size+1) s.heap.objs.size 0 .none:=by
  have q:=OI (s.heap.push {cls:=.type "tuple_iterator",data:=.fields #[.ref l,.int 0 0]})
   (o:={cls:=.type "enumerate",data:=.fields #[.none,.bool ZD,.ref s.heap.objs.size,rawInt 0,.none,.none]}) rfl
  rw[hz]at q;exact q
 refine⟨⟨_,he,rfl⟩,h _ he ⟨_,Om _ (OI _ rfl),rfl,rfl⟩ (by rw[Qn,hz]) λb o x=>Om _ (Om _ x)⟩
end Enu
namespace L2
open PySem PySem.Spec PyProof.Rows
variable{X:Cx}{fp:List ZE}{h':ZH}
section
variable {kt:W2}{σ:L2.St}{H:Hp}
def Inv.NI{Tp:ZE}{xs:List V}(I:Inv X kt σ H s)(hf:∀b∈fp,p6 X kt H b)(k:∀b o,b∉fp->s.heap.get? b=ZA o->h'.get? b=ZA o)
  (ht:∀b∈fp,∃o,h'.get? b=ZA o) (hT:s.heap.objs.size<=Tp) (new:ObjOk X.prog X.w (upd H Tp (.tup xs)) h' Tp (.tup xs)):Inv X kt σ (upd H Tp (.tup xs)) {s with heap:=h',toks:=t'}:=by
 have hn:H Tp=ZB:=I.hok.fresh hT;have wG:∀b o,s.heap.get? b=ZA o->b≠Tp:=λb o e=>Pj (Oo (Os e) hT);have nf:∀b u,H b=ZA u->b∉fp:=λb u e z=>by rw[(hf b z).1]at e;cases e
 refine I.step (g':=s.gens) (d':=s.drawn) (ch:=fp) (λb hb=>⟨(hf b hb).2.2.2.1,(hf b hb).2.1,(hf b hb).2.2.2.2.1,(hf b hb).2.2.2.2.2⟩) (λb o _ _ hc e _=>k b o hc e) (λb o _ _ hc e _=>⟨o.slots,k b o hc e⟩)
  (λb o _ e n=>by rw[aI (wG b o e)];exact n) (λb o hc e=>⟨o,k b o hc e⟩) (λb ys e=>by rw[aI (b9 e hn)];exact e) (λb o u e=>by rw[aI (b9 e hn)];exact e)
  (λb ps e=>⟨#[],by rw[aI (b9 e hn),e];simp⟩) (λm hm=>?_) (λb u e=>?_) I.bare
 .obtain⟨o,es,ep,ho,r⟩:=hm;exact⟨o,es,ep,k _ o (λz=>(hf _ z).2.1 rfl) ho,r⟩
 .by_cases hb:b=Tp
  .subst hb;rw[aM]at e;cases e;exact new
  .rw[aI hb]at e;refine(I.hok b u e).Nk (λc v hc q=>k c v ?_ q) (λc q=>by rw[aI (b9 q hn)];exact q) λc ys q=>by rw[aI (b9 q hn)];exact q
   rcases hc with z|z
   .rw[z];exact nf b u e
   .exact nf c _ z
def Inv.Nr(I:Inv X kt σ H s)(hf:∀b∈fp,p6 X kt H b)(k:∀b o,b∉fp->s.heap.get? b=ZA o->h'.get? b=ZA o):Inv X kt σ H {s with heap:=h',toks:=t'}:=by
 have nf:∀b u,H b=ZA u->b∉fp:=λb u e z=>by rw[(hf b z).1]at e;cases e
 refine I.step (g':=s.gens) (d':=s.drawn) (ch:=fp) (λb hb=>⟨(hf b hb).2.2.2.1,(hf b hb).2.1,(hf b hb).2.2.2.2.1,(hf b hb).2.2.2.2.2⟩) (λb o _ _ hc e _=>k b o hc e) (λb o _ _ hc e _=>⟨o.slots,k b o hc e⟩)
  (λb o _ e n=>n) (λb o hc e=>⟨o,k b o hc e⟩) (λb ys e=>e) (λb o u e=>e)
  (λb ps e=>⟨#[],by rw[e];simp⟩) (λm hm=>?_) (λb u e=>?_) I.bare
 .obtain⟨o,es,ep,ho,r⟩:=hm;exact⟨o,es,ep,k _ o (λz=>(hf _ z).2.1 rfl) ho,r⟩
 .refine(I.hok b u e).Nk (λc v hc q=>k c v ?_ q) (λc q=>q) λc ys q=>q;rcases hc with z|z
  .rw[z];exact nf b u e
  .exact nf c _ z
end
def El(K:N7)(H:Hp)(a:ZE)(tt:Bool)(xs:List V):Prop:=if tt then SqT K H a xs else SqL K H a xs
noncomputable def Na(K:N7)(a:ZE)(tt:Bool):It:=
 ⟨λi H=>∃xs x,El K H a tt xs/\xs[i]?=ZA x,λi H x H'=>∃p v,x=.ref p/\H p=ZB/\H'=upd H p (.tup [.int (i:Nat),v])/\∀xs,El K H a tt xs->xs[i]?=ZA v,λi H=>∃xs,El K H a tt xs/\xs.length<=i⟩
def itAt(tt:Bool)(h:ZH)(it a:ZE)(i:Nat):Prop:=if tt then h.IsTupleIter it a i else h.IsListIter it a i
variable{h:ZH}
def itAt.obj{it a:ZE}(st:itAt tt h it a i):∃o,h.get? it=ZA o/\∀v,o.data≠ .cell v:=by
 cases tt with
 |true=>obtain⟨o,e,c,d⟩:=(show h.IsTupleIter it a i from st);exact⟨o,e,λv z=>by rw[d]at z;cases z⟩
 |false=>obtain⟨o,e,c,d⟩:=(show h.IsListIter it a i from st);exact⟨o,e,λv z=>by rw[d]at z;cases z⟩
def itAt.keep{it a:ZE}(st:itAt tt h it a i)(k:∀o,h.get? it=ZA o->h'.get? it=ZA o):itAt tt h' it a i:=by
 cases tt with
 |true=>obtain⟨o,e,r⟩:=(show h.IsTupleIter it a i from st);exact(show h'.IsTupleIter it a i from⟨o,k o e,r⟩)
 |false=>obtain⟨o,e,r⟩:=(show h.IsListIter it a i from st);exact(show h'.IsListIter it a i from⟨o,k o e,r⟩)
variable{elts:List ZG}{pos:Pos}
def Ad(tt:Bool)(a e it:ZE)(hei:e≠it):
  A6 P w K (.Tuple elts kk pos) (Na K a tt) [e,it] e (λi h=>(∃old,IsEnum h e it i old)/\itAt tt h it a i) where
 mem:=by simp
 obj:=λi h st b hb=>by
  obtain⟨⟨old,he⟩,hi⟩:=st;rcases Oj.mp hb with rfl|hb
  .exact⟨_,he,λv z=>by have z':Wm _=Data.cell v:=z;cases z'⟩
  .rw[Oi.mp hb];exact hi.obj
 keep:=λi h h' st k=>by obtain⟨⟨old,he⟩,hi⟩:=st;exact⟨⟨old,k e (by simp) _ he⟩,hi.keep λo q=>k it (by simp) o q⟩
 item:=by
  intro X hP hw hK hc i kt s σ H E I hf st hg;subst hP hw hK;obtain⟨xs,x,hq,hx⟩:=hg;obtain⟨⟨old,he⟩,hi⟩:=st;have key:∀(its:List N9),Vals xs its->(∀ys,El X.K H a tt ys->ys=xs)->∀(fp0:List ZE)(St:Nat->ZH->Prop),Draws X.prog X.w X.A.in1 it fp0 its.toArray.size (λi v=>its.toArray[i]?=ZA v) St->e∉fp0->it∈fp0->St i s.heap ->
    (∀h',St (i+1) h'->itAt tt h' it a (i+1)) ->
    ZJ (ZK X.prog X.w) X.A (pyNext (.ref e)) (λr s1=>∃u,r=ZA u/\ZJ (ZK X.prog X.w) X.A (R1 (.Tuple elts kk pos) (.ref e) u) (λ_ s2=>∃x' H',Inv X kt σ H' s2/\RelV x' u/\(Na X.K a tt).yld i H x' H' ∧
     ((∃old,IsEnum s2.heap e it (i+1:Nat) old)/\itAt tt s2.heap it a (i+1))/\∀b∈ [e,it],H' b=ZB) E s1) E s:=by
   intro its rv uniq fp0 St D hef hif hst hnext;obtain⟨u,hu,ru⟩:=rv.get hx;have hlt:i<its.toArray.size:=by have:=(Ol.mp hu).1;simpa using this
   have W:=WalksT.enumerateD D e hei hef hif;refine W.item i s _ _ hlt ⟨⟨old,he⟩,hst⟩ λTp vals h1 tk hPt hTsz hTup hMid hk=>⟨.ref Tp,rfl,?_⟩;refine W.go elts kk pos i Tp {s with heap:=h1,toks:=tk} _ _ hMid λh2 hst2 hk2=>?_;obtain⟨t,x',hPx,hvals⟩:=hPt;subst hvals;have hxe:x'=u:=by
    have h1':its.toArray[i]?=ZA x':=hPx;have h2':its.toArray[i]?=ZA u:=by simpa using hu
    rw[h1']at h2';exact O0 h2'
   subst hxe;have hTw:=W.apart i Tp h1 hMid;obtain⟨oT,eT,rT⟩:=hTup;have eT2:h2.get? Tp=ZA oT:=hk2 Tp oT hTw eT;have kAll:∀b o,b∉ [e,it]->s.heap.get? b=ZA o->h2.get? b=ZA o:=λb o hb q=>hk2 b o hb (hk b o hb q);obtain⟨⟨old2,he2⟩,hs2⟩:=hst2;have hit2:=hnext h2 hs2;have there:∀b∈ [e,it],∃o,h2.get? b=ZA o:=λb hb=>by
    rcases Oj.mp hb with rfl|hb
    .exact⟨_,he2⟩
    .rw[Oi.mp hb];obtain⟨o,q,_⟩:=hit2.obj;exact⟨o,q⟩
   have hn:H Tp=ZB:=I.hok.fresh hTsz;have new:ObjOk X.prog X.w (upd H Tp (.tup [.int (i:Nat),x])) h2 Tp (.tup [.int (i:Nat),x]):=
    ⟨by show 2<=ZI;decide,[.int (i:Nat) t,x'],.cons ⟨t,rfl⟩ (.cons ru .nil),⟨oT,eT2,rT⟩⟩
   have I2:=I.NI (t':=tk) hf kAll there hTsz new;refine⟨.ref Tp,_,I2,rfl,⟨Tp,x,rfl,hn,rfl,λys hy=>by rw[uniq ys hy];exact hx⟩,⟨⟨old2,he2⟩,hit2⟩,λb hb=>?_⟩;have hbT:b≠Tp:=λz=>by
    obtain⟨o,q⟩:∃o,s.heap.get? b=ZA o:=by
     rcases Oj.mp hb with rfl|hb
     .exact⟨_,he⟩
     .rw[Oi.mp hb];obtain⟨o,q,_⟩:=hi.obj;exact⟨o,q⟩
    exact absurd (Oo (Os q) hTsz) (by rw[z];exact OU _)
   rw[aI hbT];exact(hf b hb).1
  have hne:∀b∈ [e,it],a≠b:=λb hb z=>by
   have hb':=(hf b hb).1;rw[<-z]at hb';have hbs:=hf b hb;cases tt with
   |true=>
    have hq':SqT X.K H a xs:=hq;rcases hq' with(q|⟨o,q⟩)|⟨o,its,n,q,_⟩
    .rw[hb']at q;cases q
    .rw[hb']at q;cases q
    .rcases hbs.2.2.2.1 with z1|z1
     .exact I.ok.noex a o (I.ok.mod.kin a o q) (z▸z1)
     .exact absurd (Oo (Os (I.ok.bs a o (I.ok.mod.kin a o q)).1) (z▸z1)) (OU _)
   |false=>
    have hq':SqL X.K H a xs:=hq;rcases hq' with(q|⟨o,q⟩)|⟨o,its,n,q,_⟩
    .rw[hb']at q;cases q
    .rw[hb']at q;cases q
    .rcases hbs.2.2.2.1 with z1|z1
     .exact I.ok.noex a o (I.ok.mod.kin a o q) (z▸z1)
     .exact absurd (Oo (Os (I.ok.bs a o (I.ok.mod.kin a o q)).1) (z▸z1)) (OU _)
  have hea:e≠a:=λz=>hne e (by simp) z.symm;have hia:it≠a:=λz=>hne it (by simp) z.symm;cases tt with
  |true=>
   have hq':SqT X.K H a xs:=hq;obtain⟨its,rv,p,hz⟩:=I.tuple hq';exact key its rv (λys hy=>I.Nq hy hq') _ _ (Enu.tupDraws (A:=X.A.in1) (I.ok.hd hc) it a (Ra hia) its.toArray) (by simp[hei,hea]) (by simp) ⟨hi,p⟩ λh' z=>z.1
  |false=>
   have hq':SqL X.K H a xs:=hq;obtain⟨its,rv,p,hz⟩:=I.list hq';exact key its rv (λys hy=>I.Nm hy hq') _ _ (Draws.list (A:=X.A.in1) (I.ok.hd hc) it a (Ra hia) its.toArray) (by simp[hei,hea]) (by simp) ⟨hi,p.isList⟩ λh' z=>z.1
 done:=by
  intro X hP hw hK hc i kt s σ H E I hf st hg;subst hP hw hK;obtain⟨xs,hq,hx⟩:=hg;obtain⟨⟨old,he⟩,hi⟩:=st;have fin:∀h',Heap.ExtBut it s.heap h'->(ZB:Option N9)=ZB/\Inv X kt σ H {s with heap:=h'}:=λh' eb=>⟨rfl,I.Nr (t':=s.toks) hf λb o hb q=>eb b o (λz=>hb (by simp[z])) q⟩;cases tt with
  |true=>
   have hq':SqT X.K H a xs:=hq;obtain⟨its,rv,p,hz⟩:=I.tuple hq';have hl:=rv.length;have hnone:its.toArray[i]?=ZB:=by simp;omega
   have hT:s.TypeIs (.ref e) "enumerate":=⟨_,he,rfl⟩;unfold pyNext;refine Od (wpAny_attempt (Qm (name:=Ot "__next__") hT Uc (Rc Uc hT F.entry_enumerate_next ?_ (F.args_enumerate_next_1 _))));show ZJ (ZK X.prog X.w) _ (field (.ref e) 2 >>= _) _ _ _;refine Od (QU he rfl (x:=.ref it) rfl ?_);refine Od (Enu.tupStop (I.ok.hd hc) hi p hnone λh' x he' hx'=>?_);obtain⟨o,ho,hcl⟩:=hx';exact Od (wpAny_isInstance (T:="StopIteration") (b:=ZC) ⟨o,ho,hcl⟩ isSubtype_stop (Ou (fin h' he')))
  |false=>
   have hq':SqL X.K H a xs:=hq;obtain⟨its,rv,p,hz⟩:=I.list hq';have hl:=rv.length;have hnone:its.toArray[i]?=ZB:=by simp;omega
   exact wpAny_pyNext_enum_end (I.ok.hd hc) he hi p.isList hnone fin
 self:=λ_ _ _ _ _ st h=>by obtain⟨⟨old,he⟩,_⟩:=st;exact VC he h
section
variable {tpos:Pos}
def pU:O6 "enumerate" =ZA (.type "enumerate"):=by decide+kernel
def iEnu(K:N7)(tl:TA):TI:=λσ H R=>tl σ H λvs H1=>∃a tt,vs=[.ref a]/\(∃xs,El K H1 a tt xs)/\R (Na K a tt) H1
def FE{l:ZG}{tl:TA}{p:Pos}(hg:Gl X "enumerate")(hm:X.mg "enumerate" =ZB)(hl:PA X [l] tl)(hs:autoParam (Oq [l] X.env=[(ZD,eval l X.env)]) u_):PI X (.Tuple elts kk tpos) (.Call (.Name "enumerate" p) [l] [] pos) (iEnu X.K tl):=by
 intro kt s σ H R I h;refine Call_ (fI I hg hm pU (Pq (bR (hl pos kt s σ H _ I h) λus s1 ⟨vs,H1,I1,r1,q1⟩=>?_) hs rfl));obtain⟨a,tt,e,⟨xs,hq⟩,q⟩:=q1;subst e;obtain⟨u,rfl,ru⟩:=i9 r1;cases ru;have fin:∀h',IsEnum h' (s1.heap.objs.size+1) s1.heap.objs.size 0 .none->itAt tt h' s1.heap.objs.size a 0->h'.objs.size=s1.heap.objs.size+2->(∀b o,s1.heap.get? b=ZA o->h'.get? b=ZA o) ->
   ZJ (ZK X.prog X.w) X.A (pyIter (.ref (s1.heap.objs.size+1))) (PIE X kt σ (.Tuple elts kk tpos) R) X.xe {s1 with heap:=h'}:=λh' he hi hsz hk=>by
  refine VC he ?_;have I2:Inv X kt σ H1 {s1 with heap:=h'}:=I1.kept (t':=s1.toks) hk;refine⟨s1.heap.objs.size+1,[s1.heap.objs.size+1,s1.heap.objs.size],_,_,H1,rfl,I2,Ad tt a (s1.heap.objs.size+1) s1.heap.objs.size (Nat.succ_ne_self _),⟨⟨_,he⟩,hi⟩,λb hb=>?_,q⟩;rcases Oj.mp hb with rfl|hb
  .exact I1.Ny (by omega) (I1.hok.fresh (by omega))
  .rw[Oi.mp hb];exact I1.Ny (On _) (I1.hok.fresh (On _))
 cases tt with
 |true=>
  have hq':SqT X.K H1 a xs:=hq;obtain⟨its,rv,pl,hz⟩:=I1.tuple hq';exact Enu.callT pl λh' he hi hsz hk=>fin h' he hi hsz hk
 |false=>
  have hq':SqL X.K H1 a xs:=hq;obtain⟨its,rv,pl,hz⟩:=I1.list hq';exact call_enumerate_list pl.isList λh' he hi hsz hk=>fin h' he hi hsz hk
end
end L2
namespace Tr
open PySem PySem.Spec PyProof.Rows L2
section
variable {X:Cx}{a:ZG}{fa:W5}{fs:W3}{p pos:Pos}
noncomputable def iS(f:W5)(Z:En):Rs (List T):=do
 let x <-f Z
 match x with
 |.lst l=>.ok l
 |.tup l=>.ok l
 |_=>.bad
def IF{tg:ZG}(ha:cm X a fa):Be X tg a (iS fa):=by
 intro kt s σ H R I ⟨Z,O,E,h⟩;unfold iS at h;cases q:fa Z with
 |bad=>rw[q]at h;exact h.elim
 |err c=>exact yK ha kt s σ H R I ⟨Z,O,E,by unfold iL;rw[q]at h ⊢;exact h⟩
 |ok x=>
  rw[q,ax]at h;cases x with
  |lst l=>exact yK ha kt s σ H R I ⟨Z,O,E,by unfold iL;rw[q];exact h⟩
  |tup l=>exact IE ha kt s σ H R I ⟨Z,O,E,by unfold iT;rw[q];exact h⟩
  |_=>exact h.elim
noncomputable def dE:Nat->List T->List T
 |_,[] =>[]
 |n,t::r=>.tup [.int n,t] ::dE (n+1) r
theorem rJ:∀(l:List T)(n i:Nat),(dE n l)[i]?=(l[i]?).map λt=>T.tup [.int ((n+i:Nat):Int),t]
 |[],n,i=>by simp[dE]
 |t::l,n,0=>by simp[dE]
 |t::l,n,i+1=>by rw[dE,PK,rJ l (n+1) i,PK];congr 2;funext t;congr 4;omega
theorem rH:∀(l:List T)(n:Nat),(dE n l).length=l.length
 |[],n=>rfl
 |t::l,n=>by rw[dE,Og,Og,rH l]
noncomputable def iE(f:W3)(Z:En):Rs (List T):=do
 let xs <-f Z
 match xs with
 |[x] =>match x.items with
  |some l=>.ok (dE 0 l)
  |none=>.bad
 |_=>.bad
def Fi{elts:List ZG}{tpos:Pos}(hm:X.mg "enumerate" =ZB)(ha:qf X [a] fs)(hg:autoParam (Gl X "enumerate") u_)(hs:autoParam (Oq [a] X.env=[(ZD,eval a X.env)]) u_):
  Be X (.Tuple elts kk tpos) (.Call (.Name "enumerate" p) [a] [] pos) (iE fs):=PI.imp (FE hg hm ha hs) λσ H R hh_=>by
 obtain⟨Z,O,E,h⟩:=hh_;obtain⟨Z1,O1,E1,h1⟩:=fz E h;refine⟨Z1,O1,E1,Post.mono h1 λts H1 s1 q vs r=>?_⟩;obtain⟨t',r',s',E',q'⟩:=q vs r;split at q'
 .rename_i x0;obtain⟨v,rfl,rv⟩:=r'.one;split at q'
  .rename_i l hl;have main:∀(aa:ZE)(tt:Bool)(ws:List V),v=.ref aa->¬ O aa->Reps X.K O H1 l ws->El X.K H1 aa tt ws->(∀P Hc,SameO P H1 Hc->¬ P aa->El X.K Hc aa tt ws)->¬ Nw X.K H1 aa ->
     ∃a tt,[v]=[V.ref a]/\(∃xs,El X.K H1 a tt xs)/\R (Na X.K a tt) H1:=λaa tt ws e n z sq mv nn=>by
    refine⟨aa,tt,by rw[e],⟨ws,sq⟩,q' H1 (Same.refl H1) _ λP O' hP hO i Hc hsm htr=>?_⟩;have hnP:¬ P aa:=λy=>(hP aa y).elim n nn;have sqc:=mv P Hc hsm hnP;refine⟨λhi=>⟨ws,sqc,by rw[<-z.length,<-rH l 0];exact hi⟩,λt ht=>?_⟩;rw[rJ]at ht;cases e1:l[i]? with
    |none=>rw[e1]at ht;cases ht
    |some t0=>
     rw[e1]at ht;cases ht;obtain⟨v0,f1,f2⟩:=z.get e1;refine⟨⟨ws,v0,sqc,f1⟩,λx Hc' y=>?_⟩;obtain⟨pp,vv,e2,hpn,e3,hy⟩:=y;have:=hy ws sqc;rw[f1]at this;cases this;subst e2 e3;refine⟨aU hpn _,g9 hpn (λzz=>?_) (Reps.Gc (by simpa using Rep.GT _) (Reps.Gc (f2.move hP hO hsm) Reps.GM))⟩;obtain⟨o,w⟩:=htr pp zz;rw[hpn]at w;cases w
   cases x0 with
   |tup m=>
    cases hl;obtain⟨aa,ws,e,n,qq,z⟩:=Rep.Fk.mp rv;exact main aa ZC ws e n z (show SqT X.K H1 aa ws from SqT.of qq) (λP Hc hsm hn=>show SqT X.K Hc aa ws from SqT.of (hsm _ _ qq hn)) λw=>by rw[w.1]at qq;cases qq
   |lst m=>
    cases hl;obtain⟨aa,ws,e,n,qq,z⟩:=Rep.Do.mp rv;exact main aa ZD ws e n z (show SqL X.K H1 aa ws from SqL.of qq) (λP Hc hsm hn=>show SqL X.K Hc aa ws from SqL.of (hsm _ _ qq hn)) λw=>by rw[w.1]at qq;cases qq
   |scr m=>
    cases hl;unfold Rep at rv;obtain⟨aa,e,n,qq⟩:=rv;exact main aa ZD _ e n Reps.ints (show SqL X.K H1 aa _ from qq) (λP Hc hsm hn=>show SqL X.K Hc aa _ from Tr.SqL.keep hsm hn qq) (Tr.SqL.nn qq)
   |_=>cases hl
  .exact q'.elim
 .exact q'.elim
end
end Tr
namespace Tm
open PySem PyProof.Rows
def mf:fillsNumberSlot (.type "tuple") "mul" =pure ZD:=
 PySem.fillsNumberSlot_seq (id:="tuple.__mul__") (r:=ZA (.builtin "tuple.__rmul__")) TX.lookup (by decide+kernel) Vs.lookup (by decide+kernel)
def sR:seqRepeat? (.type "tuple")=pure (ZA (.builtin "tuple.__mul__")):=by unfold seqRepeat?;rw[V6 (T:="tuple") (name:="__mul__") (id:="tuple.__mul__") TX.lookup (by decide+kernel),V6 (T:="tuple") (name:="__rmul__") (id:="tuple.__rmul__") Vs.lookup (by decide+kernel)];rfl
def xb(a:Int)(t:Tok)(l:ZE)(items:Array N9)(n:Nat)(dd:Option ZE)(sl:Array (Option N9)):
  Meets (Builtin.«int.__rmul__» ⟨[.int a t,.ref l],[]⟩) (λ_ R s=>s.heap.get? l=ZA {cls:=.type "tuple",dict:=dd,data:=.seq items n,slots:=sl}/\R (.ok (.ret Uz)) s):=
 .of_wp λprog w A R s h=>by obtain⟨hp,g,d,tk,os⟩:=s;obtain⟨hl,h⟩:=h;wp_walk;exact⟨_,rfl,h⟩
open AutoSeq1 (wpAny_loadPart')
def Cz(l:ZE)(items:Array N9)(n:Nat)(dd:Option ZE)(sl:Array (Option N9))(x:Int)(u:Tok)(h1:1<x)(h2:x<2 ^ 31)(hne:items.isEmpty=ZD)(hz:items.size*x.toNat<=ZI)
  (hz2:(Tu (λa b=>a++b) #[] (OK x.toNat items)).size<=ZI):
  Meets (Builtin.«tuple.__mul__» ⟨[.ref l,.int x u],[]⟩) (λ_ R s=>s.heap.get? l=ZA {cls:=.type "tuple",dict:=dd,data:=.seq items n,slots:=sl} ∧
   R (.ok (.ret (OF s.heap.objs.size))) {s with heap:=s.heap.push {cls:=Q1 "tuple",data:=Data.seq (Tu (λa b=>a++b) #[] (OK x.toNat items))}}):=
 .of_wp λprog w A R s h=>by
  obtain⟨hp,g,d,tk,os⟩:=s;obtain⟨hl,h⟩:=h;have hT:WE hp l items:=⟨_,hl,rfl,n,rfl⟩;have hx:((items.size:Nat):Int)*x=((items.size*x.toNat:Nat):Int):=by
   have e:x=((x.toNat:Nat):Int):=by omega
   rw[Int.natCast_mul,<-e]
  wp_walk using P4 hl
  rw[if_neg (by simp;omega)];refine Od (Vi (s:=⟨hp,g,d,tk,os⟩) hT ?_);dsimp only;rw[if_neg (by rw[hne];simp;omega),if_neg (by rw[hne];simp;omega),hx,if_neg (by have:(ZI:Nat)<=1000000000:=(by decide);omega),if_neg (by unfold Builtin.Tuple.tupleTooMany;rw[decide_eq_true_iff];omega)];refine Od (m:=Qj _) (Qd ?_ hz2);exact Ou ⟨_,rfl,h⟩
def mul_tuple{t:ZE}{k:Int}{tk:Tok}(ht:WE s.heap t vs.toArray)(h1:1<k)(h2:k<2 ^ 31)(hv:vs≠ [])(hz:vs.length*k.toNat<=ZI)
  (h:Q (.ref s.heap.objs.size) {s with heap:=s.heap.push {cls:=.type "tuple",data:=.seq (OK k.toNat vs).flatten.toArray}}):
  ZJ (ZK prog w) A (P6 .Mult (.ref t) (.int k tk)) Q E s:=by
 obtain⟨⟨cls,dd,data,sl⟩,ho,hc,n,hd⟩:=id ht;simp only at hc hd;subst hc hd;have e:Tu (λa b=>a++b) #[] (OK k.toNat vs.toArray)=(OK k.toNat vs).flatten.toArray:=by have q:=L2.foldl_rep vs k.toNat [];simpa using q
 refine Tj (T:="tuple") (U:="int") (by decide) ⟨_,ho,rfl⟩ (λs'=>Ux s' k tk) mf Wp SX sR V3.lookup
  (RW SX (Ux s k tk) V4 (Vq _ _) (xb k tk t vs.toArray n dd sl)
   ⟨ho,rfl,⟨_,ho,rfl⟩,RW TX ⟨_,ho,rfl⟩ F.entry_tuple_mul (F.args_tuple_mul_2 _ _) (Cz t vs.toArray n dd sl k tk h1 h2 (by simpa using hv) (by simpa using hz) (by rw[e,Ov,L2.len_rep,VM];exact hz)) ⟨ho,?_⟩⟩)
 rw[e];exact h
end Tm
variable{Q:Option N9->Ob->Prop}
namespace Tr
open PySem PySem.Spec PyProof.Rows L2
variable{X:Cx}
noncomputable def cL(x y:T):Rs T:=match x,y with
 |.tup l,.int k=>if 1<k/\k<2 ^ 31/\l≠ []/\l.length*k.toNat<=ZI then .ok (.tup (OK k.toNat l).flatten)else .bad
 |x,y=>xw x y
instance (l:List T):Decidable (l≠ []):=by cases l <;> simp <;> infer_instance
def dI:OpT X (P6 .Mult) cL:=by
 intro kt s σ H O x y vx vy ux uy Q I hf rx ry r1 r2 hp;unfold cL at hp;split at hp
 .rename_i l k;split at hp
  .rename_i h;obtain⟨a,vs,e1,n1,q1,z1⟩:=Rep.Fk.mp rx;subst e1;cases Rep.AC.mp ry;cases r1;obtain⟨tk,rfl⟩:=r2;obtain⟨its,rv,pl,hz⟩:=I.tuple (SqT.of q1);have hl1:=z1.length;have hl2:=rv.length;have hne:its≠ []:=λz=>h.2.2.1 (List.eq_nil_of_length_eq_zero (by rw[hl1,hl2,z];rfl));refine Tm.mul_tuple pl h.1 h.2.1 hne (by rw[<-hl2,<-hl1];exact h.2.2.2) ?_;have hn:=I.hok.fresh (On _);refine⟨.ref _,_,I.laid (t':=s.toks) (o:=.tup (OK k.toNat vs).flatten) (λb ob q=>Om _ q) (On _) ?_,rfl,hp _ (aU hn _) _ (g9 hn (hf _ hn) (z1.rep _))⟩;refine⟨?_,_,rv.rep k.toNat,Wn _ _⟩;rw[len_rep,VM,<-hl1];exact h.2.2.2
  .exact hp.elim
 .exact Jg kt s σ H O _ _ vx vy ux uy Q I hf rx ry r1 r2 hp
noncomputable def F9(outer:List (Str×RB))(N:List Str)(names:List (Str×RB))(N':List Str)(src:List (Option Nat)):Bool:=
 names.all (λy=>y.2 != .cell||names.lookup y.1 == ZA .cell)&&names.all (λy=>y.2 != .local||names.lookup y.1 == ZA .local)&&src.length == N'.length&&
 (PJ N'.length).all (λj=>match src[j]? with
  |some (ZA i)=>match N'[j]? with
   |some x=>N[i]? == ZA x&&names.lookup x == ZA .free
   |none=>ZC
  |_=>ZC)&&
 names.all (λy=>y.2 != .free||(outer.lookup y.1 == ZA .cell||outer.lookup y.1 == ZA .free))
variable{N N':List Str}
theorem LcScope.by{src:List (Option Nat)}{names:List (Str×RB)}(hN:X.N=N)(hs:X.env.scope.names=names)(hk:scope.kind=.function)(h:F9 names N scope.names N' src=ZC):LcScope X scope N' src:=by
 unfold F9 at h;simp only[Oc]at h;obtain⟨⟨⟨⟨h1,h2⟩,h3⟩,h4⟩,h5⟩:=h;have a1:=OQ.mp h1;have a2:=OQ.mp h2;have a4:=OQ.mp h4;have a5:=OQ.mp h5;refine⟨hk,λy hy hl=>by have:=a1 y hy;rw[hl]at this;simpa using this,λy hy hl=>?_,by simpa using h3,λj i x e1 e2=>?_,λx hx=>?_⟩
 .have:=a2 y hy;rw[hl]at this;simpa using this
 .have hj:j<N'.length:=(Ol.mp e2).1;have:=a4 j (PZ.mpr hj);rw[e1]at this;simp only[e2]at this;rw[Oc]at this;rw[hN];exact⟨by simpa using this.1,by simpa using this.2⟩
 .have:=a5 _ hx;simp only[bne_self_eq_false,U4,Wr]at this;show X.env.scope.names.lookup x=_\/X.env.scope.names.lookup x=_;rw[hs];rcases this with z|z
  .exact .inl (by simpa using z)
  .exact .inr (by simpa using z)
noncomputable def a9:ZG->Bool
 |.Starred .. =>ZD
 |_=>ZC
noncomputable def br:List ZG->Bool
 |[] =>ZC
 |e::r=>a9 e&&br r
variable{e:ZG}{env:Env}{es:List ZG}
def aS(h:a9 e=ZC):Oq (e::es) env=(ZD,eval e env)::Oq es env:=by cases e <;> first|rfl|cases h
theorem d9{pos:Pos}{env:Env}:∀{es:List ZG},br es=ZC->(backTo pos (Oq es env)).any (·.1)=ZD
 |[],_=>rfl
 |e::r,h=>by unfold br at h;rw[Oc]at h;rw[aS h.1];have ih:=d9 (pos:=pos) (env:=env) h.2;show(ZD||(backTo pos (Oq r env)).any (·.1))=ZD;rw[ih];rfl
variable{f fa:W5}{g:List T->Rs T}{pos:Pos}{ps:List Str}{x:Str}
section
variable {a b:ZG}{fs:W3}{p p2:Pos}
def qa_c{g:W3}(he:cm X e f)(hr:qf X es g)(hn:autoParam (a9 e=ZC) u_):qf X (e::es) (ae f g):=Fo he hr (aS hn)
def q_cB{id:String}(hc:CallT X (.builtin id) g)(hm:X.mg x=ZB)(hv:O6 x=ZA (.builtin id))(ha:qf X (e::es) fs)(hn:autoParam (br (e::es)=ZC) u_)(hg:autoParam (Gl X x) u_)(h1:autoParam (x≠ "__name__") s_)(h2:autoParam ((x == ("__debug__" : Str))=ZD) s_):
  cm X (.Call (.Name x p) (e::es) [] pos) (cl g fs):=by
 unfold br at hn;rw[Oc]at hn;exact Ft hc hm hv ha hg h1 h2 (aS hn.1) (d9 hn.2)
def q_cT(hc:CallT X (.type Ty) g)(hm:X.mg x=ZB)(hv:O6 x=ZA (.type Ty))(ha:qf X (e::es) fs)(hn:autoParam (br (e::es)=ZC) u_)(hg:autoParam (Gl X x) u_)(h1:autoParam (x≠ "__name__") s_)(h2:autoParam ((x == ("__debug__" : Str))=ZD) s_):
  cm X (.Call (.Name x p) (e::es) [] pos) (cl g fs):=by
 unfold br at hn;rw[Oc]at hn;exact BR hc hm hv ha hg h1 h2 (aS hn.1) (d9 hn.2)
def q_c{f:ZE}(F:Er X.prog X.w X.K X.mg X.base k f fd ps n g)(hr:Room k X.A)(hm:X.mg x=ZA (.ref f))(hk:QK X.K (.ref f)=ZC)(hb:Binds X.K fd ps [])
  (hl:∀Z ts,fs Z=.ok ts->ts.length=n) (ha:qf X (e::es) fs) (hps:autoParam (ps.length=n) u_) (hn:autoParam (br (e::es)=ZC) u_) (hg:autoParam (Gl X x) u_) (h2:autoParam ((x == ("__debug__" : Str))=ZD) s_):cm X (.Call (.Name x p) (e::es) [] pos) (cl g fs):=by
 unfold br at hn;rw[Oc]at hn;exact IL F hr hm hk hb hps hl ha hg h2 (aS hn.1) (d9 hn.2)
def q_is{tn:Str}(hm:X.mg "isinstance" =ZB)(hmt:X.mg tn=ZB)(hv:O6 tn=ZA (.type Ty))(ha:cm X a fa)(hn:autoParam (a9 a=ZC) u_)(hg:autoParam (Gl X "isinstance") u_)(hgt:autoParam (Gl X tn) u_)
  (h1:autoParam (tn≠ "__name__") s_) (h2:autoParam ((tn == ("__debug__" : Str))=ZD) s_):cm X (.Call (.Name "isinstance" p) [a,.Name tn p2] [] pos) (o1 (Gj Ty) fa):=
 Lu hm hmt hv ha hg hgt h1 h2 (aS hn) (d9 rfl) (aS rfl)
end
def wo(Z:En)(ts:List T)(h:aj Z=.ok ts):ts.length=0:=by cases h;rfl
def wm{g:W3}(hg:∀Z ts,g Z=.ok ts->ts.length=n)(Z:En)(ts:List T)(h:ae f g Z=.ok ts):ts.length=n+1:=by
 unfold ae at h;cases q:f Z with
 |bad=>rw[q]at h;cases h
 |err c=>rw[q]at h;cases h
 |ok t=>
  rw[q,ax]at h;cases q2:g Z with
  |bad=>rw[q2]at h;cases h
  |err c=>rw[q2]at h;cases h
  |ok r=>
   rw[q2,ax]at h;cases h;rw[Og,hg Z r q2]
def lJ(h:Room k A):A.units+60<cLine:=by have:=h.un;omega
def xS(h:Room k A):A.units+61<cLine:=by have:=h.un;omega
structure Fn (K:N7)(mg:W0)(x:Str)(st:ZF)(ps:List Str)(f:ZE)(fd:Pu):Prop where
 fn:L2.Fun K x x st f fd
 bd:Binds K fd ps []
 mg:mg x=ZA (.ref f)
noncomputable def val(n m:Nat)(F:W4)(ts:List T):Rs T:=if ts.length=n then dY F (bx m ts)else .bad
variable{ts:List T}
def HR{F:W4}{t:T}(h:val n m F ts=.ok t):dY F (bx m ts)=.ok t:=by
 unfold val at h;split at h
 .exact h
 .cases h
variable{H:Hp}{a:ZE}
def sp_script{E:XK}(hS:SqL K H a (ns.map V.int))(h:g [.scr ns]=.ok (.bl ZC)):spP K 1 g [.ref a] H (λv _=>v=.bl ZC) E:=by
 refine⟨[.scr ns],λ_=>False,Reps.Gc ?_ Reps.GM,λ_ z=>z.elim,rfl,?_⟩
 .unfold Rep;exact⟨a,rfl,λz=>z,hS⟩
 .rw[h];exact λv H' _ r=>Rep.FS.mp r
def uU{l:List α}{z:α}(h:l[i]?=ZA z):l.set i z=l:=by obtain⟨hi,rfl⟩:=Ol.mp h;exact Ud hi
def Mn.set(M:Mn)(i:Nat)(m:Ow):Mn:=λj=>if j=i then m else M j
variable{M:Mn}{m:Ow}
def Mn.FM(h:(M.set i m).u a):m a\/M.u a:=by
 obtain⟨j,h⟩:=h;unfold Mn.set at h;by_cases z:j=i
 .rw[if_pos z]at h;exact .inl h
 .rw[if_neg z]at h;exact .inr ⟨j,h⟩
def Mn.KF:M.set i m i=m:=by unfold Mn.set;rw[if_pos rfl]
def Mn.Nc(h:j≠i):M.set i m j=M j:=by unfold Mn.set;rw[if_neg h]
variable{H':Hp}{O O':Ow}
theorem RowsR.move{P:Ow}(hP:∀a,P a->O a\/Nw K H a)(hO:∀a,O' a->O a\/Nw K H a)(h:SameO P H H'):∀{rs:List (List T×List T)}{as:List ZE},(∀b∈as,¬P b)->RowsR K O H rs as->RowsR K O' H' rs as
 |[],_,_,r=>r
 |_::_,_,hb,⟨b,bs,kvs,e1,e2,e3,e4,e5⟩=>by subst e1;exact⟨b,bs,kvs,rfl,h _ _ e2 (hb b Oe),e3,e4.move hP hO h,e5.move hP hO h λc hc=>hb c (N8 _ hc)⟩
theorem LsR.move{P:Ow}(hP:∀a,P a->O a\/Nw K H a)(hO:∀a,O' a->O a\/Nw K H a)(h:SameO P H H'):∀{rs:List (List T)}{as:List ZE},(∀b∈as,¬P b)->LsR K O H rs as->LsR K O' H' rs as
 |[],_,_,r=>r
 |_::_,_,hb,⟨b,bs,vs,e1,e2,e4,e5⟩=>by subst e1;exact⟨b,bs,vs,rfl,h _ _ e2 (hb b Oe),e4.move hP hO h,e5.move hP hO h λc hc=>hb c (N8 _ hc)⟩
variable{v:V}
theorem ORep.move{P M:Ow}{o:OT}(hP:∀a,P a->O a\/Nw K H a)(hO:∀a,O' a->O a\/Nw K H a)(h:SameO P H H')(hM:∀a,M a->¬ P a)(r:ORep K O M H o v):ORep K O' M H' o v:=by
 cases o with
 |lst l=>obtain⟨a,vs,e1,e2,e3,e4⟩:=r;exact⟨a,vs,e1,e2,h _ _ e3 (hM a ((e2 a).mpr rfl)),e4.move hP hO h⟩
 |dct ks ts=>obtain⟨a,kvs,e1,e2,e3,e4,e5⟩:=r;exact⟨a,kvs,e1,e2,h _ _ e3 (hM a ((e2 a).mpr rfl)),e4,e5.move hP hO h⟩
 |dd ks rows=>
  obtain⟨a,kvs,as,e1,e2,e3,e4,e5,e6,e7,e8⟩:=r;exact⟨a,kvs,as,e1,e2,e3,e4,h _ _ e5 (hM a ((e2 a).mpr (.inl rfl))),e6,e7,e8.move hP hO h λb hb=>hM b ((e2 b).mpr (.inr hb))⟩
 |ob C ns ls=>
  obtain⟨a,dx,as,e1,e2,e3,e4,e5,e6,e7,e8⟩:=r;exact⟨a,dx,as,e1,e2,e3,h _ _ e4 (hM a ((e2 a).mpr (.inl rfl))),h _ _ e5 (hM dx ((e2 dx).mpr (.inr (.inl rfl)))),e6,e7,e8.move hP hO h λb hb=>hM b ((e2 b).mpr (.inr (.inr hb)))⟩
 |ll ls=>
  obtain⟨a,as,e1,e2,e3,e4,e5,e6⟩:=r;exact⟨a,as,e1,e2,e3,e4,h _ _ e5 (hM a ((e2 a).mpr (.inl rfl))),e6.move hP hO h λb hb=>hM b ((e2 b).mpr (.inr hb))⟩
theorem RowsR.mtb:∀{rs:List (List T×List T)}{as:List ZE},RowsR K O H rs as->∀b∈as,∃kvs,H b=ZA (.dT kvs)
 |[],_,r,b,hb=>by unfold RowsR at r;subst r;simp at hb
 |_::_,_,⟨b0,bs,kvs,e1,e2,e3,e4,e5⟩,b,hb=>by
  subst e1;rcases Oj.mp hb with rfl|hb
  .exact⟨kvs,e2⟩
  .exact e5.mtb b hb
theorem LsR.mtb:∀{rs:List (List T)}{as:List ZE},LsR K O H rs as->∀b∈as,∃vs,H b=ZA (.lst vs)
 |[],_,r,b,hb=>by unfold LsR at r;subst r;simp at hb
 |_::_,_,⟨b0,bs,kvs,e1,e2,e4,e5⟩,b,hb=>by
  subst e1;rcases Oj.mp hb with rfl|hb
  .exact⟨kvs,e2⟩
  .exact e5.mtb b hb
def LO(H:Hp)(a:ZE):Prop:=(∃vs,H a=ZA (.lst vs))\/∃o,H a=ZA o/\isO o=ZC
noncomputable def OT.isD:OT->Bool
 |.lst _=>ZD
 |.ob _ _ _=>ZD
 |.ll _=>ZD
 |_=>ZC
def ORep.kind{M:Ow}{o:OT}(r:ORep K O M H o v):∀a,M a->if o.isD then ∃kvs,H a=ZA (.dT kvs)else LO H a:=λa z=>by
 cases o with
 |lst l=>obtain⟨b,vs,e1,e2,e3,e4⟩:=r;cases (e2 a).mp z;exact .inl ⟨vs,e3⟩
 |dct ks ts=>obtain⟨b,kvs,e1,e2,e3,e4,e5⟩:=r;cases (e2 a).mp z;exact⟨kvs,e3⟩
 |dd ks rows=>
  obtain⟨b,kvs,as,e1,e2,e3,e4,e5,e6,e7,e8⟩:=r;rcases(e2 a).mp z with z|z
  .cases z;exact⟨kvs,e5⟩
  .exact e8.mtb a z
 |ob C ns ls=>
  obtain⟨b,dx,as,e1,e2,e3,e4,e5,e6,e7,e8⟩:=r;rcases(e2 a).mp z with z|z|z
  .cases z;exact .inr ⟨_,e4,rfl⟩
  .cases z;exact .inr ⟨_,e5,rfl⟩
  .exact .inl (e8.mtb a z)
 |ll ls=>
  obtain⟨b,as,e1,e2,e3,e4,e5,e6⟩:=r;rcases(e2 a).mp z with z|z
  .cases z;exact .inl ⟨_,e5⟩
  .exact .inl (e6.mtb a z)
def ORep.mtb{M:Ow}{o:OT}(r:ORep K O M H o v)(a:ZE)(z:M a):Mtb H a:=by
 have:=r.kind a z;split at this
 .exact .inr (.inl this)
 .exact this.imp_right .inr
theorem uY:∀{rs:List (List T×List T)}{as:List ZE},(∀b∈as,¬O b)->RowsR K O H rs as->Reps K O H (rs.map λr=>T.dct r.1 r.2) (as.map V.ref)
 |[],_,_,r=>by unfold RowsR at r;subst r;exact Reps.GM
 |_::_,_,hn,⟨b,bs,kvs,e1,e2,e3,e4,e5⟩=>by subst e1;exact Reps.Gc (Rep.GE.mpr ⟨b,kvs,rfl,hn b Oe,.inl e2,e3,e4⟩) (uY (λc hc=>hn c (N8 _ hc)) e5)
theorem RowsR.less(sub:∀a,O' a->O a):∀{rs:List (List T×List T)}{as:List ZE},RowsR K O H rs as->RowsR K O' H rs as
 |[],_,r=>r
 |_::_,_,⟨b,bs,kvs,e1,e2,e3,e4,e5⟩=>⟨b,bs,kvs,e1,e2,e3,e4.less sub,e5.less sub⟩
theorem LsR.less(sub:∀a,O' a->O a):∀{rs:List (List T)}{as:List ZE},LsR K O H rs as->LsR K O' H rs as
 |[],_,r=>r
 |_::_,_,⟨b,bs,kvs,e1,e2,e4,e5⟩=>⟨b,bs,kvs,e1,e2,e4.less sub,e5.less sub⟩
theorem LsR.rep:∀{rs:List (List T)}{as:List ZE},(∀b∈as,¬O b)->LsR K O H rs as->Reps K O H (rs.map T.lst) (as.map V.ref)
 |[],_,_,r=>by unfold LsR at r;subst r;exact Reps.GM
 |_::_,_,hn,⟨b,bs,kvs,e1,e2,e4,e5⟩=>by subst e1;exact Reps.Gc (Rep.Do.mpr ⟨b,kvs,rfl,hn b Oe,e2,e4⟩) (LsR.rep (λc hc=>hn c (N8 _ hc)) e5)
theorem nP:∀{l:List α}{m:List β},l.length=m.length->(l.zip m).map (·.1)=l
 |[],[],_=>rfl
 |a::l,b::m,h=>by
  have h':l.length=m.length:=by simpa using h
  show a::(l.zip m).map (·.1)=_;rw[nP h']
theorem sf:∀{l:List α}{m:List β},l.length=m.length->(l.zip m).map (·.2)=m
 |[],[],_=>rfl
 |a::l,b::m,h=>by
  have h':l.length=m.length:=by simpa using h
  show b::(l.zip m).map (·.2)=_;rw[sf h']
theorem ORep.rep{M:Ow}{o:OT}(sub:∀a,O' a->O a)(hn:∀a,M a->¬ O' a)(r:ORep K O M H o v):Rep K O' H o.view v:=by
 cases o with
 |lst l=>obtain⟨a,vs,e1,e2,e3,e4⟩:=r;exact Rep.Do.mpr ⟨a,vs,e1,hn a ((e2 a).mpr rfl),e3,e4.less sub⟩
 |dct ks ts=>obtain⟨a,kvs,e1,e2,e3,e4,e5⟩:=r;exact Rep.GE.mpr ⟨a,kvs,e1,hn a ((e2 a).mpr rfl),.inl e3,e4,e5.less sub⟩
 |dd ks rows=>
  obtain⟨a,kvs,as,e1,e2,e3,e4,e5,e6,e7,e8⟩:=r;refine Rep.GE.mpr ⟨a,kvs,e1,hn a ((e2 a).mpr (.inl rfl)),.inl e5,e6,?_⟩;rw[e7];exact uY (λb hb=>hn b ((e2 b).mpr (.inr hb))) (e8.less sub)
 |ob C ns ls=>
  obtain⟨a,dx,as,e1,e2,e3,e4,e5,e6,e7,e8⟩:=r;have hl:ns.length=(as.map V.ref).length:=by rw[Oa];exact e6
  refine Rep.Nh.mpr ⟨a,dx,_,e1,⟨⟨hn a ((e2 a).mpr (.inl rfl)),hn dx ((e2 dx).mpr (.inr (.inl rfl))),e5⟩,as,sf hl,e3.1,e3.2.1,e3.2.2.1,e3.2.2.2,by rw[nP hl];exact e7⟩,e4,nP hl,?_⟩;rw[sf hl];exact(e8.less sub).rep λb hb=>hn b ((e2 b).mpr (.inr (.inr hb)))
 |ll ls=>
  obtain⟨a,as,e1,e2,e3,e4,e5,e6⟩:=r;exact Rep.Do.mpr ⟨a,_,e1,hn a ((e2 a).mpr (.inl rfl)),e5,(e6.less sub).rep λb hb=>hn b ((e2 b).mpr (.inr hb))⟩
variable{B:Ow}{Z:En}{σ:L2.St}
section
variable {o o':OT}
def Ev.new(E:Ev K B M H Z σ)(hl:i<Z.length)(hm:∀a,m a->Nw K H a)(s:Same H H')(r:ORep K (OO B (M.set i m)) m H' o v):
  Ev K B (M.set i m) H' (Z.set i (.ow o)) (σ.set i (ZA v))/\∀a,(M.set i m).u a->M.u a\/Nw K H a:=by
 have hls:i<σ.length:=by rw[<-E.env.len];exact hl
 have sub:∀a,(M.set i m).u a->M.u a\/Nw K H a:=λa z=>(Mn.FM z).elim (λw=>.inr (hm a w)) .inl;have subO:∀a,OO B (M.set i m) a->OO B M a\/Nw K H a:=λa z=>z.elim (λw=>.inl (.inl w)) λw=>(sub a w).elim (λy=>.inl (.inr y)) .inr;have eZ:∀a,Nw K H a->¬ OO B M a:=λa w z=>by obtain⟨o,e⟩:=(E.env.trk a z).some;rw[w.1]at e;cases e
 refine⟨⟨⟨by rw[OZ,OZ];exact E.env.len,λj t e=>?_,λj o' e=>?_,λj a z=>.inr ⟨j,z⟩,λj k a z1 z2=>?_,λa z=>?_⟩,λa z=>?_⟩,sub⟩
 .by_cases hj:i=j
  .subst hj;rw[Oz hl]at e;cases e
  .rw[Oy hj]at e;obtain⟨w,e1,e2⟩:=E.env.val j t e;exact⟨w,by rw[Oy hj];exact e1,(e2.more subO).same s⟩
 .by_cases hj:i=j
  .subst hj;rw[Oz hl]at e;cases e;exact⟨v,Oz hls,by rw[Mn.KF];exact r⟩
  .rw[Oy hj]at e;obtain⟨w,e1,e2⟩:=E.env.own j o' e;refine⟨w,by rw[Oy hj];exact e1,?_⟩;rw[Mn.Nc (λz=>hj z.symm)];exact(e2.move (P:=ko) (λ_ z=>z.elim) subO (λb u q _=>q) λ_ _ z=>z).same s
 .unfold Mn.set at z1 z2;by_cases hj:j=i
  .by_cases hk:k=i
   .exact hj.trans hk.symm
   .rw[if_pos hj]at z1;rw[if_neg hk]at z2;exact(eZ a (hm a z1) (.inr ⟨k,z2⟩)).elim
  .by_cases hk:k=i
   .rw[if_neg hj]at z1;rw[if_pos hk]at z2;exact(eZ a (hm a z2) (.inr ⟨j,z1⟩)).elim
   .rw[if_neg hj]at z1;rw[if_neg hk]at z2;exact E.env.dis j k a z1 z2
 .rcases z with z|z
  .exact(E.env.trk a (.inl z)).same s
  .rcases Mn.FM z with w|w
   .exact r.mtb a w
   .exact(E.env.trk a (.inr w)).same s
 .intro hb;rcases Mn.FM z with w|w
  .exact eZ a (hm a w) (.inl hb)
  .exact E.mine a w hb
def Ev.put(E:Ev K B M H Z σ)(hi:Z[i]?=ZA (.ow o))(hs:σ[i]?=ZA (ZA v))(s:SameO (M i) H H')(r:ORep K (OO B M) (M i) H' o' v):Ev K B M H' (Z.set i (.ow o')) σ/\SameO M.u H H':=by
 have hl:i<Z.length:=(Ol.mp hi).1;have inO:∀a,M i a->OO B M a\/Nw K H a:=λa z=>.inl (.inr ⟨i,z⟩);have idO:∀a,OO B M a->OO B M a\/Nw K H a:=λa z=>.inl z;refine⟨⟨⟨by rw[OZ];exact E.env.len,λj t e=>?_,λj o2 e=>?_,E.env.sub,E.env.dis,λa z=>?_⟩,E.mine⟩,λb u e n=>s b u e λz=>n ⟨i,z⟩⟩
 .by_cases hj:i=j
  .subst hj;rw[Oz hl]at e;cases e
  .rw[Oy hj]at e;obtain⟨w,e1,e2⟩:=E.env.val j t e;exact⟨w,e1,e2.move inO idO s⟩
 .by_cases hj:i=j
  .subst hj;rw[Oz hl]at e;cases e;exact⟨v,hs,r⟩
  .rw[Oy hj]at e;obtain⟨w,e1,e2⟩:=E.env.own j o2 e;exact⟨w,e1,e2.move inO idO s λa z y=>hj (E.env.dis i j a y z)⟩
 .by_cases hz:M i a
  .exact r.mtb a hz
  .exact(E.env.trk a z).at λo e=>s _ _ e hz
noncomputable def disown(i:Nat)(Z:En):En:=match Z[i]? with
 |some (.ow o)=>Z.set i (.va o.view)
 |_=>Z
theorem EnvM.disown(E:EnvM K O M H Z σ)(i:Nat)(sub:∀a,O' a->O a)(hn:∀a,M i a->¬ O' a)(hin:∀j a,j≠i->M j a->O' a):EnvM K O' (M.set i ko) H (disown i Z) σ:=by
 have base:EnvM K O' (M.set i ko) H (Z.set i (match Z[i]? with|some (.ow o)=>.va o.view|some x=>x|none=>.em)) σ:=by
  refine⟨by rw[OZ];exact E.len,λj t e=>?_,λj o e=>?_,λj a z=>?_,λj k a z1 z2=>?_,λa z=>E.trk a (sub a z)⟩
  .by_cases hj:i=j
   .subst hj;by_cases hl:i<Z.length
    .rw[Oz hl]at e;cases q:Z[i]? with
     |none=>rw[q]at e;cases e
     |some z=>
      rw[q]at e;cases z with
      |em=>cases e
      |va t'=>cases e;obtain⟨w,e1,e2⟩:=E.val i _ q;exact⟨w,e1,e2.less sub⟩
      |ow o=>cases e;obtain⟨w,e1,e2⟩:=E.own i _ q;exact⟨w,e1,e2.rep sub hn⟩
    .rw[Si (by rw[OZ];omega)]at e;cases e
   .rw[Oy hj]at e;obtain⟨w,e1,e2⟩:=E.val j t e;exact⟨w,e1,e2.less sub⟩
  .by_cases hj:i=j
   .subst hj;by_cases hl:i<Z.length
    .rw[Oz hl]at e;cases q:Z[i]? with
     |none=>rw[q]at e;cases e
     |some z=>
      rw[q]at e;cases z with
      |em=>cases e
      |va t'=>cases e
      |ow o=>cases e
    .rw[Si (by rw[OZ];omega)]at e;cases e
   .rw[Oy hj]at e;obtain⟨w,e1,e2⟩:=E.own j o e;refine⟨w,e1,?_⟩;rw[Mn.Nc (λz=>hj z.symm)];exact e2.move (P:=ko) (λ_ z=>z.elim) (λa z=>.inl (sub a z)) (λb u q _=>q) λ_ _ z=>z
  .unfold Mn.set at z;by_cases hj:j=i
   .rw[if_pos hj]at z;exact z.elim
   .rw[if_neg hj]at z;exact hin j a hj z
  .unfold Mn.set at z1 z2;by_cases hj:j=i
   .rw[if_pos hj]at z1;exact z1.elim
   .by_cases hk:k=i
    .rw[if_pos hk]at z2;exact z2.elim
    .rw[if_neg hj]at z1;rw[if_neg hk]at z2;exact E.dis j k a z1 z2
 unfold Tr.disown;cases q:Z[i]? with
 |none=>rw[q,List.set_eq_of_length_le (List.getElem?_eq_none_iff.mp q)]at base;exact base
 |some z=>
  rw[q]at base;cases z with
  |em=>rw[uU q]at base;exact base
  |va t=>rw[uU q]at base;exact base
  |ow o=>exact base
theorem Ev.disown(E:Ev K B M H Z σ)(i:Nat):Ev K B (M.set i ko) H (disown i Z) σ/\∀a,(M.set i ko).u a->M.u a:=by
 have sub:∀a,(M.set i ko).u a->M.u a:=λa z=>(Mn.FM z).elim (λw=>w.elim) id;refine⟨⟨E.env.disown i (λa z=>z.elim .inl λw=>.inr (sub a w)) (λa z y=>?_) λj a hj z=>.inr ⟨j,by rw[Mn.Nc hj];exact z⟩,λa z=>E.mine a (sub a z)⟩,sub⟩;rcases y with y|⟨j,y⟩
 .exact E.mine a ⟨i,z⟩ y
 .unfold Mn.set at y;by_cases hj:j=i
  .rw[if_pos hj]at y;exact y
  .rw[if_neg hj]at y;exact hj (E.env.dis j i a y z)
end
variable{apos cpos:Pos}{st:ZF}
section
variable {a:ZG}{p2 p3:Pos}
def Ev.subO(hm:∀a,m a->Nw K H a)(a:ZE)(z:OO B (M.set i m) a):OO B M a\/Nw K H a:=
 z.elim (λw=>.inl (.inl w)) λw=>(Mn.FM w).elim (λy=>.inr (hm a y)) λy=>.inl (.inr y)
def dJ{H1:Hp}(s:Same H H1){a:ZE}(n:Nw K H1 a):Nw K H a:=(fq (SameO.of (P:=ko) s) n).elim (λz=>z.elim) id
def KY(X:Cx)(t:TA):TE:=λσ H Q=>t σ H λxs H1=>xs.length<=ZI/\∀p,Nw X.K H1 p->Q (.ref p) (upd H1 p (.lst xs))
def sX{t:TA}(h:PA X es t):PE X (.List es pos) (KY X t):=by
 intro kt s σ H Q I hq;refine Vd (bR (h pos kt s σ H _ I hq) λus s1 ⟨xs,H1,I1,r,z,q⟩=>⟨by rw[<-r.length];exact z,?_⟩);have hf:H1 s1.heap.objs.size=ZB:=I1.hok.fresh (On _);have hk:X.K.lookup s1.heap.objs.size=ZB:=by
  cases q:X.K.lookup s1.heap.objs.size with
  |none=>rfl
  |some o=>exact absurd (Os (I1.kIn _ o q)) (OU _)
 refine⟨.ref s1.heap.objs.size,upd H1 s1.heap.objs.size (.lst xs),I1.laid (t':=s1.toks) (λb u e=>Om _ e) (On _) ?_,rfl,q _ ⟨hf,hk⟩⟩;exact⟨z,us,0,r,OI _ rfl⟩
noncomputable def iX(i:Nat)(f:W3)(Z:En):Rs Fl:=do
 let l <-f Z
 if i<Z.length/\l.length<=ZI then .ok (.nx (Z.set i (.ow (.lst l))))else .bad
def E7(i:Nat){f:W3}(hN:X.N.Nodup)(ha:qf X es f)(hi:autoParam (X.N[i]?=ZA x) u_)(hx:autoParam (Loc X.env.scope x) y_)(hs:autoParam (Pb (.List es p2) (ZA (.Name x p3)) pos.line X.env=pure ZD) u_)
  (hf:autoParam (X.fn x=ZC\/X.env.scope.names.lookup x=ZA .local) r_):oj X (.Assign [.Name x p3] (.List es p2) pos) (iX i f):=PS.imp (oR hN hi hx (sX ha) hs hf) λD σ H hh_=>by
 obtain⟨Z,B,M,E,h⟩:=hh_;refine⟨Z,OO B M,E.o,?_⟩;unfold iX at h;cases q:f Z with
 |bad=>rw[q]at h;exact h.elim
 |err c=>rw[q]at h;exact PostF.xa h
 |ok l=>
  rw[q,ax]at h;intro H1 s1 vs rs;by_cases hl:i<Z.length/\l.length<=ZI
  .rw[if_pos hl]at h;refine⟨by rw[<-rs.length];exact hl.2,λp hp=>?_⟩;have hm:∀a,a=p->Nw X.K H1 a:=λa z=>z▸hp;obtain⟨E2,sub⟩:=(E.same s1).new (m:=λa=>a=p) (o:=.lst l) (v:=.ref p) (H':=upd H1 p (.lst vs)) hl.1 hm (aU hp.1 _) ⟨p,vs,rfl,λb=>Rj,aM,(rs.more (Ev.subO hm)).same (aU hp.1 _)⟩;exact h _ _ _ (SameO.of (s1.trans (aU hp.1 _))) E2 λa z=>(sub a z).imp_right (dJ s1)
  .rw[if_neg hl]at h;exact h.elim
noncomputable def oN(i:Nat)(f:W5)(Z:En):Rs Fl:=do
 let t <-f Z
 match t with
 |.lst l=>if i<Z.length then .ok (.nx (Z.set i (.ow (.lst l))))else .bad
 |_=>.bad
def Iv{elt tg iter:ZG}{ifs:List ZG}{spos py:Pos}{src:List (Option Nat)}{fi:W3}{tgt:T->En->Rs En}{fc:W6}{fe:W5}(i:Nat){y:Str}
  (hc:X.calm=ZC) (S:LcScope X scope N' src) (hi:Be X tg iter fi)
  (block:∀cl C s₀ H₀ fp,GW (bz X scope cl N' C s₀ H₀ fp) tg tgt/\z0 (bz X scope cl N' C s₀ H₀ fp) ifs (Bb (bz X scope cl N' C s₀ H₀ fp) fc)/\cm (bz X scope cl N' C s₀ H₀ fp) elt fe)
  (hN:X.N.Nodup) (hiy:autoParam (X.N[i]?=ZA y) u_) (hy:autoParam (Loc X.env.scope y) y_) (hsw:autoParam (Pb (.ListComp elt [⟨tg,iter,ifs,0⟩] scope pos) (ZA (.Name y py)) spos.line X.env=pure ZC) u_)
  (hf:autoParam (X.fn y=ZC\/X.env.scope.names.lookup y=ZA .local) r_) (hs:autoParam (∀x,O9 iter X.env x=pure x) t_):
  oj X (.Assign [.Name y py] (.ListComp elt [⟨tg,iter,ifs,0⟩] scope pos) spos) (oN i (fE fi src tgt fc fe)):=by
 have hPG:∀cl C s₀ H₀ fp,PG (bz X scope cl N' C s₀ H₀ fp) tg (Bc X tgt):=λcl C s₀ H₀ fp=>(block cl C s₀ H₀ fp).1;have hPI:∀cl C s₀ H₀ fp,z0 (bz X scope cl N' C s₀ H₀ fp) ifs (tPT0 X.K fc):=λcl C s₀ H₀ fp kt s σ H Q I h=>(block cl C s₀ H₀ fp).2.1 kt s σ H Q I (tPT0.up (X:=bz X scope cl N' C s₀ H₀ fp) h);have hPE:∀cl C s₀ H₀ fp,PE (bz X scope cl N' C s₀ H₀ fp) elt (tP0 X.K fe):=λcl C s₀ H₀ fp kt s σ H Q I h=>(block cl C s₀ H₀ fp).2.2 kt s σ H Q I (tP0.up (X:=bz X scope cl N' C s₀ H₀ fp) h);refine PS.imp (Hb (g:=Bc X tgt) (tc:=tPT0 X.K fc) (te:=tP0 X.K fe) (i:=i) hc S hi (λcl C s₀ H₀ fp=>⟨hPG cl C s₀ H₀ fp,hPI cl C s₀ H₀ fp,hPE cl C s₀ H₀ fp⟩) hN hiy hy hsw hf hs) λD σ H ⟨Z,B,M,E,h⟩=>vF E.o ?_;unfold oN at h;rw[vG]at h;cases q:JH fi src tgt fc fe Z with
 |bad=>rw[q]at h;exact h.elim
 |err c=>rw[q]at h;exact PostF.xa h
 |ok l=>
  rw[q,ax,ax]at h;intro H1 s1 p ys H' nD sD eD rD;by_cases hl:i<Z.length
  .have h':PostF X B M.u H (.ok (.nx (Z.set i (.ow (.lst l))))) D:=by simpa [hl]using h
   have hm:∀a,a=p->Nw X.K H1 a:=λa z=>z▸nD;obtain⟨E2,sub⟩:=(E.same s1).new (m:=λa=>a=p) (o:=.lst l) (v:=.ref p) (H':=H') hl hm sD ⟨p,ys,rfl,λb=>Rj,eD,rD.less λa z=>z.elim (λw=>.inl (.inl w)) λw=>(Mn.FM w).elim .inr λw=>.inl (.inr w)⟩;exact h' _ _ _ (SameO.of (s1.trans sD)) E2 λa z=>(sub a z).imp_right (dJ s1)
  .have h':PostF X B M.u H (.bad:Rs Fl) D:=by simpa [hl]using h
   exact h'.elim
noncomputable def gF(i:Nat)(f:W5)(Z:En):Rs Fl:=match Z[i]? with
 |some (.ow (.lst l))=>f Z >>= λt=>if l.length<ZI then .ok (.nx (Z.set i (.ow (.lst (l++[t])))))else .bad
 |_=>.bad
def Ev.putL{o:OT}{l':List T}{b:ZE}{vs':List V}(E:Ev K B M H Z σ)(hi:Z[i]?=ZA (.ow o))(hs:σ[i]?=ZA (ZA (.ref b)))(hM:∀c,M i c↔c=b)(r:Reps K (OO B M) H l' vs'):
  Ev K B M (upd H b (.lst vs')) (Z.set i (.ow (.lst l'))) σ/\SameO M.u H (upd H b (.lst vs')):=by
 have sm:SameO (M i) H (upd H b (.lst vs')):=λc u e nb=>by rw[aI (λz=>nb ((hM c).mpr z))];exact e
 exact E.put hi hs sm ⟨b,vs',rfl,hM,aM,r.move (P:=M i) (λa z=>.inl (.inr ⟨i,z⟩)) (λa z=>.inl z) sm⟩
def ID(i:Nat)(ha:cm X a fa)(hN:autoParam (X.N[i]?=ZA x) u_)(hv:autoParam (kA X.env.scope x) v_)(hn:autoParam (a9 a=ZC) u_)
  (hbase:autoParam (OR (.Name x p2) "append" X.env (eval (.Name x p2) X.env)=eval (.Name x p2) X.env) u_) (hline:autoParam ((apos.endLine == cpos.line)=ZC) u_)
  (hd:autoParam ((x == ("__debug__" : Str))=ZD) s_) (hcd:autoParam ((x == ("__classdict__" : Str))=ZD) s_)
  (hsw:autoParam (Pb (.Call (.Attribute (.Name x p2) "append" apos) [a] [] cpos) ZB pos.line X.env=pure ZD) u_):oj X (.Expr (.Call (.Attribute (.Name x p2) "append" apos) [a] [] cpos) pos) (gF i fa):=by
 have h1:Oq [a] X.env=(ZD,eval a X.env)::Oq [] X.env:=aS hn;refine PS.imp (iw (yW PH RN RO jR (dB hN hv hd hcd) (cN ha fG h1) hbase ?_ hline h1 rfl) hsw) λD σ H ⟨Z,B,M,E,h⟩=>?_
 .rw[h1];rfl
 unfold gF at h;split at h
 .rename_i l hl;obtain⟨v0,e1,b,vs,rfl,hM,e3,e4⟩:=E.env.own i _ hl;refine⟨.ref b,e1,.inl ⟨rfl,vs,SqL.of e3⟩,Z,OO B M,E.o,?_⟩;cases q:fa Z with
  |bad=>rw[q]at h;exact h.elim
  |err c=>rw[q]at h;exact PostF.xa h
  |ok t=>
   rw[q,ax]at h;split at h
   .rename_i hz;intro H1 s1 v r;have e3':=s1 _ _ e3;refine⟨b,vs,v,rfl,rfl,e3',by rw[<-e4.length];exact hz,?_⟩;obtain⟨g1,g2⟩:=(E.same s1).putL (l':=l++[t]) (vs':=vs++[v]) hl e1 hM ((e4.same s1).append (Reps.Gc r Reps.GM));exact h σ _ M (λc o e nb=>g2 c o (s1 _ _ e) nb) g1 λc z=>.inl z
   .exact h.elim
 .exact h.elim
noncomputable def J5(i:Nat)(l:List T)(Z:En):T->Rs Fl
 |.lst m=>if l.length+m.length<=ZI then .ok (.nx (Z.set i (.ow (.lst (l++m)))))else .bad
 |_=>.bad
noncomputable def oP(i:Nat)(f:W5)(Z:En):Rs Fl:=match Z[i]? with
 |some (.ow (.lst l))=>f Z >>= J5 i l Z
 |_=>.bad
def Iy(i:Nat)(ha:cm X a fa)(hN:autoParam (X.N[i]?=ZA x) u_)(hv:autoParam (kA X.env.scope x) v_)(hn:autoParam (a9 a=ZC) u_)
  (hbase:autoParam (OR (.Name x p2) "extend" X.env (eval (.Name x p2) X.env)=eval (.Name x p2) X.env) u_) (hline:autoParam ((apos.endLine == cpos.line)=ZC) u_)
  (hd:autoParam ((x == ("__debug__" : Str))=ZD) s_) (hcd:autoParam ((x == ("__classdict__" : Str))=ZD) s_)
  (hsw:autoParam (Pb (.Call (.Attribute (.Name x p2) "extend" apos) [a] [] cpos) ZB pos.line X.env=pure ZD) u_):oj X (.Expr (.Call (.Attribute (.Name x p2) "extend" apos) [a] [] cpos) pos) (oP i fa):=by
 have h1:Oq [a] X.env=(ZD,eval a X.env)::Oq [] X.env:=aS hn;refine PS.imp (iw (yW PH PySem.F.slot_list_extend PySem.F.type_list_extend AE (dB hN hv hd hcd) (cN ha fG h1) hbase ?_ hline h1 rfl) hsw) λD σ H ⟨Z,B,M,E,h⟩=>?_
 .rw[h1];rfl
 unfold oP at h;split at h
 .rename_i l hl;obtain⟨v0,e1,b,vs,rfl,hM,e3,e4⟩:=E.env.own i _ hl;refine⟨.ref b,e1,.inl ⟨rfl,vs,SqL.of e3⟩,Z,OO B M,E.o,?_⟩;cases q:fa Z with
  |bad=>rw[q]at h;exact h.elim
  |err c=>rw[q]at h;exact PostF.xa h
  |ok t=>
   rw[q,ax]at h;unfold J5 at h;split at h
   .rename_i m;split at h
    .rename_i hz;intro H1 s1 v r;obtain⟨c,ws,rfl,nO,hc,rm⟩:=Rep.Do.mp r;have e3':=s1 _ _ e3;refine⟨b,c,vs,ws,rfl,rfl,e3',hc,by rw[<-e4.length,<-rm.length];exact hz,?_⟩;obtain⟨g1,g2⟩:=(E.same s1).putL (l':=l++m) (vs':=vs++ws) hl e1 hM ((e4.same s1).append rm);exact h σ _ M (λc o e nb=>g2 c o (s1 _ _ e) nb) g1 λc z=>.inl z
    .exact h.elim
   .exact h.elim
 .exact h.elim
def kF(i:Nat)(F:W4)(Z:En):Rs Fl:=F (disown i Z)
def IA(i:Nat){F:W4}(h:oj X st F):oj X st (kF i F):=PS.imp h λD σ H hh_=>by obtain⟨Z,B,M,E,q⟩:=hh_;obtain⟨E',sub⟩:=E.disown i;exact⟨disown i Z,B,_,E',PostF.later q (λ_ _ e _=>e) λa z=>.inl (sub a z)⟩
mutual
def T.nk(D:Bool):T->Bool
 |.scr _=>ZD
 |.dct _ ts=>!D&&nks D ts
 |.ob _ _ _=>ZD
 |.lst l=>D&&nks D l
 |.tup l=>nks D l
 |_=>ZC
def nks(D:Bool):List T->Bool
 |[] =>ZC
 |t::l=>t.nk D&&nks D l
end
mutual
theorem Rep.lend{K:N7}{O O':Ow}{H:Hp}{D:Bool}(hk:∀a,O a->O' a\/if D then ∃kvs,Rd H a (.dT kvs)else LO H a):∀{t:T}{v:V},t.nk D=ZC->Rep K O' H t v->Rep K O H t v
 |.non,_,_,r=>by unfold Rep at r ⊢;exact r
 |.bl _,_,_,r=>by unfold Rep at r ⊢;exact r
 |.int _,_,_,r=>by unfold Rep at r ⊢;exact r
 |.str _,_,_,r=>by unfold Rep at r ⊢;exact r
 |.tup l,_,h,r=>by
  unfold Rep at r ⊢;unfold T.nk at h;obtain⟨a,vs,e,n,q,z⟩:=r;refine⟨a,vs,e,λp=>(hk a p).elim n λw=>?_,q,Reps.lend hk h z⟩;split at w
  .obtain⟨_,w|⟨_,w⟩⟩:=w <;> rw[q]at w <;> cases w
  .rcases w with⟨_,w⟩|⟨_,w,y⟩ <;> rw[q]at w <;> cases w <;> cases y
 |.lst l,_,h,r=>by unfold Rep at r ⊢;unfold T.nk at h;rw[Oc]at h;obtain⟨h1,h2⟩:=h;subst h1;obtain⟨a,vs,e,n,q,z⟩:=r;refine⟨a,vs,e,λp=>(hk a p).elim n λw=>?_,q,Reps.lend hk h2 z⟩;rw[if_pos rfl]at w;obtain⟨_,w|⟨_,w⟩⟩:=w <;> rw[q]at w <;> cases w
 |.scr l,_,h,r=>by unfold T.nk at h;cases h
 |.dct ks ts,_,h,r=>by
  unfold Rep at r ⊢;unfold T.nk at h;rw[Oc]at h;obtain⟨h1,h2⟩:=h;cases D with
  |true=>cases h1
  |false=>
   obtain⟨a,kvs,e,n,q,k,z⟩:=r;refine⟨a,kvs,e,λp=>(hk a p).elim n λw=>?_,q,k,Reps.lend hk h2 z⟩;rw[if_neg OB]at w;rcases w with⟨_,w⟩|⟨_,w,y⟩ <;> rcases q with q|⟨_,q⟩ <;> rw[q]at w <;> cases w <;> cases y
 |.ob _ _ _,_,h,r=>by unfold T.nk at h;cases h
theorem Reps.lend{K:N7}{O O':Ow}{H:Hp}{D:Bool}(hk:∀a,O a->O' a\/if D then ∃kvs,Rd H a (.dT kvs)else LO H a):∀{l:List T}{vs:List V},nks D l=ZC->Reps K O' H l vs->Reps K O H l vs
 |[],_,_,r=>by unfold Reps at r ⊢;exact r
 |t::l,_,h,r=>by unfold Reps at r ⊢;unfold nks at h;rw[Oc]at h;obtain⟨v,ws,e,p,q⟩:=r;exact⟨v,ws,e,Rep.lend hk h.1 p,Reps.lend hk h.2 q⟩
end
noncomputable def ln(i:Nat)(f:W5)(Z:En):Rs T:=match Z[i]? with
 |some (.ow o)=>f (disown i Z) >>= λt=>if t.nk o.isD=ZC then .ok t else .bad
 |_=>f Z
def Bd(i:Nat)(f:W6)(Z:En):Rs Bool:=f (disown i Z)
def rX(E:EnvM K O M H Z σ)(i:Nat):EnvM K (λa=>O a/\¬ M i a) (M.set i ko) H (disown i Z) σ:=
 E.disown i (λa z=>z.1) (λa z y=>y.2 z) λj a hj z=>⟨E.sub j a z,λy=>hj (E.dis j i a z y)⟩
def q_ln(i:Nat)(h:cm X e f):cm X e (ln i f):=PE.imp h λσ H Q ⟨Z,O,⟨M,E⟩,q⟩=>by
 unfold ln at q;split at q
 .rename_i o hi;refine⟨disown i Z,_,⟨_,rX E i⟩,?_⟩;obtain⟨w,e1,r⟩:=E.own i o hi;refine Post.mono (Post.bind q) λt H' s q2 v rv=>?_;split at q2
  .rename_i hk;have kd:=(r.same s).kind;refine q2 H' (Same.refl _) v (Rep.lend (λa z=>?_) hk rv);by_cases hm:M i a
   .refine .inr ?_;have this:=kd a hm;by_cases hD:o.isD=ZC
    .rw[if_pos hD]at this ⊢;exact this.imp λ_ z=>.inl z
    .rw[if_neg hD]at this ⊢;exact this
   .exact .inl ⟨z,hm⟩
  .exact q2.elim
 .exact⟨Z,O,⟨M,E⟩,q⟩
def Lh(i:Nat){f:W6}(h:wq X e f):wq X e (Bd i f):=PT.imp h λσ H Q ⟨Z,O,⟨M,E⟩,q⟩=>⟨disown i Z,_,⟨_,rX E i⟩,q⟩
end
noncomputable def kP:List T->List T->List Key->Option T
 |k'::ks,v::vs,k=>if keyOf k'=ZA k then ZA v else kP ks vs k
 |_,_,_=>ZB
noncomputable def gb(k v:T):List T->List T->List T×List T
 |k'::ks,v'::vs=>if keyOf k'=keyOf k then(k'::ks,v::vs)else(k'::(gb k v ks vs).1,v'::(gb k v ks vs).2)
 |_,_=>([k],[v])
noncomputable def jB(x y:T):Rs T:=match x,keyOf y with
 |.dct ks vs,ZA k=>match kP ks vs k with
  |some t=>.ok t
  |none=>.bad
 |_,_=>.bad
noncomputable def i6(x y:T):Rs T:=match x,keyOf y with
 |.dct ks vs,ZA k=>match kP ks vs k with
  |some t=>.ok t
  |none=>.ok .non
 |_,_=>.bad
noncomputable def DK(x y:T):Rs T:=match y,keyOf x with
 |.dct ks vs,ZA k=>.ok (.bl (kP ks vs k).isSome)
 |_,_=>.bad
noncomputable def oD(g:T->T->Rs T)(fa fb:W5)(Z:En):Rs T:=fa Z >>= λx=>match x with
 |.dct ks vs=>fb Z >>= g (.dct ks vs)
 |_=>.bad
noncomputable def oL(g:T->T->Rs T)(fa fb:W5)(Z:En):Rs T:=fa Z >>= λx=>match x with
 |.lst l=>fb Z >>= g (.lst l)
 |_=>.bad
noncomputable def Hd:List T->Option (List (T×T))
 |[] =>ZA []
 |.tup [k,v] ::l=>match keyOf k,Hd l with
  |some _,ZA r=>ZA ((k,v)::r)
  |_,_=>ZB
 |_=>ZB
noncomputable def f9:List (T×T)->List T×List T->List T×List T
 |[],d=>d
 | (k,v)::r,d=>f9 r (gb k v d.1 d.2)
noncomputable def lN:List T->Rs T
 |[.lst l] =>match Hd l with
  |some ps=>if l.length<=1000 then .ok (.dct (f9 ps ([],[])).1 (f9 ps ([],[])).2)else .bad
  |none=>.bad
 |_=>.bad
noncomputable def qW(i:Nat)(f:W5)(Z:En):Rs Fl:=f Z >>= λt=>lN [t] >>= λd=>match d with
 |.dct ks vs=>if i<Z.length then .ok (.nx (Z.set i (.ow (.dct ks vs))))else .bad
 |_=>.bad
noncomputable def Ak(i:Nat)(fk fv:W5)(Z:En):Rs Fl:=match Z[i]? with
 |some (.ow (.dct ks vs))=>fv Z >>= λv=>fk Z >>= λk=>match keyOf k with
  |some _=>if ks.length<1000 then .ok (.nx (Z.set i (.ow (.dct (gb k v ks vs).1 (gb k v ks vs).2))))else .bad
  |none=>.bad
 |_=>.bad
noncomputable def iY:List T->Option (List Int)
 |[] =>ZA []
 |.int i::l=>(iY l).map (i:: ·)
 |_=>ZB
noncomputable def xE(i:Int):List Int->Int
 |[] =>i
 |j::l=>xE (if j<i then j else i) l
noncomputable def F1:List T->Rs T
 |[.lst l] =>match iY l with
  |some (i::ns)=>.ok (.int (xE i ns))
  |_=>.bad
 |[.int i,.int j] =>.ok (.int (xE i [j]))
 |_=>.bad
noncomputable def j5(x:T):List T->Nat->Option Nat
 |[],_=>ZB
 |t::l,n=>if aW t x then ZA n else j5 x l (n+1)
noncomputable def gw(y x:T):Rs T:=match y with
 |.lst l=>if (x.dep<=60\/deps l<=60)/\x.nd=ZC/\nds l=ZC then match j5 x l 0 with
   |some n=>.ok (.int n)
   |none=>.bad
  else .bad
 |_=>.bad
noncomputable def nV(y x:T):Rs T:=match y with
 |.lst l=>if (x.dep<=60\/deps l<=60)/\x.nd=ZC/\nds l=ZC then .ok (.int (l.countP λt=>aW t x))else .bad
 |_=>.bad
noncomputable def BH(i:Nat)(f:W5)(Z:En):Rs Fl:=match Z[i]? with
 |some (.va (.int a))=>f Z >>= λy=>match y with
  |.int b=>.ok (.nx (Z.set i (.va (.int (a+b)))))
  |_=>.bad
 |_=>.bad
def FU:Nat:=1000000000000
variable{h:ZH}
theorem gI{b b':ZH}:∀{l:List Env},h.FunFrames b l->(∀a∈l.filterMap (·.frame),b'.get? a=ZB)->h.FunFrames b' l
 |[],_,_=>trivial
 |env::bK,⟨hk,⟨L,o,hf,hn,ho,hd⟩,hr⟩,q=>by rw[PB,hf]at q;exact⟨hk,⟨L,o,hf,q L Oe,ho,hd⟩,gI hr λa ha=>q a (N8 _ ha)⟩
variable{C e:ZE}{M:WH}{outer:List Env}
structure Ee (fs:List ZE)(C e:ZE)(T:Option ZE)(h h':ZH)(T':ZE):Prop where
 flt:KD h' C e (ZA T')
 new:T=ZA T'\/h.get? T'=ZB
 keep:∀b o,b∉fs->b≠e->T≠ZA b->h.get? b=ZA o->h'.get? b=ZA o
 slot:∀b o,b∈fs->h.get? b=ZA o->∃sl,h'.get? b=ZA {o with slots:=sl}
def CL{base:ZH}{L:ZE}{T:Option ZE}{Q:Unit->Ob->Prop}(hfr:A.frames=ZA (env::outer))(hl:s.heap.FunFrames base (env::outer))(hf:env.frame=ZA L)
  (F:KD s.heap C e T) (h:∀h' T',Ee ((env::outer).filterMap (·.frame)) C e T s.heap h' T'->Q () {s with heap:=h'}):ZJ M A (leaving env (.ref e)) Q E s:=by
 generalize hB:T7 s.heap (e::(T.toList++(env::outer).filterMap (·.frame)))=B;have bm:∀b,b∈e::(T.toList++(env::outer).filterMap (·.frame))->B.get? b=ZB:=λb m=>by rw[<-hB];exact SD _ m
 have hl':s.heap.FunFrames B (env::outer):=gI hl λa ha=>bm a (N8 _ (ON _ ha));have hst:B.StaysIn s.heap:=λb o q=>by rw[<-hB]at q;exact Tc _ q
 have hen:B.get? e=ZB:=bm e Oe;have main:∀h',Heap.Left B (env::outer) e (.ref C) s.heap h'->Q () {s with heap:=h'}:=λh' q=>by
  obtain⟨x1,x2,⟨oe,vs,T',oT,ts,he,hc,hd,h1,hnT,hTe,hT,hdT,h3⟩,x4⟩:=q;refine h h' T' ⟨⟨hTe,oe,vs,he,hc,hd,h1,oT,ts,hT,hdT,h3⟩,?_,λb o n1 n2 n3 q=>?_,λb o m q=>?_⟩
  .cases q:s.heap.get? T' with
   |none=>exact .inr rfl
   |some o=>
    left;by_cases z:T'∈e::(T.toList++(env::outer).filterMap (·.frame))
    .rcases Oj.mp z with z|z
     .exact absurd z hTe
     .rcases Ox.mp z with z|z
      .cases T with
       |none=>simp at z
       |some t=>simp at z;rw[z]
      .obtain⟨_,o',ho',hnf⟩:=x2.mem z;rw[hT]at ho';cases ho';exact absurd hdT (hnf ts)
    .rw[<-hB,Q9 _ q z]at hnT;cases hnT
  .refine x1 b o ?_;rw[<-hB];refine Q9 _ q λz=>?_;rcases Oj.mp z with z|z
   .exact n2 z
   .rcases Ox.mp z with z|z
    .cases T with
     |none=>simp at z
     |some t=>simp at z;exact n3 (by rw[z])
    .exact n1 z
  .obtain⟨_,o',ho',hnf⟩:=hl.mem m;rw[q]at ho';cases ho';exact x4 b o q hnf
 cases T with
 |none=>
  obtain⟨oe,vs,he,hc,hd,h1⟩:=F;refine wpAny_leaving_first hfr hl' hf he hst hen hd h1 λh' x=>main h' ?_;rw[hc]at x;exact x
 |some t=>
  obtain⟨hte,oe,vs,he,hc,hd,h1,oT,ts,hT,hdT,h3⟩:=F;exact wpAny_leaving_next hfr hl' hf ⟨oe,vs,t,oT,ts,he,hc,hd,h1,bm t (N8 _ (OL _ (by simp))),hte,hT,hdT,h3⟩ hst hen main
noncomputable abbrev bmV:List N9:=[.type "ValueError",.type "Exception",.type "BaseException",.type "object"]
structure OwnExc (K:N7)(C:ZE)(bm:List N9):Prop where
 at_:∀h:ZH,K.In h->∃nm q N bs hdct sn sub ab col dd k0 k1 k2 k3 k5 mN,h.get? C=ZA (PL nm q C N bs bm hdct sn sub ab col dd k0 k1 k2 k3 k5 "ValueError.__new__")/\h.Ns N mN/\mN "__init__" =ZB/\OwnTail h bmV bm
def OwnExc.base(O:OwnExc K C bm)(k:K.In h):bm.contains (.type "BaseException")=ZC:=by obtain⟨_,_,_,_,_,_,_,_,_,_,_,_,_,_,_,_,_,_,_,T⟩:=O.at_ h k;exact T.hasType (by decide)
noncomputable def uX(c:Str)(_:En):Rs Fl:=.err c
variable{c:Str}
def BN{msg:Str}{np p1:Pos}(O:OwnExc X.K C bm)(hc:X.calm=ZC)(hm:X.mg c=ZA (.ref C))(hg:autoParam (Gl X c) u_)(hd:autoParam ((c == ("__debug__" : Str))=ZD) s_):
  oj X (.Raise (ZA (.Call (.Name c np) [.Constant (.str msg) j p1] [] cpos)) ZB pos) (uX c):=by
 intro kt s σ H D I ⟨Z,B,M,E,k⟩;have k:XA X M.u H c:=k;obtain⟨nm,q,N,bs,hdct,sn,sub,ab,col,dd,k0,k1,k2,k3,k5,mN,hC,hN,hni,T⟩:=O.at_ s.heap I.kIn;refine wpAny_Raise_call_subU (C:=C) (mN:=mN) (nm:=nm) (q:=q) (N:=N) (bs:=bs) (hdct:=hdct) (sn:=sn) (sub:=sub) (ab:=ab) (col:=col) (dd:=dd) (k0:=k0) (k1:=k1) (k2:=k2) (k3:=k3) (k5:=k5) S6 (Bn:="ValueError") (by decide) S6 (O.base I.kIn) (I.ok.hd hc) (by rfl) hni (gy I hg hm ⟨rfl,?_⟩ hd);show ZJ _ _ (evalArgs (.ref C) ZC ((ZD,eval (.Constant (.str msg) j p1) X.env)::backTo cpos (Oq [] X.env)) []) _ _ s;refine QZ (Rk (UZ (Rt ?_)));refine⟨rfl,by show 1<=ZI;decide,hC,hN,T,λh' e hm'=>k kt _ _ ?_⟩;obtain⟨t,ht,ht2,ht3⟩:=hm'.there;have I':Inv X kt σ H {s with heap:=h',toks:=s.toks+1}:=I.kept (t':=s.toks+1) λb o z=>hm'.keeps b o z;refine⟨e,ZB,C,σ,H,rfl,hm,I',λb o z _=>z,?_,?_,⟨_,_,ht,rfl,rfl,rfl⟩,(λt z=>by cases z),λp hp=>⟨λz=>?_,λz=>by cases z⟩⟩
 .exact jm I hm'.new
 .exact λhex=>e9 I hex hm'.new
 .have:=(I.pin p hp).1;rw[z,show s.heap.get? e=ZB from hm'.new]at this;cases this
variable{f:ZE}{mg:W0}{qual:Str}
section
variable {base:ZH}
def J3(Fn:L2.Fun K x qual st f fd)(S:bo N ps (ao st))(hn:ps.length=n)
  (hbody:∀(cdv:N9)(A:OY)(outer:List Env)(s:Ob)(H:Hp)(E:XK),Room k (A.deeper (envOfC qual (ao st) s.heap.objs.size f cdv)) ->
   ∃F,(∀xe,mI ((gf CX0 P w K mg base N qual (ao st) f cdv A outer s H E).FB xe) (bD st) F)/\∀ts,ts.length=n->∀c,g ts=.err c->F (bx N.length ts)=.err c):FnX P w K mg base (k+1) f fd ps n g:=by
 intro A outer s H args us vs O ts c R hr e0 hb r rs trk hl hg hR;have hpl:ps.length<=N.length:=by have:=congrArg QQ S.pre;rw[PQ]at this;omega
 obtain⟨oc,od,kV,doc,pm,an,cdv,ct,osl,rfl,lk,hcd⟩:=Fn.ex;have hlen:vs.length=ps.length:=by rw[<-rs.length,hl,hn]
 have KX:K.In s.heap:=e0.mod.kin.keeps λb o e=>(e0.bs b o e).1;have lim:s.heap.NoLimit:=e0.mod.nolimit.keeps λb o e=>(e0.bs b o e).1;have hkind:∀y∈ps.zip us,(ao st).names.lookup y.1=ZA .local\/((ao st).names.lookup y.1=ZA .cell/\((Q7 (s.heap.objs.size+1) (ao st).names []).lookup y.1).isSome=ZC):=λ⟨n,v⟩ hy=>by
  rcases S.par n (Ro hy).1 with q|q
  .exact .inl q
  .exact .inr ⟨q,Rh _ _ _ (.inl q)⟩
 refine Ss hr.depth (KX _ _ lk) rfl S.co S.gen rfl (Td KX hcd) (hb _ _ _ _ ?_);refine RE S.kind hkind λenv he s1 x=>?_;subst he;refine⟨lim.keeps x.toInCall.keep,VW ?_⟩;obtain⟨F,hF,hv⟩:=hbody cdv A outer s H E0 (hr.deeper _);let xe:W1:=λev s'=>ZJ (ZK P w) (A.deeper (envOfC qual (ao st) s.heap.objs.size f cdv)) (leaving (envOfC qual (ao st) s.heap.objs.size f cdv) ev) (λ_ s''=>R (.error ev) s'') (λe' s''=>R (.error e') s'') s';have I:Inv ((gf CX0 P w K mg base N qual (ao st) f cdv A outer s H E0).FB xe) [] (start N vs) H s1:=(mB S hr.hd e0 hlen r x).FB _;have no:∀a,¬noM.u a:=λa ⟨_,z⟩=>z;refine PX (hF xe [] s1 (start N vs) H {nx:=λ_ _=>False,rt:=λ_ _=>False,bk:=λ_ _=>False,ct:=λ_ _=>False} I ⟨bx N.length ts,O,noM,qT rs (by omega) trk,?_⟩) (λfl s' z=>?_) λe s' hs=>hs
 rotate_left
 .cases fl with
  |next=>obtain⟨_,_,_,z⟩:=z;exact z.elim
  |cont=>obtain⟨_,_,_,z⟩:=z;exact z.elim
  |brk=>obtain⟨_,_,_,z⟩:=z;exact z.elim
  |ret v=>obtain⟨_,_,_,_,_,z⟩:=z;exact z.elim
 rw[hv ts hl c hg];intro kt ev s' w';show ZJ _ _ _ _ _ _;obtain⟨e,T,C,σ',H',rfl,hm,I',sm,he,heo,fl,hT,_⟩:=w';have heo:=heo rfl;have hT:∀t,T=ZA t->H' t=ZB/\s.heap.get? t=ZB:=λt z=>⟨(hT t z).1,(hT t z).2 rfl⟩;refine CL (base:=base) (outer:=outer) (L:=s.heap.objs.size) I'.ok.frames I'.stack rfl fl λh' T' g=>hR _ _ ?_;have hex:((gf CX0 P w K mg base N qual (ao st) f cdv A outer s H E0).FB xe).ex=[]:=rfl;have Tn:H' T'=ZB/\s.heap.get? T'=ZB:=by
  rcases g.new with z|z
  .exact hT T' z
  .exact⟨jm I' z,e9 I' hex z⟩
 have out:∀b o,s.heap.get? b=ZA o->b≠s.heap.objs.size:=λb o q z=>by have:=Os q;rw[z]at this;exact absurd this (OU _)
 have mem:∀b,b∈n8 ((envOfC qual (ao st) s.heap.objs.size f cdv)::outer)->b=s.heap.objs.size\/b∈n8 outer:=λb z=>by have z':b∈s.heap.objs.size::n8 outer:=z;exact Oj.mp z'
 have ne:∀b o,s.heap.get? b=ZA o->b≠e/\T≠ZA b:=λb o q=>⟨λz=>(by subst z;rw[show s.heap.get? b=ZB from heo]at q;cases q),λz=>(by rw[show s.heap.get? b=ZB from(hT b z).2]at q;cases q)⟩;have keepH:∀b u,H' b≠ZB->s'.heap.get? b=ZA u->h'.get? b=ZA u:=λb u hb q=>by refine g.keep b u (λz=>hb (I'.Nf b z)) (λz=>hb (by rw[z];exact he)) (λz=>hb (hT b z).1) q
 refine⟨e,T',C,H',rfl,hm,I'.os,I'.bare,⟨λb o q n hb hx=>?_,λb o q n hb hx=>?_,λb o q n hx=>I'.base.free b o q n hx,λb o q hx=>?_,I'.base.tups,I'.base.frzs,I'.base.tbls⟩,λa o q=>?_,λb o q=>sm b o q (no b),he,heo,g.flt,Tn.1,Tn.2⟩
 .exact g.keep b o (λz=>(mem b z).elim (out b o q) hb) (ne b o q).1 (ne b o q).2 (I'.base.keep b o q n hb hx)
 .obtain⟨sl,q1⟩:=I'.base.slot b o q n hb hx;obtain⟨sl',q2⟩:=g.slot b _ (N8 _ hb) q1;exact⟨sl',q2⟩
 .obtain⟨o',q1⟩:=I'.base.there b o q hx;by_cases z:b∈n8 ((envOfC qual (ao st) s.heap.objs.size f cdv)::outer)
  .obtain⟨sl,q2⟩:=g.slot b o' z q1;exact⟨_,q2⟩
  .exact⟨o',g.keep b o' z (ne b o q).1 (ne b o q).2 q1⟩
 .refine(I'.hok a o q).Nk (λb u hb z=>keepH b u ?_ z) (λ_ z=>z) λ_ _ z=>z;rcases hb with rfl|hb
  .rw[q];simp
  .rw[hb];simp
end
def EF{m:Nat}{F:W4}(h:val n m F ts=.err c):F (bx m ts)=.err c:=by
 unfold val at h;split at h
 .unfold dY at h;cases z:F (bx m ts)with
  |bad=>rw[z]at h;cases h
  |err c'=>rw[z]at h;cases h;rfl
  |ok f=>
   rw[z,ax]at h;cases f <;> cases h
 .cases h
section
variable {base:ZH}
def J4{F:W4}(Fn:L2.Fun K x qual st f fd)(S:bo N ps (ao st))(hn:ps.length=n)
  (hbody:∀(cdv:N9)(A:OY)(outer:List Env)(s:Ob)(H:Hp)(E:XK),Room k (A.deeper (envOfC qual (ao st) s.heap.objs.size f cdv)) ->
   ∀xe,mI ((gf CX0 P w K mg base N qual (ao st) f cdv A outer s H E).FB xe) (bD st) F):Er P w K mg base (k+1) f fd ps n (val n N.length F):=
 ⟨MA Fn S hn λcdv A outer s H E hr=>⟨F,hbody cdv A outer s H E hr _,λts _ _ h=>HR h⟩,J3 Fn S hn λcdv A outer s H E hr=>⟨F,hbody cdv A outer s H E hr,λts _ c h=>EF h⟩⟩
end
variable{kt:W2}
section
variable {vs:List V}{Q:VK}
def K9(F:Er X.prog X.w X.K X.mg X.base k f fd ps n g)(hr:Room k X.A)(hb:Binds X.K fd ps [])(hps:ps.length=n)(I:Inv X kt σ H s)(r:Vals vs us)(rs:Reps X.K O H ts vs)(mt:∀a,O a->Mtb H a)(hl:ts.length=n)
  (hq:Post X H (g ts) λt H'=>∀v,Rep X.K O H' t v->Q v H'):ZJ (ZK X.prog X.w) X.A (call (.ref f) us) (EP X kt σ Q) X.xe s:=by
 cases q2:g ts with
 |bad=>rw[q2]at hq;exact hq.elim
 |ok t=>
  rw[q2]at hq;refine w9 (E:=E0) (dvs:=[]) (ds:=[]) F.h hr hb .nil yY I r ⟨ts,O,by simpa using rs,mt,hl,?_⟩;rw[q2];exact λv H' s2 rr=>hq H' s2 v rr
 |err c=>
  rw[q2]at hq;have hlen:us.length=ps.length:=by rw[<-r.length,<-rs.length,hl,hps]
  have hb':=hb s us I.kIn (by rw[OS];exact hlen);rw[OS]at hb';refine TF (Rr (F.x X.A X.stack s H ⟨us,[]⟩ us vs O ts c (λr s'=>match r with|.error ev=>X.xe ev s'|_=>False) hr I.NA hb' r rs mt hl q2 λev s' w=>?_) λr s' hq=>?_)
  .obtain⟨ea,T,C,H',rfl,hmc,ho,hbare,hun,hok,sm2,hea,heo,fl,hT,hTo⟩:=w;have I2:Inv X kt σ H' s':=I.Nt ho hun hok hbare (λb z=>absurd z (by simp));exact hq kt _ _ ⟨ea,ZA T,C,σ,H',rfl,hmc,I2,λb o q _=>sm2 b o q,hea,λhex=>e9 I hex heo,fl,(λt zt=>by cases zt;exact⟨hT,λhex=>e9 I hex hTo⟩),λpp hpp=>⟨λzz=>(by have:=(I.pin pp hpp).1;rw[zz,heo]at this;cases this),λzz=>(by cases zz;have:=(I.pin pp hpp).1;rw[hTo]at this;cases this)⟩⟩
  .cases r with
   |error ev=>exact hq
   |ok fl=>exact hq.elim
end
section
variable {a:ZG}{p:Pos}
def Lk:oj X (.Continue pos) K8:=PS.imp u6 λD σ H ⟨Z,B,M,E,h⟩=>h σ H M (λ_ _ e _=>e) E λa z=>.inl z
def IB(i:Nat){pos':Pos}(hN:X.N.Nodup)(ha:cm X a fa)(hi:autoParam (X.N[i]?=ZA x) u_)(hx:autoParam (Loc X.env.scope x) y_)(hf:autoParam (X.fn x=ZC\/X.env.scope.names.lookup x=ZA .local) r_):
  oj X (.AugAssign (.Name x pos') .Add a pos) (BH i fa):=PS.imp (IU hN hi hx ha JY hf) λD σ H hh_=>by
 obtain⟨Z,B,M,E,h⟩:=hh_;unfold BH at h;split at h
 .rename_i n e;obtain⟨v,e1,r⟩:=E.env.val i _ e;cases Rep.AC.mp r;have hl:i<Z.length:=(Ol.mp e).1;refine⟨.int n,e1,Z,OO B M,E.o,?_⟩;cases q:fa Z with
  |bad=>rw[q]at h;exact h.elim
  |err c=>rw[q]at h;exact PostF.xa h
  |ok t=>
   rw[q,ax]at h;cases t with
   |int m=>
    intro H1 s1 v rv;cases Rep.AC.mp rv;exact⟨n,m,rfl,rfl,h _ _ M (SameO.of s1) ⟨(E.env.same s1).set hl (Rep.GT _),E.mine⟩ λa z=>.inl z⟩
   |_=>exact h.elim
 .exact h.elim
end
inductive OTail (h:ZH):List N9->Prop
 |base:OTail h bmV
 |own {A:ZE} {c0:N9} {dd:Option ZE} {cd:ClassData} {sl:Array (Option N9)} {mA:W0} {tl:List N9} :
   h.get? A=ZA {cls:=c0,dict:=dd,data:=.cls cd,slots:=sl}->h.Ns cd.ns mA->(∀n∈calmNames,mA n=ZB)->OTail h tl->OTail h (.ref A::tl)
def OTail.tail(T:OTail h tl):OwnTail h bmV tl:=by
 induction T with
 |base=>exact .base
 |own hA hN hq _ ih=>exact .own hA hN (hq _ (.head _)) ih
variable{N:ZE}{dd:Option ZE}{g:Array U9}{k0:Option N9}{nm q:Str}{sn:List Str}{vs:Array N9}
section
variable {t:Nat}
variable{n:Str}
def GO(hn:n∈calmNames)(T:OTail h tl)(hrest:WA bmV n=pure y)(hq:Q y ⟨h,g,d,t,os⟩):
  ZJ M A (WA tl n) Q E ⟨h,g,d,t,os⟩:=by
 induction T with
 |base=>rw[hrest];exact Ou hq
 |own hA hN hni _ ih=>
  rw[Wc];refine Od (wpAny_classOwn_cls hA hN ?_);rw[hni n hn];exact ih
def LR:mroOf (.type "ValueError")=pure bmV:=by rw[mroOf_type];kernel_rfl
variable {bs:List N9}{sub:List N9}{mN:W0}
def xC(hn:n∈calmNames)(hC:h.get? C=ZA (PL nm q C N bs bm hdct sn sub ab col dd k0 k1 k2 k3 k5 newId))(hN:h.Ns N mN)(hmN:∀n∈calmNames,mN n=ZB)(T:OTail h bm)
  (hB:Sa (.type "ValueError") n=pure y) (hq:Q y ⟨h,g,d,t,os⟩):ZJ M A (Sa (.ref C) n) Q E ⟨h,g,d,t,os⟩:=by
 have hrest:WA bmV n=pure y:=by rw[typeLookup_eq,LR]at hB;exact hB
 rw[typeLookup_eq];refine Od (wpAny_mroOf_exc hC ?_);rw[Wc];refine Od (wpAny_classOwn_exc hC hN ?_);rw[hmN n hn];exact GO hn T hrest hq
def CG:Sa (.type "ValueError") "__class__" =pure (ZA (.builtin "object.__class__")):=by rw[R5,QJ];kernel_rfl
def xF:Sa (.type "ValueError") "__getattr__" =pure ZB:=by rw[R5,QJ];kernel_rfl
def ga_V:Slot "ValueError" "__getattribute__" "BaseException.__getattribute__":=.of (owner:="BaseException") (n:="__getattribute__") (by rw[R5,QJ];kernel_rfl) (by decide+kernel) (by decide+kernel) (by decide+kernel) (by first|exact .inl (by decide+kernel)|exact .inr (by decide+kernel)) (by rw[isSubtype_type];kernel_rfl)
variable {o:Obj}
def GH(hC:h.get? C=ZA (PL nm q C N bs bm hdct sn sub ab col dd k0 k1 k2 k3 k5 newId))(T:OTail h bm)
  (hx:h.get? a=ZA o) (hc:o.cls=.ref C) (hq:R (.ok (.ret (.ref C))) ⟨h,g,d,t,os⟩):
  ZL (ZK prog w) A (.call (.builtin "getset_descriptor.__get__") ⟨[.builtin "object.__class__",.ref a,.ref C],[]⟩) R ⟨h,g,d,t,os⟩:=by
 have hT5:(⟨h,g,d,t,os⟩:Ob).TypeIs (.builtin "object.__class__") "getset_descriptor":=Sm;have hcB:(OF C::bm).contains (.type (".".intercalate ("object.__class__".cutAt '.').dropLast))=ZC:=by rw[F.owner_object_class,Pt,T.tail.hasType (b:=ZC) (by decide)];rfl
 refine SI U5.plain F.entry_gs_get (U5.check _ _ _ _ _ _ _ _ hT5 (F.args_gs_get _ _ _) ?_);repeat (any_goals (first|assumption| (with_reducible refine Ph hx ?_;rw[hc])| (with_reducible refine Qv hC ?_;rw[hcB])|wp_step))
 refine⟨Code.quiet_builtin _ (by decide+kernel),Uu F.entry_object_class ?_⟩;repeat (any_goals (first|assumption| (with_reducible refine Ph hx ?_;rw[hc])|wp_step))
def Dm{nameV:N9}{Q:Unit->Ob->Prop}(hC:h.get? C=ZA (PL nm q C N bs bm hdct sn sub ab col dd k0 k1 k2 k3 k5 newId))(T:OTail h bm)
  (hx:h.get? a=ZA o) (hc:o.cls=.ref C) (hq:Q () ⟨h,g,d,t,os⟩):ZJ M A (Wd "BaseException.__getattribute__" ⟨[.ref a,nameV],[]⟩) Q E ⟨h,g,d,t,os⟩:=by
 have hk:builtinKind "BaseException.__getattribute__" =ZA .slot:=by decide+kernel
 have hsplit:splitId "BaseException.__getattribute__" =ZA ("BaseException","__getattribute__"):=by decide+kernel
 have hcB:(OF C::bm).contains (.type "BaseException")=ZC:=by rw[Pt,T.tail.hasType (b:=ZC) (by decide)];rfl
 have ha:=F.args_bexc_ga (.ref a) nameV;simp only[Wd,hk,hsplit];refine Od ?_
 .unfold isInstance;repeat (first| (with_reducible refine Ph hx ?_;rw[hc])| (with_reducible refine Qv hC ?_;rw[hcB])|wp_step)
  exact hq
def A1{tk:Tok}{Q:Fin->Ob->Prop}(hC:h.get? C=ZA (PL nm q C N bs bm hdct sn sub ab col dd k0 k1 k2 k3 k5 newId))(hN:h.Ns N mN)
  (hmN:∀n∈calmNames,mN n=ZB) (T:OTail h bm) (hx:h.get? a=ZA o) (hc:o.cls=.ref C) (hd:o.data=.fields vs) (hq:Q (.done (.ret (.ref C))) ⟨h,g,d,t,os⟩):
  ZJ (ZK prog w) A (Builtin.«object.__getattribute__» ⟨[.ref a,.str "__class__" tk],[]⟩) Q E ⟨h,g,d,t,os⟩:=by
 have hT5:(⟨h,g,d,t,os⟩:Ob).TypeIs (.builtin "object.__class__") "getset_descriptor":=Sm;have f5:=Sm;have f6:=U5.lookup;have f7:=F.slot_gs_set.lookup;have hmA:("__class__" : Str)∈calmNames:=.tail _ (.tail _ (.tail _ (.head _)));repeat (any_goals (first|assumption| (with_reducible refine Ph hx ?_;rw[hc])|with_reducible refine xC hmA hC hN hmN T CG ?_|wp_step))
 refine GH hC T hx hc ?_;repeat (any_goals (first|assumption|wp_step))
def DQ{tk:Tok}(hC:h.get? C=ZA (PL nm q C N bs bm hdct sn sub ab col dd k0 k1 k2 k3 k5 newId))(hN:h.Ns N mN)
  (hmN:∀n∈calmNames,mN n=ZB) (T:OTail h bm) (hx:h.get? a=ZA o) (hc:o.cls=.ref C) (hd:o.data=.fields vs) (hq:R (.ok (.ret (.ref C))) ⟨h,g,d,t,os⟩):
  ZL (ZK prog w) A (.call (.builtin "BaseException.__getattribute__") ⟨[.ref a,.str "__class__" tk],[]⟩) R ⟨h,g,d,t,os⟩:=
 SI ga_V.plain F.entry_bexc_ga (Dm hC T hx hc (A1 hC hN hmN T hx hc hd hq))
def Ks{tk:Tok}{fill:Bool}{Q:W1}(hC:h.get? C=ZA (PL nm q C N bs bm hdct sn sub ab col dd k0 k1 k2 k3 k5 newId))(hN:h.Ns N mN)
  (hmN:∀n∈calmNames,mN n=ZB) (T:OTail h bm) (hx:h.get? a=ZA o) (hc:o.cls=.ref C) (hd:o.data=.fields vs) (hq:Q (.ref C) ⟨h,g,d,t,os⟩):
  ZJ (ZK prog w) A (getAttrBy (.ref a) (.str "__class__" tk) fill expr) Q E ⟨h,g,d,t,os⟩:=by
 have f3:=ga_V.bind (.ref a);have hx0:(expr&&onTheHeap (Ru "BaseException.__getattribute__"))=ZD:=by cases expr <;> rfl
 have hx2:(Ru "BaseException.__getattribute__" == Ru "object.__getattribute__")=ZD:=by decide+kernel
 have hx1:(onTheHeap (OF C)&&Ru "BaseException.__getattribute__" == Ru "object.__getattribute__")=ZD:=by rw[hx2];rfl
 have hm1:("__getattribute__" : Str)∈calmNames:=.tail _ (.head _);have hm2:("__getattr__" : Str)∈calmNames:=.tail _ (.tail _ (.head _));repeat (any_goals (first|assumption| (with_reducible refine Ph hx ?_;rw[hc])|with_reducible refine xC hm1 hC hN hmN T ga_V.lookup ?_|with_reducible refine xC hm2 hC hN hmN T xF ?_|wp_step))
 refine DQ hC hN hmN T hx hc hd ?_;repeat (any_goals (first|assumption|wp_step))
def DS(hC:h.get? C=ZA (PL nm q C N bs bm hdct sn sub ab col dd k0 k1 k2 k3 k5 newId))(hN:h.Ns N mN)
  (hmN:∀n∈calmNames,mN n=ZB) (T:OTail h bm) (hx:h.get? a=ZA o) (hc:o.cls=.ref C) (hd:o.data=.fields vs) (hq:Q (ZA (.ref C)) ⟨h,g,d,t+1,os⟩):
  ZJ (ZK prog w) A (getAttr? (.ref a) "__class__") Q E ⟨h,g,d,t,os⟩:=by
 unfold getAttr? getAttrBy?;repeat (any_goals (first|assumption|with_reducible apply Ks hC hN hmN T hx hc hd|wp_step))
end
variable{D:ZE}{Q:Fin->Ob->Prop}
section
variable {t:Nat}
variable {bs:List N9}{sub:List N9}{mN:W0}
variable {o:Obj}
def AA{dep:Int}{tk:Tok}(hx:h.get? a=ZA o)(hc:o.cls=.ref C)(hq:Q (.done (.ret (.bool ZC))) ⟨h,g,d,t,os⟩):
  ZJ (ZK prog w) A (Builtin.«isinstance.nested» ⟨[.ref a,.ref C,.int dep tk],[]⟩) Q E ⟨h,g,d,t,os⟩:=by
 have e:(OF C == OF C)=ZC:=by simp
 repeat (any_goals (first|assumption| (with_reducible refine Ph hx ?_;rw[hc])|wp_step))
def Jx{dep:Int}{tk:Tok}(hC:h.get? C=ZA (PL nm q C N bs bm hdct sn sub ab col dd k0 k1 k2 k3 k5 newId))(T:OTail h bm)(hx:h.get? a=ZA o)(hc:o.cls=.ref C)
  (hq:Q (.done (.ret (.bool ZC))) ⟨h,g,d,t,os⟩):ZJ (ZK prog w) A (Builtin.«isinstance.nested» ⟨[.ref a,.type "ValueError",.int dep tk],[]⟩) Q E ⟨h,g,d,t,os⟩:=by
 have e:(OF C == Q1 "ValueError")=ZD:=rfl;have hty:typeOf (.type "ValueError")=pure (.type "type"):=by kernel_rfl
 have hcB:(OF C::bm).contains (.type "ValueError")=ZC:=by rw[Pt,T.tail.hasType (b:=ZC) (by decide)];rfl
 repeat (any_goals (first|assumption| (with_reducible refine Ph hx ?_;rw[hc])| (with_reducible refine Qv hC ?_;rw[hcB])|wp_step))
def Cv{oD:Obj}{cD:ClassData}{dep:Int}{tk:Tok}(hC:h.get? C=ZA (PL nm q C N bs bm hdct sn sub ab col dd k0 k1 k2 k3 k5 newId))(hN:h.Ns N mN)(hmN:∀n∈calmNames,mN n=ZB)(T:OTail h bm)
  (hx:h.get? a=ZA o) (hc:o.cls=.ref C) (hd:o.data=.fields vs) (hD:h.get? D=ZA oD) (hDt:oD.cls=.type "type") (hDd:oD.data=.cls cD) (hne:(OF C == OF D)=ZD) (hnb:(OF C::bm).contains (.ref D)=ZD)
  (hq:Q (.done (.ret (.bool ZD))) ⟨h,g,d,t+1,os⟩):ZJ (ZK prog w) A (Builtin.«isinstance.nested» ⟨[.ref a,.ref D,.int dep tk],[]⟩) Q E ⟨h,g,d,t,os⟩:=by
 repeat (any_goals (first|assumption| (with_reducible refine Ph hx ?_;rw[hc])| (with_reducible refine Ph hD ?_;rw[hDt])| (with_reducible refine Ph hD ?_;rw[hDd])| (with_reducible refine Ph hC ?_)| (with_reducible refine Qv hC ?_;rw[hnb])|with_reducible refine DS hC hN hmN T hx hc hd ?_|wp_step))
end
structure OX (K:N7)(C:ZE)(bm:List N9):Prop where
 at_:∀h:ZH,K.In h->∃nm q N bs hdct sn sub ab col dd k0 k1 k2 k3 k5 mN,h.get? C=ZA (PL nm q C N bs bm hdct sn sub ab col dd k0 k1 k2 k3 k5 "ValueError.__new__")/\h.Ns N mN/\(∀n∈calmNames,mN n=ZB)/\OTail h bm
def OX.own(O:OX K C bm):OwnExc K C bm:=⟨λh k=>by obtain⟨nm,q,N,bs,hdct,sn,sub,ab,col,dd,k0,k1,k2,k3,k5,mN,h1,h2,h3,h4⟩:=O.at_ h k;exact⟨nm,q,N,bs,hdct,sn,sub,ab,col,dd,k0,k1,k2,k3,k5,mN,h1,h2,h3 _ (.head _),h4.tail⟩⟩
variable{Q:VK}{oe:Obj}
section
variable {ev:Array N9}{bmD:List N9}
def Dd(hp:(e,oe)∈X.pn)(hc:oe.cls=.ref C)(hd:oe.data=.fields ev)(OC:OX X.K C bm)(OD:OX X.K D bmD)(b:Bool)(hb:(decide (C=D))=b)(hnb:C≠D->bm.contains (.ref D)=ZD)
  (I:Inv X kt σ H s) (q:Q (.bl b) H):ZJ (ZK X.prog X.w) X.A (call (.builtin "isinstance") [.ref e,.ref D]) (EP X kt σ Q) X.xe s:=by
 have hx:s.heap.get? e=ZA oe:=(I.pin (e,oe) (OL _ hp)).1;obtain⟨nm,qq,N,bs,hdct,sn,sub,ab,col,dd,k0,k1,k2,k3,k5,mN,hC,hN,hmN,T⟩:=OC.at_ s.heap I.kIn;obtain⟨nm',qq',N',bs',hdct',sn',sub',ab',col',dd',k0',k1',k2',k3',k5',mN',hD,_⟩:=OD.at_ s.heap I.kIn;obtain⟨h,g,d,t,os⟩:=s;refine Vk ?_ (by intro z;cases z);by_cases z:C=D
 .subst z;have:b=ZC:=by rw[<-hb];simp
  subst this;exact AA hx hc ⟨.bl ZC,H,I,rfl,q⟩
 .have:b=ZD:=by rw[<-hb];simp[z]
  subst this;refine Cv hC hN hmN T hx hc hd hD rfl rfl ?_ ?_ ⟨.bl ZD,H,I.tok _,rfl,q⟩
  .rw[beq_eq_false_iff_ne];exact λy=>z (UY y)
  .rw[Pt,hnb z,U1,beq_eq_false_iff_ne];exact λy=>z (UY y).symm
def De(hp:(e,oe)∈X.pn)(hc:oe.cls=.ref C)(OC:OX X.K C bm)
  (I:Inv X kt σ H s) (q:Q (.bl ZC) H):ZJ (ZK X.prog X.w) X.A (call (.builtin "isinstance") [.ref e,.type "ValueError"]) (EP X kt σ Q) X.xe s:=by
 have hx:s.heap.get? e=ZA oe:=(I.pin (e,oe) (OL _ hp)).1;obtain⟨nm,qq,N,bs,hdct,sn,sub,ab,col,dd,k0,k1,k2,k3,k5,mN,hC,hN,hmN,T⟩:=OC.at_ s.heap I.kIn;obtain⟨h,g,d,t,os⟩:=s;refine Vk ?_ (by intro z;cases z);exact Jx hC T hx hc ⟨.bl ZC,H,I,rfl,q⟩
end
def Hi{base:ZH}{L:ZE}{T:Option ZE}{Q:Unit->Ob->Prop}(hfr:A.frames=ZA (env::outer))(hl:s.heap.FunFrames base (env::outer))(hf:env.frame=ZA L)
  (F:KD s.heap C e T) (h:∀h' T',Ee ((env::outer).filterMap (·.frame)) C e T s.heap h' T'->Q () {s with heap:=h'}):
  ZJ M A (Wz (.ref e) env) (λ_ s'=>ZJ M A (setFlight (.ref e) ZB) Q E s') E s:=by
 generalize hB:T7 s.heap (e::(T.toList++(env::outer).filterMap (·.frame)))=B;have bm:∀b,b∈e::(T.toList++(env::outer).filterMap (·.frame))->B.get? b=ZB:=λb m=>by rw[<-hB];exact SD _ m
 have hl':s.heap.FunFrames B (env::outer):=gI hl λa ha=>bm a (N8 _ (ON _ ha));have hst:B.StaysIn s.heap:=λb o q=>by rw[<-hB]at q;exact Tc _ q
 have hen:B.get? e=ZB:=bm e Oe;have main:∀h',Heap.Left B (env::outer) e (.ref C) s.heap h'->Q () {s with heap:=h'}:=λh' q=>by
  obtain⟨x1,x2,⟨oe,vs,T',oT,ts,he,hc,hd,h1,hnT,hTe,hT,hdT,h3⟩,x4⟩:=q;refine h h' T' ⟨⟨hTe,oe,vs,he,hc,hd,h1,oT,ts,hT,hdT,h3⟩,?_,λb o n1 n2 n3 q=>?_,λb o m q=>?_⟩
  .cases q:s.heap.get? T' with
   |none=>exact .inr rfl
   |some o=>
    left;by_cases z:T'∈e::(T.toList++(env::outer).filterMap (·.frame))
    .rcases Oj.mp z with z|z
     .exact absurd z hTe
     .rcases Ox.mp z with z|z
      .cases T with
       |none=>simp at z
       |some t=>simp at z;rw[z]
      .obtain⟨_,o',ho',hnf⟩:=x2.mem z;rw[hT]at ho';cases ho';exact absurd hdT (hnf ts)
    .rw[<-hB,Q9 _ q z]at hnT;cases hnT
  .refine x1 b o ?_;rw[<-hB];refine Q9 _ q λz=>?_;rcases Oj.mp z with z|z
   .exact n2 z
   .rcases Ox.mp z with z|z
    .cases T with
     |none=>simp at z
     |some t=>simp at z;exact n3 (by rw[z])
    .exact n1 z
  .obtain⟨_,o',ho',hnf⟩:=hl.mem m;rw[q]at ho';cases ho';exact x4 b o q hnf
 cases T with
 |none=>
  obtain⟨oe,vs,he,hc,hd,h1⟩:=F;unfold Wz;simp only[hf];refine Od (QU he hd h1 ?_);rw[if_neg (by decide)];refine wpAny_newEntry hfr hl' hf he hst hen hd (Pw.mp h1).1 λh' x=>main h' ?_;rw[hc]at x;exact x
 |some t=>
  obtain⟨hte,oe,vs,he,hc,hd,h1,oT,ts,hT,hdT,h3⟩:=F;have hnT:B.get? t=ZB:=bm t (N8 _ (OL _ (by simp)));unfold Wz;simp only[hf];refine Od (QU he hd h1 ?_);rw[if_pos (show(OF t != O7)=ZC from by simp)];refine Od (QU hT hdT h3 ?_);rw[if_neg (show ¬((O7 == rawInt L)=ZC)from by simp[rawInt])];refine Od (UK hT hdT (Pw.mp h3).1 ?_);have other:∀b,b≠t->(s.heap.update t (SM (·.setIfInBounds 3 O7))).get? b=s.heap.get? b:=λb hb=>Ri _ _ (Ra hb);have noRec:∀b o,s.heap.get? b=ZA o->(∀vs,o.data≠ .fields vs)->b≠t:=λb o hb hnf q=>by rw[q,hT]at hb;injection hb with hb;subst hb;exact hnf ts hdT
  refine wpAny_newEntry hfr (hl'.of_keeps λb o hb hnf=>⟨o,(other b (noRec b o hb hnf)).trans hb,rfl⟩) hf ((other e (Ra hte)).trans he)
   (λb o hbo=>(other b λq=>by rw[q,hnT]at hbo;cases hbo).trans (hst b o hbo)) hen hd (Pw.mp h1).1
   λh' x=>main h' ?_
  obtain⟨x1,x2,x3,x4⟩:=x;rw[hc]at x3;exact⟨x1,x2,x3,λb o hb hnf=>x4 b o ((other b (noRec b o hb hnf)).trans hb) hnf⟩
variable{h':ZH}
def Inv.gone{T':ZE}{T:Option ZE}(I:Inv X kt σ H s)(hst:X.stack=X.env::X.outer)(hfe:X.env.frame=ZA X.env.locals)(hcl:∀x c,X.env.cells.lookup x≠ZA c)(hex:X.ex=[])
  (g:Ee ((X.env::X.outer).filterMap (·.frame)) C e T s.heap h' T') (he:H e=ZB) (heo:X.s₀.heap.get? e=ZB) (hT:∀t,T=ZA t->H t=ZB/\X.s₀.heap.get? t=ZB) (hp:∀p∈X.pn++kt,p.1≠e/\T≠ZA p.1):
  Inv X kt σ H {s with heap:=h'}:=by
 have mem:∀b,b∈(X.env::X.outer).filterMap (·.frame)↔b=X.env.locals\/b∈X.fs:=λb=>by rw[PB,hfe];exact Oj
 have out:∀b o,X.s₀.heap.get? b=ZA o->b≠X.env.locals:=λb o q z=>by have h1:=Os q;have h2:=I.ok.above;rw[z]at h1;exact absurd (Oo h1 h2) (OU _)
 have ne:∀b o,X.s₀.heap.get? b=ZA o->b≠e/\T≠ZA b:=λb o q=>⟨λz=>(by subst z;rw[heo]at q;cases q),λz=>(by rw[(hT b z).2]at q;cases q)⟩;have fr:∀b,b∈(X.env::X.outer).filterMap (·.frame)->H b=ZB:=λb z=>I.Nf b (by rw[hst];exact z);have keepH:∀b u,H b≠ZB->s.heap.get? b=ZA u->h'.get? b=ZA u:=λb u hb q=>by refine g.keep b u (λz=>hb (fr b z)) (λz=>hb (by rw[z];exact he)) (λz=>hb (hT b z).1) q
 refine⟨I.ok,I.os,I.bare,⟨λb o q n hb hx=>?_,λb o q n hb hx=>?_,I.base.free,λb o q hx=>?_,I.base.tups,I.base.frzs,I.base.tbls⟩,?_,λx c z=>absurd z (hcl x c),I.free,I.freeC,λp hp'=>?_,λa o q=>?_,I.len⟩
 .exact g.keep b o (λz=>((mem b).mp z).elim (out b o q) hb) (ne b o q).1 (ne b o q).2 (I.base.keep b o q n hb hx)
 .obtain⟨sl,q1⟩:=I.base.slot b o q n hb hx;obtain⟨sl',q2⟩:=g.slot b _ ((mem b).mpr (.inr hb)) q1;exact⟨sl',q2⟩
 .obtain⟨o',q1⟩:=I.base.there b o q hx;by_cases z:b∈(X.env::X.outer).filterMap (·.frame)
  .obtain⟨sl,q2⟩:=g.slot b o' z q1;exact⟨_,q2⟩
  .exact⟨o',g.keep b o' z (ne b o q).1 (ne b o q).2 q1⟩
 .obtain⟨m,⟨o,es,ep,ho,hd,r⟩,hl⟩:=I.loc;obtain⟨sl,q2⟩:=g.slot X.env.locals o ((mem _).mpr (.inl rfl)) ho;refine⟨m,⟨_,es,ep,q2,hd,r⟩,λi x v a1 a2 a3=>?_⟩;obtain⟨u,ru,lk⟩:=hl i x v a1 a2 a3;refine⟨u,ru,?_⟩;rcases lk with z|⟨_,c,z,_⟩
  .exact .inl z
  .exact absurd z (hcl x c)
 .obtain⟨b1,b2,b3,b4,b5⟩:=I.pin p hp';exact⟨g.keep p.1 p.2 (λz=>((mem _).mp z).elim b3 b4) (hp p hp').1 (hp p hp').2 b1,b2,b3,b4,b5⟩
 .refine(I.hok a o q).Nk (λb u hb z=>keepH b u ?_ z) (λ_ z=>z) λ_ _ z=>z;rcases hb with rfl|hb
  .rw[q];simp
  .rw[hb];simp
variable{dd':Option ZE}{sn':List Str}
section
variable {t:Nat}
variable {bs:List N9}{sub:List N9}
variable {nm' q':Str}{N':ZE}{bm':List N9}{k0' k1' k2' k3' k5':Option N9}{newId':String}
def rh{Q:Bool->Ob->Prop}(hC:h.get? C=ZA (PL nm q C N bs bm hdct sn sub ab col dd k0 k1 k2 k3 k5 newId))(hD:h.get? D=ZA (PL nm' q' D N' bs' bm' hdct' sn' sub' ab' col' dd' k0' k1' k2' k3' k5' newId'))
  (he:h.get? e=ZA oe) (hcls:oe.cls=.ref C) (hb:bm'.contains (.type "BaseException")=ZC) (hin:(OF C::bm).contains (.ref D)=ZC) (hq:Q ZC ⟨h,g,d,t,os⟩):ZJ M A (excMatches (.ref e) (.ref D)) Q E ⟨h,g,d,t,os⟩:=by
 have hcB:(OF D::bm').contains (.type "BaseException")=ZC:=by rw[Pt,hb,VQ]
 have f:=tc_notTuple;unfold excMatches;repeat (first| (with_reducible refine Ph he ?_;rw[hcls])|with_reducible refine Ph hD ?_| (with_reducible refine Qv hD ?_;rw[hcB])| (with_reducible refine Qv hC ?_;rw[hin])|wp_step)
 exact hq
end
noncomputable abbrev uh(X:Cx)(e:ZE)(oe:Obj):Cx:={X with A:=X.A.mark (ZA (.ref e)),calm:=ZD,pn:=(e,oe)::X.pn,xe:=λ_ _=>False}
def nZ(I:Inv X kt σ H s)(he:s.heap.get? e=ZA oe)(hH:H e=ZB)(hne:e≠X.env.locals)(hf:e∉X.fs)(hc:∀v,oe.data≠ .cell v):Inv (uh X e oe) kt σ H s:=by
 have ok:=I.ok;refine⟨⟨ok.mod,ok.kind,ok.glob,ok.blt,ok.above,ok.inj,ok.has,ok.cab,(λz=>by cases z),?_,ok.stk,ok.exf,ok.bs,ok.bsz,ok.noex,ok.exfs,ok.funs,ok.frf⟩,I.os,I.bare,I.base,I.loc,I.cell,I.free,I.freeC,λp hp=>?_,I.hok,I.len⟩
 .exact ok.frames
 .rcases Oj.mp (show p∈(e,oe)::(X.pn++kt)from hp)with z|z
  .subst z;exact⟨he,hH,hne,hf,hc⟩
  .exact I.pin p z
def zD(ok:X.Ok)(I:Inv (uh X e oe) kt σ H s):Inv X kt σ H s:=
 ⟨ok,I.os,I.bare,I.base,I.loc,I.cell,I.free,I.freeC,λp hp=>I.pin p (N8 _ hp),I.hok,I.len⟩
def Inv.forget{tk:Nat}{m:W0}(I:Inv X kt σ H s)(hcl:∀x c,X.env.cells.lookup x≠ZA c)(hn:h'.Ns X.env.locals m)(hs:RP X.env.locals s.heap h'):Inv X kt (OK X.N.length ZB) H {s with heap:=h',toks:=tk}:=by
 have out:∀b o,X.s₀.heap.get? b=ZA o->b≠X.env.locals:=λb o q z=>by have h1:=Os q;have h2:=I.ok.above;rw[z]at h1;exact absurd (Oo h1 h2) (OU _)
 have kp:∀b o,b≠X.env.locals->s.heap.get? b=ZA o->h'.get? b=ZA o:=λb o n q=>hs.extBut b o n q;refine⟨I.ok,I.os,I.bare,⟨λb o q n hb hx=>kp b o (out b o q) (I.base.keep b o q n hb hx),λb o q n hb hx=>?_,I.base.free,λb o q hx=>?_,I.base.tups,I.base.frzs,I.base.tbls⟩,⟨m,hn,λi x v a1 a2 a3=>?_⟩,λx c z=>absurd z (hcl x c),I.free,I.freeC,λp hp=>?_,λa o q=>?_,by simp⟩
 .obtain⟨sl,q1⟩:=I.base.slot b o q n hb hx;exact⟨sl,kp b _ (out b o q) q1⟩
 .obtain⟨o',q1⟩:=I.base.there b o q hx;exact⟨o',kp b o' (out b o q) q1⟩
 .rw[Pk]at a2;split at a2 <;> cases a2
 .obtain⟨b1,b2,b3,b4,b5⟩:=I.pin p hp;exact⟨kp p.1 p.2 b3 b1,b2,b3,b4,b5⟩
 .have nl:∀b u,H b=ZA u->b≠X.env.locals:=λb u q z=>by rw[z,I.free]at q;cases q
  refine(I.hok a o q).Nk (λb u hb z=>kp b u ?_ z) (λ_ z=>z) λ_ _ z=>z;rcases hb with rfl|hb
  .exact nl _ _ q
  .exact nl _ _ hb
def Inv.NK(kt:W2)(I:Inv X kt σ H s):Inv {X with pn:=X.pn++kt} [] σ H s:=
 ⟨⟨I.ok.mod,I.ok.kind,I.ok.glob,I.ok.blt,I.ok.above,I.ok.inj,I.ok.has,I.ok.cab,I.ok.hd,I.ok.frames,I.ok.stk,I.ok.exf,I.ok.bs,I.ok.bsz,I.ok.noex,I.ok.exfs,I.ok.funs,I.ok.frf⟩,I.os,I.bare,I.base,I.loc,I.cell,I.free,I.freeC,λp hp=>I.pin p (by rw[OS]at hp;exact hp),I.hok,I.len⟩
def Inv.NJ{pins1:W2}{xe:W1}(I:Inv {X with pn:=X.pn++kt,xe:=xe} pins1 σ H s):Inv X kt σ H s:=
 ⟨⟨I.ok.mod,I.ok.kind,I.ok.glob,I.ok.blt,I.ok.above,I.ok.inj,I.ok.has,I.ok.cab,I.ok.hd,I.ok.frames,I.ok.stk,I.ok.exf,I.ok.bs,I.ok.bsz,I.ok.noex,I.ok.exfs,I.ok.funs,I.ok.frf⟩,I.os,I.bare,I.base,I.loc,I.cell,I.free,I.freeC,λp hp=>I.pin p (OL _ hp),I.hok,I.len⟩
def Ku:O6 "ValueError" =ZA (.type "ValueError"):=by decide+kernel
def LP{ob:N9}{oe:Option ZE}{es:Array DictEntry}{oz:Array (Option N9)}(r:K.lookup N=ZA ⟨ob,oe,.dict es n,oz⟩)(s:(es.toList.all λe=>BA e.key)=ZC)
  (u0:RM K N "__init__" =ZA ZB) (u1:RM K N "__getattribute__" =ZA ZB) (u2:RM K N "__getattr__" =ZA ZB) (u3:RM K N "__class__" =ZA ZB):
  ∀h:ZH,K.In h->∃mN,h.Ns N mN/\∀n∈calmNames,mN n=ZB:=λh k=>by
 refine⟨nsFind es,⟨_,es,n,k _ _ r,rfl,λe he=>?_,λ_=>rfl⟩,λx hx=>?_⟩
 .have:=OQ.mp s e (by simpa using he);cases q:e.key <;> rw[q]at this <;> first|exact⟨_,_,rfl⟩|cases this
 .have key:∀x,RM K N x=ZA ZB->nsFind es x=ZB:=λx u=>by
   unfold RM at u;rw[r]at u;simp only at u;split at u
   .cases u
   .rename_i he;unfold nsFind findBy;rw[<-U0,he];rfl
  unfold calmNames at hx;simp only[Oj,PF,or_false]at hx;rcases hx with rfl|rfl|rfl|rfl
  .exact key _ u0
  .exact key _ u1
  .exact key _ u2
  .exact key _ u3
section
variable {bs:List N9}{sub:List N9}
variable {nm' q':Str}{N':ZE}{k0' k1' k2' k3' k5':Option N9}
def FK(w:K.lookup C=ZA (PL nm q C N bs bmV hdct sn sub ab col dd k0 k1 k2 k3 k5 "ValueError.__new__"))(ns:∀h:ZH,K.In h->∃mN,h.Ns N mN/\∀n∈calmNames,mN n=ZB):OX K C bmV:=⟨λh k=>by obtain⟨mN,h1,h2⟩:=ns h k;exact⟨nm,q,N,bs,hdct,sn,sub,ab,col,dd,k0,k1,k2,k3,k5,mN,k _ _ w,h1,h2,.base⟩⟩
def B9(w:K.lookup C=ZA (PL nm q C N bs (.ref D::bmV) hdct sn sub ab col dd k0 k1 k2 k3 k5 "ValueError.__new__"))(ns:∀h:ZH,K.In h->∃mN,h.Ns N mN/\∀n∈calmNames,mN n=ZB)
  (wD:K.lookup D=ZA (PL nm' q' D N' bs' bmV hdct' sn' sub' ab' col' dd' k0' k1' k2' k3' k5' "ValueError.__new__")) (nsD:∀h:ZH,K.In h->∃mN,h.Ns N' mN/\∀n∈calmNames,mN n=ZB):OX K C (.ref D::bmV):=⟨λh k=>by
 obtain⟨mN,h1,h2⟩:=ns h k;obtain⟨mD,d1,d2⟩:=nsD h k;exact⟨nm,q,N,bs,hdct,sn,sub,ab,col,dd,k0,k1,k2,k3,k5,mN,k _ _ w,h1,h2,.own (k _ _ wD) d1 d2 .base⟩⟩
end
end Tr
variable{Q:W1}
namespace L2
open PySem PySem.Spec PyProof.Rows
variable{y:V}
section
variable {κ:Type}[DecidableEq κ]
noncomputable def j9(kvs:List (κ×V))(k:κ):Option V:=(kvs.find? λkv=>decide (kv.1=k)).map (·.2)
noncomputable def dZ(kvs:List (κ×V))(k:κ)(v:V):List (κ×V):=
 if (kvs.any λkv=>decide (kv.1=k))=ZC then kvs.map (λkv=>if kv.1=k then(kv.1,v)else kv)else kvs++[(k,v)]
def Br{k:κ}:j9 ([]:List (κ×V)) k=ZB:=rfl
def kY{p:κ×V}{r:List (κ×V)}{k:κ}(e:p.1=k):j9 (p::r) k=ZA p.2:=by simp[j9,Q5,e]
def kZ{p:κ×V}{r:List (κ×V)}{k:κ}(e:¬ p.1=k):j9 (p::r) k=j9 r k:=by simp[j9,Q5,e]
theorem uJ(k:κ):∀kvs:List (κ×V),(kvs.any λkv=>decide (kv.1=k))=(j9 kvs k).isSome
 |[] =>rfl
 |p::r=>by
  rw[Rb];by_cases e:p.1=k
  .simp only[kY e,decide_eq_true e,VR,U3]
  .rw[kZ e,decide_eq_false e,U4];exact uJ k r
def gx(kvs:List (κ×V))(k:κ)(v:V):(dZ kvs k v).length<=kvs.length+1:=by
 unfold dZ;split
 .rw[Oa];omega
 .rw[Oh,Og,Qr];omega
def RelO.Ni{o:Option V}{u:Option N9}(r:RelO o u):o.isSome=u.isSome:=by
 cases o with
 |none=>cases u with
  |none=>rfl
  |some _=>exact(show False from r).elim
 |some _=>cases u with
  |none=>exact(show False from r).elim
  |some _=>rfl
def RelO.getD{o:Option V}{u:Option N9}{d:V}{d':N9}(r:RelO o u)(rd:RelV d d'):RelV (o.getD d) (u.getD d'):=by
 cases o with
 |none=>cases u with
  |none=>exact rd
  |some _=>exact(show False from r).elim
 |some _=>cases u with
  |none=>exact(show False from r).elim
  |some _=>exact r
def KV.val{kvs:List (κ×V)}{vs:List (κ×N9)}(r:KV kvs vs)(k:κ):RelO (j9 kvs k) (valueAt vs k):=by
 unfold KV at r;induction r with
 |nil=>exact Q2
 |@cons p q ps qs h t ih=>
  obtain⟨h1,h2⟩:=h;by_cases e:p.1=k
  .have e':q.1=k:=h1.symm.trans e;have b:valueAt (q::qs) k=ZA q.2:=by simp[valueAt,Q5,e']
   rw[kY e,b];exact h2
  .have e':¬ q.1=k:=λz=>e (h1.trans z);have b:valueAt (q::qs) k=valueAt qs k:=by simp[valueAt,Q5,e']
   rw[kZ e,b];exact ih
def KV.any{kvs:List (κ×V)}{vs:List (κ×N9)}(r:KV kvs vs)(k:κ):(kvs.any λkv=>decide (kv.1=k))=vs.any λkv=>decide (kv.1=k):=by
 unfold KV at r;induction r with
 |nil=>rfl
 |cons h t ih=>rw[Rb,Rb,ih,h.1]
def KV.NN{kvs:List (κ×V)}{vs:List (κ×N9)}(r:KV kvs vs)(k:κ){u:N9}(ry:RelV y u):
  KV (kvs.map λkv=>if kv.1=k then(kv.1,y)else kv) (vs.map λkv=>if kv.1=k then(kv.1,u)else kv):=by
 unfold KV at r ⊢;induction r with
 |nil=>exact .nil
 |@cons p q ps qs h t ih=>
  rw[Of,Of];refine .cons ?_ ih;obtain⟨h1,h2⟩:=h;by_cases e:p.1=k
  .rw[if_pos e,if_pos (h1.symm.trans e)];exact⟨h1,ry⟩
  .rw[if_neg e,if_neg (λz=>e (h1.trans z))];exact⟨h1,h2⟩
def KV.put{kvs:List (κ×V)}{vs:List (κ×N9)}(r:KV kvs vs)(k:κ){u:N9}(ry:RelV y u):KV (dZ kvs k y) (stored vs k u):=by
 unfold dZ stored;rw[r.any k];by_cases e:(vs.any λkv=>decide (kv.1=k))=ZC
 .rw[if_pos e,if_pos e];exact r.NN k ry
 .rw[if_neg e,if_neg e];exact Paired.snoc r ⟨rfl,ry⟩
def KV.length{kvs:List (κ×V)}{vs:List (κ×N9)}(r:KV kvs vs):kvs.length=vs.length:=TL r
end
def vO{k:Key}{u:N9}(r:RelV (kV k) u):(cO P w).is k u=ZC:=by
 cases k with
 |inl i=>obtain⟨t,e⟩:=(show ∃t,u=PV i t from r);subst e;exact vA P w i t
 |inr x=>obtain⟨t,e⟩:=(show ∃t,u=P8 x t from r);subst e;exact vz P w x t
theorem rB:∀{ks:List Key}{us:List N9},Vals (ks.map kV) us->ItemsAre (cO P w) ks us
 |[],_,r=>by rw[Sh]at r;cases r;exact .nil
 |k::ks,_,r=>by
  rw[Of]at r;cases r with
  |cons h t=>exact .cons (vO h) (rB t)
abbrev KT(H:Hp):List (List Key×V)->List (List Key×ZE×N9)->Prop:=WI λp q=>p.1=q.1/\H q.2.1=ZA (.tup (p.1.map kV))/\RelV p.2 q.2.2
variable{H:Hp}{kvs:List (List Key×V)}{xs:List (List Key×ZE×N9)}
def KT.val(r:KT H kvs xs)(k:List Key):RelO (j9 kvs k) ((atKey xs k).map (·.2)):=by
 induction r with
 |nil=>exact Q2
 |@cons p q ps qs h t ih=>
  obtain⟨h1,_,h2⟩:=h;by_cases e:p.1=k
  .have e':q.1=k:=h1.symm.trans e;have b:atKey (q::qs) k=ZA q.2:=by simp[atKey,Q5,e']
   rw[kY e,b];exact h2
  .have e':¬ q.1=k:=λz=>e (h1.trans z);have b:atKey (q::qs) k=atKey qs k:=by simp[atKey,Q5,e']
   rw[kZ e,b];exact ih
def KT.NN(r:KT H kvs xs)(k:List Key){u:N9}(ry:RelV y u):
  KT H (kvs.map λkv=>if kv.1=k then(kv.1,y)else kv) (xs.map (putAt k u)):=by
 induction r with
 |nil=>exact .nil
 |@cons p q ps qs h t ih=>
  rw[Of,Of];refine .cons ?_ ih;obtain⟨h1,h2,h3⟩:=h;unfold putAt;by_cases e:p.1=k
  .rw[if_pos e,if_pos (h1.symm.trans e)];exact⟨h1,h2,ry⟩
  .rw[if_neg e,if_neg (λz=>e (h1.trans z))];exact⟨h1,h2,h3⟩
variable{b:ZE}
def KT.put(r:KT H kvs xs)(k:List Key){u:N9}(hb:H b=ZA (.tup (k.map kV)))(ry:RelV y u):
  KT H (dZ kvs k y) (storedH xs k b u):=by
 have e:(kvs.any λkv=>decide (kv.1=k))=(atKey xs k).isSome:=by rw[uJ,(r.val k).Ni,Vt]
 unfold dZ storedH;rw[e];by_cases q:(atKey xs k).isSome=ZC
 .rw[if_pos q,if_pos q];exact r.NN k ry
 .rw[if_neg q,if_neg q];exact Paired.snoc r ⟨rfl,hb,ry⟩
variable{H':Hp}
def KT.keeps(r:KT H kvs xs)(ht:∀b ys,H b=ZA (.tup ys)->H' b=ZA (.tup ys)):KT H' kvs xs:=
 Paired.NM r λ_ _ z=>⟨z.1,ht _ _ z.2.1,z.2.2⟩
variable{a:ZE}
section
variable {h:ZH}
def u5{u:HO}(ok:HOk P w H h)(e:Rd H a u):ObjOk P w H h a u:=e.ok ok
def rN{kvs:List (Key×V)}(ok:HOk P w H h)(e:Rd H a (.dK kvs)):kvs.length<=ZI/\(a == RC)=ZD/\∃vs,KV kvs vs/\h.DictOf (cO P w) a vs:=
 show ObjOk P w H h a (.dK kvs)from u5 ok e
def ML{kvs:List (Key×V)}(ok:HOk P w H h)(e:H a=ZA (.dK kvs)):kvs.length<=ZI/\(a == RC)=ZD/\∃vs,KV kvs vs/\h.DictOf (cO P w) a vs:=rN ok (.inl e)
def key_of{ks:List Key}(ok:HOk P w H h)(e:H a=ZA (.tup (ks.map kV))):(TB (cO P w)).is h ks a:=by obtain⟨_,its,r,o,h1,h2,n,h3⟩:=(show ObjOk P w H h a (.tup (ks.map kV))from ok a _ e);exact⟨o,its.toArray,n,h1,h2,h3,by simpa using rB r⟩
def rL(ok:HOk P w H h)(e:Rd H a (.dT kvs)):kvs.length<=ZI/\(a == RC)=ZD ∧
  ∃xs,KT H kvs xs/\h.DictOfH (TB (cO P w)) a xs:=by
 obtain⟨z,y,xs,r,o,es,ep,h1,h2,h3,h4,h5⟩:=(show ObjOk P w H h a (.dT kvs)from u5 ok e);refine⟨z,y,xs,r,o,es,ep,h1,h2,h3,h4,λx hx=>?_,h5⟩;have all:∀{l:List (List Key×V)}{m:List (List Key×ZE×N9)},KT H l m->∀x∈m,(TB (cO P w)).is h x.1 x.2.1:=by
  intro l m q;induction q with
  |nil=>intro x hx;exact nomatch hx
  |@cons p q ps qs hq t ih=>
   intro x hx;rcases Oj.mp hx with e|hx
   .subst e;exact key_of ok (by rw[<-hq.1];exact hq.2.1)
   .exact ih x hx
 exact all r x hx
def DG(ok:HOk P w H h)(e:H a=ZA (.dT kvs)):kvs.length<=ZI/\(a == RC)=ZD ∧
  ∃xs,KT H kvs xs/\h.DictOfH (TB (cO P w)) a xs:=rL ok (.inl e)
end
def DGet(H:Hp)(a:ZE)(y:V)(r:Option V):Prop:=
 (∃kvs k,Rd H a (.dK kvs)/\y=kV k/\r=j9 kvs k)\/∃kvs k b,Rd H a (.dT kvs)/\y=.ref b/\H b=ZA (.tup (k.map kV))/\r=j9 kvs k
def DPut(H:Hp)(a:ZE)(y v:V)(H':Hp):Prop:=
 (∃kvs k,H a=ZA (.dK kvs)/\y=kV k/\kvs.length<ZI/\H'=upd H a (.dK (dZ kvs k v))) ∨
 ∃kvs k b,H a=ZA (.dT kvs)/\y=.ref b/\H b=ZA (.tup (k.map kV))/\kvs.length<ZI/\H'=upd H a (.dT (dZ kvs k v))
def DPut.t{k:List Key}{v:V}(e:H a=ZA (.dT kvs))(eb:H b=ZA (.tup (k.map kV)))(hl:kvs.length<ZI):
  DPut H a (.ref b) v (upd H a (.dT (dZ kvs k v))):=.inr ⟨kvs,k,b,e,rfl,eb,hl,rfl⟩
variable{X:Cx}{h':ZH}{kt:W2}{σ:St}
section
variable {v:V}{u r:N9}{o:Option V}
def Inv.big(I:Inv X kt σ H s):RC<s.heap.objs.size:=by have h:O5<s.heap.objs.size:=(I.mod.glob.keeps I.bk).lt;exact Ua (by decide) h
def AZ(hu:A.units+1<cLine)(I:Inv X kt σ H s)(g:DGet H a y (ZA v))(ry:RelV y u)(h:∀w' s',Inv X kt σ H s'->RelV v w'->Q w' s'):
  ZJ (ZK X.prog X.w) A (getItem (.ref a) u) Q E s:=by
 rcases g with⟨kvs,k,e,ey,l⟩|⟨kvs,k,b,e,ey,eb,l⟩
 .subst ey;obtain⟨z,hd,vs,rel,dd⟩:=rN I.hok e;obtain⟨w',hw,rw'⟩:=RelO.some_of (v:=v) (o:=valueAt vs k) (by rw[l];exact rel.val k);exact wpAny_getItem_of (vO ry) dd.mapOf hw (h w' _ (I.tok _) rw')
 .subst ey;cases (show u=OF b from ry);obtain⟨z,hd,xs,rel,dd⟩:=rL I.hok e;obtain⟨w',hw,rw'⟩:=RelO.some_of (v:=v) (o:=(atKey xs k).map (·.2)) (by rw[l];exact rel.val k);obtain⟨p,hp,hp2⟩:=Qy.mp hw;refine wpAny_getItem_heap (Rm hu) (key_of I.hok eb) dd hp ?_;rw[hp2];exact h w' _ (I.tok _) rw'
def d_in(hu:A.units+1<cLine)(I:Inv X kt σ H s)(g:DGet H a y o)(ry:RelV y u)(h:∀s',Inv X kt σ H s'->Q (.bool o.isSome) s'):
  ZJ (ZK X.prog X.w) A (Pe .In u (.ref a)) Q E s:=by
 rcases g with⟨kvs,k,e,ey,l⟩|⟨kvs,k,b,e,ey,eb,l⟩
 .subst ey;obtain⟨z,hd,vs,rel,dd⟩:=rN I.hok e;refine wpAny_in_of (vO ry) hd dd.mapOf ?_;rw[<-(rel.val k).Ni,<-l];exact h _ (I.tok _)
 .subst ey;cases (show u=OF b from ry);obtain⟨z,hd,xs,rel,dd⟩:=rL I.hok e;refine wpAny_in_heap (Rm hu) (key_of I.hok eb) hd dd ?_;have q:=(rel.val k).Ni;rw[Vt]at q;rw[<-q,<-l];exact h _ (I.tok _)
def ug{ob:HO}(I:Inv X kt σ H s)(mu:MR (H a))(hs:RP a s.heap h')(he:∃q,h'.get? a=ZA q)(new:ObjOk X.prog X.w (upd H a ob) h' a ob):
  Inv X kt σ (upd H a ob) {s with heap:=h',toks:=t'}:=
 I.write (x:=a) (e:=a) mu (.inl rfl) (λb q hb z=>(hs.2 b hb).trans z) he new
def Kl{kvs:List (Key×V)}{vs:List (Key×N9)}(z:kvs.length<=ZI)(hd:(a == RC)=ZD)(rel:KV kvs vs)(dd:h'.DictOf (cO P w) a vs):
  ObjOk P w H' h' a (.dK kvs):=⟨z,hd,vs,rel,dd⟩
def AY{Q:Unit->Ob->Prop}(hu:A.units+1<cLine)(I:Inv X kt σ H s)(g:DPut H a y v H')(ry:RelV y u)(rv:RelV v r)(h:∀s',Inv X kt σ H' s'->Q () s'):
  ZJ (ZK X.prog X.w) A (setItem (.ref a) u r) Q E s:=by
 rcases g with⟨kvs,k,e,ey,l,eH⟩|⟨kvs,k,b,e,ey,eb,l,eH⟩
 .subst ey eH;obtain⟨z,hd,vs,rel,dd⟩:=ML I.hok e;have hz:vs.length<=ZI:=by rw[<-rel.length];exact z
  have hl:(dZ kvs k v).length<=ZI:=by have:=gx kvs k v;omega
  refine wpAny_setItem_pairs (hsz:=hz) (vO ry) dd λh' dd' hs=>h _ ?_;have he:∃q,h'.get? a=ZA q:=let ⟨q,_,_,hq,_⟩:=dd';⟨q,hq⟩;exact ug I (by rw[e];exact Q2) hs he (Kl hl hd (rel.put k rv) dd')
 .subst ey eH;cases (show u=OF b from ry);obtain⟨z,hd,xs,rel,dd⟩:=DG I.hok e;have hz:xs.length<=ZI:=by rw[<-TL rel];exact z
  have hl:(dZ kvs k v).length<=ZI:=by have:=gx kvs k v;omega
  refine wpAny_setItem_heap (hsz:=hz) (Rm hu) (key_of I.hok eb) dd λh' dd' hs=>h _ ?_;obtain⟨q,es,ep,hq,h2,h3,h4,_,h5⟩:=dd';refine ug I (by rw[e];exact Q2) hs ⟨q,hq⟩ ⟨hl,hd,_,(rel.put k eb rv).keeps λc ys ec=>?_,q,es,ep,hq,h2,h3,h4,h5⟩;rw[aI (pz ec e (λz=>nomatch z))];exact ec
end
def GX(i:ZG):Prop:=∀ov iv,UV i ZD ov iv=operate [ov,iv] (getItem ov iv)
variable{pos:Pos}{value:ZG}
def EO{env:Env}{slice:ZG}{T id:String}
  (hl:Sa (.type T) "__getitem__" =pure (ZA (.builtin id))) (hs:GX slice)
  (h:ZJ (ZK prog w) A (eval value env) (λo s₁=>ZJ (ZK prog w) A (eval slice env) (λi s₂=>s₂.TypeIs o T/\ZJ (ZK prog w) A (getItem o i) Q E s₂) E s₁) E s):
  ZJ (ZK prog w) A (eval (.Subscript value slice pos) env) Q E s:=by
 refine Subscript_ (PX h (λo s₁ h₁=>PX h₁ (λi s₂ h₂=>?_) λ_ _ x=>x) λ_ _ x=>x);obtain⟨hT,h₂⟩:=h₂;unfold Vj;refine Od ?_;rw[getitemInPython_of_ne hT.not_modules];refine Od (wpAny_specialOf hT hl ?_);have fin:ZJ (ZK prog w) A (UV slice ZD o i) (λr s₃=>ZJ (ZK prog w) A (letTemporaryGo value o r >>= λ_=>pure r) Q E s₃) E s₂:=by rw[hs o i];exact wpAny_operating (PX h₂ (λr s₃ h₃=>Od (wpAny_letTemporaryGo (Ou h₃))) λ_ _ x=>x)
 first
  |exact Ou (Od fin)
  |exact Od (Ou (Od fin))
  |exact Od fin
def wa{o:Option V}(I:Inv X kt σ H s)(g:DGet H a y o):s.TypeIs (.ref a) "dict":=by
 rcases g with⟨kvs,k,e,_,_⟩|⟨kvs,k,b,e,_,_,_⟩
 .obtain⟨_,_,vs,_,dd⟩:=rN I.hok e;exact dd.typeIs
 .obtain⟨_,_,xs,_,dd⟩:=rL I.hok e;exact dd.typeIs
def K2(td ty:TE):TE:=λσ H Q=>td σ H λx H1=>ty σ H1 λy H2=>∃a v,x=.ref a/\DGet H2 a y (ZA v)/\Q v H2
def K7(td ty tv:TE):TS:=λD σ H=>tv σ H λv H1=>td σ H1 λx H2=>ty σ H2 λy H3=>∃a H4,x=.ref a/\DPut H3 a y v H4/\D.nx σ H4
section
variable {o i e:ZG}{pos' tpos:Pos}{td ty tv:TE}
def FI(hu:X.A.units+1<cLine)(ho:PE X o td)(hi:PE X i ty)(hs:GX i):PE X (.Subscript o i pos) (K2 td ty):=by intro kt s σ H Q I h;refine EO PySem.F.slot_dict_getitem.lookup hs (bR (ho kt s σ H _ I h) λu s1 ⟨x,H1,I1,rx,q1⟩=>bR (hi kt s1 σ H1 _ I1 q1) λiv s2 hh_=>?_);obtain⟨y,H2,I2,ry,a,v,ex,g,q2⟩:=hh_;subst ex;obtain rfl:u=OF a:=rx;exact⟨wa I2 g,AZ hu I2 g ry λw' s3 I3 rw'=>⟨v,H2,I3,rw',q2⟩⟩
def Fw(hu:X.A.units+1<cLine)(ho:PE X o td)(hi:PE X i ty)(hv:PE X value tv)(hs:Pb value (ZA (.Subscript o i pos')) pos.line X.env=pure ZD):
  PS X (.Assign [.Subscript o i pos'] value pos) (K7 td ty tv):=by
 intro kt s σ H D I h;refine wpAny_Assign_Subscript (bR (hv kt s σ H _ I h) λr s1 ⟨v,H1,I1,rv,q1⟩=>bR (ho kt s1 σ H1 _ I1 q1) λu s2 ⟨x,H2,I2,rx,q2⟩=>bR (hi kt s2 σ H2 _ I2 q2) λiv s3 ⟨y,H3,I3,ry,a,H4,ex,g,q3⟩=>?_) hs;subst ex;obtain rfl:u=OF a:=rx;exact AY hu I3 g ry rv λs4 I4=>⟨σ,H4,I4,q3⟩
end
def DH(h:ZH)(hb:RC<h.objs.size):ObjOk P w H (h.push {cls:=.type "dict",data:=.dict #[]}) h.objs.size (.dT []):=
 ⟨Pn _,beq_eq_false_iff_ne.mpr (Ra (Pj hb)),[],.nil,_,#[],0,OI _ rfl,⟨rfl,rfl,rfl⟩,rfl,rfl,Rf⟩
structure M1 (X:Cx)(o:ZG)(m:Str)(apos:Pos)(e:ZG)(cpos:Pos):Prop where
 base:OR o m X.env (eval o X.env)=eval o X.env
 few:((backTo cpos (Oq [e] X.env)).all (λx=>!x.1)&&(Se cpos (QV [] X.env)).all (λx=>x.1.isSome)
  &&decide (([e]:List ZG).length+([]:List Wx).length+(if ([]:List Wx).isEmpty then 0 else 1)<30))=ZC
 line:(apos.endLine == cpos.line)=ZC
 trees:backTo cpos (Oq [e] X.env)=[(ZD,eval e X.env)]
structure M2 (X:Cx)(o:ZG)(m:Str)(apos:Pos)(e f:ZG)(cpos:Pos):Prop where
 base:OR o m X.env (eval o X.env)=eval o X.env
 few:((backTo cpos (Oq [e,f] X.env)).all (λx=>!x.1)&&(Se cpos (QV [] X.env)).all (λx=>x.1.isSome)
  &&decide (([e,f]:List ZG).length+([]:List Wx).length+(if ([]:List Wx).isEmpty then 0 else 1)<30))=ZC
 line:(apos.endLine == cpos.line)=ZC
 trees:backTo cpos (Oq [e,f] X.env)=[(ZD,eval e X.env),(ZD,eval f X.env)]
def IsD(H:Hp)(a:ZE):Prop:=(∃kvs,Rd H a (.dK kvs))\/∃kvs,Rd H a (.dT kvs)
def JX(I:Inv X kt σ H s)(d:IsD H a):
  s.TypeIs (.ref a) "dict"/\(∀b,OF a=.ref b->∃ob,s.heap.get? b=ZA ob/\ob.dict=ZB)/\(a == RC)=ZD:=by
 rcases d with⟨kvs,e⟩|⟨kvs,e⟩
 .obtain⟨_,hd,vs,_,dd⟩:=rN I.hok e;refine⟨dd.typeIs,λb q=>?_,hd⟩;cases q;obtain⟨ob,_,_,h1,h2,_⟩:=dd;exact⟨ob,h1,h2.2.1⟩
 .obtain⟨_,hd,xs,_,dd⟩:=rL I.hok e;refine⟨dd.typeIs,λb q=>?_,hd⟩;cases q;obtain⟨ob,_,_,h1,h2,_⟩:=dd;exact⟨ob,h1,h2.2.1⟩
section
variable {d:V}{u r:N9}{o:Option V}
def Ko(hu:A.units+1<cLine)(I:Inv X kt σ H s)(g:DGet H a y o)(ry:RelV y u)(h:∀w' s',Inv X kt σ H s'->RelV (o.getD .non) w'->Q w' s'):
  ZJ (ZK X.prog X.w) A (call (.builtin "dict.get") [.ref a,u]) Q E s:=by
 rcases g with⟨kvs,k,e,ey,l⟩|⟨kvs,k,b,e,ey,eb,l⟩
 .subst ey;obtain⟨z,hd,vs,rel,dd⟩:=rN I.hok e;refine call_meetsIn Sf dd.typeIs T4 (TH _ _) (meets_dict_get (cO X.prog X.w) a (vO ry) hd) ⟨_,dd.mapOf,h _ _ (I.tok _) ?_⟩;rw[l];exact(rel.val k).getD rfl
 .subst ey;cases (show u=OF b from ry);obtain⟨z,hd,xs,rel,dd⟩:=rL I.hok e;refine call_meetsIn Sf dd.typeIs T4 (TH _ _) (meetsH_dict_get (TB (cO X.prog X.w)) a b hd) ⟨Rm hu,k,xs,key_of I.hok eb,dd,h _ _ (I.tok _) ?_⟩;rw[l];exact(rel.val k).getD rfl
end
def HY(td ty:TE):TE:=λσ H Q=>td σ H λx H1=>∃a,x=.ref a/\IsD H1 a/\ty σ H1 λy H2=>∃o,DGet H2 a y o/\Q (o.getD .non) H2
section
variable {o e f:ZG}{apos cpos:Pos}{td ty tx:TE}
def B7(hu:X.A.units+1<cLine)(ho:PE X o td)(he:PE X e ty)(m:M1 X o "get" apos e cpos):PE X (.Call (.Attribute o "get" apos) [e] [] cpos) (HY td ty):=by intro kt s σ H Q I h;refine wpAny_Call_method m.base m.few m.line PySem.F.plainAttrs_dict Sf PySem.F.type_dict_get (bR (ho kt s σ H _ I h) λu s1 hh_=>?_);obtain⟨x,H1,I1,rx,a,ex,d,q1⟩:=hh_;subst ex;obtain rfl:u=OF a:=rx;obtain⟨t1,t2,_⟩:=JX I1 d;refine⟨t1,t2,?_⟩;rw[m.trees];refine Qx rfl (QZ (Rk (bR (he kt s1 σ H1 _ I1 q1) λiv s2 ⟨y,H2,I2,ry,ov,g,q2⟩=>Rt ?_)));exact Ko hu I2 g ry λw' s3 I3 rw'=>⟨_,H2,I3,rw',q2⟩
end
end L2
namespace Tr
open PySem PySem.Spec PyProof.Rows L2
variable{H:Hp}{a:ZE}{k:List Key}{kvs:List (List Key×V)}
def DGet.NQ{b:ZE}(e:Rd H a (.dT kvs))(eb:H b=ZA (.tup (k.map kV))):DGet H a (.ref b) (j9 kvs k):=.inr ⟨kvs,k,b,e,rfl,eb,rfl⟩
def Hv{k:Nat}(h:Room k A):A.units+1<cLine:=by have:=h.un;omega
variable{O:Ow}
theorem pH:∀{l:List T}{vs:List V}{k:List Key},pI l=ZA k->Reps K O H l vs->vs=k.map kV
 |[],vs,k,h,r=>by cases Reps.Da.mp r;cases h;rfl
 |t::l,vs,k,h,r=>by
  obtain⟨v,ws,rfl,p,q⟩:=Reps.me.mp r;unfold pI at h;cases e1:Hn t with
  |none=>rw[e1]at h;cases h
  |some a=>
   cases e2:pI l with
   |none=>rw[e1,e2]at h;cases h
   |some b=>
    rw[e1,e2]at h;cases h;rw[pH e2 q,Of];congr 1;cases t with
    |int i=>cases e1;exact Rep.AC.mp p
    |str x=>cases e1;exact Rep.IR.mp p
    |_=>cases e1
variable{v:V}
def lF{y:T}(h:keyOf y=ZA k)(r:Rep K O H y v):∃b,v=.ref b/\H b=ZA (.tup (k.map kV)):=by
 cases y with
 |tup l=>
  obtain⟨a,vs,e1,_,e3,e4⟩:=Rep.Fk.mp r;rw[pH h e4]at e3;exact⟨a,e1,e3⟩
 |_=>cases h
theorem lO:∀{ks ts:List T}{kvs:List (List Key×V)},ks.map keyOf=kvs.map (λp=>ZA p.1)->Reps K O H ts (kvs.map (·.2))->match kP ks ts k with
  |some t=>∃v,j9 kvs k=ZA v/\Rep K O H t v
  |none=>j9 kvs k=ZB
 |[],ts,kvs,h,r=>by
  cases kvs with
  |nil=>unfold kP;exact Br
  |cons _ _=>cases h
 |k'::ks,ts,kvs,h,r=>by
  cases kvs with
  |nil=>cases h
  |cons p kvs=>
   rw[Of,Of]at h;injection h with h1 h2;rw[Of]at r;cases ts with
   |nil=>have:=Reps.Da.mp r;cases this
   |cons t ts=>
    obtain⟨v,ws,e,q1,q2⟩:=Reps.me.mp r;injection e with e1 e2;subst e1 e2;unfold kP;by_cases hk:keyOf k'=ZA k
    .rw[if_pos hk];rw[h1]at hk;injection hk with hk;exact⟨_,kY hk,q1⟩
    .rw[if_neg hk];have hk2:¬ p.1=k:=λz=>hk (by rw[h1,z]);rw[kZ hk2];exact lO h2 q2
def sT [DecidableEq κ]{k:κ}{p:κ×V}{r:List (κ×V)}(h:¬ p.1=k):dZ (p::r) k v=p::dZ r k v:=by
 unfold dZ;rw[Rb,decide_eq_false h,U4];by_cases q:(r.any λkv=>decide (kv.1=k))=ZC
 .rw[if_pos q,if_pos q,Of,if_neg h]
 .rw[if_neg q,if_neg q];rfl
def sU [DecidableEq κ]{k:κ}{p:κ×V}{r:List (κ×V)}(h:p.1=k)(hn:∀q∈r,q.1≠k):dZ (p::r) k v=(p.1,v)::r:=by
 unfold dZ;rw[Rb,decide_eq_true h,VR,if_pos rfl,Of,if_pos h];congr 1;conv=>rhs;rw[<-List.map_id r]
 exact PD λq hq=>if_neg (hn q hq)
theorem pQ{kT vT:T}(hk:keyOf kT=ZA k)(hv:Rep K O H vT v):∀{ks ts:List T}{kvs:List (List Key×V)},ks.map keyOf=kvs.map (λp=>ZA p.1)->Reps K O H ts (kvs.map (·.2))->(kvs.map (·.1)).Nodup ->
  (gb kT vT ks ts).1.map keyOf=(dZ kvs k v).map (λp=>ZA p.1)/\Reps K O H (gb kT vT ks ts).2 ((dZ kvs k v).map (·.2))
 |[],ts,kvs,h,r,_=>by
  cases kvs with
  |nil=>
   unfold gb;refine⟨?_,Reps.Gc hv Reps.GM⟩;simp[dZ,hk]
  |cons _ _=>cases h
 |k'::ks,ts,kvs,h,r,hn=>by
  cases kvs with
  |nil=>cases h
  |cons p kvs=>
   rw[Of,Of]at h;injection h with h1 h2;rw[Of]at r;rw[Of]at hn;obtain⟨n1,n2⟩:=O4.mp hn;cases ts with
   |nil=>have:=Reps.Da.mp r;cases this
   |cons t ts=>
    obtain⟨v',ws,e,q1,q2⟩:=Reps.me.mp r;injection e with e1 e2;subst e1 e2;unfold gb;by_cases hz:keyOf k'=keyOf kT
    .rw[if_pos hz];have hp:p.1=k:=by rw[hz,hk]at h1;injection h1 with h1;exact h1.symm
     rw[sU hp λq hq z=>n1 (by rw[hp,<-z];exact UO hq)];exact⟨by rw[Of,Of,h1,h2],Reps.Gc hv q2⟩
    .rw[if_neg hz];have hp:¬ p.1=k:=λz=>hz (by rw[h1,z,hk]);obtain⟨a1,a2⟩:=pQ hk hv h2 q2 n2;rw[sT hp];exact⟨by rw[Of,Of,h1,a1],Reps.Gc q1 a2⟩
def GY{xs:List (List Key×ZE×N9)}(rel:KT H kvs xs):kvs.map (·.1)=xs.map (·.1):=by
 induction rel with
 |nil=>rfl
 |cons h t ih=>rw[Of,Of,ih,h.1]
variable{X:Cx}
def DN{kt:W2}{σ:L2.St}(I:Inv X kt σ H s)(e:H a=ZA (.dT kvs)):(kvs.map (·.1)).Nodup/\kvs.length<=ZI:=by obtain⟨z,_,xs,rel,_,_,_,_,_,_,_,_,hn⟩:=DG I.hok e;rw[GY rel];exact⟨hn,z⟩
variable{a b:ZG}{fa fb:W5}{pos:Pos}
def Lx(hu:X.A.units+1<cLine)(ha:cm X a fa)(hb:cm X b fb)(hs:autoParam (GX b) x_):cm X (.Subscript a b pos) (o2 jB fa fb):=by
 refine PE.imp (FI hu ha hb hs) λσ H Q ⟨Z,O,E,hq⟩=>?_;obtain⟨Z1,O1,E1,h1⟩:=aY E hq;refine⟨Z1,O1,E1,Post.mono h1 λt H1 s1 q v r=>?_⟩;obtain⟨t',r',s',E',q'⟩:=q v r;obtain⟨Z2,O2,E2,h2⟩:=aY (f:=fb) E' q';refine⟨Z2,O2,E2,Post.mono h2 λt2 H2 s2 q2 v2 r2=>?_⟩;obtain⟨t2',r2',s2',E2',q2'⟩:=q2 v2 r2;have r'':=r'.same s2';unfold jB at q2';split at q2'
 .rename_i ks vs k hk;split at q2'
  .rename_i x hx;obtain⟨a,kvs,e1,e2,e3,e4,e5⟩:=Rep.GE.mp r'';obtain⟨b,f1,f2⟩:=lF hk r2';have g:=lO (k:=k) e4 e5;rw[hx]at g;obtain⟨w,g1,g2⟩:=g;exact⟨a,w,e1,by rw[f1,<-g1];exact DGet.NQ e3 f2,q2' H2 (Same.refl H2) w g2⟩
  .exact q2'.elim
 .exact q2'.elim
open PySem.SeqAt
variable{x:T}
def vB(rx:ReV s x ux)(hu:A.units+60<cLine){l:List T}(hd:x.dep<=60\/deps l<=60)(r:ReVs s l us):
  ∃e:N9->Bool,(∀y∈us,EqAt A s y ux (e y))/\us.map e=l.map λt=>aW t x:=by
 classical
 have ex:∀y∈us,∃t∈l,ReV s t y:=λy hy=>by
  obtain⟨i,hi,rfl⟩:=Qs hy;have hl:=r.length;have e1:l[i]?=ZA l[i]:=by simp
  obtain⟨u,q1,q2⟩:=r.get e1;have:us[i]?=ZA us[i]:=by simp
  rw[this]at q1;cases q1;exact⟨l[i],Pp _,q2⟩
 let e:N9->Bool:=λy=>decide (∃t∈l,ReV s t y/\aW t x=ZC)
 have dep:∀t∈l,t.dep<=60\/x.dep<=60:=λt ht=>by
  rcases hd with h|h
  .exact .inr h
  .obtain⟨i,hi,rfl⟩:=Qs ht;exact .inl (OV (jC (i:=i) (by simp)) h)
 have uniq:∀y t t',ReV s t y->ReV s t' y->aW t x=aW t' x:=λy t t' z z'=>by rw[<-lQ t,<-lQ t',ReV.nf z z']
 have agree:∀y t,t∈l->ReV s t y->e y=aW t x:=λy t h z=>by
  show decide (∃t∈l,ReV s t y/\aW t x=ZC)=aW t x;cases q:aW t x with
  |true=>exact decide_eq_true ⟨t,h,z,q⟩
  |false=>
   refine decide_eq_false ?_;rintro ⟨t',h',z',q'⟩;rw[<-uniq y t t' z z',q]at q';cases q'
 refine⟨e,λy hy=>?_,?_⟩
 .obtain⟨t,h,z⟩:=ex y hy;rw[agree y t h z];exact(Gq 60 A s t x y ux (dep t h) hu z rx).1
 .have go:∀(l':List T)(us':List N9),(∀t∈l',t∈l)->ReVs s l' us'->us'.map e=l'.map λy=>aW y x:=by
   intro l';induction l' with
   |nil=>intro us' _ r';rw[ReVs.Da.mp r'];rfl
   |cons t l' ih=>
    intro us' sub r';obtain⟨u,ws,rfl,p,q⟩:=ReVs.me.mp r';rw[Of,Of,ih ws (λt ht=>sub t (N8 _ ht)) q,agree u t (sub t Oe) p]
  exact go l us (λ_ h=>h) r
theorem pP:∀{l:List T}{n k:Nat},j5 x l n=ZA k->n<=k/\(l.map λt=>aW t x)[k - n]?=ZA ZC/\∀m,m<k - n->(l.map λt=>aW t x)[m]?=ZA ZD
 |[],n,k,h=>by cases h
 |t::l,n,k,h=>by
  unfold j5 at h;cases q:aW t x with
  |true=>
   rw[q,if_pos rfl]at h;cases h;refine⟨On _,?_,λm hm=>by omega⟩;rw[Sn,Of,q];rfl
  |false=>
   rw[q,if_neg (by decide)]at h;obtain⟨h1,h2,h3⟩:=pP h;have e:k - n=(k - (n+1))+1:=by omega
   refine⟨by omega,?_,λm hm=>?_⟩
   .rw[e,Of,PK];exact h2
   .cases m with
    |zero=>rw[Of,q];rfl
    |succ m=>rw[Of,PK];exact h3 m (by omega)
section
variable {apos cpos:Pos}
def BP(hu:X.A.units+61<cLine)(ha:cm X a fa)(hb:cm X b fb)(hn:autoParam (a9 b=ZC) u_)
  (hbase:autoParam (OR a "index" X.env (eval a X.env)=eval a X.env) u_) (hline:autoParam ((apos.endLine == cpos.line)=ZC) u_):cm X (.Call (.Attribute a "index" apos) [b] [] cpos) (oL gw fa fb):=by
 have hs:Oq [b] X.env=(ZD,eval b X.env)::Oq [] X.env:=aS hn;intro kt s σ H Q I ⟨Z,O,E,hq⟩;refine R8 hbase (by rw[hs];rfl) hline rfl (bR (ha kt s σ H _ I (aY E hq)) λv s1 hh_=>?_);obtain⟨x,H1,I1,r1,t,rt,s',E',q1⟩:=hh_;cases t with
 |lst l=>
  obtain⟨c,vs,e1,e2,e3,e4⟩:=Rep.Do.mp rt;subst e1;obtain rfl:v=OF c:=r1;obtain⟨h1,h2⟩:=sr I1 (show RelV (.ref c) (.ref c)from rfl) (.inl ⟨rfl,vs,SqL.of e3⟩);refine⟨_,_,PH,PySem.F.slot_list_index,PySem.F.type_list_index,h1,h2,?_⟩;rw[hs];refine Qx rfl (QZ (Rk (bR (hb kt s1 σ H1 _ I1 (aY (f:=fb) E' q1)) λu s2 ⟨y,H2,I2,r2,t2,rt2,s'',E'',q2⟩=>Rt ?_)));unfold gw at q2;split at q2
  .rename_i l' heq;cases heq;split at q2
   .rename_i hd3;obtain⟨hd,hnx,hny⟩:=hd3;split at q2
    .rename_i k hk;have rv:=Rep.val I2 (show(T.lst l).nd=ZC by unfold T.nd;exact hny) (rt.same s'') (show RelV (.ref c) (.ref c)from rfl);unfold ReV at rv;obtain⟨c',us,ec,hl,rs⟩:=rv;cases ec;obtain⟨⟨cls,dd,data,sl⟩,ho,hc,n,hdd⟩:=id hl;simp only at hc hdd;subst hc hdd;obtain⟨e,he,ha⟩:=vB (A:=X.A.in1) (Rep.val I2 hnx rt2 r2) (by show X.A.units+1+60<cLine;omega) hd rs;obtain⟨_,k1,k2⟩:=pP hk;rw[RT]at k1 k2;rw[<-ha]at k1 k2;have hkl:k<us.length:=by have:=(Ol.mp k1).1;rwa [Oa]at this
     have hz:us.length<=ZI:=by have z:=(I2.Nj (s'' _ _ e3)).1;have h3:=rs.length;have h4:=e4.length;omega
     refine RW F.slot_list_index ⟨_,ho,rfl⟩ F.entry_list_index (F.args_list_index_2 _ _) (list_indexAt c us.toArray n dd sl u e k (by simpa using hkl) (by rw[Qk]at hz;omega) ?_ ?_) ⟨ho,λy hy=>he y (by simpa using hy),?_⟩
     .have:=(Ol.mp k1).2;rw[Sy]at this;simpa using this
     .intro m hm hmk;have:=(Ol.mp (k2 m hmk)).2;rw[Sy]at this;simpa using this
     .exact⟨.int _,H2,I2.tok _,⟨_,rfl⟩,q2 H2 (Same.refl H2) _ (Rep.GT _)⟩
    .exact q2.elim
   .exact q2.elim
  .rename_i hno;exact(hno l rfl).elim
 |_=>exact q1.elim
def BQ(hu:X.A.units+61<cLine)(ha:cm X a fa)(hb:cm X b fb)(hn:autoParam (a9 b=ZC) u_)
  (hbase:autoParam (OR a "count" X.env (eval a X.env)=eval a X.env) u_) (hline:autoParam ((apos.endLine == cpos.line)=ZC) u_):cm X (.Call (.Attribute a "count" apos) [b] [] cpos) (oL nV fa fb):=by
 have hs:Oq [b] X.env=(ZD,eval b X.env)::Oq [] X.env:=aS hn;intro kt s σ H Q I ⟨Z,O,E,hq⟩;refine R8 hbase (by rw[hs];rfl) hline rfl (bR (ha kt s σ H _ I (aY E hq)) λv s1 hh_=>?_);obtain⟨x,H1,I1,r1,t,rt,s',E',q1⟩:=hh_;cases t with
 |lst l=>
  obtain⟨c,vs,e1,e2,e3,e4⟩:=Rep.Do.mp rt;subst e1;obtain rfl:v=OF c:=r1;obtain⟨h1,h2⟩:=sr I1 (show RelV (.ref c) (.ref c)from rfl) (.inl ⟨rfl,vs,SqL.of e3⟩);refine⟨_,_,PH,PySem.F.slot_list_count,PySem.F.type_list_count,h1,h2,?_⟩;rw[hs];refine Qx rfl (QZ (Rk (bR (hb kt s1 σ H1 _ I1 (aY (f:=fb) E' q1)) λu s2 ⟨y,H2,I2,r2,t2,rt2,s'',E'',q2⟩=>Rt ?_)));unfold nV at q2;split at q2
  .rename_i l' heq;cases heq;split at q2
   .rename_i hd3;obtain⟨hd,hnx,hny⟩:=hd3;have rv:=Rep.val I2 (show(T.lst l).nd=ZC by unfold T.nd;exact hny) (rt.same s'') (show RelV (.ref c) (.ref c)from rfl);unfold ReV at rv;obtain⟨c',us,ec,hl,rs⟩:=rv;cases ec;obtain⟨⟨cls,dd,data,sl⟩,ho,hc,n,hdd⟩:=id hl;simp only at hc hdd;subst hc hdd;obtain⟨e,he,ha⟩:=vB (A:=X.A.in1) (Rep.val I2 hnx rt2 r2) (by show X.A.units+1+60<cLine;omega) hd rs;have hc:us.toArray.toList.countP e=l.countP λt=>aW t t2:=by
     have h1:(us.map e).countP id=us.countP e:=by rw[Ue];rfl
     have h2:(l.map λt=>aW t t2).countP id=l.countP λt=>aW t t2:=by rw[Ue];rfl
     rw[<-h2,<-ha,h1]
    refine RW F.slot_list_count ⟨_,ho,rfl⟩ F.entry_list_count (F.args_list_count_2 _ _) (list_countAt c us.toArray n dd sl u e) ⟨ho,λy hy=>he y (by simpa using hy),?_⟩;rw[hc];exact⟨.int _,H2,I2.tok _,⟨_,rfl⟩,q2 H2 (Same.refl H2) _ (Rep.GT _)⟩
   .exact q2.elim
  .rename_i hno;exact(hno l rfl).elim
 |_=>exact q1.elim
def IK(hu:X.A.units+1<cLine)(ha:cm X a fa)(hb:cm X b fb)(hn:autoParam (a9 b=ZC) u_)
  (hbase:autoParam (OR a "get" X.env (eval a X.env)=eval a X.env) u_) (hline:autoParam ((apos.endLine == cpos.line)=ZC) u_):cm X (.Call (.Attribute a "get" apos) [b] [] cpos) (oD i6 fa fb):=by
 have hs:Oq [b] X.env=(ZD,eval b X.env)::Oq [] X.env:=aS hn;refine PE.imp (B7 hu ha hb ⟨hbase,by rw[hs];rfl,hline,by rw[hs];rfl⟩) λσ H Q ⟨Z,O,E,hq⟩=>?_;obtain⟨Z1,O1,E1,h1⟩:=aY E hq;refine⟨Z1,O1,E1,Post.mono h1 λt H1 s1 q v r=>?_⟩;obtain⟨t',r',s',E',q'⟩:=q v r;cases t' with
 |dct ks vs=>
  obtain⟨c,kvs,e1,e2,e3,e4,e5⟩:=Rep.GE.mp r';refine⟨c,e1,.inr ⟨kvs,e3⟩,?_⟩;obtain⟨Z2,O2,E2,h2⟩:=aY (f:=fb) E' q';refine⟨Z2,O2,E2,Post.mono h2 λt2 H2 s2 q2 v2 r2=>?_⟩;obtain⟨t2',r2',s2',E2',q2'⟩:=q2 v2 r2;unfold i6 at q2';split at q2'
  .rename_i ks' vs' k heq hk;cases heq;obtain⟨b,f1,f2⟩:=lF hk r2';have g:=lO (k:=k) e4 (e5.same s2');refine⟨j9 kvs k,by rw[f1];exact DGet.NQ (Rd.NL (P:=ko) (SameO.of s2') (λz=>z) e3) f2,?_⟩;cases hx:kP ks vs k with
   |some z=>
    rw[hx]at g q2';obtain⟨w,g1,g2⟩:=g;rw[g1];exact q2' H2 (Same.refl H2) w g2
   |none=>
    rw[hx]at g q2';rw[g];exact q2' H2 (Same.refl H2) .non Rep.NC
  .exact q2'.elim
 |_=>exact q'.elim
def Ji(hu:X.A.units+1<cLine):OpT X (Pe .In) DK:=by
 intro kt s σ H O x y vx vy ux uy Q I hf rx ry r1 r2 hp;unfold DK at hp;split at hp
 .rename_i ks vs k hk;obtain⟨c,kvs,e1,e2,e3,e4,e5⟩:=Rep.GE.mp ry;obtain⟨b,f1,f2⟩:=lF hk rx;subst e1 f1;obtain rfl:uy=OF c:=r2;have g:=lO (k:=k) e4 e5;have hsome:(kP ks vs k).isSome=(j9 kvs k).isSome:=by
   cases hx:kP ks vs k with
   |some z=>rw[hx]at g;obtain⟨w,g1,_⟩:=g;rw[g1];rfl
   |none=>rw[hx]at g;rw[g];rfl
  refine d_in hu I (DGet.NQ e3 f2) r1 λs' I'=>⟨.bl _,H,I',rfl,?_⟩;rw[<-hsome];exact hp H (Same.refl H) _ (Rep.bl_ _)
 .exact hp.elim
end
section
variable {c:ZG}{fc:W5}{p2 p3 p4:Pos}{x:Str}
def Iq(i:Nat)(hu:X.A.units+1<cLine)(hb:cm X b fb)(hc:cm X c fc)(hN:autoParam (X.N[i]?=ZA x) u_)(hv:autoParam (kA X.env.scope x) v_)
  (hd:autoParam ((x == ("__debug__" : Str))=ZD) s_) (hcd:autoParam ((x == ("__classdict__" : Str))=ZD) s_)
  (hs:autoParam (Pb c (ZA (.Subscript (.Name x p2) b p3)) pos.line X.env=pure ZD) u_):oj X (.Assign [.Subscript (.Name x p2) b p3] c pos) (Ak i fb fc):=by
 intro kt s σ H D I ⟨Z,B,M,E,h⟩;refine Fw hu (dB hN hv hd hcd) hb hc hs kt s σ H D I ?_;unfold Ak at h;split at h
 .rename_i ks vs hl;obtain⟨v0,e1,d,kvs,rfl,hM,e3,e4,e5⟩:=E.env.own i _ hl;obtain⟨nd,nz⟩:=DN I e3;refine⟨Z,OO B M,E.o,?_⟩;cases q:fc Z with
  |bad=>rw[q]at h;exact h.elim
  |err c=>rw[q]at h;exact PostF.xa h
  |ok vT=>
   rw[q,ax]at h;intro H1 s1 v r;refine⟨.ref d,e1,Z,OO B M,(E.same s1).o,?_⟩;have h1:=h.later (SameO.of s1) (P1:=M.u) λa z=>.inl z;cases q2:fb Z with
   |bad=>rw[q2]at h1;exact h1.elim
   |err c=>rw[q2]at h1;exact PostF.xa h1
   |ok kT=>
    rw[q2,ax]at h1;intro H2 s2 y ry;cases q3:keyOf kT with
    |none=>rw[q3]at h1;exact h1.elim
    |some k=>
     rw[q3]at h1;have h2:=h1.later (SameO.of s2) (P1:=M.u) λa z=>.inl z;have hlen:ks.length=kvs.length:=by have:=congrArg QQ e4;simpa using this
     by_cases hz:ks.length<1000
     .simp only[if_pos hz]at h2;obtain⟨kb,f1,f2⟩:=lF q3 ry;have e3':=s2 _ _ (s1 _ _ e3);obtain⟨g1,g2⟩:=pQ q3 (r.same s2) e4 ((e5.same s1).same s2) nd;refine⟨d,upd H2 d (.dT (dZ kvs k v)),rfl,by rw[f1];exact DPut.t e3' f2 (by rw[Qk];omega),?_⟩;have sm:SameO (M i) H2 (upd H2 d (.dT (dZ kvs k v))):=λc u e nb=>by rw[aI (λz=>nb ((hM c).mpr z))];exact e
      obtain⟨g3,g4⟩:=((E.same s1).same s2).put (o':=.dct (gb kT vT ks vs).1 (gb kT vT ks vs).2) hl e1 sm ⟨d,_,rfl,hM,aM,g1,g2.move (P:=M i) (λa z=>.inl (.inr ⟨i,z⟩)) (λa z=>.inl z) sm⟩;exact h2 σ _ M g4 g3 λc z=>.inl z
     .simp only[if_neg hz]at h2;exact h2.elim
 .exact h.elim
end
end Tr
namespace PySem
open Sem (wp)
namespace F
def lk_list_keys:Sa (.type "list") "keys" =pure ZB:=by rw[R5,QJ];kernel_rfl
def lk_list_getattr:Sa (.type "list") "__getattr__" =pure ZB:=by rw[R5,QJ];kernel_rfl
end F
section
variable {h:ZH}{g:Array U9}{t:Nat}{a:ZE}{its:Array N9}
def nC{tk:Tok}{Q:Fin->Ob->Prop}(hx:h.get? a=ZA {cls:=.type "list",data:=.seq its n})(hh:A.handled=ZB)
  (hq:∀h' tk' e,Ws h h' e (.ref a) "keys"->E (.ref e) ⟨h',g,d,tk',os⟩):
  ZJ (ZK prog w) A (Builtin.«object.__getattribute__» ⟨[.ref a,.str "keys" tk],[]⟩) Q E ⟨h,g,d,t,os⟩:=by
 have hT:(⟨h,g,d,t,os⟩:Ob).TypeIs (.ref a) "list":=⟨_,hx,rfl⟩;have f4:=F.lk_list_keys;repeat (any_goals (first|assumption|wp_step))
 exact wpAny_raiseAttrError hh (λh' tk e hx=>hq h' tk e hx) (attrMsg_fits (by decide+kernel) (by rw[Qk];decide))
def pF{tk:Tok}(hx:h.get? a=ZA {cls:=.type "list",data:=.seq its n})(hh:A.handled=ZB)
  (hq:∀h' tk' e,Ws h h' e (.ref a) "keys"->R (.error (.ref e)) ⟨h',g,d,tk',os⟩):
  ZL (ZK prog w) A (.call (.builtin "list.__getattribute__") ⟨[.ref a,.str "keys" tk],[]⟩) R ⟨h,g,d,t,os⟩:=
 SI Q6.plain F.entry_list_ga (Q6.check _ _ _ _ _ _ _ _ (show(⟨h,g,d,t,os⟩:Ob).TypeIs (.ref a) "list" from⟨_,hx,rfl⟩) (F.args_list_getattribute_2 _ _) (nC hx hh hq))
def pG{Q:Option N9->Ob->Prop}(hx:h.get? a=ZA {cls:=.type "list",data:=.seq its n})(hh:A.handled=ZB)
  (hq:∀h' tk',(∀b o,h.get? b=ZA o->h'.get? b=ZA o)->Q ZB ⟨h',g,d,tk',os⟩):ZJ (ZK prog w) A (getAttr? (.ref a) "keys") Q E ⟨h,g,d,t,os⟩:=by
 have hT:∀tk,(⟨h,g,d,tk,os⟩:Ob).TypeIs (.ref a) "list":=λ_=>⟨_,hx,rfl⟩;have f1:=sub_AttributeError;have f2:=Q6.lookup;have f3:=Q6.bind (.ref a);have f5:=F.lk_list_getattr;unfold getAttr? getAttrBy? getAttrBy;repeat (any_goals (first|assumption|exact hT _|wp_step))
 refine pF hx hh λh' tk' e hx'=>?_;obtain⟨t',u',he⟩:=hx'.there;repeat (any_goals (first|assumption|exact hT _|wp_step))
 exact hq _ _ hx'.keeps
end
end PySem
namespace PySem.F
def entry_dict_update_loop:entryFor table "dict.update.loop" =ZA Builtin.«dict.update.loop»:=entryFor_of_tree (by kernel_rfl)
def plain_dict_update_loop:plainId "dict.update.loop" =ZC:=by decide+kernel
end PySem.F
variable{Q:Option Nat->S2->Prop}
namespace Tr
open PySem PySem.Spec PyProof.Rows L2
noncomputable def ji(kvs:List (List Key×V)):List (List Key×V)->List (List Key×V)
 |[] =>kvs
 |p::ps=>ji (dZ kvs p.1 p.2) ps
def PairsAt(H:Hp):List V->List (List Key×V)->Prop
 |[],ps=>ps=[]
 |x::xs,ps=>∃b kb p r,ps=p::r/\x=.ref b/\H b=ZA (.tup [.ref kb,p.2])/\H kb=ZA (.tup (p.1.map kV))/\PairsAt H xs r
variable{H:Hp}{d:ZE}{kvs:List (List Key×V)}
theorem PairsAt.upd{o:HO}(hd:H d=ZA (.dT kvs)):∀{xs:List V}{ps:List (List Key×V)},PairsAt H xs ps->PairsAt (L2.upd H d o) xs ps
 |[],_,h=>h
 |x::xs,_,⟨b,kb,p,r,e1,e2,e3,e4,e5⟩=>⟨b,kb,p,r,e1,e2,by rw[aI (pz e3 hd (λz=>nomatch z))];exact e3,by rw[aI (pz e4 hd (λz=>nomatch z))];exact e4,e5.upd hd⟩
def sj{a b:HO}:upd (upd H d a) d b=upd H d b:=by
 funext c
 by_cases h:c=d
 .rw[h,aM,aM]
 .rw[aI h,aI h,aI h]
variable{X:Cx}{kt:W2}{xs:List V}{σ:L2.St}
section
variable {res:N9}{R:Vc->Ob->Prop}{l it:ZE}
def AX(hh:A.handled=ZB)(hu:A.units+3<cLine):∀(k i:Nat)(s:Ob)(H:Hp)(kvs ps:List (List Key×V)),xs.length - i=k->i<=xs.length->H l=ZA (.lst xs)->H d=ZA (.dT kvs)->kvs.length+(xs.length - i)<=1000->Inv X kt σ H s->s.heap.IsListIter it l i->p6 X kt H it->PairsAt H (xs.drop i) ps ->
  (∀s',Inv X kt σ (upd H d (.dT (ji kvs ps))) s'->R (.ok (.ret res)) s')->ZL (ZK X.prog X.w) A (.builtin "dict.update.loop" ⟨[.ref d,.ref it,rawInt i,res],[]⟩) R s:=by
 intro k;induction k with
 |zero=>
  intro i s H kvs ps hk hi hl hd hz I hit hf hp hR;refine Uu F.entry_dict_update_loop ?_;rw[UA F.plain_dict_update_loop _];obtain⟨z,its,n,r,hlen,e⟩:=I.Nj hl;have hL:s.heap.IsList l its.toArray:=⟨_,e,rfl,n,rfl⟩;show ZJ _ A.in1 (pyNext (.ref it) >>= _) _ _ s;refine Od (Uq hh hit hL (by simp;omega) λh' hm=>?_);show ZJ _ _ (Builtin.Dict.addKeywords d [] >>= _) _ _ _;refine Od (Ou (Ou ?_));have hnil:xs.drop i=[]:=R7 (by omega);rw[hnil]at hp;unfold PairsAt at hp;subst hp;have e2:upd H d (.dT (ji kvs []))=H:=by
   funext b
   by_cases hb:b=d
   .rw[hb,aM,hd];rfl
   .rw[aI hb]
  rw[e2]at hR;exact hR _ (I.Nr (fp:=[it]) (t':=s.toks) (λb hb=>by rw[Oi.mp hb];exact hf) λb o hb eb=>hm b o (λz=>hb (by rw[z];exact Oi.mpr rfl)) eb)
 |succ k ih=>
  intro i s H kvs ps hk hi hl hd hz I hit hf hp hR;refine Uu F.entry_dict_update_loop ?_;rw[UA F.plain_dict_update_loop _];obtain⟨z,its,n,r,hlen,e⟩:=I.Nj hl;have hL:s.heap.IsList l its.toArray:=⟨_,e,rfl,n,rfl⟩;have hlt:i<xs.length:=by omega
  have hlt':i<its.length:=by omega
  show ZJ _ A.in1 (pyNext (.ref it) >>= _) _ _ s;refine Od (T5 hit hL (x:=its[i]) (by simp[hlt']) λh' hit' hm=>?_);have I1:Inv X kt σ H {s with heap:=h'}:=I.Nr (fp:=[it]) (t':=s.toks) (λb hb=>by rw[Oi.mp hb];exact hf) λb o hb eb=>(hm.2 b (λz=>hb (by rw[z];exact Oi.mpr rfl))).trans eb;have hdrop:xs.drop i=xs[i] ::xs.drop (i+1):=PP hlt;rw[hdrop]at hp;obtain⟨b,kb,p,r',rfl,ex,hb,hkb,hp'⟩:=hp;have rx:RelV xs[i] its[i]:=by obtain⟨u,q1,q2⟩:=r.get (OA hlt);rw[OA hlt']at q1;cases q1;exact q2
  rw[ex]at rx;have eu:its[i]=OF b:=rx;rw[eu];obtain⟨z2,its2,r2,ob,hob1,hob2,nb,hob3⟩:=(show ObjOk X.prog X.w H h' b (.tup [.ref kb,p.2])from I1.hok b _ hb);obtain⟨u1,us1,q1,rfl⟩:∃u1 us1,RelV (V.ref kb) u1/\its2=u1::us1:=by cases r2 with|cons a b=>exact⟨_,_,a,rfl⟩
  cases r2 with
  |cons ra rb=>
   obtain⟨u2,q2,rfl⟩:∃u2,RelV p.2 u2/\us1=[u2]:=by cases rb with|cons a b=>cases b;exact⟨_,a,rfl⟩
   obtain rfl:u1=OF kb:=q1;show ZJ _ A.in1 (holding [OF b] _ >>= _) _ _ _;refine Od (R4 ?_);refine Od (wpAny_tryCatch ?_);unfold Builtin.Dict.pairItems;refine Od (Su (s:={s with heap:=h'}) (T:="tuple") ⟨ob,hob1,hob2⟩ ?_);rw[if_pos (by decide)];refine Od (UJ (s:={s with heap:=h'}) hob1 hob3 (Ou ?_));show ZJ _ _ (holding [OF kb,u2] (dictSet d (.ref kb) u2)) _ _ _;refine R4 ?_;obtain⟨zz,hds,xs2,rel,dd⟩:=DG I1.hok hd;have hzl:xs2.length<=ZI:=by rw[<-TL rel];exact zz
   have hkl:kvs.length<ZI:=by rw[Qk];omega
   have hl2:(dZ kvs p.1 p.2).length<=ZI:=by have:=gx kvs p.1 p.2;omega
   refine wpAny_dictSet_heap (hsz:=hzl) (Rm (by show A.units+1<cLine;omega)) (key_of I1.hok hkb) dd λh2 dd2 hs2=>?_;obtain⟨q,es,ep,hq,h22,h3,h4,_,h5⟩:=dd2;have I2:Inv X kt σ (upd H d (.dT (dZ kvs p.1 p.2))) {s with heap:=h2,toks:=s.toks+(TB (cO X.prog X.w)).draws p.1}:=
    ug (s:={s with heap:=h'}) I1 (by rw[hd];exact Q2) hs2 ⟨q,hq⟩ ⟨hl2,hds,_,(rel.put p.1 hkb q2).keeps λc ys ec=>by rw[aI (pz ec hd (λz=>nomatch z))];exact ec,q,es,ep,hq,h22,h3,h4,h5⟩
   have hld:l≠d:=pz hl hd (λz=>nomatch z);have hitd:it≠d:=λz=>by have:=hf.1;rw[z,hd]at this;cases this
   have hcast:(i:Int)+1=((i+1:Nat):Int):=by omega
   refine Ou ⟨plainId_quiet F.plain_dict_update_loop _,?_⟩;rw[hcast];refine ih (i+1) _ (upd H d (.dT (dZ kvs p.1 p.2))) (dZ kvs p.1 p.2) r' (by omega) (by omega) (by rw[aI hld];exact hl) aM (by have:=gx kvs p.1 p.2;omega) I2 ?_ ⟨by rw[aI hitd];exact hf.1,hf.2⟩ (hp'.upd hd) λs' I'=>?_
   .obtain⟨oi,ho1,ho2,ho3⟩:=hit';exact⟨oi,(hs2.2 it hitd).trans ho1,ho2,ho3⟩
   .rw[sj]at I';exact hR s' I'
end
theorem PairsAt.same{H':Hp}(s:Same H H'):∀{xs:List V}{ps:List (List Key×V)},PairsAt H xs ps->PairsAt H' xs ps
 |[],_,h=>h
 |x::xs,_,⟨b,kb,p,r,e1,e2,e3,e4,e5⟩=>⟨b,kb,p,r,e1,e2,s _ _ e3,s _ _ e4,e5.same s⟩
section
variable {l:ZE}{ps:List (List Key×V)}
def wb{Q:W1}(hh:A.handled=ZB)(hu:A.units+8<cLine)(I:Inv X kt σ H s)(hl:H l=ZA (.lst xs))(hz:xs.length<=1000)(hp:PairsAt H xs ps)
  (h:∀p s',Nw X.K H p->Inv X kt σ (upd H p (.dT (ji [] ps))) s'->Q (.ref p) s'):ZJ (ZK X.prog X.w) A (call (.type "dict") [.ref l]) Q E s:=by
 have hk:X.K.lookup s.heap.objs.size=ZB:=by
  cases q:X.K.lookup s.heap.objs.size with
  |none=>rfl
  |some o=>exact absurd (Os (I.kIn _ o q)) (OU _)
 have hn:H s.heap.objs.size=ZB:=I.hok.fresh (On _);have hlp:l≠s.heap.objs.size:=λz=>by rw[z,hn]at hl;cases hl
 refine callType_codes (Q₁:=λobj s₁=>obj=.ref s.heap.objs.size/\s₁= {s with heap:=s.heap.push {cls:=.type "dict",data:=.dict #[]}}) F.kt_called_dict (F.kt_typeCall_dict_1 _) F.entry_dict_init (kt_code_dict_new _ ⟨rfl,rfl⟩) ?_;rintro obj s₁ ⟨rfl,rfl⟩;have I1:Inv X kt σ (upd H s.heap.objs.size (.dT [])) {s with heap:=s.heap.push {cls:=.type "dict",data:=.dict #[]}}:=I.laid (a:=s.heap.objs.size) (o:=.dT []) (t':=s.toks) (λ_ _ q=>Om _ q) (On _) (DH s.heap I.big);have hT:({s with heap:=s.heap.push {cls:=.type "dict",data:=.dict #[]}}:Ob).TypeIs (.ref s.heap.objs.size) "dict":=⟨_,OI _ rfl,rfl⟩;have hl1:upd H s.heap.objs.size (.dT []) l=ZA (.lst xs):=by rw[aI hlp];exact hl
 obtain⟨z,its,n,r,hlen,e⟩:=I1.Nj hl1;refine⟨hT,F.args_dict_init_2 _ _,?_⟩;unfold Builtin.«dict.__init__»;refine Od ?_;unfold Builtin.Dict.selfAndRest;refine Od (wpAny_notOrdered_dict hT ?_);show ZJ _ _ (pure (s.heap.objs.size,[OF l])) _ _ _;refine Ou ?_;show ZJ _ _ (TJ "dict.__init__" s.heap.objs.size (.ref l) [] .none) _ _ _;unfold TJ;refine Od (Su (T:="list") ⟨_,e,rfl⟩ ?_);rw[if_pos (by decide)];refine Od (pG e hh λh' tk' kp=>?_);have I2:Inv X kt σ (upd H s.heap.objs.size (.dT [])) {s with heap:=h',toks:=tk'}:=I1.kept (t':=tk') kp;rw[if_pos (by rfl)];refine Od (SQ ?_);have eL:({s with heap:=h',toks:=tk'}:Ob).heap.IsList l its.toArray:=⟨_,kp _ _ e,rfl,n,rfl⟩;refine Od (TC eL ?_);have I3:Inv X kt σ (upd H s.heap.objs.size (.dT [])) {s with heap:=h'.push {cls:=.type "list_iterator",data:=.fields #[.ref l,.int 0 0]},toks:=tk'}:=I2.kept (t':=tk') λb u q=>Om _ q;have hpl:s.heap.objs.size<h'.objs.size:=Os (kp _ _ (OI _ rfl));have hni:upd H s.heap.objs.size (.dT []) h'.objs.size=ZB:=by rw[aI (Q8 hpl)];exact I.hok.fresh (Qi hpl)
 have hp1:PairsAt (upd H s.heap.objs.size (.dT [])) xs ps:=hp.same (aU hn _);refine Ou ⟨plainId_quiet F.plain_dict_update_loop _,?_⟩;refine AX (A:=A.in1) (X:=X) (kt:=kt) (σ:=σ) (l:=l) (xs:=xs) (it:=h'.objs.size) hh (by show A.units+1+3<cLine;omega) xs.length 0 _ (upd H s.heap.objs.size (.dT [])) [] ps (by omega) (Pn _) hl1 aM (by simp;omega) I3 ⟨_,OI _ rfl,rfl,rfl⟩ (I2.Ny (On _) hni) hp1 λs' I'=>?_;rw[sj]at I';exact⟨rfl,h _ _ ⟨hn,hk⟩ I'⟩
end
def hu8(h:Room k A):A.units+8<cLine:=by have:=h.un;omega
def xr{k:List Key}{v:V}(h:(kvs.map (·.1)).Nodup):((dZ kvs k v).map (·.1)).Nodup:=by
 unfold dZ;by_cases a:(kvs.any λkv=>decide (kv.1=k))=ZC
 .rw[if_pos a,RU];have:((λx=>x.1)∘λkv:List Key×V=>if kv.1=k then(kv.1,v)else kv)=λx=>x.1:=by
   funext x
   show(if x.1=k then(x.1,v)else x).1=x.1;by_cases e:x.1=k
   .rw[if_pos e]
   .rw[if_neg e]
  rw[this];exact h
 .rw[if_neg a,Py,Pc];refine⟨h,by simp,λx hx y hy=>?_⟩;simp only[Of,Sh,Oi]at hy;subst hy;intro z;subst z;obtain⟨p,hp,e⟩:=OJ.mp hx;exact a (Sz.mpr ⟨p,hp,decide_eq_true e⟩)
def M9(K:N7)(O:Ow)(H:Hp):List (T×T)->List (List Key×V)->Prop
 |[],ps=>ps=[]
 |a::l,ps=>∃p r,ps=p::r/\keyOf a.1=ZA p.1/\Rep K O H a.2 p.2/\M9 K O H l r
variable{O:Ow}
theorem mE:∀{l:List (T×T)}{ps:List (List Key×V)}{ks ts:List T}{kvs:List (List Key×V)},M9 K O H l ps->ks.map keyOf=kvs.map (λp=>ZA p.1)->Reps K O H ts (kvs.map (·.2))->(kvs.map (·.1)).Nodup ->
  (f9 l (ks,ts)).1.map keyOf=(ji kvs ps).map (λp=>ZA p.1)/\Reps K O H (f9 l (ks,ts)).2 ((ji kvs ps).map (·.2))
 |[],ps,ks,ts,kvs,h,h1,h2,hn=>by unfold M9 at h;subst h;exact⟨h1,h2⟩
 | (a,b)::l,ps,ks,ts,kvs,h,h1,h2,hn=>by obtain⟨p,r,rfl,e1,e2,e3⟩:=h;obtain⟨g1,g2⟩:=pQ (vT:=b) e1 e2 h1 h2 hn;show(f9 l (gb a b ks ts)).1.map keyOf=(ji (dZ kvs p.1 p.2) r).map (λp=>ZA p.1)/\Reps K O H (f9 l (gb a b ks ts)).2 ((ji (dZ kvs p.1 p.2) r).map (·.2));exact mE (l:=l) e3 g1 g2 (xr hn)
theorem sV:∀{l:List T}{tps:List (T×T)}{xs:List V},Hd l=ZA tps->Reps K O H l xs->∃ps,PairsAt H xs ps/\M9 K O H tps ps
 |[],tps,xs,h,r=>by cases Reps.Da.mp r;cases h;exact⟨[],rfl,rfl⟩
 |t::l,tps,xs,h,r=>by
  obtain⟨v,ws,rfl,p,q⟩:=Reps.me.mp r;unfold Hd at h;split at h
  .rename_i heq;cases heq
  .rename_i k v' l' heq;cases heq;split at h
   .rename_i kk rr hk hr;cases h;obtain⟨ps,g1,g2⟩:=sV hr q;obtain⟨b,vs,e1,e2,e3,e4⟩:=Rep.Fk.mp p;obtain⟨u1,us1,rfl,f1,f2⟩:=Reps.me.mp e4;obtain⟨u2,us2,rfl,f3,f4⟩:=Reps.me.mp f2;cases Reps.Da.mp f4;obtain⟨kb,f5,f6⟩:=lF hk f1;subst f5;exact⟨(kk,u2)::ps,⟨b,kb,(kk,u2),ps,rfl,e1,e3,f6,g1⟩,⟨(kk,u2),ps,rfl,hk,f3,g2⟩⟩
   .cases h
  .cases h
section
variable {e:ZG}{f:W5}{x y:Str}{p pos p2 p3:Pos}
def GG(hu:X.A.units+8<cLine)(hc:X.calm=ZC):CallT X (.type "dict") lN:=by
 intro kt s σ H O ts vs us Q I hf rs rv hp;unfold lN at hp;split at hp
 .rename_i l;obtain⟨v,rfl,r⟩:=rs.one;obtain⟨a,xs,rfl,e2,e3,e4⟩:=Rep.Do.mp r;obtain⟨u,rfl,ru⟩:=rv.one;obtain rfl:u=OF a:=ru;split at hp
  .rename_i tps hps;by_cases hz:l.length<=1000
   .rw[if_pos hz]at hp;obtain⟨ps,g1,g2⟩:=sV hps e4;refine wb (I.ok.hd hc) hu I e3 (by rw[<-e4.length];exact hz) g1 λq s' nw I'=>⟨.ref q,_,I',rfl,hp _ (aU nw.1 _) _ ?_⟩;obtain⟨k1,k2⟩:=mE (ks:=[]) (ts:=[]) (kvs:=[]) g2 rfl Reps.GM Rf;exact Rep.GE.mpr ⟨q,_,rfl,hf q nw.1,.inl aM,k1,k2.same (aU nw.1 _)⟩
   .rw[if_neg hz]at hp;exact hp.elim
  .exact hp.elim
 .exact hp.elim
def HX(X:Cx)(f:W5):TE:=λσ H Q=>tP X f σ H λv H'=>∃a xs ps,v=.ref a/\H' a=ZA (.lst xs)/\xs.length<=1000/\PairsAt H' xs ps/\∀q,Nw X.K H' q->Q (.ref q) (upd H' q (.dT (ji [] ps)))
def B6(hu:X.A.units+8<cLine)(hc:X.calm=ZC)(hm:X.mg "dict" =ZB)(ha:cm X e f)(hg:Gl X "dict")(hs:a9 e=ZC):PE X (.Call (.Name "dict" p) [e] [] pos) (HX X f):=by
 have h1:Oq [e] X.env=(ZD,eval e X.env)::Oq [] X.env:=aS hs;intro kt s σ H Q I hq;refine Pv (fI I hg hm (show O6 "dict" =ZA (.type "dict")by decide+kernel) ?_ (by decide) (by decide));refine Pq (bR (cN (te:=tP X f) ha fG h1 pos kt s σ H (λxs H'=>∃v,xs=[v]/\∃a xs ps,v=.ref a/\H' a=ZA (.lst xs)/\xs.length<=1000/\PairsAt H' xs ps/\∀q,Nw X.K H' q->Q (.ref q) (upd H' q (.dT (ji [] ps)))) I ?_) λus s1 hh=>?_) h1 rfl
 .obtain⟨Z,O,E,h⟩:=hq;exact⟨Z,O,E,Post.mono h λt H' _ g v r=>⟨v,rfl,g v r⟩⟩
 .obtain⟨vs,H1,I1,r1,v,rfl,a,xs,ps,ev,e1,e2,e3,e4⟩:=hh;subst ev;obtain⟨u,rfl,ru⟩:=r1.one;obtain rfl:u=OF a:=ru;exact wb (I1.ok.hd hc) hu I1 e1 e2 e3 λq s' nw I'=>⟨.ref q,_,I',rfl,e4 q nw⟩
def E8(i:Nat)(hu:X.A.units+8<cLine)(hc:X.calm=ZC)(hm:X.mg "dict" =ZB)(hN:X.N.Nodup)(ha:cm X e f)(hst:autoParam (a9 e=ZC) u_)(hg:autoParam (Gl X "dict") u_)(hi:autoParam (X.N[i]?=ZA x) u_)(hx:autoParam (Loc X.env.scope x) y_)(hs:autoParam (Pb (.Call (.Name "dict" p) [e] [] p2) (ZA (.Name x p3)) pos.line X.env=pure ZD) u_)
  (hf:autoParam (X.fn x=ZC\/X.env.scope.names.lookup x=ZA .local) r_):oj X (.Assign [.Name x p3] (.Call (.Name "dict" p) [e] [] p2) pos) (qW i f):=PS.imp (oR hN hi hx (B6 hu hc hm ha hg hst) hs hf) λD σ H hh_=>by
 obtain⟨Z,B,M,E,h⟩:=hh_;refine⟨Z,OO B M,E.o,?_⟩;unfold qW at h;cases q:f Z with
 |bad=>rw[q]at h;exact h.elim
 |err c=>rw[q]at h;exact PostF.xa h
 |ok t=>
  rw[q,ax]at h;intro H1 s1 v r;have h1:=h.later (SameO.of s1) (P1:=M.u) λa z=>.inl z;cases t with
  |lst l=>
   obtain⟨a,xs,rfl,e2,e3,e4⟩:=Rep.Do.mp r;unfold lN at h1;split at h1
   .rename_i l' heq;cases heq;split at h1
    .rename_i tps hps;by_cases hz:l.length<=1000
     .rw[if_pos hz,ax]at h1;obtain⟨ps,g1,g2⟩:=sV hps e4;refine⟨a,xs,ps,rfl,e3,by rw[<-e4.length];exact hz,g1,λnd nw=>?_⟩;by_cases hl:i<Z.length
      .simp only[if_pos hl]at h1;have hm:∀a,a=nd->Nw X.K H1 a:=λa z=>z▸nw;obtain⟨k1,k2⟩:=mE (ks:=[]) (ts:=[]) (kvs:=[]) g2 rfl Reps.GM Rf;obtain⟨E2,sub⟩:=(E.same s1).new (m:=λa=>a=nd) (o:=.dct (f9 tps ([],[])).1 (f9 tps ([],[])).2) (v:=.ref nd) (H':=upd H1 nd (.dT (ji [] ps))) hl hm (aU nw.1 _) ⟨nd,_,rfl,λb=>Rj,aM,k1,(k2.more (Ev.subO hm)).same (aU nw.1 _)⟩;exact h1 _ _ _ (SameO.of (aU nw.1 _)) E2 sub
      .simp only[if_neg hl]at h1;exact h1.elim
     .rw[if_neg hz]at h1;exact h1.elim
    .exact h1.elim
   .rename_i hno;exact(hno l rfl).elim
  |_=>exact h1.elim
end
theorem fW:∀{l:List T}{ns:List Int}{xs:List V}{us:List N9},iY l=ZA ns->Reps K O H l xs->Vals xs us->QB us ns
 |[],ns,xs,us,h,r,v=>by cases Reps.Da.mp r;cases v;cases h;exact .nil
 |t::l,ns,xs,us,h,r,v=>by
  obtain⟨w,ws,rfl,p,q⟩:=Reps.me.mp r;cases v with
  |cons v1 v2=>
   cases t with
   |int i=>
    unfold iY at h;obtain⟨m,h1,rfl⟩:=Qy.mp h;cases Rep.AC.mp p;obtain⟨k,rfl⟩:=v1;exact .cons _ _ (fW h1 q v2)
   |_=>cases h
theorem ri:∀(l:List Int)(i:Int),xE i l∈i::l/\∀a∈i::l,xE i l<=a
 |[],i=>⟨Oe,λa h=>by cases Oi.mp h;exact UP _⟩
 |j::l,i=>by
  obtain⟨h1,h2⟩:=ri l (if j<i then j else i);unfold xE;have h3:=h2 _ Oe;refine⟨?_,λa ha=>?_⟩
  .rcases Oj.mp h1 with e|e
   .rw[e];by_cases h:j<i
    .rw[if_pos h];simp
    .rw[if_neg h];simp
   .exact N8 _ (N8 _ e)
  .rcases Oj.mp ha with rfl|ha
   .by_cases h:j<a
    .rw[if_pos h]at h3 ⊢;omega
    .rw[if_neg h]at h3 ⊢;omega
   .rcases Oj.mp ha with rfl|ha
    .by_cases h:a<i
     .rw[if_pos h]at h3 ⊢;omega
     .rw[if_neg h]at h3 ⊢;omega
    .exact h2 a (N8 _ ha)
def Kq(hc:X.calm=ZC):CallT X (.builtin "min") F1:=by
 intro kt s σ H O ts vs us Q I hf rs rv hp;unfold F1 at hp;split at hp
 .rename_i l;obtain⟨v,rfl,r⟩:=rs.one;split at hp
  .rename_i i ns hk;obtain⟨a,ws,rfl,n,q,z⟩:=Rep.Do.mp r;obtain⟨u,rfl,ru⟩:=i9 rv;cases ru;obtain⟨its,r',pl,hz⟩:=I.list (SqL.of q);have hi:=fW hk z r';obtain⟨xs,e⟩:=hi.allInts.items;have hns:i::ns=xs.toList.map (·.1):=by rw[<-hi.numsOf,<-nums_intItems,<-e]
   have hl:s.heap.IsList a (intItems xs):=by rw[<-e];exact pl.isList
   have hsz:0<xs.size:=by have h3:=congrArg QQ hns;rw[Og,Oa]at h3;rw[<-PC];omega
   refine min_intList (I.ok.hd hc) hl hsz λv h' tk hv hk'=>?_;obtain⟨t,rfl⟩:=intItems_at hv;obtain⟨h1,h2⟩:=argBest_lt (numAt xs) (xs.size - 1);refine⟨.int _,H,I.kept (t':=tk) hk',⟨_,rfl⟩,?_⟩;have eM:numAt xs (argBest (λi j=>decide (numAt xs i<numAt xs j)) (xs.size - 1))=xE i ns:=by
    obtain⟨g1,g2⟩:=ri ns i;have m1:numAt xs (argBest (λi j=>decide (numAt xs i<numAt xs j)) (xs.size - 1))∈i::ns:=by rw[hns,numAt_eq];exact PySem.getD_mem (by rw[Oa,PC];omega)
    have k1:=g2 _ m1;rw[hns]at g1;obtain⟨j,hj,ej⟩:=mem_getD g1;rw[Oa,PC]at hj;rw[<-numAt_eq]at ej;have k2:=h2 j (by omega);rw[ej]at k2;exact Int.le_antisymm k2 k1
   rw[eM];exact hp H (Same.refl H) _ (Rep.GT _)
  .exact hp.elim
 .rename_i i j;obtain⟨v,ws,rfl,p,q⟩:=Reps.me.mp rs;obtain⟨v2,rfl,p2⟩:=q.one;cases Rep.AC.mp p;cases Rep.AC.mp p2;refine A3 hc kt s σ H _ us Q I rv ⟨i,j,rfl,?_⟩;exact hp H (Same.refl H) _ (Rep.GT _)
 .exact hp.elim
noncomputable def AG(x y:T):Rs T:=match x,y with
 |.tup l,.tup m=>match iY l,iY m with
  |some ns,ZA ms=>.ok (.bl (cj ns ms))
  |_,_=>.bad
 |x,y=>F4 x y
noncomputable def rowsT:List T->Option (List (List Int))
 |[] =>ZA []
 |.tup l::r=>match iY l,rowsT r with
  |some ns,ZA k=>if ns=[]then ZB else ZA (ns::k)
  |_,_=>ZB
 |_=>ZB
noncomputable def nU(a b:List Int):Bool:=!cj b a
noncomputable def uR:List T->Rs T
 |[.lst l] =>match rowsT l with
  |some k=>if k.length<64 then .ok (.lst ((k.mergeSort nU).map λns=>.tup (ns.map .int)))else .bad
  |none=>.bad
 |_=>.bad
theorem jv:∀l,cj l l=ZD
 |[] =>rfl
 |a::l=>by unfold cj;rw[if_pos rfl];exact jv l
theorem lD:∀a b c,cj a b=ZC->cj b c=ZC->cj a c=ZC
 |[],[],_,h,_=>absurd h (by simp[cj])
 |_::_,[],_,h,_=>absurd h (by simp[cj])
 |[],_::_,[],_,h=>absurd h (by simp[cj])
 |[],_::_,_::_,_,_=>rfl
 |_::_,_::_,[],_,h=>absurd h (by simp[cj])
 |x::a,y::b,z::c,h,g=>by
  unfold cj at h g ⊢;by_cases e:x=y
  .subst e;rw[if_pos rfl]at h;by_cases e2:x=z
   .rw[if_pos e2]at g ⊢;exact lD a b c h g
   .rw[if_neg e2]at g ⊢;exact g
  .rw[if_neg e]at h;by_cases e2:y=z
   .subst e2;rw[if_neg e];exact h
   .rw[if_neg e2]at g;have h1:=of_decide_eq_true h;have h2:=of_decide_eq_true g;rw[if_neg (by omega)];exact decide_eq_true (by omega)
theorem lE:∀a b,cj a b=ZD->cj b a=ZD->a=b
 |[],[],_,_=>rfl
 |[],_::_,h,_=>absurd h (by simp[cj])
 |_::_,[],_,h=>absurd h (by simp[cj])
 |x::a,y::b,h,g=>by
  unfold cj at h g;by_cases e:x=y
  .subst e;rw[if_pos rfl]at h g;rw[lE a b h g]
  .rw[if_neg e]at h;rw[if_neg (λz=>e z.symm)]at g;have h1:=of_decide_eq_false h;have h2:=of_decide_eq_false g;omega
def vD(a b c:List Int)(h:cj a c=ZC):cj a b=ZC\/cj b c=ZC:=by
 cases h1:cj a b with
 |true=>exact .inl rfl
 |false=>
  cases h2:cj b a with
  |true=>exact .inr (lD _ _ _ h2 h)
  |false=>rw[<-lE _ _ h1 h2];exact .inr h
def JG(a b c:List Int)(h:nU a b=ZC)(g:nU b c=ZC):nU a c=ZC:=by
 unfold nU at*;cases z:cj c a with
 |false=>rfl
 |true=>
  rcases vD c b a z with y|y
  .rw[y]at g;cases g
  .rw[y]at h;cases h
def F8(a b:List Int):(nU a b||nU b a)=ZC:=by
 unfold nU;cases z:cj b a with
 |false=>rfl
 |true=>
  cases y:cj a b with
  |false=>rfl
  |true=>have:=lD _ _ _ z y;rw[jv]at this;cases this
def CM(a b:List Int)(h:nU a b=ZC)(g:nU b a=ZC):a=b:=by
 unfold nU at h g;refine lE a b ?_ ?_
 .cases z:cj a b with
  |false=>rfl
  |true=>rw[z]at g;cases g
 .cases z:cj b a with
  |false=>rfl
  |true=>rw[z]at h;cases h
def BG{k m:List (List Int)}(p:m.Perm k)(s:m.Pairwise (λa b=>nU a b=ZC)):m=k.mergeSort nU:=
 List.Perm.eq_of_pairwise (le:=λa b=>nU a b=ZC) (λa b _ _ h g=>CM a b h g) s (List.pairwise_mergeSort JG F8 k) (p.trans (RI k nU).symm)
theorem zh:∀(l m:List Int),HT.lexLt l m=cj l m
 |[],[] =>rfl
 |[],_::_=>rfl
 |_::_,[] =>rfl
 |a::l,b::m=>by rw[HT.lexLt_cons,zh l m];rfl
def Jh(hu:X.A.units<cLine):OpT X (Pe .Lt) AG:=by
 intro kt s σ H O x y vx vy ux uy Q I hf rx ry r1 r2 hp;unfold AG at hp;split at hp
 .rename_i l m;split at hp
  .rename_i ns ms h1 h2;obtain⟨a,vs,rfl,_,e3,e4⟩:=Rep.Fk.mp rx;obtain⟨b,ws,rfl,_,g3,g4⟩:=Rep.Fk.mp ry;obtain rfl:ux=OF a:=r1;obtain rfl:uy=OF b:=r2;obtain⟨its,v1,t1,_⟩:=I.tuple (SqT.of e3);obtain⟨its2,v2,t2,_⟩:=I.tuple (SqT.of g3);refine HT.lt_tupInts t1 t2 (by simpa using fW h1 e4 v1) (by simpa using fW h2 g4 v2) hu ⟨.bl _,H,I,rfl,?_⟩;rw[zh];exact hp H (Same.refl H) _ (Rep.bl_ _)
  .exact hp.elim
 .exact vc kt s σ H O x y vx vy ux uy Q I hf rx ry r1 r2 hp
structure SrtB (k0:Uy)(o:Array WB)(st:S2):Prop where
 p:(arrOf st).Perm o
 k:kindOf st=k0
 f:TR st=ZB
 e:RH st= #[]
def SrtB.len{o:Array WB}(b:SrtB k0 o st):(arrOf st).size=o.size:=b.p.size_eq
variable{xs:Array WB}
def SrtB.arr{o:Array WB}(b:SrtB k0 o st)(h:xs.Perm (arrOf st)):SrtB k0 o (setArr st xs):=⟨h.trans b.p,b.k,b.f,b.e⟩
def wu(κ:KeyKind)(k0:Uy)(prog:OM)(w:Pm)(A:OY)(s:Ob):Prop:=
 ∀(E:W1)(x y:N9)(a b:κ.α)(Q:Bool->Ob->Prop),κ.keyOf x=ZA a->κ.keyOf y=ZA b->Q (κ.blt a b) s->ZJ (ZK prog w) A (keyLt' k0 x y) Q E s
noncomputable abbrev gk(κ:KeyKind)(st:S2)(i:Nat):κ.α:=KK κ (arrOf st) i
variable{κ:KeyKind}
def EI(h:P9 κ xs n)(hl:κ.kle (KK κ xs (n - 1)) (KK κ xs n)):P9 κ xs (n+1):=λi j le lt=>by
 rcases RV j n with z|z
 .exact h i j le z
 .obtain rfl:j=n:=by omega
  rcases RV i j with y|y
  .exact SA (h i (j - 1) (by omega) (by omega)) hl
  .rw[show i=j by omega];exact Rq _
def og(h:UW κ xs n)(hl:κ.kle (KK κ xs n) (KK κ xs (n - 1))):UW κ xs (n+1):=λi j le lt=>by
 rcases RV j n with z|z
 .exact h i j le z
 .obtain rfl:j=n:=by omega
  rcases RV i j with y|y
  .exact SA hl (h i (j - 1) (by omega) (by omega))
  .rw[show i=j by omega];exact Rq _
def Bv(h:n<=1):P9 κ xs n:=λi j le lt=>by rw[show i=j by omega];exact Rq _
def Kk(h:n<=1):UW κ xs n:=λi j le lt=>by rw[show i=j by omega];exact Rq _
section
variable {o:Array WB}
def G6(b:SrtB k0 o st)(ks:KeysOf κ o)(hi:i<o.size):∃z,(arrOf st)[i]?=ZA z/\κ.keyOf z.1=ZA (gk κ st i):=by have h1:i<(arrOf st).size:=b.len▸hi;obtain⟨a,ha⟩:=ks _ ((S9.mp b.p).mem_iff.mp (Array.getElem_mem_toList h1));have e:=getElem?_pos (arrOf st) i h1;refine⟨_,e,?_⟩;show _=ZA (KK κ (arrOf st) i);unfold KK;rw[e,ha];simp[ha]
def uS(c:wu κ k0 prog w A s)(ks:KeysOf κ o)(b:SrtB k0 o st){Q:Option Bool->S2->Prop}(hi:i<o.size)(hj:j<o.size)(q:Q (ZA (κ.blt (gk κ st i) (gk κ st j))) st):
  wpS (ZK prog w) A E s (ltAt' i j) Q st:=by
 obtain⟨⟨x,x2⟩,e1,k1⟩:=G6 b ks hi;obtain⟨⟨y,y2⟩,e2,k2⟩:=G6 b ks hj;rw[ltAt'_eq];refine Px (WC ?_);dsimp only;rw[elem'_eq,elem'_eq,e1,e2];refine Px (Qg (Px (Qg ?_)));rw[lt'_eq];refine Px (WC ?_);rw[b.k];exact Px (wpS_lift (wpAny_attempt (c _ x y _ _ _ k1 k2 ⟨rfl,Qg q⟩)))
def G5{Q:AscSt->S2->Prop}(c:wu κ k0 prog w A s)(ks:KeysOf κ o)(b:SrtB k0 o st)(hm:m<=o.size)(h1:1<=a)(h2:a<=m)(so:P9 κ (arrOf st) a)
  (q:∀n,a<=n->n<=m->P9 κ (arrOf st) n->(n≠m->κ.klt (gk κ st n) (gk κ st (n - 1)))->Q (ZB,n) st):wpS (ZK prog w) A E s (ascLoop a m) Q st:=by
 unfold ascLoop;refine Sv (I:=λn r st'=>r=(ZB,n)/\st'=st/\P9 κ (arrOf st) n) (λn r st' l1 l2 hI=>?_) (λr st' hI=>?_) ⟨rfl,rfl,so⟩
 .obtain⟨rfl,rfl,sn⟩:=hI;refine Px (uS c ks b (Oo l2 hm) (Rl (Vu _ _) (Oo l2 hm)) ?_);cases z:κ.blt (gk κ st' n) (gk κ st' (n - 1))with
  |true=>exact Qg (q n l1 (Qi l2) sn λ_=>z)
  |false=>exact Qg ⟨rfl,rfl,EI sn z⟩
 .obtain⟨rfl,rfl,sn⟩:=hI;have e:max a m=m:=SB h2;rw[e]at sn ⊢;exact q m h2 (On _) sn λh=>absurd rfl h
def sL{Q:Unit->S2->Prop}(b:SrtB k0 o st)(q:∀st',SrtB k0 o st'->arrOf st'=mirror (arrOf st) i j ((j - i) / 2)->Q () st'):wpS (ZK prog w) A E s (reverseSlice' i j) Q st:=by rw[reverseSlice'_eq];exact VD (q _ (b.arr (mirror_perm _ _ _ _)) rfl)
abbrev D9(κ:KeyKind)(k0:Uy)(o:Array WB)(m:Nat)(Q:Option Nat->S2->Prop):Prop:=∀n st',SrtB k0 o st'->1<=n->n<=m->P9 κ (arrOf st') n->Q (ZA n) st'
def yE(c:wu κ k0 prog w A s)(ks:KeysOf κ o)(b:SrtB k0 o st)(hm:m<=o.size)(h1:1<=n)(h2:n<=m)(dn:UW κ (arrOf st) n)(q:D9 κ k0 o m Q):
  wpS (ZK prog w) A E s (tail3 n m) Q st:=by
 unfold tail3;refine Px (sL b λst' b' e=>Px (G5 c ks b' hm h1 h2 (λi j le lt=>?_) λk l1 l2 so _=>Qg (q k st' b' (by omega) l2 so)));have hz:n<=(arrOf st).size:=by rw[b.len];omega
 rw[e,KK_mirror hz,KK_mirror hz,if_pos ⟨Pn _,by omega⟩,if_pos ⟨Pn _,by omega⟩];exact dn _ _ (by omega) (by omega)
def tp(g1:k - 1<=i)(g2:i<k):i=k - 1:=Ug (SE g2) g1
def K6{Q:DescSt->S2->Prop}(c:wu κ k0 prog w A s)(ks:KeysOf κ o)(b:SrtB k0 o st)(hm:m<=o.size)(h1:1<=n)(h2:n<=m)(dn:UW κ (arrOf st) n)
  (q:∀k r st',SrtB k0 o st'->n<=k->k<=m->UW κ (arrOf st') k->r+1<=k->(∀i,k - (r+1)<=i->i<k->gk κ st' i=gk κ st' (k - 1))->Q (ZB,k,r) st'):wpS (ZK prog w) A E s (descLoop n m) Q st:=by
 unfold descLoop;refine Sv (I:=λk c st'=>∃r,c=(ZB,k,r)/\SrtB k0 o st'/\UW κ (arrOf st') k/\r+1<=k/\∀i,k - (r+1)<=i->i<k->gk κ st' i=gk κ st' (k - 1)) (λk r st' l1 l2 hI=>?_) (λr st' hI=>?_)
  ⟨0,rfl,b,dn,h1,λi g1 g2=>by rw[tp g1 g2]⟩
 .obtain⟨r,rfl,b',d',hr,eq⟩:=hI;dsimp only;have kk:=Oo l2 hm;have kp:k - 1<o.size:=Rl (Vu _ _) kk;have hz:k<=(arrOf st').size:=by rw[b'.len];exact Qi kk
  refine Px (uS c ks b' kk kp ?_);cases z:κ.blt (gk κ st' k) (gk κ st' (k - 1))with
  |true=>
   have d2:=og d' (Tw z);show wpS _ _ _ _ (if r > 0 then _ else _) _ _;by_cases hr0:r > 0
   .rw[if_pos hr0];refine Px (sL b' λst2 b2 e2=>Qg ⟨0,rfl,b2,λi j le lt=>?_,TY (Pn _),λi g1 g2=>by rw[tp g1 g2]⟩);rw[e2,Qw hz eq,Qw hz eq];exact d2 i j le lt
   .rw[if_neg hr0];exact Qg ⟨0,rfl,b',d2,TY (Pn _),λi g1 g2=>by rw[tp g1 g2]⟩
  |false=>
   refine Px (uS c ks b' kp kk ?_);cases y:κ.blt (gk κ st' (k - 1)) (gk κ st' k)with
   |true=>exact Qg (q k r st' b' l1 (Qi l2) d' hr eq)
   |false=>
    refine Qg ⟨r+1,rfl,b',og d' y,TY hr,λi g1 g2=>?_⟩;have e:gk κ st' k=gk κ st' (k - 1):=UQ y z;rw[Nat.add_sub_cancel];rcases RV i k with g3|g3
    .rw[e];exact eq i (by rw[Nat.add_sub_add_right]at g1;exact g1) g3
    .rw[Ug (Rv g2) g3]
 .obtain⟨r,rfl,b',d',hr,eq⟩:=hI;have e:max n m=m:=SB h2;rw[e]at d' hr eq ⊢;exact q m r st' b' h2 (On _) d' hr eq
def yF(c:wu κ k0 prog w A s)(ks:KeysOf κ o)(b:SrtB k0 o st)(hm:m<=o.size)(h2:n+1<=m)(dn:UW κ (arrOf st) (n+1))(q:D9 κ k0 o m Q):
  wpS (ZK prog w) A E s (descPart n m) Q st:=by
 unfold descPart;refine Px (wpS_lift (SQ ⟨rfl,Px (K6 c ks b hm (by omega) h2 dn λk r st' b' l1 l2 d' hr eq=>?_)⟩));dsimp only;have hz:k<=(arrOf st').size:=by rw[b'.len];omega
 by_cases hr0:r > 0
 .rw[if_pos hr0];refine Px (sL b' λst2 b2 e2=>yE c ks b2 hm (by omega) l2 (λi j le lt=>?_) q);rw[e2,Qw hz eq,Qw hz eq];exact d' i j le lt
 .rw[if_neg hr0];exact yE c ks b' hm (by omega) l2 d' q
def Ia(c:wu κ k0 prog w A s)(ks:KeysOf κ o)(b:SrtB k0 o st)(hm:m<=o.size)(h1:1<=m)(q:D9 κ k0 o m Q):wpS (ZK prog w) A E s (countRun' 0 m) Q st:=by
 rw[countRun0_eq];refine Px (G5 c ks b hm (On 1) h1 (Bv (On 1)) λn l1 l2 so lt=>?_);dsimp only;by_cases e:n=m
 .rw[if_pos (beq_iff_eq.mpr e)];exact Qg (q n st b l1 l2 so)
 rw[if_neg (λz=>e (beq_iff_eq.mp z))];have fall:=Tw (lt e);by_cases g:n > 1
 .rw[if_pos g];refine Px (uS c ks b (by omega) (by omega) ?_);cases z:κ.blt (gk κ st 0) (gk κ st (n - 1))with
  |true=>exact Qg (q n st b l1 l2 so)
  |false=>
   have all:∀k,0<=k->k<n->gk κ st k=gk κ st (n - 1):=λk _ hk=>
    UQ (so k (n - 1) (by omega) (by omega)) (SA (show κ.kle (gk κ st (n - 1)) (gk κ st 0)from z) (so 0 k (by omega) hk))
   have hz:n<=(arrOf st).size:=by rw[b.len];omega
   refine Px (sL b λst2 b2 e2=>yF c ks b2 hm (by omega) (og (λi j le lt=>?_) ?_) q)
   .rw[e2,Qw hz all,Qw hz all];show κ.kle (gk κ st j) (gk κ st i);rw[all i (Pn _) (by omega),all j (Pn _) (by omega)];exact Rq _
   .rw[e2,Qw hz all,Qw hz all];exact fall
 .rw[if_neg g];exact yF c ks b hm (by omega) (og (Kk (by omega)) fall) q
def Jz{u:Nat}(h:l<u):l<=(l+u) / 2/\(l+u) / 2<u:=⟨by omega,by omega⟩
def J0(hk:k<xs.size)(lk:l<=k)(so:P9 κ xs k)(lo:∀i,i<l->κ.kle (KK κ xs i) (KK κ xs k))(hi:∀i,l<=i->i<k->κ.klt (KK κ xs k) (KK κ xs i)):P9 κ (bubble xs k (k - l)) (k+1):=λi j le lt=>by
 rw[KK_bubble hk (Vu _ _),KK_bubble hk (Vu _ _),Nat.sub_sub_self lk];have lt:=Rv lt;rcases Vv i l with i1|i1|i1
 .rw[if_neg (Pj i1),if_neg λz=>Nat.lt_asymm z.1 i1];rcases Vv j l with j1|j1|j1
  .rw[if_neg (Pj j1),if_neg λz=>Nat.lt_asymm z.1 j1];exact so _ _ le (Oo j1 lk)
  .rw[if_pos j1];exact lo i i1
  .rw[if_neg (Q8 j1),if_pos ⟨j1,lt⟩];exact so _ _ (SE (Ua i1 j1)) (Oo (SF j1) lt)
 .rw[if_pos i1];rcases Nat.lt_or_eq_of_le (i1▸le:l<=j)with j1|j1
  .rw[if_neg (Q8 j1),if_pos ⟨j1,lt⟩];exact Tw (hi _ (SE j1) (Oo (SF j1) lt))
  .rw[if_pos j1.symm];exact Rq _
 .have j1:=Oo i1 le;rw[if_neg (Q8 i1),if_pos ⟨i1,OV le lt⟩,if_neg (Q8 j1),if_pos ⟨j1,lt⟩];exact so _ _ (Nat.sub_le_sub_right le 1) (Oo (SF j1) lt)
def Ib{Q:Bool->S2->Prop}(c:wu κ k0 prog w A s)(ks:KeysOf κ o)(b:SrtB k0 o st)(h1:1<=n)(hn:n<=o.size)(ha:a<=n)(so:P9 κ (arrOf st) a)
  (q:∀st',SrtB k0 o st'->P9 κ (arrOf st') n->Q ZC st'):wpS (ZK prog w) A E s (binarySort' 0 n a) Q st:=by
 rw[binarySort'_eq];simp only[VS];refine Px (Sv (I:=λk r st'=>r=(ZB,())/\SrtB k0 o st'/\P9 κ (arrOf st') k) (λk r st1 l1 l2 hI=>?_) (λr st1 hI=>?_) ⟨rfl,b,?_⟩)
 .obtain⟨rfl,b1,so1⟩:=hI;have hk:k<o.size:=Oo l2 hn;refine Px (wpS_mono (Sv (I:=λx r st2=>st2=st1/\∃l u,r=(ZB,l,u)/\l<=u/\u<=k/\u<=k+l - x/\(∀i,i<l->κ.kle (gk κ st1 i) (gk κ st1 k))/\∀i,u<=i->i<k->κ.klt (gk κ st1 k) (gk κ st1 i))
   (Q:=λr st2=>st2=st1/\∃l u,r=(ZB,l,u)/\l<=k/\(∀i,i<l->κ.kle (gk κ st1 i) (gk κ st1 k))/\∀i,l<=i->i<k->κ.klt (gk κ st1 k) (gk κ st1 i)) (λx r st2 y1 y2 hJ=>?stp) (λr st2 hJ=>?fin) ⟨rfl,0,k,rfl,Pn _,On _,On _,λi hi=>absurd hi (Wt _),λi g1 g2=>absurd g2 (Nat.not_lt.mpr g1)⟩) λr st2 hJ=>?pst)
  case stp=>
   obtain⟨rfl,l,u,rfl,lu,uk,mz,lo,hi⟩:=hJ;dsimp only;by_cases g:l ≥ u
   .rw[if_pos g];exact Qg ⟨rfl,l,u,rfl,OV lu uk,lo,λi g1 g2=>hi i (OV g g1) g2⟩
   .rw[if_neg g];have hm:=Jz (Nat.lt_of_not_le g);generalize (l+u) / 2=m at hm ⊢;have mk:m<k:=Oo hm.2 uk;refine Px (uS c ks b1 hk (Ua mk hk) ?_);have am:u<=k+(m+1) - (x+1)/\m<=k+l - (x+1):=by clear lo hi so so1 q ks c b b1 hn ha h1;omega
    cases z:κ.blt (gk κ st2 k) (gk κ st2 m)with
    |true=>exact Qg ⟨rfl,l,m,rfl,hm.1,Qi mk,am.2,lo,λi g1 g2=>KeyOrd.klt_of_klt_of_kle z (so1 _ i g1 g2)⟩
    |false=>exact Qg ⟨rfl,m+1,u,rfl,hm.2,uk,am.1,λi g1=>SA (so1 i m (Rv g1) mk) z,hi⟩
  case fin=>
   obtain⟨rfl,l,u,rfl,lu,uk,mz,lo,hi⟩:=hJ;have e:u<=l:=by clear lo hi so so1 q ks c b b1 hn ha h1;omega
   exact⟨rfl,l,u,rfl,OV lu uk,lo,λi g1 g2=>hi i (OV e g1) g2⟩
  case pst=>
   obtain⟨rfl,l,u,rfl,lk,lo,hi⟩:=hJ;dsimp only;rw[moveDown'_eq];exact Px (VD (Qg ⟨rfl,b1.arr (bubble_perm _ _ _),J0 (by rw[b1.len];exact hk) lk so1 lo hi⟩))
 .obtain⟨rfl,b1,so1⟩:=hI;rw[SB (Nat.max_le.mpr ⟨ha,h1⟩)]at so1;exact Qg (q st1 b1 so1)
 .rcases Nat.le_total a 1 with g|g
  .rw[SB g];exact Bv (On 1)
  .rw[Nat.max_eq_left g];exact so
def Ic{Q:Unit->S2->Prop}(c:wu κ k0 prog w A s)(ks:KeysOf κ o)(b:SrtB k0 o st)(h2:2<=o.size)(h64:o.size<64)
  (q:∀st',(arrOf st').Perm o->TR st'=ZB->P9 κ (arrOf st') o.size->Q () st'):wpS (ZK prog w) A E s sortRuns' Q st:=by
 rw[sortRuns'_eq];refine Px (WC ?_);dsimp only;have hmr:minRun' o.size o.size 0=o.size:=by
  cases hz:o.size with
  |zero=>omega
  |succ f=>rw[minRun'_succ,if_pos (by omega)]
 simp only[b.len,hmr];refine Px (wpS_mono (Sv (I:=λx r st1=>(x=0/\r=(ZB,0)/\SrtB k0 o st1)\/(x≠0/\r=(ZB,o.size)/\(arrOf st1).Perm o/\TR st1=ZB/\(RH st1).size=1/\P9 κ (arrOf st1) o.size))
  (Q:=λr st1=>r=(ZB,o.size)/\(arrOf st1).Perm o/\TR st1=ZB/\(RH st1).size=1/\P9 κ (arrOf st1) o.size) (λx r st1 l1 l2 hI=>?stp) (λr st1 hI=>?fin) (.inl ⟨rfl,rfl,b⟩)) λr st1 hI=>?pst)
 case stp=>
  rcases hI with⟨rfl,rfl,b1⟩|⟨_,rfl,hI⟩
  .dsimp only;rw[if_neg (by omega)];simp only[RT,VP,VS];refine Px (Ia c ks b1 (On _) (by omega) λn st2 b2 n1 n2 so2=>?_);dsimp only;have fin:∀st3,SrtB k0 o st3->P9 κ (arrOf st3) o.size->(arrOf (VE st3 ((RH st3).push (0,o.size,0)))).Perm o/\TR (VE st3 ((RH st3).push (0,o.size,0)))=ZB ∧
     (RH (VE st3 ((RH st3).push (0,o.size,0)))).size=1/\P9 κ (arrOf (VE st3 ((RH st3).push (0,o.size,0)))) o.size:=λst3 b3 so3=>⟨b3.p,b3.f,by
    show((RH st3).push _).size=1;rw[b3.e];rfl,so3⟩
   by_cases g:n<o.size
   .rw[if_pos g];refine Px (wpS_lift (SQ ⟨rfl,Px (Ib c ks b2 (R9 h2) (On _) n2 so2 λst3 b3 so3=>?_)⟩));simp only[Bool.not_true,QF,if_false];refine Px (WC ?_);rw[show(RH st3).back?=ZB by rw[b3.e];rfl];exact Px (VD (Qg (.inr ⟨by omega,rfl,fin st3 b3 so3⟩)))
   .rw[if_neg g];obtain rfl:n=o.size:=by omega
    refine Px (WC ?_);rw[show(RH st2).back?=ZB by rw[b2.e];rfl];exact Px (VD (Qg (.inr ⟨by omega,rfl,fin st2 b2 so2⟩)))
  .dsimp only;rw[if_pos (On _)];exact Qg ⟨rfl,hI⟩
 case fin=>
  rcases hI with⟨h,_,_⟩|⟨_,hI⟩
  .omega
  .exact hI
 case pst=>
  obtain⟨rfl,hp,hf,he,hs⟩:=hI;dsimp only;refine Px (wpS_mono (Sv (I:=λ_ r st2=>st2=st1/\r=(ZB,())) (Q:=λr st2=>st2=st1/\r=(ZB,())) (λx r st2 _ _ hJ=>?stp) (λ_ _ h=>h) ⟨rfl,rfl⟩) λr st2 hJ=>?pst);case stp=>
   obtain⟨rfl,rfl⟩:=hJ;refine Px (WC ?_);rw[if_pos (RS he)];exact Qg ⟨rfl,rfl⟩
  case pst=>
   obtain⟨rfl,rfl⟩:=hJ;exact Qg (q _ hp hf hs)
end
def RowV(h:ZH)(v:N9)(ns:List Int):Prop:=∃a its,v=.ref a/\h.IsTuple a its/\QB its.toList ns/\ns≠ []
variable{h:ZH}
def RowV.inj{ms:List Int}(r:RowV h v ns)(q:RowV h v ms):ns=ms:=by obtain⟨a,its,rfl,⟨o,e,_,n,d⟩,i,_⟩:=r;obtain⟨b,jts,eb,⟨o',e',_,n',d'⟩,j,_⟩:=q;cases eb;rw[e]at e';cases e';rw[d]at d';cases d';rw[<-i.nums,<-j.nums]
noncomputable def pZ:N9->V
 |.ref a=>.ref a
 |_=>.non
theorem jN:∀{m:List T}{ns:List Int},iY m=ZA ns->m=ns.map .int
 |[],ns,h=>by cases h;rfl
 |t::m,ns,h=>by
  cases t with
  |int i=>
   unfold iY at h;obtain⟨k,h1,rfl⟩:=Qy.mp h;rw[jN h1];rfl
  |_=>cases h
variable (R:RK)
variable {R:RK}
theorem RK.key_of(r:R.V h v ns):R.key h v=ZA ns:=by unfold RK.key;have e:∃ns,R.V h v ns:=⟨ns,r⟩;rw[dif_pos e,R.inj e.choose_spec r]
theorem RK.NB(e:R.key h v=ZA ns):R.V h v ns:=by
 unfold RK.key at e;split at e
 .rename_i g;cases e;exact g.choose_spec
 .cases e
def RK.kind(R:RK)(h:ZH):PyProof.Rows.KeyKind:={α:=List Int,blt:=cj,irrefl:=jv,trans:=lD,negTrans:=vD,total:=lE,keyOf:=R.key h,dflt:=[]}
def RK.row(R:RK)(h:ZH)(v:N9):List Int:=(R.key h v).getD []
theorem RK.Np(r:R.V h v ns):R.row h v=ns:=by unfold RK.row;rw[RK.key_of r];rfl
theorem J2(v:N9):firstOfTuple' v=(typeOf v >>= λt=>if t != .type "tuple" then pure ZB else Builtin.List.listItems v >>= λxs=>pure xs[0]?):=rfl
theorem zI:∀{vs:List N9}{Q:List (Option N9)->Ob->Prop},(∀v∈vs,∃ns,R.V s.heap v ns)->(∀us ns,QB us ns->us.length=vs.length->Q (us.map ZA) s)->ZJ (ZK prog w) A (vs.mapM firstOfTuple') Q E s
 |[],Q,_,q=>by rw[List.mapM_nil];exact Ou (q [] [] .nil rfl)
 |v::vs,Q,h,q=>by rw[List.mapM_cons,J2];obtain⟨ns,r⟩:=h _ Oe;obtain⟨a,its,n,o,m,t,rfl,e,hc,d,e0⟩:=R.fst r;refine Od (Od (Su (T:="tuple") ⟨o,e,hc⟩ ?_));rw[if_neg (by decide+kernel)];refine Od (listItems_at e d (Ou ?_));rw[e0];exact Od (zI (λv hv=>h v (N8 _ hv)) λus ns j hl=>Ou (q (.int m t::us) (m::ns) (.cons m t j) (by rw[Og,Og,hl])))
theorem kk3{Q:Uy->Ob->Prop}(hv:∀v∈vs,∃ns,R.V s.heap v ns)(ne:vs≠ [])(q:Q (tuples' ZC) s):ZJ (ZK prog w) A (keyKind' vs.toArray) Q E s:=by
 rw[keyKind'_eq,Vw];refine Od ?_;rw[map_eq_pure_bind];refine Od (zI hv λus ns i hl=>Ou ?_);rw[if_pos (by simp)];refine Od (SQ ?_);have ef:(us.map ZA).toArray.filterMap id=us.toArray:=by simp
 rw[ef,oneTypeOnly'_eq,Vw,mapM_typeOf_ints i];cases i with
 |nil=>exact absurd (List.length_eq_zero_iff.mp hl.symm) ne
 |@cons m t us' ns' i'=>
  simp only[map_pure,pure_bind];have hall:((Wg (λ_=>Q1 "int") (PV m t::us')).toArray.all λx=>x == Q1 "int")=ZC:=by simp only[List.all_toArray,VO,OQ];intro _ _;rfl
  rw[show(Wg (λ_=>Q1 "int") (PV m t::us')).toArray[0]?=ZA (Q1 "int")by simp];simp only[hall,if_true,pure_bind];exact Ou q
theorem out3{o:Array WB}(hp:xs.Perm o)(hs:P9 (R.kind h) xs o.size):xs.toList.Perm o.toList/\(xs.toList.map λp=>R.row h p.1).Pairwise (λa b=>nU a b=ZC):=by
 refine⟨S9.mp hp,?_⟩;rw[Ti];intro i j hi hj hij;have hi':i<xs.size:=by simpa using hi
 have hj':j<xs.size:=by simpa using hj
 have z:cj (KK (R.kind h) xs j) (KK (R.kind h) xs i)=ZD:=hs i j (Qi hij) (by rw[<-hp.size_eq];exact hj');have g:∀k (hk:k<xs.size),KK (R.kind h) xs k=R.row h xs[k].1:=λk hk=>by unfold KK;rw[getElem?_pos xs k hk];rfl
 rw[g i hi',g j hj']at z;simp only[Sy,Array.getElem_toList];unfold nU;rw[z];rfl
theorem run3{ks:List N9}{Q:S2->Ob->Prop}(hu:A.units+60<cLine)(hl:ks.length=vs.length)(hk:∀v∈ks,∃ns,R.V s.heap v ns)(h2:2<=vs.length)(h64:vs.length<64)
  (q:∀st',TR st'=ZB->(arrOf st').toList.Perm (ks.zip vs)->((arrOf st').toList.map λp=>R.row s.heap p.1).Pairwise (λa b=>nU a b=ZC)->Q st' s):
  ZJ (ZK prog w) A ((sortRuns').run (SortSt.mk' (tuples' ZC) (ks.toArray.zip vs.toArray) #[] 7 ZB)) (λr s'=>Q r.2 s') E s:=by
 have hz:(ks.toArray.zip vs.toArray).size=vs.length:=by simp[hl]
 have hz2:(ks.toArray.zip vs.toArray).toList=ks.zip vs:=by simp
 have kso:PyProof.Rows.KeysOf (R.kind s.heap) (ks.toArray.zip vs.toArray):=λp hp=>by rw[hz2]at hp;obtain⟨ns,r⟩:=hk p.1 (Ro hp).1;exact⟨ns,RK.key_of r⟩
 refine PX (Ic (κ:=R.kind s.heap) (k0:=tuples' ZC) (o:=ks.toArray.zip vs.toArray) (st:=SortSt.mk' (tuples' ZC) (ks.toArray.zip vs.toArray) #[] 7 ZB)
  (Q:=λ_ st'=>(arrOf st').Perm (ks.toArray.zip vs.toArray)/\TR st'=ZB/\P9 (R.kind s.heap) (arrOf st') (ks.toArray.zip vs.toArray).size) (λE x y a b Q hx hy q=>R.lt hu (RK.NB hx) (RK.NB hy) q) kso ⟨Array.Perm.refl _,rfl,rfl,rfl⟩
  (by rw[hz];omega) (by rw[hz];exact h64) λst' a1 a2 a3=>⟨a1,a2,a3⟩) ?_ λ_ _ e=>e
 rintro ⟨⟨⟩,st'⟩ s' ⟨rfl,hp,hf,hs⟩;obtain⟨g1,g2⟩:=out3 hp hs;exact q st' hf (by rw[<-hz2];exact g1) g2
theorem ls3{a:ZE}{h0:ZH}{P:Fin->Ob->Prop}(hu:A.units+60<cLine)(ho:s.heap.get? a=ZA (seqObj "list" vs.toArray n))(ext:∀b o,h0.get? b=ZA o->b≠a/\s.heap.get? b=ZA o)(hv:∀v∈vs,∃ns,R.V h0 v ns)(h64:vs.length<64)
  (q:∀out:Array N9,out.toList.Perm vs->(out.toList.map (R.row h0)).Pairwise (λa b=>nU a b=ZC)->P (.done (.ret .none)) {s with heap:=sortedHeap s.heap a vs out}):
  ZJ (ZK prog w) A (Builtin.«list.sort» ⟨[.ref a],[]⟩) P E s:=by
 rw[list_sort_plain];have ha:=Os ho;refine Od (listItems_at ho rfl (Od (Vl ho rfl ?_)));have ho1:=get?_update_seq ho (λ_=>#[]);generalize hm:(if (#[]:Array N9).size == vs.toArray.size then n else n+1)=m at ho1;refine Od (WD ho1 rfl (Od (wpAny_newTuple (Od (wpAny_newList (R4 ?_))))));generalize hh:((s.heap.update a (SO λ_=>#[])).push (seqObj "tuple" vs.toArray 0)).push (seqObj "list" #[] 0)=h6;have old:∀b,b<s.heap.objs.size->h6.get? b=(s.heap.update a (SO λ_=>#[])).get? b:=λb hb=>by rw[<-hh,Tx _ _ _ (by rw[size_push',TZ];exact Pj (Tv hb)),Tx _ _ _ (by rw[TZ];exact Pj hb)]
 have ho6:h6.get? a=ZA (seqObj "list" #[] m):=(old a ha).trans ho1;have hrow:∀v ns,R.V h0 v ns->R.V h6 v ns:=λv ns r=>R.on r λb o e=>by obtain⟨nb,e'⟩:=ext b o e;rw[old b (Os e'),UR _ _ _ _ nb];exact e'
 have hv6:∀v∈vs,∃ns,R.V h6 v ns:=λv hm=>let ⟨ns,r⟩:=hv v hm;⟨ns,hrow v ns r⟩;have hrk:∀v∈vs,R.row h6 v=R.row h0 v:=λv hm=>by obtain⟨ns,r⟩:=hv v hm;rw[RK.Np r,RK.Np (hrow v ns r)]
 have fin:∀xs:Array WB,xs.toList.Perm (vs.zip vs)->(xs.toList.map λp=>R.row h6 p.1).Pairwise (λa b=>nU a b=ZC)->(xs.map (·.2)).size<=ZI+1/\P (.done (.ret .none)) {s with heap:=h6.update a (SO λ_=>xs.map (·.2))}:=λxs hp hs=>by
  have e:(xs.map (·.2)).toList=xs.toList.map (·.1):=by rw[Array.toList_map];exact PD λp hp'=>(mem_zip_self (hp.mem_iff.mp hp')).1.symm
  have g1:(xs.map (·.2)).toList.Perm vs:=by rw[e];have:=hp.map (·.1);rwa [List.map_fst_zip (On _)]at this
  refine⟨?_,?_⟩
  .have:=g1.length_eq;rw[PC]at this;rw[this,Qk];omega
  .have g2:((xs.map (·.2)).toList.map (R.row h0)).Pairwise (λa b=>nU a b=ZC):=by rw[PD λv hm=>(hrk v (g1.mem_iff.mp hm)).symm,e,RU];exact hs
   have:=q _ g1 g2;unfold sortedHeap at this;rw[hh]at this;exact this
 show ZJ (ZK prog w) A _ P E {s with heap:=h6};dsimp only;by_cases h2:vs.toArray.size<2
 .rw[if_pos h2,if_pos h2];obtain⟨f1,f2⟩:=fin (pairsOf vs) (by rw[pairsOf_toList]) (by
   have:(pairsOf vs).toList.length<=1:=by rw[pairsOf_toList,Wu,VP];rw[Ov]at h2;omega
   generalize (pairsOf vs).toList=l at this;cases l with
   |nil=>exact Ts
   |cons x r=>cases r with
    |nil=>exact List.pairwise_singleton _ _
    |cons y r=>simp at this)
  refine Od (Ou ?_);rw[StateT.run_pure];refine Od (Ou ?_);dsimp only;refine Od (WD ho6 rfl (Od (Vl ho6 rfl ?_ (hsz2:=f1))));simp only[bne_self_eq_false,QF,if_false];exact Ou f2
 .rw[if_neg h2,if_neg h2];rw[Ov]at h2;refine Od (kk3 (R:=R) hv6 (λz=>by subst z;exact h2 (by decide)) ?_);refine Od (PX (run3 (R:=R) (s:={s with heap:=h6}) (Q:=λst' s'=>s'= {s with heap:=h6}/\TR st'=ZB/\(arrOf st').toList.Perm (vs.zip vs)/\((arrOf st').toList.map λp=>R.row h6 p.1).Pairwise (λa b=>nU a b=ZC)) hu rfl hv6 (by omega) h64 λst' hf hp hs=>⟨rfl,hf,hp,hs⟩) (λr s' z=>?_) λ_ _ e=>e);obtain⟨es,hf,hp,hs⟩:=z;subst es;obtain⟨f1,f2⟩:=fin _ hp hs;refine Od (WD ho6 rfl (Od (Vl ho6 rfl ?_ (hsz2:=f1))));rw[hf];simp only[bne_self_eq_false,QF,if_false];exact Ou f2
theorem ER{I:ZE}{Q:W1}(hu:A.units+65<cLine)(hc:∀A':OY,A'.handled=A.handled->ZJ (ZK prog w) A' (collect (.ref I)) (λvs s1=>(∀v∈vs,∃ns,R.V s1.heap v ns)/\vs.length<64 ∧
   ∀out:Array N9,out.toList.Perm vs->(out.toList.map (R.row s1.heap)).Pairwise (λa b=>nU a b=ZC)->Q (.ref s1.heap.objs.size) {s1 with heap:=sortedHeap (s1.heap.push (seqObj "list" vs.toArray 0)) s1.heap.objs.size vs out}) E s):
  ZJ (ZK prog w) A (call (.builtin "sorted") [.ref I]) Q E s:=by
 refine Calls.call_function_entry kind_sorted plain_sorted entry_sorted (args_sorted1 _) ?_;unfold Builtin.«sorted»;refine Od (m:=checkCount "sorted" 1 1 _) (Ou (Od (PX (hc _ ?_) (λvs s1 ⟨hv,h64,q⟩=>Od (wpAny_newList ?_)) λ_ _ e=>e)))
 .rfl
 have hoL:(s1.heap.push (seqObj "list" vs.toArray 0)).get? s1.heap.objs.size=ZA (seqObj "list" vs.toArray 0):=OI _ rfl;show ZJ (ZK prog w) _ _ _ _ {s1 with heap:=s1.heap.push (seqObj "list" vs.toArray 0)};refine Od (R4 (Rc slot_list_sort ⟨_,hoL,rfl⟩ entry_list_sort (ls3 (R:=R) (h0:=s1.heap) (s:={s1 with heap:=s1.heap.push (seqObj "list" vs.toArray 0)}) ?_ hoL (λb o e=>⟨Pj (Os e),Om _ e⟩) hv h64 λout g1 g2=>⟨_,rfl,?_⟩) (args_list_sort _)))
 .show A.units+1+1+60<cLine;omega
 exact Ou ⟨_,rfl,q out g1 g2⟩
end Tr
namespace L2
open PySem PySem.Spec PyProof.Rows
def vR{b:Nat}:b∈ [n+4,n,n+1,n+2,n+3] ↔n<=b/\b<n+5:=by simp only[Oj,PF,or_false];omega
end L2
namespace Tr
open PySem PySem.Spec PyProof.Rows L2
def Wk(K:N7)(O:Ow)(H1:Hp)(l:List T)(v:V):Prop:=∃(aa:ZE)(tt:Bool)(ws:List V),v=.ref aa/\¬ O aa/\Reps K O H1 l ws/\El K H1 aa tt ws/\(∀P Hc,SameO P H1 Hc->¬ P aa->El K Hc aa tt ws)/\¬ Nw K H1 aa
noncomputable def c0(g:List T->Rs T)(_:En):Rs T:=match g []with
 |.ok t=>.ok t
 |_=>.bad
section
variable {X:Cx}{a b c:ZG}{fa fb fc:W5}{pos p2 p3:Pos}{x:Str}
def wj:CallR X (.type "list") (λxs H Q=>∃p ys,xs=[.ref p]/\SqL X.K H p ys/\∀l,Nw X.K H l->Q (.ref l) (upd H l (.lst ys))):=by
 intro kt s σ H xs us Q I r h;obtain⟨p,ys,rfl,hq,q⟩:=h;obtain⟨u,rfl,rx⟩:=i9 r;cases rx;obtain⟨its,r',pl,hz⟩:=I.list hq;have hlen:=r'.length;obtain⟨o,ho,hc,n,hd⟩:=pl.isList;have hk:X.K.lookup s.heap.objs.size=ZB:=by
  cases q:X.K.lookup s.heap.objs.size with
  |none=>rfl
  |some o=>exact absurd (Os (I.kIn _ o q)) (OU _)
 exact call_list_seq p (.inl rfl) ho hc hd (λh' c' kp e=>⟨.ref s.heap.objs.size,_,I.laid (t':=s.toks) kp (On _) (show ObjOk X.prog X.w _ h' _ (.lst ys)from⟨hz,its,c',r',e⟩),rfl,q _ ⟨I.hok.fresh (On _),hk⟩⟩) (by simp only[Ov] <;> omega)
end
end Tr
namespace PySem
open Sem (wp)
open L2 (itAt)
structure PW (prog:OM)(w:Pm)(A:OY)(I:ZE)(T:String)(fp wr:List ZE)(n:Nat)(R:Nat->N9->N9->Prop)(St:Nat->Option ZE->ZH->Prop):Prop where
 sub:∀b∈wr,b∈fp
 ty:∀i o (s:Ob),St i o s.heap->s.TypeIs (.ref I) T
 frame:∀i o h h',St i o h->(∀b∈fp,∀ob,h.get? b=ZA ob->h'.get? b=ZA ob)->St i o h'
 item:∀i o (s:Ob) (Q:Option N9->Ob->Prop) (E:W1),i<n->St i o s.heap->(∀t,o=ZA t->∃ob,s.heap.get? t=ZA ob) ->
  (∀p h' tk x y,R i x y->s.heap.objs.size<=p->IsPair h' p x y->St (i+1) (ZA (o.getD p)) h'->(∀b ob,b∉wr->s.heap.get? b=ZA ob->h'.get? b=ZA ob)->Q (ZA (.ref p)) {s with heap:=h',toks:=tk})->ZJ (ZK prog w) A (pyNext (.ref I)) Q E s
 done:∀o (s:Ob) (Q:Option N9->Ob->Prop) (E:W1),St n o s.heap->(∀t,o=ZA t->∃ob,s.heap.get? t=ZA ob)->(∀h' tk,(∀b ob,b∉wr->s.heap.get? b=ZA ob->h'.get? b=ZA ob)->Q ZB {s with heap:=h',toks:=tk})->ZJ (ZK prog w) A (pyNext (.ref I)) Q E s
 self:∀i o (s:Ob) (Q:W1) (E:W1),St i o s.heap->Q (.ref I) s->ZJ (ZK prog w) A (pyIter (.ref I)) Q E s
end PySem
variable{Q:Bool->Ob->Prop}
namespace Tr
open PySem PySem.Spec PyProof.Rows L2 PySem.W
def CH(t u:Int)(a b:List Int):cj (t::a) (u::b)=if t=u then cj a b else decide (t<u):=rfl
theorem Ga{a b:Int}{t u:Tok}(h:Q (decide (a<b)) s):∀k,ZJ (ZK prog w) A (oneLt' k (.int a t) (.int b u)) Q E s
 |true=>oneLt_int h
 |false=>by rw[oneLt'_eq];simp only[QF,if_false];exact Od (wpAny_lt_int (show ZJ (ZK prog w) A (truthOfDropped (.bool (decide (a<b)))) Q E s from PY h))
theorem vJ{fin:Bool}:∀{xs:List N9}{ns:List Int}(_:QB xs ns){ys:List N9}{ms:List Int}(_:QB ys ms)(i:Nat),fin=decide (xs.length<ys.length)->Q (cj ns ms) s->KatLex prog w A b fin Q (xs.zip ys) i s
 |_,_,.nil,_,_,.nil,i,hf,q=>kat_nil (by subst hf;exact q)
 |_,_,.nil,_,_,.cons _ _ _,i,hf,q=>kat_nil (by rw[hf,decide_eq_true (by simp)];exact q)
 |_,_,.cons _ _ _,_,_,.nil,i,hf,q=>kat_nil (by rw[hf,decide_eq_false (by simp)];exact q)
 |_,_,.cons n t r,_,_,.cons m u r2,i,hf,q=>by
  rw[CH]at q;refine kat_cons (Wa ?_);by_cases z:n=m
  .rw[beq_iff_eq.mpr z];rw[if_pos z]at q;exact kat_yes (vJ r r2 (i+1) (by rw[hf];simp) q)
  .rw[beq_eq_false_iff_ne.mpr z];rw[if_neg z]at q;exact kat_no (Ga q _)
def rkR:RK where
 V:=RowV
 inj:=RowV.inj
 on:=λ⟨a,its,e,⟨o,ho,hc⟩,i,ne⟩ up=>⟨a,its,e,⟨o,up _ _ ho,hc⟩,i,ne⟩
 fst:=λ⟨a,its,e,⟨o,ho,hc,n,hd⟩,i,ne⟩=>by
  obtain⟨xs⟩:=its;cases i with
  |nil=>exact absurd rfl ne
  |cons m t r=>exact⟨a,_,n,o,m,t,e,ho,hc,hd,rfl⟩
 lt:=λ{prog w A s E x y a b Q} hu ⟨xa,xi,ex,⟨xo,xp,_,xn,xd⟩,xi',_⟩ ⟨ya,yi,ey,⟨yo,yp,_,yn,yd⟩,yi',_⟩ q=>by subst ex ey;exact kat_lt xp xd yp yd (vJ xi' yi' 0 (by rw[PC,PC]) q)
variable{H:Hp}{O:Ow}{X:Cx}{h:ZH}{kt:W2}{σ:L2.St}
theorem uZ(I:Inv X kt σ H s):∀{l:List T}{k:List (List Int)}{vs:List V}{us:List N9},rowsT l=ZA k->Reps X.K O H l vs->Vals vs us ->
  us.map (rkR.row s.heap)=k/\∀u∈us,RowV s.heap u (rkR.row s.heap u)/\RelV (pZ u) u/\Rep X.K O H (.tup ((rkR.row s.heap u).map .int)) (pZ u)
 |[],k,vs,us,h,r,v=>by cases Reps.Da.mp r;cases v;cases h;exact⟨rfl,λu hu=>by cases hu⟩
 |t::l,k,vs,us,h,r,v=>by
  obtain⟨x,xs,rfl,p,q⟩:=Reps.me.mp r;cases v with
  |@cons _ u _ us' v1 v2=>
   cases t with
   |tup m=>
    unfold rowsT at h;split at h
    .rename_i ns k' h1 h2;by_cases ne:ns=[]
     .rw[if_pos ne]at h;cases h
     .rw[if_neg ne]at h;cases h;obtain⟨e1,e2⟩:=uZ I h2 q v2;obtain⟨a,ws,rfl,_,g3,g4⟩:=Rep.Fk.mp p;obtain rfl:u=OF a:=v1;obtain⟨its,w1,t1,_⟩:=I.tuple (SqT.of g3);have hi:=fW h1 g4 w1;obtain⟨o,ho,hc,n,hd⟩:=t1;have row:RowV s.heap (.ref a) ns:=⟨a,_,rfl,⟨o,ho,hc,n,hd⟩,by simpa using hi,ne⟩;have em:m=ns.map .int:=jN h1;subst em;refine⟨by rw[Of,e1,RK.Np (R:=rkR) row],λu hu=>?_⟩;rcases Oj.mp hu with rfl|hu
      .rw[RK.Np (R:=rkR) row];exact⟨row,rfl,p⟩
      .exact e2 u hu
    .cases h
   |_=>cases h
theorem ox:∀{us:List N9},(∀u∈us,RelV (pZ u) u/\Rep K O H (.tup ((rkR.row h u).map .int)) (pZ u))->Vals (us.map pZ) us/\Reps K O H (us.map λu=>.tup ((rkR.row h u).map .int)) (us.map pZ)
 |[],_=>⟨.nil,Reps.GM⟩
 |u::us,hu=>by obtain⟨h1,h2⟩:=hu u Oe;obtain⟨g1,g2⟩:=ox λv hv=>hu v (N8 _ hv);exact⟨.cons h1 g1,Reps.me.mpr ⟨_,_,rfl,h2,g2⟩⟩
def xZ(hu:X.A.units+70<cLine):CallT X (.builtin "sorted") uR:=by
 intro kt s σ H O ts vs us Q I hf rs rv hp;unfold uR at hp;split at hp
 .rename_i l;obtain⟨v,rfl,r⟩:=rs.one;split at hp
  .rename_i k hk;by_cases h64:k.length<64
   .rw[if_pos h64]at hp;obtain⟨a,ws,rfl,n,q,z⟩:=Rep.Do.mp r;obtain⟨u,rfl,ru⟩:=i9 rv;obtain rfl:u=OF a:=ru;obtain⟨its,r',pl,hz⟩:=I.list (SqL.of q);obtain⟨e1,e2⟩:=uZ I hk z r';have hz1:((s.heap.push (seqObj "list" #[] 0)).update s.heap.objs.size (SO (· ++its.toArray))).objs.size=s.heap.objs.size+1:=by rw[TZ,Qn]
    have keep:∀b o,s.heap.get? b=ZA o->((s.heap.push (seqObj "list" #[] 0)).update s.heap.objs.size (SO (· ++its.toArray))).get? b=ZA o:=λb o e=>by have nb:b≠s.heap.objs.size:=Pj (Os e);rw[UR _ _ _ _ nb,Tx _ _ _ nb];exact e
    refine ER (R:=rkR) (by omega) λA' _=>collect_list pl.isList ⟨λv hv=>⟨_,rkR.on (e2 v hv).1 keep⟩,by rw[<-Oa (rkR.row s.heap),e1];exact h64,λout g1 g2=>?_⟩ (by rw[<-Oa (rkR.row s.heap),e1,Qk];omega);rw[PD λv hm=>show _=rkR.row s.heap v from RK.Np (R:=rkR) (rkR.on (e2 v (g1.mem_iff.mp hm)).1 keep)]at g2;dsimp only;rw[hz1];have g3:=BG (e1▸g1.map (rkR.row s.heap)) g2;obtain⟨k1,k2⟩:=ox (us:=out.toList) (K:=X.K) (O:=O) (H:=H) (h:=s.heap) λu hu=>(e2 u (g1.mem_iff.mp hu)).2;obtain⟨e,he⟩:=sortedAll_at s.heap its out;have hfr:H (s.heap.objs.size+1)=ZB:=I.hok.fresh (Nat.le_succ _);refine⟨.ref (s.heap.objs.size+1),_,I.laid (t':=s.toks) (λ_ _=>sortedAll_old) (Nat.le_succ _) (show ObjOk X.prog X.w _ _ _ (.lst (out.toList.map pZ))from⟨?_,out.toList,e,k1,he⟩),rfl,hp _ (aU hfr _) _ ?_⟩
    .rw[Oa,g1.length_eq,<-Oa (rkR.row s.heap),e1,Qk];omega
    .have:=jh (p:=s.heap.objs.size+1) hfr (hf _ hfr) k2;rw[<-g3,RU];exact this
   .rw[if_neg h64]at hp;exact hp.elim
  .exact hp.elim
 .exact hp.elim
inductive Fx where
 |nx (Z:En)|rt (t:T) (Z:En)
noncomputable def kf{α:Type}(f:Str):List Str->List α->Option α
 |n::ns,l::ls=>if n=f then ZA l else kf f ns ls
 |_,_=>ZB
noncomputable def jz(f:Str)(l':List T):List Str->List (List T)->List (List T)
 |n::ns,l::ls=>if n=f then l'::ls else l::jz f l' ns ls
 |_,ls=>ls
noncomputable def nG(c f:Str):T->Rs T
 |.ob c' ns ts=>if c'=c then(match kf f ns ts with|some t=>.ok t|none=>.bad)else .bad
 |_=>.bad
noncomputable def mO(c m:Str)(g:List T->Rs T)(fo:W5)(fs:W3)(Z:En):Rs T:=do
 let o <-fo Z
 match o with
 |.ob c' ns ts=>if c'=c/\ns.contains m=ZD then fs Z >>= λl=>g (.ob c' ns ts::l)else .bad
 |_=>.bad
noncomputable def xP(f:W5)(Z:En):Rs (T×En):=f Z >>= λt=>.ok (t,Z)
noncomputable def wN(i:Nat)(c f:Str)(fa:W5)(Z:En):Rs (T×En):=match Z[i]? with
 |some (.ow (.ob c' ns ls))=>if c'=c then(match kf f ns ls with
  |some l=>fa Z >>= λt=>if l.length<ZI then .ok (.non,Z.set i (.ow (.ob c' ns (jz f (l++[t]) ns ls))))else .bad
  |none=>.bad)else .bad
 |_=>.bad
noncomputable def EE(i:Nat)(c f:Str)(Z:En):Rs (T×En):=match Z[i]? with
 |some (.ow (.ob c' ns ls))=>if c'=c then(match kf f ns ls with
  |some l=>(match l.getLast? with
   |some t=>.ok (t,Z.set i (.ow (.ob c' ns (jz f l.dropLast ns ls))))
   |none=>.bad)
  |none=>.bad)else .bad
 |_=>.bad
noncomputable def Bp(i:Nat)(Z:En):Rs (T×OT)->Rs (T×En)
 |.ok p=>.ok (p.1,Z.set i (.ow p.2))
 |.err c=>.err c
 |.bad=>.bad
noncomputable def dU(i:Nat)(c m:Str)(g:List Sl->Rs (T×OT))(fs:W3)(Z:En):Rs (T×En):=match Z[i]? with
 |some (.ow (.ob c' ns ls))=>if c'=c/\ns.contains m=ZD then fs Z >>= λts=>Bp i Z (g (.ow (.ob c' ns ls)::ts.map Sl.va))else .bad
 |_=>.bad
noncomputable def wM(i:Nat)(g:List Sl->Rs (T×OT))(fs:W3)(Z:En):Rs (T×En):=match Z[i]? with
 |some (.ow o)=>fs Z >>= λts=>Bp i Z (g (ts.map Sl.va++[.ow o]))
 |_=>.bad
noncomputable def eY(n:Nat)(sls:List Sl):En:=sls++OK (n - sls.length) Sl.em
noncomputable def qv(j:Nat):Fx->Rs (T×OT)
 |.nx Z=>match Z[j]? with
  |some (.ow o)=>.ok (.non,o)
  |_=>.bad
 |.rt t Z=>match Z[j]? with
  |some (.ow o)=>.ok (t,o)
  |_=>.bad
noncomputable def gW(n j m:Nat)(F:En->Rs Fx)(sls:List Sl):Rs (T×OT):=if sls.length=n then F (eY m sls) >>= qv j else .bad
noncomputable def LQ{α:Type}:Rs α->Rs α
 |.err _=>.bad
 |r=>r
noncomputable def mN(Z:En):Rs Fx:=.ok (.nx Z)
noncomputable def jt(F G:En->Rs Fx)(Z:En):Rs Fx:=match F Z with
 |.ok (.nx Z')=>LQ (G Z')
 |r=>r
noncomputable def wH(x:En->Rs (T×En))(Z:En):Rs Fx:=x Z >>= λp=>.ok (.nx p.2)
noncomputable def lC(x:En->Rs (T×En))(Z:En):Rs Fx:=x Z >>= λp=>.ok (.rt p.1 p.2)
noncomputable def Ei(i:Nat)(x:En->Rs (T×En))(Z:En):Rs Fx:=x Z >>= λp=>if i<p.2.length then .ok (.nx (p.2.set i (.va p.1)))else .bad
noncomputable def AF(f:W6)(F G:En->Rs Fx)(Z:En):Rs Fx:=f Z >>= λk=>if k then F Z else G Z
noncomputable def JC(c:Str)(_:En):Rs Fx:=.err c
noncomputable def vC(i:Nat)(c f:Str)(fs:W3)(Z:En):Rs Fx:=match Z[i]? with
 |some (.ow (.ob c' ns ls))=>fs Z >>= λl=>if c'=c/\l.length<=ZI/\ns.length<1000 then
   .ok (.nx (Z.set i (.ow (if ns.contains f then .ob c' ns (jz f l ns ls)else .ob c' (ns++[f]) (ls++[l])))))else .bad
 |_=>.bad
noncomputable def pA(F:En->Rs Fx)(h:Str->Rs T)(Z:En):Rs Fx:=match F Z with
 |.err c=>(match h c with
  |.ok t=>.ok (.rt t Z)
  |_=>.bad)
 |r=>r
noncomputable def ua(c:Str)(t:T)(d:Str):Rs T:=if d=c then .ok t else .bad
noncomputable def w8(x:En->Rs (T×En))(Z:En):Rs Fl:=x Z >>= λp=>.ok (.nx p.2)
noncomputable def oO(i:Nat)(c:Str)(g:List Sl->Rs (T×OT))(fs:W3)(Z:En):Rs Fl:=fs Z >>= λts=>LQ (g (.ow (.ob c [] [])::ts.map Sl.va)) >>= λp=>match p.1 with
 |.non=>if i<Z.length then .ok (.nx (Z.set i (.ow p.2)))else .bad
 |_=>.bad
noncomputable def Di(f:W3)(Z:En):Rs (List T):=f Z >>= λx=>match x with
 |[.lst l] =>.ok l.reverse
 |_=>.bad
abbrev one(j:Nat)(m:Ow):Mn:=noM.set j m
abbrev BM(B m:Ow):Ow:=λa=>B a\/m a
variable{a:ZE}{m:Ow}
def one_u:(one j m).u a↔m a:=⟨λz=>(Mn.FM z).elim id λ⟨_,w⟩=>w.elim,λz=>⟨j,by unfold one;rw[Mn.KF];exact z⟩⟩
variable{B:Ow}
def one_oo:OO B (one j m) a↔BM B m a:=or_congr Rj one_u
variable{M:Mn}{Z:En}{o':OT}{v:V}
section
variable {H':Hp}{o:OT}
def Ev.old(E:Ev K B M H Z σ)(w:Nw K H a):¬ OO B M a:=λz=>by obtain⟨o,e⟩:=(E.env.trk a z).some;rw[w.1]at e;cases e
def Ev.back(E:Ev K B M H Z σ)(hi:Z[i]?=ZA (.ow o))(hs:σ[i]?=ZA (ZA v))(s:SameO (M i) H H')(r:ORep K (OO B (M.set i m)) m H' o' v)(hm:∀a,m a->M i a\/Nw K H a):
  Ev K B (M.set i m) H' (Z.set i (.ow o')) σ/\SameO M.u H H'/\∀a,(M.set i m).u a->M.u a\/Nw K H a:=by
 have hl:i<Z.length:=(Ol.mp hi).1;have sub:∀a,(M.set i m).u a->M.u a\/Nw K H a:=λa z=>(Mn.FM z).elim (λw=>(hm a w).imp_left λy=>⟨i,y⟩) .inl;have subO:∀a,OO B (M.set i m) a->OO B M a\/Nw K H a:=λa z=>z.elim (λw=>.inl (.inl w)) λw=>(sub a w).elim (λy=>.inl (.inr y)) .inr;have inO:∀a,M i a->OO B M a\/Nw K H a:=λa z=>.inl (.inr ⟨i,z⟩);refine⟨⟨⟨by rw[OZ];exact E.env.len,λj t e=>?_,λj o2 e=>?_,λj a z=>.inr ⟨j,z⟩,λj k a z1 z2=>?_,λa z=>?_⟩,λa z hb=>?_⟩,λb u e n=>s b u e λz=>n ⟨i,z⟩,sub⟩
 .by_cases hj:i=j
  .subst hj;rw[Oz hl]at e;cases e
  .rw[Oy hj]at e;obtain⟨w,e1,e2⟩:=E.env.val j t e;exact⟨w,e1,e2.move inO subO s⟩
 .by_cases hj:i=j
  .subst hj;rw[Oz hl]at e;cases e;exact⟨v,hs,by rw[Mn.KF];exact r⟩
  .rw[Oy hj]at e;obtain⟨w,e1,e2⟩:=E.env.own j o2 e;refine⟨w,e1,?_⟩;rw[Mn.Nc (λz=>hj z.symm)];exact e2.move inO subO s λa z y=>hj (E.env.dis i j a y z)
 .unfold Mn.set at z1 z2;by_cases hj:j=i
  .by_cases hk:k=i
   .exact hj.trans hk.symm
   .rw[if_pos hj]at z1;rw[if_neg hk]at z2;exact(hm a z1).elim (λw=>(hk (E.env.dis k i a z2 w)).elim) λw=>(E.old w (.inr ⟨k,z2⟩)).elim
  .by_cases hk:k=i
   .rw[if_neg hj]at z1;rw[if_pos hk]at z2;exact(hm a z2).elim (λw=>(hj (E.env.dis j i a z1 w)).elim) λw=>(E.old w (.inr ⟨j,z1⟩)).elim
   .rw[if_neg hj]at z1;rw[if_neg hk]at z2;exact E.env.dis j k a z1 z2
 .rcases z with z|⟨j,z⟩
  .exact(E.env.trk a (.inl z)).at λo e=>s _ _ e λw=>E.mine a ⟨i,w⟩ z
  .unfold Mn.set at z;by_cases hj:j=i
   .rw[if_pos hj]at z;exact r.mtb a z
   .rw[if_neg hj]at z;exact(E.env.trk a (.inr ⟨j,z⟩)).at λo e=>s _ _ e λw=>hj (E.env.dis j i a z w)
 .rcases Mn.FM z with w|w
  .exact(hm a w).elim (λy=>E.mine a ⟨i,y⟩ hb) λy=>E.old y (.inl hb)
  .exact E.mine a w hb
end
variable{apos cpos p3 pos:Pos}{c x:Str}{e:ZG}{es:List ZG}{fa:W5}{l:List T}
section
variable {a:ZG}{fs:W3}{p2:Pos}{f:Str}
def PostX(X:Cx)(B P:Ow)(σ:L2.St)(H:Hp)(r:Rs (T×En))(Q:VK):Prop:=match r with
 |.ok p=>∀v H' M',SameO P H H'->Ev X.K B M' H' p.2 σ->(∀a,M'.u a->P a\/Nw X.K H a)->Rep X.K (OO B M') H' p.1 v->Q v H'
 |.err c=>XA X ko H c
 |.bad=>False
def tX(X:Cx)(f:En->Rs (T×En)):TE:=λσ H Q=>∃Z B M,Ev X.K B M H Z σ/\PostX X B M.u σ H (f Z) Q
abbrev Em(X:Cx)(e:ZG)(f:En->Rs (T×En)):Prop:=PE X e (tX X f)
def HP(h:cm X a fa):Em X a (xP fa):=PE.imp h λσ H Q hh_=>by
 obtain⟨Z,B,M,E,q⟩:=hh_;refine⟨Z,OO B M,E.o,?_⟩;unfold xP at q;cases z:fa Z with
 |bad=>rw[z]at q;exact q
 |err c=>rw[z]at q;exact q
 |ok t=>
  rw[z,ax]at q;exact λH' s v r=>q v H' M (SameO.of s) (E.same s) (λ_ w=>.inl w) r
theorem Dl:∀{fs:List (Str×V)}{ts:List T}{t:T},kf f (fs.map (·.1)) ts=ZA t->Reps K O H ts (fs.map (·.2))->∃v,fs.lookup f=ZA v/\Rep K O H t v
 |[],ts,t,h,_=>by cases h
 | (n,w)::fs,[],t,h,_=>by cases h
 | (n,w)::fs,u::ts,t,h,r=>by
  obtain⟨w',ws,e,p,q⟩:=Reps.me.mp r;cases e;have h':(if n=f then ZA u else kf f (fs.map (·.1)) ts)=ZA t:=h;rw[Pg];by_cases z:n=f
  .subst z;rw[if_pos rfl]at h';cases h';exact⟨w,by rw[beq_self_eq_true],p⟩
  .rw[if_neg z]at h';rw[beq_eq_false_iff_ne.mpr (Ra z)];exact Dl h' q
def Lw(hc:Cls X.K (bS X.K c))(hn:NoAttr X.K (bS X.K c) f)(ha:cm X a fa)(hb:autoParam (OR a f X.env (eval a X.env)=eval a X.env) u_):cm X (.Attribute a f pos) (o1 (nG c f) fa):=PE.imp (xh ha hb) λσ H Q hh_=>by
 obtain⟨Z,O,E,h⟩:=hh_;refine yC (aY (k:=nG c f) E h) λv H' ⟨t,r,s,E',q⟩=>?_;cases t with
 |ob c' ns ts=>
  unfold nG at q;dsimp only at q;split at q
  .rename_i hcc;subst hcc;obtain⟨b,dx,fs,e1,e2,e3,e4,e5⟩:=Rep.Nh.mp r;subst e4;split at q
   .rename_i t ht;obtain⟨w,l1,l2⟩:=Dl ht e5;exact⟨b,_,dx,fs,w,e1,e3,hc,hn,l1,q H' (Same.refl _) w l2⟩
   .exact q.elim
  .exact q.elim
 |_=>exact q.elim
theorem xU:∀{ns:List Str}{as:List ZE}{ls:List (List T)}{l:List T},kf f ns ls=ZA l->LsR K O H ls as->ns.length=as.length->as.Nodup ->
  ∃b vs,(ns.zip (as.map V.ref)).lookup f=ZA (.ref b)/\b∈as/\H b=ZA (.lst vs)/\Reps K O H l vs/\∀(l':List T)(vs':List V),O b->Reps K O H l' vs'->LsR K O (upd H b (.lst vs')) (jz f l' ns ls) as
 |[],as,ls,l,h,_,_,_=>by cases ls <;> cases h
 |n::ns,[],ls,l,h,_,hl,_=>by cases hl
 |n::ns,b::as,[],l,h,_,_,_=>by cases h
 |n::ns,b::as,u::ls,l,h,r,hl,nd=>by
  obtain⟨b',bs,vs,e1,e2,e3,e4⟩:=r;cases e1;have nb:b∉as:=(O4.mp nd).1;have h':(if n=f then ZA u else kf f ns ls)=ZA l:=h;show ∃c ws,((n,V.ref b)::ns.zip (as.map V.ref)).lookup f=_/\_;rw[Pg];have keep:∀(c:ZE)(vs':List V),O c->∀{t:List T}{ws:List V},Reps K O H t ws->Reps K O (upd H c (.lst vs')) t ws:=λc vs' hc t ws q=>Reps.keep (P:=λa=>a=c) (λd o e n=>by rw[aI n];exact e) (λa z=>z▸hc) q;by_cases z:n=f
  .subst z;rw[if_pos rfl]at h';cases h';refine⟨b,vs,by rw[beq_self_eq_true],Oe,e2,e3,λl' vs' ob rl=>?_⟩;show LsR K O _ (if n=n then l'::ls else _) _;rw[if_pos rfl];refine⟨b,as,vs',rfl,aM,keep _ _ ob rl,?_⟩;clear h hl nd e3 e2;induction ls generalizing as with
   |nil=>exact e4
   |cons w ls ih=>
    obtain⟨c,cs,ws,f1,f2,f3,f4⟩:=e4;subst f1;exact⟨c,cs,ws,rfl,by rw[aI (λy=>nb (by rw[<-y];exact Oe))];exact f2,keep _ _ ob f3,ih cs f4 λy=>nb (N8 _ y)⟩
  .rw[if_neg z]at h';rw[beq_eq_false_iff_ne.mpr (Ra z)];obtain⟨d,ws,g1,g2,g3,g4,g5⟩:=xU h' e4 (by simpa using hl) (O4.mp nd).2;refine⟨d,ws,g1,N8 _ g2,g3,g4,λl' vs' od rl=>?_⟩;show LsR K O _ (if n=f then l'::ls else u::jz f l' ns ls) _;rw[if_neg z];exact⟨b,as,vs,rfl,by rw[aI (λy=>nb (by rw[y];exact g2))];exact e2,keep _ _ od e3,g5 l' vs' od rl⟩
def Ev.putF{ns:List Str}{ls:List (List T)}(E:Ev K B M H Z σ)(hi:Z[i]?=ZA (.ow (.ob c ns ls)))(hf:kf f ns ls=ZA l):
  ∃p dx fs b vs,σ[i]?=ZA (ZA (.ref p))/\H p=ZA (.ins (bS K c) dx fs)/\fs.lookup f=ZA (.ref b)/\H b=ZA (.lst vs)/\Reps K (OO B M) H l vs/\∀(l':List T)(vs':List V),Reps K (OO B M) H l' vs' ->
   Ev K B M (upd H b (.lst vs')) (Z.set i (.ow (.ob c ns (jz f l' ns ls)))) σ/\SameO M.u H (upd H b (.lst vs')):=by
 obtain⟨v0,s0,p,dx,as,e1,e2,⟨n1,n2,n3,n4⟩,e4,e5,e6,e7,e8⟩:=E.env.own i _ hi;subst e1;obtain⟨b,vs,g1,g2,g3,g4,g5⟩:=xU hf e8 e6 n4;have Mb:M i b:=(e2 b).mpr (.inr (.inr g2));refine⟨p,dx,_,b,vs,s0,e4,g1,g3,g4,λl' vs' rl=>?_⟩;have sm:SameO (M i) H (upd H b (.lst vs')):=λd u e nb=>by rw[aI (λz=>nb (by rw[z];exact Mb))];exact e
 refine E.put hi s0 sm ⟨p,dx,as,rfl,e2,⟨n1,n2,n3,n4⟩,?_,?_,e6,e7,g5 l' vs' (.inr ⟨i,Mb⟩) rl⟩
 .rw[aI (pz e4 g3 (λz=>nomatch z))];exact e4
 .rw[aI (pz e5 g3 (λz=>nomatch z))];exact e5
def KJ(i:Nat)(hc:Cls X.K (bS X.K c))(hn:NoAttr X.K (bS X.K c) f)(ha:cm X a fa)(hN:autoParam (X.N[i]?=ZA x) u_)(hv:autoParam (kA X.env.scope x) v_)(hs:autoParam (a9 a=ZC) u_)
  (hb1:autoParam (OR (.Name x p2) f X.env (eval (.Name x p2) X.env)=eval (.Name x p2) X.env) u_)
  (hbase:autoParam (OR (.Attribute (.Name x p2) f p3) "append" X.env (eval (.Attribute (.Name x p2) f p3) X.env)=eval (.Attribute (.Name x p2) f p3) X.env) u_) (hline:autoParam ((apos.endLine == cpos.line)=ZC) u_)
  (hd:autoParam ((x == ("__debug__" : Str))=ZD) s_) (hcd:autoParam ((x == ("__classdict__" : Str))=ZD) s_):Em X (.Call (.Attribute (.Attribute (.Name x p2) f p3) "append" apos) [a] [] cpos) (wN i c f fa):=by
 have h1:Oq [a] X.env=(ZD,eval a X.env)::Oq [] X.env:=aS hs;refine PE.imp (yW PH RN RO jR (xh (dB hN hv hd hcd) hb1) (cN ha fG h1) hbase (by rw[h1];rfl) hline h1 rfl) λσ H Q ⟨Z,B,M,E,h⟩=>?_;unfold wN at h;split at h
 .rename_i c' ns ls hl;split at h
  .rename_i hcc;subst hcc;split at h
   .rename_i l hf;obtain⟨p,dx,fs,b,vs,s0,e1,e2,e3,e4,k⟩:=E.putF hl hf;refine⟨.ref p,s0,p,_,dx,fs,.ref b,rfl,e1,hc,hn,e2,.inl ⟨rfl,vs,SqL.of e3⟩,Z,OO B M,E.o,?_⟩;cases q:fa Z with
    |bad=>rw[q]at h;exact h.elim
    |err c=>rw[q]at h;exact h
    |ok t=>
     rw[q,ax]at h;split at h
     .rename_i hz;intro H1 s1 v r;obtain⟨p',dx',fs',b',vs',s0',e1',e2',e3',e4',k'⟩:=(E.same s1).putF hl hf;cases s0.symm.trans s0';have z1:=(s1 _ _ e1).symm.trans e1';cases z1;cases e2.symm.trans e2';have z3:=(s1 _ _ e3).symm.trans e3';cases z3;obtain⟨g1,g2⟩:=k' (l++[t]) (vs++[v]) (e4'.append (Reps.Gc r Reps.GM));exact⟨b,vs,v,rfl,rfl,e3',by rw[<-e4.length];exact hz,h .non _ M (λc o e nb=>g2 c o (s1 _ _ e) nb) g1 (λc z=>.inl z) Rep.NC⟩
     .exact h.elim
   .exact h.elim
  .exact h.elim
 .exact h.elim
def KH(i:Nat)(hc:Cls X.K (bS X.K c))(hn:NoAttr X.K (bS X.K c) f)(hN:autoParam (X.N[i]?=ZA x) u_)(hv:autoParam (kA X.env.scope x) v_)
  (hb1:autoParam (OR (.Name x p2) f X.env (eval (.Name x p2) X.env)=eval (.Name x p2) X.env) u_)
  (hbase:autoParam (OR (.Attribute (.Name x p2) f p3) "pop" X.env (eval (.Attribute (.Name x p2) f p3) X.env)=eval (.Attribute (.Name x p2) f p3) X.env) u_) (hline:autoParam ((apos.endLine == cpos.line)=ZC) u_)
  (hd:autoParam ((x == ("__debug__" : Str))=ZD) s_) (hcd:autoParam ((x == ("__classdict__" : Str))=ZD) s_):Em X (.Call (.Attribute (.Attribute (.Name x p2) f p3) "pop" apos) [] [] cpos) (EE i c f):=by
 refine PE.imp (Je PH PySem.F.slot_list_pop PySem.F.type_list_pop Jy (xh (dB hN hv hd hcd) hb1) hbase hline) λσ H Q ⟨Z,B,M,E,h⟩=>?_;unfold EE at h;split at h
 .rename_i c' ns ls hl;split at h
  .rename_i hcc;subst hcc;split at h
   .rename_i l hf;split at h
    .rename_i t ht;obtain⟨p,dx,fs,b,vs,s0,e1,e2,e3,e4,k⟩:=E.putF hl hf;have hlen:=e4.length;have hne:l≠ []:=λz=>by rw[z]at ht;cases ht
     rw[List.getLast?_eq_getElem?]at ht;obtain⟨w,w1,w2⟩:=e4.get ht;rw[hlen]at w1;obtain⟨g1,g2⟩:=k l.dropLast vs.dropLast (by rw[Uh,Uh,hlen];exact e4.take _);refine⟨.ref p,s0,p,_,dx,fs,.ref b,rfl,e1,hc,hn,e2,.inl ⟨rfl,vs,SqL.of e3⟩,b,vs,w,rfl,rfl,e3,w1,?_⟩;refine h w _ M g2 g1 (λc z=>.inl z) (w2.keep (P:=λa=>a=b) (λd o e n=>by rw[aI n];exact e) λa z=>?_);obtain⟨v0,s1,p',dx',as,f1,f2,f3,f4,f5,f6,f7,f8⟩:=E.env.own i _ hl;rw[f1]at s1;cases s0.symm.trans s1;cases e1.symm.trans f4;obtain⟨b2,vs2,y1,y2,_⟩:=xU hf f8 f6 f3.2.2.2;rw[e2]at y1;cases y1;exact .inr ⟨i,(f2 a).mpr (.inr (.inr (z▸y2)))⟩
    .exact h.elim
   .exact h.elim
  .exact h.elim
 .exact h.elim
end
variable{m:Str}
theorem nT:∀{fs:List (Str×V)},(fs.map (·.1)).contains m=ZD->fs.lookup m=ZB
 |[],_=>rfl
 | (n,v)::fs,h=>by rw[Of,Pt,UB]at h;rw[Pg,h.1];exact nT h.2
variable{f:ZE}{fo:W5}{ps:List Str}
section
variable {o:ZG}{fs:W3}{p2:Pos}
def Fq{pl:Sem Bool}{g:List T->Rs T}(hc:Cls X.K (bS X.K c))(hm:wt X.K (bS X.K c) m f)(F:Er X.prog X.w X.K X.mg X.base k f fd ps 1 g)(hr:Room k X.A)(hb:Binds X.K fd ps [])(hps:ps.length=1)(ho:cm X o fo)
  (ht:eval (.Call (.Attribute o m apos) [] [] pos) X.env=(do
   let ov <-eval o X.env
   standAt apos.atName
   let (f,first) <-holding [ov] (Sr ov m pl)
   TU pos f first (backTo pos (Oq [] X.env)) (Se pos (QV [] X.env))):=by rfl):cm X (.Call (.Attribute o m apos) [] [] pos) (mO c m g fo aj):=by
 intro kt s σ H Q I ⟨Z,O,E,hq⟩;refine Sg (pl:=pl) (bR (ho kt s σ H _ I (aY E hq)) λu s1 ⟨v,H1,I1,rx,t,r,sm,E1,q⟩=>?_) ht;cases t with
 |ob c' ns ts=>
  dsimp only at q;split at q
  .rename_i hcc;obtain⟨h1,h2⟩:=hcc;subst h1;obtain⟨p,dx,fs',rfl,n,e3,e4,e5⟩:=Rep.Nh.mp r;obtain rfl:u=.ref p:=rx;subst e4;refine kN I1 e3 hc hm (nT h2) ?_;exact UM (first:=[.ref p]) I1.kIn hm.kp (K9 (us:=[.ref p]) (vs:=[.ref p]) F hr hb hps I1 (.cons rfl .nil) (Reps.Gc r Reps.GM) E1.mtb rfl q)
  .exact q.elim
 |_=>exact q.elim
end
def spE(K:N7)(n j:Nat)(g:List Sl->Rs (T×OT)):Sp:=λvs H Q _=>∃sls B m v,Ev K B (one j m) H sls (vs.map ZA)/\sls.length=n/\vs[j]?=ZA v ∧
 match g sls with
 |.ok p=>∀u H' m',SameO m H H'->ORep K (BM B m') m' H' p.2 v->(∀a,m' a->m a\/Nw K H a)->Rep K (BM B m') H' p.1 u->Q u H'
 |_=>False
def FnXE(P:OM)(w:Pm)(K:N7)(mg:W0)(base:ZH)(k:Nat)(f:ZE)(fd:Pu)(ps:List Str)(n j:Nat)(g:List Sl->Rs (T×OT)):Prop:=
 ∀(A:OY)(outer:List Env)(s:Ob)(H:Hp)(args:Args)(us:List N9)(vs:List V)(B m:Ow)(sls:List Sl)(c:Str)(R:Vc->Ob->Prop),Room k A->Env0 P w K mg base A outer s H->Ur s fd args (ps.zip us)->Vals vs us ->
  Ev K B (one j m) H sls (vs.map ZA)->sls.length=n->g sls=.err c->(∀ev s',RzC P w mg outer H s c ev s'->R (.error ev) s')->ZL (ZK P w) A (.call (.ref f) args) R s
structure GZ (P:OM)(w:Pm)(K:N7)(mg:W0)(base:ZH)(k:Nat)(f:ZE)(fd:Pu)(ps:List Str)(n j:Nat)(g:List Sl->Rs (T×OT)):Prop where
 h:p7 P w K mg base CX0 k f fd ps (spE K n j g)
 x:FnXE P w K mg base k f fd ps n j g
variable{sls:List Sl}{ts:List T}{v0:V}{vs:List V}
section
variable {H':Hp}{o:OT}{m:Ow}
abbrev BC(B:Ow)(M:Mn)(i:Nat):Ow:=λa=>OO B M a/\¬ M i a
def x9:OO (BC B M i) (one j (M i)) a->OO B M a:=λz=>(one_oo.mp z).elim (λw=>w.1) λw=>.inr ⟨i,w⟩
def Ev.args{ws:List V}(E:Ev K B M H Z σ)(hi:Z[i]?=ZA (.ow o))(hs:σ[i]?=ZA (ZA v0))(hl:sls.length=ws.length)(hj:sls[j]?=ZA (.ow o))(hw:ws[j]?=ZA v0)
  (ho:∀(k:Nat)(o':OT),sls[k]?=ZA (Sl.ow o')->k=j) (hv:∀(k:Nat)(t:T),sls[k]?=ZA (Sl.va t)->∃w,ws[k]?=ZA w/\Rep K (OO B M) H t w):Ev K (BC B M i) (one j (M i)) H sls (ws.map ZA):=by
 obtain⟨v',s',r⟩:=E.env.own i o hi;rw[hs]at s';cases s';refine⟨⟨by rw[Oa];exact hl,λk t e=>?_,λk o' e=>?_,λk a z=>.inr ⟨k,z⟩,λk k' a z1 z2=>?_,λa z=>E.env.trk a (x9 z)⟩,λa z y=>y.2 (one_u.mp z)⟩
 .obtain⟨w,e1,e2⟩:=hv k t e;exact⟨w,by rw[OH,e1];rfl,e2.less λa z=>x9 z⟩
 .have hk:=ho k o' e;subst hk;rw[hj]at e;cases e;refine⟨v0,by rw[OH,hw];rfl,?_⟩;rw[show one k (M i) k=M i from Mn.KF];exact r.move (P:=ko) (λ_ z=>z.elim) (λa z=>.inl (x9 z)) (λb u q _=>q) λ_ _ z=>z
 .unfold one Mn.set at z1 z2;by_cases h1:k=j
  .by_cases h2:k'=j
   .exact h1.trans h2.symm
   .rw[if_neg h2]at z2;exact z2.elim
  .rw[if_neg h1]at z1;exact z1.elim
def Ev.ret{t:T}{u:V}(E:Ev K B M H Z σ)(hi:Z[i]?=ZA (.ow o))(hs:σ[i]?=ZA (ZA v0))(s:SameO (M i) H H')(r:ORep K (BM (BC B M i) m) m H' o' v0)(hm:∀a,m a->M i a\/Nw K H a)(rt:Rep K (BM (BC B M i) m) H' t u):
  Ev K B (M.set i m) H' (Z.set i (.ow o')) σ/\SameO M.u H H'/\(∀a,(M.set i m).u a->M.u a\/Nw K H a)/\Rep K (OO B (M.set i m)) H' t u:=by
 have sub:∀a,OO B (M.set i m) a->BM (BC B M i) m a:=λa z=>by
  rcases z with z|⟨k,z⟩
  .exact .inl ⟨.inl z,λw=>E.mine a ⟨i,w⟩ z⟩
  .unfold Mn.set at z;by_cases hk:k=i
   .rw[if_pos hk]at z;exact .inr z
   .rw[if_neg hk]at z;exact .inl ⟨.inr ⟨k,z⟩,λw=>hk (E.env.dis k i a z w)⟩
 obtain⟨g1,g2,g3⟩:=E.back hi hs s (r.move (P:=ko) (λ_ z=>z.elim) (λa z=>.inl (sub a z)) (λb u q _=>q) λ_ _ z=>z) hm;exact⟨g1,g2,g3,rt.less sub⟩
end
variable{H1:Hp}{Q:VK}{g:List Sl->Rs (T×OT)}
section
variable {m:Ow}
def HE(X:Cx)(B m:Ow)(v:V)(H:Hp)(r:Rs (T×OT))(Q:VK):Prop:=match r with
 |.ok p=>∀u H' m',SameO m H H'->ORep X.K (BM B m') m' H' p.2 v->(∀a,m' a->m a\/Nw X.K H a)->Rep X.K (BM B m') H' p.1 u->Q u H'
 |.err c=>XA X ko H c
 |.bad=>False
def G8(F:GZ X.prog X.w X.K X.mg X.base k f fd ps n j g)(hr:Room k X.A)(hb:Binds X.K fd ps [])(hps:ps.length=n)(I:Inv X kt σ H s)(r:Vals vs us)(Ea:Ev X.K B (one j m) H sls (vs.map ZA))(hl:sls.length=n)(hv:vs[j]?=ZA v)
  (hq:HE X B m v H (g sls) Q):ZJ (ZK X.prog X.w) X.A (call (.ref f) us) (EP X kt σ Q) X.xe s:=by
 cases q2:g sls with
 |bad=>rw[q2]at hq;exact hq.elim
 |ok p=>
  rw[q2]at hq;refine w9 (E:=E0) (dvs:=[]) (ds:=[]) F.h hr hb .nil yY I r ⟨sls,B,m,v,by simpa using Ea,hl,by simpa using hv,?_⟩;rw[q2];exact hq
 |err c=>
  rw[q2]at hq;have hlen:us.length=ps.length:=by rw[<-r.length,hps,<-hl,Ea.env.len,Oa]
  have hb':=hb s us I.kIn (by rw[OS];exact hlen);rw[OS]at hb';refine TF (Rr (F.x X.A X.stack s H ⟨us,[]⟩ us vs B m sls c (λr s'=>match r with|.error ev=>X.xe ev s'|_=>False) hr I.NA hb' r Ea hl q2 λev s' w=>?_) λr s' hq=>?_)
  .obtain⟨ea,T,C,H',rfl,hmc,ho,hbare,hun,hok,sm2,hea,heo,fl,hT,hTo⟩:=w;have I2:Inv X kt σ H' s':=I.Nt ho hun hok hbare (λb z=>absurd z (by simp));exact hq kt _ _ ⟨ea,ZA T,C,σ,H',rfl,hmc,I2,λb o q _=>sm2 b o q,hea,λhex=>e9 I hex heo,fl,(λt zt=>by cases zt;exact⟨hT,λhex=>e9 I hex hTo⟩),λpp hpp=>⟨λzz=>(by have:=(I.pin pp hpp).1;rw[zz,heo]at this;cases this),λzz=>(by cases zz;have:=(I.pin pp hpp).1;rw[hTo]at this;cases this)⟩⟩
  .cases r with
   |error ev=>exact hq
   |ok fl=>exact hq.elim
def BY{o:OT}{H0:Hp}{P0:Ow}(E:Ev X.K B M H Z σ)(hi:Z[i]?=ZA (.ow o))(hs:σ[i]?=ZA (ZA v0)){r:Rs (T×OT)}(h:PostX X B M.u σ H (Bp i Z r) Q):HE X (BC B M i) (M i) v0 H r Q:=by
 cases r with
 |bad=>exact h
 |err c=>exact h
 |ok p=>
  intro u H' m' s r hm rt;obtain⟨g1,g2,g3,g4⟩:=E.ret hi hs s r hm rt;exact h u H' _ g2 g1 g3 g4
theorem PostX.later{P:Ow}{r:Rs (T×En)}(h:PostX X B P σ H r Q)(s:Same H H1):PostX X B P σ H1 r Q:=by
 cases r with
 |bad=>exact h
 |err c=>exact XA.later h (SameO.of s) λ_ z=>z.elim
 |ok p=>exact λv H' M' s' E' o' r'=>h v H' M' (λb o e nb=>s' b o (s _ _ e) nb) E' (λa z=>(o' a z).imp_right (dJ s)) r'
def xW{o:OT}(h:(Sl.ow o::ts.map Sl.va)[k]?=ZA (.ow o')):k=0:=by
 cases k with
 |zero=>rfl
 |succ k=>
  rw[PK,OH]at h;cases z:ts[k]? <;> rw[z]at h <;> cases h
def xV{o:OT}(r:Reps K O H ts vs){t:T}(h:(Sl.ow o::ts.map Sl.va)[k]?=ZA (.va t)):∃w,(v0::vs)[k]?=ZA w/\Rep K O H t w:=by
 cases k with
 |zero=>cases h
 |succ k=>
  rw[PK,OH]at h;cases z:ts[k]? with
  |none=>rw[z]at h;cases h
  |some u=>
   rw[z]at h;cases h;exact r.get z
end
variable{a:ZG}{p:Pos}{y:Str}
section
variable {fs:W3}{p2:Pos}
def HQ{pl:Sem Bool}(i:Nat)(hc:Cls X.K (bS X.K c))(hm:wt X.K (bS X.K c) m f)(F:GZ X.prog X.w X.K X.mg X.base k f fd ps n 0 g)(hr:Room k X.A)(hb:Binds X.K fd ps [])(hps:ps.length=n)(hl:∀Z ts,fs Z=.ok ts->ts.length+1=n)(ha:qf X (e::es) fs)
  (hN:autoParam (X.N[i]?=ZA x) u_) (hv:autoParam (kA X.env.scope x) v_) (hd:autoParam ((x == ("__debug__" : Str))=ZD) s_) (hcd:autoParam ((x == ("__classdict__" : Str))=ZD) s_)
  (hst:autoParam (Oq (e::es) X.env=(ZD,eval e X.env)::Oq es X.env) u_) (hpl:autoParam ((backTo pos (Oq es X.env)).any (·.1)=ZD) u_)
  (ht:eval (.Call (.Attribute (.Name x p2) m apos) (e::es) [] pos) X.env=(do
   let ov <-eval (.Name x p2) X.env
   standAt apos.atName
   let (f,first) <-holding [ov] (Sr ov m pl)
   TU pos f first (backTo pos (Oq (e::es) X.env)) (Se pos (QV [] X.env))):=by rfl):
  Em X (.Call (.Attribute (.Name x p2) m apos) (e::es) [] pos) (dU i c m g fs):=by
 intro kt s σ H Q I ⟨Z,B,M,E,h⟩;unfold dU at h;split at h
 .rename_i c' ns ls hi;split at h
  .rename_i hcc;obtain⟨h1,h2⟩:=hcc;subst h1;obtain⟨v0,s0,q,dx,as,e1,e2,e3,e4,e5,e6,e7,e8⟩:=E.env.own i _ hi;subst e1;refine Sg (pl:=pl) (bR (dB (pos:=p2) hN hv hd hcd kt s σ H (λv H'=>v=.ref q/\H'=H) I ⟨_,s0,rfl,rfl⟩) λu s1 ⟨v,H1,I1,rx,ev,eH⟩=>?_) ht;subst ev eH;obtain rfl:u=.ref q:=rx;refine kN I1 e4 hc hm (nT (by rw[nP (by rw[Oa];exact e6)];exact h2)) ?_;refine QD (first:=[.ref q]) (h₀:=X.base) I.ok.mod.kin hm.kp (bR (ha pos kt s1 σ H1 (λvs H2=>∃ts,fs Z=.ok ts/\Same H1 H2/\Reps X.K (OO B M) H2 ts vs) I1 ⟨Z,OO B M,E.o,?_⟩) λus s2 ⟨vs,H2,I2,r,ts,q1,sm,rs⟩=>⟨I2.kIn,?_⟩) hst hpl
   .cases z:fs Z with
    |bad=>rw[z]at h;exact h.elim
    |err c=>rw[z]at h;exact h
    |ok ts=>exact λH' s' vs rs=>⟨ts,rfl,s',rs⟩
   .rw[q1,ax]at h;have E2:=E.same sm;refine G8 (us:=.ref q::us) (vs:=.ref q::vs) (v:=.ref q) F hr hb hps I2 (.cons rfl r) (E2.args (o:=.ob c' ns ls) hi s0 (by rw[Og,Og,Oa,rs.length]) rfl rfl (λk o' z=>xW z) λk t z=>xV rs z) ?_ rfl (BY (H0:=H1) (P0:=ko) E2 hi s0 (h.later sm));rw[Og,Oa];exact hl Z ts q1
  .exact h.elim
 .exact h.elim
def KS(X:Cx)(i:Nat)(f:W3):TA:=λσ H Q=>∃Z B M v0,Ev X.K B M H Z σ/\σ[i]?=ZA (ZA v0)/\Post X H (f Z) λts H'=>∀vs,Reps X.K (OO B M) H' ts vs->Q (vs++[v0]) H'
def IW(i:Nat)(hN:autoParam (X.N[i]?=ZA x) u_)(hv:autoParam (kA X.env.scope x) v_)(hd:autoParam ((x == ("__debug__" : Str))=ZD) s_)(hcd:autoParam ((x == ("__classdict__" : Str))=ZD) s_):PA X [.Name x p2] (KS X i aj):=
 PA.imp (cN (dB (pos:=p2) hN hv hd hcd) fG rfl) λσ H Q ⟨Z,B,M,v0,E,s0,h⟩=>⟨v0,s0,h H (Same.refl _) [] Reps.GM⟩
def FC(ha:cm X a fa)(hb:PA X es (KS X i fs))(he:autoParam (Oq (a::es) X.env=(ZD,eval a X.env)::Oq es X.env) u_):PA X (a::es) (KS X i (ae fa fs)):=
 PA.imp (cN ha hb he) λσ H Q hh_=>by
  obtain⟨Z,B,M,v0,E,s0,h⟩:=hh_;refine⟨Z,OO B M,E.o,?_⟩;unfold ae at h;cases z:fa Z with
  |bad=>rw[z]at h;exact h.elim
  |err c=>rw[z]at h;exact h
  |ok t=>
   rw[z,ax]at h;intro H1 s1 v r;refine⟨Z,B,M,v0,E.same s1,s0,?_⟩;refine Post.mono (Post.bind (h.later s1)) λts H2 s2 q vs rs=>?_;exact q H2 (Same.refl _) (v::vs) (Reps.Gc (r.same s2) rs)
def JE{o:OT}(h:(ts.map Sl.va++[Sl.ow o])[k]?=ZA (.ow o')):k=ts.length:=by
 by_cases hk:k<ts.length
 .rw[OW (by simpa using hk),OH,OA hk]at h;cases h
 .have h2:=(Ol.mp h).1;simp at h2;omega
def JD{o:OT}(r:Reps K O H ts vs){t:T}(h:(ts.map Sl.va++[Sl.ow o])[k]?=ZA (.va t)):∃w,(vs++[v0])[k]?=ZA w/\Rep K O H t w:=by
 by_cases hk:k<ts.length
 .rw[OW (by simpa using hk),OH]at h;cases z:ts[k]? with
  |none=>rw[z]at h;cases h
  |some u=>
   rw[z]at h;cases h;obtain⟨w,e1,e2⟩:=r.get z;exact⟨w,by rw[OW (by rw[<-r.length];exact hk)];exact e1,e2⟩
 .rw[P5 (by simpa using hk)]at h;cases z:k - (ts.map Sl.va).length <;> rw[z]at h <;> cases h
def KI(i:Nat)(F:GZ X.prog X.w X.K X.mg X.base k f fd ps n j g)(hr:Room k X.A)(hm:X.mg y=ZA (.ref f))(hk:QK X.K (.ref f)=ZC)(hb:Binds X.K fd ps [])(hps:ps.length=n)(hjn:j+1=n)(hl:∀Z ts,fs Z=.ok ts->ts.length=j)(ha:PA X (e::es) (KS X i fs))
  (hg:autoParam (Gl X y) u_) (hdb:autoParam ((y == ("__debug__" : Str))=ZD) s_) (he:autoParam (Oq (e::es) X.env=(ZD,eval e X.env)::Oq es X.env) u_) (hpl:autoParam ((backTo pos (Oq es X.env)).any (·.1)=ZD) u_):
  Em X (.Call (.Name y p) (e::es) [] pos) (wM i g fs):=by
 intro kt s σ H Q I ⟨Z,B,M,E,h⟩;unfold wM at h;split at h
 .rename_i o hi;obtain⟨v0,s0,r0⟩:=E.env.own i _ hi;refine Pv (gy I hg hm ?_ hdb);refine QD (h₀:=X.base) I.ok.mod.kin hk (bR (ha pos kt s σ H (λws H2=>∃ts vs,ws=vs++[v0]/\fs Z=.ok ts/\Same H H2/\Reps X.K (OO B M) H2 ts vs) I ⟨Z,B,M,v0,E,s0,?_⟩) λus s2 ⟨ws,H2,I2,r,ts,vs,e1,q1,sm,rs⟩=>⟨I2.kIn,?_⟩) he hpl
  .cases z:fs Z with
   |bad=>rw[z]at h;exact h.elim
   |err c=>rw[z]at h;exact h
   |ok ts=>exact λH' s' vs rs=>⟨ts,vs,rfl,rfl,s',rs⟩
  .subst e1;rw[q1,ax]at h;have E2:=E.same sm;have hj:=hl Z ts q1;have hlen:=rs.length;subst hj;refine G8 (v:=v0) F hr hb hps I2 r (E2.args (o:=o) hi s0 (by simp[hlen]) (by simp) (by rw[hlen];simp) (λk o' z=>JE z) λk t z=>JD rs z) (by simpa using hjn) (by rw[hlen];simp) (BY (H0:=H) (P0:=ko) E2 hi s0 (h.later sm))
 .exact h.elim
end
variable{fb:W5}
section
variable {b c:ZG}{x y:En->Rs (T×En)}{fs:W3}{p2:Pos}{bK:List ZG}
variable {f g:En->Rs (Bool×En)}
def Iz(ha:Em X a x)(hs:autoParam (Pb a ZB pos.line X.env=pure ZD) u_):oj X (.Expr a pos) (w8 x):=PS.imp (iw ha hs) λD σ H hh_=>by
 obtain⟨Z,B,M,E,h⟩:=hh_;refine⟨Z,B,M,E,?_⟩;unfold w8 at h;cases z:x Z with
 |bad=>rw[z]at h;exact h.elim
 |err c=>rw[z]at h;exact PostF.xa h
 |ok p=>rw[z,ax]at h;exact λv H' M' s' E' o' r=>h σ H' M' s' E' o'
end
def PostM(X:Cx)(B P:Ow)(j:Nat)(σ:L2.St)(H:Hp)(r:Rs Fx)(D:nL):Prop:=match r with
 |.ok (.nx Z')=>∀σ' H' M',SameO P H H'->Ev X.K B M' H' Z' σ'->(∀a,M'.u a->P a\/Nw X.K H a)->σ'[j]?=σ[j]?->D.nx σ' H'
 |.ok (.rt t Z')=>∀v σ' H' M',SameO P H H'->Ev X.K B M' H' Z' σ'->(∀a,M'.u a->P a\/Nw X.K H a)->σ'[j]?=σ[j]?->Rep X.K (OO B M') H' t v->D.rt v H'
 |.err c=>XA X ko H c
 |.bad=>False
def tPM(X:Cx)(j:Nat)(F:En->Rs Fx):TS:=λD σ H=>∃Z B M,Ev X.K B M H Z σ/\PostM X B M.u j σ H (F Z) D
abbrev Eo(X:Cx)(j:Nat)(s:ZF)(F:En->Rs Fx):Prop:=PS X s (tPM X j F)
abbrev Ep(X:Cx)(j:Nat)(s:List ZF)(F:En->Rs Fx):Prop:=PSs X s (tPM X j F)
variable{D:nL}{G:En->Rs Fx}{r:Rs Fx}{st:ZF}
section
variable {c:ZG}{x:En->Rs (T×En)}{fs:W3}{p2:Pos}
def PostM.later{P P1:Ow}{σ1:L2.St}(h:PostM X B P j σ H (LQ r) D)(s:SameO P H H1)(sub:∀a,P1 a->P a\/Nw X.K H a)(hj:σ1[j]?=σ[j]?):PostM X B P1 j σ1 H1 r D:=by
 have back:∀a,P1 a\/Nw X.K H1 a->P a\/Nw X.K H a:=λa z=>z.elim (sub a) (fq s);cases r with
 |bad=>exact h
 |err c=>exact h.elim
 |ok f=>
  cases f with
  |nx Z'=>exact λσ' H' M' s' E' o' k=>h σ' H' M' (s.trans s' sub) E' (λa z=>back a (o' a z)) (k.trans hj)
  |rt t Z'=>exact λv σ' H' M' s' E' o' k r=>h v σ' H' M' (s.trans s' sub) E' (λa z=>back a (o' a z)) (k.trans hj) r
def PostM.same{P:Ow}(h:PostM X B P j σ H r D)(s:Same H H1):PostM X B P j σ H1 r D:=by
 cases r with
 |err c=>exact XA.later h (SameO.of s) λ_ z=>z.elim
 |bad=>exact h
 |ok f=>exact PostM.later (r:=.ok f) h (SameO.of s) (λa z=>.inl z) rfl
def LY:Ep X j [] mN:=PSs.imp yM λD σ H ⟨Z,B,M,E,h⟩=>h σ H M (λ_ _ e _=>e) E (λa z=>.inl z) rfl
def LX{F:En->Rs Fx}(h:Eo X j st F):Ep X j [st] F:=nR h
def JB{bK:List ZF}{F:En->Rs Fx}(h1:Eo X j st F)(h2:Ep X j bK G):Ep X j (st::bK) (jt F G):=PSs.imp (oQ h1 h2) λD σ H hh_=>by
 obtain⟨Z,B,M,E,h⟩:=hh_;refine⟨Z,B,M,E,?_⟩;unfold jt at h;cases q:F Z with
 |bad=>rw[q]at h;exact h.elim
 |err c=>rw[q]at h;exact h
 |ok f=>
  rw[q]at h;cases f with
  |nx Z'=>exact λσ' H' M' s' E' o' k=>⟨Z',B,M',E',PostM.later h s' o' k⟩
  |rt t Z'=>exact h
def m_ex(ha:Em X a x)(hs:autoParam (Pb a ZB pos.line X.env=pure ZD) u_):Eo X j (.Expr a pos) (wH x):=PS.imp (iw ha hs) λD σ H hh_=>by
 obtain⟨Z,B,M,E,h⟩:=hh_;refine⟨Z,B,M,E,?_⟩;unfold wH at h;cases z:x Z with
 |bad=>rw[z]at h;exact h.elim
 |err c=>rw[z]at h;exact h
 |ok p=>rw[z,ax]at h;exact λv H' M' s' E' o' r=>h σ H' M' s' E' o' rfl
def LW(ha:Em X a x):Eo X j (.Return (ZA a) pos) (lC x):=PS.imp (xc ha) λD σ H hh_=>by
 obtain⟨Z,B,M,E,h⟩:=hh_;refine⟨Z,B,M,E,?_⟩;unfold lC at h;cases z:x Z with
 |bad=>rw[z]at h;exact h.elim
 |err c=>rw[z]at h;exact h
 |ok p=>rw[z,ax]at h;exact λv H' M' s' E' o' r=>h v σ H' M' s' E' o' rfl r
def m_as(i:Nat){n:Str}(hij:i≠j)(hN:X.N.Nodup)(ha:Em X a x)(hi:autoParam (X.N[i]?=ZA n) u_)(hx:autoParam (Loc X.env.scope n) y_)(hs:autoParam (Pb a (ZA (.Name n p3)) pos.line X.env=pure ZD) u_)
  (hf:autoParam (X.fn n=ZC\/X.env.scope.names.lookup n=ZA .local) r_):Eo X j (.Assign [.Name n p3] a pos) (Ei i x):=PS.imp (oR hN hi hx ha hs hf) λD σ H hh_=>by
 obtain⟨Z,B,M,E,h⟩:=hh_;refine⟨Z,B,M,E,?_⟩;unfold Ei at h;cases z:x Z with
 |bad=>rw[z]at h;exact h.elim
 |err c=>rw[z]at h;exact h
 |ok p=>
  rw[z,ax]at h;intro v H' M' s' E' o' r;by_cases hl:i<p.2.length
  .rw[if_pos hl]at h;exact h _ H' M' s' ⟨E'.env.set hl r,E'.mine⟩ o' (Oy hij)
  .rw[if_neg hl]at h;exact h.elim
def m_if{f:W6}{A C:List ZF}{F:En->Rs Fx}(hc:wq X c f)(ha:Ep X j A F)(hb:Ep X j C G):Eo X j (.If c A C pos) (AF f F G):=PS.imp (BV hc ha hb) λD σ H hh_=>by
 obtain⟨Z,B,M,E,h⟩:=hh_;refine⟨Z,OO B M,E.o,?_⟩;unfold AF at h;cases q:f Z with
 |bad=>rw[q]at h;exact h.elim
 |err c=>rw[q]at h;exact h
 |ok k=>
  rw[q,ax]at h;intro H' s;have E':Ev X.K B M H' Z σ:=E.same s;cases k with
  |true=>refine L2.iteT ?_;exact⟨Z,B,M,E',PostM.same (by simpa using h) s⟩
  |false=>refine L2.iteF ?_;exact⟨Z,B,M,E',PostM.same (by simpa using h) s⟩
def Ev.blank(E:Ev K B M H Z σ):Ev K (OO B M) noM H (OK σ.length .em) σ:=
 ⟨⟨by simp,λi t e=>(by rw[Pk]at e;split at e <;> cases e),λi o e=>(by rw[Pk]at e;split at e <;> cases e),λ_ _ z=>z.elim,λ_ _ _ z=>z.elim,λa z=>E.env.trk a (z.elim id λ⟨_,w⟩=>w.elim)⟩,λa ⟨_,z⟩=>z.elim⟩
def L0{c:Str}(h:oj X st (uX c)):Eo X j st (JC c):=PS.imp h λD σ H hh_=>by obtain⟨Z,B,M,E,q⟩:=hh_;refine⟨_,_,_,E.blank,?_⟩;exact XA.later (P:=ko) q (λ_ _ e _=>e) λ_ ⟨_,z⟩=>z.elim
end
variable{b:ZE}
theorem qX{f:Str}{b:ZE}:∀{ns:List Str}{as:List ZE},ns.length=as.length->ns.contains f=ZC->∃as1 d as2,as=as1++d::as2/\putF f (.ref b) (ns.zip (as.map V.ref))=ns.zip ((as1++b::as2).map V.ref) ∧
  ∀{O:Ow}{H:Hp}{ls:List (List T)}{l:List T}{vs:List V},H b=ZA (.lst vs)->Reps K O H l vs->LsR K O H ls as->LsR K O H (jz f l ns ls) (as1++b::as2)
 |[],as,_,h=>by cases h
 |n::ns,[],hl,_=>by cases hl
 |n::ns,d::as,hl,h=>by
  by_cases z:n=f
  .subst z;refine⟨[],d,as,rfl,?_,λ{O H ls l vs} e1 e2 r=>?_⟩
   .show(if n=n then(n,V.ref b)::_ else _)=_;rw[if_pos rfl];rfl
   .cases ls with
    |nil=>cases (show d::as=[]from r)
    |cons u ls=>
     obtain⟨b',bs,ws,f1,f2,f3,f4⟩:=r;cases f1;show LsR K O H (if n=n then l::ls else _) _;rw[if_pos rfl];exact⟨b,as,vs,rfl,e1,e2,f4⟩
  .have h':ns.contains f=ZC:=by
    rw[Pt,Wr]at h;rcases h with h|h
    .exact absurd (eq_of_beq h).symm z
    .exact h
   obtain⟨as1,d',as2,g1,g2,g3⟩:=qX (f:=f) (b:=b) (by simpa using hl) h';refine⟨d::as1,d',as2,by rw[g1];rfl,?_,λ{O H ls l vs} e1 e2 r=>?_⟩
   .show(if n=f then _ else(n,V.ref d)::putF f (.ref b) (ns.zip (as.map V.ref)))=_;rw[if_neg z,g2];rfl
   .cases ls with
    |nil=>cases (show d::as=[]from r)
    |cons u ls=>
     obtain⟨b',bs,ws,f1,f2,f3,f4⟩:=r;cases f1;show LsR K O H (if n=f then _ else u::jz f l ns ls) _;rw[if_neg z];exact⟨d,_,ws,rfl,f2,f3,g3 e1 e2 f4⟩
theorem yL{f:Str}:∀{ns:List Str}{as:List ZE},ns.length=as.length->ns.contains f=ZD->putF f (.ref b) (ns.zip (as.map V.ref))=(ns++[f]).zip ((as++[b]).map V.ref)
 |[],[],_,_=>rfl
 |n::ns,[],hl,_=>by cases hl
 |n::ns,d::as,hl,h=>by rw[Pt,UB]at h;show(if n=f then _ else(n,V.ref d)::putF f (.ref b) (ns.zip (as.map V.ref)))=_;rw[if_neg (λz=>by rw[z,beq_self_eq_true]at h;exact Bool.noConfusion h.1),yL (by simpa using hl) h.2];rfl
theorem LsR.app(e1:H b=ZA (.lst vs))(e2:Reps K O H l vs):∀{ls:List (List T)}{as:List ZE},LsR K O H ls as->LsR K O H (ls++[l]) (as++[b])
 |[],as,r=>by cases (show as=[]from r);exact⟨b,[],vs,rfl,e1,e2,rfl⟩
 |u::ls,as,⟨d,ds,ws,f1,f2,f3,f4⟩=>by subst f1;exact⟨d,ds++[b],ws,rfl,f2,f3,LsR.app e1 e2 f4⟩
section
variable {fs:W3}{p2 p4:Pos}
def LZ(i:Nat){n f:Str}(hc:Cls X.K (bS X.K c))(hn:NoAttr X.K (bS X.K c) f)(ha:qf X es fs)(hN:autoParam (X.N[i]?=ZA n) u_)(hv:autoParam (kA X.env.scope n) v_)
  (hd:autoParam ((n == ("__debug__" : Str))=ZD) s_) (hcd:autoParam ((n == ("__classdict__" : Str))=ZD) s_) (hs:autoParam (Pb (.List es p4) (ZA (.Attribute (.Name n p2) f p3)) pos.line X.env=pure ZD) u_):
  Eo X j (.Assign [.Attribute (.Name n p2) f p3] (.List es p4) pos) (vC i c f fs):=PS.imp (IT (dB hN hv hd hcd) (sX ha) hs) λD σ H hh_=>by
 obtain⟨Z,B,M,E,h⟩:=hh_;unfold vC at h;split at h
 .rename_i c' ns ls hi;refine⟨Z,OO B M,E.o,?_⟩;cases z:fs Z with
  |bad=>rw[z]at h;exact h.elim
  |err c=>rw[z]at h;exact h
  |ok l=>
   rw[z,ax]at h;intro H1 s1 vs rs;split at h
   .rename_i hcc;obtain⟨h1,h2,h3⟩:=hcc;subst h1;refine⟨by rw[<-rs.length];exact h2,λb hb=>?_⟩;have E1:=E.same s1;obtain⟨v0,s0,p,dx,as,e1,e2,⟨n1,n2,n3,n4⟩,e4,e5,e6,e7,e8⟩:=E1.env.own i _ hi;subst e1;have nb:∀{d:ZE}{o:HO},H1 d=ZA o->d≠b:=λe z=>by rw[z,hb.1]at e;cases e
    have mb:∀a,M i a->a≠b:=λa w=>nb (E1.env.trk a (.inr ⟨i,w⟩)).some.choose_spec;have pb:p≠b:=nb e4;have hbas:b∉as:=λw=>mb b ((e2 b).mpr (.inr (.inr w))) rfl;have sm1:Same H1 (upd H1 b (.lst vs)):=aU hb.1 _;refine⟨_,s0,p,_,dx,_,rfl,sm1 _ _ e4,hc,hn,by rw[Wu,Oa,<-e6];simpa using h3,?_⟩;have key:∀(ns':List Str)(as':List ZE)(ls':List (List T)),putF f (.ref b) (ns.zip (as.map V.ref))=ns'.zip (as'.map V.ref)->ns'.length=as'.length->ns'.Nodup->as'.Nodup->(∀a,a∈as'->a=b\/a∈as) ->
      (∀{O:Ow}{H:Hp},H b=ZA (.lst vs)->Reps X.K O H l vs->LsR X.K O H ls as->LsR X.K O H ls' as')->PostM X B M.u j σ H (.ok (.nx (Z.set i (.ow (.ob c' ns' ls'))))) D->D.nx σ (upd (upd H1 b (.lst vs)) p (.ins (bS X.K c') dx (putF f (.ref b) (ns.zip (as.map V.ref))))):=λns' as' ls' k1 k2 k3 k4 k5 k6 k7=>by
     rw[k1];generalize hm:(λa=>a=p\/a=dx\/a∈as':Ow)=m;have hsub:∀a,m a->M i a\/Nw X.K H1 a:=λa w=>by
      subst hm;rcases w with w|w|w
      .exact .inl ((e2 a).mpr (.inl w))
      .exact .inl ((e2 a).mpr (.inr (.inl w)))
      .exact(k5 a w).elim (λy=>.inr (y▸hb)) λy=>.inl ((e2 a).mpr (.inr (.inr y)))
     have hO:∀a,OO B (M.set i m) a->OO B M a\/Nw X.K H1 a:=λa w=>w.elim (λy=>.inl (.inl y)) λy=>(Mn.FM y).elim (λq=>(hsub a q).imp_left λt=>.inr ⟨i,t⟩) λq=>.inl (.inr q);have sm2:SameO (λa=>a=p) (upd H1 b (.lst vs)) (upd (upd H1 b (.lst vs)) p (.ins (bS X.K c') dx (ns'.zip (as'.map V.ref)))):=λd o e ne=>by rw[aI ne];exact e
     have smi:SameO (M i) H1 (upd (upd H1 b (.lst vs)) p (.ins (bS X.K c') dx (ns'.zip (as'.map V.ref)))):=λd o e ne=>sm2 d o (sm1 _ _ e) λw=>ne ((e2 d).mpr (.inl w));have nin:∀a∈as',a≠p:=λa ha w=>(k5 a ha).elim (λy=>pb (w▸y)) λy=>n1 (w▸y);have rp:∀{t:List T}{ws:List V},Reps X.K (OO B M) H1 t ws->Reps X.K (OO B (M.set i m)) (upd (upd H1 b (.lst vs)) p (.ins (bS X.K c') dx (ns'.zip (as'.map V.ref)))) t ws:=λr=>r.move (P:=M i) (λa w=>.inl (.inr ⟨i,w⟩)) hO smi;have smp:SameO (λa=>a=p) H1 (upd (upd H1 b (.lst vs)) p (.ins (bS X.K c') dx (ns'.zip (as'.map V.ref)))):=λd o e ne=>sm2 d o (sm1 _ _ e) ne;have fin:=k6 (O:=OO B (M.set i m)) (H:=upd (upd H1 b (.lst vs)) p (.ins (bS X.K c') dx (ns'.zip (as'.map V.ref)))) (by rw[aI (Ra pb)];exact aM) (rp rs) (e8.move (P:=λa=>a=p) (λa w=>.inl (.inr ⟨i,(e2 a).mpr (.inl w)⟩)) hO smp λd hd w=>n1 (w▸hd));have ndx:dx∉as':=λw=>(k5 dx w).elim (nb e5) n2;obtain⟨g1,g2,g3⟩:=E1.back (m:=m) (o':=.ob c' ns' ls') hi s0 smi ⟨p,dx,as',rfl,λd=>by subst hm;exact Rj,⟨λw=>nin p w rfl,ndx,n3,k4⟩,aM,by rw[aI n3];exact sm1 _ _ e5,k2,k3,fin⟩ hsub;exact k7 σ _ _ (λd o e ne=>g2 d o (s1 _ _ e) ne) g1 (λa w=>(g3 a w).imp_right (dJ s1)) rfl
    cases hf:ns.contains f with
    |true=>
     rw[hf,if_pos rfl]at h;obtain⟨as1,d,as2,q1,q2,q3⟩:=qX (K:=X.K) (f:=f) (b:=b) e6 hf;subst q1;refine key ns (as1++b::as2) (jz f l ns ls) q2 (by rw[e6];simp) e7 ?_ (λa w=>?_) (λa1 a2 a3=>q3 a1 a2 a3) h
     .rw[Pc]at n4 ⊢;obtain⟨m1,m2,m3⟩:=n4;have nb1:b∉as1:=λw=>hbas (OL _ w);have nb2:b∉as2:=λw=>hbas (ON _ (N8 _ w));refine⟨m1,O4.mpr ⟨nb2,(O4.mp m2).2⟩,λu hu w hw=>?_⟩;rcases Oj.mp hw with hw|hw
      .exact λy=>nb1 (by rw[<-hw,<-y];exact hu)
      .exact m3 u hu w (N8 _ hw)
     .rcases Ox.mp w with w|w
      .exact .inr (OL _ w)
      .rcases Oj.mp w with w|w
       .exact .inl w
       .exact .inr (ON _ (N8 _ w))
    |false=>
     rw[hf,if_neg OB]at h;refine key (ns++[f]) (as++[b]) (ls++[l]) (yL e6 hf) (by simp[e6]) ?_ ?_ (λa w=>?_) (λa1 a2 a3=>LsR.app a1 a2 a3) h
     .rw[Pc];refine⟨e7,by simp,λu hu w hw y=>?_⟩;rw[Oi.mp hw]at y;have:ns.contains f=ZC:=by rw[List.contains_iff_mem,<-y];exact hu
      rw[hf]at this;cases this
     .rw[Pc];exact⟨n4,by simp,λu hu w hw y=>hbas (by rw[<-Oi.mp hw,<-y];exact hu)⟩
     .rcases Ox.mp w with w|w
      .exact .inr w
      .exact .inl (Oi.mp w)
   .exact h.elim
 .exact h.elim
end
variable{N:List Str}
def oB(E:Ev K B M H sls (vs.map ZA))(hl:sls.length<=N.length):Ev K B M H (eY N.length sls) (start N vs):=by
 have hlen:sls.length=vs.length:=by rw[E.env.len,Oa]
 have low:∀(i:Nat)(z:Sl),(eY N.length sls)[i]?=ZA z->z=.em\/(sls[i]?=ZA z/\(start N vs)[i]?=(vs.map ZA)[i]?):=λi z e=>by
  unfold eY at e;unfold L2.start;by_cases hi:i<sls.length
  .rw[OW hi]at e;exact .inr ⟨e,OW (by rw[Oa,<-hlen];exact hi)⟩
  .rw[P5 (by omega),Pk]at e;split at e
   .cases e;exact .inl rfl
   .cases e
 refine⟨⟨by unfold eY L2.start;simp;omega,λi t e=>?_,λi o e=>?_,E.env.sub,E.env.dis,E.env.trk⟩,E.mine⟩
 .rcases low i _ e with z|⟨e1,e2⟩
  .cases z
  .rw[e2];exact E.env.val i t e1
 .rcases low i _ e with z|⟨e1,e2⟩
  .cases z
  .rw[e2];exact E.env.own i o e1
def FL{f:Fx}{p:T×OT}(h:qv j f=.ok p):(∃Z,f=.nx Z/\p.1=.non/\Z[j]?=ZA (.ow p.2))\/∃Z,f=.rt p.1 Z/\Z[j]?=ZA (.ow p.2):=by
 cases f with
 |nx Z=>
  unfold qv at h;dsimp only at h;split at h
  .rename_i o e;cases h;exact .inl ⟨Z,rfl,rfl,e⟩
  .cases h
 |rt t Z=>
  unfold qv at h;dsimp only at h;split at h
  .rename_i o e;cases h;exact .inr ⟨Z,rfl,e⟩
  .cases h
variable{mg:W0}{qual:Str}
section
variable {base:ZH}
def Mz{F:En->Rs Fx}(Fn:L2.Fun K x qual st f fd)(S:bo N ps (ao st))(hn:ps.length=n)
  (hbody:∀(cdv:N9)(A:OY)(outer:List Env)(s:Ob)(H:Hp)(E:XK),Room k (A.deeper (envOfC qual (ao st) s.heap.objs.size f cdv)) ->
   Ep (gf CX0 P w K mg base N qual (ao st) f cdv A outer s H E).nox j (bD st) F):p7 P w K mg base CX0 (k+1) f fd ps (spE K n j (gW n j N.length F)):=by
 have hpl:ps.length<=N.length:=by have:=congrArg QQ S.pre;rw[PQ]at this;omega
 refine Fn.ok S (λvs H Q E h=>?_) (λcdv A outer s H vs Q E hr h=>?_)
 .obtain⟨sls,B,m,v,Ea,hl,_⟩:=h;rw[<-Oa (as:=vs) (f:=ZA),<-Ea.env.len,hl,hn]
 .obtain⟨sls,B,m,v,Ea,hl,hv,h⟩:=h;refine⟨_,hbody cdv A outer s H E hr,eY N.length sls,B,one j m,oB Ea (by omega),?_⟩;have hjs:(start N vs)[j]?=ZA (ZA v):=by unfold L2.start;rw[OW (by rw[Oa];exact(Ol.mp hv).1),OH,hv];rfl
  unfold gW at h;rw[if_pos hl]at h;have fin:∀{p:T×OT}{Z':En}{σ':L2.St}{H':Hp}{M':Mn}{u:V},(∀u H' m',SameO m H H'->ORep K (BM B m') m' H' p.2 v->(∀a,m' a->m a\/Nw K H a)->Rep K (BM B m') H' p.1 u->Q u H')->Z'[j]?=ZA (.ow p.2) ->
    SameO (one j m).u H H'->Ev K B M' H' Z' σ'->(∀a,M'.u a->(one j m).u a\/Nw K H a)->σ'[j]?=(start N vs)[j]?->Rep K (OO B M') H' p.1 u->Q u H':=λ{p Z' σ' H' M' u} h hj s' E' o' k r=>by
   obtain⟨v',e1,e2⟩:=E'.env.own j _ hj;rw[k,hjs]at e1;cases e1;have sub:∀a,BM B (M' j) a->OO B M' a:=λa z=>z.imp_right λy=>⟨j,y⟩;exact h u H' (M' j) (λb o e n=>s' b o e λz=>n (one_u.mp z)) (e2.move (P:=ko) (λ_ z=>z.elim) (λa z=>.inl (sub a z)) (λb u q _=>q) λ_ _ z=>z) (λa z=>(o' a ⟨j,z⟩).imp_left one_u.mp) (r.less sub)
  cases q:F (eY N.length sls)with
  |bad=>rw[q]at h;exact h.elim
  |err c=>rw[q]at h;exact h.elim
  |ok fl=>
   rw[q,ax]at h;cases q2:qv j fl with
   |bad=>rw[q2]at h;exact h.elim
   |err c=>rw[q2]at h;exact h.elim
   |ok p=>
    rw[q2]at h;rcases FL q2 with⟨Z',rfl,e1,e2⟩|⟨Z',rfl,e2⟩
    .exact λσ' H' M' s' E' o' k=>fin h e2 s' E' o' k (by rw[e1];exact Rep.NC)
    .exact λu σ' H' M' s' E' o' k r=>fin h e2 s' E' o' k r
def Gn(Fn:L2.Fun K x qual st f fd)(S:bo N ps (ao st)){outer:List Env}{args:Args}
  (hr:Room (k+1) A) (e0:Env0 P w K mg base A outer s H) (hb:Ur s fd args (ps.zip us)) (r:Vals vs us) (hlen:vs.length=ps.length) (hR:∀ev s',RzC P w mg outer H s c ev s'->R (.error ev) s')
  (hbody:∀cdv,Room k (A.deeper (envOfC qual (ao st) s.heap.objs.size f cdv))->∀xe,∃t,PSs ((gf CX0 P w K mg base N qual (ao st) f cdv A outer s H E0).FB xe) (bD st) t ∧
   (XA ((gf CX0 P w K mg base N qual (ao st) f cdv A outer s H E0).FB xe) ko H c->t {nx:=λ_ _=>False,rt:=λ_ _=>False,bk:=λ_ _=>False,ct:=λ_ _=>False} (start N vs) H)):
  ZL (ZK P w) A (.call (.ref f) args) R s:=by
 obtain⟨oc,od,kV,doc,pm,an,cdv,ct,osl,rfl,lk,hcd⟩:=Fn.ex;have KX:K.In s.heap:=e0.mod.kin.keeps λb o e=>(e0.bs b o e).1;have lim:s.heap.NoLimit:=e0.mod.nolimit.keeps λb o e=>(e0.bs b o e).1;have hkind:∀y∈ps.zip us,(ao st).names.lookup y.1=ZA .local\/((ao st).names.lookup y.1=ZA .cell/\((Q7 (s.heap.objs.size+1) (ao st).names []).lookup y.1).isSome=ZC):=λ⟨n,v⟩ hy=>by
  rcases S.par n (Ro hy).1 with q|q
  .exact .inl q
  .exact .inr ⟨q,Rh _ _ _ (.inl q)⟩
 refine Ss hr.depth (KX _ _ lk) rfl S.co S.gen rfl (Td KX hcd) (hb _ _ _ _ ?_);refine RE S.kind hkind λenv he s1 x=>?_;subst he;refine⟨lim.keeps x.toInCall.keep,VW ?_⟩;let xe:W1:=λev s'=>ZJ (ZK P w) (A.deeper (envOfC qual (ao st) s.heap.objs.size f cdv)) (leaving (envOfC qual (ao st) s.heap.objs.size f cdv) ev) (λ_ s''=>R (.error ev) s'') (λe' s''=>R (.error e') s'') s';obtain⟨t,ht,hgo⟩:=hbody cdv (hr.deeper _) xe;have I:Inv ((gf CX0 P w K mg base N qual (ao st) f cdv A outer s H E0).FB xe) [] (start N vs) H s1:=(mB S hr.hd e0 hlen r x).FB _;refine PX (ht [] s1 (start N vs) H _ I (hgo ?_)) (λfl s' z=>?_) λe s' hs=>hs
 rotate_left
 .cases fl with
  |next=>obtain⟨_,_,_,z⟩:=z;exact z.elim
  |cont=>obtain⟨_,_,_,z⟩:=z;exact z.elim
  |brk=>obtain⟨_,_,_,z⟩:=z;exact z.elim
  |ret v=>obtain⟨_,_,_,_,_,z⟩:=z;exact z.elim
 intro kt ev s' w';show ZJ _ _ _ _ _ _;obtain⟨e,T,C,σ',H',rfl,hm,I',sm,he,heo,fl,hT,_⟩:=w';have heo:=heo rfl;have hT:∀t,T=ZA t->H' t=ZB/\s.heap.get? t=ZB:=λt z=>⟨(hT t z).1,(hT t z).2 rfl⟩;refine CL (base:=base) (outer:=outer) (L:=s.heap.objs.size) I'.ok.frames I'.stack rfl fl λh' T' g=>hR _ _ ?_;have hex:((gf CX0 P w K mg base N qual (ao st) f cdv A outer s H E0).FB xe).ex=[]:=rfl;have Tn:H' T'=ZB/\s.heap.get? T'=ZB:=by
  rcases g.new with z|z
  .exact hT T' z
  .exact⟨jm I' z,e9 I' hex z⟩
 have out:∀b o,s.heap.get? b=ZA o->b≠s.heap.objs.size:=λb o q z=>by have:=Os q;rw[z]at this;exact absurd this (OU _)
 have mem:∀b,b∈n8 ((envOfC qual (ao st) s.heap.objs.size f cdv)::outer)->b=s.heap.objs.size\/b∈n8 outer:=λb z=>by have z':b∈s.heap.objs.size::n8 outer:=z;exact Oj.mp z'
 have ne:∀b o,s.heap.get? b=ZA o->b≠e/\T≠ZA b:=λb o q=>⟨λz=>(by subst z;rw[show s.heap.get? b=ZB from heo]at q;cases q),λz=>(by rw[show s.heap.get? b=ZB from(hT b z).2]at q;cases q)⟩;have keepH:∀b u,H' b≠ZB->s'.heap.get? b=ZA u->h'.get? b=ZA u:=λb u hb q=>by refine g.keep b u (λz=>hb (I'.Nf b z)) (λz=>hb (by rw[z];exact he)) (λz=>hb (hT b z).1) q
 refine⟨e,T',C,H',rfl,hm,I'.os,I'.bare,⟨λb o q n hb hx=>?_,λb o q n hb hx=>?_,λb o q n hx=>I'.base.free b o q n hx,λb o q hx=>?_,I'.base.tups,I'.base.frzs,I'.base.tbls⟩,λa o q=>?_,λb o q=>sm b o q λz=>z,he,heo,g.flt,Tn.1,Tn.2⟩
 .exact g.keep b o (λz=>(mem b z).elim (out b o q) hb) (ne b o q).1 (ne b o q).2 (I'.base.keep b o q n hb hx)
 .obtain⟨sl,q1⟩:=I'.base.slot b o q n hb hx;obtain⟨sl',q2⟩:=g.slot b _ (N8 _ hb) q1;exact⟨sl',q2⟩
 .obtain⟨o',q1⟩:=I'.base.there b o q hx;by_cases z:b∈n8 ((envOfC qual (ao st) s.heap.objs.size f cdv)::outer)
  .obtain⟨sl,q2⟩:=g.slot b o' z q1;exact⟨_,q2⟩
  .exact⟨o',g.keep b o' z (ne b o q).1 (ne b o q).2 q1⟩
 .refine(I'.hok a o q).Nk (λb u hb z=>keepH b u ?_ z) (λ_ z=>z) λ_ _ z=>z;rcases hb with rfl|hb
  .rw[q];simp
  .rw[hb];simp
def Bs{m:Nat}{F:En->Rs Fx}(h:gW n j m F sls=.err c):F (eY m sls)=.err c:=by
 unfold gW at h;split at h
 .cases z:F (eY m sls)with
  |bad=>rw[z]at h;cases h
  |err c'=>rw[z]at h;cases h;rfl
  |ok f=>
   rw[z,ax]at h;cases f <;> unfold qv at h <;> dsimp only at h <;> split at h <;> cases h
 .cases h
def Dr{F:En->Rs Fx}(Fn:L2.Fun K x qual st f fd)(S:bo N ps (ao st))(hn:ps.length=n)
  (hbody:∀(cdv:N9)(A:OY)(outer:List Env)(s:Ob)(H:Hp)(E:XK),Room k (A.deeper (envOfC qual (ao st) s.heap.objs.size f cdv)) ->
   ∀xe,Ep ((gf CX0 P w K mg base N qual (ao st) f cdv A outer s H E).FB xe) j (bD st) F):GZ P w K mg base (k+1) f fd ps n j (gW n j N.length F):=
 ⟨Mz Fn S hn λcdv A outer s H E hr=>hbody cdv A outer s H E hr _,λA outer s H args us vs B m sls c R hr e0 hb r Ea hl hg hR=>by
  have hpl:ps.length<=N.length:=by have:=congrArg QQ S.pre;rw[PQ]at this;omega
  refine Gn Fn S hr e0 hb r ?_ hR λcdv hr' xe=>⟨_,hbody cdv A outer s H E0 hr' xe,λxa=>⟨eY N.length sls,B,one j m,oB Ea (by omega),?_⟩⟩
  .rw[<-Oa (as:=vs) (f:=ZA),<-Ea.env.len,hl,hn]
  .rw[Bs hg];exact xa⟩
end
variable{spos:Pos}
def Al(M:Mk X.K (bS X.K c) f)(F:GZ X.prog X.w X.K X.mg X.base k f fd ps n 0 g)(hr:Room (k+1) X.A)(hb:Binds X.K fd ps [])(hn:ts.length+1=n)(hps:ps.length=n)(I:Inv X kt σ H s)(r:Vals vs us)(rs:Reps X.K O H ts vs)(mt:∀a,O a->Mtb H a){o:OT}
  (hg:g (.ow (.ob c [] [])::ts.map Sl.va)=.ok (.non,o)) (h:∀p H' m,Same H H'->ORep X.K (BM O m) m H' o (.ref p)->(∀a,m a->Nw X.K H a)->Q (.ref p) H'):ZJ (ZK X.prog X.w) X.A (call (.ref (bS X.K c)) us) (EP X kt σ Q) X.xe s:=by
 have nk:∀q,s.heap.objs.size<=q->X.K.lookup q=ZB:=λq hq=>by
  cases z:X.K.lookup q with
  |none=>rfl
  |some o=>exact absurd (Os (I.kIn _ o z)) (Nat.not_lt.mpr hq)
 generalize hp:s.heap.objs.size+1=p;have np:Nw X.K H p:=⟨I.hok.fresh (by omega),nk p (by omega)⟩;generalize hd:s.heap.objs.size=dx at hp;have nd:Nw X.K H dx:=⟨I.hok.fresh (by omega),nk dx (by omega)⟩;have ne:dx≠p:=by omega
 have sm0:Same H (upd (upd H dx (.own p)) p (.ins (bS X.K c) dx [])):=λb o e=>by rw[aI (λz=>by rw[z,np.1]at e;cases e),aI (λz=>by rw[z,nd.1]at e;cases e)];exact e
 have hm:∀a,(λa=>a=p\/a=dx:Ow) a->Nw X.K H a:=λa z=>z.elim (λy=>y▸np) λy=>y▸nd;have subO:∀a,OO O (one 0 λa=>a=p\/a=dx) a->O a\/Nw X.K H a:=λa z=>(one_oo.mp z).imp_right (hm a);have hlen:=rs.length;have Ea:Ev X.K O (one 0 λa=>a=p\/a=dx) (upd (upd H dx (.own p)) p (.ins (bS X.K c) dx [])) (.ow (.ob c [] [])::ts.map Sl.va) ((V.ref p::vs).map ZA):=by
  refine⟨⟨by simp[hlen],λi t e=>?_,λi o' e=>?_,λi a z=>.inr ⟨i,z⟩,λi k a z1 z2=>?_,λa z=>?_⟩,λa z y=>?_⟩
  .obtain⟨w,e1,e2⟩:=xV (v0:=V.ref p) rs e;exact⟨w,by rw[OH,e1];rfl,(e2.more subO).same sm0⟩
  .have hi:=xW e;subst hi;cases e;refine⟨.ref p,rfl,p,dx,[],rfl,λb=>?_,⟨by simp,by simp,ne,by simp⟩,aM,?_,rfl,by simp,rfl⟩
   .rw[show one 0 (λa=>a=p\/a=dx) 0=_ from Mn.KF];simp
   .rw[aI ne];exact aM
  .unfold one Mn.set at z1 z2;by_cases h1:i=0
   .by_cases h2:k=0
    .rw[h1,h2]
    .rw[if_neg h2]at z2;exact z2.elim
   .rw[if_neg h1]at z1;exact z1.elim
  .rcases one_oo.mp z with y|y|y
   .exact(mt a y).same sm0
   .rw[y];exact .inr (.inr ⟨_,aM,rfl⟩)
   .rw[y];exact .inr (.inr ⟨_,by rw[aI ne];exact aM,rfl⟩)
  .obtain⟨o,e⟩:=(mt a y).some;rw[(hm a (one_u.mp z)).1]at e;cases e
 have hq:spE X.K n 0 g (.ref p::(vs++[])) (upd (upd H dx (.own p)) p (.ins (bS X.K c) dx [])) (λv H2=>v=.non/\Q (.ref p) H2) E0:=by
  refine⟨_,O,_,.ref p,by rw[OS];exact Ea,by simp[hn],rfl,?_⟩;rw[hg];intro u H' m' s' ro hm' rt;refine⟨Rep.Nb.mp rt,h p H' m' (λb o e=>s' b o (sm0 _ _ e) λz=>?_) ro λa z=>?_⟩
  .rw[(hm b z).1]at e;cases e
  .rcases hm' a z with y|y
   .exact hm a y
   .exact dJ sm0 y
 have I2:=Inv.made (C:=bS X.K c) I;rw[hd,hp]at I2;have r2:Vals (V.ref p::(vs++[])) (OF p::(us++[])):=.cons rfl (r.append .nil);have hl:(OF p::us++[]).length=ps.length:=by rw[OS,Og,<-r.length,<-hlen,hps,hn]
 refine TF (CB (f:=f) I.kIn M.makes M.init (beq_iff_eq.mp M.fn) ?_);rw[hd,hp];have hb2:=hb _ (OF p::us) I2.kIn hl;rw[V7]at hb2;refine Rr (F.h.run _ X.stack _ _ ⟨OF p::us,[]⟩ (OF p::(us++[])) _ _ E0 (hr.make (bS X.K c) us []) (I2.NA.make (bS X.K c) us []) hb2 r2 hq) λr s' hq'=>?_;cases r with
 |error e=>exact hq'.elim
 |ok fl=>
  cases fl with
  |ret u=>
   obtain⟨v,H',I3,rv,ev,q3⟩:=I2.after hq';subst ev;exact⟨rv,⟨V.ref p,H',I3,rfl,q3⟩⟩
  |next=>exact PM hq'
  |brk=>exact PM hq'
  |cont=>exact PM hq'
def E9(i:Nat){fs:W3}{n0:Str}(M:Mk X.K (bS X.K c) f)(F:GZ X.prog X.w X.K X.mg X.base k f fd ps n 0 g)(hr:Room (k+1) X.A)(hm:X.mg c=ZA (.ref (bS X.K c)))(hb:Binds X.K fd ps [])(hps:ps.length=n)
  (hl:∀Z ts,fs Z=.ok ts->ts.length+1=n) (hN:X.N.Nodup) (ha:qf X (e::es) fs) (hi:autoParam (X.N[i]?=ZA n0) u_) (hx:autoParam (Loc X.env.scope n0) y_)
  (hs:autoParam (Pb (.Call (.Name c p) (e::es) [] pos) (ZA (.Name n0 p3)) spos.line X.env=pure ZD) u_) (hf:autoParam (X.fn n0=ZC\/X.env.scope.names.lookup n0=ZA .local) r_)
  (hg:autoParam (Gl X c) u_) (hdb:autoParam ((c == ("__debug__" : Str))=ZD) s_) (he:autoParam (Oq (e::es) X.env=(ZD,eval e X.env)::Oq es X.env) u_) (hpl:autoParam ((backTo pos (Oq es X.env)).any (·.1)=ZD) u_):
  oj X (.Assign [.Name n0 p3] (.Call (.Name c p) (e::es) [] pos) spos) (oO i c g fs):=by
 let te:TE:=λσ H Q=>∃Z B M',Ev X.K B M' H Z σ/\(∀c,fs Z=.err c->XA X ko H c)/\fs Z≠ .bad/\(∀ts,fs Z=.ok ts->∃o,g (.ow (.ob c [] [])::ts.map Sl.va)=.ok (.non,o)/\∀q H1 H' m,Same H H1->Same H1 H'->ORep X.K (BM (OO B M') m) m H' o (.ref q)->(∀a,m a->Nw X.K H1 a)->Q (.ref q) H')
 have pe:PE X (.Call (.Name c p) (e::es) [] pos) te:=by
  intro kt s σ H Q I ⟨Z,B,M',E,h1,h2,h3⟩;refine Pv (gy I hg hm ?_ hdb);refine QD (h₀:=X.base) I.ok.mod.kin M.kp (bR (ha pos kt s σ H (λvs H2=>∃ts,fs Z=.ok ts/\Same H H2/\Reps X.K (OO B M') H2 ts vs) I ⟨Z,OO B M',E.o,?_⟩) λus s1 ⟨vs,H1,I1,r,ts,q1,sm,rs⟩=>⟨I1.kIn,?_⟩) he hpl
  .cases z:fs Z with
   |bad=>exact(h2 z).elim
   |err c=>exact h1 c z
   |ok ts=>exact λH' s' vs rs=>⟨ts,rfl,s',rs⟩
  .obtain⟨o,hgo,hq⟩:=h3 ts q1;exact Al M F hr hb (hl Z ts q1) hps I1 r rs (E.same sm).env.trk hgo λq H' m s' ro hm'=>hq q H1 H' m sm s' ro hm'
 refine PS.imp (oR hN hi hx pe hs hf) λD σ H ⟨Z,B,M',E,h⟩=>?_;unfold oO at h;refine⟨Z,B,M',E,λc z=>?_,λz=>?_,λts z=>?_⟩
 .rw[z]at h;exact PostF.xa h
 .rw[z]at h;exact h
 .rw[z,ax]at h;cases z2:g (.ow (.ob c [] [])::ts.map Sl.va)with
  |bad=>rw[z2]at h;exact h.elim
  |err c=>rw[z2]at h;exact h.elim
  |ok q=>
   rw[z2]at h;replace h:PostF X B M'.u H (match q.1 with
    |.non=>if i<Z.length then .ok (.nx (Z.set i (.ow q.2)))else .bad
    |_=>.bad) D:=h
   obtain⟨t,o⟩:=q;cases t with
   |non=>
    dsimp only at h;refine⟨o,rfl,λq H1 H' m s1 s' ro hm'=>?_⟩;by_cases hl:i<Z.length
    .rw[if_pos hl]at h;obtain⟨E2,sub⟩:=(E.same s1).new (m:=m) (o:=o) (v:=.ref q) hl hm' s' (ro.move (P:=ko) (λ_ z=>z.elim) (λa z=>.inl (z.elim (λw=>.inl (.inl w)) λw=>(Mn.FM w).elim .inr λy=>.inl (.inr y))) (λb u q _=>q) λ_ _ z=>z);exact h _ _ _ (SameO.of (s1.trans s')) E2 λa z=>(sub a z).imp_right (dJ s1)
    .rw[if_neg hl]at h;exact h.elim
   |_=>exact h.elim
variable{b0:ZF}{body suite:List ZF}{ce:Str}{hpos np:Pos}
def D7(X:Cx)(suite:List ZF)(CE:ZE)(h:Str->Rs T):Prop:=
 ∀(c:Str)(C:ZE)(t:T),X.mg c=ZA (.ref C)->h c=.ok t->∃bm,OX X.K C bm/\(OF C::bm).contains (.ref CE)=ZC/\∀(e:ZE)(oe:Obj),mI (uh X e oe) suite (aV (cn t))
def JA{F:En->Rs Fx}{h:Str->Rs T}{CE:ZE}(hst:X.stack=X.env::X.outer)(hfe:X.env.frame=ZA X.env.locals)(hcl:∀x c,X.env.cells.lookup x≠ZA c)(hex:X.ex=[])
  (hm:X.mg ce=ZA (.ref CE)) (OE:OX X.K CE bmE)
  (hb:∀pn xe,Ep {X with pn:=pn,xe:=xe} j body F) (hs:D7 X (b0::suite) CE h) (hg:autoParam (Gl X ce) u_) (hd:autoParam ((ce == ("__debug__" : Str))=ZD) s_):
  Eo X j (.Try body [.ExceptHandler (ZA (.Name ce np)) ZB (b0::suite) hpos] [] [] pos) (pA F h):=by
 intro kt s σ H D I ⟨Z,B,M,E,hq⟩;refine We ?_;unfold pA at hq;cases q:F Z with
 |bad=>rw[q]at hq;exact hq.elim
 |ok fl=>
  rw[q]at hq;refine PX (hb X.pn (λ_ _=>False) kt s σ H D (I.FB _) ⟨Z,B,M,E,by rw[q];cases fl <;> exact hq⟩) (λf s1 r=>?_) (λe s1 z=>z.elim);cases f with
  |next=>obtain⟨σ7,H7,I7,q7⟩:=r;exact R0 ⟨σ7,H7,I7.FB _,q7⟩
  |ret u=>obtain⟨x7,σ7,H7,I7,r7,q7⟩:=r;exact⟨x7,σ7,H7,I7.FB _,r7,q7⟩
  |brk=>obtain⟨σ7,H7,I7,q7⟩:=r;exact⟨σ7,H7,I7.FB _,q7⟩
  |cont=>obtain⟨σ7,H7,I7,q7⟩:=r;exact⟨σ7,H7,I7.FB _,q7⟩
 |err c=>
  rw[q]at hq;cases q2:h c with
  |bad=>simp only[q2]at hq;exact hq.elim
  |err c'=>simp only[q2]at hq;exact hq.elim
  |ok t=>
   simp only[q2]at hq;have hq':∀v H',Same H H'->Rep X.K (OO B M) H' t v->D.rt v H':=λv H' s' r=>hq v σ H' M (SameO.of s') (E.same s') (λa z=>.inl z) rfl r;refine PX (hb (X.pn++kt) _ [] s σ H {nx:=λ_ _=>False,rt:=λ_ _=>False,bk:=λ_ _=>False,ct:=λ_ _=>False} ((Tr.Inv.NK kt I).FB _) ⟨Z,B,M,E,?_⟩) (λfl s' z=>?_) λ_ _ z=>z
   rotate_left
   .cases fl with
    |next=>obtain⟨_,_,_,z⟩:=z;exact z.elim
    |cont=>obtain⟨_,_,_,z⟩:=z;exact z.elim
    |brk=>obtain⟨_,_,_,z⟩:=z;exact z.elim
    |ret v=>obtain⟨_,_,_,_,_,z⟩:=z;exact z.elim
   rw[q];intro pins1 ev s1 w;obtain⟨e,T,C,σ1,H1,rfl,hmc,I1,smn,he,heo,fl,hT,hpp⟩:=w;have sm:Same H H1:=λb o z=>smn b o z λy=>y;have I1:Inv X kt σ1 H1 s1:=Tr.Inv.NJ (X:=X) I1;have hpp:∀p∈X.pn++kt,p.1≠e/\T≠ZA p.1:=λp hp=>hpp p (OL _ hp);have heo:=heo hex;have hT:∀t,T=ZA t->H1 t=ZB/\X.s₀.heap.get? t=ZB:=λt z=>⟨(hT t z).1,(hT t z).2 hex⟩;show ZJ _ _ _ _ _ _;have hfr:X.A.frames=ZA (X.env::X.outer):=by rw[<-hst];exact I1.ok.frames
   have hstk:s1.heap.FunFrames X.base (X.env::X.outer):=by rw[<-hst];exact I1.stack
   refine Hi hfr hstk hfe fl λh' T' g=>?_;have I2:=Inv.gone I1 hst hfe hcl hex g he heo hT hpp;have Tn:H1 T'=ZB/\X.s₀.heap.get? T'=ZB/\∀p∈X.pn++kt,p.1≠T':=by
    rcases g.new with z|z
    .exact⟨(hT T' z).1,(hT T' z).2,λp hp y=>(hpp p hp).2 (by rw[z,y])⟩
    .exact⟨jm I1 z,e9 I1 hex z,λp hp y=>by have:=(I1.pin p hp).1;rw[y,z]at this;cases this⟩
   obtain⟨bm,OC,hin,run⟩:=hs c C t hmc q2;obtain⟨hTe,oe,ev,hoe,hoc,hod,h1,oT,ts,hoT,hdT,h3⟩:=g.flt;have nfr:∀b o vs,h'.get? b=ZA o->o.data=.fields vs->b∉(X.env::X.outer).filterMap (·.frame):=λb o vs hb hd z=>by have:=I2.stack;rw[hst]at this;obtain⟨_,o',ho',hnf⟩:=this.mem z;rw[show h'.get? b=ZA o' from ho']at hb;cases hb;exact hnf vs hd
   have hel:e≠X.env.locals:=λz=>nfr e oe ev hoe hod (by rw[PB,hfe];exact z▸Oe);have hef:e∉X.fs:=λz=>nfr e oe ev hoe hod (by rw[PB,hfe];exact N8 _ z);have hcell:∀v,oe.data≠ .cell v:=λv z=>by rw[hod]at z;cases z
   have I3:Inv (uh X e oe) kt σ1 H1 {s1 with heap:=h'}:=nZ I2 hoe he hel hef hcell;refine UX (Uv (gy (X:=uh X e oe) I3 hg hm ?_ hd)) (by intro z;cases z);obtain⟨nm,qq,N,bs,hdct,sn,sub,ab,col,dd,k0,k1,k2,k3,k5,mN,hC,_⟩:=OC.at_ h' I3.kIn;obtain⟨nm',qq',N',bs',hdct',sn',sub',ab',col',dd',k0',k1',k2',k3',k5',mN',hD,_,_,TD⟩:=OE.at_ h' I3.kIn;refine rh hC hD hoe hoc (TD.tail.hasType (by decide)) hin (codeAny_handlers_suite ?_);refine UF hoe hod h1 hoT hdT (Pw.mp h3).1 ?_;generalize hU:h'.update T' (SM (·.setIfInBounds 3 O7))=h2;have kp:∀b,b≠T'->h2.get? b=h'.get? b:=λb hb=>by rw[<-hU];exact Ri _ _ (Ra hb)
   have hT2:h2.get? T'=ZA (SM (·.setIfInBounds 3 O7) oT):=by rw[<-hU];exact Sj _ hoT (Sk (QH hdT _))
   have hoe2:h2.get? e=ZA oe:=(kp e (Ra hTe)).trans hoe;have g2:Ee ((X.env::X.outer).filterMap (·.frame)) C e (ZA T') h' h2 T':=⟨⟨hTe,oe,ev,hoe2,hoc,hod,h1,_,_,hT2,QH hdT _,by simp[(Pw.mp h3).1]⟩,.inl rfl,λb o _ _ n3 q=>(kp b λz=>n3 (by rw[z])).trans q,λb o m q=>⟨o.slots,(kp b λz=>nfr T' oT ts hoT hdT (z▸m)).trans q⟩⟩;have I4:Inv X kt σ1 H1 {s1 with heap:=h2}:=Inv.gone (s:={s1 with heap:=h'}) I2 hst hfe hcl hex g2 he heo (λt z=>by cases z;exact⟨Tn.1,Tn.2.1⟩) λp hp=>⟨(hpp p hp).1,λz=>Tn.2.2 p hp (O0 z).symm⟩;have I5:Inv (uh X e oe) kt σ1 H1 {s1 with heap:=h2}:=nZ I4 hoe2 he hel hef hcell;have Eb:=(E.same sm).blank;obtain⟨Zb,hρb⟩:∃Zb:En,Zb=OK σ1.length Sl.em:=⟨_,rfl⟩;have E1:Ev X.K (OO B M) noM H1 Zb σ1:=by subst hρb;exact⟨⟨by simp,λi t e=>(by rw[Pk]at e;split at e <;> cases e),λi o e=>(by rw[Pk]at e;split at e <;> cases e),λ_ _ z=>z.elim,λ_ _ _ z=>z.elim,Eb.env.trk⟩,λa ⟨_,z⟩=>z.elim⟩
   refine PX (run e oe kt _ σ1 H1 {nx:=λ_ _=>False,rt:=λv H'=>Same H1 H'/\Rep X.K (OO B M) H' t v} I5 ⟨Zb,OO B M,noM,E1,λv H' s' r=>⟨λb o z=>s' b o z λ⟨_,y⟩=>y,r⟩⟩) (λf s4 r=>?_) λ_ _ z=>z.elim;cases f with
   |next=>obtain⟨_,_,_,z⟩:=r;exact z.elim
   |brk=>obtain⟨_,_,_,z⟩:=r;exact z.elim
   |cont=>obtain⟨_,_,_,z⟩:=r;exact z.elim
   |ret u=>
    obtain⟨v,σ',H',I7,rv,s',rt⟩:=r;exact⟨v,_,H',zD I.ok I7,rv,hq' v H' (λb o y=>s' b o (sm b o y)) rt⟩
structure QE (X:Cx)(e:ZG)(f:W5):Prop where
 h:cm X e f
structure QA (X:Cx)(e:List ZG)(f:W3):Prop where
 h:qf X e f
structure QT (X:Cx)(e:ZG)(f:W6):Prop where
 h:wq X e f
structure QW (X:Cx)(e:ZG)(f:W6):Prop where
 h:HF X e f
structure QS (X:Cx)(e:ZF)(f:W4):Prop where
 h:oj X e f
structure yg (X:Cx)(e:List ZF)(f:W4):Prop where
 h:mI X e f
structure QG (X:Cx)(e:ZG)(f:T->En->Rs En):Prop where
 h:GW X e f
structure M8 (X:Cx)(e:List ZG)(f:List T->En->Rs En):Prop where
 h:Ed X e f
structure QI (X:Cx)(t e:ZG)(f:W3):Prop where
 h:Be X t e f
structure QO (X:Cx)(e:Option ZG)(f:En->Rs (Option Int)):Prop where
 h:MQ X e f
structure KC (X:Cx)(e:List ZG)(f:W6):Prop where
 h:z0 X e (Bb X f)
def af(i:Nat)(hN:autoParam ((Cx.N X)[i]?=ZA x) u_)(hv:autoParam (kA (Qt (Cx.env X)) x) v_)(hd:autoParam ((x == Ot "__debug__")=ZD) s_)(hcd:autoParam ((x == Ot "__classdict__")=ZD) s_):QE X (Pa x pos) (vr i):=
 ⟨Ll (i:=i) (hN:=hN) (hv:=hv) (hd:=hd) (hcd:=hcd)⟩
def ai{i:Int}:QE X (TM (Const.int i) j pos) (cn (T.int i)):=
 ⟨Lv ⟩
def kX{i:Bool}:QE X (TM (Const.bool i) j pos) (cn (T.bl i)):=
 ⟨q_bl ⟩
def cu:QE X (TM Const.none j pos) (cn T.non):=
 ⟨Lq ⟩
def sd{i:Str}:QE X (TM (Const.str i) j pos) (cn (T.str i)):=
 ⟨Ln ⟩
def Ez{i:Int}{u:N9}(hm:Cx.mg X x=ZA u)(r:L2.RelV (V.int i) u)(hg:autoParam (Gl X x) u_)(hd:autoParam ((x == Ot "__debug__")=ZD) s_):QE X (Pa x pos) (cn (T.int i)):=
 ⟨IJ (hm:=hm) (r:=r) (hg:=hg) (hd:=hd)⟩
def ah:QA X [] aj:=
 ⟨II ⟩
def ag{f:W5}{g:W3}(he:QE X e f)(hr:QA X es g)(hn:autoParam (a9 e=ZC) u_):QA X (e::es) (ae f g):=
 ⟨qa_c (he:=he.h) (hr:=hr.h) (hn:=hn)⟩
variable{f:W3}
def a7(h:QA X es f):QE X (Expr.Tuple es x1 pos) (ba f):=
 ⟨Lm (h:=h.h)⟩
def ik(h:QA X es f):QE X (Expr.List es pos) (gc f):=
 ⟨Ls (h:=h.h)⟩
variable{b:ZG}{g:T->T->Rs T}
def ay{op:Wh}(ho:OpT X (P6 op) g)(ha:QE X a fa)(hb:QE X b fb):QE X (Expr.BinOp a op b pos) (o2 g fa fb):=
 ⟨Lz (ho:=ho) (ha:=ha.h) (hb:=hb.h)⟩
def il(ho:OpT X (Pe op) g)(ha:QE X a fa)(hb:QE X b fb)(hm:autoParam (RD op b=ZD) u_):QE X (VT a [op] [b] pos) (o2 g fa fb):=
 ⟨Ly (ho:=ho) (ha:=ha.h) (hb:=hb.h) (hm:=hm)⟩
def i8(ha:QE X a fa):QE X (VU UnaryOp.USub a pos) (o1 ke fa):=
 ⟨Lr (ha:=ha.h)⟩
variable{c:ZG}
def uG{fc:W5}{op':WJ}{g':T->T->Rs T}(ho:OpT X (Pe op) g)(ho':OpT X (Pe op') g')(ha:QE X a fa)(hb:QE X b fb)(hc:QE X c fc)(hm:autoParam (lastMarks [op,op'] [b,c]=ZD) w_):QE X (VT a [op,op'] [b,c] pos) (ch g g' fa fb fc):=
 ⟨Fs (ho:=ho) (ho':=ho') (ha:=ha.h) (hb:=hb.h) (hc:=hc.h) (hm:=hm)⟩
def dv{f:W5}(h:QE X e f)(he:autoParam (∀(whole:Sem N9),PySem.isTrue e (Cx.env X) whole=(do let v <-whole;standAt (Expr.pos e);holding [v] (truthy v))) t_):QT X e (tb f):=
 ⟨Il (h:=h.h) (he:=he)⟩
def bc(ho:OpT X (Pe op) g)(ha:QE X a fa)(hb:QE X b fb)(hm:autoParam (RD op b=ZD) u_):QT X (VT a [op] [b] pos) (tb (o2 g fa fb)):=
 ⟨Io (ho:=ho) (ha:=ha.h) (hb:=hb.h) (hm:=hm)⟩
variable{f:W6}
def uE(ha:QT X a f):QW X (QR Uw [a] pos) f:=
 ⟨E6 (ha:=ha.h)⟩
def nM(ha:QT X a f):QW X (QR U6 [a] pos) f:=
 ⟨Ij (ha:=ha.h)⟩
def r8{g:W6}{bK:List ZG}(ha:QT X a f)(hb:QW X (QR Uw (b::bK) pos) g):QW X (QR Uw (a::b::bK) pos) (kh f g):=
 ⟨Ik (ha:=ha.h) (hb:=hb.h)⟩
def r6{g:W6}{bK:List ZG}(ha:QT X a f)(hb:QW X (QR U6 (b::bK) pos) g):QW X (QR U6 (a::b::bK) pos) (y8 f g):=
 ⟨Lg (ha:=ha.h) (hb:=hb.h)⟩
def qN(h:QW X e f):QT X e f:=
 ⟨qt_w (h:=h.h)⟩
def fj(ha:QT X a f):QT X (VU UnaryOp.Not a pos) (eZ f):=
 ⟨Im (ha:=ha.h)⟩
def d6{op:BoolOp}(h:QE X a fa):QE X (QR op [a] pos) fa:=
 ⟨Lo (h:=h.h)⟩
def dP{bK:List ZG}(ha:QE X a fa)(hb:QE X (QR Uw (b::bK) pos) fb):QE X (QR Uw (a::b::bK) pos) (dD fa fb):=
 ⟨LA (ha:=ha.h) (hb:=hb.h)⟩
def G2{bK:List ZG}(ha:QE X a fa)(hb:QE X (QR U6 (b::bK) pos) fb):QE X (QR U6 (a::b::bK) pos) (FN fa fb):=
 ⟨q_or (ha:=ha.h) (hb:=hb.h)⟩
def HK(ha:QE X a fa):QE X (VU UnaryOp.Not a pos) (o1 FW fa):=
 ⟨Lp (ha:=ha.h)⟩
def yu(hc:QT X c f)(ha:QE X a fa)(hb:QE X b fb):QE X (Expr.IfExp c a b pos) (Dh f fa fb):=
 ⟨q_if (hc:=hc.h) (ha:=ha.h) (hb:=hb.h)⟩
def aA(ha:QE X a fa)(hb:QE X b fb)(hs:autoParam (zZ b) x_):QE X (Sd a b pos) (o2 aR fa fb):=
 ⟨q_ix (ha:=ha.h) (hb:=hb.h) (hs:=hs)⟩
def gU:QO X ZB pN:=
 ⟨Ff ⟩
def gS(ha:QE X a fa):QO X (ZA a) (pS fa):=
 ⟨Fe (ha:=ha.h)⟩
def gV{lo hi:Option ZG}{p2:Pos}{fl fu:En->Rs (Option Int)}(ha:QE X a fa)(hl:QO X lo fl)(hu:QO X hi fu):QE X (Sd a (Expr.Slice lo hi ZB p2) pos) (sl fa fl fu):=
 ⟨Fp (ha:=ha.h) (hl:=hl.h) (hu:=hu.h)⟩
variable{g:List T->Rs T}
def cw{fs:W3}{id:String}(hc:CallT X (Ru id) g)(hm:Cx.mg X x=ZB)(hv:O6 x=ZA (Ru id))(ha:QA X (e::es) fs)(hn:autoParam (br (e::es)=ZC) u_)(hg:autoParam (Gl X x) u_)(h1:autoParam (x≠Ot "__name__") s_)(h2:autoParam ((x == Ot "__debug__")=ZD) s_):QE X (Qu (Pa x p) (e::es) [] pos) (cl g fs):=
 ⟨q_cB (hc:=hc) (hm:=hm) (hv:=hv) (ha:=ha.h) (hn:=hn) (hg:=hg) (h1:=h1) (h2:=h2)⟩
def oq{fs:W3}(hc:CallT X (Q1 Ty) g)(hm:Cx.mg X x=ZB)(hv:O6 x=ZA (Q1 Ty))(ha:QA X (e::es) fs)(hn:autoParam (br (e::es)=ZC) u_)(hg:autoParam (Gl X x) u_)(h1:autoParam (x≠Ot "__name__") s_)(h2:autoParam ((x == Ot "__debug__")=ZD) s_):QE X (Qu (Pa x p) (e::es) [] pos) (cl g fs):=
 ⟨q_cT (hc:=hc) (hm:=hm) (hv:=hv) (ha:=ha.h) (hn:=hn) (hg:=hg) (h1:=h1) (h2:=h2)⟩
def zq_c{fs:W3}{f:ZE}(F:Er (Cx.prog X) (Cx.w X) (Cx.K X) (Cx.mg X) (Cx.base X) k f fd ps n g)(hr:Room k (Cx.A X))(hm:Cx.mg X x=ZA (OF f))(hk:W.keepIn (Cx.K X) (OF f)=ZC)(hb:L2.Binds (Cx.K X) fd ps [])(hl:∀(Z:En)(ts:List T),fs Z=Rs.ok ts->QQ ts=n)(ha:QA X (e::es) fs)(hps:autoParam (QQ ps=n) u_)(hn:autoParam (br (e::es)=ZC) u_)(hg:autoParam (Gl X x) u_)(h2:autoParam ((x == Ot "__debug__")=ZD) s_):QE X (Qu (Pa x p) (e::es) [] pos) (cl g fs):=
 ⟨q_c (F:=F) (hr:=hr) (hm:=hm) (hk:=hk) (hb:=hb) (hl:=hl) (ha:=ha.h) (hps:=hps) (hn:=hn) (hg:=hg) (h2:=h2)⟩
def Bm{p2:Pos}{tn:Str}(hm:Cx.mg X (Ot "isinstance")=ZB)(hmt:Cx.mg X tn=ZB)(hv:O6 tn=ZA (Q1 Ty))(ha:QE X a fa)(hn:autoParam (a9 a=ZC) u_)(hg:autoParam (Gl X (Ot "isinstance")) u_)(hgt:autoParam (Gl X tn) u_)(h1:autoParam (tn≠Ot "__name__") s_)(h2:autoParam ((tn == Ot "__debug__")=ZD) s_):QE X (Qu (Pa (Ot "isinstance") p) [a,Pa tn p2] [] pos) (o1 (Gj Ty) fa):=
 ⟨q_is (hm:=hm) (hmt:=hmt) (hv:=hv) (ha:=ha.h) (hn:=hn) (hg:=hg) (hgt:=hgt) (h1:=h1) (h2:=h2)⟩
def aq(i:Nat)(hN:RQ (Cx.N X))(hi:autoParam ((Cx.N X)[i]?=ZA x) u_)(hx:autoParam (L2.Loc (Qt (Cx.env X)) x) y_)(hf:autoParam (Cx.fn X x=ZC\/PR x (SZ (Qt (Cx.env X)))=ZA NameKind.local) r_):QG X (Pa x pos) (gN i):=
 ⟨Fm (i:=i) (hN:=hN) (hi:=hi) (hx:=hx) (hf:=hf)⟩
def kU:M8 X [] Ek:=
 ⟨Fj ⟩
variable{g:T->En->Rs En}{gs:List T->En->Rs En}
def dS(h1:QG X e g)(h2:M8 X es gs)(hs:autoParam (Wg (λx=>Prod.snd x) (Qc (e::es) (Cx.env X))=assign e (Cx.env X)::Wg (λx=>Prod.snd x) (Qc es (Cx.env X))) u_):M8 X (e::es) (vP g gs):=
 ⟨BO (h1:=h1.h) (h2:=h2.h) (hs:=hs)⟩
def nN(hc:Cx.calm X=ZC)(h:M8 X es gs)(hn:autoParam (QQ (Qc es (Cx.env X))=n) u_)(hst:autoParam (List.findIdx? (λx=>Prod.fst x) (Qc es (Cx.env X))=ZB) u_):QG X (Expr.Tuple es k pos) (gT n gs):=
 ⟨IH (hc:=hc) (h:=h.h) (hn:=hn) (hst:=hst)⟩
variable{tg:ZG}
def cI{fs:W3}(hm:Cx.mg X (Ot "range")=ZB)(ha:QA X [a] fs)(hg:autoParam (Gl X (Ot "range")) u_)(hs:autoParam (Oq [a] (Cx.env X)=[(ZD,eval a (Cx.env X))]) u_):QI X tg (Qu (Pa (Ot "range") p) [a] [] pos) (iR fs):=
 ⟨An (hm:=hm) (ha:=ha.h) (hg:=hg) (hs:=hs)⟩
def wK{fs:W3}(hm:Cx.mg X (Ot "range")=ZB)(ha:QA X [a,b] fs)(hg:autoParam (Gl X (Ot "range")) u_)(hs:autoParam (Oq [a,b] (Cx.env X)=[(ZD,eval a (Cx.env X)),(ZD,eval b (Cx.env X))]) u_)(hs2:autoParam (Oq [b] (Cx.env X)=[(ZD,eval b (Cx.env X))]) u_):QI X tg (Qu (Pa (Ot "range") p) [a,b] [] pos) (iR fs):=
 ⟨Am (hm:=hm) (ha:=ha.h) (hg:=hg) (hs:=hs) (hs2:=hs2)⟩
def bN:KC X [] bT:=
 ⟨Fh ⟩
def Bj(h:QT X c f):KC X [c] f:=
 ⟨Fg (h:=h.h)⟩
variable{N':List Str}{elt iter:ZG}{fc:W6}{fe:W5}{fi:W3}{ifs:List ZG}{tgt:T->En->Rs En}
def KG{src:List (Option Nat)}(hc:Cx.calm X=ZC)(S:LcScope X scope N' src)(hi:QI X tg iter fi)(block:∀(cl:List (Str×ZE))(C:ZE)(s₀:Ob)(H₀:Hp)(fp:List ZE),QG (bz X scope cl N' C s₀ H₀ fp) tg tgt/\KC (bz X scope cl N' C s₀ H₀ fp) ifs fc/\QE (bz X scope cl N' C s₀ H₀ fp) elt fe)(hs:autoParam (∀(x:N9),O9 iter (Cx.env X) x=pure x) t_):QE X (Rw elt [{target:=tg,iter:=iter,ifs:=ifs,is_async:=0}] scope pos) (fE fi src tgt fc fe):=
 ⟨q_lc (hc:=hc) (S:=S) (hi:=hi.h) (block:=λa1 a2 a3 a4 a5=>⟨(block a1 a2 a3 a4 a5).1.h,(block a1 a2 a3 a4 a5).2.1.h,(block a1 a2 a3 a4 a5).2.2.h⟩) (hs:=hs)⟩
def bU:yg X [] sN:=
 ⟨Iu ⟩
def ak{bK:List ZF}{F G:W4}(h1:QS X st F)(h2:yg X bK G):yg X (st::bK) (aF F G):=
 ⟨Fc (h1:=h1.h) (h2:=h2.h)⟩
def au{F:W4}(h:QS X st F):yg X [st] F:=
 ⟨Ir (h:=h.h)⟩
def aC(ha:QE X a fa):QS X (Stmt.Return (ZA a) pos) (aV fa):=
 ⟨Ip (ha:=ha.h)⟩
def cQ{A B:List ZF}{F G:W4}(hc:QT X c f)(ha:yg X A F)(hb:yg X B G):QS X (Stmt.If c A B pos) (i7 f F G):=
 ⟨Lj (hc:=hc.h) (ha:=ha.h) (hb:=hb.h)⟩
def HI{py:Pos}{src:List (Option Nat)}(i:Nat)(hc:Cx.calm X=ZC)(S:LcScope X scope N' src)(hi:QI X tg iter fi)(block:∀(cl:List (Str×ZE))(C:ZE)(s₀:Ob)(H₀:Hp)(fp:List ZE),QG (bz X scope cl N' C s₀ H₀ fp) tg tgt/\KC (bz X scope cl N' C s₀ H₀ fp) ifs fc/\QE (bz X scope cl N' C s₀ H₀ fp) elt fe)(hN:RQ (Cx.N X))(hiy:autoParam ((Cx.N X)[i]?=ZA y) u_)(hy:autoParam (L2.Loc (Qt (Cx.env X)) y) y_)(hsw:autoParam (Pb (Rw elt [{target:=tg,iter:=iter,ifs:=ifs,is_async:=0}] scope pos) (ZA (Pa y py)) (Rx spos) (Cx.env X)=pure ZC) u_)(hf:autoParam (Cx.fn X y=ZC\/PR y (SZ (Qt (Cx.env X)))=ZA NameKind.local) r_)(hs:autoParam (∀(x:N9),O9 iter (Cx.env X) x=pure x) t_):QS X (S0 [Pa y py] (Rw elt [{target:=tg,iter:=iter,ifs:=ifs,is_async:=0}] scope pos) spos) (dh (fE fi src tgt fc fe) (gN i)):=
 ⟨Li (i:=i) (hc:=hc) (S:=S) (hi:=hi.h) (block:=λa1 a2 a3 a4 a5=>⟨(block a1 a2 a3 a4 a5).1.h,(block a1 a2 a3 a4 a5).2.1.h,(block a1 a2 a3 a4 a5).2.2.h⟩) (hN:=hN) (hiy:=hiy) (hy:=hy) (hsw:=hsw) (hf:=hf) (hs:=hs)⟩
def yr{py:Pos}{src:List (Option Nat)}(i:Nat)(hc:Cx.calm X=ZC)(S:LcScope X scope N' src)(hi:QI X tg iter fi)(block:∀(cl:List (Str×ZE))(C:ZE)(s₀:Ob)(H₀:Hp)(fp:List ZE),QG (bz X scope cl N' C s₀ H₀ fp) tg tgt/\KC (bz X scope cl N' C s₀ H₀ fp) ifs fc/\QE (bz X scope cl N' C s₀ H₀ fp) elt fe)(hN:RQ (Cx.N X))(hiy:autoParam ((Cx.N X)[i]?=ZA y) u_)(hy:autoParam (L2.Loc (Qt (Cx.env X)) y) y_)(hsw:autoParam (Pb (Rw elt [{target:=tg,iter:=iter,ifs:=ifs,is_async:=0}] scope pos) (ZA (Pa y py)) (Rx spos) (Cx.env X)=pure ZC) u_)(hf:autoParam (Cx.fn X y=ZC\/PR y (SZ (Qt (Cx.env X)))=ZA NameKind.local) r_)(hs:autoParam (∀(x:N9),O9 iter (Cx.env X) x=pure x) t_):QS X (S0 [Pa y py] (Rw elt [{target:=tg,iter:=iter,ifs:=ifs,is_async:=0}] scope pos) spos) (oN i (fE fi src tgt fc fe)):=
 ⟨Iv (i:=i) (hc:=hc) (S:=S) (hi:=hi.h) (block:=λa1 a2 a3 a4 a5=>⟨(block a1 a2 a3 a4 a5).1.h,(block a1 a2 a3 a4 a5).2.1.h,(block a1 a2 a3 a4 a5).2.2.h⟩) (hN:=hN) (hiy:=hiy) (hy:=hy) (hsw:=hsw) (hf:=hf) (hs:=hs)⟩
def aO(ha:QE X a fa)(hg:QG X tg g)(hs:autoParam (Va [tg] a (Rx pos) (Cx.env X)=pure ZD) u_)(hw:autoParam (Vb [tg] a (Cx.env X)=pure ZB) u_)(h1:autoParam (Wg (λx=>Prod.snd x) (Qc [tg] (Cx.env X))=[assign tg (Cx.env X)]) u_):QS X (S0 [tg] a pos) (dh fa g):=
 ⟨IC (ha:=ha.h) (hg:=hg.h) (hs:=hs) (hw:=hw) (h1:=h1)⟩
def bA(ha:QE X a fa)(hs:autoParam (Pb a ZB (Rx pos) (Cx.env X)=pure ZD) u_):QS X (Stmt.Expr a pos) (mK fa):=
 ⟨Fb (ha:=ha.h) (hs:=hs)⟩
def dw{F:W4}(hc:Cx.calm X=ZC)(hi:QI X tg iter fi)(hg:QG (Cx.nox X) tg g)(hb:yg (Cx.nox X) body F)(hs:autoParam (∀(x:N9),O9 iter (Cx.env X) x=pure x) t_):QS X (Stmt.For tg iter body [] pos) (gE fi g F):=
 ⟨Iw (hc:=hc) (hi:=hi.h) (hg:=hg.h) (hb:=hb.h) (hs:=hs)⟩
def qO{F:W4}(n:Nat)(hc:QT (Cx.nox X) c fc)(hb:yg (Cx.nox X) body F):QS X (Stmt.While c body [] pos) (bJ fc F n):=
 ⟨BL (n:=n) (hc:=hc.h) (hb:=hb.h)⟩
def cM(ha:QE X a fa):QI X tg a (iS fa):=
 ⟨IF (ha:=ha.h)⟩
def kS{fs:W3}{elts:List ZG}{tpos:Pos}(hm:Cx.mg X (Ot "enumerate")=ZB)(ha:QA X [a] fs)(hg:autoParam (Gl X (Ot "enumerate")) u_)(hs:autoParam (Oq [a] (Cx.env X)=[(ZD,eval a (Cx.env X))]) u_):QI X (Expr.Tuple elts kk tpos) (Qu (Pa (Ot "enumerate") p) [a] [] pos) (iE fs):=
 ⟨Fi (hm:=hm) (ha:=ha.h) (hg:=hg) (hs:=hs)⟩
def gR{p2:Pos}(i:Nat){f:W3}(hN:RQ (Cx.N X))(ha:QA X es f)(hi:autoParam ((Cx.N X)[i]?=ZA x) u_)(hx:autoParam (L2.Loc (Qt (Cx.env X)) x) y_)(hs:autoParam (Pb (Expr.List es p2) (ZA (Pa x p3)) (Rx pos) (Cx.env X)=pure ZD) u_)(hf:autoParam (Cx.fn X x=ZC\/PR x (SZ (Qt (Cx.env X)))=ZA NameKind.local) r_):QS X (S0 [Pa x p3] (Expr.List es p2) pos) (iX i f):=
 ⟨E7 (i:=i) (hN:=hN) (ha:=ha.h) (hi:=hi) (hx:=hx) (hs:=hs) (hf:=hf)⟩
def fO{p2:Pos}(i:Nat)(ha:QE X a fa)(hN:autoParam ((Cx.N X)[i]?=ZA x) u_)(hv:autoParam (kA (Qt (Cx.env X)) x) v_)(hn:autoParam (a9 a=ZC) u_)(hbase:autoParam (OR (Pa x p2) (Ot "append") (Cx.env X) (eval (Pa x p2) (Cx.env X))=eval (Pa x p2) (Cx.env X)) u_)(hline:autoParam ((TN apos == Rx cpos)=ZC) u_)(hd:autoParam ((x == Ot "__debug__")=ZD) s_)(hcd:autoParam ((x == Ot "__classdict__")=ZD) s_)(hsw:autoParam (Pb (Qu (Rg (Pa x p2) (Ot "append") apos) [a] [] cpos) ZB (Rx pos) (Cx.env X)=pure ZD) u_):QS X (Stmt.Expr (Qu (Rg (Pa x p2) (Ot "append") apos) [a] [] cpos) pos) (gF i fa):=
 ⟨ID (i:=i) (ha:=ha.h) (hN:=hN) (hv:=hv) (hn:=hn) (hbase:=hbase) (hline:=hline) (hd:=hd) (hcd:=hcd) (hsw:=hsw)⟩
def r9{p2:Pos}(i:Nat)(ha:QE X a fa)(hN:autoParam ((Cx.N X)[i]?=ZA x) u_)(hv:autoParam (kA (Qt (Cx.env X)) x) v_)(hn:autoParam (a9 a=ZC) u_)(hbase:autoParam (OR (Pa x p2) (Ot "extend") (Cx.env X) (eval (Pa x p2) (Cx.env X))=eval (Pa x p2) (Cx.env X)) u_)(hline:autoParam ((TN apos == Rx cpos)=ZC) u_)(hd:autoParam ((x == Ot "__debug__")=ZD) s_)(hcd:autoParam ((x == Ot "__classdict__")=ZD) s_)(hsw:autoParam (Pb (Qu (Rg (Pa x p2) (Ot "extend") apos) [a] [] cpos) ZB (Rx pos) (Cx.env X)=pure ZD) u_):QS X (Stmt.Expr (Qu (Rg (Pa x p2) (Ot "extend") apos) [a] [] cpos) pos) (oP i fa):=
 ⟨Iy (i:=i) (ha:=ha.h) (hN:=hN) (hv:=hv) (hn:=hn) (hbase:=hbase) (hline:=hline) (hd:=hd) (hcd:=hcd) (hsw:=hsw)⟩
def fm(i:Nat){F:W4}(h:QS X st F):QS X st (kF i F):=
 ⟨IA (i:=i) (h:=h.h)⟩
def kW(i:Nat){f:W5}(h:QE X e f):QE X e (ln i f):=
 ⟨q_ln (i:=i) (h:=h.h)⟩
def wJ(i:Nat)(h:QT X e f):QT X e (Bd i f):=
 ⟨Lh (i:=i) (h:=h.h)⟩
def HJ:QS X (Stmt.Continue pos) K8:=
 ⟨Lk ⟩
def Ex(i:Nat){pos':Pos}(hN:RQ (Cx.N X))(ha:QE X a fa)(hi:autoParam ((Cx.N X)[i]?=ZA x) u_)(hx:autoParam (L2.Loc (Qt (Cx.env X)) x) y_)(hf:autoParam (Cx.fn X x=ZC\/PR x (SZ (Qt (Cx.env X)))=ZA NameKind.local) r_):QS X (Stmt.AugAssign (Pa x pos') Operator.Add a pos) (BH i fa):=
 ⟨IB (i:=i) (hN:=hN) (ha:=ha.h) (hi:=hi) (hx:=hx) (hf:=hf)⟩
variable{C:ZE}
def gQ{c:Str}{msg:Str}{p1:Pos}(O:OX X.K C bm)(hm:X.mg c=ZA (.ref C))(hc:autoParam (X.calm=ZC) u_)(hg:autoParam (Gl X c) u_)(hd:autoParam ((c == ("__debug__" : Str))=ZD) s_):
  QS X (.Raise (ZA (.Call (.Name c np) [.Constant (.str msg) j p1] [] cpos)) ZB pos) (uX c):=⟨BN O.own hc hm hg hd⟩
def sg{base:ZH}{f:ZE}{F:W4}(Fn:L2.Fun K x qual st f fd)(S:bo N ps (ao st))(hn:ps.length=n)
  (hbody:∀(cdv:N9)(A:OY)(outer:List Env)(s:Ob)(H:Hp)(E:XK),Room k (A.deeper (envOfC qual (ao st) s.heap.objs.size f cdv)) ->
   ∀xe,yg ((gf CX0 P w K mg base N qual (ao st) f cdv A outer s H E).FB xe) (bD st) F):Er P w K mg base (k+1) f fd ps n (val n N.length F):=J4 Fn S hn λcdv A outer s H E hr xe=>(hbody cdv A outer s H E hr xe).h
def se(hu:So (Cx.A X)+1<cLine)(ha:QE X a fa)(hb:QE X b fb)(hs:autoParam (GX b) x_):QE X (Sd a b pos) (o2 jB fa fb):=
 ⟨Lx (hu:=hu) (ha:=ha.h) (hb:=hb.h) (hs:=hs)⟩
def yw(hu:So (Cx.A X)+1<cLine)(ha:QE X a fa)(hb:QE X b fb)(hn:autoParam (a9 b=ZC) u_)(hbase:autoParam (OR a (Ot "get") (Cx.env X) (eval a (Cx.env X))=eval a (Cx.env X)) u_)(hline:autoParam ((TN apos == Rx cpos)=ZC) u_):QE X (Qu (Rg a (Ot "get") apos) [b] [] cpos) (oD i6 fa fb):=
 ⟨IK (hu:=hu) (ha:=ha.h) (hb:=hb.h) (hn:=hn) (hbase:=hbase) (hline:=hline)⟩
def z8(hu:So (Cx.A X)+61<cLine)(ha:QE X a fa)(hb:QE X b fb)(hn:autoParam (a9 b=ZC) u_)(hbase:autoParam (OR a (Ot "index") (Cx.env X) (eval a (Cx.env X))=eval a (Cx.env X)) u_)(hline:autoParam ((TN apos == Rx cpos)=ZC) u_):QE X (Qu (Rg a (Ot "index") apos) [b] [] cpos) (oL gw fa fb):=
 ⟨BP (hu:=hu) (ha:=ha.h) (hb:=hb.h) (hn:=hn) (hbase:=hbase) (hline:=hline)⟩
def z9(hu:So (Cx.A X)+61<cLine)(ha:QE X a fa)(hb:QE X b fb)(hn:autoParam (a9 b=ZC) u_)(hbase:autoParam (OR a (Ot "count") (Cx.env X) (eval a (Cx.env X))=eval a (Cx.env X)) u_)(hline:autoParam ((TN apos == Rx cpos)=ZC) u_):QE X (Qu (Rg a (Ot "count") apos) [b] [] cpos) (oL nV fa fb):=
 ⟨BQ (hu:=hu) (ha:=ha.h) (hb:=hb.h) (hn:=hn) (hbase:=hbase) (hline:=hline)⟩
def Bi{f:W5}{p2:Pos}(i:Nat)(hu:So (Cx.A X)+8<cLine)(hc:Cx.calm X=ZC)(hm:Cx.mg X (Ot "dict")=ZB)(hN:RQ (Cx.N X))(ha:QE X e f)(hst:autoParam (a9 e=ZC) u_)(hg:autoParam (Gl X (Ot "dict")) u_)(hi:autoParam ((Cx.N X)[i]?=ZA x) u_)(hx:autoParam (L2.Loc (Qt (Cx.env X)) x) y_)(hs:autoParam (Pb (Qu (Pa (Ot "dict") p) [e] [] p2) (ZA (Pa x p3)) (Rx pos) (Cx.env X)=pure ZD) u_)(hf:autoParam (Cx.fn X x=ZC\/PR x (SZ (Qt (Cx.env X)))=ZA NameKind.local) r_):QS X (S0 [Pa x p3] (Qu (Pa (Ot "dict") p) [e] [] p2) pos) (qW i f):=
 ⟨E8 (i:=i) (hu:=hu) (hc:=hc) (hm:=hm) (hN:=hN) (ha:=ha.h) (hst:=hst) (hg:=hg) (hi:=hi) (hx:=hx) (hs:=hs) (hf:=hf)⟩
def Eu{fc:W5}{p2:Pos}(i:Nat)(hu:So (Cx.A X)+1<cLine)(hb:QE X b fb)(hc:QE X c fc)(hN:autoParam ((Cx.N X)[i]?=ZA x) u_)(hv:autoParam (kA (Qt (Cx.env X)) x) v_)(hd:autoParam ((x == Ot "__debug__")=ZD) s_)(hcd:autoParam ((x == Ot "__classdict__")=ZD) s_)(hs:autoParam (Pb c (ZA (Sd (Pa x p2) b p3)) (Rx pos) (Cx.env X)=pure ZD) u_):QS X (S0 [Sd (Pa x p2) b p3] c pos) (Ak i fb fc):=
 ⟨Iq (i:=i) (hu:=hu) (hb:=hb.h) (hc:=hc.h) (hN:=hN) (hv:=hv) (hd:=hd) (hcd:=hcd) (hs:=hs)⟩
def hu0(h:Room k A):A.units<cLine:=by have:=h.un;omega
def Dq(h:ZH):(vQ h).In h:=by
 have key:∀(l:List Nat)(a:ZE)(o:Obj),(l.filterMap λa=>(h.get? a).map λo=>(a,o)).lookup a=ZA o->h.get? a=ZA o:=by
  intro l;induction l with
  |nil=>intro a o e;cases e
  |cons b r ih=>
   intro a o e;cases hb:h.get? b with
   |none=>rw[List.filterMap_cons_none (by rw[hb];rfl)]at e;exact ih a o e
   |some ob=>
    rw[List.filterMap_cons_some (b:=(b,ob)) (by rw[hb];rfl),Pg]at e;cases q:a == b with
    |true=>rw[q]at e;cases e;rw[eq_of_beq q];exact hb
    |false=>rw[q]at e;exact ih a o e
 exact λa o e=>key _ a o e
variable{K:Frag}{n:Str}
def Hw(e:obF K n=exF n st):∃f fd,nsIn K O5 n=ZA (ZA (.ref f))/\L2.Fun K n n st f fd:=by
 unfold obF at e;split at e
 .rename_i f hf;split at e
  .rename_i oc od d sl hl;cases d;unfold exF at e;simp only[Tt,TK]at e;obtain⟨h1,h2,h3,h4,h5,h6,h7,h8,h9,h10,h11⟩:=e;subst h1 h2 h3 h4 h5 h6 h7 h8 h9;exact⟨f,_,hf,Dp hl h10 h11⟩
  .cases e
 .cases e
def pd{N:ZE}(e:LM K N n=ZC):nsIn K N n=ZA ZB:=by
 unfold LM at e;split at e
 .assumption
 .cases e
def Jt{i:Int}(e:M0 K n=ZA i):∃t,nsIn K O5 n=ZA (ZA (.int i t)):=by
 unfold M0 at e;split at e
 .rename_i i' t h;cases e;exact⟨t,h⟩
 .cases e
def oy:∀{l:List N9},yB l=ZC->l=bmV:=by
 intro l e;unfold yB at e;split at e
 .simp only[Oc,beq_iff_eq]at e;obtain⟨⟨⟨h1,h2⟩,h3⟩,h4⟩:=e;subst h1 h2 h3 h4;rfl
 .cases e
def ix{D:Option ZE}(e:FV K D n=ZA C):nsIn K O5 n=ZA (ZA (.ref C)) ∧
  ∃nm q N bs bm hd sn su ab co dd k0 k1 k2 k3 k5,under D bm=ZC/\K.lookup C=ZA (PL nm q C N bs bm hd sn su ab co dd k0 k1 k2 k3 k5 "ValueError.__new__")/\∀h:ZH,K.In h->∃mN,h.Ns N mN/\∀n∈calmNames,mN n=ZB:=by
 unfold FV at e;split at e
 .rename_i C' hC;split at e
  .rename_i t dd c k0 k1 k2 k3 b k5 hl;split at e
   .rename_i E m ob oe es ep oz hm hN;split at e
    .rename_i hq;cases e;simp only[Oc,beq_iff_eq,Vx]at hq;obtain⟨⟨⟨⟨⟨⟨h1,h2⟩,h3⟩,h4⟩,h5⟩,h6⟩,h7⟩:=hq;have z:=OQ.mp h5;refine⟨hC,c.name,c.qualname,c.ns,c.bases,m,c.hasDict,c.slotNames,c.subclasses,c.abstract,c.collection,dd,k0,k1,k2,k3,k5,h7,?_,LP hN h4 (pd (z _ (.head _))) (pd (z _ (.tail _ (.head _)))) (pd (z _ (.tail _ (.tail _ (.head _))))) (pd (z _ (.tail _ (.tail _ (.tail _ (.head _))))))⟩;rw[hl];cases c;simp only at hm h3;subst h1 h2 hm h3 h6;rfl
    .cases e
   .cases e
  .cases e
 .cases e
def ox0(e:FV K ZB n=ZA C):OX K C bmV:=by obtain⟨_,_,_,_,_,_,_,_,_,_,_,_,_,_,_,_,_,hu,hl,hn⟩:=ix e;cases oy hu;exact FK hl hn
def LH{D:ZE}(e:FV K (ZA D) n=ZA C)(d:FV K ZB m=ZA D):OX K C (.ref D::bmV):=by
 obtain⟨_,_,_,_,_,bm,_,_,_,_,_,_,_,_,_,_,_,hu,hl,hn⟩:=ix e;obtain⟨_,_,_,_,_,_,_,_,_,_,_,_,_,_,_,_,_,hu',hl',hn'⟩:=ix d;cases oy hu';unfold under at hu;simp only at hu;split at hu
 .rw[Oc]at hu;cases eq_of_beq hu.1;cases oy hu.2;exact B9 hl hn hl' hn'
 .cases hu
def ig{o:Option α}{r:List (Option α)}{l:List α}(e:yc (o::r)=ZA l):∃a l',o=ZA a/\l=a::l'/\yc r=ZA l':=by
 cases o with
 |none=>cases e
 |some a=>
  unfold yc at e;split at e
  .rename_i l' h;cases e;exact⟨a,l',rfl,rfl,h⟩
  .cases e
def D1{l:List α}(e:yc ([]:List (Option α))=ZA l):l=[]:=by cases e;rfl
theorem qZ:∀{l:List ZE},tN l=ZC->l.Nodup
 |[],_=>.nil
 |a::r,h=>by unfold tN at h;rw[Oc]at h;refine O4.mpr ⟨λhm=>?_,qZ h.2⟩;have:=OQ.mp h.1 a hm;simp at this
def Js{es:List Str}(e:MY K (m::es)=ZC):∃D l,FV K ZB m=ZA D/\yc (es.map (FV K (ZA D)))=ZA l/\(l++[D]).Nodup:=by
 rw[MY]at e;split at e
 .rename_i D hD;split at e
  .rename_i l hl;exact⟨D,l,hD,hl,qZ e⟩
  .cases e
 .cases e
section
variable {S:Ba}{top:Nat->ZF}
theorem mn{f g:α->β}:∀{l:List α}(j:Nat){a:α},l.map f=l.map g->l[j]?=ZA a->f a=g a
 |[],_,_,_,q=>by cases q
 |b::l,0,a,e,q=>by cases q;exact(List.cons.inj e).1
 |b::l,j+1,a,e,q=>mn (l:=l) j (List.cons.inj e).2 q
def k_fn(j:Nat)(X:K.In h)(G:h.Ns O5 mg)(e:tL S K=si S top)(q:S.tab[j]?=ZA (n,i))
  (hb:∀(kV doc pm:N9)(an:Option ZE)(cdv ct:N9)(us:List N9),us.length=ps.length->Ve (fnOf n n (fy (top i)) (bD (top i)) (ao (top i)) .none kV doc pm an cdv ct) ⟨us,[]⟩=pure (ps.zip us)):
  ∃f fd,Fn K mg n (top i) ps f fd:=by
 obtain⟨f,fd,h1,h2⟩:=Hw (mn j (congrArg (·.1) e) q);exact⟨f,fd,h2,h2.binds hb,mg_of X G h1⟩
def Mh(j:Nat){fa:ZE}(X:K.In h)(G:h.Ns O5 mg)(e:tL S K=si S top)(q:S.tab[j]?=ZA (n,i))(hfa:mg n=ZA (.ref fa))
  (hb:∀(kV doc pm:N9)(an:Option ZE)(cdv ct u:N9),Ve (fnOf n n (fy (top i)) (bD (top i)) (ao (top i)) .none kV doc pm an cdv ct) ⟨[u],[]⟩=pure [(x,u)]):
  ∃fd,Fn K mg n (top i) [x] fa fd/\∀(s:Ob)(u:N9),Ur s fd ⟨[u],[]⟩ [(x,u)]:=by
 obtain⟨f,fd,h1,h2⟩:=Hw (mn j (congrArg (·.1) e) q);have z:=hfa.symm.trans (mg_of X G h1);cases z;have hh:=h2;obtain⟨oc,od,kV,doc,pm,an,cdv,ct,osl,rfl,lk,hcd⟩:=hh.ex;exact⟨_,⟨h2,.all λus hl=>by obtain⟨u,rfl⟩:=List.length_eq_one_iff.1 hl;exact hb kV doc pm an cdv ct u,mg_of X G h1⟩,λs u=>.of_eq (hb kV doc pm an cdv ct u)⟩
def et(j:Nat)(X:K.In h)(G:h.Ns O5 mg)(e:tL S K=si S top)(q:S.zs[j]?=ZA n):mg n=ZB:=
 mg_none_of X G (pd (OQ.mp (congrArg (·.2.1) e:S.zs.all (LM K O5)=ZC) n (QY q)))
def rz(j:Nat){i:Int}(X:K.In h)(G:h.Ns O5 mg)(e:tL S K=si S top)(q:S.cs[j]?=ZA (n,i)):∃t,mg n=ZA (.int i t):=by obtain⟨t,ht⟩:=Jt (mn (f:=λc=>M0 K c.1) (g:=λc=>ZA c.2) j (congrArg (·.2.2.1) e) q);exact⟨t,mg_of X G ht⟩
def Mp(e:tL S K=si S top):MY K S.es=ZC:=congrArg (·.2.2.2) e
end
variable{loose:List Str}
def left_of{p q:OM}{Xt:Ob->Bool}{Yf:Ob->α}{Ya:Pm->α}{N:Nat}{g0:Bool}
  (e:opening p=plainProg p.main.scope.names) (hN:Nat.ble 600 N=ZC) (f:∀s,fenceModules? p s=ZA s)
  (h:∀(w:Pm)(os:SC),(topFrom U8 p w N ⟨boot_heap w.params,⟨[]⟩,boot_drawn,boot_toks,os⟩).map (λs=>(openSeen q loose (Up p.main.body) Xt g0 s,Yf s))=ZA (openGood q loose,Ya w)):
  LeftO p q loose Xt Yf Ya N g0:=λw=>by
 obtain⟨⟨h0,gs,d,k,os⟩,e1,e2⟩:=Qy.mp (boot_open e hN f w);simp only[TK]at e2;obtain⟨rfl,rfl,rfl,rfl⟩:=e2;unfold openEnds;rw[e1];exact h w os
structure Cl (P:OM)(w:Pm)(K:Frag)(mg:W0)(base:ZH)(k:Nat)(x:Str)(n:Nat)(m:List T->Rs T):Prop where
 ex:∃f fd ps,mg x=ZA (.ref f)/\keepIn K (.ref f)=ZC/\Binds K fd ps []/\ps.length=n/\Er P w K mg base k f fd ps n m
abbrev eX(K:Frag)(mg:W0)(x:Str)(st:ZF)(ps:List Str):Prop:=∃f fd,Fn K mg x st ps f fd
variable{n:Nat}
section
variable {base:ZH}{F:W4}
def MM(H:eX K mg x st ps)(S:bo N ps (ao st))(hn:ps.length=n)
  (hbody:∀(f:ZE)(cdv:N9)(A:OY)(outer:List Env)(s:Ob)(H:Hp)(E:XK),Room k (A.deeper (envOfC x (ao st) s.heap.objs.size f cdv)) ->
   ∀xe,yg ((gf CX0 P w K mg base N x (ao st) f cdv A outer s H E).FB xe) (bD st) F):Cl P w K mg base (k+1) x n (val n N.length F):=by
 obtain⟨f,fd,h⟩:=H;exact⟨f,fd,ps,h.mg,h.fn.kp,h.bd,hn,sg h.fn S hn (hbody f)⟩
end
variable{g:List T->Rs T}
section
variable {fs:W3}
def aL(c:Cl X.prog X.w X.K X.mg X.base k x n g)(hr:Room k' X.A)(ha:QA X (e::es) fs)(hk:autoParam (k<=k') s_)(hl:∀(Z:En)(ts:List T),fs Z=.ok ts->ts.length=n:=by repeat first|exact wo|refine wm ?_)
  (hn:autoParam (br (e::es)=ZC) u_) (hg:autoParam (Gl X x) u_) (h2:autoParam ((x == Ot "__debug__")=ZD) s_):QE X (.Call (.Name x p) (e::es) [] pos) (cl g fs):=by
 obtain⟨f,fd,ps,h1,h3,h4,h5,h6⟩:=c.ex;exact zq_c h6 (hr.mono hk) h1 h3 h4 hl ha h5 hn hg h2
def qg{i:Int}(h:∃t,X.mg x=ZA (.int i t))(hg:autoParam (Gl X x) u_)(hd:autoParam ((x == Ot "__debug__")=ZD) s_):QE X (.Name x pos) (cn (.int i)):=by obtain⟨t,h⟩:=h;exact Ez h ⟨_,rfl⟩ hg hd
end
variable{q:Str}
def F2(e:LN K C m q=ME m q st):∃f fd,wt K C m f/\L2.Fun K m q st f fd:=by
 unfold LN at e;split at e
 .rename_i f hf;split at e
  .rename_i oc od d sl hl;cases d;unfold ME at e;simp only[Tt,TK]at e;obtain⟨h1,h2,h3,h4,h5,h6,h7,h8,h9,h10,h11,h12⟩:=e;subst h1 h2 h3 h4 h5 h6 h7 h8 h9;exact⟨f,_,⟨hf,h12,h11⟩,Dp hl h10 h11⟩
  .cases e
 .cases e
def FY{f:Str}(e:Jv K C f=ZC):NoAttr K C f:=by
 unfold Jv at e;split at e
 .assumption
 .cases e
def EX(e:Ie K C=ZC):findIn K (.ref C) "__setattr__" =ZA (ZA (.builtin "object.__setattr__")):=by
 unfold Ie at e;split at e
 .rename_i b h;rw[h,eq_of_beq e]
 .cases e
structure qd (K:Frag)(mg:W0)(c:Str):Prop where
 cl:Cls K (bS K c)
 mg:mg c=ZA (.ref (bS K c))
 mks:makesIn K (bS K c)=ZC
 kp:keepIn K (.ref (bS K c))=ZC
abbrev nH(K:Frag)(c m q:Str)(st:ZF)(ps:List Str):Prop:=∃f fd,wt K (bS K c) m f/\L2.Fun K m q st f fd/\Binds K fd ps []
section
variable {top:Nat->ZF}{A:G1}
def Ms(X:K.In h)(G:h.Ns O5 mg)(e:MZ K A=M6 top A):qd K mg A.c/\(∀f∈A.as,NoAttr K (bS K A.c) f)/\A.ms.map (λ(m:Str×Str×Nat)=>LN K (bS K A.c) m.1 m.2.1)=A.ms.map (λ(m:Str×Str×Nat)=>ME m.1 m.2.1 (cP (top A.i) m.2.2)):=by
 unfold MZ at e;split at e
 .rename_i C hC;unfold M6 at e;simp only[Tt,TK]at e;obtain⟨e1,e2⟩:=e;have hc:bS K A.c=C:=by unfold bS;rw[hC]
  unfold HA at e1;simp only[Oc]at e1;obtain⟨⟨⟨⟨⟨⟨h1,h2⟩,h3⟩,h4⟩,h5⟩,h6⟩,h7⟩:=e1;rw[hc];exact⟨⟨by rw[hc];exact⟨h1,h2,h3,EX h4⟩,by rw[hc];exact mg_of X G hC,by rw[hc];exact h5,by rw[hc];exact h6⟩,λf hf=>FY (OQ.mp h7 f hf),e2⟩
 .cases e
def iD(j:Nat)(e:A.ms.map (λ(m:Str×Str×Nat)=>LN K (bS K A.c) m.1 m.2.1)=A.ms.map (λ(m:Str×Str×Nat)=>ME m.1 m.2.1 (cP (top A.i) m.2.2)))(z:A.ms[j]?=ZA (m,q,i))
  (hb:∀(kV doc pm:N9)(an:Option ZE)(cdv ct:N9)(us:List N9),us.length=ps.length->Ve (fnOf m q (fy (cP (top A.i) i)) (bD (cP (top A.i) i)) (ao (cP (top A.i) i)) .none kV doc pm an cdv ct) ⟨us,[]⟩=pure (ps.zip us)):
  nH K A.c m q (cP (top A.i) i) ps:=by
 obtain⟨f,fd,h1,h2⟩:=F2 (mn j e z);exact⟨f,fd,h1,h2,h2.binds hb⟩
end
noncomputable def hookC(S:wC)(top:Nat->ZF):Hook:=
 ⟨_,λs=>Ck S (vQ s.heap),λ_=>Bt S top,λ_ h=>∃K:Frag,K.In h/\Ck S K=Bt S top,λ_ s e=>⟨_,Dq s.heap,e⟩,λ_ _ _ ⟨K,a,b⟩ k=>⟨K,a.keeps k,b⟩⟩
def walk_c{l:OpenLaw}{q:OM}{XP:(W0)->ZH->Prop}{d:DefRec}{S:wC}{top:Nat->ZF}{CX:Es}{sp:Frag->Sp}
  (hn:l.most=ZA n) (hn2:n<=ZI) (hdf:d.params.defaults=[]) (hr:Room k callerA)
  (F:∀(w:Pm)(K:Frag)(mg:W0)(fa:ZE)(h:ZH),K.In h->Ck S K=Bt S top->h.Ns O5 mg->mg d.name=ZA (.ref fa) ->
   ∃fd:Pu,(∀(s:Ob)(u:N9),Ur s fd ⟨[u],[]⟩ [(x,u)])/\∀base:ZH,K.In base->base.Ns O5 mg->p7 l.prog w K mg base CX k fa fd [x] (sp K))
  (hsp:∀(K:Frag)(H:Hp)(a:ZE)(ns:List Int),ns.length<=n->Kw H->SqL K H a (ns.map V.int)->sp K [.ref a] H (λv _=>v=.bl ZC) λ_ _ _=>False)
  (hCX:∀(H:Hp)(s:Ob)(e:N9)(s':Ob),CX [] H s (λ_ _ _=>False) e s'->False):
  WalkO q loose XP (hookC S top).says l.row.toRowW d [] (λf vs=>PySem.call f vs):=by
 refine Att.attach_call hn hdf λw s₀ s₁ mg mb fa o pm cd doc a vs ns G Y ho hd hcd hmg hobj hints hlen hg=>?_;obtain⟨K,KX,e⟩:=Y;obtain⟨fd,hb,hF⟩:=F w K mg fa _ KX e G.T.g hmg;exact CO KX G.T.g G.T.b G.T.builtins G.T.nolimit hg hobj hints (OV hlen hn2) hr hF hb (λH hO hS=>hsp K H a ns hlen hO hS) λH e s'=>hCX H s₁ e s'
structure Ml (P:OM)(w:Pm)(K:Frag)(mg:W0)(base:ZH)(k:Nat)(c m:Str)(g:List T->Rs T):Prop where
 ex:∃f fd ps,wt K (bS K c) m f/\Binds K fd ps []/\ps.length=1/\Er P w K mg base k f fd ps 1 g
structure Mm (P:OM)(w:Pm)(K:Frag)(mg:W0)(base:ZH)(k:Nat)(c m:Str)(n:Nat)(g:List Sl->Rs (T×OT)):Prop where
 ex:∃f fd ps,wt K (bS K c) m f/\Binds K fd ps []/\ps.length=n/\GZ P w K mg base k f fd ps n 0 g
structure Ce (P:OM)(w:Pm)(K:Frag)(mg:W0)(base:ZH)(k:Nat)(x:Str)(n j:Nat)(g:List Sl->Rs (T×OT)):Prop where
 ex:∃f fd ps,mg x=ZA (.ref f)/\keepIn K (.ref f)=ZC/\Binds K fd ps []/\ps.length=n/\GZ P w K mg base k f fd ps n j g
structure QX (X:Cx)(e:ZG)(f:En->Rs (T×En)):Prop where
 h:Em X e f
structure QL (X:Cx)(i:Nat)(e:List ZG)(f:W3):Prop where
 h:PA X e (KS X i f)
structure QM (X:Cx)(j:Nat)(e:ZF)(f:En->Rs Fx):Prop where
 h:Eo X j e f
structure GV (X:Cx)(j:Nat)(e:List ZF)(f:En->Rs Fx):Prop where
 h:Ep X j e f
section
variable {base:ZH}{c:Str}
def CA{F:W4}(H:nH K c m q st ps)(S:bo N ps (ao st))(hn:ps.length=1)
  (hbody:∀(f:ZE)(cdv:N9)(A:OY)(outer:List Env)(s:Ob)(H:Hp)(E:XK),Room k (A.deeper (envOfC q (ao st) s.heap.objs.size f cdv)) ->
   ∀xe,yg ((gf CX0 P w K mg base N q (ao st) f cdv A outer s H E).FB xe) (bD st) F):Ml P w K mg base (k+1) c m (val 1 N.length F):=by
 obtain⟨f,fd,h1,h2,h3⟩:=H;exact⟨f,fd,ps,h1,h3,hn,sg h2 S hn (hbody f)⟩
def rg{F:En->Rs Fx}(H:nH K c m q st ps)(S:bo N ps (ao st))(hn:ps.length=n)
  (hbody:∀(f:ZE)(cdv:N9)(A:OY)(outer:List Env)(s:Ob)(H:Hp)(E:XK),Room k (A.deeper (envOfC q (ao st) s.heap.objs.size f cdv)) ->
   ∀xe,GV ((gf CX0 P w K mg base N q (ao st) f cdv A outer s H E).FB xe) 0 (bD st) F):Mm P w K mg base (k+1) c m n (gW n 0 N.length F):=by
 obtain⟨f,fd,h1,h2,h3⟩:=H;exact⟨f,fd,ps,h1,h3,hn,Dr h2 S hn λcdv A outer s H E hr xe=>(hbody f cdv A outer s H E hr xe).h⟩
def MN{F:En->Rs Fx}(H:eX K mg x st ps)(S:bo N ps (ao st))(hn:ps.length=n)
  (hbody:∀(f:ZE)(cdv:N9)(A:OY)(outer:List Env)(s:Ob)(H:Hp)(E:XK),Room k (A.deeper (envOfC x (ao st) s.heap.objs.size f cdv)) ->
   ∀xe,GV ((gf CX0 P w K mg base N x (ao st) f cdv A outer s H E).FB xe) j (bD st) F):Ce P w K mg base (k+1) x n j (gW n j N.length F):=by
 obtain⟨f,fd,h⟩:=H;exact⟨f,fd,ps,h.mg,h.fn.kp,h.bd,hn,Dr h.fn S hn λcdv A outer s H E hr xe=>(hbody f cdv A outer s H E hr xe).h⟩
end
variable{s:ZF}
section
variable {o:ZG}{bK:List ZG}{fs:W3}{p2 p4:Pos}{n cn' f:Str}{l:Nat}{ge:List Sl->Rs (T×OT)}{ex ey:En->Rs (T×En)}{tx ty:En->Rs (Bool×En)}
def ij(h:QE X a fa):QX X a (xP fa):=⟨HP h.h⟩
def oo(C:qd X.K X.mg m)(hn:NoAttr X.K (bS X.K m) f)(ha:QE X a fa)(hb:autoParam (OR a f X.env (eval a X.env)=eval a X.env) u_):QE X (.Attribute a f pos) (o1 (nG m f) fa):=⟨Lw C.cl hn ha.h hb⟩
def fP{pl:Sem Bool}(C:qd X.K X.mg n)(M:Ml X.prog X.w X.K X.mg X.base k n m g)(hr:Room k' X.A)(ho:QE X o fo)(hk:autoParam (k<=k') s_)
  (ht:eval (.Call (.Attribute o m apos) [] [] pos) X.env=(do
   let ov <-eval o X.env
   standAt apos.atName
   let (f,first) <-holding [ov] (Sr ov m pl)
   TU pos f first (backTo pos (Oq [] X.env)) (Se pos (QV [] X.env))):=by rfl):QE X (.Call (.Attribute o m apos) [] [] pos) (mO n m g fo aj):=by
 obtain⟨f,fd,ps,h1,h2,h3,h4⟩:=M.ex;exact⟨Fq (pl:=pl) C.cl h1 h4 (hr.mono hk) h2 h3 ho.h ht⟩
def Bf(i:Nat)(C:qd X.K X.mg m)(hn:NoAttr X.K (bS X.K m) f)(ha:QE X a fa)(hN:autoParam (X.N[i]?=ZA x) u_)(hv:autoParam (kA X.env.scope x) v_)(hs:autoParam (a9 a=ZC) u_)
  (hb1:autoParam (OR (.Name x p2) f X.env (eval (.Name x p2) X.env)=eval (.Name x p2) X.env) u_)
  (hbase:autoParam (OR (.Attribute (.Name x p2) f p3) "append" X.env (eval (.Attribute (.Name x p2) f p3) X.env)=eval (.Attribute (.Name x p2) f p3) X.env) u_) (hline:autoParam ((apos.endLine == cpos.line)=ZC) u_)
  (hd:autoParam ((x == ("__debug__" : Str))=ZD) s_) (hcd:autoParam ((x == ("__classdict__" : Str))=ZD) s_):QX X (.Call (.Attribute (.Attribute (.Name x p2) f p3) "append" apos) [a] [] cpos) (wN i m f fa):=⟨KJ i C.cl hn ha.h hN hv hs hb1 hbase hline hd hcd⟩
def HG(i:Nat)(C:qd X.K X.mg m)(hn:NoAttr X.K (bS X.K m) f)(hN:autoParam (X.N[i]?=ZA x) u_)(hv:autoParam (kA X.env.scope x) v_)
  (hb1:autoParam (OR (.Name x p2) f X.env (eval (.Name x p2) X.env)=eval (.Name x p2) X.env) u_)
  (hbase:autoParam (OR (.Attribute (.Name x p2) f p3) "pop" X.env (eval (.Attribute (.Name x p2) f p3) X.env)=eval (.Attribute (.Name x p2) f p3) X.env) u_) (hline:autoParam ((apos.endLine == cpos.line)=ZC) u_)
  (hd:autoParam ((x == ("__debug__" : Str))=ZD) s_) (hcd:autoParam ((x == ("__classdict__" : Str))=ZD) s_):QX X (.Call (.Attribute (.Attribute (.Name x p2) f p3) "pop" apos) [] [] cpos) (EE i m f):=⟨KH i C.cl hn hN hv hb1 hbase hline hd hcd⟩
def L3{fs:W3}(h:∀(Z:En)(ts:List T),fs Z=.ok ts->ts.length=l)(Z:En)(ts:List T)(z:fs Z=.ok ts):ts.length+1=l+1:=congrArg (· +1) (h Z ts z)
def jJ{pl:Sem Bool}(i:Nat)(C:qd X.K X.mg n)(M:Mm X.prog X.w X.K X.mg X.base k n m (l+1) ge)(hr:Room k' X.A)(ha:QA X (e::es) fs)(hk:autoParam (k<=k') s_)(hl:∀(Z:En)(ts:List T),fs Z=.ok ts->ts.length=l:=by repeat first|exact wo|refine wm ?_)
  (hN:autoParam (X.N[i]?=ZA x) u_) (hv:autoParam (kA X.env.scope x) v_) (hd:autoParam ((x == ("__debug__" : Str))=ZD) s_) (hcd:autoParam ((x == ("__classdict__" : Str))=ZD) s_)
  (hns:autoParam (br (e::es)=ZC) u_)
  (ht:eval (.Call (.Attribute (.Name x p2) m apos) (e::es) [] pos) X.env=(do
   let ov <-eval (.Name x p2) X.env
   standAt apos.atName
   let (f,first) <-holding [ov] (Sr ov m pl)
   TU pos f first (backTo pos (Oq (e::es) X.env)) (Se pos (QV [] X.env))):=by rfl):QX X (.Call (.Attribute (.Name x p2) m apos) (e::es) [] pos) (dU i n m ge fs):=by
 obtain⟨f,fd,ps,h1,h2,h3,h4⟩:=M.ex;have hn2:a9 e=ZC/\br es=ZC:=Po.mp hns;exact⟨HQ (pl:=pl) i C.cl h1 h4 (hr.mono hk) h2 h3 (L3 hl) ha.h hN hv hd hcd (aS hn2.1) (d9 hn2.2) ht⟩
def EA(i:Nat)(hN:autoParam (X.N[i]?=ZA x) u_)(hv:autoParam (kA X.env.scope x) v_)(hd:autoParam ((x == ("__debug__" : Str))=ZD) s_)(hcd:autoParam ((x == ("__classdict__" : Str))=ZD) s_):QL X i [.Name x p2] aj:=⟨IW i hN hv hd hcd⟩
def uH(ha:QE X a fa)(hb:QL X i es fs)(hn:autoParam (a9 a=ZC) u_):QL X i (a::es) (ae fa fs):=⟨FC ha.h hb.h (aS hn)⟩
def HH(M:Ce X.prog X.w X.K X.mg X.base k y (l+1) l ge)(hr:Room k' X.A)(ha:QL X i (e::es) fs)(hk:autoParam (k<=k') s_)(hl:∀(Z:En)(ts:List T),fs Z=.ok ts->ts.length=l:=by repeat first|exact wo|refine wm ?_)
  (hg:autoParam (Gl X y) u_) (hdb:autoParam ((y == ("__debug__" : Str))=ZD) s_) (hns:autoParam (br (e::es)=ZC) u_):QX X (.Call (.Name y p) (e::es) [] pos) (wM i ge fs):=by
 obtain⟨f,fd,ps,h1,h0,h2,h3,h4⟩:=M.ex;have hn2:a9 e=ZC/\br es=ZC:=Po.mp hns;exact⟨KI i h4 (hr.mono hk) h1 h0 h2 h3 rfl hl ha.h hg hdb (aS hn2.1) (d9 hn2.2)⟩
def Ew(ha:QX X a ex)(hs:autoParam (Pb a ZB pos.line X.env=pure ZD) u_):QS X (.Expr a pos) (w8 ex):=⟨Iz ha.h hs⟩
def uF(i:Nat)(hN:X.N.Nodup)(C:qd X.K X.mg m)(M:Mm X.prog X.w X.K X.mg X.base k m "__init__" (l+1) ge)(hr:Room k' X.A)(ha:QA X (e::es) fs)(hk:autoParam (k+1<=k') s_)(hl:∀(Z:En)(ts:List T),fs Z=.ok ts->ts.length=l:=by repeat first|exact wo|refine wm ?_)
  (hi:autoParam (X.N[i]?=ZA n) u_) (hx:autoParam (Loc X.env.scope n) y_) (hs:autoParam (Pb (.Call (.Name m p) (e::es) [] pos) (ZA (.Name n p3)) spos.line X.env=pure ZD) u_) (hf:autoParam (X.fn n=ZC\/X.env.scope.names.lookup n=ZA .local) r_)
  (hg:autoParam (Gl X m) u_) (hdb:autoParam ((m == ("__debug__" : Str))=ZD) s_) (hns:autoParam (br (e::es)=ZC) u_):QS X (.Assign [.Name n p3] (.Call (.Name m p) (e::es) [] pos) spos) (oO i m ge fs):=by
 obtain⟨f,fd,ps,h1,h2,h3,h4⟩:=M.ex;have hn2:a9 e=ZC/\br es=ZC:=Po.mp hns;exact⟨E9 i ⟨C.mks,h1.at_,h1.fn,C.kp⟩ h4 (hr.mono hk) C.mg h2 h3 (L3 hl) hN ha.h hi hx hs hf hg hdb (aS hn2.1) (d9 hn2.2)⟩
def Bo:GV X j [] mN:=⟨LY⟩
def d7{F:En->Rs Fx}(h:QM X j s F):GV X j [s] F:=⟨LX h.h⟩
def d8{ss:List ZF}{F:En->Rs Fx}(h1:QM X j s F)(h2:GV X j ss G):GV X j (s::ss) (jt F G):=⟨JB h1.h h2.h⟩
def qP(ha:QX X a ex)(hs:autoParam (Pb a ZB pos.line X.env=pure ZD) u_):QM X j (.Expr a pos) (wH ex):=⟨m_ex ha.h hs⟩
def ou(ha:QX X a ex):QM X j (.Return (ZA a) pos) (lC ex):=⟨LW ha.h⟩
def uI(i:Nat)(hN:X.N.Nodup)(ha:QX X a ex)(hij:autoParam (i≠j) s_)(hi:autoParam (X.N[i]?=ZA n) u_)(hx:autoParam (Loc X.env.scope n) y_)(hs:autoParam (Pb a (ZA (.Name n p3)) pos.line X.env=pure ZD) u_)
  (hf:autoParam (X.fn n=ZC\/X.env.scope.names.lookup n=ZA .local) r_):QM X j (.Assign [.Name n p3] a pos) (Ei i ex):=⟨m_as i hij hN ha.h hi hx hs hf⟩
def yx{t:W6}{A C:List ZF}{F:En->Rs Fx}(hc:QT X c t)(ha:GV X j A F)(hb:GV X j C G):QM X j (.If c A C pos) (AF t F G):=⟨m_if hc.h ha.h hb.h⟩
def HM{d:Str}(h:QS X s (uX d)):QM X j s (JC d):=⟨L0 h.h⟩
def wL(i:Nat)(C:qd X.K X.mg m)(hn:NoAttr X.K (bS X.K m) f)(ha:QA X es fs)(hN:autoParam (X.N[i]?=ZA n) u_)(hv:autoParam (kA X.env.scope n) v_)
  (hd:autoParam ((n == ("__debug__" : Str))=ZD) s_) (hcd:autoParam ((n == ("__classdict__" : Str))=ZD) s_) (hs:autoParam (Pb (.List es p4) (ZA (.Attribute (.Name n p2) f p3)) pos.line X.env=pure ZD) u_):
  QM X j (.Assign [.Attribute (.Name n p2) f p3] (.List es p4) pos) (vC i m f fs):=⟨LZ i C.cl hn ha.h hN hv hd hcd hs⟩
def Af{c:Str}{t:T}(hm:X.mg c=ZA (.ref C))(O:OX X.K C bm)(h:∀e oe,yg (uh X e oe) suite (aV (cn t))):D7 X suite C (ua c t):=λd D u hd hu=>by
 unfold ua at hu;split at hu
 .rename_i z;cases hu;subst z;cases hm.symm.trans hd;exact⟨bm,O,by simp,λe oe=>(h e oe).h⟩
 .cases hu
def ED{F:En->Rs Fx}{CE:ZE}{t:T}(hm:X.mg ce=ZA (.ref CE))(OE:OX X.K CE bmE)
  (hb:∀pn xe,GV {X with pn:=pn,xe:=xe} j body F) (hs:∀e oe,yg (uh X e oe) (b0::suite) (aV (Tr.cn t))) (hst:autoParam (X.stack=X.env::X.outer) u_) (hfe:autoParam (X.env.frame=ZA X.env.locals) u_) (hcl:∀x c,X.env.cells.lookup x≠ZA c) (hex:autoParam (X.ex=[]) u_)
  (hg:autoParam (Gl X ce) u_) (hd:autoParam ((ce == ("__debug__" : Str))=ZD) s_):
  QM X j (.Try body [.ExceptHandler (ZA (.Name ce np)) ZB (b0::suite) hpos] [] [] pos) (pA F (ua ce t)):=⟨JA hst hfe hcl hex hm OE (λpn xe=>(hb pn xe).h) (Af hm OE hs) hg hd⟩
end
theorem Ev.one{K:N7}{B':Ow}{m:Ow}{o:OT}(hlen:Z.length=σ.length)(hv:∀(k:Nat)(t:T),Z[k]?=ZA (.va t)->∃v,σ[k]?=ZA (ZA v)/\Rep K (BM B m) H t v)
  (ho:∀(k:Nat)(o':OT),Z[k]?=ZA (.ow o')->k=j/\∃v,σ[k]?=ZA (ZA v)/\ORep K (BM B m) m H o' v) (mt:∀a,BM B m a->Mtb H a) (hm:∀a,m a->¬ B a):Ev K B (one j m) H Z σ:=by
 refine⟨⟨hlen,λk t e=>?_,λk o' e=>?_,λk a z=>.inr ⟨k,z⟩,λk k' a z1 z2=>?_,λa z=>mt a (one_oo.mp z)⟩,λa z=>hm a (one_u.mp z)⟩
 .obtain⟨v,e1,e2⟩:=hv k t e;exact⟨v,e1,e2.less λa z=>one_oo.mp z⟩
 .obtain⟨hk,v,e1,e2⟩:=ho k o' e;subst hk;refine⟨v,e1,?_⟩;rw[show Tr.one k m k=m from Mn.KF];exact e2.move (P:=ko) (λ_ z=>z.elim) (λa z=>.inl (one_oo.mp z)) (λb u q _=>q) λ_ _ z=>z
 .unfold Tr.one Mn.set at z1 z2;by_cases h1:k=j
  .by_cases h2:k'=j
   .exact h1.trans h2.symm
   .rw[if_neg h2]at z2;exact z2.elim
  .rw[if_neg h1]at z1;exact z1.elim
end Tr
namespace L2
open PySem PySem.Spec PyProof.Rows
noncomputable def Itv(K:N7)(a:ZE)(n:Nat):It:=
 ⟨λi H=>i<n/\∃xs,SqL K H a xs/\xs.length=n,λi H x H'=>H'=H/\∀xs,SqL K H a xs->xs[n - 1 - i]?=ZA x,λi H=>n<=i⟩
def By{tg:ZG}(a it:ZE)(n:Nat):A6 P w K tg (Itv K a n) [it] it (λi h=>i<=n/\h.IsRevIter it a ((n:Int) - 1 - (i:Int))) where
 mem:=by simp
 obj:=λi h st b hb=>by
  have e:b=it:=by simpa using hb
  subst e;obtain⟨_,o,e,c,d⟩:=st;exact⟨o,e,λv z=>by rw[d]at z;cases z⟩
 keep:=λi h h' st k=>⟨st.1,st.2.at λo e=>k it (by simp) o e⟩
 item:=by
  intro X hP hw hK hc i kt s σ H E I hf st hg;subst hP hw hK;obtain⟨hlt,xs,hq,hn⟩:=hg;obtain⟨its,rv,p,hz⟩:=I.list hq;have hx:xs[n - 1 - i]?=ZA xs[n - 1 - i]:=OA (by omega);obtain⟨u,hu,ru⟩:=rv.get hx;obtain⟨f0,f1,f2,f3,f4,f5⟩:=hf it (by simp);have e1:(n:Int) - 1 - (i:Int)=((n - 1 - i:Nat):Int):=by omega
  have st:=st.2;rw[e1]at st;refine wpAny_pyNext_rev_item st p.isList (x:=u) (by simpa using hu) λh' st' sb=>?_;have I1:Inv X kt σ H {s with heap:=h'}:=I.turned (t':=s.toks) (λb o hb e=>(sb.2 b hb).trans e) f0 f1 f3 f4 f5;have e2:((n - 1 - i:Nat):Int) - 1=(n:Int) - 1 - ((i+1:Nat):Int):=by omega
  rw[e2]at st';obtain⟨o,e,c,d⟩:=id st';exact⟨u,rfl,zF (s:={s with heap:=h'}) e c d (by decide) ⟨_,H,I1,ru,⟨rfl,λys hy=>by rw[I.Nm hy hq];exact hx⟩,⟨hlt,st'⟩,λb hb=>(hf b hb).1⟩⟩
 done:=by
  intro X hP hw hK hc i kt s σ H E I hf st hg;subst hP hw hK;have hg:n<=i:=hg;obtain⟨hle,st⟩:=st;have hin:i=n:=Ug hle hg;subst hin;obtain⟨f0,f1,f2,f3,f4,f5⟩:=hf it (by simp);have e1:(i:Int) - 1 - (i:Int)= -1:=by omega
  rw[e1]at st;exact wpAny_pyNext_rev_end (I.ok.hd hc) st λh' eb=>⟨rfl,I.turned (t':=s.toks) (λb o hb e=>eb b o hb e) f0 f1 f3 f4 f5⟩
 self:=λ_ _ _ _ _ st h=>UG st.2 h
end L2
namespace Tr
open PySem PySem.Spec PyProof.Rows L2
variable{X:Cx}{a tg:ZG}{p pos:Pos}
section
variable {fs:W3}
def qK:O6 "reversed" =ZA (.type "reversed"):=by decide+kernel
def IG(hm:X.mg "reversed" =ZB)(ha:qf X [a] fs)(hg:autoParam (Gl X "reversed") u_)(hs:autoParam (Oq [a] X.env=[(ZD,eval a X.env)]) u_):Be X tg (.Call (.Name "reversed" p) [a] [] pos) (Di fs):=by
 intro kt s σ H R I ⟨Z,O,E,h⟩;have h1:=fz E h;refine Call_ (fI I hg hm qK (Pq (bR (ha pos kt s σ H _ I h1) λus s1 ⟨vs,H1,I1,r1,ts,rs,s',E',q1⟩=>?_) hs rfl));split at q1
 .rename_i l;obtain⟨v,rfl,r⟩:=rs.one;obtain⟨b,ws,rfl,n,q,z⟩:=Rep.Do.mp r;obtain⟨u,rfl,ru⟩:=i9 r1;cases ru;obtain⟨its,rv,pl,hz⟩:=I1.list (SqL.of q);refine call_reversed_list pl.isList ?_;have hl1:its.length=ws.length:=rv.length.symm;have hl2:l.length=ws.length:=z.length;have hit:(s1.heap.push (revObj b ((its.toArray.size:Int) - 1))).IsRevIter s1.heap.objs.size b ((ws.length:Int) - 1 - ((0:Nat):Int)):=by refine⟨_,OI _ rfl,rfl,?_⟩;show Wm #[.ref b,rawInt ((its.toArray.size:Int) - 1)]=_;rw[Ov,hl1];simp
  refine UG (s:={s1 with heap:=s1.heap.push (revObj b ((its.toArray.size:Int) - 1))}) hit ?_;refine⟨s1.heap.objs.size,[s1.heap.objs.size],_,_,H1,rfl,I1.kept (t':=s1.toks) λb o e=>Om _ e,By b _ ws.length,⟨Pn _,hit⟩,λc hb=>?_,?_⟩
  .have e:c=s1.heap.objs.size:=by simpa using hb
   subst e;exact I1.Ny (On _) (I1.hok.fresh (On _))
  .refine q1 H1 (Same.refl H1) _ λP O' hP hO i Hc hs ht=>?_;have hnP:¬ P b:=λw=>(hP b w).elim n λw=>by rw[w.1]at q;cases q
   have hc:=hs _ _ q hnP;refine⟨λhi=>?_,λt ht'=>?_⟩
   .rw[List.length_reverse,hl2]at hi;exact hi
   .have hi:i<l.length:=by have:=(Ol.mp ht').1;simpa using this
    rw[List.getElem?_reverse hi,show l.length - 1 - i=ws.length - 1 - i by omega]at ht';obtain⟨v,e1,e2⟩:=z.get ht';refine⟨⟨by omega,ws,SqL.of hc,rfl⟩,λx Hc' y=>?_⟩;obtain⟨e,y⟩:=y;subst e;have:=y ws (SqL.of hc);rw[e1]at this;cases this;exact⟨Same.refl _,e2.move hP hO hs⟩
 .exact q1.elim
def Ey(hm:X.mg "reversed" =ZB)(ha:QA X [a] fs)(hn:autoParam (a9 a=ZC) u_)(hg:autoParam (Gl X "reversed") u_):QI X tg (.Call (.Name "reversed" p) [a] [] pos) (Di fs):=⟨IG hm ha.h hg (aS hn)⟩
end
variable{fa:W5}{p3:Pos}{x:Str}
section
variable {p2:Pos}
def Lf(K:N7):R2:=λx y H Q=>∃c d vs ws,x=.ref c/\y=.ref d/\H c=ZA (.lst vs)/\H d=ZA (.lst ws)/\vs.length+ws.length<=ZI/\∀p,Nw K H p->Q (.ref p) (upd H p (.lst (vs++ws)))
def FR:om X (P6 .Add) (Lf X.K):=by
 intro kt s σ H vx vy ux uy Q I r1 r2 ⟨c,d,vs,ws,e1,e2,h1,h2,hz,q⟩;have hk:X.K.lookup s.heap.objs.size=ZB:=by
  cases z:X.K.lookup s.heap.objs.size with
  |none=>rfl
  |some o=>exact absurd (Os (I.kIn _ o z)) (OU _)
 subst e1;subst e2;cases r1;cases r2;obtain⟨_,is1,_,s1,l1,g1⟩:=I.Nj h1;obtain⟨_,is2,_,s2,l2,g2⟩:=I.Nj h2;refine V1 g1 g2 ?_ (by rw[Ov,Ov];omega);rw[show is1.toArray++is2.toArray=(is1++is2).toArray by simp];exact⟨.ref _,_,I.NH (t':=s.toks) (s1.append s2) (by rw[Oh];omega),rfl,q _ ⟨I.fresh,hk⟩⟩
end
mutual
def noL:T->Bool
 |.non=>ZC
 |.bl _=>ZC
 |.int _=>ZC
 |.str _=>ZC
 |.tup l=>noLs l
 |_=>ZD
def noLs:List T->Bool
 |[] =>ZC
 |t::r=>noL t&&noLs r
end
noncomputable def uD:Sl->Sl
 |.va t=>if noL t=ZC then .va t else .em
 |_=>.em
def strip(Z:En):En:=Z.map uD
variable{H H':Hp}{O O':Ow}{Z:En}{e:ZG}{f:W5}{v:V}{σ:L2.St}
mutual
theorem Rep.Nl(hO:∀a xs,H a=ZA (.tup xs)->¬ O a->¬ O' a):∀{t:T}{v:V},noL t=ZC->Rep K O H t v->Rep K O' H t v
 |.non,v,_,r=>by unfold Rep at r ⊢;exact r
 |.bl _,v,_,r=>by unfold Rep at r ⊢;exact r
 |.int _,v,_,r=>by unfold Rep at r ⊢;exact r
 |.str _,v,_,r=>by unfold Rep at r ⊢;exact r
 |.tup l,v,n,r=>by obtain⟨a,vs,e,no,q,z⟩:=Rep.Fk.mp r;exact Rep.Fk.mpr ⟨a,vs,e,hO a vs q no,q,Reps.Nl hO (by unfold noL at n;exact n) z⟩
 |.lst _,v,n,_=>by unfold noL at n;cases n
 |.scr _,v,n,_=>by unfold noL at n;cases n
 |.dct _ _,v,n,_=>by unfold noL at n;cases n
 |.ob _ _ _,v,n,_=>by unfold noL at n;cases n
theorem Reps.Nl(hO:∀a xs,H a=ZA (.tup xs)->¬ O a->¬ O' a):∀{ts:List T}{vs:List V},noLs ts=ZC->Reps K O H ts vs->Reps K O' H ts vs
 |[],vs,_,r=>Reps.Da.mpr (Reps.Da.mp r)
 |t::l,vs,n,r=>by obtain⟨v,ws,e,r1,r2⟩:=Reps.me.mp r;unfold noLs at n;rw[Oc]at n;exact Reps.me.mpr ⟨v,ws,e,Rep.Nl hO n.1 r1,Reps.Nl hO n.2 r2⟩
end
def zf(O:Ow)(H:Hp):Ow:=λa=>O a\/∃xs,H a=ZA (.lst xs)
def F5(a:ZE)(xs:List V)(q:H a=ZA (.tup xs))(n:¬ O a):¬ zf O H a:=λz=>z.elim n λ⟨ys,e⟩=>by rw[q]at e;cases e
theorem EnvO.strip(E:EnvO K O H Z σ):EnvO K (zf O H) H (strip Z) σ:=by
 have at_:∀(i:Nat)(s:Sl),(Tr.strip Z)[i]?=ZA s->∃s0,Z[i]?=ZA s0/\uD s0=s:=λi s e=>by
  unfold Tr.strip at e;rw[OH]at e;cases q:Z[i]? with
  |none=>rw[q]at e;cases e
  |some s0=>rw[q]at e;exact⟨s0,rfl,O0 e⟩
 refine⟨λ_ _=>False,?_,λi t e=>?_,λi o e=>?_,λ_ _ z=>z.elim,λ_ _ _ z=>z.elim,λa z=>z.elim (E.mtb a) λq=>.inl q⟩
 .unfold Tr.strip;rw[Oa];exact E.len
 .obtain⟨s0,e0,e1⟩:=at_ i _ e;cases s0 with
  |em=>cases e1
  |ow o=>cases e1
  |va t'=>
   replace e1:(if noL t'=ZC then Sl.va t' else Sl.em)=_:=e1;by_cases hn:noL t'=ZC
   .rw[if_pos hn]at e1;cases e1;obtain⟨v,e2,r⟩:=E.val i t e0;exact⟨v,e2,Rep.Nl F5 hn r⟩
   .rw[if_neg hn]at e1;cases e1
 .obtain⟨s0,e0,e1⟩:=at_ i _ e;cases s0 with
  |em=>cases e1
  |ow o=>cases e1
  |va t'=>
   replace e1:(if noL t'=ZC then Sl.va t' else Sl.em)=_:=e1;by_cases hn:noL t'=ZC
   .rw[if_pos hn]at e1;cases e1
   .rw[if_neg hn]at e1;cases e1
def Jw{l:List T}(s:Same H H')(r:Rep K (zf O H) H' (.lst l) v):∃a vs,v=.ref a/\H a=ZB/\H' a=ZA (.lst vs)/\Reps K (zf O H) H' l vs:=by
 obtain⟨a,vs,e,n,q,z⟩:=Rep.Do.mp r;refine⟨a,vs,e,?_,q,z⟩;cases hq:H a with
 |none=>rfl
 |some o=>
  have:=s a o hq;rw[q]at this;cases this;exact absurd (.inr ⟨vs,hq⟩) n
def G4(X:Cx)(f:W5):TE:=λσ H Q=>∃Z O,EnvO X.K O H Z σ/\Post X H (f (strip Z)) λt H'=>∃l,t=.lst l/\∀a ws,Nw X.K H a->H' a=ZA (.lst ws)->Reps X.K (zf O H) H' l ws->Q (.ref a) H'
def xg(he:cm X e f):PE X e (G4 X f):=by
 intro kt s σ H Q I ⟨Z,O,E,hq⟩;refine bR (he kt s σ H (λv H'=>∃a,v=.ref a/\(∃ws,H' a=ZA (.lst ws))/\(X.K.lookup a=ZB->Q v H')) I ⟨strip Z,zf O H,E.strip,Post.mono hq λt H' sm ⟨l,e,q⟩ v r=>?_⟩) λv s1 ⟨x,H1,I1,r1,a,e1,⟨ws,e3⟩,q⟩=>⟨x,H1,I1,r1,q ?_⟩
 .subst e;obtain⟨a,ws,ev,hn,h',z⟩:=Jw sm r;exact⟨a,ev,⟨ws,h'⟩,λhk=>by subst ev;exact q a ws ⟨hn,hk⟩ h' z⟩
 .cases hk:X.K.lookup a with
  |none=>rfl
  |some o=>
   have:=(I1.bs a o (I1.mod.kin a o hk)).2;rw[e3]at this;cases this
theorem LsR.Nl(hO:∀a xs,H a=ZA (.tup xs)->¬ O a->¬ O' a):∀{ls:List (List T)}{as:List ZE},ls.all noLs=ZC->LsR K O H ls as->LsR K O' H ls as
 |[],_,_,r=>r
 |l::ls,_,n,⟨b,bs,vs,e1,e2,e3,e4⟩=>by rw[SJ,Oc]at n;exact⟨b,bs,vs,e1,e2,Reps.Nl hO n.1 e3,LsR.Nl hO n.2 e4⟩
theorem LsR.NG:∀{ls:List (List T)}{as:List ZE},LsR K O H ls as->as.length=ls.length
 |[],_,r=>by unfold LsR at r;subst r;rfl
 |l::ls,_,⟨b,bs,vs,e1,e2,e3,e4⟩=>by subst e1;rw[Og,Og,e4.NG]
def CC(s:Same H H')(a:ZE)(z:zf O H a):zf O H' a:=z.imp_right λ⟨xs,e⟩=>⟨xs,s _ _ e⟩
noncomputable def lW(i:Nat)(f:W5)(Z:En):Rs Fl:=match Z[i]? with
 |some (.ow (.ll ls))=>f (strip Z) >>= λt=>match t with
  |.lst l=>if ls.length<ZI/\noLs l=ZC then .ok (.nx (Z.set i (.ow (.ll (ls++[l])))))else .bad
  |_=>.bad
 |_=>.bad
variable{B m:Ow}{M:Mn}
section
variable {o o':OT}
def Ev.grow(E:Ev K B M H Z σ)(hi:Z[i]?=ZA (.ow o))(hs:σ[i]?=ZA (ZA v))(hm:∀a,m a->M i a\/Nw K H a)(hm':∀a,M i a->m a)(s:SameO (M i) H H')(r:ORep K (OO B (M.set i m)) m H' o' v):
  Ev K B (M.set i m) H' (Z.set i (.ow o')) σ/\SameO M.u H H'/\∀a,(M.set i m).u a->M.u a\/Nw K H a:=by
 have hl:i<Z.length:=(Ol.mp hi).1;have sub:∀a,(M.set i m).u a->M.u a\/Nw K H a:=λa z=>(Mn.FM z).elim (λw=>(hm a w).imp_left λy=>⟨i,y⟩) .inl;have subO:∀a,OO B (M.set i m) a->OO B M a\/Nw K H a:=λa z=>z.elim (λw=>.inl (.inl w)) λw=>(sub a w).elim (λy=>.inl (.inr y)) .inr;have inO:∀a,M i a->OO B M a\/Nw K H a:=λa z=>.inl (.inr ⟨i,z⟩);have eZ:∀a,Nw K H a->¬ OO B M a:=λa w z=>by obtain⟨o,e⟩:=(E.env.trk a z).some;rw[w.1]at e;cases e
 have at_:∀a,OO B M a->¬ M i a->Mtb H' a:=λa z n=>(E.env.trk a z).at λo e=>s a o e n;refine⟨⟨⟨by rw[OZ];exact E.env.len,λj t e=>?_,λj o2 e=>?_,λj a z=>.inr ⟨j,z⟩,λj k a z1 z2=>?_,λa z=>?_⟩,λa z=>?_⟩,λb u e n=>s b u e λz=>n ⟨i,z⟩,sub⟩
 .by_cases hj:i=j
  .subst hj;rw[Oz hl]at e;cases e
  .rw[Oy hj]at e;obtain⟨w,e1,e2⟩:=E.env.val j t e;exact⟨w,e1,e2.move inO subO s⟩
 .by_cases hj:i=j
  .subst hj;rw[Oz hl]at e;cases e;exact⟨v,hs,by rw[Mn.KF];exact r⟩
  .rw[Oy hj]at e;obtain⟨w,e1,e2⟩:=E.env.own j o2 e;refine⟨w,e1,?_⟩;rw[Mn.Nc (λz=>hj z.symm)];exact e2.move inO subO s λa z y=>hj (E.env.dis i j a y z)
 .unfold Mn.set at z1 z2;by_cases hj:j=i
  .by_cases hk:k=i
   .exact hj.trans hk.symm
   .rw[if_pos hj]at z1;rw[if_neg hk]at z2;exact(hm a z1).elim (λy=>hj.trans (E.env.dis i k a y z2)) λw=>(eZ a w (.inr ⟨k,z2⟩)).elim
  .by_cases hk:k=i
   .rw[if_neg hj]at z1;rw[if_pos hk]at z2;exact(hm a z2).elim (λy=>(E.env.dis j i a z1 y).trans hk.symm) λw=>(eZ a w (.inr ⟨j,z1⟩)).elim
   .rw[if_neg hj]at z1;rw[if_neg hk]at z2;exact E.env.dis j k a z1 z2
 .rcases z with z|z
  .exact at_ a (.inl z) λy=>E.mine a ⟨i,y⟩ z
  .rcases Mn.FM z with w|w
   .exact r.mtb a w
   .by_cases hy:M i a
    .exact r.mtb a (hm' a hy)
    .exact at_ a (.inr w) hy
 .intro hb;rcases Mn.FM z with w|w
  .exact(hm a w).elim (λy=>E.mine a ⟨i,y⟩ hb) λy=>eZ a y (.inl hb)
  .exact E.mine a w hb
end
variable{apos cpos:Pos}
section
variable {p2:Pos}
def z7(i:Nat)(ha:QE X a fa)(hN:autoParam (X.N[i]?=ZA x) u_)(hv:autoParam (kA X.env.scope x) v_)(hn:autoParam (a9 a=ZC) u_)
  (hbase:autoParam (OR (.Name x p2) "append" X.env (eval (.Name x p2) X.env)=eval (.Name x p2) X.env) u_) (hline:autoParam ((apos.endLine == cpos.line)=ZC) u_)
  (hd:autoParam ((x == ("__debug__" : Str))=ZD) s_) (hcd:autoParam ((x == ("__classdict__" : Str))=ZD) s_)
  (hsw:autoParam (Pb (.Call (.Attribute (.Name x p2) "append" apos) [a] [] cpos) ZB pos.line X.env=pure ZD) u_):QS X (.Expr (.Call (.Attribute (.Name x p2) "append" apos) [a] [] cpos) pos) (lW i fa):=by
 have h1:Oq [a] X.env=(ZD,eval a X.env)::Oq [] X.env:=aS hn;refine QS.mk <| PS.imp (iw (yW PH RN RO jR (dB hN hv hd hcd) (cN (xg ha.h) fG h1) hbase ?_ hline h1 rfl) hsw) λD σ H ⟨Z,B,M,E,h⟩=>?_
 .rw[h1];rfl
 unfold lW at h;split at h
 .rename_i ls hl;obtain⟨v0,e1,b,as,rfl,hM,hba,nd,e3,e4⟩:=E.env.own i _ hl;refine⟨.ref b,e1,.inl ⟨rfl,as.map V.ref,SqL.of e3⟩,Z,OO B M,E.o,?_⟩;cases q:fa (strip Z)with
  |bad=>rw[q]at h;exact h.elim
  |err c=>rw[q]at h;exact PostF.xa h
  |ok t=>
   rw[q,ax]at h;cases t with
   |lst l=>
    dsimp only at h;by_cases hz:ls.length<ZI/\noLs l=ZC
    .rw[if_pos hz]at h;intro H1 s1;refine⟨l,rfl,λc ws nw ec rc=>?_⟩;have hcb:c≠b:=λz=>by subst z;rw[nw.1]at e3;cases e3
     have hca:c∉as:=λz=>by obtain⟨vs,e⟩:=e4.mtb c z;rw[nw.1]at e;cases e
     refine⟨b,as.map V.ref,.ref c,rfl,rfl,s1 _ _ e3,by rw[Oa,e4.NG];exact hz.1,?_⟩;have sb:SameO (λd=>d=b) H1 (upd H1 b (.lst (as.map V.ref++[.ref c]))):=λd u e n=>by rw[aI n];exact e
     have sH:SameO (λd=>d=b) H (upd H1 b (.lst (as.map V.ref++[.ref c]))):=λd u e n=>sb d u (s1 _ _ e) n;have hO:∀d,OO B (M.set i λd=>d=b\/d∈as++[c]) d->OO B M d\/d=c:=λd z=>z.elim (λw=>.inl (.inl w)) λw=>(Mn.FM w).elim (λy=>y.elim (λy=>.inl (.inr ⟨i,(hM d).mpr (.inl y)⟩)) λy=>(Ox.mp y).elim (λy=>.inl (.inr ⟨i,(hM d).mpr (.inr y)⟩)) λy=>.inr (Oi.mp y)) λy=>.inl (.inr y);have r1:Reps X.K (λd=>zf (OO B M) H d\/d=c) H1 l ws:=Reps.Nl (λd xs e n z=>z.elim n λz=>by subst z;rw[ec]at e;cases e) hz.2 rc;have r2:Reps X.K (OO B (M.set i λd=>d=b\/d∈as++[c])) (upd H1 b (.lst (as.map V.ref++[.ref c]))) l ws:=r1.move (P:=λd=>d=b) (λd z=>.inl (.inl (.inl (.inr ⟨i,(hM d).mpr (.inl z)⟩)))) (λd z=>.inl ((hO d z).imp_left .inl)) sb;have r3:LsR X.K (OO B (M.set i λd=>d=b\/d∈as++[c])) (upd H1 b (.lst (as.map V.ref++[.ref c]))) ls as:=e4.move (P:=λd=>d=b) (λd z=>.inl (.inr ⟨i,(hM d).mpr (.inl z)⟩)) (λd z=>(hO d z).imp_right λz=>z▸nw) sH λd hd z=>hba (z▸hd);obtain⟨g1,g2,g3⟩:=E.grow (m:=λd=>d=b\/d∈as++[c]) (o':=.ll (ls++[l])) (H':=upd H1 b (.lst (as.map V.ref++[.ref c]))) hl e1
      (λd z=>z.elim (λy=>.inl ((hM d).mpr (.inl y))) λy=>(Ox.mp y).elim (λy=>.inl ((hM d).mpr (.inr y))) λy=>.inr (Oi.mp y▸nw))
      (λd z=>((hM d).mp z).imp_right λy=>OL _ y) (λd u e n=>sH d u e λz=>n ((hM d).mpr (.inl z)))
      ⟨b,as++[c],rfl,λ_=>Rj,λz=>(Ox.mp z).elim hba λz=>hcb (Oi.mp z).symm,Pc.mpr ⟨nd,by simp,λd hd e he=>by rw[Oi.mp he];exact λz=>hca (z▸hd)⟩,by rw[aM,Py];rfl,LsR.app (by rw[aI hcb];exact ec) r2 r3⟩
     exact h σ _ _ g2 g1 g3
    .rw[if_neg hz]at h;exact h.elim
   |_=>exact h.elim
 .exact h.elim
end
noncomputable def iC(tgt:T->En->Rs En)(fe:W5):List T->En->Rs (List (List T))
 |[],_=>.ok []
 |t::r,Z=>tgt t Z >>= λZ1=>fe (strip Z1) >>= λy=>match y with
  |.lst l=>iC tgt fe r Z1 >>= λls=>.ok (l::ls)
  |_=>.bad
noncomputable def Ky(fi:W3)(src:List (Option Nat))(tgt:T->En->Rs En)(fe:W5)(Z:En):Rs (List (List T)):=fi Z >>= λts=>if ts.length<=ZI then(match iC tgt fe ts (bF src Z)with|.ok ls=>.ok ls|_=>.bad)else .bad
noncomputable def Kz(f:W5)(Z:En):Rs (List (List T)):=f (strip Z) >>= λt=>match t with
 |.lst l=>.ok [l]
 |_=>.bad
noncomputable def Cw(f g:En->Rs (List (List T)))(Z:En):Rs (List (List T)):=f Z >>= λl=>g Z >>= λm=>if l.length+m.length<=ZI then .ok (l++m)else .bad
noncomputable def oM(i:Nat)(f:En->Rs (List (List T)))(Z:En):Rs Fl:=f Z >>= λls=>if i<Z.length/\ls.all noLs=ZC then .ok (.nx (Z.set i (.ow (.ll ls))))else .bad
def tNL(X:Cx)(f:En->Rs (List (List T))):TE:=λσ H Q=>∃Z O,EnvO X.K O H Z σ/\Post X H (f Z) λls H'=>∀p as,p∉as->as.Nodup->(∀b,b=p\/b∈as->Nw X.K H b)->H' p=ZA (.lst (as.map V.ref))->LsR X.K (zf O H) H' ls as->Q (.ref p) H'
def tNewE0(K:N7)(f:W5):TE:=λσ H Q=>∃Z O,EnvO K O H Z σ/\match f (strip Z)with
 |.ok (.lst l)=>∀H',Same H H'->∀a ws,Nw K H a->H' a=ZA (.lst ws)->Reps K (zf O H) H' l ws->Q (.ref a) H'
 |_=>False
structure QNL (X:Cx)(e:ZG)(f:En->Rs (List (List T))):Prop where
 h:PE X e (tNL X f)
variable{Q:VK}{fe:W5}{fi:W3}{tgt:T->En->Rs En}
def tNewE0.up(h:tNewE0 X.K f σ H Q):G4 X f σ H Q:=by
 obtain⟨Z,O,E,h⟩:=h;refine⟨Z,O,E,?_⟩;split at h
 .rename_i l e;rw[e];exact λH' s=>⟨l,rfl,h H' s⟩
 .exact h.elim
theorem LsR.cat:∀{l1 l2:List (List T)}{a1 a2:List ZE},LsR K O H l1 a1->LsR K O H l2 a2->LsR K O H (l1++l2) (a1++a2)
 |[],_,_,_,z,w=>by unfold LsR at z;subst z;exact w
 |l0::ls,_,_,_,⟨b,bs,vs,e1,e2,e3,e4⟩,w=>by subst e1;exact⟨b,_,vs,rfl,e2,e3,LsR.cat e4 w⟩
def EB(he:QE X e f)(hs:autoParam (a9 e=ZC) u_):QNL X (.List [e] pos) (Kz f):=QNL.mk <| PE.imp (sX (cN (xg he.h) fG (aS hs))) λσ H Q hh_=>by
 obtain⟨Z,O,E,hq⟩:=hh_;refine⟨Z,O,E,?_⟩;unfold Kz at hq;refine Post.mono hq.bind λt H1 s1 q=>?_;cases t with
 |lst l=>
  refine⟨l,rfl,λa ws nw ea ra=>⟨show 1<=ZI by decide,λp hp=>?_⟩⟩;have pa:p≠a:=λz=>by have:=hp.1;rw[z,ea]at this;cases this
  exact q _ (aU hp.1 _) p [a] (λz=>pa (Oi.mp z)) (by simp) (λb z=>z.elim (λz=>z▸dJ s1 hp) λz=>Oi.mp z▸nw) aM ⟨a,[],ws,rfl,aU hp.1 _ _ _ ea,ra.same (aU hp.1 _),rfl⟩
 |_=>exact q.elim
def EC{b:ZG}{fa fb:En->Rs (List (List T))}(ha:QNL X a fa)(hb:QNL X b fb):QNL X (.BinOp a .Add b pos) (Cw fa fb):=QNL.mk <| PE.imp (LF FR ha.h hb.h) λσ H Q hh_=>by
 obtain⟨Z,O,E,hq⟩:=hh_;refine⟨Z,O,E,?_⟩;unfold Cw at hq;refine Post.mono hq.bind λl1 H1 s1 q1 p1 a1 n1 d1 w1 e1 r1=>⟨Z,O,E.same s1,Post.mono (Post.bind q1) λl2 H2 s2 q2 p2 a2 n2 d2 w2 e2 r2=>?_⟩;by_cases hl:l1.length+l2.length<=ZI
 .rw[if_pos hl]at q2;refine⟨p1,p2,_,_,rfl,rfl,s2 _ _ e1,e2,by rw[Oa,Oa,r1.NG,r2.NG];exact hl,λp hp=>?_⟩;have in1:∀b∈a1,∃vs,H1 b=ZA (.lst vs):=r1.mtb;have hd:∀b∈a1,b∉a2:=λb h1 h2=>by obtain⟨vs,e⟩:=in1 b h1;rw[(w2 b (.inr h2)).1]at e;cases e
  have sp:=aU hp.1 (.lst ((a1++a2).map V.ref));rw[<-Py];refine q2 _ sp p (a1++a2) (λz=>?_) (Pc.mpr ⟨d1,d2,λb h1 c h2 e=>hd b h1 (e▸h2)⟩) (λb z=>?_) aM (((r1.same s2).cat (r2.less (CC s1))).same sp)
  .rcases Ox.mp z with z|z
   .obtain⟨vs,e⟩:=in1 p z;have:=hp.1;rw[s2 _ _ e]at this;cases this
   .obtain⟨vs,e⟩:=r2.mtb p z;rw[hp.1]at e;cases e
  .rcases z with z|z
   .exact z▸dJ s1 (dJ s2 hp)
   .rcases Ox.mp z with z|z
    .exact w1 b (.inr z)
    .exact dJ s1 (w2 b (.inr z))
 .rw[if_neg hl]at q2;exact q2.elim
def HL{elt iter:ZG}{src:List (Option Nat)}(N' N:List Str)(st:ZF)(hi:QI X tg iter fi)
  (block:N'.Nodup->∀(cl:List (Str×ZE))(C:ZE)(s₀:Ob)(H₀:Hp)(fp:List ZE),QG (bz X scope cl N' C s₀ H₀ fp) tg tgt/\QE (bz X scope cl N' C s₀ H₀ fp) elt fe)
  (hc:autoParam (Cx.calm X=ZC) u_) (hN:autoParam (X.N=N) u_) (hm:autoParam (X.env.scope.names=(ao st).names) u_) (hk:autoParam (scope.kind=.function) u_) (h:autoParam (F9 (ao st).names N scope.names N' src=ZC) z_) (nd:autoParam (N'.Nodup) z_) (hs:autoParam (∀(x:N9),O9 iter (Cx.env X) x=pure x) t_):
  QNL X (Rw elt [{target:=tg,iter:=iter,ifs:=[],is_async:=0}] scope pos) (Ky fi src tgt fe):=by
 have S:LcScope X scope N' src:=LcScope.by hN hm hk h
 have hPG:∀cl C s₀ H₀ fp,PG (bz X scope cl N' C s₀ H₀ fp) tg (Bc X tgt):=λcl C s₀ H₀ fp=>(block nd cl C s₀ H₀ fp).1.h;have hPE:∀cl C s₀ H₀ fp,PE (bz X scope cl N' C s₀ H₀ fp) elt (tNewE0 X.K fe):=λcl C s₀ H₀ fp kt s σ H Q I h=>xg (block nd cl C s₀ H₀ fp).2.h kt s σ H Q I (tNewE0.up (X:=bz X scope cl N' C s₀ H₀ fp) h);refine QNL.mk <| PE.imp (yS (g:=Bc X tgt) (tc:=Bz) (te:=tNewE0 X.K fe) hc S hi.h (λcl C s₀ H₀ fp=>⟨hPG cl C s₀ H₀ fp,yO,hPE cl C s₀ H₀ fp⟩) hs) λσ H Q ⟨Z,O,E,hq⟩=>?_;unfold Ky at hq;refine⟨Z,O,E,Post.mono hq.bind λts H1 s1 q1 J hJ D hD hK=>?_⟩;have E1:=E.same s1;by_cases hz:ts.length<=ZI
 .rw[if_pos hz]at q1;cases hall:iC tgt fe ts (bF src Z)with
  |bad=>rw[hall]at q1;exact q1.elim
  |err c=>rw[hall]at q1;exact q1.elim
  |ok all=>
   rw[hall]at q1;have nD:Nw X.K H1 D:=⟨hD,hK⟩;let O':Ow:=λa=>O a\/a=D;let L:Ow:=λa=>zf O H a\/a=D;have subO:∀a,O' a->O a\/Nw X.K H1 a:=λa z=>z.elim .inl λw=>.inr (w▸nD);refine⟨λi m σ' ys H'=>m=ts.length - i/\i<=ts.length/\ys.length=i/\H' D=ZA (.lst ys)/\SameO (λa=>a=D) (upd H1 D (.lst [])) H' ∧
    ∃Z' as yts zs,ys=as.map V.ref/\as.Nodup/\D∉as/\(∀b∈as,Nw X.K H1 b)/\EnvM X.K O' noM H' Z' σ'/\LsR X.K L H' yts as/\iC tgt fe (ts.drop i) Z'=.ok zs/\yts++zs=all,⟨ts.length,?_⟩,?_⟩
   .have sN:Same H1 (upd H1 D (.lst [])):=aU hD _;refine⟨by omega,Pn _,rfl,aM,λb o e _=>e,bF src Z,[],[],all,rfl,Rf,(λz=>nomatch z),(λb z=>nomatch z),?_,rfl,by simpa using hall,rfl⟩;have E2:EnvM X.K O noM H1 (bF src Z) (fx src σ):=vH E1 src;exact E2.move (P:=λa=>a=D) (λa z=>.inr (z▸nD)) subO (λb o e _=>sN b o e) λa z=>by
     rcases z with z|z
     .exact(E1.mtb a z).same sN
     .rw[z];exact .inl ⟨_,aM⟩
   .rintro i m σ' ys H' ⟨rfl,hi',hyl,hDl,hsm,Z',as,yts,zs,rfl,nd,nDa,na,E',ry,hl,hyz⟩;refine⟨hDl,?_⟩;have sm1:SameO (λa=>a=D) H1 H':=λb o e nb=>hsm b o (by rw[aI nb];exact e) nb;have it:=hJ (λa=>a=D) O' (λa z=>.inr (z▸nD)) subO i H' sm1 (λa z=>(E'.trk a z).some);by_cases hlt:i<ts.length
    .refine .inr ?_;have hti:ts[i]?=ZA ts[i]:=by simp
     obtain⟨go,yl⟩:=it.2 ts[i] hti;refine⟨go,by omega,λxx Hc y=>?_⟩;obtain⟨sc,rx⟩:=yl xx Hc y;have Ec:=E'.same sc;rw[PP hlt]at hl;unfold iC at hl;refine⟨Z',O',noM,ts[i],Ec,rx,?_⟩;cases e1:tgt ts[i] Z' with
     |bad=>rw[e1]at hl;cases hl
     |err cc=>rw[e1]at hl;cases hl
     |ok Z1=>
      rw[e1,ax]at hl;intro σ1 Eg;unfold Bz;dsimp only;rw[if_pos rfl];refine⟨Z1,O',⟨noM,Eg⟩,?_⟩;cases e3:fe (strip Z1)with
      |bad=>rw[e3]at hl;cases hl
      |err cc=>rw[e3]at hl;cases hl
      |ok yt=>
       rw[e3,ax]at hl;cases yt with
       |lst l=>
        dsimp only at hl;cases e4:iC tgt fe (ts.drop (i+1)) Z1 with
        |bad=>rw[e4]at hl;cases hl
        |err cc=>rw[e4]at hl;cases hl
        |ok zs'=>
         rw[e4,ax]at hl;have hzs:l::zs'=zs:=by injection hl
         intro H4 s4 a ws nwa ea ra;have Dc:Hc D=ZA (.lst (as.map V.ref)):=sc _ _ hDl;have D4:H4 D=ZA (.lst (as.map V.ref)):=s4 _ _ Dc;have E4:=Eg.same s4;have tot4:Same H' H4:=sc.trans s4;have haD:a≠D:=λz=>by rw[z]at nwa;rw[nwa.1]at Dc;cases Dc
         have haas:a∉as:=λz=>by obtain⟨vs,e⟩:=ry.mtb a z;have:=nwa.1;rw[sc _ _ e]at this;cases this
         have smc:SameO (λa=>a=D) H1 Hc:=λb o e nb=>sc _ _ (sm1 b o e nb);have smD:SameO (λa=>a=D) H4 (upd H4 D (.lst (as.map V.ref++[.ref a]))):=λb o e nb=>by rw[aI nb];exact e
         have inO:∀a,a=D->O' a\/Nw X.K H4 a:=λa z=>.inl (.inr z);have inL:∀a,a=D->L a\/Nw X.K H4 a:=λa z=>.inl (.inr z);have LsubL:∀b,L b->zf O' Hc b:=λb z=>z.elim (λz=>z.elim (λw=>.inl (.inl w)) λ⟨xs,e⟩=>.inr ⟨xs,smc b _ (s1 _ _ e) λw=>by rw[w]at e;rw[s1 _ _ e]at hD;cases hD⟩) λz=>.inl (.inr z);refine⟨D4,ts.length - (i+1),by omega,rfl,hlt,by rw[Oh,hyl];rfl,aM,λb o e nb=>smD b o (tot4 _ _ (hsm b o e nb)) nb,Z1,as++[a],yts++[l],zs',by rw[Py];rfl,Pc.mpr ⟨nd,by simp,λd hd e he=>by rw[Oi.mp he];exact λz=>haas (z▸hd)⟩,λz=>(Ox.mp z).elim nDa λz=>haD (Oi.mp z).symm,λb z=>?_,?_,?_,e4,?_⟩
         .rcases Ox.mp z with z|z
          .exact na b z
          .rw[Oi.mp z];exact(fq smc nwa).elim (λw=>(haD w).elim) id
         .exact E4.move inO (λa z=>.inl z) smD λaa z=>by
           by_cases hz:aa=D
           .rw[hz];exact .inl ⟨_,aM⟩
           .unfold Mtb;rw[aI hz];exact E4.trk aa z
         .have r1:LsR X.K L H4 (yts++[l]) (as++[a]):=LsR.app ea (ra.less LsubL) (ry.same tot4);exact r1.move inL (λa z=>.inl z) smD λb hb=>(Ox.mp hb).elim (λz w=>nDa (w▸z)) λz w=>haD (by rw[<-Oi.mp z];exact w)
         .rw[O8,Ub,hzs];exact hyz
       |_=>cases hl
    .refine .inl ⟨it.1 (by omega),?_⟩;have hi2:i=ts.length:=by omega
     subst hi2;rw[Sx]at hl;have hzs:zs=[]:=by unfold iC at hl;injection hl with hl;exact hl.symm
     subst hzs;rw[OS]at hyz;subst hyz;have sF:Same H1 H':=λb o e=>sm1 b o e λz=>by rw[z,hD]at e;cases e
     exact q1 H' sF D as nDa nd (λb z=>z.elim (λz=>z▸dJ s1 nD) λz=>dJ s1 (na b z)) hDl (ry.less λb z=>.inl z)
 .rw[if_neg hz]at q1;exact q1.elim
def z5{f:En->Rs (List (List T))}(i:Nat)(hN:X.N.Nodup)(he:QNL X e f)(hi:autoParam (X.N[i]?=ZA x) u_)(hx:autoParam (Loc X.env.scope x) y_)(hs:autoParam (Pb e (ZA (.Name x p3)) pos.line X.env=pure ZD) u_)
  (hf:autoParam (X.fn x=ZC\/X.env.scope.names.lookup x=ZA .local) r_):QS X (.Assign [.Name x p3] e pos) (oM i f):=QS.mk <| PS.imp (oR hN hi hx he.h hs hf) λD σ H hh_=>by
 obtain⟨Z,B,M,E,h⟩:=hh_;refine⟨Z,OO B M,E.o,?_⟩;unfold oM at h;cases q:f Z with
 |bad=>rw[q]at h;exact h.elim
 |err c=>rw[q]at h;exact PostF.xa h
 |ok ls=>
  rw[q,ax]at h;by_cases hl:i<Z.length/\ls.all noLs=ZC
  .rw[if_pos hl]at h;intro H1 s1 p as hpas nd na ep r;have hm:∀b,(b=p\/b∈as)->Nw X.K H b:=na;have hO:∀b xs,H1 b=ZA (.tup xs)->¬ zf (OO B M) H b->¬ OO B (M.set i λb=>b=p\/b∈as) b:=λb xs eb n z=>z.elim (λw=>n (.inl (.inl w))) λw=>(Mn.FM w).elim (λy=>by
    rcases y with rfl|y
    .rw[ep]at eb;cases eb
    .obtain⟨vs,e⟩:=r.mtb b y;rw[e]at eb;cases eb) λy=>n (.inl (.inr y))
   obtain⟨E2,sub⟩:=E.new (m:=λb=>b=p\/b∈as) (o:=.ll ls) (v:=.ref p) (H':=H1) hl.1 hm s1 ⟨p,as,rfl,λb=>Rj,hpas,nd,ep,LsR.Nl hO hl.2 r⟩;exact h _ _ _ (SameO.of s1) E2 sub
  .rw[if_neg hl]at h;exact h.elim
noncomputable def zg(i:Nat)(Z:En):Rs T:=match Z[i]? with
 |some (.ow (.lst l))=>.ok (.lst l)
 |_=>.bad
noncomputable def qF(j:Nat)(F:W4):List (List T)->W4
 |[],Z=>.ok (.nx Z)
 |l::r,Z=>F (Z.set j (.ow (.lst l))) >>= λf=>match f with
  |.nx Z2=>qF j F r (Z2.set j .em)
  |_=>.bad
noncomputable def lV(i j:Nat)(F:W4)(Z:En):Rs Fl:=match Z[i]? with
 |some (.ow (.ll ls))=>(match qF j F ls (Z.set i .em)with|.ok f=>.ok f|_=>.bad)
 |_=>.bad
variable{vs:List V}
section
variable {B':Ow}
def ORep.ND{o:OT}(s:∀a,O' a->O a)(r:ORep K O m H o v):ORep K O' m H o v:=r.move (P:=ko) (λ_ z=>z.elim) (λa z=>.inl (s a z)) (λb u q _=>q) λ_ _ z=>z
def Ev.NU(E:Ev K B M H Z σ)(sub:∀a,B' a->B a):Ev K B' M H Z σ:=by have hs:∀a,OO B' M a->OO B M a:=λa z=>z.imp_left (sub a);exact⟨⟨E.env.len,λk t e=>let ⟨v,e1,e2⟩:=E.env.val k t e;⟨v,e1,e2.less hs⟩,λk o e=>let ⟨v,e1,e2⟩:=E.env.own k o e;⟨v,e1,e2.ND hs⟩,λk a z=>.inr ⟨k,z⟩,E.env.dis,λa z=>E.env.trk a (hs a z)⟩,λa z w=>E.mine a z (sub a w)⟩
variable{a:ZE}
def Mn.Nn(h:M.set j m i a):(i=j/\m a)\/(i≠j/\M i a):=by
 unfold Mn.set at h;split at h
 .rename_i e;exact .inl ⟨e,h⟩
 .rename_i e;exact .inr ⟨e,h⟩
def Ev.gv(E:Ev K B M H Z σ)(j:Nat)(sub:∀a,B' a->OO B M a)(mine:∀k a,k≠j->M k a->¬ B' a):Ev K B' (M.set j ko) H (Z.set j .em) σ:=by
 have hs:∀a,OO B' (M.set j ko) a->OO B M a:=λa z=>z.elim (sub a) λw=>(Mn.FM w).elim PM .inr;refine⟨⟨by rw[OZ];exact E.env.len,λk t e=>?_,λk o e=>?_,λk a z=>.inr ⟨k,z⟩,λk k' a z1 z2=>?_,λa z=>E.env.trk a (hs a z)⟩,λa ⟨k,z⟩=>?_⟩
 .by_cases hk:j=k
  .subst hk;have hl:=(Ol.mp e).1;rw[OZ]at hl;rw[Oz hl]at e;cases e
  .rw[Oy hk]at e;obtain⟨v,e1,e2⟩:=E.env.val k t e;exact⟨v,e1,e2.less hs⟩
 .by_cases hk:j=k
  .subst hk;have hl:=(Ol.mp e).1;rw[OZ]at hl;rw[Oz hl]at e;cases e
  .rw[Oy hk]at e;obtain⟨v,e1,e2⟩:=E.env.own k o e;exact⟨v,e1,by rw[Mn.Nc (λz=>hk z.symm)];exact e2.ND hs⟩
 .rcases Mn.Nn z1 with⟨_,w⟩|⟨_,w⟩
  .exact w.elim
  .rcases Mn.Nn z2 with⟨_,w'⟩|⟨_,w'⟩
   .exact w'.elim
   .exact E.env.dis k k' a w w'
 .rcases Mn.Nn z with⟨_,w⟩|⟨hk,w⟩
  .exact w.elim
  .exact mine k a hk w
def Ev.tk(E:Ev K B M H Z σ)(j:Nat){l:List T}(sub:∀c,B' c->B c)(ha:B a)(ha':¬ B' a)(ea:H a=ZA (.lst vs))(r:Reps K (OO B M) H l vs):Ev K B' (M.set j λc=>c=a) H (Z.set j (.ow (.lst l))) (σ.set j (ZA (.ref a))):=by
 have hs:∀c,OO B' (M.set j λc=>c=a) c->OO B M c:=λc z=>z.elim (λw=>.inl (sub c w)) λw=>(Mn.FM w).elim (λw=>.inl (w▸ha)) .inr;have no:∀k,¬M k a:=λk z=>E.mine a ⟨k,z⟩ ha;refine⟨⟨by rw[OZ,OZ];exact E.env.len,λk t e=>?_,λk o e=>?_,λk a z=>.inr ⟨k,z⟩,λk k' c z1 z2=>?_,λc z=>E.env.trk c (hs c z)⟩,λc ⟨k,z⟩=>?_⟩
 .by_cases hk:j=k
  .subst hk;have hl:=(Ol.mp e).1;rw[OZ]at hl;rw[Oz hl]at e;cases e
  .rw[Oy hk]at e ⊢;obtain⟨v,e1,e2⟩:=E.env.val k t e;exact⟨v,e1,e2.less hs⟩
 .by_cases hk:j=k
  .subst hk;have hl:=(Ol.mp e).1;rw[OZ]at hl;rw[Oz hl]at e;cases e;rw[E.env.len]at hl;exact⟨.ref a,Oz hl,by rw[Mn.KF];exact⟨a,vs,rfl,λ_=>Rj,ea,r.less hs⟩⟩
  .rw[Oy hk]at e ⊢;obtain⟨v,e1,e2⟩:=E.env.own k o e;exact⟨v,e1,by rw[Mn.Nc (λz=>hk z.symm)];exact e2.ND hs⟩
 .rcases Mn.Nn z1 with⟨h1,w⟩|⟨h1,w⟩
  .rcases Mn.Nn z2 with⟨h2,w'⟩|⟨h2,w'⟩
   .exact h1.trans h2.symm
   .exact(no k' (w▸w')).elim
  .rcases Mn.Nn z2 with⟨h2,w'⟩|⟨h2,w'⟩
   .exact(no k (w'▸w)).elim
   .exact E.env.dis k k' c w w'
 .rcases Mn.Nn z with⟨_,w⟩|⟨hk,w⟩
  .exact w▸ha'
  .exact λy=>E.mine c ⟨k,w⟩ (sub c y)
end
variable{body:List ZF}{y:Str}
section
variable {p2 py px:Pos}
def Bk(i:Nat)(hm:X.mg "list" =ZB)(hN:autoParam (X.N[i]?=ZA x) u_)(hv:autoParam (kA X.env.scope x) v_)(hd:autoParam ((x == ("__debug__" : Str))=ZD) s_)(hcd:autoParam ((x == ("__classdict__" : Str))=ZD) s_)(hg:autoParam (Gl X "list") u_):QE X (.Call (.Name "list" p) [.Name x p2] [] pos) (zg i):=by
 have h1:Oq [.Name x p2] X.env=(ZD,eval (.Name x p2) X.env)::Oq [] X.env:=aS rfl;refine QE.mk <| PE.imp (Ap wj hg hm (show O6 "list" =ZA (.type "list")by decide+kernel) (cN (dB hN hv hd hcd) fG h1) (by decide) (by decide) h1 rfl) λσ H Q ⟨Z,O,⟨M,E⟩,hq⟩=>?_;unfold zg at hq;split at hq
 .rename_i l hl;obtain⟨v0,e1,b,vs,rfl,hM,e3,e4⟩:=E.own i _ hl;refine⟨.ref b,e1,b,vs,rfl,SqL.of e3,λp hp=>hq _ (aU hp.1 _) _ (Rep.Do.mpr ⟨p,vs,rfl,λz=>?_,aM,e4.same (aU hp.1 _)⟩)⟩;obtain⟨o,e⟩:=(E.trk p z).some;rw[hp.1]at e;cases e
 .exact hq.elim
def z6(i j:Nat){F:W4}(hc:X.calm=ZC)(hNd:X.N.Nodup)(hb:yg X.nox body F)(hi:autoParam (X.N[i]?=ZA x) u_)(hj:autoParam (X.N[j]?=ZA y) u_)(hv:autoParam (kA X.env.scope x) v_)(hx:autoParam (Loc X.env.scope y) y_)
  (hd:autoParam ((x == ("__debug__" : Str))=ZD) s_) (hcd:autoParam ((x == ("__classdict__" : Str))=ZD) s_) (hf:autoParam (X.fn y=ZC\/X.env.scope.names.lookup y=ZA .local) r_) (hs:autoParam (∀z,O9 (.Name x px) X.env z=pure z) t_):
  QS X (.For (.Name y py) (.Name x px) body [] pos) (lV i j F):=QS.mk <| PS.imp (yN hc (yP (dB hi hv hd hcd)) (yQ (X:=X.nox) hNd hj hx hf) hb.h hs) λD σ H hh_=>by
 obtain⟨Z,B,M,E,h⟩:=hh_;unfold lV at h;split at h
 .rename_i ls hl;cases hall:qF j F ls (Z.set i .em)with
  |bad=>rw[hall]at h;exact h.elim
  |err c=>rw[hall]at h;exact h.elim
  |ok fin=>
   rw[hall]at h;obtain⟨v0,e1,b,as,rfl,hM,hba,nd,e3,e4⟩:=E.env.own i _ hl;have hal:as.length=ls.length:=e4.NG;have nB:∀a,(a=b\/a∈as)->¬ B a:=λa z=>E.mine a ⟨i,(hM a).mpr z⟩;refine⟨.ref b,e1,b,rfl,⟨_,SqL.of e3⟩,λk m σ' H'=>m=ls.length - k/\k<=ls.length/\SameO M.u H H'/\H' b=ZA (.lst (as.map V.ref))/\∃Z' M',Ev X.K (λa=>B a\/a=b\/a∈as.drop k) M' H' Z' σ'/\(∀a,M'.u a->M.u a\/Nw X.K H a)/\LsR X.K (OO (λa=>B a\/a=b\/a∈as.drop k) M') H' (ls.drop k) (as.drop k)/\qF j F (ls.drop k) Z'=.ok fin,⟨ls.length,?_⟩,?_⟩
   .have sB:∀a,(B a\/a=b\/a∈as.drop 0)->OO B M a:=λa z=>z.elim .inl λz=>.inr ⟨i,(hM a).mpr (by simpa using z)⟩;refine⟨by omega,Pn _,λ_ _ e _=>e,e3,Z.set i .em,M.set i ko,E.gv i sB λk a hk z w=>w.elim (E.mine a ⟨k,z⟩) λw=>hk (E.env.dis k i a z ((hM a).mpr (by simpa using w))),λa z=>(Mn.FM z).elim PM .inl,?_,by simpa using hall⟩;exact e4.less λa z=>z.elim (sB a) λw=>(Mn.FM w).elim PM .inr
   .rintro k m σ' H' ⟨rfl,hk',sm,hb',Z',M',E',ow,rl,hl'⟩;by_cases hlt:k<ls.length
    .have hka:k<as.length:=by omega
     refine .inr ⟨⟨_,.ref as[k],SqL.of hb',by simp⟩,λσ2 H2=>∃m',m'<ls.length - k/\(m'=ls.length - (k+1)/\k+1<=ls.length/\SameO M.u H H2/\H2 b=ZA (.lst (as.map V.ref))/\∃Z' M',Ev X.K (λa=>B a\/a=b\/a∈as.drop (k+1)) M' H2 Z' σ2/\(∀a,M'.u a->M.u a\/Nw X.K H a)/\LsR X.K (OO (λa=>B a\/a=b\/a∈as.drop (k+1)) M') H2 (ls.drop (k+1)) (as.drop (k+1))/\qF j F (ls.drop (k+1)) Z'=.ok fin),λσ2 H2 z=>z,λxv Hc ⟨ec,yv⟩=>?_⟩;subst ec;have hx:=yv _ (SqL.of hb');rw[OH,OA hka]at hx;cases hx;have dk:as.drop k=as[k] ::as.drop (k+1):=PP hka;have hin:as[k] ∈as.drop k:=by rw[dk];exact Oe
     have hsub:∀a,(B a\/a=b\/a∈as.drop (k+1))->(B a\/a=b\/a∈as.drop k):=λa z=>z.imp_right λz=>z.imp_right λz=>by rw[dk];exact N8 _ z
     have rl0:=rl;rw[PP hlt]at rl hl';obtain⟨a,bs,vs,e,ea,ra,rr⟩:=rl;rw[dk]at e;injection e with ea1 eb1;subst ea1;subst eb1;have hnk:¬ (B as[k]\/as[k]=b\/as[k] ∈as.drop (k+1)):=λz=>z.elim (nB _ (.inr (Pp hka))) λz=>z.elim (λz=>hba (z▸Pp hka)) λz=>by have n1:(as.drop k).Nodup:=nd.sublist (Vy _ _);rw[dk]at n1;exact(O4.mp n1).1 z
     have E2:=E'.tk (B':=λa=>B a\/a=b\/a∈as.drop (k+1)) j hsub (.inr (.inr hin)) hnk ea ra;refine⟨_,_,_,E2,?_⟩;unfold qF at hl';have hP:∀a,(M'.set j λc=>c=as[k]).u a->OO (λa=>B a\/a=b\/a∈as.drop k) M' a:=λa z=>(Mn.FM z).elim (λz=>.inl (.inr (.inr (by rw[z];exact hin)))) .inr;have hPu:∀a,(M'.set j λc=>c=as[k]).u a->M.u a\/Nw X.K H a:=λa z=>(Mn.FM z).elim (λz=>.inl ⟨i,(hM a).mpr (.inr (by rw[z];exact Pp hka))⟩) (ow a);cases e2:F (Z'.set j (.ow (.lst ls[k])))with
     |bad=>rw[e2]at hl';cases hl'
     |err cc=>rw[e2]at hl';cases hl'
     |ok f=>
      rw[e2,ax]at hl';cases f with
      |nx Z2=>
       intro σ3 H3 M3 s3 E3 o3;refine⟨_,by omega,rfl,hlt,sm.trans s3 hPu,s3 b _ hb' λz=>E2.mine b z (.inr (.inl rfl)),Z2.set j .em,M3.set j ko,E3.gv j (λa z=>.inl z) λk' a _ z=>E3.mine a ⟨k',z⟩,λa z=>(Mn.FM z).elim PM λz=>(o3 a z).elim (hPu a) (fq sm),?_,hl'⟩;exact rr.move (P:=(M'.set j λc=>c=as[k]).u) (λa z=>.inl (hP a z)) (λa z=>z.elim (λw=>.inl (.inl (hsub a w))) λw=>(Mn.FM w).elim PM λw=>(o3 a w).imp_left (hP a)) s3 λa ha z=>E2.mine a z (.inr (.inr ha))
      |ct Z2=>cases hl'
      |bk Z2=>cases hl'
      |rt t=>cases hl'
    .refine .inl ⟨⟨_,SqL.of hb',by rw[Oa];omega⟩,?_⟩;have hk2:k=ls.length:=by omega
     subst hk2;rw[Sx]at hl';cases hl';exact h σ' H' M' sm (E'.NU λa z=>.inl z) ow
 .exact h.elim
end
def RzK(X:Cx)(kt:W2)(σ:L2.St)(H:Hp)(c:Str)(ev:N9)(s':Ob):Prop:=
 ∃e T C H',ev=.ref e/\X.mg c=ZA (.ref C)/\Inv X kt σ H' s'/\Same H H'/\H' e=ZB/\(X.ex=[]->X.s₀.heap.get? e=ZB)/\KD s'.heap C e T/\(∀t,T=ZA t->H' t=ZB/\(X.ex=[]->X.s₀.heap.get? t=ZB))/\∀p∈X.pn++kt,p.1≠e/\T≠ZA p.1
def XAk(X:Cx)(σ:L2.St)(H:Hp)(c:Str):Prop:=∀kt ev s',RzK X kt σ H c ev s'->X.xe ev s'
variable{c:Str}
def XAk.later{H1:Hp}(h:XAk X σ H c)(s:Same H H1):XAk X σ H1 c:=λkt ev s' ⟨e,T,C,H',a1,a2,a3,a4,a5⟩=>h kt ev s' ⟨e,T,C,H',a1,a2,a3,s.trans a4,a5⟩
def tEK(X:Cx)(f:W5):TE:=λσ H _=>∃Z O c,EnvO X.K O H Z σ/\f Z=.err c/\XAk X σ H c
noncomputable def Hh:List T->Option (List (List T))
 |[] =>ZA []
 |.lst l::r=>(Hh r).map (l:: ·)
 |_=>ZB
noncomputable def iO(i:Nat)(c m:Str)(g:List Sl->Rs (T×OT))(fs:W3)(Z:En):Rs T:=match Z[i]? with
 |some (.va (.ob c' ns ts))=>(match Hh ts,fs Z with
  |some ls,.ok as=>if (c'=c/\ns.contains m=ZD)/\ls.all noLs=ZC/\noLs as=ZC then(match g (.ow (.ob c' ns ls)::as.map Sl.va)with
   |.err d=>.err d
   |_=>.bad)else .bad
  |_,_=>.bad)
 |_=>.bad
variable{g:List Sl->Rs (T×OT)}
def Aa{m d:Str}{fs:W3}(h:iO i c m g fs Z=.err d):∃c' ns ts ls as,Z[i]?=ZA (.va (.ob c' ns ts))/\Hh ts=ZA ls/\fs Z=.ok as/\c'=c/\ns.contains m=ZD/\ls.all noLs=ZC/\noLs as=ZC/\g (.ow (.ob c' ns ls)::as.map Sl.va)=.err d:=by
 unfold iO at h;split at h
 .rename_i c' ns ts hi;split at h
  .rename_i ls as h1 h2;split at h
   .rename_i hc;split at h
    .rename_i e hg;cases h;exact⟨c',ns,ts,ls,as,hi,h1,h2,hc.1.1,hc.1.2,hc.2.1,hc.2.2,hg⟩
    .cases h
   .cases h
  .cases h
 .cases h
theorem y9:∀{l:List T}{k:Nat}{t:T},noLs l=ZC->l[k]?=ZA t->noL t=ZC
 |[],_,_,_,e=>by cases e
 |x::l,k,t,h,e=>by
  unfold noLs at h;rw[Oc]at h;cases k with
  |zero=>cases e;exact h.1
  |succ k=>exact y9 h.2 e
theorem Cm:∀{ts:List T}{ls:List (List T)}{as:List ZE},Hh ts=ZA ls->Reps K O H ts (as.map V.ref)->LsR K O H ls as/\∀b∈as,¬O b
 |[],ls,as,h,r=>by cases h;have:=Reps.Da.mp r;rw[List.map_eq_nil_iff]at this;subst this;exact⟨rfl,λb hb=>nomatch hb⟩
 |.lst l::ts,ls,as,h,r=>by
  obtain⟨v,ws,e,r1,r2⟩:=Reps.me.mp r;unfold Hh at h;obtain⟨ls',h1,h2⟩:=Qy.mp h;subst h2;cases as with
  |nil=>cases e
  |cons a as=>
   cases e;obtain⟨a',vs,e1,n,e2,e3⟩:=Rep.Do.mp r1;cases e1;obtain⟨g1,g2⟩:=Cm h1 r2;exact⟨⟨a,as,vs,rfl,e2,e3,g1⟩,λb hb=>(Oj.mp hb).elim (λz=>z▸n) (g2 b)⟩
 |.non::_,_,_,h,_|.bl _::_,_,_,h,_|.int _::_,_,_,h,_|.str _::_,_,_,h,_|.tup _::_,_,_,h,_|.scr _::_,_,_,h,_|.dct _ _::_,_,_,h,_|.ob _ _ _::_,_,_,h,_=>by cases h
def Hy{C:Str}{ns:List Str}{ts as:List T}{ls:List (List T)}(E:EnvO K O H Z σ)(r:Rep K O H (.ob C ns ts) v)(hl:Hh ts=ZA ls)(hn:ls.all noLs=ZC)(ra:Reps K O H as vs)(ha:noLs as=ZC):
  ∃m,Ev K O (one 0 m) H (.ow (.ob C ns ls)::as.map Sl.va) ((v::vs).map ZA):=by
 obtain⟨a,dx,fs,rfl,⟨⟨n1,n2,n3⟩,bs,b1,b2,b3,b4,b5,b6⟩,e3,e4,e5⟩:=Rep.Nh.mp r;rw[b1]at e5;obtain⟨rl,nb⟩:=Cm hl e5;have hfs:fs=ns.zip (bs.map V.ref):=by rw[<-e4,<-b1];clear e3 e5 b1 e4 b6;induction fs with
  |nil=>rfl
  |cons x fs ih=>rw[Of,Of,Tf,<-ih]
 have hlen:ns.length=bs.length:=by rw[<-e4,Oa,<-Oa (f:=(·.2)),b1,Oa]
 refine⟨λb=>b=a\/b=dx\/b∈bs,?_⟩;have notT:∀b xs,H b=ZA (.tup xs)->¬ O b->¬ BM O (λb=>b=a\/b=dx\/b∈bs) b:=λb xs eb nO z=>z.elim nO λz=>by
  rcases z with rfl|rfl|z
  .rw[e3]at eb;cases eb
  .rw[n3]at eb;cases eb
  .obtain⟨ws,e⟩:=rl.mtb b z;rw[e]at eb;cases eb
 refine Ev.one (B':=ko) (o:=.ob C ns ls) (by rw[Og,Oa,Oa,Og,ra.length]) (λk t e=>?_) (λk o' e=>?_) (λb z=>?_) λb z y=>?_
 .obtain⟨w,e1,e2⟩:=xV (v0:=.ref a) ra e;have hk:noL t=ZC:=by
   cases k with
   |zero=>cases e
   |succ k=>
    rw[PK,OH]at e;cases q:as[k]? with
    |none=>rw[q]at e;cases e
    |some u=>
     rw[q]at e;cases e;exact y9 ha q
  exact⟨w,by rw[OH,e1];rfl,Rep.Nl notT hk e2⟩
 .have hk:=xW e;subst hk;cases e;exact⟨rfl,.ref a,rfl,a,dx,bs,rfl,λ_=>Rj,⟨b2,b3,b4,b5⟩,by rw[<-hfs];exact e3,n3,hlen,e4▸b6,LsR.Nl notT hn rl⟩
 .rcases z with z|rfl|rfl|z
  .exact E.mtb b z
  .exact .inr (.inr ⟨_,e3,rfl⟩)
  .exact .inr (.inr ⟨_,n3,rfl⟩)
  .exact .inl (rl.mtb b z)
 .rcases z with rfl|rfl|z
  .exact n1 y
  .exact n2 y
  .exact nb b z y
variable{f:ZE}{kt:W2}{ps:List Str}
section
variable {sls:List Sl}
def G7(F:GZ X.prog X.w X.K X.mg X.base k f fd ps n j g)(hr:Room k X.A)(hb:Binds X.K fd ps [])(hps:ps.length=n)(I:Inv X kt σ H s)(r:Vals vs us)(Ea:Ev X.K B (one j m) H sls (vs.map ZA))(hl:sls.length=n)(q2:g sls=.err c)(hq:XAk X σ H c):ZJ (ZK X.prog X.w) X.A (call (.ref f) us) (EP X kt σ Q) X.xe s:=by
 have hlen:us.length=ps.length:=by rw[<-r.length,hps,<-hl,Ea.env.len,Oa]
 have hb':=hb s us I.kIn (by rw[OS];exact hlen);rw[OS]at hb';refine TF (Rr (F.x X.A X.stack s H ⟨us,[]⟩ us vs B m sls c (λr s'=>match r with|.error ev=>X.xe ev s'|_=>False) hr I.NA hb' r Ea hl q2 λev s' w=>?_) λr s' hq=>?_)
 .obtain⟨ea,T,C,H',rfl,hmc,ho,hbare,hun,hok,sm2,hea,heo,fl,hT,hTo⟩:=w;have I2:Inv X kt σ H' s':=I.Nt ho hun hok hbare (λb z=>absurd z (by simp));exact hq kt _ _ ⟨ea,ZA T,C,H',rfl,hmc,I2,sm2,hea,λhex=>e9 I hex heo,fl,(λt zt=>by cases zt;exact⟨hT,λhex=>e9 I hex hTo⟩),λpp hpp=>⟨λzz=>(by have:=(I.pin pp hpp).1;rw[zz,heo]at this;cases this),λzz=>(by cases zz;have:=(I.pin pp hpp).1;rw[hTo]at this;cases this)⟩⟩
 .cases r with
  |error ev=>exact hq
  |ok fl=>exact hq.elim
end
variable{es:List ZG}
section
variable {fs:W3}{p2:Pos}{m:Str}
def KN{p2:Pos}{d:Str}{fs:W3}{pl:Sem Bool}{Q:W1}(i:Nat)(hc:Cls X.K (bS X.K c))(hm:wt X.K (bS X.K c) m f)(hN:X.N[i]?=ZA x)(hv:kA X.env.scope x)(hd:(x == ("__debug__" : Str))=ZD)(hcd:(x == ("__classdict__" : Str))=ZD)(I:Inv X kt σ H s)(E:EnvO X.K O H Z σ)(hf:iO i c m g fs Z=.err d)
  (ht:eval (.Call (.Attribute (.Name x p2) m apos) es [] pos) X.env=(do
   let ov <-eval (.Name x p2) X.env
   standAt apos.atName
   let (f,first) <-holding [ov] (Sr ov m pl)
   TU pos f first (backTo pos (Oq es X.env)) (Se pos (QV [] X.env))))
  (k:∀ns ts ls as q s1,Inv X kt σ H s1->Rep X.K O H (.ob c ns ts) (.ref q)->Hh ts=ZA ls->ls.all noLs=ZC->fs Z=.ok as->noLs as=ZC->g (.ow (.ob c ns ls)::as.map Sl.va)=.err d->ZJ (ZK X.prog X.w) X.A (TU pos (.ref f) [.ref q] (backTo pos (Oq es X.env)) (Se pos (QV [] X.env))) Q X.xe s1):ZJ (ZK X.prog X.w) X.A (eval (.Call (.Attribute (.Name x p2) m apos) es [] pos) X.env) Q X.xe s:=by
 obtain⟨c',ns,ts,ls,as,hi,hls,has,h1,h2,h3,h4,hg⟩:=Aa hf;subst h1;obtain⟨v0,s0,r⟩:=E.val i _ hi;obtain⟨q,dx,fs',e1,n',e3,e4,e5⟩:=Rep.Nh.mp r;subst e1;refine Sg (pl:=pl) (bR (dB (pos:=p2) hN hv hd hcd kt s σ H (λv H'=>v=.ref q/\H'=H) I ⟨_,s0,rfl,rfl⟩) λu s1 ⟨v,H1,I1,rx,ev,eH⟩=>?_) ht;subst ev eH;obtain rfl:u=.ref q:=rx;exact kN I1 e3 hc hm (nT (by rw[e4];exact h2)) (k ns ts ls as q s1 I1 r hls h3 has h4 hg)
end
def tSK(X:Cx)(F:W4):TS:=λ_ σ H=>∃Z O c,EnvO X.K O H Z σ/\F Z=.err c/\XAk X σ H c
noncomputable def EH(f:W5)(Z:En):Rs Fl:=f Z >>= λ_=>.bad
noncomputable def EG(f:W6)(F G:W4)(Z:En):Rs Fl:=match f Z with
 |.ok k=>if k then F Z else G Z
 |_=>.bad
noncomputable def uW(F:W4)(h:En->Str->Rs T)(Z:En):Rs Fl:=match F Z with
 |.err c=>(match h Z c with
  |.ok t=>.ok (.rt t)
  |_=>.bad)
 |_=>.bad
def D6(X:Cx)(i:Nat)(suite:List ZF)(CE:ZE)(h:En->Str->Rs T):Prop:=
 ∀(c:Str)(C:ZE)(t:T)(Z:En),X.mg c=ZA (.ref C)->h Z c=.ok t->∃bm,OX X.K C bm/\(OF C::bm).contains (.ref CE)=ZC ∧
  ∀(e:ZE)(oe:Obj)(ev:Array N9),oe.cls=.ref C->oe.data=.fields ev->∀(kt:W2)(s:Ob)(σ:L2.St)(H:Hp)(O:Ow)(Q:VK),Inv (uh X e oe) kt σ H s->H e=ZB->e∉n8 X.stack->σ[i]?=ZA (ZA (.ref e))->(∀(k:Nat)(n:Int),k≠i->Z[k]?=ZA (.va (.int n))->σ[k]?=ZA (ZA (.int n)))->(∀p,H p=ZB->¬ O p) ->
   (∀v H',Same H H'->Rep X.K O H' t v->Q v H')->ZJ (ZK X.prog X.w) (uh X e oe).A (execs suite X.env) (SP (uh X e oe) kt {nx:=λ_ _=>False,rt:=Q}) (λ_ _=>False) s
structure QEK (X:Cx)(e:ZG)(f:W5):Prop where
 h:PE X e (tEK X f)
structure QSK (X:Cx)(e:ZF)(f:W4):Prop where
 h:PS X e (tSK X f)
structure QSKs (X:Cx)(e:List ZF)(f:W4):Prop where
 h:PSs X e (tSK X f)
variable{st:ZF}
section
variable {c:ZG}{x:W5}
def jK{F:W4}(h:QSK X st F):QSKs X [st] F:=⟨nR h.h⟩
def Et{bK:List ZF}{F:W4}(h1:QSK X st F):QSKs X (st::bK) F:=QSKs.mk <| PSs.imp (oQ h1.h (u:=λ_ _ _=>False) λ_ _ _ _ _ _ z=>PM z) λD σ H h=>h
def rZ(ha:QEK X a x)(hs:autoParam (Pb a ZB pos.line X.env=pure ZD) u_):QSK X (.Expr a pos) (EH x):=QSK.mk <| PS.imp (iw ha.h hs) λD σ H hh_=>by
 obtain⟨Z,O,c,E,h,hx⟩:=hh_;refine⟨Z,O,c,E,?_,hx⟩;unfold EH at h;cases z:x Z with
 |bad=>rw[z]at h;cases h
 |err c=>rw[z]at h;cases h;rfl
 |ok p=>rw[z]at h;cases h
def wI{f:W6}{A C:List ZF}{F G:W4}(hc:QT X c f)(ha:QSKs X A F)(hb:QSKs X C G):QSK X (.If c A C pos) (EG f F G):=QSK.mk <| PS.imp (BV hc.h ha.h hb.h) λD σ H hh_=>by
 obtain⟨Z,O,d,E,h,hx⟩:=hh_;refine⟨Z,O,E,?_⟩;unfold EG at h;cases q:f Z with
 |bad=>rw[q]at h;cases h
 |err c=>rw[q]at h;cases h
 |ok k=>
  rw[q]at h;intro H' s;cases k with
  |true=>refine L2.iteT ?_;exact⟨Z,O,d,E.same s,h,hx.later s⟩
  |false=>refine L2.iteF ?_;exact⟨Z,O,d,E.same s,h,hx.later s⟩
end
variable{g:List T->Rs T}{ge:List Sl->Rs (T×OT)}
section
variable {b c o:ZG}{bK:List ZG}{fb fo:W5}{fs:W3}{p2 p4 spos:Pos}{n cn' f m:Str}{ex ey:En->Rs (T×En)}{tx ty:En->Rs (Bool×En)}
def rY{pl:Sem Bool}(i:Nat)(C:qd X.K X.mg n)(M:Mm X.prog X.w X.K X.mg X.base k n m (l+1) ge)(hr:Room k' X.A)(ha:QA X (e::es) fs)(hk:autoParam (k<=k') s_)(hl:∀(Z:En)(ts:List T),fs Z=.ok ts->ts.length=l:=by repeat first|exact wo|refine wm ?_)
  (hN:autoParam (X.N[i]?=ZA x) u_) (hv:autoParam (kA X.env.scope x) v_) (hd:autoParam ((x == ("__debug__" : Str))=ZD) s_) (hcd:autoParam ((x == ("__classdict__" : Str))=ZD) s_)
  (hns:autoParam (br (e::es)=ZC) u_)
  (ht:eval (.Call (.Attribute (.Name x p2) m apos) (e::es) [] pos) X.env=(do
   let ov <-eval (.Name x p2) X.env
   standAt apos.atName
   let (f,first) <-holding [ov] (Sr ov m pl)
   TU pos f first (backTo pos (Oq (e::es) X.env)) (Se pos (QV [] X.env))):=by rfl):QEK X (.Call (.Attribute (.Name x p2) m apos) (e::es) [] pos) (iO i n m ge fs):=by
 obtain⟨f,fd,ps,h1,h2,h3,h4⟩:=M.ex;have hn2:a9 e=ZC/\br es=ZC:=Po.mp hns;refine⟨λkt s σ H Q I ⟨Z,O,d,E,hf,hx⟩=>KN i C.cl h1 hN hv hd hcd I E hf ht λc' ts ls as q s1 I1 r hls h3' has h4' hg=>?_⟩;refine QD (first:=[.ref q]) (h₀:=X.base) I.ok.mod.kin h1.kp (bR (ha.h pos kt s1 σ H (λvs H2=>Same H H2/\Reps X.K O H2 as vs) I1 ⟨Z,O,E,by rw[has];exact λH' s' vs rs=>⟨s',rs⟩⟩) λus s2 ⟨vs,H2,I2,r2,sm,rs⟩=>⟨I2.kIn,?_⟩) (aS hn2.1) (d9 hn2.2);obtain⟨m',Ea⟩:=Hy (E.same sm) (r.same sm) hls h3' rs h4';exact G7 (us:=.ref q::us) (vs:=.ref q::vs) h4 (hr.mono hk) h2 h3 I2 (.cons rfl r2) Ea (by rw[Og,Oa];exact congrArg (· +1) (hl Z as has)) hg (hx.later sm)
def Bg{pl:Sem Bool}(i:Nat)(C:qd X.K X.mg n)(M:Mm X.prog X.w X.K X.mg X.base k n m 1 ge)(hr:Room k' X.A)(hk:autoParam (k<=k') s_)
  (hN:autoParam (X.N[i]?=ZA x) u_) (hv:autoParam (kA X.env.scope x) v_) (hd:autoParam ((x == ("__debug__" : Str))=ZD) s_) (hcd:autoParam ((x == ("__classdict__" : Str))=ZD) s_)
  (ht:eval (.Call (.Attribute (.Name x p2) m apos) [] [] pos) X.env=(do
   let ov <-eval (.Name x p2) X.env
   standAt apos.atName
   let (f,first) <-holding [ov] (Sr ov m pl)
   TU pos f first (backTo pos (Oq [] X.env)) (Se pos (QV [] X.env))):=by rfl):QEK X (.Call (.Attribute (.Name x p2) m apos) [] [] pos) (iO i n m ge aj):=by
 obtain⟨f,fd,ps,h1,h2,h3,h4⟩:=M.ex;refine⟨λkt s σ H Q I ⟨Z,O,d,E,hf,hx⟩=>KN i C.cl h1 hN hv hd hcd I E hf ht λc' ts ls as q s1 I1 r hls h3' has h4' hg=>?_⟩;cases has;obtain⟨m',Ea⟩:=Hy E r hls h3' Reps.GM h4';exact UM (first:=[.ref q]) I1.kIn h1.kp (G7 (us:=[.ref q]) (vs:=[.ref q]) h4 (hr.mono hk) h2 h3 I1 (.cons rfl .nil) Ea rfl hg hx)
end
section
variable {b c o:ZG}{bK:List ZG}{fb fo:W5}{fs:W3}{p2 p4 spos:Pos}{n cn' f m:Str}{ex ey:En->Rs (T×En)}{tx ty:En->Rs (Bool×En)}
def Bh{suite:List ZF}{b0:ZF}{F:W4}{h:En->Str->Rs T}{ce:Str}{CE:ZE}(i:Nat){np hpos:Pos}(hN:X.N.Nodup)(hm:X.mg ce=ZA (.ref CE))(OE:OX X.K CE bmE)
  (hb:∀pn xe,QSKs {X with pn:=pn,xe:=xe} body F) (hs:D6 X i (b0::suite) CE h) (hst:autoParam (X.stack=X.env::X.outer) u_) (hfe:autoParam (X.env.frame=ZA X.env.locals) u_) (hcl:∀x c,X.env.cells.lookup x≠ZA c) (hex:autoParam (X.ex=[]) u_)
  (hi:autoParam (X.N[i]?=ZA n) u_) (hloc:autoParam (X.env.scope.names.lookup n=ZA .local) u_) (hg:autoParam (Gl X ce) u_) (hd:autoParam ((ce == ("__debug__" : Str))=ZD) s_):
  QS X (.Try body [.ExceptHandler (ZA (.Name ce np)) (ZA n) (b0::suite) hpos] [] [] pos) (uW F h):=by
 refine⟨λkt s σ H D I ⟨Z,B,M,E,hq⟩=>?_⟩;refine We ?_;unfold uW at hq;cases q:F Z with
 |bad=>rw[q]at hq;exact hq.elim
 |ok fl=>rw[q]at hq;exact hq.elim
 |err c=>
  rw[q]at hq;cases q2:h Z c with
  |bad=>simp only[q2]at hq;exact hq.elim
  |err c'=>simp only[q2]at hq;exact hq.elim
  |ok t=>
   simp only[q2]at hq;have hq':∀v H',SameO M.u H H'->Rep X.K B H' t v->D.rt v H':=hq;refine PX ((hb (X.pn++kt) _).h [] s σ H {nx:=λ_ _=>False,rt:=λ_ _=>False,bk:=λ_ _=>False,ct:=λ_ _=>False} ((Tr.Inv.NK kt I).FB _) ⟨Z,OO B M,c,E.o,q,?_⟩) (λfl s' z=>?_) λ_ _ z=>z
   rotate_left
   .cases fl with
    |next=>obtain⟨_,_,_,z⟩:=z;exact z.elim
    |cont=>obtain⟨_,_,_,z⟩:=z;exact z.elim
    |brk=>obtain⟨_,_,_,z⟩:=z;exact z.elim
    |ret v=>obtain⟨_,_,_,_,_,z⟩:=z;exact z.elim
   intro pins1 ev s1 w;obtain⟨e,T,C,H1,rfl,hmc,I1,sm,he,heo,fl,hT,hpp⟩:=w;have I1:Inv X kt σ H1 s1:=Tr.Inv.NJ (X:=X) I1;have hpp:∀p∈X.pn++kt,p.1≠e/\T≠ZA p.1:=λp hp=>hpp p (OL _ hp);have heo:=heo hex;have hT:∀t,T=ZA t->H1 t=ZB/\X.s₀.heap.get? t=ZB:=λt z=>⟨(hT t z).1,(hT t z).2 hex⟩;show ZJ _ _ _ _ _ _;have hfr:X.A.frames=ZA (X.env::X.outer):=by rw[<-hst];exact I1.ok.frames
   have hstk:s1.heap.FunFrames X.base (X.env::X.outer):=by rw[<-hst];exact I1.stack
   refine Hi hfr hstk hfe fl λh' T' g=>?_;have I2:=Inv.gone I1 hst hfe hcl hex g he heo hT hpp;have Tn:H1 T'=ZB/\X.s₀.heap.get? T'=ZB/\∀p∈X.pn++kt,p.1≠T':=by
    rcases g.new with z|z
    .exact⟨(hT T' z).1,(hT T' z).2,λp hp y=>(hpp p hp).2 (by rw[z,y])⟩
    .exact⟨jm I1 z,e9 I1 hex z,λp hp y=>by have:=(I1.pin p hp).1;rw[y,z]at this;cases this⟩
   obtain⟨bm,OC,hin,run⟩:=hs c C t Z hmc q2;obtain⟨hTe,oe,ev,hoe,hoc,hod,h1,oT,ts,hoT,hdT,h3⟩:=g.flt;have nfr:∀b o vs,h'.get? b=ZA o->o.data=.fields vs->b∉(X.env::X.outer).filterMap (·.frame):=λb o vs hb hd z=>by have:=I2.stack;rw[hst]at this;obtain⟨_,o',ho',hnf⟩:=this.mem z;rw[show h'.get? b=ZA o' from ho']at hb;cases hb;exact hnf vs hd
   have hel:e≠X.env.locals:=λz=>nfr e oe ev hoe hod (by rw[PB,hfe];exact z▸Oe);have hef:e∉X.fs:=λz=>nfr e oe ev hoe hod (by rw[PB,hfe];exact N8 _ z);have hcell:∀v,oe.data≠ .cell v:=λv z=>by rw[hod]at z;cases z
   have I3:Inv (uh X e oe) kt σ H1 {s1 with heap:=h'}:=nZ I2 hoe he hel hef hcell;refine UX (Uv (gy (X:=uh X e oe) I3 hg hm ?_ hd)) (by intro z;cases z);obtain⟨nm,qq,N,bs,hdct,sn,sub,ab,col,dd,k0,k1,k2,k3,k5,mN,hC,_⟩:=OC.at_ h' I3.kIn;obtain⟨nm',qq',N',bs',hdct',sn',sub',ab',col',dd',k0',k1',k2',k3',k5',mN',hD,_,_,TD⟩:=OE.at_ h' I3.kIn;refine rh hC hD hoe hoc (TD.tail.hasType (by decide)) hin (codeAny_handlers_suite_as ?_);refine UF hoe hod h1 hoT hdT (Pw.mp h3).1 ?_;generalize hU:h'.update T' (SM (·.setIfInBounds 3 O7))=h2;have kp:∀b,b≠T'->h2.get? b=h'.get? b:=λb hb=>by rw[<-hU];exact Ri _ _ (Ra hb)
   have hT2:h2.get? T'=ZA (SM (·.setIfInBounds 3 O7) oT):=by rw[<-hU];exact Sj _ hoT (Sk (QH hdT _))
   have hoe2:h2.get? e=ZA oe:=(kp e (Ra hTe)).trans hoe;have g2:Ee ((X.env::X.outer).filterMap (·.frame)) C e (ZA T') h' h2 T':=⟨⟨hTe,oe,ev,hoe2,hoc,hod,h1,_,_,hT2,QH hdT _,by simp[(Pw.mp h3).1]⟩,.inl rfl,λb o _ _ n3 q=>(kp b λz=>n3 (by rw[z])).trans q,λb o m q=>⟨o.slots,(kp b λz=>nfr T' oT ts hoT hdT (z▸m)).trans q⟩⟩;have I4:Inv X kt σ H1 {s1 with heap:=h2}:=Inv.gone (s:={s1 with heap:=h'}) I2 hst hfe hcl hex g2 he heo (λt z=>by cases z;exact⟨Tn.1,Tn.2.1⟩) λp hp=>⟨(hpp p hp).1,λz=>Tn.2.2 p hp (O0 z).symm⟩;have I5:Inv (uh X e oe) kt σ H1 {s1 with heap:=h2}:=nZ I4 hoe2 he hel hef hcell;refine k9 (X:=uh X e oe) (v:=.ref e) I5 hN hi (.inl hloc) rfl (λs3 I6=>?_) (.inr hloc);have hil:i<σ.length:=by rw[I1.len];exact(Ol.mp hi).1
   refine PX (run e oe ev hoc hod kt s3 _ H1 B (λv H'=>Same H1 H'/\Rep X.K B H' t v) I6 he (λz=>?_) (by simp[hil]) (λk n hk e=>?_) (λp hp z=>?_) λv H' s' r=>⟨s',r⟩) (λf s4 r=>?_) λ_ _ z=>z.elim
   .rw[hst]at z;exact nfr e oe ev hoe hod z
   .rw[Oy (Ra hk)];obtain⟨v,e1,e2⟩:=E.env.val k _ e;rw[e1,Rep.AC.mp e2]
   .obtain⟨o,ho⟩:=(E.env.trk p (.inl z)).some;have:=sm p o ho;rw[hp]at this;cases this
   .cases f with
    |next=>obtain⟨_,_,_,z⟩:=r;exact z.elim
    |brk=>obtain⟨_,_,_,z⟩:=r;exact z.elim
    |cont=>obtain⟨_,_,_,z⟩:=r;exact z.elim
    |ret u=>
     obtain⟨v,σ',H',I7,rv,s',rt⟩:=r;obtain⟨m,hn,_⟩:=I7.loc;refine wpAny_nameGoes (show X.env.kindOf n=ZA .local from hloc) hn (by rw[I.ok.kind];rfl) λh8 m8 hn8 hs8=>?_;exact⟨v,_,H',Inv.forget (zD I.ok I7) hcl hn8 hs8,rv,hq' v H' (λb o y nn=>s' b o (sm b o y)) rt⟩
end
section
variable {e C D:ZE}{oe:Obj}{ev:Array N9}{bmD:List N9}
def K0(i:Nat)(e:ZE)(b:Bool):TE:=λσ H Q=>σ[i]?=ZA (ZA (.ref e))/\Q (.bl b) H
def FG(i:Nat){en dn:Str}{p1 p2:Pos}(hN:X.N[i]?=ZA en)(hv:kA X.env.scope en)(hp:(e,oe)∈X.pn)(hc:oe.cls=.ref C)(hd:oe.data=.fields ev)(OC:OX X.K C bm)(OD:OX X.K D bmD)(b:Bool)(hb:(decide (C=D))=b)(hnb:C≠D->bm.contains (.ref D)=ZD)
  (hm:X.mg "isinstance" =ZB) (hmD:X.mg dn=ZA (.ref D)) (hg:Gl X "isinstance") (hgD:Gl X dn) (hde:(en == ("__debug__" : Str))=ZD) (hce:(en == ("__classdict__" : Str))=ZD) (hdd:(dn == ("__debug__" : Str))=ZD):
  PE X (.Call (.Name "isinstance" p) [.Name en p1,.Name dn p2] [] pos) (K0 i e b):=by
 have he:Oq [.Name en p1,.Name dn p2] X.env=(ZD,eval (.Name en p1) X.env)::Oq [.Name dn p2] X.env:=aS rfl;have hs:Oq [.Name dn p2] X.env=(ZD,eval (.Name dn p2) X.env)::Oq [] X.env:=aS rfl;intro kt s σ H Q I ⟨hσ,q⟩;refine Pv (fI I hg hm fJ ?_ (by decide) (by decide));have hA:PA X [.Name en p1,.Name dn p2] (oA (HW i) (oA (tC (.ref D)) EM)):=cN (dB hN hv hde hce) (cN (yT hgD hmD rfl hdd) fG hs) he;refine Qh (bR (hA pos kt s σ H (λvs H'=>vs=[.ref e,.ref D]/\H'=H) I ⟨.ref e,hσ,rfl,rfl⟩) λus s1 ⟨vs,H1,I1,r1,e1,e2⟩=>?_) he (by rw[hs];rfl);subst e1;obtain⟨u,w',rfl,ru,rw'⟩:=yz r1;cases ru;cases rw';subst e2;exact Dd hp hc hd OC OD b hb hnb I1 q
def FH(i:Nat){en:Str}{p1 p2:Pos}(hN:X.N[i]?=ZA en)(hv:kA X.env.scope en)(hp:(e,oe)∈X.pn)(hc:oe.cls=.ref C)(OC:OX X.K C bm)
  (hm:X.mg "isinstance" =ZB) (hmD:X.mg "ValueError" =ZB) (hg:Gl X "isinstance") (hgD:Gl X "ValueError") (hde:(en == ("__debug__" : Str))=ZD) (hce:(en == ("__classdict__" : Str))=ZD):
  PE X (.Call (.Name "isinstance" p) [.Name en p1,.Name "ValueError" p2] [] pos) (K0 i e ZC):=by
 have he:Oq [.Name en p1,.Name "ValueError" p2] X.env=(ZD,eval (.Name en p1) X.env)::Oq [.Name "ValueError" p2] X.env:=aS rfl;have hs:Oq [.Name "ValueError" p2] X.env=(ZD,eval (.Name "ValueError" p2) X.env)::Oq [] X.env:=aS rfl;intro kt s σ H Q I ⟨hσ,q⟩;refine Pv (fI I hg hm fJ ?_ (by decide) (by decide));have hA:PA X [.Name en p1,.Name "ValueError" p2] (oA (HW i) (oA (tC (.ty "ValueError")) EM)):=cN (dB hN hv hde hce) (cN (yX (v:=.ty "ValueError") hgD hmD Ku rfl) fG hs) he;refine Qh (bR (hA pos kt s σ H (λvs H'=>vs=[.ref e,.ty "ValueError"]/\H'=H) I ⟨.ref e,hσ,rfl,rfl⟩) λus s1 ⟨vs,H1,I1,r1,e1,e2⟩=>?_) he (by rw[hs];rfl);subst e1;obtain⟨u,w',rfl,ru,rw'⟩:=yz r1;cases ru;cases rw';subst e2;exact De hp hc OC I1 q
end
section
variable {CE CN:ZE}{bmV:List N9}
noncomputable def J1(ia:Nat)(cs:List Str)(d:Str)(z:Int)(Z:En)(c:Str):Rs T:=match Z[ia]? with
 |some (.va (.int n))=>if cs.contains c=ZC then .ok (.bl (decide (c=d) == decide (n=z)))else .bad
 |_=>.bad
def Ae(i ia:Nat){en an dn:Str}{cs:List Str}{z:Int}{p1 p2 q q1 q2 q3 r r2 r3 r4 rp:Pos}{jj:Nat}(hCE:∀c∈cs,∀C,X.mg c=ZA (.ref C)->OX X.K C (.ref CE::bmV)/\(C≠CN->CE≠CN)/\(C=CN↔c=dn))(OD:OX X.K CN (.ref CE::bmV))(hmD:X.mg dn=ZA (.ref CN))(hbv:bmV.contains (.ref CN)=ZD)
  (hm:X.mg "isinstance" =ZB) (hmV:X.mg "ValueError" =ZB) (hne:ia≠i) (hN:autoParam (X.N[i]?=ZA en) u_) (hNa:autoParam (X.N[ia]?=ZA an) u_) (hv:autoParam (kA X.env.scope en) v_) (hva:autoParam (kA X.env.scope an) v_)
  (hg:autoParam (Gl X "isinstance") u_) (hgV:autoParam (Gl X "ValueError") u_) (hgD:autoParam (Gl X dn) u_) (hde:autoParam ((en == ("__debug__" : Str))=ZD) s_) (hce:autoParam ((en == ("__classdict__" : Str))=ZD) s_) (hda:autoParam ((an == ("__debug__" : Str))=ZD) s_) (hca:autoParam ((an == ("__classdict__" : Str))=ZD) s_) (hdd:autoParam ((dn == ("__debug__" : Str))=ZD) s_):
  D6 X i [.Return (ZA (.BoolOp .And [.Call (.Name "isinstance" p) [.Name en p1,.Name "ValueError" p2] [] p3,.Compare (.Call (.Name "isinstance" q) [.Name en q1,.Name dn q2] [] q3) [.Eq] [.Compare (.Name an r) [.Eq] [.Constant (.int z) jj r2] r3] r4] pos)) rp] CE (J1 ia cs dn z):=by
 intro c C t Z hmc ht;unfold J1 at ht;split at ht
 .rename_i n hn;split at ht
  .rename_i hcs;cases ht;obtain⟨OC,hcn,hiff⟩:=hCE c (by simpa using hcs) C hmc;refine⟨_,OC,by rw[Pt,Pt,beq_self_eq_true,VR,VQ],λe oe ev hc hd kt s σ H O Q I hH hf hσ hk hO hq=>?_⟩;have hp:(e,oe)∈(uh X e oe).pn:=Oe;refine nR (xc (B8 (FH (X:=uh X e oe) i hN hv hp hc OC hm hmV hg hgV hde hce) (B3 (yU Hg (FG (X:=uh X e oe) i hN hv hp hc hd OC OD (decide (C=CN)) rfl (λz=>?_) hm hmD hg hgD hde hce hdd) (yU Hg (dB (X:=uh X e oe) hNa hva hda hca) B4 (Cn _)) (Cn _))))) kt s σ H _ I ⟨hσ,ZC,rfl,L2.iteT ⟨hσ,_,hk ia n hne hn,rfl,rfl,?_⟩⟩
   .rw[Pt,hbv,U1,beq_eq_false_iff_ne];exact λy=>hcn z (UY y).symm
   .have e1:decide (V.bl (decide (C=CN))=V.bl (decide (V.int n=V.int z)))=(decide (c=dn) == decide (n=z)):=by rw[DM,zP,Ui (a:=n),decide_eq_decide.mpr hiff]
    show Q (V.bl _) H;rw[e1];exact hq _ H (Same.refl H) (Rep.FS.mpr rfl)
  .cases ht
 .cases ht
end
def fsc{N P:List Str}(h1:autoParam (sc.kind=.function) u_)(h2:autoParam (sc.isCoroutine=ZD) u_)(h3:autoParam (sc.isGenerator=ZD) u_)(h4:autoParam (N.Nodup) z_)(h5:autoParam (N.take P.length=P) u_)
  (h6:autoParam (∀x∈P,sc.names.lookup x=ZA .local\/sc.names.lookup x=ZA .cell) z_) (h7:autoParam (∀y∈sc.names,y.2≠ .free) z_):bo N P sc:=⟨h1,h2,h3,h4,h5,h6,h7⟩
def hu70(h:Room k A):A.units+70<cLine:=by have:=h.un;omega
variable{mg:W0}
section
variable {base:ZH}{F:W4}
def aP(N:List Str)(H:eX K mg x st ps)
  (hbody:N.Nodup->∀(f:ZE)(cdv:N9)(A:OY)(outer:List Env)(s:Ob)(H:Hp)(E:XK),Room k (A.deeper (envOfC x (ao st) s.heap.objs.size f cdv)) ->
   ∀xe,yg ((gf CX0 P w K mg base N x (ao st) f cdv A outer s H E).FB xe) (bD st) F) (S:autoParam (bo N ps (ao st)) a_) (hn:autoParam (ps.length=n) u_):Cl P w K mg base (k+1) x n (val n N.length F):=MM H S hn (hbody S.nd)
end
def dO{elt iter:ZG}{ifs:List ZG}{src:List (Option Nat)}{fc:W6}(N' N:List Str)(st:ZF)(hi:QI X tg iter fi)
  (block:N'.Nodup->∀(cl:List (Str×ZE))(C:ZE)(s₀:Ob)(H₀:Hp)(fp:List ZE),QG (bz X scope cl N' C s₀ H₀ fp) tg tgt/\KC (bz X scope cl N' C s₀ H₀ fp) ifs fc/\QE (bz X scope cl N' C s₀ H₀ fp) elt fe)
  (hc:autoParam (Cx.calm X=ZC) u_) (hN:autoParam (X.N=N) u_) (hm:autoParam (X.env.scope.names=(ao st).names) u_) (hk:autoParam (scope.kind=.function) u_) (h:autoParam (F9 (ao st).names N scope.names N' src=ZC) z_) (nd:autoParam (N'.Nodup) z_) (hs:autoParam (∀(x:N9),O9 iter (Cx.env X) x=pure x) t_):
  QE X (Rw elt [{target:=tg,iter:=iter,ifs:=ifs,is_async:=0}] scope pos) (fE fi src tgt fc fe):=KG hc (LcScope.by hN hm hk h) hi (block nd) hs
@[elab_as_elim] theorem vE {α:Type} {p:List α->Prop} (h:∀a,p [a]):∀us:List α,us.length=1->p us
 |[a],_=>h a
@[elab_as_elim] theorem zi {α:Type} {p:List α->Prop} (h:∀a b,p [a,b]):∀us:List α,us.length=2->p us
 |[a,b],_=>h a b
@[elab_as_elim] theorem CI {α:Type} {p:List α->Prop} (h:∀a b c,p [a,b,c]):∀us:List α,us.length=3->p us
 |[a,b,c],_=>h a b c
section
variable {h:ZH}{S:Ba}{top:Nat->ZF}
def bQ(j:Nat){n:Str}(X:K.In h)(G:h.Ns O5 mg)(e:tL S K=si S top)(q:autoParam (S.tab[j]?=ZA (n,i)) u_)
  (hb:∀(kV doc pm:N9)(an:Option ZE)(cdv ct:N9)(us:List N9),us.length=ps.length->Ve (RJ n n (fy (top i)) (bD (top i)) (ao (top i)) .none kV doc pm an cdv ct) ⟨us,[]⟩=pure (ps.zip us):=by intro _ _ _ _ _ _ us hl;first|exact vE (λ_=>rfl) us hl|exact zi (λ_ _=>rfl) us hl|exact CI (λ_ _ _=>rfl) us hl|exact len_0 rfl us hl):
  ∃f fd,Fn K mg n (top i) ps f fd:=k_fn j X G e q hb
end
end Tr
namespace G
open PySem PySem.Spec PyProof.Rows L2 Tr
structure Bl (mg:W0):Prop where
 b_ValueError:mg "ValueError" =ZB
 b_all:mg "all" =ZB
 b_bool:mg "bool" =ZB
 b_dict:mg "dict" =ZB
 b_enumerate:mg "enumerate" =ZB
 b_int:mg "int" =ZB
 b_isinstance:mg "isinstance" =ZB
 b_len:mg "len" =ZB
 b_list:mg "list" =ZB
 b_min:mg "min" =ZB
 b_range:mg "range" =ZB
 b_reversed:mg "reversed" =ZB
 b_sorted:mg "sorted" =ZB
 b_tuple:mg "tuple" =ZB
structure Cs (mg:W0):Prop where
 MOST_CLOCKS:∃t,mg "MOST_CLOCKS" =ZA (.int 4 t)
 MOST_LETTERS:∃t,mg "MOST_LETTERS" =ZA (.int 8 t)
 MOST_READINGS:∃t,mg "MOST_READINGS" =ZA (.int 4 t)
 LAST_READING:∃t,mg "LAST_READING" =ZA (.int 99 t)
 SLOWEST:∃t,mg "SLOWEST" =ZA (.int 9 t)
 LONGEST:∃t,mg "LONGEST" =ZA (.int 999 t)
structure bV (K:N7)(mg:W0):Prop where
 k:qd K mg "Sketch"
 a_past:NoAttr K (bS K "Sketch") "past"
 a_ahead:NoAttr K (bS K "Sketch") "ahead"
def ur:O6 "bool" =ZA (.type "bool"):=by decide+kernel
def uq:O6 "dict" =ZA (.type "dict"):=by decide+kernel
def mX:O6 "int" =ZA (.type "int"):=by decide+kernel
def de:O6 "tuple" =ZA (.type "tuple"):=by decide+kernel
structure Xs (K:N7)(mg:W0)(ac al bi bn bv ca:ZE):Prop where
 m_NoRecord:mg "NoRecord" =ZA (.ref ac)
 m_NoEvent:mg "NoEvent" =ZA (.ref al)
 m_NoNumber:mg "NoNumber" =ZA (.ref bi)
 m_NoWorld:mg "NoWorld" =ZA (.ref bn)
 m_Nothing:mg "Nothing" =ZA (.ref bv)
 m_ClockError:mg "ClockError" =ZA (.ref ca)
 o_NoRecord:OX K ac (.ref ca::bmV)
 o_NoEvent:OX K al (.ref ca::bmV)
 o_NoNumber:OX K bi (.ref ca::bmV)
 o_NoWorld:OX K bn (.ref ca::bmV)
 o_Nothing:OX K bv (.ref ca::bmV)
 o_ClockError:OX K ca bmV
 d:[ac,al,bi,bn,bv,ca].Nodup
variable{ca al bi ac bn bv:ZE}{mg:W0}
def HN(S:Xs K mg ac al bi bn bv ca):∀c∈(["NoRecord","NoNumber","Nothing"]:List Str),∀C,mg c=ZA (.ref C)->OX K C (.ref ca::bmV)/\(C≠bv->ca≠bv)/\(C=bv↔c= "Nothing"):=by
 have dd:=S.d;have ap:∀{a b:ZE}(i j:Nat),i<j->[ac,al,bi,bn,bv,ca][i]?=ZA a->[ac,al,bi,bn,bv,ca][j]?=ZA b->a≠b:=λ{a b} i j hij ha hb z=>by have:=(List.getElem?_inj (Ol.mp ha).1 dd).mp (ha.trans (z▸hb.symm));omega
 intro c hc C hm;have nc:ca≠bv:=(Ra (ap 4 5 (by decide) rfl rfl));simp only[Oj,PF,or_false]at hc;rcases hc with rfl|rfl|rfl
 .rw[S.m_NoRecord]at hm;cases hm;exact⟨S.o_NoRecord,λ_=>nc,Iff.intro (λz=>absurd z (ap 0 4 (by decide) rfl rfl)) (λz=>absurd z (by decide))⟩
 .rw[S.m_NoNumber]at hm;cases hm;exact⟨S.o_NoNumber,λ_=>nc,Iff.intro (λz=>absurd z (ap 2 4 (by decide) rfl rfl)) (λz=>absurd z (by decide))⟩
 .rw[S.m_Nothing]at hm;cases hm;exact⟨S.o_Nothing,λ_=>nc,Iff.intro (λ_=>rfl) (λ_=>rfl)⟩
def rW:W4:=
 (aV (dD (o1 (Gj "tuple") (vr 0)) (ch L4 L4 (vr 1) (cl cS (ae (vr 0) aj)) (vr 2))))
def aT:List T->Rs T:=val 3 3 rW
def yk:W4:=
 (aV (dD (o1 (Gj "int") (vr 0)) (o1 FW (o1 (Gj "bool") (vr 0)))))
def iA:List T->Rs T:=val 1 1 yk
def wy:W4:=
 (aV (dD (cl iA (ae (vr 0) aj)) (ch L4 L4 (vr 1) (vr 0) (vr 2))))
def a8:List T->Rs T:=val 3 3 wy
def A9:W4:=
 (aV (dD (cl a8 (ae (vr 0) (ae (cn (.int 1)) (ae (cn (.int 9)) aj)))) (cl a8 (ae (vr 1) (ae (vr 0) (ae (cn (.int 9)) aj))))))
def jY:List T->Rs T:=val 2 2 A9
def z4:W4:=
 (aV (cl qL (ae (fE (iR (ae (o2 jb (cl cS (ae (vr 0) aj)) (cn (.int 1))) aj)) [ZB,ZA 0] (gN 0) bT (o2 F4 (o2 aR (vr 1) (vr 0)) (o2 aR (vr 1) (o2 aQ (vr 0) (cn (.int 1)))))) aj)))
def jX:List T->Rs T:=val 1 1 z4
def eO:W4:=
 (aF (i7 (eZ (tb (cl aT (ae (vr 0) (ae (cn (.int 1)) (ae (cn (.int 4)) aj)))))) (aV (cn (.bl ZD))) sN) (aV (dD (cl qL (ae (fE (iS (vr 0)) [ZB] (gN 0) bT (cl a8 (ae (vr 0) (ae (cn (.int 0)) (ae (cn (.int 99)) aj))))) aj)) (cl jX (ae (vr 0) aj)))))
def bP:List T->Rs T:=val 1 1 eO
def iJ:W4:=
 (aV (dD (cl aT (ae (vr 0) (ae (cn (.int 3)) (ae (cn (.int 3)) aj)))) (dD (cl jY (ae (o2 aR (vr 0) (cn (.int 0))) (ae (o2 aR (vr 0) (cn (.int 1))) aj))) (cl bP (ae (o2 aR (vr 0) (cn (.int 2))) aj)))))
def dj:List T->Rs T:=val 1 1 iJ
def iK:W4:=
 (aV (dD (cl aT (ae (vr 0) (ae (cn (.int 1)) (ae (cn (.int 4)) aj)))) (cl qL (ae (fE (iS (vr 0)) [ZB] (gN 0) bT (cl dj (ae (vr 0) aj))) aj))))
def dz:List T->Rs T:=val 1 1 iK
def ym:W4:=
 (aF (i7 (y8 (eZ (tb (cl aT (ae (vr 1) (ae (cn (.int 2)) (ae (cn (.int 2)) aj)))))) (eZ (tb (cl a8 (ae (o2 aR (vr 1) (cn (.int 0))) (ae (cn (.int 0)) (ae (o2 jb (cl cS (ae (vr 0) aj)) (cn (.int 1))) aj))))))) (aV (cn (.bl ZD))) sN) (aV (cl a8 (ae (o2 aR (vr 1) (cn (.int 1))) (ae (cn (.int 0)) (ae (o2 jb (cl cS (ae (o2 aR (o2 aR (vr 0) (o2 aR (vr 1) (cn (.int 0)))) (cn (.int 2))) aj)) (cn (.int 1))) aj))))))
def dQ:List T->Rs T:=val 2 2 ym
def yq:W4:=
 (aV (dD (cl a8 (ae (vr 0) (ae (cn (.int 0)) (ae (cn (.int 999)) aj)))) (FN (o2 lI (vr 1) (cn .non)) (cl a8 (ae (vr 1) (ae (vr 0) (ae (cn (.int 999)) aj)))))))
def iB:List T->Rs T:=val 2 2 yq
def wA:W4:=
 (aF (i7 (y8 (eZ (tb (cl aT (ae (vr 1) (ae (cn (.int 4)) (ae (cn (.int 4)) aj)))))) (eZ (tb (cl iB (ae (o2 aR (vr 1) (cn (.int 2))) (ae (o2 aR (vr 1) (cn (.int 3))) aj)))))) (aV (cn (.bl ZD))) sN) (aV (dD (cl dQ (ae (vr 0) (ae (o2 aR (vr 1) (cn (.int 0))) aj))) (dD (cl dQ (ae (vr 0) (ae (o2 aR (vr 1) (cn (.int 1))) aj))) (o2 wG (o2 aR (vr 1) (cn (.int 0))) (o2 aR (vr 1) (cn (.int 1))))))))
def fB:List T->Rs T:=val 2 2 wA
def gM:W4:=
 (aV (dD (cl aT (ae (vr 1) (ae (cn (.int 0)) (ae (cn (.int 8)) aj)))) (cl qL (ae (fE (iS (vr 1)) [ZB,ZA 0] (gN 0) bT (cl fB (ae (vr 1) (ae (vr 0) aj)))) aj))))
def c9:List T->Rs T:=val 2 2 gM
def wz:W4:=
 (aV (dD (cl aT (ae (vr 0) (ae (cn (.int 2)) (ae (cn (.int 2)) aj)))) (dD (cl dz (ae (o2 aR (vr 0) (cn (.int 0))) aj)) (cl c9 (ae (o2 aR (vr 0) (cn (.int 0))) (ae (o2 aR (vr 0) (cn (.int 1))) aj))))))
def gu:List T->Rs T:=val 1 1 wz
def dF:W4:=
 (i7 (eZ (tb (cl gu (ae (vr 0) aj)))) (uX "NoRecord") sN)
def aG:List T->Rs T:=val 1 1 dF
def eQ:En->Rs Fx:=
 (jt (wH (xP (cl aG (ae (vr 1) aj)))) (jt (vC 0 "Sketch" "past" (ae (ba (ae (cn .non) (ae (vr 1) aj))) aj)) (vC 0 "Sketch" "ahead" aj)))
def cF:List Sl->Rs (T×OT):=gW 2 0 2 eQ
def jI:W4:=
 (aF (i7 (tb (o2 j6 (vr 0) (gc aj))) (aV (o2 cL (cn (.int 7)) (vr 1))) sN) (aV (o2 aQ (o2 aR (vr 0) (o2 lA (vr 1) (cl cS (ae (vr 0) aj)))) (o2 cL (cn (.int 6553)) (o2 lK (vr 1) (cl cS (ae (vr 0) aj)))))))
def fD:List T->Rs T:=val 2 2 jI
def iM:W4:=
 (aF (dh (o2 lA (o2 aQ (o2 cL (o2 lA (cl fD (ae (vr 0) (ae (vr 1) aj))) (cn (.int 2147483563))) (cn (.int 69069))) (o2 cL (cn (.int 104723)) (o2 aQ (vr 1) (cn (.int 1))))) (cn (.int 2147483563))) (gN 3)) (aF (dh (o2 lA (o2 aQ (o2 cL (vr 3) (vr 3)) (o2 lK (vr 3) (cn (.int 3)))) (cn (.int 2147483399))) (gN 3)) (aV (o2 lA (o2 lK (o2 lA (o2 aQ (o2 cL (vr 3) (vr 3)) (o2 lK (vr 3) (cn (.int 7)))) (cn (.int 2147483647))) (cn (.int 11))) (vr 2)))))
def az:List T->Rs T:=val 3 4 iM
abbrev evF:W4:=dh (o2 aQ (vr 1) (fE (iR (ae (cl cS (ae (o2 aR (vr 3) (cn (.int 2))) aj)) aj)) [ZB,ZA 2] (gN 0) bT (ba (ae (vr 1) (ae (vr 0) aj))))) (gN 1)
def kB:W4:=
 (aF (dh (gc aj) (gN 1)) (aF (gE (iE (ae (vr 0) aj)) (gT 2 (vP (gN 2) (vP (gN 3) Ek))) evF) (aV (vr 1))))
def b7:List T->Rs T:=val 1 4 kB
def dH:W4:=
 (aF (dh (cl b7 (ae (vr 2) aj)) (gN 3)) (aF (i7 (tb (o2 F4 (cl cS (ae (vr 3) aj)) (cn (.int 2)))) (aV (cn .non)) sN) (aF (dh (cl az (ae (vr 0) (ae (vr 1) (ae (cl cS (ae (vr 3) aj)) aj)))) (gN 4)) (aF (dh (o2 lA (o2 aQ (o2 aQ (vr 4) (cn (.int 1))) (cl az (ae (vr 0) (ae (o2 aQ (vr 1) (cn (.int 1))) (ae (o2 jb (cl cS (ae (vr 3) aj)) (cn (.int 1))) aj))))) (cl cS (ae (vr 3) aj))) (gN 5)) (aF (dh (cl az (ae (vr 0) (ae (o2 aQ (vr 1) (cn (.int 2))) (ae (cn (.int 8)) aj)))) (gN 6)) (aF (dh (Dh (tb (o2 j6 (cl az (ae (vr 0) (ae (o2 aQ (vr 1) (cn (.int 3))) (ae (cn (.int 3)) aj)))) (cn (.int 0)))) (cn .non) (o2 aQ (vr 6) (cl az (ae (vr 0) (ae (o2 aQ (vr 1) (cn (.int 4))) (ae (cn (.int 9)) aj)))))) (gN 7)) (aV (ba (ae (o2 aR (vr 3) (vr 4)) (ae (o2 aR (vr 3) (vr 5)) (ae (vr 6) (ae (vr 7) aj))))))))))))
def bZ:List T->Rs T:=val 3 8 dH
abbrev clF:W4:=dh (o2 aQ (vr 3) (ba (ae (o2 aQ (o2 aQ (o2 aR (vr 3) (o1 ke (cn (.int 1)))) (cn (.int 1))) (cl az (ae (vr 0) (ae (o2 aQ (o2 aQ (vr 1) (cn (.int 3))) (vr 4)) (ae (cn (.int 5)) aj))))) aj))) (gN 3)
def iN:W4:=
 (aF (dh (o2 aQ (cn (.int 1)) (cl az (ae (vr 0) (ae (vr 1) (ae (cn (.int 3)) aj))))) (gN 2)) (aF (dh (ba (ae (cl az (ae (vr 0) (ae (o2 aQ (vr 1) (cn (.int 2))) (ae (cn (.int 6)) aj)))) aj)) (gN 3)) (aF (gE (iR (ae (cl az (ae (vr 0) (ae (o2 aQ (vr 1) (cn (.int 1))) (ae (cn (.int 3)) aj)))) aj)) (gN 4) clF) (aV (ba (ae (vr 2) (ae (o2 aQ (vr 2) (cl az (ae (vr 0) (ae (o2 aQ (vr 1) (cn (.int 6))) (ae (cn (.int 3)) aj))))) (ae (vr 3) aj))))))))
def cE:List T->Rs T:=val 2 5 iN
abbrev leF:W4:=aF (dh (cl bZ (ae (vr 0) (ae (o2 aQ (o2 aQ (vr 1) (cn (.int 31))) (o2 cL (cn (.int 6)) (vr 5))) (ae (vr 3) aj)))) (gN 6)) (dh (o2 aQ (vr 4) (o2 cL (gc (ae (vr 6) aj)) (cl Df (ae (o2 jl (vr 6) (cn .non)) aj)))) (gN 4))
def gO:W4:=
 (aF (dh (cl gD (ae (fE (iR (ae (o2 aQ (cn (.int 1)) (cl az (ae (vr 0) (ae (vr 1) (ae (cn (.int 3)) aj))))) aj)) [ZB,ZA 0,ZA 1] (gN 0) bT (cl cE (ae (vr 1) (ae (o2 aQ (o2 aQ (vr 2) (cn (.int 1))) (o2 cL (cn (.int 8)) (vr 0))) aj)))) aj)) (gN 3)) (aF (dh (gc aj) (gN 4)) (aF (gE (iR (ae (cl az (ae (vr 0) (ae (o2 aQ (vr 1) (cn (.int 30))) (ae (o2 aQ (vr 2) (cn (.int 1))) aj)))) aj)) (gN 5) leF) (aV (ba (ae (vr 3) (ae (cl gD (ae (vr 4) aj)) aj)))))))
def fw:List T->Rs T:=val 3 7 gO
abbrev peF:W4:=oP 1 (fE (iR (ae (cl cS (ae (o2 aR (vr 3) (cn (.int 2))) aj)) aj)) [ZB,ZA 2] (gN 0) bT (ba (ae (vr 1) (ae (vr 0) aj))))
def p9:W4:=
 (aF (mK (cl aG (ae (vr 0) aj))) (aF (iX 1 aj) (aF (gE (iE (ae (o2 aR (vr 0) (cn (.int 0))) aj)) (gT 2 (vP (gN 2) (vP (gN 3) Ek))) peF) (kF 1 (aV (vr 1))))))
def fY:List T->Rs T:=val 1 4 p9
def jF:W4:=
 (aF (dh (oD i6 (vr 0) (o2 aR (vr 1) (cn (.int 1)))) (gN 3)) (aV (FN (o2 lI (vr 3) (cn .non)) (o2 F4 (o2 aQ (o2 aR (vr 2) (cn (.int 0))) (o2 aR (vr 1) (cn (.int 2)))) (o2 aR (vr 3) (cn (.int 0)))))))
def dm:List T->Rs T:=val 3 4 jF
abbrev Eh:W4:=(aF (dh (ln 2 (oD i6 (vr 2) (o2 aR (vr 5) (cn (.int 0))))) (gN 6)) (aF (i7 (y8 (tb (o2 lI (vr 6) (cn .non))) (eZ (Bd 2 (tb (cl dm (ae (vr 2) (ae (vr 5) (ae (vr 6) aj)))))))) K8 sN) (aF (dh (o2 aQ (o2 aR (vr 6) (cn (.int 1))) (gc (ae (vr 4) aj))) (gN 7)) (aF (dh (fE (iS (vr 7)) [ZB,ZA 0] (gN 0) bT (o2 aR (o2 aR (vr 1) (vr 0)) (cn (.int 0)))) (gN 8)) (aF (i7 (tb (o2 Hu (o2 aR (vr 5) (cn (.int 1))) (vr 8))) (aV (ba (ae (cn .non) (ae (sl (vr 7) (pS (oL gw (vr 8) (o2 aR (vr 5) (cn (.int 1))))) pN) aj)))) sN) (aF (Ak 2 (o2 aR (vr 5) (cn (.int 1))) (ba (ae (o2 aQ (o2 aR (vr 6) (cn (.int 0))) (o2 aR (vr 5) (cn (.int 2)))) (ae (vr 7) aj)))) (dh (cn (.bl ZC)) (gN 3))))))))
def jE:W4:=
 (aF (qW 2 (fE (iS (vr 1)) [ZB] (gN 0) bT (ba (ae (vr 0) (ae (ba (ae (cn (.int 0)) (ae (gc aj) aj))) aj))))) (aF (dh (cn (.bl ZC)) (gN 3)) (aF (bJ (tb (vr 3)) (aF (dh (cn (.bl ZD)) (gN 3)) (gE (iE (ae (vr 0) aj)) (gT 2 (vP (gN 4) (vP (gN 5) Ek))) Eh)) FU) (kF 2 (aV (ba (ae (vr 2) (ae (cn .non) aj))))))))
def fX:List T->Rs T:=val 2 9 jE
def fh:W4:=
 (aF (dh (cl fY (ae (vr 0) aj)) (gN 2)) (aF (dh (o2 aR (cl fX (ae (vr 1) (ae (vr 2) aj))) (cn (.int 0))) (gN 3)) (aF (i7 (tb (o2 lI (vr 3) (cn .non))) (aV (cn .non)) sN) (aV (cl gD (ae (fE (iS (vr 2)) [ZB,ZA 3] (gN 0) bT (o2 aR (o2 jB (vr 1) (vr 0)) (cn (.int 0)))) aj))))))
def dy:List T->Rs T:=val 2 4 fh
abbrev bcF:W4:=(aF (dh (ba (ae (vr 0) (ae (vr 4) aj))) (gN 5)) (aF (dh (ba (ae (vr 0) (ae (o2 aQ (vr 4) (cn (.int 1))) aj))) (gN 6)) (aF (dh (o2 jb (o2 aR (vr 2) (o2 aQ (vr 4) (cn (.int 1)))) (o2 aR (vr 2) (vr 4))) (gN 7)) (aF (gF 3 (ba (ae (vr 5) (ae (vr 6) (ae (o2 cL (vr 7) (o2 aR (vr 1) (cn (.int 1)))) aj))))) (gF 3 (ba (ae (vr 6) (ae (vr 5) (ae (o2 cL (o1 ke (vr 7)) (o2 aR (vr 1) (cn (.int 0)))) aj)))))))))
def eJ:W4:=
 (aF (dh (o2 aR (vr 1) (cn (.int 2))) (gN 2)) (aF (iX 3 aj) (aF (gE (iR (ae (o2 jb (cl cS (ae (vr 2) aj)) (cn (.int 1))) aj)) (gN 4) bcF) (kF 3 (aV (vr 3))))))
def cz:List T->Rs T:=val 2 8 eJ
def dR:W4:=
 (aF (iX 1 (ae (ba (ae (o2 aR (vr 0) (cn (.int 1))) (ae (o2 aR (vr 0) (cn (.int 0))) (ae (o1 ke (o2 aR (vr 0) (cn (.int 2)))) aj)))) aj)) (aF (i7 (tb (o2 jl (o2 aR (vr 0) (cn (.int 3))) (cn .non))) (gF 1 (ba (ae (o2 aR (vr 0) (cn (.int 0))) (ae (o2 aR (vr 0) (cn (.int 1))) (ae (o2 aR (vr 0) (cn (.int 3))) aj))))) sN) (kF 1 (aV (vr 1)))))
def cg:List T->Rs T:=val 1 2 dR
abbrev bdF:W4:=oP 1 (cl cz (ae (vr 2) (ae (vr 3) aj)))
def qb:W4:=
 (aF (mK (cl aG (ae (vr 0) aj))) (aF (iX 1 aj) (aF (gE (iE (ae (o2 aR (vr 0) (cn (.int 0))) aj)) (gT 2 (vP (gN 2) (vP (gN 3) Ek))) bdF) (aF (gE (iS (o2 aR (vr 0) (cn (.int 1)))) (gN 4) (oP 1 (cl cg (ae (vr 4) aj)))) (kF 1 (aV (vr 1)))))))
def fZ:List T->Rs T:=val 1 5 qb
def G0:W4:=
 (aV (cl dy (ae (vr 0) (ae (cl fZ (ae (vr 0) aj)) aj))))
def jU:List T->Rs T:=val 1 1 G0
def wB:W4:=
 (aV (o2 jl (cl jU (ae (vr 0) aj)) (cn .non)))
def aZ:List T->Rs T:=val 1 1 wB
def iI:W4:=
 (i7 (eZ (tb (cl dQ (ae (o2 aR (vr 0) (cn (.int 0))) (ae (vr 1) aj))))) (uX "NoEvent") sN)
def cX:List T->Rs T:=val 2 2 iI
def fL:W4:=
 (aF (oN 2 (fE (iS (o2 aR (vr 0) (cn (.int 1)))) [ZB,ZA 1] (gN 0) (tb (o2 j6 (o2 aR (vr 0) (cn (.int 1))) (vr 1))) (o2 aR (vr 0) (cn (.int 0))))) (aF (i7 (tb (o2 M4 (o2 aR (vr 1) (cn (.int 1))) (cn (.int 0)))) (gF 2 (ba (ae (o2 aR (vr 1) (cn (.int 0))) (ae (o2 jb (o2 aR (vr 1) (cn (.int 1))) (cn (.int 1))) aj)))) sN) (kF 2 (aV (vr 2)))))
def c8:List T->Rs T:=val 2 3 fL
abbrev knC:W6:=tb (o2 F4 (vr 3) (ln 2 (cl cS (ae (vr 2) aj))))
abbrev knI:W4:=i7 (Bd 2 (tb (o2 fH (vr 4) (vr 2)))) (gF 2 (vr 4)) sN
def uB:W4:=
 (aF (mK (cl aG (ae (vr 0) aj))) (aF (mK (cl cX (ae (vr 0) (ae (vr 1) aj)))) (aF (iX 2 (ae (vr 1) aj)) (aF (dh (cn (.int 0)) (gN 3)) (aF (bJ knC (aF (gE (iS (cl c8 (ae (vr 0) (ae (ln 2 (o2 aR (vr 2) (vr 3))) aj)))) (gN 4) knI) (BH 3 (cn (.int 1)))) FU) (kF 2 (aV (cl uR (ae (vr 2) aj)))))))))
def cY:List T->Rs T:=val 2 5 uB
def uz:W4:=
 (aF (dh (fE (iS (cl cY (ae (vr 0) (ae (vr 1) aj)))) [ZB] (gN 0) bT (o2 aR (vr 0) (cn (.int 0)))) (gN 2)) (aV (cl gD (ae (fE (iR (ae (cl cS (ae (o2 aR (vr 0) (cn (.int 0))) aj)) aj)) [ZB,ZA 2] (gN 0) bT (oL nV (vr 1) (vr 0))) aj))))
def jV:List T->Rs T:=val 2 3 uz
def nJ:W4:=
 (aV (o2 aR (o2 aR (o1 (nG "Sketch" "past") (vr 0)) (o1 ke (cn (.int 1)))) (cn (.int 1))))
def aD:List T->Rs T:=val 1 1 nJ
abbrev M5:W4:=i7 (tb (cl aZ (ae (o2 aR (vr 1) (cn (.int 1))) aj))) (aV (o2 aR (vr 1) (cn (.int 1)))) sN
def gP:W4:=
 (aF (gE (Di (ae (o1 (nG "Sketch" "past") (vr 0)) aj)) (gN 1) M5) (aV (cn .non)))
def da:List T->Rs T:=val 1 2 gP
def nK:W4:=
 (aV (ba (ae (o2 jb (cl cS (ae (o1 (nG "Sketch" "past") (vr 0)) aj)) (cn (.int 1))) (ae (cl cS (ae (o1 (nG "Sketch" "ahead") (vr 0)) aj)) aj))))
def bh:List T->Rs T:=val 1 1 nK
abbrev upI:W4:=i7 (kh (tb (o2 AG (vr 4) (vr 5))) (kh (tb (o2 fH (vr 4) (o2 jB (vr 2) (vr 5)))) (tb (o2 fH (vr 5) (o2 jB (vr 2) (vr 4)))))) (gF 3 (ba (ae (vr 4) (ae (vr 5) aj)))) sN
def fK:W4:=
 (aF (dh (cl fY (ae (vr 0) aj)) (gN 1)) (aF (dh (cl lN (ae (fE (iS (vr 1)) [ZB,ZA 0] (gN 0) bT (ba (ae (vr 0) (ae (cl cY (ae (vr 1) (ae (vr 0) aj))) aj)))) aj)) (gN 2)) (aF (iX 3 aj) (aF (gE (iS (vr 1)) (gN 4) (gE (iS (vr 1)) (gN 5) upI)) (kF 3 (aV (vr 3)))))))
def cv:List T->Rs T:=val 1 6 fK
def dG:W4:=
 (i7 (eZ (tb (cl a8 (ae (vr 1) (ae (cn (.int 0)) (ae (o2 jb (vr 0) (cn (.int 1))) aj)))))) (uX "NoNumber") sN)
def bL:List T->Rs T:=val 2 2 dG
def iH:W4:=
 (i7 (eZ (tb (cl aZ (ae (vr 0) aj)))) (uX "NoWorld") sN)
def cx:List T->Rs T:=val 1 1 iH
def gL:W4:=
 (aF (mK (cl aG (ae (vr 0) aj))) (aF (mK (cl cX (ae (vr 0) (ae (vr 1) aj)))) (mK (cl cX (ae (vr 0) (ae (vr 2) aj))))))
def ft:List T->Rs T:=val 3 3 gL
def A8:W4:=
 (aV (Dh (tb (o2 DK (vr 1) (vr 0))) (o2 aR (o2 jB (vr 0) (vr 1)) (cn (.int 0))) (cn .non)))
def mq:List T->Rs T:=val 2 2 A8
def uw:W4:=
 (aV (o2 aR (cl fX (ae (cl fZ (ae (vr 0) aj)) (ae (gc (ae (vr 1) aj)) aj))) (cn (.int 0))))
def fS:List T->Rs T:=val 2 2 uw
def gh:W4:=
 (aF (mK (cl ft (ae (vr 0) (ae (vr 1) (ae (vr 2) aj))))) (aF (mK (cl cx (ae (vr 0) aj))) (aV (cl mq (ae (cl fS (ae (vr 0) (ae (vr 1) aj))) (ae (vr 2) aj))))))
def cf:List T->Rs T:=val 3 3 gh
def nI:W4:=
 (aF (dh (cl cf (ae (vr 0) (ae (vr 2) (ae (vr 1) aj)))) (gN 3)) (aV (Dh (tb (o2 lI (vr 3) (cn .non))) (cn .non) (o1 ke (vr 3)))))
def c7:List T->Rs T:=val 3 4 nI
def p8:W4:=
 (aV (ba (ae (cl c7 (ae (vr 0) (ae (vr 1) (ae (vr 2) aj)))) (ae (cl cf (ae (vr 0) (ae (vr 1) (ae (vr 2) aj)))) aj))))
def cb:List T->Rs T:=val 3 3 p8
def uA:W4:=
 (aF (mK (cl aG (ae (vr 0) aj))) (aF (mK (cl bL (ae (cl cS (ae (o2 aR (vr 0) (cn (.int 0))) aj)) (ae (vr 1) aj)))) (aF (mK (cl cx (ae (vr 0) aj))) (aF (dh (cl cS (ae (o2 aR (o2 aR (o2 aR (vr 0) (cn (.int 0))) (vr 1)) (cn (.int 2))) aj)) (gN 2)) (aV (fE (iR (ae (cn (.int 1)) (ae (vr 2) aj))) [ZB,ZA 0,ZA 1] (gN 0) bT (cl cb (ae (vr 1) (ae (ba (ae (vr 2) (ae (o2 jb (vr 0) (cn (.int 1))) aj))) (ae (ba (ae (vr 2) (ae (vr 0) aj))) aj))))))))))
def jW:List T->Rs T:=val 2 3 uA
def eI:W4:=
 (aF (dh (cl cb (ae (vr 0) (ae (o2 aR (vr 1) (cn (.int 0))) (ae (o2 aR (vr 1) (cn (.int 1))) aj)))) (gN 2)) (aF (dh (Dh (y8 (tb (o2 lI (o2 aR (vr 2) (cn (.int 1))) (cn .non))) (tb (o2 M4 (o2 aR (vr 2) (cn (.int 1))) (cn (.int 999))))) (cn .non) (o2 aR (vr 2) (cn (.int 1)))) (gN 3)) (aV (ba (ae (o2 aR (vr 1) (cn (.int 0))) (ae (o2 aR (vr 1) (cn (.int 1))) (ae (cl F1 (ae (o2 aR (vr 2) (cn (.int 0))) (ae (cn (.int 999)) aj))) (ae (vr 3) aj))))))))
def cy:List T->Rs T:=val 2 4 eI
def yj:W4:=
 (aF (mK (cl cx (ae (vr 0) aj))) (aV (ba (ae (o2 aR (vr 0) (cn (.int 0))) (ae (cl gD (ae (fE (iS (o2 aR (vr 0) (cn (.int 1)))) [ZB,ZA 0] (gN 0) bT (cl cy (ae (vr 1) (ae (vr 0) aj)))) aj)) aj)))))
def ff:List T->Rs T:=val 1 1 yj
noncomputable abbrev KO:W4:=(aF (gF 4 (zg 5)) (gF 5 (cn (.str "zz"))))
abbrev toR:W4:=(kF 4 (aV (o2 aQ (vr 4) (gc (ae (mO "Sketch" "record" aD (vr 1) aj) (ae (mO "Sketch" "good" da (vr 1) aj) (ae (mO "Sketch" "counts" bh (vr 1) aj) aj)))))))
def jG:W4:=
 (aF (dh (cl b7 (ae (o2 aR (vr 0) (cn (.int 0))) aj)) (gN 2)) (aF (oM 3 (Cw (Ky (iS (sl (vr 2) pN (pS (cn (.int 3))))) [ZB,ZA 0] (gN 0) (cl cY (ae (vr 1) (ae (vr 0) aj)))) (Kz (cl cv (ae (vr 0) aj))))) (aF (oN 4 (fE (iS (vr 2)) [ZB,ZA 0] (gN 0) bT (cl jV (ae (vr 1) (ae (vr 0) aj))))) (aF (i7 (tb (cl aZ (ae (vr 0) aj))) (aF (lW 3 (cl jW (ae (vr 0) (ae (cn (.int 0)) aj)))) (gF 4 (cl ff (ae (vr 0) aj)))) sN) (aF (lV 3 5 KO) toR)))))
def dX:List T->Rs T:=val 2 6 jG
def gj:En->Rs Fx:=
 (jt (wH (wN 0 "Sketch" "past" (ba (ae (vr 1) (ae (vr 2) aj))))) (jt (vC 0 "Sketch" "ahead" aj) (lC (xP (cl aZ (ae (vr 2) aj))))))
def bu:List Sl->Rs (T×OT):=gW 3 0 3 gj
def cU:W4:=
 (aF (mK (cl aG (ae (vr 0) aj))) (aF (dh (o2 aR (vr 0) (cn (.int 1))) (gN 2)) (aF (mK (cl bL (ae (cl cS (ae (vr 2) aj)) (ae (vr 1) aj)))) (aV (ba (ae (o2 aR (vr 0) (cn (.int 0))) (ae (o2 aQ (sl (vr 2) pN (pS (vr 1))) (sl (vr 2) (pS (o2 aQ (vr 1) (cn (.int 1)))) pN)) aj)))))))
def bw:List T->Rs T:=val 2 3 cU
def uC:En->Rs Fx:=
 (lC (dU 0 "Sketch" "go_on" bu (ae (cn (.str "cut")) (ae (cl bw (ae (ln 0 (mO "Sketch" "record" aD (vr 0) aj)) (ae (vr 1) aj))) aj))))
def bX:List Sl->Rs (T×OT):=gW 2 0 2 uC
def fF:W4:=
 (aF (mK (cl aG (ae (vr 0) aj))) (aV (vr 0)))
def cV:List T->Rs T:=val 1 1 fF
def iG:W4:=
 (aF (dh (o2 aR (vr 0) (cn (.int 0))) (gN 3)) (aV (cl cV (ae (ba (ae (o2 aQ (o2 aQ (sl (vr 3) pN (pS (vr 1))) (ba (ae (vr 2) aj))) (sl (vr 3) (pS (o2 aQ (vr 1) (cn (.int 1)))) pN)) (ae (o2 aR (vr 0) (cn (.int 1))) aj))) aj))))
def fR:List T->Rs T:=val 3 4 iG
def gg:W4:=
 (aF (mK (cl aG (ae (vr 0) aj))) (aF (mK (cl bL (ae (cl cS (ae (o2 aR (vr 0) (cn (.int 0))) aj)) (ae (vr 1) aj)))) (aF (dh (o2 aR (o2 aR (vr 0) (cn (.int 0))) (vr 1)) (gN 3)) (aV (cl fR (ae (vr 0) (ae (vr 1) (ae (ba (ae (o2 aR (vr 3) (cn (.int 0))) (ae (o2 aR (vr 3) (cn (.int 1))) (ae (o2 aQ (o2 aR (vr 3) (cn (.int 2))) (ba (ae (vr 2) aj))) aj)))) aj))))))))
def bO:List T->Rs T:=val 3 4 gg
def qM:En->Rs Fx:=
 (lC (dU 0 "Sketch" "go_on" bu (ae (cn (.str "read")) (ae (cl bO (ae (ln 0 (mO "Sketch" "record" aD (vr 0) aj)) (ae (vr 1) (ae (vr 2) aj)))) aj))))
def bM:List Sl->Rs (T×OT):=gW 3 0 3 qM
def gK:W4:=
 (aF (mK (cl aG (ae (vr 0) aj))) (aV (cl cV (ae (ba (ae (o2 aR (vr 0) (cn (.int 0))) (ae (o2 aQ (o2 aR (vr 0) (cn (.int 1))) (ba (ae (vr 1) aj))) aj))) aj))))
def bY:List T->Rs T:=val 2 2 gK
def qc:En->Rs Fx:=
 (lC (dU 0 "Sketch" "go_on" bu (ae (cn (.str "write")) (ae (cl bY (ae (ln 0 (mO "Sketch" "record" aD (vr 0) aj)) (ae (vr 1) aj))) aj))))
def bB:List Sl->Rs (T×OT):=gW 2 0 2 qc
abbrev stB:En->Rs Fx:=(AF (kh (tb (o2 j6 (vr 4) (cn (.int 0)))) (tb (o2 wG (o2 aR (vr 3) (cn (.int 1))) (ba aj)))) (wH (dU 2 "Sketch" "cut" bX (ae (cl az (ae (vr 0) (ae (o2 aQ (vr 1) (cn (.int 8))) (ae (cl cS (ae (o2 aR (vr 3) (cn (.int 1))) aj)) aj)))) aj))) (AF (tb (o2 j6 (vr 4) (cn (.int 1)))) (wH (dU 2 "Sketch" "read" bM (ae (vr 6) (ae (o2 aQ (o2 aQ (o2 aR (o2 aR (o2 aR (o2 aR (vr 3) (cn (.int 0))) (vr 6)) (cn (.int 2))) (o1 ke (cn (.int 1)))) (cn (.int 1))) (cl az (ae (vr 0) (ae (o2 aQ (vr 1) (cn (.int 8))) (ae (cn (.int 5)) aj))))) aj)))) (AF (tb (o2 jl (vr 5) (cn .non))) (wH (dU 2 "Sketch" "write" bB (ae (vr 5) aj))) mN)))
def jH:En->Rs Fx:=
 (jt (Ei 3 (xP (ln 2 (mO "Sketch" "record" aD (vr 2) aj)))) (jt (Ei 4 (xP (cl az (ae (vr 0) (ae (vr 1) (ae (cn (.int 4)) aj)))))) (jt (Ei 5 (xP (cl bZ (ae (vr 0) (ae (o2 aQ (vr 1) (cn (.int 1))) (ae (o2 aR (vr 3) (cn (.int 0))) aj)))))) (jt (Ei 6 (xP (cl az (ae (vr 0) (ae (o2 aQ (vr 1) (cn (.int 7))) (ae (cl cS (ae (o2 aR (vr 3) (cn (.int 0))) aj)) aj)))))) (pA stB (ua "NoRecord" .non))))))
def cW:List Sl->Rs (T×OT):=gW 3 2 7 jH
def gn:En->Rs Fx:=
 (jt (AF (Bd 0 (tb (o2 j6 (o1 (nG "Sketch" "ahead") (vr 0)) (gc aj)))) (JC "Nothing") mN) (jt (Ei 1 (EE 0 "Sketch" "ahead")) (jt (wH (wN 0 "Sketch" "past" (vr 1))) (lC (xP (o2 aR (vr 1) (cn (.int 0))))))))
def eh:List Sl->Rs (T×OT):=gW 1 0 2 gn
def gi:W4:=
 (uW (EG (tb (o2 j6 (vr 0) (cn (.int 0)))) (EH (iO 1 "Sketch" "write" bB (ae (cn .non) aj))) (EG (tb (o2 j6 (vr 0) (cn (.int 1)))) (EH (iO 1 "Sketch" "cut" bX (ae (o1 ke (cn (.int 1))) aj))) (EG (tb (o2 j6 (vr 0) (cn (.int 2)))) (EH (iO 1 "Sketch" "read" bM (ae (cn (.int 0)) (ae (o1 ke (cn (.int 1))) aj)))) (EH (iO 1 "Sketch" "forth" eh aj))))) (J1 0 ["NoRecord","NoNumber","Nothing"] "Nothing" 3))
def cR:List T->Rs T:=val 2 3 gi
abbrev stF:W4:=(w8 (wM 2 cW (ae (vr 0) (ae (o2 aQ (cn (.int 80)) (o2 cL (cn (.int 10)) (vr 4))) aj))))
def Ef:W4:=
 (aF (dh (cl fw (ae (vr 0) (ae (cn (.int 0)) (ae (cn (.int 4)) aj)))) (gN 1)) (aF (oO 2 "Sketch" cF (ae (vr 1) aj)) (aF (oO 3 "Sketch" cF (ae (vr 1) aj)) (aF (gE (iR (ae (o2 aQ (cn (.int 1)) (cl az (ae (vr 0) (ae (cn (.int 70)) (ae (cn (.int 4)) aj))))) aj)) (gN 4) stF) (aF (kF 2 (dh (cl dX (ae (vr 1) (ae (vr 2) aj))) (gN 5))) (aF (i7 (tb (o2 Hu (cn (.bl ZD)) (fE (iR (ae (cn (.int 4)) aj)) [ZB,ZA 2] (gN 0) bT (cl cR (ae (vr 0) (ae (vr 1) aj)))))) (aV (cn (.bl ZD))) sN) (aF (i7 (tb (o2 wG (cl dX (ae (vr 1) (ae (vr 2) aj))) (vr 5))) (aV (cn (.bl ZD))) sN) (aV (dD (o2 j6 (ln 3 (mO "Sketch" "record" aD (vr 3) aj)) (vr 1)) (o2 j6 (ln 3 (mO "Sketch" "counts" bh (vr 3) aj)) (ba (ae (cn (.int 0)) (ae (cn (.int 0)) aj)))))))))))))
def m_law:List T->Rs T:=val 1 6 Ef
section
variable (P:OM)(w:Pm)(base:ZH)
noncomputable abbrev wX:ZF:=top 17
theorem xq(F:eX K mg "is_long" wX ["thing","least","most"])(B:Bl mg):Cl P w K mg base 1 "is_long" 3 aT:=
 aP ["thing","least","most"] F λd f c A o s H E hr x=>(au (aC (dP (Bm B.b_isinstance B.b_tuple de (af 0)) (d6 (uG y6 y6 (af 1) (cw ck B.b_len P7 (ag (af 0) ah)) (af 2))))))
noncomputable abbrev uN:ZF:=top 15
theorem vf(F:eX K mg "is_whole" uN ["thing"])(B:Bl mg):Cl P w K mg base 1 "is_whole" 1 iA:=
 aP ["thing"] F λd f c A o s H E hr x=>(au (aC (dP (Bm B.b_isinstance B.b_int mX (af 0)) (d6 (HK (Bm B.b_isinstance B.b_bool ur (af 0)))))))
noncomputable abbrev sv:ZF:=top 16
theorem tu(F:eX K mg "is_within" sv ["thing","least","most"])(aaJ:Cl P w K mg base 1 "is_whole" 1 iA):Cl P w K mg base 2 "is_within" 3 a8:=
 aP ["thing","least","most"] F λd f c A o s H E hr x=>(au (aC (dP (aL aaJ hr (ag (af 0) ah)) (d6 (uG y6 y6 (af 1) (af 0) (af 2))))))
abbrev wW:ZF:=top 20
theorem xm(F:eX K mg "is_pace" wW ["slow","fast"])(aa2:Cl P w K mg base 2 "is_within" 3 a8)(C:Cs mg):Cl P w K mg base 3 "is_pace" 2 jY:=
 aP ["slow","fast"] F λd f c A o s H E hr x=>(au (aC (dP (aL aa2 hr (ag (af 0) (ag ai (ag (qg C.SLOWEST) ah)))) (d6 (aL aa2 hr (ag (af 1) (ag (af 0) (ag (qg C.SLOWEST) ah))))))))
noncomputable abbrev uM:ZF:=top 18
noncomputable abbrev vo:List Str:=["numbers"]
theorem Ci(F:eX K mg "rises" uM ["numbers"])(B:Bl mg):Cl P w K mg base 1 "rises" 1 jX:=
 aP vo F λd f c A o s H E hr x=>(au (aC (cw (uj rfl) B.b_all boot_all (ag (dO ["k","numbers"] vo uM (cI B.b_range (ag (ay gG (cw ck B.b_len P7 (ag (af 0) ah)) ai) ah)) (λd _ _ _ _ _=>⟨(aq 0 d),bN,(il vc (aA (af 1) (af 0)) (aA (af 1) (ay aN (af 0) ai)))⟩)) ah))))
abbrev iQ:ZF:=top 19
noncomputable abbrev iZ:List Str:=["thing"]
theorem nj(F:eX K mg "are_readings" iQ ["thing"])(aa3:Cl P w K mg base 1 "is_long" 3 aT)(aaP:Cl P w K mg base 1 "rises" 1 jX)(aa2:Cl P w K mg base 2 "is_within" 3 a8)(B:Bl mg)(C:Cs mg):Cl P w K mg base 3 "are_readings" 1 bP:=
 aP iZ F λd f c A o s H E hr x=>(ak (cQ (fj (dv (aL aa3 hr (ag (af 0) (ag ai (ag (qg C.MOST_READINGS) ah)))))) (au (aC kX)) bU) (au (aC (dP (cw (uj rfl) B.b_all boot_all (ag (dO ["part"] iZ iQ (cM (af 0)) (λd _ _ _ _ _=>⟨(aq 0 d),bN,(aL aa2 hr (ag (af 0) (ag ai (ag (qg C.LAST_READING) ah))))⟩)) ah)) (d6 (aL aaP hr (ag (af 0) ah)))))))
noncomputable abbrev uQ:ZF:=top 21
theorem vi(F:eX K mg "is_clock" uQ ["thing"])(aa3:Cl P w K mg base 1 "is_long" 3 aT)(aaN:Cl P w K mg base 3 "is_pace" 2 jY)(aao:Cl P w K mg base 3 "are_readings" 1 bP):Cl P w K mg base 4 "is_clock" 1 dj:=
 aP ["thing"] F λd f c A o s H E hr x=>(au (aC (dP (aL aa3 hr (ag (af 0) (ag ai (ag ai ah)))) (dP (aL aaN hr (ag (aA (af 0) ai) (ag (aA (af 0) ai) ah))) (d6 (aL aao hr (ag (aA (af 0) ai) ah)))))))
abbrev kl:ZF:=top 22
abbrev kq:List Str:=["thing"]
theorem qA(F:eX K mg "are_clocks" kl ["thing"])(aa3:Cl P w K mg base 1 "is_long" 3 aT)(aaK:Cl P w K mg base 4 "is_clock" 1 dj)(B:Bl mg)(C:Cs mg):Cl P w K mg base 5 "are_clocks" 1 dz:=
 aP kq F λd f c A o s H E hr x=>(au (aC (dP (aL aa3 hr (ag (af 0) (ag ai (ag (qg C.MOST_CLOCKS) ah)))) (d6 (cw (uj rfl) B.b_all boot_all (ag (dO ["part"] kq kl (cM (af 0)) (λd _ _ _ _ _=>⟨(aq 0 d),bN,(aL aaK hr (ag (af 0) ah))⟩)) ah))))))
noncomputable abbrev uO:ZF:=top 23
theorem vg(F:eX K mg "is_event" uO ["clocks","thing"])(aa2:Cl P w K mg base 2 "is_within" 3 a8)(aa3:Cl P w K mg base 1 "is_long" 3 aT)(B:Bl mg):Cl P w K mg base 3 "is_event" 2 dQ:=
 aP ["clocks","thing"] F λd f c A o s H E hr x=>(ak (cQ (qN (r6 (fj (dv (aL aa3 hr (ag (af 1) (ag ai (ag ai ah)))))) (nM (fj (dv (aL aa2 hr (ag (aA (af 1) ai) (ag ai (ag (ay gG (cw ck B.b_len P7 (ag (af 0) ah)) ai) ah))))))))) (au (aC kX)) bU) (au (aC (aL aa2 hr (ag (aA (af 1) ai) (ag ai (ag (ay gG (cw ck B.b_len P7 (ag (aA (aA (af 0) (aA (af 1) ai)) ai) ah)) ai) ah)))))))
noncomputable abbrev uP:ZF:=top 24
theorem vh(F:eX K mg "is_delay" uP ["least","most"])(aa2:Cl P w K mg base 2 "is_within" 3 a8)(C:Cs mg):Cl P w K mg base 3 "is_delay" 2 iB:=
 aP ["least","most"] F λd f c A o s H E hr x=>(au (aC (dP (aL aa2 hr (ag (af 0) (ag ai (ag (qg C.LONGEST) ah)))) (d6 (G2 (il qY (af 1) cu) (d6 (aL aa2 hr (ag (af 1) (ag (af 0) (ag (qg C.LONGEST) ah))))))))))
abbrev sA:ZF:=top 25
theorem tE(F:eX K mg "is_letter" sA ["clocks","thing"])(aac:Cl P w K mg base 3 "is_event" 2 dQ)(aa3:Cl P w K mg base 1 "is_long" 3 aT)(aaL:Cl P w K mg base 3 "is_delay" 2 iB):Cl P w K mg base 4 "is_letter" 2 fB:=
 aP ["clocks","thing"] F λd f c A o s H E hr x=>(ak (cQ (qN (r6 (fj (dv (aL aa3 hr (ag (af 1) (ag ai (ag ai ah)))))) (nM (fj (dv (aL aaL hr (ag (aA (af 1) ai) (ag (aA (af 1) ai) ah)))))))) (au (aC kX)) bU) (au (aC (dP (aL aac hr (ag (af 0) (ag (aA (af 1) ai) ah))) (dP (aL aac hr (ag (af 0) (ag (aA (af 1) ai) ah))) (d6 (il (Ca (lJ hr)) (aA (af 1) ai) (aA (af 1) ai))))))))
abbrev jc:ZF:=top 26
noncomputable abbrev jo:List Str:=["clocks","thing"]
theorem o4(F:eX K mg "are_letters" jc ["clocks","thing"])(aa3:Cl P w K mg base 1 "is_long" 3 aT)(aaD:Cl P w K mg base 4 "is_letter" 2 fB)(B:Bl mg)(C:Cs mg):Cl P w K mg base 5 "are_letters" 2 c9:=
 aP jo F λd f c A o s H E hr x=>(au (aC (dP (aL aa3 hr (ag (af 1) (ag ai (ag (qg C.MOST_LETTERS) ah)))) (d6 (cw (uj rfl) B.b_all boot_all (ag (dO ["part","clocks"] jo jc (cM (af 1)) (λd _ _ _ _ _=>⟨(aq 0 d),bN,(aL aaD hr (ag (af 1) (ag (af 0) ah)))⟩)) ah))))))
abbrev sy:ZF:=top 27
theorem tD(F:eX K mg "is_record" sy ["thing"])(aa3:Cl P w K mg base 1 "is_long" 3 aT)(aaz:Cl P w K mg base 5 "are_clocks" 1 dz)(aav:Cl P w K mg base 5 "are_letters" 2 c9):Cl P w K mg base 6 "is_record" 1 gu:=
 aP ["thing"] F λd f c A o s H E hr x=>(au (aC (dP (aL aa3 hr (ag (af 0) (ag ai (ag ai ah)))) (dP (aL aaz hr (ag (aA (af 0) ai) ah)) (d6 (aL aav hr (ag (aA (af 0) ai) (ag (aA (af 0) ai) ah))))))))
noncomputable abbrev oF:ZF:=top 28
theorem oX(F:eX K mg "need_record" oF ["thing"])(aaE:Cl P w K mg base 6 "is_record" 1 gu)(S:Xs K mg ac al bi bn bv ca):Cl P w K mg base 7 "need_record" 1 aG:=
 aP ["thing"] F λd f c A o s H E hr x=>(au (cQ (fj (dv (aL aaE hr (ag (af 0) ah)))) (au (gQ S.o_NoRecord S.m_NoRecord)) bU))
noncomputable abbrev fU:ZF:=cP (top 56) 0
noncomputable abbrev kL:List Str:=["self","record"]
theorem kE:bo kL ["self","record"] (ao fU):=fsc
theorem kK(F:nH K "Sketch" "__init__" "Sketch.__init__" fU ["self","record"])(aa0:Cl P w K mg base 7 "need_record" 1 aG)(ci:bV K mg):Mm P w K mg base 8 "Sketch" "__init__" 2 cF:=
 rg F kE rfl λf c A o s H E hr x=>(d8 (qP (ij (aL aa0 hr (ag (af 1) ah)))) (d8 (wL 0 ci.k ci.a_past (ag (a7 (ag cu (ag (af 1) ah))) ah)) (d7 (wL 0 ci.k ci.a_ahead ah))))
noncomputable abbrev sJ:ZF:=top 69
theorem tK(F:eX K mg "_law_cell" sJ ["_law_script","_law_k"])(B:Bl mg):Cl P w K mg base 1 "_law_cell" 2 fD:=
 aP ["_law_script","_law_k"] F λd f c A o s H E hr x=>(ak (cQ (bc (jk (lJ hr)) (af 0) (ik ah)) (au (aC (ay dI ai (af 1)))) bU) (au (aC (ay aN (aA (af 0) (ay kH (af 1) (cw ck B.b_len P7 (ag (af 0) ah)))) (ay dI ai (ay nS (af 1) (cw ck B.b_len P7 (ag (af 0) ah))))))))
abbrev qm:ZF:=top 70
theorem qB(F:eX K mg "_law_drawn" qm ["_law_script","_law_k","_law_many"])(aaF:Cl P w K mg base 1 "_law_cell" 2 fD):Cl P w K mg base 2 "_law_drawn" 3 az:=
 aP ["_law_script","_law_k","_law_many","_law_cell_here"] F λd f c A o s H E hr x=>(by(apply ak;exact(aO (ay kH (ay aN (ay dI (ay kH (aL aaF hr (ag (af 0) (ag (af 1) ah))) ai) ai) (ay dI ai (ay aN (af 1) ai))) ai) (aq 3 d));apply ak;exact(aO (ay kH (ay aN (ay dI (af 3) (af 3)) (ay nS (af 3) ai)) ai) (aq 3 d));exact au (aC (ay kH (ay nS (ay kH (ay aN (ay dI (af 3) (af 3)) (ay nS (af 3) ai)) ai) ai) (af 2)))))
abbrev je:ZF:=top 73
noncomputable abbrev jr:List Str:=["_law_clocks","_law_found","_law_number","_law_clock_here"]
theorem o7(F:eX K mg "_law_events" je ["_law_clocks"])(B:Bl mg):Cl P w K mg base 1 "_law_events" 1 b7:=
 aP jr F λd f c A o s H E hr x=>(by(apply ak;exact(aO (ik ah) (aq 1 d));apply ak;exact(dw rfl (kS B.b_enumerate (ag (af 0) ah)) (nN rfl (dS (aq 2 d) (dS (aq 3 d) kU))) (au (aO (ay aN (af 1) (dO ["_law_place","_law_number"] jr je (cI B.b_range (ag (cw ck B.b_len P7 (ag (aA (af 3) ai) ah)) ah)) (λd _ _ _ _ _=>⟨(aq 0 d),bN,(a7 (ag (af 1) (ag (af 0) ah)))⟩))) (aq 1 d))));exact au (aC (af 1))))
abbrev oI:ZF:=top 72
theorem o6(F:eX K mg "_law_letter" oI ["_law_script","_law_at","_law_clocks"])(aaa:Cl P w K mg base 1 "_law_events" 1 b7)(aa1:Cl P w K mg base 2 "_law_drawn" 3 az)(B:Bl mg):Cl P w K mg base 3 "_law_letter" 3 bZ:=
 aP ["_law_script","_law_at","_law_clocks","_law_row","_law_place","_law_other","_law_least","_law_most"] F λd f c A o s H E hr x=>(by(apply ak;exact(aO (aL aaa hr (ag (af 2) ah)) (aq 3 d));apply ak;exact(cQ (bc vc (cw ck B.b_len P7 (ag (af 3) ah)) ai) (au (aC cu)) bU);apply ak;exact(aO (aL aa1 hr (ag (af 0) (ag (af 1) (ag (cw ck B.b_len P7 (ag (af 3) ah)) ah)))) (aq 4 d));apply ak;exact(aO (ay kH (ay aN (ay aN (af 4) ai) (aL aa1 hr (ag (af 0) (ag (ay aN (af 1) ai) (ag (ay gG (cw ck B.b_len P7 (ag (af 3) ah)) ai) ah))))) (cw ck B.b_len P7 (ag (af 3) ah))) (aq 5 d));apply ak;exact(aO (aL aa1 hr (ag (af 0) (ag (ay aN (af 1) ai) (ag ai ah)))) (aq 6 d));apply ak;exact(aO (yu (bc (jk (lJ hr)) (aL aa1 hr (ag (af 0) (ag (ay aN (af 1) ai) (ag ai ah)))) ai) cu (ay aN (af 6) (aL aa1 hr (ag (af 0) (ag (ay aN (af 1) ai) (ag ai ah)))))) (aq 7 d));exact au (aC (a7 (ag (aA (af 3) (af 4)) (ag (aA (af 3) (af 5)) (ag (af 6) (ag (af 7) ah))))))))
abbrev qo:ZF:=top 71
theorem qC(F:eX K mg "_law_clock" qo ["_law_script","_law_at"])(aa1:Cl P w K mg base 2 "_law_drawn" 3 az)(B:Bl mg):Cl P w K mg base 3 "_law_clock" 2 cE:=
 aP ["_law_script","_law_at","_law_slow","_law_readings","_law_k"] F λd f c A o s H E hr x=>(by(apply ak;exact(aO (ay aN ai (aL aa1 hr (ag (af 0) (ag (af 1) (ag ai ah))))) (aq 2 d));apply ak;exact(aO (a7 (ag (aL aa1 hr (ag (af 0) (ag (ay aN (af 1) ai) (ag ai ah)))) ah)) (aq 3 d));apply ak;exact(dw rfl (cI B.b_range (ag (aL aa1 hr (ag (af 0) (ag (ay aN (af 1) ai) (ag ai ah)))) ah)) (aq 4 d) (au (aO (ay aN (af 3) (a7 (ag (ay aN (ay aN (aA (af 3) (i8 ai)) ai) (aL aa1 hr (ag (af 0) (ag (ay aN (ay aN (af 1) ai) (af 4)) (ag ai ah))))) ah))) (aq 3 d))));exact au (aC (a7 (ag (af 2) (ag (ay aN (af 2) (aL aa1 hr (ag (af 0) (ag (ay aN (af 1) ai) (ag ai ah))))) (ag (af 3) ah)))))))
noncomputable abbrev jd:ZF:=top 74
noncomputable abbrev jq:List Str:=["_law_script","_law_at","_law_most","_law_clocks","_law_letters","_law_k","_law_letter_here"]
theorem o5(F:eX K mg "_law_record" jd ["_law_script","_law_at","_law_most"])(aa1:Cl P w K mg base 2 "_law_drawn" 3 az)(aab:Cl P w K mg base 3 "_law_letter" 3 bZ)(aaA:Cl P w K mg base 3 "_law_clock" 2 cE)(B:Bl mg):Cl P w K mg base 4 "_law_record" 3 fw:=
 aP jq F λd f c A o s H E hr x=>(by(apply ak;exact(aO (oq jD B.b_tuple de (ag (dO ["_law_k","_law_script","_law_at"] jq jd (cI B.b_range (ag (ay aN ai (aL aa1 hr (ag (af 0) (ag (af 1) (ag ai ah))))) ah)) (λd _ _ _ _ _=>⟨(aq 0 d),bN,(aL aaA hr (ag (af 1) (ag (ay aN (ay aN (af 2) ai) (ay dI ai (af 0))) ah)))⟩)) ah)) (aq 3 d));apply ak;exact(aO (ik ah) (aq 4 d));apply ak;exact(dw rfl (cI B.b_range (ag (aL aa1 hr (ag (af 0) (ag (ay aN (af 1) ai) (ag (ay aN (af 2) ai) ah)))) ah)) (aq 5 d) (ak (aO (aL aab hr (ag (af 0) (ag (ay aN (ay aN (af 1) ai) (ay dI ai (af 5))) (ag (af 3) ah)))) (aq 6 d)) (au (aO (ay aN (af 4) (ay dI (ik (ag (af 6) ah)) (oq Kr B.b_int mX (ag (il lx (af 6) cu) ah)))) (aq 4 d)))));exact au (aC (a7 (ag (af 3) (ag (oq jD B.b_tuple de (ag (af 4) ah)) ah))))))
abbrev qU:ZF:=top 31
noncomputable abbrev q0:List Str:=["record","told","number","clock"]
theorem Av(F:eX K mg "events" qU ["record"])(aa0:Cl P w K mg base 7 "need_record" 1 aG)(B:Bl mg):Cl P w K mg base 8 "events" 1 fY:=
 aP q0 F λd f c A o s H E hr x=>(by(apply ak;exact(bA (aL aa0 hr (ag (af 0) ah)));apply ak;exact(gR 1 d ah);apply ak;exact(dw rfl (kS B.b_enumerate (ag (aA (af 0) ai) ah)) (nN rfl (dS (aq 2 d) (dS (aq 3 d) kU))) (au (r9 1 (dO ["k","number"] q0 qU (cI B.b_range (ag (cw ck B.b_len P7 (ag (aA (af 3) ai) ah)) ah)) (λd _ _ _ _ _=>⟨(aq 0 d),bN,(a7 (ag (af 1) (ag (af 0) ah)))⟩)))));exact au (fm 1 (aC (af 1)))))
noncomputable abbrev sC:ZF:=top 49
theorem tF(F:eX K mg "is_better" sC ["best","bound","ahead"]):Cl P w K mg base 1 "is_better" 3 dm:=
 aP ["best","bound","ahead","known"] F λd f c A o s H E hr x=>(ak (aO (yw (Hv hr) (af 0) (aA (af 1) ai)) (aq 3 d)) (au (aC (G2 (il qY (af 3) cu) (d6 (il vc (ay aN (aA (af 2) ai) (aA (af 1) ai)) (aA (af 3) ai)))))))
noncomputable abbrev lR:ZF:=top 48
noncomputable abbrev mh:List Str:=["limits","starts","best","moved","number","bound","ahead","walk","passed"]
theorem Au(F:eX K mg "settle" lR ["limits","starts"])(aaG:Cl P w K mg base 1 "is_better" 3 dm)(B:Bl mg):Cl P w K mg base 2 "settle" 2 fX:=
 aP mh F λd f c A o s H E hr x=>(by(apply ak;exact(Bi 2 (hu8 hr) rfl B.b_dict d (dO ["event"] mh lR (cM (af 1)) (λd _ _ _ _ _=>⟨(aq 0 d),bN,(a7 (ag (af 0) (ag (a7 (ag ai (ag (ik ah) ah))) ah)))⟩)));apply ak;exact(aO kX (aq 3 d));apply ak;exact(qO FU (dv (af 3)) (ak (aO kX (aq 3 d)) (au (dw rfl (kS B.b_enumerate (ag (af 0) ah)) (nN rfl (dS (aq 4 d) (dS (aq 5 d) kU))) (by(apply ak;exact(aO (kW 2 (yw (Hv hr) (af 2) (aA (af 5) ai))) (aq 6 d));apply ak;exact(cQ (qN (r6 (bc qY (af 6) cu) (nM (fj (wJ 2 (dv (aL aaG hr (ag (af 2) (ag (af 5) (ag (af 6) ah)))))))))) (au HJ) bU);apply ak;exact(aO (ay aN (aA (af 6) ai) (ik (ag (af 4) ah))) (aq 7 d));apply ak;exact(HI 8 (N':=["step","limits"]) (src:=[ZB,ZA 0]) rfl (LcScope.by (N:=mh) (names:=(ao lR).names) rfl rfl rfl (by decide+kernel)) (cM (af 7)) (λ_ _ _ _ _=>⟨(aq 0 (show RQ (["step","limits"]:List Str)by decide+kernel)),bN,(aA (aA (af 1) (af 0)) ai)⟩) d);apply ak;exact(cQ (bc (He (xS hr)) (aA (af 5) ai) (af 8)) (au (aC (a7 (ag cu (ag (gV (af 7) (gS (z8 (xS hr) (af 8) (aA (af 5) ai))) gU) ah))))) bU);apply ak;exact(Eu 2 (Hv hr) (aA (af 5) ai) (a7 (ag (ay aN (aA (af 6) ai) (aA (af 5) ai)) (ag (af 7) ah))));exact au (aO kX (aq 3 d))))))));exact au (fm 2 (aC (a7 (ag (af 2) (ag cu ah)))))))
noncomputable abbrev gp:ZF:=top 51
noncomputable abbrev gq:List Str:=["record","limits","places","best"]
theorem lz(F:eX K mg "greatest_world" gp ["record","limits"])(aap:Cl P w K mg base 8 "events" 1 fY)(aaq:Cl P w K mg base 2 "settle" 2 fX)(B:Bl mg):Cl P w K mg base 9 "greatest_world" 2 dy:=
 aP gq F λd f c A o s H E hr x=>(by(apply ak;exact(aO (aL aap hr (ag (af 0) ah)) (aq 2 d));apply ak;exact(aO (aA (aL aaq hr (ag (af 1) (ag (af 2) ah))) ai) (aq 3 d));apply ak;exact(cQ (bc qY (af 3) cu) (au (aC cu)) bU);exact au (aC (oq jD B.b_tuple de (ag (dO ["event","best"] gq gp (cM (af 2)) (λd _ _ _ _ _=>⟨(aq 0 d),bN,(aA (se (Hv hr) (af 1) (af 0)) ai)⟩)) ah)))))
noncomputable abbrev kD:ZF:=top 44
theorem kJ(F:eX K mg "bounds_of_clock" kD ["number","clock"])(B:Bl mg):Cl P w K mg base 1 "bounds_of_clock" 2 cz:=
 aP ["number","clock","readings","told","k","first","second","steps"] F λd f c A o s H E hr x=>(by(apply ak;exact(aO (aA (af 1) ai) (aq 2 d));apply ak;exact(gR 3 d ah);apply ak;exact(dw rfl (cI B.b_range (ag (ay gG (cw ck B.b_len P7 (ag (af 2) ah)) ai) ah)) (aq 4 d) (by(apply ak;exact(aO (a7 (ag (af 0) (ag (af 4) ah))) (aq 5 d));apply ak;exact(aO (a7 (ag (af 0) (ag (ay aN (af 4) ai) ah))) (aq 6 d));apply ak;exact(aO (ay gG (aA (af 2) (ay aN (af 4) ai)) (aA (af 2) (af 4))) (aq 7 d));apply ak;exact(fO 3 (a7 (ag (af 5) (ag (af 6) (ag (ay dI (af 7) (aA (af 1) ai)) ah)))));exact au (fO 3 (a7 (ag (af 6) (ag (af 5) (ag (ay dI (i8 (af 7)) (aA (af 1) ai)) ah))))))));exact au (fm 3 (aC (af 3)))))
abbrev ka:ZF:=top 45
theorem kc(F:eX K mg "bounds_of_letter" ka ["letter"]):Cl P w K mg base 1 "bounds_of_letter" 1 cg:=
 aP ["letter","told"] F λd f c A o s H E hr x=>(by(apply ak;exact(gR 1 d (ag (a7 (ag (aA (af 0) ai) (ag (aA (af 0) ai) (ag (i8 (aA (af 0) ai)) ah)))) ah));apply ak;exact(cQ (bc lx (aA (af 0) ai) cu) (au (fO 1 (a7 (ag (aA (af 0) ai) (ag (aA (af 0) ai) (ag (aA (af 0) ai) ah)))))) bU);exact au (fm 1 (aC (af 1)))))
noncomputable abbrev Ai:ZF:=top 46
theorem Aw(F:eX K mg "bounds" Ai ["record"])(aa0:Cl P w K mg base 7 "need_record" 1 aG)(aah:Cl P w K mg base 1 "bounds_of_clock" 2 cz)(aae:Cl P w K mg base 1 "bounds_of_letter" 1 cg)(B:Bl mg):Cl P w K mg base 8 "bounds" 1 fZ:=
 aP ["record","told","number","clock","letter"] F λd f c A o s H E hr x=>(by(apply ak;exact(bA (aL aa0 hr (ag (af 0) ah)));apply ak;exact(gR 1 d ah);apply ak;exact(dw rfl (kS B.b_enumerate (ag (aA (af 0) ai) ah)) (nN rfl (dS (aq 2 d) (dS (aq 3 d) kU))) (au (r9 1 (aL aah hr (ag (af 2) (ag (af 3) ah))))));apply ak;exact(dw rfl (cM (aA (af 0) ai)) (aq 4 d) (au (r9 1 (aL aae hr (ag (af 4) ah)))));exact au (fm 1 (aC (af 1)))))
abbrev BD:ZF:=top 52
theorem Cc(F:eX K mg "world" BD ["record"])(aaj:Cl P w K mg base 9 "greatest_world" 2 dy)(aar:Cl P w K mg base 8 "bounds" 1 fZ):Cl P w K mg base 10 "world" 1 jU:=
 aP ["record"] F λd f c A o s H E hr x=>(au (aC (aL aaj hr (ag (af 0) (ag (aL aar hr (ag (af 0) ah)) ah)))))
noncomputable abbrev sI:ZF:=top 53
theorem tH(F:eX K mg "has_world" sI ["record"])(aaQ:Cl P w K mg base 10 "world" 1 jU):Cl P w K mg base 11 "has_world" 1 aZ:=
 aP ["record"] F λd f c A o s H E hr x=>(au (aC (il lx (aL aaQ hr (ag (af 0) ah)) cu)))
abbrev ql:ZF:=top 29
theorem qz(F:eX K mg "need_event" ql ["record","thing"])(aac:Cl P w K mg base 3 "is_event" 2 dQ)(S:Xs K mg ac al bi bn bv ca):Cl P w K mg base 4 "need_event" 2 cX:=
 aP ["record","thing"] F λd f c A o s H E hr x=>(au (cQ (fj (dv (aL aac hr (ag (aA (af 0) ai) (ag (af 1) ah))))) (au (gQ S.o_NoEvent S.m_NoEvent)) bU))
abbrev gY:ZF:=top 33
noncomputable abbrev hY:List Str:=["record","event","told"]
theorem l7(F:eX K mg "known_at_once" gY ["record","event"]):Cl P w K mg base 1 "known_at_once" 2 c8:=
 aP hY F λd f c A o s H E hr x=>(by(apply ak;exact(yr 2 (N':=["letter","event"]) (src:=[ZB,ZA 1]) rfl (LcScope.by (N:=hY) (names:=(ao gY).names) rfl rfl rfl (by decide+kernel)) (cM (aA (af 0) ai)) (λ_ _ _ _ _=>⟨(aq 0 (show RQ (["letter","event"]:List Str)by decide+kernel)),(Bj (bc (jk (lJ hr)) (aA (af 0) ai) (af 1))),(aA (af 0) ai)⟩) d);apply ak;exact(cQ (bc Hf (aA (af 1) ai) ai) (au (fO 2 (a7 (ag (aA (af 1) ai) (ag (ay gG (aA (af 1) ai) ai) ah))))) bU);exact au (fm 2 (aC (af 2)))))
abbrev BE:ZF:=top 34
theorem Cj(F:eX K mg "knows" BE ["record","event"])(aa0:Cl P w K mg base 7 "need_record" 1 aG)(aa9:Cl P w K mg base 4 "need_event" 2 cX)(aal:Cl P w K mg base 1 "known_at_once" 2 c8)(B:Bl mg):Cl P w K mg base 8 "knows" 2 cY:=
 aP ["record","event","known","place","other"] F λd f c A o s H E hr x=>(by(apply ak;exact(bA (aL aa0 hr (ag (af 0) ah)));apply ak;exact(bA (aL aa9 hr (ag (af 0) (ag (af 1) ah))));apply ak;exact(gR 2 d (ag (af 1) ah));apply ak;exact(aO ai (aq 3 d));apply ak;exact(qO FU (bc vc (af 3) (kW 2 (cw ck B.b_len P7 (ag (af 2) ah)))) (ak (dw rfl (cM (aL aal hr (ag (af 0) (ag (kW 2 (aA (af 2) (af 3))) ah)))) (aq 4 d) (au (cQ (wJ 2 (bc (oU (xS hr)) (af 4) (af 2))) (au (fO 2 (af 4))) bU))) (au (Ex 3 d ai))));exact au (fm 2 (aC (cw (xZ (hu70 hr)) B.b_sorted boot_sorted (ag (af 2) ah))))))
noncomputable abbrev oE:ZF:=top 35
noncomputable abbrev pk:List Str:=["record","event","clocks"]
theorem Cf(F:eX K mg "stamp" oE ["record","event"])(aag:Cl P w K mg base 8 "knows" 2 cY)(B:Bl mg):Cl P w K mg base 9 "stamp" 2 jV:=
 aP pk F λd f c A o s H E hr x=>(ak (aO (dO ["other"] pk oE (cM (aL aag hr (ag (af 0) (ag (af 1) ah)))) (λd _ _ _ _ _=>⟨(aq 0 d),bN,(aA (af 0) ai)⟩)) (aq 2 d)) (au (aC (oq jD B.b_tuple de (ag (dO ["number","clocks"] pk oE (cI B.b_range (ag (cw ck B.b_len P7 (ag (aA (af 0) ai) ah)) ah)) (λd _ _ _ _ _=>⟨(aq 0 d),bN,(z9 (xS hr) (af 1) (af 0))⟩)) ah)))))
noncomputable abbrev gZ:ZF:=cP (top 56) 1
noncomputable abbrev mi:List Str:=["self"]
theorem lT:bo mi ["self"] (ao gZ):=fsc
theorem l8(F:nH K "Sketch" "record" "Sketch.record" gZ ["self"])(ci:bV K mg):Ml P w K mg base 1 "Sketch" "record" aD:=
 CA F lT rfl λf c A o s H E hr x=>(au (aC (aA (aA (oo ci.k ci.a_past (af 0)) (i8 ai)) ai)))
noncomputable abbrev jg:ZF:=cP (top 56) 6
noncomputable abbrev pv:List Str:=["self","step"]
theorem sc_Sketch_good:bo pv ["self"] (ao jg):=fsc
theorem o9(F:nH K "Sketch" "good" "Sketch.good" jg ["self"])(aa4:Cl P w K mg base 11 "has_world" 1 aZ)(B:Bl mg)(ci:bV K mg):Ml P w K mg base 12 "Sketch" "good" da:=
 CA F sc_Sketch_good rfl λf c A o s H E hr x=>(ak (dw rfl (Ey B.b_reversed (ag (oo ci.k ci.a_past (af 0)) ah)) (aq 1 sc_Sketch_good.nd) (au (cQ (dv (aL aa4 hr (ag (aA (af 1) ai) ah))) (au (aC (aA (af 1) ai))) bU))) (au (aC cu)))
noncomputable abbrev g7:ZF:=cP (top 56) 9
abbrev mj:List Str:=["self"]
theorem lU:bo mj ["self"] (ao g7):=fsc
theorem l9(F:nH K "Sketch" "counts" "Sketch.counts" g7 ["self"])(B:Bl mg)(ci:bV K mg):Ml P w K mg base 1 "Sketch" "counts" bh:=
 CA F lU rfl λf c A o s H E hr x=>(au (aC (a7 (ag (ay gG (cw ck B.b_len P7 (ag (oo ci.k ci.a_past (af 0)) ah)) ai) (ag (cw ck B.b_len P7 (ag (oo ci.k ci.a_ahead (af 0)) ah)) ah)))))
abbrev gX:ZF:=top 36
noncomputable abbrev hW:List Str:=["record","places","known","told","one","other"]
theorem l5(F:eX K mg "unknown_pairs" gX ["record"])(aap:Cl P w K mg base 8 "events" 1 fY)(aag:Cl P w K mg base 8 "knows" 2 cY)(B:Bl mg):Cl P w K mg base 9 "unknown_pairs" 1 cv:=
 aP hW F λd f c A o s H E hr x=>(by(apply ak;exact(aO (aL aap hr (ag (af 0) ah)) (aq 1 d));apply ak;exact(aO (oq (GG (hu8 hr) rfl) B.b_dict uq (ag (dO ["event","record"] hW gX (cM (af 1)) (λd _ _ _ _ _=>⟨(aq 0 d),bN,(a7 (ag (af 0) (ag (aL aag hr (ag (af 1) (ag (af 0) ah))) ah)))⟩)) ah)) (aq 2 d));apply ak;exact(gR 3 d ah);apply ak;exact(dw rfl (cM (af 1)) (aq 4 d) (au (dw rfl (cM (af 1)) (aq 5 d) (au (cQ (qN (r8 (bc (Jh (hu0 hr)) (af 4) (af 5)) (r8 (bc (oU (xS hr)) (af 4) (se (Hv hr) (af 2) (af 5))) (uE (bc (oU (xS hr)) (af 5) (se (Hv hr) (af 2) (af 4))))))) (au (fO 3 (a7 (ag (af 4) (ag (af 5) ah))))) bU)))));exact au (fm 3 (aC (af 3)))))
noncomputable abbrev oG:ZF:=top 30
theorem oY(F:eX K mg "need_number" oG ["many","thing"])(aa2:Cl P w K mg base 2 "is_within" 3 a8)(S:Xs K mg ac al bi bn bv ca):Cl P w K mg base 3 "need_number" 2 bL:=
 aP ["many","thing"] F λd f c A o s H E hr x=>(au (cQ (fj (dv (aL aa2 hr (ag (af 1) (ag ai (ag (ay gG (af 0) ai) ah)))))) (au (gQ S.o_NoNumber S.m_NoNumber)) bU))
noncomputable abbrev qk:ZF:=top 54
theorem qy(F:eX K mg "need_world" qk ["record"])(aa4:Cl P w K mg base 11 "has_world" 1 aZ)(S:Xs K mg ac al bi bn bv ca):Cl P w K mg base 12 "need_world" 1 cx:=
 aP ["record"] F λd f c A o s H E hr x=>(au (cQ (fj (dv (aL aa4 hr (ag (af 0) ah)))) (au (gQ S.o_NoWorld S.m_NoWorld)) bU))
noncomputable abbrev oH:ZF:=top 58
theorem oZ(F:eX K mg "need_events" oH ["record","one","other"])(aa0:Cl P w K mg base 7 "need_record" 1 aG)(aa9:Cl P w K mg base 4 "need_event" 2 cX):Cl P w K mg base 8 "need_events" 3 ft:=
 aP ["record","one","other"] F λd f c A o s H E hr x=>(by(apply ak;exact(bA (aL aa0 hr (ag (af 0) ah)));apply ak;exact(bA (aL aa9 hr (ag (af 0) (ag (af 1) ah))));exact au (bA (aL aa9 hr (ag (af 0) (ag (af 2) ah))))))
abbrev wU:ZF:=top 60
theorem xk(F:eX K mg "most_of" wU ["walks","other"]):Cl P w K mg base 1 "most_of" 2 mq:=
 aP ["walks","other"] F λd f c A o s H E hr x=>(au (aC (yu (bc (Ji (Hv hr)) (af 1) (af 0)) (aA (se (Hv hr) (af 0) (af 1)) ai) cu)))
abbrev qj:ZF:=top 59
theorem qx(F:eX K mg "walks_from" qj ["record","one"])(aaq:Cl P w K mg base 2 "settle" 2 fX)(aar:Cl P w K mg base 8 "bounds" 1 fZ):Cl P w K mg base 9 "walks_from" 2 fS:=
 aP ["record","one"] F λd f c A o s H E hr x=>(au (aC (aA (aL aaq hr (ag (aL aar hr (ag (af 0) ah)) (ag (ik (ag (af 1) ah)) ah))) ai)))
abbrev m4:ZF:=top 61
theorem ni(F:eX K mg "most_between" m4 ["record","one","other"])(aaw:Cl P w K mg base 8 "need_events" 3 ft)(aa6:Cl P w K mg base 12 "need_world" 1 cx)(aaO:Cl P w K mg base 1 "most_of" 2 mq)(aaB:Cl P w K mg base 9 "walks_from" 2 fS):Cl P w K mg base 13 "most_between" 3 cf:=
 aP ["record","one","other"] F λd f c A o s H E hr x=>(by(apply ak;exact(bA (aL aaw hr (ag (af 0) (ag (af 1) (ag (af 2) ah)))));apply ak;exact(bA (aL aa6 hr (ag (af 0) ah)));exact au (aC (aL aaO hr (ag (aL aaB hr (ag (af 0) (ag (af 1) ah))) (ag (af 2) ah))))))
abbrev lS:ZF:=top 62
theorem l6(F:eX K mg "least_between" lS ["record","one","other"])(aa7:Cl P w K mg base 13 "most_between" 3 cf):Cl P w K mg base 14 "least_between" 3 c7:=
 aP ["record","one","other","most"] F λd f c A o s H E hr x=>(ak (aO (aL aa7 hr (ag (af 0) (ag (af 2) (ag (af 1) ah)))) (aq 3 d)) (au (aC (yu (bc qY (af 3) cu) cu (i8 (af 3))))))
noncomputable abbrev mZ:ZF:=top 64
theorem nh(F:eX K mg "span_between" mZ ["record","one","other"])(aam:Cl P w K mg base 14 "least_between" 3 c7)(aa7:Cl P w K mg base 13 "most_between" 3 cf):Cl P w K mg base 15 "span_between" 3 cb:=
 aP ["record","one","other"] F λd f c A o s H E hr x=>(au (aC (a7 (ag (aL aam hr (ag (af 0) (ag (af 1) (ag (af 2) ah)))) (ag (aL aa7 hr (ag (af 0) (ag (af 1) (ag (af 2) ah)))) ah)))))
noncomputable abbrev uL:ZF:=top 65
noncomputable abbrev vn:List Str:=["record","clock","many"]
theorem Cg(F:eX K mg "spans" uL ["record","clock"])(aa0:Cl P w K mg base 7 "need_record" 1 aG)(aa5:Cl P w K mg base 3 "need_number" 2 bL)(aa6:Cl P w K mg base 12 "need_world" 1 cx)(aa8:Cl P w K mg base 15 "span_between" 3 cb)(B:Bl mg):Cl P w K mg base 16 "spans" 2 jW:=
 aP vn F λd f c A o s H E hr x=>(by(apply ak;exact(bA (aL aa0 hr (ag (af 0) ah)));apply ak;exact(bA (aL aa5 hr (ag (cw ck B.b_len P7 (ag (aA (af 0) ai) ah)) (ag (af 1) ah))));apply ak;exact(bA (aL aa6 hr (ag (af 0) ah)));apply ak;exact(aO (cw ck B.b_len P7 (ag (aA (aA (aA (af 0) ai) (af 1)) ai) ah)) (aq 2 d));exact au (aC (dO ["k","record","clock"] vn uL (wK B.b_range (ag ai (ag (af 2) ah))) (λd _ _ _ _ _=>⟨(aq 0 d),bN,(aL aa8 hr (ag (af 1) (ag (a7 (ag (af 2) (ag (ay gG (af 0) ai) ah))) (ag (a7 (ag (af 2) (ag (af 0) ah))) ah))))⟩)))))
abbrev kC:ZF:=top 66
theorem kI(F:eX K mg "narrowed_letter" kC ["record","letter"])(aa8:Cl P w K mg base 15 "span_between" 3 cb)(B:Bl mg)(C:Cs mg):Cl P w K mg base 16 "narrowed_letter" 2 cy:=
 aP ["record","letter","span","most"] F λd f c A o s H E hr x=>(by(apply ak;exact(aO (aL aa8 hr (ag (af 0) (ag (aA (af 1) ai) (ag (aA (af 1) ai) ah)))) (aq 2 d));apply ak;exact(aO (yu (qN (r6 (bc qY (aA (af 2) ai) cu) (nM (bc Hf (aA (af 2) ai) (qg C.LONGEST))))) cu (aA (af 2) ai)) (aq 3 d));exact au (aC (a7 (ag (aA (af 1) ai) (ag (aA (af 1) ai) (ag (cw (Kq rfl) B.b_min boot_min (ag (aA (af 2) ai) (ag (qg C.LONGEST) ah))) (ag (af 3) ah))))))))
abbrev mJ:ZF:=top 67
abbrev mL:List Str:=["record"]
theorem ve(F:eX K mg "narrowed" mJ ["record"])(aa6:Cl P w K mg base 12 "need_world" 1 cx)(aai:Cl P w K mg base 16 "narrowed_letter" 2 cy)(B:Bl mg):Cl P w K mg base 17 "narrowed" 1 ff:=
 aP mL F λd f c A o s H E hr x=>(ak (bA (aL aa6 hr (ag (af 0) ah))) (au (aC (a7 (ag (aA (af 0) ai) (ag (oq jD B.b_tuple de (ag (dO ["letter","record"] mL mJ (cM (aA (af 0) ai)) (λd _ _ _ _ _=>⟨(aq 0 d),bN,(aL aai hr (ag (af 1) (ag (af 0) ah)))⟩)) ah)) ah))))))
noncomputable abbrev iq:ZF:=top 76
noncomputable abbrev iy:List Str:=["_law_record_here","_law_sketch","_law_row","_law_lists","_law_found","_law_told_here"]
theorem tI(F:eX K mg "_law_told" iq ["_law_record_here","_law_sketch"])(aaa:Cl P w K mg base 1 "_law_events" 1 b7)(aa4:Cl P w K mg base 11 "has_world" 1 aZ)(aaR:Cl P w K mg base 9 "stamp" 2 jV)(cr:Ml P w K mg base 1 "Sketch" "record" aD)(db:Ml P w K mg base 12 "Sketch" "good" da)(dl:Ml P w K mg base 1 "Sketch" "counts" bh)(aag:Cl P w K mg base 8 "knows" 2 cY)(aan:Cl P w K mg base 9 "unknown_pairs" 1 cv)(aaS:Cl P w K mg base 16 "spans" 2 jW)(aaM:Cl P w K mg base 17 "narrowed" 1 ff)(B:Bl mg)(ci:bV K mg):Cl P w K mg base 18 "_law_told" 2 dX:=
 aP iy F λd f c A o s H E hr x=>(by(apply ak;exact(aO (aL aaa hr (ag (aA (af 0) ai) ah)) (aq 2 d));apply ak;exact(z5 3 d (EC (HL ["_law_event","_law_record_here"] iy iq (cM (gV (af 2) gU (gS ai))) (λd _ _ _ _ _=>⟨(aq 0 d),(aL aag hr (ag (af 1) (ag (af 0) ah)))⟩)) (EB (aL aan hr (ag (af 0) ah)))));apply ak;exact(yr 4 (N':=["_law_event","_law_record_here"]) (src:=[ZB,ZA 0]) rfl (LcScope.by (N:=iy) (names:=(ao iq).names) rfl rfl rfl (by decide+kernel)) (cM (af 2)) (λ_ _ _ _ _=>⟨(aq 0 (show RQ (["_law_event","_law_record_here"]:List Str)by decide+kernel)),bN,(aL aaR hr (ag (af 1) (ag (af 0) ah)))⟩) d);apply ak;exact(cQ (dv (aL aa4 hr (ag (af 0) ah))) (ak (z7 3 (aL aaS hr (ag (af 0) (ag ai ah)))) (au (fO 4 (aL aaM hr (ag (af 0) ah))))) bU);apply ak;exact(z6 3 5 rfl d (ak (fO 4 (Bk 5 B.b_list)) (au (fO 5 sd))));exact au (fm 4 (aC (ay aN (af 4) (ik (ag (fP ci.k cr hr (af 1)) (ag (fP ci.k db hr (af 1)) (ag (fP ci.k dl hr (af 1)) ah)))))))))
noncomputable abbrev iV:ZF:=cP (top 56) 2
noncomputable abbrev ny:List Str:=["self","word","record"]
theorem m7:bo ny ["self","word","record"] (ao iV):=fsc
theorem nt(F:nH K "Sketch" "go_on" "Sketch.go_on" iV ["self","word","record"])(aa4:Cl P w K mg base 11 "has_world" 1 aZ)(ci:bV K mg):Mm P w K mg base 12 "Sketch" "go_on" 3 bu:=
 rg F m7 rfl λf c A o s H E hr x=>(d8 (qP (Bf 0 ci.k ci.a_past (a7 (ag (af 1) (ag (af 2) ah))))) (d8 (wL 0 ci.k ci.a_ahead ah) (d7 (ou (ij (aL aa4 hr (ag (af 2) ah)))))))
abbrev la:ZF:=top 40
theorem ly(F:eX K mg "without_letter" la ["record","number"])(aa0:Cl P w K mg base 7 "need_record" 1 aG)(aa5:Cl P w K mg base 3 "need_number" 2 bL)(B:Bl mg):Cl P w K mg base 8 "without_letter" 2 bw:=
 aP ["record","number","letters"] F λd f c A o s H E hr x=>(by(apply ak;exact(bA (aL aa0 hr (ag (af 0) ah)));apply ak;exact(aO (aA (af 0) ai) (aq 2 d));apply ak;exact(bA (aL aa5 hr (ag (cw ck B.b_len P7 (ag (af 2) ah)) (ag (af 1) ah))));exact au (aC (a7 (ag (aA (af 0) ai) (ag (ay aN (gV (af 2) gU (gS (af 1))) (gV (af 2) (gS (ay aN (af 1) ai)) gU)) ah))))))
noncomputable abbrev km:ZF:=cP (top 56) 5
noncomputable abbrev qE:List Str:=["self","number"]
theorem qt:bo qE ["self","number"] (ao km):=fsc
theorem qD(F:nH K "Sketch" "cut" "Sketch.cut" km ["self","number"])(ga:Mm P w K mg base 12 "Sketch" "go_on" 3 bu)(aak:Cl P w K mg base 8 "without_letter" 2 bw)(cr:Ml P w K mg base 1 "Sketch" "record" aD)(ci:bV K mg):Mm P w K mg base 13 "Sketch" "cut" 2 bX:=
 rg F qt rfl λf c A o s H E hr x=>(d7 (ou (jJ 0 ci.k ga hr (ag sd (ag (aL aak hr (ag (kW 0 (fP ci.k cr hr (af 0))) (ag (af 1) ah))) ah)))))
noncomputable abbrev sG:ZF:=top 38
theorem tG(F:eX K mg "if_record" sG ["thing"])(aa0:Cl P w K mg base 7 "need_record" 1 aG):Cl P w K mg base 8 "if_record" 1 cV:=
 aP ["thing"] F λd f c A o s H E hr x=>(ak (bA (aL aa0 hr (ag (af 0) ah))) (au (aC (af 0))))
abbrev qi:ZF:=top 41
theorem qw(F:eX K mg "with_clock" qi ["record","number","clock"])(aad:Cl P w K mg base 8 "if_record" 1 cV):Cl P w K mg base 9 "with_clock" 3 fR:=
 aP ["record","number","clock","clocks"] F λd f c A o s H E hr x=>(ak (aO (aA (af 0) ai) (aq 3 d)) (au (aC (aL aad hr (ag (a7 (ag (ay aN (ay aN (gV (af 3) gU (gS (af 1))) (a7 (ag (af 2) ah))) (gV (af 3) (gS (ay aN (af 1) ai)) gU)) (ag (aA (af 0) ai) ah))) ah)))))
noncomputable abbrev mY:ZF:=top 42
theorem ng(F:eX K mg "with_reading" mY ["record","clock","reading"])(aa0:Cl P w K mg base 7 "need_record" 1 aG)(aa5:Cl P w K mg base 3 "need_number" 2 bL)(aaC:Cl P w K mg base 9 "with_clock" 3 fR)(B:Bl mg):Cl P w K mg base 10 "with_reading" 3 bO:=
 aP ["record","clock","reading","old"] F λd f c A o s H E hr x=>(by(apply ak;exact(bA (aL aa0 hr (ag (af 0) ah)));apply ak;exact(bA (aL aa5 hr (ag (cw ck B.b_len P7 (ag (aA (af 0) ai) ah)) (ag (af 1) ah))));apply ak;exact(aO (aA (aA (af 0) ai) (af 1)) (aq 3 d));exact au (aC (aL aaC hr (ag (af 0) (ag (af 1) (ag (a7 (ag (aA (af 3) ai) (ag (aA (af 3) ai) (ag (ay aN (aA (af 3) ai) (a7 (ag (af 2) ah))) ah)))) ah)))))))
noncomputable abbrev jf:ZF:=cP (top 56) 4
noncomputable abbrev pq:List Str:=["self","clock","reading"]
theorem oK:bo pq ["self","clock","reading"] (ao jf):=fsc
theorem o8(F:nH K "Sketch" "read" "Sketch.read" jf ["self","clock","reading"])(ga:Mm P w K mg base 12 "Sketch" "go_on" 3 bu)(aas:Cl P w K mg base 10 "with_reading" 3 bO)(cr:Ml P w K mg base 1 "Sketch" "record" aD)(ci:bV K mg):Mm P w K mg base 13 "Sketch" "read" 3 bM:=
 rg F oK rfl λf c A o s H E hr x=>(d7 (ou (jJ 0 ci.k ga hr (ag sd (ag (aL aas hr (ag (kW 0 (fP ci.k cr hr (af 0))) (ag (af 1) (ag (af 2) ah)))) ah)))))
noncomputable abbrev oC:ZF:=top 39
theorem oV(F:eX K mg "with_letter" oC ["record","letter"])(aa0:Cl P w K mg base 7 "need_record" 1 aG)(aad:Cl P w K mg base 8 "if_record" 1 cV):Cl P w K mg base 9 "with_letter" 2 bY:=
 aP ["record","letter"] F λd f c A o s H E hr x=>(ak (bA (aL aa0 hr (ag (af 0) ah))) (au (aC (aL aad hr (ag (a7 (ag (aA (af 0) ai) (ag (ay aN (aA (af 0) ai) (a7 (ag (af 1) ah))) ah))) ah)))))
noncomputable abbrev iU:ZF:=cP (top 56) 3
noncomputable abbrev nv:List Str:=["self","letter"]
theorem m6:bo nv ["self","letter"] (ao iU):=fsc
theorem nr(F:nH K "Sketch" "write" "Sketch.write" iU ["self","letter"])(ga:Mm P w K mg base 12 "Sketch" "go_on" 3 bu)(aax:Cl P w K mg base 9 "with_letter" 2 bY)(cr:Ml P w K mg base 1 "Sketch" "record" aD)(ci:bV K mg):Mm P w K mg base 13 "Sketch" "write" 2 bB:=
 rg F m6 rfl λf c A o s H E hr x=>(d7 (ou (jJ 0 ci.k ga hr (ag sd (ag (aL aax hr (ag (kW 0 (fP ci.k cr hr (af 0))) (ag (af 1) ah))) ah)))))
abbrev lh:ZF:=top 75
noncomputable abbrev tO:List Str:=["_law_script","_law_at","_law_sketch","_law_record_here","_law_deed","_law_letter_here","_law_clock_here"]
theorem aaf:bo tO ["_law_script","_law_at","_law_sketch"] (ao lh):=fsc
theorem tJ(F:eX K mg "_law_step" lh ["_law_script","_law_at","_law_sketch"])(cr:Ml P w K mg base 1 "Sketch" "record" aD)(aa1:Cl P w K mg base 2 "_law_drawn" 3 az)(aab:Cl P w K mg base 3 "_law_letter" 3 bZ)(gt:Mm P w K mg base 13 "Sketch" "cut" 2 bX)(ii:Mm P w K mg base 13 "Sketch" "read" 3 bM)(im:Mm P w K mg base 13 "Sketch" "write" 2 bB)(B:Bl mg)(ci:bV K mg)(S:Xs K mg ac al bi bn bv ca):Ce P w K mg base 14 "_law_step" 3 2 cW:=
 MN F aaf rfl λf c A o s H E hr x=>(d8 (uI 3 aaf.nd (ij (kW 2 (fP ci.k cr hr (af 2))))) (d8 (uI 4 aaf.nd (ij (aL aa1 hr (ag (af 0) (ag (af 1) (ag ai ah)))))) (d8 (uI 5 aaf.nd (ij (aL aab hr (ag (af 0) (ag (ay aN (af 1) ai) (ag (aA (af 3) ai) ah)))))) (d8 (uI 6 aaf.nd (ij (aL aa1 hr (ag (af 0) (ag (ay aN (af 1) ai) (ag (cw ck B.b_len P7 (ag (aA (af 3) ai) ah)) ah)))))) (d7 (ED S.m_NoRecord S.o_NoRecord (λ_ _=>(d7 (yx (qN (r8 (bc (jk (lJ hr)) (af 4) ai) (uE (bc (Ca (lJ hr)) (aA (af 3) ai) (a7 ah))))) (d7 (qP (jJ 2 ci.k gt hr (ag (aL aa1 hr (ag (af 0) (ag (ay aN (af 1) ai) (ag (cw ck B.b_len P7 (ag (aA (af 3) ai) ah)) ah)))) ah)))) (d7 (yx (bc (jk (lJ hr)) (af 4) ai) (d7 (qP (jJ 2 ci.k ii hr (ag (af 6) (ag (ay aN (ay aN (aA (aA (aA (aA (af 3) ai) (af 6)) ai) (i8 ai)) ai) (aL aa1 hr (ag (af 0) (ag (ay aN (af 1) ai) (ag ai ah))))) ah))))) (d7 (yx (bc lx (af 5) cu) (d7 (qP (jJ 2 ci.k im hr (ag (af 5) ah)))) Bo))))))) (λ_ _=>(au (aC cu))) (hcl:=λ_ _ z=>by cases z)))))))
noncomputable abbrev iW:ZF:=cP (top 56) 8
abbrev nA:List Str:=["self","step"]
theorem sc_Sketch_forth:bo nA ["self"] (ao iW):=fsc
theorem nu(F:nH K "Sketch" "forth" "Sketch.forth" iW ["self"])(ci:bV K mg)(S:Xs K mg ac al bi bn bv ca):Mm P w K mg base 1 "Sketch" "forth" 1 eh:=
 rg F sc_Sketch_forth rfl λf c A o s H E hr x=>(d8 (yx (wJ 0 (bc (jk (lJ hr)) (oo ci.k ci.a_ahead (af 0)) (ik ah))) (d7 (HM (gQ S.o_Nothing S.m_Nothing))) Bo) (d8 (uI 1 sc_Sketch_forth.nd (HG 0 ci.k ci.a_ahead)) (d8 (qP (Bf 0 ci.k ci.a_past (af 1))) (d7 (ou (ij (aA (af 1) ai)))))))
abbrev m5:ZF:=top 77
theorem nq(F:eX K mg "_law_refuses" m5 ["_law_ask","_law_sketch"])(im:Mm P w K mg base 13 "Sketch" "write" 2 bB)(gt:Mm P w K mg base 13 "Sketch" "cut" 2 bX)(ii:Mm P w K mg base 13 "Sketch" "read" 3 bM)(io:Mm P w K mg base 1 "Sketch" "forth" 1 eh)(B:Bl mg)(ci:bV K mg)(S:Xs K mg ac al bi bn bv ca):Cl P w K mg base 14 "_law_refuses" 2 cR:=
 aP ["_law_ask","_law_sketch","e"] F λd f c A o s H E hr x=>(au (Bh 2 d S.m_ClockError S.o_ClockError (λ_ _=>(Et (wI (bc (jk (lJ hr)) (af 0) ai) (jK (rZ (rY 1 ci.k im hr (ag cu ah)))) (jK (wI (bc (jk (lJ hr)) (af 0) ai) (jK (rZ (rY 1 ci.k gt hr (ag (i8 ai) ah)))) (jK (wI (bc (jk (lJ hr)) (af 0) ai) (jK (rZ (rY 1 ci.k ii hr (ag ai (ag (i8 ai) ah))))) (jK (rZ (Bg 1 ci.k io hr)))))))))) (Ae 2 0 (HN S) S.o_Nothing S.m_Nothing rfl B.b_isinstance B.b_ValueError (by decide)) (hcl:=λ_ _ z=>by cases z)))
noncomputable abbrev wV:ZF:=top 78
noncomputable abbrev Cr:List Str:=["_law_script","_law_record_here","_law_sketch","_law_other","_law_k","_law_first"]
theorem aaI:bo Cr ["_law_script"] (ao wV):=fsc
theorem Jr{f:ZE}(aaT:Fn K mg "law" wV ["_law_script"] f fd)(jp:Mm P w K mg base 8 "Sketch" "__init__" 2 cF)(aay:Cl P w K mg base 4 "_law_record" 3 fw)(aau:Cl P w K mg base 18 "_law_told" 2 dX)(aaH:Ce P w K mg base 14 "_law_step" 3 2 cW)(cr:Ml P w K mg base 1 "Sketch" "record" aD)(dl:Ml P w K mg base 1 "Sketch" "counts" bh)(aa1:Cl P w K mg base 2 "_law_drawn" 3 az)(aat:Cl P w K mg base 14 "_law_refuses" 2 cR)(B:Bl mg)(ci:bV K mg):Er P w K mg base 19 f fd ["_law_script"] 1 m_law:=
 sg aaT.fn aaI rfl λc A o s H E hr x=>(by(apply ak;exact(aO (aL aay hr (ag (af 0) (ag ai (ag ai ah)))) (aq 1 aaI.nd));apply ak;exact(uF 2 aaI.nd ci.k jp hr (ag (af 1) ah));apply ak;exact(uF 3 aaI.nd ci.k jp hr (ag (af 1) ah));apply ak;exact(dw rfl (cI B.b_range (ag (ay aN ai (aL aa1 hr (ag (af 0) (ag ai (ag ai ah))))) ah)) (aq 4 aaI.nd) (au (Ew (HH aaH hr (uH (af 0) (uH (ay aN ai (ay dI ai (af 4))) (EA 2)))))));apply ak;exact(fm 2 (aO (aL aau hr (ag (af 1) (ag (af 2) ah))) (aq 5 aaI.nd)));apply ak;exact(cQ (bc (He (xS hr)) kX (dO ["_law_ask","_law_sketch"] Cr wV (cI B.b_range (ag ai ah)) (λd _ _ _ _ _=>⟨(aq 0 d),bN,(aL aat hr (ag (af 0) (ag (af 1) ah)))⟩))) (au (aC kX)) bU);apply ak;exact(cQ (bc (Ca (lJ hr)) (aL aau hr (ag (af 1) (ag (af 2) ah))) (af 5)) (au (aC kX)) bU);exact au (aC (dP (il (jk (lJ hr)) (kW 3 (fP ci.k cr hr (af 3))) (af 1)) (d6 (il (jk (lJ hr)) (kW 3 (fP ci.k dl hr (af 3))) (a7 (ag ai (ag ai ah)))))))))
end
def all_ok{l:PySem.W.OpenLaw}{h:ZH}{fa:ZE}(X:K.In h)(e0:Ck asks K=Bt asks top)(G:h.Ns O5 mg)(hfa:mg "law" =ZA (.ref fa)):
  ∃fd:Pu,(∀(s:Ob)(v:N9),Ur s fd ⟨[v],[]⟩ [("_law_script",v)])/\∀base:ZH,K.In base->base.Ns O5 mg->p7 l.prog w K mg base CX0 19 fa fd ["_law_script"] (spP K 1 m_law):=by
 have e:tL DW K=si DW top:=congrArg (·.1) e0;obtain⟨kc0,ka0,km0⟩:=Ms (A:=⟨"Sketch",56,["past","ahead"],[("__init__","Sketch.__init__",0),("record","Sketch.record",1),("good","Sketch.good",6),("counts","Sketch.counts",9),("go_on","Sketch.go_on",2),("cut","Sketch.cut",5),("read","Sketch.read",4),("write","Sketch.write",3),("forth","Sketch.forth",8)]⟩) X G (mn 0 (congrArg (·.2) e0) rfl);have ci:bV K mg:=⟨kc0,ka0 _ (by decide),ka0 _ (by decide)⟩;have B:Bl mg:=⟨et 0 X G e rfl,et 1 X G e rfl,et 2 X G e rfl,et 3 X G e rfl,et 4 X G e rfl,et 5 X G e rfl,et 6 X G e rfl,et 7 X G e rfl,et 8 X G e rfl,et 9 X G e rfl,et 10 X G e rfl,et 11 X G e rfl,et 12 X G e rfl,et 13 X G e rfl⟩;have C:Cs mg:=⟨rz 0 X G e rfl,rz 1 X G e rfl,rz 2 X G e rfl,rz 3 X G e rfl,rz 4 X G e rfl,rz 5 X G e rfl⟩;obtain⟨ca,ls,xD,xl,nd⟩:=Js (Mp e);obtain⟨ac,ls0,x_NoRecord,rfl,xl0⟩:=ig xl;obtain⟨al,ls1,x_NoEvent,rfl,xl1⟩:=ig xl0;obtain⟨bi,ls2,x_NoNumber,rfl,xl2⟩:=ig xl1;obtain⟨bn,ls3,x_NoWorld,rfl,xl3⟩:=ig xl2;obtain⟨bv,ls4,x_Nothing,rfl,xl4⟩:=ig xl3;cases D1 xl4;have S:Xs K mg ac al bi bn bv ca:=⟨RY X G (ix x_NoRecord).1,RY X G (ix x_NoEvent).1,RY X G (ix x_NoNumber).1,RY X G (ix x_NoWorld).1,RY X G (ix x_Nothing).1,RY X G (ix xD).1,LH x_NoRecord xD,LH x_NoEvent xD,LH x_NoNumber xD,LH x_NoWorld xD,LH x_Nothing xD,ox0 xD,nd⟩;obtain⟨fd53,aaT,bnd⟩:=Mh (n:="law") (i:=78) (x:="_law_script") 53 X G e rfl hfa λ_ _ _ _ _ _ _=>rfl;refine⟨fd53,bnd,λbase _ _=>?_⟩;have aa3:=xq l.prog w base (bQ 0 X G e) B;have aaJ:=vf l.prog w base (bQ 1 X G e) B;have aa2:=tu l.prog w base (bQ 2 X G e) aaJ;have aaN:=xm l.prog w base (bQ 3 X G e) aa2 C;have aaP:=Ci l.prog w base (bQ 4 X G e) B;have aao:=nj l.prog w base (bQ 5 X G e) aa3 aaP aa2 B C;have aaK:=vi l.prog w base (bQ 6 X G e) aa3 aaN aao;have aaz:=qA l.prog w base (bQ 7 X G e) aa3 aaK B C;have aac:=vg l.prog w base (bQ 8 X G e) aa2 aa3 B;have aaL:=vh l.prog w base (bQ 9 X G e) aa2 C;have aaD:=tE l.prog w base (bQ 10 X G e) aac aa3 aaL;have aav:=o4 l.prog w base (bQ 11 X G e) aa3 aaD B C;have aaE:=tD l.prog w base (bQ 12 X G e) aa3 aaz aav;have aa0:=oX l.prog w base (bQ 13 X G e) aaE S;have jp:=kK l.prog w base (iD 0 km0 rfl λ_ _ _ _ _ _=>zi λ_ _=>rfl) aa0 ci;have aaF:=tK l.prog w base (bQ 14 X G e) B;have aa1:=qB l.prog w base (bQ 15 X G e) aaF;have aaa:=o7 l.prog w base (bQ 16 X G e) B;have aab:=o6 l.prog w base (bQ 17 X G e) aaa aa1 B;have aaA:=qC l.prog w base (bQ 18 X G e) aa1 B;have aay:=o5 l.prog w base (bQ 19 X G e) aa1 aab aaA B;have aap:=Av l.prog w base (bQ 20 X G e) aa0 B;have aaG:=tF l.prog w base (bQ 21 X G e);have aaq:=Au l.prog w base (bQ 22 X G e) aaG B;have aaj:=lz l.prog w base (bQ 23 X G e) aap aaq B;have aah:=kJ l.prog w base (bQ 24 X G e) B;have aae:=kc l.prog w base (bQ 25 X G e);have aar:=Aw l.prog w base (bQ 26 X G e) aa0 aah aae B;have aaQ:=Cc l.prog w base (bQ 27 X G e) aaj aar;have aa4:=tH l.prog w base (bQ 28 X G e) aaQ;have aa9:=qz l.prog w base (bQ 29 X G e) aac S;have aal:=l7 l.prog w base (bQ 30 X G e);have aag:=Cj l.prog w base (bQ 31 X G e) aa0 aa9 aal B;have aaR:=Cf l.prog w base (bQ 32 X G e) aag B;have cr:=l8 l.prog w base (iD 1 km0 rfl λ_ _ _ _ _ _=>vE λ_=>rfl) ci;have db:=o9 l.prog w base (iD 2 km0 rfl λ_ _ _ _ _ _=>vE λ_=>rfl) aa4 B ci;have dl:=l9 l.prog w base (iD 3 km0 rfl λ_ _ _ _ _ _=>vE λ_=>rfl) B ci;have aan:=l5 l.prog w base (bQ 33 X G e) aap aag B;have aa5:=oY l.prog w base (bQ 34 X G e) aa2 S;have aa6:=qy l.prog w base (bQ 35 X G e) aa4 S;have aaw:=oZ l.prog w base (bQ 36 X G e) aa0 aa9;have aaO:=xk l.prog w base (bQ 37 X G e);have aaB:=qx l.prog w base (bQ 38 X G e) aaq aar;have aa7:=ni l.prog w base (bQ 39 X G e) aaw aa6 aaO aaB;have aam:=l6 l.prog w base (bQ 40 X G e) aa7;have aa8:=nh l.prog w base (bQ 41 X G e) aam aa7;have aaS:=Cg l.prog w base (bQ 42 X G e) aa0 aa5 aa6 aa8 B;have aai:=kI l.prog w base (bQ 43 X G e) aa8 B C;have aaM:=ve l.prog w base (bQ 44 X G e) aa6 aai B;have aau:=tI l.prog w base (bQ 45 X G e) aaa aa4 aaR cr db dl aag aan aaS aaM B ci;have ga:=nt l.prog w base (iD 4 km0 rfl λ_ _ _ _ _ _=>CI λ_ _ _=>rfl) aa4 ci;have aak:=ly l.prog w base (bQ 46 X G e) aa0 aa5 B;have gt:=qD l.prog w base (iD 5 km0 rfl λ_ _ _ _ _ _=>zi λ_ _=>rfl) ga aak cr ci;have aad:=tG l.prog w base (bQ 47 X G e) aa0;have aaC:=qw l.prog w base (bQ 48 X G e) aad;have aas:=ng l.prog w base (bQ 49 X G e) aa0 aa5 aaC B;have ii:=o8 l.prog w base (iD 6 km0 rfl λ_ _ _ _ _ _=>CI λ_ _ _=>rfl) ga aas cr ci;have aax:=oV l.prog w base (bQ 50 X G e) aa0 aad;have im:=nr l.prog w base (iD 7 km0 rfl λ_ _ _ _ _ _=>zi λ_ _=>rfl) ga aax cr ci;have aaH:=tJ l.prog w base (bQ 51 X G e) cr aa1 aab gt ii im B ci S;have io:=nu l.prog w base (iD 8 km0 rfl λ_ _ _ _ _ _=>vE λ_=>rfl) ci S;have aat:=nq l.prog w base (bQ 52 X G e) im gt ii io B ci S;exact(Jr l.prog w base aaT jp aay aau aaH cr dl aa1 aat B ci).h
end G
variable{M:Nat}
namespace Tr
open PySem
noncomputable abbrev RR(cs ls:List T):T:=.tup [.tup cs,.tup ls]
mutual
def T.pl:T->Bool
 |.scr _=>ZD
 |.dct _ _=>ZD
 |.ob _ _ _=>ZD
 |.tup l=>plS l
 |.lst l=>plS l
 |_=>ZC
def plS:List T->Bool
 |[] =>ZC
 |t::l=>t.pl&&plS l
end
theorem fQ:∀{l:List T}{t:T},plS l=ZC->t∈l->t.pl=ZC
 |[],_,_,h=>by cases h
 |u::l,t,h,m=>by
  unfold plS at h;rw[Oc]at h;rcases Oj.mp m with rfl|m
  .exact h.1
  .exact fQ h.2 m
mutual
theorem T.KM:∀(t:T),t.pl=ZC->t.nd=ZC
 |.non,_=>rfl
 |.bl _,_=>rfl
 |.int _,_=>rfl
 |.str _,_=>rfl
 |.scr _,h=>by cases h
 |.dct _ _,h=>by cases h
 |.ob _ _ _,h=>by cases h
 |.tup l,h=>by unfold T.pl at h;unfold T.nd;exact plS_nds l h
 |.lst l,h=>by unfold T.pl at h;unfold T.nd;exact plS_nds l h
theorem plS_nds:∀(l:List T),plS l=ZC->nds l=ZC
 |[],_=>rfl
 |t::l,h=>by unfold plS at h;rw[Oc]at h;unfold nds;rw[T.KM t h.1,plS_nds l h.2];rfl
end
variable{fe:W5}{h:T->T}
theorem xH:∀(ts:List T)(Z:En),0<Z.length->(∀t∈ts,fe (Z.set 0 (.va t))=.ok (h t))->dC (gN 0) bT fe ts Z=.ok (ts.map h)
 |[],_,_,_=>rfl
 |t::r,Z,hl,hf=>by
  unfold dC;have e1:gN 0 t Z=.ok (Z.set 0 (.va t)):=by unfold gN;rw[if_pos hl]
  have ih:=xH r (Z.set 0 (.va t)) (by rw[OZ];exact hl) (λu hu=>by rw[VV];exact hf u (N8 _ hu));simp only[e1,ax,bT,if_true,hf t Oe,ih,Of]
theorem rk{fc:W6}{p:T->Bool}:∀(ts:List T)(Z:En),0<Z.length->(∀t∈ts,fc (Z.set 0 (.va t))=.ok (p t)/\(p t=ZC->fe (Z.set 0 (.va t))=.ok (h t)))->dC (gN 0) fc fe ts Z=.ok ((ts.filter p).map h)
 |[],_,_,_=>rfl
 |t::r,Z,hl,hf=>by
  unfold dC;have e1:gN 0 t Z=.ok (Z.set 0 (.va t)):=by unfold gN;rw[if_pos hl]
  have ih:=rk r (Z.set 0 (.va t)) (by rw[OZ];exact hl) (λu hu=>by rw[VV];exact hf u (N8 _ hu));obtain⟨h1,h2⟩:=hf t Oe;simp only[e1,ax,h1];cases q:p t with
  |true=>simp only[if_true,h2 q,ax,ih,T1,q,Of]
  |false=>simp only[QF,if_false,ih,T1,q]
theorem rO(p:T->Bool):∀l:List T,pW (l.map λt=>T.bl (p t))=ZA (l.map p)
 |[] =>rfl
 |t::l=>by rw[Of,pW,rO p l];rfl
def all_map(p:T->Bool)(l:List T):qL [.lst (l.map λt=>T.bl (p t))]=.ok (.bl (l.all p)):=by simp only[qL,rO,VO];rfl
def kR{l:List α}{t:α}(h:l[k]?=ZA t):L2.atI l (k:Int)=ZA t:=by have hk:k<l.length:=(Ol.mp h).1;unfold L2.atI L2.ixN;rw[if_pos (by omega),if_pos (by omega),Qa];exact h
def aE(h:n<=k)(hk:autoParam (k<=1000) s_):n<=ZI:=by unfold ZI;omega
variable{b:W6}{fi:W3}{g:T->En->Rs En}{k:Bool}{ks:List T}{x:Rs T}
section
variable {f fa fb fc:W5}{fs:W3}{c:W6}{F G:W4}{Z Z' Z1 Z2:En}{t u r:T}{ts l m:List T}
def L6(h:Z[i]?=ZA (.va t)):vr i Z=.ok t:=by unfold vr;rw[h]
variable{g:T->T->Rs T}
def aJ(ha:fa Z=.ok t)(hb:fb Z=.ok u)(hg:g t u=x):o2 g fa fb Z=x:=by unfold o2;rw[ha,hb];exact hg
def Md{g:T->Rs T}(ha:fa Z=.ok t)(hg:g t=x):o1 g fa Z=x:=by unfold o1;rw[ha];exact hg
def Mc{vs:List T}(ha:fa Z=.ok (.dct ks vs))(hb:fb Z=.ok u)(hg:g (.dct ks vs) u=x):oD g fa fb Z=x:=by unfold oD;rw[ha];show(fb Z >>= g (.dct ks vs))=_;rw[hb];exact hg
def Ma(ha:fa Z=.ok (.lst ks))(hb:fb Z=.ok u)(hg:g (.lst ks) u=x):oL g fa fb Z=x:=by unfold oL;rw[ha];show(fb Z >>= g (.lst ks))=_;rw[hb];exact hg
def ar(h:f Z=.ok t)(hs:fs Z=.ok ts):ae f fs Z=.ok (t::ts):=by unfold ae;rw[h,hs];rfl
def aH{g:List T->Rs T}(h:fs Z=.ok ts)(hg:g ts=x):cl g fs Z=x:=by unfold cl;rw[h];exact hg
def bW(h:f Z=.ok (.bl k)):tb f Z=.ok k:=by unfold tb;rw[h];rfl
def fN(h:b Z=.ok k):eZ b Z=.ok (!k):=by unfold eZ;rw[h];rfl
def zu(h:b Z=.ok ZC):y8 b c Z=.ok ZC:=by unfold y8;rw[h];rfl
variable{x:Rs Bool}
def rq(h:b Z=.ok ZD)(h2:c Z=x):y8 b c Z=x:=by unfold y8;rw[h];exact h2
def C8(h:b Z=.ok ZD):kh b c Z=.ok ZD:=by unfold kh;rw[h];rfl
def xN(h:b Z=.ok ZC)(h2:c Z=x):kh b c Z=x:=by unfold kh;rw[h];exact h2
def L9(h:b Z=.ok p)(h2:p=ZD->c Z=.ok q):y8 b c Z=.ok (p||q):=by
 cases p with
 |true=>exact zu h
 |false=>exact rq h (h2 rfl)
def Ht(h:b Z=.ok p)(h2:p=ZC->c Z=.ok q):kh b c Z=.ok (p&&q):=by
 cases p with
 |false=>exact C8 h
 |true=>exact xN h (h2 rfl)
def tY(h:fa Z=.ok (.bl ZC)):dD fa fb Z=fb Z:=by unfold dD;rw[h];rfl
def tW(h:fa Z=.ok (.bl ZD)):dD fa fb Z=.ok (.bl ZD):=by unfold dD;rw[h];rfl
def lH(h:fa Z=.ok (.bl p))(h2:p=ZC->fb Z=.ok (.bl q)):dD fa fb Z=.ok (.bl (p&&q)):=by
 cases p with
 |true=>rw[tY h,h2 rfl];rfl
 |false=>rw[tW h];rfl
def CY(h:fa Z=.ok (.bl ZC)):FN fa fb Z=.ok (.bl ZC):=by unfold FN;rw[h];rfl
def CZ(h:fa Z=.ok (.bl ZD)):FN fa fb Z=fb Z:=by unfold FN;rw[h];rfl
def JR(h:fa Z=.ok (.bl p))(h2:p=ZD->fb Z=.ok (.bl q)):FN fa fb Z=.ok (.bl (p||q)):=by
 cases p with
 |true=>rw[CY h];rfl
 |false=>rw[CZ h,h2 rfl];rfl
def zA(h:b Z=.ok p):Dh b fa fb Z=if p then fa Z else fb Z:=by unfold Dh;rw[h];rfl
variable{g:T->En->Rs En}
def cK(h:f Z=.ok t)(hg:g t Z=.ok Z'):dh f g Z=.ok (.nx Z'):=by unfold dh;rw[h];show(match g t Z with|.ok Z'=>Rs.ok (Fl.nx Z')|_=>.bad)=_;rw[hg]
def aB(h:F Z=.ok (.nx Z')):aF F G Z=G Z':=by unfold aF;rw[h];rfl
def gH(h:F Z=.ok (.rt t)):aF F G Z=.ok (.rt t):=by unfold aF;rw[h];rfl
def CW(h:F Z=.ok (.ct Z')):aF F G Z=.ok (.ct Z'):=by unfold aF;rw[h];rfl
def CV{c:Str}(h:F Z=.err c):aF F G Z=.err c:=by unfold aF;rw[h];rfl
def eU(h:b Z=.ok ZC):i7 b F G Z=F Z:=by unfold i7;rw[h];rfl
def eE(h:b Z=.ok ZD):i7 b F G Z=G Z:=by unfold i7;rw[h];rfl
def bH(h:f Z=.ok t):aV f Z=.ok (.rt t):=by unfold aV;rw[h];rfl
def JO{c:Str}(h:f Z=.err c):aV f Z=.err c:=by unfold aV;rw[h];rfl
def hZ(h:f Z=.ok t):mK f Z=.ok (.nx Z):=by unfold mK;rw[h];rfl
def Hs{c:Str}(h:f Z=.err c):mK f Z=.err c:=by unfold mK;rw[h];rfl
def gA{x:Fl}(h:fi Z=.ok ts)(h2:bq g F ts Z=.ok x):gE fi g F Z=.ok x:=by unfold gE;rw[h];show(match bq g F ts Z with|.ok f=>Rs.ok f|_=>.bad)=_;rw[h2]
def eC(h:g t Z=.ok Z1)(h2:F Z1=.ok (.nx Z2)):bq g F (t::ts) Z=bq g F ts Z2:=by rw[bq,h];show(F Z1 >>= _)=_;rw[h2];rfl
def Gf(h:g t Z=.ok Z1)(h2:F Z1=.ok (.ct Z2)):bq g F (t::ts) Z=bq g F ts Z2:=by rw[bq,h];show(F Z1 >>= _)=_;rw[h2];rfl
def zy(h:g t Z=.ok Z1)(h2:F Z1=.ok (.rt r)):bq g F (t::ts) Z=.ok (.rt r):=by rw[bq,h];show(F Z1 >>= _)=_;rw[h2];rfl
def vL(h:c Z=.ok ZD):bJ c F (n+1) Z=.ok (.nx Z):=by unfold bJ;rw[h]
def pK(h:c Z=.ok ZC)(h2:F Z=.ok (.nx Z')):bJ c F (n+1) Z=bJ c F n Z':=by rw[bJ,h];simp only[h2]
def CU(h:c Z=.ok ZC)(h2:F Z=.ok (.rt t)):bJ c F (n+1) Z=.ok (.rt t):=by rw[bJ,h];simp only[h2]
def a0{m:Nat}(hl:ts.length=n)(h:F (bx m ts)=.ok (.rt t)):val n m F ts=.ok t:=by unfold val;rw[if_pos hl];unfold dY;rw[h];rfl
def pM{m:Nat}{c:Str}(hl:ts.length=n)(h:F (bx m ts)=.err c):val n m F ts=.err c:=by unfold val;rw[if_pos hl];unfold dY;rw[h];rfl
def pL{m:Nat}(hl:ts.length=n)(h:F (bx m ts)=.ok (.nx Z)):val n m F ts=.ok .non:=by unfold val;rw[if_pos hl];unfold dY;rw[h];rfl
def nE{src:List (Option Nat)}(hi:fi Z=.ok ts)(hs:ts.length<=ZI)(hn:0<src.length)(hf:∀t∈ts,fe ((bF src Z).set 0 (.va t))=.ok (h t)):
  fE fi src (gN 0) bT fe Z=.ok (.lst (ts.map h)):=by
 have e:=xH (fe:=fe) (h:=h) ts (bF src Z) (by unfold bF;rw[Oa];exact hn) hf;unfold fE;rw[hi,ax,if_pos hs,e]
def Mg{src:List (Option Nat)}{fc:W6}{p:T->Bool}(hi:fi Z=.ok ts)(hs:ts.length<=ZI)(hn:0<src.length)
  (hf:∀t∈ts,fc ((bF src Z).set 0 (.va t))=.ok (p t)/\(p t=ZC->fe ((bF src Z).set 0 (.va t))=.ok (h t))):fE fi src (gN 0) fc fe Z=.ok (.lst ((ts.filter p).map h)):=by
 have e:=rk (fc:=fc) (fe:=fe) (p:=p) (h:=h) ts (bF src Z) (by unfold bF;rw[Oa];exact hn) hf;unfold fE;rw[hi,ax,if_pos hs,e]
def cq(h:fs Z=.ok ts)(hl:ts.length<=ZI):ba fs Z=.ok (.tup ts):=by unfold ba;rw[h];show kr ts=_;unfold kr;rw[if_pos hl]
def mS(h:fs Z=.ok ts)(hl:ts.length<=ZI):gc fs Z=.ok (.lst ts):=by unfold gc;rw[h];show i0 ts=_;unfold i0;rw[if_pos hl]
def xJ{f:W3}(h:f Z=.ok l)(hi:i<Z.length)(hl:l.length<=1000):iX i f Z=.ok (.nx (Z.set i (.ow (.lst l)))):=by unfold iX;rw[h,ax,if_pos ⟨hi,aE hl (by omega)⟩]
def xK(hi:i<Z.length):iX i aj Z=.ok (.nx (Z.set i (.ow (.lst [])))):=xJ rfl hi (Pn _)
def lG(h:f Z=.ok t)(hi:Z[i]?=ZA (.ow (.lst l)))(hl:l.length<=1000):gF i f Z=.ok (.nx (Z.set i (.ow (.lst (l++[t]))))):=by unfold gF;rw[hi];simp only[h,ax];rw[if_pos (by unfold ZI;omega)]
def C7(h:f Z=.ok (.lst m))(hi:Z[i]?=ZA (.ow (.lst l)))(hl:l.length+m.length<=1000):oP i f Z=.ok (.nx (Z.set i (.ow (.lst (l++m))))):=by unfold oP;rw[hi];simp only[h,ax,J5];rw[if_pos (by unfold ZI;omega)]
def Mj(h:f Z=.ok (.tup l)):iS f Z=.ok l:=by unfold iS;rw[h];rfl
def kx(h:f Z=.ok (.lst l)):iS f Z=.ok l:=by unfold iS;rw[h];rfl
def Mo(h:fs Z=.ok [.lst l]):iE fs Z=.ok (dE 0 l):=by unfold iE;rw[h];rfl
def Hr(e:l[n]?=ZA t):aR (.tup l) (.int (n:Int))=.ok t:=by show(match L2.atI l _ with|some t=>Rs.ok t|none=>.bad)=_;rw[kR e]
def JT(e:l[n]?=ZA t):aR (.lst l) (.int (n:Int))=.ok t:=by show(match L2.atI l _ with|some t=>Rs.ok t|none=>.bad)=_;rw[kR e]
def qH(h:fa Z=.ok (.tup l))(h2:fb Z=.ok (.int (n:Int)))(e:l[n]?=ZA t):o2 aR fa fb Z=.ok t:=aJ h h2 (Hr e)
def Mi(h:fa Z=.ok (.lst l))(h2:fb Z=.ok (.int (n:Int)))(e:l[n]?=ZA t):o2 aR fa fb Z=.ok t:=aJ h h2 (JT e)
def L8{fl fu:En->Rs (Option Int)}(h:fe Z=.ok (.tup l))(h1:fl Z=.ok lo)(h2:fu Z=.ok hi):sl fe fl fu Z=.ok (.tup (ie l lo hi)):=by unfold sl;rw[h,h1,h2];rfl
def Ho{fl fu:En->Rs (Option Int)}(h:fe Z=.ok (.lst l))(h1:fl Z=.ok lo)(h2:fu Z=.ok hi):sl fe fl fu Z=.ok (.lst (ie l lo hi)):=by unfold sl;rw[h,h1,h2];rfl
def JQ{i:Int}(h:f Z=.ok (.int i)):pS f Z=.ok (ZA i):=by unfold pS;rw[h];rfl
def DP(l:List T)(n:Nat):ie l ZB (ZA (n:Int))=l.take n:=by unfold ie;rw[HT.sIx_none,HT.sIx_nat,List.drop_zero,RT,List.take_eq_take_iff];omega
def wc(l:List T)(n:Nat):ie l (ZA (n:Int)) ZB=l.drop n:=by
 unfold ie;rw[HT.sIx_none,HT.sIx_nat];by_cases h:n<=l.length
 .rw[Nat.min_eq_left h];exact List.take_of_length_le (by rw[QC];omega)
 .rw[Nat.min_eq_right (by omega),R7 (On _),R7 (by omega),List.take_nil]
def C5{o:OT}(hi:Z[i]?=ZA (.ow o))(h:f (disown i Z)=.ok t)(hk:t.nk o.isD=ZC):ln i f Z=.ok t:=by unfold ln;rw[hi];simp only[h,ax,hk,if_true]
def C4(h:b (disown i Z)=.ok k):Bd i b Z=.ok k:=h
def zB{x:Rs Fl}(h:F (disown i Z)=x):kF i F Z=x:=h
end
def mk2(a b:T):kr [a,b]=.ok (.tup [a,b]):=by unfold kr;rw[if_pos (aE (k:=1000) (by simp only[Og,Qr];omega))]
def iu(n:Nat):(rng 0 n).length=n:=by unfold rng;rw[Oa,Qo];omega
variable{h:Str->Rs T}{sls:List Sl}
section
variable {Z Z':En}{f fa fo:W5}{fs:W3}{t u:T}{ts l:List T}{x:En->Rs (T×En)}{c m n a:Str}{ns:List Str}{ls:List (List T)}{F G:En->Rs Fx}{o:OT}{g:List Sl->Rs (T×OT)}{d:Str}
def C0{gm:List T->Rs T}{r:Rs T}(h:fo Z=.ok (.ob c ns ts))(hm:ns.contains m=ZD)(hs:fs Z=.ok l)(hg:gm (.ob c ns ts::l)=r):mO c m gm fo fs Z=r:=by unfold mO;rw[h];show(if _ then _ else _)=_;rw[if_pos ⟨rfl,hm⟩,hs];exact hg
def vN(h:fa Z=.ok (.ob c ns ts))(hg:kf a ns ts=ZA t):o1 (nG c a) fa Z=.ok t:=Md h (by show(if _ then _ else _)=_;rw[if_pos rfl,hg])
def AM(h:f Z=.ok t):xP f Z=.ok (t,Z):=by unfold xP;rw[h];rfl
def JN(hi:Z[i]?=ZA (.ow (.ob c ns ls)))(hf:kf a ns ls=ZA l)(h:fa Z=.ok t)(hl:l.length<=1000):wN i c a fa Z=.ok (.non,Z.set i (.ow (.ob c ns (jz a (l++[t]) ns ls)))):=by unfold wN;rw[hi];show(if _ then _ else _)=_;rw[if_pos rfl,hf];show(fa Z >>= _)=_;rw[h];show(if _ then _ else _)=_;rw[if_pos (by unfold ZI;omega)]
def CS{r:Rs (T×OT)}(h:r=.ok (t,o)):Bp i Z r=.ok (t,Z.set i (.ow o)):=by rw[h];rfl
def nW(hi:Z[i]?=ZA (.ow (.ob c ns ls)))(hm:ns.contains m=ZD)(hs:fs Z=.ok ts)(h:g (.ow (.ob c ns ls)::ts.map Sl.va)=.ok (t,o)):dU i c m g fs Z=.ok (t,Z.set i (.ow o)):=by unfold dU;rw[hi];show(if _ then _ else _)=_;rw[if_pos ⟨rfl,hm⟩,hs];exact CS h
def vK(hi:Z[i]?=ZA (.ow (.ob c ns ls)))(hm:ns.contains m=ZD)(hs:fs Z=.ok ts)(h:g (.ow (.ob c ns ls)::ts.map Sl.va)=.err d):dU i c m g fs Z=.err d:=by unfold dU;rw[hi];show(if _ then _ else _)=_;rw[if_pos ⟨rfl,hm⟩,hs];show Bp i Z _=_;rw[h];rfl
def CT(hi:Z[i]?=ZA (.ow (.ob c ns ls)))(hm:ns.contains m=ZD)(hs:fs Z=.err d):dU i c m g fs Z=.err d:=by unfold dU;rw[hi];show(if _ then _ else _)=_;rw[if_pos ⟨rfl,hm⟩,hs];rfl
def JM(hi:Z[i]?=ZA (.ow o))(hs:fs Z=.ok ts){o':OT}(h:g (ts.map Sl.va++[.ow o])=.ok (t,o')):wM i g fs Z=.ok (t,Z.set i (.ow o')):=by unfold wM;rw[hi];show(fs Z >>= _)=_;rw[hs];exact CS h
def jx{k:Fx}(h:F Z=.ok (.nx Z'))(h2:G Z'=.ok k):jt F G Z=.ok k:=by unfold jt;rw[h];show LQ (G Z')=_;rw[h2];rfl
def vM(h:x Z=.ok (t,Z')):wH x Z=.ok (.nx Z'):=by unfold wH;rw[h];rfl
def C3(h:x Z=.err d):wH x Z=.err d:=by unfold wH;rw[h];rfl
def C2(h:x Z=.ok (t,Z')):lC x Z=.ok (.rt t Z'):=by unfold lC;rw[h];rfl
def Ge(h:x Z=.err d):lC x Z=.err d:=by unfold lC;rw[h];rfl
def zx(h:x Z=.ok (t,Z'))(hl:i<Z'.length):Ei i x Z=.ok (.nx (Z'.set i (.va t))):=by unfold Ei;rw[h];show(if _ then _ else _)=_;rw[if_pos hl]
def gz(h:b Z=.ok k):AF b F G Z=if k then F Z else G Z:=by unfold AF;rw[h];rfl
def xM(hi:Z[i]?=ZA (.ow (.ob c ns ls)))(hs:fs Z=.ok l)(hl:l.length<=1000)(hn:ns.length<1000):vC i c a fs Z=.ok (.nx (Z.set i (.ow (if ns.contains a then .ob c ns (jz a l ns ls)else .ob c (ns++[a]) (ls++[l]))))):=by unfold vC;rw[hi];show(fs Z >>= _)=_;rw[hs];show(if _ then _ else _)=_;rw[if_pos ⟨rfl,by unfold ZI;omega,hn⟩]
def tV{k:Fx}(e:F Z=.ok k):pA F h Z=.ok k:=by unfold pA;rw[e]
def zw(e:F Z=.err d)(e2:h d=.ok t):pA F h Z=.ok (.rt t Z):=by unfold pA;rw[e];simp only[e2]
def pO(hl:sls.length=N)(h:F (eY M sls)=.ok (.rt t Z))(hj:Z[j]?=ZA (.ow o)):gW N j M F sls=.ok (t,o):=by unfold gW;rw[if_pos hl,h];show qv j (.rt t Z)=_;unfold qv;simp only[hj]
def zr(hl:sls.length=N)(h:F (eY M sls)=.ok (.nx Z))(hj:Z[j]?=ZA (.ow o)):gW N j M F sls=.ok (.non,o):=by unfold gW;rw[if_pos hl,h];show qv j (.nx Z)=_;unfold qv;simp only[hj]
def nX(hl:sls.length=N)(h:F (eY M sls)=.err d):gW N j M F sls=.err d:=by unfold gW;rw[if_pos hl,h];rfl
def Mq(h:x Z=.ok (t,Z')):w8 x Z=.ok (.nx Z'):=by unfold w8;rw[h];rfl
def C1(hs:fs Z=.ok ts)(h:g (.ow (.ob c [] [])::ts.map Sl.va)=.ok (.non,o))(hl:i<Z.length):oO i c g fs Z=.ok (.nx (Z.set i (.ow o))):=by unfold oO;rw[hs];show(LQ (g _) >>= _)=_;rw[h];show(if _ then _ else _)=_;rw[if_pos hl]
end
end Tr
variable{d m s:Int}{w:List Nat}
namespace Gr
variable {ν:Type}[DecidableEq ν]
abbrev df(ν:Type):=List (ν×ν×Int)
inductive Wk (L:df ν):ν->ν->Int->Prop
 |nil (a:ν):Wk L a a 0
 |step {a b c:ν} {m s:Int}:(a,b,m)∈L->Wk L b c s->Wk L a c (m+s)
def Wk.one{L:df ν}{a b:ν}(h:(a,b,m)∈L):Wk L a b m:=by have:=Wk.step h (Wk.nil (L:=L) b);rwa [Int.add_zero]at this
def Wk.app{L:df ν}{a b c:ν}{t:Int}(h:Wk L a b s)(k:Wk L b c t):Wk L a c (s+t):=by
 induction h with
 |nil a=>rwa [Int.zero_add]
 |step e _ ih=>rw[Int.add_assoc];exact .step e (ih k)
def Holds(L:df ν)(t:ν->Int):Prop:=∀a b m,(a,b,m)∈L->t b - t a<=m
def Holds.walk{L:df ν}{t:ν->Int}(h:Holds L t){a b:ν}(w:Wk L a b s):t b - t a<=s:=by
 induction w with
 |nil a=>omega
 |step e _ ih=>have:=h _ _ _ e;omega
def gC(L:df ν):Prop:=∀a s,Wk L a a s->0<=s
def Holds.NZ{L:df ν}{t:ν->Int}(h:Holds L t):gC L:=λa s w=>by have:=h.walk w;omega
def Ch(L:df ν):ν->List Nat->ν->Prop
 |a,[],b=>a=b
 |a,k::r,b=>∃c m,L[k]?=ZA (a,c,m)/\Ch L c r b
noncomputable def most(L:df ν)(k:Nat):Int:=match L[k]? with
 |some x=>x.2.2
 |none=>0
noncomputable def eR(L:df ν):List Nat->Int
 |[] =>0
 |k::r=>most L k+eR L r
theorem lP(L:df ν):∀(p q:List Nat),eR L (p++q)=eR L p+eR L q
 |[],q=>by simp[eR]
 |k::p,q=>by rw[V7,eR,eR,lP L p q];omega
theorem Ch.wk{L:df ν}:∀{ks:List Nat}{a b:ν},Ch L a ks b->Wk L a b (eR L ks)
 |[],a,b,h=>by cases h;exact .nil a
 |k::r,a,b,⟨c,m,e,h⟩=>by
  have:eR L (k::r)=m+eR L r:=by rw[eR,most,e]
  rw[this];exact .step (QY e) h.wk
theorem Ch.app{L:df ν}:∀{p q:List Nat}{a b c:ν},Ch L a p b->Ch L b q c->Ch L a (p++q) c
 |[],q,a,b,c,h,k=>by cases h;exact k
 |x::p,q,a,b,c,⟨d,m,e,h⟩,k=>⟨d,m,e,Ch.app h k⟩
theorem Ch.lt{L:df ν}:∀{ks:List Nat}{a b:ν},Ch L a ks b->∀k∈ks,k<L.length
 |[],_,_,_,k,hk=>by simp at hk
 |x::r,a,b,⟨c,m,e,h⟩,k,hk=>by
  rcases Oj.mp hk with rfl|hk
  .exact(Ol.mp e).1
  .exact h.lt k hk
def Ch.snoc{L:df ν}{p:List Nat}{a b c:ν}(h:Ch L a p b)(e:L[k]?=ZA (b,c,m)):Ch L a (p++[k]) c:=h.app ⟨c,m,e,rfl⟩
noncomputable def src(L:df ν)(k:Nat):Option ν:=(L[k]?).map (·.1)
abbrev cp(ν:Type):=ν->Option (Int×List Nat)
noncomputable def put(b:cp ν)(v:ν)(x:Int×List Nat):cp ν:=λu=>if u=v then ZA x else b u
def ee{b:cp ν}{v:ν}:put b v x v=ZA x:=by unfold put;rw[if_pos rfl]
def kG{b:cp ν}{u v:ν}(h:u≠v):put b v x u=b u:=by unfold put;rw[if_neg h]
noncomputable def fA(L:df ν)(ks:List Nat):List ν:=ks.filterMap (src L)
noncomputable def eG(b:cp ν)(v:ν)(d:Int):Bool:=match b v with
 |none=>ZC
 |some x=>decide (d<x.1)
noncomputable def hV(L:df ν)(b:cp ν)(k:Nat)(x:ν×ν×Int):Sum (Option (cp ν)) (List Nat):=match b x.1 with
 |none=>.inl ZB
 |some (d,w)=>if eG b x.2.1 (d+x.2.2)=ZC then
   if x.2.1∈fA L (w++[k])then .inr ((w++[k]).drop ((fA L (w++[k])).idxOf x.2.1))else .inl (ZA (put b x.2.1 (d+x.2.2,w++[k])))
  else .inl ZB
noncomputable def iP(L:df ν):Nat->df ν->cp ν->Bool->Sum (cp ν×Bool) (List Nat)
 |_,[],b,mv=>.inl (b,mv)
 |k,x::r,b,mv=>match hV L b k x with
  |.inr q=>.inr q
  |.inl ZB=>iP L (k+1) r b mv
  |.inl (ZA b')=>iP L (k+1) r b' ZC
noncomputable def settle(L:df ν):Nat->cp ν->Option (Sum (cp ν) (List Nat))
 |0,_=>ZB
 |n+1,b=>match iP L 0 L b ZD with
  |.inr q=>ZA (.inr q)
  |.inl (b',ZC)=>settle L n b'
  |.inl (b',ZD)=>ZA (.inl b')
def sZ(L:df ν)(p q:List Nat):fA L (p++q)=fA L p++fA L q:=by unfold fA;rw[List.filterMap_append]
def sY{L:df ν}{x:ν×ν×Int}(e:L[k]?=ZA x):fA L [k]=[x.1]:=by unfold fA src;simp[e]
def Ch.Nd{L:df ν}{r:List Nat}{a b:ν}(h:Ch L a (k::r) b):fA L (k::r)=a::fA L r:=by obtain⟨c,m,e,_⟩:=h;rw[show k::r=[k] ++r from rfl,sZ,sY e];rfl
theorem Ch.cut{L:df ν}{v:ν}:∀{ks:List Nat}{a b:ν},Ch L a ks b->v∈fA L ks->Ch L a (ks.take ((fA L ks).idxOf v)) v/\Ch L v (ks.drop ((fA L ks).idxOf v)) b/\(fA L ks).idxOf v<ks.length
 |[],a,b,_,hv=>by simp[fA]at hv
 |k::r,a,b,h,hv=>by
  rw[h.Nd]at hv ⊢;have h0:=h;obtain⟨c,m,e,h⟩:=h;by_cases z:a=v
  .subst z;rw[List.idxOf_cons_self];exact⟨rfl,h0,by simp⟩
  .have hv':v∈fA L r:=by
    rcases Oj.mp hv with q|q
    .exact absurd q.symm z
    .exact q
   obtain⟨h1,h2,h3⟩:=h.cut hv';have ei:(a::fA L r).idxOf v=(fA L r).idxOf v+1:=by
    rw[Wv];have:(a == v)=ZD:=by rw[beq_eq_false_iff_ne];exact z
    rw[this];rfl
   rw[ei];exact⟨⟨c,m,e,h1⟩,h2,by simpa using h3⟩
structure Kept (L:df ν)(S:List ν)(b:cp ν):Prop where
 walk:∀v d w,b v=ZA (d,w)->∃s∈S,Ch L s w v/\eR L w=d/\v∉fA L w/\(fA L w).Nodup/\∀p q u,w=p++q->Ch L s p u->∃d' w',b u=ZA (d',w')/\d'<=eR L p
 start:∀s∈S,∃d w,b s=ZA (d,w)/\d<=0
theorem Kept.put{L:df ν}{S:List ν}{b:cp ν}(K:Kept L S b){a c:ν}(e:L[k]?=ZA (a,c,m))(ha:b a=ZA (d,w))(hb:eG b c (d+m)=ZC)(hn:c∉fA L (w++[k])):
  Kept L S (put b c (d+m,w++[k])):=by
 have low:∀u d' w',b u=ZA (d',w')->∃d'' w'',Gr.put b c (d+m,w++[k]) u=ZA (d'',w'')/\d''<=d':=λu d' w' h=>by
  by_cases z:u=c
  .subst z;refine⟨_,_,ee,?_⟩;unfold eG at hb;rw[h]at hb;have:=of_decide_eq_true hb;omega
  .exact⟨d',w',by rw[kG z];exact h,UP _⟩
 obtain⟨s,hs,h1,h2,h3,h4,h5⟩:=K.walk a d w ha;have hch:Ch L s (w++[k]) c:=h1.snoc e;have hcost:eR L (w++[k])=d+m:=by rw[lP,h2,eR,eR,most,e];simp
 refine⟨λv d' w' h=>?_,λs' hs'=>?_⟩
 .by_cases z:v=c
  .subst z;rw[ee]at h;cases h;refine⟨s,hs,hch,hcost,hn,?_,λp q u hpq hp=>?_⟩
   .rw[sZ,sY e];exact Pc.mpr ⟨h4,by simp,λx hx y hy=>by simp at hy;subst hy;exact λz=>h3 (z▸hx)⟩
   .by_cases hq:q=[]
    .subst hq;rw[OS]at hpq;subst hpq;have:u=v:=by
      clear low hb hn h5;have aux:∀{ks:List Nat}{x y z:ν},Ch L x ks y->Ch L x ks z->y=z:=by
       intro ks;induction ks with
       |nil=>intro x y z h1 h2;cases h1;cases h2;rfl
       |cons k r ih=>
        rintro x y z ⟨c1,m1,e1,r1⟩ ⟨c2,m2,e2,r2⟩;rw[e1]at e2;cases e2;exact ih r1 r2
      exact aux hp hch
     subst this;exact⟨_,_,ee,by rw[hcost];exact UP _⟩
    .have hw:∃q',w=p++q':=by refine⟨q.dropLast,?_⟩;have:=congrArg List.dropLast hpq;rw[List.dropLast_concat,List.dropLast_append_of_ne_nil hq]at this;exact this
     obtain⟨q',hw⟩:=hw;obtain⟨d1,w1,e1,l1⟩:=h5 p q' u hw hp;obtain⟨d2,w2,e2,l2⟩:=low u d1 w1 e1;exact⟨d2,w2,e2,by omega⟩
  .rw[kG z]at h;obtain⟨s',hs',g1,g2,g3,g4,g5⟩:=K.walk v d' w' h;refine⟨s',hs',g1,g2,g3,g4,λp q u hpq hp=>?_⟩;obtain⟨d1,w1,e1,l1⟩:=g5 p q u hpq hp;obtain⟨d2,w2,e2,l2⟩:=low u d1 w1 e1;exact⟨d2,w2,e2,by omega⟩
 .obtain⟨d1,w1,e1,l1⟩:=K.start s' hs';obtain⟨d2,w2,e2,l2⟩:=low s' d1 w1 e1;exact⟨d2,w2,e2,by omega⟩
def Bar(L:df ν)(q:List Nat):Prop:=q≠ []/\(∃a,Ch L a q a)/\eR L q<0/\(fA L q).Nodup
theorem Ch.Nv{L:df ν}:∀{ks:List Nat}{a b:ν}(i:Nat),Ch L a ks b->fA L (ks.drop i)=(fA L ks).drop i
 |[],_,_,i,_=>by simp[fA]
 |k::r,a,b,0,_=>rfl
 |k::r,a,b,i+1,h=>by have:=h;obtain⟨c,m,e,h'⟩:=this;rw[h.Nd,US,US,h'.Nv i]
def Kept.round{L:df ν}{S:List ν}{b:cp ν}(K:Kept L S b){a c:ν}(e:L[k]?=ZA (a,c,m))(ha:b a=ZA (d,w))(hb:eG b c (d+m)=ZC)(hn:c∈fA L (w++[k])):
  Bar L ((w++[k]).drop ((fA L (w++[k])).idxOf c)):=by
 obtain⟨s,hs,h1,h2,h3,h4,h5⟩:=K.walk a d w ha;have hch:Ch L s (w++[k]) c:=h1.snoc e;have hcost:eR L (w++[k])=d+m:=by rw[lP,h2,eR,eR,most,e];simp
 obtain⟨c1,c2,c3⟩:=hch.cut hn;generalize hi:(fA L (w++[k])).idxOf c=i at c1 c2 c3;refine⟨λz=>?_,⟨c,c2⟩,?_,?_⟩
 .have:=congrArg QQ z;rw[QC]at this;simp at this c3;omega
 .have hsum:eR L ((w++[k]).take i)+eR L ((w++[k]).drop i)=d+m:=by rw[<-lP,Uj,hcost]
  have hiw:i<=w.length:=by simp at c3;omega
  have ht:(w++[k]).take i=w.take i:=by rw[List.take_append_of_le_length hiw]
  rw[ht]at c1 hsum;obtain⟨d1,w1,e1,l1⟩:=h5 (w.take i) (w.drop i) c (Uj i w).symm c1;unfold eG at hb;rw[e1]at hb;have:=of_decide_eq_true hb;simp only at this;omega
 .rw[hch.Nv,sZ,sY e];refine(Vy _ _).nodup (Pc.mpr ⟨h4,by simp,λx hx y hy=>?_⟩);rw[Oi.mp hy];exact λz=>h3 (by have z:x=a:=z;rw[<-z];exact hx)
noncomputable def size(L:df ν):Nat:=(L.map λx=>x.2.2.natAbs).sum
theorem kj{f:Nat->Nat}:∀{ks rs:List Nat},ks.Nodup->(∀k∈ks,k∈rs)->(ks.map f).sum<=(rs.map f).sum
 |[],rs,_,_=>by simp
 |k::ks,rs,hn,hs=>by
  have hk:k∈rs:=hs k Oe;rw[O4]at hn;have hp:=List.perm_cons_erase hk;have e:(rs.map f).sum=f k+((rs.erase k).map f).sum:=by have:=(hp.map f).sum_nat;rwa [Of,Ql]at this
  rw[e,Of,Ql];have:=kj (f:=f) hn.2 (rs:=rs.erase k) λj hj=>by have h1:=hs j (N8 _ hj);exact(UC (λ(z:j=k)=>hn.1 (z▸hj))).mpr h1
  omega
def wY(L:df ν):size L=((PJ L.length).map λk=>(most L k).natAbs).sum:=by
 unfold size;congr 1;apply List.ext_getElem
 .simp
 .intro i h1 h2;simp only[Sy,List.getElem_range];unfold most;rw[OA (by simpa using h1)]
theorem zR(L:df ν):∀(ks:List Nat),(eR L ks).natAbs<=(ks.map λk=>(most L k).natAbs).sum
 |[] =>by simp[eR]
 |k::r=>by have:=zR L r;rw[eR,Of,Ql];omega
theorem Ch.nodup{L:df ν}:∀{ks:List Nat}{a b:ν},Ch L a ks b->(fA L ks).Nodup->ks.Nodup
 |[],_,_,_,_=>Rf
 |k::r,a,b,h,hn=>by have h0:=h;rw[h.Nd,O4]at hn;obtain⟨c,m,e,h⟩:=h;rw[O4];refine⟨λhk=>hn.1 ?_,h.nodup hn.2⟩;unfold fA src;exact Te.mpr ⟨k,hk,by rw[e];rfl⟩
def Ch.small{L:df ν}{a b:ν}(h:Ch L a ks b)(hn:(fA L ks).Nodup):(eR L ks).natAbs<=size L:=by rw[wY];exact OV (zR L ks) (kj (h.nodup hn) λk hk=>PZ.mpr (h.lt k hk))
noncomputable def val(M:Nat)(b:cp ν)(v:ν):Nat:=match b v with
 |none=>2*M+1
 |some x=>(x.1+M).toNat
noncomputable def left(M:Nat)(b:cp ν)(L:df ν):Nat:=(L.map λx=>val M b x.2.1).sum
theorem zk{b b':cp ν}:∀{L:df ν},(∀x∈L,val M b' x.2.1<=val M b x.2.1)->left M b' L<=left M b L
 |[],_=>by simp[left]
 |x::L,h=>by have h1:=h x Oe;have h2:=zk (L:=L) λy hy=>h y (N8 _ hy);unfold left at h2 ⊢;rw[Of,Ql,Of,Ql];omega
theorem zj{b b':cp ν}{x:ν×ν×Int}:∀{L:df ν},x∈L->(∀x∈L,val M b' x.2.1<=val M b x.2.1)->val M b' x.2.1<val M b x.2.1->left M b' L<left M b L
 |[],hx,_,_=>by simp at hx
 |y::L,hx,h,hl=>by
  have h1:=h y Oe;have h2:=zk (L:=L) λy hy=>h y (N8 _ hy);unfold left at h2 ⊢;rw[Of,Ql,Of,Ql];rcases Oj.mp hx with rfl|hx
  .omega
  .have h3:=zj (L:=L) hx (λy hy=>h y (N8 _ hy)) hl;unfold left at h3;omega
def CJ{L:df ν}{S:List ν}{b:cp ν}(K:Kept L S b){a c:ν}(e:L[k]?=ZA (a,c,m))(ha:b a=ZA (d,w))(hb:eG b c (d+m)=ZC)(hn:c∉fA L (w++[k])):
  left (size L) (put b c (d+m,w++[k])) L<left (size L) b L:=by
 have K':=K.put e ha hb hn;obtain⟨s,hs,h1,h2,h3,h4,h5⟩:=K'.walk c (d+m) (w++[k]) ee;have sm:=h1.small h4;rw[h2]at sm;have lt:val (size L) (put b c (d+m,w++[k])) c<val (size L) b c:=by
  unfold val eG at*;rw[ee];cases z:b c with
  |none=>simp only;omega
  |some y=>
   rw[z]at hb;have hb:=of_decide_eq_true hb;simp only;omega
 refine zj (x:=(a,c,m)) (QY e) (λy _=>?_) lt;by_cases z:y.2.1=c
 .rw[z];exact Qi lt
 .unfold val;rw[kG z];exact On _
def D8(b:cp ν)(x:ν×ν×Int):Prop:=∀d w,b x.1=ZA (d,w)->∃d' w',b x.2.1=ZA (d',w')/\d'<=d+x.2.2
def BB{b:cp ν}{x:ν×ν×Int}(h:∀d w,b x.1=ZA (d,w)->eG b x.2.1 (d+x.2.2)=ZD):D8 b x:=λd w e=>by
 have:=h d w e;unfold eG at this;cases z:b x.2.1 with
 |none=>rw[z]at this;cases this
 |some y=>
  rw[z]at this;have:=of_decide_eq_false this;exact⟨y.1,y.2,rfl,by omega⟩
theorem ja{L:df ν}{S:List ν}:∀(r:df ν)(k:Nat)(b:cp ν)(mv:Bool),L.drop k=r->Kept L S b->match iP L k r b mv with
  |.inr q=>Bar L q
  |.inl (b',mv')=>Kept L S b'/\(mv'=ZD->mv=ZD/\b'=b/\∀x∈r,D8 b x)/\left (size L) b' L<=left (size L) b L/\(mv'=ZC->mv=ZC\/left (size L) b' L<left (size L) b L)
 |[],k,b,mv,_,K=>⟨K,λh=>⟨h,rfl,λx hx=>by simp at hx⟩,On _,λh=>.inl h⟩
 |x::r,k,b,mv,hr,K=>by
  have e:L[k]?=ZA x:=by have:=congrArg (·[0]?) hr;simpa using this
  have hr':L.drop (k+1)=r:=by have:=congrArg (List.drop 1) hr;simpa [List.drop_drop,VL]using this
  rw[iP];obtain⟨a,c,m⟩:=x;unfold hV;cases z:b a with
  |none=>
   simp only[z];have ih:=ja r (k+1) b mv hr' K;revert ih;generalize iP L (k+1) r b mv=R;cases R with
   |inr q=>exact id
   |inl p=>
    obtain⟨b',mv'⟩:=p;rintro ⟨i1,i2,i3,i4⟩;refine⟨i1,λh=>?_,i3,i4⟩;obtain⟨j1,j2,j3⟩:=i2 h;refine⟨j1,j2,λx hx=>?_⟩;rcases Oj.mp hx with rfl|hx
    .intro d w q;rw[z]at q;cases q
    .exact j3 x hx
  |some y=>
   obtain⟨d,w⟩:=y;simp only[z];by_cases hb:eG b c (d+m)=ZC
   .rw[if_pos hb];by_cases hn:c∈fA L (w++[k])
    .rw[if_pos hn];exact K.round e z hb hn
    .rw[if_neg hn];have K':=K.put e z hb hn;have lt:=CJ K e z hb hn;have ih:=ja r (k+1) (put b c (d+m,w++[k])) ZC hr' K';revert ih;simp only;generalize iP L (k+1) r (put b c (d+m,w++[k])) ZC=R;cases R with
     |inr q=>exact id
     |inl p=>
      obtain⟨b',mv'⟩:=p;rintro ⟨i1,i2,i3,i4⟩;refine⟨i1,λh=>?_,by omega,λ_=>.inr (by omega)⟩;obtain⟨j1,_⟩:=i2 h;cases j1
   .rw[if_neg hb];have ih:=ja r (k+1) b mv hr' K;revert ih;simp only;generalize iP L (k+1) r b mv=R;cases R with
    |inr q=>exact id
    |inl p=>
     obtain⟨b',mv'⟩:=p;rintro ⟨i1,i2,i3,i4⟩;refine⟨i1,λh=>?_,i3,i4⟩;obtain⟨j1,j2,j3⟩:=i2 h;refine⟨j1,j2,λx hx=>?_⟩;rcases Oj.mp hx with rfl|hx
     .refine BB λd' w' q=>?_;simp only at q;rw[z]at q;cases q;simpa using hb
     .exact j3 x hx
structure Settled (L:df ν)(S:List ν)(b:cp ν):Prop where
 walk:∀v d w,b v=ZA (d,w)->∃s∈S,Ch L s w v/\eR L w=d/\v∉fA L w/\(fA L w).Nodup
 least:∀s∈S,∀v t,Wk L s v t->∃d w,b v=ZA (d,w)/\d<=t
def wZ{L:df ν}{S:List ν}{b:cp ν}(K:Kept L S b)(h:∀x∈L,D8 b x):Settled L S b where
 walk:=λv d w e=>by obtain⟨s,h1,h2,h3,h4,h5,_⟩:=K.walk v d w e;exact⟨s,h1,h2,h3,h4,h5⟩
 least:=by
  have go:∀{u v:ν}{t:Int},Wk L u v t->∀d w,b u=ZA (d,w)->∃d' w',b v=ZA (d',w')/\d'<=d+t:=by
   intro u v t hw;induction hw with
   |nil a=>exact λd w e=>⟨d,w,e,by omega⟩
   |step e _ ih=>
    intro d w q;obtain⟨d1,w1,e1,l1⟩:=h _ e d w q;obtain⟨d2,w2,e2,l2⟩:=ih d1 w1 e1;exact⟨d2,w2,e2,by simp only at l1;omega⟩
  intro s hs v t hw;obtain⟨d,w,e,l⟩:=K.start s hs;obtain⟨d2,w2,e2,l2⟩:=go hw d w e;exact⟨d2,w2,e2,by omega⟩
theorem qV{L:df ν}{S:List ν}:∀(n:Nat)(b:cp ν),Kept L S b->left (size L) b L<n->∃r,settle L n b=ZA r/\match r with
  |.inr q=>Bar L q
  |.inl b'=>Settled L S b'
 |0,b,K,h=>by omega
 |n+1,b,K,h=>by
  have s:=ja (S:=S) L 0 b ZD rfl K;rw[settle];revert s;generalize iP L 0 L b ZD=R;cases R with
  |inr q=>exact λs=>⟨_,rfl,s⟩
  |inl p=>
   obtain⟨b',mv'⟩:=p;rintro ⟨i1,i2,i3,i4⟩;cases mv' with
   |false=>
    obtain⟨_,j2,j3⟩:=i2 rfl;subst j2;exact⟨_,rfl,wZ i1 j3⟩
   |true=>
    rcases i4 rfl with z|z
    .cases z
    .exact qV n b' i1 (by omega)
noncomputable def start(S:List ν):cp ν:=λv=>if v∈S then ZA (0,[])else ZB
def pJ(L:df ν)(S:List ν):Kept L S (start S) where
 walk:=λv d w e=>by
  unfold start at e;split at e
  .rename_i h;cases e;refine⟨v,h,rfl,rfl,by simp[fA],by simp[fA],λp q u hpq hp=>?_⟩;obtain⟨rfl,rfl⟩:=List.append_eq_nil_iff.mp hpq.symm;cases hp;exact⟨0,[],by unfold start;rw[if_pos h],by simp[eR]⟩
  .cases e
 start:=λs hs=>⟨0,[],by unfold start;rw[if_pos hs],UP _⟩
def CK(L:df ν)(S:List ν):left (size L) (start S) L<=L.length*(2*size L+1):=by
 unfold left;have:∀M:df ν,(M.map λx=>val (size L) (start S) x.2.1).sum<=M.length*(2*size L+1):=by
  intro M;induction M with
  |nil=>simp
  |cons x M ih=>
   rw[Of,Ql,Og,Nat.succ_mul];have:val (size L) (start S) x.2.1<=2*size L+1:=by
    unfold val start;split
    .exact On _
    .rename_i h;split at h
     .cases h;simp;omega
     .cases h
   omega
 exact this L
theorem w4(L:df ν)(S:List ν)(h:L.length*(2*size L+1)<n):∃r,settle L n (start S)=ZA r/\match r with
  |.inr q=>Bar L q
  |.inl b'=>Settled L S b':=qV n (start S) (pJ L S) (Rl (CK L S) h)
def Bar.neg{L:df ν}{q:List Nat}(h:Bar L q):¬ gC L:=λn=>by obtain⟨_,⟨a,ha⟩,hc,_⟩:=h;have:=n a _ ha.wk;omega
def Settled.holds{L:df ν}{S:List ν}{b:cp ν}(h:Settled L S b)(hS:∀x∈L,x.1∈S/\x.2.1∈S){t:ν->Int}(ht:∀v∈S,∃w,b v=ZA (t v,w)):Holds L t:=λa c m hx=>by obtain⟨ha,hc⟩:=hS _ hx;obtain⟨w,e⟩:=ht a ha;obtain⟨s,hs,h1,h2,_⟩:=h.walk a _ _ e;obtain⟨d,w',e',l⟩:=h.least s hs c _ (h1.wk.app (.one hx));obtain⟨w2,e2⟩:=ht c hc;rw[e2]at e';cases e';omega
abbrev yf(ν:Type):=ν->ν->Option Int
noncomputable def Mx(f:yf ν)(a b:ν)(x:Int):yf ν:=λu v=>if u=a/\v=b then ZA x else f u v
noncomputable def MD(f:yf ν)(a b:ν)(x:Int):yf ν:=match f a b with
 |none=>Mx f a b x
 |some y=>if x<y then Mx f a b x else f
noncomputable def Mw(mid one other:ν)(f:yf ν):yf ν:=match f one mid,f mid other with
 |some x,ZA y=>MD f one other (x+y)
 |_,_=>f
noncomputable def tab0(P:List ν):yf ν:=λu v=>if u∈P/\u=v then ZA 0 else ZB
noncomputable def tab1(P:List ν)(L:df ν):yf ν:=L.foldl (λf x=>MD f x.1 x.2.1 x.2.2) (tab0 P)
noncomputable def Gm(mid one:ν)(P:List ν)(f:yf ν):yf ν:=P.foldl (λf other=>Mw mid one other f) f
noncomputable def My(mid:ν)(Q P:List ν)(f:yf ν):yf ν:=Q.foldl (λf one=>Gm mid one P f) f
noncomputable def MC(M P:List ν)(f:yf ν):yf ν:=M.foldl (λf mid=>My mid P P f) f
noncomputable def table(P:List ν)(L:df ν):yf ν:=MC P P (tab1 P L)
end Gr
variable{j:Int}
namespace G
open PySem Tr
noncomputable def isI:T->Bool
 |.int _=>ZC
 |_=>ZD
def Gu(t:T)(h:t.pl=ZC):iA [t]=.ok (.bl (isI t)):=by cases t <;> first|rfl| (simp[T.pl]at h;done)
noncomputable def a6(t:T)(a b:Int):Bool:=match t with
 |.int i=>decide (a<=i)&&decide (i<=b)
 |_=>ZD
def eF(t:T)(a b:Int)(h:t.pl=ZC):a8 [t,.int a,.int b]=.ok (.bl (a6 t a b)):=by
 refine Eq.trans (?_:_=.ok (.bl (isI t&&a6 t a b))) (by cases t <;> rfl);refine a0 rfl (bH (lH (aH rfl (Gu t h)) λq=>?_));cases t with
 |int i=>
  show(match T.bl (decide (a<=i))with|.bl ZC=>Rs.ok (T.bl (decide (i<=b)))|.bl ZD=>.ok (.bl ZD)|_=>.bad)=Rs.ok (T.bl (decide (a<=i)&&decide (i<=b)));cases decide (a<=i) <;> rfl
 |_=>cases q
noncomputable def dt(t:T)(a b:Nat):Bool:=match t with
 |.tup l=>decide (a<=l.length)&&decide (l.length<=b)
 |_=>ZD
def kO(t:T)(a b:Nat)(h:t.pl=ZC):aT [t,.int a,.int b]=.ok (.bl (dt t a b)):=by
 cases t with
 |tup l=>
  simp[aT,val,dY,rW,bx,aV,dD,o1,vr,Gj,T.ty,zC,ch,cl,ae,aj,cS,T.items,x5,dt];cases decide (a<=l.length) <;> rfl
 |scr _=>simp[T.pl]at h
 |dct _ _=>simp[T.pl]at h
 |ob _ _ _=>simp[T.pl]at h
 |_=>rfl
noncomputable def qu(x y:T):Bool:=a6 x 1 9&&(match x with
 |.int i=>a6 y i 9
 |_=>ZD)
def Kb(x y:T)(hx:x.pl=ZC)(hy:y.pl=ZC):jY [x,y]=.ok (.bl (qu x y)):=
 a0 rfl (bH (lH (aH rfl (eF x 1 9 hx)) λq=>by
  cases x with
  |int i=>exact aH rfl (eF y i 9 hy)
  |_=>cases q))
noncomputable def qe:List Int->Bool
 |a::b::r=>decide (a<b)&&qe (b::r)
 |_=>ZC
def La(a b:Int)(r:List Int):qe (a::b::r)=(decide (a<b)&&qe (b::r)):=rfl
variable{Z:En}{l:List T}
def uv{fe:W5}{p:T->Bool}{fi:W3}{src:List (Option Nat)}(hi:fi Z=.ok l)(hs:l.length<=ZI)(hn:0<src.length)(hf:∀t∈l,fe ((bF src Z).set 0 (.va t))=.ok (.bl (p t))):
  cl qL (ae (fE fi src (gN 0) bT fe) aj) Z=.ok (.bl (l.all p)):=by
 have e:=xH l (bF src Z) (by unfold bF;rw[Oa];exact hn) hf;simp only[cl,ae,aj,fE,hi,ax,if_pos hs,e,all_map]
noncomputable def mr(l:List T):T->Bool
 |.int k=>match L2.atI l k,L2.atI l (k+1)with
  |some (.int a),ZA (.int b)=>decide (a<b)
  |_,_=>ZD
 |_=>ZD
def ir{t:T}(h:t∈rng 0 j):∃k:Nat,t=.int k/\(k:Int)<j:=by unfold rng at h;obtain⟨k,hk,e⟩:=OJ.mp h;rw[PZ]at hk;exact⟨k,by rw[<-e];simp,by omega⟩
theorem Ih:(l:List Int)->l.length<=4->(rng 0 ((l.length:Int) - 1)).all (mr (l.map .int))=qe l
 |[],_=>rfl
 |[a],_=>rfl
 |[a,b],_=>by simp[rng,Uk,mr,L2.atI,L2.ixN,qe]
 |[a,b,c],_=>by simp[rng,Uk,mr,L2.atI,L2.ixN,qe]
 |[a,b,c,d],_=>by simp[rng,Uk,mr,L2.atI,L2.ixN,qe,Bool.and_assoc]
 |a::b::c::d::e::r,h=>absurd h (by simp only[Og];omega)
def Gx(l:List Int)(h:l.length<=4):jX [.tup (l.map .int)]=.ok (.bl (qe l)):=by
 have hr:iR (ae (o2 jb (cl cS (ae (vr 0) aj)) (cn (.int 1))) aj) [.va (.tup (l.map .int))]=.ok (rng 0 ((l.length:Int) - 1)):=by
  have:xR ((l.length:Int) - 1)=ZC:=by unfold xR;rw[Oc];exact⟨decide_eq_true (by omega),decide_eq_true (by omega)⟩
  simp[iR,ae,aj,o2,cl,vr,cn,cS,T.items,jb,this]
 have hs:(rng 0 ((l.length:Int) - 1)).length<=ZI:=by unfold rng ZI;rw[Oa,Qo];omega
 have e:=uv (fe:=o2 F4 (o2 aR (vr 1) (vr 0)) (o2 aR (vr 1) (o2 aQ (vr 0) (cn (.int 1))))) (p:=mr (l.map .int)) (src:=[ZB,ZA 0]) hr hs (by decide) (λt ht=>by
  obtain⟨k,rfl,hk⟩:=ir ht;have h1:(l.map T.int)[k]?=ZA (.int (l[k]'(by omega))):=by simp
  have h2:(l.map T.int)[k+1]?=ZA (.int (l[k+1]'(by omega))):=by rw[OH,OA (by omega)];rfl
  have g1:=kR h1;have g2:L2.atI (l.map T.int) ((k:Int)+1)=ZA (.int (l[k+1]'(by omega))):=kR h2;simp[o2,vr,bF,cn,aQ,aR,T.items,g1,g2,x5,mr])
 rw[Ih l h]at e;simp only[jX,val,Pl,if_true,z4,dY,aV,bx];show(do let f <-(do let t <-cl qL _ [.va (.tup (l.map .int))];Rs.ok (Fl.rt t));_)=_;rw[e];rfl
noncomputable def nums:List T->Option (List Int)
 |[] =>ZA []
 |.int i::l=>match nums l with
  |some m=>ZA (i::m)
  |none=>ZB
 |_::_=>ZB
noncomputable def dg(t:T):Bool:=dt t 1 4&&(match t with
 |.tup l=>l.all (λu=>a6 u 0 99)&&(match nums l with|some m=>qe m|none=>ZD)
 |_=>ZD)
theorem pf:∀{l:List T}{m:List Int},nums l=ZA m->l=m.map .int
 |[],m,h=>by cases h;rfl
 |t::l,m,h=>by
  cases t with
  |int i=>
   unfold nums at h;cases q:nums l with
   |none=>rw[q]at h;cases h
   |some m'=>rw[q]at h;cases h;rw[Of,<-pf q]
  |_=>cases h
theorem tM:∀{l:List T}{a b:Int},(l.all λu=>a6 u a b)=ZC->∃m,nums l=ZA m
 |[],_,_,_=>⟨[],rfl⟩
 |t::l,a,b,h=>by
  rw[SJ,Oc]at h;cases t with
  |int i=>
   obtain⟨m,e⟩:=tM h.2;exact⟨i::m,by unfold nums;rw[e]⟩
  |_=>exact absurd h.1 (by simp[a6])
def dq{t:T}{b:Nat}(h:dt t a b=ZC):∃l,t=.tup l/\a<=l.length/\l.length<=b:=by
 cases t with
 |tup l=>unfold dt at h;rw[Oc]at h;exact⟨l,rfl,of_decide_eq_true h.1,of_decide_eq_true h.2⟩
 |_=>cases h
def small(h:n<=k)(hk:autoParam (k<=1000) s_):n<=ZI:=by unfold ZI;omega
def xY(t:T)(h:t.pl=ZC):bP [t]=.ok (.bl (dg t)):=by
 have w:aT [t,.int 1,.int 4]=.ok (.bl (dt t 1 4)):=kO t 1 4 h;unfold dg;cases q:dt t 1 4 with
 |false=>rw[q]at w;simp[bP,val,dY,eO,bx,aF,i7,eZ,tb,sN,aV,cl,vr,cn,ae,aj,w]
 |true=>
  rw[q]at w;obtain⟨l,rfl,h1,h2⟩:=dq q;have hp:∀u∈l,u.pl=ZC:=λu hu=>fQ (by unfold T.pl at h;exact h) hu;have e:=uv (fe:=cl a8 (ae (vr 0) (ae (cn (.int 0)) (ae (cn (.int 99)) aj)))) (p:=λu=>a6 u 0 99) (src:=[ZB]) (fi:=iS (vr 0)) (Z:=[.va (.tup l)]) rfl (small h2) (by decide) (λu hu=>by simp[cl,ae,aj,vr,cn,bF,eF u 0 99 (hp u hu)])
  have w':cl aT (ae (vr 0) (ae (cn (.int 1)) (ae (cn (.int 4)) aj))) [.va (.tup l)]=.ok (.bl ZC):=w;show bP _=.ok (.bl (ZC&&(l.all (λu=>a6 u 0 99)&&(match nums l with|some m=>qe m|none=>ZD))));cases qa:l.all λu=>a6 u 0 99 with
  |false=>
   rw[qa]at e;simp[bP,val,dY,eO,bx,aF,i7,eZ,tb,sN,aV,dD,e,w']
  |true=>
   rw[qa]at e;obtain⟨m,em⟩:=tM qa;have el:=pf em;have er:=Gx m (by rw[el,Oa]at h2;exact h2);rw[<-el]at er;have er':cl jX (ae (vr 0) aj) [.va (.tup l)]=.ok (.bl (qe m)):=er;simp[bP,val,dY,eO,bx,aF,i7,eZ,tb,sN,aV,dD,e,w',er',em]
noncomputable def at_(t:T)(k:Nat):T:=match t.items with
 |some l=>l.getD k .non
 |none=>.non
noncomputable def bj(t:T):Bool:=dt t 3 3&&(match t with
 |.tup [x,y,r] =>qu x y&&dg r
 |_=>ZD)
def GA(t:T)(h:t.pl=ZC):dj [t]=.ok (.bl (bj t)):=by
 have w:aT [t,.int 3,.int 3]=.ok (.bl (dt t 3 3)):=kO t 3 3 h;unfold bj;cases q:dt t 3 3 with
 |false=>rw[q]at w;simp[dj,val,dY,iJ,bx,aV,dD,cl,vr,cn,ae,aj,w]
 |true=>
  rw[q]at w;obtain⟨l,rfl,h1,h2⟩:=dq q
  match l,h1,h2 with
  |[x,y,r],_,_=>
   simp[T.pl,plS]at h;obtain⟨px,py,pr⟩:=h;have g0:aR (.tup [x,y,r]) (.int 0)=.ok x:=rfl;have g1:aR (.tup [x,y,r]) (.int 1)=.ok y:=rfl;have g2:aR (.tup [x,y,r]) (.int 2)=.ok r:=rfl;have ep:=Kb x y px py;have er:=xY r pr;cases qp:qu x y with
   |false=>rw[qp]at ep;simp[dj,val,dY,iJ,bx,aV,dD,cl,vr,cn,ae,aj,o2,w,g0,g1,ep,qp]
   |true=>rw[qp]at ep;simp[dj,val,dY,iJ,bx,aV,dD,cl,vr,cn,ae,aj,o2,w,g0,g1,g2,ep,er,qp]
noncomputable def aX(t:T):Bool:=dt t 1 4&&(match t with
 |.tup l=>l.all bj
 |_=>ZD)
def DC(t:T)(h:t.pl=ZC):dz [t]=.ok (.bl (aX t)):=by
 have w:aT [t,.int 1,.int 4]=.ok (.bl (dt t 1 4)):=kO t 1 4 h;unfold aX;cases q:dt t 1 4 with
 |false=>rw[q]at w;simp[dz,val,dY,iK,bx,aV,dD,cl,vr,cn,ae,aj,w]
 |true=>
  rw[q]at w;obtain⟨l,rfl,h1,h2⟩:=dq q;have hp:∀u∈l,u.pl=ZC:=λu hu=>fQ (by unfold T.pl at h;exact h) hu;have e:=uv (fe:=cl dj (ae (vr 0) aj)) (p:=bj) (src:=[ZB]) (fi:=iS (vr 0)) (Z:=[.va (.tup l)]) rfl (small h2) (by decide) (λu hu=>by simp[cl,ae,aj,vr,cn,bF,GA u (hp u hu)])
  have w':cl aT (ae (vr 0) (ae (cn (.int 1)) (ae (cn (.int 4)) aj))) [.va (.tup l)]=.ok (.bl ZC):=w;simp[dz,val,dY,iK,bx,aV,dD,e,w']
noncomputable def dN(x y:T):Bool:=a6 x 0 999&&(match x,y with
 |_,.non=>ZC
 |.int i,_=>a6 y i 999
 |_,_=>ZD)
def Gz(x y:T)(hx:x.pl=ZC)(hy:y.pl=ZC):iB [x,y]=.ok (.bl (dN x y)):=
 a0 rfl (bH (lH (aH rfl (eF x 0 999 hx)) λq=>by
  cases x with
  |int i=>
   refine Eq.trans (JR (aJ rfl rfl rfl) λ_=>aH rfl (eF y i 999 hy)) ?_;cases y <;> rfl
  |_=>cases q))
noncomputable def reads(cs:List T)(c:Int):Nat:=if 0<=c then(match cs[c.toNat]? with
 |some (.tup [_,_,.tup r])=>r.length
 |_=>0)else 0
noncomputable def aw(cs:List T)(t:T):Bool:=match t with
 |.tup [.int c,.int k] =>decide (0<=c)&&decide (c<cs.length)&&(decide (0<=k)&&decide (k<reads cs c))
 |_=>ZD
def mW{t:T}(h:bj t=ZC):∃x y r,t=.tup [x,y,.tup r]:=by
 unfold bj at h;rw[Oc]at h;obtain⟨h1,h2⟩:=h;obtain⟨l,rfl,h3,h4⟩:=dq h1
 match l,h3,h4,h2 with
 |[x,y,r],_,_,h2=>
  simp only[Oc]at h2;obtain⟨_,h5⟩:=h2;unfold dg at h5;rw[Oc]at h5;obtain⟨m,rfl,_⟩:=dq h5.1;exact⟨x,y,m,rfl⟩
def cJ{t:T}{a b:Int}(h:a6 t a b=ZC):∃i,t=.int i/\a<=i/\i<=b:=by
 cases t with
 |int i=>unfold a6 at h;rw[Oc]at h;exact⟨i,rfl,of_decide_eq_true h.1,of_decide_eq_true h.2⟩
 |_=>cases h
def uf(cs:List T)(t:T)(hc:aX (.tup cs)=ZC)(h:t.pl=ZC):dQ [.tup cs,t]=.ok (.bl (aw cs t)):=by
 have w:aT [t,.int 2,.int 2]=.ok (.bl (dt t 2 2)):=kO t 2 2 h;cases q:dt t 2 2 with
 |false=>
  rw[q]at w;have:aw cs t=ZD:=by
   unfold aw;split
   .cases q
   .rfl
  rw[this];exact a0 rfl (gH ((eU (zu (fN (bW (aH rfl w))))).trans rfl))
 |true=>
  rw[q]at w;obtain⟨l,rfl,h1,h2⟩:=dq q
  match l,h1,h2 with
  |[x,y],_,_=>
   simp[T.pl,plS]at h;obtain⟨px,py⟩:=h;have g0:aR (.tup [x,y]) (.int 0)=.ok x:=rfl;have g1:aR (.tup [x,y]) (.int 1)=.ok y:=rfl;have gl:cS [.tup cs]=.ok (.int cs.length):=rfl;have e1:=eF x 0 ((cs.length:Int) - 1) px;cases q1:a6 x 0 ((cs.length:Int) - 1)with
   |false=>
    rw[q1]at e1;have:aw cs (.tup [x,y])=ZD:=by
     cases x with
     |int c=>
      cases y with
      |int k=>
       simp only[a6,Ul,decide_eq_false_iff_not]at q1;simp only[aw,Ul,decide_eq_false_iff_not];omega
      |_=>rfl
     |_=>rfl
    rw[this];exact a0 rfl (gH ((eU (rq (fN (bW (aH rfl w))) (fN (bW (aH rfl e1))))).trans rfl))
   |true=>
    rw[q1]at e1;obtain⟨c,rfl,c1,c2⟩:=cJ q1;obtain⟨n,rfl⟩:=OP c1;have hn:n<cs.length:=by omega
    have hcl:bj cs[n]=ZC:=by unfold aX at hc;rw[Oc]at hc;exact OQ.mp hc.2 _ (Pp hn)
    obtain⟨a,b,r,er⟩:=mW hcl;have g2:aR (.tup cs) (.int (n:Int))=.ok (.tup [a,b,.tup r]):=by simp only[aR,T.items];rw[kR (OA hn),er]
    have g3:aR (.tup [a,b,.tup r]) (.int 2)=.ok (.tup r):=rfl;have gr:cS [.tup r]=.ok (.int r.length):=rfl;have e2:=eF y 0 ((r.length:Int) - 1) py;have:aw cs (.tup [.int n,y])=a6 y 0 ((r.length:Int) - 1):=by
     have er2:reads cs (n:Int)=r.length:=by unfold reads;rw[if_pos c1,Qa,OA hn,er]
     cases y with
     |int k=>
      simp only[aw,a6,er2];rw[decide_eq_true c1,decide_eq_true (show(n:Int)<cs.length by omega)];simp only[Ry];congr 1;exact decide_eq_decide.mpr (by omega)
     |_=>rfl
    rw[this];exact a0 rfl ((aB ((eE (rq (fN (bW (aH rfl w))) (fN (bW (aH rfl e1))))).trans rfl)).trans (bH (aH (ar rfl (ar rfl (ar (aJ (aH (ar (aJ (aJ rfl rfl g2) rfl g3) rfl) rfl) rfl rfl) rfl))) e2)))
noncomputable def bp(cs:List T)(t:T):Bool:=match t with
 |.tup [a,b,x,y] =>dN x y&&(aw cs a&&(aw cs b&& !aW a b))
 |_=>ZD
variable{cs:List T}
def aK{t:T}(h:aw cs t=ZC):∃c k:Int,t=.tup [.int c,.int k]:=by
 unfold aw at h;split at h
 .exact⟨_,_,rfl⟩
 .cases h
def Dx(cs:List T)(t:T)(hc:aX (.tup cs)=ZC)(h:t.pl=ZC):fB [.tup cs,t]=.ok (.bl (bp cs t)):=by
 have w:aT [t,.int 4,.int 4]=.ok (.bl (dt t 4 4)):=kO t 4 4 h;cases q:dt t 4 4 with
 |false=>
  rw[q]at w;have:bp cs t=ZD:=by
   unfold bp;split
   .cases q
   .rfl
  rw[this];exact a0 rfl (gH ((eU (zu (fN (bW (aH rfl w))))).trans rfl))
 |true=>
  rw[q]at w;obtain⟨l,rfl,h1,h2⟩:=dq q
  match l,h1,h2 with
  |[a,b,x,y],_,_=>
   simp[T.pl,plS]at h;obtain⟨pa,pb,px,py⟩:=h;have e1:=Gz x y px py;have w':=fN (bW (aH (fs:=ae (vr 1) (ae (cn (.int 4)) (ae (cn (.int 4)) aj))) (Z:=[.va (.tup cs),.va (.tup [a,b,x,y])]) rfl w));show _=Rs.ok (T.bl (dN x y&&(aw cs a&&(aw cs b&& !aW a b))));cases q1:dN x y with
   |false=>
    rw[q1]at e1;exact a0 rfl (gH ((eU (rq w' (fN (bW (aH rfl e1))))).trans rfl))
   |true=>
    rw[q1]at e1;rw[Ry];refine a0 rfl ((aB ((eE (rq w' (fN (bW (aH rfl e1))))).trans rfl)).trans (bH (lH (aH rfl (uf cs a hc pa)) λq2=>lH (aH rfl (uf cs b hc pb)) λ_=>aJ rfl rfl ?_)));obtain⟨c,k,rfl⟩:=aK q2;unfold wG;rw[if_pos (ib (by simp[T.dep,deps]) rfl (T.KM _ pb))]
noncomputable def jZ(cs:List T)(t:T):Bool:=dt t 0 8&&(match t with
 |.tup l=>l.all (bp cs)
 |_=>ZD)
def AV(cs:List T)(t:T)(hc:aX (.tup cs)=ZC)(h:t.pl=ZC):c9 [.tup cs,t]=.ok (.bl (jZ cs t)):=by
 have w:aT [t,.int 0,.int 8]=.ok (.bl (dt t 0 8)):=kO t 0 8 h;unfold jZ;cases q:dt t 0 8 with
 |false=>rw[q]at w;simp[c9,val,dY,gM,bx,aV,dD,cl,vr,cn,ae,aj,w]
 |true=>
  rw[q]at w;obtain⟨l,rfl,h1,h2⟩:=dq q;have hp:∀u∈l,u.pl=ZC:=λu hu=>fQ (by unfold T.pl at h;exact h) hu;have e:=uv (fe:=cl fB (ae (vr 1) (ae (vr 0) aj))) (p:=bp cs) (src:=[ZB,ZA 0]) (fi:=iS (vr 1)) (Z:=[.va (.tup cs),.va (.tup l)]) rfl (small h2) (by decide) (λu hu=>by simp[cl,ae,aj,vr,cn,bF,Dx cs u hc (hp u hu)])
  have w':cl aT (ae (vr 1) (ae (cn (.int 0)) (ae (cn (.int 8)) aj))) [.va (.tup cs),.va (.tup l)]=.ok (.bl ZC):=w;simp[c9,val,dY,gM,bx,aV,dD,e,w']
noncomputable def dA(t:T):Bool:=match t with
 |.tup [.tup cs,ls] =>aX (.tup cs)&&jZ cs ls
 |_=>ZD
def v3(t:T)(h:t.pl=ZC):gu [t]=.ok (.bl (dA t)):=by
 have w:aT [t,.int 2,.int 2]=.ok (.bl (dt t 2 2)):=kO t 2 2 h;cases q:dt t 2 2 with
 |false=>
  rw[q]at w;have:dA t=ZD:=by
   unfold dA;split
   .cases q
   .rfl
  rw[this];exact a0 rfl (bH (tW (aH rfl w)))
 |true=>
  rw[q]at w;obtain⟨l,rfl,h1,h2⟩:=dq q
  match l,h1,h2 with
  |[x,y],_,_=>
   simp[T.pl,plS]at h;obtain⟨px,py⟩:=h;have g0:aR (.tup [x,y]) (.int 0)=.ok x:=rfl;have g1:aR (.tup [x,y]) (.int 1)=.ok y:=rfl;have e1:=DC x px;cases q1:aX x with
   |false=>
    rw[q1]at e1;have:dA (.tup [x,y])=ZD:=by
     cases x with
     |tup cs=>show(aX (.tup cs)&&_)=ZD;rw[q1];rfl
     |_=>rfl
    rw[this];exact a0 rfl (bH ((tY (aH rfl w)).trans (tW (aH rfl e1))))
   |true=>
    rw[q1]at e1;cases x with
    |tup cs=>
     have e2:=AV cs y q1 py;have:dA (.tup [.tup cs,y])=jZ cs y:=by show(aX (.tup cs)&&_)=_;rw[q1];rfl
     rw[this];exact a0 rfl (bH ((tY (aH rfl w)).trans ((tY (aH rfl e1)).trans (aH rfl e2))))
    |_=>cases q1
theorem fT:∀m:List Int,deps (m.map .int)=0
 |[] =>rfl
 |a::m=>by rw[Of,deps,fT m];rfl
noncomputable def kg(i n:Nat):List T:=(rng 0 n).map λt=>T.tup [.int i,t]
noncomputable def G9:T->Nat
 |.tup [_,_,.tup r] =>r.length
 |_=>0
noncomputable def b8:Nat->List T->List T
 |_,[] =>[]
 |i,c::r=>kg i (G9 c)++b8 (i+1) r
def gB{t:T}(h:bj t=ZC):∃x y r,t=.tup [x,y,.tup r]/\1<=r.length/\r.length<=4:=by
 obtain⟨x,y,r,rfl⟩:=mW h;have:dg (.tup r)=ZC:=by have h':(qu x y&&dg (.tup r))=ZC:=h;rw[Oc]at h';exact h'.2
 unfold dg at this;rw[Oc]at this;obtain⟨l,e,h1,h2⟩:=dq this.1;cases e;exact⟨x,y,r,rfl,h1,h2⟩
def jA(i n:Nat):(kg i n).length=n:=by unfold kg;rw[Oa,iu]
noncomputable abbrev evG:T->En->Rs En:=gT 2 (vP (gN 2) (vP (gN 3) Ek))
def Gk{f:W3}(h:f Z=.ok [.int j])(h0:0<=j)(h1:j<=100000):iR f Z=.ok (rng 0 j):=by
 have e:xR j=ZC:=by unfold xR;rw[Oc];exact⟨decide_eq_true (by omega),decide_eq_true (by omega)⟩
 unfold iR;rw[h];show(if xR j=ZC then _ else _)=_;rw[e];rfl
def zY(l m:List T)(h:(l++m).length<=1000):aQ (.lst l) (.lst m)=.ok (.lst (l++m)):=by show i0 (l++m)=_;unfold i0;rw[if_pos (aE h)]
def j8(l m:List T)(h:(l++m).length<=1000):aQ (.tup l) (.tup m)=.ok (.tup (l++m)):=by show kr (l++m)=_;unfold kr;rw[if_pos (aE h)]
def MF(c0 acc x y:T)(r:List T)(i:Nat)(h:r.length<=4):
  fE (iR (ae (cl cS (ae (o2 aR (vr 3) (cn (.int 2))) aj)) aj)) [ZB,ZA 2] (gN 0) bT (ba (ae (vr 1) (ae (vr 0) aj))) [.va c0,.va acc,.va (.int i),.va (.tup [x,y,.tup r])]=.ok (.lst (kg i r.length)):=
 nE (Gk rfl (by omega) (by omega)) (aE (by rw[iu];exact h)) (by simp) λt _=>mk2 _ _
def Gp(c0 x y:T)(acc r:List T)(i:Nat)(h:r.length<=4)(ha:acc.length<=100):evF [.va c0,.va (.lst acc),.va (.int i),.va (.tup [x,y,.tup r])]=.ok (.nx [.va c0,.va (.lst (acc++kg i r.length)),.va (.int i),.va (.tup [x,y,.tup r])]):=
 cK (aJ rfl (MF c0 (.lst acc) x y r i h) (zY _ _ (by rw[Oh,jA];omega))) rfl
theorem zJ:∀(cs:List T)(c0:T)(acc:List T)(i:Nat)(s2 s3:Sl),(∀c∈cs,bj c=ZC)->acc.length+4*cs.length<=100 ->
  ∃y2 y3,bq evG evF (dE i cs) [.va c0,.va (.lst acc),s2,s3]=.ok (.nx [.va c0,.va (.lst (acc++b8 i cs)),y2,y3])
 |[],c0,acc,i,s2,s3,_,_=>⟨s2,s3,by simp[dE,bq,b8]⟩
 |c::cs,c0,acc,i,s2,s3,hc,hl=>by obtain⟨x,y,r,rfl,r1,r2⟩:=gB (hc c Oe);rw[Og]at hl;obtain⟨z2,z3,ih⟩:=zJ cs c0 (acc++kg i r.length) (i+1) (.va (.int i)) (.va (.tup [x,y,.tup r])) (λc h=>hc c (N8 _ h)) (by rw[Oh,jA];omega);refine⟨z2,z3,?_⟩;rw[dE,eC rfl (Gp c0 x y acc r i r2 (by omega)),ih,b8,O8];rfl
def bf(hc:aX (.tup cs)=ZC):(∀c∈cs,bj c=ZC)/\1<=cs.length/\cs.length<=4:=by unfold aX at hc;rw[Oc]at hc;obtain⟨l,e,h1,h2⟩:=dq hc.1;cases e;exact⟨λc h=>OQ.mp hc.2 c h,h1,h2⟩
def v5(cs:List T)(hc:aX (.tup cs)=ZC):b7 [.tup cs]=.ok (.lst (b8 0 cs)):=by obtain⟨ha,h1,h2⟩:=bf hc;obtain⟨y2,y3,e⟩:=zJ cs (.tup cs) [] 0 .em .em ha (by simp;omega);rw[Q4]at e;refine a0 rfl ?_;unfold kB;rw[aB (Z':=[.va (.tup cs),.va (.lst []),.em,.em]) rfl,aB ((gA rfl e))];rfl
def zc(h:k<n):T.int (k:Int)∈rng 0 (n:Int):=by unfold rng;exact OJ.mpr ⟨k,PZ.mpr (by omega),by simp⟩
def DX(i n c k:Nat):(kg i n).any (λy=>aW y (.tup [.int c,.int k]))=decide (i=c/\k<n):=by
 rw[Rn,Sz,decide_eq_true_iff];unfold kg;constructor
 .rintro ⟨y,hy,e⟩;obtain⟨t,ht,rfl⟩:=OJ.mp hy;obtain⟨j,rfl,hj⟩:=ir ht;simp[aW,beqTs]at e;omega
 .rintro ⟨rfl,h⟩;exact⟨_,OJ.mpr ⟨.int k,zc h,rfl⟩,by simp[aW,beqTs]⟩
theorem zX:∀(cs:List T)(i c k:Nat),(b8 i cs).any (λy=>aW y (.tup [.int c,.int k]))=decide (i<=c/\c<i+cs.length/\k<G9 (cs.getD (c - i) .non))
 |[],i,c,k=>by rw[b8,List.any_nil,eq_comm,decide_eq_false_iff_not];simp;omega
 |x::cs,i,c,k=>by
  rw[b8,List.any_append,DX,zX cs (i+1) c k,<-Bool.decide_or,decide_eq_decide,Og];constructor
  .rintro (⟨rfl,h⟩|⟨h1,h2,h3⟩)
   .refine⟨On _,by omega,?_⟩;rw[Sn];exact h
   .refine⟨by omega,by omega,?_⟩;have:c - i=(c - (i+1))+1:=by omega
    rw[this];exact h3
  .rintro ⟨h1,h2,h3⟩;rcases Nat.eq_or_lt_of_le h1 with rfl|h
   .rw[Sn]at h3;exact .inl ⟨rfl,h3⟩
   .refine .inr ⟨h,by omega,?_⟩;have:c - i=(c - (i+1))+1:=by omega
    rw[this]at h3;exact h3
def lY(cs:List T)(c:Nat):reads cs (c:Int)=G9 (cs.getD c .non):=by
 unfold reads;rw[if_pos (by omega),Qa,Ta];cases cs[c]? with
 |none=>rfl
 |some t=>
  cases t with
  |tup l=>
   match l with
   |[] =>rfl
   |[_] =>rfl
   |[_,_] =>rfl
   |[_,_,z] =>cases z <;> rfl
   |_::_::z::_::_=>cases z <;> rfl
  |_=>rfl
mutual
def sm(n:Nat):T->Bool
 |.dct _ _=>ZD
 |.ob _ _ _=>ZD
 |.scr _=>ZD
 |.tup l=>decide (l.length<=n)&&sms n l
 |.lst l=>decide (l.length<=n)&&sms n l
 |_=>ZC
def sms(n:Nat):List T->Bool
 |[] =>ZC
 |t::l=>sm n t&&sms n l
end
mutual
theorem yH{n:Nat}:∀(t:T),sm n t=ZC->t.pl=ZC
 |.scr _,h=>by simp[sm]at h
 |.dct _ _,h=>by simp[sm]at h
 |.ob _ _ _,h=>by simp[sm]at h
 |.tup l,h=>by rw[sm,Oc]at h;rw[T.pl];exact sms_pl l h.2
 |.lst l,h=>by rw[sm,Oc]at h;rw[T.pl];exact sms_pl l h.2
 |.non,_=>by simp[T.pl]
 |.bl _,_=>by simp[T.pl]
 |.int _,_=>by simp[T.pl]
 |.str _,_=>by simp[T.pl]
theorem sms_pl{n:Nat}:∀(l:List T),sms n l=ZC->plS l=ZC
 |[],_=>by simp[plS]
 |t::l,h=>by rw[sms,Oc]at h;rw[plS,yH t h.1,sms_pl l h.2];rfl
end
theorem yG:∀{l:List T},sms n l=ZC↔ ∀t∈l,sm n t=ZC
 |[] =>by simp[sms]
 |t::l=>by rw[sms,Oc,yG];simp
def sm_tup:sm n (.tup l)=ZC↔l.length<=n/\∀t∈l,sm n t=ZC:=by rw[sm,Oc,yG,decide_eq_true_iff]
def kM{i:Int}(h:0<j):lA (.int i) (.int j)=.ok (.int (i % j)):=by show(if _ then _ else _)=_;rw[if_pos h]
def n9{i:Int}(h:0<j)(h2:j<1073741824):lK (.int i) (.int j)=.ok (.int (i / j)):=by show(if _ then _ else _)=_;rw[if_pos ⟨h,h2⟩]
def mM{i:Int}(h : -18446744073709551616<i)(h2:i<18446744073709551616):cL (.int i) (.int j)=.ok (.int (i*j)):=by show xw (.int i) (.int j)=_;show(if _ then _ else _)=_;rw[if_pos (.inl ⟨by omega,by omega⟩)]
def Cy{i:Int}(h : -18446744073709551616<j)(h2:j<18446744073709551616):cL (.int i) (.int j)=.ok (.int (i*j)):=by show xw (.int i) (.int j)=_;show(if _ then _ else _)=_;rw[if_pos (.inr ⟨by omega,by omega⟩)]
def Kg(ns:List Int)(k:Nat)(hn:ns.length<=63):∃c,fD [.scr ns,.int k]=.ok (.int c):=by
 have e0:o2 j6 (vr 0) (gc aj) [.va (.scr ns),.va (.int k)]=.ok (.bl (kz ns [])):=by refine aJ rfl (mS rfl (aE (On _))) ?_;unfold j6;rw[if_pos (ib (by simp[T.dep]) rfl rfl)];rfl
 cases ns with
 |nil=>
  refine⟨7*k,a0 rfl ?_⟩;unfold jI;refine gH ((eU (bW e0)).trans (bH (aJ rfl rfl (mM (by omega) (by omega)))))
 |cons a r=>
  have hl:(0:Int)<((a::r).length:Nat):=by simp only[Og];omega
  have hl2:(((a::r).length:Nat):Int)<1073741824:=by simp only[Og]at hn ⊢;omega
  have hi:k % (a::r).length<(a::r).length:=Nat.mod_lt _ (by simp);have g0:o2 lA (vr 1) (cl cS (ae (vr 0) aj)) [.va (.scr (a::r)),.va (.int k)]=.ok (.int ((k % (a::r).length:Nat):Int)):=by refine aJ rfl ?_ (by rw[kM hl];rfl);refine aH rfl ?_;show Rs.ok (T.int (((a::r).map T.int).length:Nat))=_;rw[Oa]
  have g1:aR (.scr (a::r)) (.int ((k % (a::r).length:Nat):Int))=.ok (.int (a::r)[k % (a::r).length]):=by
   have e:((a::r).map T.int)[k % (a::r).length]?=ZA (.int (a::r)[k % (a::r).length]):=by rw[OH,OA hi];rfl
   show(match L2.atI ((a::r).map T.int) ((k % (a::r).length:Nat):Int)with|some t=>Rs.ok t|none=>.bad)=_;rw[kR e]
  have g2:o2 lK (vr 1) (cl cS (ae (vr 0) aj)) [.va (.scr (a::r)),.va (.int k)]=.ok (.int ((k:Int) / ((a::r).length:Nat))):=by refine aJ rfl ?_ (n9 hl hl2);refine aH rfl ?_;show Rs.ok (T.int (((a::r).map T.int).length:Nat))=_;rw[Oa]
  refine⟨(a::r)[k % (a::r).length] +6553*((k:Int) / ((a::r).length:Nat)),a0 rfl ?_⟩;unfold jI;show aF _ _ [.va (.scr (a::r)),.va (.int k)]=_;refine(aB ((eE (bW e0)).trans rfl)).trans ?_;exact bH (aJ (aJ rfl g0 g1) (aJ rfl g2 (mM (by omega) (by omega))) rfl)
def cH(ns:List Int)(k:Nat)(m:Int)(hn:ns.length<=63)(hm:0<m):∃r,az [.scr ns,.int k,.int m]=.ok (.int r)/\0<=r/\r<m:=by
 obtain⟨c,hc⟩:=Kg ns k hn;have b1:∀x:Int,0<=x % 2147483563/\x % 2147483563<2147483563:=λx=>⟨Um _ (by omega),Tg _ (by omega)⟩;have b2:∀x:Int,0<=x % 2147483399/\x % 2147483399<2147483399:=λx=>⟨Um _ (by omega),Tg _ (by omega)⟩;generalize hx:(c % 2147483563*69069+104723*((k:Int)+1)) % 2147483563=x;have hx':=b1 (c % 2147483563*69069+104723*((k:Int)+1));rw[hx]at hx';generalize hy:(x*x+x / 3) % 2147483399=y;have hy':=b2 (x*x+x / 3);rw[hy]at hy';refine⟨(y*y+y / 7) % 2147483647 / 11 % m,a0 rfl ?_,Um _ (by omega),Tg _ hm⟩;show iM [.va (.scr ns),.va (.int k),.va (.int m),.em]=_;unfold iM;have s1:dh (o2 lA (o2 aQ (o2 cL (o2 lA (cl fD (ae (vr 0) (ae (vr 1) aj))) (cn (.int 2147483563))) (cn (.int 69069))) (o2 cL (cn (.int 104723)) (o2 aQ (vr 1) (cn (.int 1))))) (cn (.int 2147483563))) (gN 3) [.va (.scr ns),.va (.int k),.va (.int m),.em]=.ok (.nx [.va (.scr ns),.va (.int k),.va (.int m),.va (.int x)]):=by refine cK (aJ (aJ (aJ (aJ (aH rfl hc) rfl (kM (by omega))) rfl (Cy (by omega) (by omega))) (aJ rfl rfl (mM (by omega) (by omega))) rfl) rfl ?_) rfl;rw[kM (by omega),hx]
 have s2:dh (o2 lA (o2 aQ (o2 cL (vr 3) (vr 3)) (o2 lK (vr 3) (cn (.int 3)))) (cn (.int 2147483399))) (gN 3) [.va (.scr ns),.va (.int k),.va (.int m),.va (.int x)]=.ok (.nx [.va (.scr ns),.va (.int k),.va (.int m),.va (.int y)]):=by refine cK (aJ (aJ (aJ rfl rfl (mM (by omega) (by omega))) (aJ rfl rfl (n9 (by omega) (by omega))) rfl) rfl ?_) rfl;rw[kM (by omega),hy]
 rw[aB s1,aB s2];exact bH (aJ (aJ (aJ (aJ (aJ rfl rfl (mM (by omega) (by omega))) (aJ rfl rfl (n9 (by omega) (by omega))) rfl) rfl (kM (by omega))) rfl (n9 (by omega) (by omega))) rfl (kM hm))
def dM{r:Int}{f g h:W5}(e:az [.scr ns,.int k,.int m]=.ok (.int r))(h1:f Z=.ok (.scr ns))(h2:g Z=.ok (.int k))(h3:h Z=.ok (.int m)):
  cl az (ae f (ae g (ae h aj))) Z=.ok (.int r):=aH (ar h1 (ar h2 (ar h3 rfl))) e
theorem u4:∀(l:List Int)(z y:Int),qe (l++[z])=ZC->z<y->qe (l++[z] ++[y])=ZC
 |[],z,y,_,h=>by simp[qe,h]
 |[a],z,y,h,hy=>by simp[qe]at h ⊢;omega
 |a::b::l,z,y,h,hy=>by have h':qe (a::b::(l++[z]))=ZC:=h;rw[La,Oc]at h';have ih:=u4 (b::l) z y h'.2 hy;show qe (a::b::(l++[z] ++[y]))=ZC;rw[La,h'.1];exact ih
theorem ph:∀l:List Int,nums (l.map .int)=ZA l
 |[] =>rfl
 |a::l=>by rw[Of,nums,ph l]
def RdOk(l:List Int):Prop:=∃(l':List Int)(z:Int),l=l'++[z]/\qe l=ZC/\(∀x∈l,0<=x/\x<=5*l.length)/\z<=5*l.length
def tZ(l:List T)(z:T):aR (.tup (l++[z])) (.int (-1))=.ok z:=by
 have e:L2.atI (l++[z]) (-1)=ZA z:=by
  unfold L2.atI L2.ixN;simp;rw[if_pos (by omega)];have q:(-1+((l.length:Int)+1)).toNat=l.length:=by omega
  show(l++[z])[(-1+((l.length:Int)+1)).toNat]?=ZA z;rw[q];simp
 show(match L2.atI (l++[z]) (-1)with|some t=>Rs.ok t|none=>.bad)=_;rw[e]
def GI(ns:List Int)(hn:ns.length<=63)(a j:Nat)(s:T)(l:List Int)(h:RdOk l)(hl:l.length<=3):∃l2,clF [.va (.scr ns),.va (.int a),.va s,.va (.tup (l.map .int)),.va (.int j)]=.ok (.nx [.va (.scr ns),.va (.int a),.va s,.va (.tup (l2.map .int)),.va (.int j)])/\RdOk l2/\l2.length=l.length+1:=by
 obtain⟨l',z,rfl,h1,h2,h3⟩:=h;obtain⟨d,ed,d0,d1⟩:=cH ns (a+3+j) 5 hn (by omega);refine⟨l'++[z] ++[z+1+d],?_,⟨l'++[z],z+1+d,rfl,u4 l' z _ h1 (by omega),?_,?_⟩,by simp⟩
 .refine cK (aJ rfl (cq (ar (aJ (aJ (t:=.int z) (aJ rfl rfl ?_) rfl rfl) (dM ed rfl ?_ rfl) rfl) rfl) (aE (k:=1) (by simp))) ?_) rfl
  .rw[Py];exact tZ _ _
  .refine aJ (aJ rfl rfl rfl) rfl ?_;show Rs.ok (T.int ((a:Int)+3+j))=_;congr 2
  .rw[Py (l₁:=l'++[z])];exact j8 _ _ (by rw[Oh,Oa];simp at hl ⊢;omega)
 .intro x hx;rcases Ox.mp hx with hx|hx
  .have:=h2 x hx;simp only[Oh,Pl]at this ⊢;omega
  .rw[Oi]at hx;subst hx;have hz:=h2 z (by simp);simp only[Oh,Pl]at h3 ⊢;omega
 .simp only[Oh,Pl]at h3 ⊢;omega
theorem zT(ns:List Int)(hn:ns.length<=63)(a:Nat)(s:T):∀(js:List Nat)(l:List Int)(s4:Sl),RdOk l->l.length+js.length<=4->∃l2 s5,bq (gN 4) clF (js.map λ(j:Nat)=>T.int j) [.va (.scr ns),.va (.int a),.va s,.va (.tup (l.map .int)),s4]=.ok (.nx [.va (.scr ns),.va (.int a),.va s,.va (.tup (l2.map .int)),s5])/\RdOk l2/\l2.length=l.length+js.length
 |[],l,s4,h,_=>⟨l,s4,rfl,h,rfl⟩
 |j::js,l,s4,h,hl=>by rw[Og]at hl;obtain⟨l2,e2,h2,n2⟩:=GI ns hn a j s l h (by omega);obtain⟨l3,s5,e3,h3,n3⟩:=zT ns hn a s js l2 (.va (.int j)) h2 (by omega);refine⟨l3,s5,?_,h3,by rw[n3,n2,Og];omega⟩;rw[Of,eC rfl e2];exact e3
def nQ(n:Nat):rng 0 (n:Int)=(PJ n).map λ(j:Nat)=>T.int j:=by unfold rng;simp
def RdOk.reads{l:List Int}(h:RdOk l)(hl:l.length<=4):dg (.tup (l.map .int))=ZC:=by
 obtain⟨l',z,rfl,h1,h2,h3⟩:=h;unfold dg;rw[Oc];refine⟨?_,?_⟩
 .simp[dt];simp at hl;omega
 .show(((l'++[z]).map T.int).all (λu=>a6 u 0 99)&&(match nums ((l'++[z]).map T.int)with|some m=>qe m|none=>ZD))=ZC;rw[ph];show(_&&qe (l'++[z]))=ZC;rw[h1,U7,OQ];intro t ht;obtain⟨x,hx,rfl⟩:=OJ.mp ht;have:=h2 x hx;simp only[a6,Oc,decide_eq_true_eq];omega
def ES(n:Nat)(l:List Int)(h:l.length<=n):sm n (.tup (l.map .int))=ZC:=sm_tup.mpr ⟨by rw[Oa];exact h,λt ht=>by obtain⟨x,_,rfl⟩:=OJ.mp ht;simp[sm]⟩
def DB(ns:List Int)(hn:ns.length<=63)(a:Nat):∃c,cE [.scr ns,.int a]=.ok c/\bj c=ZC/\sm 8 c=ZC:=by
 obtain⟨d1,e1,p1,q1⟩:=cH ns a 3 hn (by omega);obtain⟨d2,e2,p2,q2⟩:=cH ns (a+2) 6 hn (by omega);obtain⟨d3,e3,p3,q3⟩:=cH ns (a+1) 3 hn (by omega);obtain⟨d4,e4,p4,q4⟩:=cH ns (a+6) 3 hn (by omega);obtain⟨n3,rfl⟩:=OP p3;obtain⟨l,s5,el,hl,nl⟩:=zT ns hn a (.int (1+d1)) (PJ n3) [d2] .em ⟨[],d2,rfl,rfl,λx hx=>by rw[Oi]at hx;subst hx;simp;omega,by simp;omega⟩ (by simp;omega);have nl':l.length<=4:=by rw[nl];simp;omega
 have hr:=hl.reads nl';refine⟨.tup [.int (1+d1),.int (1+d1+d4),.tup (l.map .int)],a0 rfl ?_,?_,?_⟩
 .show iN [.va (.scr ns),.va (.int a),.em,.em,.em]=_;unfold iN;rw[aB (cK (aJ rfl (dM e1 rfl rfl rfl) rfl) rfl)];rw[aB (cK (cq (ar (dM e2 rfl rfl rfl) rfl) (aE (k:=1) (by simp))) rfl)];rw[aB ((gA (Gk (ar (dM e3 rfl rfl rfl) rfl) (by omega) (by omega)) (by rw[nQ];exact el)))];exact bH (cq (ar rfl (ar (aJ rfl (dM e4 rfl rfl rfl) rfl) (ar rfl rfl))) (aE (k:=3) (by simp)))
 .show(ZC&&(qu (.int (1+d1)) (.int (1+d1+d4))&&dg _))=ZC;rw[hr];simp only[qu,a6,Ry,U7,Oc,decide_eq_true_eq];omega
 .refine sm_tup.mpr ⟨by simp,λt ht=>?_⟩;rcases Oj.mp ht with rfl|ht
  .simp[sm]
  .rcases Oj.mp ht with rfl|ht
   .simp[sm]
   .rw[Oi]at ht;subst ht;exact ES 8 l (by omega)
variable{y:T}
theorem jT:∀(cs:List T)(i:Nat),y∈b8 i cs->∃c k:Nat,y=.tup [.int c,.int k]/\i<=c/\c<i+cs.length/\k<G9 (cs.getD (c - i) .non)
 |[],i,h=>by cases h
 |x::cs,i,h=>by
  rw[b8]at h;rcases Ox.mp h with h|h
  .unfold kg at h;obtain⟨t,ht,rfl⟩:=OJ.mp h;obtain⟨j,rfl,hj⟩:=ir ht;refine⟨i,j,rfl,On _,by rw[Og];omega,?_⟩;rw[Sn];show j<G9 x;omega
  .obtain⟨c,k,e,h1,h2,h3⟩:=jT cs (i+1) h;refine⟨c,k,e,by omega,by rw[Og];omega,?_⟩;have:c - i=(c - (i+1))+1:=by omega
   rw[this];exact h3
def mU(h:y∈b8 0 cs):aw cs y=ZC:=by obtain⟨c,k,rfl,_,h2,h3⟩:=jT cs 0 h;show(decide ((0:Int)<=(c:Int))&&decide ((c:Int)<(cs.length:Int))&&(decide ((0:Int)<=(k:Int))&&decide ((k:Int)<(reads cs (c:Int):Int))))=ZC;rw[RT]at h3;rw[lY];simp only[Oc,decide_eq_true_eq];omega
theorem jQ:∀(cs:List T)(i:Nat),(b8 i cs).Nodup
 |[],i=>Rf
 |x::cs,i=>by
  rw[b8,Pc];refine⟨?_,jQ cs (i+1),?_⟩
  .unfold kg rng;rw[RU];rw[Tb,Vz];refine List.nodup_range.imp ?_;intro a b hab e;simp at e;exact hab (by omega)
  .intro a ha b hb e;subst e;unfold kg at ha;obtain⟨t,ht,rfl⟩:=OJ.mp ha;obtain⟨c,k,e,h1,_,_⟩:=jT cs (i+1) hb;simp at e;omega
def Cp(h:l.Nodup){j:Nat}(hi:i<l.length)(hj:j<l.length)(hij:i≠j):l[i] ≠l[j]:=by
 rw[Tb,Ti]at h;rcases RV i j with q|q
 .exact h i j hi hj q
 .exact λe=>h j i hj hi (by omega) e.symm
theorem oa:∀(cs:List T)(i:Nat),(∀c∈cs,bj c=ZC)->(b8 i cs).length<=4*cs.length
 |[],i,_=>On _
 |x::cs,i,h=>by obtain⟨a,b,r,rfl,_,h2⟩:=gB (h x Oe);have:=oa cs (i+1) λc hc=>h c (N8 _ hc);rw[b8,Oh,jA,Og];show r.length+_<=_;omega
def vV{a b:T}(ha:aw cs a=ZC)(hb:aw cs b=ZC)(h:a≠b):aW a b=ZD:=by obtain⟨c,k,rfl⟩:=aK ha;obtain⟨c',k',rfl⟩:=aK hb;rw[Bool.eq_false_iff];intro e;simp[aW,beqTs]at e;exact h (by rw[e.1,e.2])
def uT{a:T}(ha:aw cs a=ZC):sm 8 a=ZC:=by obtain⟨c,k,rfl⟩:=aK ha;simp[sm,sms]
def xO(h:i<l.length):aR (.lst l) (.int (i:Int))=.ok l[i]:=by show(match L2.atI l (i:Int)with|some t=>Rs.ok t|none=>.bad)=_;rw[kR (OA h)]
def eq_int(a b:Int):j6 (.int a) (.int b)=.ok (.bl (a == b)):=by unfold j6;rw[if_pos (ib (by simp[T.dep]) rfl rfl)];rfl
def rK(ns:List Int)(hn:ns.length<=63)(a:Nat)(cs:List T)(hc:aX (.tup cs)=ZC):∃r,bZ [.scr ns,.int a,.tup cs]=.ok r/\(r=.non\/(bp cs r=ZC/\sm 8 r=ZC)):=by
 obtain⟨ha,h1,h4⟩:=bf hc;have hlen:=oa cs 0 ha;have er:=v5 cs hc;have gl:∀s4 s5 s6 s7:Sl,cl cS (ae (vr 3) aj) [.va (.scr ns),.va (.int a),.va (.tup cs),.va (.lst (b8 0 cs)),s4,s5,s6,s7]=.ok (.int ((b8 0 cs).length:Nat)):=λ_ _ _ _=>rfl;have s1:dh (cl b7 (ae (vr 2) aj)) (gN 3) [.va (.scr ns),.va (.int a),.va (.tup cs),.em,.em,.em,.em,.em]=.ok (.nx [.va (.scr ns),.va (.int a),.va (.tup cs),.va (.lst (b8 0 cs)),.em,.em,.em,.em]):=cK (aH rfl er) rfl;have lt:o2 F4 (cl cS (ae (vr 3) aj)) (cn (.int 2)) [.va (.scr ns),.va (.int a),.va (.tup cs),.va (.lst (b8 0 cs)),.em,.em,.em,.em]=.ok (.bl (decide (((b8 0 cs).length:Int)<2))):=aJ (gl _ _ _ _) rfl rfl;by_cases hs:(b8 0 cs).length<2
 .refine⟨.non,a0 rfl ?_,.inl rfl⟩;show dH [.va (.scr ns),.va (.int a),.va (.tup cs),.em,.em,.em,.em,.em]=_;unfold dH;rw[aB s1];rw[decide_eq_true (by omega)]at lt;exact gH ((eU (bW lt)).trans rfl)
 .rw[decide_eq_false (by omega)]at lt;generalize hN:(b8 0 cs).length=n at*;obtain⟨d1,e1,p1,q1⟩:=cH ns a (n:Int) hn (by omega);obtain⟨d2,e2,p2,q2⟩:=cH ns (a+1) ((n:Int) - 1) hn (by omega);obtain⟨d3,e3,p3,q3⟩:=cH ns (a+2) 8 hn (by omega);obtain⟨d4,e4,p4,q4⟩:=cH ns (a+3) 3 hn (by omega);obtain⟨d5,e5,p5,q5⟩:=cH ns (a+4) 9 hn (by omega);obtain⟨i,rfl⟩:=OP p1;obtain⟨d2,rfl⟩:=OP p2;have hi:i<(b8 0 cs).length:=by omega
  have hj:(i+1+d2) % n<(b8 0 cs).length:=by rw[hN];exact Nat.mod_lt _ (by omega)
  have hij:i≠(i+1+d2) % n:=by
   rcases RV (i+1+d2) n with q|q
   .rw[V8 q];omega
   .have:(i+1+d2) % n=i+1+d2 - n:=by rw[Nat.mod_eq_sub_mod q,V8 (by omega)]
    rw[this];omega
  have eA:=mU (Pp hi);have eB:=mU (Pp hj);have eN:(b8 0 cs)[i] ≠(b8 0 cs)[(i+1+d2) % n]:=Cp (jQ cs 0) hi hj hij;generalize hA:(b8 0 cs)[i]=A at*;generalize hB:(b8 0 cs)[(i+1+d2) % n]=B at*;let y:T:=if d4 == 0 then .non else .int (d3+d5);refine⟨.tup [A,B,.int d3,y],a0 rfl ?_,.inr ⟨?_,?_⟩⟩
  .show dH [.va (.scr ns),.va (.int a),.va (.tup cs),.em,.em,.em,.em,.em]=_;unfold dH;rw[aB s1];rw[aB ((eE (bW lt)).trans rfl)];rw[aB (Z':=[.va (.scr ns),.va (.int a),.va (.tup cs),.va (.lst (b8 0 cs)),.va (.int (i:Nat)),.em,.em,.em]) (cK (dM e1 rfl rfl (gl _ _ _ _)) rfl)];rw[aB (cK (aJ (aJ rfl (dM e2 rfl rfl (aJ (gl _ _ _ _) rfl rfl)) rfl) (gl _ _ _ _) (kM (by omega))) rfl)];rw[aB (Z':=[.va (.scr ns),.va (.int a),.va (.tup cs),.va (.lst (b8 0 cs)),.va (.int (i:Nat)),.va (.int ((i+1+d2) % n:Nat)),.va (.int d3),.em]) (cK (dM e3 rfl rfl rfl) rfl)];have ey:Dh (tb (o2 j6 (cl az (ae (vr 0) (ae (o2 aQ (vr 1) (cn (.int 3))) (ae (cn (.int 3)) aj)))) (cn (.int 0)))) (cn .non) (o2 aQ (vr 6) (cl az (ae (vr 0) (ae (o2 aQ (vr 1) (cn (.int 4))) (ae (cn (.int 9)) aj))))) [.va (.scr ns),.va (.int a),.va (.tup cs),.va (.lst (b8 0 cs)),.va (.int (i:Nat)),.va (.int ((i+1+d2) % n:Nat)),.va (.int d3),.em]=.ok y:=by
    rw[zA (bW (aJ (dM e4 rfl rfl rfl) rfl (eq_int _ _)))];show _=Rs.ok (if d4 == 0 then T.non else .int (d3+d5));cases d4 == 0 with
    |true=>rfl
    |false=>exact aJ rfl (dM e5 rfl rfl rfl) rfl
   rw[aB (cK ey rfl)];refine bH (cq (ar (aJ rfl rfl ?_) (ar (aJ rfl rfl ?_) (ar rfl (ar rfl rfl)))) (aE (k:=4) (by simp)))
   .rw[<-hA];exact xO hi
   .rw[<-hB];exact xO hj
  .show(dN (.int d3) y&&(aw cs A&&(aw cs B&& !aW A B)))=ZC;rw[eA,eB,vV eA eB eN];have:dN (.int d3) y=ZC:=by
    show(a6 (.int d3) 0 999&&(match(T.int d3),(if d4 == 0 then T.non else .int (d3+d5))with|_,.non=>ZC|.int i,_=>a6 (if d4 == 0 then T.non else .int (d3+d5)) i 999|_,_=>ZD))=ZC;cases d4 == 0 with
    |true=>simp[a6];omega
    |false=>simp[a6];omega
   rw[this];rfl
  .refine sm_tup.mpr ⟨by simp,λt ht=>?_⟩;have hy:sm 8 y=ZC:=by show sm 8 (if d4 == 0 then T.non else .int (d3+d5))=ZC;cases d4 == 0 <;> simp[sm]
   simp only[Oj,PF,or_false]at ht;rcases ht with rfl|rfl|rfl|rfl
   .exact uT eA
   .exact uT eB
   .simp[sm]
   .exact hy
noncomputable def okv:Rs T->T
 |.ok t=>t
 |_=>.non
def za(l:List T)(k:Int)(h : -(2 ^ 63)<=k/\k<2 ^ 63/\l.length*k.toNat<=ZI):cL (.lst l) (.int k)=.ok (.lst (OK k.toNat l).flatten):=by show xw (.lst l) (.int k)=_;unfold xw;exact if_pos h
def mul_one(x:T)(b:Bool):cL (.lst [x]) (.int (if b then 1 else 0))=.ok (.lst (if b then [x]else [])):=by
 cases b with
 |true=>exact za [x] 1 ⟨by decide,by decide,aE (k:=1) (by simp)⟩
 |false=>exact za [x] 0 ⟨by decide,by decide,aE (k:=1) (by simp)⟩
def A7(cs ls:List T):Prop:=∀t∈ls,bp cs t=ZC/\sm 8 t=ZC
def F7(ns:List Int)(hn:ns.length<=63)(a j:Nat)(m:T)(cs ls:List T)(hc:aX (.tup cs)=ZC)(h:A7 cs ls)(hl:ls.length<=100)(s6:Sl):
  ∃ls2 s7,leF [.va (.scr ns),.va (.int a),.va m,.va (.tup cs),.va (.lst ls),.va (.int j),s6]=.ok (.nx [.va (.scr ns),.va (.int a),.va m,.va (.tup cs),.va (.lst ls2),.va (.int j),s7])/\A7 cs ls2/\ls2.length<=ls.length+1:=by
 obtain⟨r,er,hr⟩:=rK ns hn (a+31+6*j) cs hc;have e1:∀G,aF (dh (cl bZ (ae (vr 0) (ae (o2 aQ (o2 aQ (vr 1) (cn (.int 31))) (o2 cL (cn (.int 6)) (vr 5))) (ae (vr 3) aj)))) (gN 6)) G [.va (.scr ns),.va (.int a),.va m,.va (.tup cs),.va (.lst ls),.va (.int j),s6]=G [.va (.scr ns),.va (.int a),.va m,.va (.tup cs),.va (.lst ls),.va (.int j),.va r]:=λG=>by refine aB (cK (aH (ar rfl (ar (aJ rfl (aJ rfl rfl (mM (by omega) (by omega))) rfl) (ar rfl rfl))) er) rfl)
 have e2:cl Df (ae (o2 jl (vr 6) (cn .non)) aj) [.va (.scr ns),.va (.int a),.va m,.va (.tup cs),.va (.lst ls),.va (.int j),.va r]=.ok (.int (if !r.isN then 1 else 0)):=aH rfl rfl;refine⟨ls++(if !r.isN then [r]else []),.va r,?_,?_,?_⟩
 .refine(e1 _).trans (cK (aJ rfl (aJ (mS rfl (aE (k:=1) (by simp))) e2 (mul_one _ _)) (zY _ _ ?_)) rfl);rw[Oh];cases r.isN <;> simp <;> omega
 .intro t ht;rcases Ox.mp ht with ht|ht
  .exact h t ht
  .rcases hr with rfl|hr
   .cases ht
   .cases q:r.isN with
    |true=>rw[q]at ht;cases ht
    |false=>
     rw[q]at ht;rw[show t=r by simpa using ht];exact hr
 .rw[Oh];cases r.isN <;> simp
theorem zl(ns:List Int)(hn:ns.length<=63)(a:Nat)(m:T)(cs:List T)(hc:aX (.tup cs)=ZC):∀(js:List Nat)(ls:List T)(s5 s6:Sl),A7 cs ls->ls.length+js.length<=100 ->
  ∃ls2 t5 t6,bq (gN 5) leF (js.map λ(j:Nat)=>T.int j) [.va (.scr ns),.va (.int a),.va m,.va (.tup cs),.va (.lst ls),s5,s6]=.ok (.nx [.va (.scr ns),.va (.int a),.va m,.va (.tup cs),.va (.lst ls2),t5,t6])/\A7 cs ls2/\ls2.length<=ls.length+js.length
 |[],ls,s5,s6,h,_=>⟨ls,s5,s6,rfl,h,On _⟩
 |j::js,ls,s5,s6,h,hl=>by rw[Og]at hl;obtain⟨l2,s7,e2,h2,n2⟩:=F7 ns hn a j m cs ls hc h (by omega) s6;obtain⟨l3,t5,t6,e3,h3,n3⟩:=zl ns hn a m cs hc js l2 (.va (.int j)) s7 h2 (by omega);refine⟨l3,t5,t6,?_,h3,by rw[Og];omega⟩;rw[Of,eC rfl e2];exact e3
def Ke(ns:List Int)(hn:ns.length<=63)(a m:Nat)(hm:m<=8):∃cs ls,fw [.scr ns,.int a,.int m]=.ok (RR cs ls)/\aX (.tup cs)=ZC/\cs.length<=3/\(∀c∈cs,sm 8 c=ZC)/\A7 cs ls/\ls.length<=m:=by
 obtain⟨d1,e1,p1,q1⟩:=cH ns a 3 hn (by omega);obtain⟨d2,e2,p2,q2⟩:=cH ns (a+30) ((m:Int)+1) hn (by omega);obtain⟨d1,rfl⟩:=OP p1;obtain⟨d2,rfl⟩:=OP p2;let hcl:T->T:=λt=>match t with
  |.int k=>okv (cE [.scr ns,.int ((a:Int)+1+8*k)])
  |_=>.non
 have hh:∀t∈rng 0 ((1+d1:Nat):Int),∃k:Nat,t=.int k/\cE [.scr ns,.int ((a+1+8*k:Nat):Int)]=.ok (hcl t)/\bj (hcl t)=ZC/\sm 8 (hcl t)=ZC:=λt ht=>by
  obtain⟨k,rfl,_⟩:=ir ht;obtain⟨c,ec,h1,h2⟩:=DB ns hn (a+1+8*k);have e:hcl (.int k)=c:=by show okv (cE [.scr ns,.int ((a+1+8*k:Nat):Int)])=c;rw[ec];rfl
  exact⟨k,rfl,by rw[e];exact ec,by rw[e];exact h1,by rw[e];exact h2⟩
 generalize hcs:(rng 0 ((1+d1:Nat):Int)).map hcl=cs;have lc:cs.length=1+d1:=by rw[<-hcs,Oa,iu]
 have hc:aX (.tup cs)=ZC:=by show(dt (.tup cs) 1 4&&cs.all bj)=ZC;rw[Oc,OQ];refine⟨by simp[dt];omega,λc h=>?_⟩;rw[<-hcs]at h;obtain⟨t,ht,rfl⟩:=OJ.mp h;obtain⟨_,_,_,h1,_⟩:=hh t ht;exact h1
 have hsm:∀c∈cs,sm 8 c=ZC:=λc h=>by rw[<-hcs]at h;obtain⟨t,ht,rfl⟩:=OJ.mp h;obtain⟨_,_,_,_,h1⟩:=hh t ht;exact h1
 obtain⟨ls,t5,t6,el,hl,nl⟩:=zl ns hn a (.int m) cs hc (PJ d2) [] .em .em (λt h=>by cases h) (by simp;omega);refine⟨cs,ls,a0 rfl ?_,hc,by omega,hsm,hl,by simp at nl;omega⟩;show gO [.va (.scr ns),.va (.int a),.va (.int m),.em,.em,.em,.em]=_;unfold gO;have s1:dh (cl gD (ae (fE (iR (ae (o2 aQ (cn (.int 1)) (cl az (ae (vr 0) (ae (vr 1) (ae (cn (.int 3)) aj))))) aj)) [ZB,ZA 0,ZA 1] (gN 0) bT (cl cE (ae (vr 1) (ae (o2 aQ (o2 aQ (vr 2) (cn (.int 1))) (o2 cL (cn (.int 8)) (vr 0))) aj)))) aj)) (gN 3) [.va (.scr ns),.va (.int a),.va (.int m),.em,.em,.em,.em]=.ok (.nx [.va (.scr ns),.va (.int a),.va (.int m),.va (.tup cs),.em,.em,.em]):=by refine cK (aH (ar (t:=.lst cs) ?_ rfl) rfl) rfl;rw[<-hcs];refine nE (Gk (ar (aJ rfl (dM e1 rfl rfl rfl) rfl) rfl) (by omega) (by omega)) (aE (k:=3) (by rw[iu];omega)) (by simp) λt ht=>?_;obtain⟨k,rfl,ek,_,_⟩:=hh t ht;refine aH (ar rfl (ar (aJ rfl (aJ rfl rfl (mM (by omega) (by omega))) rfl) rfl)) ek
 rw[aB s1];rw[aB (cK (mS rfl (aE (k:=0) (by simp))) rfl)];rw[aB ((gA (Gk (ar (dM e2 rfl rfl (aJ rfl rfl rfl)) rfl) (by omega) (by omega)) (by rw[nQ];exact el)))];exact bH (cq (ar rfl (ar rfl rfl)) (aE (k:=2) (by simp)))
def cZ{t:T}(h:bp cs t=ZC):∃a b x y,t=.tup [a,b,x,y]/\dN x y=ZC/\aw cs a=ZC/\aw cs b=ZC/\aW a b=ZD:=by
 unfold bp at h;split at h
 .simp only[Oc,Vx]at h;exact⟨_,_,_,_,rfl,h.1,h.2.1,h.2.2.1,h.2.2.2⟩
 .cases h
def Ii{ls:List T}(hc:aX (.tup cs)=ZC)(hs:∀c∈cs,sm 8 c=ZC)(hl:A7 cs ls)(hn:ls.length<=8):dA (RR cs ls)=ZC/\sm 8 (RR cs ls)=ZC:=by
 refine⟨?_,?_⟩
 .show(aX (.tup cs)&&(dt (.tup ls) 0 8&&ls.all (bp cs)))=ZC;rw[hc,Ry,Oc,OQ];exact⟨by simp[dt];exact hn,λt ht=>(hl t ht).1⟩
 .refine sm_tup.mpr ⟨by simp,λt ht=>?_⟩;simp only[Oj,PF,or_false]at ht;rcases ht with rfl|rfl
  .exact sm_tup.mpr ⟨by have:=(bf hc).2.2;omega,hs⟩
  .exact sm_tup.mpr ⟨hn,λt ht=>(hl t ht).2⟩
end G
namespace Tr
open PySem
section
variable {f fa fb:W5}{fs:W3}{b c:W6}{F G:W4}{Z Z' Z1 Z2:En}{t u r:T}{ts l m:List T}
mutual
theorem j7:∀(t:T),t.pl=ZC->aW t t=ZC
 |.non,_=>rfl
 |.bl a,_=>by simp[aW]
 |.int a,_=>by simp[aW]
 |.str a,_=>by simp[aW]
 |.tup l,h=>by rw[aW];exact beqTs_refl l (by unfold T.pl at h;exact h)
 |.lst l,h=>by rw[aW];exact beqTs_refl l (by unfold T.pl at h;exact h)
 |.scr _,h=>by simp[T.pl]at h
theorem beqTs_refl:∀(l:List T),plS l=ZC->beqTs l l=ZC
 |[],_=>rfl
 |t::l,h=>by unfold plS at h;rw[Oc]at h;rw[beqTs,j7 t h.1,beqTs_refl l h.2];rfl
end
def FZ(hp:t.pl=ZC)(hd:t.dep<=60):wG t t=.ok (.bl ZD):=by unfold wG;rw[if_pos (ib hd (T.KM _ hp) (T.KM _ hp)),j7 t hp];rfl
def ud(hp:t.pl=ZC)(hd:t.dep<=60):j6 t t=.ok (.bl ZC):=by unfold j6;rw[if_pos (ib hd (T.KM _ hp) (T.KM _ hp)),j7 t hp]
theorem oh:∀{l:List T},(∀t∈l,t.dep<=n)->deps l<=n
 |[],_=>by unfold deps;omega
 |t::l,h=>by unfold deps;have:=oh λu hu=>h u (N8 _ hu);have:=h t Oe;omega
theorem eg:∀{l:List T},(∀t∈l,t.pl=ZC)->plS l=ZC
 |[],_=>rfl
 |t::l,h=>by unfold plS;rw[h t Oe,eg λu hu=>h u (N8 _ hu)];rfl
end
end Tr
namespace G
open PySem Tr
noncomputable def dr(r:List Int)(k:Nat):Int:=r.getD (k+1) 0 - r.getD k 0
noncomputable def pr(n:Nat)(x y:Int)(r:List Int)(k:Nat):List T:=
 [.tup [.tup [.int n,.int k],.tup [.int n,.int ((k+1:Nat):Int)],.int (dr r k*y)],.tup [.tup [.int n,.int ((k+1:Nat):Int)],.tup [.int n,.int k],.int (-dr r k*x)]]
noncomputable def cB(n:Nat)(x y:Int)(r:List Int):List T:=(PJ (r.length - 1)).flatMap (pr n x y r)
noncomputable abbrev KA(n:Nat)(x y:Int)(r:List Int)(acc:List T)(s4 s5 s6 s7:Sl):En:=[.va (.int n),.va (.tup [.int x,.int y,.tup (r.map .int)]),.va (.tup (r.map .int)),.ow (.lst acc),s4,s5,s6,s7]
def n6{r:List Int}(h:k<r.length):(r.map T.int)[k]?=ZA (.int (r.getD k 0)):=by rw[OH,OA h];simp[h]
def GL(n:Nat)(x y:Int)(r:List Int)(acc:List T)(k:Nat)(s5 s6 s7:Sl)(hk:k+1<r.length)(hx:0<=x/\x<=9)(hy:0<=y/\y<=9)(ha:acc.length<=100):
  bcF (KA n x y r acc (.va (.int k)) s5 s6 s7)=.ok (.nx (KA n x y r (acc++pr n x y r k) (.va (.int k)) (.va (.tup [.int n,.int k])) (.va (.tup [.int n,.int ((k+1:Nat):Int)])) (.va (.int (dr r k))))):=by
 have h2:([T.int n,T.int k]:List T).length<=ZI:=aE (k:=2) (by simp);have ek:((k:Int)+1)=((k+1:Nat):Int):=by omega
 refine(aB (cK (cq rfl (aE (k:=2) (by simp))) rfl)).trans ?_;refine(aB (cK (cq (ar rfl (ar (aJ rfl rfl (congrArg (λz=>Rs.ok (T.int z)) ek)) rfl)) (aE (k:=2) (by simp))) rfl)).trans ?_;refine(aB (cK (aJ (qH rfl (aJ rfl rfl (congrArg (λz=>Rs.ok (T.int z)) ek)) (n6 hk)) (qH rfl rfl (n6 (by omega))) rfl) rfl)).trans ?_;refine(aB (lG (cq (ar rfl (ar rfl (ar (aJ rfl rfl (Cy (by omega) (by omega))) rfl))) (aE (k:=3) (by simp))) rfl (by omega))).trans ?_;refine(lG (cq (ar rfl (ar rfl (ar (aJ rfl rfl (Cy (by omega) (by omega))) rfl))) (aE (k:=3) (by simp))) rfl (by rw[Oh];simp;omega)).trans ?_;rw[O8];rfl
theorem zW(n:Nat)(x y:Int)(r:List Int)(hx:0<=x/\x<=9)(hy:0<=y/\y<=9):∀(js:List Nat)(acc:List T)(s4 s5 s6 s7:Sl),(∀k∈js,k+1<r.length)->acc.length+2*js.length<=100 ->
  ∃t4 t5 t6 t7,bq (gN 4) bcF (js.map λ(k:Nat)=>T.int k) (KA n x y r acc s4 s5 s6 s7)=.ok (.nx (KA n x y r (acc++js.flatMap (pr n x y r)) t4 t5 t6 t7))
 |[],acc,s4,s5,s6,s7,_,_=>⟨s4,s5,s6,s7,by simp[bq]⟩
 |k::js,acc,s4,s5,s6,s7,hk,hl=>by rw[Og]at hl;have e:=GL n x y r acc k s5 s6 s7 (hk k Oe) hx hy (by omega);obtain⟨t4,t5,t6,t7,ih⟩:=zW n x y r hx hy js (acc++pr n x y r k) (.va (.int k)) (.va (.tup [.int n,.int k])) (.va (.tup [.int n,.int ((k+1:Nat):Int)])) (.va (.int (dr r k))) (λj hj=>hk j (N8 _ hj)) (by rw[Oh];simp[pr];omega);refine⟨t4,t5,t6,t7,?_⟩;rw[Of,eC rfl e,ih,RA,O8]
def DF(n:Nat)(x y:Int)(r:List Int)(hx:0<=x/\x<=9)(hy:0<=y/\y<=9)(h1:1<=r.length)(h4:r.length<=4):cz [.int n,.tup [.int x,.int y,.tup (r.map .int)]]=.ok (.lst (cB n x y r)):=by
 refine a0 rfl ?_;show eJ [.va (.int n),.va (.tup [.int x,.int y,.tup (r.map .int)]),.em,.em,.em,.em,.em,.em]=_;unfold eJ;rw[aB (cK rfl rfl)];rw[aB (Z':=KA n x y r [] .em .em .em .em) rfl];obtain⟨t4,t5,t6,t7,e⟩:=zW n x y r hx hy (PJ (r.length - 1)) [] .em .em .em .em (λk hk=>by have:=PZ.mp hk;omega) (by simp;omega);have e1:iR (ae (o2 jb (cl cS (ae (vr 2) aj)) (cn (.int 1))) aj) (KA n x y r [] .em .em .em .em)=.ok (rng 0 ((r.length - 1:Nat):Int)):=by refine Gk (ar (aJ (t:=.int (r.length:Nat)) (aH rfl (by show Rs.ok (T.int ((r.map T.int).length:Nat))=_;rw[Oa])) rfl (congrArg (λz=>Rs.ok (T.int z)) (by omega))) rfl) (by omega) (by omega)
 rw[aB ((gA (by rw[e1,nQ]) e))];rfl
def fg{t:T}(h:bj t=ZC):∃(x y:Int)(r:List Int),t=.tup [.int x,.int y,.tup (r.map .int)]/\(0<=x/\x<=9)/\(0<=y/\y<=9)/\1<=r.length/\r.length<=4:=by obtain⟨x,y,r,rfl,h1,h4⟩:=gB h;have h':(qu x y&&dg (.tup r))=ZC:=h;rw[Oc]at h';obtain⟨hp,hr⟩:=h';unfold qu at hp;rw[Oc]at hp;obtain⟨i,rfl,i1,i2⟩:=cJ hp.1;obtain⟨j,rfl,j1,j2⟩:=cJ hp.2;unfold dg at hr;rw[Oc]at hr;have hr2:((r.all λu=>a6 u 0 99)&&(match nums r with|some m=>qe m|none=>ZD))=ZC:=hr.2;rw[Oc]at hr2;obtain⟨m,em⟩:=tM hr2.1;have e:=pf em;subst e;rw[Oa]at h1 h4;exact⟨i,j,m,rfl,⟨by omega,by omega⟩,⟨by omega,by omega⟩,h1,h4⟩
noncomputable def xB(n:Nat)(t:T):List T:=match t with
 |.tup [.int x,.int y,.tup r] =>match nums r with
  |some m=>cB n x y m
  |none=>[]
 |_=>[]
noncomputable def bC:Nat->List T->List T
 |_,[] =>[]
 |i,c::r=>xB i c++bC (i+1) r
noncomputable def lB(t:T):List T:=match t with
 |.tup [a,b,.int le,mo] =>.tup [b,a,.int (-le)] ::(if mo.isN then []else [.tup [a,b,mo]])
 |_=>[]
noncomputable def Kv(cs ls:List T):List T:=bC 0 cs++ls.flatMap lB
def yy(n:Nat)(x y:Int)(r:List Int):xB n (.tup [.int x,.int y,.tup (r.map .int)])=cB n x y r:=by unfold xB;simp only[ph]
def Kt(n:Nat)(x y:Int)(r:List Int):(cB n x y r).length=2*(r.length - 1):=by
 unfold cB;rw[List.length_flatMap];have:∀l:List Nat,(l.map λk=>(pr n x y r k).length).sum=2*l.length:=by
  intro l;induction l with
  |nil=>rfl
  |cons a l ih=>rw[Of,Ql,ih,Og];simp[pr];omega
 rw[this,Qo]
def Bq{t:T}(h:bj t=ZC):(xB n t).length<=6:=by obtain⟨x,y,r,rfl,_,_,h1,h4⟩:=fg h;rw[yy,Kt];omega
theorem yb:∀{cs:List T}{i:Nat},(∀c∈cs,bj c=ZC)->(bC i cs).length<=6*cs.length
 |[],i,_=>by simp[bC]
 |c::cs,i,h=>by rw[bC,Oh,Og];have:=Bq (n:=i) (h c Oe);have:=yb (i:=i+1) λc hc=>h c (N8 _ hc);omega
def CP(t:T):(lB t).length<=2:=by
 unfold lB;split
 .rename_i a b le mo;cases mo.isN <;> simp
 .simp
theorem zp:∀(ls:List T),(ls.flatMap lB).length<=2*ls.length
 |[] =>by simp
 |t::ls=>by rw[RA,Oh,Og];have:=CP t;have:=zp ls;omega
variable{cs:List T}
def jw{t:T}(h:bp cs t=ZC):∃(a b mo:T)(le:Int),t=.tup [a,b,.int le,mo]/\aw cs a=ZC/\aw cs b=ZC:=by obtain⟨a,b,x,y,rfl,hd,ha,hb,_⟩:=cZ h;unfold dN at hd;rw[Oc]at hd;obtain⟨i,rfl,_⟩:=cJ hd.1;exact⟨a,b,y,i,rfl,ha,hb⟩
def AW{t:T}(h:bp cs t=ZC):cg [t]=.ok (.lst (lB t)):=by
 obtain⟨a,b,mo,le,rfl,_,_⟩:=jw h;refine a0 rfl ?_;show dR [.va (.tup [a,b,.int le,mo]),.em]=_;unfold dR;rw[aB (Z':=[.va (.tup [a,b,.int le,mo]),.ow (.lst [.tup [b,a,.int (-le)]])]) (xJ (ar (cq (ar rfl (ar rfl (ar rfl rfl))) (aE (k:=3) (by simp))) rfl) (by simp) (by simp))];have e:∀(Z:En) l,Z=[.va (.tup [a,b,.int le,mo]),.ow (.lst l)]->o2 jl (o2 aR (vr 0) (cn (.int 3))) (cn .non) Z=.ok (.bl (!mo.isN)):=λZ l z=>by subst z;rfl
 have e2:lB (.tup [a,b,.int le,mo])=.tup [b,a,.int (-le)] ::(if mo.isN then []else [.tup [a,b,mo]]):=rfl;rw[e2];cases q:mo.isN with
 |true=>
  rw[aB ((eE (bW (by rw[e _ _ rfl,q];rfl))).trans rfl)];rfl
 |false=>
  rw[aB ((eU (bW (by rw[e _ _ rfl,q];rfl))).trans (lG (cq (ar rfl (ar rfl (ar rfl rfl))) (aE (k:=3) (by simp))) rfl (by simp)))];rfl
abbrev bdG:T->En->Rs En:=gT 2 (vP (gN 2) (vP (gN 3) Ek))
theorem zV(R:T)(s4:Sl):∀(cs:List T)(acc:List T)(i:Nat)(s2 s3:Sl),(∀c∈cs,bj c=ZC)->acc.length+6*cs.length<=100 ->
  ∃y2 y3,bq bdG bdF (dE i cs) [.va R,.ow (.lst acc),s2,s3,s4]=.ok (.nx [.va R,.ow (.lst (acc++bC i cs)),y2,y3,s4])
 |[],acc,i,s2,s3,_,_=>⟨s2,s3,by simp[dE,bq,bC]⟩
 |c::cs,acc,i,s2,s3,hc,hl=>by
  have h0:=hc c Oe;have hx:=Bq (n:=i) h0;obtain⟨x,y,r,rfl,a1,a2,a3,a4⟩:=fg h0;rw[Og]at hl;rw[yy]at hx;have st:bdF [.va R,.ow (.lst acc),.va (.int i),.va (.tup [.int x,.int y,.tup (r.map .int)]),s4]=.ok (.nx [.va R,.ow (.lst (acc++cB i x y r)),.va (.int i),.va (.tup [.int x,.int y,.tup (r.map .int)]),s4]):=
   C7 (aH rfl (DF i x y r a1 a2 a3 a4)) rfl (by omega)
  obtain⟨z2,z3,ih⟩:=zV R s4 cs (acc++cB i x y r) (i+1) (.va (.int i)) (.va (.tup [.int x,.int y,.tup (r.map .int)])) (λc h=>hc c (N8 _ h)) (by rw[Oh];omega);refine⟨z2,z3,?_⟩;rw[dE,eC rfl st,ih,bC,yy,O8]
abbrev blF:W4:=oP 1 (cl cg (ae (vr 4) aj))
theorem zU(R:T)(cs:List T)(s2 s3:Sl):∀(ls:List T)(acc:List T)(s4:Sl),(∀t∈ls,bp cs t=ZC)->acc.length+2*ls.length<=100 ->
  ∃y4,bq (gN 4) blF ls [.va R,.ow (.lst acc),s2,s3,s4]=.ok (.nx [.va R,.ow (.lst (acc++ls.flatMap lB)),s2,s3,y4])
 |[],acc,s4,_,_=>⟨s4,by simp[bq]⟩
 |t::ls,acc,s4,hl,hn=>by rw[Og]at hn;have:=CP t;have st:blF [.va R,.ow (.lst acc),s2,s3,.va t]=.ok (.nx [.va R,.ow (.lst (acc++lB t)),s2,s3,.va t]):=C7 (aH rfl (AW (hl t Oe))) rfl (by omega);obtain⟨y4,ih⟩:=zU R cs s2 s3 ls (acc++lB t) (.va t) (λu h=>hl u (N8 _ h)) (by rw[Oh];omega);refine⟨y4,?_⟩;rw[eC rfl st,ih,RA,O8]
variable{R:T}
def di(hp:R.pl=ZC)(h:dA R=ZC):aG [R]=.ok .non:=by refine pL (Z:=[.va R]) rfl ?_;show dF [.va R]=_;unfold dF;exact(eE ((fN (k:=ZC) (bW (aH rfl (by rw[v3 R hp,h])))))).trans rfl
def AB(hp:R.pl=ZC)(h:dA R=ZD):aG [R]=.err "NoRecord":=by refine pM rfl ?_;show dF [.va R]=_;unfold dF;exact(eU ((fN (k:=ZD) (bW (aH rfl (by rw[v3 R hp,h])))))).trans rfl
structure Good (cs ls:List T):Prop where
 c:aX (.tup cs)=ZC
 l:∀t∈ls,bp cs t=ZC
 n:ls.length<=8
 p:(RR cs ls).pl=ZC
variable{ls:List T}
def Good.ok(g:Good cs ls):dA (RR cs ls)=ZC:=by show(aX (.tup cs)&&(dt (.tup ls) 0 8&&ls.all (bp cs)))=ZC;rw[g.c,Ry,Oc,OQ];exact⟨by simp[dt];exact g.n,g.l⟩
def DD(g:Good cs ls):fZ [RR cs ls]=.ok (.lst (Kv cs ls)):=by obtain⟨hc,c1,c4⟩:=bf g.c;have hn:=g.n;refine a0 rfl ?_;show qb [.va (RR cs ls),.em,.em,.em,.em]=_;unfold qb;rw[aB (hZ (aH rfl (di g.p g.ok)))];rw[aB (Z':=[.va (RR cs ls),.ow (.lst []),.em,.em,.em]) (xK (by simp))];obtain⟨y2,y3,e⟩:=zV (RR cs ls) .em cs [] 0 .em .em hc (by simp;omega);rw[aB ((gA rfl e))];have:=yb (i:=0) hc;obtain⟨y4,e2⟩:=zU (RR cs ls) cs y2 y3 ls ([] ++bC 0 cs) .em g.l (by rw[Q4];omega);rw[aB ((gA rfl e2))];rfl
def EY(n:Nat)(h:1<=n):rng 1 (n:Int)=(PJ (n - 1)).map λ(k:Nat)=>T.int ((k+1:Nat):Int):=by
 unfold rng;have:((n:Int) - 1).toNat=n - 1:=by omega
 rw[this];exact PD λk _=>congrArg T.int (by omega)
variable{Z:En}
def iR2{f:W3}{i:Int}(h:f Z=.ok [.int i,.int j])(h0:0<=i)(h1:i<=100000)(h2:0<=j)(h3:j<=100000):iR f Z=.ok (rng i j):=by
 unfold iR;rw[h];have e:(xR i&&xR j)=ZC:=by unfold xR;simp;omega
 show(if (xR i&&xR j)=ZC then _ else _)=_;rw[e];rfl
variable{l:List T}
def fV:(T.tup l).pl=plS l:=by unfold T.pl;rfl
def Good.parts(g:Good cs ls):(T.tup cs).pl=ZC/\∀t∈ls,t.pl=ZC:=by have:=g.p;rw[fV]at this;unfold plS at this;rw[Oc]at this;have h2:=this.2;unfold plS at h2;rw[Oc,fV]at h2;exact⟨this.1,λt ht=>fQ h2.1 ht⟩
def Good.sub{ms:List T}(g:Good cs ls)(hm:∀t∈ms,t∈ls)(hn:ms.length<=8):Good cs ms:=⟨g.c,λt ht=>g.l t (hm t ht),hn,by
 obtain⟨h1,h2⟩:=g.parts;rw[fV];refine eg λt ht=>?_;simp only[Oj,PF,or_false]at ht;rcases ht with rfl|rfl
 .exact h1
 .rw[fV];exact eg λt ht=>h2 t (hm t ht)⟩
variable{y:T}
def vW(h:aw cs y=ZC):y.pl=ZC/\y.dep<=1:=by obtain⟨c,k,rfl⟩:=aK h;exact⟨rfl,by simp[T.dep,deps]⟩
def LV{a b x:T}(h:bp cs (.tup [a,b,x,y])=ZC):y.pl=ZC/\y.dep=0:=by
 obtain⟨a',b',x',y',e,hd,_⟩:=cZ h;cases e;unfold dN at hd;rw[Oc]at hd;obtain⟨i,rfl,_⟩:=cJ hd.1;cases y with
 |non=>exact⟨rfl,rfl⟩
 |int j=>exact⟨rfl,rfl⟩
 |bl j=>exact⟨rfl,rfl⟩
 |str j=>exact⟨rfl,rfl⟩
 |tup j=>cases hd.2
 |lst j=>cases hd.2
 |scr j=>cases hd.2
 |dct _ _=>cases hd.2
 |ob _ _ _=>cases hd.2
def yS(c0 s1:Sl)(x y:T)(r:List T)(i:Nat)(h:r.length<=4):
  fE (iR (ae (cl cS (ae (o2 aR (vr 3) (cn (.int 2))) aj)) aj)) [ZB,ZA 2] (gN 0) bT (ba (ae (vr 1) (ae (vr 0) aj))) [c0,s1,.va (.int i),.va (.tup [x,y,.tup r])]=.ok (.lst (kg i r.length)):=
 nE (Gk rfl (by omega) (by omega)) (aE (by rw[iu];exact h)) (by simp) λt _=>mk2 _ _
theorem yR:∀(cs:List T)(c0:T)(acc:List T)(i:Nat)(s2 s3:Sl),(∀c∈cs,bj c=ZC)->acc.length+4*cs.length<=100 ->
  ∃y2 y3,bq evG peF (dE i cs) [.va c0,.ow (.lst acc),s2,s3]=.ok (.nx [.va c0,.ow (.lst (acc++b8 i cs)),y2,y3])
 |[],c0,acc,i,s2,s3,_,_=>⟨s2,s3,by simp[dE,bq,b8]⟩
 |c::cs,c0,acc,i,s2,s3,hc,hl=>by obtain⟨x,y,r,rfl,r1,r2⟩:=gB (hc c Oe);rw[Og]at hl;have st:peF [.va c0,.ow (.lst acc),.va (.int i),.va (.tup [x,y,.tup r])]=.ok (.nx [.va c0,.ow (.lst (acc++kg i r.length)),.va (.int i),.va (.tup [x,y,.tup r])]):=C7 (yS _ _ x y r i r2) rfl (by rw[jA];omega);obtain⟨z2,z3,ih⟩:=yR cs c0 (acc++kg i r.length) (i+1) (.va (.int i)) (.va (.tup [x,y,.tup r])) (λc h=>hc c (N8 _ h)) (by rw[Oh,jA];omega);refine⟨z2,z3,?_⟩;rw[dE,eC rfl st,ih,b8,O8];rfl
def u9(g:Good cs ls):fY [RR cs ls]=.ok (.lst (b8 0 cs)):=by obtain⟨hc,c1,c4⟩:=bf g.c;refine a0 rfl ?_;show p9 [.va (RR cs ls),.em,.em,.em]=_;unfold p9;rw[aB (hZ (aH rfl (di g.p g.ok)))];rw[aB (Z':=[.va (RR cs ls),.ow (.lst []),.em,.em]) (xK (by simp))];obtain⟨y2,y3,e⟩:=yR cs (RR cs ls) [] 0 .em .em hc (by simp;omega);rw[aB ((gA rfl e))];rfl
def tQ{t:T}(g:Good cs ls)(ht:t.pl=ZC)(h:aw cs t=ZC):cX [RR cs ls,t]=.ok .non:=by refine pL (Z:=[.va (RR cs ls),.va t]) rfl ?_;show iI [.va (RR cs ls),.va t]=_;unfold iI;exact(eE ((fN (k:=ZC) (bW (aH rfl (by rw[uf cs t g.c ht,h])))))).trans rfl
def p2{a b:W5}{t u:T}(ha:a Z=.ok t)(hb:b Z=.ok u):ba (ae a (ae b aj)) Z=.ok (.tup [t,u]):=cq (ar ha (ar hb rfl)) (aE (k:=2) (by simp))
def qR:gD [.lst l]=.ok (.tup l):=rfl
def GK(g:Good cs ls):(Kv cs ls).length<=60:=by unfold Kv;rw[Oh];obtain⟨hc,c1,c4⟩:=bf g.c;have:=yb (i:=0) hc;have:=zp ls;have:=g.n;omega
open Gr
structure N2 where
 c:Int
 k:Int
deriving DecidableEq
theorem N2.ext':∀{u v:N2},u.c=v.c->u.k=v.k->u=v
 |⟨_,_⟩,⟨_,_⟩,rfl,rfl=>rfl
noncomputable def en(v:N2):T:=.tup [.int v.c,.int v.k]
noncomputable def eB(x:N2×N2×Int):T:=.tup [en x.1,en x.2.1,.int x.2.2]
def eN(ks:List Nat):List T:=ks.map λk=>.int (k:Nat)
noncomputable def eW(x:Int×List Nat):T:=.tup [.int x.1,.lst (eN x.2)]
noncomputable def ky(v:N2):List L2.Key:=[.inl v.c,.inl v.k]
def cT(v:N2):keyOf (en v)=ZA (ky v):=rfl
variable{v:N2}
def tT{u:N2}(h:ZA (ky u)=ZA (ky v)):u=v:=by injection h with h;injection h with h1 h2;injection h2 with h2 _;injection h1 with h1;injection h2 with h2;exact N2.ext' h1 h2
def ue{u:N2}(h:en u=en v):u=v:=tT (by rw[<-cT u,<-cT v,h])
def DV(u v:N2):aW (en u) (en v)=decide (u=v):=by
 unfold en aW beqTs aW beqTs beqTs;by_cases h:u=v
 .subst h;simp[aW]
 .have:¬ (u.c=v.c/\u.k=v.k):=λz=>h (N2.ext' z.1 z.2);simp[h,aW];exact λz=>λy=>this ⟨z,y⟩
theorem zN(g:N2->T)(v:N2):∀(ns:List N2),kP (ns.map en) (ns.map g) (ky v)=if v∈ns then ZA (g v)else ZB
 |[] =>rfl
 |u::ns=>by
  rw[Of,Of,kP,cT];by_cases h:u=v
  .subst h;rw[if_pos rfl,if_pos Oe]
  .rw[if_neg (λz=>h (tT z)),zN g v ns];have:(v∈u::ns)↔v∈ns:=by rw[Oj];exact⟨λz=>z.elim (λy=>absurd y.symm h) id,.inr⟩
   simp only[this]
theorem pR(x:T)(v:N2)(g:N2->T):∀(ns:List N2),v∉ns->gb (en v) x (ns.map en) (ns.map g)=(ns.map en++[en v],ns.map g++[x])
 |[],_=>rfl
 |u::ns,h=>by rw[Oj,not_or]at h;rw[Of,Of,gb,cT,cT,if_neg (λz=>h.1 (tT z).symm),pR x v g ns h.2];rfl
theorem zM(x:T)(v:N2)(g:N2->T):∀(ns:List N2),ns.Nodup->v∈ns->gb (en v) x (ns.map en) (ns.map g)=(ns.map en,ns.map λu=>if u=v then x else g u)
 |[],_,h=>by simp at h
 |u::ns,hn,h=>by
  rw[O4]at hn;rw[Of,Of,Of,gb,cT,cT];by_cases z:u=v
  .subst z;rw[if_pos rfl,if_pos rfl];congr 2;exact PD λw hw=>by rw[if_neg (λ(y:w=u)=>hn.1 (y▸hw))]
  .rw[if_neg (λy=>z (tT y)),if_neg z];have h':v∈ns:=(Oj.mp h).elim (λy=>absurd y.symm z) id;rw[zM x v g ns hn.2 h']
theorem jP [DecidableEq α]:∀{l m:List α},l.Nodup->(∀x∈l,x∈m)->l.length<=m.length
 |[],_,_,_=>Pn _
 |x::l,m,hn,h=>by rw[O4]at hn;have hx:=h x Oe;have:=jP hn.2 λy hy=>(UC (λ(z:y=x)=>hn.1 (z▸hy))).mpr (h y (N8 _ hy));rw[List.length_erase_of_mem hx]at this;have:0<m.length:=List.length_pos_of_mem hx;rw[Og];omega
noncomputable def oW(o:Option (Int×List Nat)):T:=match o with
 |some x=>eW x
 |none=>.non
structure DR (P ns:List N2)(b:cp N2):Prop where
 nd:ns.Nodup
 mem:∀v,v∈ns↔(b v).isSome=ZC
 sub:∀v∈ns,v∈P
noncomputable def dV(ns:List N2)(b:cp N2):List T:=ns.map λv=>oW (b v)
variable{P ns:List N2}{b:cp N2}
def DR.get(D:DR P ns b)(v:N2):kP (ns.map en) (dV ns b) (ky v)=(b v).map eW:=by
 unfold dV;rw[zN (λv=>oW (b v))];have:=D.mem v;cases q:b v with
 |none=>rw[q]at this;rw[if_neg (λz=>by simpa using this.mp z)];rfl
 |some x=>rw[q]at this;rw[if_pos (this.mpr rfl)];rfl
def DR.put(D:DR P ns b)(hv:v∈P)(y:Int×List Nat):∃ns',DR P ns' (Gr.put b v y)/\gb (en v) (eW y) (ns.map en) (dV ns b)=(ns'.map en,dV ns' (Gr.put b v y)):=by
 by_cases h:v∈ns
 .refine⟨ns,⟨D.nd,λu=>?_,D.sub⟩,?_⟩
  .by_cases z:u=v
   .subst z;rw[ee];exact⟨λ_=>rfl,λ_=>h⟩
   .rw[kG z];exact D.mem u
  .unfold dV;rw[zM _ _ _ _ D.nd h];congr 1;refine PD λu _=>?_;by_cases z:u=v
   .subst z;rw[if_pos rfl,ee];rfl
   .rw[if_neg z,kG z]
 .refine⟨ns++[v],⟨?_,λu=>?_,λu hu=>?_⟩,?_⟩
  .exact Pc.mpr ⟨D.nd,by simp,λx hx y hy=>by simp at hy;subst hy;exact λz=>h (z▸hx)⟩
  .rw[Ox,Oi];by_cases z:u=v
   .subst z;rw[ee];exact⟨λ_=>rfl,λ_=>.inr rfl⟩
   .rw[kG z,<-D.mem u];exact⟨λw=>w.elim id λy=>absurd y z,.inl⟩
  .rcases Ox.mp hu with w|w
   .exact D.sub u w
   .rw[Oi.mp w];exact hv
  .unfold dV;rw[pR _ _ _ _ h,Py,Py];congr 1;congr 1
   .refine PD λu hu=>?_;rw[kG (λ(z:u=v)=>h (z▸hu))]
   .simp[ee,oW]
def DE(D:DR P ns b)(x:N2×N2×Int)(d:Int)(w:List Nat):
  dm [.dct (ns.map en) (dV ns b),eB x,eW (d,w)]=.ok (.bl (eG b x.2.1 (d+x.2.2))):=by
 refine a0 rfl ?_;show jF [.va (.dct (ns.map en) (dV ns b)),.va (eB x),.va (eW (d,w)),.em]=_;unfold jF;have g:oD i6 (vr 0) (o2 aR (vr 1) (cn (.int 1))) [.va (.dct (ns.map en) (dV ns b)),.va (eB x),.va (eW (d,w)),.em]=.ok (oW (b x.2.1)):=by refine Mc rfl rfl ?_;unfold i6;rw[cT];simp only[D.get];cases b x.2.1 <;> rfl
 rw[aB (cK g rfl)];refine bH ?_;unfold eG;cases q:b x.2.1 with
 |none=>exact CY (aJ rfl rfl rfl)
 |some y=>exact(CZ (aJ rfl rfl rfl)).trans (aJ rfl rfl rfl)
noncomputable abbrev MV:T->En->Rs En:=gT 2 (vP (gN 4) (vP (gN 5) Ek))
def eL(L:df N2):T:=.lst (L.map eB)
noncomputable def BF(L:df N2)(t:T):T:=match t with
 |.int j=>match L[j.toNat]? with
  |some x=>en x.1
  |none=>.non
 |_=>.non
variable{L:df N2}
theorem yZ:∀{ks:List Nat}{a b:N2},Ch L a ks b->(eN ks).map (BF L)=(fA L ks).map en
 |[],_,_,_=>rfl
 |k::r,a,b,h=>by rw[h.Nd];obtain⟨c,m,e,h⟩:=h;show BF L (.int k)::(eN r).map (BF L)=en a::(fA L r).map en;rw[yZ h];congr 1;unfold BF;simp only[Qa,e]
theorem DZ(v:N2):∀(l:List N2),eV (en v) (l.map en)=decide (v∈l)
 |[] =>rfl
 |u::l=>by
  have ih:=DZ v l;unfold eV at ih ⊢;rw[Of,Rb,ih,DV];by_cases h:u=v
  .subst h;simp
  .have h':¬ v=u:=λz=>h z.symm;simp[h,h']
theorem vS(v:N2):∀(l:List N2)(n:Nat),v∈l->j5 (en v) (l.map en) n=ZA (n+l.idxOf v)
 |[],n,h=>by simp at h
 |u::l,n,h=>by
  rw[Of,j5,DV,Wv];by_cases z:u=v
  .subst z;simp
  .have h':v∈l:=(Oj.mp h).elim (λy=>absurd y.symm z) id;have zb:(u == v)=ZD:=by rw[beq_eq_false_iff_ne];exact z
   rw[zb,decide_eq_false z,if_neg OB,vS v l (n+1) h'];simp only[cond_false];congr 1;omega
def Hj(v:N2):(en v).nd=ZC:=rfl
theorem tR(f:α->T)(h:∀a,(f a).nd=ZC):∀l:List α,nds (l.map f)=ZC
 |[] =>rfl
 |a::l=>by rw[Of,nds,h a,tR f h l];rfl
def DL(v:N2):(en v).dep<=60:=by show(T.tup [.int v.c,.int v.k]).dep<=60;simp[T.dep,deps]
def Mt(v:N2)(l:List N2):Hu (en v) (.lst (l.map en))=.ok (.bl (decide (v∈l))):=by show(if (_\/_)/\_/\(T.lst (l.map en)).nd=ZC then _ else _)=_;rw[if_pos ⟨.inl (DL v),rfl,tR en Hj l⟩,DZ]
def Dg(v:N2)(l:List N2)(h:v∈l):gw (.lst (l.map en)) (en v)=.ok (.int ((l.idxOf v:Nat):Int)):=by unfold gw;simp only;rw[if_pos ⟨.inl (DL v),rfl,tR en Hj l⟩,vS v l 0 h,VS]
def Ki(p q:List Nat):eN (p++q)=eN p++eN q:=by unfold eN;rw[Py]
theorem Cu(D:Bool):∀ks:List Nat,nks D (eN ks)=ZC
 |[] =>rfl
 |k::r=>by show nks D (.int k::eN r)=ZC;unfold nks;rw[Cu D r];rfl
variable{a:N2}
def Ch.len{b:N2}(h:Ch L a ks b)(hn:(fA L ks).Nodup):ks.length<=L.length:=by have:=jP (h.nodup hn) λk hk=>PZ.mpr (h.lt k hk);rwa [Qo]at this
noncomputable abbrev sE(L:df N2)(st:T)(o:OT)(b:Bool)(k:Nat)(x:N2×N2×Int)(s6 s7 s8:Sl):En:=[.va (eL L),.va st,.ow o,.va (.bl b),.va (.int k),.va (eB x),s6,s7,s8]
def HD(L:df N2)(P ns:List N2)(b:cp N2)(k:Nat)(x:N2×N2×Int)(st:T)(mv:Bool)(s6 s7 s8:Sl):Sum (Option (cp N2)) (List Nat)->Prop
 |.inl ZB=>∃s6' s7' s8',Eh (sE L st (.dct (ns.map en) (dV ns b)) mv k x s6 s7 s8)=.ok (.ct (sE L st (.dct (ns.map en) (dV ns b)) mv k x s6' s7' s8'))
 |.inl (ZA b')=>∃ns' s6' s7' s8',DR P ns' b'/\Eh (sE L st (.dct (ns.map en) (dV ns b)) mv k x s6 s7 s8)=.ok (.nx (sE L st (.dct (ns'.map en) (dV ns' b')) ZC k x s6' s7' s8'))
 |.inr q=>Eh (sE L st (.dct (ns.map en) (dV ns b)) mv k x s6 s7 s8)=.ok (.rt (.tup [.non,.lst (eN q)]))
variable{S:List N2}
def EW{x:N2×N2×Int}(K:Kept L S b)(D:DR P ns b)(hL:L.length<=500)(hP:P.length<1000)(e:L[k]?=ZA x)(hx:x.2.1∈P)(st:T)(mv:Bool)(s6 s7 s8:Sl):
  HD L P ns b k x st mv s6 s7 s8 (hV L b k x):=by
 obtain⟨a,c,m⟩:=x;unfold HD;generalize hks:ns.map en=ks;generalize hvs:dV ns b=vs;have get:∀s7 s8,ln 2 (oD i6 (vr 2) (o2 aR (vr 5) (cn (.int 0)))) (sE L st (.dct ks vs) mv k (a,c,m) s6 s7 s8)=.ok (oW (b a)):=λs7 s8=>by
  refine C5 rfl (Mc rfl rfl ?_) ?_
  .unfold i6;rw[cT,<-hks,<-hvs];simp only[D.get];cases b a <;> rfl
  .cases b a with
   |none=>rfl
   |some y=>show nks ZC [.int y.1,.lst (eN y.2)]=ZC;simp[nks,T.nk,Cu]
 have s1:∀G,aF (dh (ln 2 (oD i6 (vr 2) (o2 aR (vr 5) (cn (.int 0))))) (gN 6)) G (sE L st (.dct ks vs) mv k (a,c,m) s6 s7 s8)=G (sE L st (.dct ks vs) mv k (a,c,m) (.va (oW (b a))) s7 s8):=λG=>
  aB (cK (get s7 s8) rfl)
 cases qa:b a with
 |none=>
  rw[show hV L b k (a,c,m)=.inl ZB from by unfold hV;simp only[qa]];simp only;refine⟨.va .non,s7,s8,?_⟩;unfold Eh;rw[s1,qa];exact CW (eU (zu (bW (aJ rfl rfl rfl))))
 |some y=>
  obtain⟨d,w⟩:=y;have bt:∀s7 s8,Bd 2 (tb (cl dm (ae (vr 2) (ae (vr 5) (ae (vr 6) aj))))) (sE L st (.dct ks vs) mv k (a,c,m) (.va (eW (d,w))) s7 s8)=.ok (eG b c (d+m)):=λs7 s8=>by refine C4 (bW (aH rfl ?_));rw[<-hks,<-hvs];exact DE D (a,c,m) d w
  have nn:tb (o2 lI (vr 6) (cn .non)) (sE L st (.dct ks vs) mv k (a,c,m) (.va (eW (d,w))) s7 s8)=.ok ZD:=bW (aJ rfl rfl rfl);have cond:=rq nn (fN (bt s7 s8));have s1':∀G,aF (dh (ln 2 (oD i6 (vr 2) (o2 aR (vr 5) (cn (.int 0))))) (gN 6)) G (sE L st (.dct ks vs) mv k (a,c,m) s6 s7 s8)=G (sE L st (.dct ks vs) mv k (a,c,m) (.va (eW (d,w))) s7 s8):=λG=>by rw[s1 G,qa];rfl
  cases hb:eG b c (d+m)with
  |false=>
   rw[show hV L b k (a,c,m)=.inl ZB from by unfold hV;simp only[qa,hb];rfl];simp only;rw[hb]at cond;refine⟨.va (eW (d,w)),s7,s8,?_⟩;unfold Eh;rw[s1'];exact CW (eU cond)
  |true=>
   rw[hb]at cond;obtain⟨s,hs,h1,h2,h3,h4,h5⟩:=K.walk a d w qa;have hch:Ch L s (w++[k]) c:=h1.snoc e;have hwl:w.length<=500:=OV (Ch.len h1 h4) hL;have s2:∀G,aF (i7 (y8 (tb (o2 lI (vr 6) (cn .non))) (eZ (Bd 2 (tb (cl dm (ae (vr 2) (ae (vr 5) (ae (vr 6) aj)))))))) K8 sN) G (sE L st (.dct ks vs) mv k (a,c,m) (.va (eW (d,w))) s7 s8)=G (sE L st (.dct ks vs) mv k (a,c,m) (.va (eW (d,w))) s7 s8):=λG=>
    aB ((eE cond).trans rfl)
   have wk:o2 aQ (o2 aR (vr 6) (cn (.int 1))) (gc (ae (vr 4) aj)) (sE L st (.dct ks vs) mv k (a,c,m) (.va (eW (d,w))) s7 s8)=.ok (.lst (eN (w++[k]))):=by refine aJ rfl (mS rfl (aE (k:=1) (by simp))) ?_;show i0 (eN w++eN [k])=_;rw[<-Ki];unfold i0;rw[if_pos (aE (k:=1000) (by unfold eN;rw[Oa,Oh];simp;omega))]
   have s3:∀G,aF (dh (o2 aQ (o2 aR (vr 6) (cn (.int 1))) (gc (ae (vr 4) aj))) (gN 7)) G (sE L st (.dct ks vs) mv k (a,c,m) (.va (eW (d,w))) s7 s8)=G (sE L st (.dct ks vs) mv k (a,c,m) (.va (eW (d,w))) (.va (.lst (eN (w++[k])))) s8):=λG=>aB (cK wk rfl);have ps:fE (iS (vr 7)) [ZB,ZA 0] (gN 0) bT (o2 aR (o2 aR (vr 1) (vr 0)) (cn (.int 0))) (sE L st (.dct ks vs) mv k (a,c,m) (.va (eW (d,w))) (.va (.lst (eN (w++[k])))) s8)=.ok (.lst ((fA L (w++[k])).map en)):=by rw[<-yZ hch];refine nE (kx rfl) (aE (k:=1000) (by unfold eN;rw[Oa,Oh];simp;omega)) (by simp) λt ht=>?_;unfold eN at ht;obtain⟨j,hj,rfl⟩:=OJ.mp ht;have hjl:=hch.lt j hj;refine aJ (Mi rfl rfl (by rw[OH,OA hjl];rfl)) rfl ?_;unfold BF;simp only[Qa,OA hjl];rfl
   have s4:∀G,aF (dh (fE (iS (vr 7)) [ZB,ZA 0] (gN 0) bT (o2 aR (o2 aR (vr 1) (vr 0)) (cn (.int 0)))) (gN 8)) G (sE L st (.dct ks vs) mv k (a,c,m) (.va (eW (d,w))) (.va (.lst (eN (w++[k])))) s8)=G (sE L st (.dct ks vs) mv k (a,c,m) (.va (eW (d,w))) (.va (.lst (eN (w++[k])))) (.va (.lst ((fA L (w++[k])).map en)))):=λG=>aB (cK ps rfl);have inn:tb (o2 Hu (o2 aR (vr 5) (cn (.int 1))) (vr 8)) (sE L st (.dct ks vs) mv k (a,c,m) (.va (eW (d,w))) (.va (.lst (eN (w++[k])))) (.va (.lst ((fA L (w++[k])).map en))))=.ok (decide (c∈fA L (w++[k]))):=
    bW (aJ rfl rfl (Mt c _))
   by_cases hn:c∈fA L (w++[k])
   .rw[show hV L b k (a,c,m)=.inr ((w++[k]).drop ((fA L (w++[k])).idxOf c))from by unfold hV;simp only[qa,hb,if_pos hn,if_true]];simp only;unfold Eh;rw[s1',s2,s3,s4];rw[decide_eq_true hn]at inn;refine gH ((eU inn).trans (bH ?_));have sle:sl (vr 7) (pS (oL gw (vr 8) (o2 aR (vr 5) (cn (.int 1))))) pN (sE L st (.dct ks vs) mv k (a,c,m) (.va (eW (d,w))) (.va (.lst (eN (w++[k])))) (.va (.lst ((fA L (w++[k])).map en))))=.ok (.lst (eN ((w++[k]).drop ((fA L (w++[k])).idxOf c)))):=by rw[Ho rfl (JQ (Ma rfl rfl (Dg c _ hn))) rfl,wc];unfold eN;rw[List.map_drop]
    exact(cq (ar rfl (ar sle rfl)) (aE (k:=2) (by simp)))
   .rw[show hV L b k (a,c,m)=.inl (ZA (Gr.put b c (d+m,w++[k])))from by unfold hV;simp only[qa,hb,if_neg hn,if_true]];simp only;rw[decide_eq_false hn]at inn;obtain⟨ns',D',hd⟩:=D.put hx (d+m,w++[k]);refine⟨ns',.va (eW (d,w)),.va (.lst (eN (w++[k]))),.va (.lst ((fA L (w++[k])).map en)),D',?_⟩;unfold Eh;rw[s1',s2,s3,s4];rw[aB ((eE inn).trans rfl)];have pt:Ak 2 (o2 aR (vr 5) (cn (.int 1))) (ba (ae (o2 aQ (o2 aR (vr 6) (cn (.int 0))) (o2 aR (vr 5) (cn (.int 2)))) (ae (vr 7) aj))) (sE L st (.dct ks vs) mv k (a,c,m) (.va (eW (d,w))) (.va (.lst (eN (w++[k])))) (.va (.lst ((fA L (w++[k])).map en))))
      = .ok (.nx (sE L st (.dct (ns'.map en) (dV ns' (Gr.put b c (d+m,w++[k])))) mv k (a,c,m) (.va (eW (d,w))) (.va (.lst (eN (w++[k])))) (.va (.lst ((fA L (w++[k])).map en))))):=by
     have ev:ba (ae (o2 aQ (o2 aR (vr 6) (cn (.int 0))) (o2 aR (vr 5) (cn (.int 2)))) (ae (vr 7) aj)) (sE L st (.dct ks vs) mv k (a,c,m) (.va (eW (d,w))) (.va (.lst (eN (w++[k])))) (.va (.lst ((fA L (w++[k])).map en))))=.ok (eW (d+m,w++[k])):=
      cq rfl (aE (k:=2) (by simp))
     have ek:o2 aR (vr 5) (cn (.int 1)) (sE L st (.dct ks vs) mv k (a,c,m) (.va (eW (d,w))) (.va (.lst (eN (w++[k])))) (.va (.lst ((fA L (w++[k])).map en))))=.ok (en c):=rfl;show(ba _ _ >>= λv=>o2 aR (vr 5) (cn (.int 1)) _ >>= λkk=>match keyOf kk with|some _=>if ks.length<1000 then Rs.ok (Fl.nx _)else .bad|none=>.bad)=_;rw[ev,ax,ek,ax,cT];have hlen:ks.length<1000:=by rw[<-hks,Oa];exact Rl (jP D.nd D.sub) hP
     simp only[if_pos hlen];have hd1:gb (en c) (eW (d+m,w++[k])) ks vs=(ns'.map en,dV ns' (Gr.put b c (d+m,w++[k]))):=by rw[<-hks,<-hvs];exact hd
     rw[hd1];rfl
    rw[aB pt];exact cK rfl rfl
noncomputable def BJ(L:df N2)(st:T)(ns:List N2)(b:cp N2)(mv:Bool)(s4 s5 s6 s7 s8:Sl):En:=[.va (eL L),.va st,.ow (.dct (ns.map en) (dV ns b)),.va (.bl mv),s4,s5,s6,s7,s8]
def D5(L:df N2)(P:List N2)(st:T)(X:Rs Fl):Sum (cp N2×Bool) (List Nat)->Prop
 |.inr q=>X=.ok (.rt (.tup [.non,.lst (eN q)]))
 |.inl (b',mv')=>∃ns' s4 s5 s6 s7 s8,DR P ns' b'/\X=.ok (.nx (BJ L st ns' b' mv' s4 s5 s6 s7 s8))
theorem sO{S:List N2}(hL:L.length<=500)(hP:P.length<1000)(hx:∀x∈L,x.2.1∈P)(st:T):∀(r:df N2)(k:Nat)(b:cp N2)(mv:Bool)(ns:List N2)(s4 s5 s6 s7 s8:Sl),L.drop k=r->Kept L S b->DR P ns b ->
  D5 L P st (bq MV Eh (dE k (r.map eB)) (BJ L st ns b mv s4 s5 s6 s7 s8)) (iP L k r b mv)
 |[],k,b,mv,ns,s4,s5,s6,s7,s8,_,K,D=>⟨ns,s4,s5,s6,s7,s8,D,rfl⟩
 |x::r,k,b,mv,ns,s4,s5,s6,s7,s8,hr,K,D=>by
  have e:L[k]?=ZA x:=by have:=congrArg (·[0]?) hr;simpa using this
  have hr':L.drop (k+1)=r:=by have:=congrArg (List.drop 1) hr;simpa [List.drop_drop,VL]using this
  have tg:MV (.tup [.int k,eB x]) (BJ L st ns b mv s4 s5 s6 s7 s8)=.ok [.va (eL L),.va st,.ow (.dct (ns.map en) (dV ns b)),.va (.bl mv),.va (.int k),.va (eB x),s6,s7,s8]:=rfl;have tn:=EW K D hL hP e (hx x (QY e)) st mv s6 s7 s8;rw[iP,Of,dE];cases q:hV L b k x with
  |inr w=>
   rw[q]at tn;simp only;unfold D5;exact zy tg tn
  |inl o=>
   rw[q]at tn;cases o with
   |none=>
    obtain⟨s6',s7',s8',tn⟩:=tn;simp only;rw[Gf tg tn];exact sO hL hP hx st r (k+1) b mv ns _ _ _ _ _ hr' K D
   |some b'=>
    obtain⟨ns',s6',s7',s8',D',tn⟩:=tn;simp only;rw[eC tg tn];refine sO (S:=S) hL hP hx st r (k+1) b' ZC ns' _ _ _ _ _ hr' ?_ D';obtain⟨a,c,m⟩:=x;unfold hV at q;cases qa:b a with
    |none=>simp only[qa]at q;cases q
    |some y=>
     obtain⟨d,w⟩:=y;simp only[qa]at q;split at q
     .rename_i hb;split at q
      .cases q
      .rename_i hn;cases q;exact K.put e qa hb hn
     .cases q
abbrev wF:W4:=aF (dh (cn (.bl ZD)) (gN 3)) (gE (iE (ae (vr 0) aj)) MV Eh)
def SetP(L:df N2)(P:List N2)(st:T)(X:Rs Fl):Sum (cp N2) (List Nat)->Prop
 |.inr q=>X=.ok (.rt (.tup [.non,.lst (eN q)]))
 |.inl b'=>∃ns' s4 s5 s6 s7 s8,DR P ns' b'/\X=.ok (.nx (BJ L st ns' b' ZD s4 s5 s6 s7 s8))
theorem uV(hL:L.length<=500)(hP:P.length<1000)(hx:∀x∈L,x.2.1∈P)(st:T):∀(n:Nat)(b:cp N2)(ns:List N2)(s4 s5 s6 s7 s8:Sl)(r:Sum (cp N2) (List Nat)),Kept L S b->DR P ns b->Gr.settle L n b=ZA r ->
  SetP L P st (bJ (tb (vr 3)) wF (n+1) (BJ L st ns b ZC s4 s5 s6 s7 s8)) r
 |0,_,_,_,_,_,_,_,_,_,_,h=>by cases h
 |n+1,b,ns,s4,s5,s6,s7,s8,r,K,D,h=>by
  have sw:=sO hL hP hx st L 0 b ZD ns s4 s5 s6 s7 s8 rfl K D;have ok:=ja L 0 b ZD rfl K;have body:∀X,bq MV Eh (dE 0 (L.map eB)) (BJ L st ns b ZD s4 s5 s6 s7 s8)=.ok X->wF (BJ L st ns b ZC s4 s5 s6 s7 s8)=.ok X:=λX hX=>by show aF _ _ _=_;rw[aB (cK rfl rfl)];exact gA (Mo rfl) hX
  have tt:tb (vr 3) (BJ L st ns b ZC s4 s5 s6 s7 s8)=.ok ZC:=rfl;rw[Gr.settle]at h;revert sw ok h;generalize iP L 0 L b ZD=R;intro h sw ok;cases R with
  |inr q=>
   simp only at h;cases h;exact CU tt (body _ sw)
  |inl p=>
   obtain⟨b',mv'⟩:=p;obtain⟨ns',t4,t5,t6,t7,t8,D',sw⟩:=sw;obtain⟨K',_⟩:=ok;cases mv' with
   |true=>
    simp only at h;have ih:=uV hL hP hx st n b' ns' t4 t5 t6 t7 t8 r K' D' h;rw[pK tt (body _ sw)];exact ih
   |false=>
    simp only at h;cases h;refine⟨ns',t4,t5,t6,t7,t8,D',?_⟩;rw[pK tt (body _ sw)];exact vL rfl
theorem ip{c:W6}{F:W4}{x:Fl}:∀{n m:Nat}{Z:En},n<=m->bJ c F n Z=.ok x->bJ c F m Z=.ok x
 |0,_,_,_,h=>by cases h
 |n+1,0,_,hl,_=>absurd hl (by omega)
 |n+1,m+1,Z,hl,h=>by
  unfold bJ at h ⊢;cases q:c Z with
  |bad=>rw[q]at h;cases h
  |err _=>rw[q]at h;cases h
  |ok k=>
   rw[q]at h;cases k with
   |false=>exact h
   |true=>
    simp only at h ⊢;cases q2:F Z with
    |bad=>rw[q2]at h;cases h
    |err _=>rw[q2]at h;cases h
    |ok f=>
     rw[q2]at h;cases f with
     |nx Z'=>exact ip (by omega) h
     |ct Z'=>exact ip (by omega) h
     |bk Z'=>exact h
     |rt t=>exact h
theorem BX(w:T):∀S:List N2,Hd (S.map λv=>.tup [en v,w])=ZA (S.map λv=>(en v,w))
 |[] =>rfl
 |v::S=>by rw[Of,Hd,cT,BX w S];rfl
theorem v8(w:T):∀(S ns:List N2)(g:N2->T),(ns++S).Nodup->(∀v∈S,g v=w)->f9 (S.map λv=>(en v,w)) (ns.map en,ns.map g)=((ns++S).map en,(ns++S).map g)
 |[],ns,g,_,_=>by rw[OS];rfl
 |v::S,ns,g,hn,hg=>by
  have hv:v∉ns:=λz=>by rw[Pc]at hn;exact hn.2.2 v z v Oe rfl
  rw[Of,f9,pR _ _ _ _ hv];have e1:ns.map en++[en v]=(ns++[v]).map en:=by rw[Py];rfl
  have e2:ns.map g++[w]=(ns++[v]).map g:=by rw[Py,<-hg v Oe];rfl
  rw[e1,e2,v8 w S (ns++[v]) g (by rw[O8];exact hn) λu hu=>hg u (N8 _ hu),O8];rfl
def GC(w:T)(S:List N2)(hn:S.Nodup)(hl:S.length<=1000):lN [.lst (S.map λv=>.tup [en v,w])]=.ok (.dct (S.map en) (S.map λ_=>w)):=by unfold lN;simp only[BX];rw[if_pos (by rw[Oa];exact hl)];have:=v8 w S [] (λ_=>w) (by simpa using hn) (λ_ _=>rfl);rw[Q4]at this;rw[show(([]:List T),([]:List T))=(([]:List N2).map en,([]:List N2).map λ_=>w)from rfl,this]
noncomputable def eS(S:List N2):T:=.lst (S.map en)
def GU(L:df N2)(P:List N2)(X:Rs T):Sum (cp N2) (List Nat)->Prop
 |.inr q=>X=.ok (.tup [.non,.lst (eN q)])
 |.inl b'=>∃ns',DR P ns' b'/\X=.ok (.tup [.dct (ns'.map en) (dV ns' b'),.non])
structure MS (L:df N2)(P:List N2):Prop where
 len:L.length<=500
 size:size L<=100000000
 ends:∀x∈L,x.1∈P/\x.2.1∈P
 pl:P.length<1000
def SOk(L:df N2)(S:List N2):Sum (cp N2) (List Nat)->Prop
 |.inr q=>Bar L q
 |.inl b'=>Settled L S b'
def vZ(F:MS L P)(hS:S.Nodup)(hSP:∀v∈S,v∈P):∃r,GU L P (fX [eL L,eS S]) r/\SOk L S r:=by
 have bound:L.length*(2*size L+1)<1000000000000 - 1:=by have h1:=F.len;have h2:=F.size;have:L.length*(2*size L+1)<=500*(2*100000000+1):=UI h1 (by omega);omega
 obtain⟨r,hr,ok⟩:=w4 L S bound;have ok':SOk L S r:=by cases r <;> exact ok
 refine⟨r,?_,ok'⟩;have hSl:S.length<=1000:=OV (jP hS hSP) (by have:=F.pl;omega);have D0:DR P S (Gr.start S):=⟨hS,λv=>by unfold Gr.start;by_cases h:v∈S <;> simp[h],hSP⟩;have dv0:dV S (Gr.start S)=S.map λ_=>eW (0,[]):=PD λv hv=>by unfold Gr.start;rw[if_pos hv];rfl
 have w:=uV F.len F.pl (λx hx=>(F.ends x hx).2) (eS S) _ (Gr.start S) S .em .em .em .em .em r (pJ L S) D0 hr;have lc:fE (iS (vr 1)) [ZB] (gN 0) bT (ba (ae (vr 0) (ae (ba (ae (cn (.int 0)) (ae (gc aj) aj))) aj))) [.va (eL L),.va (eS S),.em,.em,.em,.em,.em,.em,.em]=.ok (.lst (S.map λv=>.tup [en v,eW (0,[])])):=by
  have:=nE (fi:=iS (vr 1)) (src:=[ZB]) (fe:=ba (ae (vr 0) (ae (ba (ae (cn (.int 0)) (ae (gc aj) aj))) aj))) (Z:=[.va (eL L),.va (eS S),.em,.em,.em,.em,.em,.em,.em]) (kx rfl) (aE (by rw[Oa];exact hSl)) (by simp) λt _=>
   cq (ar rfl (ar (cq (ar rfl (ar (mS rfl (Pn _)) rfl)) (aE (k:=2) (by simp))) rfl)) (aE (k:=2) (by simp))
  rw[this,RU];rfl
 have n0:qW 2 (fE (iS (vr 1)) [ZB] (gN 0) bT (ba (ae (vr 0) (ae (ba (ae (cn (.int 0)) (ae (gc aj) aj))) aj)))) [.va (eL L),.va (eS S),.em,.em,.em,.em,.em,.em,.em]=.ok (.nx [.va (eL L),.va (eS S),.ow (.dct (S.map en) (dV S (Gr.start S))),.em,.em,.em,.em,.em,.em]):=by unfold qW;rw[lc,ax,GC _ S hS hSl,ax,dv0];rfl
 have main:∀G X,bJ (tb (vr 3)) wF FU (BJ L (eS S) S (Gr.start S) ZC .em .em .em .em .em)=.ok X->jE [.va (eL L),.va (eS S),.em,.em,.em,.em,.em,.em,.em]=G->(aF (bJ (tb (vr 3)) wF FU) (kF 2 (aV (ba (ae (vr 2) (ae (cn .non) aj)))))) (BJ L (eS S) S (Gr.start S) ZC .em .em .em .em .em)=G:=λG X _ h=>by rw[<-h];unfold jE;rw[aB n0,aB (Z':=BJ L (eS S) S (Gr.start S) ZC .em .em .em .em .em) (cK rfl rfl)]
 cases r with
 |inr q=>
  have w':=ip (m:=FU) (by unfold FU;omega) w;refine a0 rfl ?_;show jE [.va (eL L),.va (eS S),.em,.em,.em,.em,.em,.em,.em]=_;rw[<-main _ _ w' rfl];exact gH w'
 |inl b'=>
  obtain⟨ns',s4,s5,s6,s7,s8,D',w⟩:=w;have w':=ip (m:=FU) (by unfold FU;omega) w;refine⟨ns',D',a0 rfl ?_⟩;show jE [.va (eL L),.va (eS S),.em,.em,.em,.em,.em,.em,.em]=_;rw[<-main _ _ w' rfl,aB w'];exact zB (bH (cq rfl (aE (k:=2) (by simp))))
theorem pC{f:α->T}{p:α->Prop}:∀{l:List T},(∀t∈l,∃x,t=f x/\p x)->∃L:List α,l=L.map f/\∀x∈L,p x
 |[],_=>⟨[],rfl,λ_ h=>nomatch h⟩
 |t::l,h=>by obtain⟨x,e,hx⟩:=h t Oe;obtain⟨L,e2,h2⟩:=pC λu hu=>h u (N8 _ hu);exact⟨x::L,by rw[e,e2];rfl,λy hy=>(Oj.mp hy).elim (λz=>z▸hx) (h2 y)⟩
def x8{t:T}(h:bj t=ZC):∃(x y:Int)(r:List Int),t=.tup [.int x,.int y,.tup (r.map .int)]/\(0<=x/\x<=9)/\(0<=y/\y<=9)/\∀k,0<=r.getD k 0/\r.getD k 0<=99:=by
 obtain⟨x,y,r,rfl,h1,h2,h3,h4⟩:=fg h;refine⟨x,y,r,rfl,h1,h2,λk=>?_⟩;have h':(qu (.int x) (.int y)&&dg (.tup (r.map .int)))=ZC:=h;rw[Oc]at h';have hr:=h'.2;unfold dg at hr;rw[Oc]at hr;have hr2:(((r.map T.int).all λu=>a6 u 0 99)&&(match nums (r.map .int)with|some m=>qe m|none=>ZD))=ZC:=hr.2;rw[Oc]at hr2;by_cases hk:k<r.length
 .have:=OQ.mp hr2.1 (.int r[k]) (OJ.mpr ⟨_,Pp hk,rfl⟩);obtain⟨i,e,a,b⟩:=cJ this;cases e;simp[hk];exact⟨a,b⟩
 .simp[hk]
def tS{cs:List T}:∀{cs0:List T}{c k:Nat},i<=c->c<i+cs0.length->k<G9 (cs0.getD (c - i) .non)->T.tup [.int c,.int k] ∈b8 i cs0:=by
 intro cs0;induction cs0 generalizing i with
 |nil=>intro c k h1 h2;simp at h2;omega
 |cons a r ih=>
  intro c k h1 h2 h3;rw[b8,Ox];by_cases e:c=i
  .subst e;rw[Sn]at h3;have h3':k<G9 a:=h3;exact .inl (OJ.mpr ⟨.int k,zc h3',rfl⟩)
  .refine .inr (ih (by omega) (by rw[Og]at h2;omega) ?_);rw[show c - i=(c - (i+1))+1 by omega]at h3;exact h3
def mC{t:T}(h:aw cs t=ZC):t∈b8 0 cs:=by obtain⟨c,k,rfl⟩:=aK h;unfold aw at h;simp only[Oc,decide_eq_true_eq]at h;obtain⟨⟨h1,h2⟩,h3,h4⟩:=h;obtain⟨c,rfl⟩:=OP h1;obtain⟨k,rfl⟩:=OP h3;rw[lY]at h4;exact tS (cs:=cs) (Pn _) (by omega) (by rw[RT];omega)
def Du{t:T}(h:t∈b8 0 cs):∃v:N2,t=en v/\True:=by obtain⟨c,k,rfl,_⟩:=jT cs 0 h;exact⟨⟨c,k⟩,rfl,trivial⟩
def big(x:N2×N2×Int):Prop:=x.2.2.natAbs<=999
def rf{a b:Int}(ha : -99<=a/\a<=99)(hb:0<=b/\b<=9):(a*b).natAbs<=999:=by
 rw[Int.natAbs_mul];have h1:a.natAbs<=99:=by omega
 have h2:b.natAbs<=9:=by omega
 exact OV (UI h1 h2) (by decide)
theorem HB{cs0:List T}:∀{cs:List T}{i:Nat},(∀c∈cs,bj c=ZC)->(∀c k:Nat,i<=c->c<i+cs.length->k<G9 (cs.getD (c - i) .non)->T.tup [.int c,.int k] ∈b8 0 cs0) ->
  ∀t∈bC i cs,∃x,t=eB x/\(en x.1∈b8 0 cs0/\en x.2.1∈b8 0 cs0/\big x)
 |[],_,_,_,t,h=>by simp[bC]at h
 |c::cs,i,hc,hm,t,h=>by
  rw[bC,Ox]at h;rcases h with h|h
  .obtain⟨x,y,r,rfl,hx,hy,hr⟩:=x8 (hc c Oe);have hm0:∀k,k<r.length->T.tup [.int i,.int k] ∈b8 0 cs0:=λk hk=>hm i k (On _) (by simp) (by rw[Sn];show k<(r.map T.int).length;rw[Oa];exact hk);rw[yy]at h;unfold cB at h;obtain⟨k,hk,hp⟩:=T2.mp h;have hk:=PZ.mp hk;have d : -99<=dr r k/\dr r k<=99:=by have:=hr k;have:=hr (k+1);unfold dr;omega
   unfold pr at hp;simp only[Oj,PF,or_false]at hp;rcases hp with rfl|rfl
   .exact⟨(⟨i,k⟩,⟨i,((k+1:Nat):Int)⟩,dr r k*y),rfl,hm0 k (by omega),hm0 (k+1) (by omega),rf d hy⟩
   .exact⟨(⟨i,((k+1:Nat):Int)⟩,⟨i,k⟩,-dr r k*x),rfl,hm0 (k+1) (by omega),hm0 k (by omega),rf (by omega) hx⟩
  .exact HB (λc h=>hc c (N8 _ h)) (λc k h1 h2 h3=>hm c k (by omega) (by rw[Og];omega) (by rw[show c - i=(c - (i+1))+1 by omega];exact h3)) t h
def L5{u:T}(hu:bp cs u=ZC):∀t∈lB u,∃x,t=eB x/\(en x.1∈b8 0 cs/\en x.2.1∈b8 0 cs/\big x):=by
 intro t ht;obtain⟨a,b,x,y,rfl,hd,ha,hb,_⟩:=cZ hu;have ma:=mC ha;have mb:=mC hb;obtain⟨va,rfl,_⟩:=Du ma;obtain⟨vb,rfl,_⟩:=Du mb;unfold dN at hd;rw[Oc]at hd;obtain⟨i,rfl,i1,i2⟩:=cJ hd.1;have e2:lB (.tup [en va,en vb,.int i,y])=.tup [en vb,en va,.int (-i)] ::(if y.isN then []else [.tup [en va,en vb,y]]):=rfl;rw[e2]at ht;rcases Oj.mp ht with rfl|ht
 .exact⟨(vb,va,-i),rfl,mb,ma,by unfold big;simp only;omega⟩
 .cases q:y.isN with
  |true=>rw[q]at ht;simp at ht
  |false=>
   rw[q]at ht;have ht:t=.tup [en va,en vb,y]:=by simpa using ht
   have hw:a6 y i 999=ZC:=by
    cases y with
    |non=>cases q
    |_=>exact hd.2
   obtain⟨j,rfl,j1,j2⟩:=cJ hw;exact⟨(va,vb,j),ht,ma,mb,by unfold big;simp only;omega⟩
structure Rd (cs ls:List T)(L:df N2)(P:List N2):Prop where
 g:Good cs ls
 b:Kv cs ls=L.map eB
 e:b8 0 cs=P.map en
 f:MS L P
 nd:P.Nodup
 pl:P.length<=16
 ll:L.length<=60
 bg:∀x∈L,big x
def EU(h:∀x∈L,big x):size L<=999*L.length:=by
 unfold size;induction L with
 |nil=>simp
 |cons x L ih=>
  rw[Of,Ql,Og];have:=ih λy hy=>h y (N8 _ hy);have:=h x Oe;unfold big at this;omega
def Co(h:(P.map en).Nodup):P.Nodup:=by
 induction P with
 |nil=>exact Rf
 |cons a r ih=>
  rw[Of,O4]at h;exact O4.mpr ⟨λz=>h.1 (OJ.mpr ⟨a,z,rfl⟩),ih h.2⟩
def u5(g:Good cs ls):∃L P,Rd cs ls L P:=by
 obtain⟨hc,c1,c4⟩:=bf g.c;obtain⟨P,eP,_⟩:=pC λt ht=>Du ht;have key:∀t∈Kv cs ls,∃x,t=eB x/\(en x.1∈b8 0 cs/\en x.2.1∈b8 0 cs/\big x):=λt ht=>by
  unfold Kv at ht;rw[Ox]at ht;rcases ht with h|h
  .exact HB hc (λc k h1 h2 h3=>tS (cs:=cs) h1 h2 h3) t h
  .obtain⟨u,hu,h⟩:=T2.mp h;exact L5 (g.l u hu) t h
 obtain⟨L,eL,hL⟩:=pC key;have mem:∀v:N2,en v∈b8 0 cs->v∈P:=λv hv=>by rw[eP]at hv;obtain⟨u,hu,e⟩:=OJ.mp hv;rw[<-ue e];exact hu
 have hl:=GK g;rw[eL,Oa]at hl;have hp:=oa cs 0 hc;rw[eP,Oa]at hp;have hs:=EU λx hx=>(hL x hx).2.2;exact⟨L,P,g,eL,eP,⟨by omega,by omega,λx hx=>⟨mem _ (hL x hx).1,mem _ (hL x hx).2.1⟩,by omega⟩,Co (eP▸jQ cs 0),by omega,hl,λx hx=>(hL x hx).2.2⟩
def BZ:(T.lst l).pl=plS l:=by unfold T.pl;rfl
noncomputable def run(L:df N2):N2->List Nat->Option N2
 |a,[] =>ZA a
 |a,k::r=>match L[k]? with
  |some x=>if x.1=a then run L x.2.1 r else ZB
  |none=>ZB
theorem jN(f:Nat->Int):∀ks:List Nat,iY (ks.map λk=>T.int (f k))=ZA (ks.map f)
 |[] =>rfl
 |k::ks=>by rw[Of,iY,jN f ks];rfl
def Rd.ev(R:Rd cs ls L P)(h:v∈P):aw cs (en v)=ZC:=mU (by rw[R.e];exact OJ.mpr ⟨v,h,rfl⟩)
def Rd.bounds(R:Rd cs ls L P):fZ [RR cs ls]=.ok (eL L):=by rw[DD R.g,R.b];rfl
def Rd.NX(R:Rd cs ls L P){b:N2}(ha:a∈P)(hb:b∈P):ft [RR cs ls,en a,en b]=.ok .non:=by refine pL (Z:=[.va (RR cs ls),.va (en a),.va (en b)]) rfl ?_;show gL [.va (RR cs ls),.va (en a),.va (en b)]=_;unfold gL;rw[aB (hZ (aH rfl (di R.g.p R.g.ok)))];rw[aB (hZ (aH rfl (tQ R.g rfl (R.ev ha))))];exact hZ (aH rfl (tQ R.g rfl (R.ev hb)))
def Rd.events(R:Rd cs ls L P):fY [RR cs ls]=.ok (eS P):=by rw[u9 R.g,R.e];rfl
def DJ(D:DR P ns b)(e:b v=ZA x):jB (.dct (ns.map en) (dV ns b)) (en v)=.ok (eW x):=by unfold jB;simp only[cT];rw[D.get,e];rfl
def Km(D:DR P ns b)(v:N2):DK (en v) (.dct (ns.map en) (dV ns b))=.ok (.bl (b v).isSome):=by unfold DK;simp only[cT];rw[D.get];cases b v <;> rfl
noncomputable def tmT(P:List N2)(t:N2->Int):T:=.tup (P.map λv=>.int (t v))
noncomputable def MT(b:cp N2)(v:N2):Int:=match b v with
 |some x=>x.1
 |none=>0
noncomputable def atT(t:N2->Int)(u:T):T:=match u with
 |.tup [.int c,.int k] =>.int (t ⟨c,k⟩)
 |_=>.non
def Rd.NT(R:Rd cs ls L P):(¬gC L/\jU [(RR cs ls)]=.ok .non)\/(gC L/\∃t b,Settled L P b/\(∀v∈P,∃w,b v=ZA (t v,w))/\jU [(RR cs ls)]=.ok (tmT P t)):=by
 obtain⟨r,hr,ok⟩:=vZ R.f R.nd (λv h=>h);have wrap:∀{w:T},dy [(RR cs ls),eL L]=.ok w->jU [(RR cs ls)]=.ok w:=λ{w} e=>a0 rfl (bH (aH (ar rfl (ar (aH rfl R.bounds) rfl)) e));have begin_:∀{x z:T}{y:Rs Fl},fX [eL L,eS P]=.ok (.tup [x,z])->((aF (i7 (tb (o2 lI (vr 3) (cn .non))) (aV (cn .non)) sN) (aV (cl gD (ae (fE (iS (vr 2)) [ZB,ZA 3] (gN 0) bT (o2 aR (o2 jB (vr 1) (vr 0)) (cn (.int 0)))) aj)))) [.va (RR cs ls),.va (eL L),.va (eS P),.va x]=y)->fh [.va (RR cs ls),.va (eL L),.em,.em]=y:=λ{x z y} hs hy=>by unfold fh;rw[aB (cK (aH rfl R.events) rfl)];rw[aB (cK (aJ (aH rfl hs) rfl rfl) rfl)];exact hy
 cases r with
 |inr q=>exact .inl ⟨λn=>absurd n (Bar.neg ok),wrap (a0 rfl (begin_ hr (gH ((eU (bW (aJ rfl rfl rfl))).trans rfl))))⟩
 |inl b=>
  obtain⟨ns,D,hr⟩:=hr;have ok:Settled L P b:=ok;have htm:∀v∈P,∃w,b v=ZA (MT b v,w):=λv hv=>by obtain⟨d,w,e,_⟩:=ok.least v hv v 0 (.nil v);exact⟨w,by unfold MT;rw[e]⟩
  refine .inr ⟨(ok.holds R.f.ends htm).NZ,MT b,b,ok,htm,wrap (a0 rfl (begin_ hr ?_))⟩;generalize MT b=tm at htm;have lc:fE (iS (vr 2)) [ZB,ZA 3] (gN 0) bT (o2 aR (o2 jB (vr 1) (vr 0)) (cn (.int 0))) [.va (RR cs ls),.va (eL L),.va (eS P),.va (.dct (ns.map en) (dV ns b))]=.ok (.lst ((P.map en).map (atT tm))):=
   nE (kx rfl) (aE (by rw[Oa];exact R.pl)) (by simp) λt ht=>by obtain⟨v,hv,rfl⟩:=OJ.mp ht;obtain⟨w,e⟩:=htm v hv;exact aJ (aJ rfl rfl (DJ D e)) rfl rfl
  rw[RU]at lc;rw[aB ((eE (bW (aJ rfl rfl rfl))).trans rfl)];exact bH (aH (ar lc rfl) rfl)
def Rd.NO(R:Rd cs ls L P):∃hw:Bool,aZ [(RR cs ls)]=.ok (.bl hw)/\(hw=ZC↔gC L):=by
 rcases R.NT with⟨n,e⟩|⟨n,t,b,_,_,e⟩
 .exact⟨ZD,a0 rfl (bH (aJ (aH rfl e) rfl rfl)),λz=>(by cases z),λz=>absurd z n⟩
 .exact⟨ZC,a0 rfl (bH (aJ (aH rfl e) rfl rfl)),λ_=>n,λ_=>rfl⟩
def Rd.NF(R:Rd cs ls L P)(n:gC L):cx [RR cs ls]=.ok .non:=by obtain⟨hw,e,i⟩:=R.NO;rw[i.mpr n]at e;refine pL (Z:=[.va (RR cs ls)]) rfl ?_;show iH [.va (RR cs ls)]=_;unfold iH;exact(eE (fN (bW (aH rfl e)))).trans rfl
def Rd.from_(R:Rd cs ls L P)(n:gC L)(ha:a∈P):∃b ns,Settled L [a] b/\DR P ns b/\fS [RR cs ls,en a]=.ok (.dct (ns.map en) (dV ns b)):=by
 obtain⟨r,hr,ok⟩:=vZ (S:=[a]) R.f (by simp) (λv h=>by rw[Oi.mp h];exact ha);cases r with
 |inr q=>exact absurd n (Bar.neg ok)
 |inl b=>
  obtain⟨ns,D,hr⟩:=hr;refine⟨b,ns,ok,D,a0 rfl (bH (aJ (aH (ar (aH rfl R.bounds) (ar (mS rfl (aE (k:=1) (by simp))) rfl)) hr) rfl rfl))⟩
noncomputable def LU(o:Option (Int×List Nat)):T:=match o with
 |some x=>.int x.1
 |none=>.non
def Rd.N5(R:Rd cs ls L P)(n:gC L){c:N2}(ha:a∈P)(hc:c∈P):∃b,Settled L [a] b/\cf [RR cs ls,en a,en c]=.ok (LU (b c)):=by
 obtain⟨b,ns,S,D,e⟩:=R.from_ n ha;refine⟨b,S,a0 rfl ?_⟩;show gh [.va (RR cs ls),.va (en a),.va (en c)]=_;unfold gh;rw[aB (hZ (aH rfl (R.NX ha hc)))];rw[aB (hZ (aH rfl (R.NF n)))];refine bH (aH (ar (aH rfl e) rfl) (a0 rfl ?_));refine bH ((zA (bW (aJ rfl rfl (Km D c)))).trans ?_);cases q:b c with
 |none=>rfl
 |some x=>exact aJ (aJ rfl rfl (DJ D q)) rfl rfl
def pw{n:Int}{t:T}(ht:t.pl=ZC)(h:a6 t 0 (n - 1)=ZC):bL [.int n,t]=.ok .non:=by refine pL (Z:=[.va (.int n),.va t]) rfl ?_;show dG [.va (.int n),.va t]=_;unfold dG;exact(eE (fN (k:=ZC) (bW (aH rfl (by rw[eF _ _ _ ht,h]))))).trans rfl
def Dz{t:T}(hp:t.pl=ZC)(h:dA t=ZC):cV [t]=.ok t:=by refine a0 rfl ?_;show fF [.va t]=_;unfold fF;rw[aB (hZ (aH rfl (di hp h)))];exact bH rfl
def DA{t:T}(hp:t.pl=ZC)(h:dA t=ZD):cV [t]=.err "NoRecord":=by refine pM rfl ?_;show fF [.va t]=_;unfold fF;exact CV (Hs (aH rfl (AB hp h)))
noncomputable def lX(t:T):Rs T:=if dA t then .ok t else .err "NoRecord"
def zL{t:T}(hp:t.pl=ZC):cV [t]=lX t:=by
 unfold lX;cases h:dA t with
 |true=>exact Dz hp h
 |false=>exact DA hp h
variable{f:W5}
def sQ{t:T}(h:f Z=lX t):aV f Z=(if dA t then .ok (.rt t)else .err "NoRecord"):=by
 unfold lX at h;cases q:dA t with
 |true=>rw[q]at h;exact bH h
 |false=>rw[q]at h;exact JO h
variable{ts:List T}
def sh{m:Nat}{F:W4}{t:T}(hl:ts.length=n)(h:F (bx m ts)=(if dA t then .ok (.rt t)else .err "NoRecord")):val n m F ts=lX t:=by
 unfold lX;cases q:dA t with
 |true=>rw[q]at h;exact a0 hl h
 |false=>rw[q]at h;exact pM hl h
variable{b:T}
def jM{a:T}(ha:a.pl=ZC)(hb:b.pl=ZC):(T.tup [a,b]).pl=ZC:=by simp[T.pl,plS,ha,hb]
def sW{m:List T}(h1:(T.tup l).pl=ZC)(h2:(T.tup m).pl=ZC):(T.tup (l++m)).pl=ZC:=by rw[fV]at*;exact eg λt ht=>(Ox.mp ht).elim (fQ h1) (fQ h2)
def Good.pls(g:Good cs ls):(T.tup ls).pl=ZC:=by rw[fV];exact eg g.parts.2
def lq{t:T}(hc:(T.tup cs).pl=ZC)(hl:(T.tup ls).pl=ZC)(hn:ls.length<=20)(ht:t.pl=ZC)(ok:dA (RR cs ls)=ZC):bY [RR cs ls,t]=lX (.tup [.tup cs,.tup (ls++[t])]):=by refine sh rfl ?_;show gK [.va (RR cs ls),.va t]=_;unfold gK;rw[aB (hZ (aH rfl (di (jM hc hl) ok)))];refine sQ (aH (ar (cq (ar rfl (ar (aJ rfl (cq rfl (aE (k:=1) (by simp))) (j8 _ _ (by simp;omega))) rfl)) (aE (k:=2) (by simp))) rfl) (zL (jM hc (sW hl (by simp[T.pl,plS,ht])))))
variable{g:W5}
def DO(h:f Z=.ok (.tup l))(hg:g Z=.ok (.int n)):sl f pN (pS g) Z=.ok (.tup (l.take n)):=by rw[<-DP];exact L8 h rfl (JQ hg)
def Kp(h:f Z=.ok (.tup l))(hg:g Z=.ok (.int n)):sl f (pS g) pN Z=.ok (.tup (l.drop n)):=by rw[<-wc];exact L8 h (JQ hg) rfl
def zQ(h:f Z=.ok (.tup l))(hg:g Z=.ok (.int n)):sl f (pS (o2 aQ g (cn (.int 1)))) pN Z=.ok (.tup (l.drop (n+1))):=
 Kp h (aJ hg rfl rfl)
noncomputable def As(l:List T)(n:Nat):List T:=l.take n++l.drop (n+1)
def tf(l:List T)(n:Nat):(As l n).length<=l.length:=by unfold As;rw[Oh,PQ,QC];omega
def Aq(g:Good cs ls)(hn:n<ls.length):bw [RR cs ls,.int n]=.ok (.tup [.tup cs,.tup (As ls n)]):=by
 have hl:=g.n;refine a0 rfl ?_;show cU [.va (RR cs ls),.va (.int n),.em]=_;unfold cU;rw[aB (hZ (aH rfl (di g.p g.ok)))];rw[aB ((cK rfl rfl))];have w:a6 (.int n) 0 ((ls.length:Int) - 1)=ZC:=by unfold a6;simp;omega
 rw[aB (hZ (aH rfl (pw rfl w)))];exact bH (cq (ar rfl (ar (aJ (DO rfl rfl) (zQ rfl rfl) (j8 _ _ (by have:=tf ls n;unfold As at this;omega))) rfl)) (aE (k:=2) (by simp)))
noncomputable def lZ(l:List T)(n:Nat)(c:T):List T:=(l.take n++[c])++l.drop (n+1)
def Fv(l:List T)(n:Nat)(c:T):(lZ l n c).length<=l.length+1:=by unfold lZ;rw[Oh,Oh,PQ,QC];simp;omega
variable{c:T}
def BS(h:(T.tup l).pl=ZC)(hc:c.pl=ZC):(T.tup (lZ l n c)).pl=ZC:=by
 rw[fV]at*;refine eg λt ht=>?_;unfold lZ at ht;rcases Ox.mp ht with ht|ht
 .rcases Ox.mp ht with ht|ht
  .exact fQ h (SG ht)
  .cases Oi.mp ht;exact hc
 .exact fQ h (SH ht)
def JP{h:W5}(hl:l.length<=100)(hf:f Z=.ok (.tup l))(hg:g Z=.ok (.int n))(hc:h Z=.ok c):
  o2 aQ (o2 aQ (sl f pN (pS g)) (ba (ae h aj))) (sl f (pS (o2 aQ g (cn (.int 1)))) pN) Z=.ok (.tup (lZ l n c)):=by
 have:=Fv l n c;refine aJ (aJ (DO hf hg) (cq (ar hc rfl) (aE (k:=1) (by simp))) (j8 _ _ (by simp;omega))) (zQ hf hg) (j8 _ _ (by unfold lZ at this;omega))
def u7(g:Good cs ls)(hc:c.pl=ZC):fR [RR cs ls,.int n,c]=lX (.tup [.tup (lZ cs n c),.tup ls]):=by obtain⟨_,_,h4⟩:=bf g.c;refine sh rfl ?_;show iG [.va (RR cs ls),.va (.int n),.va c,.em]=_;unfold iG;rw[aB (cK rfl rfl)];exact sQ (aH (ar (cq (ar (JP (by omega) rfl rfl rfl) (ar rfl rfl)) (aE (k:=2) (by simp))) rfl) (zL (jM (BS g.parts.1 hc) g.pls)))
def KL{m:Nat}(h:n<m):a6 (.int n) 0 ((m:Int) - 1)=ZC:=by unfold a6;simp;omega
def pT(g:Good cs ls)(hn:n<cs.length):∃(x y:Int)(r:List Int),cs[n]?=ZA (.tup [.int x,.int y,.tup (r.map .int)])/\1<=r.length/\r.length<=4:=by obtain⟨hc,_,h4⟩:=bf g.c;obtain⟨x,y,r,e,_,_,h1,h2⟩:=fg (hc _ (Pp hn));exact⟨x,y,r,by rw[OA hn,e],h1,h2⟩
def kn{x u:T}{r:List T}(g:Good cs ls)(hn:n<cs.length)(e:cs[n]?=ZA (.tup [x,y,.tup r]))(hr:r.length<=4)(hx:x.pl=ZC)(hy:y.pl=ZC)(hp:(T.tup r).pl=ZC)(hu:u.pl=ZC):
  bO [RR cs ls,.int n,u]=lX (.tup [.tup (lZ cs n (.tup [x,y,.tup (r++[u])])),.tup ls]):=by
 refine sh rfl ?_;show gg [.va (RR cs ls),.va (.int n),.va u,.em]=_;unfold gg;rw[aB (hZ (aH rfl (di g.p g.ok)))];rw[aB (hZ (aH rfl (pw rfl (KL hn))))];rw[aB (cK (qH rfl rfl e) rfl)];refine sQ (aH (ar rfl (ar rfl (ar (cq (ar rfl (ar rfl (ar (aJ rfl (cq rfl (aE (k:=1) (by simp))) (j8 _ _ (by simp;omega))) rfl))) (aE (k:=3) (by simp))) rfl))) (u7 g ?_));have:=sW hp (m:=[u]) (by simp[T.pl,plS,hu]);simp[T.pl,plS,hx,hy]at this ⊢;exact this
def iF(h:∀t∈l,t.dep<=n):(T.tup l).dep<=n+1:=by unfold T.dep;have:=oh h;omega
def A2(h:bj c=ZC):c.dep<=2:=by
 obtain⟨x,y,r,rfl,_⟩:=fg h;refine iF λt ht=>?_;simp only[Oj,PF,or_false]at ht;rcases ht with rfl|rfl|rfl
 .simp[T.dep]
 .simp[T.dep]
 .exact iF λt ht=>by obtain⟨i,_,rfl⟩:=OJ.mp ht;simp[T.dep]
def xG{t:T}(h:bp cs t=ZC):t.dep<=2:=by
 obtain⟨a,b,x,y,rfl,hd,ha,hb,_⟩:=cZ h;obtain⟨m1,m2⟩:=LV h;have:=(vW ha).2;have:=(vW hb).2;have hx:x.dep<=2:=by unfold dN at hd;rw[Oc]at hd;obtain⟨i,rfl,_⟩:=cJ hd.1;simp[T.dep]
 unfold T.dep deps deps deps deps deps;obtain⟨a',b',mo,le,e,_⟩:=jw h;cases e;simp only[T.dep];omega
def sS(g:Good cs ls):(T.tup cs).dep<=3/\(T.tup ls).dep<=3:=⟨iF λt ht=>A2 ((bf g.c).1 t ht),iF λt ht=>xG (g.l t ht)⟩
def yJ(h:dA (RR cs ls)=ZC)(hp:(RR cs ls).pl=ZC):Good cs ls:=by have h':(aX (.tup cs)&&(dt (.tup ls) 0 8&&ls.all (bp cs)))=ZC:=h;rw[Oc,Oc,OQ]at h';exact⟨h'.1,h'.2.2,by have:=h'.2.1;simp[dt]at this;exact this,hp⟩
theorem Ct:∀{l:List T},(∀t∈l,t.nk D=ZC)->nks D l=ZC
 |[],_=>rfl
 |t::l,h=>by unfold nks;rw[h t (.head _),Ct λu hu=>h u (.tail _ hu)];rfl
def mm(h:∀t∈l,t.nk D=ZC):(T.tup l).nk D=ZC:=by unfold T.nk;exact Ct h
def DT(h:bj c=ZC):c.nk ZD=ZC:=by
 obtain⟨x,y,r,rfl,_⟩:=fg h;refine mm λt ht=>?_;simp at ht;rcases ht with rfl|rfl|rfl
 .rfl
 .rfl
 .exact mm λu hu=>by obtain⟨k,_,rfl⟩:=OJ.mp hu;rfl
def vU{t:T}(h:aw cs t=ZC):t.nk ZD=ZC:=by obtain⟨c,k,rfl⟩:=aK h;rfl
def AI{t:T}(h:bp cs t=ZC):t.nk ZD=ZC:=by
 obtain⟨a,b,x,y,rfl,hd,ha,hb,_⟩:=cZ h;unfold dN at hd;rw[Oc]at hd;obtain⟨i,rfl,_⟩:=cJ hd.1;refine mm λt ht=>?_;simp at ht;rcases ht with rfl|rfl|rfl|rfl
 .exact vU ha
 .exact vU hb
 .rfl
 .have:=hd.2;cases t <;> first|rfl|simp[a6]at this
def GR(r:T):Prop:=∃cs ls,r=RR cs ls/\Good cs ls
variable{r:T}
def GR.pl(h:GR r):r.pl=ZC:=by obtain⟨cs,ls,rfl,g⟩:=h;exact g.p
def GR.nk(h:GR r):r.nk ZD=ZC:=by
 obtain⟨cs,ls,rfl,g⟩:=h;refine mm λt ht=>?_;simp at ht;rcases ht with rfl|rfl
 .exact mm λc hc=>DT ((bf g.c).1 c hc)
 .exact mm λu hu=>AI (g.l u hu)
def GR.dep(h:GR r):r.dep<=4:=by
 obtain⟨cs,ls,rfl,g⟩:=h;refine iF λt ht=>?_;simp at ht;rcases ht with rfl|rfl
 .exact(sS g).1
 .exact(sS g).2
def GR.hw(h:GR r):∃b,aZ [r]=.ok (.bl b):=by obtain⟨cs,ls,rfl,g⟩:=h;obtain⟨L,P,R⟩:=u5 g;obtain⟨b,e,_⟩:=R.NO;exact⟨b,e⟩
def GR.need(h:GR r):aG [r]=.ok .non:=by obtain⟨cs,ls,rfl,g⟩:=h;exact di g.p g.ok
def GR.of(hp:(RR cs ls).pl=ZC)(h:dA (RR cs ls)=ZC):GR (RR cs ls):=⟨cs,ls,rfl,yJ h hp⟩
noncomputable abbrev sp(w r:T):T:=.tup [w,r]
noncomputable abbrev SK(P A:List T):OT:=.ob "Sketch" ["past","ahead"] [P,A]
noncomputable abbrev SV(P A:List T):T:=.ob "Sketch" ["past","ahead"] [.lst P,.lst A]
def C9(l:List T)(z:T):aR (.lst (l++[z])) (.int (-1))=.ok z:=by have:=tZ l z;exact this
def ub(P A:α):kf "past" ["past","ahead"] [P,A]=ZA P:=by unfold kf;rw[if_pos rfl]
def zH(P A:α):kf "ahead" ["past","ahead"] [P,A]=ZA A:=by unfold kf;rw[if_neg (by decide)];unfold kf;rw[if_pos rfl]
def Jf(P A Q:List T):jz "past" Q ["past","ahead"] [P,A]=[Q,A]:=by unfold jz;rw[if_pos rfl]
def FJ(P A Q:List T):jz "ahead" Q ["past","ahead"] [P,A]=[P,Q]:=by unfold jz;rw[if_neg (by decide)];unfold jz;rw[if_pos rfl]
def Hz(P A:List T)(w r:T):aD [SV (P++[sp w r]) A]=.ok r:=
 a0 rfl (bH (aJ (aJ (vN rfl (ub _ _)) (Md rfl rfl) (C9 P (sp w r))) rfl (Hr rfl)))
def v7(P A:List T):bh [SV P A]=.ok (.tup [.int ((P.length:Int) - 1),.int (A.length:Nat)]):=by refine a0 rfl (bH (cq (ar (aJ (aH (ar (vN rfl (ub _ _)) rfl) rfl) rfl rfl) (ar (aH (ar (vN rfl (zH _ _)) rfl) rfl) rfl)) (aE (k:=2) (by simp))))
def Dy(h:GR r):cF [.ow (.ob "Sketch" [] []),.va r]=.ok (.non,SK [sp .non r] []):=by refine zr (Z:=[.ow (SK [sp .non r] []),.va r]) rfl ?_ rfl;show eQ [.ow (.ob "Sketch" [] []),.va r]=_;unfold eQ;refine jx (vM (AM (aH rfl h.need))) ?_;refine jx ((xM rfl (ar (cq rfl (aE (k:=2) (by simp))) rfl) (by simp) (by simp)).trans rfl) ?_;refine(xM rfl rfl (by simp) (by simp)).trans ?_;rw[if_neg (by decide)];rfl
variable{A P:List T}
def e_go{w:Str}{b:Bool}(hb:aZ [r]=.ok (.bl b))(hl:P.length<=1000):bu [.ow (SK P A),.va (.str w),.va r]=.ok (.bl b,SK (P++[sp (.str w) r]) []):=by refine pO (Z:=[.ow (SK (P++[sp (.str w) r]) []),.va (.str w),.va r]) rfl ?_ rfl;show gj [.ow (SK P A),.va (.str w),.va r]=_;unfold gj;refine jx (Z':=[.ow (SK (P++[sp (.str w) r]) A),.va (.str w),.va r]) (vM ((JN rfl (ub _ _) (cq rfl (aE (k:=2) (by simp))) hl).trans (by rw[Jf];rfl))) ?_;refine jx (Z':=[.ow (SK (P++[sp (.str w) r]) []),.va (.str w),.va r]) ((xM rfl rfl (by simp) (by simp)).trans (by rw[if_pos (by decide),FJ];rfl)) ?_;exact C2 (AM (aH rfl hb))
variable{d:Str}{w:T}
section
variable {r' t u:T}{X:W5}{v:Str}
def mR(hi:Z[i]?=ZA (.ow (SK (P++[sp w r]) A)))(h:GR r):ln i (mO "Sketch" "record" aD (vr i) aj) Z=.ok r:=by have hl:i<Z.length:=(Ol.mp hi).1;refine C5 hi (C0 (L6 ?_) (by decide) rfl (Hz P A w r)) h.nk;unfold disown;rw[hi];simp[hl];rfl
def Mr(hi:Z[i]?=ZA (.ow (SK P A))):ln i (mO "Sketch" "counts" bh (vr i) aj) Z=.ok (.tup [.int ((P.length:Int) - 1),.int (A.length:Nat)]):=by have hl:i<Z.length:=(Ol.mp hi).1;refine C5 hi (C0 (L6 ?_) (by decide) rfl (v7 P A)) rfl;unfold disown;rw[hi];simp[hl];rfl
def JU(hi:Z[0]?=ZA (.ow (SK P A)))(hx:X Z=.ok r')(h:GR r')(hl:P.length<=1000):∃b,lC (dU 0 "Sketch" "go_on" bu (ae (cn (.str v)) (ae X aj))) Z=.ok (.rt (.bl b) (Z.set 0 (.ow (SK (P++[sp (.str v) r']) [])))):=by obtain⟨b,hb⟩:=h.hw;exact⟨b,C2 (nW hi (by decide) (ar rfl (ar hx rfl)) (e_go hb hl))⟩
def C6(hi:Z[0]?=ZA (.ow (SK P A)))(hx:X Z=.err d):lC (dU 0 "Sketch" "go_on" bu (ae (cn (.str v)) (ae X aj))) Z=.err d:=by refine Ge (CT hi (by decide) ?_);unfold ae;rw[show cn (.str v) Z=.ok (.str v)from rfl,ax,hx];rfl
def Gs(h:GR r)(hl:(P++[sp w r]).length<=1000)(hx:bY [r,t]=.ok r')(h':GR r'):∃b,bB [.ow (SK (P++[sp w r]) A),.va t]=.ok (.bl b,SK (P++[sp w r] ++[sp (.str "write") r']) []):=by obtain⟨b,hb⟩:=JU (Z:=[.ow (SK (P++[sp w r]) A),.va t]) (X:=cl bY (ae (ln 0 (mO "Sketch" "record" aD (vr 0) aj)) (ae (vr 1) aj))) rfl (aH (ar (mR rfl h) rfl) hx) h' hl;exact⟨b,pO rfl hb rfl⟩
def vY(h:GR r)(hx:bY [r,t]=.err d):bB [.ow (SK (P++[sp w r]) A),.va t]=.err d:=
 nX rfl (C6 rfl (aH (ar (mR rfl h) rfl) hx))
def MK(h:GR r)(hl:(P++[sp w r]).length<=1000)(hx:bw [r,t]=.ok r')(h':GR r'):∃b,bX [.ow (SK (P++[sp w r]) A),.va t]=.ok (.bl b,SK (P++[sp w r] ++[sp (.str "cut") r']) []):=by obtain⟨b,hb⟩:=JU (Z:=[.ow (SK (P++[sp w r]) A),.va t]) (X:=cl bw (ae (ln 0 (mO "Sketch" "record" aD (vr 0) aj)) (ae (vr 1) aj))) rfl (aH (ar (mR rfl h) rfl) hx) h' hl;exact⟨b,pO rfl hb rfl⟩
def Ka(h:GR r)(hl:(P++[sp w r]).length<=1000)(hx:bO [r,t,u]=.ok r')(h':GR r'):∃b,bM [.ow (SK (P++[sp w r]) A),.va t,.va u]=.ok (.bl b,SK (P++[sp w r] ++[sp (.str "read") r']) []):=by obtain⟨b,hb⟩:=JU (Z:=[.ow (SK (P++[sp w r]) A),.va t,.va u]) (X:=cl bO (ae (ln 0 (mO "Sketch" "record" aD (vr 0) aj)) (ae (vr 1) (ae (vr 2) aj)))) rfl (aH (ar (mR rfl h) rfl) hx) h' hl;exact⟨b,pO rfl hb rfl⟩
def zK(h:GR r)(hx:bO [r,t,u]=.err d):bM [.ow (SK (P++[sp w r]) A),.va t,.va u]=.err d:=
 nX rfl (C6 rfl (aH (ar (mR rfl h) rfl) hx))
end
def Word(v:Str):Prop:=v= "write"\/v= "read"\/v= "cut"
def GS(P A:List T)(o:OT):Prop:=o=SK P A\/∃v r',Word v/\GR r'/\o=SK (P++[sp (.str v) r']) []
def xu(h:(T.tup l).pl=ZC):wG (.tup l) (.tup [])=.ok (.bl (!l.isEmpty)):=by unfold wG;rw[if_pos (Ds (by simp[T.dep,deps]) (T.KM _ h) rfl)];cases l <;> rfl
def y0{t:T}(h:t∈As l n):t∈l:=by
 unfold As at h;rcases Ox.mp h with h|h
 .exact SG h
 .exact SH h
def J8(ns:List Int)(hn:ns.length<=63)(a:Nat)(h:GR r)(hl:(P++[sp w r]).length<=1000):
  ∃o,cW [.va (.scr ns),.va (.int a),.ow (SK (P++[sp w r]) A)]=.ok (.non,o)/\GS (P++[sp w r]) A o:=by
 have hG:=h;obtain⟨cs,ls,rfl,g⟩:=h;have hcl:=bf g.c;obtain⟨d1,e1,p1,q1⟩:=cH ns a 4 hn (by omega);obtain⟨t5,e5,h5⟩:=rK ns hn (a+1) cs g.c;obtain⟨d2,e2,p2,q2⟩:=cH ns (a+7) (cs.length:Int) hn (by omega);obtain⟨d1,rfl⟩:=OP p1;obtain⟨d2,rfl⟩:=OP p2;let o0:OT:=SK (P++[sp w (RR cs ls)]) A;let E:OT->En:=λo=>[.va (.scr ns),.va (.int a),.ow o,.va (RR cs ls),.va (.int d1),.va t5,.va (.int d2)];have key:∀k,pA stB (ua "NoRecord" .non) (E o0)=.ok k->jH [.va (.scr ns),.va (.int a),.ow o0,.em,.em,.em,.em]=.ok k:=λk hk=>by unfold jH;refine jx (zx (AM (mR rfl hG)) (by simp)) ?_;refine jx (zx (AM (aH rfl e1)) (by simp)) ?_;refine jx (zx (AM (aH rfl e5)) (by simp)) ?_;refine jx (zx (AM (aH rfl e2)) (by simp)) ?_;exact hk
 have done:∀o,pA stB (ua "NoRecord" .non) (E o0)=.ok (.nx (E o))->cW [.va (.scr ns),.va (.int a),.ow o0]=.ok (.non,o):=λo hk=>zr rfl (key _ hk) rfl;have gone:pA stB (ua "NoRecord" .non) (E o0)=.ok (.rt .non (E o0))->cW [.va (.scr ns),.va (.int a),.ow o0]=.ok (.non,o0):=λhk=>pO rfl (key _ hk) rfl;have c1:tb (o2 j6 (vr 4) (cn (.int 0))) (E o0)=.ok ((d1:Int) == 0):=bW (aJ rfl rfl (eq_int _ _));have c2:tb (o2 wG (o2 aR (vr 3) (cn (.int 1))) (ba aj)) (E o0)=.ok (!ls.isEmpty):=bW (aJ (qH rfl rfl rfl) (cq rfl (aE (k:=1) (by simp))) (xu g.pls));by_cases hc:d1=0/\ls≠ []
 .obtain⟨hd,hls⟩:=hc;have hlen:0<ls.length:=List.length_pos_iff.mpr hls;obtain⟨d3,e3,p3,q3⟩:=cH ns (a+8) (ls.length:Int) hn (by omega);obtain⟨d3,rfl⟩:=OP p3;have h3:d3<ls.length:=by omega
  obtain⟨b,hb⟩:=MK hG hl (Aq g h3) ⟨cs,_,rfl,g.sub (λt ht=>y0 ht) (OV (tf _ _) g.n)⟩;refine⟨_,done _ (tV ((gz (k:=ZC) ?_).trans (vM (nW rfl (by decide) (ar (aH rfl e3) rfl) hb)))),.inr ⟨"cut",_,.inr (.inr rfl),⟨cs,_,rfl,g.sub (λt ht=>y0 ht) (OV (tf _ _) g.n)⟩,rfl⟩⟩;refine xN (c1.trans (by rw[hd];rfl)) (c2.trans ?_);cases ls
  .exact absurd rfl hls
  .rfl
 .have cA:kh (tb (o2 j6 (vr 4) (cn (.int 0)))) (tb (o2 wG (o2 aR (vr 3) (cn (.int 1))) (ba aj))) (E o0)=.ok ZD:=by
   by_cases hd:d1=0
   .refine xN (c1.trans (by rw[hd];rfl)) (c2.trans ?_);cases ls
    .rfl
    .exact absurd ⟨hd,by simp⟩ hc
   .exact C8 (c1.trans (by rw[beq_eq_false_iff_ne.mpr (by omega)]))
  by_cases hd:d1=1
  .obtain⟨x,y,rr,er,h1,h4⟩:=pT g (n:=d2) (by omega);obtain⟨l,z,hlz⟩:∃l z,rr=l++[z]:=⟨rr.dropLast,rr.getLast (by intro hz;rw[hz]at h1;simp at h1),(SN _).symm⟩;obtain⟨d4,e4,p4,q4⟩:=cH ns (a+8) 5 hn (by omega);have plr:(T.tup (rr.map .int)).pl=ZC:=by rw[fV];exact eg λt ht=>by obtain⟨k,_,rfl⟩:=OJ.mp ht;rfl
   have hw:=kn (u:=.int (z+1+d4)) g (by omega) er (by rw[Oa];exact h4) rfl rfl plr rfl;have hargs:ae (vr 6) (ae (o2 aQ (o2 aQ (o2 aR (o2 aR (o2 aR (o2 aR (vr 3) (cn (.int 0))) (vr 6)) (cn (.int 2))) (o1 ke (cn (.int 1)))) (cn (.int 1))) (cl az (ae (vr 0) (ae (o2 aQ (vr 1) (cn (.int 8))) (ae (cn (.int 5)) aj))))) aj) (E o0)=.ok [.int d2,.int (z+1+d4)]:=by refine ar rfl (ar (aJ (aJ (t:=.int z) (aJ (qH (qH (qH rfl rfl rfl) rfl er) rfl rfl) rfl ?_) rfl rfl) (aH rfl e4) rfl) rfl);rw[hlz,Py];exact tZ _ _
   have cB:tb (o2 j6 (vr 4) (cn (.int 1))) (E o0)=.ok ZC:=(bW (aJ rfl rfl (eq_int _ _))).trans (by rw[hd];rfl);unfold lX at hw;split at hw
   .rename_i hrec;have hp:(RR (lZ cs d2 (.tup [.int x,.int y,.tup (rr.map .int++[.int (z+1+d4)])])) ls).pl=ZC:=by refine jM (BS g.parts.1 ?_) g.pls;have:=sW plr (m:=[.int (z+1+d4)]) rfl;simp[T.pl,plS]at this ⊢;exact this
    obtain⟨b,hb⟩:=Ka hG hl hw (GR.of hp hrec);exact⟨_,done _ (tV ((gz cA).trans ((gz cB).trans (vM (nW rfl (by decide) hargs hb))))),.inr ⟨"read",_,.inr (.inl rfl),GR.of hp hrec,rfl⟩⟩
   .exact⟨_,gone (zw ((gz cA).trans ((gz cB).trans (C3 (vK rfl (by decide) hargs (zK hG hw))))) (by unfold ua;rw[if_pos rfl])),.inl rfl⟩
  .have cB:tb (o2 j6 (vr 4) (cn (.int 1))) (E o0)=.ok ZD:=(bW (aJ rfl rfl (eq_int _ _))).trans (by rw[beq_eq_false_iff_ne.mpr (by omega)]);rcases h5 with rfl|⟨h5,hs5⟩
   .exact⟨_,done o0 (tV ((gz cA).trans ((gz cB).trans ((gz (bW rfl)).trans rfl)))),.inl rfl⟩
   .have h5p:t5.pl=ZC:=yH _ hs5;have cC:tb (o2 jl (vr 5) (cn .non)) (E o0)=.ok ZC:=by obtain⟨a',b',x',y',rfl,_⟩:=cZ h5;rfl
    have hw:=lq g.parts.1 g.pls (by have:=g.n;omega) h5p g.ok;unfold lX at hw;split at hw
    .rename_i hrec;have hp:(RR cs (ls++[t5])).pl=ZC:=jM g.parts.1 (sW g.pls (by simp[T.pl,plS,h5p]));obtain⟨b,hb⟩:=Gs hG hl hw (GR.of hp hrec);exact⟨_,done _ (tV ((gz cA).trans ((gz cB).trans ((gz cC).trans (vM (nW rfl (by decide) rfl hb)))))),.inr ⟨"write",_,.inl rfl,GR.of hp hrec,rfl⟩⟩
    .exact⟨_,gone (zw ((gz cA).trans ((gz cB).trans ((gz cC).trans (C3 (vK rfl (by decide) rfl (vY hG hw)))))) (by unfold ua;rw[if_pos rfl])),.inl rfl⟩
def qI(r:T):Bool:=match aZ [r]with
 |.ok (.bl b)=>b
 |_=>ZD
def GR.has(h:GR r):aZ [r]=.ok (.bl (qI r)):=by obtain⟨b,e⟩:=h.hw;unfold qI;rw[e]
noncomputable def rc:T->T
 |.tup [_,r] =>r
 |_=>.non
def ku(P:List T):T:=match P.reverse.find? (λs=>qI (rc s))with
 |some s=>rc s
 |none=>.non
theorem zG(v:T):∀(l:List T)(s1:Sl),(∀s∈l,∃w r,s=sp w r/\GR r)->(match l.find? (λs=>qI (rc s))with
  |some s=>bq (gN 1) M5 l [.va v,s1]=.ok (.rt (rc s))
  |none=>∃s2,bq (gN 1) M5 l [.va v,s1]=.ok (.nx [.va v,s2]))
 |[],s1,_=>⟨s1,rfl⟩
 |s::l,s1,h=>by
  obtain⟨w,r,rfl,hr⟩:=h s (.head _);have ih:=zG v l (.va (sp w r)) λu hu=>h u (.tail _ hu);have hix:o2 aR (vr 1) (cn (.int 1)) [.va v,.va (sp w r)]=.ok r:=qH rfl rfl rfl;have ht:tb (cl aZ (ae (o2 aR (vr 1) (cn (.int 1))) aj)) [.va v,.va (sp w r)]=.ok (qI r):=bW (aH (ar hix rfl) hr.has);rw[Q5];show match(match qI r with|true=>ZA (sp w r)|false=>_)with|some s=>_|none=>_;cases hb:qI r with
  |true=>
   rw[hb]at ht;exact zy rfl ((eU ht).trans (bH hix))
  |false=>
   rw[hb]at ht;have e:∀{x},bq (gN 1) M5 l [.va v,.va (sp w r)]=x->bq (gN 1) M5 (sp w r::l) [.va v,s1]=x:=λ{x} e=>(eC rfl ((eE ht).trans rfl)).trans e;dsimp only;revert ih;cases l.find? (λs=>qI (rc s))with
   |some s=>intro ih;exact e ih
   |none=>intro ⟨s2,ih⟩;exact⟨s2,e ih⟩
def Kd(h:∀s∈P,∃w r,s=sp w r/\GR r):da [SV P A]=.ok (ku P):=by
 refine a0 rfl ?_;show gP [.va (SV P A),.em]=_;unfold gP;have hi:Di (ae (o1 (nG "Sketch" "past") (vr 0)) aj) [.va (SV P A),.em]=.ok P.reverse:=by unfold Di;rw[ar (vN rfl (ub _ _)) rfl];rfl
 have hl:=zG (SV P A) P.reverse .em λs hs=>h s (V9.mp hs);unfold ku;revert hl;cases P.reverse.find? (λs=>qI (rc s))with
 |some s=>intro hl;exact gH (gA hi hl)
 |none=>intro ⟨s2,hl⟩;exact(aB (gA hi hl)).trans rfl
def Wy(w:T):Prop:=w=.non\/∃v,w=.str v
theorem Wy.pl(h:Wy w):w.pl=ZC/\w.nk ZD=ZC/\w.dep=0:=by rcases h with rfl|⟨v,rfl⟩ <;> simp[T.pl,T.nk,T.dep]
def St(s:T):Prop:=∃w r,s=sp w r/\GR r/\Wy w
variable{s:T}
theorem St.pl(h:St s):s.pl=ZC/\s.nk ZD=ZC:=by obtain⟨w,r,rfl,hr,hw⟩:=h;exact⟨by simp[T.pl,plS,hw.pl.1,hr.pl],by simp[T.nk,nks,hw.pl.2.1,hr.nk]⟩
structure Okk (F:T)(P A:List T):Prop where
 bt:∃P',P=sp .non F::P'
 st:∀s∈P++A,St s
 lnn:P.length+A.length<=40
noncomputable def lr(P:List T):T:=match P.getLast? with
 |some s=>rc s
 |none=>.non
def F6(P:List T)(w r:T):lr (P++[sp w r])=r:=by unfold lr;rw[List.getLast?_append];rfl
variable{ns:List Int}
section
variable {F:T}
def Okk.ne(h:Okk F P A):P≠ []:=by obtain⟨P',rfl⟩:=h.bt;simp
def Okk.last(h:Okk F P A):∃P' w r,P=P'++[sp w r]/\GR r/\Wy w:=by have e:P=P.dropLast++[P.getLast h.ne]:=(SN _).symm;obtain⟨w,r,e2,hr,hw⟩:=h.st _ (OL _ (List.getLast_mem h.ne));exact⟨P.dropLast,w,r,by rw[<-e2];exact e,hr,hw⟩
def Okk.lg(h:Okk F P A):ku P=.non\/GR (ku P):=by
 unfold ku;cases q:P.reverse.find? (λs=>qI (rc s))with
 |none=>exact .inl rfl
 |some s=>
  have:=List.mem_of_find?_eq_some q;obtain⟨w,r,rfl,hr,_⟩:=h.st s (OL _ (V9.mp this));exact .inr hr
def Okk.first(h:GR F):Okk F [sp .non F] []:=⟨⟨[],rfl⟩,λs hs=>by rw[OS,Oi]at hs;rw[hs];exact⟨_,_,rfl,h,.inl rfl⟩,by simp⟩
end
def my{t:T}{i:Int}(n:Nat)(h:f Z=.ok (.tup l))(e:l[n]?=ZA t)(hi:autoParam (i=(n:Nat)) u_):o2 aR f (cn (.int i)) Z=.ok t:=by subst hi;exact qH h rfl e
variable{x:N2×N2×Int}
def Kj{y:N2×N2×Int}(h:eB x=eB y):x=y:=by obtain⟨a,b,m⟩:=x;obtain⟨a',b',m'⟩:=y;unfold eB at h;have h':=T.tup.inj h;simp only[List.cons.injEq,T.int.injEq,and_true]at h';rw[ue h'.1,ue h'.2.1,h'.2.2]
def AD{t:T}(ht:t.pl=ZC)(h:a6 t 0 ((n:Int) - 1)=ZD):bL [.int (n:Nat),t]=.err "NoNumber":=by refine pM rfl ?_;show dG [.va (.int (n:Nat)),.va t]=_;unfold dG;exact(eU ((fN (k:=ZD) (bW (aH rfl (by rw[eF t _ _ ht,h])))))).trans rfl
def Nu(t:T):Prop:=t=.non\/∃x:Int,t=.int x
def Nu.fl{t:T}(h:Nu t):t.pl=ZC/\t.dep=0/\noL t=ZC:=by rcases h with rfl|⟨x,rfl⟩ <;> exact⟨rfl,rfl,rfl⟩
variable{fe:W5}{fi:W3}
def Hl{src:List (Option Nat)}(p:T->Prop)(hi:fi Z=.ok ts)(hs:ts.length<=1000)(hn:0<src.length)(hf:∀t∈ts,∃z,fe ((bF src Z).set 0 (.va t))=.ok z/\p z):∃l,fE fi src (gN 0) bT fe Z=.ok (.lst l)/\l.length=ts.length/\∀z∈l,p z:=by
 refine⟨_,nE (h:=λt=>okv (fe ((bF src Z).set 0 (.va t)))) hi (aE hs) hn λt ht=>?_,Oa _,λz hz=>?_⟩
 .obtain⟨z,e,_⟩:=hf t ht;rw[e];rfl
 .obtain⟨t,ht,rfl⟩:=OJ.mp hz;obtain⟨z,e,q⟩:=hf t ht;rw[e];exact q
variable{c:N2}
section
variable {P:List N2}
def Rd.inL(R:Rd cs ls L P)(h:eB x∈Kv cs ls):x∈L:=by rw[R.b]at h;obtain⟨y,hy,e⟩:=OJ.mp h;rw[<-Kj e];exact hy
def Rd.inP(R:Rd cs ls L P)(h:aw cs (en v)=ZC):v∈P:=by have:=mC h;rw[R.e]at this;obtain⟨u,hu,e⟩:=OJ.mp this;rw[<-ue e];exact hu
def Rd.mb(R:Rd cs ls L P)(n:gC L)(ha:a∈P)(hc:c∈P):∃t,cf [RR cs ls,en a,en c]=.ok t/\Nu t/\∀m,(a,c,m)∈L->∃x:Int,t=.int x:=by
 obtain⟨b,S,e⟩:=R.N5 n ha hc;refine⟨_,e,?_,λm hm=>?_⟩
 .cases b c with
  |none=>exact .inl rfl
  |some x=>exact .inr ⟨_,rfl⟩
 .obtain⟨d,w,q,_⟩:=S.least a (by simp) c m (.one hm);rw[q];exact⟨_,rfl⟩
def Rd.lb(R:Rd cs ls L P)(n:gC L)(ha:a∈P)(hc:c∈P):∃t,c7 [RR cs ls,en a,en c]=.ok t/\Nu t/\∀m,(c,a,m)∈L->∃x:Int,t=.int x:=by
 obtain⟨t,e,h,hd⟩:=R.mb n hc ha;have go:∀u,aV (Dh (tb (o2 lI (vr 3) (cn .non))) (cn .non) (o1 ke (vr 3))) [.va (RR cs ls),.va (en a),.va (en c),.va t]=.ok (.rt u)->c7 [RR cs ls,en a,en c]=.ok u:=λu hu=>a0 rfl ((aB (cK (aH rfl e) rfl)).trans hu);rcases h with rfl|⟨x,rfl⟩
 .exact⟨.non,go _ rfl,.inl rfl,λm hm=>by obtain⟨x,z⟩:=hd m hm;cases z⟩
 .exact⟨.int (-x),go _ rfl,.inr ⟨_,rfl⟩,λ_ _=>⟨_,rfl⟩⟩
def Rd.sb(R:Rd cs ls L P)(n:gC L)(ha:a∈P)(hc:c∈P):∃t u,cb [RR cs ls,en a,en c]=.ok (.tup [t,u])/\Nu t/\Nu u/\∀m,(c,a,m)∈L->∃x:Int,t=.int x:=by obtain⟨t,e,h,hd⟩:=R.lb n ha hc;obtain⟨u,e2,h2,_⟩:=R.mb n ha hc;exact⟨t,u,a0 rfl (bH (p2 (aH rfl e) (aH rfl e2))),h,h2,hd⟩
def Gw(R:Rd cs ls L P)(n:gC L):∃l,jW [RR cs ls,.int 0]=.ok (.lst l)/\l.length<=4/\∀z∈l,∃t u,z=.tup [t,u]/\Nu t/\Nu u:=by
 have hn:0<cs.length:=by have:=(bf R.g.c).2.1;omega
 obtain⟨x,y,r,c0,c1,c4⟩:=pT R.g hn;have ckP:∀{k:Nat},k<r.length->(⟨0,(k:Nat)⟩:N2)∈P:=λ{k} hk=>R.inP (mU (tS (cs:=cs) (c:=0) (Pn _) (by omega) (by rw[Ta,RT,c0];show k<(r.map T.int).length;rw[Oa];exact hk)))
 have e4:=iR2 (f:=ae (cn (.int 1)) (ae (vr 2) aj)) (Z:=[.va (RR cs ls),.va (.int 0),.va (.int (r.length:Nat))]) rfl (by omega) (by omega) (by omega) (by omega);rw[EY _ c1]at e4;obtain⟨l,el,ll,hl⟩:=Hl (src:=[ZB,ZA 0,ZA 1]) (fe:=cl cb (ae (vr 1) (ae (ba (ae (vr 2) (ae (o2 jb (vr 0) (cn (.int 1))) aj))) (ae (ba (ae (vr 2) (ae (vr 0) aj))) aj)))) (λz=>∃t u,z=.tup [t,u]/\Nu t/\Nu u) e4 (by rw[Oa,Qo];omega) (by simp) λt ht=>by obtain⟨k,hk,rfl⟩:=OJ.mp ht;have hk:=PZ.mp hk;obtain⟨t,u,e,h1,h2,_⟩:=R.sb n (ckP (k:=k) (by omega)) (ckP (k:=k+1) (by omega));exact⟨_,aH (ar rfl (ar (p2 rfl (aJ rfl rfl (by show Rs.ok (T.int (((k+1:Nat):Int) - 1))=_;rw[show((k+1:Nat):Int) - 1=(k:Nat)by omega]))) (ar (p2 rfl rfl) rfl))) e,t,u,rfl,h1,h2⟩
 refine⟨l,a0 rfl ?_,by rw[ll,Oa,Qo];omega,hl⟩;show uA [.va (RR cs ls),.va (.int 0),.em]=_;unfold uA;rw[aB (hZ (aH rfl (di R.g.p R.g.ok)))];rw[aB (hZ (aH (ar (aH (ar (my 0 rfl rfl) rfl) rfl) rfl) (pw rfl (KL hn))))];rw[aB (hZ (aH rfl (R.NF n)))];rw[aB (cK (aH (ar (my 2 (qH (my 0 rfl rfl) rfl c0) rfl) rfl) (by show Rs.ok (T.int ((r.map T.int).length:Nat))=_;rw[Oa])) rfl)];exact bH el
def Rd.nl(R:Rd cs ls L P)(n:gC L){t:T}(ht:t∈ls):∃z,cy [RR cs ls,t]=.ok z/\z.pl=ZC/\z.dep<=5:=by
 obtain⟨a,b,mo,le,rfl,ea,eb⟩:=jw (R.g.l t ht);obtain⟨c1,k1,rfl⟩:=aK ea;obtain⟨c2,k2,rfl⟩:=aK eb;have hL:((⟨c2,k2⟩:N2),(⟨c1,k1⟩:N2),-le)∈L:=R.inL (ON _ (T2.mpr ⟨_,ht,Oe⟩));obtain⟨t,u,e,_,hu,ht2⟩:=R.sb n (a:=⟨c1,k1⟩) (c:=⟨c2,k2⟩) (R.inP ea) (R.inP eb);obtain⟨x,rfl⟩:=ht2 _ hL;have hc:∃v,Nu v/\Dh (y8 (tb (o2 lI (o2 aR (vr 2) (cn (.int 1))) (cn .non))) (tb (o2 M4 (o2 aR (vr 2) (cn (.int 1))) (cn (.int 999))))) (cn .non) (o2 aR (vr 2) (cn (.int 1))) [.va (RR cs ls),.va (.tup [.tup [.int c1,.int k1],.tup [.int c2,.int k2],.int le,mo]),.va (.tup [.int x,u]),.em]=.ok v:=by
  have hi:o2 aR (vr 2) (cn (.int 1)) [.va (RR cs ls),.va (.tup [.tup [.int c1,.int k1],.tup [.int c2,.int k2],.int le,mo]),.va (.tup [.int x,u]),.em]=.ok u:=my 1 rfl rfl;rcases hu with rfl|⟨y,rfl⟩
  .exact⟨.non,.inl rfl,(zA (p:=ZC||false) (L9 (bW (aJ hi rfl rfl)) (λz=>by cases z))).trans rfl⟩
  .refine⟨if y > 999 then .non else .int y,by split;exact .inl rfl;exact .inr ⟨_,rfl⟩,(zA (p:=ZD||decide (y > 999)) (L9 (bW (aJ hi rfl rfl)) (λ_=>bW (aJ hi rfl rfl)))).trans ?_⟩;by_cases q:y > 999
   .rw[decide_eq_true q,if_pos q];rfl
   .rw[decide_eq_false q,if_neg q];exact hi
 obtain⟨v,hv,ev⟩:=hc;have hm:∃m:Int,F1 [.int x,.int 999]=.ok (.int m):=⟨_,rfl⟩;obtain⟨m,hm⟩:=hm;refine⟨.tup [.tup [.int c1,.int k1],.tup [.int c2,.int k2],.int m,v],a0 rfl ?_,?_,?_⟩
 .show eI [.va (RR cs ls),.va (.tup [.tup [.int c1,.int k1],.tup [.int c2,.int k2],.int le,mo]),.em,.em]=_;unfold eI;rw[aB (Z':=[.va (RR cs ls),.va (.tup [.tup [.int c1,.int k1],.tup [.int c2,.int k2],.int le,mo]),.va (.tup [.int x,u]),.em]) (cK (aH (ar rfl (ar (my 0 rfl rfl) (ar (my 1 rfl rfl) rfl))) e) rfl)];rw[aB (cK ev rfl)];exact bH (cq (ar (my 0 rfl rfl) (ar (my 1 rfl rfl) (ar (aH (ar (my 0 rfl rfl) rfl) hm) rfl))) (aE (k:=4) (by simp)))
 .have:=hv.fl.1;simp[T.pl,plS]at this ⊢;exact this
 .have:=hv.fl.2.1;simp only[T.dep,deps]at this ⊢;omega
def MJ(R:Rd cs ls L P)(n:gC L):∃v,ff [RR cs ls]=.ok v/\v.pl=ZC/\v.dep<=9:=by
 obtain⟨l,el,ll,hl⟩:=Hl (fi:=iS (o2 aR (vr 0) (cn (.int 1)))) (src:=[ZB,ZA 0]) (Z:=[.va (RR cs ls)]) (fe:=cl cy (ae (vr 1) (ae (vr 0) aj))) (λz=>z.pl=ZC/\z.dep<=5) (Mj (my 1 rfl rfl)) (by have:=R.g.n;omega) (by simp) λt ht=>by obtain⟨z,e,h⟩:=R.nl n ht;exact⟨z,aH rfl e,h⟩
 refine⟨.tup [.tup cs,.tup l],a0 rfl ((aB (hZ (aH rfl (R.NF n)))).trans (bH (p2 (my 0 rfl rfl) (aH (ar el rfl) qR)))),jM R.g.parts.1 (by rw[fV];exact eg λt ht=>(hl t ht).1),?_⟩;have h1:=(sS R.g).1;have h2:=iF λt ht=>(hl t ht).2;simp only[T.dep,deps]at h1 h2 ⊢;omega
end
def J6{t:T}(h:aw cs t=ZC):t∈b8 0 cs:=by obtain⟨c,k,rfl⟩:=aK h;have h':(decide ((0:Int)<=c)&&decide (c<cs.length)&&(decide ((0:Int)<=k)&&decide (k<reads cs c)))=ZC:=h;simp only[Oc,decide_eq_true_eq]at h';obtain⟨⟨h1,h2⟩,h3,h4⟩:=h';obtain⟨c,rfl⟩:=OP h1;obtain⟨k,rfl⟩:=OP h3;rw[lY]at h4;have:=zX cs 0 c k;rw[decide_eq_true (by rw[RT];omega),Sz]at this;obtain⟨y,hy,e⟩:=this;obtain⟨c',k',rfl,_⟩:=jT cs 0 hy;simp[aW,beqTs]at e;rw[e.1,e.2]at hy;exact hy
def rG{t:T}(h:aw cs t=ZC):t.pl=ZC:=(vW h).1
variable{a:T}
def DU(ha:aw cs a=ZC)(hb:aw cs b=ZC):aW a b=ZC↔a=b:=by
 refine⟨λh=>?_,λh=>by rw[h];exact j7 b (rG hb)⟩;by_cases e:a=b
 .exact e
 .rw[vV ha hb e]at h;cases h
variable{x:T}
def DY(hx:aw cs x=ZC)(hl:∀t∈l,aw cs t=ZC):eV x l=ZC↔x∈l:=by unfold eV;rw[Sz];refine⟨λ⟨y,hy,e⟩=>(DU (hl y hy) hx).mp e▸hy,λh=>⟨x,h,(DU hx hx).mpr rfl⟩⟩
def JF(hl:∀t∈l,aw cs t=ZC):(T.lst l).nd=ZC:=T.KM _ (by show plS l=ZC;exact eg λt ht=>rG (hl t ht))
def pj(hx:aw cs x=ZC)(hl:∀t∈l,aw cs t=ZC):fH x (.lst l)=.ok (.bl (!eV x l)):=by show(if (x.dep<=60\/deps l<=60)/\x.nd=ZC/\(T.lst l).nd=ZC then Rs.ok (T.bl (!eV x l))else .bad)=_;rw[if_pos ⟨.inl (by have:=(vW hx).2;omega),T.KM _ (rG hx),JF hl⟩]
def MH(ha:aw cs a=ZC)(hb:aw cs b=ZC):j6 a b=.ok (.bl (aW a b)):=by unfold j6;rw[if_pos (ib (by have:=(vW ha).2;omega) (T.KM _ (rG ha)) (T.KM _ (rG hb)))]
noncomputable def ahead(e:T):List T:=match e with
 |.tup [c,.int k] =>if 0<k then [.tup [c,.int (k - 1)]]else []
 |_=>[]
noncomputable def m9(ls:List T)(e:T):List T:=(ls.filter λl=>aW (at_ l 1) e).map (λl=>at_ l 0)++ahead e
variable{e z:T}
def D2(h:aw cs e=ZC)(hz:z∈ahead e):aw cs z=ZC:=by
 obtain⟨c,k,rfl⟩:=aK h;have hz:z∈(if 0<k then [T.tup [.int c,.int (k - 1)]]else []):=hz;by_cases q:0<k
 .rw[if_pos q]at hz;cases Oi.mp hz;unfold aw at h ⊢;simp only[Oc,decide_eq_true_eq]at h ⊢;omega
 .rw[if_neg q]at hz;cases hz
def rj(g:Good cs ls){l:T}(hl:l∈ls):∃a b x y,l=.tup [a,b,x,y]/\aw cs a=ZC/\aw cs b=ZC:=by obtain⟨a,b,x,y,e,_,h1,h2,_⟩:=cZ (g.l l hl);exact⟨a,b,x,y,e,h1,h2⟩
def tq(g:Good cs ls)(h:aw cs e=ZC)(hz:z∈m9 ls e):aw cs z=ZC:=by
 unfold m9 at hz;rcases Ox.mp hz with hz|hz
 .obtain⟨l,hl,rfl⟩:=OJ.mp hz;obtain⟨a,b,x,y,rfl,ha,_⟩:=rj g (SW.mp hl).1;exact ha
 .exact D2 h hz
def Kc(g:Good cs ls)(h:aw cs e=ZC):c8 [RR cs ls,e]=.ok (.lst (m9 ls e)):=by
 obtain⟨c,k,rfl⟩:=aK h;have gl:=g.n;have q:fE (iS (o2 aR (vr 0) (cn (.int 1)))) [ZB,ZA 1] (gN 0) (tb (o2 j6 (o2 aR (vr 0) (cn (.int 1))) (vr 1))) (o2 aR (vr 0) (cn (.int 0))) [.va (RR cs ls),.va (.tup [.int c,.int k]),.em]=.ok (.lst ((ls.filter λl=>aW (at_ l 1) (.tup [.int c,.int k])).map λl=>at_ l 0)):=
  Mg (Mj rfl) (aE gl) (by simp) λl hl=>by obtain⟨a,b,x,y,rfl,ha,hb⟩:=rj g hl;exact⟨bW (aJ rfl rfl (MH hb h)),λ_=>rfl⟩
 generalize hm:((ls.filter λl=>aW (at_ l 1) (.tup [.int c,.int k])).map λl=>at_ l 0)=m at q;have ml:m.length<=8:=by rw[<-hm,Oa];have:=Sq (λl=>aW (at_ l 1) (.tup [.int c,.int k])) ls;omega
 have eo:m9 ls (.tup [.int c,.int k])=m++(if 0<k then [.tup [.int c,.int (k - 1)]]else []):=by unfold m9;rw[hm];rfl
 refine a0 rfl ?_;show fL [.va (RR cs ls),.va (.tup [.int c,.int k]),.em]=_;unfold fL;rw[aB (by unfold oN;rw[q];rfl)];rw[eo];by_cases hk:0<k
 .rw[if_pos hk];rw[aB ((eU (bW (aJ rfl rfl (by show Rs.ok (T.bl (decide (0<k)))=_;rw[decide_eq_true hk])))).trans (lG (p2 rfl rfl) rfl (by omega)))];rfl
 .rw[if_neg hk];rw[aB ((eE (bW (aJ rfl rfl (by show Rs.ok (T.bl (decide (0<k)))=_;rw[decide_eq_false hk])))).trans rfl)];rw[OS];rfl
def Cl(ls:List T)(e x:T):Prop:=∀S:T->Prop,S e->(∀y z,S y->z∈m9 ls y->S z)->S x
def Cl.here:Cl ls e e:=λS h _=>h
def Cl.on(h:Cl ls e y)(hz:z∈m9 ls y):Cl ls e z:=λS h1 h2=>h2 y z (h S h1 h2) hz
structure Kn (cs ls:List T)(e:T)(K:List T):Prop where
 nd:K.Nodup
 ev:∀x∈K,aw cs x=ZC
 cl:∀x∈K,Cl ls e x
 he:e∈K
 up:∀y∈K,∀z∈m9 ls y,z∈K
noncomputable def fM(t:T):List Int:=match t with
 |.tup [.int c,.int k] =>[c,k]
 |_=>[]
theorem yI:∀{K:List T},(∀x∈K,aw cs x=ZC)->Tr.rowsT K=ZA (K.map fM)
 |[],_=>rfl
 |x::K,h=>by obtain⟨c,k,rfl⟩:=aK (h x Oe);have:=yI λx hx=>h x (N8 _ hx);show(match iY [.int c,.int k],Tr.rowsT K with|some ns,ZA k=>if ns=[]then ZB else ZA (ns::k)|_,_=>ZB)=_;rw[this];rfl
def G3(ns:List Int):T:=.tup (ns.map .int)
noncomputable def Kx(K:List T):List T:=((K.map fM).mergeSort nU).map G3
def Bx(h:aw cs x=ZC):G3 (fM x)=x:=by obtain⟨c,k,rfl⟩:=aK h;rfl
def lL(hc:aX (.tup cs)=ZC):(b8 0 cs).length<=16:=by obtain⟨h,_,h4⟩:=bf hc;have:=oa cs 0 h;omega
variable{K:List T}
def uc(hc:aX (.tup cs)=ZC)(nd:K.Nodup)(h:∀x∈K,aw cs x=ZC):K.length<=16:=by have:=VG nd λx hx=>J6 (h x hx);have:=lL hc;omega
def J9(hc:aX (.tup cs)=ZC)(nd:K.Nodup)(h:∀x∈K,aw cs x=ZC):uR [.lst K]=.ok (.lst (Kx K)):=by have hl:=uc hc nd h;unfold uR;simp only[yI h];rw[Oa,if_pos (by omega)];rfl
def F3(h:∀x∈K,aw cs x=ZC):x∈Kx K↔x∈K:=by
 unfold Kx;rw[OJ];constructor
 .rintro ⟨ns,hn,rfl⟩;obtain⟨y,hy,rfl⟩:=OJ.mp ((RI _ _).mem_iff.mp hn);rw[Bx (h y hy)];exact hy
 .intro hx;exact⟨fM x,(RI _ _).mem_iff.mpr (UO hx),Bx (h x hx)⟩
noncomputable def l4(K:List T)(z:T):List T:=if eV z K then K else K++[z]
theorem jL:∀{zs K:List T},K.Nodup->(∀x∈K,aw cs x=ZC)->(∀x∈zs,aw cs x=ZC) ->
  (zs.foldl l4 K).Nodup/\(∀x,x∈zs.foldl l4 K↔x∈K\/x∈zs)/\∃t,zs.foldl l4 K=K++t
 |[],K,nd,_,_=>⟨nd,λx=>by simp,[],by simp⟩
 |z::zs,K,nd,hK,hz=>by
  have ez:=hz z Oe;have hz':∀x∈zs,aw cs x=ZC:=λx hx=>hz x (N8 _ hx);rw[Wo];by_cases q:z∈K
  .have e:l4 K z=K:=by unfold l4;rw[if_pos ((DY ez hK).mpr q)]
   rw[e];obtain⟨h1,h2,h3⟩:=jL nd hK hz';refine⟨h1,λx=>?_,h3⟩;rw[h2,Oj];exact⟨λh=>h.imp id .inr,λh=>h.elim .inl λh=>h.elim (λh=>.inl (h▸q)) .inr⟩
  .have e:l4 K z=K++[z]:=by unfold l4;rw[if_neg (λh=>q ((DY ez hK).mp h))]
   rw[e];have nd':(K++[z]).Nodup:=Pc.mpr ⟨nd,by simp,λa ha b hb=>by rw[Oi.mp hb];exact λh=>q (h▸ha)⟩;have hK':∀x∈K++[z],aw cs x=ZC:=λx hx=>(Ox.mp hx).elim (hK x) λh=>Oi.mp h▸ez;obtain⟨h1,h2,t,h3⟩:=jL nd' hK' hz';refine⟨h1,λx=>?_,[z] ++t,by rw[h3,O8]⟩;rw[h2,Ox,Oi,Oj,or_assoc]
abbrev knB:W4:=aF (gE (iS (cl c8 (ae (vr 0) (ae (ln 2 (o2 aR (vr 2) (vr 3))) aj)))) (gN 4) knI) (BH 3 (cn (.int 1)))
noncomputable abbrev Ej(R e:T)(K:List T)(p:Nat)(s4:Sl):En:=[.va R,.va e,.ow (.lst K),.va (.int p),s4]
theorem Hm(hc:aX (.tup cs)=ZC)(R e:T)(p:Nat):∀(zs K:List T)(s4:Sl),K.Nodup->(∀x∈K,aw cs x=ZC)->(∀x∈zs,aw cs x=ZC) ->
  ∃s,bq (gN 4) knI zs (Ej R e K p s4)=.ok (.nx (Ej R e (zs.foldl l4 K) p s))
 |[],K,s4,_,_,_=>⟨s4,rfl⟩
 |z::zs,K,s4,nd,hK,hz=>by
  have ez:=hz z Oe;have hz':∀x∈zs,aw cs x=ZC:=λx hx=>hz x (N8 _ hx);have sp:=jL nd hK (λx hx=>Oi.mp hx▸ez);have hl:=uc hc nd hK;have st:knI (Ej R e K p (.va z))=.ok (.nx (Ej R e (l4 K z) p (.va z))):=by
   have c:Bd 2 (tb (o2 fH (vr 4) (vr 2))) (Ej R e K p (.va z))=.ok (!eV z K):=C4 (bW (aJ rfl rfl (pj ez hK)));unfold l4;cases q:eV z K with
   |true=>rw[q]at c;exact(eE c).trans rfl
   |false=>
    rw[q]at c;refine(eU c).trans ?_;rw[lG rfl rfl (by omega)];rfl
  obtain⟨s,ih⟩:=Hm hc R e p zs (l4 K z) (.va z) sp.1 (λx hx=>((sp.2.1 x).mp hx).elim (hK x) λh=>Oi.mp h▸ez) hz';exact⟨s,by rw[eC rfl st,ih];rfl⟩
theorem zq(g:Good cs ls)(e:T):∀(m p:Nat)(K:List T)(s4:Sl)(n:Nat),17 - p<=m->m<n->K.Nodup->(∀x∈K,aw cs x=ZC)->(∀x∈K,Cl ls e x)->e∈K->p<=K.length->(∀i y,i<p->K[i]?=ZA y->∀z∈m9 ls y,z∈K) ->
  ∃K' p' s,bJ knC knB n (Ej (RR cs ls) e K p s4)=.ok (.nx (Ej (RR cs ls) e K' p' s))/\Kn cs ls e K'
 |0,p,K,s4,n,hm,hn,nd,hK,hcl,he,hp,hup=>by have hl:=uc g.c nd hK;omega
 |m+1,p,K,s4,n,hm,hn,nd,hK,hcl,he,hp,hup=>by
  cases n with
  |zero=>exact absurd hn (Wt _)
  |succ n=>
  have hn:=Nat.lt_of_succ_lt_succ hn;have c:knC (Ej (RR cs ls) e K p s4)=.ok (decide ((p:Int)<(K.length:Int))):=bW (aJ rfl (C5 rfl (aH rfl rfl) rfl) rfl);by_cases q:p<K.length
  .rw[decide_eq_true (Int.ofNat_lt.mpr q)]at c;have hy:=hK K[p] (Pp q);have eK:K[p]?=ZA K[p]:=OA q;obtain⟨s,lp⟩:=Hm g.c (RR cs ls) e p (m9 ls K[p]) K s4 nd hK λz hz=>tq g hy hz;obtain⟨h1,h2,t,h3⟩:=jL nd hK λz hz=>tq g hy hz;have nk:K[p].nk ZD=ZC:=by obtain⟨c,k,e⟩:=aK hy;rw[e];rfl
   have st:knB (Ej (RR cs ls) e K p s4)=.ok (.nx (Ej (RR cs ls) e ((m9 ls K[p]).foldl l4 K) (p+1) s)):=by refine(aB (gA (kx (aH (ar rfl (ar (C5 (o:=.lst K) rfl (aJ rfl rfl (xO q)) nk) rfl)) (Kc g hy))) lp)).trans ?_;rfl
   rw[pK c st];have hK2:∀x∈(m9 ls K[p]).foldl l4 K,aw cs x=ZC:=λx hx=>((h2 x).mp hx).elim (hK x) (tq g hy);refine zq g e m (p+1) _ s n (by clear hcl hK hup;omega) hn h1 hK2 (λx hx=>((h2 x).mp hx).elim (hcl x) ((hcl _ (Pp q)).on)) ((h2 e).mpr (.inl he)) (by rw[h3,Oh];exact OV q (Nat.le_add_right _ _)) λi y hi ey z hz=>(h2 z).mpr ?_;have hiK:i<K.length:=Rl (Rv hi) q;rw[h3,OW hiK]at ey;by_cases hip:i=p
   .subst hip;rw[eK]at ey;cases ey;exact .inr hz
   .exact .inl (hup i y (Nat.lt_of_le_of_ne (Rv hi) hip) ey z hz)
  .rw[decide_eq_false λz=>q (Int.ofNat_lt.mp z)]at c;refine⟨K,p,s4,vL c,nd,hK,hcl,he,λy hy z hz=>?_⟩;obtain⟨i,hi,rfl⟩:=Qs hy;exact hup i _ (Oo hi (V5 q)) (OA hi) z hz
def Gy(g:Good cs ls)(h:aw cs e=ZC):∃K,Kn cs ls e K/\cY [RR cs ls,e]=.ok (.lst (Kx K)):=by obtain⟨K,p,s,e1,hK⟩:=zq g e 17 0 [e] .em FU (by omega) (by unfold FU;omega) (by simp) (λx hx=>Oi.mp hx▸h) (λx hx=>Oi.mp hx▸Cl.here) (by simp) (Pn _) (λi y hi=>by omega);refine⟨K,hK,a0 rfl ?_⟩;show uB [.va (RR cs ls),.va e,.em,.em,.em]=_;unfold uB;rw[aB (hZ (aH rfl (di g.p g.ok)))];rw[aB (hZ (aH rfl (tQ g (rG h) h)))];rw[aB (xJ rfl (by simp) (by simp))];rw[aB (cK rfl rfl)];refine(aB e1).trans ?_;exact zB (bH (aH rfl (J9 g.c hK.nd hK.ev)))
variable{es:List T}
def Kh(g:Good cs ls)(h:aw cs e=ZC):∃L,cY [RR cs ls,e]=.ok (.lst L)/\(∀x∈L,aw cs x=ZC)/\L.length<=16:=by obtain⟨K,hK,e1⟩:=Gy g h;refine⟨Kx K,e1,λx hx=>hK.ev x ((F3 hK.ev).mp hx),?_⟩;unfold Kx;rw[Oa,(RI _ _).length_eq,Oa];exact uc g.c hK.nd hK.ev
def sk(R e:T):List T:=match cY [R,e]with
 |.ok (.lst l)=>l
 |_=>[]
def AU(g:Good cs ls)(h:aw cs e=ZC):cY [RR cs ls,e]=.ok (.lst (sk (RR cs ls) e))/\(∀x∈sk (RR cs ls) e,aw cs x=ZC)/\(sk (RR cs ls) e).length<=16:=by
 obtain⟨L,h1,h3⟩:=Kh g h;have:sk (RR cs ls) e=L:=by unfold sk;rw[h1]
 rw[this];exact⟨h1,h3⟩
def CQ(ha:aw cs a=ZC)(hb:aw cs b=ZC)(h:keyOf a=keyOf b):a=b:=by obtain⟨c,k,rfl⟩:=aK ha;obtain⟨c',k',rfl⟩:=aK hb;have h:ZA [SU c,SU k]=ZA [SU c',(SU k':L2.Key)]:=h;simp at h;rw[h.1,h.2]
def vI(ha:aw cs a=ZC):∃k,keyOf a=ZA k:=by obtain⟨c,k,rfl⟩:=aK ha;exact⟨_,rfl⟩
theorem v9{k v:T}:∀{ks vs:List T},ks.length=vs.length->(∀x∈ks,keyOf x≠keyOf k)->gb k v ks vs=(ks++[k],vs++[v])
 |[],[],_,_=>rfl
 |x::ks,y::vs,hl,h=>by unfold gb;rw[if_neg (h x Oe),v9 (by simpa using hl) λz hz=>h z (N8 _ hz)];rfl
theorem rM(f:T->T):∀(es ks:List T),(∀x∈ks++es,aw cs x=ZC)->(ks++es).Nodup->f9 (es.map λe=>(e,f e)) (ks,ks.map f)=(ks++es,(ks++es).map f)
 |[],ks,_,_=>by simp[f9]
 |e::es,ks,hev,nd=>by
  rw[Of,f9];have h1:gb e (f e) ks (ks.map f)=(ks++[e],(ks++[e]).map f):=by
   rw[v9 (by simp) λx hx q=>?_,Py]
   .rfl
   .have:x=e:=CQ (hev x (OL _ hx)) (hev e (ON _ Oe)) q;subst this;exact(Pc.mp nd).2.2 x hx x Oe rfl
  have e2:ks++e::es=ks++[e] ++es:=by simp
  rw[e2]at hev nd ⊢;show f9 _ (gb e (f e) ks (ks.map f))=_;rw[h1];exact rM f es (ks++[e]) hev nd
theorem BW(f:T->T):∀{es:List T},(∀x∈es,aw cs x=ZC)->Hd (es.map λe=>.tup [e,f e])=ZA (es.map λe=>(e,f e))
 |[],_=>rfl
 |e::es,h=>by obtain⟨k,hk⟩:=vI (h e Oe);rw[Of,Of,Hd,hk,BW f λx hx=>h x (N8 _ hx)]
def GB(f:T->T)(h:∀x∈es,aw cs x=ZC)(nd:es.Nodup)(hl:es.length<=100):lN [.lst (es.map λe=>.tup [e,f e])]=.ok (.dct es (es.map f)):=by unfold lN;simp only[BW f h];rw[if_pos (by rw[Oa];omega)];have:=rM f es [] (by simpa using h) (by simpa using nd);simp only[Sh,Q4]at this;rw[this]
theorem zO(f:T->T)(he:aw cs e=ZC){k:List L2.Key}(hk:keyOf e=ZA k):∀{es:List T},(∀x∈es,aw cs x=ZC)->e∈es->kP es (es.map f) k=ZA (f e)
 |x::es,h,hm=>by
  rw[Of,kP];by_cases q:keyOf x=ZA k
  .rw[if_pos q];have:x=e:=CQ (h x Oe) he (q.trans hk.symm);rw[this]
  .rw[if_neg q];refine zO f he hk (λx hx=>h x (N8 _ hx)) ?_;rcases Oj.mp hm with z|z
   .subst z;exact absurd hk q
   .exact z
def DI(f:T->T)(h:∀x∈es,aw cs x=ZC)(hm:e∈es):jB (.dct es (es.map f)) e=.ok (f e):=by obtain⟨k,hk⟩:=vI (h e hm);unfold jB;rw[hk];simp only[zO f (h e hm) hk h hm]
abbrev Lt(a b:T):Prop:=cj (fM a) (fM b)=ZC
def ze(c k c' k':Int):cj [c,k] [c',k']=(if c=c' then decide (k<k')else decide (c<c')):=by
 unfold cj cj cj;by_cases h:c=c'
 .rw[if_pos h,if_pos h];by_cases h2:k=k'
  .rw[if_pos h2,h2];simp
  .rw[if_neg h2]
 .rw[if_neg h,if_neg h]
theorem Dt:∀(cs:List T)(i:Nat),(b8 i cs).Pairwise Lt
 |[],i=>Ts
 |x::cs,i=>by
  rw[b8,UD];refine⟨?_,Dt cs (i+1),λa ha b hb=>?_⟩
  .unfold kg rng;rw[RU,Vz];refine List.pairwise_lt_range.imp ?_;intro a b hab;show cj [(i:Int),0+(a:Int)] [(i:Int),0+(b:Int)]=ZC;rw[ze,if_pos rfl];exact decide_eq_true (by omega)
  .unfold kg at ha;obtain⟨t,ht,rfl⟩:=OJ.mp ha;obtain⟨j,rfl,hj⟩:=ir ht;obtain⟨c,k,rfl,h1,_,_⟩:=jT cs (i+1) hb;show cj [(i:Int),(j:Int)] [(c:Int),(k:Int)]=ZC;rw[ze,if_neg (by omega)];exact decide_eq_true (by omega)
def Ab{q:T->Bool}{p r:List T}(h:(p++x::r).Pairwise Lt):(p++x::r).filter (λy=>cj (fM x) (fM y)&&q y)=r.filter q:=by
 rw[UD]at h;obtain⟨_,h2,h3⟩:=h;rw[List.pairwise_cons]at h2;have np:∀y∈p,cj (fM x) (fM y)=ZD:=λy hy=>by
  have:=h3 y hy x Oe;cases z:cj (fM x) (fM y)with
  |false=>rfl
  |true=>have:=lD _ _ _ this z;rw[jv]at this;cases this
 rw[List.filter_append,T1,jv,RG,if_neg OB,List.filter_eq_nil_iff.mpr λy hy=>by rw[np y hy];simp,Q4];exact List.filter_congr λy hy=>by rw[h2.1 y hy,Ry]
def L1(ha:aw cs a=ZC)(hb:aw cs b=ZC):AG a b=.ok (.bl (cj (fM a) (fM b))):=by obtain⟨c,k,rfl⟩:=aK ha;obtain⟨c',k',rfl⟩:=aK hb;rfl
noncomputable def stp(L:List T)(n:Nat):T:=.tup ((rng 0 n).map λt=>.int ((L.filter λx=>aW (at_ x 0) t).length:Nat))
def HC(h:aw cs x=ZC):∃c:Int,at_ x 0=.int c/\aR x (.int 0)=.ok (.int c):=by obtain⟨c,k,rfl⟩:=aK h;exact⟨c,rfl,rfl⟩
def Gv(g:Good cs ls)(h:aw cs e=ZC):jV [RR cs ls,e]=.ok (stp (sk (RR cs ls) e) cs.length):=by
 obtain⟨h1,h3,h4⟩:=AU g h;generalize sk (RR cs ls) e=L at h1 h3 h4;obtain⟨_,_,c4⟩:=bf g.c;refine a0 rfl ?_;show uz [.va (RR cs ls),.va e,.em]=_;unfold uz;have q:fE (iS (cl cY (ae (vr 0) (ae (vr 1) aj)))) [ZB] (gN 0) bT (o2 aR (vr 0) (cn (.int 0))) [.va (RR cs ls),.va e,.em]=.ok (.lst (L.map λx=>at_ x 0)):=
  nE (kx (aH rfl h1)) (aE h4) (by simp) λt ht=>by obtain⟨c,e1,e2⟩:=HC (h3 t ht);rw[e1];exact aJ rfl rfl e2
 rw[aB (cK q rfl)];unfold stp;refine bH (aH (ar (nE (Gk (ar (aH rfl rfl) rfl) (by omega) (by omega)) (by rw[iu];exact aE c4) (by simp) λt ht=>?_) rfl) qR);obtain⟨j,rfl,hj⟩:=ir ht;refine Ma rfl rfl ?_;show(if ((T.int j).dep<=60\/deps (L.map λx=>at_ x 0)<=60)/\(T.int j).nd=ZC/\nds (L.map λx=>at_ x 0)=ZC then _ else _)=_;rw[if_pos ⟨.inl (by simp[T.dep]),rfl,plS_nds _ (eg λt ht=>by obtain⟨x,hx,rfl⟩:=OJ.mp ht;obtain⟨c,e1,_⟩:=HC (h3 x hx);rw[e1];rfl)⟩,Ue,List.countP_eq_length_filter]
 rfl
noncomputable def hd(l:List T):T:=match l with
 |[] =>.non
 |x::_=>x
def q2(R x y:T):Bool:=!eV x (sk R y)&& !eV y (sk R x)
abbrev Fy(x y:T):T:=.tup [x,y]
def lp(R:T):List T->List T
 |[] =>[]
 |x::r=>(r.filter (q2 R x)).map (Fy x)++lp R r
abbrev qq(R x y:T):Bool:=cj (fM x) (fM y)&&q2 R x y
theorem Hk(R:T)(h:P.Pairwise Lt):∀(r p:List T),P=p++r->r.flatMap (λx=>(P.filter (qq R x)).map (Fy x))=lp R r
 |[],p,_=>rfl
 |x::r,p,e=>by rw[RA,Hk R h r (p++[x]) (by rw[e];simp),lp];subst e;rw[Ab h]
abbrev HS(R:T)(P acc:List T)(s4 s5:Sl):En:=[.va R,.va (.lst P),.va (.dct P (P.map λx=>.lst (sk R x))),.ow (.lst acc),s4,s5]
theorem Bw(g:Good cs ls)(hP:∀x∈P,aw cs x=ZC)(hx:x∈P):∀(ts acc:List T)(s5:Sl),(∀y∈ts,y∈P)->acc.length+ts.length<=900 ->
  ∃s,bq (gN 5) upI ts (HS (RR cs ls) P acc (.va x) s5)=.ok (.nx (HS (RR cs ls) P (acc++(ts.filter (qq (RR cs ls) x)).map (Fy x)) (.va x) s))
 |[],acc,s5,_,_=>⟨s5,by simp[bq]⟩
 |y::ts,acc,s5,h,hl=>by
  rw[Og]at hl;have hy:=h y Oe;have t:kh (tb (o2 AG (vr 4) (vr 5))) (kh (tb (o2 fH (vr 4) (o2 jB (vr 2) (vr 5)))) (tb (o2 fH (vr 5) (o2 jB (vr 2) (vr 4))))) (HS (RR cs ls) P acc (.va x) (.va y))=.ok (qq (RR cs ls) x y):=
   Ht (bW (aJ rfl rfl (L1 (hP x hx) (hP y hy)))) λ_=>
    Ht (bW (aJ rfl (aJ rfl rfl (DI _ hP hy)) (pj (hP x hx) (AU g (hP y hy)).2.1))) λ_=>
     bW (aJ rfl (aJ rfl rfl (DI _ hP hx)) (pj (hP y hy) (AU g (hP x hx)).2.1))
  cases q:qq (RR cs ls) x y with
  |true=>
   rw[q]at t;have st:upI (HS (RR cs ls) P acc (.va x) (.va y))=.ok (.nx (HS (RR cs ls) P (acc++[Fy x y]) (.va x) (.va y))):=(eU t).trans (lG (p2 rfl rfl) rfl (by omega));obtain⟨s,ih⟩:=Bw g hP hx ts (acc++[Fy x y]) (.va y) (λz hz=>h z (N8 _ hz)) (by rw[Oh,Pl];omega);refine⟨s,?_⟩;rw[eC rfl st,ih,List.filter_cons_of_pos q,Of,O8];rfl
  |false=>
   rw[q]at t;obtain⟨s,ih⟩:=Bw g hP hx ts acc (.va y) (λz hz=>h z (N8 _ hz)) (by omega);refine⟨s,?_⟩;rw[eC rfl ((eE t).trans rfl),ih,List.filter_cons_of_neg (by rw[q];exact OB)]
theorem Bu(g:Good cs ls)(hP:∀x∈P,aw cs x=ZC)(hl:P.length<=16):∀(xs acc:List T)(s4 s5:Sl),(∀y∈xs,y∈P)->acc.length+16*xs.length<=800 ->
  ∃y4 y5,bq (gN 4) (gE (iS (vr 1)) (gN 5) upI) xs (HS (RR cs ls) P acc s4 s5)=.ok (.nx (HS (RR cs ls) P (acc++xs.flatMap λx=>(P.filter (qq (RR cs ls) x)).map (Fy x)) y4 y5))
 |[],acc,s4,s5,_,_=>⟨s4,s5,by simp[bq]⟩
 |x::xs,acc,s4,s5,h,hn=>by rw[Og]at hn;obtain⟨s,e1⟩:=Bw g hP (h x Oe) P acc s5 (λ_ hy=>hy) (by omega);have hf:=Sq (qq (RR cs ls) x) P;obtain⟨y4,y5,ih⟩:=Bu g hP hl xs (acc++(P.filter (qq (RR cs ls) x)).map (Fy x)) (.va x) s (λz hz=>h z (N8 _ hz)) (by rw[Oh,Oa];omega);refine⟨y4,y5,?_⟩;rw[eC rfl (gA (kx rfl) e1),ih,RA,O8]
def AS(g:Good cs ls):cv [RR cs ls]=.ok (.lst (lp (RR cs ls) (b8 0 cs))):=by have hP:∀x∈b8 0 cs,aw cs x=ZC:=λx hx=>mU hx;have hl:=lL g.c;refine a0 rfl ?_;show fK [.va (RR cs ls),.em,.em,.em,.em,.em]=_;unfold fK;rw[aB (cK (aH rfl (u9 g)) rfl)];rw[aB (cK (aH (ar (nE (kx rfl) (aE hl) (by simp) λt ht=>p2 rfl (aH rfl (AU g (hP t ht)).1)) rfl) (GB _ hP (jQ cs 0) (by omega))) rfl)];rw[aB (xK (by simp))];obtain⟨y4,y5,e1⟩:=Bu g hP hl (b8 0 cs) [] .em .em (λ_ h=>h) (by simp;omega);rw[Q4,Hk _ (Dt cs 0) (b8 0 cs) [] rfl]at e1;refine(aB (gA (kx rfl) e1)).trans ?_;rfl
mutual
theorem xt:∀{t:T},t.pl=ZC->t.nk ZD=ZC->noL t=ZC
 |.non,_,_=>rfl
 |.bl _,_,_=>rfl
 |.int _,_,_=>rfl
 |.str _,_,_=>rfl
 |.tup l,p,n=>by unfold T.pl at p;unfold T.nk at n;unfold noL;exact noLs_of p n
 |.lst l,_,n=>by unfold T.nk at n;cases n
 |.scr _,p,_=>by unfold T.pl at p;cases p
 |.dct _ _,p,_=>by unfold T.pl at p;cases p
 |.ob _ _ _,p,_=>by unfold T.pl at p;cases p
theorem noLs_of:∀{l:List T},plS l=ZC->nks ZD l=ZC->noLs l=ZC
 |[],_,_=>rfl
 |t::l,p,n=>by unfold plS at p;unfold nks at n;rw[Oc]at p n;unfold noLs;rw[xt p.1 n.1,noLs_of p.2 n.2];rfl
end
theorem jn:∀{l:List T},(∀t∈l,noL t=ZC)->noLs l=ZC
 |[],_=>rfl
 |t::l,h=>by unfold noLs;rw[h t (.head _),jn λu hu=>h u (.tail _ hu)];rfl
variable{as:List T}{b:W6}{g:List Sl->Rs (T×OT)}{h:T->List T}{ls:List (List T)}
def Gd{f:En->Rs (List (List T))}(h:f Z=.ok ls)(hi:i<Z.length)(hn:ls.all noLs=ZC):oM i f Z=.ok (.nx (Z.set i (.ow (.ll ls)))):=by unfold oM;rw[h,ax,if_pos ⟨hi,hn⟩]
def Gh(hi:Z[i]?=ZA (.ow (.ll ls)))(h:f (strip Z)=.ok (.lst l))(hl:ls.length<=1000)(hn:noLs l=ZC):lW i f Z=.ok (.nx (Z.set i (.ow (.ll (ls++[l]))))):=by unfold lW;rw[hi];dsimp only;rw[h,ax];dsimp only;rw[if_pos ⟨by have:=Qk;omega,hn⟩]
def JS{f g:En->Rs (List (List T))}{l m:List (List T)}(h:f Z=.ok l)(h2:g Z=.ok m)(hl:l.length+m.length<=1000):Cw f g Z=.ok (l++m):=by unfold Cw;rw[h,ax,h2,ax,if_pos (by have:=Qk;omega)]
def Mf(h:f (strip Z)=.ok (.lst l)):Kz f Z=.ok [l]:=by unfold Kz;rw[h];rfl
theorem Hq(base:En)(h0:0<base.length):∀(ts:List T)(s:Sl),(∀t∈ts,fe (strip (base.set 0 (.va t)))=.ok (.lst (h t)))->iC (gN 0) fe ts (base.set 0 s)=.ok (ts.map h)
 |[],s,_=>rfl
 |t::ts,s,hh=>by
  have hg:gN 0 t (base.set 0 s)=.ok (base.set 0 (.va t)):=by unfold gN;rw[if_pos (by simpa using h0),VV]
  rw[iC,hg,ax,hh t (.head _),ax];dsimp only;rw[Hq base h0 ts (.va t) λu hu=>hh u (.tail _ hu)];rfl
def Me{src:List (Option Nat)}(hi:fi Z=.ok ts)(hs:ts.length<=1000)(hn:0<src.length)(hf:∀t∈ts,fe (strip ((bF src Z).set 0 (.va t)))=.ok (.lst (h t))):Ky fi src (gN 0) fe Z=.ok (ts.map h):=by
 unfold Ky;have hl:0<(bF src Z).length:=by unfold bF;rw[Oa];exact hn
 have e:bF src Z=(bF src Z).set 0 (bF src Z)[0]:=by rw[Ud]
 rw[hi,ax,if_pos (by have:=Qk;omega),e,Hq (bF src Z) hl ts _ hf]
def Gg{j:Nat}{F:W4}{fl:Fl}(hi:Z[i]?=ZA (.ow (.ll ls)))(h:qF j F ls (Z.set i .em)=.ok fl):lV i j F Z=.ok fl:=by unfold lV;rw[hi];dsimp only;rw[h]
def Gb{c m:Str}{fs:W3}{ns:List Str}(hi:Z[i]?=ZA (.va (.ob c ns ts)))(ho:Hh ts=ZA ls)(hs:fs Z=.ok as)(hm:ns.contains m=ZD)(hn:ls.all noLs=ZC)(ha:noLs as=ZC)(hg:g (.ow (.ob c ns ls)::as.map Sl.va)=.err d):iO i c m g fs Z=.err d:=by unfold iO;rw[hi];dsimp only;rw[ho,hs];dsimp only;rw[if_pos ⟨⟨rfl,hm⟩,hn,ha⟩,hg]
def L7(h:f Z=.err d):EH f Z=.err d:=by unfold EH;rw[h];rfl
def xI{F G:W4}(h:b Z=.ok ZC):EG b F G Z=F Z:=by unfold EG;rw[h];rfl
def mx{F G:W4}(h:b Z=.ok ZD):EG b F G Z=G Z:=by unfold EG;rw[h];rfl
def tU{F:W4}{h:En->Str->Rs T}{t:T}(e:F Z=.err d)(e2:h Z d=.ok t):uW F h Z=.ok (.rt t):=by unfold uW;rw[e];dsimp only;rw[e2]
def rE{t:T}(h:aw cs t=ZC):noL t=ZC:=by obtain⟨c,k,rfl⟩:=aK h;rfl
def rF{t:T}(h:aw cs t=ZC):t.pl=ZC/\t.dep<=1:=by obtain⟨c,k,rfl⟩:=aK h;exact⟨rfl,by simp[T.dep,deps]⟩
def GR.noL(h:GR r):Tr.noL r=ZC:=xt h.pl h.nk
def St.noL(h:St s):Tr.noL s=ZC:=xt h.pl.1 h.pl.2
theorem CD{t:T}:∀{l:List T},t∈lp R l->∃x∈l,∃y∈l,t=Fy x y
 |[],h=>by cases h
 |x::r,h=>by
  unfold lp at h;rcases Ox.mp h with h|h
  .obtain⟨y,hy,rfl⟩:=OJ.mp h;exact⟨x,.head _,y,.tail _ (SW.mp hy).1,rfl⟩
  .obtain⟨a,ha,b,hb,rfl⟩:=CD h;exact⟨a,.tail _ ha,b,.tail _ hb,rfl⟩
theorem CF{R:T}:∀{l:List T},(lp R l).length<=l.length*l.length
 |[] =>by unfold lp;simp
 |x::r=>by
  unfold lp;rw[Oh,Oa,Og];have h1:=Sq (q2 R x) r;have h2:=CF (R:=R) (l:=r);have:(r.length+1)*(r.length+1)=r.length*r.length+2*r.length+1:=by rw[Nat.add_mul,Nat.mul_add];omega
  omega
structure Tl (l:List T):Prop where
 no:noLs l=ZC
 el:∀t∈l,t.pl=ZC/\t.dep<=8
 ln:l.length<=300
def Tl.lst{l:List T}(h:Tl l):(T.lst l).pl=ZC/\(T.lst l).dep<=9:=⟨by rw[BZ];exact eg λt ht=>(h.el t ht).1,by unfold T.dep;have:=oh λt ht=>(h.el t ht).2;omega⟩
variable{ls:List T}
def KP(g:Good cs ls)(h:aw cs e=ZC):Tl (sk (RR cs ls) e):=by obtain⟨_,h3,h4⟩:=AU g h;exact⟨jn λt ht=>rE (h3 t ht),λt ht=>⟨(rF (h3 t ht)).1,by have:=(rF (h3 t ht)).2;omega⟩,by omega⟩
def KQ(g:Good cs ls):Tl (lp (RR cs ls) (b8 0 cs)):=by
 have hm:∀t∈lp (RR cs ls) (b8 0 cs),noL t=ZC/\t.pl=ZC/\t.dep<=8:=λt ht=>by obtain⟨x,hx,y,hy,rfl⟩:=CD ht;obtain⟨c,k,rfl⟩:=aK (mU hx);obtain⟨c',k',rfl⟩:=aK (mU hy);exact⟨rfl,rfl,by simp[Fy,T.dep,deps]⟩
 refine⟨jn λt ht=>(hm t ht).1,λt ht=>(hm t ht).2,?_⟩;have h1:=lL g.c;have h2:=CF (R:=RR cs ls) (l:=b8 0 cs);have:(b8 0 cs).length*(b8 0 cs).length<=16*16:=UI h1 h1;omega
def EK(h4:l.length<=4)(h:∀z∈l,∃t u,z=.tup [t,u]/\Nu t/\Nu u):Tl l:=by
 have hh:∀t∈l,noL t=ZC/\t.pl=ZC/\t.dep<=8:=λz hz=>by obtain⟨t,u,rfl,h1,h2⟩:=h z hz;have a:=h1.fl;have b:=h2.fl;refine⟨by simp[noL,noLs,a.2.2,b.2.2],by simp[T.pl,plS,a.1,b.1],?_⟩;simp only[T.dep,deps];omega
 exact⟨jn λt ht=>(hh t ht).1,λt ht=>(hh t ht).2,by omega⟩
def Fd(l:List T):Prop:=∀t∈l,t.pl=ZC/\t.dep<=10
def Fd.app{m:List T}(h:Fd l)(h2:Fd m):Fd (l++m):=λt ht=>(Ox.mp ht).elim (h t) (h2 t)
def Fd.one{t:T}(h:t.pl=ZC)(d:t.dep<=10):Fd [t]:=λu hu=>by rw[Oi.mp hu];exact⟨h,d⟩
theorem yA(a b c:Sl):∀(LS:List (List T))(fd:List T),(∀l∈LS,Tl l)->fd.length+LS.length<=900->qF 5 KO LS [a,b,c,.em,.ow (.lst fd),.em]=.ok (.nx [a,b,c,.em,.ow (.lst (fd++LS.map T.lst)),.em])
 |[],fd,_,_=>by rw[Sh,OS];rfl
 |l::LS,fd,h,hl=>by
  rw[Og]at hl;have hl0:=(h l (.head _)).ln;have e:KO [a,b,c,.em,.ow (.lst fd),.ow (.lst l)]=.ok (.nx [a,b,c,.em,.ow (.lst (fd++[.lst l])),.ow (.lst (l++[.str "zz"]))]):=by refine(aB (lG rfl rfl (by omega))).trans ?_;exact lG rfl rfl (by omega)
  rw[qF];show(KO [a,b,c,.em,.ow (.lst fd),.ow (.lst l)] >>= _)=_;rw[e,ax];show qF 5 KO LS [a,b,c,.em,.ow (.lst (fd++[.lst l])),.em]=_;rw[yA a b c LS (fd++[T.lst l]) (λm hm=>h m (.tail _ hm)) (by rw[Oh,Pl];omega),Of,O8];rfl
variable{F0:T}
def Okk.rcd(h:Okk F0 P A):aD [SV P A]=.ok (lr P)/\GR (lr P):=by obtain⟨P',w,r,e,hr,_⟩:=h.last;rw[e,F6];exact⟨Hz P' A w r,hr⟩
def Okk.gd(h:Okk F0 P A):da [SV P A]=.ok (ku P):=Kd λs hs=>by obtain⟨w,r,e,hr,_⟩:=h.st s (OL _ hs);exact⟨w,r,e,hr⟩
def HV(h:Okk F0 P A)(a c d e:Sl)(fd:List T)(hf:Fd fd)(hl:fd.length<=1000):∃v,toR [a,.va (SV P A),c,d,.ow (.lst fd),e]=.ok (.rt v)/\v.pl=ZC/\v.dep<=20:=by
 obtain⟨er,hr⟩:=h.rcd;have hg:(ku P).pl=ZC/\(ku P).dep<=10:=by
  rcases h.lg with z|z
  .rw[z];exact⟨rfl,by simp[T.dep]⟩
  .exact⟨z.pl,by have:=z.dep;omega⟩
 have hw:Fd (fd++[lr P,ku P,.tup [.int ((P.length:Int) - 1),.int (A.length:Nat)]]):=hf.app λt ht=>by
  simp only[Oj,PF,or_false]at ht;rcases ht with rfl|rfl|rfl
  .exact⟨hr.pl,by have:=hr.dep;omega⟩
  .exact hg
  .exact⟨rfl,by simp[T.dep,deps]⟩
 refine⟨.lst (fd++[lr P,ku P,.tup [.int ((P.length:Int) - 1),.int (A.length:Nat)]]),?_,?_,?_⟩
 .have k3:∀{gm:List T->Rs T}{m:Str}{x:T},(["past","ahead"]:List Str).contains m=ZD->gm [SV P A]=.ok x->mO "Sketch" m gm (vr 1) aj [a,.va (SV P A),c,d,.va (.lst fd),e]=.ok x:=λhm hx=>C0 rfl hm rfl hx;refine zB ?_;show aV _ [a,.va (SV P A),c,d,.va (.lst fd),e]=_;refine bH (aJ rfl (mS (ar (k3 (by decide) er) (ar (k3 (by decide) h.gd) (ar (k3 (by decide) (v7 P A)) rfl))) (aE (k:=3) (by simp))) ?_);show i0 _=_;unfold i0;rw[if_pos];have:=Qk;rw[Oh];simp only[Og,Qr];omega
 .rw[BZ];exact eg λt ht=>(hw t ht).1
 .unfold T.dep;have:=oh λt ht=>(hw t ht).2;omega
def Dv{t:T}(h:t∈ie (b8 0 cs) ZB (ZA 3)):t∈b8 0 cs:=by unfold ie at h;exact SH (SG h)
def ui(l:List T):(ie l ZB (ZA 3)).length<=l.length:=by unfold ie;rw[PQ,QC];omega
def HZ(L:List T)(n:Nat):(stp L n).pl=ZC/\(stp L n).dep<=10:=by
 unfold stp;have hh:∀t∈(rng 0 n).map (λt=>T.int ((L.filter λx=>aW (at_ x 0) t).length:Nat)),t.pl=ZC/\t.dep<=0:=λt ht=>by obtain⟨u,_,rfl⟩:=OJ.mp ht;exact⟨rfl,by simp[T.dep]⟩
 refine⟨by rw[fV];exact eg λt ht=>(hh t ht).1,?_⟩;have:=iF λt ht=>(hh t ht).2;omega
def Ag(g:Good cs ls)(s1 s2 s3 s4 s5:Sl):∃z,strip [.va (RR cs ls),s1,s2,s3,s4,s5]=.va (RR cs ls)::z:=by have hF:noL (RR cs ls)=ZC:=GR.noL ⟨cs,ls,rfl,g⟩;refine⟨[uD s1,uD s2,uD s3,uD s4,uD s5],?_⟩;show [uD (.va (RR cs ls)),uD s1,uD s2,uD s3,uD s4,uD s5]=_;have:uD (.va (RR cs ls))=.va (RR cs ls):=if_pos hF;rw[this]
def J7(g:Good cs ls)(h:Okk F0 P A):∃v,dX [RR cs ls,SV P A]=.ok v/\v.pl=ZC/\v.dep<=20:=by
 have hev:∀x∈b8 0 cs,aw cs x=ZC:=λx hx=>mU hx;have hc16:=lL g.c;generalize hR:RR cs ls=R;have hF:noL R=ZC:=by rw[<-hR];exact GR.noL ⟨cs,ls,rfl,g⟩
 have hsk:∀e∈b8 0 cs,cY [R,e]=.ok (.lst (sk R e))/\Tl (sk R e):=λe he=>by rw[<-hR];exact⟨(AU g (hev e he)).1,KP g (hev e he)⟩
 have hst:∀e∈b8 0 cs,jV [R,e]=.ok (stp (sk R e) cs.length):=λe he=>by rw[<-hR];exact Gv g (hev e he)
 have hup:cv [R]=.ok (.lst (lp R (b8 0 cs)))/\Tl (lp R (b8 0 cs)):=by rw[<-hR];exact⟨AS g,KQ g⟩
 have hst6:∀s1 s2 s3 s4 s5,∃z,strip [.va R,s1,s2,s3,s4,s5]=.va R::z:=by rw[<-hR];exact Ag g
 have e0:b7 [.tup cs]=.ok (.lst (b8 0 cs)):=v5 cs g.c;have hix:o2 aR (vr 0) (cn (.int 0)) [.va R,.va (SV P A),.em,.em,.em,.em]=.ok (.tup cs):=by rw[<-hR];exact my 0 rfl rfl
 obtain⟨L,Q,Rd_⟩:=u5 g;obtain⟨hw,ehw,iffw⟩:=Rd_.NO;rw[show(RR cs ls)=R from hR]at ehw;have hsp:hw=ZC->∃l v,jW [R,.int 0]=.ok (.lst l)/\Tl l/\ff [R]=.ok v/\v.pl=ZC/\v.dep<=9:=λz=>by have n:=iffw.mp z;obtain⟨v,ev,vp,vd⟩:=MJ Rd_ n;obtain⟨l,es,h4,hl⟩:=Gw Rd_ n;rw[show(RR cs ls)=R from hR]at es ev;exact⟨l,v,es,EK h4 hl,ev,vp,vd⟩
 have bK:∀(LS:List (List T))(fd:List T),(∀l∈LS,Tl l)->LS.length<=100->Fd fd->fd.length<=100->∃v,aF (lV 3 5 KO) toR [.va R,.va (SV P A),.va (.lst (b8 0 cs)),.ow (.ll LS),.ow (.lst fd),.em]=.ok (.rt v)/\v.pl=ZC/\v.dep<=20:=λLS fd h1 h2 h3 h4=>by
  rw[aB (Gg rfl (yA _ _ _ LS fd h1 (by omega)))];exact HV h _ _ _ _ _ (h3.app λt ht=>by obtain⟨l,hl,rfl⟩:=OJ.mp ht;have:=(h1 l hl).lst;exact⟨this.1,by omega⟩) (by rw[Oh,Oa];omega)
 have key:∃v,jG [.va R,.va (SV P A),.em,.em,.em,.em]=.ok (.rt v)/\v.pl=ZC/\v.dep<=20:=by
  unfold jG;rw[aB (cK (aH (ar hix rfl) e0) rfl)];have n1:Ky (iS (sl (vr 2) pN (pS (cn (.int 3))))) [ZB,ZA 0] (gN 0) (cl cY (ae (vr 1) (ae (vr 0) aj))) [.va R,.va (SV P A),.va (.lst (b8 0 cs)),.em,.em,.em]=.ok ((ie (b8 0 cs) ZB (ZA 3)).map (sk R)):=
   Me (kx (Ho rfl rfl rfl)) (by have:=ui (b8 0 cs);omega) (by simp) λt ht=>by have he:=Dv ht;show cl cY (ae (vr 1) (ae (vr 0) aj)) [uD (.va t),uD (.va R)]=_;have q1:uD (.va t)=.va t:=if_pos (rE (hev t he));have q2:uD (.va R)=.va R:=if_pos hF;rw[q1,q2];exact aH rfl (hsk t he).1
  have n2:Kz (cl cv (ae (vr 0) aj)) [.va R,.va (SV P A),.va (.lst (b8 0 cs)),.em,.em,.em]=.ok [lp R (b8 0 cs)]:=Mf (by obtain⟨z,ez⟩:=hst6 (.va (SV P A)) (.va (.lst (b8 0 cs))) .em .em .em;rw[ez];exact aH rfl hup.1)
  have hLS:∀l∈(ie (b8 0 cs) ZB (ZA 3)).map (sk R)++[lp R (b8 0 cs)],Tl l:=λl hl=>by
   rcases Ox.mp hl with hl|hl
   .obtain⟨e,he,rfl⟩:=OJ.mp hl;exact(hsk e (Dv he)).2
   .rw[Oi.mp hl];exact hup.2
  have hLl:((ie (b8 0 cs) ZB (ZA 3)).map (sk R)++[lp R (b8 0 cs)]).length<=50:=by rw[Oh,Oa];have:=ui (b8 0 cs);simp only[Og,Qr];omega
  have n3:=JS n1 n2 (by rw[Oa];have:=ui (b8 0 cs);simp only[Og,Qr];omega);generalize (ie (b8 0 cs) ZB (ZA 3)).map (sk R)++[lp R (b8 0 cs)]=LS at hLS hLl n3;rw[aB (Z':=[.va R,.va (SV P A),.va (.lst (b8 0 cs)),.ow (.ll LS),.em,.em]) (Gd n3 (by simp) (OQ.mpr λl hl=>(hLS l hl).no))];have hfd:Fd ((b8 0 cs).map λe=>stp (sk R e) cs.length):=λt ht=>by obtain⟨e,_,rfl⟩:=OJ.mp ht;exact HZ _ _
  have hfl:((b8 0 cs).map λe=>stp (sk R e) cs.length).length<=16:=by rw[Oa];exact hc16
  have n4:fE (iS (vr 2)) [ZB,ZA 0] (gN 0) bT (cl jV (ae (vr 1) (ae (vr 0) aj))) [.va R,.va (SV P A),.va (.lst (b8 0 cs)),.ow (.ll LS),.em,.em]=.ok (.lst ((b8 0 cs).map λe=>stp (sk R e) cs.length)):=
   nE (kx rfl) (aE hc16) (by simp) λt ht=>aH rfl (hst t ht)
  generalize (b8 0 cs).map (λe=>stp (sk R e) cs.length)=fd at hfd hfl n4;rw[aB (Z':=[.va R,.va (SV P A),.va (.lst (b8 0 cs)),.ow (.ll LS),.ow (.lst fd),.em]) (by unfold oN;rw[n4];rfl)]
  have tw:tb (cl aZ (ae (vr 0) aj)) [.va R,.va (SV P A),.va (.lst (b8 0 cs)),.ow (.ll LS),.ow (.lst fd),.em]=.ok hw:=bW (aH rfl ehw);cases hw with
  |false=>
   rw[aB ((eE tw).trans rfl)];exact bK LS fd hLS (by omega) hfd (by omega)
  |true=>
   obtain⟨l,v,es,tl,ev,vp,vd⟩:=hsp rfl;obtain⟨z,ez⟩:=hst6 (.va (SV P A)) (.va (.lst (b8 0 cs))) (.ow (.ll LS)) (.ow (.lst fd)) .em;have s1:lW 3 (cl jW (ae (vr 0) (ae (cn (.int 0)) aj))) [.va R,.va (SV P A),.va (.lst (b8 0 cs)),.ow (.ll LS),.ow (.lst fd),.em]=.ok (.nx [.va R,.va (SV P A),.va (.lst (b8 0 cs)),.ow (.ll (LS++[l])),.ow (.lst fd),.em]):=Gh rfl (by rw[ez];exact aH rfl es) (by omega) tl.no;have s2:gF 4 (cl ff (ae (vr 0) aj)) [.va R,.va (SV P A),.va (.lst (b8 0 cs)),.ow (.ll (LS++[l])),.ow (.lst fd),.em]=.ok (.nx [.va R,.va (SV P A),.va (.lst (b8 0 cs)),.ow (.ll (LS++[l])),.ow (.lst (fd++[v])),.em]):=lG (aH rfl ev) rfl (by omega);rw[aB ((eU tw).trans ((aB s1).trans s2))];refine bK (LS++[l]) (fd++[v]) (λm hm=>(Ox.mp hm).elim (hLS m) λz=>by rw[Oi.mp z];exact tl) (by rw[Oh,Pl];omega) (hfd.app (.one vp (by omega))) (by rw[Oh,Pl];omega)
 obtain⟨v,ev,vp,vd⟩:=key;exact⟨v,a0 rfl ev,vp,vd⟩
def Kf{t:T}(h:GR r)(hx:bw [r,t]=.err d):bX [.ow (SK (P++[sp w r]) A),.va t]=.err d:=
 nX rfl (C6 rfl (aH (ar (mR rfl h) rfl) hx))
def Ay(g:Good cs ls):bY [RR cs ls,.non]=.err "NoRecord":=by
 have hl:=g.n;rw[lq g.parts.1 g.pls (by omega) rfl g.ok];unfold lX;have:dA (.tup [.tup cs,.tup (ls++[.non])])=ZD:=by show(aX (.tup cs)&&(dt (.tup (ls++[.non])) 0 8&&(ls++[T.non]).all (bp cs)))=ZD;rw[S1];have:([T.non].all (bp cs))=ZD:=rfl;rw[this];simp
 rw[this];rfl
def Ju(g:Good cs ls):bw [RR cs ls,.int (-1)]=.err "NoNumber":=by refine pM rfl ?_;show cU [.va (RR cs ls),.va (.int (-1)),.em]=_;unfold cU;rw[aB (hZ (aH rfl (di g.p g.ok)))];rw[aB (cK (my 1 rfl rfl) rfl)];exact CV (Hs (aH (ar (aH rfl rfl) rfl) (AD rfl (by unfold a6;simp))))
def FX(g:Good cs ls):bO [RR cs ls,.int 0,.int (-1)]=.err "NoRecord":=by
 obtain⟨x,y,r,c0,c1,c4⟩:=pT g (n:=0) (by have:=(bf g.c).2.1;omega);have hp:(T.tup (r.map T.int)).pl=ZC:=by rw[fV];exact eg λt ht=>by obtain⟨i,_,rfl⟩:=OJ.mp ht;rfl
 have e:=kn (u:=.int (-1)) g (by have:=(bf g.c).2.1;omega) c0 (by rw[Oa];exact c4) rfl rfl hp rfl;refine Eq.trans e ?_;have hb:bj (.tup [.int x,.int y,.tup (r.map T.int++[.int (-1)])])=ZD:=by
  have hw:((r.map T.int++[T.int (-1)]).all λu=>a6 u 0 99)=ZD:=by rw[S1];have:([T.int (-1)].all λu=>a6 u 0 99)=ZD:=rfl;rw[this,Re]
  show(dt _ 3 3&&(qu (.int x) (.int y)&&(dt _ 1 4&&(((r.map T.int++[T.int (-1)]).all λu=>a6 u 0 99)&&_))))=ZD;rw[hw,RG,Re,Re,Re]
 have hc:dA (.tup [.tup (lZ cs 0 (.tup [.int x,.int y,.tup (r.map T.int++[.int (-1)])])),.tup ls])=ZD:=by
  have ha:(lZ cs 0 (.tup [.int x,.int y,.tup (r.map T.int++[.int (-1)])])).all bj=ZD:=by
   unfold lZ;rw[S1,S1];have:([T.tup [.int x,.int y,.tup (r.map T.int++[.int (-1)])]].all bj)=ZD:=by rw[SJ,hb,RG]
   rw[this,Re,RG]
  show((dt _ 1 4&&(lZ cs 0 _).all bj)&&_)=ZD;rw[ha,Re,RG]
 unfold lX;rw[hc];rfl
def Cq:eh [.ow (SK P [])]=.err "Nothing":=by refine nX rfl ?_;show gn [.ow (SK P []),.em]=_;unfold gn;have hb:Bd 0 (tb (o2 j6 (o1 (nG "Sketch" "ahead") (vr 0)) (gc aj))) [.ow (SK P []),.em]=.ok ZC:=C4 (bW (aJ (vN rfl (zH _ _)) (mS rfl (aE (k:=0) (by simp))) (ud rfl (by simp[T.dep,deps]))));unfold jt AF;rw[hb];rfl
noncomputable abbrev MW(k:Int)(P:List T):En:=[.va (.int k),.va (SV P []),.em]
def Okk.vm(h:Okk F0 P []){k:Int}{m:Str}{fs:W3}(hm:(["past","ahead"]:List Str).contains m=ZD)(hs:fs (MW k P)=.ok as)(ha:noLs as=ZC)(hg:g (.ow (SK P [])::as.map Sl.va)=.err d):EH (iO 1 "Sketch" m g fs) (MW k P)=.err d:=by refine L7 (Gb rfl rfl hs hm ?_ ha hg);have hP:noLs P=ZC:=jn λs hs=>(h.st s (OL _ hs)).noL;simp only[SJ,List.all_nil,hP,U7,Ry];rfl
def lM(k n:Int)(P:List T):tb (o2 j6 (vr 0) (cn (.int n))) (MW k P)=.ok (decide (k=n)):=by refine bW (aJ rfl rfl ?_);have:j6 (.int k) (.int n)=.ok (.bl (k == n)):=rfl;rw[this,Ui]
def MI(h:Okk F0 P [])(k:Nat)(hk:k<4):cR [.int (k:Nat),SV P []]=.ok (.bl ZC):=by
 obtain⟨P',w,r,e,hr,_⟩:=h.last;have hr':=hr;obtain⟨cs,ls,rfl,g⟩:=hr';have w0:bB [.ow (SK P []),.va .non]=.err "NoRecord":=by rw[e];exact vY hr (Ay g)
 have w1:bX [.ow (SK P []),.va (.int (-1))]=.err "NoNumber":=by rw[e];exact Kf hr (Ju g)
 have w2:bM [.ow (SK P []),.va (.int 0),.va (.int (-1))]=.err "NoRecord":=by rw[e];exact zK hr (FX g)
 refine a0 rfl ?_;show gi (MW (k:Nat) P)=_;unfold gi;have cases4:k=0\/k=1\/k=2\/k=3:=by omega
 rcases cases4 with rfl|rfl|rfl|rfl
 .exact tU ((xI (lM _ _ _)).trans (h.vm (by decide) rfl rfl w0)) rfl
 .exact tU ((mx (lM _ _ _)).trans ((xI (lM _ _ _)).trans (h.vm (by decide) rfl rfl w1))) rfl
 .exact tU ((mx (lM _ _ _)).trans ((mx (lM _ _ _)).trans ((xI (lM _ _ _)).trans (h.vm (by decide) rfl rfl w2)))) rfl
 .exact tU ((mx (lM _ _ _)).trans ((mx (lM _ _ _)).trans ((mx (lM _ _ _)).trans (h.vm (by decide) rfl rfl Cq)))) rfl
def Okk.NV(h:Okk F0 P [])(hn:ns.length<=63)(a:Nat)(hl:P.length<39):∃P',cW [.va (.scr ns),.va (.int (a:Nat)),.ow (SK P [])]=.ok (.non,SK P' [])/\Okk F0 P' []/\P'.length<=P.length+1:=by
 obtain⟨P0,w,r,rfl,hr,hw⟩:=h.last;obtain⟨o,e,hs⟩:=J8 ns hn a (P:=P0) hr (by simp at hl ⊢;omega);rcases hs with rfl|⟨v,r',hv,hr',rfl⟩
 .exact⟨_,e,h,by omega⟩
 .refine⟨_,e,⟨?_,λs hs=>?_,by simp at hl ⊢;omega⟩,by simp⟩
  .obtain⟨P',e'⟩:=h.bt;exact⟨P'++[sp (.str v) r'],by rw[e'];rfl⟩
  .rw[OS]at hs;rcases Ox.mp hs with z|z
   .exact h.st s (OL _ z)
   .rw[Oi.mp z];exact⟨_,_,rfl,hr',.inr ⟨v,rfl⟩⟩
noncomputable abbrev LE(ns:List Int)(F:T)(o:OT)(k f:Sl):En:=[.va (.scr ns),.va F,.ow o,.ow (SK [sp .non F] []),k,f]
theorem yD{F:T}(hn:ns.length<=63):∀(js:List Nat){P:List T}(k:Sl),Okk F P []->P.length+js.length<=30->∃P' k',Okk F P' []/\bq (gN 4) stF (js.map λ(j:Nat)=>T.int j) (LE ns F (SK P []) k .em)=.ok (.nx (LE ns F (SK P' []) k' .em))
 |[],P,k,h,_=>⟨P,k,h,rfl⟩
 |j::js,P,k,h,hl=>by rw[Og]at hl;obtain⟨P1,e1,h1,l1⟩:=h.NV hn (80+10*j) (by omega);obtain⟨P2,k2,h2,e2⟩:=yD hn js (.va (.int (j:Nat))) h1 (by omega);refine⟨P2,k2,h2,?_⟩;rw[Of,eC rfl ?_,e2];refine Mq (JM (ts:=[.scr ns,.int ((80+10*j:Nat):Int)]) rfl (ar rfl (ar (aJ rfl (aJ rfl rfl (mM (by omega) (by omega))) ?_) rfl)) e1);show Rs.ok (T.int (80+10*(j:Int)))=_;rw[show(80+10*(j:Int))=((80+10*j:Nat):Int)by omega]
def pure_law(ns:List Int)(hn:ns.length<=63):m_law [.scr ns]=.ok (.bl ZC):=by
 refine a0 rfl ?_;show Ef [.va (.scr ns),.em,.em,.em,.em,.em]=_;unfold Ef;obtain⟨cs,ls,e0,hc,h3,hs,hl,h2⟩:=Ke ns hn 0 4 (by omega);obtain⟨hr,hsm⟩:=Ii hc hs hl (by omega);have hF:GR (RR cs ls):=GR.of (yH _ hsm) hr;have g:Good cs ls:=yJ hr (yH _ hsm);rw[aB (cK (aH rfl e0) rfl)];have ht:=λ{P A:List T}(h:Okk (RR cs ls) P A)=>J7 g h;generalize RR cs ls=F at hF ht;rw[aB (C1 rfl (Dy hF) (by simp))];rw[aB (Z':=LE ns F (SK [sp .non F] []) .em .em) (C1 rfl (Dy hF) (by simp))];obtain⟨d,ed,d0,d1⟩:=cH ns 70 4 hn (by omega);obtain⟨d,rfl⟩:=OP d0;obtain⟨P,k,h,e⟩:=yD hn (PJ (1+d)) .em (Okk.first hF) (by simp;omega);rw[<-nQ]at e;rw[aB (gA (Gk (ar (aJ rfl (aH rfl ed) rfl) rfl) (by omega) (by omega)) e)];obtain⟨v,ev,vp,vd⟩:=ht h;rw[aB (Z':=[.va (.scr ns),.va F,.va (SV P []),.ow (SK [sp .non F] []),k,.va v]) (zB (cK (aH rfl ev) rfl))];have lc:fE (iR (ae (cn (.int 4)) aj)) [ZB,ZA 2] (gN 0) bT (cl cR (ae (vr 0) (ae (vr 1) aj))) [.va (.scr ns),.va F,.va (SV P []),.ow (SK [sp .non F] []),k,.va v]=.ok (.lst ((rng 0 (4:Nat)).map λ_=>T.bl ZC)):=
  nE (Gk rfl (by omega) (by omega)) (by rw[iu];exact aE (k:=4) (by omega)) (by simp) λt ht=>by obtain⟨j,rfl,hj⟩:=ir ht;exact aH rfl (MI h j (by omega))
 have tin:tb (o2 Hu (cn (.bl ZD)) (fE (iR (ae (cn (.int 4)) aj)) [ZB,ZA 2] (gN 0) bT (cl cR (ae (vr 0) (ae (vr 1) aj))))) [.va (.scr ns),.va F,.va (SV P []),.ow (SK [sp .non F] []),k,.va v]=.ok ZD:=bW (aJ rfl lc rfl);rw[aB ((eE tin).trans rfl)];have tne:tb (o2 wG (cl dX (ae (vr 1) (ae (vr 2) aj))) (vr 5)) [.va (.scr ns),.va F,.va (SV P []),.ow (SK [sp .non F] []),k,.va v]=.ok ZD:=bW (aJ (aH rfl ev) rfl (FZ vp (by omega)));rw[aB ((eE tne).trans rfl)];refine bH ?_;have r1:ln 3 (mO "Sketch" "record" aD (vr 3) aj) [.va (.scr ns),.va F,.va (SV P []),.ow (SK [sp .non F] []),k,.va v]=.ok F:=mR (P:=[]) rfl hF;have r2:ln 3 (mO "Sketch" "counts" bh (vr 3) aj) [.va (.scr ns),.va F,.va (SV P []),.ow (SK [sp .non F] []),k,.va v]=.ok (.tup [.int 0,.int 0]):=Mr (P:=[sp .non F]) (A:=[]) rfl;have hd:=hF.dep;have a1:o2 j6 (ln 3 (mO "Sketch" "record" aD (vr 3) aj)) (vr 1) [.va (.scr ns),.va F,.va (SV P []),.ow (SK [sp .non F] []),k,.va v]=.ok (.bl ZC):=aJ r1 rfl (ud hF.pl (by omega));have a2:o2 j6 (ln 3 (mO "Sketch" "counts" bh (vr 3) aj)) (ba (ae (cn (.int 0)) (ae (cn (.int 0)) aj))) [.va (.scr ns),.va F,.va (SV P []),.ow (SK [sp .non F] []),k,.va v]=.ok (.bl ZC):=aJ r2 (cq rfl (aE (k:=2) (by simp))) (ud rfl (by simp[T.dep,deps]));unfold dD;rw[a1];exact a2
end G
end
open PySem PySem.W PyProof.Rows
set_option maxRecDepth 100000 in
set_option maxHeartbeats 0 in
theorem PySem.Challenge.cw_farclocks_k96_again_and_handed_holds : PySem.Challenge.rw_farclocks_k96_again_and_handed.Holds := by
  w_on; o_law
  refine holds_open (q :=G.vw) (loose :=G.lse) (Xt :=λ_ =>true) (XP :=λ_ _ =>True) (Yf :=(Tr.hookC G.asks G.top).obs) (Ya :=(Tr.hookC G.asks G.top).val) (YP :=(Tr.hookC G.asks G.top).says) (N :=9000) (Tr.left_of (by rfl) (by rfl) (λ_ =>rfl) λw os =>?hl) (Tr.hookC G.asks G.top).of (Tr.hookC G.asks G.top).keeps (λ_ _ =>trivial) (λ_ _ _ _ _ =>trivial) (by rfl) (by rfl) (by rfl) (λs _ =>recFacts_of (s :=s) rfl) (by rfl) (by assumption) (by decide +kernel) ⟨rfl, rfl, rfl, rfl, rfl, by decide +kernel⟩ ?hw ?hc
  case hl =>exact G.NR w os
  case hw =>w_witness2
  case hc =>exact Tr.walk_c (n :=63) (k :=19) (x := "_law_script") (CX :=L2.CX0) (sp :=λK =>Tr.spP K 1 G.m_law) rfl (by decide) rfl ⟨rfl, by decide, by decide⟩ (λw K mg fa h X e g hf =>G.all_ok X e g hf) (λK H a ns hl _ hS =>Tr.sp_script hS (G.pure_law ns hl)) λ_ _ _ _ z =>z
